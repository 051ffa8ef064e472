/-
  rs.New: a Codec. No condition.
-/
import Derived.Test.YtdofegphipbcdaaAsks
import Derived.Test.YtdofegphipbcdaaSyn
import Derived.Deep.RegionLaw
namespace Go.Proofs.Ytdofegphipbcdaa
open Go.RowKit
set_option maxRecDepth 100000

/-- A Codec's cells: the Field's address, the generator, the roots. -/
def crow (b : Nat) (G R : List Nat) : Array Value := (Value.pointer (some ⟨b, 0, none⟩) :: ((G ++ R).map fun (n : Nat) => Value.int .u8 (n : Int))).toArray
def Crw (w : World) (q b : Nat) (G R : List Nat) : Prop := w.heap[q]? = some (.cells (crow b G R) 76)
theorem Crw.lt {w : World} {q b : Nat} {G R : List Nat} (h : Crw w q b G R) : q < w.heap.size := (Array.getElem?_eq_some_iff.1 h).1
theorem Crw.ptr {w : World} {q b : Nat} {G R : List Nat} (h : Crw w q b G R) : w.cell? ⟨q, 0, none⟩ = some (.pointer (some ⟨b, 0, none⟩)) := by
  rw [cell_of_row w q 0 _ _ _ h]; simp [crow]
theorem Crw.frozen {w : World} {q b : Nat} {G R : List Nat} (h : Crw w q b G R) (i : Nat) : w.frozen? ⟨q, i, none⟩ = false := frozen_of_row w q i _ _ h
theorem Crw.but {w w' : World} {q b : Nat} {G R : List Nat} (h : Crw w q b G R) (hB : But b w w') (hq : q ≠ b) : Crw w' q b G R := (hB.block q h.lt hq).trans h
theorem Crw.alloc {w : World} {q b : Nat} {G R : List Nat} (h : Crw w q b G R) (o : Obj) : Crw (w.alloc o) q b G R := (Below.heap_alloc _ _ _ h.lt).trans h
theorem Crw.drew {w : World} {q b : Nat} {G R : List Nat} (h : Crw w q b G R) : Crw w.drew q b G R := h
theorem Crw.root {w : World} {q b : Nat} {G R : List Nat} (h : Crw w q b G R) (hG : G.length = 6) (i : Nat) (hi : i < R.length) : w.cell? ⟨q, 7 + i, none⟩ = some (.int .u8 (R.getD i 0 : Nat)) := by
  rw [cell_of_row w q _ _ _ _ h, show 7 + i = (6 + i) + 1 from by omega]
  simp only [crow, List.map_append, List.getElem?_toArray, List.getElem?_cons_succ]
  rw [List.getElem?_append_right (by simp [hG]), List.length_map, hG, show 6 + i - 6 = i from by omega]
  simp [List.getD_eq_getElem?_getD, List.getElem?_eq_getElem hi]
theorem Crw.store {w : World} {q b : Nat} {G R : List Nat} (h : Crw w q b G R) (hG : G.length = 6) (i v : Nat) : Crw (w.setCell ⟨q, 7 + i, none⟩ (.int .u8 (v : Int))) q b G (R.set i v) := by
  have h' : w.heap[q]? = some (.cells (crow b G R) 76) := h
  show (w.setCell ⟨q, 7 + i, none⟩ (.int .u8 (v : Int))).heap[q]? = _
  have e : (crow b G R).setIfInBounds (7 + i) (.int .u8 (v : Int)) = crow b G (R.set i v) := by
    apply Array.ext'
    rw [Array.toList_setIfInBounds]
    simp only [crow]
    rw [show 7 + i = (6 + i) + 1 from by omega, List.set_cons_succ, List.map_append, List.map_append, List.set_append_right _ _ (by simp [hG]), List.length_map, hG, show 6 + i - 6 = i from by omega, List.map_set]
  simp [World.setCell, Array.getElem?_modify, h', e]
theorem Crw.cod {w : World} {q b : Nat} (h : Crw w q b gl rl) (hF : Fld w b) : Cod w q b := ⟨hF, h⟩
def z70 : List Nat := List.replicate 70 0
theorem build57 (b : Nat) (w : World) : (Instr.build 76 #[(0, .pointer (some ⟨b, 0, none⟩))]).run Try.prog w = .ok (.agg (crow b z6 z64)) w := by kernel_rfl

/-- The product of the first k factors. -/
def prod : Nat → List Nat
  | 0 => [1]
  | k + 1 => tm (prod k) [1, ex k]
theorem prod_length (k : Nat) : (prod k).length = k + 1 := by
  induction k with
  | zero => rfl
  | succ k ih => show (tm _ _).length = _; rw [tm_length _ _ (by omega) (by simp), ih]; rfl
theorem prod_bys (k : Nat) : Bys (prod k) := by
  cases k with
  | zero => intro n hn; simp [prod] at hn; omega
  | succ k => exact tm_bys _ _
theorem prod_six : prod 6 = 1 :: gl := by decide +kernel
/-- The first k roots. -/
def rts (k : Nat) : List Nat := (List.range 64).map fun i => if i < k then rt i else 0
theorem rts_length (k : Nat) : (rts k).length = 64 := by simp [rts]
theorem rts_zero : rts 0 = z64 := by simp [rts]; rfl
theorem rts_all : rts 64 = rl := by
  apply List.map_congr_left
  intro i hi
  rw [if_pos (List.mem_range.1 hi)]
theorem rts_set (n : Nat) : (rts n).set n (rt n) = rts (n + 1) := by
  apply List.ext_getElem?
  intro k
  by_cases h : n = k
  · subst h
    by_cases h5 : n < 64
    · rw [List.getElem?_set_self (by rw [rts_length]; exact h5)]
      simp [rts, h5]
    · rw [List.getElem?_eq_none (by simp [rts]; omega), List.getElem?_eq_none (by simp [rts]; omega)]
  · rw [List.getElem?_set_ne h]
    by_cases h5 : k < 64
    · simp only [rts, List.getElem?_map, List.getElem?_range h5, Option.map_some]
      congr 1
      by_cases h6 : k < n
      · rw [if_pos h6, if_pos (by omega)]
      · rw [if_neg h6, if_neg (by omega)]
    · rw [List.getElem?_eq_none (by simp [rts]; omega), List.getElem?_eq_none (by simp [rts]; omega)]

theorem step_copy_crw {ops : Array Oper} {o : Oper} {a : Act} {w : World} {K : Act → World → Prop} {Q : Exit → Act → World → Prop} {E : Prop} (hgd : o.guard = none) (d s : Operand)
    (ho : o.op = .call { callee := .builtin .copy, args := #[d, s], argTypes := #[22, 22] }) (g c oo sLen sCap : Nat) (hd : a.eval d = .slice (some ⟨g, 1, none⟩) 6 6) (hs : a.eval s = .slice (some ⟨c, oo, none⟩) sLen sCap)
    {b : Nat} {G R : List Nat} (hg : Crw w g b G R) (hG : G.length = 6) (src : List Nat) (h6 : src.length = 6) (hn : 6 = Nat.min sLen 6) (hsrc : ∀ j, j < src.length → w.cell? ⟨c, oo + j, none⟩ = some (.int .u8 (src.getD j 0 : Nat)))
    (h : ∀ w', Crw w' g b src R → One g w w' → K (a.put o.dst (goInt src.length)) w') :
    if Region.wanted o (yielded ops a.tmps) = true then Oper.wp Try.prog o a w K Q else E := by
  have hw : Region.wanted o (yielded ops a.tmps) = true := by simp [Region.wanted, hgd]
  rw [if_pos hw]
  have hrun := run_copy_row (P := Try.prog) w 22 22 o.type 5 g 1 6 6 ⟨c, oo, none⟩ sLen sCap (crow b G R) 76 (src.map fun (n : Nat) => Value.int .u8 (n : Int)) Try.underlying22 size5 hg (by rw [List.length_map, h6]; exact hn) (src_cells hsrc) (by simp [crow, hG, h6]) (one_cells src)
  have e : ((crow b G R).toList.take 1 ++ (src.map fun (n : Nat) => Value.int .u8 (n : Int)) ++ (crow b G R).toList.drop (1 + (src.map fun (n : Nat) => Value.int .u8 (n : Int)).length)).toArray = crow b src R := by
    simp only [crow, List.length_map, h6]
    congr 1
    simp only [List.map_append, List.take_succ_cons, List.take_zero, List.cons_append, List.nil_append, show 1 + 6 = 6 + 1 from rfl, List.drop_succ_cons]
    rw [List.drop_append_of_le_length (by simp [hG]), List.drop_eq_nil_of_le (by simp [hG]), List.nil_append]
  rw [e, List.length_map] at hrun
  unfold Oper.wp
  simp [execOp, ho, resolve, invoke, builtin, hd, hs, hrun, Result.andThen]
  exact h _ (setRow_heap w g _ _ 76 _ hg) (One.row w g _)
theorem exZ_rt (i : Nat) (h : i < 64) : exZ (63 - (i : Int)) = rt i := by
  unfold exZ rt
  congr 1
  omega

set_option maxHeartbeats 4000000 in
theorem codec_new (w : World) :
    Calls Try.prog 27 #[] w fun e w' => ∃ q b, e = .returned (.pointer (some ⟨q, 0, none⟩)) ∧ w.heap.size ≤ q ∧ w.heap.size ≤ b ∧ Cod w' q b ∧ Chg (fun _ => False) w w' := by
  have hbd := build57
  go_enter Try.func27, Try.ntmps27
  go_wp2_with (first | (go_at_call 39; refine (new_any _).mono ?_; rintro e w' ⟨rfl, rfl⟩))
  clear hbd
  go_loopw [2, 9] (fun p t wr => ∃ k g : Nat, k ≤ 6 ∧ t = .int .i64 k ∧ p = .slice (some ⟨g, 0, none⟩) (k + 1) (k + 1) ∧ Bat wr g (prod k) ∧ g ≠ w.heap.size ∧ Crw wr (w.heap.size + 1) w.heap.size z6 z64 ∧ Fld wr w.heap.size ∧ Chg (fun _ => False) w wr) (fun _ t _ => 6 - (intOf t).toNat)
  case atStart =>
    have ez : Try.zeroCells76.setIfInBounds 0 (.pointer (some ⟨w.heap.size, 0, none⟩)) = crow w.heap.size z6 z64 := by kernel_rfl
    rw [ez]
    have c1 : Crw ((w.alloc (.cells (fcells 0 0 0) 105)).alloc (.cells (crow w.heap.size z6 z64) 76)) (w.heap.size + 1) w.heap.size z6 z64 := by
      have h1 := heap_alloc_new (w.alloc (.cells (fcells 0 0 0) 105)) (.cells (crow w.heap.size z6 z64) 76)
      rw [show (w.alloc (.cells (fcells 0 0 0) 105)).heap.size = w.heap.size + 1 from by simp] at h1
      exact h1
    have f1 := ((Fld.new w).alloc (.cells (crow w.heap.size z6 z64) 76)).alloc (.cells (bcells [1]) 5)
    have p1 := Bat.new ((w.alloc (.cells (fcells 0 0 0) 105)).alloc (.cells (crow w.heap.size z6 z64) 76)) [1]
    rw [show ((w.alloc (.cells (fcells 0 0 0) 105)).alloc (.cells (crow w.heap.size z6 z64) 76)).heap.size = w.heap.size + 1 + 1 from by simp] at p1
    exact ⟨0, w.heap.size + 1 + 1, by omega, rfl, rfl, p1, by omega, c1.alloc _, f1, (((Chg.refl _ _).alloc _).alloc _).alloc _⟩
  case round =>
    obtain ⟨k, g, hk, rfl, rfl, hP, hgb, hQ, hF, hG⟩ := hrel
    have hpl := prod_length k
    have hpb := prod_bys k
    have hqb : w.heap.size + 1 ≠ w.heap.size := by omega
    by_cases hlt : k < 6
    · have c3 := hQ.ptr
      have hkb4 : (0 : Int) ≤ (k : Int) := by omega
      have hkb5 : (k : Int) < 6 := by omega
      have HE := hyd (exZ_nat k (by omega))
      have HPr : Hid (prod (k + 1) = tm (prod k) [1, ex k]) := rfl
      have HPL := hyd hpl
      clear hpl
      have hxk := ex_lt k
      generalize ex k = y at *
      generalize prod k = pk at *
      have hqs := hQ.lt
      have hgs := hP.lt
      have h2b : Bys [1, y] := by intro n hn; simp at hn; omega
      go_wp2_with fail
      go_region_held3 (fun wx => wx.cell? ⟨w.heap.size + 1, 0, none⟩ = some (.pointer (some ⟨w.heap.size, 0, none⟩)))
        (first | exact c3 | exact c4 | exact c5 | exact c6)
        (first | (go_at_call 41; refine (exp_any w.heap.size _ ?_ _).mono ?_; (exact hF.drew); rintro e w1 ⟨rfl, hF1, hB1⟩; rw [HE.out]; have hQ1 : Crw w1 (w.heap.size + 1) w.heap.size z6 z64 := (hQ.drew.but hB1 hqb); have c4 := hQ1.ptr; have c5 := (hQ1.alloc (.cells (bcells [1, y]) 5)).ptr; have hP1 : Bat w1 g pk := (hP.drew.but hB1 hgb)) | (go_at_call 40; refine (times_any w.heap.size _ (hF1.alloc _) (some ⟨g, 0, none⟩) (some ⟨w1.heap.size, 0, none⟩) (k + 1) (k + 1) 2 2 pk [1, y] HPL.out.symm rfl ?_ ?_ ?_ ?_).mono ?_; (have := HPL.out; omega); (simp); (exact (hP1.rd hpb hgb).but ((But.refl _ _).alloc _)); (exact (Bat.new w1 [1, y]).rd h2b (by have := hF1.lt; omega)); rintro e w2 ⟨at_, m, rfl, hm, hor, hF2, hB2⟩; have hQ2 : Crw w2 (w.heap.size + 1) w.heap.size z6 z64 := ((hQ1.alloc _).but hB2 hqb); have c6 := hQ2.ptr))
      all_goals
        rcases hor with ⟨h0, -⟩ | ⟨-, -, rfl, hP2⟩
        · omega
        · have htl : (tm pk [1, y]).length = k + 2 := by rw [tm_length _ _ (by have := HPL.out; omega) (by simp), HPL.out]; rfl
          have hG2 : Chg (fun _ => False) w w2 := ((hG.drew.trans' hB1.chg (fun i hi e => by omega)).alloc _).trans' hB2.chg (fun i hi e => by omega)
          have hgs2 : w1.heap.size + 1 ≠ w.heap.size := by have := hF1.lt; omega
          rw [← HPr.out] at hP2
          rw [htl]
          go_wp2
          exact ⟨⟨k + 1, _, by omega, by go_num, rfl, hP2, by simpa using hgs2, hQ2, hF2, hG2⟩, by simp [intOf]; omega⟩
    · have e6 : k = 6 := by omega
      subst e6
      have hP6 : Bat wr g (1 :: gl) := by rw [← prod_six]; exact hP
      clear hP hpl hpb hlt hk
      have hsrc : ∀ j, j < gl.length → wr.drew.cell? ⟨g, 1 + j, none⟩ = some (.int .u8 (gl.getD j 0 : Nat)) := fun j hj => by
        have h1 := hP6.drew.cell (1 + j) (by simp; omega)
        rw [Nat.add_comm 1 j] at h1 ⊢
        exact h1
      have HSRC := hyd hsrc
      have hgs := hP6.lt
      clear hsrc hP6
      go_wp2_with fail
      simp only [Nat.reduceAdd]
      generalize Try.zeroCells76.setIfInBounds 0 (Value.pointer (some ⟨w.heap.size, 0, none⟩)) = zz
      go_region_law (refine step_copy_crw (g := w.heap.size + 1) (c := g) (oo := 1) (sLen := 6) (sCap := 6) (src := gl) (b := w.heap.size) (G := z6) (R := z64) rfl (.tmp 29) (.tmp 31) rfl (by simp [Act.eval, Act.put]) (by simp [Act.eval, Act.put]) hQ.drew rfl rfl rfl HSRC.out ?_; intro w2 hQ2 hX2)
      have hF2 : Fld w2 w.heap.size := hF.drew.other (hX2.block _ (by omega))
      have hG2 : Chg (fun _ => False) w w2 := ⟨hX2.os.trans hG.os, hX2.tape.trans hG.tape, hX2.output.trans hG.output, by rw [hX2.size]; exact hG.size, fun i hi hs => (hX2.block i (by omega)).trans (hG.block i hi hs)⟩
      clear hX2 hQ hF hG HSRC
      go_wp2_with fail
      go_loopw [33] (fun t wx => ∃ i : Nat, i ≤ 64 ∧ t = .int .i64 i ∧ Crw wx (w.heap.size + 1) w.heap.size gl (rts i) ∧ Fld wx w.heap.size ∧ Chg (fun _ => False) w wx) (fun t _ => 64 - (intOf t).toNat)
      case atStart => exact ⟨0, by omega, rfl, by rw [rts_zero]; exact hQ2, hF2, hG2⟩
      case round =>
        clear hQ2 hF2 hG2
        obtain ⟨i, hi, rfl, hQ, hF, hG⟩ := hrel
        by_cases hlt : i < 64
        · have c3 := hQ.ptr
          have hkb4 : (0 : Int) ≤ (i : Int) := by omega
          have hkb5 : (i : Int) < 64 := by omega
          have HE := hyd (exZ_rt i hlt)
          have HS := hyd (rts_set i)
          go_wp2_with fail
          have hwr : IntKind.i64.wrap (63 - (i : Int)) = 63 - (i : Int) := by rw [IntKind.wrap_i64]; omega
          go_region_held3 (fun wx => wx.cell? ⟨w.heap.size + 1, 0, none⟩ = some (.pointer (some ⟨w.heap.size, 0, none⟩)))
            (first | exact c3 | exact c4 | exact c5)
            (first | (go_at_call 41; refine (exp_any w.heap.size _ ?_ (63 - (i : Int))).mono ?_; (exact hF.drew); rintro e w1 ⟨rfl, hF1, hB1⟩; rw [HE.out]; have hQ1 : Crw w1 (w.heap.size + 1) w.heap.size gl (rts i) := (hQ.drew.but hB1 hqb); have c4 := hQ1.ptr; have r1 := hQ1.root rfl i (by rw [rts_length]; omega); have f1 := hQ1.frozen (7 + i); have hQ2 : Crw (w1.setCell ⟨w.heap.size + 1, 7 + i, none⟩ (.int .u8 (rt i : Nat))) (w.heap.size + 1) w.heap.size gl (rts (i + 1)) := (by rw [← HS.out]; exact hQ1.store rfl i (rt i)); have c5 := hQ2.ptr))
          all_goals
            have hG1 : Chg (fun _ => False) w w1 := hG.drew.trans' hB1.chg (fun i hi e => by omega)
            clear c3 c4 c5 r1 f1 hwr
            go_wp2
            exact ⟨⟨i + 1, by omega, by go_num, hQ2, hF1.setOther (by omega) _ _, hG1.setCell (Or.inr (by omega)) _ _⟩, by simp [intOf]; omega⟩
        · have hQ6 : Crw wr (w.heap.size + 1) w.heap.size gl rl := by
            have e : i = 64 := by omega
            rw [e, rts_all] at hQ; exact hQ
          clear hQ
          go_wp2
          go_ret
          exact ⟨w.heap.size + 1, w.heap.size, rfl, by omega, by omega, hQ6.cod hF, hG⟩
end Go.Proofs.Ytdofegphipbcdaa
