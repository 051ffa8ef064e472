/-
  (*Codec).remainder and (*Codec).Encode. Condition: the block holds a Codec that New gave; the message's bytes can be read.
-/
import Derived.Test.YtfihhamjlcnpnaaRem
import Derived.Test.YtfihhamjlcnpnaaAsks
namespace Go.Proofs.Ytfihhamjlcnpnaa
open Go.RowKit
set_option maxRecDepth 100000

theorem step_copy_one {ops : Array Oper} {o : Oper} {a : Act} {w : World} {K : Act → World → Prop} {Q : Exit → Act → World → Prop} {E : Prop} (hgd : o.guard = none) (d s : Operand)
    (ho : o.op = .call { callee := .builtin .copy, args := #[d, s], argTypes := #[22, 22] }) (g off dLen dCap c oo sLen sCap : Nat) (hd : a.eval d = .slice (some ⟨g, off, none⟩) dLen dCap) (hs : a.eval s = .slice (some ⟨c, oo, none⟩) sLen sCap)
    {t : TypeId} {cur : List Nat} (hg : Arr w g t cur) (src : List Nat) (hn : src.length = Nat.min sLen dLen) (hsrc : ∀ j, j < src.length → w.cell? ⟨c, oo + j, none⟩ = some (.int .u8 (src.getD j 0 : Nat))) (hfit : off + src.length ≤ cur.length)
    (h : ∀ w', Arr w' g t (lay cur off src) → One g w w' → K (a.put o.dst (goInt src.length)) w') :
    if Region.wanted o (yielded ops a.tmps) = true then Oper.wp Try.prog o a w K Q else E := by
  have hw : Region.wanted o (yielded ops a.tmps) = true := by simp [Region.wanted, hgd]
  rw [if_pos hw]
  have hrun := run_copy_row (P := Try.prog) w 22 22 o.type 5 g off dLen dCap ⟨c, oo, none⟩ sLen sCap (bcells cur) t (src.map fun (n : Nat) => Value.int .u8 (n : Int)) Try.underlying22 size5 hg (by simpa using hn) (src_cells hsrc) (by simpa [bcells_size] using hfit) (one_cells src)
  rw [List.append_assoc, lay_row, List.length_map] at hrun
  unfold Oper.wp
  simp [execOp, ho, resolve, invoke, builtin, hd, hs, hrun, Result.andThen]
  exact h _ (hg.row _) (One.row w g _)
theorem Cod.gens {w : World} {q b : Nat} (h : Cod w q b) : w.cell? ⟨q, 1, none⟩ = some (.int .u8 63) ∧ w.cell? ⟨q, 2, none⟩ = some (.int .u8 1) ∧ w.cell? ⟨q, 3, none⟩ = some (.int .u8 218) ∧ w.cell? ⟨q, 4, none⟩ = some (.int .u8 32) ∧ w.cell? ⟨q, 5, none⟩ = some (.int .u8 227) ∧ w.cell? ⟨q, 6, none⟩ = some (.int .u8 38) :=
  ⟨h.gen 0 (by omega), h.gen 1 (by omega), h.gen 2 (by omega), h.gen 3 (by omega), h.gen 4 (by omega), h.gen 5 (by omega)⟩
theorem lay_shift {r : List Nat} (h : r.length = 6) : (lay r 0 (r.drop 1)).set 5 0 = r.drop 1 ++ [0] := by
  obtain ⟨a, b, c, d, e, f, rfl⟩ : ∃ a b c d e f, r = [a, b, c, d, e, f] := by
    match r, h with
    | [a, b, c, d, e, f], _ => exact ⟨a, b, c, d, e, f, rfl⟩
  rfl
theorem drop_getD (r : List Nat) (j : Nat) : (r.drop 1).getD j 0 = r.getD (1 + j) 0 := by
  simp [List.getD_eq_getElem?_getD, Nat.add_comm]

theorem index6_0 (w : World) : (Instr.index 53 (.agg #[Value.int .u8 63, .int .u8 1, .int .u8 218, .int .u8 32, .int .u8 227, .int .u8 38]) (.int .i64 0)).run Try.prog w = .ok (.int .u8 63) w := by kernel_rfl
theorem index6_1 (w : World) : (Instr.index 53 (.agg #[Value.int .u8 63, .int .u8 1, .int .u8 218, .int .u8 32, .int .u8 227, .int .u8 38]) (.int .i64 1)).run Try.prog w = .ok (.int .u8 1) w := by kernel_rfl
theorem index6_2 (w : World) : (Instr.index 53 (.agg #[Value.int .u8 63, .int .u8 1, .int .u8 218, .int .u8 32, .int .u8 227, .int .u8 38]) (.int .i64 2)).run Try.prog w = .ok (.int .u8 218) w := by kernel_rfl
theorem index6_3 (w : World) : (Instr.index 53 (.agg #[Value.int .u8 63, .int .u8 1, .int .u8 218, .int .u8 32, .int .u8 227, .int .u8 38]) (.int .i64 3)).run Try.prog w = .ok (.int .u8 32) w := by kernel_rfl
theorem index6_4 (w : World) : (Instr.index 53 (.agg #[Value.int .u8 63, .int .u8 1, .int .u8 218, .int .u8 32, .int .u8 227, .int .u8 38]) (.int .i64 4)).run Try.prog w = .ok (.int .u8 227) w := by kernel_rfl
theorem index6_5 (w : World) : (Instr.index 53 (.agg #[Value.int .u8 63, .int .u8 1, .int .u8 218, .int .u8 32, .int .u8 227, .int .u8 38]) (.int .i64 5)).run Try.prog w = .ok (.int .u8 38) w := by kernel_rfl
theorem index6 (k : Nat) (h : k < 6) (w : World) : (Instr.index 53 (.agg #[Value.int .u8 63, .int .u8 1, .int .u8 218, .int .u8 32, .int .u8 227, .int .u8 38]) (.int .i64 (k : Int))).run Try.prog w = .ok (.int .u8 (gl.getD k 0 : Nat)) w := by
  rcases (by omega : k = 0 ∨ k = 1 ∨ k = 2 ∨ k = 3 ∨ k = 4 ∨ k = 5) with e | e | e | e | e | e <;> subst e
  · exact index6_0 w
  · exact index6_1 w
  · exact index6_2 w
  · exact index6_3 w
  · exact index6_4 w
  · exact index6_5 w

set_option maxHeartbeats 4000000 in
theorem remainder_any (q b : Nat) (w : World) (h : Cod w q b) (c o cap : Nat) (l : List Nat) (hl : l.length = 58) (hb : Bys l) (hcb : c ≠ b) (hcs : c < w.heap.size)
    (hcell : ∀ i, i < l.length → w.cell? ⟨c, o + i, none⟩ = some (.int .u8 (l.getD i 0 : Nat))) :
    Calls Try.prog 30 #[.pointer (some ⟨q, 0, none⟩), .slice (some ⟨c, o, none⟩) 58 cap] w fun e w' => e = .returned (.agg (bcells (rem l 58))) ∧ Cod w' q b ∧ But b w w' := by
  have hz := zero53
  have hne := h.ne
  have hq := h.lt
  have hbb := h.1.lt
  have HC := hyd hcell
  clear hcell
  go_enter Try.func30, Try.ntmps30
  go_wp2_with fail
  go_loopw [13] (fun t wr => ∃ i : Nat, i ≤ 58 ∧ t = .int .i64 i ∧ Arr wr w.heap.size 53 [0, 0, 0, 0, 0, 0] ∧ Arr wr (w.heap.size + 1) 53 (rem l i) ∧ Cod wr q b ∧ But b w wr) (fun t _ => 58 - (intOf t).toNat)
  case atStart =>
    have h1 := Arr.new w 53 [0, 0, 0, 0, 0, 0]
    have h2 := Arr.new (w.alloc (.cells (bcells [0, 0, 0, 0, 0, 0]) 53)) 53 [0, 0, 0, 0, 0, 0]
    refine ⟨0, by omega, rfl, h1.alloc _, ?_, (h.alloc _).alloc _, ((But.refl _ _).alloc _).alloc _⟩
    have h3 : Arr ((w.alloc (.cells (bcells [0, 0, 0, 0, 0, 0]) 53)).alloc (.cells (bcells [0, 0, 0, 0, 0, 0]) 53)) (w.heap.size + 1) 53 [0, 0, 0, 0, 0, 0] := by simpa using h2
    exact h3
  case round =>
    obtain ⟨i, hi, rfl, hR, hO, hC, hB⟩ := hrel
    by_cases hlt : i < 58
    · have c1 : wr.cell? ⟨c, o + i, none⟩ = some (.int .u8 (l.getD i 0 : Nat)) := (hB.cell hcs hcb _).trans (HC.out i (by omega))
      have hrl := rem_length l i
      have hrb := rem_bys l i
      have HR : Hid (rem l (i + 1) = inner (l.getD i 0 ^^^ (rem l i).getD 0 0) gl 0 ((rem l i).drop 1 ++ [0]) 6) := rfl
      have c2 := hO.cell 0 (by omega)
      have d1 := hb.getD i
      have d2 := hrb.getD 0
      have e1 := u8_xor_nat (l.getD i 0) ((rem l i).getD 0 0) d1 d2
      have hfl := xor_lt _ _ d1 d2
      have hkb6 : (0 : Int) ≤ (i : Int) := by omega
      have hkb7 : (i : Int) < 58 := by omega
      generalize l.getD i 0 = x at *
      generalize hr : rem l i = r at *
      have Hr := hyd hr
      clear hr
      generalize r.getD 0 0 = y at *
      generalize x ^^^ y = f at *
      go_wp2_with fail
      have hdl : (r.drop 1).length = 5 := by simp [hrl]
      have HRL := hyd hrl
      have hsrc : ∀ j, j < (r.drop 1).length → wr.drew.cell? ⟨w.heap.size + 1, 1 + j, none⟩ = some (.int .u8 ((r.drop 1).getD j 0 : Nat)) := fun j hj => by
        rw [drop_getD]; exact hO.drew.cell (1 + j) (by omega)
      have HSRC := hyd hsrc
      have HDL := hyd hdl
      clear hsrc hdl hrl
      go_region_law (refine step_copy_one rfl (.tmp 21) (.tmp 22) rfl (w.heap.size + 1) 0 6 6 (w.heap.size + 1) 1 5 5 rfl rfl hO.drew (r.drop 1) (by rw [HDL.out]; rfl) HSRC.out (by rw [HDL.out, HRL.out]; omega) ?_; intro w2 hO2 hX2)
      have hR2 : Arr w2 w.heap.size 53 [0, 0, 0, 0, 0, 0] := hX2.arr (by omega) hR.drew
      have hC2 : Cod w2 q b := hX2.cod (by omega) (by omega) hC.drew
      have hB2 : But b w w2 := hX2.but (by omega) hB.drew
      clear hR hC hB hX2 hO c1 c2
      have hO3 : Arr (w2.setCell ⟨w.heap.size + 1, 5, none⟩ (.int .u8 0)) (w.heap.size + 1) 53 (r.drop 1 ++ [0]) := by
        rw [← lay_shift HRL.out]; exact hO2.store 5 0
      have c5 := hO2.cell 5 (by rw [lay_length (by rw [HDL.out, HRL.out]; omega), HRL.out]; omega)
      have f5 := hO2.frozen 5
      have hR3 : Arr (w2.setCell ⟨w.heap.size + 1, 5, none⟩ (.int .u8 0)) w.heap.size 53 [0, 0, 0, 0, 0, 0] := hR2.setOther (by omega) _ _
      have hC3 : Cod (w2.setCell ⟨w.heap.size + 1, 5, none⟩ (.int .u8 0)) q b := hC2.setNew (by omega) (by omega) _ _
      have hB3 : But b w (w2.setCell ⟨w.heap.size + 1, 5, none⟩ (.int .u8 0)) := hB2.setNew (by omega) _ _
      obtain ⟨g1, g2, g3, g4, g5, g6⟩ := hC3.gens
      have HO3 := hyd hO3
      have HR3 := hyd hR3
      have HC3 := hyd hC3
      have HB3 := hyd hB3
      clear hO3 hR3 hC3 hB3 hR2 hC2 hB2 hO2
      go_wp2_with fail
      generalize w2.setCell ⟨w.heap.size + 1, 5, none⟩ (.int .u8 0) = w3 at *
      clear g1 g2 g3 g4 g5 g6 c5 f5 HSRC
      generalize hbs : r.drop 1 ++ [0] = bs at *
      have hbl : bs.length = 6 := by rw [← hbs]; simp [HRL.out]
      have hbb2 : Bys bs := by rw [← hbs]; exact rem_base_bys (by rw [← Hr.out]; exact rem_bys l i)
      have HBL := hyd hbl
      clear hbs hbl
      go_loopw [29] (fun t wx => ∃ k : Nat, k ≤ 6 ∧ t = .int .i64 k ∧ Arr wx w.heap.size 53 [0, 0, 0, 0, 0, 0] ∧ Arr wx (w.heap.size + 1) 53 (inner f gl 0 bs k) ∧ Cod wx q b ∧ But b w wx) (fun t _ => 6 - (intOf t).toNat)
      case atStart => exact ⟨0, by omega, rfl, HR3.out, HO3.out, HC3.out, HB3.out⟩
      case round =>
        clear HR3 HO3 HC3 HB3
        obtain ⟨k, hk, rfl, hR, hO, hC, hB⟩ := hrel
        by_cases hlt2 : k < 6
        · have hIl : (inner f gl 0 bs k).length = 6 := by rw [inner_length, HBL.out]
          have hIb := inner_bys f gl 0 bs hbb2 k
          have HS : Hid (inner f gl 0 bs (k + 1) = (inner f gl 0 bs k).set k ((inner f gl 0 bs k).getD k 0 ^^^ gm f (gl.getD k 0))) := hyd (by
            show addAt _ (0 + k) _ = _
            rw [Nat.zero_add]; rfl)
          have hidx := index6 k hlt2
          have c1 := hO.cell k (by omega)
          have f1 := hO.frozen k
          have c3 := hC.ptr
          have dg := gl_bys.getD k
          have dI := hIb.getD k
          have hkb6 : (0 : Int) ≤ (k : Int) := by omega
          have hkb7 : (k : Int) < 6 := by omega
          generalize inner f gl 0 bs k = I at *
          generalize hIk : I.getD k 0 = z at *
          have HIK := hyd hIk
          clear hIk
          generalize gl.getD k 0 = g at *
          have e2 := u8_xor_nat z (gm f g) dI (gm_lt _ _)
          have HIL := hyd hIl
          clear hIl
          have n1 : q ≠ w.heap.size + 1 := by omega
          go_wp2_with fail
          go_region_with
            (first | (go_at_call 41; refine (mul_nat b _ ?_ f g hfl dg).mono ?_; (exact hC.1.drew); rintro e w' ⟨rfl, hF', hB'⟩; have hR' : Arr w' w.heap.size 53 [0, 0, 0, 0, 0, 0] := (hR.drew.but hB' (by omega)); have hO' : Arr w' (w.heap.size + 1) 53 I := (hO.drew.but hB' (by omega)); have hC' : Cod w' q b := (hC.drew.but hF' hB'); have c4 := hC'.ptr; have c1' : w'.cell? ⟨w.heap.size + 1, k, none⟩ = some (.int .u8 (z : Nat)) := ((hB'.cell hO.lt (by omega) _).trans c1); have f1' := hO'.frozen k))
          all_goals
            have hO2 : Arr (w'.setCell ⟨w.heap.size + 1, k, none⟩ (.int .u8 ((z ^^^ gm f g : Nat) : Int))) (w.heap.size + 1) 53 (inner f gl 0 bs (k + 1)) := by
              rw [HS.out]; exact hO'.store k _
            clear c1 f1 c3 c4 c1' f1'
            go_wp2
            exact ⟨⟨k + 1, by omega, by go_num, hR'.setOther (by omega) _ _, hO2, hC'.setNew (by omega) (by omega) _ _, ((hB.drew.trans hB').setNew (by omega) _ _)⟩, by simp [intOf]; omega⟩
        · have hO5 : Arr wr (w.heap.size + 1) 53 (rem l (i + 1)) := by
            have e : k = 6 := by omega
            rw [e] at hO; rw [HR.out]; exact hO
          clear hO
          go_wp2
          exact ⟨⟨i + 1, by omega, by go_num, hR, hO5, hC, hB⟩, by simp [intOf]; omega⟩
    · have hO5 : Arr wr (w.heap.size + 1) 53 (rem l 58) := by
        have e : i = 58 := by omega
        rw [e] at hO; exact hO
      have hR2 := hR.row (rem l 58)
      have hC2 : Cod (wr.setRow w.heap.size (bcells (rem l 58))) q b := hC.setRow (by omega) (by omega) _
      have hB2 : But b w (wr.setRow w.heap.size (bcells (rem l 58))) := hB.setRow (by omega) _
      clear hO
      go_wp2_with (first | (refine wpList_load_arr rfl 53 (.tmp 5) rfl _ rfl hO5 Try.underlying53 size53 (rem_length _ _) ?_) | (refine wpList_store_arr rfl 53 (.tmp 4) (.tmp 47) rfl _ _ rfl rfl hR size53 rfl (rem_length _ _) ?_) | go_in)
      refine bodyPost_ret (results_arr rfl _ hR2 rfl Try.underlying53 size53 (rem_length _ _)) rfl ⟨rfl, hC2, hB2⟩
end Go.Proofs.Ytfihhamjlcnpnaa
