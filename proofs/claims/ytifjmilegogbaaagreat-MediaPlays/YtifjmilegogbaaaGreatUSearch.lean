/-
  Whether one symbol alone makes what is left of the syndromes; what was added to two symbols. Condition: the block holds a Codec that New gave; the bytes are bytes. Where one damaged symbol lies, where two lie. Condition: the block holds a Codec that New gave; the bytes are bytes. A word's six syndromes, as an array. Condition: the block holds a Codec that New gave; the bytes can be read. What the search finds in the syndromes is what the word is read as. No condition: plain mathematics.
-/
import Derived.Test.YtifjmilegogbaaaGreatUCod
import Derived.ChangeKeysEq
import Derived.OwnWalk
namespace Go.Proofs.YtifjmilegogbaaaGreat
open Go.RowKit
set_option maxRecDepth 100000

theorem hyd {p : Prop} (h : p) : Hid p := h
def Fo (r : List Nat) (j n : Nat) : Prop := ∀ k, 1 ≤ k → k < n → r.getD k 0 = gm (r.getD (k - 1) 0) (rt j)
theorem Fo.succ {r : List Nat} {j k : Nat} (h : Fo r j k) (e : r.getD k 0 = gm (r.getD (k - 1) 0) (rt j)) : Fo r j (k + 1) := by
  intro m h1 h2
  by_cases hm : m = k
  · subst hm; exact e
  · exact h m h1 (by omega)

set_option maxHeartbeats 2000000 in
theorem follows_any (q b : Nat) (w : World) (h : Cod w q b) (r : List Nat) (hs : r.length = 5) (hb : Bys r) (j : Nat) (hj : j < 64) :
    Calls Tryz.prog 154 #[.pointer (some ⟨q, 0, none⟩), .agg (bcells r), .int .i64 j] w fun e w' => ∃ t : Bool, e = .returned (.bool t) ∧ (t = true ↔ Fo r j 5) ∧ Cod w' q b ∧ But b w w' := by
  go_enter Tryz.func154, Tryz.ntmps154
  go_wp2_with fail
  go_loopw [7] (fun t wr => ∃ k : Nat, 1 ≤ k ∧ k ≤ 5 ∧ t = .int .i64 k ∧ Fo r j k ∧ Arr wr w.heap.size 243 r ∧ Cod wr q b ∧ But b w wr) (fun t _ => 5 - (intOf t).toNat)
  case atStart =>
    exact ⟨1, by omega, by omega, rfl, fun k h1 h2 => by omega, Arr.new w 243 r, h.alloc _, (But.refl _ _).alloc _⟩
  case round =>
    obtain ⟨k, hk1, hk, rfl, hFo, hA, hC, hB⟩ := hrel
    have hne := hC.ne
    have hq := h.lt
    have hbb := h.1.lt
    by_cases hlt : k < 5
    · have c1 := hA.cell k (by omega)
      have c2 := hA.cell (k - 1) (by omega)
      have c3 := hC.ptr
      have c4 := hC.root j hj
      have d1 := hb.getD k
      have d2 := hb.getD (k - 1)
      have HFo : Hid (Fo r j k) := hyd hFo
      have HS : Hid (r.getD k 0 = gm (r.getD (k - 1) 0) (rt j) → Fo r j (k + 1)) := hyd (fun e => hFo.succ e)
      have HN : Hid (Fo r j 5 → r.getD k 0 = gm (r.getD (k - 1) 0) (rt j)) := hyd (fun e => e k hk1 hlt)
      clear hFo
      generalize r.getD k 0 = x at *
      generalize r.getD (k - 1) 0 = y at *
      have hr := rt_lt j
      generalize rt j = z at *
      have hkb1 : (k : Int) < 5 := by omega
      have hkb3 : (0 : Int) ≤ (k : Int) - 1 := by omega
      have hkb4 : (0 : Int) ≤ (k : Int) := by omega
      have hkb5 : (k : Int) - 1 < 5 := by omega
      have hkb8 : (1 : Int) ≤ (k : Int) := by omega
      have hkb9 : (k : Int) < 5 + 1 := by omega
      have hkb6 : (0 : Int) ≤ (j : Int) := by omega
      have hkb7 : (j : Int) < 64 := by omega
      go_wp2_with fail
      have hwr : IntKind.i64.wrap ((k : Int) - 1) = (k : Int) - 1 := by rw [IntKind.wrap_i64]; omega
      have hwt : ((k : Int) - 1).toNat = k - 1 := by omega
      go_region_held3 (fun wx => wx.cell? ⟨w.heap.size, k, none⟩ = some (.int .u8 (x : Nat)) ∧ wx.cell? ⟨w.heap.size, k - 1, none⟩ = some (.int .u8 (y : Nat)) ∧ wx.cell? ⟨q, 0, none⟩ = some (.pointer (some ⟨b, 0, none⟩)) ∧ wx.cell? ⟨q, 7 + j, none⟩ = some (.int .u8 (z : Nat)))
        (first | exact ⟨c1, c2, c3, c4⟩ | exact ⟨c1', c2', c3', c4'⟩)
        (first | (go_at_call 134; refine (mul_nat b _ ?_ y z d2 hr).mono ?_; (exact hC.1.drew); rintro e w' ⟨rfl, hF', hB'⟩; have hA' : Arr w' w.heap.size 243 r := (hA.drew.but hB' (by omega)); have hC' : Cod w' q b := (hC.drew.but hF' hB'); have c1' : w'.cell? ⟨w.heap.size, k, none⟩ = some (.int .u8 (x : Nat)) := ((hB'.cell hA.lt (by omega) _).trans c1); have c2' : w'.cell? ⟨w.heap.size, k - 1, none⟩ = some (.int .u8 (y : Nat)) := ((hB'.cell hA.lt (by omega) _).trans c2); have c3' := hC'.ptr; have c4' : w'.cell? ⟨q, 7 + j, none⟩ = some (.int .u8 (z : Nat)) := ((hB'.cell hC.lt hne _).trans c4)))
      all_goals
        clear hwr hwt c1 c2 c3 c4
        by_cases he : x = gm y z
        · have hbe : ((x : Int) != (gm y z : Nat)) = false := by simp [he]
          have HS' := hyd (HS.out he)
          clear he
          go_wp2
          exact ⟨⟨k + 1, by omega, by omega, by go_num, HS'.out, hA', hC', hB.drew.trans hB'⟩, by simp [intOf]; omega⟩
        · have hbe : ((x : Int) != (gm y z : Nat)) = true := by simp; omega
          have HN' : Hid (¬ Fo r j 5) := hyd (fun e => he (HN.out e))
          clear he
          go_wp2
          go_ret
          exact ⟨false, rfl, ⟨fun e => by simp at e, fun e => absurd e HN'.out⟩, hC', hB.drew.trans hB'⟩
    · have hge : Fo r j 5 := by
        have e : k = 5 := by omega
        rw [e] at hFo; exact hFo
      have HG := hyd hge
      clear hge hFo
      go_wp2
      go_ret
      exact ⟨true, rfl, ⟨fun _ => HG.out, fun _ => rfl⟩, hC, hB⟩

/-- What was added to the second symbol. -/
def atJ (s : List Nat) (i j : Nat) : Nat := gm (wo s i 0) (iv (rt i ^^^ rt j))
set_option maxHeartbeats 2000000 in
theorem turned_any (q b : Nat) (w : World) (h : Cod w q b) (s : List Nat) (hs : s.length = 6) (hb : Bys s) (i j : Nat) (hi : i < 64) (hj : j < 64) (hij : i ≠ j) :
    Calls Tryz.prog 148 #[.pointer (some ⟨q, 0, none⟩), .agg (bcells s), .int .i64 i, .int .i64 j] w fun e w' =>
      e = .returned (.tuple #[.int .u8 (s.getD 0 0 ^^^ atJ s i j : Nat), .int .u8 (atJ s i j : Nat)]) ∧ Cod w' q b ∧ But b w w' := by
  have hz := zero100
  have hne := h.ne
  have hq := h.lt
  have hbb := h.1.lt
  go_enter Tryz.func148, Tryz.ntmps148
  go_wp2_with (first | (refine wpList_load_arr rfl 231 (.tmp 5) rfl _ rfl (Arr.new w 231 s) Tryz.underlying231 size63 hs ?_) | (go_at_call 153; refine (without_any q b _ (h.alloc _) s hs hb i hi).mono ?_; rintro e w2 ⟨rfl, hC2, hB2⟩) | (refine wpList_store_arr rfl 243 (.tmp 10) (.tmp 16) rfl _ _ rfl rfl (Arr.new w2 243 [0, 0, 0, 0, 0]) size100 rfl (woL_length _ _ _) ?_))
  have hA3 : Arr ((w2.alloc (.cells (bcells [0, 0, 0, 0, 0]) 243)).setRow w2.heap.size (bcells (woL s i 5))) w.heap.size 231 s :=
    (((Arr.new w 231 s).but hB2 (by omega)).alloc _).rowOther (by have := hB2.size; simp at this; omega) _
  have hR3 : Arr ((w2.alloc (.cells (bcells [0, 0, 0, 0, 0]) 243)).setRow w2.heap.size (bcells (woL s i 5))) w2.heap.size 243 (woL s i 5) := (Arr.new w2 243 [0, 0, 0, 0, 0]).row _
  have hC3 : Cod ((w2.alloc (.cells (bcells [0, 0, 0, 0, 0]) 243)).setRow w2.heap.size (bcells (woL s i 5))) q b :=
    (hC2.alloc _).setRow (by have := hC2.lt; omega) (by have := hC2.1.lt; omega) _
  have hB3 : But b w ((w2.alloc (.cells (bcells [0, 0, 0, 0, 0]) 243)).setRow w2.heap.size (bcells (woL s i 5))) :=
    ((((But.refl b w).alloc _).trans hB2).alloc _).setRow (by have := hB2.size; simp at this; omega) _
  have hg2 : b < w2.heap.size := hC2.1.lt
  generalize (w2.alloc (.cells (bcells [0, 0, 0, 0, 0]) 243)).setRow w2.heap.size (bcells (woL s i 5)) = w3 at *
  clear hC2 hB2 h
  generalize w2.heap.size = g2 at *
  have c1 := hC3.ptr
  have c2 := hR3.cell 0 (by rw [woL_length]; omega)
  have c3 := hC3.root i hi
  have c4 := hC3.root j hj
  have e0 : (woL s i 5).getD 0 0 = wo s i 0 := woL_getD s i 0 (by omega)
  rw [e0] at c2
  have d0 := wo_lt hb i 0
  have dr := rt_lt i
  have dr2 := rt_lt j
  have hx0 : rt i ^^^ rt j ≠ 0 := fun e => hij (rt_inj hi hj (xor_zero_eq e))
  have hxl := xor_lt _ _ dr dr2
  have ex1 := u8_xor_nat (rt i) (rt j) dr dr2
  have HJ : Hid (atJ s i j = gm (wo s i 0) (iv (rt i ^^^ rt j))) := rfl
  have hkb6 : (0 : Int) ≤ (i : Int) := by omega
  have hkb7 : (i : Int) < 64 := by omega
  have hkb8 : (0 : Int) ≤ (j : Int) := by omega
  have hkb9 : (j : Int) < 64 := by omega
  have cA := hA3.cell 0 (by omega)
  have d5 := hb.getD 0
  generalize hs0 : s.getD 0 0 = s0 at *
  have HS0 := hyd hs0
  clear hs0
  generalize wo s i 0 = x at *
  generalize rt i = ri at *
  generalize rt j = rj at *
  generalize ri ^^^ rj = y at *
  have ex2 := u8_xor_nat s0 (gm x (iv y)) d5 (gm_lt _ _)
  go_region_held3 (fun wx => wx.cell? ⟨q, 0, none⟩ = some (.pointer (some ⟨b, 0, none⟩)) ∧ wx.cell? ⟨g2, 0, none⟩ = some (.int .u8 (x : Nat)) ∧ wx.cell? ⟨q, 7 + i, none⟩ = some (.int .u8 (ri : Nat)) ∧ wx.cell? ⟨q, 7 + j, none⟩ = some (.int .u8 (rj : Nat)))
    (first | exact ⟨c1, c2, c3, c4⟩ | exact ⟨c1', c2', c3', c4'⟩)
    (first | (go_at_call 155; refine (div_nat b _ ?_ x y d0 hxl hx0).mono ?_; (exact hC3.1.drew); rintro e w' ⟨rfl, hF', hB'⟩; have hC' : Cod w' q b := (hC3.drew.but hF' hB'); have c1' := hC'.ptr; have c2' : w'.cell? ⟨g2, 0, none⟩ = some (.int .u8 (x : Nat)) := ((hB'.cell hR3.lt (by omega) _).trans c2); have c3' : w'.cell? ⟨q, 7 + i, none⟩ = some (.int .u8 (ri : Nat)) := ((hB'.cell hC3.lt hne _).trans c3); have c4' : w'.cell? ⟨q, 7 + j, none⟩ = some (.int .u8 (rj : Nat)) := ((hB'.cell hC3.lt hne _).trans c4); have cA' : w'.cell? ⟨w.heap.size, 0, none⟩ = some (.int .u8 (s0 : Nat)) := ((hB'.cell hA3.lt (by omega) _).trans cA)))
  all_goals
    clear c1 c2 c3 c4 cA c1' c2' c3' c4'
    go_wp2
    go_ret2
    exact ⟨by rw [HJ.out, HS0.out]; rfl, hC', hB3.drew.trans hB'⟩
end Go.Proofs.YtifjmilegogbaaaGreat
namespace Go.Proofs.YtifjmilegogbaaaGreat
open Go.RowKit
set_option maxRecDepth 100000

theorem plain5 : Tryz.prog.plainKey 5 = true := by kernel_rfl
theorem cells5 : Tryz.prog.cellsOf 5 = 1 := by kernel_rfl
theorem eq_items (d : Nat) (l l' : List Nat) (w : World) (is : List Nat) (hin : ∀ i ∈ is, i < l.length ∧ i < l'.length) :
    ∃ r : Bool, (Op.eqItems (d + 1) 5 1 (bcells l) (bcells l') is).run Tryz.prog w = .ok r w ∧ (r = true ↔ ∀ i ∈ is, l.getD i 0 = l'.getD i 0) := by
  induction is with
  | nil => exact ⟨true, by simp [Op.eqItems], by simp⟩
  | cons i is ih =>
    obtain ⟨r, hr, hiff⟩ := ih (fun j hj => hin j (by simp [hj]))
    obtain ⟨h1, h2⟩ := hin i (by simp)
    have p1 := run_part_plain (P := Tryz.prog) w plain5 (xs := bcells l) (off := i * 1) (by rw [Nat.mul_one]; exact bcells_at l i h1)
    have p2 := run_part_plain (P := Tryz.prog) w plain5 (xs := bcells l') (off := i * 1) (by rw [Nat.mul_one]; exact bcells_at l' i h2)
    have p3 := run_equalIn_int (P := Tryz.prog) w d 5 .u8 .u8 (l.getD i 0 : Nat) (l'.getD i 0 : Nat) Tryz.underlying5
    simp only [Op.eqItems, Sem.run_bind, p1, p2, p3, Result.andThen_ok]
    by_cases e : l.getD i 0 = l'.getD i 0
    · have e2 : (((l.getD i 0 : Nat) : Int) == (l'.getD i 0 : Nat)) = true := by rw [e]; exact beq_self_eq_true _
      refine ⟨r, by simp only [e2]; simpa using hr, ?_⟩
      rw [hiff]; simp only [List.mem_cons, forall_eq_or_imp]; exact ⟨fun h => ⟨e, h⟩, fun h => h.2⟩
    · have e' : ((l.getD i 0 : Nat) : Int) ≠ (l'.getD i 0 : Nat) := by omega
      refine ⟨false, by simp only [beq_eq_false_iff_ne.2 e']; simp, ?_⟩
      simp only [List.mem_cons, forall_eq_or_imp]
      exact ⟨fun h => by simp at h, fun h => absurd h.1 e⟩
theorem eq_arr (d : Nat) (w : World) (t : TypeId) (n : Nat) (hu : Tryz.prog.underlying t = some (.array n 5)) (l l' : List Nat) (h1 : l.length = n) (h2 : l'.length = n) :
    (Op.equalIn (d + 2) t (.agg (bcells l)) (.agg (bcells l'))).run Tryz.prog w = .ok (decide (l = l')) w := by
  obtain ⟨i5, hi5, _⟩ := info5
  rw [run_equalIn_array w (d + 1) _ _ hu hi5, cells5]
  obtain ⟨r, hr, hiff⟩ := eq_items d l l' w (List.range n) (fun i hi => by rw [List.mem_range] at hi; omega)
  rw [hr]
  congr 1
  rw [Bool.eq_iff_iff, hiff, decide_eq_true_iff]
  constructor
  · intro h
    exact getD_ext (by omega) (fun i hi => h i (by rw [List.mem_range]; omega))
  · rintro rfl i _; rfl
/-- Place i alone makes these syndromes. -/
def On (s : List Nat) (i : Nat) : Prop := ∀ k, k < 5 → wo s i k = 0
theorem On.iff (s : List Nat) (i : Nat) : On s i ↔ woL s i 5 = [0, 0, 0, 0, 0] := by
  constructor
  · intro h
    apply getD_ext (by rw [woL_length]; rfl)
    intro k hk
    rw [woL_length] at hk
    rw [woL_getD s i k hk, h k hk]
    rcases (by omega : k = 0 ∨ k = 1 ∨ k = 2 ∨ k = 3 ∨ k = 4) with e | e | e | e | e <;> subst e <;> rfl
  · intro h k hk
    rw [← woL_getD s i k hk, h]
    rcases (by omega : k = 0 ∨ k = 1 ∨ k = 2 ∨ k = 3 ∨ k = 4) with e | e | e | e | e <;> subst e <;> rfl

set_option maxHeartbeats 2000000 in
theorem one_any (q b : Nat) (w : World) (h : Cod w q b) (s : List Nat) (hs : s.length = 6) (hb : Bys s) :
    Calls Tryz.prog 146 #[.pointer (some ⟨q, 0, none⟩), .agg (bcells s)] w fun e w' =>
      ((∃ i : Nat, i < 64 ∧ e = .returned (.tuple #[.int .i64 i, .bool true]) ∧ On s i) ∨ (e = .returned (.tuple #[.int .i64 0, .bool false]) ∧ ∀ i, i < 64 → ¬ On s i)) ∧ Cod w' q b ∧ But b w w' := by
  have hz := zero100
  have hne := h.ne
  have hq := h.lt
  have hbb := h.1.lt
  go_enter Tryz.func146, Tryz.ntmps146
  go_wp2_with fail
  go_loopw [7] (fun t wr => ∃ i : Nat, i ≤ 64 ∧ t = .int .i64 i ∧ (∀ m, m < i → ¬ On s m) ∧ Arr wr w.heap.size 231 s ∧ Cod wr q b ∧ But b w wr) (fun t _ => 64 - (intOf t).toNat)
  case atStart =>
    exact ⟨0, by omega, rfl, fun m hm => by omega, Arr.new w 231 s, h.alloc _, (But.refl _ _).alloc _⟩
  case round =>
    obtain ⟨i, hi, rfl, hNo, hA, hC, hB⟩ := hrel
    by_cases hlt : i < 64
    · have HNo := hyd hNo
      clear hNo
      have hlt' : (i : Int) < 64 := by omega
      by_cases hOn : On s i
      · have heq : ∀ w, (Op.equalIn 10000 243 (.agg (bcells (woL s i 5))) (.agg (bcells [0, 0, 0, 0, 0]))).run Tryz.prog w = .ok true w := fun w => by
          rw [eq_arr 9998 w 243 5 Tryz.underlying243 (woL s i 5) [0, 0, 0, 0, 0] (woL_length _ _ _) rfl, decide_eq_true ((On.iff s i).1 hOn)]
        have HO := hyd hOn
        clear hOn
        go_wp2_with (first | (refine wpList_load_arr rfl 231 (.tmp 3) rfl _ rfl hA Tryz.underlying231 size63 hs ?_) | (go_at_call 153; refine (without_any q b _ hC s hs hb i hlt).mono ?_; rintro e w2 ⟨rfl, hC2, hB2⟩))
        go_ret2
        exact ⟨Or.inl ⟨i, hlt, rfl, HO.out⟩, hC2, hB.trans hB2⟩
      · have heq : ∀ w, (Op.equalIn 10000 243 (.agg (bcells (woL s i 5))) (.agg (bcells [0, 0, 0, 0, 0]))).run Tryz.prog w = .ok false w := fun w => by
          rw [eq_arr 9998 w 243 5 Tryz.underlying243 (woL s i 5) [0, 0, 0, 0, 0] (woL_length _ _ _) rfl, decide_eq_false (fun e => hOn ((On.iff s i).2 e))]
        have HO := hyd hOn
        clear hOn
        go_wp2_with (first | (refine wpList_load_arr rfl 231 (.tmp 3) rfl _ rfl hA Tryz.underlying231 size63 hs ?_) | (go_at_call 153; refine (without_any q b _ hC s hs hb i hlt).mono ?_; rintro e w2 ⟨rfl, hC2, hB2⟩))
        exact ⟨⟨i + 1, by omega, by go_num, fun m hm => by
          by_cases e : m = i
          · rw [e]; exact HO.out
          · exact HNo.out m (by omega), hA.but hB2 (by omega), hC2, hB.trans hB2⟩, by simp [intOf]; omega⟩
    · have HNo := hyd hNo
      clear hNo
      go_wp2
      go_ret2
      exact ⟨Or.inr ⟨rfl, fun m hm => HNo.out m (by omega)⟩, hC, hB⟩

set_option maxHeartbeats 4000000 in
theorem two_any (q b : Nat) (w : World) (h : Cod w q b) (s : List Nat) (hs : s.length = 6) (hb : Bys s) :
    Calls Tryz.prog 147 #[.pointer (some ⟨q, 0, none⟩), .agg (bcells s)] w fun e w' =>
      ((∃ i j : Nat, i < 64 ∧ j < i ∧ e = .returned (.tuple #[.int .i64 i, .int .i64 j, .bool true]) ∧ Fo (woL s i 5) j 5) ∨
        (e = .returned (.tuple #[.int .i64 0, .int .i64 0, .bool false]) ∧ ∀ i j, i < 64 → j < i → ¬ Fo (woL s i 5) j 5)) ∧ Cod w' q b ∧ But b w w' := by
  have hz := zero100
  have hne := h.ne
  have hq := h.lt
  have hbb := h.1.lt
  go_enter Tryz.func147, Tryz.ntmps147
  go_wp2_with fail
  go_step3
  go_wp2_with fail
  go_step3
  go_wp2_with fail
  go_loopw [7, 8, 9, 13] (fun a1 a2 a3 t wr => a1 = .int .i64 0 ∧ a2 = .int .i64 0 ∧ a3 = .bool false ∧ ∃ i : Nat, i ≤ 64 ∧ t = .int .i64 i ∧ (∀ m j, m < i → j < m → ¬ Fo (woL s m 5) j 5) ∧ Arr wr w.heap.size 231 s ∧ Cod wr q b ∧ But b w wr) (fun _ _ _ t _ => 64 - (intOf t).toNat)
  case atStart =>
    exact ⟨rfl, rfl, rfl, 0, by omega, rfl, fun m j hm => by omega, Arr.new w 231 s, h.alloc _, (But.refl _ _).alloc _⟩
  case round =>
    obtain ⟨rfl, rfl, rfl, i, hi, rfl, hNo, hA, hC, hB⟩ := hrel
    have HNo := hyd hNo
    clear hNo
    by_cases hlt : i < 64
    · have hlt' : (i : Int) < 64 := by omega
      go_wp2_with (first | (refine wpList_load_arr rfl 231 (.tmp 3) rfl _ rfl hA Tryz.underlying231 size63 hs ?_) | (go_at_call 153; refine (without_any q b _ hC s hs hb i hlt).mono ?_; rintro e w2 ⟨rfl, hC2, hB2⟩) | (refine wpList_store_arr rfl 243 (.tmp 11) (.tmp 19) rfl _ _ rfl rfl (Arr.new w2 243 [0, 0, 0, 0, 0]) size100 rfl (woL_length _ _ _) ?_))
      have hA3 : Arr ((w2.alloc (.cells (bcells [0, 0, 0, 0, 0]) 243)).setRow w2.heap.size (bcells (woL s i 5))) w.heap.size 231 s :=
        ((hA.but hB2 (by omega)).alloc _).rowOther (by have := (hA.but hB2 (by omega)).lt; omega) _
      have hR3 : Arr ((w2.alloc (.cells (bcells [0, 0, 0, 0, 0]) 243)).setRow w2.heap.size (bcells (woL s i 5))) w2.heap.size 243 (woL s i 5) := (Arr.new w2 243 [0, 0, 0, 0, 0]).row _
      have hC3 : Cod ((w2.alloc (.cells (bcells [0, 0, 0, 0, 0]) 243)).setRow w2.heap.size (bcells (woL s i 5))) q b :=
        (hC2.alloc _).setRow (by have := hC2.lt; omega) (by have := hC2.1.lt; omega) _
      have hB3 : But b w ((w2.alloc (.cells (bcells [0, 0, 0, 0, 0]) 243)).setRow w2.heap.size (bcells (woL s i 5))) :=
        (((hB.trans hB2)).alloc _).setRow (by have := (hB.trans hB2).size; omega) _
      have hg2 : b < w2.heap.size := hC2.1.lt
      have hg3 : w.heap.size ≠ w2.heap.size := by have := (hA.but hB2 (by omega)).lt; omega
      generalize (w2.alloc (.cells (bcells [0, 0, 0, 0, 0]) 243)).setRow w2.heap.size (bcells (woL s i 5)) = w3 at *
      clear hC2 hB2 hA hC hB
      generalize w2.heap.size = g2 at *
      go_loopw [7, 8, 9, 21] (fun a1 a2 a3 t wx => a1 = .int .i64 0 ∧ a2 = .int .i64 0 ∧ a3 = .bool false ∧ ∃ j : Nat, j ≤ i ∧ t = .int .i64 j ∧ (∀ m, m < j → ¬ Fo (woL s i 5) m 5) ∧ Arr wx w.heap.size 231 s ∧ Arr wx g2 243 (woL s i 5) ∧ Cod wx q b ∧ But b w wx) (fun _ _ _ t _ => i - (intOf t).toNat)
      case atStart => exact ⟨rfl, rfl, rfl, 0, by omega, rfl, fun m hm => by omega, hA3, hR3, hC3, hB3⟩
      case round =>
        clear hA3 hR3 hC3 hB3
        obtain ⟨rfl, rfl, rfl, j, hj, rfl, hNj, hA, hR, hC, hB⟩ := hrel
        have HNj := hyd hNj
        clear hNj
        by_cases hlt2 : j < i
        · have hlt2' : (j : Int) < (i : Int) := by omega
          go_wp2_with (first | (refine wpList_load_arr rfl 243 (.tmp 11) rfl _ rfl hR Tryz.underlying243 size100 (woL_length _ _ _) ?_) | (go_at_call 154; refine (follows_any q b _ hC (woL s i 5) (woL_length _ _ _) (woL_bys hb i 5) j (by omega)).mono ?_; rintro e w4 ⟨t, rfl, ht, hC4, hB4⟩; have HT := hyd ht; clear ht; cases t))
          · have hnF : ¬ Fo (woL s i 5) j 5 := fun e => by have := HT.out.2 e; simp at this
            have HnF := hyd hnF
            exact ⟨⟨rfl, rfl, rfl, j + 1, by omega, by go_num, fun m hm => by
              by_cases e : m = j
              · rw [e]; exact HnF.out
              · exact HNj.out m (by omega), hA.but hB4 (by omega), hR.but hB4 (by omega), hC4, hB.trans hB4⟩, by simp [intOf]; omega⟩
          · rw [Exit.noGoto_ret]
            go_ret3
            exact ⟨Or.inl ⟨i, j, hlt, hlt2, rfl, HT.out.1 trivial⟩, hC4, hB.trans hB4⟩
        · go_wp2
          exact ⟨⟨rfl, rfl, rfl, i + 1, by omega, by go_num, fun m n hm hn => by
            by_cases e : m = i
            · rw [e]; rw [e] at hn; exact HNj.out n (by omega)
            · exact HNo.out m n (by omega) hn, hA, hC, hB⟩, by simp [intOf]; omega⟩
    · go_wp2
      rw [Exit.noGoto_ret]
      go_ret3
      exact ⟨Or.inr ⟨rfl, fun m n hm hn => HNo.out m n (by omega) hn⟩, hC, hB⟩
end Go.Proofs.YtifjmilegogbaaaGreat
namespace Go.Proofs.YtifjmilegogbaaaGreat
open Go.RowKit
set_option maxRecDepth 100000

/-- The first n of a word's syndromes, noughts behind them. -/
def syL (l : List Nat) (n : Nat) : List Nat := (List.range 6).map fun k => if k < n then sy l k else 0
theorem syL_length (l : List Nat) (n : Nat) : (syL l n).length = 6 := by simp [syL]
theorem syL_zero (l : List Nat) : syL l 0 = List.replicate 6 0 := by simp [syL]; rfl
theorem syL_set (l : List Nat) (n : Nat) : (syL l n).set n (sy l n) = syL l (n + 1) := by
  apply List.ext_getElem?
  intro k
  by_cases h : n = k
  · subst h
    by_cases h5 : n < 6
    · rw [List.getElem?_set_self (by rw [syL_length]; exact h5)]
      simp [syL, h5]
    · rw [List.getElem?_eq_none (by simp [syL]; omega), List.getElem?_eq_none (by simp [syL]; omega)]
  · rw [List.getElem?_set_ne h]
    by_cases h5 : k < 6
    · simp only [syL, List.getElem?_map, List.getElem?_range h5, Option.map_some]
      congr 1
      by_cases h6 : k < n
      · rw [if_pos h6, if_pos (by omega)]
      · rw [if_neg h6, if_neg (by omega)]
    · rw [List.getElem?_eq_none (by simp [syL]; omega), List.getElem?_eq_none (by simp [syL]; omega)]
theorem syL_getD (l : List Nat) (k : Nat) (h : k < 6) : (syL l 6).getD k 0 = sy l k := by
  simp [syL, List.getD_eq_getElem?_getD, h]
theorem syL_bys {l : List Nat} (hs : Bys l) (n : Nat) : Bys (syL l n) := by
  intro x hx
  simp only [syL, List.mem_map, List.mem_range] at hx
  obtain ⟨k, _, rfl⟩ := hx
  split
  · exact sy_lt hs k
  · decide
theorem hyd0 {p : Prop} (h : p) : Hid p := h
theorem exZ_nat (k : Nat) (h : k < 255) : exZ (k : Int) = ex k := by
  unfold exZ
  congr 1
  omega

set_option maxHeartbeats 2000000 in
theorem syndromes_any (q b : Nat) (w : World) (h : Cod w q b) (a : Option Addr) (n cap : Nat) (l : List Nat) (hn : n = l.length) (hlen : l.length ≤ 9223372036854775807) (hr : Rd w b a l) :
    Calls Tryz.prog 145 #[.pointer (some ⟨q, 0, none⟩), .slice a n cap] w fun e w' => e = .returned (.agg (bcells (syL l 6))) ∧ Cod w' q b ∧ But b w w' := by
  subst hn
  have hz := zero63
  have hne := h.ne
  have hq := h.lt
  have hbb := h.1.lt
  go_enter Tryz.func145, Tryz.ntmps145
  go_wp2_with fail
  go_loopw [7] (fun t wr => ∃ k : Nat, k ≤ 6 ∧ t = .int .i64 k ∧ Arr wr w.heap.size 231 [0, 0, 0, 0, 0, 0] ∧ Arr wr (w.heap.size + 1) 231 (syL l k) ∧ Cod wr q b ∧ But b w wr) (fun t _ => 6 - (intOf t).toNat)
  case atStart =>
    have h1 := Arr.new w 231 [0, 0, 0, 0, 0, 0]
    have h2 := Arr.new (w.alloc (.cells (bcells [0, 0, 0, 0, 0, 0]) 231)) 231 [0, 0, 0, 0, 0, 0]
    refine ⟨0, by omega, rfl, h1.alloc _, ?_, (h.alloc _).alloc _, ((But.refl _ _).alloc _).alloc _⟩
    rw [syL_zero]; simpa using h2
  case round =>
    obtain ⟨k, hk, rfl, hR, hO, hC, hB⟩ := hrel
    by_cases hlt : k < 6
    · have c3 := hC.ptr
      have hrr := hr.but hB
      have hrr1 : Rd wr.drew b a l := hrr
      clear hrr
      have hkb4 : (0 : Int) ≤ (k : Int) := by omega
      have hkb5 : (k : Int) < 6 := by omega
      have HW : Hid ((syL l k).set k (ev (ex k) l) = syL l (k + 1)) := syL_set l k
      have hxk := ex_lt k
      have hE : exZ (k : Int) = ex k := exZ_nat k (by omega)
      have HE := hyd0 hE
      clear hE
      generalize ex k = y at *
      have n1 : q ≠ w.heap.size + 1 := by omega
      go_wp2_with fail
      go_region_held3 (fun wx => wx.cell? ⟨q, 0, none⟩ = some (.pointer (some ⟨b, 0, none⟩)))
        (first | exact c3 | exact c4 | exact c5 | exact (cell_set _ _ _ _ _ _ n1).trans c5)
        (first | (go_at_call 118; refine (exp_any b _ ?_ _).mono ?_; (exact hC.1.drew); rintro e w1 ⟨rfl, hF1, hB1⟩; rw [HE.out]; have hC1 : Cod w1 q b := (hC.drew.but hF1 hB1); have c4 := hC1.ptr) | (go_at_call 152; refine (eval_any b _ hF1 a l.length cap l rfl hlen y hxk (hrr1.but hB1)).mono ?_; rintro e w2 ⟨rfl, hF2, hB2⟩; have hC2 : Cod w2 q b := (hC1.but hF2 hB2); have c5 := hC2.ptr; have hR' : Arr w2 w.heap.size 231 [0, 0, 0, 0, 0, 0] := ((hR.drew.but hB1 (by omega)).but hB2 (by omega)); have hO' : Arr w2 (w.heap.size + 1) 231 (syL l k) := ((hO.drew.but hB1 (by omega)).but hB2 (by omega)); have hf' := hO'.frozen k; have ho' := hO'.cell k (by rw [syL_length]; omega)))
      all_goals
        have hO2 : Arr (w2.setCell ⟨w.heap.size + 1, k, none⟩ (.int .u8 ((ev y l : Nat) : Int))) (w.heap.size + 1) 231 (syL l (k + 1)) := by
          rw [← HW.out]; exact hO'.store k _
        clear c3 c4 c5 hf' ho'
        go_wp2
        exact ⟨⟨k + 1, by omega, by go_num, hR'.setOther (by omega) _ _, hO2, hC2.setNew (by omega) (by omega) _ _, ((hB.drew.trans (hB1.trans hB2)).setNew (by omega) _ _)⟩, by simp [intOf]; omega⟩
    · have hO5 : Arr wr (w.heap.size + 1) 231 (syL l 6) := by
        have e : k = 6 := by omega
        rw [e] at hO; exact hO
      have hR2 := hR.row (syL l 6)
      have hC2 : Cod (wr.setRow w.heap.size (bcells (syL l 6))) q b := hC.setRow (by omega) (by omega) _
      have hB2 : But b w (wr.setRow w.heap.size (bcells (syL l 6))) := hB.setRow (by omega) _
      clear hO
      go_wp2_with (first | (refine wpList_load_arr rfl 231 (.tmp 5) rfl _ rfl hO5 Tryz.underlying231 size63 (syL_length _ _) ?_) | (refine wpList_store_arr rfl 231 (.tmp 4) (.tmp 25) rfl _ _ rfl rfl hR size63 rfl (syL_length _ _) ?_) | go_in)
      refine bodyPost_ret (results_arr rfl _ hR2 rfl Tryz.underlying231 size63 (syL_length _ _)) rfl ⟨rfl, hC2, hB2⟩
end Go.Proofs.YtifjmilegogbaaaGreat
namespace Go.Proofs.YtifjmilegogbaaaGreat

theorem wo_sy (l : List Nat) (i k : Nat) (hk : k < 5) : wo (syL l 6) i k = sy l (k + 1) ^^^ gm (sy l k) (rt i) := by
  unfold wo
  rw [syL_getD l (k + 1) (by omega), syL_getD l k (by omega)]
theorem on_e1 {l : List Nat} (hb : Bys l) {i : Nat} (h : On (syL l 6) i) : E1 (sy l) i (sy l 0) := by
  intro k hk
  induction k with
  | zero => show _ = gm _ 1; rw [gm_one _ (sy_lt hb 0)]
  | succ k ih =>
    have h1 := h k (by omega)
    rw [wo_sy l i k (by omega)] at h1
    rw [xor_zero_eq h1, ih (by omega)]
    show gm (gm _ (xp (rt i) k)) (rt i) = gm _ (gm (xp (rt i) k) (rt i))
    rw [gm_assoc]
theorem e1_on {l : List Nat} {i a : Nat} (h : E1 (sy l) i a) : On (syL l 6) i := by
  intro k hk
  rw [wo_sy l i k hk, h (k + 1) (by omega), h k (by omega)]
  show gm a (gm (xp (rt i) k) (rt i)) ^^^ gm (gm a (xp (rt i) k)) (rt i) = 0
  rw [gm_assoc, Nat.xor_self]
theorem e2_fo {l : List Nat} {i j a b : Nat} (_ha : a < 256) (hb : b < 256) (h : E2 (sy l) i j a b) : Fo (woL (syL l 6) i 5) j 5 := by
  have hw : ∀ k, k < 5 → wo (syL l 6) i k = gm (gm b (rt j ^^^ rt i)) (xp (rt j) k) := by
    intro k hk
    rw [wo_sy l i k hk, h (k + 1) (by omega), h k (by omega), xor_gm _ _ _ (rt_lt i) (gm_lt _ _) (gm_lt _ _), gm_xor _ _ _ hb (rt_lt j) (rt_lt i), xor_gm _ _ _ (xp_lt _ _) (gm_lt _ _) (gm_lt _ _)]
    show (gm a (gm (xp (rt i) k) (rt i)) ^^^ gm b (gm (xp (rt j) k) (rt j))) ^^^ (gm (gm a (xp (rt i) k)) (rt i) ^^^ gm (gm b (xp (rt j) k)) (rt i)) = _
    have e1 : gm (gm a (xp (rt i) k)) (rt i) = gm a (gm (xp (rt i) k) (rt i)) := gm_assoc _ _ _
    have e2 : gm (gm b (rt j)) (xp (rt j) k) = gm b (gm (xp (rt j) k) (rt j)) := by rw [gm_assoc, gm_comm (rt j)]
    have e3 : gm (gm b (rt i)) (xp (rt j) k) = gm (gm b (xp (rt j) k)) (rt i) := by rw [gm_assoc, gm_assoc, gm_comm (rt i)]
    rw [e1, e2, e3]
    have : ∀ x y z : Nat, (x ^^^ y) ^^^ (x ^^^ z) = y ^^^ z := by
      intro x y z
      rw [Nat.xor_comm x y, Nat.xor_assoc, ← Nat.xor_assoc x x z, Nat.xor_self, Nat.zero_xor]
    exact this _ _ _
  intro k h1 h2
  rw [woL_getD _ _ _ h2, woL_getD _ _ _ (by omega), hw k h2, hw (k - 1) (by omega)]
  obtain ⟨m, rfl⟩ : ∃ m, k = m + 1 := ⟨k - 1, by omega⟩
  show gm _ (gm (xp (rt j) m) (rt j)) = gm (gm _ (xp (rt j) m)) (rt j)
  rw [gm_assoc _ (xp (rt j) m)]
theorem fo_e2 {l : List Nat} (hb : Bys l) {i j : Nat} (hi : i < 64) (hj : j < 64) (hij : i ≠ j) (h : Fo (woL (syL l 6) i 5) j 5) : E2 (sy l) i j (sy l 0 ^^^ atJ (syL l 6) i j) (atJ (syL l 6) i j) := by
  have hs6 := syL_bys hb 6
  have h0 := wo_lt hs6 i 0
  have hw : ∀ k, k < 5 → wo (syL l 6) i k = gm (wo (syL l 6) i 0) (xp (rt j) k) := by
    intro k
    induction k with
    | zero => intro _; show _ = gm _ 1; rw [gm_one _ h0]
    | succ k ih =>
      intro hk
      have := h (k + 1) (by omega) hk
      rw [woL_getD _ _ _ hk, woL_getD _ _ _ (by omega), show k + 1 - 1 = k from by omega, ih (by omega)] at this
      rw [this]
      show gm (gm _ (xp (rt j) k)) (rt j) = gm _ (gm (xp (rt j) k) (rt j))
      rw [gm_assoc]
  have hx0 : rt i ^^^ rt j ≠ 0 := fun e => hij (rt_inj hi hj (xor_zero_eq e))
  have hxl := xor_lt _ _ (rt_lt i) (rt_lt j)
  have hB : gm (atJ (syL l 6) i j) (rt i ^^^ rt j) = wo (syL l 6) i 0 := by
    unfold atJ
    rw [gm_assoc, gm_comm (iv _), gm_iv _ hxl hx0, gm_one _ h0]
  have hBl : atJ (syL l 6) i j < 256 := gm_lt _ _
  generalize atJ (syL l 6) i j = B at *
  intro k
  induction k with
  | zero =>
    intro _
    show sy l 0 = gm (sy l 0 ^^^ B) 1 ^^^ gm B 1
    rw [gm_one _ (xor_lt _ _ (sy_lt hb 0) hBl), gm_one _ hBl, Nat.xor_assoc, Nat.xor_self, Nat.xor_zero]
  | succ k ih =>
    intro hk
    have h1 := hw k (by omega)
    rw [wo_sy l i k (by omega), ← hB] at h1
    have h2 : sy l (k + 1) = gm (gm B (rt i ^^^ rt j)) (xp (rt j) k) ^^^ gm (sy l k) (rt i) := by
      rw [← h1, Nat.xor_assoc, Nat.xor_self, Nat.xor_zero]
    rw [h2, ih (by omega), gm_xor B _ _ hBl (rt_lt i) (rt_lt j), xor_gm _ _ _ (xp_lt _ _) (gm_lt _ _) (gm_lt _ _), xor_gm _ _ _ (rt_lt i) (gm_lt _ _) (gm_lt _ _)]
    show _ = gm _ (gm (xp (rt i) k) (rt i)) ^^^ gm B (gm (xp (rt j) k) (rt j))
    have e1 : gm (gm (sy l 0 ^^^ B) (xp (rt i) k)) (rt i) = gm (sy l 0 ^^^ B) (gm (xp (rt i) k) (rt i)) := gm_assoc _ _ _
    have e2 : gm (gm B (rt j)) (xp (rt j) k) = gm B (gm (xp (rt j) k) (rt j)) := by rw [gm_assoc, gm_comm (rt j)]
    have e3 : gm (gm B (rt i)) (xp (rt j) k) = gm (gm B (xp (rt j) k)) (rt i) := by rw [gm_assoc, gm_assoc, gm_comm (rt i)]
    rw [e1, e2, e3]
    have : ∀ x y z : Nat, (z ^^^ y) ^^^ (x ^^^ z) = x ^^^ y := by
      intro x y z
      rw [Nat.xor_comm x z, Nat.xor_comm z y, Nat.xor_assoc, ← Nat.xor_assoc z z x, Nat.xor_self, Nat.zero_xor, Nat.xor_comm]
    exact this _ _ _

theorem syL_zeros {l : List Nat} : syL l 6 = [0, 0, 0, 0, 0, 0] ↔ ∀ k, k < 6 → sy l k = 0 := by
  constructor
  · intro h k hk
    rw [← syL_getD l k hk, h]
    rcases (by omega : k = 0 ∨ k = 1 ∨ k = 2 ∨ k = 3 ∨ k = 4 ∨ k = 5) with e | e | e | e | e | e <;> subst e <;> rfl
  · intro h
    apply getD_ext (by rw [syL_length]; rfl)
    intro k hk
    rw [syL_length] at hk
    rw [syL_getD l k hk, h k hk]
    rcases (by omega : k = 0 ∨ k = 1 ∨ k = 2 ∨ k = 3 ∨ k = 4 ∨ k = 5) with e | e | e | e | e | e <;> subst e <;> rfl
theorem syL_some {l : List Nat} (h : ¬ syL l 6 = [0, 0, 0, 0, 0, 0]) : ∃ k, k < 6 ∧ sy l k ≠ 0 := by
  by_cases h' : ∃ k, k < 6 ∧ sy l k ≠ 0
  · exact h'
  · exact absurd (syL_zeros.2 (fun k hk => by
      by_cases e : sy l k = 0
      · exact e
      · exact absurd ⟨k, hk, e⟩ h')) h
theorem near_one {l : List Nat} (hl : l.length = 64) (hb : Bys l) (h0 : ¬ syL l 6 = [0, 0, 0, 0, 0, 0]) {i : Nat} (hi : i < 64) (h : On (syL l 6) i) : IsDec l (some ((addAt l i ((syL l 6).getD 0 0)).take 58, 1)) := by
  rw [syL_getD l 0 (by omega)]
  exact dec_one hl hb (syL_some h0) i _ hi (sy_lt hb 0) (on_e1 hb h)
theorem near_two {l : List Nat} (hl : l.length = 64) (hb : Bys l) (h1 : ∀ i, i < 64 → ¬ On (syL l 6) i) {i j : Nat} (hi : i < 64) (hj : j < i) (h : Fo (woL (syL l 6) i 5) j 5) :
    IsDec l (some ((addAt (addAt l i ((syL l 6).getD 0 0 ^^^ atJ (syL l 6) i j)) j (atJ (syL l 6) i j)).take 58, 2)) := by
  rw [syL_getD l 0 (by omega)]
  have hE := fo_e2 hb hi (by omega) (by omega) h
  refine dec_two hl hb i j _ _ hi (by omega) (by omega) (xor_lt _ _ (sy_lt hb 0) (gm_lt _ _)) (gm_lt _ _) ?_ ?_ hE
  · intro e
    refine h1 j (by omega) (e1_on (a := atJ (syL l 6) i j) ?_)
    intro k hk
    rw [hE k hk, e, gm_zero_left, Nat.zero_xor]
  · intro e
    refine h1 i hi (e1_on (a := sy l 0 ^^^ atJ (syL l 6) i j) ?_)
    intro k hk
    rw [hE k hk, e, gm_zero_left, Nat.xor_zero]
theorem near_none {l : List Nat} (hl : l.length = 64) (hb : Bys l) (h0 : ¬ syL l 6 = [0, 0, 0, 0, 0, 0]) (h1 : ∀ i, i < 64 → ¬ On (syL l 6) i) (h2 : ∀ i j, i < 64 → j < i → ¬ Fo (woL (syL l 6) i 5) j 5) : IsDec l none :=
  dec_none hl hb (syL_some h0) (fun i _ hi _ h => h1 i hi (e1_on h)) (fun i j _ _ hi hj ha hb' _ _ h => h2 i j hi hj (e2_fo ha hb' h))
end Go.Proofs.YtifjmilegogbaaaGreat
