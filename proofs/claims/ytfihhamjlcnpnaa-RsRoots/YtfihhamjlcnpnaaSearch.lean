/-
  Where one damaged symbol lies, where two lie. Condition: the block holds a Codec that New gave; the bytes are bytes.
-/
import Derived.Test.YtfihhamjlcnpnaaFollows
import Derived.ChangeKeysEq
import Derived.OwnWalk
namespace Go.Proofs.Ytfihhamjlcnpnaa
open Go.RowKit
set_option maxRecDepth 100000

theorem plain5 : Try.prog.plainKey 5 = true := by kernel_rfl
theorem cells5 : Try.prog.cellsOf 5 = 1 := by kernel_rfl
theorem eq_items (d : Nat) (l l' : List Nat) (w : World) (is : List Nat) (hin : ∀ i ∈ is, i < l.length ∧ i < l'.length) :
    ∃ r : Bool, (Op.eqItems (d + 1) 5 1 (bcells l) (bcells l') is).run Try.prog w = .ok r w ∧ (r = true ↔ ∀ i ∈ is, l.getD i 0 = l'.getD i 0) := by
  induction is with
  | nil => exact ⟨true, by simp [Op.eqItems], by simp⟩
  | cons i is ih =>
    obtain ⟨r, hr, hiff⟩ := ih (fun j hj => hin j (by simp [hj]))
    obtain ⟨h1, h2⟩ := hin i (by simp)
    have p1 := run_part_plain (P := Try.prog) w plain5 (xs := bcells l) (off := i * 1) (by rw [Nat.mul_one]; exact bcells_at l i h1)
    have p2 := run_part_plain (P := Try.prog) w plain5 (xs := bcells l') (off := i * 1) (by rw [Nat.mul_one]; exact bcells_at l' i h2)
    have p3 := run_equalIn_int (P := Try.prog) w d 5 .u8 .u8 (l.getD i 0 : Nat) (l'.getD i 0 : Nat) Try.underlying5
    simp only [Op.eqItems, Sem.run_bind, p1, p2, p3, Result.andThen_ok]
    by_cases e : l.getD i 0 = l'.getD i 0
    · have e2 : (((l.getD i 0 : Nat) : Int) == (l'.getD i 0 : Nat)) = true := by rw [e]; exact beq_self_eq_true _
      refine ⟨r, by simp only [e2]; simpa using hr, ?_⟩
      rw [hiff]; simp only [List.mem_cons, forall_eq_or_imp]; exact ⟨fun h => ⟨e, h⟩, fun h => h.2⟩
    · have e' : ((l.getD i 0 : Nat) : Int) ≠ (l'.getD i 0 : Nat) := by omega
      refine ⟨false, by simp only [beq_eq_false_iff_ne.2 e']; simp, ?_⟩
      simp only [List.mem_cons, forall_eq_or_imp]
      exact ⟨fun h => by simp at h, fun h => absurd h.1 e⟩
theorem eq_arr (d : Nat) (w : World) (t : TypeId) (n : Nat) (hu : Try.prog.underlying t = some (.array n 5)) (l l' : List Nat) (h1 : l.length = n) (h2 : l'.length = n) :
    (Op.equalIn (d + 2) t (.agg (bcells l)) (.agg (bcells l'))).run Try.prog w = .ok (decide (l = l')) w := by
  obtain ⟨i5, hi5, _⟩ := info5
  rw [run_equalIn_array w (d + 1) _ _ hu hi5, cells5]
  obtain ⟨r, hr, hiff⟩ := eq_items d l l' w (List.range n) (fun i hi => by rw [List.mem_range] at hi; omega)
  rw [hr]
  congr 1
  rw [Bool.eq_iff_iff, hiff, decide_eq_true_iff]
  constructor
  · intro h
    exact getD_ext (by omega) (fun i hi => h i (by rw [List.mem_range]; omega))
  · rintro rfl i _; rfl
/-- Place i alone makes these syndromes. -/
def On (s : List Nat) (i : Nat) : Prop := ∀ k, k < 5 → wo s i k = 0
theorem On.iff (s : List Nat) (i : Nat) : On s i ↔ woL s i 5 = [0, 0, 0, 0, 0] := by
  constructor
  · intro h
    apply getD_ext (by rw [woL_length]; rfl)
    intro k hk
    rw [woL_length] at hk
    rw [woL_getD s i k hk, h k hk]
    rcases (by omega : k = 0 ∨ k = 1 ∨ k = 2 ∨ k = 3 ∨ k = 4) with e | e | e | e | e <;> subst e <;> rfl
  · intro h k hk
    rw [← woL_getD s i k hk, h]
    rcases (by omega : k = 0 ∨ k = 1 ∨ k = 2 ∨ k = 3 ∨ k = 4) with e | e | e | e | e <;> subst e <;> rfl

set_option maxHeartbeats 2000000 in
theorem one_any (q b : Nat) (w : World) (h : Cod w q b) (s : List Nat) (hs : s.length = 6) (hb : Bys s) :
    Calls Try.prog 44 #[.pointer (some ⟨q, 0, none⟩), .agg (bcells s)] w fun e w' =>
      ((∃ i : Nat, i < 64 ∧ e = .returned (.tuple #[.int .i64 i, .bool true]) ∧ On s i) ∨ (e = .returned (.tuple #[.int .i64 0, .bool false]) ∧ ∀ i, i < 64 → ¬ On s i)) ∧ Cod w' q b ∧ But b w w' := by
  have hz := zero100
  have hne := h.ne
  have hq := h.lt
  have hbb := h.1.lt
  go_enter Try.func44, Try.ntmps44
  go_wp2_with fail
  go_loopw [7] (fun t wr => ∃ i : Nat, i ≤ 64 ∧ t = .int .i64 i ∧ (∀ m, m < i → ¬ On s m) ∧ Arr wr w.heap.size 63 s ∧ Cod wr q b ∧ But b w wr) (fun t _ => 64 - (intOf t).toNat)
  case atStart =>
    exact ⟨0, by omega, rfl, fun m hm => by omega, Arr.new w 63 s, h.alloc _, (But.refl _ _).alloc _⟩
  case round =>
    obtain ⟨i, hi, rfl, hNo, hA, hC, hB⟩ := hrel
    by_cases hlt : i < 64
    · have HNo := hyd hNo
      clear hNo
      have hlt' : (i : Int) < 64 := by omega
      by_cases hOn : On s i
      · have heq : ∀ w, (Op.equalIn 10000 100 (.agg (bcells (woL s i 5))) (.agg (bcells [0, 0, 0, 0, 0]))).run Try.prog w = .ok true w := fun w => by
          rw [eq_arr 9998 w 100 5 Try.underlying100 (woL s i 5) [0, 0, 0, 0, 0] (woL_length _ _ _) rfl, decide_eq_true ((On.iff s i).1 hOn)]
        have HO := hyd hOn
        clear hOn
        go_wp2_with (first | (refine wpList_load_arr rfl 63 (.tmp 3) rfl _ rfl hA Try.underlying63 size63 hs ?_) | (go_at_call 49; refine (without_any q b _ hC s hs hb i hlt).mono ?_; rintro e w2 ⟨rfl, hC2, hB2⟩))
        go_ret2
        exact ⟨Or.inl ⟨i, hlt, rfl, HO.out⟩, hC2, hB.trans hB2⟩
      · have heq : ∀ w, (Op.equalIn 10000 100 (.agg (bcells (woL s i 5))) (.agg (bcells [0, 0, 0, 0, 0]))).run Try.prog w = .ok false w := fun w => by
          rw [eq_arr 9998 w 100 5 Try.underlying100 (woL s i 5) [0, 0, 0, 0, 0] (woL_length _ _ _) rfl, decide_eq_false (fun e => hOn ((On.iff s i).2 e))]
        have HO := hyd hOn
        clear hOn
        go_wp2_with (first | (refine wpList_load_arr rfl 63 (.tmp 3) rfl _ rfl hA Try.underlying63 size63 hs ?_) | (go_at_call 49; refine (without_any q b _ hC s hs hb i hlt).mono ?_; rintro e w2 ⟨rfl, hC2, hB2⟩))
        exact ⟨⟨i + 1, by omega, by go_num, fun m hm => by
          by_cases e : m = i
          · rw [e]; exact HO.out
          · exact HNo.out m (by omega), hA.but hB2 (by omega), hC2, hB.trans hB2⟩, by simp [intOf]; omega⟩
    · have HNo := hyd hNo
      clear hNo
      go_wp2
      go_ret2
      exact ⟨Or.inr ⟨rfl, fun m hm => HNo.out m (by omega)⟩, hC, hB⟩

set_option maxHeartbeats 4000000 in
theorem two_any (q b : Nat) (w : World) (h : Cod w q b) (s : List Nat) (hs : s.length = 6) (hb : Bys s) :
    Calls Try.prog 45 #[.pointer (some ⟨q, 0, none⟩), .agg (bcells s)] w fun e w' =>
      ((∃ i j : Nat, i < 64 ∧ j < i ∧ e = .returned (.tuple #[.int .i64 i, .int .i64 j, .bool true]) ∧ Fo (woL s i 5) j 5) ∨
        (e = .returned (.tuple #[.int .i64 0, .int .i64 0, .bool false]) ∧ ∀ i j, i < 64 → j < i → ¬ Fo (woL s i 5) j 5)) ∧ Cod w' q b ∧ But b w w' := by
  have hz := zero100
  have hne := h.ne
  have hq := h.lt
  have hbb := h.1.lt
  go_enter Try.func45, Try.ntmps45
  go_wp2_with fail
  go_step3
  go_wp2_with fail
  go_step3
  go_wp2_with fail
  go_loopw [7, 8, 9, 13] (fun a1 a2 a3 t wr => a1 = .int .i64 0 ∧ a2 = .int .i64 0 ∧ a3 = .bool false ∧ ∃ i : Nat, i ≤ 64 ∧ t = .int .i64 i ∧ (∀ m j, m < i → j < m → ¬ Fo (woL s m 5) j 5) ∧ Arr wr w.heap.size 63 s ∧ Cod wr q b ∧ But b w wr) (fun _ _ _ t _ => 64 - (intOf t).toNat)
  case atStart =>
    exact ⟨rfl, rfl, rfl, 0, by omega, rfl, fun m j hm => by omega, Arr.new w 63 s, h.alloc _, (But.refl _ _).alloc _⟩
  case round =>
    obtain ⟨rfl, rfl, rfl, i, hi, rfl, hNo, hA, hC, hB⟩ := hrel
    have HNo := hyd hNo
    clear hNo
    by_cases hlt : i < 64
    · have hlt' : (i : Int) < 64 := by omega
      go_wp2_with (first | (refine wpList_load_arr rfl 63 (.tmp 3) rfl _ rfl hA Try.underlying63 size63 hs ?_) | (go_at_call 49; refine (without_any q b _ hC s hs hb i hlt).mono ?_; rintro e w2 ⟨rfl, hC2, hB2⟩) | (refine wpList_store_arr rfl 100 (.tmp 11) (.tmp 19) rfl _ _ rfl rfl (Arr.new w2 100 [0, 0, 0, 0, 0]) size100 rfl (woL_length _ _ _) ?_))
      have hA3 : Arr ((w2.alloc (.cells (bcells [0, 0, 0, 0, 0]) 100)).setRow w2.heap.size (bcells (woL s i 5))) w.heap.size 63 s :=
        ((hA.but hB2 (by omega)).alloc _).rowOther (by have := (hA.but hB2 (by omega)).lt; omega) _
      have hR3 : Arr ((w2.alloc (.cells (bcells [0, 0, 0, 0, 0]) 100)).setRow w2.heap.size (bcells (woL s i 5))) w2.heap.size 100 (woL s i 5) := (Arr.new w2 100 [0, 0, 0, 0, 0]).row _
      have hC3 : Cod ((w2.alloc (.cells (bcells [0, 0, 0, 0, 0]) 100)).setRow w2.heap.size (bcells (woL s i 5))) q b :=
        (hC2.alloc _).setRow (by have := hC2.lt; omega) (by have := hC2.1.lt; omega) _
      have hB3 : But b w ((w2.alloc (.cells (bcells [0, 0, 0, 0, 0]) 100)).setRow w2.heap.size (bcells (woL s i 5))) :=
        (((hB.trans hB2)).alloc _).setRow (by have := (hB.trans hB2).size; omega) _
      have hg2 : b < w2.heap.size := hC2.1.lt
      have hg3 : w.heap.size ≠ w2.heap.size := by have := (hA.but hB2 (by omega)).lt; omega
      generalize (w2.alloc (.cells (bcells [0, 0, 0, 0, 0]) 100)).setRow w2.heap.size (bcells (woL s i 5)) = w3 at *
      clear hC2 hB2 hA hC hB
      generalize w2.heap.size = g2 at *
      go_loopw [7, 8, 9, 21] (fun a1 a2 a3 t wx => a1 = .int .i64 0 ∧ a2 = .int .i64 0 ∧ a3 = .bool false ∧ ∃ j : Nat, j ≤ i ∧ t = .int .i64 j ∧ (∀ m, m < j → ¬ Fo (woL s i 5) m 5) ∧ Arr wx w.heap.size 63 s ∧ Arr wx g2 100 (woL s i 5) ∧ Cod wx q b ∧ But b w wx) (fun _ _ _ t _ => i - (intOf t).toNat)
      case atStart => exact ⟨rfl, rfl, rfl, 0, by omega, rfl, fun m hm => by omega, hA3, hR3, hC3, hB3⟩
      case round =>
        clear hA3 hR3 hC3 hB3
        obtain ⟨rfl, rfl, rfl, j, hj, rfl, hNj, hA, hR, hC, hB⟩ := hrel
        have HNj := hyd hNj
        clear hNj
        by_cases hlt2 : j < i
        · have hlt2' : (j : Int) < (i : Int) := by omega
          go_wp2_with (first | (refine wpList_load_arr rfl 100 (.tmp 11) rfl _ rfl hR Try.underlying100 size100 (woL_length _ _ _) ?_) | (go_at_call 50; refine (follows_any q b _ hC (woL s i 5) (woL_length _ _ _) (woL_bys hb i 5) j (by omega)).mono ?_; rintro e w4 ⟨t, rfl, ht, hC4, hB4⟩; have HT := hyd ht; clear ht; cases t))
          · have hnF : ¬ Fo (woL s i 5) j 5 := fun e => by have := HT.out.2 e; simp at this
            have HnF := hyd hnF
            exact ⟨⟨rfl, rfl, rfl, j + 1, by omega, by go_num, fun m hm => by
              by_cases e : m = j
              · rw [e]; exact HnF.out
              · exact HNj.out m (by omega), hA.but hB4 (by omega), hR.but hB4 (by omega), hC4, hB.trans hB4⟩, by simp [intOf]; omega⟩
          · rw [Exit.noGoto_ret]
            go_ret3
            exact ⟨Or.inl ⟨i, j, hlt, hlt2, rfl, HT.out.1 trivial⟩, hC4, hB.trans hB4⟩
        · go_wp2
          exact ⟨⟨rfl, rfl, rfl, i + 1, by omega, by go_num, fun m n hm hn => by
            by_cases e : m = i
            · rw [e]; rw [e] at hn; exact HNj.out n (by omega)
            · exact HNo.out m n (by omega) hn, hA, hC, hB⟩, by simp [intOf]; omega⟩
    · go_wp2
      rw [Exit.noGoto_ret]
      go_ret3
      exact ⟨Or.inr ⟨rfl, fun m n hm hn => HNo.out m n (by omega) hn⟩, hC, hB⟩
end Go.Proofs.Ytfihhamjlcnpnaa
