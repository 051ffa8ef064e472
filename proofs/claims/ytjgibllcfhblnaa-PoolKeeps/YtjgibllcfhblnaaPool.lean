/-
  What the functions of pool answer. No condition: lemmas.
-/
import Derived.Test.YtjgibllcfhblnaaBase
namespace Go.Proofs.Ytjgibllcfhblnaa
set_option maxRecDepth 100000
open Go.RowKit

/-- How many of the first k are s. -/
def cnt (F : Nat → Int) (s : Int) : Nat → Nat
  | 0 => 0
  | k + 1 => cnt F s k + if F k = s then 1 else 0
theorem cnt_le (F : Nat → Int) (s : Int) (k : Nat) : cnt F s k ≤ k := by
  induction k with
  | zero => exact Nat.le_refl _
  | succ k ih => unfold cnt; split <;> omega
theorem block_yes (w : World) (n : Int) (h0 : 0 ≤ n) (h1 : n < 12) : Calls Try.prog 28 #[.int .i64 n] w fun e w' => e = .returned (.bool true) ∧ w' = w := by
  go_enter Try.func28, Try.ntmps28
  go_wp2
  go_ret
  exact ⟨rfl, rfl⟩
theorem block_no (w : World) (n : Int) (h : n < 0 ∨ 12 ≤ n) : Calls Try.prog 28 #[.int .i64 n] w fun e w' => e = .returned (.bool false) ∧ w' = w := by
  by_cases h0 : 0 ≤ n
  · have h1 : ¬ n < 12 := by omega
    clear h
    go_enter Try.func28, Try.ntmps28
    go_wp2
    go_ret
    exact ⟨rfl, rfl⟩
  · clear h
    go_enter Try.func28, Try.ntmps28
    go_wp2
    go_ret
    exact ⟨rfl, rfl⟩
theorem state_yes (w : World) (n : Int) (h0 : 0 ≤ n) (h1 : n ≤ 3) : Calls Try.prog 29 #[.int .i64 n] w fun e w' => e = .returned (.bool true) ∧ w' = w := by
  go_enter Try.func29, Try.ntmps29
  go_wp2
  go_ret
  exact ⟨rfl, rfl⟩
theorem state_no (w : World) (n : Int) (h : n < 0 ∨ 3 < n) : Calls Try.prog 29 #[.int .i64 n] w fun e w' => e = .returned (.bool false) ∧ w' = w := by
  by_cases h0 : 0 ≤ n
  · have h1 : ¬ n ≤ 3 := by omega
    clear h
    go_enter Try.func29, Try.ntmps29
    go_wp2
    go_ret
    exact ⟨rfl, rfl⟩
  · clear h
    go_enter Try.func29, Try.ntmps29
    go_wp2
    go_ret
    exact ⟨rfl, rfl⟩
theorem new_any (w : World) : Calls Try.prog 7 #[] w fun e w' => e = .returned (.pointer (some ⟨w.heap.size, 0, none⟩)) ∧ IB w' w.heap.size 48 13 (fun _ => 0) ∧ Chg (fun _ => False) w w' := by
  go_enter Try.func7, Try.ntmps7
  go_wp2_with (refine wpList_alloc_row rfl 48 rfl w.heap.size rfl zero48 ?_)
  intro w1 K1 G1 S1
  have HK1 := hyd (show IB w1 w.heap.size 48 13 (fun _ => 0) from K1)
  have HG1 := hyd G1
  clear K1 G1 S1
  generalize HB : w.heap.size = b at *
  have HB := hyd HB
  go_wp2_with fail
  go_loopg [4] 12 (fun kx s4 wr => ∃ i : Nat, s4 = .int .i64 i ∧ i ≤ 12 ∧ 12 - i ≤ kx ∧ Hid (IB wr b 48 13 (fun _ => 0)) ∧ Hid (Chg (fun _ => False) w wr))
  case atStart => exact ⟨0, rfl, by omega, by omega, HK1, HG1⟩
  case round =>
  obtain ⟨i, rfl, hin, hkx, HK, HG⟩ := hrel
  clear HK1 HG1
  by_cases hlt : i < 12
  · have hltz : (i : Int) < 12 := by omega
    obtain ⟨c, f⟩ := HK.out.cell i (by omega)
    go_wp2
    go_roundg (12 - (i + 1))
    case measure => omega
    case rel => 
      refine ⟨i + 1, by simp, by omega, Nat.le_refl _, ?_, ?_⟩
      · exact (HK.out.set i 0).congr fun j _ => by unfold upd; split <;> rfl
      · exact HG.out.setCell (Or.inr (by rw [HB.out]; exact Nat.le_refl _)) _ _
  · have hltz : ¬ (i : Int) < 12 := by omega
    go_wp2
    go_ret
    exact ⟨rfl, HK.out, HG.out⟩
theorem get_yes (w : World) (b : Nat) (F : Nat → Int) (h : IB w b 48 13 F) (n : Nat) (hn : n < 12) : Calls Try.prog 16 #[.pointer (some ⟨b, 0, none⟩), .int .i64 n] w fun e w' => e = .returned (.tuple #[.int .i64 (F n), .nilIface]) ∧ w' = w := by
  obtain ⟨c, -⟩ := h.cell n (by omega)
  have h1 : (n : Int) < 12 := by omega
  clear h
  go_enter Try.func16, Try.ntmps16
  go_wp2_with (go_at_call 28; refine (block_yes _ _ (by omega) h1).mono ?_; rintro e w1 ⟨rfl, rfl⟩)
  go_ret2
  exact ⟨rfl, rfl⟩
theorem get_no (w : World) (b : Nat) (n : Int) (hn : n < 0 ∨ 12 ≤ n) : Calls Try.prog 16 #[.pointer (some ⟨b, 0, none⟩), .int .i64 n] w fun e w' => e = .returned (.tuple #[.int .i64 0, .iface 56 (.int .i64 1)]) ∧ w' = w := by
  go_enter Try.func16, Try.ntmps16
  go_wp2_with (go_at_call 28; refine (block_no _ _ hn).mono ?_; rintro e w1 ⟨rfl, rfl⟩)
  go_ret2
  exact ⟨rfl, rfl⟩
theorem count_any (w : World) (b : Nat) (F : Nat → Int) (h : IB w b 48 13 F) (s : Int) : Calls Try.prog 17 #[.pointer (some ⟨b, 0, none⟩), .int .i64 s] w fun e w' => e = .returned (.int .i64 (cnt F s 12 : Nat)) ∧ w' = w := by
  have HK := hyd h
  clear h
  go_enter Try.func17, Try.ntmps17
  go_wp2_with fail
  go_loopg [5, 7] 12 (fun kx s5 s7 wr => ∃ i : Nat, s7 = .int .i64 i ∧ s5 = .int .i64 (cnt F s i : Nat) ∧ i ≤ 12 ∧ 12 - i ≤ kx ∧ wr = w)
  case atStart => exact ⟨0, rfl, rfl, by omega, by omega, rfl⟩
  case round =>
  obtain ⟨i, rfl, rfl, hin, hkx, rfl⟩ := hrel
  by_cases hlt : i < 12
  · have hltz : (i : Int) < 12 := by omega
    obtain ⟨c, f⟩ := HK.out.cell i (by omega)
    have hc := cnt_le F s i
    have HE : Hid (cnt F s (i + 1) = cnt F s i + if F i = s then 1 else 0) := rfl
    by_cases he : F i = s
    · have hb : (F i == s) = true := by simp [he]
      rw [if_pos he] at HE
      clear he
      go_wp2
      go_roundg (12 - (i + 1))
      case measure => omega
      case rel => exact ⟨i + 1, by simp, by rw [HE.out]; simp, by omega, Nat.le_refl _, rfl⟩
    · have hb : (F i == s) = false := by simp [he]
      rw [if_neg he] at HE
      clear he
      go_wp2
      go_roundg (12 - (i + 1))
      case measure => omega
      case rel => exact ⟨i + 1, by simp, by rw [HE.out]; simp, by omega, Nat.le_refl _, rfl⟩
  · have hltz : ¬ (i : Int) < 12 := by omega
    have h12 : i = 12 := by omega
    subst h12
    go_wp2
    go_ret
    exact ⟨rfl, rfl⟩
end Go.Proofs.Ytjgibllcfhblnaa
