/-
  What the functions of geom and of its document answer, case by case. No condition: lemmas.
-/
import Derived.Test.YtkkbmfdmfkpgpaaBase
namespace Go.Proofs.Ytkkbmfdmfkpgpaa
set_option maxRecDepth 100000
open Go.RowKit

theorem below_yes (w : World) (n m : Int) (h : 0 ≤ n ∧ n < m) : Calls Try.prog 22 #[.int .i64 n, .int .i64 m] w fun e w' => e = .returned (.bool true) ∧ w' = w := by
  obtain ⟨h0, h1⟩ := h
  go_enter Try.func22, Try.ntmps22
  go_wp2
  go_ret
  exact ⟨rfl, rfl⟩
theorem below_no (w : World) (n m : Int) (h : n < 0 ∨ m ≤ n) : Calls Try.prog 22 #[.int .i64 n, .int .i64 m] w fun e w' => e = .returned (.bool false) ∧ w' = w := by
  by_cases h0 : 0 ≤ n
  · have h1 : ¬ n < m := by omega
    clear h
    go_enter Try.func22, Try.ntmps22
    go_wp2
    go_ret
    exact ⟨rfl, rfl⟩
  · clear h
    go_enter Try.func22, Try.ntmps22
    go_wp2
    go_ret
    exact ⟨rfl, rfl⟩
theorem is_yes (w : World) (n : Int) (h : 0 ≤ n ∧ n < 96) : Calls Try.prog 21 #[.int .i64 n] w fun e w' => e = .returned (.bool true) ∧ w' = w := by
  have h0 : n ≥ 0 := h.1
  have h1 : n ≤ 95 := by omega
  clear h
  go_enter Try.func21, Try.ntmps21
  go_wp2
  go_ret
  exact ⟨rfl, rfl⟩
theorem is_no (w : World) (n : Int) (h : n < 0 ∨ 96 ≤ n) : Calls Try.prog 21 #[.int .i64 n] w fun e w' => e = .returned (.bool false) ∧ w' = w := by
  by_cases h0 : 0 ≤ n
  · have h1 : ¬ n ≤ 95 := by omega
    clear h
    go_enter Try.func21, Try.ntmps21
    go_wp2
    go_ret
    exact ⟨rfl, rfl⟩
  · clear h
    go_enter Try.func21, Try.ntmps21
    go_wp2
    go_ret
    exact ⟨rfl, rfl⟩
theorem place_in (w : World) (b i : Int) (hb : 0 ≤ b ∧ b < 12) (hi : 0 ≤ i ∧ i < 8) : Calls Try.prog 19 #[.int .i64 b, .int .i64 i] w fun e w' => e = .returned (.tuple #[.int .i64 (b * 8 + i), .nilIface]) ∧ w' = w := by
  obtain ⟨b0, b1⟩ := hb
  obtain ⟨i0, i1⟩ := hi
  go_enter Try.func19, Try.ntmps19
  go_wp2_with fail
  refine (below_yes w b 12 ⟨b0, b1⟩).mono ?_
  rintro e w1 ⟨rfl, rfl⟩
  go_wp2_with fail
  refine (below_yes w1 i 8 ⟨i0, i1⟩).mono ?_
  rintro e w2 ⟨rfl, rfl⟩
  go_wp2
  go_ret2
  exact ⟨rfl, rfl⟩
theorem place_out (w : World) (b i : Int) (h : (b < 0 ∨ 12 ≤ b) ∨ (i < 0 ∨ 8 ≤ i)) : Calls Try.prog 19 #[.int .i64 b, .int .i64 i] w fun e w' => e = .returned (.tuple #[.int .i64 0, .iface 45 (.int .i64 1)]) ∧ w' = w := by
  by_cases hb : 0 ≤ b ∧ b < 12
  · have hi : i < 0 ∨ 8 ≤ i := by omega
    clear h
    obtain ⟨b0, b1⟩ := hb
    go_enter Try.func19, Try.ntmps19
    go_wp2_with fail
    refine (below_yes w b 12 ⟨b0, b1⟩).mono ?_
    rintro e w1 ⟨rfl, rfl⟩
    go_wp2_with fail
    refine (below_no w1 i 8 hi).mono ?_
    rintro e w2 ⟨rfl, rfl⟩
    go_wp2
    go_ret2
    exact ⟨rfl, rfl⟩
  · have hb' : b < 0 ∨ 12 ≤ b := by omega
    clear h hb
    go_enter Try.func19, Try.ntmps19
    go_wp2_with fail
    refine (below_no w b 12 hb').mono ?_
    rintro e w1 ⟨rfl, rfl⟩
    go_wp2
    go_ret2
    exact ⟨rfl, rfl⟩
theorem holds_in (w : World) (p o : Int) (h : 0 ≤ p ∧ p < 96) (ho : 0 ≤ o ∧ o < 25) : Calls Try.prog 20 #[.int .i64 p, .int .i64 o] w fun e w' => e = .returned (.tuple #[.bool (decide (o = 24 ∨ p % 8 < 6)), .nilIface]) ∧ w' = w := by
  obtain ⟨h0, h1⟩ := h
  by_cases e1 : o = 24
  · rw [show decide (o = 24 ∨ p % 8 < 6) = true from decide_eq_true (Or.inl e1)]
    have e2 : (o == 24) = true := by simp [e1]
    clear e1
    go_enter Try.func20, Try.ntmps20
    go_wp2_with fail
    refine (below_yes w p 96 ⟨h0, h1⟩).mono ?_
    rintro e w1 ⟨rfl, rfl⟩
    go_wp2_with fail
    refine (below_yes w1 o 25 ho).mono ?_
    rintro e w2 ⟨rfl, rfl⟩
    go_wp2
    go_ret2
    exact ⟨rfl, rfl⟩
  · rw [show decide (o = 24 ∨ p % 8 < 6) = decide (p % 8 < 6) from by simp [e1]]
    have e2 : (o == 24) = false := by simp [e1]
    clear e1
    go_enter Try.func20, Try.ntmps20
    go_wp2_with fail
    refine (below_yes w p 96 ⟨h0, h1⟩).mono ?_
    rintro e w1 ⟨rfl, rfl⟩
    go_wp2_with fail
    refine (below_yes w1 o 25 ho).mono ?_
    rintro e w2 ⟨rfl, rfl⟩
    go_wp2
    go_ret2
    exact ⟨rfl, rfl⟩
theorem rholds_in (w : World) (p o : Int) (h : 0 ≤ p ∧ p < 96) (ho : 0 ≤ o ∧ o < 25) : Calls Try.prog 18 #[.int .i64 p, .int .i64 o] w fun e w' => e = .returned (.tuple #[.bool (decide (o = 24 ∨ p % 8 < 6)), .int .i64 0]) ∧ w' = w := by
  obtain ⟨h0, h1⟩ := h
  have o0 : ¬ o < 0 := by omega
  have o1 : ¬ 24 < o := by omega
  by_cases e1 : o = 24
  · rw [show decide (o = 24 ∨ p % 8 < 6) = true from decide_eq_true (Or.inl e1)]
    have e2 : (o == 24) = true := by simp [e1]
    clear e1
    go_enter Try.func18, Try.ntmps18
    go_wp2_with fail
    refine (is_yes w p ⟨h0, h1⟩).mono ?_
    rintro e w1 ⟨rfl, rfl⟩
    go_wp2
    go_ret2
    exact ⟨rfl, rfl⟩
  · rw [show decide (o = 24 ∨ p % 8 < 6) = decide (p % 8 < 6) from by simp [e1]]
    have e2 : (o == 24) = false := by simp [e1]
    clear e1
    go_enter Try.func18, Try.ntmps18
    go_wp2_with fail
    refine (is_yes w p ⟨h0, h1⟩).mono ?_
    rintro e w1 ⟨rfl, rfl⟩
    go_wp2
    go_ret2
    exact ⟨rfl, rfl⟩
theorem holds_out (w : World) (p o : Int) (h : (p < 0 ∨ 96 ≤ p) ∨ (o < 0 ∨ 25 ≤ o)) : Calls Try.prog 20 #[.int .i64 p, .int .i64 o] w fun e w' => e = .returned (.tuple #[.bool false, .iface 45 (.int .i64 1)]) ∧ w' = w := by
  by_cases hp : 0 ≤ p ∧ p < 96
  · have ho : o < 0 ∨ 25 ≤ o := by omega
    clear h
    obtain ⟨h0, h1⟩ := hp
    go_enter Try.func20, Try.ntmps20
    go_wp2_with fail
    refine (below_yes w p 96 ⟨h0, h1⟩).mono ?_
    rintro e w1 ⟨rfl, rfl⟩
    go_wp2_with fail
    refine (below_no w1 o 25 ho).mono ?_
    rintro e w2 ⟨rfl, rfl⟩
    go_wp2
    go_ret2
    exact ⟨rfl, rfl⟩
  · have hp' : p < 0 ∨ 96 ≤ p := by omega
    clear h hp
    go_enter Try.func20, Try.ntmps20
    go_wp2_with fail
    refine (below_no w p 96 hp').mono ?_
    rintro e w1 ⟨rfl, rfl⟩
    go_wp2
    go_ret2
    exact ⟨rfl, rfl⟩
theorem rholds_out (w : World) (p o : Int) (h : (p < 0 ∨ 96 ≤ p) ∨ (o < 0 ∨ 25 ≤ o)) : Calls Try.prog 18 #[.int .i64 p, .int .i64 o] w fun e w' => e = .returned (.tuple #[.bool false, .int .i64 1]) ∧ w' = w := by
  by_cases hp : 0 ≤ p ∧ p < 96
  · by_cases o0 : o < 0
    · clear h
      go_enter Try.func18, Try.ntmps18
      go_wp2_with fail
      refine (is_yes w p hp).mono ?_
      rintro e w1 ⟨rfl, rfl⟩
      go_wp2
      go_ret2
      exact ⟨rfl, rfl⟩
    · have o1 : 24 < o := by omega
      clear h
      go_enter Try.func18, Try.ntmps18
      go_wp2_with fail
      refine (is_yes w p hp).mono ?_
      rintro e w1 ⟨rfl, rfl⟩
      go_wp2
      go_ret2
      exact ⟨rfl, rfl⟩
  · have hp' : p < 0 ∨ 96 ≤ p := by omega
    clear h hp
    go_enter Try.func18, Try.ntmps18
    go_wp2_with fail
    refine (is_no w p hp').mono ?_
    rintro e w1 ⟨rfl, rfl⟩
    go_wp2
    go_ret2
    exact ⟨rfl, rfl⟩
end Go.Proofs.Ytkkbmfdmfkpgpaa
