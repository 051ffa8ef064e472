/-
  What the functions of geom and of its document answer, case by case. No condition: lemmas.
-/
import Derived.Test.YtckggelkfkjnkaaRows
import Derived.WalkKit
import Derived.Deep.RegionWith
import Derived.Deep.Draws
import Derived.BigQuiet
import Derived.ChangeAlike
import Derived.Deep.QuietTactic
import Derived.Outline
import Derived.RegionCalls
import Derived.RegionTactic
import Derived.WalkLawsBesides
import Derived.WalkSpells
namespace Go.Proofs.Ytckggelkfkjnkaa
set_option maxRecDepth 100000
open Go.RowKit

theorem hyd {p : Prop} (h : p) : Hid p := h

theorem four_results {fn : Func} {t u v x : Tmp} (h : fn.results = #[.tmp t, .tmp u, .tmp v, .tmp x]) (tmps : Array Value) (P : Program) (w : World) :
    (results fn tmps).run P w = .ok (.tuple #[tmps.getD t undef, tmps.getD u undef, tmps.getD v undef, tmps.getD x undef]) w := by
  simp [results, h]
theorem eql_nil_nil (w : World) : (binOp .eql 24 .nilIface .nilIface).run Try.prog w = .ok (.bool true) w := by kernel_rfl
theorem eql_arg_nil (w : World) : (binOp .eql 24 (.iface 46 (.int .i64 1)) .nilIface).run Try.prog w = .ok (.bool false) w := by kernel_rfl
theorem eql_arg_arg (w : World) : (binOp .eql 24 (.iface 46 (.int .i64 1)) (.iface 46 (.int .i64 1))).run Try.prog w = .ok (.bool true) w := by kernel_rfl
theorem neq_nil_nil (w : World) : (binOp .neq 24 .nilIface .nilIface).run Try.prog w = .ok (.bool false) w := by kernel_rfl
theorem neq_arg_nil (w : World) : (binOp .neq 24 (.iface 46 (.int .i64 1)) .nilIface).run Try.prog w = .ok (.bool true) w := by kernel_rfl

theorem below_yes (w : World) (n m : Int) (h : 0 ≤ n ∧ n < m) : Calls Try.prog 20 #[.int .i64 n, .int .i64 m] w fun e w' => e = .returned (.bool true) ∧ w' = w := by
  obtain ⟨h0, h1⟩ := h
  go_enter Try.func20, Try.ntmps20
  go_wp2
  go_ret
  exact ⟨rfl, rfl⟩
theorem below_no (w : World) (n m : Int) (h : n < 0 ∨ m ≤ n) : Calls Try.prog 20 #[.int .i64 n, .int .i64 m] w fun e w' => e = .returned (.bool false) ∧ w' = w := by
  by_cases h0 : 0 ≤ n
  · have h1 : ¬ n < m := by omega
    clear h
    go_enter Try.func20, Try.ntmps20
    go_wp2
    go_ret
    exact ⟨rfl, rfl⟩
  · clear h
    go_enter Try.func20, Try.ntmps20
    go_wp2
    go_ret
    exact ⟨rfl, rfl⟩
theorem is_yes (w : World) (n : Int) (h : 0 ≤ n ∧ n < 96) : Calls Try.prog 21 #[.int .i64 n] w fun e w' => e = .returned (.bool true) ∧ w' = w := by
  have h0 : n ≥ 0 := h.1
  have h1 : n ≤ 95 := by omega
  clear h
  go_enter Try.func21, Try.ntmps21
  go_wp2
  go_ret
  exact ⟨rfl, rfl⟩
theorem is_no (w : World) (n : Int) (h : n < 0 ∨ 96 ≤ n) : Calls Try.prog 21 #[.int .i64 n] w fun e w' => e = .returned (.bool false) ∧ w' = w := by
  by_cases h0 : 0 ≤ n
  · have h1 : ¬ n ≤ 95 := by omega
    clear h
    go_enter Try.func21, Try.ntmps21
    go_wp2
    go_ret
    exact ⟨rfl, rfl⟩
  · clear h
    go_enter Try.func21, Try.ntmps21
    go_wp2
    go_ret
    exact ⟨rfl, rfl⟩
theorem code_nil (w : World) : Calls Try.prog 13 #[.nilIface] w fun e w' => e = .returned (.int .i64 0) ∧ w' = w := by
  have q := eql_nil_nil
  go_enter Try.func13, Try.ntmps13
  go_wp2
  go_ret
  exact ⟨rfl, rfl⟩
theorem code_arg (w : World) : Calls Try.prog 13 #[.iface 46 (.int .i64 1)] w fun e w' => e = .returned (.int .i64 1) ∧ w' = w := by
  have q := eql_arg_nil
  have q' := eql_arg_arg
  go_enter Try.func13, Try.ntmps13
  go_wp2
  go_ret
  exact ⟨rfl, rfl⟩
theorem place_in (w : World) (b i : Int) (hb : 0 ≤ b ∧ b < 12) (hi : 0 ≤ i ∧ i < 8) : Calls Try.prog 9 #[.int .i64 b, .int .i64 i] w fun e w' => e = .returned (.tuple #[.int .i64 (b * 8 + i), .nilIface]) ∧ w' = w := by
  obtain ⟨b0, b1⟩ := hb
  obtain ⟨i0, i1⟩ := hi
  go_enter Try.func9, Try.ntmps9
  go_wp2_with fail
  refine (below_yes w b 12 ⟨b0, b1⟩).mono ?_
  rintro e w1 ⟨rfl, rfl⟩
  go_wp2_with fail
  refine (below_yes w1 i 8 ⟨i0, i1⟩).mono ?_
  rintro e w2 ⟨rfl, rfl⟩
  go_wp2
  go_ret2
  exact ⟨rfl, rfl⟩
theorem place_out (w : World) (b i : Int) (h : (b < 0 ∨ 12 ≤ b) ∨ (i < 0 ∨ 8 ≤ i)) : Calls Try.prog 9 #[.int .i64 b, .int .i64 i] w fun e w' => e = .returned (.tuple #[.int .i64 0, .iface 46 (.int .i64 1)]) ∧ w' = w := by
  by_cases hb : 0 ≤ b ∧ b < 12
  · have hi : i < 0 ∨ 8 ≤ i := by omega
    clear h
    obtain ⟨b0, b1⟩ := hb
    go_enter Try.func9, Try.ntmps9
    go_wp2_with fail
    refine (below_yes w b 12 ⟨b0, b1⟩).mono ?_
    rintro e w1 ⟨rfl, rfl⟩
    go_wp2_with fail
    refine (below_no w1 i 8 hi).mono ?_
    rintro e w2 ⟨rfl, rfl⟩
    go_wp2
    go_ret2
    exact ⟨rfl, rfl⟩
  · have hb' : b < 0 ∨ 12 ≤ b := by omega
    clear h hb
    go_enter Try.func9, Try.ntmps9
    go_wp2_with fail
    refine (below_no w b 12 hb').mono ?_
    rintro e w1 ⟨rfl, rfl⟩
    go_wp2
    go_ret2
    exact ⟨rfl, rfl⟩
theorem rplace_in (w : World) (b i : Int) (hb : 0 ≤ b ∧ b < 12) (hi : 0 ≤ i ∧ i < 8) : Calls Try.prog 11 #[.int .i64 b, .int .i64 i] w fun e w' => e = .returned (.tuple #[.int .i64 (b * 8 + i), .int .i64 0]) ∧ w' = w := by
  have b0 : ¬ b < 0 := by omega
  have b1 : ¬ 11 < b := by omega
  have i0 : ¬ i < 0 := by omega
  have i1 : ¬ 7 < i := by omega
  clear hb hi
  go_enter Try.func11, Try.ntmps11
  go_wp2
  go_ret2
  refine ⟨?_, rfl⟩
  show Ending.returned (.tuple #[.int .i64 (8 * b + i), .int .i64 0]) = _
  rw [Int.mul_comm]
theorem rplace_out (w : World) (b i : Int) (h : (b < 0 ∨ 12 ≤ b) ∨ (i < 0 ∨ 8 ≤ i)) : Calls Try.prog 11 #[.int .i64 b, .int .i64 i] w fun e w' => e = .returned (.tuple #[.int .i64 0, .int .i64 1]) ∧ w' = w := by
  by_cases b0 : b < 0
  · clear h
    go_enter Try.func11, Try.ntmps11
    go_wp2
    go_ret2
    exact ⟨rfl, rfl⟩
  by_cases b1 : 11 < b
  · clear h
    go_enter Try.func11, Try.ntmps11
    go_wp2
    go_ret2
    exact ⟨rfl, rfl⟩
  by_cases i0 : i < 0
  · clear h
    go_enter Try.func11, Try.ntmps11
    go_wp2
    go_ret2
    exact ⟨rfl, rfl⟩
  have i1 : 7 < i := by omega
  clear h
  go_enter Try.func11, Try.ntmps11
  go_wp2
  go_ret2
  exact ⟨rfl, rfl⟩
theorem parts_in (w : World) (p : Int) (h : 0 ≤ p ∧ p < 96) : Calls Try.prog 10 #[.int .i64 p] w fun e w' => e = .returned (.tuple #[.int .i64 (p / 8), .int .i64 (p % 8), .nilIface]) ∧ w' = w := by
  obtain ⟨h0, h1⟩ := h
  go_enter Try.func10, Try.ntmps10
  go_wp2_with fail
  refine (below_yes w p 96 ⟨h0, h1⟩).mono ?_
  rintro e w1 ⟨rfl, rfl⟩
  go_wp2
  go_ret3
  exact ⟨rfl, rfl⟩
theorem parts_out (w : World) (p : Int) (h : p < 0 ∨ 96 ≤ p) : Calls Try.prog 10 #[.int .i64 p] w fun e w' => e = .returned (.tuple #[.int .i64 0, .int .i64 0, .iface 46 (.int .i64 1)]) ∧ w' = w := by
  go_enter Try.func10, Try.ntmps10
  go_wp2_with fail
  refine (below_no w p 96 h).mono ?_
  rintro e w1 ⟨rfl, rfl⟩
  go_wp2
  go_ret3
  exact ⟨rfl, rfl⟩
theorem rparts_in (w : World) (p : Int) (h : 0 ≤ p ∧ p < 96) : Calls Try.prog 12 #[.int .i64 p] w fun e w' => e = .returned (.tuple #[.int .i64 (p / 8), .int .i64 (p % 8), .int .i64 0]) ∧ w' = w := by
  obtain ⟨h0, h1⟩ := h
  go_enter Try.func12, Try.ntmps12
  go_wp2_with fail
  refine (is_yes w p ⟨h0, h1⟩).mono ?_
  rintro e w1 ⟨rfl, rfl⟩
  go_wp2
  go_ret3
  exact ⟨rfl, rfl⟩
theorem rparts_out (w : World) (p : Int) (h : p < 0 ∨ 96 ≤ p) : Calls Try.prog 12 #[.int .i64 p] w fun e w' => e = .returned (.tuple #[.int .i64 0, .int .i64 0, .int .i64 1]) ∧ w' = w := by
  go_enter Try.func12, Try.ntmps12
  go_wp2_with fail
  refine (is_no w p h).mono ?_
  rintro e w1 ⟨rfl, rfl⟩
  go_wp2
  go_ret3
  exact ⟨rfl, rfl⟩
theorem on_in (w : World) (p by_ : Int) (h : 0 ≤ p ∧ p < 96) : Calls Try.prog 16 #[.int .i64 p, .int .i64 by_] w fun e w' => e = .returned (.tuple #[.int .i64 ((p + by_.tmod 96 + 96) % 96), .nilIface]) ∧ w' = w := by
  obtain ⟨h0, h1⟩ := h
  have t0 : -96 < by_.tmod 96 := Int.lt_tmod_of_pos by_ (by decide)
  have t1 : by_.tmod 96 < 96 := Int.tmod_lt_of_pos by_ (by decide)
  go_enter Try.func16, Try.ntmps16
  go_wp2_with fail
  refine (below_yes w p 96 ⟨h0, h1⟩).mono ?_
  rintro e w1 ⟨rfl, rfl⟩
  go_wp2
  go_ret2
  exact ⟨rfl, rfl⟩
theorem on_out (w : World) (p by_ : Int) (h : p < 0 ∨ 96 ≤ p) : Calls Try.prog 16 #[.int .i64 p, .int .i64 by_] w fun e w' => e = .returned (.tuple #[.int .i64 0, .iface 46 (.int .i64 1)]) ∧ w' = w := by
  go_enter Try.func16, Try.ntmps16
  go_wp2_with fail
  refine (below_no w p 96 h).mono ?_
  rintro e w1 ⟨rfl, rfl⟩
  go_wp2
  go_ret2
  exact ⟨rfl, rfl⟩
theorem ron_in (w : World) (p by_ : Int) (h : 0 ≤ p ∧ p < 96) : Calls Try.prog 17 #[.int .i64 p, .int .i64 by_] w fun e w' => e = .returned (.tuple #[.int .i64 ((p + by_.tmod 96 + 96) % 96), .int .i64 0]) ∧ w' = w := by
  obtain ⟨h0, h1⟩ := h
  have t0 : -96 < by_.tmod 96 := Int.lt_tmod_of_pos by_ (by decide)
  have t1 : by_.tmod 96 < 96 := Int.tmod_lt_of_pos by_ (by decide)
  go_enter Try.func17, Try.ntmps17
  go_wp2_with fail
  refine (is_yes w p ⟨h0, h1⟩).mono ?_
  rintro e w1 ⟨rfl, rfl⟩
  go_wp2
  go_ret2
  exact ⟨rfl, rfl⟩
theorem ron_out (w : World) (p by_ : Int) (h : p < 0 ∨ 96 ≤ p) : Calls Try.prog 17 #[.int .i64 p, .int .i64 by_] w fun e w' => e = .returned (.tuple #[.int .i64 0, .int .i64 1]) ∧ w' = w := by
  go_enter Try.func17, Try.ntmps17
  go_wp2_with fail
  refine (is_no w p h).mono ?_
  rintro e w1 ⟨rfl, rfl⟩
  go_wp2
  go_ret2
  exact ⟨rfl, rfl⟩
theorem bit_in (w : World) (b : Int) (h : 0 ≤ b ∧ b < 2048) : Calls Try.prog 18 #[.int .i64 b] w fun e w' => e = .returned (.tuple #[.int .i64 (b / 512), .int .i64 (b / 8 % 64), .int .i64 (b % 8), .nilIface]) ∧ w' = w := by
  obtain ⟨h0, h1⟩ := h
  go_enter Try.func18, Try.ntmps18
  go_wp2_with fail
  refine (below_yes w b 2048 ⟨h0, h1⟩).mono ?_
  rintro e w1 ⟨rfl, rfl⟩
  go_wp2
  refine bodyPost_ret (four_results rfl _ _ _) rfl ?_
  exact ⟨rfl, rfl⟩
theorem bit_out (w : World) (b : Int) (h : b < 0 ∨ 2048 ≤ b) : Calls Try.prog 18 #[.int .i64 b] w fun e w' => e = .returned (.tuple #[.int .i64 0, .int .i64 0, .int .i64 0, .iface 46 (.int .i64 1)]) ∧ w' = w := by
  go_enter Try.func18, Try.ntmps18
  go_wp2_with fail
  refine (below_no w b 2048 h).mono ?_
  rintro e w1 ⟨rfl, rfl⟩
  go_wp2
  refine bodyPost_ret (four_results rfl _ _ _) rfl ?_
  exact ⟨rfl, rfl⟩
theorem rbit_in (w : World) (b : Int) (h : 0 ≤ b ∧ b < 2048) : Calls Try.prog 19 #[.int .i64 b] w fun e w' => e = .returned (.tuple #[.int .i64 (b / 512), .int .i64 (b / 8 % 64), .int .i64 (b % 8), .int .i64 0]) ∧ w' = w := by
  have h0 : ¬ b < 0 := by omega
  have h1 : ¬ 2047 < b := by omega
  clear h
  go_enter Try.func19, Try.ntmps19
  go_wp2
  refine bodyPost_ret (four_results rfl _ _ _) rfl ?_
  exact ⟨rfl, rfl⟩
theorem rbit_out (w : World) (b : Int) (h : b < 0 ∨ 2048 ≤ b) : Calls Try.prog 19 #[.int .i64 b] w fun e w' => e = .returned (.tuple #[.int .i64 0, .int .i64 0, .int .i64 0, .int .i64 1]) ∧ w' = w := by
  by_cases h0 : b < 0
  · clear h
    go_enter Try.func19, Try.ntmps19
    go_wp2
    refine bodyPost_ret (four_results rfl _ _ _) rfl ?_
    exact ⟨rfl, rfl⟩
  have h1 : 2047 < b := by omega
  clear h
  go_enter Try.func19, Try.ntmps19
  go_wp2
  refine bodyPost_ret (four_results rfl _ _ _) rfl ?_
  exact ⟨rfl, rfl⟩
theorem holds_in (w : World) (p o : Int) (h : 0 ≤ p ∧ p < 96) (ho : 0 ≤ o ∧ o < 25) : Calls Try.prog 14 #[.int .i64 p, .int .i64 o] w fun e w' => e = .returned (.tuple #[.bool (decide (o = 24 ∨ p % 8 < 6)), .nilIface]) ∧ w' = w := by
  obtain ⟨h0, h1⟩ := h
  by_cases e1 : o = 24
  · rw [show decide (o = 24 ∨ p % 8 < 6) = true from decide_eq_true (Or.inl e1)]
    have e2 : (o == 24) = true := by simp [e1]
    clear e1
    go_enter Try.func14, Try.ntmps14
    go_wp2_with fail
    refine (below_yes w p 96 ⟨h0, h1⟩).mono ?_
    rintro e w1 ⟨rfl, rfl⟩
    go_wp2_with fail
    refine (below_yes w1 o 25 ho).mono ?_
    rintro e w2 ⟨rfl, rfl⟩
    go_wp2
    go_ret2
    exact ⟨rfl, rfl⟩
  · rw [show decide (o = 24 ∨ p % 8 < 6) = decide (p % 8 < 6) from by simp [e1]]
    have e2 : (o == 24) = false := by simp [e1]
    clear e1
    go_enter Try.func14, Try.ntmps14
    go_wp2_with fail
    refine (below_yes w p 96 ⟨h0, h1⟩).mono ?_
    rintro e w1 ⟨rfl, rfl⟩
    go_wp2_with fail
    refine (below_yes w1 o 25 ho).mono ?_
    rintro e w2 ⟨rfl, rfl⟩
    go_wp2
    go_ret2
    exact ⟨rfl, rfl⟩
theorem rholds_in (w : World) (p o : Int) (h : 0 ≤ p ∧ p < 96) (ho : 0 ≤ o ∧ o < 25) : Calls Try.prog 15 #[.int .i64 p, .int .i64 o] w fun e w' => e = .returned (.tuple #[.bool (decide (o = 24 ∨ p % 8 < 6)), .int .i64 0]) ∧ w' = w := by
  obtain ⟨h0, h1⟩ := h
  have o0 : ¬ o < 0 := by omega
  have o1 : ¬ 24 < o := by omega
  by_cases e1 : o = 24
  · rw [show decide (o = 24 ∨ p % 8 < 6) = true from decide_eq_true (Or.inl e1)]
    have e2 : (o == 24) = true := by simp [e1]
    clear e1
    go_enter Try.func15, Try.ntmps15
    go_wp2_with fail
    refine (is_yes w p ⟨h0, h1⟩).mono ?_
    rintro e w1 ⟨rfl, rfl⟩
    go_wp2
    go_ret2
    exact ⟨rfl, rfl⟩
  · rw [show decide (o = 24 ∨ p % 8 < 6) = decide (p % 8 < 6) from by simp [e1]]
    have e2 : (o == 24) = false := by simp [e1]
    clear e1
    go_enter Try.func15, Try.ntmps15
    go_wp2_with fail
    refine (is_yes w p ⟨h0, h1⟩).mono ?_
    rintro e w1 ⟨rfl, rfl⟩
    go_wp2
    go_ret2
    exact ⟨rfl, rfl⟩
theorem holds_out (w : World) (p o : Int) (h : (p < 0 ∨ 96 ≤ p) ∨ (o < 0 ∨ 25 ≤ o)) : Calls Try.prog 14 #[.int .i64 p, .int .i64 o] w fun e w' => e = .returned (.tuple #[.bool false, .iface 46 (.int .i64 1)]) ∧ w' = w := by
  by_cases hp : 0 ≤ p ∧ p < 96
  · have ho : o < 0 ∨ 25 ≤ o := by omega
    clear h
    obtain ⟨h0, h1⟩ := hp
    go_enter Try.func14, Try.ntmps14
    go_wp2_with fail
    refine (below_yes w p 96 ⟨h0, h1⟩).mono ?_
    rintro e w1 ⟨rfl, rfl⟩
    go_wp2_with fail
    refine (below_no w1 o 25 ho).mono ?_
    rintro e w2 ⟨rfl, rfl⟩
    go_wp2
    go_ret2
    exact ⟨rfl, rfl⟩
  · have hp' : p < 0 ∨ 96 ≤ p := by omega
    clear h hp
    go_enter Try.func14, Try.ntmps14
    go_wp2_with fail
    refine (below_no w p 96 hp').mono ?_
    rintro e w1 ⟨rfl, rfl⟩
    go_wp2
    go_ret2
    exact ⟨rfl, rfl⟩
theorem rholds_out (w : World) (p o : Int) (h : (p < 0 ∨ 96 ≤ p) ∨ (o < 0 ∨ 25 ≤ o)) : Calls Try.prog 15 #[.int .i64 p, .int .i64 o] w fun e w' => e = .returned (.tuple #[.bool false, .int .i64 1]) ∧ w' = w := by
  by_cases hp : 0 ≤ p ∧ p < 96
  · by_cases o0 : o < 0
    · clear h
      go_enter Try.func15, Try.ntmps15
      go_wp2_with fail
      refine (is_yes w p hp).mono ?_
      rintro e w1 ⟨rfl, rfl⟩
      go_wp2
      go_ret2
      exact ⟨rfl, rfl⟩
    · have o1 : 24 < o := by omega
      clear h
      go_enter Try.func15, Try.ntmps15
      go_wp2_with fail
      refine (is_yes w p hp).mono ?_
      rintro e w1 ⟨rfl, rfl⟩
      go_wp2
      go_ret2
      exact ⟨rfl, rfl⟩
  · have hp' : p < 0 ∨ 96 ≤ p := by omega
    clear h hp
    go_enter Try.func15, Try.ntmps15
    go_wp2_with fail
    refine (is_no w p hp').mono ?_
    rintro e w1 ⟨rfl, rfl⟩
    go_wp2
    go_ret2
    exact ⟨rfl, rfl⟩
theorem up_any (w : World) : Calls Try.prog 8 #[] w fun e w' => e = .returned (.bool true) ∧ w' = w := by
  have q := eql_nil_nil
  go_enter Try.func8, Try.ntmps8
  go_wp2_with fail
  refine (place_in w 11 7 (by decide) (by decide)).mono ?_
  rintro e w1 ⟨rfl, rfl⟩
  go_wp2_with fail
  refine (on_in w1 95 1 (by decide)).mono ?_
  rintro e w2 ⟨rfl, rfl⟩
  go_wp2_with fail
  refine (holds_in w2 5 3 (by decide) (by decide)).mono ?_
  rintro e w3 ⟨rfl, rfl⟩
  have e3 : decide ((3:Int) = 24 ∨ (5:Int) % 8 < 6) = true := by decide
  rw [e3]
  go_wp2
  go_ret
  exact ⟨rfl, rfl⟩
end Go.Proofs.Ytckggelkfkjnkaa
