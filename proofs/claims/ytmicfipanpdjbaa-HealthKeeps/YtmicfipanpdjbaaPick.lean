/-
  The law's own pick and Code. No condition: lemmas.
-/
import Derived.Test.YtmicfipanpdjbaaBase
namespace Go.Proofs.Ytmicfipanpdjbaa
set_option maxRecDepth 100000
open Go.RowKit

set_option maxHeartbeats 2000000 in
theorem pick_any (z : Int) (h1 : -9223372036854775808 ≤ z) (h2 : z ≤ 9223372036854775807) (n : Nat) (hn : 0 < n) (hn2 : n < 100) (w : World) :
    Calls Try.prog 12 #[.int .i64 z, .int .i64 n] w fun e w' => (∃ q : Nat, q < n ∧ e = .returned (.int .i64 q)) ∧ w' = w := by
  have hne : ((n : Int) == 0) = false := by simp only [beq_eq_false_iff_ne]; omega
  have hne2 : ¬ (n : Int) = 0 := by omega
  have hnm : ¬ (n : Int) = -1 := by omega
  by_cases hz : z < 0
  · obtain ⟨q, hq⟩ : ∃ q : Nat, (-(z + 1)).tmod (n : Int) = (q : Int) ∧ q < n := ⟨((-(z + 1)).tmod (n : Int)).toNat, by
      rw [Int.tmod_eq_emod_of_nonneg (by omega)]
      have a1 := Int.emod_nonneg (-(z + 1)) (b := (n : Int)) (by omega)
      have a2 := Int.emod_lt_of_pos (-(z + 1)) (b := (n : Int)) (by omega)
      omega⟩
    have hq1 := hq.1
    have HQ := hyd hq.2
    clear hq
    go_enter Try.func12, Try.ntmps12
    go_wp2
    go_ret
    exact ⟨⟨q, HQ.out, rfl⟩, rfl⟩
  · obtain ⟨q, hq⟩ : ∃ q : Nat, z.tmod (n : Int) = (q : Int) ∧ q < n := ⟨(z.tmod (n : Int)).toNat, by
      rw [Int.tmod_eq_emod_of_nonneg (by omega)]
      have a1 := Int.emod_nonneg z (b := (n : Int)) (by omega)
      have a2 := Int.emod_lt_of_pos z (b := (n : Int)) (by omega)
      omega⟩
    have hq1 := hq.1
    have HQ := hyd hq.2
    clear hq
    go_enter Try.func12, Try.ntmps12
    go_wp2
    go_ret
    exact ⟨⟨q, HQ.out, rfl⟩, rfl⟩
theorem eql_nil (w : World) : (binOp .eql 27 .nilIface .nilIface).run Try.prog w = .ok (.bool true) w := by kernel_rfl
theorem neq_nil (w : World) : (binOp .neq 27 .nilIface .nilIface).run Try.prog w = .ok (.bool false) w := by kernel_rfl
theorem eql_c_nil (w : World) (n : Int) : (binOp .eql 27 (.iface 33 (.int .i64 n)) .nilIface).run Try.prog w = .ok (.bool false) w := by kernel_rfl
theorem neq_c_nil (w : World) (n : Int) : (binOp .neq 27 (.iface 33 (.int .i64 n)) .nilIface).run Try.prog w = .ok (.bool true) w := by kernel_rfl
theorem eql_1_1 (w : World) : (binOp .eql 27 (.iface 33 (.int .i64 1)) (.iface 33 (.int .i64 1))).run Try.prog w = .ok (.bool true) w := by kernel_rfl
theorem code_nil (w : World) : Calls Try.prog 23 #[.nilIface] w fun e w' => e = .returned (.int .i64 0) ∧ w' = w := by
  have q := eql_nil
  go_enter Try.func23, Try.ntmps23
  go_wp2
  go_ret
  exact ⟨rfl, rfl⟩
theorem code_1 (w : World) : Calls Try.prog 23 #[.iface 33 (.int .i64 1)] w fun e w' => e = .returned (.int .i64 1) ∧ w' = w := by
  have q := eql_c_nil
  have q' := eql_1_1
  go_enter Try.func23, Try.ntmps23
  go_wp2
  go_ret
  exact ⟨rfl, rfl⟩
/-- Which of n things the number z speaks of. -/
def pkN (z : Int) (n : Nat) : Nat := ((if z < 0 then -(z + 1) else z).tmod (n : Int)).toNat
theorem pkN_lt (z : Int) (n : Nat) (hn : 0 < n) : pkN z n < n := by
  unfold pkN
  rw [Int.tmod_eq_emod_of_nonneg (by split <;> omega)]
  have a1 := Int.emod_nonneg (if z < 0 then -(z + 1) else z) (b := (n : Int)) (by omega)
  have a2 := Int.emod_lt_of_pos (if z < 0 then -(z + 1) else z) (b := (n : Int)) (by omega)
  omega
theorem pkN_neg {z : Int} (h : z < 0) (n : Nat) (hn : 0 < n) : (-(z + 1)).tmod (n : Int) = (pkN z n : Nat) := by
  unfold pkN
  rw [if_pos h, Int.toNat_of_nonneg]
  rw [Int.tmod_eq_emod_of_nonneg (by omega)]
  exact Int.emod_nonneg _ (by omega)
theorem pkN_pos {z : Int} (h : ¬ z < 0) (n : Nat) (hn : 0 < n) : z.tmod (n : Int) = (pkN z n : Nat) := by
  unfold pkN
  rw [if_neg h, Int.toNat_of_nonneg]
  rw [Int.tmod_eq_emod_of_nonneg (by omega)]
  exact Int.emod_nonneg _ (by omega)
set_option maxHeartbeats 2000000 in
theorem pick_fn (z : Int) (h1 : -9223372036854775808 ≤ z) (h2 : z ≤ 9223372036854775807) (n : Nat) (hn : 0 < n) (hn2 : n < 100) (w : World) :
    Calls Try.prog 12 #[.int .i64 z, .int .i64 n] w fun e w' => e = .returned (.int .i64 (pkN z n : Nat)) ∧ w' = w := by
  have hne : ((n : Int) == 0) = false := by simp only [beq_eq_false_iff_ne]; omega
  have hne2 : ¬ (n : Int) = 0 := by omega
  have hnm : ¬ (n : Int) = -1 := by omega
  by_cases hz : z < 0
  · have hq := pkN_neg hz n hn
    go_enter Try.func12, Try.ntmps12
    go_wp2
    go_ret
    exact ⟨rfl, rfl⟩
  · have hq := pkN_pos hz n hn
    go_enter Try.func12, Try.ntmps12
    go_wp2
    go_ret
    exact ⟨rfl, rfl⟩
/-- The same, of two numbers as they come. -/
def pk (z n : Int) : Nat := pkN z n.toNat
theorem pick_z (z n : Int) (w : World) (h1 : -9223372036854775808 ≤ z) (h2 : z ≤ 9223372036854775807) (hn : 0 < n) (hn2 : n < 100) : Calls Try.prog 12 #[.int .i64 z, .int .i64 n] w fun e w' => e = .returned (.int .i64 (pk z n : Nat)) ∧ w' = w := by
  have := pick_fn z h1 h2 n.toNat (by omega) (by omega) w
  rw [Int.toNat_of_nonneg (by omega)] at this
  exact this
theorem pk_lt (z n : Int) (hn : 0 < n) : ((pk z n : Nat) : Int) < n := by
  have := pkN_lt z n.toNat (by omega)
  unfold pk
  omega
/-- An error by its number. -/
def errV (c : Nat) : Value := if c = 0 then .nilIface else .iface 33 (.int .i64 c)
def Cd (c : Nat) : Prop := c = 0 ∨ c = 1
theorem code_v (c : Nat) (hc : Cd c) (w : World) : Calls Try.prog 23 #[errV c] w fun e w' => e = .returned (.int .i64 c) ∧ w' = w := by
  rcases hc with rfl | rfl
  · exact code_nil w
  · exact code_1 w
theorem eql_errV (c : Nat) (w : World) : (binOp .eql 27 (errV c) .nilIface).run Try.prog w = .ok (.bool (decide (c = 0))) w := by
  unfold errV
  by_cases h : c = 0
  · rw [if_pos h, decide_eq_true h]; exact eql_nil w
  · rw [if_neg h, decide_eq_false h]; exact eql_c_nil w c
theorem neq_errV (c : Nat) (w : World) : (binOp .neq 27 (errV c) .nilIface).run Try.prog w = .ok (.bool (!decide (c = 0))) w := by
  unfold errV
  by_cases h : c = 0
  · rw [if_pos h, decide_eq_true h]; exact neq_nil w
  · rw [if_neg h, decide_eq_false h]; exact neq_c_nil w c
theorem guard_eql (c : Nat) (x : Operand) (w : World) : (eqGuard .eql 27 x (.const .nilIface) (errV c) .nilIface).run Try.prog w = .ok () w := by
  unfold errV
  by_cases h : c = 0
  · rw [if_pos h]; cases x <;> rfl
  · rw [if_neg h]; cases x <;> rfl
theorem guard_neq (c : Nat) (x : Operand) (w : World) : (eqGuard .neq 27 x (.const .nilIface) (errV c) .nilIface).run Try.prog w = .ok () w := by
  unfold errV
  by_cases h : c = 0
  · rw [if_pos h]; cases x <;> rfl
  · rw [if_neg h]; cases x <;> rfl
end Go.Proofs.Ytmicfipanpdjbaa
