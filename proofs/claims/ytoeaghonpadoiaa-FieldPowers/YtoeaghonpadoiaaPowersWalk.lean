/-
  What patinalaw01.FieldPowers does: it answers true, and leaves what was there as it was. Condition: its arguments are an int and a byte.
-/
import Derived.Test.YtoeaghonpadoiaaShown
import Derived.Test.YtoeaghonpadoiaaMulsWalk
namespace Go.Proofs.Ytoeaghonpadoiaa
open Go.RowKit

theorem exZ_lg (x : Nat) (hx : x < 256) (x0 : ¬ x = 0) : exZ (lg x : Nat) = x := by
  have := lg_lt x hx
  unfold exZ
  rw [show (((lg x : Nat) : Int) % 255).toNat = lg x from by omega]
  exact ex_lg x hx x0

set_option maxRecDepth 100000 in
set_option maxHeartbeats 2000000 in
theorem powers_z (k : Int) (w : World) :
    Calls Try.prog 4 #[.int .i64 k, .int .u8 0] w fun e w' => e = .returned (.bool true) ∧ Below w.heap.size w w' := by
  have q1 := eql_zero
  have q2 := eql_nil
  have q3 := neq_zero
  have q4 := neq_nil
  go_enter Try.func4, Try.ntmps4
  go_wp2_with fail
  refine (shown_any _).mono ?_
  rintro e w1 ⟨rfl, hB1⟩
  have hz1 := hB1.size
  go_wp2_with fail
  refine (new_any _).mono ?_
  rintro e w2 ⟨rfl, hw2⟩
  have hF2 : Fld w2 w1.heap.size := by rw [hw2]; exact Fld.new w1
  have hB2 : Below w.heap.size w w2 := by rw [hw2]; exact hB1.alloc hz1 _
  have hz2 : w1.heap.size < w2.heap.size := by rw [hw2]; simp
  clear hw2 hB1
  generalize w1.heap.size = b at *
  go_wp2_with fail
  refine (exp_any b _ hF2 k).mono ?_
  rintro e w3 ⟨rfl, hF3, hC⟩
  have hB3 : Below w.heap.size w w3 := hB2.trans (hC.below hz1 (by omega))
  have hz3 : b < w3.heap.size := Nat.lt_of_lt_of_le hz2 hC.size
  clear hC hF2 hB2 hz2
  go_wp2_with fail
  refine (log_zero b _ hF3).mono ?_
  rintro e w4 ⟨rfl, hF4, hC⟩
  have hB4 : Below w.heap.size w w4 := hB3.trans (hC.below hz1 (by omega))
  have hz4 : b < w4.heap.size := Nat.lt_of_lt_of_le hz3 hC.size
  clear hC hF3 hB3 hz3
  go_wp2_with fail
  refine (rexp_any _ k).mono ?_
  rintro e w' ⟨rfl, rfl⟩
  go_wp2_with fail
  go_ret
  exact ⟨rfl, hB4⟩

set_option maxRecDepth 100000 in
set_option maxHeartbeats 2000000 in
theorem powers_n (k : Int) (x : Nat) (hx : x < 256) (x0 : ¬ x = 0) (w : World) :
    Calls Try.prog 4 #[.int .i64 k, .int .u8 (x : Int)] w fun e w' => e = .returned (.bool true) ∧ Below w.heap.size w w' := by
  have q1 := eql_zero
  have q2 := eql_nil
  have q3 := neq_zero
  have q4 := neq_nil
  have hx0 : ((x : Int) == 0) = false := by simp; omega
  go_enter Try.func4, Try.ntmps4
  go_wp2_with fail
  refine (shown_any _).mono ?_
  rintro e w1 ⟨rfl, hB1⟩
  have hz1 := hB1.size
  go_wp2_with fail
  refine (new_any _).mono ?_
  rintro e w2 ⟨rfl, hw2⟩
  have hF2 : Fld w2 w1.heap.size := by rw [hw2]; exact Fld.new w1
  have hB2 : Below w.heap.size w w2 := by rw [hw2]; exact hB1.alloc hz1 _
  have hz2 : w1.heap.size < w2.heap.size := by rw [hw2]; simp
  clear hw2 hB1
  generalize w1.heap.size = b at *
  go_wp2_with fail
  refine (exp_any b _ hF2 k).mono ?_
  rintro e w3 ⟨rfl, hF3, hC⟩
  have hB3 : Below w.heap.size w w3 := hB2.trans (hC.below hz1 (by omega))
  have hz3 : b < w3.heap.size := Nat.lt_of_lt_of_le hz2 hC.size
  clear hC hF2 hB2 hz2
  go_wp2_with fail
  refine (log_nat b _ hF3 x hx x0).mono ?_
  rintro e w4 ⟨rfl, hF4, hC⟩
  have hB4 : Below w.heap.size w w4 := hB3.trans (hC.below hz1 (by omega))
  have hz4 : b < w4.heap.size := Nat.lt_of_lt_of_le hz3 hC.size
  clear hC hF3 hB3 hz3
  go_wp2_with fail
  refine (rexp_any _ k).mono ?_
  rintro e w' ⟨rfl, rfl⟩
  go_wp2_with fail
  refine (rlog_nat _ x hx x0).mono ?_
  rintro e w' ⟨rfl, rfl⟩
  go_wp2_with fail
  refine (exp_any b _ hF4 _).mono ?_
  rintro e w5 ⟨rfl, hF5, hC⟩
  have hB5 : Below w.heap.size w w5 := hB4.trans (hC.below hz1 (by omega))
  have hz5 : b < w5.heap.size := Nat.lt_of_lt_of_le hz4 hC.size
  clear hC hF4 hB4 hz4
  rw [exZ_lg x hx x0]
  go_wp2_with fail
  go_ret
  exact ⟨rfl, hB5⟩

theorem powers_walk (a0 a1 : Int) (_w0 : (Lit.int .i64 a0).wf = true) (w1 : (Lit.int .u8 a1).wf = true) (w : World) :
    Calls Try.prog 4 #[.int .i64 a0, .int .u8 a1] w fun e w' => e = .returned (.bool true) ∧ Below w.heap.size w w' := by
  obtain ⟨x, rfl, hx⟩ := byte_nat w1
  by_cases x0 : x = 0
  · subst x0
    exact powers_z a0 w
  · exact powers_n a0 x hx x0 w
end Go.Proofs.Ytoeaghonpadoiaa
