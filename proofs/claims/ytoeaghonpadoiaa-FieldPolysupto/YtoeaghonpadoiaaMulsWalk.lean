/-
  What patinalaw01.FieldMuls does: it answers true, and leaves what was there as it was. Condition: its arguments are bytes.
-/
import Derived.Test.YtoeaghonpadoiaaShown
import Derived.OpenShut
namespace Go.Proofs.Ytoeaghonpadoiaa
open Go.RowKit

/-- A byte, as a number. -/
theorem byte_nat {x : Int} (h : (Lit.int .u8 x).wf = true) : ∃ n : Nat, x = n ∧ n < 256 := by
  have hb := bounds_u8 h
  exact ⟨x.toNat, by omega, by omega⟩

theorem gm_iv_lt (x y : Nat) : gm x (iv y) < 256 := gm_lt _ _

set_option maxRecDepth 100000 in
set_option maxHeartbeats 2000000 in
theorem muls_zz (w : World) :
    Calls Try.prog 3 #[.int .u8 0, .int .u8 0] w fun e w' => e = .returned (.bool true) ∧ Below w.heap.size w w' := by
  have q1 := eql_zero
  have q2 := eql_nil
  have q3 := neq_zero
  have q4 := neq_nil
  go_enter Try.func3, Try.ntmps3
  go_wp2_with fail
  refine (shown_any _).mono ?_
  rintro e w1 ⟨rfl, hB1⟩
  have hz1 := hB1.size
  go_wp2_with fail
  refine (new_any _).mono ?_
  rintro e w2 ⟨rfl, hw2⟩
  have hF2 : Fld w2 w1.heap.size := by rw [hw2]; exact Fld.new w1
  have hB2 : Below w.heap.size w w2 := by rw [hw2]; exact hB1.alloc hz1 _
  have hz2 : w1.heap.size < w2.heap.size := by rw [hw2]; simp
  clear hw2
  generalize w1.heap.size = b at *
  go_wp2_with fail
  refine (mul_nat b _ hF2 0 0 (by decide) (by decide)).mono ?_
  rintro e w3 ⟨rfl, hF3, hB3⟩
  rw [gm_zero_left]
  go_wp2_with fail
  refine (inv_zero b _ hF3).mono ?_
  rintro e w4 ⟨rfl, hF4, hB4⟩
  go_wp2_with fail
  refine (div_zero b _ hF4 _).mono ?_
  rintro e w5 ⟨rfl, hF5, hB5⟩
  have hB : Below w.heap.size w w5 := hB2.trans (((hB3.trans hB4).trans hB5).below hz1 (by omega))
  clear hB1 hB2 hB3 hB4 hB5 hF2 hF3 hF4 hF5
  go_wp2_with fail
  go_ret
  exact ⟨rfl, hB⟩

set_option maxRecDepth 100000 in
set_option maxHeartbeats 2000000 in
theorem muls_zn (y : Nat) (hy : y < 256) (y0 : ¬ y = 0) (w : World) :
    Calls Try.prog 3 #[.int .u8 0, .int .u8 (y : Int)] w fun e w' => e = .returned (.bool true) ∧ Below w.heap.size w w' := by
  have q1 := eql_zero
  have q2 := eql_nil
  have q3 := neq_zero
  have q4 := neq_nil
  have hy0 : ((y : Int) == 0) = false := by simp; omega
  go_enter Try.func3, Try.ntmps3
  go_wp2_with fail
  refine (shown_any _).mono ?_
  rintro e w1 ⟨rfl, hB1⟩
  have hz1 := hB1.size
  go_wp2_with fail
  refine (new_any _).mono ?_
  rintro e w2 ⟨rfl, hw2⟩
  have hF2 : Fld w2 w1.heap.size := by rw [hw2]; exact Fld.new w1
  have hB2 : Below w.heap.size w w2 := by rw [hw2]; exact hB1.alloc hz1 _
  have hz2 : w1.heap.size < w2.heap.size := by rw [hw2]; simp
  clear hw2
  generalize w1.heap.size = b at *
  go_wp2_with fail
  refine (mul_nat b _ hF2 0 y (by decide) hy).mono ?_
  rintro e w3 ⟨rfl, hF3, hB3⟩
  rw [gm_zero_left]
  go_wp2_with fail
  refine (inv_zero b _ hF3).mono ?_
  rintro e w4 ⟨rfl, hF4, hB4⟩
  go_wp2_with fail
  refine (div_nat b _ hF4 0 y (by decide) hy y0).mono ?_
  rintro e w5 ⟨rfl, hF5, hB5⟩
  rw [gm_zero_left]
  have hB : Below w.heap.size w w5 := hB2.trans (((hB3.trans hB4).trans hB5).below hz1 (by omega))
  clear hB1 hB2 hB3 hB4 hB5 hF2 hF3 hF4 hF5
  go_wp2_with fail
  refine (rmul_nat _ 0 y (by decide) hy).mono ?_
  rintro e w7 ⟨rfl, rfl⟩
  rw [gm_zero_left]
  go_wp2_with fail
  refine (rinv_nat _ y hy y0).mono ?_
  rintro e w8 ⟨rfl, rfl⟩
  go_wp2_with fail
  refine (rmul_nat _ 0 (iv y) (by decide) (iv_lt y)).mono ?_
  rintro e w9 ⟨rfl, rfl⟩
  rw [gm_zero_left]
  go_wp2_with fail
  go_ret
  exact ⟨rfl, hB⟩

set_option maxRecDepth 100000 in
set_option maxHeartbeats 2000000 in
theorem muls_nz (x : Nat) (hx : x < 256) (x0 : ¬ x = 0) (w : World) :
    Calls Try.prog 3 #[.int .u8 (x : Int), .int .u8 0] w fun e w' => e = .returned (.bool true) ∧ Below w.heap.size w w' := by
  have q1 := eql_zero
  have q2 := eql_nil
  have q3 := neq_zero
  have q4 := neq_nil
  have hx0 : ((x : Int) == 0) = false := by simp; omega
  have hx1 : ((x : Int) != 0) = true := by simp; omega
  go_enter Try.func3, Try.ntmps3
  go_wp2_with fail
  refine (shown_any _).mono ?_
  rintro e w1 ⟨rfl, hB1⟩
  have hz1 := hB1.size
  go_wp2_with fail
  refine (new_any _).mono ?_
  rintro e w2 ⟨rfl, hw2⟩
  have hF2 : Fld w2 w1.heap.size := by rw [hw2]; exact Fld.new w1
  have hB2 : Below w.heap.size w w2 := by rw [hw2]; exact hB1.alloc hz1 _
  have hz2 : w1.heap.size < w2.heap.size := by rw [hw2]; simp
  clear hw2
  generalize w1.heap.size = b at *
  go_wp2_with fail
  refine (mul_nat b _ hF2 x 0 hx (by decide)).mono ?_
  rintro e w3 ⟨rfl, hF3, hB3⟩
  rw [gm_zero_right]
  go_wp2_with fail
  refine (inv_nat b _ hF3 x hx x0).mono ?_
  rintro e w4 ⟨rfl, hF4, hB4⟩
  go_wp2_with fail
  refine (div_zero b _ hF4 _).mono ?_
  rintro e w5 ⟨rfl, hF5, hB5⟩
  have hB : Below w.heap.size w w5 := hB2.trans (((hB3.trans hB4).trans hB5).below hz1 (by omega))
  clear hB1 hB2 hB3 hB4 hB5 hF2 hF3 hF4 hF5
  go_wp2_with fail
  refine (rinv_nat _ x hx x0).mono ?_
  rintro e w6 ⟨rfl, rfl⟩
  go_wp2_with fail
  go_ret
  exact ⟨rfl, hB⟩

set_option maxRecDepth 100000 in
set_option maxHeartbeats 2000000 in
theorem muls_nn (x : Nat) (hx : x < 256) (x0 : ¬ x = 0) (y : Nat) (hy : y < 256) (y0 : ¬ y = 0) (w : World) :
    Calls Try.prog 3 #[.int .u8 (x : Int), .int .u8 (y : Int)] w fun e w' => e = .returned (.bool true) ∧ Below w.heap.size w w' := by
  have q1 := eql_zero
  have q2 := eql_nil
  have q3 := neq_zero
  have q4 := neq_nil
  have hx0 : ((x : Int) == 0) = false := by simp; omega
  have hx1 : ((x : Int) != 0) = true := by simp; omega
  have hy0 : ((y : Int) == 0) = false := by simp; omega
  go_enter Try.func3, Try.ntmps3
  go_wp2_with fail
  refine (shown_any _).mono ?_
  rintro e w1 ⟨rfl, hB1⟩
  have hz1 := hB1.size
  go_wp2_with fail
  refine (new_any _).mono ?_
  rintro e w2 ⟨rfl, hw2⟩
  have hF2 : Fld w2 w1.heap.size := by rw [hw2]; exact Fld.new w1
  have hB2 : Below w.heap.size w w2 := by rw [hw2]; exact hB1.alloc hz1 _
  have hz2 : w1.heap.size < w2.heap.size := by rw [hw2]; simp
  clear hw2
  generalize w1.heap.size = b at *
  go_wp2_with fail
  refine (mul_nat b _ hF2 x y hx hy).mono ?_
  rintro e w3 ⟨rfl, hF3, hB3⟩
  go_wp2_with fail
  refine (inv_nat b _ hF3 x hx x0).mono ?_
  rintro e w4 ⟨rfl, hF4, hB4⟩
  go_wp2_with fail
  refine (div_nat b _ hF4 x y hx hy y0).mono ?_
  rintro e w5 ⟨rfl, hF5, hB5⟩
  have hB : Below w.heap.size w w5 := hB2.trans (((hB3.trans hB4).trans hB5).below hz1 (by omega))
  clear hB1 hB2 hB3 hB4 hB5 hF2 hF3 hF4 hF5
  go_wp2_with fail
  refine (rinv_nat _ x hx x0).mono ?_
  rintro e w6 ⟨rfl, rfl⟩
  go_wp2_with fail
  refine (rmul_nat _ x y hx hy).mono ?_
  rintro e w7 ⟨rfl, rfl⟩
  go_wp2_with fail
  refine (rinv_nat _ y hy y0).mono ?_
  rintro e w8 ⟨rfl, rfl⟩
  go_wp2_with fail
  refine (rmul_nat _ x (iv y) hx (iv_lt y)).mono ?_
  rintro e w9 ⟨rfl, rfl⟩
  go_wp2_with fail
  go_ret
  exact ⟨rfl, hB⟩

theorem muls_walk (a0 a1 : Int) (w0 : (Lit.int .u8 a0).wf = true) (w1 : (Lit.int .u8 a1).wf = true) (w : World) :
    Calls Try.prog 3 #[.int .u8 a0, .int .u8 a1] w fun e w' => e = .returned (.bool true) ∧ Below w.heap.size w w' := by
  obtain ⟨x, rfl, hx⟩ := byte_nat w0
  obtain ⟨y, rfl, hy⟩ := byte_nat w1
  by_cases x0 : x = 0
  · subst x0
    by_cases y0 : y = 0
    · subst y0
      exact muls_zz w
    · exact muls_zn y hy y0 w
  · by_cases y0 : y = 0
    · subst y0
      exact muls_nz x hx x0 w
    · exact muls_nn x hx x0 y hy y0 w
end Go.Proofs.Ytoeaghonpadoiaa
