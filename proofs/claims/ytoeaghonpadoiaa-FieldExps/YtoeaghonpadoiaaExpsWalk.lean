/-
  What patinalaw01.FieldExps does: it answers true, and leaves what was there as it was. Condition: its arguments are ints.
-/
import Derived.Test.YtoeaghonpadoiaaMulsWalk
namespace Go.Proofs.Ytoeaghonpadoiaa
open Go.RowKit

theorem exZ_lt (k : Int) : exZ k < 256 := ex_lt _
theorem exZ_ne (k : Int) : exZ k ≠ 0 := ex_ne _ (by omega)
theorem lg_exZ (k : Int) : lg (exZ k) = (k % 255).toNat := lg_ex _ (by omega)
theorem exZ_add (k n : Int) : gm (exZ k) (exZ n) = exZ (k + n) := by
  rw [gm_of_ne (exZ_ne k) (exZ_ne n), lg_exZ, lg_exZ]
  unfold exZ
  congr 1
  omega
theorem exZ_round (k : Int) : exZ (k + 255) = exZ k := by
  unfold exZ
  congr 1
  omega

set_option maxRecDepth 100000 in
set_option maxHeartbeats 2000000 in
theorem exps_out0 (k n : Int) (h1 : 2305843009213693952 < k) (w : World) :
    Calls Try.prog 7 #[.int .i64 k, .int .i64 n] w fun e w' => e = .returned (.bool true) ∧ Below w.heap.size w w' := by
  go_enter Try.func7, Try.ntmps7
  go_wp2_with fail
  refine (shown_any _).mono ?_
  rintro e w1 ⟨rfl, hB1⟩
  have hz1 := hB1.size
  go_wp2_with fail
  refine (new_any _).mono ?_
  rintro e w2 ⟨rfl, hw2⟩
  have hF2 : Fld w2 w1.heap.size := by rw [hw2]; exact Fld.new w1
  have hB2 : Below w.heap.size w w2 := by rw [hw2]; exact hB1.alloc hz1 _
  have hz2 : w1.heap.size < w2.heap.size := by rw [hw2]; simp
  clear hw2 hB1
  generalize w1.heap.size = b at *
  go_wp2_with fail
  go_ret
  exact ⟨rfl, hB2⟩

set_option maxRecDepth 100000 in
set_option maxHeartbeats 2000000 in
theorem exps_out1 (k n : Int) (h1 : ¬ 2305843009213693952 < k) (h2 : k < -2305843009213693952) (w : World) :
    Calls Try.prog 7 #[.int .i64 k, .int .i64 n] w fun e w' => e = .returned (.bool true) ∧ Below w.heap.size w w' := by
  go_enter Try.func7, Try.ntmps7
  go_wp2_with fail
  refine (shown_any _).mono ?_
  rintro e w1 ⟨rfl, hB1⟩
  have hz1 := hB1.size
  go_wp2_with fail
  refine (new_any _).mono ?_
  rintro e w2 ⟨rfl, hw2⟩
  have hF2 : Fld w2 w1.heap.size := by rw [hw2]; exact Fld.new w1
  have hB2 : Below w.heap.size w w2 := by rw [hw2]; exact hB1.alloc hz1 _
  have hz2 : w1.heap.size < w2.heap.size := by rw [hw2]; simp
  clear hw2 hB1
  generalize w1.heap.size = b at *
  go_wp2_with fail
  go_ret
  exact ⟨rfl, hB2⟩

set_option maxRecDepth 100000 in
set_option maxHeartbeats 2000000 in
theorem exps_out2 (k n : Int) (h1 : ¬ 2305843009213693952 < k) (h2 : ¬ k < -2305843009213693952) (h3 : 2305843009213693952 < n) (w : World) :
    Calls Try.prog 7 #[.int .i64 k, .int .i64 n] w fun e w' => e = .returned (.bool true) ∧ Below w.heap.size w w' := by
  go_enter Try.func7, Try.ntmps7
  go_wp2_with fail
  refine (shown_any _).mono ?_
  rintro e w1 ⟨rfl, hB1⟩
  have hz1 := hB1.size
  go_wp2_with fail
  refine (new_any _).mono ?_
  rintro e w2 ⟨rfl, hw2⟩
  have hF2 : Fld w2 w1.heap.size := by rw [hw2]; exact Fld.new w1
  have hB2 : Below w.heap.size w w2 := by rw [hw2]; exact hB1.alloc hz1 _
  have hz2 : w1.heap.size < w2.heap.size := by rw [hw2]; simp
  clear hw2 hB1
  generalize w1.heap.size = b at *
  go_wp2_with fail
  go_ret
  exact ⟨rfl, hB2⟩

set_option maxRecDepth 100000 in
set_option maxHeartbeats 2000000 in
theorem exps_out3 (k n : Int) (h1 : ¬ 2305843009213693952 < k) (h2 : ¬ k < -2305843009213693952) (h3 : ¬ 2305843009213693952 < n) (h4 : n < -2305843009213693952) (w : World) :
    Calls Try.prog 7 #[.int .i64 k, .int .i64 n] w fun e w' => e = .returned (.bool true) ∧ Below w.heap.size w w' := by
  go_enter Try.func7, Try.ntmps7
  go_wp2_with fail
  refine (shown_any _).mono ?_
  rintro e w1 ⟨rfl, hB1⟩
  have hz1 := hB1.size
  go_wp2_with fail
  refine (new_any _).mono ?_
  rintro e w2 ⟨rfl, hw2⟩
  have hF2 : Fld w2 w1.heap.size := by rw [hw2]; exact Fld.new w1
  have hB2 : Below w.heap.size w w2 := by rw [hw2]; exact hB1.alloc hz1 _
  have hz2 : w1.heap.size < w2.heap.size := by rw [hw2]; simp
  clear hw2 hB1
  generalize w1.heap.size = b at *
  go_wp2_with fail
  go_ret
  exact ⟨rfl, hB2⟩

set_option maxRecDepth 100000 in
set_option maxHeartbeats 2000000 in
theorem exps_neg (k n : Int) (h1 : ¬ 2305843009213693952 < k) (h2 : ¬ k < -2305843009213693952) (h3 : ¬ 2305843009213693952 < n) (h4 : ¬ n < -2305843009213693952) (hn : k.tmod 255 < 0) (w : World) :
    Calls Try.prog 7 #[.int .i64 k, .int .i64 n] w fun e w' => e = .returned (.bool true) ∧ Below w.heap.size w w' := by
  have q1 := eql_zero
  have q2 := eql_nil
  have q3 := neq_zero
  have q4 := neq_nil
  have hx0 : (((exZ k : Nat) : Int) != 0) = true := by have := exZ_ne k; simp; omega
  obtain ⟨e1, e2⟩ := exZ_neg k hn
  have hfar : (((lg (exZ k) : Nat) : Int) == k.tmod 255 + 255) = true := by rw [lg_exZ]; simp; omega
  clear e1
  go_enter Try.func7, Try.ntmps7
  go_wp2_with fail
  refine (shown_any _).mono ?_
  rintro e w1 ⟨rfl, hB1⟩
  have hz1 := hB1.size
  go_wp2_with fail
  refine (new_any _).mono ?_
  rintro e w2 ⟨rfl, hw2⟩
  have hF2 : Fld w2 w1.heap.size := by rw [hw2]; exact Fld.new w1
  have hB2 : Below w.heap.size w w2 := by rw [hw2]; exact hB1.alloc hz1 _
  have hz2 : w1.heap.size < w2.heap.size := by rw [hw2]; simp
  clear hw2 hB1
  generalize w1.heap.size = b at *
  go_wp2_with fail
  refine (exp_any b _ hF2 k).mono ?_
  rintro e w3 ⟨rfl, hF3, hC⟩
  have hB3 : Below w.heap.size w w3 := hB2.trans (hC.below hz1 (by omega))
  have hz3 : b < w3.heap.size := Nat.lt_of_lt_of_le hz2 hC.size
  clear hC hF2 hB2 hz2
  go_wp2_with fail
  refine (log_nat b _ hF3 (exZ k) (exZ_lt k) (exZ_ne k)).mono ?_
  rintro e w4 ⟨rfl, hF4, hC⟩
  have hB4 : Below w.heap.size w w4 := hB3.trans (hC.below hz1 (by omega))
  have hz4 : b < w4.heap.size := Nat.lt_of_lt_of_le hz3 hC.size
  clear hC hF3 hB3 hz3
  go_wp2_with fail
  refine (exp_any b _ hF4 k).mono ?_
  rintro e w5 ⟨rfl, hF5, hC⟩
  have hB5 : Below w.heap.size w w5 := hB4.trans (hC.below hz1 (by omega))
  have hz5 : b < w5.heap.size := Nat.lt_of_lt_of_le hz4 hC.size
  clear hC hF4 hB4 hz4
  go_wp2_with fail
  refine (exp_any b _ hF5 n).mono ?_
  rintro e w6 ⟨rfl, hF6, hC⟩
  have hB6 : Below w.heap.size w w6 := hB5.trans (hC.below hz1 (by omega))
  have hz6 : b < w6.heap.size := Nat.lt_of_lt_of_le hz5 hC.size
  clear hC hF5 hB5 hz5
  go_wp2_with fail
  refine (mul_nat b _ hF6 (exZ k) (exZ n) (exZ_lt k) (exZ_lt n)).mono ?_
  rintro e w7 ⟨rfl, hF7, hC⟩
  have hB7 : Below w.heap.size w w7 := hB6.trans (hC.below hz1 (by omega))
  have hz7 : b < w7.heap.size := Nat.lt_of_lt_of_le hz6 hC.size
  clear hC hF6 hB6 hz6
  rw [exZ_add k n]
  go_wp2_with fail
  refine (exp_any b _ hF7 (k + n)).mono ?_
  rintro e w8 ⟨rfl, hF8, hC⟩
  have hB8 : Below w.heap.size w w8 := hB7.trans (hC.below hz1 (by omega))
  have hz8 : b < w8.heap.size := Nat.lt_of_lt_of_le hz7 hC.size
  clear hC hF7 hB7 hz7
  go_wp2_with fail
  refine (exp_any b _ hF8 k).mono ?_
  rintro e w9 ⟨rfl, hF9, hC⟩
  have hB9 : Below w.heap.size w w9 := hB8.trans (hC.below hz1 (by omega))
  have hz9 : b < w9.heap.size := Nat.lt_of_lt_of_le hz8 hC.size
  clear hC hF8 hB8 hz8
  go_wp2_with fail
  refine (exp_any b _ hF9 k).mono ?_
  rintro e w10 ⟨rfl, hF10, hC⟩
  have hB10 : Below w.heap.size w w10 := hB9.trans (hC.below hz1 (by omega))
  have hz10 : b < w10.heap.size := Nat.lt_of_lt_of_le hz9 hC.size
  clear hC hF9 hB9 hz9
  go_wp2_with fail
  refine (exp_any b _ hF10 (k + 255)).mono ?_
  rintro e w11 ⟨rfl, hF11, hC⟩
  have hB11 : Below w.heap.size w w11 := hB10.trans (hC.below hz1 (by omega))
  have hz11 : b < w11.heap.size := Nat.lt_of_lt_of_le hz10 hC.size
  clear hC hF10 hB10 hz10
  rw [exZ_round k]
  go_wp2_with fail
  go_ret
  exact ⟨rfl, hB11⟩

set_option maxRecDepth 100000 in
set_option maxHeartbeats 2000000 in
theorem exps_pos (k n : Int) (h1 : ¬ 2305843009213693952 < k) (h2 : ¬ k < -2305843009213693952) (h3 : ¬ 2305843009213693952 < n) (h4 : ¬ n < -2305843009213693952) (hn : 0 ≤ k.tmod 255) (w : World) :
    Calls Try.prog 7 #[.int .i64 k, .int .i64 n] w fun e w' => e = .returned (.bool true) ∧ Below w.heap.size w w' := by
  have q1 := eql_zero
  have q2 := eql_nil
  have q3 := neq_zero
  have q4 := neq_nil
  have hx0 : (((exZ k : Nat) : Int) != 0) = true := by have := exZ_ne k; simp; omega
  obtain ⟨e1, e2⟩ := exZ_pos k hn
  have hfar : (((lg (exZ k) : Nat) : Int) == k.tmod 255) = true := by rw [lg_exZ]; simp; omega
  clear e1
  go_enter Try.func7, Try.ntmps7
  go_wp2_with fail
  refine (shown_any _).mono ?_
  rintro e w1 ⟨rfl, hB1⟩
  have hz1 := hB1.size
  go_wp2_with fail
  refine (new_any _).mono ?_
  rintro e w2 ⟨rfl, hw2⟩
  have hF2 : Fld w2 w1.heap.size := by rw [hw2]; exact Fld.new w1
  have hB2 : Below w.heap.size w w2 := by rw [hw2]; exact hB1.alloc hz1 _
  have hz2 : w1.heap.size < w2.heap.size := by rw [hw2]; simp
  clear hw2 hB1
  generalize w1.heap.size = b at *
  go_wp2_with fail
  refine (exp_any b _ hF2 k).mono ?_
  rintro e w3 ⟨rfl, hF3, hC⟩
  have hB3 : Below w.heap.size w w3 := hB2.trans (hC.below hz1 (by omega))
  have hz3 : b < w3.heap.size := Nat.lt_of_lt_of_le hz2 hC.size
  clear hC hF2 hB2 hz2
  go_wp2_with fail
  refine (log_nat b _ hF3 (exZ k) (exZ_lt k) (exZ_ne k)).mono ?_
  rintro e w4 ⟨rfl, hF4, hC⟩
  have hB4 : Below w.heap.size w w4 := hB3.trans (hC.below hz1 (by omega))
  have hz4 : b < w4.heap.size := Nat.lt_of_lt_of_le hz3 hC.size
  clear hC hF3 hB3 hz3
  go_wp2_with fail
  refine (exp_any b _ hF4 k).mono ?_
  rintro e w5 ⟨rfl, hF5, hC⟩
  have hB5 : Below w.heap.size w w5 := hB4.trans (hC.below hz1 (by omega))
  have hz5 : b < w5.heap.size := Nat.lt_of_lt_of_le hz4 hC.size
  clear hC hF4 hB4 hz4
  go_wp2_with fail
  refine (exp_any b _ hF5 n).mono ?_
  rintro e w6 ⟨rfl, hF6, hC⟩
  have hB6 : Below w.heap.size w w6 := hB5.trans (hC.below hz1 (by omega))
  have hz6 : b < w6.heap.size := Nat.lt_of_lt_of_le hz5 hC.size
  clear hC hF5 hB5 hz5
  go_wp2_with fail
  refine (mul_nat b _ hF6 (exZ k) (exZ n) (exZ_lt k) (exZ_lt n)).mono ?_
  rintro e w7 ⟨rfl, hF7, hC⟩
  have hB7 : Below w.heap.size w w7 := hB6.trans (hC.below hz1 (by omega))
  have hz7 : b < w7.heap.size := Nat.lt_of_lt_of_le hz6 hC.size
  clear hC hF6 hB6 hz6
  rw [exZ_add k n]
  go_wp2_with fail
  refine (exp_any b _ hF7 (k + n)).mono ?_
  rintro e w8 ⟨rfl, hF8, hC⟩
  have hB8 : Below w.heap.size w w8 := hB7.trans (hC.below hz1 (by omega))
  have hz8 : b < w8.heap.size := Nat.lt_of_lt_of_le hz7 hC.size
  clear hC hF7 hB7 hz7
  go_wp2_with fail
  refine (exp_any b _ hF8 k).mono ?_
  rintro e w9 ⟨rfl, hF9, hC⟩
  have hB9 : Below w.heap.size w w9 := hB8.trans (hC.below hz1 (by omega))
  have hz9 : b < w9.heap.size := Nat.lt_of_lt_of_le hz8 hC.size
  clear hC hF8 hB8 hz8
  go_wp2_with fail
  refine (exp_any b _ hF9 k).mono ?_
  rintro e w10 ⟨rfl, hF10, hC⟩
  have hB10 : Below w.heap.size w w10 := hB9.trans (hC.below hz1 (by omega))
  have hz10 : b < w10.heap.size := Nat.lt_of_lt_of_le hz9 hC.size
  clear hC hF9 hB9 hz9
  go_wp2_with fail
  refine (exp_any b _ hF10 (k + 255)).mono ?_
  rintro e w11 ⟨rfl, hF11, hC⟩
  have hB11 : Below w.heap.size w w11 := hB10.trans (hC.below hz1 (by omega))
  have hz11 : b < w11.heap.size := Nat.lt_of_lt_of_le hz10 hC.size
  clear hC hF10 hB10 hz10
  rw [exZ_round k]
  go_wp2_with fail
  go_ret
  exact ⟨rfl, hB11⟩

theorem exps_walk (a0 a1 : Int) (_w0 : (Lit.int .i64 a0).wf = true) (_w1 : (Lit.int .i64 a1).wf = true) (w : World) :
    Calls Try.prog 7 #[.int .i64 a0, .int .i64 a1] w fun e w' => e = .returned (.bool true) ∧ Below w.heap.size w w' := by
  by_cases h1 : 2305843009213693952 < a0
  · exact exps_out0 a0 a1 h1 w
  by_cases h2 : a0 < -2305843009213693952
  · exact exps_out1 a0 a1 h1 h2 w
  by_cases h3 : 2305843009213693952 < a1
  · exact exps_out2 a0 a1 h1 h2 h3 w
  by_cases h4 : a1 < -2305843009213693952
  · exact exps_out3 a0 a1 h1 h2 h3 h4 w
  by_cases hn : a0.tmod 255 < 0
  · exact exps_neg a0 a1 h1 h2 h3 h4 hn w
  · exact exps_pos a0 a1 h1 h2 h3 h4 (by omega) w
end Go.Proofs.Ytoeaghonpadoiaa
