/-
  What patinalaw01.FieldLaws does: it answers true, and leaves what was there as it was. Condition: its arguments are bytes.
-/
import Derived.Test.YtoeaghonpadoiaaMulsWalk
namespace Go.Proofs.Ytoeaghonpadoiaa
open Go.RowKit

theorem div_zero' (b : Nat) (w : World) (h : Fld w b) (x : Int) (y : Nat) (y0 : y = 0) :
    Calls Try.prog 13 #[.pointer (some ⟨b, 0, none⟩), .int .u8 x, .int .u8 (y : Int)] w fun e w' => e = .returned (.tuple #[.int .u8 0, .iface 31 (.int .i64 4)]) ∧ Fld w' b ∧ But b w w' := by
  subst y0
  exact div_zero b w h x
theorem gm_div (x y : Nat) (hx : x < 256) (hy : y < 256) (y0 : ¬ y = 0) : gm (gm x (iv y)) y = x := by
  rw [gm_assoc, gm_comm (iv y) y, gm_iv y hy y0, gm_one x hx]
theorem gm_iv' (y : Nat) (hy : y < 256) (y0 : ¬ y = 0) : gm (iv y) y = 1 := by rw [gm_comm, gm_iv y hy y0]

set_option maxRecDepth 100000 in
set_option maxHeartbeats 2000000 in
theorem laws_nat (x y z : Nat) (hx : x < 256) (hy : y < 256) (hz : z < 256) (w : World) :
    Calls Try.prog 6 #[.int .u8 (x : Int), .int .u8 (y : Int), .int .u8 (z : Int)] w fun e w' => e = .returned (.bool true) ∧ Below w.heap.size w w' := by
  have q1 := eql_zero
  have q2 := eql_nil
  have q3 := neq_zero
  have q4 := neq_nil
  have hnot : ∀ (x : Bool) (w : World), (Op.unary .not (.bool x)).run Try.prog w = .ok (.bool (!x)) w := fun _ _ => rfl
  have e1 := u8_xor_nat y z hy hz
  have e2 := u8_xor_nat (gm x y) (gm x z) (gm_lt _ _) (gm_lt _ _)
  go_enter Try.func6, Try.ntmps6
  go_wp2_with fail
  refine (shown_any _).mono ?_
  rintro e w1 ⟨rfl, hB1⟩
  have hz1 := hB1.size
  go_wp2_with fail
  refine (new_any _).mono ?_
  rintro e w2 ⟨rfl, hw2⟩
  have hF2 : Fld w2 w1.heap.size := by rw [hw2]; exact Fld.new w1
  have hB2 : Below w.heap.size w w2 := by rw [hw2]; exact hB1.alloc hz1 _
  have hz2 : w1.heap.size < w2.heap.size := by rw [hw2]; simp
  clear hw2 hB1
  generalize w1.heap.size = b at *
  go_wp2_with fail
  refine (mul_nat b _ hF2 x y hx hy).mono ?_
  rintro e w3 ⟨rfl, hF3, hC⟩
  have hB3 : Below w.heap.size w w3 := hB2.trans (hC.below hz1 (by omega))
  have hz3 : b < w3.heap.size := Nat.lt_of_lt_of_le hz2 hC.size
  clear hC hF2 hB2 hz2
  go_wp2_with fail
  refine (mul_nat b _ hF3 y x hy hx).mono ?_
  rintro e w4 ⟨rfl, hF4, hC⟩
  have hB4 : Below w.heap.size w w4 := hB3.trans (hC.below hz1 (by omega))
  have hz4 : b < w4.heap.size := Nat.lt_of_lt_of_le hz3 hC.size
  clear hC hF3 hB3 hz3
  rw [gm_comm y x]
  go_wp2_with fail
  refine (mul_nat b _ hF4 x y hx hy).mono ?_
  rintro e w5 ⟨rfl, hF5, hC⟩
  have hB5 : Below w.heap.size w w5 := hB4.trans (hC.below hz1 (by omega))
  have hz5 : b < w5.heap.size := Nat.lt_of_lt_of_le hz4 hC.size
  clear hC hF4 hB4 hz4
  go_wp2_with fail
  refine (mul_nat b _ hF5 (gm x y) z (gm_lt x y) hz).mono ?_
  rintro e w6 ⟨rfl, hF6, hC⟩
  have hB6 : Below w.heap.size w w6 := hB5.trans (hC.below hz1 (by omega))
  have hz6 : b < w6.heap.size := Nat.lt_of_lt_of_le hz5 hC.size
  clear hC hF5 hB5 hz5
  rw [gm_assoc x y z]
  go_wp2_with fail
  refine (mul_nat b _ hF6 y z hy hz).mono ?_
  rintro e w7 ⟨rfl, hF7, hC⟩
  have hB7 : Below w.heap.size w w7 := hB6.trans (hC.below hz1 (by omega))
  have hz7 : b < w7.heap.size := Nat.lt_of_lt_of_le hz6 hC.size
  clear hC hF6 hB6 hz6
  go_wp2_with fail
  refine (mul_nat b _ hF7 x (gm y z) hx (gm_lt y z)).mono ?_
  rintro e w8 ⟨rfl, hF8, hC⟩
  have hB8 : Below w.heap.size w w8 := hB7.trans (hC.below hz1 (by omega))
  have hz8 : b < w8.heap.size := Nat.lt_of_lt_of_le hz7 hC.size
  clear hC hF7 hB7 hz7
  go_wp2_with fail
  refine (mul_nat b _ hF8 x (y ^^^ z) hx (xor_lt y z hy hz)).mono ?_
  rintro e w9 ⟨rfl, hF9, hC⟩
  have hB9 : Below w.heap.size w w9 := hB8.trans (hC.below hz1 (by omega))
  have hz9 : b < w9.heap.size := Nat.lt_of_lt_of_le hz8 hC.size
  clear hC hF8 hB8 hz8
  rw [gm_xor x y z hx hy hz]
  go_wp2_with fail
  refine (mul_nat b _ hF9 x y hx hy).mono ?_
  rintro e w10 ⟨rfl, hF10, hC⟩
  have hB10 : Below w.heap.size w w10 := hB9.trans (hC.below hz1 (by omega))
  have hz10 : b < w10.heap.size := Nat.lt_of_lt_of_le hz9 hC.size
  clear hC hF9 hB9 hz9
  go_wp2_with fail
  refine (mul_nat b _ hF10 x z hx hz).mono ?_
  rintro e w11 ⟨rfl, hF11, hC⟩
  have hB11 : Below w.heap.size w w11 := hB10.trans (hC.below hz1 (by omega))
  have hz11 : b < w11.heap.size := Nat.lt_of_lt_of_le hz10 hC.size
  clear hC hF10 hB10 hz10
  go_wp2_with fail
  refine (mul_nat b _ hF11 x 1 hx (by decide)).mono ?_
  rintro e w12 ⟨rfl, hF12, hC⟩
  have hB12 : Below w.heap.size w w12 := hB11.trans (hC.below hz1 (by omega))
  have hz12 : b < w12.heap.size := Nat.lt_of_lt_of_le hz11 hC.size
  clear hC hF11 hB11 hz11
  rw [gm_one x hx]
  go_wp2_with fail
  refine (mul_nat b _ hF12 x 0 hx (by decide)).mono ?_
  rintro e w13 ⟨rfl, hF13, hC⟩
  have hB13 : Below w.heap.size w w13 := hB12.trans (hC.below hz1 (by omega))
  have hz13 : b < w13.heap.size := Nat.lt_of_lt_of_le hz12 hC.size
  clear hC hF12 hB12 hz12
  rw [gm_zero_right x]
  go_wp2_with fail
  by_cases y0 : y = 0
  · have hy0 : ((y : Int) == 0) = true := by simp; omega
    refine (div_zero' b _ hF13 _ y y0).mono ?_
    rintro e w14 ⟨rfl, hF14, hC⟩
    have hB14 : Below w.heap.size w w14 := hB13.trans (hC.below hz1 (by omega))
    have hz14 : b < w14.heap.size := Nat.lt_of_lt_of_le hz13 hC.size
    clear hC hF13 hB13 hz13
    go_wp2_with fail
    go_ret
    exact ⟨rfl, hB14⟩
  · have hy0 : ((y : Int) == 0) = false := by simp; omega
    refine (div_nat b _ hF13 x y hx hy y0).mono ?_
    rintro e w14 ⟨rfl, hF14, hC⟩
    have hB14 : Below w.heap.size w w14 := hB13.trans (hC.below hz1 (by omega))
    have hz14 : b < w14.heap.size := Nat.lt_of_lt_of_le hz13 hC.size
    clear hC hF13 hB13 hz13
    go_wp2_with fail
    refine (inv_nat b _ hF14 y hy y0).mono ?_
    rintro e w15 ⟨rfl, hF15, hC⟩
    have hB15 : Below w.heap.size w w15 := hB14.trans (hC.below hz1 (by omega))
    have hz15 : b < w15.heap.size := Nat.lt_of_lt_of_le hz14 hC.size
    clear hC hF14 hB14 hz14
    go_wp2_with fail
    refine (mul_nat b _ hF15 (gm x (iv y)) y (gm_lt _ _) hy).mono ?_
    rintro e w16 ⟨rfl, hF16, hC⟩
    have hB16 : Below w.heap.size w w16 := hB15.trans (hC.below hz1 (by omega))
    have hz16 : b < w16.heap.size := Nat.lt_of_lt_of_le hz15 hC.size
    clear hC hF15 hB15 hz15
    rw [gm_div x y hx hy y0]
    go_wp2_with fail
    refine (mul_nat b _ hF16 (iv y) y (iv_lt y) hy).mono ?_
    rintro e w17 ⟨rfl, hF17, hC⟩
    have hB17 : Below w.heap.size w w17 := hB16.trans (hC.below hz1 (by omega))
    have hz17 : b < w17.heap.size := Nat.lt_of_lt_of_le hz16 hC.size
    clear hC hF16 hB16 hz16
    rw [gm_iv' y hy y0]
    go_wp2_with fail
    by_cases x0 : x = 0
    · have hx0 : ((x : Int) == 0) = true := by simp; omega
      have hg0 : (((gm x y : Nat) : Int) == 0) = true := by rw [x0, gm_zero_left]; rfl
      refine (mul_nat b _ hF17 x y hx hy).mono ?_
      rintro e w18 ⟨rfl, hF18, hC⟩
      have hB18 : Below w.heap.size w w18 := hB17.trans (hC.below hz1 (by omega))
      have hz18 : b < w18.heap.size := Nat.lt_of_lt_of_le hz17 hC.size
      clear hC hF17 hB17 hz17
      go_wp2_with fail
      go_ret
      exact ⟨rfl, hB18⟩
    · have hx0 : ((x : Int) == 0) = false := by simp; omega
      have hg0 : (((gm x y : Nat) : Int) == 0) = false := by have := gm_ne x0 y0; simp; omega
      refine (mul_nat b _ hF17 x y hx hy).mono ?_
      rintro e w18 ⟨rfl, hF18, hC⟩
      have hB18 : Below w.heap.size w w18 := hB17.trans (hC.below hz1 (by omega))
      have hz18 : b < w18.heap.size := Nat.lt_of_lt_of_le hz17 hC.size
      clear hC hF17 hB17 hz17
      go_wp2_with fail
      go_ret
      exact ⟨rfl, hB18⟩
theorem laws_walk (a0 a1 a2 : Int) (w0 : (Lit.int .u8 a0).wf = true) (w1 : (Lit.int .u8 a1).wf = true) (w2 : (Lit.int .u8 a2).wf = true) (w : World) :
    Calls Try.prog 6 #[.int .u8 a0, .int .u8 a1, .int .u8 a2] w fun e w' => e = .returned (.bool true) ∧ Below w.heap.size w w' := by
  obtain ⟨x, rfl, hx⟩ := byte_nat w0
  obtain ⟨y, rfl, hy⟩ := byte_nat w1
  obtain ⟨z, rfl, hz⟩ := byte_nat w2
  exact laws_nat x y z hx hy hz w
end Go.Proofs.Ytoeaghonpadoiaa
