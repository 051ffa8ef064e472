/-
  The head of all statements of this layer: patinalaw01.shown answers true, and leaves what was there as it was. No condition.
-/
import Derived.Test.YtoeaghonpadoiaaRefs
namespace Go.Proofs.Ytoeaghonpadoiaa
open Go.RowKit

theorem eql_zero (w : World) : (binOp .eql 27 (.iface 31 (.int .i64 4)) (.iface 31 (.int .i64 4))).run Try.prog w = .ok (.bool true) w := by kernel_rfl
theorem neq_zero (w : World) : (binOp .neq 27 (.iface 31 (.int .i64 4)) (.iface 31 (.int .i64 4))).run Try.prog w = .ok (.bool false) w := by kernel_rfl
theorem eql_nil (w : World) : (binOp .eql 27 .nilIface .nilIface).run Try.prog w = .ok (.bool true) w := by kernel_rfl
theorem neq_nil (w : World) : (binOp .neq 27 .nilIface .nilIface).run Try.prog w = .ok (.bool false) w := by kernel_rfl

theorem val_mul : gm 83 202 = 143 := by decide +kernel
theorem val_inv : iv 2 = 142 := by decide +kernel
theorem val_exp : exZ (-1) = 142 := by decide +kernel

set_option maxRecDepth 100000 in
set_option maxHeartbeats 1000000 in
theorem shown_any (w : World) : Calls Try.prog 9 #[] w fun e w' => e = .returned (.bool true) ∧ Below w.heap.size w w' := by
  have q1 := eql_zero
  have q2 := eql_nil
  go_enter Try.func9, Try.ntmps9
  go_wp2_with (go_at_call 10; refine (new_any _).mono ?_; rintro e w' ⟨rfl, rfl⟩)
  have hF0 := Fld.new w
  have hB0 : Below w.heap.size w (w.alloc (.cells (fcells 0 0 0) 66)) := (Below.refl _ _).alloc (Nat.le_refl _) _
  have hz : (w.alloc (.cells (fcells 0 0 0) 66)).heap.size = w.heap.size + 1 := by simp
  generalize w.alloc (.cells (fcells 0 0 0) 66) = w0 at *
  refine (mul_nat w.heap.size _ hF0 83 202 (by decide) (by decide)).mono ?_
  rintro e w1 ⟨rfl, hF1, hB1⟩
  rw [val_mul]
  go_wp2_with fail
  refine (inv_nat w.heap.size _ hF1 2 (by decide) (by decide)).mono ?_
  rintro e w2 ⟨rfl, hF2, hB2⟩
  rw [val_inv]
  go_wp2_with fail
  refine (div_zero w.heap.size _ hF2 5).mono ?_
  rintro e w3 ⟨rfl, hF3, hB3⟩
  go_wp2_with fail
  refine (exp_any w.heap.size _ hF3 (-1)).mono ?_
  rintro e w4 ⟨rfl, hF4, hB4⟩
  rw [val_exp]
  go_wp2_with fail
  go_ret
  exact ⟨rfl, hB0.trans (((hB1.trans hB2).trans (hB3.trans hB4)).below (Nat.le_refl _) (by omega))⟩
end Go.Proofs.Ytoeaghonpadoiaa
