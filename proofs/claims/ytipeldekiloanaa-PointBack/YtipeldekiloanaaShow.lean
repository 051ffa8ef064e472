/-
  The rows of the document's examples hold (patinalaw03.shown answers true). No condition.
-/
import Derived.Test.YtipeldekiloanaaPut
import Derived.Test.YtipeldekiloanaaRowsIn
namespace Go.Proofs.Ytipeldekiloanaa
open Go.RowKit
set_option maxRecDepth 100000

theorem eql_arg_arg (w : World) : (binOp .eql 30 (.iface 44 (.int .i64 1)) (.iface 44 (.int .i64 1))).run Try.prog w = .ok (.bool true) w := by kernel_rfl
theorem eql_arg_long (w : World) : (binOp .eql 30 (.iface 44 (.int .i64 1)) (.iface 44 (.int .i64 2))).run Try.prog w = .ok (.bool false) w := by kernel_rfl
theorem eql_arg_mark (w : World) : (binOp .eql 30 (.iface 44 (.int .i64 1)) (.iface 44 (.int .i64 6))).run Try.prog w = .ok (.bool false) w := by kernel_rfl
theorem eql_arg_nil (w : World) : (binOp .eql 30 (.iface 44 (.int .i64 1)) .nilIface).run Try.prog w = .ok (.bool false) w := by kernel_rfl
theorem eql_long_arg (w : World) : (binOp .eql 30 (.iface 44 (.int .i64 2)) (.iface 44 (.int .i64 1))).run Try.prog w = .ok (.bool false) w := by kernel_rfl
theorem eql_long_long (w : World) : (binOp .eql 30 (.iface 44 (.int .i64 2)) (.iface 44 (.int .i64 2))).run Try.prog w = .ok (.bool true) w := by kernel_rfl
theorem eql_long_mark (w : World) : (binOp .eql 30 (.iface 44 (.int .i64 2)) (.iface 44 (.int .i64 6))).run Try.prog w = .ok (.bool false) w := by kernel_rfl
theorem eql_long_nil (w : World) : (binOp .eql 30 (.iface 44 (.int .i64 2)) .nilIface).run Try.prog w = .ok (.bool false) w := by kernel_rfl
theorem eql_mark_arg (w : World) : (binOp .eql 30 (.iface 44 (.int .i64 6)) (.iface 44 (.int .i64 1))).run Try.prog w = .ok (.bool false) w := by kernel_rfl
theorem eql_mark_long (w : World) : (binOp .eql 30 (.iface 44 (.int .i64 6)) (.iface 44 (.int .i64 2))).run Try.prog w = .ok (.bool false) w := by kernel_rfl
theorem eql_mark_mark (w : World) : (binOp .eql 30 (.iface 44 (.int .i64 6)) (.iface 44 (.int .i64 6))).run Try.prog w = .ok (.bool true) w := by kernel_rfl
theorem eql_mark_nil (w : World) : (binOp .eql 30 (.iface 44 (.int .i64 6)) .nilIface).run Try.prog w = .ok (.bool false) w := by kernel_rfl
theorem eql_nil_arg (w : World) : (binOp .eql 30 .nilIface (.iface 44 (.int .i64 1))).run Try.prog w = .ok (.bool false) w := by kernel_rfl
theorem eql_nil_long (w : World) : (binOp .eql 30 .nilIface (.iface 44 (.int .i64 2))).run Try.prog w = .ok (.bool false) w := by kernel_rfl
theorem eql_nil_mark (w : World) : (binOp .eql 30 .nilIface (.iface 44 (.int .i64 6))).run Try.prog w = .ok (.bool false) w := by kernel_rfl
theorem eql_nil_nil (w : World) : (binOp .eql 30 .nilIface .nilIface).run Try.prog w = .ok (.bool true) w := by kernel_rfl
theorem neq_arg_arg (w : World) : (binOp .neq 30 (.iface 44 (.int .i64 1)) (.iface 44 (.int .i64 1))).run Try.prog w = .ok (.bool false) w := by kernel_rfl
theorem neq_arg_long (w : World) : (binOp .neq 30 (.iface 44 (.int .i64 1)) (.iface 44 (.int .i64 2))).run Try.prog w = .ok (.bool true) w := by kernel_rfl
theorem neq_arg_mark (w : World) : (binOp .neq 30 (.iface 44 (.int .i64 1)) (.iface 44 (.int .i64 6))).run Try.prog w = .ok (.bool true) w := by kernel_rfl
theorem neq_arg_nil (w : World) : (binOp .neq 30 (.iface 44 (.int .i64 1)) .nilIface).run Try.prog w = .ok (.bool true) w := by kernel_rfl
theorem neq_long_arg (w : World) : (binOp .neq 30 (.iface 44 (.int .i64 2)) (.iface 44 (.int .i64 1))).run Try.prog w = .ok (.bool true) w := by kernel_rfl
theorem neq_long_long (w : World) : (binOp .neq 30 (.iface 44 (.int .i64 2)) (.iface 44 (.int .i64 2))).run Try.prog w = .ok (.bool false) w := by kernel_rfl
theorem neq_long_mark (w : World) : (binOp .neq 30 (.iface 44 (.int .i64 2)) (.iface 44 (.int .i64 6))).run Try.prog w = .ok (.bool true) w := by kernel_rfl
theorem neq_long_nil (w : World) : (binOp .neq 30 (.iface 44 (.int .i64 2)) .nilIface).run Try.prog w = .ok (.bool true) w := by kernel_rfl
theorem neq_mark_arg (w : World) : (binOp .neq 30 (.iface 44 (.int .i64 6)) (.iface 44 (.int .i64 1))).run Try.prog w = .ok (.bool true) w := by kernel_rfl
theorem neq_mark_long (w : World) : (binOp .neq 30 (.iface 44 (.int .i64 6)) (.iface 44 (.int .i64 2))).run Try.prog w = .ok (.bool true) w := by kernel_rfl
theorem neq_mark_mark (w : World) : (binOp .neq 30 (.iface 44 (.int .i64 6)) (.iface 44 (.int .i64 6))).run Try.prog w = .ok (.bool false) w := by kernel_rfl
theorem neq_mark_nil (w : World) : (binOp .neq 30 (.iface 44 (.int .i64 6)) .nilIface).run Try.prog w = .ok (.bool true) w := by kernel_rfl
theorem neq_nil_arg (w : World) : (binOp .neq 30 .nilIface (.iface 44 (.int .i64 1))).run Try.prog w = .ok (.bool true) w := by kernel_rfl
theorem neq_nil_long (w : World) : (binOp .neq 30 .nilIface (.iface 44 (.int .i64 2))).run Try.prog w = .ok (.bool true) w := by kernel_rfl
theorem neq_nil_mark (w : World) : (binOp .neq 30 .nilIface (.iface 44 (.int .i64 6))).run Try.prog w = .ok (.bool true) w := by kernel_rfl
theorem neq_nil_nil (w : World) : (binOp .neq 30 .nilIface .nilIface).run Try.prog w = .ok (.bool false) w := by kernel_rfl

theorem Arr.heldAll {w : World} {g : Nat} {t : TypeId} {l : List Nat} (h : Arr w g t l) (n cap : Nat) (hn : n ≤ l.length) : Held w (.slice (some ⟨g, 0, none⟩) n cap) (l.take n) :=
  h.held 0 n cap (l.take n) (by rw [List.length_take]; omega) (by rw [List.length_take]; omega) (fun i hi => by
    rw [List.length_take] at hi
    rw [Nat.zero_add, List.getD_eq_getElem?_getD, List.getD_eq_getElem?_getD, List.getElem?_take_of_lt (by omega)])
theorem Arr.heldFull {w : World} {g : Nat} {t : TypeId} {l : List Nat} (h : Arr w g t l) (n cap : Nat) (hn : n = l.length) : Held w (.slice (some ⟨g, 0, none⟩) n cap) l := by
  have := h.heldAll n cap (by omega)
  rwa [List.take_of_length_le (by omega)] at this
theorem bys3 {a b c : Nat} (h1 : a < 256) (h2 : b < 256) (h3 : c < 256) : Bys [a, b, c] := by
  intro n hn
  simp at hn
  omega
end Go.Proofs.Ytipeldekiloanaa
