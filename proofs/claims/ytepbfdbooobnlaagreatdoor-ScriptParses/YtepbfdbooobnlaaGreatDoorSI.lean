/-
  errors.Is of a fault and its own Code; Code and Is of patinalaw00: that a fault is the one at its place. Condition: the fault lies in memory.
-/
import Derived.Test.YtepbfdbooobnlaaGreatDoorSE
import Derived.Lib.IfaceEq
namespace Go.Proofs.YtepbfdbooobnlaaGreatDoor
set_option maxRecDepth 100000
open Go.RowKit Go.Extern.Stop Go.Stop Go.Extern
theorem isTypeOf (v : Value) (w : World) : (Extern.ReflectliteType.typeOf #[.iface 52 v]).run Tryz.prog w = .ok (.iface 119 (.agg #[.pointer (some ⟨10, 52, none⟩)])) w := by kernel_rfl
theorem isComparable (w : World) : ((Extern.ReflectliteType.method fun t => do Extern.Rtype.noPackHeld "Comparable" t; Functor.map (fun a => Value.bool a.comparable) (typeInfo t)) #[.agg #[.pointer (some ⟨10, 52, none⟩)]]).run Tryz.prog w = .ok (.bool true) w := by kernel_rfl
theorem noIsF (v : Value) (xT : TypeId) (w : World) : (Instr.typeAssert (.iface 68 v) xT 131 true).run Tryz.prog w = .ok (.tuple #[.nilIface, .bool false]) w := run_typeAssert_lacksB Tryz.underlying131 (by kernel_rfl) (by kernel_rfl) v xT w
theorem hasUnwrapF (v : Value) (xT : TypeId) (w : World) : (Instr.typeAssert (.iface 68 v) xT 126 true).run Tryz.prog w = .ok (.tuple #[.iface 68 v, .bool true]) w := run_typeAssert_hasB Tryz.underlying126 (by kernel_rfl) v xT w
theorem isMethodComparable (v : Value) (w : World) : (Go.method 300 119 v "Comparable").run Tryz.prog w = .ok (126, v) w := by kernel_rfl
theorem isMethodUnwrap (v : Value) (w : World) : (Go.method 300 68 v "Unwrap").run Tryz.prog w = .ok (120, v) w := by kernel_rfl
theorem eql_codes (x y : Int) (w : World) : (binOp .eql 31 (.iface 52 (.int .i64 x)) (.iface 52 (.int .i64 y))).run Tryz.prog w = .ok (.bool (decide (x = y))) w := by
  rw [Lib.run_eql_iface_int w x y Tryz.underlying31 (by kernel_rfl) Tryz.underlying52]
  congr 2
theorem eql_fc (v u : Value) (w : World) : (binOp .eql 31 (.iface 68 v) (.iface 52 u)).run Tryz.prog w = .ok (.bool false) w := run_eql_iface_types 68 52 v u Tryz.underlying31 (by decide) w
theorem unwrap_any (h : Nat) (n p c : Int) (w : World) (hf : w.heap[h]? = some (.cells (fcell n p c) 70)) :
    Calls Tryz.prog 120 #[.pointer (some ⟨h, 0, none⟩)] w fun e w' => e = .returned (.iface 52 (.int .i64 c)) ∧ w' = w := by
  have c2 : w.cell? ⟨h, 2, none⟩ = some (.iface 52 (.int .i64 c)) := by simp [World.cell?, hf, fcell]
  clear hf
  go_enter Tryz.func120, Tryz.ntmps120
  go_wp2
  go_ret
  exact ⟨rfl, rfl⟩
set_option maxHeartbeats 2000000 in
theorem is_fault (h : Nat) (n p c : Int) (w : World) (hf : w.heap[h]? = some (.cells (fcell n p c) 70)) :
    Calls Tryz.prog 36 #[.iface 68 (.pointer (some ⟨h, 0, none⟩)), .iface 52 (.int .i64 c)] w fun e w' => e = .returned (.bool true) ∧ w' = w := by
  have h8 := @run_callFunc_extern Tryz.prog 52 _ Extern.ReflectliteType.typeOf Tryz.func52 (by kernel_rfl) (by kernel_rfl) (by kernel_rfl) (by kernel_rfl)
  have h32 := @run_callFunc_extern Tryz.prog 126 _ (Extern.ReflectliteType.method fun t => do Extern.Rtype.noPackHeld "Comparable" t; pure (.bool (← typeInfo t).comparable)) Tryz.func126 (by kernel_rfl) (by kernel_rfl) (by kernel_rfl) (by first | rfl | kernel_rfl)
  have tT := isTypeOf
  have cT := isComparable
  have mR := isMethodComparable
  have mU := isMethodUnwrap
  have nE := noIsF
  have uE := hasUnwrapF
  have heq := eql_codes c c
  have hne := eql_fc
  have c2 : w.cell? ⟨h, 2, none⟩ = some (.iface 52 (.int .i64 c)) := by simp [World.cell?, hf, fcell]
  simp only [decide_true] at heq
  clear hf
  go_enter Tryz.func36, Tryz.ntmps36
  go_wp2
  refine wp_loop_rounds 2 ?_
  rw [rounds_succ]
  go_wp2
  rw [rounds_succ]
  go_wp2
  go_ret
  exact ⟨rfl, rfl⟩
end Go.Proofs.YtepbfdbooobnlaaGreatDoor
