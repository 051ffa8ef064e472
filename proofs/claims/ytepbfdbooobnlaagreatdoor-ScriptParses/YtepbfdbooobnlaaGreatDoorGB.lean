/-
  A world in which the package-level variables hold what the rows list: for the witness. No condition.
-/
import Derived.Test.YtepbfdbooobnlaaGreatDoorGA
import Derived.Deep.DeepHandedRow
import Derived.ProofKit
import Derived.OpenShut
namespace Go.Proofs.YtepbfdbooobnlaaGreatDoor
set_option maxRecDepth 100000
open Go.ChangeShapes Go.WideShapes Go.ChangeAt Go.RowKit
/-- Plain data as cells. -/
def litC : DataW Unit → List Value
  | .lit (.int k z) => [.int k z]
  | .lit (.string s) => [.string ⟨s.toArray⟩]
  | _ => []
def aggC : DataW Unit → List Value
  | .agg l => l.flatMap litC
  | _ => []
def agg2C : DataW Unit → List Value
  | .agg l => l.flatMap aggC
  | _ => []
def setG (w : World) (g : Nat) (cs : List Value) : World :=
  { w with heap := w.heap.modify g fun
      | .cells _ t f => .cells cs.toArray t f
      | o => o }
/-- The variables laid over a world. -/
def lay (w : World) : World :=
  setG (setG (setG (setG (setG (setG (setG (setG (setG ((w.alloc (.cells #[.string ⟨#[118, 97, 108, 117, 101, 32, 111, 117, 116, 32, 111, 102, 32, 114, 97, 110, 103, 101]⟩] 171)).alloc (.cells #[.string ⟨#[105, 110, 118, 97, 108, 105, 100, 32, 115, 121, 110, 116, 97, 120]⟩] 171))
    0 (aggC Rows.laid_patina_script_words)) 1 [.iface 119 (.agg #[.pointer (some ⟨10, 31, none⟩)])]) 3 (aggC Rows.laid_internal_strconv_uint64pow10)) 4 (aggC Rows.laid_unicode_utf8_first)) 5 (agg2C Rows.laid_unicode_utf8_acceptRanges))
    6 [.iface 169 (.pointer (some ⟨w.heap.size + 1, 0, none⟩))]) 7 [.iface 169 (.pointer (some ⟨w.heap.size, 0, none⟩))]) 8 (aggC Rows.laid_math_bits_deBruijn32tab)) 9 (aggC Rows.laid_math_bits_deBruijn64tab)
theorem own : ownKnob Tryz.prog.godebug = none := by kernel_rfl
theorem laid_met (os : Os) (args : Array Value) : laidMetH Tryz.prog Lst ((lay (World.holding Tryz.prog os ⟨#[], #[], []⟩)).forCall (fun _ _ => 0) ⟨#[], args, []⟩).memory :=
  laidMetH_of_parts (laidMet_of_run' 8 (by kernel_rfl) (by kernel_rfl)) (by kernel_rfl)
end Go.Proofs.YtepbfdbooobnlaaGreatDoor
