/-
  What catches a fault (script.Parse's deferred function), and the lines of a text (strings.Split). Condition: the variables hold what they were given.
-/
import Derived.Test.YtepbfdbooobnlaaGreatDoorSW
import Derived.Defers
import Derived.Recover
import Derived.Laws.Pointers
namespace Go.Proofs.YtepbfdbooobnlaaGreatDoor
set_option maxRecDepth 100000
open Go.RowKit
theorem asFault_any (a : Addr) (w : World) : Calls Tryz.prog 21 #[.iface 68 (.pointer (some a))] w fun e w' => e = .returned (.iface 68 (.pointer (some a))) ∧ w' = w := by
  have ht : ∀ (v : Value) (w : World), (Instr.typeAssert (.iface 68 v) 20 68 false).run Tryz.prog w = .ok v w := fun _ _ => by kernel_rfl
  go_enter Tryz.func21, Tryz.ntmps21
  go_wp2
  go_ret
  exact ⟨rfl, rfl⟩
theorem catch_idle (p q : Addr) (w : World) :
    CallsD Tryz.prog 20 #[.pointer (some p), .pointer (some q)] .returning w fun e u' w' => e = .returned (.tuple #[]) ∧ u' = .returning ∧ w' = w := by
  refine callsD_of_wpS Tryz.func20 rfl fun c₀ cs hu => ?_
  apply wpS_seq
  apply wpS_region
  simp [wpOpsS, go_sem, recoverD, hu, Tryz.ntmps20, Exit.thenS]
  refine wpS_of_wp ?_
  go_wp2
  cases c₀
  simp_all [bodyPostS, results, Tryz.results20]
theorem catch_panicking (p q a : Addr) (x y : Value) (older : List PanicEntry) (w : World) (hp : w.cell? p = some x) (hq : w.cell? q = some y) (hzp : w.frozen? p = false) (hzq : w.frozen? q = false) (hpq : q.block ≠ p.block) :
    CallsD Tryz.prog 20 #[.pointer (some p), .pointer (some q)] (.panicking ({ v := .iface 68 (.pointer (some a)), recovered := false } :: older)) w fun e u' w' =>
      e = .returned (.tuple #[]) ∧ u' = .panicking ({ v := .iface 68 (.pointer (some a)), recovered := true } :: older) ∧ w' = (w.setCell p (.slice none 0 0)).setCell q (.iface 68 (.pointer (some a))) := by
  have hq2 : (w.setCell p (.slice none 0 0)).cell? q = some y := (World.cell?_of_block (w := w) (Below.heap_setCell _ _ _ _ hpq)).trans hq
  have hz2 : (w.setCell p (.slice none 0 0)).frozen? q = false := by
    have := Below.heap_setCell w p (.slice none 0 0) q.block hpq
    simp only [World.frozen?, this] at hzq ⊢
    exact hzq
  refine callsD_of_wpS Tryz.func20 rfl fun c₀ cs hu => ?_
  apply wpS_seq
  apply wpS_region
  simp [wpOpsS, go_sem, recoverD, hu, Tryz.ntmps20, Exit.thenS]
  refine wpS_of_wp ?_
  go_wp2_with (first | (go_at_call 21; refine (asFault_any a _).mono ?_; rintro e w1 ⟨rfl, rfl⟩))
  simp_all [bodyPostS, results, Tryz.results20]
end Go.Proofs.YtepbfdbooobnlaaGreatDoor
