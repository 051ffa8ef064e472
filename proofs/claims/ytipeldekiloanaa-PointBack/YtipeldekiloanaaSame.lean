/-
  Lists and cells: small lemmas. No condition.
-/
import Derived.Test.YtipeldekiloanaaMem
namespace Go.Proofs.Ytipeldekiloanaa
set_option maxRecDepth 100000
open Go.RowKit

theorem Chg.cell {S : Nat → Prop} {w w' : World} (h : Chg S w w') {c : Nat} (hc : c < w.heap.size) (hs : ¬ S c) (o : Nat) : w'.cell? ⟨c, o, none⟩ = w.cell? ⟨c, o, none⟩ :=
  World.cell?_of_block (w := w) (h.block c hc hs)
theorem list_eq_of_getD {l1 l2 : List Nat} (hl : l1.length = l2.length) (h : ∀ i, i < l1.length → l1.getD i 0 = l2.getD i 0) : l1 = l2 := by
  apply List.ext_getElem hl
  intro i h1 h2
  have := h i h1
  rwa [List.getD_eq_getElem?_getD, List.getD_eq_getElem?_getD, List.getElem?_eq_getElem h1, List.getElem?_eq_getElem h2] at this
end Go.Proofs.Ytipeldekiloanaa
