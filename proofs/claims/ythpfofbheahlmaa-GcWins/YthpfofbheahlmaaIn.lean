/-
  Lists of ints that came in, with their reach. No condition: lemmas.
-/
import Derived.Test.YthpfofbheahlmaaBase
import Derived.Deep.SlicePairs
import Derived.SizedLaws
import Derived.OpenShut
namespace Go.Proofs.Ythpfofbheahlmaa
set_option maxRecDepth 100000
open Go.RowKit Go.Deep Go.ChangeShapes Go.WideShapes

theorem addr_at (g o j : Nat) : (⟨g, o, none⟩ : Addr).add j = ⟨g, o + j, none⟩ := Addr.add_mid g o j
theorem cell_lt {w : World} {a : Addr} {v : Value} (h : w.cell? a = some v) : a.block < w.heap.size := by
  by_cases hb : a.block < w.heap.size
  · exact hb
  · rw [World.cell?, Array.getElem?_eq_none (by omega)] at h; cases h
theorem bounds_i64 {z : Int} (h : (Lit.int .i64 z).wf = true) : -9223372036854775808 ≤ z ∧ z ≤ 9223372036854775807 := by
  simpa [Lit.wf, IntKind.min, IntKind.max, IntKind.bits, IntKind.signed] using h
/-- A slice of ints that came in. -/
def IsInts (w : World) (a : Option Addr) (len : Nat) (V : Nat → Int) : Prop :=
  (∀ i, i < len → -9223372036854775808 ≤ V i ∧ V i ≤ 9223372036854775807) ∧ (len = 0 ∨ ∃ g o, a = some ⟨g, o, none⟩ ∧ g < w.heap.size ∧ ∀ i, i < len → w.cell? ⟨g, o + i, none⟩ = some (.int .i64 (V i)))
theorem ints_in {H : Type} {enc : TypeId × Value → H} {W : World} {a : Option Addr} {len cap : Nat} {d : DataW H} {p : List MemPlace}
    (h : DataW.Trod enc Try.prog W 0 (fun _ => true) true 22 (.slice a len cap) d p) (hw : ∀ x ∈ d.weights Try.prog 22, x ≤ reachBytes) : ∃ V, IsInts W a len V ∧ len * 8 ≤ 140737488351232 ∧ (a = none → len = 0 ∧ cap = 0) := by
  have c3 : Try.prog.cellsOf 3 = 1 := by kernel_rfl
  have b3 : Try.prog.bytesOf 3 = 8 := by kernel_rfl
  obtain ⟨fuel, hf⟩ := h
  rcases open_slice Try.underlying22 hf with ⟨hcs, _⟩ | ⟨x, l, c, m, n, D, Pl, hcs, _, hl, hm, hmm, hx, hel⟩
  · simp [Value.cells] at hcs
    obtain ⟨rfl, rfl, rfl⟩ := hcs
    exact ⟨fun _ => 0, ⟨fun i hi => absurd hi (Nat.not_lt_zero _), Or.inl rfl⟩, by decide, fun _ => ⟨rfl, rfl⟩⟩
  · simp [Value.cells] at hcs
    obtain ⟨rfl, rfl, rfl⟩ := hcs
    have hmc : m = cap := by simpa using hmm
    subst hmc
    simp only [Prod.mk.injEq] at hx
    obtain ⟨rfl, -⟩ := hx
    have hlen : len * 8 ≤ 140737488351232 := by
      have := hw ((len + (m - len)) * 8) (by simp [DataW.weights, Try.underlying22, b3])
      unfold reachBytes at this
      omega
    have each : ∀ i, i < len → ∃ v : Int, (-9223372036854775808 ≤ v ∧ v ≤ 9223372036854775807) ∧ W.cell? (x.add i) = some (.int .i64 v) := by
      intro i hi
      obtain ⟨cs', h1, h2⟩ := hel i (by omega)
      rw [c3] at h1
      obtain ⟨_, hln, hcell⟩ := World.cells?_some h1
      match cs', hln with
      | [v0], _ =>
        have e0 := hcell 0 (by omega)
        rw [add_add] at e0
        simp at e0
        obtain ⟨z0, f0, _, wz0⟩ := DataW.trod_int (k := .i64) Try.underlying3 h2
        simp only [List.cons.injEq, and_true] at f0
        exact ⟨z0, bounds_i64 wz0, by rw [e0, f0]⟩
    obtain ⟨V, hV⟩ := choose_lt each
    refine ⟨V, ⟨fun i hi => (hV i hi).1, ?_⟩, hlen, fun h => by cases h⟩
    by_cases h0 : len = 0
    · exact Or.inl h0
    · right
      obtain ⟨g, o, spot⟩ := x
      have hspot : spot = none := by simpa [Addr.add] using World.cell?_spot (hV 0 (by omega)).2
      subst hspot
      have hadd : ∀ j, (⟨g, o, none⟩ : Addr).add j = ⟨g, o + j, none⟩ := addr_at g o
      have hlt : g < W.heap.size := by
        have := cell_lt (hV 0 (by omega)).2
        rw [hadd] at this
        exact this
      refine ⟨g, o, rfl, hlt, fun i hi => ?_⟩
      have h1 := (hV i hi).2
      rw [hadd] at h1
      exact h1
end Go.Proofs.Ythpfofbheahlmaa
