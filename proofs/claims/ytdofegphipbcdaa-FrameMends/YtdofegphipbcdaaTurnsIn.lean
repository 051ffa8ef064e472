/-
  A slice of turns that came in. No condition.
-/
import Derived.Test.YtdofegphipbcdaaFill
import Derived.Deep.SlicePairs
import Derived.OpenShut
namespace Go.Proofs.Ytdofegphipbcdaa
open Go.RowKit Go.Deep
set_option maxRecDepth 100000

theorem add_at (g o j : Nat) : (⟨g, o, none⟩ : Addr).add j = ⟨g, o + j, none⟩ := by unfold Addr.add; split <;> simp_all
theorem turns_in {H : Type} {enc : TypeId × Value → H} {W : World} {a1 : Option Addr} {len1 cap1 : Nat} {d : DataW H} {p : List MemPlace}
    (h : DataW.Trod enc Try.prog W 0 (fun _ => true) true 47 (.slice a1 len1 cap1) d p) : ∃ T, IsTurns W a1 len1 T ∧ len1 ≤ 9223372036854775807 := by
  obtain ⟨fuel, hf⟩ := h
  rcases open_slice_pairs Try.underlying47 Try.underlying51 (by kernel_rfl) rfl rfl (by kernel_rfl) (by kernel_rfl) hf with ⟨hcs, _⟩ | ⟨x, l, c, m, n, V0, V1, D0, D1, P0, P1, hcs, _, hl, hm, hmm, _, hel⟩
  · simp [Value.cells] at hcs
    obtain ⟨rfl, rfl, rfl⟩ := hcs
    exact ⟨fun _ => (0, 0), ⟨fun i hi => absurd hi (Nat.not_lt_zero _), Or.inl rfl⟩, by decide⟩
  · simp [Value.cells] at hcs
    obtain ⟨rfl, rfl, rfl⟩ := hcs
    have hmc : m = cap1 := by simpa using hmm
    subst hmc
    have hml : len1 ≤ 9223372036854775807 := by unfold maxLen at hm; omega
    have each : ∀ i, i < len1 → ∃ t : Int × Nat, (-9223372036854775808 ≤ t.1 ∧ t.1 ≤ 9223372036854775807 ∧ t.2 < 256) ∧ W.cell? (x.add (i * 2)) = some (.int .i64 t.1) ∧ W.cell? (x.add (i * 2 + 1)) = some (.int .u8 (t.2 : Nat)) := by
      intro i hi
      obtain ⟨h0, h1, h2, h3⟩ := hel i (by omega)
      obtain ⟨z, e0, _, wz⟩ := DataW.trod_int (k := .i64) Try.underlying3 h2
      obtain ⟨y, e1, _, wy⟩ := DataW.trod_int (k := .u8) Try.underlying5 h3
      simp only [List.cons.injEq, and_true] at e0 e1
      rw [e0] at h0
      rw [e1] at h1
      have b0 := bounds_i64 wz
      have b1 := bounds_u8 wy
      have ey : ((y.toNat : Nat) : Int) = y := by omega
      exact ⟨(z, y.toNat), ⟨by omega, by omega, by show y.toNat < 256; omega⟩, h0, by rw [ey]; exact h1⟩
    obtain ⟨T, hT⟩ := choose_lt each
    refine ⟨T, ⟨fun i hi => (hT i hi).1, ?_⟩, hml⟩
    by_cases h0 : len1 = 0
    · exact Or.inl h0
    · right
      obtain ⟨g, o, spot⟩ := x
      have hspot : spot = none := by simpa [Addr.add] using World.cell?_spot (hT 0 (by omega)).2.1
      subst hspot
      have hadd : ∀ j, (⟨g, o, none⟩ : Addr).add j = ⟨g, o + j, none⟩ := add_at g o
      have hlt : g < W.heap.size := by
        have := cell_lt (hT 0 (by omega)).2.1
        rw [hadd] at this
        exact this
      refine ⟨g, o, rfl, hlt, fun i hi => ?_⟩
      obtain ⟨_, h1, h2⟩ := hT i hi
      rw [hadd] at h1 h2
      exact ⟨h1, by rw [Nat.add_assoc]; exact h2⟩
end Go.Proofs.Ytdofegphipbcdaa
