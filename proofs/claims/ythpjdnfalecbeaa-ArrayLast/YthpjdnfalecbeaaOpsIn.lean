/-
  A script that came in. No condition.
-/
import Derived.Test.YthpjdnfalecbeaaPlays
import Derived.Test.YthpjdnfalecbeaaRowsIn
import Derived.Deep.SlicePairs
import Derived.SizedLaws
import Derived.OpenShut
namespace Go.Proofs.Ythpjdnfalecbeaa
open Go.RowKit Go.Deep Go.ChangeShapes Go.WideShapes
set_option maxRecDepth 100000

theorem add_at (g o j : Nat) : (⟨g, o, none⟩ : Addr).add j = ⟨g, o + j, none⟩ := by unfold Addr.add; split <;> simp_all
theorem weights_all {H : Type} {P : Program} {e : TypeId} : ∀ {ds : List (DataW H)} {d : DataW H}, d ∈ ds → ∀ n ∈ d.weights P e, n ∈ DataW.weightsAll P e ds
  | d0 :: ds, d, hd, n, hn => by
    simp only [DataW.weightsAll, List.mem_append]
    rcases List.mem_cons.1 hd with rfl | hd
    · exact Or.inl hn
    · exact Or.inr (weights_all hd n hn)
theorem ops_in {H : Type} {enc : TypeId × Value → H} {W : World} {a : Option Addr} {len cap : Nat} {d : DataW H} {p : List MemPlace}
    (h : DataW.Trod enc Try.prog W 0 (fun _ => true) true 22 (.slice a len cap) d p) (hw : ∀ x ∈ d.weights Try.prog 22, x ≤ reachBytes) : ∃ O, IsOps W a len O ∧ len ≤ 4398046510976 := by
  have ce : Try.prog.cellsOf 34 = 4 := by kernel_rfl
  have c3 : Try.prog.cellsOf 3 = 1 := by kernel_rfl
  have c5 : Try.prog.cellsOf 5 = 1 := by kernel_rfl
  have be : Try.prog.bytesOf 34 = 32 := by kernel_rfl
  obtain ⟨fuel, hf⟩ := h
  rcases open_slice Try.underlying22 hf with ⟨hcs, _⟩ | ⟨x, l, c, m, n, D, Pl, hcs, _, hl, hm, hmm, hx, hel⟩
  · simp [Value.cells] at hcs
    obtain ⟨rfl, rfl, rfl⟩ := hcs
    exact ⟨fun _ => ⟨0, 0, 0, 0⟩, ⟨fun i hi => absurd hi (Nat.not_lt_zero _), Or.inl rfl⟩, by decide⟩
  · simp [Value.cells] at hcs
    obtain ⟨rfl, rfl, rfl⟩ := hcs
    have hmc : m = cap := by simpa using hmm
    subst hmc
    simp only [Prod.mk.injEq] at hx
    obtain ⟨hd, _⟩ := hx
    rw [hd] at hw
    simp only [DataW.weights, Try.underlying22, be] at hw
    have hlen : len ≤ 4398046510976 := by
      have := hw _ List.mem_cons_self
      simp only [List.length_map, List.length_range, reachBytes] at this
      omega
    have each : ∀ i, i < len → ∃ o : Opd, o.Ok ∧ W.cell? (x.add (i * 4)) = some (.int .i64 o.K) ∧ W.cell? (x.add (i * 4 + 1)) = some (.int .i64 o.A) ∧ W.cell? (x.add (i * 4 + 2)) = some (.int .i64 o.B) ∧ W.cell? (x.add (i * 4 + 3)) = some (.int .u8 o.f) := by
      intro i hi
      obtain ⟨cs', h1, h2⟩ := hel i (by omega)
      rw [ce] at h1
      obtain ⟨_, hln, hcell⟩ := World.cells?_some h1
      obtain ⟨xs, k, hk, hxy, _, hxl, hfs⟩ := DataW.trod_struct Try.underlying34 h2
      simp only [Prod.mk.injEq] at hxy
      match xs, hxl, cs', hln with
      | [y0, y1, y2, y3], _, [v0, v1, v2, v3], _ =>
        have g0 := hfs 0 _ rfl
        have g1 := hfs 1 _ rfl
        have g2 := hfs 2 _ rfl
        have g3 := hfs 3 _ rfl
        simp [c3, c5] at g0 g1 g2 g3
        have e0 := hcell 0 (by omega)
        have e1 := hcell 1 (by omega)
        have e2 := hcell 2 (by omega)
        have e3 := hcell 3 (by omega)
        rw [add_add] at e0 e1 e2 e3
        simp at e0 e1 e2 e3
        obtain ⟨z0, f0, _, wz0⟩ := DataW.trod_int (k := .i64) Try.underlying3 g0
        obtain ⟨z1, f1, _, wz1⟩ := DataW.trod_int (k := .i64) Try.underlying3 g1
        obtain ⟨z2, f2, _, wz2⟩ := DataW.trod_int (k := .i64) Try.underlying3 g2
        obtain ⟨z3, f3, _, wz3⟩ := DataW.trod_int (k := .u8) Try.underlying5 g3
        simp only [List.cons.injEq, and_true] at f0 f1 f2 f3
        have b0 := bounds_i64 wz0
        have b1 := bounds_i64 wz1
        have b3 := bounds_u8 wz3
        exact ⟨⟨z0, z1, z2, z3.toNat⟩, ⟨b0.1, b0.2, b1.1, b1.2, by show z3.toNat < 256; omega⟩, by rw [e0, f0], by rw [e1, f1], by rw [e2, f2], by rw [e3, f3, Int.toNat_of_nonneg b3.1]⟩
    have inst0 : Inhabited Opd := ⟨⟨0, 0, 0, 0⟩⟩
    obtain ⟨O, hO⟩ := choose_lt each
    refine ⟨O, ⟨fun i hi => (hO i hi).1, ?_⟩, hlen⟩
    by_cases h0 : len = 0
    · exact Or.inl h0
    · right
      obtain ⟨g, o, spot⟩ := x
      have hspot : spot = none := by simpa [Addr.add] using World.cell?_spot (hO 0 (by omega)).2.1
      subst hspot
      have hadd : ∀ j, (⟨g, o, none⟩ : Addr).add j = ⟨g, o + j, none⟩ := add_at g o
      have hlt : g < W.heap.size := by
        have := cell_lt (hO 0 (by omega)).2.1
        rw [hadd] at this
        exact this
      refine ⟨g, o, rfl, hlt, fun i hi => ?_⟩
      obtain ⟨_, h1, h2, h3, h4⟩ := hO i hi
      rw [hadd] at h1 h2 h3 h4
      exact ⟨h1, by rw [Nat.add_assoc]; exact h2, by rw [Nat.add_assoc]; exact h3, by rw [Nat.add_assoc]; exact h4⟩
end Go.Proofs.Ythpjdnfalecbeaa
