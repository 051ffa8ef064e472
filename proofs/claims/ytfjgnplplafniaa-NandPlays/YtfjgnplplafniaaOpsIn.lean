/-
  A script that came in. No condition.
-/
import Derived.Test.YtfjgnplplafniaaPlays
import Derived.Test.YtfjgnplplafniaaRowsIn
import Derived.Deep.SlicePairs
import Derived.SizedLaws
import Derived.OpenShut
namespace Go.Proofs.Ytfjgnplplafniaa
open Go.RowKit Go.Deep Go.ChangeShapes Go.WideShapes
set_option maxRecDepth 100000

theorem add_at (g o j : Nat) : (⟨g, o, none⟩ : Addr).add j = ⟨g, o + j, none⟩ := by unfold Addr.add; split <;> simp_all
theorem weights_all {H : Type} {P : Program} {e : TypeId} : ∀ {ds : List (DataW H)} {d : DataW H}, d ∈ ds → ∀ n ∈ d.weights P e, n ∈ DataW.weightsAll P e ds
  | d0 :: ds, d, hd, n, hn => by
    simp only [DataW.weightsAll, List.mem_append]
    rcases List.mem_cons.1 hd with rfl | hd
    · exact Or.inl hn
    · exact Or.inr (weights_all hd n hn)
/-- Bytes that came in, inside something. -/
theorem bytes_in {H : Type} {enc : TypeId × Value → H} {W : World} {n : Nat} {v : Value} {d : DataW H} {p : List MemPlace} (h : DataW.trod enc Try.prog W 0 (fun _ => true) true n 33 [v] = some (d, p)) (hw : ∀ x ∈ d.weights Try.prog 33, x ≤ reachBytes) :
    ∃ (a : Option Addr) (cap : Nat) (l : List Nat), v = .slice a l.length cap ∧ (a = none → l.length = 0 ∧ cap = 0) ∧ Held W (.slice a l.length cap) l ∧ Bys l ∧ l.length ≤ 140737488351232 ∧ ∀ k, l.length ≠ 0 ∧ (Value.slice a l.length cap).ownBlock = some k → k < W.heap.size := by
  rcases open_ints Try.underlying33 Try.underlying5 (by kernel_rfl) h with ⟨hcs, hx⟩ | ⟨x, l, c, zs, hcs, _, hl, hm, hz, hx, hcell, hwz⟩
  · simp only [List.cons.injEq, and_true] at hcs
    subst hcs
    exact ⟨none, 0, [], rfl, fun _ => ⟨rfl, rfl⟩, ⟨none, 0, rfl, Or.inl rfl⟩, fun n hn => (by cases hn), by decide, fun k hk => absurd rfl hk.1⟩
  · simp only [List.cons.injEq, and_true] at hcs
    subst hcs
    have hz' : zs.length = c := by simpa using hz
    simp only [Prod.mk.injEq] at hx
    obtain ⟨hd, _⟩ := hx
    have hc : c ≤ 140737488351232 := by
      have := hw (c * 1) (by
        rw [hd]
        simp only [DataW.weights, Try.underlying33, show Try.prog.bytesOf 5 = 1 from by kernel_rfl]
        simp [lits]; omega)
      unfold reachBytes at this
      omega
    obtain ⟨ls, h1, h2, h3, h4⟩ := rd_of_row (a := some x) (len := l) (cap := c) (zs := zs) (w := W) (.inr ⟨x, rfl, hl, hm, hz', hcell, hwz⟩)
    subst h1
    obtain ⟨hb, hr⟩ := h4 W.heap.size (Nat.le_refl _)
    refine ⟨some x, c, ls, rfl, h3, ⟨some x, c, rfl, ?_⟩, hb, by omega, fun k hk => ?_⟩
    · rcases hr with h0 | ⟨g, o, e, _, hg, hce⟩
      · exact Or.inl (by rw [h0]; rfl)
      · exact Or.inr ⟨g, o, e, hg, hce⟩
    · rcases hr with h0 | ⟨g, o, e, _, hg, _⟩
      · exact absurd (by rw [h0]; rfl) hk.1
      · rw [e] at hk
        have : g = k := Option.some.inj hk.2
        omega
theorem ops_in {H : Type} {enc : TypeId × Value → H} {W : World} {a : Option Addr} {len cap : Nat} {d : DataW H} {p : List MemPlace}
    (h : DataW.Trod enc Try.prog W 0 (fun _ => true) true 22 (.slice a len cap) d p) (hw : ∀ x ∈ d.weights Try.prog 22, x ≤ reachBytes) : ∃ O, IsOps W a len O ∧ len ≤ 2932031007402 := by
  have ce : Try.prog.cellsOf 35 = 4 := by kernel_rfl
  have c3 : Try.prog.cellsOf 3 = 1 := by kernel_rfl
  have c33 : Try.prog.cellsOf 33 = 1 := by kernel_rfl
  have be : Try.prog.bytesOf 35 = 48 := by kernel_rfl
  obtain ⟨fuel, hf⟩ := h
  rcases open_slice Try.underlying22 hf with ⟨hcs, _⟩ | ⟨x, l, c, m, n, D, Pl, hcs, _, hl, hm, hmm, hx, hel⟩
  · simp [Value.cells] at hcs
    obtain ⟨rfl, rfl, rfl⟩ := hcs
    exact ⟨fun _ => ⟨0, 0, 0, none, 0, []⟩, ⟨fun i hi => absurd hi (Nat.not_lt_zero _), Or.inl rfl⟩, by decide⟩
  · simp [Value.cells] at hcs
    obtain ⟨rfl, rfl, rfl⟩ := hcs
    have hmc : m = cap := by simpa using hmm
    subst hmc
    simp only [Prod.mk.injEq] at hx
    obtain ⟨hd, _⟩ := hx
    rw [hd] at hw
    simp only [DataW.weights, Try.underlying22, be] at hw
    have hlen : len ≤ 2932031007402 := by
      have := hw _ List.mem_cons_self
      simp only [List.length_map, List.length_range, reachBytes] at this
      omega
    have hwi : ∀ i, i < len → ∀ y ∈ (D i).weights Try.prog 35, y ≤ reachBytes := fun i hi y hy =>
      hw y (List.mem_cons_of_mem _ (List.mem_append_left _ (weights_all (List.mem_map.2 ⟨i, List.mem_range.2 hi, rfl⟩) y hy)))
    have each : ∀ i, i < len → ∃ o : Opd, o.Ok W ∧ W.cell? (x.add (i * 4)) = some (.int .i64 o.K) ∧ W.cell? (x.add (i * 4 + 1)) = some (.int .i64 o.A) ∧ W.cell? (x.add (i * 4 + 2)) = some (.int .i64 o.B) ∧ W.cell? (x.add (i * 4 + 3)) = some (.slice o.ad o.l.length o.cap) := by
      intro i hi
      obtain ⟨cs', h1, h2⟩ := hel i (by omega)
      rw [ce] at h1
      obtain ⟨_, hln, hcell⟩ := World.cells?_some h1
      obtain ⟨xs, k, hk, hxy, _, hxl, hfs⟩ := DataW.trod_struct Try.underlying35 h2
      have hwD := hwi i hi
      simp only [Prod.mk.injEq] at hxy
      rw [hxy.1] at hwD
      match xs, hxl, cs', hln with
      | [y0, y1, y2, y3], _, [v0, v1, v2, v3], _ =>
        have g0 := hfs 0 _ rfl
        have g1 := hfs 1 _ rfl
        have g2 := hfs 2 _ rfl
        have g3 := hfs 3 _ rfl
        simp [c3, c33] at g0 g1 g2 g3
        have e0 := hcell 0 (by omega)
        have e1 := hcell 1 (by omega)
        have e2 := hcell 2 (by omega)
        have e3 := hcell 3 (by omega)
        rw [add_add] at e0 e1 e2 e3
        simp at e0 e1 e2 e3
        obtain ⟨z0, f0, _, wz0⟩ := DataW.trod_int (k := .i64) Try.underlying3 g0
        obtain ⟨z1, f1, _, wz1⟩ := DataW.trod_int (k := .i64) Try.underlying3 g1
        obtain ⟨z2, f2, _, wz2⟩ := DataW.trod_int (k := .i64) Try.underlying3 g2
        simp only [List.cons.injEq, and_true] at f0 f1 f2
        obtain ⟨ad, q, ls, ev, k1, k2, k3, k4, k5⟩ := bytes_in (d := y3.1) (p := y3.2) g3 (fun y hy => hwD y (by
          simp only [DataW.weights, Try.underlying35]
          exact DataW.weights_mem_each (j := 3) (t := 33) (d := y3.1) rfl rfl y hy))
        have b0 := bounds_i64 wz0
        have b1 := bounds_i64 wz1
        have b2 := bounds_i64 wz2
        exact ⟨⟨z0, z1, z2, ad, q, ls⟩, ⟨b0.1, b0.2, b1.2, b2.2, k1, k2, k3, k4, k5⟩, by rw [e0, f0], by rw [e1, f1], by rw [e2, f2], by rw [e3, ev]⟩
    have inst0 : Inhabited Opd := ⟨⟨0, 0, 0, none, 0, []⟩⟩
    obtain ⟨O, hO⟩ := choose_lt each
    refine ⟨O, ⟨fun i hi => (hO i hi).1, ?_⟩, hlen⟩
    by_cases h0 : len = 0
    · exact Or.inl h0
    · right
      obtain ⟨g, o, spot⟩ := x
      have hspot : spot = none := by simpa [Addr.add] using World.cell?_spot (hO 0 (by omega)).2.1
      subst hspot
      have hadd : ∀ j, (⟨g, o, none⟩ : Addr).add j = ⟨g, o + j, none⟩ := add_at g o
      have hlt : g < W.heap.size := by
        have := cell_lt (hO 0 (by omega)).2.1
        rw [hadd] at this
        exact this
      refine ⟨g, o, rfl, hlt, fun i hi => ?_⟩
      obtain ⟨_, h1, h2, h3, h4⟩ := hO i hi
      rw [hadd] at h1 h2 h3 h4
      exact ⟨h1, by rw [Nat.add_assoc]; exact h2, by rw [Nat.add_assoc]; exact h3, by rw [Nat.add_assoc]; exact h4⟩
end Go.Proofs.Ytfjgnplplafniaa
