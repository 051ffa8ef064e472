/-
  Lists of ints that came in, with their reach. No condition: lemmas.
-/
import Derived.Test.YtmicfipanpdjbaaBase
import Derived.Deep.SlicePairs
import Derived.SizedLaws
import Derived.OpenShut
namespace Go.Proofs.Ytmicfipanpdjbaa
set_option maxRecDepth 100000
open Go.RowKit Go.Deep Go.ChangeShapes Go.WideShapes

theorem addr_at (g o j : Nat) : (⟨g, o, none⟩ : Addr).add j = ⟨g, o + j, none⟩ := Addr.add_mid g o j
theorem cell_lt {w : World} {a : Addr} {v : Value} (h : w.cell? a = some v) : a.block < w.heap.size := by
  by_cases hb : a.block < w.heap.size
  · exact hb
  · rw [World.cell?, Array.getElem?_eq_none (by omega)] at h; cases h
theorem bounds_i64 {z : Int} (h : (Lit.int .i64 z).wf = true) : -9223372036854775808 ≤ z ∧ z ≤ 9223372036854775807 := by
  simpa [Lit.wf, IntKind.min, IntKind.max, IntKind.bits, IntKind.signed] using h
/-- A slice of ints that came in. -/
def IsInts (w : World) (a : Option Addr) (len : Nat) (V : Nat → Int) : Prop :=
  (∀ i, i < len → -9223372036854775808 ≤ V i ∧ V i ≤ 9223372036854775807) ∧ (len = 0 ∨ ∃ g o, a = some ⟨g, o, none⟩ ∧ g < w.heap.size ∧ ∀ i, i < len → w.cell? ⟨g, o + i, none⟩ = some (.int .i64 (V i)))
theorem ints_in {H : Type} {enc : TypeId × Value → H} {W : World} {a : Option Addr} {len cap : Nat} {d : DataW H} {p : List MemPlace}
    (h : DataW.Trod enc Try.prog W 0 (fun _ => true) true 22 (.slice a len cap) d p) (hw : ∀ x ∈ d.weights Try.prog 22, x ≤ reachBytes) : ∃ V, IsInts W a len V ∧ len * 8 ≤ 140737488351232 ∧ (a = none → len = 0 ∧ cap = 0) := by
  have c3 : Try.prog.cellsOf 3 = 1 := by kernel_rfl
  have b3 : Try.prog.bytesOf 3 = 8 := by kernel_rfl
  obtain ⟨fuel, hf⟩ := h
  rcases open_slice Try.underlying22 hf with ⟨hcs, _⟩ | ⟨x, l, c, m, n, D, Pl, hcs, _, hl, hm, hmm, hx, hel⟩
  · simp [Value.cells] at hcs
    obtain ⟨rfl, rfl, rfl⟩ := hcs
    exact ⟨fun _ => 0, ⟨fun i hi => absurd hi (Nat.not_lt_zero _), Or.inl rfl⟩, by decide, fun _ => ⟨rfl, rfl⟩⟩
  · simp [Value.cells] at hcs
    obtain ⟨rfl, rfl, rfl⟩ := hcs
    have hmc : m = cap := by simpa using hmm
    subst hmc
    simp only [Prod.mk.injEq] at hx
    obtain ⟨rfl, -⟩ := hx
    have hlen : len * 8 ≤ 140737488351232 := by
      have := hw ((len + (m - len)) * 8) (by simp [DataW.weights, Try.underlying22, b3])
      unfold reachBytes at this
      omega
    have each : ∀ i, i < len → ∃ v : Int, (-9223372036854775808 ≤ v ∧ v ≤ 9223372036854775807) ∧ W.cell? (x.add i) = some (.int .i64 v) := by
      intro i hi
      obtain ⟨cs', h1, h2⟩ := hel i (by omega)
      rw [c3] at h1
      obtain ⟨_, hln, hcell⟩ := World.cells?_some h1
      match cs', hln with
      | [v0], _ =>
        have e0 := hcell 0 (by omega)
        rw [add_add] at e0
        simp at e0
        obtain ⟨z0, f0, _, wz0⟩ := DataW.trod_int (k := .i64) Try.underlying3 h2
        simp only [List.cons.injEq, and_true] at f0
        exact ⟨z0, bounds_i64 wz0, by rw [e0, f0]⟩
    obtain ⟨V, hV⟩ := choose_lt each
    refine ⟨V, ⟨fun i hi => (hV i hi).1, ?_⟩, hlen, fun h => by cases h⟩
    by_cases h0 : len = 0
    · exact Or.inl h0
    · right
      obtain ⟨g, o, spot⟩ := x
      have hspot : spot = none := by simpa [Addr.add] using World.cell?_spot (hV 0 (by omega)).2
      subst hspot
      have hadd : ∀ j, (⟨g, o, none⟩ : Addr).add j = ⟨g, o + j, none⟩ := addr_at g o
      have hlt : g < W.heap.size := by
        have := cell_lt (hV 0 (by omega)).2
        rw [hadd] at this
        exact this
      refine ⟨g, o, rfl, hlt, fun i hi => ?_⟩
      have h1 := (hV i hi).2
      rw [hadd] at h1
      exact h1
/-- n ints lie where the slice's address says. -/
def Lies (w : World) (a : Option Addr) (n : Nat) (V : Nat → Int) : Prop := n = 0 ∨ ∃ g o, a = some ⟨g, o, none⟩ ∧ g < w.heap.size ∧ ∀ i, i < n → w.cell? ⟨g, o + i, none⟩ = some (.int .i64 (V i))
theorem IsInts.lies {w : World} {a : Option Addr} {n : Nat} {V : Nat → Int} (h : IsInts w a n V) : Lies w a n V := h.2
theorem Lies.chg {w w' : World} {a : Option Addr} {n : Nat} {V : Nat → Int} (h : Lies w a n V) (hc : Chg (fun _ => False) w w') : Lies w' a n V := by
  rcases h with h0 | ⟨g, o, e, hg, hv⟩
  · exact Or.inl h0
  · exact Or.inr ⟨g, o, e, Nat.lt_of_lt_of_le hg hc.size, fun i hi => (hc.cell hg (fun f => f) _).trans (hv i hi)⟩
theorem Lies.drewN {w : World} {a : Option Addr} {n : Nat} {V : Nat → Int} (h : Lies w a n V) (m : Nat) : Lies (w.drewN m) a n V := h.chg ((Chg.refl (fun _ => False) w).drewN m)
theorem Lies.at_ {w : World} {a : Option Addr} {n : Nat} {V : Nat → Int} (h : Lies w a n V) (i : Nat) (hi : i < n) : ∃ g o, a = some ⟨g, o, none⟩ ∧ w.cell? ⟨g, o + i, none⟩ = some (.int .i64 (V i)) := by
  rcases h with h0 | ⟨g, o, e, _, hv⟩
  · omega
  · exact ⟨g, o, e, hv i hi⟩
theorem IB.lies {w : World} {b n : Nat} {t : TypeId} {F : Nat → Int} (h : IB w b t n F) : Lies w (some ⟨b, 0, none⟩) n F := Or.inr ⟨b, 0, rfl, h.lt, fun i hi => by rw [Nat.zero_add]; exact (h.cell i hi).1⟩
theorem IB.drewN {w : World} {b n : Nat} {t : TypeId} {F : Nat → Int} (h : IB w b t n F) (m : Nat) : IB (w.drewN m) b t n F := h
/-- An operation. -/
structure Opd where
  K : Int
  A : Int
  B : Int
def OpOk (o : Opd) : Prop := (-9223372036854775808 ≤ o.K ∧ o.K ≤ 9223372036854775807) ∧ (-9223372036854775808 ≤ o.A ∧ o.A ≤ 9223372036854775807) ∧ (-9223372036854775808 ≤ o.B ∧ o.B ≤ 9223372036854775807)
def OpAt (w : World) (g o : Nat) (x : Opd) : Prop := w.cell? ⟨g, o, none⟩ = some (.int .i64 x.K) ∧ w.cell? ⟨g, o + 1, none⟩ = some (.int .i64 x.A) ∧ w.cell? ⟨g, o + 2, none⟩ = some (.int .i64 x.B)
theorem OpAt.chg {w w' : World} {g o : Nat} {x : Opd} (h : OpAt w g o x) (hc : Chg (fun _ => False) w w') (hg : g < w.heap.size) : OpAt w' g o x :=
  ⟨(hc.cell hg (fun f => f) _).trans h.1, (hc.cell hg (fun f => f) _).trans h.2.1, (hc.cell hg (fun f => f) _).trans h.2.2⟩
/-- A script that came in. -/
def IsOps (w : World) (a : Option Addr) (len : Nat) (O : Nat → Opd) : Prop :=
  (∀ i, i < len → OpOk (O i)) ∧ (len = 0 ∨ ∃ g o, a = some ⟨g, o, none⟩ ∧ g < w.heap.size ∧ ∀ i, i < len → OpAt w g (o + i * 3) (O i))
theorem ops_in {H : Type} {enc : TypeId × Value → H} {W : World} {a : Option Addr} {len cap : Nat} {d : DataW H} {p : List MemPlace}
    (h : DataW.Trod enc Try.prog W 0 (fun _ => true) true 23 (.slice a len cap) d p) (hw : ∀ x ∈ d.weights Try.prog 23, x ≤ reachBytes) : ∃ O, IsOps W a len O ∧ len * 24 ≤ 140737488351232 := by
  have ce : Try.prog.cellsOf 36 = 3 := by kernel_rfl
  have c3 : Try.prog.cellsOf 3 = 1 := by kernel_rfl
  have b36 : Try.prog.bytesOf 36 = 24 := by kernel_rfl
  obtain ⟨fuel, hf⟩ := h
  rcases open_slice Try.underlying23 hf with ⟨hcs, _⟩ | ⟨x, l, c, m, n, D, Pl, hcs, _, hl, hm, hmm, hx, hel⟩
  · simp [Value.cells] at hcs
    obtain ⟨rfl, rfl, rfl⟩ := hcs
    exact ⟨fun _ => ⟨0, 0, 0⟩, ⟨fun i hi => absurd hi (Nat.not_lt_zero _), Or.inl rfl⟩, by decide⟩
  · simp [Value.cells] at hcs
    obtain ⟨rfl, rfl, rfl⟩ := hcs
    have hmc : m = cap := by simpa using hmm
    subst hmc
    simp only [Prod.mk.injEq] at hx
    obtain ⟨rfl, -⟩ := hx
    have hlen : len * 24 ≤ 140737488351232 := by
      have := hw ((len + (m - len)) * 24) (by simp [DataW.weights, Try.underlying23, b36])
      unfold reachBytes at this
      omega
    have each : ∀ i, i < len → ∃ o : Opd, OpOk o ∧ W.cell? (x.add (i * 3)) = some (.int .i64 o.K) ∧ W.cell? (x.add (i * 3 + 1)) = some (.int .i64 o.A) ∧ W.cell? (x.add (i * 3 + 2)) = some (.int .i64 o.B) := by
      intro i hi
      obtain ⟨cs', h1, h2⟩ := hel i (by omega)
      rw [ce] at h1
      obtain ⟨_, hln, hcell⟩ := World.cells?_some h1
      obtain ⟨xs, k, hk, hxy, _, hxl, hfs⟩ := DataW.trod_struct Try.underlying36 h2
      match xs, hxl, cs', hln with
      | [y0, y1, y2], _, [v0, v1, v2], _ =>
        have g0 := hfs 0 _ rfl
        have g1 := hfs 1 _ rfl
        have g2 := hfs 2 _ rfl
        simp [c3] at g0 g1 g2
        have e0 := hcell 0 (by omega)
        have e1 := hcell 1 (by omega)
        have e2 := hcell 2 (by omega)
        rw [add_add] at e0 e1 e2
        simp at e0 e1 e2
        obtain ⟨z0, f0, _, wz0⟩ := DataW.trod_int (k := .i64) Try.underlying3 g0
        obtain ⟨z1, f1, _, wz1⟩ := DataW.trod_int (k := .i64) Try.underlying3 g1
        obtain ⟨z2, f2, _, wz2⟩ := DataW.trod_int (k := .i64) Try.underlying3 g2
        simp only [List.cons.injEq, and_true] at f0 f1 f2
        exact ⟨⟨z0, z1, z2⟩, ⟨bounds_i64 wz0, bounds_i64 wz1, bounds_i64 wz2⟩, by rw [e0, f0], by rw [e1, f1], by rw [e2, f2]⟩
    have inst0 : Inhabited Opd := ⟨⟨0, 0, 0⟩⟩
    obtain ⟨O, hO⟩ := choose_lt each
    refine ⟨O, ⟨fun i hi => (hO i hi).1, ?_⟩, hlen⟩
    by_cases h0 : len = 0
    · exact Or.inl h0
    · right
      obtain ⟨g, o, spot⟩ := x
      have hspot : spot = none := by simpa [Addr.add] using World.cell?_spot (hO 0 (by omega)).2.1
      subst hspot
      have hadd : ∀ j, (⟨g, o, none⟩ : Addr).add j = ⟨g, o + j, none⟩ := addr_at g o
      have hlt : g < W.heap.size := by
        have := cell_lt (hO 0 (by omega)).2.1
        rw [hadd] at this
        exact this
      refine ⟨g, o, rfl, hlt, fun i hi => ?_⟩
      obtain ⟨_, h0, h1, h2⟩ := hO i hi
      rw [hadd] at h0 h1 h2
      exact ⟨h0, by rw [Nat.add_assoc]; exact h1, by rw [Nat.add_assoc]; exact h2⟩
end Go.Proofs.Ytmicfipanpdjbaa
