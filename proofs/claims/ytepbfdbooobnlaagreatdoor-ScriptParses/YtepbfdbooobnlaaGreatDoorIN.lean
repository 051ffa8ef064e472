/-
  Lists of steps and of ints that came in. No condition: lemmas.
-/
import Derived.Test.YtepbfdbooobnlaaGreatDoorSW
import Derived.Deep.SlicePairs
import Derived.SizedLaws
import Derived.OpenShut
namespace Go.Proofs.YtepbfdbooobnlaaGreatDoor
set_option maxRecDepth 100000
open Go.RowKit Go.Deep Go.ChangeShapes Go.WideShapes
theorem bulk_one {H : Type} (d : DataW H) : 1 ≤ Rows.uptoBulk d := by
  cases d with
  | lit l => cases l <;> simp [Rows.uptoBulk]
  | _ => simp [Rows.uptoBulk]
theorem bulk_len {H : Type} (l : List (DataW H)) : l.length ≤ Rows.uptoBulkAll l := by
  induction l with
  | nil => simp [Rows.uptoBulkAll]
  | cons x r ih => have := bulk_one x; simp only [Rows.uptoBulkAll, List.length_cons]; omega
theorem addr_at (g o j : Nat) : (⟨g, o, none⟩ : Addr).add j = ⟨g, o + j, none⟩ := Addr.add_mid g o j
theorem cell_lt {w : World} {a : Addr} {v : Value} (h : w.cell? a = some v) : a.block < w.heap.size := by
  by_cases hb : a.block < w.heap.size
  · exact hb
  · rw [World.cell?, Array.getElem?_eq_none (by omega)] at h; cases h
theorem bounds_i64 {z : Int} (h : (Lit.int .i64 z).wf = true) : I64 z := by
  simpa [I64, Lit.wf, IntKind.min, IntKind.max, IntKind.bits, IntKind.signed] using h
theorem steps_in {H : Type} {enc : TypeId × Value → H} {W : World} {a : Option Addr} {len cap : Nat} {d : DataW H} {p : List MemPlace}
    (h : DataW.Trod enc Tryz.prog W 0 (fun _ => true) true 29 (.slice a len cap) d p) :
    ∃ l : List S3, l.length = len ∧ len ≤ cap ∧ Sl W (.slice a len cap) l ∧ (∀ f ∈ l, I64 f.a ∧ I64 f.b) ∧ (Rows.uptoBulk d ≤ 1048576 → len ≤ 1048576) := by
  have ce : Tryz.prog.cellsOf 50 = 3 := by kernel_rfl
  have c3 : Tryz.prog.cellsOf 3 = 1 := by kernel_rfl
  obtain ⟨fuel, hf⟩ := h
  rcases open_slice Tryz.underlying29 hf with ⟨hcs, _⟩ | ⟨x, l, c, m, n, D, Pl, hcs, _, hl, hm, hmm, hx, hel⟩
  · simp [Value.cells] at hcs
    obtain ⟨rfl, rfl, rfl⟩ := hcs
    exact ⟨[], rfl, Nat.le_refl _, Sl.nil _ _ _, fun f hf => by simp at hf, fun _ => by decide⟩
  · simp [Value.cells] at hcs
    obtain ⟨rfl, rfl, rfl⟩ := hcs
    have hmc : m = cap := by simpa using hmm
    subst hmc
    have hlen : Rows.uptoBulk d ≤ 1048576 → len ≤ 1048576 := by
      intro hb
      simp only [Prod.mk.injEq] at hx
      rw [hx.1] at hb
      have := bulk_len ((List.range len).map D)
      simp only [Rows.uptoBulk] at hb
      rw [List.length_map, List.length_range] at this
      omega
    have each : ∀ i, i < len → ∃ o : S3, (I64 o.a ∧ I64 o.b) ∧ W.cell? (x.add (i * 3)) = some (.int .i64 o.k) ∧ W.cell? (x.add (i * 3 + 1)) = some (.int .i64 o.a) ∧ W.cell? (x.add (i * 3 + 2)) = some (.int .i64 o.b) := by
      intro i hi
      obtain ⟨cs', h1, h2⟩ := hel i (by omega)
      rw [ce] at h1
      obtain ⟨_, hln, hcell⟩ := World.cells?_some h1
      obtain ⟨xs, k, hk, hxy, _, hxl, hfs⟩ := DataW.trod_struct Tryz.underlying50 h2
      match xs, hxl, cs', hln with
      | [y0, y1, y2], _, [v0, v1, v2], _ =>
        have g0 := hfs 0 _ rfl
        have g1 := hfs 1 _ rfl
        have g2 := hfs 2 _ rfl
        simp [c3] at g0 g1 g2
        have e0 := hcell 0 (by omega)
        have e1 := hcell 1 (by omega)
        have e2 := hcell 2 (by omega)
        rw [add_add] at e0 e1 e2
        simp at e0 e1 e2
        obtain ⟨z0, f0, _, wz0⟩ := DataW.trod_int (k := .i64) Tryz.underlying3 g0
        obtain ⟨z1, f1, _, wz1⟩ := DataW.trod_int (k := .i64) Tryz.underlying3 g1
        obtain ⟨z2, f2, _, wz2⟩ := DataW.trod_int (k := .i64) Tryz.underlying3 g2
        simp only [List.cons.injEq, and_true] at f0 f1 f2
        exact ⟨⟨z0, z1, z2⟩, ⟨bounds_i64 wz1, bounds_i64 wz2⟩, by rw [e0, f0], by rw [e1, f1], by rw [e2, f2]⟩
    have inst0 : Inhabited S3 := ⟨⟨0, 0, 0⟩⟩
    obtain ⟨O, hO⟩ := choose_lt each
    refine ⟨(List.range len).map O, by simp, hl, ?_, ?_, hlen⟩
    · refine ⟨some x, m, by simp, by simpa using hl, ?_⟩
      by_cases h0 : len = 0
      · exact Or.inl (by simpa using h0)
      · right
        obtain ⟨g, o, spot⟩ := x
        have hspot : spot = none := by simpa [Addr.add] using World.cell?_spot (hO 0 (by omega)).2.1
        subst hspot
        have hadd : ∀ j, (⟨g, o, none⟩ : Addr).add j = ⟨g, o + j, none⟩ := addr_at g o
        have hlt : g < W.heap.size := by
          have := cell_lt (hO 0 (by omega)).2.1
          rw [hadd] at this
          exact this
        refine ⟨g, o, rfl, hlt, fun i f hf j v hv => ?_⟩
        rw [List.getElem?_map] at hf
        have hi : i < len := by
          by_cases hi : i < len
          · exact hi
          · rw [List.getElem?_eq_none (by simp; omega)] at hf; cases hf
        rw [List.getElem?_range hi] at hf
        simp only [Option.map_some, Option.some.injEq] at hf
        subst hf
        obtain ⟨_, h0, h1, h2⟩ := hO i hi
        rw [hadd] at h0 h1 h2
        have hj : j < 3 := by have := (List.getElem?_eq_some_iff.1 hv).1; rwa [fL_length] at this
        have hj3 : j = 0 ∨ j = 1 ∨ j = 2 := by omega
        rcases hj3 with rfl | rfl | rfl
        · simp [fL] at hv; subst hv; exact h0
        · simp [fL] at hv; subst hv; rw [Nat.add_assoc]; exact h1
        · simp [fL] at hv; subst hv; rw [Nat.add_assoc]; exact h2
    · intro f hf
      obtain ⟨i, hi, rfl⟩ := List.mem_map.1 hf
      exact (hO i (List.mem_range.1 hi)).1
/-- A list of ints that came in. -/
def Ins (w : World) (a : Option Addr) (l : List Int) : Prop := (∀ z ∈ l, I64 z) ∧ (l.length = 0 ∨ ∃ g o, a = some ⟨g, o, none⟩ ∧ g < w.heap.size ∧ ∀ (i : Nat) (z : Int), l[i]? = some z → w.cell? ⟨g, o + i, none⟩ = some (.int .i64 z))
theorem Ins.new {w w' : World} {a : Option Addr} {l : List Int} (h : Ins w a l) (hc : Chg (fun _ => False) w w') : Ins w' a l := by
  refine ⟨h.1, ?_⟩
  rcases h.2 with h0 | ⟨g, o, e, hg, hz⟩
  · exact Or.inl h0
  · exact Or.inr ⟨g, o, e, Nat.lt_of_lt_of_le hg hc.size, fun i z hi => (hc.cell hg (fun f => f) _).trans (hz i z hi)⟩
theorem ints_in {H : Type} {enc : TypeId × Value → H} {W : World} {a : Option Addr} {len cap : Nat} {d : DataW H} {p : List MemPlace}
    (h : DataW.Trod enc Tryz.prog W 0 (fun _ => true) true 47 (.slice a len cap) d p) : ∃ l : List Int, l.length = len ∧ len ≤ cap ∧ Ins W a l ∧ len < 9223372036854775808 := by
  have ce : Tryz.prog.cellsOf 3 = 1 := by kernel_rfl
  obtain ⟨fuel, hf⟩ := h
  rcases open_slice Tryz.underlying47 hf with ⟨hcs, _⟩ | ⟨x, l, c, m, n, D, Pl, hcs, _, hl, hm, hmm, hx, hel⟩
  · simp [Value.cells] at hcs
    obtain ⟨rfl, rfl, rfl⟩ := hcs
    exact ⟨[], rfl, Nat.le_refl _, ⟨fun z hz => by simp at hz, Or.inl rfl⟩, by decide⟩
  · simp [Value.cells] at hcs
    obtain ⟨rfl, rfl, rfl⟩ := hcs
    have hmc : m = cap := by simpa using hmm
    subst hmc
    have hlen : len < 9223372036854775808 := by unfold maxLen at hm; omega
    have each : ∀ i, i < len → ∃ z : Int, I64 z ∧ W.cell? (x.add i) = some (.int .i64 z) := by
      intro i hi
      obtain ⟨cs', h1, h2⟩ := hel i (by omega)
      rw [ce] at h1
      obtain ⟨_, hln, hcell⟩ := World.cells?_some h1
      match cs', hln with
      | [v0], _ =>
        have e0 := hcell 0 (by omega)
        rw [add_add] at e0
        simp at e0
        obtain ⟨z0, f0, _, wz0⟩ := DataW.trod_int (k := .i64) Tryz.underlying3 h2
        simp only [List.cons.injEq, and_true] at f0
        exact ⟨z0, bounds_i64 wz0, by rw [e0, f0]⟩
    obtain ⟨O, hO⟩ := choose_lt each
    refine ⟨(List.range len).map O, by simp, hl, ⟨?_, ?_⟩, hlen⟩
    · intro z hz
      obtain ⟨i, hi, rfl⟩ := List.mem_map.1 hz
      exact (hO i (List.mem_range.1 hi)).1
    · by_cases h0 : len = 0
      · exact Or.inl (by simpa using h0)
      · right
        obtain ⟨g, o, spot⟩ := x
        have hspot : spot = none := by simpa [Addr.add] using World.cell?_spot (hO 0 (by omega)).2
        subst hspot
        have hadd : ∀ j, (⟨g, o, none⟩ : Addr).add j = ⟨g, o + j, none⟩ := addr_at g o
        have hlt : g < W.heap.size := by
          have := cell_lt (hO 0 (by omega)).2
          rw [hadd] at this
          exact this
        refine ⟨g, o, rfl, hlt, fun i z hz => ?_⟩
        rw [List.getElem?_map] at hz
        have hi : i < len := by
          by_cases hi : i < len
          · exact hi
          · rw [List.getElem?_eq_none (by simp; omega)] at hz; cases hz
        rw [List.getElem?_range hi] at hz
        simp only [Option.map_some, Option.some.injEq] at hz
        subst hz
        rw [← hadd]
        exact (hO i hi).2
end Go.Proofs.YtepbfdbooobnlaaGreatDoor
