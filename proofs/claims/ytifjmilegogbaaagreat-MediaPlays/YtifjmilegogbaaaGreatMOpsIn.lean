/-
  A script of MediaPlays that came in. No condition.
-/
import Derived.Test.YtifjmilegogbaaaGreatMPlays
import Derived.Deep.SlicePairs
import Derived.SizedLaws
import Derived.OpenShut
namespace Go.Proofs.YtifjmilegogbaaaGreat
open Go.RowKit Go.Deep Go.ChangeShapes Go.WideShapes
set_option maxRecDepth 100000

theorem addr_at (g o j : Nat) : (⟨g, o, none⟩ : Addr).add j = ⟨g, o + j, none⟩ := by unfold Addr.add; split <;> simp_all
theorem ops_in {H : Type} {enc : TypeId × Value → H} {W : World} {a : Option Addr} {len cap : Nat} {d : DataW H} {p : List MemPlace}
    (h : DataW.Trod enc Tryz.prog W 0 (fun _ => true) true 22 (.slice a len cap) d p) : ∃ O, IsOps W a len O ∧ len < 9223372036854775808 := by
  have ce : Tryz.prog.cellsOf 30 = 9 := by kernel_rfl
  have c3 : Tryz.prog.cellsOf 3 = 1 := by kernel_rfl
  have c2 : Tryz.prog.cellsOf 2 = 1 := by kernel_rfl
  have c4 : Tryz.prog.cellsOf 4 = 1 := by kernel_rfl
  have c5 : Tryz.prog.cellsOf 5 = 1 := by kernel_rfl
  have c28 : Tryz.prog.cellsOf 28 = 5 := by kernel_rfl
  obtain ⟨fuel, hf⟩ := h
  rcases open_slice Tryz.underlying22 hf with ⟨hcs, _⟩ | ⟨x, l, c, m, n, D, Pl, hcs, _, hl, hm, hmm, hx, hel⟩
  · simp [Value.cells] at hcs
    obtain ⟨rfl, rfl, rfl⟩ := hcs
    exact ⟨fun _ => ⟨0, 0, 0, 0, 0, 0, 0, false, 0⟩, ⟨fun i hi => absurd hi (Nat.not_lt_zero _), Or.inl rfl⟩, by decide⟩
  · simp [Value.cells] at hcs
    obtain ⟨rfl, rfl, rfl⟩ := hcs
    have hmc : m = cap := by simpa using hmm
    subst hmc
    have hlen : len < 9223372036854775808 := by unfold maxLen at hm; omega
    have each : ∀ i, i < len → ∃ o : Opd, o.Ok ∧ W.cell? (x.add (i * 9)) = some (.int .i64 o.K) ∧ W.cell? (x.add (i * 9 + 1)) = some (.int .i64 o.A) ∧ W.cell? (x.add (i * 9 + 2)) = some (.int .i64 o.B) ∧ W.cell? (x.add (i * 9 + 3)) = some (.int .i64 o.tp) ∧ W.cell? (x.add (i * 9 + 4)) = some (.int .i64 o.tf) ∧ W.cell? (x.add (i * 9 + 5)) = some (.int .i64 o.ts) ∧ W.cell? (x.add (i * 9 + 6)) = some (.int .i64 o.tc) ∧ W.cell? (x.add (i * 9 + 7)) = some (.bool o.tl) ∧ W.cell? (x.add (i * 9 + 8)) = some (.int .u8 (o.f : Nat)) := by
      intro i hi
      obtain ⟨cs', h1, h2⟩ := hel i (by omega)
      rw [ce] at h1
      obtain ⟨_, hln, hcell⟩ := World.cells?_some h1
      obtain ⟨xs, k, hk, hxy, _, hxl, hfs⟩ := DataW.trod_struct Tryz.underlying30 h2
      match xs, hxl, cs', hln with
      | [y0, y1, y2, y3, y4], _, [v0, v1, v2, v3, v4, v5, v6, v7, v8], _ =>
        have g0 := hfs 0 _ rfl
        have g1 := hfs 1 _ rfl
        have g2 := hfs 2 _ rfl
        have g3 := hfs 3 _ rfl
        have g4 := hfs 4 _ rfl
        simp [c3, c28, c5] at g0 g1 g2 g3 g4
        have e0 := hcell 0 (by omega)
        have e1 := hcell 1 (by omega)
        have e2 := hcell 2 (by omega)
        have e3 := hcell 3 (by omega)
        have e4 := hcell 4 (by omega)
        have e5 := hcell 5 (by omega)
        have e6 := hcell 6 (by omega)
        have e7 := hcell 7 (by omega)
        have e8 := hcell 8 (by omega)
        rw [add_add] at e0 e1 e2 e3 e4 e5 e6 e7 e8
        simp at e0 e1 e2 e3 e4 e5 e6 e7 e8
        obtain ⟨z0, f0, _, wz0⟩ := DataW.trod_int (k := .i64) Tryz.underlying3 g0
        obtain ⟨z1, f1, _, wz1⟩ := DataW.trod_int (k := .i64) Tryz.underlying3 g1
        obtain ⟨z2, f2, _, wz2⟩ := DataW.trod_int (k := .i64) Tryz.underlying3 g2
        obtain ⟨z8, f8, _, wz8⟩ := DataW.trod_int (k := .u8) Tryz.underlying5 g4
        obtain ⟨ys, k', hk', hxy', _, hyl, hgs⟩ := DataW.trod_struct Tryz.underlying28 g3
        match ys, hyl with
        | [u0, u1, u2, u3, u4], _ =>
          have j0 := hgs 0 _ rfl
          have j1 := hgs 1 _ rfl
          have j2 := hgs 2 _ rfl
          have j3 := hgs 3 _ rfl
          have j4 := hgs 4 _ rfl
          simp [c3, c2, c4] at j0 j1 j2 j3 j4
          obtain ⟨z3, f3, _, wz3⟩ := DataW.trod_int (k := .i64) Tryz.underlying3 j0
          obtain ⟨z4, f4, _, wz4⟩ := DataW.trod_int (k := .i64) Tryz.underlying3 j1
          obtain ⟨z5, f5, _, wz5⟩ := DataW.trod_int (k := .i64) Tryz.underlying2 j2
          obtain ⟨z6, f6, _, wz6⟩ := DataW.trod_int (k := .i64) Tryz.underlying3 j3
          obtain ⟨z7, f7, _⟩ := DataW.trod_bool Tryz.underlying4 j4
          simp only [List.cons.injEq, and_true] at f0 f1 f2 f3 f4 f5 f6 f7 f8
          have b0 := bounds_i64 wz0
          have b1 := bounds_i64 wz1
          have b2 := bounds_i64 wz2
          have b8 := bounds_u8 wz8
          refine ⟨⟨z0, z1, z2, z3, z4, z5, z6, z7, z8.toNat⟩, ⟨b0, b1.2, b2.2, by show z8.toNat < 256; omega⟩, by rw [e0, f0], by rw [e1, f1], by rw [e2, f2], by rw [e3, f3], by rw [e4, f4], by rw [e5, f5], by rw [e6, f6], by rw [e7, f7], ?_⟩
          show _ = some (Value.int .u8 ((z8.toNat : Nat) : Int))
          rw [e8, f8, Int.toNat_of_nonneg b8.1]
    have inst0 : Inhabited Opd := ⟨⟨0, 0, 0, 0, 0, 0, 0, false, 0⟩⟩
    obtain ⟨O, hO⟩ := choose_lt each
    refine ⟨O, ⟨fun i hi => (hO i hi).1, ?_⟩, hlen⟩
    by_cases h0 : len = 0
    · exact Or.inl h0
    · right
      obtain ⟨g, o, spot⟩ := x
      have hspot : spot = none := by simpa [Addr.add] using World.cell?_spot (hO 0 (by omega)).2.1
      subst hspot
      have hadd : ∀ j, (⟨g, o, none⟩ : Addr).add j = ⟨g, o + j, none⟩ := addr_at g o
      have hlt : g < W.heap.size := by
        have := cell_lt (hO 0 (by omega)).2.1
        rw [hadd] at this
        exact this
      refine ⟨g, o, rfl, hlt, fun i hi => ?_⟩
      obtain ⟨_, h0, h1, h2, h3, h4, h5, h6, h7, h8⟩ := hO i hi
      rw [hadd] at h0 h1 h2 h3 h4 h5 h6 h7 h8
      exact ⟨h0, by rw [Nat.add_assoc]; exact h1, by rw [Nat.add_assoc]; exact h2, by rw [Nat.add_assoc]; exact h3, by rw [Nat.add_assoc]; exact h4, by rw [Nat.add_assoc]; exact h5, by rw [Nat.add_assoc]; exact h6, by rw [Nat.add_assoc]; exact h7, by rw [Nat.add_assoc]; exact h8⟩
end Go.Proofs.YtifjmilegogbaaaGreat
