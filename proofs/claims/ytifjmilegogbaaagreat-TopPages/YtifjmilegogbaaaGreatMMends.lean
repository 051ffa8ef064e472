/-
  MediaMends: what was programmed is read as it was, or as nothing. Conditions: none (lemmas).
-/
import Derived.Test.YtifjmilegogbaaaGreatMCuts
namespace Go.Proofs.YtifjmilegogbaaaGreat
open Go.RowKit
set_option maxRecDepth 100000

/-- The greatest of the first k. -/
def mxT (D : Nat → Nat) : Nat → Nat
  | 0 => 0
  | k + 1 => max (mxT D k) (D k)
theorem mends_prog {p o q c : Nat} {l : Bool} (hm : May p o q c l) {Dt : List Nat} (hD : Dt.length = 174) (bD : Bys Dt) {s' : Chp} {r' : Int} {e : Nat} (h : ProgR newS 0 p p o q c l Dt s' r' e) :
    e = 0 ∧ s'.on = true ∧ ∀ k, k < 4 → s'.ch (4 * p + k) = pgmK (wordOf Dt (body p o q c l) k) := by
  obtain ⟨rfl, -, t, L, rfl⟩ := prog_done newS_ok hm hD bD rfl (fun _ _ => rfl) ⟨rfl, rfl, rfl⟩ (fun h => by cases h) h
  refine ⟨rfl, L.on, fun k hk => ?_⟩
  show t.ch (4 * p + k) = _
  rw [L.ch, if_pos ⟨by omega, by omega⟩, show 4 * p + k - 4 * p = k from by omega]
theorem mends_seen {p o q c : Nat} {l : Bool} (hm : May p o q c l) {Dt : List Nat} (hD : Dt.length = 174) (bD : Bys Dt) {s2 s : Chp} (h2 : ∀ k, k < 4 → s2.ch (4 * p + k) = pgmK (wordOf Dt (body p o q c l) k)) (hTu : Turned s2 s p) (ok : s.Ok) {X : Pg} (hT : ToldR (pgTo s p 4) (p : Nat) X) :
    (mxT (fun k => dmg (s.ch (4 * p + k))) 4 ≤ 2 → X.tagged = true ∧ X.p = p ∧ X.o = o ∧ X.s = q ∧ X.c = c ∧ X.l = l ∧ X.sound = true ∧ X.data = Dt ∧ X.dmg = mxT (fun k => dmg (s.ch (4 * p + k))) 4) ∧
    (2 < mxT (fun k => dmg (s.ch (4 * p + k))) 4 → mxT (fun k => dmg (s.ch (4 * p + k))) 4 ≤ 4 → X.sound = false ∧ X.data = [] ∧ X.dmg ≤ 2 ∧ (X.tagged = true ↔ dmg (s.ch (4 * p + 3)) ≤ 2) ∧ (X.tagged = true → X.p = p ∧ X.o = o ∧ X.s = q ∧ X.c = c ∧ X.l = l) ∧ ¬ (dmg (s.ch (4 * p + 0)) ≤ 2 ∧ dmg (s.ch (4 * p + 1)) ≤ 2 ∧ dmg (s.ch (4 * p + 2)) ≤ 2 ∧ dmg (s.ch (4 * p + 3)) ≤ 2)) := by
  have hu : ∀ k, k < 4 → hurt Dt (body p o q c l) (pgTo s p 4) k = dmg (s.ch (4 * p + k)) := fun k hk => hurt_dmg ok hk (by rw [hTu.tru, h2 k hk]; rfl)
  have u0 := hu 0 (by omega)
  have u1 := hu 1 (by omega)
  have u2 := hu 2 (by omega)
  have u3 := hu 3 (by omega)
  have hlen : (pgTo s p 4).length = 256 := pgTo_length ok _ _
  simp only [mxT]
  refine ⟨fun h => ?_, fun h h4 => ?_⟩
  · obtain ⟨m1, m2, m3, m4, m5, m6, m7, m8, m9⟩ := hT.mends hD bD hm hlen (fun k hk => by
      rw [hu k hk]
      rcases (by omega : k = 0 ∨ k = 1 ∨ k = 2 ∨ k = 3) with rfl | rfl | rfl | rfl <;> omega)
    refine ⟨m1, m2, m3, m4, m5, m6, m7, m8, ?_⟩
    rw [m9, u0, u1, u2, u3]
    omega
  · obtain ⟨n1, n2, n3, n4, n5, n6⟩ := hT.told hD bD hm hlen (fun k hk => by
      rw [hu k hk]
      rcases (by omega : k = 0 ∨ k = 1 ∨ k = 2 ∨ k = 3) with rfl | rfl | rfl | rfl <;> omega)
    rw [u0, u1, u2, u3] at n2
    rw [u3] at n1
    have hsd : X.sound = false := by
      cases hx : X.sound
      · rfl
      · have := n2.1 hx
        omega
    exact ⟨hsd, n6 hsd, n3, n1, n4, by omega⟩
/-- Four numbers in a block. -/
def Fo4 (w : World) (N : Nat) (a0 a1 a2 a3 : Int) : Prop := w.heap[N]? = some (.cells #[.int .i64 a0, .int .i64 a1, .int .i64 a2, .int .i64 a3] 61)
theorem Fo4.lt {w : World} {N : Nat} {a0 a1 a2 a3 : Int} (h : Fo4 w N a0 a1 a2 a3) : N < w.heap.size := (Array.getElem?_eq_some_iff.1 (show w.heap[N]? = some _ from h)).1
theorem Fo4.new (w : World) (a0 a1 a2 a3 : Int) : Fo4 (w.alloc (.cells #[.int .i64 a0, .int .i64 a1, .int .i64 a2, .int .i64 a3] 61)) w.heap.size a0 a1 a2 a3 := by
  show (w.heap.push _)[w.heap.size]? = _
  simp
theorem Fo4.chg {S : Nat → Prop} {w w' : World} {N : Nat} {a0 a1 a2 a3 : Int} (h : Fo4 w N a0 a1 a2 a3) (hc : Chg S w w') (hk : ¬ S N) : Fo4 w' N a0 a1 a2 a3 := (hc.block N h.lt hk).trans h
theorem Fo4.cells {w : World} {N : Nat} {a0 a1 a2 a3 : Int} (h : Fo4 w N a0 a1 a2 a3) : w.cell? ⟨N, 0, none⟩ = some (.int .i64 a0) ∧ w.cell? ⟨N, 1, none⟩ = some (.int .i64 a1) ∧ w.cell? ⟨N, 2, none⟩ = some (.int .i64 a2) ∧ w.cell? ⟨N, 3, none⟩ = some (.int .i64 a3) := by
  have h' : w.heap[N]? = some _ := h
  refine ⟨?_, ?_, ?_, ?_⟩ <;> simp [World.cell?, h']
theorem Fo4.frozen {w : World} {N : Nat} {a0 a1 a2 a3 : Int} (h : Fo4 w N a0 a1 a2 a3) (i : Nat) : w.frozen? ⟨N, i, none⟩ = false := by
  have h' : w.heap[N]? = some _ := h
  simp [World.frozen?, h']
/-- The first k of D, then noughts. -/
def upN (D : Nat → Nat) (k i : Nat) : Nat := if i < k then D i else 0
theorem Fo4.set {w : World} {N k : Nat} {D : Nat → Nat} (hk : k < 4) (h : Fo4 w N (upN D k 0 : Nat) (upN D k 1 : Nat) (upN D k 2 : Nat) (upN D k 3 : Nat)) : Fo4 (w.setCell ⟨N, k, none⟩ (.int .i64 (D k : Nat))) N (upN D (k + 1) 0 : Nat) (upN D (k + 1) 1 : Nat) (upN D (k + 1) 2 : Nat) (upN D (k + 1) 3 : Nat) := by
  have h2 := heap_setCell_same w N k _ 61 (.int .i64 (D k : Nat)) h
  unfold Fo4
  rw [h2]
  rcases (by omega : k = 0 ∨ k = 1 ∨ k = 2 ∨ k = 3) with rfl | rfl | rfl | rfl <;> rfl
theorem Fo4.cell {w : World} {N k : Nat} {D : Nat → Nat} (hk : k < 4) (h : Fo4 w N (upN D k 0 : Nat) (upN D k 1 : Nat) (upN D k 2 : Nat) (upN D k 3 : Nat)) : w.cell? ⟨N, k, none⟩ = some (.int .i64 0) := by
  obtain ⟨h0, h1, h2, h3⟩ := h.cells
  rcases (by omega : k = 0 ∨ k = 1 ∨ k = 2 ∨ k = 3) with rfl | rfl | rfl | rfl
  · exact h0
  · exact h1
  · exact h2
  · exact h3
end Go.Proofs.YtifjmilegogbaaaGreat
