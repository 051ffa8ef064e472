/-
  Blocks are taken in turn: what stands between two Takes. No condition: lemmas.
-/
import Derived.Test.YtjgibllcfhblnaaKeep
import Derived.Test.YtjgibllcfhblnaaPlays
namespace Go.Proofs.Ytjgibllcfhblnaa
set_option maxRecDepth 100000
open Go.RowKit Go.Deep Go.ChangeShapes Go.WideShapes

/-- How far block k lies behind f. -/
def ds (f k : Nat) : Nat := (k + 12 - f) % 12
/-- The table, the blocks that are in use, and when each was taken. -/
structure Rds (w0 w : World) (p u z : Nat) (F : Nat → Int) (U : Nat → Bool) (Z : Nat → Int) (f i : Nat) : Prop where
  pool : IB w p 48 13 F
  used : BB w u 44 12 U
  since : IB w z 45 12 Z
  val : ∀ k, k < 12 → F k = if U k then 2 else 0
  from_ : F 12 = f
  f12 : f < 12
  zs : ∀ k, k < 12 → 0 ≤ Z k ∧ Z k < i
  ord : ∀ k l, k < 12 → l < 12 → U k = false → U l = false → ds f k < ds f l → Z k < Z l ∨ Z k = 0
  free : ∃ k, k < 12 ∧ U k = false
  lp : w0.heap.size ≤ p
  lu : w0.heap.size ≤ u
  lz : w0.heap.size ≤ z
  npu : p ≠ u
  npz : p ≠ z
  nuz : u ≠ z
  chg : Chg (fun _ => False) w0 w
theorem Rds.unused {w0 w : World} {p u z : Nat} {F : Nat → Int} {U : Nat → Bool} {Z : Nat → Int} {f i : Nat} (h : Rds w0 w p u z F U Z f i) {k : Nat} (hk : k < 12) : F k = 0 ↔ U k = false := by
  rw [h.val k hk]
  cases U k <;> simp
/-- There is a next one. -/
theorem Rds.next {w0 w : World} {p u z : Nat} {F : Nat → Int} {U : Nat → Bool} {Z : Nat → Int} {f i : Nat} (h : Rds w0 w p u z F U Z f i) :
    ∃ j m, j < 12 ∧ m < 12 ∧ m = (f + j) % 12 ∧ F m = 0 ∧ U m = false ∧ (∀ i, i < j → F ((f + i) % 12) ≠ 0) ∧ ∀ k, k < 12 → U k = false → k ≠ m → ds f m < ds f k := by
  obtain ⟨c, m, hN, -, hm⟩ := nxt_any F f h.f12
  have hf := h.f12
  rcases hN with ⟨rfl, j, hj, hmj, hF, hno⟩ | ⟨rfl, rfl, hno⟩
  · refine ⟨j, m, hj, hm, hmj, hF, (h.unused hm).1 hF, hno, fun k hk hU hkm => ?_⟩
    have e1 : ds f m = j := by unfold ds; omega
    rw [e1]
    by_cases hlt : j < ds f k
    · exact hlt
    · exfalso
      have e2 : (f + ds f k) % 12 = k := by unfold ds; omega
      have hle : ds f k < j ∨ ds f k = j := by omega
      rcases hle with hle | hle
      · have := hno _ hle
        rw [e2] at this
        exact this ((h.unused hk).2 hU)
      · rw [hle, ← hmj] at e2
        exact hkm e2.symm
  · obtain ⟨k, hk, hU⟩ := h.free
    exact absurd ((h.unused hk).2 hU) (hno k hk)
/-- One was taken, and set free again. -/
theorem Rds.turn {w0 w w1 w2 w3 : World} {p u z : Nat} {F : Nat → Int} {U : Nat → Bool} {Z : Nat → Int} {f i : Nat} (h : Rds w0 w p u z F U Z f i) {m : Nat} (hm : m < 12) (hF : F m = 0)
    (hmin : ∀ k, k < 12 → U k = false → k ≠ m → ds f m < ds f k) (G1 : Chg (· = p) w w1) (K2 : IB w2 z 45 12 (upd Z m (i : Nat))) (G2 : Chg (· = z) w1 w2)
    (K3 : IB w3 p 48 13 (upd (upd (upd F m 1) 12 ((m + 1) % 12 : Nat)) m 0)) (G3 : Chg (· = p) w2 w3) :
    Rds w0 w3 p u z (upd (upd (upd F m 1) 12 ((m + 1) % 12 : Nat)) m 0) U (upd Z m (i : Nat)) ((m + 1) % 12) (i + 1) := by
  have hf := h.f12
  have hfr : ∀ k, k < 12 → upd (upd (upd F m 1) 12 ((m + 1) % 12 : Nat)) m 0 k = F k := by
    intro k hk
    unfold upd
    by_cases e : k = m
    · rw [if_pos e, e, hF]
    · rw [if_neg e, if_neg (by omega), if_neg e]
  refine ⟨K3, ((h.used.chg G1 (fun e => h.npu e.symm)).chg G2 h.nuz).chg G3 (fun e => h.npu e.symm), K2.chg G3 (fun e => h.npz e.symm), fun k hk => by rw [hfr k hk]; exact h.val k hk, ?_, Nat.mod_lt _ (by omega), fun k hk => ?_, fun k l hk hl hU hV hd => ?_, h.free, h.lp, h.lu, h.lz, h.npu, h.npz, h.nuz, ?_⟩
  · unfold upd
    rw [if_neg (by omega), if_pos rfl]
  · have := h.zs k hk
    unfold upd
    split <;> omega
  · have hzl := h.zs k hk
    by_cases ek : k = m
    · subst ek
      exfalso
      unfold ds at hd
      omega
    · have hk1 := hmin k hk hU ek
      by_cases el : l = m
      · left
        subst el
        have e1 : upd Z l (i : Nat) l = (i : Nat) := by simp [upd]
        have e2 : upd Z l (i : Nat) k = Z k := by unfold upd; rw [if_neg ek]
        rw [e1, e2]
        exact hzl.2
      · have hl1 := hmin l hl hV el
        have e1 : upd Z m (i : Nat) l = Z l := by unfold upd; rw [if_neg el]
        have e2 : upd Z m (i : Nat) k = Z k := by unfold upd; rw [if_neg ek]
        rw [e1, e2]
        refine h.ord k l hk hl hU hV ?_
        unfold ds at *
        omega
  · exact ((h.chg.trans' G1 (fun k hk e => by have := h.lp; omega)).trans' G2 (fun k hk e => by have := h.lz; omega)).trans' G3 (fun k hk e => by have := h.lp; omega)
/-- A slice of ints that came in. -/
def IsInts (w : World) (a : Option Addr) (len : Nat) (V : Nat → Int) : Prop :=
  (∀ i, i < len → -9223372036854775808 ≤ V i ∧ V i ≤ 9223372036854775807) ∧ (len = 0 ∨ ∃ g o, a = some ⟨g, o, none⟩ ∧ g < w.heap.size ∧ ∀ i, i < len → w.cell? ⟨g, o + i, none⟩ = some (.int .i64 (V i)))
theorem ints_in {H : Type} {enc : TypeId × Value → H} {W : World} {a : Option Addr} {len cap : Nat} {d : DataW H} {p : List MemPlace}
    (h : DataW.Trod enc Try.prog W 0 (fun _ => true) true 33 (.slice a len cap) d p) : ∃ V, IsInts W a len V ∧ len < 9223372036854775808 := by
  have c3 : Try.prog.cellsOf 3 = 1 := by kernel_rfl
  obtain ⟨fuel, hf⟩ := h
  rcases open_slice Try.underlying33 hf with ⟨hcs, _⟩ | ⟨x, l, c, m, n, D, Pl, hcs, _, hl, hm, hmm, hx, hel⟩
  · simp [Value.cells] at hcs
    obtain ⟨rfl, rfl, rfl⟩ := hcs
    exact ⟨fun _ => 0, ⟨fun i hi => absurd hi (Nat.not_lt_zero _), Or.inl rfl⟩, by decide⟩
  · simp [Value.cells] at hcs
    obtain ⟨rfl, rfl, rfl⟩ := hcs
    have hmc : m = cap := by simpa using hmm
    subst hmc
    have hlen : len < 9223372036854775808 := by unfold maxLen at hm; omega
    have each : ∀ i, i < len → ∃ v : Int, (-9223372036854775808 ≤ v ∧ v ≤ 9223372036854775807) ∧ W.cell? (x.add i) = some (.int .i64 v) := by
      intro i hi
      obtain ⟨cs', h1, h2⟩ := hel i (by omega)
      rw [c3] at h1
      obtain ⟨_, hln, hcell⟩ := World.cells?_some h1
      match cs', hln with
      | [v0], _ =>
        have e0 := hcell 0 (by omega)
        rw [add_add] at e0
        simp at e0
        obtain ⟨z0, f0, _, wz0⟩ := DataW.trod_int (k := .i64) Try.underlying3 h2
        simp only [List.cons.injEq, and_true] at f0
        exact ⟨z0, bounds_i64 wz0, by rw [e0, f0]⟩
    obtain ⟨V, hV⟩ := choose_lt each
    refine ⟨V, ⟨fun i hi => (hV i hi).1, ?_⟩, hlen⟩
    by_cases h0 : len = 0
    · exact Or.inl h0
    · right
      obtain ⟨g, o, spot⟩ := x
      have hspot : spot = none := by simpa [Addr.add] using World.cell?_spot (hV 0 (by omega)).2
      subst hspot
      have hadd : ∀ j, (⟨g, o, none⟩ : Addr).add j = ⟨g, o + j, none⟩ := addr_at g o
      have hlt : g < W.heap.size := by
        have := cell_lt (hV 0 (by omega)).2
        rw [hadd] at this
        exact this
      refine ⟨g, o, rfl, hlt, fun i hi => ?_⟩
      have h1 := (hV i hi).2
      rw [hadd] at h1
      exact h1
/-- Some were set full. -/
structure Ful (w0 w : World) (p u : Nat) (F : Nat → Int) (U : Nat → Bool) (i : Nat) : Prop where
  pool : IB w p 48 13 F
  used : BB w u 44 12 U
  val : ∀ k, k < 12 → F k = if U k then 2 else 0
  from_ : F 12 = (0 : Nat)
  cnt : cnt F 2 12 ≤ i
  lp : w0.heap.size ≤ p
  lu : w0.heap.size ≤ u
  npu : p ≠ u
  chg : Chg (fun _ => False) w0 w
theorem Ful.more {w0 w w1 w2 : World} {p u : Nat} {F : Nat → Int} {U : Nat → Bool} {i : Nat} (h : Ful w0 w p u F U i) {m : Nat} (hm : m < 12) (K1 : BB w1 u 44 12 (upd U m true)) (G1 : Chg (· = u) w w1) (K2 : IB w2 p 48 13 (upd F m 2)) (G2 : Chg (· = p) w1 w2) : Ful w0 w2 p u (upd F m 2) (upd U m true) (i + 1) := by
  refine ⟨K2, K1.chg G2 (fun e => h.npu e.symm), fun k hk => ?_, ?_, ?_, h.lp, h.lu, h.npu, (h.chg.trans' G1 (fun k hk e => by have := h.lu; omega)).trans' G2 (fun k hk e => by have := h.lp; omega)⟩
  · have := h.val k hk
    unfold upd
    by_cases e : k = m
    · simp [e]
    · simp [e, this]
  · unfold upd
    rw [if_neg (by omega)]
    exact h.from_
  · have hu := cnt_upd F m 2 2 12 hm
    have hc := h.cnt
    have e1 : one ((2 : Int) = 2) = 1 := rfl
    rw [e1] at hu
    omega
theorem cnt_full (F : Nat → Int) (s : Int) : ∀ k, (∀ i, i < k → F i = s) → cnt F s k = k
  | 0, _ => rfl
  | k + 1, h => by unfold cnt; rw [cnt_full F s k (fun i hi => h i (by omega)), if_pos (h k (by omega))]
theorem Ful.free {w0 w : World} {p u : Nat} {F : Nat → Int} {U : Nat → Bool} {i : Nat} (h : Ful w0 w p u F U i) (hi : i < 12) : ∃ k, k < 12 ∧ U k = false := by
  rcases first_of (fun k => U k = false) 12 with ⟨k, h1, h2, _⟩ | hno
  · exact ⟨k, h1, h2⟩
  · exfalso
    have := cnt_full F 2 12 (fun k hk => by
      rw [h.val k hk]
      have := hno k hk
      simp at this
      rw [this]; rfl)
    have hc := h.cnt
    omega
theorem Ful.start {w0 w w1 : World} {p u z : Nat} {F : Nat → Int} {U : Nat → Bool} {i : Nat} (h : Ful w0 w p u F U i) (hi : i < 12) (hz : z = w.heap.size) (K1 : IB w1 z 45 12 (fun _ => 0)) (G1 : Chg (fun _ => False) w w1) : Rds w0 w1 p u z F U (fun _ => 0) 0 1 := by
  have l1 := h.pool.lt
  have l2 := h.used.lt
  have l3 := h.chg.size
  exact ⟨h.pool.chg G1 (fun f => f), h.used.chg G1 (fun f => f), K1, h.val, h.from_, by omega, fun k _ => ⟨by omega, by omega⟩, fun k l _ _ _ _ _ => Or.inr rfl, h.free hi, h.lp, h.lu, by omega, h.npu, by omega, by omega, h.chg.trans G1⟩
end Go.Proofs.Ytjgibllcfhblnaa
