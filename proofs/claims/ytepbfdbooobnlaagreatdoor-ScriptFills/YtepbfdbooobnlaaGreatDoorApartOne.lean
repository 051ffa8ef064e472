/-
  patinaref01.Apart, its pieces: what is written over, what is grown, and what is known of it. No condition: definitions and lemmas on worlds.
-/
import Derived.Test.YtepbfdbooobnlaaGreatDoorTight
namespace Go.Proofs.YtepbfdbooobnlaaGreatDoor
set_option maxRecDepth 100000
open Go.RowKit

def ct (i k : Nat) : Nat := (37 * i + k) % 256
def tl (i k : Nat) : Nat := (100 + 37 * i + k) % 256
/-- What a list of n bytes is written over with. -/
def con (i n : Nat) : List Nat := (List.range n).map (ct i)
/-- What it is grown by, in k steps. -/
def tails (i k : Nat) : List Nat := (List.range k).map (tl i)
def ovw (i : Nat) (l : List Nat) (k : Nat) : List Nat := con i k ++ l.drop k
theorem con_length (i n : Nat) : (con i n).length = n := by simp [con]
theorem tails_length (i n : Nat) : (tails i n).length = n := by simp [tails]
theorem ovw_zero (i : Nat) (l : List Nat) : ovw i l 0 = l := by simp [ovw, con]
theorem ovw_length (i : Nat) (l : List Nat) (k : Nat) (h : k ≤ l.length) : (ovw i l k).length = l.length := by simp [ovw, con_length]; omega
theorem ovw_full (i : Nat) (l : List Nat) : ovw i l l.length = con i l.length := by simp [ovw]
theorem con_succ (i k : Nat) : con i (k + 1) = con i k ++ [ct i k] := by simp [con, List.range_succ]
theorem tails_succ (i k : Nat) : tails i (k + 1) = tails i k ++ [tl i k] := by simp [tails, List.range_succ]
theorem ovw_set (i : Nat) (l : List Nat) (k : Nat) (h : k < l.length) : (ovw i l k).set k (ct i k) = ovw i l (k + 1) := by
  unfold ovw
  rw [List.set_append_right _ _ (by rw [con_length]; omega), con_length, Nat.sub_self, con_succ, List.append_assoc]
  congr 1
  rw [List.drop_eq_getElem_cons h]
  rfl
theorem con_getD (i n k : Nat) (h : k < n) : (con i n).getD k 0 = ct i k := by
  simp [con, List.getD_eq_getElem?_getD, h]
theorem grown_getD (i n m k : Nat) (h : k < n) : (con i n ++ tails i m).getD k 0 = ct i k := by
  rw [List.getD_eq_getElem?_getD, List.getElem?_append_left (by rw [con_length]; exact h), ← List.getD_eq_getElem?_getD, con_getD i n k h]
theorem grown_getD' (i n m k : Nat) (h : k < m) : (con i n ++ tails i m).getD (n + k) 0 = tl i k := by
  rw [List.getD_eq_getElem?_getD, List.getElem?_append_right (by rw [con_length]; omega), con_length, Nat.add_sub_cancel_left]
  simp [tails, h]
theorem ct_lt (i k : Nat) : ct i k < 256 := Nat.mod_lt _ (by decide)
theorem tl_lt (i k : Nat) : tl i k < 256 := Nat.mod_lt _ (by decide)

/-- The blocks of the lists. -/
def Blk (N : Nat) (v : Nat → Value) (k : Nat) : Prop := ∃ i, i < N ∧ (v i).ownBlock = some k
/-- What is known ahead of round i. -/
structure Inv (w : World) (N base : Nat) (v : Nat → Value) (l : Nat → List Nat) (i : Nat) (wr : World) (vg : Value) (Gs : List Value) : Prop where
  le : i ≤ N
  len : Gs.length = i
  own : wr.ownsRow w.heap.size 23 1 vg i Gs
  chg : Chg (Blk N v) w wr
  done : ∀ j, j < i → Held wr (v j) (con j (l j).length) ∧ Held wr (Gs.getD j undef) (con j (l j).length ++ tails j 7) ∧
    ((Gs.getD j undef).ownBlock = (v j).ownBlock ∨ ∃ h, w.heap.size ≤ h ∧ (Gs.getD j undef).ownBlock = some h ∧ vg.ownBlock ≠ some h)
  rest : ∀ j, i ≤ j → j < N → OwnT wr base 5 (v j) (l j)
/-- What is asked of the lists. -/
structure Lists (w : World) (N base : Nat) (v : Nat → Value) (l : Nat → List Nat) : Prop where
  own : ∀ i, i < N → OwnT w base 5 (v i) (l i)
  apart : ∀ i j k, i < N → j < N → i ≠ j → (v i).ownBlock = some k → (v j).ownBlock ≠ some k

theorem Inv.start {w : World} {N base : Nat} {v : Nat → Value} {l : Nat → List Nat} (h : Lists w N base v l) : Inv w N base v l 0 w (.slice none 0 0) [] :=
  ⟨Nat.zero_le _, rfl, ⟨rfl, Or.inl ⟨rfl, rfl⟩⟩, Chg.refl _ _, fun _ hj => absurd hj (Nat.not_lt_zero _), fun j _ hj => h.own j hj⟩

theorem ownsRow_block {w : World} {base : Nat} {e : TypeId} {size : Nat} {v : Value} {n : Nat} {xs : List Value} (h : w.ownsRow base e size v n xs) {k : Nat} (hk : v.ownBlock = some k) : base ≤ k ∧ k < w.heap.size := by
  rcases h.2 with ⟨rfl, _⟩ | ⟨g, cap, cur, rfl, hb, hh, _⟩
  · cases hk
  · have e : g = k := Option.some.inj hk
    subst e
    exact ⟨hb, (Array.getElem?_eq_some_iff.1 hh).1⟩
theorem ownsRow_keep {w w' : World} {base : Nat} {e : TypeId} {size : Nat} {v : Value} {n : Nat} {xs : List Value} (h : w.ownsRow base e size v n xs) (hk : ∀ k, k < w.heap.size → v.ownBlock = some k → w'.heap[k]? = w.heap[k]?) :
    w'.ownsRow base e size v n xs := by
  refine ⟨h.1, ?_⟩
  rcases h.2 with h1 | ⟨g, cap, cur, rfl, hb, hh, r⟩
  · exact Or.inl h1
  · exact Or.inr ⟨g, cap, cur, rfl, hb, (hk g (Array.getElem?_eq_some_iff.1 hh).1 rfl).trans hh, r⟩
theorem Held.block {w : World} {v : Value} {l : List Nat} (h : Held w v l) (h0 : l.length ≠ 0) : ∃ k, v.ownBlock = some k ∧ k < w.heap.size := by
  obtain ⟨a, cap, rfl, h | ⟨g, o, rfl, hg, _⟩⟩ := h
  · exact absurd h h0
  · exact ⟨g, rfl, hg⟩

/-- The lists of the rounds behind, and the grown list, while one list is written over or grown. -/
theorem Inv.step {w : World} {N base : Nat} {v : Nat → Value} {l : Nat → List Nat} {i : Nat} {wr wx : World} {vg : Value} {Gs : List Value} (hL : Lists w N base v l) (hi : i < N)
    (h : Inv w N base v l i wr vg Gs) (hx : Chg (fun k => (v i).ownBlock = some k) wr wx) :
    wx.ownsRow w.heap.size 23 1 vg i Gs ∧ Chg (Blk N v) w wx ∧
    (∀ j, j < i → Held wx (v j) (con j (l j).length) ∧ Held wx (Gs.getD j undef) (con j (l j).length ++ tails j 7)) ∧
    (∀ j, i + 1 ≤ j → j < N → OwnT wx base 5 (v j) (l j)) := by
  have hvi : ∀ k, (v i).ownBlock = some k → k < w.heap.size := fun k hk => ((hL.own i hi).block hk).2
  refine ⟨ownsRow_keep h.own (fun k hk he => hx.block k hk (fun hh => ?_)), h.chg.trans' hx (fun k hk hh => ⟨i, hi, hh⟩), fun j hj => ⟨?_, ?_⟩, fun j h1 h2 => ?_⟩
  · have h1 := (ownsRow_block h.own he).1
    have h2 := hvi k hh
    omega
  · exact (h.done j hj).1.chg hx (fun k hk he hh => hL.apart i j k hi (by omega) (by omega) hh he)
  · refine (h.done j hj).2.1.chg hx (fun k hk he hh => ?_)
    rcases (h.done j hj).2.2 with h3 | ⟨g, hg, h3, _⟩
    · rw [h3] at he; exact hL.apart i j k hi (by omega) (by omega) hh he
    · rw [h3] at he
      have e := Option.some.inj he
      have h2 := hvi k hh
      omega
  · exact (h.rest j (by omega) h2).chg hx (fun k hk he hh => hL.apart i j k hi h2 (by omega) hh he)

/-- The round's end: the grown list takes the new one up. -/
theorem Inv.next {w : World} {N base : Nat} {v : Nat → Value} {l : Nat → List Nat} {i : Nat} {wr wx wy : World} {vg vg' v' : Value} {Gs : List Value} (hL : Lists w N base v l) (hi : i < N)
    (h : Inv w N base v l i wr vg Gs) (hx : Chg (fun k => (v i).ownBlock = some k) wr wx) (h1 : Held wx (v i) (con i (l i).length)) (h2 : OwnT wx base 5 v' (con i (l i).length ++ tails i 7))
    (hb : v'.ownBlock = (v i).ownBlock ∨ ∃ h, wr.heap.size ≤ h ∧ v'.ownBlock = some h) (o : Obj)
    (hown : wy.ownsRow w.heap.size 23 1 vg' (i + 1) (Gs ++ [v'])) (hg : (wx.alloc o).grownBy wy vg.ownBlock) (hlie : vg'.ownBlock = vg.ownBlock ∨ vg'.ownBlock = some (wx.heap.size + 1)) :
    Inv w N base v l (i + 1) wy vg' (Gs ++ [v']) := by
  obtain ⟨s1, s2, s3, s4⟩ := h.step hL hi hx
  have hvi : ∀ k, (v i).ownBlock = some k → k < w.heap.size := fun k hk => ((hL.own i hi).block hk).2
  have hgb : ∀ k, vg.ownBlock = some k → w.heap.size ≤ k ∧ k < wr.heap.size := fun k hk => ownsRow_block h.own hk
  have hws := h.chg.size
  have hxs := hx.size
  -- every block of wx but that of the grown list is as it was
  have hy : ∀ k, k < wx.heap.size → vg.ownBlock ≠ some k → wy.heap[k]? = wx.heap[k]? := fun k hk hne =>
    (hg.block k (by simp; omega) (fun e => hne e.symm)).trans (Below.heap_alloc _ _ _ hk)
  have hys : wx.heap.size ≤ wy.heap.size := by have := hg.size; simp at this; omega
  have hC : Chg (fun k => vg.ownBlock = some k) wx wy := ⟨hg.os, hg.tape, hg.output, hys, fun k hk hne => hy k hk hne⟩
  have hGl : ∀ j, j < i → (Gs ++ [v']).getD j undef = Gs.getD j undef := fun j hj => by
    rw [List.getD_eq_getElem?_getD, List.getElem?_append_left (by rw [h.len]; exact hj), ← List.getD_eq_getElem?_getD]
  have hGi : (Gs ++ [v']).getD i undef = v' := by
    rw [List.getD_eq_getElem?_getD, List.getElem?_append_right (by rw [h.len]; omega), h.len, Nat.sub_self]; rfl
  refine ⟨by omega, by simp [h.len], hown, s2.trans' hC (fun k hk hh => ?_), fun j hj => ?_, fun j h3 h4 => (s4 j h3 h4).chg hC (fun k hk he hh => ?_)⟩
  · have := (hgb k hh).1; omega
  · by_cases hji : j < i
    · rw [hGl j hji]
      refine ⟨(s3 j hji).1.chg hC (fun k hk he hh => ?_), (s3 j hji).2.chg hC (fun k hk he hh => ?_), ?_⟩
      · have h5 := ((hL.own j (by omega)).block he).2
        have := (hgb k hh).1; omega
      · rcases (h.done j hji).2.2 with h3 | ⟨g, hg1, h3, h4⟩
        · rw [h3] at he
          have h5 := ((hL.own j (by omega)).block he).2
          have := (hgb k hh).1; omega
        · rw [h3] at he
          have e := Option.some.inj he
          subst e
          exact h4 hh
      · rcases (h.done j hji).2.2 with h3 | ⟨g, hg1, h3, h4⟩
        · exact Or.inl h3
        · refine Or.inr ⟨g, hg1, h3, ?_⟩
          rcases hlie with h5 | h5
          · rw [h5]; exact h4
          · rw [h5]
            intro e
            have e := Option.some.inj e
            obtain ⟨k, hk1, hk2⟩ := (h.done j hji).2.1.block (by rw [List.length_append, tails_length]; omega)
            rw [h3] at hk1
            have := Option.some.inj hk1
            omega
    · have e : j = i := by omega
      subst e
      rw [hGi]
      refine ⟨h1.chg hC (fun k hk he hh => ?_), h2.held.chg hC (fun k hk he hh => ?_), ?_⟩
      · have h5 := hvi k he
        have := (hgb k hh).1; omega
      · rcases hb with h3 | ⟨g, hg1, h3⟩
        · rw [h3] at he
          have h5 := hvi k he
          have := (hgb k hh).1; omega
        · rw [h3] at he
          have e := Option.some.inj he
          have := (hgb k hh).2; omega
      · rcases hb with h3 | ⟨g, hg1, h3⟩
        · exact Or.inl h3
        · refine Or.inr ⟨g, by omega, h3, ?_⟩
          rcases hlie with h5 | h5
          · rw [h5]
            intro e
            have := (hgb g e).2; omega
          · rw [h5]
            intro e
            have e := Option.some.inj e
            have h6 := (h2.block h3).2
            omega
  · have h5 := ((hL.own j h4).block he).2
    have := (hgb k hh).1; omega
end Go.Proofs.YtepbfdbooobnlaaGreatDoor
