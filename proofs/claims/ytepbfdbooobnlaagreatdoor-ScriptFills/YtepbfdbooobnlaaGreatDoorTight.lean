/-
  Slices of bytes that a call itself has made, also such whose room ends ahead of the block's (a slice of three indices). No condition: lemmas on worlds.
-/
import Derived.Test.YtepbfdbooobnlaaGreatDoorSame
namespace Go.Proofs.YtepbfdbooobnlaaGreatDoor
set_option maxRecDepth 100000
open Go.RowKit

/-- The slice v is the call's own, of the bytes l, its room just as long, in a block that may be longer, or bear a mark behind them. -/
def Tight (w : World) (base : Nat) (e : TypeId) (v : Value) (l : List Nat) : Prop :=
  ∃ g cur fz, v = .slice (some ⟨g, 0, none⟩) l.length l.length ∧ base ≤ g ∧ w.heap[g]? = some (.cells cur e fz) ∧ (∀ i, i < l.length → ¬ (fz.1 ≤ i ∧ i < fz.2)) ∧ l.length ≤ maxLen ∧ l.length ≤ cur.size ∧ cur.toList.take l.length = l.map byt
/-- The call's own: as append leaves it, or cut by three indices. -/
def OwnT (w : World) (base : Nat) (e : TypeId) (v : Value) (l : List Nat) : Prop := Own w base e v l ∨ Tight w base e v l
theorem Own.t {w : World} {base : Nat} {e : TypeId} {v : Value} {l : List Nat} (h : Own w base e v l) : OwnT w base e v l := Or.inl h
theorem OwnT.lies {w : World} {base : Nat} {e : TypeId} {v : Value} {l : List Nat} (h : OwnT w base e v l) (h0 : l.length ≠ 0) :
    ∃ g cap, v = .slice (some ⟨g, 0, none⟩) l.length cap ∧ base ≤ g ∧ g < w.heap.size ∧ l.length ≤ cap ∧ (∀ i, i < l.length → w.cell? ⟨g, i, none⟩ = some (.int .u8 (l.getD i 0 : Nat))) ∧ ∀ i, i < l.length → w.frozen? ⟨g, i, none⟩ = false := by
  rcases h with h | ⟨g, cur, fz, hv, hg, hh, hz, hm, hs, ht⟩
  · obtain ⟨g, cap, h1, h2, h3, h4, h5, h6⟩ := h.lies h0
    exact ⟨g, cap, h1, h2, h3, h4, h5, fun i _ => h6 i⟩
  · refine ⟨g, l.length, hv, hg, (Array.getElem?_eq_some_iff.1 hh).1, Nat.le_refl _, fun i hi => ?_, fun i hi => ?_⟩
    rotate_left
    · have := hz i hi
      simp only [World.frozen?, hh]
      simp only [Bool.and_eq_false_iff, decide_eq_false_iff_not]
      omega
    have e1 : cur[i]? = some (byt (l.getD i 0)) := by
      have h2 : (cur.toList.take l.length)[i]? = (l.map byt)[i]? := by rw [ht]
      rw [List.getElem?_take_of_lt hi, List.getElem?_map, List.getElem?_eq_getElem hi, Array.getElem?_toList] at h2
      rw [h2, List.getD_eq_getElem?_getD, List.getElem?_eq_getElem hi]; rfl
    simp only [World.cell?, hh]
    simpa [byt] using e1
theorem OwnT.form {w : World} {base : Nat} {e : TypeId} {v : Value} {l : List Nat} (h : OwnT w base e v l) : (v = .slice none 0 0 ∧ l = []) ∨ ∃ g cap, v = .slice (some ⟨g, 0, none⟩) l.length cap ∧ base ≤ g ∧ g < w.heap.size := by
  rcases h with h | ⟨g, cur, fz, hv, hg, hh, _⟩
  · rcases h.2 with ⟨rfl, h1⟩ | ⟨g, cap, cur, rfl, hb, hh, _⟩
    · exact Or.inl ⟨rfl, List.length_eq_zero_iff.1 h1⟩
    · exact Or.inr ⟨g, cap, rfl, hb, (Array.getElem?_eq_some_iff.1 hh).1⟩
  · exact Or.inr ⟨g, l.length, hv, hg, (Array.getElem?_eq_some_iff.1 hh).1⟩
theorem OwnT.held {w : World} {base : Nat} {e : TypeId} {v : Value} {l : List Nat} (h : OwnT w base e v l) : Held w v l := by
  by_cases h0 : l.length = 0
  · rcases h.form with ⟨rfl, _⟩ | ⟨g, cap, rfl, _⟩
    · exact ⟨none, 0, by rw [h0], Or.inl h0⟩
    · exact ⟨_, cap, rfl, Or.inl h0⟩
  · obtain ⟨g, cap, rfl, hg, hs, _, hc, _⟩ := h.lies h0
    exact ⟨_, cap, rfl, Or.inr ⟨g, 0, rfl, hs, fun i hi => by rw [Nat.zero_add]; exact hc i hi⟩⟩
theorem OwnT.block {w : World} {base : Nat} {e : TypeId} {v : Value} {l : List Nat} (h : OwnT w base e v l) {k : Nat} (hk : v.ownBlock = some k) : base ≤ k ∧ k < w.heap.size := by
  rcases h.form with ⟨rfl, _⟩ | ⟨g, cap, rfl, hb, hh⟩
  · cases hk
  · have e : g = k := Option.some.inj hk
    subst e
    exact ⟨hb, hh⟩
theorem OwnT.keep {w w' : World} {base : Nat} {e : TypeId} {v : Value} {l : List Nat} (h : OwnT w base e v l) (hk : ∀ k, k < w.heap.size → v.ownBlock = some k → w'.heap[k]? = w.heap[k]?) : OwnT w' base e v l := by
  rcases h with h | ⟨g, cur, fz, rfl, hb, hh, r⟩
  · exact Or.inl (h.keep hk)
  · exact Or.inr ⟨g, cur, fz, rfl, hb, (hk g (Array.getElem?_eq_some_iff.1 hh).1 rfl).trans hh, r⟩
theorem OwnT.chg {S : Nat → Prop} {w w' : World} {base : Nat} {e : TypeId} {v : Value} {l : List Nat} (h : OwnT w base e v l) (hc : Chg S w w') (hs : ∀ k, k < w.heap.size → v.ownBlock = some k → ¬ S k) : OwnT w' base e v l :=
  h.keep (fun k hk he => hc.block k hk (hs k hk he))
theorem OwnT.mono {w : World} {base base' : Nat} {e : TypeId} {v : Value} {l : List Nat} (h : OwnT w base e v l) (hb : ∀ k, v.ownBlock = some k → base' ≤ k) : OwnT w base' e v l := by
  rcases h with h | ⟨g, cur, fz, rfl, _, r⟩
  · exact Or.inl (h.mono hb)
  · exact Or.inr ⟨g, cur, fz, rfl, hb g rfl, r⟩
theorem OwnT.store {w : World} {base : Nat} {e : TypeId} {g n cap : Nat} {l : List Nat} (h : OwnT w base e (.slice (some ⟨g, 0, none⟩) n cap) l) (k x : Nat) (_hk : k < l.length) :
    OwnT (w.setCell ⟨g, k, none⟩ (.int .u8 (x : Int))) base e (.slice (some ⟨g, 0, none⟩) n cap) (l.set k x) := by
  rcases h with h | ⟨g', cur, fz, hv, hb, hh, hz, hm, hs, ht⟩
  · exact Or.inl (h.store k x _hk)
  · simp only [Value.slice.injEq, Option.some.injEq, Addr.mk.injEq] at hv
    obtain ⟨⟨rfl, -, -⟩, rfl, rfl⟩ := hv
    refine Or.inr ⟨g, cur.setIfInBounds k (.int .u8 (x : Int)), fz, by simp, hb, ?_, by simpa using hz, by simpa using hm, by simpa using hs, ?_⟩
    · simp [World.setCell, Array.getElem?_modify, hh]
    · rw [Array.toList_setIfInBounds, List.take_set, List.length_set, ht, List.map_set]; rfl
/-- A block of bytes with a mark behind them. -/
def MArr (w : World) (g : Nat) (L : List Nat) : Prop := w.heap[g]? = some (.cells (bcells L) 5 (L.length, L.length + 1))
theorem MArr.lt {w : World} {g : Nat} {L : List Nat} (h : MArr w g L) : g < w.heap.size := (Array.getElem?_eq_some_iff.1 (show w.heap[g]? = some _ from h)).1
theorem MArr.tight {w : World} {g base : Nat} {L : List Nat} (h : MArr w g L) (hb : base ≤ g) (n : Nat) (hn : n = L.length) (hm : n ≤ maxLen) : OwnT w base 5 (.slice (some ⟨g, 0, none⟩) n n) L := by
  subst hn
  refine Or.inr ⟨g, bcells L, _, rfl, hb, h, fun i hi h => by simp at h; omega, hm, by rw [bcells_size]; omega, ?_⟩
  show (L.map _).take _ = _
  rw [List.take_of_length_le (by simp)]; rfl
theorem MArr.chg {S : Nat → Prop} {w w' : World} {g : Nat} {L : List Nat} (h : MArr w g L) (hc : Chg S w w') (hg : ¬ S g) : MArr w' g L := (hc.block g h.lt hg).trans h
theorem MArr.new (w : World) (L : List Nat) : MArr (w.alloc (.cells (bcells L) 5 (L.length, L.length + 1))) w.heap.size L := by
  show (w.heap.push _)[w.heap.size]? = _
  simp
end Go.Proofs.YtepbfdbooobnlaaGreatDoor
