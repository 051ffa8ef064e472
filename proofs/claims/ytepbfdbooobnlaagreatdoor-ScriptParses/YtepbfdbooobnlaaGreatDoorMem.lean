/-
  Worlds that differ in some blocks alone; slices of bytes that can be read, or written, in them. No condition: lemmas.
-/
import Derived.Test.YtepbfdbooobnlaaGreatDoorAppend
namespace Go.Proofs.YtepbfdbooobnlaaGreatDoor
set_option maxRecDepth 100000
open Go.RowKit

/-- w' is w, but for the blocks of S and for new ones. -/
structure Chg (S : Nat → Prop) (w w' : World) : Prop where
  os : w'.os = w.os
  tape : w'.tape = w.tape
  output : w'.output = w.output
  size : w.heap.size ≤ w'.heap.size
  block : ∀ k, k < w.heap.size → ¬ S k → w'.heap[k]? = w.heap[k]?
theorem Chg.refl (S : Nat → Prop) (w : World) : Chg S w w := ⟨rfl, rfl, rfl, Nat.le_refl _, fun _ _ _ => rfl⟩
theorem Chg.trans {S : Nat → Prop} {u v w : World} (h : Chg S u v) (k : Chg S v w) : Chg S u w :=
  ⟨k.os.trans h.os, k.tape.trans h.tape, k.output.trans h.output, Nat.le_trans h.size k.size, fun i hi hs => (k.block i (Nat.lt_of_lt_of_le hi h.size) hs).trans (h.block i hi hs)⟩
/-- What the second step changes besides is new since the first. -/
theorem Chg.trans' {S T : Nat → Prop} {u v w : World} (h : Chg S u v) (k : Chg T v w) (hT : ∀ i, i < u.heap.size → T i → S i) : Chg S u w :=
  ⟨k.os.trans h.os, k.tape.trans h.tape, k.output.trans h.output, Nat.le_trans h.size k.size, fun i hi hs => (k.block i (Nat.lt_of_lt_of_le hi h.size) (fun ht => hs (hT i hi ht))).trans (h.block i hi hs)⟩
theorem Chg.mono {S T : Nat → Prop} {u v : World} (h : Chg S u v) (hT : ∀ i, i < u.heap.size → S i → T i) : Chg T u v :=
  ⟨h.os, h.tape, h.output, h.size, fun i hi hs => h.block i hi (fun hh => hs (hT i hi hh))⟩
theorem Chg.drew {S : Nat → Prop} {u w : World} (h : Chg S u w) : Chg S u w.drew := ⟨h.os, h.tape, h.output, h.size, h.block⟩
theorem Chg.alloc {S : Nat → Prop} {u w : World} (h : Chg S u w) (o : Obj) : Chg S u (w.alloc o) :=
  h.trans ⟨rfl, rfl, rfl, by simp, fun k hk _ => Below.heap_alloc _ _ _ hk⟩
theorem Chg.setCell {S : Nat → Prop} {u w : World} (h : Chg S u w) {g : Nat} (hg : S g ∨ u.heap.size ≤ g) (o : Nat) (v : Value) : Chg S u (w.setCell ⟨g, o, none⟩ v) :=
  ⟨h.os, h.tape, h.output, by simp [World.setCell]; exact h.size, fun k hk hs => (Below.heap_setCell _ _ _ _ (by
    rcases hg with hg | hg
    · intro e; exact hs (by rw [e]; exact hg)
    · simp; omega)).trans (h.block k hk hs)⟩
theorem Chg.grown {S : Nat → Prop} {u w w' : World} {row : Option Nat} (h : Chg S u w) (hg : w.grownBy w' row) (hr : ∀ k, row = some k → S k ∨ u.heap.size ≤ k) : Chg S u w' :=
  ⟨hg.os.trans h.os, hg.tape.trans h.tape, hg.output.trans h.output, Nat.le_trans h.size hg.size, fun k hk hs => (hg.block k (Nat.lt_of_lt_of_le hk h.size) (fun e => by
    rcases hr k e.symm with h1 | h1
    · exact hs h1
    · omega)).trans (h.block k hk hs)⟩
theorem Chg.below {S : Nat → Prop} {w w' : World} (h : Chg S w w') {B : Nat} (hS : ∀ k, S k → B ≤ k) (hB : B ≤ w.heap.size) : Below B w w' :=
  ⟨h.os, h.tape, h.output, h.size, fun k hk => h.block k (by omega) (fun hh => by have := hS k hh; omega)⟩
theorem But.chg {b : Nat} {w w' : World} (h : But b w w') : Chg (· = b) w w' := ⟨h.os, h.tape, h.output, h.size, h.block⟩
theorem Chg.but {b : Nat} {w w' : World} (h : Chg (fun _ => False) w w') : But b w w' := ⟨h.os, h.tape, h.output, h.size, fun k hk _ => h.block k hk (fun f => f)⟩
theorem Below.chg {B : Nat} {w w' : World} (h : Below B w w') : Chg (fun k => B ≤ k) w w' := ⟨h.os, h.tape, h.output, h.size, fun k _ hs => h.block k (by omega)⟩
theorem Chg.drewN {S : Nat → Prop} {u w : World} (h : Chg S u w) (n : Nat) : Chg S u (w.drewN n) := by
  induction n with
  | zero => exact h
  | succ n ih => exact ih.drew

/-- The slice v reads as the bytes l. -/
def Held (w : World) (v : Value) (l : List Nat) : Prop :=
  ∃ a cap, v = .slice a l.length cap ∧ (l.length = 0 ∨ ∃ g o, a = some ⟨g, o, none⟩ ∧ g < w.heap.size ∧ ∀ i, i < l.length → w.cell? ⟨g, o + i, none⟩ = some (.int .u8 (l.getD i 0 : Nat)))
theorem Held.keep {w w' : World} {v : Value} {l : List Nat} (h : Held w v l) (hs : w.heap.size ≤ w'.heap.size) (hk : ∀ k, k < w.heap.size → v.ownBlock = some k → w'.heap[k]? = w.heap[k]?) : Held w' v l := by
  obtain ⟨a, cap, rfl, h⟩ := h
  refine ⟨a, cap, rfl, ?_⟩
  rcases h with h | ⟨g, o, rfl, hg, hc⟩
  · exact Or.inl h
  · exact Or.inr ⟨g, o, rfl, Nat.lt_of_lt_of_le hg hs, fun i hi => (World.cell?_of_block (w := w) (a := ⟨g, o + i, none⟩) (hk g hg rfl)).trans (hc i hi)⟩
theorem Held.chg {S : Nat → Prop} {w w' : World} {v : Value} {l : List Nat} (h : Held w v l) (hc : Chg S w w') (hs : ∀ k, k < w.heap.size → v.ownBlock = some k → ¬ S k) : Held w' v l :=
  h.keep hc.size (fun k hk he => hc.block k hk (hs k hk he))
theorem Own.held {w : World} {base : Nat} {e : TypeId} {v : Value} {l : List Nat} (h : Own w base e v l) : Held w v l := by
  by_cases h0 : l.length = 0
  · rcases h.2 with ⟨rfl, _⟩ | ⟨g, cap, cur, rfl, _⟩
    · exact ⟨none, 0, by rw [h0], Or.inl h0⟩
    · exact ⟨_, cap, rfl, Or.inl h0⟩
  · obtain ⟨g, cap, rfl, hg, hs, _, hc, _⟩ := h.lies h0
    exact ⟨_, cap, rfl, Or.inr ⟨g, 0, rfl, hs, fun i hi => by rw [Nat.zero_add]; exact hc i hi⟩⟩
theorem Own.block {w : World} {base : Nat} {e : TypeId} {v : Value} {l : List Nat} (h : Own w base e v l) {k : Nat} (hk : v.ownBlock = some k) : base ≤ k ∧ k < w.heap.size := by
  rcases h.2 with ⟨rfl, _⟩ | ⟨g, cap, cur, rfl, hb, hh, _⟩
  · cases hk
  · have e : g = k := Option.some.inj hk
    subst e
    exact ⟨hb, (Array.getElem?_eq_some_iff.1 hh).1⟩
theorem Own.keep {w w' : World} {base : Nat} {e : TypeId} {v : Value} {l : List Nat} (h : Own w base e v l) (hk : ∀ k, k < w.heap.size → v.ownBlock = some k → w'.heap[k]? = w.heap[k]?) : Own w' base e v l := by
  refine ⟨h.1, ?_⟩
  rcases h.2 with h1 | ⟨g, cap, cur, rfl, hb, hh, r⟩
  · exact Or.inl h1
  · exact Or.inr ⟨g, cap, cur, rfl, hb, (hk g (Array.getElem?_eq_some_iff.1 hh).1 rfl).trans hh, r⟩
theorem Own.chg {S : Nat → Prop} {w w' : World} {base : Nat} {e : TypeId} {v : Value} {l : List Nat} (h : Own w base e v l) (hc : Chg S w w') (hs : ∀ k, k < w.heap.size → v.ownBlock = some k → ¬ S k) : Own w' base e v l :=
  h.keep (fun k hk he => hc.block k hk (hs k hk he))
theorem Own.mono {w : World} {base base' : Nat} {e : TypeId} {v : Value} {l : List Nat} (h : Own w base e v l) (hb : ∀ k, v.ownBlock = some k → base' ≤ k) : Own w base' e v l := by
  refine ⟨h.1, ?_⟩
  rcases h.2 with h1 | ⟨g, cap, cur, rfl, _, r⟩
  · exact Or.inl h1
  · exact Or.inr ⟨g, cap, cur, rfl, hb g rfl, r⟩
/-- A store into a slice of the call's own. -/
theorem Own.store {w : World} {base : Nat} {e : TypeId} {g n cap : Nat} {l : List Nat} (h : Own w base e (.slice (some ⟨g, 0, none⟩) n cap) l) (k x : Nat) (_hk : k < l.length) :
    Own (w.setCell ⟨g, k, none⟩ (.int .u8 (x : Int))) base e (.slice (some ⟨g, 0, none⟩) n cap) (l.set k x) := by
  rcases h.2 with ⟨h1, _⟩ | ⟨g', cap', cur, hv, hb, hh, hn, hm, hs, ht⟩
  · cases h1
  · simp only [Value.slice.injEq, Option.some.injEq, Addr.mk.injEq] at hv
    obtain ⟨⟨rfl, _, _⟩, rfl, rfl⟩ := hv
    refine ⟨by simp, Or.inr ⟨g, cap, cur.setIfInBounds k (.int .u8 (x : Int)), by simp, hb, ?_, by simpa using hn, hm, by simpa using hs, ?_⟩⟩
    · simp [World.setCell, Array.getElem?_modify, hh]
    · rw [Array.toList_setIfInBounds, List.take_set, List.length_set, ht, List.map_set]; rfl
theorem Own.at_store {w : World} {base : Nat} {e : TypeId} {v : Value} {l : List Nat} (h : Own w base e v l) (h0 : l.length ≠ 0) : ∃ g cap, v = .slice (some ⟨g, 0, none⟩) l.length cap := by
  obtain ⟨g, cap, hv, _⟩ := h.lies h0
  exact ⟨g, cap, hv⟩
/-- A block laid as a row of bytes is the call's own. -/
theorem Own.new (w : World) (e : TypeId) (l : List Nat) (hl : l.length ≤ maxLen) : Own (w.alloc (.cells (bcells l) e)) w.heap.size e (.slice (some ⟨w.heap.size, 0, none⟩) l.length l.length) l := by
  refine ⟨by simp, Or.inr ⟨w.heap.size, l.length, bcells l, rfl, Nat.le_refl _, ?_, Nat.le_refl _, hl, by rw [bcells_size, Nat.mul_one], ?_⟩⟩
  · show (w.heap.push _)[w.heap.size]? = _
    simp
  · rw [Nat.mul_one]
    show (l.map _).take _ = _
    rw [List.take_of_length_le (by simp)]; rfl
theorem Own.of_bat {w : World} {g base : Nat} {l : List Nat} (h : Bat w g l) (hb : base ≤ g) (hl : l.length ≤ maxLen) : Own w base 5 (.slice (some ⟨g, 0, none⟩) l.length l.length) l := by
  refine ⟨by simp, Or.inr ⟨g, l.length, bcells l, rfl, hb, h, Nat.le_refl _, hl, by rw [bcells_size, Nat.mul_one], ?_⟩⟩
  rw [Nat.mul_one]
  show (l.map _).take _ = _
  rw [List.take_of_length_le (by simp)]; rfl
end Go.Proofs.YtepbfdbooobnlaaGreatDoor
