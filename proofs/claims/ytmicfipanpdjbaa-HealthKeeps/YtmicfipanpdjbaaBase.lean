/-
  Worlds that differ in some blocks alone; blocks that hold ints. No condition: lemmas.
-/
import Derived.Test.YtmicfipanpdjbaaRows
import Derived.WalkKit
import Derived.Deep.RegionWith
import Derived.Deep.Draws
import Derived.BigQuiet
import Derived.ChangeAlike
import Derived.Deep.QuietTactic
import Derived.Outline
import Derived.RegionCalls
import Derived.RegionTactic
import Derived.WalkLawsBesides
import Derived.WalkSpells
import Derived.Deep.MidRow
import Derived.Deep.LoopGhost
import Derived.Laws.Rows
import Derived.Laws.Tables
import Derived.Laws.CopyOwn
namespace Go.Proofs.Ytmicfipanpdjbaa
set_option maxRecDepth 100000
open Go.RowKit

theorem hyd {p : Prop} (h : p) : Hid p := h
/-- w' is w, but for the blocks of S and for new ones. -/
structure Chg (S : Nat → Prop) (w w' : World) : Prop where
  os : w'.os = w.os
  tape : w'.tape = w.tape
  output : w'.output = w.output
  size : w.heap.size ≤ w'.heap.size
  block : ∀ k, k < w.heap.size → ¬ S k → w'.heap[k]? = w.heap[k]?
theorem Chg.refl (S : Nat → Prop) (w : World) : Chg S w w := ⟨rfl, rfl, rfl, Nat.le_refl _, fun _ _ _ => rfl⟩
theorem Chg.trans {S : Nat → Prop} {u v w : World} (h : Chg S u v) (k : Chg S v w) : Chg S u w :=
  ⟨k.os.trans h.os, k.tape.trans h.tape, k.output.trans h.output, Nat.le_trans h.size k.size, fun i hi hs => (k.block i (Nat.lt_of_lt_of_le hi h.size) hs).trans (h.block i hi hs)⟩
/-- What the second step changes besides is new since the first. -/
theorem Chg.trans' {S T : Nat → Prop} {u v w : World} (h : Chg S u v) (k : Chg T v w) (hT : ∀ i, i < u.heap.size → T i → S i) : Chg S u w :=
  ⟨k.os.trans h.os, k.tape.trans h.tape, k.output.trans h.output, Nat.le_trans h.size k.size, fun i hi hs => (k.block i (Nat.lt_of_lt_of_le hi h.size) (fun ht => hs (hT i hi ht))).trans (h.block i hi hs)⟩
theorem Chg.mono {S T : Nat → Prop} {u v : World} (h : Chg S u v) (hT : ∀ i, i < u.heap.size → S i → T i) : Chg T u v :=
  ⟨h.os, h.tape, h.output, h.size, fun i hi hs => h.block i hi (fun hh => hs (hT i hi hh))⟩
theorem Chg.drew {S : Nat → Prop} {u w : World} (h : Chg S u w) : Chg S u w.drew := ⟨h.os, h.tape, h.output, h.size, h.block⟩
theorem Chg.alloc {S : Nat → Prop} {u w : World} (h : Chg S u w) (o : Obj) : Chg S u (w.alloc o) :=
  h.trans ⟨rfl, rfl, rfl, by simp, fun k hk _ => Below.heap_alloc _ _ _ hk⟩
theorem Chg.setCell {S : Nat → Prop} {u w : World} (h : Chg S u w) {g : Nat} (hg : S g ∨ u.heap.size ≤ g) (o : Nat) (v : Value) : Chg S u (w.setCell ⟨g, o, none⟩ v) :=
  ⟨h.os, h.tape, h.output, by simp [World.setCell]; exact h.size, fun k hk hs => (Below.heap_setCell _ _ _ _ (by
    rcases hg with hg | hg
    · intro e; exact hs (by rw [e]; exact hg)
    · simp; omega)).trans (h.block k hk hs)⟩
theorem Chg.grown {S : Nat → Prop} {u w w' : World} {row : Option Nat} (h : Chg S u w) (hg : w.grownBy w' row) (hr : ∀ k, row = some k → S k ∨ u.heap.size ≤ k) : Chg S u w' :=
  ⟨hg.os.trans h.os, hg.tape.trans h.tape, hg.output.trans h.output, Nat.le_trans h.size hg.size, fun k hk hs => (hg.block k (Nat.lt_of_lt_of_le hk h.size) (fun e => by
    rcases hr k e.symm with h1 | h1
    · exact hs h1
    · omega)).trans (h.block k hk hs)⟩
theorem Chg.below {S : Nat → Prop} {w w' : World} (h : Chg S w w') {B : Nat} (hS : ∀ k, S k → B ≤ k) (hB : B ≤ w.heap.size) : Below B w w' :=
  ⟨h.os, h.tape, h.output, h.size, fun k hk => h.block k (by omega) (fun hh => by have := hS k hh; omega)⟩
theorem Below.chg {B : Nat} {w w' : World} (h : Below B w w') : Chg (fun k => B ≤ k) w w' := ⟨h.os, h.tape, h.output, h.size, fun k _ hs => h.block k (by omega)⟩
theorem Chg.drewN {S : Nat → Prop} {u w : World} (h : Chg S u w) (n : Nat) : Chg S u (w.drewN n) := by
  induction n with
  | zero => exact h
  | succ n ih => exact ih.drew


theorem Chg.cell {S : Nat → Prop} {w w' : World} (h : Chg S w w') {c : Nat} (hc : c < w.heap.size) (hb : ¬ S c) (o : Nat) : w'.cell? ⟨c, o, none⟩ = w.cell? ⟨c, o, none⟩ :=
  World.cell?_of_block (w := w) (h.block c hc hb)
def i6 (z : Int) : Value := .int .i64 z
/-- f, but z at i. -/
def upd {α : Type} (f : Nat → α) (i : Nat) (z : α) : Nat → α := fun j => if j = i then z else f j
def ints (f : Nat → Int) (n : Nat) : List Value := (List.range n).map fun i => i6 (f i)
theorem ints_length (f : Nat → Int) (n : Nat) : (ints f n).length = n := by simp [ints]
theorem ints_at (f : Nat → Int) (n i : Nat) (h : i < n) : (ints f n)[i]? = some (i6 (f i)) := by simp [ints, h]
theorem ints_set (f : Nat → Int) (n i : Nat) (z : Int) : (ints f n).set i (i6 z) = ints (upd f i z) n := by
  apply List.ext_getElem?
  intro j
  by_cases hj : j < n
  · by_cases e : j = i
    · subst e; rw [List.getElem?_set_self (by simpa [ints_length] using hj), ints_at _ _ _ hj]; simp [upd]
    · rw [List.getElem?_set_ne (by omega), ints_at _ _ _ hj, ints_at _ _ _ hj]; simp [upd, e]
  · rw [List.getElem?_eq_none (by simp [ints_length]; omega), List.getElem?_eq_none (by simp [ints_length]; omega)]
theorem ints_one (f : Nat → Int) (n : Nat) : ∀ v ∈ ints f n, v.oneCell' = true := by
  intro v hv
  obtain ⟨_, _, rfl⟩ := List.mem_map.1 hv
  rfl
theorem ints_congr {f g : Nat → Int} {n : Nat} (h : ∀ i, i < n → f i = g i) : ints f n = ints g n := by
  apply List.map_congr_left
  intro i hi
  rw [h i (List.mem_range.1 hi)]

/-- Block b holds n ints, laid out as type t. -/
def IB (w : World) (b : Nat) (t : TypeId) (n : Nat) (F : Nat → Int) : Prop := w.heap[b]? = some (.cells (ints F n).toArray t)
section
variable {w w' : World} {b n : Nat} {t : TypeId} {F : Nat → Int}
theorem IB.lt (h : IB w b t n F) : b < w.heap.size := (Array.getElem?_eq_some_iff.1 (show w.heap[b]? = some _ from h)).1
theorem IB.chg {S : Nat → Prop} (h : IB w b t n F) (hc : Chg S w w') (hb : ¬ S b) : IB w' b t n F := (hc.block b h.lt hb).trans h
theorem IB.drew (h : IB w b t n F) : IB w.drew b t n F := h
theorem IB.new (w : World) (t : TypeId) (n : Nat) (F : Nat → Int) : IB (w.alloc (.cells (ints F n).toArray t)) w.heap.size t n F := by
  show (w.heap.push _)[w.heap.size]? = _
  simp
theorem IB.set (h : IB w b t n F) (i : Nat) (z : Int) : IB (w.setCell ⟨b, i, none⟩ (.int .i64 z)) b t n (upd F i z) := by
  have h' : w.heap[b]? = some _ := h
  show (w.setCell ⟨b, i, none⟩ _).heap[b]? = _
  have e2 : (ints F n).toArray.setIfInBounds i (.int .i64 z) = (ints (upd F i z) n).toArray := by
    apply Array.ext'
    have := ints_set F n i z
    simpa [i6] using this
  simp [World.setCell, Array.getElem?_modify, h', e2]
theorem IB.cell (h : IB w b t n F) (i : Nat) (hi : i < n) : w.cell? ⟨b, i, none⟩ = some (.int .i64 (F i)) ∧ w.frozen? ⟨b, i, none⟩ = false := by
  have h' : w.heap[b]? = some _ := h
  refine ⟨?_, by simp [World.frozen?, h']⟩
  simp only [World.cell?, h']
  simpa [i6] using ints_at F n i hi
theorem IB.congr {G : Nat → Int} (h : IB w b t n F) (e : ∀ i, i < n → F i = G i) : IB w b t n G := by
  unfold IB at *
  rw [h, ints_congr e]
theorem IB.row (h : IB w b t n F) (G : Nat → Int) : IB (w.setRow b (ints G n).toArray) b t n G := setRow_heap w b _ _ t _ h
end
def bools (f : Nat → Bool) (n : Nat) : List Value := (List.range n).map fun i => .bool (f i)
theorem bools_length (f : Nat → Bool) (n : Nat) : (bools f n).length = n := by simp [bools]
theorem bools_at (f : Nat → Bool) (n i : Nat) (h : i < n) : (bools f n)[i]? = some (.bool (f i)) := by simp [bools, h]
theorem bools_set (f : Nat → Bool) (n i : Nat) (z : Bool) : (bools f n).set i (.bool z) = bools (upd f i z) n := by
  apply List.ext_getElem?
  intro j
  by_cases hj : j < n
  · by_cases e : j = i
    · subst e; rw [List.getElem?_set_self (by simpa [bools_length] using hj), bools_at _ _ _ hj]; simp [upd]
    · rw [List.getElem?_set_ne (by omega), bools_at _ _ _ hj, bools_at _ _ _ hj]; simp [upd, e]
  · rw [List.getElem?_eq_none (by simp [bools_length]; omega), List.getElem?_eq_none (by simp [bools_length]; omega)]
theorem bools_one (f : Nat → Bool) (n : Nat) : ∀ v ∈ bools f n, v.oneCell' = true := by
  intro v hv
  obtain ⟨_, _, rfl⟩ := List.mem_map.1 hv
  rfl
theorem bools_congr {f g : Nat → Bool} {n : Nat} (h : ∀ i, i < n → f i = g i) : bools f n = bools g n := by
  apply List.map_congr_left
  intro i hi
  rw [h i (List.mem_range.1 hi)]

def BB (w : World) (b : Nat) (t : TypeId) (n : Nat) (F : Nat → Bool) : Prop := w.heap[b]? = some (.cells (bools F n).toArray t)
section
variable {w w' : World} {b n : Nat} {t : TypeId} {F : Nat → Bool}
theorem BB.lt (h : BB w b t n F) : b < w.heap.size := (Array.getElem?_eq_some_iff.1 (show w.heap[b]? = some _ from h)).1
theorem BB.chg {S : Nat → Prop} (h : BB w b t n F) (hc : Chg S w w') (hb : ¬ S b) : BB w' b t n F := (hc.block b h.lt hb).trans h
theorem BB.set (h : BB w b t n F) (i : Nat) (z : Bool) : BB (w.setCell ⟨b, i, none⟩ (.bool z)) b t n (upd F i z) := by
  have h' : w.heap[b]? = some _ := h
  show (w.setCell ⟨b, i, none⟩ _).heap[b]? = _
  have e2 : (bools F n).toArray.setIfInBounds i (.bool z) = (bools (upd F i z) n).toArray := by
    apply Array.ext'
    have := bools_set F n i z
    simpa using this
  simp [World.setCell, Array.getElem?_modify, h', e2]
theorem BB.cell (h : BB w b t n F) (i : Nat) (hi : i < n) : w.cell? ⟨b, i, none⟩ = some (.bool (F i)) ∧ w.frozen? ⟨b, i, none⟩ = false := by
  have h' : w.heap[b]? = some _ := h
  refine ⟨?_, by simp [World.frozen?, h']⟩
  simp only [World.cell?, h']
  simpa using bools_at F n i hi
end
theorem chg_row (w : World) (g : Nat) (c : Array Value) : Chg (· = g) w (w.setRow g c) := ⟨rfl, rfl, rfl, by simp, fun k _ hk => setRow_other _ _ _ _ hk⟩
/-- A variable of a type whose value is the given row. -/
theorem wpList_alloc_row {ops : Array Oper} {rest : List Oper} {o : Oper} {a : Act} {w : World} {Q : Exit → Act → World → Prop} (hgd : o.guard = none) (t : TypeId) (ho : o.op = .alloc t) (N : Nat) (hN : w.heap.size = N) {A : Array Value}
    (hz : ∀ w, (zeroValue t).run Try.prog w = .ok (.agg A) w)
    (h : ∀ w', w'.heap[N]? = some (.cells A t) → Chg (fun _ => False) w w' → w'.heap.size = N + 1 → wpList Try.prog ops Q rest (a.put o.dst (.pointer (some ⟨N, 0, none⟩))) w') : wpList Try.prog ops Q (o :: rest) a w := by
  refine wpList_plain hgd fun K hK => ?_
  unfold Oper.wp
  simp [execOp, ho, Instr.alloc, hz, newVar, Value.cells, newRow]
  rw [hN]
  refine hK _ _ (h _ ?_ ((Chg.refl _ w).alloc _) (by simp [hN]))
  rw [← hN]
  show (w.heap.push _)[w.heap.size]? = _
  simp
end Go.Proofs.Ytmicfipanpdjbaa
