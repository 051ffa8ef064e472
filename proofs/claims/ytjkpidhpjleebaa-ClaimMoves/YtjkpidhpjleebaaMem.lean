/-
  Worlds that differ in some blocks alone; blocks and slices that hold founds; append. Condition of append: there is room (at most 2^47 bytes).
-/
import Derived.Test.YtjkpidhpjleebaaSpec
import Derived.WalkKit
import Derived.Deep.RegionWith
import Derived.Deep.Draws
import Derived.BigQuiet
import Derived.ChangeAlike
import Derived.Deep.QuietTactic
import Derived.Outline
import Derived.RegionCalls
import Derived.RegionTactic
import Derived.WalkLawsBesides
import Derived.WalkSpells
import Derived.Maps.AppendAt
import Derived.Deep.MidRow
namespace Go.Proofs.Ytjkpidhpjleebaa
set_option maxRecDepth 100000
open Go.RowKit Go.Sort

theorem hyd {p : Prop} (h : p) : Hid p := h
/-- w' is w, but for the blocks of S and for new ones. -/
structure Chg (S : Nat → Prop) (w w' : World) : Prop where
  os : w'.os = w.os
  tape : w'.tape = w.tape
  output : w'.output = w.output
  size : w.heap.size ≤ w'.heap.size
  block : ∀ k, k < w.heap.size → ¬ S k → w'.heap[k]? = w.heap[k]?
theorem Chg.refl (S : Nat → Prop) (w : World) : Chg S w w := ⟨rfl, rfl, rfl, Nat.le_refl _, fun _ _ _ => rfl⟩
theorem Chg.trans {S : Nat → Prop} {u v w : World} (h : Chg S u v) (k : Chg S v w) : Chg S u w :=
  ⟨k.os.trans h.os, k.tape.trans h.tape, k.output.trans h.output, Nat.le_trans h.size k.size, fun i hi hs => (k.block i (Nat.lt_of_lt_of_le hi h.size) hs).trans (h.block i hi hs)⟩
/-- What the second step changes besides is new since the first. -/
theorem Chg.trans' {S T : Nat → Prop} {u v w : World} (h : Chg S u v) (k : Chg T v w) (hT : ∀ i, i < u.heap.size → T i → S i) : Chg S u w :=
  ⟨k.os.trans h.os, k.tape.trans h.tape, k.output.trans h.output, Nat.le_trans h.size k.size, fun i hi hs => (k.block i (Nat.lt_of_lt_of_le hi h.size) (fun ht => hs (hT i hi ht))).trans (h.block i hi hs)⟩
theorem Chg.mono {S T : Nat → Prop} {u v : World} (h : Chg S u v) (hT : ∀ i, i < u.heap.size → S i → T i) : Chg T u v :=
  ⟨h.os, h.tape, h.output, h.size, fun i hi hs => h.block i hi (fun hh => hs (hT i hi hh))⟩
theorem Chg.drew {S : Nat → Prop} {u w : World} (h : Chg S u w) : Chg S u w.drew := ⟨h.os, h.tape, h.output, h.size, h.block⟩
theorem Chg.alloc {S : Nat → Prop} {u w : World} (h : Chg S u w) (o : Obj) : Chg S u (w.alloc o) :=
  h.trans ⟨rfl, rfl, rfl, by simp, fun k hk _ => Below.heap_alloc _ _ _ hk⟩
theorem Chg.setCell {S : Nat → Prop} {u w : World} (h : Chg S u w) {g : Nat} (hg : S g ∨ u.heap.size ≤ g) (o : Nat) (v : Value) : Chg S u (w.setCell ⟨g, o, none⟩ v) :=
  ⟨h.os, h.tape, h.output, by simp [World.setCell]; exact h.size, fun k hk hs => (Below.heap_setCell _ _ _ _ (by
    rcases hg with hg | hg
    · intro e; exact hs (by rw [e]; exact hg)
    · simp; omega)).trans (h.block k hk hs)⟩
theorem Chg.grown {S : Nat → Prop} {u w w' : World} {row : Option Nat} (h : Chg S u w) (hg : w.grownBy w' row) (hr : ∀ k, row = some k → S k ∨ u.heap.size ≤ k) : Chg S u w' :=
  ⟨hg.os.trans h.os, hg.tape.trans h.tape, hg.output.trans h.output, Nat.le_trans h.size hg.size, fun k hk hs => (hg.block k (Nat.lt_of_lt_of_le hk h.size) (fun e => by
    rcases hr k e.symm with h1 | h1
    · exact hs h1
    · omega)).trans (h.block k hk hs)⟩
theorem Chg.below {S : Nat → Prop} {w w' : World} (h : Chg S w w') {B : Nat} (hS : ∀ k, S k → B ≤ k) (hB : B ≤ w.heap.size) : Below B w w' :=
  ⟨h.os, h.tape, h.output, h.size, fun k hk => h.block k (by omega) (fun hh => by have := hS k hh; omega)⟩
theorem Below.chg {B : Nat} {w w' : World} (h : Below B w w') : Chg (fun k => B ≤ k) w w' := ⟨h.os, h.tape, h.output, h.size, fun k _ hs => h.block k (by omega)⟩
theorem Chg.drewN {S : Nat → Prop} {u w : World} (h : Chg S u w) (n : Nat) : Chg S u (w.drewN n) := by
  induction n with
  | zero => exact h
  | succ n ih => exact ih.drew


theorem Chg.cell {S : Nat → Prop} {w w' : World} (h : Chg S w w') {c : Nat} (hc : c < w.heap.size) (hb : ¬ S c) (o : Nat) : w'.cell? ⟨c, o, none⟩ = w.cell? ⟨c, o, none⟩ :=
  World.cell?_of_block (w := w) (h.block c hc hb)
/-! ### A block that holds a found -/
theorem fA_size (f : Fnd) : (fA f).size = 6 := rfl
theorem fA_one (f : Fnd) : (fA f).all (·.oneCell') = true := all_oneCell_toArray (fL_one f)
def Fo (w : World) (b : Nat) (f : Fnd) : Prop := w.heap[b]? = some (.cells (fA f) 28)
theorem Fo.new (w : World) (f : Fnd) : Fo (w.alloc (.cells (fA f) 28)) w.heap.size f := by
  show (w.heap.push _)[w.heap.size]? = _
  simp
theorem Fo.lt {w : World} {b : Nat} {f : Fnd} (h : Fo w b f) : b < w.heap.size := (Array.getElem?_eq_some_iff.1 (show w.heap[b]? = some _ from h)).1
theorem Fo.chg {S : Nat → Prop} {w w' : World} {b : Nat} {f : Fnd} (h : Fo w b f) (hc : Chg S w w') (hb : ¬ S b) : Fo w' b f := (hc.block b h.lt hb).trans h
theorem Fo.drew {w : World} {b : Nat} {f : Fnd} (h : Fo w b f) : Fo w.drew b f := h
theorem Fo.alloc {w : World} {b : Nat} {f : Fnd} (h : Fo w b f) (x : Obj) : Fo (w.alloc x) b f := (Below.heap_alloc _ _ _ h.lt).trans h
theorem Fo.frozen {w : World} {b : Nat} {f : Fnd} (h : Fo w b f) (i : Nat) : w.frozen? ⟨b, i, none⟩ = false := by
  have h' : w.heap[b]? = some _ := h
  simp [World.frozen?, h']
theorem Fo.cell {w : World} {b : Nat} {f : Fnd} (h : Fo w b f) (i : Nat) {v : Value} (hv : (fL f)[i]? = some v) : w.cell? ⟨b, i, none⟩ = some v := by
  have h' : w.heap[b]? = some _ := h
  simp only [World.cell?, h', fA]
  simpa using hv
/-- Its six cells. -/
theorem Fo.cells {w : World} {b : Nat} {f : Fnd} (h : Fo w b f) : w.cell? ⟨b, 0, none⟩ = some (.int .i64 f.P) ∧ w.cell? ⟨b, 1, none⟩ = some (.int .i64 f.T) ∧ w.cell? ⟨b, 2, none⟩ = some (.int .i64 f.O) ∧ w.cell? ⟨b, 3, none⟩ = some (.int .i64 f.S) ∧ w.cell? ⟨b, 4, none⟩ = some (.int .i64 f.C) ∧ w.cell? ⟨b, 5, none⟩ = some (.bool f.L) :=
  ⟨h.cell 0 rfl, h.cell 1 rfl, h.cell 2 rfl, h.cell 3 rfl, h.cell 4 rfl, h.cell 5 rfl⟩
theorem size28 : (Try.prog.info? 28).map (·.size) = some 6 := by kernel_rfl
theorem wpList_load_fo {ops : Array Oper} {rest : List Oper} {o : Oper} {a : Act} {w : World} {Q : Exit → Act → World → Prop} (hgd : o.guard = none) (x : Operand) (ho : o.op = .load 28 x)
    (g : Nat) (hx : a.eval x = .pointer (some ⟨g, 0, none⟩)) {f : Fnd} (hg : Fo w g f)
    (h : wpList Try.prog ops Q rest (a.put o.dst (.agg (fA f))) w) : wpList Try.prog ops Q (o :: rest) a w :=
  wpList_load_row hgd 28 x ho g hx 28 _ _ _ hg Try.underlying28 rfl size28 h
theorem wpList_load_at {ops : Array Oper} {rest : List Oper} {o : Oper} {a : Act} {w : World} {Q : Exit → Act → World → Prop} (hgd : o.guard = none) (x : Operand) (ho : o.op = .load 28 x)
    (g q : Nat) (hx : a.eval x = .pointer (some ⟨g, q, none⟩)) {f : Fnd} (hg : w.rangeAt g q (fL f))
    (h : wpList Try.prog ops Q rest (a.put o.dst (.agg (fA f))) w) : wpList Try.prog ops Q (o :: rest) a w :=
  wpList_load_mid hgd 28 x ho g q hx (fL f) _ hg Try.underlying28 rfl size28 h
theorem wpList_store_fo {ops : Array Oper} {rest : List Oper} {o : Oper} {a : Act} {w : World} {Q : Exit → Act → World → Prop} (hgd : o.guard = none) (x y : Operand) (ho : o.op = .store 28 x y)
    (g : Nat) (hx : a.eval x = .pointer (some ⟨g, 0, none⟩)) {f : Fnd} (hy : a.eval y = .agg (fA f)) {f' : Fnd} (hg : Fo w g f')
    (h : ∀ w', Fo w' g f → Chg (· = g) w w' → wpList Try.prog ops Q rest (a.put o.dst undef) w') : wpList Try.prog ops Q (o :: rest) a w :=
  wpList_store_row hgd 28 x y ho g _ hx hy 28 _ hg size28 rfl (fA_one f) (h _ (setRow_heap w g _ _ 28 _ hg) ⟨rfl, rfl, rfl, by simp, fun k _ hk => setRow_other _ _ _ _ hk⟩)
theorem zero28 (w : World) : (zeroValue 28).run Try.prog w = .ok (.agg (fA f0)) w := by kernel_rfl
theorem build28 (w : World) : (Instr.build 28 #[]).run Try.prog w = .ok (.agg (fA f0)) w := by kernel_rfl
theorem wpList_alloc_fo {ops : Array Oper} {rest : List Oper} {o : Oper} {a : Act} {w : World} {Q : Exit → Act → World → Prop} (hgd : o.guard = none) (ho : o.op = .alloc 28) (N : Nat) (hN : w.heap.size = N)
    (h : ∀ w', Fo w' N f0 → Chg (fun _ => False) w w' → w'.heap.size = N + 1 → wpList Try.prog ops Q rest (a.put o.dst (.pointer (some ⟨N, 0, none⟩))) w') : wpList Try.prog ops Q (o :: rest) a w := by
  refine wpList_plain hgd fun K hK => ?_
  have hz := zero28
  unfold Oper.wp
  simp [execOp, ho, Instr.alloc, hz, newVar, Value.cells, newRow]
  rw [hN]
  exact hK _ _ (h _ (by rw [← hN]; exact Fo.new w f0) ((Chg.refl _ w).alloc _) (by simp [hN]))
theorem wpList_build_fo {ops : Array Oper} {rest : List Oper} {o : Oper} {a : Act} {w : World} {Q : Exit → Act → World → Prop} (hgd : o.guard = none) (ho : o.op = .build 28 #[])
    (h : wpList Try.prog ops Q rest (a.put o.dst (.agg (fA f0))) w) : wpList Try.prog ops Q (o :: rest) a w := by
  refine wpList_plain hgd fun K hK => ?_
  have hz := build28
  unfold Oper.wp
  simp [execOp, ho, hz]
  exact hK _ _ h
/-! ### Slices of founds -/
/-- The founds l lie in block g from o on. -/
def At6 (w : World) (g o : Nat) (l : List Fnd) : Prop := g < w.heap.size ∧ ∀ i f, l[i]? = some f → w.rangeAt g (o + i * 6) (fL f)
/-- The slice v reads as l. -/
def Sl (w : World) (v : Value) (l : List Fnd) : Prop := ∃ a cap, v = .slice a l.length cap ∧ l.length ≤ cap ∧ (l.length = 0 ∨ ∃ g o, a = some ⟨g, o, none⟩ ∧ At6 w g o l)
theorem rangeAt_chg {S : Nat → Prop} {w w' : World} {g o : Nat} {cs : List Value} (h : w.rangeAt g o cs) (hc : Chg S w w') (hg : g < w.heap.size) (hs : ¬ S g) : w'.rangeAt g o cs := fun j v hv => (hc.cell hg hs _).trans (h j v hv)
theorem At6.chg {S : Nat → Prop} {w w' : World} {g o : Nat} {l : List Fnd} (h : At6 w g o l) (hc : Chg S w w') (hs : ¬ S g) : At6 w' g o l :=
  ⟨Nat.lt_of_lt_of_le h.1 hc.size, fun i f hi => rangeAt_chg (h.2 i f hi) hc h.1 hs⟩
theorem Sl.new {w w' : World} {v : Value} {l : List Fnd} (h : Sl w v l) (hc : Chg (fun _ => False) w w') : Sl w' v l := by
  obtain ⟨a, cap, rfl, hcap, h⟩ := h
  refine ⟨a, cap, rfl, hcap, ?_⟩
  rcases h with h | ⟨g, o, rfl, h⟩
  · exact Or.inl h
  · exact Or.inr ⟨g, o, rfl, h.chg hc (fun f => f)⟩
theorem Sl.nil (w : World) (a : Option Addr) (cap : Nat) : Sl w (.slice a 0 cap) [] := ⟨a, cap, rfl, Nat.zero_le _, Or.inl rfl⟩
/-- The slice v is the call's own, of the founds l. -/
def Ow (w : World) (base : Nat) (v : Value) (l : List Fnd) : Prop := w.ownsRow base 28 6 v l.length (l.flatMap fL)
theorem flat_get : ∀ (l : List Fnd) (i : Nat) (f : Fnd) (j : Nat), l[i]? = some f → j < 6 → (l.flatMap fL)[i * 6 + j]? = (fL f)[j]?
  | [], i, f, j, h, _ => by simp at h
  | x :: r, 0, f, j, h, hj => by
    have e : x = f := by simpa using h
    subst e
    rw [List.flatMap_cons, Nat.zero_mul, Nat.zero_add, List.getElem?_append_left (by rw [fL_length]; exact hj)]
  | x :: r, i + 1, f, j, h, hj => by
    have h' : r[i]? = some f := by simpa using h
    rw [List.flatMap_cons, List.getElem?_append_right (by rw [fL_length]; omega), fL_length, show (i + 1) * 6 + j - 6 = i * 6 + j by omega, flat_get r i f j h' hj]
theorem flat_length (l : List Fnd) : (l.flatMap fL).length = l.length * 6 := by
  induction l with
  | nil => rfl
  | cons x r ih => rw [List.flatMap_cons, List.length_append, ih, fL_length, List.length_cons]; omega
theorem flat_one (l : List Fnd) : ∀ v ∈ l.flatMap fL, v.oneCell' = true := by
  intro v hv
  obtain ⟨f, _, h⟩ := List.mem_flatMap.1 hv
  exact fL_one f v h
theorem Ow.nil (w : World) (base : Nat) : Ow w base (.slice none 0 0) [] := ⟨rfl, Or.inl ⟨rfl, rfl⟩⟩
theorem Ow.lies {w : World} {base : Nat} {v : Value} {l : List Fnd} (h : Ow w base v l) (h0 : l.length ≠ 0) :
    ∃ g cap, v = .slice (some ⟨g, 0, none⟩) l.length cap ∧ l.length ≤ cap ∧ base ≤ g ∧ At6 w g 0 l ∧ (∀ i, w.frozen? ⟨g, i, none⟩ = false) ∧ ∀ j u, (l.flatMap fL)[j]? = some u → w.cell? ⟨g, j, none⟩ = some u := by
  have hcl := fun g hg => World.ownsRow.cells (g := g) h hg
  rcases h.2 with ⟨_, h1⟩ | ⟨g, cap, cur, hv, hg, hh, hn, hm, hs, ht⟩
  · exact absurd h1 h0
  · have hc : ∀ j u, (l.flatMap fL)[j]? = some u → w.cell? ⟨g, j, none⟩ = some u := fun j u hu => by
      have := hcl g (by rw [hv]; rfl) j u hu
      rw [Addr.add_mid, Nat.zero_add] at this
      exact this
    refine ⟨g, cap, hv, hn, hg, ⟨(Array.getElem?_eq_some_iff.1 hh).1, fun i f hi j u hu => ?_⟩, fun i => by simp [World.frozen?, hh], hc⟩
    have hj : j < 6 := by have := (List.getElem?_eq_some_iff.1 hu).1; rwa [fL_length] at this
    rw [Nat.zero_add]
    exact hc _ _ ((flat_get l i f j hi hj).trans hu)
theorem Ow.sl {w : World} {base : Nat} {v : Value} {l : List Fnd} (h : Ow w base v l) : Sl w v l := by
  by_cases h0 : l.length = 0
  · rcases h.2 with ⟨rfl, _⟩ | ⟨g, cap, cur, rfl, _⟩
    · exact ⟨none, 0, by rw [h0], by omega, Or.inl h0⟩
    · exact ⟨_, cap, rfl, by omega, Or.inl h0⟩
  · obtain ⟨g, cap, rfl, hcap, _, hA, _⟩ := h.lies h0
    exact ⟨_, cap, rfl, hcap, Or.inr ⟨g, 0, rfl, hA⟩⟩
theorem Ow.keep {w w' : World} {base : Nat} {v : Value} {l : List Fnd} (h : Ow w base v l) (hk : ∀ k, k < w.heap.size → v.ownBlock = some k → w'.heap[k]? = w.heap[k]?) : Ow w' base v l := by
  refine ⟨h.1, ?_⟩
  rcases h.2 with h1 | ⟨g, cap, cur, rfl, hb, hh, r⟩
  · exact Or.inl h1
  · exact Or.inr ⟨g, cap, cur, rfl, hb, (hk g (Array.getElem?_eq_some_iff.1 hh).1 rfl).trans hh, r⟩
theorem Ow.chg {S : Nat → Prop} {w w' : World} {base : Nat} {v : Value} {l : List Fnd} (h : Ow w base v l) (hc : Chg S w w') (hs : ∀ k, k < w.heap.size → v.ownBlock = some k → ¬ S k) : Ow w' base v l :=
  h.keep (fun k hk he => hc.block k hk (hs k hk he))
theorem Ow.new {w w' : World} {base : Nat} {v : Value} {l : List Fnd} (h : Ow w base v l) (hc : Chg (fun _ => False) w w') : Ow w' base v l := h.chg hc (fun _ _ _ f => f)
theorem Ow.block {w : World} {base : Nat} {v : Value} {l : List Fnd} (h : Ow w base v l) {k : Nat} (hk : v.ownBlock = some k) : base ≤ k ∧ k < w.heap.size := h.lt k hk
theorem info28 : ∃ i, Try.prog.info? 28 = some i ∧ i.zero = some (.agg (fA f0)) ∧ i.size = 6 ∧ i.bytes = 48 := by
  have h : (Try.prog.info? 28).map (fun i => (i.zero, i.size, i.bytes)) = some (some (.agg (fA f0)), 6, 48) := by kernel_rfl
  cases e : Try.prog.info? 28 with
  | none => rw [e] at h; cases h
  | some i =>
    rw [e] at h
    simp only [Option.map_some, Option.some.injEq, Prod.mk.injEq] at h
    exact ⟨i, rfl, h.1, h.2.1, h.2.2⟩
/-- 'append(v, x...)', v the call's own, x a slice that lies somewhere. -/
theorem wpList_append_fo (w : World) {ops : Array Oper} {rest : List Oper} {o : Oper} {a : Act} {Q : Exit → Act → World → Prop} (hgd : o.guard = none) (s x : Operand)
    (ho : o.op = .call { callee := .builtin .append, args := #[s, x], argTypes := #[24, 24] })
    (base : Nat) (v : Value) (l : List Fnd) (hs : a.eval s = v) (hown : Ow w base v l)
    (g q m c : Nat) (l2 : List Fnd) (hx : a.eval x = .slice (some ⟨g, q, none⟩) m c) (hm : l2.length = m) (hA : At6 w g q l2)
    (hbytes : l.length + m ≤ 2932031007402) (hbase : base ≤ w.heap.size)
    (h : ∀ v' w', Ow w' base v' (l ++ l2) → Chg (fun k => v.ownBlock = some k) w w' → wpList Try.prog ops Q rest (a.put o.dst v') w') : wpList Try.prog ops Q (o :: rest) a w := by
  obtain ⟨i, hi1, hi2, hi3, hi4⟩ := info28
  refine wpList_append_own_at w hgd s x 24 ho base 28 i (.agg (fA f0)) 6 48 Try.underlying24 hi1 hi2 hi3 hi4 rfl (by decide) v l.length (l.flatMap fL) hs hown ⟨g, q, none⟩ m c (l2.flatMap fL) hx (by rw [flat_length, hm]) ?_ (flat_one l2) (by unfold maxLen; omega) (by omega) hbase ?_
  · intro j u hu
    have hj : j < l2.length * 6 := by rw [← flat_length]; exact (List.getElem?_eq_some_iff.1 hu).1
    have e : l2[j / 6]? = some (l2[j / 6]'(by omega)) := List.getElem?_eq_getElem _
    have hf := flat_get l2 (j / 6) _ (j % 6) e (Nat.mod_lt _ (by decide))
    rw [show j / 6 * 6 + j % 6 = j by omega, hu] at hf
    have := hA.2 (j / 6) _ e (j % 6) u hf.symm
    rw [show q + j / 6 * 6 + j % 6 = q + j by omega] at this
    rw [Addr.add_mid]
    exact this
  · intro v' w' h1 h2 _ _
    refine h v' w' ?_ ⟨h2.os, h2.tape, h2.output, h2.size, fun k hk hs => h2.block k hk (fun e => hs e.symm)⟩
    unfold Ow
    rw [List.length_append, hm, List.flatMap_append]
    exact h1
/-- One found laid as a row of its own. -/
theorem At6.one {w : World} {g : Nat} {f : Fnd} (h : Fo w g f) : At6 w g 0 [f] := ⟨h.lt, fun i f' hi => by
  match i, hi with
  | 0, hi =>
    have e : f = f' := by simpa using hi
    subst e
    intro j v hv
    rw [Nat.zero_mul, Nat.zero_add]
    exact h.cell j hv⟩
/-! ### The sort's row -/
theorem Ow.holds {w : World} {base : Nat} {g cap : Nat} {l : List Fnd} (h : Ow w base (.slice (some ⟨g, 0, none⟩) l.length cap) l) (h0 : l.length ≠ 0) : HoldsK fL 6 w g 0 l.toArray := by
  obtain ⟨g', cap', hv, _, _, _, hfr, hc⟩ := h.lies h0
  simp only [Value.slice.injEq, Option.some.injEq, Addr.mk.injEq] at hv
  obtain ⟨⟨rfl, -, -⟩, -, -⟩ := hv
  intro t ht
  rw [size_flatK] at ht
  have ht' : t < l.length * 6 := by simpa using ht
  refine ⟨?_, by rw [Nat.zero_add]; exact hfr t⟩
  rw [Nat.zero_add, get_flatK fL 6 l.toArray t ht]
  have e : l[t / 6]? = some (l[t / 6]'(by omega)) := List.getElem?_eq_getElem _
  have hf := flat_get l (t / 6) _ (t % 6) e (Nat.mod_lt _ (by decide))
  rw [show t / 6 * 6 + t % 6 = t by omega] at hf
  have e2 : l.toArray[t / 6]! = l[t / 6]'(by omega) := by
    rw [getElem!_pos l.toArray (t / 6) (by simp; omega)]; simp
  rw [e2]
  refine hc t _ ?_
  rw [hf, List.getElem?_eq_getElem (by rw [fL_length]; exact Nat.mod_lt _ (by decide)), getElem!_pos _ _ (by rw [fL_length]; exact Nat.mod_lt _ (by decide))]
  rfl
theorem HoldsK.at6 {w : World} {g : Nat} {d : Array Fnd} (h : HoldsK fL 6 w g 0 d) (hg : g < w.heap.size) : At6 w g 0 d.toList := by
  refine ⟨hg, fun i f hi j v hv => ?_⟩
  have hj : j < 6 := by have := (List.getElem?_eq_some_iff.1 hv).1; rwa [fL_length] at this
  have hi' : i < d.size := by have := (List.getElem?_eq_some_iff.1 hi).1; simpa using this
  have := (h.cell (i := i) (c := j) hi' hj).1
  rw [this]
  have e : d[i]! = f := by
    rw [getElem!_pos d i hi']
    have := (List.getElem?_eq_some_iff.1 hi).2
    simpa using this
  rw [e, getElem!_pos _ _ (by rw [fL_length]; exact hj), ← hv, List.getElem?_eq_getElem]
theorem SWK.chg {w w' : World} {g : Nat} {d : Array Fnd} (h : SWK fL 6 w g 0 d w') : Chg (· = g) w w' := by
  obtain ⟨n, os, rfl⟩ := h
  refine ⟨rfl, rfl, rfl, ?_, fun k hk hs => ?_⟩
  · exact size_sortWorldK_c fL 6 w g 0 n d os
  · unfold sortWorldK
    rw [heap_grow_old _ _ (by rw [size_putRowK]; exact hk)]
    unfold putRowK putRow mapBlock
    show (w.heap.modify g _)[k]? = _
    rw [Array.getElem?_modify]
    rw [if_neg (fun e : g = k => hs e.symm)]
end Go.Proofs.Ytjkpidhpjleebaa
