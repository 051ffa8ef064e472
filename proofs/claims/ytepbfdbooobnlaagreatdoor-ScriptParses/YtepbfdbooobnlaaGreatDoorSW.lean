/-
  Steps in memory: one, and slices of them. No condition: lemmas.
-/
import Derived.Test.YtepbfdbooobnlaaGreatDoorSP
namespace Go.Proofs.YtepbfdbooobnlaaGreatDoor
set_option maxRecDepth 100000
open Go.RowKit
/-- Three ints. -/
structure S3 where
  k : Int
  a : Int
  b : Int
def fL (f : S3) : List Value := [.int .i64 f.k, .int .i64 f.a, .int .i64 f.b]
def fA (f : S3) : Array Value := (fL f).toArray
def f0 : S3 := ⟨0, 0, 0⟩
theorem fL_length (f : S3) : (fL f).length = 3 := rfl
theorem fL_one (f : S3) : ∀ v ∈ fL f, v.oneCell' = true := by
  intro v hv
  simp only [fL, List.mem_cons, List.mem_nil_iff, or_false] at hv
  rcases hv with rfl | rfl | rfl <;> rfl
theorem all_oneCell_toArray {l : List Value} (h : ∀ v ∈ l, v.oneCell' = true) : l.toArray.all (·.oneCell') = true := by
  rw [List.all_toArray, List.all_eq_true]; exact h
def Stp.s (x : Stp) : S3 := ⟨x.k, x.a, x.b⟩
theorem Chg.cell {S : Nat → Prop} {w w' : World} (h : Chg S w w') {c : Nat} (hc : c < w.heap.size) (hb : ¬ S c) (o : Nat) : w'.cell? ⟨c, o, none⟩ = w.cell? ⟨c, o, none⟩ :=
  World.cell?_of_block (w := w) (h.block c hc hb)
/-! ### A block that holds a found -/
theorem fA_size (f : S3) : (fA f).size = 3 := rfl
theorem fA_one (f : S3) : (fA f).all (·.oneCell') = true := all_oneCell_toArray (fL_one f)
def Fo (w : World) (b : Nat) (f : S3) : Prop := w.heap[b]? = some (.cells (fA f) 50)
theorem Fo.new (w : World) (f : S3) : Fo (w.alloc (.cells (fA f) 50)) w.heap.size f := by
  show (w.heap.push _)[w.heap.size]? = _
  simp
theorem Fo.lt {w : World} {b : Nat} {f : S3} (h : Fo w b f) : b < w.heap.size := (Array.getElem?_eq_some_iff.1 (show w.heap[b]? = some _ from h)).1
theorem Fo.chg {S : Nat → Prop} {w w' : World} {b : Nat} {f : S3} (h : Fo w b f) (hc : Chg S w w') (hb : ¬ S b) : Fo w' b f := (hc.block b h.lt hb).trans h
theorem Fo.drew {w : World} {b : Nat} {f : S3} (h : Fo w b f) : Fo w.drew b f := h
theorem Fo.alloc {w : World} {b : Nat} {f : S3} (h : Fo w b f) (x : Obj) : Fo (w.alloc x) b f := (Below.heap_alloc _ _ _ h.lt).trans h
theorem Fo.frozen {w : World} {b : Nat} {f : S3} (h : Fo w b f) (i : Nat) : w.frozen? ⟨b, i, none⟩ = false := by
  have h' : w.heap[b]? = some _ := h
  simp [World.frozen?, h']
theorem Fo.cell {w : World} {b : Nat} {f : S3} (h : Fo w b f) (i : Nat) {v : Value} (hv : (fL f)[i]? = some v) : w.cell? ⟨b, i, none⟩ = some v := by
  have h' : w.heap[b]? = some _ := h
  simp only [World.cell?, h', fA]
  simpa using hv
/-- Its three cells. -/
theorem Fo.cells {w : World} {b : Nat} {f : S3} (h : Fo w b f) : w.cell? ⟨b, 0, none⟩ = some (.int .i64 f.k) ∧ w.cell? ⟨b, 1, none⟩ = some (.int .i64 f.a) ∧ w.cell? ⟨b, 2, none⟩ = some (.int .i64 f.b) := ⟨h.cell 0 rfl, h.cell 1 rfl, h.cell 2 rfl⟩
theorem wpList_load_fo {ops : Array Oper} {rest : List Oper} {o : Oper} {a : Act} {w : World} {Q : Exit → Act → World → Prop} (hgd : o.guard = none) (x : Operand) (ho : o.op = .load 50 x)
    (g : Nat) (hx : a.eval x = .pointer (some ⟨g, 0, none⟩)) {f : S3} (hg : Fo w g f)
    (h : wpList Tryz.prog ops Q rest (a.put o.dst (.agg (fA f))) w) : wpList Tryz.prog ops Q (o :: rest) a w :=
  wpList_load_row hgd 50 x ho g hx 50 _ _ _ hg Tryz.underlying50 rfl size50 h
theorem wpList_load_at {ops : Array Oper} {rest : List Oper} {o : Oper} {a : Act} {w : World} {Q : Exit → Act → World → Prop} (hgd : o.guard = none) (x : Operand) (ho : o.op = .load 50 x)
    (g q : Nat) (hx : a.eval x = .pointer (some ⟨g, q, none⟩)) {f : S3} (hg : w.rangeAt g q (fL f))
    (h : wpList Tryz.prog ops Q rest (a.put o.dst (.agg (fA f))) w) : wpList Tryz.prog ops Q (o :: rest) a w :=
  wpList_load_mid hgd 50 x ho g q hx (fL f) _ hg Tryz.underlying50 rfl size50 h
theorem wpList_store_fo {ops : Array Oper} {rest : List Oper} {o : Oper} {a : Act} {w : World} {Q : Exit → Act → World → Prop} (hgd : o.guard = none) (x y : Operand) (ho : o.op = .store 50 x y)
    (g : Nat) (hx : a.eval x = .pointer (some ⟨g, 0, none⟩)) {f : S3} (hy : a.eval y = .agg (fA f)) {f' : S3} (hg : Fo w g f')
    (h : ∀ w', Fo w' g f → Chg (· = g) w w' → wpList Tryz.prog ops Q rest (a.put o.dst undef) w') : wpList Tryz.prog ops Q (o :: rest) a w :=
  wpList_store_row hgd 50 x y ho g _ hx hy 50 _ hg size50 rfl (fA_one f) (h _ (setRow_heap w g _ _ 50 _ hg) ⟨rfl, rfl, rfl, by simp, fun k _ hk => setRow_other _ _ _ _ hk⟩)
theorem zero50 (w : World) : (zeroValue 50).run Tryz.prog w = .ok (.agg (fA f0)) w := by kernel_rfl
theorem build50 (w : World) : (Instr.build 50 #[]).run Tryz.prog w = .ok (.agg (fA f0)) w := by kernel_rfl
theorem wpList_alloc_fo {ops : Array Oper} {rest : List Oper} {o : Oper} {a : Act} {w : World} {Q : Exit → Act → World → Prop} (hgd : o.guard = none) (ho : o.op = .alloc 50) (N : Nat) (hN : w.heap.size = N)
    (h : ∀ w', Fo w' N f0 → Chg (fun _ => False) w w' → w'.heap.size = N + 1 → wpList Tryz.prog ops Q rest (a.put o.dst (.pointer (some ⟨N, 0, none⟩))) w') : wpList Tryz.prog ops Q (o :: rest) a w := by
  refine wpList_plain hgd fun K hK => ?_
  have hz := zero50
  unfold Oper.wp
  simp [execOp, ho, Instr.alloc, hz, newVar, Value.cells, newRow]
  rw [hN]
  exact hK _ _ (h _ (by rw [← hN]; exact Fo.new w f0) ((Chg.refl _ w).alloc _) (by simp [hN]))
theorem wpList_build_fo {ops : Array Oper} {rest : List Oper} {o : Oper} {a : Act} {w : World} {Q : Exit → Act → World → Prop} (hgd : o.guard = none) (ho : o.op = .build 50 #[])
    (h : wpList Tryz.prog ops Q rest (a.put o.dst (.agg (fA f0))) w) : wpList Tryz.prog ops Q (o :: rest) a w := by
  refine wpList_plain hgd fun K hK => ?_
  have hz := build50
  unfold Oper.wp
  simp [execOp, ho, hz]
  exact hK _ _ h
/-! ### Slices of founds -/
/-- The founds l lie in block g from o on. -/
def At6 (w : World) (g o : Nat) (l : List S3) : Prop := g < w.heap.size ∧ ∀ i f, l[i]? = some f → w.rangeAt g (o + i * 3) (fL f)
/-- The slice v reads as l. -/
def Sl (w : World) (v : Value) (l : List S3) : Prop := ∃ a cap, v = .slice a l.length cap ∧ l.length ≤ cap ∧ (l.length = 0 ∨ ∃ g o, a = some ⟨g, o, none⟩ ∧ At6 w g o l)
theorem rangeAt_chg {S : Nat → Prop} {w w' : World} {g o : Nat} {cs : List Value} (h : w.rangeAt g o cs) (hc : Chg S w w') (hg : g < w.heap.size) (hs : ¬ S g) : w'.rangeAt g o cs := fun j v hv => (hc.cell hg hs _).trans (h j v hv)
theorem At6.chg {S : Nat → Prop} {w w' : World} {g o : Nat} {l : List S3} (h : At6 w g o l) (hc : Chg S w w') (hs : ¬ S g) : At6 w' g o l :=
  ⟨Nat.lt_of_lt_of_le h.1 hc.size, fun i f hi => rangeAt_chg (h.2 i f hi) hc h.1 hs⟩
theorem Sl.new {w w' : World} {v : Value} {l : List S3} (h : Sl w v l) (hc : Chg (fun _ => False) w w') : Sl w' v l := by
  obtain ⟨a, cap, rfl, hcap, h⟩ := h
  refine ⟨a, cap, rfl, hcap, ?_⟩
  rcases h with h | ⟨g, o, rfl, h⟩
  · exact Or.inl h
  · exact Or.inr ⟨g, o, rfl, h.chg hc (fun f => f)⟩
theorem Sl.nil (w : World) (a : Option Addr) (cap : Nat) : Sl w (.slice a 0 cap) [] := ⟨a, cap, rfl, Nat.zero_le _, Or.inl rfl⟩
/-- The slice v is the call's own, of the founds l. -/
def Ow (w : World) (base : Nat) (v : Value) (l : List S3) : Prop := w.ownsRow base 50 3 v l.length (l.flatMap fL)
theorem flat_get : ∀ (l : List S3) (i : Nat) (f : S3) (j : Nat), l[i]? = some f → j < 3 → (l.flatMap fL)[i * 3 + j]? = (fL f)[j]?
  | [], i, f, j, h, _ => by simp at h
  | x :: r, 0, f, j, h, hj => by
    have e : x = f := by simpa using h
    subst e
    rw [List.flatMap_cons, Nat.zero_mul, Nat.zero_add, List.getElem?_append_left (by rw [fL_length]; exact hj)]
  | x :: r, i + 1, f, j, h, hj => by
    have h' : r[i]? = some f := by simpa using h
    rw [List.flatMap_cons, List.getElem?_append_right (by rw [fL_length]; omega), fL_length, show (i + 1) * 3 + j - 3 = i * 3 + j by omega, flat_get r i f j h' hj]
theorem flat_length (l : List S3) : (l.flatMap fL).length = l.length * 3 := by
  induction l with
  | nil => rfl
  | cons x r ih => rw [List.flatMap_cons, List.length_append, ih, fL_length, List.length_cons]; omega
theorem flat_one (l : List S3) : ∀ v ∈ l.flatMap fL, v.oneCell' = true := by
  intro v hv
  obtain ⟨f, _, h⟩ := List.mem_flatMap.1 hv
  exact fL_one f v h
theorem Ow.nil (w : World) (base : Nat) : Ow w base (.slice none 0 0) [] := ⟨rfl, Or.inl ⟨rfl, rfl⟩⟩
theorem Ow.lies {w : World} {base : Nat} {v : Value} {l : List S3} (h : Ow w base v l) (h0 : l.length ≠ 0) :
    ∃ g cap, v = .slice (some ⟨g, 0, none⟩) l.length cap ∧ l.length ≤ cap ∧ base ≤ g ∧ At6 w g 0 l ∧ (∀ i, w.frozen? ⟨g, i, none⟩ = false) ∧ ∀ j u, (l.flatMap fL)[j]? = some u → w.cell? ⟨g, j, none⟩ = some u := by
  have hcl := fun g hg => World.ownsRow.cells (g := g) h hg
  rcases h.2 with ⟨_, h1⟩ | ⟨g, cap, cur, hv, hg, hh, hn, hm, hs, ht⟩
  · exact absurd h1 h0
  · have hc : ∀ j u, (l.flatMap fL)[j]? = some u → w.cell? ⟨g, j, none⟩ = some u := fun j u hu => by
      have := hcl g (by rw [hv]; rfl) j u hu
      rw [Addr.add_mid, Nat.zero_add] at this
      exact this
    refine ⟨g, cap, hv, hn, hg, ⟨(Array.getElem?_eq_some_iff.1 hh).1, fun i f hi j u hu => ?_⟩, fun i => by simp [World.frozen?, hh], hc⟩
    have hj : j < 3 := by have := (List.getElem?_eq_some_iff.1 hu).1; rwa [fL_length] at this
    rw [Nat.zero_add]
    exact hc _ _ ((flat_get l i f j hi hj).trans hu)
theorem Ow.sl {w : World} {base : Nat} {v : Value} {l : List S3} (h : Ow w base v l) : Sl w v l := by
  by_cases h0 : l.length = 0
  · rcases h.2 with ⟨rfl, _⟩ | ⟨g, cap, cur, rfl, _⟩
    · exact ⟨none, 0, by rw [h0], by omega, Or.inl h0⟩
    · exact ⟨_, cap, rfl, by omega, Or.inl h0⟩
  · obtain ⟨g, cap, rfl, hcap, _, hA, _⟩ := h.lies h0
    exact ⟨_, cap, rfl, hcap, Or.inr ⟨g, 0, rfl, hA⟩⟩
theorem Ow.keep {w w' : World} {base : Nat} {v : Value} {l : List S3} (h : Ow w base v l) (hk : ∀ k, k < w.heap.size → v.ownBlock = some k → w'.heap[k]? = w.heap[k]?) : Ow w' base v l := by
  refine ⟨h.1, ?_⟩
  rcases h.2 with h1 | ⟨g, cap, cur, rfl, hb, hh, r⟩
  · exact Or.inl h1
  · exact Or.inr ⟨g, cap, cur, rfl, hb, (hk g (Array.getElem?_eq_some_iff.1 hh).1 rfl).trans hh, r⟩
theorem Ow.chg {S : Nat → Prop} {w w' : World} {base : Nat} {v : Value} {l : List S3} (h : Ow w base v l) (hc : Chg S w w') (hs : ∀ k, k < w.heap.size → v.ownBlock = some k → ¬ S k) : Ow w' base v l :=
  h.keep (fun k hk he => hc.block k hk (hs k hk he))
theorem Ow.new {w w' : World} {base : Nat} {v : Value} {l : List S3} (h : Ow w base v l) (hc : Chg (fun _ => False) w w') : Ow w' base v l := h.chg hc (fun _ _ _ f => f)
theorem Ow.block {w : World} {base : Nat} {v : Value} {l : List S3} (h : Ow w base v l) {k : Nat} (hk : v.ownBlock = some k) : base ≤ k ∧ k < w.heap.size := h.lt k hk
theorem info50 : ∃ i, Tryz.prog.info? 50 = some i ∧ i.zero = some (.agg (fA f0)) ∧ i.size = 3 ∧ i.bytes = 24 := by
  have h : (Tryz.prog.info? 50).map (fun i => (i.zero, i.size, i.bytes)) = some (some (.agg (fA f0)), 3, 24) := by kernel_rfl
  cases e : Tryz.prog.info? 50 with
  | none => rw [e] at h; cases h
  | some i =>
    rw [e] at h
    simp only [Option.map_some, Option.some.injEq, Prod.mk.injEq] at h
    exact ⟨i, rfl, h.1, h.2.1, h.2.2⟩
/-- 'append(v, x...)', v the call's own, x a slice that lies somewhere. -/
theorem wpList_append_fo (w : World) {ops : Array Oper} {rest : List Oper} {o : Oper} {a : Act} {Q : Exit → Act → World → Prop} (hgd : o.guard = none) (s x : Operand)
    (ho : o.op = .call { callee := .builtin .append, args := #[s, x], argTypes := #[29, 29] })
    (base : Nat) (v : Value) (l : List S3) (hs : a.eval s = v) (hown : Ow w base v l)
    (g q m c : Nat) (l2 : List S3) (hx : a.eval x = .slice (some ⟨g, q, none⟩) m c) (hm : l2.length = m) (hA : At6 w g q l2)
    (hbytes : l.length + m ≤ 4398046511104) (hbase : base ≤ w.heap.size)
    (h : ∀ v' w', Ow w' base v' (l ++ l2) → Chg (fun k => v.ownBlock = some k) w w' → wpList Tryz.prog ops Q rest (a.put o.dst v') w') : wpList Tryz.prog ops Q (o :: rest) a w := by
  obtain ⟨i, hi1, hi2, hi3, hi4⟩ := info50
  refine wpList_append_own_at w hgd s x 29 ho base 50 i (.agg (fA f0)) 3 24 Tryz.underlying29 hi1 hi2 hi3 hi4 rfl (by decide) v l.length (l.flatMap fL) hs hown ⟨g, q, none⟩ m c (l2.flatMap fL) hx (by rw [flat_length, hm]) ?_ (flat_one l2) (by unfold maxLen; omega) (by omega) hbase ?_
  · intro j u hu
    have hj : j < l2.length * 3 := by rw [← flat_length]; exact (List.getElem?_eq_some_iff.1 hu).1
    have e : l2[j / 3]? = some (l2[j / 3]'(by omega)) := List.getElem?_eq_getElem _
    have hf := flat_get l2 (j / 3) _ (j % 3) e (Nat.mod_lt _ (by decide))
    rw [show j / 3 * 3 + j % 3 = j by omega, hu] at hf
    have := hA.2 (j / 3) _ e (j % 3) u hf.symm
    rw [show q + j / 3 * 3 + j % 3 = q + j by omega] at this
    rw [Addr.add_mid]
    exact this
  · intro v' w' h1 h2 _ _
    refine h v' w' ?_ ⟨h2.os, h2.tape, h2.output, h2.size, fun k hk hs => h2.block k hk (fun e => hs e.symm)⟩
    unfold Ow
    rw [List.length_append, hm, List.flatMap_append]
    exact h1
/-- One found laid as a row of its own. -/
theorem At6.one {w : World} {g : Nat} {f : S3} (h : Fo w g f) : At6 w g 0 [f] := ⟨h.lt, fun i f' hi => by
  match i, hi with
  | 0, hi =>
    have e : f = f' := by simpa using hi
    subst e
    intro j v hv
    rw [Nat.zero_mul, Nat.zero_add]
    exact h.cell j hv⟩
end Go.Proofs.YtepbfdbooobnlaaGreatDoor
