/-
  Blocks of many cells, told by a function; parts of them, read and written whole. No condition: lemmas.
-/
import Derived.Test.YthpjdnfalecbeaaArrs
import Derived.Deep.MidRow
namespace Go.Proofs.Ythpjdnfalecbeaa
open Go.RowKit
set_option maxRecDepth 100000

/-- Block g holds n cells, laid out as type t; its i-th is f i. -/
def Sto (w : World) (g : Nat) (t : TypeId) (n : Nat) (f : Nat → Value) : Prop :=
  ∃ cs : Array Value, w.heap[g]? = some (.cells cs t) ∧ cs.size = n ∧ ∀ i, i < n → cs[i]? = some (f i)
/-- f, but vs from o on. -/
def upL (f : Nat → Value) (o : Nat) (vs : List Value) : Nat → Value := fun i => if o ≤ i ∧ i < o + vs.length then vs.getD (i - o) undef else f i
/-- From o on f is vs. -/
def Seg (f : Nat → Value) (o : Nat) (vs : List Value) : Prop := ∀ j v, vs[j]? = some v → f (o + j) = v

theorem Sto.lt {w : World} {g : Nat} {t : TypeId} {n : Nat} {f : Nat → Value} (h : Sto w g t n f) : g < w.heap.size := by
  obtain ⟨cs, h1, _⟩ := h
  exact (Array.getElem?_eq_some_iff.1 h1).1
theorem Sto.cell {w : World} {g : Nat} {t : TypeId} {n : Nat} {f : Nat → Value} (h : Sto w g t n f) (i : Nat) (hi : i < n) : w.cell? ⟨g, i, none⟩ = some (f i) := by
  obtain ⟨cs, h1, h2, h3⟩ := h
  rw [cell_of_row w g i _ _ _ h1]
  exact h3 i hi
theorem Sto.frozen {w : World} {g : Nat} {t : TypeId} {n : Nat} {f : Nat → Value} (h : Sto w g t n f) (i : Nat) : w.frozen? ⟨g, i, none⟩ = false := by
  obtain ⟨cs, h1, h2, h3⟩ := h
  exact frozen_of_row w g i _ _ h1
theorem Sto.other {w w' : World} {g : Nat} {t : TypeId} {n : Nat} {f : Nat → Value} (h : Sto w g t n f) (e : w'.heap[g]? = w.heap[g]?) : Sto w' g t n f := by
  obtain ⟨cs, h1, h2, h3⟩ := h
  exact ⟨cs, e.trans h1, h2, h3⟩
theorem Sto.drew {w : World} {g : Nat} {t : TypeId} {n : Nat} {f : Nat → Value} (h : Sto w g t n f) : Sto w.drew g t n f := h
theorem Sto.chg {S : Nat → Prop} {w w' : World} {g : Nat} {t : TypeId} {n : Nat} {f : Nat → Value} (h : Sto w g t n f) (hc : Chg S w w') (hg : ¬ S g) : Sto w' g t n f := h.other (hc.block g h.lt hg)
theorem Sto.alloc {w : World} {g : Nat} {t : TypeId} {n : Nat} {f : Nat → Value} (h : Sto w g t n f) (o : Obj) : Sto (w.alloc o) g t n f := h.other (Below.heap_alloc _ _ _ h.lt)
theorem Sto.setOther {w : World} {g : Nat} {t : TypeId} {n : Nat} {f : Nat → Value} (h : Sto w g t n f) {k : Nat} (hg : k ≠ g) (o : Nat) (v : Value) : Sto (w.setCell ⟨k, o, none⟩ v) g t n f :=
  h.other (Below.heap_setCell _ _ _ _ (by simp; omega))
theorem Sto.ext {w : World} {g : Nat} {t : TypeId} {n : Nat} {f f' : Nat → Value} (h : Sto w g t n f) (e : ∀ i, i < n → f i = f' i) : Sto w g t n f' := by
  obtain ⟨cs, h1, h2, h3⟩ := h
  exact ⟨cs, h1, h2, fun i hi => by rw [h3 i hi, e i hi]⟩
theorem Sto.type {w : World} {g : Nat} {t t' : TypeId} {n n' : Nat} {f f' : Nat → Value} (h : Sto w g t n f) (h' : Sto w g t' n' f') : t = t' := by
  obtain ⟨cs, h1, _⟩ := h
  obtain ⟨cs', h1', _⟩ := h'
  rw [h1] at h1'
  simp at h1'
  exact h1'.2
theorem upL_one (f : Nat → Value) (o : Nat) (v : Value) (i : Nat) : upL f o [v] i = if i = o then v else f i := by
  unfold upL
  by_cases h : i = o
  · subst h; simp
  · rw [if_neg (by simp; omega), if_neg h]
theorem Sto.setCell {w : World} {g : Nat} {t : TypeId} {n : Nat} {f : Nat → Value} (h : Sto w g t n f) (o : Nat) (v : Value) : Sto (w.setCell ⟨g, o, none⟩ v) g t n (upL f o [v]) := by
  obtain ⟨cs, h1, h2, h3⟩ := h
  refine ⟨cs.setIfInBounds o v, by simp [World.setCell, Array.getElem?_modify, h1], by simpa using h2, fun i hi => ?_⟩
  rw [upL_one]
  by_cases e : i = o
  · subst e
    rw [if_pos rfl, Array.getElem?_setIfInBounds_self_of_lt (by omega)]
  · rw [if_neg e, Array.getElem?_setIfInBounds_ne (by omega), h3 i hi]
theorem Sto.setCells {g : Nat} {t : TypeId} {n : Nat} : ∀ (vs : List Value) (o : Nat) {w : World} {f : Nat → Value} (_ : Sto w g t n f), Sto (w.setCells g o vs) g t n (upL f o vs)
  | [], o, w, f, h => h.ext fun i _ => by unfold upL; rw [if_neg (by intro hh; simp at hh; omega)]
  | v :: r, o, w, f, h => by
    rw [World.setCells]
    refine (Sto.setCells r (o + 1) (h.setCell o v)).ext fun i _ => ?_
    unfold upL
    by_cases e : i = o
    · subst e; rw [if_neg (by omega), if_pos (by simp), if_pos (by simp)]; simp
    · by_cases h2 : o + 1 ≤ i ∧ i < o + 1 + r.length
      · rw [if_pos h2, if_pos (by simp; omega), show i - o = (i - (o + 1)) + 1 from by omega, List.getD_cons_succ]
      · rw [if_neg h2, if_neg (by simp; omega), if_neg (by simp; omega)]
theorem Chg.setCells {S : Nat → Prop} {u : World} {g : Nat} (hg : S g ∨ u.heap.size ≤ g) : ∀ (vs : List Value) (o : Nat) {w : World} (_ : Chg S u w), Chg S u (w.setCells g o vs)
  | [], _, _, h => h
  | v :: r, o, w, h => by rw [World.setCells]; exact Chg.setCells hg r (o + 1) (h.setCell hg o v)
theorem Seg.range {w : World} {g : Nat} {t : TypeId} {n : Nat} {f : Nat → Value} (h : Sto w g t n f) {o : Nat} {vs : List Value} (hs : Seg f o vs) (ho : o + vs.length ≤ n) : w.rangeAt g o vs := fun j v hv => by
  have hj : j < vs.length := (List.getElem?_eq_some_iff.1 hv).1
  rw [h.cell _ (by omega), hs j v hv]
theorem Sto.there {w : World} {g : Nat} {t : TypeId} {n : Nat} {f : Nat → Value} (h : Sto w g t n f) (o m : Nat) (ho : o + m ≤ n) : w.there g o m := fun j hj => ⟨by rw [h.cell _ (by omega)]; rfl, h.frozen _⟩
theorem upL_seg (f : Nat → Value) (o : Nat) (vs : List Value) : Seg (upL f o vs) o vs := fun j v hv => by
  have hj : j < vs.length := (List.getElem?_eq_some_iff.1 hv).1
  unfold upL
  rw [if_pos (by omega), show o + j - o = j from by omega, List.getD_eq_getElem?_getD, hv]; rfl
theorem Seg.up {f : Nat → Value} {o : Nat} {vs : List Value} (h : Seg f o vs) (o' : Nat) (us : List Value) (hd : o + vs.length ≤ o' ∨ o' + us.length ≤ o) : Seg (upL f o' us) o vs := fun j v hv => by
  have hj : j < vs.length := (List.getElem?_eq_some_iff.1 hv).1
  unfold upL
  rw [if_neg (by omega)]
  exact h j v hv
theorem Seg.sub {f : Nat → Value} {o : Nat} {vs us : List Value} (h : Seg f o vs) (j : Nat) (hu : ∀ i v, us[i]? = some v → vs[j + i]? = some v) : Seg f (o + j) us := fun i v hv => by
  have := h (j + i) v (hu i v hv)
  rw [← this]; congr 1; omega
/-- vs, but us from j on. -/
def layV (vs : List Value) (j : Nat) (us : List Value) : List Value := vs.take j ++ (us ++ vs.drop (j + us.length))
theorem layV_length {vs : List Value} {j : Nat} {us : List Value} (h : j + us.length ≤ vs.length) : (layV vs j us).length = vs.length := by simp [layV]; omega
theorem upL_upL (f : Nat → Value) (o : Nat) (vs : List Value) (j : Nat) (us : List Value) (h : j + us.length ≤ vs.length) : upL (upL f o vs) (o + j) us = upL f o (layV vs j us) := by
  funext i
  have hl := layV_length h
  unfold upL
  rw [hl]
  by_cases h1 : o + j ≤ i ∧ i < o + j + us.length
  · rw [if_pos h1, if_pos (by omega)]
    simp only [List.getD_eq_getElem?_getD, layV]
    rw [List.getElem?_append_right (by simp; omega), List.getElem?_append_left (by simp; omega)]
    congr 2
    simp; omega
  · rw [if_neg h1]
    by_cases h2 : o ≤ i ∧ i < o + vs.length
    · rw [if_pos h2, if_pos h2]
      simp only [List.getD_eq_getElem?_getD, layV]
      by_cases h3 : i < o + j
      · rw [List.getElem?_append_left (by simp; omega), List.getElem?_take_of_lt (by omega)]
      · rw [List.getElem?_append_right (by simp; omega), List.getElem?_append_right (by simp; omega), List.getElem?_drop]
        congr 2
        simp; omega
    · rw [if_neg h2, if_neg h2]
theorem upL_same (f : Nat → Value) (o : Nat) (vs us : List Value) (h : vs.length = us.length) : upL (upL f o vs) o us = upL f o us := by
  funext i
  unfold upL
  rw [h]
  by_cases h1 : o ≤ i ∧ i < o + us.length
  · rw [if_pos h1, if_pos h1]
  · rw [if_neg h1, if_neg h1, if_neg h1]
/-- A copy of bytes into the midst of a block. -/
theorem wpList_copy_mid {w : World} {ops : Array Oper} {rest : List Oper} {o : Oper} {a : Act} {Q : Exit → Act → World → Prop} (hgd : o.guard = none) (d s : Operand)
    (ho : o.op = .call { callee := .builtin .copy, args := #[d, s], argTypes := #[36, 36] }) (g off dLen dCap : Nat) (c : Addr) (sLen sCap : Nat) (hd : a.eval d = .slice (some ⟨g, off, none⟩) dLen dCap) (hs : a.eval s = .slice (some c) sLen sCap)
    (src : List Nat) (hn : src.length = Nat.min sLen dLen) (hsrc : ∀ j v, (src.map byt)[j]? = some v → w.cell? (c.add j) = some v) (hth : w.there g off src.length)
    (h : wpList Try.prog ops Q rest (a.put o.dst (goInt src.length)) (w.setCells g off (src.map byt))) : wpList Try.prog ops Q (o :: rest) a w := by
  refine wpList_plain hgd fun K hK => ?_
  have hrun := run_copy_cells (P := Try.prog) w 36 36 o.type 5 g off dLen dCap c sLen sCap (src.map byt) Try.underlying36 size5 (by simpa using hn) hsrc (fun j hj => (hth j (by simpa using hj)).1) (fun j hj => (hth j (by simpa using hj)).2) (byt_one src)
  unfold Oper.wp
  simp only [List.length_map] at hrun
  simp [execOp, ho, resolve, invoke, builtin, hd, hs, hrun, Result.andThen]
  exact hK _ _ h
end Go.Proofs.Ythpjdnfalecbeaa
