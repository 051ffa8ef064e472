/-
  Rows told by functions; families of lists one behind the other. No condition: lemmas.
-/
import Derived.Test.YthpjdnfalecbeaaBlk
import Derived.Test.YthpjdnfalecbeaaSame
namespace Go.Proofs.Ythpjdnfalecbeaa
open Go.RowKit
set_option maxRecDepth 100000

/-- Block g holds at least n cells, laid out as type t; its i-th is f i. -/
def Row (w : World) (g : Nat) (t : TypeId) (n : Nat) (f : Nat → Value) : Prop :=
  ∃ cs : Array Value, w.heap[g]? = some (.cells cs t) ∧ n ≤ cs.size ∧ ∀ i, i < n → cs[i]? = some (f i)
theorem Row.lt {w : World} {g : Nat} {t : TypeId} {n : Nat} {f : Nat → Value} (h : Row w g t n f) : g < w.heap.size := by
  obtain ⟨cs, h1, _⟩ := h
  exact (Array.getElem?_eq_some_iff.1 h1).1
theorem Row.cell {w : World} {g : Nat} {t : TypeId} {n : Nat} {f : Nat → Value} (h : Row w g t n f) (i : Nat) (hi : i < n) : w.cell? ⟨g, i, none⟩ = some (f i) := by
  obtain ⟨cs, h1, h2, h3⟩ := h
  rw [cell_of_row w g i _ _ _ h1]
  exact h3 i hi
theorem Row.frozen {w : World} {g : Nat} {t : TypeId} {n : Nat} {f : Nat → Value} (h : Row w g t n f) (i : Nat) : w.frozen? ⟨g, i, none⟩ = false := by
  obtain ⟨cs, h1, h2, h3⟩ := h
  exact frozen_of_row w g i _ _ h1
theorem Row.other {w w' : World} {g : Nat} {t : TypeId} {n : Nat} {f : Nat → Value} (h : Row w g t n f) (e : w'.heap[g]? = w.heap[g]?) : Row w' g t n f := by
  obtain ⟨cs, h1, h2, h3⟩ := h
  exact ⟨cs, e.trans h1, h2, h3⟩
theorem Row.drew {w : World} {g : Nat} {t : TypeId} {n : Nat} {f : Nat → Value} (h : Row w g t n f) : Row w.drew g t n f := h
theorem Row.chg {S : Nat → Prop} {w w' : World} {g : Nat} {t : TypeId} {n : Nat} {f : Nat → Value} (h : Row w g t n f) (hc : Chg S w w') (hg : ¬ S g) : Row w' g t n f := h.other (hc.block g h.lt hg)
theorem Row.alloc {w : World} {g : Nat} {t : TypeId} {n : Nat} {f : Nat → Value} (h : Row w g t n f) (o : Obj) : Row (w.alloc o) g t n f := h.other (Below.heap_alloc _ _ _ h.lt)
theorem Row.setOther {w : World} {g : Nat} {t : TypeId} {n : Nat} {f : Nat → Value} (h : Row w g t n f) {k : Nat} (hg : k ≠ g) (o : Nat) (v : Value) : Row (w.setCell ⟨k, o, none⟩ v) g t n f :=
  h.other (Below.heap_setCell _ _ _ _ (by simp; omega))
theorem Row.ext {w : World} {g : Nat} {t : TypeId} {n : Nat} {f f' : Nat → Value} (h : Row w g t n f) (e : ∀ i, i < n → f i = f' i) : Row w g t n f' := by
  obtain ⟨cs, h1, h2, h3⟩ := h
  exact ⟨cs, h1, h2, fun i hi => by rw [h3 i hi, e i hi]⟩
theorem Row.type {w : World} {g : Nat} {t t' : TypeId} {n n' : Nat} {f f' : Nat → Value} (h : Row w g t n f) (h' : Row w g t' n' f') : t = t' := by
  obtain ⟨cs, h1, _⟩ := h
  obtain ⟨cs', h1', _⟩ := h'
  rw [h1] at h1'
  simp at h1'
  exact h1'.2
theorem Row.ne {w : World} {g g' : Nat} {t t' : TypeId} {n n' : Nat} {f f' : Nat → Value} (h : Row w g t n f) (h' : Row w g' t' n' f') (ht : t ≠ t') : g ≠ g' := fun e => ht (by subst e; exact h.type h')
theorem Row.setCell {w : World} {g : Nat} {t : TypeId} {n : Nat} {f : Nat → Value} (h : Row w g t n f) (o : Nat) (v : Value) : Row (w.setCell ⟨g, o, none⟩ v) g t n (upL f o [v]) := by
  obtain ⟨cs, h1, h2, h3⟩ := h
  refine ⟨cs.setIfInBounds o v, by simp [World.setCell, Array.getElem?_modify, h1], by simpa using h2, fun i hi => ?_⟩
  rw [upL_one]
  by_cases e : i = o
  · subst e
    rw [if_pos rfl, Array.getElem?_setIfInBounds_self_of_lt (by omega)]
  · rw [if_neg e, Array.getElem?_setIfInBounds_ne (by omega), h3 i hi]
theorem Row.mono {w : World} {g : Nat} {t : TypeId} {n m : Nat} {f : Nat → Value} (h : Row w g t n f) (hm : m ≤ n) : Row w g t m f := by
  obtain ⟨cs, h1, h2, h3⟩ := h
  exact ⟨cs, h1, by omega, fun i hi => h3 i (by omega)⟩
theorem Sto.row {w : World} {g : Nat} {t : TypeId} {n : Nat} {f : Nat → Value} (h : Sto w g t n f) : Row w g t n f := by
  obtain ⟨cs, h1, h2, h3⟩ := h
  exact ⟨cs, h1, by omega, h3⟩
theorem ownsRow_row {w : World} {base : Nat} {e : TypeId} {size : Nat} {v : Value} {n : Nat} {xs : List Value} (h : w.ownsRow base e size v n xs) (hn : n ≠ 0) :
    ∃ g cap, v = .slice (some ⟨g, 0, none⟩) n cap ∧ base ≤ g ∧ g < w.heap.size ∧ Row w g e (n * size) (fun i => xs.getD i undef) := by
  rcases h.2 with ⟨_, h1⟩ | ⟨g, cap, cur, hv, hg, hh, hnc, hm, hs, ht⟩
  · exact absurd h1 hn
  · refine ⟨g, cap, hv, hg, (Array.getElem?_eq_some_iff.1 hh).1, cur, hh, by rw [hs]; exact Nat.mul_le_mul_right _ hnc, fun i hi => ?_⟩
    have hl : i < xs.length := by have := h.1; omega
    have h2 : (cur.toList.take (n * size))[i]? = xs[i]? := by rw [ht]
    rw [List.getElem?_take_of_lt hi, Array.getElem?_toList] at h2
    rw [h2]
    simp only [List.getD_eq_getElem?_getD, List.getElem?_eq_getElem hl]; rfl

/-- A family of lists of m values each, one behind the other. -/
def famF (m : Nat) (G : Nat → List Value) : Nat → Value := fun i => (G (i / m)).getD (i % m) undef
theorem fam_at (m : Nat) (hm : 0 < m) (G : Nat → List Value) (b j : Nat) (hj : j < m) : famF m G (m * b + j) = (G b).getD j undef := by
  unfold famF
  rw [Nat.mul_add_div hm, Nat.div_eq_of_lt hj, Nat.add_zero, Nat.mul_add_mod, Nat.mod_eq_of_lt hj]
theorem fam_elem (m : Nat) (hm : 0 < m) (G G' : Nat → List Value) (f : Nat → Value) (b : Nat) (h1 : ∀ b', b' ≠ b → G' b' = G b') (h2 : ∀ i, i / m ≠ b → f i = famF m G i) (h3 : ∀ j, j < m → f (m * b + j) = (G' b).getD j undef) (i : Nat) : f i = famF m G' i := by
  by_cases e : i / m = b
  · have hd := Nat.div_add_mod i m
    rw [e] at hd
    have hl := Nat.mod_lt i hm
    rw [← hd, h3 _ hl, fam_at m hm _ _ _ hl]
  · rw [h2 i e]
    unfold famF
    rw [h1 _ e]
theorem fam_set (m : Nat) (hm : 0 < m) (G G' : Nat → List Value) (b j : Nat) (hj : j < m) (v : Value) (h1 : ∀ b', b' ≠ b → G' b' = G b') (h2 : (G b).set j v = G' b) (hl : (G b).length = m) (i : Nat) : upL (famF m G) (m * b + j) [v] i = famF m G' i := by
  refine fam_elem m hm G G' _ b h1 (fun i hi => ?_) (fun k hk => ?_) i
  · rw [upL_one, if_neg]
    intro e
    apply hi
    rw [e, Nat.mul_add_div hm, Nat.div_eq_of_lt hj, Nat.add_zero]
  · rw [upL_one, ← h2]
    by_cases e : k = j
    · subst e
      rw [if_pos rfl, List.getD_eq_getElem?_getD, List.getElem?_set_self (by omega)]; rfl
    · rw [if_neg (by omega), fam_at m hm _ _ _ hk, List.getD_eq_getElem?_getD, List.getD_eq_getElem?_getD, List.getElem?_set_ne (by omega)]

/-- The bytes l lie in block g. -/
def By (w : World) (g : Nat) (l : List Nat) : Prop := Row w g 5 l.length (fun i => byt (l.getD i 0))
theorem By.cell {w : World} {g : Nat} {l : List Nat} (h : By w g l) (i : Nat) (hi : i < l.length) : w.cell? ⟨g, i, none⟩ = some (.int .u8 (l.getD i 0 : Nat)) := Row.cell h i hi
theorem By.held {w : World} {g : Nat} {l : List Nat} (h : By w g l) (n cap : Nat) (hn : n = l.length) : Held w (.slice (some ⟨g, 0, none⟩) n cap) l := by
  subst hn
  exact ⟨_, cap, rfl, Or.inr ⟨g, 0, rfl, Row.lt h, fun i hi => by rw [Nat.zero_add]; exact h.cell i hi⟩⟩
theorem By.store {w : World} {g : Nat} {l : List Nat} (h : By w g l) (i v : Nat) (hi : i < l.length) : By (w.setCell ⟨g, i, none⟩ (.int .u8 (v : Int))) g (l.set i v) := by
  unfold By
  rw [List.length_set]
  refine (Row.setCell h i _).ext fun k hk => ?_
  rw [upL_one]
  by_cases e : k = i
  · subst e
    rw [if_pos rfl, List.getD_eq_getElem?_getD, List.getElem?_set_self hi]; rfl
  · rw [if_neg e, List.getD_eq_getElem?_getD, List.getD_eq_getElem?_getD, List.getElem?_set_ne (by omega)]
theorem Arr.by {w : World} {g : Nat} {l : List Nat} (h : Arr w g 5 l) : By w g l :=
  ⟨bcells l, h, by rw [bcells_size]; omega, fun i hi => bcells_at l i hi⟩
theorem Own.by {w : World} {base : Nat} {v : Value} {l : List Nat} (h : Own w base 5 v l) (h0 : l.length ≠ 0) : ∃ g cap, v = .slice (some ⟨g, 0, none⟩) l.length cap ∧ base ≤ g ∧ g < w.heap.size ∧ By w g l := by
  obtain ⟨g, cap, h1, h2, h3, h4⟩ := ownsRow_row h h0
  refine ⟨g, cap, h1, h2, h3, ?_⟩
  rw [Nat.mul_one] at h4
  exact h4.ext fun i hi => by
    rw [List.getD_eq_getElem?_getD, List.getElem?_map, List.getElem?_eq_getElem hi, List.getD_eq_getElem?_getD, List.getElem?_eq_getElem hi]; rfl

/-- n cells of f from o on. -/
def part (f : Nat → Value) (o n : Nat) : List Value := (List.range n).map fun i => f (o + i)
theorem part_length (f : Nat → Value) (o n : Nat) : (part f o n).length = n := by simp [part]
theorem part_at (f : Nat → Value) (o n j : Nat) (h : j < n) : (part f o n)[j]? = some (f (o + j)) := by simp [part, h]
theorem part_seg (f : Nat → Value) (o n : Nat) : Seg f o (part f o n) := fun j v hv => by
  have hj : j < n := by have := (List.getElem?_eq_some_iff.1 hv).1; rw [part_length] at this; exact this
  rw [part_at f o n j hj] at hv
  exact Option.some.inj hv
theorem upL_part (f f' : Nat → Value) (o n i : Nat) : upL f' o (part f o n) i = if o ≤ i ∧ i < o + n then f i else f' i := by
  unfold upL
  rw [part_length]
  by_cases h : o ≤ i ∧ i < o + n
  · rw [if_pos h, if_pos h, List.getD_eq_getElem?_getD, part_at _ _ _ _ (by omega), show o + (i - o) = i from by omega]; rfl
  · rw [if_neg h, if_neg h]
theorem blk_new (w : World) (cs : Array Value) (t : TypeId) (n : Nat) (h : cs.size = n) : Sto (w.alloc (.cells cs t)) w.heap.size t n (fun i => cs[i]?.getD undef) :=
  ⟨cs, by show (w.heap.push _)[w.heap.size]? = _; simp, h, fun i hi => by
    have e : cs[i]? = some cs[i] := Array.getElem?_eq_getElem (by omega)
    simp only [e]; rfl⟩
theorem Chg.fresh {u w w' : World} {g : Nat} (h : Chg (fun _ => False) u w) (h2 : Chg (· = g) w w') (hg : u.heap.size ≤ g) : Chg (fun _ => False) u w' := h.trans' h2 (fun i hi e => by omega)
theorem range_src {w : World} {g o : Nat} {cs : List Value} (h : w.rangeAt g o cs) : ∀ j v, cs[j]? = some v → w.cell? ((⟨g, o, none⟩ : Addr).add j) = some v := fun j v hv => by rw [Addr.add_mid]; exact h j v hv
end Go.Proofs.Ythpjdnfalecbeaa
