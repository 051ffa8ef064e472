/-
  Three rows of twelve ints in one block. No condition: lemmas.
-/
import Derived.Test.YtmicfipanpdjbaaPick
import Derived.Test.YtmicfipanpdjbaaIn
namespace Go.Proofs.Ytmicfipanpdjbaa
set_option maxRecDepth 100000
open Go.RowKit

def cel (A B C : Nat → Int) : Nat → Int := fun i => if i < 12 then A i else if i < 24 then B (i - 12) else C (i - 24)
theorem cel_a {A B C : Nat → Int} {i : Nat} (h : i < 12) : cel A B C i = A i := by unfold cel; rw [if_pos h]
theorem cel_b {A B C : Nat → Int} {i : Nat} (h : i < 12) : cel A B C (12 + i) = B i := by
  unfold cel; rw [if_neg (by omega), if_pos (by omega), show 12 + i - 12 = i by omega]
theorem cel_c {A B C : Nat → Int} {i : Nat} : cel A B C (24 + i) = C i := by
  unfold cel; rw [if_neg (by omega), if_neg (by omega), show 24 + i - 24 = i by omega]
def HB (w : World) (b : Nat) (t : TypeId) (A B C : Nat → Int) : Prop := IB w b t 36 (cel A B C)
section
variable {w w' : World} {b : Nat} {t : TypeId} {A B C : Nat → Int}
theorem HB.lt (h : HB w b t A B C) : b < w.heap.size := IB.lt h
theorem HB.chg {S : Nat → Prop} (h : HB w b t A B C) (hc : Chg S w w') (hb : ¬ S b) : HB w' b t A B C := IB.chg h hc hb
theorem HB.drewN (h : HB w b t A B C) (m : Nat) : HB (w.drewN m) b t A B C := h
theorem HB.drew (h : HB w b t A B C) : HB w.drew b t A B C := h
theorem HB.ca (h : HB w b t A B C) (i : Nat) (hi : i < 12) : w.cell? ⟨b, i, none⟩ = some (.int .i64 (A i)) ∧ w.frozen? ⟨b, i, none⟩ = false := by
  have := IB.cell h i (by omega)
  rw [cel_a hi] at this
  exact this
theorem HB.cb (h : HB w b t A B C) (i : Nat) (hi : i < 12) : w.cell? ⟨b, 12 + i, none⟩ = some (.int .i64 (B i)) ∧ w.frozen? ⟨b, 12 + i, none⟩ = false := by
  have := IB.cell h (12 + i) (by omega)
  rw [cel_b hi] at this
  exact this
theorem HB.cc (h : HB w b t A B C) (i : Nat) (hi : i < 12) : w.cell? ⟨b, 24 + i, none⟩ = some (.int .i64 (C i)) ∧ w.frozen? ⟨b, 24 + i, none⟩ = false := by
  have := IB.cell h (24 + i) (by omega)
  rw [cel_c] at this
  exact this
theorem HB.congr {A' B' C' : Nat → Int} (h : HB w b t A B C) (ea : ∀ i, i < 12 → A i = A' i) (eb : ∀ i, i < 12 → B i = B' i) (ec : ∀ i, i < 12 → C i = C' i) : HB w b t A' B' C' :=
  IB.congr h fun i hi => by
    unfold cel
    split
    · exact ea i (by omega)
    · split
      · exact eb _ (by omega)
      · exact ec _ (by omega)
theorem HB.setA (h : HB w b t A B C) (i : Nat) (hi : i < 12) (z : Int) : HB (w.setCell ⟨b, i, none⟩ (.int .i64 z)) b t (upd A i z) B C :=
  (IB.set h i z).congr fun j hj => by
    simp only [cel, upd]
    by_cases e : j = i
    · rw [if_pos e, if_pos (by omega), if_pos e]
    · rw [if_neg e]
      split
      · rfl
      · rfl
theorem HB.setB (h : HB w b t A B C) (i : Nat) (hi : i < 12) (z : Int) : HB (w.setCell ⟨b, 12 + i, none⟩ (.int .i64 z)) b t A (upd B i z) C :=
  (IB.set h (12 + i) z).congr fun j hj => by
    simp only [cel, upd]
    by_cases e : j = 12 + i
    · rw [if_pos e, if_neg (by omega), if_pos (by omega), if_pos (by omega)]
    · rw [if_neg e]
      split
      · rfl
      · split
        · rw [if_neg (by omega)]
        · rfl
theorem HB.setC (h : HB w b t A B C) (i : Nat) (hi : i < 12) (z : Int) : HB (w.setCell ⟨b, 24 + i, none⟩ (.int .i64 z)) b t A B (upd C i z) :=
  (IB.set h (24 + i) z).congr fun j hj => by
    simp only [cel, upd]
    by_cases e : j = 24 + i
    · rw [if_pos e, if_neg (by omega), if_neg (by omega), if_pos (by omega)]
    · rw [if_neg e]
      split
      · rfl
      · split
        · rfl
        · rw [if_neg (by omega)]
theorem HB.partA (h : HB w b t A B C) : w.rangeAt b 0 (ints A 12) := fun j v hv => by
  have hj : j < 12 := by have := (List.getElem?_eq_some_iff.1 hv).1; rwa [ints_length] at this
  rw [Nat.zero_add, (h.ca j hj).1, ← hv, ints_at A 12 j hj]; rfl
theorem HB.partB (h : HB w b t A B C) : w.rangeAt b 12 (ints B 12) := fun j v hv => by
  have hj : j < 12 := by have := (List.getElem?_eq_some_iff.1 hv).1; rwa [ints_length] at this
  rw [(h.cb j hj).1, ← hv, ints_at B 12 j hj]; rfl
theorem HB.partC (h : HB w b t A B C) : w.rangeAt b 24 (ints C 12) := fun j v hv => by
  have hj : j < 12 := by have := (List.getElem?_eq_some_iff.1 hv).1; rwa [ints_length] at this
  rw [(h.cc j hj).1, ← hv, ints_at C 12 j hj]; rfl
theorem IB.there {n : Nat} {F : Nat → Int} (h : IB w b t n F) (o m : Nat) (hn : o + m ≤ n) : w.there b o m := fun j hj => by
  obtain ⟨c, f⟩ := h.cell (o + j) (by omega)
  exact ⟨by rw [c]; rfl, f⟩
/-- F, but the ints of l from o on. -/
def updL (F : Nat → Int) (o : Nat) (l : List Int) : Nat → Int := fun j => if o ≤ j ∧ j < o + l.length then l.getD (j - o) 0 else F j
end
theorem IB.setL {b n : Nat} {t : TypeId} : ∀ (l : List Int) (o : Nat) {w : World} {F : Nat → Int} (_ : IB w b t n F), IB (w.setCells b o (l.map i6)) b t n (updL F o l)
  | [], o, w, F, h => by
    have e : updL F o [] = F := by
      funext j
      unfold updL
      rw [if_neg (by simp)]
    rw [e]; simpa [World.setCells] using h
  | x :: r, o, w, F, h => by
    simp only [List.map_cons, World.setCells]
    refine (IB.setL r (o + 1) (h.set o x)).congr fun j _ => ?_
    unfold updL upd
    simp only [List.length_cons]
    by_cases e : j = o
    · rw [if_neg (by omega), if_pos e, if_pos (by omega), show j - o = 0 by omega]; rfl
    · by_cases h2 : o + 1 ≤ j ∧ j < o + 1 + r.length
      · rw [if_pos h2, if_pos (by omega), show j - o = (j - (o + 1)) + 1 by omega]; rfl
      · rw [if_neg h2, if_neg e, if_neg (by omega)]
theorem IB.setI {w : World} {b n : Nat} {t : TypeId} {F : Nat → Int} (h : IB w b t n F) (o m : Nat) (G : Nat → Int) : IB (w.setCells b o (ints G m)) b t n (fun j => if o ≤ j ∧ j < o + m then G (j - o) else F j) := by
  have h1 := IB.setL ((List.range m).map G) o h
  have e : ((List.range m).map G).map i6 = ints G m := by simp [ints]
  rw [e] at h1
  refine h1.congr fun j _ => ?_
  unfold updL
  simp only [List.length_map, List.length_range]
  split
  · rename_i hh
    rw [List.getD_eq_getElem?_getD, List.getElem?_map, List.getElem?_range (by omega)]; rfl
  · rfl
section
variable {w w' : World} {b : Nat} {t : TypeId} {A B C : Nat → Int}
theorem HB.rowB (h : HB w b t A B C) (G : Nat → Int) : HB (w.setCells b 12 (ints G 12)) b t A G C :=
  (IB.setI h 12 12 G).congr fun j hj => by
    unfold cel
    by_cases h1 : j < 12
    · rw [if_neg (by omega), if_pos h1, if_pos h1]
    · by_cases h2 : j < 24
      · rw [if_pos (by omega), if_neg h1, if_pos h2]
      · rw [if_neg (by omega), if_neg h1, if_neg h2, if_neg h1, if_neg h2]
theorem HB.rowC (h : HB w b t A B C) (G : Nat → Int) : HB (w.setCells b 24 (ints G 12)) b t A B G :=
  (IB.setI h 24 12 G).congr fun j hj => by
    unfold cel
    by_cases h1 : j < 12
    · rw [if_neg (by omega), if_pos h1, if_pos h1]
    · by_cases h2 : j < 24
      · rw [if_neg (by omega), if_neg h1, if_pos h2, if_neg h1, if_pos h2]
      · rw [if_pos (by omega), if_neg h1, if_neg h2]
theorem Chg.setCells {S : Nat → Prop} {u : World} {g : Nat} (hg : S g ∨ u.heap.size ≤ g) : ∀ (vs : List Value) (o : Nat) {w : World} (_ : Chg S u w), Chg S u (w.setCells g o vs)
  | [], _, _, h => h
  | v :: vs, o, _, h => Chg.setCells hg vs (o + 1) (h.setCell hg o v)
end
theorem size39 : (Try.prog.info? 39).map (·.size) = some 12 := by kernel_rfl
theorem size3 : (Try.prog.info? 3).map (·.size) = some 1 := by kernel_rfl
/-- Twelve ints loaded whole. -/
theorem wpList_load_12 {ops : Array Oper} {rest : List Oper} {op : Oper} {a : Act} {w : World} {Q : Exit → Act → World → Prop} (hgd : op.guard = none) (x : Operand) (ho : op.op = .load 39 x) (b o : Nat) (hx : a.eval x = .pointer (some ⟨b, o, none⟩)) (F : Nat → Int) (hc : w.rangeAt b o (ints F 12))
    (h : wpList Try.prog ops Q rest (a.put op.dst (.agg (ints F 12).toArray)) w) : wpList Try.prog ops Q (op :: rest) a w := by
  refine wpList_load_mid hgd 39 x ho b o hx (ints F 12) _ hc Try.underlying39 rfl (by rw [ints_length]; exact size39) h
/-- Twelve ints stored whole. -/
theorem wpList_store_12 {ops : Array Oper} {rest : List Oper} {op : Oper} {a : Act} {w : World} {Q : Exit → Act → World → Prop} (hgd : op.guard = none) (x y : Operand) (ho : op.op = .store 39 x y) (b o : Nat) (F : Nat → Int) (hx : a.eval x = .pointer (some ⟨b, o, none⟩)) (hy : a.eval y = .agg (ints F 12).toArray) (ht : w.there b o 12)
    (h : wpList Try.prog ops Q rest (a.put op.dst undef) (w.setCells b o (ints F 12))) : wpList Try.prog ops Q (op :: rest) a w := by
  refine wpList_store_mid hgd 39 x y ho b o (ints F 12).toArray hx hy (by simpa [ints_length] using ht) (by simpa [ints_length] using size39) (all_oneCell_toArray (ints_one F 12)) ?_
  simpa using h
end Go.Proofs.Ytmicfipanpdjbaa
