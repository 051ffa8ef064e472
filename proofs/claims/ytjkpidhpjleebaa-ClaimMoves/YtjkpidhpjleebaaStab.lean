/-
  Stable rearrangements of a part of an array: turned parts, insertion, merging. No condition: lemmas.
-/
import Derived.Sort.LotA
namespace Go.Proofs.Ytjkpidhpjleebaa
open Go.Sort
set_option linter.unusedSectionVars false
variable {α : Type} [Inhabited α]

/-- The elements from a up to b. -/
def sg (d : Array α) (a b : Nat) : List α := (List.range' a (b - a)).map fun i => d[i]!
theorem sg_length (d : Array α) (a b : Nat) : (sg d a b).length = b - a := by simp [sg]
theorem sg_get (d : Array α) (a b i : Nat) (h : i < b - a) : (sg d a b)[i]? = some d[a + i]! := by
  simp [sg, h]
theorem sg_ext {d e : Array α} {a b a' b' : Nat} (hl : b - a = b' - a') (h : ∀ i, i < b - a → d[a + i]! = e[a' + i]!) : sg d a b = sg e a' b' := by
  apply List.ext_getElem?
  intro i
  by_cases hi : i < b - a
  · rw [sg_get d a b i hi, sg_get e a' b' i (by omega), h i hi]
  · rw [List.getElem?_eq_none (by rw [sg_length]; omega), List.getElem?_eq_none (by rw [sg_length]; omega)]
theorem sg_append (d : Array α) (a m b : Nat) (h1 : a ≤ m) (h2 : m ≤ b) : sg d a b = sg d a m ++ sg d m b := by
  apply List.ext_getElem?
  intro i
  by_cases hi : i < m - a
  · rw [sg_get d a b i (by omega), List.getElem?_append_left (by rw [sg_length]; omega), sg_get d a m i hi]
  · rw [List.getElem?_append_right (by rw [sg_length]; omega), sg_length]
    by_cases hb : i < b - a
    · rw [sg_get d a b i hb, sg_get d m b (i - (m - a)) (by omega), show m + (i - (m - a)) = a + i by omega]
    · rw [List.getElem?_eq_none (by rw [sg_length]; omega), List.getElem?_eq_none (by rw [sg_length]; omega)]
theorem mem_sg {d : Array α} {a b : Nat} {x : α} : x ∈ sg d a b ↔ ∃ i, a ≤ i ∧ i < b ∧ d[i]! = x := by
  constructor
  · intro h
    obtain ⟨i, hi, rfl⟩ := List.mem_map.1 h
    rw [List.mem_range'_1] at hi
    exact ⟨i, hi.1, by omega, rfl⟩
  · rintro ⟨i, h1, h2, rfl⟩
    exact List.mem_map.2 ⟨i, by rw [List.mem_range'_1]; omega, rfl⟩
theorem sg_all (d : Array α) : sg d 0 d.size = d.toList := by
  apply List.ext_getElem?
  intro i
  by_cases hi : i < d.size
  · rw [sg_get d 0 d.size i (by omega), Nat.zero_add, Array.getElem?_toList, Array.getElem?_eq_getElem hi, getElem!_pos d i hi]
  · rw [List.getElem?_eq_none (by rw [sg_length]; omega), List.getElem?_eq_none (by simp; omega)]

/-- Neither is less. -/
def eqv (lt : α → α → Bool) (x y : α) : Bool := !lt x y && !lt y x
variable {lt : α → α → Bool}
theorem eqv_self (h : SWO lt) (x : α) : eqv lt x x = true := by simp [eqv, h.irrefl]
theorem eqv_lt (h : SWO lt) {x y z : α} (h1 : eqv lt x y = true) (h2 : eqv lt x z = true) : lt y z = false := by
  simp only [eqv, Bool.and_eq_true, Bool.not_eq_true'] at h1 h2
  exact h.ntrans _ _ _ h1.2 h2.1
/-- d' is d, but for the places from a up to b; there those that are alike stand in the order in which they stood. -/
structure Stb (lt : α → α → Bool) (a b : Nat) (d d' : Array α) : Prop where
  size : d'.size = d.size
  out : ∀ i, i < a ∨ b ≤ i → d'[i]! = d[i]!
  flt : ∀ x, (sg d' a b).filter (eqv lt x) = (sg d a b).filter (eqv lt x)
theorem Stb.refl (a b : Nat) (d : Array α) : Stb lt a b d d := ⟨rfl, fun _ _ => rfl, fun _ => rfl⟩
theorem Stb.trans {a b : Nat} {d e f : Array α} (h : Stb lt a b d e) (k : Stb lt a b e f) : Stb lt a b d f :=
  ⟨k.size.trans h.size, fun i hi => (k.out i hi).trans (h.out i hi), fun x => (k.flt x).trans (h.flt x)⟩
theorem Stb.mono {a b a' b' : Nat} {d e : Array α} (h : Stb lt a b d e) (ha : a' ≤ a) (hb : b ≤ b') (hab : a ≤ b) : Stb lt a' b' d e := by
  refine ⟨h.size, fun i hi => h.out i (by omega), fun x => ?_⟩
  rw [sg_append e a' a b' ha (by omega), sg_append e a b b' hab hb, sg_append d a' a b' ha (by omega), sg_append d a b b' hab hb]
  simp only [List.filter_append]
  rw [h.flt x, sg_ext (d := e) (e := d) (a := a') (b := a) rfl (fun i hi => h.out _ (by omega)), sg_ext (d := e) (e := d) (a := b) (b := b') rfl (fun i hi => h.out _ (by omega))]
theorem Stb.mem (hS : SWO lt) {a b : Nat} {d e : Array α} (h : Stb lt a b d e) {x : α} (hx : x ∈ sg e a b) : x ∈ sg d a b := by
  have : x ∈ (sg e a b).filter (eqv lt x) := List.mem_filter.2 ⟨hx, eqv_self hS x⟩
  rw [h.flt x] at this
  exact (List.mem_filter.1 this).1
/-- What holds of all of them holds of all of them. -/
theorem Stb.all (hS : SWO lt) {a b : Nat} {d e : Array α} (h : Stb lt a b d e) {p : α → Prop} (hp : ∀ i, a ≤ i → i < b → p d[i]!) (i : Nat) (h1 : a ≤ i) (h2 : i < b) : p e[i]! := by
  obtain ⟨j, j1, j2, e1⟩ := mem_sg.1 (h.mem hS (mem_sg.2 ⟨i, h1, h2, rfl⟩))
  rw [← e1]; exact hp j j1 j2
/-- The parts from a to m and from m to b change places. -/
def rot (d : Array α) (a m b : Nat) : Array α := (Array.range d.size).map fun i => if a ≤ i ∧ i < a + (b - m) then d[i + (m - a)]! else if a + (b - m) ≤ i ∧ i < b then d[i - (b - m)]! else d[i]!
theorem rot_size (d : Array α) (a m b : Nat) : (rot d a m b).size = d.size := by simp [rot]
theorem rot_get (d : Array α) (a m b i : Nat) (h : i < d.size) : (rot d a m b)[i]! = if a ≤ i ∧ i < a + (b - m) then d[i + (m - a)]! else if a + (b - m) ≤ i ∧ i < b then d[i - (b - m)]! else d[i]! := by
  rw [getElem!_pos (rot d a m b) i (by rw [rot_size]; exact h)]
  simp [rot]
theorem get_none (d : Array α) (i : Nat) (h : d.size ≤ i) : d[i]! = default := by
  rw [getElem!_neg d i (by omega)]
theorem rot_out (d : Array α) (a m b i : Nat) (hm : m ≤ b) (ha : a ≤ m) (h : i < a ∨ b ≤ i) : (rot d a m b)[i]! = d[i]! := by
  by_cases hi : i < d.size
  · rw [rot_get d a m b i hi, if_neg (by omega), if_neg (by omega)]
  · rw [get_none _ _ (by rw [rot_size]; omega), get_none _ _ (by omega)]
theorem ext! {d e : Array α} (hs : d.size = e.size) (h : ∀ i, i < d.size → d[i]! = e[i]!) : d = e :=
  Array.ext hs fun t h1 h2 => by have := h t h1; rwa [getElem!_pos d t h1, getElem!_pos e t h2] at this
theorem rot_none (d : Array α) (a b : Nat) (_h : a ≤ b) : rot d a b b = d := by
  refine ext! (rot_size ..) fun i hi => ?_
  rw [rot_size] at hi
  rw [rot_get d a b b i hi]
  by_cases h1 : a ≤ i ∧ i < b
  · rw [if_neg (by omega), if_pos (by omega), Nat.sub_self, Nat.sub_zero]
  · rw [if_neg (by omega), if_neg (by omega)]
theorem rot_none' (d : Array α) (a b : Nat) (_h : a ≤ b) : rot d a a b = d := by
  refine ext! (rot_size ..) fun i hi => ?_
  rw [rot_size] at hi
  rw [rot_get d a a b i hi]
  by_cases h1 : a ≤ i ∧ i < b
  · rw [if_pos (by omega), Nat.sub_self, Nat.add_zero]
  · rw [if_neg (by omega), if_neg (by omega)]
theorem sg_rot1 (d : Array α) (a m b : Nat) (h1 : a ≤ m) (h2 : m ≤ b) (hb : b ≤ d.size) : sg (rot d a m b) a (a + (b - m)) = sg d m b := by
  refine sg_ext (by omega) fun i hi => ?_
  rw [rot_get d a m b _ (by omega), if_pos (by omega), show a + i + (m - a) = m + i by omega]
theorem sg_rot2 (d : Array α) (a m b : Nat) (h1 : a ≤ m) (h2 : m ≤ b) (hb : b ≤ d.size) : sg (rot d a m b) (a + (b - m)) b = sg d a m := by
  refine sg_ext (by omega) fun i hi => ?_
  rw [rot_get d a m b _ (by omega), if_neg (by omega), if_pos (by omega), show a + (b - m) + i - (b - m) = a + i by omega]
theorem rot_stb (hS : SWO lt) (d : Array α) (a m b : Nat) (h1 : a ≤ m) (h2 : m ≤ b) (hb : b ≤ d.size) (h : ∀ x y, a ≤ x → x < m → m ≤ y → y < b → lt d[y]! d[x]! = true) : Stb lt a b d (rot d a m b) := by
  refine ⟨rot_size .., fun i hi => rot_out d a m b i h2 h1 hi, fun x => ?_⟩
  rw [sg_append _ a (a + (b - m)) b (by omega) (by omega), sg_rot1 d a m b h1 h2 hb, sg_rot2 d a m b h1 h2 hb, sg_append d a m b h1 h2]
  simp only [List.filter_append]
  by_cases hA : (sg d a m).filter (eqv lt x) = []
  · rw [hA]; simp
  · have hB : (sg d m b).filter (eqv lt x) = [] := by
      rw [List.filter_eq_nil_iff]
      intro v hv hx
      obtain ⟨u, hu⟩ := List.exists_mem_of_ne_nil _ hA
      obtain ⟨hu1, hu2⟩ := List.mem_filter.1 hu
      obtain ⟨i, i1, i2, rfl⟩ := mem_sg.1 hu1
      obtain ⟨j, j1, j2, rfl⟩ := mem_sg.1 hv
      have := eqv_lt hS hx hu2
      rw [h i j i1 i2 j1 j2] at this
      cases this
    rw [hB]; simp
theorem swp_rot (d : Array α) (j : Nat) (h : j + 1 < d.size) : swp d (j + 1) j = rot d j (j + 1) (j + 2) := by
  refine ext! (by rw [swp_size, rot_size]) fun i hi => ?_
  rw [swp_size] at hi
  rw [swp_get d h (by omega), rot_get d _ _ _ i hi]
  by_cases h1 : i = j
  · subst h1; rw [if_pos rfl, if_pos (by omega)]; congr 1; omega
  · rw [if_neg h1]
    by_cases h2 : i = j + 1
    · subst h2; rw [if_pos rfl, if_neg (by omega), if_pos (by omega)]; congr 1; omega
    · rw [if_neg h2, if_neg (by omega), if_neg (by omega)]
/-- Insertion. -/
theorem insInner_stb (hS : SWO lt) (a i : Nat) : ∀ (j : Nat) (d : Array α), j ≤ i → i < d.size → a ≤ i → Stb lt a (i + 1) d (insInner lt a j d)
  | 0, d, _, _, _ => by rw [insInner]; exact Stb.refl ..
  | j + 1, d, hj, hi, ha => by
    rw [insInner]
    by_cases h : (j + 1 > a && lt d[j + 1]! d[j]!) = true
    · rw [if_pos h]
      simp only [Bool.and_eq_true, decide_eq_true_eq] at h
      have h1 : Stb lt j (j + 2) d (swp d (j + 1) j) := by
        rw [swp_rot d j (by omega)]
        refine rot_stb hS d j (j + 1) (j + 2) (by omega) (by omega) (by omega) fun x y x1 x2 y1 y2 => ?_
        rw [show x = j by omega, show y = j + 1 by omega]; exact h.2
      exact (h1.mono (by omega) (by omega) (by omega)).trans (insInner_stb hS a i j _ (by omega) (by rw [swp_size]; exact hi) ha)
    · rw [if_neg h]; exact Stb.refl ..
theorem insInner_size (lt : α → α → Bool) (a : Nat) : ∀ (j : Nat) (d : Array α), (insInner lt a j d).size = d.size
  | 0, d => by rw [insInner]
  | j + 1, d => by
    rw [insInner]
    split
    · rw [insInner_size lt a j, swp_size]
    · rfl
theorem insOuter_stb (hS : SWO lt) (a b : Nat) : ∀ (n i : Nat) (d : Array α), b - i = n → a ≤ i → b ≤ d.size → a ≤ b → Stb lt a b d (insOuter lt a b i d) := by
  intro n
  induction n with
  | zero => intro i d h _ _ _; rw [insOuter, if_neg (by omega)]; exact Stb.refl ..
  | succ n ih =>
    intro i d h ha hb hab
    rw [insOuter, if_pos (by omega)]
    exact ((insInner_stb hS a i i d (Nat.le_refl _) (by omega) ha).mono (Nat.le_refl _) (by omega) (by omega)).trans (ih (i + 1) _ (by omega) (by omega) (by rw [insInner_size]; exact hb) hab)
theorem insertion_stb (hS : SWO lt) (d : Array α) (a b : Nat) (hab : a ≤ b) (hb : b ≤ d.size) : Stb lt a b d (insertionSort lt d a b) ∧ SortedIn lt a b (insertionSort lt d a b) :=
  ⟨insOuter_stb hS a b _ (a + 1) d rfl (by omega) hb hab, (insertionSort_holds (lt := lt) hS d a b hab hb).2⟩
theorem lt_of_le (h : SWO lt) {x y z : α} (h1 : lt x y = true) (h2 : lt z y = false) : lt x z = true := by
  cases e : lt x z with
  | true => rfl
  | false => rw [h.ntrans _ _ _ e h2] at h1; cases h1
theorem lt_of_le' (h : SWO lt) {x y z : α} (h1 : lt x y = true) (h2 : lt x z = false) : lt z y = true := by
  cases e : lt z y with
  | true => rfl
  | false => rw [h.ntrans _ _ _ h2 e] at h1; cases h1
/-- Two parts that are in order, the second nowhere less than the first. -/
theorem SortedIn.join {d : Array α} {a m b : Nat} (h1 : SortedIn lt a m d) (h2 : SortedIn lt m b d) (h : ∀ i j, a ≤ i → i < m → m ≤ j → j < b → lt d[j]! d[i]! = false) : SortedIn lt a b d := by
  intro i j hi hij hj
  by_cases e : j < m
  · exact h1 i j hi hij e
  · by_cases f : i < m
    · exact h i j hi f (by omega) hj
    · exact h2 i j (by omega) hij hj
theorem SortedIn.part {d : Array α} {a b a' b' : Nat} (h : SortedIn lt a b d) (ha : a ≤ a') (hb : b' ≤ b) : SortedIn lt a' b' d := fun i j h1 h2 h3 => h i j (by omega) h2 (by omega)
theorem SortedIn.le {d : Array α} {a b : Nat} (hS : SWO lt) (h : SortedIn lt a b d) (i j : Nat) (h1 : a ≤ i) (h2 : i ≤ j) (h3 : j < b) : lt d[j]! d[i]! = false := by
  by_cases e : i = j
  · subst e; exact hS.irrefl _
  · exact h i j h1 (by omega) h3
/-- The same part, moved. -/
theorem SortedIn.of_sg {d e : Array α} {a b a' b' : Nat} (h : SortedIn lt a b d) (hs : sg e a' b' = sg d a b) : SortedIn lt a' b' e := by
  intro i j h1 h2 h3
  have hl : b' - a' = b - a := by have := congrArg List.length hs; simpa [sg_length] using this
  have g : ∀ t, t < b' - a' → e[a' + t]! = d[a + t]! := fun t ht => by
    have := congrArg (·[t]?) hs
    simp only [sg_get e a' b' t ht, sg_get d a b t (by omega), Option.some.injEq] at this
    exact this
  have gi := g (i - a') (by omega)
  have gj := g (j - a') (by omega)
  rw [show a' + (i - a') = i by omega] at gi
  rw [show a' + (j - a') = j by omega] at gj
  rw [gi, gj]
  exact h _ _ (by omega) (by omega) (by omega)
theorem SortedIn.stb {d e : Array α} {a b p q : Nat} (h : SortedIn lt a b d) (hs : Stb lt p q d e) (ho : b ≤ p ∨ q ≤ a) : SortedIn lt a b e := by
  intro i j h1 h2 h3
  rw [hs.out i (by omega), hs.out j (by omega)]
  exact h i j h1 h2 h3
/-- One element goes up to its place. -/
theorem up_one (hS : SWO lt) (d : Array α) (a i b : Nat) (h1 : a + 1 ≤ i) (h2 : i ≤ b) (hb : b ≤ d.size) (hs : SortedIn lt (a + 1) b d) (hl : ∀ t, a + 1 ≤ t → t < i → lt d[t]! d[a]! = true) (hr : ∀ t, i ≤ t → t < b → lt d[t]! d[a]! = false) :
    Stb lt a b d (rot d a (a + 1) i) ∧ SortedIn lt a b (rot d a (a + 1) i) := by
  have st : Stb lt a i d (rot d a (a + 1) i) := rot_stb hS d a (a + 1) i (by omega) h1 (by omega) fun x y x1 x2 y1 y2 => by
    rw [show x = a by omega]; exact hl y y1 y2
  refine ⟨st.mono (Nat.le_refl _) h2 (by omega), ?_⟩
  have e1 : sg (rot d a (a + 1) i) a (i - 1) = sg d (a + 1) i := by
    have := sg_rot1 d a (a + 1) i (by omega) h1 (by omega)
    rwa [show a + (i - (a + 1)) = i - 1 by omega] at this
  have hla : ∀ t, a ≤ t → t < i - 1 → (rot d a (a + 1) i)[t]! = d[t + 1]! := fun t t1 t2 => by
    rw [rot_get d a (a + 1) i t (by omega), if_pos (by omega), show t + (a + 1 - a) = t + 1 by omega]
  have hlb : (rot d a (a + 1) i)[i - 1]! = d[a]! := by
    rw [rot_get d a (a + 1) i (i - 1) (by omega), if_neg (by omega), if_pos (by omega)]; congr 1; omega
  intro p q p1 p2 p3
  by_cases q1 : q < i - 1
  · rw [hla p p1 (by omega), hla q (by omega) q1]; exact hs _ _ (by omega) (by omega) (by omega)
  · by_cases q2 : q = i - 1
    · subst q2
      rw [hla p p1 (by omega), hlb]; exact hS.asymmA (hl _ (by omega) (by omega))
    · rw [rot_out d a (a + 1) i q h1 (by omega) (by omega)]
      by_cases q3 : p < i - 1
      · rw [hla p p1 q3]; exact hs _ _ (by omega) (by omega) (by omega)
      · by_cases q4 : p = i - 1
        · subst q4; rw [hlb]; exact hr q (by omega) p3
        · rw [rot_out d a (a + 1) i p h1 (by omega) (by omega)]; exact hs _ _ (by omega) p2 p3
/-- One element goes down to its place. -/
theorem down_one (hS : SWO lt) (d : Array α) (a i m : Nat) (h1 : a ≤ i) (h2 : i ≤ m) (hb : m < d.size) (hs : SortedIn lt a m d) (hl : ∀ t, a ≤ t → t < i → lt d[m]! d[t]! = false) (hr : ∀ t, i ≤ t → t < m → lt d[m]! d[t]! = true) :
    Stb lt a (m + 1) d (rot d i m (m + 1)) ∧ SortedIn lt a (m + 1) (rot d i m (m + 1)) := by
  have st : Stb lt i (m + 1) d (rot d i m (m + 1)) := rot_stb hS d i m (m + 1) h2 (by omega) (by omega) fun x y x1 x2 y1 y2 => by
    rw [show y = m by omega]; exact hr x x1 x2
  refine ⟨st.mono h1 (Nat.le_refl _) (by omega), ?_⟩
  have hla : (rot d i m (m + 1))[i]! = d[m]! := by
    rw [rot_get d i m (m + 1) i (by omega), if_pos (by omega)]; congr 1; omega
  have hlb : ∀ t, i < t → t < m + 1 → (rot d i m (m + 1))[t]! = d[t - 1]! := fun t t1 t2 => by
    rw [rot_get d i m (m + 1) t (by omega), if_neg (by omega), if_pos (by omega)]; congr 1; omega
  have hlo : ∀ t, t < i → (rot d i m (m + 1))[t]! = d[t]! := fun t t1 => rot_out d i m (m + 1) t (by omega) h2 (Or.inl t1)
  intro p q p1 p2 p3
  by_cases q1 : q < i
  · rw [hlo p (by omega), hlo q q1]; exact hs _ _ p1 p2 (by omega)
  · by_cases q2 : q = i
    · subst q2; rw [hla, hlo p p2]; exact hl p p1 p2
    · rw [hlb q (by omega) p3]
      by_cases q3 : p < i
      · rw [hlo p q3]; exact hs _ _ p1 (by omega) (by omega)
      · by_cases q4 : p = i
        · subst q4; rw [hla]; exact hS.asymmA (hr _ (by omega) (by omega))
        · rw [hlb p (by omega) (by omega)]; exact hs _ _ (by omega) (by omega) (by omega)
end Go.Proofs.Ytjkpidhpjleebaa
