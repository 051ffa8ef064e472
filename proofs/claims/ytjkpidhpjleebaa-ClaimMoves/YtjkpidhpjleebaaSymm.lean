/-
  Ranges that change places, the symmetric merge's halves, runs that grow. No condition: lemmas.
-/
import Derived.Test.YtjkpidhpjleebaaStab
namespace Go.Proofs.Ytjkpidhpjleebaa
open Go.Sort
set_option linter.unusedSectionVars false
variable {α : Type} [Inhabited α] {lt : α → α → Bool}

/-- n elements from p on and n from q on change places. -/
def swr (d : Array α) (p q n : Nat) : Array α := (Array.range d.size).map fun i => if p ≤ i ∧ i < p + n then d[i - p + q]! else if q ≤ i ∧ i < q + n then d[i - q + p]! else d[i]!
theorem swr_size (d : Array α) (p q n : Nat) : (swr d p q n).size = d.size := by simp [swr]
theorem swr_get (d : Array α) (p q n : Nat) (hp : p + n ≤ d.size) (hq : q + n ≤ d.size) (i : Nat) : (swr d p q n)[i]! = if p ≤ i ∧ i < p + n then d[i - p + q]! else if q ≤ i ∧ i < q + n then d[i - q + p]! else d[i]! := by
  by_cases h : i < d.size
  · rw [getElem!_pos (swr d p q n) i (by rw [swr_size]; exact h)]
    simp [swr]
  · rw [get_none _ _ (by rw [swr_size]; omega), if_neg (by omega), if_neg (by omega), get_none _ _ (by omega)]
theorem rot_get' (d : Array α) (a m b : Nat) (ha : a ≤ m) (hm : m ≤ b) (hb : b ≤ d.size) (i : Nat) : (rot d a m b)[i]! = if a ≤ i ∧ i < a + (b - m) then d[i + (m - a)]! else if a + (b - m) ≤ i ∧ i < b then d[i - (b - m)]! else d[i]! := by
  by_cases h : i < d.size
  · exact rot_get d a m b i h
  · rw [get_none _ _ (by rw [rot_size]; omega), if_neg (by omega), if_neg (by omega), get_none _ _ (by omega)]
theorem swr_zero (d : Array α) (p q : Nat) : swr d p q 0 = d := by
  refine ext! (swr_size ..) fun i hi => ?_
  rw [swr_size] at hi
  rw [getElem!_pos (swr d p q 0) i (by rw [swr_size]; exact hi), getElem!_pos d i hi]
  simp only [swr, Array.getElem_map, Array.getElem_range]
  rw [if_neg (by omega), if_neg (by omega), getElem!_pos d i hi]
theorem swr_succ (d : Array α) (p q n : Nat) (h : p + n < q) (hq : q + n < d.size) : swp (swr d p q n) (p + n) (q + n) = swr d p q (n + 1) := by
  refine ext! (by rw [swp_size, swr_size, swr_size]) fun i hi => ?_
  rw [swp_get _ (by rw [swr_size]; omega) (by rw [swr_size]; omega), swr_get d p q (n + 1) (by omega) (by omega), swr_get d p q n (by omega) (by omega), swr_get d p q n (by omega) (by omega), swr_get d p q n (by omega) (by omega)]
  repeat' split
  all_goals first | (exfalso; omega) | rfl | (congr 1; omega)
theorem rot_more (d : Array α) (m i j : Nat) (h : j < i) (hm : i ≤ m) (hb : m + j ≤ d.size) : rot (swr d (m - i) m j) (m - i + j) m (m + j) = rot d (m - i) m (m + j) := by
  refine ext! (by rw [rot_size, rot_size, swr_size]) fun t _ => ?_
  rw [rot_get' _ _ _ _ (by omega) (by omega) (by rw [swr_size]; exact hb), rot_get' _ _ _ _ (by omega) (by omega) hb, swr_get d _ _ _ (by omega) (by omega), swr_get d _ _ _ (by omega) (by omega), swr_get d _ _ _ (by omega) (by omega)]
  repeat' split
  all_goals first | (exfalso; omega) | rfl | (congr 1; omega)
theorem rot_less (d : Array α) (m i j : Nat) (h : i < j) (hm : i ≤ m) (hb : m + j ≤ d.size) : rot (swr d (m - i) (m + j - i) i) (m - i) m (m + j - i) = rot d (m - i) m (m + j) := by
  refine ext! (by rw [rot_size, rot_size, swr_size]) fun t _ => ?_
  rw [rot_get' _ _ _ _ (by omega) (by omega) (by rw [swr_size]; omega), rot_get' _ _ _ _ (by omega) (by omega) hb, swr_get d _ _ _ (by omega) (by omega), swr_get d _ _ _ (by omega) (by omega), swr_get d _ _ _ (by omega) (by omega)]
  repeat' split
  all_goals first | (exfalso; omega) | rfl | (congr 1; omega)
theorem rot_even (d : Array α) (m i : Nat) (hm : i ≤ m) (hb : m + i ≤ d.size) : swr d (m - i) m i = rot d (m - i) m (m + i) := by
  refine ext! (by rw [rot_size, swr_size]) fun t _ => ?_
  rw [rot_get' _ _ _ _ (by omega) (by omega) hb, swr_get d _ _ _ (by omega) (by omega)]
  repeat' split
  all_goals first | (exfalso; omega) | rfl | (congr 1; omega)
/-- One more step up. -/
theorem rot_up (d : Array α) (a k : Nat) (h : a ≤ k) (hb : k + 1 < d.size) : swp (rot d a (a + 1) (k + 1)) k (k + 1) = rot d a (a + 1) (k + 2) := by
  refine ext! (by rw [swp_size, rot_size, rot_size]) fun t _ => ?_
  rw [swp_get _ (by rw [rot_size]; omega) (by rw [rot_size]; omega), rot_get' _ _ _ _ (by omega) (by omega) (by omega), rot_get' _ _ _ _ (by omega) (by omega) (by omega), rot_get' _ _ _ _ (by omega) (by omega) (by omega), rot_get' _ _ _ _ (by omega) (by omega) (by omega)]
  repeat' split
  all_goals first | (exfalso; omega) | rfl | (congr 1; omega)
/-- One more step down. -/
theorem rot_down (d : Array α) (k m : Nat) (h : k < m) (hb : m < d.size) : swp (rot d (k + 1) m (m + 1)) (k + 1) k = rot d k m (m + 1) := by
  refine ext! (by rw [swp_size, rot_size, rot_size]) fun t _ => ?_
  rw [swp_get _ (by rw [rot_size]; omega) (by rw [rot_size]; omega), rot_get' _ _ _ _ (by omega) (by omega) (by omega), rot_get' _ _ _ _ (by omega) (by omega) (by omega), rot_get' _ _ _ _ (by omega) (by omega) (by omega), rot_get' _ _ _ _ (by omega) (by omega) (by omega)]
  repeat' split
  all_goals first | (exfalso; omega) | rfl | (congr 1; omega)
theorem up_end (hS : SWO lt) (d : Array α) (a i b : Nat) (h1 : a + 1 ≤ i) (h2 : i ≤ b) (hb : b ≤ d.size) (hs : SortedIn lt (a + 1) b d) (hl : i = a + 1 ∨ lt d[i - 1]! d[a]! = true) (hr : i = b ∨ lt d[i]! d[a]! = false) :
    Stb lt a b d (rot d a (a + 1) i) ∧ SortedIn lt a b (rot d a (a + 1) i) := by
  refine up_one hS d a i b h1 h2 hb hs (fun t t1 t2 => ?_) (fun t t1 t2 => ?_)
  · rcases hl with hl | hl
    · omega
    · exact lt_of_le' hS hl (SortedIn.le hS hs t (i - 1) t1 (by omega) (by omega))
  · rcases hr with hr | hr
    · omega
    · exact hS.ntrans _ _ _ (SortedIn.le hS hs i t (by omega) t1 t2) hr
theorem down_end (hS : SWO lt) (d : Array α) (a i m : Nat) (h1 : a ≤ i) (h2 : i ≤ m) (hb : m < d.size) (hs : SortedIn lt a m d) (hl : i = a ∨ lt d[m]! d[i - 1]! = false) (hr : i = m ∨ lt d[m]! d[i]! = true) :
    Stb lt a (m + 1) d (rot d i m (m + 1)) ∧ SortedIn lt a (m + 1) (rot d i m (m + 1)) := by
  refine down_one hS d a i m h1 h2 hb hs (fun t t1 t2 => ?_) (fun t t1 t2 => ?_)
  · rcases hl with hl | hl
    · omega
    · exact hS.ntrans _ _ _ hl (SortedIn.le hS hs t (i - 1) t1 (by omega) (by omega))
  · rcases hr with hr | hr
    · omega
    · exact lt_of_le hS hr (SortedIn.le hS hs i t (by omega) t1 t2)
/-- The two halves of the symmetric merge. -/
structure Half (lt : α → α → Bool) (a mid b start end' : Nat) (d e : Array α) : Prop where
  stb : Stb lt a b d e
  p1 : SortedIn lt a start e
  p2 : SortedIn lt start mid e
  p3 : SortedIn lt mid end' e
  p4 : SortedIn lt end' b e
  cross : ∀ i j, a ≤ i → i < mid → mid ≤ j → j < b → lt e[j]! e[i]! = false
theorem sym_mid (hS : SWO lt) (d : Array α) (a m b mid start end' : Nat) (hb : b ≤ d.size) (s1 : SortedIn lt a m d) (s2 : SortedIn lt m b d) (h1 : a ≤ start) (h2 : start ≤ m) (h3 : start + end' = mid + m) (h4 : m ≤ end') (h5 : end' ≤ b)
    (hlo : start = a ∨ end' = b ∨ lt d[end']! d[start - 1]! = false) (hhi : start = m ∨ end' = m ∨ lt d[end' - 1]! d[start]! = true) : Half lt a mid b start end' d (rot d start m end') := by
  have hx : ∀ x y, start ≤ x → x < m → m ≤ y → y < end' → lt d[y]! d[x]! = true := fun x y x1 x2 y1 y2 => by
    rcases hhi with h | h | h
    · omega
    · omega
    · exact lt_of_le hS (lt_of_le' hS h (SortedIn.le hS s2 y (end' - 1) y1 (by omega) (by omega))) (SortedIn.le hS s1 start x h1 x1 x2)
  have hy : ∀ x y, a ≤ x → x < start → end' ≤ y → y < b → lt d[y]! d[x]! = false := fun x y x1 x2 y1 y2 => by
    rcases hlo with h | h | h
    · omega
    · omega
    · exact hS.ntrans _ _ _ (SortedIn.le hS s2 end' y h4 y1 y2) (hS.ntrans _ _ _ h (SortedIn.le hS s1 x (start - 1) x1 (by omega) (by omega)))
  have e1 : ∀ i, i < start → (rot d start m end')[i]! = d[i]! := fun i hi => rot_out d start m end' i h4 h2 (Or.inl hi)
  have e2 : ∀ i, start ≤ i → i < mid → (rot d start m end')[i]! = d[i + (m - start)]! := fun i i1 i2 => by
    rw [rot_get' d start m end' h2 h4 (by omega), if_pos (by omega)]
  have e3 : ∀ i, mid ≤ i → i < end' → (rot d start m end')[i]! = d[i - (end' - m)]! := fun i i1 i2 => by
    rw [rot_get' d start m end' h2 h4 (by omega), if_neg (by omega), if_pos (by omega)]
  have e4 : ∀ i, end' ≤ i → (rot d start m end')[i]! = d[i]! := fun i hi => rot_out d start m end' i h4 h2 (Or.inr hi)
  refine ⟨(rot_stb hS d start m end' h2 h4 (by omega) hx).mono h1 h5 (by omega), ?_, ?_, ?_, ?_, ?_⟩
  · intro i j i1 i2 i3
    rw [e1 i (by omega), e1 j i3]; exact s1 _ _ i1 i2 (by omega)
  · intro i j i1 i2 i3
    rw [e2 i i1 (by omega), e2 j (by omega) i3]; exact s2 _ _ (by omega) (by omega) (by omega)
  · intro i j i1 i2 i3
    rw [e3 i i1 (by omega), e3 j (by omega) i3]; exact s1 _ _ (by omega) (by omega) (by omega)
  · intro i j i1 i2 i3
    rw [e4 i i1, e4 j (by omega)]; exact s2 _ _ (by omega) (by omega) (by omega)
  · intro i j i1 i2 i3 i4
    by_cases c1 : i < start
    · rw [e1 i c1]
      by_cases c2 : j < end'
      · rw [e3 j i3 c2]; exact s1 _ _ i1 (by omega) (by omega)
      · rw [e4 j (by omega)]; exact hy _ _ i1 c1 (by omega) i4
    · rw [e2 i (by omega) i2]
      by_cases c2 : j < end'
      · rw [e3 j i3 c2]; exact hS.asymmA (hx _ _ (by omega) (by omega) (by omega) (by omega))
      · rw [e4 j (by omega)]; exact s2 _ _ (by omega) (by omega) (by omega)
/-- Both halves merged. -/
theorem Half.done (hS : SWO lt) {a mid b start end' : Nat} {d e f g : Array α} (h : Half lt a mid b start end' d e) (ha : a ≤ mid) (hb : mid ≤ b) (f1 : Stb lt a mid e f) (f2 : SortedIn lt a mid f) (g1 : Stb lt mid b f g) (g2 : SortedIn lt mid b g) :
    Stb lt a b d g ∧ SortedIn lt a b g := by
  refine ⟨(h.stb.trans (f1.mono (Nat.le_refl _) hb ha)).trans (g1.mono ha (Nat.le_refl _) hb), SortedIn.join (SortedIn.stb f2 g1 (Or.inl (Nat.le_refl _))) g2 ?_⟩
  intro i j i1 i2 i3 i4
  rw [g1.out i (Or.inl i2)]
  have s1 : ∀ i', a ≤ i' → i' < mid → ∀ j', mid ≤ j' → j' < b → lt f[j']! e[i']! = false := fun i' a1 a2 j' b1 b2 => by
    rw [f1.out j' (Or.inr b1)]; exact h.cross i' j' a1 a2 b1 b2
  have s2 : ∀ i', a ≤ i' → i' < mid → ∀ j', mid ≤ j' → j' < b → lt f[j']! f[i']! = false := fun i' a1 a2 j' b1 b2 =>
    f1.all hS (p := fun x => lt f[j']! x = false) (fun q q1 q2 => s1 q q1 q2 j' b1 b2) i' a1 a2
  exact g1.all hS (p := fun x => lt x f[i]! = false) (fun q q1 q2 => s2 i i1 i2 q q1 q2) j i3 i4
/-- In order within each run of s. -/
def Runs (lt : α → α → Bool) (s lo hi : Nat) (d : Array α) : Prop := ∀ i j, lo ≤ i → i < j → j < hi → i / s = j / s → lt d[j]! d[i]! = false
theorem Runs.at_ {s lo hi : Nat} {d : Array α} (h : Runs lt s lo hi d) (q a b : Nat) (ha : a = q * s) (hb : b ≤ a + s) (h1 : lo ≤ a) (h2 : b ≤ hi) : SortedIn lt a b d := by
  intro i j i1 i2 i3
  have e : ∀ x, a ≤ x → x < b → x / s = q := fun x x1 x2 => Nat.div_eq_of_lt_le (by rw [← ha]; exact x1) (by rw [Nat.succ_mul, ← ha]; omega)
  exact h i j (by omega) i2 (by omega) ((e i i1 (by omega)).trans (e j (by omega) i3).symm)
theorem Runs.none {s lo : Nat} {d : Array α} : Runs lt s lo lo d := fun i j h1 h2 h3 _ => by omega
/-- One run more. -/
theorem Runs.snoc {s q a b : Nat} {d e : Array α} (h : Runs lt s 0 a d) (ha : a = q * s) (hs : 0 < s) (hst : Stb lt a b d e) (hso : SortedIn lt a b e) : Runs lt s 0 b e := by
  intro i j i1 i2 i3 i4
  by_cases c : j < a
  · rw [hst.out i (Or.inl (by omega)), hst.out j (Or.inl c)]; exact h i j i1 i2 c i4
  · by_cases c2 : a ≤ i
    · exact hso i j c2 i2 i3
    · exfalso
      have h1 : i / s < q := (Nat.div_lt_iff_lt_mul hs).2 (by omega)
      have h2 : q ≤ j / s := (Nat.le_div_iff_mul_le hs).2 (by omega)
      omega
theorem Runs.rest {s lo lo' hi : Nat} {d e : Array α} (h : Runs lt s lo hi d) (hl : lo ≤ lo') {a b : Nat} (hst : Stb lt a b d e) (hb : b ≤ lo') : Runs lt s lo' hi e := by
  intro i j i1 i2 i3 i4
  rw [hst.out i (Or.inr (by omega)), hst.out j (Or.inr (by omega))]
  exact h i j (by omega) i2 i3 i4
/-- The last run, shorter or none. -/
theorem Runs.grown {s q a n : Nat} {d : Array α} (h : Runs lt (2 * s) 0 a d) (k : Runs lt s a n d) (ha : a = q * (2 * s)) (hn : n ≤ a + s) (hs : 0 < s) : Runs lt (2 * s) 0 n d := by
  refine Runs.snoc h ha (by omega) (Stb.refl a n d) (k.at_ (q * 2) a n (by rw [ha, Nat.mul_assoc]) hn (Nat.le_refl _) (Nat.le_refl _))
theorem Runs.all {s n : Nat} {d : Array α} (h : Runs lt s 0 n d) (hn : n ≤ s) : SortedIn lt 0 n d := h.at_ 0 0 n (by simp) (by omega) (Nat.le_refl _) (Nat.le_refl _)
end Go.Proofs.Ytjkpidhpjleebaa
