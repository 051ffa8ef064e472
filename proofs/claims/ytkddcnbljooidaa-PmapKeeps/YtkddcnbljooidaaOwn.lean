/-
  Where each number lies (L), and which number lies at each place (own): lists of numbers alone. No condition: lemmas.
-/
import Derived.Test.YtkddcnbljooidaaBase
namespace Go.Proofs.Ytkddcnbljooidaa
set_option maxRecDepth 100000
open Go.RowKit

/-- Which of the first k numbers lies at q; -1: none. -/
def ownK (L : Nat → Int) (q : Int) : Nat → Int
  | 0 => -1
  | k + 1 => if 0 ≤ ownK L q k then ownK L q k else if L k = q then (k : Int) else -1
def own (L : Nat → Int) (q : Int) : Int := ownK L q 25
theorem ownK_spec (L : Nat → Int) (q : Int) : ∀ k, (∃ i, i < k ∧ ownK L q k = (i : Int) ∧ L i = q ∧ ∀ j, j < i → L j ≠ q) ∨ (ownK L q k = -1 ∧ ∀ i, i < k → L i ≠ q)
  | 0 => Or.inr ⟨rfl, fun i hi => absurd hi (Nat.not_lt_zero _)⟩
  | k + 1 => by
    unfold ownK
    rcases ownK_spec L q k with ⟨i, h1, h2, h3, h4⟩ | ⟨h1, h2⟩
    · left
      rw [if_pos (by omega)]
      exact ⟨i, by omega, h2, h3, h4⟩
    · rw [if_neg (by omega)]
      by_cases e : L k = q
      · left
        rw [if_pos e]
        exact ⟨k, by omega, rfl, e, h2⟩
      · right
        rw [if_neg e]
        refine ⟨rfl, fun i hi => ?_⟩
        by_cases e2 : i = k
        · subst e2; exact e
        · exact h2 i (by omega)
theorem own_spec (L : Nat → Int) (q : Int) : (∃ i : Nat, i < 25 ∧ own L q = (i : Int) ∧ L i = q ∧ ∀ j, j < i → L j ≠ q) ∨ (own L q = -1 ∧ ∀ i, i < 25 → L i ≠ q) := ownK_spec L q 25
theorem own_none {L : Nat → Int} {q : Int} (h : ∀ i, i < 25 → L i ≠ q) : own L q = -1 := by
  rcases own_spec L q with ⟨i, h1, _, h3, _⟩ | ⟨h1, _⟩
  · exact absurd h3 (h i h1)
  · exact h1
theorem own_lo (L : Nat → Int) (q : Int) : -1 ≤ own L q ∧ own L q < 25 := by
  rcases own_spec L q with ⟨i, h1, h2, _⟩ | ⟨h1, _⟩ <;> omega
/-- What a table of places may be. -/
structure Okl (L : Nat → Int) : Prop where
  rng : ∀ i, i < 25 → L i = -1 ∨ (0 ≤ L i ∧ L i < 96)
  may : ∀ i, i < 24 → L i = -1 ∨ L i % 8 < 6
  inj : ∀ i j, i < 25 → j < 25 → L i = L j → L i ≠ -1 → i = j
theorem Okl.none : Okl (fun _ => -1) := ⟨fun _ _ => Or.inl rfl, fun _ _ => Or.inl rfl, fun _ _ _ _ _ h => absurd rfl h⟩
theorem Okl.lo {L : Nat → Int} (h : Okl L) {i : Nat} (hi : i < 25) : -1 ≤ L i ∧ L i < 96 := by
  rcases h.rng i hi with e | e <;> omega
theorem own_is {L : Nat → Int} (h : Okl L) {i : Nat} (hi : i < 25) {q : Int} (hL : L i = q) (hq : q ≠ -1) : own L q = i := by
  rcases own_spec L q with ⟨j, h1, h2, h3, _⟩ | ⟨_, h2⟩
  · have e := h.inj i j hi h1 (by rw [hL, h3]) (by rw [hL]; exact hq)
    rw [h2, e]
  · exact absurd hL (h2 i hi)
theorem upd_same {α : Type} (f : Nat → α) (i : Nat) (z : α) : upd f i z i = z := by unfold upd; rw [if_pos rfl]
theorem upd_other {α : Type} (f : Nat → α) {i j : Nat} (z : α) (h : j ≠ i) : upd f i z j = f j := by unfold upd; rw [if_neg h]
theorem upd_upd {α : Type} (f : Nat → α) (i : Nat) (y z : α) : upd (upd f i y) i z = upd f i z := by
  funext j
  unfold upd
  split <;> rfl
theorem upd_self {α : Type} (f : Nat → α) (i : Nat) {z : α} (h : f i = z) : upd f i z = f := by
  funext j
  unfold upd
  split
  · rename_i e; rw [e, h]
  · rfl
/-- A number is taken away. -/
theorem Okl.clear {L : Nat → Int} (h : Okl L) (n : Nat) : Okl (upd L n (-1)) := by
  refine ⟨fun i hi => ?_, fun i hi => ?_, fun i j hi hj e hn => ?_⟩
  · unfold upd
    split
    · exact Or.inl rfl
    · exact h.rng i hi
  · unfold upd
    split
    · exact Or.inl rfl
    · exact h.may i hi
  · by_cases e1 : i = n
    · rw [e1, upd_same] at hn; exact absurd rfl hn
    · by_cases e2 : j = n
      · rw [e, e2, upd_same] at hn; exact absurd rfl hn
      · rw [upd_other _ _ e1, upd_other _ _ e2] at e
        rw [upd_other _ _ e1] at hn
        exact h.inj i j hi hj e hn
theorem own_clear {L : Nat → Int} (h : Okl L) {n : Nat} (hn : n < 25) {q : Int} (hq : 0 ≤ q) : own (upd L n (-1)) q = if q = L n then -1 else own L q := by
  by_cases e : q = L n
  · rw [if_pos e]
    refine own_none fun i hi => ?_
    by_cases e1 : i = n
    · rw [e1, upd_same]; omega
    · rw [upd_other _ _ e1]
      intro e2
      exact e1 (h.inj i n hi hn (by rw [e2, e]) (by omega))
  · rw [if_neg e]
    rcases own_spec L q with ⟨i, h1, h2, h3, _⟩ | ⟨h1, h2⟩
    · have e1 : i ≠ n := by intro e1; rw [e1] at h3; exact e h3.symm
      rw [h2]
      exact own_is (h.clear n) h1 (by rw [upd_other _ _ e1]; exact h3) (by omega)
    · rw [h1]
      refine own_none fun i hi => ?_
      by_cases e1 : i = n
      · rw [e1, upd_same]; omega
      · rw [upd_other _ _ e1]; exact h2 i hi
/-- A number is laid where nothing lies. -/
theorem Okl.put {L : Nat → Int} (h : Okl L) (n : Nat) {q : Int} (hq : 0 ≤ q ∧ q < 96) (hm : n < 24 → q % 8 < 6) (hno : own L q = -1) : Okl (upd L n q) := by
  have hno' : ∀ i, i < 25 → L i ≠ q := by
    rcases own_spec L q with ⟨i, _, h2, _⟩ | ⟨_, h2⟩
    · omega
    · exact h2
  refine ⟨fun i hi => ?_, fun i hi => ?_, fun i j hi hj e hn => ?_⟩
  · unfold upd
    split
    · exact Or.inr hq
    · exact h.rng i hi
  · unfold upd
    split
    · rename_i e; exact Or.inr (hm (by omega))
    · exact h.may i hi
  · by_cases e1 : i = n
    · by_cases e2 : j = n
      · omega
      · rw [e1, upd_same, upd_other _ _ e2] at e
        exact absurd e.symm (hno' j hj)
    · by_cases e2 : j = n
      · rw [e2, upd_same, upd_other _ _ e1] at e
        exact absurd e (hno' i hi)
      · rw [upd_other _ _ e1, upd_other _ _ e2] at e
        rw [upd_other _ _ e1] at hn
        exact h.inj i j hi hj e hn
theorem own_put {L : Nat → Int} (h : Okl L) {n : Nat} (hn : n < 25) {q : Int} (hq : 0 ≤ q ∧ q < 96) (hm : n < 24 → q % 8 < 6) (hL : L n = -1) (hno : own L q = -1) {p : Int} (hp : 0 ≤ p) : own (upd L n q) p = if p = q then (n : Int) else own L p := by
  have hk := h.put n hq hm hno
  by_cases e : p = q
  · rw [if_pos e, e]
    exact own_is hk hn (upd_same _ _ _) (by omega)
  · rw [if_neg e]
    rcases own_spec L p with ⟨i, h1, h2, h3, _⟩ | ⟨h1, h2⟩
    · have e1 : i ≠ n := by intro e1; rw [e1] at h3; omega
      rw [h2]
      exact own_is hk h1 (by rw [upd_other _ _ e1]; exact h3) (by omega)
    · rw [h1]
      refine own_none fun i hi => ?_
      by_cases e1 : i = n
      · rw [e1, upd_same]; omega
      · rw [upd_other _ _ e1]; exact h2 i hi
/-- The program's two arrays, as one row. -/
def stF (L : Nat → Int) : Nat → Int := fun k => if k < 25 then L k else own L ((k - 25 : Nat) : Int)
theorem stF_lo (L : Nat → Int) {k : Nat} (h : k < 25) : stF L k = L k := by unfold stF; rw [if_pos h]
theorem stF_hi (L : Nat → Int) (k : Nat) : stF L (25 + k) = own L (k : Int) := by unfold stF; rw [if_neg (by omega), Nat.add_sub_cancel_left]
theorem stF_none (k : Nat) : stF (fun _ => -1) k = -1 := by
  unfold stF
  split
  · rfl
  · exact own_none (fun _ _ => by omega)
theorem stF_clear {L : Nat → Int} (h : Okl L) {n : Nat} (hn : n < 25) {m : Nat} (hm : L n = m) (k : Nat) : upd (upd (stF L) (25 + m) (-1)) n (-1) k = stF (upd L n (-1)) k := by
  by_cases hk : k < 25
  · rw [stF_lo _ hk]
    by_cases e : k = n
    · subst e; rw [upd_same, upd_same]
    · rw [upd_other _ _ e, upd_other _ _ e, upd_other _ _ (by omega), stF_lo _ hk]
  · obtain ⟨j, rfl⟩ : ∃ j, k = 25 + j := ⟨k - 25, by omega⟩
    rw [stF_hi, upd_other _ _ (by omega), own_clear h hn (by omega), hm]
    by_cases e : j = m
    · subst e; rw [upd_same, if_pos rfl]
    · rw [upd_other _ _ (by omega), if_neg (by omega), stF_hi]
theorem stF_clear0 {L : Nat → Int} {n : Nat} (hn : n < 25) (hm : L n = -1) : upd (stF L) n (-1) = stF (upd L n (-1)) := by
  rw [upd_self L n hm, upd_self (stF L) n (by rw [stF_lo _ hn, hm])]
theorem stF_put {L : Nat → Int} (h : Okl L) {n : Nat} (hn : n < 25) {m : Nat} (hq : m < 96) (hm : n < 24 → m % 8 < 6) (hL : L n = -1) (hno : own L m = -1) (k : Nat) : upd (upd (stF L) n m) (25 + m) n k = stF (upd L n m) k := by
  by_cases hk : k < 25
  · rw [stF_lo _ hk, upd_other _ _ (by omega)]
    by_cases e : k = n
    · subst e; rw [upd_same, upd_same]
    · rw [upd_other _ _ e, upd_other _ _ e, stF_lo _ hk]
  · obtain ⟨j, rfl⟩ : ∃ j, k = 25 + j := ⟨k - 25, by omega⟩
    rw [stF_hi, own_put h hn (by omega) (fun h => by have := hm h; omega) hL hno (by omega)]
    by_cases e : j = m
    · subst e; rw [upd_same, if_pos rfl]
    · rw [upd_other _ _ (by omega), if_neg (by omega), upd_other _ _ (by omega), stF_hi]
/-- The numbers in a block, of its first k pages. -/
def ofK (L : Nat → Int) (b : Nat) : Nat → List Int
  | 0 => []
  | k + 1 => ofK L b k ++ if own L ((8 * b + k : Nat) : Int) = -1 then [] else [own L ((8 * b + k : Nat) : Int)]
def ofL (L : Nat → Int) (b : Nat) : List Int := ofK L b 8
theorem ofK_length (L : Nat → Int) (b : Nat) : ∀ k, (ofK L b k).length ≤ k
  | 0 => Nat.le_refl _
  | k + 1 => by
    have := ofK_length L b k
    unfold ofK
    rw [List.length_append]
    split <;> simp <;> omega
/-- How many of the first k places of block b carry something. -/
def lvK (L : Nat → Int) : Nat → Nat → Nat
  | 0, _ => 0
  | i + 1, b => lvK L i b + if i / 8 = b ∧ own L (i : Int) ≠ -1 then 1 else 0
theorem lvK_of (L : Nat → Int) (b : Nat) : ∀ i, lvK L i b = (ofK L b (min 8 (i - 8 * b))).length
  | 0 => by rw [Nat.zero_sub]; rfl
  | i + 1 => by
    unfold lvK
    rw [lvK_of L b i]
    by_cases e : i / 8 = b
    · have e1 : min 8 (i + 1 - 8 * b) = i - 8 * b + 1 := by omega
      have e2 : min 8 (i - 8 * b) = i - 8 * b := by omega
      have e3 : 8 * b + (i - 8 * b) = i := by omega
      rw [e1, e2]
      show _ = (ofK L b (i - 8 * b) ++ if own L ((8 * b + (i - 8 * b) : Nat) : Int) = -1 then [] else [own L ((8 * b + (i - 8 * b) : Nat) : Int)]).length
      rw [List.length_append, e3]
      by_cases e4 : own L (i : Int) = -1
      · rw [if_neg (by simp [e4]), if_pos e4]; rfl
      · rw [if_pos ⟨e, e4⟩, if_neg e4]; rfl
    · rw [if_neg (by intro h; exact e h.1), show min 8 (i + 1 - 8 * b) = min 8 (i - 8 * b) by omega]
      rfl
theorem lvK_all (L : Nat → Int) {b : Nat} (hb : b < 12) : lvK L 96 b = (ofL L b).length := by
  rw [lvK_of, show min 8 (96 - 8 * b) = 8 by omega]
  rfl
theorem lvK_le (L : Nat → Int) (i b : Nat) : lvK L i b ≤ 8 := by
  rw [lvK_of]
  exact Nat.le_trans (ofK_length L b _) (Nat.min_le_left _ _)
/-- How many of the first m places carry one of the first k numbers. -/
def cO (L : Nat → Int) (k : Nat) : Nat → Nat
  | 0 => 0
  | m + 1 => cO L k m + if ownK L (m : Int) k ≠ -1 then 1 else 0
/-- How many of the first k numbers lie somewhere. -/
def cL (L : Nat → Int) : Nat → Nat
  | 0 => 0
  | k + 1 => cL L k + if L k ≠ -1 then 1 else 0
theorem cL_le (L : Nat → Int) : ∀ k, cL L k ≤ k
  | 0 => Nat.le_refl _
  | k + 1 => by have := cL_le L k; unfold cL; split <;> omega
theorem cO_le (L : Nat → Int) (k : Nat) : ∀ m, cO L k m ≤ m
  | 0 => Nat.le_refl _
  | m + 1 => by have := cO_le L k m; unfold cO; split <;> omega
theorem cO_zero (L : Nat → Int) : ∀ m, cO L 0 m = 0
  | 0 => rfl
  | m + 1 => by unfold cO; rw [cO_zero L m]; rfl
theorem cO_step {L : Nat → Int} (h : Okl L) {k : Nat} (hk : k < 25) : ∀ m, cO L (k + 1) m = cO L k m + if 0 ≤ L k ∧ L k < (m : Int) then 1 else 0
  | 0 => by rw [if_neg (by omega)]; rfl
  | m + 1 => by
    unfold cO
    rw [cO_step h hk m]
    have e : ownK L (m : Int) (k + 1) = if 0 ≤ ownK L (m : Int) k then ownK L (m : Int) k else if L k = (m : Int) then (k : Int) else -1 := rfl
    rcases ownK_spec L (m : Int) k with ⟨i, h1, h2, h3, _⟩ | ⟨h1, h2⟩
    · have hne : L k ≠ (m : Int) := by
        intro e1
        have := h.inj i k (by omega) hk (by rw [h3, e1]) (by omega)
        omega
      have hv : ownK L (m : Int) (k + 1) = i := by rw [e, h2, if_pos (by omega)]
      rw [hv, h2]
      repeat' split
      all_goals omega
    · by_cases e1 : L k = (m : Int)
      · have hv : ownK L (m : Int) (k + 1) = k := by rw [e, h1, if_neg (by omega), if_pos e1]
        rw [hv, h1]
        repeat' split
        all_goals omega
      · have hv : ownK L (m : Int) (k + 1) = -1 := by rw [e, h1, if_neg (by omega), if_neg e1]
        rw [hv, h1]
        repeat' split
        all_goals omega
theorem cO_all {L : Nat → Int} (h : Okl L) : ∀ k, k ≤ 25 → cO L k 96 = cL L k
  | 0, _ => cO_zero L 96
  | k + 1, hk => by
    rw [cO_step h (by omega), cO_all h k (by omega)]
    show _ = cL L k + if L k ≠ -1 then 1 else 0
    have := h.rng k (by omega)
    by_cases e : L k = -1
    · rw [if_neg (show ¬ (0 ≤ L k ∧ L k < ((96 : Nat) : Int)) by omega), if_neg (by simp [e])]
    · rw [if_pos (show 0 ≤ L k ∧ L k < ((96 : Nat) : Int) by omega), if_pos e]
/-- How many of the first m places carry something. -/
def cP (L : Nat → Int) (m : Nat) : Nat := cO L 25 m
theorem cP_all {L : Nat → Int} (h : Okl L) : cP L 96 = cL L 25 := cO_all h 25 (Nat.le_refl _)
theorem cP_succ (L : Nat → Int) (m : Nat) : cP L (m + 1) = cP L m + if own L (m : Int) ≠ -1 then 1 else 0 := rfl
theorem cP_of (L : Nat → Int) (b : Nat) : ∀ k, cP L (8 * b + k) = cP L (8 * b) + (ofK L b k).length
  | 0 => rfl
  | k + 1 => by
    rw [← Nat.add_assoc, cP_succ, cP_of L b k]
    show _ = _ + (ofK L b k ++ if own L ((8 * b + k : Nat) : Int) = -1 then [] else [own L ((8 * b + k : Nat) : Int)]).length
    rw [List.length_append]
    by_cases e : own L ((8 * b + k : Nat) : Int) = -1
    · rw [if_neg (by simp only [ne_eq, e, not_true, not_false_eq_true]), if_pos e]; rfl
    · rw [if_pos e, if_neg e]; simp only [List.length_singleton]; omega
theorem cP_block (L : Nat → Int) (b : Nat) : cP L (8 * (b + 1)) = cP L (8 * b) + (ofL L b).length := cP_of L b 8
theorem cP_le (L : Nat → Int) (m : Nat) : cP L m ≤ m := cO_le L 25 m
end Go.Proofs.Ytkddcnbljooidaa
