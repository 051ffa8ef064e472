/-
  Which block is chosen, as a function of two lists of numbers; that there is but one such block. No condition: lemmas.
-/
import Derived.Test.YthpfofbheahlmaaBase
namespace Go.Proofs.Ythpfofbheahlmaa
set_option maxRecDepth 100000

/-- The block that is chosen of the first n. -/
def bst (S L : Nat → Int) : Nat → Option Nat
  | 0 => none
  | k + 1 => match bst S L k with
    | none => if S k = 2 then some k else none
    | some b => if S k = 2 ∧ L k < L b then some k else some b
section
variable {S L : Nat → Int} {k b : Nat}
theorem bst_skip (h : S k ≠ 2) : bst S L (k + 1) = bst S L k := by
  cases e : bst S L k with
  | none => simp [bst, e, h]
  | some b => simp [bst, e, h]
theorem bst_first (h : S k = 2) (e : bst S L k = none) : bst S L (k + 1) = some k := by
  unfold bst
  rw [e]
  simp [h]
theorem bst_less (h : S k = 2) (e : bst S L k = some b) (hl : L k < L b) : bst S L (k + 1) = some k := by
  unfold bst
  rw [e]
  simp [h, hl]
theorem bst_more (e : bst S L k = some b) (hl : ¬ L k < L b) : bst S L (k + 1) = some b := by
  unfold bst
  rw [e]
  simp [hl]
end
/-- What is asked of the answer: of the blocks from lo to hi. -/
def Is (S L : Nat → Int) (lo hi : Nat) : Option Nat → Prop
  | none => ∀ i, lo ≤ i → i < hi → S i ≠ 2
  | some b => lo ≤ b ∧ b < hi ∧ S b = 2 ∧ (∀ i, lo ≤ i → i < hi → S i = 2 → L b ≤ L i) ∧ ∀ i, lo ≤ i → i < b → S i = 2 → L b < L i
theorem bst_is (S L : Nat → Int) : ∀ n, Is S L 0 n (bst S L n)
  | 0 => fun i _ h => absurd h (Nat.not_lt_zero _)
  | n + 1 => by
    have ih := bst_is S L n
    by_cases h : S n = 2
    · cases e : bst S L n with
      | none =>
        rw [bst_first h e]
        rw [e] at ih
        refine ⟨Nat.zero_le _, by omega, h, fun i _ hi hs => ?_, fun i _ hi hs => absurd hs (ih i (Nat.zero_le _) hi)⟩
        by_cases hn : i = n
        · subst hn; omega
        · exact absurd hs (ih i (Nat.zero_le _) (by omega))
      | some b =>
        rw [e] at ih
        obtain ⟨_, hb, hs, h1, h2⟩ := ih
        by_cases hl : L n < L b
        · rw [bst_less h e hl]
          refine ⟨Nat.zero_le _, by omega, h, fun i _ hi hs' => ?_, fun i _ hi hs' => ?_⟩
          · by_cases hn : i = n
            · subst hn; omega
            · have := h1 i (Nat.zero_le _) (by omega) hs'; omega
          · have := h1 i (Nat.zero_le _) hi hs'; omega
        · rw [bst_more e hl]
          refine ⟨Nat.zero_le _, by omega, hs, fun i _ hi hs' => ?_, fun i _ hi hs' => h2 i (Nat.zero_le _) hi hs'⟩
          by_cases hn : i = n
          · subst hn; omega
          · exact h1 i (Nat.zero_le _) (by omega) hs'
    · rw [bst_skip h]
      cases e : bst S L n with
      | none =>
        rw [e] at ih
        intro i _ hi
        by_cases hn : i = n
        · subst hn; exact h
        · exact ih i (Nat.zero_le _) (by omega)
      | some b =>
        rw [e] at ih
        obtain ⟨_, hb, hs, h1, h2⟩ := ih
        refine ⟨Nat.zero_le _, by omega, hs, fun i _ hi hs' => ?_, fun i _ hi hs' => h2 i (Nat.zero_le _) hi hs'⟩
        by_cases hn : i = n
        · subst hn; exact absurd hs' h
        · exact h1 i (Nat.zero_le _) (by omega) hs'
theorem Is.unique {S L : Nat → Int} {lo hi : Nat} {o o' : Option Nat} (h : Is S L lo hi o) (h' : Is S L lo hi o') : o = o' := by
  cases o with
  | none =>
    cases o' with
    | none => rfl
    | some b => exact absurd h'.2.2.1 (h b h'.1 h'.2.1)
  | some a =>
    cases o' with
    | none => exact absurd h.2.2.1 (h' a h.1 h.2.1)
    | some b =>
      obtain ⟨a0, a1, a2, a3, a4⟩ := h
      obtain ⟨b0, b1, b2, b3, b4⟩ := h'
      have : ¬ a < b := fun hl => by
        have := b4 a a0 hl a2
        have := a3 b b0 b1 b2
        omega
      have : ¬ b < a := fun hl => by
        have := a4 b b0 hl b2
        have := b3 a a0 a1 a2
        omega
      have : a = b := by omega
      rw [this]
/-- From above: one block more. -/
theorem Is.down_skip {S L : Nat → Int} {k hi : Nat} {o : Option Nat} (h : Is S L (k + 1) hi o) (hs : S k ≠ 2) : Is S L k hi o := by
  cases o with
  | none =>
    intro i h1 h2
    by_cases e : i = k
    · subst e; exact hs
    · exact h i (by omega) h2
  | some b =>
    obtain ⟨b0, b1, b2, b3, b4⟩ := h
    refine ⟨by omega, b1, b2, fun i h1 h2 h3 => ?_, fun i h1 h2 h3 => ?_⟩
    · by_cases e : i = k
      · subst e; exact absurd h3 hs
      · exact b3 i (by omega) h2 h3
    · by_cases e : i = k
      · subst e; exact absurd h3 hs
      · exact b4 i (by omega) h2 h3
theorem Is.down_first {S L : Nat → Int} {k hi : Nat} (hk : k < hi) (h : Is S L (k + 1) hi none) (hs : S k = 2) : Is S L k hi (some k) := by
  refine ⟨Nat.le_refl _, hk, hs, fun i h1 h2 h3 => ?_, fun i h1 h2 => by omega⟩
  by_cases e : i = k
  · subst e; omega
  · exact absurd h3 (h i (by omega) h2)
theorem Is.down_less {S L : Nat → Int} {k hi b : Nat} (hk : k < hi) (h : Is S L (k + 1) hi (some b)) (hs : S k = 2) (hl : L k ≤ L b) : Is S L k hi (some k) := by
  obtain ⟨b0, b1, b2, b3, b4⟩ := h
  refine ⟨Nat.le_refl _, hk, hs, fun i h1 h2 h3 => ?_, fun i h1 h2 => by omega⟩
  by_cases e : i = k
  · subst e; omega
  · have := b3 i (by omega) h2 h3; omega
theorem Is.down_more {S L : Nat → Int} {k hi b : Nat} (h : Is S L (k + 1) hi (some b)) (hl : ¬ L k ≤ L b) : Is S L k hi (some b) := by
  obtain ⟨b0, b1, b2, b3, b4⟩ := h
  refine ⟨by omega, b1, b2, fun i h1 h2 h3 => ?_, fun i h1 h2 h3 => ?_⟩
  · by_cases e : i = k
    · subst e; omega
    · exact b3 i (by omega) h2 h3
  · by_cases e : i = k
    · subst e; omega
    · exact b4 i (by omega) h2 h3
/-- Choose's error of lists of ns and nl numbers, and its block. -/
def chO (S L : Nat → Int) : Option Nat := bst S L 12
def chC (ns nl : Nat) (S L : Nat → Int) : Nat := if ns = 12 ∧ nl = 12 then (if chO S L = none then 11 else 0) else 1
def chV (ns nl : Nat) (S L : Nat → Int) : Nat := if ns = 12 ∧ nl = 12 then (chO S L).getD 0 else 0
/-- Gain's number of pages. -/
def gnV (ns nl : Nat) (S L : Nat → Int) : Int := if chC ns nl S L = 0 then 6 - min (max (L (chV ns nl S L)) 0) 6 else 0
theorem chC_arg {ns nl : Nat} (S L : Nat → Int) (h : ¬ (ns = 12 ∧ nl = 12)) : chC ns nl S L = 1 := if_neg h
theorem chV_arg {ns nl : Nat} (S L : Nat → Int) (h : ¬ (ns = 12 ∧ nl = 12)) : chV ns nl S L = 0 := if_neg h
theorem chC_none {S L : Nat → Int} (h : chO S L = none) : chC 12 12 S L = 11 := by simp [chC, h]
theorem chV_none {S L : Nat → Int} (h : chO S L = none) : chV 12 12 S L = 0 := by simp [chV, h]
theorem chC_some {S L : Nat → Int} {b : Nat} (h : chO S L = some b) : chC 12 12 S L = 0 := by simp [chC, h]
theorem chV_some {S L : Nat → Int} {b : Nat} (h : chO S L = some b) : chV 12 12 S L = b := by simp [chV, h]
theorem ch_some {ns nl : Nat} {S L : Nat → Int} (h : chC ns nl S L = 0) : ns = 12 ∧ nl = 12 ∧ chV ns nl S L < 12 ∧ chO S L = some (chV ns nl S L) := by
  by_cases hc : ns = 12 ∧ nl = 12
  · obtain ⟨rfl, rfl⟩ := hc
    cases e : chO S L with
    | none => rw [chC_none e] at h; simp at h
    | some b =>
      have := bst_is S L 12
      rw [show bst S L 12 = some b from e] at this
      rw [chV_some e]
      exact ⟨rfl, rfl, this.2.1, rfl⟩
  · rw [chC_arg S L hc] at h; simp at h
end Go.Proofs.Ythpfofbheahlmaa
