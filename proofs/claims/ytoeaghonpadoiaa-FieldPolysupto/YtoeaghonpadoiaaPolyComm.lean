/-
  The product of two polynomials does not hang on their order. No condition: plain mathematics.
-/
import Derived.Test.YtoeaghonpadoiaaPoly
namespace Go.Proofs.Ytoeaghonpadoiaa

/-- The sum of f over the numbers below n. -/
def xs (f : Nat → Nat) : Nat → Nat
  | 0 => 0
  | n + 1 => xs f n ^^^ f n
theorem xs_shift (f : Nat → Nat) (n : Nat) : xs f (n + 1) = f 0 ^^^ xs (fun i => f (i + 1)) n := by
  induction n with
  | zero => show 0 ^^^ f 0 = f 0 ^^^ 0; rw [Nat.zero_xor, Nat.xor_zero]
  | succ n ih =>
    show xs f (n + 1) ^^^ f (n + 1) = f 0 ^^^ (xs (fun i => f (i + 1)) n ^^^ f (n + 1))
    rw [ih, Nat.xor_assoc]
theorem xs_congr {f g : Nat → Nat} (n : Nat) (h : ∀ i, i < n → f i = g i) : xs f n = xs g n := by
  induction n with
  | zero => rfl
  | succ n ih => show xs f n ^^^ f n = xs g n ^^^ g n; rw [ih (fun i hi => h i (by omega)), h n (by omega)]
theorem xs_rev (n : Nat) : ∀ f : Nat → Nat, xs f n = xs (fun i => f (n - 1 - i)) n := by
  induction n with
  | zero => intro f; rfl
  | succ n ih =>
    intro f
    rw [xs_shift, ih]
    show _ = xs (fun i => f (n + 1 - 1 - i)) n ^^^ f (n + 1 - 1 - n)
    rw [show n + 1 - 1 - n = 0 from by omega, Nat.xor_comm]
    congr 1
    exact xs_congr n (fun i hi => by rw [show n - 1 - i + 1 = n + 1 - 1 - i from by omega])
theorem xs_more (f : Nat → Nat) (n m : Nat) (h : ∀ i, n ≤ i → f i = 0) : xs f (n + m) = xs f n := by
  induction m with
  | zero => rfl
  | succ m ih => show xs f (n + m) ^^^ f (n + m) = _; rw [ih, h (n + m) (by omega), Nat.xor_zero]
/-- One summand of the k-th coefficient. -/
def tf (p q : List Nat) (k i : Nat) : Nat := if i ≤ k then gm (p.getD i 0) (q.getD (k - i) 0) else 0
theorem inner_getD (a : Nat) (q : List Nat) (i : Nat) (l : List Nat) (j k : Nat) (hl : i + j ≤ l.length) :
    (inner a q i l j).getD k 0 = l.getD k 0 ^^^ (if i ≤ k ∧ k - i < j then gm a (q.getD (k - i) 0) else 0) := by
  induction j with
  | zero => show l.getD k 0 = _; rw [if_neg (by omega), Nat.xor_zero]
  | succ j ih =>
    show (addAt (inner a q i l j) (i + j) (gm a (q.getD j 0))).getD k 0 = _
    rw [addAt_getD _ _ _ _ (by rw [inner_length]; omega), ih (by omega)]
    by_cases h : k = i + j
    · rw [if_pos h, if_neg (by omega), if_pos (by omega), Nat.xor_zero, show k - i = j from by omega]
    · rw [if_neg h, Nat.xor_zero]
      by_cases h2 : i ≤ k ∧ k - i < j
      · rw [if_pos h2, if_pos (by omega)]
      · rw [if_neg h2, if_neg (by omega)]
theorem getD_beyond (l : List Nat) (i : Nat) (h : l.length ≤ i) : l.getD i 0 = 0 := by
  rw [List.getD_eq_getElem?_getD, List.getElem?_eq_none h]; rfl
theorem outer_getD (p q : List Nat) (i k : Nat) (hi : i ≤ p.length) (_hq : q.length ≠ 0) : (outer p q i).getD k 0 = xs (tf p q k) i := by
  induction i with
  | zero =>
    show (List.replicate _ 0).getD k 0 = 0
    rw [List.getD_eq_getElem?_getD]
    by_cases h : k < p.length + q.length - 1
    · rw [List.getElem?_replicate_of_lt h]; rfl
    · rw [List.getElem?_eq_none (by simp; omega)]; rfl
  | succ i ih =>
    show (inner (p.getD i 0) q i (outer p q i) q.length).getD k 0 = xs (tf p q k) i ^^^ tf p q k i
    rw [inner_getD _ _ _ _ _ _ (by rw [outer_length]; omega), ih (by omega)]
    congr 1
    unfold tf
    by_cases h : i ≤ k
    · rw [if_pos h]
      by_cases h2 : k - i < q.length
      · rw [if_pos ⟨h, h2⟩]
      · rw [if_neg (by omega), getD_beyond q _ (by omega), gm_zero_right]
    · rw [if_neg (by omega), if_neg h]
theorem tm_getD (p q : List Nat) (k : Nat) (hp : p.length ≠ 0) (hq : q.length ≠ 0) : (tm p q).getD k 0 = xs (tf p q k) (k + 1) := by
  unfold tm
  rw [if_neg (by omega), outer_getD p q _ k (Nat.le_refl _) hq]
  have h1 : xs (tf p q k) (p.length + (k + 1)) = xs (tf p q k) p.length := xs_more _ _ _ (fun i hi => by
    unfold tf; rw [getD_beyond p i hi, gm_zero_left]; split <;> rfl)
  have h2 : xs (tf p q k) ((k + 1) + p.length) = xs (tf p q k) (k + 1) := xs_more _ _ _ (fun i hi => by
    unfold tf; rw [if_neg (by omega)])
  rw [← h1, Nat.add_comm, h2]
theorem tm_comm (p q : List Nat) : tm q p = tm p q := by
  by_cases hp : p.length = 0
  · unfold tm; rw [if_pos (Or.inr hp), if_pos (Or.inl hp)]
  by_cases hq : q.length = 0
  · unfold tm; rw [if_pos (Or.inl hq), if_pos (Or.inr hq)]
  apply List.ext_getElem
  · rw [tm_length q p hq hp, tm_length p q hp hq]; omega
  intro k h1 h2
  have e1 := tm_getD q p k hq hp
  have e2 := tm_getD p q k hp hq
  rw [List.getD_eq_getElem?_getD, List.getElem?_eq_getElem h1] at e1
  rw [List.getD_eq_getElem?_getD, List.getElem?_eq_getElem h2] at e2
  show (some ((tm q p)[k])).getD 0 = (some ((tm p q)[k])).getD 0
  rw [e1, e2, xs_rev]
  refine xs_congr _ (fun i hi => ?_)
  unfold tf
  rw [if_pos (by omega), if_pos (by omega), gm_comm, show k - (k + 1 - 1 - i) = i from by omega, show k + 1 - 1 - i = k - i from by omega]
end Go.Proofs.Ytoeaghonpadoiaa
