/-
  Polynomials over the field of 256 elements, as lists of coefficients, the highest first: their values, their products, and that the value of a product is the product of the values. No condition: plain mathematics.
-/
import Derived.Test.YtdofegphipbcdaaPlain
namespace Go.Proofs.Ytdofegphipbcdaa

/-- All bytes. -/
def Bys (l : List Nat) : Prop := ∀ n ∈ l, n < 256
theorem Bys.getD {l : List Nat} (h : Bys l) (i : Nat) : l.getD i 0 < 256 := by
  by_cases hi : i < l.length
  · rw [List.getD_eq_getElem?_getD, List.getElem?_eq_getElem hi]; exact h _ (List.getElem_mem hi)
  · rw [List.getD_eq_getElem?_getD, List.getElem?_eq_none (by omega)]; decide
/-- The value at x (Horner's way). -/
def ev (x : Nat) (l : List Nat) : Nat := l.foldl (fun s c => gm s x ^^^ c) 0
theorem ev_snoc (x : Nat) (l : List Nat) (c : Nat) : ev x (l ++ [c]) = gm (ev x l) x ^^^ c := by simp [ev]
theorem take_snoc (l : List Nat) (k : Nat) (h : k < l.length) : l.take (k + 1) = l.take k ++ [l.getD k 0] := by
  rw [List.take_succ_eq_append_getElem h, List.getD_eq_getElem?_getD, List.getElem?_eq_getElem h]; rfl
theorem ev_take (x : Nat) (l : List Nat) (k : Nat) (h : k < l.length) : ev x (l.take (k + 1)) = gm (ev x (l.take k)) x ^^^ l.getD k 0 := by
  rw [take_snoc l k h, ev_snoc]
theorem ev_take_lt (x : Nat) (l : List Nat) (hl : Bys l) (k : Nat) (h : k ≤ l.length) : ev x (l.take k) < 256 := by
  induction k with
  | zero => simp [ev]
  | succ k ih => rw [ev_take x l k (by omega)]; exact xor_lt _ _ (gm_lt _ _) (hl.getD k)
theorem ev_lt (x : Nat) (l : List Nat) (hl : Bys l) : ev x l < 256 := by
  have := ev_take_lt x l hl l.length (Nat.le_refl _)
  rwa [List.take_length] at this
theorem ev_noughts (x : Nat) (l : List Nat) : ev x (0 :: 0 :: l) = ev x l := by
  simp [ev, gm_zero_left]

/-- The k-th power of x. -/
def xp (x : Nat) : Nat → Nat
  | 0 => 1
  | k + 1 => gm (xp x k) x
theorem xp_lt (x k : Nat) : xp x k < 256 := by
  cases k with
  | zero => show 1 < 256; decide
  | succ k => exact gm_lt _ _
theorem xp_add (x : Nat) (j k : Nat) : xp x (j + k) = gm (xp x j) (xp x k) := by
  induction k with
  | zero => show xp x j = gm (xp x j) 1; rw [gm_one _ (xp_lt x j)]
  | succ k ih => show gm (xp x (j + k)) x = gm (xp x j) (gm (xp x k) x); rw [ih, gm_assoc]
/-- The value of the first k coefficients, each at its place in the whole. -/
def pv (x : Nat) (l : List Nat) : Nat → Nat
  | 0 => 0
  | k + 1 => pv x l k ^^^ gm (l.getD k 0) (xp x (l.length - 1 - k))
theorem pv_lt (x : Nat) (l : List Nat) (k : Nat) : pv x l k < 256 := by
  induction k with
  | zero => show 0 < 256; decide
  | succ k ih => exact xor_lt _ _ ih (gm_lt _ _)
theorem ev_pv_to (x : Nat) (_hx : x < 256) (l : List Nat) (hl : Bys l) (k : Nat) (hk : k ≤ l.length) : gm (ev x (l.take k)) (xp x (l.length - k)) = pv x l k := by
  induction k with
  | zero => show gm 0 _ = 0; rw [gm_zero_left]
  | succ k ih =>
    rw [ev_take x l k (by omega)]
    show gm (gm (ev x (l.take k)) x ^^^ l.getD k 0) (xp x (l.length - (k + 1))) = pv x l k ^^^ gm (l.getD k 0) (xp x (l.length - 1 - k))
    have e : l.length - (k + 1) = l.length - 1 - k := by omega
    have e2 : l.length - k = (l.length - 1 - k) + 1 := by omega
    rw [e, xor_gm _ _ _ (xp_lt _ _) (gm_lt _ _) (hl.getD k), ← ih (by omega), e2]
    show gm (gm _ x) _ ^^^ _ = gm _ (gm (xp x _) x) ^^^ _
    rw [gm_assoc, gm_comm x]
theorem ev_pv (x : Nat) (hx : x < 256) (l : List Nat) (hl : Bys l) : ev x l = pv x l l.length := by
  have h := ev_pv_to x hx l hl l.length (Nat.le_refl _)
  rw [List.take_length, Nat.sub_self] at h
  rw [← h]
  show _ = gm _ 1
  rw [gm_one _ (ev_lt x l hl)]

/-- v is added to the coefficient at i. -/
def addAt (l : List Nat) (i v : Nat) : List Nat := l.set i (l.getD i 0 ^^^ v)
theorem addAt_length (l : List Nat) (i v : Nat) : (addAt l i v).length = l.length := by simp [addAt]
theorem addAt_getD (l : List Nat) (i v k : Nat) (hi : i < l.length) : (addAt l i v).getD k 0 = l.getD k 0 ^^^ (if k = i then v else 0) := by
  unfold addAt
  by_cases e : k = i
  · subst e; rw [if_pos rfl, List.getD_eq_getElem?_getD, List.getElem?_set_self hi]; rfl
  · rw [if_neg e, Nat.xor_zero, List.getD_eq_getElem?_getD, List.getElem?_set_ne (by omega), ← List.getD_eq_getElem?_getD]
theorem addAt_bys {l : List Nat} (hl : Bys l) (i v : Nat) (hv : v < 256) : Bys (addAt l i v) := by
  intro n hn
  unfold addAt at hn
  rcases List.mem_or_eq_of_mem_set hn with h | h
  · exact hl n h
  · rw [h]; exact xor_lt _ _ (hl.getD i) hv
theorem pv_addAt (x : Nat) (l : List Nat) (hl : Bys l) (i v : Nat) (hi : i < l.length) (hv : v < 256) (k : Nat) :
    pv x (addAt l i v) k = pv x l k ^^^ (if i < k then gm v (xp x (l.length - 1 - i)) else 0) := by
  induction k with
  | zero => simp [pv]
  | succ k ih =>
    show pv x (addAt l i v) k ^^^ gm ((addAt l i v).getD k 0) (xp x ((addAt l i v).length - 1 - k)) = (pv x l k ^^^ gm (l.getD k 0) (xp x (l.length - 1 - k))) ^^^ _
    rw [ih, addAt_length, addAt_getD l i v k hi]
    by_cases e : k = i
    · subst e
      rw [if_pos rfl, if_neg (by omega), if_pos (by omega), xor_gm _ _ _ (xp_lt _ _) (hl.getD k) hv, Nat.xor_zero, Nat.xor_assoc]
    · rw [if_neg e, Nat.xor_zero]
      by_cases h : i < k
      · rw [if_pos h, if_pos (by omega), Nat.xor_assoc, Nat.xor_comm (gm v _), ← Nat.xor_assoc]
      · rw [if_neg h, if_neg (by omega), Nat.xor_zero, Nat.xor_zero]
theorem ev_addAt (x : Nat) (hx : x < 256) (l : List Nat) (hl : Bys l) (i v : Nat) (hi : i < l.length) (hv : v < 256) :
    ev x (addAt l i v) = ev x l ^^^ gm v (xp x (l.length - 1 - i)) := by
  rw [ev_pv x hx _ (addAt_bys hl i v hv), ev_pv x hx l hl, addAt_length, pv_addAt x l hl i v hi hv, if_pos hi]

/-- The inner loop of a product: j rounds. -/
def inner (a : Nat) (q : List Nat) (i : Nat) (l : List Nat) : Nat → List Nat
  | 0 => l
  | j + 1 => addAt (inner a q i l j) (i + j) (gm a (q.getD j 0))
/-- The outer loop: i rounds. -/
def outer (p q : List Nat) : Nat → List Nat
  | 0 => List.replicate (p.length + q.length - 1) 0
  | i + 1 => inner (p.getD i 0) q i (outer p q i) q.length
/-- The product. -/
def tm (p q : List Nat) : List Nat := if p.length = 0 ∨ q.length = 0 then [] else outer p q p.length
theorem inner_length (a : Nat) (q : List Nat) (i : Nat) (l : List Nat) (j : Nat) : (inner a q i l j).length = l.length := by
  induction j with
  | zero => rfl
  | succ j ih => show (addAt _ _ _).length = _; rw [addAt_length, ih]
theorem outer_length (p q : List Nat) (i : Nat) : (outer p q i).length = p.length + q.length - 1 := by
  induction i with
  | zero => simp [outer]
  | succ i ih => show (inner _ _ _ _ _).length = _; rw [inner_length, ih]
theorem inner_bys (a : Nat) (q : List Nat) (i : Nat) (l : List Nat) (hl : Bys l) (j : Nat) : Bys (inner a q i l j) := by
  induction j with
  | zero => exact hl
  | succ j ih => exact addAt_bys ih _ _ (gm_lt _ _)
theorem outer_bys (p q : List Nat) (i : Nat) : Bys (outer p q i) := by
  induction i with
  | zero => intro n hn; have := List.eq_of_mem_replicate hn; omega
  | succ i ih => exact inner_bys _ _ _ _ ih _
theorem ev_inner (x : Nat) (hx : x < 256) (a : Nat) (q : List Nat) (i P : Nat) (l : List Nat) (hl : Bys l) (hi : i < P) (hlen : l.length = P + q.length - 1) (j : Nat) (hj : j ≤ q.length) :
    ev x (inner a q i l j) = ev x l ^^^ gm (gm a (xp x (P - 1 - i))) (pv x q j) := by
  induction j with
  | zero => show ev x l = ev x l ^^^ gm _ 0; rw [gm_zero_right, Nat.xor_zero]
  | succ j ih =>
    show ev x (addAt (inner a q i l j) (i + j) (gm a (q.getD j 0))) = ev x l ^^^ gm (gm a (xp x (P - 1 - i))) (pv x q j ^^^ gm (q.getD j 0) (xp x (q.length - 1 - j)))
    rw [ev_addAt x hx _ (inner_bys a q i l hl j) _ _ (by rw [inner_length, hlen]; omega) (gm_lt _ _), inner_length, hlen, ih (by omega), gm_xor _ _ _ (gm_lt _ _) (pv_lt _ _ _) (gm_lt _ _), Nat.xor_assoc]
    congr 2
    rw [show P + q.length - 1 - 1 - (i + j) = (P - 1 - i) + (q.length - 1 - j) from by omega, xp_add]
    rw [gm_assoc, gm_assoc]
    congr 1
    rw [← gm_assoc, gm_comm (q.getD j 0), gm_assoc]
theorem ev_zeros (x : Nat) (n : Nat) : ev x (List.replicate n 0) = 0 := by
  induction n with
  | zero => rfl
  | succ n ih => rw [List.replicate_succ', ev_snoc, ih, gm_zero_left]; rfl
theorem ev_outer (x : Nat) (hx : x < 256) (p q : List Nat) (_hp : Bys p) (hq : Bys q) (i : Nat) (hi : i ≤ p.length) : ev x (outer p q i) = gm (pv x p i) (ev x q) := by
  induction i with
  | zero => show ev x (List.replicate _ 0) = gm 0 _; rw [ev_zeros, gm_zero_left]
  | succ i ih =>
    show ev x (inner (p.getD i 0) q i (outer p q i) q.length) = gm (pv x p i ^^^ gm (p.getD i 0) (xp x (p.length - 1 - i))) (ev x q)
    rw [ev_inner x hx _ q i p.length _ (outer_bys p q i) (by omega) (outer_length p q i) _ (Nat.le_refl _), ih (by omega), ← ev_pv x hx q hq,
      xor_gm _ _ _ (ev_lt x q hq) (pv_lt _ _ _) (gm_lt _ _)]
theorem ev_tm (x : Nat) (hx : x < 256) (p q : List Nat) (hp : Bys p) (hq : Bys q) : ev x (tm p q) = gm (ev x p) (ev x q) := by
  unfold tm
  split
  · rename_i h
    rcases h with h | h
    · rw [List.length_eq_zero_iff.1 h]; show 0 = gm 0 _; rw [gm_zero_left]
    · rw [List.length_eq_zero_iff.1 h]; show 0 = gm _ 0; rw [gm_zero_right]
  · rw [ev_outer x hx p q hp hq _ (Nat.le_refl _), ← ev_pv x hx p hp]
theorem tm_length (p q : List Nat) (hp : p.length ≠ 0) (hq : q.length ≠ 0) : (tm p q).length = p.length + q.length - 1 := by
  unfold tm
  rw [if_neg (by omega), outer_length]
theorem tm_bys (p q : List Nat) : Bys (tm p q) := by
  unfold tm
  split
  · intro n hn; cases hn
  · exact outer_bys p q _
end Go.Proofs.Ytdofegphipbcdaa
