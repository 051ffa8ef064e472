/-
  What the document's search finds is what the word is read as. No condition: plain mathematics.
-/
import Derived.Test.YtdofegphipbcdaaTabs
import Derived.Test.YtdofegphipbcdaaBridge
namespace Go.Proofs.Ytdofegphipbcdaa

theorem addAt_none (l : List Nat) (i : Nat) : addAt l i 0 = l := by
  unfold addAt
  rw [Nat.xor_zero]
  apply List.ext_getElem?
  intro k
  by_cases h : i = k
  · subst h
    by_cases hi : i < l.length
    · rw [List.getElem?_set_self hi, List.getD_eq_getElem?_getD, List.getElem?_eq_getElem hi]; rfl
    · rw [List.getElem?_eq_none (by simp; omega), List.getElem?_eq_none (by omega)]
  · rw [List.getElem?_set_ne h]
theorem ft_e2 {l : List Nat} {i k a b : Nat} : Ft (syL l 6) (63 - i) (63 - k) a b 6 ↔ E2 (sy l) i k a b := by
  constructor
  · intro h j hj
    have := h j hj
    rw [syL_getD l j hj] at this
    exact this
  · intro h j hj
    rw [syL_getD l j hj]
    exact h j hj
theorem ft_e1 {l : List Nat} {i a : Nat} : Ft (syL l 6) (63 - i) 0 a 0 6 ↔ E1 (sy l) i a := by
  constructor
  · intro h j hj
    have := h j hj
    rw [syL_getD l j hj, gm_zero_left, Nat.xor_zero] at this
    exact this
  · intro h j hj
    rw [syL_getD l j hj, gm_zero_left, Nat.xor_zero]
    exact h j hj
theorem e1_first {l : List Nat} {i a : Nat} (ha : a < 256) (h : E1 (sy l) i a) : a = sy l 0 := by
  have := h 0 (by omega)
  rw [this]
  exact (gm_one a ha).symm
/-- The first symbol's damage, by the first two syndromes; the second's. -/
def ca (l : List Nat) (i k : Nat) : Nat := gm (sy l 1 ^^^ gm (sy l 0) (rt k)) (iv (rt i ^^^ rt k))
def cb (l : List Nat) (i k : Nat) : Nat := sy l 0 ^^^ ca l i k
theorem e2_cand {l : List Nat} {i k a b : Nat} (hi : i < 64) (hk : k < 64) (hik : i ≠ k) (ha : a < 256) (hb : b < 256) (h : E2 (sy l) i k a b) : ca l i k = a ∧ cb l i k = b := by
  have h0 : sy l 0 = a ^^^ b := by
    have := h 0 (by omega)
    rw [this]
    show gm a 1 ^^^ gm b 1 = _
    rw [gm_one a ha, gm_one b hb]
  have h1 : sy l 1 = gm a (rt i) ^^^ gm b (rt k) := by
    have := h 1 (by omega)
    rw [this]
    show gm a (gm 1 (rt i)) ^^^ gm b (gm 1 (rt k)) = _
    rw [gm_comm 1, gm_comm 1, gm_one _ (rt_lt i), gm_one _ (rt_lt k)]
  have hx0 : rt i ^^^ rt k ≠ 0 := fun e => hik (rt_inj hi hk (xor_zero_eq e))
  have hxl := xor_lt _ _ (rt_lt i) (rt_lt k)
  have hc : ca l i k = a := by
    unfold ca
    rw [h0, h1, xor_gm _ _ _ (rt_lt k) ha hb]
    have e1 : gm a (rt i) ^^^ gm b (rt k) ^^^ (gm a (rt k) ^^^ gm b (rt k)) = gm a (rt i ^^^ rt k) := by
      rw [gm_xor a _ _ ha (rt_lt i) (rt_lt k), Nat.xor_assoc, Nat.xor_comm (gm a (rt k)), ← Nat.xor_assoc (gm b (rt k)), Nat.xor_self, Nat.zero_xor]
    rw [e1, gm_assoc, gm_iv _ hxl hx0, gm_one a ha]
  refine ⟨hc, ?_⟩
  unfold cb
  rw [hc, h0, Nat.xor_comm a b, Nat.xor_assoc, Nat.xor_self, Nat.xor_zero]
/-- Places i and k fit. -/
def Two (l : List Nat) (i k : Nat) : Prop := ca l i k ≠ 0 ∧ cb l i k ≠ 0 ∧ E2 (sy l) i k (ca l i k) (cb l i k)
theorem ref_one {l : List Nat} (hl : l.length = 64) (hb : Bys l) (h0 : ¬ syL l 6 = [0, 0, 0, 0, 0, 0]) {i : Nat} (hi : i < 64) (h : E1 (sy l) i (sy l 0)) : IsDec l (some ((addAt (addAt l i (sy l 0)) i 0).take 58, 1)) := by
  rw [addAt_none]
  exact dec_one hl hb (syL_some h0) i _ hi (sy_lt hb 0) h
theorem ref_two {l : List Nat} (hl : l.length = 64) (hb : Bys l) {i k : Nat} (hik : i < k) (hk : k < 64) (h : Two l i k) : IsDec l (some ((addAt (addAt l i (ca l i k)) k (cb l i k)).take 58, 2)) :=
  dec_two hl hb i k _ _ (by omega) hk (by omega) (gm_lt _ _) (xor_lt _ _ (sy_lt hb 0) (gm_lt _ _)) h.1 h.2.1 h.2.2
theorem ref_none {l : List Nat} (hl : l.length = 64) (hb : Bys l) (h0 : ¬ syL l 6 = [0, 0, 0, 0, 0, 0]) (h1 : ∀ i, i < 64 → ¬ E1 (sy l) i (sy l 0)) (h2 : ∀ i k, i < k → k < 64 → ¬ Two l i k) : IsDec l none := by
  refine dec_none hl hb (syL_some h0) (fun i a hi ha h => ?_) (fun i j a b hi hj ha hb' a0 b0 h => ?_)
  · have e := e1_first ha h
    rw [e] at h
    exact h1 i hi h
  · have hs : E2 (sy l) j i b a := fun k hk => by rw [h k hk, Nat.xor_comm]
    obtain ⟨e1, e2⟩ := e2_cand (by omega) hi (by omega) hb' ha hs
    refine h2 j i hj hi ⟨by rw [e1]; exact b0, by rw [e2]; exact a0, ?_⟩
    rw [e1, e2]; exact hs
end Go.Proofs.Ytdofegphipbcdaa
