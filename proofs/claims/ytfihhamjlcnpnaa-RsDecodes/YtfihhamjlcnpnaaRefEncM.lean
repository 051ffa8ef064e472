/-
  The document's answer for a codeword: a message, moved up, divided by the rule: what is left stands behind it. It is the codeword. No condition: plain mathematics.
-/
import Derived.Test.YtfihhamjlcnpnaaNearWalk
namespace Go.Proofs.Ytfihhamjlcnpnaa

/-- The rule's coefficients. -/
def G7 : List Nat := 1 :: gl
theorem G7_bys : Bys G7 := by intro n hn; simp [G7, gl] at hn; omega
theorem G7_roots : allB 6 (fun k => ev (ex k) G7 == 0) = true := by decide +kernel
theorem G7_root (k : Nat) (h : k < 6) : ev (ex k) G7 = 0 := by simpa using allB_at G7_roots k h
theorem inner_getD (a : Nat) (q : List Nat) (i : Nat) (l : List Nat) (j : Nat) (h : i + j ≤ l.length) (t : Nat) :
    (inner a q i l j).getD t 0 = l.getD t 0 ^^^ (if i ≤ t ∧ t < i + j then gm a (q.getD (t - i) 0) else 0) := by
  induction j with
  | zero => rw [if_neg (by omega), Nat.xor_zero]; rfl
  | succ j ih =>
    show (addAt (inner a q i l j) (i + j) (gm a (q.getD j 0))).getD t 0 = _
    rw [addAt_getD _ _ _ _ (by rw [inner_length]; omega), ih (by omega)]
    by_cases e : t = i + j
    · subst e
      rw [if_neg (by omega), if_pos rfl, if_pos (by omega), Nat.xor_zero, show i + j - i = j from by omega]
    · rw [if_neg e, Nat.xor_zero]
      by_cases h2 : i ≤ t ∧ t < i + j
      · rw [if_pos h2, if_pos (by omega)]
      · rw [if_neg h2, if_neg (by omega)]
/-- The division behind i steps. -/
def dv (l : List Nat) : Nat → List Nat
  | 0 => l ++ [0, 0, 0, 0, 0, 0]
  | i + 1 => inner ((dv l i).getD i 0) G7 i (dv l i) 7
theorem dv_length (l : List Nat) (i : Nat) : (dv l i).length = l.length + 6 := by
  induction i with
  | zero => simp [dv]
  | succ i ih => show (inner _ _ _ _ _).length = _; rw [inner_length, ih]
theorem dv_bys {l : List Nat} (hl : Bys l) (i : Nat) : Bys (dv l i) := by
  induction i with
  | zero =>
    intro n hn
    rcases List.mem_append.1 hn with h | h
    · exact hl n h
    · simp at h; omega
  | succ i ih => exact inner_bys _ _ _ _ ih _
theorem dv_ev {l : List Nat} (hl : Bys l) (hl58 : l.length = 58) (k : Nat) (hk : k < 6) (i : Nat) (hi : i ≤ 58) : ev (ex k) (dv l i) = ev (ex k) (dv l 0) := by
  induction i with
  | zero => rfl
  | succ i ih =>
    show ev (ex k) (inner ((dv l i).getD i 0) G7 i (dv l i) 7) = _
    rw [ev_inner (ex k) (ex_lt k) _ G7 i 58 (dv l i) (dv_bys hl i) (by omega) (by rw [dv_length, hl58]; rfl) 7 (Nat.le_refl _)]
    have h0 : pv (ex k) G7 7 = 0 := by rw [← G7_root k hk]; exact (ev_pv (ex k) (ex_lt k) G7 G7_bys).symm
    rw [h0, gm_zero_right, Nat.xor_zero, ih (by omega)]
theorem dv_zero {l : List Nat} (hl : Bys l) (hl58 : l.length = 58) (i : Nat) (hi : i ≤ 58) (t : Nat) (ht : t < i) : (dv l i).getD t 0 = 0 := by
  induction i with
  | zero => omega
  | succ i ih =>
    show (inner ((dv l i).getD i 0) G7 i (dv l i) 7).getD t 0 = 0
    rw [inner_getD _ _ _ _ _ (by rw [dv_length, hl58]; omega)]
    by_cases e : t = i
    · subst e
      rw [if_pos (by omega), Nat.sub_self]
      show _ ^^^ gm _ 1 = 0
      rw [gm_one _ ((dv_bys hl t).getD t), Nat.xor_self]
    · rw [if_neg (by omega), Nat.xor_zero]
      exact ih (by omega) (by omega)
theorem dv_split {l : List Nat} (hl : Bys l) (hl58 : l.length = 58) : dv l 58 = List.replicate 58 0 ++ (dv l 58).drop 58 := by
  have hlen := dv_length l 58
  have h : (dv l 58).take 58 = List.replicate 58 0 := by
    apply getD_ext (by rw [List.length_take, hlen]; simp; omega)
    intro i hi
    rw [List.length_take, hlen] at hi
    rw [getD_take _ _ _ (by omega), dv_zero hl hl58 58 (Nat.le_refl _) i (by omega)]
    rw [List.getD_eq_getElem?_getD, List.getElem?_replicate, if_pos (by omega)]; rfl
  rw [← h, List.take_append_drop]
theorem dv_enc {l : List Nat} (hl : Bys l) (hl58 : l.length = 58) : l ++ (dv l 58).drop 58 = encL l := by
  have hdl : ((dv l 58).drop 58).length = 6 := by rw [List.length_drop, dv_length, hl58]
  have hdb : Bys ((dv l 58).drop 58) := fun n hn => dv_bys hl 58 n (List.mem_of_mem_drop hn)
  have hz : Bys (List.replicate 58 0) := fun n hn => by have := List.eq_of_mem_replicate hn; omega
  apply cw_msg _ (encL_cw hl58 hl)
  · rw [encL_take hl58, List.take_append_of_le_length (by omega), List.take_of_length_le (by omega)]
  · refine ⟨by rw [List.length_append, hdl, hl58], ?_, ?_⟩
    · intro n hn
      rcases List.mem_append.1 hn with h | h
      · exact hl n h
      · exact hdb n h
    · intro k hk
      rw [ev_append _ (ex_lt k) l _ hl hdb, hdl]
      have h1 := dv_ev hl hl58 k hk 58 (Nat.le_refl _)
      rw [dv_split hl hl58, ev_append _ (ex_lt k) _ _ hz hdb, ev_zeros, gm_zero_left, Nat.zero_xor] at h1
      rw [h1]
      show _ ^^^ ev (ex k) (l ++ [0, 0, 0, 0, 0, 0]) = 0
      rw [ev_append _ (ex_lt k) l _ hl (by intro n hn; simp at hn; omega)]
      rw [show ev (ex k) [0, 0, 0, 0, 0, 0] = 0 from ev_zeros (ex k) 6, Nat.xor_zero]
      exact Nat.xor_self _
end Go.Proofs.Ytfihhamjlcnpnaa
