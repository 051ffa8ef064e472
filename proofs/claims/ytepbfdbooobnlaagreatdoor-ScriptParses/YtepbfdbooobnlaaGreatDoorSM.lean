/-
  Numbers as words: what a word of digits spells, and that a number can be written in one way alone. Lists of bytes alone, no program.
-/
import Derived.Lib.AtoiAllCases
import Derived.Lib.ItoaNum
import Derived.Lib.ItoaLen
import Derived.Lib.SplitLaws
namespace Go.Proofs.YtepbfdbooobnlaaGreatDoor
open Go.Lib
/-- What digits spell, behind acc; none: one of them is no digit. -/
def dval (acc : Nat) : List UInt8 → Option Nat
  | [] => some acc
  | c :: r => if 48 ≤ c.toNat ∧ c.toNat ≤ 57 then dval (acc * 10 + (c.toNat - 48)) r else none
theorem dval_app (c : UInt8) : ∀ (l : List UInt8) (acc : Nat), dval acc (l ++ [c]) = (dval acc l).bind fun x => if 48 ≤ c.toNat ∧ c.toNat ≤ 57 then some (x * 10 + (c.toNat - 48)) else none
  | [], acc => by simp [dval]
  | d :: r, acc => by
    simp only [List.cons_append, dval]
    split
    · exact dval_app c r _
    · rfl
theorem dval_ge : ∀ (l : List UInt8) (acc x : Nat), dval acc l = some x → acc ≤ x
  | [], acc, x, h => by simp [dval] at h; omega
  | c :: r, acc, x, h => by
    simp only [dval] at h
    split at h
    · have := dval_ge r _ x h; omega
    · cases h
theorem dig_byte (d : Nat) (h : d < 10) : (UInt8.ofNat (48 + d)).toNat = 48 + d := by
  simp [UInt8.toNat_ofNat']; omega
theorem dec_small {u : Nat} (h : u < 10) : decDigits u = [UInt8.ofNat (48 + u)] := by rw [decDigits, dif_pos h]
theorem dec_big {u : Nat} (h : ¬ u < 10) : decDigits u = decDigits (u / 10) ++ [UInt8.ofNat (48 + u % 10)] := by rw [decDigits, dif_neg h]
theorem dval_dec (u : Nat) : dval 0 (decDigits u) = some u := by
  induction u using Nat.strongRecOn with
  | _ u ih =>
    by_cases h : u < 10
    · rw [dec_small h]
      simp only [dval, dig_byte u h]
      rw [if_pos (by omega)]
      congr 1; omega
    · rw [dec_big h, dval_app, ih (u / 10) (by omega)]
      simp only [Option.bind_some, dig_byte (u % 10) (by omega)]
      rw [if_pos (by omega)]
      congr 1; omega
theorem dec_ne (u : Nat) : decDigits u ≠ [] := by
  by_cases h : u < 10
  · rw [dec_small h]; simp
  · rw [dec_big h]; simp
theorem dec_head (u : Nat) : ∀ c r, decDigits u = c :: r → (48 ≤ c.toNat ∧ c.toNat ≤ 57) ∧ (c.toNat = 48 → u = 0) := by
  induction u using Nat.strongRecOn with
  | _ u ih =>
    intro c r e
    by_cases h : u < 10
    · rw [dec_small h] at e
      injection e with e1 e2
      subst e1
      rw [dig_byte u h]
      exact ⟨by omega, by omega⟩
    · rw [dec_big h] at e
      cases e3 : decDigits (u / 10) with
      | nil => exact absurd e3 (dec_ne _)
      | cons c' r' =>
        rw [e3] at e
        injection e with e1 e2
        subst e1
        obtain ⟨h1, h2⟩ := ih (u / 10) (by omega) c' r' e3
        exact ⟨h1, fun h3 => by have := h2 h3; omega⟩
theorem byte_ext {a b : UInt8} (h : a.toNat = b.toNat) : a = b := UInt8.toNat_inj.1 h
theorem dec_val (l : List UInt8) : ∀ x, l ≠ [] → dval 0 l = some x → (∀ r, l = 48 :: r → r = []) → decDigits x = l := by
  induction hn : l.length generalizing l with
  | zero => intro x h; exact absurd (List.length_eq_zero_iff.1 hn) h
  | succ n ih =>
    intro x h0 h1 h2
    have e := List.dropLast_concat_getLast h0
    generalize l.dropLast = l' at e
    generalize l.getLast h0 = c at e
    subst e
    rw [dval_app] at h1
    cases e3 : dval 0 l' with
    | none => rw [e3] at h1; cases h1
    | some y =>
      rw [e3] at h1
      simp only [Option.bind_some] at h1
      split at h1
      · rename_i hc
        injection h1 with h1
        by_cases hl : l' = []
        · subst hl
          simp [dval] at e3
          subst e3
          have hx : x < 10 := by omega
          rw [dec_small hx]
          simp only [List.nil_append]
          congr 1
          apply byte_ext
          rw [dig_byte x hx]; omega
        · have hd : decDigits y = l' := by
            refine ih l' (by simp at hn; omega) y hl e3 fun r hr => ?_
            subst hr
            have := h2 (r ++ [c]) (by simp)
            simp at this
          have hy : y ≠ 0 := by
            rintro rfl
            rw [dec_small (by omega)] at hd
            subst hd
            have := h2 [c] rfl
            simp at this
          have hx : ¬ x < 10 := by omega
          rw [dec_big hx, show x / 10 = y by omega, hd]
          congr 2
          apply byte_ext
          rw [dig_byte (x % 10) (by omega)]; omega
      · cases h1
theorem parse_ok : ∀ (l : List UInt8) (acc x : Nat), dval acc l = some x → x < 18446744073709551616 → parseUint10 acc l = .ok x
  | [], acc, x, h, _ => by simp [dval] at h; subst h; rfl
  | c :: r, acc, x, h, hx => by
    simp only [dval] at h
    split at h
    · rename_i hc
      have := dval_ge r _ x h
      rw [parseUint10, if_pos hc, if_neg (by omega), if_neg (by omega)]
      exact parse_ok r _ x h hx
    · cases h
theorem parse_val : ∀ (l : List UInt8) (acc x : Nat), parseUint10 acc l = .ok x → dval acc l = some x
  | [], acc, x, h => by simp [parseUint10] at h; simp [dval, h]
  | c :: r, acc, x, h => by
    simp only [parseUint10] at h
    split at h
    · rename_i hc
      rw [dval, if_pos hc]
      split at h
      · cases h
      · split at h
        · cases h
        · exact parse_val r _ x h
    · cases h
/-- An int. -/
def I64 (v : Int) : Prop := -9223372036854775808 ≤ v ∧ v ≤ 9223372036854775807
theorem itoa_neg' {v : Int} (h : v < 0) : itoa v = 45 :: decDigits v.natAbs := by rw [itoa, if_pos h]
theorem itoa_pos' {v : Int} (h : ¬ v < 0) : itoa v = decDigits v.toNat := by rw [itoa, if_neg h]
theorem atoi_itoa {v : Int} (h : I64 v) : atoiAll (itoa v) = .ok v := by
  obtain ⟨h1, h2⟩ := h
  by_cases hv : v < 0
  · rw [itoa_neg' hv, atoiAll_minus, parseMag, if_neg (dec_ne _), parse_ok _ 0 _ (dval_dec _) (by omega), signed, if_neg (by omega)]
    congr 1; omega
  · rw [itoa_pos' hv]
    cases e : decDigits v.toNat with
    | nil => exact absurd e (dec_ne _)
    | cons c r =>
      obtain ⟨h3, _⟩ := dec_head _ c r e
      rw [atoiAll_plain c r (by omega) (by omega), parseMag, if_neg (by simp), ← e, parse_ok _ 0 _ (dval_dec _) (by omega), signless, if_neg (by omega)]
      congr 1; omega
/-- The number that a word writes, if it is written as numbers are. -/
def num (l : List UInt8) : Option Int :=
  match atoiAll l with
  | .ok v => if itoa v = l then some v else none
  | _ => none
theorem num_iff (l : List UInt8) (v : Int) : num l = some v ↔ l = itoa v ∧ I64 v := by
  unfold num
  constructor
  · intro h
    split at h
    · rename_i u hu
      split at h
      · rename_i hi
        injection h with h
        subst h
        exact ⟨hi.symm, atoiAll_bounds hu⟩
      · cases h
    · cases h
  · rintro ⟨rfl, h⟩
    rw [atoi_itoa h]
    simp
/-- The same, byte by byte from the left. -/
def whl (l : List UInt8) : Option Int :=
  if l.head? = some 45 then
    if l.tail = [] ∨ l.tail.head? = some 48 ∨ 19 < l.tail.length then none
    else (dval 0 l.tail).bind fun x => if x ≤ 9223372036854775808 then some (-(x : Int)) else none
  else
    if l = [] ∨ (l.head? = some 48 ∧ 1 < l.length) ∨ 19 < l.length then none
    else (dval 0 l).bind fun x => if x ≤ 9223372036854775807 then some (x : Int) else none
theorem nDigits_le : ∀ (k u : Nat), u < 10 ^ (k + 1) → nDigits u ≤ k + 1
  | 0, u, h => by rw [nDigits_small (by simpa using h)]; omega
  | k + 1, u, h => by
    by_cases hu : u < 10
    · rw [nDigits_small hu]; omega
    · rw [nDigits_big hu]
      have := nDigits_le k (u / 10) (by rw [Nat.pow_succ] at h; omega)
      omega
theorem dec_len {u : Nat} (h : u < 10000000000000000000) : (decDigits u).length ≤ 19 := by
  rw [decDigits_length]; exact nDigits_le 18 u h
theorem whl_iff (l : List UInt8) (v : Int) : whl l = some v ↔ l = itoa v ∧ I64 v := by
  unfold whl
  constructor
  · intro h
    split at h
    · rename_i h45
      split at h
      · cases h
      · rename_i hn
        simp only [not_or] at hn
        obtain ⟨n1, n2, n3⟩ := hn
        cases l with
        | nil => simp at h45
        | cons c r =>
          simp at h45
          subst h45
          simp only [List.tail_cons] at h n1 n2 n3
          cases e : dval 0 r with
          | none => rw [e] at h; cases h
          | some x =>
            rw [e] at h
            simp only [Option.bind_some] at h
            split at h
            · rename_i hx
              injection h with h
              have hd := dec_val r x n1 e (fun r' hr => by rw [hr] at n2; simp at n2)
              have hx0 : x ≠ 0 := by
                rintro rfl
                rw [dec_small (by omega)] at hd
                subst hd
                simp at n2
              refine ⟨?_, ⟨by omega, by omega⟩⟩
              rw [itoa_neg' (by omega), show v.natAbs = x by omega, hd]
            · cases h
    · rename_i h45
      split at h
      · cases h
      · rename_i hn
        simp only [not_or] at hn
        obtain ⟨n1, n2, n3⟩ := hn
        cases e : dval 0 l with
        | none => rw [e] at h; cases h
        | some x =>
          rw [e] at h
          simp only [Option.bind_some] at h
          split at h
          · rename_i hx
            injection h with h
            have hd := dec_val l x n1 e (fun r' hr => by
              subst hr
              by_cases hr' : r' = []
              · exact hr'
              · exfalso; apply n2; cases r' with
                | nil => exact absurd rfl hr'
                | cons a b => simp)
            refine ⟨?_, ⟨by omega, by omega⟩⟩
            rw [itoa_pos' (by omega), show v.toNat = x by omega, hd]
          · cases h
  · rintro ⟨rfl, h1, h2⟩
    by_cases hv : v < 0
    · rw [itoa_neg' hv]
      rw [if_pos (show (45 :: decDigits v.natAbs).head? = some 45 from rfl), if_neg, List.tail_cons, dval_dec]
      · simp only [Option.bind_some]
        rw [if_pos (by omega)]
        congr 1; omega
      · rintro (h | h | h)
        · exact dec_ne _ h
        · cases e : decDigits v.natAbs with
          | nil => exact dec_ne _ e
          | cons c r =>
            rw [e] at h
            simp at h
            subst h
            have := (dec_head _ _ _ e).2 rfl
            omega
        · have := dec_len (u := v.natAbs) (by omega)
          rw [List.tail_cons] at h
          omega
    · rw [itoa_pos' hv]
      cases e : decDigits v.toNat with
      | nil => exact absurd e (dec_ne _)
      | cons c r =>
        obtain ⟨h3, h4⟩ := dec_head _ c r e
        rw [if_neg, if_neg, ← e, dval_dec]
        · simp only [Option.bind_some]
          rw [if_pos (by omega)]
          congr 1; omega
        · rintro (h | h | h)
          · cases h
          · obtain ⟨h5, h6⟩ := h
            simp at h5
            subst h5
            have := h4 rfl
            rw [this, dec_small (by omega)] at e
            injection e with _ e
            subst e
            simp at h6
          · rw [← e] at h
            have := dec_len (u := v.toNat) (by omega)
            omega
        · intro h
          simp at h
          subst h
          have : (45 : UInt8).toNat = 45 := rfl
          omega
theorem whl_num (l : List UInt8) : whl l = num l := by
  cases e : num l with
  | some v => exact (whl_iff l v).2 ((num_iff l v).1 e)
  | none =>
    cases e2 : whl l with
    | none => rfl
    | some v => rw [(num_iff l v).2 ((whl_iff l v).1 e2)] at e; cases e
theorem num_itoa {v : Int} (h : I64 v) : num (itoa v) = some v := (num_iff _ _).2 ⟨rfl, h⟩
theorem itoa_ne (v : Int) : itoa v ≠ [] := by
  by_cases hv : v < 0
  · rw [itoa_neg' hv]; simp
  · rw [itoa_pos' hv]; exact dec_ne _
/-- A numeral's bytes are digits and the sign. -/
theorem dec_mem (u : Nat) : ∀ c ∈ decDigits u, 48 ≤ c.toNat ∧ c.toNat ≤ 57 := by
  induction u using Nat.strongRecOn with
  | _ u ih =>
    by_cases h : u < 10
    · rw [dec_small h]
      intro c hc
      rw [List.mem_singleton] at hc
      subst hc
      rw [dig_byte u h]; omega
    · rw [dec_big h]
      intro c hc
      rcases List.mem_append.1 hc with hc | hc
      · exact ih _ (by omega) c hc
      · rw [List.mem_singleton] at hc
        subst hc
        rw [dig_byte (u % 10) (by omega)]; omega
theorem itoa_mem (v : Int) : ∀ c ∈ itoa v, c.toNat = 45 ∨ 48 ≤ c.toNat ∧ c.toNat ≤ 57 := by
  intro c hc
  by_cases hv : v < 0
  · rw [itoa_neg' hv] at hc
    rcases List.mem_cons.1 hc with rfl | hc
    · exact Or.inl rfl
    · exact Or.inr (dec_mem _ c hc)
  · rw [itoa_pos' hv] at hc
    exact Or.inr (dec_mem _ c hc)
theorem itoa_len {v : Int} (h : I64 v) : (itoa v).length ≤ 20 := by
  obtain ⟨h1, h2⟩ := h
  by_cases hv : v < 0
  · rw [itoa_neg' hv, List.length_cons]
    have := dec_len (u := v.natAbs) (by omega)
    omega
  · rw [itoa_pos' hv]
    have := dec_len (u := v.toNat) (by omega)
    omega
end Go.Proofs.YtepbfdbooobnlaaGreatDoor
