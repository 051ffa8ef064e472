/-
  What lies in a page that Lay laid, and what is read of it behind damage: mathematics. No condition. FrameBlank, walked: of a tag's chunk of which at most 4 bytes are not ff no body is read. Condition: the bytes and the turns came in as slices do.
-/
import Derived.Test.YtifjmilegogbaaaGreatUPage
namespace Go.Proofs.YtifjmilegogbaaaGreat
open Go.RowKit
set_option maxRecDepth 100000

/-- A word that is three or four symbols from a codeword is read as none. -/
theorem dec_told {x c : List Nat} {r : Option (List Nat × Nat)} (h : IsDec x r) (hc : Cw c) (h2 : 2 < ds x c) (h4 : ds x c ≤ 4) : r = none := by
  rcases h with ⟨h, -⟩ | ⟨c', hc', he, hd⟩
  · exact h
  · exfalso
    have h1 : ds c' c ≤ 6 := by
      have := ds_tri c' x c
      rw [ds_comm c' x] at this
      omega
    have e := cw_unique hc' hc h1
    rw [e] at hd
    omega
/-- The first k of some rows, one behind the other. -/
def flat (F : Nat → List Nat) (k : Nat) : List Nat := ((List.range k).map F).flatten
theorem flat_succ (F : Nat → List Nat) (k : Nat) : flat F (k + 1) = flat F k ++ F k := by simp [flat, List.range_succ]
theorem flat_length {F : Nat → List Nat} {z : Nat} : ∀ k, (∀ i, i < k → (F i).length = z) → (flat F k).length = k * z := by
  intro k
  induction k with
  | zero => intro _; simp [flat]
  | succ k ih =>
    intro h
    rw [flat_succ, List.length_append, ih (fun i hi => h i (by omega)), h k (by omega), Nat.add_mul, Nat.one_mul]
theorem part_flat {F : Nat → List Nat} {z : Nat} : ∀ k, (∀ i, i < k → (F i).length = z) → ∀ i, i < k → part z (flat F k) i = F i := by
  intro k
  induction k with
  | zero => intro _ i hi; omega
  | succ k ih =>
    intro h i hi
    have hl := flat_length k (fun i hi => h i (by omega))
    rw [flat_succ]
    by_cases hk : i < k
    · rw [← ih (fun i hi => h i (by omega)) i hk]
      have h1 : (i + 1) * z ≤ k * z := Nat.mul_le_mul_right z hk
      rw [Nat.add_mul, Nat.one_mul] at h1
      simp only [part]
      rw [List.drop_append_of_le_length (by omega), List.take_append_of_le_length (by rw [List.length_drop]; omega)]
    · have e : i = k := by omega
      subst e
      simp only [part]
      rw [List.drop_append, List.drop_eq_nil_of_le (by omega), hl, Nat.sub_self, List.drop_zero, List.nil_append, List.take_of_length_le (by rw [h i (by omega)]; exact Nat.le_refl _)]
theorem flat_bys {F : Nat → List Nat} : ∀ k, (∀ i, i < k → Bys (F i)) → Bys (flat F k) := by
  intro k
  induction k with
  | zero => intro _ x hx; simp [flat] at hx
  | succ k ih =>
    intro h x hx
    rw [flat_succ] at hx
    rcases List.mem_append.1 hx with h1 | h1
    · exact ih (fun i hi => h i (by omega)) x h1
    · exact h k (by omega) x h1

/-- What is laid of data Dt and body Z. -/
def msgOf (Dt Z : List Nat) : List Nat := Dt ++ (Z ++ mk)
theorem msg_length {Dt Z : List Nat} (hD : Dt.length = 174) (hZ : Z.length = 50) : (msgOf Dt Z).length = 4 * 58 := by
  simp [msgOf, hD, hZ, mk_length]
theorem msg_bys {Dt Z : List Nat} (hD : Bys Dt) (hZ : Bys Z) : Bys (msgOf Dt Z) := by
  intro x hx
  rcases List.mem_append.1 hx with h1 | h1
  · exact hD x h1
  · rcases List.mem_append.1 h1 with h2 | h2
    · exact hZ x h2
    · exact mk_bys x h2
theorem msg_data {Dt Z : List Nat} (hD : Dt.length = 174) : part 58 (msgOf Dt Z) 0 ++ part 58 (msgOf Dt Z) 1 ++ part 58 (msgOf Dt Z) 2 = Dt := by
  have e : ∀ i, i < 3 → part 58 (msgOf Dt Z) i = (Dt.drop (i * 58)).take 58 := fun i hi => by
    simp only [part, msgOf]
    rw [List.drop_append_of_le_length (by omega), List.take_append_of_le_length (by simp; omega)]
  rw [e 0 (by omega), e 1 (by omega), e 2 (by omega)]
  simp only [Nat.zero_mul, List.drop_zero, Nat.one_mul]
  have h1 : Dt = Dt.take 58 ++ Dt.drop 58 := (List.take_append_drop 58 Dt).symm
  have h2 : Dt.drop 58 = (Dt.drop 58).take 58 ++ (Dt.drop 58).drop 58 := (List.take_append_drop 58 _).symm
  rw [List.drop_drop] at h2
  have h3 : (Dt.drop (2 * 58)).take 58 = Dt.drop (58 + 58) := by rw [List.take_of_length_le (by simp; omega)]
  rw [h3, List.append_assoc, ← h2, ← h1]
theorem msg_body {Dt Z : List Nat} (hD : Dt.length = 174) (hZ : Z.length = 50) : part 58 (msgOf Dt Z) 3 = Z ++ mk := by
  simp only [part, msgOf]
  rw [List.drop_append, List.drop_eq_nil_of_le (by omega), hD, List.nil_append, show 3 * 58 - 174 = 0 from rfl, List.drop_zero, List.take_of_length_le (by rw [List.length_append, hZ, mk_length]; omega)]
/-- The codewords of a page. -/
def wordOf (Dt Z : List Nat) (i : Nat) : List Nat := encL (part 58 (msgOf Dt Z) i)
theorem word_cw {Dt Z : List Nat} (hD : Dt.length = 174) (bD : Bys Dt) (hZ : Z.length = 50) (bZ : Bys Z) (i : Nat) (hi : i < 4) : Cw (wordOf Dt Z i) :=
  encL_cw (part_length (msg_length hD hZ) i hi) (part_bys (msg_bys bD bZ) i)
theorem word_take {Dt Z : List Nat} (hD : Dt.length = 174) (hZ : Z.length = 50) (i : Nat) (hi : i < 4) : (wordOf Dt Z i).take 58 = part 58 (msgOf Dt Z) i :=
  encL_take (part_length (msg_length hD hZ) i hi)
/-- In how many bytes chunk i of the page X was turned. -/
def hurt (Dt Z X : List Nat) (i : Nat) : Nat := ds (part 64 X i) (wordOf Dt Z i)

theorem good_hurt {Dt Z X : List Nat} (hD : Dt.length = 174) (bD : Bys Dt) (hZ : Z.length = 50) (bZ : Bys Z) {i : Nat} (hi : i < 4) (h2 : hurt Dt Z X i ≤ 2) {r : Option (List Nat × Nat)} (h : IsDec (part 64 X i) r) : r = some (part 58 (msgOf Dt Z) i, hurt Dt Z X i) := by
  have := h.of (word_cw hD bD hZ bZ i hi) h2
  rwa [word_take hD hZ i hi] at this
theorem mends_data {Dt Z X R : List Nat} {d c : Nat} (hD : Dt.length = 174) (bD : Bys Dt) (hZ : Z.length = 50) (bZ : Bys Z) (hX : X.length = 256) (h : DatR X R d c)
    (h2 : max (max (hurt Dt Z X 0) (hurt Dt Z X 1)) (hurt Dt Z X 2) ≤ 2) : R = Dt ∧ d = max (max (hurt Dt Z X 0) (hurt Dt Z X 1)) (hurt Dt Z X 2) ∧ c = 0 := by
  rcases h with ⟨h, _⟩ | ⟨_, ⟨i, hi, hn⟩, _⟩ | ⟨_, r0, r1, r2, g0, g1, g2, rfl, rfl, rfl⟩
  · exact (h hX).elim
  · have h3 : hurt Dt Z X i ≤ 2 := by
      have : i = 0 ∨ i = 1 ∨ i = 2 := by omega
      rcases this with rfl | rfl | rfl <;> omega
    have := good_hurt hD bD hZ bZ (by omega) h3 hn
    cases this
  · have e0 := Option.some.inj (good_hurt hD bD hZ bZ (by omega) (show hurt Dt Z X 0 ≤ 2 by omega) g0.1)
    have e1 := Option.some.inj (good_hurt hD bD hZ bZ (by omega) (show hurt Dt Z X 1 ≤ 2 by omega) g1.1)
    have e2 := Option.some.inj (good_hurt hD bD hZ bZ (by omega) (show hurt Dt Z X 2 ≤ 2 by omega) g2.1)
    subst e0 e1 e2
    exact ⟨msg_data hD, rfl, rfl⟩
theorem told_data {Dt Z X R : List Nat} {d c : Nat} (hD : Dt.length = 174) (bD : Bys Dt) (hZ : Z.length = 50) (bZ : Bys Z) (hX : X.length = 256) (h : DatR X R d c)
    (h2 : 2 < max (max (hurt Dt Z X 0) (hurt Dt Z X 1)) (hurt Dt Z X 2)) (h4 : max (max (hurt Dt Z X 0) (hurt Dt Z X 1)) (hurt Dt Z X 2) ≤ 4) : R = [] ∧ d = 0 ∧ c = 5 := by
  rcases h with ⟨h, _⟩ | ⟨_, _, rfl, rfl, rfl⟩ | ⟨_, r0, r1, r2, g0, g1, g2, _⟩
  · exact (h hX).elim
  · exact ⟨rfl, rfl, rfl⟩
  · exfalso
    have t : ∀ i (r : List Nat × Nat), i < 3 → Good X i r → ¬ (2 < hurt Dt Z X i ∧ hurt Dt Z X i ≤ 4) := fun i r hi g hh => by
      have := dec_told g.1 (word_cw hD bD hZ bZ i (by omega)) hh.1 hh.2
      cases this
    have t0 := t 0 r0 (by omega) g0
    have t1 := t 1 r1 (by omega) g1
    have t2 := t 2 r2 (by omega) g2
    omega
theorem mends_body {Dt Z X R : List Nat} {d c : Nat} (hD : Dt.length = 174) (bD : Bys Dt) (hZ : Z.length = 50) (bZ : Bys Z) (hX : X.length = 256) (h : BodR X R d c)
    (h2 : hurt Dt Z X 3 ≤ 2) : R = Z ∧ d = hurt Dt Z X 3 ∧ c = 0 := by
  rcases h with ⟨h, _⟩ | ⟨_, hn, _⟩ | ⟨_, r, g, h⟩
  · exact (h hX).elim
  · have := good_hurt hD bD hZ bZ (by omega) h2 hn
    cases this
  · have e := Option.some.inj (good_hurt hD bD hZ bZ (by omega) h2 g.1)
    subst e
    have em := msg_body hD hZ
    rcases h with ⟨h1, _⟩ | ⟨_, rfl, rfl, rfl⟩
    · refine (h1 ?_).elim
      show (part 58 (msgOf Dt Z) 3).drop 50 = mk
      rw [em, List.drop_append, List.drop_eq_nil_of_le (by omega), hZ]
      rfl
    · refine ⟨?_, rfl, rfl⟩
      show (part 58 (msgOf Dt Z) 3).take 50 = Z
      rw [em, List.take_append_of_le_length (by omega), List.take_of_length_le (by omega)]
theorem told_body {Dt Z X R : List Nat} {d c : Nat} (hD : Dt.length = 174) (bD : Bys Dt) (hZ : Z.length = 50) (bZ : Bys Z) (hX : X.length = 256) (h : BodR X R d c)
    (h2 : 2 < hurt Dt Z X 3) (h4 : hurt Dt Z X 3 ≤ 4) : R = [] ∧ d = 0 ∧ c = 5 := by
  rcases h with ⟨h, _⟩ | ⟨_, hn, rfl, rfl, rfl⟩ | ⟨_, r, g, h⟩
  · exact (h hX).elim
  · exact ⟨rfl, rfl, rfl⟩
  · have := dec_told g.1 (word_cw hD bD hZ bZ 3 (by omega)) h2 h4
    cases this
end Go.Proofs.YtifjmilegogbaaaGreat
namespace Go.Proofs.YtifjmilegogbaaaGreat
open Go.RowKit
set_option maxRecDepth 100000

/-- An erased chunk. -/
def ff64 : List Nat := List.replicate 64 255
theorem ff_getD (i : Nat) (h : i < 64) : ff64.getD i 0 = 255 := by
  rw [ff64, List.getD_eq_getElem?_getD, List.getElem?_replicate, if_pos h]; rfl
theorem wt_le_one {f : Nat → Nat} {k : Nat} (h : ∀ i, i ≠ k → f i = 0) : ∀ n, wt f n ≤ if k < n then 1 else 0 := by
  intro n
  induction n with
  | zero => simp [wt]
  | succ n ih =>
    show wt f n + (if f n = 0 then 0 else 1) ≤ _
    by_cases hk : n = k
    · subst hk
      rw [if_neg (Nat.lt_irrefl n)] at ih
      rw [if_pos (Nat.lt_succ_self n)]
      split <;> omega
    · rw [if_pos (h n hk)]
      by_cases hn : k < n
      · rw [if_pos hn] at ih; rw [if_pos (by omega)]; omega
      · rw [if_neg hn] at ih; omega
theorem ds_close {a b : List Nat} {k : Nat} (h : ∀ i, i ≠ k → a.getD i 0 = b.getD i 0) : ds a b ≤ 1 := by
  have := wt_le_one (f := df a b) (k := k) (fun i hi => df_zero.2 (h i hi)) 64
  show wt (df a b) 64 ≤ 1
  split at this <;> omega
theorem wt_ge {f : Nat → Nat} {a : Nat} : ∀ n, (∀ i, a ≤ i → i < a + n → f i ≠ 0) → wt f a + n ≤ wt f (a + n) := by
  intro n
  induction n with
  | zero => intro _; exact Nat.le_refl _
  | succ n ih =>
    intro h
    have h1 := ih (fun i h1 h2 => h i h1 (by omega))
    have h2 := h (a + n) (by omega) (by omega)
    show _ ≤ wt f (a + n) + (if f (a + n) = 0 then 0 else 1)
    rw [if_neg h2]
    omega
theorem wt_mono {f : Nat → Nat} {a : Nat} : ∀ n, wt f a ≤ wt f (a + n) := by
  intro n
  induction n with
  | zero => exact Nat.le_refl _
  | succ n ih => exact Nat.le_trans ih (Nat.le_add_right _ _)
theorem mk_no (i : Nat) (h : i < 8) : mk.getD i 0 ≠ 255 := by
  have : ∀ i, i < 8 → mk.getD i 0 ≠ 255 := by decide
  exact this i h
/-- A codeword that bears the mark is far from an erased chunk. -/
theorem far_ff {c : List Nat} (h : (c.take 58).drop 50 = mk) : 8 ≤ ds c ff64 := by
  have hc : ∀ i, 50 ≤ i → i < 50 + 8 → df c ff64 i ≠ 0 := fun i h1 h2 => by
    rw [Ne, df_zero, ff_getD i (by omega)]
    have e : c.getD i 0 = mk.getD (i - 50) 0 := by
      rw [← h]
      simp [List.getD_eq_getElem?_getD, List.getElem?_drop, List.getElem?_take]
      rw [if_pos (by omega)]
      congr 2
      omega
    rw [e]
    exact mk_no _ (by omega)
  have h1 : wt (df c ff64) 50 + 8 ≤ wt (df c ff64) 58 := wt_ge (f := df c ff64) (a := 50) 8 hc
  have h2 : wt (df c ff64) 58 ≤ wt (df c ff64) 64 := wt_mono (f := df c ff64) (a := 58) 6
  show 8 ≤ wt (df c ff64) 64
  omega
theorem no_body {x : List Nat} {r : List Nat × Nat} (h : IsDec x (some r)) (hx : ds x ff64 ≤ 4) (hm : r.1.drop 50 = mk) : False := by
  rcases h with ⟨h, -⟩ | ⟨c, hc, he, hd⟩
  · cases h
  · have e := Option.some.inj he
    subst e
    have h1 := far_ff hm
    have h2 := ds_tri c x ff64
    rw [ds_comm c x] at h2
    omega

end Go.Proofs.YtifjmilegogbaaaGreat
