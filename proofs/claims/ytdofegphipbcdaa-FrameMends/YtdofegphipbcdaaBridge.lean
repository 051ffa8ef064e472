/-
  What the search finds in the syndromes is what the word is read as. No condition: plain mathematics.
-/
import Derived.Test.YtdofegphipbcdaaSearch
import Derived.Test.YtdofegphipbcdaaSyn
namespace Go.Proofs.Ytdofegphipbcdaa

theorem wo_sy (l : List Nat) (i k : Nat) (hk : k < 5) : wo (syL l 6) i k = sy l (k + 1) ^^^ gm (sy l k) (rt i) := by
  unfold wo
  rw [syL_getD l (k + 1) (by omega), syL_getD l k (by omega)]
theorem on_e1 {l : List Nat} (hb : Bys l) {i : Nat} (h : On (syL l 6) i) : E1 (sy l) i (sy l 0) := by
  intro k hk
  induction k with
  | zero => show _ = gm _ 1; rw [gm_one _ (sy_lt hb 0)]
  | succ k ih =>
    have h1 := h k (by omega)
    rw [wo_sy l i k (by omega)] at h1
    rw [xor_zero_eq h1, ih (by omega)]
    show gm (gm _ (xp (rt i) k)) (rt i) = gm _ (gm (xp (rt i) k) (rt i))
    rw [gm_assoc]
theorem e1_on {l : List Nat} {i a : Nat} (h : E1 (sy l) i a) : On (syL l 6) i := by
  intro k hk
  rw [wo_sy l i k hk, h (k + 1) (by omega), h k (by omega)]
  show gm a (gm (xp (rt i) k) (rt i)) ^^^ gm (gm a (xp (rt i) k)) (rt i) = 0
  rw [gm_assoc, Nat.xor_self]
theorem e2_fo {l : List Nat} {i j a b : Nat} (_ha : a < 256) (hb : b < 256) (h : E2 (sy l) i j a b) : Fo (woL (syL l 6) i 5) j 5 := by
  have hw : ∀ k, k < 5 → wo (syL l 6) i k = gm (gm b (rt j ^^^ rt i)) (xp (rt j) k) := by
    intro k hk
    rw [wo_sy l i k hk, h (k + 1) (by omega), h k (by omega), xor_gm _ _ _ (rt_lt i) (gm_lt _ _) (gm_lt _ _), gm_xor _ _ _ hb (rt_lt j) (rt_lt i), xor_gm _ _ _ (xp_lt _ _) (gm_lt _ _) (gm_lt _ _)]
    show (gm a (gm (xp (rt i) k) (rt i)) ^^^ gm b (gm (xp (rt j) k) (rt j))) ^^^ (gm (gm a (xp (rt i) k)) (rt i) ^^^ gm (gm b (xp (rt j) k)) (rt i)) = _
    have e1 : gm (gm a (xp (rt i) k)) (rt i) = gm a (gm (xp (rt i) k) (rt i)) := gm_assoc _ _ _
    have e2 : gm (gm b (rt j)) (xp (rt j) k) = gm b (gm (xp (rt j) k) (rt j)) := by rw [gm_assoc, gm_comm (rt j)]
    have e3 : gm (gm b (rt i)) (xp (rt j) k) = gm (gm b (xp (rt j) k)) (rt i) := by rw [gm_assoc, gm_assoc, gm_comm (rt i)]
    rw [e1, e2, e3]
    have : ∀ x y z : Nat, (x ^^^ y) ^^^ (x ^^^ z) = y ^^^ z := by
      intro x y z
      rw [Nat.xor_comm x y, Nat.xor_assoc, ← Nat.xor_assoc x x z, Nat.xor_self, Nat.zero_xor]
    exact this _ _ _
  intro k h1 h2
  rw [woL_getD _ _ _ h2, woL_getD _ _ _ (by omega), hw k h2, hw (k - 1) (by omega)]
  obtain ⟨m, rfl⟩ : ∃ m, k = m + 1 := ⟨k - 1, by omega⟩
  show gm _ (gm (xp (rt j) m) (rt j)) = gm (gm _ (xp (rt j) m)) (rt j)
  rw [gm_assoc _ (xp (rt j) m)]
theorem fo_e2 {l : List Nat} (hb : Bys l) {i j : Nat} (hi : i < 64) (hj : j < 64) (hij : i ≠ j) (h : Fo (woL (syL l 6) i 5) j 5) : E2 (sy l) i j (sy l 0 ^^^ atJ (syL l 6) i j) (atJ (syL l 6) i j) := by
  have hs6 := syL_bys hb 6
  have h0 := wo_lt hs6 i 0
  have hw : ∀ k, k < 5 → wo (syL l 6) i k = gm (wo (syL l 6) i 0) (xp (rt j) k) := by
    intro k
    induction k with
    | zero => intro _; show _ = gm _ 1; rw [gm_one _ h0]
    | succ k ih =>
      intro hk
      have := h (k + 1) (by omega) hk
      rw [woL_getD _ _ _ hk, woL_getD _ _ _ (by omega), show k + 1 - 1 = k from by omega, ih (by omega)] at this
      rw [this]
      show gm (gm _ (xp (rt j) k)) (rt j) = gm _ (gm (xp (rt j) k) (rt j))
      rw [gm_assoc]
  have hx0 : rt i ^^^ rt j ≠ 0 := fun e => hij (rt_inj hi hj (xor_zero_eq e))
  have hxl := xor_lt _ _ (rt_lt i) (rt_lt j)
  have hB : gm (atJ (syL l 6) i j) (rt i ^^^ rt j) = wo (syL l 6) i 0 := by
    unfold atJ
    rw [gm_assoc, gm_comm (iv _), gm_iv _ hxl hx0, gm_one _ h0]
  have hBl : atJ (syL l 6) i j < 256 := gm_lt _ _
  generalize atJ (syL l 6) i j = B at *
  intro k
  induction k with
  | zero =>
    intro _
    show sy l 0 = gm (sy l 0 ^^^ B) 1 ^^^ gm B 1
    rw [gm_one _ (xor_lt _ _ (sy_lt hb 0) hBl), gm_one _ hBl, Nat.xor_assoc, Nat.xor_self, Nat.xor_zero]
  | succ k ih =>
    intro hk
    have h1 := hw k (by omega)
    rw [wo_sy l i k (by omega), ← hB] at h1
    have h2 : sy l (k + 1) = gm (gm B (rt i ^^^ rt j)) (xp (rt j) k) ^^^ gm (sy l k) (rt i) := by
      rw [← h1, Nat.xor_assoc, Nat.xor_self, Nat.xor_zero]
    rw [h2, ih (by omega), gm_xor B _ _ hBl (rt_lt i) (rt_lt j), xor_gm _ _ _ (xp_lt _ _) (gm_lt _ _) (gm_lt _ _), xor_gm _ _ _ (rt_lt i) (gm_lt _ _) (gm_lt _ _)]
    show _ = gm _ (gm (xp (rt i) k) (rt i)) ^^^ gm B (gm (xp (rt j) k) (rt j))
    have e1 : gm (gm (sy l 0 ^^^ B) (xp (rt i) k)) (rt i) = gm (sy l 0 ^^^ B) (gm (xp (rt i) k) (rt i)) := gm_assoc _ _ _
    have e2 : gm (gm B (rt j)) (xp (rt j) k) = gm B (gm (xp (rt j) k) (rt j)) := by rw [gm_assoc, gm_comm (rt j)]
    have e3 : gm (gm B (rt i)) (xp (rt j) k) = gm (gm B (xp (rt j) k)) (rt i) := by rw [gm_assoc, gm_assoc, gm_comm (rt i)]
    rw [e1, e2, e3]
    have : ∀ x y z : Nat, (z ^^^ y) ^^^ (x ^^^ z) = x ^^^ y := by
      intro x y z
      rw [Nat.xor_comm x z, Nat.xor_comm z y, Nat.xor_assoc, ← Nat.xor_assoc z z x, Nat.xor_self, Nat.zero_xor, Nat.xor_comm]
    exact this _ _ _

theorem syL_zeros {l : List Nat} : syL l 6 = [0, 0, 0, 0, 0, 0] ↔ ∀ k, k < 6 → sy l k = 0 := by
  constructor
  · intro h k hk
    rw [← syL_getD l k hk, h]
    rcases (by omega : k = 0 ∨ k = 1 ∨ k = 2 ∨ k = 3 ∨ k = 4 ∨ k = 5) with e | e | e | e | e | e <;> subst e <;> rfl
  · intro h
    apply getD_ext (by rw [syL_length]; rfl)
    intro k hk
    rw [syL_length] at hk
    rw [syL_getD l k hk, h k hk]
    rcases (by omega : k = 0 ∨ k = 1 ∨ k = 2 ∨ k = 3 ∨ k = 4 ∨ k = 5) with e | e | e | e | e | e <;> subst e <;> rfl
theorem syL_some {l : List Nat} (h : ¬ syL l 6 = [0, 0, 0, 0, 0, 0]) : ∃ k, k < 6 ∧ sy l k ≠ 0 := by
  by_cases h' : ∃ k, k < 6 ∧ sy l k ≠ 0
  · exact h'
  · exact absurd (syL_zeros.2 (fun k hk => by
      by_cases e : sy l k = 0
      · exact e
      · exact absurd ⟨k, hk, e⟩ h')) h
theorem near_one {l : List Nat} (hl : l.length = 64) (hb : Bys l) (h0 : ¬ syL l 6 = [0, 0, 0, 0, 0, 0]) {i : Nat} (hi : i < 64) (h : On (syL l 6) i) : IsDec l (some ((addAt l i ((syL l 6).getD 0 0)).take 58, 1)) := by
  rw [syL_getD l 0 (by omega)]
  exact dec_one hl hb (syL_some h0) i _ hi (sy_lt hb 0) (on_e1 hb h)
theorem near_two {l : List Nat} (hl : l.length = 64) (hb : Bys l) (h1 : ∀ i, i < 64 → ¬ On (syL l 6) i) {i j : Nat} (hi : i < 64) (hj : j < i) (h : Fo (woL (syL l 6) i 5) j 5) :
    IsDec l (some ((addAt (addAt l i ((syL l 6).getD 0 0 ^^^ atJ (syL l 6) i j)) j (atJ (syL l 6) i j)).take 58, 2)) := by
  rw [syL_getD l 0 (by omega)]
  have hE := fo_e2 hb hi (by omega) (by omega) h
  refine dec_two hl hb i j _ _ hi (by omega) (by omega) (xor_lt _ _ (sy_lt hb 0) (gm_lt _ _)) (gm_lt _ _) ?_ ?_ hE
  · intro e
    refine h1 j (by omega) (e1_on (a := atJ (syL l 6) i j) ?_)
    intro k hk
    rw [hE k hk, e, gm_zero_left, Nat.zero_xor]
  · intro e
    refine h1 i hi (e1_on (a := sy l 0 ^^^ atJ (syL l 6) i j) ?_)
    intro k hk
    rw [hE k hk, e, gm_zero_left, Nat.xor_zero]
theorem near_none {l : List Nat} (hl : l.length = 64) (hb : Bys l) (h0 : ¬ syL l 6 = [0, 0, 0, 0, 0, 0]) (h1 : ∀ i, i < 64 → ¬ On (syL l 6) i) (h2 : ∀ i j, i < 64 → j < i → ¬ Fo (woL (syL l 6) i 5) j 5) : IsDec l none :=
  dec_none hl hb (syL_some h0) (fun i _ hi _ h => h1 i hi (e1_on h)) (fun i j _ _ hi hj ha hb' _ _ h => h2 i j hi hj (e2_fo ha hb' h))
end Go.Proofs.Ytdofegphipbcdaa
