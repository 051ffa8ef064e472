/-
  What stays as it is whatever is done with a table; a free block is taken, or one is set. No condition: lemmas.
-/
import Derived.Test.YtjgibllcfhblnaaStep
namespace Go.Proofs.Ytjgibllcfhblnaa
set_option maxRecDepth 100000
open Go.RowKit

def one (p : Prop) [Decidable p] : Nat := if p then 1 else 0
theorem cnt_far (F : Nat → Int) (n : Nat) (s t : Int) (k : Nat) (h : k ≤ n) : cnt (upd F n s) t k = cnt F t k :=
  cnt_like t k fun i hi => by unfold upd; rw [if_neg (by omega)]
theorem cnt_upd (F : Nat → Int) (n : Nat) (s t : Int) : ∀ k, n < k → cnt (upd F n s) t k + one (F n = t) = cnt F t k + one (s = t)
  | 0, h => by omega
  | k + 1, h => by
    have e : ∀ G : Nat → Int, cnt G t (k + 1) = cnt G t k + one (G k = t) := fun _ => rfl
    rw [e, e]
    by_cases hk : n = k
    · subst hk
      have e3 : upd F n s n = s := by simp [upd]
      rw [cnt_far F n s t n (Nat.le_refl _), e3]
      omega
    · have ih := cnt_upd F n s t k (by omega)
      have e3 : upd F n s k = F k := by unfold upd; rw [if_neg (by omega)]
      rw [e3]
      omega
theorem cnt_sum (F : Nat → Int) : ∀ k, (∀ i, i < k → 0 ≤ F i ∧ F i ≤ 3) → cnt F 0 k + cnt F 1 k + cnt F 2 k + cnt F 3 k = k
  | 0, _ => rfl
  | k + 1, h => by
    have ih := cnt_sum F k (fun i hi => h i (by omega))
    have e : ∀ t, cnt F t (k + 1) = cnt F t k + one (F k = t) := fun _ => rfl
    rw [e, e, e, e]
    obtain ⟨h0, h3⟩ := h k (by omega)
    have hc : F k = 0 ∨ F k = 1 ∨ F k = 2 ∨ F k = 3 := by omega
    rcases hc with hc | hc | hc | hc <;> simp [one, hc] <;> omega
/-- What may become of a table at one time. -/
structure Rel (F F' : Nat → Int) : Prop where
  vals : ∀ i, i < 12 → 0 ≤ F' i ∧ F' i ≤ 3
  from_ : ∃ f : Nat, f < 12 ∧ F' 12 = f
  bad : ∀ k, k < 12 → F k = 3 → F' k = 3
  cnt : cnt F' 3 12 = cnt F 3 12 ∨ cnt F' 3 12 = cnt F 3 12 + 1
theorem Rel.set {F : Nat → Int} (hv : ∀ i, i < 12 → 0 ≤ F i ∧ F i ≤ 3) {f : Nat} (hf : f < 12) (h12 : F 12 = f) (n s : Int) : Rel F (setF F n s) := by
  by_cases h : setC F n s = 0
  · obtain ⟨h1, h2, h3⟩ := setC_zero h
    have e : setF F n s = upd F n.toNat s := by unfold setF; rw [if_pos h]
    obtain ⟨m, rfl⟩ : ∃ m : Nat, n = m := ⟨n.toNat, by omega⟩
    rw [Int.toNat_natCast] at e h3
    rw [e]
    refine ⟨fun i hi => ?_, ⟨f, hf, by unfold upd; rw [if_neg (by omega)]; exact h12⟩, fun k hk hk3 => ?_, ?_⟩
    · unfold upd
      split
      · exact h2
      · exact hv i hi
    · unfold upd
      split
      · rename_i e2
        subst e2
        by_cases hs : s = 3
        · exact hs
        · exact absurd ⟨hk3, hs⟩ h3
      · exact hk3
    · have hu := cnt_upd F m s 3 12 (by omega)
      by_cases h4 : F m = 3
      · have hs : s = 3 := by
          by_cases hs : s = 3
          · exact hs
          · exact absurd ⟨h4, hs⟩ h3
        simp [one, h4, hs] at hu
        left; rw [hs]; exact hu
      · by_cases hs : s = 3
        · simp [one, h4, hs] at hu
          right; rw [hs]; exact hu
        · simp [one, h4, hs] at hu
          left; exact hu
  · have e : setF F n s = F := by unfold setF; rw [if_neg h]
    rw [e]
    exact ⟨hv, ⟨f, hf, h12⟩, fun _ _ h => h, Or.inl rfl⟩
theorem Rel.take {F : Nat → Int} (hv : ∀ i, i < 12 → 0 ≤ F i ∧ F i ≤ 3) (m : Nat) (hm : m < 12) (hF : F m = 0) : Rel F (tkF F 0 m) := by
  have e : tkF F 0 m = upd (upd F m 1) 12 ((m + 1) % 12 : Nat) := rfl
  rw [e]
  have hlow : ∀ i, i < 12 → upd (upd F m 1) 12 ((m + 1) % 12 : Nat) i = upd F m 1 i := fun i hi => by
    show (if i = 12 then _ else _) = _
    rw [if_neg (by omega)]
  refine ⟨fun i hi => ?_, ⟨(m + 1) % 12, Nat.mod_lt _ (by omega), by simp [upd]⟩, fun k hk hk3 => ?_, Or.inl ?_⟩
  · rw [hlow i hi]
    unfold upd
    split
    · omega
    · exact hv i hi
  · rw [hlow k hk]
    unfold upd
    split
    · rename_i e2; subst e2; omega
    · exact hk3
  · rw [cnt_like 3 12 hlow]
    have hu := cnt_upd F m 1 3 12 hm
    simp [one, hF] at hu
    exact hu
theorem Rel.none {F : Nat → Int} (hv : ∀ i, i < 12 → 0 ≤ F i ∧ F i ≤ 3) {f : Nat} (hf : f < 12) (h12 : F 12 = f) : Rel F F := ⟨hv, ⟨f, hf, h12⟩, fun _ _ h => h, Or.inl rfl⟩
/-- The bound falls with a bad block. -/
theorem bnd_cases {F F' : Nat → Int} (h : cnt F' 3 12 = cnt F 3 12 ∨ cnt F' 3 12 = cnt F 3 12 + 1) :
    (cnt F' 3 12 = cnt F 3 12 ∧ bnd F' = bnd F) ∨ (cnt F' 3 12 = cnt F 3 12 + 1 ∧ 3 ≤ bnd F ∧ bnd F' = bnd F - 2) ∨ (cnt F' 3 12 = cnt F 3 12 + 1 ∧ bnd F < 3 ∧ bnd F' ≤ bnd F) := by
  unfold bnd
  rcases h with h | h
  · left
    rw [h]
    exact ⟨rfl, rfl⟩
  · right
    rw [h]
    generalize cnt F 3 12 = n
    have hc : n = 0 ∨ n = 1 ∨ n = 2 ∨ 2 < n := by omega
    rcases hc with rfl | rfl | rfl | hc
    · left; exact ⟨rfl, by decide, by decide⟩
    · left; exact ⟨rfl, by decide, by decide⟩
    · right; exact ⟨rfl, by decide, by decide⟩
    · right
      rw [if_pos (by omega), if_pos (by omega)]
      exact ⟨rfl, by omega, by omega⟩
theorem bnd_lo (F : Nat → Int) : 0 ≤ bnd F ∧ bnd F ≤ 5 := by
  unfold bnd
  split <;> omega
/-- Which of n things the number z speaks of. -/
def pkN (z : Int) (n : Nat) : Nat := ((if z < 0 then -(z + 1) else z).tmod (n : Int)).toNat
theorem pkN_lt (z : Int) (n : Nat) (hn : 0 < n) : pkN z n < n := by
  unfold pkN
  rw [Int.tmod_eq_emod_of_nonneg (by split <;> omega)]
  have a1 := Int.emod_nonneg (if z < 0 then -(z + 1) else z) (b := (n : Int)) (by omega)
  have a2 := Int.emod_lt_of_pos (if z < 0 then -(z + 1) else z) (b := (n : Int)) (by omega)
  omega
theorem pkN_neg {z : Int} (h : z < 0) (n : Nat) (hn : 0 < n) : (-(z + 1)).tmod (n : Int) = (pkN z n : Nat) := by
  unfold pkN
  rw [if_pos h, Int.toNat_of_nonneg]
  rw [Int.tmod_eq_emod_of_nonneg (by omega)]
  exact Int.emod_nonneg _ (by omega)
theorem pkN_pos {z : Int} (h : ¬ z < 0) (n : Nat) (hn : 0 < n) : z.tmod (n : Int) = (pkN z n : Nat) := by
  unfold pkN
  rw [if_neg h, Int.toNat_of_nonneg]
  rw [Int.tmod_eq_emod_of_nonneg (by omega)]
  exact Int.emod_nonneg _ (by omega)
set_option maxHeartbeats 2000000 in
theorem pick_fn (z : Int) (h1 : -9223372036854775808 ≤ z) (h2 : z ≤ 9223372036854775807) (n : Nat) (hn : 0 < n) (hn2 : n < 100) (w : World) :
    Calls Try.prog 13 #[.int .i64 z, .int .i64 n] w fun e w' => e = .returned (.int .i64 (pkN z n : Nat)) ∧ w' = w := by
  have hne : ((n : Int) == 0) = false := by simp only [beq_eq_false_iff_ne]; omega
  have hne2 : ¬ (n : Int) = 0 := by omega
  have hnm : ¬ (n : Int) = -1 := by omega
  by_cases hz : z < 0
  · have hq := pkN_neg hz n hn
    go_enter Try.func13, Try.ntmps13
    go_wp2
    go_ret
    exact ⟨rfl, rfl⟩
  · have hq := pkN_pos hz n hn
    go_enter Try.func13, Try.ntmps13
    go_wp2
    go_ret
    exact ⟨rfl, rfl⟩
/-- The same, of two numbers as they come. -/
def pk (z n : Int) : Nat := pkN z n.toNat
theorem pick_z (z n : Int) (w : World) (h1 : -9223372036854775808 ≤ z) (h2 : z ≤ 9223372036854775807) (hn : 0 < n) (hn2 : n < 100) : Calls Try.prog 13 #[.int .i64 z, .int .i64 n] w fun e w' => e = .returned (.int .i64 (pk z n : Nat)) ∧ w' = w := by
  have := pick_fn z h1 h2 n.toNat (by omega) (by omega) w
  rw [Int.toNat_of_nonneg (by omega)] at this
  exact this
theorem pk_lt (z n : Int) (hn : 0 < n) : ((pk z n : Nat) : Int) < n := by
  have := pkN_lt z n.toNat (by omega)
  unfold pk
  omega
end Go.Proofs.Ytjgibllcfhblnaa
