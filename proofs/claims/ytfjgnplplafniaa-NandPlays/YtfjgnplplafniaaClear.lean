/-
  A block of the chip is cleared; New; Erase. Condition: the block holds a chip.
-/
import Derived.Test.YtfjgnplplafniaaPower
namespace Go.Proofs.Ytfjgnplplafniaa
open Go.RowKit
set_option maxRecDepth 100000

/-- f, but the first m chunks of block b are erased. -/
def clrF (f : Nat → Value) (b m : Nat) : Nat → Value := fun i => if 4160 * b ≤ i ∧ i < 4160 * b + 130 * m then (ckc newK).getD (i % 130) undef else f i
theorem newK_length : (ckc newK).length = 130 := ckc_length rfl rfl
theorem clrF_zero (f : Nat → Value) (b : Nat) : clrF f b 0 = f := by
  funext i; unfold clrF; rw [if_neg (by omega)]
theorem clrF_step (f : Nat → Value) (b m : Nat) : upL (clrF f b m) (4160 * b + 130 * m) (ckc newK) = clrF f b (m + 1) := by
  funext i
  unfold upL clrF
  rw [newK_length]
  by_cases h : 4160 * b + 130 * m ≤ i ∧ i < 4160 * b + 130 * m + 130
  · rw [if_pos h, if_pos (by omega), show i - (4160 * b + 130 * m) = i % 130 from by omega]
  · rw [if_neg h]
    by_cases h2 : 4160 * b ≤ i ∧ i < 4160 * b + 130 * m
    · rw [if_pos h2, if_pos (by omega)]
    · rw [if_neg h2, if_neg (by omega)]
set_option maxHeartbeats 1000000 in
theorem clear_block (g b : Nat) (hb : b < 12) (f : Nat → Value) (w : World) (h : Sto w g 73 49984 f) :
    Calls Try.prog 24 #[.pointer (some ⟨g, 0, none⟩), .int .i64 b] w fun e w' => e = .returned (.tuple #[]) ∧ Sto w' g 73 49984 (upL (clrF f b 32) (49968 + b) [.int .i64 0]) ∧ Chg (· = g) w w' := by
  have hb0 : (0 : Int) ≤ (b : Int) := by omega
  have hb1 : (b : Int) < 12 := by omega
  go_enter Try.func24, Try.ntmps24
  go_wp2_with fail
  go_loopw [4] (fun t4 wr => ∃ r : Nat, r ≤ 8 ∧ t4 = .int .i64 (8 * b + r : Nat) ∧ Sto wr g 73 49984 (clrF f b (4 * r)) ∧ Chg (· = g) w wr) (fun t4 _ => (8 * b + 8) - (intOf t4).toNat)
  case atStart => exact ⟨0, by omega, by go_num; try omega, by rw [clrF_zero]; exact h, Chg.refl _ _⟩
  case round =>
    clear h
    obtain ⟨r, hr, rfl, hB, hG⟩ := hrel
    by_cases hlt : r < 8
    · have hr0 : ((8 * b + r : Nat) : Int) < (b + 1) * 8 := by omega
      have hr1 : (0 : Int) ≤ ((8 * b + r : Nat) : Int) := by omega
      have hr2 : ((8 * b + r : Nat) : Int) < 96 := by omega
      have HN : Hid (((8 * b + r : Nat) : Int).toNat = 8 * b + r) := by show _ = _; omega
      generalize hn : 8 * b + r = n at *
      have HN2 := hyd hn
      clear hn
      go_wp2_with fail
      go_loopw [15] (fun t15 wx => ∃ i : Nat, i ≤ 4 ∧ t15 = .int .i64 i ∧ Sto wx g 73 49984 (clrF f b (4 * r + i)) ∧ Chg (· = g) w wx) (fun t15 _ => 4 - (intOf t15).toNat)
      case atStart => exact ⟨0, by omega, rfl, hB, hG⟩
      case round =>
        clear hB hG
        obtain ⟨i, hi, rfl, hB, hG⟩ := hrel
        by_cases hli : i < 4
        · have hi0 : (0 : Int) ≤ (i : Int) := by omega
          have hi1 : (i : Int) < 4 := by omega
          go_wp2_with fail
          have e1 := HN2.out
          rw [show n * 520 + i * 130 = 4160 * b + 130 * (4 * r + i) from by omega]
          refine (clear_any g (4160 * b + 130 * (4 * r + i)) 73 49984 _ (by omega) _ hB).mono ?_
          rintro e w1 ⟨rfl, hB1, hG1⟩
          rw [clrF_step] at hB1
          have hG2 := hG.trans hG1
          clear hB hG hG1 e1
          go_wp2
          exact ⟨⟨i + 1, by omega, by go_num, hB1, hG2⟩, by simp [intOf]; omega⟩
        · have e4 : i = 4 := by omega
          subst e4
          clear hli hi
          go_wp2
          exact ⟨⟨r + 1, by omega, by rw [← HN2.out]; go_num; try omega, hB, hG⟩, by simp [intOf]; have := HN2.out; omega⟩
    · have e8 : r = 8 := by omega
      subst e8
      have hr0 : ¬ ((8 * b + 8 : Nat) : Int) < (b + 1) * 8 := by omega
      generalize hn : 8 * b + 8 = n at *
      clear hn
      have c1 := hB.cell (49968 + b) (by omega)
      have f1 := hB.frozen (49968 + b)
      have hB2 := hB.setCell (49968 + b) (.int .i64 0)
      have hG2 := hG.at g (49968 + b) (.int .i64 0)
      clear hlt hr
      go_wp2_with fail
      refine (store_any g (49968 + b) _ 0 c1 f1).mono ?_
      rintro e w1 ⟨rfl, rfl⟩
      go_wp2
      go_end0
      exact ⟨rfl, hB2, hG2⟩
end Go.Proofs.Ytfjgnplplafniaa
