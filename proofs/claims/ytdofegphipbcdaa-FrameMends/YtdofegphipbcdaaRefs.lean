/-
  The document's answer for a product: what patinaref01.Mul answers. Condition: the arguments are bytes.
-/
import Derived.Test.YtdofegphipbcdaaAsked
namespace Go.Proofs.Ytdofegphipbcdaa
set_option maxRecDepth 100000
open Go.RowKit

theorem s1_lt (x y k : Nat) (hx : x < 256) (hk : k ≤ 8) : s1 x y k < 65536 := by
  induction k with
  | zero => show 0 < 65536; decide
  | succ k ih =>
    have h := ih (by omega)
    rw [s1_pk]
    refine Nat.xor_lt_two_pow (n := 16) h ?_
    unfold pk
    split
    · rw [Nat.shiftLeft_eq]
      have : 2 ^ k ≤ 2 ^ 7 := Nat.pow_le_pow_right (by decide) (by omega)
      have : x * 2 ^ k ≤ x * 2 ^ 7 := Nat.mul_le_mul_left _ this
      omega
    · decide
theorem s2_lt (s j : Nat) (hs : s < 65536) (hj : j ≤ 7) : s2 s j < 65536 := by
  induction j with
  | zero => exact hs
  | succ j ih =>
    have h := ih (by omega)
    rw [s2_pk]
    refine Nat.xor_lt_two_pow (n := 16) h ?_
    unfold pk
    split
    · rw [Nat.shiftLeft_eq]
      have : 2 ^ (6 - j) ≤ 2 ^ 6 := Nat.pow_le_pow_right (by decide) (by omega)
      omega
    · decide
theorem bit_test (y k : Nat) (hy : y < 65536) : (bits BinOp.and IntKind.i64 ((y : Int) / 2 ^ k) 1 == 1) = decide ((y >>> k) % 2 = 1) := by
  have e : ((y : Int) / 2 ^ k) = ((y >>> k : Nat) : Int) := by
    rw [Nat.shiftRight_eq_div_pow]; simp
  have hl : y >>> k ≤ y := by rw [Nat.shiftRight_eq_div_pow]; exact Nat.div_le_self _ _
  have e2 : bits BinOp.and IntKind.i64 ((y >>> k : Nat) : Int) 1 = (((y >>> k) &&& 1 : Nat) : Int) := i64_and_nat (y >>> k) 1 (by omega) (by decide)
  rw [e, e2, nat_mask1]
  have : (y >>> k) % 2 = 0 ∨ (y >>> k) % 2 = 1 := by omega
  rcases this with h | h <;> simp [h]
theorem wrap_shl (c k n : Nat) (hc : c * 2 ^ k < 65536) (hn : n < 65536) : bits BinOp.xor IntKind.i64 (n : Int) (wrap64 ((c : Int) * 2 ^ k)) = ((n ^^^ (c <<< k) : Nat) : Int) := by
  have e : ((c : Int) * 2 ^ k) = ((c <<< k : Nat) : Int) := by rw [Nat.shiftLeft_eq]; simp
  rw [Nat.shiftLeft_eq] at e
  rw [Nat.shiftLeft_eq, e, show wrap64 ((c * 2 ^ k : Nat) : Int) = ((c * 2 ^ k : Nat) : Int) from by unfold wrap64; omega]
  exact i64_xor_nat n (c * 2 ^ k) (by omega) (by omega)
theorem s1_hit (x y k : Nat) (hx : x < 256) (hy : y < 256) (hk : k < 8) (h : (bits BinOp.and IntKind.i64 ((y : Int) / 2 ^ k) 1 == 1) = true) :
    Value.int IntKind.i64 (bits BinOp.xor IntKind.i64 (s1 x y k : Nat) (wrap64 ((x : Int) * 2 ^ k))) = Value.int IntKind.i64 (s1 x y (k + 1) : Nat) := by
  rw [bit_test y k (by omega), decide_eq_true_eq] at h
  have h2 : 2 ^ k ≤ 2 ^ 7 := Nat.pow_le_pow_right (by decide) (by omega)
  have h3 : x * 2 ^ k ≤ x * 2 ^ 7 := Nat.mul_le_mul_left _ h2
  rw [wrap_shl x k _ (by omega) (s1_lt x y k hx (by omega))]
  simp only [s1]
  rw [if_pos h]
theorem s1_miss (x y k : Nat) (hy : y < 256) (h : (bits BinOp.and IntKind.i64 ((y : Int) / 2 ^ k) 1 == 1) = false) :
    Value.int IntKind.i64 (s1 x y k : Nat) = Value.int IntKind.i64 (s1 x y (k + 1) : Nat) := by
  rw [bit_test y k (by omega), decide_eq_false_iff_not] at h
  simp only [s1]
  rw [if_neg h]
theorem s2_hit (S m : Nat) (hS : S < 65536) (hm : 8 ≤ m) (hm' : m ≤ 14) (h : (bits BinOp.and IntKind.i64 ((s2 S (14 - m) : Nat) / 2 ^ m) 1 == 1) = true) :
    Value.int IntKind.i64 (bits BinOp.xor IntKind.i64 (s2 S (14 - m) : Nat) (wrap64 (285 * 2 ^ (m - 8)))) = Value.int IntKind.i64 (s2 S (14 - (m - 1)) : Nat) := by
  have hl := s2_lt S (14 - m) hS (by omega)
  rw [bit_test _ m hl, decide_eq_true_eq] at h
  have h2 : 2 ^ (m - 8) ≤ 2 ^ 6 := Nat.pow_le_pow_right (by decide) (by omega)
  have e := wrap_shl 285 (m - 8) (s2 S (14 - m)) (by omega) hl
  have e' : bits BinOp.xor IntKind.i64 (s2 S (14 - m) : Nat) (wrap64 (285 * 2 ^ (m - 8))) = ((s2 S (14 - m) ^^^ (285 <<< (m - 8)) : Nat) : Int) := e
  rw [e', show 14 - (m - 1) = (14 - m) + 1 from by omega]
  simp only [s2]
  rw [show 14 - (14 - m) = m from by omega, show 6 - (14 - m) = m - 8 from by omega, if_pos h]
theorem s2_miss (S m : Nat) (hS : S < 65536) (hm : 8 ≤ m) (hm' : m ≤ 14) (h : (bits BinOp.and IntKind.i64 ((s2 S (14 - m) : Nat) / 2 ^ m) 1 == 1) = false) :
    Value.int IntKind.i64 (s2 S (14 - m) : Nat) = Value.int IntKind.i64 (s2 S (14 - (m - 1)) : Nat) := by
  have hl := s2_lt S (14 - m) hS (by omega)
  rw [bit_test _ m hl, decide_eq_false_iff_not] at h
  rw [show 14 - (m - 1) = (14 - m) + 1 from by omega]
  simp only [s2]
  rw [show 14 - (14 - m) = m from by omega, if_neg h]

set_option maxRecDepth 100000 in
set_option maxRecDepth 100000 in
set_option maxHeartbeats 1000000 in
theorem rmul_nat (w : World) (x y : Nat) (hx : x < 256) (hy : y < 256) :
    Calls Try.prog 46 #[.int .u8 (x : Int), .int .u8 (y : Int)] w fun e w' => e = .returned (.int .u8 (gm x y : Nat)) ∧ w' = w := by
  go_enter Try.func46, Try.ntmps46
  go_wp2
  go_loop [6, 7] (fun s i => ∃ k : Nat, k ≤ 8 ∧ i = .int .i64 k ∧ s = .int .i64 (s1 x y k : Nat)) (fun _ i => 8 - (intOf i).toNat)
  case atStart => exact ⟨0, by omega, rfl, rfl⟩
  case round =>
    obtain ⟨k, hk, rfl, rfl⟩ := hrel
    by_cases hlt : k < 8
    · go_wp2
      · exact ⟨⟨k + 1, by omega, by go_num, s1_hit x y k hx hy hlt ‹_›⟩, by simp [intOf]; omega⟩
      · exact ⟨⟨k + 1, by omega, by go_num, s1_miss x y k hy ‹_›⟩, by simp [intOf]; omega⟩
    · have e : k = 8 := by omega
      subst e
      have hS := s1_lt x y 8 hx (by omega)
      have HR : Hid (rm x y = gm x y) := rm_eq x y hx hy
      have HD : Hid (rm x y = s2 (s1 x y 8) 7) := rfl
      generalize s1 x y 8 = S at *
      go_wp2
      go_loop [6, 8] (fun s i => ∃ m : Nat, 7 ≤ m ∧ m ≤ 14 ∧ i = .int .i64 m ∧ s = .int .i64 (s2 S (14 - m) : Nat)) (fun _ i => (intOf i).toNat)
      case atStart => exact ⟨14, by omega, by omega, rfl, rfl⟩
      case round =>
        obtain ⟨m, hm, hm', rfl, rfl⟩ := hrel
        have hs2 := s2_lt S (14 - m) hS (by omega)
        by_cases hlt2 : 8 ≤ m
        · go_wp2
          · exact ⟨⟨m - 1, by omega, by omega, by congr 1; omega, s2_hit S m hS hlt2 hm' ‹_›⟩, by simp [intOf]; omega⟩
          · exact ⟨⟨m - 1, by omega, by omega, by congr 1; omega, s2_miss S m hS hlt2 hm' ‹_›⟩, by simp [intOf]; omega⟩
        · have e : m = 7 := by omega
          subst e
          have hg := gm_lt x y
          go_wp2
          go_ret
          refine ⟨?_, rfl⟩
          have e7 : s2 S 7 = gm x y := HD.out.symm.trans HR.out
          show Ending.returned (Value.int IntKind.u8 ((s2 S 7 : Nat) % 256)) = _
          rw [e7]
          congr 2
          omega

theorem ex_two (k : Nat) (h : k < 254) : gm (ex k) 2 = ex (k + 1) := by rw [gm_two _ (ex_lt k), ex_succ k h]
end Go.Proofs.Ytdofegphipbcdaa
