/-
  Program and document told alike; up; stands. No condition: lemmas.
-/
import Derived.Test.YtjgibllcfhblnaaRef
namespace Go.Proofs.Ytjgibllcfhblnaa
set_option maxRecDepth 100000
open Go.RowKit

/-- An error by its number. -/
def errV (c : Nat) : Value := if c = 0 then .nilIface else .iface 56 (.int .i64 c)
theorem code_v (c : Nat) (hc : c = 0 ∨ c = 1 ∨ c = 10 ∨ c = 12) (w : World) : Calls Try.prog 19 #[errV c] w fun e w' => e = .returned (.int .i64 c) ∧ w' = w := by
  rcases hc with rfl | rfl | rfl | rfl
  · exact code_nil w
  · exact code_1 w
  · exact code_10 w
  · exact code_12 w
def setC (F : Nat → Int) (n s : Int) : Nat := if (n < 0 ∨ 12 ≤ n) ∨ (s < 0 ∨ 3 < s) then 1 else if F n.toNat = 3 ∧ s ≠ 3 then 12 else 0
def setF (F : Nat → Int) (n s : Int) : Nat → Int := if setC F n s = 0 then upd F n.toNat s else F
theorem setC_code (F : Nat → Int) (n s : Int) : setC F n s = 0 ∨ setC F n s = 1 ∨ setC F n s = 10 ∨ setC F n s = 12 := by
  unfold setC
  split
  · simp
  · split <;> simp
theorem setC_like {F G : Nat → Int} (h : ∀ i, i < 12 → G i = F i) (n s : Int) : setC G n s = setC F n s := by
  unfold setC
  by_cases h1 : (n < 0 ∨ 12 ≤ n) ∨ (s < 0 ∨ 3 < s)
  · rw [if_pos h1, if_pos h1]
  · rw [if_neg h1, if_neg h1, h _ (by omega)]
theorem setC_zero {F : Nat → Int} {n s : Int} (h : setC F n s = 0) : (0 ≤ n ∧ n < 12) ∧ (0 ≤ s ∧ s ≤ 3) ∧ ¬ (F n.toNat = 3 ∧ s ≠ 3) := by
  unfold setC at h
  split at h
  · omega
  · rename_i h1
    split at h
    · omega
    · rename_i h2
      exact ⟨by omega, by omega, h2⟩
theorem set_v (w : World) (b : Nat) (F : Nat → Int) (h : IB w b 48 13 F) (n s : Int) : Calls Try.prog 14 #[.pointer (some ⟨b, 0, none⟩), .int .i64 n, .int .i64 s] w fun e w' => e = .returned (errV (setC F n s)) ∧ IB w' b 48 13 (setF F n s) ∧ Chg (· = b) w w' := by
  by_cases h1 : (n < 0 ∨ 12 ≤ n) ∨ (s < 0 ∨ 3 < s)
  · have e : setC F n s = 1 := by unfold setC; rw [if_pos h1]
    refine (set_arg w b n s h1).mono ?_
    rintro x w' ⟨rfl, rfl⟩
    rw [e]
    refine ⟨rfl, ?_, Chg.refl _ _⟩
    unfold setF
    rw [e]
    exact h
  · obtain ⟨m, rfl⟩ : ∃ m : Nat, n = m := ⟨n.toNat, by omega⟩
    by_cases h2 : F m = 3 ∧ s ≠ 3
    · have e : setC F m s = 12 := by unfold setC; rw [if_neg h1, Int.toNat_natCast, if_pos h2]
      refine (set_bad w b F h m s (by omega) (by omega) (by omega) h2.1 h2.2).mono ?_
      rintro x w' ⟨rfl, rfl⟩
      rw [e]
      refine ⟨rfl, ?_, Chg.refl _ _⟩
      unfold setF
      rw [e]
      exact h
    · have e : setC F m s = 0 := by unfold setC; rw [if_neg h1, Int.toNat_natCast, if_neg h2]
      refine (set_yes w b F h m s (by omega) (by omega) (by omega) h2).mono ?_
      rintro x w' ⟨rfl, h3, h4⟩
      rw [e]
      refine ⟨rfl, ?_, h4⟩
      unfold setF
      rw [if_pos e, Int.toNat_natCast]
      exact h3
theorem rset_v (w : World) (b : Nat) (F : Nat → Int) (h : IB w b 50 13 F) (n s : Int) : Calls Try.prog 20 #[.pointer (some ⟨b, 0, none⟩), .int .i64 n, .int .i64 s] w fun e w' => e = .returned (.int .i64 (setC F n s : Nat)) ∧ IB w' b 50 13 (setF F n s) ∧ Chg (· = b) w w' := by
  by_cases h1 : (n < 0 ∨ 12 ≤ n) ∨ (s < 0 ∨ 3 < s)
  · have e : setC F n s = 1 := by unfold setC; rw [if_pos h1]
    refine (rset_arg w b n s h1).mono ?_
    rintro x w' ⟨rfl, rfl⟩
    rw [e]
    refine ⟨rfl, ?_, Chg.refl _ _⟩
    unfold setF
    rw [e]
    exact h
  · obtain ⟨m, rfl⟩ : ∃ m : Nat, n = m := ⟨n.toNat, by omega⟩
    by_cases h2 : F m = 3 ∧ s ≠ 3
    · have e : setC F m s = 12 := by unfold setC; rw [if_neg h1, Int.toNat_natCast, if_pos h2]
      refine (rset_bad w b F h m s (by omega) (by omega) (by omega) h2.1 h2.2).mono ?_
      rintro x w' ⟨rfl, rfl⟩
      rw [e]
      refine ⟨rfl, ?_, Chg.refl _ _⟩
      unfold setF
      rw [e]
      exact h
    · have e : setC F m s = 0 := by unfold setC; rw [if_neg h1, Int.toNat_natCast, if_neg h2]
      refine (rset_yes w b F h m s (by omega) (by omega) (by omega) h2).mono ?_
      rintro x w' ⟨rfl, h3, h4⟩
      rw [e]
      refine ⟨rfl, ?_, h4⟩
      unfold setF
      rw [if_pos e, Int.toNat_natCast]
      exact h3
def getC (n : Int) : Nat := if n < 0 ∨ 12 ≤ n then 1 else 0
def getV (F : Nat → Int) (n : Int) : Int := if n < 0 ∨ 12 ≤ n then 0 else F n.toNat
theorem getC_code (n : Int) : getC n = 0 ∨ getC n = 1 ∨ getC n = 10 ∨ getC n = 12 := by
  unfold getC
  split <;> simp
theorem getV_like {F G : Nat → Int} (h : ∀ i, i < 12 → G i = F i) (n : Int) : getV G n = getV F n := by
  unfold getV
  by_cases h1 : n < 0 ∨ 12 ≤ n
  · rw [if_pos h1, if_pos h1]
  · rw [if_neg h1, if_neg h1, h _ (by omega)]
theorem get_v (w : World) (b : Nat) (F : Nat → Int) (h : IB w b 48 13 F) (n : Int) : Calls Try.prog 16 #[.pointer (some ⟨b, 0, none⟩), .int .i64 n] w fun e w' => e = .returned (.tuple #[.int .i64 (getV F n), errV (getC n)]) ∧ w' = w := by
  by_cases h1 : n < 0 ∨ 12 ≤ n
  · unfold getV getC
    rw [if_pos h1, if_pos h1]
    exact get_no w b n h1
  · obtain ⟨m, rfl⟩ : ∃ m : Nat, n = m := ⟨n.toNat, by omega⟩
    unfold getV getC
    rw [if_neg h1, if_neg h1, Int.toNat_natCast]
    exact get_yes w b F h m (by omega)
theorem rget_v (w : World) (b : Nat) (F : Nat → Int) (h : IB w b 50 13 F) (n : Int) : Calls Try.prog 22 #[.pointer (some ⟨b, 0, none⟩), .int .i64 n] w fun e w' => e = .returned (.tuple #[.int .i64 (getV F n), .int .i64 (getC n : Nat)]) ∧ w' = w := by
  by_cases h1 : n < 0 ∨ 12 ≤ n
  · unfold getV getC
    rw [if_pos h1, if_pos h1]
    exact rget_no w b n h1
  · obtain ⟨m, rfl⟩ : ∃ m : Nat, n = m := ⟨n.toNat, by omega⟩
    unfold getV getC
    rw [if_neg h1, if_neg h1, Int.toNat_natCast]
    exact rget_yes w b F h m (by omega)
/-- The first free block, from block f on. -/
def Nxt (F : Nat → Int) (f c m : Nat) : Prop := (c = 0 ∧ ∃ j, j < 12 ∧ m = (f + j) % 12 ∧ F m = 0 ∧ ∀ i, i < j → F ((f + i) % 12) ≠ 0) ∨ (c = 10 ∧ m = 0 ∧ ∀ i, i < 12 → F i ≠ 0)
theorem first_of (P : Nat → Prop) [DecidablePred P] (n : Nat) : (∃ j, j < n ∧ P j ∧ ∀ i, i < j → ¬ P i) ∨ ∀ i, i < n → ¬ P i := by
  induction n with
  | zero => exact Or.inr fun i hi => absurd hi (Nat.not_lt_zero _)
  | succ n ih =>
    rcases ih with ⟨j, h1, h2, h3⟩ | ih
    · exact Or.inl ⟨j, by omega, h2, h3⟩
    · by_cases hn : P n
      · exact Or.inl ⟨n, by omega, hn, ih⟩
      · refine Or.inr fun i hi => ?_
        by_cases e : i = n
        · subst e; exact hn
        · exact ih i (by omega)
theorem nxt_any (F : Nat → Int) (f : Nat) (hf : f < 12) : ∃ c m, Nxt F f c m ∧ (c = 0 ∨ c = 10) ∧ m < 12 := by
  rcases first_of (fun j => F ((f + j) % 12) = 0) 12 with ⟨j, h1, h2, h3⟩ | h
  · exact ⟨0, _, Or.inl ⟨rfl, j, h1, rfl, h2, h3⟩, Or.inl rfl, Nat.mod_lt _ (by omega)⟩
  · refine ⟨10, 0, Or.inr ⟨rfl, rfl, fun i hi => ?_⟩, Or.inr rfl, by omega⟩
    have := h ((i + 12 - f) % 12) (Nat.mod_lt _ (by omega))
    rwa [show (f + (i + 12 - f) % 12) % 12 = i by omega] at this
def tkF (F : Nat → Int) (c m : Nat) : Nat → Int := if c = 0 then upd (upd F m 1) 12 ((m + 1) % 12 : Nat) else F
def tkG (F : Nat → Int) (c m : Nat) : Nat → Int := if c = 0 then upd (upd F m 1) 12 (m : Nat) else F
theorem take_v (w : World) (b : Nat) (F : Nat → Int) (h : IB w b 48 13 F) (f : Nat) (hf : f < 12) (h12 : F 12 = f) {c m : Nat} (hN : Nxt F f c m) : Calls Try.prog 15 #[.pointer (some ⟨b, 0, none⟩)] w fun e w' => e = .returned (.tuple #[.int .i64 m, errV c]) ∧ IB w' b 48 13 (tkF F c m) ∧ Chg (· = b) w w' := by
  rcases hN with ⟨rfl, j, hj, hm, hF, hno⟩ | ⟨rfl, rfl, hno⟩
  · exact take_yes w b F h f hf h12 j hj m hm hF hno
  · refine (take_no w b F h f hf h12 hno).mono ?_
    rintro x w' ⟨rfl, rfl⟩
    exact ⟨rfl, h, Chg.refl _ _⟩
theorem rtake_v (w : World) (b : Nat) (F G : Nat → Int) (h : IB w b 50 13 G) (hG : ∀ i, i < 12 → G i = F i) (L : Int) (hL : -1 ≤ L) (hL2 : L ≤ 11) (f : Nat) (hf : (f : Int) = (L + 13) % 12) (h12 : G 12 = L) {c m : Nat} (hN : Nxt F f c m) : Calls Try.prog 21 #[.pointer (some ⟨b, 0, none⟩)] w fun e w' => e = .returned (.tuple #[.int .i64 m, .int .i64 c]) ∧ IB w' b 50 13 (tkG G c m) ∧ Chg (· = b) w w' := by
  rcases hN with ⟨rfl, j, hj, hm, hF, hno⟩ | ⟨rfl, rfl, hno⟩
  · exact rtake_yes w b G h L hL hL2 f hf h12 j hj m hm (by rw [hG _ (by omega)]; exact hF) (fun i hi => by rw [hG _ (by omega)]; exact hno i hi)
  · refine (rtake_no w b G h L hL hL2 h12 (fun i hi => by rw [hG i hi]; exact hno i hi)).mono ?_
    rintro x w' ⟨rfl, rfl⟩
    exact ⟨rfl, h, Chg.refl _ _⟩
theorem cnt_like {F G : Nat → Int} (s : Int) : ∀ (k : Nat), (∀ i, i < k → G i = F i) → cnt G s k = cnt F s k
  | 0, _ => rfl
  | k + 1, h => by unfold cnt; rw [cnt_like s k (fun i hi => h i (by omega)), h k (by omega)]
theorem bnd_like {F G : Nat → Int} (h : ∀ i, i < 12 → G i = F i) : bnd G = bnd F := by
  unfold bnd
  rw [cnt_like 3 12 h]
theorem up_any (w : World) : Calls Try.prog 6 #[] w fun e w' => e = .returned (.bool true) ∧ Chg (fun _ => False) w w' := by
  have q := eql_nil
  obtain ⟨b, HB⟩ : ∃ b, Hid (b = w.heap.size) := ⟨_, rfl⟩
  go_enter Try.func6, Try.ntmps6
  go_wp2_with fail
  refine (new_any w).mono ?_
  rintro e w1 ⟨rfl, K1, G1⟩
  rw [← HB.out] at K1
  rw [← HB.out]
  have HG1 := hyd G1
  have HK1 := hyd K1
  clear G1 K1
  go_wp2_with fail
  refine (take_yes w1 b _ HK1.out 0 (by omega) rfl 0 (by omega) 0 rfl rfl (fun i hi => absurd hi (Nat.not_lt_zero _))).mono ?_
  rintro e w2 ⟨rfl, K2, G2⟩
  have HG2 := hyd (HG1.out.trans' G2 (fun i hi e => by rw [e, HB.out] at hi; exact absurd hi (Nat.lt_irrefl _)))
  have HK2 := hyd K2
  clear G2 K2 HG1 HK1
  go_wp2_with fail
  refine (take_yes w2 b _ HK2.out 1 (by omega) rfl 0 (by omega) 1 rfl rfl (fun i hi => absurd hi (Nat.not_lt_zero _))).mono ?_
  rintro e w3 ⟨rfl, K3, G3⟩
  have HG3 := hyd (HG2.out.trans' G3 (fun i hi e => by rw [e, HB.out] at hi; exact absurd hi (Nat.lt_irrefl _)))
  have HK3 := hyd K3
  clear G3 K3 HG2 HK2
  go_wp2_with fail
  refine (set_yes w3 b _ HK3.out 0 0 (by omega) (by omega) (by omega) (by decide)).mono ?_
  rintro e w4 ⟨rfl, K4, G4⟩
  have HG4 := hyd (HG3.out.trans' G4 (fun i hi e => by rw [e, HB.out] at hi; exact absurd hi (Nat.lt_irrefl _)))
  have HK4 := hyd K4
  clear G4 K4 HG3 HK3
  go_wp2_with fail
  refine (take_yes w4 b _ HK4.out 2 (by omega) rfl 0 (by omega) 2 rfl rfl (fun i hi => absurd hi (Nat.not_lt_zero _))).mono ?_
  rintro e w5 ⟨rfl, K5, G5⟩
  have HG5 := hyd (HG4.out.trans' G5 (fun i hi e => by rw [e, HB.out] at hi; exact absurd hi (Nat.lt_irrefl _)))
  have hbd := bound_any w5 b _ K5
  clear G5 K5 HG4 HK4
  rw [show bnd _ = 5 from rfl] at hbd
  go_wp2_with (go_at_call 12; refine hbd.mono ?_; rintro e w6 ⟨rfl, rfl⟩)
  go_ret
  exact ⟨rfl, HG5.out⟩
theorem stands_any (w : World) (p r : Nat) (F G : Nat → Int) (hF : IB w p 48 13 F) (hG : IB w r 50 13 G) (hl : ∀ i, i < 12 → G i = F i) : Calls Try.prog 10 #[.pointer (some ⟨p, 0, none⟩), .pointer (some ⟨r, 0, none⟩)] w fun e w' => e = .returned (.bool true) ∧ Chg (fun _ => False) w w' := by
  have HL := hyd hl
  have HR := hyd hG
  obtain ⟨s, HB⟩ : ∃ s, Hid (s = w.heap.size) := ⟨_, rfl⟩
  have hs := states_any w p F hF
  clear hF hG hl
  go_enter Try.func10, Try.ntmps10
  go_wp2_with fail
  refine hs.mono ?_
  rintro e w1 ⟨rfl, K1, G1⟩
  rw [← HB.out] at K1
  rw [← HB.out]
  have HG1 := hyd G1
  have HK1 := hyd K1
  clear G1 K1
  go_wp2_with fail
  go_loopg [6] 12 (fun kx s6 wr => ∃ i : Nat, s6 = .int .i64 i ∧ i ≤ 12 ∧ 12 - i ≤ kx ∧ Hid (IB wr s 3 12 (fun j => if j < i then -7 else F j)) ∧ Hid (Chg (fun _ => False) w wr))
  case atStart => exact ⟨0, rfl, by omega, by omega, HK1, HG1⟩
  case round =>
  clear HK1 HG1
  obtain ⟨i, rfl, hin, hkx, HK, HG⟩ := hrel
  by_cases hlt : i < 12
  · have hltz : (i : Int) < 12 := by omega
    obtain ⟨c, fz⟩ := HK.out.cell i (by omega)
    simp only [Nat.lt_irrefl, if_false] at c
    obtain ⟨c2, -⟩ := (HR.out.chg HG.out (fun f => f)).cell i (by omega)
    rw [HL.out i hlt] at c2
    have heq : (F i == F i) = true := by simp
    go_wp2
    go_region
    go_wp2
    go_roundg (12 - (i + 1))
    case measure => omega
    case rel =>
      refine ⟨i + 1, by simp, by omega, Nat.le_refl _, ?_, ?_⟩
      · refine (HK.out.set i (-7)).congr fun j _ => ?_
        unfold upd
        by_cases e : j = i
        · rw [if_pos e, if_pos (by omega)]
        · rw [if_neg e]
          show (if j < i then (-7 : Int) else F j) = _
          by_cases e2 : j < i
          · rw [if_pos e2, if_pos (by omega)]
          · rw [if_neg e2, if_neg (by omega)]
      · exact HG.out.drew.setCell (g := s) (Or.inr (by rw [HB.out]; exact Nat.le_refl _)) _ _
  · have hltz : ¬ (i : Int) < 12 := by omega
    go_wp2
    go_ret
    exact ⟨rfl, HG.out⟩
end Go.Proofs.Ytjgibllcfhblnaa
