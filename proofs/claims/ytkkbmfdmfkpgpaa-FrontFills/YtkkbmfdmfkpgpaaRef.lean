/-
  What the document's Open, Room and Take answer. No condition: lemmas.
-/
import Derived.Test.YtkkbmfdmfkpgpaaFront
namespace Go.Proofs.Ytkkbmfdmfkpgpaa
set_option maxRecDepth 100000
open Go.RowKit

theorem ropen_yes (w : World) (b : Nat) (s : St) (h : FB w b 29 s) (k i : Nat) (hk : k < 12) (hi : i < 9) : Calls Try.prog 9 #[.pointer (some ⟨b, 0, none⟩), .int .i64 k, .int .i64 i] w fun e w' => e = .returned (.int .i64 0) ∧ FB w' b 29 ⟨true, k, i⟩ ∧ Chg (· = b) w w' := by
  have h1 : ¬ (k : Int) < 0 := by omega
  have h2 : ¬ (k : Int) > 11 := by omega
  have h3 : ¬ (i : Int) < 0 := by omega
  have h4 : ¬ (i : Int) > 8 := by omega
  obtain ⟨c0, f0⟩ := h.c0
  have HK1 := hyd (h.set0 true)
  obtain ⟨c1, f1⟩ := HK1.out.c1
  have HK2 := hyd (HK1.out.set1 k)
  obtain ⟨c2, f2⟩ := HK2.out.c2
  have HK3 := hyd (HK2.out.set2 i)
  clear h hk hi HK1 HK2
  go_enter Try.func9, Try.ntmps9
  go_wp2
  go_ret
  exact ⟨rfl, HK3.out, (((Chg.refl (· = b) w).setCell (Or.inl rfl) _ _).setCell (Or.inl rfl) _ _).setCell (Or.inl rfl) _ _⟩
theorem ropen_arg (w : World) (b : Nat) (x y : Int) (h : x < 0 ∨ 12 ≤ x ∨ y < 0 ∨ 9 ≤ y) : Calls Try.prog 9 #[.pointer (some ⟨b, 0, none⟩), .int .i64 x, .int .i64 y] w fun e w' => e = .returned (.int .i64 1) ∧ w' = w := by
  by_cases h1 : x < 0
  · clear h
    go_enter Try.func9, Try.ntmps9
    go_wp2
    go_ret
    exact ⟨rfl, rfl⟩
  · by_cases h2 : x > 11
    · clear h
      go_enter Try.func9, Try.ntmps9
      go_wp2
      go_ret
      exact ⟨rfl, rfl⟩
    · by_cases h3 : y < 0
      · clear h
        go_enter Try.func9, Try.ntmps9
        go_wp2
        go_ret
        exact ⟨rfl, rfl⟩
      · have h4 : y > 8 := by omega
        clear h
        go_enter Try.func9, Try.ntmps9
        go_wp2
        go_ret
        exact ⟨rfl, rfl⟩
theorem ropen_v (w : World) (b : Nat) (s : St) (h : FB w b 29 s) (x y : Int) : Calls Try.prog 9 #[.pointer (some ⟨b, 0, none⟩), .int .i64 x, .int .i64 y] w fun e w' => e = .returned (.int .i64 (opC x y : Nat)) ∧ FB w' b 29 (opS s x y) ∧ Chg (· = b) w w' := by
  unfold opS opC
  by_cases c : x < 0 ∨ 12 ≤ x ∨ y < 0 ∨ 9 ≤ y
  · rw [if_pos c]
    refine (ropen_arg w b x y c).mono ?_
    rintro e w' ⟨rfl, rfl⟩
    exact ⟨rfl, h, Chg.refl _ _⟩
  · rw [if_neg c]
    obtain ⟨k, rfl⟩ : ∃ k : Nat, x = k := ⟨x.toNat, by omega⟩
    obtain ⟨i, rfl⟩ : ∃ i : Nat, y = i := ⟨y.toNat, by omega⟩
    refine (ropen_yes w b s h k i (by omega) (by omega)).mono ?_
    rintro e w' ⟨rfl, h1, h2⟩
    exact ⟨rfl, h1, h2⟩
theorem rroom_none (w : World) (b : Nat) (k i : Nat) (h : FB w b 29 ⟨false, k, i⟩) (n : Int) : Calls Try.prog 13 #[.pointer (some ⟨b, 0, none⟩), .int .i64 n] w fun e w' => e = .returned (.bool false) ∧ w' = w := by
  obtain ⟨c0, -⟩ := h.c0
  clear h
  go_enter Try.func13, Try.ntmps13
  go_wp2
  go_ret
  exact ⟨rfl, rfl⟩
theorem rroom_end (w : World) (b : Nat) (k : Nat) (h : FB w b 29 ⟨true, k, 8⟩) (n : Int) : Calls Try.prog 13 #[.pointer (some ⟨b, 0, none⟩), .int .i64 n] w fun e w' => e = .returned (.bool false) ∧ w' = w := by
  obtain ⟨c0, -⟩ := h.c0
  obtain ⟨c2, -⟩ := h.c2
  clear h
  go_enter Try.func13, Try.ntmps13
  go_wp2
  go_ret
  exact ⟨rfl, rfl⟩
theorem rroom_out (w : World) (b : Nat) (k i : Nat) (h : FB w b 29 ⟨true, k, i⟩) (hk : k < 12) (hi : i < 8) (n : Int) (hn : n < 0 ∨ 25 ≤ n) : Calls Try.prog 13 #[.pointer (some ⟨b, 0, none⟩), .int .i64 n] w fun e w' => e = .returned (.bool false) ∧ ∃ m, w' = w.drewN m := by
  obtain ⟨c0, -⟩ := h.c0
  obtain ⟨c1, -⟩ := h.c1
  obtain ⟨c2, -⟩ := h.c2
  have h7 : ¬ (i : Int) > 7 := by omega
  have hkz : (k : Int) ≤ 11 := by omega
  have hh := fun w => rholds_out w (8 * (k : Int) + i) n (Or.inr hn)
  clear h hk hi hn
  go_enter Try.func13, Try.ntmps13
  go_wp2_with fail
  go_quiet (first | (go_at_call 18; refine Calls.quiet_of_same (hh _)))
  go_wp2
  go_ret
  exact ⟨rfl, _, rfl⟩
theorem rroom_page (w : World) (b : Nat) (k i : Nat) (h : FB w b 29 ⟨true, k, i⟩) (hk : k < 12) (hi : i < 8) (n : Int) (hn : 0 ≤ n ∧ n < 25) : Calls Try.prog 13 #[.pointer (some ⟨b, 0, none⟩), .int .i64 n] w fun e w' => e = .returned (.bool (decide (n = 24 ∨ i < 6))) ∧ ∃ m, w' = w.drewN m := by
  obtain ⟨c0, -⟩ := h.c0
  obtain ⟨c1, -⟩ := h.c1
  obtain ⟨c2, -⟩ := h.c2
  have h7 : ¬ (i : Int) > 7 := by omega
  have hkz : (k : Int) ≤ 11 := by omega
  have hh := fun w => rholds_in w (8 * (k : Int) + i) n ⟨by omega, by omega⟩ hn
  have hd : decide (n = 24 ∨ (8 * (k : Int) + i) % 8 < 6) = decide (n = 24 ∨ i < 6) := by
    have : (8 * (k : Int) + i) % 8 = i := by omega
    rw [this]
    simp only [decide_eq_decide]
    omega
  rw [hd] at hh
  clear h hk hi hn hd
  generalize HD : decide (n = 24 ∨ i < 6) = bb at *
  clear HD
  go_enter Try.func13, Try.ntmps13
  go_wp2_with fail
  go_quiet (first | (go_at_call 18; refine Calls.quiet_of_same (hh _)))
  go_wp2
  go_ret
  exact ⟨rfl, _, rfl⟩
theorem rroom_v (w : World) (b : Nat) (s : St) (h : FB w b 29 s) (ok : Okf s) (n : Int) : Calls Try.prog 13 #[.pointer (some ⟨b, 0, none⟩), .int .i64 n] w fun e w' => e = .returned (.bool (rmV s n)) ∧ ∃ m, w' = w.drewN m := by
  unfold rmV
  obtain ⟨hk, hi⟩ := ok
  by_cases ho : s.o = false
  · have e : decide (nxC s n = 0) = false := by
      by_cases h1 : n < 0 ∨ 25 ≤ n
      · rw [nx_1 h1]; rfl
      · rw [nx_11 h1 ho]; rfl
    rw [e]
    obtain ⟨o, k, i⟩ := s
    simp only at ho
    subst ho
    refine (rroom_none w b k i h n).mono ?_
    rintro e w' ⟨rfl, rfl⟩
    exact ⟨rfl, 0, rfl⟩
  · by_cases h8 : s.i < 8
    · by_cases h1 : n < 0 ∨ 25 ≤ n
      · rw [nx_1 h1]
        obtain ⟨o, k, i⟩ := s
        simp only [Bool.not_eq_false] at ho
        subst ho
        exact rroom_out w b k i h hk h8 n h1
      · have e : decide (nxC s n = 0) = decide (n = 24 ∨ s.i < 6) := by
          by_cases hb : n = 24 ∨ s.i < 6
          · rw [nx_0 h1 ho ⟨h8, hb⟩, decide_eq_true hb]; rfl
          · rw [nx_10 h1 ho (fun x => hb x.2), decide_eq_false hb]; rfl
        rw [e]
        obtain ⟨o, k, i⟩ := s
        simp only [Bool.not_eq_false] at ho
        subst ho
        exact rroom_page w b k i h hk h8 n (by omega)
    · have e : decide (nxC s n = 0) = false := by
        by_cases h1 : n < 0 ∨ 25 ≤ n
        · rw [nx_1 h1]; rfl
        · rw [nx_10 h1 ho (fun x => h8 x.1)]; rfl
      rw [e]
      obtain ⟨o, k, i⟩ := s
      simp only [Bool.not_eq_false] at ho
      subst ho
      obtain rfl : i = 8 := by simp only at hi h8; omega
      refine (rroom_end w b k h n).mono ?_
      rintro e w' ⟨rfl, rfl⟩
      exact ⟨rfl, 0, rfl⟩
theorem rtake_v (w : World) (b : Nat) (s : St) (h : FB w b 29 s) (ok : Okf s) (n : Int) : Calls Try.prog 11 #[.pointer (some ⟨b, 0, none⟩), .int .i64 n] w fun e w' => e = .returned (.tuple #[.int .i64 (nxV s n), .int .i64 (nxC s n : Nat)]) ∧ FB w' b 29 (tkS s n) ∧ Chg (· = b) w w' := by
  have hn := rroom_v w b s h ok n
  obtain ⟨c0, -⟩ := h.c0
  have HK := hyd h
  have HO := hyd ok
  clear h ok
  unfold rmV at hn
  unfold nxV tkS
  by_cases h1 : n < 0 ∨ 25 ≤ n
  · rw [nx_1 h1] at hn ⊢
    by_cases h0 : n < 0
    · clear h1
      go_enter Try.func11, Try.ntmps11
      go_wp2_with fail
      refine hn.mono ?_
      rintro e w1 ⟨rfl, m, rfl⟩
      clear hn
      go_wp2
      go_ret2
      exact ⟨rfl, HK.out.drewN m, (Chg.refl (· = b) _).drewN m⟩
    · have h2 : n > 24 := by omega
      clear h1
      go_enter Try.func11, Try.ntmps11
      go_wp2_with fail
      refine hn.mono ?_
      rintro e w1 ⟨rfl, m, rfl⟩
      clear hn
      go_wp2
      go_ret2
      exact ⟨rfl, HK.out.drewN m, (Chg.refl (· = b) _).drewN m⟩
  · have h0 : ¬ n < 0 := by omega
    have h2 : ¬ n > 24 := by omega
    by_cases ho : s.o = false
    · rw [nx_11 h1 ho] at hn ⊢
      rw [ho] at c0
      clear h1 ho
      go_enter Try.func11, Try.ntmps11
      go_wp2_with fail
      refine hn.mono ?_
      rintro e w1 ⟨rfl, m, rfl⟩
      clear hn
      go_wp2
      go_ret2
      exact ⟨rfl, HK.out.drewN m, (Chg.refl (· = b) _).drewN m⟩
    · by_cases hb : s.i < 8 ∧ (n = 24 ∨ s.i < 6)
      · rw [nx_0 h1 ho hb] at hn ⊢
        obtain ⟨o, k, i⟩ := s
        simp only [Bool.not_eq_false] at ho
        subst ho
        have hk : k < 12 := HO.out.1
        have hi : i < 8 := hb.1
        have hkz : (k : Int) ≤ 11 := by omega
        have hiz : (i : Int) ≤ 7 := by omega
        have HV : Hid (8 * (k : Int) + (i + 1) - 1 = ((k * 8 + i : Nat) : Int)) := by show _ = _; omega
        clear h1 hb hk hi HO
        obtain ⟨c2, f2⟩ := HK.out.c2
        have HK1 := hyd (HK.out.set2 (i + 1))
        simp only at c0 c2 f2
        go_enter Try.func11, Try.ntmps11
        go_wp2_with fail
        refine hn.mono ?_
        rintro e w1 ⟨rfl, m, rfl⟩
        clear hn
        obtain ⟨d1, -⟩ := ((HK.out.drewN m).set2 (i + 1)).c1
        obtain ⟨d2, -⟩ := ((HK.out.drewN m).set2 (i + 1)).c2
        simp only [Int.natCast_add, Int.natCast_one] at d1 d2
        go_wp2_with fail
        go_quiet (fail)
        go_wp2
        go_ret2
        refine ⟨?_, ((HK.out.drewN m).set2 (i + 1)).drewN _, (((Chg.refl (· = b) _).drewN m).setCell (Or.inl rfl) _ _).drewN _⟩
        rw [HV.out]
        rfl
      · rw [nx_10 h1 ho hb] at hn ⊢
        simp only [Bool.not_eq_false] at ho
        rw [ho] at c0
        clear h1 ho hb
        go_enter Try.func11, Try.ntmps11
        go_wp2_with fail
        refine hn.mono ?_
        rintro e w1 ⟨rfl, m, rfl⟩
        clear hn
        go_wp2
        go_ret2
        exact ⟨rfl, HK.out.drewN m, (Chg.refl (· = b) _).drewN m⟩
end Go.Proofs.Ytkkbmfdmfkpgpaa
