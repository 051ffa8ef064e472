/-
  The small functions: below, sound, Ahead, cmp.Compare, cmp.Or, and the function that the sort is handed. No condition: lemmas.
-/
import Derived.Test.YtjkpidhpjleebaaMem
namespace Go.Proofs.Ytjkpidhpjleebaa
set_option maxRecDepth 100000
open Go.RowKit Go.Sort

def blw (a n : Int) : Bool := decide (0 ≤ a) && decide (a < n)
theorem blw_true {a n : Int} (h : blw a n = true) : 0 ≤ a ∧ a < n := by simpa [blw] using h
theorem blw_false {a n : Int} (h : blw a n = false) : a < 0 ∨ n ≤ a := by
  simp only [blw, Bool.and_eq_false_iff, decide_eq_false_iff_not] at h
  omega
theorem blw_yes {a n : Int} (h1 : 0 ≤ a) (h2 : a < n) : blw a n = true := by simp [blw, h1, h2]
theorem blw_no {a n : Int} (h : a < 0 ∨ n ≤ a) : blw a n = false := by
  simp only [blw, Bool.and_eq_false_iff, decide_eq_false_iff_not]
  omega
theorem snd_blw (f : Fnd) : snd f = (blw f.P 96 && (blw f.O 25 && (blw f.S 1099511627776 && blw f.C 256))) := by
  simp only [snd, blw, Bool.and_assoc]
theorem snd_no {f : Fnd} (h : ¬ (0 ≤ f.P ∧ f.P < 96 ∧ 0 ≤ f.O ∧ f.O < 25 ∧ 0 ≤ f.S ∧ f.S < 1099511627776 ∧ 0 ≤ f.C ∧ f.C < 256)) : snd f = false := by
  rw [← Bool.not_eq_true, snd_iff]; exact h
theorem ahd_iff (a b : Int) : ahd a b = true ↔ 0 ≤ a ∧ a < 256 ∧ 0 ≤ b ∧ b < 256 ∧ 1 ≤ (b - a) % 256 ∧ (b - a) % 256 ≤ 127 := by
  simp [ahd, and_assoc]
theorem ahd_no {a b : Int} (h : ¬ (0 ≤ a ∧ a < 256 ∧ 0 ≤ b ∧ b < 256 ∧ 1 ≤ (b - a) % 256 ∧ (b - a) % 256 ≤ 127)) : ahd a b = false := by
  rw [← Bool.not_eq_true, ahd_iff]; exact h
set_option maxHeartbeats 1000000 in
theorem below_any (a n : Int) (w : World) : Calls Try.prog 20 #[.int .i64 a, .int .i64 n] w fun e w' => e = .returned (.bool (blw a n)) ∧ w' = w := by
  by_cases h1 : 0 ≤ a
  · by_cases h2 : a < n
    · have hb := blw_yes h1 h2
      go_enter Try.func20, Try.ntmps20
      go_wp2
      go_ret
      exact ⟨by rw [hb]; rfl, rfl⟩
    · have hb : Hid (blw a n = false) := blw_no (by omega)
      go_enter Try.func20, Try.ntmps20
      go_wp2
      go_ret
      exact ⟨by rw [hb.out]; rfl, rfl⟩
  · have hb : Hid (blw a n = false) := blw_no (by omega)
    go_enter Try.func20, Try.ntmps20
    go_wp2
    go_ret
    exact ⟨by rw [hb.out]; rfl, rfl⟩
set_option maxHeartbeats 1000000 in
theorem below64_any (a n : Int) (w : World) : Calls Try.prog 32 #[.int .i64 a, .int .i64 n] w fun e w' => e = .returned (.bool (blw a n)) ∧ w' = w := by
  by_cases h1 : 0 ≤ a
  · by_cases h2 : a < n
    · have hb := blw_yes h1 h2
      go_enter Try.func32, Try.ntmps32
      go_wp2
      go_ret
      exact ⟨by rw [hb]; rfl, rfl⟩
    · have hb : Hid (blw a n = false) := blw_no (by omega)
      go_enter Try.func32, Try.ntmps32
      go_wp2
      go_ret
      exact ⟨by rw [hb.out]; rfl, rfl⟩
  · have hb : Hid (blw a n = false) := blw_no (by omega)
    go_enter Try.func32, Try.ntmps32
    go_wp2
    go_ret
    exact ⟨by rw [hb.out]; rfl, rfl⟩
set_option maxHeartbeats 2000000 in
theorem sound_any (f : Fnd) (w : World) : Calls Try.prog 25 #[.agg (fA f)] w fun e w' => e = .returned (.bool (snd f)) ∧ Chg (fun _ => False) w w' := by
  obtain ⟨c0, c1, c2, c3, c4, c5⟩ := (Fo.new w f).cells
  have HG : Hid (Chg (fun _ => False) w (w.alloc (.cells (fA f) 28))) := (Chg.refl _ w).alloc _
  have HB := hyd (snd_blw f)
  cases h1 : blw f.P 96 with
  | false =>
    go_enter Try.func25, Try.ntmps25
    go_wp2_with (first | (go_at_call 20; refine (below_any _ _ _).mono ?_; rintro e w' ⟨rfl, rfl⟩) | (go_at_call 32; refine (below64_any _ _ _).mono ?_; rintro e w' ⟨rfl, rfl⟩))
    go_ret
    exact ⟨by rw [HB.out]; simp [h1], HG.out⟩
  | true =>
    cases h2 : blw f.O 25 with
    | false =>
      go_enter Try.func25, Try.ntmps25
      go_wp2_with (first | (go_at_call 20; refine (below_any _ _ _).mono ?_; rintro e w' ⟨rfl, rfl⟩) | (go_at_call 32; refine (below64_any _ _ _).mono ?_; rintro e w' ⟨rfl, rfl⟩))
      go_ret
      exact ⟨by rw [HB.out]; simp [h1, h2], HG.out⟩
    | true =>
      cases h3 : blw f.S 1099511627776 with
      | false =>
        go_enter Try.func25, Try.ntmps25
        go_wp2_with (first | (go_at_call 20; refine (below_any _ _ _).mono ?_; rintro e w' ⟨rfl, rfl⟩) | (go_at_call 32; refine (below64_any _ _ _).mono ?_; rintro e w' ⟨rfl, rfl⟩))
        go_ret
        exact ⟨by rw [HB.out]; simp [h1, h2, h3], HG.out⟩
      | true =>
        cases h4 : blw f.C 256 with
        | false =>
          go_enter Try.func25, Try.ntmps25
          go_wp2_with (first | (go_at_call 20; refine (below_any _ _ _).mono ?_; rintro e w' ⟨rfl, rfl⟩) | (go_at_call 32; refine (below64_any _ _ _).mono ?_; rintro e w' ⟨rfl, rfl⟩))
          go_ret
          exact ⟨by rw [HB.out]; simp [h1, h2, h3, h4], HG.out⟩
        | true =>
          go_enter Try.func25, Try.ntmps25
          go_wp2_with (first | (go_at_call 20; refine (below_any _ _ _).mono ?_; rintro e w' ⟨rfl, rfl⟩) | (go_at_call 32; refine (below64_any _ _ _).mono ?_; rintro e w' ⟨rfl, rfl⟩))
          go_ret
          exact ⟨by rw [HB.out]; simp [h1, h2, h3, h4], HG.out⟩
set_option maxHeartbeats 2000000 in
theorem rsound_any (f : Fnd) (w : World) : Calls Try.prog 17 #[.agg (fA f)] w fun e w' => e = .returned (.bool (snd f)) ∧ Chg (fun _ => False) w w' := by
  obtain ⟨c0, c1, c2, c3, c4, c5⟩ := (Fo.new w f).cells
  have HG : Hid (Chg (fun _ => False) w (w.alloc (.cells (fA f) 28))) := (Chg.refl _ w).alloc _
  by_cases h0 : 0 ≤ f.P
  case neg =>
    have HN : Hid (snd f = false) := snd_no (by omega)
    go_enter Try.func17, Try.ntmps17
    go_wp2
    go_ret
    exact ⟨by rw [HN.out]; rfl, HG.out⟩
  by_cases h1 : f.P ≤ 95
  case neg =>
    have HN : Hid (snd f = false) := snd_no (by omega)
    go_enter Try.func17, Try.ntmps17
    go_wp2
    go_ret
    exact ⟨by rw [HN.out]; rfl, HG.out⟩
  by_cases h2 : 0 ≤ f.O
  case neg =>
    have HN : Hid (snd f = false) := snd_no (by omega)
    go_enter Try.func17, Try.ntmps17
    go_wp2
    go_ret
    exact ⟨by rw [HN.out]; rfl, HG.out⟩
  by_cases h3 : f.O ≤ 24
  case neg =>
    have HN : Hid (snd f = false) := snd_no (by omega)
    go_enter Try.func17, Try.ntmps17
    go_wp2
    go_ret
    exact ⟨by rw [HN.out]; rfl, HG.out⟩
  by_cases h4 : 0 ≤ f.S
  case neg =>
    have HN : Hid (snd f = false) := snd_no (by omega)
    go_enter Try.func17, Try.ntmps17
    go_wp2
    go_ret
    exact ⟨by rw [HN.out]; rfl, HG.out⟩
  by_cases h5 : f.S ≤ 1099511627775
  case neg =>
    have HN : Hid (snd f = false) := snd_no (by omega)
    go_enter Try.func17, Try.ntmps17
    go_wp2
    go_ret
    exact ⟨by rw [HN.out]; rfl, HG.out⟩
  by_cases h6 : 0 ≤ f.C
  case neg =>
    have HN : Hid (snd f = false) := snd_no (by omega)
    go_enter Try.func17, Try.ntmps17
    go_wp2
    go_ret
    exact ⟨by rw [HN.out]; rfl, HG.out⟩
  by_cases h7 : f.C ≤ 255
  case neg =>
    have HN : Hid (snd f = false) := snd_no (by omega)
    go_enter Try.func17, Try.ntmps17
    go_wp2
    go_ret
    exact ⟨by rw [HN.out]; rfl, HG.out⟩
  have HN : Hid (snd f = true) := (snd_iff f).2 (by omega)
  go_enter Try.func17, Try.ntmps17
  go_wp2
  go_ret
  exact ⟨by rw [HN.out]; rfl, HG.out⟩
theorem rem_256 (a b : Int) (h1 : 0 ≤ a) (h2 : a < 256) (h3 : 0 ≤ b) (h4 : b < 256) : (b - a + 256).tmod 256 = (b - a) % 256 := by
  rw [Int.tmod_eq_emod_of_nonneg (by omega)]; omega
set_option maxHeartbeats 2000000 in
theorem ahead_any (a b : Int) (w : World) : Calls Try.prog 9 #[.int .i64 a, .int .i64 b] w fun e w' => e = .returned (.bool (ahd a b)) ∧ w' = w := by
  cases h1 : blw a 256 with
  | false =>
    have HN : Hid (ahd a b = false) := ahd_no (by have := blw_false h1; omega)
    go_enter Try.func9, Try.ntmps9
    go_wp2_with (go_at_call 20; refine (below_any _ _ _).mono ?_; rintro e w' ⟨rfl, rfl⟩)
    go_ret
    exact ⟨by rw [HN.out]; rfl, rfl⟩
  | true =>
  cases h2 : blw b 256 with
  | false =>
    have HN : Hid (ahd a b = false) := ahd_no (by have := blw_false h2; omega)
    go_enter Try.func9, Try.ntmps9
    go_wp2_with (go_at_call 20; refine (below_any _ _ _).mono ?_; rintro e w' ⟨rfl, rfl⟩)
    go_ret
    exact ⟨by rw [HN.out]; rfl, rfl⟩
  | true =>
  obtain ⟨a1, a2⟩ := blw_true h1
  obtain ⟨b1, b2⟩ := blw_true h2
  have hr := rem_256 a b a1 a2 b1 b2
  have hi := ahd_iff a b
  obtain ⟨r, hrr⟩ : ∃ r, (b - a) % 256 = r := ⟨_, rfl⟩
  have r1 : 0 ≤ r := by omega
  have r2 : r < 256 := by omega
  rw [hrr] at hr hi
  have HI := hyd hi
  clear hi hrr
  by_cases c1 : 1 ≤ r
  · by_cases c2 : r ≤ 127
    · have c3 : decide (r < 128) = true := decide_eq_true (by omega)
      go_enter Try.func9, Try.ntmps9
      go_wp2_with (go_at_call 20; refine (below_any _ _ _).mono ?_; rintro e w' ⟨rfl, rfl⟩)
      go_ret
      exact ⟨by rw [HI.out.2 ⟨a1, a2, b1, b2, c1, c2⟩]; rfl, rfl⟩
    · have c3 : decide (r < 128) = false := decide_eq_false (by omega)
      have HN : Hid (ahd a b = false) := by show _ = _; rw [← Bool.not_eq_true, HI.out]; omega
      go_enter Try.func9, Try.ntmps9
      go_wp2_with (go_at_call 20; refine (below_any _ _ _).mono ?_; rintro e w' ⟨rfl, rfl⟩)
      go_ret
      exact ⟨by rw [HN.out]; rfl, rfl⟩
  · have HN : Hid (ahd a b = false) := by show _ = _; rw [← Bool.not_eq_true, HI.out]; omega
    go_enter Try.func9, Try.ntmps9
    go_wp2_with (go_at_call 20; refine (below_any _ _ _).mono ?_; rintro e w' ⟨rfl, rfl⟩)
    go_ret
    exact ⟨by rw [HN.out]; rfl, rfl⟩
set_option maxHeartbeats 2000000 in
theorem rahead_any (a b : Int) (w : World) : Calls Try.prog 10 #[.int .i64 a, .int .i64 b] w fun e w' => e = .returned (.bool (ahd a b)) ∧ w' = w := by
  by_cases a1 : 0 ≤ a
  case neg =>
    have HN : Hid (ahd a b = false) := ahd_no (by omega)
    go_enter Try.func10, Try.ntmps10
    go_wp2
    go_ret
    exact ⟨by rw [HN.out]; rfl, rfl⟩
  by_cases a2 : a < 256
  case neg =>
    have HN : Hid (ahd a b = false) := ahd_no (by omega)
    go_enter Try.func10, Try.ntmps10
    go_wp2
    go_ret
    exact ⟨by rw [HN.out]; rfl, rfl⟩
  by_cases b1 : 0 ≤ b
  case neg =>
    have HN : Hid (ahd a b = false) := ahd_no (by omega)
    go_enter Try.func10, Try.ntmps10
    go_wp2
    go_ret
    exact ⟨by rw [HN.out]; rfl, rfl⟩
  by_cases b2 : b < 256
  case neg =>
    have HN : Hid (ahd a b = false) := ahd_no (by omega)
    go_enter Try.func10, Try.ntmps10
    go_wp2
    go_ret
    exact ⟨by rw [HN.out]; rfl, rfl⟩
  have hr := rem_256 a b a1 a2 b1 b2
  have hi := ahd_iff a b
  obtain ⟨r, hrr⟩ : ∃ r, (b - a) % 256 = r := ⟨_, rfl⟩
  have r1 : 0 ≤ r := by omega
  have r2 : r < 256 := by omega
  rw [hrr] at hr hi
  have HI := hyd hi
  clear hi hrr
  by_cases c1 : 1 ≤ r
  · by_cases c2 : r ≤ 127
    · have c3 : decide (r < 128) = true := decide_eq_true (by omega)
      go_enter Try.func10, Try.ntmps10
      go_wp2
      go_ret
      exact ⟨by rw [HI.out.2 ⟨a1, a2, b1, b2, c1, c2⟩]; rfl, rfl⟩
    · have c3 : decide (r < 128) = false := decide_eq_false (by omega)
      have HN : Hid (ahd a b = false) := by show _ = _; rw [← Bool.not_eq_true, HI.out]; omega
      go_enter Try.func10, Try.ntmps10
      go_wp2
      go_ret
      exact ⟨by rw [HN.out]; rfl, rfl⟩
  · have HN : Hid (ahd a b = false) := by show _ = _; rw [← Bool.not_eq_true, HI.out]; omega
    go_enter Try.func10, Try.ntmps10
    go_wp2
    go_ret
    exact ⟨by rw [HN.out]; rfl, rfl⟩
set_option maxHeartbeats 1000000 in
theorem compare64_any (a b : Int) (w : World) : Calls Try.prog 30 #[.int .i64 a, .int .i64 b] w fun e w' => e = .returned (.int .i64 (cmpI a b)) ∧ w' = w := by
  by_cases h1 : a < b
  · have HN : Hid (cmpI a b = -1) := by show _ = _; simp [cmpI, h1]
    go_enter Try.func30, Try.ntmps30
    go_wp2
    go_ret
    exact ⟨by rw [HN.out]; rfl, rfl⟩
  · by_cases h2 : b < a
    · have HN : Hid (cmpI a b = 1) := by show _ = _; simp [cmpI, h1, h2]
      go_enter Try.func30, Try.ntmps30
      go_wp2
      go_ret
      exact ⟨by rw [HN.out]; rfl, rfl⟩
    · have HN : Hid (cmpI a b = 0) := by show _ = _; simp [cmpI, h1, h2]
      go_enter Try.func30, Try.ntmps30
      go_wp2
      go_ret
      exact ⟨by rw [HN.out]; rfl, rfl⟩
set_option maxHeartbeats 1000000 in
theorem compare_any (a b : Int) (w : World) : Calls Try.prog 31 #[.int .i64 a, .int .i64 b] w fun e w' => e = .returned (.int .i64 (cmpI a b)) ∧ w' = w := by
  by_cases h1 : a < b
  · have HN : Hid (cmpI a b = -1) := by show _ = _; simp [cmpI, h1]
    go_enter Try.func31, Try.ntmps31
    go_wp2
    go_ret
    exact ⟨by rw [HN.out]; rfl, rfl⟩
  · by_cases h2 : b < a
    · have HN : Hid (cmpI a b = 1) := by show _ = _; simp [cmpI, h1, h2]
      go_enter Try.func31, Try.ntmps31
      go_wp2
      go_ret
      exact ⟨by rw [HN.out]; rfl, rfl⟩
    · have HN : Hid (cmpI a b = 0) := by show _ = _; simp [cmpI, h1, h2]
      go_enter Try.func31, Try.ntmps31
      go_wp2
      go_ret
      exact ⟨by rw [HN.out]; rfl, rfl⟩
end Go.Proofs.Ytjkpidhpjleebaa
