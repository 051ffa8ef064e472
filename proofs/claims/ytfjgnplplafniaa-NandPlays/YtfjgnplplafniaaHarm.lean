/-
  What does harm: Flip, FailProgram, FailErase, Cut. Condition: the block holds a chip that can be.
-/
import Derived.Test.YtfjgnplplafniaaDoes
namespace Go.Proofs.Ytfjgnplplafniaa
open Go.RowKit
set_option maxRecDepth 100000

def flipR (s : Chp) (a b : Int) : Chp × Nat :=
  if ¬ (0 ≤ a ∧ a < 96 ∧ 0 ≤ b ∧ b < 2048) then (s, 1) else
  (s.setCh (4 * a.toNat + b.toNat / 512) (turnK (s.ch (4 * a.toNat + b.toNat / 512)) (b.toNat / 8 % 64) (b.toNat % 8)), 0)
theorem flipR_ok {s : Chp} (h : s.Ok) (a b : Int) : (flipR s a b).1.Ok := by
  unfold flipR
  split
  · exact h
  · exact h.setCh _ (turnK_ok (h.ch _) _ _ (Nat.mod_lt _ (by decide)))
theorem flip_chip (g : Nat) (s : Chp) (hs : s.Ok) (c : Nat) (hc : c < 384) (p b : Nat) (hp : p < 64) (hb : b < 8) (w : World) (h : ChipAt w g s) :
    Calls Try.prog 53 #[.pointer (some ⟨g, 130 * c, none⟩), .int .i64 p, .int .i64 b] w fun e w' => e = .returned (.tuple #[]) ∧ ChipAt w' g (s.setCh c (turnK (s.ch c) p b)) ∧ Chg (· = g) w w' := by
  refine (flip_cell g (130 * c) 73 49984 _ (by omega) (s.ch c) (hs.ch c) (ccell_ch s hs c hc) p b hp hb w h).mono ?_
  rintro e w' ⟨rfl, h1, h2⟩
  have hk := turnK_ok (hs.ch c) p b hb
  exact ⟨rfl, h1.ext fun i _ => ccell_setCh s c hc _ (ckc_length hk.now hk.tru) i, h2⟩
set_option maxHeartbeats 1000000 in
theorem flip_any (g : Nat) (s : Chp) (hs : s.Ok) (a b : Int) (w : World) (h : ChipAt w g s) :
    Calls Try.prog 22 #[.pointer (some ⟨g, 0, none⟩), .int .i64 a, .int .i64 b] w fun e w' => e = .returned (errV (flipR s a b).2) ∧ ChipAt w' g (flipR s a b).1 ∧ Chg (· = g) w w' := by
  unfold flipR
  by_cases ha : 0 ≤ a ∧ a < 96
  · obtain ⟨ha0, ha1⟩ := ha
    by_cases hb : 0 ≤ b ∧ b < 2048
    · obtain ⟨hb0, hb1⟩ := hb
      rw [if_neg (by omega)]
      obtain ⟨a, rfl⟩ := Int.eq_ofNat_of_zero_le ha0
      obtain ⟨b, rfl⟩ := Int.eq_ofNat_of_zero_le hb0
      rw [Int.toNat_natCast, Int.toNat_natCast]
      have HS := hyd hs
      clear hs
      go_enter Try.func22, Try.ntmps22
      go_wp2_with fail
      refine (below_yes (a : Int) 96 ha0 ha1 _).mono ?_
      rintro e w' ⟨rfl, rfl⟩
      go_wp2_with fail
      refine (below_yes (b : Int) 2048 hb0 hb1 _).mono ?_
      rintro e w' ⟨rfl, rfl⟩
      have q0 : (0 : Int) ≤ (b : Int) / 8 / 64 := by omega
      have q1 : (b : Int) / 8 / 64 < 4 := by omega
      go_wp2_with fail
      rw [show a * 520 + b / 8 / 64 * 130 = 130 * (4 * a + b / 512) from by omega, show (b : Int) / 8 % 64 = ((b / 8 % 64 : Nat) : Int) from by omega, show (b : Int) % 8 = ((b % 8 : Nat) : Int) from by omega]
      refine (flip_chip g s HS.out (4 * a + b / 512) (by omega) (b / 8 % 64) (b % 8) (by omega) (by omega) _ h).mono ?_
      rintro e w1 ⟨rfl, h1, hG⟩
      go_wp2
      go_ret
      exact ⟨rfl, h1, hG⟩
    · rw [if_pos (by omega)]
      go_enter Try.func22, Try.ntmps22
      go_wp2_with fail
      refine (below_yes a 96 ha0 ha1 _).mono ?_
      rintro e w' ⟨rfl, rfl⟩
      go_wp2_with fail
      refine (below_no b 2048 (by omega) _).mono ?_
      rintro e w' ⟨rfl, rfl⟩
      go_wp2
      go_ret
      exact ⟨rfl, h, Chg.refl _ _⟩
  · rw [if_pos (by omega)]
    go_enter Try.func22, Try.ntmps22
    go_wp2_with fail
    refine (below_no a 96 (by omega) _).mono ?_
    rintro e w' ⟨rfl, rfl⟩
    go_wp2
    go_ret
    exact ⟨rfl, h, Chg.refl _ _⟩

def cutR (s : Chp) (n : Int) : Chp × Nat := if n < 0 then (s, 1) else (if s.on = true then { s with lim := true, bud := n.toNat } else s, 0)
theorem cutR_ok {s : Chp} (h : s.Ok) (n : Int) (hn : n < 9223372036854775808) : (cutR s n).1.Ok := by
  unfold cutR
  split
  · exact h
  · show (if s.on = true then _ else s : Chp).Ok
    split
    · exact ⟨h.ch, h.bl, by show n.toNat < _; omega, h.lo, h.hi⟩
    · exact h
theorem cut_any (g : Nat) (s : Chp) (n : Int) (w : World) (h : ChipAt w g s) :
    Calls Try.prog 13 #[.pointer (some ⟨g, 0, none⟩), .int .i64 n] w fun e w' => e = .returned (errV (cutR s n).2) ∧ ChipAt w' g (cutR s n).1 ∧ Chg (· = g) w w' := by
  unfold cutR
  have c1 := h.on
  have c2 := h.lim
  have c3 := h.bud
  have f1 := h.frozen
  by_cases hn : n < 0
  · rw [if_pos hn]
    go_enter Try.func13, Try.ntmps13
    go_wp2
    go_ret
    exact ⟨rfl, h, Chg.refl _ _⟩
  · rw [if_neg hn]
    by_cases hon : s.on = true
    · rw [if_pos hon]
      rw [hon] at c1
      have hC := (h.setLim true).setBud n.toNat
      have hG := ((Chg.refl (· = g) w).at g 49981 (.bool true)).at g 49982 (.int .i64 (n.toNat : Nat))
      rw [show ((n.toNat : Nat) : Int) = n from by omega] at hC hG
      clear hon
      go_enter Try.func13, Try.ntmps13
      go_wp2
      go_ret
      exact ⟨rfl, hC, hG⟩
    · rw [if_neg hon]
      rw [Bool.eq_false_iff.2 hon] at c1
      clear hon
      go_enter Try.func13, Try.ntmps13
      go_wp2
      go_ret
      exact ⟨rfl, h, Chg.refl _ _⟩
def failPR (s : Chp) (b n : Int) : Chp × Nat := if ¬ (0 ≤ b ∧ b < 12 ∧ 0 ≤ n) then (s, 1) else (s.setBl b.toNat { s.bl b.toNat with wf := true, ahead := n.toNat }, 0)
theorem failPR_ok {s : Chp} (h : s.Ok) (b n : Int) (hn : n < 9223372036854775808) : (failPR s b n).1.Ok := by
  unfold failPR
  split
  · exact h
  · exact h.setBl _ ⟨by show n.toNat < _; omega, fun e => absurd e (by simp), (h.bl _).lo, (h.bl _).hi⟩
set_option maxHeartbeats 1000000 in
theorem failP_any (g : Nat) (s : Chp) (b n : Int) (w : World) (h : ChipAt w g s) :
    Calls Try.prog 35 #[.pointer (some ⟨g, 0, none⟩), .int .i64 b, .int .i64 n] w fun e w' => e = .returned (errV (failPR s b n).2) ∧ ChipAt w' g (failPR s b n).1 ∧ Chg (· = g) w w' := by
  unfold failPR
  by_cases hb : 0 ≤ b ∧ b < 12
  · obtain ⟨hb0, hb1⟩ := hb
    by_cases hn : n < 0
    · rw [if_pos (by omega)]
      go_enter Try.func35, Try.ntmps35
      go_wp2_with fail
      refine (below_yes b 12 hb0 hb1 _).mono ?_
      rintro e w' ⟨rfl, rfl⟩
      go_wp2
      go_ret
      exact ⟨rfl, h, Chg.refl _ _⟩
    · rw [if_neg (by omega)]
      obtain ⟨b, rfl⟩ := Int.eq_ofNat_of_zero_le hb0
      rw [Int.toNat_natCast]
      have hb2 : b < 12 := by omega
      have hr1 := h.setBl1 hb2 { s.bl b with wf := true } rfl 1 (by omega) (.bool true) (by simp [blc])
      have hr2 := hr1.setBl1 hb2 { s.bl b with wf := true, ahead := n.toNat } (by rw [setBl_bl]) 2 (by omega) (.int .i64 (n.toNat : Nat)) (by rw [setBl_bl]; simp [blc])
      rw [setBl_setBl] at hr2
      have hG := ((Chg.refl (· = g) w).at g (49920 + 4 * b + 1) (.bool true)).at g (49920 + 4 * b + 2) (.int .i64 (n.toNat : Nat))
      have c1 := Sto.cell h (49920 + 4 * b + 1) (by omega)
      have c2 := Sto.cell h (49920 + 4 * b + 2) (by omega)
      have f1 := Sto.frozen h (49920 + 4 * b + 1)
      have f2 := Sto.frozen h (49920 + 4 * b + 2)
      rw [show ((n.toNat : Nat) : Int) = n from by omega] at hr2 hG
      rw [show 49920 + 4 * b = 49920 + b * 4 from by omega] at *
      clear hr1
      go_enter Try.func35, Try.ntmps35
      go_wp2_with fail
      refine (below_yes (b : Int) 12 hb0 hb1 _).mono ?_
      rintro e w' ⟨rfl, rfl⟩
      go_wp2
      go_ret
      exact ⟨rfl, hr2, hG⟩
  · rw [if_pos (by omega)]
    go_enter Try.func35, Try.ntmps35
    go_wp2_with fail
    refine (below_no b 12 (by omega) _).mono ?_
    rintro e w' ⟨rfl, rfl⟩
    go_wp2
    go_ret
    exact ⟨rfl, h, Chg.refl _ _⟩
def failER (s : Chp) (b : Int) : Chp × Nat := if ¬ (0 ≤ b ∧ b < 12) then (s, 1) else (s.setBl b.toNat { s.bl b.toNat with ef := true }, 0)
theorem failER_ok {s : Chp} (h : s.Ok) (b : Int) : (failER s b).1.Ok := by
  unfold failER
  split
  · exact h
  · exact h.setBl _ ⟨(h.bl _).ahead, (h.bl _).none, (h.bl _).lo, (h.bl _).hi⟩
theorem failE_any (g : Nat) (s : Chp) (b : Int) (w : World) (h : ChipAt w g s) :
    Calls Try.prog 37 #[.pointer (some ⟨g, 0, none⟩), .int .i64 b] w fun e w' => e = .returned (errV (failER s b).2) ∧ ChipAt w' g (failER s b).1 ∧ Chg (· = g) w w' := by
  unfold failER
  by_cases hb : 0 ≤ b ∧ b < 12
  · obtain ⟨hb0, hb1⟩ := hb
    rw [if_neg (by omega)]
    obtain ⟨b, rfl⟩ := Int.eq_ofNat_of_zero_le hb0
    rw [Int.toNat_natCast]
    have hb2 : b < 12 := by omega
    have hr1 := h.setBl1 hb2 { s.bl b with ef := true } rfl 3 (by omega) (.bool true) (by simp [blc])
    have hG := (Chg.refl (· = g) w).at g (49920 + 4 * b + 3) (.bool true)
    have c1 := Sto.cell h (49920 + 4 * b + 3) (by omega)
    have f1 := Sto.frozen h (49920 + 4 * b + 3)
    rw [show 49920 + 4 * b = 49920 + b * 4 from by omega] at *
    go_enter Try.func37, Try.ntmps37
    go_wp2_with fail
    refine (below_yes (b : Int) 12 hb0 hb1 _).mono ?_
    rintro e w' ⟨rfl, rfl⟩
    go_wp2
    go_ret
    exact ⟨rfl, hr1, hG⟩
  · rw [if_pos (by omega)]
    go_enter Try.func37, Try.ntmps37
    go_wp2_with fail
    refine (below_no b 12 (by omega) _).mono ?_
    rintro e w' ⟨rfl, rfl⟩
    go_wp2
    go_ret
    exact ⟨rfl, h, Chg.refl _ _⟩
end Go.Proofs.Ytfjgnplplafniaa
