/-
  What is done with a chip: Write, Erase, Flip, FailProgram, FailErase, Cut. Condition: the block holds a chip that can be.
-/
import Derived.Test.YtfjgnplplafniaaNew
namespace Go.Proofs.Ytfjgnplplafniaa
open Go.RowKit
set_option maxRecDepth 100000

/-- An error, by its number. -/
def errV : Nat → Value
  | 0 => .nilIface
  | n + 1 => .iface 48 (.int .i64 (n + 1 : Nat))
theorem Chp.Ok.off {s : Chp} (h : s.Ok) : (offS s).Ok := ⟨h.ch, h.bl, (by decide : 0 < 9223372036854775808), h.lo, h.hi⟩
theorem Chp.Ok.onn {s : Chp} (h : s.Ok) : (onS s).Ok := ⟨h.ch, h.bl, (by decide : 0 < 9223372036854775808), h.lo, h.hi⟩
theorem wrap64_lo (n : Int) : -9223372036854775808 ≤ wrap64 n := by unfold wrap64; omega
theorem wrap64_hi (n : Int) : wrap64 n < 9223372036854775808 := by unfold wrap64; omega
theorem Chp.Ok.go {s : Chp} (h : s.Ok) : (goS s).Ok := ⟨h.ch, h.bl, by have := h.bud; show (if s.lim then s.bud - 1 else s.bud) < _; split <;> omega, wrap64_lo _, wrap64_hi _⟩
theorem failW_ok {x : Blo} (h : x.Ok) : (failW x).Ok := ⟨by have := h.ahead; show x.ahead - 1 < _; omega, fun e => by have := h.none e; show x.ahead - 1 = 0; omega, h.lo, h.hi⟩
theorem failE_ok {x : Blo} (h : x.Ok) : (failE x).Ok := ⟨h.ahead, h.none, h.lo, h.hi⟩
theorem pgmK_ok {l : List Nat} (h : l.length = 64) (hb : Bys l) : (pgmK l).Ok := ⟨h, h, hb, hb, (by decide : 0 ≤ 64)⟩
/-- A step: the power goes at it, or it is counted. -/
theorem step_any (g : Nat) (s : Chp) (w : World) (hs : s.Ok) (h : ChipAt w g s) (hn : ¬ (s.lim = true ∧ s.bud = 0)) : Calls Try.prog 47 #[.pointer (some ⟨g, 0, none⟩)] w fun e w' => e = .returned (.bool true) ∧ ChipAt w' g (goS s) ∧ Chg (· = g) w w' := by
  cases hl : s.lim with
  | false => exact step_free g s w h hl
  | true => exact step_paid g s w hs h hl (fun e => hn ⟨hl, e⟩)
/-- The chip, a block of which was erased. -/
def erS (s : Chp) (b : Nat) : Chp := { (s.setBl b { s.bl b with reads := 0 }) with ch := fun j => if 32 * b ≤ j ∧ j < 32 * b + 32 then newK else s.ch j }
theorem Chp.Ok.er {s : Chp} (h : s.Ok) (b : Nat) : (erS s b).Ok := by
  have h1 : (s.setBl b { s.bl b with reads := 0 }).Ok := h.setBl b ⟨(h.bl b).ahead, (h.bl b).none, (by decide : (-9223372036854775808 : Int) ≤ 0), (by decide : (0 : Int) < 9223372036854775808)⟩
  refine ⟨fun c => ?_, h1.bl, h1.bud, h1.lo, h1.hi⟩
  show (if 32 * b ≤ c ∧ c < 32 * b + 32 then newK else s.ch c).Ok
  split
  · exact newK_ok
  · exact h.ch c
theorem ccell_er (s : Chp) (b : Nat) (hb : b < 12) (i : Nat) : upL (clrF (ccell s) b 32) (49968 + b) [.int .i64 0] i = ccell (erS s b) i := by
  by_cases h1 : i < 49920
  · rw [upL_one, if_neg (by omega)]
    unfold clrF ccell
    rw [if_pos h1, if_pos h1]
    show _ = (ckc (if 32 * b ≤ i / 130 ∧ i / 130 < 32 * b + 32 then newK else s.ch (i / 130))).getD (i % 130) undef
    by_cases h : 4160 * b ≤ i ∧ i < 4160 * b + 130 * 32
    · rw [if_pos h, if_pos (by omega)]
    · rw [if_neg h, if_neg (by omega)]
  · have e1 : clrF (ccell s) b 32 i = ccell s i := by unfold clrF; rw [if_neg (by omega)]
    have e2 : upL (clrF (ccell s) b 32) (49968 + b) [.int .i64 0] i = upL (ccell s) (49968 + b) [.int .i64 0] i := by rw [upL_one, upL_one, e1]
    rw [e2, ccell_setReads s b hb 0 i]
    unfold ccell
    rw [if_neg h1, if_neg h1]; rfl
theorem clear_chip (g b : Nat) (hb : b < 12) (s : Chp) (w : World) (h : ChipAt w g s) :
    Calls Try.prog 24 #[.pointer (some ⟨g, 0, none⟩), .int .i64 b] w fun e w' => e = .returned (.tuple #[]) ∧ ChipAt w' g (erS s b) ∧ Chg (· = g) w w' := by
  refine (clear_block g b hb _ w h).mono ?_
  rintro e w' ⟨rfl, h1, h2⟩
  exact ⟨rfl, h1.ext fun i _ => ccell_er s b hb i, h2⟩

def eraseR (s : Chp) (b : Int) : Chp × Nat :=
  if ¬ (0 ≤ b ∧ b < 12) then (s, 1) else
  if s.on = false then (s, 7) else
  if s.lim = true ∧ s.bud = 0 then (offS s, 7) else
  if (failE (s.bl b.toNat)).failed = true then ((goS s).setBl b.toNat (failE (s.bl b.toNat)), 8) else
  (erS ((goS s).setBl b.toNat (failE (s.bl b.toNat))) b.toNat, 0)
theorem eraseR_ok {s : Chp} (h : s.Ok) (b : Int) : (eraseR s b).1.Ok := by
  unfold eraseR
  split
  · exact h
  · split
    · exact h
    · split
      · exact h.off
      · split
        · exact h.go.setBl _ (failE_ok (h.bl _))
        · exact (h.go.setBl _ (failE_ok (h.bl _))).er _
set_option maxHeartbeats 1000000 in
theorem erase_any (g : Nat) (s : Chp) (hs : s.Ok) (b : Int) (w : World) (h : ChipAt w g s) :
    Calls Try.prog 19 #[.pointer (some ⟨g, 0, none⟩), .int .i64 b] w fun e w' => e = .returned (errV (eraseR s b).2) ∧ ChipAt w' g (eraseR s b).1 ∧ Chg (· = g) w w' := by
  unfold eraseR
  by_cases hb : 0 ≤ b ∧ b < 12
  · rw [if_neg (by simpa using hb)]
    obtain ⟨hb0, hb1⟩ := hb
    have c1 := h.on
    cases hon : s.on with
    | false =>
      rw [if_pos rfl]
      rw [hon] at c1
      clear hon
      go_enter Try.func19, Try.ntmps19
      go_wp2_with fail
      refine (below_yes b 12 hb0 hb1 _).mono ?_
      rintro e w' ⟨rfl, rfl⟩
      go_wp2
      go_ret
      exact ⟨rfl, h, Chg.refl _ _⟩
    | true =>
      rw [if_neg (by simp)]
      rw [hon] at c1
      clear hon
      by_cases hc : s.lim = true ∧ s.bud = 0
      · rw [if_pos hc]
        obtain ⟨hl, h0⟩ := hc
        have HL := hyd hl
        have H0 := hyd h0
        clear hl h0
        go_enter Try.func19, Try.ntmps19
        go_wp2_with fail
        refine (below_yes b 12 hb0 hb1 _).mono ?_
        rintro e w' ⟨rfl, rfl⟩
        go_wp2_with fail
        refine (step_cut g s _ h HL.out H0.out).mono ?_
        rintro e w' ⟨rfl, h1, hG⟩
        go_wp2
        go_ret
        exact ⟨rfl, h1, hG⟩
      · rw [if_neg hc]
        obtain ⟨n, rfl⟩ := Int.eq_ofNat_of_zero_le hb0
        have hn : n < 12 := by omega
        rw [Int.toNat_natCast]
        have HS := hyd hs
        have HC := hyd hc
        clear hs hc
        cases hf : (failE (s.bl n)).failed with
        | true =>
          rw [if_pos rfl]
          have HF := hyd hf
          clear hf
          go_enter Try.func19, Try.ntmps19
          go_wp2_with fail
          refine (below_yes (n : Int) 12 hb0 hb1 _).mono ?_
          rintro e w' ⟨rfl, rfl⟩
          go_wp2_with fail
          refine (step_any g s _ HS.out h HC.out).mono ?_
          rintro e w1 ⟨rfl, h1, hG⟩
          clear h c1
          go_wp2_with fail
          rw [show 49920 + n * 4 = 49920 + 4 * n from by omega]
          refine (failsAtErase_any g n hn (goS s) _ h1).mono ?_
          rintro e w2 ⟨rfl, h2, hG2⟩
          rw [show (failE ((goS s).bl n)).failed = true from HF.out]
          go_wp2
          go_ret
          exact ⟨rfl, h2, hG.trans hG2⟩
        | false =>
          rw [if_neg (by simp)]
          have HF := hyd hf
          clear hf
          go_enter Try.func19, Try.ntmps19
          go_wp2_with fail
          refine (below_yes (n : Int) 12 hb0 hb1 _).mono ?_
          rintro e w' ⟨rfl, rfl⟩
          go_wp2_with fail
          refine (step_any g s _ HS.out h HC.out).mono ?_
          rintro e w1 ⟨rfl, h1, hG⟩
          clear h c1
          go_wp2_with fail
          rw [show 49920 + n * 4 = 49920 + 4 * n from by omega]
          refine (failsAtErase_any g n hn (goS s) _ h1).mono ?_
          rintro e w2 ⟨rfl, h2, hG2⟩
          rw [show (failE ((goS s).bl n)).failed = false from HF.out]
          have hG3 := hG.trans hG2
          clear hG hG2 h1
          go_wp2_with fail
          refine (clear_chip g n hn _ _ h2).mono ?_
          rintro e w3 ⟨rfl, h3, hG4⟩
          go_wp2
          go_ret
          exact ⟨rfl, h3, hG3.trans hG4⟩
  · rw [if_pos (by simpa using hb)]
    go_enter Try.func19, Try.ntmps19
    go_wp2_with fail
    refine (below_no b 12 (by omega) _).mono ?_
    rintro e w' ⟨rfl, rfl⟩
    go_wp2
    go_ret
    exact ⟨rfl, h, Chg.refl _ _⟩
end Go.Proofs.Ytfjgnplplafniaa
