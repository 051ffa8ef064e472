/-
  Write. Condition: the block holds a chip that can be; the bytes lie elsewhere.
-/
import Derived.Test.YtfjgnplplafniaaDoes
namespace Go.Proofs.Ytfjgnplplafniaa
open Go.RowKit
set_option maxRecDepth 100000

def writeR (s : Chp) (a k : Int) (l : List Nat) : Chp × Nat :=
  if ¬ (0 ≤ a ∧ a < 96 ∧ 0 ≤ k ∧ k < 4) ∨ l.length ≠ 64 then (s, 1) else
  if s.on = false then (s, 7) else
  if (s.ch (4 * a.toNat + k.toNat)).is = true then (s, 9) else
  if s.lim = true ∧ s.bud = 0 then (offS s, 7) else
  if (failW (s.bl (a.toNat / 8))).failed = true then ((goS s).setBl (a.toNat / 8) (failW (s.bl (a.toNat / 8))), 8) else
  (((goS s).setBl (a.toNat / 8) (failW (s.bl (a.toNat / 8)))).setCh (4 * a.toNat + k.toNat) (pgmK l), 0)
theorem writeR_ok {s : Chp} (h : s.Ok) (a k : Int) {l : List Nat} (hl : Bys l) : (writeR s a k l).1.Ok := by
  unfold writeR
  split
  · exact h
  · rename_i h1
    split
    · exact h
    · split
      · exact h
      · split
        · exact h.off
        · split
          · exact h.go.setBl _ (failW_ok (h.bl _))
          · exact (h.go.setBl _ (failW_ok (h.bl _))).setCh _ (pgmK_ok (by omega) hl)
theorem ChipAt.is {w : World} {g : Nat} {s : Chp} (h : ChipAt w g s) (hs : s.Ok) (c : Nat) (hc : c < 384) : w.cell? ⟨g, 130 * c + 128, none⟩ = some (.bool (s.ch c).is) := by
  rw [Sto.cell h _ (by omega)]
  congr 1
  exact ckc_is (hs.ch c).now (hs.ch c).tru (ccell_ch s hs c hc)
theorem program_chip (g : Nat) (s : Chp) (c : Nat) (hc : c < 384) (oo q cap : Nat) (hq : q ≠ g) (l : List Nat) (hl : l.length = 64) (w : World) (h : ChipAt w g s)
    (hsrc : ∀ i, i < 64 → w.cell? ⟨q, oo + i, none⟩ = some (.int .u8 (l.getD i 0 : Nat))) :
    Calls Try.prog 49 #[.pointer (some ⟨g, 130 * c, none⟩), .slice (some ⟨q, oo, none⟩) 64 cap] w fun e w' => e = .returned (.tuple #[]) ∧ ChipAt w' g (s.setCh c (pgmK l)) ∧ Chg (· = g) w w' := by
  refine (program_any g (130 * c) 73 49984 _ (by omega) q oo cap hq l hl w h hsrc).mono ?_
  rintro e w' ⟨rfl, h1, h2⟩
  exact ⟨rfl, h1.ext fun i _ => ccell_setCh s c hc _ (ckc_length hl hl) i, h2⟩
set_option maxHeartbeats 2000000 in
theorem write_arg1 (g : Nat) (a k : Int) (h : a < 0 ∨ 96 ≤ a ∨ k < 0 ∨ 4 ≤ k) (v : Value) (w : World) :
    Calls Try.prog 16 #[.pointer (some ⟨g, 0, none⟩), .int .i64 a, .int .i64 k, v] w fun e w' => e = .returned (errV 1) ∧ w' = w := by
  go_enter Try.func16, Try.ntmps16
  go_wp2_with fail
  refine (isChunk_no a k h _).mono ?_
  rintro e w' ⟨rfl, rfl⟩
  go_wp2
  go_ret
  exact ⟨rfl, rfl⟩
theorem write_arg2 (g : Nat) (a k : Int) (h0 : 0 ≤ a) (h1 : a < 96) (h2 : 0 ≤ k) (h3 : k < 4) (ad : Option Addr) (n cap : Nat) (hn : n ≠ 64) (w : World) :
    Calls Try.prog 16 #[.pointer (some ⟨g, 0, none⟩), .int .i64 a, .int .i64 k, .slice ad n cap] w fun e w' => e = .returned (errV 1) ∧ w' = w := by
  have hne : ((n : Int) != 64) = true := by rw [bne_iff_ne]; omega
  go_enter Try.func16, Try.ntmps16
  go_wp2_with fail
  refine (isChunk_yes a k h0 h1 h2 h3 _).mono ?_
  rintro e w' ⟨rfl, rfl⟩
  go_wp2
  go_ret
  exact ⟨rfl, rfl⟩
set_option maxHeartbeats 2000000 in
theorem write_good (g : Nat) (s : Chp) (hs : s.Ok) (a k : Nat) (ha : a < 96) (hk : k < 4) (l : List Nat) (hl : l.length = 64) (q oo cap : Nat) (hq : q ≠ g) (w : World) (h : ChipAt w g s)
    (hsrc : ∀ i, i < 64 → w.cell? ⟨q, oo + i, none⟩ = some (.int .u8 (l.getD i 0 : Nat))) (hqs : q < w.heap.size) :
    Calls Try.prog 16 #[.pointer (some ⟨g, 0, none⟩), .int .i64 a, .int .i64 k, .slice (some ⟨q, oo, none⟩) 64 cap] w fun e w' => e = .returned (errV (writeR s a k l).2) ∧ ChipAt w' g (writeR s a k l).1 ∧ Chg (· = g) w w' := by
  unfold writeR
  rw [if_neg (by omega), Int.toNat_natCast, Int.toNat_natCast]
  have ha0 : (0 : Int) ≤ a := by omega
  have ha1 : (a : Int) < 96 := by omega
  have hk0 : (0 : Int) ≤ k := by omega
  have hk1 : (k : Int) < 4 := by omega
  have c1 := h.on
  have c2 := h.is hs (4 * a + k) (by omega)
  have HSRC := hyd hsrc
  have HL := hyd hl
  have HS := hyd hs
  clear hsrc hl hs
  rw [show 130 * (4 * a + k) + 128 = a * 520 + k * 130 + 128 from by omega] at c2
  cases hon : s.on with
  | false =>
    rw [if_pos rfl]
    rw [hon] at c1
    clear hon
    go_enter Try.func16, Try.ntmps16
    go_wp2_with fail
    refine (isChunk_yes a k ha0 ha1 hk0 hk1 _).mono ?_
    rintro e w' ⟨rfl, rfl⟩
    go_wp2
    go_ret
    exact ⟨rfl, h, Chg.refl _ _⟩
  | true =>
    rw [if_neg (by simp)]
    rw [hon] at c1
    clear hon
    cases his : (s.ch (4 * a + k)).is with
    | true =>
      rw [if_pos rfl]
      rw [his] at c2
      clear his
      go_enter Try.func16, Try.ntmps16
      go_wp2_with fail
      refine (isChunk_yes a k ha0 ha1 hk0 hk1 _).mono ?_
      rintro e w' ⟨rfl, rfl⟩
      go_wp2
      go_ret
      exact ⟨rfl, h, Chg.refl _ _⟩
    | false =>
      rw [if_neg (by simp)]
      rw [his] at c2
      clear his
      by_cases hc : s.lim = true ∧ s.bud = 0
      · rw [if_pos hc]
        have HC := hyd hc
        clear hc
        go_enter Try.func16, Try.ntmps16
        go_wp2_with fail
        refine (isChunk_yes a k ha0 ha1 hk0 hk1 _).mono ?_
        rintro e w' ⟨rfl, rfl⟩
        go_wp2_with fail
        refine (step_cut g s _ h HC.out.1 HC.out.2).mono ?_
        rintro e w' ⟨rfl, h1, hG⟩
        go_wp2
        go_ret
        exact ⟨rfl, h1, hG⟩
      · rw [if_neg hc]
        have HC := hyd hc
        clear hc
        cases hf : (failW (s.bl (a / 8))).failed with
        | true =>
          rw [if_pos rfl]
          have HF := hyd hf
          clear hf
          go_enter Try.func16, Try.ntmps16
          go_wp2_with fail
          refine (isChunk_yes a k ha0 ha1 hk0 hk1 _).mono ?_
          rintro e w' ⟨rfl, rfl⟩
          go_wp2_with fail
          refine (step_any g s _ HS.out h HC.out).mono ?_
          rintro e w1 ⟨rfl, h1, hG⟩
          clear h c1 c2
          go_wp2_with fail
          rw [show 49920 + a / 8 * 4 = 49920 + 4 * (a / 8) from by omega]
          refine (failsAtWrite_any g (a / 8) (by omega) (goS s) HS.out.go _ h1).mono ?_
          rintro e w2 ⟨rfl, h2, hG2⟩
          rw [show (failW ((goS s).bl (a / 8))).failed = true from HF.out]
          go_wp2
          go_ret
          exact ⟨rfl, h2, hG.trans hG2⟩
        | false =>
          rw [if_neg (by simp)]
          have HF := hyd hf
          clear hf
          go_enter Try.func16, Try.ntmps16
          go_wp2_with fail
          refine (isChunk_yes a k ha0 ha1 hk0 hk1 _).mono ?_
          rintro e w' ⟨rfl, rfl⟩
          go_wp2_with fail
          refine (step_any g s _ HS.out h HC.out).mono ?_
          rintro e w1 ⟨rfl, h1, hG⟩
          clear h c1 c2
          go_wp2_with fail
          rw [show 49920 + a / 8 * 4 = 49920 + 4 * (a / 8) from by omega]
          refine (failsAtWrite_any g (a / 8) (by omega) (goS s) HS.out.go _ h1).mono ?_
          rintro e w2 ⟨rfl, h2, hG2⟩
          rw [show (failW ((goS s).bl (a / 8))).failed = false from HF.out]
          have hG3 := hG.trans hG2
          have HSRC2 := hyd fun i (hi : i < 64) => (World.cell?_of_block (a := ⟨q, oo + i, none⟩) (hG3.block q hqs hq)).trans (HSRC.out i hi)
          clear h1 hG hG2
          go_wp2_with fail
          rw [show a * 520 + k * 130 = 130 * (4 * a + k) from by omega]
          refine (program_chip g _ (4 * a + k) (by omega) oo q cap hq l HL.out _ h2 HSRC2.out).mono ?_
          rintro e w3 ⟨rfl, h3, hG4⟩
          have hG5 := hG3.trans hG4
          clear hG3 hG4 h2 HSRC HSRC2
          go_wp2
          go_ret
          exact ⟨rfl, h3, hG5⟩
/-- Write, whatever is handed in. -/
theorem write_any (g : Nat) (s : Chp) (hs : s.Ok) (a k : Int) (l : List Nat) (v : Value) (w : World) (hv : Held w v l) (hq : v.ownBlock ≠ some g) (h : ChipAt w g s) :
    Calls Try.prog 16 #[.pointer (some ⟨g, 0, none⟩), .int .i64 a, .int .i64 k, v] w fun e w' => e = .returned (errV (writeR s a k l).2) ∧ ChipAt w' g (writeR s a k l).1 ∧ Chg (· = g) w w' := by
  by_cases hc : 0 ≤ a ∧ a < 96 ∧ 0 ≤ k ∧ k < 4
  · obtain ⟨ad, cap, rfl, hx⟩ := hv
    by_cases hl : l.length = 64
    · obtain ⟨a, rfl⟩ := Int.eq_ofNat_of_zero_le hc.1
      obtain ⟨k, rfl⟩ := Int.eq_ofNat_of_zero_le hc.2.2.1
      rcases hx with hx | ⟨q, oo, rfl, hqs, hx⟩
      · omega
      · rw [hl] at hx hq ⊢
        exact write_good g s hs a k (by omega) (by omega) l hl q oo cap (fun e => hq (by rw [e]; rfl)) w h hx hqs
    · have e : writeR s a k l = (s, 1) := by unfold writeR; rw [if_pos (Or.inr hl)]
      rw [e]
      refine (write_arg2 g a k hc.1 hc.2.1 hc.2.2.1 hc.2.2.2 ad l.length cap hl w).mono ?_
      rintro e w' ⟨rfl, rfl⟩
      exact ⟨rfl, h, Chg.refl _ _⟩
  · have e : writeR s a k l = (s, 1) := by unfold writeR; rw [if_pos (Or.inl hc)]
    rw [e]
    refine (write_arg1 g a k (by omega) v w).mono ?_
    rintro e w' ⟨rfl, rfl⟩
    exact ⟨rfl, h, Chg.refl _ _⟩
end Go.Proofs.Ytfjgnplplafniaa
