/-
  The document's chip: Truth, a page, Read. Condition: the block holds the document's chip.
-/
import Derived.Test.YtfjgnplplafniaaRChunk
namespace Go.Proofs.Ytfjgnplplafniaa
open Go.RowKit
set_option maxRecDepth 100000

set_option maxHeartbeats 1000000 in
theorem rtruth_yes (r : Nat) (s : Chp) (F : Nat → Prop) (a k : Nat) (ha : a < 96) (hk : k < 4) (w : World) (h : RefAt w r s F) :
    Calls Try.prog 45 #[.pointer (some ⟨r, 0, none⟩), .int .i64 a, .int .i64 k] w fun e w' => ∃ gt ct, e = .returned (.tuple #[.slice (some ⟨gt, 0, none⟩) 64 ct, .bool (s.ch (4 * a + k)).is, .int .i64 0]) ∧ By w' gt (s.ch (4 * a + k)).tru ∧ F gt ∧ Chg (fun _ => False) w w' := by
  obtain ⟨p, h⟩ := h
  have ha0 : (0 : Int) ≤ a := by omega
  have ha1 : (a : Int) < 96 := by omega
  have hk0 : (0 : Int) ≤ k := by omega
  have hk1 : (k : Int) < 4 := by omega
  have c1 := h.ch (a / 8) (by omega) (a % 8 * 4 + k) (by omega) 1 (by omega)
  have c2 := h.ch (a / 8) (by omega) (a % 8 * 4 + k) (by omega) 2 (by omega)
  have hT := (h.lst (a / 8) (by omega)).tru (a % 8 * 4 + k) (by omega)
  have hF := h.fl (a / 8) (by omega) _ (Or.inr ⟨a % 8 * 4 + k, by omega, Or.inr rfl⟩)
  have HC := hyd (rchunk_any r s F p a k ha hk w h)
  simp only [chunk_of] at c1 c2 hT
  generalize s.ch (4 * a + k) = x at *
  generalize p.pc (a / 8) (a % 8 * 4 + k) = y at *
  generalize p.gL (a / 8) = q at *
  generalize 4 * (a % 8 * 4 + k) = o at *
  have c1' : w.cell? ⟨q, o + 1, none⟩ = some (.slice (some ⟨y.t, 0, none⟩) 64 y.tc) := c1
  have c2' : w.cell? ⟨q, o + 2, none⟩ = some (.bool x.is) := c2
  clear h c1 c2
  go_enter Try.func45, Try.ntmps45
  go_wp2_with fail
  refine (isPage_yes (a : Int) ha0 ha1 _).mono ?_
  rintro e w' ⟨rfl, rfl⟩
  go_wp2_with fail
  refine HC.out.mono ?_
  rintro e w' ⟨rfl, rfl⟩
  go_wp2_with fail
  go_region
  all_goals
    go_wp2
    go_ret3
    exact ⟨y.t, y.tc, rfl, Row.drew hT, hF, (Chg.refl (fun _ => False) _).drew⟩
set_option maxHeartbeats 1000000 in
theorem rpage_any (r : Nat) (s : Chp) (hs : s.Ok) (F : Nat → Prop) (a : Nat) (ha : a < 96) (w : World) (h : RefAt w r s F) :
    Calls Try.prog 59 #[.pointer (some ⟨r, 0, none⟩), .int .i64 a] w fun e w' => ∃ v, e = .returned v ∧ Own w' w.heap.size 5 v (pgTo s a 4) ∧ Chg (fun _ => False) w w' := by
  have hi5 := info5
  have HH := hyd h
  have HS := hyd hs
  clear h hs
  go_enter Try.func59, Try.ntmps59
  go_wp2
  go_loopw [5, 6] (fun t5 t6 wr => ∃ i : Nat, i ≤ 4 ∧ t6 = .int .i64 i ∧ Own wr w.heap.size 5 t5 (pgTo s a i) ∧ Chg (fun _ => False) w wr) (fun _ t6 _ => 4 - (intOf t6).toNat)
  case atStart => exact ⟨0, by omega, rfl, Own.nil _ _ _, Chg.refl _ _⟩
  case round =>
    obtain ⟨i, hi, rfl, hO, hG⟩ := hrel
    by_cases hlt : i < 4
    · have hi0 : (0 : Int) ≤ (i : Int) := by omega
      have hi1 : (i : Int) < 4 := by omega
      obtain ⟨p, hR⟩ := HH.out.chg hG (fun k _ f => f)
      have c0 := hR.ch (a / 8) (by omega) (a % 8 * 4 + i) (by omega) 0 (by omega)
      have hN := (hR.lst (a / 8) (by omega)).now (a % 8 * 4 + i) (by omega)
      simp only [chunk_of] at c0 hN
      have HC := hyd (rchunk_any r s F p a i ha hlt wr hR)
      have hn := (HS.out.ch (4 * a + i)).now
      have hpl := pgTo_length HS.out a i
      have HP : Hid (pgTo s a (i + 1) = pgTo s a i ++ (s.ch (4 * a + i)).now) := rfl
      generalize s.ch (4 * a + i) = x at *
      generalize p.pc (a / 8) (a % 8 * 4 + i) = y at *
      generalize p.gL (a / 8) = q at *
      generalize 4 * (a % 8 * 4 + i) = o at *
      have c0' : wr.cell? ⟨q, o, none⟩ = some (.slice (some ⟨y.n, 0, none⟩) 64 y.nc) := c0
      have HSRC : Hid (∀ ad, some (⟨y.n, 0, none⟩ : Addr) = some ad → ∀ j, j < 64 → wr.cell? (ad.add j) = some (.int .u8 (x.now.getD j 0 : Nat))) := by
        intro ad e j hj
        cases e
        rw [Addr.add_mid, Nat.zero_add]
        exact hN.cell j (by rw [hn]; exact hj)
      have HN := hyd hn
      have HL := hyd hpl
      have hsz := hG.size
      clear hR c0 hN hn hpl
      go_wp2_with fail
      refine HC.out.mono ?_
      rintro e w' ⟨rfl, rfl⟩
      go_wp2_with (at_builtin; refine wpList_append_bytes _ rfl (.tmp 11) (.tmp 18) 33 rfl w.heap.size 5 Try.underlying33 hi5 _ (pgTo s a i) rfl hO (some ⟨y.n, 0, none⟩) 64 y.nc x.now rfl HN.out (fun e => by cases e) HSRC.out (by rw [HL.out]; omega) hsz w'.heap.size rfl ?_)
      intro v' w2 hO2 hg2 hat2
      rw [← HP.out] at hO2
      have hG2 : Chg (fun _ => False) w w2 := hG.grown hg2 (fun k hk => Or.inr (hO.block hk).1)
      clear hO hG hg2 hat2
      go_wp2
      exact ⟨⟨i + 1, by omega, by go_num, hO2, hG2⟩, by simp [intOf]; omega⟩
    · have e : i = 4 := by omega
      subst e
      go_wp2
      go_ret
      exact ⟨_, rfl, hO, hG⟩
theorem rread_no (r : Nat) (a : Int) (h : a < 0 ∨ 96 ≤ a) (w : World) :
    Calls Try.prog 26 #[.pointer (some ⟨r, 0, none⟩), .int .i64 a] w fun e w' => e = .returned (.tuple #[.slice none 0 0, .int .i64 1]) ∧ Chg (fun _ => False) w w' := by
  go_enter Try.func26, Try.ntmps26
  go_wp2_with fail
  refine (isPage_no a h _).mono ?_
  rintro e w' ⟨rfl, rfl⟩
  go_wp2
  all_goals
    go_ret2
    exact ⟨rfl, Chg.refl _ _⟩
theorem rread_off (r : Nat) (s : Chp) (F : Nat → Prop) (a : Int) (h0 : 0 ≤ a) (h1 : a < 96) (w : World) (h : RefAt w r s F) (hon : s.on = false) :
    Calls Try.prog 26 #[.pointer (some ⟨r, 0, none⟩), .int .i64 a] w fun e w' => e = .returned (.tuple #[.slice none 0 0, .int .i64 7]) ∧ Chg (fun _ => False) w w' := by
  obtain ⟨p, h⟩ := h
  have c1 := h.cOn
  rw [hon] at c1
  clear hon h
  go_enter Try.func26, Try.ntmps26
  go_wp2_with fail
  refine (isPage_yes a h0 h1 _).mono ?_
  rintro e w' ⟨rfl, rfl⟩
  go_wp2
  all_goals
    go_ret2
    exact ⟨rfl, Chg.refl _ _⟩
set_option maxHeartbeats 1000000 in
theorem rread_yes (r : Nat) (s : Chp) (hs : s.Ok) (F : Nat → Prop) (a : Nat) (ha : a < 96) (w : World) (h : RefAt w r s F) (hon : s.on = true) :
    Calls Try.prog 26 #[.pointer (some ⟨r, 0, none⟩), .int .i64 a] w fun e w' => ∃ v, e = .returned (.tuple #[v, .int .i64 0]) ∧ Own w' w.heap.size 5 v (pgTo s a 4) ∧ RefAt w' r (rdS s a) F ∧ Chg F w w' := by
  obtain ⟨p, h⟩ := h
  have ha0 : (0 : Int) ≤ a := by omega
  have ha1 : (a : Int) < 96 := by omega
  have q0 : (0 : Int) ≤ (a : Int) / 8 := by omega
  have q1 : (a : Int) / 8 < 12 := by omega
  have c1 := h.cOn
  rw [hon] at c1
  have c2 := h.cB
  have c3 : w.cell? ⟨p.gB, a / 8 * 5 + 1, none⟩ = some (.int .i64 (s.bl (a / 8)).reads) := h.bl0 (a / 8) (by omega) 1 (by omega)
  have f3 := h.bl.frozen (a / 8 * 5 + 1)
  have t := bl_set h.bl (a / 8) { s.bl (a / 8) with reads := wrap64 ((s.bl (a / 8)).reads + 1) } (p.wh (a / 8)) 1 (.int .i64 (wrap64 ((s.bl (a / 8)).reads + 1))) (by omega) rfl
  have hG1 : Chg (· = p.gB) w (w.setCell ⟨p.gB, a / 8 * 5 + 1, none⟩ (.int .i64 (wrap64 ((s.bl (a / 8)).reads + 1)))) := Chg.r1 w _ _
  have hR := h.setBlk (a / 8) { s.bl (a / 8) with reads := wrap64 ((s.bl (a / 8)).reads + 1) } (p.wh (a / 8)) (h.rel.setBl (a / 8) _ _ (fun e => h.rel.wh (a / 8) e) (h.rel.whLo _) (h.rel.whHi _)) t hG1
  have hR2 : RefAt (w.setCell ⟨p.gB, a / 8 * 5 + 1, none⟩ (.int .i64 (wrap64 ((s.bl (a / 8)).reads + 1)))) r (rdS s a) F := ⟨_, hR⟩
  have hG : Chg F w (w.setCell ⟨p.gB, a / 8 * 5 + 1, none⟩ (.int .i64 (wrap64 ((s.bl (a / 8)).reads + 1)))) := hG1.mono (fun i _ e => by rw [e]; exact h.fb)
  have hz : (w.setCell ⟨p.gB, a / 8 * 5 + 1, none⟩ (.int .i64 (wrap64 ((s.bl (a / 8)).reads + 1)))).heap.size = w.heap.size := by simp [World.setCell]
  have HZ := hyd hz
  have HS := hyd hs
  clear h t hG1 hR hon hz hs
  go_enter Try.func26, Try.ntmps26
  go_wp2_with fail
  refine (isPage_yes (a : Int) ha0 ha1 _).mono ?_
  rintro e w' ⟨rfl, rfl⟩
  go_wp2_with fail
  generalize w'.setCell ⟨p.gB, a / 8 * 5 + 1, none⟩ (.int .i64 (wrap64 ((s.bl (a / 8)).reads + 1))) = w1 at *
  refine (rpage_any r (rdS s a) (rdS_ok HS.out a) F a ha w1 hR2).mono ?_
  rintro e w2 ⟨v, rfl, hO, hG2⟩
  have hR3 := hR2.chg hG2 (fun k _ f => f)
  have hG3 : Chg F w' w2 := hG.trans' hG2 (fun i _ f => f.elim)
  rw [HZ.out] at hO
  clear hR2 hG hG2
  go_wp2
  go_ret2
  exact ⟨v, rfl, hO, hR3, hG3⟩
end Go.Proofs.Ytfjgnplplafniaa
