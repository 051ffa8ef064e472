/-
  The document's chip: its power, its steps, what is to fail. Condition: the block holds the document's chip.
-/
import Derived.Test.YtfjgnplplafniaaRTop
namespace Go.Proofs.Ytfjgnplplafniaa
open Go.RowKit
set_option maxRecDepth 100000

theorem Chg.r1 {r : Nat} (w : World) (o : Nat) (v : Value) : Chg (· = r) w (w.setCell ⟨r, o, none⟩ v) := (Chg.refl (· = r) w).at r o v
theorem Rel.off {p : Plc} {s : Chp} (h : Rel p s) (bu : Int) (h1 : -1 ≤ bu) (h2 : bu < 9223372036854775808) (lim : Bool) (bud : Nat) (st : Int) : Rel { p with bu := bu } { s with on := false, lim := lim, bud := bud, steps := st } :=
  ⟨fun e => absurd e (by simp), h1, h2, h.wh, h.whLo, h.whHi⟩
theorem Rel.onn {p : Plc} {s : Chp} (h : Rel p s) (bu : Int) (lim : Bool) (bud : Nat) (st : Int) (h3 : bu = if lim then (bud : Int) else -1) (h1 : -1 ≤ bu) (h2 : bu < 9223372036854775808) (on : Bool) : Rel { p with bu := bu } { s with on := on, lim := lim, bud := bud, steps := st } :=
  ⟨fun _ => h3, h1, h2, h.wh, h.whLo, h.whHi⟩
theorem rstep_cut (r : Nat) (s : Chp) (F : Nat → Prop) (p : Plc) (w : World) (h : RAt w r s F p) (hon : s.on = true) (hl : s.lim = true) (hb : s.bud = 0) :
    Calls Try.prog 62 #[.pointer (some ⟨r, 0, none⟩)] w fun e w' => e = .returned (.bool false) ∧ (∃ bu, RAt w' r (offS s) F { p with bu := bu }) ∧ Chg F w w' := by
  have c2 := h.cBu
  have hbu := h.rel.bu hon
  rw [hl, hb] at hbu
  rw [hbu] at c2
  have c1 := h.cOn
  have f1 := h.top.frozen 1
  have hR : RAt (w.setCell ⟨r, 1, none⟩ (.bool false)) r (offS s) F { p with bu := p.bu } := h.setTop false false 0 s.steps p.bu (h.rel.off _ h.rel.buLo h.rel.buHi false 0 s.steps) (top_set h.top 1 _ rfl (by omega)) (Chg.r1 w 1 _)
  have hG : Chg F w (w.setCell ⟨r, 1, none⟩ (.bool false)) := (Chg.r1 w 1 _).mono (fun i _ e => by rw [e]; exact h.fr)
  clear h hbu hon hl hb
  go_enter Try.func62, Try.ntmps62
  go_wp2
  go_ret
  exact ⟨rfl, ⟨_, hR⟩, hG⟩
theorem rstep_go (r : Nat) (s : Chp) (hs : s.Ok) (F : Nat → Prop) (p : Plc) (w : World) (h : RAt w r s F p) (hon : s.on = true) (hn : ¬ (s.lim = true ∧ s.bud = 0)) :
    Calls Try.prog 62 #[.pointer (some ⟨r, 0, none⟩)] w fun e w' => e = .returned (.bool true) ∧ (∃ bu, RAt w' r (goS s) F { p with bu := bu }) ∧ Chg F w w' := by
  have c2 := h.cBu
  have c3 := h.cSt
  have f2 := h.top.frozen 2
  have f3 := h.top.frozen 3
  have hbu := h.rel.bu hon
  have hbd := hs.bud
  cases hl : s.lim with
  | true =>
    rw [hl, if_pos rfl] at hbu
    have hb0 : s.bud ≠ 0 := fun e => hn ⟨hl, e⟩
    have t1 : Row (w.setCell ⟨r, 2, none⟩ (.int .i64 (s.bud - 1 : Nat))) r 77 4 (fun i => (rtop { p with bu := ((s.bud - 1 : Nat) : Int) } s).getD i undef) := top_set h.top 2 _ rfl (by omega)
    have t2 : Row ((w.setCell ⟨r, 2, none⟩ (.int .i64 (s.bud - 1 : Nat))).setCell ⟨r, 3, none⟩ (.int .i64 (wrap64 (s.steps + 1)))) r 77 4 (fun i => (rtop { p with bu := ((s.bud - 1 : Nat) : Int) } (goS s)).getD i undef) := top_set t1 3 _ rfl (by omega)
    have hG1 : Chg (· = r) w ((w.setCell ⟨r, 2, none⟩ (.int .i64 (s.bud - 1 : Nat))).setCell ⟨r, 3, none⟩ (.int .i64 (wrap64 (s.steps + 1)))) := (Chg.r1 w 2 _).at r 3 _
    have e : goS s = { s with on := s.on, lim := true, bud := s.bud - 1, steps := wrap64 (s.steps + 1) } := by simp [goS, hl]
    rw [e] at t2
    have hR := h.setTop s.on true (s.bud - 1) (wrap64 (s.steps + 1)) ((s.bud - 1 : Nat) : Int) (h.rel.onn _ true (s.bud - 1) _ (by simp) (by omega) (by omega) _) t2 hG1
    rw [← e] at hR
    have hG : Chg F w ((w.setCell ⟨r, 2, none⟩ (.int .i64 (s.bud - 1 : Nat))).setCell ⟨r, 3, none⟩ (.int .i64 (wrap64 (s.steps + 1)))) := hG1.mono (fun i _ e => by rw [e]; exact h.fr)
    rw [hbu] at c2
    have h0 : ((s.bud : Int) == 0) = false := beq_eq_false_iff_ne.2 (by omega)
    have h1 : (0 : Int) < (s.bud : Int) := by omega
    have HI : Hid ((s.bud : Int) - 1 = ((s.bud - 1 : Nat) : Int)) := by show _ = _; omega
    clear h hbu hon hl t1 t2 hG1 e hn
    go_enter Try.func62, Try.ntmps62
    go_wp2
    go_ret
    rw [HI.out]
    exact ⟨rfl, ⟨_, hR⟩, hG⟩
  | false =>
    rw [hl, if_neg (by simp)] at hbu
    have t2 : Row (w.setCell ⟨r, 3, none⟩ (.int .i64 (wrap64 (s.steps + 1)))) r 77 4 (fun i => (rtop { p with bu := p.bu } { s with on := s.on, lim := s.lim, bud := s.bud, steps := wrap64 (s.steps + 1) }).getD i undef) := top_set h.top 3 _ rfl (by omega)
    have hG1 : Chg (· = r) w (w.setCell ⟨r, 3, none⟩ (.int .i64 (wrap64 (s.steps + 1)))) := Chg.r1 w 3 _
    have e : goS s = { s with on := s.on, lim := s.lim, bud := s.bud, steps := wrap64 (s.steps + 1) } := by simp [goS, hl]
    have hR := h.setTop s.on s.lim s.bud (wrap64 (s.steps + 1)) p.bu (h.rel.onn _ s.lim s.bud _ (by rw [hbu, hl]; simp) h.rel.buLo h.rel.buHi _) t2 hG1
    rw [← e] at hR
    have hG : Chg F w (w.setCell ⟨r, 3, none⟩ (.int .i64 (wrap64 (s.steps + 1)))) := hG1.mono (fun i _ e => by rw [e]; exact h.fr)
    rw [hbu] at c2
    clear h hbu hon hl t2 hG1 e hn
    go_enter Try.func62, Try.ntmps62
    go_wp2
    go_ret
    exact ⟨rfl, ⟨_, hR⟩, hG⟩
theorem again_any (r : Nat) (s : Chp) (F : Nat → Prop) (w : World) (h : RefAt w r s F) :
    Calls Try.prog 40 #[.pointer (some ⟨r, 0, none⟩)] w fun e w' => e = .returned (.tuple #[]) ∧ RefAt w' r (onS s) F ∧ Chg F w w' := by
  obtain ⟨p, h⟩ := h
  have c1 := h.cOn
  have c2 := h.cBu
  have f1 := h.top.frozen 1
  have f2 := h.top.frozen 2
  have t1 : Row (w.setCell ⟨r, 1, none⟩ (.bool true)) r 77 4 (fun i => (rtop p { s with on := true }).getD i undef) := top_set h.top 1 _ rfl (by omega)
  have t2 : Row ((w.setCell ⟨r, 1, none⟩ (.bool true)).setCell ⟨r, 2, none⟩ (.int .i64 (-1))) r 77 4 (fun i => (rtop { p with bu := -1 } { s with on := true, lim := false, bud := 0, steps := s.steps }).getD i undef) := top_set t1 2 _ rfl (by omega)
  have hG1 : Chg (· = r) w ((w.setCell ⟨r, 1, none⟩ (.bool true)).setCell ⟨r, 2, none⟩ (.int .i64 (-1))) := (Chg.r1 w 1 _).at r 2 _
  have hR := h.setTop true false 0 s.steps (-1) (h.rel.onn _ false 0 _ (by simp) (by omega) (by omega) _) t2 hG1
  have hG : Chg F w ((w.setCell ⟨r, 1, none⟩ (.bool true)).setCell ⟨r, 2, none⟩ (.int .i64 (-1))) := hG1.mono (fun i _ e => by rw [e]; exact h.fr)
  clear h t1 t2 hG1
  go_enter Try.func40, Try.ntmps40
  go_wp2
  go_end0
  exact ⟨rfl, ⟨_, hR⟩, hG⟩
theorem rcut_any (r : Nat) (s : Chp) (F : Nat → Prop) (n : Int) (hn2 : n < 9223372036854775808) (w : World) (h : RefAt w r s F) :
    Calls Try.prog 39 #[.pointer (some ⟨r, 0, none⟩), .int .i64 n] w fun e w' => e = .returned (.int .i64 (cutR s n).2) ∧ RefAt w' r (cutR s n).1 F ∧ Chg F w w' := by
  unfold cutR
  obtain ⟨p, h⟩ := h
  have c1 := h.cOn
  have c2 := h.cBu
  have f2 := h.top.frozen 2
  by_cases hn : n < 0
  · rw [if_pos hn]
    go_enter Try.func39, Try.ntmps39
    go_wp2
    go_ret
    exact ⟨rfl, ⟨p, h⟩, Chg.refl _ _⟩
  · rw [if_neg hn]
    by_cases hon : s.on = true
    · rw [if_pos hon]
      rw [hon] at c1
      have t2 : Row (w.setCell ⟨r, 2, none⟩ (.int .i64 n)) r 77 4 (fun i => (rtop { p with bu := n } { s with on := s.on, lim := true, bud := n.toNat, steps := s.steps }).getD i undef) := top_set h.top 2 _ rfl (by omega)
      have hG1 : Chg (· = r) w (w.setCell ⟨r, 2, none⟩ (.int .i64 n)) := Chg.r1 w 2 _
      have hR := h.setTop s.on true n.toNat s.steps n (h.rel.onn _ true n.toNat _ (by simp; omega) (by omega) (by omega) _) t2 hG1
      have hG : Chg F w (w.setCell ⟨r, 2, none⟩ (.int .i64 n)) := hG1.mono (fun i _ e => by rw [e]; exact h.fr)
      clear h t2 hG1 hon
      go_enter Try.func39, Try.ntmps39
      go_wp2
      go_ret
      exact ⟨rfl, ⟨_, hR⟩, hG⟩
    · rw [if_neg hon]
      rw [Bool.eq_false_iff.2 hon] at c1
      clear hon
      go_enter Try.func39, Try.ntmps39
      go_wp2
      go_ret
      exact ⟨rfl, ⟨p, h⟩, Chg.refl _ _⟩
set_option maxHeartbeats 1000000 in
theorem rfailP_any (r : Nat) (s : Chp) (F : Nat → Prop) (b n : Int) (hn2 : n < 9223372036854775808) (w : World) (h : RefAt w r s F) :
    Calls Try.prog 36 #[.pointer (some ⟨r, 0, none⟩), .int .i64 b, .int .i64 n] w fun e w' => e = .returned (.int .i64 (failPR s b n).2) ∧ RefAt w' r (failPR s b n).1 F ∧ Chg F w w' := by
  unfold failPR
  obtain ⟨p, h⟩ := h
  by_cases hb : 0 ≤ b ∧ b < 12
  · obtain ⟨hb0, hb1⟩ := hb
    by_cases hn : n < 0
    · rw [if_pos (by omega)]
      go_enter Try.func36, Try.ntmps36
      go_wp2_with fail
      refine (isBlock_yes b hb0 hb1 _).mono ?_
      rintro e w' ⟨rfl, rfl⟩
      go_wp2
      go_ret
      exact ⟨rfl, ⟨p, h⟩, Chg.refl _ _⟩
    · rw [if_neg (by omega)]
      obtain ⟨b, rfl⟩ := Int.eq_ofNat_of_zero_le hb0
      rw [Int.toNat_natCast]
      have c1 := h.cB
      have c2 := h.bl0 b (by omega) 3 (by omega)
      have f2 := h.bl.frozen (b * 5 + 3)
      have t := bl_set h.bl b { s.bl b with wf := true, ahead := n.toNat } n 3 (.int .i64 n) (by omega) rfl
      have hG1 : Chg (· = p.gB) w (w.setCell ⟨p.gB, b * 5 + 3, none⟩ (.int .i64 n)) := Chg.r1 w _ _
      have hR := h.setBlk b { s.bl b with wf := true, ahead := n.toNat } n (h.rel.setBl b _ n (fun _ => by simp; omega) (by omega) (by omega)) t hG1
      have hG : Chg F w (w.setCell ⟨p.gB, b * 5 + 3, none⟩ (.int .i64 n)) := hG1.mono (fun i _ e => by rw [e]; exact h.fb)
      clear h t hG1
      go_enter Try.func36, Try.ntmps36
      go_wp2_with fail
      refine (isBlock_yes (b : Int) hb0 hb1 _).mono ?_
      rintro e w' ⟨rfl, rfl⟩
      go_wp2
      go_ret
      exact ⟨rfl, ⟨_, hR⟩, hG⟩
  · rw [if_pos (by omega)]
    go_enter Try.func36, Try.ntmps36
    go_wp2_with fail
    refine (isBlock_no b (by omega) _).mono ?_
    rintro e w' ⟨rfl, rfl⟩
    go_wp2
    go_ret
    exact ⟨rfl, ⟨p, h⟩, Chg.refl _ _⟩
theorem rfailE_any (r : Nat) (s : Chp) (F : Nat → Prop) (b : Int) (w : World) (h : RefAt w r s F) :
    Calls Try.prog 38 #[.pointer (some ⟨r, 0, none⟩), .int .i64 b] w fun e w' => e = .returned (.int .i64 (failER s b).2) ∧ RefAt w' r (failER s b).1 F ∧ Chg F w w' := by
  unfold failER
  obtain ⟨p, h⟩ := h
  by_cases hb : 0 ≤ b ∧ b < 12
  · obtain ⟨hb0, hb1⟩ := hb
    rw [if_neg (by omega)]
    obtain ⟨b, rfl⟩ := Int.eq_ofNat_of_zero_le hb0
    rw [Int.toNat_natCast]
    have c1 := h.cB
    have c2 := h.bl0 b (by omega) 4 (by omega)
    have f2 := h.bl.frozen (b * 5 + 4)
    have t := bl_set h.bl b { s.bl b with ef := true } (p.wh b) 4 (.bool true) (by omega) rfl
    have hG1 : Chg (· = p.gB) w (w.setCell ⟨p.gB, b * 5 + 4, none⟩ (.bool true)) := Chg.r1 w _ _
    have hR := h.setBlk b { s.bl b with ef := true } (p.wh b) (h.rel.setBl b _ _ (fun e => h.rel.wh b e) (h.rel.whLo b) (h.rel.whHi b)) t hG1
    have hG : Chg F w (w.setCell ⟨p.gB, b * 5 + 4, none⟩ (.bool true)) := hG1.mono (fun i _ e => by rw [e]; exact h.fb)
    clear h t hG1
    go_enter Try.func38, Try.ntmps38
    go_wp2_with fail
    refine (isBlock_yes (b : Int) hb0 hb1 _).mono ?_
    rintro e w' ⟨rfl, rfl⟩
    go_wp2
    go_ret
    exact ⟨rfl, ⟨_, hR⟩, hG⟩
  · rw [if_pos (by omega)]
    go_enter Try.func38, Try.ntmps38
    go_wp2_with fail
    refine (isBlock_no b (by omega) _).mono ?_
    rintro e w' ⟨rfl, rfl⟩
    go_wp2
    go_ret
    exact ⟨rfl, ⟨p, h⟩, Chg.refl _ _⟩
theorem rreads_yes (r : Nat) (s : Chp) (F : Nat → Prop) (b : Nat) (hb : b < 12) (w : World) (h : RefAt w r s F) :
    Calls Try.prog 66 #[.pointer (some ⟨r, 0, none⟩), .int .i64 b] w fun e w' => e = .returned (.tuple #[.int .i64 (s.bl b).reads, .int .i64 0]) ∧ Chg (fun _ => False) w w' := by
  obtain ⟨p, h⟩ := h
  have hb0 : (0 : Int) ≤ (b : Int) := by omega
  have hb1 : (b : Int) < 12 := by omega
  have c1 := h.cB
  have c2 : w.cell? ⟨p.gB, b * 5 + 1, none⟩ = some (.int .i64 (s.bl b).reads) := h.bl0 b hb 1 (by omega)
  clear h
  go_enter Try.func66, Try.ntmps66
  go_wp2_with fail
  refine (isBlock_yes (b : Int) hb0 hb1 _).mono ?_
  rintro e w' ⟨rfl, rfl⟩
  go_wp2
  all_goals
    go_ret2
    exact ⟨rfl, Chg.refl _ _⟩
theorem rreads_no (r : Nat) (b : Int) (hb : b < 0 ∨ 12 ≤ b) (w : World) :
    Calls Try.prog 66 #[.pointer (some ⟨r, 0, none⟩), .int .i64 b] w fun e w' => e = .returned (.tuple #[.int .i64 0, .int .i64 1]) ∧ Chg (fun _ => False) w w' := by
  go_enter Try.func66, Try.ntmps66
  go_wp2_with fail
  refine (isBlock_no b hb _).mono ?_
  rintro e w' ⟨rfl, rfl⟩
  go_wp2
  all_goals
    go_ret2
    exact ⟨rfl, Chg.refl _ _⟩
theorem rfailed_yes (r : Nat) (s : Chp) (F : Nat → Prop) (b : Nat) (hb : b < 12) (w : World) (h : RefAt w r s F) :
    Calls Try.prog 68 #[.pointer (some ⟨r, 0, none⟩), .int .i64 b] w fun e w' => e = .returned (.tuple #[.bool (s.bl b).failed, .int .i64 0]) ∧ Chg (fun _ => False) w w' := by
  obtain ⟨p, h⟩ := h
  have hb0 : (0 : Int) ≤ (b : Int) := by omega
  have hb1 : (b : Int) < 12 := by omega
  have c1 := h.cB
  have c2 : w.cell? ⟨p.gB, b * 5 + 2, none⟩ = some (.bool (s.bl b).failed) := h.bl0 b hb 2 (by omega)
  clear h
  go_enter Try.func68, Try.ntmps68
  go_wp2_with fail
  refine (isBlock_yes (b : Int) hb0 hb1 _).mono ?_
  rintro e w' ⟨rfl, rfl⟩
  go_wp2
  all_goals
    go_ret2
    exact ⟨rfl, Chg.refl _ _⟩
theorem rfailed_no (r : Nat) (b : Int) (hb : b < 0 ∨ 12 ≤ b) (w : World) :
    Calls Try.prog 68 #[.pointer (some ⟨r, 0, none⟩), .int .i64 b] w fun e w' => e = .returned (.tuple #[.bool false, .int .i64 1]) ∧ Chg (fun _ => False) w w' := by
  go_enter Try.func68, Try.ntmps68
  go_wp2_with fail
  refine (isBlock_no b hb _).mono ?_
  rintro e w' ⟨rfl, rfl⟩
  go_wp2
  all_goals
    go_ret2
    exact ⟨rfl, Chg.refl _ _⟩
end Go.Proofs.Ytfjgnplplafniaa
