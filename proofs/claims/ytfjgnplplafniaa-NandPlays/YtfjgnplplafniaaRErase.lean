/-
  The document's chip: Erase. Condition: the block holds the document's chip.
-/
import Derived.Test.YtfjgnplplafniaaRChunks
import Derived.Test.YtfjgnplplafniaaRLate
namespace Go.Proofs.Ytfjgnplplafniaa
open Go.RowKit
set_option maxRecDepth 100000
set_option linter.unusedSimpArgs false

theorem failE_self {x : Blo} (h : x.ef = false) : failE x = x := by
  cases x
  simp only at h
  subst h
  simp [failE]
/-- Another list of chunks in block b, and no reads. -/
theorem erase_done {w w3 : World} {r : Nat} {s : Chp} {F : Nat → Prop} {p : Plc} (w0 : World) (h : RAt w3 r s F p) (b : Nat) (q cap : Nat) (pc : Nat → Pc) (hL : Lst w3 32 q pc (fun _ => newK)) (hI : ∀ k, InL 32 q pc k → w.heap.size ≤ k)
    (hold : ∀ c, c < 12 → ∀ k, InL 32 (p.gL c) (p.pc c) k → k < w.heap.size) (hw0 : w0.heap.size ≤ w.heap.size) :
    RefAt ((w3.setCell ⟨p.gB, b * 5, none⟩ (.slice (some ⟨q, 0, none⟩) 32 cap)).setCell ⟨p.gB, b * 5 + 1, none⟩ (.int .i64 0)) r (erS s b) (grow F w0 ((w3.setCell ⟨p.gB, b * 5, none⟩ (.slice (some ⟨q, 0, none⟩) 32 cap)).setCell ⟨p.gB, b * 5 + 1, none⟩ (.int .i64 0))) := by
  have hz : ((w3.setCell ⟨p.gB, b * 5, none⟩ (.slice (some ⟨q, 0, none⟩) 32 cap)).setCell ⟨p.gB, b * 5 + 1, none⟩ (.int .i64 0)).heap.size = w3.heap.size := by rw [size_set, size_set]
  have hgb : ∀ k, InL 32 q pc k → k ≠ p.gB := by
    intro k hk
    rcases hL.type hk with ⟨n, f, h1⟩ | ⟨n, f, h1⟩
    · exact h1.ne h.bl (by decide)
    · exact h1.ne h.bl (by decide)
  have t1 : Row (w3.setCell ⟨p.gB, b * 5, none⟩ (.slice (some ⟨q, 0, none⟩) 32 cap)) p.gB 81 60 (famF 5 (rbl (p.setL b q cap pc) { s with ch := (erS s b).ch })) := by
    rw [show b * 5 = 5 * b + 0 from by omega]
    refine (h.bl.setCell (5 * b + 0) _).ext fun i _ => fam_set 5 (by omega) _ _ b 0 (by omega) _ (fun c hc => ?_) ?_ rfl i
    · simp only [rbl, Plc.setL, if_neg hc]
    · simp only [rbl, Plc.setL, if_pos, List.set_cons_zero]
  have hc1 : Chg (· = p.gB) w3 (w3.setCell ⟨p.gB, b * 5, none⟩ (.slice (some ⟨q, 0, none⟩) 32 cap)) := Chg.r1 _ _ _
  have R1 : RAt (w3.setCell ⟨p.gB, b * 5, none⟩ (.slice (some ⟨q, 0, none⟩) 32 cap)) r { s with ch := (erS s b).ch } (grow F w0 ((w3.setCell ⟨p.gB, b * 5, none⟩ (.slice (some ⟨q, 0, none⟩) 32 cap)).setCell ⟨p.gB, b * 5 + 1, none⟩ (.int .i64 0))) (p.setL b q cap pc) := by
    refine h.setLst b q cap pc (erS s b).ch (fun c hc hne j hj => ?_) ((hL.chg hc1 hgb).congr fun j hj => ?_) t1 hc1 h.rb (fun c hc hne k hk => h.bL c hc k hk) (fun k hk => Or.inl hk) (fun k hk => Or.inr ⟨?_, ?_⟩) (fun c hc hne k hk hk2 => ?_)
    · show (if 32 * b ≤ 32 * c + j ∧ 32 * c + j < 32 * b + 32 then newK else s.ch (32 * c + j)) = _
      rw [if_neg (by omega)]
    · show (if 32 * b ≤ 32 * b + j ∧ 32 * b + j < 32 * b + 32 then newK else s.ch (32 * b + j)) = _
      rw [if_pos (by omega)]
    · have := hI k hk; omega
    · rw [hz]; exact hL.lt hk
    · have a1 := hI k hk
      have a2 := hold c hc k hk2
      omega
  have t2 := bl_set R1.bl b { s.bl b with reads := 0 } (p.wh b) 1 (.int .i64 0) (by omega) (by simp only [rbl, List.set_cons_succ, List.set_cons_zero]; rfl)
  exact ⟨_, R1.setBlk b { s.bl b with reads := 0 } (p.wh b) (R1.rel.setBl b _ _ (fun e => h.rel.wh b e) (h.rel.whLo b) (h.rel.whHi b)) t2 (Chg.r1 _ _ _)⟩
set_option maxHeartbeats 4000000 in
theorem rerase_late (r : Nat) (s : Chp) (hs : s.Ok) (F : Nat → Prop) (p : Plc) (n : Nat) (hn : n < 12) (w : World) (h : RAt w r s F p) (hon : s.on = true) (hc : ¬ (s.lim = true ∧ s.bud = 0)) :
    Calls Try.prog 33 #[.pointer (some ⟨r, 0, none⟩), .int .i64 n] w fun e w' =>
      ((failE (s.bl n)).failed = true ∧ e = .returned (.int .i64 8) ∧ RefAt w' r ((goS s).setBl n (failE (s.bl n))) F ∧ Chg F w w') ∨
      ((failE (s.bl n)).failed = false ∧ e = .returned (.int .i64 0) ∧ RefAt w' r (erS ((goS s).setBl n (failE (s.bl n))) n) (grow F w w') ∧ Chg F w w') := by
  have hb0 : (0 : Int) ≤ (n : Int) := by omega
  have hb1 : (n : Int) < 12 := by omega
  have c1 := h.cOn
  rw [hon] at c1
  have HS := hyd (rstep_go r s hs F p w h hon hc)
  clear hon hc h
  go_enter Try.func33, Try.ntmps33
  go_wp2_with fail
  refine (isBlock_yes (n : Int) hb0 hb1 _).mono ?_
  rintro e w' ⟨rfl, rfl⟩
  go_wp2_with fail
  refine HS.out.mono ?_
  rintro e w2 ⟨rfl, ⟨bu, h2⟩, hG2⟩
  clear HS c1
  have d0 := h2.cB
  simp only at d0
  have d2 : w2.cell? ⟨p.gB, n * 5 + 2, none⟩ = some (.bool (s.bl n).failed) := h2.bl0 n hn 2 (by omega)
  have d4 : w2.cell? ⟨p.gB, n * 5 + 4, none⟩ = some (.bool (s.bl n).ef) := h2.bl0 n hn 4 (by omega)
  have f2 : w2.frozen? ⟨p.gB, n * 5 + 2, none⟩ = false := h2.bl.frozen (n * 5 + 2)
  have hFb : F p.gB := h2.fb
  cases hef : (s.bl n).ef with
  | true =>
    rw [hef] at d4
    have hf : (failE (s.bl n)).failed = true := by simp [failE, hef]
    have t := bl_set h2.bl n (failE (s.bl n)) (p.wh n) 2 (.bool true) (by omega) (by rw [hf]; rfl)
    have hR := h2.setBlk n (failE (s.bl n)) (p.wh n) (h2.rel.setBl n _ _ (fun e => absurd (hf.symm.trans e) (by simp)) (h2.rel.whLo n) (h2.rel.whHi n)) t (Chg.r1 _ _ _)
    have hGF : Chg F w' (w2.setCell ⟨p.gB, n * 5 + 2, none⟩ (.bool true)) := hG2.setCell (Or.inl hFb) _ _
    have hR2 : RefAt (w2.setCell ⟨p.gB, n * 5 + 2, none⟩ (.bool true)) r ((goS s).setBl n (failE (s.bl n))) F := ⟨_, hR⟩
    have HF := hyd hf
    clear hf t hR h2 hef
    go_wp2
    go_ret
    exact Or.inl ⟨HF.out, rfl, hR2, hGF⟩
  | false =>
    rw [hef] at d4
    have hself := failE_self hef
    have e1 : (goS s).setBl n (s.bl n) = goS s := setBl_self (goS s) n
    cases hfa : (s.bl n).failed with
    | true =>
      rw [hfa] at d2
      have HF : Hid ((failE (s.bl n)).failed = true) := by rw [hself]; exact hfa
      have hR2 : RefAt w2 r ((goS s).setBl n (failE (s.bl n))) F := by rw [hself, e1]; exact ⟨_, h2⟩
      clear hself e1 hfa hef h2
      go_wp2
      go_ret
      exact Or.inl ⟨HF.out, rfl, hR2, hG2⟩
    | false =>
      rw [hfa] at d2
      have HF : Hid ((failE (s.bl n)).failed = false) := by rw [hself]; exact hfa
      have HX : Hid ((goS s).setBl n (failE (s.bl n)) = goS s) := by rw [hself]; exact e1
      clear hself e1 hfa hef
      have hz2 := hG2.size
      go_wp2_with fail
      refine (chunks_any w2).mono ?_
      rintro e w3 ⟨q, cap, pc, rfl, hL, hI, hG3⟩
      have h3 := h2.chg hG3 (fun _ _ f => f)
      have hold2 : ∀ c, c < 12 → ∀ k, InL 32 (p.gL c) (p.pc c) k → k < w2.heap.size := fun c hc k hk => (h2.lst c hc).lt hk
      have hR := erase_done w' h3 n q cap pc hL hI hold2 hz2
      rw [← HX.out] at hR
      have e0 : w3.cell? ⟨p.gB, n * 5, none⟩ = some (.slice (some ⟨p.gL n, 0, none⟩) 32 (p.cL n)) := h3.bl0 n hn 0 (by omega)
      have e1 : w3.cell? ⟨p.gB, n * 5 + 1, none⟩ = some (.int .i64 (s.bl n).reads) := h3.bl0 n hn 1 (by omega)
      have g0 : w3.frozen? ⟨p.gB, n * 5, none⟩ = false := h3.bl.frozen (n * 5)
      have g1 : w3.frozen? ⟨p.gB, n * 5 + 1, none⟩ = false := h3.bl.frozen (n * 5 + 1)
      have hG4 : Chg F w' w3 := hG2.trans' hG3 (fun i _ f => f.elim)
      have hG5 : Chg F w' ((w3.setCell ⟨p.gB, n * 5, none⟩ (.slice (some ⟨q, 0, none⟩) 32 cap)).setCell ⟨p.gB, n * 5 + 1, none⟩ (.int .i64 0)) := (hG4.setCell (Or.inl hFb) _ _).setCell (Or.inl hFb) _ _
      simp only at hR
      clear h2 h3 hold2 hL hI hG3 hG2 hG4 d0 d2 d4 f2
      go_wp2
      go_ret
      exact Or.inr ⟨HF.out, rfl, hR, hG5⟩
set_option maxHeartbeats 2000000 in
theorem rerase_any (r : Nat) (s : Chp) (hs : s.Ok) (F : Nat → Prop) (b : Int) (w : World) (h : RefAt w r s F) :
    Calls Try.prog 33 #[.pointer (some ⟨r, 0, none⟩), .int .i64 b] w fun e w' => e = .returned (.int .i64 (eraseR s b).2) ∧ RefAt w' r (eraseR s b).1 (grow F w w') ∧ Chg F w w' := by
  unfold eraseR
  obtain ⟨p, h⟩ := h
  by_cases hb : 0 ≤ b ∧ b < 12
  · rw [if_neg (by simpa using hb)]
    obtain ⟨hb0, hb1⟩ := hb
    have c1 := h.cOn
    cases hon : s.on with
    | false =>
      rw [if_pos rfl]
      rw [hon] at c1
      clear hon
      go_enter Try.func33, Try.ntmps33
      go_wp2_with fail
      refine (isBlock_yes b hb0 hb1 _).mono ?_
      rintro e w' ⟨rfl, rfl⟩
      go_wp2
      go_ret
      exact ⟨rfl, RefAt.grow ⟨p, h⟩, Chg.refl _ _⟩
    | true =>
      rw [if_neg (by simp)]
      rw [hon] at c1
      by_cases hc : s.lim = true ∧ s.bud = 0
      · rw [if_pos hc]
        have HS := hyd (rstep_cut r s F p w h hon hc.1 hc.2)
        clear hon hc
        go_enter Try.func33, Try.ntmps33
        go_wp2_with fail
        refine (isBlock_yes b hb0 hb1 _).mono ?_
        rintro e w' ⟨rfl, rfl⟩
        go_wp2_with fail
        refine HS.out.mono ?_
        rintro e w2 ⟨rfl, ⟨bu, h2⟩, hG⟩
        go_wp2
        go_ret
        exact ⟨rfl, RefAt.grow ⟨_, h2⟩, hG⟩
      · rw [if_neg hc]
        obtain ⟨n, rfl⟩ := Int.eq_ofNat_of_zero_le hb0
        rw [Int.toNat_natCast]
        refine (rerase_late r s hs F p n (by omega) w h hon hc).mono ?_
        rintro e w' (⟨hf, rfl, h1, h2⟩ | ⟨hf, rfl, h1, h2⟩)
        · rw [if_pos hf]
          exact ⟨rfl, h1.grow, h2⟩
        · rw [if_neg (by simp [hf])]
          exact ⟨rfl, h1, h2⟩
  · rw [if_pos (by simpa using hb)]
    go_enter Try.func33, Try.ntmps33
    go_wp2_with fail
    refine (isBlock_no b (by omega) _).mono ?_
    rintro e w' ⟨rfl, rfl⟩
    go_wp2
    go_ret
    exact ⟨rfl, RefAt.grow ⟨p, h⟩, Chg.refl _ _⟩
end Go.Proofs.Ytfjgnplplafniaa
