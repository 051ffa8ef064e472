/-
  The document's chip: Write. Condition: the block holds the document's chip; the bytes lie elsewhere. The document's chip: Write, where it is a step. Condition: the block holds the document's chip; the bytes lie elsewhere.
-/
import Derived.Test.YtifjmilegogbaaaGreatURRead
namespace Go.Proofs.YtifjmilegogbaaaGreat
open Go.RowKit
set_option maxRecDepth 100000
set_option linter.unusedSimpArgs false

/-- F, and what is new. -/
def grow (F : Nat → Prop) (w w' : World) : Nat → Prop := fun k => F k ∨ (w.heap.size ≤ k ∧ k < w'.heap.size)
theorem rwrite_arg (r : Nat) (a k : Int) (ad : Option Addr) (n cap : Nat) (h : ¬ (0 ≤ a ∧ a < 96 ∧ 0 ≤ k ∧ k < 4) ∨ n ≠ 64) (w : World) :
    Calls Tryz.prog 62 #[.pointer (some ⟨r, 0, none⟩), .int .i64 a, .int .i64 k, .slice ad n cap] w fun e w' => e = .returned (.int .i64 1) ∧ w' = w := by
  by_cases ha : a < 0 ∨ 96 ≤ a
  · go_enter Tryz.func62, Tryz.ntmps62
    go_wp2_with fail
    refine (isPage_no a ha _).mono ?_
    rintro e w' ⟨rfl, rfl⟩
    go_wp2
    go_ret
    exact ⟨rfl, rfl⟩
  · have ha0 : 0 ≤ a := by omega
    have ha1 : a < 96 := by omega
    by_cases hk : k < 0
    · clear h ha
      go_enter Tryz.func62, Tryz.ntmps62
      go_wp2_with fail
      refine (isPage_yes a ha0 ha1 _).mono ?_
      rintro e w' ⟨rfl, rfl⟩
      go_wp2
      go_ret
      exact ⟨rfl, rfl⟩
    · by_cases hk2 : 4 ≤ k
      · clear h ha
        go_enter Tryz.func62, Tryz.ntmps62
        go_wp2_with fail
        refine (isPage_yes a ha0 ha1 _).mono ?_
        rintro e w' ⟨rfl, rfl⟩
        go_wp2
        go_ret
        exact ⟨rfl, rfl⟩
      · have hn : ((n : Int) != 64) = true := by rw [bne_iff_ne]; omega
        have hk3 : ¬ k < 0 := hk
        clear h ha
        go_enter Tryz.func62, Tryz.ntmps62
        go_wp2_with fail
        refine (isPage_yes a ha0 ha1 _).mono ?_
        rintro e w' ⟨rfl, rfl⟩
        go_wp2
        go_ret
        exact ⟨rfl, rfl⟩
/-- What the document's block says behind a write. -/
def whW (y : Int) : Int := if 0 ≤ y then y - 1 else y
theorem failW_wh {p : Plc} {s : Chp} (h : Rel p s) (b : Nat) : (failW (s.bl b)).failed = ((s.bl b).failed || decide (p.wh b = 0)) := by
  cases hf : (s.bl b).failed with
  | true => simp [failW, hf]
  | false =>
    have h1 := h.wh b hf
    cases hw : (s.bl b).wf with
    | true =>
      rw [hw, if_pos rfl] at h1
      simp only [failW, hf, hw, Bool.false_or, Bool.true_and]
      rw [h1]
      congr 1
      exact propext ⟨fun e => by omega, fun e => by omega⟩
    | false =>
      rw [hw, if_neg (by simp)] at h1
      simp [failW, hf, hw, h1]
theorem Rel.failW {p : Plc} {s : Chp} (h : Rel p s) (b : Nat) : Rel { p with wh := fun j => if j = b then whW (p.wh b) else p.wh j } (s.setBl b (failW (s.bl b))) := by
  have lo := h.whLo b
  have hi := h.whHi b
  refine h.setBl b _ _ (fun e => ?_) (by unfold whW; split <;> omega) (by unfold whW; split <;> omega)
  have hw := failW_wh h b
  rw [e] at hw
  have hf : (s.bl b).failed = false := by
    cases hf : (s.bl b).failed with
    | true => rw [hf] at hw; simp at hw
    | false => rfl
  rw [hf, Bool.false_or] at hw
  have h0 : p.wh b ≠ 0 := of_decide_eq_false hw.symm
  have h1 := h.wh b hf
  show whW (p.wh b) = if (s.bl b).wf then (((s.bl b).ahead - 1 : Nat) : Int) else -1
  cases hwf : (s.bl b).wf with
  | true =>
    rw [hwf, if_pos rfl] at h1
    rw [if_pos rfl, h1]
    unfold whW
    rw [if_pos (by omega)]
    omega
  | false =>
    rw [hwf, if_neg (by simp)] at h1
    rw [if_neg (by simp), h1]
    rfl
set_option maxHeartbeats 4000000 in
theorem rwrite_early (r : Nat) (s : Chp) (F : Nat → Prop) (p : Plc) (a k : Nat) (ha : a < 96) (hk : k < 4) (ad : Option Addr) (cap : Nat) (w : World) (h : RAt w r s F p) (c : Nat) (s' : Chp)
    (hcase : (s.on = false ∧ c = 7 ∧ s' = s) ∨ (s.on = true ∧ (s.ch (4 * a + k)).is = true ∧ c = 9 ∧ s' = s) ∨ (s.on = true ∧ (s.ch (4 * a + k)).is = false ∧ s.lim = true ∧ s.bud = 0 ∧ c = 7 ∧ s' = offS s)) :
    Calls Tryz.prog 62 #[.pointer (some ⟨r, 0, none⟩), .int .i64 a, .int .i64 k, .slice ad 64 cap] w fun e w' => e = .returned (.int .i64 c) ∧ RefAt w' r s' F ∧ Chg F w w' := by
  have ha0 : (0 : Int) ≤ a := by omega
  have ha1 : (a : Int) < 96 := by omega
  have hk0 : ¬ (k : Int) < 0 := by omega
  have hk1 : ¬ 4 ≤ (k : Int) := by omega
  have c1 := h.cOn
  have c2 : w.cell? ⟨p.gL (a / 8), 4 * (a % 8 * 4 + k) + 2, none⟩ = some (.bool (s.ch (32 * (a / 8) + (a % 8 * 4 + k))).is) := h.ch (a / 8) (by omega) (a % 8 * 4 + k) (by omega) 2 (by omega)
  rw [chunk_of] at c2
  have HC := hyd (rchunk_any r s F p a k ha hk w h)
  rcases hcase with ⟨hon, rfl, rfl⟩ | ⟨hon, his, rfl, rfl⟩ | ⟨hon, his, hl, hb, rfl, rfl⟩
  · rw [hon] at c1
    clear hon c2 HC
    go_enter Tryz.func62, Tryz.ntmps62
    go_wp2_with fail
    refine (isPage_yes (a : Int) ha0 ha1 _).mono ?_
    rintro e w' ⟨rfl, rfl⟩
    go_wp2
    go_ret
    exact ⟨rfl, ⟨p, h⟩, Chg.refl _ _⟩
  · rw [hon] at c1
    rw [his] at c2
    clear hon his
    go_enter Tryz.func62, Tryz.ntmps62
    go_wp2_with fail
    refine (isPage_yes (a : Int) ha0 ha1 _).mono ?_
    rintro e w' ⟨rfl, rfl⟩
    go_wp2_with fail
    refine HC.out.mono ?_
    rintro e w' ⟨rfl, rfl⟩
    go_wp2
    go_ret
    exact ⟨rfl, ⟨p, h⟩, Chg.refl _ _⟩
  · have HS := hyd (rstep_cut r s F p w h hon hl hb)
    rw [hon] at c1
    rw [his] at c2
    clear hon his hl hb
    go_enter Tryz.func62, Tryz.ntmps62
    go_wp2_with fail
    refine (isPage_yes (a : Int) ha0 ha1 _).mono ?_
    rintro e w' ⟨rfl, rfl⟩
    go_wp2_with fail
    refine HC.out.mono ?_
    rintro e w' ⟨rfl, rfl⟩
    go_wp2_with fail
    refine HS.out.mono ?_
    rintro e w2 ⟨rfl, ⟨bu, h2⟩, hG⟩
    go_wp2
    go_ret
    exact ⟨rfl, ⟨_, h2⟩, hG⟩
/-- The places behind a write. -/
def Plc.setW (p : Plc) (b : Nat) : Plc := { p with wh := fun j => if j = b then whW (p.wh b) else p.wh j }
theorem fail_zero {w : World} {r : Nat} {s : Chp} {F : Nat → Prop} {p : Plc} (h : RAt w r s F p) (b : Nat) (h0 : p.wh b = 0) :
    RAt ((w.setCell ⟨p.gB, b * 5 + 2, none⟩ (.bool true)).setCell ⟨p.gB, b * 5 + 3, none⟩ (.int .i64 (-1))) r (s.setBl b (failW (s.bl b))) F (p.setW b) ∧ (failW (s.bl b)).failed = true := by
  have hf : (failW (s.bl b)).failed = true := by rw [failW_wh h.rel b, h0]; simp
  refine ⟨?_, hf⟩
  have hc : Chg (· = p.gB) w ((w.setCell ⟨p.gB, b * 5 + 2, none⟩ (.bool true)).setCell ⟨p.gB, b * 5 + 3, none⟩ (.int .i64 (-1))) := (Chg.r1 w _ _).at p.gB _ _
  refine h.setBlk b (failW (s.bl b)) (whW (p.wh b)) (h.rel.failW b) ?_ hc
  have t1 : Row (w.setCell ⟨p.gB, b * 5 + 2, none⟩ (.bool true)) p.gB 112 60 (famF 5 (fun c => if c = b then (rbl p s b).set 2 (.bool true) else rbl p s c)) := by
    rw [show b * 5 + 2 = 5 * b + 2 from by omega]
    exact (h.bl.setCell (5 * b + 2) _).ext fun i _ => fam_set 5 (by omega) _ _ b 2 (by omega) _ (fun c hc => by rw [if_neg hc]) (by rw [if_pos rfl]) rfl i
  rw [show b * 5 + 3 = 5 * b + 3 from by omega]
  refine (t1.setCell (5 * b + 3) _).ext fun i _ => fam_set 5 (by omega) _ _ b 3 (by omega) _ (fun c hc => by rw [rbl_other p s b _ _ c hc, if_neg hc]) ?_ (by rw [if_pos rfl]; rfl) i
  rw [rbl_same, if_pos rfl, hf, h0]
  rfl
theorem fail_pos {w : World} {r : Nat} {s : Chp} {F : Nat → Prop} {p : Plc} (h : RAt w r s F p) (b : Nat) (h0 : 0 < p.wh b) :
    RAt (w.setCell ⟨p.gB, b * 5 + 3, none⟩ (.int .i64 (p.wh b - 1))) r (s.setBl b (failW (s.bl b))) F (p.setW b) ∧ (failW (s.bl b)).failed = (s.bl b).failed := by
  have hf : (failW (s.bl b)).failed = (s.bl b).failed := by rw [failW_wh h.rel b, decide_eq_false (by omega), Bool.or_false]
  refine ⟨?_, hf⟩
  refine h.setBlk b (failW (s.bl b)) (whW (p.wh b)) (h.rel.failW b) ?_ (Chg.r1 w _ _)
  refine bl_set h.bl b _ _ 3 _ (by omega) ?_
  rw [hf, show whW (p.wh b) = p.wh b - 1 from by unfold whW; rw [if_pos (by omega)]]
  rfl
theorem fail_neg {w : World} {r : Nat} {s : Chp} {F : Nat → Prop} {p : Plc} (h : RAt w r s F p) (b : Nat) (h0 : p.wh b < 0) :
    RAt w r (s.setBl b (failW (s.bl b))) F (p.setW b) ∧ (failW (s.bl b)).failed = (s.bl b).failed := by
  have hf : (failW (s.bl b)).failed = (s.bl b).failed := by rw [failW_wh h.rel b, decide_eq_false (by omega), Bool.or_false]
  refine ⟨?_, hf⟩
  refine h.setBlk b (failW (s.bl b)) (whW (p.wh b)) (h.rel.failW b) ?_ (Chg.refl _ _)
  have e : rbl { p with wh := fun j => if j = b then whW (p.wh b) else p.wh j } (s.setBl b (failW (s.bl b))) = rbl p s := by
    funext c
    by_cases hc : c = b
    · subst hc
      rw [rbl_same, hf, show whW (p.wh c) = p.wh c from by unfold whW; rw [if_neg (by omega)]]
      rfl
    · exact rbl_other p s b _ _ c hc
  rw [e]
  exact h.bl
/-- A chunk is programmed: what is stored into its four cells. -/
theorem pgm_row {w : World} {p : Plc} {s : Chp} {b j q : Nat} {l : List Nat} {g1 c1 g2 c2 : Nat} {v1 v2 v3 v4 v5 v6 : Value}
    (h : Row w q 159 128 (upL (upL (upL (upL (upL (upL (famF 4 fun i => rch (p.pc b i) (s.ch (32 * b + i))) (4 * j) [v1]) (4 * j) [v2]) (4 * j + 1) [v3]) (4 * j + 1) [v4]) (4 * j + 2) [v5]) (4 * j + 3) [v6]))
    (e2 : v2 = .slice (some ⟨g1, 0, none⟩) 64 c1) (e4 : v4 = .slice (some ⟨g2, 0, none⟩) 64 c2) (e5 : v5 = .bool true) (e6 : v6 = .int .i64 0) :
    Row w q 159 128 (famF 4 fun i => rch (if i = j then (⟨g1, c1, g2, c2⟩ : Pc) else p.pc b i) ((s.setCh (32 * b + j) (pgmK l)).ch (32 * b + i))) := by
  refine h.ext fun i _ => fam_elem 4 (by omega) _ _ _ j (fun c hc => rch_fam c hc) (fun i hi => ?_) (fun t ht => ?_) i
  · have hh : ∀ x, x < 4 → i ≠ 4 * j + x := fun x hx e => hi (by rw [e]; omega)
    have h0 := hh 0 (by omega)
    have h1 := hh 1 (by omega)
    have h2 := hh 2 (by omega)
    have h3 := hh 3 (by omega)
    rw [upL_one, if_neg h3, upL_one, if_neg h2, upL_one, if_neg h1, upL_one, if_neg h1, upL_one, if_neg (by omega), upL_one, if_neg (by omega)]
  · rw [rch_fam_same]
    rcases (by omega : t = 0 ∨ t = 1 ∨ t = 2 ∨ t = 3) with e | e | e | e <;> subst e
    · rw [upL_one, if_neg (by omega), upL_one, if_neg (by omega), upL_one, if_neg (by omega), upL_one, if_neg (by omega), upL_one, if_pos (by omega), e2]; rfl
    · rw [upL_one, if_neg (by omega), upL_one, if_neg (by omega), upL_one, if_pos (by omega), e4]; rfl
    · rw [upL_one, if_neg (by omega), upL_one, if_pos (by omega), e5]; rfl
    · rw [upL_one, if_pos (by omega), e6]; rfl
end Go.Proofs.YtifjmilegogbaaaGreat
namespace Go.Proofs.YtifjmilegogbaaaGreat
open Go.RowKit
set_option maxRecDepth 100000
set_option linter.unusedSimpArgs false

theorem size_set (w : World) (a : Addr) (v : Value) : (w.setCell a v).heap.size = w.heap.size := by simp [World.setCell]
theorem grown_none {w w' : World} (h : w.grownBy w' none) : Chg (fun _ => False) w w' := (Chg.refl (fun _ => False) w).grown h (fun k e => by cases e)
set_option maxHeartbeats 8000000 in
theorem rwrite_late (r : Nat) (s : Chp) (hs : s.Ok) (F : Nat → Prop) (p : Plc) (a k : Nat) (ha : a < 96) (hk : k < 4) (l : List Nat) (hl : l.length = 64) (c oo cap : Nat) (w : World) (h : RAt w r s F p) (hcF : ¬ F c) (hcs : c < w.heap.size)
    (hsrc : ∀ i, i < 64 → w.cell? ⟨c, oo + i, none⟩ = some (.int .u8 (l.getD i 0 : Nat))) (hon : s.on = true) (his : (s.ch (4 * a + k)).is = false) (hn : ¬ (s.lim = true ∧ s.bud = 0)) :
    Calls Tryz.prog 62 #[.pointer (some ⟨r, 0, none⟩), .int .i64 a, .int .i64 k, .slice (some ⟨c, oo, none⟩) 64 cap] w fun e w' =>
      ((failW (s.bl (a / 8))).failed = true ∧ e = .returned (.int .i64 8) ∧ RefAt w' r ((goS s).setBl (a / 8) (failW (s.bl (a / 8)))) F ∧ Chg F w w') ∨
      ((failW (s.bl (a / 8))).failed = false ∧ e = .returned (.int .i64 0) ∧ RefAt w' r (((goS s).setBl (a / 8) (failW (s.bl (a / 8)))).setCh (4 * a + k) (pgmK l)) (grow F w w') ∧ Chg F w w') := by
  have ha0 : (0 : Int) ≤ a := by omega
  have ha1 : (a : Int) < 96 := by omega
  have hk0 : ¬ (k : Int) < 0 := by omega
  have hk1 : ¬ 4 ≤ (k : Int) := by omega
  have q0 : (0 : Int) ≤ (a : Int) / 8 := by omega
  have q1 : (a : Int) / 8 < 12 := by omega
  have hi5 := info5
  have c1 := h.cOn
  have c2 : w.cell? ⟨p.gL (a / 8), 4 * (a % 8 * 4 + k) + 2, none⟩ = some (.bool (s.ch (32 * (a / 8) + (a % 8 * 4 + k))).is) := h.ch (a / 8) (by omega) (a % 8 * 4 + k) (by omega) 2 (by omega)
  rw [chunk_of, his] at c2
  have HC := hyd (rchunk_any r s F p a k ha hk w h)
  have HSt := hyd (rstep_go r s hs F p w h hon hn)
  rw [hon] at c1
  have hb : a / 8 < 12 := by omega
  have hj : a % 8 * 4 + k < 32 := by omega
  have hidx : 4 * a + k = 32 * (a / 8) + (a % 8 * 4 + k) := by omega
  rw [hidx]
  have HL := hyd hl
  have HSRC := hyd hsrc
  clear hon his hn hsrc hl h hidx
  go_enter Tryz.func62, Tryz.ntmps62
  go_wp2_with fail
  refine (isPage_yes (a : Int) ha0 ha1 _).mono ?_
  rintro e w' ⟨rfl, rfl⟩
  go_wp2_with fail
  refine HC.out.mono ?_
  rintro e w' ⟨rfl, rfl⟩
  go_wp2_with fail
  refine HSt.out.mono ?_
  rintro e w2 ⟨rfl, ⟨bu, h2⟩, hG2⟩
  clear HC HSt c1 c2
  have d0 := h2.cB
  have d2 : w2.cell? ⟨p.gB, a / 8 * 5 + 2, none⟩ = some (.bool (s.bl (a / 8)).failed) := h2.bl0 (a / 8) hb 2 (by omega)
  have d3 : w2.cell? ⟨p.gB, a / 8 * 5 + 3, none⟩ = some (.int .i64 (p.wh (a / 8))) := h2.bl0 (a / 8) hb 3 (by omega)
  have f2 : w2.frozen? ⟨p.gB, a / 8 * 5 + 2, none⟩ = false := h2.bl.frozen (a / 8 * 5 + 2)
  have f3 : w2.frozen? ⟨p.gB, a / 8 * 5 + 3, none⟩ = false := h2.bl.frozen (a / 8 * 5 + 3)
  have hlo := h2.rel.whLo (a / 8)
  have hhi := h2.rel.whHi (a / 8)
  have hFb : F p.gB := h2.fb
  simp only at d0 hlo hhi
  by_cases h0 : p.wh (a / 8) = 0
  · obtain ⟨hR, hf⟩ := fail_zero h2 (a / 8) h0
    have hf' : (failW (s.bl (a / 8))).failed = true := hf
    rw [h0] at d3
    have hGF : Chg F w' ((w2.setCell ⟨p.gB, a / 8 * 5 + 2, none⟩ (.bool true)).setCell ⟨p.gB, a / 8 * 5 + 3, none⟩ (.int .i64 (-1))) := (hG2.setCell (Or.inl hFb) _ _).setCell (Or.inl hFb) _ _
    have HF := hyd hf'
    clear hf hf' h0 h2 hlo hhi
    go_wp2
    go_ret
    exact Or.inl ⟨HF.out, rfl, ⟨_, hR⟩, hGF⟩
  · by_cases hpos : 0 < p.wh (a / 8)
    · obtain ⟨hR, hf⟩ := fail_pos h2 (a / 8) (show 0 < p.wh (a / 8) by omega)
      have hf' : (failW (s.bl (a / 8))).failed = (s.bl (a / 8)).failed := hf
      have h1 : (p.wh (a / 8) == 0) = false := beq_eq_false_iff_ne.2 h0
      have h3 : 0 ≤ p.wh (a / 8) := by omega
      have hGF : Chg F w' (w2.setCell ⟨p.gB, a / 8 * 5 + 3, none⟩ (.int .i64 (p.wh (a / 8) - 1))) := hG2.setCell (Or.inl hFb) _ _
      cases hfa : (s.bl (a / 8)).failed with
      | true =>
        rw [hfa] at d2
        have HF := hyd (hf'.trans hfa)
        clear hf hf' hfa h2
        go_wp2
        go_ret
        exact Or.inl ⟨HF.out, rfl, ⟨_, hR⟩, hGF⟩
      | false =>
        rw [hfa] at d2
        have HF := hyd (hf'.trans hfa)
        have hR' : RAt (w2.setCell ⟨p.gB, a / 8 * 5 + 3, none⟩ (.int .i64 (p.wh (a / 8) - 1))) r ((goS s).setBl (a / 8) (failW (s.bl (a / 8)))) F (({ p with bu := bu } : Plc).setW (a / 8)) := hR
        clear hf hf' hfa h2 hR
        have hLs := hR'.lst (a / 8) hb
        have hqF : F (p.gL (a / 8)) := hR'.fl (a / 8) hb _ (Or.inl rfl)
        have hqs := hLs.row.lt
        have hrow3 : Row (w2.setCell ⟨p.gB, a / 8 * 5 + 3, none⟩ (.int .i64 (p.wh (a / 8) - 1))) (p.gL (a / 8)) 159 128 (famF 4 fun i => rch (p.pc (a / 8) i) (s.ch (32 * (a / 8) + i))) := hLs.row
        have e0 : ((w2.setCell ⟨p.gB, a / 8 * 5 + 3, none⟩ (.int .i64 (p.wh (a / 8) - 1)))).cell? ⟨p.gL (a / 8), 4 * (a % 8 * 4 + k), none⟩ = some (.slice (some ⟨(p.pc (a / 8) (a % 8 * 4 + k)).n, 0, none⟩) 64 (p.pc (a / 8) (a % 8 * 4 + k)).nc) := by
          have := hrow3.cell (4 * (a % 8 * 4 + k) + 0) (by omega)
          rw [fam_at 4 (by omega) _ _ _ (by omega)] at this
          exact this
        have g0 := hrow3.frozen (4 * (a % 8 * 4 + k))
        have hrow4 := hrow3.setCell (4 * (a % 8 * 4 + k)) (.slice none 0 0)
        have hG4 : Chg F w' (((w2.setCell ⟨p.gB, a / 8 * 5 + 3, none⟩ (.int .i64 (p.wh (a / 8) - 1)))).setCell ⟨p.gL (a / 8), 4 * (a % 8 * 4 + k), none⟩ (.slice none 0 0)) := hGF.setCell (Or.inl hqF) _ _
        have hG34 : Chg (· = p.gL (a / 8)) (w2.setCell ⟨p.gB, a / 8 * 5 + 3, none⟩ (.int .i64 (p.wh (a / 8) - 1))) (((w2.setCell ⟨p.gB, a / 8 * 5 + 3, none⟩ (.int .i64 (p.wh (a / 8) - 1)))).setCell ⟨p.gL (a / 8), 4 * (a % 8 * 4 + k), none⟩ (.slice none 0 0)) := Chg.r1 _ _ _
        have hqs' : p.gL (a / 8) < ((w2.setCell ⟨p.gB, a / 8 * 5 + 3, none⟩ (.int .i64 (p.wh (a / 8) - 1)))).heap.size := hqs
        generalize hw4 : ((w2.setCell ⟨p.gB, a / 8 * 5 + 3, none⟩ (.int .i64 (p.wh (a / 8) - 1)))).setCell ⟨p.gL (a / 8), 4 * (a % 8 * 4 + k), none⟩ (.slice none 0 0) = w4 at *
        have HW4 := hyd hw4
        clear hw4
        have hz4 : w4.heap.size = ((w2.setCell ⟨p.gB, a / 8 * 5 + 3, none⟩ (.int .i64 (p.wh (a / 8) - 1)))).heap.size := by rw [← HW4.out, size_set]
        have e4 : w4.cell? ⟨p.gL (a / 8), 4 * (a % 8 * 4 + k), none⟩ = some (.slice none 0 0) := by rw [hrow4.cell _ (by omega), upL_one, if_pos rfl]
        have HS4 : Hid (∀ ad, some (⟨c, oo, none⟩ : Addr) = some ad → ∀ j, j < 64 → w4.cell? (ad.add j) = some (.int .u8 (l.getD j 0 : Nat))) := by
          intro ad e j hj
          cases e
          rw [Addr.add_mid, World.cell?_of_block (a := ⟨c, oo + j, none⟩) (hG4.block c hcs hcF)]
          exact HSRC.out j hj
        have HZ := hyd hz4
        clear hz4 hLs
        go_wp2_with (first | rw [HW4.out] | (at_builtin; refine wpList_append_bytes _ rfl (.tmp 85) (.tmp 86) 55 rfl w4.heap.size 5 Tryz.underlying55 hi5 _ [] rfl (Own.nil _ _ _) (some ⟨c, oo, none⟩) 64 cap l rfl HL.out (fun e => by cases e) HS4.out (by simp) (Nat.le_refl _) w4.heap.size rfl ?_))
        intro v5 w5 hO5 hg5 hat5
        have hg5' : Chg (fun _ => False) w4 w5 := grown_none hg5
        obtain ⟨g1, k1, rfl, hg1, hg1s, hB1⟩ := Own.by hO5 (by rw [HL.out]; decide)
        rw [HL.out]
        have hrow5 := hrow4.chg hg5' (fun f => f)
        have hG35 : Chg (· = p.gL (a / 8)) (w2.setCell ⟨p.gB, a / 8 * 5 + 3, none⟩ (.int .i64 (p.wh (a / 8) - 1))) w5 := hG34.trans' hg5' (fun i _ f => f.elim)
        have hG5 : Chg F w' w5 := hG4.trans' hg5' (fun i _ f => f.elim)
        have e5 : w5.cell? ⟨p.gL (a / 8), 4 * (a % 8 * 4 + k), none⟩ = some (.slice none 0 0) := by rw [hrow5.cell _ (by omega), upL_one, if_pos rfl]
        have f5 := hrow5.frozen (4 * (a % 8 * 4 + k))
        have hg1q : g1 ≠ p.gL (a / 8) := by have := HZ.out; omega
        clear hO5 hg5 hat5 hg5' hG34 hG4 hrow4 e4 HS4 e0 g0
        have hrow6 := hrow5.setCell (4 * (a % 8 * 4 + k)) (.slice (some ⟨g1, 0, none⟩) 64 k1)
        have hG36 := hG35.at (p.gL (a / 8)) (4 * (a % 8 * 4 + k)) (.slice (some ⟨g1, 0, none⟩) 64 k1)
        have hG6 := hG5.setCell (Or.inl hqF) (4 * (a % 8 * 4 + k)) (.slice (some ⟨g1, 0, none⟩) 64 k1)
        have hB1a := Row.setOther (k := p.gL (a / 8)) hB1 (fun e => hg1q e.symm) (4 * (a % 8 * 4 + k)) (.slice (some ⟨g1, 0, none⟩) 64 k1)
        have hz6 : (w5.setCell ⟨p.gL (a / 8), 4 * (a % 8 * 4 + k), none⟩ (.slice (some ⟨g1, 0, none⟩) 64 k1)).heap.size = w5.heap.size := size_set _ _ _
        clear hrow5 hG35 hG5 hB1
        generalize hw6 : w5.setCell ⟨p.gL (a / 8), 4 * (a % 8 * 4 + k), none⟩ (.slice (some ⟨g1, 0, none⟩) 64 k1) = w6 at *
        have HW6 := hyd hw6
        clear hw6
        have e6 : w6.cell? ⟨p.gL (a / 8), 4 * (a % 8 * 4 + k) + 1, none⟩ = some (.slice (some ⟨(p.pc (a / 8) (a % 8 * 4 + k)).t, 0, none⟩) 64 (p.pc (a / 8) (a % 8 * 4 + k)).tc) := by
          rw [hrow6.cell _ (by omega), upL_one, if_neg (by omega), upL_one, if_neg (by omega), fam_at 4 (by omega) _ _ _ (by omega)]; rfl
        have f6 := hrow6.frozen (4 * (a % 8 * 4 + k) + 1)
        have hrow7 := hrow6.setCell (4 * (a % 8 * 4 + k) + 1) (.slice none 0 0)
        have hG37 := hG36.at (p.gL (a / 8)) (4 * (a % 8 * 4 + k) + 1) (.slice none 0 0)
        have hG7 := hG6.setCell (Or.inl hqF) (4 * (a % 8 * 4 + k) + 1) (.slice none 0 0)
        have hB1b := Row.setOther (k := p.gL (a / 8)) hB1a (fun e => hg1q e.symm) (4 * (a % 8 * 4 + k) + 1) (.slice none 0 0)
        have hz7 : (w6.setCell ⟨p.gL (a / 8), 4 * (a % 8 * 4 + k) + 1, none⟩ (.slice none 0 0)).heap.size = w6.heap.size := size_set _ _ _
        clear hrow6 hG36 hG6 hB1a
        generalize hw7 : w6.setCell ⟨p.gL (a / 8), 4 * (a % 8 * 4 + k) + 1, none⟩ (.slice none 0 0) = w7 at *
        have HW7 := hyd hw7
        clear hw7
        have e7 : w7.cell? ⟨p.gL (a / 8), 4 * (a % 8 * 4 + k) + 1, none⟩ = some (.slice none 0 0) := by rw [hrow7.cell _ (by omega), upL_one, if_pos rfl]
        have HS7 : Hid (∀ ad, some (⟨c, oo, none⟩ : Addr) = some ad → ∀ j, j < 64 → w7.cell? (ad.add j) = some (.int .u8 (l.getD j 0 : Nat))) := by
          intro ad e j hj
          cases e
          rw [Addr.add_mid, World.cell?_of_block (a := ⟨c, oo + j, none⟩) (hG7.block c hcs hcF)]
          exact HSRC.out j hj
        have hz : g1 < w7.heap.size := by omega
        clear hz6 hz7 hg1s
        go_wp2_with (first | rw [HW6.out] | rw [HW7.out] | (at_builtin; refine wpList_append_bytes _ rfl (.tmp 97) (.tmp 98) 55 rfl w7.heap.size 5 Tryz.underlying55 hi5 _ [] rfl (Own.nil _ _ _) (some ⟨c, oo, none⟩) 64 cap l rfl HL.out (fun e => by cases e) HS7.out (by simp) (Nat.le_refl _) w7.heap.size rfl ?_))
        intro v8 w8 hO8 hg8 hat8
        have hg8' : Chg (fun _ => False) w7 w8 := grown_none hg8
        obtain ⟨g2, k2, rfl, hg2, hg2s, hB2⟩ := Own.by hO8 (by rw [HL.out]; decide)
        rw [HL.out]
        have hrow8 := hrow7.chg hg8' (fun f => f)
        have hG38 : Chg (· = p.gL (a / 8)) (w2.setCell ⟨p.gB, a / 8 * 5 + 3, none⟩ (.int .i64 (p.wh (a / 8) - 1))) w8 := hG37.trans' hg8' (fun i _ f => f.elim)
        have hG8 : Chg F w' w8 := hG7.trans' hg8' (fun i _ f => f.elim)
        have hB1c := Row.chg hB1b hg8' (fun f => f)
        have hz8 := hg8'.size
        have hg12 : g1 ≠ g2 := by omega
        have hqs3 : p.gL (a / 8) < ((w2.setCell ⟨p.gB, a / 8 * 5 + 3, none⟩ (.int .i64 (p.wh (a / 8) - 1)))).heap.size := hqs'
        have hg1w : ((w2.setCell ⟨p.gB, a / 8 * 5 + 3, none⟩ (.int .i64 (p.wh (a / 8) - 1)))).heap.size ≤ g1 := by have := HZ.out; omega
        have hg2w : ((w2.setCell ⟨p.gB, a / 8 * 5 + 3, none⟩ (.int .i64 (p.wh (a / 8) - 1)))).heap.size ≤ g2 := by have := HZ.out; omega
        have hww : w'.heap.size ≤ ((w2.setCell ⟨p.gB, a / 8 * 5 + 3, none⟩ (.int .i64 (p.wh (a / 8) - 1)))).heap.size := hGF.size
        have hg2q : g2 ≠ p.gL (a / 8) := by omega
        clear hO8 hg8 hat8 hg8' hG37 hG7 hrow7 e7 HS7 hB1b e5 f5 e6 f6 hg1 HZ hqs
        have e8 : w8.cell? ⟨p.gL (a / 8), 4 * (a % 8 * 4 + k) + 1, none⟩ = some (.slice none 0 0) := by rw [hrow8.cell _ (by omega), upL_one, if_pos rfl]
        have f8 := hrow8.frozen (4 * (a % 8 * 4 + k) + 1)
        have hrow9 := hrow8.setCell (4 * (a % 8 * 4 + k) + 1) (.slice (some ⟨g2, 0, none⟩) 64 k2)
        have hG39 := hG38.at (p.gL (a / 8)) (4 * (a % 8 * 4 + k) + 1) (.slice (some ⟨g2, 0, none⟩) 64 k2)
        have hG9 := hG8.setCell (Or.inl hqF) (4 * (a % 8 * 4 + k) + 1) (.slice (some ⟨g2, 0, none⟩) 64 k2)
        have hB1d := Row.setOther (k := p.gL (a / 8)) hB1c (fun e => hg1q e.symm) (4 * (a % 8 * 4 + k) + 1) (.slice (some ⟨g2, 0, none⟩) 64 k2)
        have hB2d := Row.setOther (k := p.gL (a / 8)) hB2 (fun e => hg2q e.symm) (4 * (a % 8 * 4 + k) + 1) (.slice (some ⟨g2, 0, none⟩) 64 k2)
        clear hrow8 hG38 hG8 hB1c hB2
        generalize hw9 : w8.setCell ⟨p.gL (a / 8), 4 * (a % 8 * 4 + k) + 1, none⟩ (.slice (some ⟨g2, 0, none⟩) 64 k2) = w9 at *
        have HW9 := hyd hw9
        clear hw9
        have e9 := hrow9.cell (4 * (a % 8 * 4 + k) + 2) (by omega)
        have f9 := hrow9.frozen (4 * (a % 8 * 4 + k) + 2)
        have hrow10 := hrow9.setCell (4 * (a % 8 * 4 + k) + 2) (.bool true)
        have hG310 := hG39.at (p.gL (a / 8)) (4 * (a % 8 * 4 + k) + 2) (.bool true)
        have hG10 := hG9.setCell (Or.inl hqF) (4 * (a % 8 * 4 + k) + 2) (.bool true)
        have hB1e := Row.setOther (k := p.gL (a / 8)) hB1d (fun e => hg1q e.symm) (4 * (a % 8 * 4 + k) + 2) (.bool true)
        have hB2e := Row.setOther (k := p.gL (a / 8)) hB2d (fun e => hg2q e.symm) (4 * (a % 8 * 4 + k) + 2) (.bool true)
        clear hrow9 hG39 hG9 hB1d hB2d
        generalize hw10 : w9.setCell ⟨p.gL (a / 8), 4 * (a % 8 * 4 + k) + 2, none⟩ (.bool true) = w10 at *
        have HW10 := hyd hw10
        clear hw10
        have e10 := hrow10.cell (4 * (a % 8 * 4 + k) + 3) (by omega)
        have f10 := hrow10.frozen (4 * (a % 8 * 4 + k) + 3)
        have hrow11 := hrow10.setCell (4 * (a % 8 * 4 + k) + 3) (.int .i64 0)
        have hG311 := hG310.at (p.gL (a / 8)) (4 * (a % 8 * 4 + k) + 3) (.int .i64 0)
        have hG11 := hG10.setCell (Or.inl hqF) (4 * (a % 8 * 4 + k) + 3) (.int .i64 0)
        have hB1f := Row.setOther (k := p.gL (a / 8)) hB1e (fun e => hg1q e.symm) (4 * (a % 8 * 4 + k) + 3) (.int .i64 0)
        have hB2f := Row.setOther (k := p.gL (a / 8)) hB2e (fun e => hg2q e.symm) (4 * (a % 8 * 4 + k) + 3) (.int .i64 0)
        clear hrow10 hG310 hG10 hB1e hB2e
        generalize hw11 : w10.setCell ⟨p.gL (a / 8), 4 * (a % 8 * 4 + k) + 3, none⟩ (.int .i64 0) = w11 at *
        have HW11 := hyd hw11
        clear hw11
        have hrowF := pgm_row (l := l) hrow11 rfl rfl rfl rfl
        have hl1 := Row.lt hB1f
        have hl2 := Row.lt hB2f
        have hR2 : RAt w11 r (((goS s).setBl (a / 8) (failW (s.bl (a / 8)))).setCh (32 * (a / 8) + (a % 8 * 4 + k)) (pgmK l)) (grow F w' w11) _ := hR'.setChunk (F' := grow F w' w11) (S := (· = p.gL (a / 8))) (a / 8) hb (a % 8 * 4 + k) hj (pgmK l) ⟨g1, k1, g2, k2⟩ hrowF hB1f hB2f hG311 (fun x hx => Or.inl hx) (fun x hx => Or.inl hx) (Or.inr ⟨by show w'.heap.size ≤ g1; omega, hl1⟩) (Or.inr ⟨by show w'.heap.size ≤ g2; omega, hl2⟩) (Or.inr hg1w) (Or.inr hg2w) hg12
        clear hrow11 hrowF hG311 hB1f hB2f hR'
        go_wp2_with (first | rw [HW9.out] | rw [HW10.out] | rw [HW11.out])
        go_ret
        exact Or.inr ⟨HF.out, rfl, ⟨_, hR2⟩, hG11⟩
    · obtain ⟨hR, hf⟩ := fail_neg h2 (a / 8) (show p.wh (a / 8) < 0 by omega)
      have hf' : (failW (s.bl (a / 8))).failed = (s.bl (a / 8)).failed := hf
      have h1 : (p.wh (a / 8) == 0) = false := beq_eq_false_iff_ne.2 h0
      have h3 : ¬ 0 ≤ p.wh (a / 8) := by omega
      have hGF : Chg F w' w2 := hG2
      cases hfa : (s.bl (a / 8)).failed with
      | true =>
        rw [hfa] at d2
        have HF := hyd (hf'.trans hfa)
        clear hf hf' hfa h2
        go_wp2
        go_ret
        exact Or.inl ⟨HF.out, rfl, ⟨_, hR⟩, hGF⟩
      | false =>
        rw [hfa] at d2
        have HF := hyd (hf'.trans hfa)
        have hR' : RAt w2 r ((goS s).setBl (a / 8) (failW (s.bl (a / 8)))) F (({ p with bu := bu } : Plc).setW (a / 8)) := hR
        clear hf hf' hfa h2 hR
        have hLs := hR'.lst (a / 8) hb
        have hqF : F (p.gL (a / 8)) := hR'.fl (a / 8) hb _ (Or.inl rfl)
        have hqs := hLs.row.lt
        have hrow3 : Row w2 (p.gL (a / 8)) 159 128 (famF 4 fun i => rch (p.pc (a / 8) i) (s.ch (32 * (a / 8) + i))) := hLs.row
        have e0 : (w2).cell? ⟨p.gL (a / 8), 4 * (a % 8 * 4 + k), none⟩ = some (.slice (some ⟨(p.pc (a / 8) (a % 8 * 4 + k)).n, 0, none⟩) 64 (p.pc (a / 8) (a % 8 * 4 + k)).nc) := by
          have := hrow3.cell (4 * (a % 8 * 4 + k) + 0) (by omega)
          rw [fam_at 4 (by omega) _ _ _ (by omega)] at this
          exact this
        have g0 := hrow3.frozen (4 * (a % 8 * 4 + k))
        have hrow4 := hrow3.setCell (4 * (a % 8 * 4 + k)) (.slice none 0 0)
        have hG4 : Chg F w' ((w2).setCell ⟨p.gL (a / 8), 4 * (a % 8 * 4 + k), none⟩ (.slice none 0 0)) := hGF.setCell (Or.inl hqF) _ _
        have hG34 : Chg (· = p.gL (a / 8)) w2 ((w2).setCell ⟨p.gL (a / 8), 4 * (a % 8 * 4 + k), none⟩ (.slice none 0 0)) := Chg.r1 _ _ _
        have hqs' : p.gL (a / 8) < (w2).heap.size := hqs
        generalize hw4 : (w2).setCell ⟨p.gL (a / 8), 4 * (a % 8 * 4 + k), none⟩ (.slice none 0 0) = w4 at *
        have HW4 := hyd hw4
        clear hw4
        have hz4 : w4.heap.size = (w2).heap.size := by rw [← HW4.out, size_set]
        have e4 : w4.cell? ⟨p.gL (a / 8), 4 * (a % 8 * 4 + k), none⟩ = some (.slice none 0 0) := by rw [hrow4.cell _ (by omega), upL_one, if_pos rfl]
        have HS4 : Hid (∀ ad, some (⟨c, oo, none⟩ : Addr) = some ad → ∀ j, j < 64 → w4.cell? (ad.add j) = some (.int .u8 (l.getD j 0 : Nat))) := by
          intro ad e j hj
          cases e
          rw [Addr.add_mid, World.cell?_of_block (a := ⟨c, oo + j, none⟩) (hG4.block c hcs hcF)]
          exact HSRC.out j hj
        have HZ := hyd hz4
        clear hz4 hLs
        go_wp2_with (first | rw [HW4.out] | (at_builtin; refine wpList_append_bytes _ rfl (.tmp 85) (.tmp 86) 55 rfl w4.heap.size 5 Tryz.underlying55 hi5 _ [] rfl (Own.nil _ _ _) (some ⟨c, oo, none⟩) 64 cap l rfl HL.out (fun e => by cases e) HS4.out (by simp) (Nat.le_refl _) w4.heap.size rfl ?_))
        intro v5 w5 hO5 hg5 hat5
        have hg5' : Chg (fun _ => False) w4 w5 := grown_none hg5
        obtain ⟨g1, k1, rfl, hg1, hg1s, hB1⟩ := Own.by hO5 (by rw [HL.out]; decide)
        rw [HL.out]
        have hrow5 := hrow4.chg hg5' (fun f => f)
        have hG35 : Chg (· = p.gL (a / 8)) w2 w5 := hG34.trans' hg5' (fun i _ f => f.elim)
        have hG5 : Chg F w' w5 := hG4.trans' hg5' (fun i _ f => f.elim)
        have e5 : w5.cell? ⟨p.gL (a / 8), 4 * (a % 8 * 4 + k), none⟩ = some (.slice none 0 0) := by rw [hrow5.cell _ (by omega), upL_one, if_pos rfl]
        have f5 := hrow5.frozen (4 * (a % 8 * 4 + k))
        have hg1q : g1 ≠ p.gL (a / 8) := by have := HZ.out; omega
        clear hO5 hg5 hat5 hg5' hG34 hG4 hrow4 e4 HS4 e0 g0
        have hrow6 := hrow5.setCell (4 * (a % 8 * 4 + k)) (.slice (some ⟨g1, 0, none⟩) 64 k1)
        have hG36 := hG35.at (p.gL (a / 8)) (4 * (a % 8 * 4 + k)) (.slice (some ⟨g1, 0, none⟩) 64 k1)
        have hG6 := hG5.setCell (Or.inl hqF) (4 * (a % 8 * 4 + k)) (.slice (some ⟨g1, 0, none⟩) 64 k1)
        have hB1a := Row.setOther (k := p.gL (a / 8)) hB1 (fun e => hg1q e.symm) (4 * (a % 8 * 4 + k)) (.slice (some ⟨g1, 0, none⟩) 64 k1)
        have hz6 : (w5.setCell ⟨p.gL (a / 8), 4 * (a % 8 * 4 + k), none⟩ (.slice (some ⟨g1, 0, none⟩) 64 k1)).heap.size = w5.heap.size := size_set _ _ _
        clear hrow5 hG35 hG5 hB1
        generalize hw6 : w5.setCell ⟨p.gL (a / 8), 4 * (a % 8 * 4 + k), none⟩ (.slice (some ⟨g1, 0, none⟩) 64 k1) = w6 at *
        have HW6 := hyd hw6
        clear hw6
        have e6 : w6.cell? ⟨p.gL (a / 8), 4 * (a % 8 * 4 + k) + 1, none⟩ = some (.slice (some ⟨(p.pc (a / 8) (a % 8 * 4 + k)).t, 0, none⟩) 64 (p.pc (a / 8) (a % 8 * 4 + k)).tc) := by
          rw [hrow6.cell _ (by omega), upL_one, if_neg (by omega), upL_one, if_neg (by omega), fam_at 4 (by omega) _ _ _ (by omega)]; rfl
        have f6 := hrow6.frozen (4 * (a % 8 * 4 + k) + 1)
        have hrow7 := hrow6.setCell (4 * (a % 8 * 4 + k) + 1) (.slice none 0 0)
        have hG37 := hG36.at (p.gL (a / 8)) (4 * (a % 8 * 4 + k) + 1) (.slice none 0 0)
        have hG7 := hG6.setCell (Or.inl hqF) (4 * (a % 8 * 4 + k) + 1) (.slice none 0 0)
        have hB1b := Row.setOther (k := p.gL (a / 8)) hB1a (fun e => hg1q e.symm) (4 * (a % 8 * 4 + k) + 1) (.slice none 0 0)
        have hz7 : (w6.setCell ⟨p.gL (a / 8), 4 * (a % 8 * 4 + k) + 1, none⟩ (.slice none 0 0)).heap.size = w6.heap.size := size_set _ _ _
        clear hrow6 hG36 hG6 hB1a
        generalize hw7 : w6.setCell ⟨p.gL (a / 8), 4 * (a % 8 * 4 + k) + 1, none⟩ (.slice none 0 0) = w7 at *
        have HW7 := hyd hw7
        clear hw7
        have e7 : w7.cell? ⟨p.gL (a / 8), 4 * (a % 8 * 4 + k) + 1, none⟩ = some (.slice none 0 0) := by rw [hrow7.cell _ (by omega), upL_one, if_pos rfl]
        have HS7 : Hid (∀ ad, some (⟨c, oo, none⟩ : Addr) = some ad → ∀ j, j < 64 → w7.cell? (ad.add j) = some (.int .u8 (l.getD j 0 : Nat))) := by
          intro ad e j hj
          cases e
          rw [Addr.add_mid, World.cell?_of_block (a := ⟨c, oo + j, none⟩) (hG7.block c hcs hcF)]
          exact HSRC.out j hj
        have hz : g1 < w7.heap.size := by omega
        clear hz6 hz7 hg1s
        go_wp2_with (first | rw [HW6.out] | rw [HW7.out] | (at_builtin; refine wpList_append_bytes _ rfl (.tmp 97) (.tmp 98) 55 rfl w7.heap.size 5 Tryz.underlying55 hi5 _ [] rfl (Own.nil _ _ _) (some ⟨c, oo, none⟩) 64 cap l rfl HL.out (fun e => by cases e) HS7.out (by simp) (Nat.le_refl _) w7.heap.size rfl ?_))
        intro v8 w8 hO8 hg8 hat8
        have hg8' : Chg (fun _ => False) w7 w8 := grown_none hg8
        obtain ⟨g2, k2, rfl, hg2, hg2s, hB2⟩ := Own.by hO8 (by rw [HL.out]; decide)
        rw [HL.out]
        have hrow8 := hrow7.chg hg8' (fun f => f)
        have hG38 : Chg (· = p.gL (a / 8)) w2 w8 := hG37.trans' hg8' (fun i _ f => f.elim)
        have hG8 : Chg F w' w8 := hG7.trans' hg8' (fun i _ f => f.elim)
        have hB1c := Row.chg hB1b hg8' (fun f => f)
        have hz8 := hg8'.size
        have hg12 : g1 ≠ g2 := by omega
        have hqs3 : p.gL (a / 8) < (w2).heap.size := hqs'
        have hg1w : (w2).heap.size ≤ g1 := by have := HZ.out; omega
        have hg2w : (w2).heap.size ≤ g2 := by have := HZ.out; omega
        have hww : w'.heap.size ≤ (w2).heap.size := hGF.size
        have hg2q : g2 ≠ p.gL (a / 8) := by omega
        clear hO8 hg8 hat8 hg8' hG37 hG7 hrow7 e7 HS7 hB1b e5 f5 e6 f6 hg1 HZ hqs
        have e8 : w8.cell? ⟨p.gL (a / 8), 4 * (a % 8 * 4 + k) + 1, none⟩ = some (.slice none 0 0) := by rw [hrow8.cell _ (by omega), upL_one, if_pos rfl]
        have f8 := hrow8.frozen (4 * (a % 8 * 4 + k) + 1)
        have hrow9 := hrow8.setCell (4 * (a % 8 * 4 + k) + 1) (.slice (some ⟨g2, 0, none⟩) 64 k2)
        have hG39 := hG38.at (p.gL (a / 8)) (4 * (a % 8 * 4 + k) + 1) (.slice (some ⟨g2, 0, none⟩) 64 k2)
        have hG9 := hG8.setCell (Or.inl hqF) (4 * (a % 8 * 4 + k) + 1) (.slice (some ⟨g2, 0, none⟩) 64 k2)
        have hB1d := Row.setOther (k := p.gL (a / 8)) hB1c (fun e => hg1q e.symm) (4 * (a % 8 * 4 + k) + 1) (.slice (some ⟨g2, 0, none⟩) 64 k2)
        have hB2d := Row.setOther (k := p.gL (a / 8)) hB2 (fun e => hg2q e.symm) (4 * (a % 8 * 4 + k) + 1) (.slice (some ⟨g2, 0, none⟩) 64 k2)
        clear hrow8 hG38 hG8 hB1c hB2
        generalize hw9 : w8.setCell ⟨p.gL (a / 8), 4 * (a % 8 * 4 + k) + 1, none⟩ (.slice (some ⟨g2, 0, none⟩) 64 k2) = w9 at *
        have HW9 := hyd hw9
        clear hw9
        have e9 := hrow9.cell (4 * (a % 8 * 4 + k) + 2) (by omega)
        have f9 := hrow9.frozen (4 * (a % 8 * 4 + k) + 2)
        have hrow10 := hrow9.setCell (4 * (a % 8 * 4 + k) + 2) (.bool true)
        have hG310 := hG39.at (p.gL (a / 8)) (4 * (a % 8 * 4 + k) + 2) (.bool true)
        have hG10 := hG9.setCell (Or.inl hqF) (4 * (a % 8 * 4 + k) + 2) (.bool true)
        have hB1e := Row.setOther (k := p.gL (a / 8)) hB1d (fun e => hg1q e.symm) (4 * (a % 8 * 4 + k) + 2) (.bool true)
        have hB2e := Row.setOther (k := p.gL (a / 8)) hB2d (fun e => hg2q e.symm) (4 * (a % 8 * 4 + k) + 2) (.bool true)
        clear hrow9 hG39 hG9 hB1d hB2d
        generalize hw10 : w9.setCell ⟨p.gL (a / 8), 4 * (a % 8 * 4 + k) + 2, none⟩ (.bool true) = w10 at *
        have HW10 := hyd hw10
        clear hw10
        have e10 := hrow10.cell (4 * (a % 8 * 4 + k) + 3) (by omega)
        have f10 := hrow10.frozen (4 * (a % 8 * 4 + k) + 3)
        have hrow11 := hrow10.setCell (4 * (a % 8 * 4 + k) + 3) (.int .i64 0)
        have hG311 := hG310.at (p.gL (a / 8)) (4 * (a % 8 * 4 + k) + 3) (.int .i64 0)
        have hG11 := hG10.setCell (Or.inl hqF) (4 * (a % 8 * 4 + k) + 3) (.int .i64 0)
        have hB1f := Row.setOther (k := p.gL (a / 8)) hB1e (fun e => hg1q e.symm) (4 * (a % 8 * 4 + k) + 3) (.int .i64 0)
        have hB2f := Row.setOther (k := p.gL (a / 8)) hB2e (fun e => hg2q e.symm) (4 * (a % 8 * 4 + k) + 3) (.int .i64 0)
        clear hrow10 hG310 hG10 hB1e hB2e
        generalize hw11 : w10.setCell ⟨p.gL (a / 8), 4 * (a % 8 * 4 + k) + 3, none⟩ (.int .i64 0) = w11 at *
        have HW11 := hyd hw11
        clear hw11
        have hrowF := pgm_row (l := l) hrow11 rfl rfl rfl rfl
        have hl1 := Row.lt hB1f
        have hl2 := Row.lt hB2f
        have hR2 : RAt w11 r (((goS s).setBl (a / 8) (failW (s.bl (a / 8)))).setCh (32 * (a / 8) + (a % 8 * 4 + k)) (pgmK l)) (grow F w' w11) _ := hR'.setChunk (F' := grow F w' w11) (S := (· = p.gL (a / 8))) (a / 8) hb (a % 8 * 4 + k) hj (pgmK l) ⟨g1, k1, g2, k2⟩ hrowF hB1f hB2f hG311 (fun x hx => Or.inl hx) (fun x hx => Or.inl hx) (Or.inr ⟨by show w'.heap.size ≤ g1; omega, hl1⟩) (Or.inr ⟨by show w'.heap.size ≤ g2; omega, hl2⟩) (Or.inr hg1w) (Or.inr hg2w) hg12
        clear hrow11 hrowF hG311 hB1f hB2f hR'
        go_wp2_with (first | rw [HW9.out] | rw [HW10.out] | rw [HW11.out])
        go_ret
        exact Or.inr ⟨HF.out, rfl, ⟨_, hR2⟩, hG11⟩
theorem wr_off' {s : Chp} {a k : Nat} {l : List Nat} (ha : a < 96) (hk : k < 4) (hl : l.length = 64) (h : s.on = false) : writeR s a k l = (s, 7) := by
  unfold writeR; rw [if_neg (by omega), if_pos h]
theorem wr_is' {s : Chp} {a k : Nat} {l : List Nat} (ha : a < 96) (hk : k < 4) (hl : l.length = 64) (h : s.on = true) (hi : (s.ch (4 * a + k)).is = true) : writeR s a k l = (s, 9) := by
  unfold writeR; rw [if_neg (by omega), if_neg (by simp [h]), Int.toNat_natCast, Int.toNat_natCast, if_pos hi]
theorem wr_cut' {s : Chp} {a k : Nat} {l : List Nat} (ha : a < 96) (hk : k < 4) (hl : l.length = 64) (h : s.on = true) (hi : (s.ch (4 * a + k)).is = false) (hc : s.lim = true ∧ s.bud = 0) : writeR s a k l = (offS s, 7) := by
  unfold writeR; rw [if_neg (by omega), if_neg (by simp [h]), Int.toNat_natCast, Int.toNat_natCast, if_neg (by simp [hi]), if_pos hc]
theorem wr_fail' {s : Chp} {a k : Nat} {l : List Nat} (ha : a < 96) (hk : k < 4) (hl : l.length = 64) (h : s.on = true) (hi : (s.ch (4 * a + k)).is = false) (hc : ¬ (s.lim = true ∧ s.bud = 0)) (hf : (failW (s.bl (a / 8))).failed = true) :
    writeR s a k l = ((goS s).setBl (a / 8) (failW (s.bl (a / 8))), 8) := by
  unfold writeR; rw [if_neg (by omega), if_neg (by simp [h]), Int.toNat_natCast, Int.toNat_natCast, if_neg (by simp [hi]), if_neg hc, if_pos hf]
theorem wr_ok' {s : Chp} {a k : Nat} {l : List Nat} (ha : a < 96) (hk : k < 4) (hl : l.length = 64) (h : s.on = true) (hi : (s.ch (4 * a + k)).is = false) (hc : ¬ (s.lim = true ∧ s.bud = 0)) (hf : (failW (s.bl (a / 8))).failed = false) :
    writeR s a k l = (((goS s).setBl (a / 8) (failW (s.bl (a / 8)))).setCh (4 * a + k) (pgmK l), 0) := by
  unfold writeR; rw [if_neg (by omega), if_neg (by simp [h]), Int.toNat_natCast, Int.toNat_natCast, if_neg (by simp [hi]), if_neg hc, if_neg (by simp [hf])]
theorem RefAt.grow {w w0 : World} {r : Nat} {s : Chp} {F : Nat → Prop} (h : RefAt w r s F) : RefAt w r s (grow F w0 w) := by
  obtain ⟨p, h⟩ := h
  exact ⟨p, h.mono fun k hk => Or.inl hk⟩
/-- Write, whatever is handed in. -/
theorem rwrite_any (r : Nat) (s : Chp) (hs : s.Ok) (F : Nat → Prop) (a k : Int) (l : List Nat) (v : Value) (w : World) (hv : Held w v l) (hq : ∀ x, v.ownBlock = some x → ¬ F x) (h : RefAt w r s F) :
    Calls Tryz.prog 62 #[.pointer (some ⟨r, 0, none⟩), .int .i64 a, .int .i64 k, v] w fun e w' => e = .returned (.int .i64 (writeR s a k l).2) ∧ RefAt w' r (writeR s a k l).1 (grow F w w') ∧ Chg F w w' := by
  obtain ⟨ad, cap, rfl, hx⟩ := hv
  by_cases hc : ¬ (0 ≤ a ∧ a < 96 ∧ 0 ≤ k ∧ k < 4) ∨ l.length ≠ 64
  · have e : writeR s a k l = (s, 1) := by unfold writeR; rw [if_pos hc]
    rw [e]
    refine (rwrite_arg r a k ad l.length cap hc w).mono ?_
    rintro e w' ⟨rfl, rfl⟩
    exact ⟨rfl, h.grow, Chg.refl _ _⟩
  · have hl : l.length = 64 := by omega
    have ha0 : 0 ≤ a := by omega
    have hk0 : 0 ≤ k := by omega
    obtain ⟨a, rfl⟩ := Int.eq_ofNat_of_zero_le ha0
    obtain ⟨k, rfl⟩ := Int.eq_ofNat_of_zero_le hk0
    have ha : a < 96 := by omega
    have hk : k < 4 := by omega
    obtain ⟨p, hR⟩ := h
    have early : ∀ c s', ((s.on = false ∧ c = 7 ∧ s' = s) ∨ (s.on = true ∧ (s.ch (4 * a + k)).is = true ∧ c = 9 ∧ s' = s) ∨ (s.on = true ∧ (s.ch (4 * a + k)).is = false ∧ s.lim = true ∧ s.bud = 0 ∧ c = 7 ∧ s' = offS s)) → writeR s a k l = (s', c) →
        Calls Tryz.prog 62 #[.pointer (some ⟨r, 0, none⟩), .int .i64 a, .int .i64 k, .slice ad l.length cap] w fun e w' => e = .returned (.int .i64 (writeR s a k l).2) ∧ RefAt w' r (writeR s a k l).1 (grow F w w') ∧ Chg F w w' := by
      intro c s' h1 h2
      rw [h2, hl]
      refine (rwrite_early r s F p a k ha hk ad cap w hR c s' h1).mono ?_
      rintro e w' ⟨rfl, h3, h4⟩
      exact ⟨rfl, h3.grow, h4⟩
    cases hon : s.on with
    | false => exact early 7 s (Or.inl ⟨hon, rfl, rfl⟩) (wr_off' ha hk hl hon)
    | true =>
      cases his : (s.ch (4 * a + k)).is with
      | true => exact early 9 s (Or.inr (Or.inl ⟨hon, his, rfl, rfl⟩)) (wr_is' ha hk hl hon his)
      | false =>
        by_cases hcut : s.lim = true ∧ s.bud = 0
        · exact early 7 (offS s) (Or.inr (Or.inr ⟨hon, his, hcut.1, hcut.2, rfl, rfl⟩)) (wr_cut' ha hk hl hon his hcut)
        · rcases hx with hx | ⟨c, oo, rfl, hcs, hx⟩
          · omega
          · rw [hl] at hx hq ⊢
            refine (rwrite_late r s hs F p a k ha hk l hl c oo cap w hR (hq c rfl) hcs hx hon his hcut).mono ?_
            rintro e w' (⟨hf, rfl, h1, h2⟩ | ⟨hf, rfl, h1, h2⟩)
            · rw [wr_fail' ha hk hl hon his hcut hf]
              exact ⟨rfl, h1.grow, h2⟩
            · rw [wr_ok' ha hk hl hon his hcut hf]
              exact ⟨rfl, h1, h2⟩
end Go.Proofs.YtifjmilegogbaaaGreat
