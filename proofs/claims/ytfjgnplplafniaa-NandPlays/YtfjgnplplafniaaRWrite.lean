/-
  The document's chip: Write. Condition: the block holds the document's chip; the bytes lie elsewhere.
-/
import Derived.Test.YtfjgnplplafniaaRFlip
namespace Go.Proofs.Ytfjgnplplafniaa
open Go.RowKit
set_option maxRecDepth 100000
set_option linter.unusedSimpArgs false

/-- F, and what is new. -/
def grow (F : Nat → Prop) (w w' : World) : Nat → Prop := fun k => F k ∨ (w.heap.size ≤ k ∧ k < w'.heap.size)
theorem rwrite_arg (r : Nat) (a k : Int) (ad : Option Addr) (n cap : Nat) (h : ¬ (0 ≤ a ∧ a < 96 ∧ 0 ≤ k ∧ k < 4) ∨ n ≠ 64) (w : World) :
    Calls Try.prog 32 #[.pointer (some ⟨r, 0, none⟩), .int .i64 a, .int .i64 k, .slice ad n cap] w fun e w' => e = .returned (.int .i64 1) ∧ w' = w := by
  by_cases ha : a < 0 ∨ 96 ≤ a
  · go_enter Try.func32, Try.ntmps32
    go_wp2_with fail
    refine (isPage_no a ha _).mono ?_
    rintro e w' ⟨rfl, rfl⟩
    go_wp2
    go_ret
    exact ⟨rfl, rfl⟩
  · have ha0 : 0 ≤ a := by omega
    have ha1 : a < 96 := by omega
    by_cases hk : k < 0
    · clear h ha
      go_enter Try.func32, Try.ntmps32
      go_wp2_with fail
      refine (isPage_yes a ha0 ha1 _).mono ?_
      rintro e w' ⟨rfl, rfl⟩
      go_wp2
      go_ret
      exact ⟨rfl, rfl⟩
    · by_cases hk2 : 4 ≤ k
      · clear h ha
        go_enter Try.func32, Try.ntmps32
        go_wp2_with fail
        refine (isPage_yes a ha0 ha1 _).mono ?_
        rintro e w' ⟨rfl, rfl⟩
        go_wp2
        go_ret
        exact ⟨rfl, rfl⟩
      · have hn : ((n : Int) != 64) = true := by rw [bne_iff_ne]; omega
        have hk3 : ¬ k < 0 := hk
        clear h ha
        go_enter Try.func32, Try.ntmps32
        go_wp2_with fail
        refine (isPage_yes a ha0 ha1 _).mono ?_
        rintro e w' ⟨rfl, rfl⟩
        go_wp2
        go_ret
        exact ⟨rfl, rfl⟩
/-- What the document's block says behind a write. -/
def whW (y : Int) : Int := if 0 ≤ y then y - 1 else y
theorem failW_wh {p : Plc} {s : Chp} (h : Rel p s) (b : Nat) : (failW (s.bl b)).failed = ((s.bl b).failed || decide (p.wh b = 0)) := by
  cases hf : (s.bl b).failed with
  | true => simp [failW, hf]
  | false =>
    have h1 := h.wh b hf
    cases hw : (s.bl b).wf with
    | true =>
      rw [hw, if_pos rfl] at h1
      simp only [failW, hf, hw, Bool.false_or, Bool.true_and]
      rw [h1]
      congr 1
      exact propext ⟨fun e => by omega, fun e => by omega⟩
    | false =>
      rw [hw, if_neg (by simp)] at h1
      simp [failW, hf, hw, h1]
theorem Rel.failW {p : Plc} {s : Chp} (h : Rel p s) (b : Nat) : Rel { p with wh := fun j => if j = b then whW (p.wh b) else p.wh j } (s.setBl b (failW (s.bl b))) := by
  have lo := h.whLo b
  have hi := h.whHi b
  refine h.setBl b _ _ (fun e => ?_) (by unfold whW; split <;> omega) (by unfold whW; split <;> omega)
  have hw := failW_wh h b
  rw [e] at hw
  have hf : (s.bl b).failed = false := by
    cases hf : (s.bl b).failed with
    | true => rw [hf] at hw; simp at hw
    | false => rfl
  rw [hf, Bool.false_or] at hw
  have h0 : p.wh b ≠ 0 := of_decide_eq_false hw.symm
  have h1 := h.wh b hf
  show whW (p.wh b) = if (s.bl b).wf then (((s.bl b).ahead - 1 : Nat) : Int) else -1
  cases hwf : (s.bl b).wf with
  | true =>
    rw [hwf, if_pos rfl] at h1
    rw [if_pos rfl, h1]
    unfold whW
    rw [if_pos (by omega)]
    omega
  | false =>
    rw [hwf, if_neg (by simp)] at h1
    rw [if_neg (by simp), h1]
    rfl
set_option maxHeartbeats 4000000 in
theorem rwrite_early (r : Nat) (s : Chp) (F : Nat → Prop) (p : Plc) (a k : Nat) (ha : a < 96) (hk : k < 4) (ad : Option Addr) (cap : Nat) (w : World) (h : RAt w r s F p) (c : Nat) (s' : Chp)
    (hcase : (s.on = false ∧ c = 7 ∧ s' = s) ∨ (s.on = true ∧ (s.ch (4 * a + k)).is = true ∧ c = 9 ∧ s' = s) ∨ (s.on = true ∧ (s.ch (4 * a + k)).is = false ∧ s.lim = true ∧ s.bud = 0 ∧ c = 7 ∧ s' = offS s)) :
    Calls Try.prog 32 #[.pointer (some ⟨r, 0, none⟩), .int .i64 a, .int .i64 k, .slice ad 64 cap] w fun e w' => e = .returned (.int .i64 c) ∧ RefAt w' r s' F ∧ Chg F w w' := by
  have ha0 : (0 : Int) ≤ a := by omega
  have ha1 : (a : Int) < 96 := by omega
  have hk0 : ¬ (k : Int) < 0 := by omega
  have hk1 : ¬ 4 ≤ (k : Int) := by omega
  have c1 := h.cOn
  have c2 : w.cell? ⟨p.gL (a / 8), 4 * (a % 8 * 4 + k) + 2, none⟩ = some (.bool (s.ch (32 * (a / 8) + (a % 8 * 4 + k))).is) := h.ch (a / 8) (by omega) (a % 8 * 4 + k) (by omega) 2 (by omega)
  rw [chunk_of] at c2
  have HC := hyd (rchunk_any r s F p a k ha hk w h)
  rcases hcase with ⟨hon, rfl, rfl⟩ | ⟨hon, his, rfl, rfl⟩ | ⟨hon, his, hl, hb, rfl, rfl⟩
  · rw [hon] at c1
    clear hon c2 HC
    go_enter Try.func32, Try.ntmps32
    go_wp2_with fail
    refine (isPage_yes (a : Int) ha0 ha1 _).mono ?_
    rintro e w' ⟨rfl, rfl⟩
    go_wp2
    go_ret
    exact ⟨rfl, ⟨p, h⟩, Chg.refl _ _⟩
  · rw [hon] at c1
    rw [his] at c2
    clear hon his
    go_enter Try.func32, Try.ntmps32
    go_wp2_with fail
    refine (isPage_yes (a : Int) ha0 ha1 _).mono ?_
    rintro e w' ⟨rfl, rfl⟩
    go_wp2_with fail
    refine HC.out.mono ?_
    rintro e w' ⟨rfl, rfl⟩
    go_wp2
    go_ret
    exact ⟨rfl, ⟨p, h⟩, Chg.refl _ _⟩
  · have HS := hyd (rstep_cut r s F p w h hon hl hb)
    rw [hon] at c1
    rw [his] at c2
    clear hon his hl hb
    go_enter Try.func32, Try.ntmps32
    go_wp2_with fail
    refine (isPage_yes (a : Int) ha0 ha1 _).mono ?_
    rintro e w' ⟨rfl, rfl⟩
    go_wp2_with fail
    refine HC.out.mono ?_
    rintro e w' ⟨rfl, rfl⟩
    go_wp2_with fail
    refine HS.out.mono ?_
    rintro e w2 ⟨rfl, ⟨bu, h2⟩, hG⟩
    go_wp2
    go_ret
    exact ⟨rfl, ⟨_, h2⟩, hG⟩
/-- The places behind a write. -/
def Plc.setW (p : Plc) (b : Nat) : Plc := { p with wh := fun j => if j = b then whW (p.wh b) else p.wh j }
theorem fail_zero {w : World} {r : Nat} {s : Chp} {F : Nat → Prop} {p : Plc} (h : RAt w r s F p) (b : Nat) (h0 : p.wh b = 0) :
    RAt ((w.setCell ⟨p.gB, b * 5 + 2, none⟩ (.bool true)).setCell ⟨p.gB, b * 5 + 3, none⟩ (.int .i64 (-1))) r (s.setBl b (failW (s.bl b))) F (p.setW b) ∧ (failW (s.bl b)).failed = true := by
  have hf : (failW (s.bl b)).failed = true := by rw [failW_wh h.rel b, h0]; simp
  refine ⟨?_, hf⟩
  have hc : Chg (· = p.gB) w ((w.setCell ⟨p.gB, b * 5 + 2, none⟩ (.bool true)).setCell ⟨p.gB, b * 5 + 3, none⟩ (.int .i64 (-1))) := (Chg.r1 w _ _).at p.gB _ _
  refine h.setBlk b (failW (s.bl b)) (whW (p.wh b)) (h.rel.failW b) ?_ hc
  have t1 : Row (w.setCell ⟨p.gB, b * 5 + 2, none⟩ (.bool true)) p.gB 81 60 (famF 5 (fun c => if c = b then (rbl p s b).set 2 (.bool true) else rbl p s c)) := by
    rw [show b * 5 + 2 = 5 * b + 2 from by omega]
    exact (h.bl.setCell (5 * b + 2) _).ext fun i _ => fam_set 5 (by omega) _ _ b 2 (by omega) _ (fun c hc => by rw [if_neg hc]) (by rw [if_pos rfl]) rfl i
  rw [show b * 5 + 3 = 5 * b + 3 from by omega]
  refine (t1.setCell (5 * b + 3) _).ext fun i _ => fam_set 5 (by omega) _ _ b 3 (by omega) _ (fun c hc => by rw [rbl_other p s b _ _ c hc, if_neg hc]) ?_ (by rw [if_pos rfl]; rfl) i
  rw [rbl_same, if_pos rfl, hf, h0]
  rfl
theorem fail_pos {w : World} {r : Nat} {s : Chp} {F : Nat → Prop} {p : Plc} (h : RAt w r s F p) (b : Nat) (h0 : 0 < p.wh b) :
    RAt (w.setCell ⟨p.gB, b * 5 + 3, none⟩ (.int .i64 (p.wh b - 1))) r (s.setBl b (failW (s.bl b))) F (p.setW b) ∧ (failW (s.bl b)).failed = (s.bl b).failed := by
  have hf : (failW (s.bl b)).failed = (s.bl b).failed := by rw [failW_wh h.rel b, decide_eq_false (by omega), Bool.or_false]
  refine ⟨?_, hf⟩
  refine h.setBlk b (failW (s.bl b)) (whW (p.wh b)) (h.rel.failW b) ?_ (Chg.r1 w _ _)
  refine bl_set h.bl b _ _ 3 _ (by omega) ?_
  rw [hf, show whW (p.wh b) = p.wh b - 1 from by unfold whW; rw [if_pos (by omega)]]
  rfl
theorem fail_neg {w : World} {r : Nat} {s : Chp} {F : Nat → Prop} {p : Plc} (h : RAt w r s F p) (b : Nat) (h0 : p.wh b < 0) :
    RAt w r (s.setBl b (failW (s.bl b))) F (p.setW b) ∧ (failW (s.bl b)).failed = (s.bl b).failed := by
  have hf : (failW (s.bl b)).failed = (s.bl b).failed := by rw [failW_wh h.rel b, decide_eq_false (by omega), Bool.or_false]
  refine ⟨?_, hf⟩
  refine h.setBlk b (failW (s.bl b)) (whW (p.wh b)) (h.rel.failW b) ?_ (Chg.refl _ _)
  have e : rbl { p with wh := fun j => if j = b then whW (p.wh b) else p.wh j } (s.setBl b (failW (s.bl b))) = rbl p s := by
    funext c
    by_cases hc : c = b
    · subst hc
      rw [rbl_same, hf, show whW (p.wh c) = p.wh c from by unfold whW; rw [if_neg (by omega)]]
      rfl
    · exact rbl_other p s b _ _ c hc
  rw [e]
  exact h.bl
/-- A chunk is programmed: what is stored into its four cells. -/
theorem pgm_row {w : World} {p : Plc} {s : Chp} {b j q : Nat} {l : List Nat} {g1 c1 g2 c2 : Nat} {v1 v2 v3 v4 v5 v6 : Value}
    (h : Row w q 101 128 (upL (upL (upL (upL (upL (upL (famF 4 fun i => rch (p.pc b i) (s.ch (32 * b + i))) (4 * j) [v1]) (4 * j) [v2]) (4 * j + 1) [v3]) (4 * j + 1) [v4]) (4 * j + 2) [v5]) (4 * j + 3) [v6]))
    (e2 : v2 = .slice (some ⟨g1, 0, none⟩) 64 c1) (e4 : v4 = .slice (some ⟨g2, 0, none⟩) 64 c2) (e5 : v5 = .bool true) (e6 : v6 = .int .i64 0) :
    Row w q 101 128 (famF 4 fun i => rch (if i = j then (⟨g1, c1, g2, c2⟩ : Pc) else p.pc b i) ((s.setCh (32 * b + j) (pgmK l)).ch (32 * b + i))) := by
  refine h.ext fun i _ => fam_elem 4 (by omega) _ _ _ j (fun c hc => rch_fam c hc) (fun i hi => ?_) (fun t ht => ?_) i
  · have hh : ∀ x, x < 4 → i ≠ 4 * j + x := fun x hx e => hi (by rw [e]; omega)
    have h0 := hh 0 (by omega)
    have h1 := hh 1 (by omega)
    have h2 := hh 2 (by omega)
    have h3 := hh 3 (by omega)
    rw [upL_one, if_neg h3, upL_one, if_neg h2, upL_one, if_neg h1, upL_one, if_neg h1, upL_one, if_neg (by omega), upL_one, if_neg (by omega)]
  · rw [rch_fam_same]
    rcases (by omega : t = 0 ∨ t = 1 ∨ t = 2 ∨ t = 3) with e | e | e | e <;> subst e
    · rw [upL_one, if_neg (by omega), upL_one, if_neg (by omega), upL_one, if_neg (by omega), upL_one, if_neg (by omega), upL_one, if_pos (by omega), e2]; rfl
    · rw [upL_one, if_neg (by omega), upL_one, if_neg (by omega), upL_one, if_pos (by omega), e4]; rfl
    · rw [upL_one, if_neg (by omega), upL_one, if_pos (by omega), e5]; rfl
    · rw [upL_one, if_pos (by omega), e6]; rfl
end Go.Proofs.Ytfjgnplplafniaa
