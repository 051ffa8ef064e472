/-
  The chip's small functions: what there is, the power, the steps, what is to fail. Condition: the block holds a chip.
-/
import Derived.Test.YtfjgnplplafniaaFlip
namespace Go.Proofs.Ytfjgnplplafniaa
open Go.RowKit
set_option maxRecDepth 100000

theorem below_yes (n m : Int) (h0 : 0 ≤ n) (h1 : n < m) (w : World) : Calls Try.prog 50 #[.int .i64 n, .int .i64 m] w fun e w' => e = .returned (.bool true) ∧ w' = w := by
  go_enter Try.func50, Try.ntmps50
  go_wp2
  go_ret
  exact ⟨rfl, rfl⟩
theorem below_no (n m : Int) (h : n < 0 ∨ m ≤ n) (w : World) : Calls Try.prog 50 #[.int .i64 n, .int .i64 m] w fun e w' => e = .returned (.bool false) ∧ w' = w := by
  by_cases h0 : n < 0
  · have h1 : ¬ 0 ≤ n := by omega
    go_enter Try.func50, Try.ntmps50
    go_wp2
    go_ret
    exact ⟨rfl, rfl⟩
  · have h1 : 0 ≤ n := by omega
    have h2 : ¬ n < m := by omega
    go_enter Try.func50, Try.ntmps50
    go_wp2
    go_ret
    exact ⟨rfl, rfl⟩
theorem isChunk_yes (a k : Int) (h0 : 0 ≤ a) (h1 : a < 96) (h2 : 0 ≤ k) (h3 : k < 4) (w : World) : Calls Try.prog 46 #[.int .i64 a, .int .i64 k] w fun e w' => e = .returned (.bool true) ∧ w' = w := by
  go_enter Try.func46, Try.ntmps46
  go_wp2_with (first | (go_at_call_of 50 (Value.int IntKind.i64 a); refine (below_yes a 96 h0 h1 _).mono ?_; rintro e w' ⟨rfl, rfl⟩) | (go_at_call_of 50 (Value.int IntKind.i64 k); refine (below_yes k 4 h2 h3 _).mono ?_; rintro e w' ⟨rfl, rfl⟩))
  go_ret
  exact ⟨rfl, rfl⟩
theorem isChunk_no (a k : Int) (h : a < 0 ∨ 96 ≤ a ∨ k < 0 ∨ 4 ≤ k) (w : World) : Calls Try.prog 46 #[.int .i64 a, .int .i64 k] w fun e w' => e = .returned (.bool false) ∧ w' = w := by
  by_cases h0 : a < 0 ∨ 96 ≤ a
  · go_enter Try.func46, Try.ntmps46
    go_wp2_with fail
    refine (below_no a 96 h0 _).mono ?_
    rintro e w' ⟨rfl, rfl⟩
    go_wp2
    go_ret
    exact ⟨rfl, rfl⟩
  · have h1 : 0 ≤ a := by omega
    have h2 : a < 96 := by omega
    have h3 : k < 0 ∨ 4 ≤ k := by omega
    clear h h0
    go_enter Try.func46, Try.ntmps46
    go_wp2_with fail
    refine (below_yes a 96 h1 h2 _).mono ?_
    rintro e w' ⟨rfl, rfl⟩
    go_wp2_with fail
    refine (below_no k 4 h3 _).mono ?_
    rintro e w' ⟨rfl, rfl⟩
    go_wp2
    go_ret
    exact ⟨rfl, rfl⟩

theorem ChipAt.on {w : World} {g : Nat} {s : Chp} (h : ChipAt w g s) : w.cell? ⟨g, 49980, none⟩ = some (.bool s.on) := Sto.cell h 49980 (by omega)
theorem ChipAt.lim {w : World} {g : Nat} {s : Chp} (h : ChipAt w g s) : w.cell? ⟨g, 49981, none⟩ = some (.bool s.lim) := Sto.cell h 49981 (by omega)
theorem ChipAt.bud {w : World} {g : Nat} {s : Chp} (h : ChipAt w g s) : w.cell? ⟨g, 49982, none⟩ = some (.int .i64 s.bud) := Sto.cell h 49982 (by omega)
theorem ChipAt.steps {w : World} {g : Nat} {s : Chp} (h : ChipAt w g s) : w.cell? ⟨g, 49983, none⟩ = some (.int .i64 s.steps) := Sto.cell h 49983 (by omega)
theorem ChipAt.frozen {w : World} {g : Nat} {s : Chp} (h : ChipAt w g s) (i : Nat) : w.frozen? ⟨g, i, none⟩ = false := Sto.frozen h i
theorem ChipAt.setPw {w : World} {g : Nat} {s : Chp} (h : ChipAt w g s) (on lim : Bool) (bud : Nat) :
    ChipAt (((w.setCell ⟨g, 49980, none⟩ (.bool on)).setCell ⟨g, 49981, none⟩ (.bool lim)).setCell ⟨g, 49982, none⟩ (.int .i64 bud)) g { s with on := on, lim := lim, bud := bud } :=
  Sto.ext (Sto.setCells [.bool on, .bool lim, .int .i64 bud] 49980 h) (fun i hi => ccell_setPw s on lim bud i hi)
theorem ChipAt.setBud {w : World} {g : Nat} {s : Chp} (h : ChipAt w g s) (bud : Nat) : ChipAt (w.setCell ⟨g, 49982, none⟩ (.int .i64 bud)) g { s with bud := bud } :=
  Sto.ext (Sto.setCell h 49982 _) (fun i hi => ccell_setBud s bud i hi)
theorem ChipAt.setLim {w : World} {g : Nat} {s : Chp} (h : ChipAt w g s) (lim : Bool) : ChipAt (w.setCell ⟨g, 49981, none⟩ (.bool lim)) g { s with lim := lim } :=
  Sto.ext (Sto.setCell h 49981 _) (fun i hi => ccell_setLim s lim i hi)
theorem ChipAt.setSteps {w : World} {g : Nat} {s : Chp} (h : ChipAt w g s) (n : Int) : ChipAt (w.setCell ⟨g, 49983, none⟩ (.int .i64 n)) g { s with steps := n } :=
  Sto.ext (Sto.setCell h 49983 _) (fun i hi => ccell_setSteps s n i hi)
theorem Chg.at (g : Nat) {u w : World} (h : Chg (· = g) u w) (o : Nat) (v : Value) : Chg (· = g) u (w.setCell ⟨g, o, none⟩ v) := h.setCell (Or.inl rfl) o v

theorem on_any (g : Nat) (s : Chp) (w : World) (h : ChipAt w g s) : Calls Try.prog 15 #[.pointer (some ⟨g, 0, none⟩)] w fun e w' => e = .returned (.bool s.on) ∧ w' = w := by
  have c := h.on
  go_enter Try.func15, Try.ntmps15
  go_wp2
  go_ret
  exact ⟨rfl, rfl⟩
theorem steps_any (g : Nat) (s : Chp) (w : World) (h : ChipAt w g s) : Calls Try.prog 20 #[.pointer (some ⟨g, 0, none⟩)] w fun e w' => e = .returned (.int .i64 s.steps) ∧ w' = w := by
  have c := h.steps
  go_enter Try.func20, Try.ntmps20
  go_wp2
  go_ret
  exact ⟨rfl, rfl⟩
/-- The power is on, without a budget. -/
def onS (s : Chp) : Chp := { s with on := true, lim := false, bud := 0 }
/-- The power is off. -/
def offS (s : Chp) : Chp := { s with on := false, lim := false, bud := 0 }
theorem power_any (g : Nat) (s : Chp) (w : World) (h : ChipAt w g s) : Calls Try.prog 21 #[.pointer (some ⟨g, 0, none⟩)] w fun e w' => e = .returned (.tuple #[]) ∧ ChipAt w' g (onS s) ∧ Chg (· = g) w w' := by
  have c1 := h.on
  have c2 := h.lim
  have c3 := h.bud
  have f1 := h.frozen
  have hC := h.setPw true false 0
  have hG := (((Chg.refl (· = g) w).at g 49980 (.bool true)).at g 49981 (.bool false)).at g 49982 (.int .i64 0)
  go_enter Try.func21, Try.ntmps21
  go_wp2
  go_end0
  exact ⟨rfl, hC, hG⟩
/-- A step was counted. -/
def goS (s : Chp) : Chp := { s with bud := if s.lim then s.bud - 1 else s.bud, steps := wrap64 (s.steps + 1) }
theorem step_cut (g : Nat) (s : Chp) (w : World) (h : ChipAt w g s) (hl : s.lim = true) (hb : s.bud = 0) : Calls Try.prog 47 #[.pointer (some ⟨g, 0, none⟩)] w fun e w' => e = .returned (.bool false) ∧ ChipAt w' g (offS s) ∧ Chg (· = g) w w' := by
  have c1 := h.on
  have c2 := h.lim
  have c3 := h.bud
  have f1 := h.frozen
  rw [hl] at c2
  rw [hb] at c3
  have hC := h.setPw false false 0
  have hG := (((Chg.refl (· = g) w).at g 49980 (.bool false)).at g 49981 (.bool false)).at g 49982 (.int .i64 0)
  clear hl hb
  go_enter Try.func47, Try.ntmps47
  go_wp2
  go_ret
  exact ⟨rfl, hC, hG⟩
theorem step_free (g : Nat) (s : Chp) (w : World) (h : ChipAt w g s) (hl : s.lim = false) : Calls Try.prog 47 #[.pointer (some ⟨g, 0, none⟩)] w fun e w' => e = .returned (.bool true) ∧ ChipAt w' g (goS s) ∧ Chg (· = g) w w' := by
  have c2 := h.lim
  have c3 := h.bud
  have c4 := h.steps
  have f1 := h.frozen
  rw [hl] at c2
  have hC := h.setSteps (wrap64 (s.steps + 1))
  have hG := (Chg.refl (· = g) w).at g 49983 (.int .i64 (wrap64 (s.steps + 1)))
  have e : goS s = { s with steps := wrap64 (s.steps + 1) } := by simp [goS, hl]
  have HE := hyd e
  clear hl e
  go_enter Try.func47, Try.ntmps47
  go_wp2
  go_ret
  rw [HE.out]
  exact ⟨rfl, hC, hG⟩
theorem step_paid (g : Nat) (s : Chp) (w : World) (hs : s.Ok) (h : ChipAt w g s) (hl : s.lim = true) (hb : s.bud ≠ 0) : Calls Try.prog 47 #[.pointer (some ⟨g, 0, none⟩)] w fun e w' => e = .returned (.bool true) ∧ ChipAt w' g (goS s) ∧ Chg (· = g) w w' := by
  have c2 := h.lim
  have c3 := h.bud
  have c4 := h.steps
  have f1 := h.frozen
  rw [hl] at c2
  have hC := (h.setBud (s.bud - 1)).setSteps (wrap64 (s.steps + 1))
  have hG := ((Chg.refl (· = g) w).at g 49982 (.int .i64 (s.bud - 1 : Nat))).at g 49983 (.int .i64 (wrap64 (s.steps + 1)))
  have e : goS s = { s with bud := s.bud - 1, steps := wrap64 (s.steps + 1) } := by simp [goS, hl]
  have HE := hyd e
  have hbu := hs.bud
  have h0 : ((s.bud : Int) == 0) = false := beq_eq_false_iff_ne.2 (by omega)
  have HI : Hid ((s.bud : Int) - 1 = ((s.bud - 1 : Nat) : Int)) := by show _ = _; omega
  clear hl e
  go_enter Try.func47, Try.ntmps47
  go_wp2
  go_ret
  rw [HE.out, HI.out]
  exact ⟨rfl, hC, hG⟩
theorem blc0 {s : Chp} {b : Nat} (hb : b < 12) : ccell s (49920 + 4 * b) = .bool (s.bl b).failed := ccell_bl s b hb 0 _ rfl
theorem blc1 {s : Chp} {b : Nat} (hb : b < 12) : ccell s (49920 + 4 * b + 1) = .bool (s.bl b).wf := ccell_bl s b hb 1 _ rfl
theorem blc2 {s : Chp} {b : Nat} (hb : b < 12) : ccell s (49920 + 4 * b + 2) = .int .i64 (s.bl b).ahead := ccell_bl s b hb 2 _ rfl
theorem blc3 {s : Chp} {b : Nat} (hb : b < 12) : ccell s (49920 + 4 * b + 3) = .bool (s.bl b).ef := ccell_bl s b hb 3 _ rfl
theorem up_blc {s : Chp} {b : Nat} (hb : b < 12) (x : Blo) (hr : x.reads = (s.bl b).reads) (j : Nat) (hj : j < 4) (v : Value) (hv : (blc (s.bl b)).set j v = blc x) (i : Nat) : upL (ccell s) (49920 + 4 * b + j) [v] i = ccell (s.setBl b x) i := by
  rw [← ccell_setBl s b hb x hr i, ← hv, upL_one]
  unfold upL
  have hl : ((blc (s.bl b)).set j v).length = 4 := by simp [blc]
  rw [hl]
  by_cases e : i = 49920 + 4 * b + j
  · subst e
    rw [if_pos rfl, if_pos (by omega), show 49920 + 4 * b + j - (49920 + 4 * b) = j from by omega, List.getD_eq_getElem?_getD, List.getElem?_set_self (by simp [blc]; exact hj)]; rfl
  · rw [if_neg e]
    by_cases h : 49920 + 4 * b ≤ i ∧ i < 49920 + 4 * b + 4
    · rw [if_pos h, List.getD_eq_getElem?_getD, List.getElem?_set_ne (by omega), List.getElem?_eq_getElem (by simp [blc]; omega)]
      have := ccell_bl s b hb (i - (49920 + 4 * b)) _ (List.getElem?_eq_getElem (by simp [blc]; omega))
      rw [show 49920 + 4 * b + (i - (49920 + 4 * b)) = i from by omega] at this
      rw [this]; rfl
    · rw [if_neg h]
theorem setBl_self (s : Chp) (b : Nat) : s.setBl b (s.bl b) = s := by
  cases s
  simp only [Chp.setBl, Chp.mk.injEq, and_true, true_and]
  funext j
  by_cases e : j = b
  · rw [if_pos e, e]
  · rw [if_neg e]
theorem ChipAt.setBl1 {w : World} {g : Nat} {s : Chp} (h : ChipAt w g s) {b : Nat} (hb : b < 12) (x : Blo) (hr : x.reads = (s.bl b).reads) (j : Nat) (hj : j < 4) (v : Value) (hv : (blc (s.bl b)).set j v = blc x) :
    ChipAt (w.setCell ⟨g, 49920 + 4 * b + j, none⟩ v) g (s.setBl b x) := Sto.ext (Sto.setCell h _ v) (fun i _ => up_blc hb x hr j hj v hv i)
theorem setBl_setBl (s : Chp) (b : Nat) (x y : Blo) : (s.setBl b x).setBl b y = s.setBl b y := by
  simp only [Chp.setBl, Chp.mk.injEq, and_true, true_and]
  funext j
  by_cases e : j = b
  · rw [if_pos e, if_pos e]
  · rw [if_neg e, if_neg e, if_neg e]
theorem setBl_bl (s : Chp) (b : Nat) (x : Blo) : (s.setBl b x).bl b = x := by simp [Chp.setBl]
/-- A block at a write. -/
def failW (x : Blo) : Blo := { x with failed := x.failed || (x.wf && decide (x.ahead = 0)), ahead := x.ahead - 1 }
/-- A block at an erase. -/
def failE (x : Blo) : Blo := { x with failed := x.failed || x.ef }
set_option maxHeartbeats 1000000 in
theorem failsAtWrite_any (g b : Nat) (hb : b < 12) (s : Chp) (hs : s.Ok) (w : World) (h : ChipAt w g s) :
    Calls Try.prog 48 #[.pointer (some ⟨g, 49920 + 4 * b, none⟩)] w fun e w' => e = .returned (.bool (failW (s.bl b)).failed) ∧ ChipAt w' g (s.setBl b (failW (s.bl b))) ∧ Chg (· = g) w w' := by
  have c0 := Sto.cell h (49920 + 4 * b) (by omega)
  have c1 := Sto.cell h (49920 + 4 * b + 1) (by omega)
  have c2 := Sto.cell h (49920 + 4 * b + 2) (by omega)
  rw [blc0 hb] at c0
  rw [blc1 hb] at c1
  rw [blc2 hb] at c2
  have f0 := Sto.frozen h (49920 + 4 * b)
  have f2 := Sto.frozen h (49920 + 4 * b + 2)
  have hx := hs.bl b
  have hr0 := h.setBl1 hb { s.bl b with failed := true } rfl 0 (by omega) (.bool true) (by simp [blc])
  have hr2 := h.setBl1 hb { s.bl b with ahead := (s.bl b).ahead - 1 } rfl 2 (by omega) (.int .i64 ((s.bl b).ahead - 1 : Nat)) (by simp [blc])
  have hw0 := setBl_self s b
  rw [Nat.add_zero] at hr0
  generalize hbl : s.bl b = x at *
  clear hbl
  have HO := hyd hs
  clear hs
  have hG0 := (Chg.refl (· = g) w).at g (49920 + 4 * b) (.bool true)
  have hG2 := (Chg.refl (· = g) w).at g (49920 + 4 * b + 2) (.int .i64 (x.ahead - 1 : Nat))
  generalize 49920 + 4 * b = o at *
  obtain ⟨fa, wf, ah, ef, rd⟩ := x
  simp only at *
  cases wf with
  | true =>
    by_cases h0 : ah = 0
    · subst h0
      have e : failW ⟨fa, true, 0, ef, rd⟩ = ⟨true, true, 0, ef, rd⟩ := by simp [failW]
      rw [e]
      clear e hr2 hw0 hG2 hx
      go_enter Try.func48, Try.ntmps48
      go_wp2
      go_ret
      exact ⟨rfl, hr0, hG0⟩
    · have e : failW ⟨fa, true, ah, ef, rd⟩ = ⟨fa, true, ah - 1, ef, rd⟩ := by simp [failW, h0]
      rw [e]
      have h1 : ((ah : Int) == 0) = false := beq_eq_false_iff_ne.2 (by omega)
      have hah := hx.ahead
      simp only at hah
      have HI : Hid ((ah : Int) - 1 = ((ah - 1 : Nat) : Int)) := by show _ = _; omega
      have h3 : (0 : Int) < (ah : Int) := by omega
      clear e hr0 hw0 hG0 hx
      go_enter Try.func48, Try.ntmps48
      go_wp2
      go_ret
      rw [HI.out]
      exact ⟨rfl, hr2, hG2⟩
  | false =>
    have h0 := hx.none rfl
    simp only at h0
    subst h0
    have e : failW ⟨fa, false, 0, ef, rd⟩ = ⟨fa, false, 0, ef, rd⟩ := by simp [failW]
    rw [e, hw0]
    clear e hr0 hr2 hw0 hG0 hG2 hx
    go_enter Try.func48, Try.ntmps48
    go_wp2
    go_ret
    exact ⟨rfl, h, Chg.refl _ _⟩
set_option maxHeartbeats 1000000 in
theorem failsAtErase_any (g b : Nat) (hb : b < 12) (s : Chp) (w : World) (h : ChipAt w g s) :
    Calls Try.prog 52 #[.pointer (some ⟨g, 49920 + 4 * b, none⟩)] w fun e w' => e = .returned (.bool (failE (s.bl b)).failed) ∧ ChipAt w' g (s.setBl b (failE (s.bl b))) ∧ Chg (· = g) w w' := by
  have c0 := Sto.cell h (49920 + 4 * b) (by omega)
  have c3 := Sto.cell h (49920 + 4 * b + 3) (by omega)
  rw [blc0 hb] at c0
  rw [blc3 hb] at c3
  have f0 := Sto.frozen h (49920 + 4 * b)
  have hr0 := h.setBl1 hb (failE (s.bl b)) rfl 0 (by omega) (.bool (failE (s.bl b)).failed) (by simp [blc, failE])
  rw [Nat.add_zero] at hr0
  have hG0 := (Chg.refl (· = g) w).at g (49920 + 4 * b) (.bool (failE (s.bl b)).failed)
  have HF : Hid ((failE (s.bl b)).failed = ((s.bl b).failed || (s.bl b).ef)) := rfl
  generalize failE (s.bl b) = y at *
  rw [HF.out] at hr0 hG0 ⊢
  generalize s.bl b = x at *
  generalize 49920 + 4 * b = o at *
  obtain ⟨fa, wf, ah, ef, rd⟩ := x
  clear HF
  simp only at *
  cases fa with
  | true =>
    go_enter Try.func52, Try.ntmps52
    go_wp2
    go_ret
    exact ⟨rfl, hr0, hG0⟩
  | false =>
    rw [Bool.false_or] at hr0 hG0 ⊢
    go_enter Try.func52, Try.ntmps52
    go_wp2
    go_ret
    exact ⟨rfl, hr0, hG0⟩
end Go.Proofs.Ytfjgnplplafniaa
