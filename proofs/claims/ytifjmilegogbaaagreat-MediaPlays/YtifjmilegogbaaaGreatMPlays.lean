/-
  MediaPlays: any script on a chip and its media. Conditions: the script lies in memory.
-/
import Derived.Test.YtifjmilegogbaaaGreatMStepO
namespace Go.Proofs.YtifjmilegogbaaaGreat
open Go.RowKit
set_option maxRecDepth 100000
set_option linter.unusedVariables false

/-- An operation. -/
structure Opd where
  K : Int
  A : Int
  B : Int
  tp : Int
  tf : Int
  ts : Int
  tc : Int
  tl : Bool
  f : Nat
structure Opd.Ok (o : Opd) : Prop where
  k : -9223372036854775808 ≤ o.K ∧ o.K ≤ 9223372036854775807
  a : o.A ≤ 9223372036854775807
  b : o.B ≤ 9223372036854775807
  f : o.f < 256
/-- The nine cells of an operation. -/
def OpAt (w : World) (g o : Nat) (x : Opd) : Prop :=
  w.cell? ⟨g, o, none⟩ = some (.int .i64 x.K) ∧ w.cell? ⟨g, o + 1, none⟩ = some (.int .i64 x.A) ∧ w.cell? ⟨g, o + 2, none⟩ = some (.int .i64 x.B) ∧ w.cell? ⟨g, o + 3, none⟩ = some (.int .i64 x.tp) ∧ w.cell? ⟨g, o + 4, none⟩ = some (.int .i64 x.tf) ∧ w.cell? ⟨g, o + 5, none⟩ = some (.int .i64 x.ts) ∧ w.cell? ⟨g, o + 6, none⟩ = some (.int .i64 x.tc) ∧ w.cell? ⟨g, o + 7, none⟩ = some (.bool x.tl) ∧ w.cell? ⟨g, o + 8, none⟩ = some (.int .u8 (x.f : Nat))
theorem OpAt.chg {w w' : World} {g o : Nat} {x : Opd} (h : OpAt w g o x) (hc : Chg (fun _ => False) w w') (hg : g < w.heap.size) : OpAt w' g o x := by
  obtain ⟨h0, h1, h2, h3, h4, h5, h6, h7, h8⟩ := h
  exact ⟨(hc.cell hg (fun f => f) _).trans h0, (hc.cell hg (fun f => f) _).trans h1, (hc.cell hg (fun f => f) _).trans h2, (hc.cell hg (fun f => f) _).trans h3, (hc.cell hg (fun f => f) _).trans h4, (hc.cell hg (fun f => f) _).trans h5, (hc.cell hg (fun f => f) _).trans h6, (hc.cell hg (fun f => f) _).trans h7, (hc.cell hg (fun f => f) _).trans h8⟩
/-- A script that came in. -/
def IsOps (w : World) (a : Option Addr) (len : Nat) (O : Nat → Opd) : Prop :=
  (∀ i, i < len → (O i).Ok) ∧ (len = 0 ∨ ∃ g o, a = some ⟨g, o, none⟩ ∧ g < w.heap.size ∧ ∀ i, i < len → OpAt w g (o + i * 9) (O i))
theorem build30 (w : World) (a : Int) : (Instr.build 30 #[(0, .int .i64 1), (1, .int .i64 a)]).run Tryz.prog w = .ok (.agg #[.int .i64 1, .int .i64 a, .int .i64 0, .int .i64 0, .int .i64 0, .int .i64 0, .int .i64 0, .bool false, .int .u8 0]) w := by kernel_rfl
theorem Bst.start (w w1 w2 : World) (t c m p q b R rr lo hi : Nat) (G1 : Chg (fun _ => False) w w1) (B : Bth w2 t c m R) (M : Med w2 m c p q b 0) (C : ChipAt w2 c newS) (D : RMd w2 R rr 0) (E : RefAt w2 rr newS (fun k => lo ≤ k ∧ k < hi))
    (hl : w1.heap.size ≤ c ∧ w1.heap.size ≤ m ∧ w1.heap.size ≤ p ∧ w1.heap.size ≤ q ∧ w1.heap.size ≤ b) (hh : c < lo ∧ m < lo ∧ p < lo ∧ q < lo ∧ b < lo) (hR : R = hi) (ht : t = hi + 1) (hlh : lo ≤ hi) (G2 : Chg (fun _ => False) w1 w2) : Bst w w2 t c m p q b R rr (fun k => lo ≤ k ∧ k < hi) newS 0 newS 0 := by
  have h1 := G1.size
  have h2 := D.lt
  exact ⟨B, M, C, newS_ok, newS_ok, D, E, fun k hk => by omega, by omega, by omega, G1.trans G2⟩
theorem RefAt.stepsC {w : World} {r : Nat} {s : Chp} {F : Nat → Prop} (h : RefAt w r s F) : w.cell? ⟨r, 3, none⟩ = some (.int .i64 s.steps) := by
  obtain ⟨p, h⟩ := h
  exact h.top.cell 3 (by omega)
set_option maxHeartbeats 16000000 in
theorem plays_walk (a : Option Addr) (len cap : Nat) (O : Nat → Opd) (w : World) (hO : IsOps w a len O) (hlen : len < 9223372036854775808) :
    Calls Tryz.prog 3 #[.slice a len cap] w fun e w' => e = .returned (.bool true) ∧ Below w.heap.size w w' := by
  have q1 := neq_nil_nil
  have hb30 := build30
  have HO := hyd hO
  clear hO
  go_enter Tryz.func3, Tryz.ntmps3
  go_wp2_with fail
  refine (shown_any _).mono ?_
  rintro x w1 ⟨rfl, G1⟩
  have HG1 := hyd G1
  clear G1
  go_wp2_with fail
  refine (begun_any w1).mono ?_
  rintro x w2 ⟨t, c, m, p, q, b, R, rr, lo, hi, rfl, hB, hM, hC, hD, hE, hl, hh, hR, ht, hlh, G2⟩
  have HS2 := hyd (Bst.start w w1 w2 t c m p q b R rr lo hi HG1.out hB hM hC hD hE hl hh hR ht hlh G2)
  clear hB hM hC hD hE hl hh hR ht hlh G2 HG1
  go_wp2_with fail
  go_loopw [5] (fun t5 wr => ∃ (i : Nat) (F : Nat → Prop) (s : Chp) (r : Int), i ≤ len ∧ t5 = .int .i64 i ∧ Bst w wr t c m p q b R rr F s r s r) (fun t5 _ => len - (intOf t5).toNat)
  case atStart => exact ⟨0, _, _, _, by omega, rfl, HS2.out⟩
  case round =>
    clear HS2
    obtain ⟨i, F, s, r, hi, rfl, hS⟩ := hrel
    by_cases hlt : i < len
    · have hl1 : (i : Int) < (len : Int) := by omega
      have hl0 : (0 : Int) ≤ (i : Int) := by omega
      obtain ⟨hok, hc⟩ := HO.out
      rcases hc with hc | ⟨qa, oa, rfl, hqa, hc⟩
      · omega
      obtain ⟨x0, x1, x2, x3, x4, x5, x6, x7, x8⟩ := (hc i hlt).chg hS.chg hqa
      have hoi := hok i hlt
      have hstep := stepOp w t c m p q b R rr F s r (O i).K (O i).A (O i).B (O i).tp (O i).tf (O i).ts (O i).tc (O i).tl (O i).f wr hS hoi.k hoi.a hoi.b hoi.f
      generalize O i = oi at *
      clear hok hc hS hoi
      go_wp2_with fail
      refine hstep.mono ?_
      rintro x w3 ⟨rfl, F3, s3, r3, S3⟩
      have HS3 := hyd S3
      clear hstep S3 x0 x1 x2 x3 x4 x5 x6 x7 x8
      go_wp2
      exact ⟨⟨i + 1, F3, s3, r3, by omega, by go_num, HS3.out⟩, by simp [intOf]; omega⟩
    · have hl1 : ¬ (i : Int) < (len : Int) := by omega
      have HS := hyd hS
      clear hS
      go_wp2_with fail
      go_loopw [7] (fun t7 wr => ∃ k : Nat, k ≤ 12 ∧ t7 = .int .i64 k ∧ Bst w wr t c m p q b R rr F s r s r) (fun t7 _ => 12 - (intOf t7).toNat)
      case atStart => exact ⟨0, by omega, rfl, HS.out⟩
      case round =>
        clear HS
        obtain ⟨k, hk, rfl, hS⟩ := hrel
        by_cases hk2 : k < 12
        · have hk1 : (k : Int) < 12 := by omega
          obtain ⟨t0, t1, t2⟩ := hS.bth.cells
          have h1 := reads_v c s (k : Nat) wr hS.chip
          have e1 : rdsV s (k : Nat) = ((s.bl k).reads, 0) := by
            unfold rdsV
            rw [if_pos (by omega), Int.toNat_natCast]
          have e2 : fldV s (k : Nat) = ((s.bl k).failed, 0) := by
            unfold fldV
            rw [if_pos (by omega), Int.toNat_natCast]
          rw [e1] at h1
          have HE1 := hyd e1
          have HE2 := hyd e2
          have HS := hyd hS
          clear hS e1 e2
          go_wp2_with fail
          refine h1.mono ?_
          rintro x w3 ⟨rfl, G3⟩
          have S3 := HS.out.still G3
          obtain ⟨t0, t1, t2⟩ := S3.bth.cells
          obtain ⟨R0, R1⟩ := S3.rmd.cells
          have h2 := rreads_v rr s F (k : Nat) w3 S3.ref
          rw [HE1.out] at h2
          have HS3 := hyd S3
          clear h1 G3 S3 HS
          rw [nerrV_zero]
          go_wp2_with fail
          refine h2.mono ?_
          rintro x w4 ⟨rfl, G4⟩
          have S4 := HS3.out.still G4
          obtain ⟨t0, t1, t2⟩ := S4.bth.cells
          have h3 := failed_v c s (k : Nat) w4 S4.chip
          rw [HE2.out] at h3
          have HS4 := hyd S4
          clear h2 G4 S4 HS3 R0 R1
          go_wp2_with fail
          refine h3.mono ?_
          rintro x w5 ⟨rfl, G5⟩
          have S5 := HS4.out.still G5
          obtain ⟨t0, t1, t2⟩ := S5.bth.cells
          obtain ⟨R0, R1⟩ := S5.rmd.cells
          have h4 := rfailed_v rr s F (k : Nat) w5 S5.ref
          rw [HE2.out] at h4
          have HS5 := hyd S5
          clear h3 G5 S5 HS4
          rw [nerrV_zero]
          go_wp2_with fail
          refine h4.mono ?_
          rintro x w6 ⟨rfl, G6⟩
          have HS6 := hyd (HS5.out.still G6)
          clear h4 G6 HS5 R0 R1 t0 t1 t2
          generalize (s.bl k).reads = rd
          generalize (s.bl k).failed = fd
          have n1 : ((rd : Int) != rd) = false := by simp
          have n2 : (fd != fd) = false := by cases fd <;> rfl
          go_wp2
          exact ⟨⟨k + 1, by omega, by go_num, HS6.out⟩, by simp [intOf]; omega⟩
        · obtain rfl : k = 12 := by omega
          obtain ⟨t0, t1, t2⟩ := hS.bth.cells
          obtain ⟨R0, R1⟩ := hS.rmd.cells
          have r3 := hS.ref.stepsC
          have hst := steps_any c s wr.drew hS.drew.chip
          have HS := hyd hS
          clear hS
          go_wp2_with fail
          go_region_held3 (fun wx => wx.cell? ⟨t, 0, none⟩ = some (.pointer (some ⟨c, 0, none⟩)) ∧ wx.cell? ⟨t, 2, none⟩ = some (.pointer (some ⟨R, 0, none⟩)) ∧ wx.cell? ⟨R, 0, none⟩ = some (.pointer (some ⟨rr, 0, none⟩)) ∧ wx.cell? ⟨rr, 3, none⟩ = some (.int .i64 s.steps))
            (first | exact ⟨t0, t2, R0, r3⟩)
            (first
              | (go_at_call 14; refine hst.mono ?_; rintro x w3 ⟨rfl, rfl⟩))
          have HS3 := hyd HS.out.drew
          obtain ⟨t0, t1, t2⟩ := HS3.out.bth.cells
          have heq : ((s.steps : Int) == s.steps) = true := by simp
          have h5 := power_any c s wr.drew HS3.out.chip
          clear hst HS R0 R1 r3
          go_wp2_with fail
          refine h5.mono ?_
          rintro x w4 ⟨rfl, C4, G4⟩
          have S4 := HS3.out.chip' C4 HS3.out.ok.onn G4
          obtain ⟨t0, t1, t2⟩ := S4.bth.cells
          obtain ⟨R0, R1⟩ := S4.rmd.cells
          have h6 := again_any rr s F w4 S4.ref
          have HS4 := hyd S4
          clear h5 C4 G4 S4 HS3
          go_wp2_with fail
          refine h6.mono ?_
          rintro x w5 ⟨rfl, R5, G5⟩
          have HS5 := hyd (HS4.out.chipd (x' := onS s) (RefAt.mono' R5 (fun k _ hk => Or.inl hk)) HS4.out.okx.onn G5)
          clear h6 R5 G5 HS4 R0 R1 t0 t1 t2
          generalize grow F w4 w5 = F5 at *
          generalize onS s = s5 at *
          go_wp2_with fail
          go_loopw [17, 18] (fun t17 t18 wr => ∃ (i : Nat) (F : Nat → Prop) (s : Chp) (r : Int), i ≤ 20 ∧ t17 = .int .i64 i ∧ Bst w wr t c m p q b R rr F s r s r) (fun t17 _ _ => 20 - (intOf t17).toNat)
          case atStart => exact ⟨0, _, _, _, by omega, rfl, HS5.out⟩
          case round =>
            clear HS5
            obtain ⟨i, F, s, r, hi, rfl, hS⟩ := hrel
            by_cases hlt : i < 20
            · have hl1 : (i : Int) < 20 := by omega
              by_cases h16 : i < 16
              · have h16' : ¬ (16 : Int) ≤ (i : Int) := by omega
                have hstep := stepOp w t c m p q b R rr F s r 1 (i : Nat) 0 0 0 0 0 false 0 wr hS (by omega) (by omega) (by omega) (by omega)
                clear hS
                go_wp2_with fail
                refine hstep.mono ?_
                rintro x w3 ⟨rfl, F3, s3, r3, S3⟩
                have HS3 := hyd S3
                clear hstep S3
                go_wp2
                exact ⟨⟨i + 1, F3, s3, r3, by omega, by go_num, HS3.out⟩, by simp [intOf]; omega⟩
              · have h16' : (16 : Int) ≤ (i : Int) := by omega
                have hstep := stepOp w t c m p q b R rr F s r 1 (95 - 23 * ((i : Int) - 16)) 0 0 0 0 0 false 0 wr hS (by omega) (by omega) (by omega) (by omega)
                clear hS
                go_wp2_with fail
                refine hstep.mono ?_
                rintro x w3 ⟨rfl, F3, s3, r3, S3⟩
                have HS3 := hyd S3
                clear hstep S3
                go_wp2
                exact ⟨⟨i + 1, F3, s3, r3, by omega, by go_num, HS3.out⟩, by simp [intOf]; omega⟩
            · obtain rfl : i = 20 := by omega
              have HS := hyd hS
              clear hS
              go_wp2_with fail
              go_loopw [20] (fun t20 wr => ∃ (i : Nat) (F : Nat → Prop) (s : Chp) (r : Int), i ≤ len ∧ t20 = .int .i64 i ∧ Bst w wr t c m p q b R rr F s r s r) (fun t20 _ => len - (intOf t20).toNat)
              case atStart => exact ⟨0, _, _, _, by omega, rfl, HS.out⟩
              case round =>
                clear HS
                obtain ⟨i, F, s, r, hi, rfl, hS⟩ := hrel
                by_cases hlt : i < len
                · have hl1 : (i : Int) < (len : Int) := by omega
                  have hl0 : (0 : Int) ≤ (i : Int) := by omega
                  obtain ⟨hok, hc⟩ := HO.out
                  rcases hc with hc | ⟨qa, oa, rfl, hqa, hc⟩
                  · omega
                  obtain ⟨x0, x1, -⟩ := (hc i hlt).chg hS.chg hqa
                  have hoi := hok i hlt
                  have hstep := stepOp w t c m p q b R rr F s r 1 (O i).A 0 0 0 0 0 false 0 wr hS (by omega) hoi.a (by omega) (by omega)
                  generalize O i = oi at *
                  clear hok hc hS hoi
                  go_wp2_with fail
                  refine hstep.mono ?_
                  rintro x w3 ⟨rfl, F3, s3, r3, S3⟩
                  have HS3 := hyd S3
                  clear hstep S3 x0 x1
                  go_wp2
                  refine ⟨?_, by simp [intOf]; omega⟩
                  repeat apply Exists.intro
                  exact ⟨⟨i + 1, F3, s3, r3, by omega, by go_num, HS3.out⟩, rfl⟩
                · have hl1 : ¬ (i : Int) < (len : Int) := by omega
                  obtain ⟨t0, t1, t2⟩ := hS.bth.cells
                  obtain ⟨R0, R1⟩ := hS.rmd.cells
                  have hrd := mreads_any m c p q b r wr.drew hS.drew.med
                  have heq : ((r : Int) == r) = true := by simp
                  have HS := hyd hS
                  clear hS
                  go_wp2_with fail
                  go_region_held3 (fun wx => wx.cell? ⟨t, 1, none⟩ = some (.pointer (some ⟨m, 0, none⟩)) ∧ wx.cell? ⟨t, 2, none⟩ = some (.pointer (some ⟨R, 0, none⟩)) ∧ wx.cell? ⟨R, 1, none⟩ = some (.int .i64 r))
                    (first | exact ⟨t1, t2, R1⟩)
                    (first
                      | (go_at_call 17; refine hrd.mono ?_; rintro x w3 ⟨rfl, rfl⟩))
                  have HS3 := hyd HS.out.drew
                  clear hrd HS R0 R1 t0 t1 t2
                  go_wp2
                  go_ret
                  exact ⟨rfl, HS3.out.chg.below (fun k f => f.elim) (Nat.le_refl _)⟩
end Go.Proofs.YtifjmilegogbaaaGreat
