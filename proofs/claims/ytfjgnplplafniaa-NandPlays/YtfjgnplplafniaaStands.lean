/-
  (*Two).stands answers true. Condition: both chips stand alike.
-/
import Derived.Test.YtfjgnplplafniaaStep0
namespace Go.Proofs.Ytfjgnplplafniaa
open Go.RowKit
set_option maxRecDepth 100000

/-- Both chips stand alike, and so many bytes came out. -/
def Even (B : Prop) (w0 w : World) (t n : Nat) (σ : Sta) : Prop := Pst B w0 w t σ ∧ σ.xc = σ.sc ∧ σ.nw = σ.nt ∧ σ.nt ≤ n
set_option maxHeartbeats 8000000 in
theorem stands_any (B : Prop) (w0 : World) (t n : Nat) (hb : n ≤ 5864062013000) (w : World) (h : ∃ σ, Even B w0 w t n σ) :
    Calls Try.prog 11 #[.pointer (some ⟨t, 0, none⟩)] w fun e w' => e = .returned (.bool true) ∧ ∃ σ', Even B w0 w' t (n + 12) σ' := by
  have q2 := neq_nil_nil
  have HH := hyd h
  clear h
  go_enter Try.func11, Try.ntmps11
  go_wp2_with fail
  go_loopw [3] (fun t3 wr => ∃ (b : Nat) (σ : Sta), b ≤ 12 ∧ t3 = .int .i64 b ∧ Even B w0 wr t (n + b) σ) (fun t3 _ => 12 - (intOf t3).toNat)
  case atStart =>
    obtain ⟨σ, hE⟩ := HH.out
    exact ⟨0, σ, by omega, rfl, hE⟩
  case round =>
    clear HH
    obtain ⟨b, σ, hbl, rfl, hE⟩ := hrel
    by_cases hlt : b < 12
    · have hb0 : (0 : Int) ≤ (b : Int) := by omega
      have hb1 : (b : Int) < 12 := by omega
      have HE := hyd hE
      clear hE
      go_wp2_with fail
      go_loopw [4] (fun t4 wx => ∃ (r : Nat) (σ : Sta), r ≤ 8 ∧ t4 = .int .i64 (8 * b + r : Nat) ∧ Even B w0 wx t (n + b) σ) (fun t4 _ => (8 * b + 8) - (intOf t4).toNat)
      case atStart => exact ⟨0, σ, by omega, by go_num; try omega, HE.out⟩
      case round =>
        clear HE
        obtain ⟨r, σ1, hr, rfl, hE⟩ := hrel
        by_cases hrl : r < 8
        · have hr0 : ((8 * b + r : Nat) : Int) < 8 * (b : Int) + 8 := by omega
          have hat : 8 * b + r < 96 := by omega
          have HE := hyd hE
          clear hE
          generalize hna : 8 * b + r = na at *
          have HNA := hyd hna
          clear hna
          go_wp2_with fail
          go_loopw [5] (fun t5 wy => ∃ (k : Nat) (σ : Sta), k ≤ 4 ∧ t5 = .int .i64 k ∧ Even B w0 wy t (n + b) σ) (fun t5 _ => 4 - (intOf t5).toNat)
          case atStart => exact ⟨0, σ1, by omega, rfl, HE.out⟩
          case round =>
            clear HE
            obtain ⟨k, σ2, hk, rfl, hE⟩ := hrel
            by_cases hkl : k < 4
            · have hk0 : (0 : Int) ≤ (k : Int) := by omega
              have hk1 : (k : Int) < 4 := by omega
              obtain ⟨h, hx, hn, hnt⟩ := hE
              have k0 := h.cellC
              have k2 := h.cellR
              have tlt : t < wr.heap.size := h.two.lt
              have HH := hyd h
              have HX := hyd hx
              have HN := hyd hn
              have HNT := hyd hnt
              have HR := hyd (hx ▸ h.rc : RefAt wr σ2.r1 σ2.sc (fun k => σ2.col k = 3))
              clear h hx hn hnt
              go_wp2_with fail
              refine (damage_yes σ2.c σ2.sc HH.out.oc na k hat hkl _ HH.out.cc).mono ?_
              rintro e w1 ⟨rfl, G1⟩
              have k21 : w1.cell? ⟨t, 2, none⟩ = some (.pointer (some ⟨σ2.r1, 0, none⟩)) := (World.cell?_of_block (a := ⟨t, 2, none⟩) (G1.block t tlt (fun f => f))).trans k2
              go_wp2_with fail
              refine (rdamage_yes σ2.r1 σ2.sc HH.out.oc _ na k hat hkl _ (HR.out.chg G1 (fun _ _ f => f))).mono ?_
              rintro e w2 ⟨rfl, G2⟩
              have G2' := chgTo G1 G2
              have k02 : w2.cell? ⟨t, 0, none⟩ = some (.pointer (some ⟨σ2.c, 0, none⟩)) := (World.cell?_of_block (a := ⟨t, 0, none⟩) (G2'.block t tlt (fun f => f))).trans k0
              clear G2
              go_wp2_with fail
              refine (truth_yes σ2.c σ2.sc HH.out.oc na k hat hkl _ (HH.out.cc.chg G2' (fun f => f))).mono ?_
              rintro e w3 ⟨rfl, -, G3⟩
              have G3' := chgTo G2' G3
              have k23 : w3.cell? ⟨t, 2, none⟩ = some (.pointer (some ⟨σ2.r1, 0, none⟩)) := (World.cell?_of_block (a := ⟨t, 2, none⟩) (G3'.block t tlt (fun f => f))).trans k2
              clear G3
              go_wp2_with fail
              refine (rtruth_yes σ2.r1 σ2.sc _ na k hat hkl _ (HR.out.chg G3' (fun _ _ f => f))).mono ?_
              rintro e w4 ⟨gt, ct, rfl, -, -, G4⟩
              have G4' := chgTo G3' G4
              clear G4
              have HE4 : Hid (Even B w0 w4 t (n + b) { σ2 with col := paint σ2.col wr w4 0 }) := ⟨HH.out.still G4', HX.out, HN.out, HNT.out⟩
              generalize (σ2.sc.ch (4 * na + k)).is = bb
              have hbb : (bb != bb) = false := by cases bb <;> rfl
              clear HH HX HN HNT HR G1 G2' G3' G4' k0 k2 k21 k02 k23
              go_wp2
              exact ⟨⟨k + 1, _, by omega, by go_num, HE4.out⟩, by simp [intOf]; omega⟩
            · have e4 : k = 4 := by omega
              subst e4
              have HE := hyd hE
              clear hE hkl hk
              go_wp2
              exact ⟨⟨r + 1, σ2, by omega, by rw [← HNA.out]; go_num; try omega, HE.out⟩, by simp [intOf]; have := HNA.out; omega⟩
        · have e8 : r = 8 := by omega
          subst e8
          have hr0 : ¬ ((8 * b + 8 : Nat) : Int) < 8 * (b : Int) + 8 := by omega
          obtain ⟨h, hx, hn, hnt⟩ := hE
          generalize hna : 8 * b + 8 = na at *
          clear hna hrl hr
          go_wp2_with fail
          refine (knows_any B w0 t σ1 b 0 _ h hx hn (by omega)).mono ?_
          rintro e w1 ⟨rfl, σ3, h3, hx3, hn3, hnt3⟩
          have HE3 : Hid (Even B w0 w1 t (n + (b + 1)) σ3) := ⟨h3, hx3, hn3, by omega⟩
          clear h hx hn hnt h3 hx3 hn3 hnt3
          go_wp2
          exact ⟨⟨b + 1, σ3, by omega, by go_num, HE3.out⟩, by simp [intOf]; omega⟩
    · have e12 : b = 12 := by omega
      subst e12
      obtain ⟨h, hx, hn, hnt⟩ := hE
      have k0 := h.cellC
      have HX := hyd hx
      have HN := hyd hn
      have HNT := hyd hnt
      have HH := hyd h
      clear h hx hn hnt hlt hbl
      go_wp2_with fail
      refine (power_any σ.c σ.sc _ HH.out.cc).mono ?_
      rintro e w2 ⟨rfl, C2, G2⟩
      have P2 := HH.out.prog (onS σ.sc) HH.out.oc.onn C2 G2
      have k2b : w2.cell? ⟨t, 2, none⟩ = some (.pointer (some ⟨σ.r1, 0, none⟩)) := P2.cellR
      have HP2 := hyd P2
      have HR2 := hyd (show RefAt w2 σ.r1 σ.sc (fun k => paint σ.col wr w2 0 k = 3) from HX.out ▸ P2.rc)
      clear P2 C2 G2 k0
      go_wp2_with fail
      refine (again_any σ.r1 σ.sc _ _ HR2.out).mono ?_
      rintro e w3 ⟨rfl, R3, G3⟩
      have HP3 := hyd (HP2.out.ref0 (onS σ.sc) HH.out.oc.onn R3 G3)
      have HE3 : Hid (∃ σ', Even B w0 w3 t (n + 12) σ' ∧ σ'.sc.on = true) := ⟨_, ⟨HP3.out, rfl, HN.out, HNT.out⟩, rfl⟩
      clear R3 G3 HP3 HP2 HR2 HX HN HNT HH k2b
      go_wp2_with fail
      go_loopw [19] (fun t19 wr => ∃ (a : Nat) (σ : Sta), a ≤ 96 ∧ t19 = .int .i64 a ∧ Even B w0 wr t (n + 12) σ ∧ σ.sc.on = true) (fun t19 _ => 96 - (intOf t19).toNat)
      case atStart =>
        obtain ⟨σ', h1, h2⟩ := HE3.out
        exact ⟨0, σ', by omega, rfl, h1, h2⟩
      case round =>
        clear HE3
        obtain ⟨a, σ4, ha, rfl, ⟨h, hx, hn, hnt⟩, hon⟩ := hrel
        by_cases hal : a < 96
        · have ha0 : (0 : Int) ≤ (a : Int) := by omega
          have ha1 : (a : Int) < 96 := by omega
          have k0 := h.cellC
          have HX := hyd hx
          have HN := hyd hn
          have HNT := hyd hnt
          have HON := hyd hon
          have HH := hyd h
          clear h hx hn hnt hon
          go_wp2_with fail
          refine (read_yes σ4.c σ4.sc HH.out.oc a hal _ HH.out.cc HON.out).mono ?_
          rintro e w5 ⟨rfl, A5, C5, G5⟩
          have P5 := HH.out.prog (rdS σ4.sc a) (rdS_ok HH.out.oc a) C5 G5
          have k2b : w5.cell? ⟨t, 2, none⟩ = some (.pointer (some ⟨σ4.r1, 0, none⟩)) := P5.cellR
          have hq : wr.heap.size < w5.heap.size := A5.lt
          have hqc : paint σ4.col wr w5 0 wr.heap.size = 0 := by unfold paint; rw [if_pos (by omega)]
          have HA5 := hyd A5
          have HP5 := hyd P5
          have HR5 := hyd (show RefAt w5 σ4.r1 σ4.sc (fun k => paint σ4.col wr w5 0 k = 3) from HX.out ▸ P5.rc)
          clear P5 C5 G5 k0 A5
          go_wp2_with fail
          refine (rread_yes σ4.r1 σ4.sc HH.out.oc _ a hal _ HR5.out HON.out).mono ?_
          rintro e w6 ⟨v6, rfl, hO6, R6, G6⟩
          have HP6 := hyd (HP5.out.ref0 (rdS σ4.sc a) (rdS_ok HH.out.oc a) R6 G6)
          have hA6 : Arr w6 wr.heap.size 5 (pgTo σ4.sc a 4) := HA5.out.chg G6 (fun e => absurd (hqc.symm.trans e) (by decide))
          have hpl := pgTo_length HH.out.oc a 4
          obtain ⟨a6, c6, rfl⟩ := hO6.slice
          have hv6 : Held w6 (.slice (some ⟨wr.heap.size, 0, none⟩) 256 256) (pgTo σ4.sc a 4) := hA6.heldFull 256 256 (by rw [hpl])
          have HV6 := hyd hv6
          have HO6 := hyd hO6.held
          have HPL := hyd hpl
          clear R6 G6 hA6 hO6 HA5 HP5 HR5 hqc k2b hv6 hpl hq
          go_wp2_with fail
          refine (same_n w6 (some ⟨wr.heap.size, 0, none⟩) a6 256 (pgTo σ4.sc a 4).length 256 c6 (pgTo σ4.sc a 4) (pgTo σ4.sc a 4) (by rw [HPL.out]) rfl HV6.out HO6.out (by rw [HPL.out]; omega) (by rw [HPL.out]; omega)).mono ?_
          rintro e w7 ⟨rfl, G7⟩
          rw [show decide (pgTo σ4.sc a 4 = pgTo σ4.sc a 4) = true from decide_eq_true rfl]
          have HE7 : Hid (∃ σ', Even B w0 w7 t (n + 12) σ' ∧ σ'.sc.on = true) := ⟨_, ⟨HP6.out.still G7, rfl, HN.out, HNT.out⟩, HON.out⟩
          clear HP6 G7 HX HN HNT HON HH HV6 HO6
          go_wp2
          obtain ⟨σ', h1, h2⟩ := HE7.out
          exact ⟨⟨a + 1, σ', by omega, by go_num, h1, h2⟩, by simp [intOf]; omega⟩
        · have HE : Hid (∃ σ', Even B w0 wr t (n + 12) σ') := ⟨σ4, h, hx, hn, hnt⟩
          have e96 : a = 96 := by omega
          subst e96
          clear h hx hn hnt hon
          go_wp2
          go_ret
          exact ⟨rfl, HE.out⟩
end Go.Proofs.Ytfjgnplplafniaa
