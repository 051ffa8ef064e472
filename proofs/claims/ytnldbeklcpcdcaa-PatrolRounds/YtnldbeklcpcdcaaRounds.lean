/-
  PatrolRounds, walked. No condition beside the numbers' own.
-/
import Derived.Test.YtnldbeklcpcdcaaRnd
namespace Go.Proofs.Ytnldbeklcpcdcaa
set_option maxRecDepth 100000
open Go.RowKit

set_option maxHeartbeats 16000000 in
theorem rounds_walk (x y z : Int) (hx : -9223372036854775808 ≤ x ∧ x ≤ 9223372036854775807) (hy : -9223372036854775808 ≤ y ∧ y ≤ 9223372036854775807) (hz : -9223372036854775808 ≤ z ∧ z ≤ 9223372036854775807) (w : World) :
    Calls Try.prog 5 #[.int .i64 x, .int .i64 y, .int .i64 z] w fun e w' => e = .returned (.bool true) ∧ Below w.heap.size w w' := by
  have q := neq_nil
  go_enter Try.func5, Try.ntmps5
  go_wp2_with fail
  refine (up_any _).mono ?_
  rintro e w1 ⟨rfl, G1⟩
  have HG1 := hyd G1
  clear G1
  go_wp2_with fail
  refine (pick_any x hx.1 hx.2 96 (by omega) (by omega) _).mono ?_
  rintro e w1 ⟨⟨a, ha, rfl⟩, rfl⟩
  have HA := hyd ha
  clear ha hx
  go_wp2_with fail
  refine (new_yes w1 a HA.out).mono ?_
  rintro e w2 ⟨rfl, K2, G2⟩
  obtain ⟨p, HP⟩ : ∃ p, Hid (p = w1.heap.size) := ⟨_, rfl⟩
  rw [← HP.out] at K2
  rw [← HP.out]
  have HR := hyd (show Rd w w2 p (oc a 0) 0 from ⟨by rw [oc_zero a HA.out]; exact K2, oc_lt _ _, by have := HG1.out.size; have := HP.out; omega, HG1.out.trans G2⟩)
  clear K2 G2 HG1 HP
  go_wp2_with fail
  refine (pick_any y hy.1 hy.2 30 (by omega) (by omega) _).mono ?_
  rintro e w2 ⟨⟨n, hn, rfl⟩, rfl⟩
  have hnz : (n : Int) < 30 := by omega
  have HN := hyd hn
  clear hn hy
  go_wp2_with fail
  refine (pick_any z hz.1 hz.2 9 (by omega) (by omega) _).mono ?_
  rintro e w2 ⟨⟨k, hk, rfl⟩, rfl⟩
  have hkz : (k : Int) < 9 := by omega
  have HK := hyd hk
  clear hk hz
  go_wp2_with fail
  obtain ⟨base, HB⟩ : ∃ base, Hid (base = w2.heap.size) := ⟨_, rfl⟩
  have HPB := hyd (show p < base by have := HR.out.prog.lt; have := HB.out; omega)
  have HWB := hyd (show w.heap.size ≤ base by have := HR.out.chg.size; have := HB.out; omega)
  have HBS := hyd (show base ≤ w2.heap.size by have := HB.out; omega)
  clear HB
  go_loopg [13, 14] n (fun kx s13 s14 wr => ∃ (i : Nat), s14 = .int .i64 i ∧ i ≤ n ∧ n - i ≤ kx ∧ Hid (Ow wr base s13 (oldL a i)) ∧ Hid (base ≤ wr.heap.size) ∧ Hid (Rd w wr p (oc a i) i))
  case atStart => exact ⟨0, rfl, by omega, by omega, Ow.nil _ _, HBS, HR⟩
  case round =>
  clear HR HBS
  obtain ⟨i, rfl, hin, hkx, HO, HBS, HR⟩ := hrel
  by_cases hlt : i < n
  · have hltz : (i : Int) < (n : Int) := by omega
    have hcu := cursor_any wr p (oc a i) i HR.out.prog
    have HE := hyd (oldL_succ a i)
    have HS := hyd (oc_succ a i)
    have hlen := oldL_length a i
    have HN1 := hyd (show i < 30 by have := HN.out; omega)
    generalize oc a i = c at *
    generalize HM : oc a (i + 1) = c' at *
    have HM := hyd HM
    have O1 := HO.out.new ((Chg.refl (fun _ => False) wr).alloc (.cells #[.int .i64 c] 3))
    have HO1 := hyd O1
    have HB1 : Hid (base ≤ (wr.alloc (.cells #[.int .i64 c] 3)).heap.size) := by have := HBS.out; show _ ≤ _; simp; omega
    have HC1 : Hid ((wr.alloc (.cells #[.int .i64 c] 3)).cell? ⟨wr.heap.size, 0, none⟩ = some (.int .i64 c)) := by show _ = _; simp
    have HR1 := hyd (HR.out.still ((Chg.refl (fun _ => False) wr).alloc (.cells #[.int .i64 c] 3)))
    clear O1
    go_wp2_with fail
    refine hcu.mono ?_
    rintro e wr ⟨rfl, rfl⟩
    clear hcu
    go_wp2_with (first | (refine wpList_append_i _ rfl (.tmp 58) (.tmp 61) rfl base _ (oldL a i) rfl wr.heap.size c rfl ?_ ?_ (by have := HN1.out; omega) ?_ ?_; exact HO1.out; exact HC1.out; exact HB1.out))
    intro v' w3 O3 G3
    have HR3 := hyd (HR1.out.other G3 (fun e => by have := (HO.out.block e).1; have := HPB.out; omega) (fun t ht e => by have := (HO.out.block e).1; have := HWB.out; omega))
    have HB3 := hyd (Nat.le_trans HB1.out G3.size)
    have HO3 := hyd O3
    clear O3 G3 HO1 HB1 HC1 HR1 HO HBS HR
    go_wp2_with fail
    refine (step_v w3 p c i HR3.out.prog HR3.out.hc (by have := HN1.out; omega) c' HS.out).mono ?_
    rintro e w4 ⟨rfl, -, K4, G4⟩
    have HR4 := hyd (HR3.out.step K4 G4 (by rw [HS.out]; exact Nat.mod_lt _ (by decide)))
    have HO4 := hyd (HO3.out.chg G4 (fun t _ e f => by have := (HO3.out.block e).1; have := HPB.out; omega))
    have HB4 := hyd (Nat.le_trans HB3.out G4.size)
    clear K4 G4 HR3 HB3 HO3
    go_wp2
    go_roundg (n - (i + 1))
    case measure => omega
    case rel => exact ⟨i + 1, by simp, by omega, Nat.le_refl _, by show Ow _ _ _ _; rw [HE.out]; exact HO4.out, HB4, by show Rd _ _ _ _ _; rw [HM.out]; exact HR4.out⟩
  · have hltz : ¬ (i : Int) < (n : Int) := by omega
    have hie : i = n := by omega
    subst hie
    obtain ⟨oa, ocap, hov⟩ := HO.out.form
    rw [oldL_length] at hov
    subst hov
    have hcu := cursor_any wr p (oc a i) i HR.out.prog
    obtain ⟨c1, HC1⟩ : ∃ c1, Hid (c1 = oc a i) := ⟨_, rfl⟩
    rw [← HC1.out] at hcu HR
    have HCL := hyd HR.out.hc
    clear hin hkx hlt
    go_wp2_with fail
    refine hcu.mono ?_
    rintro e wr ⟨rfl, rfl⟩
    clear hcu
    go_wp2_with (refine wpList_alloc_row rfl 56 rfl wr.heap.size rfl zero56 ?_)
    intro w5 K5 G5 S5
    obtain ⟨b, HBB⟩ : ∃ b, Hid (b = wr.heap.size) := ⟨_, rfl⟩
    rw [← HBB.out] at K5
    rw [← HBB.out]
    have HI5 := hyd (show IB w5 b 56 96 (sn c1 (8 * 0)) from IB.congr (F := fun _ => 0) K5 fun t _ => (sn_zero c1 t).symm)
    have HR5 := hyd (HR.out.still G5)
    have HO5 := hyd (HO.out.new G5)
    have HPN := hyd (show p ≠ b by have := HR.out.prog.lt; have := HBB.out; omega)
    have HLB := hyd (show w.heap.size ≤ b by have := HR.out.chg.size; have := HBB.out; omega)
    have HOB := hyd (show ∀ t, (Value.slice oa i ocap).ownBlock = some t → t ≠ b from fun t e => by have := (HO.out.block e).2; have := HBB.out; omega)
    clear K5 G5 S5 HR HO HBB HBS
    go_wp2_with fail
    go_loopg [17] 12 (fun kx s17 wr => ∃ (t : Nat), s17 = .int .i64 t ∧ t ≤ 12 ∧ 12 - t ≤ kx ∧ Hid (IB wr b 56 96 (sn c1 (8 * t))) ∧ Hid (Ow wr base (.slice oa i ocap) (oldL a i)) ∧ Hid (Rd w wr p (oc c1 t) (i + t)))
    case atStart => exact ⟨0, rfl, by omega, by omega, HI5, HO5, by show Rd _ _ _ _ _; rw [oc_zero c1 HCL.out]; exact HR5.out⟩
    case round =>
    clear HI5 HO5 HR5
    obtain ⟨t, rfl, hin, hkx, HI, HO, HR⟩ := hrel
    by_cases hlt : t < 12
    · have hltz : (t : Int) < 12 := by omega
      have hst := step_v wr p (oc c1 t) (i + t) HR.out.prog HR.out.hc (by have := HN.out; omega) (oc c1 (t + 1)) (oc_succ c1 t)
      go_wp2_with fail
      refine hst.mono ?_
      rintro e w6 ⟨rfl, I6, K6, G6⟩
      obtain ⟨s, HS⟩ : ∃ s, Hid (s = wr.heap.size) := ⟨_, rfl⟩
      rw [← HS.out] at I6
      rw [← HS.out]
      have HI6 := hyd (HI.out.chg G6 (fun e => HPN.out e.symm))
      have HO6 := hyd (HO.out.chg G6 (fun u _ e f => by have := (HO.out.block e).1; have := HPB.out; omega))
      have HSB := hyd (show s ≠ b by have := HI.out.lt; have := HS.out; omega)
      have HR6 := hyd (HR.out.step K6 G6 (oc_lt _ _))
      have HL6 := hyd (show IB w6 s 3 8 (fun j => (pg c1 t j : Int)) from I6.congr fun j _ => plc_oc c1 t j)
      clear I6 K6 G6 HI HO HR hst HS
      go_wp2_with fail
      go_loopg [19] 8 (fun kx s19 wr => ∃ (j : Nat), s19 = .int .i64 j ∧ j ≤ 8 ∧ 8 - j ≤ kx ∧ Hid (IB wr b 56 96 (sn c1 (8 * t + j))) ∧ Hid (IB wr s 3 8 (fun j => (pg c1 t j : Int))) ∧ Hid (Ow wr base (.slice oa i ocap) (oldL a i)) ∧ Hid (Rd w wr p (oc c1 (t + 1)) (i + t + 1)))
      case atStart => exact ⟨0, rfl, by omega, by omega, HI6, HL6, HO6, HR6⟩
      case round =>
      clear HI6 HL6 HO6 HR6
      obtain ⟨j, rfl, hjn, hjx, HI, HL, HO, HR⟩ := hrel
      by_cases hjt : j < 8
      · have hjz : (j : Int) < 8 := by omega
        obtain ⟨cj, -⟩ := HL.out.cell j hjt
        have hm := pg_lt c1 t j
        obtain ⟨cm, fm⟩ := HI.out.cell (pg c1 t j) hm
        rw [sn_new c1 t j HCL.out (by omega)] at cm
        have HU := hyd (fun u hu => sn_upd c1 t j HCL.out (by omega) u hu)
        have hm0 : ¬ ((pg c1 t j : Nat) : Int) < 0 := by omega
        have hm1 : ¬ ((pg c1 t j : Nat) : Int) ≥ 96 := by omega
        have hm2 : ((pg c1 t j : Nat) : Int) < 96 := by omega
        have HI1 := hyd ((HI.out.set (pg c1 t j) 1).congr HU.out)
        have G1 : Chg (· = b) wr (wr.setCell ⟨b, pg c1 t j, none⟩ (.int .i64 1)) := (Chg.refl (· = b) wr).setCell (Or.inl rfl) _ _
        have HL1 := hyd (HL.out.chg G1 HSB.out)
        have HO1 := hyd (HO.out.chg G1 (fun u _ e f => HOB.out u e f))
        have HR1 := hyd (HR.out.other G1 HPN.out (fun u hu e => by have := HLB.out; omega))
        clear HI HL HO HR HU G1 hm
        generalize pg c1 t j = m at *
        go_wp2
        go_roundg (8 - (j + 1))
        case measure => omega
        case rel => exact ⟨j + 1, by simp, by omega, Nat.le_refl _, HI1, HL1, HO1, HR1⟩
      · have hjz : ¬ (j : Int) < 8 := by omega
        have hj8 : j = 8 := by omega
        subst hj8
        have HI1 := hyd (show IB wr b 56 96 (sn c1 (8 * (t + 1))) from HI.out)
        clear HI HL
        go_wp2
        go_roundg (12 - (t + 1))
        case measure => omega
        case rel => exact ⟨t + 1, by simp, by omega, Nat.le_refl _, HI1, HO, HR⟩
    · have hltz : ¬ (t : Int) < 12 := by omega
      have ht : t = 12 := by omega
      subst ht
      have hcu := cursor_any wr p (oc c1 12) (i + 12) HR.out.prog
      rw [oc_full c1 HCL.out] at hcu
      have hcb : ((c1 : Int) != (c1 : Int)) = false := by simp
      have HI7 := hyd (show IB wr b 56 96 (fun _ => 1) from HI.out.congr fun u _ => sn_full c1 u)
      have HO7 := HO
      have HG7 := hyd HR.out.chg
      clear HI HO HR hin hkx hlt
      go_wp2_with fail
      refine hcu.mono ?_
      rintro e w7 ⟨rfl, rfl⟩
      clear hcu
      go_wp2_with fail
      go_loopg [20] 96 (fun kx s20 wr => ∃ (t : Nat), s20 = .int .i64 t ∧ t ≤ 96 ∧ 96 - t ≤ kx ∧ Hid (wr = w7))
      case atStart => exact ⟨0, rfl, by omega, by omega, rfl⟩
      case round =>
      obtain ⟨t, rfl, hin, hkx, HW⟩ := hrel
      obtain rfl := HW.out
      by_cases hlt : t < 96
      · have hltz : (t : Int) < 96 := by omega
        obtain ⟨ct, -⟩ := HI7.out.cell t hlt
        go_wp2
        go_roundg (96 - (t + 1))
        case measure => omega
        case rel => exact ⟨t + 1, by simp, by omega, Nat.le_refl _, rfl⟩
      · have hltz : ¬ (t : Int) < 96 := by omega
        clear HI7 HW hin hkx hlt
        by_cases h1 : (i : Int) < (k : Int)
        · go_wp2
          go_ret
          exact ⟨rfl, HG7.out.below (fun _ h => h.elim) (Nat.le_refl _)⟩
        by_cases h2 : (i : Int) < 1
        · go_wp2
          go_ret
          exact ⟨rfl, HG7.out.below (fun _ h => h.elim) (Nat.le_refl _)⟩
        by_cases h3 : (k : Int) < 1
        · go_wp2
          go_ret
          exact ⟨rfl, HG7.out.below (fun _ h => h.elim) (Nat.le_refl _)⟩
        go_wp2_with fail
        refine (new_yes wr c1 HCL.out).mono ?_
        rintro e w8 ⟨rfl, K8, G8⟩
        obtain ⟨p2, HP2⟩ : ∃ p2, Hid (p2 = wr.heap.size) := ⟨_, rfl⟩
        rw [← HP2.out] at K8
        rw [← HP2.out]
        have HR8 := hyd (show Rd w w8 p2 (oc c1 0) 0 from ⟨by rw [oc_zero c1 HCL.out]; exact K8, oc_lt _ _, by have := HG7.out.size; have := HP2.out; omega, HG7.out.trans G8⟩)
        have HO8 := hyd (HO7.out.new G8)
        have HOP := hyd (show ∀ t, (Value.slice oa i ocap).ownBlock = some t → t ≠ p2 from fun t e => by have := (HO7.out.block e).2; have := HP2.out; omega)
        clear K8 G8 HP2 HO7 HG7
        go_wp2_with (refine wpList_alloc_row rfl 57 rfl w8.heap.size rfl zero57 ?_)
        intro w9 K9 G9 S9
        obtain ⟨b2, HB2⟩ : ∃ b2, Hid (b2 = w8.heap.size) := ⟨_, rfl⟩
        rw [← HB2.out] at K9
        rw [← HB2.out]
        have HT9 := hyd (show BB w9 b2 57 96 (fun _ => false) from K9)
        have HR9 := hyd (HR8.out.still G9)
        have HO9 := hyd (HO8.out.new G9)
        have HPN2 := hyd (show p2 ≠ b2 by have := HR8.out.prog.lt; have := HB2.out; omega)
        have HLB2 := hyd (show w.heap.size ≤ b2 by have := HR8.out.chg.size; have := HB2.out; omega)
        have HOB2 := hyd (show ∀ t, (Value.slice oa i ocap).ownBlock = some t → t ≠ b2 from fun t e => by have := (HO8.out.block e).2; have := HB2.out; omega)
        clear K9 G9 S9 HR8 HO8 HB2
        go_wp2_with fail
        go_loopg [24] k (fun kx s24 wr => ∃ (t : Nat) (T : Nat → Bool), s24 = .int .i64 t ∧ t ≤ k ∧ k - t ≤ kx ∧ Hid (BB wr b2 57 96 T) ∧ Hid (Ow wr base (.slice oa i ocap) (oldL a i)) ∧ Hid (Rd w wr p2 (oc c1 t) t))
        case atStart => exact ⟨0, _, rfl, by omega, by omega, HT9, HO9, HR9⟩
        case round =>
        clear HT9 HO9 HR9
        obtain ⟨t, T, rfl, hin, hkx, HT, HO, HR⟩ := hrel
        by_cases hlt : t < k
        · have hltz : (t : Int) < (k : Int) := by omega
          have hst := step_v wr p2 (oc c1 t) t HR.out.prog HR.out.hc (by have := HK.out; omega) (oc c1 (t + 1)) (oc_succ c1 t)
          go_wp2_with fail
          refine hst.mono ?_
          rintro e w6 ⟨rfl, I6, K6, G6⟩
          obtain ⟨s, HS⟩ : ∃ s, Hid (s = wr.heap.size) := ⟨_, rfl⟩
          rw [← HS.out] at I6
          rw [← HS.out]
          have HT6 := hyd (HT.out.chg G6 (fun e => HPN2.out e.symm))
          have HO6 := hyd (HO.out.chg G6 (fun u _ e f => HOP.out u e f))
          have HSB := hyd (show s ≠ b2 by have := HT.out.lt; have := HS.out; omega)
          have HR6 := hyd (HR.out.step K6 G6 (oc_lt _ _))
          have HL6 := hyd (show IB w6 s 3 8 (fun j => (pg c1 t j : Int)) from I6.congr fun j _ => plc_oc c1 t j)
          clear I6 K6 G6 HT HO HR hst HS
          go_wp2_with fail
          go_loopg [26] 8 (fun kx s26 wr => ∃ (j : Nat) (T : Nat → Bool), s26 = .int .i64 j ∧ j ≤ 8 ∧ 8 - j ≤ kx ∧ Hid (BB wr b2 57 96 T) ∧ Hid (IB wr s 3 8 (fun j => (pg c1 t j : Int))) ∧ Hid (Ow wr base (.slice oa i ocap) (oldL a i)) ∧ Hid (Rd w wr p2 (oc c1 (t + 1)) (t + 1)))
          case atStart => exact ⟨0, _, rfl, by omega, by omega, HT6, HL6, HO6, HR6⟩
          case round =>
          clear HT6 HL6 HO6 HR6
          obtain ⟨j, T', rfl, hjn, hjx, HT, HL, HO, HR⟩ := hrel
          by_cases hjt : j < 8
          · have hjz : (j : Int) < 8 := by omega
            obtain ⟨cj, -⟩ := HL.out.cell j hjt
            have hm := pg_lt c1 t j
            obtain ⟨cm, fm⟩ := HT.out.cell (pg c1 t j) hm
            have hm2 : ((pg c1 t j : Nat) : Int) < 96 := by omega
            have HT1 := hyd (HT.out.set (pg c1 t j) true)
            have G1 : Chg (· = b2) wr (wr.setCell ⟨b2, pg c1 t j, none⟩ (.bool true)) := (Chg.refl (· = b2) wr).setCell (Or.inl rfl) _ _
            have HL1 := hyd (HL.out.chg G1 HSB.out)
            have HO1 := hyd (HO.out.chg G1 (fun u _ e f => HOB2.out u e f))
            have HR1 := hyd (HR.out.other G1 HPN2.out (fun u hu e => by have := HLB2.out; omega))
            clear HT HL HO HR G1 hm
            generalize pg c1 t j = m at *
            go_wp2
            go_roundg (8 - (j + 1))
            case measure => omega
            case rel => exact ⟨j + 1, _, by simp, by omega, Nat.le_refl _, HT1, HL1, HO1, HR1⟩
          · have hjz : ¬ (j : Int) < 8 := by omega
            clear HL
            go_wp2
            go_roundg (k - (t + 1))
            case measure => omega
            case rel => exact ⟨t + 1, _, by simp, by omega, Nat.le_refl _, HT, HO, HR⟩
        · have hltz : ¬ (t : Int) < (k : Int) := by omega
          obtain ⟨d, hd⟩ : ∃ d, d = i - k := ⟨_, rfl⟩
          have hsub : (i : Int) - (k : Int) = (d : Int) := by omega
          have hdi : d < i := by omega
          have hdz : (d : Int) < (i : Int) := by omega
          obtain ⟨g, cap', hv, -, -, hcell, -⟩ := HO.out.lies (by rw [oldL_length]; omega)
          rw [oldL_length] at hv hcell
          simp only [Value.slice.injEq, true_and] at hv
          obtain ⟨rfl, rfl⟩ := hv
          have cd := hcell d hdi
          rw [oldL_at a i d hdi] at cd
          have HC3 := hyd (oc_lt a d)
          have HG9 := hyd HR.out.chg
          clear HO HR hcell hd hin hkx hlt HOP HOB2 hdi
          generalize oc a d = c3 at *
          go_wp2_with fail
          refine (new_yes wr c3 HC3.out).mono ?_
          rintro e w10 ⟨rfl, K10, G10⟩
          obtain ⟨p3, HP3⟩ : ∃ p3, Hid (p3 = wr.heap.size) := ⟨_, rfl⟩
          rw [← HP3.out] at K10
          rw [← HP3.out]
          have HR10 := hyd (show Rd w w10 p3 (oc c3 0) 0 from ⟨by rw [oc_zero c3 HC3.out]; exact K10, oc_lt _ _, by have := HG9.out.size; have := HP3.out; omega, HG9.out.trans G10⟩)
          have HT10 := hyd (HT.out.chg G10 (fun f => f))
          have HPN3 := hyd (show p3 ≠ b2 by have := HT.out.lt; have := HP3.out; omega)
          clear K10 G10 HP3 HT HG9 cd
          go_wp2_with fail
          go_loopg [27] 12 (fun kx s27 wr => ∃ (t : Nat) (T : Nat → Bool), s27 = .int .i64 t ∧ t ≤ 12 ∧ 12 - t ≤ kx ∧ Hid (BB wr b2 57 96 T) ∧ Hid (Tld c3 (8 * t) T) ∧ Hid (Rd w wr p3 (oc c3 t) t))
          case atStart => exact ⟨0, _, rfl, by omega, by omega, HT10, fun x _ hx => absurd hx (by omega), HR10⟩
          case round =>
          clear HT10 HR10
          obtain ⟨t, T, rfl, hin, hkx, HT, HU, HR⟩ := hrel
          by_cases hlt : t < 12
          · have hltz : (t : Int) < 12 := by omega
            have hst := step_v wr p3 (oc c3 t) t HR.out.prog HR.out.hc (by omega) (oc c3 (t + 1)) (oc_succ c3 t)
            go_wp2_with fail
            refine hst.mono ?_
            rintro e w6 ⟨rfl, I6, K6, G6⟩
            obtain ⟨s, HS⟩ : ∃ s, Hid (s = wr.heap.size) := ⟨_, rfl⟩
            rw [← HS.out] at I6
            rw [← HS.out]
            have HT6 := hyd (HT.out.chg G6 (fun e => HPN3.out e.symm))
            have HSB := hyd (show s ≠ b2 by have := HT.out.lt; have := HS.out; omega)
            have HR6 := hyd (HR.out.step K6 G6 (oc_lt _ _))
            have HL6 := hyd (show IB w6 s 3 8 (fun j => (pg c3 t j : Int)) from I6.congr fun j _ => plc_oc c3 t j)
            clear I6 K6 G6 HT HR hst HS
            go_wp2_with fail
            go_loopg [29] 8 (fun kx s29 wr => ∃ (j : Nat) (T : Nat → Bool), s29 = .int .i64 j ∧ j ≤ 8 ∧ 8 - j ≤ kx ∧ Hid (BB wr b2 57 96 T) ∧ Hid (Tld c3 (8 * t + j) T) ∧ Hid (IB wr s 3 8 (fun j => (pg c3 t j : Int))) ∧ Hid (Rd w wr p3 (oc c3 (t + 1)) (t + 1)))
            case atStart => exact ⟨0, _, rfl, by omega, by omega, HT6, HU, HL6, HR6⟩
            case round =>
            clear HT6 HL6 HR6 HU
            obtain ⟨j, T', rfl, hjn, hjx, HT, HU, HL, HR⟩ := hrel
            by_cases hjt : j < 8
            · have hjz : (j : Int) < 8 := by omega
              obtain ⟨cj, -⟩ := HL.out.cell j hjt
              have hm := pg_lt c3 t j
              obtain ⟨cm, fm⟩ := HT.out.cell (pg c3 t j) hm
              have hm2 : ((pg c3 t j : Nat) : Int) < 96 := by omega
              have HT1 := hyd (HT.out.set (pg c3 t j) true)
              have HU1 := hyd (HU.out.upd HC3.out)
              have G1 : Chg (· = b2) wr (wr.setCell ⟨b2, pg c3 t j, none⟩ (.bool true)) := (Chg.refl (· = b2) wr).setCell (Or.inl rfl) _ _
              have HL1 := hyd (HL.out.chg G1 HSB.out)
              have HR1 := hyd (HR.out.other G1 HPN3.out (fun u hu e => by have := HLB2.out; omega))
              clear HT HL HR HU G1 hm
              generalize pg c3 t j = m at *
              go_wp2
              go_roundg (8 - (j + 1))
              case measure => omega
              case rel => exact ⟨j + 1, _, by simp, by omega, Nat.le_refl _, HT1, HU1, HL1, HR1⟩
            · have hjz : ¬ (j : Int) < 8 := by omega
              have hj8 : j = 8 := by omega
              subst hj8
              have HU1 := hyd (show Tld c3 (8 * (t + 1)) T' from HU.out)
              clear HL HU
              go_wp2
              go_roundg (12 - (t + 1))
              case measure => omega
              case rel => exact ⟨t + 1, _, by simp, by omega, Nat.le_refl _, HT, HU1, HR⟩
          · have hltz : ¬ (t : Int) < 12 := by omega
            have ht : t = 12 := by omega
            subst ht
            have HU1 := hyd (show Tld c3 96 T from HU.out)
            have HG11 := hyd HR.out.chg
            clear HU HR hin hkx hlt
            go_wp2_with fail
            obtain ⟨w11, HW11⟩ : ∃ w11, Hid (w11 = wr) := ⟨_, rfl⟩
            rw [← HW11.out] at HT HG11
            rw [← HW11.out]
            clear HW11
            go_loopg [30] 96 (fun kx s30 wr => ∃ (t : Nat), s30 = .int .i64 t ∧ t ≤ 96 ∧ 96 - t ≤ kx ∧ Hid (wr = w11))
            case atStart => exact ⟨0, rfl, by omega, by omega, rfl⟩
            case round =>
            obtain ⟨t, rfl, hin, hkx, HW⟩ := hrel
            obtain rfl := HW.out
            by_cases hlt : t < 96
            · have hltz : (t : Int) < 96 := by omega
              obtain ⟨ct, -⟩ := HT.out.cell t hlt
              rw [HU1.out.full t hlt] at ct
              go_wp2
              go_roundg (96 - (t + 1))
              case measure => omega
              case rel => exact ⟨t + 1, by simp, by omega, Nat.le_refl _, rfl⟩
            · have hltz : ¬ (t : Int) < 96 := by omega
              go_wp2
              go_ret
              exact ⟨rfl, HG11.out.below (fun _ h => h.elim) (Nat.le_refl _)⟩
end Go.Proofs.Ytnldbeklcpcdcaa
