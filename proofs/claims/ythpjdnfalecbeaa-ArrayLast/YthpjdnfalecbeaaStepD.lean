/-
  (*Two).step: Differ. Conditions: both arrays stand alike.
-/
import Derived.Test.YthpjdnfalecbeaaView
namespace Go.Proofs.Ythpjdnfalecbeaa
open Go.RowKit
set_option maxRecDepth 100000
set_option maxHeartbeats 8000000 in
theorem step_differ (B : Prop) (w0 : World) (t : Nat) (σ : Sta) (K A Bb : Int) (f : Nat) (w : World) (h : Pst B w0 w t σ) (hx : σ.xc = σ.sc) (hn : σ.nw = σ.nt) (hb : σ.nt ≤ 5864062014000)
    (hK1 : -9223372036854775808 ≤ K) (hK2 : K ≤ 9223372036854775807) (_hf : f < 256) (hm : pkN 7 K = 5) :
    Calls Try.prog 8 #[.pointer (some ⟨t, 0, none⟩), .agg #[.int .i64 K, .int .i64 A, .int .i64 Bb, .int .u8 f]] w fun e w' => e = .returned (.bool true) ∧ ∃ σ', Alike B w0 w' t σ σ' := by
  obtain ⟨col, c, d, r1, r2, nt, nw, sc, xc, sd, vt, vw, Vt, Vw, L⟩ := σ
  simp only at hx hn hb
  subst hx hn
  have hrow := box_row w (.int .i64 K) (.int .i64 A) (.int .i64 Bb) (.int .u8 f)
  have hGa : Chg (fun _ => False) w (w.alloc (.cells #[.int .i64 K, .int .i64 A, .int .i64 Bb, .int .u8 f] 34)) := (Chg.refl _ _).alloc _
  have P1 := h.still hGa
  have hsz : (w.alloc (.cells #[.int .i64 K, .int .i64 A, .int .i64 Bb, .int .u8 f] 34)).heap.size = w.heap.size + 1 := by simp
  have ho : paint col w (w.alloc (.cells #[.int .i64 K, .int .i64 A, .int .i64 Bb, .int .u8 f] 34)) 0 w.heap.size = 0 := by unfold paint; rw [if_pos (by omega)]
  have HM := hyd hm
  clear hm hsz hGa h
  go_enter Try.func8, Try.ntmps8
  go_wp2_with fail
  refine (pick_7 K hK1 hK2 _).mono ?_
  rintro e wq ⟨rfl, rfl⟩
  rw [HM.out]
  generalize paint col w (w.alloc (.cells #[.int .i64 K, .int .i64 A, .int .i64 Bb, .int .u8 f] 34)) 0 = col1 at *
  generalize w.alloc (.cells #[.int .i64 K, .int .i64 A, .int .i64 Bb, .int .u8 f] 34) = w1 at *
  generalize w.heap.size = o at *
  clear HM hK1 hK2
  try simp only at P1
  have o1 : w1.cell? ⟨o, 1, none⟩ = some (.int .i64 A) := hrow.cell 1 (by omega)
  have o2 : w1.cell? ⟨o, 2, none⟩ = some (.int .i64 Bb) := hrow.cell 2 (by omega)
  have o3 : w1.cell? ⟨o, 3, none⟩ = some (.int .u8 f) := hrow.cell 3 (by omega)
  have k0 : w1.cell? ⟨t, 0, none⟩ = some (.pointer (some ⟨c, 0, none⟩)) := P1.cellC
  have k1 : w1.cell? ⟨t, 1, none⟩ = some (.pointer (some ⟨d, 0, none⟩)) := P1.cellD
  have k2 : w1.cell? ⟨t, 2, none⟩ = some (.pointer (some ⟨r1, 0, none⟩)) := P1.cellR
  have k3 : w1.cell? ⟨t, 3, none⟩ = some (.pointer (some ⟨r2, 0, none⟩)) := P1.cellS
  have hC1 : AryAt w1 c xc := P1.cc
  have hok : Okr xc := P1.oc
  have HP1 := hyd P1
  have HOK := hyd hok
  clear P1 hok
  have HD1 : Hid (AryAt w1 d sd) := HP1.out.cd
  have HOD := hyd HP1.out.od
  have HR1 := hyd HP1.out.rc
  have HR2 := hyd HP1.out.rd
  have HC1 := hyd hC1
  have HTW := hyd HP1.out.two
  clear hC1 o1 o2 o3 hrow ho
  go_wp2_with fail
  go_region_held3 (fun wx => wx.cell? ⟨t, 0, none⟩ = some (.pointer (some ⟨c, 0, none⟩)) ∧ wx.cell? ⟨t, 1, none⟩ = some (.pointer (some ⟨d, 0, none⟩)) ∧ wx.cell? ⟨t, 2, none⟩ = some (.pointer (some ⟨r1, 0, none⟩)) ∧ wx.cell? ⟨t, 3, none⟩ = some (.pointer (some ⟨r2, 0, none⟩)))
    (first | exact ⟨k0, k1, k2, k3⟩ | exact ⟨k0b, k1b, k2b, k3b⟩ | exact ⟨k0c, k1c, k2c, k3c⟩ | exact ⟨k0e, k1e, k2e, k3e⟩)
    (first
      | (go_at_call 16; refine (differ_two c d xc sd HOK.out HOD.out _ ?_ ?_).mono ?_; (exact HC1.out); (exact HD1.out); rintro e w2 ⟨v2, rfl, hO2, g2⟩; have G2 : Chg (fun _ => False) w1 w2 := (Chg.refl _ w1).drew.trans g2; have k0b : w2.cell? ⟨t, 0, none⟩ = some (.pointer (some ⟨c, 0, none⟩)) := (HTW.out.chg G2 (fun f => f)).cell 0 (by omega); have k1b : w2.cell? ⟨t, 1, none⟩ = some (.pointer (some ⟨d, 0, none⟩)) := (HTW.out.chg G2 (fun f => f)).cell 1 (by omega); have k2b : w2.cell? ⟨t, 2, none⟩ = some (.pointer (some ⟨r1, 0, none⟩)) := (HTW.out.chg G2 (fun f => f)).cell 2 (by omega); have k3b : w2.cell? ⟨t, 3, none⟩ = some (.pointer (some ⟨r2, 0, none⟩)) := (HTW.out.chg G2 (fun f => f)).cell 3 (by omega); have HO2 := hyd hO2; have HG2 := hyd G2; clear hO2 g2 G2)
      | (go_at_call 29; refine (rdiffer_any _ r1 r2 xc sd HOK.out HOD.out _ _ (HR1.out.chg HG2.out (fun _ _ f => f)) (HR2.out.chg HG2.out (fun _ _ f => f))).mono ?_; rintro e w3 ⟨v3, rfl, hO3, g3⟩; have G3 : Chg (fun _ => False) w1 w3 := HG2.out.trans g3; have k0c : w3.cell? ⟨t, 0, none⟩ = some (.pointer (some ⟨c, 0, none⟩)) := (HTW.out.chg G3 (fun f => f)).cell 0 (by omega); have k1c : w3.cell? ⟨t, 1, none⟩ = some (.pointer (some ⟨d, 0, none⟩)) := (HTW.out.chg G3 (fun f => f)).cell 1 (by omega); have k2c : w3.cell? ⟨t, 2, none⟩ = some (.pointer (some ⟨r1, 0, none⟩)) := (HTW.out.chg G3 (fun f => f)).cell 2 (by omega); have k3c : w3.cell? ⟨t, 3, none⟩ = some (.pointer (some ⟨r2, 0, none⟩)) := (HTW.out.chg G3 (fun f => f)).cell 3 (by omega); have HO3 := hyd hO3; have HO23 := hyd (HO2.out.new g3); have HG3 := hyd G3; clear hO3 g3 G3)
      | (go_at_call 28; refine (ints_v _ v2 v3 _ _ _ (dif_length _ _ _) HO23.out HO3.out).mono ?_; rintro e w4 ⟨rfl, g4⟩; have G4 : Chg (fun _ => False) w1 w4 := HG3.out.trans g4; have k0e : w4.cell? ⟨t, 0, none⟩ = some (.pointer (some ⟨c, 0, none⟩)) := (HTW.out.chg G4 (fun f => f)).cell 0 (by omega); have k1e : w4.cell? ⟨t, 1, none⟩ = some (.pointer (some ⟨d, 0, none⟩)) := (HTW.out.chg G4 (fun f => f)).cell 1 (by omega); have k2e : w4.cell? ⟨t, 2, none⟩ = some (.pointer (some ⟨r1, 0, none⟩)) := (HTW.out.chg G4 (fun f => f)).cell 2 (by omega); have k3e : w4.cell? ⟨t, 3, none⟩ = some (.pointer (some ⟨r2, 0, none⟩)) := (HTW.out.chg G4 (fun f => f)).cell 3 (by omega); have HG4 := hyd G4; clear g4 G4))
  all_goals
    have HP4 := hyd (HP1.out.still HG4.out)
    go_wp2
    go_ret
    exact ⟨rfl, _, HP4.out, rfl, rfl, Nat.le_succ _⟩
set_option maxHeartbeats 8000000 in
theorem step_nil (B : Prop) (w0 : World) (t : Nat) (σ : Sta) (K A Bb : Int) (f : Nat) (w : World) (h : Pst B w0 w t σ) (hx : σ.xc = σ.sc) (hn : σ.nw = σ.nt) (hb : σ.nt ≤ 5864062014000)
    (hK1 : -9223372036854775808 ≤ K) (hK2 : K ≤ 9223372036854775807) (_hf : f < 256) (hm : pkN 7 K = 6) :
    Calls Try.prog 8 #[.pointer (some ⟨t, 0, none⟩), .agg #[.int .i64 K, .int .i64 A, .int .i64 Bb, .int .u8 f]] w fun e w' => e = .returned (.bool true) ∧ ∃ σ', Alike B w0 w' t σ σ' := by
  obtain ⟨col, c, d, r1, r2, nt, nw, sc, xc, sd, vt, vw, Vt, Vw, L⟩ := σ
  simp only at hx hn hb
  subst hx hn
  have hrow := box_row w (.int .i64 K) (.int .i64 A) (.int .i64 Bb) (.int .u8 f)
  have hGa : Chg (fun _ => False) w (w.alloc (.cells #[.int .i64 K, .int .i64 A, .int .i64 Bb, .int .u8 f] 34)) := (Chg.refl _ _).alloc _
  have P1 := h.still hGa
  have hsz : (w.alloc (.cells #[.int .i64 K, .int .i64 A, .int .i64 Bb, .int .u8 f] 34)).heap.size = w.heap.size + 1 := by simp
  have ho : paint col w (w.alloc (.cells #[.int .i64 K, .int .i64 A, .int .i64 Bb, .int .u8 f] 34)) 0 w.heap.size = 0 := by unfold paint; rw [if_pos (by omega)]
  have HM := hyd hm
  clear hm hsz hGa h
  go_enter Try.func8, Try.ntmps8
  go_wp2_with fail
  refine (pick_7 K hK1 hK2 _).mono ?_
  rintro e wq ⟨rfl, rfl⟩
  rw [HM.out]
  generalize paint col w (w.alloc (.cells #[.int .i64 K, .int .i64 A, .int .i64 Bb, .int .u8 f] 34)) 0 = col1 at *
  generalize w.alloc (.cells #[.int .i64 K, .int .i64 A, .int .i64 Bb, .int .u8 f] 34) = w1 at *
  generalize w.heap.size = o at *
  clear HM hK1 hK2
  try simp only at P1
  have o1 : w1.cell? ⟨o, 1, none⟩ = some (.int .i64 A) := hrow.cell 1 (by omega)
  have o2 : w1.cell? ⟨o, 2, none⟩ = some (.int .i64 Bb) := hrow.cell 2 (by omega)
  have o3 : w1.cell? ⟨o, 3, none⟩ = some (.int .u8 f) := hrow.cell 3 (by omega)
  have k0 : w1.cell? ⟨t, 0, none⟩ = some (.pointer (some ⟨c, 0, none⟩)) := P1.cellC
  have k1 : w1.cell? ⟨t, 1, none⟩ = some (.pointer (some ⟨d, 0, none⟩)) := P1.cellD
  have k2 : w1.cell? ⟨t, 2, none⟩ = some (.pointer (some ⟨r1, 0, none⟩)) := P1.cellR
  have k3 : w1.cell? ⟨t, 3, none⟩ = some (.pointer (some ⟨r2, 0, none⟩)) := P1.cellS
  have hC1 : AryAt w1 c xc := P1.cc
  have hok : Okr xc := P1.oc
  have HP1 := hyd P1
  have HOK := hyd hok
  clear P1 hok
  have HR1 := hyd HP1.out.rc
  have HC1 := hyd hC1
  have HTW := hyd HP1.out.two
  clear hC1 o1 o2 o3 hrow ho
  clear k1 k3
  go_wp2_with fail
  go_region_held3 (fun wx => wx.cell? ⟨t, 0, none⟩ = some (.pointer (some ⟨c, 0, none⟩)) ∧ wx.cell? ⟨t, 2, none⟩ = some (.pointer (some ⟨r1, 0, none⟩)))
    (first | exact ⟨k0, k2⟩ | exact ⟨k0b, k2b⟩ | exact ⟨k0c, k2c⟩ | exact ⟨k0d, k2d⟩ | exact ⟨k0e, k2e⟩)
    (first
      | (go_at_call 16; refine (differ_nil c xc HOK.out _ ?_).mono ?_; (exact HC1.out); rintro e w2 ⟨v2, rfl, hO2, g2⟩; have G2 : Chg (fun _ => False) w1 w2 := (Chg.refl _ w1).drew.trans g2; have k0b : w2.cell? ⟨t, 0, none⟩ = some (.pointer (some ⟨c, 0, none⟩)) := (HTW.out.chg G2 (fun f => f)).cell 0 (by omega); have k2b : w2.cell? ⟨t, 2, none⟩ = some (.pointer (some ⟨r1, 0, none⟩)) := (HTW.out.chg G2 (fun f => f)).cell 2 (by omega); have HO2 := hyd hO2; have HG2 := hyd G2; clear hO2 g2 G2)
      | (go_at_call 7; refine (rnew_any _).mono ?_; rintro e w5 ⟨q, rfl, hQ, g5⟩; have G5 : Chg (fun _ => False) w1 w5 := HG2.out.trans g5; have k0d : w5.cell? ⟨t, 0, none⟩ = some (.pointer (some ⟨c, 0, none⟩)) := (HTW.out.chg G5 (fun f => f)).cell 0 (by omega); have k2d : w5.cell? ⟨t, 2, none⟩ = some (.pointer (some ⟨r1, 0, none⟩)) := (HTW.out.chg G5 (fun f => f)).cell 2 (by omega); have HQ := hyd hQ; have HO25 := hyd (HO2.out.new g5); have HG5 := hyd G5; clear hQ g5 G5)
      | (go_at_call 29; refine (rdiffer_any _ r1 q xc zA HOK.out zA_ok _ _ (HR1.out.chg HG5.out (fun _ _ f => f)) HQ.out).mono ?_; rintro e w3 ⟨v3, rfl, hO3, g3⟩; have G3 : Chg (fun _ => False) w1 w3 := HG5.out.trans g3; have k0c : w3.cell? ⟨t, 0, none⟩ = some (.pointer (some ⟨c, 0, none⟩)) := (HTW.out.chg G3 (fun f => f)).cell 0 (by omega); have k2c : w3.cell? ⟨t, 2, none⟩ = some (.pointer (some ⟨r1, 0, none⟩)) := (HTW.out.chg G3 (fun f => f)).cell 2 (by omega); have HO3 := hyd hO3; have HO23 := hyd (HO25.out.new g3); have HG3 := hyd G3; clear hO3 g3 G3)
      | (go_at_call 28; refine (ints_v _ v2 v3 _ _ _ (dif_length _ _ _) HO23.out HO3.out).mono ?_; rintro e w4 ⟨rfl, g4⟩; have G4 : Chg (fun _ => False) w1 w4 := HG3.out.trans g4; have k0e : w4.cell? ⟨t, 0, none⟩ = some (.pointer (some ⟨c, 0, none⟩)) := (HTW.out.chg G4 (fun f => f)).cell 0 (by omega); have k2e : w4.cell? ⟨t, 2, none⟩ = some (.pointer (some ⟨r1, 0, none⟩)) := (HTW.out.chg G4 (fun f => f)).cell 2 (by omega); have HG4 := hyd G4; clear g4 G4))
  all_goals
    have HP4 := hyd (HP1.out.still HG4.out)
    go_wp2
    go_ret
    exact ⟨rfl, _, HP4.out, rfl, rfl, Nat.le_succ _⟩
end Go.Proofs.Ythpjdnfalecbeaa
