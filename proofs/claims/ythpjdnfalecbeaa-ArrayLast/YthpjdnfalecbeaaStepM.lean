/-
  (*Two).step: Trim, Clone, and both change places. Conditions: both arrays stand alike.
-/
import Derived.Test.YthpjdnfalecbeaaView
namespace Go.Proofs.Ythpjdnfalecbeaa
open Go.RowKit
set_option maxRecDepth 100000
set_option maxHeartbeats 8000000 in
theorem step_trim (B : Prop) (w0 : World) (t : Nat) (σ : Sta) (K A Bb : Int) (f : Nat) (w : World) (h : Pst B w0 w t σ) (hx : σ.xc = σ.sc) (hn : σ.nw = σ.nt) (hb : σ.nt ≤ 5864062014000)
    (hK1 : -9223372036854775808 ≤ K) (hK2 : K ≤ 9223372036854775807) (_hf : f < 256) (hm : pkN 7 K = 2) :
    Calls Try.prog 8 #[.pointer (some ⟨t, 0, none⟩), .agg #[.int .i64 K, .int .i64 A, .int .i64 Bb, .int .u8 f]] w fun e w' => e = .returned (.bool true) ∧ ∃ σ', Alike B w0 w' t σ σ' := by
  obtain ⟨col, c, d, r1, r2, nt, nw, sc, xc, sd, vt, vw, Vt, Vw, L⟩ := σ
  simp only at hx hn hb
  subst hx hn
  have hrow := box_row w (.int .i64 K) (.int .i64 A) (.int .i64 Bb) (.int .u8 f)
  have hGa : Chg (fun _ => False) w (w.alloc (.cells #[.int .i64 K, .int .i64 A, .int .i64 Bb, .int .u8 f] 34)) := (Chg.refl _ _).alloc _
  have P1 := h.still hGa
  have hsz : (w.alloc (.cells #[.int .i64 K, .int .i64 A, .int .i64 Bb, .int .u8 f] 34)).heap.size = w.heap.size + 1 := by simp
  have ho : paint col w (w.alloc (.cells #[.int .i64 K, .int .i64 A, .int .i64 Bb, .int .u8 f] 34)) 0 w.heap.size = 0 := by unfold paint; rw [if_pos (by omega)]
  have HM := hyd hm
  clear hm hsz hGa h
  go_enter Try.func8, Try.ntmps8
  go_wp2_with fail
  refine (pick_7 K hK1 hK2 _).mono ?_
  rintro e wq ⟨rfl, rfl⟩
  rw [HM.out]
  generalize paint col w (w.alloc (.cells #[.int .i64 K, .int .i64 A, .int .i64 Bb, .int .u8 f] 34)) 0 = col1 at *
  generalize w.alloc (.cells #[.int .i64 K, .int .i64 A, .int .i64 Bb, .int .u8 f] 34) = w1 at *
  generalize w.heap.size = o at *
  clear HM hK1 hK2
  try simp only at P1
  have o1 : w1.cell? ⟨o, 1, none⟩ = some (.int .i64 A) := hrow.cell 1 (by omega)
  have o2 : w1.cell? ⟨o, 2, none⟩ = some (.int .i64 Bb) := hrow.cell 2 (by omega)
  have o3 : w1.cell? ⟨o, 3, none⟩ = some (.int .u8 f) := hrow.cell 3 (by omega)
  have k0 : w1.cell? ⟨t, 0, none⟩ = some (.pointer (some ⟨c, 0, none⟩)) := P1.cellC
  have k1 : w1.cell? ⟨t, 1, none⟩ = some (.pointer (some ⟨d, 0, none⟩)) := P1.cellD
  have k2 : w1.cell? ⟨t, 2, none⟩ = some (.pointer (some ⟨r1, 0, none⟩)) := P1.cellR
  have k3 : w1.cell? ⟨t, 3, none⟩ = some (.pointer (some ⟨r2, 0, none⟩)) := P1.cellS
  have hC1 : AryAt w1 c xc := P1.cc
  have hok : Okr xc := P1.oc
  have HP1 := hyd P1
  have HOK := hyd hok
  clear P1 hok
  clear k1 k3
  go_wp2_with fail
  go_region_held3 (fun wx => wx.cell? ⟨t, 0, none⟩ = some (.pointer (some ⟨c, 0, none⟩)) ∧ wx.cell? ⟨o, 1, none⟩ = some (.int .i64 A))
    (first | exact ⟨k0, o1⟩ | exact ⟨k0b, o1b⟩)
    (first | (go_at_call 14; refine (trim_v c xc A _ ?_).mono ?_; (exact hC1); rintro e w2 ⟨rfl, C2, G2⟩; have P2 := HP1.out.drew.prog (trimV xc A).1 (trimV_ok HOK.out A) C2 G2; have k0b : w2.cell? ⟨t, 0, none⟩ = some (.pointer (some ⟨c, 0, none⟩)) := P2.cellC; have hrow2 := hrow.drew.chg G2 (fun e => by have h1 := HP1.out.kc; simp only at h1; rw [e, h1] at ho; omega); have o1b : w2.cell? ⟨o, 1, none⟩ = some (.int .i64 A) := hrow2.cell 1 (by omega); have o2b : w2.cell? ⟨o, 2, none⟩ = some (.int .i64 Bb) := hrow2.cell 2 (by omega)))
  all_goals
    have k2b : w2.cell? ⟨t, 2, none⟩ = some (.pointer (some ⟨r1, 0, none⟩)) := P2.cellR
    have ho2 : paint col1 w1.drew w2 0 o = 0 := by rw [paint_lt (show o < w1.drew.heap.size from hrow.lt)]; exact ho
    have HCo := hyd (trimV_code xc A)
    have HOk2 := hyd (trimV_ok HOK.out A)
    try simp only at P2
    generalize paint col1 w1.drew w2 0 = col2 at *
    have HP2 := hyd P2
    have hR2 : RefAt w2 r1 xc (fun k => col2 k = 3) := P2.rc
    clear P2 C2 G2
    generalize hRR : trimV xc A = RR at *
    have HRR := hyd hRR
    clear hRR
    obtain ⟨s2, cd⟩ := RR
    try simp only at *
    go_wp2_with fail
    go_region_held3 (fun wx => wx.cell? ⟨t, 2, none⟩ = some (.pointer (some ⟨r1, 0, none⟩)) ∧ wx.cell? ⟨o, 1, none⟩ = some (.int .i64 A))
      (first | exact ⟨k2b, o1b⟩ | exact ⟨k2c, o1c⟩)
      (first | (go_at_call 22; refine (code_any cd HCo.out _).mono ?_; rintro e wz ⟨rfl, rfl⟩) | (go_at_call 25; refine (rtrim_v r1 xc (fun k => col2 k = 3) A _ ?_).mono ?_; (exact HP2.out.drew.rc); rintro e w3 ⟨rfl, R3, G3⟩; rw [HRR.out]; have R3' := R3; rw [HRR.out] at R3'; have P3 := HP2.out.drew.ref3 s2 HOk2.out R3' G3; have k2c : w3.cell? ⟨t, 2, none⟩ = some (.pointer (some ⟨r1, 0, none⟩)) := P3.cellR; have hrow3 := hrow2.drew.chg G3 (fun e => absurd (ho2.symm.trans e) (by decide)); have o1c : w3.cell? ⟨o, 1, none⟩ = some (.int .i64 A) := hrow3.cell 1 (by omega); have o2c : w3.cell? ⟨o, 2, none⟩ = some (.int .i64 Bb) := hrow3.cell 2 (by omega)))
    all_goals
      try simp only at P3
      have HP3 := hyd P3
      clear P3 R3 R3' G3 hrow3 hrow2
      go_wp2
      go_ret
      exact ⟨rfl, _, HP3.out, rfl, rfl, Nat.le_succ _⟩

set_option maxHeartbeats 8000000 in
theorem step_swap (B : Prop) (w0 : World) (t : Nat) (σ : Sta) (K A Bb : Int) (f : Nat) (w : World) (h : Pst B w0 w t σ) (hx : σ.xc = σ.sc) (hn : σ.nw = σ.nt) (hb : σ.nt ≤ 5864062014000)
    (hK1 : -9223372036854775808 ≤ K) (hK2 : K ≤ 9223372036854775807) (_hf : f < 256) (hm : pkN 7 K = 4) :
    Calls Try.prog 8 #[.pointer (some ⟨t, 0, none⟩), .agg #[.int .i64 K, .int .i64 A, .int .i64 Bb, .int .u8 f]] w fun e w' => e = .returned (.bool true) ∧ ∃ σ', Alike B w0 w' t σ σ' := by
  obtain ⟨col, c, d, r1, r2, nt, nw, sc, xc, sd, vt, vw, Vt, Vw, L⟩ := σ
  simp only at hx hn hb
  subst hx hn
  have hrow := box_row w (.int .i64 K) (.int .i64 A) (.int .i64 Bb) (.int .u8 f)
  have hGa : Chg (fun _ => False) w (w.alloc (.cells #[.int .i64 K, .int .i64 A, .int .i64 Bb, .int .u8 f] 34)) := (Chg.refl _ _).alloc _
  have P1 := h.still hGa
  have hsz : (w.alloc (.cells #[.int .i64 K, .int .i64 A, .int .i64 Bb, .int .u8 f] 34)).heap.size = w.heap.size + 1 := by simp
  have ho : paint col w (w.alloc (.cells #[.int .i64 K, .int .i64 A, .int .i64 Bb, .int .u8 f] 34)) 0 w.heap.size = 0 := by unfold paint; rw [if_pos (by omega)]
  have HM := hyd hm
  clear hm hsz hGa h
  go_enter Try.func8, Try.ntmps8
  go_wp2_with fail
  refine (pick_7 K hK1 hK2 _).mono ?_
  rintro e wq ⟨rfl, rfl⟩
  rw [HM.out]
  generalize paint col w (w.alloc (.cells #[.int .i64 K, .int .i64 A, .int .i64 Bb, .int .u8 f] 34)) 0 = col1 at *
  generalize w.alloc (.cells #[.int .i64 K, .int .i64 A, .int .i64 Bb, .int .u8 f] 34) = w1 at *
  generalize w.heap.size = o at *
  clear HM hK1 hK2
  try simp only at P1
  have o1 : w1.cell? ⟨o, 1, none⟩ = some (.int .i64 A) := hrow.cell 1 (by omega)
  have o2 : w1.cell? ⟨o, 2, none⟩ = some (.int .i64 Bb) := hrow.cell 2 (by omega)
  have o3 : w1.cell? ⟨o, 3, none⟩ = some (.int .u8 f) := hrow.cell 3 (by omega)
  have k0 : w1.cell? ⟨t, 0, none⟩ = some (.pointer (some ⟨c, 0, none⟩)) := P1.cellC
  have k1 : w1.cell? ⟨t, 1, none⟩ = some (.pointer (some ⟨d, 0, none⟩)) := P1.cellD
  have k2 : w1.cell? ⟨t, 2, none⟩ = some (.pointer (some ⟨r1, 0, none⟩)) := P1.cellR
  have k3 : w1.cell? ⟨t, 3, none⟩ = some (.pointer (some ⟨r2, 0, none⟩)) := P1.cellS
  have hC1 : AryAt w1 c xc := P1.cc
  have hok : Okr xc := P1.oc
  have HP1 := hyd P1
  have HOK := hyd hok
  clear P1 hok
  clear k1 k3
  have k1 : w1.cell? ⟨t, 1, none⟩ = some (.pointer (some ⟨d, 0, none⟩)) := HP1.out.cellD
  have k3 : w1.cell? ⟨t, 3, none⟩ = some (.pointer (some ⟨r2, 0, none⟩)) := HP1.out.cellS
  have f0 := HP1.out.frozen 0
  have f1 := HP1.out.frozen 1
  have f2 := HP1.out.frozen 2
  have f3 := HP1.out.frozen 3
  have T1 := two_set (σ' := { (⟨col1, c, d, r1, r2, nw, nw, xc, xc, sd, vt, vw, Vt, Vw, L⟩ : Sta) with c := d }) HP1.out.two 0 (.pointer (some ⟨d, 0, none⟩)) (by omega) rfl
  have T2 := two_set (σ' := { (⟨col1, d, d, r1, r2, nw, nw, xc, xc, sd, vt, vw, Vt, Vw, L⟩ : Sta) with r1 := r2 }) T1 2 (.pointer (some ⟨r2, 0, none⟩)) (by omega) rfl
  have T3 := two_set (σ' := { (⟨col1, d, d, r2, r2, nw, nw, xc, xc, sd, vt, vw, Vt, Vw, L⟩ : Sta) with d := c }) T2 1 (.pointer (some ⟨c, 0, none⟩)) (by omega) rfl
  have T4 := two_set (σ' := { (⟨col1, d, c, r2, r2, nw, nw, xc, xc, sd, vt, vw, Vt, Vw, L⟩ : Sta) with r2 := r1 }) T3 3 (.pointer (some ⟨r1, 0, none⟩)) (by omega) rfl
  have hc4 : Chg (· = t) w1 ((((w1.setCell ⟨t, 0, none⟩ (.pointer (some ⟨d, 0, none⟩))).setCell ⟨t, 2, none⟩ (.pointer (some ⟨r2, 0, none⟩))).setCell ⟨t, 1, none⟩ (.pointer (some ⟨c, 0, none⟩))).setCell ⟨t, 3, none⟩ (.pointer (some ⟨r1, 0, none⟩))) := ((((Chg.refl (· = t) w1).setCell (Or.inl rfl) 0 _).setCell (Or.inl rfl) 2 _).setCell (Or.inl rfl) 1 _).setCell (Or.inl rfl) 3 _
  have P4 := HP1.out.swap rfl T4 hc4 (by rw [size_set, size_set, size_set, size_set])
  have HP4 := hyd P4
  clear T1 T2 T3 T4 hc4 P4 hC1 hrow
  go_wp2
  go_ret
  exact ⟨rfl, _, HP4.out, rfl, rfl, Nat.le_succ _⟩

set_option maxHeartbeats 8000000 in
theorem step_clone (B : Prop) (w0 : World) (t : Nat) (σ : Sta) (K A Bb : Int) (f : Nat) (w : World) (h : Pst B w0 w t σ) (hx : σ.xc = σ.sc) (hn : σ.nw = σ.nt) (hb : σ.nt ≤ 5864062014000)
    (hK1 : -9223372036854775808 ≤ K) (hK2 : K ≤ 9223372036854775807) (_hf : f < 256) (hm : pkN 7 K = 3) :
    Calls Try.prog 8 #[.pointer (some ⟨t, 0, none⟩), .agg #[.int .i64 K, .int .i64 A, .int .i64 Bb, .int .u8 f]] w fun e w' => e = .returned (.bool true) ∧ ∃ σ', Alike B w0 w' t σ σ' := by
  obtain ⟨col, c, d, r1, r2, nt, nw, sc, xc, sd, vt, vw, Vt, Vw, L⟩ := σ
  simp only at hx hn hb
  subst hx hn
  have hrow := box_row w (.int .i64 K) (.int .i64 A) (.int .i64 Bb) (.int .u8 f)
  have hGa : Chg (fun _ => False) w (w.alloc (.cells #[.int .i64 K, .int .i64 A, .int .i64 Bb, .int .u8 f] 34)) := (Chg.refl _ _).alloc _
  have P1 := h.still hGa
  have hsz : (w.alloc (.cells #[.int .i64 K, .int .i64 A, .int .i64 Bb, .int .u8 f] 34)).heap.size = w.heap.size + 1 := by simp
  have ho : paint col w (w.alloc (.cells #[.int .i64 K, .int .i64 A, .int .i64 Bb, .int .u8 f] 34)) 0 w.heap.size = 0 := by unfold paint; rw [if_pos (by omega)]
  have HM := hyd hm
  clear hm hsz hGa h
  go_enter Try.func8, Try.ntmps8
  go_wp2_with fail
  refine (pick_7 K hK1 hK2 _).mono ?_
  rintro e wq ⟨rfl, rfl⟩
  rw [HM.out]
  generalize paint col w (w.alloc (.cells #[.int .i64 K, .int .i64 A, .int .i64 Bb, .int .u8 f] 34)) 0 = col1 at *
  generalize w.alloc (.cells #[.int .i64 K, .int .i64 A, .int .i64 Bb, .int .u8 f] 34) = w1 at *
  generalize w.heap.size = o at *
  clear HM hK1 hK2
  try simp only at P1
  have o1 : w1.cell? ⟨o, 1, none⟩ = some (.int .i64 A) := hrow.cell 1 (by omega)
  have o2 : w1.cell? ⟨o, 2, none⟩ = some (.int .i64 Bb) := hrow.cell 2 (by omega)
  have o3 : w1.cell? ⟨o, 3, none⟩ = some (.int .u8 f) := hrow.cell 3 (by omega)
  have k0 : w1.cell? ⟨t, 0, none⟩ = some (.pointer (some ⟨c, 0, none⟩)) := P1.cellC
  have k1 : w1.cell? ⟨t, 1, none⟩ = some (.pointer (some ⟨d, 0, none⟩)) := P1.cellD
  have k2 : w1.cell? ⟨t, 2, none⟩ = some (.pointer (some ⟨r1, 0, none⟩)) := P1.cellR
  have k3 : w1.cell? ⟨t, 3, none⟩ = some (.pointer (some ⟨r2, 0, none⟩)) := P1.cellS
  have hC1 : AryAt w1 c xc := P1.cc
  have hok : Okr xc := P1.oc
  have HP1 := hyd P1
  have HOK := hyd hok
  clear P1 hok
  clear k1 k3
  go_wp2_with fail
  refine (clone_yes c xc _ hC1).mono ?_
  rintro e w2 ⟨rfl, C2, G2, -⟩
  have hz1 : w1.heap.size ≤ w1.heap.size := Nat.le_refl _
  have HC2 := hyd C2
  have HG2 := hyd G2
  have htw2 := HP1.out.two.chg G2 (fun f => f)
  have T2 := two_set (σ' := { (⟨col1, c, d, r1, r2, nw, nw, xc, xc, sd, vt, vw, Vt, Vw, L⟩ : Sta) with d := w1.heap.size }) htw2 1 (.pointer (some ⟨w1.heap.size, 0, none⟩)) (by omega) rfl
  have g1 : w2.cell? ⟨t, 1, none⟩ = some (.pointer (some ⟨d, 0, none⟩)) := htw2.cell 1 (by omega)
  have f1 := htw2.frozen 1
  have hGt : Chg (· = t) w1 (w2.setCell ⟨t, 1, none⟩ (.pointer (some ⟨w1.heap.size, 0, none⟩))) := (G2.mono (T := (· = t)) (fun _ _ f => f.elim)).setCell (Or.inl rfl) 1 _
  have hR2 := HP1.out.rc.chg hGt (fun k hk e => by have h1 := HP1.out.kt; simp only at hk h1; rw [e, h1] at hk; omega)
  have g2 : (w2.setCell ⟨t, 1, none⟩ (.pointer (some ⟨w1.heap.size, 0, none⟩))).cell? ⟨t, 2, none⟩ = some (.pointer (some ⟨r1, 0, none⟩)) := T2.cell 2 (by omega)
  clear C2 G2 hC1 o1 o2 o3 k0 k2 hGt
  generalize hw3 : w2.setCell ⟨t, 1, none⟩ (.pointer (some ⟨w1.heap.size, 0, none⟩)) = w3 at *
  have HW3 := hyd hw3
  clear hw3
  go_wp2_with (first | rw [HW3.out])
  refine (rclone_any _ r1 xc HOK.out _ hR2).mono ?_
  rintro e w4 ⟨q, rfl, R4, G4⟩
  have htw4 := T2.chg G4 (fun f => f)
  have T4 := two_set (σ' := { (⟨col1, c, w1.heap.size, r1, r2, nw, nw, xc, xc, sd, vt, vw, Vt, Vw, L⟩ : Sta) with r2 := q }) htw4 3 (.pointer (some ⟨q, 0, none⟩)) (by omega) rfl
  have g3 : w4.cell? ⟨t, 3, none⟩ = some (.pointer (some ⟨r2, 0, none⟩)) := htw4.cell 3 (by omega)
  have f3 := htw4.frozen 3
  have g5 : (w4.setCell ⟨t, 3, none⟩ (.pointer (some ⟨q, 0, none⟩))).cell? ⟨t, 1, none⟩ = some (.pointer (some ⟨w1.heap.size, 0, none⟩)) := T4.cell 1 (by omega)
  have P5 := HP1.out.cloned (w1 := w2) (w2 := w4) w1.heap.size q HC2.out hz1 HG2.out (.pointer (some ⟨w1.heap.size, 0, none⟩)) (by rw [HW3.out]; exact R4) (by rw [HW3.out]; exact G4) (.pointer (some ⟨q, 0, none⟩)) T4
  have HP5 := hyd P5
  clear P5 T2 T4 htw2 htw4 R4 G4 hR2 hrow g2
  go_wp2
  go_ret
  exact ⟨rfl, _, HP5.out, rfl, rfl, Nat.le_succ _⟩
end Go.Proofs.Ythpjdnfalecbeaa
