/-
  (*Two).step: Read. Conditions: both arrays stand alike.
-/
import Derived.Test.YthpjdnfalecbeaaView
namespace Go.Proofs.Ythpjdnfalecbeaa
open Go.RowKit
set_option maxRecDepth 100000
set_option maxHeartbeats 8000000 in
theorem step_read (B : Prop) (w0 : World) (t : Nat) (σ : Sta) (K A Bb : Int) (f : Nat) (w : World) (h : Pst B w0 w t σ) (hx : σ.xc = σ.sc) (hn : σ.nw = σ.nt) (hb : σ.nt ≤ 5864062014000)
    (hK1 : -9223372036854775808 ≤ K) (hK2 : K ≤ 9223372036854775807) (_hf : f < 256) (hm : pkN 7 K = 1) :
    Calls Try.prog 8 #[.pointer (some ⟨t, 0, none⟩), .agg #[.int .i64 K, .int .i64 A, .int .i64 Bb, .int .u8 f]] w fun e w' => e = .returned (.bool true) ∧ ∃ σ', Alike B w0 w' t σ σ' := by
  obtain ⟨col, c, d, r1, r2, nt, nw, sc, xc, sd, vt, vw, Vt, Vw, L⟩ := σ
  simp only at hx hn hb
  subst hx hn
  have hrow := box_row w (.int .i64 K) (.int .i64 A) (.int .i64 Bb) (.int .u8 f)
  have hGa : Chg (fun _ => False) w (w.alloc (.cells #[.int .i64 K, .int .i64 A, .int .i64 Bb, .int .u8 f] 34)) := (Chg.refl _ _).alloc _
  have P1 := h.still hGa
  have hsz : (w.alloc (.cells #[.int .i64 K, .int .i64 A, .int .i64 Bb, .int .u8 f] 34)).heap.size = w.heap.size + 1 := by simp
  have ho : paint col w (w.alloc (.cells #[.int .i64 K, .int .i64 A, .int .i64 Bb, .int .u8 f] 34)) 0 w.heap.size = 0 := by unfold paint; rw [if_pos (by omega)]
  have HM := hyd hm
  clear hm hsz hGa h
  go_enter Try.func8, Try.ntmps8
  go_wp2_with fail
  refine (pick_7 K hK1 hK2 _).mono ?_
  rintro e wq ⟨rfl, rfl⟩
  rw [HM.out]
  generalize paint col w (w.alloc (.cells #[.int .i64 K, .int .i64 A, .int .i64 Bb, .int .u8 f] 34)) 0 = col1 at *
  generalize w.alloc (.cells #[.int .i64 K, .int .i64 A, .int .i64 Bb, .int .u8 f] 34) = w1 at *
  generalize w.heap.size = o at *
  clear HM hK1 hK2
  try simp only at P1
  have o1 : w1.cell? ⟨o, 1, none⟩ = some (.int .i64 A) := hrow.cell 1 (by omega)
  have o2 : w1.cell? ⟨o, 2, none⟩ = some (.int .i64 Bb) := hrow.cell 2 (by omega)
  have o3 : w1.cell? ⟨o, 3, none⟩ = some (.int .u8 f) := hrow.cell 3 (by omega)
  have k0 : w1.cell? ⟨t, 0, none⟩ = some (.pointer (some ⟨c, 0, none⟩)) := P1.cellC
  have k1 : w1.cell? ⟨t, 1, none⟩ = some (.pointer (some ⟨d, 0, none⟩)) := P1.cellD
  have k2 : w1.cell? ⟨t, 2, none⟩ = some (.pointer (some ⟨r1, 0, none⟩)) := P1.cellR
  have k3 : w1.cell? ⟨t, 3, none⟩ = some (.pointer (some ⟨r2, 0, none⟩)) := P1.cellS
  have hC1 : AryAt w1 c xc := P1.cc
  have hok : Okr xc := P1.oc
  have HP1 := hyd P1
  have HOK := hyd hok
  clear P1 hok
  clear k1 k3
  obtain ⟨i36, p1, p2, p3, p4⟩ := info36
  go_wp2_with fail
  go_region_held3 (fun wx => wx.cell? ⟨t, 0, none⟩ = some (.pointer (some ⟨c, 0, none⟩)) ∧ wx.cell? ⟨o, 1, none⟩ = some (.int .i64 A))
    (first | exact ⟨k0, o1⟩ | exact ⟨k0b, o1b⟩)
    (first | (go_at_call 15; refine (read_v c xc HOK.out A _ ?_).mono ?_; (exact hC1); rintro e w2 ⟨ad1, n1, cap1, rfl, hn1, hO2, C2, G2⟩; have P2 := HP1.out.drew.prog (readV xc A).1 (readV_ok HOK.out A) C2 G2; have k0b : w2.cell? ⟨t, 0, none⟩ = some (.pointer (some ⟨c, 0, none⟩)) := P2.cellC; have hrow2 := hrow.drew.chg G2 (fun e => by have h1 := HP1.out.kc; simp only at h1; rw [e, h1] at ho; omega); have o1b : w2.cell? ⟨o, 1, none⟩ = some (.int .i64 A) := hrow2.cell 1 (by omega)))
  have k2b : w2.cell? ⟨t, 2, none⟩ = some (.pointer (some ⟨r1, 0, none⟩)) := P2.cellR
  have ho2 : paint col1 w1.drew w2 0 o = 0 := by rw [paint_lt (show o < w1.drew.heap.size from hrow.lt)]; exact ho
  have hv2 : ∀ k, (Value.slice ad1 n1 cap1).ownBlock = some k → paint col1 w1.drew w2 0 k = 0 ∧ k < w2.heap.size := fun k hk => by
    have := hO2.block hk
    exact ⟨by unfold paint; rw [if_pos (by omega)], this.2⟩
  have HV2 := hyd hv2
  have HCo := hyd (readV_code xc A)
  have HOk2 := hyd (readV_ok HOK.out A)
  have HLen := hyd (readV_len HOK.out A)
  try simp only at P2
  generalize paint col1 w1.drew w2 0 = col2 at *
  have HP2 := hyd P2
  have HO2 := hyd (show OwnT w2 w0.heap.size 5 (.slice ad1 n1 cap1) (readV xc A).2.1 from hO2.mono (fun k hk => by have h1 := hO2.block hk; have h2 : w0.heap.size ≤ w1.heap.size := HP1.out.chg.size; have h3 : w1.heap.size ≤ k := h1.1; omega))
  subst hn1
  clear P2 C2 G2 hO2 hv2
  generalize hRR : readV xc A = RR at *
  have HRR := hyd hRR
  clear hRR
  obtain ⟨s2, l1, cd⟩ := RR
  try simp only at *
  go_wp2_with fail
  go_region_held3 (fun wx => wx.cell? ⟨t, 2, none⟩ = some (.pointer (some ⟨r1, 0, none⟩)) ∧ wx.cell? ⟨o, 1, none⟩ = some (.int .i64 A))
    (first | exact ⟨k2b, o1b⟩ | exact ⟨k2c, o1c⟩)
    (first | (go_at_call 24; refine (rread_v r1 xc HOK.out (fun k => col2 k = 3) A _ ?_).mono ?_; (exact HP2.out.drew.rc); rintro e w3 ⟨a10, n10, c10, rfl, hn10, hO3, R3, G3⟩; subst hn10; rw [HRR.out]; have hO3' := hO3; rw [HRR.out] at hO3'; have R3' := R3; rw [HRR.out] at R3'; have P3 := HP2.out.drew.ref0 s2 HOk2.out R3' G3; have k2c : w3.cell? ⟨t, 2, none⟩ = some (.pointer (some ⟨r1, 0, none⟩)) := P3.cellR; have hrow3 := hrow2.drew.chg G3 (fun e => absurd (ho2.symm.trans e) (by decide)); have o1c : w3.cell? ⟨o, 1, none⟩ = some (.int .i64 A) := hrow3.cell 1 (by omega)))
  have hll : l1.length ≤ 256 := by rcases HLen.out with e | e; omega; rw [e]; decide
  have hV3 : OwnT w3 w0.heap.size 5 (.slice ad1 l1.length cap1) l1 := (HO2.out.chg ((Chg.refl (fun _ => False) w2).drew) (fun _ _ _ f => f)).chg G3 (fun k _ hk (e : col2 k = 3) => by have := (HV2.out k hk).1; omega)
  try simp only at P3 hO3'
  have hcv : ∀ k, (Value.slice ad1 l1.length cap1).ownBlock = some k → paint col2 w2.drew w3 0 k = 0 ∧ k < w2.heap.size := fun k hk => by
    have h1 := HV2.out k hk
    exact ⟨by rw [paint_lt (show k < w2.drew.heap.size from h1.2)]; exact h1.1, h1.2⟩
  have hcw : ∀ k, (Value.slice a10 l1.length c10).ownBlock = some k → paint col2 w2.drew w3 0 k = 0 ∧ w2.heap.size ≤ k ∧ k < w3.heap.size := fun k hk => by
    have h1 := hO3'.block hk
    have h2 : w2.heap.size ≤ k := h1.1
    exact ⟨by unfold paint; rw [if_pos ⟨h2, h1.2⟩], h2, h1.2⟩
  generalize paint col2 w2.drew w3 0 = col3 at *
  have HP3 := hyd P3
  have HCV := hyd hcv
  have HCW3 := hyd hcw
  have HO3 := hyd hO3'
  have HV3 := hyd hV3
  clear P3 R3 R3' G3 hO3 hO3' hV3 hcv hcw hrow3 hrow2 hrow k2c o1c k0b o1b k2b o1 o2 o3 k0 k2
  go_wp2_with fail
  refine (same_any w3 ad1 a10 cap1 c10 l1 l1 HV3.out.held HO3.out.held (by omega) (by omega)).mono ?_
  rintro e w10 ⟨rfl, G10⟩
  rw [show decide (l1 = l1) = true from decide_eq_true rfl]
  have P10 := HP3.out.still G10
  have HV0 := hyd (HV3.out.chg G10 (fun _ _ _ f => f))
  have HO10 := hyd (HO3.out.chg G10 (fun _ _ _ f => f))
  have hc0 : ∀ k, (Value.slice ad1 l1.length cap1).ownBlock = some k → paint col3 w3 w10 0 k = 0 := fun k hk => by
    have h1 := HCV.out k hk
    have h2 := HV3.out.block hk
    rw [paint_lt h2.2]; exact h1.1
  have hcw0 : ∀ k, (Value.slice a10 l1.length c10).ownBlock = some k → paint col3 w3 w10 0 k = 0 := fun k hk => by
    have h1 := HCW3.out k hk
    rw [paint_lt h1.2.2]; exact h1.1
  have hdj : ∀ k, (Value.slice a10 l1.length c10).ownBlock = some k → ¬ (Value.slice ad1 l1.length cap1).ownBlock = some k := fun k hk e => by
    have h1 := HCW3.out k hk
    have h2 := HCV.out k e
    omega
  try simp only at P10
  generalize paint col3 w3 w10 0 = colP at *
  have HP10 := hyd P10
  have HC0 := hyd hc0
  have HCW := hyd hcw0
  have HDJ := hyd hdj
  clear P10 hc0 hcw0 hdj G10 HCV HCW3 HV3 HO3
  have k4 : w10.cell? ⟨t, 4, none⟩ = some vt := HP10.out.cellT
  have hA11 : Chg (fun _ => False) w10 (w10.alloc (.cells #[.slice ad1 l1.length cap1] 36)) := (Chg.refl _ _).alloc _
  have HO11 := hyd (ownsRow_chg HP10.out.told hA11 (fun _ _ f => f))
  have HCL := hyd (cells_new w10 [.slice ad1 l1.length cap1] 36)
  have HX : Hid (∀ u ∈ ([.slice ad1 l1.length cap1] : List Value), u.oneCell' = true) := by intro u hu; simp only [List.mem_cons, List.not_mem_nil, or_false] at hu; rw [hu]; rfl
  have hbase : w0.heap.size ≤ (w10.alloc (.cells #[.slice ad1 l1.length cap1] 36)).heap.size := Nat.le_trans HP10.out.chg.size hA11.size
  have HA11 := hyd hA11
  have hz11 : (w10.alloc (.cells #[.slice ad1 l1.length cap1] 36)).heap.size = w10.heap.size + 1 := by simp
  have k4' : (w10.alloc (.cells #[.slice ad1 l1.length cap1] 36)).cell? ⟨t, 4, none⟩ = some vt := by rw [World.cell?_alloc_lt _ _ _ HP10.out.two.lt]; exact k4
  clear hA11
  generalize hw11 : w10.alloc (.cells #[.slice ad1 l1.length cap1] 36) = w11 at *
  have HW11 := hyd hw11
  clear hw11
  go_wp2_with (first | rw [HW11.out] | (at_builtin; refine wpList_append_own_at _ rfl (.tmp 96) (.tmp 98) 29 rfl w0.heap.size 36 i36 _ 1 24 Try.underlying29 p1 p2 p3 p4 rfl (by decide) _ nw _ rfl HO11.out ⟨w10.heap.size, 0, none⟩ 1 1 [.slice ad1 l1.length cap1] rfl rfl HCL.out HX.out (by unfold maxLen; omega) (by omega) hbase ?_))
  intro vN w12 hO12 hg12 hnil12 hat12
  obtain ⟨gT, cT, rfl, -, -, -⟩ := ownsRow_row hO12 (Nat.succ_ne_zero nw)
  have hat12' : (Value.slice (some ⟨gT, 0, none⟩) (nw + 1) cT).ownBlock = vt.ownBlock ∨ ∃ k, (Value.slice (some ⟨gT, 0, none⟩) (nw + 1) cT).ownBlock = some k ∧ w10.heap.size ≤ k := by
    rcases hat12 with e | e
    · exact Or.inl e
    · exact Or.inr ⟨_, e, by omega⟩
  have P13 := HP10.out.pushT (.slice ad1 l1.length cap1) (.slice (some ⟨gT, 0, none⟩) (nw + 1) cT) l1 HV0.out (by omega) HC0.out HA11.out hO12 hg12 hat12' (Nat.le_refl _)
  have k12 : w12.cell? ⟨t, 4, none⟩ = some vt := (hg12.cell_far ⟨t, 4, none⟩ (by have := HP10.out.two.lt; show t < _; omega) (fun e => by have := HP10.out.kvt t e.symm; rw [HP10.out.kt] at this; omega)).trans k4'
  have f12 : w12.frozen? ⟨t, 4, none⟩ = false := (hg12.frozen_far ⟨t, 4, none⟩ (by have := HP10.out.two.lt; show t < _; omega) (fun e => by have := HP10.out.kvt t e.symm; rw [HP10.out.kt] at this; omega)).trans (by rw [← HW11.out]; exact (HP10.out.two.alloc _).frozen 4)
  have hcol13 : ∀ k, (Value.slice a10 l1.length c10).ownBlock = some k → (if (Value.slice (some ⟨gT, 0, none⟩) (nw + 1) cT).ownBlock = some k then 10 else if (Value.slice ad1 l1.length cap1).ownBlock = some k then 6 else paint colP w10 w12 0 k) = 0 := by
    intro k hk
    have hb := HO10.out.block hk
    have e5 := HCW.out k hk
    have n1 : ¬ (Value.slice (some ⟨gT, 0, none⟩) (nw + 1) cT).ownBlock = some k := by
      intro e2
      rcases hat12' with e3 | ⟨k2, e3, e4⟩
      · rw [e2] at e3; have := HP10.out.kvt k e3.symm
        simp only at this
        omega
      · rw [e2] at e3; have := Option.some.inj e3; omega
    rw [if_neg n1, if_neg (HDJ.out k hk), paint_lt (by omega)]
    exact e5
  have hG1013 : Chg (fun k => k = t ∨ vt.ownBlock = some k) w10 (w12.setCell ⟨t, 4, none⟩ (.slice (some ⟨gT, 0, none⟩) (nw + 1) cT)) := ((HA11.out.mono (T := fun k => k = t ∨ vt.ownBlock = some k) (fun _ _ f => f.elim)).grown hg12 (fun k hk => Or.inl (Or.inr hk))).setCell (Or.inl (Or.inl rfl)) 4 _
  have hH13 : Held (w12.setCell ⟨t, 4, none⟩ (.slice (some ⟨gT, 0, none⟩) (nw + 1) cT)) (.slice a10 l1.length c10) l1 := HO10.out.held.chg hG1013 (fun k _ hk e => by
    have e5 := HCW.out k hk
    rcases e with e | e
    · have := HP10.out.kt; simp only at this; rw [e] at e5; omega
    · have := HP10.out.kvt k e; simp only at this; omega)
  have HC13 := hyd hcol13
  have HH13 := hyd hH13
  clear hcol13 hH13 hG1013 hat12 hnil12 hg12 hO12 HO11 HCL HX HA11 HP10 HV0 HC0 hat12' k4
  have HP13 := hyd P13
  have k5 : (w12.setCell ⟨t, 4, none⟩ (.slice (some ⟨gT, 0, none⟩) (nw + 1) cT)).cell? ⟨t, 5, none⟩ = some vw := P13.cellW
  clear P13
  generalize hw13 : w12.setCell ⟨t, 4, none⟩ (.slice (some ⟨gT, 0, none⟩) (nw + 1) cT) = w13 at *
  have HW13 := hyd hw13
  clear hw13
  have hA14 : Chg (fun _ => False) w13 (w13.alloc (.cells #[.slice a10 l1.length c10] 36)) := (Chg.refl _ _).alloc _
  have HO14 := hyd (ownsRow_chg HP13.out.want hA14 (fun _ _ f => f))
  have HCL := hyd (cells_new w13 [.slice a10 l1.length c10] 36)
  have HX : Hid (∀ u ∈ ([.slice a10 l1.length c10] : List Value), u.oneCell' = true) := by intro u hu; simp only [List.mem_cons, List.not_mem_nil, or_false] at hu; rw [hu]; rfl
  have hbase14 : w0.heap.size ≤ (w13.alloc (.cells #[.slice a10 l1.length c10] 36)).heap.size := Nat.le_trans HP13.out.chg.size hA14.size
  have hz14 : (w13.alloc (.cells #[.slice a10 l1.length c10] 36)).heap.size = w13.heap.size + 1 := by simp
  have k5' : (w13.alloc (.cells #[.slice a10 l1.length c10] 36)).cell? ⟨t, 5, none⟩ = some vw := by rw [World.cell?_alloc_lt _ _ _ HP13.out.two.lt]; exact k5
  have HA14 := hyd hA14
  clear hA14
  generalize hw14 : w13.alloc (.cells #[.slice a10 l1.length c10] 36) = w14 at *
  have HW14 := hyd hw14
  clear hw14
  go_wp2_with (first | rw [HW13.out] | rw [HW14.out] | (at_builtin; refine wpList_append_own_at _ rfl (.tmp 106) (.tmp 108) 29 rfl w0.heap.size 36 i36 _ 1 24 Try.underlying29 p1 p2 p3 p4 rfl (by decide) _ nw _ rfl HO14.out ⟨w13.heap.size, 0, none⟩ 1 1 [.slice a10 l1.length c10] rfl rfl HCL.out HX.out (by unfold maxLen; omega) (by omega) hbase14 ?_))
  intro vM w15 hO15 hg15 hnil15 hat15
  obtain ⟨gW, cW, rfl, -, -, -⟩ := ownsRow_row hO15 (Nat.succ_ne_zero nw)
  have hat15' : (Value.slice (some ⟨gW, 0, none⟩) (nw + 1) cW).ownBlock = vw.ownBlock ∨ ∃ k, (Value.slice (some ⟨gW, 0, none⟩) (nw + 1) cW).ownBlock = some k ∧ w13.heap.size ≤ k := by
    rcases hat15 with e | e
    · exact Or.inl e
    · exact Or.inr ⟨_, e, by omega⟩
  have P16 := HP13.out.pushW (.slice a10 l1.length c10) (.slice (some ⟨gW, 0, none⟩) (nw + 1) cW) (fun _ => by show Held w13 _ (if nw = nw then l1 else L nw); rw [if_pos rfl]; exact HH13.out) HC13.out HA14.out hO15 hg15 hat15'
  have k15 : w15.cell? ⟨t, 5, none⟩ = some vw := (hg15.cell_far ⟨t, 5, none⟩ (by have := HP13.out.two.lt; show t < _; omega) (fun e => by have := HP13.out.kvw t e.symm; rw [HP13.out.kt] at this; omega)).trans k5'
  have f15 : w15.frozen? ⟨t, 5, none⟩ = false := (hg15.frozen_far ⟨t, 5, none⟩ (by have := HP13.out.two.lt; show t < _; omega) (fun e => by have := HP13.out.kvw t e.symm; rw [HP13.out.kt] at this; omega)).trans (by rw [← HW14.out]; exact (HP13.out.two.alloc _).frozen 5)
  clear hat15 hnil15 hg15 hO15 HO14 HCL HX HA14 HP13 HC13 HH13 hat15' k5 k5' k12 f12 k4'
  generalize hw16 : w15.setCell ⟨t, 5, none⟩ (.slice (some ⟨gW, 0, none⟩) (nw + 1) cW) = w16 at *
  have HW16 := hyd hw16
  clear hw16
  have HP16 := hyd P16
  clear P16
  go_wp2_with (first | rw [HW16.out])
  refine (code_any cd HCo.out w16).mono ?_
  rintro e wq ⟨rfl, rfl⟩
  go_wp2
  go_ret
  exact ⟨rfl, _, HP16.out, rfl, rfl, Nat.le_refl _⟩
end Go.Proofs.Ythpjdnfalecbeaa
