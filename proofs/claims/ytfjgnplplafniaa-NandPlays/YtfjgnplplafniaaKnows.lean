/-
  (*Two).knows answers true. Condition: both chips stand alike.
-/
import Derived.Test.YtfjgnplplafniaaPst
import Derived.Deep.RegionHeld3
namespace Go.Proofs.Ytfjgnplplafniaa
open Go.RowKit
set_option maxRecDepth 100000

theorem info33_all : (Try.prog.info? 33).map (fun i => (i.zero, i.size, i.bytes)) = some (some (.slice none 0 0), 1, 24) := by kernel_rfl
theorem info33 : ∃ i, Try.prog.info? 33 = some i ∧ i.zero = some (.slice none 0 0) ∧ i.size = 1 ∧ i.bytes = 24 := by
  have h := info33_all
  cases e : Try.prog.info? 33 with
  | none => rw [e] at h; cases h
  | some i =>
    rw [e] at h
    simp only [Option.map_some, Option.some.injEq, Prod.mk.injEq] at h
    exact ⟨i, rfl, h.1, h.2.1, h.2.2⟩
theorem chgTo {w0 w w' : World} (h : Chg (fun _ => False) w0 w) (h' : Chg (fun _ => False) w w') : Chg (fun _ => False) w0 w' := h.trans h'
/-- What both answer is the same, and stays so. -/
def Alike (B : Prop) (w0 w' : World) (t : Nat) (σ σ' : Sta) : Prop := Pst B w0 w' t σ' ∧ σ'.xc = σ'.sc ∧ σ'.nw = σ'.nt ∧ σ'.nt ≤ σ.nt + 1
set_option maxHeartbeats 8000000 in
theorem knows_any (B : Prop) (w0 : World) (t : Nat) (σ : Sta) (a b : Int) (w : World) (h : Pst B w0 w t σ) (hx : σ.xc = σ.sc) (hn : σ.nw = σ.nt) (hb : σ.nt ≤ 5864062014000) :
    Calls Try.prog 41 #[.pointer (some ⟨t, 0, none⟩), .int .i64 a, .int .i64 b] w fun e w' => e = .returned (.bool true) ∧ ∃ σ', Alike B w0 w' t σ σ' := by
  obtain ⟨col, c, d, r1, r2, nt, nw, sc, xc, sd, vt, vw, Vt, Vw, L⟩ := σ
  simp only at hx hn hb
  subst hx hn
  obtain ⟨i33, p1, p2, p3, p4⟩ := info33
  have hi5 := info5
  have k0 := h.cellC
  have k2 := h.cellR
  simp only at k0 k2
  have tlt : t < w.heap.size := h.two.lt
  have HH := hyd h
  clear h
  have cell : ∀ (w' : World) (i : Nat) (v : Value), Chg (fun _ => False) w w' → w.cell? ⟨t, i, none⟩ = some v → w'.cell? ⟨t, i, none⟩ = some v := fun w' i v hG hc => (World.cell?_of_block (a := ⟨t, i, none⟩) (hG.block t tlt (fun f => f))).trans hc
  have HCell := hyd cell
  clear cell
  have HD := hyd (dmgV_code xc a b)
  have HT := hyd (truV_code xc a b)
  have HR := hyd (rdsV_code xc a)
  have HF := hyd (fldV_code xc a)
  have HTL := hyd (truV_len HH.out.oc a b)
  have GC := hyd fun (w' : World) (hG : Chg (fun _ => False) w w') => HH.out.cc.chg hG (fun f => f)
  have GR := hyd fun (w' : World) (hG : Chg (fun _ => False) w w') => HH.out.rc.chg hG (fun _ _ f => f)
  have HOK := hyd HH.out.oc
  simp only at *
  go_enter Try.func41, Try.ntmps41
  go_wp2_with fail
  refine (damage_v c xc HOK.out a b _ HH.out.cc).mono ?_
  rintro e w1 ⟨rfl, G1⟩
  have k21 := HCell.out _ 2 _ G1 k2
  have k01 := HCell.out _ 0 _ G1 k0
  go_wp2_with fail
  refine (rdamage_v r1 xc HOK.out _ a b _ (GR.out w1 G1)).mono ?_
  rintro e w2 ⟨rfl, G2⟩
  have G2' := chgTo G1 G2
  have k22 := HCell.out _ 2 _ G2' k2
  have k02 := HCell.out _ 0 _ G2' k0
  clear G2
  generalize dmgV xc a b = D at *
  obtain ⟨x1, x2, x3⟩ := D
  simp only at *
  go_wp2_with fail
  refine (truth_v c xc HOK.out a b _ (GC.out w2 G2')).mono ?_
  rintro e w3 ⟨ad1, n1, cap1, rfl, hn1, hO3, G3⟩
  subst hn1
  have G3' := chgTo G2' G3
  have k23 := HCell.out _ 2 _ G3' k2
  have k03 := HCell.out _ 0 _ G3' k0
  have hs2 := G2'.size
  clear G3
  go_wp2_with fail
  refine (rtruth_v r1 xc HOK.out _ a b _ (GR.out w3 G3')).mono ?_
  rintro e w4 ⟨ad2, n2, cap2, rfl, hn2, hH4, hno, hF4, G4⟩
  subst hn2
  have G4' := chgTo G3' G4
  have k24 := HCell.out _ 2 _ G4' k2
  have k04 := HCell.out _ 0 _ G4' k0
  have hO4 := hO3.chg G4 (fun _ _ _ f => f)
  generalize truV xc a b = T at *
  obtain ⟨l, tis, tcd⟩ := T
  simp only at *
  clear hO3
  go_wp2_with fail
  refine (reads_v c xc a _ (GC.out w4 G4')).mono ?_
  rintro e w5 ⟨rfl, G5⟩
  have G5' := chgTo G4' G5
  have k25 := HCell.out _ 2 _ G5' k2
  have k05 := HCell.out _ 0 _ G5' k0
  go_wp2_with fail
  refine (rreads_v r1 xc _ a _ (GR.out w5 G5')).mono ?_
  rintro e w6 ⟨rfl, G6⟩
  have G6' := chgTo G5' G6
  have G46 := chgTo G5 G6
  have k26 := HCell.out _ 2 _ G6' k2
  have k06 := HCell.out _ 0 _ G6' k0
  clear G5 G6
  generalize rdsV xc a = R at *
  obtain ⟨y1, y2⟩ := R
  simp only at *
  go_wp2_with fail
  refine (failed_v c xc a _ (GC.out w6 G6')).mono ?_
  rintro e w7 ⟨rfl, G7⟩
  have G7' := chgTo G6' G7
  have G47 := chgTo G46 G7
  have k27 := HCell.out _ 2 _ G7' k2
  have k07 := HCell.out _ 0 _ G7' k0
  clear G7 G46
  go_wp2_with fail
  refine (rfailed_v r1 xc _ a _ (GR.out w7 G7')).mono ?_
  rintro e w8 ⟨rfl, G8⟩
  have G8' := chgTo G7' G8
  have G48 := chgTo G47 G8
  clear G8 G47
  generalize fldV xc a = Fv at *
  obtain ⟨z1, z2⟩ := Fv
  simp only at *
  have hO8 := hO4.chg G48 (fun _ _ _ f => f)
  have hH8 := hH4.chg G48 (fun _ _ _ f => f)
  have hll : l.length ≤ 64 := by rcases HTL.out with e | e; omega; rw [e]; decide
  clear hO4 hH4 G4 G48
  clear k01 k02 k03 k04 k05 k06 k07 k21 k22 k23 k24 k25 k26 k27 G1 G2' G3' G4' G5' G6' G7'
  have hb1 : (z1 != z1) = false := by cases z1 <;> rfl
  have hb2 : (tis != tis) = false := by cases tis <;> rfl
  have HNO := hyd hno
  have HO8 := hyd hO8
  have HH8 := hyd hH8
  have HF4 := hyd hF4
  clear hno hO8 hH8 hF4
  go_wp2_with fail
  refine (same_any w8 ad1 ad2 cap1 cap2 l l HO8.out.held HH8.out (by omega) (by omega)).mono ?_
  rintro e w9 ⟨rfl, G9⟩
  rw [show decide (l = l) = true from decide_eq_true rfl]
  have G9' := chgTo G8' G9
  have HH9 := hyd (HH8.out.chg G9 (fun _ _ _ f => f))
  have HO9 := hyd (HO8.out.chg G9 (fun _ _ _ f => f))
  clear G9 HH8 HO8
  have HSR : Hid (∀ adx, ad2 = some adx → ∀ j, j < l.length → w9.cell? (adx.add j) = some (.int .u8 (l.getD j 0 : Nat))) := by
    intro adx e j hj
    subst e
    obtain ⟨a', c', hv, hx | ⟨g, o, ha, hg, hc⟩⟩ := HH9.out
    · omega
    · simp only [Value.slice.injEq] at hv
      have e := Option.some.inj (hv.1.trans ha)
      subst e
      rw [Addr.add_mid]
      exact hc j hj
  go_wp2_with (at_builtin; refine wpList_append_bytes _ rfl (.tmp 141) (.tmp 142) 33 rfl w9.heap.size 5 Try.underlying33 hi5 _ [] rfl (Own.nil _ _ _) ad2 l.length cap2 l rfl rfl HNO.out HSR.out (by simp; omega) (Nat.le_refl _) w9.heap.size rfl ?_)
  intro v10 w10 hO10 hg10 hat10
  have G10 : Chg (fun _ => False) w9 w10 := grown_none hg10
  have G10' := chgTo G9' G10
  have P10 := HH.out.still G10'
  have HV := hyd (HO9.out.chg G10 (fun _ _ _ f => f))
  have hvb9 : ∀ k, (Value.slice ad1 l.length cap1).ownBlock = some k → w2.heap.size ≤ k ∧ k < w9.heap.size := fun k hk => HO9.out.block hk
  have HVB := hyd hvb9
  clear hvb9
  have hs9 := G9'.size
  have hs10 := G10.size
  have k4 := P10.cellT
  have f4 := P10.frozen 4
  simp only at k4
  clear hg10 hat10 HSR HH9 HO9 G9' G8'
  have hV0 : OwnT w10 w0.heap.size 5 (.slice ad1 l.length cap1) l := HV.out.mono (fun k hk => by have := (HVB.out k hk).1; have := HH.out.chg.size; omega)
  have hcol0 : ∀ k, (Value.slice ad1 l.length cap1).ownBlock = some k → paint col w w10 0 k = 0 := fun k hk => by
    have := HVB.out k hk
    unfold paint; rw [if_pos (by omega)]
  have hA11 : Chg (fun _ => False) w10 (w10.alloc (.cells #[.slice ad1 l.length cap1] 33)) := (Chg.refl _ _).alloc _
  have HO11 := hyd (ownsRow_chg P10.told hA11 (fun _ _ f => f))
  have HCL := hyd (cells_new w10 [.slice ad1 l.length cap1] 33)
  have HX : Hid (∀ u ∈ ([.slice ad1 l.length cap1] : List Value), u.oneCell' = true) := by intro u hu; simp only [List.mem_cons, List.not_mem_nil, or_false] at hu; rw [hu]; rfl
  have hbase : w0.heap.size ≤ (w10.alloc (.cells #[.slice ad1 l.length cap1] 33)).heap.size := Nat.le_trans P10.chg.size hA11.size
  have HP10 := hyd P10
  have HV0 := hyd hV0
  have HC0 := hyd hcol0
  have HA11 := hyd hA11
  have hz11 : (w10.alloc (.cells #[.slice ad1 l.length cap1] 33)).heap.size = w10.heap.size + 1 := by simp
  have HO10 := hyd hO10
  have k4' : (w10.alloc (.cells #[.slice ad1 l.length cap1] 33)).cell? ⟨t, 4, none⟩ = some vt := by rw [World.cell?_alloc_lt _ _ _ HP10.out.two.lt]; exact k4
  clear P10 hV0 hcol0 hA11 hO10
  generalize hw11 : w10.alloc (.cells #[.slice ad1 l.length cap1] 33) = w11 at *
  have HW11 := hyd hw11
  clear hw11
  go_wp2_with (first | rw [HW11.out] | (at_builtin; refine wpList_append_own_at _ rfl (.tmp 148) (.tmp 150) 29 rfl w0.heap.size 33 i33 _ 1 24 Try.underlying29 p1 p2 p3 p4 rfl (by decide) _ nw _ rfl HO11.out ⟨w10.heap.size, 0, none⟩ 1 1 [.slice ad1 l.length cap1] rfl rfl HCL.out HX.out (by unfold maxLen; omega) (by omega) hbase ?_))
  intro vN w12 hO12 hg12 hnil12 hat12
  obtain ⟨gT, cT, rfl, -, -, -⟩ := ownsRow_row hO12 (Nat.succ_ne_zero nw)
  have hat12' : (Value.slice (some ⟨gT, 0, none⟩) (nw + 1) cT).ownBlock = vt.ownBlock ∨ ∃ k, (Value.slice (some ⟨gT, 0, none⟩) (nw + 1) cT).ownBlock = some k ∧ w10.heap.size ≤ k := by
    rcases hat12 with e | e
    · exact Or.inl e
    · exact Or.inr ⟨_, e, by omega⟩
  have P13 := HP10.out.pushT (.slice ad1 l.length cap1) (.slice (some ⟨gT, 0, none⟩) (nw + 1) cT) l HV0.out (by omega) HC0.out HA11.out hO12 hg12 hat12' (Nat.le_refl _)
  have k12 : w12.cell? ⟨t, 4, none⟩ = some vt := (hg12.cell_far ⟨t, 4, none⟩ (by have := HP10.out.two.lt; show t < _; omega) (fun e => by have := HP10.out.kvt t e.symm; rw [HP10.out.kt] at this; omega)).trans k4'
  have f12 : w12.frozen? ⟨t, 4, none⟩ = false := (hg12.frozen_far ⟨t, 4, none⟩ (by have := HP10.out.two.lt; show t < _; omega) (fun e => by have := HP10.out.kvt t e.symm; rw [HP10.out.kt] at this; omega)).trans (by rw [← HW11.out]; exact (HP10.out.two.alloc _).frozen 4)
  have hcol13 : ∀ k, v10.ownBlock = some k → (if (Value.slice (some ⟨gT, 0, none⟩) (nw + 1) cT).ownBlock = some k then 10 else if (Value.slice ad1 l.length cap1).ownBlock = some k then 6 else paint (paint col w w10 0) w10 w12 0 k) = 0 := by
    intro k hk
    have hb := HO10.out.block hk
    have n1 : ¬ (Value.slice (some ⟨gT, 0, none⟩) (nw + 1) cT).ownBlock = some k := by
      intro e2
      rcases hat12' with e3 | ⟨k2, e3, e4⟩
      · rw [e2] at e3; have := HP10.out.kvt k e3.symm
        have e5 : paint col w w10 0 k = 0 := by unfold paint; rw [if_pos (by omega)]
        simp only at this
        omega
      · rw [e2] at e3; have := Option.some.inj e3; omega
    have n2 : ¬ (Value.slice ad1 l.length cap1).ownBlock = some k := fun e2 => by have := HVB.out k e2; omega
    rw [if_neg n1, if_neg n2, paint_lt (by omega)]
    unfold paint; rw [if_pos (by omega)]
  have hG1013 : Chg (fun k => k = t ∨ vt.ownBlock = some k) w10 (w12.setCell ⟨t, 4, none⟩ (.slice (some ⟨gT, 0, none⟩) (nw + 1) cT)) := ((HA11.out.mono (T := fun k => k = t ∨ vt.ownBlock = some k) (fun _ _ f => f.elim)).grown hg12 (fun k hk => Or.inl (Or.inr hk))).setCell (Or.inl (Or.inl rfl)) 4 _
  have hH13 : Held (w12.setCell ⟨t, 4, none⟩ (.slice (some ⟨gT, 0, none⟩) (nw + 1) cT)) v10 l := HO10.out.held.chg hG1013 (fun k _ hk e => by
    have hb := HO10.out.block hk
    have e5 : paint col w w10 0 k = 0 := by unfold paint; rw [if_pos (by omega)]
    rcases e with e | e
    · rw [e] at hb; have := HP10.out.kt; simp only at this; rw [e] at e5; omega
    · have := HP10.out.kvt k e; simp only at this; omega)
  have HC13 := hyd hcol13
  have HH13 := hyd hH13
  have HVF : Hid (∃ a10 c10, v10 = .slice a10 l.length c10) := HO10.out.slice
  clear hcol13 hH13 hG1013 hat12 hnil12 hg12 hO12 HO11 HCL HX HA11 HP10 HV0 HC0 hat12' k4 f4
  have HP13 := hyd P13
  have k5 := P13.cellW
  simp only at k5
  have k13 := P13.cellC
  have k132 := P13.cellR
  clear P13
  generalize hw13 : w12.setCell ⟨t, 4, none⟩ (.slice (some ⟨gT, 0, none⟩) (nw + 1) cT) = w13 at *
  have HW13 := hyd hw13
  clear hw13
  obtain ⟨a10, c10, rfl⟩ := HVF.out
  have hA14 : Chg (fun _ => False) w13 (w13.alloc (.cells #[.slice a10 l.length c10] 33)) := (Chg.refl _ _).alloc _
  have HO14 := hyd (ownsRow_chg HP13.out.want hA14 (fun _ _ f => f))
  have HCL := hyd (cells_new w13 [.slice a10 l.length c10] 33)
  have HX : Hid (∀ u ∈ ([.slice a10 l.length c10] : List Value), u.oneCell' = true) := by intro u hu; simp only [List.mem_cons, List.not_mem_nil, or_false] at hu; rw [hu]; rfl
  have hbase14 : w0.heap.size ≤ (w13.alloc (.cells #[.slice a10 l.length c10] 33)).heap.size := Nat.le_trans HP13.out.chg.size hA14.size
  have hz14 : (w13.alloc (.cells #[.slice a10 l.length c10] 33)).heap.size = w13.heap.size + 1 := by simp
  have k5' : (w13.alloc (.cells #[.slice a10 l.length c10] 33)).cell? ⟨t, 5, none⟩ = some vw := by rw [World.cell?_alloc_lt _ _ _ HP13.out.two.lt]; exact k5
  have HA14 := hyd hA14
  clear hA14
  generalize hw14 : w13.alloc (.cells #[.slice a10 l.length c10] 33) = w14 at *
  have HW14 := hyd hw14
  clear hw14
  go_wp2_with (first | rw [HW13.out] | rw [HW14.out] | (at_builtin; refine wpList_append_own_at _ rfl (.tmp 158) (.tmp 160) 29 rfl w0.heap.size 33 i33 _ 1 24 Try.underlying29 p1 p2 p3 p4 rfl (by decide) _ nw _ rfl HO14.out ⟨w13.heap.size, 0, none⟩ 1 1 [.slice a10 l.length c10] rfl rfl HCL.out HX.out (by unfold maxLen; omega) (by omega) hbase14 ?_))
  intro vM w15 hO15 hg15 hnil15 hat15
  obtain ⟨gW, cW, rfl, -, -, -⟩ := ownsRow_row hO15 (Nat.succ_ne_zero nw)
  have hat15' : (Value.slice (some ⟨gW, 0, none⟩) (nw + 1) cW).ownBlock = vw.ownBlock ∨ ∃ k, (Value.slice (some ⟨gW, 0, none⟩) (nw + 1) cW).ownBlock = some k ∧ w13.heap.size ≤ k := by
    rcases hat15 with e | e
    · exact Or.inl e
    · exact Or.inr ⟨_, e, by omega⟩
  have P16 := HP13.out.pushW (.slice a10 l.length c10) (.slice (some ⟨gW, 0, none⟩) (nw + 1) cW) (fun _ => by show Held w13 _ (if nw = nw then l else L nw); rw [if_pos rfl]; exact HH13.out) HC13.out HA14.out hO15 hg15 hat15'
  have k15 : w15.cell? ⟨t, 5, none⟩ = some vw := (hg15.cell_far ⟨t, 5, none⟩ (by have := HP13.out.two.lt; show t < _; omega) (fun e => by have := HP13.out.kvw t e.symm; rw [HP13.out.kt] at this; omega)).trans k5'
  have f15 : w15.frozen? ⟨t, 5, none⟩ = false := (hg15.frozen_far ⟨t, 5, none⟩ (by have := HP13.out.two.lt; show t < _; omega) (fun e => by have := HP13.out.kvw t e.symm; rw [HP13.out.kt] at this; omega)).trans (by rw [← HW14.out]; exact (HP13.out.two.alloc _).frozen 5)
  clear hat15 hnil15 hg15 hO15 HO14 HCL HX HA14 HP13 HC13 HH13 hat15' k5 k5' k13 k132 k12 f12 k4'
  generalize hw16 : w15.setCell ⟨t, 5, none⟩ (.slice (some ⟨gW, 0, none⟩) (nw + 1) cW) = w16 at *
  have HW16 := hyd hw16
  clear hw16
  have k160 := P16.cellC
  have k162 := P16.cellR
  simp only at k160 k162
  obtain ⟨px, hpx⟩ := P16.rc
  have k161 := hpx.cOn
  have k163 := hpx.cSt
  simp only at k161 k163
  have HP16 := hyd P16
  clear P16 hpx
  go_wp2_with (first | rw [HW16.out])
  refine (code_any x3 HD.out w16).mono ?_
  rintro e wq ⟨rfl, rfl⟩
  go_wp2_with fail
  refine (code_any tcd HT.out wq).mono ?_
  rintro e wq2 ⟨rfl, rfl⟩
  go_wp2_with fail
  refine (code_any y2 HR.out wq2).mono ?_
  rintro e wq3 ⟨rfl, rfl⟩
  go_wp2_with fail
  refine (code_any z2 HF.out wq3).mono ?_
  rintro e wq4 ⟨rfl, rfl⟩
  have hb3 : (xc.on == xc.on) = true := by cases xc.on <;> rfl
  have hCC := HP16.out.cc
  simp only at hCC
  go_wp2_with fail
  go_region_held3 (fun wx => wx.cell? ⟨t, 0, none⟩ = some (.pointer (some ⟨c, 0, none⟩)) ∧ wx.cell? ⟨t, 2, none⟩ = some (.pointer (some ⟨r1, 0, none⟩)) ∧ wx.cell? ⟨r1, 1, none⟩ = some (.bool xc.on) ∧ wx.cell? ⟨r1, 3, none⟩ = some (.int .i64 xc.steps))
    (exact ⟨k160, k162, k161, k163⟩)
    (first | (go_at_call 15; refine (on_any c xc _ ?_).mono ?_; (exact hCC); rintro e wz ⟨rfl, rfl⟩) | (go_at_call 20; refine (steps_any c xc _ ?_).mono ?_; (exact hCC); rintro e wz ⟨rfl, rfl⟩))
  all_goals
    have P17 := HP16.out.still ((Chg.refl (fun _ => False) _).drew)
    go_wp2
    go_ret
    exact ⟨rfl, _, P17, rfl, rfl, Nat.le_refl _⟩
end Go.Proofs.Ytfjgnplplafniaa
