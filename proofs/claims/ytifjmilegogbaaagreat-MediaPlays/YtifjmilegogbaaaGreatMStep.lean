/-
  The steps of MediaPlays, all but Program and Read. Conditions: both stood alike.
-/
import Derived.Test.YtifjmilegogbaaaGreatMPst
namespace Go.Proofs.YtifjmilegogbaaaGreat
open Go.RowKit
set_option maxRecDepth 100000
set_option linter.unusedVariables false

set_option maxHeartbeats 8000000 in
theorem harm_power (w0 : World) (t c m p q b R rr : Nat) (F : Nat → Prop) (s : Chp) (r : Int) (K A B tp tf ts tc : Int) (tl : Bool) (f : Nat) (w : World) (h : Bst w0 w t c m p q b R rr F s r s r) (hK : -9223372036854775808 ≤ K ∧ K ≤ 9223372036854775807) (hA : A ≤ 9223372036854775807) (hB : B ≤ 9223372036854775807) (hf : f < 256) (hm : pkN K 10 = 7) :
    Calls Tryz.prog 43 #[.pointer (some ⟨t, 0, none⟩), (.agg #[.int .i64 K, .int .i64 A, .int .i64 B, .int .i64 tp, .int .i64 tf, .int .i64 ts, .int .i64 tc, .bool tl, .int .u8 (f : Nat)])] w fun e w' => StAns w0 w' t c m p q b R rr e := by
  have O0 := Opb.new w K A B tp tf ts tc tl f
  have G0 : Chg (fun _ => False) w (w.alloc (.cells #[.int .i64 K, .int .i64 A, .int .i64 B, .int .i64 tp, .int .i64 tf, .int .i64 ts, .int .i64 tc, .bool tl, .int .u8 (f : Nat)] 30)) := (Chg.refl _ w).alloc _
  have S0 := h.still G0
  have hol := h.lts
  have HM := hyd hm
  have hFo : ¬ F w.heap.size := fun f => by have := h.fl _ f; omega
  obtain ⟨o0, o1, o2, o3, o4, o5, o6, o7, o8⟩ := O0.cells
  obtain ⟨t0, t1, t2⟩ := S0.bth.cells
  obtain ⟨R0, R1⟩ := S0.rmd.cells
  have HS0 := hyd S0
  have HO0 := hyd O0
  clear O0 G0 S0 h hm
  go_enter Tryz.func43, Tryz.ntmps43
  go_wp2_with fail
  refine (pick_10 K hK.1 hK.2 _).mono ?_
  rintro e wq ⟨rfl, rfl⟩
  rw [HM.out]
  clear HM
  generalize w.alloc (.cells #[.int .i64 K, .int .i64 A, .int .i64 B, .int .i64 tp, .int .i64 tf, .int .i64 ts, .int .i64 tc, .bool tl, .int .u8 (f : Nat)] 30) = w1 at *
  generalize w.heap.size = o at *
  go_wp2_with fail
  refine (power_any c s _ HS0.out.chip).mono ?_
  rintro x w2 ⟨rfl, C2, G2⟩
  have S2 := HS0.out.chip' C2 HS0.out.ok.onn G2
  obtain ⟨e0, e1, e2⟩ := S2.bth.cells
  obtain ⟨E0, E1⟩ := S2.rmd.cells
  have HS2 := hyd S2
  clear C2 G2 S2 t0 t1 t2 R0 R1 HS0
  go_wp2_with fail
  refine (again_any rr s F w2 HS2.out.ref).mono ?_
  rintro x w3 ⟨rfl, R3, G3⟩
  have HS3 := hyd (HS2.out.chipd (x' := onS s) (RefAt.mono' R3 (fun k _ hk => Or.inl hk)) HS2.out.okx.onn G3)
  clear R3 G3 e0 e1 e2 E0 E1 HS2
  go_wp2
  go_ret
  exact ⟨rfl, _, _, _, HS3.out⟩
set_option maxHeartbeats 8000000 in
theorem harm_write (w0 : World) (t c m p q b R rr : Nat) (F : Nat → Prop) (s : Chp) (r : Int) (K A B tp tf ts tc : Int) (tl : Bool) (f : Nat) (w : World) (h : Bst w0 w t c m p q b R rr F s r s r) (hK : -9223372036854775808 ≤ K ∧ K ≤ 9223372036854775807) (hA : A ≤ 9223372036854775807) (hB : B ≤ 9223372036854775807) (hf : f < 256) (hm : pkN K 10 = 8) :
    Calls Tryz.prog 43 #[.pointer (some ⟨t, 0, none⟩), (.agg #[.int .i64 K, .int .i64 A, .int .i64 B, .int .i64 tp, .int .i64 tf, .int .i64 ts, .int .i64 tc, .bool tl, .int .u8 (f : Nat)])] w fun e w' => StAns w0 w' t c m p q b R rr e := by
  have O0 := Opb.new w K A B tp tf ts tc tl f
  have G0 : Chg (fun _ => False) w (w.alloc (.cells #[.int .i64 K, .int .i64 A, .int .i64 B, .int .i64 tp, .int .i64 tf, .int .i64 ts, .int .i64 tc, .bool tl, .int .u8 (f : Nat)] 30)) := (Chg.refl _ w).alloc _
  have S0 := h.still G0
  have hol := h.lts
  have HM := hyd hm
  have hFo : ¬ F w.heap.size := fun f => by have := h.fl _ f; omega
  obtain ⟨o0, o1, o2, o3, o4, o5, o6, o7, o8⟩ := O0.cells
  obtain ⟨t0, t1, t2⟩ := S0.bth.cells
  obtain ⟨R0, R1⟩ := S0.rmd.cells
  have HS0 := hyd S0
  have HO0 := hyd O0
  clear O0 G0 S0 h hm
  go_enter Tryz.func43, Tryz.ntmps43
  go_wp2_with fail
  refine (pick_10 K hK.1 hK.2 _).mono ?_
  rintro e wq ⟨rfl, rfl⟩
  rw [HM.out]
  clear HM
  generalize w.alloc (.cells #[.int .i64 K, .int .i64 A, .int .i64 B, .int .i64 tp, .int .i64 tf, .int .i64 ts, .int .i64 tc, .bool tl, .int .u8 (f : Nat)] 30) = w1 at *
  generalize w.heap.size = o at *
  go_wp2_with fail
  refine (data_fn 64 f (by omega) hf _).mono ?_
  rintro x w2 ⟨rfl, A2, G2⟩
  have S2 := HS0.out.still G2
  have O2 := HO0.out.chg G2 (fun f => f)
  have hl1 := HS0.out.lts
  have hF1 : ¬ F w1.heap.size := fun f => by have := HS0.out.fl _ f; omega
  have hol1 := HO0.out.lt
  generalize w1.heap.size = g at *
  have hheld : Held w2 (.slice (some ⟨g, 0, none⟩) 64 64) (dtl f 64) := A2.heldFull 64 64 (dtl_length _ _).symm
  have hal := A2.lt
  obtain ⟨t0, t1, t2⟩ := S2.bth.cells
  obtain ⟨R0, R1⟩ := S2.rmd.cells
  obtain ⟨o0, o1, o2, o3, o4, o5, o6, o7, o8⟩ := O2.cells
  have HH2 := hyd hheld
  have HS2 := hyd S2
  have HO2 := hyd O2
  clear A2 G2 S2 O2 hheld HS0 HO0
  go_wp2_with fail
  go_region_held3 (fun wx => wx.cell? ⟨t, 0, none⟩ = some (.pointer (some ⟨c, 0, none⟩)) ∧ wx.cell? ⟨o, 1, none⟩ = some (.int .i64 A) ∧ wx.cell? ⟨o, 2, none⟩ = some (.int .i64 B))
    (first | exact ⟨t0, o1, o2⟩ | exact ⟨e0, u1, u2⟩)
    (first
      | (go_at_call 73; refine (write_any c s HS2.out.ok A B (dtl f 64) _ _ (HH2.out.chgF ((Chg.refl _ w2).drew)) (slice_ne (by omega)) HS2.out.drew.chip).mono ?_; rintro x w3 ⟨rfl, C3, G3⟩; have S3 := HS2.out.drew.chip' C3 (writeR_ok HS2.out.ok A B (dtl_bys _ _)) G3; have O3 := (HO2.out.chg ((Chg.refl (fun _ => False) w2).drew) (fun f => f)).chg G3 (by omega); obtain ⟨e0, e1, e2⟩ := S3.bth.cells; obtain ⟨E0, E1⟩ := S3.rmd.cells; obtain ⟨-, u1, u2, -⟩ := O3.cells; have HS3 := hyd S3; have HO3 := hyd O3; have HH3 := hyd ((HH2.out.chgF ((Chg.refl _ w2).drew)).chg G3 (fun k _ hk e => by have := Option.some.inj hk; simp at this; omega)); clear C3 G3 S3 O3))
  clear t0 t1 t2 R0 R1 o0 o1 o2 o3 o4 o5 o6 o7 o8 HO2 HH2
  go_wp2_with fail
  go_region_held3 (fun wx => wx.cell? ⟨t, 2, none⟩ = some (.pointer (some ⟨R, 0, none⟩)) ∧ wx.cell? ⟨R, 0, none⟩ = some (.pointer (some ⟨rr, 0, none⟩)) ∧ wx.cell? ⟨o, 1, none⟩ = some (.int .i64 A) ∧ wx.cell? ⟨o, 2, none⟩ = some (.int .i64 B))
    (first | exact ⟨e2, E0, u1, u2⟩ | exact ⟨d2, D0, z1, z2⟩)
    (first
      | (go_at_call 37; refine (ncode_any _ (writeR_code s A B (dtl f 64)) _).mono ?_; rintro x w4 ⟨rfl, rfl⟩)
      | (go_at_call 62; refine (rwrite_any rr s HS3.out.okx F A B (dtl f 64) _ _ (HH3.out.chgF ((Chg.refl _ w3).drew)) (fun x hx => by have e := Option.some.inj hx; simp at e; subst e; exact hF1) HS3.out.drew.ref).mono ?_; rintro x w5 ⟨rfl, R5, G5⟩; have S5 := HS3.out.drew.chipd (x' := (writeR s A B (dtl f 64)).1) R5 (writeR_ok HS3.out.okx A B (dtl_bys _ _)) G5; have O5 := (HO3.out.chg ((Chg.refl (fun _ => False) w3).drew) (fun f => f)).chg G5 hFo; obtain ⟨d0, d1, d2⟩ := S5.bth.cells; obtain ⟨D0, D1⟩ := S5.rmd.cells; obtain ⟨-, z1, z2, -⟩ := O5.cells; have HS5 := hyd S5; clear R5 G5 S5 O5))
  clear e0 e1 e2 E0 E1 u1 u2 d0 d1 d2 D0 D1 z1 z2 HS2 HS3 HO3 HH3
  have heq : ((((writeR s A B (dtl f 64)).2 : Nat) : Int) == (((writeR s A B (dtl f 64)).2 : Nat) : Int)) = true := by simp
  go_wp2
  go_ret
  exact ⟨rfl, _, _, _, HS5.out⟩
set_option maxHeartbeats 8000000 in
theorem step_erase (w0 : World) (t c m p q b R rr : Nat) (F : Nat → Prop) (s : Chp) (r : Int) (K A B tp tf ts tc : Int) (tl : Bool) (f : Nat) (w : World) (h : Bst w0 w t c m p q b R rr F s r s r) (hK : -9223372036854775808 ≤ K ∧ K ≤ 9223372036854775807) (hA : A ≤ 9223372036854775807) (hB : B ≤ 9223372036854775807) (hf : f < 256) (hm : pkN K 10 = 2) :
    Calls Tryz.prog 9 #[.pointer (some ⟨t, 0, none⟩), (.agg #[.int .i64 K, .int .i64 A, .int .i64 B, .int .i64 tp, .int .i64 tf, .int .i64 ts, .int .i64 tc, .bool tl, .int .u8 (f : Nat)])] w fun e w' => StAns w0 w' t c m p q b R rr e := by
  have O0 := Opb.new w K A B tp tf ts tc tl f
  have G0 : Chg (fun _ => False) w (w.alloc (.cells #[.int .i64 K, .int .i64 A, .int .i64 B, .int .i64 tp, .int .i64 tf, .int .i64 ts, .int .i64 tc, .bool tl, .int .u8 (f : Nat)] 30)) := (Chg.refl _ w).alloc _
  have S0 := h.still G0
  have hol := h.lts
  have HM := hyd hm
  have hFo : ¬ F w.heap.size := fun f => by have := h.fl _ f; omega
  obtain ⟨o0, o1, o2, o3, o4, o5, o6, o7, o8⟩ := O0.cells
  obtain ⟨t0, t1, t2⟩ := S0.bth.cells
  obtain ⟨R0, R1⟩ := S0.rmd.cells
  have HS0 := hyd S0
  have HO0 := hyd O0
  clear O0 G0 S0 h hm
  go_enter Tryz.func9, Tryz.ntmps9
  go_wp2_with fail
  refine (pick_10 K hK.1 hK.2 _).mono ?_
  rintro e wq ⟨rfl, rfl⟩
  rw [HM.out]
  clear HM
  generalize w.alloc (.cells #[.int .i64 K, .int .i64 A, .int .i64 B, .int .i64 tp, .int .i64 tf, .int .i64 ts, .int .i64 tc, .bool tl, .int .u8 (f : Nat)] 30) = w1 at *
  generalize w.heap.size = o at *
  go_wp2_with fail
  go_region_held3 (fun wx => wx.cell? ⟨t, 1, none⟩ = some (.pointer (some ⟨m, 0, none⟩)) ∧ wx.cell? ⟨o, 1, none⟩ = some (.int .i64 A))
    (first | exact ⟨t1, o1⟩ | exact ⟨e1, u1⟩)
    (first
      | (go_at_call 41; refine (merase_any m c p q b r s HS0.out.ok _ HS0.out.drew.med HS0.out.drew.chip A).mono ?_; rintro x w2 ⟨rfl, C2, G2⟩; have S2 := HS0.out.drew.chip' C2 ((fun h => eraseR_ok h A) HS0.out.ok) G2; have O2 := (HO0.out.chg ((Chg.refl (fun _ => False) w1).drew) (fun f => f)).chg G2 (by omega); obtain ⟨e0, e1, e2⟩ := S2.bth.cells; obtain ⟨E0, E1⟩ := S2.rmd.cells; obtain ⟨-, u1, u2, -⟩ := O2.cells; have HS2 := hyd S2; have HO2 := hyd O2; clear C2 G2 S2 O2))
  clear t0 t1 t2 R0 R1 o0 o1 o2 o3 o4 o5 o6 o7 o8 HO0
  go_wp2_with fail
  go_region_held3 (fun wx => wx.cell? ⟨t, 2, none⟩ = some (.pointer (some ⟨R, 0, none⟩)) ∧ wx.cell? ⟨R, 0, none⟩ = some (.pointer (some ⟨rr, 0, none⟩)) ∧ wx.cell? ⟨o, 1, none⟩ = some (.int .i64 A))
    (first | exact ⟨e2, E0, u1⟩ | exact ⟨d2, D0, z1⟩)
    (first
      | (go_at_call 37; refine (ncode_any _ (eraseR_code s A) _).mono ?_; rintro x w3 ⟨rfl, rfl⟩)
      | (go_at_call 42; refine (rerase_any rr s HS2.out.okx F A _ HS2.out.drew.ref).mono ?_; rintro x w4 ⟨rfl, R3, G3⟩; have S3 := HS2.out.drew.chipd (x' := (eraseR s A).1) (R3) ((fun h => eraseR_ok h A) HS2.out.okx) G3; have O3 := (HO2.out.chg ((Chg.refl (fun _ => False) w2).drew) (fun f => f)).chg G3 hFo; obtain ⟨d0, d1, d2⟩ := S3.bth.cells; obtain ⟨D0, D1⟩ := S3.rmd.cells; obtain ⟨-, z1, z2, -⟩ := O3.cells; have HS3 := hyd S3; clear R3 G3 S3 O3))
  clear e0 e1 e2 E0 E1 u1 u2 d0 d1 d2 D0 D1 z1 z2 HS0 HS2 HO2
  have heq : ((((eraseR s A).2 : Nat) : Int) == (((eraseR s A).2 : Nat) : Int)) = true := by simp
  go_wp2
  go_ret
  exact ⟨rfl, _, _, _, HS3.out⟩
set_option maxHeartbeats 8000000 in
theorem step_reads (w0 : World) (t c m p q b R rr : Nat) (F : Nat → Prop) (s : Chp) (r : Int) (K A B tp tf ts tc : Int) (tl : Bool) (f : Nat) (w : World) (h : Bst w0 w t c m p q b R rr F s r s r) (hK : -9223372036854775808 ≤ K ∧ K ≤ 9223372036854775807) (hA : A ≤ 9223372036854775807) (hB : B ≤ 9223372036854775807) (hf : f < 256) (hm : pkN K 10 = 9) :
    Calls Tryz.prog 9 #[.pointer (some ⟨t, 0, none⟩), (.agg #[.int .i64 K, .int .i64 A, .int .i64 B, .int .i64 tp, .int .i64 tf, .int .i64 ts, .int .i64 tc, .bool tl, .int .u8 (f : Nat)])] w fun e w' => StAns w0 w' t c m p q b R rr e := by
  have O0 := Opb.new w K A B tp tf ts tc tl f
  have G0 : Chg (fun _ => False) w (w.alloc (.cells #[.int .i64 K, .int .i64 A, .int .i64 B, .int .i64 tp, .int .i64 tf, .int .i64 ts, .int .i64 tc, .bool tl, .int .u8 (f : Nat)] 30)) := (Chg.refl _ w).alloc _
  have S0 := h.still G0
  have hol := h.lts
  have HM := hyd hm
  have hFo : ¬ F w.heap.size := fun f => by have := h.fl _ f; omega
  obtain ⟨o0, o1, o2, o3, o4, o5, o6, o7, o8⟩ := O0.cells
  obtain ⟨t0, t1, t2⟩ := S0.bth.cells
  obtain ⟨R0, R1⟩ := S0.rmd.cells
  have HS0 := hyd S0
  have HO0 := hyd O0
  clear O0 G0 S0 h hm
  go_enter Tryz.func9, Tryz.ntmps9
  go_wp2_with fail
  refine (pick_10 K hK.1 hK.2 _).mono ?_
  rintro e wq ⟨rfl, rfl⟩
  rw [HM.out]
  clear HM
  generalize w.alloc (.cells #[.int .i64 K, .int .i64 A, .int .i64 B, .int .i64 tp, .int .i64 tf, .int .i64 ts, .int .i64 tc, .bool tl, .int .u8 (f : Nat)] 30) = w1 at *
  generalize w.heap.size = o at *
  have hrd := mreads_any m c p q b r w1.drew HS0.out.drew.med
  have heq : (((r : Int)) == r) = true := by simp
  go_wp2_with fail
  go_region_held3 (fun wx => wx.cell? ⟨t, 1, none⟩ = some (.pointer (some ⟨m, 0, none⟩)) ∧ wx.cell? ⟨t, 2, none⟩ = some (.pointer (some ⟨R, 0, none⟩)) ∧ wx.cell? ⟨R, 1, none⟩ = some (.int .i64 r))
    (first | exact ⟨t1, t2, R1⟩)
    (first
      | (go_at_call 17; refine hrd.mono ?_; rintro x w2 ⟨rfl, rfl⟩))
  clear t0 t1 t2 R0 R1 hrd
  go_wp2
  go_ret
  exact ⟨rfl, _, _, _, HS0.out.drew⟩
set_option maxHeartbeats 8000000 in
theorem step_harm (w0 : World) (t c m p q b R rr : Nat) (F : Nat → Prop) (s : Chp) (r : Int) (K A B tp tf ts tc : Int) (tl : Bool) (f : Nat) (w : World) (h : Bst w0 w t c m p q b R rr F s r s r) (hK : -9223372036854775808 ≤ K ∧ K ≤ 9223372036854775807) (hA : A ≤ 9223372036854775807) (hB : B ≤ 9223372036854775807) (hf : f < 256) (k : Nat) (hm : pkN K 10 = k) (hk : 3 ≤ k ∧ k ≤ 8) :
    Calls Tryz.prog 9 #[.pointer (some ⟨t, 0, none⟩), (.agg #[.int .i64 K, .int .i64 A, .int .i64 B, .int .i64 tp, .int .i64 tf, .int .i64 ts, .int .i64 tc, .bool tl, .int .u8 (f : Nat)])] w fun e w' => StAns w0 w' t c m p q b R rr e := by
  have O0 := Opb.new w K A B tp tf ts tc tl f
  have G0 : Chg (fun _ => False) w (w.alloc (.cells #[.int .i64 K, .int .i64 A, .int .i64 B, .int .i64 tp, .int .i64 tf, .int .i64 ts, .int .i64 tc, .bool tl, .int .u8 (f : Nat)] 30)) := (Chg.refl _ w).alloc _
  have S0 := h.still G0
  have hharm : Calls Tryz.prog 43 #[.pointer (some ⟨t, 0, none⟩), (.agg #[.int .i64 K, .int .i64 A, .int .i64 B, .int .i64 tp, .int .i64 tf, .int .i64 ts, .int .i64 tc, .bool tl, .int .u8 (f : Nat)])] (w.alloc (.cells #[.int .i64 K, .int .i64 A, .int .i64 B, .int .i64 tp, .int .i64 tf, .int .i64 ts, .int .i64 tc, .bool tl, .int .u8 (f : Nat)] 30)) fun e w' => StAns w0 w' t c m p q b R rr e := by
    rcases (by omega : k = 3 ∨ k = 4 ∨ k = 5 ∨ k = 6 ∨ k = 7 ∨ k = 8) with rfl | rfl | rfl | rfl | rfl | rfl
    · exact harm_flip w0 t c m p q b R rr F s r K A B tp tf ts tc tl f _ S0 hK hA hB hf hm
    · exact harm_failP w0 t c m p q b R rr F s r K A B tp tf ts tc tl f _ S0 hK hA hB hf hm
    · exact harm_failE w0 t c m p q b R rr F s r K A B tp tf ts tc tl f _ S0 hK hA hB hf hm
    · exact harm_cut w0 t c m p q b R rr F s r K A B tp tf ts tc tl f _ S0 hK hA hB hf hm
    · exact harm_power w0 t c m p q b R rr F s r K A B tp tf ts tc tl f _ S0 hK hA hB hf hm
    · exact harm_write w0 t c m p q b R rr F s r K A B tp tf ts tc tl f _ S0 hK hA hB hf hm
  have HM := hyd hm
  obtain ⟨o0, o1, o2, o3, o4, o5, o6, o7, o8⟩ := O0.cells
  have q0 : (((k : Nat) : Int) == 0) = false := by simp; omega
  have q1 : (((k : Nat) : Int) == 1) = false := by simp; omega
  have q2 : (((k : Nat) : Int) == 2) = false := by simp; omega
  have q9 : (((k : Nat) : Int) == 9) = false := by simp; omega
  clear O0 G0 S0 h hm
  go_enter Tryz.func9, Tryz.ntmps9
  go_wp2_with fail
  refine (pick_10 K hK.1 hK.2 _).mono ?_
  rintro e wq ⟨rfl, rfl⟩
  rw [HM.out]
  clear HM
  go_wp2_with fail
  refine hharm.mono ?_
  rintro x w2 ⟨rfl, hx⟩
  have HX := hyd hx
  clear hharm hx
  go_wp2
  go_ret
  exact ⟨rfl, HX.out⟩
end Go.Proofs.YtifjmilegogbaaaGreat
