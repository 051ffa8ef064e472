/-
  The step Program of MediaPlays, refused. Conditions: both stood alike.
-/
import Derived.Test.YtifjmilegogbaaaGreatMPst
namespace Go.Proofs.YtifjmilegogbaaaGreat
open Go.RowKit
set_option maxRecDepth 100000
set_option linter.unusedVariables false

theorem at_held {w : World} {c o n cap : Nat} {l : List Nat} (h : Held w (.slice (some ⟨c, o, none⟩) n cap) l) (h0 : l.length ≠ 0) : At w c o l := by
  obtain ⟨g, o', e, hg, hc⟩ := h.at_ h0
  injection e with e
  injection e with e1 e2
  subst e1 e2
  exact ⟨hg, hc⟩
theorem prog_code {s : Chp} {r : Int} {a p o q c : Nat} {l : Bool} {Dt : List Nat} {s' : Chp} {r' : Int} {e : Nat} (h : ProgR s r a p o q c l Dt s' r' e) : nIsCode e := by
  rcases h with ⟨_, _, _, rfl⟩ | ⟨_, g, x, hR, ⟨_, rfl⟩ | ⟨_, _, rfl⟩ | ⟨_, _, rfl⟩⟩
  · exact wrN_code _ _ _ _
  · rw [hR.2.1]; exact readV_code _ _
  · exact Or.inl rfl
  · exact Or.inr (Or.inr (Or.inr (Or.inl rfl)))
set_option maxHeartbeats 8000000 in
theorem step_prog_no1 (w0 : World) (t c m p q b R rr : Nat) (F : Nat → Prop) (s : Chp) (r : Int) (K A B tp tf ts tc : Int) (tl : Bool) (f nn : Nat) (w : World) (h : Bst w0 w t c m p q b R rr F s r s r) (hK : -9223372036854775808 ≤ K ∧ K ≤ 9223372036854775807) (hA : A ≤ 9223372036854775807) (hB : B ≤ 9223372036854775807) (hf : f < 256) (hm : pkN K 10 = 0) (hB1 : 0 < B ∧ B < 1000) (hBn : B = nn) (hy : ¬ (May tp tf ts tc tl ∧ tp = A ∧ nn = 174)) :
    Calls Tryz.prog 9 #[.pointer (some ⟨t, 0, none⟩), (.agg #[.int .i64 K, .int .i64 A, .int .i64 B, .int .i64 tp, .int .i64 tf, .int .i64 ts, .int .i64 tc, .bool tl, .int .u8 (f : Nat)])] w fun e w' => StAns w0 w' t c m p q b R rr e := by
  have O0 := Opb.new w K A B tp tf ts tc tl f
  have G0 : Chg (fun _ => False) w (w.alloc (.cells #[.int .i64 K, .int .i64 A, .int .i64 B, .int .i64 tp, .int .i64 tf, .int .i64 ts, .int .i64 tc, .bool tl, .int .u8 (f : Nat)] 30)) := (Chg.refl _ w).alloc _
  have S0 := h.still G0
  have hol := h.lts
  have HM := hyd hm
  have HY := hyd hy
  clear hy
  have HBN := hyd hBn
  clear hBn
  have hFo : ¬ F w.heap.size := fun f => by have := h.fl _ f; omega
  obtain ⟨o0, o1, o2, o3, o4, o5, o6, o7, o8⟩ := O0.cells
  obtain ⟨t0, t1, t2⟩ := S0.bth.cells
  obtain ⟨R0, R1⟩ := S0.rmd.cells
  have HS0 := hyd S0
  have HO0 := hyd O0
  clear O0 G0 S0 h hm
  go_enter Tryz.func9, Tryz.ntmps9
  go_wp2_with fail
  refine (pick_10 K hK.1 hK.2 _).mono ?_
  rintro e wq ⟨rfl, rfl⟩
  rw [HM.out]
  clear HM
  generalize w.alloc (.cells #[.int .i64 K, .int .i64 A, .int .i64 B, .int .i64 tp, .int .i64 tf, .int .i64 ts, .int .i64 tc, .bool tl, .int .u8 (f : Nat)] 30) = w1 at *
  generalize w.heap.size = o at *
  have b1 : (0 : Int) < B := hB1.1
  have b2 : B < 1000 := hB1.2
  have hnb : nn ≤ 4096 := by have := HBN.out; omega
  go_wp2_with fail
  rw [HBN.out]
  refine (data_fn nn f (by omega) hf _).mono ?_
  rintro x w2 ⟨rfl, A2, G2⟩
  have S2 := HS0.out.still G2
  have O2 := HO0.out.chg G2 (fun f => f)
  have hl1 := HS0.out.lts
  have hF1 : ¬ F w1.heap.size := fun f => by have := HS0.out.fl _ f; omega
  have hol1 := HO0.out.lt
  generalize w1.heap.size = g at *
  have hgl := A2.lt
  have hheld : Held w2 (.slice (some ⟨g, 0, none⟩) nn nn) (dtl f nn) := A2.heldFull nn nn (dtl_length _ _).symm
  have hlend := lend_any w2 (some ⟨g, 0, none⟩) (dtl f nn) nn (fun e => by cases e) (by rw [dtl_length]; exact hheld) (by rw [dtl_length]; omega)
  rw [dtl_length] at hlend
  have HH2 := hyd hheld
  have HA2 := hyd A2
  have HS2 := hyd S2
  have HO2 := hyd O2
  clear A2 G2 S2 O2 hheld HS0 HO0 t0 t1 t2 R0 R1 o0 o1 o2 o3 o4 o5 o6 o7 o8
  go_wp2_with fail
  refine hlend.mono ?_
  rintro x w3 ⟨ls, lf, lg, rfl, hLt, G3⟩
  clear hlend
  have hlt3 := hLt.lts
  have S3 := HS2.out.still G3
  have O3 := HO2.out.chg G3 (fun f => f)
  have hl2 := HS2.out.lts
  have hol2 := HO2.out.lt
  have hF3 : ∀ k, w2.heap.size ≤ k → ¬ F k := fun k hk f => by have := (HS2.out.fl k f).1; omega
  obtain ⟨t0, t1, t2⟩ := S3.bth.cells
  obtain ⟨o0, o1, o2, o3, o4, o5, o6, o7, o8⟩ := O3.cells
  have hml : (dtl f nn ++ mrk 5).length = nn + 5 := by rw [List.length_append, mrk_length, dtl_length]
  have htk : (dtl f nn ++ mrk 5).take nn = dtl f nn := List.take_left' (dtl_length _ _)
  have HLt := hyd hLt
  have HS3 := hyd S3
  have HO3 := hyd O3
  have HA3 := hyd (HA2.out.chg G3 (fun f => f))
  have HML := hyd hml
  have HTK := hyd htk
  clear hLt G3 S3 O3 HS2 HO2 HA2 HH2 hml htk
  go_wp2_with fail
  go_region_held3 (fun wx => wx.cell? ⟨t, 1, none⟩ = some (.pointer (some ⟨m, 0, none⟩)) ∧ wx.cell? ⟨o, 1, none⟩ = some (.int .i64 A) ∧ wx.cell? ⟨o, 3, none⟩ = some (.int .i64 tp) ∧ wx.cell? ⟨o, 4, none⟩ = some (.int .i64 tf) ∧ wx.cell? ⟨o, 5, none⟩ = some (.int .i64 ts) ∧ wx.cell? ⟨o, 6, none⟩ = some (.int .i64 tc) ∧ wx.cell? ⟨o, 7, none⟩ = some (.bool tl))
    (first | exact ⟨t1, o1, o3, o4, o5, o6, o7⟩ | exact ⟨e1, u1, u3, u4, u5, u6, u7⟩ | exact ⟨f1, y1, y3, y4, y5, y6, y7⟩)
    (first
      | (go_at_call 34; refine (bytes_any w3.drew w2.heap.size ls lf lg nn (dtl f nn ++ mrk 5) (dtl f nn ++ mrk 5) (HLt.out.chg ((Chg.refl (fun _ => False) w3).drew) (fun f => f) (fun f => f) (fun f => f)) (by rw [HML.out]; omega) (by rw [HML.out]; omega) (by rw [HML.out]; omega)).mono ?_; rintro x w4 ⟨cf, rfl, hHb, hcf, G4⟩; rw [HTK.out] at hHb; have S4 := HS3.out.drew.still G4; have O4 := (HO3.out.chg ((Chg.refl (fun _ => False) w3).drew) (fun f => f)).chg G4 (fun f => f); obtain ⟨e0, e1, e2⟩ := S4.bth.cells; obtain ⟨-, u1, u2, u3, u4, u5, u6, u7, u8⟩ := O4.cells; have HS4 := hyd S4; have HO4 := hyd O4; have HHb := hyd (hHb.chgF G4); have HLt4 := hyd ((HLt.out.chg ((Chg.refl (fun _ => False) w3).drew) (fun f => f) (fun f => f) (fun f => f)).chg G4 (fun f => f) (fun f => f) (fun f => f)); have HA4 := hyd ((HA3.out.chg ((Chg.refl (fun _ => False) w3).drew) (fun f => f)).chg G4 (fun f => f)); clear hHb S4 O4 G4)
      | (go_at_call 19; refine (mprogram_no m c p q b r w4 HS4.out.med A tp tf ts tc tl _ nn _ HY.out).mono ?_; rintro x w5 ⟨rfl, G5⟩; have S5 := HS4.out.still G5; have O5 := HO4.out.chg G5 (fun f => f); have HLt5 := hyd (HLt4.out.chg G5 (fun f => f) (fun f => f) (fun f => f)); have HA5 := hyd (HA4.out.chg G5 (fun f => f)); obtain ⟨f0, f1, f2⟩ := S5.bth.cells; obtain ⟨-, y1, y2, y3, y4, y5, y6, y7, y8⟩ := O5.cells; have HS5 := hyd S5; have HO5 := hyd O5; clear S5 O5 G5))
  clear t0 t1 t2 o0 o1 o2 o3 o4 o5 o6 o7 o8 e0 e1 e2 u1 u2 u3 u4 u5 u6 u7 u8 f0 f1 f2 y1 y2 y3 y4 y5 y6 y7 y8 HS3 HO3 HLt HA3 HS4 HO4 HHb HLt4 HA4
  go_wp2_with fail
  refine (kept_any w5 w2.heap.size ls lf lg nn (dtl f nn ++ mrk 5) (dtl f nn ++ mrk 5) HLt5.out (by rw [HML.out]; omega) (by rw [HML.out]; omega)).mono ?_
  rintro x w6 ⟨rfl, G6⟩
  rw [show decide (dtl f nn ++ mrk 5 = dtl f nn ++ mrk 5) = true from decide_eq_true rfl]
  have HS6 := hyd (HS5.out.still G6)
  have HO6 := hyd (HO5.out.chg G6 (fun f => f))
  have HLt6 := hyd (HLt5.out.chg G6 (fun f => f) (fun f => f) (fun f => f))
  have HA6 := hyd (HA5.out.chg G6 (fun f => f))
  clear G6 HS5 HO5 HLt5 HA5
  go_wp2_with fail
  refine (turn_any w6 w2.heap.size ls lf lg nn (dtl f nn ++ mrk 5) (dtl f nn ++ mrk 5) HLt6.out rfl (by rw [HML.out]; omega)).mono ?_
  rintro x w7 ⟨rfl, -, G7⟩
  have S7 := HS6.out.junk G7 (fun k e => by rcases e with e | e <;> subst e <;> exact ⟨hF3 _ (by omega), by omega⟩)
  have O7 := HO6.out.chg G7 (by omega)
  have HA7 := hyd (HA6.out.chg G7 (by omega))
  obtain ⟨t0, t1, t2⟩ := S7.bth.cells
  obtain ⟨o0, o1, o2, o3, o4, o5, o6, o7, o8⟩ := O7.cells
  have HS7 := hyd S7
  have HO7 := hyd O7
  clear G7 S7 O7 HS6 HO6 HLt6 HA6
  go_wp2_with fail
  go_region_held3 (fun wx => wx.cell? ⟨t, 2, none⟩ = some (.pointer (some ⟨R, 0, none⟩)) ∧ wx.cell? ⟨o, 1, none⟩ = some (.int .i64 A) ∧ wx.cell? ⟨o, 3, none⟩ = some (.int .i64 tp) ∧ wx.cell? ⟨o, 4, none⟩ = some (.int .i64 tf) ∧ wx.cell? ⟨o, 5, none⟩ = some (.int .i64 ts) ∧ wx.cell? ⟨o, 6, none⟩ = some (.int .i64 tc) ∧ wx.cell? ⟨o, 7, none⟩ = some (.bool tl))
    (first | exact ⟨t2, o1, o3, o4, o5, o6, o7⟩ | exact ⟨d2, z1, z3, z4, z5, z6, z7⟩)
    (first
      | (go_at_call 37; refine (ncode_1 _).mono ?_; rintro x w9 ⟨rfl, rfl⟩)
      | (go_at_call 38; refine (rmprogram_no R _ A tp tf ts tc tl _ nn _ HY.out).mono ?_; rintro x w8 ⟨rfl, G8⟩; have S8 := HS7.out.drew.still G8; have O8 := (HO7.out.chg ((Chg.refl (fun _ => False) w7).drew) (fun f => f)).chg G8 (fun f => f); obtain ⟨d0, d1, d2⟩ := S8.bth.cells; obtain ⟨-, z1, z2, z3, z4, z5, z6, z7, z8⟩ := O8.cells; have HS8 := hyd S8; clear S8 O8 G8))
  clear t0 t1 t2 o0 o1 o2 o3 o4 o5 o6 o7 o8 d0 d1 d2 z1 z2 z3 z4 z5 z6 z7 z8
  go_wp2
  go_ret
  exact ⟨rfl, _, _, _, HS8.out⟩
set_option maxHeartbeats 8000000 in
theorem step_prog_no2 (w0 : World) (t c m p q b R rr : Nat) (F : Nat → Prop) (s : Chp) (r : Int) (K A B tp tf ts tc : Int) (tl : Bool) (f : Nat) (w : World) (h : Bst w0 w t c m p q b R rr F s r s r) (hK : -9223372036854775808 ≤ K ∧ K ≤ 9223372036854775807) (hA : A ≤ 9223372036854775807) (hB : B ≤ 9223372036854775807) (hf : f < 256) (hm : pkN K 10 = 0) (hB1 : ¬ 0 < B) (hy : ¬ (May tp tf ts tc tl ∧ tp = A)) :
    Calls Tryz.prog 9 #[.pointer (some ⟨t, 0, none⟩), (.agg #[.int .i64 K, .int .i64 A, .int .i64 B, .int .i64 tp, .int .i64 tf, .int .i64 ts, .int .i64 tc, .bool tl, .int .u8 (f : Nat)])] w fun e w' => StAns w0 w' t c m p q b R rr e := by
  have O0 := Opb.new w K A B tp tf ts tc tl f
  have G0 : Chg (fun _ => False) w (w.alloc (.cells #[.int .i64 K, .int .i64 A, .int .i64 B, .int .i64 tp, .int .i64 tf, .int .i64 ts, .int .i64 tc, .bool tl, .int .u8 (f : Nat)] 30)) := (Chg.refl _ w).alloc _
  have S0 := h.still G0
  have hol := h.lts
  have HM := hyd hm
  have HY := hyd hy
  clear hy
  have hFo : ¬ F w.heap.size := fun f => by have := h.fl _ f; omega
  obtain ⟨o0, o1, o2, o3, o4, o5, o6, o7, o8⟩ := O0.cells
  obtain ⟨t0, t1, t2⟩ := S0.bth.cells
  obtain ⟨R0, R1⟩ := S0.rmd.cells
  have HS0 := hyd S0
  have HO0 := hyd O0
  clear O0 G0 S0 h hm
  go_enter Tryz.func9, Tryz.ntmps9
  go_wp2_with fail
  refine (pick_10 K hK.1 hK.2 _).mono ?_
  rintro e wq ⟨rfl, rfl⟩
  rw [HM.out]
  clear HM
  generalize w.alloc (.cells #[.int .i64 K, .int .i64 A, .int .i64 B, .int .i64 tp, .int .i64 tf, .int .i64 ts, .int .i64 tc, .bool tl, .int .u8 (f : Nat)] 30) = w1 at *
  generalize w.heap.size = o at *
  go_wp2_with fail
  refine (data_fn 174 f (by omega) hf _).mono ?_
  rintro x w2 ⟨rfl, A2, G2⟩
  have S2 := HS0.out.still G2
  have O2 := HO0.out.chg G2 (fun f => f)
  have hl1 := HS0.out.lts
  have hF1 : ¬ F w1.heap.size := fun f => by have := HS0.out.fl _ f; omega
  have hol1 := HO0.out.lt
  generalize w1.heap.size = g at *
  have hgl := A2.lt
  have hheld : Held w2 (.slice (some ⟨g, 0, none⟩) 174 174) (dtl f 174) := A2.heldFull 174 174 (dtl_length _ _).symm
  have hlend := lend_any w2 (some ⟨g, 0, none⟩) (dtl f 174) 174 (fun e => by cases e) (by rw [dtl_length]; exact hheld) (by rw [dtl_length]; omega)
  rw [dtl_length] at hlend
  have HH2 := hyd hheld
  have HA2 := hyd A2
  have HS2 := hyd S2
  have HO2 := hyd O2
  clear A2 G2 S2 O2 hheld HS0 HO0 t0 t1 t2 R0 R1 o0 o1 o2 o3 o4 o5 o6 o7 o8
  go_wp2_with fail
  refine hlend.mono ?_
  rintro x w3 ⟨ls, lf, lg, rfl, hLt, G3⟩
  clear hlend
  have hlt3 := hLt.lts
  have S3 := HS2.out.still G3
  have O3 := HO2.out.chg G3 (fun f => f)
  have hl2 := HS2.out.lts
  have hol2 := HO2.out.lt
  have hF3 : ∀ k, w2.heap.size ≤ k → ¬ F k := fun k hk f => by have := (HS2.out.fl k f).1; omega
  obtain ⟨t0, t1, t2⟩ := S3.bth.cells
  obtain ⟨o0, o1, o2, o3, o4, o5, o6, o7, o8⟩ := O3.cells
  have hml : (dtl f 174 ++ mrk 5).length = 174 + 5 := by rw [List.length_append, mrk_length, dtl_length]
  have htk : (dtl f 174 ++ mrk 5).take 174 = dtl f 174 := List.take_left' (dtl_length _ _)
  have HLt := hyd hLt
  have HS3 := hyd S3
  have HO3 := hyd O3
  have HA3 := hyd (HA2.out.chg G3 (fun f => f))
  have HML := hyd hml
  have HTK := hyd htk
  clear hLt G3 S3 O3 HS2 HO2 HA2 HH2 hml htk
  go_wp2_with fail
  go_region_held3 (fun wx => wx.cell? ⟨t, 1, none⟩ = some (.pointer (some ⟨m, 0, none⟩)) ∧ wx.cell? ⟨o, 1, none⟩ = some (.int .i64 A) ∧ wx.cell? ⟨o, 3, none⟩ = some (.int .i64 tp) ∧ wx.cell? ⟨o, 4, none⟩ = some (.int .i64 tf) ∧ wx.cell? ⟨o, 5, none⟩ = some (.int .i64 ts) ∧ wx.cell? ⟨o, 6, none⟩ = some (.int .i64 tc) ∧ wx.cell? ⟨o, 7, none⟩ = some (.bool tl))
    (first | exact ⟨t1, o1, o3, o4, o5, o6, o7⟩ | exact ⟨e1, u1, u3, u4, u5, u6, u7⟩ | exact ⟨f1, y1, y3, y4, y5, y6, y7⟩)
    (first
      | (go_at_call 34; refine (bytes_any w3.drew w2.heap.size ls lf lg 174 (dtl f 174 ++ mrk 5) (dtl f 174 ++ mrk 5) (HLt.out.chg ((Chg.refl (fun _ => False) w3).drew) (fun f => f) (fun f => f) (fun f => f)) (by rw [HML.out]; omega) (by rw [HML.out]; omega) (by rw [HML.out]; omega)).mono ?_; rintro x w4 ⟨cf, rfl, hHb, hcf, G4⟩; rw [HTK.out] at hHb; have S4 := HS3.out.drew.still G4; have O4 := (HO3.out.chg ((Chg.refl (fun _ => False) w3).drew) (fun f => f)).chg G4 (fun f => f); obtain ⟨e0, e1, e2⟩ := S4.bth.cells; obtain ⟨-, u1, u2, u3, u4, u5, u6, u7, u8⟩ := O4.cells; have HS4 := hyd S4; have HO4 := hyd O4; have HHb := hyd (hHb.chgF G4); have HLt4 := hyd ((HLt.out.chg ((Chg.refl (fun _ => False) w3).drew) (fun f => f) (fun f => f) (fun f => f)).chg G4 (fun f => f) (fun f => f) (fun f => f)); have HA4 := hyd ((HA3.out.chg ((Chg.refl (fun _ => False) w3).drew) (fun f => f)).chg G4 (fun f => f)); clear hHb S4 O4 G4)
      | (go_at_call 19; refine (mprogram_no m c p q b r w4 HS4.out.med A tp tf ts tc tl _ 174 _ (fun h => HY.out ⟨h.1, h.2.1⟩)).mono ?_; rintro x w5 ⟨rfl, G5⟩; have S5 := HS4.out.still G5; have O5 := HO4.out.chg G5 (fun f => f); have HLt5 := hyd (HLt4.out.chg G5 (fun f => f) (fun f => f) (fun f => f)); have HA5 := hyd (HA4.out.chg G5 (fun f => f)); obtain ⟨f0, f1, f2⟩ := S5.bth.cells; obtain ⟨-, y1, y2, y3, y4, y5, y6, y7, y8⟩ := O5.cells; have HS5 := hyd S5; have HO5 := hyd O5; clear S5 O5 G5))
  clear t0 t1 t2 o0 o1 o2 o3 o4 o5 o6 o7 o8 e0 e1 e2 u1 u2 u3 u4 u5 u6 u7 u8 f0 f1 f2 y1 y2 y3 y4 y5 y6 y7 y8 HS3 HO3 HLt HA3 HS4 HO4 HHb HLt4 HA4
  go_wp2_with fail
  refine (kept_any w5 w2.heap.size ls lf lg 174 (dtl f 174 ++ mrk 5) (dtl f 174 ++ mrk 5) HLt5.out (by rw [HML.out]; omega) (by rw [HML.out]; omega)).mono ?_
  rintro x w6 ⟨rfl, G6⟩
  rw [show decide (dtl f 174 ++ mrk 5 = dtl f 174 ++ mrk 5) = true from decide_eq_true rfl]
  have HS6 := hyd (HS5.out.still G6)
  have HO6 := hyd (HO5.out.chg G6 (fun f => f))
  have HLt6 := hyd (HLt5.out.chg G6 (fun f => f) (fun f => f) (fun f => f))
  have HA6 := hyd (HA5.out.chg G6 (fun f => f))
  clear G6 HS5 HO5 HLt5 HA5
  go_wp2_with fail
  refine (turn_any w6 w2.heap.size ls lf lg 174 (dtl f 174 ++ mrk 5) (dtl f 174 ++ mrk 5) HLt6.out rfl (by rw [HML.out]; omega)).mono ?_
  rintro x w7 ⟨rfl, -, G7⟩
  have S7 := HS6.out.junk G7 (fun k e => by rcases e with e | e <;> subst e <;> exact ⟨hF3 _ (by omega), by omega⟩)
  have O7 := HO6.out.chg G7 (by omega)
  have HA7 := hyd (HA6.out.chg G7 (by omega))
  obtain ⟨t0, t1, t2⟩ := S7.bth.cells
  obtain ⟨o0, o1, o2, o3, o4, o5, o6, o7, o8⟩ := O7.cells
  have HS7 := hyd S7
  have HO7 := hyd O7
  clear G7 S7 O7 HS6 HO6 HLt6 HA6
  go_wp2_with fail
  go_region_held3 (fun wx => wx.cell? ⟨t, 2, none⟩ = some (.pointer (some ⟨R, 0, none⟩)) ∧ wx.cell? ⟨o, 1, none⟩ = some (.int .i64 A) ∧ wx.cell? ⟨o, 3, none⟩ = some (.int .i64 tp) ∧ wx.cell? ⟨o, 4, none⟩ = some (.int .i64 tf) ∧ wx.cell? ⟨o, 5, none⟩ = some (.int .i64 ts) ∧ wx.cell? ⟨o, 6, none⟩ = some (.int .i64 tc) ∧ wx.cell? ⟨o, 7, none⟩ = some (.bool tl))
    (first | exact ⟨t2, o1, o3, o4, o5, o6, o7⟩ | exact ⟨d2, z1, z3, z4, z5, z6, z7⟩)
    (first
      | (go_at_call 37; refine (ncode_1 _).mono ?_; rintro x w9 ⟨rfl, rfl⟩)
      | (go_at_call 38; refine (rmprogram_no R _ A tp tf ts tc tl _ 174 _ (fun h => HY.out ⟨h.1, h.2.1⟩)).mono ?_; rintro x w8 ⟨rfl, G8⟩; have S8 := HS7.out.drew.still G8; have O8 := (HO7.out.chg ((Chg.refl (fun _ => False) w7).drew) (fun f => f)).chg G8 (fun f => f); obtain ⟨d0, d1, d2⟩ := S8.bth.cells; obtain ⟨-, z1, z2, z3, z4, z5, z6, z7, z8⟩ := O8.cells; have HS8 := hyd S8; clear S8 O8 G8))
  clear t0 t1 t2 o0 o1 o2 o3 o4 o5 o6 o7 o8 d0 d1 d2 z1 z2 z3 z4 z5 z6 z7 z8
  go_wp2
  go_ret
  exact ⟨rfl, _, _, _, HS8.out⟩
set_option maxHeartbeats 8000000 in
theorem step_prog_no3 (w0 : World) (t c m p q b R rr : Nat) (F : Nat → Prop) (s : Chp) (r : Int) (K A B tp tf ts tc : Int) (tl : Bool) (f : Nat) (w : World) (h : Bst w0 w t c m p q b R rr F s r s r) (hK : -9223372036854775808 ≤ K ∧ K ≤ 9223372036854775807) (hA : A ≤ 9223372036854775807) (hB : B ≤ 9223372036854775807) (hf : f < 256) (hm : pkN K 10 = 0) (hB1 : 0 < B ∧ ¬ B < 1000) (hy : ¬ (May tp tf ts tc tl ∧ tp = A)) :
    Calls Tryz.prog 9 #[.pointer (some ⟨t, 0, none⟩), (.agg #[.int .i64 K, .int .i64 A, .int .i64 B, .int .i64 tp, .int .i64 tf, .int .i64 ts, .int .i64 tc, .bool tl, .int .u8 (f : Nat)])] w fun e w' => StAns w0 w' t c m p q b R rr e := by
  have O0 := Opb.new w K A B tp tf ts tc tl f
  have G0 : Chg (fun _ => False) w (w.alloc (.cells #[.int .i64 K, .int .i64 A, .int .i64 B, .int .i64 tp, .int .i64 tf, .int .i64 ts, .int .i64 tc, .bool tl, .int .u8 (f : Nat)] 30)) := (Chg.refl _ w).alloc _
  have S0 := h.still G0
  have hol := h.lts
  have HM := hyd hm
  have HY := hyd hy
  clear hy
  have hFo : ¬ F w.heap.size := fun f => by have := h.fl _ f; omega
  obtain ⟨o0, o1, o2, o3, o4, o5, o6, o7, o8⟩ := O0.cells
  obtain ⟨t0, t1, t2⟩ := S0.bth.cells
  obtain ⟨R0, R1⟩ := S0.rmd.cells
  have HS0 := hyd S0
  have HO0 := hyd O0
  clear O0 G0 S0 h hm
  go_enter Tryz.func9, Tryz.ntmps9
  go_wp2_with fail
  refine (pick_10 K hK.1 hK.2 _).mono ?_
  rintro e wq ⟨rfl, rfl⟩
  rw [HM.out]
  clear HM
  generalize w.alloc (.cells #[.int .i64 K, .int .i64 A, .int .i64 B, .int .i64 tp, .int .i64 tf, .int .i64 ts, .int .i64 tc, .bool tl, .int .u8 (f : Nat)] 30) = w1 at *
  generalize w.heap.size = o at *
  have b1 : (0 : Int) < B := by omega
  have b2 : ¬ B < 1000 := by omega
  go_wp2_with fail
  refine (data_fn 174 f (by omega) hf _).mono ?_
  rintro x w2 ⟨rfl, A2, G2⟩
  have S2 := HS0.out.still G2
  have O2 := HO0.out.chg G2 (fun f => f)
  have hl1 := HS0.out.lts
  have hF1 : ¬ F w1.heap.size := fun f => by have := HS0.out.fl _ f; omega
  have hol1 := HO0.out.lt
  generalize w1.heap.size = g at *
  have hgl := A2.lt
  have hheld : Held w2 (.slice (some ⟨g, 0, none⟩) 174 174) (dtl f 174) := A2.heldFull 174 174 (dtl_length _ _).symm
  have hlend := lend_any w2 (some ⟨g, 0, none⟩) (dtl f 174) 174 (fun e => by cases e) (by rw [dtl_length]; exact hheld) (by rw [dtl_length]; omega)
  rw [dtl_length] at hlend
  have HH2 := hyd hheld
  have HA2 := hyd A2
  have HS2 := hyd S2
  have HO2 := hyd O2
  clear A2 G2 S2 O2 hheld HS0 HO0 t0 t1 t2 R0 R1 o0 o1 o2 o3 o4 o5 o6 o7 o8
  go_wp2_with fail
  refine hlend.mono ?_
  rintro x w3 ⟨ls, lf, lg, rfl, hLt, G3⟩
  clear hlend
  have hlt3 := hLt.lts
  have S3 := HS2.out.still G3
  have O3 := HO2.out.chg G3 (fun f => f)
  have hl2 := HS2.out.lts
  have hol2 := HO2.out.lt
  have hF3 : ∀ k, w2.heap.size ≤ k → ¬ F k := fun k hk f => by have := (HS2.out.fl k f).1; omega
  obtain ⟨t0, t1, t2⟩ := S3.bth.cells
  obtain ⟨o0, o1, o2, o3, o4, o5, o6, o7, o8⟩ := O3.cells
  have hml : (dtl f 174 ++ mrk 5).length = 174 + 5 := by rw [List.length_append, mrk_length, dtl_length]
  have htk : (dtl f 174 ++ mrk 5).take 174 = dtl f 174 := List.take_left' (dtl_length _ _)
  have HLt := hyd hLt
  have HS3 := hyd S3
  have HO3 := hyd O3
  have HA3 := hyd (HA2.out.chg G3 (fun f => f))
  have HML := hyd hml
  have HTK := hyd htk
  clear hLt G3 S3 O3 HS2 HO2 HA2 HH2 hml htk
  go_wp2_with fail
  go_region_held3 (fun wx => wx.cell? ⟨t, 1, none⟩ = some (.pointer (some ⟨m, 0, none⟩)) ∧ wx.cell? ⟨o, 1, none⟩ = some (.int .i64 A) ∧ wx.cell? ⟨o, 3, none⟩ = some (.int .i64 tp) ∧ wx.cell? ⟨o, 4, none⟩ = some (.int .i64 tf) ∧ wx.cell? ⟨o, 5, none⟩ = some (.int .i64 ts) ∧ wx.cell? ⟨o, 6, none⟩ = some (.int .i64 tc) ∧ wx.cell? ⟨o, 7, none⟩ = some (.bool tl))
    (first | exact ⟨t1, o1, o3, o4, o5, o6, o7⟩ | exact ⟨e1, u1, u3, u4, u5, u6, u7⟩ | exact ⟨f1, y1, y3, y4, y5, y6, y7⟩)
    (first
      | (go_at_call 34; refine (bytes_any w3.drew w2.heap.size ls lf lg 174 (dtl f 174 ++ mrk 5) (dtl f 174 ++ mrk 5) (HLt.out.chg ((Chg.refl (fun _ => False) w3).drew) (fun f => f) (fun f => f) (fun f => f)) (by rw [HML.out]; omega) (by rw [HML.out]; omega) (by rw [HML.out]; omega)).mono ?_; rintro x w4 ⟨cf, rfl, hHb, hcf, G4⟩; rw [HTK.out] at hHb; have S4 := HS3.out.drew.still G4; have O4 := (HO3.out.chg ((Chg.refl (fun _ => False) w3).drew) (fun f => f)).chg G4 (fun f => f); obtain ⟨e0, e1, e2⟩ := S4.bth.cells; obtain ⟨-, u1, u2, u3, u4, u5, u6, u7, u8⟩ := O4.cells; have HS4 := hyd S4; have HO4 := hyd O4; have HHb := hyd (hHb.chgF G4); have HLt4 := hyd ((HLt.out.chg ((Chg.refl (fun _ => False) w3).drew) (fun f => f) (fun f => f) (fun f => f)).chg G4 (fun f => f) (fun f => f) (fun f => f)); have HA4 := hyd ((HA3.out.chg ((Chg.refl (fun _ => False) w3).drew) (fun f => f)).chg G4 (fun f => f)); clear hHb S4 O4 G4)
      | (go_at_call 19; refine (mprogram_no m c p q b r w4 HS4.out.med A tp tf ts tc tl _ 174 _ (fun h => HY.out ⟨h.1, h.2.1⟩)).mono ?_; rintro x w5 ⟨rfl, G5⟩; have S5 := HS4.out.still G5; have O5 := HO4.out.chg G5 (fun f => f); have HLt5 := hyd (HLt4.out.chg G5 (fun f => f) (fun f => f) (fun f => f)); have HA5 := hyd (HA4.out.chg G5 (fun f => f)); obtain ⟨f0, f1, f2⟩ := S5.bth.cells; obtain ⟨-, y1, y2, y3, y4, y5, y6, y7, y8⟩ := O5.cells; have HS5 := hyd S5; have HO5 := hyd O5; clear S5 O5 G5))
  clear t0 t1 t2 o0 o1 o2 o3 o4 o5 o6 o7 o8 e0 e1 e2 u1 u2 u3 u4 u5 u6 u7 u8 f0 f1 f2 y1 y2 y3 y4 y5 y6 y7 y8 HS3 HO3 HLt HA3 HS4 HO4 HHb HLt4 HA4
  go_wp2_with fail
  refine (kept_any w5 w2.heap.size ls lf lg 174 (dtl f 174 ++ mrk 5) (dtl f 174 ++ mrk 5) HLt5.out (by rw [HML.out]; omega) (by rw [HML.out]; omega)).mono ?_
  rintro x w6 ⟨rfl, G6⟩
  rw [show decide (dtl f 174 ++ mrk 5 = dtl f 174 ++ mrk 5) = true from decide_eq_true rfl]
  have HS6 := hyd (HS5.out.still G6)
  have HO6 := hyd (HO5.out.chg G6 (fun f => f))
  have HLt6 := hyd (HLt5.out.chg G6 (fun f => f) (fun f => f) (fun f => f))
  have HA6 := hyd (HA5.out.chg G6 (fun f => f))
  clear G6 HS5 HO5 HLt5 HA5
  go_wp2_with fail
  refine (turn_any w6 w2.heap.size ls lf lg 174 (dtl f 174 ++ mrk 5) (dtl f 174 ++ mrk 5) HLt6.out rfl (by rw [HML.out]; omega)).mono ?_
  rintro x w7 ⟨rfl, -, G7⟩
  have S7 := HS6.out.junk G7 (fun k e => by rcases e with e | e <;> subst e <;> exact ⟨hF3 _ (by omega), by omega⟩)
  have O7 := HO6.out.chg G7 (by omega)
  have HA7 := hyd (HA6.out.chg G7 (by omega))
  obtain ⟨t0, t1, t2⟩ := S7.bth.cells
  obtain ⟨o0, o1, o2, o3, o4, o5, o6, o7, o8⟩ := O7.cells
  have HS7 := hyd S7
  have HO7 := hyd O7
  clear G7 S7 O7 HS6 HO6 HLt6 HA6
  go_wp2_with fail
  go_region_held3 (fun wx => wx.cell? ⟨t, 2, none⟩ = some (.pointer (some ⟨R, 0, none⟩)) ∧ wx.cell? ⟨o, 1, none⟩ = some (.int .i64 A) ∧ wx.cell? ⟨o, 3, none⟩ = some (.int .i64 tp) ∧ wx.cell? ⟨o, 4, none⟩ = some (.int .i64 tf) ∧ wx.cell? ⟨o, 5, none⟩ = some (.int .i64 ts) ∧ wx.cell? ⟨o, 6, none⟩ = some (.int .i64 tc) ∧ wx.cell? ⟨o, 7, none⟩ = some (.bool tl))
    (first | exact ⟨t2, o1, o3, o4, o5, o6, o7⟩ | exact ⟨d2, z1, z3, z4, z5, z6, z7⟩)
    (first
      | (go_at_call 37; refine (ncode_1 _).mono ?_; rintro x w9 ⟨rfl, rfl⟩)
      | (go_at_call 38; refine (rmprogram_no R _ A tp tf ts tc tl _ 174 _ (fun h => HY.out ⟨h.1, h.2.1⟩)).mono ?_; rintro x w8 ⟨rfl, G8⟩; have S8 := HS7.out.drew.still G8; have O8 := (HO7.out.chg ((Chg.refl (fun _ => False) w7).drew) (fun f => f)).chg G8 (fun f => f); obtain ⟨d0, d1, d2⟩ := S8.bth.cells; obtain ⟨-, z1, z2, z3, z4, z5, z6, z7, z8⟩ := O8.cells; have HS8 := hyd S8; clear S8 O8 G8))
  clear t0 t1 t2 o0 o1 o2 o3 o4 o5 o6 o7 o8 d0 d1 d2 z1 z2 z3 z4 z5 z6 z7 z8
  go_wp2
  go_ret
  exact ⟨rfl, _, _, _, HS8.out⟩
end Go.Proofs.YtifjmilegogbaaaGreat
