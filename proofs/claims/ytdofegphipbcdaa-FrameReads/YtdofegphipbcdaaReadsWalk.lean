/-
  FrameReads, walked: whatever the bytes and the number, Message, Data and Body answer as the document says; what is lent is left as it was and not kept; what comes out is its owner's. Condition: the bytes came in as slices do.
-/
import Derived.Test.YtdofegphipbcdaaShown
import Derived.Test.YtdofegphipbcdaaViews
import Derived.Test.YtdofegphipbcdaaLend
namespace Go.Proofs.Ytdofegphipbcdaa
open Go.RowKit
set_option maxRecDepth 100000

theorem take_mrk (l : List Nat) : (l ++ mrk 5).take l.length = l := by
  rw [List.take_append_of_le_length (Nat.le_refl _), List.take_of_length_le (Nat.le_refl _)]
theorem mrk_len' (l : List Nat) : (l ++ mrk 5).length = l.length + 5 := by rw [List.length_append, mrk_length]
theorem OwnT.chgF {w w' : World} {base : Nat} {e : TypeId} {v : Value} {l : List Nat} (h : OwnT w base e v l) (hc : Chg (fun _ => False) w w') : OwnT w' base e v l := h.chg hc (fun _ _ _ f => f)

set_option maxHeartbeats 8000000 in
theorem reads_walk (a0 : Option Addr) (len0 cap0 : Nat) (z0 : List Int) (k : Int) (w : World) (w0 : IsRow .u8 w a0 len0 cap0 z0) (_wk : (Lit.int .i64 k).wf = true) (r0 : cap0 * 1 ≤ 140737488351232) :
    Calls Try.prog 4 #[.slice a0 len0 cap0, .int .i64 k] w fun e w' => e = .returned (.bool true) ∧ Below w.heap.size w w' := by
  obtain ⟨l, hl0, hc0, bl, hno, HL⟩ := row_in w0
  have hln : l.length ≤ 140737488351232 := by omega
  have hlc : l.length ≤ cap0 := by omega
  clear w0 hc0 r0
  subst hl0
  have HL := hyd HL
  have HNO := hyd hno
  clear hno
  go_enter Try.func4, Try.ntmps4
  go_wp2_with fail
  refine (shown_any w).mono ?_
  rintro e w1 ⟨rfl, G1⟩
  go_wp2_with fail
  refine (frame_new w1).mono ?_
  rintro e w2 ⟨p, q, b, rfl, hp, hq, hb, F2, G2⟩
  have G02 : Chg (fun _ => False) w w2 := G1.trans G2
  have hs1 := G1.size
  have hs2 := G02.size
  have hbs := F2.1.1.lt
  clear G1 G2
  go_wp2_with fail
  refine (lend_any w2 a0 l cap0 HNO.out (HL.out.chgF G02) hln).mono ?_
  rintro e w3 ⟨s, f, g, rfl, L3, H3⟩
  have F3 := F2.chg H3
  have G3 := G02.trans H3
  obtain ⟨t1, t2, t3, t4, t5, t6⟩ := L3.lts
  have hml := mrk_len' l
  clear F2 G02 H3
  go_wp2_with fail
  refine (bytes_any w3 _ s f g l.length (l ++ mrk 5) (l ++ mrk 5) L3 (by omega) (by omega) (by omega)).mono ?_
  rintro e w4 ⟨cf, rfl, B3, hcf, H4⟩
  rw [take_mrk] at B3
  have hcall := message_v p q b w4 (F3.chg H4) f 0 l.length cf l rfl bl (by omega) (by have := H4.size; omega) hcf (B3.chgF H4) k
  have G4 := G3.trans H4
  have L4 := L3.chg H4 (fun e => e) (fun e => e) (fun e => e)
  have hs4 := H4.size
  clear B3 F3 G3 L3 H4
  go_wp2_with fail
  refine hcall.mono ?_
  rintro e w5 ⟨⟨m0, mn, mc, R1, d1, c1, rfl, hmn, Q1, O1⟩, F5, B5⟩
  have HMN := hyd hmn
  clear hmn
  have L5 := L4.chg B5.chg (by omega) (by omega) (by omega)
  have G5 : Chg (fun _ => False) w w5 := B5.chgF G4 (by omega)
  have hs5 := B5.size
  clear hcall G4 L4 B5
  go_wp2_with fail
  refine (bytes_any w5 _ s f g l.length (l ++ mrk 5) (l ++ mrk 5) L5 (by omega) (by omega) (by omega)).mono ?_
  rintro e w6 ⟨cf2, rfl, B5, hcf2, H6⟩
  rw [take_mrk] at B5
  have hcall := data_v p q b w6 (F5.chg H6) f 0 l.length cf2 l rfl bl (by omega) (by have := H6.size; omega) hcf2 (B5.chgF H6)
  have G6 := G5.trans H6
  have L6 := L5.chg H6 (fun e => e) (fun e => e) (fun e => e)
  have O1' := O1.chgF H6
  have hs6 := H6.size
  have hO1 : ∀ k, (Value.slice m0 mn mc).ownBlock = some k → w4.heap.size ≤ k ∧ k < w5.heap.size := fun k hk => O1.block hk
  have HO1 := hyd hO1
  clear B5 F5 G5 L5 H6 O1 hO1
  go_wp2_with fail
  refine hcall.mono ?_
  rintro e w7 ⟨⟨d0, dn, dc, R2, d2, c2, rfl, hdn, Q2, O2⟩, F7, B7⟩
  have HDN := hyd hdn
  clear hdn
  have L7 := L6.chg B7.chg (by omega) (by omega) (by omega)
  have G7 : Chg (fun _ => False) w w7 := B7.chgF G6 (by omega)
  have O17 : OwnT w7 w4.heap.size 5 (.slice m0 mn mc) R1 := O1'.chg B7.chg (fun k hk he => by have := HO1.out k he; omega)
  have hs7 := B7.size
  clear hcall G6 L6 B7 O1'
  go_wp2_with fail
  refine (bytes_any w7 _ s f g l.length (l ++ mrk 5) (l ++ mrk 5) L7 (by omega) (by omega) (by omega)).mono ?_
  rintro e w8 ⟨cf3, rfl, B7, hcf3, H8⟩
  rw [take_mrk] at B7
  have hcall := body_v p q b w8 (F7.chg H8) f 0 l.length cf3 l rfl bl (by omega) (by have := H8.size; omega) hcf3 (B7.chgF H8)
  have G8 := G7.trans H8
  have L8 := L7.chg H8 (fun e => e) (fun e => e) (fun e => e)
  have O18 := O17.chgF H8
  have O28 := O2.chgF H8
  have hs8 := H8.size
  have HO2 := hyd (show ∀ k, (Value.slice d0 dn dc).ownBlock = some k → w6.heap.size ≤ k ∧ k < w7.heap.size from fun k hk => O2.block hk)
  clear B7 F7 G7 L7 H8 O2 O17
  go_wp2_with fail
  refine hcall.mono ?_
  rintro e w9 ⟨⟨b0, bn, bc, R3, d3, c3, rfl, hbn, Q3, O3⟩, -, B9⟩
  have HBN := hyd hbn
  clear hbn
  have L9 := L8.chg B9.chg (by omega) (by omega) (by omega)
  have G9 : Chg (fun _ => False) w w9 := B9.chgF G8 (by omega)
  have O19 : OwnT w9 w4.heap.size 5 (.slice m0 mn mc) R1 := O18.chg B9.chg (fun k hk he => by have := HO1.out k he; omega)
  have O29 : OwnT w9 w6.heap.size 5 (.slice d0 dn dc) R2 := O28.chg B9.chg (fun k hk he => by have := HO2.out k he; omega)
  have hs9 := B9.size
  have HO3 := hyd (show ∀ k, (Value.slice b0 bn bc).ownBlock = some k → w8.heap.size ≤ k ∧ k < w9.heap.size from fun k hk => O3.block hk)
  clear hcall G8 L8 B9 O18 O28
  go_wp2_with fail
  refine (kept_any w9 _ s f g l.length (l ++ mrk 5) (l ++ mrk 5) L9 (by omega) (by omega)).mono ?_
  rintro e w10 ⟨rfl, H10⟩
  have G10 := G9.trans H10
  have L10 := L9.chg H10 (fun e => e) (fun e => e) (fun e => e)
  have O1a := O19.chgF H10
  have O2a := O29.chgF H10
  have O3a := O3.chgF H10
  have hs10 := H10.size
  have hdd : decide (l ++ mrk 5 = l ++ mrk 5) = true := by simp
  clear G9 L9 H10 O19 O29 O3
  go_wp2_with fail
  refine (turn_any w10 _ s f g l.length (l ++ mrk 5) (l ++ mrk 5) L10 rfl (by omega)).mono ?_
  rintro e w11 ⟨rfl, L11, H11⟩
  have G11 : Chg (fun _ => False) w w11 := G10.trans' H11 (fun k hk e => by omega)
  have O1b : OwnT w11 w4.heap.size 5 (.slice m0 mn mc) R1 := O1a.chg H11 (fun k hk he => by have := HO1.out k he; omega)
  have O2b : OwnT w11 w6.heap.size 5 (.slice d0 dn dc) R2 := O2a.chg H11 (fun k hk he => by have := HO2.out k he; omega)
  have O3b : OwnT w11 w8.heap.size 5 (.slice b0 bn bc) R3 := O3a.chg H11 (fun k hk he => by have := HO3.out k he; omega)
  have hs11 := H11.size
  clear G10 L10 H11 O1a O2a O3a
  have hcall := rmsg_v w11 a0 l.length cap0 l rfl bl hlc (HL.out.chgF G11) k
  go_wp2_with fail
  refine hcall.mono ?_
  rintro e w12 ⟨⟨m1, mn1, mc1, R1', d1', c1', rfl, hmn1, Q1', HR1⟩, H12⟩
  have HMN1 := hyd hmn1
  clear hmn1
  have G12 := G11.trans H12
  have L12 := L11.chg H12 (fun e => e) (fun e => e) (fun e => e)
  have O1c := O1b.chgF H12
  have O2c := O2b.chgF H12
  have O3c := O3b.chgF H12
  have hs12 := H12.size
  obtain ⟨rfl, rfl, rfl⟩ := Q1.unique Q1'
  obtain ⟨i1, i2, i3⟩ := Q1.code
  clear G11 L11 H12 O1b O2b O3b hcall Q1 Q1'
  have hcall := rdata_v w12 a0 l.length cap0 l rfl bl hlc (HL.out.chgF G12)
  go_wp2_with fail
  refine hcall.mono ?_
  rintro e w13 ⟨⟨m2, mn2, mc2, R2', d2', c2', rfl, hmn2, Q2', HR2⟩, H13⟩
  have HMN2 := hyd hmn2
  clear hmn2
  have G13 := G12.trans H13
  have L13 := L12.chg H13 (fun e => e) (fun e => e) (fun e => e)
  have O1d := O1c.chgF H13
  have O2d := O2c.chgF H13
  have O3d := O3c.chgF H13
  have HR1a := HR1.chgF H13
  have hs13 := H13.size
  obtain ⟨rfl, rfl, rfl⟩ := Q2.unique Q2'
  obtain ⟨j1, j2, j3⟩ := Q2.code
  clear G12 L12 H13 O1c O2c O3c hcall Q2 Q2' HR1
  have hcall := rbody_v w13 a0 l.length cap0 l rfl bl hlc (HL.out.chgF G13)
  go_wp2_with fail
  refine hcall.mono ?_
  rintro e w14 ⟨⟨m3, mn3, mc3, R3', d3', c3', rfl, hmn3, Q3', HR3⟩, H14⟩
  have HMN3 := hyd hmn3
  clear hmn3
  have G14 := G13.trans H14
  have L14 := L13.chg H14 (fun e => e) (fun e => e) (fun e => e)
  have O1e := O1d.chgF H14
  have O2e := O2d.chgF H14
  have O3e := O3d.chgF H14
  have HR1b := HR1a.chgF H14
  have HR2b := HR2.chgF H14
  have hs14 := H14.size
  obtain ⟨rfl, rfl, rfl⟩ := Q3.unique Q3'
  obtain ⟨k1, k2, k3⟩ := Q3.code
  clear G13 L13 H14 O1d O2d O3d hcall Q3 Q3' HR1a HR2
  go_wp2_with fail
  refine (same_n w14 m0 m1 mn mn1 mc mc1 R1 R1 HMN.out HMN1.out O1e.held HR1b (by omega) (by omega)).mono ?_
  rintro e w15 ⟨rfl, H15⟩
  have hr1 : decide (R1 = R1) = true := by simp
  rw [hr1]
  have G15 := G14.trans H15
  have L15 := L14.chg H15 (fun e => e) (fun e => e) (fun e => e)
  have O1f := O1e.chgF H15
  have O2f := O2e.chgF H15
  have O3f := O3e.chgF H15
  have HR2c := HR2b.chgF H15
  have HR3c := HR3.chgF H15
  have hs15 := H15.size
  clear G14 L14 H15 O1e O2e O3e HR1b HR2b HR3
  go_wp2_with fail
  refine (code_any c1 i1 w15).mono ?_
  rintro e w16 ⟨rfl, rfl⟩
  go_wp2_with fail
  refine (same_n _ d0 m2 dn mn2 dc mc2 R2 R2 HDN.out HMN2.out O2f.held HR2c (by omega) (by omega)).mono ?_
  rintro e w17 ⟨rfl, H17⟩
  have hr2 : decide (R2 = R2) = true := by simp
  rw [hr2]
  have G17 := G15.trans H17
  have L17 := L15.chg H17 (fun e => e) (fun e => e) (fun e => e)
  have O1g := O1f.chgF H17
  have O2g := O2f.chgF H17
  have O3g := O3f.chgF H17
  have HR3d := HR3c.chgF H17
  have hs17 := H17.size
  clear G15 L15 H17 O1f O2f O3f HR2c HR3c
  go_wp2_with fail
  refine (code_any c2 j1 w17).mono ?_
  rintro e w18 ⟨rfl, rfl⟩
  go_wp2_with fail
  refine (same_n _ b0 m3 bn mn3 bc mc3 R3 R3 HBN.out HMN3.out O3g.held HR3d (by omega) (by omega)).mono ?_
  rintro e w19 ⟨rfl, H19⟩
  have hr3 : decide (R3 = R3) = true := by simp
  rw [hr3]
  have G19 := G17.trans H19
  have L19 := L17.chg H19 (fun e => e) (fun e => e) (fun e => e)
  have O1h := O1g.chgF H19
  have O2h := O2g.chgF H19
  have O3h := O3g.chgF H19
  have hs19 := H19.size
  clear G17 L17 H19 O1g O2g O3g HR3d
  go_wp2_with fail
  refine (code_any c3 k1 w19).mono ?_
  rintro e w20 ⟨rfl, rfl⟩
  have hcall := apart3 w20 w2.heap.size m0 d0 b0 mn dn bn mc dc bc R1 R2 R3 HMN.out HDN.out HBN.out (O1h.mono (fun k hk => by have := HO1.out k hk; omega)) (O2h.mono (fun k hk => by have := HO2.out k hk; omega)) (O3h.mono (fun k hk => by have := HO3.out k hk; omega)) (by omega)
    (fun k h1 h2 => by have := HO1.out k h1; have := HO2.out k h2; omega) (fun k h1 h2 => by have := HO1.out k h1; have := HO3.out k h2; omega) (fun k h1 h2 => by have := HO2.out k h1; have := HO3.out k h2; omega) (by omega) (by omega) (by omega)
  go_wp2_with fail
  refine hcall.mono ?_
  rintro e w21 ⟨rfl, H21⟩
  have L21 : LentAt w21 w2.heap.size s f g (trn (l ++ mrk 5).length) (trn (l ++ mrk 5).length) l.length := (L19.chg ((Chg.refl (fun _ => False) w20).alloc _) (fun e => e) (fun e => e) (fun e => e)).chg H21 (fun e => by
      rcases e with e | e | e
      · have := HO1.out _ e; omega
      · have := HO2.out _ e; omega
      · have := HO3.out _ e; omega) (fun e => by
      rcases e with e | e | e
      · have := HO1.out _ e; omega
      · have := HO2.out _ e; omega
      · have := HO3.out _ e; omega) (fun e => by
      rcases e with e | e | e
      · have := HO1.out _ e; omega
      · have := HO2.out _ e; omega
      · have := HO3.out _ e; omega)
  have G21 : Chg (fun _ => False) w w21 := (G19.alloc _).trans' H21 (fun k hk e => by
      rcases e with e | e | e
      · have := HO1.out _ e; omega
      · have := HO2.out _ e; omega
      · have := HO3.out _ e; omega)
  clear G19 L19 H21 O1h O2h O3h hcall
  have htl : (trn (l ++ mrk 5).length).length ≤ 9223372036854775807 := by rw [trn_length]; omega
  go_wp2_with fail
  refine (kept_any w21 _ s f g l.length _ _ L21 htl htl).mono ?_
  rintro e w22 ⟨rfl, H22⟩
  have hd2 : decide (trn (l ++ mrk 5).length = trn (l ++ mrk 5).length) = true := by simp
  rw [hd2]
  have G22 := G21.trans H22
  clear L21 G21 H22
  go_wp2
  go_ret
  exact ⟨rfl, G22.below (fun k e => e.elim) (Nat.le_refl _)⟩
end Go.Proofs.Ytdofegphipbcdaa
