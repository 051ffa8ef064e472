/-
  The document's media: Program. Conditions: it stands whole; what comes in lies apart from it.
-/
import Derived.Test.YtifjmilegogbaaaGreatMRefR
namespace Go.Proofs.YtifjmilegogbaaaGreat
open Go.RowKit
set_option maxRecDepth 100000

set_option maxHeartbeats 4000000 in
theorem rmprogram_no (R : Nat) (w : World) (a tp tf ts tc : Int) (tl : Bool) (ad : Option Addr) (n cap : Nat) (hno : ¬ (May tp tf ts tc tl ∧ tp = a ∧ n = 174)) :
    Calls Tryz.prog 38 #[.pointer (some ⟨R, 0, none⟩), .int .i64 a, .agg #[.int .i64 tp, .int .i64 tf, .int .i64 ts, .int .i64 tc, .bool tl], .slice ad n cap] w fun e w' => e = .returned (.int .i64 1) ∧ Chg (fun _ => False) w w' := by
  have T0 := Tg.new w tp tf ts tc tl
  have G0 : Chg (fun _ => False) w (w.alloc (.cells #[.int .i64 tp, .int .i64 tf, .int .i64 ts, .int .i64 tc, .bool tl] 28)) := (Chg.refl _ w).alloc _
  obtain ⟨v0, v1, v2, v3, v4⟩ := T0.cells
  have HT := hyd T0
  have HG := hyd G0
  clear T0 G0
  by_cases hm : May tp tf ts tc tl
  · have hmay := fun w => rmay_yes w tp tf ts tc tl hm
    have hpl : 0 ≤ tp ∧ tp < 96 := hm.1.1
    have hno2 : ¬ (tp = a ∧ n = 174) := fun h => hno ⟨hm, h⟩
    clear hno hm
    go_enter Tryz.func38, Tryz.ntmps38
    go_wp2_with (first | refine wpList_load_tag rfl (.tmp 6) rfl w.heap.size rfl HT.out ?_)
    refine (hmay _).mono ?_
    rintro x w1 ⟨rfl, G1⟩
    obtain ⟨v0, v1, v2, v3, v4⟩ := (HT.out.chg G1 (fun f => f)).cells
    have HG1 := hyd (HG.out.trans G1)
    clear hmay G1 HG
    by_cases h0 : a < 0
    · go_wp2
      go_ret
      exact ⟨rfl, HG1.out⟩
    · by_cases h1 : 95 < a
      · go_wp2
        go_ret
        exact ⟨rfl, HG1.out⟩
      · by_cases hp : tp = a
        · have hp' : (tp != a) = false := by simp [hp]
          have hn' : ((n : Int) != 174) = true := by simp; exact fun e => hno2 ⟨hp, by omega⟩
          clear hno2 hp
          go_wp2
          go_ret
          exact ⟨rfl, HG1.out⟩
        · have hp' : (tp != a) = true := by simp [hp]
          clear hno2 hp
          go_wp2
          go_ret
          exact ⟨rfl, HG1.out⟩
  · have hmay := fun w => rmay_no w tp tf ts tc tl hm
    clear hno hm
    go_enter Tryz.func38, Tryz.ntmps38
    go_wp2_with (first | refine wpList_load_tag rfl (.tmp 6) rfl w.heap.size rfl HT.out ?_)
    refine (hmay _).mono ?_
    rintro x w1 ⟨rfl, G1⟩
    obtain ⟨v0, v1, v2, v3, v4⟩ := (HT.out.chg G1 (fun f => f)).cells
    have HG1 := hyd (HG.out.trans G1)
    clear hmay G1 HG
    by_cases h0 : a < 0
    · go_wp2
      go_ret
      exact ⟨rfl, HG1.out⟩
    · by_cases h1 : 95 < a
      · go_wp2
        go_ret
        exact ⟨rfl, HG1.out⟩
      · go_wp2
        go_ret
        exact ⟨rfl, HG1.out⟩
theorem RefAt.mono' {w : World} {r : Nat} {s : Chp} {F F' : Nat → Prop} (h : RefAt w r s F) (hF : ∀ k, k < w.heap.size → F k → F' k) : RefAt w r s F' := by
  obtain ⟨p, h⟩ := h
  exact ⟨p, ⟨h.top, h.bl, h.lst, h.rel, hF _ h.top.lt h.fr, hF _ h.bl.lt h.fb, fun b hb k hk => hF k ((h.lst b hb).lt hk) (h.fl b hb k hk), h.dis⟩⟩
theorem Rows2.chg' {S : Nat → Prop} {X Y : World} {base : Nat} {v : Value} {vs : List Value} {ls : List (List Nat)} (h : Rows2 X base v vs ls) (hc : Chg S X Y) (hS : ∀ k, S k → k < base ∨ X.heap.size ≤ k) : Rows2 Y base v vs ls := by
  have hlow : ∀ k, base ≤ k → k < X.heap.size → ¬ S k := fun k h1 h2 s => by have := hS k s; omega
  refine ⟨ownsRow_keeps h.row (fun g _ _ e hh => ?_), h.len, fun j hj => (h.each j hj).chg hc (fun k hk he => hlow k ((h.each j hj).block he).1 hk), h.off⟩
  have hlt := (Array.getElem?_eq_some_iff.1 hh).1
  refine hc.block g hlt (hlow g ?_ hlt)
  rcases h.row.2 with ⟨rfl, _⟩ | ⟨g', _, _, rfl, hg', _⟩
  · cases e
  · have : g' = g := Option.some.inj e
    omega
theorem Rows2.cell {W : World} {base : Nat} {rr k : Nat} {vs : List Value} {ls : List (List Nat)} (h : Rows2 W base (.slice (some ⟨rr, 0, none⟩) 4 k) vs ls) (i : Nat) (hi : i < 4) : vs.length = 4 ∧ 4 ≤ k ∧ W.cell? ⟨rr, i, none⟩ = some (vs.getD i (.slice none 0 0)) := by
  rcases h.row.2 with ⟨e, _⟩ | ⟨g, cap, cur, e, _, hh, hn, _, hz, ht⟩
  · cases e
  · injection e with e1 e2 e3
    injection e1 with e1
    injection e1 with e1
    subst e1 e3
    have hl4 : vs.length = 4 := e2.symm
    refine ⟨hl4, by rw [← hl4]; exact hn, ?_⟩
    have h2 : (cur.toList.take (vs.length * 1))[i]? = vs[i]? := by rw [ht]
    rw [List.getElem?_take_of_lt (by omega), Array.getElem?_toList, List.getElem?_eq_getElem (by omega)] at h2
    simp only [World.cell?, hh]
    rw [List.getD_eq_getElem?_getD, List.getElem?_eq_getElem (by omega)]
    simpa using h2
theorem told_len {L : List Nat} {n : Int} {g : Pg} (h : ToldR L n g) : g.data.length ≤ 174 := by
  cases hs : g.sound
  · obtain ⟨_, B, bd, bc, hB, hr⟩ := h
    rcases hr with ⟨_, _, _, _, _, _, _, _, q8⟩ | ⟨_, _, _, _, _, _, _, D, dd, dc, hD, ⟨_, _, q8⟩ | ⟨_, q7, _⟩⟩
    · rw [q8]; exact Nat.zero_le _
    · rw [q8]; exact Nat.zero_le _
    · rw [hs] at q7; cases q7
  · exact Nat.le_of_eq (h.sound hs).2.1
theorem held_at {w : World} {c o cap n : Nat} {l : List Nat} (hn : l.length = n) (h : At w c o l) : Held w (.slice (some ⟨c, o, none⟩) n cap) l := ⟨_, cap, by rw [hn], Or.inr ⟨c, o, rfl, h.1, h.2⟩⟩
/-- The answer of the document's Program. -/
def RpAns (s : Chp) (r : Int) (a tp tf ts tc : Nat) (tl : Bool) (Dt : List Nat) (w w' : World) (R rr : Nat) (F : Nat → Prop) (e : Ending) : Prop := ∃ s' r' c, ProgR s r a tp tf ts tc tl Dt s' r' c ∧ e = .returned (.int .i64 (c : Nat)) ∧ RMd w' R rr r' ∧ RefAt w' rr s' (grow F w w')
set_option maxHeartbeats 16000000 in
theorem rmprogram_yes (R rr : Nat) (r : Int) (s : Chp) (hs : s.Ok) (F : Nat → Prop) (hF : ¬ F R) (w : World) (h : RMd w R rr r) (hR : RefAt w rr s F) (hFl : ∀ k, F k → k < w.heap.size) (tp tf ts tc : Nat) (tl : Bool) (hm : May tp tf ts tc tl) (c o cap : Nat) (Dt : List Nat) (hD : Dt.length = 174) (bD : Bys Dt) (hcap : 174 ≤ cap) (hcF : ¬ F c) (hcR : c ≠ R) (hA : At w c o Dt) :
    Calls Tryz.prog 38 #[.pointer (some ⟨R, 0, none⟩), .int .i64 (tp : Nat), .agg #[.int .i64 (tp : Nat), .int .i64 (tf : Nat), .int .i64 (ts : Nat), .int .i64 (tc : Nat), .bool tl], .slice (some ⟨c, o, none⟩) 174 cap] w fun e w' => RpAns s r tp tp tf ts tc tl Dt w w' R rr F e ∧ Chg (fun k => k = R ∨ F k) w w' := by
  have T0 := Tg.new w tp tf ts tc tl
  have G0 : Chg (fun _ => False) w (w.alloc (.cells #[.int .i64 (tp : Nat), .int .i64 (tf : Nat), .int .i64 (ts : Nat), .int .i64 (tc : Nat), .bool tl] 28)) := (Chg.refl _ w).alloc _
  obtain ⟨v0, v1, v2, v3, v4⟩ := T0.cells
  have hmay := fun w => rmay_yes w tp tf ts tc tl hm
  have hbody := fun w => trbody_any w tp tf ts tc tl hm
  have hp96 := hm.place
  have hpa : ¬ ((tp : Int) < 0) := by omega
  have hpb : ¬ ((95 : Int) < (tp : Int)) := by omega
  have hRl := h.lt
  have hcl := hA.1
  have HT := hyd T0
  have HG := hyd G0
  have HD := hyd h
  have HR := hyd hR
  have HA := hyd hA
  have HDl := hyd hD
  have HS := hyd hs
  have hF0 : ¬ F w.heap.size := fun f => by have := hFl _ f; omega
  have hp' : (((tp : Nat) : Int) != ((tp : Nat) : Int)) = false := by simp
  clear T0 G0 h hR hA hD hs
  go_enter Tryz.func38, Tryz.ntmps38
  go_wp2_with (first | refine wpList_load_tag rfl (.tmp 6) rfl w.heap.size rfl HT.out ?_)
  refine (hmay _).mono ?_
  rintro x w1 ⟨rfl, G1⟩
  have T1 := HT.out.chg G1 (fun f => f)
  obtain ⟨v0, v1, v2, v3, v4⟩ := T1.cells
  have HT1 := hyd T1
  have HG1 := hyd (HG.out.trans G1)
  clear hmay G1 HG HT T1
  go_wp2_with (first | refine wpList_load_tag rfl (.tmp 6) rfl w.heap.size rfl HT1.out ?_)
  refine (hbody _).mono ?_
  rintro x w2 ⟨ba, bk, rfl, hO, G2⟩
  clear hbody
  have HT2 := hyd (HT1.out.chg G2 (fun f => f))
  have G02 := HG1.out.trans G2
  obtain ⟨gb, cb, hvb, -, hgb, -, hclb, -⟩ := hO.lies (by rw [body_length]; omega)
  rw [body_length] at hvb
  injection hvb with e1 e2 e3
  subst e1
  obtain rfl := e3
  have hlay := rlay_any w2 c o cap Dt HDl.out bD (Nat.lt_of_lt_of_le hcl G02.size) hcap (HA.out.chg G02 (fun f => f)).2 gb 0 bk (body tp tf ts tc tl) (body_length _ _ _ _ _) (body_bys _ _ _ _ _) hgb (fun i hi => by rw [Nat.zero_add]; exact hclb i hi) (msgOf Dt (body tp tf ts tc tl)) rfl
  have HG2 := hyd G02
  clear G2 G02 HG1 HT1 hO hclb v0 v1 v2 v3 v4
  go_wp2_with fail
  refine hlay.mono ?_
  rintro x w3 ⟨⟨rw_, k_, vs, rfl, hRows⟩, G3⟩
  clear hlay
  have HT3 := hyd (HT2.out.chg G3 (fun f => f))
  have hT3l := HT3.out.lt
  have G03 := HG2.out.trans G3
  have HG3 := hyd G03
  have HRo := hyd hRows
  have hs3 := G03.size
  have hs23 := HG2.out.size
  have HD3 := hyd (HD.out.chg G03 (fun f => f))
  have HR3 := hyd (HR.out.chg G03 (fun _ _ f => f))
  generalize hW : (fun i => encL (part 58 (msgOf Dt (body tp tf ts tc tl)) i)) = W at *
  have hWe : wordOf Dt (body tp tf ts tc tl) = W := hW
  have HWE := hyd hWe
  have hWb : ∀ k, k < 4 → Bys (W k) := fun k hk => by rw [← hWe]; exact (word_cw HDl.out bD (body_length _ _ _ _ _) (body_bys _ _ _ _ _) k hk).2.1
  have HWB := hyd hWb
  clear G3 G03 HG2 HT2 HD HR hRows hW hWe hWb
  go_wp2_with fail
  go_loopw [12] (fun t12 wr => ∃ i : Nat, i ≤ 4 ∧ t12 = .int .i64 i ∧ (wrN s (tp : Nat) W i).2 = 0 ∧ RMd wr R rr r ∧ RefAt wr rr (wrN s (tp : Nat) W i).1 (fun k => F k ∨ (w3.heap.size ≤ k ∧ k < wr.heap.size)) ∧ Chg F w3 wr) (fun t12 _ => 4 - (intOf t12).toNat)
  case atStart => exact ⟨0, by omega, rfl, rfl, HD3.out, RefAt.mono' HR3.out (fun k _ hk => Or.inl hk), Chg.refl _ _⟩
  case round =>
    clear HD3 HR3
    obtain ⟨i, hi, rfl, hz, hDr, hRr, hGr⟩ := hrel
    by_cases hlt : i < 4
    · have hl1 : (i : Int) < 4 := by omega
      have hl0 : (0 : Int) ≤ (i : Int) := by omega
      have hRo := HRo.out.chg' hGr (fun k hk => Or.inl (by have := hFl k hk; omega))
      obtain ⟨hvl, hk4, hcell⟩ := hRo.cell i hlt
      have heach := hRo.each i (by omega)
      rw [getD_range W i hlt] at heach
      have hok : (wrN s (tp : Nat) W i).1.Ok := wrN_ok HS.out _ i (fun k hk => HWB.out k (by omega))
      obtain ⟨c0, -⟩ := hDr.cells
      have hvb2 : ∀ x, (vs.getD i (.slice none 0 0)).ownBlock = some x → ¬ (F x ∨ (w3.heap.size ≤ x ∧ x < wr.heap.size)) := by
        intro x hx hc
        have h1 := (HRo.out.each i (by omega)).block hx
        rcases hc with hc | hc
        · have := hFl x hc; omega
        · omega
      have hcall := rwrite_any rr _ hok (fun k => F k ∨ (w3.heap.size ≤ k ∧ k < wr.heap.size)) (tp : Nat) (i : Nat) (W i) (vs.getD i (.slice none 0 0)) wr.drew (heach.held.chgF ((Chg.refl _ wr).drew)) hvb2 (hRr.chg ((Chg.refl (fun _ => False) wr).drew) (fun _ _ f => f))
      have hstep : wrN s (tp : Nat) W (i + 1) = writeR (wrN s (tp : Nat) W i).1 (tp : Nat) i (W i) := by
        show (if (wrN s (tp : Nat) W i).2 = 0 then writeR (wrN s (tp : Nat) W i).1 (tp : Nat) i (W i) else wrN s (tp : Nat) W i) = _
        rw [if_pos hz]
      rw [← hstep] at hcall
      have HDr := hyd hDr
      have HGr := hyd hGr
      clear hRo heach hok hDr hGr hRr hstep hvb2
      obtain ⟨vi, hvi⟩ : ∃ vi, vs.getD i (.slice none 0 0) = vi := ⟨_, rfl⟩
      rw [hvi] at hcell hcall
      have HVI := hyd hvi
      clear hvi
      go_wp2_with fail
      go_region_held3 (fun wx => wx.cell? ⟨R, 0, none⟩ = some (.pointer (some ⟨rr, 0, none⟩)) ∧ wx.cell? ⟨rw_, i, none⟩ = some vi)
        (first | exact ⟨c0, hcell⟩ | exact ⟨c0', hcell'⟩)
        (first
          | (go_at_call 62; refine hcall.mono ?_; rintro x w4 ⟨rfl, R4, G4⟩; have D4 := (HDr.out.chg ((Chg.refl (fun _ => False) wr).drew) (fun f => f)).chg G4 (fun f => by rcases f with f | f; exact hF f; omega); obtain ⟨c0', -⟩ := D4.cells; have hGr4 : Chg F w3 w4 := (HGr.out.drew).trans' G4 (fun k hk e => by rcases e with e | e; exact e; omega); have hcell' : w4.cell? ⟨rw_, i, none⟩ = some vi := ((HRo.out.chg' hGr4 (fun k hk => Or.inl (by have := hFl k hk; omega))).cell i hlt).2.2.trans (congrArg some HVI.out); have HD4 := hyd D4; have HR4 := hyd R4; have HG4 := hyd hGr4; clear D4 R4 hGr4 G4))
      clear c0 c0' hcell hcell' hcall HDr
      have hsr := HGr.out.size
      have hs4 := HG4.out.size
      have hgr : ∀ k, k < w4.heap.size → grow (fun k => F k ∨ (w3.heap.size ≤ k ∧ k < wr.heap.size)) wr.drew w4 k → F k ∨ (w3.heap.size ≤ k ∧ k < w4.heap.size) := by
        intro k hk4 hk
        rcases hk with (hk | hk) | hk
        · exact Or.inl hk
        · exact Or.inr ⟨hk.1, hk4⟩
        · have e : wr.drew.heap.size = wr.heap.size := rfl
          rw [e] at hk
          exact Or.inr ⟨by omega, hk4⟩
      have HR5 := hyd (RefAt.mono' HR4.out hgr)
      clear hgr HR4 HGr
      by_cases hc : (wrN s (tp : Nat) W (i + 1)).2 = 0
      · have HCC := hyd hc
        rw [hc]
        clear hc
        go_wp2
        exact ⟨⟨i + 1, by omega, by go_num, HCC.out, HD4.out, HR5.out, HG4.out⟩, by simp [intOf]; omega⟩
      · have HCC := hyd hc
        obtain ⟨cc, hcc⟩ : ∃ cc, (wrN s (tp : Nat) W (i + 1)).2 = cc := ⟨_, rfl⟩
        rw [hcc] at hc ⊢
        have hc' : (((cc : Nat) : Int) != 0) = true := by simp [hc]
        have HE := hyd hcc
        clear hc hcc
        go_wp2
        go_ret
        have e4 : wrN s (tp : Nat) W 4 = wrN s (tp : Nat) W (i + 1) := by
          have := wrN_stop HCC.out (4 - (i + 1))
          rwa [show i + 1 + (4 - (i + 1)) = 4 from by omega] at this
        refine ⟨⟨(wrN s (tp : Nat) W (i + 1)).1, r, cc, Or.inl ?_, rfl, HD4.out, RefAt.mono' HR5.out (fun k hk4 hk => ?_)⟩, ?_⟩
        · rw [HWE.out, e4]
          exact ⟨HCC.out, rfl, rfl, HE.out.symm⟩
        · rcases hk with hk | hk
          · exact Or.inl hk
          · exact Or.inr ⟨by omega, hk4⟩
        · exact (HG3.out.mono (T := fun k => k = R ∨ F k) (fun _ _ f => f.elim)).trans' HG4.out (fun k _ e => Or.inr e)
    · obtain rfl : i = 4 := by omega
      have hok : (wrN s (tp : Nat) W 4).1.Ok := wrN_ok HS.out _ 4 (fun k hk => HWB.out k (by omega))
      have hsr := hGr.size
      have hread := rmread_any R rr r _ hok (fun k => F k ∨ (w3.heap.size ≤ k ∧ k < wr.heap.size)) (fun f => by rcases f with f | f; exact hF f; omega) wr hDr hRr (fun k f => by rcases f with f | f; have := hFl k f; omega; exact f.2) (tp : Nat)
      have HT4 := hyd (HT3.out.chg hGr hF0)
      have HA4 := hyd ((HA.out.chg HG3.out (fun f => f)).chg hGr hcF)
      have HG4 := hyd ((HG3.out.mono (T := fun k => k = R ∨ F k) (fun _ _ f => f.elim)).trans' hGr (fun k _ e => Or.inr e))
      have HZ := hyd hz
      clear hDr hRr hGr hok hz HT3
      go_wp2_with fail
      refine hread.mono ?_
      rintro x w9 ⟨s9, r9, X, ex, vx, rfl, hRR, ⟨hv1, hHv⟩, D9, R9, G9⟩
      clear hread
      have hG49 : ∀ k, k < w.heap.size → (k = R ∨ F k ∨ (w3.heap.size ≤ k ∧ k < wr.heap.size)) → k = R ∨ F k := fun k hk e => by
        rcases e with e | e | e
        · exact Or.inl e
        · exact Or.inr e
        · omega
      have HG9 := hyd (HG4.out.trans' G9 hG49)
      have hT9 := HT4.out.chg G9 (by rintro (e | e | e); omega; exact hF0 e; omega)
      have HT9 := hyd hT9
      have HA9 := hyd (HA4.out.chg G9 (by rintro (e | e | e); exact hcR e; exact hcF e; omega))
      have HD9 := hyd D9
      have hs9 := G9.size
      have HR9 := hyd (RefAt.mono' R9 (F' := grow F w w9) (fun k hk9 hk => by
        rcases hk with hk | hk
        · exact Or.inl hk
        · exact Or.inr ⟨by omega, hk9⟩))
      have HRR := hyd hRR
      have HHv := hyd hHv
      obtain ⟨va, vcp, rfl, -⟩ := hHv
      clear D9 R9 G9 HG4 HT4 HA4 hG49 hT9 HG3
      by_cases hex : ex = 0
      · subst hex
        have hTold : ToldR (readV (wrN s (tp : Nat) W 4).1 (tp : Nat)).2.1 (tp : Nat) X := by
          rcases hRR.2.2 with ⟨x, _⟩ | ⟨_, _, x⟩
          · exact absurd rfl x
          · exact x
        have hXl := told_len hTold
        have hsd := fun h => (hTold.sound h).1
        clear hRR hTold
        simp only [pgV]
        go_wp2_with (refine wpList_store_pg rfl (.tmp 14) (.tmp 69) rfl w9.heap.size rfl rfl rfl (Pb.new w9 false 0 0 0 0 false false (.slice none 0 0) 0) ?_)
        intro wA PA GA
        have GA' : Chg (fun _ => False) w9 wA := ((Chg.refl (fun _ => False) w9).alloc _).trans' GA (fun k hk e => by omega)
        have hTA := HT9.out.chg GA' (fun f => f)
        have hsame := same_n wA va (some ⟨c, o, none⟩) X.data.length 174 vcp cap X.data Dt rfl HDl.out.symm (HHv.out.chgF GA') (held_at HDl.out (HA9.out.chg GA' (fun f => f))) (by omega) (by rw [HDl.out]; omega)
        have HPA := hyd PA
        obtain ⟨-, -, -, -, -, -, -, k7, -⟩ := PA.cells
        have HTA := hyd hTA
        have HDA0 := hyd (HD9.out.chg GA' (fun f => f))
        have HRA0 := hyd (HR9.out.chg GA' (fun _ _ f => f))
        have HGA0 := hyd (HG9.out.trans' GA' (fun _ _ f => f.elim))
        have hsA := GA'.size
        clear GA GA' hTA PA HT9 HA9 HD9 HR9 HG9 HHv
        go_wp2_with fail
        refine hsame.mono ?_
        rintro x wB ⟨rfl, GB⟩
        have hsB := GB.size
        obtain ⟨k0, k1, k2, k3, k4, k5, k6, k7, k8⟩ := (HPA.out.chg GB (fun f => f)).cells
        obtain ⟨v0, v1, v2, v3, v4⟩ := (HTA.out.chg GB (fun f => f)).cells
        have HDA := hyd (HDA0.out.chg GB (fun f => f))
        have HRA := hyd (RefAt.mono' (HRA0.out.chg GB (fun _ _ f => f)) (F' := grow F w wB) (fun k hk9 hk => by
          rcases hk with hk | hk
          · exact Or.inl hk
          · exact Or.inr ⟨hk.1, hk9⟩))
        have HGA := hyd (HGA0.out.trans' GB (fun _ _ f => f.elim))
        have hgd := guard_tag
        clear hsame GB HPA HTA HDA0 HRA0 HGA0
        have qt := fun w => neq_tag w X.p X.o X.s X.c tp tf ts tc X.l tl
        by_cases hxt : X.tagged = true
        · rw [hxt] at k0
          by_cases ht : ((X.p : Int) = tp ∧ (X.o : Int) = tf ∧ (X.s : Int) = ts ∧ (X.c : Int) = tc ∧ X.l = tl)
          · rw [decide_eq_true ht] at qt
            by_cases hxs : X.sound = true
            · rw [hxs] at k6
              by_cases hdd : X.data = Dt
              · rw [decide_eq_true hdd]
                have HIS := hyd (show X.Is tp tf ts tc tl Dt from ⟨hxt, ⟨by have := ht.1; omega, by have := ht.2.1; omega, by have := ht.2.2.1; omega, by have := ht.2.2.2.1; omega, ht.2.2.2.2⟩, hxs, hdd⟩)
                clear ht hdd hxt hxs
                go_wp2
                go_ret
                refine ⟨⟨s9, r9, 0, Or.inr ?_, rfl, HDA.out, HRA.out⟩, HGA.out⟩
                rw [HWE.out]
                exact ⟨HZ.out, _, 0, HRR.out, Or.inr (Or.inl ⟨rfl, HIS.out, rfl⟩)⟩
              · rw [decide_eq_false hdd]
                have HIS := hyd (show ¬ X.Is tp tf ts tc tl Dt from fun h => hdd h.2.2.2)
                clear ht hdd hxt hxs
                go_wp2
                go_ret
                refine ⟨⟨s9, r9, 8, Or.inr ?_, rfl, HDA.out, HRA.out⟩, HGA.out⟩
                rw [HWE.out]
                exact ⟨HZ.out, _, 0, HRR.out, Or.inr (Or.inr ⟨rfl, HIS.out, rfl⟩)⟩
            · have hxs' : X.sound = false := by simpa using hxs
              rw [hxs'] at k6
              have HIS := hyd (show ¬ X.Is tp tf ts tc tl Dt from fun h => hxs h.2.2.1)
              clear ht hxt hxs hxs'
              go_wp2
              go_ret
              refine ⟨⟨s9, r9, 8, Or.inr ?_, rfl, HDA.out, HRA.out⟩, HGA.out⟩
              rw [HWE.out]
              exact ⟨HZ.out, _, 0, HRR.out, Or.inr (Or.inr ⟨rfl, HIS.out, rfl⟩)⟩
          · rw [decide_eq_false ht] at qt
            have HIS := hyd (show ¬ X.Is tp tf ts tc tl Dt from fun h => ht ⟨by have := h.2.1.1; omega, by have := h.2.1.2.1; omega, by have := h.2.1.2.2.1; omega, by have := h.2.1.2.2.2.1; omega, h.2.1.2.2.2.2⟩)
            clear ht hxt
            go_wp2
            go_ret
            refine ⟨⟨s9, r9, 8, Or.inr ?_, rfl, HDA.out, HRA.out⟩, HGA.out⟩
            rw [HWE.out]
            exact ⟨HZ.out, _, 0, HRR.out, Or.inr (Or.inr ⟨rfl, HIS.out, rfl⟩)⟩
        · have hxt' : X.tagged = false := by simpa using hxt
          rw [hxt'] at k0
          have HIS := hyd (show ¬ X.Is tp tf ts tc tl Dt from fun h => hxt h.1)
          clear hxt hxt'
          go_wp2
          go_ret
          refine ⟨⟨s9, r9, 8, Or.inr ?_, rfl, HDA.out, HRA.out⟩, HGA.out⟩
          rw [HWE.out]
          exact ⟨HZ.out, _, 0, HRR.out, Or.inr (Or.inr ⟨rfl, HIS.out, rfl⟩)⟩
      · have hex' : (((ex : Nat) : Int) != 0) = true := by simp [hex]
        simp only [pgV]
        go_wp2_with (refine wpList_store_pg rfl (.tmp 14) (.tmp 69) rfl w9.heap.size rfl rfl rfl (Pb.new w9 false 0 0 0 0 false false (.slice none 0 0) 0) ?_)
        intro wA PA GA
        have GA' : Chg (fun _ => False) w9 wA := ((Chg.refl (fun _ => False) w9).alloc _).trans' GA (fun k hk e => by omega)
        have hsA := GA'.size
        have HDA := hyd (HD9.out.chg GA' (fun f => f))
        have HRA := hyd (RefAt.mono' (HR9.out.chg GA' (fun _ _ f => f)) (F' := grow F w wA) (fun k hk9 hk => by
          rcases hk with hk | hk
          · exact Or.inl hk
          · exact Or.inr ⟨hk.1, hk9⟩))
        have HGA := hyd (HG9.out.trans' GA' (fun _ _ f => f.elim))
        clear GA GA' PA
        go_wp2
        go_ret
        refine ⟨⟨s9, r9, ex, Or.inr ?_, rfl, HDA.out, HRA.out⟩, HGA.out⟩
        rw [HWE.out]
        exact ⟨HZ.out, _, ex, HRR.out, Or.inl ⟨hex, rfl⟩⟩
end Go.Proofs.YtifjmilegogbaaaGreat
