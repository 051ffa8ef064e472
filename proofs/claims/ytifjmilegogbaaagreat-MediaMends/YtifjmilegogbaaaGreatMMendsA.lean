/-
  MediaMends, a tag that may be. Conditions: the integers that came in lie in memory.
-/
import Derived.Test.YtifjmilegogbaaaGreatMMends
namespace Go.Proofs.YtifjmilegogbaaaGreat
open Go.RowKit
set_option maxRecDepth 100000

theorem OwnT.sl2 {w : World} {base : Nat} {e : TypeId} {v : Value} {l : List Nat} (h : OwnT w base e v l) : ∃ ad n cap, v = .slice ad n cap ∧ n = l.length := by
  rcases h.form with ⟨rfl, rfl⟩ | ⟨g, cap, rfl, _⟩
  · exact ⟨_, _, _, rfl, rfl⟩
  · exact ⟨_, _, _, rfl, rfl⟩
theorem ToldR.len {L : List Nat} {n : Int} {g : Pg} (h : ToldR L n g) : g.data.length ≤ 174 := by
  cases hs : g.sound
  · obtain ⟨_, B, bd, bc, hB, hr⟩ := h
    rcases hr with ⟨_, _, _, _, _, _, _, _, q8⟩ | ⟨_, _, _, _, _, _, _, D, dd, dc, hD, ⟨_, _, q8⟩ | ⟨_, q7, _⟩⟩
    · rw [q8]; exact Nat.zero_le _
    · rw [q8]; exact Nat.zero_le _
    · rw [hs] at q7; cases q7
  · exact Nat.le_of_eq (h.sound hs).2.1
set_option maxHeartbeats 16000000 in
theorem mediaMends_yes (p' o' s' c' : Nat) (tl : Bool) (hm : May p' o' s' c' tl) (fv : Nat) (hfv : fv < 256) (a : Option Addr) (len cap : Nat) (T : Nat → Int) (hlen : len < 9223372036854775808) (w : World) (hT : IsInts w a len T) :
    Calls Tryz.prog 4 #[.agg #[.int .i64 (p' : Nat), .int .i64 (o' : Nat), .int .i64 (s' : Nat), .int .i64 (c' : Nat), .bool tl], .int .u8 (fv : Nat), .slice a len cap] w fun e w' => e = .returned (.bool true) ∧ Below w.heap.size w w' := by
  have q1 := eql_nil_nil
  have q2 := neq_nil_nil
  have q3 := eql_e1_e1
  have q4 := neq_e1_nil
  have HT := hyd hT
  clear hT
  go_enter Tryz.func4, Tryz.ntmps4
  go_wp2_with fail
  refine (shown_any _).mono ?_
  rintro x w1 ⟨rfl, G1⟩
  have HG1 := hyd G1
  clear G1
  go_wp2_with fail
  refine (begun_any w1).mono ?_
  rintro x w2 ⟨t, c, m, p, q, b, R, rr, lo, hi, rfl, hB, hM, hC, hD, hE, hl, hh, hR, ht, hlh, G2⟩
  have S2 := Std.start w w1 w2 p' o' s' c' tl t c m p q b R rr lo hi HG1.out hB hM hC hD hE hl hh ht hlh G2
  have HS2 := hyd S2
  have hAl := S2.lts
  clear hB hM hC hD hE hl hh hR ht hlh G2 HG1 S2
  go_wp2_with fail
  refine (data_fn 174 fv (by omega) hfv _).mono ?_
  rintro x w3 ⟨rfl, A3, G3⟩
  have S3 := HS2.out.still G3
  generalize w2.heap.size = A at *
  obtain ⟨d0, d1, d2⟩ := S3.bth.cells
  obtain ⟨v0, v1, v2, v3, v4⟩ := S3.tg.cells
  have HS3 := hyd S3
  have HA3 := hyd A3
  clear A3 G3 S3 HS2
  go_wp2_with fail
  go_region_held3 (fun wx => wx.cell? ⟨t, 1, none⟩ = some (.pointer (some ⟨m, 0, none⟩)) ∧ wx.cell? ⟨w.heap.size, 0, none⟩ = some (.int .i64 (p' : Nat)) ∧ wx.cell? ⟨w.heap.size, 1, none⟩ = some (.int .i64 (o' : Nat)) ∧ wx.cell? ⟨w.heap.size, 2, none⟩ = some (.int .i64 (s' : Nat)) ∧ wx.cell? ⟨w.heap.size, 3, none⟩ = some (.int .i64 (c' : Nat)) ∧ wx.cell? ⟨w.heap.size, 4, none⟩ = some (.bool tl))
    (first | exact ⟨d1, v0, v1, v2, v3, v4⟩ | exact ⟨f1, z0, z1, z2, z3, z4⟩)
    (first
      | (go_at_call 19; refine (mprogram_yes m c p q b 0 newS newS_ok _ HS3.out.drew.med HS3.out.drew.chip p' o' s' c' tl hm A 0 _ (dtl fv 174) (dtl_length _ _) (dtl_bys _ _) (by omega) (by omega) (by omega) (HA3.out.at_.chg ((Chg.refl (fun _ => False) w3).drew) (fun f => f))).mono ?_; rintro x w6 ⟨⟨sP, r6, eP, hP, rfl, M6, C6⟩, G6⟩; have S6 := HS3.out.drew.set M6 C6 (hP.ok newS_ok (dtl_length _ _) (dtl_bys _ _)) G6; obtain ⟨f0, f1, f2⟩ := S6.bth.cells; obtain ⟨z0, z1, z2, z3, z4⟩ := S6.tg.cells; have HS6 := hyd S6; have HP := hyd hP; have HA6 := hyd ((HA3.out.chg ((Chg.refl (fun _ => False) w3).drew) (fun f => f)).chg G6 (by omega)); clear hP M6 C6 G6 S6))
  obtain ⟨rfl, hon, hch⟩ := mends_prog hm (dtl_length _ _) (dtl_bys _ _) HP.out
  clear d0 d1 d2 v0 v1 v2 v3 v4 f0 f1 f2 z0 z1 z2 z3 z4 HS3 HA3 HP
  have HK := hyd hch
  have hp96 := hm.place
  have HON := hyd hon
  clear hch hon
  rw [nerrV_zero]
  go_wp2_with fail
  go_loopw [11] (fun t11 wr => ∃ (i : Nat) (s : Chp), i ≤ len ∧ t11 = .int .i64 i ∧ Turned sP s p' ∧ Std w wr t c m p q b R w.heap.size (p' : Nat) (o' : Nat) (s' : Nat) (c' : Nat) tl s r6 ∧ Arr wr A 5 (dtl fv 174)) (fun t11 _ => len - (intOf t11).toNat)
  case atStart => exact ⟨0, sP, by omega, rfl, Turned.refl _ _, HS6.out, HA6.out⟩
  case round =>
    clear HS6 HA6
    obtain ⟨i, s, hil, rfl, hTu, hS, hA⟩ := hrel
    by_cases hlt : i < len
    · have hl1 : (i : Int) < (len : Int) := by omega
      have hl0 : (0 : Int) ≤ (i : Int) := by omega
      obtain ⟨hr, hc⟩ := HT.out
      rcases hc with hc | ⟨qa, oa, rfl, hqa, hc⟩
      · omega
      have ca : wr.cell? ⟨qa, oa + i, none⟩ = some (.int .i64 (T i)) := (hS.chg.cell hqa (fun f => f) _).trans (hc i hlt)
      have ra := hr i hlt
      generalize T i = xx at *
      obtain ⟨d0, d1, d2⟩ := hS.bth.cells
      obtain ⟨v0, -⟩ := hS.tg.cells
      have HS := hyd hS
      have HTu := hyd hTu
      have HA := hyd hA
      clear hr hc hS hTu hA
      go_wp2_with fail
      go_region_held3 (fun wx => wx.cell? ⟨t, 0, none⟩ = some (.pointer (some ⟨c, 0, none⟩)) ∧ wx.cell? ⟨w.heap.size, 0, none⟩ = some (.int .i64 (p' : Nat)) ∧ wx.cell? ⟨qa, oa + i, none⟩ = some (.int .i64 xx))
        (first | exact ⟨d0, v0, ca⟩ | exact ⟨e0, u0, cb⟩)
        (first
          | (go_at_call 21; refine (pick_2048 xx ra.1 ra.2 _).mono ?_; rintro x w8 ⟨rfl, rfl⟩; have hkk := pkN_lt xx (n := 2048) (by omega); generalize pkN xx 2048 = kk at *)
          | (go_at_call 20; refine (flip_any c s HS.out.ok (p' : Nat) (kk : Nat) _ HS.out.drew.chip).mono ?_; rintro x w9 ⟨rfl, C9, G9⟩; have S9 := HS.out.drew.chip' C9 (flipR_ok HS.out.ok _ _) G9; obtain ⟨e0, -, -⟩ := S9.bth.cells; obtain ⟨u0, -⟩ := S9.tg.cells; have HS9 := hyd S9; have cb : w9.cell? ⟨qa, oa + i, none⟩ = some (.int .i64 xx) := (G9.cell (Nat.lt_of_lt_of_le hqa HS.out.chg.size) (by have := HS.out.lo; omega) _).trans ca; have HA9 := hyd ((HA.out.chg ((Chg.refl (fun _ => False) wr).drew) (fun f => f)).chg G9 (by omega)); clear C9 G9 S9))
      clear d0 d1 d2 v0 e0 u0 ca cb
      obtain ⟨hF9, hz9⟩ := HTu.out.flip hp96 hkk
      rw [hz9]
      have HF9 := hyd hF9
      clear hF9 hz9 HTu HS HA
      rw [nerrV_zero]
      go_wp2
      exact ⟨⟨i + 1, _, by omega, by go_num, HF9.out, HS9.out, HA9.out⟩, by simp [intOf]; omega⟩
    · have hl1 : ¬ (i : Int) < (len : Int) := by omega
      have G1 : Chg (fun _ => False) wr (wr.alloc (.cells #[.int .i64 0, .int .i64 0, .int .i64 0, .int .i64 0] 61)) := (Chg.refl _ wr).alloc _
      have F1 : Fo4 (wr.alloc (.cells #[.int .i64 0, .int .i64 0, .int .i64 0, .int .i64 0] 61)) wr.heap.size 0 0 0 0 := Fo4.new wr 0 0 0 0
      have HS1 := hyd (hS.still G1)
      have HA1 := hyd (hA.chg G1 (fun f => f))
      have hlts := hS.lts
      have hAA := hA.lt
      have HTu := hyd hTu
      have HF1 := hyd F1
      have HOK := hyd hS.ok
      have hNs : (wr.alloc (.cells #[.int .i64 0, .int .i64 0, .int .i64 0, .int .i64 0] 61)).heap.size = wr.heap.size + 1 := by simp
      generalize hD : (fun k => dmg (s.ch (4 * p' + k))) = D at *
      have HD := hyd hD
      clear hS hA hTu G1 F1 hD
      go_wp2_with fail
      generalize wr.alloc (.cells #[.int .i64 0, .int .i64 0, .int .i64 0, .int .i64 0] 61) = wa at *
      generalize wr.heap.size = N at *
      go_loopw [14, 15] (fun t14 t15 wr => ∃ k : Nat, k ≤ 4 ∧ t15 = .int .i64 k ∧ t14 = .int .i64 (mxT D k : Nat) ∧ Fo4 wr N (upN D k 0 : Nat) (upN D k 1 : Nat) (upN D k 2 : Nat) (upN D k 3 : Nat) ∧ Std w wr t c m p q b R w.heap.size (p' : Nat) (o' : Nat) (s' : Nat) (c' : Nat) tl s r6 ∧ Arr wr A 5 (dtl fv 174)) (fun _ t15 _ => 4 - (intOf t15).toNat)
      case atStart => exact ⟨0, by omega, rfl, rfl, HF1.out, HS1.out, HA1.out⟩
      case round =>
        clear HF1 HS1 HA1
        obtain ⟨k, hk, rfl, rfl, hF, hS, hA⟩ := hrel
        by_cases hlt2 : k < 4
        · have hl2 : (k : Int) < 4 := by omega
          have hl3 : (0 : Int) ≤ (k : Int) := by omega
          obtain ⟨d0, d1, d2⟩ := hS.bth.cells
          obtain ⟨v0, -⟩ := hS.tg.cells
          have hdm := fun (wx : World) hC => damage_v c s HOK.out (p' : Nat) (k : Nat) wx hC
          have hv : dmgV s (p' : Nat) (k : Nat) = (D k, (s.ch (4 * p' + k)).worst, 0) := by
            unfold dmgV
            rw [if_pos (by omega), Int.toNat_natCast, Int.toNat_natCast, ← HD.out]
          rw [hv] at hdm
          have HS := hyd hS
          have HF := hyd hF
          have HA := hyd hA
          clear hS hF hA hv
          go_wp2_with fail
          go_region_held3 (fun wx => wx.cell? ⟨t, 0, none⟩ = some (.pointer (some ⟨c, 0, none⟩)) ∧ wx.cell? ⟨w.heap.size, 0, none⟩ = some (.int .i64 (p' : Nat)))
            (first | exact ⟨d0, v0⟩ | exact ⟨e0, u0⟩)
            (first
              | (go_at_call 22; refine (hdm _ HS.out.drew.chip).mono ?_; rintro x w9 ⟨rfl, G9⟩; have S9 := HS.out.drew.still G9; obtain ⟨e0, -, -⟩ := S9.bth.cells; obtain ⟨u0, -⟩ := S9.tg.cells; have HS9 := hyd S9; have HF9 := hyd ((HF.out.chg ((Chg.refl (fun _ => False) wr).drew) (fun f => f)).chg G9 (fun f => f)); have HA9 := hyd ((HA.out.chg ((Chg.refl (fun _ => False) wr).drew) (fun f => f)).chg G9 (fun f => f)); clear G9 S9))
          clear d0 d1 d2 v0 e0 u0 hdm HS HF HA
          rw [nerrV_zero]
          have zc := HF9.out.cell hlt2
          have zf := HF9.out.frozen k
          have GA : Chg (· = N) w9 (w9.setCell ⟨N, k, none⟩ (.int .i64 (D k : Nat))) := (Chg.refl (· = N) w9).at _ k _
          have HFA := hyd (HF9.out.set hlt2)
          have HSA := hyd (HS9.out.junk GA (by omega))
          have HAA := hyd (HA9.out.chg GA (by omega))
          have hmx : mxT D (k + 1) = max (mxT D k) (D k) := rfl
          clear GA HF9 HS9 HA9
          by_cases hg : mxT D k < D k
          · have hg' : ((mxT D k : Nat) : Int) < ((D k : Nat) : Int) := by omega
            have hmx2 : mxT D (k + 1) = D k := by omega
            have HMX := hyd hmx2
            clear hmx hmx2 hg
            go_wp2
            exact ⟨⟨k + 1, by omega, by go_num, by rw [HMX.out], HFA.out, HSA.out, HAA.out⟩, by simp [intOf]; omega⟩
          · have hg' : ¬ ((mxT D k : Nat) : Int) < ((D k : Nat) : Int) := by omega
            have hmx2 : mxT D (k + 1) = mxT D k := by omega
            have HMX := hyd hmx2
            clear hmx hmx2 hg
            go_wp2
            exact ⟨⟨k + 1, by omega, by go_num, by rw [HMX.out], HFA.out, HSA.out, HAA.out⟩, by simp [intOf]; omega⟩
        · obtain rfl : k = 4 := by omega
          obtain ⟨d0, d1, d2⟩ := hS.bth.cells
          obtain ⟨v0, -⟩ := hS.tg.cells
          have hread := fun (wx : World) hM hC => mread_any m c p q b r6 s HOK.out wx hM hC (p' : Nat)
          have hon : s.on = true := by rw [HTu.out.on]; exact HON.out
          have hlt3 := hS.lts
          have hNl := hF.lt
          have hAl3 := hA.lt
          have hSd : ∀ wx, (wx = wr.drew ∨ wx = (wr.alloc (.cells #[.bool false, .int .i64 0, .int .i64 0, .int .i64 0, .int .i64 0, .bool false, .bool false, .slice none 0 0, .int .i64 0] 65)).drew) → Std w wx t c m p q b R w.heap.size (p' : Nat) (o' : Nat) (s' : Nat) (c' : Nat) tl s r6 := by
            rintro wx (rfl | rfl)
            · exact hS.drew
            · exact (hS.still ((Chg.refl _ _).alloc _)).drew
          have hFd : ∀ wx, (wx = wr.drew ∨ wx = (wr.alloc (.cells #[.bool false, .int .i64 0, .int .i64 0, .int .i64 0, .int .i64 0, .bool false, .bool false, .slice none 0 0, .int .i64 0] 65)).drew) → Fo4 wx N (upN D 4 0 : Nat) (upN D 4 1 : Nat) (upN D 4 2 : Nat) (upN D 4 3 : Nat) := by
            rintro wx (rfl | rfl)
            · exact hF.chg ((Chg.refl (fun _ => False) wr).drew) (fun f => f)
            · exact hF.chg ((Chg.refl (fun _ => False) wr).alloc _).drew (fun f => f)
          have hAd : ∀ wx, (wx = wr.drew ∨ wx = (wr.alloc (.cells #[.bool false, .int .i64 0, .int .i64 0, .int .i64 0, .int .i64 0, .bool false, .bool false, .slice none 0 0, .int .i64 0] 65)).drew) → Arr wx A 5 (dtl fv 174) := by
            rintro wx (rfl | rfl)
            · exact hA.chg ((Chg.refl (fun _ => False) wr).drew) (fun f => f)
            · exact hA.chg ((Chg.refl (fun _ => False) wr).alloc _).drew (fun f => f)
          have hZ : Pb (wr.alloc (.cells #[.bool false, .int .i64 0, .int .i64 0, .int .i64 0, .int .i64 0, .bool false, .bool false, .slice none 0 0, .int .i64 0] 65)).drew wr.heap.size false 0 0 0 0 false false (.slice none 0 0) 0 := Pb.new wr false 0 0 0 0 false false (.slice none 0 0) 0
          have HSD := hyd hSd
          have HFD := hyd hFd
          have HAD := hyd hAd
          have HZ := hyd hZ
          have hon2 := hyd hon
          have d1z : (wr.alloc (.cells #[.bool false, .int .i64 0, .int .i64 0, .int .i64 0, .int .i64 0, .bool false, .bool false, .slice none 0 0, .int .i64 0] 65)).cell? ⟨t, 1, none⟩ = some (.pointer (some ⟨m, 0, none⟩)) := (hSd _ (Or.inr rfl)).bth.cells.2.1
          have v0z : (wr.alloc (.cells #[.bool false, .int .i64 0, .int .i64 0, .int .i64 0, .int .i64 0, .bool false, .bool false, .slice none 0 0, .int .i64 0] 65)).cell? ⟨w.heap.size, 0, none⟩ = some (.int .i64 (p' : Nat)) := (hSd _ (Or.inr rfl)).tg.cells.1
          clear hS hF hA hSd hFd hAd hZ hon
          go_upto_region 26 with fail
          go_cut [19, 20] (fun s19 s20 wx => s20 = .nilIface ∧ ∃ (K : Nat) (X : Pg) (ad : Option Addr) (n cp : Nat) (r9 : Int), s19 = .pointer (some ⟨K, 0, none⟩) ∧ Pb wx K X.tagged X.p X.o X.s X.c X.l X.sound (.slice ad n cp) X.dmg ∧ Std w wx t c m p q b R w.heap.size (p' : Nat) (o' : Nat) (s' : Nat) (c' : Nat) tl (rdS s p') r9 ∧ ToldR (pgTo s p' 4) (p' : Nat) X ∧ n = X.data.length ∧ Held wx (.slice ad n cp) X.data ∧ Fo4 wx N (upN D 4 0 : Nat) (upN D 4 1 : Nat) (upN D 4 2 : Nat) (upN D 4 3 : Nat) ∧ Arr wx A 5 (dtl fv 174))
          case first =>
            go_region_with (first
              | (go_at_call 23; refine (hread _ (HSD.out _ (by first | exact Or.inl rfl | exact Or.inr rfl)).med (HSD.out _ (by first | exact Or.inl rfl | exact Or.inr rfl)).chip).mono ?_; rintro x w9 ⟨s9, r9, X9, c9, v9, rfl, hR9, hO9, M9, C9, G9⟩; obtain ⟨hc9, hr9, hs9, hT9⟩ := hR9.done hp96 hon2.out; subst hc9 hs9; obtain ⟨ad9, n9, cp9, rfl, hn9⟩ := hO9.sl2; have S9 := (HSD.out _ (by first | exact Or.inl rfl | exact Or.inr rfl)).set M9 C9 (rdS_ok HOK.out _) G9; have HS9 := hyd S9; have HT9 := hyd hT9; have HN9 := hyd hn9; have HF9 := hyd ((HFD.out _ (by first | exact Or.inl rfl | exact Or.inr rfl)).chg G9 (by omega)); have HA9 := hyd ((HAD.out _ (by first | exact Or.inl rfl | exact Or.inr rfl)).chg G9 (by omega)); have HO9 := hyd hO9.held; have hlo9 : ∀ k, (Value.slice ad9 n9 cp9).ownBlock = some k → wr.heap.size + 1 ≤ k ∨ wr.heap.size ≤ k := fun k hk => Or.inr (by have := (hO9.block hk).1; first | exact this | (simp at this; omega)); (try (have hz9 := HZ.out.chg G9 (by omega); have zf := hz9.frozen; obtain ⟨z0, z1, z2, z3, z4, z5, z6, z7, z8⟩ := hz9.cells; have HPB := hyd (((((((((hz9.set0 X9.tagged).set1 X9.p).set2 X9.o).set3 X9.s).set4 X9.c).set5 X9.l).set6 X9.sound).set7 (.slice ad9 n9 cp9)).set8 X9.dmg); have GB := ((((((((((Chg.refl (· = wr.heap.size) w9).at _ 0 (.bool X9.tagged)).at _ 1 (.int .i64 X9.p)).at _ 2 (.int .i64 X9.o)).at _ 3 (.int .i64 X9.s)).at _ 4 (.int .i64 X9.c)).at _ 5 (.bool X9.l)).at _ 6 (.bool X9.sound)).at _ 7 (.slice ad9 n9 cp9)).at _ 8 (.int .i64 X9.dmg)); have HSB := hyd (S9.junk GB (by omega)); have HFB := hyd (HF9.out.chg GB (by omega)); have HAB := hyd (HA9.out.chg GB (by omega)); have HOB := hyd (HO9.out.chg GB (fun k _ hk e => by have := (hO9.block hk).1; simp at this; omega)); clear hz9 GB)); clear M9 C9 G9 S9 hT9 hR9 hO9 hn9; rw [nerrV_zero]; simp only [pgV]))
            all_goals (go_wp2_with fail; go_meet; first | exact ⟨rfl, _, X9, _, _, _, r9, rfl, HPB.out, HSB.out, HT9.out, HN9.out, HOB.out, HFB.out, HAB.out⟩ | exact ⟨rfl, _, X9, _, _, _, r9, rfl, Pb.new w9 _ _ _ _ _ _ _ _ _, HS9.out.still ((Chg.refl _ w9).alloc _), HT9.out, HN9.out, HO9.out.chgF ((Chg.refl _ w9).alloc _), HF9.out.chg ((Chg.refl (fun _ => False) w9).alloc _) (fun f => f), HA9.out.chg ((Chg.refl (fun _ => False) w9).alloc _) (fun f => f)⟩)
          case rest =>
          clear d0 d1 d2 v0 d1z v0z hread HSD HZ HFD HAD
          obtain ⟨rfl, K, X, ad, n, cp, r9, rfl, P9, S9, hT9, hn9, hH9, hF9, hA9⟩ := hcut
          obtain ⟨g1, g2⟩ := mends_seen hm (dtl_length fv 174) (dtl_bys fv 174) HK.out HTu.out HOK.out hT9
          rw [HD.out] at g1 g2
          have hDk : ∀ k, dmg (s.ch (4 * p' + k)) = D k := fun k => by rw [← HD.out]
          simp only [hDk] at g2
          have hb9 : X.data.length ≤ 174 := hT9.len
          have hsame := same_n wc ad (some ⟨A, 0, none⟩) n 174 cp 174 X.data (dtl fv 174) hn9 (dtl_length _ _).symm hH9 (hA9.heldFull 174 174 (dtl_length _ _).symm) (by omega) (by rw [dtl_length]; omega)
          obtain ⟨k0, k1, k2, k3, k4, k5, k6, k7, k8⟩ := P9.cells
          obtain ⟨v0, v1, v2, v3, v4⟩ := S9.tg.cells
          have HS9 := hyd S9
          have HN9 := hyd hn9
          have HP9 := hyd P9
          have HF9 := hyd hF9
          clear S9 hT9 hH9 hA9 hb9 P9 hF9 hn9
          go_wp2_with fail
          refine hsame.mono ?_
          rintro x w9 ⟨rfl, G9⟩
          have HSA := hyd (HS9.out.still G9)
          obtain ⟨k0, k1, k2, k3, k4, k5, k6, k7, k8⟩ := (HP9.out.chg G9 (fun f => f)).cells
          obtain ⟨v0, v1, v2, v3, v4⟩ := HSA.out.tg.cells
          obtain ⟨n0, n1, n2, n3⟩ := (HF9.out.chg G9 (fun f => f)).cells
          have hgd := guard_tag
          rw [show upN D 4 0 = D 0 from rfl] at n0
          rw [show upN D 4 1 = D 1 from rfl] at n1
          rw [show upN D 4 2 = D 2 from rfl] at n2
          rw [show upN D 4 3 = D 3 from rfl] at n3
          clear hsame G9 HS9 HP9 HF9
          by_cases hm2 : mxT D 4 ≤ 2
          · obtain ⟨x1, x2, x3, x4, x5, x6, x7, x8, x9⟩ := g1 hm2
            rw [x1] at k0
            rw [x2] at k1
            rw [x3] at k2
            rw [x4] at k3
            rw [x5] at k4
            rw [x6] at k5
            rw [x7] at k6
            rw [x9] at k8
            rw [decide_eq_true x8]
            have qt := fun w => eql_tag w p' o' s' c' p' o' s' c' tl tl
            rw [decide_eq_true ⟨rfl, rfl, rfl, rfl, rfl⟩] at qt
            have hm2' : ((mxT D 4 : Nat) : Int) ≤ 2 := by omega
            clear g1 g2 x1 x2 x3 x4 x5 x6 x7 x8 x9
            go_wp2
            go_ret
            exact ⟨rfl, HSA.out.chg.below (fun k f => f.elim) (Nat.le_refl _)⟩
          · have hm2' : ¬ ((mxT D 4 : Nat) : Int) ≤ 2 := by omega
            by_cases hm4 : mxT D 4 ≤ 4
            · have hm4' : ¬ (4 : Int) < ((mxT D 4 : Nat) : Int) := by omega
              obtain ⟨y1, y2, y3, y4, y5, y6⟩ := g2 (by omega) hm4
              have hn0 : n = 0 := by rw [HN9.out, y2]; rfl
              subst hn0
              rw [y1] at k6
              have hy3 : ¬ (2 : Int) < ((X.dmg : Nat) : Int) := by omega
              generalize decide (X.data = dtl fv 174) = sm
              clear g1 g2 y1 y2 y3 HN9
              by_cases e3 : D 3 ≤ 2
              · have e3i : ((D 3 : Nat) : Int) ≤ 2 := by omega
                have yt := y4.2 e3
                obtain ⟨x2, x3, x4, x5, x6⟩ := y5 yt
                rw [yt] at k0
                rw [x2] at k1
                rw [x3] at k2
                rw [x4] at k3
                rw [x5] at k4
                rw [x6] at k5
                have qt := fun w => eql_tag w p' o' s' c' p' o' s' c' tl tl
                rw [decide_eq_true ⟨rfl, rfl, rfl, rfl, rfl⟩] at qt
                clear yt x2 x3 x4 x5 x6 y4 y5
                by_cases e0 : D 0 ≤ 2
                · have e0i : ((D 0 : Nat) : Int) ≤ 2 := by omega
                  by_cases e1 : D 1 ≤ 2
                  · have e1i : ((D 1 : Nat) : Int) ≤ 2 := by omega
                    by_cases e2 : D 2 ≤ 2
                    · have e2i : ((D 2 : Nat) : Int) ≤ 2 := by omega
                      exact absurd ⟨e0, e1, e2, e3⟩ y6
                    · have e2i : ¬ ((D 2 : Nat) : Int) ≤ 2 := by omega
                      go_wp2
                      go_ret
                      exact ⟨rfl, HSA.out.chg.below (fun k f => f.elim) (Nat.le_refl _)⟩
                  · have e1i : ¬ ((D 1 : Nat) : Int) ≤ 2 := by omega
                    go_wp2
                    go_ret
                    exact ⟨rfl, HSA.out.chg.below (fun k f => f.elim) (Nat.le_refl _)⟩
                · have e0i : ¬ ((D 0 : Nat) : Int) ≤ 2 := by omega
                  go_wp2
                  go_ret
                  exact ⟨rfl, HSA.out.chg.below (fun k f => f.elim) (Nat.le_refl _)⟩
              · have e3i : ¬ ((D 3 : Nat) : Int) ≤ 2 := by omega
                have yt : X.tagged = false := by
                  cases h : X.tagged
                  · rfl
                  · exact absurd (y4.1 h) e3
                rw [yt] at k0
                clear yt y4 y5
                by_cases e0 : D 0 ≤ 2
                · have e0i : ((D 0 : Nat) : Int) ≤ 2 := by omega
                  by_cases e1 : D 1 ≤ 2
                  · have e1i : ((D 1 : Nat) : Int) ≤ 2 := by omega
                    by_cases e2 : D 2 ≤ 2
                    · have e2i : ((D 2 : Nat) : Int) ≤ 2 := by omega
                      go_wp2
                      go_ret
                      exact ⟨rfl, HSA.out.chg.below (fun k f => f.elim) (Nat.le_refl _)⟩
                    · have e2i : ¬ ((D 2 : Nat) : Int) ≤ 2 := by omega
                      go_wp2
                      go_ret
                      exact ⟨rfl, HSA.out.chg.below (fun k f => f.elim) (Nat.le_refl _)⟩
                  · have e1i : ¬ ((D 1 : Nat) : Int) ≤ 2 := by omega
                    go_wp2
                    go_ret
                    exact ⟨rfl, HSA.out.chg.below (fun k f => f.elim) (Nat.le_refl _)⟩
                · have e0i : ¬ ((D 0 : Nat) : Int) ≤ 2 := by omega
                  go_wp2
                  go_ret
                  exact ⟨rfl, HSA.out.chg.below (fun k f => f.elim) (Nat.le_refl _)⟩
            · have hm4' : (4 : Int) < ((mxT D 4 : Nat) : Int) := by omega
              clear g1 g2
              go_wp2
              go_ret
              exact ⟨rfl, HSA.out.chg.below (fun k f => f.elim) (Nat.le_refl _)⟩
end Go.Proofs.YtifjmilegogbaaaGreat
