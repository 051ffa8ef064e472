/-
  MediaCuts, where the power goes ahead of the last chunk. Conditions: the integers that came in lie in memory.
-/
import Derived.Test.YtifjmilegogbaaaGreatMCuts
namespace Go.Proofs.YtifjmilegogbaaaGreat
open Go.RowKit
set_option maxRecDepth 100000

set_option maxHeartbeats 8000000 in
theorem mediaCuts_a (p' o' s' c' : Nat) (tl : Bool) (hm : May p' o' s' c' tl) (bu : Int) (h4 : pkN bu 6 < 4) (a : Option Addr) (len cap : Nat) (T : Nat → Int) (hb1 : -9223372036854775808 ≤ bu) (hb2 : bu ≤ 9223372036854775807) (hlen : len < 9223372036854775808) (w : World) (hT : IsInts w a len T) :
    Calls Tryz.prog 5 #[.agg #[.int .i64 (p' : Nat), .int .i64 (o' : Nat), .int .i64 (s' : Nat), .int .i64 (c' : Nat), .bool tl], .int .i64 bu, .slice a len cap] w fun e w' => e = .returned (.bool true) ∧ Below w.heap.size w w' := by
  have q1 := eql_nil_nil
  have q2 := neq_nil_nil
  have q3 := eql_e7_e1
  have q4 := eql_nil_e1
  have q5 := eql_e1_e1
  have q6 := eql_e7_e7
  have HT := hyd hT
  clear hT
  go_enter Tryz.func5, Tryz.ntmps5
  go_wp2_with fail
  refine (shown_any _).mono ?_
  rintro x w1 ⟨rfl, G1⟩
  have HG1 := hyd G1
  clear G1
  go_wp2_with fail
  refine (begun_any w1).mono ?_
  rintro x w2 ⟨t, c, m, p, q, b, R, rr, lo, hi, rfl, hB, hM, hC, hD, hE, hl, hh, hR, ht, hlh, G2⟩
  have S2 := Std.start w w1 w2 p' o' s' c' tl t c m p q b R rr lo hi HG1.out hB hM hC hD hE hl hh ht hlh G2
  have HS2 := hyd S2
  have htn := S2.bth.lt
  clear hB hM hC hD hE hl hh hR ht hlh G2 HG1 S2
  go_wp2_with fail
  refine (pick_6 bu hb1 hb2 _).mono ?_
  rintro x w3 ⟨rfl, rfl⟩
  have hn6 := pkN_lt bu (n := 6) (by omega)
  generalize pkN bu 6 = n at *
  obtain ⟨d0, d1, d2⟩ := HS2.out.bth.cells
  have hcut := ncut_any c newS (n : Nat) w3 HS2.out.chip
  have hce : (cutR newS (n : Nat)).2 = 0 := by unfold cutR; rw [if_neg (by omega)]
  rw [hce] at hcut
  clear hb1 hb2 hce
  go_wp2_with fail
  refine hcut.mono ?_
  rintro x w4 ⟨rfl, C4, G4⟩
  clear hcut d0 d1 d2
  rw [nerrV_zero]
  have S4 := HS2.out.chip' C4 (cutR_ok newS_ok _ (by omega)) G4
  have HS4 := hyd S4
  obtain ⟨d0, d1, d2⟩ := S4.bth.cells
  obtain ⟨v0, v1, v2, v3, v4⟩ := S4.tg.cells
  clear C4 G4 HS2 S4
  go_wp2_with fail
  go_region_held3 (fun wx => wx.cell? ⟨t, 1, none⟩ = some (.pointer (some ⟨m, 0, none⟩)) ∧ wx.cell? ⟨w.heap.size, 0, none⟩ = some (.int .i64 (p' : Nat)) ∧ wx.cell? ⟨w.heap.size, 1, none⟩ = some (.int .i64 (o' : Nat)) ∧ wx.cell? ⟨w.heap.size, 2, none⟩ = some (.int .i64 (s' : Nat)) ∧ wx.cell? ⟨w.heap.size, 3, none⟩ = some (.int .i64 (c' : Nat)) ∧ wx.cell? ⟨w.heap.size, 4, none⟩ = some (.bool tl))
    (first | exact ⟨d1, v0, v1, v2, v3, v4⟩ | exact ⟨e1, u0, u1, u2, u3, u4⟩ | exact ⟨f1, z0, z1, z2, z3, z4⟩)
    (first
      | (go_at_call 18; refine (data_fn 174 9 (by omega) (by omega) _).mono ?_; rintro x w5 ⟨rfl, A5, G5⟩; have S5 := HS4.out.drew.still G5; obtain ⟨e0, e1, e2⟩ := S5.bth.cells; obtain ⟨u0, u1, u2, u3, u4⟩ := S5.tg.cells; have HS5 := hyd S5; have HA5 := hyd A5; clear A5 G5 S5)
      | (go_at_call 19; refine (mprogram_yes m c p q b 0 (cutR newS (n : Nat)).1 HS5.out.ok _ HS5.out.med HS5.out.chip p' o' s' c' tl hm _ 0 _ (dtl 9 174) (dtl_length _ _) (dtl_bys _ _) (by have := HA5.out.lt; have := HS4.out.med.lts; simp; omega) (by have := HS4.out.chip.lt; simp; omega) (by have := HS4.out.med.lts; simp; omega) HA5.out.at_).mono ?_; rintro x w6 ⟨⟨sP, r6, eP, hP, rfl, M6, C6⟩, G6⟩; have S6 := HS5.out.set M6 C6 (hP.ok HS5.out.ok (dtl_length _ _) (dtl_bys _ _)) G6; obtain ⟨f0, f1, f2⟩ := S6.bth.cells; obtain ⟨z0, z1, z2, z3, z4⟩ := S6.tg.cells; have HS6 := hyd S6; have HP := hyd hP; clear hP M6 C6 G6 S6))
  obtain ⟨he, hch⟩ := cuts_prog hn6 hm (dtl_length _ _) (dtl_bys _ _) HP.out
  clear d0 d1 d2 v0 v1 v2 v3 v4 e0 e1 e2 u0 u1 u2 u3 u4 f0 f1 f2 z0 z1 z2 z3 z4 HS5 HA5 HP HS4
  rw [if_pos h4] at he
  subst he
  rw [show nerrV 7 = .iface 58 (.int .i64 7) from rfl]
  have HK := hyd hch
  have S6b := HS6.out
  obtain ⟨d0, d1, d2⟩ := S6b.bth.cells
  have hpow := power_any c sP w6 S6b.chip
  clear S6b hch
  go_wp2_with fail
  refine hpow.mono ?_
  rintro x w7 ⟨rfl, C7, G7⟩
  clear hpow d0 d1 d2
  have S7 := HS6.out.chip' C7 HS6.out.ok.onn G7
  have F7 : FlI (onS sP) (onS sP) p' 0 := ⟨HS6.out.ok.onn, rfl, fun _ _ => rfl, rfl, rfl, by rw [ds_self]; exact Nat.le_refl _⟩
  have hp96 := hm.place
  have HS7 := hyd S7
  have HF7 := hyd F7
  clear C7 G7 S7 F7 HS6
  go_upto_block 0 with fail
  go_cut [] (fun wx => ∃ (i : Nat) (s : Chp), i ≤ 4 ∧ FlI (onS sP) s p' i ∧ Std w wx t c m p q b R w.heap.size (p' : Nat) (o' : Nat) (s' : Nat) (c' : Nat) tl s r6)
  case first =>
    go_wp2_with fail
    go_loopw [12] (fun t12 wr => ∃ (i : Nat) (s : Chp), i ≤ 4 ∧ i ≤ len ∧ t12 = .int .i64 i ∧ FlI (onS sP) s p' i ∧ Std w wr t c m p q b R w.heap.size (p' : Nat) (o' : Nat) (s' : Nat) (c' : Nat) tl s r6) (fun t12 _ => 4 - (intOf t12).toNat)
    case atStart => exact ⟨0, onS sP, by omega, by omega, rfl, HF7.out, HS7.out⟩
    case round =>
      clear HF7 HS7
      obtain ⟨i, s, hi, hil, rfl, hF, hS⟩ := hrel
      by_cases hlt : i < len ∧ i < 4
      · have hl1 : (i : Int) < (len : Int) := by omega
        have hl2 : (i : Int) < 4 := by omega
        have hl0 : (0 : Int) ≤ (i : Int) := by omega
        obtain ⟨hr, hc⟩ := HT.out
        rcases hc with hc | ⟨qa, oa, rfl, hqa, hc⟩
        · omega
        have ca : wr.cell? ⟨qa, oa + i, none⟩ = some (.int .i64 (T i)) := (hS.chg.cell hqa (fun f => f) _).trans (hc i hlt.1)
        have ra := hr i hlt.1
        generalize T i = xx at *
        obtain ⟨d0, d1, d2⟩ := hS.bth.cells
        obtain ⟨v0, -⟩ := hS.tg.cells
        have HS := hyd hS
        have HF := hyd hF
        clear hr hc hS hF
        go_wp2_with fail
        go_region_held3 (fun wx => wx.cell? ⟨t, 0, none⟩ = some (.pointer (some ⟨c, 0, none⟩)) ∧ wx.cell? ⟨w.heap.size, 0, none⟩ = some (.int .i64 (p' : Nat)) ∧ wx.cell? ⟨qa, oa + i, none⟩ = some (.int .i64 xx))
          (first | exact ⟨d0, v0, ca⟩ | exact ⟨e0, u0, cb⟩)
          (first
            | (go_at_call 21; refine (pick_512 xx ra.1 ra.2 _).mono ?_; rintro x w8 ⟨rfl, rfl⟩; have hkk := pkN_lt xx (n := 512) (by omega); generalize pkN xx 512 = kk at *)
            | (go_at_call 20; rw [wrap1536 kk hkk]; refine (flip_any c s HF.out.ok (p' : Nat) ((1536 + kk : Nat) : Int) _ HS.out.drew.chip).mono ?_; rintro x w9 ⟨rfl, C9, G9⟩; have S9 := HS.out.drew.chip' C9 (flipR_ok HF.out.ok _ _) G9; obtain ⟨e0, -, -⟩ := S9.bth.cells; obtain ⟨u0, -⟩ := S9.tg.cells; have HS9 := hyd S9; have cb : w9.cell? ⟨qa, oa + i, none⟩ = some (.int .i64 xx) := (G9.cell (Nat.lt_of_lt_of_le hqa HS.out.chg.size) (by have := HS.out.lo; omega) _).trans ca; clear C9 G9 S9))
        clear d0 d1 d2 v0 e0 u0 ca cb
        obtain ⟨hF9, hz9⟩ := HF.out.flip hp96 hkk
        rw [show ((1536 : Int) + (kk : Int)) = ((1536 + kk : Nat) : Int) from by omega, hz9]
        have HF9 := hyd hF9
        clear hF9 hz9 HF HS
        rw [nerrV_zero]
        go_wp2
        exact ⟨⟨i + 1, _, by omega, by omega, by go_num, HF9.out, HS9.out⟩, by simp [intOf]; omega⟩
      · have HS := hyd hS
        have HF := hyd hF
        clear hS hF hil
        by_cases hlt2 : i < len
        · have hl1 : (i : Int) < (len : Int) := by omega
          have hl2 : ¬ (i : Int) < 4 := by omega
          go_wp2_with fail
          go_meet
          exact ⟨i, s, hi, HF.out, HS.out⟩
        · have hl1 : ¬ (i : Int) < (len : Int) := by omega
          go_wp2_with fail
          go_meet
          exact ⟨i, s, hi, HF.out, HS.out⟩
  case rest =>
  clear HF7 HS7
  obtain ⟨i, s, hi4, hF, hS⟩ := hcut
  obtain ⟨d0, d1, d2⟩ := hS.bth.cells
  obtain ⟨v0, -⟩ := hS.tg.cells
  have hread := fun (wx : World) hM hC => mread_any m c p q b r6 s hF.ok wx hM hC (p' : Nat)
  have hon := hF.on
  have hlts := hS.lts
  have hSd : ∀ wx, (wx = wc.drew ∨ wx = (wc.alloc (.cells #[.bool false, .int .i64 0, .int .i64 0, .int .i64 0, .int .i64 0, .bool false, .bool false, .slice none 0 0, .int .i64 0] 65)).drew) → Std w wx t c m p q b R w.heap.size (p' : Nat) (o' : Nat) (s' : Nat) (c' : Nat) tl s r6 := by
    rintro wx (rfl | rfl)
    · exact hS.drew
    · exact (hS.still ((Chg.refl _ _).alloc _)).drew
  have hZ : Pb (wc.alloc (.cells #[.bool false, .int .i64 0, .int .i64 0, .int .i64 0, .int .i64 0, .bool false, .bool false, .slice none 0 0, .int .i64 0] 65)).drew wc.heap.size false 0 0 0 0 false false (.slice none 0 0) 0 := Pb.new wc false 0 0 0 0 false false (.slice none 0 0) 0
  have HSD := hyd hSd
  have HZ := hyd hZ
  have HF := hyd hF
  have hon2 := hyd hon
  have d1z : (wc.alloc (.cells #[.bool false, .int .i64 0, .int .i64 0, .int .i64 0, .int .i64 0, .bool false, .bool false, .slice none 0 0, .int .i64 0] 65)).cell? ⟨t, 1, none⟩ = some (.pointer (some ⟨m, 0, none⟩)) := (hSd _ (Or.inr rfl)).bth.cells.2.1
  have v0z : (wc.alloc (.cells #[.bool false, .int .i64 0, .int .i64 0, .int .i64 0, .int .i64 0, .bool false, .bool false, .slice none 0 0, .int .i64 0] 65)).cell? ⟨w.heap.size, 0, none⟩ = some (.int .i64 (p' : Nat)) := (hSd _ (Or.inr rfl)).tg.cells.1
  clear hS hF hSd hZ hon
  go_upto_region 19 with fail
  go_cut [14, 15] (fun s14 s15 wx => s15 = .nilIface ∧ ∃ (K : Nat) (X : Pg) (v : Value) (r9 : Int), s14 = .pointer (some ⟨K, 0, none⟩) ∧ Pb wx K X.tagged X.p X.o X.s X.c X.l X.sound v X.dmg ∧ Std w wx t c m p q b R w.heap.size (p' : Nat) (o' : Nat) (s' : Nat) (c' : Nat) tl (rdS s p') r9 ∧ ToldR (pgTo s p' 4) (p' : Nat) X)
  case first =>
    go_region_with (first
      | (go_at_call 23; refine (hread _ (HSD.out _ (by first | exact Or.inl rfl | exact Or.inr rfl)).med (HSD.out _ (by first | exact Or.inl rfl | exact Or.inr rfl)).chip).mono ?_; rintro x w9 ⟨s9, r9, X9, c9, v9, rfl, hR9, hO9, M9, C9, G9⟩; obtain ⟨hc9, hr9, hs9, hT9⟩ := hR9.done hp96 hon2.out; subst hc9 hs9; obtain ⟨ad9, n9, cp9, rfl⟩ := hO9.sl; have S9 := (HSD.out _ (by first | exact Or.inl rfl | exact Or.inr rfl)).set M9 C9 (rdS_ok HF.out.ok _) G9; have HS9 := hyd S9; have HT9 := hyd hT9; have HG9 := hyd G9; (try (have hz9 := HZ.out.chg G9 (by omega); have zf := hz9.frozen; obtain ⟨z0, z1, z2, z3, z4, z5, z6, z7, z8⟩ := hz9.cells; have HPB := hyd (((((((((hz9.set0 X9.tagged).set1 X9.p).set2 X9.o).set3 X9.s).set4 X9.c).set5 X9.l).set6 X9.sound).set7 (.slice ad9 n9 cp9)).set8 X9.dmg); have HSB := hyd (S9.junk ((((((((((Chg.refl (· = wc.heap.size) w9).at _ 0 (.bool X9.tagged)).at _ 1 (.int .i64 X9.p)).at _ 2 (.int .i64 X9.o)).at _ 3 (.int .i64 X9.s)).at _ 4 (.int .i64 X9.c)).at _ 5 (.bool X9.l)).at _ 6 (.bool X9.sound)).at _ 7 (.slice ad9 n9 cp9)).at _ 8 (.int .i64 X9.dmg)) (by omega)); clear hz9)); clear M9 C9 G9 S9 hT9 hR9 hO9; rw [nerrV_zero]; simp only [pgV]))
    all_goals (go_wp2_with fail; go_meet; first | exact ⟨rfl, _, X9, _, r9, rfl, HPB.out, HSB.out, HT9.out⟩ | exact ⟨rfl, _, X9, _, r9, rfl, Pb.new w9 _ _ _ _ _ _ _ _ _, HS9.out.still ((Chg.refl _ w9).alloc _), HT9.out⟩)
  case rest =>
  clear d0 d1 d2 v0 d1z v0z hread HSD HZ
  obtain ⟨rfl, K, X, v, r9, rfl, P9, S9, hT9⟩ := hcut
  obtain ⟨b1, b2, b3, b4⟩ := cuts_seen (s2 := onS sP) hi4 hm (dtl_length _ _) (dtl_bys _ _) HK.out HF.out hT9
  have HP9 := hyd P9
  have HS9 := hyd S9
  have HOK := hyd S9.ok
  have HB3 := hyd b3
  have HB4 := hyd b4
  clear P9 S9 b3 b4 HF hT9 HK
  go_wp2_with fail
  go_loopw [16] (fun t16 wr => ∃ k : Nat, k ≤ 4 ∧ t16 = .int .i64 k ∧ Std w wr t c m p q b R w.heap.size (p' : Nat) (o' : Nat) (s' : Nat) (c' : Nat) tl (rdS s p') r9 ∧ Pb wr K X.tagged X.p X.o X.s X.c X.l X.sound v X.dmg) (fun t16 _ => 4 - (intOf t16).toNat)
  case atStart => exact ⟨0, by omega, rfl, HS9.out, HP9.out⟩
  case round =>
    clear HS9 HP9
    obtain ⟨k, hk, rfl, hS, hP⟩ := hrel
    by_cases hlt : k < 4
    · have hl1 : (k : Int) < 4 := by omega
      obtain ⟨d0, d1, d2⟩ := hS.bth.cells
      obtain ⟨v0, -⟩ := hS.tg.cells
      have htru := fun (wx : World) hC => truth_v c (rdS s p') HOK.out (p' : Nat) (k : Nat) wx hC
      have hv : truV (rdS s p') (p' : Nat) (k : Nat) = ((s.ch (4 * p' + k)).tru, decide (k < n), 0) := by
        unfold truV
        rw [if_pos (by omega), Int.toNat_natCast, Int.toNat_natCast, ← HB3.out k hlt]
        rfl
      rw [hv] at htru
      have HS := hyd hS
      have HP := hyd hP
      clear hS hP hv
      go_wp2_with fail
      go_region_held3 (fun wx => wx.cell? ⟨t, 0, none⟩ = some (.pointer (some ⟨c, 0, none⟩)) ∧ wx.cell? ⟨w.heap.size, 0, none⟩ = some (.int .i64 (p' : Nat)))
        (first | exact ⟨d0, v0⟩ | exact ⟨e0, u0⟩)
        (first
          | (go_at_call 26; refine (htru _ HS.out.drew.chip).mono ?_; rintro x w9 ⟨ad9, n9, cp9, rfl, -, -, G9⟩; have S9 := HS.out.drew.still G9; have P9 := (HP.out.chg ((Chg.refl (fun _ => False) wr).drew) (fun f => f)).chg G9 (fun f => f); obtain ⟨e0, -, -⟩ := S9.bth.cells; obtain ⟨u0, -⟩ := S9.tg.cells; have HS9 := hyd S9; have HP9 := hyd P9; clear G9 S9 P9))
      clear d0 d1 d2 v0 e0 u0 htru HS HP
      rw [nerrV_zero]
      by_cases hkn : k < n
      · rw [decide_eq_true hkn]
        have hkn' : (k : Int) < (n : Int) := by omega
        go_wp2
        exact ⟨⟨k + 1, by omega, by go_num, HS9.out, HP9.out⟩, by simp [intOf]; omega⟩
      · rw [decide_eq_false hkn]
        have hkn' : ¬ (k : Int) < (n : Int) := by omega
        go_wp2
        exact ⟨⟨k + 1, by omega, by go_num, HS9.out, HP9.out⟩, by simp [intOf]; omega⟩
    · obtain rfl : k = 4 := by omega
      have HS9 := hyd hS
      have HP9 := hyd hP
      clear hS hP
      go_wp2_with fail
      go_loopw [20] (fun t20 wr => ∃ k : Nat, k ≤ 96 ∧ t20 = .int .i64 k ∧ Std w wr t c m p q b R w.heap.size (p' : Nat) (o' : Nat) (s' : Nat) (c' : Nat) tl (rdS s p') r9 ∧ Pb wr K X.tagged X.p X.o X.s X.c X.l X.sound v X.dmg) (fun t20 _ => 96 - (intOf t20).toNat)
      case atStart => exact ⟨0, by omega, rfl, HS9.out, HP9.out⟩
      case round =>
        clear HS9 HP9
        obtain ⟨k, hk, rfl, hS, hP⟩ := hrel
        obtain ⟨v0, v1, v2, v3, v4⟩ := hS.tg.cells
        by_cases hlt : k < 96
        · have hl1 : (k : Int) < 96 := by omega
          obtain ⟨d0, d1, d2⟩ := hS.bth.cells
          by_cases hkp : k = p'
          · have hkp' : ((k : Int) == (p' : Int)) = true := by simp [hkp]
            have HS := hyd hS
            have HP := hyd hP
            clear hS hP hkp
            go_wp2
            exact ⟨⟨k + 1, by omega, by go_num, HS.out, HP.out⟩, by simp [intOf]; omega⟩
          · have hkp' : ((k : Int) == (p' : Int)) = false := by simp; omega
            have htru := truth_v c (rdS s p') HOK.out (k : Nat) ((0 : Nat) : Int) wr hS.chip
            have hv : truV (rdS s p') (k : Nat) ((0 : Nat) : Int) = ((s.ch (4 * k + 0)).tru, false, 0) := by
              unfold truV
              rw [if_pos (by omega), Int.toNat_natCast, Int.toNat_natCast, ← HB4.out k hkp]
              rfl
            rw [hv] at htru
            have HS := hyd hS
            have HP := hyd hP
            clear hS hP hv hkp
            go_wp2_with fail
            refine htru.mono ?_
            rintro x w9 ⟨ad9, n9, cp9, rfl, -, -, G9⟩
            have HS9 := hyd (HS.out.still G9)
            have HP9 := hyd (HP.out.chg G9 (fun f => f))
            clear htru G9 HS HP d0 d1 d2 v0 v1 v2 v3 v4
            rw [nerrV_zero]
            go_wp2
            refine ⟨?_, by simp [intOf]; omega⟩
            repeat apply Exists.intro
            exact ⟨⟨k + 1, by omega, by go_num, HS9.out, HP9.out⟩, rfl⟩
        · obtain rfl : k = 96 := by omega
          obtain ⟨k0, k1, k2, k3, k4, k5, k6, k7, k8⟩ := hP.cells
          have HS := hyd hS
          clear hS hP
          obtain ⟨x1, x2⟩ := b1 h4
          rw [x1] at k0
          rw [x2] at k6
          have h4' : (n : Int) < 4 := by omega
          go_wp2
          go_ret
          exact ⟨rfl, HS.out.chg.below (fun k f => f.elim) (Nat.le_refl _)⟩
end Go.Proofs.YtifjmilegogbaaaGreat
