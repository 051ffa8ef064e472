/-
  The document's Live. Condition: at most 2932031007402 founds (2^47 bytes).
-/
import Derived.Test.YtjkpidhpjleebaaLiv
namespace Go.Proofs.Ytjkpidhpjleebaa
set_option maxRecDepth 100000
open Go.RowKit Go.Sort

set_option maxHeartbeats 16000000 in
theorem rlive_any (w : World) (a : Option Addr) (cap : Nat) (l : List Fnd) (n : Nat) (hnl : n = l.length) (c : Ckp) (hs : Sl w (.slice a n cap) l) (hn : n < 2932031007402) :
    Calls Try.prog 14 #[.slice a n cap, .agg (ckA c)] w fun e w' => e = .returned (.agg (ints (lv l c) 25).toArray) ∧ Chg (fun _ => False) w w' := by
  have HN := hyd hnl
  have K0 := Ck.new w c
  have HK0 := hyd K0
  have HG0 : Hid (Chg (fun _ => False) w (w.alloc (.cells (ckA c) 36))) := (Chg.refl _ w).alloc _
  have HS := hyd (hs.new HG0.out)
  obtain ⟨m, hm⟩ : ∃ m, (l.filter (gd c)).length = m := ⟨_, rfl⟩
  have hmn : m ≤ n := by rw [← hm, hnl]; exact List.length_filter_le _ _
  have HM := hyd hm
  obtain ⟨B, HBB⟩ : ∃ B, Hid (B = w.heap.size) := ⟨_, rfl⟩
  clear hs hnl K0 hm
  go_enter Try.func14, Try.ntmps14
  go_wp2_with (refine wpList_alloc_25 rfl rfl (w.heap.size + 1) (World.size_alloc _ _) ?_)
  intro w1 A1 G1 S1
  have HK1 := hyd (HK0.out.chg G1 (fun h => h))
  have HS1 := hyd (HS.out.new G1)
  have HG1 := hyd (HG0.out.trans G1)
  have HA1 := hyd A1
  clear A1 G1 HK0 HG0 HS
  rw [← HBB.out] at HK1 HA1 S1
  rw [← HBB.out]
  have HSz := hyd S1
  clear S1
  go_wp2_with fail
  go_loopg [5, 6] n (fun kx s5 s6 wr => ∃ i : Nat, s6 = .int .i64 i ∧ i ≤ n ∧ n - i ≤ kx ∧ Hid (Ow wr w1.heap.size s5 ((l.take i).filter (gd c))) ∧ Hid (Chg (fun _ => False) w1 wr))
  case atStart => exact ⟨0, rfl, by omega, by omega, Ow.nil _ _, Chg.refl _ _⟩
  case round =>
  obtain ⟨i, rfl, hin, hkx, HO, HGr⟩ := hrel
  by_cases hlt : i < n
  · have hltz : (i : Int) < (n : Int) := by omega
    obtain ⟨f, hf⟩ : ∃ f, l[i]? = some f := ⟨_, List.getElem?_eq_getElem (by rw [← HN.out]; exact hlt)⟩
    have HF := hyd hf
    obtain ⟨g, o, ha, hA⟩ := HS1.out.at6 (by rw [← HN.out]; omega)
    subst ha
    have hA2 := hA.chg HGr.out (fun h => h)
    have HR := hyd (hA2.2 i f hf)
    have HA2 := hyd hA2
    clear hf hA hA2
    have HT := hyd (filter_take_succ (p := gd c) HF.out)
    cases hsn : snd f with
    | false =>
      have HC : Hid (gd c f = false) := by show _ = _; simp [gd, hsn]
      go_wp2_with (first | (refine wpList_load_at (f := f) rfl (.tmp 21) rfl g (o + i * 6) rfl ?_ ?_; exact HR.out) | (go_at_call 17; refine (rsound_any f _).mono ?_; rintro e w3 ⟨rfl, G3⟩; have A3 := HA2.out.chg G3 (fun h => h); have HG3 := hyd (HGr.out.trans G3); have HO3 := hyd (HO.out.new G3); clear A3 G3))
      go_roundg (n - (i + 1))
      case measure => omega
      case rel =>
        refine ⟨i + 1, by simp, by omega, Nat.le_refl _, ?_, HG3.out⟩
        show Ow _ _ _ _
        rw [HT.out, HC.out]; simpa using HO3.out
    | true =>
      have hP := (snd_iff f).1 hsn
      have hP0 := hP.1
      have hP1 := hP.2.1
      clear hP
      obtain ⟨q, hq⟩ : ∃ q : Nat, f.P / 8 = (q : Int) := ⟨(f.P / 8).toNat, by omega⟩
      have hqt : f.P.tdiv 8 = (q : Int) := by rw [Int.tdiv_eq_ediv_of_nonneg hP0]; exact hq
      have hql : q < 12 := by omega
      have hqz : (q : Int) < 12 := by omega
      have HGd : Hid (gd c f = !c.B q) := by
        show _ = _
        unfold gd
        rw [hsn, hq]
        simp
      cases hbq : c.B q with
      | true =>
        rw [hbq] at HGd
        go_wp2_with (first | (refine wpList_load_at (f := f) rfl (.tmp 21) rfl g (o + i * 6) rfl ?_ ?_; exact HR.out) | (go_at_call 17; refine (rsound_any f _).mono ?_; rintro e w3 ⟨rfl, G3⟩; have A3 := HA2.out.chg G3 (fun h => h); obtain ⟨k0, -, -, -⟩ := A3.fields HF.out; have kB := (HK1.out.chg (HGr.out.trans G3) (fun h => h)).B q hql; rw [hbq] at kB; have HG3 := hyd (HGr.out.trans G3); have HO3 := hyd (HO.out.new G3); clear A3 G3))
        go_roundg (n - (i + 1))
        case measure => omega
        case rel =>
          refine ⟨i + 1, by simp, by omega, Nat.le_refl _, ?_, HG3.out⟩
          show Ow _ _ _ _
          rw [HT.out, HGd.out]; simpa using HO3.out
      | false =>
        rw [hbq] at HGd
        have hle : ((l.take i).filter (gd c)).length + 1 ≤ 2932031007402 := by
          have := Nat.le_trans (List.length_filter_le (gd c) (l.take i)) (by rw [List.length_take]; exact Nat.min_le_left _ _)
          omega
        go_wp2_with (first | (refine wpList_load_at (f := f) rfl (.tmp 21) rfl g (o + i * 6) rfl ?_ ?_; exact HR.out) | (go_at_call 17; refine (rsound_any f _).mono ?_; rintro e w3 ⟨rfl, G3⟩; have A3 := HA2.out.chg G3 (fun h => h); obtain ⟨k0, -, -, -⟩ := A3.fields HF.out; have kB := (HK1.out.chg (HGr.out.trans G3) (fun h => h)).B q hql; rw [hbq] at kB; have HR3 := hyd (A3.2 i f HF.out); have HG3 := hyd (HGr.out.trans G3); have HO3 := hyd (HO.out.new G3); clear A3 G3) | (refine wpList_load_at (f := f) rfl (.tmp 40) rfl g (o + i * 6) rfl ?_ ?_; exact HR3.out) | (refine wpList_row_fo (f := f) rfl (.tmp 41) rfl rfl w3.heap.size rfl ?_))
        intro w5 K5 G5
        have HO5 := hyd (HO3.out.new G5)
        have HG5 := hyd (HG3.out.trans G5)
        have HA5 := hyd (At6.one K5)
        have hb5 : w1.heap.size ≤ w5.heap.size := HG5.out.size
        clear K5 G5 HO3 HG3 k0 kB
        go_wp2_with (refine wpList_append_fo w5 rfl (.tmp 37) (.tmp 42) rfl w1.heap.size u5 _ rfl HO5.out w3.heap.size 0 1 1 [f] rfl rfl HA5.out hle hb5 ?_)
        intro v' w6 O6 G6
        have HO6 := hyd O6
        have HG6 : Hid (Chg (fun _ => False) w1 w6) := hyd (HG5.out.trans' G6 fun k hk h => by
          have := HO5.out.block h
          omega)
        clear O6 G6
        go_wp2
        go_roundg (n - (i + 1))
        case measure => omega
        case rel =>
          refine ⟨i + 1, by simp, by omega, Nat.le_refl _, ?_, HG6.out⟩
          show Ow _ _ _ _
          rw [HT.out, HGd.out]; simpa using HO6.out
  · have hltz : ¬ (i : Int) < (n : Int) := by omega
    have hSl : Sl wr u5 (l.filter (gd c)) := by
      have := HO.out.sl
      rw [show i = l.length by have := HN.out; omega, List.take_length] at this
      exact this
    obtain ⟨a', cap', e', -⟩ := id hSl
    rw [HM.out] at e'
    subst e'
    have HSl := hyd hSl
    have HSb0 := hyd hSl.apart
    have HK2 := hyd (HK1.out.chg HGr.out (fun h => h))
    have HA2 := hyd (HA1.out.chg HGr.out (fun h => h))
    have HG2 := hyd (HG1.out.trans HGr.out)
    have hs2 := HGr.out.size
    clear hSl HO HK1 HA1 HG1 HS1
    obtain ⟨w2, rfl⟩ : ∃ x, x = wr := ⟨_, rfl⟩
    clear HGr
    go_wp2_with (refine wpList_alloc_25 rfl rfl w2.heap.size rfl ?_)
    intro w3 A3 G3 S3
    have HK3 := hyd (HK2.out.chg G3 (fun h => h))
    have HA3 := hyd (HA2.out.chg G3 (fun h => h))
    have HS3 := hyd (HSl.out.new G3)
    have HG3 := hyd (HG2.out.trans G3)
    have HD3 := hyd A3
    clear A3 G3 HK2 HA2 HG2 HSl
    obtain ⟨D, HDD⟩ : ∃ D, Hid (D = w2.heap.size) := ⟨_, rfl⟩
    rw [← HDD.out] at HD3 S3 hs2 HSb0
    rw [← HDD.out]
    have hDw : w.heap.size + 2 ≤ D := by have := HBB.out; have := HSz.out; omega
    have hBD : B + 1 < D := by have := HBB.out; have := HSz.out; omega
    have hDs : D < w3.heap.size := by omega
    go_wp2_with fail
    go_loopg [9] 25 (fun kx s14 wr => ∃ (i : Nat) (F : Nat → Int), s14 = .int .i64 i ∧ i ≤ 25 ∧ 25 - i ≤ kx ∧ Hid (A25 wr D F) ∧ Hid (∀ j, j < i → F j = lv l c j) ∧ Hid (Chg (· = D) w3 wr))
    case atStart => exact ⟨0, fun _ => 0, rfl, by omega, by omega, HD3.out, fun j hj => absurd hj (Nat.not_lt_zero _), Chg.refl _ _⟩
    case round =>
    obtain ⟨i, F, rfl, hin, hkx, HDr, HF, HGr⟩ := hrel
    by_cases hlt : i < 25
    · have hltz : (i : Int) ≤ 24 := by omega
      have hltz' : (i : Int) < 25 := by omega
      obtain ⟨d1, d2⟩ := HDr.out.cell i hlt
      have HD1 := hyd (HDr.out.set i (-1))
      have HG1 : Hid (Chg (· = D) w3 (wr.setCell ⟨D, i, none⟩ (.int .i64 (-1)))) := hyd (HGr.out.setCell (Or.inl rfl) i _)
      have HSr := hyd (HS3.out.chg HG1.out HSb0.out)
      have HDD2 := hyd HD1.out.lt
      go_upto_if 49 with fail
      go_cut [10] from 48 to 53 (fun s10 wx => s10 = .int .i64 (flo c i) ∧ wr = wx)
      case first =>
        by_cases h24 : i < 24
        · have h24z : (i : Int) < 24 := by omega
          have kF := (HK3.out.chg HGr.out (by omega)).F i h24
          have HFl : Hid (flo c i = c.F i) := by show _ = _; unfold flo; rw [if_neg (by omega)]
          go_wp2_with fail
          go_meet
          case rel => exact ⟨by rw [HFl.out], rfl⟩
        · have h24z : ¬ (i : Int) < 24 := by omega
          have HFl : Hid (flo c i = -1) := by show _ = _; unfold flo; rw [if_pos (by omega)]
          go_wp2_with fail
          go_meet
          case rel => exact ⟨by rw [HFl.out], rfl⟩
      case rest =>
      obtain ⟨rfl, rfl⟩ := hcut
      go_upto_region 16 with fail
      generalize wr.setCell ⟨D, i, none⟩ (.int .i64 (-1)) = wa at *
      clear d1 d2
      cases ho : newest (l.filter (gd c)) i (flo c i) with
      | none =>
        have HLv := hyd (lv_none ho)
        have c12 := rnewest_is wa a' cap' (l.filter (gd c)) m HM.out.symm i (flo c i) HSr.out (by omega) (f := f0) (b := false) (by rw [ho]; rfl)
        go_wp2_with (first | (go_at_call 12; refine c12.mono ?_; rintro e w5 ⟨rfl, G5⟩; have HG5 := hyd (HG1.out.trans' G5 (fun _ _ h => h.elim)); have HD5 := hyd (HD1.out.chg G5 (fun h => h)); clear G5) | (refine wpList_alloc_fo rfl rfl w5.heap.size rfl ?_))
        intro w6 K6 G6 S6
        have HK6 := hyd K6
        clear K6
        go_wp2_with (refine wpList_store_fo rfl (.tmp 11) (.tmp 61) rfl w5.heap.size rfl rfl HK6.out ?_)
        intro w7 K7 G7
        have hD5 := HD5.out.lt
        have G67 := G6.trans' G7 (fun k hk h => by omega)
        have HG7 := hyd (HG5.out.trans' G67 (fun _ _ h => h.elim))
        have HD7 := hyd (HD5.out.chg G67 (fun h => h))
        clear K7 G6 G7 G67 HK6 S6
        go_wp2
        go_roundg (25 - (i + 1))
        case measure => omega
        case rel =>
          refine ⟨i + 1, _, by simp, by omega, Nat.le_refl _, HD7.out, fun j hj => ?_, HG7.out⟩
          by_cases e : j = i
          · subst e; simp [upd, HLv.out]
          · simp [upd, e]; exact HF.out j (by omega)
      | some f =>
        have HLv := hyd (lv_some ho)
        have c12 := rnewest_is wa a' cap' (l.filter (gd c)) m HM.out.symm i (flo c i) HSr.out (by omega) (f := f) (b := true) (by rw [ho]; rfl)
        go_wp2_with (first | (go_at_call 12; refine c12.mono ?_; rintro e w5 ⟨rfl, G5⟩; have HG5 := hyd (HG1.out.trans' G5 (fun _ _ h => h.elim)); have HD5 := hyd (HD1.out.chg G5 (fun h => h)); clear G5) | (refine wpList_alloc_fo rfl rfl w5.heap.size rfl ?_))
        intro w6 K6 G6 S6
        have HK6 := hyd K6
        clear K6
        go_wp2_with (refine wpList_store_fo rfl (.tmp 11) (.tmp 61) rfl w5.heap.size rfl rfl HK6.out ?_)
        intro w7 K7 G7
        have hD5 := HD5.out.lt
        have G67 := G6.trans' G7 (fun k hk h => by omega)
        have HG7 := hyd (HG5.out.trans' G67 (fun _ _ h => h.elim))
        have HD7 := hyd (HD5.out.chg G67 (fun h => h))
        obtain ⟨k0, -, -, -, -, -⟩ := K7.cells
        obtain ⟨e1, e2⟩ := HD7.out.cell i hlt
        have HD8 := hyd (HD7.out.set i f.P)
        have HG8 : Hid (Chg (· = D) w3 (w7.setCell ⟨D, i, none⟩ (.int .i64 f.P))) := hyd (HG7.out.setCell (Or.inl rfl) i _)
        clear K7 G6 G7 G67 HK6 S6
        go_wp2
        go_roundg (25 - (i + 1))
        case measure => omega
        case rel =>
          refine ⟨i + 1, _, by simp, by omega, Nat.le_refl _, HD8.out, fun j hj => ?_, HG8.out⟩
          by_cases e : j = i
          · subst e; simp [upd, HLv.out]
          · simp [upd, e]; exact HF.out j (by omega)
    · have hltz : ¬ (i : Int) ≤ 24 := by omega
      have hltz' : ¬ (i : Int) < 25 := by omega
      have HDl := hyd (HDr.out.congr (g := lv l c) (fun j hj => HF.out j (by omega)))
      have HAr := hyd (HA3.out.chg HGr.out (by omega))
      go_wp2_with (first | (refine wpList_load_25 rfl (.tmp 8) rfl D rfl HDl.out ?_) | (refine wpList_store_25 rfl (.tmp 4) (.tmp 68) rfl (B + 1) rfl rfl HAr.out ?_))
      intro w8 A8 G8
      have HA8 := hyd A8
      have HG8 := hyd ((HG3.out.trans' HGr.out fun k hk h => by omega).trans' G8 fun k hk h => by have := HBB.out; omega)
      clear A8 G8
      go_wp2
      refine bodyPost_ret (results_25 rfl _ rfl HA8.out) rfl ?_
      exact ⟨rfl, HG8.out⟩
end Go.Proofs.Ytjkpidhpjleebaa
