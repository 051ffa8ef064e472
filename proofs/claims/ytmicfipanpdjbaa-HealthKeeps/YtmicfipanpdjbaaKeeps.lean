/-
  HealthKeeps, walked. Condition: the script came in with its reach.
-/
import Derived.Test.YtmicfipanpdjbaaKp
import Derived.Deep.CutRange
import Derived.Deep.CutBlock
import Derived.Deep.RegionWith
namespace Go.Proofs.Ytmicfipanpdjbaa
set_option maxRecDepth 100000
open Go.RowKit

theorem zeros_ok : okL 12 (fun _ => 0) = true := by decide
abbrev Z12 : Obj := .cells (ints (fun _ => 0) 12).toArray 3
theorem two_lists (w : World) : Lies ((w.alloc Z12).alloc Z12).drew (some ⟨w.heap.size, 0, none⟩) 12 (fun _ => 0) ∧ Lies ((w.alloc Z12).alloc Z12).drew (some ⟨w.heap.size + 1, 0, none⟩) 12 (fun _ => 0) ∧ Chg (fun _ => False) w ((w.alloc Z12).alloc Z12).drew := by
  refine ⟨((IB.new w 3 12 (fun _ => 0)).chg (((Chg.refl (fun _ => False) _).alloc Z12).drew) (fun f => f)).lies, ?_, (((Chg.refl _ w).alloc _).alloc _).drew⟩
  have := (IB.new (w.alloc Z12) 3 12 (fun _ => 0)).drew.lies
  rw [show (w.alloc Z12).heap.size = w.heap.size + 1 by simp] at this
  exact this
/-- An operation's three cells. -/
def opc (K A M : Int) : Nat → Int := fun i => if i = 0 then K else if i = 1 then A else M
theorem lim_zero : lim 65535 (fun _ => 0) = (fun _ => 0) ∧ lim 255 (fun _ => 0) = fun _ => 0 := ⟨by funext i; rfl, by funext i; rfl⟩
theorem new_two (w : World) (x y : Value) (h : (x = .slice (some ⟨w.heap.size, 0, none⟩) 12 12 ∧ y = .slice (some ⟨w.heap.size + 1, 0, none⟩) 12 12) ∨ (x = .slice (some ⟨w.heap.size + 1, 0, none⟩) 12 12 ∧ y = .slice (some ⟨w.heap.size, 0, none⟩) 12 12)) :
    Calls Try.prog 6 #[x, y] ((w.alloc Z12).alloc Z12).drew fun e w' => e = .returned (.tuple #[.pointer (some ⟨w.heap.size + 1 + 1, 0, none⟩), .nilIface]) ∧ HB w' (w.heap.size + 1 + 1) 48 (fun _ => 0) (fun _ => 0) (fun _ => 0) ∧ Chg (fun _ => False) w w' ∧ w.heap.size ≤ w.heap.size + 1 + 1 := by
  obtain ⟨l1, l2, c⟩ := two_lists w
  have es : ((w.alloc Z12).alloc Z12).drew.heap.size = w.heap.size + 1 + 1 := by simp [World.drew]
  generalize ((w.alloc Z12).alloc Z12).drew = w2 at *
  rcases h with ⟨rfl, rfl⟩ | ⟨rfl, rfl⟩
  · refine (new_yes w2 _ _ 12 12 12 12 _ _ l1 l2 zeros_ok zeros_ok).mono ?_
    rintro e w' ⟨rfl, k, g⟩
    rw [lim_zero.1, lim_zero.2] at k
    rw [← es]
    exact ⟨rfl, k, c.trans g, c.size⟩
  · refine (new_yes w2 _ _ 12 12 12 12 _ _ l2 l1 zeros_ok zeros_ok).mono ?_
    rintro e w' ⟨rfl, k, g⟩
    rw [lim_zero.1, lim_zero.2] at k
    rw [← es]
    exact ⟨rfl, k, c.trans g, c.size⟩
set_option maxHeartbeats 8000000 in
theorem keeps_walk (a : Option Addr) (len cap : Nat) (O : Nat → Opd) (w : World) (hO : IsOps w a len O) (bo : len * 24 ≤ 140737488351232) :
    Calls Try.prog 4 #[.slice a len cap] w fun e w' => e = .returned (.bool true) ∧ Below w.heap.size w w' := by
  have HO := hyd hO
  have HBO := hyd bo
  have hlen : (len : Int) < 9223372036854775807 := by omega
  clear hO bo
  have hm := make12
  go_enter Try.func4, Try.ntmps4
  go_upto_region 2 with (go_at_call 5; refine (up_any _).mono ?_; rintro x w1 ⟨rfl, G1⟩)
  have HG1 := hyd G1
  clear G1
  go_cut [4, 5] from 21 (fun s4 s5 wx => ∃ p, s4 = .pointer (some ⟨p, 0, none⟩) ∧ s5 = .nilIface ∧ Hid (w.heap.size ≤ p) ∧ Hid (HB wx p 48 (fun _ => 0) (fun _ => 0) (fun _ => 0)) ∧ Hid (Chg (fun _ => False) w wx))
  case first =>
    go_region_with (first
      | (go_at_call 6; refine (new_two w1 _ _ (by first | exact Or.inl ⟨rfl, rfl⟩ | exact Or.inr ⟨rfl, rfl⟩)).mono ?_; rintro x w3 ⟨rfl, K3, G3, L3⟩))
    all_goals
      have HX := hyd (And.intro K3 (And.intro (Nat.le_trans HG1.out.size L3) (HG1.out.trans G3)))
      clear K3 G3 L3 hm
      go_wp2_with fail
      go_meet
      exact ⟨_, rfl, rfl, HX.out.2.1, HX.out.1, HX.out.2.2⟩
  case rest =>
  obtain ⟨p, rfl, rfl, HLP, HP, HG⟩ := hcut
  clear HG1 hm
  have q := neq_nil
  have q2 := eql_ptr
  go_wp2_with (refine wpList_alloc_row rfl 39 rfl wc.heap.size rfl zero39 ?_)
  intro w5 K5 G5 S5
  obtain ⟨s, HSE⟩ : ∃ s, Hid (s = wc.heap.size) := ⟨_, rfl⟩
  rw [← HSE.out] at K5
  rw [← HSE.out]
  have HK := hyd (show Kp w w5 p s (fun _ => 0) (fun _ => 0) (fun _ => 0) (fun _ => 0) 0 from ⟨HP.out.chg G5 (fun f => f), K5, fun i _ => by refine ⟨?_, ?_, ?_⟩ <;> omega, fun i _ => by refine ⟨?_, ?_, ?_⟩ <;> omega, by have := HP.out.lt; have := HSE.out; omega, HLP.out, by rw [HSE.out]; exact HG.out.size, HG.out.trans G5⟩)
  clear K5 G5 S5 HP HG HLP HSE q q2
  go_wp2_with fail
  go_loopg [7] len (fun kx s7 wr => ∃ (i : Nat) (R N S T : Nat → Int), s7 = .int .i64 i ∧ i ≤ len ∧ len - i ≤ kx ∧ Hid (Kp w wr p s R N S T (70 * i)))
  case atStart => exact ⟨0, _, _, _, _, rfl, by omega, by omega, HK⟩
  case round =>
  clear HK
  obtain ⟨i, R0, N0, S0, T0, rfl, hin, hkx, HK⟩ := hrel
  by_cases hlt : i < len
  case neg =>
    have hltz : ¬ (i : Int) < (len : Int) := by omega
    go_wp2
    go_ret
    exact ⟨rfl, HK.out.chg.below (fun _ h => h.elim) (Nat.le_refl _)⟩
  case pos =>
  have hltz : (i : Int) < (len : Int) := by omega
  have HBI := hyd (show 70 * i + 70 < 1000000000000000 by have := HBO.out; omega)
  obtain ⟨hoo, hc⟩ := HO.out
  rcases hc with hc | ⟨qa, oa, rfl, hqa, hc⟩
  · omega
  obtain ⟨x0, x1, x2⟩ := (hc i hlt).chg HK.out.chg hqa
  have hoi := hoo i hlt
  have HOI := hyd hoi
  clear hoo hc hqa hoi
  generalize O i = oi at *
  obtain ⟨K, A, M⟩ := oi
  simp only at x0 x1 x2
  have HOI : Hid (OpOk ⟨K, A, M⟩) := HOI
  go_wp2_with fail
  have G6 : Chg (fun _ => False) wr (wr.alloc (.cells #[.int .i64 K, .int .i64 A, .int .i64 M] 36)) := (Chg.refl _ wr).alloc _
  have O6 : IB (wr.alloc (.cells #[.int .i64 K, .int .i64 A, .int .i64 M] 36)) wr.heap.size 36 3 (opc K A M) := IB.new wr 36 3 (opc K A M)
  have HK6 := hyd (HK.out.still G6)
  have HO6 := hyd O6
  clear G6 O6 HK x0 x1 x2
  generalize wr.alloc (.cells #[.int .i64 K, .int .i64 A, .int .i64 M] 36) = w6 at *
  generalize wr.heap.size = o at *
  refine (pick_fn A HOI.out.2.1.1 HOI.out.2.1.2 12 (by omega) (by omega) _).mono ?_
  rintro x w6 ⟨rfl, rfl⟩
  have hb := pkN_lt A 12 (by omega)
  generalize pkN A 12 = b at *
  go_wp2_with fail
  refine (reads_v w6 p R0 N0 S0 HK6.out.prog HK6.out.ok).mono ?_
  rintro x w7 ⟨rfl, K7, G7⟩
  obtain ⟨g1, HE1⟩ : ∃ g1, Hid (g1 = w6.heap.size + 1) := ⟨_, rfl⟩
  rw [← HE1.out] at K7
  rw [← HE1.out]
  have HN1 := hyd (show g1 ≠ p ∧ g1 ≠ s by have := HK6.out.prog.lt; have := HK6.out.since.lt; have := HE1.out; omega)
  have HA7 := hyd (IB.rw_ K7)
  have HO7 := hyd (HO6.out.chg G7 (fun f => f))
  have HK7 := hyd (HK6.out.still G7)
  clear K7 G7 HK6 HO6 HE1
  go_wp2_with fail
  refine (scores_v w7 p R0 N0 S0 HK7.out.prog HK7.out.ok).mono ?_
  rintro x w8 ⟨rfl, K8, G8⟩
  obtain ⟨g2, HE2⟩ : ∃ g2, Hid (g2 = w7.heap.size + 1) := ⟨_, rfl⟩
  rw [← HE2.out] at K8
  rw [← HE2.out]
  have HN2 := hyd (show g2 ≠ p ∧ g2 ≠ s by have := HK7.out.prog.lt; have := HK7.out.since.lt; have := HE2.out; omega)
  have HC := hyd (IB.rw_ K8)
  have HA := hyd (HA7.out.chg G8 (fun f => f))
  have HO8 := hyd (HO7.out.chg G8 (fun f => f))
  have HK := hyd (HK7.out.still G8)
  clear K8 G8 HK7 HO7 HA7 HE2
  obtain ⟨o0, -⟩ := HO8.out.cell 0 (by omega)
  rw [show opc K A M 0 = K from rfl] at o0
  go_wp2_with fail
  refine (pick_fn K HOI.out.1.1 HOI.out.1.2 4 (by omega) (by omega) _).mono ?_
  rintro x w8 ⟨rfl, rfl⟩
  have hkd := pkN_lt K 4 (by omega)
  generalize pkN K 4 = kd at *
  clear o0
  go_upto_block 2 with fail
  go_cut [13] from 37 to 164 (fun s13 wx => ∃ R N S T, Hid (Kp w wx p s R N S T (70 * (i + 1))) ∧ Hid (Fal kd b R0 S0 R S) ∧ Hid (Rw wx g1 12 R0) ∧ Hid (Rw wx g2 12 S0))
  case first =>
    have hc : kd = 0 ∨ kd = 1 ∨ kd = 2 ∨ kd = 3 := by omega
    clear hkd
    have hbz : (b : Int) < 12 := by omega
    rcases hc with rfl | rfl | rfl | rfl
    · rw [show ((0 : Nat) : Int) = 0 from rfl]
      obtain ⟨o2, -⟩ := HO8.out.cell 2 (by omega)
      rw [show opc K A M 2 = M from rfl] at o2
      go_wp2_with fail
      refine (pick_fn M HOI.out.2.2.1 HOI.out.2.2.2 70 (by omega) (by omega) _).mono ?_
      rintro x w8 ⟨rfl, rfl⟩
      have hq := pkN_lt M 70 (by omega)
      generalize pkN M 70 = q at *
      clear o2 HO8
      go_wp2_with fail
      go_loopg [13] (q + 1) (fun kx s13 wr => ∃ (j : Nat) (R N S T : Nat → Int), s13 = .int .i64 ((q : Int) - (j : Int)) ∧ j ≤ q + 1 ∧ q + 1 - j ≤ kx ∧ Hid (Kp w wr p s R N S T (70 * i + j)) ∧ Hid (Fal 0 b R0 S0 R S) ∧ Hid (Rw wr g1 12 R0) ∧ Hid (Rw wr g2 12 S0))
      case atStart => exact ⟨0, R0, N0, S0, T0, by simp, by omega, by omega, HK, Fal.refl, HA, HC⟩
      case round =>
      clear HK HA HC
      obtain ⟨j, R, N, S, T, rfl, hj, hkx, HK, HF, HA, HC⟩ := hrel
      by_cases hjq : j ≤ q
      · have hz : (q : Int) - (j : Int) ≥ 0 := by omega
        go_wp2_with fail
        refine (read_v wr p R N S HK.out.prog HK.out.ok (b : Nat)).mono ?_
        rintro x w9 ⟨rfl, K9, G9⟩
        have I9 := HK.out.since.chg G9 (fun e => HK.out.ne e.symm)
        obtain ⟨y0, y0f⟩ := I9.cell b hb
        have hsn := HK.out.sin b hb
        have hs1 := hsn.2.1
        have hs2 : T b ≤ 1000000000000000 := by have := HBI.out; have := hsn.2.2; omega
        have G10 : Chg (· = s) w9 (w9.setCell ⟨s, b, none⟩ (.int .i64 (T b + 1))) := (Chg.refl (· = s) w9).setCell (Or.inl rfl) _ _
        have HK10 := hyd (HK.out.both K9 G9 (HK.out.ok.more1 b) (I9.set b (T b + 1)) G10 (HK.out.sin.read hb))
        have HF10 := hyd (HF.out.read HK.out.ok hb)
        have HA10 := hyd ((HA.out.chg G9 HN1.out.1).chg G10 HN1.out.2)
        have HC10 := hyd ((HC.out.chg G9 HN2.out.1).chg G10 HN2.out.2)
        clear K9 G9 I9 G10 HK HF HA HC hsn
        generalize T b = tb at *
        go_wp2
        go_roundg (q + 1 - (j + 1))
        case measure => omega
        case rel => exact ⟨j + 1, _, _, _, _, by congr 1; omega, by omega, Nat.le_refl _, HK10, HF10, HA10, HC10⟩
      · have hz : ¬ (q : Int) - (j : Int) ≥ 0 := by omega
        have HK11 := hyd (HK.out.mono (B' := 70 * (i + 1)) (by omega))
        clear HK
        go_wp2_with fail
        go_meet
        exact ⟨R, N, S, T, HK11, HF, HA, HC⟩
    · rw [show ((1 : Nat) : Int) = 1 from rfl]
      clear HO8
      go_wp2_with fail
      refine (report_v w8 p R0 N0 S0 HK.out.prog HK.out.ok (b : Nat)).mono ?_
      rintro x w9 ⟨rfl, K9, G9⟩
      have HK10 := hyd ((HK.out.one K9 G9 (HK.out.ok.more3 b) HK.out.sin).mono (B' := 70 * (i + 1)) (by omega))
      have HF10 := hyd ((Fal.refl (kd := 1) (b := b) (R := R0) (S := S0)).report HK.out.ok hb)
      have HA10 := hyd (HA.out.chg G9 HN1.out.1)
      have HC10 := hyd (HC.out.chg G9 HN2.out.1)
      clear K9 G9 HK HA HC
      go_wp2_with fail
      go_meet
      exact ⟨_, _, _, _, HK10, HF10, HA10, HC10⟩
    · rw [show ((2 : Nat) : Int) = 2 from rfl]
      clear HO8
      go_wp2_with fail
      refine (erased_v w8 p R0 N0 S0 HK.out.prog HK.out.ok (b : Nat)).mono ?_
      rintro x w9 ⟨rfl, K9, G9⟩
      have I9 := HK.out.since.chg G9 (fun e => HK.out.ne e.symm)
      obtain ⟨y0, y0f⟩ := I9.cell b hb
      have G10 : Chg (· = s) w9 (w9.setCell ⟨s, b, none⟩ (.int .i64 0)) := (Chg.refl (· = s) w9).setCell (Or.inl rfl) _ _
      have HK10 := hyd ((HK.out.both K9 G9 (HK.out.ok.none b) (I9.set b 0) G10 (HK.out.sin.erased hb)).mono (B' := 70 * (i + 1)) (by omega))
      have HF10 := hyd ((Fal.refl (kd := 2) (b := b) (R := R0) (S := S0)).erased hb)
      have HA10 := hyd ((HA.out.chg G9 HN1.out.1).chg G10 HN1.out.2)
      have HC10 := hyd ((HC.out.chg G9 HN2.out.1).chg G10 HN2.out.2)
      clear K9 G9 I9 G10 HK HA HC
      go_wp2_with fail
      go_meet
      exact ⟨_, _, _, _, HK10, HF10, HA10, HC10⟩
    · rw [show ((3 : Nat) : Int) = 3 from rfl]
      clear HO8
      go_wp2_with fail
      refine (noted_v w8 p R0 N0 S0 HK.out.prog HK.out.ok).mono ?_
      rintro x w9 ⟨rfl, K9, G9⟩
      have HI9 := hyd (HK.out.since.chg G9 (fun e => HK.out.ne e.symm))
      have G10 : Chg (· = s) w9 (w9.setCells s 0 (ints (fun _ => 0) 12)) := Chg.setCells (S := (· = s)) (Or.inl rfl) _ _ (Chg.refl _ _)
      have I10 : IB (w9.setCells s 0 (ints (fun _ => 0) 12)) s 39 12 (fun _ => 0) := (HI9.out.setI 0 12 (fun _ => 0)).congr fun j hj => by rw [if_pos (by omega)]
      have HK10 := hyd (HK.out.both (B' := 70 * (i + 1)) K9 G9 HK.out.ok.noted I10 G10 (Sin.noted HK.out.ok))
      have HA10 := hyd ((HA.out.chg G9 HN1.out.1).chg G10 HN1.out.2)
      have HC10 := hyd ((HC.out.chg G9 HN2.out.1).chg G10 HN2.out.2)
      clear K9 G9 I10 G10 HK HA HC
      go_wp2_with (refine wpList_store_12 rfl (.tmp 6) (.tmp 91) rfl s 0 (fun _ => 0) rfl rfl (IB.there HI9.out 0 12 (by omega)) ?_)
      go_meet
      exact ⟨_, _, _, _, HK10, Fal.refl, HA10, HC10⟩
  case rest =>
  clear HK HA HC HO8 HOI
  obtain ⟨R, N, S, T, HK, HF, HA, HC⟩ := hcut
  go_wp2_with fail
  refine (reads_v wc p R N S HK.out.prog HK.out.ok).mono ?_
  rintro x w10 ⟨rfl, K10, G10⟩
  obtain ⟨g3, HE3⟩ : ∃ g3, Hid (g3 = wc.heap.size + 1) := ⟨_, rfl⟩
  rw [← HE3.out] at K10
  rw [← HE3.out]
  have HD10 := hyd (IB.rw_ K10)
  have HK10 := hyd (HK.out.still G10)
  have HA10 := hyd (HA.out.chg G10 (fun f => f))
  have HC10 := hyd (HC.out.chg G10 (fun f => f))
  clear K10 G10 HK HA HC HE3
  go_wp2_with fail
  refine (scores_v w10 p R N S HK10.out.prog HK10.out.ok).mono ?_
  rintro x w11 ⟨rfl, K11, G11⟩
  obtain ⟨g4, HE4⟩ : ∃ g4, Hid (g4 = w10.heap.size + 1) := ⟨_, rfl⟩
  rw [← HE4.out] at K11
  rw [← HE4.out]
  have HT := hyd (show Tl w w11 p s R N S T (70 * (i + 1)) g1 g2 g3 g4 R0 S0 from ⟨HK10.out.still G11, HA10.out.chg G11 (fun f => f), HC10.out.chg G11 (fun f => f), HD10.out.chg G11 (fun f => f), IB.rw_ K11⟩)
  clear K11 G11 HK10 HA10 HC10 HD10 HE4 HN1 HN2
  go_wp2_with fail
  go_loopg [16, 17] 12 (fun kx s16 s17 wr => ∃ k : Nat, s17 = .int .i64 k ∧ s16 = .bool (dnB T R k) ∧ k ≤ 12 ∧ 12 - k ≤ kx ∧ Hid (Tl w wr p s R N S T (70 * (i + 1)) g1 g2 g3 g4 R0 S0))
  case atStart => exact ⟨0, rfl, rfl, by omega, by omega, HT⟩
  case round =>
  clear HT
  obtain ⟨k, rfl, rfl, hk, hkx2, HT⟩ := hrel
  by_cases hk12 : k < 12
  · have hkz : (k : Int) < 12 := by omega
    obtain ⟨x1, -⟩ := HT.out.was.cell k hk12
    obtain ⟨x2, -⟩ := HT.out.old.cell k hk12
    obtain ⟨x3, -⟩ := HT.out.now.cell k hk12
    obtain ⟨x4, -⟩ := HT.out.young.cell k hk12
    obtain ⟨x5, -⟩ := HT.out.kp.since.cell k hk12
    have HD := hyd (dnB_succ T R k)
    have hfR := HF.out.1 k hk12
    have hfS := HF.out.2 k hk12
    generalize R k = rk at *
    generalize R0 k = r0 at *
    generalize S k = sk at *
    generalize S0 k = s0 at *
    generalize T k = tk at *
    generalize dnB T R k = d at *
    have dS : decide (sk < s0) = false := decide_eq_false (by omega)
    have nS : ¬ sk < s0 := by omega
    by_cases hf : rk < r0
    · have h2 : kd = 2 ∧ k = b := by omega
      have k2 : ((kd : Int) != 2) = false := by rw [h2.1]; rfl
      have kb : ((k : Int) != (b : Int)) = false := by rw [h2.2]; simp
      clear hfR hfS h2
      go_wp2_with fail
      go_quiet (fail)
      cases d
      · by_cases ht : tk ≥ 64
        · by_cases hr : rk < 65535
          · have HV := hyd (show dnB T R (k + 1) = true by rw [HD.out]; simp; omega)
            clear HD
            go_wp2
            go_roundg (12 - (k + 1))
            case measure => omega
            case rel => exact ⟨k + 1, by simp, by rw [HV.out], by omega, Nat.le_refl _, HT.out.still ((Chg.refl _ _).drewN _)⟩
          · have HV := hyd (show dnB T R (k + 1) = false by rw [HD.out]; simp; omega)
            clear HD
            go_wp2
            go_roundg (12 - (k + 1))
            case measure => omega
            case rel => exact ⟨k + 1, by simp, by rw [HV.out], by omega, Nat.le_refl _, HT.out.still ((Chg.refl _ _).drewN _)⟩
        · have HV := hyd (show dnB T R (k + 1) = false by rw [HD.out]; simp; omega)
          clear HD
          go_wp2
          go_roundg (12 - (k + 1))
          case measure => omega
          case rel => exact ⟨k + 1, by simp, by rw [HV.out], by omega, Nat.le_refl _, HT.out.still ((Chg.refl _ _).drewN _)⟩
      · have HV := hyd (show dnB T R (k + 1) = true by rw [HD.out]; simp)
        clear HD
        go_wp2
        go_roundg (12 - (k + 1))
        case measure => omega
        case rel => exact ⟨k + 1, by simp, by rw [HV.out], by omega, Nat.le_refl _, HT.out.still ((Chg.refl _ _).drewN _)⟩
    · have dR : decide (rk < r0) = false := decide_eq_false hf
      clear hfR hfS
      go_wp2_with fail
      go_quiet (fail)
      cases d
      · by_cases ht : tk ≥ 64
        · by_cases hr : rk < 65535
          · have HV := hyd (show dnB T R (k + 1) = true by rw [HD.out]; simp; omega)
            clear HD
            go_wp2
            go_roundg (12 - (k + 1))
            case measure => omega
            case rel => exact ⟨k + 1, by simp, by rw [HV.out], by omega, Nat.le_refl _, HT.out.still ((Chg.refl _ _).drewN _)⟩
          · have HV := hyd (show dnB T R (k + 1) = false by rw [HD.out]; simp; omega)
            clear HD
            go_wp2
            go_roundg (12 - (k + 1))
            case measure => omega
            case rel => exact ⟨k + 1, by simp, by rw [HV.out], by omega, Nat.le_refl _, HT.out.still ((Chg.refl _ _).drewN _)⟩
        · have HV := hyd (show dnB T R (k + 1) = false by rw [HD.out]; simp; omega)
          clear HD
          go_wp2
          go_roundg (12 - (k + 1))
          case measure => omega
          case rel => exact ⟨k + 1, by simp, by rw [HV.out], by omega, Nat.le_refl _, HT.out.still ((Chg.refl _ _).drewN _)⟩
      · have HV := hyd (show dnB T R (k + 1) = true by rw [HD.out]; simp)
        clear HD
        go_wp2
        go_roundg (12 - (k + 1))
        case measure => omega
        case rel => exact ⟨k + 1, by simp, by rw [HV.out], by omega, Nat.le_refl _, HT.out.still ((Chg.refl _ _).drewN _)⟩
  · have hkz : ¬ (k : Int) < 12 := by omega
    obtain rfl : k = 12 := by omega
    have HK := hyd HT.out.kp
    clear HT HF
    cases hd : dnB T R 12
    · clear hd
      go_wp2_with fail
      go_loopg [18, 19] 12 (fun kx s18 s19 wr => ∃ k : Nat, s19 = .int .i64 k ∧ s18 = .bool (fwB T k) ∧ k ≤ 12 ∧ 12 - k ≤ kx ∧ Hid (Kp w wr p s R N S T (70 * (i + 1))))
      case atStart => exact ⟨0, rfl, rfl, by omega, by omega, HK⟩
      case round =>
      clear HK
      obtain ⟨k, rfl, rfl, hk4, hkx4, HK⟩ := hrel
      by_cases hk12' : k < 12
      · have hkz' : (k : Int) < 12 := by omega
        obtain ⟨x5, -⟩ := HK.out.since.cell k hk12'
        have HD := hyd (fwB_succ T k)
        generalize T k = tk at *
        generalize fwB T k = d at *
        cases d
        · go_wp2
          go_roundg (12 - (k + 1))
          case measure => omega
          case rel => exact ⟨k + 1, by simp, by rw [HD.out]; simp, by omega, Nat.le_refl _, HK⟩
        · by_cases ht : tk < 64
          · go_wp2
            go_roundg (12 - (k + 1))
            case measure => omega
            case rel => exact ⟨k + 1, by simp, by rw [HD.out]; simp [ht], by omega, Nat.le_refl _, HK⟩
          · go_wp2
            go_roundg (12 - (k + 1))
            case measure => omega
            case rel => exact ⟨k + 1, by simp, by rw [HD.out]; simp [ht], by omega, Nat.le_refl _, HK⟩
      · have hkz' : ¬ (k : Int) < 12 := by omega
        obtain rfl : k = 12 := by omega
        cases hd : fwB T 12
        · clear hd
          go_wp2
          go_roundg (len - (i + 1))
          case measure => omega
          case rel => exact ⟨i + 1, R, N, S, T, by simp, by omega, Nat.le_refl _, HK⟩
        · have HDF := hyd (HK.out.sin.few hd)
          clear hd
          go_wp2_with fail
          refine (due_v wr p R N S HK.out.prog HK.out.ok).mono ?_
          rintro x w13 ⟨rfl, m13, rfl⟩
          rw [HDF.out]
          replace HK := hyd (HK.out.still ((Chg.refl (fun _ => False) wr).drewN m13))
          clear HDF
          go_wp2
          go_roundg (len - (i + 1))
          case measure => omega
          case rel => exact ⟨i + 1, R, N, S, T, by simp, by omega, Nat.le_refl _, HK⟩
    · have HDU := hyd (HK.out.sin.due hd)
      clear hd
      go_wp2_with fail
      refine (due_v wr p R N S HK.out.prog HK.out.ok).mono ?_
      rintro x w12 ⟨rfl, m12, rfl⟩
      rw [HDU.out]
      replace HK := hyd (HK.out.still ((Chg.refl (fun _ => False) wr).drewN m12))
      generalize wr.drewN m12 = wr at *
      clear HDU
      go_wp2_with fail
      go_loopg [18, 19] 12 (fun kx s18 s19 wr => ∃ k : Nat, s19 = .int .i64 k ∧ s18 = .bool (fwB T k) ∧ k ≤ 12 ∧ 12 - k ≤ kx ∧ Hid (Kp w wr p s R N S T (70 * (i + 1))))
      case atStart => exact ⟨0, rfl, rfl, by omega, by omega, HK⟩
      case round =>
      clear HK
      obtain ⟨k, rfl, rfl, hk4, hkx4, HK⟩ := hrel
      by_cases hk12' : k < 12
      · have hkz' : (k : Int) < 12 := by omega
        obtain ⟨x5, -⟩ := HK.out.since.cell k hk12'
        have HD := hyd (fwB_succ T k)
        generalize T k = tk at *
        generalize fwB T k = d at *
        cases d
        · go_wp2
          go_roundg (12 - (k + 1))
          case measure => omega
          case rel => exact ⟨k + 1, by simp, by rw [HD.out]; simp, by omega, Nat.le_refl _, HK⟩
        · by_cases ht : tk < 64
          · go_wp2
            go_roundg (12 - (k + 1))
            case measure => omega
            case rel => exact ⟨k + 1, by simp, by rw [HD.out]; simp [ht], by omega, Nat.le_refl _, HK⟩
          · go_wp2
            go_roundg (12 - (k + 1))
            case measure => omega
            case rel => exact ⟨k + 1, by simp, by rw [HD.out]; simp [ht], by omega, Nat.le_refl _, HK⟩
      · have hkz' : ¬ (k : Int) < 12 := by omega
        obtain rfl : k = 12 := by omega
        cases hd : fwB T 12
        · clear hd
          go_wp2
          go_roundg (len - (i + 1))
          case measure => omega
          case rel => exact ⟨i + 1, R, N, S, T, by simp, by omega, Nat.le_refl _, HK⟩
        · have HDF := hyd (HK.out.sin.few hd)
          clear hd
          go_wp2_with fail
          refine (due_v wr p R N S HK.out.prog HK.out.ok).mono ?_
          rintro x w13 ⟨rfl, m13, rfl⟩
          rw [HDF.out]
          replace HK := hyd (HK.out.still ((Chg.refl (fun _ => False) wr).drewN m13))
          clear HDF
          go_wp2
          go_roundg (len - (i + 1))
          case measure => omega
          case rel => exact ⟨i + 1, R, N, S, T, by simp, by omega, Nat.le_refl _, HK⟩
end Go.Proofs.Ytmicfipanpdjbaa
