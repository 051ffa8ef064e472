/-
  ArrayLast answers true. Conditions: the script lies where the slice says.
-/
import Derived.Test.YthpjdnfalecbeaaStart
namespace Go.Proofs.Ythpjdnfalecbeaa
open Go.RowKit
set_option maxRecDepth 100000
set_option maxHeartbeats 4000000 in
theorem last_in (a : Option Addr) (len cap : Nat) (O : Nat → Opd) (b : Nat) (hb : b < 24) (fl : Nat) (hfl : fl < 256) (w : World) (hO : IsOps w a len O) (hlen : len ≤ 4398046510976) :
    Calls Try.prog 4 #[.slice a len cap, .int .i64 b, .int .u8 fl] w fun e w' => e = .returned (.bool true) ∧ Below w.heap.size w w' := by
  have q0 := eql_nil_nil
  have q1 := eql_e1_e1
  have q2 := neq_nil_nil
  have HO := hyd hO
  clear hO
  go_enter Try.func4, Try.ntmps4
  go_wp2_with fail
  refine (shown_any _).mono ?_
  rintro e w1 ⟨rfl, G1⟩
  go_wp2_with fail
  refine (anew_any _).mono ?_
  rintro e w2 ⟨rfl, A2, G2, -⟩
  have HQ := hyd G1.size
  have HG2 := hyd (G1.trans G2)
  have HA2 := hyd A2
  clear G1 G2 A2
  generalize w1.heap.size = q at *
  go_wp2_with fail
  refine (some_any 160 fl (by decide) hfl w2).mono ?_
  rintro e w3 ⟨rfl, hS3, G3⟩
  have HA3 := hyd (HA2.out.chg G3 (fun f => f))
  have HS3 := hyd (Arr.held hS3 0 160 160 (smL fl 160) (smL_length fl 160).symm (by rw [smL_length]; decide) (fun i hi => by rw [Nat.zero_add]))
  have HG3 := hyd (HG2.out.trans G3)
  clear hS3 G3 HA2 HG2
  go_wp2_with fail
  refine (write_yes q b zA hb (some ⟨w2.heap.size, 0, none⟩) 160 160 (smL fl 160) rfl (smL_length _ _) w3 HA3.out HS3.out).mono ?_
  rintro e w4 ⟨rfl, A4, G4⟩
  have HA4 : Hid (∃ s, AryAt w4 q s ∧ Okr s ∧ Hid (s b = smL fl 160)) := ⟨_, A4, zA_ok.set b (smL_length _ _) (smL_bys _ _), if_pos rfl⟩
  have HG4 : Hid (Chg (fun _ => False) w w4) := HG3.out.trans' G4 (fun i hi e => by have := HQ.out; omega)
  clear A4 G4 HA3 HS3 HG3
  go_wp2_with fail
  go_loopg [10, 11, 12] len (fun kx s10 s11 s12 wr => ∃ (i : Nat), s10 = .int .i64 i ∧ i ≤ len ∧ len - i ≤ kx ∧ Hid (∃ s, AryAt wr q s ∧ Okr s ∧ Hid (s b = smL fl 160)) ∧ Hid (Chg (fun _ => False) w wr))
  case atStart => exact ⟨0, rfl, by omega, by omega, HA4, HG4⟩
  case round =>
  clear HA4 HG4
  obtain ⟨i, rfl, hi, hkx, HA, HG⟩ := hrel
  by_cases hlt : i < len
  · have hi0 : (i : Int) < (len : Int) := by omega
    obtain ⟨g, o, rfl, hg, hcells⟩ : ∃ g o, a = some ⟨g, o, none⟩ ∧ g < w.heap.size ∧ ∀ i, i < len → w.cell? ⟨g, o + i * 4, none⟩ = some (.int .i64 (O i).K) ∧ w.cell? ⟨g, o + i * 4 + 1, none⟩ = some (.int .i64 (O i).A) ∧ w.cell? ⟨g, o + i * 4 + 2, none⟩ = some (.int .i64 (O i).B) ∧ w.cell? ⟨g, o + i * 4 + 3, none⟩ = some (.int .u8 (O i).f) := by
      rcases HO.out.2 with h0 | h0
      · omega
      · exact h0
    have HOk := hyd (HO.out.1 i hlt)
    obtain ⟨c0, c1, -, c3⟩ := hcells i hlt
    clear hcells
    have hbk := HG.out.block g hg (fun f => f)
    have d0 : wr.cell? ⟨g, o + i * 4, none⟩ = some (.int .i64 (O i).K) := (World.cell?_of_block (a := ⟨g, o + i * 4, none⟩) hbk).trans c0
    have d1 : wr.cell? ⟨g, o + i * 4 + 1, none⟩ = some (.int .i64 (O i).A) := (World.cell?_of_block (a := ⟨g, o + i * 4 + 1, none⟩) hbk).trans c1
    have d3 : wr.cell? ⟨g, o + i * 4 + 3, none⟩ = some (.int .u8 (O i).f) := (World.cell?_of_block (a := ⟨g, o + i * 4 + 3, none⟩) hbk).trans c3
    have HL : Hid (g < q) := Nat.lt_of_lt_of_le hg HQ.out
    clear c0 c1 c3 hbk
    go_wp2_with fail
    refine (pick_24 (O i).A HOk.out.a1 HOk.out.a2 _).mono ?_
    rintro e wr ⟨rfl, rfl⟩
    have hk := pkN_lt 24 (by decide) (O i).A
    generalize pkN 24 (O i).A = k at *
    by_cases hne : (k : Int) = b
    · have hbe : ((k : Int) == b) = true := by simp [hne]
      clear hne d0 d1 d3
      go_wp2
      go_roundg (len - (i + 1))
      case measure => omega
      case rel => exact ⟨i + 1, by simp, by omega, Nat.le_refl _, HA, HG⟩
    · have hbe : ((k : Int) == b) = false := by simp [hne]
      have HNE : Hid (k ≠ b) := fun e => hne (by rw [e])
      clear hne
      obtain ⟨s, h1, h2, h3⟩ := HA.out
      have HA1 := hyd h1
      have HO1 := hyd h2
      have H1 := hyd h3
      have HF := hyd HOk.out.f
      clear h1 h2 h3 HA HOk
      by_cases hev : (O i).K.tmod 2 = 0
      · have hbv : ((O i).K.tmod 2 == 0) = true := by simp [hev]
        clear hev
        go_wp2_with fail
        refine (some_any 160 (O i).f (by decide) HF.out wr).mono ?_
        rintro e w5 ⟨rfl, hS5, G5⟩
        have HA5 := hyd (HA1.out.chg G5 (fun f => f))
        have HS5 := hyd (Arr.held hS5 0 160 160 (smL (O i).f 160) (smL_length _ 160).symm (by rw [smL_length]; decide) (fun i hi => by rw [Nat.zero_add]))
        have HG5 := hyd (HG.out.trans G5)
        clear hS5 G5 HA1 HG d0 d1 d3
        go_wp2_with fail
        refine (write_yes q k s hk (some ⟨wr.heap.size, 0, none⟩) 160 160 (smL (O i).f 160) rfl (smL_length _ _) w5 HA5.out HS5.out).mono ?_
        rintro e w6 ⟨rfl, A6, G6⟩
        have HA6 : Hid (∃ s, AryAt w6 q s ∧ Okr s ∧ Hid (s b = smL fl 160)) := ⟨_, A6, HO1.out.set k (smL_length _ _) (smL_bys _ _), by show setS s k _ b = _; exact (if_neg (fun e => HNE.out e.symm)).trans H1.out⟩
        have HG6 : Hid (Chg (fun _ => False) w w6) := HG5.out.trans' G6 (fun i hi e => by have := HQ.out; omega)
        clear A6 G6 HA5 HS5 HG5 H1 HO1
        go_wp2
        go_roundg (len - (i + 1))
        case measure => omega
        case rel => exact ⟨i + 1, by simp, by omega, Nat.le_refl _, HA6, HG6⟩
      · have hbv : ((O i).K.tmod 2 == 0) = false := by simp [hev]
        clear hev
        go_wp2_with fail
        refine (trim_yes q k s hk wr HA1.out).mono ?_
        rintro e w6 ⟨rfl, A6, G6⟩
        have HA6 : Hid (∃ s, AryAt w6 q s ∧ Okr s ∧ Hid (s b = smL fl 160)) := ⟨_, A6, HO1.out.set k z160_length z160_bys, by show setS s k _ b = _; exact (if_neg (fun e => HNE.out e.symm)).trans H1.out⟩
        have HG6 : Hid (Chg (fun _ => False) w w6) := HG.out.trans' G6 (fun i hi e => by have := HQ.out; omega)
        clear A6 G6 HA1 HG H1 HO1 d0 d1 d3
        go_wp2
        go_roundg (len - (i + 1))
        case measure => omega
        case rel => exact ⟨i + 1, by simp, by omega, Nat.le_refl _, HA6, HG6⟩
  · have hi0 : ¬ (i : Int) < (len : Int) := by omega
    obtain ⟨s, h1, h2, h3⟩ := HA.out
    have HA1 := hyd h1
    have HO1 := hyd h2
    have H1 := hyd h3
    clear h1 h2 h3 HA HO
    go_wp2_with fail
    have hb1 : ¬ ((b : Int) < 0) := by omega
    have hb2 : ¬ ((24 : Int) ≤ b) := by omega
    refine (read_yes q b s HO1.out hb wr HA1.out).mono ?_
    rintro e w5 ⟨v, rfl, hO5, G5⟩
    obtain ⟨a5, c5, rfl⟩ := hO5.slice
    rw [H1.out, smL_length] at hO5
    rw [H1.out, smL_length]
    have HV5 := hyd hO5.held
    have HG5 := hyd (HG.out.trans G5)
    clear hO5 G5 HG HA1 HO1 H1
    go_wp2_with fail
    refine (some_any 160 fl (by decide) hfl w5).mono ?_
    rintro e w6 ⟨rfl, hS6, G6⟩
    have HV6 := hyd (HV5.out.chg G6 (fun _ _ _ f => f))
    have HS6 := hyd (Arr.held hS6 0 160 160 (smL fl 160) (smL_length fl 160).symm (by rw [smL_length]; decide) (fun i hi => by rw [Nat.zero_add]))
    have HG6 := hyd (HG5.out.trans G6)
    clear hS6 G6 HV5 HG5
    go_wp2_with fail
    refine (same_n w6 a5 (some ⟨w5.heap.size, 0, none⟩) 160 160 c5 160 (smL fl 160) (smL fl 160) (smL_length _ _).symm (smL_length _ _).symm HV6.out HS6.out (by rw [smL_length]; decide) (by rw [smL_length]; decide)).mono ?_
    rintro e w7 ⟨rfl, G7⟩
    rw [decide_eq_true (rfl : smL fl 160 = smL fl 160)]
    have HB : Hid (Below w.heap.size w w7) := (HG6.out.trans G7).below (fun k f => f.elim) (Nat.le_refl _)
    clear G7 HV6 HS6 HG6
    go_wp2
    go_ret
    exact ⟨rfl, HB.out⟩
set_option maxHeartbeats 4000000 in
theorem last_out (a : Option Addr) (len cap : Nat) (O : Nat → Opd) (S : Int) (hS : ¬ (0 ≤ S ∧ S < 24)) (fl : Nat) (hfl : fl < 256) (w : World) (hO : IsOps w a len O) (hlen : len ≤ 4398046510976) :
    Calls Try.prog 4 #[.slice a len cap, .int .i64 S, .int .u8 fl] w fun e w' => e = .returned (.bool true) ∧ Below w.heap.size w w' := by
  have q0 := eql_nil_nil
  have q1 := eql_e1_e1
  have q2 := neq_nil_nil
  have HO := hyd hO
  clear hO
  go_enter Try.func4, Try.ntmps4
  go_wp2_with fail
  refine (shown_any _).mono ?_
  rintro e w1 ⟨rfl, G1⟩
  go_wp2_with fail
  refine (anew_any _).mono ?_
  rintro e w2 ⟨rfl, A2, G2, -⟩
  have HQ := hyd G1.size
  have HG2 := hyd (G1.trans G2)
  have HA2 := hyd A2
  clear G1 G2 A2
  generalize w1.heap.size = q at *
  go_wp2_with fail
  refine (some_any 160 fl (by decide) hfl w2).mono ?_
  rintro e w3 ⟨rfl, hS3, G3⟩
  have HA3 := hyd (HA2.out.chg G3 (fun f => f))
  have HS3 := hyd (Arr.held hS3 0 160 160 (smL fl 160) (smL_length fl 160).symm (by rw [smL_length]; decide) (fun i hi => by rw [Nat.zero_add]))
  have HG3 := hyd (HG2.out.trans G3)
  clear hS3 G3 HA2 HG2
  go_wp2_with fail
  refine (write_no q S (some ⟨w2.heap.size, 0, none⟩) 160 160 (Or.inl hS) w3).mono ?_
  rintro e w3 ⟨rfl, rfl⟩
  unfold errA
  have HA4 : Hid (∃ s, AryAt w3 q s ∧ Okr s ∧ Hid True) := ⟨_, HA3.out, zA_ok, trivial⟩
  have HG4 := hyd HG3.out
  clear HA3 HS3 HG3
  go_wp2_with fail
  go_loopg [10, 11, 12] len (fun kx s10 s11 s12 wr => ∃ (i : Nat), s10 = .int .i64 i ∧ i ≤ len ∧ len - i ≤ kx ∧ Hid (∃ s, AryAt wr q s ∧ Okr s ∧ Hid True) ∧ Hid (Chg (fun _ => False) w wr))
  case atStart => exact ⟨0, rfl, by omega, by omega, HA4, HG4⟩
  case round =>
  clear HA4 HG4
  obtain ⟨i, rfl, hi, hkx, HA, HG⟩ := hrel
  by_cases hlt : i < len
  · have hi0 : (i : Int) < (len : Int) := by omega
    obtain ⟨g, o, rfl, hg, hcells⟩ : ∃ g o, a = some ⟨g, o, none⟩ ∧ g < w.heap.size ∧ ∀ i, i < len → w.cell? ⟨g, o + i * 4, none⟩ = some (.int .i64 (O i).K) ∧ w.cell? ⟨g, o + i * 4 + 1, none⟩ = some (.int .i64 (O i).A) ∧ w.cell? ⟨g, o + i * 4 + 2, none⟩ = some (.int .i64 (O i).B) ∧ w.cell? ⟨g, o + i * 4 + 3, none⟩ = some (.int .u8 (O i).f) := by
      rcases HO.out.2 with h0 | h0
      · omega
      · exact h0
    have HOk := hyd (HO.out.1 i hlt)
    obtain ⟨c0, c1, -, c3⟩ := hcells i hlt
    clear hcells
    have hbk := HG.out.block g hg (fun f => f)
    have d0 : wr.cell? ⟨g, o + i * 4, none⟩ = some (.int .i64 (O i).K) := (World.cell?_of_block (a := ⟨g, o + i * 4, none⟩) hbk).trans c0
    have d1 : wr.cell? ⟨g, o + i * 4 + 1, none⟩ = some (.int .i64 (O i).A) := (World.cell?_of_block (a := ⟨g, o + i * 4 + 1, none⟩) hbk).trans c1
    have d3 : wr.cell? ⟨g, o + i * 4 + 3, none⟩ = some (.int .u8 (O i).f) := (World.cell?_of_block (a := ⟨g, o + i * 4 + 3, none⟩) hbk).trans c3
    have HL : Hid (g < q) := Nat.lt_of_lt_of_le hg HQ.out
    clear c0 c1 c3 hbk
    go_wp2_with fail
    refine (pick_24 (O i).A HOk.out.a1 HOk.out.a2 _).mono ?_
    rintro e wr ⟨rfl, rfl⟩
    have hk := pkN_lt 24 (by decide) (O i).A
    generalize pkN 24 (O i).A = k at *
    by_cases hne : (k : Int) = S
    · have hbe : ((k : Int) == S) = true := by simp [hne]
      clear hne d0 d1 d3
      go_wp2
      go_roundg (len - (i + 1))
      case measure => omega
      case rel => exact ⟨i + 1, by simp, by omega, Nat.le_refl _, HA, HG⟩
    · have hbe : ((k : Int) == S) = false := by simp [hne]
      have HNE : Hid (True) := trivial
      clear hne
      obtain ⟨s, h1, h2, h3⟩ := HA.out
      have HA1 := hyd h1
      have HO1 := hyd h2
      have H1 := hyd h3
      have HF := hyd HOk.out.f
      clear h1 h2 h3 HA HOk
      by_cases hev : (O i).K.tmod 2 = 0
      · have hbv : ((O i).K.tmod 2 == 0) = true := by simp [hev]
        clear hev
        go_wp2_with fail
        refine (some_any 160 (O i).f (by decide) HF.out wr).mono ?_
        rintro e w5 ⟨rfl, hS5, G5⟩
        have HA5 := hyd (HA1.out.chg G5 (fun f => f))
        have HS5 := hyd (Arr.held hS5 0 160 160 (smL (O i).f 160) (smL_length _ 160).symm (by rw [smL_length]; decide) (fun i hi => by rw [Nat.zero_add]))
        have HG5 := hyd (HG.out.trans G5)
        clear hS5 G5 HA1 HG d0 d1 d3
        go_wp2_with fail
        refine (write_yes q k s hk (some ⟨wr.heap.size, 0, none⟩) 160 160 (smL (O i).f 160) rfl (smL_length _ _) w5 HA5.out HS5.out).mono ?_
        rintro e w6 ⟨rfl, A6, G6⟩
        have HA6 : Hid (∃ s, AryAt w6 q s ∧ Okr s ∧ Hid True) := ⟨_, A6, HO1.out.set k (smL_length _ _) (smL_bys _ _), trivial⟩
        have HG6 : Hid (Chg (fun _ => False) w w6) := HG5.out.trans' G6 (fun i hi e => by have := HQ.out; omega)
        clear A6 G6 HA5 HS5 HG5 H1 HO1
        go_wp2
        go_roundg (len - (i + 1))
        case measure => omega
        case rel => exact ⟨i + 1, by simp, by omega, Nat.le_refl _, HA6, HG6⟩
      · have hbv : ((O i).K.tmod 2 == 0) = false := by simp [hev]
        clear hev
        go_wp2_with fail
        refine (trim_yes q k s hk wr HA1.out).mono ?_
        rintro e w6 ⟨rfl, A6, G6⟩
        have HA6 : Hid (∃ s, AryAt w6 q s ∧ Okr s ∧ Hid True) := ⟨_, A6, HO1.out.set k z160_length z160_bys, trivial⟩
        have HG6 : Hid (Chg (fun _ => False) w w6) := HG.out.trans' G6 (fun i hi e => by have := HQ.out; omega)
        clear A6 G6 HA1 HG H1 HO1 d0 d1 d3
        go_wp2
        go_roundg (len - (i + 1))
        case measure => omega
        case rel => exact ⟨i + 1, by simp, by omega, Nat.le_refl _, HA6, HG6⟩
  · have hi0 : ¬ (i : Int) < (len : Int) := by omega
    obtain ⟨s, h1, h2, h3⟩ := HA.out
    have HA1 := hyd h1
    have HO1 := hyd h2
    have H1 := hyd h3
    clear h1 h2 h3 HA HO
    go_wp2_with fail
    refine (read_no q S hS wr).mono ?_
    rintro e w5 ⟨rfl, rfl⟩
    have HB : Hid (Below w.heap.size w w5) := HG.out.below (fun k f => f.elim) (Nat.le_refl _)
    unfold errA
    clear HA1 HO1 H1 HG
    by_cases hs1 : S < 0
    · clear hS
      go_wp2
      go_ret
      exact ⟨rfl, HB.out⟩
    · have hs2 : 24 ≤ S := by omega
      clear hS
      go_wp2
      go_ret
      exact ⟨rfl, HB.out⟩
theorem last_walk (a : Option Addr) (len cap : Nat) (O : Nat → Opd) (S : Int) (fl : Nat) (hfl : fl < 256) (w : World) (hO : IsOps w a len O) (hlen : len ≤ 4398046510976) :
    Calls Try.prog 4 #[.slice a len cap, .int .i64 S, .int .u8 fl] w fun e w' => e = .returned (.bool true) ∧ Below w.heap.size w w' := by
  by_cases hS : 0 ≤ S ∧ S < 24
  · obtain ⟨b, rfl, hb⟩ := nat_of hS
    exact last_in a len cap O b hb fl hfl w hO hlen
  · exact last_out a len cap O S hS fl hfl w hO hlen
end Go.Proofs.Ythpjdnfalecbeaa
