/-
  HealthPlays, walked. Condition: the lists and the script came in with their reach.
-/
import Derived.Test.YtmicfipanpdjbaaStep
namespace Go.Proofs.Ytmicfipanpdjbaa
set_option maxRecDepth 100000
open Go.RowKit

theorem eql_none (w : World) : (binOp .eql 25 (.pointer none) (.pointer none)).run Try.prog w = .ok (.bool true) w := by kernel_rfl
/-- The document's New of any lists. -/
theorem rnew_no (w : World) (pr ps : Option Addr) (nr ns cr cs : Nat) (V U : Nat → Int) (hr : Lies w pr nr V) (hs : Lies w ps ns U) (h : ¬ (okL nr V = true ∧ okL ns U = true)) : Calls Try.prog 7 #[.slice pr nr cr, .slice ps ns cs] w fun e w' => e = .returned (.tuple #[.pointer none, .bool false]) ∧ Chg (fun _ => False) w w' := by
  by_cases h12 : nr = 12 ∧ ns = 12
  · obtain ⟨rfl, rfl⟩ := h12
    refine (rnew_12 w pr ps cr cs V U hr hs).mono ?_
    rintro e w' ⟨h1, h2⟩
    rw [if_neg (by simpa using h)] at h1
    exact ⟨h1, h2⟩
  · refine (rnew_len w pr ps nr ns cr cs h12).mono ?_
    rintro e w' ⟨rfl, rfl⟩
    exact ⟨rfl, Chg.refl _ _⟩
theorem rnew_yes (w : World) (pr ps : Option Addr) (nr ns cr cs : Nat) (V U : Nat → Int) (hr : Lies w pr nr V) (hs : Lies w ps ns U) (h : okL nr V = true ∧ okL ns U = true) : Calls Try.prog 7 #[.slice pr nr cr, .slice ps ns cs] w fun e w' => e = .returned (.tuple #[.pointer (some ⟨w.heap.size, 0, none⟩), .bool true]) ∧ HB w' w.heap.size 50 (lim 65535 V) (lim 255 U) (lim 65535 V) ∧ Chg (fun _ => False) w w' := by
  obtain ⟨rfl, -⟩ := (okL_iff _ _).1 h.1
  obtain ⟨rfl, -⟩ := (okL_iff _ _).1 h.2
  refine (rnew_12 w pr ps cr cs V U hr hs).mono ?_
  rintro e w' ⟨h1, h2⟩
  rw [if_pos (by simpa using h)] at h1
  exact ⟨h1.1, h1.2, h2⟩
theorem Two.stood {w wr : World} {p r ga gb i : Nat} {z : Int} {R N S V U : Nat → Int} (h : Two w wr p r R N S) (HA : Rw wr ga 12 (pst z i V)) (HC : Rw wr gb 12 (pst z i U)) (ne : ga ≠ gb) (hg : w.heap.size ≤ ga) (hk : w.heap.size ≤ gb) (hx : ga ≠ p ∧ gb ≠ p ∧ ga ≠ r ∧ gb ≠ r) (m : Nat) :
    Rw (((wr.drewN m).setCell ⟨ga, i, none⟩ (.int .i64 z)).setCell ⟨gb, i, none⟩ (.int .i64 z)) ga 12 (pst z (i + 1) V) ∧ Rw (((wr.drewN m).setCell ⟨ga, i, none⟩ (.int .i64 z)).setCell ⟨gb, i, none⟩ (.int .i64 z)) gb 12 (pst z (i + 1) U) ∧ Two w (((wr.drewN m).setCell ⟨ga, i, none⟩ (.int .i64 z)).setCell ⟨gb, i, none⟩ (.int .i64 z)) p r R N S := by
  obtain ⟨a1, a2, a3⟩ := Ytmicfipanpdjbaa.stood HA HC h.chg ne hg hk m
  have c : Chg (fun k => k = ga ∨ k = gb) wr (((wr.drewN m).setCell ⟨ga, i, none⟩ (.int .i64 z)).setCell ⟨gb, i, none⟩ (.int .i64 z)) := (((Chg.refl (fun k => k = ga ∨ k = gb) wr).drewN m).setCell (Or.inl (Or.inl rfl)) _ _).setCell (Or.inl (Or.inr rfl)) _ _
  exact ⟨a1, a2, { h with prog := h.prog.chg c (by omega), ref := h.ref.chg c (by omega), chg := a3 }⟩
set_option maxHeartbeats 8000000 in
theorem plays_walk (pr ps a : Option Addr) (nr ns cr cs len cap : Nat) (V U : Nat → Int) (O : Nat → Opd) (w : World) (hV : IsInts w pr nr V) (hU : IsInts w ps ns U) (hO : IsOps w a len O)
    (bv : nr * 8 ≤ 140737488351232) (bu : ns * 8 ≤ 140737488351232) (bo : len * 24 ≤ 140737488351232) (zv : pr = none → nr = 0 ∧ cr = 0) (zu : ps = none → ns = 0 ∧ cs = 0) :
    Calls Try.prog 3 #[.slice pr nr cr, .slice ps ns cs, .slice a len cap] w fun e w' => e = .returned (.bool true) ∧ Below w.heap.size w w' := by
  have HV := hyd hV.lies
  have HU := hyd hU.lies
  have HO := hyd hO
  have HZ := hyd (And.intro zv zu)
  have HB0 := hyd (And.intro bv bu)
  have hlen : (len : Int) < 9223372036854775807 := by omega
  clear hV hU hO zv zu bv bu bo
  go_enter Try.func3, Try.ntmps3
  go_wp2_with fail
  refine (up_any _).mono ?_
  rintro x w1 ⟨rfl, G1⟩
  have HV1 := hyd (HV.out.chg G1)
  have HU1 := hyd (HU.out.chg G1)
  have HG1 := hyd G1
  clear G1
  go_wp2_with (refine wpList_append_ints rfl (.tmp 19) (.tmp 20) rfl rfl pr nr cr V rfl HZ.out.1 HV1.out HB0.out.1 ?_)
  intro po co w2 K2 G2
  have HV2 := hyd (HV1.out.chg G2)
  have HU2 := hyd (HU1.out.chg G2)
  have HA2 := hyd K2
  have HG2 := hyd (HG1.out.trans G2)
  clear K2 G2 HV1 HU1
  go_wp2_with (refine wpList_append_ints rfl (.tmp 22) (.tmp 23) rfl rfl ps ns cs U rfl HZ.out.2 HU2.out HB0.out.2 ?_)
  intro qo do_ w3 K3 G3
  have HV3 := hyd (HV2.out.chg G3)
  have HU3 := hyd (HU2.out.chg G3)
  have HA3 := hyd (HA2.out.chg G3)
  have HB3 := hyd K3
  have HG3 := hyd (HG2.out.trans G3)
  have HG23 := hyd G3
  clear K3 G3 HV2 HU2 HZ HB0
  by_cases hok : okL nr V = true ∧ okL ns U = true
  · obtain ⟨rfl, -⟩ := (okL_iff _ _).1 hok.1
    obtain ⟨rfl, -⟩ := (okL_iff _ _).1 hok.2
    rcases HA2.out with h0 | ⟨ga, rfl, hga, RA⟩
    · omega
    rcases HB3.out with h0 | ⟨gb, rfl, hgb, RB⟩
    · omega
    have HNE := hyd (show ga ≠ gb by have := RA.lt; omega)
    have HA4 := hyd (RA.chg HG23.out (fun f => f))
    have HB4 := hyd RB
    have HLA := hyd (show w.heap.size ≤ ga ∧ w.heap.size ≤ gb by have := HG1.out.size; have := HG2.out.size; omega)
    have HLB := hyd (And.intro HA4.out.lt HB4.out.lt)
    clear hga hgb RA RB HA2 HB3 HA3 HG23 HG1 HG2
    go_wp2_with fail
    refine (new_yes w3 _ _ 12 12 co do_ V U HA4.out.lies HB4.out.lies hok.1 hok.2).mono ?_
    rintro x w4 ⟨rfl, K4, G4⟩
    obtain ⟨p, HPE⟩ : ∃ p, Hid (p = w3.heap.size) := ⟨_, rfl⟩
    rw [← HPE.out] at K4 HLB
    rw [← HPE.out]
    have HK4 := hyd K4
    have HG4 := hyd G4
    clear K4 G4
    go_wp2_with fail
    refine (rnew_yes w4 pr ps 12 12 cr cs V U (HV3.out.chg HG4.out) (HU3.out.chg HG4.out) hok).mono ?_
    rintro x w5 ⟨rfl, K5, G5⟩
    obtain ⟨r, HRE⟩ : ∃ r, Hid (r = w4.heap.size) := ⟨_, rfl⟩
    rw [← HRE.out] at K5
    rw [← HRE.out]
    have HT := hyd (show Two w w5 p r (lim 65535 V) (lim 65535 V) (lim 255 U) from ⟨HK4.out.chg G5 (fun f => f), K5, okLim hok.1 hok.2, by have := HK4.out.lt; have := HRE.out; omega, by rw [HPE.out]; exact HG3.out.size, by rw [HRE.out]; exact (HG3.out.trans HG4.out).size, (HG3.out.trans HG4.out).trans G5⟩)
    have HA5 := hyd (HA4.out.chg (HG4.out.trans G5) (fun f => f))
    have HB5 := hyd (HB4.out.chg (HG4.out.trans G5) (fun f => f))
    have HPR := hyd (show ga ≠ p ∧ gb ≠ p ∧ ga ≠ r ∧ gb ≠ r by have := HLB.out; have := HPE.out; have := HK4.out.lt; have := HRE.out; omega)
    clear K5 G5 HK4 HG4 HA4 HB4 HG3 HV3 HU3 HLB HPE HRE
    have q := neq_nil
    have q2 := eql_ptr
    go_wp2_with fail
    clear q q2
    go_loopg [14] 12 (fun kx s14 wr => ∃ i : Nat, s14 = .int .i64 i ∧ i ≤ 12 ∧ 12 - i ≤ kx ∧ Hid (Rw wr ga 12 (pst 77 i V)) ∧ Hid (Rw wr gb 12 (pst 77 i U)) ∧ Hid (Two w wr p r (lim 65535 V) (lim 65535 V) (lim 255 U)))
    case atStart => exact ⟨0, rfl, by omega, by omega, by rw [pst_0]; exact HA5, by rw [pst_0]; exact HB5, HT⟩
    case round =>
    clear HA5 HB5 HT
    obtain ⟨i, rfl, hin, hkx, HA, HC, HT⟩ := hrel
    by_cases hlt : i < 12
    · have hltz : (i : Int) < 12 := by omega
      have x0 := HA.out.cell i hlt
      have x1 := HC.out.cell i hlt
      rw [pst_at] at x0 x1
      obtain ⟨x0, x0f⟩ := x0
      obtain ⟨x1, x1f⟩ := x1
      obtain ⟨g1, o1, rfl, y0⟩ := (HV.out.chg HT.out.chg).at_ i hlt
      obtain ⟨g2, o2, rfl, y1⟩ := (HU.out.chg HT.out.chg).at_ i hlt
      have HT' := hyd (fun m => HT.out.stood HA.out HC.out HNE.out HLA.out.1 HLA.out.2 HPR.out m)
      have x2 := fun m => ((HC.out.drewN m).chg ((Chg.refl (· = ga) (wr.drewN m)).setCell (Or.inl rfl) i (.int .i64 77)) HNE.out.symm).cell i hlt
      rw [pst_at] at x2
      have x2c := fun m => (x2 m).1
      have x2f := fun m => (x2 m).2
      clear x2 HA HC HT
      generalize V i = u at *
      generalize U i = v at *
      have hu : (u != u) = false := by simp
      have hv : (v != v) = false := by simp
      go_wp2_with fail
      go_quiet (fail)
      go_wp2
      go_roundg (12 - (i + 1))
      case measure => omega
      case rel => exact ⟨i + 1, by simp, by omega, Nat.le_refl _, (HT'.out _).1, (HT'.out _).2.1, (HT'.out _).2.2⟩
    · have hltz : ¬ (i : Int) < 12 := by omega
      clear HA HC HV HU HNE HLA HPR hok
      go_wp2_with fail
      go_loopg [15] len (fun kx s15 wr => ∃ (j : Nat) (R N S : Nat → Int), s15 = .int .i64 j ∧ j ≤ len ∧ len - j ≤ kx ∧ Hid (Two w wr p r R N S))
      case atStart => exact ⟨0, _, _, _, rfl, by omega, by omega, HT⟩
      case round =>
      clear HT hin hkx hlt hltz
      obtain ⟨j, R, N, S, rfl, hin, hkx, HT⟩ := hrel
      by_cases hlt : j < len
      · have hltz : (j : Int) < (len : Int) := by omega
        obtain ⟨hoo, hc⟩ := HO.out
        rcases hc with hc | ⟨qa, oa, rfl, hqa, hc⟩
        · omega
        obtain ⟨x0, x1, x2⟩ := (hc j hlt).chg HT.out.chg hqa
        have hoi := hoo j hlt
        have hst := step_any w wr p r R N S HT.out (O j).K (O j).A (O j).B hoi.1.1 hoi.1.2 hoi.2.2.1 hoi.2.2.2
        clear hoo hc hqa hoi HT
        generalize O j = oi at *
        go_wp2_with fail
        refine hst.mono ?_
        rintro x w6 ⟨rfl, R6, N6, S6, T6⟩
        have HT := hyd T6
        clear hst T6 x0 x1 x2
        go_wp2_with fail
        refine (due_v w6 p R6 N6 S6 HT.out.prog HT.out.ok).mono ?_
        rintro x w7 ⟨rfl, m7, rfl⟩
        go_wp2_with fail
        refine (rdue_v (w6.drewN m7) r R6 N6 S6 (HT.out.ref.drewN m7) HT.out.ok).mono ?_
        rintro x w8 ⟨rfl, m8, rfl⟩
        have HT8 := hyd (HT.out.still (((Chg.refl (fun _ => False) w6).drewN m7).drewN m8))
        clear HT
        generalize (w6.drewN m7).drewN m8 = w8 at *
        generalize duB R6 N6 = d at *
        have hd : (d != d) = false := by simp
        cases d
        · go_wp2
          go_roundg (len - (j + 1))
          case measure => omega
          case rel => exact ⟨j + 1, R6, N6, S6, by simp, by omega, Nat.le_refl _, HT8⟩
        · go_wp2
          go_roundg (len - (j + 1))
          case measure => omega
          case rel => exact ⟨j + 1, R6, N6, S6, by simp, by omega, Nat.le_refl _, HT8⟩
      · have hltz : ¬ (j : Int) < (len : Int) := by omega
        go_wp2_with fail
        refine (stands_any wr p r R N S HT.out.prog HT.out.ref HT.out.ok).mono ?_
        rintro x w6 ⟨rfl, G6⟩
        have HG6 := hyd (HT.out.chg.trans G6)
        clear G6 HT
        go_wp2
        go_ret
        exact ⟨rfl, HG6.out.below (fun _ h => h.elim) (Nat.le_refl _)⟩
  · go_wp2_with fail
    refine (new_no w3 po qo nr ns co do_ V U HA3.out.lies HB3.out.lies hok).mono ?_
    rintro x w3 ⟨rfl, rfl⟩
    go_wp2_with fail
    refine (rnew_no w3 pr ps nr ns cr cs V U HV3.out HU3.out hok).mono ?_
    rintro x w4 ⟨rfl, G4⟩
    have HG4 := hyd (HG3.out.trans G4)
    have q := eql_1_1
    have q2 := eql_none
    clear G4 HG3 HV3 HU3 HA3 HB3 HA2 hok
    go_wp2
    go_ret
    exact ⟨rfl, HG4.out.below (fun _ h => h.elim) (Nat.le_refl _)⟩
end Go.Proofs.Ytmicfipanpdjbaa
