/-
  One thing is done with both. No condition.
-/
import Derived.Test.YtmicfipanpdjbaaUp
namespace Go.Proofs.Ytmicfipanpdjbaa
set_option maxRecDepth 100000
open Go.RowKit

/-- Program and document stand alike. -/
structure Two (w0 w : World) (p r : Nat) (R N S : Nat → Int) : Prop where
  prog : HB w p 48 R N S
  ref : HB w r 50 R S N
  ok : Okh R N S
  ne : p ≠ r
  lp : w0.heap.size ≤ p
  lr : w0.heap.size ≤ r
  chg : Chg (fun _ => False) w0 w
section
variable {w0 w w' w1 w2 : World} {p r : Nat} {R N S R' N' S' : Nat → Int}
theorem Two.still (h : Two w0 w p r R N S) (hc : Chg (fun _ => False) w w') : Two w0 w' p r R N S :=
  { h with prog := h.prog.chg hc (fun f => f), ref := h.ref.chg hc (fun f => f), chg := h.chg.trans hc }
/-- Both were changed. -/
theorem Two.both (h : Two w0 w p r R N S) (K1 : HB w1 p 48 R' N' S') (G1 : Chg (· = p) w w1) (ok : Okh R' N' S') (K2 : HB w2 r 50 R' S' N') (G2 : Chg (· = r) w1 w2) : Two w0 w2 p r R' N' S' :=
  { h with
    prog := K1.chg G2 h.ne
    ref := K2
    ok := ok
    chg := (h.chg.trans' G1 (fun i hi e => by have := h.lp; omega)).trans' G2 (fun i hi e => by have := h.lr; omega) }
end
/-- What a step answers. -/
def StAns (w0 w' : World) (p r : Nat) (e : Ending) : Prop := e = .returned (.bool true) ∧ ∃ R N S, Two w0 w' p r R N S
/-- An operation's three cells. -/
def op3 (K A B : Int) : Nat → Int := fun i => if i = 0 then K else if i = 1 then A else B
set_option maxHeartbeats 8000000 in
theorem step_any (w0 w : World) (p r : Nat) (R N S : Nat → Int) (h : Two w0 w p r R N S) (K A M : Int) (h1 : -9223372036854775808 ≤ K) (h2 : K ≤ 9223372036854775807) (h3 : -9223372036854775808 ≤ M) (h4 : M ≤ 9223372036854775807) :
    Calls Try.prog 8 #[.pointer (some ⟨p, 0, none⟩), .pointer (some ⟨r, 0, none⟩), .agg #[.int .i64 K, .int .i64 A, .int .i64 M]] w fun e w' => StAns w0 w' p r e := by
  have G0 : Chg (fun _ => False) w (w.alloc (.cells #[.int .i64 K, .int .i64 A, .int .i64 M] 36)) := (Chg.refl _ w).alloc _
  have O0 : IB (w.alloc (.cells #[.int .i64 K, .int .i64 A, .int .i64 M] 36)) w.heap.size 36 3 (op3 K A M) := IB.new w 36 3 (op3 K A M)
  have HS := hyd (h.still G0)
  have hpo : p ≠ w.heap.size := Nat.ne_of_lt h.prog.lt
  have hro : r ≠ w.heap.size := Nat.ne_of_lt h.ref.lt
  obtain ⟨o0, -⟩ := O0.cell 0 (by omega)
  obtain ⟨o1, -⟩ := O0.cell 1 (by omega)
  obtain ⟨o2, -⟩ := O0.cell 2 (by omega)
  have HO := hyd O0
  clear G0 O0 h
  go_enter Try.func8, Try.ntmps8
  go_wp2_with fail
  generalize w.alloc (.cells #[.int .i64 K, .int .i64 A, .int .i64 M] 36) = w1 at *
  generalize w.heap.size = o at *
  refine (pick_any K h1 h2 6 (by omega) (by omega) _).mono ?_
  rintro e w1 ⟨⟨q, hq, rfl⟩, rfl⟩
  have hcase : q = 0 ∨ q = 1 ∨ q = 2 ∨ q = 3 ∨ q = 4 ∨ q = 5 := by omega
  clear hq o0 h1 h2
  rcases hcase with rfl | rfl | rfl | rfl | rfl | rfl
  · clear o2
    rw [show ((0 : Nat) : Int) = 0 from rfl]
    have hpk := fun w => pick_fn M h3 h4 70 (by omega) (by omega) w
    have hpl := pkN_lt M 70 (by omega)
    generalize pkN M 70 = q at *
    go_wp2_with fail
    go_loopg [7] 71 (fun kx s7 wr => ∃ (i : Nat) (R N S : Nat → Int), s7 = .int .i64 i ∧ i ≤ q + 1 ∧ 71 - i ≤ kx ∧ Hid (IB wr o 36 3 (op3 K A M)) ∧ Hid (Two w0 wr p r R N S))
    case atStart => exact ⟨0, R, N, S, rfl, by omega, by omega, HO, HS⟩
    case round =>
    clear HO HS o1
    obtain ⟨i, R, N, S, rfl, hin, hkx, HO, HS⟩ := hrel
    obtain ⟨o1, -⟩ := HO.out.cell 1 (by omega)
    obtain ⟨o2, -⟩ := HO.out.cell 2 (by omega)
    rw [show op3 K A M 1 = A from rfl] at o1
    rw [show op3 K A M 2 = M from rfl] at o2
    go_wp2_with fail
    refine (hpk _).mono ?_
    rintro e wr ⟨rfl, rfl⟩
    by_cases hiq : i ≤ q
    · have hiz : (i : Int) ≤ (q : Int) := by omega
      clear o2
      go_wp2_with fail
      refine (read_v wr p R N S HS.out.prog HS.out.ok A).mono ?_
      rintro e w2 ⟨rfl, K2, G2⟩
      have O2 := HO.out.chg G2 hpo.symm
      obtain ⟨u1, -⟩ := O2.cell 1 (by omega)
      have HK2 := hyd K2
      have HG2 := hyd G2
      have HR2 := hyd (HS.out.ref.chg G2 HS.out.ne.symm)
      have HO2 := hyd O2
      clear K2 G2 O2 o1 HO
      go_wp2_with fail
      go_region_held3 (fun wx => wx.cell? ⟨o, 1, none⟩ = some (.int .i64 A))
        (first | exact u1 | exact z1)
        (first
          | (go_at_call 23; refine (code_v _ (blC_code A) _).mono ?_; rintro x w3 ⟨rfl, rfl⟩)
          | (go_at_call 24; refine (rread_v _ r _ _ _ HR2.out.drew HS.out.ok A).mono ?_; rintro x w4 ⟨rfl, K4, G4⟩; have O4 := (HO2.out.chg (Chg.refl (fun _ => False) w2).drew (fun f => f)).chg G4 hro.symm; obtain ⟨z1, -⟩ := O4.cell 1 (by omega); have HT := hyd (HS.out.both HK2.out HG2.out (HS.out.ok.more1 A) K4 ((Chg.refl _ _).drew.trans G4)); have HO4 := hyd O4; clear K4 G4 O4))
      have hne : (((blC A : Nat) : Int) != ((blC A : Nat) : Int)) = false := by simp
      clear HS HR2 HK2 HG2 HO2 u1
      go_wp2
      go_roundg (71 - (i + 1))
      case measure => omega
      case rel => exact ⟨i + 1, _, _, _, by simp, by omega, Nat.le_refl _, HO4, HT⟩
    · have hiz : ¬ (i : Int) ≤ (q : Int) := by omega
      clear o1 o2
      go_wp2
      go_ret
      exact ⟨rfl, _, _, _, HS.out⟩
  · clear o2
    rw [show ((1 : Nat) : Int) = 1 from rfl]
    go_wp2_with fail
    refine (report_v w1 p R N S HS.out.prog HS.out.ok A).mono ?_
    rintro e w2 ⟨rfl, K2, G2⟩
    have O2 := HO.out.chg G2 hpo.symm
    obtain ⟨u1, -⟩ := O2.cell 1 (by omega)
    have HK2 := hyd K2
    have HG2 := hyd G2
    have HR2 := hyd (HS.out.ref.chg G2 HS.out.ne.symm)
    have HO2 := hyd O2
    clear K2 G2 O2 o1 HO
    go_wp2_with fail
    go_region_held3 (fun wx => wx.cell? ⟨o, 1, none⟩ = some (.int .i64 A))
      (first | exact u1 | exact z1)
      (first
        | (go_at_call 23; refine (code_v _ (blC_code A) _).mono ?_; rintro x w3 ⟨rfl, rfl⟩)
        | (go_at_call 25; refine (rreport_v _ r _ _ _ HR2.out.drew HS.out.ok A).mono ?_; rintro x w4 ⟨rfl, K4, G4⟩; have O4 := (HO2.out.chg (Chg.refl (fun _ => False) w2).drew (fun f => f)).chg G4 hro.symm; obtain ⟨z1, -⟩ := O4.cell 1 (by omega); have HT := hyd (HS.out.both HK2.out HG2.out (HS.out.ok.more3 A) K4 ((Chg.refl _ _).drew.trans G4)); have HO4 := hyd O4; clear K4 G4 O4))
    have hne : (((blC A : Nat) : Int) == ((blC A : Nat) : Int)) = true := by simp
    clear HS HR2 HK2 HG2 HO2 u1
    go_wp2
    go_ret
    exact ⟨rfl, _, _, _, HT.out⟩
  · clear o2
    rw [show ((2 : Nat) : Int) = 2 from rfl]
    go_wp2_with fail
    refine (erased_v w1 p R N S HS.out.prog HS.out.ok A).mono ?_
    rintro e w2 ⟨rfl, K2, G2⟩
    have O2 := HO.out.chg G2 hpo.symm
    obtain ⟨u1, -⟩ := O2.cell 1 (by omega)
    have HK2 := hyd K2
    have HG2 := hyd G2
    have HR2 := hyd (HS.out.ref.chg G2 HS.out.ne.symm)
    have HO2 := hyd O2
    clear K2 G2 O2 o1 HO
    go_wp2_with fail
    go_region_held3 (fun wx => wx.cell? ⟨o, 1, none⟩ = some (.int .i64 A))
      (first | exact u1 | exact z1)
      (first
        | (go_at_call 23; refine (code_v _ (blC_code A) _).mono ?_; rintro x w3 ⟨rfl, rfl⟩)
        | (go_at_call 26; refine (rerased_v _ r _ _ _ HR2.out.drew HS.out.ok A).mono ?_; rintro x w4 ⟨rfl, K4, G4⟩; have O4 := (HO2.out.chg (Chg.refl (fun _ => False) w2).drew (fun f => f)).chg G4 hro.symm; obtain ⟨z1, -⟩ := O4.cell 1 (by omega); have HT := hyd (HS.out.both HK2.out HG2.out (HS.out.ok.none A) K4 ((Chg.refl _ _).drew.trans G4)); have HO4 := hyd O4; clear K4 G4 O4))
    have hne : (((blC A : Nat) : Int) == ((blC A : Nat) : Int)) = true := by simp
    clear HS HR2 HK2 HG2 HO2 u1
    go_wp2
    go_ret
    exact ⟨rfl, _, _, _, HT.out⟩
  · clear o1 o2 HO
    rw [show ((3 : Nat) : Int) = 3 from rfl]
    go_wp2_with fail
    refine (noted_v w1 p R N S HS.out.prog HS.out.ok).mono ?_
    rintro e w2 ⟨rfl, K2, G2⟩
    have HR2 := hyd (HS.out.ref.chg G2 HS.out.ne.symm)
    have HT := hyd (HS.out.both K2 G2 HS.out.ok.noted (HR2.out.rowC R) (Chg.setCells (S := (· = r)) (Or.inl rfl) _ _ (Chg.refl _ _)))
    clear K2 G2 HS
    go_wp2_with (first | (refine wpList_load_12 rfl (.tmp 72) rfl r 0 rfl R HR2.out.partA ?_) | (refine wpList_store_12 rfl (.tmp 75) (.tmp 73) rfl r 24 R rfl rfl (IB.there HR2.out 24 12 (by omega)) ?_))
    go_ret
    exact ⟨rfl, _, _, _, HT.out⟩
  · clear o2
    rw [show ((4 : Nat) : Int) = 4 from rfl]
    have hti := tired_v w1 p R N S HS.out.prog HS.out.ok A
    have hwe := weak_v w1 p R N S HS.out.prog HS.out.ok A
    rw [show op3 K A M 1 = A from rfl] at o1
    clear HO hpo hro
    by_cases hz : 0 ≤ A ∧ A < 12
    · obtain ⟨n, hn, rfl⟩ := nat_of A hz
      obtain ⟨y0, -⟩ := HS.out.ref.ca n hn
      obtain ⟨y1, -⟩ := HS.out.ref.cb n hn
      rw [much_yes _ _ _ hn, blC_yes n hn] at hti hwe
      rw [show errV 0 = .nilIface from rfl] at hti hwe
      have hnz : (n : Int) < 12 := by omega
      have q := eql_nil
      clear hz
      generalize R n = u at *
      generalize S n = v at *
      by_cases hu : u ≥ 512
      · simp only [hu, decide_true] at hti
        by_cases hv : v ≥ 3
        · simp only [hv, decide_true] at hwe
          go_wp2_with fail
          refine hti.mono ?_
          rintro e w1 ⟨rfl, rfl⟩
          go_wp2_with fail
          refine hwe.mono ?_
          rintro e w1 ⟨rfl, rfl⟩
          go_wp2_with fail
          refine (is_yes _ _ hn).mono ?_
          rintro e w1 ⟨rfl, rfl⟩
          clear hti hwe
          go_wp2_with fail
          go_quiet (fail)
          go_wp2
          go_ret
          exact ⟨rfl, _, _, _, HS.out.still ((Chg.refl _ _).drewN _)⟩
        · simp only [hv, decide_false] at hwe
          have dv : decide (3 ≤ v) = false := decide_eq_false hv
          go_wp2_with fail
          refine hti.mono ?_
          rintro e w1 ⟨rfl, rfl⟩
          go_wp2_with fail
          refine hwe.mono ?_
          rintro e w1 ⟨rfl, rfl⟩
          go_wp2_with fail
          refine (is_yes _ _ hn).mono ?_
          rintro e w1 ⟨rfl, rfl⟩
          clear hti hwe
          go_wp2_with fail
          go_quiet (fail)
          go_wp2
          go_ret
          exact ⟨rfl, _, _, _, HS.out.still ((Chg.refl _ _).drewN _)⟩
      · simp only [hu, decide_false] at hti
        have du : decide (512 ≤ u) = false := decide_eq_false hu
        by_cases hv : v ≥ 3
        · simp only [hv, decide_true] at hwe
          go_wp2_with fail
          refine hti.mono ?_
          rintro e w1 ⟨rfl, rfl⟩
          go_wp2_with fail
          refine hwe.mono ?_
          rintro e w1 ⟨rfl, rfl⟩
          go_wp2_with fail
          refine (is_yes _ _ hn).mono ?_
          rintro e w1 ⟨rfl, rfl⟩
          clear hti hwe
          go_wp2_with fail
          go_quiet (fail)
          go_wp2
          go_ret
          exact ⟨rfl, _, _, _, HS.out.still ((Chg.refl _ _).drewN _)⟩
        · simp only [hv, decide_false] at hwe
          have dv : decide (3 ≤ v) = false := decide_eq_false hv
          go_wp2_with fail
          refine hti.mono ?_
          rintro e w1 ⟨rfl, rfl⟩
          go_wp2_with fail
          refine hwe.mono ?_
          rintro e w1 ⟨rfl, rfl⟩
          go_wp2_with fail
          refine (is_yes _ _ hn).mono ?_
          rintro e w1 ⟨rfl, rfl⟩
          clear hti hwe
          go_wp2_with fail
          go_quiet (fail)
          go_wp2
          go_ret
          exact ⟨rfl, _, _, _, HS.out.still ((Chg.refl _ _).drewN _)⟩
    · rw [show much 512 R A = false by unfold much; rw [if_neg hz], show errV (blC A) = .iface 33 (.int .i64 1) by unfold blC; rw [if_neg hz]; rfl] at hti
      rw [show much 3 S A = false by unfold much; rw [if_neg hz], show errV (blC A) = .iface 33 (.int .i64 1) by unfold blC; rw [if_neg hz]; rfl] at hwe
      have q := eql_1_1
      go_wp2_with fail
      refine hti.mono ?_
      rintro e w1 ⟨rfl, rfl⟩
      go_wp2_with fail
      refine hwe.mono ?_
      rintro e w1 ⟨rfl, rfl⟩
      go_wp2_with fail
      refine (is_no _ _ hz).mono ?_
      rintro e w1 ⟨rfl, rfl⟩
      clear hti hwe hz
      go_wp2
      go_ret
      exact ⟨rfl, _, _, _, HS.out⟩
  · clear o1 o2 HO
    rw [show ((5 : Nat) : Int) = 5 from rfl]
    go_wp2_with fail
    refine (stands_any w1 p r R N S HS.out.prog HS.out.ref HS.out.ok).mono ?_
    rintro e w2 ⟨rfl, G2⟩
    have HT := hyd (HS.out.still G2)
    clear HS G2
    go_wp2
    go_ret
    exact ⟨rfl, _, _, _, HT.out⟩
end Go.Proofs.Ytmicfipanpdjbaa
