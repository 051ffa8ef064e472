/-
  RsMends, walked: every message, every damage: at most 2 symbols are mended and counted, 3 or 4 are told, and whatever is answered is near. Condition: the bytes and the turns came in as slices do.
-/
import Derived.Test.YtfihhamjlcnpnaaTurns
namespace Go.Proofs.Ytfihhamjlcnpnaa
open Go.RowKit
set_option maxRecDepth 100000

/-- A word that is three or four symbols from a codeword is read as none. -/
theorem dec_told {x c : List Nat} {r : Option (List Nat × Nat)} (h : IsDec x r) (hc : Cw c) (h2 : 2 < ds x c) (h4 : ds x c ≤ 4) : r = none := by
  rcases h with ⟨h, -⟩ | ⟨c', hc', he, hd⟩
  · exact h
  · exfalso
    have h1 : ds c' c ≤ 6 := by
      have := ds_tri c' x c
      rw [ds_comm c' x] at this
      omega
    have e := cw_unique hc' hc h1
    rw [e] at hd
    omega

set_option maxHeartbeats 8000000 in
theorem mends_walk (a0 : Option Addr) (len0 cap0 : Nat) (z0 : List Int) (w : World) (w0 : IsRow .u8 w a0 len0 cap0 z0) (r0 : cap0 * 1 ≤ 140737488351232)
    (a1 : Option Addr) (len1 cap1 : Nat) (hlen1 : len1 ≤ 9223372036854775807) (T : Nat → Int × Nat) (hT : IsTurns w a1 len1 T) :
    Calls Try.prog 6 #[.slice a0 len0 cap0, .slice a1 len1 cap1] w fun e w' => e = .returned (.bool true) ∧ Below w.heap.size w w' := by
  obtain ⟨l, hl0, hc0, bl, -, HL⟩ := row_in w0
  have hln : l.length ≤ 9223372036854775807 := by omega
  clear w0 hc0 r0
  subst hl0
  have HL := hyd HL
  have HT := hyd hT
  clear hT
  go_enter Try.func6, Try.ntmps6
  go_wp2_with fail
  refine (shown_any w).mono ?_
  rintro e w1 ⟨rfl, G1⟩
  go_wp2_with fail
  refine (codec_new w1).mono ?_
  rintro e w2 ⟨q, b, rfl, hq, hb, C2, G2⟩
  have G02 : Chg (fun _ => False) w w2 := G1.trans G2
  have hs1 := G1.size
  have hs2 := G02.size
  have hqs := C2.lt
  have hbs := C2.1.lt
  have hne := C2.ne
  clear G1 G2
  go_wp2_with fail
  refine (message_any w2 a0 cap0 l bl hln (HL.out.chgF G02)).mono ?_
  rintro e w3 ⟨gq, rfl, hgq, M3, H3⟩
  have C3 := C2.chg H3
  have G3 := G02.trans H3
  have hs3 := H3.size
  clear C2 G02 H3
  have hpl : (padTo l 58 58).length = 58 := padTo_length _ _ _
  have hpb : Bys (padTo l 58 58) := padTo_bys bl 58 58
  generalize padTo l 58 58 = p at *
  have hgq3 := M3.lt
  go_wp2_with fail
  refine (encode_any q b w3 C3 gq 0 58 p hpl hpb (by omega) M3.lt M3.at0).mono ?_
  rintro e w4 ⟨g4, rfl, hg4, E4, C4, B4⟩
  have hb3 := C3.1.lt
  have M4 : Arr w4 gq 5 p := M3.but B4 (by omega)
  have G4 : Chg (fun _ => False) w w4 := B4.chgF G3 (by omega)
  clear M3 C3 G3 B4
  have HCW := hyd (encL_cw hpl hpb)
  have HTK := hyd (encL_take hpl)
  obtain ⟨v1, v2, -⟩ := HCW.out
  generalize encL p = P at *
  have q1 := neq_nil_nil
  have hg4l := E4.lt
  go_wp2_with fail
  refine (damage_any w4 g4 0 64 P v1 v2 E4.lt (fun i hi => E4.at0 i (by omega)) a1 len1 cap1 hlen1 T (HT.out.chg G4)).mono ?_
  rintro e w5 ⟨g5, k5, X, rfl, hX, bX, hg5, O5, H5⟩
  have C5 := C4.chg H5
  have M5 : Arr w5 gq 5 p := M4.chg H5 (fun e => e)
  have G5 := G4.trans H5
  have hb4 := C4.1.lt
  obtain ⟨g', k', hv, -, hg5s, -, hcx, -⟩ := O5.lies (by omega)
  simp only [Value.slice.injEq, Option.some.injEq, Addr.mk.injEq] at hv
  obtain ⟨⟨rfl, -, -⟩, -, rfl⟩ := hv
  have HX5 : Hid (∀ i, i < X.length → w5.cell? ⟨g5, 0 + i, none⟩ = some (.int .u8 (X.getD i 0 : Nat))) := hyd (fun i hi => by rw [Nat.zero_add]; exact hcx i hi)
  clear C4 M4 G4 H5 E4 O5 hcx
  go_wp2_with fail
  refine (decode_any q b w5 C5 g5 0 k5 X hX bX (by omega) hg5s HX5.out).mono ?_
  rintro e w6 ⟨hD, C6, B6⟩
  have hb5 := C5.1.lt
  have M6 : Arr w6 gq 5 p := M5.but B6 (by omega)
  have G6 : Chg (fun _ => False) w w6 := B6.chgF G5 (by omega)
  have HX6 : Hid (∀ i, i < 64 → w6.cell? ⟨g5, 0 + i, none⟩ = some (.int .u8 (X.getD i 0 : Nat))) := hyd (fun i hi => (B6.cell hg5s (by omega) _).trans (HX5.out i (by omega)))
  clear C5 M5 G5 B6 HX5
  have hsb := C6.1.lt
  by_cases hd2 : ds X P ≤ 2
  · have hd2' : ((ds X P : Nat) : Int) ≤ 2 := by omega
    rcases hD with ⟨hN, -⟩ | ⟨m, d, gd, hD, -, -, -, rfl, -, R6⟩
    · have := hN.of HCW.out hd2; cases this
    have hdm := hD.of HCW.out hd2
    simp only [Option.some.injEq, Prod.mk.injEq] at hdm
    obtain ⟨rfl, rfl⟩ := hdm
    rw [HTK.out] at R6
    clear hD hd2
    generalize ds X P = d at *
    go_wp2_with fail
    refine (same_n _ _ _ 58 58 58 58 p p hpl.symm hpl.symm (R6.held 0 58 58 p hpl.symm (by omega) (fun i _ => by rw [Nat.zero_add])) (M6.held 0 58 58 p hpl.symm (by omega) (fun i _ => by rw [Nat.zero_add])) (by omega) (by omega)).mono ?_
    rintro e w7 ⟨rfl, H7⟩
    have hpp : decide (p = p) = true := by simp
    rw [hpp]
    have G7 := G6.trans H7
    have q2 := eql_nil_nil
    clear R6 M6 G6 H7
    go_wp2
    go_ret
    exact ⟨rfl, G7.below (fun k e => e.elim) (Nat.le_refl _)⟩
  · have hd2' : ¬ ((ds X P : Nat) : Int) ≤ 2 := by omega
    have q2 := eql_dec_dec
    have q3 := neq_dec_nil
    rcases hD with ⟨hN, rfl⟩ | ⟨m, d, gd, hD, hdd, hml, hmb, rfl, hgd, R6⟩
    · by_cases hd4 : ds X P ≤ 4
      · have hd4' : ((ds X P : Nat) : Int) ≤ 4 := by omega
        clear hN hd2 hd4
        generalize ds X P = d at *
        go_wp2
        go_ret
        exact ⟨rfl, G6.below (fun k e => e.elim) (Nat.le_refl _)⟩
      · have hd4' : ¬ ((ds X P : Nat) : Int) ≤ 4 := by omega
        clear hN hd2 hd4
        generalize ds X P = d at *
        go_wp2
        go_ret
        exact ⟨rfl, G6.below (fun k e => e.elim) (Nat.le_refl _)⟩
    · by_cases hd4 : ds X P ≤ 4
      · have := dec_told hD HCW.out (by omega) hd4; cases this
      · have hd4' : ¬ ((ds X P : Nat) : Int) ≤ 4 := by omega
        have HD := hyd (dec_enc hD hml hmb)
        clear hD hd2 hd4
        generalize ds X P = dd at *
        go_wp2_with fail
        refine (encode_any q b w6 C6 gd 0 58 m hml hmb (by omega) R6.lt R6.at0).mono ?_
        rintro e w7 ⟨g7, rfl, hg7, E7, -, B7⟩
        have G7 : Chg (fun _ => False) w w7 := B7.chgF G6 (by omega)
        have hg5s6 : g5 < w6.heap.size := cell_lt (HX6.out 0 (by omega))
        have HX7 : Hid (∀ i, i < 64 → w7.cell? ⟨g5, 0 + i, none⟩ = some (.int .u8 (X.getD i 0 : Nat))) := hyd (fun i hi => (B7.cell hg5s6 (by omega) _).trans (HX6.out i hi))
        obtain ⟨u1, u2, -⟩ := encL_cw hml hmb
        generalize encL m = P1 at *
        clear C6 M6 G6 B7 R6 HX6
        have q4 := eql_nil_nil
        have f2 : ((d : Nat) : Int) ≤ 2 := by omega
        go_wp2_with fail
        refine (rapart_any w7 g7 0 64 g5 0 k5 P1 X u1 hX u2 bX (fun i hi => E7.at0 i (by omega)) HX7.out).mono ?_
        rintro e w8 ⟨rfl, H8⟩
        have G8 := G7.trans H8
        rw [HD.out]
        clear G7 H8 E7
        go_wp2
        go_ret
        exact ⟨rfl, G8.below (fun k e => e.elim) (Nat.le_refl _)⟩
end Go.Proofs.Ytfihhamjlcnpnaa
