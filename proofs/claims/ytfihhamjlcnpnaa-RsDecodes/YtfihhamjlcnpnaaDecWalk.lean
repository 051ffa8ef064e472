/-
  RsDecodes, walked: whatever the bytes, Decode answers as the document says, leaves what it was lent as it was, and what it answers is its owner's. Condition: the bytes came in as a slice does.
-/
import Derived.Test.YtfihhamjlcnpnaaRefDec
namespace Go.Proofs.Ytfihhamjlcnpnaa
open Go.RowKit
set_option maxRecDepth 100000

theorem decode_held (q b : Nat) (w : World) (h : Cod w q b) (c o n cap : Nat) (l : List Nat) (hn : n = 64) (hl : l.length = 64) (hb : Bys l) (hcb : c ≠ b) (hh : Held w (.slice (some ⟨c, o, none⟩) n cap) l) :
    Calls Try.prog 21 #[.pointer (some ⟨q, 0, none⟩), .slice (some ⟨c, o, none⟩) n cap] w fun e w' => DecAns w w' l e ∧ Cod w' q b ∧ But b w w' := by
  subst hn
  obtain ⟨h1, h2⟩ := held_cells hh (by omega)
  exact decode_any q b w h c o cap l hl hb hcb h1 h2
theorem rdecode_held (w : World) (a : Option Addr) (n cap : Nat) (l : List Nat) (hn : n = 64) (hl : l.length = 64) (hb : Bys l) (hh : Held w (.slice a n cap) l) :
    Calls Try.prog 22 #[.slice a n cap] w fun e w' => RDec w w' l e ∧ Chg (fun _ => False) w w' := by
  subst hn
  obtain ⟨a', c', hv, h | ⟨g', o', ha, hg', hc⟩⟩ := hh
  · omega
  · simp only [Value.slice.injEq] at hv
    obtain ⟨rfl, -, rfl⟩ := hv
    subst ha
    exact rdecode_any w g' o' cap l hl hb hc

set_option maxHeartbeats 8000000 in
theorem dec_walk (a0 : Option Addr) (len0 cap0 : Nat) (z0 : List Int) (w : World) (w0 : IsRow .u8 w a0 len0 cap0 z0) (r0 : cap0 * 1 ≤ 140737488351232) :
    Calls Try.prog 5 #[.slice a0 len0 cap0] w fun e w' => e = .returned (.bool true) ∧ Below w.heap.size w w' := by
  obtain ⟨l, hl0, hc0, bl, hno, HL⟩ := row_in w0
  have hln : l.length ≤ 140737488351232 := by omega
  clear w0 hc0 r0
  subst hl0
  have HL := hyd HL
  have HNO := hyd hno
  clear hno
  go_enter Try.func5, Try.ntmps5
  go_wp2_with fail
  refine (shown_any w).mono ?_
  rintro e w1 ⟨rfl, G1⟩
  go_wp2_with fail
  refine (codec_new w1).mono ?_
  rintro e w2 ⟨q, b, rfl, hq, hb, C2, G2⟩
  have G02 : Chg (fun _ => False) w w2 := G1.trans G2
  have hs1 := G1.size
  have hs2 := G02.size
  have hqs := C2.lt
  have hbs := C2.1.lt
  have hne := C2.ne
  clear G1 G2
  go_wp2_with fail
  refine (lend_any w2 a0 l cap0 HNO.out (HL.out.chgF G02) hln).mono ?_
  rintro e w3 ⟨s, f, g, rfl, L3, H3⟩
  have C3 := C2.chg H3
  have G3 := G02.trans H3
  obtain ⟨t1, t2, t3, t4, t5, t6⟩ := L3.lts
  have hml := mrk_len' l
  clear C2 G02 H3
  go_wp2_with fail
  refine (bytes_any w3 _ s f g l.length (l ++ mrk 5) (l ++ mrk 5) L3 (by omega) (by omega) (by omega)).mono ?_
  rintro e w4 ⟨cf, rfl, B3, hcf, H4⟩
  rw [take_mrk] at B3
  have B4 := B3.chgF H4
  have C4 := C3.chg H4
  have G4 := G3.trans H4
  have L4 := L3.chg H4 (fun e => e) (fun e => e) (fun e => e)
  have hs4 := H4.size
  clear B3 C3 G3 L3 H4
  by_cases h64 : l.length = 64
  · have hcall := decode_held q b w4 C4 f 0 l.length cf l h64 h64 bl (by omega) B4
    have hne64 : ((l.length : Int) != 64) = false := by rw [h64]; rfl
    have H64 := hyd h64
    clear h64
    go_wp2_with fail
    refine hcall.mono ?_
    rintro e w5 ⟨hD5, C5, B5⟩
    have L5 := L4.chg B5.chg (by omega) (by omega) (by omega)
    have G5 : Chg (fun _ => False) w w5 := B5.chgF G4 (by omega)
    have hs5 := B5.size
    clear hcall B4 C4 G4 L4 B5
    rcases hD5 with ⟨hN, rfl⟩ | ⟨m, d, g5, hD, hd2, hm58, hmb, rfl, hg5, E5⟩
    · have HN := hyd hN
      clear hN
      go_wp2_with fail
      refine (bytes_any w5 _ s f g l.length (l ++ mrk 5) (l ++ mrk 5) L5 (by omega) (by omega) (by omega)).mono ?_
      rintro e w6 ⟨cf2, rfl, B5, hcf2, H6⟩
      rw [take_mrk] at B5
      have hcall := decode_held q b w6 (C5.chg H6) f 0 l.length cf2 l H64.out H64.out bl (by omega) (B5.chgF H6)
      have G6 := G5.trans H6
      have L6 := L5.chg H6 (fun e => e) (fun e => e) (fun e => e)
      clear C5 L5 G5 B5 H6
      go_wp2_with fail
      refine hcall.mono ?_
      rintro e w7 ⟨hD7, -, B7⟩
      have L7' := L6.chg B7.chg (by omega) (by omega) (by omega)
      have G7 : Chg (fun _ => False) w w7 := B7.chgF G6 (by omega)
      clear hcall L6 G6 B7
      rcases hD7 with ⟨-, rfl⟩ | ⟨m, d, g7, hD, -⟩
      · go_wp2_with fail
        refine (kept_any w7 _ s f g l.length (l ++ mrk 5) (l ++ mrk 5) L7' (by omega) (by omega)).mono ?_
        rintro e w8 ⟨rfl, H8⟩
        have G8 := G7.trans H8
        have hdd : decide (l ++ mrk 5 = l ++ mrk 5) = true := by simp
        clear L7' G7 H8
        have hcall := rdecode_held w8 a0 l.length cap0 l H64.out H64.out bl (HL.out.chgF G8)
        go_wp2_with fail
        refine hcall.mono ?_
        rintro e w9 ⟨hR, H9⟩
        have G9 := G8.trans H9
        clear hcall G8 H9
        rcases hR with ⟨-, rfl⟩ | ⟨m, d, r, cr, hD, -⟩
        · have q2 := eql_dec_dec
          go_wp2
          go_ret
          exact ⟨rfl, G9.below (fun k e => e.elim) (Nat.le_refl _)⟩
        · have := HN.out.unique hD; cases this
      · have := HN.out.unique hD; cases this
    · have HD := hyd hD
      clear hD
      go_wp2_with fail
      refine (bytes_any w5 _ s f g l.length (l ++ mrk 5) (l ++ mrk 5) L5 (by omega) (by omega) (by omega)).mono ?_
      rintro e w6 ⟨cf2, rfl, B5, hcf2, H6⟩
      rw [take_mrk] at B5
      have hs6 := H6.size
      have hE5 := E5.lt
      have hcall := decode_held q b w6 (C5.chg H6) f 0 l.length cf2 l H64.out H64.out bl (by omega) (B5.chgF H6)
      have E6 : Arr w6 g5 5 m := E5.chg H6 (fun e => e)
      have G6 := G5.trans H6
      have L6 := L5.chg H6 (fun e => e) (fun e => e) (fun e => e)
      clear E5 C5 L5 G5 B5 H6
      go_wp2_with fail
      refine hcall.mono ?_
      rintro e w7 ⟨hD7, -, B7⟩
      have E57 : Arr w7 g5 5 m := E6.but B7 (by omega)
      have L7' := L6.chg B7.chg (by omega) (by omega) (by omega)
      have G7 : Chg (fun _ => False) w w7 := B7.chgF G6 (by omega)
      clear hcall E6 L6 G6 B7
      rcases hD7 with ⟨hN, -⟩ | ⟨m', d', g7, hD', -, -, -, rfl, hg7, E7⟩
      · have := HD.out.unique hN; cases this
      · have hu := HD.out.unique hD'
        simp only [Option.some.injEq, Prod.mk.injEq] at hu
        obtain ⟨rfl, rfl⟩ := hu
        clear hD'
        go_wp2_with fail
        refine (kept_any w7 _ s f g l.length (l ++ mrk 5) (l ++ mrk 5) L7' (by omega) (by omega)).mono ?_
        rintro e w8 ⟨rfl, H8⟩
        have E58 : Arr w8 g5 5 m := E57.chg H8 (fun e => e)
        have E78 : Arr w8 g7 5 m := E7.chg H8 (fun e => e)
        have L8 := L7'.chg H8 (fun e => e) (fun e => e) (fun e => e)
        have G8 := G7.trans H8
        have hdd : decide (l ++ mrk 5 = l ++ mrk 5) = true := by simp
        clear E57 E7 L7' G7 H8
        have hcall := rdecode_held w8 a0 l.length cap0 l H64.out H64.out bl (HL.out.chgF G8)
        go_wp2_with fail
        refine hcall.mono ?_
        rintro e w9 ⟨hR, H9⟩
        have E59 : Arr w9 g5 5 m := E58.chg H9 (fun e => e)
        have E79 : Arr w9 g7 5 m := E78.chg H9 (fun e => e)
        have L9 := L8.chg H9 (fun e => e) (fun e => e) (fun e => e)
        have G9 := G8.trans H9
        have hE5b := E58.lt
        have hE7b := E78.lt
        have hL8 := L8.lts
        clear hcall E58 E78 L8 G8
        rcases hR with ⟨hN, -⟩ | ⟨m', d', r, cr, hD', -, -, rfl, hr9, W9⟩
        · have := HD.out.unique hN; cases this
        · have hu := HD.out.unique hD'
          simp only [Option.some.injEq, Prod.mk.injEq] at hu
          obtain ⟨rfl, rfl⟩ := hu
          clear hD' H9
          go_wp2_with fail
          refine (turn_any w9 _ s f g l.length (l ++ mrk 5) (l ++ mrk 5) L9 rfl (by omega)).mono ?_
          rintro e w10 ⟨rfl, L10, H10⟩
          have E510 : Arr w10 g5 5 m := E59.chg H10 (by omega)
          have E710 : Arr w10 g7 5 m := E79.chg H10 (by omega)
          have W10 : Held w10 (.slice (some ⟨r, 0, none⟩) 58 cr) m := W9.chg H10 (fun k hk e => by have e1 : r = k := Option.some.inj e; omega)
          have G10 : Chg (fun _ => False) w w10 := G9.trans' H10 (fun i hi e => by omega)
          clear E59 E79 W9 G9 H10 L9
          go_wp2_with fail
          refine (same_n w10 _ _ 58 58 58 cr m m hm58.symm hm58.symm (E510.held 0 58 58 m hm58.symm (by omega) (fun i _ => by rw [Nat.zero_add])) W10 (by omega) (by omega)).mono ?_
          rintro e w11 ⟨rfl, H11⟩
          have hPP : decide (m = m) = true := by simp
          have W11 := W10.chgF H11
          have E511 : Arr w11 g5 5 m := E510.chg H11 (fun e => e)
          have E711 : Arr w11 g7 5 m := E710.chg H11 (fun e => e)
          have G11 := G10.trans H11
          clear W10 E510 E710 G10 H11
          go_wp2_with fail
          refine (same_n w11 _ _ 58 58 58 cr m m hm58.symm hm58.symm (E711.held 0 58 58 m hm58.symm (by omega) (fun i _ => by rw [Nat.zero_add])) W11 (by omega) (by omega)).mono ?_
          rintro e w12 ⟨rfl, H12⟩
          have E512 : Arr w12 g5 5 m := E511.chg H12 (fun e => e)
          have E712 : Arr w12 g7 5 m := E711.chg H12 (fun e => e)
          have G12 := G11.trans H12
          clear W11 E511 E711 G11 H12
          go_wp2_with fail
          refine (apart2 w12 0 g5 g7 58 58 m m hm58.symm hm58.symm E512 E712 (by omega) (by omega) (by omega) (by omega) (by omega)).mono ?_
          rintro e w13 ⟨rfl, H13⟩
          have G13 : Chg (fun _ => False) w w13 := (G12.alloc _).trans' H13 (fun i hi e => by omega)
          have q3 := eql_nil_nil
          clear E512 E712 G12 H13
          go_wp2
          go_ret
          exact ⟨rfl, G13.below (fun k e => e.elim) (Nat.le_refl _)⟩
  · have hne64 : ((l.length : Int) != 64) = true := by simp; omega
    have hne65 : ¬ ((l.length : Int) = 64) := by omega
    go_wp2_with fail
    refine (decode_arg q w4 _ l.length cf h64).mono ?_
    rintro e w5 ⟨rfl, rfl⟩
    go_wp2_with fail
    refine (bytes_any w5 _ s f g l.length (l ++ mrk 5) (l ++ mrk 5) L4 (by omega) (by omega) (by omega)).mono ?_
    rintro e w6 ⟨cf2, rfl, -, hcf2, H6⟩
    have L6 := L4.chg H6 (fun e => e) (fun e => e) (fun e => e)
    have G6 := G4.trans H6
    clear L4 G4 H6 B4 C4
    go_wp2_with fail
    refine (decode_arg q w6 _ l.length cf2 h64).mono ?_
    rintro e w7 ⟨rfl, rfl⟩
    go_wp2_with fail
    refine (kept_any w7 _ s f g l.length (l ++ mrk 5) (l ++ mrk 5) L6 (by omega) (by omega)).mono ?_
    rintro e w8 ⟨rfl, H8⟩
    have G8 := G6.trans H8
    have hdd : decide (l ++ mrk 5 = l ++ mrk 5) = true := by simp
    have q1 := eql_arg_arg
    clear L6 G6 H8
    go_wp2
    go_ret
    exact ⟨rfl, G8.below (fun k e => e.elim) (Nat.le_refl _)⟩
end Go.Proofs.Ytfihhamjlcnpnaa
