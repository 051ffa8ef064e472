/-
  RsEncodes, walked: whatever the bytes, Encode answers as the document says, leaves what it was lent as it was, and what it answers is its owner's. Condition: the bytes came in as a slice does.
-/
import Derived.Test.YtfihhamjlcnpnaaRefEnc
import Derived.Test.YtfihhamjlcnpnaaApartWalk
import Derived.Test.YtfihhamjlcnpnaaLent
namespace Go.Proofs.Ytfihhamjlcnpnaa
open Go.RowKit
set_option maxRecDepth 100000

theorem apart2 (w : World) (base u v n1 n2 : Nat) (l1 l2 : List Nat) (hn1 : n1 = l1.length) (hn2 : n2 = l2.length) (hu : Arr w u 5 l1) (hv : Arr w v 5 l2) (huv : u ≠ v) (hbu : base ≤ u) (hbv : base ≤ v) (h1 : l1.length ≤ 1000) (h2 : l2.length ≤ 1000) :
    Calls Try.prog 18 #[.slice (some ⟨w.heap.size, 0, none⟩) 2 2] (w.alloc (.cells #[.slice (some ⟨u, 0, none⟩) n1 n1, .slice (some ⟨v, 0, none⟩) n2 n2] 22)) fun e w' =>
      e = .returned (.bool true) ∧ Chg (fun k => k = u ∨ k = v) (w.alloc (.cells #[.slice (some ⟨u, 0, none⟩) n1 n1, .slice (some ⟨v, 0, none⟩) n2 n2] 22)) w' := by
  subst hn1 hn2
  have hus := hu.lt
  have hvs := hv.lt
  have hm : (1000 : Nat) ≤ maxLen := by decide
  have O1 : Own w base 5 (.slice (some ⟨u, 0, none⟩) l1.length l1.length) l1 := Own.of_bat hu hbu (by omega)
  have O2 : Own w base 5 (.slice (some ⟨v, 0, none⟩) l2.length l2.length) l2 := Own.of_bat hv hbv (by omega)
  have e : ∀ i, i < 2 → (Value.slice (if i = 0 then some ⟨u, 0, none⟩ else some ⟨v, 0, none⟩) (if i = 0 then l1 else l2).length (if i = 0 then l1.length else l2.length)) = (if i = 0 then .slice (some ⟨u, 0, none⟩) l1.length l1.length else .slice (some ⟨v, 0, none⟩) l2.length l2.length) := by
    intro i hi
    by_cases h0 : i = 0
    · rw [if_pos h0, if_pos h0, if_pos h0, if_pos h0]
    · rw [if_neg h0, if_neg h0, if_neg h0, if_neg h0]
  have h := apart_any (w.alloc (.cells #[.slice (some ⟨u, 0, none⟩) l1.length l1.length, .slice (some ⟨v, 0, none⟩) l2.length l2.length] 22)) w.heap.size 0 2 2 base (fun i => if i = 0 then some ⟨u, 0, none⟩ else some ⟨v, 0, none⟩) (fun i => if i = 0 then l1.length else l2.length) (fun i => if i = 0 then l1 else l2) (by decide)
    (by simp; omega) (by simp) (fun i hi => ?_) ⟨fun i hi => ?_, fun i j k hi hj hij h1 h2 => ?_⟩ (fun i hi => ?_) (fun i hi h1 => ?_)
  · refine h.mono ?_
    rintro e' w' ⟨h1, h2⟩
    refine ⟨h1, h2.mono (fun k _ hk => ?_)⟩
    obtain ⟨j, hj, hk⟩ := hk
    (try dsimp only at hk)
    rw [e j hj] at hk
    by_cases h0 : j = 0
    · rw [if_pos h0] at hk; exact Or.inl (Option.some.inj hk).symm
    · rw [if_neg h0] at hk; exact Or.inr (Option.some.inj hk).symm
  · (try dsimp only)
    rw [e i hi]
    rcases (by omega : i = 0 ∨ i = 1) with h0 | h0 <;> subst h0 <;> simp
  · (try dsimp only)
    rw [e i hi]
    by_cases h0 : i = 0
    · rw [if_pos h0, if_pos h0]
      exact O1.keep (fun k hk _ => Below.heap_alloc _ _ _ hk)
    · rw [if_neg h0, if_neg h0]
      exact O2.keep (fun k hk _ => Below.heap_alloc _ _ _ hk)
  · (try dsimp only at h1 h2)
    rw [e i hi] at h1
    rw [e j hj] at h2
    by_cases h0 : i = 0
    · rw [if_pos h0] at h1
      rw [if_neg (by omega)] at h2
      have e1 : u = k := Option.some.inj h1
      have e2 : v = k := Option.some.inj h2
      omega
    · rw [if_neg h0] at h1
      rw [if_pos (by omega)] at h2
      have e1 : v = k := Option.some.inj h1
      have e2 : u = k := Option.some.inj h2
      omega
  · (try dsimp only)
    by_cases h0 : i = 0
    · rw [if_pos h0]; omega
    · rw [if_neg h0]; omega
  · (try dsimp only at h1)
    rw [e i hi] at h1
    by_cases h0 : i = 0
    · rw [if_pos h0] at h1
      have e1 : u = w.heap.size := Option.some.inj h1
      omega
    · rw [if_neg h0] at h1
      have e1 : v = w.heap.size := Option.some.inj h1
      omega
theorem take_mrk (l : List Nat) : (l ++ mrk 5).take l.length = l := by
  rw [List.take_append_of_le_length (Nat.le_refl _), List.take_of_length_le (Nat.le_refl _)]
theorem mrk_len' (l : List Nat) : (l ++ mrk 5).length = l.length + 5 := by rw [List.length_append, mrk_length]
theorem held_cells {w : World} {f o n cap : Nat} {l : List Nat} (h : Held w (.slice (some ⟨f, o, none⟩) n cap) l) (h0 : l.length ≠ 0) : f < w.heap.size ∧ ∀ i, i < l.length → w.cell? ⟨f, o + i, none⟩ = some (.int .u8 (l.getD i 0 : Nat)) := by
  obtain ⟨a', c', hv, h | ⟨g', o', ha, hg', hc⟩⟩ := h
  · omega
  · simp only [Value.slice.injEq] at hv
    have e := hv.1.trans ha
    simp only [Option.some.injEq, Addr.mk.injEq] at e
    obtain ⟨rfl, rfl, -⟩ := e
    exact ⟨hg', hc⟩
theorem encode_held (q b : Nat) (w : World) (h : Cod w q b) (c o n cap : Nat) (l : List Nat) (hn : n = 58) (hl : l.length = 58) (hb : Bys l) (hcb : c ≠ b) (hh : Held w (.slice (some ⟨c, o, none⟩) n cap) l) :
    Calls Try.prog 12 #[.pointer (some ⟨q, 0, none⟩), .slice (some ⟨c, o, none⟩) n cap] w fun e w' => ∃ g, e = .returned (.tuple #[.slice (some ⟨g, 0, none⟩) 64 64, .nilIface]) ∧ w.heap.size ≤ g ∧ Arr w' g 5 (encL l) ∧ Cod w' q b ∧ But b w w' := by
  subst hn
  obtain ⟨h1, h2⟩ := held_cells hh (by omega)
  exact encode_any q b w h c o cap l hl hb hcb h1 h2
theorem rencode_held (w : World) (a : Option Addr) (n cap : Nat) (l : List Nat) (hn : n = 58) (hl : l.length = 58) (hb : Bys l) (hh : Held w (.slice a n cap) l) :
    Calls Try.prog 16 #[.slice a n cap] w fun e w' => ∃ v, e = .returned v ∧ Own w' w.heap.size 5 v (encL l) ∧ Chg (fun _ => False) w w' := by
  subst hn
  obtain ⟨a', c', hv, h | ⟨g', o', ha, hg', hc⟩⟩ := hh
  · omega
  · simp only [Value.slice.injEq] at hv
    obtain ⟨rfl, -, rfl⟩ := hv
    subst ha
    exact rencode_any w g' o' cap l hl hb hc

set_option maxHeartbeats 8000000 in
theorem enc_walk (a0 : Option Addr) (len0 cap0 : Nat) (z0 : List Int) (w : World) (w0 : IsRow .u8 w a0 len0 cap0 z0) (r0 : cap0 * 1 ≤ 140737488351232) :
    Calls Try.prog 3 #[.slice a0 len0 cap0] w fun e w' => e = .returned (.bool true) ∧ Below w.heap.size w w' := by
  obtain ⟨l, hl0, hc0, bl, hno, HL⟩ := row_in w0
  have hln : l.length ≤ 140737488351232 := by omega
  clear w0 hc0 r0
  subst hl0
  have HL := hyd HL
  have HNO := hyd hno
  clear hno
  go_enter Try.func3, Try.ntmps3
  go_wp2_with fail
  refine (shown_any w).mono ?_
  rintro e w1 ⟨rfl, G1⟩
  go_wp2_with fail
  refine (codec_new w1).mono ?_
  rintro e w2 ⟨q, b, rfl, hq, hb, C2, G2⟩
  have G02 : Chg (fun _ => False) w w2 := G1.trans G2
  have hs1 := G1.size
  have hs2 := G02.size
  have hqs := C2.lt
  have hbs := C2.1.lt
  have hne := C2.ne
  clear G1 G2
  go_wp2_with fail
  refine (lend_any w2 a0 l cap0 HNO.out (HL.out.chgF G02) hln).mono ?_
  rintro e w3 ⟨s, f, g, rfl, L3, H3⟩
  have C3 := C2.chg H3
  have G3 := G02.trans H3
  obtain ⟨t1, t2, t3, t4, t5, t6⟩ := L3.lts
  have hml := mrk_len' l
  clear C2 G02 H3
  go_wp2_with fail
  refine (bytes_any w3 _ s f g l.length (l ++ mrk 5) (l ++ mrk 5) L3 (by omega) (by omega) (by omega)).mono ?_
  rintro e w4 ⟨cf, rfl, B3, hcf, H4⟩
  rw [take_mrk] at B3
  have B4 := B3.chgF H4
  have C4 := C3.chg H4
  have G4 := G3.trans H4
  have L4 := L3.chg H4 (fun e => e) (fun e => e) (fun e => e)
  have hs4 := H4.size
  clear B3 C3 G3 L3 H4
  by_cases h58 : l.length = 58
  · have hcall := encode_held q b w4 C4 f 0 l.length cf l h58 h58 bl (by omega) B4
    have hne58 : ((l.length : Int) != 58) = false := by rw [h58]; rfl
    have H58 := hyd h58
    clear h58
    go_wp2_with fail
    refine hcall.mono ?_
    rintro e w5 ⟨g5, rfl, hg5, E5, C5, B5⟩
    have L5 := L4.chg B5.chg (by omega) (by omega) (by omega)
    have G5 : Chg (fun _ => False) w w5 := B5.chgF G4 (by omega)
    clear hcall B4 C4 G4 L4 B5
    go_wp2_with fail
    refine (bytes_any w5 _ s f g l.length (l ++ mrk 5) (l ++ mrk 5) L5 (by omega) (by omega) (by omega)).mono ?_
    rintro e w6 ⟨cf2, rfl, B5, hcf2, H6⟩
    rw [take_mrk] at B5
    have hs6 := H6.size
    have hE5 := E5.lt
    have hC5b := C5.1.lt
    have hcall := encode_held q b w6 (C5.chg H6) f 0 l.length cf2 l H58.out H58.out bl (by omega) (B5.chgF H6)
    have E6 : Arr w6 g5 5 (encL l) := E5.chg H6 (fun e => e)
    have G6 := G5.trans H6
    have L6 := L5.chg H6 (fun e => e) (fun e => e) (fun e => e)
    clear E5 C5 L5 G5 B5 H6
    go_wp2_with fail
    refine hcall.mono ?_
    rintro e w7 ⟨g7, rfl, hg7, E7, -, B7⟩
    have E57 : Arr w7 g5 5 (encL l) := E6.but B7 (by omega)
    have L7' := L6.chg B7.chg (by omega) (by omega) (by omega)
    have G7 : Chg (fun _ => False) w w7 := B7.chgF G6 (by omega)
    clear hcall E6 L6 G6 B7
    go_wp2_with fail
    refine (kept_any w7 _ s f g l.length (l ++ mrk 5) (l ++ mrk 5) L7' (by omega) (by omega)).mono ?_
    rintro e w8 ⟨rfl, H8⟩
    have E58 : Arr w8 g5 5 (encL l) := E57.chg H8 (fun e => e)
    have E78 : Arr w8 g7 5 (encL l) := E7.chg H8 (fun e => e)
    have L8 := L7'.chg H8 (fun e => e) (fun e => e) (fun e => e)
    have G8 := G7.trans H8
    have hdd : decide (l ++ mrk 5 = l ++ mrk 5) = true := by simp
    clear E57 E7 L7' G7 H8
    go_wp2_with fail
    refine (turn_any w8 _ s f g l.length (l ++ mrk 5) (l ++ mrk 5) L8 rfl (by omega)).mono ?_
    rintro e w9 ⟨rfl, L9, H9⟩
    have E59 : Arr w9 g5 5 (encL l) := E58.chg H9 (by omega)
    have E79 : Arr w9 g7 5 (encL l) := E78.chg H9 (by omega)
    have G9 : Chg (fun _ => False) w w9 := G8.trans' H9 (fun i hi e => by omega)
    clear E58 E78 L8 G8 H9
    have hcall := rencode_held w9 a0 l.length cap0 l H58.out H58.out bl (HL.out.chgF G9)
    go_wp2_with fail
    refine hcall.mono ?_
    rintro e w10 ⟨v, rfl, O10, H10⟩
    obtain ⟨hel, heb, -⟩ := encL_cw H58.out bl
    obtain ⟨a4, c4, hv⟩ : ∃ a4 c4, v = .slice a4 64 c4 := by
      obtain ⟨a4, c4, hv, -⟩ := O10.held
      exact ⟨a4, c4, by rw [hv, hel]⟩
    subst hv
    have W10 := O10.held
    have E510 : Arr w10 g5 5 (encL l) := E59.chg H10 (fun e => e)
    have E710 : Arr w10 g7 5 (encL l) := E79.chg H10 (fun e => e)
    have L10 := L9.chg H10 (fun e => e) (fun e => e) (fun e => e)
    have G10 := G9.trans H10
    clear hcall E59 E79 L9 G9 H10 O10
    generalize encL l = P at *
    go_wp2_with fail
    refine (same_n w10 _ a4 64 64 64 c4 P P hel.symm hel.symm (E510.held 0 64 64 P hel.symm (by omega) (fun i _ => by rw [Nat.zero_add])) W10 (by omega) (by omega)).mono ?_
    rintro e w11 ⟨rfl, H11⟩
    have hPP : decide (P = P) = true := by simp
    have W11 := W10.chgF H11
    have E511 : Arr w11 g5 5 P := E510.chg H11 (fun e => e)
    have E711 : Arr w11 g7 5 P := E710.chg H11 (fun e => e)
    have L11 := L10.chg H11 (fun e => e) (fun e => e) (fun e => e)
    have G11 := G10.trans H11
    clear W10 E510 E710 L10 G10 H11
    go_wp2_with fail
    refine (same_n w11 _ a4 64 64 64 c4 P P hel.symm hel.symm (E711.held 0 64 64 P hel.symm (by omega) (fun i _ => by rw [Nat.zero_add])) W11 (by omega) (by omega)).mono ?_
    rintro e w12 ⟨rfl, H12⟩
    have E512 : Arr w12 g5 5 P := E511.chg H12 (fun e => e)
    have E712 : Arr w12 g7 5 P := E711.chg H12 (fun e => e)
    have L12 := L11.chg H12 (fun e => e) (fun e => e) (fun e => e)
    have G12 := G11.trans H12
    clear W11 E511 E711 L11 G11 H12
    go_wp2_with fail
    refine (apart2 w12 0 g5 g7 64 64 P P hel.symm hel.symm E512 E712 (by omega) (by omega) (by omega) (by omega) (by omega)).mono ?_
    rintro e w13 ⟨rfl, H13⟩
    have L13 := (L12.chg ((Chg.refl (fun _ => False) w12).alloc _) (fun e => e) (fun e => e) (fun e => e)).chg H13 (by omega) (by omega) (by omega)
    have G13 : Chg (fun _ => False) w w13 := (G12.alloc _).trans' H13 (fun i hi e => by omega)
    clear E512 E712 L12 G12 H13
    go_wp2_with fail
    refine (kept_any w13 _ s f g l.length _ _ L13 (by rw [trn_length]; omega) (by rw [trn_length]; omega)).mono ?_
    rintro e w14 ⟨rfl, H14⟩
    have G14 := G13.trans H14
    have hdd2 : decide (trn (l ++ mrk 5).length = trn (l ++ mrk 5).length) = true := by simp
    have q3 := eql_nil_nil
    clear L13 G13 H14
    go_wp2
    go_ret
    exact ⟨rfl, G14.below (fun k e => e.elim) (Nat.le_refl _)⟩
  · have hne58 : ((l.length : Int) != 58) = true := by simp; omega
    have hne59 : ¬ ((l.length : Int) = 58) := by omega
    go_wp2_with fail
    refine (encode_arg q w4 _ l.length cf h58).mono ?_
    rintro e w5 ⟨rfl, rfl⟩
    go_wp2_with fail
    refine (bytes_any w5 _ s f g l.length (l ++ mrk 5) (l ++ mrk 5) L4 (by omega) (by omega) (by omega)).mono ?_
    rintro e w6 ⟨cf2, rfl, -, hcf2, H6⟩
    have L6 := L4.chg H6 (fun e => e) (fun e => e) (fun e => e)
    have G6 := G4.trans H6
    clear L4 G4 H6 B4 C4
    go_wp2_with fail
    refine (encode_arg q w6 _ l.length cf2 h58).mono ?_
    rintro e w7 ⟨rfl, rfl⟩
    go_wp2_with fail
    refine (kept_any w7 _ s f g l.length (l ++ mrk 5) (l ++ mrk 5) L6 (by omega) (by omega)).mono ?_
    rintro e w8 ⟨rfl, H8⟩
    have G8 := G6.trans H8
    have hdd : decide (l ++ mrk 5 = l ++ mrk 5) = true := by simp
    have q1 := eql_arg_arg
    clear L6 G6 H8
    go_wp2
    go_ret
    exact ⟨rfl, G8.below (fun k e => e.elim) (Nat.le_refl _)⟩
end Go.Proofs.Ytfihhamjlcnpnaa
