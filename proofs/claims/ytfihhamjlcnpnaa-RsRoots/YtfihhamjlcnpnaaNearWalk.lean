/-
  RsNear, walked: what Decode answers of any word is a codeword at the distance that it tells; what it refuses is near no codeword that is tried. Condition: the bytes came in as slices do.
-/
import Derived.Test.YtfihhamjlcnpnaaMsg
namespace Go.Proofs.Ytfihhamjlcnpnaa
open Go.RowKit
set_option maxRecDepth 100000

theorem wt_behind {f : Nat → Nat} {m : Nat} (h : ∀ i, i < m → f i = 0) (n : Nat) : wt f n ≤ n - m := by
  induction n with
  | zero => exact Nat.zero_le _
  | succ n ih =>
    simp only [wt]
    by_cases e : n < m
    · rw [if_pos (h n e)]; omega
    · split <;> omega
theorem cw_msg {a b : List Nat} (ha : Cw a) (hb : Cw b) (h : a.take 58 = b.take 58) : a = b := by
  apply cw_unique ha hb
  refine Nat.le_trans (wt_behind (m := 58) (fun i hi => ?_) 64) (by omega)
  rw [df_zero, ← getD_take a 58 i hi, ← getD_take b 58 i hi, h]
theorem dec_enc {x m : List Nat} {d : Nat} (h : IsDec x (some (m, d))) (hm : m.length = 58) (hb : Bys m) : ds (encL m) x = d := by
  rcases h with ⟨h, -⟩ | ⟨c, hc, he, -⟩
  · cases h
  · simp only [Option.some.injEq, Prod.mk.injEq] at he
    obtain ⟨h1, h2⟩ := he
    have : encL m = c := cw_msg (encL_cw hm hb) hc (by rw [encL_take hm, h1])
    rw [this, ds_comm, h2]
theorem dec_far {x c : List Nat} (h : IsDec x none) (hc : Cw c) : 2 < ds c x := by
  rcases h with ⟨-, h⟩ | ⟨c', -, he, -⟩
  · rw [ds_comm]; exact h c hc
  · cases he
theorem Arr.at0 {w : World} {g : Nat} {t : TypeId} {l : List Nat} (h : Arr w g t l) : ∀ i, i < l.length → w.cell? ⟨g, 0 + i, none⟩ = some (.int .u8 (l.getD i 0 : Nat)) := fun i hi => by
  rw [Nat.zero_add]; exact h.cell i hi
/-- A row of bytes that came in, as a list of numbers. -/
theorem row_in {w : World} {a : Option Addr} {len cap : Nat} {zs : List Int} (h : IsRow .u8 w a len cap zs) : ∃ l : List Nat, l.length = len ∧ len ≤ cap ∧ Bys l ∧ (a = none → len = 0 ∧ cap = 0) ∧ Held w (.slice a len cap) l := by
  obtain ⟨l, h1, h2, h3, h4⟩ := rd_of_row h
  refine ⟨l, h1, h2, (h4 w.heap.size (Nat.le_refl _)).1, h3, ?_⟩
  have := (h4 w.heap.size (Nat.le_refl _)).held cap
  rwa [h1] at this

set_option maxHeartbeats 8000000 in
theorem near_walk (a0 : Option Addr) (len0 cap0 : Nat) (z0 : List Int) (a1 : Option Addr) (len1 cap1 : Nat) (z1 : List Int) (w : World) (w0 : IsRow .u8 w a0 len0 cap0 z0) (w1 : IsRow .u8 w a1 len1 cap1 z1) (r0 : cap0 * 1 ≤ 140737488351232) (r1 : cap1 * 1 ≤ 140737488351232) :
    Calls Try.prog 7 #[.slice a0 len0 cap0, .slice a1 len1 cap1] w fun e w' => e = .returned (.bool true) ∧ Below w.heap.size w w' := by
  obtain ⟨l, hl0, hc0, bl, -, HL⟩ := row_in w0
  obtain ⟨l2, hl2, hc2, bl2, -, HL2⟩ := row_in w1
  have hln : l.length ≤ 9223372036854775807 := by omega
  have hln2 : l2.length ≤ 9223372036854775807 := by omega
  clear w0 w1 hc0 hc2 r0 r1
  subst hl0 hl2
  have HL := hyd HL
  have HL2 := hyd HL2
  have hmk := make64
  go_enter Try.func7, Try.ntmps7
  go_wp2_with fail
  refine (shown_any w).mono ?_
  rintro e w1 ⟨rfl, G1⟩
  go_wp2_with fail
  refine (codec_new w1).mono ?_
  rintro e w2 ⟨q, b, rfl, hq, hb, C2, G2⟩
  have G02 : Chg (fun _ => False) w w2 := G1.trans G2
  have hs1 := G1.size
  have hs2 := G02.size
  have hqs := C2.lt
  have hbs := C2.1.lt
  have hne := C2.ne
  clear G1 G2
  go_wp2_with fail
  go_loopw [8] (fun t wr => ∃ i : Nat, i ≤ 64 ∧ t = .int .i64 i ∧ Arr wr w2.heap.size 5 (padTo l 64 i) ∧ Cod wr q b ∧ Chg (fun _ => False) w wr) (fun t _ => 64 - (intOf t).toNat)
  case atStart => exact ⟨0, by omega, rfl, by rw [padTo_zero]; exact Arr.new w2 5 z64, C2.alloc _, G02.alloc _⟩
  case round =>
    clear C2 G02 hmk
    generalize w2.heap.size = g at *
    obtain ⟨i, hi, rfl, hA, hC, hG⟩ := hrel
    by_cases hlt : i < 64 ∧ i < l.length
    · obtain ⟨hlt, hlt2⟩ := hlt
      have hlt' : (i : Int) < 64 := by omega
      have hlt2' : (i : Int) < (l.length : Int) := by omega
      obtain ⟨c, o, rfl, hc⟩ : ∃ c o, a0 = some ⟨c, o, none⟩ ∧ wr.cell? ⟨c, o + i, none⟩ = some (.int .u8 (l.getD i 0 : Nat)) := by
        obtain ⟨a', c', hv, h | ⟨g, o, ha, hg, hc⟩⟩ := HL.out.chgF hG
        · omega
        · simp only [Value.slice.injEq] at hv
          exact ⟨g, o, hv.1.trans ha, hc i hlt2⟩
      have hkb : (0 : Int) ≤ (i : Int) := by omega
      have hf := hA.frozen i
      have hx := hA.cell i (by rw [padTo_length]; omega)
      have hd := bl.getD i
      have hA2 : Arr (wr.setCell ⟨g, i, none⟩ (.int .u8 (l.getD i 0 : Nat))) g 5 (padTo l 64 (i + 1)) := by
        rw [← padTo_set]; exact hA.store i _
      have HA2 := hyd hA2
      clear hA2
      generalize l.getD i 0 = xx at *
      go_wp2
      exact ⟨⟨i + 1, by omega, by go_num, HA2.out, hC.setNew (by omega) (by omega) _ _, hG.setCell (Or.inr (by omega)) _ _⟩, by simp [intOf]; omega⟩
    · have hA6 : Arr wr g 5 (padTo l 64 64) := by
        rw [← padTo_end l 64 i (by omega)]; exact hA
      have hxl : (padTo l 64 64).length = 64 := padTo_length _ _ _
      have hxb : Bys (padTo l 64 64) := padTo_bys bl 64 64
      have HX : Hid (padTo l 64 64 = padTo l 64 64) := hyd rfl
      clear hA HL
      generalize padTo l 64 64 = x at *
      have hi1 : ¬ (i : Int) < 64 ∨ ((i : Int) < 64 ∧ ¬ (i : Int) < (l.length : Int)) := by omega
      clear hlt
      rcases hi1 with hi1 | ⟨hi0, hi1⟩
      all_goals
        go_wp2_with fail
        refine (decode_any q b wr hC g 0 64 x hxl hxb (by omega) hA6.lt hA6.at0).mono ?_
        rintro e w3 ⟨hD, C3, B3⟩
        have hgs := hA6.lt
        have A3 : Arr w3 g 5 x := hA6.but B3 (by omega)
        have G3 : Chg (fun _ => False) w w3 := B3.chgF hG (by omega)
        clear hA6 hC hG B3
        rcases hD with ⟨hN, rfl⟩ | ⟨m, d, gd, hD, hd2, hml, hmb, rfl, hgd, R3⟩
        · have HN := hyd hN
          clear hN
          have q1 := eql_dec_nil
          have q2 := eql_dec_dec
          have q3 := eql_nil_nil
          go_wp2_with fail
          refine (message_any w3 a1 cap1 l2 bl2 hln2 (HL2.out.chgF G3)).mono ?_
          rintro e w4 ⟨gq, rfl, hgq, M4, H4⟩
          have A4 : Arr w4 g 5 x := A3.chg H4 (fun e => e)
          have C4 := C3.chg H4
          have G4 := G3.trans H4
          have hC3l := C3.1.lt
          clear A3 C3 G3 H4
          have hpl : (padTo l2 58 58).length = 58 := padTo_length _ _ _
          have hpb : Bys (padTo l2 58 58) := padTo_bys bl2 58 58
          generalize padTo l2 58 58 = p at *
          go_wp2_with fail
          refine (encode_any q b w4 C4 gq 0 58 p hpl hpb (by omega) M4.lt M4.at0).mono ?_
          rintro e w5 ⟨g5, rfl, hg5, E5, C5, B5⟩
          have hb4 := C4.1.lt
          have A5 : Arr w5 g 5 x := A4.but B5 (by omega)
          have G5 : Chg (fun _ => False) w w5 := B5.chgF G4 (by omega)
          clear A4 C4 G4 B5 M4
          have htl : (x.take 58).length = 58 := by rw [List.length_take, hxl]; rfl
          go_wp2_with fail
          refine (encode_any q b w5 C5 g 0 64 (x.take 58) htl (hxb.take 58) (by omega) A5.lt (fun i hi => by rw [Nat.zero_add, getD_take _ _ _ (by omega)]; exact A5.cell i (by omega))).mono ?_
          rintro e w6 ⟨g6, rfl, hg6, E6, -, B6⟩
          have hb5 := C5.1.lt
          have A6 : Arr w6 g 5 x := A5.but B6 (by omega)
          have E56 : Arr w6 g5 5 (encL p) := E5.but B6 (by omega)
          have G6 : Chg (fun _ => False) w w6 := B6.chgF G5 (by omega)
          clear A5 C5 G5 B6 E5
          have cw1 := encL_cw hpl hpb
          have cw2 := encL_cw htl (hxb.take 58)
          have f1 : (2 : Int) < (ds (encL p) x : Nat) := by have := dec_far HN.out cw1; omega
          have f2 : (2 : Int) < (ds (encL (x.take 58)) x : Nat) := by have := dec_far HN.out cw2; omega
          obtain ⟨v1, v2, -⟩ := cw1
          obtain ⟨u1, u2, -⟩ := cw2
          generalize encL p = P1 at *
          generalize encL (x.take 58) = P2 at *
          go_wp2_with fail
          refine (rapart_any w6 g5 0 64 g 0 64 P1 x v1 hxl v2 hxb (fun i hi => E56.at0 i (by omega)) (fun i hi => A6.at0 i (by omega))).mono ?_
          rintro e w7 ⟨rfl, H7⟩
          have A7 : Arr w7 g 5 x := A6.chg H7 (fun e => e)
          have E7 : Arr w7 g6 5 P2 := E6.chg H7 (fun e => e)
          have G7 := G6.trans H7
          clear A6 E56 E6 G6 H7
          go_wp2_with fail
          refine (rapart_any w7 g6 0 64 g 0 64 P2 x u1 hxl u2 hxb (fun i hi => E7.at0 i (by omega)) (fun i hi => A7.at0 i (by omega))).mono ?_
          rintro e w8 ⟨rfl, H8⟩
          have G8 := G7.trans H8
          clear A7 E7 G7 H8
          go_wp2
          go_ret
          exact ⟨rfl, G8.below (fun k e => e.elim) (Nat.le_refl _)⟩
        · have q3 := eql_nil_nil
          have HD := hyd (dec_enc hD hml hmb)
          clear hD
          go_wp2_with fail
          refine (encode_any q b w3 C3 gd 0 58 m hml hmb (by omega) R3.lt R3.at0).mono ?_
          rintro e w5 ⟨g5, rfl, hg5, E5, -, B5⟩
          have hb4 := C3.1.lt
          have A5 : Arr w5 g 5 x := A3.but B5 (by omega)
          have G5 : Chg (fun _ => False) w w5 := B5.chgF G3 (by omega)
          clear A3 C3 G3 B5 R3
          obtain ⟨v1, v2, -⟩ := encL_cw hml hmb
          generalize encL m = P1 at *
          have f1 : (0 : Int) ≤ (d : Nat) := by omega
          have f2 : ((d : Nat) : Int) ≤ 2 := by omega
          go_wp2_with fail
          refine (rapart_any w5 g5 0 64 g 0 64 P1 x v1 hxl v2 hxb (fun i hi => E5.at0 i (by omega)) (fun i hi => A5.at0 i (by omega))).mono ?_
          rintro e w7 ⟨rfl, H7⟩
          have G7 := G5.trans H7
          rw [HD.out]
          clear A5 E5 G5 H7
          go_wp2
          go_ret
          exact ⟨rfl, G7.below (fun k e => e.elim) (Nat.le_refl _)⟩
end Go.Proofs.Ytfihhamjlcnpnaa
