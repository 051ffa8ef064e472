/-
  What the document's search finds is what the word is read as. No condition: plain mathematics. The document's answer for a word that is read: patinaref02.Decode. Condition: the word's bytes can be read. RsDecodes, walked: whatever the bytes, Decode answers as the document says, leaves what it was lent as it was, and what it answers is its owner's. Condition: the bytes came in as a slice does.
-/
import Derived.Test.YtifjmilegogbaaaGreatURefEnc
import Derived.Test.YtifjmilegogbaaaGreatUSearch
namespace Go.Proofs.YtifjmilegogbaaaGreat

theorem addAt_none (l : List Nat) (i : Nat) : addAt l i 0 = l := by
  unfold addAt
  rw [Nat.xor_zero]
  apply List.ext_getElem?
  intro k
  by_cases h : i = k
  · subst h
    by_cases hi : i < l.length
    · rw [List.getElem?_set_self hi, List.getD_eq_getElem?_getD, List.getElem?_eq_getElem hi]; rfl
    · rw [List.getElem?_eq_none (by simp; omega), List.getElem?_eq_none (by omega)]
  · rw [List.getElem?_set_ne h]
theorem ft_e2 {l : List Nat} {i k a b : Nat} : Ft (syL l 6) (63 - i) (63 - k) a b 6 ↔ E2 (sy l) i k a b := by
  constructor
  · intro h j hj
    have := h j hj
    rw [syL_getD l j hj] at this
    exact this
  · intro h j hj
    rw [syL_getD l j hj]
    exact h j hj
theorem ft_e1 {l : List Nat} {i a : Nat} : Ft (syL l 6) (63 - i) 0 a 0 6 ↔ E1 (sy l) i a := by
  constructor
  · intro h j hj
    have := h j hj
    rw [syL_getD l j hj, gm_zero_left, Nat.xor_zero] at this
    exact this
  · intro h j hj
    rw [syL_getD l j hj, gm_zero_left, Nat.xor_zero]
    exact h j hj
theorem e1_first {l : List Nat} {i a : Nat} (ha : a < 256) (h : E1 (sy l) i a) : a = sy l 0 := by
  have := h 0 (by omega)
  rw [this]
  exact (gm_one a ha).symm
/-- The first symbol's damage, by the first two syndromes; the second's. -/
def ca (l : List Nat) (i k : Nat) : Nat := gm (sy l 1 ^^^ gm (sy l 0) (rt k)) (iv (rt i ^^^ rt k))
def cb (l : List Nat) (i k : Nat) : Nat := sy l 0 ^^^ ca l i k
theorem e2_cand {l : List Nat} {i k a b : Nat} (hi : i < 64) (hk : k < 64) (hik : i ≠ k) (ha : a < 256) (hb : b < 256) (h : E2 (sy l) i k a b) : ca l i k = a ∧ cb l i k = b := by
  have h0 : sy l 0 = a ^^^ b := by
    have := h 0 (by omega)
    rw [this]
    show gm a 1 ^^^ gm b 1 = _
    rw [gm_one a ha, gm_one b hb]
  have h1 : sy l 1 = gm a (rt i) ^^^ gm b (rt k) := by
    have := h 1 (by omega)
    rw [this]
    show gm a (gm 1 (rt i)) ^^^ gm b (gm 1 (rt k)) = _
    rw [gm_comm 1, gm_comm 1, gm_one _ (rt_lt i), gm_one _ (rt_lt k)]
  have hx0 : rt i ^^^ rt k ≠ 0 := fun e => hik (rt_inj hi hk (xor_zero_eq e))
  have hxl := xor_lt _ _ (rt_lt i) (rt_lt k)
  have hc : ca l i k = a := by
    unfold ca
    rw [h0, h1, xor_gm _ _ _ (rt_lt k) ha hb]
    have e1 : gm a (rt i) ^^^ gm b (rt k) ^^^ (gm a (rt k) ^^^ gm b (rt k)) = gm a (rt i ^^^ rt k) := by
      rw [gm_xor a _ _ ha (rt_lt i) (rt_lt k), Nat.xor_assoc, Nat.xor_comm (gm a (rt k)), ← Nat.xor_assoc (gm b (rt k)), Nat.xor_self, Nat.zero_xor]
    rw [e1, gm_assoc, gm_iv _ hxl hx0, gm_one a ha]
  refine ⟨hc, ?_⟩
  unfold cb
  rw [hc, h0, Nat.xor_comm a b, Nat.xor_assoc, Nat.xor_self, Nat.xor_zero]
/-- Places i and k fit. -/
def Two (l : List Nat) (i k : Nat) : Prop := ca l i k ≠ 0 ∧ cb l i k ≠ 0 ∧ E2 (sy l) i k (ca l i k) (cb l i k)
theorem ref_one {l : List Nat} (hl : l.length = 64) (hb : Bys l) (h0 : ¬ syL l 6 = [0, 0, 0, 0, 0, 0]) {i : Nat} (hi : i < 64) (h : E1 (sy l) i (sy l 0)) : IsDec l (some ((addAt (addAt l i (sy l 0)) i 0).take 58, 1)) := by
  rw [addAt_none]
  exact dec_one hl hb (syL_some h0) i _ hi (sy_lt hb 0) h
theorem ref_two {l : List Nat} (hl : l.length = 64) (hb : Bys l) {i k : Nat} (hik : i < k) (hk : k < 64) (h : Two l i k) : IsDec l (some ((addAt (addAt l i (ca l i k)) k (cb l i k)).take 58, 2)) :=
  dec_two hl hb i k _ _ (by omega) hk (by omega) (gm_lt _ _) (xor_lt _ _ (sy_lt hb 0) (gm_lt _ _)) h.1 h.2.1 h.2.2
theorem ref_none {l : List Nat} (hl : l.length = 64) (hb : Bys l) (h0 : ¬ syL l 6 = [0, 0, 0, 0, 0, 0]) (h1 : ∀ i, i < 64 → ¬ E1 (sy l) i (sy l 0)) (h2 : ∀ i k, i < k → k < 64 → ¬ Two l i k) : IsDec l none := by
  refine dec_none hl hb (syL_some h0) (fun i a hi ha h => ?_) (fun i j a b hi hj ha hb' a0 b0 h => ?_)
  · have e := e1_first ha h
    rw [e] at h
    exact h1 i hi h
  · have hs : E2 (sy l) j i b a := fun k hk => by rw [h k hk, Nat.xor_comm]
    obtain ⟨e1, e2⟩ := e2_cand (by omega) hi (by omega) hb' ha hs
    refine h2 j i hj hi ⟨by rw [e1]; exact b0, by rw [e2]; exact a0, ?_⟩
    rw [e1, e2]; exact hs
end Go.Proofs.YtifjmilegogbaaaGreat
namespace Go.Proofs.YtifjmilegogbaaaGreat
open Go.RowKit
set_option maxRecDepth 100000

/-- What the document's Decode answers. -/
def RDec (w w' : World) (l : List Nat) (e : Ending) : Prop :=
  (IsDec l none ∧ e = .returned (.tuple #[.slice none 0 0, .int .i64 0, .bool false])) ∨
  (∃ (m : List Nat) (d r cr : Nat), IsDec l (some (m, d)) ∧ d ≤ 2 ∧ m.length = 58 ∧ e = .returned (.tuple #[.slice (some ⟨r, 0, none⟩) 58 cr, .int .i64 (d : Int), .bool true]) ∧ (w.heap.size ≤ r ∧ 64 ≤ cr) ∧ Held w' (.slice (some ⟨r, 0, none⟩) 58 cr) m)
theorem rd_len {l : List Nat} (hl : l.length = 64) (i a k b : Nat) : ((addAt (addAt l i a) k b).take 58).length = 58 := by
  rw [List.length_take, addAt_length, addAt_length, hl]; rfl
theorem fits_n (w : World) (c o cs p g a b x y : Nat) (X Y : Int) (s : List Nat) (hX : X = x) (hY : Y = y) (hs : s.length = 6) (bs : Bys s) (ha : a < 256) (hb : b < 256) (hx : x < 64) (hy : y < 64)
    (hA : Arr w p 5 (tE 255)) (hI : Iat w g (tL 255)) (hc : ∀ i, i < 6 → w.cell? ⟨c, o + i, none⟩ = some (.int .u8 (s.getD i 0 : Nat))) :
    Calls Tryz.prog 140 #[.slice (some ⟨c, o, none⟩) 6 cs, .slice (some ⟨p, 0, none⟩) 255 255, .slice (some ⟨g, 0, none⟩) 256 256, .int .u8 (a : Int), .int .i64 X, .int .u8 (b : Int), .int .i64 Y] w
      fun e w' => FitAns w w' s x y a b e := by
  subst hX hY
  exact fits_any w c o cs p g a b x y s hs bs ha hb hx hy hA hI hc

set_option maxHeartbeats 8000000 in
theorem rdecode_any (w : World) (c o cap : Nat) (l : List Nat) (hl : l.length = 64) (hb : Bys l)
    (hcell : ∀ j, j < l.length → w.cell? ⟨c, o + j, none⟩ = some (.int .u8 (l.getD j 0 : Nat))) :
    Calls Tryz.prog 122 #[.slice (some ⟨c, o, none⟩) 64 cap] w fun e w' => RDec w w' l e ∧ Chg (fun _ => False) w w' := by
  have HC := hyd hcell
  have hcs := cell_lt (hcell 0 (by omega))
  clear hcell
  have hmk := make6
  have hH : Held w (.slice (some ⟨c, o, none⟩) l.length cap) l := ⟨_, cap, rfl, Or.inr ⟨c, o, rfl, hcs, HC.out⟩⟩
  have hcall := rsyn_any w (some ⟨c, o, none⟩) cap l hb (by omega) hH
  rw [hl] at hcall
  clear hH
  have hsl := syL_length l 6
  have hsb := syL_bys hb 6
  go_enter Tryz.func122, Tryz.ntmps122
  go_wp2_with fail
  refine hcall.mono ?_
  rintro e w1 ⟨v, rfl, O1, G1⟩
  clear hcall
  obtain ⟨sg, sc, hv⟩ := O1.at_store (by omega)
  rw [hsl] at hv
  subst hv
  have hW1 := O1.held
  go_wp2_with fail
  refine (same_n _ _ _ 6 6 sc 6 (syL l 6) z6 hsl.symm z6_length.symm (hW1.chgF ((Chg.refl _ _).alloc _)) ((Arr.new w1 5 z6).held 0 6 6 z6 z6_length.symm (by omega) (fun i _ => by rw [Nat.zero_add])) (by omega) (by rw [z6_length]; omega)).mono ?_
  rintro e w2 ⟨rfl, H2⟩
  have G2 : Chg (fun _ => False) w w2 := (G1.alloc _).trans H2
  have O2 : Own w2 w.heap.size 5 (.slice (some ⟨sg, 0, none⟩) 6 sc) (syL l 6) := (O1.keep (fun k hk _ => Below.heap_alloc w1 (.cells (bcells z6) 5) k hk)).chg H2 (fun _ _ _ e => e)
  clear O1 G1 hW1 H2 hmk
  by_cases h0 : syL l 6 = [0, 0, 0, 0, 0, 0]
  · have hz : decide (syL l 6 = z6) = true := decide_eq_true h0
    have HD := hyd (dec_zero hl hb (syL_zeros.1 h0))
    clear h0 O2
    go_wp2_with fail
    refine (rturned_any w2 c o cap 0 0 0 0 l hl hb (by omega) (by omega) (by omega) (by omega) (fun j hj => cell_chg G2 (HC.out j hj))).mono ?_
    rintro e w3 ⟨r, cr, rfl, hr3, H3, G3⟩
    have hrs := G2.size
    have hlen := rd_len hl 0 0 0 0
    rw [addAt_none, addAt_none] at H3 hlen
    have G03 := G2.trans G3
    clear G2 G3
    go_wp2
    go_ret3
    exact ⟨Or.inr ⟨l.take 58, 0, r, cr, HD.out, by omega, hlen, rfl, by omega, H3⟩, G03⟩
  · have hz : decide (syL l 6 = z6) = false := decide_eq_false h0
    have H0 := hyd h0
    clear h0
    go_wp2_with fail
    refine (tables_any w2).mono ?_
    rintro e w3 ⟨p, g, rfl, hp, hg, A3, I3, G3⟩
    have O3 : Own w3 w.heap.size 5 (.slice (some ⟨sg, 0, none⟩) 6 sc) (syL l 6) := O2.chg G3 (fun _ _ _ e => e)
    have G03 := G2.trans G3
    clear O2 G2 G3 hz
    have hsg : ∀ i, i < 6 → w3.cell? ⟨sg, 0 + i, none⟩ = some (.int .u8 ((syL l 6).getD i 0 : Nat)) := fun i hi => by
      rw [Nat.zero_add]; exact (O3.cellAt i (by omega)).1
    have HSG := hyd hsg
    have c0 := (O3.cellAt 0 (by omega)).1
    have c1 := (O3.cellAt 1 (by omega)).1
    rw [syL_getD l 0 (by omega)] at c0
    rw [syL_getD l 1 (by omega)] at c1
    have s0 := sy_lt hb 0
    have s1 := sy_lt hb 1
    clear hsg O3
    go_wp2_with fail
    go_loop [9] (fun t => ∃ i : Nat, i ≤ 64 ∧ t = .int .i64 i ∧ ∀ m, m < i → ¬ E1 (sy l) m (sy l 0)) (fun t => 64 - (intOf t).toNat)
    case atStart => exact ⟨0, by omega, rfl, fun m hm => by omega⟩
    case round =>
      obtain ⟨i, hi, rfl, hN⟩ := hrel
      have HN := hyd hN
      clear hN
      by_cases hlt : i < 64
      · have hlt' : (i : Int) < 64 := by omega
        have w63 : IntKind.i64.wrap (63 - (i : Int)) = 63 - (i : Int) := by rw [IntKind.wrap_i64]; omega
        go_wp2_with fail
        refine (fits_n w3 sg 0 sc p g (sy l 0) 0 (63 - i) 0 _ _ (syL l 6) (by omega) rfl hsl hsb s0 (by omega) (by omega) (by omega) A3 I3 HSG.out).mono ?_
        rintro e w4 ⟨t, rfl, ht, hw⟩
        rw [hw]
        have HT := hyd (ht.trans ft_e1)
        clear hw ht
        cases t
        · have HnE : Hid (¬ E1 (sy l) i (sy l 0)) := hyd (fun e => by have := HT.out.2 e; cases this)
          clear HT
          go_wp2_with fail
          exact ⟨⟨i + 1, by omega, by go_num, fun m hm => by
            by_cases e : m = i
            · rw [e]; exact HnE.out
            · exact HN.out m (by omega)⟩, by simp [intOf]; omega⟩
        · have HD := hyd (ref_one hl hb H0.out hlt (HT.out.1 rfl))
          clear HT
          go_wp2_with fail
          refine (rturned_any w3 c o cap (sy l 0) i 0 i l hl hb s0 (by omega) (by omega) (by omega) (fun j hj => cell_chg G03 (HC.out j hj))).mono ?_
          rintro e w5 ⟨r, cr, rfl, hr5, H5, G5⟩
          have hrs := G03.size
          have G05 := G03.trans G5
          clear G5
          go_wp2
          go_ret3
          exact ⟨Or.inr ⟨_, 1, r, cr, HD.out, by omega, rd_len hl _ _ _ _, rfl, by omega, H5⟩, G05⟩
      · have hge : ¬ (i : Int) < 64 := by omega
        have H1 : Hid (∀ m, m < 64 → ¬ E1 (sy l) m (sy l 0)) := hyd (fun m hm => HN.out m (by omega))
        clear HN
        go_wp2_with fail
        go_loopw [11] (fun t wr => ∃ i : Nat, i ≤ 64 ∧ t = .int .i64 i ∧ (∀ i' k', i' < i → i' < k' → k' < 64 → ¬ Two l i' k') ∧ Chg (fun _ => False) w3 wr) (fun t _ => 64 - (intOf t).toNat)
        case atStart => exact ⟨0, by omega, rfl, fun i' k' h => by omega, Chg.refl _ _⟩
        case round =>
          clear c0 c1
          obtain ⟨i, hi, rfl, hN, hG⟩ := hrel
          have HN := hyd hN
          clear hN
          by_cases hlt : i < 64
          · have hlt' : (i : Int) < 64 := by omega
            obtain ⟨x, hx⟩ : ∃ x : Nat, x = 63 - i := ⟨_, rfl⟩
            have hxI : 63 - (i : Int) = (x : Int) := by omega
            have HX := hyd hx
            have hx64 : x < 64 := by omega
            clear hx
            go_wp2_with fail
            go_loopw [13] (fun t wx => ∃ k : Nat, i < k ∧ k ≤ 64 ∧ t = .int .i64 k ∧ (∀ k', i < k' → k' < k → ¬ Two l i k') ∧ Chg (fun _ => False) w3 wx) (fun t _ => 64 - (intOf t).toNat)
            case atStart => exact ⟨i + 1, by omega, by omega, by go_num, fun k' h => by omega, hG⟩
            case round =>
              clear hG
              obtain ⟨k, hik, hk, rfl, hNk, hG⟩ := hrel
              have HNk := hyd hNk
              clear hNk
              by_cases hlt2 : k < 64
              · have hlt2' : (k : Int) < 64 := by omega
                obtain ⟨y, hy⟩ : ∃ y : Nat, y = 63 - k := ⟨_, rfl⟩
                have hyI : 63 - (k : Int) = (y : Int) := by omega
                have HY := hyd hy
                have hy64 : y < 64 := by omega
                clear hy
                have A := A3.chg hG (fun e => e)
                have I := I3.chg hG (fun e => e)
                have c0 : wr.cell? ⟨sg, 0, none⟩ = some (.int .u8 (sy l 0 : Nat)) := by
                  have := cell_chg hG (HSG.out 0 (by omega)); rwa [syL_getD l 0 (by omega)] at this
                have c1 : wr.cell? ⟨sg, 1, none⟩ = some (.int .u8 (sy l 1 : Nat)) := by
                  have := cell_chg hG (HSG.out 1 (by omega)); rwa [syL_getD l 1 (by omega)] at this
                have px := A.cell x (by rw [tE_length]; omega)
                have py := A.cell y (by rw [tE_length]; omega)
                rw [tE_full (by omega)] at px py
                have rx : ex x = rt i := by rw [HX.out]; rfl
                have ry : ex y = rt k := by rw [HY.out]; rfl
                rw [rx] at px
                rw [ry] at py
                have ls := lg_lt (sy l 0) s0
                have bm : (lg (sy l 0) + y) % 255 < 255 := Nat.mod_lt _ (by decide)
                have pm := A.cell ((lg (sy l 0) + y) % 255) (by rw [tE_length]; exact bm)
                rw [tE_full bm] at pm
                have hT : gm (sy l 0) (rt k) < 256 := gm_lt _ _
                have HTm : Hid (sy l 0 ≠ 0 → ex ((lg (sy l 0) + y) % 255) = gm (sy l 0) (rt k)) := hyd (fun e => by
                  rw [gm_of_ne e (rt_ne k), ← ry, lg_ex _ (by omega)])
                have HTz : Hid (sy l 0 = 0 → gm (sy l 0) (rt k) = 0) := hyd (fun e => by rw [e, gm_zero_left])
                have HCA : Hid (ca l i k = gm (sy l 1 ^^^ gm (sy l 0) (rt k)) (iv (rt i ^^^ rt k))) := hyd rfl
                have HCB : Hid (cb l i k = sy l 0 ^^^ ca l i k) := hyd rfl
                have hx0 : rt i ^^^ rt k ≠ 0 := fun e => by have := rt_inj hlt hlt2 (xor_zero_eq e); omega
                have hxl := xor_lt _ _ (rt_lt i) (rt_lt k)
                have ri := rt_lt i
                have rk := rt_lt k
                have e2 := u8_xor_nat (rt i) (rt k) ri rk
                have e1 := u8_xor_nat (sy l 1) (gm (sy l 0) (rt k)) s1 hT
                have hxT := xor_lt _ _ s1 hT
                have hca : ca l i k < 256 := gm_lt _ _
                have e3 := u8_xor_nat (sy l 0) (ca l i k) s0 hca
                have hcb : cb l i k < 256 := xor_lt _ _ s0 hca
                clear rx ry bm
                generalize rt i ^^^ rt k = Rx at *
                generalize rt i = R1 at *
                generalize rt k = R2 at *
                generalize hTT : gm (sy l 0) R2 = T at *
                clear hTT
                generalize sy l 1 ^^^ T = ST at *
                rw [← HCB.out] at e3
                have bx1 : (0 : Int) ≤ (x : Int) := by omega
                have bx2 : (x : Int) < 255 := by omega
                have by1 : (0 : Int) ≤ (y : Int) := by omega
                have by2 : (y : Int) < 255 := by omega
                by_cases z0 : sy l 0 = 0
                · have T0 := HTz.out z0
                  subst T0
                  have zz : (((sy l 0 : Nat) : Int) != 0) = false := by rw [z0]; rfl
                  have e1' : bits BinOp.xor IntKind.u8 ((sy l 1 : Nat) : Int) 0 = (ST : Int) := e1
                  clear z0 pm e1
                  go_wp2_with fail
                  go_region_held3 (fun wx => wx.cell? ⟨sg, 1, none⟩ = some (.int .u8 (sy l 1 : Nat)) ∧ wx.cell? ⟨p, x, none⟩ = some (.int .u8 (R1 : Nat)) ∧ wx.cell? ⟨p, y, none⟩ = some (.int .u8 (R2 : Nat)))
                    (first | exact ⟨c1, px, py⟩ | exact ⟨c1', px', py'⟩)
                    (first | (go_at_call 141; refine (over_any _ p g ST Rx hxT hxl hx0 ?_ ?_).mono ?_; (exact A.drew); (exact I); rintro e w5 ⟨rfl, H5⟩; rw [← HCA.out]; have hG5 : Chg (fun _ => False) w3 w5 := (hG.drew.trans H5); have c0' : w5.cell? ⟨sg, 0, none⟩ = some (.int .u8 (sy l 0 : Nat)) := (cell_chg H5 c0); have c1' : w5.cell? ⟨sg, 1, none⟩ = some (.int .u8 (sy l 1 : Nat)) := (cell_chg H5 c1); have px' : w5.cell? ⟨p, x, none⟩ = some (.int .u8 (R1 : Nat)) := (cell_chg H5 px); have py' : w5.cell? ⟨p, y, none⟩ = some (.int .u8 (R2 : Nat)) := (cell_chg H5 py)))
                  all_goals
                    clear c0 c1 px py c1' px' py' hG A I
                    have HTw : Hid (Two l i k ↔ (ca l i k ≠ 0 ∧ cb l i k ≠ 0 ∧ E2 (sy l) i k (ca l i k) (cb l i k))) := hyd Iff.rfl
                    have HD2 : Hid (Two l i k → IsDec l (some ((addAt (addAt l i (ca l i k)) k (cb l i k)).take 58, 2))) := hyd (fun h => ref_two hl hb hik hlt2 h)
                    generalize cb l i k = CB at *
                    generalize ca l i k = CA at *
                    clear HCA HCB
                    have next : ¬ Two l i k → ∀ k', i < k' → k' < k + 1 → ¬ Two l i k' := fun hn k' h1 h2 => by
                      by_cases e : k' = k
                      · rw [e]; exact hn
                      · exact HNk.out k' h1 (by omega)
                    have HNX := hyd next
                    clear next
                    by_cases a0 : CA = 0
                    · have za : (((CA : Nat) : Int) == 0) = true := by rw [a0]; rfl
                      have hn : ¬ Two l i k := fun h => (HTw.out.1 h).1 a0
                      have Hn := hyd hn
                      clear hn a0
                      go_wp2_with fail
                      exact ⟨⟨k + 1, by omega, by omega, by go_num, HNX.out Hn.out, hG5⟩, by simp [intOf]; omega⟩
                    · have za : (((CA : Nat) : Int) == 0) = false := by rw [beq_eq_false_iff_ne]; omega
                      by_cases b0 : CB = 0
                      · have zb : (((CB : Nat) : Int) == 0) = true := by rw [b0]; rfl
                        have hn : ¬ Two l i k := fun h => (HTw.out.1 h).2.1 b0
                        have Hn := hyd hn
                        clear hn a0 b0
                        go_wp2_with fail
                        exact ⟨⟨k + 1, by omega, by omega, by go_num, HNX.out Hn.out, hG5⟩, by simp [intOf]; omega⟩
                      · have zb : (((CB : Nat) : Int) == 0) = false := by rw [beq_eq_false_iff_ne]; omega
                        have HA0 := hyd a0
                        have HB0 := hyd b0
                        clear a0 b0
                        go_wp2_with fail
                        refine (fits_n w5 sg 0 sc p g CA CB x y _ _ (syL l 6) rfl rfl hsl hsb hca hcb hx64 hy64 (A3.chg hG5 (fun e => e)) (I3.chg hG5 (fun e => e)) (fun j hj => cell_chg hG5 (HSG.out j hj))).mono ?_
                        rintro e w6 ⟨t, rfl, ht, hw⟩
                        rw [hw]
                        rw [HX.out, HY.out] at ht
                        have HT := hyd (ht.trans ft_e2)
                        clear hw ht
                        cases t
                        · have Hn : Hid (¬ Two l i k) := hyd (fun h => by have := HT.out.2 (HTw.out.1 h).2.2; cases this)
                          clear HT
                          go_wp2_with fail
                          exact ⟨⟨k + 1, by omega, by omega, by go_num, HNX.out Hn.out, hG5⟩, by simp [intOf]; omega⟩
                        · have HD := hyd (HD2.out (HTw.out.2 ⟨HA0.out, HB0.out, HT.out.1 rfl⟩))
                          clear HT HD2 HTw
                          have G5 := G03.trans hG5
                          go_wp2_with fail
                          refine (rturned_any w5 c o cap CA i CB k l hl hb hca hcb (by omega) (by omega) (fun j hj => cell_chg G5 (HC.out j hj))).mono ?_
                          rintro e w7 ⟨r, cr, rfl, hr7, H7, G7⟩
                          have hrs := G5.size
                          have G07 := G5.trans G7
                          clear G7
                          go_wp2
                          go_ret3
                          exact ⟨Or.inr ⟨_, 2, r, cr, HD.out, by omega, rd_len hl _ _ _ _, rfl, by omega, H7⟩, G07⟩
                · have zz : (((sy l 0 : Nat) : Int) != 0) = true := by simp only [bne_iff_ne, ne_eq]; omega
                  rw [HTm.out z0] at pm
                  have iS := I.cell (sy l 0) (by rw [tL_length]; omega)
                  rw [tL_full s0 z0] at iS
                  clear z0
                  go_wp2_with fail
                  go_region_held3 (fun wx => wx.cell? ⟨sg, 1, none⟩ = some (.int .u8 (sy l 1 : Nat)) ∧ wx.cell? ⟨p, x, none⟩ = some (.int .u8 (R1 : Nat)) ∧ wx.cell? ⟨p, y, none⟩ = some (.int .u8 (R2 : Nat)))
                    (first | exact ⟨c1, px, py⟩ | exact ⟨c1', px', py'⟩)
                    (first | (go_at_call 141; refine (over_any _ p g ST Rx hxT hxl hx0 ?_ ?_).mono ?_; (exact A.drew); (exact I); rintro e w5 ⟨rfl, H5⟩; rw [← HCA.out]; have hG5 : Chg (fun _ => False) w3 w5 := (hG.drew.trans H5); have c0' : w5.cell? ⟨sg, 0, none⟩ = some (.int .u8 (sy l 0 : Nat)) := (cell_chg H5 c0); have c1' : w5.cell? ⟨sg, 1, none⟩ = some (.int .u8 (sy l 1 : Nat)) := (cell_chg H5 c1); have px' : w5.cell? ⟨p, x, none⟩ = some (.int .u8 (R1 : Nat)) := (cell_chg H5 px); have py' : w5.cell? ⟨p, y, none⟩ = some (.int .u8 (R2 : Nat)) := (cell_chg H5 py)))
                  all_goals
                    clear c0 c1 px py c1' px' py' hG A I
                    have HTw : Hid (Two l i k ↔ (ca l i k ≠ 0 ∧ cb l i k ≠ 0 ∧ E2 (sy l) i k (ca l i k) (cb l i k))) := hyd Iff.rfl
                    have HD2 : Hid (Two l i k → IsDec l (some ((addAt (addAt l i (ca l i k)) k (cb l i k)).take 58, 2))) := hyd (fun h => ref_two hl hb hik hlt2 h)
                    generalize cb l i k = CB at *
                    generalize ca l i k = CA at *
                    clear HCA HCB
                    have next : ¬ Two l i k → ∀ k', i < k' → k' < k + 1 → ¬ Two l i k' := fun hn k' h1 h2 => by
                      by_cases e : k' = k
                      · rw [e]; exact hn
                      · exact HNk.out k' h1 (by omega)
                    have HNX := hyd next
                    clear next
                    by_cases a0 : CA = 0
                    · have za : (((CA : Nat) : Int) == 0) = true := by rw [a0]; rfl
                      have hn : ¬ Two l i k := fun h => (HTw.out.1 h).1 a0
                      have Hn := hyd hn
                      clear hn a0
                      go_wp2_with fail
                      exact ⟨⟨k + 1, by omega, by omega, by go_num, HNX.out Hn.out, hG5⟩, by simp [intOf]; omega⟩
                    · have za : (((CA : Nat) : Int) == 0) = false := by rw [beq_eq_false_iff_ne]; omega
                      by_cases b0 : CB = 0
                      · have zb : (((CB : Nat) : Int) == 0) = true := by rw [b0]; rfl
                        have hn : ¬ Two l i k := fun h => (HTw.out.1 h).2.1 b0
                        have Hn := hyd hn
                        clear hn a0 b0
                        go_wp2_with fail
                        exact ⟨⟨k + 1, by omega, by omega, by go_num, HNX.out Hn.out, hG5⟩, by simp [intOf]; omega⟩
                      · have zb : (((CB : Nat) : Int) == 0) = false := by rw [beq_eq_false_iff_ne]; omega
                        have HA0 := hyd a0
                        have HB0 := hyd b0
                        clear a0 b0
                        go_wp2_with fail
                        refine (fits_n w5 sg 0 sc p g CA CB x y _ _ (syL l 6) rfl rfl hsl hsb hca hcb hx64 hy64 (A3.chg hG5 (fun e => e)) (I3.chg hG5 (fun e => e)) (fun j hj => cell_chg hG5 (HSG.out j hj))).mono ?_
                        rintro e w6 ⟨t, rfl, ht, hw⟩
                        rw [hw]
                        rw [HX.out, HY.out] at ht
                        have HT := hyd (ht.trans ft_e2)
                        clear hw ht
                        cases t
                        · have Hn : Hid (¬ Two l i k) := hyd (fun h => by have := HT.out.2 (HTw.out.1 h).2.2; cases this)
                          clear HT
                          go_wp2_with fail
                          exact ⟨⟨k + 1, by omega, by omega, by go_num, HNX.out Hn.out, hG5⟩, by simp [intOf]; omega⟩
                        · have HD := hyd (HD2.out (HTw.out.2 ⟨HA0.out, HB0.out, HT.out.1 rfl⟩))
                          clear HT HD2 HTw
                          have G5 := G03.trans hG5
                          go_wp2_with fail
                          refine (rturned_any w5 c o cap CA i CB k l hl hb hca hcb (by omega) (by omega) (fun j hj => cell_chg G5 (HC.out j hj))).mono ?_
                          rintro e w7 ⟨r, cr, rfl, hr7, H7, G7⟩
                          have hrs := G5.size
                          have G07 := G5.trans G7
                          clear G7
                          go_wp2
                          go_ret3
                          exact ⟨Or.inr ⟨_, 2, r, cr, HD.out, by omega, rd_len hl _ _ _ _, rfl, by omega, H7⟩, G07⟩
              · have hge2 : ¬ (k : Int) < 64 := by omega
                go_wp2_with fail
                exact ⟨⟨i + 1, by omega, by go_num, fun i' k' h1 h2 h3 => by
                  by_cases e : i' = i
                  · rw [e]; rw [e] at h2; exact HNk.out k' h2 (by omega)
                  · exact HN.out i' k' (by omega) h2 h3, hG⟩, by simp [intOf]; omega⟩
          · have hge : ¬ (i : Int) < 64 := by omega
            have HD := hyd (ref_none hl hb H0.out H1.out (fun i' k' h1 h2 => HN.out i' k' (by omega) h1 h2))
            have GE := G03.trans hG
            go_wp2
            go_ret3
            exact ⟨Or.inl ⟨HD.out, rfl⟩, GE⟩
end Go.Proofs.YtifjmilegogbaaaGreat
namespace Go.Proofs.YtifjmilegogbaaaGreat
open Go.RowKit
set_option maxRecDepth 100000

theorem rdecode_held (w : World) (a : Option Addr) (n cap : Nat) (l : List Nat) (hn : n = 64) (hl : l.length = 64) (hb : Bys l) (hh : Held w (.slice a n cap) l) :
    Calls Tryz.prog 122 #[.slice a n cap] w fun e w' => RDec w w' l e ∧ Chg (fun _ => False) w w' := by
  subst hn
  obtain ⟨a', c', hv, h | ⟨g', o', ha, hg', hc⟩⟩ := hh
  · omega
  · simp only [Value.slice.injEq] at hv
    obtain ⟨rfl, -, rfl⟩ := hv
    subst ha
    exact rdecode_any w g' o' cap l hl hb hc

end Go.Proofs.YtifjmilegogbaaaGreat
