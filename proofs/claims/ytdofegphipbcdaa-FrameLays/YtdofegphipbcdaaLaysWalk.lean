/-
  FrameLays, walked: whatever the bytes, Lay answers as the document says; what is lent is left as it was and not kept; what comes out is its owner's. Condition: the bytes came in as slices do.
-/
import Derived.Test.YtdofegphipbcdaaShown
import Derived.Test.YtdofegphipbcdaaRefLay
import Derived.Test.YtdofegphipbcdaaLend
namespace Go.Proofs.Ytdofegphipbcdaa
open Go.RowKit
set_option maxRecDepth 100000

theorem take_mrk (l : List Nat) : (l ++ mrk 5).take l.length = l := by
  rw [List.take_append_of_le_length (Nat.le_refl _), List.take_of_length_le (Nat.le_refl _)]
theorem mrk_len' (l : List Nat) : (l ++ mrk 5).length = l.length + 5 := by rw [List.length_append, mrk_length]
theorem ownsRow_cell {W : World} {base : Nat} {e : TypeId} {r n cap : Nat} {xs : List Value} (h : W.ownsRow base e 1 (.slice (some ⟨r, 0, none⟩) n cap) n xs) (j : Nat) (hj : j < n) (d : Value) : W.cell? ⟨r, j, none⟩ = some (xs.getD j d) := by
  rcases h.2 with ⟨h1, _⟩ | ⟨g, cap', cur, hv, _, hh, _, _, _, ht⟩
  · cases h1
  · simp only [Value.slice.injEq, Option.some.injEq, Addr.mk.injEq] at hv
    obtain ⟨⟨rfl, -, -⟩, -, -⟩ := hv
    have hl : xs.length = n := by have := h.1; omega
    have h2 : (cur.toList.take (n * 1))[j]? = xs[j]? := by rw [ht]
    rw [List.getElem?_take_of_lt (by omega), Array.getElem?_toList] at h2
    simp only [World.cell?, hh]
    rw [List.getD_eq_getElem?_getD, List.getElem?_eq_getElem (by omega)] at *
    simpa using h2
theorem ownsRow_lt {W : World} {base : Nat} {e : TypeId} {r n cap : Nat} {xs : List Value} (h : W.ownsRow base e 1 (.slice (some ⟨r, 0, none⟩) n cap) n xs) : base ≤ r ∧ r < W.heap.size := by
  rcases h.2 with ⟨h1, _⟩ | ⟨g, cap', cur, hv, hb, hh, _⟩
  · cases h1
  · simp only [Value.slice.injEq, Option.some.injEq, Addr.mk.injEq] at hv
    obtain ⟨⟨rfl, -, -⟩, -, -⟩ := hv
    exact ⟨hb, (Array.getElem?_eq_some_iff.1 hh).1⟩
/-- The row of Lay is of four chunks that have memory of their own. -/
theorem apart4 {w : World} {base r k : Nat} {gs : List Nat} {ls : List (List Nat)} (h : Rowz w base (.slice (some ⟨r, 0, none⟩) 4 k) gs ls) (hg : gs.length = 4) (hl : ∀ j, j < 4 → (ls.getD j []).length = 64) (hb : base ≤ w.heap.size) :
    Calls Try.prog 16 #[.slice (some ⟨r, 0, none⟩) 4 k] w fun e w' => e = .returned (.bool true) ∧ Chg (fun k => k ∈ gs) w w' := by
  have hrow := h.row
  rw [hg] at hrow
  have hm : ∀ i, i < 4 → gs.getD i 0 ∈ gs := fun i hi => by rw [List.getD_eq_getElem?_getD, List.getElem?_eq_getElem (by omega)]; exact List.getElem_mem (by omega)
  have hin : ∀ i j, i < 4 → j < 4 → gs.getD i 0 = gs.getD j 0 → i = j := fun i j hi hj he => by
    rw [List.getD_eq_getElem?_getD, List.getD_eq_getElem?_getD, List.getElem?_eq_getElem (by omega), List.getElem?_eq_getElem (by omega)] at he
    have hp := List.pairwise_iff_getElem.1 h.nd
    rcases Nat.lt_trichotomy i j with h1 | h1 | h1
    · exact absurd (by simpa using he) (hp i j _ _ h1)
    · exact h1
    · exact absurd (by simpa using he.symm) (hp j i _ _ h1)
  refine (apart_any w r 0 4 k base (fun i => some ⟨gs.getD i 0, 0, none⟩) (fun _ => 64) (fun i => ls.getD i []) (by decide) hb (ownsRow_lt hrow).2 (fun i hi => ?_) ⟨fun i hi => ?_, fun i j k' hi hj hij h1 h2 => ?_⟩ (fun i hi => by rw [hl i hi]; decide) (fun i hi h1 => ?_)).mono ?_
  · rw [Nat.zero_add, ownsRow_cell hrow i hi (slc 0), hl i hi]
    rw [List.getD_eq_getElem?_getD, List.getD_eq_getElem?_getD, List.getElem?_map, List.getElem?_eq_getElem (by omega)]
    rfl
  · have := (h.arr i (by omega)).own (h.low _ (hm i hi)) (ls.getD i []).length rfl (by rw [hl i hi]; decide)
    rw [show (64 : Nat) = (ls.getD i []).length from (hl i hi).symm]
    exact this
  · have e1 : gs.getD i 0 = k' := Option.some.inj h1
    have e2 : gs.getD j 0 = k' := Option.some.inj h2
    exact hij (hin i j hi hj (by omega))
  · have e1 : gs.getD i 0 = r := Option.some.inj h1
    exact h.off r rfl (by rw [← e1]; exact hm i hi)
  · rintro e w' ⟨he, hc⟩
    refine ⟨he, hc.mono (fun k' _ hk' => ?_)⟩
    obtain ⟨j, hj, hk'⟩ := hk'
    have e1 : gs.getD j 0 = k' := Option.some.inj hk'
    rw [← e1]
    exact hm j hj
theorem getD_four {α : Type} [Inhabited α] (F : Nat → List α) (i : Nat) (h : i < 4) : ((List.range 4).map F).getD i [] = F i := by
  have : i = 0 ∨ i = 1 ∨ i = 2 ∨ i = 3 := by omega
  rcases this with rfl | rfl | rfl | rfl <;> rfl
theorem lay_bad (p : Nat) (w : World) (a : Option Addr) (n cap : Nat) (a2 : Option Addr) (n2 cap2 : Nat) (h : ¬ (n = 174 ∧ n2 = 50)) :
    Calls Try.prog 10 #[.pointer (some ⟨p, 0, none⟩), .slice a n cap, .slice a2 n2 cap2] w fun e w' => e = .returned (.tuple #[.slice none 0 0, .iface 36 (.int .i64 1)]) ∧ Chg (fun _ => False) w w' := by
  by_cases hn : n = 174
  · subst hn
    exact lay_body p w a cap a2 n2 cap2 (fun e => h ⟨rfl, e⟩)
  · exact lay_data p w a n cap hn _

set_option maxHeartbeats 8000000 in
theorem lays_walk (a0 : Option Addr) (len0 cap0 : Nat) (z0 : List Int) (a1 : Option Addr) (len1 cap1 : Nat) (z1 : List Int) (w : World) (w0 : IsRow .u8 w a0 len0 cap0 z0) (w1 : IsRow .u8 w a1 len1 cap1 z1) (r0 : cap0 * 1 ≤ 140737488351232) (r1 : cap1 * 1 ≤ 140737488351232) :
    Calls Try.prog 3 #[.slice a0 len0 cap0, .slice a1 len1 cap1] w fun e w' => e = .returned (.bool true) ∧ Below w.heap.size w w' := by
  obtain ⟨l, hl0, hc0, bl, hno, HL⟩ := row_in w0
  obtain ⟨m, hm0, hc1, bm, hno2, HM⟩ := row_in w1
  have hln : l.length ≤ 140737488351232 := by omega
  have hmn : m.length ≤ 140737488351232 := by omega
  have hlc : l.length ≤ cap0 := by omega
  clear w0 hc0 r0 w1 hc1 r1
  subst hl0
  subst hm0
  have HL := hyd HL
  have HNO := hyd hno
  have HM := hyd HM
  have HNO2 := hyd hno2
  clear hno hno2
  go_enter Try.func3, Try.ntmps3
  go_wp2_with fail
  refine (shown_any w).mono ?_
  rintro e w1 ⟨rfl, G1⟩
  go_wp2_with fail
  refine (frame_new w1).mono ?_
  rintro e w2 ⟨p, q, b, rfl, hp, hq, hb, F2, G2⟩
  have G02 : Chg (fun _ => False) w w2 := G1.trans G2
  have hs1 := G1.size
  have hs2 := G02.size
  have hbs := F2.1.1.lt
  clear G1 G2
  go_wp2_with fail
  refine (lend_any w2 a0 l cap0 HNO.out (HL.out.chgF G02) hln).mono ?_
  rintro e w3 ⟨s, f, g, rfl, L3, H3⟩
  have F3 := F2.chg H3
  have G3 := G02.trans H3
  obtain ⟨t1, t2, t3, t4, t5, t6⟩ := L3.lts
  have hml := mrk_len' l
  have hs3 := H3.size
  clear F2 G02 H3
  go_wp2_with fail
  refine (lend_any w3 a1 m cap1 HNO2.out (HM.out.chgF G3) hmn).mono ?_
  rintro e w4 ⟨s2, f2, g2, rfl, M4, H4⟩
  have F4 := F3.chg H4
  have G4 := G3.trans H4
  have L4 := L3.chg H4 (fun e => e) (fun e => e) (fun e => e)
  obtain ⟨v1, v2, v3, v4, v5, v6⟩ := M4.lts
  have hmm := mrk_len' m
  have hs4 := H4.size
  clear F3 G3 H4 L3
  go_wp2_with fail
  refine (bytes_any w4 _ s f g l.length (l ++ mrk 5) (l ++ mrk 5) L4 (by omega) (by omega) (by omega)).mono ?_
  rintro e w5 ⟨cf, rfl, B4, hcf, H5⟩
  rw [take_mrk] at B4
  have B5 := B4.chgF H5
  have F5 := F4.chg H5
  have G5 := G4.trans H5
  have L5 := L4.chg H5 (fun e => e) (fun e => e) (fun e => e)
  have M5 := M4.chg H5 (fun e => e) (fun e => e) (fun e => e)
  have hs5 := H5.size
  clear B4 F4 G4 L4 M4 H5
  go_wp2_with fail
  refine (bytes_any w5 _ s2 f2 g2 m.length (m ++ mrk 5) (m ++ mrk 5) M5 (by omega) (by omega) (by omega)).mono ?_
  rintro e w6 ⟨cf2, rfl, D5, hcf2, H6⟩
  rw [take_mrk] at D5
  have D6 := D5.chgF H6
  have B6 := B5.chgF H6
  have F6 := F5.chg H6
  have G6 := G5.trans H6
  have L6 := L5.chg H6 (fun e => e) (fun e => e) (fun e => e)
  have M6 := M5.chg H6 (fun e => e) (fun e => e) (fun e => e)
  have hs6 := H6.size
  clear D5 B5 F5 G5 L5 M5 H6
  have htl : (trn (l ++ mrk 5).length).length ≤ 9223372036854775807 := by rw [trn_length]; omega
  have htm : (trn (m ++ mrk 5).length).length ≤ 9223372036854775807 := by rw [trn_length]; omega
  by_cases hok : l.length = 174 ∧ m.length = 50
  · obtain ⟨h174, h50⟩ := hok
    have HD174 := hyd h174
    have HB50 := hyd h50
    clear h174 h50
    obtain ⟨-, hcD⟩ := held_cells B6 (by have := HD174.out; omega)
    obtain ⟨-, hcB⟩ := held_cells D6 (by have := HB50.out; omega)
    obtain ⟨MM, hMM⟩ : ∃ MM, l ++ (m ++ mk) = MM := ⟨_, rfl⟩
    have hcall : Calls Try.prog 10 #[.pointer (some ⟨p, 0, none⟩), .slice (some ⟨f, 0, none⟩) l.length cf, .slice (some ⟨f2, 0, none⟩) m.length cf2] w6 fun e w' => (∃ r k gs, e = .returned (.tuple #[.slice (some ⟨r, 0, none⟩) 4 k, .nilIface]) ∧ Rowz w' w6.heap.size (.slice (some ⟨r, 0, none⟩) 4 k) gs ((List.range 4).map fun i => encL (part 58 MM i))) ∧ Frm w' p q b ∧ But b w6 w' := by
      have := lay_any p q b w6 F6 f 0 cf l HD174.out bl (by omega) (by omega) hcD f2 0 cf2 m HB50.out bm (by omega) hcB MM hMM
      rw [HD174.out, HB50.out]
      exact this
    have HMM := hyd hMM
    have HC := hyd hcall
    have hbM : Bys MM := by
      rw [← hMM]
      intro x hx
      rcases List.mem_append.1 hx with h1 | h1
      · exact bl x h1
      · rcases List.mem_append.1 h1 with h2 | h2
        · exact bm x h2
        · exact mk_bys x h2
    have HLen : Hid (MM.length = 4 * 58) := hyd (by rw [← hMM, List.length_append, List.length_append, HD174.out, HB50.out, mk_length])
    clear hMM hcall hcD hcB B6 D6
    go_wp2_with fail
    refine HC.out.mono ?_
    rintro e w7 ⟨⟨r, k, gs, rfl, R7⟩, -, B7⟩
    have G7 := B7.chgF G6 (by omega)
    have L7 := L6.chg B7.chg (by omega) (by omega) (by omega)
    have M7 := M6.chg B7.chg (by omega) (by omega) (by omega)
    have hs7 := B7.size
    have hgl : gs.length = 4 := by have := R7.len; simpa using this.symm
    have HGL := hyd hgl
    have HLow := hyd R7.low
    clear HC G6 L6 M6 B7 F6 hgl
    go_wp2_with fail
    refine (kept_any w7 _ s f g l.length (l ++ mrk 5) (l ++ mrk 5) L7 (by omega) (by omega)).mono ?_
    rintro e w8 ⟨rfl, H8⟩
    have hdd : decide (l ++ mrk 5 = l ++ mrk 5) = true := by simp
    rw [hdd]
    have G8 := G7.trans H8
    have L8 := L7.chg H8 (fun e => e) (fun e => e) (fun e => e)
    have M8 := M7.chg H8 (fun e => e) (fun e => e) (fun e => e)
    have R8 := R7.chg H8 (fun k e => e.elim)
    have hs8 := H8.size
    clear G7 L7 M7 H8 R7
    go_wp2_with fail
    refine (kept_any w8 _ s2 f2 g2 m.length (m ++ mrk 5) (m ++ mrk 5) M8 (by omega) (by omega)).mono ?_
    rintro e w9 ⟨rfl, H9⟩
    have hde : decide (m ++ mrk 5 = m ++ mrk 5) = true := by simp
    rw [hde]
    have G9 := G8.trans H9
    have L9 := L8.chg H9 (fun e => e) (fun e => e) (fun e => e)
    have M9 := M8.chg H9 (fun e => e) (fun e => e) (fun e => e)
    have R9 := R8.chg H9 (fun k e => e.elim)
    have hs9 := H9.size
    clear G8 L8 M8 H9 R8
    have hr9 := ownsRow_lt (by have := R9.row; rw [HGL.out] at this; exact this)
    go_wp2_with fail
    refine (turn_any w9 _ s f g l.length (l ++ mrk 5) (l ++ mrk 5) L9 rfl (by omega)).mono ?_
    rintro e w10 ⟨rfl, L10, H10⟩
    have G10 : Chg (fun _ => False) w w10 := G9.trans' H10 (fun k hk e => by omega)
    have M10 := M9.chg H10 (by omega) (by omega) (by omega)
    have R10 := R9.chg H10 (fun k' e => ⟨fun h1 => by have : r = k' := Option.some.inj h1; omega, fun h1 => by have := HLow.out _ h1; omega⟩)
    have hs10 := H10.size
    clear G9 L9 M9 H10 R9
    go_wp2_with fail
    refine (turn_any w10 _ s2 f2 g2 m.length (m ++ mrk 5) (m ++ mrk 5) M10 rfl (by omega)).mono ?_
    rintro e w11 ⟨rfl, M11, H11⟩
    have G11 : Chg (fun _ => False) w w11 := G10.trans' H11 (fun k hk e => by omega)
    have L11 := L10.chg H11 (by omega) (by omega) (by omega)
    have R11 := R10.chg H11 (fun k' e => ⟨fun h1 => by have : r = k' := Option.some.inj h1; omega, fun h1 => by have := HLow.out _ h1; omega⟩)
    have hs11 := H11.size
    clear G10 M10 L10 H11 R10
    have hcall : Calls Try.prog 14 #[.slice a0 l.length cap0, .slice a1 m.length cap1] w11 fun e w' => (∃ r k vs, e = .returned (.tuple #[.slice (some ⟨r, 0, none⟩) 4 k, .bool true]) ∧ Rows2 w' w11.heap.size (.slice (some ⟨r, 0, none⟩) 4 k) vs ((List.range 4).map fun i => encL (part 58 MM i))) ∧ Chg (fun _ => False) w11 w' := by
      obtain ⟨a', c', hv, h | ⟨gx, ox, ha, hg', hc⟩⟩ := HL.out.chgF G11
      · have := HD174.out; omega
      · obtain ⟨a2', c2', hv2, h | ⟨gy, oy, ha2, hg2', hc2⟩⟩ := HM.out.chgF G11
        · have := HB50.out; omega
        · simp only [Value.slice.injEq] at hv hv2
          obtain ⟨hv, -, -⟩ := hv
          obtain ⟨hv2, -, -⟩ := hv2
          subst hv
          subst ha
          subst hv2
          subst ha2
          have := rlay_any w11 gx ox cap0 l HD174.out bl hg' (by have := HD174.out; omega) hc gy oy cap1 m HB50.out bm hg2' hc2 MM HMM.out
          rw [HD174.out, HB50.out]
          exact this
    have HC2 := hyd hcall
    clear hcall
    go_wp2_with fail
    refine HC2.out.mono ?_
    rintro e w12 ⟨⟨r2, k2, vs, rfl, V12⟩, H12⟩
    have G12 := G11.trans H12
    have L12 := L11.chg H12 (fun e => e) (fun e => e) (fun e => e)
    have M12 := M11.chg H12 (fun e => e) (fun e => e) (fun e => e)
    have R12 := R11.chg H12 (fun k e => e.elim)
    have hs12 := H12.size
    have HVL : Hid (vs.length = 4) := hyd (by have := V12.len; simpa using this.symm)
    have q1 := neq_nil_nil
    clear G11 M11 L11 H12 R11 HC2
    go_wp2_with fail
    go_loopw [14] (fun t wr => ∃ i : Nat, i ≤ 4 ∧ t = .int .i64 i ∧ Rowz wr w6.heap.size (.slice (some ⟨r, 0, none⟩) 4 k) gs ((List.range 4).map fun i => encL (part 58 MM i)) ∧ Rows2 wr w11.heap.size (.slice (some ⟨r2, 0, none⟩) 4 k2) vs ((List.range 4).map fun i => encL (part 58 MM i)) ∧ LentAt wr w2.heap.size s f g (trn (l ++ mrk 5).length) (trn (l ++ mrk 5).length) l.length ∧ LentAt wr w3.heap.size s2 f2 g2 (trn (m ++ mrk 5).length) (trn (m ++ mrk 5).length) m.length ∧ Chg (fun _ => False) w wr ∧ w12.heap.size ≤ wr.heap.size) (fun t _ => 4 - (intOf t).toNat)
    case atStart => exact ⟨0, by omega, rfl, R12, V12, L12, M12, G12, Nat.le_refl _⟩
    case round =>
      clear R12 V12 L12 M12 G12
      obtain ⟨i, hi, rfl, R, V, Lx, Ly, G, hsr⟩ := hrel
      by_cases hlt : i < 4
      · have hlt' : (i : Int) < 4 := by omega
        have hkb : (0 : Int) ≤ (i : Int) := by omega
        have hFi : ((List.range 4).map fun i => encL (part 58 MM i)).getD i [] = encL (part 58 MM i) := getD_four _ i hlt
        have hEl : (encL (part 58 MM i)).length = 64 := (encL_cw (part_length HLen.out i hlt) (part_bys hbM i)).1
        have hA := R.arr i (by rw [HGL.out]; exact hlt)
        rw [hFi] at hA
        have hO := V.each i (by rw [HVL.out]; exact hlt)
        rw [hFi] at hO
        have c1 : wr.cell? ⟨r, i, none⟩ = some (.slice (some ⟨gs.getD i 0, 0, none⟩) 64 64) := by
          have hrow := R.row
          rw [HGL.out] at hrow
          rw [ownsRow_cell hrow i hlt (slc 0), List.getD_eq_getElem?_getD, List.getD_eq_getElem?_getD, List.getElem?_map, List.getElem?_eq_getElem (by rw [HGL.out]; exact hlt)]
          rfl
        have c2 : wr.cell? ⟨r2, i, none⟩ = some (vs.getD i (.slice none 0 0)) := by
          have hrow := V.row
          rw [HVL.out] at hrow
          exact ownsRow_cell hrow i hlt _
        obtain ⟨gv, kv, hv, -⟩ := hO.lies (by omega)
        rw [hEl] at hv
        rw [hv] at c2 hO
        have HS := hyd (same_n wr.drew (some ⟨gs.getD i 0, 0, none⟩) (some ⟨gv, 0, none⟩) 64 64 64 kv (encL (part 58 MM i)) (encL (part 58 MM i)) hEl.symm hEl.symm (hA.drew.held 0 64 64 _ hEl.symm (by omega) (fun j _ => by rw [Nat.zero_add])) hO.held (by omega) (by omega))
        have hr1 : decide (encL (part 58 MM i) = encL (part 58 MM i)) = true := by simp
        clear hA hO hv hEl hFi
        generalize gs.getD i 0 = gi at *
        generalize encL (part 58 MM i) = EE at *
        go_wp2_with fail
        go_region_held3 (fun wx => wx.cell? ⟨r, i, none⟩ = some (.slice (some ⟨gi, 0, none⟩) 64 64) ∧ wx.cell? ⟨r2, i, none⟩ = some (.slice (some ⟨gv, 0, none⟩) 64 kv))
          (first | exact ⟨c1, c2⟩ | exact ⟨c1', c2'⟩)
          (first | (go_at_call 15; refine HS.out.mono ?_; rintro e w14 ⟨rfl, H14⟩; rw [hr1]; have c1' : w14.cell? ⟨r, i, none⟩ = some (.slice (some ⟨gi, 0, none⟩) 64 64) := ((World.cell?_of_block (w := wr.drew) (a := ⟨r, i, none⟩) (H14.block r (cell_lt c1) (fun e => e))).trans c1); have c2' : w14.cell? ⟨r2, i, none⟩ = some (.slice (some ⟨gv, 0, none⟩) 64 kv) := ((World.cell?_of_block (w := wr.drew) (a := ⟨r2, i, none⟩) (H14.block r2 (cell_lt c2) (fun e => e))).trans c2)))
        all_goals
          have H15 : Chg (fun _ => False) wr w14 := (Chg.refl _ wr).drew.trans H14
          have hs15 := H15.size
          clear c1 c2 c1' c2' HS H14
          have X1 := R.chg H15 (fun k e => e.elim)
          have X2 := V.chg H15
          have X3 := Lx.chg H15 (fun e => e) (fun e => e) (fun e => e)
          have X4 := Ly.chg H15 (fun e => e) (fun e => e) (fun e => e)
          have X5 := G.trans H15
          clear R V Lx Ly G H15
          go_wp2
          exact ⟨⟨i + 1, by omega, by go_num, X1, X2, X3, X4, X5, by omega⟩, by simp [intOf]; omega⟩
      · have hlt' : ¬ (i : Int) < 4 := by omega
        have hEl : ∀ j, j < 4 → (((List.range 4).map fun i => encL (part 58 MM i)).getD j []).length = 64 := fun j hj => by
          rw [getD_four _ j hj]
          exact (encL_cw (part_length HLen.out j hj) (part_bys hbM j)).1
        have HA := hyd (apart4 R HGL.out hEl (by omega))
        clear hEl R V
        go_wp2_with fail
        refine HA.out.mono ?_
        rintro e w16 ⟨rfl, H16⟩
        have X3 := Lx.chg H16 (fun e => by have := HLow.out _ e; omega) (fun e => by have := HLow.out _ e; omega) (fun e => by have := HLow.out _ e; omega)
        have X4 := Ly.chg H16 (fun e => by have := HLow.out _ e; omega) (fun e => by have := HLow.out _ e; omega) (fun e => by have := HLow.out _ e; omega)
        have X5 : Chg (fun _ => False) w w16 := G.trans' H16 (fun k hk e => by have := HLow.out _ e; omega)
        clear Lx Ly G H16 HA
        go_wp2_with fail
        refine (kept_any w16 _ s f g l.length _ _ X3 htl htl).mono ?_
        rintro e w17 ⟨rfl, H17⟩
        have hd2 : decide (trn (l ++ mrk 5).length = trn (l ++ mrk 5).length) = true := by simp
        rw [hd2]
        have Y4 := X4.chg H17 (fun e => e) (fun e => e) (fun e => e)
        have Y5 := X5.trans H17
        clear X3 X4 X5 H17
        go_wp2_with fail
        refine (kept_any w17 _ s2 f2 g2 m.length _ _ Y4 htm htm).mono ?_
        rintro e w18 ⟨rfl, H18⟩
        have hd3 : decide (trn (m ++ mrk 5).length = trn (m ++ mrk 5).length) = true := by simp
        rw [hd3]
        have Z5 := Y5.trans H18
        clear Y4 Y5 H18
        go_wp2
        go_ret
        exact ⟨rfl, Z5.below (fun k e => e.elim) (Nat.le_refl _)⟩
  · have HOK := hyd hok
    have hcall := lay_bad p w6 (some ⟨f, 0, none⟩) l.length cf (some ⟨f2, 0, none⟩) m.length cf2 hok
    clear hok B6 D6
    go_wp2_with fail
    refine hcall.mono ?_
    rintro e w7 ⟨rfl, H7⟩
    have G7 := G6.trans H7
    have L7 := L6.chg H7 (fun e => e) (fun e => e) (fun e => e)
    have M7 := M6.chg H7 (fun e => e) (fun e => e) (fun e => e)
    clear hcall G6 L6 M6 H7 F6
    go_wp2_with fail
    refine (kept_any w7 _ s f g l.length (l ++ mrk 5) (l ++ mrk 5) L7 (by omega) (by omega)).mono ?_
    rintro e w8 ⟨rfl, H8⟩
    have hdd : decide (l ++ mrk 5 = l ++ mrk 5) = true := by simp
    rw [hdd]
    have G8 := G7.trans H8
    have L8 := L7.chg H8 (fun e => e) (fun e => e) (fun e => e)
    have M8 := M7.chg H8 (fun e => e) (fun e => e) (fun e => e)
    clear G7 L7 M7 H8
    go_wp2_with fail
    refine (kept_any w8 _ s2 f2 g2 m.length (m ++ mrk 5) (m ++ mrk 5) M8 (by omega) (by omega)).mono ?_
    rintro e w9 ⟨rfl, H9⟩
    have hde : decide (m ++ mrk 5 = m ++ mrk 5) = true := by simp
    rw [hde]
    have G9 := G8.trans H9
    have L9 := L8.chg H9 (fun e => e) (fun e => e) (fun e => e)
    have M9 := M8.chg H9 (fun e => e) (fun e => e) (fun e => e)
    clear G8 L8 M8 H9
    go_wp2_with fail
    refine (turn_any w9 _ s f g l.length (l ++ mrk 5) (l ++ mrk 5) L9 rfl (by omega)).mono ?_
    rintro e w10 ⟨rfl, L10, H10⟩
    have G10 : Chg (fun _ => False) w w10 := G9.trans' H10 (fun k hk e => by omega)
    have M10 := M9.chg H10 (by omega) (by omega) (by omega)
    clear G9 L9 M9 H10
    go_wp2_with fail
    refine (turn_any w10 _ s2 f2 g2 m.length (m ++ mrk 5) (m ++ mrk 5) M10 rfl (by omega)).mono ?_
    rintro e w11 ⟨rfl, M11, H11⟩
    have G11 : Chg (fun _ => False) w w11 := G10.trans' H11 (fun k hk e => by omega)
    clear G10 M10 L10 M11 H11
    have hcall := rlay_arg w11 a0 l.length cap0 a1 m.length cap1 HOK.out
    have q1 := eql_arg_arg
    go_wp2_with fail
    refine hcall.mono ?_
    rintro e w12 ⟨rfl, rfl⟩
    clear hcall
    go_wp2
    go_ret
    exact ⟨rfl, G11.below (fun k e => e.elim) (Nat.le_refl _)⟩
end Go.Proofs.Ytdofegphipbcdaa
