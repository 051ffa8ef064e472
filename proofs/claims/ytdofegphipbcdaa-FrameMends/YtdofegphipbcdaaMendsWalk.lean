/-
  FrameMends, walked: with at most 2 turned bytes in a codeword all is read as it was; 3 or 4 in one of data spoil the data alone, 3 or 4 in the tag's the tag alone. Condition: the bytes and the turns came in as slices do.
-/
import Derived.Test.YtdofegphipbcdaaShown
import Derived.Test.YtdofegphipbcdaaFill
import Derived.Test.YtdofegphipbcdaaMendsM
namespace Go.Proofs.Ytdofegphipbcdaa
open Go.RowKit
set_option maxRecDepth 100000

theorem Frm.set {w : World} {p q b : Nat} (h : Frm w p q b) {g : Nat} (h1 : g ≠ p) (h2 : g ≠ q) (h3 : g ≠ b) (o : Nat) (v : Value) : Frm (w.setCell ⟨g, o, none⟩ v) p q b :=
  h.other (Below.heap_setCell _ _ _ _ (by simp; omega)) (Below.heap_setCell _ _ _ _ (by simp; omega)) (Below.heap_setCell _ _ _ _ (by simp; omega))
theorem bys_set {X : List Nat} (h : Bys X) (i x : Nat) (hx : x < 256) : Bys (X.set i x) := by
  intro n hn
  rcases List.mem_or_eq_of_mem_set hn with h1 | h1
  · exact h n h1
  · omega
theorem ownsRow_cell {W : World} {base : Nat} {e : TypeId} {r n cap : Nat} {xs : List Value} (h : W.ownsRow base e 1 (.slice (some ⟨r, 0, none⟩) n cap) n xs) (j : Nat) (hj : j < n) (d : Value) : W.cell? ⟨r, j, none⟩ = some (xs.getD j d) := by
  rcases h.2 with ⟨h1, _⟩ | ⟨g, cap', cur, hv, _, hh, _, _, _, ht⟩
  · cases h1
  · simp only [Value.slice.injEq, Option.some.injEq, Addr.mk.injEq] at hv
    obtain ⟨⟨rfl, -, -⟩, -, -⟩ := hv
    have hl : xs.length = n := by have := h.1; omega
    have h2 : (cur.toList.take (n * 1))[j]? = xs[j]? := by rw [ht]
    rw [List.getElem?_take_of_lt (by omega), Array.getElem?_toList] at h2
    simp only [World.cell?, hh]
    rw [List.getD_eq_getElem?_getD, List.getElem?_eq_getElem (by omega)] at *
    simpa using h2
theorem getD_four {α : Type} [Inhabited α] (F : Nat → List α) (i : Nat) (h : i < 4) : ((List.range 4).map F).getD i [] = F i := by
  have : i = 0 ∨ i = 1 ∨ i = 2 ∨ i = 3 := by omega
  rcases this with rfl | rfl | rfl | rfl <;> rfl

theorem most_up {f : Nat → Nat} {j M : Nat} (h : (j = 0 → M = 0) ∧ (j = 1 → M = f 0) ∧ (j = 2 → M = max (f 0) (f 1)) ∧ (j = 3 → M = max (max (f 0) (f 1)) (f 2))) (hj : j < 3) (hm : M < f j) :
    (j + 1 = 0 → f j = 0) ∧ (j + 1 = 1 → f j = f 0) ∧ (j + 1 = 2 → f j = max (f 0) (f 1)) ∧ (j + 1 = 3 → f j = max (max (f 0) (f 1)) (f 2)) := by
  obtain ⟨h0, h1, h2, -⟩ := h
  have : j = 0 ∨ j = 1 ∨ j = 2 := by omega
  rcases this with rfl | rfl | rfl
  · exact ⟨fun e => by omega, fun _ => rfl, fun e => by omega, fun e => by omega⟩
  · have := h1 rfl
    exact ⟨fun e => by omega, fun e => by omega, fun _ => by omega, fun e => by omega⟩
  · have := h2 rfl
    exact ⟨fun e => by omega, fun e => by omega, fun e => by omega, fun _ => by omega⟩
theorem most_stay {f : Nat → Nat} {j M : Nat} (h : (j = 0 → M = 0) ∧ (j = 1 → M = f 0) ∧ (j = 2 → M = max (f 0) (f 1)) ∧ (j = 3 → M = max (max (f 0) (f 1)) (f 2))) (hj : j < 3) (hm : ¬ M < f j) :
    (j + 1 = 0 → M = 0) ∧ (j + 1 = 1 → M = f 0) ∧ (j + 1 = 2 → M = max (f 0) (f 1)) ∧ (j + 1 = 3 → M = max (max (f 0) (f 1)) (f 2)) := by
  obtain ⟨h0, h1, h2, -⟩ := h
  have : j = 0 ∨ j = 1 ∨ j = 2 := by omega
  rcases this with rfl | rfl | rfl
  · have := h0 rfl
    exact ⟨fun e => by omega, fun _ => by omega, fun e => by omega, fun e => by omega⟩
  · have := h1 rfl
    exact ⟨fun e => by omega, fun e => by omega, fun _ => by omega, fun e => by omega⟩
  · have := h2 rfl
    exact ⟨fun e => by omega, fun e => by omega, fun e => by omega, fun _ => by omega⟩

set_option maxHeartbeats 8000000 in
theorem mends_walk (a0 : Option Addr) (len0 cap0 : Nat) (z0 : List Int) (w : World) (w0 : IsRow .u8 w a0 len0 cap0 z0) (r0 : cap0 * 1 ≤ 140737488351232)
    (a1 : Option Addr) (len1 cap1 : Nat) (hlen1 : len1 ≤ 9223372036854775807) (T : Nat → Int × Nat) (hT : IsTurns w a1 len1 T) :
    Calls Try.prog 5 #[.slice a0 len0 cap0, .slice a1 len1 cap1] w fun e w' => e = .returned (.bool true) ∧ Below w.heap.size w w' := by
  obtain ⟨l, hl0, hc0, bl, -, HL⟩ := row_in w0
  have hln : l.length ≤ 9223372036854775807 := by omega
  clear w0 hc0 r0
  subst hl0
  have HL := hyd HL
  have HT := hyd hT
  clear hT
  have hmk := make50
  go_enter Try.func5, Try.ntmps5
  go_wp2_with fail
  refine (shown_any w).mono ?_
  rintro e w1 ⟨rfl, G1⟩
  go_wp2_with fail
  refine (frame_new w1).mono ?_
  rintro e w2 ⟨p, q, b, rfl, hp, hq, hb, F2, G2⟩
  have G02 : Chg (fun _ => False) w w2 := G1.trans G2
  have hs1 := G1.size
  have hs2 := G02.size
  have hps := F2.lt
  have hqs := F2.1.lt
  have hbs := F2.1.1.lt
  clear G1 G2
  go_wp2_with fail
  refine (raw_any w2 a0 cap0 l bl hln (HL.out.chgF G02) 174 (by omega)).mono ?_
  rintro e w3 ⟨gD, rfl, hgD, D3, H3⟩
  have F3 := F2.chg H3
  have G3 := G02.trans H3
  have hs3 := H3.size
  have hgDl := D3.lt
  clear F2 G02 H3
  have hDl : (padTo l 174 174).length = 174 := padTo_length _ _ _
  have hDb : Bys (padTo l 174 174) := padTo_bys bl 174 174
  generalize padTo l 174 174 = Dt at *
  have D4 := D3.alloc (.cells (bcells z50) 5)
  have B4 := Arr.new w3 5 z50
  have F4 := F3.chg ((Chg.refl (fun _ => False) w3).alloc (.cells (bcells z50) 5))
  have G4 := G3.alloc (.cells (bcells z50) 5)
  have HDl := hyd hDl
  clear D3 F3 G3 hDl
  go_wp2_with fail
  go_loopw [9] (fun t wr => ∃ (i : Nat) (Z : List Nat), i ≤ 50 ∧ t = .int .i64 i ∧ Z.length = 50 ∧ Bys Z ∧ Arr wr w3.heap.size 5 Z ∧ Arr wr gD 5 Dt ∧ Frm wr p q b ∧ Chg (fun _ => False) w wr) (fun t _ => 50 - (intOf t).toNat)
  case atStart => exact ⟨0, z50, by omega, rfl, z50_length, z50_bys, B4, D4, F4, G4⟩
  case round =>
    clear B4 D4 F4 G4 hmk
    obtain ⟨i, Z, hi, rfl, hZ, bZ, B, D, F, G⟩ := hrel
    by_cases hlt : i < 50
    · have hlt' : (i : Int) < 50 := by omega
      have hkb : (0 : Int) ≤ (i : Int) := by omega
      have e3 : IntKind.i64.wrap (3 * (i : Int)) = 3 * (i : Int) := by rw [IntKind.wrap_i64]; omega
      have e4 : (3 * (i : Int)).toNat = 3 * i := by omega
      have c1 := D.cell (3 * i) (by rw [HDl.out]; omega)
      have c2 := B.cell i (by omega)
      have f2 := B.frozen i
      have d1 := hDb.getD (3 * i)
      have x1 : bits .xor .u8 ((Dt.getD (3 * i) 0 : Nat) : Int) 53 = ((Dt.getD (3 * i) 0 ^^^ 53 : Nat) : Int) := u8_xor_nat (Dt.getD (3 * i) 0) 53 d1 (by omega)
      have HB := hyd (B.store i (Dt.getD (3 * i) 0 ^^^ 53))
      have hZ2 : (Z.set i (Dt.getD (3 * i) 0 ^^^ 53)).length = 50 := by rw [List.length_set]; exact hZ
      have bZ2 := bys_set bZ i (Dt.getD (3 * i) 0 ^^^ 53) (xor_lt _ _ d1 (by omega))
      have HD := hyd (D.setOther (show w3.heap.size ≠ gD by omega) i (.int .u8 ((Dt.getD (3 * i) 0 ^^^ 53 : Nat) : Int)))
      have F2 := F.set (show w3.heap.size ≠ p by omega) (show w3.heap.size ≠ q by omega) (show w3.heap.size ≠ b by omega) i (.int .u8 ((Dt.getD (3 * i) 0 ^^^ 53 : Nat) : Int))
      have G2 := G.setCell (Or.inr (show w.heap.size ≤ w3.heap.size by omega)) i (.int .u8 ((Dt.getD (3 * i) 0 ^^^ 53 : Nat) : Int))
      have HZ2 := hyd hZ2
      have HbZ2 := hyd bZ2
      clear B D F G hZ bZ hZ2 bZ2
      generalize Z.set i (Dt.getD (3 * i) 0 ^^^ 53) = Z2 at *
      generalize Dt.getD (3 * i) 0 = xx at *
      go_wp2
      exact ⟨⟨i + 1, Z2, by omega, by go_num, HZ2.out, HbZ2.out, HB.out, HD.out, F2, G2⟩, by simp [intOf]; omega⟩
    · have hlt' : ¬ (i : Int) < 50 := by omega
      obtain ⟨W5, hW5⟩ : ∃ x, x = wr := ⟨_, rfl⟩
      subst hW5
      clear hi
      have HZ := hyd hZ
      clear hZ
      have HLay := hyd (lay_any p q b W5 F gD 0 174 Dt HDl.out hDb (by omega) D.lt D.at0 w3.heap.size 0 50 Z HZ.out bZ B.lt B.at0 _ rfl)
      have hDs := D.lt
      have hBs := B.lt
      have q1 := neq_nil_nil
      go_wp2_with fail
      refine HLay.out.mono ?_
      rintro e W6 ⟨⟨r, k, gs, rfl, R⟩, F6, B6⟩
      have G6 := B6.chgF G (by omega)
      have D6 : Arr W6 gD 5 Dt := D.but B6 (by omega)
      have Z6 : Arr W6 w3.heap.size 5 Z := B.but B6 (by omega)
      have hs6 := B6.size
      have HGL : Hid (gs.length = 4) := hyd (by have := R.len; simpa using this.symm)
      have HF : Hid (∀ i, i < 4 → Cw (wordOf Dt Z i)) := hyd (fun i hi => word_cw HDl.out hDb HZ.out bZ i hi)
      clear HLay B D F G B6
      have hi5 := info5
      go_wp2_with fail
      go_loopw [12, 13] (fun t12 t13 wx => ∃ (j : Nat) (v : Value), j ≤ 4 ∧ v = t12 ∧ t13 = .int .i64 j ∧ Own wx W6.heap.size 5 v (flat (wordOf Dt Z) j) ∧ Chg (fun _ => False) W6 wx) (fun _ t _ => 4 - (intOf t).toNat)
      case atStart => exact ⟨0, _, by omega, rfl, rfl, Own.nil _ _ _, Chg.refl _ _⟩
      case round =>
        obtain ⟨j, v, hj, rfl, rfl, O, G7⟩ := hrel
        have hs7 := G7.size
        have hfl := flat_length (F := wordOf Dt Z) j (fun i hi => (HF.out i (by omega)).1)
        have HFL := hyd hfl
        clear hfl
        by_cases hjl : j < 4
        · have hj' : (j : Int) < 4 := by omega
          have hj0 : (0 : Int) ≤ (j : Int) := by omega
          have R7 := R.chg G7 (fun k e => e.elim)
          have c1 : wr.cell? ⟨r, j, none⟩ = some (.slice (some ⟨gs.getD j 0, 0, none⟩) 64 64) := by
            have hrow := R7.row
            rw [HGL.out] at hrow
            rw [ownsRow_cell hrow j hjl (slc 0), List.getD_eq_getElem?_getD, List.getD_eq_getElem?_getD, List.getElem?_map, List.getElem?_eq_getElem (by rw [HGL.out]; exact hjl)]
            rfl
          have hA : Arr wr (gs.getD j 0) 5 (wordOf Dt Z j) := by
            have := R7.arr j (by rw [HGL.out]; exact hjl)
            rw [getD_four _ j hjl] at this
            exact this
          have HA := hyd hA
          have HWl : Hid ((wordOf Dt Z j).length = 64) := hyd (HF.out j hjl).1
          have HS := hyd (flat_succ (wordOf Dt Z) j)
          clear hA R7
          generalize gs.getD j 0 = gj at *
          go_wp2_with (at_builtin; refine wpList_append_bytes _ rfl _ _ 22 rfl W6.heap.size 5 Try.underlying22 hi5 v (flat (wordOf Dt Z) j) rfl O (some ⟨gj, 0, none⟩) 64 64 (wordOf Dt Z j) rfl HWl.out (fun e => by cases e) (fun ad had i hi => by have e := Option.some.inj had; subst e; rw [Addr.add_lit, Nat.zero_add]; exact HA.out.cell i (by rw [HWl.out]; exact hi)) (by rw [HFL.out]; omega) hs7 wr.heap.size rfl ?_)
          intro v2 w8 O2 hg2 _
          have G8 : Chg (fun _ => False) W6 w8 := G7.grown hg2 (fun k hk => Or.inr (O.block hk).1)
          rw [← HS.out] at O2
          clear hg2 O HA HFL
          go_wp2
          exact ⟨⟨j + 1, _, by omega, rfl, by go_num, O2, G8⟩, by simp [intOf]; omega⟩
        · have hj' : ¬ (j : Int) < 4 := by omega
          have e4 : j = 4 := by omega
          subst e4
          have hCl : (flat (wordOf Dt Z) 4).length = 256 := HFL.out
          have hCb : Bys (flat (wordOf Dt Z) 4) := flat_bys 4 (fun i hi => (HF.out i hi).2.1)
          have hCp : ∀ i, i < 4 → part 64 (flat (wordOf Dt Z) 4) i = wordOf Dt Z i := part_flat 4 (fun i hi => (HF.out i hi).1)
          obtain ⟨gw, kw, hv, hgw, hgws, hkw, cw, -⟩ := O.lies (by omega)
          rw [hCl] at hv
          subst hv
          have D8 : Arr wr gD 5 Dt := D6.chg G7 (fun e => e)
          have Z8 : Arr wr w3.heap.size 5 Z := Z6.chg G7 (fun e => e)
          have F8 := F6.chg G7
          have G8 := G6.trans G7
          have HCl := hyd hCl
          have HCp := hyd hCp
          have HCw := hyd cw
          have hkw' : 256 ≤ kw := by omega
          clear O cw hCl hCp hkw R D6 Z6 F6 G6 G7 HFL HGL
          generalize flat (wordOf Dt Z) 4 = CC at *
          obtain ⟨W8, hW8⟩ : ∃ x, x = wr := ⟨_, rfl⟩
          subst hW8
          go_wp2_with (at_builtin; refine wpList_append_bytes _ rfl _ _ 22 rfl W8.heap.size 5 Try.underlying22 hi5 _ [] rfl (Own.nil _ _ _) (some ⟨gw, 0, none⟩) 256 kw CC rfl HCl.out (fun e => by cases e) (fun ad had i hi => by have e := Option.some.inj had; subst e; rw [Addr.add_lit, Nat.zero_add]; exact HCw.out i (by rw [HCl.out]; exact hi)) (by simp) (Nat.le_refl _) W8.heap.size rfl ?_)
          intro v2 w9 O9 hg9 _
          have G9 : Chg (fun _ => False) W8 w9 := (Chg.refl _ W8).grown hg9 (fun k hk => by cases hk)
          replace O9 : Own w9 W8.heap.size 5 v2 CC := by simpa using O9
          obtain ⟨gp, kp, hv2, hgp, hgps, hkp, -⟩ := O9.lies (by rw [HCl.out]; omega)
          rw [HCl.out] at hv2 hkp
          subst hv2
          have D9 : Arr w9 gD 5 Dt := D8.chg G9 (fun e => e)
          have Z9 : Arr w9 w3.heap.size 5 Z := Z8.chg G9 (fun e => e)
          have F9 := F8.chg G9
          have GG9 := G8.trans G9
          have HCw9 : Hid (∀ i, i < 256 → w9.cell? ⟨gw, i, none⟩ = some (.int .u8 (CC.getD i 0 : Nat))) := hyd (fun i hi => (World.cell?_of_block (w := W8) (a := ⟨gw, i, none⟩) (G9.block gw hgws (fun e => e))).trans (HCw.out i (by rw [HCl.out]; exact hi)))
          have hs9 := G9.size
          have hD8 := D8.lt
          have hZ8 := Z8.lt
          have hF8 := F8.lt
          have hQ8 := F8.1.lt
          have hBb8 := F8.1.1.lt
          clear hg9 D8 Z8 F8 G8 G9 HCw
          go_wp2_with fail
          go_loopw [15] (fun t wx => ∃ (n : Nat) (X : List Nat), n ≤ len1 ∧ t = .int .i64 n ∧ X.length = 256 ∧ Bys X ∧ Own wx W8.heap.size 5 (.slice (some ⟨gp, 0, none⟩) 256 kp) X ∧ Chg (fun k => k = gp) w9 wx) (fun t _ => len1 - (intOf t).toNat)
          case atStart => exact ⟨0, CC, Nat.zero_le _, rfl, HCl.out, hCb, O9, Chg.refl _ _⟩
          case round =>
            clear O9
            obtain ⟨n, X, hn, rfl, hX, bX, O, Gx⟩ := hrel
            by_cases hnl : n < len1
            · have hn' : (n : Int) < (len1 : Int) := by omega
              have hn0 : (0 : Int) ≤ (n : Int) := by omega
              have GW : Chg (fun _ => False) w wr := GG9.trans' Gx (fun k hk e => by omega)
              obtain ⟨g1, o1, rfl, hg1, hx⟩ := (HT.out.chg GW).2.resolve_left (by omega)
              obtain ⟨t1, t2, t3⟩ := HT.out.1 n hnl
              obtain ⟨x1, x2⟩ := hx n hnl
              clear hx GW
              generalize (T n).1 = ti at *
              generalize (T n).2 = tb at *
              go_wp2_with fail
              refine (pick256 wr ti t1 t2).mono ?_
              rintro e w10 ⟨kk, hkk, rfl, rfl⟩
              obtain ⟨g', k', hv, -, -, -, hcx, hfx⟩ := O.lies (by omega)
              simp only [Value.slice.injEq, Option.some.injEq, Addr.mk.injEq] at hv
              obtain ⟨⟨rfl, -, -⟩, -, rfl⟩ := hv
              have y1 := hcx kk (by omega)
              have y2 := hfx kk
              have b1 := bX.getD kk
              have kk0 : (0 : Int) ≤ (kk : Int) := by omega
              have kk64 : (kk : Int) < 256 := by omega
              have HO2 := hyd (O.store kk (X.getD kk 0 ^^^ tb) (by omega))
              have HB2 := hyd (bys_set bX kk (X.getD kk 0 ^^^ tb) (xor_lt _ _ b1 t3))
              have e1 := u8_xor_nat (X.getD kk 0) tb b1 t3
              have HX2 : Hid ((X.set kk (X.getD kk 0 ^^^ tb)).length = 256) := hyd (by rw [List.length_set]; exact hX)
              clear O hcx hfx
              generalize X.getD kk 0 = xx at *
              generalize X.set kk (xx ^^^ tb) = X2 at *
              go_wp2_with fail
              go_region_with fail
              all_goals
                go_wp2
                exact ⟨⟨n + 1, X2, by omega, by go_num, HX2.out, HB2.out, HO2.out, Gx.drew.setCell (Or.inl rfl) _ _⟩, by simp [intOf]; omega⟩
            · have hn' : ¬ (n : Int) < (len1 : Int) := by omega
              obtain ⟨g', k', hv, -, -, -, hcx, -⟩ := O.lies (by omega)
              simp only [Value.slice.injEq, Option.some.injEq, Addr.mk.injEq] at hv
              obtain ⟨⟨rfl, -, -⟩, -, rfl⟩ := hv
              have HCX := hyd (show ∀ i, i < 256 → wr.cell? ⟨gp, i, none⟩ = some (.int .u8 (X.getD i 0 : Nat)) from fun i hi => hcx i (by omega))
              have HCW := hyd (show ∀ i, i < 256 → wr.cell? ⟨gw, i, none⟩ = some (.int .u8 (CC.getD i 0 : Nat)) from fun i hi => (World.cell?_of_block (w := w9) (a := ⟨gw, i, none⟩) (Gx.block gw (by omega) (by omega))).trans (HCw9.out i hi))
              have D10 : Arr wr gD 5 Dt := D9.chg Gx (by omega)
              have Z10 : Arr wr w3.heap.size 5 Z := Z9.chg Gx (by omega)
              have F10 : Frm wr p q b := F9.other (Gx.block _ F9.1.1.lt (by omega)) (Gx.block _ F9.1.lt (by omega)) (Gx.block _ F9.lt (by omega))
              have G10 : Chg (fun _ => False) w wr := GG9.trans' Gx (fun k hk e => by omega)
              have hs10 := Gx.size
              have HX := hyd hX
              clear hcx O D9 Z9 F9 GG9 Gx HCw9 hX
              obtain ⟨WA, hWA⟩ : ∃ x, x = wr := ⟨_, rfl⟩
              subst hWA
              have HH : ∀ i, i < 4 → ds (part 64 X i) (part 64 CC i) = hurt Dt Z X i := fun i hi => by rw [HCp.out i hi]; rfl
              have HHu := hyd HH
              clear HH
              go_wp2_with fail
              go_loopw [17, 18] (fun t17 t18 wx => ∃ (j M : Nat), j ≤ 3 ∧ t17 = .int .i64 (M : Int) ∧ t18 = .int .i64 j ∧ M ≤ 64 ∧ Hid ((j = 0 → M = 0) ∧ (j = 1 → M = hurt Dt Z X 0) ∧ (j = 2 → M = max (hurt Dt Z X 0) (hurt Dt Z X 1)) ∧ (j = 3 → M = max (max (hurt Dt Z X 0) (hurt Dt Z X 1)) (hurt Dt Z X 2))) ∧ Chg (fun _ => False) WA wx) (fun _ t _ => 3 - (intOf t).toNat)
              case atStart => exact ⟨0, 0, by omega, rfl, rfl, by omega, hyd ⟨fun _ => rfl, fun h => by omega, fun h => by omega, fun h => by omega⟩, Chg.refl _ _⟩
              case round =>
                obtain ⟨j, M, hj, rfl, rfl, hM64, HMx, Gy⟩ := hrel
                have hsy := Gy.size
                by_cases hjl : j < 3
                · have hj3 : (j : Int) < 3 := by omega
                  have hj0 : (0 : Int) ≤ (j : Int) := by omega
                  have hcall := rapart_any wr.drew gp (64 * j) (kp - 64 * j) gw (64 * j) (kw - 64 * j) (part 64 X j) (part 64 CC j) (part_length (by rw [HX.out]) j (by omega)) (part_length (by rw [HCl.out]) j (by omega)) (part_bys bX j) (part_bys hCb j)
                    (fun i hi => by
                      rw [part_getD 64 X j i hi, Nat.mul_comm 64 j]
                      exact (World.cell?_of_block (w := WA) (a := ⟨gp, j * 64 + i, none⟩) (Gy.block gp (cell_lt (HCX.out 0 (by omega))) (fun e => e))).trans (HCX.out _ (by omega)))
                    (fun i hi => by
                      rw [part_getD 64 CC j i hi, Nat.mul_comm 64 j]
                      exact (World.cell?_of_block (w := WA) (a := ⟨gw, j * 64 + i, none⟩) (Gy.block gw (cell_lt (HCW.out 0 (by omega))) (fun e => e))).trans (HCW.out _ (by omega)))
                  rw [HHu.out j (by omega)] at hcall
                  have HC := hyd hcall
                  have e64 : 64 * j + 64 - 64 * j = 64 := by omega
                  have hhl : hurt Dt Z X j ≤ 64 := wt_lt _ 64
                  clear hcall
                  have wa : IntKind.i64.wrap (64 * (j : Int)) = 64 * (j : Int) := by rw [IntKind.wrap_i64]; omega
                  have wb : IntKind.i64.wrap (64 * (j : Int) + 64) = 64 * (j : Int) + 64 := by rw [IntKind.wrap_i64]; omega
                  have wc : (64 * (j : Int)).toNat = 64 * j := by omega
                  have wd : (64 * (j : Int) + 64).toNat = 64 * j + 64 := by omega
                  have we : (0 : Int) ≤ 64 * (j : Int) := by omega
                  have wf : 64 * (j : Int) ≤ 64 * (j : Int) + 64 := by omega
                  have wg : 64 * (j : Int) + 64 ≤ (kp : Int) := by omega
                  have wh : 64 * (j : Int) + 64 ≤ (kw : Int) := by omega
                  have nk1 : ¬ kp = 64 * j := by omega
                  have nk2 : ¬ kw = 64 * j := by omega
                  go_wp2_with fail
                  go_region_held3 (fun _ => True) (trivial) (first | (go_at_call 26; (try rw [if_neg nk1, if_neg nk2]); refine HC.out.mono ?_; rintro e w12 ⟨rfl, H12⟩))
                  all_goals
                    have Gy2 : Chg (fun _ => False) WA w12 := Gy.drew.trans H12
                    by_cases hmx : M < hurt Dt Z X j
                    · have hmx' : (M : Int) < ((hurt Dt Z X j : Nat) : Int) := by omega
                      have HM2 : Hid ((j + 1 = 0 → hurt Dt Z X j = 0) ∧ (j + 1 = 1 → hurt Dt Z X j = hurt Dt Z X 0) ∧ (j + 1 = 2 → hurt Dt Z X j = max (hurt Dt Z X 0) (hurt Dt Z X 1)) ∧ (j + 1 = 3 → hurt Dt Z X j = max (max (hurt Dt Z X 0) (hurt Dt Z X 1)) (hurt Dt Z X 2))) := hyd (most_up (f := hurt Dt Z X) HMx.out hjl hmx)
                      generalize hurt Dt Z X j = hj2 at *
                      clear HC H12 Gy
                      go_wp2
                      exact ⟨⟨j + 1, hj2, by omega, rfl, by go_num, hhl, HM2, Gy2⟩, by simp [intOf]; omega⟩
                    · have hmx' : ¬ (M : Int) < ((hurt Dt Z X j : Nat) : Int) := by omega
                      have HM2 : Hid ((j + 1 = 0 → M = 0) ∧ (j + 1 = 1 → M = hurt Dt Z X 0) ∧ (j + 1 = 2 → M = max (hurt Dt Z X 0) (hurt Dt Z X 1)) ∧ (j + 1 = 3 → M = max (max (hurt Dt Z X 0) (hurt Dt Z X 1)) (hurt Dt Z X 2))) := hyd (most_stay (f := hurt Dt Z X) HMx.out hjl hmx)
                      generalize hurt Dt Z X j = hj2 at *
                      clear HC H12 Gy
                      go_wp2
                      exact ⟨⟨j + 1, M, by omega, rfl, by go_num, hM64, HM2, Gy2⟩, by simp [intOf]; omega⟩
                · have hj3 : ¬ (j : Int) < 3 := by omega
                  have ej : j = 3 := by omega
                  subst ej
                  have HMO : Hid (M = max (max (hurt Dt Z X 0) (hurt Dt Z X 1)) (hurt Dt Z X 2)) := hyd (HMx.out.2.2.2 rfl)
                  clear HMx
                  have hcall := rapart_any wr.drew gp 192 (kp - 192) gw 192 (kw - 192) (part 64 X 3) (part 64 CC 3) (part_length (by rw [HX.out]) 3 (by omega)) (part_length (by rw [HCl.out]) 3 (by omega)) (part_bys bX 3) (part_bys hCb 3)
                    (fun i hi => by
                      rw [part_getD 64 X 3 i hi]
                      exact (World.cell?_of_block (w := WA) (a := ⟨gp, 3 * 64 + i, none⟩) (Gy.block gp (cell_lt (HCX.out 0 (by omega))) (fun e => e))).trans (HCX.out _ (by omega)))
                    (fun i hi => by
                      rw [part_getD 64 CC 3 i hi]
                      exact (World.cell?_of_block (w := WA) (a := ⟨gw, 3 * 64 + i, none⟩) (Gy.block gw (cell_lt (HCW.out 0 (by omega))) (fun e => e))).trans (HCW.out _ (by omega)))
                  rw [HHu.out 3 (by omega)] at hcall
                  obtain ⟨TG, hTG⟩ : ∃ TG, hurt Dt Z X 3 = TG := ⟨_, rfl⟩
                  have htl : hurt Dt Z X 3 ≤ 64 := wt_lt _ 64
                  rw [hTG] at hcall htl
                  have HTG := hyd hTG
                  have HC := hyd hcall
                  have nk1 : ¬ kp = 192 := by omega
                  have nk2 : ¬ kw = 192 := by omega
                  have wg : (256 : Int) ≤ (kp : Int) := by omega
                  have wh : (256 : Int) ≤ (kw : Int) := by omega
                  clear hcall hTG
                  go_wp2_with fail
                  go_region_held3 (fun _ => True) (trivial) (first | (go_at_call 26; (try rw [if_neg nk1, if_neg nk2]); refine HC.out.mono ?_; rintro e w12 ⟨rfl, H12⟩))
                  have Gy2 : Chg (fun _ => False) WA w12 := Gy.drew.trans H12
                  have hs12 := Gy2.size
                  have F12 := F10.chg Gy2
                  have D12 : Arr w12 gD 5 Dt := D10.chg Gy2 (fun e => e)
                  have Z12 : Arr w12 w3.heap.size 5 Z := Z10.chg Gy2 (fun e => e)
                  have G12 := G10.trans Gy2
                  have hgpl := cell_lt (HCX.out 0 (by omega))
                  have P12 : Held w12 (.slice (some ⟨gp, 0, none⟩) 256 kp) X := ⟨some ⟨gp, 0, none⟩, kp, by rw [HX.out], Or.inr ⟨gp, 0, rfl, by omega, fun i hi => by
                    rw [Nat.zero_add]
                    exact (World.cell?_of_block (w := WA) (a := ⟨gp, i, none⟩) (Gy2.block gp hgpl (fun e => e))).trans (HCX.out i (by have := HX.out; omega))⟩⟩
                  have HData := hyd (data_v p q b w12 F12 gp 0 256 kp X HX.out.symm bX (by omega) (by omega) hkp P12)
                  have HP12 := hyd P12
                  have hb12 := F12.1.1.lt
                  clear HC H12 Gy Gy2 D10 Z10 F10 G10 HCX HCW P12
                  go_wp2_with fail
                  refine HData.out.mono ?_
                  rintro e w13 ⟨⟨da, dn, dc, R2, d2, c2, rfl, hdn, Q2, O2⟩, F13, B13⟩
                  have HDN := hyd hdn
                  have Q2 := hyd Q2
                  have G13 := B13.chgF G12 (by omega)
                  have D13 : Arr w13 gD 5 Dt := D12.but B13 (by omega)
                  have Z13 : Arr w13 w3.heap.size 5 Z := Z12.but B13 (by omega)
                  have P13 : Held w13 (.slice (some ⟨gp, 0, none⟩) 256 kp) X := HP12.out.chg B13.chg (fun k hk he => by have : gp = k := Option.some.inj he; omega)
                  have hs13 := B13.size
                  have hgp13 : gp < w13.heap.size := by omega
                  have HBody := hyd (body_v p q b w13 F13 gp 0 256 kp X HX.out.symm bX (by omega) hgp13 hkp P13)
                  have HOB := hyd (show ∀ k, (Value.slice da dn dc).ownBlock = some k → k ≠ b from fun k hk => by have := (O2.block hk).1; omega)
                  have HH2 := hyd O2.held
                  clear hdn G12 D12 Z12 B13 HP12 P13 O2 HData F12
                  go_wp2_with fail
                  refine HBody.out.mono ?_
                  rintro e w14 ⟨⟨ba, bn, bc, R3, d3, c3, rfl, hbn, Q3, O3⟩, -, B14⟩
                  have HBN := hyd hbn
                  have Q3 := hyd Q3
                  have G14 := B14.chgF G13 (by omega)
                  have D14 := hyd (show Arr w14 gD 5 Dt from D13.but B14 (by omega))
                  have Z14 := hyd (show Arr w14 w3.heap.size 5 Z from Z13.but B14 (by omega))
                  have HH2b : Hid (Held w14 (.slice da dn dc) R2) := hyd (HH2.out.chg B14.chg (fun k hk he => HOB.out k he))
                  have HH3 := hyd O3.held
                  have HG14 := hyd G14
                  clear hbn G13 D13 Z13 B14 O3 HBody HH2 HOB F13 G14
                  by_cases hm2 : M ≤ 2
                  · have hm2' : (M : Int) ≤ 2 := by omega
                    obtain ⟨f1, f2, f3⟩ := mends_data HDl.out hDb HZ.out bZ HX.out Q2.out (by rw [← HMO.out]; exact hm2)
                    rw [← HMO.out] at f2
                    have F1 := hyd f1
                    subst f2 f3
                    have hE0 : errV 0 = .nilIface := rfl
                    rw [hE0]
                    clear f1
                    go_wp2_with fail
                    refine (same_n _ da (some ⟨gD, 0, none⟩) dn 174 dc 174 R2 Dt HDN.out HDl.out.symm HH2b.out (D14.out.held 0 174 174 _ HDl.out.symm (by have := HDl.out; omega) (fun i _ => by rw [Nat.zero_add])) (by rw [F1.out, HDl.out]; omega) (by rw [HDl.out]; omega)).mono ?_
                    rintro e w15 ⟨rfl, H15⟩
                    have hdt : decide (R2 = Dt) = true := decide_eq_true F1.out
                    rw [hdt]
                    have Gz := hyd (HG14.out.trans H15)
                    have Zz := hyd (Z14.out.chg H15 (fun e => e))
                    have Oz := hyd (HH3.out.chgF H15)
                    have qn := neq_nil_nil
                    clear H15 HG14 Z14 HH3 hdt
                    by_cases ht2 : TG ≤ 2
                    · have ht2' : (TG : Int) ≤ 2 := by omega
                      obtain ⟨f1, f2, f3⟩ := mends_body HDl.out hDb HZ.out bZ HX.out Q3.out (by rw [HTG.out]; exact ht2)
                      rw [HTG.out] at f2
                      subst f1 f2 f3
                      have hE0 : errV 0 = .nilIface := rfl
                      rw [hE0]
                      go_wp2_with fail
                      refine (same_n _ ba (some ⟨w3.heap.size, 0, none⟩) bn 50 bc 50 _ _ HBN.out HZ.out.symm Oz.out (Zz.out.held 0 50 50 _ HZ.out.symm (by have := HZ.out; omega) (fun i _ => by rw [Nat.zero_add])) (by have := HZ.out; omega) (by have := HZ.out; omega)).mono ?_
                      rintro e wq ⟨rfl, Hq⟩
                      have Gq := Gz.out.trans Hq
                      have qq1 := eql_nil_nil
                      clear Hq
                      simp only [decide_true]
                      go_wp2
                      go_ret
                      exact ⟨rfl, Gq.below (fun k e => e.elim) (Nat.le_refl _)⟩
                    · have ht2' : ¬ (TG : Int) ≤ 2 := by omega
                      have Gq := Gz.out
                      by_cases ht4 : TG ≤ 4
                      · have ht4' : ¬ (4 : Int) < (TG : Int) := by omega
                        obtain ⟨f1, f2, f3⟩ := told_body HDl.out hDb HZ.out bZ HX.out Q3.out (by rw [HTG.out]; omega) (by rw [HTG.out]; exact ht4)
                        subst f1 f2 f3
                        have hbn0 : bn = 0 := HBN.out
                        subst hbn0
                        have hE5 : errV 5 = .iface 36 (.int .i64 5) := rfl
                        rw [hE5]
                        have qq1 := eql_dec_dec
                        go_wp2
                        go_ret
                        exact ⟨rfl, Gq.below (fun k e => e.elim) (Nat.le_refl _)⟩
                      · have ht4' : (4 : Int) < (TG : Int) := by omega
                        go_wp2
                        go_ret
                        exact ⟨rfl, Gq.below (fun k e => e.elim) (Nat.le_refl _)⟩
                  · have hm2' : ¬ (M : Int) ≤ 2 := by omega
                    have Gz := HG14
                    have Zz := Z14
                    have Oz := HH3
                    by_cases hm4 : M ≤ 4
                    · have hm4' : (M : Int) ≤ 4 := by omega
                      obtain ⟨f1, f2, f3⟩ := told_data HDl.out hDb HZ.out bZ HX.out Q2.out (by rw [← HMO.out]; omega) (by rw [← HMO.out]; exact hm4)
                      subst f1 f2 f3
                      have hdn0 : dn = 0 := HDN.out
                      subst hdn0
                      have hE5 : errV 5 = .iface 36 (.int .i64 5) := rfl
                      rw [hE5]
                      have qn := neq_dec_dec
                      by_cases ht2 : TG ≤ 2
                      · have ht2' : (TG : Int) ≤ 2 := by omega
                        obtain ⟨f1, f2, f3⟩ := mends_body HDl.out hDb HZ.out bZ HX.out Q3.out (by rw [HTG.out]; exact ht2)
                        rw [HTG.out] at f2
                        subst f1 f2 f3
                        have hE0 : errV 0 = .nilIface := rfl
                        rw [hE0]
                        go_wp2_with fail
                        refine (same_n _ ba (some ⟨w3.heap.size, 0, none⟩) bn 50 bc 50 _ _ HBN.out HZ.out.symm Oz.out (Zz.out.held 0 50 50 _ HZ.out.symm (by have := HZ.out; omega) (fun i _ => by rw [Nat.zero_add])) (by have := HZ.out; omega) (by have := HZ.out; omega)).mono ?_
                        rintro e wq ⟨rfl, Hq⟩
                        have Gq := Gz.out.trans Hq
                        have qq1 := eql_nil_nil
                        clear Hq
                        simp only [decide_true]
                        go_wp2
                        go_ret
                        exact ⟨rfl, Gq.below (fun k e => e.elim) (Nat.le_refl _)⟩
                      · have ht2' : ¬ (TG : Int) ≤ 2 := by omega
                        have Gq := Gz.out
                        by_cases ht4 : TG ≤ 4
                        · have ht4' : ¬ (4 : Int) < (TG : Int) := by omega
                          obtain ⟨f1, f2, f3⟩ := told_body HDl.out hDb HZ.out bZ HX.out Q3.out (by rw [HTG.out]; omega) (by rw [HTG.out]; exact ht4)
                          subst f1 f2 f3
                          have hbn0 : bn = 0 := HBN.out
                          subst hbn0
                          have hE5 : errV 5 = .iface 36 (.int .i64 5) := rfl
                          rw [hE5]
                          have qq1 := eql_dec_dec
                          go_wp2
                          go_ret
                          exact ⟨rfl, Gq.below (fun k e => e.elim) (Nat.le_refl _)⟩
                        · have ht4' : (4 : Int) < (TG : Int) := by omega
                          go_wp2
                          go_ret
                          exact ⟨rfl, Gq.below (fun k e => e.elim) (Nat.le_refl _)⟩
                    · have hm4' : ¬ (M : Int) ≤ 4 := by omega
                      by_cases ht2 : TG ≤ 2
                      · have ht2' : (TG : Int) ≤ 2 := by omega
                        obtain ⟨f1, f2, f3⟩ := mends_body HDl.out hDb HZ.out bZ HX.out Q3.out (by rw [HTG.out]; exact ht2)
                        rw [HTG.out] at f2
                        subst f1 f2 f3
                        have hE0 : errV 0 = .nilIface := rfl
                        rw [hE0]
                        go_wp2_with fail
                        refine (same_n _ ba (some ⟨w3.heap.size, 0, none⟩) bn 50 bc 50 _ _ HBN.out HZ.out.symm Oz.out (Zz.out.held 0 50 50 _ HZ.out.symm (by have := HZ.out; omega) (fun i _ => by rw [Nat.zero_add])) (by have := HZ.out; omega) (by have := HZ.out; omega)).mono ?_
                        rintro e wq ⟨rfl, Hq⟩
                        have Gq := Gz.out.trans Hq
                        have qq1 := eql_nil_nil
                        clear Hq
                        simp only [decide_true]
                        go_wp2
                        go_ret
                        exact ⟨rfl, Gq.below (fun k e => e.elim) (Nat.le_refl _)⟩
                      · have ht2' : ¬ (TG : Int) ≤ 2 := by omega
                        have Gq := Gz.out
                        by_cases ht4 : TG ≤ 4
                        · have ht4' : ¬ (4 : Int) < (TG : Int) := by omega
                          obtain ⟨f1, f2, f3⟩ := told_body HDl.out hDb HZ.out bZ HX.out Q3.out (by rw [HTG.out]; omega) (by rw [HTG.out]; exact ht4)
                          subst f1 f2 f3
                          have hbn0 : bn = 0 := HBN.out
                          subst hbn0
                          have hE5 : errV 5 = .iface 36 (.int .i64 5) := rfl
                          rw [hE5]
                          have qq1 := eql_dec_dec
                          go_wp2
                          go_ret
                          exact ⟨rfl, Gq.below (fun k e => e.elim) (Nat.le_refl _)⟩
                        · have ht4' : (4 : Int) < (TG : Int) := by omega
                          go_wp2
                          go_ret
                          exact ⟨rfl, Gq.below (fun k e => e.elim) (Nat.le_refl _)⟩
end Go.Proofs.Ytdofegphipbcdaa
