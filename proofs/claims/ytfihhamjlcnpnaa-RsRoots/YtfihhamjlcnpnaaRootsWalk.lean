/-
  RsRoots, walked: codewords are what the six roots are roots of; their sums are codewords. Condition: the bytes and the turns came in as slices do.
-/
import Derived.Test.YtfihhamjlcnpnaaTurns
import Derived.Test.YtfihhamjlcnpnaaMendsWalk
import Derived.Deep.AppendLies
import Derived.Deep.RegionLaw
namespace Go.Proofs.Ytfihhamjlcnpnaa
open Go.RowKit
set_option maxRecDepth 100000

/-- The sum of the first n places of two words. -/
def xorL (a b : List Nat) (n : Nat) : List Nat := (List.range n).map (df a b)
theorem xorL_length (a b : List Nat) (n : Nat) : (xorL a b n).length = n := by simp [xorL]
theorem xorL_succ (a b : List Nat) (n : Nat) : xorL a b (n + 1) = xorL a b n ++ [df a b n] := by simp [xorL, List.range_succ]
theorem xorL_getD (a b : List Nat) (n i : Nat) (h : i < n) : (xorL a b n).getD i 0 = df a b i := by simp [xorL, List.getD_eq_getElem?_getD, h]
theorem xorL_bys {a b : List Nat} (ha : Bys a) (hb : Bys b) (n : Nat) : Bys (xorL a b n) := by
  intro x hx
  simp only [xorL, List.mem_map] at hx
  obtain ⟨i, _, rfl⟩ := hx
  exact df_lt ha hb i
theorem fv_congr {f g : Nat → Nat} (k n : Nat) (h : ∀ i, i < n → f i = g i) : fv f k n = fv g k n := by
  induction n with
  | zero => rfl
  | succ n ih => simp only [fv, ih (fun i hi => h i (by omega)), h n (by omega)]
theorem cw_xor {a b : List Nat} (ha : Cw a) (hb : Cw b) : Cw (xorL a b 64) := by
  refine ⟨xorL_length _ _ _, xorL_bys ha.2.1 hb.2.1 64, fun k hk => ?_⟩
  rw [ev_fv _ (xorL_length _ _ _) (xorL_bys ha.2.1 hb.2.1 64) k (by omega), fv_congr (g := df a b) k 64 (fun i hi => xorL_getD a b 64 i hi), sy_df ha.1 hb.1 ha.2.1 hb.2.1 k hk, ha.2.2 k hk, hb.2.2 k hk]
  rfl
theorem roots_iff {X : List Nat} (hX : X.length = 64) (bX : Bys X) : (∀ k, k < 6 → sy X k = 0) ↔ encL (X.take 58) = X := by
  have htl : (X.take 58).length = 58 := by rw [List.length_take, hX]; rfl
  have hcw := encL_cw htl (bX.take 58)
  refine ⟨fun h => ?_, fun h k hk => ?_⟩
  · exact cw_msg hcw ⟨hX, bX, h⟩ (encL_take htl)
  · rw [← h]; exact hcw.2.2 k hk
theorem Fld.chgF {w w' : World} {b : Nat} (h : Fld w b) (hc : Chg (fun _ => False) w w') : Fld w' b := h.other (hc.block b h.lt (fun e => e))
theorem Fld.but' {w w' : World} {b c : Nat} (h : Fld w b) (hc : But c w w') (hn : b ≠ c) : Fld w' b := h.other (hc.block b h.lt hn)

/-- Whether the first j syndromes are noughts. -/
def Seen (X : List Nat) (j : Nat) (b : Bool) : Prop := b = true ↔ ∀ k, k < j → sy X k = 0
theorem Seen.next {X : List Nat} {j : Nat} {b : Bool} (h : Seen X j b) (b2 : Bool) (h2 : b2 = true ↔ b = true ∧ sy X j = 0) : Seen X (j + 1) b2 := by
  unfold Seen at h ⊢
  rw [h2, h]
  constructor
  · rintro ⟨h1, h2⟩ k hk
    by_cases e : k = j
    · rw [e]; exact h2
    · exact h1 k (by omega)
  · intro h1
    exact ⟨fun k hk => h1 k (by omega), h1 j (by omega)⟩
theorem Seen.start (X : List Nat) : Seen X 0 true := ⟨fun _ _ hk => absurd hk (Nat.not_lt_zero _), fun _ => rfl⟩
set_option maxHeartbeats 16000000 in
theorem roots_walk (a0 : Option Addr) (len0 cap0 : Nat) (z0 : List Int) (a1 : Option Addr) (len1 cap1 : Nat) (z1 : List Int) (w : World) (w0 : IsRow .u8 w a0 len0 cap0 z0) (w1 : IsRow .u8 w a1 len1 cap1 z1) (r0 : cap0 * 1 ≤ 140737488351232) (r1 : cap1 * 1 ≤ 140737488351232)
    (a2 : Option Addr) (len2 cap2 : Nat) (hlen2 : len2 ≤ 9223372036854775807) (T : Nat → Int × Nat) (hT : IsTurns w a2 len2 T) :
    Calls Try.prog 8 #[.slice a0 len0 cap0, .slice a1 len1 cap1, .slice a2 len2 cap2] w fun e w' => e = .returned (.bool true) ∧ Below w.heap.size w w' := by
  obtain ⟨l, hl0, hc0, bl, -, HL⟩ := row_in w0
  obtain ⟨l2, hl2, hc2, bl2, -, HL2⟩ := row_in w1
  have hln : l.length ≤ 9223372036854775807 := by omega
  have hln2 : l2.length ≤ 9223372036854775807 := by omega
  clear w0 w1 hc0 hc2 r0 r1
  subst hl0 hl2
  have HL := hyd HL
  have HL2 := hyd HL2
  have HT := hyd hT
  clear hT
  go_enter Try.func8, Try.ntmps8
  go_wp2_with fail
  refine (shown_any w).mono ?_
  rintro e w1 ⟨rfl, G1⟩
  go_wp2_with fail
  refine (codec_new w1).mono ?_
  rintro e w2 ⟨q, b, rfl, hq, hb, C2, G2⟩
  have G02 : Chg (fun _ => False) w w2 := G1.trans G2
  have hs1 := G1.size
  have hqs := C2.lt
  have hbs := C2.1.lt
  have hne := C2.ne
  clear G1 G2
  go_wp2_with fail
  refine (new_any w2).mono ?_
  rintro e w3 ⟨rfl, rfl⟩
  have C3 : Cod (w2.alloc (.cells (fcells 0 0 0) 91)) q b := C2.alloc _
  have G3 : Chg (fun _ => False) w (w2.alloc (.cells (fcells 0 0 0) 91)) := G02.alloc _
  have F3 : Fld (w2.alloc (.cells (fcells 0 0 0) 91)) w2.heap.size := Or.inl (by show (w2.heap.push _)[w2.heap.size]? = _; simp)
  have hs3 : (w2.alloc (.cells (fcells 0 0 0) 91)).heap.size = w2.heap.size + 1 := by simp
  have hs2 := G02.size
  clear C2 G02
  generalize w2.alloc (.cells (fcells 0 0 0) 91) = w3 at *
  generalize w2.heap.size = f at *
  go_wp2_with fail
  refine (message_any w3 a0 cap0 l bl hln (HL.out.chgF G3)).mono ?_
  rintro e w4 ⟨g4, rfl, hg4, M4, H4⟩
  have C4 := C3.chg H4
  have F4 := F3.chgF H4
  have G4 := G3.trans H4
  have hs4 := H4.size
  clear C3 F3 G3 H4
  have hpl : (padTo l 58 58).length = 58 := padTo_length _ _ _
  have hpb : Bys (padTo l 58 58) := padTo_bys bl 58 58
  generalize padTo l 58 58 = p at *
  have hg4l := M4.lt
  go_wp2_with fail
  refine (encode_any q b w4 C4 g4 0 58 p hpl hpb (by omega) M4.lt M4.at0).mono ?_
  rintro e w5 ⟨g5, rfl, hg5, E5, C5, B5⟩
  have F5 := F4.but' B5 (by omega)
  have G5 : Chg (fun _ => False) w w5 := B5.chgF G4 (by omega)
  have hs5 := B5.size
  clear C4 F4 G4 B5 M4
  have HV := hyd (encL_cw hpl hpb)
  obtain ⟨v1, v2, -⟩ := HV.out
  generalize encL p = V at *
  go_wp2_with fail
  refine (message_any w5 a1 cap1 l2 bl2 hln2 (HL2.out.chgF G5)).mono ?_
  rintro e w6 ⟨g6, rfl, hg6, M6, H6⟩
  have C6 := C5.chg H6
  have F6 := F5.chgF H6
  have E6 : Arr w6 g5 5 V := E5.chg H6 (fun e => e)
  have G6 := G5.trans H6
  have hs6 := H6.size
  have hg5l := E5.lt
  clear C5 F5 G5 H6 E5
  have hpl2 : (padTo l2 58 58).length = 58 := padTo_length _ _ _
  have hpb2 : Bys (padTo l2 58 58) := padTo_bys bl2 58 58
  generalize padTo l2 58 58 = p2 at *
  have hg6l := M6.lt
  go_wp2_with fail
  refine (encode_any q b w6 C6 g6 0 58 p2 hpl2 hpb2 (by omega) M6.lt M6.at0).mono ?_
  rintro e w7 ⟨g7, rfl, hg7, E7, C7, B7⟩
  have F7 := F6.but' B7 (by omega)
  have G7 : Chg (fun _ => False) w w7 := B7.chgF G6 (by omega)
  have V7 : Arr w7 g5 5 V := E6.but B7 (by omega)
  have hs7 := B7.size
  clear C6 F6 G6 B7 M6 E6
  have HU := hyd (encL_cw hpl2 hpb2)
  obtain ⟨u1, u2, -⟩ := HU.out
  generalize encL p2 = U at *
  have hg7l := E7.lt
  have q1 := neq_nil_nil
  go_wp2_with fail
  clear q1
  go_loopw [14, 15] (fun s t wr => ∃ i : Nat, i ≤ 64 ∧ t = .int .i64 i ∧ Own wr w7.heap.size 5 s (xorL V U i) ∧ Chg (fun _ => False) w7 wr) (fun _ t _ => 64 - (intOf t).toNat)
  case atStart => exact ⟨0, by omega, rfl, Own.nil _ _ _, Chg.refl _ _⟩
  case round =>
    obtain ⟨i, hi, rfl, hO, hC⟩ := hrel
    have hws := hC.size
    by_cases hlt : i < 64
    · have hlt' : (i : Int) < 64 := by omega
      have hi0 : (0 : Int) ≤ (i : Int) := by omega
      have k1 : wr.cell? ⟨g5, i, none⟩ = some (.int .u8 (V.getD i 0 : Nat)) := (V7.chg hC (fun e => e)).cell i (by omega)
      have k2 : wr.cell? ⟨g7, i, none⟩ = some (.int .u8 (U.getD i 0 : Nat)) := (E7.chg hC (fun e => e)).cell i (by omega)
      have b1 := v2.getD i
      have b2 := u2.getD i
      have e1 := u8_xor_nat (V.getD i 0) (U.getD i 0) b1 b2
      have HS : Hid (xorL V U (i + 1) = xorL V U i ++ [V.getD i 0 ^^^ U.getD i 0]) := hyd (xorL_succ V U i)
      generalize V.getD i 0 = x at *
      generalize U.getD i 0 = y at *
      obtain ⟨i0, q1, q2, q3, q4⟩ := info5
      have HOX : Hid ((wr.drew.alloc (.cells #[.int .u8 ((x ^^^ y : Nat) : Int)] 5)).ownsRow w7.heap.size 5 1 u14 i ((xorL V U i).map byt)) := by
        have h1 : Own (wr.drew.alloc (.cells #[.int .u8 ((x ^^^ y : Nat) : Int)] 5)) w7.heap.size 5 u14 (xorL V U i) := (show Own wr.drew w7.heap.size 5 u14 (xorL V U i) from hO).keep (fun k hk _ => Below.heap_alloc _ _ _ hk)
        unfold Own at h1
        rw [xorL_length] at h1
        exact h1
      have HNW : Hid (∀ j u, [byt (x ^^^ y)][j]? = some u → (wr.drew.alloc (.cells #[.int .u8 ((x ^^^ y : Nat) : Int)] 5)).cell? ((⟨wr.heap.size, 0, none⟩ : Addr).add j) = some u) := by
        intro j u hu
        have hj : j = 0 := by
          have := (List.getElem?_eq_some_iff.1 hu).1
          simp at this; omega
        subst hj
        rw [Addr.add_lit]
        simp [byt] at hu
        subst hu
        exact (Arr.new wr.drew 5 [x ^^^ y]).cell 0 (by simp)
      have hOB : Hid (∀ j, u14.ownBlock = some j → w7.heap.size ≤ j) := hyd (fun j hj => (hO.block hj).1)
      have HC := hyd hC
      clear hO hC
      go_wp2_with fail
      go_region_law ((refine step_append_lies _ (by rfl) _ _ 22 (by rfl) w7.heap.size 5 i0 (.int .u8 0) 1 1 Try.underlying22 q1 q2 q3 q4 rfl (by decide) u14 i ((xorL V U i).map byt) (by rfl) HOX.out ⟨wr.heap.size, 0, none⟩ 1 1 [byt (x ^^^ y)] (by rfl) rfl HNW.out (byt_one [x ^^^ y]) (by decide) (by unfold maxLen; omega) (by omega) (by simp; omega) (wr.heap.size + 1) (by simp) ?_; intro g cg w2 hO2 hg2 hat hgl))
      all_goals
        have hO3 : Own w2 w7.heap.size 5 (.slice (some ⟨g, 0, none⟩) (i + 1) cg) (xorL V U (i + 1)) := by
          unfold Own
          rw [xorL_length, HS.out, List.map_append]
          exact hO2
        have hC3 : Chg (fun _ => False) w7 w2 := (HC.out.drew.alloc _).grown hg2 (fun j hj => Or.inr (hOB.out j hj))
        clear hO2 hg2 hat hgl HOX HNW q1 q2 q3 q4
        go_wp2
        exact ⟨⟨i + 1, by omega, by go_num, hO3, hC3⟩, by simp [intOf]; omega⟩
    · have hlt' : ¬ (i : Int) < 64 := by omega
      have ei : i = 64 := by omega
      subst ei
      have HS := hyd (cw_xor HV.out HU.out)
      have sl := xorL_length V U 64
      have sb := xorL_bys v2 u2 64
      generalize xorL V U 64 = S at *
      obtain ⟨gs, cs, hv, hgs, hgsl⟩ := hO.slice' (by omega)
      rw [sl] at hv
      subst hv
      obtain ⟨g', k', hv, -, -, -, hcx, -⟩ := hO.lies (by omega)
      simp only [Value.slice.injEq, Option.some.injEq, Addr.mk.injEq] at hv
      obtain ⟨⟨rfl, -, -⟩, -, rfl⟩ := hv
      have C8 := C7.chg hC
      have F8 := F7.chgF hC
      have G8 := G7.trans hC
      have hcall := damage_any wr gs 0 cs S sl sb hgsl (fun i hi => by rw [Nat.zero_add]; exact hcx i (by omega)) a2 len2 cap2 hlen2 T (HT.out.chg G8)
      clear hO hcx C7 F7 G7 hC V7 E7
      go_wp2_with fail
      refine hcall.mono ?_
      rintro e w9 ⟨g9, k9, X, rfl, hX, bX, hg9, O9, H9⟩
      clear hcall
      have C9 := C8.chg H9
      have F9 := F8.chgF H9
      have G9 := G8.trans H9
      obtain ⟨g', k', hv, -, hg9l, hk9, hcx, -⟩ := O9.lies (by omega)
      simp only [Value.slice.injEq, Option.some.injEq, Addr.mk.injEq] at hv
      obtain ⟨⟨rfl, -, -⟩, -, rfl⟩ := hv
      have R9 : Rd w9 b (some ⟨g9, 0, none⟩) X := ⟨bX, Or.inr ⟨g9, 0, rfl, by omega, hg9l, fun i hi => by rw [Nat.zero_add]; exact hcx i hi⟩⟩
      have q1 := neq_nil_nil
      have k58 : (58 : Int) ≤ (k9 : Int) := by omega
      clear C8 F8 G8 H9 O9 hcx
      go_wp2_with fail
      refine (asks_syndromes q b w9 C9 _ k9 X hX R9).mono ?_
      rintro e w10 ⟨g10, rfl, hg10, Y10, C10, B10⟩
      have F10 := F9.but' B10 (by omega)
      have G10 : Chg (fun _ => False) w w10 := B10.chgF G9 (by omega)
      have R10 := R9.but B10
      have hs10 := B10.size
      have hY10 := Y10.lt
      clear C9 F9 G9 R9 B10
      have HX10 : Hid (∀ i, i < 64 → w10.cell? ⟨g9, 0 + i, none⟩ = some (.int .u8 (X.getD i 0 : Nat))) := hyd (fun i hi => by
        rcases R10.2 with h | ⟨c, o, e, -, -, hc⟩
        · rw [h] at hX; cases hX
        · simp only [Option.some.injEq, Addr.mk.injEq] at e
          obtain ⟨rfl, rfl, -⟩ := e
          exact hc i (by omega))
      have htl : (X.take 58).length = 58 := by rw [List.length_take, hX]; rfl
      go_wp2_with fail
      refine (encode_any q b w10 C10 g9 0 k9 (X.take 58) htl (bX.take 58) (by omega) (by omega) (fun i hi => by rw [getD_take _ _ _ (by omega)]; exact HX10.out i (by omega))).mono ?_
      rintro e w11 ⟨g11, rfl, hg11, E11, -, B11⟩
      have F11 := F10.but' B11 (by omega)
      have G11 : Chg (fun _ => False) w w11 := B11.chgF G10 (by omega)
      have Y11 : Arr w11 g10 5 (syL X 6) := Y10.but B11 (by omega)
      have X11 : Hid (∀ i, i < 64 → w11.cell? ⟨g9, 0 + i, none⟩ = some (.int .u8 (X.getD i 0 : Nat))) := hyd (fun i hi => (B11.cell (by omega) (by omega) _).trans (HX10.out i hi))
      have hs11 := B11.size
      obtain ⟨el, eb, -⟩ := encL_cw htl (bX.take 58)
      have HI := hyd (roots_iff hX bX)
      have hE11 := E11.lt
      clear C10 F10 G10 R10 B11 Y10 HX10
      generalize encL (X.take 58) = E at *
      have hd0 : Hid (ds X S = 0 → E = X) := hyd (fun h => HI.out.1 (fun k hk => by rw [ds_zero hX sl h]; exact HS.out.2.2 k hk))
      have hd6 : Hid (ds X S ≠ 0 → ds X S ≤ 6 → E ≠ X) := hyd (fun h1 h2 h3 => h1 (by
        have := cw_unique ⟨hX, bX, HI.out.2 h3⟩ HS.out h2
        rw [this]; exact ds_self S))
      generalize ds X S = d at *
      have hn1 : g9 < w11.heap.size := by omega
      have hn2 : g10 < w11.heap.size := by omega
      have hn3 : g9 ≠ f := by omega
      have hn4 : g10 ≠ f := by omega
      have hn5 : g11 ≠ f := by omega
      have hfw : w.heap.size ≤ f := by omega
      go_wp2_with fail
      clear q1
      go_loopw [22, 23] (fun v t wr => ∃ (j : Nat) (bb : Bool), j ≤ 6 ∧ t = .int .i64 j ∧ v = .bool bb ∧ Seen X j bb ∧ Fld wr f ∧ But f w11 wr) (fun _ t _ => 6 - (intOf t).toNat)
      case atStart => exact ⟨0, true, by omega, rfl, rfl, Seen.start X, F11, But.refl _ _⟩
      case round =>
        rename World => wy
        obtain ⟨j, bb, hj, rfl, rfl, hbb, hF, hB⟩ := hrel
        by_cases hj6 : j < 6
        · have hj' : (j : Int) < 6 := by omega
          have hj0 : (0 : Int) ≤ (j : Int) := by omega
          have cS : wy.cell? ⟨g10, j, none⟩ = some (.int .u8 (sy X j : Nat)) := by
            have := (Y11.but hB hn4).cell j (by rw [syL_length]; exact hj6)
            rwa [syL_getD X j hj6] at this
          have hE : exZ (j : Int) = ex j := exZ_nat j (by omega)
          have HE := hyd hE
          clear hE
          have hxk := ex_lt j
          have hsy := sy_lt bX j
          have HSY : Hid (ev (ex j) X = sy X j) := hyd rfl
          have hrr : Rd wy.drew f (some ⟨g9, 0, none⟩) X := ⟨bX, Or.inr ⟨g9, 0, rfl, hn3, Nat.lt_of_lt_of_le hn1 hB.size, fun i hi => (hB.cell hn1 hn3 _).trans (X11.out i (by omega))⟩⟩
          have hg10y : g10 < wy.heap.size := Nat.lt_of_lt_of_le hn2 hB.size
          have hlen : X.length ≤ 9223372036854775807 := by omega
          generalize ex j = z at *
          have HNX : Hid (∀ b2 : Bool, (b2 = true ↔ bb = true ∧ sy X j = 0) → Seen X (j + 1) b2) := hyd (fun b2 h => hbb.next b2 h)
          generalize sy X j = sj at *
          have hzz : ((sj : Int) != (sj : Int)) = false := by simp
          have h3 : (bb = true ∧ sj = 0) ∨ (bb = true ∧ sj ≠ 0) ∨ bb = false := by
            cases bb
            · exact Or.inr (Or.inr rfl)
            · by_cases h : sj = 0
              · exact Or.inl ⟨rfl, h⟩
              · exact Or.inr (Or.inl ⟨rfl, h⟩)
          rcases h3 with ⟨rfl, h0⟩ | ⟨rfl, h0⟩ | rfl
          case' inl =>
            have h0' : ((sj : Int) == 0) = true := by rw [h0]; rfl
            have HN2 := hyd (HNX.out true (Iff.intro (fun _ => ⟨rfl, h0⟩) (fun _ => rfl)))
            clear h0 hbb HNX
            go_wp2_with fail
          case' inr.inl =>
            have h0' : ((sj : Int) == 0) = false := by simp only [beq_eq_false_iff_ne, ne_eq]; omega
            have HN2 := hyd (HNX.out false (Iff.intro (fun h => Bool.noConfusion h) (fun h => absurd h.2 h0)))
            clear h0 hbb HNX
            go_wp2_with fail
          case' inr.inr =>
            have HN2 := hyd (HNX.out false (Iff.intro (fun h => Bool.noConfusion h) (fun h => Bool.noConfusion h.1)))
            clear hbb HNX
            go_wp2_with fail
          all_goals
            go_region_held3 (fun wx => wx.cell? ⟨g10, j, none⟩ = some (.int .u8 (sj : Nat)))
              (first | exact cS | exact c4 | exact c5)
              (first | (go_at_call 28; refine (exp_any f _ ?_ _).mono ?_; (exact hF.drew); rintro e w1' ⟨rfl, hF1, hB1⟩; rw [HE.out]; have c4 : w1'.cell? ⟨g10, j, none⟩ = some (.int .u8 (sj : Nat)) := ((hB1.cell hg10y hn4 _).trans cS)) | (go_at_call 27; refine (eval_any f _ hF1 _ 64 k9 X hX.symm hlen z hxk (hrr.but hB1)).mono ?_; rintro e w2' ⟨rfl, hF2, hB2⟩; rw [HSY.out]; have c5 : w2'.cell? ⟨g10, j, none⟩ = some (.int .u8 (sj : Nat)) := ((hB2.cell (Nat.lt_of_lt_of_le hg10y hB1.size) hn4 _).trans c4)))
            all_goals
              have hB3 : But f w11 w2' := hB.drew.trans (hB1.trans hB2)
              clear cS c4 c5 hrr
              go_wp2
              exact ⟨⟨j + 1, _, by omega, by go_num, rfl, HN2.out, hF2, hB3⟩, by simp [intOf]; omega⟩
        · have hj' : ¬ (j : Int) < 6 := by omega
          have ej : j = 6 := by omega
          subst ej
          have E12 : Arr wy g11 5 E := E11.but hB hn5
          have G12 : Chg (fun _ => False) w wy := hB.chgF G11 hfw
          have X12 : Held wy (.slice (some ⟨g9, 0, none⟩) 64 k9) X := by
            rw [← hX]
            exact ⟨_, _, rfl, Or.inr ⟨g9, 0, rfl, Nat.lt_of_lt_of_le hn1 hB.size, fun i hi => (hB.cell hn1 hn3 _).trans (X11.out i (by omega))⟩⟩
          have hcall := same_n wy (some ⟨g11, 0, none⟩) (some ⟨g9, 0, none⟩) 64 64 64 k9 E X el.symm hX.symm (E12.held 0 64 64 E el.symm (by omega) (fun i _ => by rw [Nat.zero_add])) X12 (by omega) (by omega)
          have hbe : Hid (bb = decide (E = X)) := hyd (by
            have := Iff.trans hbb HI.out
            cases bb
            · exact (decide_eq_false (fun h => by have := this.2 h; cases this)).symm
            · exact (decide_eq_true (this.1 rfl)).symm)
          clear E12 X12 hF hB hbb
          go_wp2_with fail
          refine hcall.mono ?_
          rintro e w13 ⟨rfl, H13⟩
          have G13 := G12.trans H13
          clear hcall G12 H13
          rw [hbe.out]
          by_cases hEX : E = X
          · have hd := decide_eq_true hEX
            rw [hd]
            have hdd : d = 0 ∨ 6 < d := by
              by_cases h1 : d = 0
              · exact Or.inl h1
              · exact Or.inr (Nat.lt_of_not_le (fun h2 => hd6.out h1 h2 hEX))
            clear hEX hd hbe hd0 hd6
            rcases hdd with hdd | hdd
            · subst hdd
              go_wp2
              go_ret
              exact ⟨rfl, G13.below (fun k e => e.elim) (Nat.le_refl _)⟩
            · have x1 : (0 : Int) < (d : Int) := by omega
              have x2 : (6 : Int) < (d : Int) := by omega
              have x3 : ((d : Int) == 0) = false := by simp only [beq_eq_false_iff_ne, ne_eq]; omega
              clear hdd
              go_wp2
              go_ret
              exact ⟨rfl, G13.below (fun k e => e.elim) (Nat.le_refl _)⟩
          · have hd := decide_eq_false hEX
            rw [hd]
            have hdd : 0 < d := Nat.pos_of_ne_zero (fun h => hEX (hd0.out h))
            clear hEX hd hbe hd0 hd6
            have x1 : (0 : Int) < (d : Int) := by omega
            have x3 : ((d : Int) == 0) = false := by simp only [beq_eq_false_iff_ne, ne_eq]; omega
            clear hdd
            by_cases h6 : 6 < d
            · have x2 : (6 : Int) < (d : Int) := by omega
              go_wp2
              go_ret
              exact ⟨rfl, G13.below (fun k e => e.elim) (Nat.le_refl _)⟩
            · have x2 : ¬ (6 : Int) < (d : Int) := by omega
              go_wp2
              go_ret
              exact ⟨rfl, G13.below (fun k e => e.elim) (Nat.le_refl _)⟩
end Go.Proofs.Ytfihhamjlcnpnaa
