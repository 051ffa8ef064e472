/-
  FrameBlank, walked: of a tag's chunk of which at most 4 bytes are not ff no body is read. Condition: the bytes and the turns came in as slices do.
-/
import Derived.Test.YtdofegphipbcdaaShown
import Derived.Test.YtdofegphipbcdaaFill
namespace Go.Proofs.Ytdofegphipbcdaa
open Go.RowKit
set_option maxRecDepth 100000

/-- An erased chunk. -/
def ff64 : List Nat := List.replicate 64 255
theorem ff_getD (i : Nat) (h : i < 64) : ff64.getD i 0 = 255 := by
  rw [ff64, List.getD_eq_getElem?_getD, List.getElem?_replicate, if_pos h]; rfl
theorem wt_le_one {f : Nat → Nat} {k : Nat} (h : ∀ i, i ≠ k → f i = 0) : ∀ n, wt f n ≤ if k < n then 1 else 0 := by
  intro n
  induction n with
  | zero => simp [wt]
  | succ n ih =>
    show wt f n + (if f n = 0 then 0 else 1) ≤ _
    by_cases hk : n = k
    · subst hk
      rw [if_neg (Nat.lt_irrefl n)] at ih
      rw [if_pos (Nat.lt_succ_self n)]
      split <;> omega
    · rw [if_pos (h n hk)]
      by_cases hn : k < n
      · rw [if_pos hn] at ih; rw [if_pos (by omega)]; omega
      · rw [if_neg hn] at ih; omega
theorem ds_close {a b : List Nat} {k : Nat} (h : ∀ i, i ≠ k → a.getD i 0 = b.getD i 0) : ds a b ≤ 1 := by
  have := wt_le_one (f := df a b) (k := k) (fun i hi => df_zero.2 (h i hi)) 64
  show wt (df a b) 64 ≤ 1
  split at this <;> omega
theorem wt_ge {f : Nat → Nat} {a : Nat} : ∀ n, (∀ i, a ≤ i → i < a + n → f i ≠ 0) → wt f a + n ≤ wt f (a + n) := by
  intro n
  induction n with
  | zero => intro _; exact Nat.le_refl _
  | succ n ih =>
    intro h
    have h1 := ih (fun i h1 h2 => h i h1 (by omega))
    have h2 := h (a + n) (by omega) (by omega)
    show _ ≤ wt f (a + n) + (if f (a + n) = 0 then 0 else 1)
    rw [if_neg h2]
    omega
theorem wt_mono {f : Nat → Nat} {a : Nat} : ∀ n, wt f a ≤ wt f (a + n) := by
  intro n
  induction n with
  | zero => exact Nat.le_refl _
  | succ n ih => exact Nat.le_trans ih (Nat.le_add_right _ _)
theorem mk_no (i : Nat) (h : i < 8) : mk.getD i 0 ≠ 255 := by
  have : ∀ i, i < 8 → mk.getD i 0 ≠ 255 := by decide
  exact this i h
/-- A codeword that bears the mark is far from an erased chunk. -/
theorem far_ff {c : List Nat} (h : (c.take 58).drop 50 = mk) : 8 ≤ ds c ff64 := by
  have hc : ∀ i, 50 ≤ i → i < 50 + 8 → df c ff64 i ≠ 0 := fun i h1 h2 => by
    rw [Ne, df_zero, ff_getD i (by omega)]
    have e : c.getD i 0 = mk.getD (i - 50) 0 := by
      rw [← h]
      simp [List.getD_eq_getElem?_getD, List.getElem?_drop, List.getElem?_take]
      rw [if_pos (by omega)]
      congr 2
      omega
    rw [e]
    exact mk_no _ (by omega)
  have h1 : wt (df c ff64) 50 + 8 ≤ wt (df c ff64) 58 := wt_ge (f := df c ff64) (a := 50) 8 hc
  have h2 : wt (df c ff64) 58 ≤ wt (df c ff64) 64 := wt_mono (f := df c ff64) (a := 58) 6
  show 8 ≤ wt (df c ff64) 64
  omega
theorem no_body {x : List Nat} {r : List Nat × Nat} (h : IsDec x (some r)) (hx : ds x ff64 ≤ 4) (hm : r.1.drop 50 = mk) : False := by
  rcases h with ⟨h, -⟩ | ⟨c, hc, he, hd⟩
  · cases h
  · have e := Option.some.inj he
    subst e
    have h1 := far_ff hm
    have h2 := ds_tri c x ff64
    rw [ds_comm c x] at h2
    omega

theorem Frm.set {w : World} {p q b : Nat} (h : Frm w p q b) {g : Nat} (h1 : g ≠ p) (h2 : g ≠ q) (h3 : g ≠ b) (o : Nat) (v : Value) : Frm (w.setCell ⟨g, o, none⟩ v) p q b :=
  h.other (Below.heap_setCell _ _ _ _ (by simp; omega)) (Below.heap_setCell _ _ _ _ (by simp; omega)) (Below.heap_setCell _ _ _ _ (by simp; omega))
theorem bys_set {X : List Nat} (h : Bys X) (i x : Nat) (hx : x < 256) : Bys (X.set i x) := by
  intro n hn
  rcases List.mem_or_eq_of_mem_set hn with h1 | h1
  · exact h n h1
  · omega
theorem getD_set_ne {X : List Nat} {i j : Nat} (h : i ≠ j) (x : Nat) : (X.set i x).getD j 0 = X.getD j 0 := by
  simp [List.getD_eq_getElem?_getD, List.getElem?_set_ne h]
theorem getD_set_eq {X : List Nat} {i : Nat} (h : i < X.length) (x : Nat) : (X.set i x).getD i 0 = x := by
  simp [List.getD_eq_getElem?_getD, h]
/-- A byte of the tag's chunk is changed. -/
theorem ds_turn (X : List Nat) (k x : Nat) (_hk : k < 64) : ds (part 64 (X.set (192 + k) x) 3) ff64 ≤ ds (part 64 X 3) ff64 + 1 := by
  have h1 := ds_tri (part 64 (X.set (192 + k) x) 3) (part 64 X 3) ff64
  have h2 : ds (part 64 (X.set (192 + k) x) 3) (part 64 X 3) ≤ 1 := ds_close (k := k) (fun i hi => by
    by_cases h64 : i < 64
    · rw [part_getD _ _ _ _ h64, part_getD _ _ _ _ h64, getD_set_ne (by omega)]
    · have e : ∀ Y : List Nat, (part 64 Y 3).getD i 0 = 0 := fun Y => by
        rw [List.getD_eq_getElem?_getD, List.getElem?_eq_none (by simp [part]; omega)]; rfl
      rw [e, e])
  omega
theorem ds_ff {X : List Nat} (h : ∀ j, 192 ≤ j → j < 256 → X.getD j 0 = 255) : ds (part 64 X 3) ff64 = 0 := by
  have : ∀ n, n ≤ 64 → wt (df (part 64 X 3) ff64) n = 0 := by
    intro n
    induction n with
    | zero => intro _; rfl
    | succ n ih =>
      intro hn
      show wt _ n + (if df (part 64 X 3) ff64 n = 0 then 0 else 1) = 0
      rw [ih (by omega), if_pos]
      rw [df_zero, part_getD _ _ _ _ (by omega), ff_getD n (by omega)]
      exact h _ (by omega) (by omega)
  exact this 64 (by omega)

set_option maxHeartbeats 4000000 in
theorem blank_walk (a0 : Option Addr) (len0 cap0 : Nat) (z0 : List Int) (w : World) (w0 : IsRow .u8 w a0 len0 cap0 z0) (r0 : cap0 * 1 ≤ 140737488351232)
    (a1 : Option Addr) (len1 cap1 : Nat) (hlen1 : len1 ≤ 9223372036854775807) (T : Nat → Int × Nat) (hT : IsTurns w a1 len1 T) :
    Calls Try.prog 6 #[.slice a0 len0 cap0, .slice a1 len1 cap1] w fun e w' => e = .returned (.bool true) ∧ Below w.heap.size w w' := by
  obtain ⟨l, hl0, hc0, bl, -, HL⟩ := row_in w0
  have hln : l.length ≤ 9223372036854775807 := by omega
  clear w0 hc0 r0
  subst hl0
  have HL := hyd HL
  have HT := hyd hT
  clear hT
  go_enter Try.func6, Try.ntmps6
  go_wp2_with fail
  refine (shown_any w).mono ?_
  rintro e w1 ⟨rfl, G1⟩
  go_wp2_with fail
  refine (frame_new w1).mono ?_
  rintro e w2 ⟨p, q, b, rfl, hp, hq, hb, F2, G2⟩
  have G02 : Chg (fun _ => False) w w2 := G1.trans G2
  have hs1 := G1.size
  have hs2 := G02.size
  clear G1 G2
  go_wp2_with fail
  refine (raw_any w2 a0 cap0 l bl hln (HL.out.chgF G02) 256 (by omega)).mono ?_
  rintro e w3 ⟨g, rfl, hg, A3, H3⟩
  have F3 := F2.chg H3
  have G3 := G02.trans H3
  have hs3 := H3.size
  have hbs := F2.1.1.lt
  have hgb : g ≠ b := by omega
  have hgp : g ≠ p := by have := F2.lt; omega
  have hgq : g ≠ q := by have := F2.1.lt; omega
  have hgw : w.heap.size ≤ g := by omega
  clear F2 G02 H3
  have hpl : (padTo l 256 256).length = 256 := padTo_length _ _ _
  have hpb : Bys (padTo l 256 256) := padTo_bys bl 256 256
  generalize padTo l 256 256 = P at *
  go_wp2_with fail
  go_loopw [8] (fun t wr => ∃ (i : Nat) (X : List Nat), 192 ≤ i ∧ i ≤ 256 ∧ t = .int .i64 i ∧ X.length = 256 ∧ Bys X ∧ Hid (∀ j, 192 ≤ j → j < i → X.getD j 0 = 255) ∧ Arr wr g 5 X ∧ Frm wr p q b ∧ Chg (fun _ => False) w wr) (fun t _ => 256 - (intOf t).toNat)
  case atStart => exact ⟨192, P, by omega, by omega, rfl, hpl, hpb, hyd (fun j h1 h2 => by omega), A3, F3, G3⟩
  case round =>
    clear A3 F3 G3
    obtain ⟨i, X, hi0, hi, rfl, hX, bX, HX, A, F, G⟩ := hrel
    by_cases hlt : i < 256
    · have hlt' : (i : Int) < 256 := by omega
      have hkb : (0 : Int) ≤ (i : Int) := by omega
      have c1 := A.cell i (by omega)
      have f1 := A.frozen i
      have A2 : Arr (wr.setCell ⟨g, i, none⟩ (.int .u8 255)) g 5 (X.set i 255) := A.store i 255
      have hX2 : (X.set i 255).length = 256 := by rw [List.length_set]; exact hX
      have bX2 : Bys (X.set i 255) := bys_set bX i 255 (by omega)
      have HX2 : Hid (∀ j, 192 ≤ j → j < i + 1 → (X.set i 255).getD j 0 = 255) := hyd (fun j h1 h2 => by
        by_cases he : i = j
        · subst he; exact getD_set_eq (by omega) _
        · rw [getD_set_ne he]; exact HX.out j h1 (by omega))
      have F2 := F.set hgp hgq hgb i (.int .u8 255)
      have G2 := G.setCell (Or.inr hgw) i (.int .u8 255)
      have HA2 := hyd A2
      clear HX A F G A2
      go_wp2
      exact ⟨⟨i + 1, _, by omega, by omega, by go_num, hX2, bX2, HX2, HA2.out, F2, G2⟩, by simp [intOf]; omega⟩
    · have hlt' : ¬ (i : Int) < 256 := by omega
      have hD : ds (part 64 X 3) ff64 ≤ 0 := by rw [ds_ff (fun j h1 h2 => HX.out j h1 (by omega))]; exact Nat.le_refl _
      clear HX
      obtain ⟨wq, hwq⟩ : ∃ x, x = wr := ⟨_, rfl⟩
      subst hwq
      go_wp2_with fail
      go_loopw [9] (fun t wx => ∃ (m : Nat) (Y : List Nat), m ≤ 4 ∧ m ≤ len1 ∧ t = .int .i64 m ∧ Y.length = 256 ∧ Bys Y ∧ Hid (ds (part 64 Y 3) ff64 ≤ m) ∧ Arr wx g 5 Y ∧ Frm wx p q b ∧ Chg (fun _ => False) w wx) (fun t _ => 4 - (intOf t).toNat)
      case atStart => exact ⟨0, X, by omega, by omega, rfl, hX, bX, hD, A, F, G⟩
      case round =>
        clear A F G hD bX hX
        obtain ⟨m, Y, hm4, hml, rfl, hY, bY, HD, A, F, G⟩ := hrel
        have m0 : (0 : Int) ≤ (m : Int) := by omega
        by_cases hgo : m < len1 ∧ m < 4
        · obtain ⟨hm1, hm2⟩ := hgo
          have hm1' : (m : Int) < (len1 : Int) := by omega
          have hm2' : (m : Int) < 4 := by omega
          obtain ⟨g1, o1, rfl, hg1, hx⟩ := (HT.out.chg G).2.resolve_left (by omega)
          obtain ⟨t1, t2, t3⟩ := HT.out.1 m hm1
          obtain ⟨x1, x2⟩ := hx m hm1
          clear hx
          have HDT : ∀ k, k < 64 → Hid (ds (part 64 (Y.set (192 + k) (T m).2) 3) ff64 ≤ m + 1) := fun k hk => hyd (by have := ds_turn Y k (T m).2 hk; have := HD.out; omega)
          generalize (T m).1 = ti at *
          generalize (T m).2 = tb at *
          go_wp2_with fail
          refine (pick64 wr ti t1 t2).mono ?_
          rintro e w5 ⟨kk, hkk, rfl, rfl⟩
          have y1 := A.cell (192 + kk) (by omega)
          have y2 := A.frozen (192 + kk)
          have k0 : (0 : Int) ≤ (kk : Int) := by omega
          have k1 : (kk : Int) < 64 := by omega
          have e1 : IntKind.i64.wrap (192 + (kk : Int)) = 192 + (kk : Int) := by rw [IntKind.wrap_i64]; omega
          have e2 : (192 + (kk : Int)).toNat = 192 + kk := by omega
          have HA2 := hyd (A.store (192 + kk) tb)
          have hY2 : (Y.set (192 + kk) tb).length = 256 := by rw [List.length_set]; exact hY
          have bY2 : Bys (Y.set (192 + kk) tb) := bys_set bY _ _ t3
          have HD2 := HDT kk hkk
          have F2 := F.set hgp hgq hgb (192 + kk) (.int .u8 (tb : Int))
          have G2 := G.setCell (Or.inr hgw) (192 + kk) (.int .u8 (tb : Int))
          clear HDT HD A F G
          generalize Y.set (192 + kk) tb = Y2 at *
          go_wp2
          exact ⟨⟨m + 1, Y2, by omega, by omega, by go_num, hY2, bY2, HD2, HA2.out, F2, G2⟩, by simp [intOf]; omega⟩
        · have HB := hyd (body_any p q b wr F g 0 256 Y hY bY hgb A.lt (by omega) (fun i hi => A.at0 i (by omega)))
          have q1 := eql_dec_dec
          have q2 := eql_mark_mark
          have q3 := eql_mark_dec
          have fin : Calls Try.prog 19 #[.pointer (some ⟨p, 0, none⟩), .slice (some ⟨g, 0, none⟩) 256 256] wr fun e w' => (e = .returned (.tuple #[.slice none 0 0, .int .i64 0, .iface 36 (.int .i64 5)]) ∨ e = .returned (.tuple #[.slice none 0 0, .int .i64 0, .iface 36 (.int .i64 6)])) ∧ Chg (fun _ => False) w w' := HB.out.mono (fun e w' ⟨hD, _, B⟩ => by
            refine ⟨?_, B.chgF G (by omega)⟩
            rcases hD with ⟨-, h1⟩ | ⟨r, -, -, h1⟩ | ⟨r, gg, h1, h2, -⟩
            · exact Or.inl h1
            · exact Or.inr h1
            · exact (no_body h1.1 (by have := HD.out; omega) h2).elim)
          have HF := hyd fin
          clear fin HB HD A F G
          have hgo2 : ¬ ((m : Int) < (len1 : Int) ∧ (m : Int) < 4) := by omega
          by_cases hm1 : (m : Int) < (len1 : Int)
          · have hm2 : ¬ (m : Int) < 4 := by omega
            go_wp2_with fail
            refine HF.out.mono ?_
            rintro e w6 ⟨rfl | rfl, G6⟩
            · go_wp2
              go_ret
              exact ⟨rfl, G6.below (fun k e => e.elim) (Nat.le_refl _)⟩
            · go_wp2
              go_ret
              exact ⟨rfl, G6.below (fun k e => e.elim) (Nat.le_refl _)⟩
          · go_wp2_with fail
            refine HF.out.mono ?_
            rintro e w6 ⟨rfl | rfl, G6⟩
            · go_wp2
              go_ret
              exact ⟨rfl, G6.below (fun k e => e.elim) (Nat.le_refl _)⟩
            · go_wp2
              go_ret
              exact ⟨rfl, G6.below (fun k e => e.elim) (Nat.le_refl _)⟩
end Go.Proofs.Ytdofegphipbcdaa
