/-
  The document's Tag, walked: of 50 bytes that are the body of a tag that may be it is that tag, of others none. Condition: the bytes can be read.
-/
import Derived.Test.YtgipkdkhgdaeiaaRefBody
import Derived.Deep.RegionHeld3
namespace Go.Proofs.Ytgipkdkhgdaeiaa
open Go.RowKit
set_option maxRecDepth 100000

set_option maxHeartbeats 1000000 in
theorem rget_eq (w : World) (a : Option Addr) (n cap : Nat) (l : List Nat) (hn : n = l.length) (hl : Bys l) (h8 : l.length ≤ 8) (hr : Held w (.slice a n cap) l) :
    Calls Try.prog 28 #[.slice a n cap] w fun e w' => e = .returned (.int .u64 (le l : Nat)) ∧ w' = w := by
  subst hn
  have HR := hyd hr
  clear hr
  go_enter Try.func28, Try.ntmps28
  go_wp2_with fail
  go_loopw [3, 4] (fun v t wr => ∃ k : Nat, k ≤ l.length ∧ t = .int .i64 ((k : Int) - 1) ∧ v = .int .u64 (le (l.drop k) : Nat) ∧ wr = w) (fun _ t _ => (intOf t + 1).toNat)
  case atStart => exact ⟨l.length, Nat.le_refl _, rfl, by simp [le], rfl⟩
  case round =>
    obtain ⟨k, hk, rfl, rfl, rfl⟩ := hrel
    by_cases h0 : k = 0
    · subst h0
      go_wp2
      go_ret
      exact ⟨rfl, rfl⟩
    · obtain ⟨j, rfl⟩ : ∃ j, k = j + 1 := ⟨k - 1, by omega⟩
      obtain ⟨g, o, rfl, hx⟩ := HR.out.cellC (Chg.refl _ _) j (by omega)
      obtain ⟨e1, e2⟩ := get_step l hl h8 j (by omega)
      have hj : (((j + 1 : Nat) : Int) - 1) = (j : Int) := by omega
      rw [hj]
      have hjl : (j : Int) < (l.length : Int) := by omega
      have hj0 : (0 : Int) ≤ (j : Int) := by omega
      have hge : ¬ (j : Int) < 0 := by omega
      have HV : Hid ((256 : Int) * ((le (l.drop (j + 1)) : Nat) : Int) + ((l.getD j 0 : Nat) : Int) = ((le (l.drop j) : Nat) : Int)) := hyd (by rw [← e1]; push_cast; rfl)
      have hb := hl.getD j
      have hb2 : (256 : Int) * ((le (l.drop (j + 1)) : Nat) : Int) + ((l.getD j 0 : Nat) : Int) < 18446744073709551616 := by omega
      clear hj e1 e2
      generalize le (l.drop (j + 1)) = x at *
      generalize l.getD j 0 = y at *
      go_wp2
      exact ⟨⟨j, by omega, by go_num, by rw [← HV.out], trivial⟩, by simp [intOf]⟩
theorem fld1 {l : List Nat} {a : Nat} (h : a < l.length) : fld l a 1 = l.getD a 0 := by
  have e : seg l a 1 = [l.getD a 0] := by
    apply List.ext_getElem (by rw [seg_length (by omega)]; rfl)
    intro i h1 h2
    have hi : i = 0 := by simpa using h2
    subst hi
    simp [seg, List.getD_eq_getElem?_getD, h]
  simp [fld, e, le]
theorem seg_all {l : List Nat} {n : Nat} (h : l.length = n) : seg l 0 n = l := by
  simp [seg, List.take_of_length_le (show l.length ≤ n by omega)]
/-- What the document's Tag answers. -/
def TagAns (l : List Nat) (e : Ending) : Prop :=
  (IsB l ∧ e = .returned (.tuple #[.agg #[.int .i64 (fld l 0 2 : Nat), .int .i64 (fld l 2 1 : Nat), .int .i64 (fld l 3 5 : Nat), .int .i64 (fld l 8 1 : Nat), .bool (lst l)], .bool true])) ∨
  (¬ IsB l ∧ e = .returned (.tuple #[.agg #[.int .i64 0, .int .i64 0, .int .i64 0, .int .i64 0, .bool false], .bool false]))
theorem lst_eq (l : List Nat) : (((fld l 9 1 : Nat) : Int) == 1) = lst l := rfl
set_option maxHeartbeats 8000000 in
theorem rtag_any (w : World) (c o cap : Nat) (l : List Nat) (hl : Bys l) (hL : l.length = 50) (hcap : 50 ≤ cap) (hA : At w c o l) :
    Calls Try.prog 17 #[.slice (some ⟨c, o, none⟩) 50 cap] w fun e w' => TagAns l e ∧ Chg (fun _ => False) w w' := by
  have HA := hyd hA
  have HL := hyd hL
  have hc3 : ¬ cap = 3 := by omega
  have hcs := hA.1
  have x2 : w.cell? ⟨c, o + 2, none⟩ = some (.int .u8 (fld l 2 1 : Nat)) := by rw [fld1 (by omega)]; exact hA.2 2 (by omega)
  have x8 : w.cell? ⟨c, o + 8, none⟩ = some (.int .u8 (fld l 8 1 : Nat)) := by rw [fld1 (by omega)]; exact hA.2 8 (by omega)
  have x9 : w.cell? ⟨c, o + 9, none⟩ = some (.int .u8 (fld l 9 1 : Nat)) := by rw [fld1 (by omega)]; exact hA.2 9 (by omega)
  have y0 := fld_lt hl (a := 0) (n := 2) (by omega)
  have y1 := fld_lt hl (a := 2) (n := 1) (by omega)
  have y2 := fld_lt hl (a := 3) (n := 5) (by omega)
  have y3 := fld_lt hl (a := 8) (n := 1) (by omega)
  have y4 := fld_lt hl (a := 9) (n := 1) (by omega)
  simp only [Nat.reducePow] at y0 y1 y2 y3 y4
  have R1 : Hid (∀ wx, At wx c o l → Calls Try.prog 28 #[.slice (some ⟨c, o, none⟩) 2 cap] wx fun e w' => e = .returned (.int .u64 (fld l 0 2 : Nat)) ∧ w' = wx) := hyd (fun wx hx => rget_eq wx _ 2 cap (seg l 0 2) (by rw [seg_length (by omega)]) (seg_bys hl 0 2) (by rw [seg_length (by omega)]; decide) (hx.held 0 2 cap (by omega)))
  have R2 : Hid (∀ wx, At wx c o l → Calls Try.prog 28 #[.slice (some ⟨c, o + 3, none⟩) 5 (cap - 3)] wx fun e w' => e = .returned (.int .u64 (fld l 3 5 : Nat)) ∧ w' = wx) := hyd (fun wx hx => rget_eq wx _ 5 (cap - 3) (seg l 3 5) (by rw [seg_length (by omega)]) (seg_bys hl 3 5) (by rw [seg_length (by omega)]; decide) (hx.held 3 5 (cap - 3) (by omega)))
  have A0 := hA.chg ((Chg.refl (fun _ => False) w).alloc (.cells #[.int .i64 0, .int .i64 0, .int .i64 0, .int .i64 0, .bool false] 23)) (fun e => e)
  have A1 := fun X : Obj => A0.chg ((Chg.refl (fun _ => False) _).alloc X) (fun e => e)
  have z2 : (w.alloc (.cells #[.int .i64 0, .int .i64 0, .int .i64 0, .int .i64 0, .bool false] 23)).cell? ⟨c, o + 2, none⟩ = some (.int .u8 (fld l 2 1 : Nat)) := (World.cell?_alloc_past _ _ _ hcs).trans x2
  have z8 : (w.alloc (.cells #[.int .i64 0, .int .i64 0, .int .i64 0, .int .i64 0, .bool false] 23)).cell? ⟨c, o + 8, none⟩ = some (.int .u8 (fld l 8 1 : Nat)) := (World.cell?_alloc_past _ _ _ hcs).trans x8
  have z9 : (w.alloc (.cells #[.int .i64 0, .int .i64 0, .int .i64 0, .int .i64 0, .bool false] 23)).cell? ⟨c, o + 9, none⟩ = some (.int .u8 (fld l 9 1 : Nat)) := (World.cell?_alloc_past _ _ _ hcs).trans x9
  have u2 := fun X : Obj => (World.cell?_alloc_past (w := w.alloc (.cells #[.int .i64 0, .int .i64 0, .int .i64 0, .int .i64 0, .bool false] 23)) X c (o + 2) (by simp; omega)).trans z2
  have u8 := fun X : Obj => (World.cell?_alloc_past (w := w.alloc (.cells #[.int .i64 0, .int .i64 0, .int .i64 0, .int .i64 0, .bool false] 23)) X c (o + 8) (by simp; omega)).trans z8
  have u9 := fun X : Obj => (World.cell?_alloc_past (w := w.alloc (.cells #[.int .i64 0, .int .i64 0, .int .i64 0, .int .i64 0, .bool false] 23)) X c (o + 9) (by simp; omega)).trans z9
  have HA0 := hyd A0
  have HA1 := hyd A1
  have hfirst : True := trivial
  have r0 := wrap_i64_small (fld l 0 2) (by omega)
  have r1 := wrap_i64_small (fld l 2 1) (by omega)
  have r2 := wrap_i64_small (fld l 3 5) (by omega)
  have r3 := wrap_i64_small (fld l 8 1) (by omega)
  have hb := build23
  have i0 : (0 : Int) ≤ (cap : Int) := by omega
  have i2 : (2 : Int) ≤ (cap : Int) := by omega
  have i3 : (3 : Int) ≤ (cap : Int) := by omega
  have i8 : (8 : Int) ≤ (cap : Int) := by omega
  clear A0 A1 hA hL x2 x8 x9
  go_enter Try.func17, Try.ntmps17
  go_wp2_with fail
  go_region_held3 (fun wx => wx.cell? ⟨c, o + 2, none⟩ = some (.int .u8 (fld l 2 1 : Nat)) ∧ wx.cell? ⟨c, o + 8, none⟩ = some (.int .u8 (fld l 8 1 : Nat)) ∧ wx.cell? ⟨c, o + 9, none⟩ = some (.int .u8 (fld l 9 1 : Nat)) ∧ At wx c o l) (first | exact ⟨z2, z8, z9, HA0.out⟩ | exact ⟨u2 _, u8 _, u9 _, HA1.out _⟩)
    (first | (go_at_call 28; clear hfirst; refine (R1.out _ (by first | exact HA0.out | exact HA1.out _)).mono ?_; rintro e w' ⟨rfl, rfl⟩) | (go_at_call 28; refine (R2.out _ (by first | exact HA0.out | exact HA1.out _)).mono ?_; rintro e w' ⟨rfl, rfl⟩))
  all_goals
    try rw [r0, r1, r2, r3]
    rw [lst_eq]
    clear r0 r1 r2 r3 u2 u8 u9 z2 z8 z9 R1 R2 HA1 HA0
    have T0 := (Tg.new w 0 0 0 0 false).alloc (.cells #[.int .i64 (fld l 0 2 : Nat), .int .i64 (fld l 2 1 : Nat), .int .i64 (fld l 3 5 : Nat), .int .i64 (fld l 8 1 : Nat), .bool (lst l)] 23)
    have V0 := Tg.new (w.alloc (.cells #[.int .i64 0, .int .i64 0, .int .i64 0, .int .i64 0, .bool false] 23)) (fld l 0 2 : Nat) (fld l 2 1 : Nat) (fld l 3 5 : Nat) (fld l 8 1 : Nat) (lst l)
    have G0 : Chg (fun _ => False) w ((w.alloc (.cells #[.int .i64 0, .int .i64 0, .int .i64 0, .int .i64 0, .bool false] 23)).alloc (.cells #[.int .i64 (fld l 0 2 : Nat), .int .i64 (fld l 2 1 : Nat), .int .i64 (fld l 3 5 : Nat), .int .i64 (fld l 8 1 : Nat), .bool (lst l)] 23)) := ((Chg.refl _ w).alloc _).alloc _
    rw [show (w.alloc (.cells #[.int .i64 0, .int .i64 0, .int .i64 0, .int .i64 0, .bool false] 23)).heap.size = w.heap.size + 1 from by simp] at V0
    have G1 := G0.drew
    have T1 : Tg ((w.alloc (.cells #[.int .i64 0, .int .i64 0, .int .i64 0, .int .i64 0, .bool false] 23)).alloc (.cells #[.int .i64 (fld l 0 2 : Nat), .int .i64 (fld l 2 1 : Nat), .int .i64 (fld l 3 5 : Nat), .int .i64 (fld l 8 1 : Nat), .bool (lst l)] 23)).drew w.heap.size 0 0 0 0 false := T0
    have V1 : Tg ((w.alloc (.cells #[.int .i64 0, .int .i64 0, .int .i64 0, .int .i64 0, .bool false] 23)).alloc (.cells #[.int .i64 (fld l 0 2 : Nat), .int .i64 (fld l 2 1 : Nat), .int .i64 (fld l 3 5 : Nat), .int .i64 (fld l 8 1 : Nat), .bool (lst l)] 23)).drew (w.heap.size + 1) (fld l 0 2 : Nat) (fld l 2 1 : Nat) (fld l 3 5 : Nat) (fld l 8 1 : Nat) (lst l) := V0
    generalize ((w.alloc (.cells #[.int .i64 0, .int .i64 0, .int .i64 0, .int .i64 0, .bool false] 23)).alloc (.cells #[.int .i64 (fld l 0 2 : Nat), .int .i64 (fld l 2 1 : Nat), .int .i64 (fld l 3 5 : Nat), .int .i64 (fld l 8 1 : Nat), .bool (lst l)] 23)).drew = w0 at *
    clear T0 V0 G0
    obtain ⟨v0, v1, v2, v3, v4⟩ := V1.cells
    have HT := hyd T1
    have HV := hyd V1
    have HG := hyd G1
    clear T1 V1 G1
    go_wp2_with fail
    by_cases hm : MayL l
    · refine (rmay_yes w0 _ _ _ _ _ hm).mono ?_
      rintro e w1 ⟨rfl, G1⟩
      have V1 := HV.out.chg G1 (fun e => e)
      obtain ⟨v0, v1, v2, v3, v4⟩ := V1.cells
      have HT1 := hyd (HT.out.chg G1 (fun e => e))
      have HG1 := hyd (HG.out.trans G1)
      have HV1 := hyd V1
      clear G1 V1 HT HG HV
      go_wp2_with fail
      refine (rbody_any w1 _ _ _ _ _ hm).mono ?_
      rintro e w2 ⟨a, k, rfl, O2, G2⟩
      have G02 := HG1.out.trans G2
      have HT2 := hyd (HT1.out.chg G2 (fun e => e))
      have HV2 := hyd (HV1.out.chg G2 (fun e => e))
      have HG2 := hyd G02
      have hq := same_n w2 a (some ⟨c, o, none⟩) 50 50 k cap (bodyL l) l (body_length _ _ _ _ _).symm HL.out.symm O2.held (by have := (HA.out.chg G02 (fun e => e)).held 0 50 cap (by rw [HL.out]; decide); rw [seg_all HL.out] at this; exact this) (by rw [show (bodyL l).length = 50 from body_length _ _ _ _ _]; decide) (by rw [HL.out]; decide)
      clear G2 O2 G02 HT1 HG1 HV1 v0 v1 v2 v3 v4
      go_wp2_with fail
      by_cases hne : bodyL l = l
      · rw [decide_eq_true hne] at hq
        refine hq.mono ?_
        rintro e w3 ⟨rfl, G3⟩
        obtain ⟨v0, v1, v2, v3, v4⟩ := (HV2.out.chg G3 (fun e => e)).cells
        have HT3 := hyd (HT2.out.chg G3 (fun e => e))
        have HG3 := hyd (HG2.out.trans G3)
        have HI : Hid (IsB l) := hyd ⟨hm, hne⟩
        clear G3 hq HT2 HG2 HV2 hm hne
        go_wp2_with (refine wpList_store_tag rfl (.tmp 2) (.tmp 40) rfl w.heap.size rfl rfl HT3.out ?_)
        intro w5 T5 G5
        have HT5 := hyd T5
        have HG5 : Hid (Chg (fun _ => False) w w5) := hyd (HG3.out.trans' G5 (fun i hi ht => by omega))
        clear T5 G5
        go_wp2
        refine bodyPost_ret (results_tag rfl _ rfl HT5.out) rfl ?_
        exact ⟨Or.inl ⟨HI.out, rfl⟩, HG5.out⟩
      · rw [decide_eq_false hne] at hq
        refine hq.mono ?_
        rintro e w3 ⟨rfl, G3⟩
        have HT3 := hyd (HT2.out.chg G3 (fun e => e))
        have HG3 := hyd (HG2.out.trans G3)
        have HI : Hid (¬ IsB l) := hyd (fun h => hne h.2)
        clear G3 hq HT2 HG2 HV2 hm hne
        go_wp2_with (refine wpList_store_tag rfl (.tmp 2) (.tmp 39) rfl w.heap.size rfl rfl HT3.out ?_)
        intro w5 T5 G5
        have HT5 := hyd T5
        have HG5 : Hid (Chg (fun _ => False) w w5) := hyd (HG3.out.trans' G5 (fun i hi ht => by omega))
        clear T5 G5
        go_wp2
        refine bodyPost_ret (results_tag rfl _ rfl HT5.out) rfl ?_
        exact ⟨Or.inr ⟨HI.out, rfl⟩, HG5.out⟩
    · refine (rmay_no w0 _ _ _ _ _ hm).mono ?_
      rintro e w1 ⟨rfl, G1⟩
      have HT1 := hyd (HT.out.chg G1 (fun e => e))
      have HG1 := hyd (HG.out.trans G1)
      have HI : Hid (¬ IsB l) := hyd (fun h => hm h.1)
      clear G1 HT HG HV hm v0 v1 v2 v3 v4
      go_wp2_with (refine wpList_store_tag rfl (.tmp 2) (.tmp 32) rfl w.heap.size rfl rfl HT1.out ?_)
      intro w5 T5 G5
      have HT5 := hyd T5
      have HG5 : Hid (Chg (fun _ => False) w w5) := hyd (HG1.out.trans' G5 (fun i hi ht => by omega))
      clear T5 G5
      go_wp2
      refine bodyPost_ret (results_tag rfl _ rfl HT5.out) rfl ?_
      exact ⟨Or.inr ⟨HI.out, rfl⟩, HG5.out⟩
end Go.Proofs.Ytgipkdkhgdaeiaa
