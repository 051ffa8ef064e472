/-
  TagBack, walked: tags come back from their bodies, and bodies from their tags. Condition: the bytes came in as a slice does.
-/
import Derived.Test.YtgipkdkhgdaeiaaDecodesWalk
namespace Go.Proofs.Ytgipkdkhgdaeiaa
open Go.RowKit
set_option maxRecDepth 100000

theorem neq_form_nil (w : World) : (binOp .neq 26 (.iface 32 (.int .i64 3)) .nilIface).run Try.prog w = .ok (.bool true) w := by kernel_rfl
theorem body_seg (p o s c : Nat) (l : Bool) : body p o s c l = bts p 2 ++ (bts o 1 ++ (bts s 5 ++ (bts c 1 ++ (bts l.toNat 1 ++ List.replicate 40 0)))) := by
  simp [body, row, pre, bts_length]
theorem seg_skip (x y : List Nat) (a n : Nat) : seg (x ++ y) (x.length + a) n = seg y a n := by
  simp [seg, List.drop_append, List.drop_eq_nil_of_le (show x.length ≤ x.length + a by omega)]
theorem seg_here (x y : List Nat) (n : Nat) (h : n = x.length) : seg (x ++ y) 0 n = x := by
  subst h
  simp [seg]
theorem fld_back (p o s c : Nat) (l : Bool) (h : May p o s c l) : fld (body p o s c l) 0 2 = p ∧ fld (body p o s c l) 2 1 = o ∧ fld (body p o s c l) 3 5 = s ∧ fld (body p o s c l) 8 1 = c ∧ lst (body p o s c l) = l := by
  have e0 := h.pl
  have e1 := h.ol
  have e2 := h.sl
  have e3 := h.cl
  have f0 : fld (body p o s c l) 0 2 = p := by
    rw [fld, body_seg, seg_here _ _ _ (bts_length _ _).symm, le_bts]
    exact Nat.mod_eq_of_lt (by omega)
  have f1 : fld (body p o s c l) 2 1 = o := by
    have := seg_skip (bts p 2) (bts o 1 ++ (bts s 5 ++ (bts c 1 ++ (bts l.toNat 1 ++ List.replicate 40 0)))) 0 1
    rw [bts_length] at this
    rw [fld, body_seg, this, seg_here _ _ _ (bts_length _ _).symm, le_bts]
    exact Nat.mod_eq_of_lt (by omega)
  have f2 : fld (body p o s c l) 3 5 = s := by
    have := seg_skip (bts p 2 ++ bts o 1) (bts s 5 ++ (bts c 1 ++ (bts l.toNat 1 ++ List.replicate 40 0))) 0 5
    rw [List.length_append, bts_length, bts_length, List.append_assoc] at this
    rw [fld, body_seg, this, seg_here _ _ _ (bts_length _ _).symm, le_bts]
    exact Nat.mod_eq_of_lt (by omega)
  have f3 : fld (body p o s c l) 8 1 = c := by
    have := seg_skip (bts p 2 ++ (bts o 1 ++ bts s 5)) (bts c 1 ++ (bts l.toNat 1 ++ List.replicate 40 0)) 0 1
    simp only [List.length_append, bts_length, List.append_assoc] at this
    rw [fld, body_seg, this, seg_here _ _ _ (bts_length _ _).symm, le_bts]
    exact Nat.mod_eq_of_lt (by omega)
  have f4 : fld (body p o s c l) 9 1 = l.toNat := by
    have := seg_skip (bts p 2 ++ (bts o 1 ++ (bts s 5 ++ bts c 1))) (bts l.toNat 1 ++ List.replicate 40 0) 0 1
    simp only [List.length_append, bts_length, List.append_assoc] at this
    rw [fld, body_seg, this, seg_here _ _ _ (bts_length _ _).symm, le_bts]
    exact Nat.mod_eq_of_lt (by cases l <;> decide)
  refine ⟨f0, f1, f2, f3, ?_⟩
  rw [lst, f4]
  cases l <;> rfl
theorem body_is (p o s c : Nat) (l : Bool) (h : May p o s c l) : IsB (body p o s c l) := by
  obtain ⟨f0, f1, f2, f3, f4⟩ := fld_back p o s c l h
  unfold IsB MayL bodyL
  rw [f0, f1, f2, f3, f4]
  exact ⟨h, rfl⟩
theorem decode_back (w : World) (g : Nat) (p o s c : Nat) (l : Bool) (h : May p o s c l) (hA : Arr w g 5 (body p o s c l)) :
    Calls Try.prog 14 #[.slice (some ⟨g, 0, none⟩) 50 50] w fun e w' => e = .returned (.tuple #[.agg #[.int .i64 p, .int .i64 o, .int .i64 s, .int .i64 c, .bool l], .nilIface]) ∧ Chg (fun _ => False) w w' := by
  have hI := body_is p o s c l h
  have := decode_yes w g 0 50 (body p o s c l) (body_bys _ _ _ _ _) (body_length _ _ _ _ _) (by decide) hA.at_ hI.1 hI.2
  obtain ⟨f0, f1, f2, f3, f4⟩ := fld_back p o s c l h
  rw [f0, f1, f2, f3, f4] at this
  exact this
set_option maxHeartbeats 8000000 in
theorem back_no (p o s c : Int) (ls : Bool) (a1 : Option Addr) (cap1 : Nat) (l : List Nat) (w : World) (hm : ¬ May p o s c ls) (hl : Bys l) (hc : l.length ≤ cap1) (hH : Held w (.slice a1 l.length cap1) l) (hln : l.length ≤ 140737488351232) :
    Calls Try.prog 5 #[.agg #[.int .i64 p, .int .i64 o, .int .i64 s, .int .i64 c, .bool ls], .slice a1 l.length cap1] w fun e w' => e = .returned (.bool true) ∧ Chg (fun _ => False) w w' := by
  have HH := hyd hH
  have T0 := Tg.new w p o s c ls
  have G0 : Chg (fun _ => False) w (w.alloc (.cells #[.int .i64 p, .int .i64 o, .int .i64 s, .int .i64 c, .bool ls] 23)) := (Chg.refl _ w).alloc _
  have he := fun w => encode_no w p o s c ls hm
  have hk := fun w => (check_any w p o s c ls).2 hm
  have hd0 := fun w  => decode_arg w none 0 0 (by decide)
  have q1 := eql_arg_nil
  have q2 := neq_arg_nil
  have hb := build23
  clear hH hm
  go_enter Try.func5, Try.ntmps5
  go_wp2_with fail
  refine (shown_any _).mono ?_
  rintro e w1 ⟨rfl, G1⟩
  have HT1 := hyd (T0.chg G1 (fun e => e))
  have HG1 := hyd (G0.trans G1)
  clear T0 G0 G1
  obtain ⟨k0, k1, k2, k3, k4⟩ := HT1.out.cells
  go_wp2_with fail
  refine (he _).mono ?_
  rintro e w2 ⟨rfl, G2⟩
  have HT2 := hyd (HT1.out.chg G2 (fun e => e))
  have HG2 := hyd (HG1.out.trans G2)
  clear G2 HT1 HG1 k0 k1 k2 k3 k4
  go_wp2_with fail
  refine (hd0 _).mono ?_
  rintro e w3 ⟨rfl, G3⟩
  have HT3 := hyd ((HT2.out.chg G3 (fun e => e)).alloc (.cells #[.int .i64 0, .int .i64 0, .int .i64 0, .int .i64 0, .bool false] 23))
  have HU3 := hyd (Tg.new w3 0 0 0 0 false)
  have HG3 := hyd ((HG2.out.trans G3).alloc (.cells #[.int .i64 0, .int .i64 0, .int .i64 0, .int .i64 0, .bool false] 23))
  clear G3 HT2 HG2
  obtain ⟨k0, k1, k2, k3, k4⟩ := HT3.out.cells
  go_wp2_with fail
  refine (hk _).mono ?_
  rintro e w4 ⟨rfl, G4⟩
  obtain ⟨j0, j1, j2, j3, j4⟩ := (HT3.out.chg G4 (fun e => e)).cells
  obtain ⟨u0, u1, u2, u3, u4⟩ := (HU3.out.chg G4 (fun e => e)).cells
  have HG4 := hyd (HG3.out.trans G4).drew
  clear G4 HT3 HG3 HU3 k0 k1 k2 k3 k4 hd0 hk he
  go_wp2_with fail
  go_region
  clear j0 j1 j2 j3 j4 u0 u1 u2 u3 u4
  go_wp2_with fail
  refine (decode_any w4.drew a1 l.length cap1 l hl rfl hc (HH.out.chgF HG4.out)).mono ?_
  rintro e w5 ⟨v, x, rfl, D5, G5⟩
  have HG5 := hyd (HG4.out.trans G5)
  clear G5 HG4
  rcases D5 with ⟨h5, rfl, rfl⟩ | ⟨h5, hI, rfl, rfl⟩ | ⟨h5, hI, rfl, rfl⟩
  · clear h5
    have q3 := neq_arg_nil
    go_wp2
    go_ret
    exact ⟨rfl, HG5.out.alloc _⟩
  · clear h5 hI
    have q3 := neq_form_nil
    go_wp2
    go_ret
    exact ⟨rfl, HG5.out.alloc _⟩
  · have q3 := neq_nil_nil
    have q4 := eql_nil_nil
    have H5 := hyd h5
    have HI := hyd hI
    clear h5 hI
    have T5 := Tg.new w5 (fld l 0 2 : Nat) (fld l 2 1 : Nat) (fld l 3 5 : Nat) (fld l 8 1 : Nat) (lst l)
    have G5 := HG5.out.alloc (.cells #[.int .i64 (fld l 0 2 : Nat), .int .i64 (fld l 2 1 : Nat), .int .i64 (fld l 3 5 : Nat), .int .i64 (fld l 8 1 : Nat), .bool (lst l)] 23)
    have HT5 := hyd T5
    have HGG := hyd G5
    clear T5 G5 HG5
    go_wp2_with fail
    refine (encode_yes _ _ _ _ _ _ HI.out.1).mono ?_
    rintro e w6 ⟨g6, rfl, hg6, A6, G6⟩
    have HT6 := hyd (HT5.out.chg G6 (fun e => e))
    have HA6 := hyd A6
    have HG6 := hyd (HGG.out.trans G6)
    clear A6 G6 HT5 HGG
    obtain ⟨k0, k1, k2, k3, k4⟩ := HT6.out.cells
    go_wp2_with fail
    refine ((check_any _ _ _ _ _ _).1 HI.out.1).mono ?_
    rintro e w7 ⟨rfl, G7⟩
    have HA7 := hyd (HA6.out.chg G7 (fun e => e))
    have HG7 := hyd (HG6.out.trans G7)
    clear G7 HT6 HA6 HG6 k0 k1 k2 k3 k4
    have hq := same_n w7 (some ⟨g6, 0, none⟩) a1 50 l.length 50 cap1 (bodyL l) l (body_length _ _ _ _ _).symm rfl (HA7.out.heldFull 50 50 (body_length _ _ _ _ _).symm) (HH.out.chgF HG7.out) (by rw [show (bodyL l).length = 50 from body_length _ _ _ _ _]; decide) (by omega)
    rw [decide_eq_true HI.out.2] at hq
    go_wp2_with fail
    refine hq.mono ?_
    rintro e w8 ⟨rfl, G8⟩
    have HG8 := hyd (HG7.out.trans G8)
    clear G8 hq HA7 HG7
    go_wp2
    go_ret
    exact ⟨rfl, HG8.out⟩
set_option maxHeartbeats 8000000 in
theorem back_yes (p o s c : Nat) (ls : Bool) (a1 : Option Addr) (cap1 : Nat) (l : List Nat) (w : World) (hm : May p o s c ls) (hl : Bys l) (hc : l.length ≤ cap1) (hH : Held w (.slice a1 l.length cap1) l) (hln : l.length ≤ 140737488351232) :
    Calls Try.prog 5 #[.agg #[.int .i64 p, .int .i64 o, .int .i64 s, .int .i64 c, .bool ls], .slice a1 l.length cap1] w fun e w' => e = .returned (.bool true) ∧ Chg (fun _ => False) w w' := by
  have HH := hyd hH
  have T0 := Tg.new w p o s c ls
  have G0 : Chg (fun _ => False) w (w.alloc (.cells #[.int .i64 p, .int .i64 o, .int .i64 s, .int .i64 c, .bool ls] 23)) := (Chg.refl _ w).alloc _
  have he := fun w => encode_yes w p o s c ls hm
  have hk := fun w => (check_any w p o s c ls).1 hm
  have hd0 := fun w g (hA : Arr w g 5 (body p o s c ls)) => decode_back w g p o s c ls hm hA
  have q1 := eql_nil_nil
  have q2 := neq_nil_nil
  have hb := build23
  clear hH hm
  go_enter Try.func5, Try.ntmps5
  go_wp2_with fail
  refine (shown_any _).mono ?_
  rintro e w1 ⟨rfl, G1⟩
  have HT1 := hyd (T0.chg G1 (fun e => e))
  have HG1 := hyd (G0.trans G1)
  clear T0 G0 G1
  obtain ⟨k0, k1, k2, k3, k4⟩ := HT1.out.cells
  go_wp2_with fail
  refine (he _).mono ?_
  rintro e w2 ⟨g, rfl, hg, A2, G2⟩
  have HT2 := hyd (HT1.out.chg G2 (fun e => e))
  have HG2 := hyd (HG1.out.trans G2)
  clear G2 HT1 HG1 k0 k1 k2 k3 k4
  go_wp2_with fail
  refine (hd0 _ _ A2).mono ?_
  rintro e w3 ⟨rfl, G3⟩
  have HT3 := hyd ((HT2.out.chg G3 (fun e => e)).alloc (.cells #[.int .i64 p, .int .i64 o, .int .i64 s, .int .i64 c, .bool ls] 23))
  have HU3 := hyd (Tg.new w3 p o s c ls)
  have HG3 := hyd ((HG2.out.trans G3).alloc (.cells #[.int .i64 p, .int .i64 o, .int .i64 s, .int .i64 c, .bool ls] 23))
  clear G3 HT2 HG2 A2
  obtain ⟨k0, k1, k2, k3, k4⟩ := HT3.out.cells
  go_wp2_with fail
  refine (hk _).mono ?_
  rintro e w4 ⟨rfl, G4⟩
  obtain ⟨j0, j1, j2, j3, j4⟩ := (HT3.out.chg G4 (fun e => e)).cells
  obtain ⟨u0, u1, u2, u3, u4⟩ := (HU3.out.chg G4 (fun e => e)).cells
  have HG4 := hyd (HG3.out.trans G4).drew
  clear G4 HT3 HG3 HU3 k0 k1 k2 k3 k4 hd0 hk he
  go_wp2_with fail
  go_region
  clear j0 j1 j2 j3 j4 u0 u1 u2 u3 u4
  go_wp2_with fail
  refine (decode_any w4.drew a1 l.length cap1 l hl rfl hc (HH.out.chgF HG4.out)).mono ?_
  rintro e w5 ⟨v, x, rfl, D5, G5⟩
  have HG5 := hyd (HG4.out.trans G5)
  clear G5 HG4
  rcases D5 with ⟨h5, rfl, rfl⟩ | ⟨h5, hI, rfl, rfl⟩ | ⟨h5, hI, rfl, rfl⟩
  · clear h5
    have q3 := neq_arg_nil
    go_wp2
    go_ret
    exact ⟨rfl, HG5.out.alloc _⟩
  · clear h5 hI
    have q3 := neq_form_nil
    go_wp2
    go_ret
    exact ⟨rfl, HG5.out.alloc _⟩
  · have q3 := neq_nil_nil
    have q4 := eql_nil_nil
    have H5 := hyd h5
    have HI := hyd hI
    clear h5 hI
    have T5 := Tg.new w5 (fld l 0 2 : Nat) (fld l 2 1 : Nat) (fld l 3 5 : Nat) (fld l 8 1 : Nat) (lst l)
    have G5 := HG5.out.alloc (.cells #[.int .i64 (fld l 0 2 : Nat), .int .i64 (fld l 2 1 : Nat), .int .i64 (fld l 3 5 : Nat), .int .i64 (fld l 8 1 : Nat), .bool (lst l)] 23)
    have HT5 := hyd T5
    have HGG := hyd G5
    clear T5 G5 HG5
    go_wp2_with fail
    refine (encode_yes _ _ _ _ _ _ HI.out.1).mono ?_
    rintro e w6 ⟨g6, rfl, hg6, A6, G6⟩
    have HT6 := hyd (HT5.out.chg G6 (fun e => e))
    have HA6 := hyd A6
    have HG6 := hyd (HGG.out.trans G6)
    clear A6 G6 HT5 HGG
    obtain ⟨k0, k1, k2, k3, k4⟩ := HT6.out.cells
    go_wp2_with fail
    refine ((check_any _ _ _ _ _ _).1 HI.out.1).mono ?_
    rintro e w7 ⟨rfl, G7⟩
    have HA7 := hyd (HA6.out.chg G7 (fun e => e))
    have HG7 := hyd (HG6.out.trans G7)
    clear G7 HT6 HA6 HG6 k0 k1 k2 k3 k4
    have hq := same_n w7 (some ⟨g6, 0, none⟩) a1 50 l.length 50 cap1 (bodyL l) l (body_length _ _ _ _ _).symm rfl (HA7.out.heldFull 50 50 (body_length _ _ _ _ _).symm) (HH.out.chgF HG7.out) (by rw [show (bodyL l).length = 50 from body_length _ _ _ _ _]; decide) (by omega)
    rw [decide_eq_true HI.out.2] at hq
    go_wp2_with fail
    refine hq.mono ?_
    rintro e w8 ⟨rfl, G8⟩
    have HG8 := hyd (HG7.out.trans G8)
    clear G8 hq HA7 HG7
    go_wp2
    go_ret
    exact ⟨rfl, HG8.out⟩
theorem back_walk (p o s c : Int) (ls : Bool) (a1 : Option Addr) (len1 cap1 : Nat) (z1 : List Int) (w : World) (w1 : IsRow .u8 w a1 len1 cap1 z1) (r1 : cap1 * 1 ≤ 140737488351232) :
    Calls Try.prog 5 #[.agg #[.int .i64 p, .int .i64 o, .int .i64 s, .int .i64 c, .bool ls], .slice a1 len1 cap1] w fun e w' => e = .returned (.bool true) ∧ Below w.heap.size w w' := by
  obtain ⟨l, rfl, hl, hc, hn, hH⟩ := row_in w1
  have main : Calls Try.prog 5 #[.agg #[.int .i64 p, .int .i64 o, .int .i64 s, .int .i64 c, .bool ls], .slice a1 l.length cap1] w fun e w' => e = .returned (.bool true) ∧ Chg (fun _ => False) w w' := by
    by_cases h : May p o s c ls
    · obtain ⟨⟨⟨h1, _⟩, ⟨h2, _⟩, ⟨h3, _⟩, h4, _⟩, _⟩ := id h
      obtain ⟨P, rfl⟩ : ∃ P : Nat, p = P := ⟨p.toNat, by omega⟩
      obtain ⟨O, rfl⟩ : ∃ O : Nat, o = O := ⟨o.toNat, by omega⟩
      obtain ⟨S, rfl⟩ : ∃ S : Nat, s = S := ⟨s.toNat, by omega⟩
      obtain ⟨C, rfl⟩ : ∃ C : Nat, c = C := ⟨c.toNat, by omega⟩
      exact back_yes P O S C ls a1 cap1 l w h hl hc hH (by omega)
    · exact back_no p o s c ls a1 cap1 l w h hl hc hH (by omega)
  refine main.mono ?_
  rintro e w' ⟨rfl, G⟩
  exact ⟨rfl, G.below (fun k e => e.elim) (Nat.le_refl _)⟩
end Go.Proofs.Ytgipkdkhgdaeiaa
