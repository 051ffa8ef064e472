/-
  What the functions of health answer. No condition: lemmas.
-/
import Derived.Test.YtmicfipanpdjbaaCel
namespace Go.Proofs.Ytmicfipanpdjbaa
set_option maxRecDepth 100000
open Go.RowKit

/-- What counts may be. -/
def Okh (R N S : Nat → Int) : Prop := ∀ i, i < 12 → (0 ≤ R i ∧ R i ≤ 65535) ∧ (0 ≤ N i ∧ N i ≤ 65535) ∧ (0 ≤ S i ∧ S i ≤ 255)
/-- Whether there is such a block, as an error's number. -/
def blC (z : Int) : Nat := if 0 ≤ z ∧ z < 12 then 0 else 1
/-- One more at z, at most m. -/
def more (m : Int) (F : Nat → Int) (z : Int) : Nat → Int := if 0 ≤ z ∧ z < 12 then upd F z.toNat (min (F z.toNat + 1) m) else F
/-- None at z. -/
def none0 (F : Nat → Int) (z : Int) : Nat → Int := if 0 ≤ z ∧ z < 12 then upd F z.toNat 0 else F
/-- Whether z's is k or more. -/
def much (k : Int) (F : Nat → Int) (z : Int) : Bool := if 0 ≤ z ∧ z < 12 then decide (F z.toNat ≥ k) else false
theorem blC_code (z : Int) : Cd (blC z) := by
  unfold blC Cd
  split
  · exact Or.inl rfl
  · exact Or.inr rfl
theorem nat_of (z : Int) (h : 0 ≤ z ∧ z < 12) : ∃ n : Nat, n < 12 ∧ z = n := ⟨z.toNat, by omega, by omega⟩
theorem more_yes (m : Int) (F : Nat → Int) (n : Nat) (h : n < 12) : more m F n = upd F n (min (F n + 1) m) := by
  unfold more; rw [if_pos (by omega), Int.toNat_natCast]
theorem none_yes (F : Nat → Int) (n : Nat) (h : n < 12) : none0 F n = upd F n 0 := by
  unfold none0; rw [if_pos (by omega), Int.toNat_natCast]
theorem much_yes (k : Int) (F : Nat → Int) (n : Nat) (h : n < 12) : much k F n = decide (F n ≥ k) := by
  unfold much; rw [if_pos (by omega), Int.toNat_natCast]
theorem blC_yes (n : Nat) (h : n < 12) : blC n = 0 := by unfold blC; rw [if_pos (by omega)]
theorem Okh.more1 {R N S : Nat → Int} (h : Okh R N S) (z : Int) : Okh (more 65535 R z) N S := fun i hi => by
  have hh := h i hi
  refine ⟨?_, hh.2⟩
  unfold more
  split
  · unfold upd
    split
    · rename_i e; rw [← e]; omega
    · exact hh.1
  · exact hh.1
theorem Okh.more3 {R N S : Nat → Int} (h : Okh R N S) (z : Int) : Okh R N (more 255 S z) := fun i hi => by
  have hh := h i hi
  refine ⟨hh.1, hh.2.1, ?_⟩
  unfold more
  split
  · unfold upd
    split
    · rename_i e; rw [← e]; omega
    · exact hh.2.2
  · exact hh.2.2
theorem Okh.none {R N S : Nat → Int} (h : Okh R N S) (z : Int) : Okh (none0 R z) (none0 N z) S := fun i hi => by
  have hh := h i hi
  unfold none0
  split
  · unfold upd
    split
    · exact ⟨by omega, by omega, hh.2.2⟩
    · exact hh
  · exact hh
theorem Okh.noted {R N S : Nat → Int} (h : Okh R N S) : Okh R R S := fun i hi => ⟨(h i hi).1, (h i hi).1, (h i hi).2.2⟩
theorem block_yes (w : World) (n : Nat) (h1 : n < 12) : Calls Try.prog 29 #[.int .i64 n] w fun e w' => e = .returned (.bool true) ∧ w' = w := by
  have h2 : (n : Int) < 12 := by omega
  go_enter Try.func29, Try.ntmps29
  go_wp2
  go_ret
  exact ⟨rfl, rfl⟩
theorem block_no (w : World) (n : Int) (h : ¬ (0 ≤ n ∧ n < 12)) : Calls Try.prog 29 #[.int .i64 n] w fun e w' => e = .returned (.bool false) ∧ w' = w := by
  by_cases h0 : 0 ≤ n
  · have h1 : ¬ n < 12 := by omega
    clear h
    go_enter Try.func29, Try.ntmps29
    go_wp2
    go_ret
    exact ⟨rfl, rfl⟩
  · clear h
    go_enter Try.func29, Try.ntmps29
    go_wp2
    go_ret
    exact ⟨rfl, rfl⟩
/-- Whether of some block 64 are to be written down. -/
def duB (R N : Nat → Int) : Bool := (List.range 12).any fun i => decide (64 ≤ R i - N i)
theorem duB_yes {R N : Nat → Int} {i : Nat} (hi : i < 12) (h : 64 ≤ R i - N i) : duB R N = true := by
  unfold duB
  rw [List.any_eq_true]
  exact ⟨i, List.mem_range.2 hi, decide_eq_true h⟩
theorem duB_no {R N : Nat → Int} (h : ∀ j, j < 12 → ¬ 64 ≤ R j - N j) : duB R N = false := by
  unfold duB
  rw [List.any_eq_false]
  intro i hi
  simpa using h i (List.mem_range.1 hi)
theorem make12 (w : World) : (Instr.makeSlice 22 (.int .i64 12) (.int .i64 12)).run Try.prog w = .ok (.slice (some ⟨w.heap.size, 0, none⟩) 12 12) (w.alloc (.cells (ints (fun _ => 0) 12).toArray 3)) := by kernel_rfl
theorem told_any (w : World) (F : Nat → Int) : Calls Try.prog 28 #[.agg (ints F 12).toArray] w fun e w' => e = .returned (.slice (some ⟨w.heap.size + 1, 0, none⟩) 12 12) ∧ IB w' (w.heap.size + 1) 3 12 F ∧ Chg (fun _ => False) w w' := by
  have hm := make12
  have HA := hyd (IB.new w 39 12 F)
  have HG0 : Hid (Chg (fun _ => False) w (w.alloc (.cells (ints F 12).toArray 39))) := (Chg.refl _ w).alloc _
  have es : (w.alloc (.cells (ints F 12).toArray 39)).heap.size = w.heap.size + 1 := by simp
  have HK0 := hyd (IB.new (w.alloc (.cells (ints F 12).toArray 39)) 3 12 (fun _ => 0))
  have HG1 : Hid (Chg (fun _ => False) (w.alloc (.cells (ints F 12).toArray 39)) ((w.alloc (.cells (ints F 12).toArray 39)).alloc (.cells (ints (fun _ => 0) 12).toArray 3))) := (Chg.refl _ _).alloc _
  rw [es] at HK0
  have HK := hyd (HA.out.chg HG1.out (fun f => f))
  clear HA
  go_enter Try.func28, Try.ntmps28
  go_wp2_with (refine wpList_copy_own rfl (.tmp 5) (.tmp 6) 22 22 rfl 3 Try.underlying22 size3 (w.heap.size + 1) 0 12 12 ⟨w.heap.size, 0, none⟩ 12 12 rfl rfl (ints (fun _ => 0) 12).toArray 3 HK0.out (ints F 12) (by rw [ints_length]; rfl) (fun j v hv => by rw [addr_at, Nat.zero_add, (HK.out.cell j (by have := (List.getElem?_eq_some_iff.1 hv).1; rw [ints_length] at this; omega)).1, ← hv, ints_at _ _ _ (by have := (List.getElem?_eq_some_iff.1 hv).1; rw [ints_length] at this; omega)]; rfl) (by simp [ints_length]) (ints_one F 12) ?_)
  go_ret
  have e1 : (ints F 12 ++ List.drop (ints F 12).length (ints (fun _ => 0) 12)).toArray = (ints F 12).toArray := by
    rw [ints_length, List.drop_of_length_le (by simp [ints_length]), List.append_nil]
  rw [e1]
  exact ⟨rfl, HK0.out.row F, (HG0.out.trans HG1.out).trans' (chg_row _ _ _) (fun i hi e => by omega)⟩
theorem read_v (w : World) (p : Nat) (R N S : Nat → Int) (h : HB w p 48 R N S) (ok : Okh R N S) (z : Int) : Calls Try.prog 15 #[.pointer (some ⟨p, 0, none⟩), .int .i64 z] w fun e w' => e = .returned (errV (blC z)) ∧ HB w' p 48 (more 65535 R z) N S ∧ Chg (· = p) w w' := by
  by_cases hz : 0 ≤ z ∧ z < 12
  · obtain ⟨n, hn, rfl⟩ := nat_of z hz
    rw [more_yes _ _ _ hn, blC_yes n hn]
    obtain ⟨c, f⟩ := h.ca n hn
    have hb := (ok n hn).1
    have hb1 := hb.1
    have hb2 := hb.2
    have hnz : (n : Int) < 12 := by omega
    have HK := hyd h
    have HN := hyd hn
    clear h hz hb ok
    by_cases hm : R n + 1 ≤ 65535
    · rw [show min (R n + 1) 65535 = R n + 1 by omega]
      generalize R n = u at *
      go_enter Try.func15, Try.ntmps15
      go_wp2_with (go_at_call 29; refine (block_yes _ _ hn).mono ?_; rintro e w1 ⟨rfl, rfl⟩)
      go_region
      go_wp2
      go_ret
      exact ⟨rfl, HK.out.setA n HN.out _, ((Chg.refl (· = p) _).drew).setCell (Or.inl rfl) _ _⟩
    · rw [show min (R n + 1) 65535 = 65535 by omega]
      generalize R n = u at *
      go_enter Try.func15, Try.ntmps15
      go_wp2_with (go_at_call 29; refine (block_yes _ _ hn).mono ?_; rintro e w1 ⟨rfl, rfl⟩)
      go_region
      go_wp2
      go_ret
      exact ⟨rfl, HK.out.setA n HN.out _, ((Chg.refl (· = p) _).drew).setCell (Or.inl rfl) _ _⟩
  · have HE : Hid (more 65535 R z = R ∧ blC z = 1) := ⟨by unfold more; rw [if_neg hz], by unfold blC; rw [if_neg hz]⟩
    have HK := hyd h
    clear h ok
    rw [HE.out.1, HE.out.2]
    go_enter Try.func15, Try.ntmps15
    go_wp2_with (go_at_call 29; refine (block_no _ _ hz).mono ?_; rintro e w1 ⟨rfl, rfl⟩)
    go_ret
    exact ⟨rfl, HK.out, Chg.refl _ _⟩
theorem report_v (w : World) (p : Nat) (R N S : Nat → Int) (h : HB w p 48 R N S) (ok : Okh R N S) (z : Int) : Calls Try.prog 16 #[.pointer (some ⟨p, 0, none⟩), .int .i64 z] w fun e w' => e = .returned (errV (blC z)) ∧ HB w' p 48 R N (more 255 S z) ∧ Chg (· = p) w w' := by
  by_cases hz : 0 ≤ z ∧ z < 12
  · obtain ⟨n, hn, rfl⟩ := nat_of z hz
    rw [more_yes _ _ _ hn, blC_yes n hn]
    obtain ⟨c, f⟩ := h.cc n hn
    have hb := (ok n hn).2.2
    have hb1 := hb.1
    have hb2 := hb.2
    have hnz : (n : Int) < 12 := by omega
    have HK := hyd h
    have HN := hyd hn
    clear h hz hb ok
    by_cases hm : S n + 1 ≤ 255
    · rw [show min (S n + 1) 255 = S n + 1 by omega]
      generalize S n = u at *
      go_enter Try.func16, Try.ntmps16
      go_wp2_with (go_at_call 29; refine (block_yes _ _ hn).mono ?_; rintro e w1 ⟨rfl, rfl⟩)
      go_region
      go_wp2
      go_ret
      exact ⟨rfl, HK.out.setC n HN.out _, ((Chg.refl (· = p) _).drew).setCell (Or.inl rfl) _ _⟩
    · rw [show min (S n + 1) 255 = 255 by omega]
      generalize S n = u at *
      go_enter Try.func16, Try.ntmps16
      go_wp2_with (go_at_call 29; refine (block_yes _ _ hn).mono ?_; rintro e w1 ⟨rfl, rfl⟩)
      go_region
      go_wp2
      go_ret
      exact ⟨rfl, HK.out.setC n HN.out _, ((Chg.refl (· = p) _).drew).setCell (Or.inl rfl) _ _⟩
  · have HE : Hid (more 255 S z = S ∧ blC z = 1) := ⟨by unfold more; rw [if_neg hz], by unfold blC; rw [if_neg hz]⟩
    have HK := hyd h
    clear h ok
    rw [HE.out.1, HE.out.2]
    go_enter Try.func16, Try.ntmps16
    go_wp2_with (go_at_call 29; refine (block_no _ _ hz).mono ?_; rintro e w1 ⟨rfl, rfl⟩)
    go_ret
    exact ⟨rfl, HK.out, Chg.refl _ _⟩
theorem erased_v (w : World) (p : Nat) (R N S : Nat → Int) (h : HB w p 48 R N S) (_ : Okh R N S) (z : Int) : Calls Try.prog 17 #[.pointer (some ⟨p, 0, none⟩), .int .i64 z] w fun e w' => e = .returned (errV (blC z)) ∧ HB w' p 48 (none0 R z) (none0 N z) S ∧ Chg (· = p) w w' := by
  by_cases hz : 0 ≤ z ∧ z < 12
  · obtain ⟨n, hn, rfl⟩ := nat_of z hz
    rw [none_yes _ _ hn, none_yes _ _ hn, blC_yes n hn]
    obtain ⟨c, f⟩ := h.ca n hn
    have HK1 := hyd (h.setA n hn 0)
    obtain ⟨c', f'⟩ := HK1.out.cb n hn
    have hnz : (n : Int) < 12 := by omega
    have HN := hyd hn
    clear h hz
    go_enter Try.func17, Try.ntmps17
    go_wp2_with (go_at_call 29; refine (block_yes _ _ hn).mono ?_; rintro e w1 ⟨rfl, rfl⟩)
    go_region
    go_wp2
    go_ret
    exact ⟨rfl, HK1.out.setB n HN.out _, (((Chg.refl (· = p) _).drew).setCell (Or.inl rfl) _ _).setCell (Or.inl rfl) _ _⟩
  · have HE : Hid (none0 R z = R ∧ none0 N z = N ∧ blC z = 1) := ⟨by unfold none0; rw [if_neg hz], by unfold none0; rw [if_neg hz], by unfold blC; rw [if_neg hz]⟩
    have HK := hyd h
    clear h
    rw [HE.out.1, HE.out.2.1, HE.out.2.2]
    go_enter Try.func17, Try.ntmps17
    go_wp2_with (go_at_call 29; refine (block_no _ _ hz).mono ?_; rintro e w1 ⟨rfl, rfl⟩)
    go_ret
    exact ⟨rfl, HK.out, Chg.refl _ _⟩
theorem tired_v (w : World) (p : Nat) (R N S : Nat → Int) (h : HB w p 48 R N S) (_ : Okh R N S) (z : Int) : Calls Try.prog 19 #[.pointer (some ⟨p, 0, none⟩), .int .i64 z] w fun e w' => e = .returned (.tuple #[.bool (much 512 R z), errV (blC z)]) ∧ w' = w := by
  by_cases hz : 0 ≤ z ∧ z < 12
  · obtain ⟨n, hn, rfl⟩ := nat_of z hz
    rw [much_yes _ _ _ hn, blC_yes n hn]
    obtain ⟨c, -⟩ := h.ca n hn
    have hnz : (n : Int) < 12 := by omega
    clear h hz
    generalize R n = u at *
    go_enter Try.func19, Try.ntmps19
    go_wp2_with (go_at_call 29; refine (block_yes _ _ hn).mono ?_; rintro e w1 ⟨rfl, rfl⟩)
    go_ret2
    exact ⟨rfl, rfl⟩
  · have HE : Hid (much 512 R z = false ∧ blC z = 1) := ⟨by unfold much; rw [if_neg hz], by unfold blC; rw [if_neg hz]⟩
    clear h
    rw [HE.out.1, HE.out.2]
    go_enter Try.func19, Try.ntmps19
    go_wp2_with (go_at_call 29; refine (block_no _ _ hz).mono ?_; rintro e w1 ⟨rfl, rfl⟩)
    go_ret2
    exact ⟨rfl, rfl⟩
theorem weak_v (w : World) (p : Nat) (R N S : Nat → Int) (h : HB w p 48 R N S) (_ : Okh R N S) (z : Int) : Calls Try.prog 20 #[.pointer (some ⟨p, 0, none⟩), .int .i64 z] w fun e w' => e = .returned (.tuple #[.bool (much 3 S z), errV (blC z)]) ∧ w' = w := by
  by_cases hz : 0 ≤ z ∧ z < 12
  · obtain ⟨n, hn, rfl⟩ := nat_of z hz
    rw [much_yes _ _ _ hn, blC_yes n hn]
    obtain ⟨c, -⟩ := h.cc n hn
    have hnz : (n : Int) < 12 := by omega
    clear h hz
    generalize S n = u at *
    go_enter Try.func20, Try.ntmps20
    go_wp2_with (go_at_call 29; refine (block_yes _ _ hn).mono ?_; rintro e w1 ⟨rfl, rfl⟩)
    go_ret2
    exact ⟨rfl, rfl⟩
  · have HE : Hid (much 3 S z = false ∧ blC z = 1) := ⟨by unfold much; rw [if_neg hz], by unfold blC; rw [if_neg hz]⟩
    clear h
    rw [HE.out.1, HE.out.2]
    go_enter Try.func20, Try.ntmps20
    go_wp2_with (go_at_call 29; refine (block_no _ _ hz).mono ?_; rintro e w1 ⟨rfl, rfl⟩)
    go_ret2
    exact ⟨rfl, rfl⟩
theorem noted_v (w : World) (p : Nat) (R N S : Nat → Int) (h : HB w p 48 R N S) (_ : Okh R N S) : Calls Try.prog 18 #[.pointer (some ⟨p, 0, none⟩)] w fun e w' => e = .returned (.tuple #[]) ∧ HB w' p 48 R R S ∧ Chg (· = p) w w' := by
  have HK := hyd h
  clear h
  go_enter Try.func18, Try.ntmps18
  go_wp2_with (first | (refine wpList_load_12 rfl (.tmp 5) rfl p 0 rfl R HK.out.partA ?_) | (refine wpList_store_12 rfl (.tmp 8) (.tmp 6) rfl p 12 R rfl rfl (IB.there HK.out 12 12 (by omega)) ?_))
  go_end0
  exact ⟨rfl, HK.out.rowB R, Chg.setCells (S := (· = p)) (Or.inl rfl) _ _ (Chg.refl _ _)⟩
theorem due_v (w : World) (p : Nat) (R N S : Nat → Int) (h : HB w p 48 R N S) (ok : Okh R N S) : Calls Try.prog 9 #[.pointer (some ⟨p, 0, none⟩)] w fun e w' => e = .returned (.bool (duB R N)) ∧ ∃ m, w' = w.drewN m := by
  have HK := hyd h
  have HO := hyd ok
  clear h ok
  go_enter Try.func9, Try.ntmps9
  go_wp2_with fail
  go_loopg [4] 12 (fun kx s4 wr => ∃ (i m : Nat), s4 = .int .i64 i ∧ i ≤ 12 ∧ 12 - i ≤ kx ∧ Hid (∀ j, j < i → ¬ 64 ≤ R j - N j) ∧ Hid (wr = w.drewN m))
  case atStart => exact ⟨0, 0, rfl, by omega, by omega, fun j hj => absurd hj (Nat.not_lt_zero _), rfl⟩
  case round =>
  obtain ⟨i, m, rfl, hin, hkx, HI, HM⟩ := hrel
  obtain rfl := HM.out
  clear HM
  by_cases hlt : i < 12
  · have hltz : (i : Int) < 12 := by omega
    obtain ⟨c, -⟩ := HK.out.ca i hlt
    obtain ⟨c', -⟩ := HK.out.cb i hlt
    have hb := HO.out i hlt
    have hb1 := hb.1.1
    have hb2 := hb.1.2
    have hb3 := hb.2.1.1
    have hb4 := hb.2.1.2
    clear hb
    by_cases hd : 64 ≤ R i - N i
    · have HD := hyd (duB_yes hlt hd)
      generalize R i = u at *
      generalize N i = v at *
      go_wp2_with fail
      go_quiet (fail)
      go_wp2
      go_ret
      exact ⟨by rw [HD.out]; rfl, _, World.drewN_drewN _ _ _⟩
    · have HI' : Hid (∀ j, j < i + 1 → ¬ 64 ≤ R j - N j) := fun j hj => by
        by_cases e : j = i
        · rw [e]; exact hd
        · exact HI.out j (by omega)
      generalize R i = u at *
      generalize N i = v at *
      go_wp2_with fail
      go_quiet (fail)
      go_wp2
      go_roundg (12 - (i + 1))
      case measure => omega
      case rel => exact ⟨i + 1, _, by simp, by omega, Nat.le_refl _, HI', rfl⟩
  · have hltz : ¬ (i : Int) < 12 := by omega
    obtain rfl : i = 12 := by omega
    have HD := hyd (duB_no HI.out)
    go_wp2
    go_ret
    exact ⟨by rw [HD.out]; rfl, _, rfl⟩
theorem reads_v (w : World) (p : Nat) (R N S : Nat → Int) (h : HB w p 48 R N S) (_ : Okh R N S) : Calls Try.prog 13 #[.pointer (some ⟨p, 0, none⟩)] w fun e w' => e = .returned (.slice (some ⟨w.heap.size + 1, 0, none⟩) 12 12) ∧ IB w' (w.heap.size + 1) 3 12 R ∧ Chg (fun _ => False) w w' := by
  have HK := hyd h
  clear h
  go_enter Try.func13, Try.ntmps13
  go_wp2_with (first | (refine wpList_load_12 rfl (.tmp 5) rfl p 0 rfl R HK.out.partA ?_) | (go_at_call 28; refine (told_any w R).mono ?_; rintro e w1 ⟨rfl, K1, G1⟩))
  go_ret
  exact ⟨rfl, K1, G1⟩
theorem scores_v (w : World) (p : Nat) (R N S : Nat → Int) (h : HB w p 48 R N S) (_ : Okh R N S) : Calls Try.prog 14 #[.pointer (some ⟨p, 0, none⟩)] w fun e w' => e = .returned (.slice (some ⟨w.heap.size + 1, 0, none⟩) 12 12) ∧ IB w' (w.heap.size + 1) 3 12 S ∧ Chg (fun _ => False) w w' := by
  have HK := hyd h
  clear h
  go_enter Try.func14, Try.ntmps14
  go_wp2_with (first | (refine wpList_load_12 rfl (.tmp 5) rfl p 24 rfl S HK.out.partC ?_) | (go_at_call 28; refine (told_any w S).mono ?_; rintro e w1 ⟨rfl, K1, G1⟩))
  go_ret
  exact ⟨rfl, K1, G1⟩
end Go.Proofs.Ytmicfipanpdjbaa
