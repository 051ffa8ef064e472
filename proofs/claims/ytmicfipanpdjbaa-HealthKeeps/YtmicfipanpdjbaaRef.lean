/-
  What the document's functions answer. Condition: the lists lie in memory.
-/
import Derived.Test.YtmicfipanpdjbaaNew
import Derived.Deep.RegionHeld3
namespace Go.Proofs.Ytmicfipanpdjbaa
set_option maxRecDepth 100000
open Go.RowKit

theorem least_any (w : World) (a b : Int) : Calls Try.prog 22 #[.int .i64 a, .int .i64 b] w fun e w' => e = .returned (.int .i64 (min a b)) ∧ w' = w := by
  by_cases h : a < b
  · rw [show min a b = a by omega]
    go_enter Try.func22, Try.ntmps22
    go_wp2
    go_ret
    exact ⟨rfl, rfl⟩
  · rw [show min a b = b by omega]
    go_enter Try.func22, Try.ntmps22
    go_wp2
    go_ret
    exact ⟨rfl, rfl⟩
theorem is_yes (w : World) (n : Nat) (h1 : n < 12) : Calls Try.prog 27 #[.int .i64 n] w fun e w' => e = .returned (.bool true) ∧ w' = w := by
  have h2 : (n : Int) ≤ 11 := by omega
  go_enter Try.func27, Try.ntmps27
  go_wp2
  go_ret
  exact ⟨rfl, rfl⟩
theorem is_no (w : World) (n : Int) (h : ¬ (0 ≤ n ∧ n < 12)) : Calls Try.prog 27 #[.int .i64 n] w fun e w' => e = .returned (.bool false) ∧ w' = w := by
  by_cases h0 : n ≥ 0
  · have h1 : ¬ n ≤ 11 := by omega
    clear h
    go_enter Try.func27, Try.ntmps27
    go_wp2
    go_ret
    exact ⟨rfl, rfl⟩
  · clear h
    go_enter Try.func27, Try.ntmps27
    go_wp2
    go_ret
    exact ⟨rfl, rfl⟩
theorem rread_v (w : World) (r : Nat) (R N S : Nat → Int) (h : HB w r 50 R S N) (ok : Okh R N S) (z : Int) : Calls Try.prog 24 #[.pointer (some ⟨r, 0, none⟩), .int .i64 z] w fun e w' => e = .returned (.int .i64 (blC z)) ∧ HB w' r 50 (more 65535 R z) S N ∧ Chg (· = r) w w' := by
  by_cases hz : 0 ≤ z ∧ z < 12
  · obtain ⟨n, hn, rfl⟩ := nat_of z hz
    rw [more_yes _ _ _ hn, blC_yes n hn]
    obtain ⟨c, f⟩ := h.ca n hn
    have hb := (ok n hn).1
    have hb1 := hb.1
    have hb2 := hb.2
    have hnz : (n : Int) < 12 := by omega
    have HK := hyd h
    have HN := hyd hn
    clear h hz hb ok
    have hwr : IntKind.i64.wrap (R n + 1) = R n + 1 := by rw [IntKind.wrap_i64]; omega
    have hl := fun w => least_any w (R n + 1) 65535
    generalize R n = u at *
    generalize HV : min (u + 1) 65535 = v at *
    have HV := hyd HV
    go_enter Try.func24, Try.ntmps24
    go_wp2_with (go_at_call 27; refine (is_yes _ _ hn).mono ?_; rintro e w1 ⟨rfl, rfl⟩)
    go_region_with (first | (go_at_call 22; refine (hl _).mono ?_; rintro x w3 ⟨rfl, rfl⟩))
    go_wp2
    go_ret
    exact ⟨rfl, HK.out.setA n HN.out _, ((Chg.refl (· = r) _).drew).setCell (Or.inl rfl) _ _⟩
  · have HE : Hid (more 65535 R z = R ∧ blC z = 1) := ⟨by unfold more; rw [if_neg hz], by unfold blC; rw [if_neg hz]⟩
    have HK := hyd h
    clear h ok
    rw [HE.out.1, HE.out.2]
    go_enter Try.func24, Try.ntmps24
    go_wp2_with (go_at_call 27; refine (is_no _ _ hz).mono ?_; rintro e w1 ⟨rfl, rfl⟩)
    go_ret
    exact ⟨rfl, HK.out, Chg.refl _ _⟩
theorem rreport_v (w : World) (r : Nat) (R N S : Nat → Int) (h : HB w r 50 R S N) (ok : Okh R N S) (z : Int) : Calls Try.prog 25 #[.pointer (some ⟨r, 0, none⟩), .int .i64 z] w fun e w' => e = .returned (.int .i64 (blC z)) ∧ HB w' r 50 R (more 255 S z) N ∧ Chg (· = r) w w' := by
  by_cases hz : 0 ≤ z ∧ z < 12
  · obtain ⟨n, hn, rfl⟩ := nat_of z hz
    rw [more_yes _ _ _ hn, blC_yes n hn]
    obtain ⟨c, f⟩ := h.cb n hn
    have hb := (ok n hn).2.2
    have hb1 := hb.1
    have hb2 := hb.2
    have hnz : (n : Int) < 12 := by omega
    have HK := hyd h
    have HN := hyd hn
    clear h hz hb ok
    have hwr : IntKind.i64.wrap (S n + 1) = S n + 1 := by rw [IntKind.wrap_i64]; omega
    have hl := fun w => least_any w (S n + 1) 255
    generalize S n = u at *
    generalize HV : min (u + 1) 255 = v at *
    have HV := hyd HV
    go_enter Try.func25, Try.ntmps25
    go_wp2_with (go_at_call 27; refine (is_yes _ _ hn).mono ?_; rintro e w1 ⟨rfl, rfl⟩)
    go_region_with (first | (go_at_call 22; refine (hl _).mono ?_; rintro x w3 ⟨rfl, rfl⟩))
    go_wp2
    go_ret
    exact ⟨rfl, HK.out.setB n HN.out _, ((Chg.refl (· = r) _).drew).setCell (Or.inl rfl) _ _⟩
  · have HE : Hid (more 255 S z = S ∧ blC z = 1) := ⟨by unfold more; rw [if_neg hz], by unfold blC; rw [if_neg hz]⟩
    have HK := hyd h
    clear h ok
    rw [HE.out.1, HE.out.2]
    go_enter Try.func25, Try.ntmps25
    go_wp2_with (go_at_call 27; refine (is_no _ _ hz).mono ?_; rintro e w1 ⟨rfl, rfl⟩)
    go_ret
    exact ⟨rfl, HK.out, Chg.refl _ _⟩
theorem rerased_v (w : World) (r : Nat) (R N S : Nat → Int) (h : HB w r 50 R S N) (_ : Okh R N S) (z : Int) : Calls Try.prog 26 #[.pointer (some ⟨r, 0, none⟩), .int .i64 z] w fun e w' => e = .returned (.int .i64 (blC z)) ∧ HB w' r 50 (none0 R z) S (none0 N z) ∧ Chg (· = r) w w' := by
  by_cases hz : 0 ≤ z ∧ z < 12
  · obtain ⟨n, hn, rfl⟩ := nat_of z hz
    rw [none_yes _ _ hn, none_yes _ _ hn, blC_yes n hn]
    obtain ⟨c, f⟩ := h.ca n hn
    have HK1 := hyd (h.setA n hn 0)
    obtain ⟨c', f'⟩ := HK1.out.cc n hn
    have hnz : (n : Int) < 12 := by omega
    have HN := hyd hn
    clear h hz
    go_enter Try.func26, Try.ntmps26
    go_wp2_with (go_at_call 27; refine (is_yes _ _ hn).mono ?_; rintro e w1 ⟨rfl, rfl⟩)
    go_ret
    exact ⟨rfl, HK1.out.setC n HN.out _, ((Chg.refl (· = r) _).setCell (Or.inl rfl) _ _).setCell (Or.inl rfl) _ _⟩
  · have HE : Hid (none0 R z = R ∧ none0 N z = N ∧ blC z = 1) := ⟨by unfold none0; rw [if_neg hz], by unfold none0; rw [if_neg hz], by unfold blC; rw [if_neg hz]⟩
    have HK := hyd h
    clear h
    rw [HE.out.1, HE.out.2.1, HE.out.2.2]
    go_enter Try.func26, Try.ntmps26
    go_wp2_with (go_at_call 27; refine (is_no _ _ hz).mono ?_; rintro e w1 ⟨rfl, rfl⟩)
    go_ret
    exact ⟨rfl, HK.out, Chg.refl _ _⟩
theorem rdue_v (w : World) (r : Nat) (R N S : Nat → Int) (h : HB w r 50 R S N) (ok : Okh R N S) : Calls Try.prog 10 #[.pointer (some ⟨r, 0, none⟩)] w fun e w' => e = .returned (.bool (duB R N)) ∧ ∃ m, w' = w.drewN m := by
  have HK := hyd h
  have HO := hyd ok
  clear h ok
  go_enter Try.func10, Try.ntmps10
  go_wp2_with fail
  go_loopg [3] 12 (fun kx s3 wr => ∃ (i m : Nat), s3 = .int .i64 i ∧ i ≤ 12 ∧ 12 - i ≤ kx ∧ Hid (∀ j, j < i → ¬ 64 ≤ R j - N j) ∧ Hid (wr = w.drewN m))
  case atStart => exact ⟨0, 0, rfl, by omega, by omega, fun j hj => absurd hj (Nat.not_lt_zero _), rfl⟩
  case round =>
  obtain ⟨i, m, rfl, hin, hkx, HI, HM⟩ := hrel
  obtain rfl := HM.out
  clear HM
  by_cases hlt : i < 12
  · have hltz : (i : Int) < 12 := by omega
    obtain ⟨c, -⟩ := HK.out.ca i hlt
    obtain ⟨c', -⟩ := HK.out.cc i hlt
    have hb := HO.out i hlt
    have hb1 := hb.1.1
    have hb2 := hb.1.2
    have hb3 := hb.2.1.1
    have hb4 := hb.2.1.2
    clear hb
    by_cases hd : 64 ≤ R i - N i
    · have HD := hyd (duB_yes hlt hd)
      generalize R i = u at *
      generalize N i = v at *
      go_wp2_with fail
      go_quiet (fail)
      go_wp2
      go_ret
      exact ⟨by rw [HD.out]; rfl, _, World.drewN_drewN _ _ _⟩
    · have HI' : Hid (∀ j, j < i + 1 → ¬ 64 ≤ R j - N j) := fun j hj => by
        by_cases e : j = i
        · rw [e]; exact hd
        · exact HI.out j (by omega)
      generalize R i = u at *
      generalize N i = v at *
      go_wp2_with fail
      go_quiet (fail)
      go_wp2
      go_roundg (12 - (i + 1))
      case measure => omega
      case rel => exact ⟨i + 1, _, by simp, by omega, Nat.le_refl _, HI', rfl⟩
  · have hltz : ¬ (i : Int) < 12 := by omega
    obtain rfl : i = 12 := by omega
    have HD := hyd (duB_no HI.out)
    go_wp2
    go_ret
    exact ⟨by rw [HD.out]; rfl, _, rfl⟩
theorem build50 (w : World) : (Instr.build 50 #[]).run Try.prog w = .ok (.agg (ints (cel (fun _ => 0) (fun _ => 0) (fun _ => 0)) 36).toArray) w := by kernel_rfl
theorem rnew_len (w : World) (pr ps : Option Addr) (nr ns cr cs : Nat) (h : ¬ (nr = 12 ∧ ns = 12)) : Calls Try.prog 7 #[.slice pr nr cr, .slice ps ns cs] w fun e w' => e = .returned (.tuple #[.pointer none, .bool false]) ∧ w' = w := by
  by_cases h1 : nr = 12
  · have h2 : ((ns : Int) != 12) = true := by simp only [bne_iff_ne]; omega
    subst h1
    clear h
    go_enter Try.func7, Try.ntmps7
    go_wp2
    go_ret2
    exact ⟨rfl, rfl⟩
  · have h2 : ((nr : Int) != 12) = true := by simp only [bne_iff_ne]; omega
    clear h h1
    go_enter Try.func7, Try.ntmps7
    go_wp2
    go_ret2
    exact ⟨rfl, rfl⟩
/-- What is answered of two lists of twelve. -/
def RNew (w w' : World) (V U : Nat → Int) (e : Ending) : Prop :=
  (if okL 12 V && okL 12 U then e = .returned (.tuple #[.pointer (some ⟨w.heap.size, 0, none⟩), .bool true]) ∧ HB w' w.heap.size 50 (lim 65535 V) (lim 255 U) (lim 65535 V)
    else e = .returned (.tuple #[.pointer none, .bool false])) ∧ Chg (fun _ => False) w w'
theorem RNew.no {w w' : World} {V U : Nat → Int} {e : Ending} (h : ¬ (okL 12 V = true ∧ okL 12 U = true)) (he : e = .returned (.tuple #[.pointer none, .bool false])) (hc : Chg (fun _ => False) w w') : RNew w w' V U e := by
  refine ⟨?_, hc⟩
  rw [if_neg (by simpa using h)]
  exact he
theorem RNew.yes {w w' : World} {V U : Nat → Int} {e : Ending} (h : okL 12 V = true ∧ okL 12 U = true) (he : e = .returned (.tuple #[.pointer (some ⟨w.heap.size, 0, none⟩), .bool true])) (hk : HB w' w.heap.size 50 (lim 65535 V) (lim 255 U) (lim 65535 V)) (hc : Chg (fun _ => False) w w') : RNew w w' V U e := by
  refine ⟨?_, hc⟩
  rw [if_pos (by simpa using h)]
  exact ⟨he, hk⟩
set_option maxHeartbeats 4000000 in
theorem rnew_12 (w : World) (pr ps : Option Addr) (cr cs : Nat) (V U : Nat → Int) (hr : Lies w pr 12 V) (hs : Lies w ps 12 U) : Calls Try.prog 7 #[.slice pr 12 cr, .slice ps 12 cs] w fun e w' => RNew w w' V U e := by
  rcases hr with hr | ⟨gr, or_, rfl, hgr, hr⟩
  · omega
  rcases hs with hs | ⟨gs, os, rfl, hgs, hs⟩
  · omega
  have HR := hyd hr
  have HS := hyd hs
  have HGL := hyd (And.intro hgr hgs)
  have hbu := build50
  have HK1 := hyd (show HB _ w.heap.size 50 (fun _ => 0) (fun _ => 0) (fun _ => 0) from IB.new w 50 36 (cel (fun _ => 0) (fun _ => 0) (fun _ => 0)))
  have HG1 : Hid (Chg (fun _ => False) w (w.alloc (.cells (ints (cel (fun _ => 0) (fun _ => 0) (fun _ => 0)) 36).toArray 50))) := (Chg.refl _ w).alloc _
  clear hr hs hgr hgs
  go_enter Try.func7, Try.ntmps7
  go_wp2_with fail
  generalize HB0 : w.heap.size = b at *
  have HB0 := hyd HB0
  clear hbu
  go_loopg [7] 12 (fun kx s7 wr => ∃ i : Nat, s7 = .int .i64 i ∧ i ≤ 12 ∧ 12 - i ≤ kx ∧ Hid (∀ j, j < i → 0 ≤ V j ∧ 0 ≤ U j) ∧ Hid (HB wr b 50 (pre i (lim 65535 V)) (pre i (lim 255 U)) (fun _ => 0)) ∧ Hid (Chg (fun _ => False) w wr))
  case atStart => exact ⟨0, rfl, by omega, by omega, fun j hj => absurd hj (Nat.not_lt_zero _), HK1, HG1⟩
  case round =>
  obtain ⟨i, rfl, hin, hkx, HI, HK, HG⟩ := hrel
  clear HK1 HG1
  by_cases hlt : i < 12
  · have hltz : (i : Int) < 12 := by omega
    have x0 := (HG.out.cell (by rw [HB0.out]; exact HGL.out.1) (fun f => f) _).trans (HR.out i hlt)
    have x1 := (HG.out.cell (by rw [HB0.out]; exact HGL.out.2) (fun f => f) _).trans (HS.out i hlt)
    by_cases h1 : V i < 0
    · have HD := hyd (show ¬ (okL 12 V = true ∧ okL 12 U = true) from fun h => by have := ((okL_iff _ _).1 h.1).2 i hlt; omega)
      clear x1 HI HK HR HS
      generalize V i = u at *
      go_wp2
      go_ret2
      exact RNew.no HD.out rfl HG.out
    · by_cases h2 : U i < 0
      · have HD := hyd (show ¬ (okL 12 V = true ∧ okL 12 U = true) from fun h => by have := ((okL_iff _ _).1 h.2).2 i hlt; omega)
        clear HI HK HR HS
        generalize V i = u at *
        generalize U i = v at *
        go_wp2
        go_ret2
        exact RNew.no HD.out rfl HG.out
      · have HI' : Hid (∀ j, j < i + 1 → 0 ≤ V j ∧ 0 ≤ U j) := fun j hj => by
          by_cases e : j = i
          · rw [e]; omega
          · exact HI.out j (by omega)
        obtain ⟨y0, z0⟩ := HK.out.ca i hlt
        have HK5 := hyd (show HB (wr.setCell ⟨b, i, none⟩ (.int .i64 (min (V i) 65535))).drew b 50 (pre (i + 1) (lim 65535 V)) (pre i (lim 255 U)) (fun _ => 0) from by
          have := (HK.out.setA i hlt (min (V i) 65535)).drew
          rw [pre_updz i (lim 65535 V) (min (V i) 65535) rfl] at this
          exact this)
        have HG5 := hyd (show Chg (fun _ => False) w (wr.setCell ⟨b, i, none⟩ (.int .i64 (min (V i) 65535))).drew from (HG.out.setCell (Or.inr (by rw [HB0.out]; exact Nat.le_refl _)) _ _).drew)
        have hl1 := fun w => least_any w (V i) 65535
        have HVV : Hid (U i = U i) := rfl
        generalize V i = u at *
        generalize min u 65535 = u' at *
        clear HK HG HI
        go_wp2_with fail
        go_region_with (first | (go_at_call 22; refine (hl1 _).mono ?_; rintro x w3 ⟨rfl, rfl⟩))
        obtain ⟨w5, HW5⟩ : ∃ w5, Hid (w5 = (wr.setCell ⟨b, i, none⟩ (.int .i64 u')).drew) := ⟨_, rfl⟩
        rw [← HW5.out] at HK5 HG5
        go_wp2_with fail
        rw [← HW5.out]
        clear HW5 x0 x1 y0 z0 hl1
        have x1 := (HG5.out.cell (by rw [HB0.out]; exact HGL.out.2) (fun f => f) _).trans (HS.out i hlt)
        obtain ⟨y1, z1⟩ := HK5.out.cb i hlt
        have HK6 := hyd (show HB (w5.setCell ⟨b, 12 + i, none⟩ (.int .i64 (min (U i) 255))).drew b 50 (pre (i + 1) (lim 65535 V)) (pre (i + 1) (lim 255 U)) (fun _ => 0) from by
          have := (HK5.out.setB i hlt (min (U i) 255)).drew
          rw [pre_updz i (lim 255 U) (min (U i) 255) rfl] at this
          exact this)
        have HG6 := hyd (show Chg (fun _ => False) w (w5.setCell ⟨b, 12 + i, none⟩ (.int .i64 (min (U i) 255))).drew from (HG5.out.setCell (Or.inr (by rw [HB0.out]; exact Nat.le_refl _)) _ _).drew)
        have hl2 := fun w => least_any w (U i) 255
        generalize U i = v at *
        generalize min v 255 = v' at *
        go_region_with (first | (go_at_call 22; refine (hl2 _).mono ?_; rintro x w3 ⟨rfl, rfl⟩))
        go_wp2
        go_roundg (12 - (i + 1))
        case measure => omega
        case rel => exact ⟨i + 1, by simp, by omega, Nat.le_refl _, HI', HK6, HG6⟩
  · have hltz : ¬ (i : Int) < 12 := by omega
    obtain rfl : i = 12 := by omega
    have HK2 := hyd (HK.out.congr (A' := lim 65535 V) (B' := lim 255 U) (C' := fun _ => 0) (fun j hj => by unfold pre; rw [if_pos hj]) (fun j hj => by unfold pre; rw [if_pos hj]) (fun _ _ => rfl))
    have HD := hyd (show okL 12 V = true ∧ okL 12 U = true from ⟨(okL_iff _ _).2 ⟨rfl, fun j hj => (HI.out j hj).1⟩, (okL_iff _ _).2 ⟨rfl, fun j hj => (HI.out j hj).2⟩⟩)
    clear HK HR HS HI
    go_wp2_with (first | (refine wpList_load_12 rfl (.tmp 57) rfl b 0 rfl (lim 65535 V) HK2.out.partA ?_) | (refine wpList_store_12 rfl (.tmp 60) (.tmp 58) rfl b 24 (lim 65535 V) rfl rfl (IB.there HK2.out 24 12 (by omega)) ?_))
    go_ret2
    have HK3 := HK2.out.rowC (lim 65535 V)
    have HG3 : Chg (fun _ => False) w (wr.setCells b 24 (ints (lim 65535 V) 12)) := Chg.setCells (S := fun _ => False) (Or.inr (by rw [HB0.out]; exact Nat.le_refl _)) _ _ HG.out
    refine RNew.yes HD.out ?_ ?_ HG3
    · rw [HB0.out]; rfl
    · rw [HB0.out]; exact HK3
end Go.Proofs.Ytmicfipanpdjbaa
