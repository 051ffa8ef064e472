/-
  The law PointWrites, walked. Condition: the checkpoint's numbers are ints.
-/
import Derived.Test.YtipeldekiloanaaUps
namespace Go.Proofs.Ytipeldekiloanaa
open Go.RowKit
set_option maxRecDepth 100000

set_option maxHeartbeats 8000000 in
theorem writes_no (w : World) (c : Ckp) (h : ¬ Okc c) (ht : ¬ Tld c) :
    Calls Try.prog 3 #[.agg (ckA c)] w fun e w' => e = .returned (.bool true) ∧ Chg (fun _ => False) w w' := by
  have HK := hyd (Ck.new w c)
  have HG : Hid (Chg (fun _ => False) w (w.alloc (.cells (ckA c) 26))) := hyd ((Chg.refl _ w).alloc _)
  have HN := hyd h
  have HT := hyd ht
  clear h ht
  go_enter Try.func3, Try.ntmps3
  go_wp2_with fail
  refine (up_any _).mono ?_
  rintro e w1 ⟨rfl, G1⟩
  have HK1 := hyd (HK.out.chg G1 (fun e => e))
  have HG1 := hyd (HG.out.trans G1)
  clear HK HG G1
  go_wp2_with (refine wpList_load_ck rfl (.tmp 1) rfl w.heap.size rfl HK1.out ?_)
  refine (write_no _ c HN.out).mono ?_
  rintro e w2 ⟨rfl, G2⟩
  have HK2 := hyd (HK1.out.chg G2 (fun e => e))
  have HG2 := hyd (HG1.out.trans G2)
  clear HK1 HG1 G2
  go_wp2_with (refine wpList_load_ck rfl (.tmp 1) rfl w.heap.size rfl HK2.out ?_)
  refine (rwrite_no _ c HT.out).mono ?_
  rintro e w3 ⟨rfl, G3⟩
  have HK3 := hyd (HK2.out.chg G3 (fun e => e))
  have HG3 := hyd (HG2.out.trans G3)
  clear HK2 HG2 G3
  have hb0 : Bys [] := fun n hn => by cases hn
  go_wp2_with fail
  refine (same_any w3 none none 0 0 0 0 [] [] rfl rfl hb0 hb0 (held_nil _) (held_nil _)).mono ?_
  rintro e w4 ⟨rfl, rfl⟩
  rw [show decide (([] : List Nat) = []) = true from rfl]
  go_wp2_with fail
  refine (code_1 _).mono ?_
  rintro e w4 ⟨rfl, rfl⟩
  go_wp2_with fail
  go_loopw [9] (fun t wr => t = .int .i64 0 ∧ wr = w4) (fun t _ => 0)
  case atStart => exact ⟨rfl, rfl⟩
  case round =>
    obtain ⟨rfl, rfl⟩ := hrel
    go_wp2_with (refine wpList_load_ck rfl (.tmp 1) rfl w.heap.size rfl HK3.out ?_)
    refine (write_no _ c HN.out).mono ?_
    rintro e w5 ⟨rfl, G5⟩
    have HG5 := hyd (HG3.out.trans G5)
    clear HG3 G5 HK3
    go_wp2_with fail
    refine (same_any w5 none none 0 0 0 0 [] [] rfl rfl hb0 hb0 (held_nil _) (held_nil _)).mono ?_
    rintro e w6 ⟨rfl, rfl⟩
    rw [show decide (([] : List Nat) = []) = true from rfl]
    go_wp2_with fail
    refine (code_1 _).mono ?_
    rintro e w6 ⟨rfl, rfl⟩
    go_wp2
    go_ret
    exact ⟨rfl, HG5.out⟩
set_option maxHeartbeats 8000000 in
theorem writes_yes (w : World) (c : Ckp) (h : Okc c) (ht : Tld c) :
    Calls Try.prog 3 #[.agg (ckA c)] w fun e w' => e = .returned (.bool true) ∧ Chg (fun _ => False) w w' := by
  have HK := hyd (Ck.new w c)
  have HG : Hid (Chg (fun _ => False) w (w.alloc (.cells (ckA c) 26))) := hyd ((Chg.refl _ w).alloc _)
  have HN := hyd h
  have HT := hyd ht
  have HWL := hyd (wrL_length c)
  have HWB := hyd (wrL_bys c)
  clear h ht
  go_enter Try.func3, Try.ntmps3
  go_wp2_with fail
  refine (up_any _).mono ?_
  rintro e w1 ⟨rfl, G1⟩
  have HK1 := hyd (HK.out.chg G1 (fun e => e))
  have HG1 := hyd (HG.out.trans G1)
  clear HK HG G1
  go_wp2_with (refine wpList_load_ck rfl (.tmp 1) rfl w.heap.size rfl HK1.out ?_)
  refine (write_yes _ c HN.out).mono ?_
  rintro e w2 ⟨g, rfl, hg, A2, G2⟩
  have hgs : w.heap.size < g := by have := HK1.out.lt; omega
  have HA2 := hyd A2
  have HK2 := hyd (HK1.out.chg G2 (fun e => e))
  have HG2 := hyd (HG1.out.trans G2)
  clear HK1 HG1 G2 A2 hg
  go_wp2_with (refine wpList_load_ck rfl (.tmp 1) rfl w.heap.size rfl HK2.out ?_)
  refine (rwrite_yes _ c HT.out).mono ?_
  rintro e w3 ⟨s, rfl, O3, G3⟩
  obtain ⟨g2, cap2, rfl, hg2, -, -, -, -⟩ := O3.lies (by rw [HWL.out]; decide)
  rw [HWL.out] at O3 ⊢
  have hgg : g < g2 := by have := HA2.out.lt; omega
  have HA3 := hyd (HA2.out.chg G3 (fun e => e))
  have HK3 := hyd (HK2.out.chg G3 (fun e => e))
  have HG3 := hyd (HG2.out.trans G3)
  have HH3 := hyd O3.held
  clear HK2 HG2 G3 HA2 O3 hg2
  have s1 := same_any w3 (some ⟨g, 0, none⟩) (some ⟨g2, 0, none⟩) 174 174 174 cap2 (wrL c) (wrL c) HWL.out.symm HWL.out.symm HWB.out HWB.out (HA3.out.heldFull 174 174 HWL.out.symm) HH3.out
  rw [decide_eq_true rfl] at s1
  go_wp2_with fail
  refine s1.mono ?_
  rintro e w4 ⟨rfl, rfl⟩
  clear s1
  go_wp2_with fail
  refine (code_0 _).mono ?_
  rintro e w4 ⟨rfl, rfl⟩
  go_wp2_with fail
  go_loopw [9] (fun t wr => ∃ (k : Nat) (L : List Nat), k ≤ 174 ∧ t = .int .i64 k ∧ L.length = 174 ∧ Arr wr g 5 L ∧ Chg (· = g) w4 wr) (fun t _ => 174 - (intOf t).toNat)
  case atStart => exact ⟨0, _, by decide, rfl, HWL.out, HA3.out, Chg.refl _ _⟩
  case round =>
    clear HA3
    obtain ⟨k, L, hk, rfl, hL, hA, hC⟩ := hrel
    by_cases hlt : k < 174
    · have hlt' : (k : Int) < 174 := by omega
      have hkb : (0 : Int) ≤ (k : Int) := by omega
      have k1 := hA.cell k (by omega)
      have f1 := hA.frozen k
      have HL := hyd hL
      have HA := hyd hA
      have HC := hyd hC
      clear hL hA hC
      go_wp2
      exact ⟨⟨k + 1, L.set k 165, by omega, by go_num, by simp [HL.out], HA.out.store k 165, HC.out.setCell (Or.inl rfl) _ _⟩, by simp [intOf]; omega⟩
    · have e : k = 174 := by omega
      subst e
      have HK4 := hyd (HK3.out.chg hC (by omega))
      have HG4 : Hid (Chg (fun _ => False) w wr) := hyd (HG3.out.trans' hC (fun i hi hh => by omega))
      have HH4 := hyd (HH3.out.chg hC (fun i _ hi => by have e1 : g2 = i := Option.some.inj hi; omega))
      clear hL hA hC HK3 HG3 HH3
      go_wp2_with (refine wpList_load_ck rfl (.tmp 1) rfl w.heap.size rfl HK4.out ?_)
      refine (write_yes _ c HN.out).mono ?_
      rintro e w5 ⟨g5, rfl, hg5, A5, G5⟩
      have HG5 := hyd (HG4.out.trans G5)
      have s1 := same_any w5 (some ⟨g5, 0, none⟩) (some ⟨g2, 0, none⟩) 174 174 174 cap2 (wrL c) (wrL c) HWL.out.symm HWL.out.symm HWB.out HWB.out (A5.heldFull 174 174 HWL.out.symm) (HH4.out.chg G5 (fun _ _ _ e => e))
      rw [decide_eq_true rfl] at s1
      clear HG4 G5 HK4 HH4 A5
      go_wp2_with fail
      refine s1.mono ?_
      rintro e w6 ⟨rfl, rfl⟩
      clear s1
      go_wp2_with fail
      refine (code_0 _).mono ?_
      rintro e w6 ⟨rfl, rfl⟩
      go_wp2
      go_ret
      exact ⟨rfl, HG5.out⟩
theorem writes_walk (w : World) (c : Ckp) (hw : Wfc c) : Calls Try.prog 3 #[.agg (ckA c)] w fun e w' => e = .returned (.bool true) ∧ Below w.heap.size w w' := by
  have main : Calls Try.prog 3 #[.agg (ckA c)] w fun e w' => e = .returned (.bool true) ∧ Chg (fun _ => False) w w' := by
    by_cases h : Okc c
    · exact writes_yes w c h ((okc_iff c hw).1 h)
    · exact writes_no w c h (fun e => h ((okc_iff c hw).2 e))
  refine main.mono ?_
  rintro e w' ⟨rfl, G⟩
  exact ⟨rfl, G.below (fun k e => e.elim) (Nat.le_refl _)⟩
end Go.Proofs.Ytipeldekiloanaa
