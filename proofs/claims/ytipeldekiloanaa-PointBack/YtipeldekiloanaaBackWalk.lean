/-
  The law PointBack, walked. Conditions: the checkpoint's numbers are ints; the bytes came in.
-/
import Derived.Test.YtipeldekiloanaaReadsWalk
namespace Go.Proofs.Ytipeldekiloanaa
open Go.RowKit
set_option maxRecDepth 100000

/-- What was written, read. -/
theorem read_back (w : World) (c : Ckp) (hw : Wfc c) (h : Okc c) (g : Nat) (hA : Arr w g 5 (wrL c)) :
    Calls Try.prog 11 #[.slice (some ⟨g, 0, none⟩) 174 174] w fun e w' => e = .returned (.tuple #[.agg (ckA c), .nilIface]) ∧ Chg (fun _ => False) w w' := by
  obtain ⟨h1, h2⟩ := isP_wrL c hw h
  have := read_yes w g 0 174 (wrL c) (wrL_bys c) (wrL_length c) (Nat.le_refl _) hA.at_ h1
  rwa [h2.ckA] at this
set_option maxHeartbeats 8000000 in
theorem back_main (c : Ckp) (a : Option Addr) (cap : Nat) (l : List Nat) (w : World) (hw : Wfc c) (hl : Bys l) (hcap : l.length ≤ cap) (hH : Held w (.slice a l.length cap) l) :
    Calls Try.prog 5 #[.agg (ckA c), .slice a l.length cap] w fun e w' => e = .returned (.bool true) ∧ Chg (fun _ => False) w w' := by
  have HH := hyd hH
  obtain ⟨n, hnl⟩ : ∃ n, n = l.length := ⟨_, rfl⟩
  have HNL := hyd hnl
  have hcn : n ≤ cap := by omega
  rw [← hnl]
  rw [← hnl] at HH
  have HK := hyd (Ck.new w c)
  have HG : Hid (Chg (fun _ => False) w (w.alloc (.cells (ckA c) 26))) := hyd ((Chg.refl _ w).alloc _)
  have q1 := eql_nil_nil
  have q2 := eql_arg_nil
  have q3 := neq_nil_nil
  have q4 := neq_e3_0
  have q5 := eql_ck
  have q6 := neq_ck
  have q7 := guard_ck
  clear hnl hcap hH
  have tail : ∀ (w6 : World), Held w6 (.slice a n cap) l → Chg (fun _ => False) w w6 →
      Calls Try.prog 11 #[.slice a n cap] w6 fun e w' => ∃ v x, e = .returned (.tuple #[.agg (ckA v), x]) ∧ RAns l v x ∧ Chg (fun _ => False) w6 w' := fun w6 h _ => read_any w6 a n cap l hl HNL.out hcn h
  go_enter Try.func5, Try.ntmps5
  go_wp2_with fail
  refine (up_any _).mono ?_
  rintro e w1 ⟨rfl, G1⟩
  have HK1 := hyd (HK.out.chg G1 (fun e => e))
  have HG1 := hyd (HG.out.trans G1)
  have HH1 := hyd (HH.out.chgF HG1.out)
  clear HK HG G1
  by_cases h : Okc c
  · have HO := hyd h
    clear h
    go_wp2_with (refine wpList_load_ck rfl (.tmp 2) rfl w.heap.size rfl HK1.out ?_)
    refine (write_yes _ c HO.out).mono ?_
    rintro e w2 ⟨g, rfl, hg, A2, G2⟩
    have HK2 := hyd (HK1.out.chg G2 (fun e => e))
    have HG2 := hyd (HG1.out.trans G2)
    have hcall := read_back w2 c hw HO.out g A2
    clear HK1 HG1 G2 A2
    go_wp2_with fail
    refine hcall.mono ?_
    rintro e w3 ⟨rfl, G3⟩
    have HK3 := hyd (HK2.out.chg G3 (fun e => e))
    have HG3 := hyd (HG2.out.trans G3)
    have HN3 := hyd (Ck.new w3 ck0)
    have hs3 := HK3.out.lt
    clear hcall HK2 HG2 G3
    go_wp2_with (first | refine wpList_alloc_ck rfl rfl ?_ | refine wpList_store_ck rfl (.tmp 8) (.tmp 25) rfl w3.heap.size rfl rfl HN3.out ?_)
    intro w4 K4 G4
    have G34 : Chg (fun _ => False) w3 w4 := ((Chg.refl _ w3).alloc _).trans' G4 (fun i hi hh => by omega)
    have HK4 := hyd (HK3.out.chg G34 (fun e => e))
    have HG4 := hyd (HG3.out.trans G34)
    have HD4 := hyd K4
    have hcall := tail w4 (HH.out.chgF HG4.out) HG4.out
    clear K4 G4 G34 HK3 HG3 HN3
    go_wp2_with (first | refine wpList_load_ckg rfl (.tmp 8) rfl w3.heap.size rfl HD4.out ?_ | refine wpList_load_ckg rfl (.tmp 2) rfl w.heap.size rfl HK4.out ?_)
    refine hcall.mono ?_
    rintro e w5 ⟨v, x, rfl, R5, G5⟩
    have HG5 := hyd (HG4.out.trans G5)
    have HN5 := hyd (Ck.new w5 ck0)
    clear hcall G5
    rcases R5 with ⟨-, rfl, rfl⟩ | ⟨h5, hI, rfl, rfl⟩
    · go_wp2_with (first | refine wpList_alloc_ck rfl rfl ?_ | refine wpList_store_ck rfl (.tmp 10) (.tmp 37) rfl w5.heap.size rfl rfl HN5.out ?_)
      intro w6 K6 G6
      have G56 : Chg (fun _ => False) w5 w6 := ((Chg.refl _ w5).alloc _).trans' G6 (fun i hi hh => by omega)
      have HG6 := hyd (HG5.out.trans G56)
      have HK6 := hyd K6
      clear K6 G6 G56 HN5 HG5
      go_wp2_with (first | refine wpList_load_ckg rfl (.tmp 10) rfl w5.heap.size rfl HK6.out ?_ | refine wpList_build_ckg rfl rfl ?_)
      go_ret
      exact ⟨rfl, HG6.out⟩
    · have HP := hyd ((isP_iff l hl h5).2 hI)
      clear h5 hI
      go_wp2_with (first | refine wpList_alloc_ck rfl rfl ?_ | refine wpList_store_ck rfl (.tmp 10) (.tmp 37) rfl w5.heap.size rfl rfl HN5.out ?_)
      intro w6 K6 G6
      have G56 : Chg (fun _ => False) w5 w6 := ((Chg.refl _ w5).alloc _).trans' G6 (fun i hi hh => by omega)
      have HG6 := hyd (HG5.out.trans G56)
      have HK6 := hyd K6
      clear K6 G6 G56 HN5 HG5
      go_wp2_with (first | refine wpList_load_ck rfl (.tmp 10) rfl w5.heap.size rfl HK6.out ?_)
      refine (write_yes _ (rdC l) HP.out.1).mono ?_
      rintro e w7 ⟨g7, rfl, hg7, A7, G7⟩
      have HG7 := hyd (HG6.out.trans G7)
      have A8 : Arr w7 g7 5 l := by have := A7; rwa [HP.out.2] at this
      have hL : l.length = 174 := by rw [← HP.out.2]; exact wrL_length _
      have v1 := conv_held w7 (some ⟨g7, 0, none⟩) 174 174 l hL.symm (A8.heldFull 174 174 hL.symm)
      have v2 := conv_held w7 a n cap l HNL.out (HH.out.chgF HG7.out)
      clear A7 A8 G7 HG6 HK6 hL hg7
      generalize str l = sl at *
      go_wp2
      go_ret
      exact ⟨rfl, HG7.out⟩
  · have HO := hyd h
    clear h
    go_wp2_with (refine wpList_load_ck rfl (.tmp 2) rfl w.heap.size rfl HK1.out ?_)
    refine (write_no _ c HO.out).mono ?_
    rintro e w2 ⟨rfl, G2⟩
    have HG2 := hyd (HG1.out.trans G2)
    have hcall := tail w2 (HH.out.chgF HG2.out) HG2.out
    clear HK1 HG1 G2
    go_wp2_with fail
    refine hcall.mono ?_
    rintro e w5 ⟨v, x, rfl, R5, G5⟩
    have HG5 := hyd (HG2.out.trans G5)
    have HN5 := hyd (Ck.new w5 ck0)
    clear hcall G5
    rcases R5 with ⟨-, rfl, rfl⟩ | ⟨h5, hI, rfl, rfl⟩
    · go_wp2_with (first | refine wpList_alloc_ck rfl rfl ?_ | refine wpList_store_ck rfl (.tmp 10) (.tmp 37) rfl w5.heap.size rfl rfl HN5.out ?_)
      intro w6 K6 G6
      have G56 : Chg (fun _ => False) w5 w6 := ((Chg.refl _ w5).alloc _).trans' G6 (fun i hi hh => by omega)
      have HG6 := hyd (HG5.out.trans G56)
      have HK6 := hyd K6
      clear K6 G6 G56 HN5 HG5
      go_wp2_with (first | refine wpList_load_ckg rfl (.tmp 10) rfl w5.heap.size rfl HK6.out ?_ | refine wpList_build_ckg rfl rfl ?_)
      go_ret
      exact ⟨rfl, HG6.out⟩
    · have HP := hyd ((isP_iff l hl h5).2 hI)
      clear h5 hI
      go_wp2_with (first | refine wpList_alloc_ck rfl rfl ?_ | refine wpList_store_ck rfl (.tmp 10) (.tmp 37) rfl w5.heap.size rfl rfl HN5.out ?_)
      intro w6 K6 G6
      have G56 : Chg (fun _ => False) w5 w6 := ((Chg.refl _ w5).alloc _).trans' G6 (fun i hi hh => by omega)
      have HG6 := hyd (HG5.out.trans G56)
      have HK6 := hyd K6
      clear K6 G6 G56 HN5 HG5
      go_wp2_with (first | refine wpList_load_ck rfl (.tmp 10) rfl w5.heap.size rfl HK6.out ?_)
      refine (write_yes _ (rdC l) HP.out.1).mono ?_
      rintro e w7 ⟨g7, rfl, hg7, A7, G7⟩
      have HG7 := hyd (HG6.out.trans G7)
      have A8 : Arr w7 g7 5 l := by have := A7; rwa [HP.out.2] at this
      have hL : l.length = 174 := by rw [← HP.out.2]; exact wrL_length _
      have v1 := conv_held w7 (some ⟨g7, 0, none⟩) 174 174 l hL.symm (A8.heldFull 174 174 hL.symm)
      have v2 := conv_held w7 a n cap l HNL.out (HH.out.chgF HG7.out)
      clear A7 A8 G7 HG6 HK6 hL hg7
      generalize str l = sl at *
      go_wp2
      go_ret
      exact ⟨rfl, HG7.out⟩
theorem back_walk (c : Ckp) (a1 : Option Addr) (len1 cap1 : Nat) (z1 : List Int) (w : World) (hw : Wfc c) (w1 : IsRow .u8 w a1 len1 cap1 z1) :
    Calls Try.prog 5 #[.agg (ckA c), .slice a1 len1 cap1] w fun e w' => e = .returned (.bool true) ∧ Below w.heap.size w w' := by
  obtain ⟨l, rfl, hl, hc, hn, hH⟩ := row_in w1
  refine (back_main c a1 cap1 l w hw hl hc hH).mono ?_
  rintro e w' ⟨rfl, G⟩
  exact ⟨rfl, G.below (fun k e => e.elim) (Nat.le_refl _)⟩
end Go.Proofs.Ytipeldekiloanaa
