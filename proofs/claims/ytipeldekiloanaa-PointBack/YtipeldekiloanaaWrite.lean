/-
  point.Write, walked: the bytes of a checkpoint, in new memory, or ErrArg. No condition.
-/
import Derived.Test.YtipeldekiloanaaLayC
namespace Go.Proofs.Ytipeldekiloanaa
open Go.RowKit
set_option maxRecDepth 100000

/-- What Write asks. -/
def Okc (c : Ckp) : Prop := c.C < 96 ∧ Fits (nums c 6)
/-- The bytes. -/
def wrL (c : Ckp) : List Nat := rowZ (nums c 6)
theorem wrL_length (c : Ckp) : (wrL c).length = 174 := rowZ_length _ (by rw [(tot_nums c).2.2.2.2.2]; decide)
theorem wrL_bys (c : Ckp) : Bys (wrL c) := fun n hn => (List.mem_append.1 hn).elim (cat_bys _ n) (fun h => by rw [(List.mem_replicate.1 h).2]; decide)
/-- 174 noughts. -/
def z174 : List Nat := List.replicate 174 0
theorem make_room (w : World) : (Instr.makeSlice 28 (.int .i64 0) (.int .i64 174)).run Try.prog w = .ok (.slice (some ⟨w.heap.size, 0, none⟩) 0 174) (w.alloc (.cells (bcells z174) 5)) := by
  obtain ⟨i, h1, h2, h3, h4⟩ := info5
  have h := run_make (P := Try.prog) w 28 5 i (.int .u8 0) Try.underlying28 h1 h2 .i64 .i64 0 174 (by omega) (by omega) (by rw [h4]; omega) (by omega)
  rw [h, h3, show (174 : Int).toNat * 1 = 174 from rfl, made_bytes]; rfl

/-- The world in which the writer starts. -/
def wst0 (w : World) (c : Ckp) : World := ((w.alloc (.cells (ckA c) 26)).alloc (.cells (bcells z174) 5)).alloc (.cells #[.slice (some ⟨w.heap.size + 1, 0, none⟩) 0 174, .nilIface] 47)
theorem wst0_is (w : World) (c : Ckp) : Wst (wst0 w c) (w.heap.size + 1 + 1) (w.heap.size + 1) [] ∧ Chg (fun _ => False) w (wst0 w c) ∧ w.heap.size + 1 < (wst0 w c).heap.size := by
  have A0 := Arr.new (w.alloc (.cells (ckA c) 26)) 5 z174
  have e0 : (w.alloc (.cells (ckA c) 26)).heap.size = w.heap.size + 1 := by simp
  rw [e0] at A0
  have hN := heap_alloc_new ((w.alloc (.cells (ckA c) 26)).alloc (.cells (bcells z174) 5)) (.cells #[.slice (some ⟨w.heap.size + 1, 0, none⟩) 0 174, .nilIface] 47)
  have e1 : ((w.alloc (.cells (ckA c) 26)).alloc (.cells (bcells z174) 5)).heap.size = w.heap.size + 1 + 1 := by simp
  rw [e1] at hN
  refine ⟨⟨by omega, Or.inl ⟨(fun p hp => absurd hp (by simp)), hN, ?_⟩⟩, (((Chg.refl _ w).alloc _).alloc _).alloc _, by simp [wst0]⟩
  exact A0.alloc _

set_option maxHeartbeats 2000000 in
theorem write_no (w : World) (c : Ckp) (h : ¬ Okc c) :
    Calls Try.prog 7 #[.agg (ckA c)] w fun e w' => e = .returned (.tuple #[.slice none 0 0, .iface 44 (.int .i64 1)]) ∧ Chg (fun _ => False) w w' := by
  have K0 := Ck.new w c
  have G0 : Chg (fun _ => False) w (w.alloc (.cells (ckA c) 26)) := (Chg.refl _ w).alloc _
  have k1 := K0.C
  by_cases hC : c.C < 96
  · have HF : Hid (¬ Fits (nums c 6)) := hyd (fun e => h ⟨hC, e⟩)
    have hC' : ¬ (96 : Int) ≤ c.C := by omega
    have hm := make_room
    have q1 := neq_long_nil
    have HK := hyd K0
    have HG := hyd G0
    clear h hC K0 G0
    go_enter Try.func7, Try.ntmps7
    go_wp2_with (refine wpList_load_ck rfl (.tmp 1) rfl w.heap.size rfl ((HK.out.alloc _).alloc _) ?_)
    have hs := wst0_is w c
    change Calls Try.prog 13 _ (wst0 w c) _
    generalize wst0 w c = w0 at *
    obtain ⟨W0, G0, hlt⟩ := hs
    refine (layC_any w0 _ _ c W0 hlt).mono ?_
    rintro e w1 ⟨rfl, W1, G1⟩
    have HG1 : Hid (Chg (fun _ => False) w w1) := hyd (G0.trans' G1 (fun i hi hh => by omega))
    obtain ⟨n, hR⟩ : ∃ n, Wr w1 (w.heap.size + 1 + 1) (w.heap.size + 1) n (.iface 44 (.int .i64 2)) := by
      rcases W1.2 with ⟨hf, _⟩ | ⟨_, hn⟩
      · exact absurd hf HF.out
      · exact hn
    obtain ⟨j0, j1, -, -⟩ := hR.cells
    clear W0 G0 hlt W1 G1 hR HK HG k1
    go_wp2
    go_ret2
    exact ⟨rfl, HG1.out⟩
  · have hC' : (96 : Int) ≤ c.C := by omega
    have HG := hyd G0
    clear h K0 G0 hC
    go_enter Try.func7, Try.ntmps7
    go_wp2
    go_ret2
    exact ⟨rfl, HG.out⟩
set_option maxHeartbeats 2000000 in
theorem write_yes (w : World) (c : Ckp) (h : Okc c) :
    Calls Try.prog 7 #[.agg (ckA c)] w fun e w' => ∃ g, e = .returned (.tuple #[.slice (some ⟨g, 0, none⟩) 174 174, .nilIface]) ∧ w.heap.size ≤ g ∧ Arr w' g 5 (wrL c) ∧ Chg (fun _ => False) w w' := by
  have K0 := Ck.new w c
  have k1 := K0.C
  have hC' : ¬ (96 : Int) ≤ c.C := by have := h.1; omega
  have HF : Hid (Fits (nums c 6)) := hyd h.2
  have hm := make_room
  have q1 := neq_nil_nil
  have HK := hyd K0
  clear h K0
  go_enter Try.func7, Try.ntmps7
  go_wp2_with (refine wpList_load_ck rfl (.tmp 1) rfl w.heap.size rfl ((HK.out.alloc _).alloc _) ?_)
  have hs := wst0_is w c
  change Calls Try.prog 13 _ (wst0 w c) _
  generalize wst0 w c = w0 at *
  obtain ⟨W0, G0, hlt⟩ := hs
  refine (layC_any w0 _ _ c W0 hlt).mono ?_
  rintro e w1 ⟨rfl, W1, G1⟩
  have HG1 : Hid (Chg (fun _ => False) w w1) := hyd (G0.trans' G1 (fun i hi hh => by omega))
  obtain ⟨hR, hA⟩ : Wr w1 (w.heap.size + 1 + 1) (w.heap.size + 1) 164 .nilIface ∧ Arr w1 (w.heap.size + 1) 5 (wrL c) := by
    rcases W1.2 with ⟨_, h1, h2⟩ | ⟨hf, _⟩
    · rw [(tot_nums c).2.2.2.2.2] at h1
      exact ⟨h1, h2⟩
    · exact absurd HF.out hf
  obtain ⟨j0, j1, -, -⟩ := hR.cells
  have HA := hyd hA
  clear W0 G0 hlt W1 G1 hR HK k1 hA
  go_wp2
  go_ret2
  exact ⟨_, rfl, by omega, HA.out, HG1.out⟩
end Go.Proofs.Ytipeldekiloanaa
