/-
  What health.New answers. Condition: the lists lie in memory.
-/
import Derived.Test.YtmicfipanpdjbaaHea
namespace Go.Proofs.Ytmicfipanpdjbaa
set_option maxRecDepth 100000
open Go.RowKit

/-- Whether a list has a count for each block. -/
def okL (n : Nat) (V : Nat → Int) : Bool := decide (n = 12) && (List.range 12).all fun i => decide (0 ≤ V i)
theorem okL_iff (n : Nat) (V : Nat → Int) : okL n V = true ↔ n = 12 ∧ ∀ i, i < 12 → 0 ≤ V i := by
  unfold okL
  simp [List.all_eq_true]
theorem okL_not {n : Nat} {V : Nat → Int} (h : ¬ (n = 12 ∧ ∀ i, i < 12 → 0 ≤ V i)) : okL n V = false := by
  cases e : okL n V with
  | false => rfl
  | true => exact absurd ((okL_iff n V).1 e) h
theorem counts_v (w : World) (a : Option Addr) (n c : Nat) (V : Nat → Int) (hl : Lies w a n V) : Calls Try.prog 21 #[.slice a n c] w fun e w' => e = .returned (.bool (okL n V)) ∧ w' = w := by
  by_cases hn : n = 12
  · subst hn
    rcases hl with hl | ⟨g, o, rfl, hg, hl⟩
    · omega
    have HL := hyd hl
    clear hl hg
    go_enter Try.func21, Try.ntmps21
    go_wp2_with fail
    go_loopg [10] 12 (fun kx s10 wr => ∃ i : Nat, s10 = .int .i64 i ∧ i ≤ 12 ∧ 12 - i ≤ kx ∧ Hid (∀ j, j < i → 0 ≤ V j) ∧ wr = w)
    case atStart => exact ⟨0, rfl, by omega, by omega, fun j hj => absurd hj (Nat.not_lt_zero _), rfl⟩
    case round =>
    obtain ⟨i, rfl, hin, hkx, HI, rfl⟩ := hrel
    by_cases hlt : i < 12
    · have hltz : (i : Int) < 12 := by omega
      have x0 := HL.out i hlt
      by_cases hv : V i < 0
      · have HD := hyd (okL_not (n := 12) (V := V) fun h => by have := h.2 i hlt; omega)
        generalize V i = u at *
        go_wp2
        go_ret
        exact ⟨by rw [HD.out]; rfl, rfl⟩
      · have HI' : Hid (∀ j, j < i + 1 → 0 ≤ V j) := fun j hj => by
          by_cases e : j = i
          · rw [e]; omega
          · exact HI.out j (by omega)
        generalize V i = u at *
        go_wp2
        go_roundg (12 - (i + 1))
        case measure => omega
        case rel => exact ⟨i + 1, by simp, by omega, Nat.le_refl _, HI', rfl⟩
    · have hltz : ¬ (i : Int) < 12 := by omega
      obtain rfl : i = 12 := by omega
      have HD := hyd ((okL_iff 12 V).2 ⟨rfl, HI.out⟩)
      clear HI HL
      go_wp2
      go_ret
      exact ⟨by rw [HD.out]; rfl, rfl⟩
  · have HD := hyd (okL_not (V := V) (fun h => hn h.1))
    have h2 : ((n : Int) != 12) = true := by simp only [bne_iff_ne]; omega
    clear hn hl
    go_enter Try.func21, Try.ntmps21
    go_wp2
    go_ret
    exact ⟨by rw [HD.out]; rfl, rfl⟩
theorem new_no (w : World) (pr ps : Option Addr) (nr ns cr cs : Nat) (V U : Nat → Int) (hr : Lies w pr nr V) (hs : Lies w ps ns U) (h : ¬ (okL nr V = true ∧ okL ns U = true)) : Calls Try.prog 6 #[.slice pr nr cr, .slice ps ns cs] w fun e w' => e = .returned (.tuple #[.pointer none, .iface 33 (.int .i64 1)]) ∧ w' = w := by
  have c1 := counts_v w pr nr cr V hr
  have c2 := counts_v w ps ns cs U hs
  clear hr hs
  generalize okL nr V = a at *
  generalize okL ns U = b at *
  cases a with
  | false =>
    clear h c2
    go_enter Try.func6, Try.ntmps6
    go_wp2_with (go_at_call 21; refine c1.mono ?_; rintro e w1 ⟨rfl, rfl⟩)
    go_ret2
    exact ⟨rfl, rfl⟩
  | true =>
    obtain rfl : b = false := by cases b; rfl; exact absurd ⟨rfl, rfl⟩ h
    clear h
    go_enter Try.func6, Try.ntmps6
    go_wp2_with fail
    refine c1.mono ?_
    rintro e w1 ⟨rfl, rfl⟩
    go_wp2_with fail
    refine c2.mono ?_
    rintro e w1 ⟨rfl, rfl⟩
    clear c1 c2
    go_wp2
    go_ret2
    exact ⟨rfl, rfl⟩
/-- At most m. -/
def lim (m : Int) (V : Nat → Int) : Nat → Int := fun i => min (V i) m
/-- The first k of F, noughts behind. -/
def pre (k : Nat) (F : Nat → Int) : Nat → Int := fun j => if j < k then F j else 0
theorem pre_upd (k : Nat) (F : Nat → Int) : upd (pre k F) k (F k) = pre (k + 1) F := by
  funext j
  unfold upd pre
  by_cases e : j = k
  · subst e; rw [if_pos rfl, if_pos (by omega)]
  · rw [if_neg e]
    by_cases h : j < k
    · rw [if_pos h, if_pos (by omega)]
    · rw [if_neg h, if_neg (by omega)]
theorem pre_updz (k : Nat) (F : Nat → Int) (z : Int) (h : z = F k) : upd (pre k F) k z = pre (k + 1) F := by rw [h, pre_upd]
theorem zero48 (w : World) : (zeroValue 48).run Try.prog w = .ok (.agg (ints (cel (fun _ => 0) (fun _ => 0) (fun _ => 0)) 36).toArray) w := by kernel_rfl
set_option maxHeartbeats 4000000 in
theorem new_yes (w : World) (pr ps : Option Addr) (nr ns cr cs : Nat) (V U : Nat → Int) (hr : Lies w pr nr V) (hs : Lies w ps ns U) (h1 : okL nr V = true) (h2 : okL ns U = true) : Calls Try.prog 6 #[.slice pr nr cr, .slice ps ns cs] w fun e w' => e = .returned (.tuple #[.pointer (some ⟨w.heap.size, 0, none⟩), .nilIface]) ∧ HB w' w.heap.size 48 (lim 65535 V) (lim 65535 V) (lim 255 U) ∧ Chg (fun _ => False) w w' := by
  have c1 := counts_v w pr nr cr V hr
  have c2 := counts_v w ps ns cs U hs
  obtain ⟨rfl, hV⟩ := (okL_iff _ _).1 h1
  obtain ⟨rfl, hU⟩ := (okL_iff _ _).1 h2
  rw [h1] at c1
  rw [h2] at c2
  rcases hr with hr | ⟨gr, or_, rfl, hgr, hr⟩
  · omega
  rcases hs with hs | ⟨gs, os, rfl, hgs, hs⟩
  · omega
  have HR := hyd hr
  have HS := hyd hs
  have HGL := hyd (And.intro hgr hgs)
  have HN := hyd (And.intro hV hU)
  clear hr hs hgr hgs hV hU h1 h2
  go_enter Try.func6, Try.ntmps6
  go_wp2_with fail
  refine c1.mono ?_
  rintro e w1 ⟨rfl, rfl⟩
  go_wp2_with fail
  refine c2.mono ?_
  rintro e w1 ⟨rfl, rfl⟩
  clear c1 c2
  go_wp2_with (refine wpList_alloc_row rfl 48 rfl w1.heap.size rfl zero48 ?_)
  intro w2 K1 G1 S1
  have HK1 := hyd (show HB w2 w1.heap.size 48 (fun _ => 0) (fun _ => 0) (fun _ => 0) from K1)
  have HG1 := hyd G1
  clear K1 G1 S1
  generalize HB0 : w1.heap.size = b at *
  have HB0 := hyd HB0
  go_wp2_with fail
  go_loopg [18] 12 (fun kx s18 wr => ∃ i : Nat, s18 = .int .i64 i ∧ i ≤ 12 ∧ 12 - i ≤ kx ∧ Hid (HB wr b 48 (pre i (lim 65535 V)) (fun _ => 0) (pre i (lim 255 U))) ∧ Hid (Chg (fun _ => False) w1 wr))
  case atStart => exact ⟨0, rfl, by omega, by omega, HK1, HG1⟩
  case round =>
  obtain ⟨i, rfl, hin, hkx, HK, HG⟩ := hrel
  clear HK1 HG1
  by_cases hlt : i < 12
  · have hltz : (i : Int) < 12 := by omega
    have x0 := (HG.out.cell (by rw [HB0.out]; exact HGL.out.1) (fun f => f) _).trans (HR.out i hlt)
    have y0 := HK.out.ca i hlt
    obtain ⟨y0, z0⟩ := y0
    have KA : ∀ z, z = min (V i) 65535 → HB (wr.setCell ⟨b, i, none⟩ (.int .i64 z)).drew b 48 (pre (i + 1) (lim 65535 V)) (fun _ => 0) (pre i (lim 255 U)) := fun z e => by
      have := (HK.out.setA i hlt z).drew
      rw [e, show min (V i) 65535 = lim 65535 V i from rfl, pre_upd] at this
      rw [e]; exact this
    have GA : ∀ z : Int, Chg (fun _ => False) w1 (wr.setCell ⟨b, i, none⟩ (.int .i64 z)).drew := fun z => (HG.out.setCell (Or.inr (by rw [HB0.out]; exact Nat.le_refl _)) _ _).drew
    have HKA := hyd KA
    have HGA := hyd GA
    clear KA GA HK HG
    generalize HVV : V i = u at *
    have HVV := hyd HVV
    by_cases h1 : u ≤ 65535
    · have HK5 := hyd (HKA.out u (by omega))
      have HG5 := hyd (HGA.out u)
      clear HKA HGA
      go_wp2_with fail
      go_region
      obtain ⟨w5, HW5⟩ : ∃ w5, Hid (w5 = (wr.setCell ⟨b, i, none⟩ (.int .i64 u)).drew) := ⟨_, rfl⟩
      rw [← HW5.out] at HK5 HG5
      go_wp2_with fail
      rw [← HW5.out]
      clear HW5 x0 y0 z0
      have x1 := (HG5.out.cell (by rw [HB0.out]; exact HGL.out.2) (fun f => f) _).trans (HS.out i hlt)
      obtain ⟨y1, z1⟩ := HK5.out.cc i hlt
      have HL2 : Hid (lim 255 U i = min (U i) 255) := rfl
      generalize U i = v at *
      by_cases h2 : v ≤ 255
      · go_region
        go_wp2
        go_roundg (12 - (i + 1))
        case measure => omega
        case rel =>
          refine ⟨i + 1, by simp, by omega, Nat.le_refl _, ?_, ?_⟩
          · have k := HK5.out.drew.setC i hlt v
            rw [pre_updz i (lim 255 U) v (by rw [HL2.out]; omega)] at k
            exact k
          · exact HG5.out.drew.setCell (Or.inr (by rw [HB0.out]; exact Nat.le_refl _)) _ _
      · go_region
        go_wp2
        go_roundg (12 - (i + 1))
        case measure => omega
        case rel =>
          refine ⟨i + 1, by simp, by omega, Nat.le_refl _, ?_, ?_⟩
          · have k := HK5.out.drew.setC i hlt 255
            rw [pre_updz i (lim 255 U) 255 (by rw [HL2.out]; omega)] at k
            exact k
          · exact HG5.out.drew.setCell (Or.inr (by rw [HB0.out]; exact Nat.le_refl _)) _ _
    · have HK5 := hyd (HKA.out 65535 (by omega))
      have HG5 := hyd (HGA.out 65535)
      clear HKA HGA
      go_wp2_with fail
      go_region
      obtain ⟨w5, HW5⟩ : ∃ w5, Hid (w5 = (wr.setCell ⟨b, i, none⟩ (.int .i64 65535)).drew) := ⟨_, rfl⟩
      rw [← HW5.out] at HK5 HG5
      go_wp2_with fail
      rw [← HW5.out]
      clear HW5 x0 y0 z0
      have x1 := (HG5.out.cell (by rw [HB0.out]; exact HGL.out.2) (fun f => f) _).trans (HS.out i hlt)
      obtain ⟨y1, z1⟩ := HK5.out.cc i hlt
      have HL2 : Hid (lim 255 U i = min (U i) 255) := rfl
      generalize U i = v at *
      by_cases h2 : v ≤ 255
      · go_region
        go_wp2
        go_roundg (12 - (i + 1))
        case measure => omega
        case rel =>
          refine ⟨i + 1, by simp, by omega, Nat.le_refl _, ?_, ?_⟩
          · have k := HK5.out.drew.setC i hlt v
            rw [pre_updz i (lim 255 U) v (by rw [HL2.out]; omega)] at k
            exact k
          · exact HG5.out.drew.setCell (Or.inr (by rw [HB0.out]; exact Nat.le_refl _)) _ _
      · go_region
        go_wp2
        go_roundg (12 - (i + 1))
        case measure => omega
        case rel =>
          refine ⟨i + 1, by simp, by omega, Nat.le_refl _, ?_, ?_⟩
          · have k := HK5.out.drew.setC i hlt 255
            rw [pre_updz i (lim 255 U) 255 (by rw [HL2.out]; omega)] at k
            exact k
          · exact HG5.out.drew.setCell (Or.inr (by rw [HB0.out]; exact Nat.le_refl _)) _ _
  · have hltz : ¬ (i : Int) < 12 := by omega
    obtain rfl : i = 12 := by omega
    have HK2 := hyd (HK.out.congr (A' := lim 65535 V) (B' := fun _ => 0) (C' := lim 255 U) (fun j hj => by unfold pre; rw [if_pos hj]) (fun _ _ => rfl) (fun j hj => by unfold pre; rw [if_pos hj]))
    have HOK : Hid (Okh (lim 65535 V) (fun _ => 0) (lim 255 U)) := fun j hj => by
      have a1 := HN.out.1 j hj
      have a2 := HN.out.2 j hj
      simp only [lim]
      omega
    clear HK
    go_wp2_with fail
    refine (noted_v wr b _ _ _ HK2.out HOK.out).mono ?_
    rintro e w3 ⟨rfl, K3, G3⟩
    have HG3 := hyd (HG.out.trans' G3 (fun k hk e => by have := HB0.out; omega))
    have HK3 := hyd K3
    clear K3 G3 HG HK2 HOK HR HS
    go_wp2
    go_ret2
    rw [HB0.out]
    exact ⟨rfl, HK3.out, HG3.out⟩
end Go.Proofs.Ytmicfipanpdjbaa
