/-
  PatrolPlays, walked. Condition: the script lies in memory.
-/
import Derived.Test.YtnldbeklcpcdcaaUp
import Derived.Test.YtnldbeklcpcdcaaRef
import Derived.Test.YtnldbeklcpcdcaaIn
namespace Go.Proofs.Ytnldbeklcpcdcaa
set_option maxRecDepth 100000
open Go.RowKit

theorem PB.drewN {w : World} {b c k : Nat} {t : TypeId} (h : PB w b t c k) (m : Nat) : PB (w.drewN m) b t c k := h
/-- Program and document stand alike. -/
structure Two (w0 w : World) (p r c k : Nat) : Prop where
  prog : PB w p 62 c k
  ref : PB w r 37 c k
  hc : c < 96
  ne : p ≠ r
  lp : w0.heap.size ≤ p
  lr : w0.heap.size ≤ r
  chg : Chg (fun _ => False) w0 w
section
variable {w0 w w' w1 w2 w3 : World} {p r c k c' k' g : Nat}
theorem Two.still (h : Two w0 w p r c k) (hc : Chg (fun _ => False) w w') : Two w0 w' p r c k :=
  { h with prog := h.prog.chg hc (fun f => f), ref := h.ref.chg hc (fun f => f), chg := h.chg.trans hc }
/-- Both were changed. -/
theorem Two.both (h : Two w0 w p r c k) (K1 : PB w1 p 62 c' k') (G1 : Chg (· = p) w w1) (hc : c' < 96) (K2 : PB w2 r 37 c' k') (G2 : Chg (· = r) w1 w2) : Two w0 w2 p r c' k' :=
  { h with
    prog := K1.chg G2 h.ne
    ref := K2
    hc := hc
    chg := (h.chg.trans' G1 (fun i hi e => by have := h.lp; omega)).trans' G2 (fun i hi e => by have := h.lr; omega) }
/-- And a new block besides. -/
theorem Two.step (h : Two w0 w p r c k) (K1 : PB w1 p 62 c' k') (G1 : Chg (· = p) w w1) (hc : c' < 96) (K2 : PB w2 r 37 c' k') (G2 : Chg (· = r) w1 w2) (G3 : Chg (· = g) w2 w3) (hg : w.heap.size ≤ g) : Two w0 w3 p r c' k' := by
  have h2 := h.both K1 G1 hc K2 G2
  have hp := h.prog.lt
  have hr := h.ref.lt
  have hs := h.chg.size
  exact { h2 with
    prog := h2.prog.chg G3 (by omega)
    ref := h2.ref.chg G3 (by omega)
    chg := h2.chg.trans' G3 (fun i hi e => by omega) }
end
theorem plays_no (z : Int) (hz : z < 0 ∨ 96 ≤ z) (v : Value) (w : World) :
    Calls Try.prog 3 #[.int .i64 z, v] w fun e w' => e = .returned (.bool true) ∧ Below w.heap.size w w' := by
  have q := eql_1_1
  go_enter Try.func3, Try.ntmps3
  go_wp2_with fail
  refine (up_any _).mono ?_
  rintro x w1 ⟨rfl, G1⟩
  have HG := hyd G1
  clear G1
  go_wp2_with fail
  refine (new_no w1 z hz).mono ?_
  rintro x w1 ⟨rfl, rfl⟩
  go_wp2_with fail
  refine (rnew_no w1 z hz).mono ?_
  rintro x w1 ⟨rfl, rfl⟩
  clear hz
  go_wp2
  go_ret
  exact ⟨rfl, HG.out.below (fun _ h => h.elim) (Nat.le_refl _)⟩
set_option maxHeartbeats 8000000 in
theorem plays_yes (c0 : Nat) (hc0 : c0 < 96) (a : Option Addr) (len cap : Nat) (V : Nat → Int) (w : World) (hV : IsInts w a len V) (hlen : len < 9223372036854775808) :
    Calls Try.prog 3 #[.int .i64 c0, .slice a len cap] w fun e w' => e = .returned (.bool true) ∧ Below w.heap.size w w' := by
  have HV := hyd hV
  have q := neq_nil
  clear hV
  go_enter Try.func3, Try.ntmps3
  go_wp2_with fail
  refine (up_any _).mono ?_
  rintro x w1 ⟨rfl, G1⟩
  go_wp2_with fail
  refine (new_yes w1 c0 hc0).mono ?_
  rintro x w2 ⟨rfl, K2, G2⟩
  obtain ⟨p, HP⟩ : ∃ p, Hid (p = w1.heap.size) := ⟨_, rfl⟩
  rw [← HP.out] at K2
  rw [← HP.out]
  have HLP := hyd (show w.heap.size ≤ p by have := G1.size; have := HP.out; omega)
  have HK2 := hyd K2
  have HG2 := hyd (G1.trans G2)
  clear K2 G1 G2
  go_wp2_with fail
  refine (rnew_yes w2 c0 hc0).mono ?_
  rintro x w3 ⟨rfl, K3, G3⟩
  obtain ⟨r, HR⟩ : ∃ r, Hid (r = w2.heap.size) := ⟨_, rfl⟩
  rw [← HR.out] at K3
  rw [← HR.out]
  have HT := hyd (show Two w w3 p r c0 0 from ⟨HK2.out.chg G3 (fun f => f), K3, hc0, by have := HK2.out.lt; have := HR.out; omega, HLP.out, by have := HG2.out.size; have := HR.out; omega, HG2.out.trans G3⟩)
  clear K3 G3 HK2 HG2 HLP HP HR hc0
  go_wp2_with fail
  clear q
  go_loopg [10] len (fun kx s10 wr => ∃ (i c k : Nat), s10 = .int .i64 i ∧ i ≤ len ∧ len - i ≤ kx ∧ Hid (k ≤ i) ∧ Hid (Two w wr p r c k))
  case atStart => exact ⟨0, c0, 0, rfl, by omega, by omega, Nat.le_refl _, HT⟩
  case round =>
  clear HT
  obtain ⟨i, c, k, rfl, hin, hkx, HKI, HT⟩ := hrel
  by_cases hlt : i < len
  · have hltz : (i : Int) < (len : Int) := by omega
    have HKL := hyd (show k < 9223372036854775807 by have := HKI.out; omega)
    obtain ⟨hok, hc⟩ := HV.out
    rcases hc with hc | ⟨qa, oa, rfl, hqa, hc⟩
    · omega
    have x0 := (HT.out.chg.cell hqa (fun f => f) _).trans (hc i hlt)
    have hvi := hok i hlt
    clear hok hc hqa
    generalize V i = v at *
    go_wp2_with fail
    refine (pick_any v hvi.1 hvi.2 4 (by omega) (by omega) _).mono ?_
    rintro x wr ⟨⟨qn, hqn, rfl⟩, rfl⟩
    have hcase : qn = 0 ∨ qn = 1 ∨ qn = 2 ∨ qn = 3 := by omega
    clear x0 hvi hqn
    rcases hcase with rfl | rfl | rfl | rfl
    · rw [show ((0 : Nat) : Int) = 0 from rfl]
      go_wp2_with fail
      refine (step_v wr p c k HT.out.prog HT.out.hc HKL.out _ rfl).mono ?_
      rintro x w7 ⟨rfl, I7, K7, G7⟩
      have HL7 := hyd I7.lt
      obtain ⟨g, HGG⟩ : ∃ g, Hid (g = wr.heap.size) := ⟨_, rfl⟩
      rw [← HGG.out] at I7 HL7
      rw [← HGG.out]
      have HI7 := hyd I7
      have HK7 := hyd K7
      have HG7 := hyd G7
      have HR7 := hyd (HT.out.ref.chg G7 HT.out.ne.symm)
      clear I7 K7 G7
      go_wp2_with fail
      refine (rstep_v w7 r c k HR7.out HT.out.hc HKL.out _ rfl).mono ?_
      rintro x w8 ⟨⟨h, cap', rfl, h1, h2, hc8⟩, K8, G8⟩
      have HN := hyd (show h ≠ g by have := HL7.out; omega)
      have HI8 := hyd (HI7.out.chg G8 (by have := HGG.out; have := HT.out.ref.lt; omega))
      have HK8 := hyd K8
      have HG8 := hyd G8
      have HC8 := hyd hc8
      have HH8 := hyd h2
      clear hc8 K8 G8 h1 h2 HI7 HR7
      go_wp2_with fail
      refine (same_v w8 g h cap' (plc c) HI8.out HC8.out HN.out HH8.out).mono ?_
      rintro x w9 ⟨rfl, G9⟩
      have HT := hyd (HT.out.step HK7.out HG7.out (Nat.mod_lt _ (by decide)) HK8.out HG8.out G9 (by rw [HGG.out]; exact Nat.le_refl _))
      clear G9 HK7 HG7 HK8 HG8 HI8 HC8 HN HH8 HL7 HGG
      have hcu := fun m => cursor_any (w9.drewN m) p ((c + 8) % 96) (k + 1) (HT.out.prog.drewN m)
      have hca := fun m => calls_any (w9.drewN m) p ((c + 8) % 96) (k + 1) (HT.out.prog.drewN m)
      have hdu := fun m => due_any (w9.drewN m) p ((c + 8) % 96) (k + 1) (HT.out.prog.drewN m)
      have r0 := HT.out.ref.c0.1
      have r1 := HT.out.ref.c1.1
      have HKI := hyd (show (k + 1) ≤ i + 1 from by have := HKI.out; omega)
      generalize ((c + 8) % 96) = cc at *
      generalize (k + 1) = kk at *
      have hcb : ((cc : Int) != (cc : Int)) = false := by simp
      have hkb : ((kk : Int) != (kk : Int)) = false := by simp
      by_cases h8 : (kk : Int) ≥ 8
      · simp only [h8, decide_true] at hdu
        go_wp2_with fail
        go_quiet (first | (go_at_call 14; refine Calls.quiet_of_same (hcu _)) | (go_at_call 15; refine Calls.quiet_of_same (hca _)) | (go_at_call 16; refine Calls.quiet_of_same (hdu _)))
        go_wp2
        go_roundg (len - (i + 1))
        case measure => omega
        case rel => exact ⟨i + 1, cc, kk, by simp, by omega, Nat.le_refl _, HKI, HT.out.still ((Chg.refl _ _).drewN _)⟩
      · simp only [h8, decide_false] at hdu
        go_wp2_with fail
        go_quiet (first | (go_at_call 14; refine Calls.quiet_of_same (hcu _)) | (go_at_call 15; refine Calls.quiet_of_same (hca _)) | (go_at_call 16; refine Calls.quiet_of_same (hdu _)))
        go_wp2
        go_roundg (len - (i + 1))
        case measure => omega
        case rel => exact ⟨i + 1, cc, kk, by simp, by omega, Nat.le_refl _, HKI, HT.out.still ((Chg.refl _ _).drewN _)⟩
    · rw [show ((1 : Nat) : Int) = 1 from rfl]
      go_wp2_with fail
      refine (step_v wr p c k HT.out.prog HT.out.hc HKL.out _ rfl).mono ?_
      rintro x w7 ⟨rfl, I7, K7, G7⟩
      have HL7 := hyd I7.lt
      obtain ⟨g, HGG⟩ : ∃ g, Hid (g = wr.heap.size) := ⟨_, rfl⟩
      rw [← HGG.out] at I7 HL7
      rw [← HGG.out]
      have HI7 := hyd I7
      have HK7 := hyd K7
      have HG7 := hyd G7
      have HR7 := hyd (HT.out.ref.chg G7 HT.out.ne.symm)
      clear I7 K7 G7
      go_wp2_with fail
      refine (rstep_v w7 r c k HR7.out HT.out.hc HKL.out _ rfl).mono ?_
      rintro x w8 ⟨⟨h, cap', rfl, h1, h2, hc8⟩, K8, G8⟩
      have HN := hyd (show h ≠ g by have := HL7.out; omega)
      have HI8 := hyd (HI7.out.chg G8 (by have := HGG.out; have := HT.out.ref.lt; omega))
      have HK8 := hyd K8
      have HG8 := hyd G8
      have HC8 := hyd hc8
      have HH8 := hyd h2
      clear hc8 K8 G8 h1 h2 HI7 HR7
      go_wp2_with fail
      refine (same_v w8 g h cap' (plc c) HI8.out HC8.out HN.out HH8.out).mono ?_
      rintro x w9 ⟨rfl, G9⟩
      have HT := hyd (HT.out.step HK7.out HG7.out (Nat.mod_lt _ (by decide)) HK8.out HG8.out G9 (by rw [HGG.out]; exact Nat.le_refl _))
      clear G9 HK7 HG7 HK8 HG8 HI8 HC8 HN HH8 HL7 HGG
      have hcu := fun m => cursor_any (w9.drewN m) p ((c + 8) % 96) (k + 1) (HT.out.prog.drewN m)
      have hca := fun m => calls_any (w9.drewN m) p ((c + 8) % 96) (k + 1) (HT.out.prog.drewN m)
      have hdu := fun m => due_any (w9.drewN m) p ((c + 8) % 96) (k + 1) (HT.out.prog.drewN m)
      have r0 := HT.out.ref.c0.1
      have r1 := HT.out.ref.c1.1
      have HKI := hyd (show (k + 1) ≤ i + 1 from by have := HKI.out; omega)
      generalize ((c + 8) % 96) = cc at *
      generalize (k + 1) = kk at *
      have hcb : ((cc : Int) != (cc : Int)) = false := by simp
      have hkb : ((kk : Int) != (kk : Int)) = false := by simp
      by_cases h8 : (kk : Int) ≥ 8
      · simp only [h8, decide_true] at hdu
        go_wp2_with fail
        go_quiet (first | (go_at_call 14; refine Calls.quiet_of_same (hcu _)) | (go_at_call 15; refine Calls.quiet_of_same (hca _)) | (go_at_call 16; refine Calls.quiet_of_same (hdu _)))
        go_wp2
        go_roundg (len - (i + 1))
        case measure => omega
        case rel => exact ⟨i + 1, cc, kk, by simp, by omega, Nat.le_refl _, HKI, HT.out.still ((Chg.refl _ _).drewN _)⟩
      · simp only [h8, decide_false] at hdu
        go_wp2_with fail
        go_quiet (first | (go_at_call 14; refine Calls.quiet_of_same (hcu _)) | (go_at_call 15; refine Calls.quiet_of_same (hca _)) | (go_at_call 16; refine Calls.quiet_of_same (hdu _)))
        go_wp2
        go_roundg (len - (i + 1))
        case measure => omega
        case rel => exact ⟨i + 1, cc, kk, by simp, by omega, Nat.le_refl _, HKI, HT.out.still ((Chg.refl _ _).drewN _)⟩
    · rw [show ((2 : Nat) : Int) = 2 from rfl]
      go_wp2_with fail
      refine (noted_any wr p c k HT.out.prog).mono ?_
      rintro x w7 ⟨rfl, K7, G7⟩
      have R7 := HT.out.ref.chg G7 HT.out.ne.symm
      obtain ⟨d1, f1⟩ := R7.c1
      have R8 := R7.set1 0
      have G8 : Chg (· = r) w7 (w7.setCell ⟨r, 1, none⟩ (.int .i64 ((0 : Nat) : Int))) := (Chg.refl (· = r) w7).setCell (Or.inl rfl) _ _
      have HT := hyd (HT.out.both K7 G7 HT.out.hc R8 G8)
      replace HT : Hid (Two w (w7.setCell ⟨r, 1, none⟩ (.int .i64 0)) p r c 0) := HT
      clear K7 G7 R7 R8 G8
      obtain ⟨w8, HW8⟩ : ∃ w8, Hid (w8 = w7.setCell ⟨r, 1, none⟩ (.int .i64 0)) := ⟨_, rfl⟩
      rw [← HW8.out] at HT
      go_wp2_with fail
      rw [← HW8.out]
      clear d1 f1 HW8
      have hcu := fun m => cursor_any (w8.drewN m) p c 0 (HT.out.prog.drewN m)
      have hca := fun m => calls_any (w8.drewN m) p c 0 (HT.out.prog.drewN m)
      have hdu := fun m => due_any (w8.drewN m) p c 0 (HT.out.prog.drewN m)
      have r0 := HT.out.ref.c0.1
      have r1 := HT.out.ref.c1.1
      rw [show ((0 : Nat) : Int) = 0 from rfl] at r1
      simp only [show ((0 : Nat) : Int) = 0 from rfl, show decide ((0 : Int) ≥ 8) = false from rfl] at hca hdu
      have hcb : ((c : Int) != (c : Int)) = false := by simp
      go_wp2_with fail
      go_quiet (first | (go_at_call 14; refine Calls.quiet_of_same (hcu _)) | (go_at_call 15; refine Calls.quiet_of_same (hca _)) | (go_at_call 16; refine Calls.quiet_of_same (hdu _)))
      go_wp2
      go_roundg (len - (i + 1))
      case measure => omega
      case rel => exact ⟨i + 1, c, 0, by simp, by omega, Nat.le_refl _, Nat.zero_le _, HT.out.still ((Chg.refl _ _).drewN _)⟩
    · rw [show ((3 : Nat) : Int) = 3 from rfl]
      have hcu := fun m => cursor_any (wr.drewN m) p c k (HT.out.prog.drewN m)
      have hca := fun m => calls_any (wr.drewN m) p c k (HT.out.prog.drewN m)
      have hdu := fun m => due_any (wr.drewN m) p c k (HT.out.prog.drewN m)
      have r0 := HT.out.ref.c0.1
      have r1 := HT.out.ref.c1.1
      have HKI := hyd (show k ≤ i + 1 from by have := HKI.out; omega)
      generalize c = cc at *
      generalize k = kk at *
      have hcb : ((cc : Int) != (cc : Int)) = false := by simp
      have hkb : ((kk : Int) != (kk : Int)) = false := by simp
      by_cases h8 : (kk : Int) ≥ 8
      · simp only [h8, decide_true] at hdu
        go_wp2_with fail
        go_quiet (first | (go_at_call 14; refine Calls.quiet_of_same (hcu _)) | (go_at_call 15; refine Calls.quiet_of_same (hca _)) | (go_at_call 16; refine Calls.quiet_of_same (hdu _)))
        go_wp2
        go_roundg (len - (i + 1))
        case measure => omega
        case rel => exact ⟨i + 1, cc, kk, by simp, by omega, Nat.le_refl _, HKI, HT.out.still ((Chg.refl _ _).drewN _)⟩
      · simp only [h8, decide_false] at hdu
        go_wp2_with fail
        go_quiet (first | (go_at_call 14; refine Calls.quiet_of_same (hcu _)) | (go_at_call 15; refine Calls.quiet_of_same (hca _)) | (go_at_call 16; refine Calls.quiet_of_same (hdu _)))
        go_wp2
        go_roundg (len - (i + 1))
        case measure => omega
        case rel => exact ⟨i + 1, cc, kk, by simp, by omega, Nat.le_refl _, HKI, HT.out.still ((Chg.refl _ _).drewN _)⟩
  · have hltz : ¬ (i : Int) < (len : Int) := by omega
    go_wp2
    go_ret
    exact ⟨rfl, HT.out.chg.below (fun _ h => h.elim) (Nat.le_refl _)⟩
theorem plays_walk (z : Int) (a : Option Addr) (len cap : Nat) (V : Nat → Int) (w : World) (hV : IsInts w a len V) (hlen : len < 9223372036854775808) :
    Calls Try.prog 3 #[.int .i64 z, .slice a len cap] w fun e w' => e = .returned (.bool true) ∧ Below w.heap.size w w' := by
  by_cases h : z < 0 ∨ 96 ≤ z
  · exact plays_no z h _ w
  · obtain ⟨c, rfl⟩ : ∃ c : Nat, z = c := ⟨z.toNat, by omega⟩
    exact plays_yes c (by omega) a len cap V w hV hlen
end Go.Proofs.Ytnldbeklcpcdcaa
