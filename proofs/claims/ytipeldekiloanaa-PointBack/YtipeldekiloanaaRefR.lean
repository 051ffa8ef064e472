/-
  The document's Read, walked. Condition: the bytes can be read.
-/
import Derived.Test.YtipeldekiloanaaRefW
namespace Go.Proofs.Ytipeldekiloanaa
open Go.RowKit
set_option maxRecDepth 100000

theorem wpList_alloc_at {ops : Array Oper} {rest : List Oper} {o : Oper} {a : Act} {w : World} {Q : Exit → Act → World → Prop} (hgd : o.guard = none) (ho : o.op = .alloc 26) (N : Nat) (hN : w.heap.size = N)
    (h : wpList Try.prog ops Q rest (a.put o.dst (.pointer (some ⟨N, 0, none⟩))) (w.alloc (.cells (ckA ck0) 26))) : wpList Try.prog ops Q (o :: rest) a w :=
  wpList_alloc_ck hgd ho (by rw [hN]; exact h)
/-- The world in which Read begins. -/
def rr0 (w : World) : World := (w.alloc (.cells (ckA ck0) 26)).alloc (.cells (ckA ck0) 26)
theorem rr0_is (w : World) : Ck (rr0 w) (w.heap.size + 1) ck0 ∧ Ck (rr0 w) w.heap.size ck0 ∧ Chg (fun _ => False) w (rr0 w) := by
  have hN := Ck.new (w.alloc (.cells (ckA ck0) 26)) ck0
  have e1 : (w.alloc (.cells (ckA ck0) 26)).heap.size = w.heap.size + 1 := by simp
  rw [e1] at hN
  exact ⟨hN, (Ck.new w ck0).alloc _, ((Chg.refl _ w).alloc _).alloc _⟩

set_option maxHeartbeats 2000000 in
theorem rread_len (w : World) (a : Option Addr) (n cap : Nat) (hn : n ≠ 174) :
    Calls Try.prog 12 #[.slice a n cap] w fun e w' => e = .returned (.tuple #[.agg (ckA ck0), .int .i64 3]) ∧ Chg (fun _ => False) w w' := by
  have hn' : ((n : Int) != 174) = true := by simp only [bne_iff_ne, ne_eq]; omega
  obtain ⟨K1, K0, G0⟩ := rr0_is w
  have HK1 : Hid (Ck ((w.alloc (.cells (ckA ck0) 26)).alloc (.cells (ckA ck0) 26)) (w.heap.size + 1) ck0) := hyd K1
  have HK0 := hyd K0
  have HG0 := hyd G0
  clear hn K1 K0 G0
  go_enter Try.func12, Try.ntmps12
  go_wp2_with (first | refine wpList_alloc_at rfl rfl w.heap.size rfl ?_ | refine wpList_alloc_at rfl rfl (w.heap.size + 1) (World.size_alloc _ _) ?_ | refine wpList_build_ck rfl rfl ?_ | refine wpList_store_ck rfl (.tmp 4) (.tmp 10) rfl (w.heap.size + 1) rfl rfl HK1.out ?_)
  intro w1 K1 G1
  have HK1' := hyd K1
  have HK0' := hyd (HK0.out.chg G1 (by omega))
  have HG1 : Hid (Chg (fun _ => False) w w1) := hyd (HG0.out.trans' G1 (fun i hi hh => by omega))
  clear K1 G1 HK1 HK0 HG0
  go_wp2_with (first | refine wpList_load_ck rfl (.tmp 4) rfl (w.heap.size + 1) rfl HK1'.out ?_ | refine wpList_store_ck rfl (.tmp 2) (.tmp 26) rfl w.heap.size rfl rfl HK0'.out ?_)
  intro w3 T3 G3
  have HT3 := hyd T3
  have HG3 : Hid (Chg (fun _ => False) w w3) := hyd (HG1.out.trans' G3 (fun i hi ht => by omega))
  clear T3 G3
  go_wp2
  refine bodyPost_ret (results_ck rfl _ rfl HT3.out) rfl ?_
  exact ⟨rfl, HG3.out⟩
set_option maxHeartbeats 8000000 in
theorem rread_head (w : World) (c o cap : Nat) (l : List Nat) (hl : Bys l) (hL : l.length = 174) (hA : At w c o l) (hd : 15 < l.getD 126 0 ∨ (l.getD 126 0 ≤ 15 ∧ 95 < l.getD 127 0)) :
    Calls Try.prog 12 #[.slice (some ⟨c, o, none⟩) 174 cap] w fun e w' => e = .returned (.tuple #[.agg (ckA ck0), .int .i64 3]) ∧ Chg (fun _ => False) w w' := by
  obtain ⟨K1, K0, G0⟩ := rr0_is w
  have HA := hyd hA
  have HL := hyd hL
  have x1 := hl.getD 126
  have x2 := hl.getD 127
  have HK1 : Hid (Ck ((w.alloc (.cells (ckA ck0) 26)).alloc (.cells (ckA ck0) 26)) (w.heap.size + 1) ck0) := hyd K1
  have HK0 := hyd K0
  have HG0 := hyd G0
  clear K1 K0 G0 hL hA
  go_enter Try.func12, Try.ntmps12
  go_wp2_with (first | refine wpList_alloc_at rfl rfl w.heap.size rfl ?_ | refine wpList_alloc_at rfl rfl (w.heap.size + 1) (World.size_alloc _ _) ?_ | refine wpList_build_ck rfl rfl ?_ | refine wpList_store_ck rfl (.tmp 4) (.tmp 10) rfl (w.heap.size + 1) rfl rfl HK1.out ?_)
  intro w1 K1 G1
  have HK1' := hyd K1
  have HK0' := hyd (HK0.out.chg G1 (by omega))
  have HG1 : Hid (Chg (fun _ => False) w w1) := hyd (HG0.out.trans' G1 (fun i hi hh => by omega))
  have A1 := HA.out.chg HG1.out (fun e => e)
  have k1 := A1.2 126 (by rw [HL.out]; decide)
  have k2 := A1.2 127 (by rw [HL.out]; decide)
  clear K1 G1 HK1 HK0 HG0 A1
  generalize l.getD 126 0 = y1 at *
  generalize l.getD 127 0 = y2 at *
  rcases hd with h1 | ⟨h1, h2⟩
  · go_wp2_with (first | refine wpList_load_ck rfl (.tmp 4) rfl (w.heap.size + 1) rfl HK1'.out ?_ | refine wpList_store_ck rfl (.tmp 2) (.tmp 26) rfl w.heap.size rfl rfl HK0'.out ?_)
    intro w3 T3 G3
    have HT3 := hyd T3
    have HG3 : Hid (Chg (fun _ => False) w w3) := hyd (HG1.out.trans' G3 (fun i hi ht => by omega))
    clear T3 G3
    go_wp2
    refine bodyPost_ret (results_ck rfl _ rfl HT3.out) rfl ?_
    exact ⟨rfl, HG3.out⟩
  · go_wp2_with (first | refine wpList_load_ck rfl (.tmp 4) rfl (w.heap.size + 1) rfl HK1'.out ?_ | refine wpList_store_ck rfl (.tmp 2) (.tmp 26) rfl w.heap.size rfl rfl HK0'.out ?_)
    intro w3 T3 G3
    have HT3 := hyd T3
    have HG3 : Hid (Chg (fun _ => False) w w3) := hyd (HG1.out.trans' G3 (fun i hi ht => by omega))
    clear T3 G3
    go_wp2
    refine bodyPost_ret (results_ck rfl _ rfl HT3.out) rfl ?_
    exact ⟨rfl, HG3.out⟩
set_option maxHeartbeats 8000000 in
theorem rread_tail (w : World) (c o cap : Nat) (l : List Nat) (hl : Bys l) (hL : l.length = 174) (hA : At w c o l) (h1 : l.getD 126 0 ≤ 15) (h2 : l.getD 127 0 ≤ 95) (hd : ¬ Doc l) :
    Calls Try.prog 12 #[.slice (some ⟨c, o, none⟩) 174 cap] w fun e w' => e = .returned (.tuple #[.agg (ckA ck0), .int .i64 3]) ∧ Chg (fun _ => False) w w' := by
  obtain ⟨K1, K0, G0⟩ := rr0_is w
  have HA := hyd hA
  have HL := hyd hL
  have HD : Hid (¬ ∀ i, 164 ≤ i → i < 174 → l.getD i 0 = 0) := hyd (fun e => hd ⟨h1, h2, e⟩)
  have x1 := hl.getD 126
  have x2 := hl.getD 127
  have HK1 : Hid (Ck ((w.alloc (.cells (ckA ck0) 26)).alloc (.cells (ckA ck0) 26)) (w.heap.size + 1) ck0) := hyd K1
  have HK0 := hyd K0
  have HG0 := hyd G0
  clear K1 K0 G0 hL hA hd
  go_enter Try.func12, Try.ntmps12
  go_wp2_with (first | refine wpList_alloc_at rfl rfl w.heap.size rfl ?_ | refine wpList_alloc_at rfl rfl (w.heap.size + 1) (World.size_alloc _ _) ?_ | refine wpList_build_ck rfl rfl ?_ | refine wpList_store_ck rfl (.tmp 4) (.tmp 10) rfl (w.heap.size + 1) rfl rfl HK1.out ?_)
  intro w1 K1 G1
  have HK1' := hyd K1
  have HK0' := hyd (HK0.out.chg G1 (by omega))
  have HG1 : Hid (Chg (fun _ => False) w w1) := hyd (HG0.out.trans' G1 (fun i hi hh => by omega))
  have A1 := HA.out.chg HG1.out (fun e => e)
  have k1 := A1.2 126 (by rw [HL.out]; decide)
  have k2 := A1.2 127 (by rw [HL.out]; decide)
  have HA1 := hyd A1
  clear K1 G1 HK1 HK0 HG0 A1
  generalize l.getD 126 0 = y1 at k1 h1 x1
  generalize l.getD 127 0 = y2 at k2 h2 x2
  go_wp2_with fail
  clear k1 k2
  go_loopw [5] (fun t wr => ∃ k : Nat, k ≤ 10 ∧ t = .int .i64 (164 + k : Nat) ∧ (∀ i, 164 ≤ i → i < 164 + k → l.getD i 0 = 0) ∧ wr = w1) (fun t _ => 174 - (intOf t).toNat)
  case atStart => exact ⟨0, by decide, rfl, fun i h1 h2 => by omega, rfl⟩
  case round =>
    obtain ⟨k, hk, rfl, a1, rfl⟩ := hrel
    have HZ := hyd a1
    clear a1
    by_cases hlt : k < 10
    · have hlt' : ((164 + k : Nat) : Int) < 174 := by omega
      have hkb : (0 : Int) ≤ ((164 + k : Nat) : Int) := by omega
      have k1 := HA1.out.2 (164 + k) (by rw [HL.out]; omega)
      have x3 := hl.getD (164 + k)
      have HE : Hid ((164 + k : Nat) + 1 = 164 + (k + 1)) := hyd (by omega)
      by_cases h0 : l.getD (164 + k) 0 = 0
      · rw [h0] at k1
        have H0 := hyd h0
        clear h0 x3 HE
        generalize hq : 164 + k = q at *
        have HQ := hyd hq
        clear hq
        go_wp2
        have hq := HQ.out
        refine ⟨⟨k + 1, by omega, ?_, fun i hi1 hi2 => ?_, trivial⟩, by simp [intOf]; omega⟩
        · rw [show ((164 + (k + 1) : Nat) : Int) = (q : Int) + 1 by omega]
        · by_cases e : i = q
          · rw [e]; exact H0.out
          · exact HZ.out i hi1 (by omega)
      · have hne : (((l.getD (164 + k) 0 : Nat) : Int) != 0) = true := by simp only [bne_iff_ne, ne_eq]; omega
        clear h0
        generalize l.getD (164 + k) 0 = y3 at *
        generalize 164 + k = q at *
        go_wp2_with (first | refine wpList_load_ck rfl (.tmp 4) rfl (w.heap.size + 1) rfl HK1'.out ?_ | refine wpList_store_ck rfl (.tmp 2) (.tmp 36) rfl w.heap.size rfl rfl HK0'.out ?_)
        intro w3 T3 G3
        have HT3 := hyd T3
        have HG3 : Hid (Chg (fun _ => False) w w3) := hyd (HG1.out.trans' G3 (fun i hi ht => by omega))
        clear T3 G3
        go_wp2
        refine bodyPost_ret (results_ck rfl _ rfl HT3.out) rfl ?_
        exact ⟨rfl, HG3.out⟩
    · have e : k = 10 := by omega
      subst e
      exact absurd HZ.out HD.out
theorem tmod2 (x : Nat) : (x : Int).tmod 2 = ((x % 2 : Nat) : Int) := by rw [Int.tmod_eq_emod_of_nonneg (by omega)]; omega
theorem tdiv2 (x : Nat) : (x : Int).tdiv 2 = ((x / 2 : Nat) : Int) := by rw [Int.tdiv_eq_ediv_of_nonneg (by omega)]; omega
/-- How Read stands: the two checkpoints. -/
structure Rsr (w wr : World) (c : Ckp) : Prop where
  ck : Ck wr (w.heap.size + 1) c
  z : Ck wr w.heap.size ck0
  chg : Chg (fun _ => False) w wr
theorem Rsr.pure {w wr w' : World} {c : Ckp} (h : Rsr w wr c) (hc : Chg (fun _ => False) wr w') : Rsr w w' c :=
  ⟨h.ck.chg hc (fun e => e), h.z.chg hc (fun e => e), h.chg.trans hc⟩
theorem Rsr.eq {w wr : World} {c d : Ckp} (h : Rsr w wr c) (e : ckA c = ckA d) : Rsr w wr d := ⟨h.ck.eq e, h.z, h.chg⟩
theorem Rsr.set {w wr : World} {c d : Ckp} (h : Rsr w wr c) (i : Nat) (v : Value) (hk : Ck (wr.setCell ⟨w.heap.size + 1, i, none⟩ v) (w.heap.size + 1) d) : Rsr w (wr.setCell ⟨w.heap.size + 1, i, none⟩ v) d :=
  ⟨hk, h.z.setOther (by omega) _ _, h.chg.setCell (Or.inr (by omega)) _ _⟩
set_option maxHeartbeats 8000000 in
theorem rread_yes (w : World) (c o cap : Nat) (l : List Nat) (hl : Bys l) (hL : l.length = 174) (hcap : 174 ≤ cap) (hA : At w c o l) (hd : Doc l) :
    Calls Try.prog 12 #[.slice (some ⟨c, o, none⟩) 174 cap] w fun e w' => e = .returned (.tuple #[.agg (ckA (rdC l)), .int .i64 0]) ∧ Chg (fun _ => False) w w' := by
  obtain ⟨K1, K0, G0⟩ := rr0_is w
  have HA := hyd hA
  have HL := hyd hL
  obtain ⟨h1, h2, h3⟩ := hd
  have HD := hyd h3
  have x1 := hl.getD 126
  have x2 := hl.getD 127
  have HK1 : Hid (Ck ((w.alloc (.cells (ckA ck0) 26)).alloc (.cells (ckA ck0) 26)) (w.heap.size + 1) ck0) := hyd K1
  have HK0 := hyd K0
  have HG0 := hyd G0
  clear K1 K0 G0 hL hA h3
  go_enter Try.func12, Try.ntmps12
  go_wp2_with (first | refine wpList_alloc_at rfl rfl w.heap.size rfl ?_ | refine wpList_alloc_at rfl rfl (w.heap.size + 1) (World.size_alloc _ _) ?_ | refine wpList_build_ck rfl rfl ?_ | refine wpList_store_ck rfl (.tmp 4) (.tmp 10) rfl (w.heap.size + 1) rfl rfl HK1.out ?_)
  intro w1 K1 G1
  have HG1 : Hid (Chg (fun _ => False) w w1) := hyd (HG0.out.trans' G1 (fun i hi hh => by omega))
  have HS : Hid (Rsr w w1 (rdK l 0 0 false 0 0 0)) := hyd ⟨K1.eq (rdK_0 l).symm, HK0.out.chg G1 (by omega), HG1.out⟩
  have A1 := HA.out.chg HG1.out (fun e => e)
  have k1 := A1.2 126 (by rw [HL.out]; decide)
  have k2 := A1.2 127 (by rw [HL.out]; decide)
  have HA1 := hyd A1
  clear K1 G1 HK1 HK0 HG0 A1
  generalize l.getD 126 0 = y1 at k1 h1 x1
  generalize l.getD 127 0 = y2 at k2 h2 x2
  go_wp2_with fail
  clear k1 k2
  go_loopw [5] (fun t wr => ∃ k : Nat, k ≤ 10 ∧ t = .int .i64 (164 + k : Nat) ∧ wr = w1) (fun t _ => 174 - (intOf t).toNat)
  case atStart => exact ⟨0, by decide, rfl, rfl⟩
  case round =>
    obtain ⟨k, hk, rfl, rfl⟩ := hrel
    by_cases hlt : k < 10
    · have hlt' : ((164 + k : Nat) : Int) < 174 := by omega
      have hkb : (0 : Int) ≤ ((164 + k : Nat) : Int) := by omega
      have k1 := HA1.out.2 (164 + k) (by rw [HL.out]; omega)
      rw [HD.out (164 + k) (by omega) (by omega)] at k1
      generalize hq : 164 + k = q at *
      have HQ := hyd hq
      clear hq
      go_wp2
      have hq := HQ.out
      refine ⟨⟨k + 1, by omega, ?_, trivial⟩, by simp [intOf]; omega⟩
      rw [show ((164 + (k + 1) : Nat) : Int) = (q : Int) + 1 by omega]
    · have e : k = 10 := by omega
      subst e
      go_wp2_with fail
      go_loopw [6] (fun t wr => ∃ k : Nat, k ≤ 24 ∧ t = .int .i64 k ∧ Rsr w wr (rdK l k 0 false 0 0 0)) (fun t _ => 24 - (intOf t).toNat)
      case atStart => exact ⟨0, by decide, rfl, HS.out⟩
      case round =>
        clear HS
        obtain ⟨k, hk, rfl, hS⟩ := hrel
        by_cases hlt : k < 24
        · have hlt' : (k : Int) < 24 := by omega
          have hkb : (0 : Int) ≤ (k : Int) := by omega
          have hAr := HA.out.chg hS.chg (fun e => e)
          have hcall := number_any wr (some ⟨c, o + 5 * k, none⟩) 5 (cap - 5 * k) (seg l (5 * k) 5) (by rw [seg_length (by rw [HL.out]; omega)]) (seg_bys hl _ _) (by rw [seg_length (by rw [HL.out]; omega)]; decide) (hAr.held (5 * k) 5 _ (by rw [HL.out]; omega))
          have HS := hyd hS
          clear hS hAr
          go_wp2_with fail
          refine hcall.mono ?_
          rintro e w2 ⟨rfl, G2⟩
          have hS2 := HS.out.pure G2
          have k1 := hS2.ck.F k hlt
          have f1 := hS2.ck.frozen k
          have HU := hyd (part_upd l 0 5 k)
          rw [Nat.zero_add] at HU
          have HS2 := hyd hS2
          clear hcall G2 HS hS2
          rw [show le (seg l (5 * k) 5) = fld l (5 * k) 5 from rfl]
          generalize fld l (5 * k) 5 = x at *
          go_wp2
          refine ⟨⟨_, _, _, _, _, _, _, _, _, _, _, _, _, _, _, _, ?hi, rfl⟩, by simp [intOf]; omega⟩
          refine ⟨k + 1, by omega, by go_num, ?_⟩
          have e : rdK l (k + 1) 0 false 0 0 0 = { rdK l k 0 false 0 0 0 with F := upd (part l 0 5 k) k (x : Int) } := by rw [HU.out]; rfl
          rw [e]
          exact HS2.out.set _ _ (HS2.out.ck.setF k hlt _)
        · have e : k = 24 := by omega
          subst e
          have hAr := HA.out.chg hS.chg (fun e => e)
          have hcall := number_any wr (some ⟨c, o + 120, none⟩) 5 (cap - 120) (seg l 120 5) (by rw [seg_length (by rw [HL.out]; omega)]) (seg_bys hl _ _) (by rw [seg_length (by rw [HL.out]; omega)]; decide) (hAr.held 120 5 _ (by rw [HL.out]; omega))
          have HS := hyd hS
          clear hS hAr
          go_wp2_with fail
          refine hcall.mono ?_
          rintro e w2 ⟨rfl, G2⟩
          have hS2 := HS.out.pure G2
          have k1 := hS2.ck.N
          have f1 := hS2.ck.frozen 24
          have hS3 : Rsr w (w2.setCell ⟨w.heap.size + 1, 24, none⟩ (.int .i64 (fld l 120 5 : Nat))) (rdK l 24 1 false 0 0 0) := hS2.set _ _ (hS2.ck.setN _)
          have hAr := HA.out.chg hS3.chg (fun e => e)
          have hcall := number_any (w2.setCell ⟨w.heap.size + 1, 24, none⟩ (.int .i64 (fld l 120 5 : Nat))) (some ⟨c, o + 125, none⟩) 2 (cap - 125) (seg l 125 2) (by rw [seg_length (by rw [HL.out]; omega)]) (seg_bys hl _ _) (by rw [seg_length (by rw [HL.out]; omega)]; decide) (hAr.held 125 2 _ (by rw [HL.out]; omega))
          have HS3 := hyd hS3
          clear G2 HS hS2 hS3 hAr
          rw [show le (seg l 120 5) = fld l 120 5 from rfl]
          go_wp2_with fail
          generalize w2.setCell ⟨w.heap.size + 1, 24, none⟩ (.int .i64 (fld l 120 5 : Nat)) = w3 at *
          refine hcall.mono ?_
          rintro e w4 ⟨rfl, G4⟩
          have HS4 : Hid (Rsr w w4 { rdK l 24 1 false 0 0 0 with B := tol (fld l 125 2) 0 }) := hyd ((HS3.out.pure G4).eq (by apply ckA_congr <;> intros <;> simp [rdK, tol]))
          have x3 := fld2 hl (a := 125) (by rw [HL.out]; omega)
          clear hcall HS3 G4
          rw [show le (seg l 125 2) = fld l 125 2 from rfl]
          go_wp2_with fail
          go_loopw [7, 8] (fun x t wr => ∃ k : Nat, k ≤ 12 ∧ t = .int .i64 k ∧ x = .int .i64 ((fld l 125 2 / 2 ^ k : Nat) : Int) ∧ Rsr w wr { rdK l 24 1 false 0 0 0 with B := tol (fld l 125 2) k }) (fun _ t _ => 12 - (intOf t).toNat)
          case atStart => exact ⟨0, by decide, rfl, by simp, HS4.out⟩
          case round =>
            clear HS4
            obtain ⟨k, hk, rfl, rfl, hS⟩ := hrel
            by_cases hlt : k < 12
            · have hlt' : (k : Int) < 12 := by omega
              have hkb : (0 : Int) ≤ (k : Int) := by omega
              have k1 := hS.ck.B k hlt
              have f1 := hS.ck.frozen (25 + k)
              have hdv : fld l 125 2 / 2 ^ k ≤ fld l 125 2 := Nat.div_le_self _ _
              have t1 := tmod2 (fld l 125 2 / 2 ^ k)
              have t2 := tdiv2 (fld l 125 2 / 2 ^ k)
              have HT : Hid (((((fld l 125 2 / 2 ^ k : Nat) : Int) % 2) == 1) = (fld l 125 2).testBit k) := hyd (by
                have e : ((fld l 125 2 / 2 ^ k : Nat) : Int) % 2 = ((fld l 125 2 / 2 ^ k % 2 : Nat) : Int) := by omega
                rw [Nat.testBit_eq_decide_div_mod_eq, e]
                by_cases h : fld l 125 2 / 2 ^ k % 2 = 1
                · rw [h]; rfl
                · have : fld l 125 2 / 2 ^ k % 2 = 0 := by omega
                  rw [this]; rfl)
              have HV : Hid ((fld l 125 2 / 2 ^ (k + 1) : Nat) = fld l 125 2 / 2 ^ k / 2) := hyd (by rw [Nat.pow_succ, Nat.div_div_eq_div_mul])
              have HU := hyd (tol_upd (fld l 125 2) k)
              have HS := hyd hS
              clear hS
              generalize fld l 125 2 = v at *
              generalize v / 2 ^ k = x at *
              go_wp2
              rw [HT.out]
              refine ⟨⟨k + 1, by omega, by go_num, by rw [HV.out]; simp, ?_⟩, by simp [intOf]; omega⟩
              rw [← HU.out]
              exact HS.out.set _ _ (HS.out.ck.setB k hlt _)
            · have e : k = 12 := by omega
              subst e
              have hAr := HA.out.chg hS.chg (fun e => e)
              have k1 := hAr.2 127 (by rw [HL.out]; decide)
              have k2 := hS.ck.C
              have f2 := hS.ck.frozen 37
              have x4 := hl.getD 127
              have HC := hyd (fld_one hl (a := 127) (by rw [HL.out]; decide))
              have hS3 : Rsr w (wr.setCell ⟨w.heap.size + 1, 37, none⟩ (.int .i64 (l.getD 127 0 : Nat))) (rdK l 24 1 true 1 0 0) := by
                rw [← HC.out]
                refine (hS.set 37 _ (hS.ck.setC _)).eq ?_
                apply ckA_congr <;> intros <;> simp_all [rdK, tol]
              have HS3 := hyd hS3
              clear hS hS3 hAr HC
              generalize l.getD 127 0 = y at *
              go_wp2_with fail
              generalize wr.setCell ⟨w.heap.size + 1, 37, none⟩ (.int .i64 (y : Nat)) = w7 at *
              clear k1 k2 f2
              go_loopw [9] (fun t wr => ∃ k : Nat, k ≤ 12 ∧ t = .int .i64 k ∧ Rsr w wr (rdK l 24 1 true 1 k k)) (fun t _ => 12 - (intOf t).toNat)
              case atStart => exact ⟨0, by decide, rfl, HS3.out⟩
              case round =>
                clear HS3
                obtain ⟨k, hk, rfl, hS⟩ := hrel
                by_cases hlt : k < 12
                · have hlt' : (k : Int) < 12 := by omega
                  have hkb : (0 : Int) ≤ (k : Int) := by omega
                  have hAr := HA.out.chg hS.chg (fun e => e)
                  have hcall := number_any wr (some ⟨c, o + (128 + 2 * k), none⟩) (130 + 2 * k - (128 + 2 * k)) (cap - (128 + 2 * k)) (seg l (128 + 2 * k) 2) (by rw [seg_length (by rw [HL.out]; omega)]; omega) (seg_bys hl _ _) (by rw [seg_length (by rw [HL.out]; omega)]; decide) (by rw [show 130 + 2 * k - (128 + 2 * k) = 2 by omega]; exact hAr.held (128 + 2 * k) 2 _ (by rw [HL.out]; omega))
                  have HS := hyd hS
                  clear hS hAr
                  go_wp2_with fail
                  refine hcall.mono ?_
                  rintro e w2 ⟨rfl, G2⟩
                  have hS2 := HS.out.pure G2
                  have k1 := hS2.ck.R k hlt
                  have f1 := hS2.ck.frozen (38 + k)
                  have e1 : rdK l 24 1 true 1 (k + 1) k = { rdK l 24 1 true 1 k k with R := upd (part l 128 2 k) k ((fld l (128 + 2 * k) 2 : Nat) : Int) } := by rw [part_upd]; rfl
                  have e2 : rdK l 24 1 true 1 (k + 1) (k + 1) = { rdK l 24 1 true 1 (k + 1) k with S := upd (part l 152 1 k) k ((fld l (152 + 1 * k) 1 : Nat) : Int) } := by rw [part_upd]; rfl
                  rw [Nat.one_mul, fld_one hl (a := 152 + k) (by rw [HL.out]; omega)] at e2
                  have hS3 : Rsr w (w2.setCell ⟨w.heap.size + 1, 38 + k, none⟩ (.int .i64 (fld l (128 + 2 * k) 2 : Nat))) (rdK l 24 1 true 1 (k + 1) k) := by
                    rw [e1]; exact hS2.set _ _ (hS2.ck.setR k hlt _)
                  have hAr := HA.out.chg hS3.chg (fun e => e)
                  have k3 := hAr.2 (152 + k) (by rw [HL.out]; omega)
                  have k4 := hS3.ck.S k hlt
                  have f4 := hS3.ck.frozen (50 + k)
                  have x5 := hl.getD (152 + k)
                  have hS4 : Rsr w ((w2.setCell ⟨w.heap.size + 1, 38 + k, none⟩ (.int .i64 (fld l (128 + 2 * k) 2 : Nat))).setCell ⟨w.heap.size + 1, 50 + k, none⟩ (.int .i64 (l.getD (152 + k) 0 : Nat))) (rdK l 24 1 true 1 (k + 1) (k + 1)) := by
                    rw [e2]; exact hS3.set _ _ (hS3.ck.setS k hlt _)
                  have HS4 := hyd hS4
                  clear hcall G2 HS hS2 hS3 hAr hS4 e1 e2
                  rw [show le (seg l (128 + 2 * k) 2) = fld l (128 + 2 * k) 2 from rfl]
                  generalize fld l (128 + 2 * k) 2 = x at *
                  generalize l.getD (152 + k) 0 = z at *
                  go_wp2
                  exact ⟨⟨k + 1, by omega, by go_num, HS4.out⟩, by simp [intOf]; omega⟩
                · have e : k = 12 := by omega
                  subst e
                  have hS5 := hS.eq (rdK_all l)
                  have HK1 := hyd hS5.ck
                  have HK0 := hyd hS5.z
                  have HG := hyd hS5.chg
                  clear hS hS5
                  go_wp2_with (first | refine wpList_load_ck rfl (.tmp 4) rfl (w.heap.size + 1) rfl HK1.out ?_ | refine wpList_store_ck rfl (.tmp 2) (.tmp 101) rfl w.heap.size rfl rfl HK0.out ?_)
                  intro w3 T3 G3
                  have HT3 := hyd T3
                  have HG3 : Hid (Chg (fun _ => False) w w3) := hyd (HG.out.trans' G3 (fun i hi ht => by omega))
                  clear T3 G3
                  go_wp2
                  refine bodyPost_ret (results_ck rfl _ rfl HT3.out) rfl ?_
                  exact ⟨rfl, HG3.out⟩
theorem rread_no (w : World) (c o cap : Nat) (l : List Nat) (hl : Bys l) (hL : l.length = 174) (hA : At w c o l) (hd : ¬ Doc l) :
    Calls Try.prog 12 #[.slice (some ⟨c, o, none⟩) 174 cap] w fun e w' => e = .returned (.tuple #[.agg (ckA ck0), .int .i64 3]) ∧ Chg (fun _ => False) w w' := by
  by_cases h1 : l.getD 126 0 ≤ 15
  · by_cases h2 : l.getD 127 0 ≤ 95
    · exact rread_tail w c o cap l hl hL hA h1 h2 hd
    · exact rread_head w c o cap l hl hL hA (Or.inr ⟨h1, by omega⟩)
  · exact rread_head w c o cap l hl hL hA (Or.inl (by omega))
end Go.Proofs.Ytipeldekiloanaa
