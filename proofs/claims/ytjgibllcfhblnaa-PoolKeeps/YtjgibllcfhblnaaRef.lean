/-
  What the document's pool answers, and the law's own pick and Code. No condition: lemmas.
-/
import Derived.Test.YtjgibllcfhblnaaActs
namespace Go.Proofs.Ytjgibllcfhblnaa
set_option maxRecDepth 100000
open Go.RowKit

theorem build50 (w : World) : (Instr.build 50 #[(1, .int .i64 (-1))]).run Try.prog w = .ok (.agg (ints (upd (fun _ => 0) 12 (-1)) 13).toArray) w := by kernel_rfl
theorem rnew_any (w : World) : Calls Try.prog 8 #[] w fun e w' => e = .returned (.pointer (some ⟨w.heap.size, 0, none⟩)) ∧ IB w' w.heap.size 50 13 (upd (fun _ => 0) 12 (-1)) ∧ Chg (fun _ => False) w w' := by
  have hb := build50
  go_enter Try.func8, Try.ntmps8
  go_wp2
  go_ret
  exact ⟨rfl, IB.new w 50 13 (upd (fun _ => 0) 12 (-1)), (Chg.refl _ w).alloc _⟩
theorem rmod_at (L : Int) (hL : -1 ≤ L) (hL2 : L ≤ 11) (f : Nat) (hf : (f : Int) = (L + 13) % 12) (i : Nat) : (L + ((i : Int) + 1) + 12).tmod 12 = (((f + i) % 12 : Nat) : Int) := by
  rw [Int.tmod_eq_emod_of_nonneg (by omega)]
  omega
theorem rget_yes (w : World) (b : Nat) (F : Nat → Int) (h : IB w b 50 13 F) (n : Nat) (hn : n < 12) : Calls Try.prog 22 #[.pointer (some ⟨b, 0, none⟩), .int .i64 n] w fun e w' => e = .returned (.tuple #[.int .i64 (F n), .int .i64 0]) ∧ w' = w := by
  obtain ⟨c, -⟩ := h.cell n (by omega)
  have h0 : ¬ (n : Int) < 0 := by omega
  have h1 : ¬ 11 < (n : Int) := by omega
  have h2 : (n : Int) < 12 := by omega
  clear h
  go_enter Try.func22, Try.ntmps22
  go_wp2
  go_ret2
  exact ⟨rfl, rfl⟩
theorem rget_no (w : World) (b : Nat) (n : Int) (hn : n < 0 ∨ 12 ≤ n) : Calls Try.prog 22 #[.pointer (some ⟨b, 0, none⟩), .int .i64 n] w fun e w' => e = .returned (.tuple #[.int .i64 0, .int .i64 1]) ∧ w' = w := by
  by_cases h0 : n < 0
  · clear hn
    go_enter Try.func22, Try.ntmps22
    go_wp2
    go_ret2
    exact ⟨rfl, rfl⟩
  · have h1 : 11 < n := by omega
    clear hn
    go_enter Try.func22, Try.ntmps22
    go_wp2
    go_ret2
    exact ⟨rfl, rfl⟩
theorem rset_arg (w : World) (b : Nat) (n s : Int) (hn : (n < 0 ∨ 12 ≤ n) ∨ (s < 0 ∨ 3 < s)) : Calls Try.prog 20 #[.pointer (some ⟨b, 0, none⟩), .int .i64 n, .int .i64 s] w fun e w' => e = .returned (.int .i64 1) ∧ w' = w := by
  by_cases h1 : n < 0
  · clear hn
    go_enter Try.func20, Try.ntmps20
    go_wp2
    go_ret
    exact ⟨rfl, rfl⟩
  by_cases h2 : 11 < n
  · clear hn
    go_enter Try.func20, Try.ntmps20
    go_wp2
    go_ret
    exact ⟨rfl, rfl⟩
  by_cases h3 : s < 0
  · clear hn
    go_enter Try.func20, Try.ntmps20
    go_wp2
    go_ret
    exact ⟨rfl, rfl⟩
  have h4 : 3 < s := by omega
  clear hn
  go_enter Try.func20, Try.ntmps20
  go_wp2
  go_ret
  exact ⟨rfl, rfl⟩
theorem rset_bad (w : World) (b : Nat) (F : Nat → Int) (h : IB w b 50 13 F) (n : Nat) (s : Int) (hn : n < 12) (h0 : 0 ≤ s) (h3 : s ≤ 3) (hF : F n = 3) (hs : s ≠ 3) : Calls Try.prog 20 #[.pointer (some ⟨b, 0, none⟩), .int .i64 n, .int .i64 s] w fun e w' => e = .returned (.int .i64 12) ∧ w' = w := by
  obtain ⟨c, -⟩ := h.cell n (by omega)
  rw [hF] at c
  have h1 : ¬ (n : Int) < 0 := by omega
  have h2 : ¬ 11 < (n : Int) := by omega
  have h2' : (n : Int) < 12 := by omega
  have h4 : ¬ s < 0 := by omega
  have h5 : ¬ 3 < s := by omega
  have hb : (s == 3) = false := by simp [hs]
  clear h hF hn
  go_enter Try.func20, Try.ntmps20
  go_wp2
  go_ret
  exact ⟨rfl, rfl⟩
theorem rset_yes (w : World) (b : Nat) (F : Nat → Int) (h : IB w b 50 13 F) (n : Nat) (s : Int) (hn : n < 12) (h0 : 0 ≤ s) (h3 : s ≤ 3) (hF : ¬ (F n = 3 ∧ s ≠ 3)) : Calls Try.prog 20 #[.pointer (some ⟨b, 0, none⟩), .int .i64 n, .int .i64 s] w fun e w' => e = .returned (.int .i64 0) ∧ IB w' b 50 13 (upd F n s) ∧ Chg (· = b) w w' := by
  obtain ⟨c, f⟩ := h.cell n (by omega)
  have h1 : ¬ (n : Int) < 0 := by omega
  have h2 : ¬ 11 < (n : Int) := by omega
  have h2' : (n : Int) < 12 := by omega
  have h4 : ¬ s < 0 := by omega
  have h5 : ¬ 3 < s := by omega
  have HK := hyd h
  by_cases h6 : F n = 3
  · rw [h6] at c
    have hs : s = 3 := by
      by_cases hs : s = 3
      · exact hs
      · exact absurd ⟨h6, hs⟩ hF
    subst hs
    clear h hF hn h6
    go_enter Try.func20, Try.ntmps20
    go_wp2
    go_ret
    exact ⟨rfl, HK.out.set _ _, (Chg.refl (· = b) _).setCell (Or.inl rfl) _ _⟩
  · have hb : (F n == 3) = false := by simp [h6]
    clear h hF hn h6
    go_enter Try.func20, Try.ntmps20
    go_wp2
    go_ret
    exact ⟨rfl, HK.out.set _ _, (Chg.refl (· = b) _).setCell (Or.inl rfl) _ _⟩
theorem rcount_any (w : World) (b : Nat) (F : Nat → Int) (h : IB w b 50 13 F) (s : Int) : Calls Try.prog 23 #[.pointer (some ⟨b, 0, none⟩), .int .i64 s] w fun e w' => e = .returned (.int .i64 (cnt F s 12 : Nat)) ∧ w' = w := by
  have HK := hyd h
  clear h
  go_enter Try.func23, Try.ntmps23
  go_wp2_with fail
  go_loopg [5, 6] 12 (fun kx s5 s7 wr => ∃ i : Nat, s7 = .int .i64 i ∧ s5 = .int .i64 (cnt F s i : Nat) ∧ i ≤ 12 ∧ 12 - i ≤ kx ∧ wr = w)
  case atStart => exact ⟨0, rfl, rfl, by omega, by omega, rfl⟩
  case round =>
  obtain ⟨i, rfl, rfl, hin, hkx, rfl⟩ := hrel
  by_cases hlt : i < 12
  · have hltz : (i : Int) < 12 := by omega
    obtain ⟨c, f⟩ := HK.out.cell i (by omega)
    have hc := cnt_le F s i
    have HE : Hid (cnt F s (i + 1) = cnt F s i + if F i = s then 1 else 0) := rfl
    by_cases he : F i = s
    · have hb : (F i == s) = true := by simp [he]
      rw [if_pos he] at HE
      clear he
      go_wp2
      go_roundg (12 - (i + 1))
      case measure => omega
      case rel => exact ⟨i + 1, by simp, by rw [HE.out]; simp, by omega, Nat.le_refl _, rfl⟩
    · have hb : (F i == s) = false := by simp [he]
      rw [if_neg he] at HE
      clear he
      go_wp2
      go_roundg (12 - (i + 1))
      case measure => omega
      case rel => exact ⟨i + 1, by simp, by rw [HE.out]; simp, by omega, Nat.le_refl _, rfl⟩
  · have hltz : ¬ (i : Int) < 12 := by omega
    have h12 : i = 12 := by omega
    subst h12
    go_wp2
    go_ret
    exact ⟨rfl, rfl⟩
theorem rworn_any (w : World) (b : Nat) (F : Nat → Int) (h : IB w b 50 13 F) : Calls Try.prog 27 #[.pointer (some ⟨b, 0, none⟩)] w fun e w' => e = .returned (.bool (decide (2 < cnt F 3 12))) ∧ w' = w := by
  have hc := rcount_any w b F h 3
  have HD : Hid (decide (2 < ((cnt F 3 12 : Nat) : Int)) = decide (2 < cnt F 3 12)) := decide_eq_decide.2 (by omega)
  clear h
  go_enter Try.func27, Try.ntmps27
  go_wp2_with (go_at_call 23; refine hc.mono ?_; rintro e w1 ⟨rfl, rfl⟩)
  go_ret
  exact ⟨by rw [← HD.out]; rfl, rfl⟩
theorem rbound_any (w : World) (b : Nat) (F : Nat → Int) (h : IB w b 50 13 F) : Calls Try.prog 24 #[.pointer (some ⟨b, 0, none⟩)] w fun e w' => e = .returned (.int .i64 (bnd F)) ∧ w' = w := by
  have hc := rcount_any w b F h 3
  have HD : Hid (bnd F = if 2 < cnt F 3 12 then 0 else 1 + 2 * (2 - (cnt F 3 12 : Int))) := rfl
  clear h
  generalize cnt F 3 12 = n at *
  have hcase : n = 0 ∨ n = 1 ∨ n = 2 ∨ 2 < n := by omega
  rcases hcase with rfl | rfl | rfl | hn
  · go_enter Try.func24, Try.ntmps24
    go_wp2_with (go_at_call 23; refine hc.mono ?_; rintro e w1 ⟨rfl, rfl⟩)
    go_ret
    exact ⟨by rw [HD.out]; rfl, rfl⟩
  · go_enter Try.func24, Try.ntmps24
    go_wp2_with (go_at_call 23; refine hc.mono ?_; rintro e w1 ⟨rfl, rfl⟩)
    go_ret
    exact ⟨by rw [HD.out]; rfl, rfl⟩
  · go_enter Try.func24, Try.ntmps24
    go_wp2_with (go_at_call 23; refine hc.mono ?_; rintro e w1 ⟨rfl, rfl⟩)
    go_ret
    exact ⟨by rw [HD.out]; rfl, rfl⟩
  · have n0 : ((n : Int) == 0) = false := by simp only [beq_eq_false_iff_ne]; omega
    have n1 : ((n : Int) == 1) = false := by simp only [beq_eq_false_iff_ne]; omega
    have n2 : ((n : Int) == 2) = false := by simp only [beq_eq_false_iff_ne]; omega
    rw [if_pos hn] at HD
    clear hn
    go_enter Try.func24, Try.ntmps24
    go_wp2_with (go_at_call 23; refine hc.mono ?_; rintro e w1 ⟨rfl, rfl⟩)
    go_ret
    exact ⟨by rw [HD.out]; rfl, rfl⟩
theorem rspare_any (w : World) (b : Nat) (F : Nat → Int) (h : IB w b 50 13 F) : Calls Try.prog 26 #[.pointer (some ⟨b, 0, none⟩)] w fun e w' => e = .returned (.bool (decide (bnd F < (cnt F 0 12 : Nat)))) ∧ w' = w := by
  have hc := rcount_any w b F h 0
  have hw := rbound_any w b F h
  clear h
  go_enter Try.func26, Try.ntmps26
  go_wp2_with (first | (go_at_call 23; refine hc.mono ?_; rintro e w1 ⟨rfl, rfl⟩) | (go_at_call 24; refine hw.mono ?_; rintro e w1 ⟨rfl, rfl⟩))
  go_ret
  exact ⟨rfl, rfl⟩
theorem rtake_yes (w : World) (b : Nat) (F : Nat → Int) (h : IB w b 50 13 F) (L : Int) (hL : -1 ≤ L) (hL2 : L ≤ 11) (f : Nat) (hf : (f : Int) = (L + 13) % 12) (h12 : F 12 = L) (j : Nat) (hj : j < 12) (m : Nat) (hmj : m = (f + j) % 12) (hF : F m = 0) (hno : ∀ i, i < j → F ((f + i) % 12) ≠ 0) : Calls Try.prog 21 #[.pointer (some ⟨b, 0, none⟩)] w fun e w' =>
    e = .returned (.tuple #[.int .i64 m, .int .i64 0]) ∧ IB w' b 50 13 (upd (upd F m 1) 12 (m : Nat)) ∧ Chg (· = b) w w' := by
  have HK := hyd h
  have HN := hyd hno
  obtain ⟨c12, f12⟩ := h.cell 12 (by omega)
  rw [h12] at c12
  have HM := hyd hmj
  have HF := hyd hf
  clear h hno h12 hmj hf
  go_enter Try.func21, Try.ntmps21
  go_wp2_with fail
  go_loopg [4] 12 (fun kx s6 wr => ∃ i : Nat, s6 = .int .i64 ((i : Int) + 1) ∧ i ≤ j ∧ 12 - i ≤ kx ∧ wr = w)
  case atStart => exact ⟨0, rfl, by omega, by omega, rfl⟩
  case round =>
  obtain ⟨i, rfl, hin, hkx, rfl⟩ := hrel
  have hltz : (i : Int) + 1 ≤ 12 := by omega
  have hm := rmod_at L hL hL2 f HF.out i
  have hml : (f + i) % 12 < 12 := Nat.mod_lt _ (by omega)
  obtain ⟨c, fz⟩ := HK.out.cell ((f + i) % 12) (by omega)
  by_cases hlt : i < j
  · have hb : (F ((f + i) % 12) == 0) = false := by simp [HN.out i hlt]
    go_wp2
    go_roundg (12 - (i + 1))
    case measure => omega
    case rel => exact ⟨i + 1, by simp, by omega, Nat.le_refl _, rfl⟩
  · have hij : i = j := by omega
    subst hij
    rw [← HM.out] at c hm hml fz
    rw [hF] at c
    have hm3 : (m : Int) < 12 := by omega
    clear hlt hin
    have HK1 := hyd (HK.out.set m 1)
    obtain ⟨-, g12⟩ := HK1.out.cell 12 (by omega)
    go_wp2
    go_ret2
    refine ⟨rfl, ?_, ?_⟩
    · exact HK1.out.set 12 _
    · exact ((Chg.refl (· = b) _).setCell (Or.inl rfl) _ _).setCell (Or.inl rfl) _ _
theorem rtake_no (w : World) (b : Nat) (F : Nat → Int) (h : IB w b 50 13 F) (L : Int) (hL : -1 ≤ L) (hL2 : L ≤ 11) (h12 : F 12 = L) (hno : ∀ i, i < 12 → F i ≠ 0) : Calls Try.prog 21 #[.pointer (some ⟨b, 0, none⟩)] w fun e w' => e = .returned (.tuple #[.int .i64 0, .int .i64 10]) ∧ w' = w := by
  have HK := hyd h
  have HN := hyd hno
  obtain ⟨c12, f12⟩ := h.cell 12 (by omega)
  rw [h12] at c12
  clear h hno h12
  obtain ⟨f, hf⟩ : ∃ f : Nat, Hid ((f : Int) = (L + 13) % 12) := ⟨((L + 13) % 12).toNat, by show _ = _; omega⟩
  go_enter Try.func21, Try.ntmps21
  go_wp2_with fail
  go_loopg [4] 12 (fun kx s6 wr => ∃ i : Nat, s6 = .int .i64 ((i : Int) + 1) ∧ i ≤ 12 ∧ 12 - i ≤ kx ∧ wr = w)
  case atStart => exact ⟨0, rfl, by omega, by omega, rfl⟩
  case round =>
  obtain ⟨i, rfl, hin, hkx, rfl⟩ := hrel
  by_cases hlt : i < 12
  · have hltz : (i : Int) + 1 ≤ 12 := by omega
    have hm := rmod_at L hL hL2 f hf.out i
    have hml : (f + i) % 12 < 12 := Nat.mod_lt _ (by omega)
    obtain ⟨c, fz⟩ := HK.out.cell ((f + i) % 12) (by omega)
    have hb : (F ((f + i) % 12) == 0) = false := by simp [HN.out _ hml]
    go_wp2
    go_roundg (12 - (i + 1))
    case measure => omega
    case rel => exact ⟨i + 1, by simp, by omega, Nat.le_refl _, rfl⟩
  · have hltz : ¬ (i : Int) + 1 ≤ 12 := by omega
    go_wp2
    go_ret2
    exact ⟨rfl, rfl⟩
set_option maxHeartbeats 2000000 in
theorem pick_any (z : Int) (h1 : -9223372036854775808 ≤ z) (h2 : z ≤ 9223372036854775807) (n : Nat) (hn : 0 < n) (hn2 : n < 100) (w : World) :
    Calls Try.prog 13 #[.int .i64 z, .int .i64 n] w fun e w' => (∃ q : Nat, q < n ∧ e = .returned (.int .i64 q)) ∧ w' = w := by
  have hne : ((n : Int) == 0) = false := by simp only [beq_eq_false_iff_ne]; omega
  have hne2 : ¬ (n : Int) = 0 := by omega
  have hnm : ¬ (n : Int) = -1 := by omega
  by_cases hz : z < 0
  · obtain ⟨q, hq⟩ : ∃ q : Nat, (-(z + 1)).tmod (n : Int) = (q : Int) ∧ q < n := ⟨((-(z + 1)).tmod (n : Int)).toNat, by
      rw [Int.tmod_eq_emod_of_nonneg (by omega)]
      have a1 := Int.emod_nonneg (-(z + 1)) (b := (n : Int)) (by omega)
      have a2 := Int.emod_lt_of_pos (-(z + 1)) (b := (n : Int)) (by omega)
      omega⟩
    have hq1 := hq.1
    have HQ := hyd hq.2
    clear hq
    go_enter Try.func13, Try.ntmps13
    go_wp2
    go_ret
    exact ⟨⟨q, HQ.out, rfl⟩, rfl⟩
  · obtain ⟨q, hq⟩ : ∃ q : Nat, z.tmod (n : Int) = (q : Int) ∧ q < n := ⟨(z.tmod (n : Int)).toNat, by
      rw [Int.tmod_eq_emod_of_nonneg (by omega)]
      have a1 := Int.emod_nonneg z (b := (n : Int)) (by omega)
      have a2 := Int.emod_lt_of_pos z (b := (n : Int)) (by omega)
      omega⟩
    have hq1 := hq.1
    have HQ := hyd hq.2
    clear hq
    go_enter Try.func13, Try.ntmps13
    go_wp2
    go_ret
    exact ⟨⟨q, HQ.out, rfl⟩, rfl⟩
theorem eql_nil (w : World) : (binOp .eql 38 .nilIface .nilIface).run Try.prog w = .ok (.bool true) w := by kernel_rfl
theorem neq_nil (w : World) : (binOp .neq 38 .nilIface .nilIface).run Try.prog w = .ok (.bool false) w := by kernel_rfl
theorem eql_c_nil (w : World) (n : Int) : (binOp .eql 38 (.iface 56 (.int .i64 n)) .nilIface).run Try.prog w = .ok (.bool false) w := by kernel_rfl
theorem neq_c_nil (w : World) (n : Int) : (binOp .neq 38 (.iface 56 (.int .i64 n)) .nilIface).run Try.prog w = .ok (.bool true) w := by kernel_rfl
theorem eql_1_1 (w : World) : (binOp .eql 38 (.iface 56 (.int .i64 1)) (.iface 56 (.int .i64 1))).run Try.prog w = .ok (.bool true) w := by kernel_rfl
theorem eql_10_1 (w : World) : (binOp .eql 38 (.iface 56 (.int .i64 10)) (.iface 56 (.int .i64 1))).run Try.prog w = .ok (.bool false) w := by kernel_rfl
theorem eql_10_2 (w : World) : (binOp .eql 38 (.iface 56 (.int .i64 10)) (.iface 56 (.int .i64 2))).run Try.prog w = .ok (.bool false) w := by kernel_rfl
theorem eql_10_3 (w : World) : (binOp .eql 38 (.iface 56 (.int .i64 10)) (.iface 56 (.int .i64 3))).run Try.prog w = .ok (.bool false) w := by kernel_rfl
theorem eql_10_4 (w : World) : (binOp .eql 38 (.iface 56 (.int .i64 10)) (.iface 56 (.int .i64 4))).run Try.prog w = .ok (.bool false) w := by kernel_rfl
theorem eql_10_5 (w : World) : (binOp .eql 38 (.iface 56 (.int .i64 10)) (.iface 56 (.int .i64 5))).run Try.prog w = .ok (.bool false) w := by kernel_rfl
theorem eql_10_6 (w : World) : (binOp .eql 38 (.iface 56 (.int .i64 10)) (.iface 56 (.int .i64 6))).run Try.prog w = .ok (.bool false) w := by kernel_rfl
theorem eql_10_7 (w : World) : (binOp .eql 38 (.iface 56 (.int .i64 10)) (.iface 56 (.int .i64 7))).run Try.prog w = .ok (.bool false) w := by kernel_rfl
theorem eql_10_8 (w : World) : (binOp .eql 38 (.iface 56 (.int .i64 10)) (.iface 56 (.int .i64 8))).run Try.prog w = .ok (.bool false) w := by kernel_rfl
theorem eql_10_9 (w : World) : (binOp .eql 38 (.iface 56 (.int .i64 10)) (.iface 56 (.int .i64 9))).run Try.prog w = .ok (.bool false) w := by kernel_rfl
theorem eql_10_10 (w : World) : (binOp .eql 38 (.iface 56 (.int .i64 10)) (.iface 56 (.int .i64 10))).run Try.prog w = .ok (.bool true) w := by kernel_rfl
theorem eql_12_1 (w : World) : (binOp .eql 38 (.iface 56 (.int .i64 12)) (.iface 56 (.int .i64 1))).run Try.prog w = .ok (.bool false) w := by kernel_rfl
theorem eql_12_2 (w : World) : (binOp .eql 38 (.iface 56 (.int .i64 12)) (.iface 56 (.int .i64 2))).run Try.prog w = .ok (.bool false) w := by kernel_rfl
theorem eql_12_3 (w : World) : (binOp .eql 38 (.iface 56 (.int .i64 12)) (.iface 56 (.int .i64 3))).run Try.prog w = .ok (.bool false) w := by kernel_rfl
theorem eql_12_4 (w : World) : (binOp .eql 38 (.iface 56 (.int .i64 12)) (.iface 56 (.int .i64 4))).run Try.prog w = .ok (.bool false) w := by kernel_rfl
theorem eql_12_5 (w : World) : (binOp .eql 38 (.iface 56 (.int .i64 12)) (.iface 56 (.int .i64 5))).run Try.prog w = .ok (.bool false) w := by kernel_rfl
theorem eql_12_6 (w : World) : (binOp .eql 38 (.iface 56 (.int .i64 12)) (.iface 56 (.int .i64 6))).run Try.prog w = .ok (.bool false) w := by kernel_rfl
theorem eql_12_7 (w : World) : (binOp .eql 38 (.iface 56 (.int .i64 12)) (.iface 56 (.int .i64 7))).run Try.prog w = .ok (.bool false) w := by kernel_rfl
theorem eql_12_8 (w : World) : (binOp .eql 38 (.iface 56 (.int .i64 12)) (.iface 56 (.int .i64 8))).run Try.prog w = .ok (.bool false) w := by kernel_rfl
theorem eql_12_9 (w : World) : (binOp .eql 38 (.iface 56 (.int .i64 12)) (.iface 56 (.int .i64 9))).run Try.prog w = .ok (.bool false) w := by kernel_rfl
theorem eql_12_10 (w : World) : (binOp .eql 38 (.iface 56 (.int .i64 12)) (.iface 56 (.int .i64 10))).run Try.prog w = .ok (.bool false) w := by kernel_rfl
theorem eql_12_11 (w : World) : (binOp .eql 38 (.iface 56 (.int .i64 12)) (.iface 56 (.int .i64 11))).run Try.prog w = .ok (.bool false) w := by kernel_rfl
theorem eql_12_12 (w : World) : (binOp .eql 38 (.iface 56 (.int .i64 12)) (.iface 56 (.int .i64 12))).run Try.prog w = .ok (.bool true) w := by kernel_rfl
theorem code_nil (w : World) : Calls Try.prog 19 #[.nilIface] w fun e w' => e = .returned (.int .i64 0) ∧ w' = w := by
  have q := eql_nil
  go_enter Try.func19, Try.ntmps19
  go_wp2
  go_ret
  exact ⟨rfl, rfl⟩
theorem code_1 (w : World) : Calls Try.prog 19 #[.iface 56 (.int .i64 1)] w fun e w' => e = .returned (.int .i64 1) ∧ w' = w := by
  have q := eql_c_nil
  have q' := eql_1_1
  go_enter Try.func19, Try.ntmps19
  go_wp2
  go_ret
  exact ⟨rfl, rfl⟩
theorem code_10 (w : World) : Calls Try.prog 19 #[.iface 56 (.int .i64 10)] w fun e w' => e = .returned (.int .i64 10) ∧ w' = w := by
  have q := eql_c_nil
  have q1 := eql_10_1
  have q2 := eql_10_2
  have q3 := eql_10_3
  have q4 := eql_10_4
  have q5 := eql_10_5
  have q6 := eql_10_6
  have q7 := eql_10_7
  have q8 := eql_10_8
  have q9 := eql_10_9
  have q10 := eql_10_10
  go_enter Try.func19, Try.ntmps19
  go_wp2
  go_ret
  exact ⟨rfl, rfl⟩
theorem further_12 (w : World) : Calls Try.prog 30 #[.iface 56 (.int .i64 12)] w fun e w' => e = .returned (.int .i64 12) ∧ w' = w := by
  have q12 := eql_12_12
  go_enter Try.func30, Try.ntmps30
  go_wp2
  go_ret
  exact ⟨rfl, rfl⟩
theorem code_12 (w : World) : Calls Try.prog 19 #[.iface 56 (.int .i64 12)] w fun e w' => e = .returned (.int .i64 12) ∧ w' = w := by
  have q := eql_c_nil
  have q1 := eql_12_1
  have q2 := eql_12_2
  have q3 := eql_12_3
  have q4 := eql_12_4
  have q5 := eql_12_5
  have q6 := eql_12_6
  have q7 := eql_12_7
  have q8 := eql_12_8
  have q9 := eql_12_9
  have q10 := eql_12_10
  have q11 := eql_12_11
  go_enter Try.func19, Try.ntmps19
  go_wp2_with (go_at_call 30; refine (further_12 _).mono ?_; rintro e w1 ⟨rfl, rfl⟩)
  go_ret
  exact ⟨rfl, rfl⟩
end Go.Proofs.Ytjgibllcfhblnaa
