/-
  What pool's States, Set, Take, Bound, Spare and Worn answer. No condition: lemmas.
-/
import Derived.Test.YtjgibllcfhblnaaPool
namespace Go.Proofs.Ytjgibllcfhblnaa
set_option maxRecDepth 100000
open Go.RowKit

theorem size3 : (Try.prog.info? 3).map (·.size) = some 1 := by kernel_rfl
theorem addr_at (g o j : Nat) : (⟨g, o, none⟩ : Addr).add j = ⟨g, o + j, none⟩ := by unfold Addr.add; split <;> simp_all
theorem mod_at (f i : Nat) : ((f : Int) + (i : Int)).tmod 12 = (((f + i) % 12 : Nat) : Int) := by
  rw [Int.tmod_eq_emod_of_nonneg (by omega)]
  omega
/-- The bound. -/
def bnd (F : Nat → Int) : Int := if 2 < cnt F 3 12 then 0 else 1 + 2 * (2 - (cnt F 3 12 : Int))
theorem set_arg (w : World) (b : Nat) (n s : Int) (hn : (n < 0 ∨ 12 ≤ n) ∨ (s < 0 ∨ 3 < s)) : Calls Try.prog 14 #[.pointer (some ⟨b, 0, none⟩), .int .i64 n, .int .i64 s] w fun e w' => e = .returned (.iface 56 (.int .i64 1)) ∧ w' = w := by
  by_cases h1 : n < 0 ∨ 12 ≤ n
  · clear hn
    go_enter Try.func14, Try.ntmps14
    go_wp2_with (first | (go_at_call 28; refine (block_no _ _ h1).mono ?_; rintro e w1 ⟨rfl, rfl⟩))
    go_ret
    exact ⟨rfl, rfl⟩
  · have h2 : s < 0 ∨ 3 < s := by omega
    have h3 : 0 ≤ n := by omega
    have h4 : n < 12 := by omega
    clear hn h1
    go_enter Try.func14, Try.ntmps14
    go_wp2_with (first | (go_at_call 28; refine (block_yes _ _ h3 h4).mono ?_; rintro e w1 ⟨rfl, rfl⟩) | (go_at_call 29; refine (state_no _ _ h2).mono ?_; rintro e w1 ⟨rfl, rfl⟩))
    go_ret
    exact ⟨rfl, rfl⟩
theorem set_bad (w : World) (b : Nat) (F : Nat → Int) (h : IB w b 48 13 F) (n : Nat) (s : Int) (hn : n < 12) (h0 : 0 ≤ s) (h3 : s ≤ 3) (hF : F n = 3) (hs : s ≠ 3) : Calls Try.prog 14 #[.pointer (some ⟨b, 0, none⟩), .int .i64 n, .int .i64 s] w fun e w' => e = .returned (.iface 56 (.int .i64 12)) ∧ w' = w := by
  obtain ⟨c, -⟩ := h.cell n (by omega)
  rw [hF] at c
  have h1 : (n : Int) < 12 := by omega
  have hb : (s == 3) = false := by simp [hs]
  clear h hF hn
  go_enter Try.func14, Try.ntmps14
  go_wp2_with (first | (go_at_call 28; refine (block_yes _ _ (by omega) h1).mono ?_; rintro e w1 ⟨rfl, rfl⟩) | (go_at_call 29; refine (state_yes _ _ h0 h3).mono ?_; rintro e w1 ⟨rfl, rfl⟩))
  go_ret
  exact ⟨rfl, rfl⟩
theorem set_yes (w : World) (b : Nat) (F : Nat → Int) (h : IB w b 48 13 F) (n : Nat) (s : Int) (hn : n < 12) (h0 : 0 ≤ s) (h3 : s ≤ 3) (hF : ¬ (F n = 3 ∧ s ≠ 3)) : Calls Try.prog 14 #[.pointer (some ⟨b, 0, none⟩), .int .i64 n, .int .i64 s] w fun e w' => e = .returned .nilIface ∧ IB w' b 48 13 (upd F n s) ∧ Chg (· = b) w w' := by
  obtain ⟨c, f⟩ := h.cell n (by omega)
  have h1 : (n : Int) < 12 := by omega
  have HK := hyd h
  by_cases h2 : F n = 3
  · rw [h2] at c
    have hs : s = 3 := by
      by_cases hs : s = 3
      · exact hs
      · exact absurd ⟨h2, hs⟩ hF
    subst hs
    clear h hF hn h2
    go_enter Try.func14, Try.ntmps14
    go_wp2_with (first | (go_at_call 28; refine (block_yes _ _ (by omega) h1).mono ?_; rintro e w1 ⟨rfl, rfl⟩) | (go_at_call 29; refine (state_yes _ _ (by omega) (by omega)).mono ?_; rintro e w1 ⟨rfl, rfl⟩))
    go_ret
    exact ⟨rfl, HK.out.set _ _, (Chg.refl (· = b) _).setCell (Or.inl rfl) _ _⟩
  · have hb : (F n == 3) = false := by simp [h2]
    clear h hF hn h2
    go_enter Try.func14, Try.ntmps14
    go_wp2_with (first | (go_at_call 28; refine (block_yes _ _ (by omega) h1).mono ?_; rintro e w1 ⟨rfl, rfl⟩) | (go_at_call 29; refine (state_yes _ _ h0 h3).mono ?_; rintro e w1 ⟨rfl, rfl⟩))
    go_ret
    exact ⟨rfl, HK.out.set _ _, (Chg.refl (· = b) _).setCell (Or.inl rfl) _ _⟩
theorem states_any (w : World) (b : Nat) (F : Nat → Int) (h : IB w b 48 13 F) : Calls Try.prog 11 #[.pointer (some ⟨b, 0, none⟩)] w fun e w' => e = .returned (.slice (some ⟨w.heap.size, 0, none⟩) 12 12) ∧ IB w' w.heap.size 3 12 F ∧ Chg (fun _ => False) w w' := by
  have hm := make12
  have HB : Hid (b < w.heap.size) := h.lt
  have HK0 := hyd (IB.new w 3 12 (fun _ => 0))
  have HG0 : Hid (Chg (fun _ => False) w (w.alloc (.cells (ints (fun _ => 0) 12).toArray 3))) := (Chg.refl _ w).alloc _
  have HK := hyd (h.chg HG0.out (fun f => f))
  clear h
  go_enter Try.func11, Try.ntmps11
  go_wp2_with (refine wpList_copy_own rfl (.tmp 5) (.tmp 9) 33 33 rfl 3 Try.underlying33 size3 w.heap.size 0 12 12 ⟨b, 0, none⟩ 12 12 rfl rfl (ints (fun _ => 0) 12).toArray 3 HK0.out (ints F 12) (by rw [ints_length]; rfl) (fun j v hv => by rw [addr_at, Nat.zero_add, (HK.out.cell j (by have := (List.getElem?_eq_some_iff.1 hv).1; rw [ints_length] at this; omega)).1, ← hv, ints_at _ _ _ (by have := (List.getElem?_eq_some_iff.1 hv).1; rw [ints_length] at this; omega)]; rfl) (by simp [ints_length]) (ints_one F 12) ?_)
  go_ret
  have e1 : (ints F 12 ++ List.drop (ints F 12).length (ints (fun _ => 0) 12)).toArray = (ints F 12).toArray := by
    rw [ints_length, List.drop_of_length_le (by simp [ints_length]), List.append_nil]
  rw [e1]
  exact ⟨rfl, HK0.out.row F, HG0.out.trans' (chg_row _ _ _) (fun i hi e => by omega)⟩
theorem worn_any (w : World) (b : Nat) (F : Nat → Int) (h : IB w b 48 13 F) : Calls Try.prog 18 #[.pointer (some ⟨b, 0, none⟩)] w fun e w' => e = .returned (.bool (decide (2 < cnt F 3 12))) ∧ w' = w := by
  have hc := count_any w b F h 3
  have HD : Hid (decide (2 < ((cnt F 3 12 : Nat) : Int)) = decide (2 < cnt F 3 12)) := decide_eq_decide.2 (by omega)
  clear h
  go_enter Try.func18, Try.ntmps18
  go_wp2_with (go_at_call 17; refine hc.mono ?_; rintro e w1 ⟨rfl, rfl⟩)
  go_ret
  exact ⟨by rw [← HD.out]; rfl, rfl⟩
theorem bound_any (w : World) (b : Nat) (F : Nat → Int) (h : IB w b 48 13 F) : Calls Try.prog 12 #[.pointer (some ⟨b, 0, none⟩)] w fun e w' => e = .returned (.int .i64 (bnd F)) ∧ w' = w := by
  have hc := count_any w b F h 3
  have hw := worn_any w b F h
  have hl := cnt_le F 3 12
  clear h
  by_cases hx : 2 < cnt F 3 12
  · have HD : Hid (bnd F = 0) := by show _ = _; unfold bnd; rw [if_pos hx]
    rw [decide_eq_true hx] at hw
    clear hx hc
    go_enter Try.func12, Try.ntmps12
    go_wp2_with (go_at_call 18; refine hw.mono ?_; rintro e w1 ⟨rfl, rfl⟩)
    go_ret
    exact ⟨by rw [HD.out]; rfl, rfl⟩
  · have HD : Hid (bnd F = 1 + 2 * (2 - (cnt F 3 12 : Int))) := by show _ = _; unfold bnd; rw [if_neg hx]
    rw [decide_eq_false hx] at hw
    clear hx
    go_enter Try.func12, Try.ntmps12
    go_wp2_with (first | (go_at_call 18; refine hw.mono ?_; rintro e w1 ⟨rfl, rfl⟩) | (go_at_call 17; refine hc.mono ?_; rintro e w1 ⟨rfl, rfl⟩))
    go_ret
    exact ⟨by rw [HD.out]; rfl, rfl⟩
theorem spare_any (w : World) (b : Nat) (F : Nat → Int) (h : IB w b 48 13 F) : Calls Try.prog 25 #[.pointer (some ⟨b, 0, none⟩)] w fun e w' => e = .returned (.bool (decide (bnd F < (cnt F 0 12 : Nat)))) ∧ w' = w := by
  have hc := count_any w b F h 0
  have hw := bound_any w b F h
  clear h
  go_enter Try.func25, Try.ntmps25
  go_wp2_with (first | (go_at_call 17; refine hc.mono ?_; rintro e w1 ⟨rfl, rfl⟩) | (go_at_call 12; refine hw.mono ?_; rintro e w1 ⟨rfl, rfl⟩))
  go_ret
  exact ⟨rfl, rfl⟩
theorem take_yes (w : World) (b : Nat) (F : Nat → Int) (h : IB w b 48 13 F) (f : Nat) (hf : f < 12) (h12 : F 12 = f) (j : Nat) (hj : j < 12) (m : Nat) (hmj : m = (f + j) % 12) (hF : F m = 0) (hno : ∀ i, i < j → F ((f + i) % 12) ≠ 0) : Calls Try.prog 15 #[.pointer (some ⟨b, 0, none⟩)] w fun e w' =>
    e = .returned (.tuple #[.int .i64 m, .nilIface]) ∧ IB w' b 48 13 (upd (upd F m 1) 12 ((m + 1) % 12 : Nat)) ∧ Chg (· = b) w w' := by
  have HK := hyd h
  have HN := hyd hno
  obtain ⟨c12, f12⟩ := h.cell 12 (by omega)
  rw [h12] at c12
  have HM := hyd hmj
  clear h hno h12 hmj
  go_enter Try.func15, Try.ntmps15
  go_wp2_with fail
  go_loopg [6] 12 (fun kx s6 wr => ∃ i : Nat, s6 = .int .i64 i ∧ i ≤ j ∧ 12 - i ≤ kx ∧ wr = w)
  case atStart => exact ⟨0, rfl, by omega, by omega, rfl⟩
  case round =>
  obtain ⟨i, rfl, hin, hkx, rfl⟩ := hrel
  have hltz : (i : Int) < 12 := by omega
  have hm := mod_at f i
  have hml : (f + i) % 12 < 12 := Nat.mod_lt _ (by omega)
  obtain ⟨c, fz⟩ := HK.out.cell ((f + i) % 12) (by omega)
  by_cases hlt : i < j
  · have hb : (F ((f + i) % 12) == 0) = false := by simp [HN.out i hlt]
    go_wp2
    go_roundg (12 - (i + 1))
    case measure => omega
    case rel => exact ⟨i + 1, by simp, by omega, Nat.le_refl _, rfl⟩
  · have hij : i = j := by omega
    subst hij
    rw [← HM.out] at c hm hml fz
    rw [hF] at c
    have hm2 := mod_at m 1
    have hcast : ((m : Int) + 1).tmod 12 = (((m + 1) % 12 : Nat) : Int) := hm2
    have hm3 : (m : Int) < 12 := by omega
    clear hm2 hlt hin
    have HK1 := hyd (HK.out.set m 1)
    obtain ⟨-, g12⟩ := HK1.out.cell 12 (by omega)
    go_wp2
    go_ret2
    refine ⟨rfl, ?_, ?_⟩
    · exact HK1.out.set 12 _
    · exact ((Chg.refl (· = b) _).setCell (Or.inl rfl) _ _).setCell (Or.inl rfl) _ _
theorem take_no (w : World) (b : Nat) (F : Nat → Int) (h : IB w b 48 13 F) (f : Nat) (hf : f < 12) (h12 : F 12 = f) (hno : ∀ i, i < 12 → F i ≠ 0) : Calls Try.prog 15 #[.pointer (some ⟨b, 0, none⟩)] w fun e w' => e = .returned (.tuple #[.int .i64 0, .iface 56 (.int .i64 10)]) ∧ w' = w := by
  have HK := hyd h
  have HN := hyd hno
  obtain ⟨c12, f12⟩ := h.cell 12 (by omega)
  rw [h12] at c12
  clear h hno h12
  go_enter Try.func15, Try.ntmps15
  go_wp2_with fail
  go_loopg [6] 12 (fun kx s6 wr => ∃ i : Nat, s6 = .int .i64 i ∧ i ≤ 12 ∧ 12 - i ≤ kx ∧ wr = w)
  case atStart => exact ⟨0, rfl, by omega, by omega, rfl⟩
  case round =>
  obtain ⟨i, rfl, hin, hkx, rfl⟩ := hrel
  by_cases hlt : i < 12
  · have hltz : (i : Int) < 12 := by omega
    have hm := mod_at f i
    have hml : (f + i) % 12 < 12 := Nat.mod_lt _ (by omega)
    obtain ⟨c, fz⟩ := HK.out.cell ((f + i) % 12) (by omega)
    have hb : (F ((f + i) % 12) == 0) = false := by simp [HN.out _ hml]
    go_wp2
    go_roundg (12 - (i + 1))
    case measure => omega
    case rel => exact ⟨i + 1, by simp, by omega, Nat.le_refl _, rfl⟩
  · have hltz : ¬ (i : Int) < 12 := by omega
    go_wp2
    go_ret2
    exact ⟨rfl, rfl⟩
end Go.Proofs.Ytjgibllcfhblnaa
