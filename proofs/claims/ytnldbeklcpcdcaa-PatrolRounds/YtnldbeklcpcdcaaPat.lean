/-
  What patrol's and its document's New, Step, Cursor, Calls, Due and Noted answer. No condition: lemmas.
-/
import Derived.Test.YtnldbeklcpcdcaaPick
import Derived.Maps.AppendAt
namespace Go.Proofs.Ytnldbeklcpcdcaa
set_option maxRecDepth 100000
open Go.RowKit

theorem below_yes (w : World) (n m : Int) (h : 0 ≤ n ∧ n < m) : Calls Try.prog 27 #[.int .i64 n, .int .i64 m] w fun e w' => e = .returned (.bool true) ∧ w' = w := by
  obtain ⟨h0, h1⟩ := h
  go_enter Try.func27, Try.ntmps27
  go_wp2
  go_ret
  exact ⟨rfl, rfl⟩
theorem below_no (w : World) (n m : Int) (h : n < 0 ∨ m ≤ n) : Calls Try.prog 27 #[.int .i64 n, .int .i64 m] w fun e w' => e = .returned (.bool false) ∧ w' = w := by
  by_cases h0 : 0 ≤ n
  · have h1 : ¬ n < m := by omega
    clear h
    go_enter Try.func27, Try.ntmps27
    go_wp2
    go_ret
    exact ⟨rfl, rfl⟩
  · clear h
    go_enter Try.func27, Try.ntmps27
    go_wp2
    go_ret
    exact ⟨rfl, rfl⟩
theorem parts_in (w : World) (p : Int) (h : 0 ≤ p ∧ p < 96) : Calls Try.prog 23 #[.int .i64 p] w fun e w' => e = .returned (.tuple #[.int .i64 (p / 8), .int .i64 (p % 8), .nilIface]) ∧ w' = w := by
  obtain ⟨h0, h1⟩ := h
  go_enter Try.func23, Try.ntmps23
  go_wp2_with fail
  refine (below_yes w p 96 ⟨h0, h1⟩).mono ?_
  rintro e w1 ⟨rfl, rfl⟩
  go_wp2
  go_ret3
  exact ⟨rfl, rfl⟩
theorem parts_out (w : World) (p : Int) (h : p < 0 ∨ 96 ≤ p) : Calls Try.prog 23 #[.int .i64 p] w fun e w' => e = .returned (.tuple #[.int .i64 0, .int .i64 0, .iface 32 (.int .i64 1)]) ∧ w' = w := by
  go_enter Try.func23, Try.ntmps23
  go_wp2_with fail
  refine (below_no w p 96 h).mono ?_
  rintro e w1 ⟨rfl, rfl⟩
  go_wp2
  go_ret3
  exact ⟨rfl, rfl⟩
theorem on_1 (w : World) (c d : Nat) (h : c < 96) (hd : d = (c + 1) % 96) : Calls Try.prog 24 #[.int .i64 c, .int .i64 1] w fun e w' => e = .returned (.tuple #[.int .i64 d, .nilIface]) ∧ w' = w := by
  have h0 : (0 : Int) ≤ c := by omega
  have h1 : (c : Int) < 96 := by omega
  have HD : Hid (((c : Int) + 1 + 96) % 96 = (d : Int)) := by show _ = _; omega
  clear h hd
  go_enter Try.func24, Try.ntmps24
  go_wp2_with fail
  refine (below_yes w c 96 ⟨h0, h1⟩).mono ?_
  rintro e w1 ⟨rfl, rfl⟩
  go_wp2
  go_ret2
  rw [← HD.out]
  exact ⟨rfl, rfl⟩
/-- Two numbers. -/
def pr (c k : Nat) : Nat → Int := fun i => if i = 0 then (c : Int) else (k : Int)
/-- Block b holds a patrol, laid out as type t: its cursor, its calls. -/
def PB (w : World) (b : Nat) (t : TypeId) (c k : Nat) : Prop := IB w b t 2 (pr c k)
section
variable {w w' : World} {b c k : Nat} {t : TypeId}
theorem PB.lt (h : PB w b t c k) : b < w.heap.size := IB.lt h
theorem PB.chg {S : Nat → Prop} (h : PB w b t c k) (hc : Chg S w w') (hb : ¬ S b) : PB w' b t c k := IB.chg h hc hb
theorem PB.c0 (h : PB w b t c k) : w.cell? ⟨b, 0, none⟩ = some (.int .i64 c) ∧ w.frozen? ⟨b, 0, none⟩ = false := IB.cell h 0 (by omega)
theorem PB.c1 (h : PB w b t c k) : w.cell? ⟨b, 1, none⟩ = some (.int .i64 k) ∧ w.frozen? ⟨b, 1, none⟩ = false := IB.cell h 1 (by omega)
theorem PB.set0 (h : PB w b t c k) (d : Nat) : PB (w.setCell ⟨b, 0, none⟩ (.int .i64 d)) b t d k := by
  refine (IB.set h 0 (d : Int)).congr fun i _ => ?_
  unfold upd pr
  split <;> rfl
theorem PB.set1 (h : PB w b t c k) (d : Nat) : PB (w.setCell ⟨b, 1, none⟩ (.int .i64 d)) b t c d := by
  refine (IB.set h 1 (d : Int)).congr fun i hi => ?_
  unfold upd pr
  by_cases e : i = 0
  · subst e; rfl
  · rw [if_neg e, if_pos (by omega), if_neg e]
theorem PB.new (w : World) (t : TypeId) (c k : Nat) : PB (w.alloc (.cells #[.int .i64 c, .int .i64 k] t)) w.heap.size t c k := IB.new w t 2 (pr c k)
end
theorem new_yes (w : World) (c : Nat) (hc : c < 96) : Calls Try.prog 7 #[.int .i64 c] w fun e w' => e = .returned (.tuple #[.pointer (some ⟨w.heap.size, 0, none⟩), .nilIface]) ∧ PB w' w.heap.size 62 c 0 ∧ Chg (fun _ => False) w w' := by
  have hp := parts_in w c (by omega)
  have q := neq_nil
  have HK := hyd (PB.new w 62 c 0)
  have HG : Hid (Chg (fun _ => False) w (w.alloc (.cells #[.int .i64 c, .int .i64 (0 : Nat)] 62))) := (Chg.refl _ w).alloc _
  go_enter Try.func7, Try.ntmps7
  go_wp2_with fail
  refine hp.mono ?_
  rintro e w1 ⟨rfl, rfl⟩
  clear hp hc
  go_wp2
  go_ret2
  exact ⟨rfl, HK.out, HG.out⟩
theorem new_no (w : World) (z : Int) (h : z < 0 ∨ 96 ≤ z) : Calls Try.prog 7 #[.int .i64 z] w fun e w' => e = .returned (.tuple #[.pointer none, .iface 32 (.int .i64 1)]) ∧ w' = w := by
  have hp := parts_out w z h
  have q := neq_c_nil
  go_enter Try.func7, Try.ntmps7
  go_wp2_with fail
  refine hp.mono ?_
  rintro e w1 ⟨rfl, rfl⟩
  clear hp h
  go_wp2
  go_ret2
  exact ⟨rfl, rfl⟩
theorem rnew_yes (w : World) (c : Nat) (hc : c < 96) : Calls Try.prog 8 #[.int .i64 c] w fun e w' => e = .returned (.tuple #[.pointer (some ⟨w.heap.size, 0, none⟩), .bool true]) ∧ PB w' w.heap.size 37 c 0 ∧ Chg (fun _ => False) w w' := by
  have h0 : ¬ (c : Int) < 0 := by omega
  have h1 : ¬ (c : Int) > 95 := by omega
  have HK := hyd (PB.new w 37 c 0)
  have HG : Hid (Chg (fun _ => False) w (w.alloc (.cells #[.int .i64 c, .int .i64 (0 : Nat)] 37))) := (Chg.refl _ w).alloc _
  clear hc
  go_enter Try.func8, Try.ntmps8
  go_wp2
  go_ret2
  exact ⟨rfl, HK.out, HG.out⟩
theorem rnew_no (w : World) (z : Int) (h : z < 0 ∨ 96 ≤ z) : Calls Try.prog 8 #[.int .i64 z] w fun e w' => e = .returned (.tuple #[.pointer none, .bool false]) ∧ w' = w := by
  by_cases h0 : z < 0
  · clear h
    go_enter Try.func8, Try.ntmps8
    go_wp2
    go_ret2
    exact ⟨rfl, rfl⟩
  · have h1 : z > 95 := by omega
    clear h
    go_enter Try.func8, Try.ntmps8
    go_wp2
    go_ret2
    exact ⟨rfl, rfl⟩
theorem cursor_any (w : World) (b c k : Nat) (h : PB w b 62 c k) : Calls Try.prog 14 #[.pointer (some ⟨b, 0, none⟩)] w fun e w' => e = .returned (.int .i64 c) ∧ w' = w := by
  obtain ⟨c0, -⟩ := h.c0
  clear h
  go_enter Try.func14, Try.ntmps14
  go_wp2
  go_ret
  exact ⟨rfl, rfl⟩
theorem calls_any (w : World) (b c k : Nat) (h : PB w b 62 c k) : Calls Try.prog 15 #[.pointer (some ⟨b, 0, none⟩)] w fun e w' => e = .returned (.int .i64 k) ∧ w' = w := by
  obtain ⟨c1, -⟩ := h.c1
  clear h
  go_enter Try.func15, Try.ntmps15
  go_wp2
  go_ret
  exact ⟨rfl, rfl⟩
theorem due_any (w : World) (b c k : Nat) (h : PB w b 62 c k) : Calls Try.prog 16 #[.pointer (some ⟨b, 0, none⟩)] w fun e w' => e = .returned (.bool (decide ((k : Int) ≥ 8))) ∧ w' = w := by
  obtain ⟨c1, -⟩ := h.c1
  clear h
  go_enter Try.func16, Try.ntmps16
  go_wp2
  go_ret
  exact ⟨rfl, rfl⟩
theorem noted_any (w : World) (b c k : Nat) (h : PB w b 62 c k) : Calls Try.prog 13 #[.pointer (some ⟨b, 0, none⟩)] w fun e w' => e = .returned (.tuple #[]) ∧ PB w' b 62 c 0 ∧ Chg (· = b) w w' := by
  obtain ⟨c1, f1⟩ := h.c1
  have HK := hyd (h.set1 0)
  have HG : Hid (Chg (· = b) w (w.setCell ⟨b, 1, none⟩ (.int .i64 0))) := (Chg.refl (· = b) w).setCell (Or.inl rfl) _ _
  clear h
  go_enter Try.func13, Try.ntmps13
  go_wp2
  go_end0
  exact ⟨rfl, HK.out, HG.out⟩
/-- The places of a Step. -/
def plc (c : Nat) : Nat → Int := fun j => ((c + j) % 96 : Nat)
theorem make8 (w : World) : (Instr.makeSlice 22 (.int .i64 8) (.int .i64 8)).run Try.prog w = .ok (.slice (some ⟨w.heap.size, 0, none⟩) 8 8) (w.alloc (.cells (ints (fun _ => 0) 8).toArray 3)) := by kernel_rfl
theorem step_v (w : World) (b c k : Nat) (h : PB w b 62 c k) (hc : c < 96) (hk : k < 9223372036854775807) (d : Nat) (hd : d = (c + 8) % 96) : Calls Try.prog 10 #[.pointer (some ⟨b, 0, none⟩)] w fun e w' => e = .returned (.slice (some ⟨w.heap.size, 0, none⟩) 8 8) ∧ IB w' w.heap.size 3 8 (plc c) ∧ PB w' b 62 d (k + 1) ∧ Chg (· = b) w w' := by
  have hm := make8
  have hkz : (k : Int) < 9223372036854775807 := by omega
  have HC := hyd hc
  have HD := hyd hd
  have HK0 := hyd (IB.new w 3 8 (fun _ => 0))
  have HG0 : Hid (Chg (· = b) w (w.alloc (.cells (ints (fun _ => 0) 8).toArray 3))) := (Chg.refl _ w).alloc _
  have HP0 := hyd (h.chg ((Chg.refl (fun _ => False) w).alloc (.cells (ints (fun _ => 0) 8).toArray 3)) (fun f => f))
  have hne : b ≠ w.heap.size := Nat.ne_of_lt h.lt
  clear h hc hd hk
  go_enter Try.func10, Try.ntmps10
  go_wp2_with fail
  generalize w.alloc (.cells (ints (fun _ => 0) 8).toArray 3) = w0 at *
  generalize HB : w.heap.size = s at *
  have HB := hyd HB
  clear hm
  go_loopg [8] 8 (fun kx s8 wr => ∃ i : Nat, s8 = .int .i64 i ∧ i ≤ 8 ∧ 8 - i ≤ kx ∧ Hid (IB wr s 3 8 (fun j => if j < i then plc c j else 0)) ∧ Hid (PB wr b 62 ((c + i) % 96) k) ∧ Hid (Chg (· = b) w wr))
  case atStart => exact ⟨0, rfl, by omega, by omega, HK0.out.congr fun j _ => by rw [if_neg (by omega)], by show PB _ _ _ _ _; rw [Nat.add_zero, Nat.mod_eq_of_lt HC.out]; exact HP0.out, HG0⟩
  case round =>
  obtain ⟨i, rfl, hin, hkx, HI, HP, HG⟩ := hrel
  clear HK0 HG0 HP0
  by_cases hlt : i < 8
  · have hltz : (i : Int) < 8 := by omega
    obtain ⟨ci, fi⟩ := HI.out.cell i hlt
    obtain ⟨c0, f0⟩ := HP.out.c0
    have P1 := HP.out.chg ((Chg.refl (· = s) wr).setCell (Or.inl rfl) i (.int .i64 (((c + i) % 96 : Nat) : Int))) hne
    obtain ⟨d0, g0⟩ := P1.c0
    have HI1 := hyd (HI.out.set i (((c + i) % 96 : Nat) : Int))
    have HP1 := hyd P1
    have HG1 : Hid (Chg (· = b) w (wr.setCell ⟨s, i, none⟩ (.int .i64 (((c + i) % 96 : Nat) : Int)))) := HG.out.setCell (Or.inr (by rw [HB.out]; exact Nat.le_refl _)) _ _
    have hon := fun wx => on_1 wx ((c + i) % 96) ((c + (i + 1)) % 96) (Nat.mod_lt _ (by decide)) (by omega)
    have HE : Hid (plc c i = (((c + i) % 96 : Nat) : Int)) := rfl
    clear P1 HI HP HG
    generalize (c + i) % 96 = m at *
    generalize HM : (c + (i + 1)) % 96 = m' at *
    have HM := hyd HM
    go_wp2_with fail
    refine (hon _).mono ?_
    rintro e w1 ⟨rfl, rfl⟩
    have HI2 := hyd (HI1.out.chg ((Chg.refl (· = b) _).setCell (Or.inl rfl) 0 (.int .i64 m')) hne.symm)
    have HP2 := hyd (HP1.out.set0 m')
    have HG2 := hyd (HG1.out.setCell (Or.inl rfl) 0 (.int .i64 m'))
    clear HI1 HP1 HG1 hon
    go_wp2
    go_roundg (8 - (i + 1))
    case measure => omega
    case rel =>
      refine ⟨i + 1, by simp, by omega, Nat.le_refl _, ?_, by show PB _ _ _ _ _; rw [HM.out]; exact HP2.out, HG2⟩
      refine HI2.out.congr fun j _ => ?_
      unfold upd
      by_cases e : j = i
      · subst e; rw [if_pos rfl, if_pos (by omega), HE.out]
      · rw [if_neg e]
        show (if j < i then plc c j else 0) = _
        by_cases e2 : j < i
        · rw [if_pos e2, if_pos (by omega)]
        · rw [if_neg e2, if_neg (by omega)]
  · have hltz : ¬ (i : Int) < 8 := by omega
    have h8 : i = 8 := by omega
    subst h8
    have HI2 : Hid (IB wr s 3 8 (plc c)) := HI.out.congr fun j hj => by rw [if_pos hj]
    have P2 := HP.out
    rw [← HD.out] at P2
    obtain ⟨c1, f1⟩ := P2.c1
    have HI3 := hyd (HI2.out.chg ((Chg.refl (· = b) _).setCell (Or.inl rfl) 1 (.int .i64 (k + 1))) hne.symm)
    have HP3 := hyd (P2.set1 (k + 1))
    have HG3 := hyd (HG.out.setCell (Or.inl rfl) 1 (.int .i64 (k + 1)))
    clear P2 HI HP HG HI2 HD
    go_wp2
    go_ret
    exact ⟨rfl, HI3.out, HP3.out, HG3.out⟩
end Go.Proofs.Ytnldbeklcpcdcaa
