/-
  What is known of a chip: Reads, Failed, Damage, Truth; Read. Condition: the block holds a chip that can be.
-/
import Derived.Test.YtfjgnplplafniaaDoes
namespace Go.Proofs.Ytfjgnplplafniaa
open Go.RowKit
set_option maxRecDepth 100000

theorem failed_yes (g : Nat) (s : Chp) (b : Nat) (hb : b < 12) (w : World) (h : ChipAt w g s) :
    Calls Try.prog 67 #[.pointer (some ⟨g, 0, none⟩), .int .i64 b] w fun e w' => e = .returned (.tuple #[.bool (s.bl b).failed, .nilIface]) ∧ Chg (fun _ => False) w w' := by
  have hb0 : (0 : Int) ≤ (b : Int) := by omega
  have hb1 : (b : Int) < 12 := by omega
  have c1 := Sto.cell h (49920 + 4 * b) (by omega)
  rw [blc0 hb, show 49920 + 4 * b = 49920 + b * 4 from by omega] at c1
  go_enter Try.func67, Try.ntmps67
  go_wp2_with fail
  refine (below_yes (b : Int) 12 hb0 hb1 _).mono ?_
  rintro e w' ⟨rfl, rfl⟩
  go_wp2
  all_goals
    go_ret2
    exact ⟨rfl, (Chg.refl _ _)⟩
theorem failed_no (g : Nat) (b : Int) (hb : b < 0 ∨ 12 ≤ b) (w : World) :
    Calls Try.prog 67 #[.pointer (some ⟨g, 0, none⟩), .int .i64 b] w fun e w' => e = .returned (.tuple #[.bool false, errV 1]) ∧ Chg (fun _ => False) w w' := by
  go_enter Try.func67, Try.ntmps67
  go_wp2_with fail
  refine (below_no b 12 hb _).mono ?_
  rintro e w' ⟨rfl, rfl⟩
  go_wp2
  all_goals
    go_ret2
    exact ⟨rfl, (Chg.refl _ _)⟩
theorem reads_yes (g : Nat) (s : Chp) (b : Nat) (hb : b < 12) (w : World) (h : ChipAt w g s) :
    Calls Try.prog 65 #[.pointer (some ⟨g, 0, none⟩), .int .i64 b] w fun e w' => e = .returned (.tuple #[.int .i64 (s.bl b).reads, .nilIface]) ∧ Chg (fun _ => False) w w' := by
  have hb0 : (0 : Int) ≤ (b : Int) := by omega
  have hb1 : (b : Int) < 12 := by omega
  have c1 := Sto.cell h (49968 + b) (by omega)
  rw [ccell_reads s b hb] at c1
  go_enter Try.func65, Try.ntmps65
  go_wp2_with fail
  refine (below_yes (b : Int) 12 hb0 hb1 _).mono ?_
  rintro e w' ⟨rfl, rfl⟩
  go_wp2_with fail
  refine (load_any g (49968 + b) _ c1).mono ?_
  rintro e w' ⟨rfl, rfl⟩
  go_wp2
  all_goals
    go_ret2
    exact ⟨rfl, (Chg.refl _ _)⟩
theorem reads_no (g : Nat) (b : Int) (hb : b < 0 ∨ 12 ≤ b) (w : World) :
    Calls Try.prog 65 #[.pointer (some ⟨g, 0, none⟩), .int .i64 b] w fun e w' => e = .returned (.tuple #[.int .i64 0, errV 1]) ∧ Chg (fun _ => False) w w' := by
  go_enter Try.func65, Try.ntmps65
  go_wp2_with fail
  refine (below_no b 12 hb _).mono ?_
  rintro e w' ⟨rfl, rfl⟩
  go_wp2
  all_goals
    go_ret2
    exact ⟨rfl, (Chg.refl _ _)⟩
theorem damage_no (g : Nat) (a k : Int) (h : a < 0 ∨ 96 ≤ a ∨ k < 0 ∨ 4 ≤ k) (w : World) :
    Calls Try.prog 23 #[.pointer (some ⟨g, 0, none⟩), .int .i64 a, .int .i64 k] w fun e w' => e = .returned (.tuple #[.int .i64 0, .int .i64 0, errV 1]) ∧ Chg (fun _ => False) w w' := by
  go_enter Try.func23, Try.ntmps23
  go_wp2_with fail
  refine (isChunk_no a k h _).mono ?_
  rintro e w' ⟨rfl, rfl⟩
  go_wp2
  all_goals
    go_ret3
    exact ⟨rfl, (Chg.refl _ _)⟩
theorem truth_no (g : Nat) (a k : Int) (h : a < 0 ∨ 96 ≤ a ∨ k < 0 ∨ 4 ≤ k) (w : World) :
    Calls Try.prog 14 #[.pointer (some ⟨g, 0, none⟩), .int .i64 a, .int .i64 k] w fun e w' => e = .returned (.tuple #[.slice none 0 0, .bool false, errV 1]) ∧ Chg (fun _ => False) w w' := by
  go_enter Try.func14, Try.ntmps14
  go_wp2_with fail
  refine (isChunk_no a k h _).mono ?_
  rintro e w' ⟨rfl, rfl⟩
  go_wp2
  all_goals
    go_ret3
    exact ⟨rfl, (Chg.refl _ _)⟩
set_option maxHeartbeats 1000000 in
theorem damage_yes (g : Nat) (s : Chp) (hs : s.Ok) (a k : Nat) (ha : a < 96) (hk : k < 4) (w : World) (h : ChipAt w g s) :
    Calls Try.prog 23 #[.pointer (some ⟨g, 0, none⟩), .int .i64 a, .int .i64 k] w fun e w' => e = .returned (.tuple #[.int .i64 (dmg (s.ch (4 * a + k)) : Nat), .int .i64 (s.ch (4 * a + k)).worst, .nilIface]) ∧ Chg (fun _ => False) w w' := by
  have ha0 : (0 : Int) ≤ a := by omega
  have ha1 : (a : Int) < 96 := by omega
  have hk0 : (0 : Int) ≤ k := by omega
  have hk1 : (k : Int) < 4 := by omega
  have hS := ccell_ch s hs (4 * a + k) (by omega)
  have hK := hs.ch (4 * a + k)
  have c1 := Sto.cell h (130 * (4 * a + k) + 129) (by omega)
  rw [ckc_worst hK.now hK.tru hS] at c1
  generalize s.ch (4 * a + k) = x at *
  rw [show 130 * (4 * a + k) = a * 520 + k * 130 from by omega] at c1 hS
  have HH := hyd h
  clear h hs
  go_enter Try.func23, Try.ntmps23
  go_wp2_with fail
  refine (isChunk_yes a k ha0 ha1 hk0 hk1 _).mono ?_
  rintro e w' ⟨rfl, rfl⟩
  go_wp2_with fail
  go_region_with (go_at_call 54; refine (damage_any g (a * 520 + k * 130) 73 49984 _ (by omega) x hK hS _ ?_).mono ?_; (exact HH.out); rintro e w' ⟨rfl, rfl⟩)
  all_goals
    go_wp2
    go_ret3
    exact ⟨rfl, (Chg.refl _ _).drew⟩
end Go.Proofs.Ytfjgnplplafniaa
