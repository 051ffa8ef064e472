/-
  The document's example. No condition: lemmas.
-/
import Derived.Test.YthpfofbheahlmaaGc
namespace Go.Proofs.Ythpfofbheahlmaa
set_option maxRecDepth 100000
open Go.RowKit

theorem make12 (w : World) : (Instr.makeSlice 22 (.int .i64 12) (.int .i64 12)).run Try.prog w = .ok (.slice (some ⟨w.heap.size, 0, none⟩) 12 12) (w.alloc (.cells (ints (fun _ => 0) 12).toArray 3)) := by kernel_rfl
def upS : Nat → Int := upd (upd (upd (fun _ => 0) 0 2) 1 2) 2 1
def upL : Nat → Int := upd (upd (fun _ => 0) 0 3) 1 1
theorem up_any (w : World) : Calls Try.prog 5 #[] w fun e w' => e = .returned (.bool true) ∧ Chg (fun _ => False) w w' := by
  have hm := make12
  have e1 : ((((ints (fun _ => 0) 12).set 0 (.int .i64 2)).set 1 (.int .i64 2)).set 2 (.int .i64 1)).toArray = (ints upS 12).toArray := by
    have h := ints_set (fun _ => 0) 12 0 2
    have h' := ints_set (upd (fun _ => 0) 0 2) 12 1 2
    have h'' := ints_set (upd (upd (fun _ => 0) 0 2) 1 2) 12 2 1
    simp only [i6] at h h' h''
    rw [h, h', h'']
    rfl
  have e2 : (((ints (fun _ => 0) 12).set 0 (.int .i64 3)).set 1 (.int .i64 1)).toArray = (ints upL 12).toArray := by
    have h := ints_set (fun _ => 0) 12 0 3
    have h' := ints_set (upd (fun _ => 0) 0 3) 12 1 1
    simp only [i6] at h h'
    rw [h, h']
    rfl
  obtain ⟨w1, HW⟩ : ∃ w1, Hid (w1 = (w.alloc (.cells (ints upS 12).toArray 3)).alloc (.cells (ints upL 12).toArray 3)) := ⟨_, rfl⟩
  have HG1 : Hid (Chg (fun _ => False) w w1) := by rw [HW.out]; exact ((Chg.refl _ w).alloc _).alloc _
  have HS1 : Hid (Lies w1 (some ⟨w.heap.size, 0, none⟩) 12 upS) := by rw [HW.out]; exact ((IB.new w 3 12 upS).chg ((Chg.refl (fun _ => False) _).alloc _) (fun f => f)).lies
  have HL1 : Hid (Lies w1 (some ⟨w.heap.size + 1, 0, none⟩) 12 upL) := by
    rw [HW.out]
    have := (IB.new (w.alloc (.cells (ints upS 12).toArray 3)) 3 12 upL).lies
    rw [show (w.alloc (.cells (ints upS 12).toArray 3)).heap.size = w.heap.size + 1 by simp] at this
    exact this
  have E1 := hyd e1
  have E2 := hyd e2
  clear e1 e2
  go_enter Try.func5, Try.ntmps5
  go_wp2_with fail
  rw [E1.out, E2.out, ← HW.out]
  clear hm E1 E2 HW
  refine (choose_v w1 _ _ 12 12 12 12 upS upL HS1.out HL1.out).mono ?_
  rintro e w2 ⟨rfl, m, rfl⟩
  rw [show chV 12 12 upS upL = 1 by decide, show errV (chC 12 12 upS upL) = .nilIface by rw [show chC 12 12 upS upL = 0 by decide]; rfl]
  go_wp2_with fail
  refine (gain_v (w1.drewN m) _ _ 12 12 12 12 upS upL (HS1.out.drewN m) (HL1.out.drewN m)).mono ?_
  rintro e w2 ⟨rfl, m2, rfl⟩
  rw [show gnV 12 12 upS upL = 5 by decide, show errV (chC 12 12 upS upL) = .nilIface by rw [show chC 12 12 upS upL = 0 by decide]; rfl]
  have HG2 := hyd ((HG1.out.drewN m).drewN m2)
  have q := eql_nil
  clear HS1 HL1 HG1
  generalize (w1.drewN m).drewN m2 = w3 at *
  go_wp2
  go_ret
  exact ⟨rfl, HG2.out⟩
end Go.Proofs.Ythpfofbheahlmaa
