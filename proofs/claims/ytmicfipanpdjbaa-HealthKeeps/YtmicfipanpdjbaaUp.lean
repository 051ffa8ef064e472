/-
  The document's example. No condition: lemmas.
-/
import Derived.Test.YtmicfipanpdjbaaOwn
namespace Go.Proofs.Ytmicfipanpdjbaa
set_option maxRecDepth 100000
open Go.RowKit

def upV : Nat → Int := upd (fun _ => 0) 0 511
def upU : Nat → Int := upd (fun _ => 0) 0 2
theorem okLim {V U : Nat → Int} (h1 : okL 12 V = true) (h2 : okL 12 U = true) : Okh (lim 65535 V) (lim 65535 V) (lim 255 U) := fun j hj => by
  have a1 := ((okL_iff _ _).1 h1).2 j hj
  have a2 := ((okL_iff _ _).1 h2).2 j hj
  simp only [lim]
  omega
theorem eql_ptr (w : World) (b : Nat) : (binOp .eql 25 (.pointer (some ⟨b, 0, none⟩)) (.pointer none)).run Try.prog w = .ok (.bool false) w := by kernel_rfl
set_option maxHeartbeats 4000000 in
theorem up_any (w : World) : Calls Try.prog 5 #[] w fun e w' => e = .returned (.bool true) ∧ Chg (fun _ => False) w w' := by
  have hm := make12
  have e1 : ((ints (fun _ => 0) 12).set 0 (.int .i64 511)).toArray = (ints upV 12).toArray := by
    have h := ints_set (fun _ => 0) 12 0 511
    simp only [i6] at h
    rw [h]
    rfl
  have e2 : ((ints (fun _ => 0) 12).set 0 (.int .i64 2)).toArray = (ints upU 12).toArray := by
    have h := ints_set (fun _ => 0) 12 0 2
    simp only [i6] at h
    rw [h]
    rfl
  obtain ⟨w1, HW⟩ : ∃ w1, Hid (w1 = (w.alloc (.cells (ints upV 12).toArray 3)).alloc (.cells (ints upU 12).toArray 3)) := ⟨_, rfl⟩
  have HG1 : Hid (Chg (fun _ => False) w w1) := by rw [HW.out]; exact ((Chg.refl _ w).alloc _).alloc _
  have HV1 : Hid (Lies w1 (some ⟨w.heap.size, 0, none⟩) 12 upV) := by rw [HW.out]; exact ((IB.new w 3 12 upV).chg ((Chg.refl (fun _ => False) _).alloc _) (fun f => f)).lies
  have HU1 : Hid (Lies w1 (some ⟨w.heap.size + 1, 0, none⟩) 12 upU) := by
    rw [HW.out]
    have := (IB.new (w.alloc (.cells (ints upV 12).toArray 3)) 3 12 upU).lies
    rw [show (w.alloc (.cells (ints upV 12).toArray 3)).heap.size = w.heap.size + 1 by simp] at this
    exact this
  have E1 := hyd e1
  have E2 := hyd e2
  clear e1 e2
  go_enter Try.func5, Try.ntmps5
  go_wp2_with fail
  rw [E1.out, E2.out, ← HW.out]
  clear hm E1 E2 HW
  refine (new_yes w1 _ _ 12 12 12 12 upV upU HV1.out HU1.out (by decide) (by decide)).mono ?_
  rintro e w2 ⟨rfl, K2, G2⟩
  obtain ⟨b, HBE⟩ : ∃ b, Hid (b = w1.heap.size) := ⟨_, rfl⟩
  rw [← HBE.out] at K2
  rw [← HBE.out]
  have HLB := hyd (show w.heap.size ≤ b by rw [HBE.out]; exact HG1.out.size)
  have HK2 := hyd K2
  have HG2 := hyd (HG1.out.trans G2)
  have HOK := hyd (okLim (V := upV) (U := upU) (by decide) (by decide))
  clear K2 G2 HG1 HV1 HU1 HBE
  have q := neq_nil
  go_wp2_with fail
  refine (tired_v w2 b _ _ _ HK2.out HOK.out 0).mono ?_
  rintro e w3 ⟨rfl, rfl⟩
  rw [show much 512 (lim 65535 upV) 0 = false by decide, show errV (blC 0) = .nilIface by rfl]
  go_wp2_with fail
  refine (read_v w3 b _ _ _ HK2.out HOK.out 0).mono ?_
  rintro e w4 ⟨rfl, K4, G4⟩
  have HK4 := hyd K4
  have HG4 := hyd (HG2.out.trans' G4 (fun k hk e => by have := HLB.out; omega))
  have HOK4 := hyd (HOK.out.more1 0)
  clear K4 G4 HK2 HG2 HOK
  rw [show errV (blC 0) = .nilIface by rfl]
  go_wp2_with fail
  refine (tired_v w4 b _ _ _ HK4.out HOK4.out 0).mono ?_
  rintro e w5 ⟨rfl, rfl⟩
  rw [show much 512 (more 65535 (lim 65535 upV) 0) 0 = true by decide, show errV (blC 0) = .nilIface by rfl]
  go_wp2_with fail
  refine (weak_v w5 b _ _ _ HK4.out HOK4.out 0).mono ?_
  rintro e w6 ⟨rfl, rfl⟩
  rw [show much 3 (lim 255 upU) 0 = false by decide, show errV (blC 0) = .nilIface by rfl]
  go_wp2_with fail
  refine (report_v w6 b _ _ _ HK4.out HOK4.out 0).mono ?_
  rintro e w7 ⟨rfl, K7, G7⟩
  have HK7 := hyd K7
  have HG7 := hyd (HG4.out.trans' G7 (fun k hk e => by have := HLB.out; omega))
  have HOK7 := hyd (HOK4.out.more3 0)
  clear K7 G7 HK4 HG4 HOK4
  rw [show errV (blC 0) = .nilIface by rfl]
  go_wp2_with fail
  refine (weak_v w7 b _ _ _ HK7.out HOK7.out 0).mono ?_
  rintro e w8 ⟨rfl, rfl⟩
  rw [show much 3 (more 255 (lim 255 upU) 0) 0 = true by decide, show errV (blC 0) = .nilIface by rfl]
  clear HK7 HOK7 HLB q
  have q := eql_nil
  go_wp2
  go_ret
  exact ⟨rfl, HG7.out⟩
end Go.Proofs.Ytmicfipanpdjbaa
