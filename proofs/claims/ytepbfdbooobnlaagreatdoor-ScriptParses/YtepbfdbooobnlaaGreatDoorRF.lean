/-
  What the law holds an error against: it is told alike. Condition: the error lies there; the variables hold what they were given.
-/
import Derived.Test.YtepbfdbooobnlaaGreatDoorBZ
namespace Go.Proofs.YtepbfdbooobnlaaGreatDoor
set_option maxRecDepth 100000
open Go.RowKit
theorem bad_cells (w : World) (c n p : Int) :
    (w.alloc (.cells #[.int .i64 c, .int .i64 n, .int .i64 p] 35)).cell? ⟨w.heap.size, 0, none⟩ = some (.int .i64 c) ∧ (w.alloc (.cells #[.int .i64 c, .int .i64 n, .int .i64 p] 35)).cell? ⟨w.heap.size, 1, none⟩ = some (.int .i64 n) ∧ (w.alloc (.cells #[.int .i64 c, .int .i64 n, .int .i64 p] 35)).cell? ⟨w.heap.size, 2, none⟩ = some (.int .i64 p) := by
  have h := heap_new w (.cells #[.int .i64 c, .int .i64 n, .int .i64 p] 35)
  simp only [World.cell?, h]
  exact ⟨rfl, rfl, rfl⟩
set_option maxHeartbeats 1000000 in
theorem refused_nil (w : World) : Calls Tryz.prog 16 #[.nilIface, .agg #[.int .i64 0, .int .i64 0, .int .i64 0]] w fun e w' => e = .returned (.bool true) ∧ Chg (fun _ => False) w w' := by
  have HC := hyd ((Chg.refl (fun _ => False) w).alloc (.cells #[.int .i64 0, .int .i64 0, .int .i64 0] 35))
  obtain ⟨k0, k1, k2⟩ := bad_cells w 0 0 0
  go_enter Tryz.func16, Tryz.ntmps16
  go_wp2_with fail
  go_region_with (go_at_call 25; refine (code_nil _).mono ?_; rintro e w2 ⟨rfl, rfl⟩)
  all_goals (go_wp2; go_ret; first | exact ⟨rfl, HC.out.drew⟩ | exact ⟨rfl, HC.out⟩)
set_option maxHeartbeats 1000000 in
theorem refused_code (c : Nat) (hc : Cd c) (w : World) : Calls Tryz.prog 16 #[.iface 52 (.int .i64 c), .agg #[.int .i64 c, .int .i64 0, .int .i64 0]] w fun e w' => e = .returned (.bool true) ∧ Chg (fun _ => False) w w' := by
  have HC := hyd ((Chg.refl (fun _ => False) w).alloc (.cells #[.int .i64 c, .int .i64 0, .int .i64 0] 35))
  obtain ⟨k0, k1, k2⟩ := bad_cells w c 0 0
  have HD := hyd hc
  clear hc
  go_enter Tryz.func16, Tryz.ntmps16
  go_wp2_with fail
  go_region_with (go_at_call 25; refine (code_any c HD.out _).mono ?_; rintro e w2 ⟨rfl, rfl⟩)
  all_goals (go_wp2; go_ret; first | exact ⟨rfl, HC.out.drew⟩ | exact ⟨rfl, HC.out⟩)
set_option maxHeartbeats 1000000 in
theorem refused_at (h : Nat) (n p : Int) (c : Nat) (hc : Cd c) (hn : n ≠ 0) (w : World) (hG : Gl w) (hf : w.heap[h]? = some (.cells (fcell n p c) 70)) :
    Calls Tryz.prog 16 #[.iface 68 (.pointer (some ⟨h, 0, none⟩)), .agg #[.int .i64 c, .int .i64 n, .int .i64 p]] w fun e w' => e = .returned (.bool true) ∧ Chg (fun _ => False) w w' := by
  have hC := (Chg.refl (fun _ => False) w).alloc (.cells #[.int .i64 c, .int .i64 n, .int .i64 p] 35)
  have HC := hyd hC
  have HG := hyd (hG.alloc (.cells #[.int .i64 c, .int .i64 n, .int .i64 p] 35))
  have HF := hyd ((hC.block h (Array.getElem?_eq_some_iff.1 hf).1 (fun x => x)).trans hf)
  obtain ⟨k0, k1, k2⟩ := bad_cells w c n p
  have HD := hyd hc
  have hnb : (n == 0) = false := by simpa using hn
  clear hc hC hG hf hn
  go_enter Tryz.func16, Tryz.ntmps16
  go_wp2_with (first | (go_at_call 19; refine (isAt_any h n p c HD.out _ HG.out HF.out).mono ?_; rintro e w2 ⟨rfl, hC2⟩; refine Hid.out ?_))
  refine Lib.hid ?_
  have HC2 := hyd (HC.out.trans hC2)
  clear hC2
  go_wp2
  go_ret
  exact ⟨rfl, HC2.out⟩
/-- The document's words and counts. -/
theorem words_v (w : World) : Calls Tryz.prog 32 #[] w fun e w' => e = .returned (.slice (some ⟨w.heap.size, 0, none⟩) 11 11) ∧ w' = w.alloc (.cells (wds.map sy).toArray 9) := by
  go_enter Tryz.func32, Tryz.ntmps32
  go_wp2
  go_ret
  exact ⟨rfl, rfl⟩
theorem counts_v (w : World) : Calls Tryz.prog 33 #[] w fun e w' => e = .returned (.slice (some ⟨w.heap.size, 0, none⟩) 11 11) ∧ w' = w.alloc (.cells #[.int .i64 0, .int .i64 1, .int .i64 2, .int .i64 1, .int .i64 0, .int .i64 0, .int .i64 2, .int .i64 2, .int .i64 1, .int .i64 1, .int .i64 0] 3) := by
  go_enter Tryz.func33, Tryz.ntmps33
  go_wp2
  go_ret
  exact ⟨rfl, rfl⟩
end Go.Proofs.YtepbfdbooobnlaaGreatDoor
