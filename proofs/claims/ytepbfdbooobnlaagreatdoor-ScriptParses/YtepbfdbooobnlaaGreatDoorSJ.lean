/-
  Code and Is of patinalaw00: that a fault is the one at its place. Condition: the fault lies in memory.
-/
import Derived.Test.YtepbfdbooobnlaaGreatDoorSI
namespace Go.Proofs.YtepbfdbooobnlaaGreatDoor
set_option maxRecDepth 100000
open Go.RowKit Go.Extern.Stop Go.Stop Go.Extern
/-- The codes that are told here. -/
def Cd (c : Nat) : Prop := c = 2 ∨ c = 3 ∨ c = 16 ∨ c = 17 ∨ c = 18 ∨ c = 19
theorem code_nil (w : World) : Calls Tryz.prog 25 #[.nilIface] w fun e w' => e = .returned (.int .i64 0) ∧ w' = w := by
  go_enter Tryz.func25, Tryz.ntmps25
  go_wp2
  go_ret
  exact ⟨rfl, rfl⟩
set_option maxHeartbeats 2000000 in
theorem further_any (c : Nat) (hc : c = 16 ∨ c = 17 ∨ c = 18 ∨ c = 19) (w : World) : Calls Tryz.prog 45 #[.iface 52 (.int .i64 c)] w fun e w' => e = .returned (.int .i64 c) ∧ w' = w := by
  have heq := eql_codes
  rcases hc with rfl | rfl | rfl | rfl <;> (
    go_enter Tryz.func45, Tryz.ntmps45
    go_wp2
    go_ret
    exact ⟨rfl, rfl⟩)
set_option maxHeartbeats 2000000 in
theorem code_any (c : Nat) (hc : Cd c) (w : World) : Calls Tryz.prog 25 #[.iface 52 (.int .i64 c)] w fun e w' => e = .returned (.int .i64 c) ∧ w' = w := by
  have heq := eql_codes
  rcases hc with rfl | rfl | hc
  · go_enter Tryz.func25, Tryz.ntmps25
    go_wp2
    go_ret
    exact ⟨rfl, rfl⟩
  · go_enter Tryz.func25, Tryz.ntmps25
    go_wp2
    go_ret
    exact ⟨rfl, rfl⟩
  · have hf := further_any c hc
    have hq : ∀ k : Int, k ≤ 11 → decide ((c : Int) = k) = false := fun k hk => by rw [decide_eq_false_iff_not]; omega
    have h1 := hq 1 (by omega)
    have h2 := hq 2 (by omega)
    have h3 := hq 3 (by omega)
    have h4 := hq 4 (by omega)
    have h5 := hq 5 (by omega)
    have h6 := hq 6 (by omega)
    have h7 := hq 7 (by omega)
    have h8 := hq 8 (by omega)
    have h9 := hq 9 (by omega)
    have h10 := hq 10 (by omega)
    have h11 := hq 11 (by omega)
    have he : ∀ (k : Int) (w : World), k ≤ 11 → (binOp .eql 31 (.iface 52 (.int .i64 c)) (.iface 52 (.int .i64 k))).run Tryz.prog w = .ok (.bool false) w := fun k w hk => by rw [eql_codes, hq k hk]
    have e1 := fun w => he 1 w (by omega)
    have e2 := fun w => he 2 w (by omega)
    have e3 := fun w => he 3 w (by omega)
    have e4 := fun w => he 4 w (by omega)
    have e5 := fun w => he 5 w (by omega)
    have e6 := fun w => he 6 w (by omega)
    have e7 := fun w => he 7 w (by omega)
    have e8 := fun w => he 8 w (by omega)
    have e9 := fun w => he 9 w (by omega)
    have e10 := fun w => he 10 w (by omega)
    have e11 := fun w => he 11 w (by omega)
    clear heq hq he h1 h2 h3 h4 h5 h6 h7 h8 h9 h10 h11 hc
    go_enter Tryz.func25, Tryz.ntmps25
    go_wp2_with (first | (go_at_call 45; refine (hf _).mono ?_; rintro e w2 ⟨rfl, rfl⟩))
    go_ret
    exact ⟨rfl, rfl⟩
theorem info68 : ∃ i, Tryz.prog.info? 68 = some i ∧ i.comparable = true := by
  have h : (Tryz.prog.info? 68).map (·.comparable) = some true := by kernel_rfl
  cases e : Tryz.prog.info? 68 with
  | none => rw [e] at h; cases h
  | some i => rw [e] at h; exact ⟨i, rfl, by simpa using h⟩
theorem info70 : ∃ i, Tryz.prog.info? 70 = some i := by
  have h : (Tryz.prog.info? 70).isSome = true := by kernel_rfl
  exact Option.isSome_iff_exists.1 h
theorem neq_same (a : Addr) (w : World) : (binOp .neq 31 (.iface 68 (.pointer (some a))) (.iface 68 (.pointer (some a)))).run Tryz.prog w = .ok (.bool false) w := by
  obtain ⟨i, hi, hc⟩ := info68
  obtain ⟨j, hj⟩ := info70
  have h : ∀ d : Nat, (Op.equalIn (d + 2) 31 (.iface 68 (.pointer (some a))) (.iface 68 (.pointer (some a)))).run Tryz.prog w = .ok true w := fun d => by
    simp [Op.equalIn, run_underlying Tryz.underlying31, run_underlying Tryz.underlying68, typeInfo, hi, hc, sizeOf, hj, run_sameAddr_same]
  simp only [binOp]
  simp [Op.equal, Op.maxDepth, h 9998]
/-- Behind errors.As. -/
theorem as_v (e t : Nat) (w : World) (hG : Gl w) (ht : w.heap[t]? = some (.cells #[.pointer none] 68)) :
    Calls Tryz.prog 35 #[.iface 68 (.pointer (some ⟨e, 0, none⟩)), .iface 81 (.pointer (some ⟨t, 0, none⟩))] w fun ev w' => ev = .returned (.bool true) ∧ w'.heap[t]? = some (.cells #[.pointer (some ⟨e, 0, none⟩)] 68) ∧ Chg (· = t) w w' := by
  have c0 : w.cell? ⟨t, 0, none⟩ = some (.pointer none) := by simp [World.cell?, ht]
  have z0 : w.frozen? ⟨t, 0, none⟩ = false := by simp [World.frozen?, ht]
  refine (as_hit ⟨e, 0, none⟩ ⟨t, 0, none⟩ (.pointer none) w hG.et c0 z0).mono ?_
  rintro ev w' ⟨rfl, rfl⟩
  have hlt : t < w.heap.size := (Array.getElem?_eq_some_iff.1 ht).1
  have hc := ((((Chg.refl (· = t) w).alloc (.cells #[.pointer (some ⟨t, 0, none⟩)] 81)).alloc (.cells #[.pointer (some ⟨10, 81, none⟩), .pointer (some ⟨w.heap.size, 0, none⟩), .int .u64 150] 100)).alloc (.cells #[.pointer (some ⟨10, 81, none⟩), .pointer (some ⟨w.heap.size, 0, none⟩), .int .u64 150] 100)).alloc (.cells #[.pointer (some ⟨e, 0, none⟩)] 68)
  have hd := ((((Chg.refl (fun _ => False) w).alloc (.cells #[.pointer (some ⟨t, 0, none⟩)] 81)).alloc (.cells #[.pointer (some ⟨10, 81, none⟩), .pointer (some ⟨w.heap.size, 0, none⟩), .int .u64 150] 100)).alloc (.cells #[.pointer (some ⟨10, 81, none⟩), .pointer (some ⟨w.heap.size, 0, none⟩), .int .u64 150] 100)).alloc (.cells #[.pointer (some ⟨e, 0, none⟩)] 68)
  refine ⟨rfl, ?_, hc.setCell (Or.inl rfl) _ _⟩
  have hh := (hd.block t hlt (fun f => f)).trans ht
  generalize (((w.alloc (.cells #[.pointer (some ⟨t, 0, none⟩)] 81)).alloc (.cells #[.pointer (some ⟨10, 81, none⟩), .pointer (some ⟨w.heap.size, 0, none⟩), .int .u64 150] 100)).alloc (.cells #[.pointer (some ⟨10, 81, none⟩), .pointer (some ⟨w.heap.size, 0, none⟩), .int .u64 150] 100)).alloc (.cells #[.pointer (some ⟨e, 0, none⟩)] 68) = w1 at *
  simp [World.setCell, Array.getElem?_modify, hh]
set_option maxHeartbeats 2000000 in
theorem isAt_any (h : Nat) (n p : Int) (c : Nat) (hc : Cd c) (w : World) (hG : Gl w) (hf : w.heap[h]? = some (.cells (fcell n p c) 70)) :
    Calls Tryz.prog 19 #[.iface 68 (.pointer (some ⟨h, 0, none⟩)), .int .i64 n, .int .i64 p, .int .i64 c] w fun e w' => e = .returned (.bool true) ∧ Chg (fun _ => False) w w' := by
  have HG0 := hyd (hG.alloc (.cells #[.pointer none] 68))
  have HT0 : Hid ((w.alloc (.cells #[.pointer none] 68)).heap[w.heap.size]? = some (.cells #[.pointer none] 68)) := heap_new _ _
  have HC0 := hyd ((Chg.refl (fun _ => False) w).alloc (.cells #[.pointer none] 68))
  have hlt : h < w.heap.size := (Array.getElem?_eq_some_iff.1 hf).1
  have HF := hyd hf
  have HCd := hyd hc
  have HH := hyd hlt
  clear hG hf hc hlt
  go_enter Tryz.func19, Tryz.ntmps19
  go_wp2_with (first | (go_at_call 35; refine (as_v h _ _ HG0.out HT0.out).mono ?_; rintro e w1 ⟨rfl, hT1, hC1⟩; refine Hid.out ?_))
  refine Lib.hid ?_
  have HC1 := hyd (HC0.out.trans' hC1 (fun k hk e => by omega))
  have HF1 := hyd ((HC1.out.block h HH.out (fun x => x)).trans HF.out)
  have t0 : w1.cell? ⟨w.heap.size, 0, none⟩ = some (.pointer (some ⟨h, 0, none⟩)) := by simp [World.cell?, hT1]
  have f0 : w1.cell? ⟨h, 0, none⟩ = some (.int .i64 n) := by have := HF1.out; simp [World.cell?, this, fcell]
  have f1 : w1.cell? ⟨h, 1, none⟩ = some (.int .i64 p) := by have := HF1.out; simp [World.cell?, this, fcell]
  have f2 : w1.cell? ⟨h, 2, none⟩ = some (.iface 52 (.int .i64 c)) := by have := HF1.out; simp [World.cell?, this, fcell]
  clear hT1 hC1 HC0 HT0 HG0
  have hnq := neq_same ⟨h, 0, none⟩
  go_wp2_with (first | (go_at_call 36; refine (is_fault h n p c _ HF1.out).mono ?_; rintro e w2 ⟨rfl, rfl⟩) | (go_at_call 25; refine (code_any c HCd.out _).mono ?_; rintro e w2 ⟨rfl, rfl⟩))
  go_ret
  exact ⟨rfl, HC1.out⟩
end Go.Proofs.YtepbfdbooobnlaaGreatDoor
