/-
  cmp.Or of two ints, and the function that the sort is handed: what it says of two founds, wherever the sort stands. No condition: lemmas.
-/
import Derived.Test.YtjkpidhpjleebaaSmall
import Derived.Deep.RegionHeld3
namespace Go.Proofs.Ytjkpidhpjleebaa
set_option maxRecDepth 100000
open Go.RowKit Go.Sort

def orI (a b : Int) : Int := if a ≠ 0 then a else b
theorem cf_or (x y : Fnd) : cf x y = orI (cmpI y.S x.S) (cmpI x.P y.P) := rfl
set_option maxHeartbeats 2000000 in
theorem or_any (a b : Int) (g : Nat) (w : World) (h1 : w.cell? ⟨g, 0, none⟩ = some (.int .i64 a)) (h2 : w.cell? ⟨g, 1, none⟩ = some (.int .i64 b)) :
    Calls Try.prog 29 #[.slice (some ⟨g, 0, none⟩) 2 2] w fun e w' => e = .returned (.int .i64 (orI a b)) ∧ w' = w := by
  by_cases ha : a = 0
  · have HN : Hid (orI a b = b) := by show _ = _; simp [orI, ha]
    subst ha
    by_cases hb : b = 0
    · subst hb
      go_enter Try.func29, Try.ntmps29
      go_wp2
      refine wp_loop_rounds 3 ?_
      rw [rounds_succ]
      go_wp2
      rw [rounds_succ]
      go_wp2
      rw [rounds_succ]
      go_wp2
      go_ret
      exact ⟨by rw [HN.out]; rfl, rfl⟩
    · have hb' : (b != 0) = true := by simpa using hb
      go_enter Try.func29, Try.ntmps29
      go_wp2
      refine wp_loop_rounds 2 ?_
      rw [rounds_succ]
      go_wp2
      rw [rounds_succ]
      go_wp2
      go_ret
      exact ⟨by rw [HN.out]; rfl, rfl⟩
  · have HN : Hid (orI a b = a) := by show _ = _; simp [orI, ha]
    have ha' : (a != 0) = true := by simpa using ha
    go_enter Try.func29, Try.ntmps29
    go_wp2
    refine wp_loop_rounds 1 ?_
    rw [rounds_succ]
    go_wp2
    go_ret
    exact ⟨by rw [HN.out]; rfl, rfl⟩

set_option maxHeartbeats 4000000 in
theorem closure_any (x y : Fnd) (w : World) : Calls Try.prog 28 #[.agg (fA x), .agg (fA y)] w fun e w' => e = .returned (.int .i64 (cf x y)) ∧ ∃ q os', w' = grow (w.drewN q) os' := by
  have X := (Fo.new w x).alloc (.cells (fA y) 28)
  have Y := Fo.new (w.alloc (.cells (fA x) 28)) y
  rw [show (w.alloc (.cells (fA x) 28)).heap.size = w.heap.size + 1 by simp] at Y
  rw [cf_or]
  obtain ⟨x0, -, -, x3, -, -⟩ := X.cells
  obtain ⟨y0, -, -, y3, -, -⟩ := Y.cells
  have HW : Hid ((w.alloc (.cells (fA x) 28)).alloc (.cells (fA y) 28) = grow w #[.cells (fA x) 28, .cells (fA y) 28]) := by
    show _ = _
    rw [alloc_eq_grow, alloc_eq_grow, grow_grow]; rfl
  have HX := hyd X.lt
  have HY := hyd Y.lt
  clear X Y
  go_enter Try.func28, Try.ntmps28
  go_wp2_with fail
  generalize (w.alloc (.cells (fA x) 28)).alloc (.cells (fA y) 28) = wq at *
  have u0 : ∀ X : Obj, (wq.drew.alloc X).cell? ⟨w.heap.size, 0, none⟩ = some (.int .i64 x.P) := fun X => (World.cell?_of_block (w := wq) (Below.heap_alloc _ _ _ HX.out)).trans x0
  have u3 : ∀ X : Obj, (wq.drew.alloc X).cell? ⟨w.heap.size, 3, none⟩ = some (.int .i64 x.S) := fun X => (World.cell?_of_block (w := wq) (Below.heap_alloc _ _ _ HX.out)).trans x3
  have v0 : ∀ X : Obj, (wq.drew.alloc X).cell? ⟨w.heap.size + 1, 0, none⟩ = some (.int .i64 y.P) := fun X => (World.cell?_of_block (w := wq) (Below.heap_alloc _ _ _ HY.out)).trans y0
  have v3 : ∀ X : Obj, (wq.drew.alloc X).cell? ⟨w.heap.size + 1, 3, none⟩ = some (.int .i64 y.S) := fun X => (World.cell?_of_block (w := wq) (Below.heap_alloc _ _ _ HY.out)).trans y3
  go_region_held3 (fun wx => wx.cell? ⟨w.heap.size + 1, 3, none⟩ = some (.int .i64 y.S) ∧ wx.cell? ⟨w.heap.size, 3, none⟩ = some (.int .i64 x.S) ∧ wx.cell? ⟨w.heap.size, 0, none⟩ = some (.int .i64 x.P) ∧ wx.cell? ⟨w.heap.size + 1, 0, none⟩ = some (.int .i64 y.P)) (first | exact ⟨y3, x3, x0, y0⟩ | exact ⟨v3 _, u3 _, u0 _, v0 _⟩)
    (first | (go_at_call 30; refine (compare64_any _ _ _).mono ?_; rintro e w' ⟨rfl, rfl⟩) | (go_at_call 31; refine (compare_any _ _ _).mono ?_; rintro e w' ⟨rfl, rfl⟩) | (go_at_call 29; refine (or_any (cmpI y.S x.S) (cmpI x.P y.P) _ _ (by simp) (by simp)).mono ?_; rintro e w' ⟨rfl, rfl⟩))
  go_wp2
  go_ret
  refine ⟨rfl, 1, #[.cells (fA x) 28, .cells (fA y) 28] ++ #[.cells #[.int .i64 (cmpI y.S x.S), .int .i64 (cmpI x.P y.P)] 3], ?_⟩
  rw [HW.out, alloc_eq_grow, grow_grow, drew_grow]
  rfl
theorem cmpLays (blk off size : Nat) (w : World) : CmpLays Try.prog 28 #[] fL 6 cf blk off size w := fun _ _ _ _ x y => closure_any x y _
theorem enters28 : ∀ args w, (callFunc 28 args).run Try.prog w = .ok (.enter 28 args) w := enters_of Try.func28 (by kernel_rfl) rfl
set_option maxHeartbeats 2000000 in
theorem ins_nil (w : World) (fv : Value) : Calls Try.prog 36 #[.slice none 0 0, .int .i64 0, .int .i64 0, fv] w fun e w' => e = .returned (.tuple #[]) ∧ w' = w := by
  go_enter Try.func36, Try.ntmps36
  go_wp2
  refine wp_loop_rounds 1 ?_
  rw [rounds_succ]
  go_wp2
  go_end0
  exact ⟨rfl, rfl⟩
set_option maxHeartbeats 2000000 in
theorem stable_nil (w : World) (fv : Value) : Calls Try.prog 33 #[.slice none 0 0, .int .i64 0, fv] w fun e w' => e = .returned (.tuple #[]) ∧ w' = w := by
  go_enter Try.func33, Try.ntmps33
  go_wp2
  refine wp_loop_rounds 1 ?_
  rw [rounds_succ]
  go_wp2_with (go_at_call 36; refine (ins_nil _ _).mono ?_; rintro e w' ⟨rfl, rfl⟩)
  refine wp_loop_rounds 1 ?_
  rw [rounds_succ]
  go_wp2
  go_end0
  exact ⟨rfl, rfl⟩
set_option maxHeartbeats 2000000 in
/-- Nothing to sort. -/
theorem sort_nil (w : World) (fv : Value) : Calls Try.prog 27 #[.slice none 0 0, fv] w fun e w' => e = .returned (.tuple #[]) ∧ w' = w := by
  go_enter Try.func27, Try.ntmps27
  go_wp2_with (go_at_call 33; refine (stable_nil _ _).mono ?_; rintro e w' ⟨rfl, rfl⟩)
  go_end0
  exact ⟨rfl, rfl⟩
/-- The call of the sort, at a row of the call's own. -/
theorem sort_own {w : World} {base : Nat} {v : Value} {l : List Fnd} (h : Ow w base v l) (h0 : l.length ≠ 0) (hn : l.length < 1152921504606846976) :
    ∃ g cap, v = .slice (some ⟨g, 0, none⟩) l.length cap ∧ base ≤ g ∧ l.length ≤ cap ∧ Calls Try.prog 27 #[.slice (some ⟨g, 0, none⟩) l.length cap, .func (.func 28) #[] #[]] w fun e w' => e = .returned (.tuple #[]) ∧ ∃ d', Srt (ltOf cf) l.toArray d' ∧ At6 w' g 0 d'.toList ∧ Chg (· = g) w w' := by
  obtain ⟨g, cap, rfl, hcap, hg, hA, -, -⟩ := h.lies h0
  have hH := h.holds h0
  have R : RowK fL 6 w g 0 l.toArray := ⟨fun _ => rfl, fL_one, hH, hA.1⟩
  refine ⟨g, cap, rfl, hg, hcap, ?_⟩
  refine (sortStable_any ply fL cf 28 #[] swo g 0 cap l.toArray w enters28 (cmpLays g 0 _ w) R l.length (by simp) hn).mono ?_
  rintro e w' ⟨rfl, d', hd, hS⟩
  exact ⟨rfl, d', hd, HoldsK.at6 (hS.holds hA.1 hH hd.stb.size) (hS.lt hA.1), SWK.chg hS⟩
end Go.Proofs.Ytjkpidhpjleebaa
