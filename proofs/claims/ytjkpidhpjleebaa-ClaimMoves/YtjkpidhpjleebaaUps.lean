/-
  '==' of founds; the examples at the head of all laws. No condition: lemmas.
-/
import Derived.Test.YtjkpidhpjleebaaNext
import Derived.ChangeKeysEq
import Derived.Laws.StructEq
namespace Go.Proofs.Ytjkpidhpjleebaa
set_option maxRecDepth 100000
open Go.RowKit Go.Sort

theorem eql_fo (w : World) (f : Fnd) : (binOp .eql 28 (.agg (fA f)) (.agg (fA f))).run Try.prog w = .ok (.bool true) w := by
  unfold fA fL
  go_simp
theorem neq_fo (w : World) (f : Fnd) : (binOp .neq 28 (.agg (fA f)) (.agg (fA f))).run Try.prog w = .ok (.bool false) w := by
  unfold fA fL
  go_simp
theorem guard_fo (w : World) (op : BinOp) (x y : Operand) (xs ys : Array Value) : (eqGuard op 28 x y (.agg xs) (.agg ys)).run Try.prog w = .ok () w := run_eqGuard_agg w op 28 x y xs ys (by kernel_rfl)
def fa : Fnd := ⟨8, 0, 1, 5, 0, false⟩
def fb : Fnd := ⟨16, 0, 1, 5, 1, false⟩
def fc : Fnd := ⟨2, 0, 1, 4, 0, false⟩
theorem up_newest : newest [fa, fb, fc] 1 3 = some fa := by decide
theorem up_next : nxt [fa, fb, fc] ck0 = 6 := by decide
theorem up_wf : Wfc ck0 := ⟨fun _ _ => by simp [ck0], by simp [ck0]⟩
theorem up_at (w : World) : At6 (w.alloc (.cells (fL fa ++ (fL fb ++ fL fc)).toArray 28)) w.heap.size 0 [fa, fb, fc] := by
  refine ⟨by simp, fun i f hi j v hv => ?_⟩
  have hj : j < 6 := by have := (List.getElem?_eq_some_iff.1 hv).1; rwa [fL_length] at this
  have hc : (w.alloc (.cells (fL fa ++ (fL fb ++ fL fc)).toArray 28)).cell? ⟨w.heap.size, 0 + i * 6 + j, none⟩ = (fL fa ++ (fL fb ++ fL fc))[0 + i * 6 + j]? := by
    have hb : (w.alloc (.cells (fL fa ++ (fL fb ++ fL fc)).toArray 28)).heap[w.heap.size]? = some (.cells (fL fa ++ (fL fb ++ fL fc)).toArray 28) := by
      show (w.heap.push _)[w.heap.size]? = _
      simp
    simp only [World.cell?, hb]
    simp
  rw [hc, Nat.zero_add]
  have := flat_get [fa, fb, fc] i f j hi hj
  simp only [List.flatMap_cons, List.flatMap_nil, List.append_nil] at this
  rw [this]
  exact hv

theorem newV_is (o : Option Fnd) : ∃ f b, NewV o = .tuple #[.agg (fA f), .bool b] := by
  cases o with
  | none => exact ⟨f0, false, rfl⟩
  | some f => exact ⟨f, true, rfl⟩
theorem newest_is (w : World) (a : Option Addr) (cap : Nat) (l : List Fnd) (n : Nat) (hnl : n = l.length) (of ab : Int) (hs : Sl w (.slice a n cap) l) (hn : n < 2932031007402) {f : Fnd} {b : Bool} (h : NewV (newest l of ab) = .tuple #[.agg (fA f), .bool b]) :
    Calls Try.prog 11 #[.slice a n cap, .int .i64 of, .int .i64 ab] w fun e w' => e = .returned (.tuple #[.agg (fA f), .bool b]) ∧ Chg (fun _ => False) w w' :=
  (newest_any w a cap l n hnl of ab hs hn).mono fun _ _ ⟨h1, h2⟩ => ⟨by rw [h1, h], h2⟩
theorem rnewest_is (w : World) (a : Option Addr) (cap : Nat) (l : List Fnd) (n : Nat) (hnl : n = l.length) (of ab : Int) (hs : Sl w (.slice a n cap) l) (hn : n < 2932031007402) {f : Fnd} {b : Bool} (h : NewV (newest l of ab) = .tuple #[.agg (fA f), .bool b]) :
    Calls Try.prog 12 #[.slice a n cap, .int .i64 of, .int .i64 ab] w fun e w' => e = .returned (.tuple #[.agg (fA f), .bool b]) ∧ Chg (fun _ => False) w w' :=
  (rnewest_any w a cap l n hnl of ab hs hn).mono fun _ _ ⟨h1, h2⟩ => ⟨by rw [h1, h], h2⟩
theorem up_a1 : ahd 255 0 = true := by decide
theorem up_a2 : ahd 1 0 = false := by decide
set_option maxHeartbeats 8000000 in
theorem up_any (w : World) : Calls Try.prog 8 #[] w fun e w' => e = .returned (.bool true) ∧ Chg (fun _ => False) w w' := by
  have hA := up_at w
  have hS : Sl (w.alloc (.cells (fL fa ++ (fL fb ++ fL fc)).toArray 28)) (.slice (some ⟨w.heap.size, 0, none⟩) 3 3) [fa, fb, fc] := ⟨_, 3, rfl, by decide, Or.inr ⟨_, 0, rfl, hA⟩⟩
  have HG0 : Hid (Chg (fun _ => False) w (w.alloc (.cells (fL fa ++ (fL fb ++ fL fc)).toArray 28))) := (Chg.refl _ w).alloc _
  have c11 := newest_is _ _ 3 [fa, fb, fc] 3 rfl 1 3 hS (by decide) (f := fa) (b := true) (by rw [up_newest]; rfl)
  have HA := hyd hA
  have HS := hyd hS
  clear hA hS
  go_enter Try.func8, Try.ntmps8
  go_wp2_with (first | (go_at_call 11; refine c11.mono ?_; rintro e w2 ⟨rfl, G2⟩; have HA2 := hyd (HA.out.chg G2 (fun h => h)); have HS2 := hyd (HS.out.new G2); have HG2 := hyd (HG0.out.trans G2); clear G2) | (refine wpList_alloc_fo rfl rfl w2.heap.size rfl ?_))
  intro w3 K3 G3 S3
  have HK3 := hyd K3
  clear K3 c11
  go_wp2_with (refine wpList_store_fo rfl (.tmp 2) (.tmp 15) rfl w2.heap.size rfl rfl HK3.out ?_)
  intro w4 K4 G4
  have G34 := G3.trans' G4 (fun k hk h => by omega)
  have HG4 := hyd (HG2.out.trans G34)
  have HA4 := hyd (HA2.out.chg G34 (fun h => h))
  have HS4 := hyd (HS2.out.new G34)
  have HK4 := hyd K4
  have c15 := next_any w4 _ 3 [fa, fb, fc] 3 rfl HS4.out (by decide) ck0 up_wf
  rw [up_next] at c15
  clear K4 G4 G3 G34 HK3 S3 HA HS HG0 HA2 HS2 HG2
  go_wp2_with (first | (refine wpList_build_ck rfl rfl ?_) | (go_at_call 15; refine c15.mono ?_; rintro e w5 ⟨rfl, G5⟩; have HA5 := hyd (HA4.out.chg G5 (fun h => h)); have HK5 := hyd (HK4.out.chg G5 (fun h => h)); have HG5 := hyd (HG4.out.trans G5); clear G5))
  have hA0 := HA5.out.2 0 fa rfl
  have k0 : w5.cell? ⟨w2.heap.size, 0, none⟩ = some (.int .i64 8) := HK5.out.cell 0 rfl
  have a0 : w5.cell? ⟨w.heap.size, 0, none⟩ = some (.int .i64 8) := hA0 0 _ rfl
  have k1 : w5.cell? ⟨w2.heap.size, 1, none⟩ = some (.int .i64 0) := HK5.out.cell 1 rfl
  have a1 : w5.cell? ⟨w.heap.size, 1, none⟩ = some (.int .i64 0) := hA0 1 _ rfl
  have k2 : w5.cell? ⟨w2.heap.size, 2, none⟩ = some (.int .i64 1) := HK5.out.cell 2 rfl
  have a2 : w5.cell? ⟨w.heap.size, 2, none⟩ = some (.int .i64 1) := hA0 2 _ rfl
  have k3 : w5.cell? ⟨w2.heap.size, 3, none⟩ = some (.int .i64 5) := HK5.out.cell 3 rfl
  have a3 : w5.cell? ⟨w.heap.size, 3, none⟩ = some (.int .i64 5) := hA0 3 _ rfl
  have k4 : w5.cell? ⟨w2.heap.size, 4, none⟩ = some (.int .i64 0) := HK5.out.cell 4 rfl
  have a4 : w5.cell? ⟨w.heap.size, 4, none⟩ = some (.int .i64 0) := hA0 4 _ rfl
  have k5 : w5.cell? ⟨w2.heap.size, 5, none⟩ = some (.bool false) := HK5.out.cell 5 rfl
  have a5 : w5.cell? ⟨w.heap.size, 5, none⟩ = some (.bool false) := hA0 5 _ rfl
  have u1 := up_a1
  have u2 := up_a2
  clear hA0 HA4 HS4 HG4 HK4 HA5 HK5 c15
  go_region_held3 (fun wx => wx.cell? ⟨w2.heap.size, 0, none⟩ = some (.int .i64 8) ∧ wx.cell? ⟨w.heap.size, 0, none⟩ = some (.int .i64 8) ∧ wx.cell? ⟨w2.heap.size, 1, none⟩ = some (.int .i64 0) ∧ wx.cell? ⟨w.heap.size, 1, none⟩ = some (.int .i64 0) ∧ wx.cell? ⟨w2.heap.size, 2, none⟩ = some (.int .i64 1) ∧ wx.cell? ⟨w.heap.size, 2, none⟩ = some (.int .i64 1) ∧ wx.cell? ⟨w2.heap.size, 3, none⟩ = some (.int .i64 5) ∧ wx.cell? ⟨w.heap.size, 3, none⟩ = some (.int .i64 5) ∧ wx.cell? ⟨w2.heap.size, 4, none⟩ = some (.int .i64 0) ∧ wx.cell? ⟨w.heap.size, 4, none⟩ = some (.int .i64 0) ∧ wx.cell? ⟨w2.heap.size, 5, none⟩ = some (.bool false) ∧ wx.cell? ⟨w.heap.size, 5, none⟩ = some (.bool false)) (first | exact ⟨k0, a0, k1, a1, k2, a2, k3, a3, k4, a4, k5, a5⟩) (first | (go_at_call 9; refine (ahead_any _ _ _).mono ?_; rintro e w' ⟨rfl, rfl⟩))
  all_goals go_wp2
  all_goals go_ret
  all_goals exact ⟨rfl, HG5.out.drew⟩
end Go.Proofs.Ytjkpidhpjleebaa
