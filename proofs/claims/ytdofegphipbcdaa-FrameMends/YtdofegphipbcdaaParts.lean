/-
  The parts of a row of bytes, told by a function that is ranged over (frame.parts). Condition: the row has four parts.
-/
import Derived.Test.YtdofegphipbcdaaKnow
import Derived.RangeFuncNested
import Derived.RangeFuncBound
import Derived.RangeFuncCalls
import Derived.RangeFuncLeaves
import Derived.Shelf.Abstract
import Derived.Shelf.RegionOpen
import Derived.WalkKit
import Derived.OwnWalkIn
import Derived.TacticsInMore
import Derived.LoopNIn
import Derived.LoopIn
namespace Go.Proofs.Ytdofegphipbcdaa
open Go.RowKit Go.Shelf
set_option maxRecDepth 100000
attribute [local go_sem] Oper.semAt_some

/-- The number of a part: one of four. -/
abbrev Ix := { i : Nat // i < 4 }
/-- The first k of them, in their order. -/
def upto (k : Nat) : List Ix := (List.range k).filterMap fun i => if h : i < 4 then some ⟨i, h⟩ else none
theorem upto_succ (k : Nat) (h : k < 4) : upto (k + 1) = upto k ++ [⟨k, h⟩] := by
  simp [upto, List.range_succ, h]
theorem upto_length (k : Nat) (h : k ≤ 4) : (upto k).length = k := by
  induction k with
  | zero => rfl
  | succ k ih => rw [upto_succ k (by omega), List.length_append, ih (by omega)]; rfl
/-- What yield is handed at part x of a row of parts of z bytes. -/
def encP (g o cap z : Nat) (x : Ix) : Array Value := #[.int .i64 (x.1 : Int), .slice (some ⟨g, o + x.1 * z, none⟩) z (cap - x.1 * z)]
/-- What a round that goes on keeps: the two boxes of the iterator. -/
def Kp (B1 B2 : Nat) (W W' : World) : Prop := W'.heap[B1]? = W.heap[B1]? ∧ W'.heap[B2]? = W.heap[B2]?
theorem Kp.t {B1 B2 : Nat} {A B C : World} (h : Kp B1 B2 A B) (k : Kp B1 B2 B C) : Kp B1 B2 A C := ⟨k.1.trans h.1, k.2.trans h.2⟩
theorem Kp.b {B1 B2 : Nat} {w : World} (h1 : B1 < w.heap.size) (h2 : B2 < w.heap.size) (W : World) (l : Nat) (_o o' : Obj) (hl : w.heap.size ≤ l) (_ : W.heap[l]? = some _o) (_ : _o.isCells = false) (_ : _o.isWalk = false) : Kp B1 B2 W (W.putObj l o') :=
  ⟨World.putObj_heap_other (by omega), World.putObj_heap_other (by omega)⟩

set_option maxHeartbeats 1000000 in
theorem parts_any (w : World) (a : Option Addr) (n cap z : Nat) :
    Calls Try.prog 29 #[.slice a n cap, .int .i64 (z : Int)] w fun e w' => e = .returned (.func (.func 42) #[] #[.pointer (some ⟨w.heap.size, 0, none⟩), .pointer (some ⟨w.heap.size + 1, 0, none⟩)]) ∧ w' = (w.alloc (.cells #[.slice a n cap] 22)).alloc (.cells #[.int .i64 (z : Int)] 3) := by
  go_enter Try.func29, Try.ntmps29
  go_wp2
  go_ret
  exact ⟨by simp, rfl⟩

set_option maxHeartbeats 2000000 in
theorem parts64 (F : Fence) (n : Nat) (h42 : F.fn 42) (hro : F.round = none) (hn : 1 ≤ n) (B1 B2 g o cap : Nat) (hcap : 256 ≤ cap) (w : World) (b1 : B1 < w.heap.size) (b2 : B2 < w.heap.size)
    (c1 : w.cell? ⟨B1, 0, none⟩ = some (.slice (some ⟨g, o, none⟩) 256 cap)) (c2 : w.cell? ⟨B2, 0, none⟩ = some (.int .i64 64)) :
    SeqStopsK F n Try.prog 42 #[.pointer (some ⟨B1, 0, none⟩), .pointer (some ⟨B2, 0, none⟩)] (encP g o cap 64) (Kp B1 B2) (fun ys => ys = upto 4) (fun pre => ∃ k, k ≤ 4 ∧ pre = upto k) 4 w := fun l J Jx W hW _ _ hY h0 => by
  have d1 := (hW.cell (p := ⟨B1, 0, none⟩) b1).trans c1
  have d2 := (hW.cell (p := ⟨B2, 0, none⟩) b2).trans c2
  refine callsIn_of_wp Try.func42 rfl h42 ?_ hro
  simp only [Try.ntmps42, List.size_toArray, List.length_cons, List.length_nil, Nat.reduceAdd, Nat.reduceSub, Array.replicate_succ, Array.replicate_zero, List.push_toArray, List.append_toArray, List.nil_append, List.cons_append]
  gi_wp2
  gi_loopw [9] (fun i wr => ∃ k : Nat, k ≤ 4 ∧ i = .int .i64 k ∧ J (upto k) wr ∧ Kp B1 B2 W wr) (fun i _ => 4 - (intOf i).toNat)
  case atStart => exact ⟨0, Nat.zero_le _, rfl, h0, rfl, rfl⟩
  case round =>
    obtain ⟨k, hk, rfl, hJs, hk1, hk2⟩ := hrel
    have e1 : wr.cell? ⟨B1, 0, none⟩ = some (.slice (some ⟨g, o, none⟩) 256 cap) := (World.cell?_of_block (w := W) (a := ⟨B1, 0, none⟩) hk1).trans d1
    have e2 : wr.cell? ⟨B2, 0, none⟩ = some (.int .i64 64) := (World.cell?_of_block (w := W) (a := ⟨B2, 0, none⟩) hk2).trans d2
    by_cases hlt : k < 4
    · obtain ⟨fn, tmps, assign, body, hy, hR⟩ := hY _ ⟨k, hlt⟩ wr hJs (by rw [upto_length k hk]; exact hlt)
      have hlt' : (k : Int) < 4 := by omega
      have hk0 : (0 : Int) ≤ (k : Int) := by omega
      dsimp only [encP] at hy
      have e64 : (k + 1) * 64 - k * 64 = 64 := by omega
      gi_wp2
      rw [e64]
      gi_wp2
      refine hR.mono ?_
      rintro e W3 (⟨rfl, hJ3, hk3⟩ | ⟨rfl, hJx3⟩)
      · gi_wp2
        go_roundw
        case rel => exact ⟨k + 1, by omega, by simp, by rw [upto_succ k hlt]; exact hJ3, hk3.1.trans hk1, hk3.2.trans hk2⟩
        case measure => simp [intOf]; omega
      · gi_wp2
        refine bodyPost_ret (results_none rfl _ _ _) rfl ?_
        exact ⟨⟨_, rfl⟩, .inr ⟨_, ⟨k + 1, by omega, (upto_succ k hlt).symm⟩, hJx3⟩⟩
    · obtain rfl : k = 4 := by omega
      gi_wp2
      go_end0
      exact ⟨⟨_, rfl⟩, .inl ⟨_, rfl, hJs⟩⟩
set_option maxHeartbeats 2000000 in
theorem parts58 (F : Fence) (n : Nat) (h42 : F.fn 42) (hro : F.round = none) (hn : 1 ≤ n) (B1 B2 g o cap : Nat) (hcap : 232 ≤ cap) (w : World) (b1 : B1 < w.heap.size) (b2 : B2 < w.heap.size)
    (c1 : w.cell? ⟨B1, 0, none⟩ = some (.slice (some ⟨g, o, none⟩) 232 cap)) (c2 : w.cell? ⟨B2, 0, none⟩ = some (.int .i64 58)) :
    SeqStopsK F n Try.prog 42 #[.pointer (some ⟨B1, 0, none⟩), .pointer (some ⟨B2, 0, none⟩)] (encP g o cap 58) (Kp B1 B2) (fun ys => ys = upto 4) (fun pre => ∃ k, k ≤ 4 ∧ pre = upto k) 4 w := fun l J Jx W hW _ _ hY h0 => by
  have d1 := (hW.cell (p := ⟨B1, 0, none⟩) b1).trans c1
  have d2 := (hW.cell (p := ⟨B2, 0, none⟩) b2).trans c2
  refine callsIn_of_wp Try.func42 rfl h42 ?_ hro
  simp only [Try.ntmps42, List.size_toArray, List.length_cons, List.length_nil, Nat.reduceAdd, Nat.reduceSub, Array.replicate_succ, Array.replicate_zero, List.push_toArray, List.append_toArray, List.nil_append, List.cons_append]
  gi_wp2
  gi_loopw [9] (fun i wr => ∃ k : Nat, k ≤ 4 ∧ i = .int .i64 k ∧ J (upto k) wr ∧ Kp B1 B2 W wr) (fun i _ => 4 - (intOf i).toNat)
  case atStart => exact ⟨0, Nat.zero_le _, rfl, h0, rfl, rfl⟩
  case round =>
    obtain ⟨k, hk, rfl, hJs, hk1, hk2⟩ := hrel
    have e1 : wr.cell? ⟨B1, 0, none⟩ = some (.slice (some ⟨g, o, none⟩) 232 cap) := (World.cell?_of_block (w := W) (a := ⟨B1, 0, none⟩) hk1).trans d1
    have e2 : wr.cell? ⟨B2, 0, none⟩ = some (.int .i64 58) := (World.cell?_of_block (w := W) (a := ⟨B2, 0, none⟩) hk2).trans d2
    by_cases hlt : k < 4
    · obtain ⟨fn, tmps, assign, body, hy, hR⟩ := hY _ ⟨k, hlt⟩ wr hJs (by rw [upto_length k hk]; exact hlt)
      have hlt' : (k : Int) < 4 := by omega
      have hk0 : (0 : Int) ≤ (k : Int) := by omega
      dsimp only [encP] at hy
      have e58 : (k + 1) * 58 - k * 58 = 58 := by omega
      gi_wp2
      rw [e58]
      gi_wp2
      refine hR.mono ?_
      rintro e W3 (⟨rfl, hJ3, hk3⟩ | ⟨rfl, hJx3⟩)
      · gi_wp2
        go_roundw
        case rel => exact ⟨k + 1, by omega, by simp, by rw [upto_succ k hlt]; exact hJ3, hk3.1.trans hk1, hk3.2.trans hk2⟩
        case measure => simp [intOf]; omega
      · gi_wp2
        refine bodyPost_ret (results_none rfl _ _ _) rfl ?_
        exact ⟨⟨_, rfl⟩, .inr ⟨_, ⟨k + 1, by omega, (upto_succ k hlt).symm⟩, hJx3⟩⟩
    · obtain rfl : k = 4 := by omega
      gi_wp2
      go_end0
      exact ⟨⟨_, rfl⟩, .inl ⟨_, rfl, hJs⟩⟩
end Go.Proofs.Ytdofegphipbcdaa
