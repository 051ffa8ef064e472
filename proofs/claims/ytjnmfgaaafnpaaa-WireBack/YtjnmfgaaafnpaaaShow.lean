/-
  The rows of the document's examples hold (patinalaw03.shown answers true). No condition.
-/
import Derived.Test.YtjnmfgaaafnpaaaRefs
import Derived.Test.YtjnmfgaaafnpaaaRowsIn
namespace Go.Proofs.Ytjnmfgaaafnpaaa
open Go.RowKit
set_option maxRecDepth 100000

theorem eql_arg_arg (w : World) : (binOp .eql 26 (.iface 29 (.int .i64 1)) (.iface 29 (.int .i64 1))).run Try.prog w = .ok (.bool true) w := by kernel_rfl
theorem eql_arg_long (w : World) : (binOp .eql 26 (.iface 29 (.int .i64 1)) (.iface 29 (.int .i64 2))).run Try.prog w = .ok (.bool false) w := by kernel_rfl
theorem eql_arg_mark (w : World) : (binOp .eql 26 (.iface 29 (.int .i64 1)) (.iface 29 (.int .i64 6))).run Try.prog w = .ok (.bool false) w := by kernel_rfl
theorem eql_arg_nil (w : World) : (binOp .eql 26 (.iface 29 (.int .i64 1)) .nilIface).run Try.prog w = .ok (.bool false) w := by kernel_rfl
theorem eql_long_arg (w : World) : (binOp .eql 26 (.iface 29 (.int .i64 2)) (.iface 29 (.int .i64 1))).run Try.prog w = .ok (.bool false) w := by kernel_rfl
theorem eql_long_long (w : World) : (binOp .eql 26 (.iface 29 (.int .i64 2)) (.iface 29 (.int .i64 2))).run Try.prog w = .ok (.bool true) w := by kernel_rfl
theorem eql_long_mark (w : World) : (binOp .eql 26 (.iface 29 (.int .i64 2)) (.iface 29 (.int .i64 6))).run Try.prog w = .ok (.bool false) w := by kernel_rfl
theorem eql_long_nil (w : World) : (binOp .eql 26 (.iface 29 (.int .i64 2)) .nilIface).run Try.prog w = .ok (.bool false) w := by kernel_rfl
theorem eql_mark_arg (w : World) : (binOp .eql 26 (.iface 29 (.int .i64 6)) (.iface 29 (.int .i64 1))).run Try.prog w = .ok (.bool false) w := by kernel_rfl
theorem eql_mark_long (w : World) : (binOp .eql 26 (.iface 29 (.int .i64 6)) (.iface 29 (.int .i64 2))).run Try.prog w = .ok (.bool false) w := by kernel_rfl
theorem eql_mark_mark (w : World) : (binOp .eql 26 (.iface 29 (.int .i64 6)) (.iface 29 (.int .i64 6))).run Try.prog w = .ok (.bool true) w := by kernel_rfl
theorem eql_mark_nil (w : World) : (binOp .eql 26 (.iface 29 (.int .i64 6)) .nilIface).run Try.prog w = .ok (.bool false) w := by kernel_rfl
theorem eql_nil_arg (w : World) : (binOp .eql 26 .nilIface (.iface 29 (.int .i64 1))).run Try.prog w = .ok (.bool false) w := by kernel_rfl
theorem eql_nil_long (w : World) : (binOp .eql 26 .nilIface (.iface 29 (.int .i64 2))).run Try.prog w = .ok (.bool false) w := by kernel_rfl
theorem eql_nil_mark (w : World) : (binOp .eql 26 .nilIface (.iface 29 (.int .i64 6))).run Try.prog w = .ok (.bool false) w := by kernel_rfl
theorem eql_nil_nil (w : World) : (binOp .eql 26 .nilIface .nilIface).run Try.prog w = .ok (.bool true) w := by kernel_rfl
theorem neq_arg_arg (w : World) : (binOp .neq 26 (.iface 29 (.int .i64 1)) (.iface 29 (.int .i64 1))).run Try.prog w = .ok (.bool false) w := by kernel_rfl
theorem neq_arg_long (w : World) : (binOp .neq 26 (.iface 29 (.int .i64 1)) (.iface 29 (.int .i64 2))).run Try.prog w = .ok (.bool true) w := by kernel_rfl
theorem neq_arg_mark (w : World) : (binOp .neq 26 (.iface 29 (.int .i64 1)) (.iface 29 (.int .i64 6))).run Try.prog w = .ok (.bool true) w := by kernel_rfl
theorem neq_arg_nil (w : World) : (binOp .neq 26 (.iface 29 (.int .i64 1)) .nilIface).run Try.prog w = .ok (.bool true) w := by kernel_rfl
theorem neq_long_arg (w : World) : (binOp .neq 26 (.iface 29 (.int .i64 2)) (.iface 29 (.int .i64 1))).run Try.prog w = .ok (.bool true) w := by kernel_rfl
theorem neq_long_long (w : World) : (binOp .neq 26 (.iface 29 (.int .i64 2)) (.iface 29 (.int .i64 2))).run Try.prog w = .ok (.bool false) w := by kernel_rfl
theorem neq_long_mark (w : World) : (binOp .neq 26 (.iface 29 (.int .i64 2)) (.iface 29 (.int .i64 6))).run Try.prog w = .ok (.bool true) w := by kernel_rfl
theorem neq_long_nil (w : World) : (binOp .neq 26 (.iface 29 (.int .i64 2)) .nilIface).run Try.prog w = .ok (.bool true) w := by kernel_rfl
theorem neq_mark_arg (w : World) : (binOp .neq 26 (.iface 29 (.int .i64 6)) (.iface 29 (.int .i64 1))).run Try.prog w = .ok (.bool true) w := by kernel_rfl
theorem neq_mark_long (w : World) : (binOp .neq 26 (.iface 29 (.int .i64 6)) (.iface 29 (.int .i64 2))).run Try.prog w = .ok (.bool true) w := by kernel_rfl
theorem neq_mark_mark (w : World) : (binOp .neq 26 (.iface 29 (.int .i64 6)) (.iface 29 (.int .i64 6))).run Try.prog w = .ok (.bool false) w := by kernel_rfl
theorem neq_mark_nil (w : World) : (binOp .neq 26 (.iface 29 (.int .i64 6)) .nilIface).run Try.prog w = .ok (.bool true) w := by kernel_rfl
theorem neq_nil_arg (w : World) : (binOp .neq 26 .nilIface (.iface 29 (.int .i64 1))).run Try.prog w = .ok (.bool true) w := by kernel_rfl
theorem neq_nil_long (w : World) : (binOp .neq 26 .nilIface (.iface 29 (.int .i64 2))).run Try.prog w = .ok (.bool true) w := by kernel_rfl
theorem neq_nil_mark (w : World) : (binOp .neq 26 .nilIface (.iface 29 (.int .i64 6))).run Try.prog w = .ok (.bool true) w := by kernel_rfl
theorem neq_nil_nil (w : World) : (binOp .neq 26 .nilIface .nilIface).run Try.prog w = .ok (.bool false) w := by kernel_rfl

theorem Arr.heldAll {w : World} {g : Nat} {t : TypeId} {l : List Nat} (h : Arr w g t l) (n cap : Nat) (hn : n ≤ l.length) : Held w (.slice (some ⟨g, 0, none⟩) n cap) (l.take n) :=
  h.held 0 n cap (l.take n) (by rw [List.length_take]; omega) (by rw [List.length_take]; omega) (fun i hi => by
    rw [List.length_take] at hi
    rw [Nat.zero_add, List.getD_eq_getElem?_getD, List.getD_eq_getElem?_getD, List.getElem?_take_of_lt (by omega)])
theorem Arr.heldFull {w : World} {g : Nat} {t : TypeId} {l : List Nat} (h : Arr w g t l) (n cap : Nat) (hn : n = l.length) : Held w (.slice (some ⟨g, 0, none⟩) n cap) l := by
  have := h.heldAll n cap (by omega)
  rwa [List.take_of_length_le (by omega)] at this
theorem bys3 {a b c : Nat} (h1 : a < 256) (h2 : b < 256) (h3 : c < 256) : Bys [a, b, c] := by
  intro n hn
  simp at hn
  omega
set_option maxHeartbeats 4000000 in
theorem shown_any (w : World) : Calls Try.prog 8 #[] w fun e w' => e = .returned (.bool true) ∧ Chg (fun _ => False) w w' := by
  go_enter Try.func8, Try.ntmps8
  go_wp2_with fail
  refine (put_room w 258 3 (by decide) (by decide) (by decide) (by decide)).mono ?_
  rintro e w1 ⟨g, rfl, hg, A1, G1⟩
  go_wp2_with fail
  have ea : (#[Value.int .u8 2, .int .u8 1, .int .u8 0] : Array Value) = bcells [2, 1, 0] := rfl
  rw [ea]
  refine (get_any _ _ 3 [2, 1, 0] (bys3 (by decide) (by decide) (by decide)) (by decide) (by decide) ((Arr.new w1 5 [2, 1, 0]).heldFull 3 3 rfl)).mono ?_
  rintro e w2 ⟨rfl, G2⟩
  have A2 : Arr w2 g 5 (bts 258 8) := (A1.alloc _).chg G2 (fun e => e)
  have G02 : Chg (fun _ => False) w w2 := (G1.alloc _).trans G2
  clear A1 G1 G2 ea
  go_wp2_with fail
  refine (put_long w2 256 1 (by decide) (by decide) (by decide) (by decide)).mono ?_
  rintro e w3 ⟨rfl, rfl⟩
  go_wp2_with fail
  have ea : (#[Value.int .u8 1, .int .u8 2, .int .u8 3] : Array Value) = bcells [1, 2, 3] := rfl
  have eb : (#[Value.int .u8 1, .int .u8 5, .int .u8 4] : Array Value) = bcells [1, 5, 4] := rfl
  rw [ea, eb]
  have B1 : Arr ((w3.alloc (.cells (bcells [1, 2, 3]) 5)).alloc (.cells (bcells [1, 5, 4]) 5)) w3.heap.size 5 [1, 2, 3] := (Arr.new w3 5 [1, 2, 3]).alloc _
  have B2 : Arr ((w3.alloc (.cells (bcells [1, 2, 3]) 5)).alloc (.cells (bcells [1, 5, 4]) 5)) (w3.heap.size + 1) 5 [1, 5, 4] := by
    have := Arr.new (w3.alloc (.cells (bcells [1, 2, 3]) 5)) 5 [1, 5, 4]
    simpa using this
  have A3 := (A2.alloc (.cells (bcells [1, 2, 3]) 5)).alloc (.cells (bcells [1, 5, 4]) 5)
  have G3 := (G02.alloc (.cells (bcells [1, 2, 3]) 5)).alloc (.cells (bcells [1, 5, 4]) 5)
  generalize (w3.alloc (.cells (bcells [1, 2, 3]) 5)).alloc (.cells (bcells [1, 5, 4]) 5) = w4 at *
  generalize w3.heap.size = h3 at *
  refine (wapart_any w4 _ _ 3 3 3 3 [1, 2, 3] [1, 5, 4] rfl rfl rfl (bys3 (by decide) (by decide) (by decide)) (bys3 (by decide) (by decide) (by decide)) (by decide) (B1.heldFull 3 3 rfl) (B2.heldFull 3 3 rfl)).mono ?_
  rintro e w5 ⟨rfl, G5⟩
  have A5 : Arr w5 g 5 (bts 258 8) := A3.chg G5 (fun e => e)
  have G05 : Chg (fun _ => False) w w5 := G3.trans G5
  clear A3 G3 G5 B1 B2 ea eb A2 G02
  go_wp2_with fail
  have ea : (#[Value.int .u8 2, .int .u8 1, .int .u8 0] : Array Value) = bcells [2, 1, 0] := rfl
  rw [ea]
  refine (same_n _ _ _ 3 3 3 3 [2, 1, 0] [2, 1, 0] rfl rfl ((A5.alloc _).heldAll 3 3 (by rw [bts_length]; decide)) ((Arr.new w5 5 [2, 1, 0]).heldFull 3 3 rfl) (by decide) (by decide)).mono ?_
  rintro e w6 ⟨rfl, G6⟩
  have G06 : Chg (fun _ => False) w w6 := (G05.alloc _).trans G6
  clear A5 G05 G6 ea
  have q1 := eql_nil_nil
  have q2 := eql_long_long
  have l1 : ((le [2, 1, 0] : Nat) : Int) = 258 := by decide
  have l2 : ((dis [1, 2, 3] [1, 5, 4] 3 : Nat) : Int) = 2 := by decide
  have l3 : decide (([2, 1, 0] : List Nat) = [2, 1, 0]) = true := by decide
  rw [l1, l2, l3]
  go_wp2
  go_ret
  exact ⟨rfl, G06⟩
end Go.Proofs.Ytjnmfgaaafnpaaa
