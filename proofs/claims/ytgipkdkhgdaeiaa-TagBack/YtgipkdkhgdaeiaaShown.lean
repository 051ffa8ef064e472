/-
  The rows of the document's examples hold (patinalaw07.shown answers true). No condition.
-/
import Derived.Test.YtgipkdkhgdaeiaaDecode
namespace Go.Proofs.Ytgipkdkhgdaeiaa
open Go.RowKit
set_option maxRecDepth 100000

theorem b1 (w : World) : (Instr.build 23 #[(0, .int .i64 95), (1, .int .i64 24), (2, .int .i64 258), (3, .int .i64 7)]).run Try.prog w = .ok (.agg #[.int .i64 95, .int .i64 24, .int .i64 258, .int .i64 7, .bool false]) w := by kernel_rfl
theorem b2 (w : World) : (Instr.build 23 #[(0, .int .i64 6), (1, .int .i64 3), (2, .int .i64 1)]).run Try.prog w = .ok (.agg #[.int .i64 6, .int .i64 3, .int .i64 1, .int .i64 0, .bool false]) w := by kernel_rfl
theorem may1 : May 95 24 258 7 false := ⟨⟨⟨by decide, by decide⟩, ⟨by decide, by decide⟩, ⟨by decide, by decide⟩, by decide, by decide⟩, Or.inl ⟨rfl, rfl⟩⟩
theorem may2 : ¬ May 6 3 1 0 false := fun h => by
  rcases h.2 with h | h
  · exact absurd h.1 (by decide)
  · exact absurd h.2 (by decide)
theorem enc1 (w : World) : Calls Try.prog 8 #[.agg #[.int .i64 95, .int .i64 24, .int .i64 258, .int .i64 7, .bool false]] w fun e w' => ∃ g, e = .returned (.tuple #[.slice (some ⟨g, 0, none⟩) 50 50, .nilIface]) ∧ w.heap.size ≤ g ∧ Arr w' g 5 (body 95 24 258 7 false) ∧ Chg (fun _ => False) w w' :=
  encode_yes w 95 24 258 7 false may1
def z5 : List Nat := List.replicate 50 0
theorem z5_bys : Bys z5 := fun n hn => by rw [(List.mem_replicate.1 hn).2]; decide
theorem z5_not : ¬ IsB z5 := fun h => by
  have h1 := h.1.1.2.2.1.1
  have e : fld z5 3 5 = 0 := by decide
  rw [e] at h1
  exact absurd h1 (by decide)
theorem eql_form_form (w : World) : (binOp .eql 26 (.iface 32 (.int .i64 3)) (.iface 32 (.int .i64 3))).run Try.prog w = .ok (.bool true) w := by kernel_rfl
theorem want_eq : body 95 24 258 7 false = ((((z5.set 0 95).set 2 24).set 3 2).set 4 1).set 8 7 := by decide
theorem want_set : ((((((bcells z5).setIfInBounds 0 (.int .u8 95)).setIfInBounds 2 (.int .u8 24)).setIfInBounds 3 (.int .u8 2)).setIfInBounds 4 (.int .u8 1)).setIfInBounds 8 (.int .u8 7)) = bcells (body 95 24 258 7 false) := by
  rw [want_eq, ← bcells_set, ← bcells_set, ← bcells_set, ← bcells_set, ← bcells_set]
  rfl
theorem mk50 (w : World) : (Instr.makeSlice 28 (.int .i64 50) (.int .i64 50)).run Try.prog w = .ok (.slice (some ⟨w.heap.size, 0, none⟩) 50 50) (w.alloc (.cells (bcells z5) 5)) := make_bytes w 50 50 rfl (by decide)

set_option maxHeartbeats 4000000 in
theorem shown_any (w : World) : Calls Try.prog 6 #[] w fun e w' => e = .returned (.bool true) ∧ Chg (fun _ => False) w w' := by
  have h1 := b1
  have h2 := b2
  have hmk := mk50
  go_enter Try.func6, Try.ntmps6
  go_wp2_with fail
  refine (enc1 w).mono ?_
  rintro e w1 ⟨g, rfl, hg, A1, G1⟩
  have HA1 := hyd A1
  have HG1 := hyd G1
  clear A1 G1
  go_wp2_with fail
  refine ((check_any w1 6 3 1 0 false).2 may2).mono ?_
  rintro e w2 ⟨rfl, G2⟩
  have HA2 := hyd (HA1.out.chg G2 (fun e => e))
  have HG2 := hyd (HG1.out.trans G2)
  clear G2 HA1 HG1
  go_wp2_with fail
  have Z2 : At (w2.alloc (.cells (bcells z5) 5)) w2.heap.size 0 z5 := (Arr.new w2 5 z5).at_
  have A2 := HA2.out.alloc (.cells (bcells z5) 5)
  have G2 := HG2.out.alloc (.cells (bcells z5) 5)
  refine (decode_no _ w2.heap.size 0 50 z5 z5_bys rfl (by decide) Z2 z5_not).mono ?_
  rintro e w3 ⟨rfl, G3⟩
  have HA3 := hyd (A2.chg G3 (fun e => e))
  have HG3 := hyd (G2.trans G3)
  clear G3 Z2 A2 G2 HA2 HG2
  go_wp2_with fail
  rw [want_set]
  have A4 := (HA3.out.alloc (.cells #[.int .i64 0, .int .i64 0, .int .i64 0, .int .i64 0, .bool false] 23)).alloc (.cells (bcells (body 95 24 258 7 false)) 5)
  have B4 := Arr.new (w3.alloc (.cells #[.int .i64 0, .int .i64 0, .int .i64 0, .int .i64 0, .bool false] 23)) 5 (body 95 24 258 7 false)
  have G4 := (HG3.out.alloc (.cells #[.int .i64 0, .int .i64 0, .int .i64 0, .int .i64 0, .bool false] 23)).alloc (.cells (bcells (body 95 24 258 7 false)) 5)
  rw [show (w3.alloc (.cells #[.int .i64 0, .int .i64 0, .int .i64 0, .int .i64 0, .bool false] 23)).heap.size = w3.heap.size + 1 from by simp] at B4
  have hq := same_n _ (some ⟨g, 0, none⟩) (some ⟨w3.heap.size + 1, 0, none⟩) 50 50 50 50 _ _ (body_length 95 24 258 7 false).symm (body_length 95 24 258 7 false).symm (A4.heldFull 50 50 (body_length 95 24 258 7 false).symm) (B4.heldFull 50 50 (body_length 95 24 258 7 false).symm) (by rw [body_length]; decide) (by rw [body_length]; decide)
  rw [decide_eq_true rfl] at hq
  have HG4 := hyd G4
  clear A4 B4 G4 HA3 HG3
  refine hq.mono ?_
  rintro e w5 ⟨rfl, G5⟩
  have HG5 := hyd (HG4.out.trans G5)
  clear G5 hq HG4
  have q1 := eql_nil_nil
  have q2 := eql_arg_arg
  have q3 := eql_form_form
  go_wp2
  go_ret
  exact ⟨rfl, HG5.out⟩
end Go.Proofs.Ytgipkdkhgdaeiaa
