/-
  Errors held against each other; the rows of the document's examples hold. No condition. What both chips answer, told alike. Conditions: they stand alike.
-/
import Derived.Test.YtifjmilegogbaaaGreatUHarm
import Derived.Test.YtifjmilegogbaaaGreatUKnow
import Derived.Test.YtifjmilegogbaaaGreatURNew
import Derived.Test.YtifjmilegogbaaaGreatUWire
namespace Go.Proofs.YtifjmilegogbaaaGreat
open Go.RowKit
set_option maxRecDepth 100000

theorem neql_nil_nil (w : World) : (binOp .eql 32 .nilIface .nilIface).run Tryz.prog w = .ok (.bool true) w := by kernel_rfl
theorem nneq_nil_nil (w : World) : (binOp .neq 32 .nilIface .nilIface).run Tryz.prog w = .ok (.bool false) w := by kernel_rfl
theorem eql_nil_e1 (w : World) : (binOp .eql 32 .nilIface (.iface 58 (.int .i64 1))).run Tryz.prog w = .ok (.bool false) w := by kernel_rfl
theorem neq_nil_e1 (w : World) : (binOp .neq 32 .nilIface (.iface 58 (.int .i64 1))).run Tryz.prog w = .ok (.bool true) w := by kernel_rfl
theorem eql_nil_e7 (w : World) : (binOp .eql 32 .nilIface (.iface 58 (.int .i64 7))).run Tryz.prog w = .ok (.bool false) w := by kernel_rfl
theorem neq_nil_e7 (w : World) : (binOp .neq 32 .nilIface (.iface 58 (.int .i64 7))).run Tryz.prog w = .ok (.bool true) w := by kernel_rfl
theorem eql_nil_e8 (w : World) : (binOp .eql 32 .nilIface (.iface 58 (.int .i64 8))).run Tryz.prog w = .ok (.bool false) w := by kernel_rfl
theorem neq_nil_e8 (w : World) : (binOp .neq 32 .nilIface (.iface 58 (.int .i64 8))).run Tryz.prog w = .ok (.bool true) w := by kernel_rfl
theorem eql_nil_e9 (w : World) : (binOp .eql 32 .nilIface (.iface 58 (.int .i64 9))).run Tryz.prog w = .ok (.bool false) w := by kernel_rfl
theorem neq_nil_e9 (w : World) : (binOp .neq 32 .nilIface (.iface 58 (.int .i64 9))).run Tryz.prog w = .ok (.bool true) w := by kernel_rfl
theorem eql_e1_nil (w : World) : (binOp .eql 32 (.iface 58 (.int .i64 1)) .nilIface).run Tryz.prog w = .ok (.bool false) w := by kernel_rfl
theorem neq_e1_nil (w : World) : (binOp .neq 32 (.iface 58 (.int .i64 1)) .nilIface).run Tryz.prog w = .ok (.bool true) w := by kernel_rfl
theorem eql_e1_e1 (w : World) : (binOp .eql 32 (.iface 58 (.int .i64 1)) (.iface 58 (.int .i64 1))).run Tryz.prog w = .ok (.bool true) w := by kernel_rfl
theorem neq_e1_e1 (w : World) : (binOp .neq 32 (.iface 58 (.int .i64 1)) (.iface 58 (.int .i64 1))).run Tryz.prog w = .ok (.bool false) w := by kernel_rfl
theorem eql_e1_e7 (w : World) : (binOp .eql 32 (.iface 58 (.int .i64 1)) (.iface 58 (.int .i64 7))).run Tryz.prog w = .ok (.bool false) w := by kernel_rfl
theorem neq_e1_e7 (w : World) : (binOp .neq 32 (.iface 58 (.int .i64 1)) (.iface 58 (.int .i64 7))).run Tryz.prog w = .ok (.bool true) w := by kernel_rfl
theorem eql_e1_e8 (w : World) : (binOp .eql 32 (.iface 58 (.int .i64 1)) (.iface 58 (.int .i64 8))).run Tryz.prog w = .ok (.bool false) w := by kernel_rfl
theorem neq_e1_e8 (w : World) : (binOp .neq 32 (.iface 58 (.int .i64 1)) (.iface 58 (.int .i64 8))).run Tryz.prog w = .ok (.bool true) w := by kernel_rfl
theorem eql_e1_e9 (w : World) : (binOp .eql 32 (.iface 58 (.int .i64 1)) (.iface 58 (.int .i64 9))).run Tryz.prog w = .ok (.bool false) w := by kernel_rfl
theorem neq_e1_e9 (w : World) : (binOp .neq 32 (.iface 58 (.int .i64 1)) (.iface 58 (.int .i64 9))).run Tryz.prog w = .ok (.bool true) w := by kernel_rfl
theorem eql_e7_nil (w : World) : (binOp .eql 32 (.iface 58 (.int .i64 7)) .nilIface).run Tryz.prog w = .ok (.bool false) w := by kernel_rfl
theorem neq_e7_nil (w : World) : (binOp .neq 32 (.iface 58 (.int .i64 7)) .nilIface).run Tryz.prog w = .ok (.bool true) w := by kernel_rfl
theorem eql_e7_e1 (w : World) : (binOp .eql 32 (.iface 58 (.int .i64 7)) (.iface 58 (.int .i64 1))).run Tryz.prog w = .ok (.bool false) w := by kernel_rfl
theorem neq_e7_e1 (w : World) : (binOp .neq 32 (.iface 58 (.int .i64 7)) (.iface 58 (.int .i64 1))).run Tryz.prog w = .ok (.bool true) w := by kernel_rfl
theorem eql_e7_e7 (w : World) : (binOp .eql 32 (.iface 58 (.int .i64 7)) (.iface 58 (.int .i64 7))).run Tryz.prog w = .ok (.bool true) w := by kernel_rfl
theorem neq_e7_e7 (w : World) : (binOp .neq 32 (.iface 58 (.int .i64 7)) (.iface 58 (.int .i64 7))).run Tryz.prog w = .ok (.bool false) w := by kernel_rfl
theorem eql_e7_e8 (w : World) : (binOp .eql 32 (.iface 58 (.int .i64 7)) (.iface 58 (.int .i64 8))).run Tryz.prog w = .ok (.bool false) w := by kernel_rfl
theorem neq_e7_e8 (w : World) : (binOp .neq 32 (.iface 58 (.int .i64 7)) (.iface 58 (.int .i64 8))).run Tryz.prog w = .ok (.bool true) w := by kernel_rfl
theorem eql_e7_e9 (w : World) : (binOp .eql 32 (.iface 58 (.int .i64 7)) (.iface 58 (.int .i64 9))).run Tryz.prog w = .ok (.bool false) w := by kernel_rfl
theorem neq_e7_e9 (w : World) : (binOp .neq 32 (.iface 58 (.int .i64 7)) (.iface 58 (.int .i64 9))).run Tryz.prog w = .ok (.bool true) w := by kernel_rfl
theorem eql_e8_nil (w : World) : (binOp .eql 32 (.iface 58 (.int .i64 8)) .nilIface).run Tryz.prog w = .ok (.bool false) w := by kernel_rfl
theorem neq_e8_nil (w : World) : (binOp .neq 32 (.iface 58 (.int .i64 8)) .nilIface).run Tryz.prog w = .ok (.bool true) w := by kernel_rfl
theorem eql_e8_e1 (w : World) : (binOp .eql 32 (.iface 58 (.int .i64 8)) (.iface 58 (.int .i64 1))).run Tryz.prog w = .ok (.bool false) w := by kernel_rfl
theorem neq_e8_e1 (w : World) : (binOp .neq 32 (.iface 58 (.int .i64 8)) (.iface 58 (.int .i64 1))).run Tryz.prog w = .ok (.bool true) w := by kernel_rfl
theorem eql_e8_e7 (w : World) : (binOp .eql 32 (.iface 58 (.int .i64 8)) (.iface 58 (.int .i64 7))).run Tryz.prog w = .ok (.bool false) w := by kernel_rfl
theorem neq_e8_e7 (w : World) : (binOp .neq 32 (.iface 58 (.int .i64 8)) (.iface 58 (.int .i64 7))).run Tryz.prog w = .ok (.bool true) w := by kernel_rfl
theorem eql_e8_e8 (w : World) : (binOp .eql 32 (.iface 58 (.int .i64 8)) (.iface 58 (.int .i64 8))).run Tryz.prog w = .ok (.bool true) w := by kernel_rfl
theorem neq_e8_e8 (w : World) : (binOp .neq 32 (.iface 58 (.int .i64 8)) (.iface 58 (.int .i64 8))).run Tryz.prog w = .ok (.bool false) w := by kernel_rfl
theorem eql_e8_e9 (w : World) : (binOp .eql 32 (.iface 58 (.int .i64 8)) (.iface 58 (.int .i64 9))).run Tryz.prog w = .ok (.bool false) w := by kernel_rfl
theorem neq_e8_e9 (w : World) : (binOp .neq 32 (.iface 58 (.int .i64 8)) (.iface 58 (.int .i64 9))).run Tryz.prog w = .ok (.bool true) w := by kernel_rfl
theorem eql_e9_nil (w : World) : (binOp .eql 32 (.iface 58 (.int .i64 9)) .nilIface).run Tryz.prog w = .ok (.bool false) w := by kernel_rfl
theorem neq_e9_nil (w : World) : (binOp .neq 32 (.iface 58 (.int .i64 9)) .nilIface).run Tryz.prog w = .ok (.bool true) w := by kernel_rfl
theorem eql_e9_e1 (w : World) : (binOp .eql 32 (.iface 58 (.int .i64 9)) (.iface 58 (.int .i64 1))).run Tryz.prog w = .ok (.bool false) w := by kernel_rfl
theorem neq_e9_e1 (w : World) : (binOp .neq 32 (.iface 58 (.int .i64 9)) (.iface 58 (.int .i64 1))).run Tryz.prog w = .ok (.bool true) w := by kernel_rfl
theorem eql_e9_e7 (w : World) : (binOp .eql 32 (.iface 58 (.int .i64 9)) (.iface 58 (.int .i64 7))).run Tryz.prog w = .ok (.bool false) w := by kernel_rfl
theorem neq_e9_e7 (w : World) : (binOp .neq 32 (.iface 58 (.int .i64 9)) (.iface 58 (.int .i64 7))).run Tryz.prog w = .ok (.bool true) w := by kernel_rfl
theorem eql_e9_e8 (w : World) : (binOp .eql 32 (.iface 58 (.int .i64 9)) (.iface 58 (.int .i64 8))).run Tryz.prog w = .ok (.bool false) w := by kernel_rfl
theorem neq_e9_e8 (w : World) : (binOp .neq 32 (.iface 58 (.int .i64 9)) (.iface 58 (.int .i64 8))).run Tryz.prog w = .ok (.bool true) w := by kernel_rfl
theorem eql_e9_e9 (w : World) : (binOp .eql 32 (.iface 58 (.int .i64 9)) (.iface 58 (.int .i64 9))).run Tryz.prog w = .ok (.bool true) w := by kernel_rfl
theorem neq_e9_e9 (w : World) : (binOp .neq 32 (.iface 58 (.int .i64 9)) (.iface 58 (.int .i64 9))).run Tryz.prog w = .ok (.bool false) w := by kernel_rfl

theorem neg_rem11 {c : Int} (h : c < 0) : -((c + 1).tmod 11) = (-(c + 1)) % 11 := by
  rw [← Int.neg_tmod, Int.tmod_eq_emod_of_nonneg (by omega)]
theorem neg_rem40 {c : Int} (h : c < 0) : -((c + 1).tmod 40) = (-(c + 1)) % 40 := by
  rw [← Int.neg_tmod, Int.tmod_eq_emod_of_nonneg (by omega)]
theorem neg_rem96 {c : Int} (h : c < 0) : -((c + 1).tmod 96) = (-(c + 1)) % 96 := by
  rw [← Int.neg_tmod, Int.tmod_eq_emod_of_nonneg (by omega)]
/-- The chips of the examples. -/
def sh1 : Chp := rdS newS 0
def sh2 : Chp := (writeR sh1 0 3 (List.replicate 64 7)).1
def sh3 : Chp := (flipR sh2 0 1536).1
def sh4 : Chp := rdS sh3 0
theorem sh2_code : (writeR sh1 0 3 (List.replicate 64 7)).2 = 0 := by decide +kernel
theorem sh3_code : (flipR sh2 0 1536).2 = 0 := by decide +kernel
theorem sh5_code : (writeR sh4 0 3 (List.replicate 64 7)).2 = 9 := by decide +kernel
theorem sh1_ok : sh1.Ok := rdS_ok newS_ok 0
theorem sh2_ok : sh2.Ok := writeR_ok sh1_ok 0 3 (bys_rep _ _ (by omega))
theorem sh3_ok : sh3.Ok := flipR_ok sh2_ok 0 1536
theorem sh4_ok : sh4.Ok := rdS_ok sh3_ok 0
theorem sh3_on : sh3.on = true := by decide +kernel
theorem sh_p : (pgTo newS 0 4).getD 0 0 = 255 := by decide +kernel
theorem sh_q : (pgTo sh3 0 4).getD 192 0 = 6 := by decide +kernel
theorem sh_d : dmg (sh4.ch (4 * 0 + 3)) = 1 := by decide +kernel
theorem sh_w : (sh4.ch (4 * 0 + 3)).worst = 1 := by decide +kernel
end Go.Proofs.YtifjmilegogbaaaGreat
namespace Go.Proofs.YtifjmilegogbaaaGreat
open Go.RowKit
set_option maxRecDepth 100000

theorem eql_e7_c2 (w : World) : (binOp .eql 32 (.iface 58 (.int .i64 7)) (.iface 58 (.int .i64 2))).run Tryz.prog w = .ok (.bool false) w := by kernel_rfl
theorem eql_e7_c3 (w : World) : (binOp .eql 32 (.iface 58 (.int .i64 7)) (.iface 58 (.int .i64 3))).run Tryz.prog w = .ok (.bool false) w := by kernel_rfl
theorem eql_e7_c4 (w : World) : (binOp .eql 32 (.iface 58 (.int .i64 7)) (.iface 58 (.int .i64 4))).run Tryz.prog w = .ok (.bool false) w := by kernel_rfl
theorem eql_e7_c5 (w : World) : (binOp .eql 32 (.iface 58 (.int .i64 7)) (.iface 58 (.int .i64 5))).run Tryz.prog w = .ok (.bool false) w := by kernel_rfl
theorem eql_e7_c6 (w : World) : (binOp .eql 32 (.iface 58 (.int .i64 7)) (.iface 58 (.int .i64 6))).run Tryz.prog w = .ok (.bool false) w := by kernel_rfl
theorem eql_e8_c2 (w : World) : (binOp .eql 32 (.iface 58 (.int .i64 8)) (.iface 58 (.int .i64 2))).run Tryz.prog w = .ok (.bool false) w := by kernel_rfl
theorem eql_e8_c3 (w : World) : (binOp .eql 32 (.iface 58 (.int .i64 8)) (.iface 58 (.int .i64 3))).run Tryz.prog w = .ok (.bool false) w := by kernel_rfl
theorem eql_e8_c4 (w : World) : (binOp .eql 32 (.iface 58 (.int .i64 8)) (.iface 58 (.int .i64 4))).run Tryz.prog w = .ok (.bool false) w := by kernel_rfl
theorem eql_e8_c5 (w : World) : (binOp .eql 32 (.iface 58 (.int .i64 8)) (.iface 58 (.int .i64 5))).run Tryz.prog w = .ok (.bool false) w := by kernel_rfl
theorem eql_e8_c6 (w : World) : (binOp .eql 32 (.iface 58 (.int .i64 8)) (.iface 58 (.int .i64 6))).run Tryz.prog w = .ok (.bool false) w := by kernel_rfl
theorem eql_e9_c2 (w : World) : (binOp .eql 32 (.iface 58 (.int .i64 9)) (.iface 58 (.int .i64 2))).run Tryz.prog w = .ok (.bool false) w := by kernel_rfl
theorem eql_e9_c3 (w : World) : (binOp .eql 32 (.iface 58 (.int .i64 9)) (.iface 58 (.int .i64 3))).run Tryz.prog w = .ok (.bool false) w := by kernel_rfl
theorem eql_e9_c4 (w : World) : (binOp .eql 32 (.iface 58 (.int .i64 9)) (.iface 58 (.int .i64 4))).run Tryz.prog w = .ok (.bool false) w := by kernel_rfl
theorem eql_e9_c5 (w : World) : (binOp .eql 32 (.iface 58 (.int .i64 9)) (.iface 58 (.int .i64 5))).run Tryz.prog w = .ok (.bool false) w := by kernel_rfl
theorem eql_e9_c6 (w : World) : (binOp .eql 32 (.iface 58 (.int .i64 9)) (.iface 58 (.int .i64 6))).run Tryz.prog w = .ok (.bool false) w := by kernel_rfl
theorem ncode_0 (w : World) : Calls Tryz.prog 37 #[nerrV 0] w fun e w' => e = .returned (.int .i64 0) ∧ w' = w := by
  have q0 := neql_nil_nil
  show Calls Tryz.prog 37 #[.nilIface] w _
  go_enter Tryz.func37, Tryz.ntmps37
  go_wp2
  go_ret
  exact ⟨rfl, rfl⟩
theorem ncode_1 (w : World) : Calls Tryz.prog 37 #[nerrV 1] w fun e w' => e = .returned (.int .i64 1) ∧ w' = w := by
  have q0 := eql_e1_nil
  have q1 := eql_e1_e1
  show Calls Tryz.prog 37 #[.iface 58 (.int .i64 1)] w _
  go_enter Tryz.func37, Tryz.ntmps37
  go_wp2
  go_ret
  exact ⟨rfl, rfl⟩
theorem code_7 (w : World) : Calls Tryz.prog 37 #[nerrV 7] w fun e w' => e = .returned (.int .i64 7) ∧ w' = w := by
  have q0 := eql_e7_nil
  have q1 := eql_e7_e1
  have q2 := eql_e7_c2
  have q3 := eql_e7_c3
  have q4 := eql_e7_c4
  have q5 := eql_e7_c5
  have q6 := eql_e7_c6
  have q7 := eql_e7_e7
  show Calls Tryz.prog 37 #[.iface 58 (.int .i64 7)] w _
  go_enter Tryz.func37, Tryz.ntmps37
  go_wp2
  go_ret
  exact ⟨rfl, rfl⟩
theorem code_8 (w : World) : Calls Tryz.prog 37 #[nerrV 8] w fun e w' => e = .returned (.int .i64 8) ∧ w' = w := by
  have q0 := eql_e8_nil
  have q1 := eql_e8_e1
  have q2 := eql_e8_c2
  have q3 := eql_e8_c3
  have q4 := eql_e8_c4
  have q5 := eql_e8_c5
  have q6 := eql_e8_c6
  have q7 := eql_e8_e7
  have q8 := eql_e8_e8
  show Calls Tryz.prog 37 #[.iface 58 (.int .i64 8)] w _
  go_enter Tryz.func37, Tryz.ntmps37
  go_wp2
  go_ret
  exact ⟨rfl, rfl⟩
theorem code_9 (w : World) : Calls Tryz.prog 37 #[nerrV 9] w fun e w' => e = .returned (.int .i64 9) ∧ w' = w := by
  have q0 := eql_e9_nil
  have q1 := eql_e9_e1
  have q2 := eql_e9_c2
  have q3 := eql_e9_c3
  have q4 := eql_e9_c4
  have q5 := eql_e9_c5
  have q6 := eql_e9_c6
  have q7 := eql_e9_e7
  have q8 := eql_e9_e8
  have q9 := eql_e9_e9
  show Calls Tryz.prog 37 #[.iface 58 (.int .i64 9)] w _
  go_enter Tryz.func37, Tryz.ntmps37
  go_wp2
  go_ret
  exact ⟨rfl, rfl⟩

/-- A number of an error that the chip answers. -/
def nIsCode (c : Nat) : Prop := c = 0 ∨ c = 1 ∨ c = 7 ∨ c = 8 ∨ c = 9
theorem ncode_any (c : Nat) (h : nIsCode c) (w : World) : Calls Tryz.prog 37 #[nerrV c] w fun e w' => e = .returned (.int .i64 c) ∧ w' = w := by
  rcases h with rfl | rfl | rfl | rfl | rfl
  · exact ncode_0 w
  · exact ncode_1 w
  · exact code_7 w
  · exact code_8 w
  · exact code_9 w
theorem writeR_code (s : Chp) (a k : Int) (l : List Nat) : nIsCode (writeR s a k l).2 := by
  unfold writeR nIsCode
  split
  · simp
  · split
    · simp
    · split
      · simp
      · split
        · simp
        · split <;> simp
theorem eraseR_code (s : Chp) (a : Int) : nIsCode (eraseR s a).2 := by
  unfold eraseR nIsCode
  split
  · simp
  · split
    · simp
    · split
      · simp
      · split <;> simp
theorem flipR_code (s : Chp) (a b : Int) : nIsCode (flipR s a b).2 := by unfold flipR nIsCode; split <;> simp
theorem cutR_code (s : Chp) (a : Int) : nIsCode (cutR s a).2 := by unfold cutR nIsCode; split <;> simp
theorem failPR_code (s : Chp) (a b : Int) : nIsCode (failPR s a b).2 := by unfold failPR nIsCode; split <;> simp
theorem failER_code (s : Chp) (a : Int) : nIsCode (failER s a).2 := by unfold failER nIsCode; split <;> simp

/-- What is told of a chunk's damage. -/
def dmgV (s : Chp) (a k : Int) : Nat × Nat × Nat := if 0 ≤ a ∧ a < 96 ∧ 0 ≤ k ∧ k < 4 then (dmg (s.ch (4 * a.toNat + k.toNat)), (s.ch (4 * a.toNat + k.toNat)).worst, 0) else (0, 0, 1)
/-- What is told of a chunk's truth. -/
def truV (s : Chp) (a k : Int) : List Nat × Bool × Nat := if 0 ≤ a ∧ a < 96 ∧ 0 ≤ k ∧ k < 4 then ((s.ch (4 * a.toNat + k.toNat)).tru, (s.ch (4 * a.toNat + k.toNat)).is, 0) else ([], false, 1)
def rdsV (s : Chp) (a : Int) : Int × Nat := if 0 ≤ a ∧ a < 12 then ((s.bl a.toNat).reads, 0) else (0, 1)
def fldV (s : Chp) (a : Int) : Bool × Nat := if 0 ≤ a ∧ a < 12 then ((s.bl a.toNat).failed, 0) else (false, 1)
theorem dmgV_code (s : Chp) (a k : Int) : nIsCode (dmgV s a k).2.2 := by unfold dmgV nIsCode; split <;> simp
theorem truV_code (s : Chp) (a k : Int) : nIsCode (truV s a k).2.2 := by unfold truV nIsCode; split <;> simp
theorem rdsV_code (s : Chp) (a : Int) : nIsCode (rdsV s a).2 := by unfold rdsV nIsCode; split <;> simp
theorem fldV_code (s : Chp) (a : Int) : nIsCode (fldV s a).2 := by unfold fldV nIsCode; split <;> simp
theorem truV_len {s : Chp} (hs : s.Ok) (a k : Int) : (truV s a k).1.length = 64 ∨ (truV s a k).1 = [] := by
  unfold truV
  split
  · exact Or.inl (hs.ch _).tru
  · exact Or.inr rfl
theorem damage_v (g : Nat) (s : Chp) (hs : s.Ok) (a k : Int) (w : World) (h : ChipAt w g s) :
    Calls Tryz.prog 22 #[.pointer (some ⟨g, 0, none⟩), .int .i64 a, .int .i64 k] w fun e w' => e = .returned (.tuple #[.int .i64 (dmgV s a k).1, .int .i64 (dmgV s a k).2.1, nerrV (dmgV s a k).2.2]) ∧ Chg (fun _ => False) w w' := by
  unfold dmgV
  by_cases hc : 0 ≤ a ∧ a < 96 ∧ 0 ≤ k ∧ k < 4
  · rw [if_pos hc]
    obtain ⟨a, rfl⟩ := Int.eq_ofNat_of_zero_le hc.1
    obtain ⟨k, rfl⟩ := Int.eq_ofNat_of_zero_le hc.2.2.1
    exact damage_yes g s hs a k (by omega) (by omega) w h
  · rw [if_neg hc]
    exact damage_no g a k (by omega) w
theorem truth_v (g : Nat) (s : Chp) (hs : s.Ok) (a k : Int) (w : World) (h : ChipAt w g s) :
    Calls Tryz.prog 26 #[.pointer (some ⟨g, 0, none⟩), .int .i64 a, .int .i64 k] w fun e w' => ∃ ad n cap, e = .returned (.tuple #[.slice ad n cap, .bool (truV s a k).2.1, nerrV (truV s a k).2.2]) ∧ n = (truV s a k).1.length ∧ OwnT w' w.heap.size 5 (.slice ad n cap) (truV s a k).1 ∧ Chg (fun _ => False) w w' := by
  unfold truV
  by_cases hc : 0 ≤ a ∧ a < 96 ∧ 0 ≤ k ∧ k < 4
  · rw [if_pos hc]
    obtain ⟨a, rfl⟩ := Int.eq_ofNat_of_zero_le hc.1
    obtain ⟨k, rfl⟩ := Int.eq_ofNat_of_zero_le hc.2.2.1
    refine (truth_yes g s hs a k (by omega) (by omega) w h).mono ?_
    rintro e w' ⟨rfl, hA, hG⟩
    exact ⟨_, _, _, rfl, (hs.ch _).tru.symm, hA.own (Nat.le_refl _) 64 (hs.ch _).tru.symm (by unfold maxLen; omega), hG⟩
  · rw [if_neg hc]
    refine (truth_no g a k (by omega) w).mono ?_
    rintro e w' ⟨rfl, hG⟩
    exact ⟨_, _, _, rfl, rfl, Or.inl (Own.nil _ _ _), hG⟩
theorem reads_v (g : Nat) (s : Chp) (a : Int) (w : World) (h : ChipAt w g s) :
    Calls Tryz.prog 10 #[.pointer (some ⟨g, 0, none⟩), .int .i64 a] w fun e w' => e = .returned (.tuple #[.int .i64 (rdsV s a).1, nerrV (rdsV s a).2]) ∧ Chg (fun _ => False) w w' := by
  unfold rdsV
  by_cases hc : 0 ≤ a ∧ a < 12
  · rw [if_pos hc]
    obtain ⟨a, rfl⟩ := Int.eq_ofNat_of_zero_le hc.1
    exact reads_yes g s a (by omega) w h
  · rw [if_neg hc]
    exact reads_no g a (by omega) w
theorem rreads_v (r : Nat) (s : Chp) (F : Nat → Prop) (a : Int) (w : World) (h : RefAt w r s F) :
    Calls Tryz.prog 11 #[.pointer (some ⟨r, 0, none⟩), .int .i64 a] w fun e w' => e = .returned (.tuple #[.int .i64 (rdsV s a).1, .int .i64 (rdsV s a).2]) ∧ Chg (fun _ => False) w w' := by
  unfold rdsV
  by_cases hc : 0 ≤ a ∧ a < 12
  · rw [if_pos hc]
    obtain ⟨a, rfl⟩ := Int.eq_ofNat_of_zero_le hc.1
    exact rreads_yes r s F a (by omega) w h
  · rw [if_neg hc]
    exact rreads_no r a (by omega) w
theorem failed_v (g : Nat) (s : Chp) (a : Int) (w : World) (h : ChipAt w g s) :
    Calls Tryz.prog 12 #[.pointer (some ⟨g, 0, none⟩), .int .i64 a] w fun e w' => e = .returned (.tuple #[.bool (fldV s a).1, nerrV (fldV s a).2]) ∧ Chg (fun _ => False) w w' := by
  unfold fldV
  by_cases hc : 0 ≤ a ∧ a < 12
  · rw [if_pos hc]
    obtain ⟨a, rfl⟩ := Int.eq_ofNat_of_zero_le hc.1
    exact failed_yes g s a (by omega) w h
  · rw [if_neg hc]
    exact failed_no g a (by omega) w
theorem rfailed_v (r : Nat) (s : Chp) (F : Nat → Prop) (a : Int) (w : World) (h : RefAt w r s F) :
    Calls Tryz.prog 13 #[.pointer (some ⟨r, 0, none⟩), .int .i64 a] w fun e w' => e = .returned (.tuple #[.bool (fldV s a).1, .int .i64 (fldV s a).2]) ∧ Chg (fun _ => False) w w' := by
  unfold fldV
  by_cases hc : 0 ≤ a ∧ a < 12
  · rw [if_pos hc]
    obtain ⟨a, rfl⟩ := Int.eq_ofNat_of_zero_le hc.1
    exact rfailed_yes r s F a (by omega) w h
  · rw [if_neg hc]
    exact rfailed_no r a (by omega) w
/-- A page that is read: the chip then, its bytes, the error. -/
def readV (s : Chp) (a : Int) : Chp × List Nat × Nat := if ¬ (0 ≤ a ∧ a < 96) then (s, [], 1) else if s.on = false then (s, [], 7) else (rdS s a.toNat, pgTo s a.toNat 4, 0)
theorem readV_code (s : Chp) (a : Int) : nIsCode (readV s a).2.2 := by
  unfold readV nIsCode
  split
  · simp
  · split <;> simp
theorem readV_ok {s : Chp} (h : s.Ok) (a : Int) : (readV s a).1.Ok := by
  unfold readV
  split
  · exact h
  · split
    · exact h
    · exact rdS_ok h _
theorem readV_len {s : Chp} (h : s.Ok) (a : Int) : (readV s a).2.1.length = 256 ∨ (readV s a).2.1 = [] := by
  unfold readV
  split
  · exact Or.inr rfl
  · split
    · exact Or.inr rfl
    · exact Or.inl (pgTo_length h _ 4)
theorem read_v (g : Nat) (s : Chp) (hs : s.Ok) (a : Int) (w : World) (h : ChipAt w g s) :
    Calls Tryz.prog 52 #[.pointer (some ⟨g, 0, none⟩), .int .i64 a] w fun e w' => ∃ ad n cap, e = .returned (.tuple #[.slice ad n cap, nerrV (readV s a).2.2]) ∧ n = (readV s a).2.1.length ∧ OwnT w' w.heap.size 5 (.slice ad n cap) (readV s a).2.1 ∧ ChipAt w' g (readV s a).1 ∧ Chg (· = g) w w' := by
  unfold readV
  by_cases hc : 0 ≤ a ∧ a < 96
  · rw [if_neg (by simpa using hc)]
    cases hon : s.on with
    | false =>
      rw [if_pos rfl]
      refine (read_off g s a hc.1 hc.2 w h hon).mono ?_
      rintro e w' ⟨rfl, hG⟩
      exact ⟨_, _, _, rfl, rfl, Or.inl (Own.nil _ _ _), h.chg hG (fun f => f), hG.mono (fun _ _ f => f.elim)⟩
    | true =>
      rw [if_neg (by simp)]
      obtain ⟨a, rfl⟩ := Int.eq_ofNat_of_zero_le hc.1
      refine (read_yes g s hs a (by omega) w h hon).mono ?_
      rintro e w' ⟨rfl, hA, hC, hG⟩
      exact ⟨_, _, _, rfl, (pgTo_length hs a 4).symm, hA.own (Nat.le_refl _) 256 (pgTo_length hs a 4).symm (by unfold maxLen; omega), hC, hG⟩
  · rw [if_pos (by simpa using hc)]
    refine (read_no g a (by omega) w).mono ?_
    rintro e w' ⟨rfl, hG⟩
    exact ⟨_, _, _, rfl, rfl, Or.inl (Own.nil _ _ _), h.chg hG (fun f => f), hG.mono (fun _ _ f => f.elim)⟩
theorem rread_v (r : Nat) (s : Chp) (hs : s.Ok) (F : Nat → Prop) (a : Int) (w : World) (h : RefAt w r s F) :
    Calls Tryz.prog 63 #[.pointer (some ⟨r, 0, none⟩), .int .i64 a] w fun e w' => ∃ ad n cap, e = .returned (.tuple #[.slice ad n cap, .int .i64 (readV s a).2.2]) ∧ n = (readV s a).2.1.length ∧ Own w' w.heap.size 5 (.slice ad n cap) (readV s a).2.1 ∧ RefAt w' r (readV s a).1 F ∧ Chg F w w' := by
  unfold readV
  by_cases hc : 0 ≤ a ∧ a < 96
  · rw [if_neg (by simpa using hc)]
    cases hon : s.on with
    | false =>
      rw [if_pos rfl]
      refine (rread_off r s F a hc.1 hc.2 w h hon).mono ?_
      rintro e w' ⟨rfl, hG⟩
      exact ⟨_, _, _, rfl, rfl, Own.nil _ _ _, h.chg hG (fun _ _ f => f), hG.mono (fun _ _ f => f.elim)⟩
    | true =>
      rw [if_neg (by simp)]
      obtain ⟨a, rfl⟩ := Int.eq_ofNat_of_zero_le hc.1
      refine (rread_yes r s hs F a (by omega) w h hon).mono ?_
      rintro e w' ⟨v, rfl, hO, hR, hG⟩
      obtain ⟨g, cap, rfl, -, -, -⟩ := hO.by (by rw [pgTo_length hs]; decide)
      exact ⟨_, _, _, rfl, rfl, hO, hR, hG⟩
  · rw [if_pos (by simpa using hc)]
    refine (rread_no r a (by omega) w).mono ?_
    rintro e w' ⟨rfl, hG⟩
    exact ⟨_, _, _, rfl, rfl, Own.nil _ _ _, h.chg hG (fun _ _ f => f), hG.mono (fun _ _ f => f.elim)⟩
end Go.Proofs.YtifjmilegogbaaaGreat

