/-
  Errors held against each other; the rows of the document's examples hold. No condition.
-/
import Derived.Test.YtfjgnplplafniaaPage
import Derived.Test.YtfjgnplplafniaaHarm
namespace Go.Proofs.Ytfjgnplplafniaa
open Go.RowKit
set_option maxRecDepth 100000

theorem eql_nil_nil (w : World) : (binOp .eql 42 .nilIface .nilIface).run Try.prog w = .ok (.bool true) w := by kernel_rfl
theorem neq_nil_nil (w : World) : (binOp .neq 42 .nilIface .nilIface).run Try.prog w = .ok (.bool false) w := by kernel_rfl
theorem eql_nil_e1 (w : World) : (binOp .eql 42 .nilIface (.iface 48 (.int .i64 1))).run Try.prog w = .ok (.bool false) w := by kernel_rfl
theorem neq_nil_e1 (w : World) : (binOp .neq 42 .nilIface (.iface 48 (.int .i64 1))).run Try.prog w = .ok (.bool true) w := by kernel_rfl
theorem eql_nil_e7 (w : World) : (binOp .eql 42 .nilIface (.iface 48 (.int .i64 7))).run Try.prog w = .ok (.bool false) w := by kernel_rfl
theorem neq_nil_e7 (w : World) : (binOp .neq 42 .nilIface (.iface 48 (.int .i64 7))).run Try.prog w = .ok (.bool true) w := by kernel_rfl
theorem eql_nil_e8 (w : World) : (binOp .eql 42 .nilIface (.iface 48 (.int .i64 8))).run Try.prog w = .ok (.bool false) w := by kernel_rfl
theorem neq_nil_e8 (w : World) : (binOp .neq 42 .nilIface (.iface 48 (.int .i64 8))).run Try.prog w = .ok (.bool true) w := by kernel_rfl
theorem eql_nil_e9 (w : World) : (binOp .eql 42 .nilIface (.iface 48 (.int .i64 9))).run Try.prog w = .ok (.bool false) w := by kernel_rfl
theorem neq_nil_e9 (w : World) : (binOp .neq 42 .nilIface (.iface 48 (.int .i64 9))).run Try.prog w = .ok (.bool true) w := by kernel_rfl
theorem eql_e1_nil (w : World) : (binOp .eql 42 (.iface 48 (.int .i64 1)) .nilIface).run Try.prog w = .ok (.bool false) w := by kernel_rfl
theorem neq_e1_nil (w : World) : (binOp .neq 42 (.iface 48 (.int .i64 1)) .nilIface).run Try.prog w = .ok (.bool true) w := by kernel_rfl
theorem eql_e1_e1 (w : World) : (binOp .eql 42 (.iface 48 (.int .i64 1)) (.iface 48 (.int .i64 1))).run Try.prog w = .ok (.bool true) w := by kernel_rfl
theorem neq_e1_e1 (w : World) : (binOp .neq 42 (.iface 48 (.int .i64 1)) (.iface 48 (.int .i64 1))).run Try.prog w = .ok (.bool false) w := by kernel_rfl
theorem eql_e1_e7 (w : World) : (binOp .eql 42 (.iface 48 (.int .i64 1)) (.iface 48 (.int .i64 7))).run Try.prog w = .ok (.bool false) w := by kernel_rfl
theorem neq_e1_e7 (w : World) : (binOp .neq 42 (.iface 48 (.int .i64 1)) (.iface 48 (.int .i64 7))).run Try.prog w = .ok (.bool true) w := by kernel_rfl
theorem eql_e1_e8 (w : World) : (binOp .eql 42 (.iface 48 (.int .i64 1)) (.iface 48 (.int .i64 8))).run Try.prog w = .ok (.bool false) w := by kernel_rfl
theorem neq_e1_e8 (w : World) : (binOp .neq 42 (.iface 48 (.int .i64 1)) (.iface 48 (.int .i64 8))).run Try.prog w = .ok (.bool true) w := by kernel_rfl
theorem eql_e1_e9 (w : World) : (binOp .eql 42 (.iface 48 (.int .i64 1)) (.iface 48 (.int .i64 9))).run Try.prog w = .ok (.bool false) w := by kernel_rfl
theorem neq_e1_e9 (w : World) : (binOp .neq 42 (.iface 48 (.int .i64 1)) (.iface 48 (.int .i64 9))).run Try.prog w = .ok (.bool true) w := by kernel_rfl
theorem eql_e7_nil (w : World) : (binOp .eql 42 (.iface 48 (.int .i64 7)) .nilIface).run Try.prog w = .ok (.bool false) w := by kernel_rfl
theorem neq_e7_nil (w : World) : (binOp .neq 42 (.iface 48 (.int .i64 7)) .nilIface).run Try.prog w = .ok (.bool true) w := by kernel_rfl
theorem eql_e7_e1 (w : World) : (binOp .eql 42 (.iface 48 (.int .i64 7)) (.iface 48 (.int .i64 1))).run Try.prog w = .ok (.bool false) w := by kernel_rfl
theorem neq_e7_e1 (w : World) : (binOp .neq 42 (.iface 48 (.int .i64 7)) (.iface 48 (.int .i64 1))).run Try.prog w = .ok (.bool true) w := by kernel_rfl
theorem eql_e7_e7 (w : World) : (binOp .eql 42 (.iface 48 (.int .i64 7)) (.iface 48 (.int .i64 7))).run Try.prog w = .ok (.bool true) w := by kernel_rfl
theorem neq_e7_e7 (w : World) : (binOp .neq 42 (.iface 48 (.int .i64 7)) (.iface 48 (.int .i64 7))).run Try.prog w = .ok (.bool false) w := by kernel_rfl
theorem eql_e7_e8 (w : World) : (binOp .eql 42 (.iface 48 (.int .i64 7)) (.iface 48 (.int .i64 8))).run Try.prog w = .ok (.bool false) w := by kernel_rfl
theorem neq_e7_e8 (w : World) : (binOp .neq 42 (.iface 48 (.int .i64 7)) (.iface 48 (.int .i64 8))).run Try.prog w = .ok (.bool true) w := by kernel_rfl
theorem eql_e7_e9 (w : World) : (binOp .eql 42 (.iface 48 (.int .i64 7)) (.iface 48 (.int .i64 9))).run Try.prog w = .ok (.bool false) w := by kernel_rfl
theorem neq_e7_e9 (w : World) : (binOp .neq 42 (.iface 48 (.int .i64 7)) (.iface 48 (.int .i64 9))).run Try.prog w = .ok (.bool true) w := by kernel_rfl
theorem eql_e8_nil (w : World) : (binOp .eql 42 (.iface 48 (.int .i64 8)) .nilIface).run Try.prog w = .ok (.bool false) w := by kernel_rfl
theorem neq_e8_nil (w : World) : (binOp .neq 42 (.iface 48 (.int .i64 8)) .nilIface).run Try.prog w = .ok (.bool true) w := by kernel_rfl
theorem eql_e8_e1 (w : World) : (binOp .eql 42 (.iface 48 (.int .i64 8)) (.iface 48 (.int .i64 1))).run Try.prog w = .ok (.bool false) w := by kernel_rfl
theorem neq_e8_e1 (w : World) : (binOp .neq 42 (.iface 48 (.int .i64 8)) (.iface 48 (.int .i64 1))).run Try.prog w = .ok (.bool true) w := by kernel_rfl
theorem eql_e8_e7 (w : World) : (binOp .eql 42 (.iface 48 (.int .i64 8)) (.iface 48 (.int .i64 7))).run Try.prog w = .ok (.bool false) w := by kernel_rfl
theorem neq_e8_e7 (w : World) : (binOp .neq 42 (.iface 48 (.int .i64 8)) (.iface 48 (.int .i64 7))).run Try.prog w = .ok (.bool true) w := by kernel_rfl
theorem eql_e8_e8 (w : World) : (binOp .eql 42 (.iface 48 (.int .i64 8)) (.iface 48 (.int .i64 8))).run Try.prog w = .ok (.bool true) w := by kernel_rfl
theorem neq_e8_e8 (w : World) : (binOp .neq 42 (.iface 48 (.int .i64 8)) (.iface 48 (.int .i64 8))).run Try.prog w = .ok (.bool false) w := by kernel_rfl
theorem eql_e8_e9 (w : World) : (binOp .eql 42 (.iface 48 (.int .i64 8)) (.iface 48 (.int .i64 9))).run Try.prog w = .ok (.bool false) w := by kernel_rfl
theorem neq_e8_e9 (w : World) : (binOp .neq 42 (.iface 48 (.int .i64 8)) (.iface 48 (.int .i64 9))).run Try.prog w = .ok (.bool true) w := by kernel_rfl
theorem eql_e9_nil (w : World) : (binOp .eql 42 (.iface 48 (.int .i64 9)) .nilIface).run Try.prog w = .ok (.bool false) w := by kernel_rfl
theorem neq_e9_nil (w : World) : (binOp .neq 42 (.iface 48 (.int .i64 9)) .nilIface).run Try.prog w = .ok (.bool true) w := by kernel_rfl
theorem eql_e9_e1 (w : World) : (binOp .eql 42 (.iface 48 (.int .i64 9)) (.iface 48 (.int .i64 1))).run Try.prog w = .ok (.bool false) w := by kernel_rfl
theorem neq_e9_e1 (w : World) : (binOp .neq 42 (.iface 48 (.int .i64 9)) (.iface 48 (.int .i64 1))).run Try.prog w = .ok (.bool true) w := by kernel_rfl
theorem eql_e9_e7 (w : World) : (binOp .eql 42 (.iface 48 (.int .i64 9)) (.iface 48 (.int .i64 7))).run Try.prog w = .ok (.bool false) w := by kernel_rfl
theorem neq_e9_e7 (w : World) : (binOp .neq 42 (.iface 48 (.int .i64 9)) (.iface 48 (.int .i64 7))).run Try.prog w = .ok (.bool true) w := by kernel_rfl
theorem eql_e9_e8 (w : World) : (binOp .eql 42 (.iface 48 (.int .i64 9)) (.iface 48 (.int .i64 8))).run Try.prog w = .ok (.bool false) w := by kernel_rfl
theorem neq_e9_e8 (w : World) : (binOp .neq 42 (.iface 48 (.int .i64 9)) (.iface 48 (.int .i64 8))).run Try.prog w = .ok (.bool true) w := by kernel_rfl
theorem eql_e9_e9 (w : World) : (binOp .eql 42 (.iface 48 (.int .i64 9)) (.iface 48 (.int .i64 9))).run Try.prog w = .ok (.bool true) w := by kernel_rfl
theorem neq_e9_e9 (w : World) : (binOp .neq 42 (.iface 48 (.int .i64 9)) (.iface 48 (.int .i64 9))).run Try.prog w = .ok (.bool false) w := by kernel_rfl

theorem some_any (v : Nat) (w : World) : Calls Try.prog 17 #[.int .u8 v] w fun e w' => e = .returned (.slice (some ⟨w.heap.size, 0, none⟩) 64 64) ∧ Arr w' w.heap.size 5 (List.replicate 64 v) ∧ Chg (fun _ => False) w w' := by
  have hmk := make64
  have hA1 : Arr (w.alloc (.cells (bcells z64) 5)) w.heap.size 5 z64 := Arr.new w 5 _
  have hG1 : Chg (fun _ => False) w (w.alloc (.cells (bcells z64) 5)) := (Chg.refl _ _).alloc _
  go_enter Try.func17, Try.ntmps17
  go_wp2_with fail
  clear hmk
  generalize hq : w.heap.size = q at *
  have hqs := Nat.le_of_eq hq
  have HQ := hyd hq
  clear hq
  generalize w.alloc (.cells (bcells z64) 5) = w1 at *
  go_loopw [4] (fun t4 wr => ∃ i : Nat, i ≤ 64 ∧ t4 = .int .i64 i ∧ Arr wr q 5 (List.replicate i v ++ List.replicate (64 - i) 0) ∧ Chg (fun _ => False) w wr) (fun t4 _ => 64 - (intOf t4).toNat)
  case atStart => exact ⟨0, by omega, rfl, hA1, hG1⟩
  case round =>
    clear hA1 hG1
    obtain ⟨i, hi, rfl, hA, hG⟩ := hrel
    by_cases hlt : i < 64
    · have hi0 : (0 : Int) ≤ (i : Int) := by omega
      have hi1 : (i : Int) < 64 := by omega
      have c1 := hA.cell i (by simp; omega)
      have f1 := hA.frozen i
      have hA2 := hA.store i v
      have e : (List.replicate i v ++ List.replicate (64 - i) 0).set i v = List.replicate (i + 1) v ++ List.replicate (64 - (i + 1)) 0 := by
        rw [List.set_append_right _ _ (by simp), List.length_replicate, Nat.sub_self, show 64 - i = (64 - (i + 1)) + 1 from by omega, List.replicate_succ, List.set_cons_zero, List.replicate_succ', List.append_assoc]
        rfl
      rw [e] at hA2
      clear e hA
      have hG2 := hG.setCell (g := q) (Or.inr (by omega)) i (.int .u8 (v : Int))
      generalize (List.replicate i v ++ List.replicate (64 - i) 0).getD i 0 = u at *
      go_wp2
      exact ⟨⟨i + 1, by omega, by go_num, hA2, hG2⟩, by simp [intOf]; omega⟩
    · have e : i = 64 := by omega
      subst e
      have hA2 : Arr wr q 5 (List.replicate 64 v) := by
        have e : List.replicate 64 v ++ List.replicate (64 - 64) 0 = List.replicate 64 v := by rw [Nat.sub_self, List.replicate_zero, List.append_nil]
        rw [e] at hA; exact hA
      clear hA
      go_wp2
      go_ret
      rw [HQ.out]
      exact ⟨rfl, hA2, hG⟩
theorem neg_rem11 {c : Int} (h : c < 0) : -((c + 1).tmod 11) = (-(c + 1)) % 11 := by
  rw [← Int.neg_tmod, Int.tmod_eq_emod_of_nonneg (by omega)]
theorem pick_11 (c : Int) (h1 : -9223372036854775808 ≤ c) (h2 : c ≤ 9223372036854775807) (w : World) :
    Calls Try.prog 12 #[.int .i64 c, .int .i64 11] w fun e w' => ∃ k : Nat, k < 11 ∧ e = .returned (.int .i64 (k : Int)) ∧ w' = w := by
  by_cases hc : c < 0
  · have HE := hyd (neg_rem11 hc)
    go_enter Try.func12, Try.ntmps12
    go_wp2
    go_ret
    refine ⟨((-(c + 1)) % 11).toNat, by omega, ?_, rfl⟩
    have e : ((((-(c + 1)) % 11).toNat : Nat) : Int) = -((c + 1).tmod 11) := by rw [HE.out]; omega
    rw [e]; rfl
  · go_enter Try.func12, Try.ntmps12
    go_wp2
    go_ret
    refine ⟨(c % 11).toNat, by omega, ?_, rfl⟩
    have e : (((c % 11).toNat : Nat) : Int) = c % 11 := by omega
    rw [e]; rfl
theorem neg_rem40 {c : Int} (h : c < 0) : -((c + 1).tmod 40) = (-(c + 1)) % 40 := by
  rw [← Int.neg_tmod, Int.tmod_eq_emod_of_nonneg (by omega)]
theorem pick_40 (c : Int) (h1 : -9223372036854775808 ≤ c) (h2 : c ≤ 9223372036854775807) (w : World) :
    Calls Try.prog 12 #[.int .i64 c, .int .i64 40] w fun e w' => ∃ k : Nat, k < 40 ∧ e = .returned (.int .i64 (k : Int)) ∧ w' = w := by
  by_cases hc : c < 0
  · have HE := hyd (neg_rem40 hc)
    go_enter Try.func12, Try.ntmps12
    go_wp2
    go_ret
    refine ⟨((-(c + 1)) % 40).toNat, by omega, ?_, rfl⟩
    have e : ((((-(c + 1)) % 40).toNat : Nat) : Int) = -((c + 1).tmod 40) := by rw [HE.out]; omega
    rw [e]; rfl
  · go_enter Try.func12, Try.ntmps12
    go_wp2
    go_ret
    refine ⟨(c % 40).toNat, by omega, ?_, rfl⟩
    have e : (((c % 40).toNat : Nat) : Int) = c % 40 := by omega
    rw [e]; rfl
theorem neg_rem96 {c : Int} (h : c < 0) : -((c + 1).tmod 96) = (-(c + 1)) % 96 := by
  rw [← Int.neg_tmod, Int.tmod_eq_emod_of_nonneg (by omega)]
theorem pick_96 (c : Int) (h1 : -9223372036854775808 ≤ c) (h2 : c ≤ 9223372036854775807) (w : World) :
    Calls Try.prog 12 #[.int .i64 c, .int .i64 96] w fun e w' => ∃ k : Nat, k < 96 ∧ e = .returned (.int .i64 (k : Int)) ∧ w' = w := by
  by_cases hc : c < 0
  · have HE := hyd (neg_rem96 hc)
    go_enter Try.func12, Try.ntmps12
    go_wp2
    go_ret
    refine ⟨((-(c + 1)) % 96).toNat, by omega, ?_, rfl⟩
    have e : ((((-(c + 1)) % 96).toNat : Nat) : Int) = -((c + 1).tmod 96) := by rw [HE.out]; omega
    rw [e]; rfl
  · go_enter Try.func12, Try.ntmps12
    go_wp2
    go_ret
    refine ⟨(c % 96).toNat, by omega, ?_, rfl⟩
    have e : (((c % 96).toNat : Nat) : Int) = c % 96 := by omega
    rw [e]; rfl
theorem Arr.heldFull {w : World} {g : Nat} {t : TypeId} {l : List Nat} (h : Arr w g t l) (n cap : Nat) (hn : n = l.length) : Held w (.slice (some ⟨g, 0, none⟩) n cap) l :=
  h.held 0 n cap l hn (by omega) (fun i _ => by rw [Nat.zero_add])
/-- The chips of the examples. -/
def sh1 : Chp := rdS newS 0
def sh2 : Chp := (writeR sh1 0 3 (List.replicate 64 7)).1
def sh3 : Chp := (flipR sh2 0 1536).1
def sh4 : Chp := rdS sh3 0
theorem sh2_code : (writeR sh1 0 3 (List.replicate 64 7)).2 = 0 := by decide +kernel
theorem sh3_code : (flipR sh2 0 1536).2 = 0 := by decide +kernel
theorem sh5_code : (writeR sh4 0 3 (List.replicate 64 7)).2 = 9 := by decide +kernel
theorem sh1_ok : sh1.Ok := rdS_ok newS_ok 0
theorem sh2_ok : sh2.Ok := writeR_ok sh1_ok 0 3 (bys_rep _ _ (by omega))
theorem sh3_ok : sh3.Ok := flipR_ok sh2_ok 0 1536
theorem sh4_ok : sh4.Ok := rdS_ok sh3_ok 0
theorem sh3_on : sh3.on = true := by decide +kernel
theorem sh_p : (pgTo newS 0 4).getD 0 0 = 255 := by decide +kernel
theorem sh_q : (pgTo sh3 0 4).getD 192 0 = 6 := by decide +kernel
theorem sh_d : dmg (sh4.ch (4 * 0 + 3)) = 1 := by decide +kernel
theorem sh_w : (sh4.ch (4 * 0 + 3)).worst = 1 := by decide +kernel
end Go.Proofs.Ytfjgnplplafniaa
