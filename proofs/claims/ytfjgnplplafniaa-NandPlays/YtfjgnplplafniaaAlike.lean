/-
  What both chips answer, told alike. Conditions: they stand alike.
-/
import Derived.Test.YtfjgnplplafniaaClone
import Derived.Test.YtfjgnplplafniaaRClone
import Derived.Test.YtfjgnplplafniaaTight
namespace Go.Proofs.Ytfjgnplplafniaa
open Go.RowKit
set_option maxRecDepth 100000

theorem eql_e7_c2 (w : World) : (binOp .eql 42 (.iface 48 (.int .i64 7)) (.iface 48 (.int .i64 2))).run Try.prog w = .ok (.bool false) w := by kernel_rfl
theorem eql_e7_c3 (w : World) : (binOp .eql 42 (.iface 48 (.int .i64 7)) (.iface 48 (.int .i64 3))).run Try.prog w = .ok (.bool false) w := by kernel_rfl
theorem eql_e7_c4 (w : World) : (binOp .eql 42 (.iface 48 (.int .i64 7)) (.iface 48 (.int .i64 4))).run Try.prog w = .ok (.bool false) w := by kernel_rfl
theorem eql_e7_c5 (w : World) : (binOp .eql 42 (.iface 48 (.int .i64 7)) (.iface 48 (.int .i64 5))).run Try.prog w = .ok (.bool false) w := by kernel_rfl
theorem eql_e7_c6 (w : World) : (binOp .eql 42 (.iface 48 (.int .i64 7)) (.iface 48 (.int .i64 6))).run Try.prog w = .ok (.bool false) w := by kernel_rfl
theorem eql_e8_c2 (w : World) : (binOp .eql 42 (.iface 48 (.int .i64 8)) (.iface 48 (.int .i64 2))).run Try.prog w = .ok (.bool false) w := by kernel_rfl
theorem eql_e8_c3 (w : World) : (binOp .eql 42 (.iface 48 (.int .i64 8)) (.iface 48 (.int .i64 3))).run Try.prog w = .ok (.bool false) w := by kernel_rfl
theorem eql_e8_c4 (w : World) : (binOp .eql 42 (.iface 48 (.int .i64 8)) (.iface 48 (.int .i64 4))).run Try.prog w = .ok (.bool false) w := by kernel_rfl
theorem eql_e8_c5 (w : World) : (binOp .eql 42 (.iface 48 (.int .i64 8)) (.iface 48 (.int .i64 5))).run Try.prog w = .ok (.bool false) w := by kernel_rfl
theorem eql_e8_c6 (w : World) : (binOp .eql 42 (.iface 48 (.int .i64 8)) (.iface 48 (.int .i64 6))).run Try.prog w = .ok (.bool false) w := by kernel_rfl
theorem eql_e9_c2 (w : World) : (binOp .eql 42 (.iface 48 (.int .i64 9)) (.iface 48 (.int .i64 2))).run Try.prog w = .ok (.bool false) w := by kernel_rfl
theorem eql_e9_c3 (w : World) : (binOp .eql 42 (.iface 48 (.int .i64 9)) (.iface 48 (.int .i64 3))).run Try.prog w = .ok (.bool false) w := by kernel_rfl
theorem eql_e9_c4 (w : World) : (binOp .eql 42 (.iface 48 (.int .i64 9)) (.iface 48 (.int .i64 4))).run Try.prog w = .ok (.bool false) w := by kernel_rfl
theorem eql_e9_c5 (w : World) : (binOp .eql 42 (.iface 48 (.int .i64 9)) (.iface 48 (.int .i64 5))).run Try.prog w = .ok (.bool false) w := by kernel_rfl
theorem eql_e9_c6 (w : World) : (binOp .eql 42 (.iface 48 (.int .i64 9)) (.iface 48 (.int .i64 6))).run Try.prog w = .ok (.bool false) w := by kernel_rfl
theorem code_0 (w : World) : Calls Try.prog 27 #[errV 0] w fun e w' => e = .returned (.int .i64 0) ∧ w' = w := by
  have q0 := eql_nil_nil
  show Calls Try.prog 27 #[.nilIface] w _
  go_enter Try.func27, Try.ntmps27
  go_wp2
  go_ret
  exact ⟨rfl, rfl⟩
theorem code_1 (w : World) : Calls Try.prog 27 #[errV 1] w fun e w' => e = .returned (.int .i64 1) ∧ w' = w := by
  have q0 := eql_e1_nil
  have q1 := eql_e1_e1
  show Calls Try.prog 27 #[.iface 48 (.int .i64 1)] w _
  go_enter Try.func27, Try.ntmps27
  go_wp2
  go_ret
  exact ⟨rfl, rfl⟩
theorem code_7 (w : World) : Calls Try.prog 27 #[errV 7] w fun e w' => e = .returned (.int .i64 7) ∧ w' = w := by
  have q0 := eql_e7_nil
  have q1 := eql_e7_e1
  have q2 := eql_e7_c2
  have q3 := eql_e7_c3
  have q4 := eql_e7_c4
  have q5 := eql_e7_c5
  have q6 := eql_e7_c6
  have q7 := eql_e7_e7
  show Calls Try.prog 27 #[.iface 48 (.int .i64 7)] w _
  go_enter Try.func27, Try.ntmps27
  go_wp2
  go_ret
  exact ⟨rfl, rfl⟩
theorem code_8 (w : World) : Calls Try.prog 27 #[errV 8] w fun e w' => e = .returned (.int .i64 8) ∧ w' = w := by
  have q0 := eql_e8_nil
  have q1 := eql_e8_e1
  have q2 := eql_e8_c2
  have q3 := eql_e8_c3
  have q4 := eql_e8_c4
  have q5 := eql_e8_c5
  have q6 := eql_e8_c6
  have q7 := eql_e8_e7
  have q8 := eql_e8_e8
  show Calls Try.prog 27 #[.iface 48 (.int .i64 8)] w _
  go_enter Try.func27, Try.ntmps27
  go_wp2
  go_ret
  exact ⟨rfl, rfl⟩
theorem code_9 (w : World) : Calls Try.prog 27 #[errV 9] w fun e w' => e = .returned (.int .i64 9) ∧ w' = w := by
  have q0 := eql_e9_nil
  have q1 := eql_e9_e1
  have q2 := eql_e9_c2
  have q3 := eql_e9_c3
  have q4 := eql_e9_c4
  have q5 := eql_e9_c5
  have q6 := eql_e9_c6
  have q7 := eql_e9_e7
  have q8 := eql_e9_e8
  have q9 := eql_e9_e9
  show Calls Try.prog 27 #[.iface 48 (.int .i64 9)] w _
  go_enter Try.func27, Try.ntmps27
  go_wp2
  go_ret
  exact ⟨rfl, rfl⟩

/-- A number of an error that the chip answers. -/
def IsCode (c : Nat) : Prop := c = 0 ∨ c = 1 ∨ c = 7 ∨ c = 8 ∨ c = 9
theorem code_any (c : Nat) (h : IsCode c) (w : World) : Calls Try.prog 27 #[errV c] w fun e w' => e = .returned (.int .i64 c) ∧ w' = w := by
  rcases h with rfl | rfl | rfl | rfl | rfl
  · exact code_0 w
  · exact code_1 w
  · exact code_7 w
  · exact code_8 w
  · exact code_9 w
theorem writeR_code (s : Chp) (a k : Int) (l : List Nat) : IsCode (writeR s a k l).2 := by
  unfold writeR IsCode
  split
  · simp
  · split
    · simp
    · split
      · simp
      · split
        · simp
        · split <;> simp
theorem eraseR_code (s : Chp) (a : Int) : IsCode (eraseR s a).2 := by
  unfold eraseR IsCode
  split
  · simp
  · split
    · simp
    · split
      · simp
      · split <;> simp
theorem flipR_code (s : Chp) (a b : Int) : IsCode (flipR s a b).2 := by unfold flipR IsCode; split <;> simp
theorem cutR_code (s : Chp) (a : Int) : IsCode (cutR s a).2 := by unfold cutR IsCode; split <;> simp
theorem failPR_code (s : Chp) (a b : Int) : IsCode (failPR s a b).2 := by unfold failPR IsCode; split <;> simp
theorem failER_code (s : Chp) (a : Int) : IsCode (failER s a).2 := by unfold failER IsCode; split <;> simp

/-- What is told of a chunk's damage. -/
def dmgV (s : Chp) (a k : Int) : Nat × Nat × Nat := if 0 ≤ a ∧ a < 96 ∧ 0 ≤ k ∧ k < 4 then (dmg (s.ch (4 * a.toNat + k.toNat)), (s.ch (4 * a.toNat + k.toNat)).worst, 0) else (0, 0, 1)
/-- What is told of a chunk's truth. -/
def truV (s : Chp) (a k : Int) : List Nat × Bool × Nat := if 0 ≤ a ∧ a < 96 ∧ 0 ≤ k ∧ k < 4 then ((s.ch (4 * a.toNat + k.toNat)).tru, (s.ch (4 * a.toNat + k.toNat)).is, 0) else ([], false, 1)
def rdsV (s : Chp) (a : Int) : Int × Nat := if 0 ≤ a ∧ a < 12 then ((s.bl a.toNat).reads, 0) else (0, 1)
def fldV (s : Chp) (a : Int) : Bool × Nat := if 0 ≤ a ∧ a < 12 then ((s.bl a.toNat).failed, 0) else (false, 1)
theorem dmgV_code (s : Chp) (a k : Int) : IsCode (dmgV s a k).2.2 := by unfold dmgV IsCode; split <;> simp
theorem truV_code (s : Chp) (a k : Int) : IsCode (truV s a k).2.2 := by unfold truV IsCode; split <;> simp
theorem rdsV_code (s : Chp) (a : Int) : IsCode (rdsV s a).2 := by unfold rdsV IsCode; split <;> simp
theorem fldV_code (s : Chp) (a : Int) : IsCode (fldV s a).2 := by unfold fldV IsCode; split <;> simp
theorem truV_len {s : Chp} (hs : s.Ok) (a k : Int) : (truV s a k).1.length = 64 ∨ (truV s a k).1 = [] := by
  unfold truV
  split
  · exact Or.inl (hs.ch _).tru
  · exact Or.inr rfl
theorem damage_v (g : Nat) (s : Chp) (hs : s.Ok) (a k : Int) (w : World) (h : ChipAt w g s) :
    Calls Try.prog 23 #[.pointer (some ⟨g, 0, none⟩), .int .i64 a, .int .i64 k] w fun e w' => e = .returned (.tuple #[.int .i64 (dmgV s a k).1, .int .i64 (dmgV s a k).2.1, errV (dmgV s a k).2.2]) ∧ Chg (fun _ => False) w w' := by
  unfold dmgV
  by_cases hc : 0 ≤ a ∧ a < 96 ∧ 0 ≤ k ∧ k < 4
  · rw [if_pos hc]
    obtain ⟨a, rfl⟩ := Int.eq_ofNat_of_zero_le hc.1
    obtain ⟨k, rfl⟩ := Int.eq_ofNat_of_zero_le hc.2.2.1
    exact damage_yes g s hs a k (by omega) (by omega) w h
  · rw [if_neg hc]
    exact damage_no g a k (by omega) w
theorem rdamage_v (r : Nat) (s : Chp) (hs : s.Ok) (F : Nat → Prop) (a k : Int) (w : World) (h : RefAt w r s F) :
    Calls Try.prog 44 #[.pointer (some ⟨r, 0, none⟩), .int .i64 a, .int .i64 k] w fun e w' => e = .returned (.tuple #[.int .i64 (dmgV s a k).1, .int .i64 (dmgV s a k).2.1, .int .i64 (dmgV s a k).2.2]) ∧ Chg (fun _ => False) w w' := by
  unfold dmgV
  by_cases hc : 0 ≤ a ∧ a < 96 ∧ 0 ≤ k ∧ k < 4
  · rw [if_pos hc]
    obtain ⟨a, rfl⟩ := Int.eq_ofNat_of_zero_le hc.1
    obtain ⟨k, rfl⟩ := Int.eq_ofNat_of_zero_le hc.2.2.1
    exact rdamage_yes r s hs F a k (by omega) (by omega) w h
  · rw [if_neg hc]
    exact rdamage_no r a k (by omega) w
theorem truth_v (g : Nat) (s : Chp) (hs : s.Ok) (a k : Int) (w : World) (h : ChipAt w g s) :
    Calls Try.prog 14 #[.pointer (some ⟨g, 0, none⟩), .int .i64 a, .int .i64 k] w fun e w' => ∃ ad n cap, e = .returned (.tuple #[.slice ad n cap, .bool (truV s a k).2.1, errV (truV s a k).2.2]) ∧ n = (truV s a k).1.length ∧ OwnT w' w.heap.size 5 (.slice ad n cap) (truV s a k).1 ∧ Chg (fun _ => False) w w' := by
  unfold truV
  by_cases hc : 0 ≤ a ∧ a < 96 ∧ 0 ≤ k ∧ k < 4
  · rw [if_pos hc]
    obtain ⟨a, rfl⟩ := Int.eq_ofNat_of_zero_le hc.1
    obtain ⟨k, rfl⟩ := Int.eq_ofNat_of_zero_le hc.2.2.1
    refine (truth_yes g s hs a k (by omega) (by omega) w h).mono ?_
    rintro e w' ⟨rfl, hA, hG⟩
    exact ⟨_, _, _, rfl, (hs.ch _).tru.symm, hA.own (Nat.le_refl _) 64 (hs.ch _).tru.symm (by unfold maxLen; omega), hG⟩
  · rw [if_neg hc]
    refine (truth_no g a k (by omega) w).mono ?_
    rintro e w' ⟨rfl, hG⟩
    exact ⟨_, _, _, rfl, rfl, Or.inl (Own.nil _ _ _), hG⟩
theorem rtruth_v (r : Nat) (s : Chp) (hs : s.Ok) (F : Nat → Prop) (a k : Int) (w : World) (h : RefAt w r s F) :
    Calls Try.prog 45 #[.pointer (some ⟨r, 0, none⟩), .int .i64 a, .int .i64 k] w fun e w' => ∃ ad n cap, e = .returned (.tuple #[.slice ad n cap, .bool (truV s a k).2.1, .int .i64 (truV s a k).2.2]) ∧ n = (truV s a k).1.length ∧ Held w' (.slice ad n cap) (truV s a k).1 ∧ (ad = none → n = 0 ∧ cap = 0) ∧ (∀ x, (Value.slice ad n cap).ownBlock = some x → F x) ∧ Chg (fun _ => False) w w' := by
  unfold truV
  by_cases hc : 0 ≤ a ∧ a < 96 ∧ 0 ≤ k ∧ k < 4
  · rw [if_pos hc]
    obtain ⟨a, rfl⟩ := Int.eq_ofNat_of_zero_le hc.1
    obtain ⟨k, rfl⟩ := Int.eq_ofNat_of_zero_le hc.2.2.1
    refine (rtruth_yes r s F a k (by omega) (by omega) w h).mono ?_
    rintro e w' ⟨gt, ct, rfl, hB, hF, hG⟩
    exact ⟨_, _, _, rfl, (hs.ch _).tru.symm, hB.held 64 ct (hs.ch _).tru.symm, (fun e => by cases e), (fun x e => (Option.some.inj e) ▸ hF), hG⟩
  · rw [if_neg hc]
    refine (rtruth_no r a k (by omega) w).mono ?_
    rintro e w' ⟨rfl, hG⟩
    exact ⟨_, _, _, rfl, rfl, ⟨none, 0, rfl, Or.inl rfl⟩, fun _ => ⟨rfl, rfl⟩, (fun x e => by cases e), hG⟩
theorem reads_v (g : Nat) (s : Chp) (a : Int) (w : World) (h : ChipAt w g s) :
    Calls Try.prog 65 #[.pointer (some ⟨g, 0, none⟩), .int .i64 a] w fun e w' => e = .returned (.tuple #[.int .i64 (rdsV s a).1, errV (rdsV s a).2]) ∧ Chg (fun _ => False) w w' := by
  unfold rdsV
  by_cases hc : 0 ≤ a ∧ a < 12
  · rw [if_pos hc]
    obtain ⟨a, rfl⟩ := Int.eq_ofNat_of_zero_le hc.1
    exact reads_yes g s a (by omega) w h
  · rw [if_neg hc]
    exact reads_no g a (by omega) w
theorem rreads_v (r : Nat) (s : Chp) (F : Nat → Prop) (a : Int) (w : World) (h : RefAt w r s F) :
    Calls Try.prog 66 #[.pointer (some ⟨r, 0, none⟩), .int .i64 a] w fun e w' => e = .returned (.tuple #[.int .i64 (rdsV s a).1, .int .i64 (rdsV s a).2]) ∧ Chg (fun _ => False) w w' := by
  unfold rdsV
  by_cases hc : 0 ≤ a ∧ a < 12
  · rw [if_pos hc]
    obtain ⟨a, rfl⟩ := Int.eq_ofNat_of_zero_le hc.1
    exact rreads_yes r s F a (by omega) w h
  · rw [if_neg hc]
    exact rreads_no r a (by omega) w
theorem failed_v (g : Nat) (s : Chp) (a : Int) (w : World) (h : ChipAt w g s) :
    Calls Try.prog 67 #[.pointer (some ⟨g, 0, none⟩), .int .i64 a] w fun e w' => e = .returned (.tuple #[.bool (fldV s a).1, errV (fldV s a).2]) ∧ Chg (fun _ => False) w w' := by
  unfold fldV
  by_cases hc : 0 ≤ a ∧ a < 12
  · rw [if_pos hc]
    obtain ⟨a, rfl⟩ := Int.eq_ofNat_of_zero_le hc.1
    exact failed_yes g s a (by omega) w h
  · rw [if_neg hc]
    exact failed_no g a (by omega) w
theorem rfailed_v (r : Nat) (s : Chp) (F : Nat → Prop) (a : Int) (w : World) (h : RefAt w r s F) :
    Calls Try.prog 68 #[.pointer (some ⟨r, 0, none⟩), .int .i64 a] w fun e w' => e = .returned (.tuple #[.bool (fldV s a).1, .int .i64 (fldV s a).2]) ∧ Chg (fun _ => False) w w' := by
  unfold fldV
  by_cases hc : 0 ≤ a ∧ a < 12
  · rw [if_pos hc]
    obtain ⟨a, rfl⟩ := Int.eq_ofNat_of_zero_le hc.1
    exact rfailed_yes r s F a (by omega) w h
  · rw [if_neg hc]
    exact rfailed_no r a (by omega) w
/-- A page that is read: the chip then, its bytes, the error. -/
def readV (s : Chp) (a : Int) : Chp × List Nat × Nat := if ¬ (0 ≤ a ∧ a < 96) then (s, [], 1) else if s.on = false then (s, [], 7) else (rdS s a.toNat, pgTo s a.toNat 4, 0)
theorem readV_code (s : Chp) (a : Int) : IsCode (readV s a).2.2 := by
  unfold readV IsCode
  split
  · simp
  · split <;> simp
theorem readV_ok {s : Chp} (h : s.Ok) (a : Int) : (readV s a).1.Ok := by
  unfold readV
  split
  · exact h
  · split
    · exact h
    · exact rdS_ok h _
theorem readV_len {s : Chp} (h : s.Ok) (a : Int) : (readV s a).2.1.length = 256 ∨ (readV s a).2.1 = [] := by
  unfold readV
  split
  · exact Or.inr rfl
  · split
    · exact Or.inr rfl
    · exact Or.inl (pgTo_length h _ 4)
theorem read_v (g : Nat) (s : Chp) (hs : s.Ok) (a : Int) (w : World) (h : ChipAt w g s) :
    Calls Try.prog 18 #[.pointer (some ⟨g, 0, none⟩), .int .i64 a] w fun e w' => ∃ ad n cap, e = .returned (.tuple #[.slice ad n cap, errV (readV s a).2.2]) ∧ n = (readV s a).2.1.length ∧ OwnT w' w.heap.size 5 (.slice ad n cap) (readV s a).2.1 ∧ ChipAt w' g (readV s a).1 ∧ Chg (· = g) w w' := by
  unfold readV
  by_cases hc : 0 ≤ a ∧ a < 96
  · rw [if_neg (by simpa using hc)]
    cases hon : s.on with
    | false =>
      rw [if_pos rfl]
      refine (read_off g s a hc.1 hc.2 w h hon).mono ?_
      rintro e w' ⟨rfl, hG⟩
      exact ⟨_, _, _, rfl, rfl, Or.inl (Own.nil _ _ _), h.chg hG (fun f => f), hG.mono (fun _ _ f => f.elim)⟩
    | true =>
      rw [if_neg (by simp)]
      obtain ⟨a, rfl⟩ := Int.eq_ofNat_of_zero_le hc.1
      refine (read_yes g s hs a (by omega) w h hon).mono ?_
      rintro e w' ⟨rfl, hA, hC, hG⟩
      exact ⟨_, _, _, rfl, (pgTo_length hs a 4).symm, hA.own (Nat.le_refl _) 256 (pgTo_length hs a 4).symm (by unfold maxLen; omega), hC, hG⟩
  · rw [if_pos (by simpa using hc)]
    refine (read_no g a (by omega) w).mono ?_
    rintro e w' ⟨rfl, hG⟩
    exact ⟨_, _, _, rfl, rfl, Or.inl (Own.nil _ _ _), h.chg hG (fun f => f), hG.mono (fun _ _ f => f.elim)⟩
theorem rread_v (r : Nat) (s : Chp) (hs : s.Ok) (F : Nat → Prop) (a : Int) (w : World) (h : RefAt w r s F) :
    Calls Try.prog 26 #[.pointer (some ⟨r, 0, none⟩), .int .i64 a] w fun e w' => ∃ ad n cap, e = .returned (.tuple #[.slice ad n cap, .int .i64 (readV s a).2.2]) ∧ n = (readV s a).2.1.length ∧ Own w' w.heap.size 5 (.slice ad n cap) (readV s a).2.1 ∧ RefAt w' r (readV s a).1 F ∧ Chg F w w' := by
  unfold readV
  by_cases hc : 0 ≤ a ∧ a < 96
  · rw [if_neg (by simpa using hc)]
    cases hon : s.on with
    | false =>
      rw [if_pos rfl]
      refine (rread_off r s F a hc.1 hc.2 w h hon).mono ?_
      rintro e w' ⟨rfl, hG⟩
      exact ⟨_, _, _, rfl, rfl, Own.nil _ _ _, h.chg hG (fun _ _ f => f), hG.mono (fun _ _ f => f.elim)⟩
    | true =>
      rw [if_neg (by simp)]
      obtain ⟨a, rfl⟩ := Int.eq_ofNat_of_zero_le hc.1
      refine (rread_yes r s hs F a (by omega) w h hon).mono ?_
      rintro e w' ⟨v, rfl, hO, hR, hG⟩
      obtain ⟨g, cap, rfl, -, -, -⟩ := hO.by (by rw [pgTo_length hs]; decide)
      exact ⟨_, _, _, rfl, rfl, hO, hR, hG⟩
  · rw [if_pos (by simpa using hc)]
    refine (rread_no r a (by omega) w).mono ?_
    rintro e w' ⟨rfl, hG⟩
    exact ⟨_, _, _, rfl, rfl, Own.nil _ _ _, h.chg hG (fun _ _ f => f), hG.mono (fun _ _ f => f.elim)⟩
end Go.Proofs.Ytfjgnplplafniaa
