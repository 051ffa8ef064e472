/-
  A word's kind; how many numbers a kind has; what is thrown. Condition: the variables hold what they were given.
-/
import Derived.Test.YtepbfdbooobnlaaGreatDoorSN
namespace Go.Proofs.YtepbfdbooobnlaaGreatDoor
set_option maxRecDepth 100000
open Go.RowKit
theorem wds_arr : (wds.map sy).toArray = #[sy (wk 0), sy (wk 1), sy (wk 2), sy (wk 3), sy (wk 4), sy (wk 5), sy (wk 6), sy (wk 7), sy (wk 8), sy (wk 9), sy (wk 10)] := rfl
theorem idx_words (w : World) (i : Nat) (hi : i < 11) : (Instr.index 73 (.agg (wds.map sy).toArray) (.int .i64 i)).run Tryz.prog w = .ok (.string (sb (wk i))) w := by
  have h : i = 0 ∨ i = 1 ∨ i = 2 ∨ i = 3 ∨ i = 4 ∨ i = 5 ∨ i = 6 ∨ i = 7 ∨ i = 8 ∨ i = 9 ∨ i = 10 := by omega
  rcases h with h | h | h | h | h | h | h | h | h | h | h <;> subst h <;> rfl
theorem seq_true {a b : ByteArray} (h : a = b) : (a.toList == b.toList) = true := by subst h; exact beq_self_eq_true _
theorem seq_false {a b : ByteArray} (h : a ≠ b) : (a.toList == b.toList) = false := by
  rw [beq_eq_false_iff_ne]
  intro e
  rw [ByteArray.toList_eq, ByteArray.toList_eq] at e
  exact h (Go.WideShapes.bytes_inj e)
theorem sb_inj {a b : List UInt8} (h : sb a = sb b) : a = b := by
  have := congrArg (fun s => s.data.toList) h
  exact this
set_option maxHeartbeats 1000000 in
theorem kindOf_any (X : ByteArray) (l : List UInt8) (hX : X = sb l) (w : World) (hG : Gl w) :
    Calls Tryz.prog 39 #[.string X] w fun e w' => e = .returned (.int .i64 (kd l)) ∧ w' = w := by
  have HG := hyd hG
  have HX := hyd hX
  clear hX hG
  go_enter Tryz.func39, Tryz.ntmps39
  go_wp2_with (first | (refine wpList_load_mid rfl 73 (.global 0) rfl 0 0 rfl _ _ HG.out.words Tryz.underlying73 rfl (by kernel_rfl) ?_))
  generalize hA : (wds.map sy).toArray = A at *
  have HA := hyd hA
  clear hA
  go_loopg [6] 11 (fun kx s6 wr => ∃ i : Nat, s6 = .int .i64 i ∧ i ≤ 11 ∧ 11 - i ≤ kx ∧ Hid (wr = w) ∧ Hid (∀ k, k < i → k ≠ 0 → wk k ≠ l))
  case atStart => exact ⟨0, rfl, by omega, by omega, rfl, fun k hk => by omega⟩
  case round =>
  obtain ⟨i, rfl, hi, hkx, HW, HM⟩ := hrel
  obtain rfl := HW.out
  by_cases hlt : i < 11
  · have hltz : (i : Int) < 11 := by omega
    have hix : ∀ w, (Instr.index 73 (.agg A) (.int .i64 i)).run Tryz.prog w = .ok (.string (sb (wk i))) w := fun w => by rw [← HA.out]; exact idx_words w i hlt
    generalize hB : sb (wk i) = B at *
    have HB := hyd hB
    clear hB
    by_cases h0 : i = 0
    · subst h0
      have hix0 : ∀ w, (Instr.index 73 (.agg A) (.int .i64 0)).run Tryz.prog w = .ok (.string B) w := hix
      go_wp2
      go_roundg (11 - 1)
      case measure => omega
      case rel => exact ⟨1, rfl, by omega, Nat.le_refl _, rfl, fun k hk h => by omega⟩
    · have hnz : ((i : Int) != 0) = true := by simp; omega
      by_cases e : B = X
      · have he := seq_true e
        have HK := hyd (kd_hit h0 (sb_inj ((HB.out.trans e).trans HX.out)) hlt)
        clear e
        go_wp2
        go_ret
        rw [HK.out]
        exact ⟨rfl, rfl⟩
      · have he := seq_false e
        have HE : Hid (wk i ≠ l) := fun h => e (HB.out.symm.trans (by rw [h]; exact HX.out.symm))
        clear e
        go_wp2
        go_roundg (11 - (i + 1))
        case measure => omega
        case rel =>
          refine ⟨i + 1, by simp, by omega, Nat.le_refl _, rfl, fun k hk h2 => ?_⟩
          by_cases hk2 : k = i
          · rw [hk2]; exact HE.out
          · exact HM.out k (by omega) h2
  · have hltz : ¬ (i : Int) < 11 := by omega
    have HK : Hid (kd l = 0) := kdN_miss (fun k hk h => HM.out k (by omega) h) 11 (Nat.le_refl _)
    go_wp2
    go_ret
    rw [HK.out]
    exact ⟨rfl, rfl⟩
theorem numbers_any (k : Nat) (hk : k ≤ 10) (w : World) : Calls Tryz.prog 28 #[.int .i64 k] w fun e w' => e = .returned (.int .i64 (cnt k)) ∧ w' = w := by
  have h : k = 0 ∨ k = 1 ∨ k = 2 ∨ k = 3 ∨ k = 4 ∨ k = 5 ∨ k = 6 ∨ k = 7 ∨ k = 8 ∨ k = 9 ∨ k = 10 := by omega
  rcases h with h | h | h | h | h | h | h | h | h | h | h <;> subst h <;> (
    go_enter Tryz.func28, Tryz.ntmps28
    go_wp2
    go_ret
    exact ⟨rfl, rfl⟩)
/-- What is thrown: a fault with its place. -/
def fcell (n p c : Int) : Array Value := #[.int .i64 n, .int .i64 p, .iface 52 (.int .i64 c)]
theorem giveUp_any (g : Nat) (n : Int) (s : ByteArray) (q : Nat) (p c : Int) (w : World) (hl : Li w g n s q) :
    Calls Tryz.prog 40 #[.pointer (some ⟨g, 0, none⟩), .int .i64 p, .int .i64 c] w fun e w' => e = .panicked [{ v := .iface 68 (.pointer (some ⟨w.heap.size, 0, none⟩)), recovered := false }] ∧ w' = w.alloc (.cells (fcell n p c) 70) := by
  have c0 := hl.c0
  clear hl
  go_enter Tryz.func40, Tryz.ntmps40
  go_wp2
  exact ⟨rfl, rfl, rfl⟩
end Go.Proofs.YtepbfdbooobnlaaGreatDoor
