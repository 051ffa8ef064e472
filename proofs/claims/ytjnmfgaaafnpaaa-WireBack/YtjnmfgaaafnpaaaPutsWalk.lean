/-
  WirePuts, walked: whatever the number and the size, Put answers as the document says. Condition: the arguments are of their types.
-/
import Derived.Test.YtjnmfgaaafnpaaaShow
namespace Go.Proofs.Ytjnmfgaaafnpaaa
open Go.RowKit
set_option maxRecDepth 100000

theorem u64_nat {a : Int} (h : (Lit.int .u64 a).wf = true) : ∃ v : Nat, a = v ∧ v < 18446744073709551616 := by
  have := bounds_u64 h
  exact ⟨a.toNat, by omega, by omega⟩
set_option maxHeartbeats 4000000 in
theorem puts_walk (a0 : Int) (a1 : Int) (w0 : (Lit.int .u64 a0).wf = true) (_w1 : (Lit.int .i64 a1).wf = true) (w : World) :
    Calls Try.prog 3 #[.int .u64 a0, .int .i64 a1] w fun e w' => e = .returned (.bool true) ∧ Below w.heap.size w w' := by
  obtain ⟨v, rfl, hv⟩ := u64_nat w0
  clear w0
  by_cases hs : a1 < 1 ∨ 8 < a1
  · have hcall := fun w => put_arg w v a1 hs
    have q1 := eql_arg_arg
    rcases hs with hs | hs
    · go_enter Try.func3, Try.ntmps3
      go_wp2_with fail
      refine (shown_any w).mono ?_
      rintro e w1 ⟨rfl, G1⟩
      go_wp2_with fail
      refine (hcall w1).mono ?_
      rintro e w2 ⟨rfl, rfl⟩
      clear hcall
      go_wp2
      go_ret
      exact ⟨rfl, G1.below (fun k e => e.elim) (Nat.le_refl _)⟩
    · have hs' : ¬ a1 < 1 := by omega
      go_enter Try.func3, Try.ntmps3
      go_wp2_with fail
      refine (shown_any w).mono ?_
      rintro e w1 ⟨rfl, G1⟩
      go_wp2_with fail
      refine (hcall w1).mono ?_
      rintro e w2 ⟨rfl, rfl⟩
      clear hcall
      go_wp2
      go_ret
      exact ⟨rfl, G1.below (fun k e => e.elim) (Nat.le_refl _)⟩
  · obtain ⟨n, rfl⟩ : ∃ n : Nat, a1 = n := ⟨a1.toNat, by omega⟩
    have h1 : 1 ≤ n := by omega
    have h8 : n ≤ 8 := by omega
    have h1' : ¬ (n : Int) < 1 := by omega
    have h8' : ¬ (8 : Int) < (n : Int) := by omega
    clear hs
    by_cases hr : v < 256 ^ n
    · have hcall := fun w => put_room w v n hv h1 h8 hr
      have hd := decide_eq_true hr
      have hrp := fun w => rput_any w v n hv h8
      rw [hd] at hrp
      clear hr hd
      go_enter Try.func3, Try.ntmps3
      go_wp2_with fail
      refine (shown_any w).mono ?_
      rintro e w1 ⟨rfl, G1⟩
      go_wp2_with fail
      refine (hcall w1).mono ?_
      rintro e w2 ⟨g, rfl, hg, A2, G2⟩
      clear hcall
      go_wp2_with fail
      refine (hrp w2).mono ?_
      rintro e w3 ⟨s, rfl, O3, G3⟩
      clear hrp
      have A3 : Arr w3 g 5 (bts v 8) := A2.chg G3 (fun e => e)
      have H3 := A3.heldAll n n (by rw [bts_length]; exact h8)
      rw [bts_take v n 8 h8] at H3
      obtain ⟨a3, c3, hv3⟩ := O3.slice'
      rw [bts_length] at hv3
      subst hv3
      have O3' := O3.held
      have hcall := same_n w3 _ a3 n n n c3 (bts v n) (bts v n) (bts_length v n).symm (bts_length v n).symm H3 O3' (by rw [bts_length]; omega) (by rw [bts_length]; omega)
      rw [decide_eq_true rfl] at hcall
      have G03 := (G1.trans G2).trans G3
      clear A2 A3 H3 O3 O3' G1 G2 G3
      have q1 := eql_nil_nil
      go_wp2_with fail
      refine hcall.mono ?_
      rintro e w4 ⟨rfl, G4⟩
      clear hcall
      go_wp2
      go_ret
      exact ⟨rfl, (G03.trans G4).below (fun k e => e.elim) (Nat.le_refl _)⟩
    · have hcall := fun w => put_long w v n hv h1 h8 hr
      have hd := decide_eq_false hr
      have hrp := fun w => rput_any w v n hv h8
      rw [hd] at hrp
      clear hr hd
      have q1 := eql_long_long
      go_enter Try.func3, Try.ntmps3
      go_wp2_with fail
      refine (shown_any w).mono ?_
      rintro e w1 ⟨rfl, G1⟩
      go_wp2_with fail
      refine (hcall w1).mono ?_
      rintro e w2 ⟨rfl, rfl⟩
      clear hcall
      go_wp2_with fail
      refine (hrp w2).mono ?_
      rintro e w3 ⟨s, rfl, O3, G3⟩
      clear hrp
      go_wp2
      go_ret
      exact ⟨rfl, (G1.trans G3).below (fun k e => e.elim) (Nat.le_refl _)⟩
end Go.Proofs.Ytjnmfgaaafnpaaa
