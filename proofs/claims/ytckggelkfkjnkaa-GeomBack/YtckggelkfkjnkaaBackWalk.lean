/-
  The walk of GeomBack: places and their parts, steps on and back, bits lead back. No condition: lemmas.
-/
import Derived.Test.YtckggelkfkjnkaaGeom
import Derived.Below
namespace Go.Proofs.Ytckggelkfkjnkaa
set_option maxRecDepth 100000
open Go.RowKit

theorem wrap_least : wrap64 9223372036854775808 = -9223372036854775808 := by kernel_rfl
theorem on_back (p a : Int) (h : 0 ≤ p ∧ p < 96) : ((p + a.tmod 96 + 96) % 96 + (-a).tmod 96 + 96) % 96 = p := by
  rw [Int.neg_tmod]
  have t0 : -96 < a.tmod 96 := Int.lt_tmod_of_pos a (by decide)
  have t1 : a.tmod 96 < 96 := Int.tmod_lt_of_pos a (by decide)
  omega
set_option maxHeartbeats 1600000 in
theorem back_walk (b i o x : Int) (_wb : (Lit.int .i64 b).wf = true) (_wi : (Lit.int .i64 i).wf = true) (wo : (Lit.int .i64 o).wf = true) (_wx : (Lit.int .i64 x).wf = true) (w : World) :
    Calls Try.prog 7 #[.int .i64 b, .int .i64 i, .int .i64 o, .int .i64 x] w fun e w' => e = .returned (.bool true) ∧ Below w.heap.size w w' := by
  have q1 := eql_nil_nil
  have q2 := eql_arg_nil
  have q3 := neq_nil_nil
  have q4 := neq_arg_nil
  have hbit : ∃ (a1 a2 a3 : Int) (er : Value), (∀ w, Calls Try.prog 18 #[.int .i64 x] w fun e w' => e = .returned (.tuple #[.int .i64 a1, .int .i64 a2, .int .i64 a3, er]) ∧ w' = w) ∧
      (0 ≤ a1 ∧ a1 < 4 ∧ 0 ≤ a2 ∧ a2 < 64 ∧ 0 ≤ a3 ∧ a3 < 8) ∧ ((er = .nilIface ∧ ((512 * a1 + 8 * a2 + a3 : Int) != x) = false) ∨ er = .iface 46 (.int .i64 1)) := by
    by_cases h : 0 ≤ x ∧ x < 2048
    · refine ⟨_, _, _, _, fun w => bit_in w x h, by omega, Or.inl ⟨rfl, ?_⟩⟩
      rw [show 512 * (x / 512) + 8 * (x / 8 % 64) + x % 8 = x from by omega]
      simp
    · exact ⟨_, _, _, _, fun w => bit_out w x (by omega), by omega, Or.inr rfl⟩
  obtain ⟨a1, a2, a3, er, hb, hr, he⟩ := hbit
  obtain ⟨r1, r2, r3, r4, r5, r6⟩ := hr
  have hwo : -9223372036854775808 ≤ o ∧ o < 9223372036854775808 := by
    simp [Lit.wf, IntKind.min, IntKind.max, IntKind.bits, IntKind.signed] at wo
    omega
  clear wo
  by_cases hp : (0 ≤ b ∧ b < 12) ∧ (0 ≤ i ∧ i < 8)
  · have hP : ∃ p : Int, (0 ≤ p ∧ p < 96) ∧ (∀ w, Calls Try.prog 9 #[.int .i64 b, .int .i64 i] w fun e w' => e = .returned (.tuple #[.int .i64 p, .nilIface]) ∧ w' = w) ∧
        (∀ w, Calls Try.prog 10 #[.int .i64 p] w fun e w' => e = .returned (.tuple #[.int .i64 b, .int .i64 i, .nilIface]) ∧ w' = w) := by
      refine ⟨b * 8 + i, by omega, fun w => place_in w b i hp.1 hp.2, fun w => ?_⟩
      have := parts_in w (b * 8 + i) (by omega)
      rwa [show (b * 8 + i) / 8 = b from by omega, show (b * 8 + i) % 8 = i from by omega] at this
    obtain ⟨p, hpr, hpl, hpa⟩ := hP
    clear hp
    have h0 : ∀ w, Calls Try.prog 16 #[.int .i64 p, .int .i64 0] w fun e w' => e = .returned (.tuple #[.int .i64 p, .nilIface]) ∧ w' = w := fun w => by
      have := on_in w p 0 hpr
      rwa [show (p + Int.tmod 0 96 + 96) % 96 = p from by rw [Int.zero_tmod]; omega] at this
    by_cases ho : o = -9223372036854775808
    · subst ho
      have hq : ∃ q r : Int, (∀ w, Calls Try.prog 16 #[.int .i64 p, .int .i64 (-9223372036854775808)] w fun e w' => e = .returned (.tuple #[.int .i64 q, .nilIface]) ∧ w' = w) ∧
          (∀ w, Calls Try.prog 16 #[.int .i64 q, .int .i64 (wrap64 9223372036854775808)] w fun e w' => e = .returned (.tuple #[.int .i64 r, .nilIface]) ∧ w' = w) ∧ (r == p) = false := by
        refine ⟨_, _, fun w => on_in w p _ hpr, fun w => on_in w _ _ (by omega), ?_⟩
        rw [wrap_least]
        rw [show Int.tmod (-9223372036854775808) 96 = -32 from by decide]
        rw [beq_eq_false_iff_ne]
        omega
      obtain ⟨q, r, k1, k2, k3⟩ := hq
      have k4 : ((-9223372036854775808 : Int) == wrap64 9223372036854775808) = true := by rw [wrap_least]; decide
      clear hpr hwo
      rcases he with ⟨rfl, HE⟩ | rfl
      · show Calls Try.prog 7 _ w _
        go_enter Try.func7, Try.ntmps7
        go_wp2_with fail
        refine (up_any _).mono ?_
        rintro e w1 ⟨rfl, rfl⟩
        go_wp2_with fail
        refine (hb _).mono ?_
        rintro e w2 ⟨rfl, rfl⟩
        go_wp2_with fail
        refine (hpl _).mono ?_
        rintro e w3 ⟨rfl, rfl⟩
        go_wp2_with fail
        refine (hpa _).mono ?_
        rintro e w4 ⟨rfl, rfl⟩
        go_wp2_with fail
        refine (k1 _).mono ?_
        rintro e w5 ⟨rfl, rfl⟩
        go_wp2_with fail
        refine (k2 _).mono ?_
        rintro e w6 ⟨rfl, rfl⟩
        go_wp2_with fail
        refine (h0 _).mono ?_
        rintro e w7 ⟨rfl, rfl⟩
        go_wp2
        go_ret
        exact ⟨rfl, Below.refl _ _⟩
      · show Calls Try.prog 7 _ w _
        go_enter Try.func7, Try.ntmps7
        go_wp2_with fail
        refine (up_any _).mono ?_
        rintro e w1 ⟨rfl, rfl⟩
        go_wp2_with fail
        refine (hb _).mono ?_
        rintro e w2 ⟨rfl, rfl⟩
        go_wp2_with fail
        refine (hpl _).mono ?_
        rintro e w3 ⟨rfl, rfl⟩
        go_wp2_with fail
        refine (hpa _).mono ?_
        rintro e w4 ⟨rfl, rfl⟩
        go_wp2_with fail
        refine (k1 _).mono ?_
        rintro e w5 ⟨rfl, rfl⟩
        go_wp2_with fail
        refine (k2 _).mono ?_
        rintro e w6 ⟨rfl, rfl⟩
        go_wp2_with fail
        refine (h0 _).mono ?_
        rintro e w7 ⟨rfl, rfl⟩
        go_wp2
        go_ret
        exact ⟨rfl, Below.refl _ _⟩
    · have hq : ∃ q : Int, (∀ w, Calls Try.prog 16 #[.int .i64 p, .int .i64 o] w fun e w' => e = .returned (.tuple #[.int .i64 q, .nilIface]) ∧ w' = w) ∧
          (∀ w, Calls Try.prog 16 #[.int .i64 q, .int .i64 (-o)] w fun e w' => e = .returned (.tuple #[.int .i64 p, .nilIface]) ∧ w' = w) := by
        refine ⟨_, fun w => on_in w p _ hpr, fun w => ?_⟩
        have := on_in w ((p + o.tmod 96 + 96) % 96) (-o) (by omega)
        rwa [on_back p o hpr] at this
      obtain ⟨q, k1, k2⟩ := hq
      have hn0 : -9223372036854775808 ≤ -o := by omega
      have hn1 : -o < 9223372036854775808 := by omega
      clear hpr ho hwo
      rcases he with ⟨rfl, HE⟩ | rfl
      · show Calls Try.prog 7 _ w _
        go_enter Try.func7, Try.ntmps7
        go_wp2_with fail
        refine (up_any _).mono ?_
        rintro e w1 ⟨rfl, rfl⟩
        go_wp2_with fail
        refine (hb _).mono ?_
        rintro e w2 ⟨rfl, rfl⟩
        go_wp2_with fail
        refine (hpl _).mono ?_
        rintro e w3 ⟨rfl, rfl⟩
        go_wp2_with fail
        refine (hpa _).mono ?_
        rintro e w4 ⟨rfl, rfl⟩
        go_wp2_with fail
        refine (k1 _).mono ?_
        rintro e w5 ⟨rfl, rfl⟩
        go_wp2_with fail
        refine (k2 _).mono ?_
        rintro e w6 ⟨rfl, rfl⟩
        go_wp2_with fail
        refine (h0 _).mono ?_
        rintro e w7 ⟨rfl, rfl⟩
        go_wp2
        go_ret
        exact ⟨rfl, Below.refl _ _⟩
      · show Calls Try.prog 7 _ w _
        go_enter Try.func7, Try.ntmps7
        go_wp2_with fail
        refine (up_any _).mono ?_
        rintro e w1 ⟨rfl, rfl⟩
        go_wp2_with fail
        refine (hb _).mono ?_
        rintro e w2 ⟨rfl, rfl⟩
        go_wp2_with fail
        refine (hpl _).mono ?_
        rintro e w3 ⟨rfl, rfl⟩
        go_wp2_with fail
        refine (hpa _).mono ?_
        rintro e w4 ⟨rfl, rfl⟩
        go_wp2_with fail
        refine (k1 _).mono ?_
        rintro e w5 ⟨rfl, rfl⟩
        go_wp2_with fail
        refine (k2 _).mono ?_
        rintro e w6 ⟨rfl, rfl⟩
        go_wp2_with fail
        refine (h0 _).mono ?_
        rintro e w7 ⟨rfl, rfl⟩
        go_wp2
        go_ret
        exact ⟨rfl, Below.refl _ _⟩
  · have hpl := fun w => place_out w b i (by omega)
    clear hp hwo
    rcases he with ⟨rfl, HE⟩ | rfl
    · show Calls Try.prog 7 _ w _
      go_enter Try.func7, Try.ntmps7
      go_wp2_with fail
      refine (up_any _).mono ?_
      rintro e w1 ⟨rfl, rfl⟩
      go_wp2_with fail
      refine (hb _).mono ?_
      rintro e w2 ⟨rfl, rfl⟩
      go_wp2_with fail
      refine (hpl _).mono ?_
      rintro e w3 ⟨rfl, rfl⟩
      go_wp2
      go_ret
      exact ⟨rfl, Below.refl _ _⟩
    · show Calls Try.prog 7 _ w _
      go_enter Try.func7, Try.ntmps7
      go_wp2_with fail
      refine (up_any _).mono ?_
      rintro e w1 ⟨rfl, rfl⟩
      go_wp2_with fail
      refine (hb _).mono ?_
      rintro e w2 ⟨rfl, rfl⟩
      go_wp2_with fail
      refine (hpl _).mono ?_
      rintro e w3 ⟨rfl, rfl⟩
      go_wp2
      go_ret
      exact ⟨rfl, Below.refl _ _⟩
end Go.Proofs.Ytckggelkfkjnkaa
