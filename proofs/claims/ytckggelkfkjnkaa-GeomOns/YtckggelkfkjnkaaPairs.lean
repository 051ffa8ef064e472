/-
  A function of geom and the one of its document answer alike, and the error is the number. No condition: lemmas; the walks of four statements.
-/
import Derived.Test.YtckggelkfkjnkaaGeom
import Derived.Below
namespace Go.Proofs.Ytckggelkfkjnkaa
set_option maxRecDepth 100000
open Go.RowKit

theorem place_pair (b i : Int) : ∃ (x0 : Int) (er : Value) (c : Int),
    (∀ w, Calls Try.prog 9 #[.int .i64 b, .int .i64 i] w fun e w' => e = .returned (.tuple #[.int .i64 x0, er]) ∧ w' = w) ∧
    (∀ w, Calls Try.prog 11 #[.int .i64 b, .int .i64 i] w fun e w' => e = .returned (.tuple #[.int .i64 x0, .int .i64 c]) ∧ w' = w) ∧
    (∀ w, Calls Try.prog 13 #[er] w fun e w' => e = .returned (.int .i64 c) ∧ w' = w) := by
  by_cases h : (0 ≤ b ∧ b < 12) ∧ (0 ≤ i ∧ i < 8)
  · exact ⟨b * 8 + i, .nilIface, 0, fun w => place_in w b i h.1 h.2, fun w => rplace_in w b i h.1 h.2, code_nil⟩
  · exact ⟨0, .iface 46 (.int .i64 1), 1, fun w => place_out w b i (by omega), fun w => rplace_out w b i (by omega), code_arg⟩
theorem parts_pair (p : Int) : ∃ (x0 : Int) (x1 : Int) (er : Value) (c : Int),
    (∀ w, Calls Try.prog 10 #[.int .i64 p] w fun e w' => e = .returned (.tuple #[.int .i64 x0, .int .i64 x1, er]) ∧ w' = w) ∧
    (∀ w, Calls Try.prog 12 #[.int .i64 p] w fun e w' => e = .returned (.tuple #[.int .i64 x0, .int .i64 x1, .int .i64 c]) ∧ w' = w) ∧
    (∀ w, Calls Try.prog 13 #[er] w fun e w' => e = .returned (.int .i64 c) ∧ w' = w) := by
  by_cases h : 0 ≤ p ∧ p < 96
  · exact ⟨p / 8, p % 8, .nilIface, 0, fun w => parts_in w p h, fun w => rparts_in w p h, code_nil⟩
  · exact ⟨0, 0, .iface 46 (.int .i64 1), 1, fun w => parts_out w p (by omega), fun w => rparts_out w p (by omega), code_arg⟩
theorem holds_pair (p o : Int) : ∃ (x0 : Bool) (er : Value) (c : Int),
    (∀ w, Calls Try.prog 14 #[.int .i64 p, .int .i64 o] w fun e w' => e = .returned (.tuple #[.bool x0, er]) ∧ w' = w) ∧
    (∀ w, Calls Try.prog 15 #[.int .i64 p, .int .i64 o] w fun e w' => e = .returned (.tuple #[.bool x0, .int .i64 c]) ∧ w' = w) ∧
    (∀ w, Calls Try.prog 13 #[er] w fun e w' => e = .returned (.int .i64 c) ∧ w' = w) := by
  by_cases h : (0 ≤ p ∧ p < 96) ∧ (0 ≤ o ∧ o < 25)
  · exact ⟨decide (o = 24 ∨ p % 8 < 6), .nilIface, 0, fun w => holds_in w p o h.1 h.2, fun w => rholds_in w p o h.1 h.2, code_nil⟩
  · exact ⟨false, .iface 46 (.int .i64 1), 1, fun w => holds_out w p o (by omega), fun w => rholds_out w p o (by omega), code_arg⟩
theorem on_pair (p by_ : Int) : ∃ (x0 : Int) (er : Value) (c : Int),
    (∀ w, Calls Try.prog 16 #[.int .i64 p, .int .i64 by_] w fun e w' => e = .returned (.tuple #[.int .i64 x0, er]) ∧ w' = w) ∧
    (∀ w, Calls Try.prog 17 #[.int .i64 p, .int .i64 by_] w fun e w' => e = .returned (.tuple #[.int .i64 x0, .int .i64 c]) ∧ w' = w) ∧
    (∀ w, Calls Try.prog 13 #[er] w fun e w' => e = .returned (.int .i64 c) ∧ w' = w) := by
  by_cases h : 0 ≤ p ∧ p < 96
  · exact ⟨(p + by_.tmod 96 + 96) % 96, .nilIface, 0, fun w => on_in w p by_ h, fun w => ron_in w p by_ h, code_nil⟩
  · exact ⟨0, .iface 46 (.int .i64 1), 1, fun w => on_out w p by_ (by omega), fun w => ron_out w p by_ (by omega), code_arg⟩
theorem bit_pair (b : Int) : ∃ (x0 : Int) (x1 : Int) (x2 : Int) (er : Value) (c : Int),
    (∀ w, Calls Try.prog 18 #[.int .i64 b] w fun e w' => e = .returned (.tuple #[.int .i64 x0, .int .i64 x1, .int .i64 x2, er]) ∧ w' = w) ∧
    (∀ w, Calls Try.prog 19 #[.int .i64 b] w fun e w' => e = .returned (.tuple #[.int .i64 x0, .int .i64 x1, .int .i64 x2, .int .i64 c]) ∧ w' = w) ∧
    (∀ w, Calls Try.prog 13 #[er] w fun e w' => e = .returned (.int .i64 c) ∧ w' = w) := by
  by_cases h : 0 ≤ b ∧ b < 2048
  · exact ⟨b / 512, b / 8 % 64, b % 8, .nilIface, 0, fun w => bit_in w b h, fun w => rbit_in w b h, code_nil⟩
  · exact ⟨0, 0, 0, .iface 46 (.int .i64 1), 1, fun w => bit_out w b (by omega), fun w => rbit_out w b (by omega), code_arg⟩
theorem places_walk (b i p : Int) (_wb : (Lit.int .i64 b).wf = true) (_wi : (Lit.int .i64 i).wf = true) (_wp : (Lit.int .i64 p).wf = true) (w : World) :
    Calls Try.prog 3 #[.int .i64 b, .int .i64 i, .int .i64 p] w fun e w' => e = .returned (.bool true) ∧ Below w.heap.size w w' := by
  obtain ⟨v, er, c, h1, h2, h3⟩ := place_pair b i
  obtain ⟨x, y, es, d, k1, k2, k3⟩ := parts_pair p
  go_enter Try.func3, Try.ntmps3
  go_wp2_with fail
  refine (up_any _).mono ?_
  rintro e w1 ⟨rfl, rfl⟩
  go_wp2_with fail
  refine (h1 _).mono ?_
  rintro e w2 ⟨rfl, rfl⟩
  go_wp2_with fail
  refine (k1 _).mono ?_
  rintro e w3 ⟨rfl, rfl⟩
  go_wp2_with fail
  refine (h2 _).mono ?_
  rintro e w4 ⟨rfl, rfl⟩
  go_wp2_with fail
  refine (k2 _).mono ?_
  rintro e w5 ⟨rfl, rfl⟩
  go_wp2_with fail
  refine (h3 _).mono ?_
  rintro e w6 ⟨rfl, rfl⟩
  go_wp2_with fail
  refine (k3 _).mono ?_
  rintro e w7 ⟨rfl, rfl⟩
  go_wp2
  go_ret
  exact ⟨rfl, Below.refl _ _⟩
theorem holds_walk (p o : Int) (_wp : (Lit.int .i64 p).wf = true) (_wo : (Lit.int .i64 o).wf = true) (w : World) :
    Calls Try.prog 4 #[.int .i64 p, .int .i64 o] w fun e w' => e = .returned (.bool true) ∧ Below w.heap.size w w' := by
  obtain ⟨v, er, c, h1, h2, h3⟩ := holds_pair p o
  go_enter Try.func4, Try.ntmps4
  go_wp2_with fail
  refine (up_any _).mono ?_
  rintro e w1 ⟨rfl, rfl⟩
  go_wp2_with fail
  refine (h1 _).mono ?_
  rintro e w2 ⟨rfl, rfl⟩
  go_wp2_with fail
  refine (h2 _).mono ?_
  rintro e w3 ⟨rfl, rfl⟩
  go_wp2_with fail
  refine (h3 _).mono ?_
  rintro e w4 ⟨rfl, rfl⟩
  go_wp2
  go_ret
  exact ⟨rfl, Below.refl _ _⟩
theorem ons_walk (p o : Int) (_wp : (Lit.int .i64 p).wf = true) (_wo : (Lit.int .i64 o).wf = true) (w : World) :
    Calls Try.prog 5 #[.int .i64 p, .int .i64 o] w fun e w' => e = .returned (.bool true) ∧ Below w.heap.size w w' := by
  obtain ⟨v, er, c, h1, h2, h3⟩ := on_pair p o
  go_enter Try.func5, Try.ntmps5
  go_wp2_with fail
  refine (up_any _).mono ?_
  rintro e w1 ⟨rfl, rfl⟩
  go_wp2_with fail
  refine (h1 _).mono ?_
  rintro e w2 ⟨rfl, rfl⟩
  go_wp2_with fail
  refine (h2 _).mono ?_
  rintro e w3 ⟨rfl, rfl⟩
  go_wp2_with fail
  refine (h3 _).mono ?_
  rintro e w4 ⟨rfl, rfl⟩
  go_wp2
  go_ret
  exact ⟨rfl, Below.refl _ _⟩
theorem bits_walk (b : Int) (_wb : (Lit.int .i64 b).wf = true) (w : World) :
    Calls Try.prog 6 #[.int .i64 b] w fun e w' => e = .returned (.bool true) ∧ Below w.heap.size w w' := by
  obtain ⟨x, y, z, er, c, h1, h2, h3⟩ := bit_pair b
  go_enter Try.func6, Try.ntmps6
  go_wp2_with fail
  refine (up_any _).mono ?_
  rintro e w1 ⟨rfl, rfl⟩
  go_wp2_with fail
  refine (h1 _).mono ?_
  rintro e w2 ⟨rfl, rfl⟩
  go_wp2_with fail
  refine (h2 _).mono ?_
  rintro e w3 ⟨rfl, rfl⟩
  go_wp2_with fail
  refine (h3 _).mono ?_
  rintro e w4 ⟨rfl, rfl⟩
  go_wp2
  go_ret
  exact ⟨rfl, Below.refl _ _⟩
end Go.Proofs.Ytckggelkfkjnkaa
