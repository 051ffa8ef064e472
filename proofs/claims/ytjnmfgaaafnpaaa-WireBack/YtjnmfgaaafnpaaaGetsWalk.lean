/-
  WireGets, walked: whatever the bytes, Get answers as the document says. Condition: the bytes came in as a slice does.
-/
import Derived.Test.YtjnmfgaaafnpaaaShow
namespace Go.Proofs.Ytjnmfgaaafnpaaa
open Go.RowKit
set_option maxRecDepth 100000

theorem Rd.held {w : World} {b : Nat} {a : Option Addr} {l : List Nat} (h : Rd w b a l) (cap : Nat) : Held w (.slice a l.length cap) l := by
  obtain ⟨hl, h0 | ⟨c, o, rfl, hc, hs, hcell⟩⟩ := h
  · exact ⟨a, cap, rfl, Or.inl (by rw [h0]; rfl)⟩
  · exact ⟨_, cap, rfl, Or.inr ⟨c, o, rfl, hs, hcell⟩⟩
/-- Bytes that came in. -/
theorem row_in {w : World} {a : Option Addr} {len cap : Nat} {zs : List Int} (h : IsRow .u8 w a len cap zs) : ∃ l : List Nat, l.length = len ∧ Bys l ∧ len ≤ cap ∧ (a = none → len = 0 ∧ cap = 0) ∧ Held w (.slice a len cap) l := by
  obtain ⟨l, hl, hc, hn, hr⟩ := rd_of_row h
  have := hr w.heap.size (Nat.le_refl _)
  exact ⟨l, hl, this.1, hc, hn, by rw [← hl]; exact this.held cap⟩
set_option maxHeartbeats 4000000 in
theorem gets_walk (a0 : Option Addr) (len0 cap0 : Nat) (z0 : List Int) (w : World) (w0 : IsRow .u8 w a0 len0 cap0 z0) (_r0 : cap0 * 1 ≤ 140737488351232) :
    Calls Try.prog 4 #[.slice a0 len0 cap0] w fun e w' => e = .returned (.bool true) ∧ Below w.heap.size w w' := by
  obtain ⟨l, hll, hl, hc, -, hH⟩ := row_in w0
  clear w0
  by_cases hs : len0 < 1 ∨ 8 < len0
  · have hcall := fun w => get_arg w a0 len0 cap0 hs
    have q1 := eql_arg_arg
    clear hll
    rcases hs with hs | hs
    · have hs' : (len0 : Int) < 1 := by omega
      go_enter Try.func4, Try.ntmps4
      go_wp2_with fail
      refine (shown_any w).mono ?_
      rintro e w1 ⟨rfl, G1⟩
      go_wp2_with fail
      refine (hcall w1).mono ?_
      rintro e w2 ⟨rfl, rfl⟩
      clear hcall
      go_wp2
      go_ret
      exact ⟨rfl, G1.below (fun k e => e.elim) (Nat.le_refl _)⟩
    · have hs' : ¬ (len0 : Int) < 1 := by omega
      have hs2 : (8 : Int) < (len0 : Int) := by omega
      go_enter Try.func4, Try.ntmps4
      go_wp2_with fail
      refine (shown_any w).mono ?_
      rintro e w1 ⟨rfl, G1⟩
      go_wp2_with fail
      refine (hcall w1).mono ?_
      rintro e w2 ⟨rfl, rfl⟩
      clear hcall
      go_wp2
      go_ret
      exact ⟨rfl, G1.below (fun k e => e.elim) (Nat.le_refl _)⟩
  · subst hll
    have h1 : 1 ≤ l.length := by omega
    have h8 : l.length ≤ 8 := by omega
    have h1' : ¬ (l.length : Int) < 1 := by omega
    have h8' : ¬ (8 : Int) < (l.length : Int) := by omega
    clear hs
    have HH := hyd hH
    clear hH
    go_enter Try.func4, Try.ntmps4
    go_wp2_with fail
    refine (shown_any w).mono ?_
    rintro e w1 ⟨rfl, G1⟩
    go_wp2_with fail
    refine (get_any w1 a0 cap0 l hl h1 h8 (HH.out.chgF G1)).mono ?_
    rintro e w2 ⟨rfl, G2⟩
    have q1 := eql_nil_nil
    go_wp2_with fail
    refine (rget_any w2 a0 cap0 l hl h8 ((HH.out.chgF G1).chgF G2)).mono ?_
    rintro e w3 ⟨rfl, G3⟩
    go_wp2
    go_ret
    exact ⟨rfl, ((G1.trans G2).trans G3).below (fun k e => e.elim) (Nat.le_refl _)⟩
end Go.Proofs.Ytjnmfgaaafnpaaa
