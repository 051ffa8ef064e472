/-
  RsSyndromes, walked: whatever the bytes, Syndromes answers as the document says. Condition: the bytes came in as a slice does.
-/
import Derived.Test.YtfihhamjlcnpnaaRefSyn
import Derived.Test.YtfihhamjlcnpnaaRowsIn
namespace Go.Proofs.Ytfihhamjlcnpnaa
open Go.RowKit
set_option maxRecDepth 100000

theorem Rd.held {w : World} {b : Nat} {a : Option Addr} {l : List Nat} (h : Rd w b a l) (cap : Nat) : Held w (.slice a l.length cap) l := by
  obtain ⟨hl, h0 | ⟨c, o, rfl, hc, hs, hcell⟩⟩ := h
  · exact ⟨a, cap, rfl, Or.inl (by rw [h0]; rfl)⟩
  · exact ⟨_, cap, rfl, Or.inr ⟨c, o, rfl, hs, hcell⟩⟩
theorem Held.rd {w : World} {b : Nat} {a : Option Addr} {n cap : Nat} {l : List Nat} (h : Held w (.slice a n cap) l) (hl : Bys l) (hb : ∀ c o s, a = some ⟨c, o, s⟩ → c ≠ b) : Rd w b a l := by
  refine ⟨hl, ?_⟩
  obtain ⟨a', c', hv, h⟩ := h
  simp only [Value.slice.injEq] at hv
  obtain ⟨rfl, -, -⟩ := hv
  rcases h with h | ⟨g, o, rfl, hg, hc⟩
  · exact Or.inl (List.length_eq_zero_iff.1 h)
  · exact Or.inr ⟨g, o, rfl, hb g o none rfl, hg, hc⟩

set_option maxHeartbeats 4000000 in
theorem syndromes_walk (w : World) (a : Option Addr) (len cap : Nat) (zs : List Int) (hrow : IsRow .u8 w a len cap zs) (hcap : len ≤ 9223372036854775807) :
    Calls Try.prog 4 #[.slice a len cap] w fun e w' => e = .returned (.bool true) ∧ Below w.heap.size w w' := by
  obtain ⟨l, hll, -, -, hrd⟩ := rd_of_row hrow
  have hl : Bys l := (hrd w.heap.size (Nat.le_refl _)).1
  have hH := (hrd w.heap.size (Nat.le_refl _)).held cap
  have hab : ∀ c o s, a = some ⟨c, o, s⟩ → l.length = 0 ∨ c < w.heap.size := by
    intro c o s e
    rcases (hrd w.heap.size (Nat.le_refl _)).2 with h | ⟨c', o', e', -, hs, -⟩
    · left; rw [h]; rfl
    · rw [e] at e'; cases e'; right; exact hs
  have HAB := hyd hab
  clear hab hrd hrow
  subst hll
  have HH := hyd hH
  clear hH
  go_enter Try.func4, Try.ntmps4
  go_wp2_with fail
  refine (shown_any w).mono ?_
  rintro e w1 ⟨rfl, G1⟩
  go_wp2_with fail
  refine (codec_new w1).mono ?_
  rintro e w2 ⟨q, b, rfl, hq, hb, C2, G2⟩
  have hs1 := G1.size
  by_cases h64 : l.length = 64
  · have hne : ((l.length : Int) != 64) = false := by rw [h64]; rfl
    have hR2 : Rd w2 b a l := ((HH.out.chgF G1).chgF G2).rd hl (fun c o s e => by
      rcases HAB.out c o s e with h | h
      · omega
      · omega)
    have hcall : Calls Try.prog 19 #[.pointer (some ⟨q, 0, none⟩), .slice a l.length cap] w2 fun e w' => ∃ g, e = .returned (.tuple #[.slice (some ⟨g, 0, none⟩) 6 6, .nilIface]) ∧ w2.heap.size ≤ g ∧ Arr w' g 5 (syL l 6) ∧ Cod w' q b ∧ But b w2 w' := by
      rw [h64]; exact asks_syndromes q b w2 C2 a cap l h64 hR2
    have G02 : Chg (fun _ => False) w w2 := G1.trans G2
    have H64 := hyd h64
    clear h64
    go_wp2_with fail
    refine hcall.mono ?_
    rintro e w3 ⟨g, rfl, hg, A3, -, B3⟩
    clear hcall
    have G3 : Chg (fun _ => False) w w3 := B3.chgF G02 (by omega)
    have hH3 : Held w3 (.slice a l.length cap) l := HH.out.chgF G3
    go_wp2_with fail
    refine (rsyn_any w3 a cap l hl hcap hH3).mono ?_
    rintro e w4 ⟨v, rfl, O4, G4⟩
    obtain ⟨a4, c4, hv⟩ : ∃ a4 c4, v = .slice a4 6 c4 := by
      obtain ⟨a4, c4, hv, -⟩ := O4.held
      exact ⟨a4, c4, by rw [hv, syL_length]⟩
    subst hv
    have hH4 := O4.held
    have A4 : Arr w4 g 5 (syL l 6) := A3.chg G4 (fun e => e)
    have G04 : Chg (fun _ => False) w w4 := G3.trans G4
    have hsl := syL_length l 6
    go_wp2_with fail
    refine (same_n w4 _ a4 6 6 6 c4 (syL l 6) (syL l 6) hsl.symm hsl.symm (A4.held 0 6 6 (syL l 6) hsl.symm (by omega) (fun i _ => by rw [Nat.zero_add])) hH4 (by omega) (by omega)).mono ?_
    rintro e w5 ⟨rfl, G5⟩
    have hdd : decide (syL l 6 = syL l 6) = true := by simp
    have G05 := G04.trans G5
    have q1 := eql_nil_nil
    clear O4 A4 hH4 hH3 A3
    go_wp2
    go_ret
    exact ⟨rfl, G05.below (fun k e => e.elim) (Nat.le_refl _)⟩
  · have hne : ((l.length : Int) != 64) = true := by simp; omega
    have hne2 : ¬ ((l.length : Int) = 64) := by omega
    have G02 : Chg (fun _ => False) w w2 := G1.trans G2
    go_wp2_with fail
    refine (syndromes_arg q w2 a l.length cap h64).mono ?_
    rintro e w3 ⟨rfl, rfl⟩
    have q1 := eql_arg_arg
    go_wp2
    go_ret
    exact ⟨rfl, G02.below (fun k e => e.elim) (Nat.le_refl _)⟩
theorem syn_walk (a0 : Option Addr) (len0 cap0 : Nat) (z0 : List Int) (w : World) (w0 : IsRow .u8 w a0 len0 cap0 z0) (r0 : cap0 * 1 ≤ 140737488351232) :
    Calls Try.prog 4 #[.slice a0 len0 cap0] w fun e w' => e = .returned (.bool true) ∧ Below w.heap.size w w' := by
  have h := rd_of_row w0
  obtain ⟨l, _, h2, _⟩ := h
  exact syndromes_walk w a0 len0 cap0 z0 w0 (by omega)
end Go.Proofs.Ytfihhamjlcnpnaa
