/-
  The document's example; program and document stand alike. No condition: lemmas.
-/
import Derived.Test.YtkkbmfdmfkpgpaaRef
namespace Go.Proofs.Ytkkbmfdmfkpgpaa
set_option maxRecDepth 100000
open Go.RowKit

theorem up_any (w : World) : Calls Try.prog 5 #[] w fun e w' => e = .returned (.bool true) ∧ Chg (fun _ => False) w w' := by
  have q1 := eql_nil
  have q2 := eql_10_10
  have hb := build26
  obtain ⟨b, HB⟩ : ∃ b, Hid (b = w.heap.size) := ⟨_, rfl⟩
  have HK0 : Hid (FB (w.alloc (.cells #[.bool false, .int .i64 0, .int .i64 0] 26)) w.heap.size 26 ⟨false, 0, 0⟩) := FB.new w 26 ⟨false, 0, 0⟩
  have HG0 : Hid (Chg (fun _ => False) w (w.alloc (.cells #[.bool false, .int .i64 0, .int .i64 0] 26))) := (Chg.refl _ w).alloc _
  rw [← HB.out] at HK0
  go_enter Try.func5, Try.ntmps5
  go_wp2_with fail
  rw [← HB.out]
  generalize w.alloc (.cells #[.bool false, .int .i64 0, .int .i64 0] 26) = w1 at *
  refine (block_any w1 b _ HK0.out).mono ?_
  rintro e w1 ⟨rfl, rfl⟩
  rw [show blV ⟨false, 0, 0⟩ = -1 from rfl]
  go_wp2_with fail
  refine (open_v w1 b _ HK0.out 2 5).mono ?_
  rintro e w2 ⟨rfl, K2, G2⟩
  rw [show errV (opC 2 5) = .nilIface from rfl]
  have HG2 := hyd (HG0.out.trans' G2 (fun i hi e => by rw [e, HB.out] at hi; exact absurd hi (Nat.lt_irrefl _)))
  have HK2 := hyd (show FB w2 b 26 ⟨true, 2, 5⟩ from K2)
  clear G2 K2 HG0 HK0
  go_wp2_with fail
  refine (take_v w2 b _ HK2.out ⟨by decide, by decide⟩ 3).mono ?_
  rintro e w3 ⟨rfl, K3, G3⟩
  rw [show errV (nxC ⟨true, 2, 5⟩ 3) = .nilIface from rfl, show nxV ⟨true, 2, 5⟩ 3 = 21 from rfl]
  have HG3 := hyd (HG2.out.trans' G3 (fun i hi e => by rw [e, HB.out] at hi; exact absurd hi (Nat.lt_irrefl _)))
  have HK3 := hyd (show FB w3 b 26 ⟨true, 2, 6⟩ from K3)
  clear G3 K3 HG2 HK2
  go_wp2_with fail
  refine (take_v w3 b _ HK3.out ⟨by decide, by decide⟩ 3).mono ?_
  rintro e w4 ⟨rfl, K4, G4⟩
  rw [show errV (nxC ⟨true, 2, 6⟩ 3) = .iface 45 (.int .i64 10) from rfl, show nxV ⟨true, 2, 6⟩ 3 = 0 from rfl]
  have HG4 := hyd (HG3.out.trans' G4 (fun i hi e => by rw [e, HB.out] at hi; exact absurd hi (Nat.lt_irrefl _)))
  have HK4 := hyd (show FB w4 b 26 ⟨true, 2, 6⟩ from K4)
  clear G4 K4 HG3 HK3
  go_wp2_with fail
  refine (take_v w4 b _ HK4.out ⟨by decide, by decide⟩ 24).mono ?_
  rintro e w5 ⟨rfl, K5, G5⟩
  rw [show errV (nxC ⟨true, 2, 6⟩ 24) = .nilIface from rfl, show nxV ⟨true, 2, 6⟩ 24 = 22 from rfl]
  have HG5 := hyd (HG4.out.trans' G5 (fun i hi e => by rw [e, HB.out] at hi; exact absurd hi (Nat.lt_irrefl _)))
  clear G5 K5 HG4 HK4
  go_wp2
  go_ret
  exact ⟨rfl, HG5.out⟩
/-- The program's frontier beside the document's: zero, where there is no block. -/
def nrm (s : St) : St := if s.o = true then s else ⟨false, 0, 0⟩
theorem nrm_yes {s : St} (h : s.o = true) : nrm s = s := if_pos h
theorem nrm_no {s : St} (h : s.o = false) : nrm s = ⟨false, 0, 0⟩ := if_neg (by rw [h]; simp)
theorem nx_nrm (s : St) (n : Int) : nxC (nrm s) n = nxC s n := by
  by_cases h : s.o = true
  · rw [nrm_yes h]
  · have h' : s.o = false := by simpa using h
    rw [nrm_no h']
    by_cases h1 : n < 0 ∨ 25 ≤ n
    · rw [nx_1 h1, nx_1 h1]
    · rw [nx_11 h1 rfl, nx_11 h1 h']
theorem nx_open {s : St} {n : Int} (h : nxC s n = 0) : s.o = true := by
  by_cases ho : s.o = true
  · exact ho
  · exfalso
    by_cases h1 : n < 0 ∨ 25 ≤ n
    · rw [nx_1 h1] at h; simp at h
    · rw [nx_11 h1 (by simpa using ho)] at h; simp at h
theorem nv_nrm (s : St) (n : Int) : nxV (nrm s) n = nxV s n := by
  unfold nxV
  rw [nx_nrm]
  by_cases h : nxC s n = 0
  · rw [nrm_yes (nx_open h)]
  · rw [if_neg h, if_neg h]
theorem rm_nrm (s : St) (n : Int) : rmV (nrm s) n = rmV s n := by unfold rmV; rw [nx_nrm]
theorem tk_nrm (s : St) (n : Int) : tkS (nrm s) n = nrm (tkS s n) := by
  unfold tkS
  rw [nx_nrm]
  by_cases h : nxC s n = 0
  · rw [if_pos h, if_pos h, nrm_yes (nx_open h)]
    exact (nrm_yes (s := { s with i := s.i + 1 }) (show s.o = true from nx_open h)).symm
  · rw [if_neg h, if_neg h]
theorem op_nrm (s : St) (x y : Int) : opS (nrm s) x y = nrm (opS s x y) := by
  unfold opS
  by_cases h : opC x y = 0
  · rw [if_pos h, if_pos h]; rfl
  · rw [if_neg h, if_neg h]
theorem Okf.nrm {s : St} (h : Okf s) : Okf (nrm s) := by
  unfold Proofs.Ytkkbmfdmfkpgpaa.nrm
  split
  · exact h
  · exact ⟨by decide, by decide⟩
/-- Program and document stand alike. -/
structure Two (w0 w : World) (p r : Nat) (s : St) : Prop where
  prog : FB w p 26 (nrm s)
  ref : FB w r 29 s
  ok : Okf s
  ne : p ≠ r
  lp : w0.heap.size ≤ p
  lr : w0.heap.size ≤ r
  chg : Chg (fun _ => False) w0 w
section
variable {w0 w w' w1 w2 : World} {p r : Nat} {s s' : St}
theorem Two.still (h : Two w0 w p r s) (hc : Chg (fun _ => False) w w') : Two w0 w' p r s :=
  { h with prog := h.prog.chg hc (fun f => f), ref := h.ref.chg hc (fun f => f), chg := h.chg.trans hc }
/-- Both were changed. -/
theorem Two.both (h : Two w0 w p r s) (K1 : FB w1 p 26 (nrm s')) (G1 : Chg (· = p) w w1) (O1 : Okf s') (K2 : FB w2 r 29 s') (G2 : Chg (· = r) w1 w2) : Two w0 w2 p r s' :=
  { h with
    prog := K1.chg G2 h.ne
    ref := K2
    ok := O1
    chg := (h.chg.trans' G1 (fun i hi e => by have := h.lp; omega)).trans' G2 (fun i hi e => by have := h.lr; omega) }
/-- What the law asks behind each step. -/
theorem Two.tail (h : Two w0 w p r s) : (w.cell? ⟨r, 0, none⟩ = some (.bool false) ∧ Calls Try.prog 15 #[.pointer (some ⟨p, 0, none⟩)] w fun e w' => e = .returned (.int .i64 (-1)) ∧ w' = w) ∨
    ∃ k : Nat, w.cell? ⟨r, 0, none⟩ = some (.bool true) ∧ w.cell? ⟨r, 1, none⟩ = some (.int .i64 k) ∧ Calls Try.prog 15 #[.pointer (some ⟨p, 0, none⟩)] w fun e w' => e = .returned (.int .i64 k) ∧ w' = w := by
  have hb := block_any w p _ h.prog
  have c0 := h.ref.c0.1
  have c1 := h.ref.c1.1
  by_cases ho : s.o = true
  · rw [nrm_yes ho] at hb
    unfold blV at hb
    rw [if_pos ho] at hb
    rw [ho] at c0
    exact Or.inr ⟨s.k, c0, c1, hb⟩
  · have ho' : s.o = false := by simpa using ho
    rw [nrm_no ho'] at hb
    rw [ho'] at c0
    exact Or.inl ⟨c0, hb⟩
end
end Go.Proofs.Ytkkbmfdmfkpgpaa
