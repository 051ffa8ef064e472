/-
  What stays between the counts and the reads since they were written down. No condition: lemmas.
-/
import Derived.Test.YtmicfipanpdjbaaUp
namespace Go.Proofs.Ytmicfipanpdjbaa
set_option maxRecDepth 100000
open Go.RowKit

/-- The reads are those written down and those since, at most 65535; none since is above B. -/
def Sin (R N T : Nat → Int) (B : Nat) : Prop := ∀ i, i < 12 → R i = min (N i + T i) 65535 ∧ 0 ≤ T i ∧ T i ≤ (B : Int)
/-- Reads fell at b alone, if the kind is 2, scores nowhere. -/
def Fal (kd b : Nat) (R0 S0 R S : Nat → Int) : Prop := (∀ i, i < 12 → R0 i ≤ R i ∨ (kd = 2 ∧ i = b)) ∧ ∀ i, i < 12 → S0 i ≤ S i
structure Kp (w0 w : World) (p s : Nat) (R N S T : Nat → Int) (B : Nat) : Prop where
  prog : HB w p 48 R N S
  since : IB w s 39 12 T
  ok : Okh R N S
  sin : Sin R N T B
  ne : p ≠ s
  lp : w0.heap.size ≤ p
  ls : w0.heap.size ≤ s
  chg : Chg (fun _ => False) w0 w
section
variable {w0 w w' w1 w2 : World} {p s kd b B B' : Nat} {R N S T R' N' S' T' R0 S0 : Nat → Int}
theorem Kp.still (h : Kp w0 w p s R N S T B) (hc : Chg (fun _ => False) w w') : Kp w0 w' p s R N S T B :=
  { h with prog := h.prog.chg hc (fun f => f), since := h.since.chg hc (fun f => f), chg := h.chg.trans hc }
theorem Kp.mono (h : Kp w0 w p s R N S T B) (hB : B ≤ B') : Kp w0 w p s R N S T B' :=
  { h with sin := fun i hi => ⟨(h.sin i hi).1, (h.sin i hi).2.1, by have := (h.sin i hi).2.2; omega⟩ }
/-- The program's alone were changed. -/
theorem Kp.one (h : Kp w0 w p s R N S T B) (K1 : HB w1 p 48 R' N' S') (G1 : Chg (· = p) w w1) (ok : Okh R' N' S') (sin : Sin R' N' T B) : Kp w0 w1 p s R' N' S' T B :=
  { h with prog := K1, since := h.since.chg G1 (fun e => h.ne e.symm), ok := ok, sin := sin, chg := h.chg.trans' G1 (fun i hi e => by have := h.lp; omega) }
/-- Both were changed. -/
theorem Kp.both (h : Kp w0 w p s R N S T B) (K1 : HB w1 p 48 R' N' S') (G1 : Chg (· = p) w w1) (ok : Okh R' N' S') (K2 : IB w2 s 39 12 T') (G2 : Chg (· = s) w1 w2) (sin : Sin R' N' T' B') : Kp w0 w2 p s R' N' S' T' B' :=
  { h with
    prog := K1.chg G2 h.ne
    since := K2
    ok := ok
    sin := sin
    chg := (h.chg.trans' G1 (fun i hi e => by have := h.lp; omega)).trans' G2 (fun i hi e => by have := h.ls; omega) }
theorem Sin.read (h : Sin R N T B) (hb : b < 12) : Sin (more 65535 R b) N (upd T b (T b + 1)) (B + 1) := fun i hi => by
  have hh := h i hi
  rw [more_yes _ _ _ hb]
  unfold upd
  by_cases e : i = b
  · subst e
    rw [if_pos rfl, if_pos rfl]
    omega
  · rw [if_neg e, if_neg e]
    omega
theorem Sin.erased (h : Sin R N T B) (hb : b < 12) : Sin (none0 R b) (none0 N b) (upd T b 0) B := fun i hi => by
  have hh := h i hi
  rw [none_yes _ _ hb, none_yes _ _ hb]
  unfold upd
  by_cases e : i = b
  · rw [if_pos e, if_pos e, if_pos e]
    omega
  · rw [if_neg e, if_neg e, if_neg e]
    omega
theorem Sin.noted (ok : Okh R N S) : Sin R R (fun _ => 0) B := fun i hi => by
  have := ok i hi
  simp only []
  refine ⟨?_, ?_, ?_⟩ <;> omega
theorem Fal.refl : Fal kd b R S R S := ⟨fun _ _ => Or.inl (Int.le_refl _), fun _ _ => Int.le_refl _⟩
theorem Fal.read (h : Fal kd b R0 S0 R S) (ok : Okh R N S) (hb : b < 12) : Fal kd b R0 S0 (more 65535 R b) S := by
  refine ⟨fun i hi => ?_, h.2⟩
  have h1 := h.1 i hi
  have h2 := ok i hi
  rw [more_yes _ _ _ hb]
  unfold upd
  by_cases e : i = b
  · subst e
    rw [if_pos rfl]
    omega
  · rw [if_neg e]
    exact h1
theorem Fal.report (h : Fal kd b R0 S0 R S) (ok : Okh R N S) (hb : b < 12) : Fal kd b R0 S0 R (more 255 S b) := by
  refine ⟨h.1, fun i hi => ?_⟩
  have h1 := h.2 i hi
  have h2 := ok i hi
  rw [more_yes _ _ _ hb]
  unfold upd
  by_cases e : i = b
  · subst e
    rw [if_pos rfl]
    omega
  · rw [if_neg e]
    exact h1
theorem Fal.erased (h : Fal 2 b R0 S0 R S) (hb : b < 12) : Fal 2 b R0 S0 (none0 R b) S := by
  refine ⟨fun i hi => ?_, h.2⟩
  have h1 := h.1 i hi
  rw [none_yes _ _ hb]
  unfold upd
  by_cases e : i = b
  · exact Or.inr ⟨rfl, e⟩
  · rw [if_neg e]
    exact h1
/-- Whether of the first k one was read 64 times and isn't full. -/
def dnB (T R : Nat → Int) (k : Nat) : Bool := (List.range k).any fun i => decide (64 ≤ T i) && decide (R i < 65535)
def fwB (T : Nat → Int) (k : Nat) : Bool := (List.range k).all fun i => decide (T i < 64)
theorem dnB_succ (T R : Nat → Int) (k : Nat) : dnB T R (k + 1) = (dnB T R k || (decide (64 ≤ T k) && decide (R k < 65535))) := by
  unfold dnB
  rw [List.range_succ, List.any_append]
  simp
theorem fwB_succ (T : Nat → Int) (k : Nat) : fwB T (k + 1) = (fwB T k && decide (T k < 64)) := by
  unfold fwB
  rw [List.range_succ, List.all_append]
  simp
theorem Sin.due (h : Sin R N T B) (hd : dnB T R 12 = true) : duB R N = true := by
  unfold dnB at hd
  obtain ⟨i, hi, hx⟩ := List.any_eq_true.1 hd
  have hi' := List.mem_range.1 hi
  simp only [Bool.and_eq_true, decide_eq_true_eq] at hx
  have := h i hi'
  exact duB_yes hi' (by omega)
theorem Sin.few (h : Sin R N T B) (hd : fwB T 12 = true) : duB R N = false := by
  unfold fwB at hd
  have hx := List.all_eq_true.1 hd
  refine duB_no fun j hj => ?_
  have h1 := hx j (List.mem_range.2 hj)
  simp only [decide_eq_true_eq] at h1
  have := h j hj
  omega
end
/-- And the four lists that are held against one another. -/
structure Tl (w0 w : World) (p s : Nat) (R N S T : Nat → Int) (B : Nat) (g1 g2 g3 g4 : Nat) (R0 S0 : Nat → Int) : Prop where
  kp : Kp w0 w p s R N S T B
  was : Rw w g1 12 R0
  old : Rw w g2 12 S0
  now : Rw w g3 12 R
  young : Rw w g4 12 S
theorem Tl.still {w0 w w' : World} {p s B g1 g2 g3 g4 : Nat} {R N S T R0 S0 : Nat → Int} (h : Tl w0 w p s R N S T B g1 g2 g3 g4 R0 S0) (hc : Chg (fun _ => False) w w') : Tl w0 w' p s R N S T B g1 g2 g3 g4 R0 S0 :=
  ⟨h.kp.still hc, h.was.chg hc (fun f => f), h.old.chg hc (fun f => f), h.now.chg hc (fun f => f), h.young.chg hc (fun f => f)⟩
theorem zero39 (w : World) : (zeroValue 39).run Try.prog w = .ok (.agg (ints (fun _ => 0) 12).toArray) w := by kernel_rfl
theorem build39 (w : World) : (Instr.build 39 #[]).run Try.prog w = .ok (.agg (ints (fun _ => 0) 12).toArray) w := by kernel_rfl
end Go.Proofs.Ytmicfipanpdjbaa
