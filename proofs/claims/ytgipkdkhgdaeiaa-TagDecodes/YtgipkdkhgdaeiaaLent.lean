/-
  A Lent, asked: its bytes; is it as it was; its owner writes over it. Condition: it is a Lent.
-/
import Derived.Test.YtgipkdkhgdaeiaaLend
namespace Go.Proofs.Ytgipkdkhgdaeiaa
set_option maxRecDepth 100000
open Go.RowKit

theorem hid {p : Prop} (h : p) : Hid p := h
theorem LentAt.chg {S : Nat → Prop} {w w' : World} {base s f g n : Nat} {l m : List Nat} (h : LentAt w base s f g l m n) (hc : Chg S w w') (hs : ¬ S s) (hf : ¬ S f) (hg : ¬ S g) : LentAt w' base s f g l m n := by
  obtain ⟨cf, cg, h1, h2, h3, r⟩ := h
  have hlt : s < w.heap.size := (Array.getElem?_eq_some_iff.1 h1).1
  exact ⟨cf, cg, (hc.block s hlt hs).trans h1, h2.chg hc (fun k _ he => by have := Option.some.inj he; subst this; exact hf), h3.chg hc (fun k _ he => by have := Option.some.inj he; subst this; exact hg), r⟩
theorem LentAt.lts {w : World} {base s f g n : Nat} {l m : List Nat} (h : LentAt w base s f g l m n) : base ≤ s ∧ base ≤ f ∧ base ≤ g ∧ s < w.heap.size ∧ f < w.heap.size ∧ g < w.heap.size := by
  obtain ⟨cf, cg, h1, h2, h3, _, _, _, hb⟩ := h
  have hlt : s < w.heap.size := (Array.getElem?_eq_some_iff.1 h1).1
  have e1 := h2.block (k := f) rfl
  have e2 := h3.block (k := g) rfl
  omega

set_option maxRecDepth 100000 in
set_option maxHeartbeats 1000000 in
theorem bytes_any (w : World) (base s f g n : Nat) (l m : List Nat) (h : LentAt w base s f g l m n) (hn : n ≤ l.length) (h0 : l.length ≠ 0) (hl : l.length ≤ 9223372036854775807) :
    Calls Try.prog 15 #[.pointer (some ⟨s, 0, none⟩)] w fun e w' => ∃ cf, e = .returned (.slice (some ⟨f, 0, none⟩) n cf) ∧ Held w (.slice (some ⟨f, 0, none⟩) n cf) (l.take n) ∧ n ≤ cf ∧ Chg (fun _ => False) w w' := by
  obtain ⟨cf, cg, h1, h2, h3, _⟩ := h
  have hT : Tri w s _ _ _ := h1
  have t0 := hT.cell0
  have t2 := hT.cell2
  obtain ⟨g', cap', hv, _, hgs, hcap, hc, _⟩ := h2.lies h0
  simp only [Value.slice.injEq, Option.some.injEq, Addr.mk.injEq] at hv
  obtain ⟨⟨rfl, -, -⟩, -, rfl⟩ := hv
  have hH : Held w (.slice (some ⟨f, 0, none⟩) n cf) (l.take n) := by
    have e : (l.take n).length = n := by rw [List.length_take]; omega
    refine ⟨_, cf, by rw [e], ?_⟩
    by_cases hn0 : n = 0
    · exact Or.inl (by omega)
    · refine Or.inr ⟨f, 0, rfl, hgs, fun i hi => ?_⟩
      rw [Nat.zero_add, hc i (by omega), List.getD_eq_getElem?_getD, List.getD_eq_getElem?_getD, List.getElem?_take_of_lt (by omega)]
  have hb1 : (0 : Int) ≤ (n : Int) := by omega
  have hb2 : (n : Int) ≤ (cf : Int) := by omega
  clear h1 h2 h3 hT hc
  go_enter Try.func15, Try.ntmps15
  go_wp2
  go_region
  go_wp2
  go_ret
  exact ⟨cf, rfl, hH, by omega, (Chg.refl _ _).drew⟩

set_option maxRecDepth 100000 in
set_option maxHeartbeats 1000000 in
theorem kept_any (w : World) (base s f g n : Nat) (l m : List Nat) (h : LentAt w base s f g l m n) (hl : l.length ≤ 9223372036854775807) (hm : m.length ≤ 9223372036854775807) :
    Calls Try.prog 16 #[.pointer (some ⟨s, 0, none⟩)] w fun e w' => e = .returned (.bool (decide (l = m))) ∧ Chg (fun _ => False) w w' := by
  obtain ⟨cf, cg, h1, h2, h3, _⟩ := h
  have hT : Tri w s _ _ _ := h1
  have t0 := hT.cell0
  have t1 := hT.cell1
  have hh2 := h2.held
  have hh3 := h3.held
  clear h1 h2 h3 hT
  go_enter Try.func16, Try.ntmps16
  go_wp2
  go_region_with (go_at_call 11; refine (same_any _ (some ⟨f, 0, none⟩) (some ⟨g, 0, none⟩) cf cg l m ?_ ?_ hl hm).mono ?_; (exact hh2); (exact hh3); rintro e w' ⟨rfl, hC⟩)
  all_goals
    go_wp2
    go_ret
    exact ⟨rfl, ((Chg.refl _ w).drew).trans hC⟩

theorem Own.setFar {w : World} {base : Nat} {e : TypeId} {f n c : Nat} {l : List Nat} (h : Own w base e (.slice (some ⟨f, 0, none⟩) n c) l) {s : Nat} (hs : f ≠ s) (o : Nat) (x : Value) : Own (w.setCell ⟨s, o, none⟩ x) base e (.slice (some ⟨f, 0, none⟩) n c) l :=
  h.keep (fun k _ he => Below.heap_setCell _ _ _ _ (by have := Option.some.inj he; simp only at this ⊢; omega))
theorem Tri.setFar {w : World} {s : Nat} {x0 x1 x2 : Value} (h : Tri w s x0 x1 x2) {b : Nat} (hb : s ≠ b) (o : Nat) (x : Value) : Tri (w.setCell ⟨b, o, none⟩ x) s x0 x1 x2 :=
  h.keep (Below.heap_setCell _ _ _ _ (by simp only; omega))

end Go.Proofs.Ytgipkdkhgdaeiaa
