/-
  patinaref01.Apart of three lists. Conditions: they are slices of bytes in blocks of their own; none is longer than a thousand bytes.
-/
import Derived.Test.YtjnmfgaaafnpaaaApartWalk
namespace Go.Proofs.Ytjnmfgaaafnpaaa
open Go.RowKit
set_option maxRecDepth 100000

/-- One of three. -/
def pick3 {α : Type} (x y z : α) (i : Nat) : α := if i = 0 then x else if i = 1 then y else z
theorem three {i : Nat} (h : i < 3) : i = 0 ∨ i = 1 ∨ i = 2 := by omega
theorem apart3 (w : World) (base : Nat) (a0 a1 a2 : Option Addr) (n0 n1 n2 c0 c1 c2 : Nat) (l0 l1 l2 : List Nat) (e0 : n0 = l0.length) (e1 : n1 = l1.length) (e2 : n2 = l2.length)
    (h0 : OwnT w base 5 (.slice a0 n0 c0) l0) (h1 : OwnT w base 5 (.slice a1 n1 c1) l1) (h2 : OwnT w base 5 (.slice a2 n2 c2) l2) (hb : base ≤ w.heap.size)
    (d01 : ∀ k, (Value.slice a0 n0 c0).ownBlock = some k → (Value.slice a1 n1 c1).ownBlock ≠ some k) (d02 : ∀ k, (Value.slice a0 n0 c0).ownBlock = some k → (Value.slice a2 n2 c2).ownBlock ≠ some k)
    (d12 : ∀ k, (Value.slice a1 n1 c1).ownBlock = some k → (Value.slice a2 n2 c2).ownBlock ≠ some k) (m0 : l0.length ≤ 1000) (m1 : l1.length ≤ 1000) (m2 : l2.length ≤ 1000) :
    Calls Try.prog 24 #[.slice (some ⟨w.heap.size, 0, none⟩) 3 3] (w.alloc (.cells #[.slice a0 n0 c0, .slice a1 n1 c1, .slice a2 n2 c2] 24)) fun e w' =>
      e = .returned (.bool true) ∧ Chg (fun k => (Value.slice a0 n0 c0).ownBlock = some k ∨ (Value.slice a1 n1 c1).ownBlock = some k ∨ (Value.slice a2 n2 c2).ownBlock = some k) (w.alloc (.cells #[.slice a0 n0 c0, .slice a1 n1 c1, .slice a2 n2 c2] 24)) w' := by
  subst e0 e1 e2
  have b0 : ∀ k, (Value.slice a0 l0.length c0).ownBlock = some k → k < w.heap.size := fun k hk => (h0.block hk).2
  have b1 : ∀ k, (Value.slice a1 l1.length c1).ownBlock = some k → k < w.heap.size := fun k hk => (h1.block hk).2
  have b2 : ∀ k, (Value.slice a2 l2.length c2).ownBlock = some k → k < w.heap.size := fun k hk => (h2.block hk).2
  have h := apart_any (w.alloc (.cells #[.slice a0 l0.length c0, .slice a1 l1.length c1, .slice a2 l2.length c2] 24)) w.heap.size 0 3 3 base (pick3 a0 a1 a2) (pick3 c0 c1 c2) (pick3 l0 l1 l2) (by decide)
    (by simp; omega) (by simp) (fun i hi => ?_) ⟨fun i hi => ?_, fun i j k hi hj hij h1 h2 => ?_⟩ (fun i hi => ?_) (fun i hi h1 => ?_)
  · refine h.mono ?_
    rintro e' w' ⟨h1, h2⟩
    refine ⟨h1, h2.mono (fun k _ hk => ?_)⟩
    obtain ⟨j, hj, hk⟩ := hk
    rcases three hj with rfl | rfl | rfl
    · exact Or.inl hk
    · exact Or.inr (Or.inl hk)
    · exact Or.inr (Or.inr hk)
  · rcases three hi with rfl | rfl | rfl <;> simp [pick3]
  · rcases three hi with rfl | rfl | rfl
    · exact h0.keep (fun k hk _ => Below.heap_alloc _ _ _ hk)
    · exact h1.keep (fun k hk _ => Below.heap_alloc _ _ _ hk)
    · exact h2.keep (fun k hk _ => Below.heap_alloc _ _ _ hk)
  · rcases three hi with rfl | rfl | rfl <;> rcases three hj with rfl | rfl | rfl
    · exact hij rfl
    · exact d01 k h1 h2
    · exact d02 k h1 h2
    · exact d01 k h2 h1
    · exact hij rfl
    · exact d12 k h1 h2
    · exact d02 k h2 h1
    · exact d12 k h2 h1
    · exact hij rfl
  · rcases three hi with rfl | rfl | rfl
    · show l0.length ≤ _; omega
    · show l1.length ≤ _; omega
    · show l2.length ≤ _; omega
  · rcases three hi with rfl | rfl | rfl
    · exact absurd (b0 _ h1) (Nat.lt_irrefl _)
    · exact absurd (b1 _ h1) (Nat.lt_irrefl _)
    · exact absurd (b2 _ h1) (Nat.lt_irrefl _)
end Go.Proofs.Ytjnmfgaaafnpaaa
