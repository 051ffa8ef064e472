/-
  slices.Grow and slices.Concat at bytes, as Lay calls them. Condition: the bytes can be read.
-/
import Derived.Test.YtdofegphipbcdaaSeal
import Derived.Lib.AppendZeros
namespace Go.Proofs.Ytdofegphipbcdaa
open Go.RowKit
set_option maxRecDepth 100000

theorem Own.zeros (w : World) (i : TypeInfo) (_hi : i.size = 1) : ∃ cap, Own (w.drew.alloc (.cells (Builtin.zeroCells (Value.int .u8 0).cells 232 ++ Builtin.zeroCells (Value.int .u8 0).cells (grownCap w 232 0 5 - 232)) 5)) w.heap.size 5 (.slice (some ⟨w.heap.size, 0, none⟩) 0 cap) [] ∧ cap = grownCap w 232 0 5 := by
  have h1 := grownCap_ge w 232 0 5
  have h2 := grownCap_le_maxLen w 232 0 5 (by decide)
  refine ⟨_, ⟨rfl, Or.inr ⟨w.heap.size, grownCap w 232 0 5, Builtin.zeroCells (Value.int .u8 0).cells 232 ++ Builtin.zeroCells (Value.int .u8 0).cells (grownCap w 232 0 5 - 232), rfl, Nat.le_refl _, ?_, by simp, h2, ?_, by simp⟩⟩, rfl⟩
  · show (w.heap.push _)[w.heap.size]? = _
    simp
  · rw [Array.size_append, size_zeroCells, size_zeroCells]
    simp [Value.cells]
    omega

set_option maxHeartbeats 1000000 in
theorem grow_any (w : World) : Calls Try.prog 43 #[.slice none 0 0, .int .i64 232] w fun e w' => ∃ cap, e = .returned (.slice (some ⟨w.heap.size, 0, none⟩) 0 cap) ∧ Own w' w.heap.size 5 (.slice (some ⟨w.heap.size, 0, none⟩) 0 cap) [] ∧ Chg (fun _ => False) w w' := by
  obtain ⟨i, h1, h2, h3, h4⟩ := info5
  have hrun := fun ty => Lib.run_append_nil_zeros (P := Try.prog) w 22 3 ty 5 i (.int .u8 0) .i64 .i64 Try.underlying22 Try.underlying3 h1 h2 232 (by omega) (by omega) (by omega) (by rw [h4]; omega)
  have hge := grownCap_ge w 232 0 5
  obtain ⟨cap, hO, hcap⟩ := Own.zeros w i h3
  have HO := hyd hO
  have HC := hyd hcap
  clear hO hcap
  go_enter Try.func43, Try.ntmps43
  go_wp2_with (at_builtin; refine Lib.wpList_append_run _ rfl _ _ _ _ rfl _ _ rfl rfl _ _ (hrun _) ?_)
  go_ret
  have hc := HC.out
  subst hc
  exact ⟨_, rfl, HO.out, ((Chg.refl _ _).alloc _).drew⟩

def acc (l0 l1 : List Nat) : Nat → List Nat
  | 0 => []
  | 1 => l0
  | _ => l0 ++ l1
set_option maxHeartbeats 1000000 in
theorem concat_any (w : World) (r c0 o0 k0 c1 o1 k1 : Nat) (l0 l1 : List Nat) (hl0 : l0.length = 174) (hl1 : l1.length = 58) (hr : w.heap[r]? = some (.cells #[.slice (some ⟨c0, o0, none⟩) 174 k0, .slice (some ⟨c1, o1, none⟩) 58 k1] 22)) (hs0 : c0 < w.heap.size) (hs1 : c1 < w.heap.size)
    (hc0 : ∀ i, i < l0.length → w.cell? ⟨c0, o0 + i, none⟩ = some (.int .u8 (l0.getD i 0 : Nat))) (hc1 : ∀ i, i < l1.length → w.cell? ⟨c1, o1 + i, none⟩ = some (.int .u8 (l1.getD i 0 : Nat))) :
    Calls Try.prog 30 #[.slice (some ⟨r, 0, none⟩) 2 2] w fun e w' => ∃ g cap, e = .returned (.slice (some ⟨g, 0, none⟩) 232 cap) ∧ Own w' w.heap.size 5 (.slice (some ⟨g, 0, none⟩) 232 cap) (l0 ++ l1) ∧ Chg (fun _ => False) w w' := by
  have H0 := hyd hc0
  have H1 := hyd hc1
  clear hc0 hc1
  have hrl : r < w.heap.size := (Array.getElem?_eq_some_iff.1 hr).1
  go_enter Try.func30, Try.ntmps30
  go_wp2_with fail
  go_loopw [3, 11] (fun t3 t11 wr => ∃ k : Nat, k ≤ 2 ∧ t11 = .int .i64 k ∧ t3 = .int .i64 (if k = 0 then 0 else if k = 1 then 174 else 232) ∧ wr = w) (fun _ t _ => 2 - (intOf t).toNat)
  case atStart => exact ⟨0, by omega, rfl, rfl, rfl⟩
  case round =>
    obtain ⟨k, hk, rfl, rfl, rfl⟩ := hrel
    have d0 : wr.cell? ⟨r, 0, none⟩ = some (.slice (some ⟨c0, o0, none⟩) 174 k0) := by simp [World.cell?, hr]
    have d1 : wr.cell? ⟨r, 1, none⟩ = some (.slice (some ⟨c1, o1, none⟩) 58 k1) := by simp [World.cell?, hr]
    have h3 : k = 0 ∨ k = 1 ∨ k = 2 := by omega
    rcases h3 with rfl | rfl | rfl
    · go_wp2
      exact ⟨⟨1, by omega, rfl, rfl, trivial⟩, by simp [intOf]⟩
    · go_wp2
      exact ⟨⟨2, by omega, rfl, rfl, trivial⟩, by simp [intOf]⟩
    · go_wp2_with fail
      refine (grow_any wr).mono ?_
      rintro e w1 ⟨cap, rfl, O1, G1⟩
      obtain ⟨w0, hw0⟩ : ∃ w0, w0 = wr := ⟨_, rfl⟩
      subst hw0
      have hi5 := info5
      have HL0 := hyd hl0
      have HL1 := hyd hl1
      clear d0 d1 hl0 hl1
      go_wp2_with fail
      go_loopw [6, 27] (fun t6 t27 wx => ∃ (k : Nat) (v : Value), k ≤ 2 ∧ v = t6 ∧ t27 = .int .i64 k ∧ Own wx w0.heap.size 5 v (acc l0 l1 k) ∧ Chg (fun _ => False) w0 wx) (fun _ t _ => 2 - (intOf t).toNat)
      case atStart => exact ⟨0, _, by omega, rfl, rfl, O1, G1⟩
      case round =>
        clear O1 G1
        obtain ⟨k, v, hk, rfl, rfl, O, G⟩ := hrel
        have hr2 : wr.heap[r]? = some (.cells #[.slice (some ⟨c0, o0, none⟩) 174 k0, .slice (some ⟨c1, o1, none⟩) 58 k1] 22) := (G.block r hrl (fun e => e)).trans hr
        have d0 : wr.cell? ⟨r, 0, none⟩ = some (.slice (some ⟨c0, o0, none⟩) 174 k0) := by simp [World.cell?, hr2]
        have d1 : wr.cell? ⟨r, 1, none⟩ = some (.slice (some ⟨c1, o1, none⟩) 58 k1) := by simp [World.cell?, hr2]
        have hsz := G.size
        have h3 : k = 0 ∨ k = 1 ∨ k = 2 := by omega
        have e0 : ∀ j, j < l0.length → wr.cell? ⟨c0, o0 + j, none⟩ = some (.int .u8 (l0.getD j 0 : Nat)) := fun j hj => (World.cell?_of_block (w := w0) (a := ⟨c0, o0 + j, none⟩) (G.block c0 hs0 (fun e => e))).trans (H0.out j hj)
        have e1 : ∀ j, j < l1.length → wr.cell? ⟨c1, o1 + j, none⟩ = some (.int .u8 (l1.getD j 0 : Nat)) := fun j hj => (World.cell?_of_block (w := w0) (a := ⟨c1, o1 + j, none⟩) (G.block c1 hs1 (fun e => e))).trans (H1.out j hj)
        have E0 := hyd e0
        have E1 := hyd e1
        clear e0 e1
        have hll := HL0.out
        have hlr := HL1.out
        rcases h3 with rfl | rfl | rfl
        · have O' : Own wr w0.heap.size 5 v [] := O
          clear hll hlr O
          go_wp2_with (at_builtin; refine wpList_append_bytes _ rfl _ _ 22 rfl w0.heap.size 5 Try.underlying22 hi5 v [] rfl O' (some ⟨c0, o0, none⟩) 174 k0 l0 rfl HL0.out (fun e => by cases e) (fun ad had j hj => by have e := Option.some.inj had; subst e; rw [Addr.add_lit]; exact E0.out j (by rw [HL0.out]; exact hj)) (by simp) hsz wr.heap.size rfl ?_)
          intro v2 w2 O2 hg2 _
          have G2 : Chg (fun _ => False) w0 w2 := G.grown hg2 (fun k hk => Or.inr (O'.block hk).1)
          replace O2 : Own w2 w0.heap.size 5 v2 l0 := by simpa using O2
          clear hg2 O'
          go_wp2
          exact ⟨⟨1, _, by omega, rfl, rfl, O2, G2⟩, by simp [intOf]⟩
        · have O' : Own wr w0.heap.size 5 v l0 := O
          clear hll hlr O
          go_wp2_with (at_builtin; refine wpList_append_bytes _ rfl _ _ 22 rfl w0.heap.size 5 Try.underlying22 hi5 v l0 rfl O' (some ⟨c1, o1, none⟩) 58 k1 l1 rfl HL1.out (fun e => by cases e) (fun ad had j hj => by have e := Option.some.inj had; subst e; rw [Addr.add_lit]; exact E1.out j (by rw [HL1.out]; exact hj)) (by rw [HL0.out]; decide) hsz wr.heap.size rfl ?_)
          intro v2 w2 O2 hg2 _
          have G2 : Chg (fun _ => False) w0 w2 := G.grown hg2 (fun k hk => Or.inr (O'.block hk).1)
          clear hg2 O'
          go_wp2
          exact ⟨⟨2, _, by omega, rfl, rfl, O2, G2⟩, by simp [intOf]⟩
        · have O' : Own wr w0.heap.size 5 v (l0 ++ l1) := O
          obtain ⟨g, cap2, hv, -⟩ := O'.lies (by rw [List.length_append]; omega)
          rw [List.length_append, hll, hlr] at hv
          subst hv
          clear hll hlr O
          go_wp2
          go_ret
          exact ⟨g, cap2, rfl, O', G⟩
end Go.Proofs.Ytdofegphipbcdaa
