/-
  patinaref01.Same: are two texts alike? Condition: they can be read.
-/
import Derived.Test.YtepbfdbooobnlaaGreatDoorMem
namespace Go.Proofs.YtepbfdbooobnlaaGreatDoor
set_option maxRecDepth 100000
open Go.RowKit

theorem Chg.cell {S : Nat → Prop} {w w' : World} (h : Chg S w w') {c : Nat} (hc : c < w.heap.size) (hs : ¬ S c) (o : Nat) : w'.cell? ⟨c, o, none⟩ = w.cell? ⟨c, o, none⟩ :=
  World.cell?_of_block (w := w) (h.block c hc hs)
theorem list_eq_of_getD {l1 l2 : List Nat} (hl : l1.length = l2.length) (h : ∀ i, i < l1.length → l1.getD i 0 = l2.getD i 0) : l1 = l2 := by
  apply List.ext_getElem hl
  intro i h1 h2
  have := h i h1
  rwa [List.getD_eq_getElem?_getD, List.getD_eq_getElem?_getD, List.getElem?_eq_getElem h1, List.getElem?_eq_getElem h2] at this

set_option maxRecDepth 100000 in
set_option maxHeartbeats 1000000 in
theorem same_any (w : World) (a1 a2 : Option Addr) (c1 c2 : Nat) (l1 l2 : List Nat) (h1 : Held w (.slice a1 l1.length c1) l1) (h2 : Held w (.slice a2 l2.length c2) l2) (hn1 : l1.length ≤ 9223372036854775807) (_hn2 : l2.length ≤ 9223372036854775807) :
    Calls Tryz.prog 11 #[.slice a1 l1.length c1, .slice a2 l2.length c2] w fun e w' => e = .returned (.bool (decide (l1 = l2))) ∧ Chg (fun _ => False) w w' := by
  by_cases hl : l1.length = l2.length
  · have hne : ((l1.length : Int) != (l2.length : Int)) = false := by rw [hl]; simp
    have H1 : Hid (Held w (.slice a1 l1.length c1) l1) := h1
    have H2 : Hid (Held w (.slice a2 l2.length c2) l2) := h2
    have HL : Hid (l1.length = l2.length) := hl
    clear h1 h2 hl
    go_enter Tryz.func11, Tryz.ntmps11
    go_wp2
    go_loopw [5] (fun t wr => ∃ k : Nat, k ≤ l1.length ∧ t = .int .i64 k ∧ Hid (∀ i, i < k → l1.getD i 0 = l2.getD i 0) ∧ Chg (fun _ => False) w wr) (fun t _ => l1.length - (intOf t).toNat)
    case atStart => exact ⟨0, Nat.zero_le _, rfl, fun i hi => absurd hi (Nat.not_lt_zero _), Chg.refl _ _⟩
    case round =>
      obtain ⟨k, hk, rfl, hall, hC⟩ := hrel
      by_cases hlt : k < l1.length
      · have hlt2 : (k : Int) < (l2.length : Int) := by have := HL.out; omega
        obtain ⟨a1', c1', hv1, hc1⟩ := H1.out
        obtain ⟨a2', c2', hv2, hc2⟩ := H2.out
        simp only [Value.slice.injEq] at hv1 hv2
        obtain ⟨g1, o1, ha1, hg1, hc1⟩ := hc1.resolve_left (by omega)
        obtain ⟨g2, o2, ha2, hg2, hc2⟩ := hc2.resolve_left (by omega)
        obtain rfl : a1 = some ⟨g1, o1, none⟩ := hv1.1.trans ha1
        obtain rfl : a2 = some ⟨g2, o2, none⟩ := hv2.1.trans ha2
        have hx1 : wr.cell? ⟨g1, o1 + k, none⟩ = some (.int .u8 (l1.getD k 0 : Nat)) := (hC.cell hg1 (fun f => f) _).trans (hc1 k hlt)
        have hx2 : wr.cell? ⟨g2, o2 + k, none⟩ = some (.int .u8 (l2.getD k 0 : Nat)) := (hC.cell hg2 (fun f => f) _).trans (hc2 k (by omega))
        by_cases he : l1.getD k 0 = l2.getD k 0
        · have hb : (((l1.getD k 0 : Nat) : Int) != ((l2.getD k 0 : Nat) : Int)) = false := by rw [he]; simp
          have hall2 : Hid (∀ i, i < k + 1 → l1.getD i 0 = l2.getD i 0) := fun i hi => by
            by_cases hik : i = k
            · rw [hik]; exact he
            · exact hall i (by omega)
          generalize l1.getD k 0 = x1 at *
          generalize l2.getD k 0 = x2 at *
          clear hc1 hc2 hv1 hv2 ha1 ha2 he
          go_wp2
          go_region
          go_wp2
          exact ⟨⟨k + 1, by omega, by go_num, hall2, hC.drew⟩, by simp [intOf]; omega⟩
        · have hb : (((l1.getD k 0 : Nat) : Int) != ((l2.getD k 0 : Nat) : Int)) = true := by rw [bne_iff_ne]; omega
          have hd : Hid (decide (l1 = l2) = false) := decide_eq_false (fun e => he (by rw [e]))
          generalize l1.getD k 0 = x1 at *
          generalize l2.getD k 0 = x2 at *
          clear hc1 hc2 hv1 hv2 ha1 ha2 he
          go_wp2
          go_region
          go_wp2
          go_ret
          exact ⟨by rw [hd.out]; rfl, hC.drew⟩
      · have hd : Hid (decide (l1 = l2) = true) := decide_eq_true (list_eq_of_getD HL.out (fun i hi => hall i (by omega)))
        go_wp2
        go_ret
        exact ⟨by rw [hd.out]; rfl, hC⟩
  · have hne : ((l1.length : Int) != (l2.length : Int)) = true := by rw [bne_iff_ne]; omega
    have hd : Hid (decide (l1 = l2) = false) := decide_eq_false (fun e => hl (by rw [e]))
    clear hl
    go_enter Tryz.func11, Tryz.ntmps11
    go_wp2
    go_ret
    exact ⟨by rw [hd.out]; rfl, Chg.refl _ _⟩
theorem same_n (w : World) (a1 a2 : Option Addr) (n1 n2 c1 c2 : Nat) (l1 l2 : List Nat) (e1 : n1 = l1.length) (e2 : n2 = l2.length) (h1 : Held w (.slice a1 n1 c1) l1) (h2 : Held w (.slice a2 n2 c2) l2) (hn1 : l1.length ≤ 9223372036854775807) (hn2 : l2.length ≤ 9223372036854775807) :
    Calls Tryz.prog 11 #[.slice a1 n1 c1, .slice a2 n2 c2] w fun e w' => e = .returned (.bool (decide (l1 = l2))) ∧ Chg (fun _ => False) w w' := by
  subst e1 e2
  exact same_any w a1 a2 c1 c2 l1 l2 h1 h2 hn1 hn2
end Go.Proofs.YtepbfdbooobnlaaGreatDoor
