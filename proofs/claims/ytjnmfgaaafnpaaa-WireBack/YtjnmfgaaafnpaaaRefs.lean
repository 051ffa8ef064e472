/-
  The document's Sealed and Marked (patinaref03). Condition: the bytes can be read.
-/
import Derived.Test.YtjnmfgaaafnpaaaSeal
import Derived.Test.YtjnmfgaaafnpaaaPut
namespace Go.Proofs.Ytjnmfgaaafnpaaa
open Go.RowKit
set_option maxRecDepth 100000

theorem Own.slice' {w : World} {base : Nat} {e : TypeId} {v : Value} {l : List Nat} (h : Own w base e v l) : ∃ a c, v = .slice a l.length c := by
  rcases h.t.form with ⟨h1, h2⟩ | ⟨g, c, h1, _⟩
  · exact ⟨none, 0, by rw [h1, h2]; rfl⟩
  · exact ⟨_, c, h1⟩
theorem Own.chgF {w w' : World} {base : Nat} {e : TypeId} {v : Value} {l : List Nat} (h : Own w base e v l) (hc : Chg (fun _ => False) w w') : Own w' base e v l := h.chg hc (fun _ _ _ f => f)
theorem Held.chgF {w w' : World} {v : Value} {l : List Nat} (h : Held w v l) (hc : Chg (fun _ => False) w w') : Held w' v l := h.chg hc (fun _ _ _ f => f)

set_option maxHeartbeats 1000000 in
theorem rsealed_any (w : World) (c o cap : Nat) (l : List Nat) (hl : l.length = 50) (hc : ∀ i, i < l.length → w.cell? ⟨c, o + i, none⟩ = some (.int .u8 (l.getD i 0 : Nat))) :
    Calls Try.prog 22 #[.slice (some ⟨c, o, none⟩) 50 cap] w fun e w' => ∃ a k, e = .returned (.slice a 58 k) ∧ Own w' w.heap.size 5 (.slice a 58 k) (l ++ mk) ∧ Chg (fun _ => False) w w' := by
  have hi5 := info5
  have HC := hyd hc
  clear hc
  go_enter Try.func22, Try.ntmps22
  go_wp2_with (at_builtin; refine wpList_append_bytes _ rfl _ _ 24 rfl w.heap.size 5 Try.underlying24 hi5 _ [] rfl ?h1 (some ⟨c, o, none⟩) 50 cap l rfl hl (by simp) ?h2 ?h3 ?h4 w.heap.size ?h5 ?_)
  case h1 => exact Own.nil _ _ _
  case h2 =>
    intro ad had j hj
    have e := Option.some.inj had
    subst e
    rw [Addr.add_lit]
    exact HC.out j (by omega)
  case h3 => simp
  case h4 => simp
  case h5 => rfl
  intro v1 w1 hO1 hg1 _
  have G1 : Chg (fun _ => False) w w1 := (Chg.refl _ w).grown hg1 (fun k hk => by cases hk)
  replace hO1 : Own w1 w.heap.size 5 v1 l := by simpa using hO1
  obtain ⟨a1, c1, hv1⟩ := hO1.slice'
  rw [hl] at hv1
  subst hv1
  clear hg1
  have hs1 := G1.size
  go_wp2_with fail
  refine (rmark_any w1).mono ?_
  rintro e w2 ⟨g, rfl, hg, hA, hG⟩
  have hO2 := hO1.chgF hG
  have hs2 := hG.size
  have hi5 := info5
  have HO2 := hyd hO2
  have HA := hyd hA
  have hL := hyd hl
  clear hO2 hA hO1 hl
  go_wp2_with (at_builtin; refine wpList_append_bytes _ rfl _ _ 24 rfl w.heap.size 5 Try.underlying24 hi5 _ l rfl HO2.out (some ⟨g, 0, none⟩) 8 8 mk rfl rfl (by simp) ?h2 ?h3 ?h4 w2.heap.size ?h5 ?_)
  case h2 =>
    intro ad had j hj
    have e := Option.some.inj had
    subst e
    rw [Addr.add_lit, Nat.zero_add]
    exact HA.out.cell j (by rw [mk_length]; exact hj)
  case h3 => rw [hL.out]; decide
  case h4 => omega
  case h5 => rfl
  intro v3 w3 hO3 hg3 _
  have G3 : Chg (fun _ => False) w w3 := (G1.trans hG).grown hg3 (fun k hk => Or.inr (HO2.out.block hk).1)
  obtain ⟨a3, c3, hv3⟩ := hO3.slice'
  rw [List.length_append, hL.out, mk_length] at hv3
  subst hv3
  clear hg3
  go_wp2
  go_ret
  exact ⟨a3, c3, rfl, hO3, G3⟩

theorem mark_all {l : List Nat} (hl : l.length = 58) (h : ∀ i, i < 8 → l.getD (50 + i) 0 = mk.getD i 0) : l.drop 50 = mk := by
  refine list_eq_of_getD (by simp [hl, mk_length]) (fun i hi => ?_)
  rw [← h i (by simp [hl] at hi; omega)]
  simp [List.getD_eq_getElem?_getD, List.getElem?_drop]
set_option maxHeartbeats 1000000 in
theorem rmarked_any (w : World) (c o cap : Nat) (l : List Nat) (hl : l.length = 58) (hcs : c < w.heap.size) (hc : ∀ i, i < l.length → w.cell? ⟨c, o + i, none⟩ = some (.int .u8 (l.getD i 0 : Nat))) :
    Calls Try.prog 23 #[.slice (some ⟨c, o, none⟩) 58 cap] w fun e w' => e = .returned (.bool (decide (l.drop 50 = mk))) ∧ Chg (fun _ => False) w w' := by
  have HC := hyd hc
  have HL := hyd hl
  clear hc hl
  go_enter Try.func23, Try.ntmps23
  go_wp2_with fail
  refine (rmark_any w).mono ?_
  rintro e w1 ⟨g, rfl, hg, hA, hG⟩
  have HA := hyd hA
  have HG := hyd hG
  clear hA hG
  go_wp2_with fail
  go_loopw [4] (fun t wr => ∃ k : Nat, k ≤ 8 ∧ t = .int .i64 k ∧ Hid (∀ i, i < k → l.getD (50 + i) 0 = mk.getD i 0) ∧ Chg (fun _ => False) w1 wr) (fun t _ => 8 - (intOf t).toNat)
  case atStart => exact ⟨0, Nat.zero_le _, rfl, fun i hi => absurd hi (Nat.not_lt_zero _), Chg.refl _ _⟩
  case round =>
    obtain ⟨k, hk, rfl, hall, hC⟩ := hrel
    by_cases hlt : k < 8
    · have hlt' : (k : Int) < 8 := by omega
      have hkb : (0 : Int) ≤ (k : Int) := by omega
      have k1 : wr.cell? ⟨c, o + (50 + k), none⟩ = some (.int .u8 (l.getD (50 + k) 0 : Nat)) :=
        (World.cell?_of_block (w := w) (a := ⟨c, o + (50 + k), none⟩) ((HG.out.trans hC).block c hcs (fun e => e))).trans (HC.out (50 + k) (by rw [HL.out]; omega))
      have k2 : wr.cell? ⟨g, k, none⟩ = some (.int .u8 (mk.getD k 0 : Nat)) := (HA.out.chg hC (fun e => e)).cell k (by rw [mk_length]; exact hlt)
      have w50 : IntKind.i64.wrap (50 + (k : Int)) = 50 + (k : Int) := by have := wrap_i64_small (50 + k) (by omega); push_cast at this; exact this
      have t50 : (50 + (k : Int)).toNat = 50 + k := by omega
      have b50 : (0 : Int) ≤ 50 + (k : Int) := by omega
      have c50 : 50 + (k : Int) < 58 := by omega
      by_cases he : l.getD (50 + k) 0 = mk.getD k 0
      · have hb : (((l.getD (50 + k) 0 : Nat) : Int) != ((mk.getD k 0 : Nat) : Int)) = false := by rw [he]; simp
        have hall2 : Hid (∀ i, i < k + 1 → l.getD (50 + i) 0 = mk.getD i 0) := fun i hi => by
          by_cases hik : i = k
          · rw [hik]; exact he
          · exact hall i (by omega)
        clear he
        generalize l.getD (50 + k) 0 = x1 at *
        generalize mk.getD k 0 = x2 at *
        go_wp2_with fail
        go_region_with fail
        all_goals
          clear k1 k2
          go_wp2
          exact ⟨⟨k + 1, by omega, by go_num, hall2, hC.drew⟩, by simp [intOf]; omega⟩
      · have hb : (((l.getD (50 + k) 0 : Nat) : Int) != ((mk.getD k 0 : Nat) : Int)) = true := by simp only [bne_iff_ne, ne_eq]; omega
        have hd : Hid (decide (l.drop 50 = mk) = false) := decide_eq_false (fun e => he (by rw [← e]; simp [List.getD_eq_getElem?_getD, List.getElem?_drop]))
        clear he
        generalize l.getD (50 + k) 0 = x1 at *
        generalize mk.getD k 0 = x2 at *
        go_wp2_with fail
        go_region_with fail
        all_goals
          clear k1 k2
          go_wp2
          go_ret
          exact ⟨by rw [hd.out]; rfl, HG.out.trans hC.drew⟩
    · have hlt' : ¬ (k : Int) < 8 := by omega
      have hd : Hid (decide (l.drop 50 = mk) = true) := decide_eq_true (mark_all HL.out (fun i hi => hall i (by omega)))
      go_wp2
      go_ret
      exact ⟨by rw [hd.out]; rfl, HG.out.trans hC⟩
end Go.Proofs.Ytjnmfgaaafnpaaa
