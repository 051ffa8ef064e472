/-
  The statements' own helper message, and the document's answer for the distance of two words (patinaref02.Apart). Condition: the bytes can be read.
-/
import Derived.Test.YtfihhamjlcnpnaaSynWalk
namespace Go.Proofs.Ytfihhamjlcnpnaa
open Go.RowKit
set_option maxRecDepth 100000

/-- The first i bytes of l, n in all, noughts behind them. -/
def padTo (l : List Nat) (n i : Nat) : List Nat := (List.range n).map fun k => if k < i then l.getD k 0 else 0
theorem padTo_length (l : List Nat) (n i : Nat) : (padTo l n i).length = n := by simp [padTo]
theorem padTo_zero (l : List Nat) (n : Nat) : padTo l n 0 = List.replicate n 0 := by
  apply List.ext_getElem?
  intro k
  by_cases h : k < n
  · simp [padTo, h]
  · rw [List.getElem?_eq_none (by simp [padTo]; omega), List.getElem?_eq_none (by simp; omega)]
theorem padTo_set (l : List Nat) (n i : Nat) : (padTo l n i).set i (l.getD i 0) = padTo l n (i + 1) := by
  apply List.ext_getElem?
  intro k
  by_cases h : i = k
  · subst h
    by_cases h5 : i < n
    · rw [List.getElem?_set_self (by rw [padTo_length]; exact h5)]
      simp [padTo, h5]
    · rw [List.getElem?_eq_none (by simp [padTo]; omega), List.getElem?_eq_none (by simp [padTo]; omega)]
  · rw [List.getElem?_set_ne h]
    by_cases h5 : k < n
    · simp only [padTo, List.getElem?_map, List.getElem?_range h5, Option.map_some]
      congr 1
      by_cases h6 : k < i
      · rw [if_pos h6, if_pos (by omega)]
      · rw [if_neg h6, if_neg (by omega)]
    · rw [List.getElem?_eq_none (by simp [padTo]; omega), List.getElem?_eq_none (by simp [padTo]; omega)]
theorem padTo_end (l : List Nat) (n i : Nat) (h : n ≤ i ∨ l.length ≤ i) : padTo l n i = padTo l n n := by
  apply List.map_congr_left
  intro k hk
  have hk := List.mem_range.1 hk
  rw [if_pos hk]
  by_cases h1 : k < i
  · rw [if_pos h1]
  · rw [if_neg h1, List.getD_eq_getElem?_getD, List.getElem?_eq_none (by omega)]; rfl
theorem padTo_bys {l : List Nat} (hl : Bys l) (n i : Nat) : Bys (padTo l n i) := by
  intro x hx
  simp only [padTo, List.mem_map, List.mem_range] at hx
  obtain ⟨k, _, rfl⟩ := hx
  split
  · exact hl.getD k
  · decide

set_option maxHeartbeats 4000000 in
theorem message_any (w : World) (a : Option Addr) (cap : Nat) (l : List Nat) (hl : Bys l) (_hlen : l.length ≤ 9223372036854775807) (hr : Held w (.slice a l.length cap) l) :
    Calls Try.prog 23 #[.slice a l.length cap] w fun e w' => ∃ g, e = .returned (.slice (some ⟨g, 0, none⟩) 58 58) ∧ w.heap.size ≤ g ∧ Arr w' g 5 (padTo l 58 58) ∧ Chg (fun _ => False) w w' := by
  have hmk := make58
  have HR := hyd hr
  clear hr
  go_enter Try.func23, Try.ntmps23
  go_wp2_with fail
  go_loopw [4] (fun t wr => ∃ i : Nat, i ≤ 58 ∧ t = .int .i64 i ∧ Arr wr w.heap.size 5 (padTo l 58 i) ∧ Chg (fun _ => False) w wr) (fun t _ => 58 - (intOf t).toNat)
  case atStart => exact ⟨0, by omega, rfl, by rw [padTo_zero]; exact Arr.new w 5 z58, (Chg.refl _ _).alloc _⟩
  case round =>
    obtain ⟨i, hi, rfl, hA, hG⟩ := hrel
    by_cases hlt : i < 58
    · have hlt' : (i : Int) < 58 := by omega
      by_cases hlt2 : i < l.length
      · have hlt2' : (i : Int) < (l.length : Int) := by omega
        obtain ⟨c, o, rfl, hc⟩ : ∃ c o, a = some ⟨c, o, none⟩ ∧ wr.cell? ⟨c, o + i, none⟩ = some (.int .u8 (l.getD i 0 : Nat)) := by
          obtain ⟨a', c', hv, h | ⟨g, o, ha, hg, hc⟩⟩ := HR.out.chgF hG
          · omega
          · simp only [Value.slice.injEq] at hv
            exact ⟨g, o, hv.1.trans ha, hc i hlt2⟩
        have hkb : (0 : Int) ≤ (i : Int) := by omega
        have hf := hA.frozen i
        have hx := hA.cell i (by rw [padTo_length]; omega)
        have hd := hl.getD i
        have hA2 : Arr (wr.setCell ⟨w.heap.size, i, none⟩ (.int .u8 (l.getD i 0 : Nat))) w.heap.size 5 (padTo l 58 (i + 1)) := by
          rw [← padTo_set]; exact hA.store i _
        have HA2 := hyd hA2
        clear hA2
        generalize l.getD i 0 = xx at *
        go_wp2
        exact ⟨⟨i + 1, by omega, by go_num, HA2.out, hG.setCell (Or.inr (Nat.le_refl _)) _ _⟩, by simp [intOf]; omega⟩
      · have hlt2' : ¬ (i : Int) < (l.length : Int) := by omega
        rw [padTo_end l 58 i (Or.inr (by omega))] at hA
        go_wp2
        go_ret
        exact ⟨_, rfl, Nat.le_refl _, hA, hG⟩
    · have hlt' : ¬ (i : Int) < 58 := by omega
      rw [padTo_end l 58 i (Or.inl (by omega))] at hA
      go_wp2
      go_ret
      exact ⟨_, rfl, Nat.le_refl _, hA, hG⟩

theorem wt_lt (f : Nat → Nat) (n : Nat) : wt f n ≤ n := by
  induction n with
  | zero => exact Nat.le_refl _
  | succ n ih =>
    simp only [wt]
    split <;> omega
set_option maxHeartbeats 4000000 in
theorem rapart_any (w : World) (c o c2 c1 o1 c3 : Nat) (x y : List Nat) (_hx : x.length = 64) (_hy : y.length = 64) (bx : Bys x) (bys : Bys y)
    (h1 : ∀ i, i < 64 → w.cell? ⟨c, o + i, none⟩ = some (.int .u8 (x.getD i 0 : Nat))) (h2 : ∀ i, i < 64 → w.cell? ⟨c1, o1 + i, none⟩ = some (.int .u8 (y.getD i 0 : Nat))) :
    Calls Try.prog 25 #[.slice (some ⟨c, o, none⟩) 64 c2, .slice (some ⟨c1, o1, none⟩) 64 c3] w fun e w' => e = .returned (.int .i64 (ds x y : Nat)) ∧ Chg (fun _ => False) w w' := by
  have H1 := hyd h1
  have H2 := hyd h2
  clear h1 h2
  go_enter Try.func25, Try.ntmps25
  go_wp2_with fail
  go_loopw [5, 6] (fun n t wr => ∃ i : Nat, i ≤ 64 ∧ t = .int .i64 i ∧ n = .int .i64 (wt (df x y) i : Nat) ∧ Chg (fun _ => False) w wr) (fun _ t _ => 64 - (intOf t).toNat)
  case atStart => exact ⟨0, by omega, rfl, rfl, Chg.refl _ _⟩
  case round =>
    obtain ⟨i, hi, rfl, rfl, hG⟩ := hrel
    by_cases hlt : i < 64
    · have hlt' : (i : Int) < 64 := by omega
      have hkb : (0 : Int) ≤ (i : Int) := by omega
      have k1 : wr.cell? ⟨c, o + i, none⟩ = some (.int .u8 (x.getD i 0 : Nat)) := (World.cell?_of_block (w := w) (a := ⟨c, o + i, none⟩) (hG.block c (cell_lt (H1.out i hlt)) (fun e => e))).trans (H1.out i hlt)
      have k2 : wr.cell? ⟨c1, o1 + i, none⟩ = some (.int .u8 (y.getD i 0 : Nat)) := (World.cell?_of_block (w := w) (a := ⟨c1, o1 + i, none⟩) (hG.block c1 (cell_lt (H2.out i hlt)) (fun e => e))).trans (H2.out i hlt)
      have hw := wt_lt (df x y) i
      have d1 := bx.getD i
      have d2 := bys.getD i
      by_cases he : x.getD i 0 = y.getD i 0
      · have HW : Hid (wt (df x y) (i + 1) = wt (df x y) i) := hyd (by show wt _ i + _ = _; rw [if_pos (df_zero.2 he), Nat.add_zero])
        have hb : (((x.getD i 0 : Nat) : Int) != (y.getD i 0 : Nat)) = false := by rw [he]; simp
        generalize wt (df x y) i = W at *
        clear he
        generalize x.getD i 0 = xx at *
        generalize y.getD i 0 = yy at *
        go_wp2_with fail
        go_region
        all_goals
          clear k1 k2
          go_wp2
          exact ⟨⟨i + 1, by omega, by go_num, by rw [HW.out], hG.drew⟩, by simp [intOf]; omega⟩
      · have HW : Hid (wt (df x y) (i + 1) = wt (df x y) i + 1) := hyd (by show wt _ i + _ = _; rw [if_neg (fun e => he (df_zero.1 e))])
        have hb : (((x.getD i 0 : Nat) : Int) != (y.getD i 0 : Nat)) = true := by simp only [bne_iff_ne, ne_eq]; omega
        generalize wt (df x y) i = W at *
        clear he
        generalize x.getD i 0 = xx at *
        generalize y.getD i 0 = yy at *
        go_wp2_with fail
        go_region
        all_goals
          clear k1 k2
          go_wp2
          exact ⟨⟨i + 1, by omega, by go_num, by rw [HW.out]; go_num, hG.drew⟩, by simp [intOf]; omega⟩
    · have hlt' : ¬ (i : Int) < 64 := by omega
      have HI : Hid (i = 64) := hyd (by omega)
      go_wp2
      go_ret
      exact ⟨by rw [HI.out]; rfl, hG⟩
end Go.Proofs.Ytfihhamjlcnpnaa
