/-
  nand.New: a chip. No condition.
-/
import Derived.Test.YtfjgnplplafniaaClear
namespace Go.Proofs.Ytfjgnplplafniaa
open Go.RowKit
set_option maxRecDepth 1000000
def zBlo : Blo := ⟨false, false, 0, false, 0⟩
/-- A new chip. -/
def newS : Chp := { ch := fun _ => newK, bl := fun _ => zBlo, on := true, lim := false, bud := 0, steps := 0 }
theorem bys_rep (n v : Nat) (h : v < 256) : Bys (List.replicate n v) := fun m hm => by rw [(List.mem_replicate.1 hm).2]; exact h
theorem newK_ok : newK.Ok := ⟨rfl, rfl, bys_rep _ _ (by omega), bys_rep _ _ (by omega), by decide⟩
theorem zBlo_ok : zBlo.Ok := ⟨by decide, fun _ => rfl, by decide, by decide⟩
theorem newS_ok : newS.Ok := ⟨fun _ => newK_ok, fun _ => zBlo_ok, by decide, by decide, by decide⟩
def tail73 : List Value := ((List.range 12).flatMap fun _ => blc zBlo) ++ (List.replicate 12 (.int .i64 0) ++ [.bool false, .bool false, .int .i64 0, .int .i64 0])
theorem zero_tail : Try.zeroCells73.toList.drop 49920 = tail73 := by kernel_rfl
theorem tail_bl : ∀ j : Fin 48, tail73[j.val]? = some ((blc zBlo).getD (j.val % 4) undef) := by
  intro j
  match j with
  | ⟨j, hj⟩ =>
    simp only
    have : ∀ q r : Nat, q < 12 → r < 4 → tail73[4 * q + r]? = some ((blc zBlo).getD r undef) := by
      intro q r hq hr
      rcases (by omega : q = 0 ∨ q = 1 ∨ q = 2 ∨ q = 3 ∨ q = 4 ∨ q = 5 ∨ q = 6 ∨ q = 7 ∨ q = 8 ∨ q = 9 ∨ q = 10 ∨ q = 11) with e | e | e | e | e | e | e | e | e | e | e | e <;> subst e <;>
      rcases (by omega : r = 0 ∨ r = 1 ∨ r = 2 ∨ r = 3) with e | e | e | e <;> subst e <;> rfl
    have h := this (j / 4) (j % 4) (by omega) (by omega)
    rw [show 4 * (j / 4) + j % 4 = j from by omega] at h
    exact h
theorem zero_bl (i : Nat) (h1 : 49920 ≤ i) (h2 : i < 49968) : Try.zeroCells73[i]? = some (ccell newS i) := by
  have h := tail_bl ⟨i - 49920, by omega⟩
  rw [← zero_tail, List.getElem?_drop, Array.getElem?_toList] at h
  simp only at h
  rw [show 49920 + (i - 49920) = i from by omega] at h
  rw [h]
  unfold ccell
  rw [if_neg (by omega), if_pos h2]; rfl
theorem zero_steps : Try.zeroCells73[49983]? = some (.int .i64 0) := by
  have h : tail73[63]? = some (.int .i64 0) := rfl
  rw [← zero_tail, List.getElem?_drop, Array.getElem?_toList] at h
  exact h
def made73 (z : Array Value) : Array Value := ((z.setIfInBounds 49980 (Value.bool true)).setIfInBounds 49981 (Value.bool false)).setIfInBounds 49982 (Value.int IntKind.i64 0)
theorem made_size : (made73 Try.zeroCells73).size = 49984 := by unfold made73; rw [Array.size_setIfInBounds, Array.size_setIfInBounds, Array.size_setIfInBounds]; exact Try.zeroCells73_size
theorem made_bl (i : Nat) (h1 : 49920 ≤ i) (h2 : i < 49968) : (made73 Try.zeroCells73)[i]? = some (ccell newS i) := by
  unfold made73
  rw [Array.getElem?_setIfInBounds_ne (by omega), Array.getElem?_setIfInBounds_ne (by omega), Array.getElem?_setIfInBounds_ne (by omega)]
  exact zero_bl i h1 h2
theorem made_pw (i : Nat) (h1 : 49980 ≤ i) (h2 : i < 49984) : (made73 Try.zeroCells73)[i]? = some (ccell newS i) := by
  have hs := Try.zeroCells73_size
  unfold made73
  rcases (by omega : i = 49980 ∨ i = 49981 ∨ i = 49982 ∨ i = 49983) with e | e | e | e <;> subst e
  · rw [Array.getElem?_setIfInBounds_ne (by omega), Array.getElem?_setIfInBounds_ne (by omega), Array.getElem?_setIfInBounds_self_of_lt (by omega)]; rfl
  · rw [Array.getElem?_setIfInBounds_ne (by omega), Array.getElem?_setIfInBounds_self_of_lt (by rw [Array.size_setIfInBounds]; omega)]; rfl
  · rw [Array.getElem?_setIfInBounds_self_of_lt (by rw [Array.size_setIfInBounds, Array.size_setIfInBounds]; omega)]; rfl
  · rw [Array.getElem?_setIfInBounds_ne (by omega), Array.getElem?_setIfInBounds_ne (by omega), Array.getElem?_setIfInBounds_ne (by omega), zero_steps]; rfl
theorem blk_new (w : World) (cs : Array Value) (t : TypeId) (n : Nat) (h : cs.size = n) : Sto (w.alloc (.cells cs t)) w.heap.size t n (fun i => cs[i]?.getD undef) :=
  ⟨cs, by show (w.heap.push _)[w.heap.size]? = _; simp, h, fun i hi => by
    have e : cs[i]? = some cs[i] := Array.getElem?_eq_getElem (by omega)
    simp only [e]; rfl⟩
theorem new_cell (i : Nat) (h : i < 49920) : ccell newS i = (ckc newK).getD (i % 130) undef := by unfold ccell; rw [if_pos h]; rfl
theorem Chg.fresh {u w w' : World} {g : Nat} (h : Chg (fun _ => False) u w) (h2 : Chg (· = g) w w') (hg : u.heap.size ≤ g) : Chg (fun _ => False) u w' := h.trans' h2 (fun i hi e => by omega)
set_option maxHeartbeats 1000000 in
theorem new_any (w : World) :
    Calls Try.prog 6 #[] w fun e w' => e = .returned (.pointer (some ⟨w.heap.size, 0, none⟩)) ∧ ChipAt w' w.heap.size newS ∧ Chg (fun _ => False) w w' := by
  have hB0 := blk_new w (made73 Try.zeroCells73) 73 49984 made_size
  have hG0 : Chg (fun _ => False) w (w.alloc (.cells (made73 Try.zeroCells73) 73)) := (Chg.refl _ _).alloc _
  have HM : Hid (((Try.zeroCells73.setIfInBounds 49980 (Value.bool true)).setIfInBounds 49981 (Value.bool false)).setIfInBounds 49982 (Value.int IntKind.i64 0) = (made73 Try.zeroCells73)) := rfl
  go_enter Try.func6, Try.ntmps6
  go_wp2_with fail
  rw [HM.out]
  clear HM
  generalize hq : w.heap.size = q at *
  have hqs := Nat.le_of_eq hq
  have HQ := hyd hq
  clear hq
  generalize w.alloc (.cells (made73 Try.zeroCells73) 73) = w1 at *
  go_loopw [6] (fun t6 wr => ∃ (b : Nat) (f : Nat → Value), b ≤ 12 ∧ t6 = .int .i64 b ∧ Sto wr q 73 49984 f ∧ (∀ i, 49920 ≤ i → i < 49968 → f i = ccell newS i) ∧ (∀ i, 49980 ≤ i → i < 49984 → f i = ccell newS i) ∧ (∀ i, i < 4160 * b → f i = ccell newS i) ∧ (∀ c, c < b → f (49968 + c) = .int .i64 0) ∧ Chg (fun _ => False) w wr) (fun t6 _ => 12 - (intOf t6).toNat)
  case atStart => exact ⟨0, _, by omega, rfl, hB0, fun i h1 h2 => by rw [made_bl i h1 h2]; rfl, fun i h1 h2 => by rw [made_pw i h1 h2]; rfl, fun i hi => by omega, fun c hc => by omega, hG0⟩
  case round =>
    clear hB0 hG0
    obtain ⟨b, f, hb, rfl, hB, h1, h2, h3, h4, hG⟩ := hrel
    by_cases hlt : b < 12
    · have H1 := hyd h1
      have H2 := hyd h2
      have H3 := hyd h3
      have H4 := hyd h4
      clear h1 h2 h3 h4
      go_wp2_with fail
      refine (clear_block q b hlt f _ hB).mono ?_
      rintro e w2 ⟨rfl, hB2, hG2⟩
      have hG3 := hG.fresh hG2 hqs
      clear hG hG2 hB
      go_wp2
      refine ⟨⟨b + 1, _, by omega, by go_num, hB2, fun i g1 g2 => ?_, fun i g1 g2 => ?_, fun i g1 => ?_, fun c g1 => ?_, hG3⟩, by simp [intOf]; omega⟩
      · rw [upL_one, if_neg (by omega)]
        unfold clrF
        rw [if_neg (by omega)]
        exact H1.out i g1 g2
      · rw [upL_one, if_neg (by omega)]
        unfold clrF
        rw [if_neg (by omega)]
        exact H2.out i g1 g2
      · rw [upL_one, if_neg (by omega)]
        unfold clrF
        by_cases hc : 4160 * b ≤ i
        · rw [if_pos (by omega), new_cell i (by omega)]
        · rw [if_neg (by omega)]
          exact H3.out i (by omega)
      · rw [upL_one]
        by_cases hc : c = b
        · rw [if_pos (by omega)]
        · rw [if_neg (by omega)]
          unfold clrF
          rw [if_neg (by omega)]
          exact H4.out c (by omega)
    · have e : b = 12 := by omega
      subst e
      have hC : ChipAt wr q newS := hB.ext fun i hi => by
        by_cases g1 : i < 49920
        · exact h3 i (by omega)
        · by_cases g2 : i < 49968
          · exact h1 i (by omega) g2
          · by_cases g3 : i < 49980
            · have := h4 (i - 49968) (by omega)
              rw [show 49968 + (i - 49968) = i from by omega] at this
              rw [this]
              have h5 := ccell_reads newS (i - 49968) (by omega)
              rw [show 49968 + (i - 49968) = i from by omega] at h5
              rw [h5]; rfl
            · exact h2 i (by omega) hi
      clear h1 h2 h3 h4 hB
      go_wp2
      go_ret
      rw [HQ.out]
      exact ⟨rfl, hC, hG⟩
end Go.Proofs.Ytfjgnplplafniaa
