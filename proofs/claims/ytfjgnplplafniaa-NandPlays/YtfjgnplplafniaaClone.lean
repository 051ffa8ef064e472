/-
  Clone. Condition: the block holds a chip that can be.
-/
import Derived.Test.YtfjgnplplafniaaShown
namespace Go.Proofs.Ytfjgnplplafniaa
open Go.RowKit
set_option maxRecDepth 100000

/-- A copy of n elements of sz cells each. -/
theorem run_copy_wide {P : Program} (w : World) (dT sT ty elem : TypeId) (b o dLen dCap : Nat) (a : Addr) (sLen sCap n sz : Nat) (cs : List Value)
    (hu : P.underlying dT = some (.slice elem)) (hs : (P.info? elem).map (·.size) = some sz) (hn : n = Nat.min sLen dLen) (hcs : cs.length = n * sz)
    (hsrc : ∀ j v, cs[j]? = some v → w.cell? (a.add j) = some v) (hth : w.there b o cs.length) (h1 : ∀ v ∈ cs, v.oneCell' = true) :
    (Builtin.copy_ #[dT, sT] ty #[.slice (some ⟨b, o, none⟩) dLen dCap, .slice (some a) sLen sCap]).run P w = .ok (goInt n) (w.setCells b o cs) := by
  have hl := run_loadCells_list (P := P) w a cs hsrc
  have hst := run_storeCells_cells (P := P) b o cs 0 w (fun j hj => by simpa using (hth j hj).1) (fun j hj => by simpa using (hth j hj).2) h1
  cases hq : P.info? elem with
  | none => simp [hq] at hs
  | some i =>
    have hi : i.size = sz := by simpa [hq] using hs
    rw [hcs] at hl
    simp [Builtin.copy_, run_underlying hu, Builtin.lenOf, Builtin.firstCells, sizeOf, typeInfo, hq, hi, ← hn, hl, hst]
/-- n cells of f from o on. -/
def part (f : Nat → Value) (o n : Nat) : List Value := (List.range n).map fun i => f (o + i)
theorem part_length (f : Nat → Value) (o n : Nat) : (part f o n).length = n := by simp [part]
theorem part_at (f : Nat → Value) (o n j : Nat) (h : j < n) : (part f o n)[j]? = some (f (o + j)) := by simp [part, h]
theorem part_seg (f : Nat → Value) (o n : Nat) : Seg f o (part f o n) := fun j v hv => by
  have hj : j < n := by have := (List.getElem?_eq_some_iff.1 hv).1; rw [part_length] at this; exact this
  rw [part_at f o n j hj] at hv
  exact Option.some.inj hv
theorem upL_part (f f' : Nat → Value) (o n i : Nat) : upL f' o (part f o n) i = if o ≤ i ∧ i < o + n then f i else f' i := by
  unfold upL
  rw [part_length]
  by_cases h : o ≤ i ∧ i < o + n
  · rw [if_pos h, if_pos h, List.getD_eq_getElem?_getD, part_at _ _ _ _ (by omega), show o + (i - o) = i from by omega]; rfl
  · rw [if_neg h, if_neg h]
theorem getD_one {l : List Value} (h : ∀ v ∈ l, v.oneCell' = true) (i : Nat) (hi : i < l.length) : (l.getD i undef).oneCell' = true := by
  rw [List.getD_eq_getElem?_getD, List.getElem?_eq_getElem hi]
  exact h _ (List.getElem_mem hi)
theorem blc_one (b : Blo) : ∀ v ∈ blc b, v.oneCell' = true := by
  intro v hv
  simp only [blc, List.mem_cons, List.not_mem_nil, or_false] at hv
  rcases hv with rfl | rfl | rfl | rfl <;> rfl
theorem ccell_one {s : Chp} (hs : s.Ok) (i : Nat) (h : i < 49968) : (ccell s i).oneCell' = true := by
  unfold ccell
  by_cases h1 : i < 49920
  · rw [if_pos h1]
    exact getD_one (ckc_one _) _ (by rw [ckc_length (hs.ch _).now (hs.ch _).tru]; omega)
  · rw [if_neg h1, if_pos h]
    exact getD_one (blc_one _) _ (by simp [blc]; omega)
theorem part_one {s : Chp} (hs : s.Ok) (o n : Nat) (h : o + n ≤ 49968) : ∀ v ∈ part (ccell s) o n, v.oneCell' = true := by
  intro v hv
  simp only [part, List.mem_map, List.mem_range] at hv
  obtain ⟨i, hi, rfl⟩ := hv
  exact ccell_one hs _ (by omega)
theorem size61 : (Try.prog.info? 61).map (·.size) = some 520 := by kernel_rfl
theorem size64 : (Try.prog.info? 64).map (·.size) = some 4 := by kernel_rfl
theorem range_src {w : World} {g o : Nat} {cs : List Value} (h : w.rangeAt g o cs) : ∀ j v, cs[j]? = some v → w.cell? ((⟨g, o, none⟩ : Addr).add j) = some v := fun j v hv => by rw [Addr.add_mid]; exact h j v hv
def copy73 (z : Array Value) (s : Chp) : Array Value := (((z.setIfInBounds 49980 (Value.bool s.on)).setIfInBounds 49981 (Value.bool s.lim)).setIfInBounds 49982 (Value.int IntKind.i64 s.bud)).setIfInBounds 49983 (Value.int IntKind.i64 s.steps)
theorem copy_size (s : Chp) : (copy73 Try.zeroCells73 s).size = 49984 := by unfold copy73; rw [Array.size_setIfInBounds, Array.size_setIfInBounds, Array.size_setIfInBounds, Array.size_setIfInBounds]; exact Try.zeroCells73_size
theorem copy_pw (s : Chp) (i : Nat) (h1 : 49980 ≤ i) (h2 : i < 49984) : (copy73 Try.zeroCells73 s)[i]? = some (ccell s i) := by
  have hs := Try.zeroCells73_size
  unfold copy73
  rcases (by omega : i = 49980 ∨ i = 49981 ∨ i = 49982 ∨ i = 49983) with e | e | e | e <;> subst e
  · rw [Array.getElem?_setIfInBounds_ne (by omega), Array.getElem?_setIfInBounds_ne (by omega), Array.getElem?_setIfInBounds_ne (by omega), Array.getElem?_setIfInBounds_self_of_lt (by omega)]; rfl
  · rw [Array.getElem?_setIfInBounds_ne (by omega), Array.getElem?_setIfInBounds_ne (by omega), Array.getElem?_setIfInBounds_self_of_lt (by rw [Array.size_setIfInBounds]; omega)]; rfl
  · rw [Array.getElem?_setIfInBounds_ne (by omega), Array.getElem?_setIfInBounds_self_of_lt (by rw [Array.size_setIfInBounds, Array.size_setIfInBounds]; omega)]; rfl
  · rw [Array.getElem?_setIfInBounds_self_of_lt (by rw [Array.size_setIfInBounds, Array.size_setIfInBounds, Array.size_setIfInBounds]; omega)]; rfl
set_option maxHeartbeats 4000000 in
theorem clone_any (g : Nat) (s : Chp) (hs : s.Ok) (w : World) (h : ChipAt w g s) :
    Calls Try.prog 42 #[.pointer (some ⟨g, 0, none⟩)] w fun e w' => e = .returned (.pointer (some ⟨w.heap.size, 0, none⟩)) ∧ ChipAt w' w.heap.size s ∧ Chg (fun _ => False) w w' := by
  have c1 := h.on
  have c2 := h.lim
  have c3 := h.bud
  have c4 := h.steps
  have hB0 := (blk_new w (copy73 Try.zeroCells73 s) 73 49984 (copy_size s)).drew
  have hG0 : Chg (fun _ => False) w (w.alloc (.cells (copy73 Try.zeroCells73 s) 73)).drew := ((Chg.refl _ _).alloc _).drew
  have HM : Hid ((((Try.zeroCells73.setIfInBounds 49980 (Value.bool s.on)).setIfInBounds 49981 (Value.bool s.lim)).setIfInBounds 49982 (Value.int IntKind.i64 s.bud)).setIfInBounds 49983 (Value.int IntKind.i64 s.steps) = copy73 Try.zeroCells73 s) := rfl
  have HP := hyd (copy_pw s)
  have hgl := h.lt
  have HH := hyd h
  have HS := hyd hs
  clear h hs
  go_enter Try.func42, Try.ntmps42
  go_wp2_with fail
  go_region
  rw [HM.out]
  clear HM c1 c2 c3 c4
  generalize hq : w.heap.size = q at *
  have hqs := Nat.le_of_eq hq
  have HQ := hyd hq
  clear hq
  have hqg : q ≠ g := by omega
  generalize hf0 : (fun (i : Nat) => (copy73 Try.zeroCells73 s)[i]?.getD undef) = f0 at *
  have HF0 : Hid (∀ i, 49980 ≤ i → i < 49984 → f0 i = ccell s i) := by
    intro i h1 h2
    rw [← hf0]
    simp only [HP.out i h1 h2]; rfl
  clear hf0 HP
  generalize copy73 Try.zeroCells73 s = cz at *
  generalize (w.alloc (.cells cz 73)).drew = w1 at *
  have hC1 := HH.out.chg hG0 (fun f => f)
  have r1 : w1.drew.rangeAt g 0 (part (ccell s) 0 49920) := Seg.range hC1.drew (part_seg _ _ _) (by rw [part_length]; omega)
  have hcp1 := run_copy_wide (P := Try.prog) w1.drew 117 117 3 61 q 0 96 96 ⟨g, 0, none⟩ 96 96 96 520 (part (ccell s) 0 49920) Try.underlying117 size61 rfl (by rw [part_length]) (range_src r1) (by rw [part_length]; exact Sto.there hB0.drew 0 49920 (by omega)) (part_one HS.out 0 49920 (by omega))
  have hB2 := Sto.setCells (part (ccell s) 0 49920) 0 hB0.drew
  have hG2 := Chg.setCells (S := fun _ => False) (g := q) (Or.inr hqs) (part (ccell s) 0 49920) 0 hG0.drew
  clear r1 hB0 hG0 hC1
  generalize w1.drew.setCells q 0 (part (ccell s) 0 49920) = w2 at *
  go_wp2_with fail
  go_region
  clear hcp1
  have hC2 := HH.out.chg hG2 (fun f => f)
  have r2 : w2.drew.rangeAt g 49920 (part (ccell s) 49920 48) := Seg.range hC2.drew (part_seg _ _ _) (by rw [part_length]; omega)
  have hcp2 := run_copy_wide (P := Try.prog) w2.drew 118 118 3 64 q 49920 12 12 ⟨g, 49920, none⟩ 12 12 12 4 (part (ccell s) 49920 48) Try.underlying118 size64 rfl (by rw [part_length]) (range_src r2) (by rw [part_length]; exact Sto.there hB2.drew 49920 48 (by omega)) (part_one HS.out 49920 48 (by omega))
  have hB3 := Sto.setCells (part (ccell s) 49920 48) 49920 hB2.drew
  have hG3 := Chg.setCells (S := fun _ => False) (g := q) (Or.inr hqs) (part (ccell s) 49920 48) 49920 hG2.drew
  clear r2 hB2 hG2 hC2
  generalize w2.drew.setCells q 49920 (part (ccell s) 49920 48) = w3 at *
  go_wp2_with fail
  go_region
  clear hcp2
  have HF3 : Hid (∀ i, i < 49984 → (i < 49968 ∨ 49980 ≤ i) → upL (upL f0 0 (part (ccell s) 0 49920)) 49920 (part (ccell s) 49920 48) i = ccell s i) := by
    intro i hi h1
    rw [upL_part, upL_part]
    by_cases h2 : 49920 ≤ i ∧ i < 49920 + 48
    · rw [if_pos h2]
    · rw [if_neg h2]
      by_cases h3 : 0 ≤ i ∧ i < 0 + 49920
      · rw [if_pos h3]
      · rw [if_neg h3]; exact HF0.out i (by omega) hi
  generalize upL (upL f0 0 (part (ccell s) 0 49920)) 49920 (part (ccell s) 49920 48) = f3 at *
  clear HF0
  go_wp2_with fail
  go_loopw [33] (fun t33 wr => ∃ (b : Nat) (f : Nat → Value), b ≤ 12 ∧ t33 = .int .i64 b ∧ Sto wr q 73 49984 f ∧ (∀ i, i < 49984 → (i < 49968 + b ∨ 49980 ≤ i) → f i = ccell s i) ∧ Chg (fun _ => False) w wr) (fun t33 _ => 12 - (intOf t33).toNat)
  case atStart => exact ⟨0, f3, by omega, rfl, hB3, fun i hi h1 => HF3.out i hi (by omega), hG3⟩
  case round =>
    clear hB3 hG3 HF3
    obtain ⟨b, f, hb, rfl, hB, hf, hG⟩ := hrel
    by_cases hlt : b < 12
    · have hb0 : (0 : Int) ≤ (b : Int) := by omega
      have hb1 : (b : Int) < 12 := by omega
      have hC := HH.out.chg hG (fun f => f)
      have k1 := Sto.cell hC (49968 + b) (by omega)
      rw [ccell_reads s b hlt] at k1
      have k2 := hB.cell (49968 + b) (by omega)
      have k3 := hB.frozen (49968 + b)
      have hB4 := hB.drew.setCell (49968 + b) (.int .i64 (s.bl b).reads)
      have hG4 := hG.drew.setCell (g := q) (Or.inr hqs) (49968 + b) (.int .i64 (s.bl b).reads)
      have HFf : Hid (∀ i, i < 49984 → (i < 49968 + (b + 1) ∨ 49980 ≤ i) → upL f (49968 + b) [.int .i64 (s.bl b).reads] i = ccell s i) := by
        intro i hi h1
        rw [upL_one]
        by_cases e : i = 49968 + b
        · rw [if_pos e, e, ccell_reads s b hlt]
        · rw [if_neg e]; exact hf i hi (by omega)
      clear hf hB hG hC
      generalize f (49968 + b) = u at *
      go_wp2_with fail
      go_region_with (first | (go_at_call 69; refine (load_any g (49968 + b) _ (x := (s.bl b).reads) ?_).mono ?_; (exact k1); rintro e w4 ⟨rfl, rfl⟩) | (go_at_call 56; refine (store_any q (49968 + b) _ (s.bl b).reads (u := u) ?_ ?_).mono ?_; (exact k2); (exact k3); rintro e w5 ⟨rfl, rfl⟩))
      all_goals
        go_wp2
        exact ⟨⟨b + 1, _, by omega, by go_num, hB4, HFf.out, hG4⟩, by simp [intOf]; omega⟩
    · have e : b = 12 := by omega
      subst e
      have hC : ChipAt wr q s := hB.ext fun i hi => hf i hi (by omega)
      clear hB hf
      go_wp2
      go_ret
      rw [HQ.out]
      exact ⟨rfl, hC, hG⟩
end Go.Proofs.Ytfjgnplplafniaa
