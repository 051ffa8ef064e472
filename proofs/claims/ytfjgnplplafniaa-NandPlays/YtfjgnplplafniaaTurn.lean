/-
  A chunk's own functions: programmed, its damage, turned. Conditions: it lies in its block; the bytes lie elsewhere.
-/
import Derived.Test.YtfjgnplplafniaaCell
namespace Go.Proofs.Ytfjgnplplafniaa
open Go.RowKit
set_option maxRecDepth 100000

/-- A programmed chunk. -/
def pgmK (l : List Nat) : Chk := { now := l, tru := l, is := true, worst := 0 }
def pgm0 : Chk := { nulK with is := true }
theorem pgm_cells : Try.zeroCells60.setIfInBounds 128 (.bool true) = (ckc pgm0).toArray := by kernel_rfl
theorem pgm_size : (Try.zeroCells60.setIfInBounds 128 (.bool true)).size = 130 := by rw [Array.size_setIfInBounds]; exact nul_size
theorem pgm_one : (Try.zeroCells60.setIfInBounds 128 (.bool true)).all (·.oneCell') = true := by rw [pgm_cells]; exact all_oneCell_toArray (ckc_one _)
theorem src_byt {w : World} {c oo : Nat} {l : List Nat} (h : ∀ i, i < l.length → w.cell? ⟨c, oo + i, none⟩ = some (.int .u8 (l.getD i 0 : Nat))) : ∀ j v, (l.map byt)[j]? = some v → w.cell? ((⟨c, oo, none⟩ : Addr).add j) = some v := src_cells h
theorem cells_other {w : World} {g c : Nat} (h : c ≠ g) : ∀ (vs : List Value) (o i : Nat), (w.setCells g o vs).cell? ⟨c, i, none⟩ = w.cell? ⟨c, i, none⟩ := fun vs o i =>
  World.cell?_setCells_out g vs o w ⟨c, i, none⟩ (fun e _ => absurd e h)
set_option maxHeartbeats 1000000 in
theorem program_any (g o : Nat) (t : TypeId) (n : Nat) (f : Nat → Value) (ho : o + 130 ≤ n) (c oo cap : Nat) (hc : c ≠ g) (l : List Nat) (hl : l.length = 64) (w : World) (hB : Sto w g t n f)
    (hsrc : ∀ i, i < 64 → w.cell? ⟨c, oo + i, none⟩ = some (.int .u8 (l.getD i 0 : Nat))) :
    Calls Try.prog 49 #[.pointer (some ⟨g, o, none⟩), .slice (some ⟨c, oo, none⟩) 64 cap] w fun e w' => e = .returned (.tuple #[]) ∧ Sto w' g t n (upL f o (ckc (pgmK l))) ∧ Chg (· = g) w w' := by
  have hth := hB.there o 130 ho
  have hB1 : Sto (w.setCells g o (Try.zeroCells60.setIfInBounds 128 (.bool true)).toList) g t n (upL f o (ckc pgm0)) := by
    rw [pgm_cells]; exact Sto.setCells _ _ hB
  have hG1 : Chg (· = g) w (w.setCells g o (Try.zeroCells60.setIfInBounds 128 (.bool true)).toList) := Chg.setCells (S := (· = g)) (Or.inl rfl) _ _ (Chg.refl _ _)
  have hC1 := fun i (hi : i < l.length) => (cells_other (w := w) hc (Try.zeroCells60.setIfInBounds 128 (.bool true)).toList o (oo + i)).trans (hsrc i (by omega))
  have hth1 := hB1.there (o + 64) 64 (by omega)
  have hcp := run_copy_cells (P := Try.prog) (w.setCells g o (Try.zeroCells60.setIfInBounds 128 (.bool true)).toList) 33 33 3 5 g (o + 64) 64 64 ⟨c, oo, none⟩ 64 cap (l.map byt) Try.underlying33 size5 (by simp [hl]) (src_byt hC1) (fun j hj => (hth1 j (by simpa [hl] using hj)).1) (fun j hj => (hth1 j (by simpa [hl] using hj)).2) (byt_one l)
  rw [List.length_map, hl] at hcp
  have hB2 := Sto.setCells (l.map byt) (o + 64) hB1
  rw [upL_upL _ _ _ _ _ (by rw [ckc_length (k := pgm0) rfl rfl]; simp [hl]), layV_tru pgm0 l rfl rfl hl] at hB2
  have hG2 := Chg.setCells (S := (· = g)) (Or.inl rfl) (l.map byt) (o + 64) hG1
  clear hC1 hth1 hG1 hB1 hsrc
  generalize hw1 : w.setCells g o (Try.zeroCells60.setIfInBounds 128 (.bool true)).toList = w1 at *
  have HW1 := hyd hw1
  clear hw1
  generalize hw2 : w1.setCells g (o + 64) (l.map byt) = w2 at *
  clear hw2
  have r2 : w2.rangeAt g (o + 64) (l.map byt) := Seg.range hB2 (ckc_tru (k := { pgm0 with tru := l }) rfl (upL_seg _ _ _)) (by simp [hl]; omega)
  have hth2 := hB2.there o 64 (by omega)
  have HS : Hid ((Try.prog.info? 58).map (·.size) = some (l.map byt).length) := by rw [List.length_map, hl]; exact size58
  have hs : ((l.map byt).toArray).size = 64 := by simp [hl]
  have h1 := all_oneCell_toArray (byt_one l)
  have hB3 := Sto.setCells (l.map byt) o hB2
  have e2 := upL_upL f o (ckc { pgm0 with tru := l }) 0 (l.map byt) (by rw [ckc_length (k := { pgm0 with tru := l }) rfl hl]; simp [hl])
  rw [Nat.add_zero, layV_now _ _ rfl hl] at e2
  rw [e2] at hB3
  have hG3 := Chg.setCells (S := (· = g)) (Or.inl rfl) (l.map byt) o hG2
  have HSZ : Hid ((Try.prog.info? 58).map (·.size) = some ((l.map byt).toArray).size) := by rw [hs]; exact size58
  have HTH : Hid (w2.there g o ((l.map byt).toArray).size) := by rw [hs]; exact hth2
  have HO := hyd h1
  clear e2 hB2 hG2 hl hs hth2 h1
  go_enter Try.func49, Try.ntmps49
  go_wp2_with (first | (refine wpList_store_mid rfl 60 (.tmp 6) (.tmp 5) rfl g o _ rfl rfl (by rw [pgm_size]; exact hth) (by rw [pgm_size]; exact size60) pgm_one ?_; rw [HW1.out]) | refine wpList_load_mid rfl 58 (.tmp 16) rfl g (o + 64) rfl _ _ r2 Try.underlying58 rfl HS.out ?_ | refine wpList_store_mid rfl 58 (.tmp 19) (.tmp 17) rfl g o _ rfl rfl HTH.out HSZ.out HO.out ?_)
  go_end0
  exact ⟨rfl, hB3, hG3⟩
theorem index58 (l : List Nat) (i : Nat) (hl : l.length = 64) (hi : i < 64) (w : World) : (Instr.index 58 (.agg (l.map byt).toArray) (.int .i64 i)).run Try.prog w = .ok (.int .u8 (l.getD i 0 : Nat)) w := by
  have h2 : i < l.length := by omega
  simp [Instr.index, run_underlying Try.underlying58, asIntOf, go_sem, hi, List.getElem?_eq_getElem h2, byt]
set_option maxHeartbeats 1000000 in
theorem damage_any (g o : Nat) (t : TypeId) (n : Nat) (f : Nat → Value) (ho : o + 130 ≤ n) (k : Chk) (hk : k.Ok) (hS : Seg f o (ckc k)) (w : World) (hB : Sto w g t n f) :
    Calls Try.prog 54 #[.pointer (some ⟨g, o, none⟩)] w fun e w' => e = .returned (.int .i64 (dmg k : Nat)) ∧ w' = w := by
  have r1 : w.rangeAt g o (k.now.map byt) := Seg.range hB (ckc_now hS) (by simp [hk.now]; omega)
  have HS : Hid ((Try.prog.info? 58).map (·.size) = some (k.now.map byt).length) := by rw [List.length_map, hk.now]; exact size58
  have hct : ∀ i, i < 64 → w.cell? ⟨g, o + 64 + i, none⟩ = some (.int .u8 (k.tru.getD i 0 : Nat)) := fun i hi => by
    rw [hB.cell _ (by omega)]
    congr 1
    exact ckc_tru hk.now hS i _ (by rw [List.getElem?_map, List.getElem?_eq_getElem (by rw [hk.tru]; exact hi)]; simp [byt, List.getD_eq_getElem?_getD, List.getElem?_eq_getElem (show i < k.tru.length by rw [hk.tru]; exact hi)])
  have HT := hyd hct
  clear hct
  go_enter Try.func54, Try.ntmps54
  go_wp2_with (first | refine wpList_load_mid rfl 58 (.tmp 8) rfl g o rfl _ _ r1 Try.underlying58 rfl HS.out ?_)
  go_loopw [3, 10] (fun t3 t10 wr => ∃ i : Nat, i ≤ 64 ∧ t10 = .int .i64 i ∧ t3 = .int .i64 (dmgTo k.now k.tru i : Nat) ∧ wr = w) (fun _ t10 _ => 64 - (intOf t10).toNat)
  case atStart => exact ⟨0, by omega, rfl, rfl, rfl⟩
  case round =>
    obtain ⟨i, hi, rfl, rfl, rfl⟩ := hrel
    by_cases hlt : i < 64
    · have hkb4 : (0 : Int) ≤ (i : Int) := by omega
      have hkb5 : (i : Int) < 64 := by omega
      have c1 := HT.out i hlt
      have hix := index58 k.now i hk.now hlt
      have hb1 := hk.nowB.getD i
      have hb2 := hk.truB.getD i
      have hd := dmgTo_le k.now k.tru i
      have HD : Hid (dmgTo k.now k.tru (i + 1) = dmgTo k.now k.tru i + (if k.now.getD i 0 = k.tru.getD i 0 then 0 else 1)) := rfl
      generalize k.now.getD i 0 = x at *
      generalize k.tru.getD i 0 = y at *
      by_cases hxy : x = y
      · subst hxy
        rw [if_pos rfl] at HD
        have HD2 := hyd HD.out
        clear HD
        generalize dmgTo k.now k.tru i = d at *
        go_wp2
        exact ⟨⟨i + 1, by omega, by go_num, by rw [HD2.out, Nat.add_zero], trivial⟩, by simp [intOf]; omega⟩
      · rw [if_neg hxy] at HD
        have HD2 := hyd HD.out
        clear HD
        generalize dmgTo k.now k.tru i = d at *
        have hne : ((x : Int) == (y : Int)) = false := beq_eq_false_iff_ne.2 (by omega)
        go_wp2
        exact ⟨⟨i + 1, by omega, by go_num, by rw [HD2.out]; go_num, trivial⟩, by simp [intOf]; omega⟩
    · have e : i = 64 := by omega
      subst e
      go_wp2
      go_ret
      exact ⟨rfl, rfl⟩
end Go.Proofs.Ytfjgnplplafniaa
