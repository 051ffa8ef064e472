/-
  A chunk's own functions: programmed, its damage, turned. Conditions: it lies in its block; the bytes lie elsewhere. A bit of a chunk is turned. Condition: it lies in its block. The chip's small functions: what there is, the power, the steps, what is to fail. Condition: the block holds a chip. A block of the chip is cleared; New; Erase. Condition: the block holds a chip.
-/
import Derived.Test.YtifjmilegogbaaaGreatUBlk
namespace Go.Proofs.YtifjmilegogbaaaGreat
open Go.RowKit
set_option maxRecDepth 100000

/-- A programmed chunk. -/
def pgmK (l : List Nat) : Chk := { now := l, tru := l, is := true, worst := 0 }
def pgm0 : Chk := { nulK with is := true }
theorem pgm_cells : Tryz.zeroCells97.setIfInBounds 128 (.bool true) = (ckc pgm0).toArray := by kernel_rfl
theorem pgm_size : (Tryz.zeroCells97.setIfInBounds 128 (.bool true)).size = 130 := by rw [Array.size_setIfInBounds]; exact nul_size
theorem pgm_one : (Tryz.zeroCells97.setIfInBounds 128 (.bool true)).all (·.oneCell') = true := by rw [pgm_cells]; exact all_oneCell_toArray (ckc_one _)
theorem src_byt {w : World} {c oo : Nat} {l : List Nat} (h : ∀ i, i < l.length → w.cell? ⟨c, oo + i, none⟩ = some (.int .u8 (l.getD i 0 : Nat))) : ∀ j v, (l.map byt)[j]? = some v → w.cell? ((⟨c, oo, none⟩ : Addr).add j) = some v := src_cells h
theorem cells_other {w : World} {g c : Nat} (h : c ≠ g) : ∀ (vs : List Value) (o i : Nat), (w.setCells g o vs).cell? ⟨c, i, none⟩ = w.cell? ⟨c, i, none⟩ := fun vs o i =>
  World.cell?_setCells_out g vs o w ⟨c, i, none⟩ (fun e _ => absurd e h)
set_option maxHeartbeats 1000000 in
theorem program_any (g o : Nat) (t : TypeId) (n : Nat) (f : Nat → Value) (ho : o + 130 ≤ n) (c oo cap : Nat) (hc : c ≠ g) (l : List Nat) (hl : l.length = 64) (w : World) (hB : Sto w g t n f)
    (hsrc : ∀ i, i < 64 → w.cell? ⟨c, oo + i, none⟩ = some (.int .u8 (l.getD i 0 : Nat))) :
    Calls Tryz.prog 100 #[.pointer (some ⟨g, o, none⟩), .slice (some ⟨c, oo, none⟩) 64 cap] w fun e w' => e = .returned (.tuple #[]) ∧ Sto w' g t n (upL f o (ckc (pgmK l))) ∧ Chg (· = g) w w' := by
  have hth := hB.there o 130 ho
  have hB1 : Sto (w.setCells g o (Tryz.zeroCells97.setIfInBounds 128 (.bool true)).toList) g t n (upL f o (ckc pgm0)) := by
    rw [pgm_cells]; exact Sto.setCells _ _ hB
  have hG1 : Chg (· = g) w (w.setCells g o (Tryz.zeroCells97.setIfInBounds 128 (.bool true)).toList) := Chg.setCells (S := (· = g)) (Or.inl rfl) _ _ (Chg.refl _ _)
  have hC1 := fun i (hi : i < l.length) => (cells_other (w := w) hc (Tryz.zeroCells97.setIfInBounds 128 (.bool true)).toList o (oo + i)).trans (hsrc i (by omega))
  have hth1 := hB1.there (o + 64) 64 (by omega)
  have hcp := run_copy_cells (P := Tryz.prog) (w.setCells g o (Tryz.zeroCells97.setIfInBounds 128 (.bool true)).toList) 55 55 3 5 g (o + 64) 64 64 ⟨c, oo, none⟩ 64 cap (l.map byt) Tryz.underlying55 size5 (by simp [hl]) (src_byt hC1) (fun j hj => (hth1 j (by simpa [hl] using hj)).1) (fun j hj => (hth1 j (by simpa [hl] using hj)).2) (byt_one l)
  rw [List.length_map, hl] at hcp
  have hB2 := Sto.setCells (l.map byt) (o + 64) hB1
  rw [upL_upL _ _ _ _ _ (by rw [ckc_length (k := pgm0) rfl rfl]; simp [hl]), layV_tru pgm0 l rfl rfl hl] at hB2
  have hG2 := Chg.setCells (S := (· = g)) (Or.inl rfl) (l.map byt) (o + 64) hG1
  clear hC1 hth1 hG1 hB1 hsrc
  generalize hw1 : w.setCells g o (Tryz.zeroCells97.setIfInBounds 128 (.bool true)).toList = w1 at *
  have HW1 := hyd hw1
  clear hw1
  generalize hw2 : w1.setCells g (o + 64) (l.map byt) = w2 at *
  clear hw2
  have r2 : w2.rangeAt g (o + 64) (l.map byt) := Seg.range hB2 (ckc_tru (k := { pgm0 with tru := l }) rfl (upL_seg _ _ _)) (by simp [hl]; omega)
  have hth2 := hB2.there o 64 (by omega)
  have HS : Hid ((Tryz.prog.info? 95).map (·.size) = some (l.map byt).length) := by rw [List.length_map, hl]; exact size58
  have hs : ((l.map byt).toArray).size = 64 := by simp [hl]
  have h1 := all_oneCell_toArray (byt_one l)
  have hB3 := Sto.setCells (l.map byt) o hB2
  have e2 := upL_upL f o (ckc { pgm0 with tru := l }) 0 (l.map byt) (by rw [ckc_length (k := { pgm0 with tru := l }) rfl hl]; simp [hl])
  rw [Nat.add_zero, layV_now _ _ rfl hl] at e2
  rw [e2] at hB3
  have hG3 := Chg.setCells (S := (· = g)) (Or.inl rfl) (l.map byt) o hG2
  have HSZ : Hid ((Tryz.prog.info? 95).map (·.size) = some ((l.map byt).toArray).size) := by rw [hs]; exact size58
  have HTH : Hid (w2.there g o ((l.map byt).toArray).size) := by rw [hs]; exact hth2
  have HO := hyd h1
  clear e2 hB2 hG2 hl hs hth2 h1
  go_enter Tryz.func100, Tryz.ntmps100
  go_wp2_with (first | (refine wpList_store_mid rfl 97 (.tmp 6) (.tmp 5) rfl g o _ rfl rfl (by rw [pgm_size]; exact hth) (by rw [pgm_size]; exact size60) pgm_one ?_; rw [HW1.out]) | refine wpList_load_mid rfl 95 (.tmp 16) rfl g (o + 64) rfl _ _ r2 Tryz.underlying95 rfl HS.out ?_ | refine wpList_store_mid rfl 95 (.tmp 19) (.tmp 17) rfl g o _ rfl rfl HTH.out HSZ.out HO.out ?_)
  go_end0
  exact ⟨rfl, hB3, hG3⟩
theorem index58 (l : List Nat) (i : Nat) (hl : l.length = 64) (hi : i < 64) (w : World) : (Instr.index 95 (.agg (l.map byt).toArray) (.int .i64 i)).run Tryz.prog w = .ok (.int .u8 (l.getD i 0 : Nat)) w := by
  have h2 : i < l.length := by omega
  simp [Instr.index, run_underlying Tryz.underlying95, asIntOf, go_sem, hi, List.getElem?_eq_getElem h2, byt]
set_option maxHeartbeats 1000000 in
theorem damage_any (g o : Nat) (t : TypeId) (n : Nat) (f : Nat → Value) (ho : o + 130 ≤ n) (k : Chk) (hk : k.Ok) (hS : Seg f o (ckc k)) (w : World) (hB : Sto w g t n f) :
    Calls Tryz.prog 51 #[.pointer (some ⟨g, o, none⟩)] w fun e w' => e = .returned (.int .i64 (dmg k : Nat)) ∧ w' = w := by
  have r1 : w.rangeAt g o (k.now.map byt) := Seg.range hB (ckc_now hS) (by simp [hk.now]; omega)
  have HS : Hid ((Tryz.prog.info? 95).map (·.size) = some (k.now.map byt).length) := by rw [List.length_map, hk.now]; exact size58
  have hct : ∀ i, i < 64 → w.cell? ⟨g, o + 64 + i, none⟩ = some (.int .u8 (k.tru.getD i 0 : Nat)) := fun i hi => by
    rw [hB.cell _ (by omega)]
    congr 1
    exact ckc_tru hk.now hS i _ (by rw [List.getElem?_map, List.getElem?_eq_getElem (by rw [hk.tru]; exact hi)]; simp [byt, List.getD_eq_getElem?_getD, List.getElem?_eq_getElem (show i < k.tru.length by rw [hk.tru]; exact hi)])
  have HT := hyd hct
  clear hct
  go_enter Tryz.func51, Tryz.ntmps51
  go_wp2_with (first | refine wpList_load_mid rfl 95 (.tmp 8) rfl g o rfl _ _ r1 Tryz.underlying95 rfl HS.out ?_)
  go_loopw [3, 10] (fun t3 t10 wr => ∃ i : Nat, i ≤ 64 ∧ t10 = .int .i64 i ∧ t3 = .int .i64 (dmgTo k.now k.tru i : Nat) ∧ wr = w) (fun _ t10 _ => 64 - (intOf t10).toNat)
  case atStart => exact ⟨0, by omega, rfl, rfl, rfl⟩
  case round =>
    obtain ⟨i, hi, rfl, rfl, rfl⟩ := hrel
    by_cases hlt : i < 64
    · have hkb4 : (0 : Int) ≤ (i : Int) := by omega
      have hkb5 : (i : Int) < 64 := by omega
      have c1 := HT.out i hlt
      have hix := index58 k.now i hk.now hlt
      have hb1 := hk.nowB.getD i
      have hb2 := hk.truB.getD i
      have hd := dmgTo_le k.now k.tru i
      have HD : Hid (dmgTo k.now k.tru (i + 1) = dmgTo k.now k.tru i + (if k.now.getD i 0 = k.tru.getD i 0 then 0 else 1)) := rfl
      generalize k.now.getD i 0 = x at *
      generalize k.tru.getD i 0 = y at *
      by_cases hxy : x = y
      · subst hxy
        rw [if_pos rfl] at HD
        have HD2 := hyd HD.out
        clear HD
        generalize dmgTo k.now k.tru i = d at *
        go_wp2
        exact ⟨⟨i + 1, by omega, by go_num, by rw [HD2.out, Nat.add_zero], trivial⟩, by simp [intOf]; omega⟩
      · rw [if_neg hxy] at HD
        have HD2 := hyd HD.out
        clear HD
        generalize dmgTo k.now k.tru i = d at *
        have hne : ((x : Int) == (y : Int)) = false := beq_eq_false_iff_ne.2 (by omega)
        go_wp2
        exact ⟨⟨i + 1, by omega, by go_num, by rw [HD2.out]; go_num, trivial⟩, by simp [intOf]; omega⟩
    · have e : i = 64 := by omega
      subst e
      go_wp2
      go_ret
      exact ⟨rfl, rfl⟩
end Go.Proofs.YtifjmilegogbaaaGreat
namespace Go.Proofs.YtifjmilegogbaaaGreat
open Go.RowKit
set_option maxRecDepth 100000

theorem u8_xor_nat (a b : Nat) (ha : a < 256) (hb : b < 256) : bits .xor .u8 (a : Int) (b : Int) = ((a ^^^ b : Nat) : Int) := by
  have hx : a ^^^ b < 2 ^ 8 := Nat.xor_lt_two_pow (by omega) (by omega)
  have ea : (BitVec.ofInt 8 (a : Int)).toNat = a := by rw [BitVec.ofInt_natCast, BitVec.toNat_ofNat]; exact Nat.mod_eq_of_lt (by omega)
  have eb : (BitVec.ofInt 8 (b : Int)).toNat = b := by rw [BitVec.ofInt_natCast, BitVec.toNat_ofNat]; exact Nat.mod_eq_of_lt (by omega)
  show IntKind.u8.wrap ((BitVec.ofInt 8 (a : Int) ^^^ BitVec.ofInt 8 (b : Int)).toNat : Int) = _
  rw [BitVec.toNat_xor, ea, eb]
  simp [IntKind.wrap, IntKind.bits, IntKind.signed]
  omega
theorem pow_u8 (b : Nat) (h : b < 8) : (2 : Int) ^ b % 256 = ((2 ^ b : Nat) : Int) := by
  have : ∀ b : Fin 8, (2 : Int) ^ b.val % 256 = ((2 ^ b.val : Nat) : Int) := by decide
  exact this ⟨b, h⟩
theorem pow_lt (b : Nat) (h : b < 8) : 2 ^ b < 256 := by
  have : ∀ b : Fin 8, 2 ^ b.val < 256 := by decide
  exact this ⟨b, h⟩
/-- A chunk, a bit of which was turned. -/
def turnB (k : Chk) (p b : Nat) : Chk := { k with now := k.now.set p (k.now.getD p 0 ^^^ 2 ^ b) }
def turnK (k : Chk) (p b : Nat) : Chk := { turnB k p b with worst := max k.worst (dmg (turnB k p b)) }
theorem Bys.set {l : List Nat} (h : Bys l) (i v : Nat) (hv : v < 256) : Bys (l.set i v) := fun n hn => by
  rcases List.mem_or_eq_of_mem_set hn with h1 | h1
  · exact h n h1
  · omega
theorem turnB_ok {k : Chk} (hk : k.Ok) (p b : Nat) (hb : b < 8) : (turnB k p b).Ok :=
  ⟨by simp [turnB, hk.now], hk.tru, hk.nowB.set _ _ (Nat.xor_lt_two_pow (n := 8) (hk.nowB.getD p) (pow_lt b hb)), hk.truB, hk.worst⟩
theorem dmg_le (k : Chk) : dmg k ≤ 64 := dmgTo_le _ _ _
theorem turnK_ok {k : Chk} (hk : k.Ok) (p b : Nat) (hb : b < 8) : (turnK k p b).Ok :=
  have h := turnB_ok hk p b hb
  ⟨h.now, h.tru, h.nowB, h.truB, by have := dmg_le (turnB k p b); have := hk.worst; show max k.worst (dmg (turnB k p b)) ≤ 64; omega⟩
set_option maxHeartbeats 1000000 in
theorem flip_cell (g o : Nat) (t : TypeId) (n : Nat) (f : Nat → Value) (ho : o + 130 ≤ n) (k : Chk) (hk : k.Ok) (hS : Seg f o (ckc k)) (p b : Nat) (hp : p < 64) (hb : b < 8) (w : World) (hB : Sto w g t n f) :
    Calls Tryz.prog 49 #[.pointer (some ⟨g, o, none⟩), .int .i64 p, .int .i64 b] w fun e w' => e = .returned (.tuple #[]) ∧ Sto w' g t n (upL f o (ckc (turnK k p b))) ∧ Chg (· = g) w w' := by
  have hpb1 : (0 : Int) ≤ (p : Int) := by omega
  have hpb2 : (p : Int) < 64 := by omega
  have hpb3 : (0 : Int) ≤ (b : Int) := by omega
  have hpb4 : (b : Int) < 8 := by omega
  have hx := hk.nowB.getD p
  have c1 : w.cell? ⟨g, o + p, none⟩ = some (.int .u8 (k.now.getD p 0 : Nat)) := by
    rw [hB.cell _ (by omega)]
    congr 1
    exact ckc_now hS p _ (by rw [List.getElem?_map, List.getElem?_eq_getElem (by rw [hk.now]; exact hp)]; simp [byt, List.getD_eq_getElem?_getD, List.getElem?_eq_getElem (show p < k.now.length by rw [hk.now]; exact hp)])
  have f1 := hB.frozen (o + p)
  have hl := ckc_length hk.now hk.tru
  have HX : Hid (bits .xor .u8 (k.now.getD p 0 : Nat) ((2 : Int) ^ b % 256) = ((k.now.getD p 0 ^^^ 2 ^ b : Nat) : Int)) := by rw [pow_u8 b hb]; exact u8_xor_nat _ _ hx (pow_lt b hb)
  have hl1 := ckc_length (turnB_ok hk p b hb).now (turnB_ok hk p b hb).tru
  have hB1 : Sto (w.setCell ⟨g, o + p, none⟩ (.int .u8 (bits .xor .u8 (k.now.getD p 0 : Nat) ((2 : Int) ^ b % 256)))) g t n (upL f o (ckc (turnB k p b))) := by
    rw [HX.out]
    have h1 := hB.setCell (o + p) (byt (k.now.getD p 0 ^^^ 2 ^ b))
    have e1 := upL_upL f o (ckc k) p [byt (k.now.getD p 0 ^^^ 2 ^ b)] (by rw [hl]; simp; omega)
    rw [layV_one k p _ hk.now hp] at e1
    refine h1.ext fun i _ => ?_
    rw [show upL f o (ckc (turnB k p b)) i = upL (upL f o (ckc k)) (o + p) [byt (k.now.getD p 0 ^^^ 2 ^ b)] i from by rw [e1]; rfl, upL_one, upL_one]
    by_cases e : i = o + p
    · rw [if_pos e, if_pos e]
    · rw [if_neg e, if_neg e]
      unfold upL
      by_cases h2 : o ≤ i ∧ i < o + (ckc k).length
      · rw [if_pos h2, List.getD_eq_getElem?_getD, List.getElem?_eq_getElem (by omega)]
        have := hS (i - o) _ (List.getElem?_eq_getElem (by omega))
        rw [show o + (i - o) = i from by omega] at this
        rw [this]; rfl
      · rw [if_neg h2]
  have hG1 : Chg (· = g) w (w.setCell ⟨g, o + p, none⟩ (.int .u8 (bits .xor .u8 (k.now.getD p 0 : Nat) ((2 : Int) ^ b % 256)))) := (Chg.refl (· = g) _).setCell (Or.inl rfl) _ _
  have hok := turnB_ok hk p b hb
  have HK : Hid (turnK k p b = { turnB k p b with worst := max (turnB k p b).worst (dmg (turnB k p b)) }) := rfl
  clear HX
  generalize turnB k p b = k1 at *
  generalize k.now.getD p 0 = x at *
  go_enter Tryz.func49, Tryz.ntmps49
  go_wp2_with fail
  go_region
  have hB1' := hB1.drew
  have hG1' := hG1.drew
  clear hB1 hG1 c1 f1
  generalize World.drew _ = w1 at *
  have hS1 := upL_seg f o (ckc k1)
  have c2 : w1.cell? ⟨g, o + 129, none⟩ = some (.int .i64 k1.worst) := by
    rw [hB1'.cell _ (by omega)]; congr 1; exact ckc_worst hok.now hok.tru hS1
  have f2 := hB1'.frozen (o + 129)
  have hd := dmg_le k1
  have hw := hok.worst
  have HM : Hid ((if k1.worst < dmg k1 then (dmg k1 : Int) else (k1.worst : Int)) = ((max k1.worst (dmg k1) : Nat) : Int)) := by show _ = _; split <;> omega
  have hB3 := hB1'.setCell (o + 129) (.int .i64 (max k1.worst (dmg k1) : Nat))
  have e3 := upL_upL f o (ckc k1) 129 [.int .i64 (max k1.worst (dmg k1) : Nat)] (by rw [hl1]; simp)
  rw [layV_worst k1 _ hok.now hok.tru] at e3
  rw [e3] at hB3
  have hG3 : Chg (· = g) w (w1.setCell ⟨g, o + 129, none⟩ (.int .i64 (max k1.worst (dmg k1) : Nat))) := hG1'.setCell (Or.inl rfl) _ _
  have HB3 := hyd hB3
  have HG3 := hyd hG3
  clear e3 hB3 hG3
  go_wp2_with fail
  go_region_with (go_at_call 51; refine (damage_any g o t n _ ho k1 hok hS1 _ ?_).mono ?_; (exact hB1'); rintro e w' ⟨rfl, rfl⟩)
  all_goals
    rw [HM.out]
    go_wp2
    go_end0
    rw [HK.out]
    exact ⟨rfl, HB3.out.drew, HG3.out.drew⟩
end Go.Proofs.YtifjmilegogbaaaGreat
namespace Go.Proofs.YtifjmilegogbaaaGreat
open Go.RowKit
set_option maxRecDepth 100000

theorem below_yes (n m : Int) (h0 : 0 ≤ n) (h1 : n < m) (w : World) : Calls Tryz.prog 44 #[.int .i64 n, .int .i64 m] w fun e w' => e = .returned (.bool true) ∧ w' = w := by
  go_enter Tryz.func44, Tryz.ntmps44
  go_wp2
  go_ret
  exact ⟨rfl, rfl⟩
theorem below_no (n m : Int) (h : n < 0 ∨ m ≤ n) (w : World) : Calls Tryz.prog 44 #[.int .i64 n, .int .i64 m] w fun e w' => e = .returned (.bool false) ∧ w' = w := by
  by_cases h0 : n < 0
  · have h1 : ¬ 0 ≤ n := by omega
    go_enter Tryz.func44, Tryz.ntmps44
    go_wp2
    go_ret
    exact ⟨rfl, rfl⟩
  · have h1 : 0 ≤ n := by omega
    have h2 : ¬ n < m := by omega
    go_enter Tryz.func44, Tryz.ntmps44
    go_wp2
    go_ret
    exact ⟨rfl, rfl⟩
theorem isChunk_yes (a k : Int) (h0 : 0 ≤ a) (h1 : a < 96) (h2 : 0 ≤ k) (h3 : k < 4) (w : World) : Calls Tryz.prog 50 #[.int .i64 a, .int .i64 k] w fun e w' => e = .returned (.bool true) ∧ w' = w := by
  go_enter Tryz.func50, Tryz.ntmps50
  go_wp2_with (first | (go_at_call_of 44 (Value.int IntKind.i64 a); refine (below_yes a 96 h0 h1 _).mono ?_; rintro e w' ⟨rfl, rfl⟩) | (go_at_call_of 44 (Value.int IntKind.i64 k); refine (below_yes k 4 h2 h3 _).mono ?_; rintro e w' ⟨rfl, rfl⟩))
  go_ret
  exact ⟨rfl, rfl⟩
theorem isChunk_no (a k : Int) (h : a < 0 ∨ 96 ≤ a ∨ k < 0 ∨ 4 ≤ k) (w : World) : Calls Tryz.prog 50 #[.int .i64 a, .int .i64 k] w fun e w' => e = .returned (.bool false) ∧ w' = w := by
  by_cases h0 : a < 0 ∨ 96 ≤ a
  · go_enter Tryz.func50, Tryz.ntmps50
    go_wp2_with fail
    refine (below_no a 96 h0 _).mono ?_
    rintro e w' ⟨rfl, rfl⟩
    go_wp2
    go_ret
    exact ⟨rfl, rfl⟩
  · have h1 : 0 ≤ a := by omega
    have h2 : a < 96 := by omega
    have h3 : k < 0 ∨ 4 ≤ k := by omega
    clear h h0
    go_enter Tryz.func50, Tryz.ntmps50
    go_wp2_with fail
    refine (below_yes a 96 h1 h2 _).mono ?_
    rintro e w' ⟨rfl, rfl⟩
    go_wp2_with fail
    refine (below_no k 4 h3 _).mono ?_
    rintro e w' ⟨rfl, rfl⟩
    go_wp2
    go_ret
    exact ⟨rfl, rfl⟩

theorem ChipAt.on {w : World} {g : Nat} {s : Chp} (h : ChipAt w g s) : w.cell? ⟨g, 49980, none⟩ = some (.bool s.on) := Sto.cell h 49980 (by omega)
theorem ChipAt.lim {w : World} {g : Nat} {s : Chp} (h : ChipAt w g s) : w.cell? ⟨g, 49981, none⟩ = some (.bool s.lim) := Sto.cell h 49981 (by omega)
theorem ChipAt.bud {w : World} {g : Nat} {s : Chp} (h : ChipAt w g s) : w.cell? ⟨g, 49982, none⟩ = some (.int .i64 s.bud) := Sto.cell h 49982 (by omega)
theorem ChipAt.steps {w : World} {g : Nat} {s : Chp} (h : ChipAt w g s) : w.cell? ⟨g, 49983, none⟩ = some (.int .i64 s.steps) := Sto.cell h 49983 (by omega)
theorem ChipAt.frozen {w : World} {g : Nat} {s : Chp} (h : ChipAt w g s) (i : Nat) : w.frozen? ⟨g, i, none⟩ = false := Sto.frozen h i
theorem ChipAt.setPw {w : World} {g : Nat} {s : Chp} (h : ChipAt w g s) (on lim : Bool) (bud : Nat) :
    ChipAt (((w.setCell ⟨g, 49980, none⟩ (.bool on)).setCell ⟨g, 49981, none⟩ (.bool lim)).setCell ⟨g, 49982, none⟩ (.int .i64 bud)) g { s with on := on, lim := lim, bud := bud } :=
  Sto.ext (Sto.setCells [.bool on, .bool lim, .int .i64 bud] 49980 h) (fun i hi => ccell_setPw s on lim bud i hi)
theorem ChipAt.setBud {w : World} {g : Nat} {s : Chp} (h : ChipAt w g s) (bud : Nat) : ChipAt (w.setCell ⟨g, 49982, none⟩ (.int .i64 bud)) g { s with bud := bud } :=
  Sto.ext (Sto.setCell h 49982 _) (fun i hi => ccell_setBud s bud i hi)
theorem ChipAt.setLim {w : World} {g : Nat} {s : Chp} (h : ChipAt w g s) (lim : Bool) : ChipAt (w.setCell ⟨g, 49981, none⟩ (.bool lim)) g { s with lim := lim } :=
  Sto.ext (Sto.setCell h 49981 _) (fun i hi => ccell_setLim s lim i hi)
theorem ChipAt.setSteps {w : World} {g : Nat} {s : Chp} (h : ChipAt w g s) (n : Int) : ChipAt (w.setCell ⟨g, 49983, none⟩ (.int .i64 n)) g { s with steps := n } :=
  Sto.ext (Sto.setCell h 49983 _) (fun i hi => ccell_setSteps s n i hi)
theorem Chg.at (g : Nat) {u w : World} (h : Chg (· = g) u w) (o : Nat) (v : Value) : Chg (· = g) u (w.setCell ⟨g, o, none⟩ v) := h.setCell (Or.inl rfl) o v

theorem steps_any (g : Nat) (s : Chp) (w : World) (h : ChipAt w g s) : Calls Tryz.prog 14 #[.pointer (some ⟨g, 0, none⟩)] w fun e w' => e = .returned (.int .i64 s.steps) ∧ w' = w := by
  have c := h.steps
  go_enter Tryz.func14, Tryz.ntmps14
  go_wp2
  go_ret
  exact ⟨rfl, rfl⟩
/-- The power is on, without a budget. -/
def onS (s : Chp) : Chp := { s with on := true, lim := false, bud := 0 }
/-- The power is off. -/
def offS (s : Chp) : Chp := { s with on := false, lim := false, bud := 0 }
theorem power_any (g : Nat) (s : Chp) (w : World) (h : ChipAt w g s) : Calls Tryz.prog 15 #[.pointer (some ⟨g, 0, none⟩)] w fun e w' => e = .returned (.tuple #[]) ∧ ChipAt w' g (onS s) ∧ Chg (· = g) w w' := by
  have c1 := h.on
  have c2 := h.lim
  have c3 := h.bud
  have f1 := h.frozen
  have hC := h.setPw true false 0
  have hG := (((Chg.refl (· = g) w).at g 49980 (.bool true)).at g 49981 (.bool false)).at g 49982 (.int .i64 0)
  go_enter Tryz.func15, Tryz.ntmps15
  go_wp2
  go_end0
  exact ⟨rfl, hC, hG⟩
/-- A step was counted. -/
def goS (s : Chp) : Chp := { s with bud := if s.lim then s.bud - 1 else s.bud, steps := wrap64 (s.steps + 1) }
theorem step_cut (g : Nat) (s : Chp) (w : World) (h : ChipAt w g s) (hl : s.lim = true) (hb : s.bud = 0) : Calls Tryz.prog 96 #[.pointer (some ⟨g, 0, none⟩)] w fun e w' => e = .returned (.bool false) ∧ ChipAt w' g (offS s) ∧ Chg (· = g) w w' := by
  have c1 := h.on
  have c2 := h.lim
  have c3 := h.bud
  have f1 := h.frozen
  rw [hl] at c2
  rw [hb] at c3
  have hC := h.setPw false false 0
  have hG := (((Chg.refl (· = g) w).at g 49980 (.bool false)).at g 49981 (.bool false)).at g 49982 (.int .i64 0)
  clear hl hb
  go_enter Tryz.func96, Tryz.ntmps96
  go_wp2
  go_ret
  exact ⟨rfl, hC, hG⟩
theorem step_free (g : Nat) (s : Chp) (w : World) (h : ChipAt w g s) (hl : s.lim = false) : Calls Tryz.prog 96 #[.pointer (some ⟨g, 0, none⟩)] w fun e w' => e = .returned (.bool true) ∧ ChipAt w' g (goS s) ∧ Chg (· = g) w w' := by
  have c2 := h.lim
  have c3 := h.bud
  have c4 := h.steps
  have f1 := h.frozen
  rw [hl] at c2
  have hC := h.setSteps (wrap64 (s.steps + 1))
  have hG := (Chg.refl (· = g) w).at g 49983 (.int .i64 (wrap64 (s.steps + 1)))
  have e : goS s = { s with steps := wrap64 (s.steps + 1) } := by simp [goS, hl]
  have HE := hyd e
  clear hl e
  go_enter Tryz.func96, Tryz.ntmps96
  go_wp2
  go_ret
  rw [HE.out]
  exact ⟨rfl, hC, hG⟩
theorem step_paid (g : Nat) (s : Chp) (w : World) (hs : s.Ok) (h : ChipAt w g s) (hl : s.lim = true) (hb : s.bud ≠ 0) : Calls Tryz.prog 96 #[.pointer (some ⟨g, 0, none⟩)] w fun e w' => e = .returned (.bool true) ∧ ChipAt w' g (goS s) ∧ Chg (· = g) w w' := by
  have c2 := h.lim
  have c3 := h.bud
  have c4 := h.steps
  have f1 := h.frozen
  rw [hl] at c2
  have hC := (h.setBud (s.bud - 1)).setSteps (wrap64 (s.steps + 1))
  have hG := ((Chg.refl (· = g) w).at g 49982 (.int .i64 (s.bud - 1 : Nat))).at g 49983 (.int .i64 (wrap64 (s.steps + 1)))
  have e : goS s = { s with bud := s.bud - 1, steps := wrap64 (s.steps + 1) } := by simp [goS, hl]
  have HE := hyd e
  have hbu := hs.bud
  have h0 : ((s.bud : Int) == 0) = false := beq_eq_false_iff_ne.2 (by omega)
  have HI : Hid ((s.bud : Int) - 1 = ((s.bud - 1 : Nat) : Int)) := by show _ = _; omega
  clear hl e
  go_enter Tryz.func96, Tryz.ntmps96
  go_wp2
  go_ret
  rw [HE.out, HI.out]
  exact ⟨rfl, hC, hG⟩
theorem blc0 {s : Chp} {b : Nat} (hb : b < 12) : ccell s (49920 + 4 * b) = .bool (s.bl b).failed := ccell_bl s b hb 0 _ rfl
theorem blc1 {s : Chp} {b : Nat} (hb : b < 12) : ccell s (49920 + 4 * b + 1) = .bool (s.bl b).wf := ccell_bl s b hb 1 _ rfl
theorem blc2 {s : Chp} {b : Nat} (hb : b < 12) : ccell s (49920 + 4 * b + 2) = .int .i64 (s.bl b).ahead := ccell_bl s b hb 2 _ rfl
theorem blc3 {s : Chp} {b : Nat} (hb : b < 12) : ccell s (49920 + 4 * b + 3) = .bool (s.bl b).ef := ccell_bl s b hb 3 _ rfl
theorem up_blc {s : Chp} {b : Nat} (hb : b < 12) (x : Blo) (hr : x.reads = (s.bl b).reads) (j : Nat) (hj : j < 4) (v : Value) (hv : (blc (s.bl b)).set j v = blc x) (i : Nat) : upL (ccell s) (49920 + 4 * b + j) [v] i = ccell (s.setBl b x) i := by
  rw [← ccell_setBl s b hb x hr i, ← hv, upL_one]
  unfold upL
  have hl : ((blc (s.bl b)).set j v).length = 4 := by simp [blc]
  rw [hl]
  by_cases e : i = 49920 + 4 * b + j
  · subst e
    rw [if_pos rfl, if_pos (by omega), show 49920 + 4 * b + j - (49920 + 4 * b) = j from by omega, List.getD_eq_getElem?_getD, List.getElem?_set_self (by simp [blc]; exact hj)]; rfl
  · rw [if_neg e]
    by_cases h : 49920 + 4 * b ≤ i ∧ i < 49920 + 4 * b + 4
    · rw [if_pos h, List.getD_eq_getElem?_getD, List.getElem?_set_ne (by omega), List.getElem?_eq_getElem (by simp [blc]; omega)]
      have := ccell_bl s b hb (i - (49920 + 4 * b)) _ (List.getElem?_eq_getElem (by simp [blc]; omega))
      rw [show 49920 + 4 * b + (i - (49920 + 4 * b)) = i from by omega] at this
      rw [this]; rfl
    · rw [if_neg h]
theorem setBl_self (s : Chp) (b : Nat) : s.setBl b (s.bl b) = s := by
  cases s
  simp only [Chp.setBl, Chp.mk.injEq, and_true, true_and]
  funext j
  by_cases e : j = b
  · rw [if_pos e, e]
  · rw [if_neg e]
theorem ChipAt.setBl1 {w : World} {g : Nat} {s : Chp} (h : ChipAt w g s) {b : Nat} (hb : b < 12) (x : Blo) (hr : x.reads = (s.bl b).reads) (j : Nat) (hj : j < 4) (v : Value) (hv : (blc (s.bl b)).set j v = blc x) :
    ChipAt (w.setCell ⟨g, 49920 + 4 * b + j, none⟩ v) g (s.setBl b x) := Sto.ext (Sto.setCell h _ v) (fun i _ => up_blc hb x hr j hj v hv i)
theorem setBl_setBl (s : Chp) (b : Nat) (x y : Blo) : (s.setBl b x).setBl b y = s.setBl b y := by
  simp only [Chp.setBl, Chp.mk.injEq, and_true, true_and]
  funext j
  by_cases e : j = b
  · rw [if_pos e, if_pos e]
  · rw [if_neg e, if_neg e, if_neg e]
theorem setBl_bl (s : Chp) (b : Nat) (x : Blo) : (s.setBl b x).bl b = x := by simp [Chp.setBl]
/-- A block at a write. -/
def failW (x : Blo) : Blo := { x with failed := x.failed || (x.wf && decide (x.ahead = 0)), ahead := x.ahead - 1 }
/-- A block at an erase. -/
def failE (x : Blo) : Blo := { x with failed := x.failed || x.ef }
set_option maxHeartbeats 1000000 in
theorem failsAtWrite_any (g b : Nat) (hb : b < 12) (s : Chp) (hs : s.Ok) (w : World) (h : ChipAt w g s) :
    Calls Tryz.prog 99 #[.pointer (some ⟨g, 49920 + 4 * b, none⟩)] w fun e w' => e = .returned (.bool (failW (s.bl b)).failed) ∧ ChipAt w' g (s.setBl b (failW (s.bl b))) ∧ Chg (· = g) w w' := by
  have c0 := Sto.cell h (49920 + 4 * b) (by omega)
  have c1 := Sto.cell h (49920 + 4 * b + 1) (by omega)
  have c2 := Sto.cell h (49920 + 4 * b + 2) (by omega)
  rw [blc0 hb] at c0
  rw [blc1 hb] at c1
  rw [blc2 hb] at c2
  have f0 := Sto.frozen h (49920 + 4 * b)
  have f2 := Sto.frozen h (49920 + 4 * b + 2)
  have hx := hs.bl b
  have hr0 := h.setBl1 hb { s.bl b with failed := true } rfl 0 (by omega) (.bool true) (by simp [blc])
  have hr2 := h.setBl1 hb { s.bl b with ahead := (s.bl b).ahead - 1 } rfl 2 (by omega) (.int .i64 ((s.bl b).ahead - 1 : Nat)) (by simp [blc])
  have hw0 := setBl_self s b
  rw [Nat.add_zero] at hr0
  generalize hbl : s.bl b = x at *
  clear hbl
  have HO := hyd hs
  clear hs
  have hG0 := (Chg.refl (· = g) w).at g (49920 + 4 * b) (.bool true)
  have hG2 := (Chg.refl (· = g) w).at g (49920 + 4 * b + 2) (.int .i64 (x.ahead - 1 : Nat))
  generalize 49920 + 4 * b = o at *
  obtain ⟨fa, wf, ah, ef, rd⟩ := x
  simp only at *
  cases wf with
  | true =>
    by_cases h0 : ah = 0
    · subst h0
      have e : failW ⟨fa, true, 0, ef, rd⟩ = ⟨true, true, 0, ef, rd⟩ := by simp [failW]
      rw [e]
      clear e hr2 hw0 hG2 hx
      go_enter Tryz.func99, Tryz.ntmps99
      go_wp2
      go_ret
      exact ⟨rfl, hr0, hG0⟩
    · have e : failW ⟨fa, true, ah, ef, rd⟩ = ⟨fa, true, ah - 1, ef, rd⟩ := by simp [failW, h0]
      rw [e]
      have h1 : ((ah : Int) == 0) = false := beq_eq_false_iff_ne.2 (by omega)
      have hah := hx.ahead
      simp only at hah
      have HI : Hid ((ah : Int) - 1 = ((ah - 1 : Nat) : Int)) := by show _ = _; omega
      have h3 : (0 : Int) < (ah : Int) := by omega
      clear e hr0 hw0 hG0 hx
      go_enter Tryz.func99, Tryz.ntmps99
      go_wp2
      go_ret
      rw [HI.out]
      exact ⟨rfl, hr2, hG2⟩
  | false =>
    have h0 := hx.none rfl
    simp only at h0
    subst h0
    have e : failW ⟨fa, false, 0, ef, rd⟩ = ⟨fa, false, 0, ef, rd⟩ := by simp [failW]
    rw [e, hw0]
    clear e hr0 hr2 hw0 hG0 hG2 hx
    go_enter Tryz.func99, Tryz.ntmps99
    go_wp2
    go_ret
    exact ⟨rfl, h, Chg.refl _ _⟩
set_option maxHeartbeats 1000000 in
theorem failsAtErase_any (g b : Nat) (hb : b < 12) (s : Chp) (w : World) (h : ChipAt w g s) :
    Calls Tryz.prog 97 #[.pointer (some ⟨g, 49920 + 4 * b, none⟩)] w fun e w' => e = .returned (.bool (failE (s.bl b)).failed) ∧ ChipAt w' g (s.setBl b (failE (s.bl b))) ∧ Chg (· = g) w w' := by
  have c0 := Sto.cell h (49920 + 4 * b) (by omega)
  have c3 := Sto.cell h (49920 + 4 * b + 3) (by omega)
  rw [blc0 hb] at c0
  rw [blc3 hb] at c3
  have f0 := Sto.frozen h (49920 + 4 * b)
  have hr0 := h.setBl1 hb (failE (s.bl b)) rfl 0 (by omega) (.bool (failE (s.bl b)).failed) (by simp [blc, failE])
  rw [Nat.add_zero] at hr0
  have hG0 := (Chg.refl (· = g) w).at g (49920 + 4 * b) (.bool (failE (s.bl b)).failed)
  have HF : Hid ((failE (s.bl b)).failed = ((s.bl b).failed || (s.bl b).ef)) := rfl
  generalize failE (s.bl b) = y at *
  rw [HF.out] at hr0 hG0 ⊢
  generalize s.bl b = x at *
  generalize 49920 + 4 * b = o at *
  obtain ⟨fa, wf, ah, ef, rd⟩ := x
  clear HF
  simp only at *
  cases fa with
  | true =>
    go_enter Tryz.func97, Tryz.ntmps97
    go_wp2
    go_ret
    exact ⟨rfl, hr0, hG0⟩
  | false =>
    rw [Bool.false_or] at hr0 hG0 ⊢
    go_enter Tryz.func97, Tryz.ntmps97
    go_wp2
    go_ret
    exact ⟨rfl, hr0, hG0⟩
end Go.Proofs.YtifjmilegogbaaaGreat
namespace Go.Proofs.YtifjmilegogbaaaGreat
open Go.RowKit
set_option maxRecDepth 100000

/-- f, but the first m chunks of block b are erased. -/
def clrF (f : Nat → Value) (b m : Nat) : Nat → Value := fun i => if 4160 * b ≤ i ∧ i < 4160 * b + 130 * m then (ckc newK).getD (i % 130) undef else f i
theorem newK_length : (ckc newK).length = 130 := ckc_length rfl rfl
theorem clrF_zero (f : Nat → Value) (b : Nat) : clrF f b 0 = f := by
  funext i; unfold clrF; rw [if_neg (by omega)]
theorem clrF_step (f : Nat → Value) (b m : Nat) : upL (clrF f b m) (4160 * b + 130 * m) (ckc newK) = clrF f b (m + 1) := by
  funext i
  unfold upL clrF
  rw [newK_length]
  by_cases h : 4160 * b + 130 * m ≤ i ∧ i < 4160 * b + 130 * m + 130
  · rw [if_pos h, if_pos (by omega), show i - (4160 * b + 130 * m) = i % 130 from by omega]
  · rw [if_neg h]
    by_cases h2 : 4160 * b ≤ i ∧ i < 4160 * b + 130 * m
    · rw [if_pos h2, if_pos (by omega)]
    · rw [if_neg h2, if_neg (by omega)]
set_option maxHeartbeats 1000000 in
theorem clear_block (g b : Nat) (hb : b < 12) (f : Nat → Value) (w : World) (h : Sto w g 107 49984 f) :
    Calls Tryz.prog 55 #[.pointer (some ⟨g, 0, none⟩), .int .i64 b] w fun e w' => e = .returned (.tuple #[]) ∧ Sto w' g 107 49984 (upL (clrF f b 32) (49968 + b) [.int .i64 0]) ∧ Chg (· = g) w w' := by
  have hb0 : (0 : Int) ≤ (b : Int) := by omega
  have hb1 : (b : Int) < 12 := by omega
  go_enter Tryz.func55, Tryz.ntmps55
  go_wp2_with fail
  go_loopw [4] (fun t4 wr => ∃ r : Nat, r ≤ 8 ∧ t4 = .int .i64 (8 * b + r : Nat) ∧ Sto wr g 107 49984 (clrF f b (4 * r)) ∧ Chg (· = g) w wr) (fun t4 _ => (8 * b + 8) - (intOf t4).toNat)
  case atStart => exact ⟨0, by omega, by go_num; try omega, by rw [clrF_zero]; exact h, Chg.refl _ _⟩
  case round =>
    clear h
    obtain ⟨r, hr, rfl, hB, hG⟩ := hrel
    by_cases hlt : r < 8
    · have hr0 : ((8 * b + r : Nat) : Int) < (b + 1) * 8 := by omega
      have hr1 : (0 : Int) ≤ ((8 * b + r : Nat) : Int) := by omega
      have hr2 : ((8 * b + r : Nat) : Int) < 96 := by omega
      have HN : Hid (((8 * b + r : Nat) : Int).toNat = 8 * b + r) := by show _ = _; omega
      generalize hn : 8 * b + r = n at *
      have HN2 := hyd hn
      clear hn
      go_wp2_with fail
      go_loopw [15] (fun t15 wx => ∃ i : Nat, i ≤ 4 ∧ t15 = .int .i64 i ∧ Sto wx g 107 49984 (clrF f b (4 * r + i)) ∧ Chg (· = g) w wx) (fun t15 _ => 4 - (intOf t15).toNat)
      case atStart => exact ⟨0, by omega, rfl, hB, hG⟩
      case round =>
        clear hB hG
        obtain ⟨i, hi, rfl, hB, hG⟩ := hrel
        by_cases hli : i < 4
        · have hi0 : (0 : Int) ≤ (i : Int) := by omega
          have hi1 : (i : Int) < 4 := by omega
          go_wp2_with fail
          have e1 := HN2.out
          rw [show n * 520 + i * 130 = 4160 * b + 130 * (4 * r + i) from by omega]
          refine (clear_any g (4160 * b + 130 * (4 * r + i)) 107 49984 _ (by omega) _ hB).mono ?_
          rintro e w1 ⟨rfl, hB1, hG1⟩
          rw [clrF_step] at hB1
          have hG2 := hG.trans hG1
          clear hB hG hG1 e1
          go_wp2
          exact ⟨⟨i + 1, by omega, by go_num, hB1, hG2⟩, by simp [intOf]; omega⟩
        · have e4 : i = 4 := by omega
          subst e4
          clear hli hi
          go_wp2
          exact ⟨⟨r + 1, by omega, by rw [← HN2.out]; go_num; try omega, hB, hG⟩, by simp [intOf]; have := HN2.out; omega⟩
    · have e8 : r = 8 := by omega
      subst e8
      have hr0 : ¬ ((8 * b + 8 : Nat) : Int) < (b + 1) * 8 := by omega
      generalize hn : 8 * b + 8 = n at *
      clear hn
      have c1 := hB.cell (49968 + b) (by omega)
      have f1 := hB.frozen (49968 + b)
      have hB2 := hB.setCell (49968 + b) (.int .i64 0)
      have hG2 := hG.at g (49968 + b) (.int .i64 0)
      clear hlt hr
      go_wp2_with fail
      refine (store_any g (49968 + b) _ 0 c1 f1).mono ?_
      rintro e w1 ⟨rfl, rfl⟩
      go_wp2
      go_end0
      exact ⟨rfl, hB2, hG2⟩
end Go.Proofs.YtifjmilegogbaaaGreat
