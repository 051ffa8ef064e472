/-
  A chunk's own functions: cleared, programmed, its damage, turned; the counters. Conditions: it lies in its block.
-/
import Derived.Test.YtfjgnplplafniaaState
import Derived.Laws.LoneSync
namespace Go.Proofs.Ytfjgnplplafniaa
open Go.RowKit
set_option maxRecDepth 100000

/-- A chunk of noughts. -/
def nulK : Chk := { now := List.replicate 64 0, tru := List.replicate 64 0, is := false, worst := 0 }
/-- An erased chunk. -/
def newK : Chk := { now := List.replicate 64 255, tru := List.replicate 64 255, is := false, worst := 0 }
theorem nul_cells : Try.zeroCells60 = (ckc nulK).toArray := by kernel_rfl
theorem size60 : (Try.prog.info? 60).map (·.size) = some 130 := by kernel_rfl
theorem size58 : (Try.prog.info? 58).map (·.size) = some 64 := by kernel_rfl
theorem ckc_one (k : Chk) : ∀ v ∈ ckc k, v.oneCell' = true := by
  intro v hv
  simp only [ckc, List.mem_append, List.mem_map, List.mem_cons, List.not_mem_nil, or_false] at hv
  rcases hv with ⟨n, _, rfl⟩ | ⟨n, _, rfl⟩ | rfl | rfl <;> rfl
theorem ckc_now {k : Chk} {f : Nat → Value} {o : Nat} (hs : Seg f o (ckc k)) : Seg f o (k.now.map byt) := fun j v hv => by
  refine hs j v ?_
  rw [ckc, List.getElem?_append_left (by have := (List.getElem?_eq_some_iff.1 hv).1; exact this)]
  exact hv
theorem ckc_tru {k : Chk} (h : k.now.length = 64) {f : Nat → Value} {o : Nat} (hs : Seg f o (ckc k)) : Seg f (o + 64) (k.tru.map byt) := by
  refine hs.sub 64 fun j v hv => ?_
  have hj := (List.getElem?_eq_some_iff.1 hv).1
  rw [ckc, List.getElem?_append_right (by simp [h]), List.getElem?_append_left (by simp [h] at hj ⊢; omega), List.length_map, h, show 64 + j - 64 = j from by omega]
  exact hv
theorem ckc_is {k : Chk} (h : k.now.length = 64) (h2 : k.tru.length = 64) {f : Nat → Value} {o : Nat} (hs : Seg f o (ckc k)) : f (o + 128) = .bool k.is := by
  refine hs 128 _ ?_
  rw [ckc, List.getElem?_append_right (by simp [h]), List.getElem?_append_right (by simp [h, h2])]
  simp [h, h2]
theorem ckc_worst {k : Chk} (h : k.now.length = 64) (h2 : k.tru.length = 64) {f : Nat → Value} {o : Nat} (hs : Seg f o (ckc k)) : f (o + 129) = .int .i64 k.worst := by
  refine hs 129 _ ?_
  rw [ckc, List.getElem?_append_right (by simp [h]), List.getElem?_append_right (by simp [h, h2])]
  simp [h, h2]
theorem layV_now (k : Chk) (l : List Nat) (h : k.now.length = 64) (hl : l.length = 64) : layV (ckc k) 0 (l.map byt) = ckc { k with now := l } := by
  simp only [layV, ckc, List.take_zero, List.nil_append, List.length_map, hl, Nat.zero_add]
  rw [List.drop_append_of_le_length (by simp [h]), List.drop_eq_nil_of_le (by simp [h]), List.nil_append]
theorem layV_tru (k : Chk) (l : List Nat) (h : k.now.length = 64) (h2 : k.tru.length = 64) (hl : l.length = 64) : layV (ckc k) 64 (l.map byt) = ckc { k with tru := l } := by
  simp only [layV, ckc, List.length_map, hl]
  rw [List.take_left' (by simp [h]), List.drop_append, List.drop_eq_nil_of_le (by simp [h]), List.nil_append, List.length_map, h, show 64 + 64 - 64 = 64 from rfl, List.drop_left' (by simp [h2])]
theorem layV_one (k : Chk) (i v : Nat) (h : k.now.length = 64) (hi : i < 64) : layV (ckc k) i [byt v] = ckc { k with now := k.now.set i v } := by
  simp only [layV, ckc, List.length_cons, List.length_nil, Nat.zero_add]
  rw [List.take_append_of_le_length (by simp [h]; omega), List.drop_append_of_le_length (by simp [h]; omega), ← List.append_assoc, ← List.append_assoc, List.append_assoc (List.take i _)]
  congr 1
  rw [List.map_set, List.set_eq_take_append_cons_drop, if_pos (by simp [h]; omega)]; rfl
theorem layV_tru1 (k : Chk) (i v : Nat) (h : k.now.length = 64) (h2 : k.tru.length = 64) (hi : i < 64) : layV (ckc k) (64 + i) [byt v] = ckc { k with tru := k.tru.set i v } := by
  have hn : (k.now.map byt).length = 64 := by simp [h]
  simp only [layV, ckc, List.length_cons, List.length_nil, Nat.zero_add]
  rw [List.take_append, List.take_of_length_le (by omega), hn, List.drop_append, List.drop_eq_nil_of_le (by omega), hn, List.nil_append, show 64 + i - 64 = i from by omega, show 64 + i + 1 - 64 = i + 1 from by omega, List.append_assoc]
  congr 1
  rw [List.take_append_of_le_length (by simp [h2]; omega), List.drop_append_of_le_length (by simp [h2]; omega), ← List.append_assoc, ← List.append_assoc]
  congr 1
  rw [List.map_set, List.set_eq_take_append_cons_drop, if_pos (by simp [h2]; omega)]; simp
theorem layV_worst (k : Chk) (n : Nat) (h : k.now.length = 64) (h2 : k.tru.length = 64) : layV (ckc k) 129 [.int .i64 n] = ckc { k with worst := n } := by
  have hn : (k.now.map byt).length = 64 := by simp [h]
  have ht : (k.tru.map byt).length = 64 := by simp [h2]
  simp only [layV, ckc, List.length_cons, List.length_nil, Nat.zero_add]
  rw [List.take_append, List.take_of_length_le (by omega), hn, List.take_append, List.take_of_length_le (by omega), ht, List.drop_eq_nil_of_le (by simp [h, h2])]
  simp

/-- How many bytes differ, of the first n. -/
def dmgTo (a b : List Nat) : Nat → Nat
  | 0 => 0
  | n + 1 => dmgTo a b n + (if a.getD n 0 = b.getD n 0 then 0 else 1)
def dmg (k : Chk) : Nat := dmgTo k.now k.tru 64
theorem dmgTo_le (a b : List Nat) (n : Nat) : dmgTo a b n ≤ n := by
  induction n with
  | zero => exact Nat.le_refl _
  | succ n ih => unfold dmgTo; split <;> omega

theorem load_any (g o : Nat) (w : World) {x : Int} (hc : w.cell? ⟨g, o, none⟩ = some (.int .i64 x)) :
    Calls Try.prog 69 #[.pointer (some ⟨g, o, none⟩)] w fun e w' => e = .returned (.int .i64 x) ∧ w' = w := by
  have hl := run_call_load (P := Try.prog) Try.func72 (by kernel_rfl) (by kernel_rfl) (by kernel_rfl) .i64 (by kernel_rfl) hc
  go_enter Try.func69, Try.ntmps69
  go_wp2
  go_ret
  exact ⟨rfl, rfl⟩
theorem store_any (g o : Nat) (w : World) (y : Int) {u : Value} (hc : w.cell? ⟨g, o, none⟩ = some u) (hz : w.frozen? ⟨g, o, none⟩ = false) :
    Calls Try.prog 56 #[.pointer (some ⟨g, o, none⟩), .int .i64 y] w fun e w' => e = .returned (.tuple #[]) ∧ w' = w.setCell ⟨g, o, none⟩ (.int .i64 y) := by
  have hl := run_call_store (P := Try.prog) Try.func71 (by kernel_rfl) (by kernel_rfl) (by kernel_rfl) (by kernel_rfl) (k := .i64) (y := y) hc hz
  go_enter Try.func56, Try.ntmps56
  go_wp2
  go_end0
  exact ⟨rfl, rfl⟩
theorem add_any (g o : Nat) (w : World) {x : Int} (hc : w.cell? ⟨g, o, none⟩ = some (.int .i64 x)) (hz : w.frozen? ⟨g, o, none⟩ = false) :
    Calls Try.prog 51 #[.pointer (some ⟨g, o, none⟩), .int .i64 1] w fun e w' => e = .returned (.int .i64 (wrap64 (x + 1))) ∧ w' = w.setCell ⟨g, o, none⟩ (.int .i64 (wrap64 (x + 1))) := by
  have hl := run_call_add (P := Try.prog) Try.func70 (by kernel_rfl) (by kernel_rfl) (by kernel_rfl) .i64 (by kernel_rfl) (y := 1) (s := wrap64 (x + 1)) hc hz (by simp [go_sem, wrap64, IntKind.wrap_i64])
  go_enter Try.func51, Try.ntmps51
  go_wp2
  go_ret
  exact ⟨rfl, rfl⟩

/-- While it is cleared. -/
def clrK (i : Nat) : Chk := { nulK with tru := List.replicate i 255 ++ List.replicate (64 - i) 0 }
theorem clrK_tru (i : Nat) (h : i ≤ 64) : (clrK i).tru.length = 64 := by simp [clrK]; omega
theorem clrK_set (i : Nat) (h : i < 64) : { clrK i with tru := (clrK i).tru.set i 255 } = clrK (i + 1) := by
  simp only [clrK, Chk.mk.injEq, true_and, and_true, nulK]
  rw [List.set_append_right _ _ (by simp), List.length_replicate, Nat.sub_self, show 64 - i = (64 - (i + 1)) + 1 from by omega, List.replicate_succ, List.set_cons_zero, List.replicate_succ', List.append_assoc]
  rfl
theorem clrK_zero : clrK 0 = nulK := rfl
theorem nul_size : Try.zeroCells60.size = 130 := Try.zeroCells60_size
theorem nul_one : Try.zeroCells60.all (·.oneCell') = true := by rw [nul_cells]; exact all_oneCell_toArray (ckc_one _)
theorem tru255 : byt 255 = Value.int .u8 255 := rfl
set_option maxHeartbeats 1000000 in
theorem clear_any (g o : Nat) (t : TypeId) (n : Nat) (f : Nat → Value) (ho : o + 130 ≤ n) (w : World) (hB : Sto w g t n f) :
    Calls Try.prog 55 #[.pointer (some ⟨g, o, none⟩)] w fun e w' => e = .returned (.tuple #[]) ∧ Sto w' g t n (upL f o (ckc newK)) ∧ Chg (· = g) w w' := by
  have hth := hB.there o 130 ho
  go_enter Try.func55, Try.ntmps55
  go_wp2_with (first | refine wpList_store_mid rfl 60 (.tmp 5) (.tmp 4) rfl g o _ rfl rfl (by rw [nul_size]; exact hth) (by rw [nul_size]; exact size60) nul_one ?_)
  have hB1 : Sto (w.setCells g o Try.zeroCells60.toList) g t n (upL f o (ckc (clrK 0))) := by
    rw [nul_cells]; exact Sto.setCells _ _ hB
  have hG1 : Chg (· = g) w (w.setCells g o Try.zeroCells60.toList) := Chg.setCells (S := (· = g)) (Or.inl rfl) _ _ (Chg.refl _ _)
  generalize w.setCells g o Try.zeroCells60.toList = w1 at *
  go_loopw [6] (fun t6 wr => ∃ i : Nat, i ≤ 64 ∧ t6 = .int .i64 i ∧ Sto wr g t n (upL f o (ckc (clrK i))) ∧ Chg (· = g) w wr) (fun t6 _ => 64 - (intOf t6).toNat)
  case atStart => exact ⟨0, by omega, rfl, hB1, hG1⟩
  case round =>
    clear hB1 hG1 hth
    obtain ⟨i, hi, rfl, hB, hG⟩ := hrel
    by_cases hlt : i < 64
    · have hkb4 : (0 : Int) ≤ (i : Int) := by omega
      have hkb5 : (i : Int) < 64 := by omega
      have c1 := hB.cell (o + 64 + i) (by omega)
      have f1 := hB.frozen (o + 64 + i)
      have hB2 := hB.setCell (o + 64 + i) (.int .u8 255)
      have e2 : upL (upL f o (ckc (clrK i))) (o + 64 + i) [.int .u8 255] = upL f o (ckc (clrK (i + 1))) := by
        rw [show o + 64 + i = o + (64 + i) from by omega, upL_upL _ _ _ _ _ (by rw [ckc_length (k := clrK i) rfl (clrK_tru i (by omega))]; simp; omega), ← tru255, layV_tru1 _ _ _ rfl (clrK_tru i (by omega)) hlt, clrK_set i hlt]
      rw [e2] at hB2
      clear e2
      go_wp2
      exact ⟨⟨i + 1, by omega, by go_num, hB2, hG.setCell (Or.inl rfl) _ _⟩, by simp [intOf]; omega⟩
    · have e6 : i = 64 := by omega
      subst e6
      have hl := ckc_length (k := clrK 64) rfl (clrK_tru 64 (by omega))
      have r1 : wr.rangeAt g (o + 64) ((clrK 64).tru.map byt) := Seg.range hB (ckc_tru rfl (upL_seg _ _ _)) (by simp [clrK_tru]; omega)
      have HS : Hid ((Try.prog.info? 58).map (·.size) = some ((clrK 64).tru.map byt).length) := by rw [List.length_map, clrK_tru 64 (by omega)]; exact size58
      have hth2 := hB.there o 64 (by omega)
      have hs : (((clrK 64).tru.map byt).toArray).size = 64 := by simp [clrK_tru]
      have h1 := all_oneCell_toArray (byt_one (clrK 64).tru)
      have hB2 := Sto.setCells ((clrK 64).tru.map byt) o hB
      have e2 := upL_upL f o (ckc (clrK 64)) 0 ((clrK 64).tru.map byt) (by rw [hl]; simp [clrK_tru])
      rw [Nat.add_zero, layV_now _ _ rfl (clrK_tru 64 (by omega))] at e2
      rw [e2] at hB2
      have hG2 : Chg (· = g) w (wr.setCells g o ((clrK 64).tru.map byt)) := Chg.setCells (S := (· = g)) (Or.inl rfl) _ _ hG
      go_wp2_with (first | refine wpList_load_mid rfl 58 (.tmp 18) rfl g (o + 64) rfl _ _ r1 Try.underlying58 rfl HS.out ?_ | refine wpList_store_mid rfl 58 (.tmp 21) (.tmp 19) rfl g o _ rfl rfl (by rw [hs]; exact hth2) (by rw [hs]; exact size58) h1 ?_)
      go_end0
      exact ⟨rfl, hB2, hG2⟩
end Go.Proofs.Ytfjgnplplafniaa
