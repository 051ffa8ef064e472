/-
  wire's Put, and the document's Put and Get. Conditions: none beside that the number is a uint64, and that the bytes can be read.
-/
import Derived.Test.YtipeldekiloanaaCut
namespace Go.Proofs.Ytipeldekiloanaa
open Go.RowKit
set_option maxRecDepth 100000

theorem zero49 (w : World) : (zeroValue 64).run Try.prog w = .ok (.agg (bcells (List.replicate 8 0))) w := by kernel_rfl

/-- The first k of eight bytes of a number are laid. -/
def bto (v k : Nat) : List Nat := (List.range 8).map fun i => if i < k then byteAt v i else 0
theorem bto_length (v k : Nat) : (bto v k).length = 8 := by simp [bto]
theorem bto_zero (v : Nat) : bto v 0 = List.replicate 8 0 := by simp [bto]; rfl
theorem bto_all (v : Nat) : bto v 8 = bts v 8 := by
  apply List.map_congr_left
  intro i hi
  rw [if_pos (List.mem_range.1 hi)]
theorem bto_set (v k : Nat) (_hk : k < 8) : (bto v k).set k (byteAt v k) = bto v (k + 1) := by
  apply List.ext_getElem?
  intro j
  by_cases h : k = j
  · subst h
    rw [List.getElem?_set_self (by rw [bto_length]; exact _hk)]
    simp [bto, _hk]
  · rw [List.getElem?_set_ne h]
    by_cases h5 : j < 8
    · simp only [bto, List.getElem?_map, List.getElem?_range h5, Option.map_some]
      congr 1
      by_cases h6 : j < k
      · rw [if_pos h6, if_pos (by omega)]
      · rw [if_neg h6, if_neg (by omega)]
    · rw [List.getElem?_eq_none (by simp [bto]; omega), List.getElem?_eq_none (by simp [bto]; omega)]
theorem shr_nat (v k : Nat) : ((v : Int) / 2 ^ (8 * k)) = ((v / 256 ^ k : Nat) : Int) := by rw [← pow_eq]; push_cast; rfl
theorem shr_byte (v k : Nat) : ((v : Int) / 2 ^ (8 * k)) % 256 = ((byteAt v k : Nat) : Int) := by rw [shr_nat]; unfold byteAt; push_cast; rfl

set_option maxHeartbeats 1000000 in
theorem put_room (w : World) (v n : Nat) (_hv : v < 18446744073709551616) (h1 : 1 ≤ n) (h8 : n ≤ 8) (hr : v < 256 ^ n) :
    Calls Try.prog 25 #[.int .u64 (v : Int), .int .i64 (n : Int)] w fun e w' => ∃ g, e = .returned (.tuple #[.slice (some ⟨g, 0, none⟩) n n, .nilIface]) ∧ w.heap.size ≤ g ∧ Arr w' g 5 (bts v 8) ∧ Chg (fun _ => False) w w' := by
  have hz := zero49
  have h1' : ¬ (n : Int) < 1 := by omega
  have h8' : ¬ (8 : Int) < (n : Int) := by omega
  have hsh : (0 : Int) ≤ 8 * (n : Int) := by omega
  have hb : ((v : Int) / 2 ^ (8 * n) != 0) = false := by rw [shr_nat, Nat.div_eq_of_lt hr]; rfl
  clear hr
  go_enter Try.func25, Try.ntmps25
  go_wp2_with fail
  clear hb hsh
  go_loopw [21] (fun t wr => ∃ k : Nat, k ≤ 8 ∧ t = .int .i64 k ∧ Arr wr w.heap.size 64 (bto v k) ∧ Chg (fun _ => False) w wr) (fun t _ => 8 - (intOf t).toNat)
  case atStart => exact ⟨0, Nat.zero_le _, rfl, by rw [bto_zero]; exact Arr.new _ _ _, (Chg.refl _ _).alloc _⟩
  case round =>
    obtain ⟨k, hk, rfl, hA, hG⟩ := hrel
    by_cases hlt : k < 8
    · have hlt' : (k : Int) < 8 := by omega
      have hkb : (0 : Int) ≤ (k : Int) := by omega
      have hsh : (0 : Int) ≤ 8 * (k : Int) := by omega
      have hx := hA.cell k (by rw [bto_length]; exact hlt)
      have hf := hA.frozen k
      have hA2 : Arr (wr.setCell ⟨w.heap.size, k, none⟩ (.int .u8 ((v : Int) / 2 ^ (8 * k) % 256))) w.heap.size 64 (bto v (k + 1)) := by
        rw [← bto_set v k hlt, shr_byte]; exact hA.store k _
      have HA2 := hyd hA2
      clear hA2 hA
      generalize (bto v k).getD k 0 = old at hx
      go_wp2
      exact ⟨⟨k + 1, by omega, by go_num, HA2.out, hG.setCell (Or.inr (Nat.le_refl _)) _ _⟩, by simp [intOf]; omega⟩
    · have hlt' : ¬ (k : Int) < 8 := by omega
      have e : k = 8 := by omega
      subst e
      rw [bto_all] at hA
      go_wp2_with fail
      refine (cut_any wr w.heap.size 0 8 n (bts v 8) (by rw [bts_length]; omega) (by rw [bts_length]; exact h8) hA.lt (fun i hi => by rw [Nat.zero_add]; exact hA.cell i hi)).mono ?_
      rintro e w' ⟨g, rfl, hg, hA', hG'⟩
      have hs := hG.size
      go_wp2
      go_ret2
      exact ⟨g, rfl, by omega, hA', hG.trans hG'⟩

set_option maxHeartbeats 1000000 in
theorem put_long (w : World) (v n : Nat) (_hv : v < 18446744073709551616) (h1 : 1 ≤ n) (h8 : n ≤ 8) (hr : ¬ v < 256 ^ n) :
    Calls Try.prog 25 #[.int .u64 (v : Int), .int .i64 (n : Int)] w fun e w' => e = .returned (.tuple #[.slice none 0 0, .iface 44 (.int .i64 2)]) ∧ w' = w := by
  have h1' : ¬ (n : Int) < 1 := by omega
  have h8' : ¬ (8 : Int) < (n : Int) := by omega
  have hsh : (0 : Int) ≤ 8 * (n : Int) := by omega
  have hb : ((v : Int) / 2 ^ (8 * n) != 0) = true := by
    rw [shr_nat, bne_iff_ne]
    have : 0 < v / 256 ^ n := Nat.div_pos (by omega) (Nat.pow_pos (by decide))
    omega
  clear hr
  go_enter Try.func25, Try.ntmps25
  go_wp2
  go_ret2
  exact ⟨rfl, rfl⟩
theorem put_arg (w : World) (v : Nat) (n : Int) (h : n < 1 ∨ 8 < n) :
    Calls Try.prog 25 #[.int .u64 (v : Int), .int .i64 n] w fun e w' => e = .returned (.tuple #[.slice none 0 0, .iface 44 (.int .i64 1)]) ∧ w' = w := by
  rcases h with h | h
  · go_enter Try.func25, Try.ntmps25
    go_wp2
    go_ret2
    exact ⟨rfl, rfl⟩
  · have h' : ¬ n < 1 := by omega
    go_enter Try.func25, Try.ntmps25
    go_wp2
    go_ret2
    exact ⟨rfl, rfl⟩

theorem byteAt_div (v k : Nat) : (((v / 256 ^ k : Nat) : Int) % 256) = ((byteAt v k : Nat) : Int) := by unfold byteAt; push_cast; rfl
theorem div_succ (v k : Nat) : (((v / 256 ^ k : Nat) : Int) / 256) = ((v / 256 ^ (k + 1) : Nat) : Int) := by
  rw [Nat.pow_succ, ← Nat.div_div_eq_div_mul]; push_cast; rfl

theorem get_step (l : List Nat) (hl : Bys l) (h8 : l.length ≤ 8) (k : Nat) (hk : k < l.length) : 256 * le (l.drop (k + 1)) + l.getD k 0 = le (l.drop k) ∧ le (l.drop k) < 18446744073709551616 := by
  refine ⟨(le_drop l k hk).symm, Nat.lt_of_lt_of_le (le_lt (bys_drop hl k)) ?_⟩
  rw [List.length_drop]
  exact Nat.pow_le_pow_right (by decide : 0 < 256) (by omega : l.length - k ≤ 8)
end Go.Proofs.Ytipeldekiloanaa
