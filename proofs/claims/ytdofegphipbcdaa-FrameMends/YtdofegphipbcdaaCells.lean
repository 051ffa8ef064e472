/-
  What lies in a Field's memory: its 514 cells ahead of, while and behind its tables are made; and what it means that a world is another one but for one block and for new ones. No condition.
-/
import Derived.Test.YtdofegphipbcdaaPlain
import Derived.WalkKit
namespace Go.Proofs.Ytdofegphipbcdaa
open Go.RowKit

theorem wrap_i64_small (n : Nat) (h : n < 9223372036854775808) : IntKind.i64.wrap (n : Int) = n := by
  simp [IntKind.wrap, IntKind.bits, IntKind.signed]
  omega
theorem i64_toNat (a : Nat) (ha : a < 9223372036854775808) : (BitVec.ofInt 64 (a : Int)).toNat = a := by
  rw [BitVec.ofInt_natCast, BitVec.toNat_ofNat]; exact Nat.mod_eq_of_lt (by omega)
theorem i64_xor_nat (a b : Nat) (ha : a < 9223372036854775808) (hb : b < 9223372036854775808) : bits .xor .i64 (a : Int) (b : Int) = ((a ^^^ b : Nat) : Int) := by
  have hx : a ^^^ b < 2 ^ 63 := Nat.xor_lt_two_pow (by omega) (by omega)
  show IntKind.i64.wrap ((BitVec.ofInt 64 (a : Int) ^^^ BitVec.ofInt 64 (b : Int)).toNat : Int) = _
  rw [BitVec.toNat_xor, i64_toNat a ha, i64_toNat b hb]
  exact wrap_i64_small _ (by omega)
theorem i64_and_nat (a b : Nat) (ha : a < 9223372036854775808) (hb : b < 9223372036854775808) : bits .and .i64 (a : Int) (b : Int) = ((a &&& b : Nat) : Int) := by
  have hx : a &&& b < 2 ^ 63 := Nat.and_lt_two_pow a (by omega)
  show IntKind.i64.wrap ((BitVec.ofInt 64 (a : Int) &&& BitVec.ofInt 64 (b : Int)).toNat : Int) = _
  rw [BitVec.toNat_and, i64_toNat a ha, i64_toNat b hb]
  exact wrap_i64_small _ (by omega)

/-- The i-th cell of a Field: 'done' is d, the lock's state m, k powers are laid. -/
def fcell (d m : Int) (k i : Nat) : Value :=
  if i = 0 then .int .u32 d else if i = 1 then .int .i32 m else if i = 2 then .int .u32 0 else
  if i < 258 then .int .u8 (if i - 3 < k then (ex (i - 3) : Int) else 0) else
  .int .i64 (if i - 258 ≠ 0 ∧ lg (i - 258) < k then (lg (i - 258) : Int) else 0)
def fcells (d m : Int) (k : Nat) : Array Value := Array.ofFn (n := 514) fun i => fcell d m k i.val
theorem fcells_size (d m : Int) (k : Nat) : (fcells d m k).size = 514 := by simp [fcells]
theorem fcells_at (d m : Int) (k i : Nat) (h : i < 514) : (fcells d m k)[i]? = some (fcell d m k i) := by
  simp [fcells, h]
theorem fcells_ext {a : Array Value} {d m : Int} {k : Nat} (hs : a.size = 514) (h : ∀ i, i < 514 → a[i]? = some (fcell d m k i)) : a = fcells d m k := by
  apply Array.ext_getElem?
  intro i
  by_cases hi : i < 514
  · rw [h i hi, fcells_at _ _ _ _ hi]
  · rw [Array.getElem?_eq_none (by omega), Array.getElem?_eq_none (by rw [fcells_size]; omega)]

/-- Block b of the world w holds a Field: 'done' is d, the lock's state m, k powers are laid. -/
def Fat (w : World) (b : Nat) (d m : Int) (k : Nat) : Prop := w.heap[b]? = some (.cells (fcells d m k) 105)
/-- Block b holds a Field that may be asked: without its tables, or with them. -/
def Fld (w : World) (b : Nat) : Prop := Fat w b 0 0 0 ∨ Fat w b 1 0 255
/-- The Field has its tables. -/
def Full (w : World) (b : Nat) : Prop := Fat w b 1 0 255

/-- w' is w, but for block b and for new blocks. -/
structure But (b : Nat) (w w' : World) : Prop where
  os : w'.os = w.os
  tape : w'.tape = w.tape
  output : w'.output = w.output
  size : w.heap.size ≤ w'.heap.size
  block : ∀ k, k < w.heap.size → k ≠ b → w'.heap[k]? = w.heap[k]?
theorem But.refl (b : Nat) (w : World) : But b w w := ⟨rfl, rfl, rfl, Nat.le_refl _, fun _ _ _ => rfl⟩
theorem But.trans {b : Nat} {u v w : World} (h : But b u v) (k : But b v w) : But b u w :=
  ⟨k.os.trans h.os, k.tape.trans h.tape, k.output.trans h.output, Nat.le_trans h.size k.size, fun i hi hb => (k.block i (Nat.lt_of_lt_of_le hi h.size) hb).trans (h.block i hi hb)⟩
theorem But.drew {b : Nat} {u w : World} (h : But b u w) : But b u w.drew := ⟨h.os, h.tape, h.output, h.size, h.block⟩
theorem But.setCell {b : Nat} {u w : World} (h : But b u w) (o : Nat) (v : Value) : But b u (w.setCell ⟨b, o, none⟩ v) :=
  h.trans ⟨rfl, rfl, rfl, by simp [World.setCell], fun k _ hb => Below.heap_setCell _ _ _ _ (by simpa using hb)⟩
theorem But.below {b : Nat} {w w' : World} (h : But b w w') {B : Nat} (hb : B ≤ b) (hB : B ≤ w.heap.size) : Below B w w' :=
  ⟨h.os, h.tape, h.output, h.size, fun k hk => h.block k (by omega) (by omega)⟩

theorem Fat.cell {w : World} {b : Nat} {d m : Int} {k : Nat} (h : Fat w b d m k) (i : Nat) (hi : i < 514) : w.cell? ⟨b, i, none⟩ = some (fcell d m k i) := by
  have h' : w.heap[b]? = some (.cells (fcells d m k) 105) := h
  simp [World.cell?, h', fcells_at _ _ _ _ hi]
theorem Fat.frozen {w : World} {b : Nat} {d m : Int} {k : Nat} (h : Fat w b d m k) (i : Nat) : w.frozen? ⟨b, i, none⟩ = false := by
  have h' : w.heap[b]? = some (.cells (fcells d m k) 105) := h
  simp [World.frozen?, h']
theorem Fat.lt {w : World} {b : Nat} {d m : Int} {k : Nat} (h : Fat w b d m k) : b < w.heap.size := by
  have h' : w.heap[b]? = some (.cells (fcells d m k) 105) := h
  exact (Array.getElem?_eq_some_iff.1 h').1
theorem Fat.drew {w : World} {b : Nat} {d m : Int} {k : Nat} (h : Fat w b d m k) : Fat w.drew b d m k := h
/-- One store into the Field. -/
theorem Fat.store {w : World} {b : Nat} {d m d' m' : Int} {k k' : Nat} (h : Fat w b d m k) (i : Nat) (v : Value) (hv : v = fcell d' m' k' i) (hi : i < 514)
    (ho : ∀ j, j < 514 → j ≠ i → fcell d m k j = fcell d' m' k' j) : Fat (w.setCell ⟨b, i, none⟩ v) b d' m' k' := by
  have h' : w.heap[b]? = some (.cells (fcells d m k) 105) := h
  have e : (fcells d m k).setIfInBounds i v = fcells d' m' k' := by
    apply fcells_ext
    · simp [fcells_size]
    · intro j hj
      by_cases hji : j = i
      · subst hji
        rw [Array.getElem?_setIfInBounds_self_of_lt (by rw [fcells_size]; exact hj), hv]
      · rw [Array.getElem?_setIfInBounds_ne (by omega), fcells_at _ _ _ _ hj, ho j hj hji]
  show (w.setCell ⟨b, i, none⟩ v).heap[b]? = _
  simp [World.setCell, Array.getElem?_modify, h', e]
/-- Two stores into the Field. -/
theorem Fat.store2 {w : World} {b : Nat} {d m d' m' : Int} {k k' : Nat} (h : Fat w b d m k) (i i2 : Nat) (v v2 : Value) (hv : v = fcell d' m' k' i) (hv2 : v2 = fcell d' m' k' i2) (hi : i < 514) (hi2 : i2 < 514) (hne : i ≠ i2)
    (ho : ∀ j, j < 514 → j ≠ i → j ≠ i2 → fcell d m k j = fcell d' m' k' j) : Fat ((w.setCell ⟨b, i, none⟩ v).setCell ⟨b, i2, none⟩ v2) b d' m' k' := by
  have h' : w.heap[b]? = some (.cells (fcells d m k) 105) := h
  have e : ((fcells d m k).setIfInBounds i v).setIfInBounds i2 v2 = fcells d' m' k' := by
    apply fcells_ext
    · simp [fcells_size]
    · intro j hj
      by_cases hj2 : j = i2
      · subst hj2
        rw [Array.getElem?_setIfInBounds_self_of_lt (by simp [fcells_size]; exact hj), hv2]
      · rw [Array.getElem?_setIfInBounds_ne (by omega)]
        by_cases hji : j = i
        · subst hji
          rw [Array.getElem?_setIfInBounds_self_of_lt (by rw [fcells_size]; exact hj), hv]
        · rw [Array.getElem?_setIfInBounds_ne (by omega), fcells_at _ _ _ _ hj, ho j hj hji hj2]
  show ((w.setCell ⟨b, i, none⟩ v).setCell ⟨b, i2, none⟩ v2).heap[b]? = _
  simp [World.setCell, Array.getElem?_modify, h', e]

theorem fcell_pow (d m : Int) (k i : Nat) (h : i < 255) : fcell d m k (3 + i) = .int .u8 (if i < k then (ex i : Int) else 0) := by
  unfold fcell
  rw [if_neg (by omega), if_neg (by omega), if_neg (by omega), if_pos (by omega), show 3 + i - 3 = i from by omega]
theorem fcell_log (d m : Int) (k a : Nat) : fcell d m k (258 + a) = .int .i64 (if a ≠ 0 ∧ lg a < k then (lg a : Int) else 0) := by
  unfold fcell
  rw [if_neg (by omega), if_neg (by omega), if_neg (by omega), if_neg (by omega), show 258 + a - 258 = a from by omega]
/-- One round of the making of the tables. -/
theorem fcell_round (d m : Int) (k : Nat) (hk : k < 255) (j : Nat) (hj : j < 514) (h1 : j ≠ 3 + k) (h2 : j ≠ 258 + ex k) : fcell d m k j = fcell d m (k + 1) j := by
  by_cases e0 : j < 3
  · rcases (by omega : j = 0 ∨ j = 1 ∨ j = 2) with e | e | e <;> subst e <;> rfl
  by_cases e1 : j < 258
  · obtain ⟨i, rfl⟩ : ∃ i, j = 3 + i := ⟨j - 3, by omega⟩
    rw [fcell_pow _ _ _ _ (by omega), fcell_pow _ _ _ _ (by omega)]
    by_cases h : i < k
    · rw [if_pos h, if_pos (by omega)]
    · rw [if_neg h, if_neg (by omega)]
  · obtain ⟨a, rfl⟩ : ∃ a, j = 258 + a := ⟨j - 258, by omega⟩
    rw [fcell_log, fcell_log]
    by_cases h : a ≠ 0 ∧ lg a < k
    · rw [if_pos h, if_pos ⟨h.1, by omega⟩]
    · rw [if_neg h, if_neg]
      rintro ⟨ha, hl⟩
      have hlk : lg a = k := by
        have : ¬ lg a < k := fun hh => h ⟨ha, hh⟩
        omega
      have := ex_lg a (by omega) ha
      rw [hlk] at this
      omega
theorem Full.pow {w : World} {b : Nat} (h : Full w b) (i : Nat) (hi : i < 255) : w.cell? ⟨b, 3 + i, none⟩ = some (.int .u8 (ex i : Int)) := by
  rw [Fat.cell h _ (by omega), fcell_pow _ _ _ _ hi, if_pos hi]
theorem Full.log {w : World} {b : Nat} (h : Full w b) (a : Nat) (ha : a < 256) : w.cell? ⟨b, 258 + a, none⟩ = some (.int .i64 (lg a : Int)) := by
  rw [Fat.cell h _ (by omega), fcell_log]
  by_cases h0 : a = 0
  · subst h0; rw [if_neg (by simp), lg_zero]; rfl
  · rw [if_pos ⟨h0, lg_lt a ha⟩]
end Go.Proofs.Ytdofegphipbcdaa
