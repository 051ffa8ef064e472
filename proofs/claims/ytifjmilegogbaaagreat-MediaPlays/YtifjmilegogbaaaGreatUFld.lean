/-
  What lies in a Field's memory: its 514 cells ahead of, while and behind its tables are made; and what it means that a world is another one but for one block and for new ones. No condition. The tables of a Field are made: what (*Field).fill does to the Field's block. Condition: the block holds a Field whose tables are not made. The once of a Field: whoever asks first makes the tables; behind (*Field).ready the block holds a Field with its tables. Condition: the block holds a Field that may be asked. The once of a Field: behind (*Field).ready the block holds a Field with its tables. Condition: the block holds a Field that may be asked. A Field, asked: New, Mul, Exp, Log, Inv, Div: what each answers, and that the Field may be asked on. Condition: the block holds a Field that may be asked; the bytes are bytes.
-/
import Derived.Test.YtifjmilegogbaaaGreatUPlain
import Derived.WalkKit
import Derived.Test.YtifjmilegogbaaaGreatRows
import Derived.WalkLawsBesides
import Derived.WalkSpells
import Derived.Outline
import Derived.Defers
import Derived.Laws.LoneSync
import Derived.RegionTactic
import Derived.RegionCalls
import Derived.ChangeAlike
import Derived.Deep.QuietTactic
import Derived.BigQuiet
namespace Go.Proofs.YtifjmilegogbaaaGreat
open Go.RowKit

theorem wrap_i64_small (n : Nat) (h : n < 9223372036854775808) : IntKind.i64.wrap (n : Int) = n := by
  simp [IntKind.wrap, IntKind.bits, IntKind.signed]
  omega
theorem i64_toNat (a : Nat) (ha : a < 9223372036854775808) : (BitVec.ofInt 64 (a : Int)).toNat = a := by
  rw [BitVec.ofInt_natCast, BitVec.toNat_ofNat]; exact Nat.mod_eq_of_lt (by omega)
theorem i64_xor_nat (a b : Nat) (ha : a < 9223372036854775808) (hb : b < 9223372036854775808) : bits .xor .i64 (a : Int) (b : Int) = ((a ^^^ b : Nat) : Int) := by
  have hx : a ^^^ b < 2 ^ 63 := Nat.xor_lt_two_pow (by omega) (by omega)
  show IntKind.i64.wrap ((BitVec.ofInt 64 (a : Int) ^^^ BitVec.ofInt 64 (b : Int)).toNat : Int) = _
  rw [BitVec.toNat_xor, i64_toNat a ha, i64_toNat b hb]
  exact wrap_i64_small _ (by omega)
theorem i64_and_nat (a b : Nat) (ha : a < 9223372036854775808) (hb : b < 9223372036854775808) : bits .and .i64 (a : Int) (b : Int) = ((a &&& b : Nat) : Int) := by
  have hx : a &&& b < 2 ^ 63 := Nat.and_lt_two_pow a (by omega)
  show IntKind.i64.wrap ((BitVec.ofInt 64 (a : Int) &&& BitVec.ofInt 64 (b : Int)).toNat : Int) = _
  rw [BitVec.toNat_and, i64_toNat a ha, i64_toNat b hb]
  exact wrap_i64_small _ (by omega)

/-- The i-th cell of a Field: 'done' is d, the lock's state m, k powers are laid. -/
def fcell (d m : Int) (k i : Nat) : Value :=
  if i = 0 then .int .u32 d else if i = 1 then .int .i32 m else if i = 2 then .int .u32 0 else
  if i < 258 then .int .u8 (if i - 3 < k then (ex (i - 3) : Int) else 0) else
  .int .i64 (if i - 258 ≠ 0 ∧ lg (i - 258) < k then (lg (i - 258) : Int) else 0)
def fcells (d m : Int) (k : Nat) : Array Value := Array.ofFn (n := 514) fun i => fcell d m k i.val
theorem fcells_size (d m : Int) (k : Nat) : (fcells d m k).size = 514 := by simp [fcells]
theorem fcells_at (d m : Int) (k i : Nat) (h : i < 514) : (fcells d m k)[i]? = some (fcell d m k i) := by
  simp [fcells, h]
theorem fcells_ext {a : Array Value} {d m : Int} {k : Nat} (hs : a.size = 514) (h : ∀ i, i < 514 → a[i]? = some (fcell d m k i)) : a = fcells d m k := by
  apply Array.ext_getElem?
  intro i
  by_cases hi : i < 514
  · rw [h i hi, fcells_at _ _ _ _ hi]
  · rw [Array.getElem?_eq_none (by omega), Array.getElem?_eq_none (by rw [fcells_size]; omega)]

/-- Block b of the world w holds a Field: 'done' is d, the lock's state m, k powers are laid. -/
def Fat (w : World) (b : Nat) (d m : Int) (k : Nat) : Prop := w.heap[b]? = some (.cells (fcells d m k) 220)
/-- Block b holds a Field that may be asked: without its tables, or with them. -/
def Fld (w : World) (b : Nat) : Prop := Fat w b 0 0 0 ∨ Fat w b 1 0 255
/-- The Field has its tables. -/
def Full (w : World) (b : Nat) : Prop := Fat w b 1 0 255

/-- w' is w, but for block b and for new blocks. -/
structure But (b : Nat) (w w' : World) : Prop where
  os : w'.os = w.os
  tape : w'.tape = w.tape
  output : w'.output = w.output
  size : w.heap.size ≤ w'.heap.size
  block : ∀ k, k < w.heap.size → k ≠ b → w'.heap[k]? = w.heap[k]?
theorem But.refl (b : Nat) (w : World) : But b w w := ⟨rfl, rfl, rfl, Nat.le_refl _, fun _ _ _ => rfl⟩
theorem But.trans {b : Nat} {u v w : World} (h : But b u v) (k : But b v w) : But b u w :=
  ⟨k.os.trans h.os, k.tape.trans h.tape, k.output.trans h.output, Nat.le_trans h.size k.size, fun i hi hb => (k.block i (Nat.lt_of_lt_of_le hi h.size) hb).trans (h.block i hi hb)⟩
theorem But.drew {b : Nat} {u w : World} (h : But b u w) : But b u w.drew := ⟨h.os, h.tape, h.output, h.size, h.block⟩
theorem But.setCell {b : Nat} {u w : World} (h : But b u w) (o : Nat) (v : Value) : But b u (w.setCell ⟨b, o, none⟩ v) :=
  h.trans ⟨rfl, rfl, rfl, by simp [World.setCell], fun k _ hb => Below.heap_setCell _ _ _ _ (by simpa using hb)⟩
theorem But.below {b : Nat} {w w' : World} (h : But b w w') {B : Nat} (hb : B ≤ b) (hB : B ≤ w.heap.size) : Below B w w' :=
  ⟨h.os, h.tape, h.output, h.size, fun k hk => h.block k (by omega) (by omega)⟩

theorem Fat.cell {w : World} {b : Nat} {d m : Int} {k : Nat} (h : Fat w b d m k) (i : Nat) (hi : i < 514) : w.cell? ⟨b, i, none⟩ = some (fcell d m k i) := by
  have h' : w.heap[b]? = some (.cells (fcells d m k) 220) := h
  simp [World.cell?, h', fcells_at _ _ _ _ hi]
theorem Fat.frozen {w : World} {b : Nat} {d m : Int} {k : Nat} (h : Fat w b d m k) (i : Nat) : w.frozen? ⟨b, i, none⟩ = false := by
  have h' : w.heap[b]? = some (.cells (fcells d m k) 220) := h
  simp [World.frozen?, h']
theorem Fat.lt {w : World} {b : Nat} {d m : Int} {k : Nat} (h : Fat w b d m k) : b < w.heap.size := by
  have h' : w.heap[b]? = some (.cells (fcells d m k) 220) := h
  exact (Array.getElem?_eq_some_iff.1 h').1
theorem Fat.drew {w : World} {b : Nat} {d m : Int} {k : Nat} (h : Fat w b d m k) : Fat w.drew b d m k := h
/-- One store into the Field. -/
theorem Fat.store {w : World} {b : Nat} {d m d' m' : Int} {k k' : Nat} (h : Fat w b d m k) (i : Nat) (v : Value) (hv : v = fcell d' m' k' i) (hi : i < 514)
    (ho : ∀ j, j < 514 → j ≠ i → fcell d m k j = fcell d' m' k' j) : Fat (w.setCell ⟨b, i, none⟩ v) b d' m' k' := by
  have h' : w.heap[b]? = some (.cells (fcells d m k) 220) := h
  have e : (fcells d m k).setIfInBounds i v = fcells d' m' k' := by
    apply fcells_ext
    · simp [fcells_size]
    · intro j hj
      by_cases hji : j = i
      · subst hji
        rw [Array.getElem?_setIfInBounds_self_of_lt (by rw [fcells_size]; exact hj), hv]
      · rw [Array.getElem?_setIfInBounds_ne (by omega), fcells_at _ _ _ _ hj, ho j hj hji]
  show (w.setCell ⟨b, i, none⟩ v).heap[b]? = _
  simp [World.setCell, Array.getElem?_modify, h', e]
/-- Two stores into the Field. -/
theorem Fat.store2 {w : World} {b : Nat} {d m d' m' : Int} {k k' : Nat} (h : Fat w b d m k) (i i2 : Nat) (v v2 : Value) (hv : v = fcell d' m' k' i) (hv2 : v2 = fcell d' m' k' i2) (hi : i < 514) (hi2 : i2 < 514) (hne : i ≠ i2)
    (ho : ∀ j, j < 514 → j ≠ i → j ≠ i2 → fcell d m k j = fcell d' m' k' j) : Fat ((w.setCell ⟨b, i, none⟩ v).setCell ⟨b, i2, none⟩ v2) b d' m' k' := by
  have h' : w.heap[b]? = some (.cells (fcells d m k) 220) := h
  have e : ((fcells d m k).setIfInBounds i v).setIfInBounds i2 v2 = fcells d' m' k' := by
    apply fcells_ext
    · simp [fcells_size]
    · intro j hj
      by_cases hj2 : j = i2
      · subst hj2
        rw [Array.getElem?_setIfInBounds_self_of_lt (by simp [fcells_size]; exact hj), hv2]
      · rw [Array.getElem?_setIfInBounds_ne (by omega)]
        by_cases hji : j = i
        · subst hji
          rw [Array.getElem?_setIfInBounds_self_of_lt (by rw [fcells_size]; exact hj), hv]
        · rw [Array.getElem?_setIfInBounds_ne (by omega), fcells_at _ _ _ _ hj, ho j hj hji hj2]
  show ((w.setCell ⟨b, i, none⟩ v).setCell ⟨b, i2, none⟩ v2).heap[b]? = _
  simp [World.setCell, Array.getElem?_modify, h', e]

theorem fcell_pow (d m : Int) (k i : Nat) (h : i < 255) : fcell d m k (3 + i) = .int .u8 (if i < k then (ex i : Int) else 0) := by
  unfold fcell
  rw [if_neg (by omega), if_neg (by omega), if_neg (by omega), if_pos (by omega), show 3 + i - 3 = i from by omega]
theorem fcell_log (d m : Int) (k a : Nat) : fcell d m k (258 + a) = .int .i64 (if a ≠ 0 ∧ lg a < k then (lg a : Int) else 0) := by
  unfold fcell
  rw [if_neg (by omega), if_neg (by omega), if_neg (by omega), if_neg (by omega), show 258 + a - 258 = a from by omega]
/-- One round of the making of the tables. -/
theorem fcell_round (d m : Int) (k : Nat) (hk : k < 255) (j : Nat) (hj : j < 514) (h1 : j ≠ 3 + k) (h2 : j ≠ 258 + ex k) : fcell d m k j = fcell d m (k + 1) j := by
  by_cases e0 : j < 3
  · rcases (by omega : j = 0 ∨ j = 1 ∨ j = 2) with e | e | e <;> subst e <;> rfl
  by_cases e1 : j < 258
  · obtain ⟨i, rfl⟩ : ∃ i, j = 3 + i := ⟨j - 3, by omega⟩
    rw [fcell_pow _ _ _ _ (by omega), fcell_pow _ _ _ _ (by omega)]
    by_cases h : i < k
    · rw [if_pos h, if_pos (by omega)]
    · rw [if_neg h, if_neg (by omega)]
  · obtain ⟨a, rfl⟩ : ∃ a, j = 258 + a := ⟨j - 258, by omega⟩
    rw [fcell_log, fcell_log]
    by_cases h : a ≠ 0 ∧ lg a < k
    · rw [if_pos h, if_pos ⟨h.1, by omega⟩]
    · rw [if_neg h, if_neg]
      rintro ⟨ha, hl⟩
      have hlk : lg a = k := by
        have : ¬ lg a < k := fun hh => h ⟨ha, hh⟩
        omega
      have := ex_lg a (by omega) ha
      rw [hlk] at this
      omega
theorem Full.pow {w : World} {b : Nat} (h : Full w b) (i : Nat) (hi : i < 255) : w.cell? ⟨b, 3 + i, none⟩ = some (.int .u8 (ex i : Int)) := by
  rw [Fat.cell h _ (by omega), fcell_pow _ _ _ _ hi, if_pos hi]
theorem Full.log {w : World} {b : Nat} (h : Full w b) (a : Nat) (ha : a < 256) : w.cell? ⟨b, 258 + a, none⟩ = some (.int .i64 (lg a : Int)) := by
  rw [Fat.cell h _ (by omega), fcell_log]
  by_cases h0 : a = 0
  · subst h0; rw [if_neg (by simp), lg_zero]; rfl
  · rw [if_pos ⟨h0, lg_lt a ha⟩]
end Go.Proofs.YtifjmilegogbaaaGreat
namespace Go.Proofs.YtifjmilegogbaaaGreat
set_option maxRecDepth 100000
open Go.RowKit

/-- The power ahead of round k. -/
def pw (k : Nat) : Nat := if k < 255 then ex k else 1
theorem pw_succ (k : Nat) (h : k < 255) : pw (k + 1) = xt (ex k) := by
  unfold pw
  by_cases e : k + 1 < 255
  · rw [if_pos e, ex_succ k (by omega)]
  · have : k = 254 := by omega
    subst this
    rw [if_neg e, ex_last]
theorem pw_hi (k : Nat) (h : k < 255) (hh : 256 ≤ (ex k : Int) * 2) : Value.int IntKind.i64 (bits BinOp.xor IntKind.i64 (↑(ex k) * 2) 285) = Value.int IntKind.i64 ↑(pw (k + 1)) := by
  have hx := ex_lt k
  have e : bits BinOp.xor IntKind.i64 ((ex k : Int) * 2) 285 = ((ex k * 2 ^^^ 285 : Nat) : Int) := i64_xor_nat (ex k * 2) 285 (by omega) (by omega)
  rw [e, pw_succ k h]
  unfold xt
  rw [if_pos (by omega)]
theorem pw_lo (k : Nat) (h : k < 255) (hh : (ex k : Int) * 2 < 256) : Value.int IntKind.i64 (↑(ex k) * 2) = Value.int IntKind.i64 ↑(pw (k + 1)) := by
  rw [pw_succ k h]
  unfold xt
  rw [if_neg (by omega)]
  congr 1
theorem Fat.round {wr : World} {b k : Nat} (hf : Fat wr b 0 1 k) (h : k < 255) :
    Fat ((wr.setCell { block := b, off := 3 + k } (Value.int IntKind.u8 ↑(ex k))).setCell { block := b, off := 258 + ex k } (Value.int IntKind.i64 ↑k)) b 0 1 (k + 1) := by
  have hx := ex_lt k
  refine Fat.store2 hf (3 + k) (258 + ex k) _ _ ?_ ?_ (by omega) (by omega) (by omega) (fun j hj h1 h2 => fcell_round 0 1 k h j hj h1 h2)
  · rw [fcell_pow _ _ _ _ h, if_pos (by omega)]
  · rw [fcell_log, if_pos ⟨ex_ne k h, by rw [lg_ex k h]; omega⟩, lg_ex k h]

set_option maxRecDepth 100000 in
set_option maxHeartbeats 1000000 in
/-- (*Field).fill. -/
theorem fill_any (b : Nat) (w : World) (h : Fat w b 0 1 0) :
    Calls Tryz.prog 150 #[.pointer (some ⟨b, 0, none⟩)] w fun e w' => e = .returned (.tuple #[]) ∧ Fat w' b 0 1 255 ∧ But b w w' := by
  go_enter Tryz.func150, Tryz.ntmps150
  go_wp2
  go_loopw [2, 4] (fun p i wr => ∃ k : Nat, k ≤ 255 ∧ i = .int .i64 k ∧ p = .int .i64 (pw k) ∧ Fat wr b 0 1 k ∧ But b w wr) (fun _ i _ => 255 - (intOf i).toNat)
  case atStart => exact ⟨0, by omega, rfl, by simp [pw, ex_zero], h, But.refl _ _⟩
  case round =>
    obtain ⟨k, hk, rfl, rfl, hf, hb⟩ := hrel
    by_cases hlt : k < 255
    · have hp : pw k = ex k := by simp [pw, hlt]
      rw [hp]
      have hx := ex_lt k
      have c1 := Fat.cell hf (3 + k) (by omega)
      have c2 := Fat.cell hf (258 + ex k) (by omega)
      have z1 := Fat.frozen hf (3 + k)
      have z2 := Fat.frozen hf (258 + ex k)
      generalize fcell 0 1 k (3 + k) = v1 at c1
      generalize fcell 0 1 k (258 + ex k) = v2 at c2
      clear hp
      go_wp2
      · exact ⟨⟨k + 1, by omega, by go_num, pw_hi k hlt ‹_›, Fat.round hf hlt, (hb.setCell _ _).setCell _ _⟩, by simp [intOf]; omega⟩
      · exact ⟨⟨k + 1, by omega, by go_num, pw_lo k hlt ‹_›, Fat.round hf hlt, (hb.setCell _ _).setCell _ _⟩, by simp [intOf]; omega⟩
    · have e : k = 255 := by omega
      subst e
      go_wp2
      go_end0
      exact ⟨rfl, hf, hb⟩
end Go.Proofs.YtifjmilegogbaaaGreat
namespace Go.Proofs.YtifjmilegogbaaaGreat
set_option maxRecDepth 100000
open Go.RowKit

theorem disable (w : World) : (callFunc 168 #[]).run Tryz.prog w = .ok (.value (.tuple #[])) w := run_call_mark0 Tryz.func168 (by kernel_rfl) (by kernel_rfl) (by kernel_rfl) .disable (by kernel_rfl) w
theorem enable (w : World) : (callFunc 170 #[]).run Tryz.prog w = .ok (.value (.tuple #[])) w := run_call_mark0 Tryz.func170 (by kernel_rfl) (by kernel_rfl) (by kernel_rfl) .enable (by kernel_rfl) w
theorem acquire (a : Addr) (w : World) : (callFunc 171 #[.pointer (some a)]).run Tryz.prog w = .ok (.value (.tuple #[])) w := run_call_marked Tryz.func171 (by kernel_rfl) (by kernel_rfl) (by kernel_rfl) .acquire (by kernel_rfl) a w
theorem releaseMerge (a : Addr) (w : World) : (callFunc 173 #[.pointer (some a)]).run Tryz.prog w = .ok (.value (.tuple #[])) w := run_call_marked Tryz.func173 (by kernel_rfl) (by kernel_rfl) (by kernel_rfl) .releaseMerge (by kernel_rfl) a w

theorem store_deferred (a : Addr) (x : Value) (u : FrameMode) (w : World) (hc : w.cell? a = some x) (hz : w.frozen? a = false) :
    CallsD Tryz.prog 162 #[.pointer (some a), .bool true] u w fun e u' w' => u' = u ∧ (e = .returned (.tuple #[]) ∧ w' = w.drew.setCell a (.int .u32 1)) := by
  have hc' : w.drew.cell? a = some x := by go_simp
  have hz' : w.drew.frozen? a = false := by go_simp
  have hst := run_call_store (P := Tryz.prog) Tryz.func166 (by kernel_rfl) (by kernel_rfl) (by kernel_rfl) (by kernel_rfl) (k := .u32) (y := 1) hc' hz'
  go_enter_d Tryz.func162, Tryz.ntmps162
  go_wp2
  go_region_calls
  all_goals (go_end0; exact ⟨rfl, rfl⟩)

theorem unlock_deferred (a : Addr) (u : FrameMode) (w : World) (hc : w.cell? a = some (.int .i32 1)) (hz : w.frozen? a = false) :
    CallsD Tryz.prog 161 #[.pointer (some a)] u w fun e u' w' => u' = u ∧ (e = .returned (.tuple #[]) ∧ w' = w.setCell a (.int .i32 0)) := by
  have hd := disable
  have he := enable
  have hr := releaseMerge
  have hadd := run_call_add (P := Tryz.prog) Tryz.func174 (by kernel_rfl) (by kernel_rfl) (by kernel_rfl) .i32 (by kernel_rfl) (y := -1) (s := 0) hc hz (by simp [go_sem]; rfl)
  have hcv := run_convert_to_unsafe (P := Tryz.prog) (src := 259) (dst := 263) Tryz.underlying259 Tryz.underlying263 (by kernel_rfl) hc
  go_enter_d Tryz.func161, Tryz.ntmps161
  go_wp2
  go_end0
  go_wp2
  go_end0
  exact ⟨rfl, rfl⟩

theorem lock_free (a : Addr) (w : World) (hc : w.cell? a = some (.int .i32 0)) (hz : w.frozen? a = false) :
    Calls Tryz.prog 160 #[.pointer (some a)] w fun e w' => e = .returned (.tuple #[]) ∧ w' = w.setCell a (.int .i32 1) := by
  have hd := disable
  have he := enable
  have ha := acquire
  have hcas := run_call_cas_hit (P := Tryz.prog) Tryz.func169 (by kernel_rfl) (by kernel_rfl) (by kernel_rfl) .i32 (by kernel_rfl) (y := 1) hc hz
  have hc' : (w.setCell a (.int .i32 1)).cell? a = some (.int .i32 1) := World.cell?_setCell_same w a _ hc
  have hcv := run_convert_to_unsafe (P := Tryz.prog) (src := 259) (dst := 263) Tryz.underlying259 Tryz.underlying263 (by kernel_rfl) hc'
  go_enter Tryz.func160, Tryz.ntmps160
  go_wp2
  first | go_end0 | (simp only [Exit.inBlock, Exit.then]; refine bodyPost_ret (results_none rfl _ _ _) rfl ?_) | refine bodyPost_ret (results_none rfl _ _ _) rfl ?_
  go_wp2
  go_end0
  exact ⟨rfl, rfl⟩

theorem Fat.locked {w : World} {b : Nat} {k : Nat} {d m : Int} (h : Fat w b d 0 k) : Fat (w.setCell ⟨b, 1, none⟩ (.int .i32 m)) b d m k := by
  refine Fat.store h 1 _ (by simp [fcell]) (by omega) (fun j hj h1 => ?_)
  simp [fcell, h1]
theorem Fat.unlocked {w : World} {b : Nat} {k : Nat} {d m : Int} (h : Fat w b d m k) : Fat (w.setCell ⟨b, 1, none⟩ (.int .i32 0)) b d 0 k := by
  refine Fat.store h 1 _ (by simp [fcell]) (by omega) (fun j hj h1 => ?_)
  simp [fcell, h1]
theorem Fat.done {w : World} {b : Nat} {k : Nat} {m : Int} (h : Fat w b 0 m k) : Fat (w.setCell ⟨b, 0, none⟩ (.int .u32 1)) b 1 m k := by
  refine Fat.store h 0 _ (by simp [fcell]) (by omega) (fun j hj h1 => ?_)
  simp [fcell, h1]

end Go.Proofs.YtifjmilegogbaaaGreat
namespace Go.Proofs.YtifjmilegogbaaaGreat
set_option maxRecDepth 100000
open Go.RowKit

set_option maxRecDepth 100000 in
set_option maxHeartbeats 1600000 in
theorem slow_any (b : Nat) (w : World) (h : Fat w b 0 0 0) :
    Calls Tryz.prog 157 #[.pointer (some ⟨b, 0, none⟩), .func (.func 150) #[.pointer (some ⟨b, 0, none⟩)] #[]] w fun e w' => e = .returned (.tuple #[]) ∧ Full w' b ∧ But b w w' := by
  have h1 := Fat.cell h 1 (by omega)
  rw [show fcell 0 0 0 1 = .int .i32 0 from rfl] at h1
  have f1 := Fat.frozen h 1
  have hL := Fat.locked (m := 1) h
  have h0L := Fat.cell hL 0 (by omega)
  rw [show fcell 0 1 0 0 = .int .u32 0 from rfl] at h0L
  have hl := run_call_load (P := Tryz.prog) Tryz.func159 (by kernel_rfl) (by kernel_rfl) (by kernel_rfl) .u32 (by kernel_rfl) (w := w.setCell ⟨b, 1, none⟩ (.int .i32 1)) (a := ⟨b, 0, none⟩) (x := 0) h0L
  have hnot : ∀ (x : Bool) (w : World), (Op.unary .not (.bool x)).run Tryz.prog w = .ok (.bool (!x)) w := fun _ _ => rfl
  clear h0L
  go_enter_defers Tryz.func157, Tryz.ntmps157
  go_wp2_with (first | (go_at_call 160; refine (lock_free ⟨b, 1, none⟩ _ h1 f1).mono ?_; rintro e w' ⟨rfl, rfl⟩) | (go_at_call 156; go_in) | (go_at_call 150; refine (fill_any b _ hL).mono ?_; rintro e w' ⟨rfl, hF, hB⟩))
  have k0 := Fat.cell hF 0 (by omega)
  have z0 := Fat.frozen hF 0
  rw [show fcell 0 1 255 0 = .int .u32 0 from rfl] at k0
  have hD : Fat (w'.drew.setCell ⟨b, 0, none⟩ (.int .u32 1)) b 1 1 255 := Fat.done (w := w'.drew) hF
  have k1 := Fat.cell hD 1 (by omega)
  have z1 := Fat.frozen hD 1
  rw [show fcell 1 1 255 1 = .int .i32 1 from rfl] at k1
  have hE : Full ((w'.drew.setCell ⟨b, 0, none⟩ (.int .u32 1)).setCell ⟨b, 1, none⟩ (.int .i32 0)) b := Fat.unlocked hD
  have hG : But b w ((w'.drew.setCell ⟨b, 0, none⟩ (.int .u32 1)).setCell ⟨b, 1, none⟩ (.int .i32 0)) := ((((But.refl b w).setCell 1 _).trans hB).drew.setCell 0 _).setCell 1 _
  refine leaves_cons (f := 162) (args := #[.pointer (some ⟨b, 0, none⟩), .bool true]) (by simp) (by simp [go_sem]) ?_
  refine (store_deferred ⟨b, 0, none⟩ (.int .u32 0) .returning _ k0 z0).mono ?_
  rintro e u' w'' ⟨rfl, rfl, rfl⟩
  refine leaves_cons (f := 161) (args := #[.pointer (some ⟨b, 1, none⟩)]) (by simp [settle]) (by simp [go_sem]) ?_
  refine (unlock_deferred ⟨b, 1, none⟩ _ _ k1 z1).mono ?_
  rintro e u' w'' ⟨rfl, rfl, rfl⟩
  simp [Leaves, settle, results, Tryz.results157]
  exact ⟨hE, hG⟩

set_option maxRecDepth 100000 in
set_option maxHeartbeats 1600000 in
/-- (*sync.Once).Do, not yet done. -/
theorem do_first (b : Nat) (w : World) (h : Fat w b 0 0 0) :
    Calls Tryz.prog 149 #[.pointer (some ⟨b, 0, none⟩), .func (.func 150) #[.pointer (some ⟨b, 0, none⟩)] #[]] w fun e w' => e = .returned (.tuple #[]) ∧ Full w' b ∧ But b w w' := by
  have h0 := Fat.cell h 0 (by omega)
  rw [show fcell 0 0 0 0 = .int .u32 0 from rfl] at h0
  have hl := run_call_load (P := Tryz.prog) Tryz.func159 (by kernel_rfl) (by kernel_rfl) (by kernel_rfl) .u32 (by kernel_rfl) h0
  have hnot : ∀ (x : Bool) (w : World), (Op.unary .not (.bool x)).run Tryz.prog w = .ok (.bool (!x)) w := fun _ _ => rfl
  go_enter Tryz.func149, Tryz.ntmps149
  go_wp2_with (first | (go_at_call 157; refine (slow_any b _ h).mono ?_; rintro e w' ⟨rfl, hF, hB⟩) | (go_at_call 156; go_in))
  go_end0
  exact ⟨rfl, hF, hB⟩

/-- (*sync.Once).Do, done already. -/
theorem do_done (b : Nat) (fv : Value) (w : World) (h : Full w b) :
    Calls Tryz.prog 149 #[.pointer (some ⟨b, 0, none⟩), fv] w fun e w' => e = .returned (.tuple #[]) ∧ w' = w := by
  have h0 := Fat.cell h 0 (by omega)
  rw [show fcell 1 0 255 0 = .int .u32 1 from rfl] at h0
  have hl := run_call_load (P := Tryz.prog) Tryz.func159 (by kernel_rfl) (by kernel_rfl) (by kernel_rfl) .u32 (by kernel_rfl) h0
  have hnot : ∀ (x : Bool) (w : World), (Op.unary .not (.bool x)).run Tryz.prog w = .ok (.bool (!x)) w := fun _ _ => rfl
  go_enter Tryz.func149, Tryz.ntmps149
  go_wp2
  go_end0
  exact ⟨rfl, rfl⟩

/-- (*Field).ready. -/
theorem ready_any (b : Nat) (w : World) (h : Fld w b) :
    Calls Tryz.prog 135 #[.pointer (some ⟨b, 0, none⟩)] w fun e w' => e = .returned (.tuple #[]) ∧ Full w' b ∧ But b w w' := by
  have hmf : ∀ (fn : Fn) (first cap : Array Value) (w : World), (Instr.makeFunc fn first cap).run Tryz.prog w = .ok (.func fn first cap) w := fun _ _ _ _ => rfl
  rcases h with h | h
  · have c0 := Fat.cell h 0 (by omega)
    go_enter Tryz.func135, Tryz.ntmps135
    go_wp2_with (go_at_call 149; refine (do_first b _ h).mono ?_; rintro e w' ⟨rfl, hF, hB⟩)
    go_end0
    exact ⟨rfl, hF, hB⟩
  · have c0 := Fat.cell h 0 (by omega)
    go_enter Tryz.func135, Tryz.ntmps135
    go_wp2_with (go_at_call 149; refine (do_done b _ _ h).mono ?_; rintro e w' ⟨rfl, rfl⟩)
    go_end0
    exact ⟨rfl, h, But.refl _ _⟩
end Go.Proofs.YtifjmilegogbaaaGreat
namespace Go.Proofs.YtifjmilegogbaaaGreat
set_option maxRecDepth 100000
open Go.RowKit

theorem zero_field (w : World) : (zeroValue 220).run Tryz.prog w = .ok (.agg (fcells 0 0 0)) w := by kernel_rfl

theorem new_any (w : World) :
    Calls Tryz.prog 116 #[] w fun e w' => e = .returned (.pointer (some ⟨w.heap.size, 0, none⟩)) ∧ w' = w.alloc (.cells (fcells 0 0 0) 220) := by
  have hb := zero_field
  go_enter Tryz.func116, Tryz.ntmps116
  go_wp2
  go_ret
  exact ⟨rfl, rfl⟩
theorem Fld.new (w : World) : Fld (w.alloc (.cells (fcells 0 0 0) 220)) w.heap.size := by
  left
  show (w.heap.push _)[w.heap.size]? = _
  simp

theorem mul_nat (b : Nat) (w : World) (h : Fld w b) (x y : Nat) (hx : x < 256) (hy : y < 256) :
    Calls Tryz.prog 134 #[.pointer (some ⟨b, 0, none⟩), .int .u8 (x : Int), .int .u8 (y : Int)] w fun e w' => e = .returned (.int .u8 (gm x y : Nat)) ∧ Fld w' b ∧ But b w w' := by
  by_cases x0 : x = 0
  · subst x0
    go_enter Tryz.func134, Tryz.ntmps134
    go_wp2
    go_ret
    exact ⟨by rw [gm_zero_left]; rfl, h, But.refl _ _⟩
  by_cases y0 : y = 0
  · subst y0
    have hx0 : ((x : Int) == 0) = false := by simp; omega
    go_enter Tryz.func134, Tryz.ntmps134
    go_wp2
    go_ret
    exact ⟨by rw [gm_zero_right]; rfl, h, But.refl _ _⟩
  have hx0 : ((x : Int) == 0) = false := by simp; omega
  have hy0 : ((y : Int) == 0) = false := by simp; omega
  have lx := lg_lt x hx
  have ly := lg_lt y hy
  have hg := gm_of_ne x0 y0
  have HG : Hid (gm x y = ex ((lg x + lg y) % 255)) := hg
  clear hg
  go_enter Tryz.func134, Tryz.ntmps134
  go_wp2_with (go_at_call 135; refine (ready_any b _ h).mono ?_; rintro e w' ⟨rfl, hF, hB⟩)
  have c1 := Full.log hF x hx
  have c2 := Full.log hF y hy
  have c3 := Full.pow hF ((lg x + lg y) % 255) (Nat.mod_lt _ (by decide))
  go_region
  go_wp2
  go_ret
  exact ⟨by rw [HG.out]; rfl, Or.inr hF.drew, hB.drew⟩

/-- The power, of whatever number. -/
def exZ (k : Int) : Nat := ex (k % 255).toNat
theorem tmod_pos (k : Int) (h : 0 ≤ k) : k.tmod 255 = k % 255 := Int.tmod_eq_emod_of_nonneg h
theorem tmod_neg (k : Int) (h : k < 0) : k.tmod 255 = - ((-k) % 255) := by
  rw [← Int.tmod_eq_emod_of_nonneg (by omega), Int.neg_tmod, Int.neg_neg]
theorem exZ_neg (k : Int) (h : k.tmod 255 < 0) : ((k.tmod 255 + 255).toNat) = (k % 255).toNat ∧ -255 < k.tmod 255 := by
  have h0 : k < 0 := by
    by_cases e : 0 ≤ k
    · rw [tmod_pos k e] at h; omega
    · omega
  rw [tmod_neg k h0] at h ⊢
  omega
theorem exZ_pos (k : Int) (h : 0 ≤ k.tmod 255) : ((k.tmod 255).toNat) = (k % 255).toNat ∧ k.tmod 255 < 255 := by
  by_cases e : 0 ≤ k
  · rw [tmod_pos k e] at h ⊢; omega
  · rw [tmod_neg k (by omega)] at h ⊢; omega
theorem exp_any (b : Nat) (w : World) (h : Fld w b) (k : Int) :
    Calls Tryz.prog 118 #[.pointer (some ⟨b, 0, none⟩), .int .i64 k] w fun e w' => e = .returned (.int .u8 (exZ k : Nat)) ∧ Fld w' b ∧ But b w w' := by
  by_cases hn : k.tmod 255 < 0
  · obtain ⟨e1, e2⟩ := exZ_neg k hn
    have E1 : Hid ((k.tmod 255 + 255).toNat = (k % 255).toNat) := e1
    clear e1
    go_enter Tryz.func118, Tryz.ntmps118
    go_wp2_with (go_at_call 135; refine (ready_any b _ h).mono ?_; rintro e w' ⟨rfl, hF, hB⟩; have c1 : w'.cell? ⟨b, 3 + (k.tmod 255 + 255).toNat, none⟩ = some (.int .u8 (exZ k : Nat)) := (by rw [E1.out]; exact Full.pow hF _ (by omega)))
    go_ret
    exact ⟨rfl, Or.inr hF, hB⟩
  · obtain ⟨e1, e2⟩ := exZ_pos k (by omega)
    have E1 : Hid ((k.tmod 255).toNat = (k % 255).toNat) := e1
    have hn' : 0 ≤ k.tmod 255 := by omega
    clear e1
    go_enter Tryz.func118, Tryz.ntmps118
    go_wp2_with (go_at_call 135; refine (ready_any b _ h).mono ?_; rintro e w' ⟨rfl, hF, hB⟩; have c1 : w'.cell? ⟨b, 3 + (k.tmod 255).toNat, none⟩ = some (.int .u8 (exZ k : Nat)) := (by rw [E1.out]; exact Full.pow hF _ (by omega)))
    go_ret
    exact ⟨rfl, Or.inr hF, hB⟩

theorem log_zero (b : Nat) (w : World) (h : Fld w b) :
    Calls Tryz.prog 163 #[.pointer (some ⟨b, 0, none⟩), .int .u8 0] w fun e w' => e = .returned (.tuple #[.int .i64 0, .iface 58 (.int .i64 4)]) ∧ Fld w' b ∧ But b w w' := by
  go_enter Tryz.func163, Tryz.ntmps163
  go_wp2
  go_ret2
  exact ⟨rfl, h, But.refl _ _⟩
theorem log_nat (b : Nat) (w : World) (h : Fld w b) (x : Nat) (hx : x < 256) (x0 : x ≠ 0) :
    Calls Tryz.prog 163 #[.pointer (some ⟨b, 0, none⟩), .int .u8 (x : Int)] w fun e w' => e = .returned (.tuple #[.int .i64 (lg x : Nat), .nilIface]) ∧ Fld w' b ∧ But b w w' := by
  have hx0 : ((x : Int) == 0) = false := by simp; omega
  go_enter Tryz.func163, Tryz.ntmps163
  go_wp2_with (go_at_call 135; refine (ready_any b _ h).mono ?_; rintro e w' ⟨rfl, hF, hB⟩; have c1 := Full.log hF x hx)
  go_ret2
  exact ⟨rfl, Or.inr hF, hB⟩

/-- The inverse: of 0 an error. -/
theorem inv_zero (b : Nat) (w : World) (h : Fld w b) :
    Calls Tryz.prog 158 #[.pointer (some ⟨b, 0, none⟩), .int .u8 0] w fun e w' => e = .returned (.tuple #[.int .u8 0, .iface 58 (.int .i64 4)]) ∧ Fld w' b ∧ But b w w' := by
  go_enter Tryz.func158, Tryz.ntmps158
  go_wp2_with (go_at_call 163; refine (log_zero b _ h).mono ?_; rintro e w' ⟨rfl, hF, hB⟩)
  go_ret2
  exact ⟨rfl, hF, hB⟩
theorem exZ_iv (x : Nat) (hx : x < 256) : exZ (-(lg x : Int)) = iv x := by
  unfold exZ iv
  have := lg_lt x hx
  congr 1
  omega
theorem inv_nat (b : Nat) (w : World) (h : Fld w b) (x : Nat) (hx : x < 256) (x0 : x ≠ 0) :
    Calls Tryz.prog 158 #[.pointer (some ⟨b, 0, none⟩), .int .u8 (x : Int)] w fun e w' => e = .returned (.tuple #[.int .u8 (iv x : Nat), .nilIface]) ∧ Fld w' b ∧ But b w w' := by
  have lx := lg_lt x hx
  have HE : Hid (exZ (-(lg x : Int)) = iv x) := exZ_iv x hx
  go_enter Tryz.func158, Tryz.ntmps158
  go_wp2_with (first | (go_at_call 163; refine (log_nat b _ h x hx x0).mono ?_; rintro e w' ⟨rfl, hF, hB⟩) | (go_at_call 118; refine (exp_any b _ hF _).mono ?_; rintro e w'' ⟨rfl, hF', hB'⟩))
  go_ret2
  exact ⟨by rw [HE.out]; rfl, hF', hB.trans hB'⟩
theorem div_zero (b : Nat) (w : World) (h : Fld w b) (x : Int) :
    Calls Tryz.prog 155 #[.pointer (some ⟨b, 0, none⟩), .int .u8 x, .int .u8 0] w fun e w' => e = .returned (.tuple #[.int .u8 0, .iface 58 (.int .i64 4)]) ∧ Fld w' b ∧ But b w w' := by
  go_enter Tryz.func155, Tryz.ntmps155
  go_wp2_with (go_at_call 158; refine (inv_zero b _ h).mono ?_; rintro e w' ⟨rfl, hF, hB⟩)
  go_ret2
  exact ⟨rfl, hF, hB⟩
theorem div_nat (b : Nat) (w : World) (h : Fld w b) (x y : Nat) (hx : x < 256) (hy : y < 256) (y0 : y ≠ 0) :
    Calls Tryz.prog 155 #[.pointer (some ⟨b, 0, none⟩), .int .u8 (x : Int), .int .u8 (y : Int)] w fun e w' => e = .returned (.tuple #[.int .u8 (gm x (iv y) : Nat), .nilIface]) ∧ Fld w' b ∧ But b w w' := by
  have ly := iv_lt y
  go_enter Tryz.func155, Tryz.ntmps155
  go_wp2_with (first | (go_at_call 158; refine (inv_nat b _ h y hy y0).mono ?_; rintro e w' ⟨rfl, hF, hB⟩) | (go_at_call 134; refine (mul_nat b _ hF x (iv y) hx ly).mono ?_; rintro e w'' ⟨rfl, hF', hB'⟩))
  go_ret2
  exact ⟨rfl, hF', hB.trans hB'⟩
end Go.Proofs.YtifjmilegogbaaaGreat
