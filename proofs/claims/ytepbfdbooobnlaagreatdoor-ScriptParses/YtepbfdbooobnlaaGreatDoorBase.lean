/-
  Worlds that differ in one block; bytes in memory; a new row of bytes. No condition: lemmas.
-/
import Derived.Test.YtepbfdbooobnlaaGreatDoorRows
import Derived.WalkKit
import Derived.Deep.RegionWith
import Derived.Deep.Draws
import Derived.BigQuiet
import Derived.ChangeAlike
import Derived.Deep.QuietTactic
import Derived.Outline
import Derived.RegionCalls
import Derived.RegionTactic
import Derived.WalkLawsBesides
import Derived.WalkSpells
namespace Go.Proofs.YtepbfdbooobnlaaGreatDoor
set_option maxRecDepth 100000
open Go.RowKit

theorem hyd {p : Prop} (h : p) : Hid p := h
theorem wrap_i64_small (n : Nat) (h : n < 9223372036854775808) : IntKind.i64.wrap (n : Int) = n := by
  simp [IntKind.wrap, IntKind.bits, IntKind.signed]
  omega
theorem i64_toNat (a : Nat) (ha : a < 9223372036854775808) : (BitVec.ofInt 64 (a : Int)).toNat = a := by
  rw [BitVec.ofInt_natCast, BitVec.toNat_ofNat]; exact Nat.mod_eq_of_lt (by omega)
theorem i64_xor_nat (a b : Nat) (ha : a < 9223372036854775808) (hb : b < 9223372036854775808) : bits .xor .i64 (a : Int) (b : Int) = ((a ^^^ b : Nat) : Int) := by
  have hx : a ^^^ b < 2 ^ 63 := Nat.xor_lt_two_pow (by omega) (by omega)
  show IntKind.i64.wrap ((BitVec.ofInt 64 (a : Int) ^^^ BitVec.ofInt 64 (b : Int)).toNat : Int) = _
  rw [BitVec.toNat_xor, i64_toNat a ha, i64_toNat b hb]
  exact wrap_i64_small _ (by omega)
theorem i64_and_nat (a b : Nat) (ha : a < 9223372036854775808) (hb : b < 9223372036854775808) : bits .and .i64 (a : Int) (b : Int) = ((a &&& b : Nat) : Int) := by
  have hx : a &&& b < 2 ^ 63 := Nat.and_lt_two_pow a (by omega)
  show IntKind.i64.wrap ((BitVec.ofInt 64 (a : Int) &&& BitVec.ofInt 64 (b : Int)).toNat : Int) = _
  rw [BitVec.toNat_and, i64_toNat a ha, i64_toNat b hb]
  exact wrap_i64_small _ (by omega)
/-- w' is w, but for block b and for new blocks. -/
structure But (b : Nat) (w w' : World) : Prop where
  os : w'.os = w.os
  tape : w'.tape = w.tape
  output : w'.output = w.output
  size : w.heap.size ≤ w'.heap.size
  block : ∀ k, k < w.heap.size → k ≠ b → w'.heap[k]? = w.heap[k]?
theorem But.refl (b : Nat) (w : World) : But b w w := ⟨rfl, rfl, rfl, Nat.le_refl _, fun _ _ _ => rfl⟩
theorem But.trans {b : Nat} {u v w : World} (h : But b u v) (k : But b v w) : But b u w :=
  ⟨k.os.trans h.os, k.tape.trans h.tape, k.output.trans h.output, Nat.le_trans h.size k.size, fun i hi hb => (k.block i (Nat.lt_of_lt_of_le hi h.size) hb).trans (h.block i hi hb)⟩
theorem But.drew {b : Nat} {u w : World} (h : But b u w) : But b u w.drew := ⟨h.os, h.tape, h.output, h.size, h.block⟩
theorem But.setCell {b : Nat} {u w : World} (h : But b u w) (o : Nat) (v : Value) : But b u (w.setCell ⟨b, o, none⟩ v) :=
  h.trans ⟨rfl, rfl, rfl, by simp [World.setCell], fun k _ hb => Below.heap_setCell _ _ _ _ (by simpa using hb)⟩
theorem But.below {b : Nat} {w w' : World} (h : But b w w') {B : Nat} (hb : B ≤ b) (hB : B ≤ w.heap.size) : Below B w w' :=
  ⟨h.os, h.tape, h.output, h.size, fun k hk => h.block k (by omega) (by omega)⟩
def Bys (l : List Nat) : Prop := ∀ n ∈ l, n < 256
theorem Bys.getD {l : List Nat} (h : Bys l) (i : Nat) : l.getD i 0 < 256 := by
  by_cases hi : i < l.length
  · rw [List.getD_eq_getElem?_getD, List.getElem?_eq_getElem hi]; exact h _ (List.getElem_mem hi)
  · rw [List.getD_eq_getElem?_getD, List.getElem?_eq_none (by omega)]; decide
/-- The bytes l lie at a, outside block b. -/
def Rd (w : World) (b : Nat) (a : Option Addr) (l : List Nat) : Prop :=
  Bys l ∧ (l = [] ∨ ∃ c o, a = some ⟨c, o, none⟩ ∧ c ≠ b ∧ c < w.heap.size ∧ ∀ i, i < l.length → w.cell? ⟨c, o + i, none⟩ = some (.int .u8 (l.getD i 0 : Nat)))
theorem But.cell {b : Nat} {w w' : World} (h : But b w w') {c : Nat} (hc : c < w.heap.size) (hb : c ≠ b) (o : Nat) : w'.cell? ⟨c, o, none⟩ = w.cell? ⟨c, o, none⟩ :=
  World.cell?_of_block (w := w) (h.block c hc hb)
theorem Rd.but {w w' : World} {b : Nat} {a : Option Addr} {l : List Nat} (h : Rd w b a l) (hB : But b w w') : Rd w' b a l := by
  refine ⟨h.1, ?_⟩
  rcases h.2 with h | ⟨c, o, ha, hc, hs, hcell⟩
  · exact Or.inl h
  · exact Or.inr ⟨c, o, ha, hc, Nat.lt_of_lt_of_le hs hB.size, fun i hi => (hB.cell hs hc _).trans (hcell i hi)⟩
/-- Bytes as cells. -/
def bcells (l : List Nat) : Array Value := (l.map fun (n : Nat) => Value.int .u8 (n : Int)).toArray
theorem bcells_size (l : List Nat) : (bcells l).size = l.length := by simp [bcells]
theorem bcells_at (l : List Nat) (i : Nat) (h : i < l.length) : (bcells l)[i]? = some (.int .u8 (l.getD i 0 : Nat)) := by
  simp [bcells, List.getD_eq_getElem?_getD, List.getElem?_eq_getElem h]
theorem bcells_set (l : List Nat) (i v : Nat) : (bcells l).setIfInBounds i (.int .u8 (v : Int)) = bcells (l.set i v) := by
  apply Array.ext'
  simp [bcells, List.map_set]
/-- Block g holds the bytes l, and no more. -/
def Bat (w : World) (g : Nat) (l : List Nat) : Prop := w.heap[g]? = some (.cells (bcells l) 5)
theorem Bat.cell {w : World} {g : Nat} {l : List Nat} (h : Bat w g l) (i : Nat) (hi : i < l.length) : w.cell? ⟨g, i, none⟩ = some (.int .u8 (l.getD i 0 : Nat)) := by
  have h' : w.heap[g]? = some (.cells (bcells l) 5) := h
  simp only [World.cell?, h', bcells_at l i hi]; simp
theorem Bat.frozen {w : World} {g : Nat} {l : List Nat} (h : Bat w g l) (i : Nat) : w.frozen? ⟨g, i, none⟩ = false := by
  have h' : w.heap[g]? = some (.cells (bcells l) 5) := h
  simp [World.frozen?, h']
theorem Bat.lt {w : World} {g : Nat} {l : List Nat} (h : Bat w g l) : g < w.heap.size := by
  have h' : w.heap[g]? = some (.cells (bcells l) 5) := h
  exact (Array.getElem?_eq_some_iff.1 h').1
theorem Bat.store {w : World} {g : Nat} {l : List Nat} (h : Bat w g l) (i v : Nat) : Bat (w.setCell ⟨g, i, none⟩ (.int .u8 (v : Int))) g (l.set i v) := by
  have h' : w.heap[g]? = some (.cells (bcells l) 5) := h
  show (w.setCell ⟨g, i, none⟩ (.int .u8 (v : Int))).heap[g]? = _
  simp [World.setCell, Array.getElem?_modify, h', bcells_set]
theorem Bat.but {w w' : World} {b g : Nat} {l : List Nat} (h : Bat w g l) (hB : But b w w') (hg : g ≠ b) : Bat w' g l := (hB.block g h.lt hg).trans h
theorem Bat.drew {w : World} {g : Nat} {l : List Nat} (h : Bat w g l) : Bat w.drew g l := h
theorem Bat.rd {w : World} {g b : Nat} {l : List Nat} (h : Bat w g l) (hl : Bys l) (hg : g ≠ b) : Rd w b (some ⟨g, 0, none⟩) l :=
  ⟨hl, Or.inr ⟨g, 0, rfl, hg, h.lt, fun i hi => by rw [Nat.zero_add]; exact h.cell i hi⟩⟩
/-- A new block. -/
theorem But.alloc {b : Nat} {u w : World} (h : But b u w) (o : Obj) : But b u (w.alloc o) :=
  h.trans ⟨rfl, rfl, rfl, by simp, fun k hk _ => Below.heap_alloc _ _ _ hk⟩
/-- A store into a block that is new since u. -/
theorem But.setNew {b : Nat} {u w : World} (h : But b u w) {g : Nat} (hg : u.heap.size ≤ g) (o : Nat) (v : Value) : But b u (w.setCell ⟨g, o, none⟩ v) :=
  ⟨h.os, h.tape, h.output, by simp [World.setCell]; exact h.size, fun k hk hb => (Below.heap_setCell _ _ _ _ (by simp; omega)).trans (h.block k hk hb)⟩
theorem Bat.new (w : World) (l : List Nat) : Bat (w.alloc (.cells (bcells l) 5)) w.heap.size l := by
  show (w.heap.push _)[w.heap.size]? = _
  simp
theorem info5_all : (Tryz.prog.info? 5).map (fun i => (i.zero, i.size, i.bytes)) = some (some (.int .u8 0), 1, 1) := by kernel_rfl
theorem info5 : ∃ i, Tryz.prog.info? 5 = some i ∧ i.zero = some (.int .u8 0) ∧ i.size = 1 ∧ i.bytes = 1 := by
  have h := info5_all
  cases e : Tryz.prog.info? 5 with
  | none => rw [e] at h; cases h
  | some i =>
    rw [e] at h
    simp only [Option.map_some, Option.some.injEq, Prod.mk.injEq] at h
    exact ⟨i, rfl, h.1, h.2.1, h.2.2⟩
theorem made_bytes (n : Nat) : madeCells (Value.int .u8 0).cells n = bcells (List.replicate n 0) := by
  apply Array.ext_getElem?
  intro i
  by_cases h : i < n
  · rw [bcells_at _ _ (by simpa using h)]
    simp [madeCells, Value.cells, h, Nat.mod_one]
  · rw [Array.getElem?_eq_none (by rw [size_madeCells]; omega), Array.getElem?_eq_none (by rw [bcells_size]; simp; omega)]
theorem make_bytes (w : World) (L : Int) (n : Nat) (hL : L = n) (hn : n ≤ 281474976710656) :
    (Instr.makeSlice 23 (.int .i64 L) (.int .i64 L)).run Tryz.prog w = .ok (.slice (some ⟨w.heap.size, 0, none⟩) n n) (w.alloc (.cells (bcells (List.replicate n 0)) 5)) := by
  obtain ⟨i, h1, h2, h3, h4⟩ := info5
  have h := run_make (P := Tryz.prog) w 23 5 i (.int .u8 0) Tryz.underlying23 h1 h2 .i64 .i64 L L (by omega) (by omega) (by rw [h4]; omega) (by omega)
  rw [h, hL, h3, Int.toNat_natCast, Nat.mul_one, made_bytes]

end Go.Proofs.YtepbfdbooobnlaaGreatDoor
