/-
  Checkpoints: their 62 cells, a block that holds them, loads and stores. No condition: lemmas.
-/
import Derived.Test.YtjkpidhpjleebaaMem
import Derived.Deep.MidRow
namespace Go.Proofs.Ytjkpidhpjleebaa
open Go.RowKit
set_option maxRecDepth 100000

/-- A checkpoint. -/
structure Ckp where
  F : Nat → Int
  N : Int
  B : Nat → Bool
  C : Int
  R : Nat → Int
  S : Nat → Int
def i6 (z : Int) : Value := .int .i64 z
/-- f, but z at i. -/
def upd {α : Type} (f : Nat → α) (i : Nat) (z : α) : Nat → α := fun j => if j = i then z else f j
def ints (f : Nat → Int) (n : Nat) : List Value := (List.range n).map fun i => i6 (f i)
def bools (f : Nat → Bool) (n : Nat) : List Value := (List.range n).map fun i => .bool (f i)
theorem ints_length (f : Nat → Int) (n : Nat) : (ints f n).length = n := by simp [ints]
theorem bools_length (f : Nat → Bool) (n : Nat) : (bools f n).length = n := by simp [bools]
theorem ints_at (f : Nat → Int) (n i : Nat) (h : i < n) : (ints f n)[i]? = some (i6 (f i)) := by simp [ints, h]
theorem bools_at (f : Nat → Bool) (n i : Nat) (h : i < n) : (bools f n)[i]? = some (.bool (f i)) := by simp [bools, h]
theorem ints_set (f : Nat → Int) (n i : Nat) (z : Int) : (ints f n).set i (i6 z) = ints (upd f i z) n := by
  apply List.ext_getElem?
  intro j
  by_cases hj : j < n
  · by_cases e : j = i
    · subst e; rw [List.getElem?_set_self (by simpa [ints_length] using hj), ints_at _ _ _ hj]; simp [upd]
    · rw [List.getElem?_set_ne (by omega), ints_at _ _ _ hj, ints_at _ _ _ hj]; simp [upd, e]
  · rw [List.getElem?_eq_none (by simp [ints_length]; omega), List.getElem?_eq_none (by simp [ints_length]; omega)]
theorem bools_set (f : Nat → Bool) (n i : Nat) (z : Bool) : (bools f n).set i (.bool z) = bools (upd f i z) n := by
  apply List.ext_getElem?
  intro j
  by_cases hj : j < n
  · by_cases e : j = i
    · subst e; rw [List.getElem?_set_self (by simpa [bools_length] using hj), bools_at _ _ _ hj]; simp [upd]
    · rw [List.getElem?_set_ne (by omega), bools_at _ _ _ hj, bools_at _ _ _ hj]; simp [upd, e]
  · rw [List.getElem?_eq_none (by simp [bools_length]; omega), List.getElem?_eq_none (by simp [bools_length]; omega)]
theorem ints_one (f : Nat → Int) (n : Nat) : ∀ v ∈ ints f n, v.oneCell' = true := by
  intro v hv
  obtain ⟨_, _, rfl⟩ := List.mem_map.1 hv
  rfl
theorem bools_one (f : Nat → Bool) (n : Nat) : ∀ v ∈ bools f n, v.oneCell' = true := by
  intro v hv
  obtain ⟨_, _, rfl⟩ := List.mem_map.1 hv
  rfl
/-- Its cells. -/
def ckL (c : Ckp) : List Value := ints c.F 24 ++ ([i6 c.N] ++ (bools c.B 12 ++ ([i6 c.C] ++ (ints c.R 12 ++ ints c.S 12))))
def ckA (c : Ckp) : Array Value := (ckL c).toArray
theorem ckL_length (c : Ckp) : (ckL c).length = 62 := by simp [ckL, ints_length, bools_length]
theorem ckA_size (c : Ckp) : (ckA c).size = 62 := by simp [ckA, ckL_length]
theorem ckL_one (c : Ckp) : ∀ v ∈ ckL c, v.oneCell' = true := by
  intro v hv
  unfold ckL at hv
  simp only [List.mem_append, List.mem_singleton] at hv
  rcases hv with h | h | h | h | h | h
  · exact ints_one _ _ v h
  · subst h; rfl
  · exact bools_one _ _ v h
  · subst h; rfl
  · exact ints_one _ _ v h
  · exact ints_one _ _ v h
theorem ckA_one (c : Ckp) : (ckA c).all (·.oneCell') = true := all_oneCell_toArray (ckL_one c)
theorem ints_congr {f g : Nat → Int} {n : Nat} (h : ∀ i, i < n → f i = g i) : ints f n = ints g n := by
  apply List.map_congr_left
  intro i hi
  rw [h i (List.mem_range.1 hi)]
theorem bools_congr {f g : Nat → Bool} {n : Nat} (h : ∀ i, i < n → f i = g i) : bools f n = bools g n := by
  apply List.map_congr_left
  intro i hi
  rw [h i (List.mem_range.1 hi)]
theorem ckA_congr {c d : Ckp} (hF : ∀ i, i < 24 → c.F i = d.F i) (hN : c.N = d.N) (hB : ∀ i, i < 12 → c.B i = d.B i) (hC : c.C = d.C) (hR : ∀ i, i < 12 → c.R i = d.R i) (hS : ∀ i, i < 12 → c.S i = d.S i) : ckA c = ckA d := by
  unfold ckA ckL
  rw [ints_congr hF, hN, bools_congr hB, hC, ints_congr hR, ints_congr hS]
/-- Block b holds a checkpoint. -/
def Ck (w : World) (b : Nat) (c : Ckp) : Prop := w.heap[b]? = some (.cells (ckA c) 36)
theorem Ck.new (w : World) (c : Ckp) : Ck (w.alloc (.cells (ckA c) 36)) w.heap.size c := by
  show (w.heap.push _)[w.heap.size]? = _
  simp
theorem Ck.lt {w : World} {b : Nat} {c : Ckp} (h : Ck w b c) : b < w.heap.size := (Array.getElem?_eq_some_iff.1 (show w.heap[b]? = some _ from h)).1
theorem Ck.other {w w' : World} {b : Nat} {c : Ckp} (h : Ck w b c) (e : w'.heap[b]? = w.heap[b]?) : Ck w' b c := e.trans h
theorem Ck.chg {S : Nat → Prop} {w w' : World} {b : Nat} {c : Ckp} (h : Ck w b c) (hc : Chg S w w') (hb : ¬ S b) : Ck w' b c := (hc.block b h.lt hb).trans h
theorem Ck.drew {w : World} {b : Nat} {c : Ckp} (h : Ck w b c) : Ck w.drew b c := h
theorem Ck.alloc {w : World} {b : Nat} {c : Ckp} (h : Ck w b c) (x : Obj) : Ck (w.alloc x) b c := (Below.heap_alloc _ _ _ h.lt).trans h
theorem Ck.setOther {w : World} {b : Nat} {c : Ckp} (h : Ck w b c) {k : Nat} (hg : k ≠ b) (i : Nat) (v : Value) : Ck (w.setCell ⟨k, i, none⟩ v) b c :=
  h.other (Below.heap_setCell _ _ _ _ (by simp; omega))
theorem Ck.frozen {w : World} {b : Nat} {c : Ckp} (h : Ck w b c) (i : Nat) : w.frozen? ⟨b, i, none⟩ = false := by
  have h' : w.heap[b]? = some _ := h
  simp [World.frozen?, h']
theorem Ck.cell {w : World} {b : Nat} {c : Ckp} (h : Ck w b c) (i : Nat) {v : Value} (hv : (ckL c)[i]? = some v) : w.cell? ⟨b, i, none⟩ = some v := by
  have h' : w.heap[b]? = some _ := h
  simp only [World.cell?, h', ckA]
  simpa using hv
theorem ckL_F (c : Ckp) (i : Nat) (hi : i < 24) : (ckL c)[i]? = some (i6 (c.F i)) := by
  rw [ckL, List.getElem?_append_left (by rw [ints_length]; omega), ints_at _ _ _ hi]
theorem ckL_N (c : Ckp) : (ckL c)[24]? = some (i6 c.N) := by
  rw [ckL, List.getElem?_append_right (by rw [ints_length]; omega), ints_length]; rfl
theorem ckL_B (c : Ckp) (i : Nat) (hi : i < 12) : (ckL c)[25 + i]? = some (.bool (c.B i)) := by
  rw [ckL, List.getElem?_append_right (by rw [ints_length]; omega), ints_length, List.getElem?_append_right (by simp; omega), show 25 + i - 24 - [i6 c.N].length = i by simp; omega, List.getElem?_append_left (by rw [bools_length]; omega), bools_at _ _ _ hi]
theorem ckL_C (c : Ckp) : (ckL c)[37]? = some (i6 c.C) := by
  rw [ckL, List.getElem?_append_right (by rw [ints_length]; omega), ints_length, List.getElem?_append_right (by simp), List.getElem?_append_right (by simp [bools_length]), bools_length]; rfl
theorem ckL_tail (c : Ckp) (i : Nat) : (ckL c)[38 + i]? = (ints c.R 12 ++ ints c.S 12)[i]? := by
  rw [ckL, List.getElem?_append_right (by rw [ints_length]; omega), ints_length, List.getElem?_append_right (by simp; omega), List.getElem?_append_right (by simp [bools_length]; omega), bools_length, List.getElem?_append_right (by simp; omega)]
  congr 1
  simp; omega
theorem ckL_R (c : Ckp) (i : Nat) (hi : i < 12) : (ckL c)[38 + i]? = some (i6 (c.R i)) := by
  rw [ckL_tail, List.getElem?_append_left (by rw [ints_length]; omega), ints_at _ _ _ hi]
theorem ckL_S (c : Ckp) (i : Nat) (hi : i < 12) : (ckL c)[50 + i]? = some (i6 (c.S i)) := by
  rw [show 50 + i = 38 + (12 + i) by omega, ckL_tail, List.getElem?_append_right (by rw [ints_length]; omega), ints_length, show 12 + i - 12 = i by omega, ints_at _ _ _ hi]
theorem Ck.F {w : World} {b : Nat} {c : Ckp} (h : Ck w b c) (i : Nat) (hi : i < 24) : w.cell? ⟨b, i, none⟩ = some (.int .i64 (c.F i)) := h.cell i (ckL_F c i hi)
theorem Ck.N {w : World} {b : Nat} {c : Ckp} (h : Ck w b c) : w.cell? ⟨b, 24, none⟩ = some (.int .i64 c.N) := h.cell 24 (ckL_N c)
theorem Ck.B {w : World} {b : Nat} {c : Ckp} (h : Ck w b c) (i : Nat) (hi : i < 12) : w.cell? ⟨b, 25 + i, none⟩ = some (.bool (c.B i)) := h.cell (25 + i) (ckL_B c i hi)
theorem Ck.C {w : World} {b : Nat} {c : Ckp} (h : Ck w b c) : w.cell? ⟨b, 37, none⟩ = some (.int .i64 c.C) := h.cell 37 (ckL_C c)
theorem Ck.R {w : World} {b : Nat} {c : Ckp} (h : Ck w b c) (i : Nat) (hi : i < 12) : w.cell? ⟨b, 38 + i, none⟩ = some (.int .i64 (c.R i)) := h.cell (38 + i) (ckL_R c i hi)
theorem Ck.S {w : World} {b : Nat} {c : Ckp} (h : Ck w b c) (i : Nat) (hi : i < 12) : w.cell? ⟨b, 50 + i, none⟩ = some (.int .i64 (c.S i)) := h.cell (50 + i) (ckL_S c i hi)
theorem Ck.set {w : World} {b : Nat} {c d : Ckp} (h : Ck w b c) (i : Nat) (v : Value) (e : (ckL c).set i v = ckL d) : Ck (w.setCell ⟨b, i, none⟩ v) b d := by
  have h' : w.heap[b]? = some _ := h
  show (w.setCell ⟨b, i, none⟩ v).heap[b]? = _
  have e2 : (ckA c).setIfInBounds i v = ckA d := by
    apply Array.ext'
    simp [ckA, e]
  simp [World.setCell, Array.getElem?_modify, h', e2]
theorem Ck.setF {w : World} {b : Nat} {c : Ckp} (h : Ck w b c) (i : Nat) (hi : i < 24) (z : Int) : Ck (w.setCell ⟨b, i, none⟩ (.int .i64 z)) b { c with F := upd c.F i z } :=
  h.set i _ (by show (ckL c).set i (i6 z) = _; rw [ckL, List.set_append_left _ _ (by rw [ints_length]; omega), ints_set]; rfl)
theorem Ck.setN {w : World} {b : Nat} {c : Ckp} (h : Ck w b c) (z : Int) : Ck (w.setCell ⟨b, 24, none⟩ (.int .i64 z)) b { c with N := z } :=
  h.set 24 _ (by rw [ckL, List.set_append_right _ _ (by rw [ints_length]; omega), ints_length]; rfl)
theorem Ck.setB {w : World} {b : Nat} {c : Ckp} (h : Ck w b c) (i : Nat) (hi : i < 12) (z : Bool) : Ck (w.setCell ⟨b, 25 + i, none⟩ (.bool z)) b { c with B := upd c.B i z } :=
  h.set (25 + i) _ (by rw [ckL, List.set_append_right _ _ (by rw [ints_length]; omega), ints_length, List.set_append_right _ _ (by simp; omega), show 25 + i - 24 - [i6 c.N].length = i by simp; omega, List.set_append_left _ _ (by rw [bools_length]; omega), bools_set]; rfl)
theorem Ck.setC {w : World} {b : Nat} {c : Ckp} (h : Ck w b c) (z : Int) : Ck (w.setCell ⟨b, 37, none⟩ (.int .i64 z)) b { c with C := z } :=
  h.set 37 _ (by rw [ckL, List.set_append_right _ _ (by rw [ints_length]; omega), ints_length, List.set_append_right _ _ (by simp), List.set_append_right _ _ (by simp [bools_length]), bools_length]; rfl)
theorem Ck.setR {w : World} {b : Nat} {c : Ckp} (h : Ck w b c) (i : Nat) (hi : i < 12) (z : Int) : Ck (w.setCell ⟨b, 38 + i, none⟩ (.int .i64 z)) b { c with R := upd c.R i z } :=
  h.set (38 + i) _ (by show (ckL c).set (38 + i) (i6 z) = _; rw [ckL, List.set_append_right _ _ (by rw [ints_length]; omega), ints_length, List.set_append_right _ _ (by simp; omega), List.set_append_right _ _ (by simp [bools_length]; omega), bools_length, List.set_append_right _ _ (by simp; omega), show 38 + i - 24 - [i6 c.N].length - 12 - [i6 c.C].length = i by simp; omega, List.set_append_left _ _ (by rw [ints_length]; omega), ints_set]; rfl)
theorem Ck.setS {w : World} {b : Nat} {c : Ckp} (h : Ck w b c) (i : Nat) (hi : i < 12) (z : Int) : Ck (w.setCell ⟨b, 50 + i, none⟩ (.int .i64 z)) b { c with S := upd c.S i z } :=
  h.set (50 + i) _ (by show (ckL c).set (50 + i) (i6 z) = _; rw [ckL, List.set_append_right _ _ (by rw [ints_length]; omega), ints_length, List.set_append_right _ _ (by simp; omega), List.set_append_right _ _ (by simp [bools_length]; omega), bools_length, List.set_append_right _ _ (by simp; omega), List.set_append_right _ _ (by simp [ints_length]; omega), ints_length, show 50 + i - 24 - [i6 c.N].length - 12 - [i6 c.C].length - 12 = i by simp; omega, ints_set]; rfl)
/-- Parts of it, read whole. -/
theorem Ck.part {w : World} {b : Nat} {c : Ckp} (h : Ck w b c) (o : Nat) (cs : List Value) (hs : ∀ j v, cs[j]? = some v → (ckL c)[o + j]? = some v) : w.rangeAt b o cs := fun j v hv => h.cell (o + j) (hs j v hv)
theorem Ck.partF {w : World} {b : Nat} {c : Ckp} (h : Ck w b c) : w.rangeAt b 0 (ints c.F 24) := h.part 0 _ fun j v hv => by
  have hj : j < 24 := by have := (List.getElem?_eq_some_iff.1 hv).1; rwa [ints_length] at this
  rw [Nat.zero_add, ckL_F c j hj, ← ints_at c.F 24 j hj, hv]
theorem Ck.partB {w : World} {b : Nat} {c : Ckp} (h : Ck w b c) : w.rangeAt b 25 (bools c.B 12) := h.part 25 _ fun j v hv => by
  have hj : j < 12 := by have := (List.getElem?_eq_some_iff.1 hv).1; rwa [bools_length] at this
  rw [ckL_B c j hj, ← bools_at c.B 12 j hj, hv]
theorem Ck.partR {w : World} {b : Nat} {c : Ckp} (h : Ck w b c) : w.rangeAt b 38 (ints c.R 12) := h.part 38 _ fun j v hv => by
  have hj : j < 12 := by have := (List.getElem?_eq_some_iff.1 hv).1; rwa [ints_length] at this
  rw [ckL_R c j hj, ← ints_at c.R 12 j hj, hv]
theorem Ck.partS {w : World} {b : Nat} {c : Ckp} (h : Ck w b c) : w.rangeAt b 50 (ints c.S 12) := h.part 50 _ fun j v hv => by
  have hj : j < 12 := by have := (List.getElem?_eq_some_iff.1 hv).1; rwa [ints_length] at this
  rw [ckL_S c j hj, ← ints_at c.S 12 j hj, hv]
theorem Ck.there {w : World} {b : Nat} {c : Ckp} (h : Ck w b c) (o n : Nat) (hn : o + n ≤ 62) : w.there b o n := fun j hj => by
  refine ⟨?_, h.frozen _⟩
  have : o + j < (ckL c).length := by rw [ckL_length]; omega
  rw [h.cell (o + j) (List.getElem?_eq_getElem this)]; rfl
/-- Twelve bools stored whole. -/
def updL (f : Nat → Bool) : Nat → List Bool → Nat → Bool
  | _, [], j => f j
  | o, x :: r, j => updL (upd f o x) (o + 1) r j
theorem Ck.setBs {b : Nat} : ∀ (r : List Bool) (o : Nat) {w : World} {c : Ckp} (_ : Ck w b c), o + r.length ≤ 12 → Ck (w.setCells b (25 + o) (r.map .bool)) b { c with B := updL c.B o r }
  | [], o, w, c, h, _ => by
    have e : updL c.B o [] = c.B := by funext j; simp [updL]
    rw [e]; simpa [World.setCells] using h
  | x :: r, o, w, c, h, ho => by
    simp only [List.map_cons, World.setCells]
    simp only [List.length_cons] at ho
    exact Ck.setBs r (o + 1) (h.setB o (by omega) x) (by omega)
theorem Ck.setB12 {w : World} {b : Nat} {c : Ckp} (h : Ck w b c) (f : Nat → Bool) : Ck (w.setCells b 25 (bools f 12)) b { c with B := f } := by
  have h1 := Ck.setBs ((List.range 12).map f) 0 h (by simp)
  have e : ((List.range 12).map f).map Value.bool = bools f 12 := by simp [bools]
  rw [e] at h1
  exact h1
theorem size36 : (Try.prog.info? 36).map (·.size) = some 62 := by kernel_rfl
theorem size32 : (Try.prog.info? 32).map (·.size) = some 24 := by kernel_rfl
theorem size33 : (Try.prog.info? 33).map (·.size) = some 12 := by kernel_rfl
theorem size34 : (Try.prog.info? 34).map (·.size) = some 12 := by kernel_rfl
theorem wpList_load_ck {ops : Array Oper} {rest : List Oper} {o : Oper} {a : Act} {w : World} {Q : Exit → Act → World → Prop} (hgd : o.guard = none) (x : Operand) (ho : o.op = .load 36 x)
    (g : Nat) (hx : a.eval x = .pointer (some ⟨g, 0, none⟩)) {c : Ckp} (hg : Ck w g c)
    (h : wpList Try.prog ops Q rest (a.put o.dst (.agg (ckA c))) w) : wpList Try.prog ops Q (o :: rest) a w :=
  wpList_load_row hgd 36 x ho g hx 36 _ _ _ hg Try.underlying36 rfl (by rw [ckA_size]; exact size36) h
/-- Nothing set. -/
def ck0 : Ckp := ⟨fun _ => 0, 0, fun _ => false, 0, fun _ => 0, fun _ => 0⟩
theorem wpList_store_ck {ops : Array Oper} {rest : List Oper} {o : Oper} {a : Act} {w : World} {Q : Exit → Act → World → Prop} (hgd : o.guard = none) (x y : Operand) (ho : o.op = .store 36 x y)
    (g : Nat) (hx : a.eval x = .pointer (some ⟨g, 0, none⟩)) {c : Ckp} (hy : a.eval y = .agg (ckA c)) {c' : Ckp} (hg : Ck w g c')
    (h : ∀ w', Ck w' g c → Chg (· = g) w w' → wpList Try.prog ops Q rest (a.put o.dst undef) w') : wpList Try.prog ops Q (o :: rest) a w :=
  wpList_store_row hgd 36 x y ho g _ hx hy 36 _ hg (by rw [ckA_size]; exact size36) (by rw [ckA_size, ckA_size]) (ckA_one c) (h _ (setRow_heap w g _ _ 36 _ hg) ⟨rfl, rfl, rfl, by simp, fun k _ hk => setRow_other _ _ _ _ hk⟩)
theorem results_ck {fn : Func} {q u : Tmp} (h : fn.results = #[.cell q 36, .tmp u]) (tmps : Array Value) {w : World} {g : Nat} {c : Ckp} (hp : tmps.getD q undef = .pointer (some ⟨g, 0, none⟩)) (hT : Ck w g c) :
    (results fn tmps).run Try.prog w = .ok (.tuple #[.agg (ckA c), tmps.getD u undef]) w := by
  rw [results_cell_tmp h, hp]
  simp [asAddr, run_loadVar_row w g 36 36 _ _ _ hT Try.underlying36 rfl (by rw [ckA_size]; exact size36)]
theorem results_ck1 {fn : Func} {q : Tmp} (h : fn.results = #[.cell q 36]) (tmps : Array Value) {w : World} {g : Nat} {c : Ckp} (hp : tmps.getD q undef = .pointer (some ⟨g, 0, none⟩)) (hT : Ck w g c) :
    (results fn tmps).run Try.prog w = .ok (.agg (ckA c)) w :=
  results_cell_row h tmps w g 36 _ _ _ hp hT Try.underlying36 rfl (by rw [ckA_size]; exact size36)
theorem build36 (w : World) : (Instr.build 36 #[]).run Try.prog w = .ok (.agg (ckA ck0)) w := by kernel_rfl
theorem zero36 (w : World) : (zeroValue 36).run Try.prog w = .ok (.agg (ckA ck0)) w := by kernel_rfl
theorem wpList_alloc_ck {ops : Array Oper} {rest : List Oper} {o : Oper} {a : Act} {w : World} {Q : Exit → Act → World → Prop} (hgd : o.guard = none) (ho : o.op = .alloc 36)
    (h : wpList Try.prog ops Q rest (a.put o.dst (.pointer (some ⟨w.heap.size, 0, none⟩))) (w.alloc (.cells (ckA ck0) 36))) : wpList Try.prog ops Q (o :: rest) a w := by
  refine wpList_plain hgd fun K hK => ?_
  have hz := zero36
  unfold Oper.wp
  simp [execOp, ho, Instr.alloc, hz, newVar, Value.cells, newRow]
  exact hK _ _ h
theorem wpList_build_ck {ops : Array Oper} {rest : List Oper} {o : Oper} {a : Act} {w : World} {Q : Exit → Act → World → Prop} (hgd : o.guard = none) (ho : o.op = .build 36 #[])
    (h : wpList Try.prog ops Q rest (a.put o.dst (.agg (ckA ck0))) w) : wpList Try.prog ops Q (o :: rest) a w := by
  refine wpList_plain hgd fun K hK => ?_
  have hz := build36
  unfold Oper.wp
  simp [execOp, ho, hz]
  exact hK _ _ h
theorem index33 (f : Nat → Bool) (i : Nat) (hi : i < 12) (w : World) : (Instr.index 33 (.agg (bools f 12).toArray) (.int .i64 i)).run Try.prog w = .ok (.bool (f i)) w := by
  have h := bools_at f 12 i hi
  generalize bools f 12 = L at *
  simp [Instr.index, run_underlying Try.underlying33, asIntOf, go_sem, hi, h]
theorem index32 (f : Nat → Int) (i : Nat) (hi : i < 24) (w : World) : (Instr.index 32 (.agg (ints f 24).toArray) (.int .i64 i)).run Try.prog w = .ok (.int .i64 (f i)) w := by
  have h := ints_at f 24 i hi
  generalize ints f 24 = L at *
  simp [Instr.index, run_underlying Try.underlying32, asIntOf, go_sem, hi, h, i6]
theorem index34 (f : Nat → Int) (i : Nat) (hi : i < 12) (w : World) : (Instr.index 34 (.agg (ints f 12).toArray) (.int .i64 i)).run Try.prog w = .ok (.int .i64 (f i)) w := by
  have h := ints_at f 12 i hi
  generalize ints f 12 = L at *
  simp [Instr.index, run_underlying Try.underlying34, asIntOf, go_sem, hi, h, i6]
/-- Block b holds twelve bools. -/
def Bo (w : World) (b : Nat) (f : Nat → Bool) : Prop := w.heap[b]? = some (.cells (bools f 12).toArray 33)
theorem Bo.new (w : World) (f : Nat → Bool) : Bo (w.alloc (.cells (bools f 12).toArray 33)) w.heap.size f := by
  show (w.heap.push _)[w.heap.size]? = _
  simp
theorem Bo.lt {w : World} {b : Nat} {f : Nat → Bool} (h : Bo w b f) : b < w.heap.size := (Array.getElem?_eq_some_iff.1 (show w.heap[b]? = some _ from h)).1
theorem Bo.chg {S : Nat → Prop} {w w' : World} {b : Nat} {f : Nat → Bool} (h : Bo w b f) (hc : Chg S w w') (hb : ¬ S b) : Bo w' b f := (hc.block b h.lt hb).trans h
theorem Bo.alloc {w : World} {b : Nat} {f : Nat → Bool} (h : Bo w b f) (x : Obj) : Bo (w.alloc x) b f := (Below.heap_alloc _ _ _ h.lt).trans h
theorem Bo.setOther {w : World} {b : Nat} {f : Nat → Bool} (h : Bo w b f) {k : Nat} (hg : k ≠ b) (i : Nat) (v : Value) : Bo (w.setCell ⟨k, i, none⟩ v) b f :=
  (Below.heap_setCell _ _ _ _ (by simp; omega)).trans h
theorem Bo.set {w : World} {b : Nat} {f : Nat → Bool} (h : Bo w b f) (i : Nat) (z : Bool) : Bo (w.setCell ⟨b, i, none⟩ (.bool z)) b (upd f i z) := by
  have h' : w.heap[b]? = some _ := h
  show (w.setCell ⟨b, i, none⟩ _).heap[b]? = _
  have e2 : (bools f 12).toArray.setIfInBounds i (.bool z) = (bools (upd f i z) 12).toArray := by
    apply Array.ext'
    simp [← bools_set]
  simp [World.setCell, Array.getElem?_modify, h', e2]
theorem Bo.cell {w : World} {b : Nat} {f : Nat → Bool} (h : Bo w b f) (i : Nat) (hi : i < 12) : w.cell? ⟨b, i, none⟩ = some (.bool (f i)) ∧ w.frozen? ⟨b, i, none⟩ = false := by
  have h' : w.heap[b]? = some _ := h
  refine ⟨?_, by simp [World.frozen?, h']⟩
  simp only [World.cell?, h']
  simpa using bools_at f 12 i hi
end Go.Proofs.Ytjkpidhpjleebaa
