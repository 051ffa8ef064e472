/-
  patinaref01.Same: are two texts alike? Condition: they can be read. A Codec in memory; arrays of bytes in memory; what is left of syndromes without one symbol. Condition: the block holds a Codec that New gave.
-/
import Derived.Test.YtifjmilegogbaaaGreatUMem
import Derived.Test.YtifjmilegogbaaaGreatUPlain
import Derived.Laws.Rows
import Derived.Laws.Tables
import Derived.Deep.RegionWith
import Derived.Deep.RegionHeld3
namespace Go.Proofs.YtifjmilegogbaaaGreat
set_option maxRecDepth 100000
open Go.RowKit

theorem Chg.cell {S : Nat → Prop} {w w' : World} (h : Chg S w w') {c : Nat} (hc : c < w.heap.size) (hs : ¬ S c) (o : Nat) : w'.cell? ⟨c, o, none⟩ = w.cell? ⟨c, o, none⟩ :=
  World.cell?_of_block (w := w) (h.block c hc hs)
theorem list_eq_of_getD {l1 l2 : List Nat} (hl : l1.length = l2.length) (h : ∀ i, i < l1.length → l1.getD i 0 = l2.getD i 0) : l1 = l2 := by
  apply List.ext_getElem hl
  intro i h1 h2
  have := h i h1
  rwa [List.getD_eq_getElem?_getD, List.getD_eq_getElem?_getD, List.getElem?_eq_getElem h1, List.getElem?_eq_getElem h2] at this

set_option maxRecDepth 100000 in
set_option maxHeartbeats 1000000 in
theorem same_any (w : World) (a1 a2 : Option Addr) (c1 c2 : Nat) (l1 l2 : List Nat) (h1 : Held w (.slice a1 l1.length c1) l1) (h2 : Held w (.slice a2 l2.length c2) l2) (hn1 : l1.length ≤ 9223372036854775807) (_hn2 : l2.length ≤ 9223372036854775807) :
    Calls Tryz.prog 24 #[.slice a1 l1.length c1, .slice a2 l2.length c2] w fun e w' => e = .returned (.bool (decide (l1 = l2))) ∧ Chg (fun _ => False) w w' := by
  by_cases hl : l1.length = l2.length
  · have hne : ((l1.length : Int) != (l2.length : Int)) = false := by rw [hl]; simp
    have H1 : Hid (Held w (.slice a1 l1.length c1) l1) := h1
    have H2 : Hid (Held w (.slice a2 l2.length c2) l2) := h2
    have HL : Hid (l1.length = l2.length) := hl
    clear h1 h2 hl
    go_enter Tryz.func24, Tryz.ntmps24
    go_wp2
    go_loopw [5] (fun t wr => ∃ k : Nat, k ≤ l1.length ∧ t = .int .i64 k ∧ Hid (∀ i, i < k → l1.getD i 0 = l2.getD i 0) ∧ Chg (fun _ => False) w wr) (fun t _ => l1.length - (intOf t).toNat)
    case atStart => exact ⟨0, Nat.zero_le _, rfl, fun i hi => absurd hi (Nat.not_lt_zero _), Chg.refl _ _⟩
    case round =>
      obtain ⟨k, hk, rfl, hall, hC⟩ := hrel
      by_cases hlt : k < l1.length
      · have hlt2 : (k : Int) < (l2.length : Int) := by have := HL.out; omega
        obtain ⟨a1', c1', hv1, hc1⟩ := H1.out
        obtain ⟨a2', c2', hv2, hc2⟩ := H2.out
        simp only [Value.slice.injEq] at hv1 hv2
        obtain ⟨g1, o1, ha1, hg1, hc1⟩ := hc1.resolve_left (by omega)
        obtain ⟨g2, o2, ha2, hg2, hc2⟩ := hc2.resolve_left (by omega)
        obtain rfl : a1 = some ⟨g1, o1, none⟩ := hv1.1.trans ha1
        obtain rfl : a2 = some ⟨g2, o2, none⟩ := hv2.1.trans ha2
        have hx1 : wr.cell? ⟨g1, o1 + k, none⟩ = some (.int .u8 (l1.getD k 0 : Nat)) := (hC.cell hg1 (fun f => f) _).trans (hc1 k hlt)
        have hx2 : wr.cell? ⟨g2, o2 + k, none⟩ = some (.int .u8 (l2.getD k 0 : Nat)) := (hC.cell hg2 (fun f => f) _).trans (hc2 k (by omega))
        by_cases he : l1.getD k 0 = l2.getD k 0
        · have hb : (((l1.getD k 0 : Nat) : Int) != ((l2.getD k 0 : Nat) : Int)) = false := by rw [he]; simp
          have hall2 : Hid (∀ i, i < k + 1 → l1.getD i 0 = l2.getD i 0) := fun i hi => by
            by_cases hik : i = k
            · rw [hik]; exact he
            · exact hall i (by omega)
          generalize l1.getD k 0 = x1 at *
          generalize l2.getD k 0 = x2 at *
          clear hc1 hc2 hv1 hv2 ha1 ha2 he
          go_wp2
          go_region
          go_wp2
          exact ⟨⟨k + 1, by omega, by go_num, hall2, hC.drew⟩, by simp [intOf]; omega⟩
        · have hb : (((l1.getD k 0 : Nat) : Int) != ((l2.getD k 0 : Nat) : Int)) = true := by rw [bne_iff_ne]; omega
          have hd : Hid (decide (l1 = l2) = false) := decide_eq_false (fun e => he (by rw [e]))
          generalize l1.getD k 0 = x1 at *
          generalize l2.getD k 0 = x2 at *
          clear hc1 hc2 hv1 hv2 ha1 ha2 he
          go_wp2
          go_region
          go_wp2
          go_ret
          exact ⟨by rw [hd.out]; rfl, hC.drew⟩
      · have hd : Hid (decide (l1 = l2) = true) := decide_eq_true (list_eq_of_getD HL.out (fun i hi => hall i (by omega)))
        go_wp2
        go_ret
        exact ⟨by rw [hd.out]; rfl, hC⟩
  · have hne : ((l1.length : Int) != (l2.length : Int)) = true := by rw [bne_iff_ne]; omega
    have hd : Hid (decide (l1 = l2) = false) := decide_eq_false (fun e => hl (by rw [e]))
    clear hl
    go_enter Tryz.func24, Tryz.ntmps24
    go_wp2
    go_ret
    exact ⟨by rw [hd.out]; rfl, Chg.refl _ _⟩
end Go.Proofs.YtifjmilegogbaaaGreat
namespace Go.Proofs.YtifjmilegogbaaaGreat
open Go.RowKit
set_option maxRecDepth 100000

/-- Block g holds the bytes l, laid out as type t. -/
def Arr (w : World) (g : Nat) (t : TypeId) (l : List Nat) : Prop := w.heap[g]? = some (.cells (bcells l) t)
theorem Arr.cell {w : World} {g : Nat} {t : TypeId} {l : List Nat} (h : Arr w g t l) (i : Nat) (hi : i < l.length) : w.cell? ⟨g, i, none⟩ = some (.int .u8 (l.getD i 0 : Nat)) := by
  have h' : w.heap[g]? = some (.cells (bcells l) t) := h
  simp only [World.cell?, h', bcells_at l i hi]; simp
theorem Arr.frozen {w : World} {g : Nat} {t : TypeId} {l : List Nat} (h : Arr w g t l) (i : Nat) : w.frozen? ⟨g, i, none⟩ = false := by
  have h' : w.heap[g]? = some (.cells (bcells l) t) := h
  simp [World.frozen?, h']
theorem Arr.lt {w : World} {g : Nat} {t : TypeId} {l : List Nat} (h : Arr w g t l) : g < w.heap.size := by
  have h' : w.heap[g]? = some (.cells (bcells l) t) := h
  exact (Array.getElem?_eq_some_iff.1 h').1
theorem Arr.store {w : World} {g : Nat} {t : TypeId} {l : List Nat} (h : Arr w g t l) (i v : Nat) : Arr (w.setCell ⟨g, i, none⟩ (.int .u8 (v : Int))) g t (l.set i v) := by
  have h' : w.heap[g]? = some (.cells (bcells l) t) := h
  show (w.setCell ⟨g, i, none⟩ (.int .u8 (v : Int))).heap[g]? = _
  simp [World.setCell, Array.getElem?_modify, h', bcells_set]
theorem Arr.other {w w' : World} {g : Nat} {t : TypeId} {l : List Nat} (h : Arr w g t l) (e : w'.heap[g]? = w.heap[g]?) : Arr w' g t l := e.trans h
theorem Arr.but {w w' : World} {b g : Nat} {t : TypeId} {l : List Nat} (h : Arr w g t l) (hB : But b w w') (hg : g ≠ b) : Arr w' g t l := (hB.block g h.lt hg).trans h
theorem Arr.drew {w : World} {g : Nat} {t : TypeId} {l : List Nat} (h : Arr w g t l) : Arr w.drew g t l := h
theorem Arr.new (w : World) (t : TypeId) (l : List Nat) : Arr (w.alloc (.cells (bcells l) t)) w.heap.size t l := by
  show (w.heap.push _)[w.heap.size]? = _
  simp
theorem Arr.alloc {w : World} {g : Nat} {t : TypeId} {l : List Nat} (h : Arr w g t l) (o : Obj) : Arr (w.alloc o) g t l := h.other (Below.heap_alloc _ _ _ h.lt)
theorem Arr.setOther {w : World} {g : Nat} {t : TypeId} {l : List Nat} (h : Arr w g t l) {k : Nat} (hg : k ≠ g) (o : Nat) (v : Value) : Arr (w.setCell ⟨k, o, none⟩ v) g t l :=
  h.other (Below.heap_setCell _ _ _ _ (by simp; omega))
theorem Arr.row {w : World} {g : Nat} {t : TypeId} {l : List Nat} (h : Arr w g t l) (l' : List Nat) : Arr (w.setRow g (bcells l')) g t l' := setRow_heap w g _ _ t _ h
theorem Arr.rowOther {w : World} {g : Nat} {t : TypeId} {l : List Nat} (h : Arr w g t l) {k : Nat} (hg : k ≠ g) (c : Array Value) : Arr (w.setRow k c) g t l := h.other (setRow_other _ _ _ _ (fun e => hg e.symm))
theorem But.setRow {b : Nat} {u w : World} (h : But b u w) {g : Nat} (hg : u.heap.size ≤ g) (c : Array Value) : But b u (w.setRow g c) :=
  ⟨h.os, h.tape, h.output, by simp; exact h.size, fun k hk hb => (setRow_other _ _ _ _ (by omega)).trans (h.block k hk hb)⟩
theorem Fld.setRow {w : World} {b : Nat} (h : Fld w b) {g : Nat} (hg : g ≠ b) (c : Array Value) : Fld (w.setRow g c) b := h.other (setRow_other _ _ _ _ (fun e => hg e.symm))
theorem bcells_one (l : List Nat) : (bcells l).all (·.oneCell') = true := by
  rw [Array.all_eq_true_iff_forall_mem]
  intro v hv
  simp only [bcells, List.mem_toArray, List.mem_map] at hv
  obtain ⟨n, _, rfl⟩ := hv
  rfl

/-- The generator's coefficients but the highest. -/
def gl : List Nat := [63, 1, 218, 32, 227, 38]
/-- The places' points. -/
def rl : List Nat := (List.range 64).map rt
theorem rl_length : rl.length = 64 := by simp [rl]
theorem rl_getD (i : Nat) (h : i < 64) : rl.getD i 0 = rt i := by simp [rl, List.getD_eq_getElem?_getD, h]
theorem gl_bys : Bys gl := by intro n hn; simp [gl] at hn; omega
def clist (b : Nat) : List Value := .pointer (some ⟨b, 0, none⟩) :: ((gl ++ rl).map fun (n : Nat) => Value.int .u8 (n : Int))
/-- Block q holds a Codec over the Field in block b, which may be asked. -/
def Cod (w : World) (q b : Nat) : Prop := Fld w b ∧ w.heap[q]? = some (.cells (clist b).toArray 192)
theorem Cod.lt {w : World} {q b : Nat} (h : Cod w q b) : q < w.heap.size := (Array.getElem?_eq_some_iff.1 h.2).1
theorem Cod.ne {w : World} {q b : Nat} (h : Cod w q b) : q ≠ b := by
  intro e
  obtain ⟨h1, h2⟩ := h
  subst e
  rcases h1 with h1 | h1 <;>
  · have h1' : w.heap[q]? = some (.cells (fcells _ _ _) 220) := h1
    rw [h2] at h1'
    simp at h1'
theorem Cod.ptr {w : World} {q b : Nat} (h : Cod w q b) : w.cell? ⟨q, 0, none⟩ = some (.pointer (some ⟨b, 0, none⟩)) := by
  rw [cell_of_row w q 0 _ _ _ h.2]; simp [clist]
theorem Cod.gen {w : World} {q b : Nat} (h : Cod w q b) (i : Nat) (hi : i < 6) : w.cell? ⟨q, 1 + i, none⟩ = some (.int .u8 (gl.getD i 0 : Nat)) := by
  rw [cell_of_row w q _ _ _ _ h.2, Nat.add_comm 1 i]
  have hg : (gl.map fun (n : Nat) => Value.int .u8 (n : Int)).length = 6 := rfl
  have hg2 : i < gl.length := hi
  simp only [clist, List.map_append, List.getElem?_toArray, List.getElem?_cons_succ]
  rw [List.getElem?_append_left (by omega)]
  simp [List.getD_eq_getElem?_getD, List.getElem?_eq_getElem hg2]
theorem Cod.root {w : World} {q b : Nat} (h : Cod w q b) (i : Nat) (hi : i < 64) : w.cell? ⟨q, 7 + i, none⟩ = some (.int .u8 (rt i : Nat)) := by
  rw [cell_of_row w q _ _ _ _ h.2, show 7 + i = (6 + i) + 1 from by omega]
  have hg : (gl.map fun (n : Nat) => Value.int .u8 (n : Int)).length = 6 := rfl
  simp only [clist, List.map_append, List.getElem?_toArray, List.getElem?_cons_succ]
  rw [List.getElem?_append_right (by omega), hg, show 6 + i - 6 = i from by omega]
  simp [rl, hi]
theorem Cod.other {w w' : World} {q b : Nat} (h : Cod w q b) (e1 : w'.heap[b]? = w.heap[b]?) (e2 : w'.heap[q]? = w.heap[q]?) : Cod w' q b := ⟨h.1.other e1, e2.trans h.2⟩
theorem Cod.drew {w : World} {q b : Nat} (h : Cod w q b) : Cod w.drew q b := h
theorem Cod.alloc {w : World} {q b : Nat} (h : Cod w q b) (o : Obj) : Cod (w.alloc o) q b := h.other (Below.heap_alloc _ _ _ h.1.lt) (Below.heap_alloc _ _ _ h.lt)
theorem Cod.but {w w' : World} {q b : Nat} (h : Cod w q b) (hF : Fld w' b) (hB : But b w w') : Cod w' q b := ⟨hF, (hB.block q h.lt h.ne).trans h.2⟩
theorem Cod.setNew {w : World} {q b : Nat} (h : Cod w q b) {g : Nat} (h1 : g ≠ q) (h2 : g ≠ b) (o : Nat) (v : Value) : Cod (w.setCell ⟨g, o, none⟩ v) q b :=
  h.other (Below.heap_setCell _ _ _ _ (by simp; omega)) (Below.heap_setCell _ _ _ _ (by simp; omega))
theorem Cod.setRow {w : World} {q b : Nat} (h : Cod w q b) {g : Nat} (h1 : g ≠ q) (h2 : g ≠ b) (c : Array Value) : Cod (w.setRow g c) q b :=
  h.other (setRow_other _ _ _ _ (by omega)) (setRow_other _ _ _ _ (by omega))

/-- What is left of the syndromes without place i. -/
def wo (s : List Nat) (i k : Nat) : Nat := s.getD (k + 1) 0 ^^^ gm (s.getD k 0) (rt i)
def woL (s : List Nat) (i n : Nat) : List Nat := (List.range 5).map fun k => if k < n then wo s i k else 0
theorem woL_length (s : List Nat) (i n : Nat) : (woL s i n).length = 5 := by simp [woL]
theorem woL_zero (s : List Nat) (i : Nat) : woL s i 0 = List.replicate 5 0 := by simp [woL]; rfl
theorem woL_set (s : List Nat) (i n : Nat) : (woL s i n).set n (wo s i n) = woL s i (n + 1) := by
  apply List.ext_getElem?
  intro k
  by_cases h : n = k
  · subst h
    by_cases h5 : n < 5
    · rw [List.getElem?_set_self (by rw [woL_length]; exact h5)]
      simp [woL, h5]
    · rw [List.getElem?_eq_none (by simp [woL]; omega), List.getElem?_eq_none (by simp [woL]; omega)]
  · rw [List.getElem?_set_ne h]
    by_cases h5 : k < 5
    · simp only [woL, List.getElem?_map, List.getElem?_range h5, Option.map_some]
      congr 1
      by_cases h6 : k < n
      · rw [if_pos h6, if_pos (by omega)]
      · rw [if_neg h6, if_neg (by omega)]
    · rw [List.getElem?_eq_none (by simp [woL]; omega), List.getElem?_eq_none (by simp [woL]; omega)]
theorem wo_lt {s : List Nat} (hs : Bys s) (i k : Nat) : wo s i k < 256 := xor_lt _ _ (hs.getD _) (gm_lt _ _)
theorem woL_getD (s : List Nat) (i k : Nat) (h : k < 5) : (woL s i 5).getD k 0 = wo s i k := by
  simp [woL, List.getD_eq_getElem?_getD, h]
theorem woL_bys {s : List Nat} (hs : Bys s) (i n : Nat) : Bys (woL s i n) := by
  intro x hx
  simp only [woL, List.mem_map, List.mem_range] at hx
  obtain ⟨k, _, rfl⟩ := hx
  split
  · exact wo_lt hs i k
  · decide

theorem cell_set (w : World) (g o k i : Nat) (v : Value) (h : k ≠ g) : (w.setCell ⟨g, o, none⟩ v).cell? ⟨k, i, none⟩ = w.cell? ⟨k, i, none⟩ := World.cell?_of_block (Below.heap_setCell _ _ _ _ (by simpa using h))
theorem wpList_load_arr {ops : Array Oper} {rest : List Oper} {o : Oper} {a : Act} {w : World} {Q : Exit → Act → World → Prop} (hgd : o.guard = none) (ty : TypeId) (x : Operand) (ho : o.op = .load ty x)
    (g : Nat) (hx : a.eval x = .pointer (some ⟨g, 0, none⟩)) {t : TypeId} {l : List Nat} (hg : Arr w g t l) {m : Nat} {el : TypeId} (hu : Tryz.prog.underlying ty = some (.array m el)) {n : Nat} (hi : (Tryz.prog.info? ty).map (·.size) = some n) (hn : l.length = n)
    (h : wpList Tryz.prog ops Q rest (a.put o.dst (.agg (bcells l))) w) : wpList Tryz.prog ops Q (o :: rest) a w :=
  wpList_load_row hgd ty x ho g hx t _ _ _ hg hu rfl (by rw [bcells_size, hn]; exact hi) h
theorem wpList_store_arr {ops : Array Oper} {rest : List Oper} {o : Oper} {a : Act} {w : World} {Q : Exit → Act → World → Prop} (hgd : o.guard = none) (ty : TypeId) (x y : Operand) (ho : o.op = .store ty x y)
    (g : Nat) (l' : List Nat) (hx : a.eval x = .pointer (some ⟨g, 0, none⟩)) (hy : a.eval y = .agg (bcells l')) {t : TypeId} {l : List Nat} (hg : Arr w g t l) {n : Nat} (hi : (Tryz.prog.info? ty).map (·.size) = some n) (hn : l.length = n) (hn' : l'.length = n)
    (h : wpList Tryz.prog ops Q rest (a.put o.dst undef) (w.setRow g (bcells l'))) : wpList Tryz.prog ops Q (o :: rest) a w :=
  wpList_store_row hgd ty x y ho g _ hx hy t _ hg (by rw [bcells_size, hn']; exact hi) (by rw [bcells_size, bcells_size, hn, hn']) (bcells_one l') h
theorem results_arr {fn : Func} {p : Tmp} {ty : TypeId} (h : fn.results = #[.cell p ty]) (tmps : Array Value) {w : World} {g : Nat} {t : TypeId} {l : List Nat} (hg : Arr w g t l) (hp : tmps.getD p undef = .pointer (some ⟨g, 0, none⟩)) {m : Nat} {el : TypeId}
    (hu : Tryz.prog.underlying ty = some (.array m el)) {n : Nat} (hi : (Tryz.prog.info? ty).map (·.size) = some n) (hn : l.length = n) :
    (results fn tmps).run Tryz.prog w = .ok (.agg (bcells l)) w :=
  results_cell_row h tmps w g t _ _ _ hp hg hu rfl (by rw [bcells_size, hn]; exact hi)
theorem zero100 (w : World) : (zeroValue 243).run Tryz.prog w = .ok (.agg (bcells (List.replicate 5 0))) w := by kernel_rfl
theorem zero63 (w : World) : (zeroValue 231).run Tryz.prog w = .ok (.agg (bcells (List.replicate 6 0))) w := by kernel_rfl
theorem zero53 (w : World) : (zeroValue 189).run Tryz.prog w = .ok (.agg (bcells (List.replicate 6 0))) w := by kernel_rfl
theorem zero55 (w : World) : (zeroValue 190).run Tryz.prog w = .ok (.agg (bcells (List.replicate 64 0))) w := by kernel_rfl
theorem size100 : (Tryz.prog.info? 243).map (·.size) = some 5 := by kernel_rfl
theorem size63 : (Tryz.prog.info? 231).map (·.size) = some 6 := by kernel_rfl
theorem size53 : (Tryz.prog.info? 189).map (·.size) = some 6 := by kernel_rfl
theorem size55 : (Tryz.prog.info? 190).map (·.size) = some 64 := by kernel_rfl

set_option maxHeartbeats 2000000 in
theorem without_any (q b : Nat) (w : World) (h : Cod w q b) (s : List Nat) (hs : s.length = 6) (hb : Bys s) (i : Nat) (hi : i < 64) :
    Calls Tryz.prog 153 #[.pointer (some ⟨q, 0, none⟩), .agg (bcells s), .int .i64 i] w fun e w' => e = .returned (.agg (bcells (woL s i 5))) ∧ Cod w' q b ∧ But b w w' := by
  have hz := zero100
  go_enter Tryz.func153, Tryz.ntmps153
  go_wp2_with fail
  go_loopw [9] (fun t wr => ∃ k : Nat, k ≤ 5 ∧ t = .int .i64 k ∧ Arr wr w.heap.size 231 s ∧ Arr wr (w.heap.size + 1) 243 (List.replicate 5 0) ∧ Arr wr (w.heap.size + 1 + 1) 243 (woL s i k) ∧ Cod wr q b ∧ But b w wr) (fun t _ => 5 - (intOf t).toNat)
  case atStart =>
    have h1 := Arr.new w 231 s
    have h2 := Arr.new (w.alloc (.cells (bcells s) 231)) 243 (List.replicate 5 0)
    have h3 := Arr.new ((w.alloc (.cells (bcells s) 231)).alloc (.cells (bcells (List.replicate 5 0)) 243)) 243 (List.replicate 5 0)
    refine ⟨0, by omega, rfl, (h1.alloc _).alloc _, ?_, ?_, ((h.alloc _).alloc _).alloc _, (((But.refl _ _).alloc _).alloc _).alloc _⟩
    · simpa using h2.alloc (.cells (bcells (List.replicate 5 0)) 243)
    · rw [woL_zero]; simpa using h3
  case round =>
    obtain ⟨k, hk, rfl, hA, hR, hO, hC, hB⟩ := hrel
    have hne := hC.ne
    have hq := h.lt
    have hbb := h.1.lt
    by_cases hlt : k < 5
    · have c1 := hA.cell k (by omega)
      have c2 := hA.cell (k + 1) (by omega)
      have c3 := hC.ptr
      have c4 := hC.root i hi
      have d1 := hb.getD k
      have d2 := hb.getD (k + 1)
      have HW : Hid (wo s i k = s.getD (k + 1) 0 ^^^ gm (s.getD k 0) (rt i)) := rfl
      generalize s.getD k 0 = x at *
      generalize s.getD (k + 1) 0 = y at *
      have hr := rt_lt i
      generalize rt i = r at *
      have e1 := u8_xor_nat y (gm x r) d2 (gm_lt _ _)
      have hf := hO.frozen k
      have ho := hO.cell k (by rw [woL_length]; omega)
      have hkb1 : (k : Int) < 5 := by omega
      have hkb2 : (k : Int) + 1 < 6 := by omega
      have hkb3 : (0 : Int) ≤ (k : Int) + 1 := by omega
      have hkb4 : (0 : Int) ≤ (k : Int) := by omega
      have hkb5 : (k : Int) < 6 := by omega
      have hkb6 : (0 : Int) ≤ (i : Int) := by omega
      have hkb7 : (i : Int) < 64 := by omega
      have hgb : w.heap.size + 1 + 1 ≠ b := by omega
      go_wp2_with fail
      have hwr : IntKind.i64.wrap ((k : Int) + 1) = (k : Int) + 1 := by rw [IntKind.wrap_i64]; omega
      have hwt : ((k : Int) + 1).toNat = k + 1 := by omega
      have HWL := woL_set s i k
      have HWL' : Hid ((woL s i k).set k (wo s i k) = woL s i (k + 1)) := HWL
      clear HWL
      have n1 : w.heap.size ≠ w.heap.size + 1 + 1 := by omega
      have n2 : q ≠ w.heap.size + 1 + 1 := by omega
      go_region_held3 (fun wx => wx.cell? ⟨w.heap.size, k, none⟩ = some (.int .u8 (x : Nat)) ∧ wx.cell? ⟨w.heap.size, k + 1, none⟩ = some (.int .u8 (y : Nat)) ∧ wx.cell? ⟨q, 0, none⟩ = some (.pointer (some ⟨b, 0, none⟩)) ∧ wx.cell? ⟨q, 7 + i, none⟩ = some (.int .u8 (r : Nat)))
        (first | exact ⟨c1, c2, c3, c4⟩ | exact ⟨c1', c2', c3', c4'⟩ | exact ⟨(cell_set _ _ _ _ _ _ n1).trans c1', (cell_set _ _ _ _ _ _ n1).trans c2', (cell_set _ _ _ _ _ _ n2).trans c3', (cell_set _ _ _ _ _ _ n2).trans c4'⟩)
        (first | (go_at_call 134; refine (mul_nat b _ ?_ x r d1 hr).mono ?_; (exact hC.1.drew); rintro e w' ⟨rfl, hF', hB'⟩; have hA' : Arr w' w.heap.size 231 s := (hA.drew.but hB' (by omega)); have hR' : Arr w' (w.heap.size + 1) 243 (List.replicate 5 0) := (hR.drew.but hB' (by omega)); have hO' : Arr w' (w.heap.size + 1 + 1) 243 (woL s i k) := (hO.drew.but hB' (by omega)); have hC' : Cod w' q b := (hC.drew.but hF' hB'); have c1' : w'.cell? ⟨w.heap.size, k, none⟩ = some (.int .u8 (x : Nat)) := ((hB'.cell hA.lt (by omega) _).trans c1); have c2' : w'.cell? ⟨w.heap.size, k + 1, none⟩ = some (.int .u8 (y : Nat)) := ((hB'.cell hA.lt (by omega) _).trans c2); have c3' := hC'.ptr; have c4' : w'.cell? ⟨q, 7 + i, none⟩ = some (.int .u8 (r : Nat)) := ((hB'.cell hC.lt hne _).trans c4); have hf' := hO'.frozen k; have ho' := hO'.cell k (by rw [woL_length]; omega)))
      all_goals
        clear hwr hwt c1 c2 c3 c4 hf ho
        have hO2 : Arr (w'.setCell ⟨w.heap.size + 1 + 1, k, none⟩ (.int .u8 ((y ^^^ gm x r : Nat) : Int))) (w.heap.size + 1 + 1) 243 (woL s i (k + 1)) := by
          rw [← HWL'.out, HW.out]; exact hO'.store k _
        go_wp2
        exact ⟨⟨k + 1, by omega, by go_num, hA'.setOther (by omega) _ _, hR'.setOther (by omega) _ _, hO2, hC'.setNew (by omega) (by omega) _ _, ((hB.drew.trans hB').setNew (by omega) _ _)⟩, by simp [intOf]; omega⟩
    · have hO5 : Arr wr (w.heap.size + 1 + 1) 243 (woL s i 5) := by
        have e : k = 5 := by omega
        rw [e] at hO; exact hO
      clear hO
      have hR2 := hR.row (woL s i 5)
      have hC2 : Cod (wr.setRow (w.heap.size + 1) (bcells (woL s i 5))) q b := hC.setRow (by omega) (by omega) _
      have hB2 : But b w (wr.setRow (w.heap.size + 1) (bcells (woL s i 5))) := hB.setRow (by omega) _
      clear hA hC hB
      go_wp2_with (first | (refine wpList_load_arr rfl 243 (.tmp 7) rfl _ rfl hO5 Tryz.underlying243 size100 (woL_length _ _ _) ?_) | (refine wpList_store_arr rfl 243 (.tmp 6) (.tmp 34) rfl _ _ rfl rfl hR size100 rfl (woL_length _ _ _) ?_) | go_in)
      refine bodyPost_ret (results_arr rfl _ hR2 rfl Tryz.underlying243 size100 (woL_length _ _ _)) rfl ⟨rfl, hC2, hB2⟩
end Go.Proofs.YtifjmilegogbaaaGreat
