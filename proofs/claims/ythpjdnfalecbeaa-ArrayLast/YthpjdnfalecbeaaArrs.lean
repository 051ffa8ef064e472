/-
  Arrays of bytes in memory. No condition: lemmas.
-/
import Derived.Test.YthpjdnfalecbeaaMem
import Derived.Laws.Rows
import Derived.Laws.Tables
import Derived.Laws.CopyOwn
import Derived.Deep.RegionWith
namespace Go.Proofs.Ythpjdnfalecbeaa
open Go.RowKit
set_option maxRecDepth 100000

/-- Block g holds the bytes l, laid out as type t. -/
def Arr (w : World) (g : Nat) (t : TypeId) (l : List Nat) : Prop := w.heap[g]? = some (.cells (bcells l) t)
theorem Arr.cell {w : World} {g : Nat} {t : TypeId} {l : List Nat} (h : Arr w g t l) (i : Nat) (hi : i < l.length) : w.cell? ⟨g, i, none⟩ = some (.int .u8 (l.getD i 0 : Nat)) := by
  have h' : w.heap[g]? = some (.cells (bcells l) t) := h
  simp only [World.cell?, h', bcells_at l i hi]; simp
theorem Arr.frozen {w : World} {g : Nat} {t : TypeId} {l : List Nat} (h : Arr w g t l) (i : Nat) : w.frozen? ⟨g, i, none⟩ = false := by
  have h' : w.heap[g]? = some (.cells (bcells l) t) := h
  simp [World.frozen?, h']
theorem Arr.lt {w : World} {g : Nat} {t : TypeId} {l : List Nat} (h : Arr w g t l) : g < w.heap.size := by
  have h' : w.heap[g]? = some (.cells (bcells l) t) := h
  exact (Array.getElem?_eq_some_iff.1 h').1
theorem Arr.store {w : World} {g : Nat} {t : TypeId} {l : List Nat} (h : Arr w g t l) (i v : Nat) : Arr (w.setCell ⟨g, i, none⟩ (.int .u8 (v : Int))) g t (l.set i v) := by
  have h' : w.heap[g]? = some (.cells (bcells l) t) := h
  show (w.setCell ⟨g, i, none⟩ (.int .u8 (v : Int))).heap[g]? = _
  simp [World.setCell, Array.getElem?_modify, h', bcells_set]
theorem Arr.other {w w' : World} {g : Nat} {t : TypeId} {l : List Nat} (h : Arr w g t l) (e : w'.heap[g]? = w.heap[g]?) : Arr w' g t l := e.trans h
theorem Arr.but {w w' : World} {b g : Nat} {t : TypeId} {l : List Nat} (h : Arr w g t l) (hB : But b w w') (hg : g ≠ b) : Arr w' g t l := (hB.block g h.lt hg).trans h
theorem Arr.drew {w : World} {g : Nat} {t : TypeId} {l : List Nat} (h : Arr w g t l) : Arr w.drew g t l := h
theorem Arr.new (w : World) (t : TypeId) (l : List Nat) : Arr (w.alloc (.cells (bcells l) t)) w.heap.size t l := by
  show (w.heap.push _)[w.heap.size]? = _
  simp
theorem Arr.alloc {w : World} {g : Nat} {t : TypeId} {l : List Nat} (h : Arr w g t l) (o : Obj) : Arr (w.alloc o) g t l := h.other (Below.heap_alloc _ _ _ h.lt)
theorem Arr.setOther {w : World} {g : Nat} {t : TypeId} {l : List Nat} (h : Arr w g t l) {k : Nat} (hg : k ≠ g) (o : Nat) (v : Value) : Arr (w.setCell ⟨k, o, none⟩ v) g t l :=
  h.other (Below.heap_setCell _ _ _ _ (by simp; omega))
theorem Arr.row {w : World} {g : Nat} {t : TypeId} {l : List Nat} (h : Arr w g t l) (l' : List Nat) : Arr (w.setRow g (bcells l')) g t l' := setRow_heap w g _ _ t _ h
theorem Arr.rowOther {w : World} {g : Nat} {t : TypeId} {l : List Nat} (h : Arr w g t l) {k : Nat} (hg : k ≠ g) (c : Array Value) : Arr (w.setRow k c) g t l := h.other (setRow_other _ _ _ _ (fun e => hg e.symm))
theorem But.setRow {b : Nat} {u w : World} (h : But b u w) {g : Nat} (hg : u.heap.size ≤ g) (c : Array Value) : But b u (w.setRow g c) :=
  ⟨h.os, h.tape, h.output, by simp; exact h.size, fun k hk hb => (setRow_other _ _ _ _ (by omega)).trans (h.block k hk hb)⟩
theorem bcells_one (l : List Nat) : (bcells l).all (·.oneCell') = true := by
  rw [Array.all_eq_true_iff_forall_mem]
  intro v hv
  simp only [bcells, List.mem_toArray, List.mem_map] at hv
  obtain ⟨n, _, rfl⟩ := hv
  rfl
theorem cell_set (w : World) (g o k i : Nat) (v : Value) (h : k ≠ g) : (w.setCell ⟨g, o, none⟩ v).cell? ⟨k, i, none⟩ = w.cell? ⟨k, i, none⟩ := World.cell?_of_block (Below.heap_setCell _ _ _ _ (by simpa using h))
theorem wpList_load_arr {ops : Array Oper} {rest : List Oper} {o : Oper} {a : Act} {w : World} {Q : Exit → Act → World → Prop} (hgd : o.guard = none) (ty : TypeId) (x : Operand) (ho : o.op = .load ty x)
    (g : Nat) (hx : a.eval x = .pointer (some ⟨g, 0, none⟩)) {t : TypeId} {l : List Nat} (hg : Arr w g t l) {m : Nat} {el : TypeId} (hu : Try.prog.underlying ty = some (.array m el)) {n : Nat} (hi : (Try.prog.info? ty).map (·.size) = some n) (hn : l.length = n)
    (h : wpList Try.prog ops Q rest (a.put o.dst (.agg (bcells l))) w) : wpList Try.prog ops Q (o :: rest) a w :=
  wpList_load_row hgd ty x ho g hx t _ _ _ hg hu rfl (by rw [bcells_size, hn]; exact hi) h
theorem wpList_store_arr {ops : Array Oper} {rest : List Oper} {o : Oper} {a : Act} {w : World} {Q : Exit → Act → World → Prop} (hgd : o.guard = none) (ty : TypeId) (x y : Operand) (ho : o.op = .store ty x y)
    (g : Nat) (l' : List Nat) (hx : a.eval x = .pointer (some ⟨g, 0, none⟩)) (hy : a.eval y = .agg (bcells l')) {t : TypeId} {l : List Nat} (hg : Arr w g t l) {n : Nat} (hi : (Try.prog.info? ty).map (·.size) = some n) (hn : l.length = n) (hn' : l'.length = n)
    (h : wpList Try.prog ops Q rest (a.put o.dst undef) (w.setRow g (bcells l'))) : wpList Try.prog ops Q (o :: rest) a w :=
  wpList_store_row hgd ty x y ho g _ hx hy t _ hg (by rw [bcells_size, hn']; exact hi) (by rw [bcells_size, bcells_size, hn, hn']) (bcells_one l') h
theorem results_arr {fn : Func} {p : Tmp} {ty : TypeId} (h : fn.results = #[.cell p ty]) (tmps : Array Value) {w : World} {g : Nat} {t : TypeId} {l : List Nat} (hg : Arr w g t l) (hp : tmps.getD p undef = .pointer (some ⟨g, 0, none⟩)) {m : Nat} {el : TypeId}
    (hu : Try.prog.underlying ty = some (.array m el)) {n : Nat} (hi : (Try.prog.info? ty).map (·.size) = some n) (hn : l.length = n) :
    (results fn tmps).run Try.prog w = .ok (.agg (bcells l)) w :=
  results_cell_row h tmps w g t _ _ _ hp hg hu rfl (by rw [bcells_size, hn]; exact hi)
/-- src is laid over cur from place off on. -/
def lay (cur : List Nat) (off : Nat) (src : List Nat) : List Nat := cur.take off ++ (src ++ cur.drop (off + src.length))
theorem lay_length {cur : List Nat} {off : Nat} {src : List Nat} (h : off + src.length ≤ cur.length) : (lay cur off src).length = cur.length := by simp [lay]; omega
theorem lay_row (cur : List Nat) (off : Nat) (src : List Nat) :
    ((bcells cur).toList.take off ++ ((src.map fun (n : Nat) => Value.int .u8 (n : Int)) ++ (bcells cur).toList.drop (off + (src.map fun (n : Nat) => Value.int .u8 (n : Int)).length))).toArray = bcells (lay cur off src) := by
  simp [bcells, lay, List.map_take, List.map_drop]
theorem src_cells {w : World} {c o : Nat} {src : List Nat} (h : ∀ j, j < src.length → w.cell? ⟨c, o + j, none⟩ = some (.int .u8 (src.getD j 0 : Nat))) :
    ∀ j v, (src.map fun (n : Nat) => Value.int .u8 (n : Int))[j]? = some v → w.cell? ((⟨c, o, none⟩ : Addr).add j) = some v := by
  intro j v hv
  have hadd : (⟨c, o, none⟩ : Addr).add j = ⟨c, o + j, none⟩ := by unfold Addr.add; split <;> simp_all
  rw [hadd]
  by_cases hj : j < src.length
  · rw [h j hj, ← hv]
    simp [List.getD_eq_getElem?_getD, List.getElem?_eq_getElem hj]
  · rw [List.getElem?_eq_none (by simp; omega)] at hv; cases hv
theorem one_cells (src : List Nat) : ∀ v ∈ src.map (fun (n : Nat) => Value.int .u8 (n : Int)), v.oneCell' = true := by
  intro v hv
  obtain ⟨n, _, rfl⟩ := List.mem_map.1 hv
  rfl
theorem size5 : (Try.prog.info? 5).map (·.size) = some 1 := by kernel_rfl
theorem wpList_copy_arr {w : World} {ops : Array Oper} {rest : List Oper} {o : Oper} {a : Act} {Q : Exit → Act → World → Prop} (hgd : o.guard = none) (d s : Operand)
    (ho : o.op = .call { callee := .builtin .copy, args := #[d, s], argTypes := #[36, 36] }) (g off dLen dCap c oo sLen sCap : Nat) (hd : a.eval d = .slice (some ⟨g, off, none⟩) dLen dCap) (hs : a.eval s = .slice (some ⟨c, oo, none⟩) sLen sCap)
    {t : TypeId} {cur : List Nat} (hg : Arr w g t cur) (src : List Nat) (hn : src.length = Nat.min sLen dLen) (hsrc : ∀ j, j < src.length → w.cell? ⟨c, oo + j, none⟩ = some (.int .u8 (src.getD j 0 : Nat))) (hfit : off + src.length ≤ cur.length)
    (h : wpList Try.prog ops Q rest (a.put o.dst (goInt src.length)) (w.setRow g (bcells (lay cur off src)))) : wpList Try.prog ops Q (o :: rest) a w := by
  refine wpList_copy_own hgd d s 36 36 ho 5 Try.underlying36 size5 g off dLen dCap ⟨c, oo, none⟩ sLen sCap hd hs (bcells cur) t hg (src.map fun (n : Nat) => Value.int .u8 (n : Int)) (by simpa using hn) (src_cells hsrc) (by simpa [bcells_size] using hfit) (one_cells src) ?_
  rw [lay_row, List.length_map]
  exact h
theorem lay_all (cur src : List Nat) (h : cur.length = src.length) : lay cur 0 src = src := by
  simp [lay, h]
theorem Arr.held {w : World} {g : Nat} {t : TypeId} {l : List Nat} (h : Arr w g t l) (off n cap : Nat) (l' : List Nat) (hn : n = l'.length) (ho : off + l'.length ≤ l.length) (he : ∀ i, i < l'.length → l.getD (off + i) 0 = l'.getD i 0) : Held w (.slice (some ⟨g, off, none⟩) n cap) l' := by
  subst hn
  exact ⟨_, cap, rfl, Or.inr ⟨g, off, rfl, h.lt, fun i hi => by rw [h.cell _ (by omega), he i hi]⟩⟩
theorem Arr.chg {S : Nat → Prop} {w w' : World} {g : Nat} {t : TypeId} {l : List Nat} (h : Arr w g t l) (hc : Chg S w w') (hg : ¬ S g) : Arr w' g t l := (hc.block g h.lt hg).trans h
end Go.Proofs.Ythpjdnfalecbeaa
