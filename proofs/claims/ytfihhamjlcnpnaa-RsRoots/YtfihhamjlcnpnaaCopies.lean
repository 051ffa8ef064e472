/-
  Bytes that are copied into an array in memory; results of which the first lies in memory. Condition: the bytes can be read, the array has room.
-/
import Derived.Test.YtfihhamjlcnpnaaCod
import Derived.Laws.CopyOwn
namespace Go.Proofs.Ytfihhamjlcnpnaa
open Go.RowKit
set_option maxRecDepth 100000

/-- src is laid over cur from place off on. -/
def lay (cur : List Nat) (off : Nat) (src : List Nat) : List Nat := cur.take off ++ (src ++ cur.drop (off + src.length))
theorem lay_length {cur : List Nat} {off : Nat} {src : List Nat} (h : off + src.length ≤ cur.length) : (lay cur off src).length = cur.length := by simp [lay]; omega
theorem lay_row (cur : List Nat) (off : Nat) (src : List Nat) :
    ((bcells cur).toList.take off ++ ((src.map fun (n : Nat) => Value.int .u8 (n : Int)) ++ (bcells cur).toList.drop (off + (src.map fun (n : Nat) => Value.int .u8 (n : Int)).length))).toArray = bcells (lay cur off src) := by
  simp [bcells, lay, List.map_take, List.map_drop]
theorem src_cells {w : World} {c o : Nat} {src : List Nat} (h : ∀ j, j < src.length → w.cell? ⟨c, o + j, none⟩ = some (.int .u8 (src.getD j 0 : Nat))) :
    ∀ j v, (src.map fun (n : Nat) => Value.int .u8 (n : Int))[j]? = some v → w.cell? ((⟨c, o, none⟩ : Addr).add j) = some v := by
  intro j v hv
  have hadd : (⟨c, o, none⟩ : Addr).add j = ⟨c, o + j, none⟩ := by unfold Addr.add; split <;> simp_all
  rw [hadd]
  by_cases hj : j < src.length
  · rw [h j hj, ← hv]
    simp [List.getD_eq_getElem?_getD, List.getElem?_eq_getElem hj]
  · rw [List.getElem?_eq_none (by simp; omega)] at hv; cases hv
theorem one_cells (src : List Nat) : ∀ v ∈ src.map (fun (n : Nat) => Value.int .u8 (n : Int)), v.oneCell' = true := by
  intro v hv
  obtain ⟨n, _, rfl⟩ := List.mem_map.1 hv
  rfl
theorem size5 : (Try.prog.info? 5).map (·.size) = some 1 := by kernel_rfl
theorem wpList_copy_arr {w : World} {ops : Array Oper} {rest : List Oper} {o : Oper} {a : Act} {Q : Exit → Act → World → Prop} (hgd : o.guard = none) (d s : Operand)
    (ho : o.op = .call { callee := .builtin .copy, args := #[d, s], argTypes := #[22, 22] }) (g off dLen dCap c oo sLen sCap : Nat) (hd : a.eval d = .slice (some ⟨g, off, none⟩) dLen dCap) (hs : a.eval s = .slice (some ⟨c, oo, none⟩) sLen sCap)
    {t : TypeId} {cur : List Nat} (hg : Arr w g t cur) (src : List Nat) (hn : src.length = Nat.min sLen dLen) (hsrc : ∀ j, j < src.length → w.cell? ⟨c, oo + j, none⟩ = some (.int .u8 (src.getD j 0 : Nat))) (hfit : off + src.length ≤ cur.length)
    (h : wpList Try.prog ops Q rest (a.put o.dst (goInt src.length)) (w.setRow g (bcells (lay cur off src)))) : wpList Try.prog ops Q (o :: rest) a w := by
  refine wpList_copy_own hgd d s 22 22 ho 5 Try.underlying22 size5 g off dLen dCap ⟨c, oo, none⟩ sLen sCap hd hs (bcells cur) t hg (src.map fun (n : Nat) => Value.int .u8 (n : Int)) (by simpa using hn) (src_cells hsrc) (by simpa [bcells_size] using hfit) (one_cells src) ?_
  rw [lay_row, List.length_map]
  exact h
theorem results_arr3 {fn : Func} {p u v : Tmp} {ty : TypeId} (h : fn.results = #[.cell p ty, .tmp u, .tmp v]) (tmps : Array Value) {w : World} {g : Nat} {t : TypeId} {l : List Nat} (hg : Arr w g t l) (hp : tmps.getD p undef = .pointer (some ⟨g, 0, none⟩)) {m : Nat} {el : TypeId}
    (hu : Try.prog.underlying ty = some (.array m el)) {n : Nat} (hi : (Try.prog.info? ty).map (·.size) = some n) (hn : l.length = n) :
    (results fn tmps).run Try.prog w = .ok (.tuple #[.agg (bcells l), tmps.getD u undef, tmps.getD v undef]) w := by
  have hp' : tmps[p]?.getD undef = .pointer (some ⟨g, 0, none⟩) := by simpa using hp
  have hl := run_loadVar_row (P := Try.prog) w g t ty (bcells l) _ _ hg hu rfl (by rw [bcells_size, hn]; exact hi)
  simp [results, h, hp', asAddr, hl]
/-- Sixty-four noughts. -/
def z64 : List Nat := List.replicate 64 0
theorem z64_length : z64.length = 64 := by simp [z64]
theorem zero55' (w : World) : (zeroValue 55).run Try.prog w = .ok (.agg (bcells z64)) w := zero55 w
theorem lay_all (cur src : List Nat) (h : cur.length = src.length) : lay cur 0 src = src := by
  simp [lay, h]
end Go.Proofs.Ytfihhamjlcnpnaa
