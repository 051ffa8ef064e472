/-
  Slices of bytes that came in, as lists of numbers. No condition.
-/
import Derived.Test.YthpjdnfalecbeaaBase
import Derived.OpenShut
namespace Go.Proofs.Ythpjdnfalecbeaa
set_option maxRecDepth 100000
open Go.RowKit

/-- A slice of integers that came in: it is nil; or it leads to a row of 'cap' cells, the numbers 'zs' (the first 'len' are its elements, the rest its spare room), each fitting its kind. -/
def IsRow (k : IntKind) (w : World) (a : Option Addr) (len cap : Nat) (zs : List Int) : Prop :=
  (a = none ∧ len = 0 ∧ cap = 0 ∧ zs = []) ∨
  ∃ x, a = some x ∧ len ≤ cap ∧ cap ≤ maxLen ∧ zs.length = cap ∧ (∀ i, i < zs.length → w.cell? (x.add i) = some (.int k (zs.getD i 0))) ∧ ∀ n ∈ zs, (Lit.int k n).wf = true

theorem cell_lt {w : World} {a : Addr} {v : Value} (h : w.cell? a = some v) : a.block < w.heap.size := by
  by_cases hb : a.block < w.heap.size
  · exact hb
  · rw [World.cell?, Array.getElem?_eq_none (by omega)] at h; cases h
theorem rd_of_row {w : World} {a : Option Addr} {len cap : Nat} {zs : List Int} (h : IsRow .u8 w a len cap zs) :
    ∃ l : List Nat, l.length = len ∧ len ≤ cap ∧ (a = none → len = 0 ∧ cap = 0) ∧ ∀ b, w.heap.size ≤ b → Rd w b a l := by
  rcases h with ⟨rfl, rfl, rfl, rfl⟩ | ⟨x, rfl, hl, hm, hz, hcell, hwz⟩
  · exact ⟨[], rfl, Nat.le_refl _, fun _ => ⟨rfl, rfl⟩, fun b _ => ⟨fun n hn => (by cases hn), Or.inl rfl⟩⟩
  · refine ⟨(zs.take len).map Int.toNat, by simp; omega, hl, fun h => (by cases h), fun b hb => ⟨?_, ?_⟩⟩
    · intro n hn
      obtain ⟨z, hz1, rfl⟩ := List.mem_map.1 hn
      have := bounds_u8 (hwz z (List.mem_of_mem_take hz1))
      omega
    · by_cases h0 : len = 0
      · left; subst h0; rfl
      · right
        obtain ⟨c, o, spot⟩ := x
        have hspot : spot = none := by simpa [Addr.add] using World.cell?_spot (hcell 0 (by omega))
        subst hspot
        have hlt : c < w.heap.size := by simpa [Addr.add] using cell_lt (hcell 0 (by omega))
        refine ⟨c, o, rfl, by omega, hlt, fun i hi => ?_⟩
        have hi' : i < len := by simp at hi; omega
        have h1 : w.cell? ⟨c, o + i, none⟩ = some (.int .u8 (zs.getD i 0)) := by
          have hh := hcell i (by omega)
          simp only [Addr.add] at hh
          by_cases i0 : i = 0
          · subst i0; simpa using hh
          · simpa [i0] using hh
        rw [h1]
        have hb1 := bounds_u8 (hwz (zs.getD i 0) (by rw [List.getD_eq_getElem?_getD, List.getElem?_eq_getElem (by omega)]; exact List.getElem_mem _))
        have e : ((zs.take len).map Int.toNat).getD i 0 = (zs.getD i 0).toNat := by
          rw [List.getD_eq_getElem?_getD, List.getElem?_map, List.getElem?_take_of_lt hi', List.getD_eq_getElem?_getD, List.getElem?_eq_getElem (by omega)]; rfl
        rw [e]
        congr 2
        omega
end Go.Proofs.Ythpjdnfalecbeaa
