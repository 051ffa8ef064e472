/-
  NandCuts, its integers as they come in. No condition.
-/
import Derived.Test.YtfjgnplplafniaaCutsWalk
import Derived.Test.YtfjgnplplafniaaRowsIn
namespace Go.Proofs.Ytfjgnplplafniaa
open Go.RowKit
set_option maxRecDepth 100000

theorem ints_of_row {w : World} {a : Option Addr} {len cap : Nat} {zs : List Int} (h : IsRow .i64 w a len cap zs) : IsInts w a len (fun i => zs.getD i 0) ∧ len < 9223372036854775808 := by
  rcases h with ⟨rfl, rfl, rfl, rfl⟩ | ⟨x, rfl, hl, hm, hz, hcell, hwz⟩
  · exact ⟨⟨fun i hi => absurd hi (Nat.not_lt_zero _), Or.inl rfl⟩, by decide⟩
  · refine ⟨⟨fun i hi => ?_, ?_⟩, by unfold maxLen at hm; omega⟩
    · exact bounds_i64 (hwz (zs.getD i 0) (by rw [List.getD_eq_getElem?_getD, List.getElem?_eq_getElem (by omega)]; exact List.getElem_mem _))
    · by_cases h0 : len = 0
      · exact Or.inl h0
      · right
        obtain ⟨c, o, spot⟩ := x
        have hspot : spot = none := by simpa [Addr.add] using World.cell?_spot (hcell 0 (by omega))
        subst hspot
        have hlt : c < w.heap.size := by simpa [Addr.add] using cell_lt (hcell 0 (by omega))
        refine ⟨c, o, rfl, hlt, fun i hi => ?_⟩
        have hh := hcell i (by omega)
        rw [Addr.add_mid] at hh
        exact hh
theorem nandCuts_in (b : Int) (a : Option Addr) (len cap : Nat) (zs : List Int) (w : World) (hb : (Lit.int .i64 b).wf = true) (h : IsRow .i64 w a len cap zs) :
    Calls Try.prog 4 #[.int .i64 b, .slice a len cap] w fun e w' => e = .returned (.bool true) ∧ Below w.heap.size w w' := by
  have h1 := bounds_i64 hb
  obtain ⟨h2, h3⟩ := ints_of_row h
  exact nandCuts_walk b a len cap _ h1.1 h1.2 h3 w h2
end Go.Proofs.Ytfjgnplplafniaa
