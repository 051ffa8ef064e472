/-
  A tag that came in, by value. No condition.
-/
import Derived.Test.YtgipkdkhgdaeiaaTag
import Derived.WideShapes
import Derived.ChangeArms
import Derived.OpenShut
import Derived.ProofKit
namespace Go.Proofs.Ytgipkdkhgdaeiaa
open Go.RowKit Go.ChangeShapes Go.WideShapes
set_option maxRecDepth 100000

theorem five {α : Type} {cs : Array α} (h : cs.size = 5) : ∃ c0 c1 c2 c3 c4, cs = #[c0, c1, c2, c3, c4] := by
  obtain ⟨l⟩ := cs
  match l, h with
  | [c0, c1, c2, c3, c4], _ => exact ⟨c0, c1, c2, c3, c4, rfl⟩
theorem cells23 : Try.prog.cellsOf 23 = 5 := by kernel_rfl
theorem cells2 : Try.prog.cellsOf 2 = 1 := by kernel_rfl
theorem cells3 : Try.prog.cellsOf 3 = 1 := by kernel_rfl
theorem cells4 : Try.prog.cellsOf 4 = 1 := by kernel_rfl
theorem tag_in {H : Type} {enc : TypeId × Value → H} {W : World} {r : Reach} {b0 : Nat} {v : Value} {d : DataW H} {p : List MemPlace} (hv : Value.okWide Try.prog W r b0 23 v) (h : DataW.Trod enc Try.prog W 0 (fun _ => true) true 23 v d p) :
    ∃ (pl of sq cp : Int) (ls : Bool), v = .agg #[.int .i64 pl, .int .i64 of, .int .i64 sq, .int .i64 cp, .bool ls] := by
  obtain ⟨cs, rfl, hsz⟩ := okWide_struct Try.underlying23 hv
  obtain ⟨c0, c1, c2, c3, c4, rfl⟩ := five (hsz.trans cells23)
  obtain ⟨fuel, hf⟩ := h
  obtain ⟨xs, n, _, _, _, hlen, hfs⟩ := DataW.trod_struct Try.underlying23 hf
  match xs, hlen with
  | [y0, y1, y2, y3, y4], _ =>
    have g0 := hfs 0 _ rfl
    have g1 := hfs 1 _ rfl
    have g2 := hfs 2 _ rfl
    have g3 := hfs 3 _ rfl
    have g4 := hfs 4 _ rfl
    simp [Value.cells, cells2, cells3, cells4] at g0 g1 g2 g3 g4
    obtain ⟨z0, f0, _, _⟩ := DataW.trod_int (k := .i64) Try.underlying3 g0
    obtain ⟨z1, f1, _, _⟩ := DataW.trod_int (k := .i64) Try.underlying3 g1
    obtain ⟨z2, f2, _, _⟩ := DataW.trod_int (k := .i64) Try.underlying2 g2
    obtain ⟨z3, f3, _, _⟩ := DataW.trod_int (k := .i64) Try.underlying3 g3
    obtain ⟨z4, f4, _⟩ := DataW.trod_bool Try.underlying4 g4
    simp only [List.cons.injEq, and_true] at f0 f1 f2 f3 f4
    exact ⟨z0, z1, z2, z3, z4, by rw [f0, f1, f2, f3, f4]⟩
end Go.Proofs.Ytgipkdkhgdaeiaa
