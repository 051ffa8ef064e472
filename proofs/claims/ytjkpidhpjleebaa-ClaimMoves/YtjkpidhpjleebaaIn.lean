/-
  A checkpoint by value, and a slice of founds, that came in. No condition.
-/
import Derived.Test.YtjkpidhpjleebaaNext
import Derived.Deep.SlicePairs
import Derived.SizedLaws
import Derived.WideShapes
import Derived.ChangeArms
import Derived.OpenShut
import Derived.ProofKit
namespace Go.Proofs.Ytjkpidhpjleebaa
open Go.RowKit Go.ChangeShapes Go.WideShapes
set_option maxRecDepth 100000

theorem wf_i64 {z : Int} (h : (Lit.int .i64 z).wf = true) : -9223372036854775808 ≤ z ∧ z ≤ 9223372036854775807 := by
  simpa [Lit.wf, IntKind.min, IntKind.max, IntKind.bits, IntKind.signed] using h
theorem coc2 : Try.prog.cellsOf 2 = 1 := by kernel_rfl
theorem coc3 : Try.prog.cellsOf 3 = 1 := by kernel_rfl
theorem coc4 : Try.prog.cellsOf 4 = 1 := by kernel_rfl
theorem coc32 : Try.prog.cellsOf 32 = 24 := by kernel_rfl
theorem coc33 : Try.prog.cellsOf 33 = 12 := by kernel_rfl
theorem coc34 : Try.prog.cellsOf 34 = 12 := by kernel_rfl
theorem coc36 : Try.prog.cellsOf 36 = 62 := by kernel_rfl
/-- The ints of a list of cells. -/
def intAt (cs : List Value) (i : Nat) : Int := match cs[i]? with | some (.int _ z) => z | _ => 0
def boolAt (cs : List Value) (i : Nat) : Bool := match cs[i]? with | some (.bool z) => z | _ => false
theorem take_one {cs : List Value} {i : Nat} {v : Value} (h : (cs.drop i).take 1 = [v]) : cs[i]? = some v := by
  have := congrArg (fun x => x[0]?) h
  simpa using this
section
variable {H : Type} {enc : TypeId × Value → H} {W : World} {base : Nat} {spare : Nat → Bool} {held : Bool} {m : Nat} {x : DataW H × List MemPlace}
theorem ints_in {t e : TypeId} {n : Nat} (hu : Try.prog.underlying t = some (.array n e)) (he : Try.prog.underlying e = some (.int .i64)) (hc : Try.prog.cellsOf e = 1) (ht : Try.prog.cellsOf t = n) {cs : List Value} (h : DataW.trod enc Try.prog W base spare held m t cs = some x) :
    cs = ints (intAt cs) n ∧ ∀ i, i < n → -9223372036854775808 ≤ intAt cs i ∧ intAt cs i ≤ 9223372036854775807 := by
  obtain ⟨xs, k, _, _, hl, hlen, hf⟩ := DataW.trod_array hu h
  have hcell : ∀ i, i < n → ∃ z, cs[i]? = some (.int .i64 z) ∧ -9223372036854775808 ≤ z ∧ z ≤ 9223372036854775807 := by
    intro i hi
    have := hf i hi
    rw [hc, Nat.mul_one, List.getElem?_eq_getElem (by omega)] at this
    obtain ⟨z, h1, _, h3⟩ := DataW.trod_int (k := .i64) he this
    exact ⟨z, take_one h1, wf_i64 h3⟩
  refine ⟨?_, fun i hi => ?_⟩
  · apply List.ext_getElem?
    intro i
    by_cases hi : i < n
    · obtain ⟨z, h1, _⟩ := hcell i hi
      rw [ints_at _ _ _ hi, h1]
      simp [intAt, h1, i6]
    · rw [List.getElem?_eq_none (by omega), List.getElem?_eq_none (by rw [ints_length]; omega)]
  · obtain ⟨z, h1, h2⟩ := hcell i hi
    simpa [intAt, h1] using h2
theorem bools_in {cs : List Value} (h : DataW.trod enc Try.prog W base spare held m 33 cs = some x) : cs = bools (boolAt cs) 12 := by
  obtain ⟨xs, k, _, _, hl, hlen, hf⟩ := DataW.trod_array Try.underlying33 h
  rw [coc33] at hl
  apply List.ext_getElem?
  intro i
  by_cases hi : i < 12
  · have := hf i hi
    rw [coc4, Nat.mul_one, List.getElem?_eq_getElem (by omega)] at this
    obtain ⟨z, h1, _⟩ := DataW.trod_bool Try.underlying4 this
    have h2 := take_one h1
    rw [bools_at _ _ _ hi, h2]
    simp [boolAt, h2]
  · rw [List.getElem?_eq_none (by omega), List.getElem?_eq_none (by rw [bools_length]; omega)]
end
theorem six (L : List Value) (h : L.length = 62) : L = L.take 24 ++ ((L.drop 24).take 1 ++ ((L.drop 25).take 12 ++ ((L.drop 37).take 1 ++ ((L.drop 38).take 12 ++ (L.drop 50).take 12)))) := by
  have e5 : (L.drop 50).take 12 = L.drop 50 := List.take_of_length_le (by rw [List.length_drop]; omega)
  have st : ∀ a b, (L.drop a).take b ++ L.drop (a + b) = L.drop a := fun a b => by
    have := List.take_append_drop b (L.drop a)
    rwa [List.drop_drop] at this
  rw [e5, st 38 12, st 37 1, st 25 12, st 24 1, List.take_append_drop]
theorem ck_in {H : Type} {enc : TypeId × Value → H} {W : World} {r : Reach} {b0 : Nat} {v : Value} {d : DataW H} {p : List MemPlace} (hv : Value.okWide Try.prog W r b0 36 v) (h : DataW.Trod enc Try.prog W 0 (fun _ => true) true 36 v d p) :
    ∃ c : Ckp, v = .agg (ckA c) ∧ Wfc c := by
  obtain ⟨cs, rfl, hsz⟩ := okWide_struct Try.underlying36 hv
  obtain ⟨fuel, hf⟩ := h
  obtain ⟨xs, n, _, _, hl, hlen, hfs⟩ := DataW.trod_struct Try.underlying36 hf
  rw [coc36] at hsz
  match xs, hlen with
  | [y0, y1, y2, y3, y4, y5], _ =>
    have g0 : DataW.trod enc Try.prog W 0 (fun _ => true) true n 32 (cs.toList.take 24) = some y0 := by
      have := hfs 0 _ rfl
      simpa [Value.cells, coc32] using this
    have g1 : DataW.trod enc Try.prog W 0 (fun _ => true) true n 2 ((cs.toList.drop 24).take 1) = some y1 := by
      have := hfs 1 _ rfl
      simpa [Value.cells, coc2] using this
    have g2 : DataW.trod enc Try.prog W 0 (fun _ => true) true n 33 ((cs.toList.drop 25).take 12) = some y2 := by
      have := hfs 2 _ rfl
      simpa [Value.cells, coc33] using this
    have g3 : DataW.trod enc Try.prog W 0 (fun _ => true) true n 3 ((cs.toList.drop 37).take 1) = some y3 := by
      have := hfs 3 _ rfl
      simpa [Value.cells, coc3] using this
    have g4 : DataW.trod enc Try.prog W 0 (fun _ => true) true n 34 ((cs.toList.drop 38).take 12) = some y4 := by
      have := hfs 4 _ rfl
      simpa [Value.cells, coc34] using this
    have g5 : DataW.trod enc Try.prog W 0 (fun _ => true) true n 34 ((cs.toList.drop 50).take 12) = some y5 := by
      have := hfs 5 _ rfl
      simpa [Value.cells, coc34] using this
    obtain ⟨a0, b0⟩ := ints_in Try.underlying32 Try.underlying2 coc2 coc32 g0
    obtain ⟨z1, a1, _, b1⟩ := DataW.trod_int (k := .i64) Try.underlying2 g1
    have a2 := bools_in g2
    obtain ⟨z3, a3, _, b3⟩ := DataW.trod_int (k := .i64) Try.underlying3 g3
    obtain ⟨a4, b4⟩ := ints_in Try.underlying34 Try.underlying3 coc3 coc34 g4
    obtain ⟨a5, b5⟩ := ints_in Try.underlying34 Try.underlying3 coc3 coc34 g5
    refine ⟨⟨intAt (cs.toList.take 24), z1, boolAt ((cs.toList.drop 25).take 12), z3, intAt ((cs.toList.drop 38).take 12), intAt ((cs.toList.drop 50).take 12)⟩, ?_, ⟨b0, wf_i64 b1⟩⟩
    have e := six cs.toList (by simpa using hsz)
    rw [a0, a1, a2, a3, a4, a5] at e
    congr 1
    apply Array.ext'
    exact e
theorem addr_at (g o j : Nat) : (⟨g, o, none⟩ : Addr).add j = ⟨g, o + j, none⟩ := by unfold Addr.add; split <;> simp_all
theorem founds_in {H : Type} {enc : TypeId × Value → H} {W : World} {a : Option Addr} {len cap : Nat} {d : DataW H} {p : List MemPlace}
    (h : DataW.Trod enc Try.prog W 0 (fun _ => true) true 24 (.slice a len cap) d p) (hw : ∀ x ∈ d.weights Try.prog 24, x ≤ reachBytes) : ∃ l, Sl W (.slice a len cap) l ∧ len = l.length ∧ len * 48 ≤ 140737488351232 ∧ (a = none → len = 0 ∧ cap = 0) := by
  have ce : Try.prog.cellsOf 28 = 6 := by kernel_rfl
  have c26 : Try.prog.cellsOf 26 = 5 := by kernel_rfl
  have be : Try.prog.bytesOf 28 = 48 := by kernel_rfl
  obtain ⟨fuel, hf⟩ := h
  rcases Go.Deep.open_slice Try.underlying24 hf with ⟨hcs, _⟩ | ⟨x, l, c, m, n, D, Pl, hcs, _, hl, hm, hmm, hx, hel⟩
  · simp [Value.cells] at hcs
    obtain ⟨rfl, rfl, rfl⟩ := hcs
    exact ⟨[], Sl.nil _ _ _, rfl, by decide, fun _ => ⟨rfl, rfl⟩⟩
  · simp [Value.cells] at hcs
    obtain ⟨rfl, rfl, rfl⟩ := hcs
    have hmc : m = cap := by simpa using hmm
    subst hmc
    simp only [Prod.mk.injEq] at hx
    obtain ⟨rfl, -⟩ := hx
    have hby : len * 48 ≤ 140737488351232 := by
      have := hw ((len + (m - len)) * 48) (by simp [DataW.weights, Try.underlying24, be])
      unfold reachBytes at this
      omega
    have each : ∀ i, i < len → ∃ f : Fnd, W.cell? (x.add (i * 6)) = some (.int .i64 f.P) ∧ W.cell? (x.add (i * 6 + 1)) = some (.int .i64 f.T) ∧ W.cell? (x.add (i * 6 + 2)) = some (.int .i64 f.O) ∧ W.cell? (x.add (i * 6 + 3)) = some (.int .i64 f.S) ∧ W.cell? (x.add (i * 6 + 4)) = some (.int .i64 f.C) ∧ W.cell? (x.add (i * 6 + 5)) = some (.bool f.L) := by
      intro i hi
      obtain ⟨cs', h1, h2⟩ := hel i (by omega)
      rw [ce] at h1
      obtain ⟨_, hln, hcell⟩ := World.cells?_some h1
      obtain ⟨xs, k, hk, hxy, _, hxl, hfs⟩ := DataW.trod_struct Try.underlying28 h2
      match xs, hxl, cs', hln with
      | [y0, y1], _, [v0, v1, v2, v3, v4, v5], _ =>
        have g0 := hfs 0 _ rfl
        have g1 := hfs 1 _ rfl
        simp [coc3, c26] at g0 g1
        have e0 := hcell 0 (by omega)
        have e1 := hcell 1 (by omega)
        have e2 := hcell 2 (by omega)
        have e3 := hcell 3 (by omega)
        have e4 := hcell 4 (by omega)
        have e5 := hcell 5 (by omega)
        rw [Go.Deep.add_add] at e0 e1 e2 e3 e4 e5
        simp at e0 e1 e2 e3 e4 e5
        obtain ⟨z0, f0, _, wz0⟩ := DataW.trod_int (k := .i64) Try.underlying3 g0
        obtain ⟨ys, k', hk', hxy', _, hyl, hgs⟩ := DataW.trod_struct Try.underlying26 g1
        match ys, hyl with
        | [u0, u1, u2, u3, u4], _ =>
          have j0 := hgs 0 _ rfl
          have j1 := hgs 1 _ rfl
          have j2 := hgs 2 _ rfl
          have j3 := hgs 3 _ rfl
          have j4 := hgs 4 _ rfl
          simp [coc3, coc2, coc4] at j0 j1 j2 j3 j4
          obtain ⟨z1, f1, _, wz1⟩ := DataW.trod_int (k := .i64) Try.underlying3 j0
          obtain ⟨z2, f2, _, wz2⟩ := DataW.trod_int (k := .i64) Try.underlying3 j1
          obtain ⟨z3, f3, _, wz3⟩ := DataW.trod_int (k := .i64) Try.underlying2 j2
          obtain ⟨z4, f4, _, wz4⟩ := DataW.trod_int (k := .i64) Try.underlying3 j3
          obtain ⟨z5, f5, _⟩ := DataW.trod_bool Try.underlying4 j4
          simp only [List.cons.injEq, and_true] at f0 f1 f2 f3 f4 f5
          exact ⟨⟨z0, z1, z2, z3, z4, z5⟩, by rw [e0, f0], by rw [e1, f1], by rw [e2, f2], by rw [e3, f3], by rw [e4, f4], by rw [e5, f5]⟩
    obtain ⟨F, hF⟩ := Go.Deep.choose_lt each
    refine ⟨(List.range len).map F, ⟨some x, m, by simp, by simpa using hl, ?_⟩, by simp, hby, fun h => by cases h⟩
    by_cases h0 : len = 0
    · exact Or.inl (by simp [h0])
    · right
      obtain ⟨g, o, spot⟩ := x
      have hspot : spot = none := by simpa [Addr.add] using World.cell?_spot (hF 0 (by omega)).1
      subst hspot
      have hlt : g < W.heap.size := by
        have := (hF 0 (by omega)).1
        rw [addr_at] at this
        obtain ⟨c, e, fr, hb, _⟩ := Go.Sort.cells_of_cell? this
        exact (Array.getElem?_eq_some_iff.1 hb).1
      refine ⟨g, o, rfl, hlt, fun i f hi j v hv => ?_⟩
      have hil : i < len := by have := (List.getElem?_eq_some_iff.1 hi).1; simpa using this
      have e : F i = f := by simpa [hil] using hi
      subst e
      obtain ⟨k0, k1, k2, k3, k4, k5⟩ := hF i hil
      rw [addr_at] at k0 k1 k2 k3 k4 k5
      match j, hv with
      | 0, hv => cases hv; exact k0
      | 1, hv => cases hv; rw [Nat.add_assoc]; exact k1
      | 2, hv => cases hv; rw [Nat.add_assoc]; exact k2
      | 3, hv => cases hv; rw [Nat.add_assoc]; exact k3
      | 4, hv => cases hv; rw [Nat.add_assoc]; exact k4
      | 5, hv => cases hv; rw [Nat.add_assoc]; exact k5
end Go.Proofs.Ytjkpidhpjleebaa
