/-
  From what the rows list of the package-level variables to what the walks take. No condition: lemmas.
-/
import Derived.Test.YtepbfdbooobnlaaGreatDoorSH
import Derived.Lib.LaidTab
import Derived.LaidHandle
import Derived.Stop.LaidErr
namespace Go.Proofs.YtepbfdbooobnlaaGreatDoor
set_option maxRecDepth 100000
open Go.RowKit
/-- The rows' list. -/
abbrev Lst : List (String × DataW Unit) := Rows.scriptFillsRow.laid
theorem gRt : (Tryz.prog.cutTypes.find? (·.1 == "internal/reflectlite.rtype")).map (·.2) = some 119 := by kernel_rfl
theorem gRow : ((List.range 200).filter fun t => Tryz.prog.rowNamed t [101, 114, 114, 111, 114]) = [31] := by kernel_rfl
theorem gTy : Tryz.prog.types.size = 200 := by kernel_rfl
theorem gEt : Tryz.prog.globalNamed "errors.errorType" = some 1 := by kernel_rfl
theorem handle_of {W : World} (h : handlesMet Tryz.prog [("errors.errorType", Rows.laid_errors_errorType)] W) : W.cell? ⟨1, 0, none⟩ = some (.iface 119 (.agg #[.pointer (some ⟨10, 31, none⟩)])) := by
  obtain ⟨name, u, ty, e1, e2, e3, e4, e5⟩ := h _ (List.mem_singleton.2 rfl)
  have en : name = [101, 114, 114, 111, 114] := (Option.some.inj e1).symm
  subst en
  obtain rfl := Option.some.inj (gRt.symm.trans e2)
  have hm : ty ∈ (List.range 200).filter fun t => Tryz.prog.rowNamed t [101, 114, 114, 111, 114] := List.mem_filter.2 ⟨List.mem_range.2 (by rw [← gTy]; exact e3), e4⟩
  rw [gRow] at hm
  obtain rfl := List.mem_singleton.1 hm
  have hh : typeHandle Tryz.prog 31 = .pointer (some ⟨10, 31, none⟩) := by kernel_rfl
  rw [hh] at e5
  simpa using World.var?_cell gEt e5 0
/-- An array of strings that reads as these texts holds them, cell for cell. -/
theorem cells_of_strs {H : Type} {enc : TypeId × Value → H} {P : Program} {w : World} {base : Nat} {sp : Nat → Bool} {held : Bool} {fuel : Nat} {t e : TypeId} {n : Nat} {cs : List Value} {zs : List (List UInt8)} {p : List MemPlace}
    (ht : P.underlying t = some (.array n e)) (he : P.underlying e = some .string) (hce : P.cellsOf e = 1) (hct : P.cellsOf t = n)
    (h : DataW.trod enc P w base sp held fuel t cs = some (.agg (zs.map fun z => .lit (.string z)), p)) : cs = zs.map sy := by
  cases fuel with
  | zero => simp [DataW.trod] at h
  | succ fuel =>
    simp only [DataW.trod, ht, hce, hct, Nat.mul_one] at h
    split at h
    · rename_i hl
      obtain ⟨xs, hm, hx⟩ := Option.map_eq_some_iff.1 h
      have hxs : xs.map (·.1) = zs.map fun z => (DataW.lit (.string z) : DataW H) := by
        have := congrArg Prod.fst hx
        simpa using this
      have hxl : xs.length = n := by simpa using Lib.mapM_length hm
      have hzl : zs.length = n := by
        have := congrArg List.length hxs
        simp at this
        omega
      apply List.ext_getElem?
      intro i
      by_cases hi : i < n
      · obtain ⟨b, hb, hf⟩ := Lib.mapM_at hm i i (by simp [hi])
        obtain ⟨s, hc, rfl, _⟩ := DataW.trod_string he hf
        have h1 : cs[i]? = some (.string s) := by
          have := congrArg (·[0]?) hc
          simpa [List.getElem?_take, List.getElem?_drop] using this
        have h2 : (xs.map (·.1))[i]? = some (DataW.lit (.string s.data.toList) : DataW H) := by simp [hb]
        rw [hxs] at h2
        simp only [List.getElem?_map, Option.map_eq_some_iff, DataW.lit.injEq, Lit.string.injEq] at h2
        obtain ⟨z, hz, rfl⟩ := h2
        rw [h1, List.getElem?_map, hz]
        rfl
      · rw [List.getElem?_eq_none (by omega), List.getElem?_eq_none (by simp; omega)]
    · cases h
theorem gW : Tryz.prog.globalNamed "patina/script.words" = some 0 := by kernel_rfl
theorem gWt : (Tryz.prog.globals[0]?).map (·.type) = some 73 := by kernel_rfl
theorem gPt : (Tryz.prog.globals[3]?).map (·.type) = some 151 := by kernel_rfl
theorem gSt : (Tryz.prog.globals[6]?).map (·.type) = some 31 := by kernel_rfl
theorem gRt2 : (Tryz.prog.globals[7]?).map (·.type) = some 31 := by kernel_rfl
theorem gS : Tryz.prog.globalNamed "strconv.ErrSyntax" = some 6 := by kernel_rfl
theorem gR : Tryz.prog.globalNamed "strconv.ErrRange" = some 7 := by kernel_rfl
theorem gD : Tryz.prog.globalNamed "math/bits.deBruijn64tab" = some 9 := by kernel_rfl
theorem c73 : Tryz.prog.cellsOf 73 = 11 := by kernel_rfl
theorem c9 : Tryz.prog.cellsOf 9 = 1 := by kernel_rfl
theorem c151 : Tryz.prog.cellsOf 151 = 20 := by kernel_rfl
theorem star : "*" ++ "errors.errorString" = "*errors.errorString" := by decide
theorem row169 (u : TypeId) (h : Tryz.prog.typeName? 3 u = some "*errors.errorString") : u = 169 :=
  typeName_ptr_named (nm := "errors.errorString") (by rw [star]; kernel_rfl) (by kernel_rfl) (by decide) u (by rw [star]; exact h)
theorem c171 : Tryz.prog.cellsOf 171 = 1 := by kernel_rfl
/-- The variable's one cell is an interface value. -/
theorem iface_of {n : String} {text : List UInt8} {r : List (String × DataW Unit)} {W : World} {g : Nat}
    (h : laidMet Tryz.prog ((n, .iface "*errors.errorString" (.ptr (.agg [.lit (.string text)]))) :: r) W) (hg : Tryz.prog.globalNamed n = some g) (ht : (Tryz.prog.globals[g]?).map (·.type) = some 31) :
    ∃ t p, W.cell? ⟨g, 0, none⟩ = some (.iface t p) := by
  obtain ⟨a0, s0, hv0, -, -, -⟩ := laid_sentinel h hg ht Tryz.underlying31 row169 Tryz.underlying169 Tryz.underlying171 rfl rfl Tryz.underlying9 c171 c9
  exact ⟨_, _, by have h0 := World.var?_cell hg hv0 0; simpa using h0⟩
theorem svar_of {n : String} {text : List UInt8} {r : List (String × DataW Unit)} {W : World} {g : Nat}
    (h : laidMet Tryz.prog ((n, .iface "*errors.errorString" (.ptr (.agg [.lit (.string text)]))) :: r) W) (hg : Tryz.prog.globalNamed n = some g) (ht : (Tryz.prog.globals[g]?).map (·.type) = some 31) :
    ∃ t p, W.var? Tryz.prog n = some #[.iface t p] := by
  obtain ⟨a0, s0, hv0, -, -, -⟩ := laid_sentinel h hg ht Tryz.underlying31 row169 Tryz.underlying169 Tryz.underlying171 rfl rfl Tryz.underlying9 c171 c9
  exact ⟨_, _, hv0⟩
theorem gl_of {W : World} (h : laidMetH Tryz.prog Lst W) (hsh : W.ShapedOpen Tryz.prog) : Gl W := by
  have h' : laidMet Tryz.prog (Lst.filter fun x => x.2.handleName?.isNone) W ∧ handlesMet Tryz.prog [("errors.errorType", Rows.laid_errors_errorType)] W := h
  obtain ⟨hd, hh⟩ := h'
  have hd' : laidMet Tryz.prog [("math/bits.deBruijn32tab", Rows.laid_math_bits_deBruijn32tab), ("math/bits.deBruijn64tab", Rows.laid_math_bits_deBruijn64tab), ("internal/strconv.uint64pow10", Rows.laid_internal_strconv_uint64pow10), ("unicode/utf8.acceptRanges", Rows.laid_unicode_utf8_acceptRanges), ("strconv.ErrRange", Rows.laid_strconv_ErrRange), ("strconv.ErrSyntax", Rows.laid_strconv_ErrSyntax), ("patina/script.words", Rows.laid_patina_script_words), ("unicode/utf8.first", Rows.laid_unicode_utf8_first)] W := hd
  clear hd h
  have d1 := hd'.tail
  have d2 := d1.tail
  have d3 := d2.tail.tail
  have d4 := d3.tail
  have d5 := d4.tail
  have hp : Lib.TabIs Tryz.prog W "internal/strconv.uint64pow10" .u64 Lib.pow10Tab := by
    exact Lib.tabIs_of_head (name := "internal/strconv.uint64pow10") (k := .u64) (zs := Lib.pow10Tab) (rest := [("unicode/utf8.acceptRanges", Rows.laid_unicode_utf8_acceptRanges), ("strconv.ErrRange", Rows.laid_strconv_ErrRange), ("strconv.ErrSyntax", Rows.laid_strconv_ErrSyntax), ("patina/script.words", Rows.laid_patina_script_words), ("unicode/utf8.first", Rows.laid_unicode_utf8_first)]) pow_at gPt Tryz.underlying151 Tryz.underlying96 (by kernel_rfl) c151 d2
  have hw : W.var? Tryz.prog "patina/script.words" = some (wds.map sy).toArray := by
    obtain ⟨ps, ⟨g', t', cs, fuel, p, q, hg', ht', hvar, hd, _, _⟩, _⟩ := d5
    obtain rfl := Option.some.inj (gW.symm.trans hg')
    obtain rfl := Option.some.inj (gWt.symm.trans ht')
    rw [hvar]
    have := cells_of_strs (zs := wds) Tryz.underlying73 Tryz.underlying9 c9 c73 hd
    rw [← this]
  have hn : 9 < W.heap.size := by
    obtain ⟨ps, ⟨g', t', cs, fuel, p, q, hg', ht', hvar, hd, _, _⟩, _⟩ := d1
    obtain rfl := Option.some.inj (gD.symm.trans hg')
    unfold World.var? at hvar
    rw [gD] at hvar
    simp only [Option.bind_some] at hvar
    cases e : W.heap[9]? with
    | none => rw [e] at hvar; cases hvar
    | some o => exact (Array.getElem?_eq_some_iff.1 e).1
  refine ⟨hn, ?_, hp, svar_of d4 gS gSt, iface_of d3 gR gRt2, handle_of hh, Tryz.laysM145.s1_3 W hsh⟩
  intro j v hv
  have := World.var?_cell gW hw j
  rw [Nat.zero_add, this]
  simpa using hv
end Go.Proofs.YtepbfdbooobnlaaGreatDoor
