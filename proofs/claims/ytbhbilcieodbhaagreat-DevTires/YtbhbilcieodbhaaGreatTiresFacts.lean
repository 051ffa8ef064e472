/-
  The closed facts of the row of DevTires, one by one. No condition.
-/
import Derived.Test.YtbhbilcieodbhaaGreatOm
import Derived.Test.YtbhbilcieodbhaaGreatRows
import Derived.JoinedOf
import Derived.KernelRfl
namespace Go.Proofs.YtbhbilcieodbhaaGreat.devTires
open Go
set_option linter.unusedVariables false
abbrev Q (F:Program->FuncId->Func->ChangeSpec->OpenClaim->Bool):Prop:=F Tryz.prog 4 Tryz.f4 (Rows.devTiresSpec) (Rows.devTiresRow)=true
theorem c1:Q fun P f fn s c=>c.wf (OpenSpec.ofChange s):=by unfold Q;kernel_rfl
theorem c2:Q fun P f fn s c=>laidOutB P:=by unfold Q;kernel_rfl
theorem c3:Q fun P f fn s c=>mapsRowed P:=by unfold Q;kernel_rfl
theorem c4:Q fun P f fn s c=>fn.params.all (P.readableRec ·):=by unfold Q;kernel_rfl
theorem c5:Q fun P f fn s c=>namedTie P c.named s.vars:=by unfold Q;kernel_rfl
theorem c6:Q fun P f fn s c=>(c.stops == []):=by unfold Q;kernel_rfl
theorem c7:Q fun P f fn s c=>(P.stops == []):=by unfold Q;kernel_rfl
theorem c8:Q fun P f fn s c=>(c.knobs == []):=by unfold Q;kernel_rfl
theorem c9:Q fun P f fn s c=>(P.stopKnobs == []):=by unfold Q;kernel_rfl
theorem c10:Q fun P f fn s c=>(c.inPlace == P.inPlace f):=by unfold Q;kernel_rfl
theorem c11:Q fun P f fn s c=>(c.unfollowed == P.unfollowed f):=by unfold Q;kernel_rfl
theorem c12:Q fun P f fn s c=>(c.recurses == P.recurses f):=by unfold Q;kernel_rfl
theorem c13:Q fun P f fn s c=>(c.named == P.varsNamed f):=by unfold Q;kernel_rfl
theorem c14:Q fun P f fn s c=>(c.maps == (fn.params.toList ++ s.plain.varTypes P).any (P.mapsRec ·)):=by unfold Q;kernel_rfl
theorem c15:Q fun P f fn s c=>(c.ifaces == (fn.params.toList ++ s.plain.varTypes P).any (P.ifacesRec ·)):=by unfold Q;kernel_rfl
theorem c16:Q fun P f fn s c=>(c.mapsOut == P.mapsAmong fn.resultTypes.toList):=by unfold Q;kernel_rfl
theorem c17:Q fun P f fn s c=>(c.loops == (fn.params.toList ++ s.plain.varTypes P).any (P.loopsFrom ·)):=by unfold Q;kernel_rfl
theorem c18:Q fun P f fn s c=>(c.wideKeys == (fn.params.toList ++ s.plain.varTypes P ++ fn.resultTypes.toList).any (P.wideKeysFrom ·)):=by unfold Q;kernel_rfl
theorem c19:Q fun P f fn s c=>s.vars.all (P.varReadable ·):=by unfold Q;kernel_rfl
theorem c20:Q fun P f fn s c=>fn.resultTypes.all (fun t=>P.readableRec t && decide (t<P.types.size)):=by unfold Q;kernel_rfl
theorem c21:Q fun P f fn s c=>(c.ifacesOut == fn.resultTypes.toList.any (P.ifacesRec ·)):=by unfold Q;kernel_rfl
theorem c22:Q fun P f fn s c=>(c.loopsOut == fn.resultTypes.toList.any (P.loopsFrom ·)):=by unfold Q;kernel_rfl
theorem c23:Q fun P f fn s c=>(c.plainKeys == P.plainKeys):=by unfold Q;kernel_rfl
theorem c24:Q fun P f fn s c=>c.shortTexts.isNone:=by unfold Q;kernel_rfl
theorem c25:Q fun P f fn s c=>P.stopsHeard:=by unfold Q;kernel_rfl
theorem c26:Q fun P f fn s c=>P.mayEnter:=by unfold Q;kernel_rfl
theorem c27:Q fun P f fn s c=>(c.lifted == P.liftsFinal):=by unfold Q;kernel_rfl
theorem c28:Q fun P f fn s c=>(P.make == some c.make):=by unfold Q;kernel_rfl
theorem c29:Q fun P f fn s c=>(c.kinds == (if c.domain.isEmpty then [] else fn.params.toList.map fun t=>match P.underlying t with | some (.int k)=>some k | _=>none)):=by unfold Q;kernel_rfl
theorem c30:Q fun P f fn s c=>(c.pinned == c.pinnedBy):=by unfold Q;kernel_rfl
theorem c31:Q fun P f fn s c=>(c.veiled == (fn.params.toList ++ s.plain.varTypes P ++ fn.resultTypes.toList).any (P.veiledRec ·)):=by unfold Q;kernel_rfl
theorem c32:Q fun P f fn s c=>c.veiledFits P fn.params.toList (fn.params.toList ++ s.plain.varTypes P ++ fn.resultTypes.toList):=by unfold Q;kernel_rfl
theorem and2 {a b:Bool} (h:a=true) (k:b=true):(a && b)=true:=by rw[h,k];rfl
set_option maxRecDepth 100000 in
theorem closed:joinedFacts Tryz.prog 4 Tryz.f4 (Rows.devTiresSpec) (Rows.devTiresRow)=true:=by
 unfold joinedFacts;exact(and2 (and2 (and2 (and2 (and2 (and2 (and2 (and2 (and2 (and2 (and2 (and2 (and2 (and2 (and2 (and2 (and2 (and2 (and2 (and2 (and2 (and2 (and2 (and2 (and2 (and2 (and2 (and2 (and2 (and2 (and2 c1 c2) c3) c4) c5) c6) c7) c8) c9) c10) c11) c12) c13) c14) c15) c16) c17) c18) c19) c20) c21) c22) c23) c24) c25) c26) c27) c28) c29) c30) c31) c32)
end Go.Proofs.YtbhbilcieodbhaaGreat.devTires
