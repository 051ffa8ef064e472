/-
  For every input the law DevTires returns true, and each argument reads afterwards as it read before. Conditions: none beside the statement's own.
-/
import Derived.Test.YtbhbilcieodbhaaGreatOm
import Derived.Test.YtbhbilcieodbhaaGreatP13
import Derived.Test.YtbhbilcieodbhaaGreatTiresFacts
import Derived.Test.YtbhbilcieodbhaaGreatRows
import Derived.WalkKit
import Derived.ProofKit
import Derived.OpenShut
import Derived.ShutString
import Derived.ChangeOld
import Derived.Below
import Derived.SizedLaws
namespace Go.Proofs.YtbhbilcieodbhaaGreat.devTires
open Go.ChangeShapes Go.WideShapes Go.ChangeAt Go.RowKit
open Go.ChangeMaps (open_string shut_string)
set_option linter.unusedVariables false
theorem own:ownKnob Tryz.prog.godebug=none:=kr
theorem laidOut:laidOutB Tryz.prog=true:=kr
set_option maxRecDepth 100000 in
theorem lifted (os:Os) (started:os.Started) (H:Type) (enc:TypeId × Value->H) :
 ReturnsInHanded {} Tryz.checked os 4 .any (Rows.devTiresSpec.pre6 enc Tryz.prog Tryz.f4 Rows.devTiresRow.domain false) (Rows.devTiresSpec.post enc Tryz.prog Tryz.f4 false true false false):=by
 refine returnsInHanded_of_change (C:=Tryz.checked) own started kr Tryz.func4
  (ChangeSpec.witness6 (enc:=enc) (C:=Tryz.checked) false ⟨#[],#[.int .i64 0,.int .i64 0],[]⟩ 8 kr kr kr kr) ?_
 intro W base args ds gs before hval0 hW hcnd _;have hval:∀ (j:Nat) t v,Tryz.f4.params[j]?=some t->args[j]?=some v->Value.okWide Tryz.prog W .any base t v:=hval0;have hW':=hW;obtain⟨p,q,hA0,hV,rfl,hfz,hnd⟩:=hW;have hA:DataW.TrodAll enc Tryz.prog W 0 (fun _=>true) true Tryz.f4.params.toList args.toList ds p:=hA0;rw[Tryz.params4] at hA hval;obtain⟨v0,vs0,d0,ds0,p0,q0,hargs,rfl,rfl,h0,r0⟩:=trodAll_cons hA;obtain⟨v1,vs1,d1,ds1,p1,q1,rfl,rfl,rfl,h1,r1⟩:=trodAll_cons r0;obtain⟨rfl,rfl,rfl⟩:=trodAll_nil r1;obtain rfl:args=#[v0,v1]:=by cases args;simp_all
 obtain⟨rfl,rfl⟩:=trodVars_none hV;obtain⟨x0,rfl,w0⟩:∃ z,v0=.int .i64 z/\-9223372036854775808<=z/\z<=9223372036854775807:=by
  obtain⟨x,rfl⟩:=okWide_int Tryz.underlying3 (hval 0 3 v0 rfl rfl);obtain⟨fuel,hf⟩:=h0;obtain⟨z,h1,_,h3⟩:=DataW.trod_int (k:=.i64) Tryz.underlying3 hf;simp[Value.cells] at h1;subst h1;exact⟨x,rfl,bounds_i64 h3⟩
 have k0:=h0;have lt0:∀ x ∈ p0,x.block<W.heap.size:=by obtain⟨m,hm⟩:=k0;exact DataW.trod_lt m _ _ _ hm
 obtain⟨x1,rfl,w1⟩:∃ z,v1=.int .i64 z/\-9223372036854775808<=z/\z<=9223372036854775807:=by
  obtain⟨x,rfl⟩:=okWide_int Tryz.underlying3 (hval 1 3 v1 rfl rfl);obtain⟨fuel,hf⟩:=h1;obtain⟨z,h1,_,h3⟩:=DataW.trod_int (k:=.i64) Tryz.underlying3 hf;simp[Value.cells] at h1;subst h1;exact⟨x,rfl,bounds_i64 h3⟩
 have k1:=h1;have lt1:∀ x ∈ p1,x.block<W.heap.size:=by obtain⟨m,hm⟩:=k1;exact DataW.trod_lt m _ _ _ hm
 clear hA0 hval0;refine(QK x0 x1 w0 w1 W).mono fun e W' ⟨he,bel⟩=>?_;subst he;exact⟨_,rfl,_,_,_,[],_,[],hW',trodAll_mk1 (shut_bool Tryz.underlying4 _),(trodAll_cons_mk (Below.trod laidOut kr (of_decide_eq_true kr) k0 bel lt0) (trodAll_cons_mk (Below.trod laidOut kr (of_decide_eq_true kr) k1 bel lt1) trodAll_mk0)),rfl,bel.frame _,fun h=>by cases h⟩
theorem over:Rows.devTiresRow.holds Tryz.pinned (OpenSpec.ofChange Rows.devTiresSpec):=
 OpenClaim.holds_of_wide 4 Tryz.f4 rfl rfl rfl rfl rfl rfl rfl ⟨rfl,rfl,rfl,rfl,rfl⟩ rfl rfl rfl rfl rfl kr Tryz.func4 closed
  (of_decide_eq_true kr) (by unfold Func.isWrapper;first | (rw[if_pos (by decide +kernel)];kernel_rfl) | (rw[if_neg (by decide +kernel)];exact⟨rfl,rfl⟩))
  (fun os started H enc _=>lifted os started H enc)
end Go.Proofs.YtbhbilcieodbhaaGreat.devTires
namespace Go.Proofs.YtbhbilcieodbhaaGreat
theorem devTires_holds:Rows.DevTiresSaid:=devTires.over
#print axioms devTires_holds
end Go.Proofs.YtbhbilcieodbhaaGreat
