/-
  For every input the law MoveRefuses returns true, and each argument reads afterwards as it read before. Conditions: none beside the statement's own.
-/
import Derived.Test.YtmdpnpjacfedpaaGreatOm
import Derived.Test.YtmdpnpjacfedpaaGreatRJ
import Derived.Test.YtmdpnpjacfedpaaGreatCkIn
import Derived.Test.YtmdpnpjacfedpaaGreatRefusesFacts
import Derived.Test.YtmdpnpjacfedpaaGreatRows
import Derived.WalkKit
import Derived.ProofKit
import Derived.OpenShut
import Derived.ShutString
import Derived.ChangeOld
import Derived.Below
import Derived.SizedLaws
namespace Go.Proofs.YtmdpnpjacfedpaaGreat.moveRefuses
open Go.ChangeShapes Go.WideShapes Go.ChangeAt Go.RowKit
open Go.ChangeMaps (open_string shut_string)
set_option linter.unusedVariables false
theorem own:ownKnob Tryz.prog.godebug=none:=kr
theorem laidOut:laidOutB Tryz.prog=true:=kr
set_option maxRecDepth 100000 in
theorem lifted (os:Os) (started:os.Started) (H:Type) (enc:TypeId × Value->H) :
 ReturnsInHanded {} Tryz.checked os 5 .any (Rows.moveRefusesSpec.pre6 enc Tryz.prog Tryz.f5 Rows.moveRefusesRow.domain false) (Rows.moveRefusesSpec.post enc Tryz.prog Tryz.f5 false true false false):=by
 refine returnsInHanded_of_change (C:=Tryz.checked) own started kr Tryz.func5
  (ChangeSpec.witness6 (enc:=enc) (C:=Tryz.checked) false ⟨#[],#[.int .i64 0,.slice none 0 0,.int .i64 0,.slice none 0 0,.agg (AA.ckA AA.ck0)],[]⟩ 8 kr kr kr kr) ?_
 intro W base args ds gs before hval0 hW hcnd _;have hval:∀ (j:Nat) t v,Tryz.f5.params[j]?=some t->args[j]?=some v->Value.okWide Tryz.prog W .any base t v:=hval0;have hW':=hW;obtain⟨p,q,hA0,hV,rfl,hfz,hnd⟩:=hW;have hA:DataW.TrodAll enc Tryz.prog W 0 (fun _=>true) true Tryz.f5.params.toList args.toList ds p:=hA0;rw[Tryz.params5] at hA hval;obtain⟨v0,vs0,d0,ds0,p0,q0,hargs,rfl,rfl,h0,r0⟩:=trodAll_cons hA;obtain⟨v1,vs1,d1,ds1,p1,q1,rfl,rfl,rfl,h1,r1⟩:=trodAll_cons r0;obtain⟨v2,vs2,d2,ds2,p2,q2,rfl,rfl,rfl,h2,r2⟩:=trodAll_cons r1;obtain⟨v3,vs3,d3,ds3,p3,q3,rfl,rfl,rfl,h3,r3⟩:=trodAll_cons r2;obtain⟨v4,vs4,d4,ds4,p4,q4,rfl,rfl,rfl,h4,r4⟩:=trodAll_cons r3;obtain⟨rfl,rfl,rfl⟩:=trodAll_nil r4;obtain rfl:args=#[v0,v1,v2,v3,v4]:=by cases args;simp_all
 obtain⟨rfl,rfl⟩:=trodVars_none hV;obtain⟨x0,rfl,w0⟩:∃ z,v0=.int .i64 z/\-9223372036854775808<=z/\z<=9223372036854775807:=by
  obtain⟨x,rfl⟩:=okWide_int Tryz.underlying3 (hval 0 3 v0 rfl rfl);obtain⟨fuel,hf⟩:=h0;obtain⟨z,h1,_,h3⟩:=DataW.trod_int (k:=.i64) Tryz.underlying3 hf;simp[Value.cells] at h1;subst h1;exact⟨x,rfl,bounds_i64 h3⟩
 have k0:=h0;have lt0:∀ x ∈ p0,x.block<W.heap.size:=by obtain⟨m,hm⟩:=k0;exact DataW.trod_lt m _ _ _ hm
 obtain⟨a1,len1,cap1,rfl⟩:=okWide_slice Tryz.underlying48 (hval 1 48 v1 rfl rfl);have k1:=h1;have lt1:∀ x ∈ p1,x.block<W.heap.size:=by obtain⟨m,hm⟩:=k1;exact DataW.trod_lt m _ _ _ hm
 obtain⟨x2,rfl,w2⟩:∃ z,v2=.int .i64 z/\-9223372036854775808<=z/\z<=9223372036854775807:=by
  obtain⟨x,rfl⟩:=okWide_int Tryz.underlying3 (hval 2 3 v2 rfl rfl);obtain⟨fuel,hf⟩:=h2;obtain⟨z,h1,_,h3⟩:=DataW.trod_int (k:=.i64) Tryz.underlying3 hf;simp[Value.cells] at h1;subst h1;exact⟨x,rfl,bounds_i64 h3⟩
 have k2:=h2;have lt2:∀ x ∈ p2,x.block<W.heap.size:=by obtain⟨m,hm⟩:=k2;exact DataW.trod_lt m _ _ _ hm
 obtain⟨a3,len3,cap3,rfl⟩:=okWide_slice Tryz.underlying43 (hval 3 43 v3 rfl rfl);have k3:=h3;have lt3:∀ x ∈ p3,x.block<W.heap.size:=by obtain⟨m,hm⟩:=k3;exact DataW.trod_lt m _ _ _ hm
 obtain⟨c4,rfl⟩:=ck_in (hval 4 55 v4 rfl rfl) h4;have k4:=h4;have lt4:∀ x ∈ p4,x.block<W.heap.size:=by obtain⟨m,hm⟩:=k4;exact DataW.trod_lt m _ _ _ hm
 clear hA0 hval0;refine(refuses_walk x0 a1 len1 cap1 x2 a3 len3 cap3 c4 W).mono fun e W' ⟨he,bel⟩=>?_;subst he;exact⟨_,rfl,_,_,_,[],_,[],hW',trodAll_mk1 (shut_bool Tryz.underlying4 _),(trodAll_cons_mk (Below.trod laidOut kr (of_decide_eq_true kr) k0 bel lt0) (trodAll_cons_mk (Below.trod laidOut kr (of_decide_eq_true kr) k1 bel lt1) (trodAll_cons_mk (Below.trod laidOut kr (of_decide_eq_true kr) k2 bel lt2) (trodAll_cons_mk (Below.trod laidOut kr (of_decide_eq_true kr) k3 bel lt3) (trodAll_cons_mk (Below.trod laidOut kr (of_decide_eq_true kr) k4 bel lt4) trodAll_mk0))))),rfl,bel.frame _,fun h=>by cases h⟩
theorem over:Rows.moveRefusesRow.holds Tryz.pinned (OpenSpec.ofChange Rows.moveRefusesSpec):=
 OpenClaim.holds_of_wide 5 Tryz.f5 rfl rfl rfl rfl rfl rfl rfl ⟨rfl,rfl,rfl,rfl,rfl⟩ rfl rfl rfl rfl rfl kr Tryz.func5 closed
  (of_decide_eq_true kr) (by unfold Func.isWrapper;first | (rw[if_pos (by decide +kernel)];kernel_rfl) | (rw[if_neg (by decide +kernel)];exact⟨rfl,rfl⟩))
  (fun os started H enc _=>lifted os started H enc)
end Go.Proofs.YtmdpnpjacfedpaaGreat.moveRefuses
namespace Go.Proofs.YtmdpnpjacfedpaaGreat
theorem moveRefuses_holds:Rows.MoveRefusesSaid:=moveRefuses.over
#print axioms moveRefuses_holds
end Go.Proofs.YtmdpnpjacfedpaaGreat
