/-
  Lemmas.
-/
import Derived.Test.YtmdpnpjacfedpaaGreatOm
import Derived.Test.YtmdpnpjacfedpaaGreatP03
set_option maxRecDepth 1000000
set_option maxHeartbeats 16000000
set_option linter.unusedSimpArgs false
namespace Go.Proofs.YtmdpnpjacfedpaaGreat
open List
open Go.Proofs.Tryz
open Go.RowKit Go.ChangeShapes Go.WideShapes
theorem ckwf_i64{z:Int}(h:(Lit.int .i64 z).wf=true) : -9223372036854775808<=z/\z<=9223372036854775807:=by
 simpa[Lit.wf,IntKind.min,IntKind.max,IntKind.bits,IntKind.signed] using h
theorem coc2:prog.cellsOf 2=1:=kr
theorem coc3:prog.cellsOf 3=1:=kr
theorem coc4:prog.cellsOf 4=1:=kr
theorem coc22:prog.cellsOf 52=24:=kr
theorem coc23:prog.cellsOf 53=12:=kr
theorem coc24:prog.cellsOf 36=12:=kr
theorem coc26:prog.cellsOf 55=62:=kr
def intAt (cs:List Value) (i:Nat):Int:=match cs[i]? with | some (.int _ z)=>z | _=>0
def boolAt (cs:List Value) (i:Nat):Bool:=match cs[i]? with | some (.bool z)=>z | _=>false
theorem take_one{cs:List Value}{i:Nat}{v:Value}(h:(cs.drop i).take 1=[v]):cs[i]?=some v:=by
 have:=congrArg (fun x=>x[0]?) h;simpa using this
section
variable {H:Type}{enc:TypeId × Value->H}{W:Wd}{base:Nat}{spare:Nat->Bool}{held:Bool}{m:Nat}{x:DataW H × List MemPlace}
theorem ckints_in{t e:TypeId}{n:Nat}(hu:prog.underlying t=some (.array n e))(he:prog.underlying e=some (.int .i64))(hc:prog.cellsOf e=1)(ht:prog.cellsOf t=n){cs:List Value}(h:DataW.trod enc prog W base spare held m t cs=some x) :cs=ints (intAt cs) n/\∀i,i<n->-9223372036854775808<=intAt cs i/\intAt cs i<=9223372036854775807:=by
 obtain⟨xs,k,_,_,hl,hlen,hf⟩:=DataW.trod_array hu h;have hcell:∀i,i<n->∃z,cs[i]?=some (.int .i64 z)/\-9223372036854775808<=z/\z<=9223372036854775807:=by
  intro i hi;have:=hf i hi;rw[hc,Nat.mul_one,AU om] at this;obtain⟨z,h1,_,h3⟩:=DataW.trod_int (k:=.i64) he this;exact⟨z,take_one h1,ckwf_i64 h3⟩
 refine⟨?_,fun i hi=>?_⟩
 ·apply ext_getElem?;intro i;by_cases hi:i<n
  ·obtain⟨z,h1,_⟩:=hcell i hi;rw[BU _ _ _ hi,h1];simp[intAt,h1,i6]
  ·rw[Ae om,Ae (by rw[BF];omega)]
 ·obtain⟨z,h1,h2⟩:=hcell i hi;simpa[intAt,h1] using h2
theorem bools_in{cs:List Value}(h:DataW.trod enc prog W base spare held m 53 cs=some x):cs=bools (boolAt cs) 12:=by
 obtain⟨xs,k,_,_,hl,hlen,hf⟩:=DataW.trod_array underlying53 h;rw[coc23] at hl;apply ext_getElem?;intro i;by_cases hi:i<12
 ·have:=hf i hi;rw[coc4,Nat.mul_one,AU om] at this;obtain⟨z,h1,_⟩:=DataW.trod_bool underlying4 this;have h2:=take_one h1;rw[Do _ _ _ hi,h2];simp[boolAt,h2]
 ·rw[Ae om,Ae (by rw[BP];omega)]
end
theorem six(L:List Value)(h:L.length=62):L=L.take 24 ++ ((L.drop 24).take 1 ++ ((L.drop 25).take 12 ++ ((L.drop 37).take 1 ++ ((L.drop 38).take 12 ++ (L.drop 50).take 12)))):=by
 have e5:(L.drop 50).take 12=L.drop 50:=As (by rw[length_drop];omega);have st:∀a b,(L.drop a).take b ++ L.drop (a+b)=L.drop a:=fun a b=>by
  have:=take_append_drop b (L.drop a)
  rwa [drop_drop] at this
 rw[e5,st 38 12,st 37 1,st 25 12,st 24 1,take_append_drop]
theorem ck_in{H:Type}{enc:TypeId × Value->H}{W:Wd}{r:Reach}{b0:Nat}{v:Value}{d:DataW H}{p:List MemPlace}(hv:Value.okWide prog W r b0 55 v)(h:DataW.Trod enc prog W 0 (fun _=>true) true 55 v d p) :∃c:AA.Bn,v=.agg (AA.ckA c):=by
 obtain⟨cs,rfl,hsz⟩:=okWide_struct underlying55 hv;obtain⟨fuel,hf⟩:=h;obtain⟨xs,n,_,_,hl,hlen,hfs⟩:=DataW.trod_struct underlying55 hf;rw[coc26] at hsz
 match xs,hlen with
 | [y0,y1,y2,y3,y4,y5],_=>
  have g0:DataW.trod enc prog W 0 (fun _=>true) true n 52 (cs.toList.take 24)=some y0:=by
   have:=hfs 0 _ rfl;simpa[Value.cells,coc22] using this
  have g1:DataW.trod enc prog W 0 (fun _=>true) true n 2 ((cs.toList.drop 24).take 1)=some y1:=by
   have:=hfs 1 _ rfl;simpa[Value.cells,coc2] using this
  have g2:DataW.trod enc prog W 0 (fun _=>true) true n 53 ((cs.toList.drop 25).take 12)=some y2:=by
   have:=hfs 2 _ rfl;simpa[Value.cells,coc23] using this
  have g3:DataW.trod enc prog W 0 (fun _=>true) true n 3 ((cs.toList.drop 37).take 1)=some y3:=by
   have:=hfs 3 _ rfl;simpa[Value.cells,coc3] using this
  have g4:DataW.trod enc prog W 0 (fun _=>true) true n 36 ((cs.toList.drop 38).take 12)=some y4:=by
   have:=hfs 4 _ rfl;simpa[Value.cells,coc24] using this
  have g5:DataW.trod enc prog W 0 (fun _=>true) true n 36 ((cs.toList.drop 50).take 12)=some y5:=by
   have:=hfs 5 _ rfl;simpa[Value.cells,coc24] using this
  obtain⟨a0,-⟩:=ckints_in underlying52 underlying2 coc2 coc22 g0;obtain⟨z1,a1,_,-⟩:=DataW.trod_int (k:=.i64) underlying2 g1;have a2:=bools_in g2;obtain⟨z3,a3,_,-⟩:=DataW.trod_int (k:=.i64) underlying3 g3;obtain⟨a4,-⟩:=ckints_in underlying36 underlying3 coc3 coc24 g4;obtain⟨a5,-⟩:=ckints_in underlying36 underlying3 coc3 coc24 g5;refine⟨⟨intAt (cs.toList.take 24),z1,boolAt ((cs.toList.drop 25).take 12),z3,intAt ((cs.toList.drop 38).take 12),intAt ((cs.toList.drop 50).take 12)⟩,?_⟩;have e:=six cs.toList (by simpa using hsz);rw[a0,a1,a2,a3,a4,a5] at e;congr 1;apply Array.ext';exact e
end Go.Proofs.YtmdpnpjacfedpaaGreat
