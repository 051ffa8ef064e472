/-
  Lemmas.
-/
import Derived.Test.YtbhbilcieodbhaaGreatOm
import Derived.Test.YtbhbilcieodbhaaGreatP10
import Derived.Sort.LotA
import Derived.Shelf.SlSortCmp.KitK
import Derived.Sort.WalkB2
import Derived.Sort.WalkB12
import Derived.Deep.CutRange
set_option maxRecDepth 1000000
set_option maxHeartbeats 16000000
set_option linter.unusedSimpArgs false
namespace Go.Proofs.YtbhbilcieodbhaaGreat
open List
open Go.Proofs.Tryz
open Go.RowKit
section
variable {K:BC}{s:BG}{tl:List Nat->Int->Pg}{H:Dp}{G:BV}{o:Nat}
def K0 (s:BG) (tl:List Nat->Int->Pg):BC:={ s:=s,r:=0,F:=fun _=>0,L:=fun _=>-1,vs:=fun _=>0,vc:=fun _=>0,fl:=fun _=>0,nx:=1,sp:=false,fr:=noF,cu:=0,ca:=0,qu:=[],hR:=fun _=>0,hN:=fun _=>0,hS:=fun _=>0,dd:=false,rp:=0,md:=0,mv:=0,tl:=tl }
def G0:BV:={ T:=fun _=>none,c:=AB.ck0,a:=fun _=>List.replicate 174 0,z:=fun _=>False }
theorem Np:AA.Okl (fun _=>-1):=by
 refine⟨?_,?_,?_⟩
 all_goals intros
 all_goals first | exact AK rfl | omega
theorem lI(hs:s.Ok)(htl:∀L n,ToldR L n (tl L n)):Wf (K0 s tl) where
 chip:=hs
 rr:=by show -9223372036854775808<=(0:Int)/\(0:Int)<9223372036854775808;decide
 frm:=by show 0<=(0:Int)/\(0:Int)<12;decide
 map:=Np
 vs:=fun _ _=>Ac _
 vp:=fun _ _ e=>absurd rfl e
 vc:=fun _ _=>by show 0<256;decide
 fl:=fun _ _=>by show 0<=(0:Int)/\(0:Int)<=1099511627775;decide
 nx:=by show 1<=1/\1<=1099511627775;decide
 fr:=by show 0<12/\0<9;decide
 cu:=by show 0<96;decide
 qu:=⟨nodup_nil,fun _ e=>(by cases e)⟩
 hea:=fun _ _=>by show (0<=(0:Int)/\(0:Int)<=65535)/\(0<=(0:Int)/\(0:Int)<=65535)/\0<=(0:Int)/\(0:Int)<=255;decide
 tl:=htl
theorem mE(hs:s.Ok)(he:∀j,(s.ch j).is=false)(htl:∀L n,ToldR L n (tl L n)):Sit (K0 s tl) G0 No where
 wf:=lI hs htl
 rep:=⟨fun _ _ _ e=>(by cases e),fun _ _ _ e=>(by cases e),fun p _ _=>he _⟩
 sts:=fun _ _=>by show 0<=(0:Int)/\(0:Int)<=3;decide
 frs:=fun p _ _ k _=>he _
 opn:=fun b _=>⟨fun e=>absurd (show (0:Int)=1 from e) dc,fun e=>absurd (show false=true from e.1) dc⟩
 frn:=fun e=>absurd (show false=true from e) dc
 liv:=fun _ _ e=>absurd rfl e
 nul:=fun _ _ _=>rfl
 blk:=fun _ _ e=>absurd rfl e
 flo:=fun _ _ e=>absurd rfl e
 old:=fun _ _ _ e=>(by cases e)
 seq:=fun _ _ _ e=>(by cases e)
 fls:=fun _ _=>by show (0:Int)<((1:Nat):Int);decide
 sp:=rfl
 dds:=⟨fun e=>absurd (show false=true from e) dc,fun e=>absurd (show 2<bad3 (fun _=>0) from e) dc⟩
 cb:=fun _ _ e=>absurd (show false=true from e) dc
 cf:=fun _ _=>rfl
 cn:=fun e=>absurd rfl e
 nw:=fun _ _=>rfl
 z24:=id
 lb:=fun _ _ e=>absurd rfl e
theorem kT(i:Nat):upd (fun _=>(0:Int)) i 0=fun _=>0:=by
 funext j;unfold upd;split <;> rfl
theorem J1{K1:BC}{p:Nat}{s':BG}{r':Int}{R':Nat->Int}(ho:o<25)(f:FrD H K K1 G o p s' r' R') :(FrL K1 o p s' r' R').2=0/\(FrL K1 o p s' r' R').1.L=upd K.L o p/\(FrL K1 o p s' r' R').1.s=s'/\(FrL K1 o p s' r' R').1.F=K.F/\(FrL K1 o p s' r' R').1.fr=⟨true,K.fr.k,K.fr.i+1⟩/\(FrL K1 o p s' r' R').1.nx=K.nx+1/\(FrL K1 o p s' r' R').1.mv=K.mv/\(FrL K1 o p s' r' R').1.dd=K.dd/\(FrL K1 o p s' r' R').1.tl=K.tl:=by
 obtain⟨e,s1,sp,h6,wf,pg⟩:=f;have hfree:=sp.free s1;have hlt:=sp.lt;have hmay:AA.DV ((o:Nat):Int) (p:Int):=⟨⟨om,om⟩,⟨om,om⟩,h6.imp (fun e=>om) (fun e=>om)⟩;have hc:AA.setC K1.L ((o:Nat):Int) (p:Int)=0:=by
  unfold AA.setC;rw[AI (fun e=>e hmay),AI (by rw[Bv hfree];simp)]
 have hLL:AA.setL K1.L ((o:Nat):Int) (p:Int)=upd K1.L o p:=by unfold AA.setL;rw[AJ hc,AP]
 subst e;unfold FrL layK ntK;by_cases h24:o=24
 ·rw[AJ h24];exact⟨hc,hLL,rfl,rfl,rfl,rfl,rfl,rfl,rfl⟩
 ·rw[AI h24];exact⟨hc,hLL,rfl,rfl,rfl,rfl,rfl,rfl,rfl⟩
theorem aU:Fz.Ok:=⟨fun _=>Qf,fun _=>⟨by show 0<9223372036854775808;decide,fun _=>rfl,by show (-9223372036854775808:Int)<=0;decide,by show (0:Int)<9223372036854775808;decide⟩,by show 0<9223372036854775808;decide,by show (-9223372036854775808:Int)<=0;decide,by show (0:Int)<9223372036854775808;decide⟩
theorem TD:Fine Fz:=⟨rfl,rfl,fun _=>⟨rfl,rfl,rfl⟩⟩
structure OI (K:BC) (G:BV):Prop where
 sit:Sit K G No
 told:Told K G
 rm:Rm 0 K
 fine:Fine K.s
 dd:K.dd=false
 a:G.a=fun _=>List.replicate 174 0
 z:G.z=fun _=>False
 L:K.L=upd (fun _=>-1) 24 0
 F:K.F=AD.tkF (fun _=>0) 0 0
 fr:K.fr=⟨true,0,1⟩
 nx:K.nx=2
 ca:K.ca=0
 mv:K.mv=0
 rd:Rdn 1 K
theorem OI.ivk(h:OI K G):Ivk K G:=⟨h.fine.on,_,h.sit,fun _=>⟨fun _=>id,h.rm,h.told⟩⟩
theorem nT:tkC (fun _=>0)=0/\tkM (fun _=>0)=0:=dc
theorem aV{KO:BC}(hw:CE K=false)(hs:K.sp=false)(hr:¬ AC.rmV K.fr o=true)(hcl:clK K=K)(hspr:GD K=true)(hop:opK K=(KO,0))(hrO:AC.rmV KO.fr o=true)(hc:AC.nxC KO.fr o=0)(hf:(frK H { KO with fr:=AC.tkS KO.fr o } (AC.nxV KO.fr o).toNat o).2.2=0)(n:Nat) :anR (n+2) H K o=some (layK (frK H { KO with fr:=AC.tkS KO.fr o } (AC.nxV KO.fr o).toNat o).1 (frK H { KO with fr:=AC.tkS KO.fr o } (AC.nxV KO.fr o).toNat o).2.1):=by
 show anK _ _ H (n+2) K o=_;refine MB hw hs ?_ hc hf;rw[mrK,AI hr];dsimp only;rw[hcl,AJ hspr,hop,AI (by simp)];dsimp only;rw[mrK,AJ hrO]
end
section
variable {K:BC}
theorem aW(bd:Bool)(o:Nat)(l:List Nat)(K:BC)(S:BW):cpK bd (o :: l) K S=if (cpK bd [o] K S).2.2≠0 then cpK bd [o] K S else cpK bd l (cpK bd [o] K S).1 (cpK bd [o] K S).2.1:=by
 have e1:cpK bd [o] K S=if bd=true/\o=24 then (K,S,0) else
  if (coK K o).2.2.2≠0 then ((coK K o).1,S,(coK K o).2.2.2) else
  if (tiK (coK K o).1 S o).2.2.2≠0 then ((tiK (coK K o).1 S o).1,(tiK (coK K o).1 S o).2.1,(tiK (coK K o).1 S o).2.2.2) else
  if (prM (tiK (coK K o).1 S o).1 ⟨(tiK (coK K o).1 S o).2.2.1,o,(tiK (coK K o).1 S o).1.vs o,((tiK (coK K o).1 S o).1.vc o+1) % 256,(coK K o).2.2.1⟩ (coK K o).2.1).2≠0 then ((prM (tiK (coK K o).1 S o).1 ⟨(tiK (coK K o).1 S o).2.2.1,o,(tiK (coK K o).1 S o).1.vs o,((tiK (coK K o).1 S o).1.vc o+1) % 256,(coK K o).2.2.1⟩ (coK K o).2.1).1,(tiK (coK K o).1 S o).2.1,(prM (tiK (coK K o).1 S o).1 ⟨(tiK (coK K o).1 S o).2.2.1,o,(tiK (coK K o).1 S o).1.vs o,((tiK (coK K o).1 S o).1.vc o+1) % 256,(coK K o).2.2.1⟩ (coK K o).2.1).2) else
  ((prM (tiK (coK K o).1 S o).1 ⟨(tiK (coK K o).1 S o).2.2.1,o,(tiK (coK K o).1 S o).1.vs o,((tiK (coK K o).1 S o).1.vc o+1) % 256,(coK K o).2.2.1⟩ (coK K o).2.1).1,{ (tiK (coK K o).1 S o).2.1 with ld:=(tiK (coK K o).1 S o).2.1.ld ++ [⟨(tiK (coK K o).1 S o).2.2.1,o,(tiK (coK K o).1 S o).1.vs o,((tiK (coK K o).1 S o).1.vc o+1) % 256,(coK K o).2.2.1⟩] },0):=rfl
 rw[cpK,e1];dsimp only;by_cases h1:bd=true/\o=24
 ·rw[AJ h1,AJ h1];simp
 ·rw[AI h1,AI h1];by_cases h2:(coK K o).2.2.2≠0
  ·rw[AJ h2,AJ h2];dsimp only;rw[AJ h2]
  ·rw[AI h2,AI h2];by_cases h3:(tiK (coK K o).1 S o).2.2.2≠0
   ·rw[AJ h3,AJ h3];dsimp only;rw[AJ h3]
   ·rw[AI h3,AI h3];generalize tiK (coK K o).1 S o=t at *
    generalize hp:prM t.1 ⟨t.2.2.1,o,t.1.vs o,(t.1.vc o+1) % 256,(coK K o).2.2.1⟩ (coK K o).2.1=p;by_cases h4:p.2≠0
    ·rw[AJ h4,AJ h4];dsimp only;rw[AJ h4]
    ·rw[AI h4,AI h4];dsimp only;rw[AI (by simp)]
theorem Fine.rdK(h:Fine K.s)(p:Nat):Fine (rdK K p).1.s:=by
 have:=h.readV p;unfold Go.Proofs.YtbhbilcieodbhaaGreat.rdK rdF;dsimp only;by_cases e:(Go.Proofs.YtbhbilcieodbhaaGreat.readV K.s p).2.2=0
 ·rw[AJ e];dsimp only;rw[AJ rfl];exact this.1
 ·rw[AI e];dsimp only;rw[AI e];exact this.1
theorem Fine.coK(h:Fine K.s)(o:Nat):Fine (coK K o).1.s:=by
 have:=Fine.rdK h (K.L o).toNat;unfold Go.Proofs.YtbhbilcieodbhaaGreat.coK;dsimp only;split
 ·exact h
 ·split
  ·exact this
  ·split
   ·exact this
   ·split <;> exact this
theorem aY{G:BV}{S:BW}{o:Nat}(h:Sit K G (Xs S))(hC:Iy K G S)(hD:YW K S [o])(_:cS S)(hfi:Fine K.s)(hf:S.tt.o=false->1<=fre K.F)(hv:K.F S.fm≠0) :∃K' S' k lo,cpK false [o] K S=(K',S',0)/\S'.tt=⟨true,k,S.tt.i+1⟩/\S'.ld=S.ld ++ [⟨8*k+S.tt.i,o,K.vs o,(K.vc o+1) % 256,lo⟩]/\S'.fm=S.fm/\S'.fd=S.fd/\Fine K'.s/\(S.tt.o=true->k=S.tt.k)/\(S.tt.o=false->k=tkM K.F):=by
 obtain⟨m1,m2,m3,m4⟩:=hD.mem o (mem_cons_self ..);obtain⟨K1,D,lo,eco,a1,w1,on1,hDl,hDb,hz,hdt⟩:=Wg h hfi.on m1 m2;have f1:Fine K1.s:=by have:=Fine.coK hfi o;rw[eco] at this;exact this
 have h1:Sit K1 G (Xs S):=h.alk a1 w1;have hC1:Iy K1 G S:=hC.alk a1;have hi6:S.tt.i<8/\(o=24\/S.tt.i<6):=by
  by_cases e24:o=24
  ·exact⟨om,AK e24⟩
  ·have:=(h.wf.map.may o om).resolve_left m2;have:=h.wf.lt m1 m2;exact⟨om,AL om⟩
 obtain⟨K2,k,eti,kee2,hs2,htl2,hsp2,k12,kne,kF,ktt,h2,f2,n2,er2,al2,ldk,Fo,kz⟩:=L2 h1 hC1 (by rw[a1.F];exact hf) (by rw[a1.F];exact hv) m1 hi6;have hk:S.tt.o=false->k=tkM K.F:=fun e=>by
  have e2:=eti;unfold tiK at e2;rw[AI (by rw[e];decide)] at e2;by_cases e3:tkC K1.F≠0
  ·rw[AJ e3] at e2;have:=congrArg (fun x=>x.2.2.2) e2;exact absurd (show (14:Nat)=0 from this) dc
  ·rw[AI e3] at e2;have:=congrArg (fun x=>x.2.1.tt.k) e2;dsimp only at this;rw[<-this,a1.F];unfold AC.tkS;split <;> rfl
 have kee02:OH K K2:=a1.kee.trans kee2;have hp96:8*k+S.tt.i<96:=om
 have hpk:(8*k+S.tt.i) / 8=k:=om
 have hvs:=h.wf.vs o m1;have hvp:=h.wf.vp o m1 m2;have hl24:o=24->lo=false:=fun e=>by
  cases elo:lo
  ·rfl
  ·exact absurd (e ▸ hz elo) h.z24
 have hM:DV ((8*k+S.tt.i:Nat):Int) (o:Nat) (K2.vs o:Nat) (((K2.vc o+1) % 256:Nat):Int) lo:=by
  rw[kee02.vs];refine⟨⟨om,om,om,om⟩,?_⟩;by_cases e24:o=24
  ·exact AK ⟨om,hl24 e24⟩
  ·have:=hi6.2.resolve_left e24;exact AL ⟨om,om⟩
 have hE:cQ (8*k+S.tt.i) ⟨8*k+S.tt.i,o,K2.vs o,(K2.vc o+1) % 256,lo⟩ D:=⟨rfl,hM,hDl,hDb⟩;have hprm:prM K2 ⟨8*k+S.tt.i,o,K2.vs o,(K2.vc o+1) % 256,lo⟩ D=prK K2 ⟨8*k+S.tt.i,o,K2.vs o,(K2.vc o+1) % 256,lo⟩ D:=by
  unfold prM;rw[AI];rintro ⟨x,y⟩;have:=hl24 x;rw[this] at y;cases y
 have hpf:=MA (K:=K2) h2.wf h2.rep (t:=⟨8*k+S.tt.i,o,K2.vs o,(K2.vc o+1) % 256,lo⟩) hp96 hE (er2 S.tt.i (AM _) hi6.1) (by rw[hs2];exact f1);refine⟨_,{ S with tt:=⟨true,k,S.tt.i+1⟩,ld:=S.ld ++ [⟨8*k+S.tt.i,o,K.vs o,(K.vc o+1) % 256,lo⟩] },k,lo,?_,rfl,rfl,rfl,rfl,hpf.2,ktt,hk⟩;rw[cpK,AI (by simp),eco];dsimp only;rw[AI dc,eti];dsimp only;rw[AI dc,hprm,AI (by rw[hpf.1];simp),cpK,kee02.vs,kee02.vc]
theorem TE(L:Nat->Int)(n q:Int):AA.setC L n q=0\/AA.setC L n q=1\/AA.setC L n q=12:=by
 unfold AA.setC;split
 ·exact AL (AK rfl)
 ·split
  ·exact AL (AL rfl)
  ·exact AK rfl
theorem Nq:∀(l:List Bu) (K:BC),(cmL l K).2=0\/(cmL l K).2=1\/(cmL l K).2=12:=by
 intro l
 induction l with
 | nil=>intro K;exact AK rfl
 | cons t l ih=>
  intro K;unfold cmL;split
  ·exact TE _ _ _
  ·exact ih _
end
section
variable {w:Wd}{a:Act}{o:Oper}{ops:Array Oper}{Q:Exit->Act->World->Prop}{F:Nat->Int}{K:Act->World->Prop}{E:Prop}{rest:List Oper}
def cV (n c k r m v:Int):Nat->Int:=fun i=>if i=37 then n else if i=38 then c else if i=39 then k else if i=64 then r else if i=65 then m else if i=66 then v else 0
def Pl (K:BC):Nat->Int:=fun i=>if i<12 then K.F i else if i<37 then K.L (i - 12) else if i=37 then (K.nx:Nat) else if i=38 then (K.cu:Nat) else if i=39 then (K.ca:Nat) else if i<52 then K.hR (i - 40) else if i<64 then K.hS (i - 52) else if i=64 then K.rp else if i=65 then K.md else K.mv
theorem Ww(w:Wd):(zeroValue 40).run prog w=.ok (.agg (ints (fun _=>0) 67).toArray) w:=kr
theorem Jf:(prog.info? 40).map (·.size)=some 67:=kr
theorem aZ(w:Wd)(n c k r m v:Int):(Instr.build 40 #[(2,.int .i64 n),(3,.int .i64 c),(4,.int .i64 k),(7,.int .i64 r),(8,.int .i64 m),(9,.int .i64 v)]).run prog w=.ok (.agg (ints (cV n c k r m v) 67).toArray) w:=kr
theorem Ef{x1 x2 x3 x4 x5 x6:Operand}{n c k r m v:Int}(ho:o.op=.build 40 #[(2,x1),(3,x2),(4,x3),(7,x4),(8,x5),(9,x6)])(h1:a.eval x1=.int .i64 n)(h2:a.eval x2=.int .i64 c)(h3:a.eval x3=.int .i64 k)(h4:a.eval x4=.int .i64 r)(h5:a.eval x5=.int .i64 m)(h6:a.eval x6=.int .i64 v):(execOp a.eval o).run prog w=.ok (.value (.agg (ints (cV n c k r m v) 67).toArray)) w:=by
 have hb:=aZ w n c k r m v;unfold execOp;rw[ho];simp only[map_toArray,map_cons,map_nil,h1,h2,h3,h4,h5,h6];generalize Instr.build 40 #[(2,.int .i64 n),(3,.int .i64 c),(4,.int .i64 k),(7,.int .i64 r),(8,.int .i64 m),(9,.int .i64 v)]=b at *
 simp[hb]
theorem D6(hgd:o.guard=none)(ho:o.op=.alloc 40)(h:K (a.put o.dst (.pointer (some ⟨w.heap.size,0,none⟩))) (w.alloc (.cells (ints (fun _=>0) 67).toArray 40))):if Region.wanted o (yielded ops a.tmps)=true then Oper.wp prog o a w K Q else E:=by
 rw[AJ (by simp[Region.wanted,hgd])];have hz:=Ww;unfold Oper.wp;simp only[execOp,ho,Instr.alloc,newVar,Value.cells,newRow];generalize (ints (fun _=>0) 67).toArray=q at *
 simp[hz];exact h
theorem D7(hgd:o.guard=none)(x y:Operand)(ho:o.op=.store 40 x y)(g:Nat)(hx:a.eval x=.pointer (some ⟨g,0,none⟩))(F:Nat->Int)(hy:a.eval y=.agg (ints F 67).toArray){F0:Nat->Int}(hg:IB w g 40 67 F0)(h:∀w',IB w' g 40 67 F->Chg (·=g) w w'->K (a.put o.dst undef) w'):if Region.wanted o (yielded ops a.tmps)=true then Oper.wp prog o a w K Q else E:=by
 rw[AJ (by simp[Region.wanted,hgd])];exact wp_store_row 40 x y ho g _ hx hy 40 _ hg (by rw[Jf];simp[BD]) (by simp[BD]) (all_oneCell_toArray (CK _ _)) (h _ (setRow_heap w g _ _ 40 _ hg) (DF _ _ _))
theorem Ch(hgd:o.guard=none)(ho:o.op=.alloc 40)(h:wpList prog ops Q rest (a.put o.dst (.pointer (some ⟨w.heap.size,0,none⟩))) (w.alloc (.cells (ints (fun _=>0) 67).toArray 40))):wpList prog ops Q (o :: rest) a w:=by
 refine wpList_plain hgd fun K hK=>?_;have hz:=Ww;unfold Oper.wp;generalize (ints (fun _=>0) 67).toArray=q at *
 simp[execOp,ho,Instr.alloc,hz,newVar,Value.cells,newRow];exact hK _ _ h
def pt (o:Nat) (R F:Nat->Int):Nat->Int:=fun i=>if o<=i/\i<o+12 then R (i - o) else F i
theorem aa(o:Nat)(R F:Nat->Int)(ho:o+12<=67):(ints F 67).take o ++ ints R 12 ++ (ints F 67).drop (o+(ints R 12).length)=ints (pt o R F) 67:=by
 rw[BD];apply ext_getElem?;intro i;have l1:((ints F 67).take o).length=o:=by rw[length_take,BD];omega
 have l2:((ints F 67).take o ++ ints R 12).length=o+12:=by rw[AV,l1,BD]
 by_cases h1:i<o
 ·rw[Af om,Af om,List.getElem?_take_of_lt h1,BM _ _ _ om,BM _ _ _ om];simp only[pt];rw[AI om]
 ·by_cases h2:i<o+12
  ·rw[Af om,Aa om,l1,BM _ _ _ om,BM _ _ _ om];simp only[pt];rw[AJ om]
  ·rw[Aa om,l2,List.getElem?_drop,show o+12+(i - (o+12))=i by omega];by_cases h3:i<67
   ·rw[BM _ _ _ h3,BM _ _ _ h3];simp only[pt];rw[AI om]
   ·rw[Ae (by rw[BD];omega),Ae (by rw[BD];omega)]
theorem Eg{p:Oper}(hgd:p.guard=none)(d s:Operand)(ho:p.op=.call { callee:=.builtin .copy,args:=#[d,s],argTypes:=#[22,22] })(b o g:Nat)(hd:a.eval d=.slice (some ⟨b,o,none⟩) 12 12)(hs:a.eval s=.slice (some ⟨g,0,none⟩) 12 12){R:Nat->Int}(hC:IB w b 40 67 F)(hR:IB w g 3 12 R)(hn:o+12<=67)(h:∀w',IB w' b 40 67 (pt o R F)->Chg (·=b) w w'->K (a.put p.dst (goInt 12)) w') :if Region.wanted p (yielded ops a.tmps)=true then Oper.wp prog p a w K Q else E:=by
 have hw:Region.wanted p (yielded ops a.tmps)=true:=by simp[Region.wanted,hgd]
 rw[AJ hw];have hlen:(ints R 12).length=12:=BD _ _;have hsz:(ints F 67).toArray.size=67:=by rw[size_toArray,BD]
 have hrun:=run_copy_row (P:=prog) w 22 22 p.type 3 b o 12 12 ⟨g,0,none⟩ 12 12 (ints F 67).toArray 40 (ints R 12) underlying22 AE.size3 hC (by rw[hlen];rfl) (fun j v hv=>by
  have hj:j<12:=by have:=(List.getElem?_eq_some_iff.1 hv).1;rwa [hlen] at this
  rw[Addr.add_mid,BM _ _ _ hj] at *
  rw[<-hv,AW,(hR.cell j hj).1];rfl) (by rw[hlen,hsz];omega) (CK _ _)
 rw[show (ints F 67).toArray.toList=ints F 67 from rfl,aa o R F hn,hlen] at hrun;unfold Oper.wp;simp[execOp,ho,resolve,invoke,builtin,hd,hs,hrun,Result.andThen];exact h _ (setRow_heap w b _ _ 40 _ hC) (DF _ _ _)
theorem ac(F:Nat->Int):(prog.info? 40).map (·.size)=some (ints F 67).toArray.size:=by rw[size_toArray,BD];exact Jf
theorem J2(hgd:o.guard=none)(x:Operand)(ho:o.op=.load 40 x)(g:Nat)(hx:a.eval x=.pointer (some ⟨g,0,none⟩))(hg:IB w g 40 67 F)(h:wpList prog ops Q rest (a.put o.dst (.agg (ints F 67).toArray)) w):wpList prog ops Q (o :: rest) a w:=
 wpList_load_row hgd 40 x ho g hx 40 _ _ _ hg underlying40 rfl (ac F) h
theorem Ci(hgd:o.guard=none)(x y:Operand)(ho:o.op=.store 40 x y)(g:Nat)(hx:a.eval x=.pointer (some ⟨g,0,none⟩))(hy:a.eval y=.agg (ints F 67).toArray){F':Nat->Int}(hg:IB w g 40 67 F')(h:∀w',IB w' g 40 67 F->Chg (·=g) w w'->wpList prog ops Q rest (a.put o.dst undef) w'):wpList prog ops Q (o :: rest) a w:=
 wpList_store_row hgd 40 x y ho g _ hx hy 40 _ hg (ac F) (by simp[BD]) (all_oneCell_toArray (CK _ _)) (h _ (setRow_heap w g _ _ 40 _ hg) (DF _ _ _))
theorem Pm{fn:Func}{q:Tmp}(h:fn.results=#[.cell q 40])(tmps:Array Value){g:Nat}(hp:tmps.getD q undef=.pointer (some ⟨g,0,none⟩))(hT:IB w g 40 67 F) :(results fn tmps).run prog w=.ok (.agg (ints F 67).toArray) w:=
 results_cell_row h tmps w g 40 _ _ _ hp hT underlying40 rfl (ac F)
def cW (n:Nat) (L B:Nat->Int):Nat->Int:=fun j=>if 12<=j/\j<12+n then L (j - 12) else B j
theorem Ns(n:Nat)(L B:Nat->Int):upd (cW n L B) (12+n) (L n)=cW (n+1) L B:=by
 funext j;simp only[upd,cW];by_cases e:j=12+n
 ·subst e;rw[AJ rfl,AJ om,show 12+n - 12=n by omega]
 ·rw[AI e];by_cases h:12<=j/\j<12+n
  ·rw[AJ h,AJ om]
  ·rw[AI h,AI om]
theorem ae(F:Nat->Int)(i:Nat)(x y:Int):upd (upd F i x) i y=upd F i y:=by
 funext j;simp only[upd];by_cases e:j=i <;> simp[e]
theorem af(K:BC)(j:Nat)(hj:j<67):cW 25 K.L (pt 52 K.hS (pt 40 K.hR (pt 0 K.F (cV (K.nx:Nat) K.cu K.ca K.rp K.md K.mv)))) j=Pl K j:=by
 simp only[cW,pt,cV,Pl];by_cases h1:j<12
 ·rw[AI om,AI om,AI om,AJ om,AJ h1];rfl
 ·rw[AI h1];by_cases h2:j<37
  ·rw[AJ om,AJ h2]
  ·rw[AI om,AI h2];by_cases h3:j<40
   ·rw[AI om,AI om,AI om];obtain rfl | rfl | rfl:j=37\/j=38\/j=39:=om
    all_goals simp
   ·simp only[AI (show ¬ j=37 by omega),AI (show ¬ j=38 by omega),AI (show ¬ j=39 by omega)];by_cases h4:j<52
    ·rw[AI om,AJ om,AJ h4]
    ·rw[AI h4];by_cases h5:j<64
     ·rw[AJ om,AJ h5]
     ·rw[AI om,AI om,AI om,AI h5];obtain rfl | rfl | rfl:j=64\/j=65\/j=66:=om
      all_goals simp
theorem gk(A:Ad)(w:Wd)(K:BC)(h:CoreAt A w K):Calls prog 34 #[.pointer (some ⟨A.c,0,none⟩)] w fun e w'=>e=.returned (.agg (ints (Pl K) 67).toArray)/\CoreAt A w' K/\Chg No w w':=by
 have HK:=BB h;have HLOW0:=BB h.low;clear h;go_enter func34,ntmps34;go_wp2_with (refine Ch rfl rfl ?_);have HK0:=BB (HK.out.chg0 ((Chg.refl No w).alloc (.cells (ints (fun _=>0) 67).toArray 40)));have HR0:=BB (IB.new w 40 67 (fun _=>0));have HG0:Hid (Chg No w (w.alloc (.cells (ints (fun _=>0) 67).toArray 40))):=(Chg.refl _ w).alloc _;have HLOW:Hid (∀x,Cor A x\/x=A.p\/x=A.q->x<w.heap.size):=HLOW0.out;generalize w.alloc (.cells (ints (fun _=>0) 67).toArray 40)=w0 at *
 have HSS:Hid (∀u,CoreAt A u K->(u.cell? ⟨A.c,77,none⟩=some (.int .i64 (K.nx:Nat))/\u.cell? ⟨A.c,82,none⟩=some (.pointer (some ⟨A.pa,0,none⟩))/\u.cell? ⟨A.c,98,none⟩=some (.int .i64 K.rp)/\u.cell? ⟨A.c,99,none⟩=some (.int .i64 K.md)/\u.cell? ⟨A.c,100,none⟩=some (.int .i64 K.mv))):=fun u hu=>⟨hu.cNx.1,hu.cPat.1,hu.cRp.1,hu.cMd.1,hu.cMv.1⟩;refine wp_region_noPanic ?_;refine wp_region_held_drew (S:=fun wx=>wx.cell? ⟨A.c,77,none⟩=some (.int .i64 (K.nx:Nat))/\wx.cell? ⟨A.c,82,none⟩=some (.pointer (some ⟨A.pa,0,none⟩))/\wx.cell? ⟨A.c,98,none⟩=some (.int .i64 K.rp)/\wx.cell? ⟨A.c,99,none⟩=some (.int .i64 K.md)/\wx.cell? ⟨A.c,100,none⟩=some (.int .i64 K.mv)) kr (HSS.out _ (HK0.out.drewN 1)) (fun hHeld=>?_);refine Ab (i:=0) rfl kr kr kr (fun _ _ _ h=>h) (AK ⟨rfl,fun _ _=>rfl⟩) hHeld ?_;simp only[Act.put,getElem_toArray,getElem_cons_zero,setIfInBounds_toArray,set_cons_zero,set_cons_succ];refine Ab (i:=1) rfl kr kr kr (fun _ _ _ h=>h) (AK ⟨rfl,fun _ _=>rfl⟩) hHeld ?_;simp only[Act.put,bu];refine Ab (i:=2) rfl kr kr kr (fun _ _ _ h=>h) (AK ⟨rfl,fun _ _=>rfl⟩) hHeld ?_;simp only[Act.put,bu];refine Ab (i:=3) (v:=.int .i64 (K.nx:Nat)) rfl kr kr kr (fun _ _ _ h=>h) (AK ⟨rfl,fun w hw=>by obtain⟨s1,s2,s3,s4,s5⟩:=hw;go_simp⟩) hHeld ?_;simp only[Act.put,bu];refine Ab (i:=4) rfl kr kr kr (fun _ _ _ h=>h) (AK ⟨rfl,fun _ _=>rfl⟩) hHeld ?_;simp only[Act.put,bu];refine Ab (i:=5) rfl kr kr kr (fun _ _ _ h=>h) (AK ⟨rfl,fun _ _=>rfl⟩) hHeld ?_;simp only[Act.put,bu];refine Ab (i:=6) rfl kr kr kr (fun _ _ _ h=>h) (AK ⟨rfl,fun _ _=>rfl⟩) hHeld ?_;simp only[Act.put,bu];refine Ab (i:=7) (v:=.pointer (some ⟨A.pa,0,none⟩)) rfl kr kr kr (fun _ _ _ h=>h) (AK ⟨rfl,fun w hw=>by obtain⟨s1,s2,s3,s4,s5⟩:=hw;go_simp⟩) hHeld ?_;simp only[Act.put,bu];refine Ab (i:=9) rfl kr kr kr (fun _ _ _ h=>h) (AK ⟨rfl,fun _ _=>rfl⟩) hHeld ?_;simp only[Act.put,bu];refine Ab (i:=10) rfl kr kr kr (fun _ _ _ h=>h) (AK ⟨rfl,fun _ _=>rfl⟩) hHeld ?_;simp only[Act.put,bu];refine Ab (i:=11) rfl kr kr kr (fun _ _ _ h=>h) (AK ⟨rfl,fun _ _=>rfl⟩) hHeld ?_;simp only[Act.put,bu];refine Ab (i:=12) (v:=.pointer (some ⟨A.pa,0,none⟩)) rfl kr kr kr (fun _ _ _ h=>h) (AK ⟨rfl,fun w hw=>by obtain⟨s1,s2,s3,s4,s5⟩:=hw;go_simp⟩) hHeld ?_;simp only[Act.put,bu];refine Ab (i:=14) rfl kr kr kr (fun _ _ _ h=>h) (AK ⟨rfl,fun _ _=>rfl⟩) hHeld ?_;simp only[Act.put,bu];refine Ab (i:=15) rfl kr kr kr (fun _ _ _ h=>h) (AK ⟨rfl,fun _ _=>rfl⟩) hHeld ?_;simp only[Act.put,bu];refine Ab (i:=16) rfl kr kr kr (fun _ _ _ h=>h) (AK ⟨rfl,fun _ _=>rfl⟩) hHeld ?_;simp only[Act.put,bu];refine Ab (i:=17) (v:=.int .i64 K.rp) rfl kr kr kr (fun _ _ _ h=>h) (AK ⟨rfl,fun w hw=>by obtain⟨s1,s2,s3,s4,s5⟩:=hw;go_simp⟩) hHeld ?_;simp only[Act.put,bu];refine Ab (i:=18) rfl kr kr kr (fun _ _ _ h=>h) (AK ⟨rfl,fun _ _=>rfl⟩) hHeld ?_;simp only[Act.put,bu];refine Ab (i:=19) rfl kr kr kr (fun _ _ _ h=>h) (AK ⟨rfl,fun _ _=>rfl⟩) hHeld ?_;simp only[Act.put,bu];refine Ab (i:=20) rfl kr kr kr (fun _ _ _ h=>h) (AK ⟨rfl,fun _ _=>rfl⟩) hHeld ?_;simp only[Act.put,bu];refine Ab (i:=21) (v:=.int .i64 K.md) rfl kr kr kr (fun _ _ _ h=>h) (AK ⟨rfl,fun w hw=>by obtain⟨s1,s2,s3,s4,s5⟩:=hw;go_simp⟩) hHeld ?_;simp only[Act.put,bu];refine Ab (i:=22) rfl kr kr kr (fun _ _ _ h=>h) (AK ⟨rfl,fun _ _=>rfl⟩) hHeld ?_;simp only[Act.put,bu];refine Ab (i:=23) rfl kr kr kr (fun _ _ _ h=>h) (AK ⟨rfl,fun _ _=>rfl⟩) hHeld ?_;simp only[Act.put,bu];refine Ab (i:=24) rfl kr kr kr (fun _ _ _ h=>h) (AK ⟨rfl,fun _ _=>rfl⟩) hHeld ?_;simp only[Act.put,bu];refine Ab (i:=25) (v:=.int .i64 K.mv) rfl kr kr kr (fun _ _ _ h=>h) (AK ⟨rfl,fun w hw=>by obtain⟨s1,s2,s3,s4,s5⟩:=hw;go_simp⟩) hHeld ?_;simp only[Act.put,bu];refine wpAnyH_ready (rs:=[8,27]) kr (by simp) ?_;refine AllReadyH.cons rfl (fun K' hK=>?_) (AllReadyH.cons rfl (fun K' hK=>?_) AllReadyH.nil)
 case' refine_1=>
  go_simp;refine(AE.Ea _ A.pa K.cu K.ca (HK0.out.drewN 1).pat).mono ?_;rintro e w1 ⟨rfl,rfl⟩;refine hK.out _ _ (HSS.out _ (HK0.out.drewN 1)) (fun hHeld=>?_);clear hK K';refine wpAnyH_ready (rs:=[13,27]) kr (by simp) ?_;refine AllReadyH.cons rfl (fun K' hK=>?_) (AllReadyH.cons rfl (fun K' hK=>?_) AllReadyH.nil)
  case' refine_1=>
   go_simp;refine(AE.Ht _ A.pa K.cu K.ca (HK0.out.drewN 1).pat).mono ?_;rintro e w1 ⟨rfl,rfl⟩;refine hK.out _ _ (HSS.out _ (HK0.out.drewN 1)) (fun hHeld=>?_);clear hK K';refine Ab (i:=26) rfl kr kr kr (fun _ _ _ h=>h) (AK ⟨rfl,fun _ _=>Ef rfl rfl rfl rfl rfl rfl rfl⟩) hHeld ?_;simp only[Act.put,bu];refine wpAnyH_ready (rs:=[27]) kr (by simp) ?_;refine AllReadyH.cons rfl (fun K' hK=>?_) AllReadyH.nil;refine D6 rfl rfl ?_;refine hK.out _ _ (HSS.out _ ((HK0.out.drewN 1).chg0 ((Chg.refl No w0.drew).alloc (.cells (ints (fun _=>0) 67).toArray 40)))) (fun hHeld=>?_);clear hK K';simp only[Act.put,bu];refine wpAnyH_ready (rs:=[28]) kr (by simp) ?_;refine AllReadyH.cons rfl (fun K' hK=>?_) AllReadyH.nil;refine D7 rfl (.tmp 3) (.tmp 33) rfl w0.heap.size rfl (cV (K.nx:Nat) K.cu K.ca K.rp K.md K.mv) rfl (IB.new w0.drew 40 67 (fun _=>0)) ?_;intro w2 C2 G2;have K2:=((HK0.out.drewN 1).chg0 ((Chg.refl No w0.drew).alloc (.cells (ints (fun _=>0) 67).toArray 40))).far HLOW.out (Nat.le_of_lt HR0.out.lt) G2;refine hK.out _ _ (HSS.out _ K2) (fun hHeld=>?_);clear hK K' hHeld;simp only[Act.put,getElem_toArray,getElem_cons_zero,getElem_cons_succ];refine wpAnyH_done kr ?_ _;refine NoPanic.normal ?_;have HR2:=BB ((HR0.out.chg ((Chg.refl No w0).drew.alloc (.cells (ints (fun _=>0) 67).toArray 40)) (fun f=>f)).chg G2 (by have:=HR0.out.lt;omega));have HG2:=BB ((HG0.out.trans ((Chg.refl No w0).drew.alloc (.cells (ints (fun _=>0) 67).toArray 40))).trans' G2 (fun k hk e=>by have:=HG0.out.size;omega));have HC2:=BB C2;have HK2:=BB K2;clear C2 G2 K2
  case' refine_2=>
   refine D6 rfl rfl ?_;refine hK.out _ _ (HSS.out _ ((HK0.out.drewN 1).chg0 ((Chg.refl No w0.drew).alloc (.cells (ints (fun _=>0) 67).toArray 40)))) (fun hHeld=>?_);clear hK K';simp only[Act.put,bu];refine wpAnyH_ready (rs:=[13]) kr (by simp) ?_;refine AllReadyH.cons rfl (fun K' hK=>?_) AllReadyH.nil;go_simp;refine(AE.Ht _ A.pa K.cu K.ca ((HK0.out.drewN 1).chg0 ((Chg.refl No w0.drew).alloc (.cells (ints (fun _=>0) 67).toArray 40))).pat).mono ?_;rintro e w1 ⟨rfl,rfl⟩;refine hK.out _ _ (HSS.out _ ((HK0.out.drewN 1).chg0 ((Chg.refl No w0.drew).alloc (.cells (ints (fun _=>0) 67).toArray 40)))) (fun hHeld=>?_);clear hK K';refine Ab (i:=26) rfl kr kr kr (fun _ _ _ h=>h) (AK ⟨rfl,fun _ _=>Ef rfl rfl rfl rfl rfl rfl rfl⟩) hHeld ?_;simp only[Act.put,bu];refine wpAnyH_ready (rs:=[28]) kr (by simp) ?_;refine AllReadyH.cons rfl (fun K' hK=>?_) AllReadyH.nil;refine D7 rfl (.tmp 3) (.tmp 33) rfl w0.heap.size rfl (cV (K.nx:Nat) K.cu K.ca K.rp K.md K.mv) rfl (IB.new w0.drew 40 67 (fun _=>0)) ?_;intro w2 C2 G2;have K2:=((HK0.out.drewN 1).chg0 ((Chg.refl No w0.drew).alloc (.cells (ints (fun _=>0) 67).toArray 40))).far HLOW.out (Nat.le_of_lt HR0.out.lt) G2;refine hK.out _ _ (HSS.out _ K2) (fun hHeld=>?_);clear hK K' hHeld;simp only[Act.put,getElem_toArray,getElem_cons_zero,getElem_cons_succ];refine wpAnyH_done kr ?_ _;refine NoPanic.normal ?_;have HR2:=BB ((HR0.out.chg ((Chg.refl No w0).drew.alloc (.cells (ints (fun _=>0) 67).toArray 40)) (fun f=>f)).chg G2 (by have:=HR0.out.lt;omega));have HG2:=BB ((HG0.out.trans ((Chg.refl No w0).drew.alloc (.cells (ints (fun _=>0) 67).toArray 40))).trans' G2 (fun k hk e=>by have:=HG0.out.size;omega));have HC2:=BB C2;have HK2:=BB K2;clear C2 G2 K2
 case' refine_2=>
  refine D6 rfl rfl ?_;refine hK.out _ _ (HSS.out _ ((HK0.out.drewN 1).chg0 ((Chg.refl No w0.drew).alloc (.cells (ints (fun _=>0) 67).toArray 40)))) (fun hHeld=>?_);clear hK K';simp only[Act.put,bu];refine wpAnyH_ready (rs:=[8]) kr (by simp) ?_;refine AllReadyH.cons rfl (fun K' hK=>?_) AllReadyH.nil;go_simp;refine(AE.Ea _ A.pa K.cu K.ca ((HK0.out.drewN 1).chg0 ((Chg.refl No w0.drew).alloc (.cells (ints (fun _=>0) 67).toArray 40))).pat).mono ?_;rintro e w1 ⟨rfl,rfl⟩;refine hK.out _ _ (HSS.out _ ((HK0.out.drewN 1).chg0 ((Chg.refl No w0.drew).alloc (.cells (ints (fun _=>0) 67).toArray 40)))) (fun hHeld=>?_);clear hK K';refine wpAnyH_ready (rs:=[13]) kr (by simp) ?_;refine AllReadyH.cons rfl (fun K' hK=>?_) AllReadyH.nil;go_simp;refine(AE.Ht _ A.pa K.cu K.ca ((HK0.out.drewN 1).chg0 ((Chg.refl No w0.drew).alloc (.cells (ints (fun _=>0) 67).toArray 40))).pat).mono ?_;rintro e w1 ⟨rfl,rfl⟩;refine hK.out _ _ (HSS.out _ ((HK0.out.drewN 1).chg0 ((Chg.refl No w0.drew).alloc (.cells (ints (fun _=>0) 67).toArray 40)))) (fun hHeld=>?_);clear hK K';refine Ab (i:=26) rfl kr kr kr (fun _ _ _ h=>h) (AK ⟨rfl,fun _ _=>Ef rfl rfl rfl rfl rfl rfl rfl⟩) hHeld ?_;simp only[Act.put,bu];refine wpAnyH_ready (rs:=[28]) kr (by simp) ?_;refine AllReadyH.cons rfl (fun K' hK=>?_) AllReadyH.nil;refine D7 rfl (.tmp 3) (.tmp 33) rfl w0.heap.size rfl (cV (K.nx:Nat) K.cu K.ca K.rp K.md K.mv) rfl (IB.new w0.drew 40 67 (fun _=>0)) ?_;intro w2 C2 G2;have K2:=((HK0.out.drewN 1).chg0 ((Chg.refl No w0.drew).alloc (.cells (ints (fun _=>0) 67).toArray 40))).far HLOW.out (Nat.le_of_lt HR0.out.lt) G2;refine hK.out _ _ (HSS.out _ K2) (fun hHeld=>?_);clear hK K' hHeld;simp only[Act.put,getElem_toArray,getElem_cons_zero,getElem_cons_succ];refine wpAnyH_done kr ?_ _;refine NoPanic.normal ?_;have HR2:=BB ((HR0.out.chg ((Chg.refl No w0).drew.alloc (.cells (ints (fun _=>0) 67).toArray 40)) (fun f=>f)).chg G2 (by have:=HR0.out.lt;omega));have HG2:=BB ((HG0.out.trans ((Chg.refl No w0).drew.alloc (.cells (ints (fun _=>0) 67).toArray 40))).trans' G2 (fun k hk e=>by have:=HG0.out.size;omega));have HC2:=BB C2;have HK2:=BB K2;clear C2 G2 K2
 all_goals
  have hN0:=HR0.out.lt;have hNG:=HC2.out.lt;obtain⟨N,HN⟩:∃N,Hid (N=w0.heap.size):=⟨_,rfl⟩;rw[<-HN.out] at HC2 hNG hN0
  try rw[show (w0.drewN 1).heap.size=N from HN.out.symm]
  try rw[show w0.drew.heap.size=N from HN.out.symm]
  try rw[show w0.heap.size=N from HN.out.symm]
  have hs1:=AE.Dc N 0;obtain⟨c1,-⟩:=HK2.out.cPool;have hne2:¬ w.heap.size=N:=om
  clear HK0 HK HG0 HR0 HSS;go_wp2_with fail
  go_region_held3 (fun wx=>wx.cell? ⟨A.c,1,none⟩=some (.pointer (some ⟨A.po,0,none⟩)))
   (first | exact c1 | exact z1 | exact y1)
   (first
    | (refine Eg rfl (.tmp 35) (.tmp 40) rfl N 0 w2.heap.size rfl rfl HC3.out HI3.out om ?_;intro w4 C4 G4;have HC4:=BB C4;have K4:=HK3.out.far HLOW.out (Nat.le_of_lt hN0) G4;obtain⟨y1,-⟩:=K4.cPool;have HK4:=BB K4;have HR4:=BB (HR3.out.chg G4 hne2);have HG4:=BB (HG3.out.trans' G4 (fun k hk e=>om));clear C4 G4 K4 HC3 HI3 HK3 HR3 HG3)
    | (go_at_call 53;refine(AD.Dj _ A.po K.F (HK2.out.drewN 1).pool).mono ?_;rintro e w3 ⟨rfl,I3,G3⟩;have K3:=(HK2.out.drewN 1).chg0 G3;obtain⟨z1,-⟩:=K3.cPool;have HI3:=BB I3;have HK3:=BB K3;have HC3:=BB ((HC2.out.chg (Chg.refl No w2).drew (fun f=>f)).chg G3 (fun f=>f));have HR3:=BB ((HR2.out.chg (Chg.refl No w2).drew (fun f=>f)).chg G3 (fun f=>f));have HG3:=BB (HG2.out.drew.trans G3);clear I3 G3 K3))
  all_goals
   have hs2:=AE.Dc N 40;obtain⟨c96,-⟩:=HK4.out.cHea;clear hs1 c1;go_wp2_with fail
   go_region_held3 (fun wx=>wx.cell? ⟨A.c,96,none⟩=some (.pointer (some ⟨A.h,0,none⟩)))
    (first | exact c96 | exact z96 | exact y96)
    (first
     | (refine Eg rfl (.tmp 43) (.tmp 48) rfl N 40 (w4.heap.size+1) rfl rfl HC6.out HI6.out om ?_;intro w7 C7 G7;have HC7:=BB C7;have K7:=HK6.out.far HLOW.out (Nat.le_of_lt hN0) G7;obtain⟨y96,-⟩:=K7.cHea;have HK7:=BB K7;have HR7:=BB (HR6.out.chg G7 hne2);have HG7:=BB (HG6.out.trans' G7 (fun k hk e=>om));clear C7 G7 K7 HC6 HI6 HK6 HR6 HG6)
     | (go_at_call 54;refine(AF.Qp _ A.h K.hR K.hN K.hS (HK4.out.drewN 1).hea HK4.out.wf.hea).mono ?_;rintro e w6 ⟨rfl,I6,G6⟩;have K6:=(HK4.out.drewN 1).chg0 G6;obtain⟨z96,-⟩:=K6.cHea;have HI6:=BB I6;have HK6:=BB K6;have HC6:=BB ((HC4.out.chg (Chg.refl No w4).drew (fun f=>f)).chg G6 (fun f=>f));have HR6:=BB ((HR4.out.chg (Chg.refl No w4).drew (fun f=>f)).chg G6 (fun f=>f));have HG6:=BB (HG4.out.drew.trans G6);clear I6 G6 K6))
   all_goals
    have hs3:=AE.Dc N 52;obtain⟨c96,-⟩:=HK7.out.cHea;clear hs2;go_wp2_with fail
    go_region_held3 (fun wx=>wx.cell? ⟨A.c,96,none⟩=some (.pointer (some ⟨A.h,0,none⟩)))
     (first | exact c96 | exact z96 | exact y96)
     (first
      | (refine Eg rfl (.tmp 51) (.tmp 56) rfl N 52 (w7.heap.size+1) rfl rfl HC8.out HI8.out om ?_;intro w9 C9 G9;have HC9:=BB C9;have K9:=HK8.out.far HLOW.out (Nat.le_of_lt hN0) G9;obtain⟨y96,-⟩:=K9.cHea;have HK9:=BB K9;have HR9:=BB (HR8.out.chg G9 hne2);have HG9:=BB (HG8.out.trans' G9 (fun k hk e=>om));clear C9 G9 K9 HC8 HI8 HK8 HR8 HG8)
      | (go_at_call 55;refine(AF.NQ _ A.h K.hR K.hN K.hS (HK7.out.drewN 1).hea HK7.out.wf.hea).mono ?_;rintro e w8 ⟨rfl,I8,G8⟩;have K8:=(HK7.out.drewN 1).chg0 G8;obtain⟨z96,-⟩:=K8.cHea;have HI8:=BB I8;have HK8:=BB K8;have HC8:=BB ((HC7.out.chg (Chg.refl No w7).drew (fun f=>f)).chg G8 (fun f=>f));have HR8:=BB ((HR7.out.chg (Chg.refl No w7).drew (fun f=>f)).chg G8 (fun f=>f));have HG8:=BB (HG7.out.drew.trans G8);clear I8 G8 K8))
    all_goals
     clear c96 hs3;generalize HBB:pt 52 K.hS (pt 40 K.hR (pt 0 K.F (cV (K.nx:Nat) K.cu K.ca K.rp K.md K.mv)))=B at HC9;have HB:=BB HBB;clear HBB;go_wp2_with fail
     go_loopg [58] 25 (fun kx s58 wr=>∃i:Nat,s58=.int .i64 i/\i<=25/\25 - i<=kx/\Hid (IB wr N 40 67 (cW i K.L B))/\Hid (CoreAt A wr K)/\Hid (IB wr w.heap.size 40 67 (fun _=>0))/\Hid (Chg No w wr))
     case atStart=>exact⟨0,rfl,om,om,(HC9.out.congr (fun j _=>(AI om).symm)),HK9.out,HR9.out,HG9.out⟩
     case round=>
      obtain⟨i,rfl,hi25,hkx,HC,HKr,HR,HG⟩:=hrel;by_cases hlt:i<25
      ·have hltz:(i:Int)<25:=om;obtain⟨cb,fb⟩:=HC.out.cell (12+i) om;have GN:Chg (·=N) wr (wr.setCell ⟨N,12+i,none⟩ (.int .i64 (-1))):=(Chg.refl (·=N) wr).setCell (AK rfl) _ _;have HC4:=BB (HC.out.set (12+i) (-1));have K4:=HKr.out.far HLOW.out (Nat.le_of_lt hN0) GN;obtain⟨c2,-⟩:=K4.cMap;have HK4:=BB K4;have HR4:=BB (HR.out.chg GN hne2);have HG4:=BB (HG.out.trans' GN (fun k hk e=>om));clear K4 GN HC HKr HR HG;by_cases hL:K.L i = -1
       ·have hat:=AA.Lc _ A.ma K.L HK4.out.map i hlt hL;have HC5:Hid (IB (wr.setCell ⟨N,12+i,none⟩ (.int .i64 (-1))) N 40 67 (cW (i+1) K.L B)):=by
         have:=HC4.out;rw[<-hL,Ns] at this;rw[hL] at this;exact this
        clear HC4 hL;go_wp2_with fail;refine hat.mono ?_;rintro e w5 ⟨rfl,rfl⟩;go_wp2
        go_roundg (25 - (i+1))
        case measure=>omega
        case rel=>exact⟨i+1,by simp,om,AM _,HC5.out,HK4.out,HR4.out,HG4.out⟩
       ·have hat:=AA.PI _ A.ma K.L HK4.out.map i hlt hL;obtain⟨cb5,fb5⟩:=HC4.out.cell (12+i) om;have GN5:Chg (·=N) (wr.setCell ⟨N,12+i,none⟩ (.int .i64 (-1))) ((wr.setCell ⟨N,12+i,none⟩ (.int .i64 (-1))).setCell ⟨N,12+i,none⟩ (.int .i64 (K.L i))):=(Chg.refl (·=N) _).setCell (AK rfl) _ _;have HC5:Hid (IB ((wr.setCell ⟨N,12+i,none⟩ (.int .i64 (-1))).setCell ⟨N,12+i,none⟩ (.int .i64 (K.L i))) N 40 67 (cW (i+1) K.L B)):=by
         have:=HC4.out.set (12+i) (K.L i);rw[ae,Ns] at this;exact this
        have HK5:=BB (HK4.out.far HLOW.out (Nat.le_of_lt hN0) GN5);have HR5:=BB (HR4.out.chg GN5 hne2);have HG5:=BB (HG4.out.trans' GN5 (fun k hk e=>om));clear HC4 HK4 HR4 HG4 GN5 hL;go_wp2_with fail;refine hat.mono ?_;rintro e w5 ⟨rfl,rfl⟩;go_wp2
        go_roundg (25 - (i+1))
        case measure=>omega
        case rel=>exact⟨i+1,by simp,om,AM _,HC5.out,HK5.out,HR5.out,HG5.out⟩
      ·have hltz:¬ (i:Int)<25:=om;have e25:i=25:=om;subst e25;go_wp2_with (first | refine J2 rfl (.tmp 3) rfl N rfl HC.out ?_ | refine Ci rfl (.tmp 2) (.tmp 80) rfl w.heap.size rfl rfl HR.out ?_);intro w10 C10 G10;have HC10:Hid (IB w10 w.heap.size 40 67 (Pl K)):=C10.congr (fun j hj=>by rw[<-HB.out];exact af K j hj);have HK10:=BB (HKr.out.far HLOW.out (AM _) G10);have HG10:=BB (HG.out.trans' G10 (fun k hk e=>om));clear C10 G10 HC HKr HR HG;go_wp2;refine AZ (Pm rfl _ rfl HC10.out) rfl ?_;exact⟨rfl,HK10.out,HG10.out⟩
end
end Go.Proofs.YtbhbilcieodbhaaGreat
namespace Go.Proofs.YtbhbilcieodbhaaGreat.AH
open List
open Go.Proofs.Tryz
open AB
open Go.Sort
abbrev Bt:=Int × Int × Int × Int × Int × Bool
abbrev Bt.P (f:Bt):Int:=f.1
abbrev Bt.T (f:Bt):Int:=f.2.1
abbrev Bt.O (f:Bt):Int:=f.2.2.1
abbrev Bt.S (f:Bt):Int:=f.2.2.2.1
abbrev Bt.C (f:Bt):Int:=f.2.2.2.2.1
abbrev Bt.L (f:Bt):Bool:=f.2.2.2.2.2
def f0:Bt:=⟨0,0,0,0,0,false⟩
def fL (f:Bt):List Value:=[.int .i64 f.P,.int .i64 f.T,.int .i64 f.O,.int .i64 f.S,.int .i64 f.C,.bool f.L]
def fA (f:Bt):Array Value:=(fL f).toArray
theorem EP(f:Bt):(fL f).length=6:=rfl
theorem Wx(f:Bt):∀v ∈ fL f,v.oneCell'=true:=by
 intro v hv;simp only[fL,mem_cons,not_mem_nil,or_false] at hv;rcases hv with rfl | rfl | rfl | rfl | rfl | rfl <;> rfl
def snd (f:Bt):Bool:=decide (0<=f.P) && decide (f.P<96) && decide (0<=f.O) && decide (f.O<25) && decide (0<=f.S) && decide (f.S<1099511627776) && decide (0<=f.C) && decide (f.C<256)
theorem ag(f:Bt):snd f=true<->0<=f.P/\f.P<96/\0<=f.O/\f.O<25/\0<=f.S/\f.S<1099511627776/\0<=f.C/\f.C<256:=by
 simp[snd,and_assoc]
def nU (a b:Int):Bool:=decide (0<=a) && decide (a<256) && decide (0<=b) && decide (b<256) && decide (1<=(b - a) % 256) && decide ((b - a) % 256<=127)
def my (of ab:Int) (f:Bt):Bool:=snd f && decide (f.O=of) && decide (ab<f.S)
def mx (l:List Bt):Int:=l.foldl (fun t f=>if t<f.S then f.S else t) (-1)
def nV (l:List Bt) (of ab:Int):List Bt:=(l.filter (my of ab)).filter fun f=>decide (f.S=mx (l.filter (my of ab)))
def TF (l:List Bt):List Bt:=(List.range 96).flatMap fun (p:Nat)=>l.filter fun f=>decide (f.P=(p:Int))
def mz (l:List Bt) (of ab:Int):List Bt:=TF (nV l of ab)
def mF (b:Bt) (r:List Bt):Bt:=r.foldl (fun b f=>if nU f.C b.C then f else b) b
def pk:List Bt->Option Bt
 | []=>none
 | x :: r=>some (mF x r)
def newest (l:List Bt) (of ab:Int):Option Bt:=pk (mz l of ab)
theorem ai{l:List Bt}{f:Bt}:f ∈ TF l<->f ∈ l/\0<=f.P/\f.P<96:=by
 unfold TF;rw[mem_flatMap];constructor
 ·rintro ⟨q,hq,h⟩;have h1:=mem_filter.1 h;have h2:=h1.2;simp only[Al] at h2;rw[mem_range] at hq;exact⟨h1.1,om,om⟩
 ·rintro ⟨h,h1,h2⟩;exact⟨f.P.toNat,mem_range.2 om,mem_filter.2 ⟨h,by simp only[Al];omega⟩⟩
end Go.Proofs.YtbhbilcieodbhaaGreat.AH
namespace Go.Proofs.YtbhbilcieodbhaaGreat.AH
open List
open Go.Proofs.Tryz
open Go.RowKit
open AB
open Go.RowKit Go.Sort
section
variable {w w':Wd}{f:Bt}{v:Value}{l:List Bt}{ops:Array Oper}{rest:List Oper}{o:Oper}{a:Act}{Q:Exit->Act->World->Prop}{base b g:Nat}{S:Nat->Prop}
theorem gn(f:Bt):(fA f).all (·.oneCell')=true:=all_oneCell_toArray (Wx f)
def Fo (w:Wd) (b:Nat) (f:Bt):Prop:=w.heap[b]?=some (.cells (fA f) 219)
theorem Fo.new(w:Wd)(f:Bt):Fo (w.alloc (.cells (fA f) 219)) w.heap.size f:=by
 show (w.heap.push _)[w.heap.size]?=_;simp
theorem Fo.lt(h:Fo w b f):b<w.heap.size:=(Array.getElem?_eq_some_iff.1 (show w.heap[b]?=some _ from h)).1
theorem Fo.chg(h:Fo w b f)(hc:Chg S w w')(hb:¬ S b):Fo w' b f:=(hc.block b h.lt hb).trans h
theorem Fo.cell(h:Fo w b f)(i:Nat)(hv:(fL f)[i]?=some v):w.cell? ⟨b,i,none⟩=some v:=by
 have h':w.heap[b]?=some _:=h;simp only[World.cell?,h',fA];simpa using hv
theorem Fo.cells(h:Fo w b f):w.cell? ⟨b,0,none⟩=some (.int .i64 f.P)/\w.cell? ⟨b,1,none⟩=some (.int .i64 f.T)/\w.cell? ⟨b,2,none⟩=some (.int .i64 f.O)/\w.cell? ⟨b,3,none⟩=some (.int .i64 f.S)/\w.cell? ⟨b,4,none⟩=some (.int .i64 f.C)/\w.cell? ⟨b,5,none⟩=some (.bool f.L):=
 ⟨h.cell 0 rfl,h.cell 1 rfl,h.cell 2 rfl,h.cell 3 rfl,h.cell 4 rfl,h.cell 5 rfl⟩
theorem MC:(prog.info? 219).map (·.size)=some 6:=kr
theorem CU(hgd:o.guard=none)(x:Operand)(ho:o.op=.load 219 x)(g:Nat)(hx:a.eval x=.pointer (some ⟨g,0,none⟩))(hg:Fo w g f)(h:wpList prog ops Q rest (a.put o.dst (.agg (fA f))) w):wpList prog ops Q (o :: rest) a w:=
 wpList_load_row hgd 219 x ho g hx 219 _ _ _ hg underlying219 rfl MC h
theorem FL(hgd:o.guard=none)(x:Operand)(ho:o.op=.load 219 x)(g q:Nat)(hx:a.eval x=.pointer (some ⟨g,q,none⟩))(hg:w.rangeAt g q (fL f))(h:wpList prog ops Q rest (a.put o.dst (.agg (fA f))) w):wpList prog ops Q (o :: rest) a w:=
 wpList_load_mid hgd 219 x ho g q hx (fL f) _ hg underlying219 rfl MC h
theorem wpList_store_fo(hgd:o.guard=none)(x y:Operand)(ho:o.op=.store 219 x y)(g:Nat)(hx:a.eval x=.pointer (some ⟨g,0,none⟩))(hy:a.eval y=.agg (fA f)){f':Bt}(hg:Fo w g f')(h:∀w',Fo w' g f->Chg (·=g) w w'->wpList prog ops Q rest (a.put o.dst undef) w'):wpList prog ops Q (o :: rest) a w:=
 wpList_store_row hgd 219 x y ho g _ hx hy 219 _ hg MC rfl (gn f) (h _ (setRow_heap w g _ _ 219 _ hg) ⟨rfl,rfl,rfl,by simp,fun k _ hk=>setRow_other _ _ _ _ hk⟩)
theorem gt(w:Wd):(zeroValue 219).run prog w=.ok (.agg (fA f0)) w:=kr
theorem aj(w:Wd):(Instr.build 219 #[]).run prog w=.ok (.agg (fA f0)) w:=kr
theorem Bw(hgd:o.guard=none)(ho:o.op=.alloc 219)(N:Nat)(hN:w.heap.size=N)(h:∀w',Fo w' N f0->Chg No w w'->w'.heap.size=N+1->wpList prog ops Q rest (a.put o.dst (.pointer (some ⟨N,0,none⟩))) w'):wpList prog ops Q (o :: rest) a w:=by
 refine wpList_plain hgd fun K hK=>?_;have hz:=gt;unfold Oper.wp;simp[execOp,ho,Instr.alloc,hz,newVar,Value.cells,newRow];rw[hN];exact hK _ _ (h _ (by rw[<-hN];exact Fo.new w f0) ((Chg.refl _ w).alloc _) (by simp[hN]))
theorem wpList_build_fo(hgd:o.guard=none)(ho:o.op=.build 219 #[])(h:wpList prog ops Q rest (a.put o.dst (.agg (fA f0))) w):wpList prog ops Q (o :: rest) a w:=by
 refine wpList_plain hgd fun K hK=>?_;have hz:=aj;unfold Oper.wp;simp[execOp,ho,hz];exact hK _ _ h
def Wy (w:Wd) (g o:Nat) (l:List Bt):Prop:=g<w.heap.size/\∀i f,l[i]?=some f->w.rangeAt g (o+i*6) (fL f)
def Sl (w:Wd) (v:Value) (l:List Bt):Prop:=∃a cap,v=.slice a l.length cap/\l.length<=cap/\(l.length=0\/∃g o,a=some ⟨g,o,none⟩/\Wy w g o l)
theorem Nt{o:Nat}{cs:List Value}(h:w.rangeAt g o cs)(hc:Chg S w w')(hg:g<w.heap.size)(hs:¬ S g):w'.rangeAt g o cs:=fun j v hv=>(hc.cell hg hs _).trans (h j v hv)
theorem Wy.chg{o:Nat}(h:Wy w g o l)(hc:Chg S w w')(hs:¬ S g):Wy w' g o l:=
 ⟨Aj h.1 hc.size,fun i f hi=>Nt (h.2 i f hi) hc h.1 hs⟩
theorem Sl.new(h:Sl w v l)(hc:Chg No w w'):Sl w' v l:=by
 obtain⟨a,cap,rfl,hcap,h⟩:=h;refine⟨a,cap,rfl,hcap,?_⟩;rcases h with h | ⟨g,o,rfl,h⟩
 ·exact AK h
 ·exact AL ⟨g,o,rfl,h.chg hc (fun f=>f)⟩
def Ow (w:Wd) (base:Nat) (v:Value) (l:List Bt):Prop:=w.ownsRow base 219 6 v l.length (l.flatMap fL)
theorem J3:∀(l:List Bt) (i:Nat) (f:Bt) (j:Nat),l[i]?=some f->j<6->(l.flatMap fL)[i*6+j]?=(fL f)[j]?
 | [],i,f,j,h,_=>by simp at h
 | x :: r,0,f,j,h,hj=>by
  have e:x=f:=by simpa using h
  subst e
  rw[flatMap_cons,Nat.zero_mul,AW,Af (by rw[EP];exact hj)]
 | x :: r,i+1,f,j,h,hj=>by
  have h':r[i]?=some f:=by simpa using h
  rw[flatMap_cons,Aa (by rw[EP];omega),EP,show (i+1)*6+j - 6=i*6+j by omega,J3 r i f j h' hj]
theorem Du(l:List Bt):(l.flatMap fL).length=l.length*6:=by
 induction l with
 | nil=>rfl
 | cons x r ih=>rw[flatMap_cons,AV,ih,EP,An];omega
theorem Wz(l:List Bt):∀v ∈ l.flatMap fL,v.oneCell'=true:=by
 intro v hv;obtain⟨f,_,h⟩:=mem_flatMap.1 hv;exact Wx f v h
theorem Ow.nil(w:Wd)(base:Nat):Ow w base (.slice none 0 0) []:=⟨rfl,AK ⟨rfl,rfl⟩⟩
theorem Ow.lies(h:Ow w base v l)(h0:l.length≠0) :∃g cap,v=.slice (some ⟨g,0,none⟩) l.length cap/\l.length<=cap/\base<=g/\Wy w g 0 l/\(∀i,w.frozen? ⟨g,i,none⟩=false)/\∀j u,(l.flatMap fL)[j]?=some u->w.cell? ⟨g,j,none⟩=some u:=by
 have hcl:=fun g hg=>World.ownsRow.cells (g:=g) h hg;rcases h.2 with ⟨_,h1⟩ | ⟨g,cap,cur,hv,hg,hh,hn,hm,hs,ht⟩
 ·exact absurd h1 h0
 ·have hc:∀j u,(l.flatMap fL)[j]?=some u->w.cell? ⟨g,j,none⟩=some u:=fun j u hu=>by
   have:=hcl g (by rw[hv];rfl) j u hu;rw[Addr.add_mid,AW] at this;exact this
  refine⟨g,cap,hv,hn,hg,⟨(Array.getElem?_eq_some_iff.1 hh).1,fun i f hi j u hu=>?_⟩,fun i=>by simp[World.frozen?,hh],hc⟩;have hj:j<6:=by have:=(List.getElem?_eq_some_iff.1 hu).1;rwa [EP] at this
  rw[AW];exact hc _ _ ((J3 l i f j hi hj).trans hu)
theorem Ow.sl(h:Ow w base v l):Sl w v l:=by
 by_cases h0:l.length=0
 ·rcases h.2 with ⟨rfl,_⟩ | ⟨g,cap,cur,rfl,_⟩
  ·exact⟨none,0,by rw[h0],om,AK h0⟩
  ·exact⟨_,cap,rfl,om,AK h0⟩
 ·obtain⟨g,cap,rfl,hcap,_,hA,_⟩:=h.lies h0;exact⟨_,cap,rfl,hcap,AL ⟨g,0,rfl,hA⟩⟩
theorem Ow.keep(h:Ow w base v l)(hk:∀k,k<w.heap.size->v.ownBlock=some k->w'.heap[k]?=w.heap[k]?):Ow w' base v l:=by
 refine⟨h.1,?_⟩;rcases h.2 with h1 | ⟨g,cap,cur,rfl,hb,hh,r⟩
 ·exact AK h1
 ·exact AL ⟨g,cap,cur,rfl,hb,(hk g (Array.getElem?_eq_some_iff.1 hh).1 rfl).trans hh,r⟩
theorem Ow.chg(h:Ow w base v l)(hc:Chg S w w')(hs:∀k,k<w.heap.size->v.ownBlock=some k->¬ S k):Ow w' base v l:=
 h.keep (fun k hk he=>hc.block k hk (hs k hk he))
theorem Ow.new(h:Ow w base v l)(hc:Chg No w w'):Ow w' base v l:=h.chg hc (fun _ _ _ f=>f)
theorem Ow.block(h:Ow w base v l){k:Nat}(hk:v.ownBlock=some k):base<=k/\k<w.heap.size:=h.lt k hk
theorem gw:∃i,prog.info? 219=some i/\i.zero=some (.agg (fA f0))/\i.size=6/\i.bytes=48:=by
 have h:(prog.info? 219).map (fun i=>(i.zero,i.size,i.bytes))=some (some (.agg (fA f0)),6,48):=kr
 cases e:prog.info? 219 with
 | none=>rw[e] at h;cases h
 | some i=>
  rw[e] at h;simp only[Option.map_some,Option.some.injEq,Prod.mk.injEq] at h;exact⟨i,rfl,h.1,h.2.1,h.2.2⟩
theorem H6(w:Wd)(hgd:o.guard=none)(s x:Operand)(ho:o.op=.call { callee:=.builtin .append,args:=#[s,x],argTypes:=#[144,144] })(base:Nat)(v:Value)(l:List Bt)(hs:a.eval s=v)(hown:Ow w base v l)(g q m c:Nat)(l2:List Bt)(hx:a.eval x=.slice (some ⟨g,q,none⟩) m c)(hm:l2.length=m)(hA:Wy w g q l2)(hbytes:l.length+m<=2932031007402)(hbase:base<=w.heap.size)(h:∀v' w',Ow w' base v' (l ++ l2)->Chg (fun k=>v.ownBlock=some k) w w'->wpList prog ops Q rest (a.put o.dst v') w'):wpList prog ops Q (o :: rest) a w:=by
 obtain⟨i,hi1,hi2,hi3,hi4⟩:=gw;refine wpList_append_own_at w hgd s x 144 ho base 219 i (.agg (fA f0)) 6 48 underlying144 hi1 hi2 hi3 hi4 rfl dc v l.length (l.flatMap fL) hs hown ⟨g,q,none⟩ m c (l2.flatMap fL) hx (by rw[Du,hm]) ?_ (Wz l2) (by unfold maxLen;omega) om hbase ?_
 ·intro j u hu;have hj:j<l2.length*6:=by rw[<-Du];exact(List.getElem?_eq_some_iff.1 hu).1
  have e:l2[j / 6]?=some (l2[j / 6]'om):=AU _;have hf:=J3 l2 (j / 6) _ (j % 6) e (Nat.mod_lt _ dc);rw[show j / 6*6+j % 6=j by omega,hu] at hf;have:=hA.2 (j / 6) _ e (j % 6) u hf.symm;rw[show q+j / 6*6+j % 6=q+j by omega] at this;rw[Addr.add_mid];exact this
 ·intro v' w' h1 h2 _ _;refine h v' w' ?_ ⟨h2.os,h2.tape,h2.output,h2.size,fun k hk hs=>h2.block k hk (fun e=>hs e.symm)⟩;unfold Ow;rw[AV,hm,flatMap_append];exact h1
theorem Wy.one(h:Fo w g f):Wy w g 0 [f]:=⟨h.lt,fun i f' hi=>by
 match i,hi with
 | 0,hi=>
  have e:f=f':=by simpa using hi
  subst e
  intro j v hv
  rw[Nat.zero_mul,AW]
  exact h.cell j hv⟩
end
end Go.Proofs.YtbhbilcieodbhaaGreat.AH
namespace Go.Proofs.YtbhbilcieodbhaaGreat.AH
open List
open Go.Proofs.Tryz
open Go.RowKit
open AB
theorem gx:(prog.info? 116).map (·.size)=some 24:=kr
theorem gy:(prog.info? 140).map (·.size)=some 12:=kr
theorem ak(f:Nat->Int)(i:Nat)(hi:i<24)(w:Wd):(Instr.index 116 (.agg (ints f 24).toArray) (.int .i64 i)).run prog w=.ok (.int .i64 (f i)) w:=by
 have h:=BM f 24 i hi;generalize ints f 24=L at *
 simp[Instr.index,run_underlying underlying116,asIntOf,go_sem,hi,h,i6]
end Go.Proofs.YtbhbilcieodbhaaGreat.AH
namespace Go.Proofs.YtbhbilcieodbhaaGreat.AH
open List
open Go.Proofs.Tryz
open Go.RowKit
open AB
open Go.RowKit Go.Sort
section
variable {a n:Int}
def J4 (a n:Int):Bool:=decide (0<=a) && decide (a<n)
theorem kU(h:J4 a n=true):0<=a/\a<n:=by simpa[J4] using h
theorem jV(h:J4 a n=false):a<0\/n<=a:=by
 simp only[J4,Bool.and_eq_false_iff,decide_eq_false_iff_not] at h;omega
theorem RB(h1:0<=a)(h2:a<n):J4 a n=true:=by simp[J4,h1,h2]
theorem ME(h:a<0\/n<=a):J4 a n=false:=by
 simp only[J4,Bool.and_eq_false_iff,decide_eq_false_iff_not];omega
theorem al(f:Bt):snd f=(J4 f.P 96 && (J4 f.O 25 && (J4 f.S 1099511627776 && J4 f.C 256))):=by
 simp only[snd,J4,Bool.and_assoc]
theorem EQ(a n:Int)(w:Wd):Calls prog 207 #[.int .i64 a,.int .i64 n] w fun e w'=>e=.returned (.bool (J4 a n))/\w'=w:=by
 by_cases h1:0<=a
 ·by_cases h2:a<n
  ·have hb:=RB h1 h2;go_enter func207,ntmps207;go_wp2;go_ret;exact⟨by rw[hb];rfl,rfl⟩
  ·have hb:Hid (J4 a n=false):=ME om;go_enter func207,ntmps207;go_wp2;go_ret;exact⟨by rw[hb.out];rfl,rfl⟩
 ·have hb:Hid (J4 a n=false):=ME om;go_enter func207,ntmps207;go_wp2;go_ret;exact⟨by rw[hb.out];rfl,rfl⟩
theorem DN(a n:Int)(w:Wd):Calls prog 230 #[.int .i64 a,.int .i64 n] w fun e w'=>e=.returned (.bool (J4 a n))/\w'=w:=by
 by_cases h1:0<=a
 ·by_cases h2:a<n
  ·have hb:=RB h1 h2;go_enter func230,ntmps230;go_wp2;go_ret;exact⟨by rw[hb];rfl,rfl⟩
  ·have hb:Hid (J4 a n=false):=ME om;go_enter func230,ntmps230;go_wp2;go_ret;exact⟨by rw[hb.out];rfl,rfl⟩
 ·have hb:Hid (J4 a n=false):=ME om;go_enter func230,ntmps230;go_wp2;go_ret;exact⟨by rw[hb.out];rfl,rfl⟩
theorem ER(f:Bt)(w:Wd):Calls prog 201 #[.agg (fA f)] w fun e w'=>e=.returned (.bool (snd f))/\Chg No w w':=by
 obtain⟨c0,c1,c2,c3,c4,c5⟩:=(Fo.new w f).cells;have HG:Hid (Chg No w (w.alloc (.cells (fA f) 219))):=(Chg.refl _ w).alloc _;have HB:=BB (al f);cases h1:J4 f.P 96 with
 | false=>
  go_enter func201,ntmps201;go_wp2_with (first | (go_at_call 207;refine(EQ _ _ _).mono ?_;rintro e w' ⟨rfl,rfl⟩) | (go_at_call 230;refine(DN _ _ _).mono ?_;rintro e w' ⟨rfl,rfl⟩));go_ret;exact⟨by rw[HB.out];simp[h1],HG.out⟩
 | true=>
  cases h2:J4 f.O 25 with
  | false=>
   go_enter func201,ntmps201;go_wp2_with (first | (go_at_call 207;refine(EQ _ _ _).mono ?_;rintro e w' ⟨rfl,rfl⟩) | (go_at_call 230;refine(DN _ _ _).mono ?_;rintro e w' ⟨rfl,rfl⟩));go_ret;exact⟨by rw[HB.out];simp[h1,h2],HG.out⟩
  | true=>
   cases h3:J4 f.S 1099511627776 with
   | false=>
    go_enter func201,ntmps201;go_wp2_with (first | (go_at_call 207;refine(EQ _ _ _).mono ?_;rintro e w' ⟨rfl,rfl⟩) | (go_at_call 230;refine(DN _ _ _).mono ?_;rintro e w' ⟨rfl,rfl⟩));go_ret;exact⟨by rw[HB.out];simp[h1,h2,h3],HG.out⟩
   | true=>
    cases h4:J4 f.C 256 with
    | false=>
     go_enter func201,ntmps201;go_wp2_with (first | (go_at_call 207;refine(EQ _ _ _).mono ?_;rintro e w' ⟨rfl,rfl⟩) | (go_at_call 230;refine(DN _ _ _).mono ?_;rintro e w' ⟨rfl,rfl⟩));go_ret;exact⟨by rw[HB.out];simp[h1,h2,h3,h4],HG.out⟩
    | true=>
     go_enter func201,ntmps201;go_wp2_with (first | (go_at_call 207;refine(EQ _ _ _).mono ?_;rintro e w' ⟨rfl,rfl⟩) | (go_at_call 230;refine(DN _ _ _).mono ?_;rintro e w' ⟨rfl,rfl⟩));go_ret;exact⟨by rw[HB.out];simp[h1,h2,h3,h4],HG.out⟩
end
section
variable (w:Wd)
def kV (a b:Int):Int:=if a≠0 then a else b
theorem mG(a b:Int)(g:Nat)(w:Wd)(h1:w.cell? ⟨g,0,none⟩=some (.int .i64 a))(h2:w.cell? ⟨g,1,none⟩=some (.int .i64 b)) :Calls prog 204 #[.slice (some ⟨g,0,none⟩) 2 2] w fun e w'=>e=.returned (.int .i64 (kV a b))/\w'=w:=by
 by_cases ha:a=0
 ·have HN:Hid (kV a b=b):=by show _=_;simp[kV,ha]
  subst ha;by_cases hb:b=0
  ·subst hb;go_enter func204,ntmps204;go_wp2;refine wp_loop_rounds 3 ?_;rw[rounds_succ];go_wp2;rw[rounds_succ];go_wp2;rw[rounds_succ];go_wp2;go_ret;exact⟨by rw[HN.out];rfl,rfl⟩
  ·have hb':(b != 0)=true:=(by simpa using hb);go_enter func204,ntmps204;go_wp2;refine wp_loop_rounds 2 ?_;rw[rounds_succ];go_wp2;rw[rounds_succ];go_wp2;go_ret;exact⟨by rw[HN.out];rfl,rfl⟩
 ·have HN:Hid (kV a b=a):=by show _=_;simp[kV,ha]
  have ha':(a != 0)=true:=by simpa using ha
  go_enter func204,ntmps204;go_wp2;refine wp_loop_rounds 1 ?_;rw[rounds_succ];go_wp2;go_ret;exact⟨by rw[HN.out];rfl,rfl⟩
theorem am(fv:Value):Calls prog 257 #[.slice none 0 0,.int .i64 0,.int .i64 0,fv] w fun e w'=>e=.returned (.tuple #[])/\w'=w:=by
 go_enter func257,ntmps257;go_wp2;refine wp_loop_rounds 1 ?_;rw[rounds_succ];go_wp2;go_end0;exact⟨rfl,rfl⟩
theorem Pn(fv:Value):Calls prog 231 #[.slice none 0 0,.int .i64 0,fv] w fun e w'=>e=.returned (.tuple #[])/\w'=w:=by
 go_enter func231,ntmps231;go_wp2;refine wp_loop_rounds 1 ?_;rw[rounds_succ];go_wp2_with (go_at_call 257;refine(am _ _).mono ?_;rintro e w' ⟨rfl,rfl⟩);refine wp_loop_rounds 1 ?_;rw[rounds_succ];go_wp2;go_end0;exact⟨rfl,rfl⟩
theorem W7(fv:Value):Calls prog 202 #[.slice none 0 0,fv] w fun e w'=>e=.returned (.tuple #[])/\w'=w:=by
 go_enter func202,ntmps202;go_wp2_with (go_at_call 231;refine(Pn _ _).mono ?_;rintro e w' ⟨rfl,rfl⟩);go_end0;exact⟨rfl,rfl⟩
end
section
variable {f:Bt}
theorem H7{p:Bt->Bool}{l:List Bt}{i:Nat}(h:l[i]?=some f):(l.take (i+1)).filter p=(l.take i).filter p ++ (if p f then [f] else []):=by
 rw[take_add_one,h,filter_append];congr 1;by_cases e:p f <;> simp[e]
theorem KL{ops:Array Oper}{rest:List Oper}{o:Oper}{a:Act}{w:Wd}{Q:Exit->Act->World->Prop}(hgd:o.guard=none)(x:Operand)(ho:o.op=.buildSlice 144 1 #[(0,x)])(hx:a.eval x=.agg (fA f))(N:Nat)(hN:w.heap.size=N)(h:∀w',Fo w' N f->Chg No w w'->wpList prog ops Q rest (a.put o.dst (.slice (some ⟨N,0,none⟩) 1 1)) w'):wpList prog ops Q (o :: rest) a w:=by
 refine wpList_plain hgd fun K hK=>?_;have hr:(Instr.buildSlice 144 1 #[(0,.agg (fA f))]).run prog w=.ok (.slice (some ⟨w.heap.size,0,none⟩) 1 1) (w.alloc (.cells (fA f) 219)):=by
  unfold fA fL;simp[Instr.buildSlice];go_simp
 unfold Oper.wp;simp[execOp,ho,hx,hr];rw[hN];exact hK _ _ (h _ (by rw[<-hN];exact Fo.new w f) ((Chg.refl _ w).alloc _))
end
theorem Po{fn:Func}{q u:Tmp}(h:fn.results=#[.cell q 219,.tmp u])(tmps:Array Value){w:Wd}{g:Nat}{f:Bt}(hp:tmps.getD q undef=.pointer (some ⟨g,0,none⟩))(hT:Fo w g f) :(results fn tmps).run prog w=.ok (.tuple #[.agg (fA f),tmps.getD u undef]) w:=by
 rw[results_cell_tmp h,hp];simp[asAddr,run_loadVar_row w g 219 219 _ _ _ hT underlying219 rfl MC]
def mH:Option Bt->Value
 | none=>.tuple #[.agg (fA f0),.bool false]
 | some f=>.tuple #[.agg (fA f),.bool true]
def mI (w:Wd) (l:List Bt) (of ab:Int) (e:Ending) (w':Wd):Prop:=e=.returned (mH (newest l of ab))/\Chg No w w'
def W8 (a b:Int):Int:=if a<b then b else a
theorem W9(a b:Int):W8 a b=max a b:=by unfold W8;split <;> omega
def flr (c:Bp):Nat->Int
 | 0=>if 0<c.N then c.N - 1 else -1
 | i+1=>W8 (flr c i) (c.F i)
def tpl (t:Int) (l:List Bt):Int:=l.foldl (fun t f=>if snd f then W8 t f.S else t) t
def mJ (l:List Bt) (c:Bp):Int:=tpl (flr c 24) l
def lJ (l:List Bt) (c:Bp):Int:=if 1099511627775<=mJ l c then 1099511627775 else mJ l c+1
theorem XA(t:Int){l:List Bt}{i:Nat}{f:Bt}(h:l[i]?=some f):tpl t (l.take (i+1))=if snd f then W8 (tpl t (l.take i)) f.S else tpl t (l.take i):=by
 unfold tpl;rw[take_add_one,h,foldl_append];rfl
theorem XB(c:Bp):∀i,-1<=flr c i
 | 0=>by unfold flr;split <;> omega
 | i+1=>by
  have:=XB c i
  rw[flr];unfold W8;split <;> omega
theorem g9(t:Int):∀(l:List Bt) ,t<=tpl t l/\∀f ∈ l,snd f=true->f.S<=tpl t l:=by
 intro l
 induction l generalizing t with
 | nil=>exact⟨Int.le_refl _,by simp⟩
 | cons x r ih=>
  have e:tpl t (x :: r)=tpl (if snd x then W8 t x.S else t) r:=rfl;rw[e];obtain⟨h1,h2⟩:=ih (if snd x then W8 t x.S else t);have g:t<=(if snd x then W8 t x.S else t)/\(snd x=true->x.S<=(if snd x then W8 t x.S else t)):=by
   cases hx:snd x
   ·simp
   ·simp only[if_true];unfold W8;constructor
    ·split <;> omega
    ·intro _;split <;> omega
  refine⟨om,fun f hf hs=>?_⟩;rcases mem_cons.1 hf with rfl | hf
  ·have:=g.2 hs;omega
  ·exact h2 f hf hs
structure lG (c:Bp):Prop where
 f:∀i,i<24->-9223372036854775808<=c.F i/\c.F i<=9223372036854775807
 n : -9223372036854775808<=c.N/\c.N<=9223372036854775807
theorem XC(w:Wd)(a:Option Addr)(cap:Nat)(l:List Bt)(n:Nat)(hnl:n=l.length)(hs:Sl w (.slice a n cap) l)(hn:n<2932031007402)(c:Bp)(hw:lG c) :Calls prog 178 #[.slice a n cap,.agg (ckA c)] w fun e w'=>e=.returned (.int .i64 (lJ l c))/\Chg No w w':=by
 have HS:=BB hs;have HN:=BB hnl;have HW:=BB hw;have hN1:=hw.n.1;have hN2:=hw.n.2;have K0:=Ck.new w c;have HK:=BB K0;have HG0:Hid (Chg No w (w.alloc (.cells (ckA c) 142))):=(Chg.refl _ w).alloc _;have k24:=K0.N;have r0:=K0.partF;have HR0:=BB r0;have S32:Hid ((prog.info? 116).map (·.size)=some (ints c.F 24).length):=by show _=_;rw[BD];exact gx
 have hmax:max c.N 0 - 1=flr c 0:=by
  unfold flr;split <;> omega
 have HL:=BB HS.out;clear hs hnl hw K0 r0;go_enter func178,ntmps178;go_wp2_with (refine wpList_load_mid rfl 116 (.tmp 14) rfl w.heap.size 0 rfl _ _ HR0.out underlying116 rfl S32.out ?_);generalize w.alloc (.cells (ckA c) 142)=w1 at *
 clear hmax hN1 hN2 HR0 S32 k24 HK
 go_loopg [5,16] 24 (fun kx s5 s16 wr=>∃i:Nat,s16=.int .i64 i/\s5=.int .i64 (flr c i)/\i<=24/\24 - i<=kx/\wr=w1)
 case atStart=>exact⟨0,rfl,rfl,om,om,rfl⟩
 case round=>
 obtain⟨i,rfl,rfl,hin,hkx,rfl⟩:=hrel;by_cases hlt:i<24
 ·have hltz:(i:Int)<24:=om
  have hix:=ak c.F i hlt;have HT:Hid (flr c (i+1)=max (flr c i) (c.F i)):=by show _=_;rw[flr,W9]
  obtain⟨t,ht⟩:∃t,flr c i=t:=⟨_,rfl⟩;rw[ht] at HT;rw[ht];clear ht;go_wp2
  go_roundg (24 - (i+1))
  case measure=>omega
  case rel=>exact⟨i+1,by simp,by rw[HT.out],om,AM _,rfl⟩
 ·have hltz:¬ (i:Int)<24:=om
  rw[show i=24 by omega];have hltz:¬ ((24:Nat):Int)<24:=om
  have HS1:=BB (HS.out.new HG0.out);obtain⟨w2,rfl⟩:∃x,x=wr:=⟨_,rfl⟩;go_wp2
  go_loopg [5,25] n (fun kx s5 s25 wx=>∃i:Nat,s25=.int .i64 i/\s5=.int .i64 (tpl (flr c 24) (l.take i))/\i<=n/\n - i<=kx/\Hid (Chg No w2 wx))
  case atStart=>exact⟨0,rfl,by simp[tpl],om,om,Chg.refl _ _⟩
  case round=>
  obtain⟨i,rfl,rfl,hin,hkx,HGr⟩:=hrel;by_cases hlt:i<n
  ·have hltz:(i:Int)<(n:Int):=om;obtain⟨f,hf⟩:∃f,l[i]?=some f:=⟨_,AU (by rw[<-HN.out];exact hlt)⟩;have HF:=BB hf;obtain⟨g,o,ha,hA⟩:∃g o,a=some ⟨g,o,none⟩/\Wy w2 g o l:=by
    obtain⟨a',c',e,_,h⟩:=HS1.out;simp only[Value.slice.injEq] at e;obtain⟨rfl,-,-⟩:=e;rcases h with h | ⟨g,o,rfl,hA⟩
    ·have:=HN.out;omega
    ·exact⟨g,o,rfl,hA⟩
   subst ha;have HR:=BB ((hA.chg HGr.out (fun h=>h)).2 i f hf);have HT:=BB (XA (flr c 24) HF.out);obtain⟨t,ht⟩:∃t,tpl (flr c 24) (l.take i)=t:=⟨_,rfl⟩;rw[ht] at HT;rw[ht];clear hf hA ht;go_wp2_with (first | (refine FL (f:=f) rfl (.tmp 27) rfl g (o+i*6) rfl ?_ ?_;exact HR.out) | (refine Bw rfl rfl wr.heap.size rfl ?_));intro w3 K3 G3 S3;have HK3:=BB K3;clear K3;go_wp2_with (refine wpList_store_fo rfl (.tmp 9) (.tmp 28) rfl wr.heap.size rfl rfl HK3.out ?_);intro w4 K4 G4;have G34:=G3.trans' G4 (fun k hk h=>om);have HG4:=BB (HGr.out.trans G34);have HK4:=BB K4;clear K4 G4 G3 G34 HK3 S3 HR;cases hsn:snd f with
   | false=>
    go_wp2_with (first | (refine CU (f:=f) rfl (.tmp 9) rfl wr.heap.size rfl ?_ ?_;exact HK4.out) | (go_at_call 201;refine(ER f _).mono ?_;rintro e w5 ⟨rfl,G5⟩;have HG5:=BB (HG4.out.trans G5);clear G5))
    go_roundg (n - (i+1))
    case measure=>omega
    case rel=>
     refine⟨i+1,by simp,?_,om,AM _,HG5.out⟩;rw[HT.out,hsn];rfl
   | true=>
    go_wp2_with (first | (refine CU (f:=f) rfl (.tmp 9) rfl wr.heap.size rfl ?_ ?_;exact HK4.out) | (go_at_call 201;refine(ER f _).mono ?_;rintro e w5 ⟨rfl,G5⟩;have K5:=HK4.out.chg G5 (fun h=>h);obtain⟨-,-,-,k3,-,-⟩:=K5.cells;have HG5:=BB (HG4.out.trans G5);clear G5 K5))
    go_roundg (n - (i+1))
    case measure=>omega
    case rel=>
     refine⟨i+1,by simp,?_,om,AM _,HG5.out⟩;rw[HT.out,hsn,AJ rfl,W9]
  ·have hltz:¬ (i:Int)<(n:Int):=om;have HE:Hid (lJ l c=min (tpl (flr c 24) (l.take i)) 1099511627774+1):=by
    show _=_;rw[show i=l.length by have:=HN.out;omega,take_length];unfold lJ mJ;split <;> omega
   have hge : -1<=tpl (flr c 24) (l.take i):=Int.le_trans (XB c 24) (g9 _ _).1;obtain⟨t,ht⟩:∃t,tpl (flr c 24) (l.take i)=t:=⟨_,rfl⟩;rw[ht] at HE hge;rw[ht];clear ht;have h1 : -1<=min t 1099511627774:=om;have h2:min t 1099511627774<=1099511627774:=om;go_wp2;go_ret;exact⟨by rw[HE.out];rfl,HG0.out.trans HGr.out⟩
section
variable {w:Wd}{b:Nat}{f F:Nat->Int}{ops:Array Oper}{rest:List Oper}{o:Oper}{a:Act}{Q:Exit->Act->World->Prop}
def gd (c:Bp) (f:Bt):Bool:=snd f && !c.B (f.P / 8).toNat
def flo (c:Bp) (of:Nat):Int:=if of=24 then -1 else c.F of
def lv (l:List Bt) (c:Bp) (of:Nat):Int:=match newest (l.filter (gd c)) of (flo c of) with
 | some f=>f.P
 | none=>-1
def A25 (w:Wd) (g:Nat) (F:Nat->Int):Prop:=w.heap[g]?=some (.cells (ints F 25).toArray 38)
theorem A25.lt(h:A25 w b f):b<w.heap.size:=(Array.getElem?_eq_some_iff.1 (show w.heap[b]?=some _ from h)).1
theorem A25.chg{S:Nat->Prop}{w':Wd}(h:A25 w b f)(hc:Chg S w w')(hb:¬ S b):A25 w' b f:=(hc.block b h.lt hb).trans h
theorem A25.set(h:A25 w b f)(i:Nat)(z:Int):A25 (w.setCell ⟨b,i,none⟩ (.int .i64 z)) b (upd f i z):=by
 have h':w.heap[b]?=some _:=h;show (w.setCell ⟨b,i,none⟩ _).heap[b]?=_;have e2:(ints f 25).toArray.setIfInBounds i (.int .i64 z)=(ints (upd f i z) 25).toArray:=by
  apply Array.ext';have:=Jb f 25 i z;simpa[i6] using this
 simp[World.setCell,Ai,h',e2]
theorem A25.cell(h:A25 w b f)(i:Nat)(hi:i<25):w.cell? ⟨b,i,none⟩=some (.int .i64 (f i))/\w.frozen? ⟨b,i,none⟩=false:=by
 have h':w.heap[b]?=some _:=h;refine⟨?_,by simp[World.frozen?,h']⟩;simp only[World.cell?,h'];simpa[i6] using BM f 25 i hi
theorem A25.congr{g:Nat->Int}(h:A25 w b f)(e:∀i,i<25->f i=g i):A25 w b g:=by
 unfold A25 at *
 rw[h,Dh e]
theorem DO(f:Nat->Int):(ints f 25).toArray.size=25:=by simp[BD]
theorem Pp:(prog.info? 38).map (·.size)=some 25:=kr
theorem hJ(w:Wd):(zeroValue 38).run prog w=.ok (.agg (ints (fun _=>0) 25).toArray) w:=kr
theorem Em(hgd:o.guard=none)(ho:o.op=.alloc 38)(N:Nat)(hN:w.heap.size=N)(h:∀w',A25 w' N (fun _=>0)->Chg No w w'->w'.heap.size=N+1->wpList prog ops Q rest (a.put o.dst (.pointer (some ⟨N,0,none⟩))) w'):wpList prog ops Q (o :: rest) a w:=by
 refine wpList_plain hgd fun K hK=>?_;have hz:=hJ;unfold Oper.wp;simp[execOp,ho,Instr.alloc,hz,newVar,Value.cells,newRow];rw[hN];refine hK _ _ (h _ ?_ ((Chg.refl _ w).alloc _) (by simp[hN]));rw[<-hN];show (w.heap.push _)[w.heap.size]?=_;simp
theorem J5(hgd:o.guard=none)(x:Operand)(ho:o.op=.load 38 x)(g:Nat)(hx:a.eval x=.pointer (some ⟨g,0,none⟩))(hg:A25 w g F)(h:wpList prog ops Q rest (a.put o.dst (.agg (ints F 25).toArray)) w):wpList prog ops Q (o :: rest) a w:=
 wpList_load_row hgd 38 x ho g hx 38 _ _ _ hg underlying38 rfl (by rw[DO];exact Pp) h
theorem Id(hgd:o.guard=none)(x y:Operand)(ho:o.op=.store 38 x y)(g:Nat)(hx:a.eval x=.pointer (some ⟨g,0,none⟩))(hy:a.eval y=.agg (ints F 25).toArray){F':Nat->Int}(hg:A25 w g F')(h:∀w',A25 w' g F->Chg (·=g) w w'->wpList prog ops Q rest (a.put o.dst undef) w'):wpList prog ops Q (o :: rest) a w:=
 wpList_store_row hgd 38 x y ho g _ hx hy 38 _ hg (by rw[DO];exact Pp) (by rw[DO,DO]) (all_oneCell_toArray (CK F 25)) (h _ (setRow_heap w g _ _ 38 _ hg) ⟨rfl,rfl,rfl,by simp,fun k _ hk=>setRow_other _ _ _ _ hk⟩)
theorem Pq{fn:Func}{q:Tmp}(h:fn.results=#[.cell q 38])(tmps:Array Value){g:Nat}(hp:tmps.getD q undef=.pointer (some ⟨g,0,none⟩))(hT:A25 w g F) :(results fn tmps).run prog w=.ok (.agg (ints F 25).toArray) w:=
 results_cell_row h tmps w g 38 _ _ _ hp hT underlying38 rfl (by rw[DO];exact Pp)
theorem TG(c:Bp)(of:Nat)(ho:of<25)(w:Wd):Calls prog 237 #[.agg (ckA c),.int .i64 of] w fun e w'=>e=.returned (.int .i64 (flo c of))/\Chg No w w':=by
 have K0:=Ck.new w c;have HG0:Hid (Chg No w (w.alloc (.cells (ckA c) 142))):=(Chg.refl _ w).alloc _;by_cases h24:of=24
 ·subst h24;clear K0;go_enter func237,ntmps237;go_wp2;go_ret;exact⟨by simp[flo],HG0.out⟩
 ·have kF:=K0.F of om;have hz:(of:Int)<24:=om
  have hb:((of:Int) == 24)=false:=by simp only[beq_eq_false_iff_ne];omega
  have HF:Hid (flo c of=c.F of):=by show _=_;simp[flo,h24]
  clear K0;go_enter func237,ntmps237;go_wp2;go_ret;exact⟨by rw[HF.out];rfl,HG0.out⟩
theorem Sl.at6{a:Option Addr}{n cap:Nat}{l:List Bt}(h:Sl w (.slice a n cap) l)(h0:l.length≠0):∃g o,a=some ⟨g,o,none⟩/\Wy w g o l:=by
 obtain⟨a',c',e,_,h⟩:=h;simp only[Value.slice.injEq] at e;obtain⟨rfl,-,-⟩:=e;rcases h with h | ⟨g,o,rfl,hA⟩
 ·omega
 ·exact⟨g,o,rfl,hA⟩
def mK (w:Wd) (l:List Bt) (c:Bp) (e:Ending) (w':Wd):Prop:=∃v',e=.returned v'/\Sl w' v' (l.filter (gd c))/\Chg No w w'
theorem Nu(w:Wd)(a:Option Addr)(cap:Nat)(l:List Bt)(n:Nat)(hnl:n=l.length)(c:Bp)(hs:Sl w (.slice a n cap) l)(hn:n<2932031007402) :Calls prog 236 #[.slice a n cap,.agg (bools c.B 12).toArray] w (mK w l c):=by
 have HN:=BB hnl;have HB:=BB (Bo.new w c.B);have HG0:Hid (Chg No w (w.alloc (.cells (bools c.B 12).toArray 140))):=(Chg.refl _ w).alloc _;have HS:=BB (hs.new HG0.out);clear hs hnl;go_enter func236,ntmps236;go_wp2;generalize w.alloc (.cells (bools c.B 12).toArray 140)=w1 at *
 obtain⟨B,HBB⟩:∃B,Hid (B=w.heap.size):=⟨_,rfl⟩;rw[<-HBB.out] at HB;rw[<-HBB.out]
 go_loopg [5,10] n (fun kx s5 s10 wr=>∃i:Nat,s10=.int .i64 i/\i<=n/\n - i<=kx/\Hid (Ow wr w1.heap.size s5 ((l.take i).filter (gd c)))/\Hid (Chg No w1 wr))
 case atStart=>exact⟨0,rfl,om,om,Ow.nil _ _,Chg.refl _ _⟩
 case round=>
 obtain⟨i,rfl,hin,hkx,HO,HG⟩:=hrel;by_cases hlt:i<n
 ·have hltz:(i:Int)<(n:Int):=om
  obtain⟨f,hf⟩:∃f,l[i]?=some f:=⟨_,AU (by rw[<-HN.out];exact hlt)⟩;have HF:=BB hf;obtain⟨g,o,ha,hA⟩:=HS.out.at6 (by rw[<-HN.out];omega);subst ha;have HR:=BB ((hA.chg HG.out (fun h=>h)).2 i f hf);clear hf hA;have HT:=BB (H7 (p:=gd c) HF.out);go_wp2_with (first | (refine FL (f:=f) rfl (.tmp 12) rfl g (o+i*6) rfl ?_ ?_;exact HR.out) | (refine Bw rfl rfl wr.heap.size rfl ?_));intro w2 K2 G2 S2;have HK2:=BB K2;clear K2;go_wp2_with (refine wpList_store_fo rfl (.tmp 7) (.tmp 13) rfl wr.heap.size rfl rfl HK2.out ?_);intro w3 K3 G3;have G23:=G2.trans' G3 (fun k hk h=>om);have HG3:=BB (HG.out.trans G23);have HK3:=BB K3;have HO3:=BB (HO.out.new G23);have HB3:=BB (HB.out.chg HG3.out (fun h=>h));clear K3 G3 G2 G23 HK2 S2 HR;cases hsn:snd f with
  | false=>
   have HC:Hid (gd c f=false):=(by show _=_;simp[gd,hsn]);go_wp2_with (first | (refine CU (f:=f) rfl (.tmp 7) rfl wr.heap.size rfl ?_ ?_;exact HK3.out) | (go_at_call 201;refine(ER f _).mono ?_;rintro e w4 ⟨rfl,G4⟩;have HG4:=BB (HG3.out.trans G4);have HO4:=BB (HO3.out.new G4);clear G4))
   go_roundg (n - (i+1))
   case measure=>omega
   case rel=>
    refine⟨i+1,by simp,om,AM _,?_,HG4.out⟩;show Ow _ _ _ _;rw[HT.out,HC.out];simpa using HO4.out
  | true=>
   have hP:=(ag f).1 hsn;have hP0:=hP.1;have hP1:=hP.2.1;clear hP;obtain⟨q,hq⟩:∃q:Nat,f.P / 8=(q:Int):=⟨(f.P / 8).toNat,om⟩;have hqt:f.P.tdiv 8=(q:Int):=(by rw[Int.tdiv_eq_ediv_of_nonneg hP0];exact hq);have hql:q<12:=om;have hqz:(q:Int)<12:=om;have HGd:Hid (gd c f=!c.B q):=by
    show _=_;unfold gd;rw[hsn,hq];simp
   cases hbq:c.B q with
   | true=>
    rw[hbq] at HGd;go_wp2_with (first | (refine CU (f:=f) rfl (.tmp 7) rfl wr.heap.size rfl ?_ ?_;exact HK3.out) | (go_at_call 201;refine(ER f _).mono ?_;rintro e w4 ⟨rfl,G4⟩;have K4:=HK3.out.chg G4 (fun h=>h);obtain⟨k0,-,-,-,-,-⟩:=K4.cells;have kB:=((HB3.out.chg G4 (fun h=>h)).cell q hql).1;rw[hbq] at kB;have HG4:=BB (HG3.out.trans G4);have HO4:=BB (HO3.out.new G4);clear G4 K4))
    go_roundg (n - (i+1))
    case measure=>omega
    case rel=>
     refine⟨i+1,by simp,om,AM _,?_,HG4.out⟩;show Ow _ _ _ _;rw[HT.out,HGd.out];simpa using HO4.out
   | false=>
    rw[hbq] at HGd;have hle:((l.take i).filter (gd c)).length+1<=2932031007402:=by
     have:=AY (length_filter_le (gd c) (l.take i)) (by rw[length_take];exact Nat.min_le_left _ _);omega
    go_wp2_with (first | (refine CU (f:=f) rfl (.tmp 7) rfl wr.heap.size rfl ?_ ?_;first | exact HK3.out | exact HK4.out) | (go_at_call 201;refine(ER f _).mono ?_;rintro e w4 ⟨rfl,G4⟩;have K4:=HK3.out.chg G4 (fun h=>h);have HK4:=BB K4;obtain⟨k0,-,-,-,-,-⟩:=K4.cells;have kB:=((HB3.out.chg G4 (fun h=>h)).cell q hql).1;rw[hbq] at kB;have HG4:=BB (HG3.out.trans G4);have HO4:=BB (HO3.out.new G4);clear G4 K4) | (refine KL (f:=f) rfl (.tmp 25) rfl rfl w4.heap.size rfl ?_));intro w5 K5 G5;have HO5:=BB (HO4.out.new G5);have HG5:=BB (HG4.out.trans G5);have HA5:=BB (Wy.one K5);have hb5:w1.heap.size<=w5.heap.size:=HG5.out.size;clear K5 G5 HO4 HG4 HK4 k0 kB;go_wp2_with (refine H6 w5 rfl (.tmp 24) (.tmp 26) rfl w1.heap.size u5 _ rfl HO5.out w4.heap.size 0 1 1 [f] rfl rfl HA5.out hle hb5 ?_);intro v' w6 O6 G6;have HO6:=BB O6;have HG6:Hid (Chg No w1 w6):=BB (HG5.out.trans' G6 fun k hk h=>by
     have:=HO5.out.block h
     omega)
    clear O6 G6;go_wp2
    go_roundg (n - (i+1))
    case measure=>omega
    case rel=>
     refine⟨i+1,by simp,om,AM _,?_,HG6.out⟩;show Ow _ _ _ _;rw[HT.out,HGd.out];simpa using HO6.out
 ·have hltz:¬ (i:Int)<(n:Int):=om
  go_wp2;go_ret;refine⟨_,rfl,?_,HG0.out.trans HG.out⟩;have:=HO.out.sl;rw[show i=l.length by have:=HN.out;omega,take_length] at this;exact this
end
section
variable {l:List Bt}{w:Wd}{a:Option Addr}{n cap:Nat}
theorem TH(w:Wd)(a:Option Addr)(cap:Nat)(l:List Bt)(n:Nat)(hnl:n=l.length)(c:Bp)(hs:Sl w (.slice a n cap) l)(hn:n<2932031007402)(m:Nat)(hm:(l.filter (gd c)).length=m) :Calls prog 236 #[.slice a n cap,.agg (bools c.B 12).toArray] w fun e w'=>∃a' cap',e=.returned (.slice a' m cap')/\Sl w' (.slice a' m cap') (l.filter (gd c))/\Chg No w w':=by
 refine(Nu w a cap l n hnl c hs hn).mono ?_;rintro e w' ⟨v,rfl,hS,h3⟩;obtain⟨a',cap',rfl,_⟩:=id hS;rw[hm] at hS;exact⟨a',cap',by rw[hm],hS,h3⟩
theorem Sl.apart(h:Sl w (.slice a n cap) l):l.length≠0->∀k,(Value.slice a n cap).ownBlock=some k->¬ k=w.heap.size:=by
 intro h0 k hk e;obtain⟨g,o,rfl,hA⟩:=h.at6 h0;have hk':g=k:=AR hk;have:=hA.1;omega
theorem Sl.chg{S:Nat->Prop}{w':Wd}(h:Sl w (.slice a n cap) l)(hc:Chg S w w')(hs:l.length≠0->∀k,(Value.slice a n cap).ownBlock=some k->¬ S k):Sl w' (.slice a n cap) l:=by
 obtain⟨a',cap',e,hcap,h⟩:=h;simp only[Value.slice.injEq] at e;obtain⟨rfl,rfl,rfl⟩:=e;refine⟨a,cap,rfl,hcap,?_⟩;rcases h with h | ⟨g,o,rfl,h⟩
 ·exact AK h
 ·by_cases h0:l.length=0
  ·exact AK h0
  ·exact AL ⟨g,o,rfl,h.chg hc (hs h0 g rfl)⟩
theorem ap{c:Bp}{i:Nat}(h:newest (l.filter (gd c)) i (flo c i)=none):lv l c i = -1:=by unfold lv;rw[h]
end
end Go.Proofs.YtbhbilcieodbhaaGreat.AH
namespace Go.Proofs.YtbhbilcieodbhaaGreat
open List
open Go.Proofs.Tryz
open Go.RowKit
section
variable {z:Int}(w:Wd)
def pkN (z:Int) (n:Nat):Nat:=((if z<0 then -(z+1) else z).tmod (n:Int)).toNat
theorem XD(z:Int)(n:Nat)(hn:0<n):pkN z n<n:=by
 unfold pkN;rw[Av (by split <;> omega)]
 have a1:=Int.emod_nonneg (if z<0 then -(z+1) else z) (b:=(n:Int)) om;have a2:=Int.emod_lt_of_pos (if z<0 then -(z+1) else z) (b:=(n:Int)) om;omega
theorem aq(h:z<0)(n:Nat)(hn:0<n):(-(z+1)).tmod (n:Int)=(pkN z n:Nat):=by
 unfold pkN;rw[AJ h,Int.toNat_of_nonneg];rw[Av om];exact Int.emod_nonneg _ om
theorem ar(h:¬ z<0)(n:Nat)(hn:0<n):z.tmod (n:Int)=(pkN z n:Nat):=by
 unfold pkN;rw[AI h,Int.toNat_of_nonneg];rw[Av om];exact Int.emod_nonneg _ om
def lcN (x:Int):Nat->Nat
 | 0=>(IntKind.u64.wrap x).toNat
 | i+1=>(lcN x i*6364136223846793005+1442695040888963407) % 18446744073709551616
def bytL (x:Int):Nat->List Nat
 | 0=>[]
 | n+1=>bytL x n ++ [lcN x (n+1) / 1099511627776 % 256]
def En (x:Int):List Nat:=if x=0 then List.replicate 160 0 else bytL x 160
theorem D4(x:Int):∀n,(bytL x n).length=n:=by
 intro n
 induction n with
 | zero=>rfl
 | succ n ih=>rw[bytL,AV,ih];rfl
theorem XE(x:Int):∀n,Bys (bytL x n):=by
 intro n
 induction n with
 | zero=>intro m hm;cases hm
 | succ n ih=>
  intro m hm;rw[bytL] at hm;rcases mem_append.1 hm with h | h
  ·exact ih m h
  ·rw[mem_singleton.1 h];exact Nat.mod_lt _ dc
theorem BY(x:Int):(En x).length=160:=by
 unfold En;split
 ·simp
 ·exact D4 x 160
theorem DH(x:Int):Bys (En x):=by
 unfold En;split
 ·intro m hm;rw[(mem_replicate.1 hm).2];decide
 ·exact XE x 160
def TF (x:Int) (i:Nat):List Nat:=bytL x i ++ List.replicate (160 - i) 0
theorem XF(x:Int)(i:Nat)(hi:i<160):(TF x i).set i (lcN x (i+1) / 1099511627776 % 256)=TF x (i+1):=by
 unfold TF;rw[bytL,Aq,Ap _ _ (by rw[D4];exact AM _),D4,Nat.sub_self,show 160 - i=(160 - (i+1))+1 by omega,replicate_succ];rfl
theorem Pr(x:Int)(i:Nat)(hi:i<=160):(TF x i).length=160:=by
 unfold TF;rw[AV,D4,length_replicate];omega
theorem XG:(Instr.makeSlice 35 (.int .i64 160) (.int .i64 160)).run prog w=.ok (.slice (some ⟨w.heap.size,0,none⟩) 160 160) (w.alloc (.cells (bcells (List.replicate 160 0)) 5)):=Cx w 160 160 rfl dc
def Ps:List Nat:=List.replicate 160 0
theorem XH:(Instr.makeSlice 35 (.int .i64 160) (.int .i64 160)).run prog w=.ok (.slice (some ⟨w.heap.size,0,none⟩) 160 160) (w.alloc (.cells (bcells Ps) 5)):=XG w
theorem au(v:Nat)(_:v<18446744073709551616):IntKind.u64.wrap (IntKind.u64.wrap ((v:Int)*6364136223846793005)+1442695040888963407)=(((v*6364136223846793005+1442695040888963407) % 18446744073709551616:Nat):Int):=by
 rw[IntKind.wrap_u64,IntKind.wrap_u64];omega
theorem iA(x:Int)(i:Nat):lcN x i<18446744073709551616:=by
 cases i with
 | zero=>
  unfold lcN;rw[IntKind.wrap_u64];omega
 | succ i=>exact Nat.mod_lt _ dc
theorem XI(x:Int):IntKind.u64.wrap x=((lcN x 0:Nat):Int):=by
 unfold lcN;rw[IntKind.wrap_u64];omega
theorem Gx(x:Int)(w:Wd):Calls prog 13 #[.int .i64 x] w fun e w'=>e=.returned (.slice (some ⟨w.heap.size,0,none⟩) 160 160)/\Arr w' w.heap.size 5 (En x)/\Chg No w w':=by
 have hmk:=XH;have A0:Arr (w.alloc (.cells (bcells Ps) 5)) w.heap.size 5 Ps:=Arr.new w 5 _;have G0:Chg No w (w.alloc (.cells (bcells Ps) 5)):=(Chg.refl _ _).alloc _;have HA0:=BB A0;have HG0:=BB G0;clear A0 G0;by_cases hx:x=0
 ·subst hx;go_enter func13,ntmps13;go_wp2;go_ret;exact⟨rfl,HA0.out,HG0.out⟩
 ·have hxb:(x == 0)=false:=by simpa using hx
  have HB:Hid (En x=bytL x 160):=by show En x=_;unfold En;rw[AI hx]
  have hw0:=XI x;have HZ:Hid (Ps=TF x 0):=by show Ps=_;unfold TF bytL Ps;simp
  go_enter func13,ntmps13;go_wp2
  go_loopg [4,5] 160 (fun kx s4 s5 wr=>∃i:Nat,s5=.int .i64 i/\s4=.int .u64 (lcN x i:Nat)/\i<=160/\160 - i<=kx/\Hid (Arr wr w.heap.size 5 (TF x i))/\Hid (Chg No w wr))
  case atStart=>exact⟨0,rfl,rfl,om,om,by rw[<-HZ.out];exact HA0.out,HG0.out⟩
  case round=>
   obtain⟨i,rfl,rfl,hi,hkx,HA,HG⟩:=hrel;by_cases hlt:i<160
   ·have hltz:(i:Int)<160:=om;have h0:(0:Int)<=i:=om;have hf:=HA.out.frozen i;have hc:=HA.out.cell i (by rw[Pr x i hi];exact hlt);have e1:=au (lcN x i) (iA x i);have hE:lcN x (i+1)=(lcN x i*6364136223846793005+1442695040888963407) % 18446744073709551616:=rfl;rw[<-hE] at e1;clear hE;have hN:=XF x i hlt;obtain⟨v1,hv1⟩:∃v,lcN x (i+1)=v:=⟨_,rfl⟩;rw[hv1] at e1 hN;have HV1:=BB hv1;clear hv1;generalize lcN x i=v0 at *
    have e2:((v1:Nat):Int).tdiv 1099511627776=((v1 / 1099511627776:Nat):Int):=(by rw[Int.tdiv_eq_ediv_of_nonneg om];omega);have e3:IntKind.u8.wrap ((v1 / 1099511627776:Nat):Int)=((v1 / 1099511627776 % 256:Nat):Int):=(by rw[IntKind.wrap_u8];omega);have e4:IntKind.u64.wrap ((v1 / 1099511627776:Nat):Int) % 256=((v1 / 1099511627776 % 256:Nat):Int):=(by rw[IntKind.wrap_u64];omega);have HA2:=BB (HA.out.store i (v1 / 1099511627776 % 256));rw[hN] at HA2;have HG2:=BB (HG.out.setCell (S:=fun _=>False) (g:=w.heap.size) (AL (AM _)) i (.int .u8 ((v1 / 1099511627776 % 256:Nat):Int)));generalize v1 / 1099511627776 % 256=b1 at *
    generalize v1 / 1099511627776=d1 at *
    clear hN;go_wp2
    go_roundg (160 - (i+1))
    case measure=>omega
    case rel=>exact⟨i+1,by simp,by rw[HV1.out],om,AM _,HA2.out,HG2.out⟩
   ·have hltz:¬ (i:Int)<160:=om;have e:i=160:=om;subst e;go_wp2;go_ret;refine⟨rfl,?_,HG.out⟩;have:=HA.out;rw[HB.out];unfold TF at this;simpa using this
theorem Pt(c1 o1 n1 cap1 c2 o2 n2 cap2:Nat)(l1 l2:List Nat)(e1:n1=l1.length)(e2:n2=l2.length)(b1:Bys l1)(b2:Bys l2)(h1:At w c1 o1 l1)(h2:At w c2 o2 l2) :Calls prog 17 #[.slice (some ⟨c1,o1,none⟩) n1 cap1,.slice (some ⟨c2,o2,none⟩) n2 cap2] w fun e w'=>e=.returned (.bool (decide (l1=l2)))/\w'=w:=by
 have k1:=run_convert_bytes_arg (P:=prog) w 35 5 underlying35 underlying5 c1 o1 n1 cap1 (l1.map fun (n:Nat)=>(n:Int)) (by simp[e1]) (h1.ints e1) 9 underlying9;have k2:=run_convert_bytes_arg (P:=prog) w 35 5 underlying35 underlying5 c2 o2 n2 cap2 (l2.map fun (n:Nat)=>(n:Int)) (by simp[e2]) (h2.ints e2) 9 underlying9;have hq:=UX l1 l2 b1 b2;generalize l1.map (fun (n:Nat)=>(n:Int))=x1 at *
 generalize l2.map (fun (n:Nat)=>(n:Int))=x2 at *
 have HQ:=BB hq;clear hq e1 e2 h1 h2;go_enter func17,ntmps17;go_wp2;go_ret;exact⟨by rw[<-HQ.out];rfl,rfl⟩
end
section
variable {K K':BC}{B o W:Nat}{G:BV}{La:Nat->Int}
def wW:Nat:=8+12*wM 0+2*((5+3)*wM 0)
theorem kW:wW=358408:=dc
def iB (x:Int):List Nat:=En x ++ List.replicate 14 0
theorem Eh(x:Int):(iB x).length=174:=by unfold iB;rw[AV,BY,length_replicate]
theorem I4(x:Int):Bys (iB x):=fun n hn=>(mem_append.1 hn).elim (DH x n) (fun h=>by rw[(mem_replicate.1 h).2];decide)
theorem XJ(x:Int):(iB x).take 160=En x:=by
 unfold iB;rw[take_append_of_le_length (by rw[BY];exact AM _),As (by rw[BY];exact AM _)]
theorem XK:iB 0=List.replicate 174 0:=dc
structure Lnv (B:Nat) (K:BC) (G:BV) (La:Nat->Int):Prop where
 iv:Ivk K G
 pw:Pw K.s
 l24:K.L 24≠-1
 a:∀o,o<24->G.a o=iB (La o)
 z:∀o,¬ G.z o
 nx:K.nx<=2+B+8*bad3 K.F
 ca:K.ca<=B
 rd:Rdn (1+B*wW) K
 c8:bad3 K.F<=2->K.ca<8
theorem Lnv.sq(h:Lnv B K G La)(hB:B<1073741824):Sq 1 K:=by
 have:=h.nx;unfold Sq DX;omega
theorem Nv(hr:RdB W K K')(h:Rdn (1+B*wW) K)(hW:W<=wW)(hB:B<1073741824):Rdn (1+(B+1)*wW) K':=by
 have e:=kW;have h1:=hr (1+B*wW) (by rw[e];rw[e] at hW;omega) h;refine h1.mono ?_;rw[e];rw[e] at hW;omega
theorem kX:2*((5+3)*wM 0)<=wW:=dc
theorem Lnv.str{d:Nat}{G':BV}(h:Lnv B K G La)(hB:B<1073741824)(st:Str d K K' G G')(rd:RdB W K K')(hW:W<=wW)(iv:Ivk K' G')(pw:Pw K'.s)(nx:K'.nx<=K.nx+1+8*d)(ca:K'.ca<=K.ca+1)(c8:K'.ca<=K.ca\/(bad3 K'.F<=2->K'.ca<8)):Lnv (B+1) K' G' La:=by
 have h1:=h.nx;have h2:=h.ca;have h3:=st.bd;exact⟨iv,pw,st.l24 h.l24,fun o ho=>by rw[st.a];exact h.a o ho,fun o=>by rw[st.z];exact h.z o,om,om,Nv rd h.rd hW hB,fun hb=>c8.elim (fun e=>by have:=h.c8 om;omega) (fun f=>f hb)⟩
theorem aw{α:Type}(a:Nat->α){x:Nat}(D:α)(h:x≠o):Dn a o D x=a x:=by unfold Dn;rw[AI h]
theorem ax(h:Lnv B K G La)(hB:B<1073741824)(ho:o<24)(x:Int) :∃Z,anR 6 (fun _ _=>En x ++ List.replicate 14 0) K o=some Z/\(Z.2=0\/Z.2=14/\2<bad3 Z.1.F)/\∃G' Lb,Lnv (B+1) Z.1 G' Lb/\(Z.2=0->Lb=upd La o x)/\(Z.2≠0->Lb=La)/\(bad3 K.F<=2->Z.2=0\/bad3 K.F<bad3 Z.1.F):=by
 obtain⟨Z,e,hca,hz⟩:=Q8 (n:=5) dc h.iv h.l24 (h.sq hB) ho (Eh x) (I4 x);have hpw:=PY _ _ _ _ _ e h.pw;refine⟨Z,e,?_⟩;rcases hz with ⟨c,G',d,iv,ga,gz,rd,q1,q2,q3,q4,q5,q6,q7,q8⟩ | ⟨G',d,st,rd,q⟩
 ·have n1:=h.nx;have n2:=h.ca;refine⟨AK c,G',upd La o x,⟨iv,hpw,q1,fun i hi=>?_,fun i=>by rw[gz];exact fun k=>h.z i k.2,om,om,Nv rd h.rd kX hB,fun hb=>by have:=h.c8 om;omega⟩,fun _=>rfl,fun k=>absurd c k,fun _=>AK c⟩;rw[ga];by_cases ei:i=o
  ·rw[ei,aP,Be]
  ·rw[aw _ _ ei,BP _ _ ei];exact h.a i hi
 ·rcases q with ⟨c,iv,dd,nx⟩ | ⟨_,off,_⟩
  ·have hb:2<bad3 Z.1.F:=by
    obtain⟨_,X,hs,_⟩:=iv;exact hs.dds.1 dd
   exact⟨AL ⟨c,hb⟩,G',La,h.str hB st rd kX iv hpw nx om (AK om),fun k=>(by rw[c] at k;cases k),fun _=>rfl,fun _=>AL om⟩
  ·exact absurd off hpw.not
theorem ay(h:Lnv B K G La)(hB:B<1073741824)(ho:o<24) :∃K',geK K o=(K',En (La o),0)/\Lnv (B+1) K' G La/\Eqv K K':=by
 obtain⟨K',iv,a,tl,rd,hg⟩:=Q7 h.iv ho;rcases hg with hg | ⟨hz,_⟩
 ·have hpw:=gI K o h.pw;rw[hg] at hpw;rw[h.a o ho,XJ] at hg;refine⟨K',hg,h.str hB (a.str tl G) rd dc iv hpw ?_ ?_ (AK ?_),a⟩
  ·rw[a.nx];omega
  ·rw[a.ca];omega
  ·rw[a.ca];exact AM _
 ·exact absurd hz (h.z o)
theorem XL(h:Lnv B K G La)(hB:B<1073741824) :∃Z,tdK 6 13 K=some Z/\Z.2=0/\(∃G',Lnv (B+1) Z.1 G' La)/\(bad3 Z.1.F<=2->Z.1.ca<8):=by
 obtain⟨Z,e,G',d,st,rd,q⟩:=Q5 (n:=5) (m:=13) dc dc h.iv (h.sq hB);have hpw:=gN e h.pw;have hca:=fu e;refine⟨Z,e,?_⟩;rcases q with ⟨c,iv,nx,c8⟩ | ⟨_,off,_⟩
 ·have h8:bad3 Z.1.F<=2->Z.1.ca<8:=fun hb=>c8 (by
   obtain⟨_,X,hs,_⟩:=iv
   cases ed:Z.1.dd
   ·
    rfl
   ·
    have:=hs.dds.1 ed
    omega)
  exact⟨c,⟨G',h.str hB st rd (AM _) iv hpw nx hca (AL h8)⟩,h8⟩
 ·exact absurd off hpw.not
theorem OI.inv(h:OI K G):Lnv 0 K G (fun _=>0) where
 iv:=h.ivk
 pw:=⟨h.fine.on,h.fine.lim⟩
 l24:=by rw[h.L,Be];decide
 a:=fun o _=>by rw[h.a,XK]
 z:=fun o=>by rw[h.z];exact id
 nx:=by rw[h.nx];omega
 ca:=by rw[h.ca];exact AM _
 rd:=h.rd.mono om
 c8:=fun _=>by rw[h.ca];decide
end
section
variable {F:Nat->Int}(K:BC)
def N3 (K:BC):Prop:=∀b,b<12->K.F b≠3
theorem iC(h:∀b,b<12->F b≠3)(n:Nat)(s:Int)(hs:s≠3):∀b,b<12->upd F n s b≠3:=fun b hb=>by
 rcases BO F n b s with ⟨_,e⟩ | ⟨_,e⟩ <;> rw[e]
 ·
  exact hs
 ·
  exact h b hb
theorem iD(h:∀b,b<12->F b≠3)(m:Nat):∀b,b<12->AD.tkF F 0 m b≠3:=fun b hb=>by
 rw[D5 _ hb]
 exact iC h m 1 dc b hb
theorem XM(p:Nat):(rdK K p).1.F=K.F:=by
 unfold rdK;dsimp only;split <;> rfl
theorem ka(t:Bu)(D:List Nat):(prM K t D).1.F=K.F:=by
 unfold prM;split
 ·rfl
 ·unfold prK;dsimp only
theorem ke(b:Nat):(erK K b).1.F=K.F:=by
 unfold erK;dsimp only;split <;> rfl
theorem kg(o:Nat):(coK K o).1.F=K.F:=by
 unfold coK;split
 ·rfl
 ·dsimp only;split
  ·exact XM _ _
  ·split
   ·exact XM _ _
   ·split <;> exact XM _ _
theorem kh:∀(l:List Bu) (K:BC),(cmL l K).1.F=K.F:=by
 intro l
 induction l with
 | nil=>intro K;rfl
 | cons t l ih=>
  intro K;unfold cmL;split
  ·rfl
  ·exact ih _
end
section
variable {K:BC}{P:Nat->Prop}{G:BV}{o n V:Nat}{F:Nat->Int}{S:BW}
def B3 (P:Nat->Prop) (F:Nat->Int):Prop:=∀b,b<12->F b=3->P b
theorem XN(h:B3 P F)(n:Nat)(s:Int)(hs:s≠3):B3 P (upd F n s):=fun b hb e=>by
 rcases BO F n b s with ⟨_,e2⟩ | ⟨_,e2⟩
 ·
  rw[e2] at e;exact absurd e hs
 ·
  rw[e2] at e;exact h b hb e
theorem I5(h:B3 P F)(n s:Int)(hs:s≠3):B3 P (AD.setF F n s):=by
 unfold AD.setF;split
 ·exact XN h _ _ hs
 ·exact h
theorem iE(h:B3 P F)(m:Nat):B3 P (AD.tkF F 0 m):=fun b hb e=>by
 rw[D5 _ hb] at e
 exact XN h m 1 dc b hb e
theorem cX{F':Nat->Int}(h:B3 (fun b=>F b=3) F'):bad3 F'<=bad3 F:=by
 have:∀n,n<=12->AD.cnt F' 3 n<=AD.cnt F 3 n:=by
  intro n
  induction n with
  | zero=>intro _;exact AM _
  | succ n ih=>
   intro hn;have:=ih om;rw[AD.cnt,AD.cnt];by_cases e:F' n=3
   ·rw[AJ e,AJ (h n om e)];omega
   ·rw[AI e];split <;> omega
 exact this 12 (AM _)
theorem XO(h:B3 P K.F):B3 P (clK K).F:=by
 unfold clK;split
 ·exact I5 h _ _ dc
 ·exact h
theorem iF(h:B3 P K.F)(b:Int):B3 P (lvK K b).F:=by
 unfold lvK;split
 ·exact XO h
 ·exact h
theorem iG(h:B3 P K.F)(S:BW)(o:Nat):B3 P (tiK K S o).1.F:=by
 unfold tiK;split
 ·exact h
 ·split
  ·exact h
  ·exact I5 (iE h _) _ _ dc
theorem iH(bd:Bool):∀(l:List Nat) (K:BC) (S:BW),B3 P K.F->B3 P (cpK bd l K S).1.F:=by
 intro l
 induction l with
 | nil=>intro K S h;exact h
 | cons o l ih=>
  intro K S h;unfold cpK;split
  ·exact ih K S h
  ·dsimp only;have h1:B3 P (coK K o).1.F:=(by rw[kg];exact h);generalize coK K o=c at *
   have h2:=iG h1 S o;generalize tiK c.1 S o=t at *
   have h3:B3 P (prM t.1 ⟨t.2.2.1,o,t.1.vs o,(t.1.vc o+1) % 256,c.2.2.1⟩ c.2.1).1.F:=(by rw[ka];exact h2);generalize prM t.1 ⟨t.2.2.1,o,t.1.vs o,(t.1.vc o+1) % 256,c.2.2.1⟩ c.2.1=p at *
   split
   ·exact h1
   ·split
    ·exact h2
    ·split
     ·exact h3
     ·exact ih _ _ h3
theorem iI(h:B3 P K.F)(S:BW)(st:Int)(hs:st≠3):B3 P (cmK K S st).1.F:=by
 unfold cmK;dsimp only;have h0:B3 P (cmL S.ld K).1.F:=by rw[kh];exact h
 generalize cmL S.ld K=X at *
 split
 ·exact h0
 ·have h1:B3 P (stK (lvK X.1 S.fm) S.fm st).F:=I5 (iF h0 _) _ _ hs;generalize stK (lvK X.1 S.fm) S.fm st=K1 at *
  split
  ·exact I5 (XO h1) _ _ dc
  ·exact h1
theorem XP{l:List Nat}(h:YW K S (o :: l)):YW K S l:=⟨fun x hx=>h.mem x (mem_cons_of_mem _ hx),(pairwise_cons.1 h.ord).2,fun x hx=>h.new x (mem_cons_of_mem _ hx)⟩
theorem XQ{bd:Bool}(K:BC)(S:BW)(h:¬ (bd=true/\o=24)):cpK bd [o] K S=cpK false [o] K S:=by
 unfold cpK;rw[AI h,AI (show ¬ (false=true/\o=24) from fun e=>by cases e.1)];rfl
theorem iJ(bd:Bool):∀(l:List Nat) (K:BC) (G:BV) (S:BW),Sit K G (Xs S)->Iy K G S->YW K S l->cS S->Fine K.s->(S.tt.o=false->1<=fre K.F)->K.F S.fm≠0->l.length+S.tt.i<=25->(cpK bd l K S).2.2=0/\Fine (cpK bd l K S).1.s:=by
 intro l
 induction l with
 | nil=>intro K G S h _ _ _ hf _ _ _;exact⟨rfl,hf⟩
 | cons o l ih=>
  intro K G S h hC hD hB hfi hf hv hl;rw[An] at hl;by_cases hsk:bd=true/\o=24
  ·rw[cpK,AJ hsk];exact ih K G S h hC (XP hD) hB hfi hf hv om
  ·have hord:=pairwise_cons.1 hD.ord;have hD1:YW K S [o]:=⟨fun x hx=>by
    have e:x=o:=by simpa using hx
    subst e
    exact hD.mem _ (mem_cons_self ..),pairwise_singleton _ _,fun x hx=>by
    have e:x=o:=by simpa using hx
    subst e
    exact hD.new _ (mem_cons_self ..)⟩
   obtain⟨m1,m2,m3,m4⟩:=hD.mem o (mem_cons_self ..);obtain⟨K1,S1,k,lo,e1,t1,l1,fm1,fd1,f1,-,-⟩:=aY h hC hD1 hB hfi hf hv;rw[<-XQ K S hsk] at e1;obtain⟨G1,hb,hx⟩:=Jt bd [o] K G S h hC hD1 hB hfi.on hf hv (by rw[length_singleton];omega);rw[e1] at hb hx;dsimp only at hb hx;obtain⟨-,-,hC1,hB1,-,-,-,-⟩:=hx.resolve_right (by rintro (⟨e,_⟩ | ⟨e,_⟩) <;> exact absurd e dc)
   have t1i:S1.tt.i=S.tt.i+1:=(by rw[t1]);have t1o:S1.tt.o=true:=(by rw[t1]);have hD2:YW K1 S1 l:=by
    refine⟨fun x hx=>?_,?_,fun x hx t ht=>?_⟩
    ·obtain⟨b1,b2,b3,b4⟩:=hD.mem x (mem_cons_of_mem _ hx);have hlt:=hord.1 x hx;rw[hb.kee.L,fm1,t1i];refine⟨b1,b2,b3,?_⟩;have:=h.wf.lt m1 m2;have:=h.wf.lt b1 b2;omega
    ·rw[hb.kee.L];exact hord.2
    ·rw[l1] at ht;rcases mem_append.1 ht with ht | ht
     ·exact hD.new x (mem_cons_of_mem _ hx) t ht
     ·have e:t=⟨8*k+S.tt.i,o,K.vs o,(K.vc o+1) % 256,lo⟩:=mem_singleton.1 ht;rw[e];intro e2;have e3:o=x:=e2;have:=hord.1 x hx;rw[e3] at this;exact absurd this (Int.lt_irrefl _)
   have hfin:=ih K1 G1 S1 hb.sit hC1 hD2 hB1 f1 (fun e=>by rw[t1o] at e;cases e) (by rw[fm1,hb.fv];exact hv) (by rw[t1i];omega);rw[aW,e1];dsimp only;rw[AI (by simp)];exact hfin
theorem az(h:Sit K G (Xs S))(hC:Iy K G S)(hB:cS S)(hW:Ju K S)(hfi:Fine K.s)(hf:S.tt.o=false->1<=fre K.F)(h0:K.F S.fm≠0)(h3:K.F S.fm≠3)(hb2:bad3 K.F<2)(hnx:K.nx<DX):(cbK K S).2.2=0/\Fine (cbK K S).1.s:=by
 have hE:=(Jy h hC hB hW hfi.on hf h0 h3 hb2 hnx).2.2.2.2;have hcode:(cbK K S).2.2=0\/(cbK K S).2.2=8\/(cbK K S).2.2=7:=by
  rcases hE with ⟨c,_⟩ | ⟨c,_⟩ | ⟨c,_⟩
  ·exact AK c
  ·exact AL (AK c)
  ·exact AL (AL c)
 clear hE;have hi:S.tt.i<8/\((24:Nat)=24\/S.tt.i<6):=⟨by rcases hB with b | ⟨_,b⟩ <;> omega,AK rfl⟩
 obtain⟨K2,k,eti,kee,hs2,htl2,hsp2,k12,kne,kF,ktt,h2,f2,n2,er2,al2,ldk,Fo,kz⟩:=L2 h hC hf h0 (o:=24) dc hi;have hp96:8*k+S.tt.i<96:=om
 have hnx2:K2.nx<DX:=by rw[kee.nx];exact hnx
 have hn1:=h2.wf.nx;have e:sqK K2={ K2 with nx:=K2.nx+1 }:=by
  unfold sqK;have e1:decide (K2.nx=DX)=K2.sp:=by rw[h2.sp];exact AN om
  have e2:min (K2.nx+1) DX=K2.nx+1:=Nat.min_eq_left hnx2;rw[e1,e2]
 have hM:DV ((8*k+S.tt.i:Nat):Int) ((24:Nat):Int) (K2.nx:Nat) ((0:Nat):Int) false:=by
  unfold DX at hnx2;exact⟨⟨om,om,om,om⟩,AK ⟨om,rfl⟩⟩
 have w1:Wf { K2 with nx:=K2.nx+1 }:=by rw[<-e];exact h2.wf.sq
 have hpf:=MA (K:={ K2 with nx:=K2.nx+1 }) w1 h2.rep (t:=⟨8*k+S.tt.i,24,K2.nx,0,false⟩) (D:=bdH S.fm { K2 with nx:=K2.nx+1 } K2.nx) hp96 ⟨rfl,hM,AB.Cn _,AB.Ec _⟩ (er2 S.tt.i (AM _) hi.1) (by show Fine K2.s;rw[hs2];exact hfi);have e0:(frK (bdH S.fm) K2 (8*k+S.tt.i) 24).2.2=0/\Fine (frK (bdH S.fm) K2 (8*k+S.tt.i) 24).1.s:=by
  unfold frK;rw[AI (by rw[h2.sp];decide)];dsimp only;rw[e];rw[AI (by rw[hpf.1];simp)];refine⟨rfl,?_⟩;rw[AJ rfl];exact hpf.2
 have ecb:cbK K S=((cmK (frK (bdH S.fm) K2 (8*k+S.tt.i) 24).1 { S with tt:=⟨true,k,S.tt.i+1⟩,ld:=S.ld ++ [(frK (bdH S.fm) K2 (8*k+S.tt.i) 24).2.1] } 3).1,{ S with tt:=⟨true,k,S.tt.i+1⟩,ld:=S.ld ++ [(frK (bdH S.fm) K2 (8*k+S.tt.i) 24).2.1] },(cmK (frK (bdH S.fm) K2 (8*k+S.tt.i) 24).1 { S with tt:=⟨true,k,S.tt.i+1⟩,ld:=S.ld ++ [(frK (bdH S.fm) K2 (8*k+S.tt.i) 24).2.1] } 3).2):=by
  unfold cbK;rw[eti];dsimp only;rw[AI (show ¬ (0:Nat)≠0 by decide),AI (by rw[e0.1];decide)]
 rw[ecb] at hcode ⊢;dsimp only at hcode ⊢;refine⟨?_,by rw[IT];exact e0.2⟩;have hc2:∀(K:BC) (S:BW) (st:Int),(cmK K S st).2=0\/(cmK K S st).2=1\/(cmK K S st).2=12:=by
  intro K S st;unfold cmK;dsimp only;split
  ·exact Nq _ _
  ·exact AK rfl
 have:=hc2 (frK (bdH S.fm) K2 (8*k+S.tt.i) 24).1 { S with tt:=⟨true,k,S.tt.i+1⟩,ld:=S.ld ++ [(frK (bdH S.fm) K2 (8*k+S.tt.i) 24).2.1] } 3;omega
def XR (x:BC × BW × Nat) (V:Nat):BC × BW × Nat:=
 let e:=erK x.1 V
 if e.2=0 then ((cmK e.1 x.2.1 0).1,x.2.1,(cmK e.1 x.2.1 0).2) else
 if e.2≠8 then (e.1,x.2.1,e.2) else
 let K2:=lvK e.1 V
 let S2:={ x.2.1 with fd:=true }
 if bearK K2=false then (K2,S2,14) else cbK K2 S2
theorem XS(K:BC)(V:Nat)(rt:Bool):tyK K (nwS V rt false) = (if (cpK (false || (rt && bearK K)) ((AA.ofL K.L V).map Int.toNat) K { nwS V rt false with tt:=noF,ld:=[] }).2.2≠0 then cpK (false || (rt && bearK K)) ((AA.ofL K.L V).map Int.toNat) K { nwS V rt false with tt:=noF,ld:=[] } else if (false || (rt && bearK K))=true then cbK (cpK (false || (rt && bearK K)) ((AA.ofL K.L V).map Int.toNat) K { nwS V rt false with tt:=noF,ld:=[] }).1 (cpK (false || (rt && bearK K)) ((AA.ofL K.L V).map Int.toNat) K { nwS V rt false with tt:=noF,ld:=[] }).2.1 else XR (cpK (false || (rt && bearK K)) ((AA.ofL K.L V).map Int.toNat) K { nwS V rt false with tt:=noF,ld:=[] }) V):=by
 unfold tyK XR nwS;dsimp only;rw[AI (show ¬ (false=true/\bearK K=false) from fun e=>by cases e.1)]
theorem RC(h:Sit K G No)(hfi:Fine K.s)(hdd:K.dd=false)(hrm:Rm 0 K)(hT:Told K G)(hnx:K.nx<DX)(hV:V<12)(h0:K.F V≠0)(h3:K.F V≠3)(rt:Bool) :(tyK K (nwS V rt false)).2.2=0/\Fine (tyK K (nwS V rt false)).1.s/\(rt=false->B3 (fun b=>K.F b=3) (tyK K (nwS V rt false)).1.F):=by
 have hcode:(tyK K (nwS V rt false)).2.2=0\/7<=(tyK K (nwS V rt false)).2.2/\(tyK K (nwS V rt false)).2.2≠12:=by
  obtain⟨-,G',hx⟩:=Nk (S:=nwS V rt false) h hfi.on hV h0 h3 hdd hrm (AK hT) hnx;rcases hx with ⟨e,_⟩ | ⟨e,_⟩ | ⟨e,_⟩ | ⟨e,_⟩ <;> omega
 obtain⟨o1,o2,o3⟩:=Ed h.wf.map V;have hbd2:bad3 K.F<=2:=by
  have:¬ 2<bad3 K.F:=fun e=>by have:=h.dds.2 e;rw[hdd] at this;cases this
  omega
 have hfr1:1<=fre K.F:=by unfold Rm at hrm;omega
 have hlen:((AA.ofL K.L V).map Int.toNat).length<=8:=by rw[A7];exact AA.CT K.L V 8
 obtain⟨S0,hS0⟩:∃S0:BW,S0={ nwS V rt false with tt:=noF,ld:=[] }:=⟨_,rfl⟩;obtain⟨bd,hbd⟩:∃bd:Bool,bd=(false || (rt && bearK K)):=⟨_,rfl⟩;have s0fm:S0.fm=V:=by rw[hS0];rfl
 have s0tt:S0.tt=noF:=by rw[hS0]
 have s0ld:S0.ld=[]:=by rw[hS0]
 have s0o:S0.tt.o=false:=by rw[s0tt];rfl
 have s0i:S0.tt.i=0:=by rw[s0tt];rfl
 have hS1:Sit K G (Xs S0):=h.mono (fun _ _ x=>x.elim);have hno:∀ {P:Prop},S0.tt.o=true->P:=fun e=>by rw[s0o] at e;cases e
 have hnt:∀ {P:Prop} {t:Bu},t ∈ S0.ld->P:=fun e=>by rw[s0ld] at e;cases e
 have hC1:Iy K G S0:=⟨by rw[s0fm];exact hV,fun _=>⟨s0ld,s0i⟩,fun e=>hno e,fun e=>hno e,fun e=>hno e,fun e=>hno e,fun t ht=>hnt ht,fun t ht=>hnt ht,by rw[s0ld];exact nodup_nil,by rw[s0ld];exact nodup_nil⟩;have hD:YW K S0 ((AA.ofL K.L V).map Int.toNat):=⟨fun o ho=>by
  obtain⟨q1,q2,q3⟩:=o1 o ho
  rw[s0fm,s0i]
  exact⟨q1,q2,q3,Ac _⟩,o2,fun o _ t ht=>hnt ht⟩
 have hB0:cS S0:=AK (by rw[s0i];exact Ac _);have h0':K.F S0.fm≠0:=by rw[s0fm];exact h0
 have h25:((AA.ofL K.L V).map Int.toNat).length+S0.tt.i<=25:=by rw[s0i];omega
 have cpa:=iJ bd ((AA.ofL K.L V).map Int.toNat) K G S0 hS1 hC1 hD hB0 hfi (fun _=>hfr1) h0' h25;obtain⟨G1,hb,hx⟩:=Jt bd ((AA.ofL K.L V).map Int.toNat) K G S0 hS1 hC1 hD hB0 hfi.on (fun _=>hfr1) h0' h25;have hn3:B3 (fun b=>K.F b=3) (cpK bd ((AA.ofL K.L V).map Int.toNat) K S0).1.F:=iH bd _ K S0 (fun _ _ e=>e);have ety:=XS K V rt;rw[<-hbd,<-hS0] at ety;generalize cpK bd ((AA.ofL K.L V).map Int.toNat) K S0=x at *
 obtain⟨K1,S1,c1⟩:=x;dsimp only at *
 obtain⟨rfl,fi1⟩:=cpa;rw[AI (show ¬ (0:Nat)≠0 by decide)] at ety;obtain⟨-,on1,hC,hB,hi,hall,-,-⟩:=hx.resolve_right (by rintro (⟨e,_⟩ | ⟨e,_⟩) <;> exact absurd e dc)
 obtain⟨sfm,srt,sfd⟩:=hb.sh;have sfm':S1.fm=V:=sfm.trans s0fm;have hF1:K1.F V=K.F V:=by rw[<-s0fm];exact hb.fv
 have hfre1:fre K1.F+(if S1.tt.o=true then 1 else 0)=fre K.F:=by
  have:=hb.fre;rw[s0o] at this;simpa using this
 by_cases hbt:bd=true
 ·rw[AJ hbt] at ety;have hb2:bad3 K.F<2:=by
   by_cases e:bad3 K.F<2
   ·exact e
   ·rw[L3 e] at hbd;rw[hbt] at hbd;simp at hbd
  have hW':Ju K1 S1:=fun o ho hL e=>by
   have hL':K.L o≠-1:=(by rw[<-hb.kee.L];exact hL);have e':(K.L o).toNat / 8=V:=(by rw[<-hb.kee.L,<-sfm'];exact e);rcases hall o (o3 o om hL' e') with ⟨_,e2⟩ | t
   ·omega
   ·exact t
  have hcb:=az hb.sit hC hB hW' fi1 (fun e=>by rw[e,AI dc] at hfre1;omega) (by rw[sfm',hF1];exact h0) (by rw[sfm',hF1];exact h3) (by rw[hb.kee.bd];exact hb2) (by rw[hb.kee.nx];exact hnx);rw[ety];refine⟨hcb.1,hcb.2,fun e=>?_⟩;rw[hbt,e] at hbd;simp at hbd
 ·rw[AI hbt] at ety;have efi:=Q9 (K:=K1) hb.sit.wf (b:=V) hV fi1;unfold XR at ety;dsimp only at ety;rw[AJ efi.1] at ety;rw[ety] at hcode ⊢;dsimp only at hcode ⊢;have hc2:(cmK (erK K1 V).1 S1 0).2=0\/(cmK (erK K1 V).1 S1 0).2=1\/(cmK (erK K1 V).1 S1 0).2=12:=by
   unfold cmK;dsimp only;split
   ·exact Nq _ _
   ·exact AK rfl
  exact⟨om,by rw[IT];exact efi.2,fun _=>iI (by rw[ke];exact hn3) _ _ dc⟩
theorem XT(h:Sit K G No)(hfi:Fine K.s)(hdd:K.dd=false)(hrm:Rm 0 K)(hT:Told K G)(hnx:K.nx<DX)(hV:V<12)(h0:K.F V≠0)(h3:K.F V≠3)(rt:Bool)(n:Nat) :∃Y S',movR n K (nwS V rt false)=some (Y,S',0)/\Fine Y.s/\(rt=false->B3 (fun b=>K.F b=3) Y.F):=by
 obtain⟨t1,t2,t3⟩:=RC h hfi hdd hrm hT hnx hV h0 h3 rt;obtain⟨Y,S',ht⟩:∃Y S',tyK K (nwS V rt false)=(Y,S',0):=⟨_,_,by rw[<-t1]⟩;rw[ht] at t2 t3;refine⟨Y,S',?_,t2,t3⟩;unfold movR moK;rw[AI (by show ¬ false=true;decide)];have etr:trK (Lg n) (n+1) K (nwS V rt false)=some (Y,S',0):=by
  rw[trK,AI (by show ¬ Lf K (V:Nat)=true;rw[L6 hV];simpa using h3)];dsimp only;rw[ht,AJ (show (0:Nat)≠8 by decide)]
 rw[etr];dsimp only;rw[AI (by rintro ⟨_,e⟩;exact absurd e dc)]
theorem Nw{mo:Ek}(s:Sit K G No)(hf:Fine K.s)(hb:bad3 K.F<=2)(ho:K.fr.o=false)(hfre:5<fre K.F+2*bad3 K.F)(ho25:o<25)(k:Nat):∃Y,mrK mo (k+2) K o=some (Y,0)/\Fine Y.s:=by
 have hnr:¬ AC.rmV K.fr o=true:=fun e=>by
  have:=((D3 _ ho25).1 e).1;rw[ho] at this;cases this
 have hc:clK K=K:=CM ho;have hs:GD (clK K)=true:=by rw[hc];exact(Ee hb).2 hfre
 obtain⟨e2,s2,st2,n2,on2,d2,f2,o2,i2,q2,-⟩:=s.opS ho om;refine⟨(opK K).1,?_,by rw[on2];exact hf⟩;rw[mrK,AI hnr];dsimp only;rw[AJ hs,hc,AI (by rw[e2];decide)];rw[mrK,AJ ((D3 _ ho25).2 ⟨o2,om,AL om⟩)]
theorem iK(h:Sit K G No)(hfi:Fine K.s)(hdd:K.dd=false)(hrm:Rm 0 K)(hT:Told K G)(hsq:Sq 0 K)(ho25:o<25)(hn:3<=n)(m:Nat) :∃Y,mrK (movR n) (m+3) K o=some (Y,0)/\Fine Y.s:=by
 by_cases hr:AC.rmV K.fr o=true
 ·exact⟨K,(Gv (mo:=movR n) h hfi.on hdd hrm hr (m+2)).1,hfi⟩
 ·have hb0:bad3 K.F<=2:=by
   have:¬ 2<bad3 K.F:=fun e=>by have:=h.dds.2 e;rw[hdd] at this;cases this
   omega
  obtain⟨s1,st1,n1,on1,d1,f1,o1,q1,-,l1⟩:=h.clS;have hb1:bad3 (clK K).F=bad3 K.F:=by have:=st1.bd;omega
  have fc:Fine (clK K).s:=by rw[on1];exact hfi
  by_cases hs:GD (clK K)=true
  ·have hs':=(Ee om).1 hs;obtain⟨Y,eY,fY⟩:=Nw (mo:=movR n) s1 fc om o1 hs' ho25 (m+1);refine⟨Y,?_,fY⟩;have hnr1:¬ AC.rmV (clK K).fr o=true:=fun e=>by
    have:=((D3 _ ho25).1 e).1;rw[o1] at this;cases this
   have hcc:clK (clK K)=clK K:=CM o1;rw[mrK,AI hr];rw[mrK,AI hnr1,hcc] at eY;exact eY
  ·have hs':¬ 5<fre (clK K).F+2*bad3 (clK K).F:=fun e=>hs ((Ee om).2 e);have hc1:=Pj s1 o1;have hsum:=AD.Im (clK K).F 12 (fun i hi=>s1.sts i hi);have h7:7<=AD.cnt (clK K).F 2 12:=by
    unfold Rm at hrm;unfold fre bad3 at *
    omega
   obtain⟨v1,v2,v3,v4⟩:=Ph s1.wf.map h7;have elv:lvF (clK K)=fun k=>((AA.lvK (clK K).L 96 k:Nat):Int):=rfl;rw[<-elv] at v1 v2 v3 v4;have hTc:Told (clK K) G:=hT.kee q1 rfl;have hrmc:Rm 0 (clK K):=(by unfold Rm at hrm ⊢;omega);obtain⟨Y,S',eY,fY,nY⟩:=XT s1 fc (d1.trans hdd) hrmc hTc (by unfold Sq DX at *;omega) v2 (by rw[v3];decide) (by rw[v3];decide) false n;obtain⟨Y2,eY2,G2,X2,d2,hY⟩:=(Fg (n:=n) (b:=0) om) (clK K) G (nwS (AG.chV 12 12 (clK K).F (lvF (clK K))) false false) s1 fc.on v2 (by show (clK K).F (AG.chV 12 12 (clK K).F (lvF (clK K)))≠0;rw[v3];decide) (by show (clK K).F (AG.chV 12 12 (clK K).F (lvF (clK K)))≠3;rw[v3];decide) (d1.trans hdd) hrmc (AK hTc) (by unfold Sq at hsq ⊢;omega) (Ac _);have e2:Y2=(Y,S',0):=AR (eY2.symm.trans eY);subst e2;have hM:jU (clK K) Y G G2 (nwS (AG.chV 12 12 (clK K).F (lvF (clK K))) false false) (AG.chV 12 12 (clK K).F (lvF (clK K))) ((AA.ofL (clK K).L (AG.chV 12 12 (clK K).F (lvF (clK K)))).length) d2:=by
    rcases hY with ⟨_,M,_⟩ | ⟨c,_⟩ | ⟨c,_⟩
    ·exact M
    ·exact absurd (show (0:Nat)=14 from c) dc
    ·exact absurd (show (0:Nat)=7 from c) dc
   have hbd:=hM.stp.bd;have hd0:d2=0:=by
    have:=cX (nY rfl);omega
   have eall:∀k,mrK (movR n) (k+1) K o=mrK (movR n) k Y o:=fun k=>by
    rw[mrK,AI hr];dsimp only;rw[AI hs,AI (by rw[v1];decide),eY];dsimp only;rw[AI dc]
   rw[eall];by_cases hrY:AC.rmV Y.fr o=true
   ·exact⟨Y,by rw[mrK,AJ hrY],fY⟩
   ·rcases hM.gc hd0 (by rw[v3];decide) with ⟨g1,g2⟩ | ⟨g1,g2⟩
    ·exact absurd ((D3 _ ho25).2 ⟨g1,om,AL om⟩) hrY
    ·have hfo:Y.fr.o=false:=by
      rcases g1 with e | e
      ·rw[e];exact o1
      ·rw[e];rfl
     exact Nw hM.sit fY om hfo (by unfold Rm at hrm;omega) ho25 m
theorem XU{H:Dp}(hH:∀K q,(H K q).length=174/\Bys (H K q))(h:Sit K G No)(hfi:Fine K.s)(hdd:K.dd=false)(hrm:Rm 0 K)(hT:Told K G)(hsq:Sq 1 K)(ho25:o<25)(hn:4<=n) :∃Z,anR (n+1) H K o=some (Z,0)/\Fine Z.s/\Z.dd=false:=by
 obtain⟨Y,eY,fY⟩:=iK h hfi hdd hrm hT (by unfold Sq at hsq ⊢;omega) ho25 (n:=n) om (n - 2);rw[show n - 2+3=n+1 by omega] at eY;obtain⟨Y2,eY2,G2,X2,d2,s2,st2,hx⟩:=J0 (Fg (n:=n) (b:=0) om) ho25 (n+1) K G h hfi.on hdd hrm (AK hT) (by unfold Sq at hsq ⊢;omega) om (Ac _);have e2:Y2=(Y,0):=AR (eY2.symm.trans eY);subst e2;have hbY:bad3 Y.F=bad3 K.F+d2:=st2.bd;obtain⟨yon,yX,yd,yR,yr,yT,yn⟩:Y.s.on=true/\(∀b,¬ X2 b)/\Y.dd=false/\Rm 0 Y/\AC.rmV Y.fr o=true/\(Told K G->Told Y G2)/\((d2=0/\Y.nx=K.nx)\/Y.nx+1<=K.nx+8*d2):=by
  rcases hx with ⟨_,a⟩ | ⟨c,_⟩ | ⟨c,_⟩
  ·exact a
  ·exact absurd (show (0:Nat)=14 from c) dc
  ·exact absurd (show (0:Nat)=7 from c) dc
 have s2':Sit Y G2 No:=s2.mono (fun b _ y=>absurd y (yX b));have hb2:bad3 Y.F<=2:=by
  have:¬ 2<bad3 Y.F:=fun e=>by have:=s2'.dds.2 e;rw[yd] at this;cases this
  omega
 have hnY:Y.nx<DX:=by
  unfold Sq DX at *
  rcases yn with ⟨_,e⟩ | e <;> omega
 obtain⟨c,K1,s',r',R',fD,fi,-,f5,f6⟩:=I0 hH s2' fY ho25 yr hnY;have hl:=J1 ho25 fD;refine⟨(FrL K1 o (8*Y.fr.k+Y.fr.i) s' r' R').1,?_,by rw[hl.2.2.1];exact fi,hl.2.2.2.2.2.2.2.1.trans yd⟩;have e:(FrL K1 o (8*Y.fr.k+Y.fr.i) s' r' R')=((FrL K1 o (8*Y.fr.k+Y.fr.i) s' r' R').1,0):=by rw[<-hl.1]
 rw[<-e,<-f6];exact MB (mr:=mrK (movR n) (n+1)) (mo:=movR n) (by rw[CN h];exact hdd) h.sp eY c f5
theorem iL(h:Sit K G No)(hfi:Fine K.s)(hdd:K.dd=false)(hrm:Rm 0 K)(hT:Told K G)(hsq:Sq 0 K){b:Nat}(hb:b<12) :∃Y,rfK n K b=some (Y,0)/\Fine Y.s:=by
 unfold rfK;have eo:AA.ofV K.L (b:Nat)=AA.ofL K.L b:=by unfold AA.ofV;rw[AI om,AP]
 rw[eo];by_cases hl:AA.ofL K.L b=[]
 ·rw[AJ hl];exact⟨K,rfl,hfi⟩
 ·rw[AI hl];obtain⟨o,ho⟩:∃o,o ∈ (AA.ofL K.L b).map Int.toNat:=by
   cases e:AA.ofL K.L b with
   | nil=>exact absurd e hl
   | cons x r=>exact⟨x.toNat,by simp⟩
  obtain⟨ho25,hoL,hob⟩:=(Ed h.wf.map b).1 o ho;obtain⟨hF0,hF3⟩:=h.blk o ho25 hoL;rw[hob] at hF0 hF3;have hF3':K.F b≠3:=fun e=>by have:=hF3 e;rw[hdd] at this;cases this
  have hb0:bad3 K.F<=2:=by
   have:¬ 2<bad3 K.F:=fun e=>by have:=h.dds.2 e;rw[hdd] at this;cases this
   omega
  obtain⟨Y,S',eY,fY,-⟩:=XT h hfi hdd hrm hT (by unfold Sq DX at *;omega) hb hF0 hF3' (AF.much 3 K.hS (b:Nat)) n;rw[eY];dsimp only;rw[AI (by simp)];exact⟨_,rfl,fY⟩
theorem XV(hn:3<=n):∀(m:Nat) (K:BC) (G:BV),Sit K G No->Fine K.s->K.dd=false->Rm 0 K->Told K G->Sq 0 K->K.qu.length<m ->∃Y,raK n m K=some (Y,0)/\Fine Y.s:=by
 intro m
 induction m with
 | zero=>intro K G _ _ _ _ _ _ hm;omega
 | succ m ih=>
  intro K G h hfi hd hrm hT hsq hm;rw[raK,CN h,AI (by rw[hd];simp)];cases hq:K.qu with
  | nil=>exact⟨K,rfl,hfi⟩
  | cons b l=>
   dsimp only;have hok:=h.wf.qu;rw[hq] at hok hm;have hbb:=hok.2 b (by simp);have h1:Sit { K with qu:=l } G No:=h.cntq hok.tail K.rp K.md;obtain⟨y,ey,hy,hyq⟩:=Q4 hn h1 hfi.on hd hrm hT hsq (b:=b.toNat) om;obtain⟨Y,eY,fY⟩:=iL (n:=n) h1 hfi hd hrm hT hsq (b:=b.toNat) om;have e2:y=(Y,0):=AR (ey.symm.trans eY);subst e2;rw[ey];dsimp only;rw[AI (by simp)];obtain⟨G',X',d,hs,st,hx⟩:=hy;have hbd:bad3 Y.F=bad3 K.F+d:=st.bd;rcases hx with ⟨c0,on,hX,dd,rm,td,nx⟩ | ⟨c,_⟩ | ⟨c,_⟩
   ·have nx':Y.nx<=K.nx+8*d:=nx;have hyl:Y.qu.length=l.length:=(by rw[show Y.qu=l from hyq]);exact ih Y G' (hs.mono (Y:=fun _=>False) (fun b _ e=>absurd e (hX b))) fY dd rm td (by unfold Sq at hsq ⊢;omega) (by rw[hyl];simp at hm;omega)
   ·exact absurd (show (0:Nat)=14 from c) dc
   ·exact absurd (show (0:Nat)=7 from c) dc
end
section
variable {s:BG}{te:FF}{mo:Ek}{n:Nat}{Z:BC × Nat}(K:BC)
def Wsd (s:BG):Prop:=Fine s/\∀j,dmg (s.ch j)<=(s.ch j).worst
theorem Fh{k:GY}(h:k.now=k.tru):dmg k=0:=by
 have:∀(a:List Nat) (n:Nat),dmgTo a a n=0:=by
  intro a n
  induction n with
  | zero=>rfl
  | succ n ih=>
   show dmgTo a a n+(if a.getD n 0=a.getD n 0 then 0 else 1)=0;rw[ih,AJ rfl]
 unfold dmg;rw[h];exact this _ _
theorem XW(h:Wsd s)(a k:Int)(l:List Nat):Wsd (writeR s a k l).1:=by
 refine⟨(h.1.write a k l).1,fun j=>?_⟩;unfold writeR;split
 ·exact h.2 j
 ·rw[AI (by rw[h.1.on];decide)];split
  ·exact h.2 j
  ·rw[AI (by rw[h.1.lim];simp),AI (by rw[(h.1.failW _).1];decide)];show dmg (if j=4*a.toNat+k.toNat then E4 l else s.ch j)<=(if j=4*a.toNat+k.toNat then E4 l else s.ch j).worst;split
   ·rw[Fh rfl];exact Ac _
   ·exact h.2 j
theorem XX(h:Wsd s)(b:Int):Wsd (eraseR s b).1:=by
 refine⟨(h.1.erase b).1,fun j=>?_⟩;unfold eraseR;split
 ·exact h.2 j
 ·rw[AI (by rw[h.1.on];decide),AI (by rw[h.1.lim];simp),AI (by rw[(h.1.failE _).1];decide)];show dmg (if 32*b.toNat<=j/\j<32*b.toNat+32 then DW else s.ch j)<=(if 32*b.toNat<=j/\j<32*b.toNat+32 then DW else s.ch j).worst;split
  ·rw[Fh rfl];exact Ac _
  ·exact h.2 j
theorem XY(h:Wsd s)(a:Int):Wsd (readV s a).1:=by
 refine⟨(h.1.readV a).1,?_⟩;unfold readV;split
 ·exact h.2
 ·split <;> exact h.2
theorem iM(h:Wsd s)(a:Int)(W:Nat->List Nat):∀n,Wsd (wrN s a W n).1:=by
 intro n
 induction n with
 | zero=>exact h
 | succ n ih=>
  rw[wrN];split
  ·exact XW ih _ _ _
  ·exact ih
theorem XZ(tl:List Nat->Int->Pg)(h:Wsd s)(r a:Int):Wsd (rdF tl s r a).1:=by
 have:=XY h a;unfold rdF;split <;> exact this
theorem iN(tl:List Nat->Int->Pg)(h:Wsd s)(r:Int)(t:Bu)(D:List Nat):Wsd (prF tl s r t D).1:=by
 unfold prF;have h1:=iM h t.p (wordOf D (body t.p t.o t.q t.c t.l)) 4;generalize wrN s t.p (wordOf D (body t.p t.o t.q t.c t.l)) 4=X at *
 dsimp only;have h2:=XZ tl h1 r t.p;generalize rdF tl X.1 r t.p=Y at *
 split
 ·exact h1
 ·split <;> exact h2
theorem Xa(p:Nat)(h:Wsd K.s):Wsd (rdK K p).1.s:=by
 have:=XZ K.tl h K.r p;unfold rdK;dsimp only;generalize rdF K.tl K.s K.r p=X at *
 split <;> exact this
theorem Xb(t:Bu)(D:List Nat)(h:Wsd K.s):Wsd (prK K t D).1.s:=by
 have:=iN K.tl h K.r t D;unfold prK;dsimp only;exact this
theorem iO(t:Bu)(D:List Nat)(h:Wsd K.s):Wsd (prM K t D).1.s:=by
 unfold prM;split
 ·exact h
 ·exact Xb K t D h
theorem iP(b:Nat)(h:Wsd K.s):Wsd (erK K b).1.s:=by
 have:=XX h b;unfold erK;dsimp only;generalize eraseR K.s b=X at *
 split <;> exact this
theorem Xc(H:Dp)(K:BC)(p o:Nat)(h:Wsd K.s):Wsd (frK H K p o).1.s:=by
 unfold frK;by_cases hs:K.sp=true
 ·rw[AJ hs];exact h
 ·rw[AI hs];dsimp only;have h1:=Xb (sqK K) ⟨p,o,K.nx,0,false⟩ (H (sqK K) K.nx) (by rw[WP];exact h);generalize prK (sqK K) ⟨p,o,K.nx,0,false⟩ (H (sqK K) K.nx)=x at *
  by_cases c:x.2≠0
  ·rw[AJ c];exact h1
  ·rw[AI c];by_cases d:o=24
   ·rw[AJ d];exact h1
   ·rw[AI d];exact h1
theorem iQ(o:Nat)(h:Wsd K.s):Wsd (coK K o).1.s:=by
 have h1:=Xa K (K.L o).toNat h;unfold coK;split
 ·exact h
 ·dsimp only;generalize rdK K (K.L o).toNat=X at *
  split
  ·exact h1
  ·split
   ·exact h1
   ·split <;> exact h1
theorem iR(bd:Bool):∀(l:List Nat) (K:BC) (S:BW),Wsd K.s->Wsd (cpK bd l K S).1.s:=by
 intro l
 induction l with
 | nil=>intro K S h;exact h
 | cons o l ih=>
  intro K S h;unfold cpK;split
  ·exact ih K S h
  ·dsimp only;have h1:=iQ K o h;generalize coK K o=c at *
   have h2:Wsd (tiK c.1 S o).1.s:=(by rw[Ku];exact h1);generalize tiK c.1 S o=t at *
   have h3:=iO t.1 ⟨t.2.2.1,o,t.1.vs o,(t.1.vc o+1) % 256,c.2.2.1⟩ c.2.1 h2;generalize prM t.1 ⟨t.2.2.1,o,t.1.vs o,(t.1.vc o+1) % 256,c.2.2.1⟩ c.2.1=p at *
   split
   ·exact h1
   ·split
    ·exact h2
    ·split
     ·exact h3
     ·exact ih _ _ h3
theorem Xd(S:BW)(h:Wsd K.s):Wsd (cbK K S).1.s:=by
 unfold cbK;dsimp only;have h1:Wsd (tiK K S 24).1.s:=by rw[Ku];exact h
 generalize tiK K S 24=t at *
 have h2:=Xc (bdH S.fm) t.1 t.2.2.1 24 h1;generalize frK (bdH S.fm) t.1 t.2.2.1 24=f at *
 split
 ·exact h1
 ·split
  ·exact h2
  ·rw[IT];exact h2
theorem iS(S:BW)(h:Wsd K.s):Wsd (tyK K S).1.s:=by
 unfold tyK;dsimp only;have hx:=iR (S.fd || (S.rt && bearK K)) ((AA.ofL K.L S.fm).map Int.toNat) K { S with tt:=noF,ld:=[] } h;generalize cpK (S.fd || (S.rt && bearK K)) ((AA.ofL K.L S.fm).map Int.toNat) K { S with tt:=noF,ld:=[] }=x at *
 have he:=iP x.1 S.fm hx;have hb:=Xd x.1 x.2.1 hx;generalize erK x.1 S.fm=y at *
 have hc:Wsd (cmK y.1 x.2.1 0).1.s:=by rw[IT];exact he
 have hl:Wsd (lvK y.1 S.fm).s:=by rw[IS];exact he
 generalize cmK y.1 x.2.1 0=c at *
 generalize lvK y.1 S.fm=u at *
 have hd:=Xd u { x.2.1 with fd:=true } hl;generalize cbK u { x.2.1 with fd:=true }=v at *
 generalize cbK x.1 x.2.1=v2 at *
 split
 ·exact h
 ·split
  ·exact hx
  ·split
   ·exact hb
   ·split
    ·exact hc
    ·split
     ·exact he
     ·split
      ·exact hl
      ·exact hd
def a9 (te:FF):Prop:=∀K Z,te K=some Z->Wsd K.s->Wsd Z.1.s
def MovW (mo:Ek):Prop:=∀K S Z,mo K S=some Z->Wsd K.s->Wsd Z.1.s
theorem Xe{an:FF}(h:a9 an):a9 (IN an):=by
 intro K Z e hp;unfold IN at e;have h1:Wsd (opK (clK K)).1.s:=by rw[Kt,IQ];exact hp
 split at e
 ·cases e;exact hp
 ·split at e
  ·exact h _ _ e hp
  ·split at e
   ·cases e
    exact h1
   ·exact h _ _ e h1
theorem iT(h:a9 te):∀n,MovW (trK te n):=by
 intro n
 induction n with
 | zero=>intro K S Z e;cases e
 | succ n ih=>
  intro K S Z e hp;unfold trK at e;have ht:=iS K S hp;split at e
  ·cases e;exact hp
  ·dsimp only at e;generalize tyK K S=x at *
   split at e
   ·cases e;exact ht
   ·cases hy:te (spK x.1 (AC.blV x.2.1.tt)) with
    | none=>rw[hy] at e;cases e
    | some y=>
     rw[hy] at e;dsimp only at e;have h1:=h _ _ hy (by rw[Ks];exact ht);split at e
     ·cases e;exact h1
     ·exact ih _ _ _ e h1
theorem Xf(h:a9 te)(n:Nat):MovW (moK te n):=by
 intro K S Z e hp;unfold moK at e;cases hy:trK te n (if S.fd then lvK K S.fm else K) S with
 | none=>rw[hy] at e;cases e
 | some x=>
  rw[hy] at e;dsimp only at e;have h1:Wsd x.1.s:=iT h n _ _ _ hy (by
   split
   ·
    rw[IS];exact hp
   ·
    exact hp)
  split at e
  ·cases e
   show Wsd (spK x.1 x.2.1.fm).s;rw[Ks];exact h1
  ·cases e;exact h1
theorem iU(h:MovW mo):∀n K o Z,mrK mo n K o=some Z->Wsd K.s->Wsd Z.1.s:=by
 intro n
 induction n with
 | zero=>intro K o Z e;cases e
 | succ n ih=>
  intro K o Z e hp;unfold mrK at e;have h0:Wsd (clK K).s:=by rw[IQ];exact hp
  split at e
  ·cases e;exact hp
  ·dsimp only at e;generalize clK K=K1 at *
   have h1:Wsd (opK K1).1.s:=(by rw[Kt];exact h0);split at e
   ·split at e
    ·cases e
     exact h1
    ·exact ih _ _ _ e h1
   ·split at e
    ·cases e
     exact h0
    ·cases hy:mo K1 (nwS (AG.chV 12 12 K1.F (lvF K1)) false false) with
     | none=>rw[hy] at e;cases e
     | some y=>
      rw[hy] at e;dsimp only at e;have h2:=h _ _ _ hy h0;split at e
      ·cases e;exact h2
      ·exact ih _ _ _ e h2
theorem iV{mr:BC->Nat->Option (BC × Nat)}(hr:∀K o Z,mr K o=some Z->Wsd K.s->Wsd Z.1.s)(h:MovW mo)(H:Dp):∀n K o Z,anK mr mo H n K o=some Z->Wsd K.s->Wsd Z.1.s:=by
 intro n
 induction n with
 | zero=>intro K o Z e;cases e
 | succ n ih=>
  intro K o Z e hp;unfold anK at e;split at e
  ·cases e;exact hp
  ·cases hx:mr K o with
   | none=>rw[hx] at e;cases e
   | some x=>
    rw[hx] at e;dsimp only at e;have h1:=hr _ _ _ hx hp;split at e
    ·cases e;exact h1
    ·split at e
     ·cases e;exact h1
     ·have h2:=Xc H { x.1 with fr:=AC.tkS x.1.fr o } (AC.nxV x.1.fr o).toNat o h1;generalize frK H { x.1 with fr:=AC.tkS x.1.fr o } (AC.nxV x.1.fr o).toNat o=f at *
      split at e
      ·cases e
       rw[Jq];exact h2
      ·split at e
       ·cases e;exact h2
       ·cases hy:mo f.1 (nwS (AC.blV f.1.fr).toNat false true) with
        | none=>rw[hy] at e;cases e
        | some y=>
         rw[hy] at e;dsimp only at e;have h4:=h _ _ _ hy h2;split at e
         ·cases e;exact h4
         ·exact ih _ _ _ e h4
theorem Pu:∀n H K o Z,anR n H K o=some Z->Wsd K.s->Wsd Z.1.s:=by
 intro n
 induction n with
 | zero=>intro H K o Z e;cases e
 | succ n ih=>
  intro H K o Z e;have hm:MovW (moK (IN fun K=>anR n noH K 24) (n+1)):=Xf (Xe fun _ _ e=>ih _ _ _ _ e) _;exact iV (mr:=mrK (moK (IN fun K=>anR n noH K 24) (n+1)) (n+1)) (fun K o Z e=>iU hm _ _ _ _ e) hm H (n+1) K o Z e
theorem bA(n:Nat):MovW (movR n):=Xf (Xe fun _ _ e=>Pu n _ _ _ _ e) _
theorem Pv(p:Nat)(h:Wsd K.s):Wsd (inK K p).1.s:=by
 have h1:=Xa K p h;unfold inK;dsimp only;generalize rdK K p=X at *
 split
 ·exact h1
 ·split
  ·exact h1
  ·split <;> exact h1
theorem iW(o:Nat)(h:Wsd K.s):Wsd (geK K o).1.s:=by
 have h1:=Pv K (K.L o).toNat h;unfold geK;split
 ·exact h
 ·dsimp only;generalize inK K (K.L o).toNat=X at *
  split
  ·exact h1
  ·split <;> exact h1
theorem MF(c:Nat):∀(n i:Nat) (K:BC),Wsd K.s->Wsd (tdI c n i K).1.s:=by
 intro n
 induction n with
 | zero=>intro i K h;exact h
 | succ n ih=>
  intro i K h;rw[tdI];split
  ·exact Pv _ _ h
  ·exact ih _ _ (Pv _ _ h)
theorem iX{K:BC}{b:Nat}(e:rfK n K b=some Z)(hp:Wsd K.s):Wsd Z.1.s:=by
 unfold rfK at e;split at e
 ·cases e;exact hp
 ·cases hy:movR n K (nwS b (AF.much 3 K.hS (b:Nat)) false) with
  | none=>rw[hy] at e;cases e
  | some y=>
   rw[hy] at e;dsimp only at e;have h1:=bA n _ _ _ hy hp;split at e
   ·cases e;exact h1
   ·cases e;exact h1
theorem iY(m:Nat):∀(n:Nat) (K:BC) (Z:BC × Nat),raK m n K=some Z->Wsd K.s->Wsd Z.1.s:=by
 intro n
 induction n with
 | zero=>intro K Z e;cases e
 | succ n ih=>
  intro K Z e hp;rw[raK] at e;split at e
  ·cases e;exact hp
  ·split at e
   ·cases e;exact hp
   ·rename_i b r _;cases hy:rfK m { K with qu:=r } b.toNat with
    | none=>rw[hy] at e;cases e
    | some y=>
     rw[hy] at e;dsimp only at e;have h1:=iX hy hp;split at e
     ·cases e;exact h1
     ·exact ih _ _ e h1
theorem iZ{m:Nat}{K:BC}(e:tdK n m K=some Z)(hp:Wsd K.s):Wsd Z.1.s:=by
 unfold tdK at e;have h0:=MF K.cu 8 0 { K with cu:=(K.cu+8) % 96,ca:=K.ca+1 } hp;generalize tdI K.cu 8 0 { K with cu:=(K.cu+8) % 96,ca:=K.ca+1 }=X at *
 unfold OG at e;split at e
 ·cases e;exact h0
 ·cases hy:raK n m (awK X.1) with
  | none=>rw[hy] at e;cases e
  | some y=>
   rw[hy] at e;dsimp only at e;have h1:Wsd y.1.s:=iY _ _ _ _ hy h0;split at e
   ·cases e;exact h1
   ·split at e
    ·cases hz:anR n noH y.1 24 with
     | none=>rw[hz] at e;cases e
     | some z=>
      rw[hz] at e;cases e
      have h9:=Pu _ _ _ _ _ hz h1;exact h9
    ·cases e;exact h1
end
section
variable {s:BG}{te:FF}{mo:Ek}{n:Nat}{Z:BC × Nat}(K:BC)
def Un (s:BG):Prop:=Fine s/\∀j,(s.ch j).now=(s.ch j).tru
theorem Xg(h:Un s)(a k:Int)(l:List Nat):Un (writeR s a k l).1:=by
 refine⟨(h.1.write a k l).1,fun j=>?_⟩;unfold writeR;split
 ·exact h.2 j
 ·rw[AI (by rw[h.1.on];decide)];split
  ·exact h.2 j
  ·rw[AI (by rw[h.1.lim];simp),AI (by rw[(h.1.failW _).1];decide)];show (if j=4*a.toNat+k.toNat then E4 l else s.ch j).now=(if j=4*a.toNat+k.toNat then E4 l else s.ch j).tru;split
   ·rfl
   ·exact h.2 j
theorem Xh(h:Un s)(b:Int):Un (eraseR s b).1:=by
 refine⟨(h.1.erase b).1,fun j=>?_⟩;unfold eraseR;split
 ·exact h.2 j
 ·rw[AI (by rw[h.1.on];decide),AI (by rw[h.1.lim];simp),AI (by rw[(h.1.failE _).1];decide)];show (if 32*b.toNat<=j/\j<32*b.toNat+32 then DW else s.ch j).now=(if 32*b.toNat<=j/\j<32*b.toNat+32 then DW else s.ch j).tru;split
  ·rfl
  ·exact h.2 j
theorem Xi(h:Un s)(a:Int):Un (readV s a).1:=by
 refine⟨(h.1.readV a).1,?_⟩;unfold readV;split
 ·exact h.2
 ·split <;> exact h.2
theorem ia(h:Un s)(a:Int)(W:Nat->List Nat):∀n,Un (wrN s a W n).1:=by
 intro n
 induction n with
 | zero=>exact h
 | succ n ih=>
  rw[wrN];split
  ·exact Xg ih _ _ _
  ·exact ih
theorem Xj(tl:List Nat->Int->Pg)(h:Un s)(r a:Int):Un (rdF tl s r a).1:=by
 have:=Xi h a;unfold rdF;split <;> exact this
theorem ib(tl:List Nat->Int->Pg)(h:Un s)(r:Int)(t:Bu)(D:List Nat):Un (prF tl s r t D).1:=by
 unfold prF;have h1:=ia h t.p (wordOf D (body t.p t.o t.q t.c t.l)) 4;generalize wrN s t.p (wordOf D (body t.p t.o t.q t.c t.l)) 4=X at *
 dsimp only;have h2:=Xj tl h1 r t.p;generalize rdF tl X.1 r t.p=Y at *
 split
 ·exact h1
 ·split <;> exact h2
theorem Xk(p:Nat)(h:Un K.s):Un (rdK K p).1.s:=by
 have:=Xj K.tl h K.r p;unfold rdK;dsimp only;generalize rdF K.tl K.s K.r p=X at *
 split <;> exact this
theorem Xl(t:Bu)(D:List Nat)(h:Un K.s):Un (prK K t D).1.s:=by
 have:=ib K.tl h K.r t D;unfold prK;dsimp only;exact this
theorem ic(t:Bu)(D:List Nat)(h:Un K.s):Un (prM K t D).1.s:=by
 unfold prM;split
 ·exact h
 ·exact Xl K t D h
theorem ie(b:Nat)(h:Un K.s):Un (erK K b).1.s:=by
 have:=Xh h b;unfold erK;dsimp only;generalize eraseR K.s b=X at *
 split <;> exact this
theorem Xm(H:Dp)(K:BC)(p o:Nat)(h:Un K.s):Un (frK H K p o).1.s:=by
 unfold frK;by_cases hs:K.sp=true
 ·rw[AJ hs];exact h
 ·rw[AI hs];dsimp only;have h1:=Xl (sqK K) ⟨p,o,K.nx,0,false⟩ (H (sqK K) K.nx) (by rw[WP];exact h);generalize prK (sqK K) ⟨p,o,K.nx,0,false⟩ (H (sqK K) K.nx)=x at *
  by_cases c:x.2≠0
  ·rw[AJ c];exact h1
  ·rw[AI c];by_cases d:o=24
   ·rw[AJ d];exact h1
   ·rw[AI d];exact h1
theorem ig(o:Nat)(h:Un K.s):Un (coK K o).1.s:=by
 have h1:=Xk K (K.L o).toNat h;unfold coK;split
 ·exact h
 ·dsimp only;generalize rdK K (K.L o).toNat=X at *
  split
  ·exact h1
  ·split
   ·exact h1
   ·split <;> exact h1
theorem ii(bd:Bool):∀(l:List Nat) (K:BC) (S:BW),Un K.s->Un (cpK bd l K S).1.s:=by
 intro l
 induction l with
 | nil=>intro K S h;exact h
 | cons o l ih=>
  intro K S h;unfold cpK;split
  ·exact ih K S h
  ·dsimp only;have h1:=ig K o h;generalize coK K o=c at *
   have h2:Un (tiK c.1 S o).1.s:=(by rw[Ku];exact h1);generalize tiK c.1 S o=t at *
   have h3:=ic t.1 ⟨t.2.2.1,o,t.1.vs o,(t.1.vc o+1) % 256,c.2.2.1⟩ c.2.1 h2;generalize prM t.1 ⟨t.2.2.1,o,t.1.vs o,(t.1.vc o+1) % 256,c.2.2.1⟩ c.2.1=p at *
   split
   ·exact h1
   ·split
    ·exact h2
    ·split
     ·exact h3
     ·exact ih _ _ h3
theorem Xn(S:BW)(h:Un K.s):Un (cbK K S).1.s:=by
 unfold cbK;dsimp only;have h1:Un (tiK K S 24).1.s:=by rw[Ku];exact h
 generalize tiK K S 24=t at *
 have h2:=Xm (bdH S.fm) t.1 t.2.2.1 24 h1;generalize frK (bdH S.fm) t.1 t.2.2.1 24=f at *
 split
 ·exact h1
 ·split
  ·exact h2
  ·rw[IT];exact h2
theorem ij(S:BW)(h:Un K.s):Un (tyK K S).1.s:=by
 unfold tyK;dsimp only;have hx:=ii (S.fd || (S.rt && bearK K)) ((AA.ofL K.L S.fm).map Int.toNat) K { S with tt:=noF,ld:=[] } h;generalize cpK (S.fd || (S.rt && bearK K)) ((AA.ofL K.L S.fm).map Int.toNat) K { S with tt:=noF,ld:=[] }=x at *
 have he:=ie x.1 S.fm hx;have hb:=Xn x.1 x.2.1 hx;generalize erK x.1 S.fm=y at *
 have hc:Un (cmK y.1 x.2.1 0).1.s:=by rw[IT];exact he
 have hl:Un (lvK y.1 S.fm).s:=by rw[IS];exact he
 generalize cmK y.1 x.2.1 0=c at *
 generalize lvK y.1 S.fm=u at *
 have hd:=Xn u { x.2.1 with fd:=true } hl;generalize cbK u { x.2.1 with fd:=true }=v at *
 generalize cbK x.1 x.2.1=v2 at *
 split
 ·exact h
 ·split
  ·exact hx
  ·split
   ·exact hb
   ·split
    ·exact hc
    ·split
     ·exact he
     ·split
      ·exact hl
      ·exact hd
def bC (te:FF):Prop:=∀K Z,te K=some Z->Un K.s->Un Z.1.s
def MovU (mo:Ek):Prop:=∀K S Z,mo K S=some Z->Un K.s->Un Z.1.s
theorem Xo{an:FF}(h:bC an):bC (IN an):=by
 intro K Z e hp;unfold IN at e;have h1:Un (opK (clK K)).1.s:=by rw[Kt,IQ];exact hp
 split at e
 ·cases e;exact hp
 ·split at e
  ·exact h _ _ e hp
  ·split at e
   ·cases e
    exact h1
   ·exact h _ _ e h1
theorem ik(h:bC te):∀n,MovU (trK te n):=by
 intro n
 induction n with
 | zero=>intro K S Z e;cases e
 | succ n ih=>
  intro K S Z e hp;unfold trK at e;have ht:=ij K S hp;split at e
  ·cases e;exact hp
  ·dsimp only at e;generalize tyK K S=x at *
   split at e
   ·cases e;exact ht
   ·cases hy:te (spK x.1 (AC.blV x.2.1.tt)) with
    | none=>rw[hy] at e;cases e
    | some y=>
     rw[hy] at e;dsimp only at e;have h1:=h _ _ hy (by rw[Ks];exact ht);split at e
     ·cases e;exact h1
     ·exact ih _ _ _ e h1
theorem Xp(h:bC te)(n:Nat):MovU (moK te n):=by
 intro K S Z e hp;unfold moK at e;cases hy:trK te n (if S.fd then lvK K S.fm else K) S with
 | none=>rw[hy] at e;cases e
 | some x=>
  rw[hy] at e;dsimp only at e;have h1:Un x.1.s:=ik h n _ _ _ hy (by
   split
   ·
    rw[IS];exact hp
   ·
    exact hp)
  split at e
  ·cases e
   show Un (spK x.1 x.2.1.fm).s;rw[Ks];exact h1
  ·cases e;exact h1
theorem il(h:MovU mo):∀n K o Z,mrK mo n K o=some Z->Un K.s->Un Z.1.s:=by
 intro n
 induction n with
 | zero=>intro K o Z e;cases e
 | succ n ih=>
  intro K o Z e hp;unfold mrK at e;have h0:Un (clK K).s:=by rw[IQ];exact hp
  split at e
  ·cases e;exact hp
  ·dsimp only at e;generalize clK K=K1 at *
   have h1:Un (opK K1).1.s:=(by rw[Kt];exact h0);split at e
   ·split at e
    ·cases e
     exact h1
    ·exact ih _ _ _ e h1
   ·split at e
    ·cases e
     exact h0
    ·cases hy:mo K1 (nwS (AG.chV 12 12 K1.F (lvF K1)) false false) with
     | none=>rw[hy] at e;cases e
     | some y=>
      rw[hy] at e;dsimp only at e;have h2:=h _ _ _ hy h0;split at e
      ·cases e;exact h2
      ·exact ih _ _ _ e h2
theorem im{mr:BC->Nat->Option (BC × Nat)}(hr:∀K o Z,mr K o=some Z->Un K.s->Un Z.1.s)(h:MovU mo)(H:Dp):∀n K o Z,anK mr mo H n K o=some Z->Un K.s->Un Z.1.s:=by
 intro n
 induction n with
 | zero=>intro K o Z e;cases e
 | succ n ih=>
  intro K o Z e hp;unfold anK at e;split at e
  ·cases e;exact hp
  ·cases hx:mr K o with
   | none=>rw[hx] at e;cases e
   | some x=>
    rw[hx] at e;dsimp only at e;have h1:=hr _ _ _ hx hp;split at e
    ·cases e;exact h1
    ·split at e
     ·cases e;exact h1
     ·have h2:=Xm H { x.1 with fr:=AC.tkS x.1.fr o } (AC.nxV x.1.fr o).toNat o h1;generalize frK H { x.1 with fr:=AC.tkS x.1.fr o } (AC.nxV x.1.fr o).toNat o=f at *
      split at e
      ·cases e
       rw[Jq];exact h2
      ·split at e
       ·cases e;exact h2
       ·cases hy:mo f.1 (nwS (AC.blV f.1.fr).toNat false true) with
        | none=>rw[hy] at e;cases e
        | some y=>
         rw[hy] at e;dsimp only at e;have h4:=h _ _ _ hy h2;split at e
         ·cases e;exact h4
         ·exact ih _ _ _ e h4
theorem H8:∀n H K o Z,anR n H K o=some Z->Un K.s->Un Z.1.s:=by
 intro n
 induction n with
 | zero=>intro H K o Z e;cases e
 | succ n ih=>
  intro H K o Z e;have hm:MovU (moK (IN fun K=>anR n noH K 24) (n+1)):=Xp (Xo fun _ _ e=>ih _ _ _ _ e) _;exact im (mr:=mrK (moK (IN fun K=>anR n noH K 24) (n+1)) (n+1)) (fun K o Z e=>il hm _ _ _ _ e) hm H (n+1) K o Z e
theorem bE(n:Nat):MovU (movR n):=Xp (Xo fun _ _ e=>H8 n _ _ _ _ e) _
theorem Px(p:Nat)(h:Un K.s):Un (inK K p).1.s:=by
 have h1:=Xk K p h;unfold inK;dsimp only;generalize rdK K p=X at *
 split
 ·exact h1
 ·split
  ·exact h1
  ·split <;> exact h1
theorem Xq(o:Nat)(h:Un K.s):Un (geK K o).1.s:=by
 have h1:=Px K (K.L o).toNat h;unfold geK;split
 ·exact h
 ·dsimp only;generalize inK K (K.L o).toNat=X at *
  split
  ·exact h1
  ·split <;> exact h1
theorem io(c:Nat):∀(n i:Nat) (K:BC),Un K.s->Un (tdI c n i K).1.s:=by
 intro n
 induction n with
 | zero=>intro i K h;exact h
 | succ n ih=>
  intro i K h;rw[tdI];split
  ·exact Px _ _ h
  ·exact ih _ _ (Px _ _ h)
theorem ip{K:BC}{b:Nat}(e:rfK n K b=some Z)(hp:Un K.s):Un Z.1.s:=by
 unfold rfK at e;split at e
 ·cases e;exact hp
 ·cases hy:movR n K (nwS b (AF.much 3 K.hS (b:Nat)) false) with
  | none=>rw[hy] at e;cases e
  | some y=>
   rw[hy] at e;dsimp only at e;have h1:=bE n _ _ _ hy hp;split at e
   ·cases e;exact h1
   ·cases e;exact h1
theorem iq(m:Nat):∀(n:Nat) (K:BC) (Z:BC × Nat),raK m n K=some Z->Un K.s->Un Z.1.s:=by
 intro n
 induction n with
 | zero=>intro K Z e;cases e
 | succ n ih=>
  intro K Z e hp;rw[raK] at e;split at e
  ·cases e;exact hp
  ·split at e
   ·cases e;exact hp
   ·rename_i b r _;cases hy:rfK m { K with qu:=r } b.toNat with
    | none=>rw[hy] at e;cases e
    | some y=>
     rw[hy] at e;dsimp only at e;have h1:=ip hy hp;split at e
     ·cases e;exact h1
     ·exact ih _ _ e h1
theorem Xr{m:Nat}{K:BC}(e:tdK n m K=some Z)(hp:Un K.s):Un Z.1.s:=by
 unfold tdK at e;have h0:=io K.cu 8 0 { K with cu:=(K.cu+8) % 96,ca:=K.ca+1 } hp;generalize tdI K.cu 8 0 { K with cu:=(K.cu+8) % 96,ca:=K.ca+1 }=X at *
 unfold OG at e;split at e
 ·cases e;exact h0
 ·cases hy:raK n m (awK X.1) with
  | none=>rw[hy] at e;cases e
  | some y=>
   rw[hy] at e;dsimp only at e;have h1:Un y.1.s:=iq _ _ _ _ hy h0;split at e
   ·cases e;exact h1
   ·split at e
    ·cases hz:anR n noH y.1 24 with
     | none=>rw[hz] at e;cases e
     | some z=>
      rw[hz] at e;cases e
      have h9:=H8 _ _ _ _ _ hz h1;exact h9
    ·cases e;exact h1
end
section
variable {K:BC}{G:BV}{B o:Nat}{La:Nat->Int}
structure TI (B:Nat) (K:BC) (G:BV) (La:Nat->Int):Prop where
 iv:Lnv B K G La
 wd:Wsd K.s
 dd:K.dd=false
theorem TI.sit(h:TI B K G La):Sit K G No/\Rm 0 K/\Told K G:=by
 obtain⟨_,X,hs,hd⟩:=h.iv.iv;obtain⟨hX,r,t⟩:=hd h.dd;exact⟨hs.mono (fun b _ e=>absurd e (hX b)),r,t⟩
theorem bF(h:TI B K G La)(hB:B<1073741824)(ho:o<24)(x:Int):∃Y G',anR 6 (fun _ _=>En x ++ List.replicate 14 0) K o=some (Y,0)/\TI (B+1) Y G' (upd La o x):=by
 obtain⟨hs,hr,ht⟩:=h.sit;obtain⟨Z,e,-,G',Lb,iv,h0,-,-⟩:=ax h.iv hB ho x;obtain⟨Y,eY,-,dY⟩:=XU (H:=fun _ _=>En x ++ List.replicate 14 0) (fun _ _=>⟨Eh x,I4 x⟩) hs h.wd.1 h.dd hr ht (h.iv.sq hB) (o:=o) om (n:=5) dc;have e2:Z=(Y,0):=AR (e.symm.trans eY);subst e2;obtain rfl:=h0 rfl;exact⟨Y,G',eY,iv,Pu _ _ _ _ _ eY h.wd,dY⟩
theorem bG(h:TI B K G La)(hB:B<1073741824)(ho:o<24):∃K',geK K o=(K',En (La o),0)/\TI (B+1) K' G La:=by
 obtain⟨K',e,iv,v⟩:=ay h.iv hB ho;have hw:=iW K o h.wd;rw[e] at hw;exact⟨K',e,iv,hw,v.dd.trans h.dd⟩
theorem ir{n m:Nat}(hn:4<=n)(hm:13<=m)(h:Ivk K G)(hw:Wsd K.s)(hdd:K.dd=false)(hsq:Sq 1 K):∃Z,tdK (n+1) m K=some (Z,0)/\Z.dd=false:=by
 obtain⟨on,X,hs,hd⟩:=h;unfold tdK;have s1:=hs.pstep;obtain⟨e2,on2,a2,w2,t2,r2⟩:=Gw K.cu 8 0 { K with cu:=(K.cu+8) % 96,ca:=K.ca+1 } s1.wf on;have f2:Wsd (tdI K.cu 8 0 { K with cu:=(K.cu+8) % 96,ca:=K.ca+1 }).1.s:=MF K.cu 8 0 { K with cu:=(K.cu+8) % 96,ca:=K.ca+1 } hw;generalize tdI K.cu 8 0 { K with cu:=(K.cu+8) % 96,ca:=K.ca+1 }=Y at *
 have s2:=s1.eqv a2 w2;have s3:=s2.eqv (L7 Y.1) (Wt w2);have eF:(awK Y.1).F=K.F:=a2.F;have eD:(awK Y.1).dd=false:=a2.dd.trans hdd;have eN:(awK Y.1).nx=K.nx:=a2.nx;have f3:Fine (awK Y.1).s:=f2.1;unfold OG;rw[AI (by rw[e2];simp)];generalize awK Y.1=K3 at *
 obtain⟨hX,hrm,hT⟩:=hd hdd;have s4:Sit K3 G No:=s3.mono (fun b _ e=>absurd e (hX b));have hrm3:Rm 0 K3:=by unfold Rm at hrm ⊢;rw[eF];exact hrm
 have hT3:Told K3 G:=fun b hb e=>hT b hb (by rw[<-eF];exact e);have hl:=s4.wf.qu.len;have hsq3:Sq 0 K3:=by unfold Sq at hsq ⊢;rw[eF,eN];omega
 obtain⟨y,ey,G4,X4,d4,s5,st5,hy⟩:=L8 (n:=n+1) om m K3 G s4 f3.on (fun _=>⟨hrm3,hT3⟩) hsq3 om;obtain⟨Y4,eY4,f4⟩:=XV (n:=n+1) om m K3 G s4 f3 eD hrm3 hT3 hsq3 om;have e4:y=(Y4,0):=AR (ey.symm.trans eY4);subst e4;rw[ey];dsimp only;rw[AI (by simp)];have hbd:bad3 Y4.F=bad3 K3.F+d4:=st5.bd;rcases hy with ⟨-,yon,yX,ydd,yrm,yT,ynx⟩ | ⟨c,_⟩ | ⟨c,_⟩
 ·have s7:Sit Y4 G4 No:=s5.mono (fun b _ e=>absurd e (yX b));have ynx':Y4.nx<=K3.nx+8*d4:=ynx;by_cases hdue:8<=Y4.ca\/AF.Sc Y4.hR Y4.hN=true
  ·rw[AJ hdue];obtain⟨Z,eZ,-,dZ⟩:=XU (H:=noH) (fun _ _=>⟨AB.Cn _,AB.Ec _⟩) s7 f4 ydd yrm yT (by unfold Sq at hsq ⊢;rw[eF,eN] at *;omega) (o:=24) dc (n:=n) hn;rw[eZ];exact⟨Z,rfl,dZ⟩
  ·rw[AI hdue];exact⟨Y4,rfl,ydd⟩
 ·exact absurd (show (0:Nat)=14 from c) dc
 ·exact absurd (show (0:Nat)=7 from c) dc
theorem Xt(h:TI B K G La)(hB:B<1073741824):∃Y G',tdK 6 13 K=some (Y,0)/\TI (B+1) Y G' La:=by
 obtain⟨Z,e,-,⟨G',iv⟩,-⟩:=XL h.iv hB;obtain⟨Y,eY,dY⟩:=ir (n:=5) (m:=13) dc dc h.iv.iv h.wd h.dd (h.iv.sq hB);have e2:Z=(Y,0):=AR (e.symm.trans eY);subst e2;exact⟨Y,G',eY,iv,iZ eY h.wd,dY⟩
theorem OI.fin(h:OI K G)(hu:Un K.s):TI 0 K G (fun _=>0):=⟨h.inv,⟨h.fine,fun j=>by rw[Fh (hu.2 j)];exact Ac _⟩,h.dd⟩
end
section
variable {K K':BC}
theorem RD{s s':BG}(h:s'.ch=s.ch)(a:Nat):∀n,pgTo s' a n=pgTo s a n
 | 0=>rfl
 | n+1=>by
  show pgTo s' a n ++ (s'.ch (4*a+n)).now=pgTo s a n ++ (s.ch (4*a+n)).now
  rw[RD h a n,h]
def Xu (K:BC):Prop:=∀p:Nat,p<96->AA.own K.L p≠-1->(K.tl (pgTo K.s p 4) p).sound=true/\(K.tl (pgTo K.s p 4) p).dmg<2
structure Qt (K K':BC):Prop where
 eqv:Eqv K K'
 qu:K'.qu=K.qu
 hN:K'.hN=K.hN
 hS:K'.hS=K.hS
 tl:K'.tl=K.tl
 md:K'.md=K.md
 mv:K'.mv=K.mv
 rp:K'.rp=K.rp
 fine:Fine K.s->Fine K'.s
 steps:K'.s.steps=K.s.steps
theorem Qt.refl(K:BC):Qt K K:=⟨Eqv.refl K,rfl,rfl,rfl,rfl,rfl,rfl,rfl,id,rfl⟩
theorem Qt.trans{K'':BC}(h:Qt K K')(k:Qt K' K''):Qt K K'':=⟨h.eqv.trans k.eqv,k.qu.trans h.qu,k.hN.trans h.hN,k.hS.trans h.hS,k.tl.trans h.tl,k.md.trans h.md,k.mv.trans h.mv,k.rp.trans h.rp,fun f=>k.fine (h.fine f),k.steps.trans h.steps⟩
theorem Xu.qt(h:Xu K)(q:Qt K K'):Xu K':=fun p hp hn=>by
 rw[q.tl,RD q.eqv.ch]
 exact h p hp (by rw[<-q.eqv.L];exact hn)
theorem J6(h:Wf K){p:Nat}(hp:p<96)(hon:K.s.on=true)(hc:Xu K):(inK K p).2.2=0/\Qt K (inK K p).1:=by
 obtain⟨K',e,ha,hw,hK⟩:=Pc h hp hon;have hq:Qt K K':=by
  subst hK;refine⟨ha.eqv,rfl,rfl,rfl,rfl,rfl,rfl,rfl,fun f=>?_,rfl⟩;have:=(f.readV (p:Int)).1
  rwa [E6 hp f.on] at this
 unfold inK;rw[e];dsimp only;rw[AI (by simp)];by_cases h1:AA.own K'.L p = -1
 ·rw[AJ h1];exact⟨rfl,hq⟩
 ·rw[AI h1,AJ (hc p hp (by rw[<-hq.eqv.L];exact h1))];exact⟨rfl,hq⟩
theorem Ky(c:Nat):∀(n i:Nat) (K:BC),Wf K->K.s.on=true->Xu K->Qt K (tdI c n i K).1:=by
 intro n
 induction n with
 | zero=>intro i K _ _ _;exact Qt.refl K
 | succ n ih=>
  intro i K h hon hc;obtain⟨e,on,-,wf,-⟩:=Iz h (p:=(c+i) % 96) om hon;have hq:=(J6 h (p:=(c+i) % 96) om hon hc).2;rw[tdI,AI (by rw[e];simp)];exact hq.trans (ih (i+1) _ wf on (hc.qt hq))
theorem Nx{R L:Nat->Int}(h:∀b,b<12->R b<512):∀(n i:Nat) (q:List Int),i+n=12->awQ R L n i q=q:=by
 intro n
 induction n with
 | zero=>intro i q _;rfl
 | succ n ih=>
  intro i q hi;have:¬ (AF.much 512 R (i:Nat)=true/\0<AA.lvK L 96 i):=fun e=>by
   have e1:=e.1;unfold AF.much at e1;rw[AJ om,AP] at e1;have:=h i om;have:=of_decide_eq_true e1;omega
  rw[awQ,AI this];exact ih (i+1) q om
theorem Xv(h:Wf K)(hon:K.s.on=true)(hc:Xu K)(hq:K.qu=[])(hw:CE K=false){N:Nat}(hR:Rdn N K)(hN:N+8<64)(hca:K.ca+1<8)(n m:Nat) :∃K',tdK n (m+1) K=some (K',0)/\Qt { K with cu:=(K.cu+8) % 96,ca:=K.ca+1 } K'/\Wf K'/\K'.s.on=true/\Rdn (N+8) K':=by
 have hwf:Wf { K with cu:=(K.cu+8) % 96,ca:=K.ca+1 }:=h.pat' om _;have hcl:Xu { K with cu:=(K.cu+8) % 96,ca:=K.ca+1 }:=hc;obtain⟨e1,on1,-,wf1,-,rd1⟩:=Gw K.cu 8 0 _ hwf hon;have q1:=Ky K.cu 8 0 _ hwf hon hcl;have hR1:=rd1 N om (show Rdn N { K with cu:=(K.cu+8) % 96,ca:=K.ca+1 } from hR);generalize hX:tdI K.cu 8 0 { K with cu:=(K.cu+8) % 96,ca:=K.ca+1 }=X at *
 have hlt:∀b,b<12->X.1.hR b<64:=fun b hb=>by
  obtain⟨a1,a2,a3⟩:=hR1 b hb;omega
 have haw:awK X.1=X.1:=by
  unfold awK;rw[Nx (fun b hb=>by have:=hlt b hb;omega) 12 0 _ rfl]
 have hwn:CE X.1=false:=by
  unfold CE at hw ⊢;rw[q1.eqv.F,q1.eqv.dd];exact hw
 refine⟨X.1,?_,q1,wf1,on1,hR1⟩;unfold tdK;rw[hX];unfold OG;rw[AI (by rw[e1];simp),haw];have hra:raK n (m+1) X.1=some (X.1,0):=by
  rw[raK,AI (by rw[hwn];simp),q1.qu,hq]
 rw[hra];dsimp only;rw[AI (by simp),AI ?_];intro e;rcases e with e | e
 ·rw[q1.eqv.ca] at e;dsimp only at e;omega
 ·unfold AF.Sc at e;rw[any_eq_true] at e;obtain⟨b,hb,hd⟩:=e;have hb':=mem_range.1 hb;have:=of_decide_eq_true hd;have h3:=hlt b hb';have h4:=((wf1.hea b hb').2.1).1;omega
end
section
variable {K:BC}{G:BV}{N:Nat}
theorem J7(a:List Nat):∀n,dmgTo a a n=0
 | 0=>rfl
 | n+1=>by
  show dmgTo a a n+(if a.getD n 0=a.getD n 0 then 0 else 1)=0
  rw[J7 a n,AJ rfl]
theorem J8{k:GY}(h:k.now=k.tru):dmg k=0:=by
 unfold dmg;rw[h];exact J7 _ _
theorem Sit.cln{X:Nat->Prop}(h:Sit K G X)(hu:Un K.s):Xu K:=by
 intro p hp hn;rcases AA.Cc K.L (p:Int) with ⟨o,ho,-,hL,-⟩ | ⟨e,-⟩
 ·obtain⟨l,D,lv⟩:=h.liv o ho (by rw[hL];omega);have ht:=lv.tab;rw[hL,AP] at ht;obtain⟨-,hE⟩:=h.rep.ent p _ D ht;have hd:∀k,k<4->hurt D (body p o (K.vs o) (K.vc o) l) (pgTo K.s p 4) k=0:=fun k hk=>by
   rw[JZ h.wf.chip hk (h.rep.is p _ D ht k hk).2];exact J8 (hu.2 _)
  have hm:=ToldR.mends (Dt:=D) (X:=pgTo K.s p 4) (p:=p) (o:=o) (s:=K.vs o) (c:=K.vc o) (l:=l) (g:=K.tl (pgTo K.s p 4) p) hE.len hE.bys hE.may (CD h.wf.chip p 4) (h.wf.tl _ _) (fun k hk=>by rw[hd k hk];decide);obtain⟨-,-,-,-,-,-,hs,-,hg⟩:=hm;refine⟨hs,?_⟩;rw[hg,hd 0 om,hd 1 om,hd 2 om,hd 3 om];decide
 ·exact absurd e hn
theorem Py(K1:BC)(o p:Nat)(s':BG)(r':Int)(R':Nat->Int):(FrL K1 o p s' r' R').1.qu=K1.qu:=by
 unfold FrL layK ntK;dsimp only;split <;> rfl
structure IU (N:Nat) (K:BC) (G:BV):Prop where
 sit:Sit K G No
 told:Told K G
 rm:Rm 0 K
 n3:N3 K
 un:Un K.s
 dd:K.dd=false
 qu:K.qu=[]
 rd:Rdn N K
 z:∀o,¬ G.z o
theorem IU.worn(h:IU N K G):CE K=false:=by
 rw[CN h.sit];exact h.dd
theorem IU.qt{M:Nat}{K':BC}(h:IU N K G)(q:Qt K K')(wf:Wf K')(un:Un K'.s)(rd:Rdn M K'):IU M K' G where
 sit:=h.sit.eqv q.eqv wf
 told:=fun b hb e=>h.told b hb (by rw[<-q.eqv.F];exact e)
 rm:=by
  have:=h.rm;unfold Rm at this ⊢;rw[q.eqv.F];exact this
 n3:=fun b hb=>by rw[q.eqv.F];exact h.n3 b hb
 un:=un
 dd:=q.eqv.dd.trans h.dd
 qu:=q.qu.trans h.qu
 rd:=rd
 z:=h.z
theorem IU.tend(h:IU N K G)(hN:N+8<64)(hca:K.ca+1<8)(n m:Nat) :∃K',tdK n (m+1) K=some (K',0)/\IU (N+8) K' G/\K'.ca=K.ca+1/\K'.L=K.L/\K'.fr=K.fr/\K'.F=K.F/\K'.nx=K.nx:=by
 obtain⟨K',e,q,wf,on,rd⟩:=Xv h.sit.wf h.un.1.on (h.sit.cln h.un) h.qu h.worn h.rd hN hca n m;have h0:IU N { K with cu:=(K.cu+8) % 96,ca:=K.ca+1 } G:=⟨h.sit.pstep,h.told,h.rm,h.n3,h.un,h.dd,h.qu,h.rd,h.z⟩;exact⟨K',e,h0.qt q wf (Xr e h.un) rd,q.eqv.ca,q.eqv.L,q.eqv.fr,q.eqv.F,q.eqv.nx⟩
end
section
variable {o N:Nat}{K:BC}{G:BV}
theorem it(ho:o<24)(K1:BC)(p:Nat)(s':BG)(r':Int)(R':Nat->Int):(FrL K1 o p s' r' R').1.ca=K1.ca:=by
 unfold FrL layK ntK;dsimp only;rw[AI om]
theorem Rm.ofF{K':BC}(h:Rm 0 K)(e:K'.F=K.F):Rm 0 K':=by
 unfold Rm at h ⊢;rw[e];exact h
theorem IU.put(h:IU N K G)(ho:o<24){D:List Nat}(hD:D.length=174)(bD:Bys D)(hr:AC.rmV K.fr o=true)(hnx:K.nx<DX)(h24:K.L 24≠-1)(hN:N+1<4611686018427387904)(n:Nat) :∃K' T,anR (n+1) (fun _ _=>D) K o=some (K',0)/\IU (N+1) K' { G with T:=T,a:=Dn G.a o D,z:=fun x=>x≠o/\G.z x }/\K'.ca=K.ca/\K'.L=upd K.L o ((8*K.fr.k+K.fr.i:Nat):Int)/\K'.fr=⟨true,K.fr.k,K.fr.i+1⟩/\K'.F=K.F/\K'.nx=K.nx+1:=by
 obtain⟨K1,s',r',R',fD,fi,rd,e1⟩:=RA (H:=fun _ _=>D) (fun _ _=>⟨hD,bD⟩) h.sit h.un.1 h.dd (o:=o) om hr hnx n;have hl:=J1 om fD;obtain⟨-,-,-,-,-,-,-,T,sB⟩:=Q6 ho fD h24 rfl;have hun:=H8 _ _ _ _ _ e1 h.un;have hqu:=Py K1 o (8*K.fr.k+K.fr.i) s' r' R';have hca:=it ho K1 (8*K.fr.k+K.fr.i) s' r' R';have hK1:=fD.e;have hrd:=rd N hN h.rd;generalize FrL K1 o (8*K.fr.k+K.fr.i) s' r' R'=Z at *
 obtain⟨l0,lL,ls,lF,lfr,lnx,lmv,ldd,ltl⟩:=hl;obtain⟨K',c⟩:=Z;dsimp only at l0 lL ls lF lfr lnx lmv ldd ltl sB hun hqu hca hrd;subst l0;subst hK1;refine⟨K',T,e1,⟨sB,fun b hb e=>h.told b hb (by rw[<-lF];exact e),h.rm.ofF lF,fun b hb=>by rw[lF];exact h.n3 b hb,hun,ldd.trans h.dd,hqu.trans h.qu,hrd,fun x e=>h.z x e.2⟩,hca,lL,lfr,lF,lnx⟩
theorem IU.get(h:IU N K G)(hN:N+1<4611686018427387904)(ho:o<24) :∃K',geK K o=(K',(G.a o).take 160,0)/\IU (N+1) K' G/\Eqv K K':=by
 have hiv:Ivk K G:=⟨h.un.1.on,_,h.sit,fun _=>⟨fun _=>id,h.rm,h.told⟩⟩;obtain⟨K',iv,ev,tl,rd,hg⟩:=Q7 hiv ho;rcases hg with hg | ⟨hz,_⟩
 ·have hun:=Xq K o h.un;rw[hg] at hun;have hq:Qt K K':=by
   have e:K'=(geK K o).1:=(by rw[hg]);unfold geK at e;by_cases hL:K.L o = -1
   ·rw[AJ hL] at e;dsimp only at e;subst e;exact Qt.refl _
   ·rw[AI hL] at e;dsimp only at e;have hp:=h.sit.wf.map;have hlt:(K.L o).toNat<96:=by
     obtain⟨l,D,lv⟩:=h.sit.liv o om hL;exact(h.sit.rep.ent _ _ D lv.tab).1
    obtain⟨q0,q1⟩:=J6 h.sit.wf hlt h.un.1.on (h.sit.cln h.un);rw[AI (by rw[q0];simp)] at e;have e2:K'=(inK K (K.L o).toNat).1:=by
     split at e <;> exact e
    subst e2;exact q1
  obtain⟨X,hs,-⟩:=iv.sit;exact⟨K',hg,h.qt hq hs.wf hun (rd N hN h.rd),ev⟩
 ·exact absurd hz (h.z o)
end
section
variable {K:BC}{G:BV}
theorem bH(K1:BC)(p:Nat)(s':BG)(r':Int)(R':Nat->Int):(FrL K1 24 p s' r' R').1.ca=0:=by
 unfold FrL layK ntK;rfl
theorem IU.trim{N:Nat}(h:IU N K G){o:Nat}(ho:o<24)(hL:K.L o≠-1)(hr:AC.rmV K.fr ((24:Nat):Int)=true)(hnx:K.nx<DX)(hN:N+1<4611686018427387904)(n:Nat) :∃K' G',tmK (n+1) K o=some (K',0)/\IU (N+1) K' G'/\G'.a=Dn G.a o (List.replicate 174 0)/\K'.ca=0/\K'.fr=⟨true,K.fr.k,K.fr.i+1⟩/\K'.F=K.F/\K'.nx=K.nx+1:=by
 obtain⟨K1,s',r',R',fD,fi,rd,e1⟩:=RA (H:=tmH o (K.vs o:Nat)) (fun _ _=>⟨AB.Cn _,AB.Ec _⟩) h.sit h.un.1 h.dd (o:=24) dc hr hnx n;have hl:=J1 dc fD;obtain⟨n1,n2,n3,n4,n5,n6,n7,n8,n9,G',g1,g2,s2,t2⟩:=Wv ho fD hL h.dd;have hun:=H8 _ _ _ _ _ e1 h.un;have hqu:=Py K1 24 (8*K.fr.k+K.fr.i) s' r' R';have hca:=bH K1 (8*K.fr.k+K.fr.i) s' r' R';have hK1:=fD.e;have hrd:=rd N hN h.rd;generalize FrL K1 24 (8*K.fr.k+K.fr.i) s' r' R'=Z at *
 obtain⟨l0,lL,ls,lF,lfr,lnx,lmv,ldd,ltl⟩:=hl;subst hK1;refine⟨{ Z.1 with fl:=upd Z.1.fl o (K.vs o:Nat),L:=AA.EL Z.1.L (o:Nat) },G',?_,⟨s2,fun b hb e=>t2 b hb (by rw[<-lF];exact e),h.rm.ofF lF,fun b hb=>?_,hun,ldd.trans h.dd,hqu.trans h.qu,hrd,fun x e=>?_⟩,g1,hca,lfr,lF,lnx⟩
 ·unfold tmK;rw[AI hL,e1];dsimp only;rw[AI (by rw[n1];simp),n8]
 ·show Z.1.F b≠3;rw[lF];exact h.n3 b hb
 ·rw[g2] at e;exact h.z x e.2
theorem OI.lit(h:OI K G)(hu:Un K.s)(hq:K.qu=[]):IU 1 K G where
 sit:=h.sit
 told:=h.told
 rm:=h.rm
 n3:=by
  have:=iD (F:=fun _=>0) (fun _ _=>dc) 0;intro b hb;rw[h.F];exact this b hb
 un:=hu
 dd:=h.dd
 qu:=hq
 rd:=h.rd
 z:=fun o e=>by rw[h.z] at e;exact e
end
end Go.Proofs.YtbhbilcieodbhaaGreat
