/-
  Lemmas.
-/
import Derived.Test.YtmdpnpjacfedpaaGreatOm
import Derived.Test.YtmdpnpjacfedpaaGreatP12
set_option maxRecDepth 1000000
set_option maxHeartbeats 16000000
set_option linter.unusedSimpArgs false
namespace Go.Proofs.YtmdpnpjacfedpaaGreat
open List
open Go.RowKit
section
variable {K:BH}{F:Nat->Int}{G:Bk}{o n:Nat}
def Nq3 (K:BH):Prop:=∀b,b<12->K.F b≠3
theorem n3_upd(h:∀b,b<12->F b≠3)(n:Nat)(s:Int)(hs:s≠3):∀b,b<12->upd F n s b≠3:=fun b hb=>by
 rcases BX F n b s with ⟨_,e⟩ | ⟨_,e⟩ <;> rw[e]
 ·
  exact hs
 ·
  exact h b hb
theorem n3_setF(h:∀b,b<12->F b≠3)(n s:Int)(hs:s≠3):∀b,b<12->AD.setF F n s b≠3:=by
 unfold AD.setF;split
 ·exact n3_upd h _ _ hs
 ·exact h
theorem n3_tkF(h:∀b,b<12->F b≠3)(m:Nat):∀b,b<12->AD.tkF F 0 m b≠3:=fun b hb=>by
 rw[Fu _ hb]
 exact n3_upd h m 1 dc b hb
theorem n3_bad(h:Nq3 K):bad3 K.F=0:=by
 have:∀n,n<=12->AD.cnt K.F 3 n=0:=by
  intro n
  induction n with
  | zero=>intro _;rfl
  | succ n ih=>
   intro hn;rw[AD.cnt,ih om,AI (h n om)]
 exact this 12 (AM _)
theorem n3_clK(h:Nq3 K):Nq3 (clK K):=by
 unfold clK;split
 ·exact n3_setF h _ _ dc
 ·exact h
theorem n3_lvK(h:Nq3 K)(b:Int):Nq3 (lvK K b):=by
 unfold lvK;split
 ·exact n3_clK h
 ·exact h
theorem n3_opK(h:Nq3 K):Nq3 (opK K).1:=by
 unfold opK;split
 ·exact n3_tkF h _
 ·exact h
theorem n3_tiK(h:Nq3 K)(S:Bm)(o:Nat):Nq3 (tiK K S o).1:=by
 unfold tiK;split
 ·exact h
 ·split
  ·exact h
  ·exact n3_setF (n3_tkF h _) _ _ dc
theorem F_rdK(K:BH)(p:Nat):(rdK K p).1.F=K.F:=by
 unfold rdK;dsimp only;split <;> rfl
theorem F_prM(K:BH)(t:CP)(D:List Nat):(prM K t D).1.F=K.F:=by
 unfold prM;split
 ·rfl
 ·unfold prK;dsimp only
theorem F_erK(K:BH)(b:Nat):(erK K b).1.F=K.F:=by
 unfold erK;dsimp only;split <;> rfl
theorem F_coK(K:BH)(o:Nat):(coK K o).1.F=K.F:=by
 unfold coK;split
 ·rfl
 ·dsimp only;split
  ·exact F_rdK _ _
  ·split
   ·exact F_rdK _ _
   ·split <;> exact F_rdK _ _
theorem F_cmL:∀(l:List CP) (K:BH),(cmL l K).1.F=K.F:=by
 intro l
 induction l with
 | nil=>intro K;rfl
 | cons t l ih=>
  intro K;unfold cmL;split
  ·rfl
  ·exact ih _
theorem n3_cpK(bd:Bool):∀(l:List Nat) (K:BH) (S:Bm),Nq3 K->Nq3 (cpK bd l K S).1:=by
 intro l
 induction l with
 | nil=>intro K S h;exact h
 | cons o l ih=>
  intro K S h;unfold cpK;split
  ·exact ih K S h
  ·dsimp only;have h1:Nq3 (coK K o).1:=fun b hb=>by rw[F_coK];exact h b hb
   generalize coK K o=c at *
   have h2:=n3_tiK h1 S o;generalize tiK c.1 S o=t at *
   have h3:Nq3 (prM t.1 ⟨t.2.2.1,o,t.1.vs o,(t.1.vc o+1) % 256,c.2.2.1⟩ c.2.1).1:=fun b hb=>by rw[F_prM];exact h2 b hb
   generalize prM t.1 ⟨t.2.2.1,o,t.1.vs o,(t.1.vc o+1) % 256,c.2.2.1⟩ c.2.1=p at *
   split
   ·exact h1
   ·split
    ·exact h2
    ·split
     ·exact h3
     ·exact ih _ _ h3
theorem n3_cmK(h:Nq3 K)(S:Bm)(st:Int)(hs:st≠3):Nq3 (cmK K S st).1:=by
 unfold cmK;dsimp only;have h0:Nq3 (cmL S.ld K).1:=fun b hb=>by rw[F_cmL];exact h b hb
 generalize cmL S.ld K=X at *
 split
 ·exact h0
 ·have h1:Nq3 (stK (lvK X.1 S.fm) S.fm st):=n3_setF (n3_lvK h0 _) _ _ hs;generalize stK (lvK X.1 S.fm) S.fm st=K1 at *
  split
  ·exact n3_setF (n3_clK h1) _ _ dc
  ·exact h1
theorem cp_all:∀(l:List Nat) (K:BH) (G:Bk) (S:Bm),Sit K G (Xs S)->LU K G S->kR K S l->kS S->Fine K.s->(S.tt.o=false->1<=fre K.F)->K.F S.fm≠0->l.length+S.tt.i<=25->∃K' S' G',cpK false l K S=(K',S',0)/\Fine K'.s/\Wf K'/\Sit K' G' (Xs S'):=by
 intro l
 induction l with
 | nil=>intro K G S h _ _ _ hf _ _ _;exact⟨K,S,G,rfl,hf,h.wf,h⟩
 | cons o l ih=>
  intro K G S h hC hD hB hfi hf hv hl;rw[An] at hl;have hord:=pairwise_cons.1 hD.ord;have hD1:kR K S [o]:=⟨fun x hx=>by
   have e:x=o:=by simpa using hx
   subst e
   exact hD.mem _ (mem_cons_self ..),pairwise_singleton _ _,fun x hx=>by
   have e:x=o:=by simpa using hx
   subst e
   exact hD.new _ (mem_cons_self ..)⟩
  obtain⟨m1,m2,m3,m4⟩:=hD.mem o (mem_cons_self ..);obtain⟨K1,S1,k,lo,e1,t1,l1,fm1,fd1,f1,-,-⟩:=Sy h hC hD1 hB hfi hf hv;obtain⟨G1,hb,hx⟩:=LH false [o] K G S h hC hD1 hB hfi.on hf hv (by rw[length_singleton];omega);rw[e1] at hb hx;dsimp only at hb hx;obtain⟨-,-,hC1,hB1,-,-,-,-⟩:=hx.resolve_right (by rintro (⟨e,_⟩ | ⟨e,_⟩) <;> exact absurd e dc)
  have t1i:S1.tt.i=S.tt.i+1:=by rw[t1]
  have t1o:S1.tt.o=true:=by rw[t1]
  have hD2:kR K1 S1 l:=by
   refine⟨fun x hx=>?_,?_,fun x hx t ht=>?_⟩
   ·obtain⟨b1,b2,b3,b4⟩:=hD.mem x (mem_cons_of_mem _ hx);have hlt:=hord.1 x hx;rw[hb.kee.L,fm1,t1i];refine⟨b1,b2,b3,?_⟩;have:=h.wf.lt m1 m2;have:=h.wf.lt b1 b2;omega
   ·rw[hb.kee.L];exact hord.2
   ·rw[l1] at ht;rcases mem_append.1 ht with ht | ht
    ·exact hD.new x (mem_cons_of_mem _ hx) t ht
    ·have e:t=⟨8*k+S.tt.i,o,K.vs o,(K.vc o+1) % 256,lo⟩:=mem_singleton.1 ht;rw[e];intro e2;have e3:o=x:=e2;have:=hord.1 x hx;rw[e3] at this;exact absurd this (Int.lt_irrefl _)
  obtain⟨K',S',G',e2,f2,w2,s2⟩:=ih K1 G1 S1 hb.sit hC1 hD2 hB1 f1 (fun e=>by rw[t1o] at e;cases e) (by rw[fm1,hb.fv];exact hv) (by rw[t1i];omega);refine⟨K',S',G',?_,f2,w2,s2⟩;rw[d9,e1];dsimp only;rw[AI (by simp)];exact e2
theorem mo_fine(h:Sit K G No)(hfi:Fine K.s)(hn3:Nq3 K)(hdd:K.dd=false)(hrm:Rm 0 K)(hT:Told K G)(hnx:K.nx<IE){V:Nat}(hV:V<12)(h0:K.F V≠0)(n:Nat) :∃Y S',movR n K (nwS V false false)=some (Y,S',0)/\Fine Y.s/\Nq3 Y:=by
 have h3:=hn3 V hV;obtain⟨o1,o2,o3⟩:=NN h.wf.map V;have hfr1:1<=fre K.F:=by
  have:=n3_bad hn3;unfold Rm at hrm;omega
 have hlen:((AC.ofL K.L V).map Int.toNat).length<=8:=by rw[BA];exact AC.Dh K.L V 8
 obtain⟨S0,hS0⟩:∃S0:Bm,S0={ nwS V false false with tt:=noF,ld:=[] }:=⟨_,rfl⟩;have s0fm:S0.fm=V:=by rw[hS0];rfl
 have s0tt:S0.tt=noF:=by rw[hS0]
 have s0ld:S0.ld=[]:=by rw[hS0]
 have s0o:S0.tt.o=false:=by rw[s0tt];rfl
 have s0i:S0.tt.i=0:=by rw[s0tt];rfl
 have hS1:Sit K G (Xs S0):=h.mono (fun _ _ x=>x.elim);have hno:∀ {P:Prop},S0.tt.o=true->P:=fun e=>by rw[s0o] at e;cases e
 have hnt:∀ {P:Prop} {t:CP},t ∈ S0.ld->P:=fun e=>by rw[s0ld] at e;cases e
 have hC1:LU K G S0:=⟨by rw[s0fm];exact hV,fun _=>⟨s0ld,s0i⟩,fun e=>hno e,fun e=>hno e,fun e=>hno e,fun e=>hno e,fun t ht=>hnt ht,fun t ht=>hnt ht,by rw[s0ld];exact nodup_nil,by rw[s0ld];exact nodup_nil⟩;have hD:kR K S0 ((AC.ofL K.L V).map Int.toNat):=⟨fun o ho=>by
  obtain⟨q1,q2,q3⟩:=o1 o ho
  rw[s0fm,s0i]
  exact⟨q1,q2,q3,Ac _⟩,o2,fun o _ t ht=>hnt ht⟩
 have hB0:kS S0:=AK (by rw[s0i];exact Ac _);obtain⟨Kb,S2,Gb,ecp,fb,wb,-⟩:=cp_all _ K G S0 hS1 hC1 hD hB0 hfi (fun _=>hfr1) (by rw[s0fm];exact h0) (by rw[s0i];omega);have nb:Nq3 Kb:=by
  have:=n3_cpK false ((AC.ofL K.L V).map Int.toNat) K S0 hn3;rw[ecp] at this;exact this
 have efi:=Sp (K:=Kb) wb (b:=V) hV fb;have hte:=Pa (S:=nwS V false false) h hfi.on hV h0 h3 hdd hrm (AK hT) hnx;have ety:tyK K (nwS V false false)=((cmK (erK Kb V).1 S2 0).1,S2,(cmK (erK Kb V).1 S2 0).2):=by
  unfold tyK;dsimp only;have e8:(nwS V false false).fd=false:=rfl;have e9:((nwS V false false).fd || ((nwS V false false).rt && bearK K))=false:=rfl;have e7:(nwS V false false).fm=V:=rfl;have e6:cpK false ((AC.ofL K.L V).map Int.toNat) K { fm:=V,rt:=(nwS V false false).rt,fd:=(nwS V false false).fd,tt:=noF,ld:=[] }=(Kb,S2,0):=by
   rw[hS0] at ecp;exact ecp
  rw[AI (by rw[e8];simp),e9,e7,e6];dsimp only;rw[AI (by simp),AI dc,AJ efi.1]
 have hcode:(cmK (erK Kb V).1 S2 0).2=0:=by
  have hc2:(cmK (erK Kb V).1 S2 0).2=0\/(cmK (erK Kb V).1 S2 0).2=1\/(cmK (erK Kb V).1 S2 0).2=12:=by
   unfold cmK;dsimp only;split
   ·exact ZO _ _
   ·exact AK rfl
  obtain⟨-,G',hx⟩:=hte;rw[ety] at hx;dsimp only at hx;rcases hx with ⟨e,_⟩ | ⟨e,_⟩ | ⟨e,_⟩ | ⟨e,_⟩
  ·exact e
  ·omega
  ·omega
  ·omega
 refine⟨(cmK (erK Kb V).1 S2 0).1,S2,?_,by rw[fX];exact efi.2,n3_cmK (fun b hb=>by rw[F_erK];exact nb b hb) _ _ dc⟩;unfold movR moK;rw[AI (by show ¬ false=true;decide)];have etr:trK (PN n) (n+1) K (nwS V false false)=some ((cmK (erK Kb V).1 S2 0).1,S2,0):=by
  rw[trK,AI (by show ¬ PM K (V:Nat)=true;rw[Sf hV];simpa using h3)];dsimp only;rw[ety,hcode,AJ dc]
 rw[etr];dsimp only;rw[AI (by rintro ⟨_,e⟩;exact absurd e dc)]
theorem mr_fine(h:Sit K G No)(hfi:Fine K.s)(hn3:Nq3 K)(hdd:K.dd=false)(hrm:Rm 0 K)(hT:Told K G)(hsq:Sq 0 K)(ho25:o<25)(hn:3<=n)(m:Nat) :∃Y,mrK (movR n) (m+3) K o=some (Y,0)/\Fine Y.s/\Nq3 Y:=by
 by_cases hr:AB.rmV K.fr o=true
 ·exact⟨K,(NP (mo:=movR n) h hfi.on hdd hrm hr (m+2)).1,hfi,hn3⟩
 ·have hb0:=n3_bad hn3;obtain⟨s1,st1,n1,on1,d1,f1,o1,q1,-,l1⟩:=h.clS;have hb1:bad3 (clK K).F=0:=by have:=st1.bd;omega
  have fc:Fine (clK K).s:=by rw[on1];exact hfi
  have nc:Nq3 (clK K):=n3_clK hn3;have hopen:∀ {K1:BH} {G1:Bk} (k:Nat),Sit K1 G1 No->Fine K1.s->Nq3 K1->K1.dd=false->K1.fr.o=false->5<fre K1.F->¬ AB.rmV K1.fr o=true->∃Y,mrK (movR n) (k+2) K1 o=some (Y,0)/\Fine Y.s/\Nq3 Y:=by
   intro K1 G1 k s hf h3 hd ho hfre hnr;have hc:clK K1=K1:=DW ho;have hs:LA (clK K1)=true:=(by rw[hc];exact(RK (by rw[n3_bad h3];omega)).2 om);obtain⟨e2,s2,st2,n2,on2,d2,f2,o2,i2,q2,-⟩:=s.opS ho om;refine⟨(opK K1).1,?_,by rw[on2];exact hf,n3_opK h3⟩;rw[mrK,AI hnr];dsimp only;rw[AJ hs,hc,AI (by rw[e2];decide)];rw[mrK,AJ ((MI _ ho25).2 ⟨o2,om,AL om⟩)]
  by_cases hs:LA (clK K)=true
  ·have hs':=(RK om).1 hs;have hnr1:¬ AB.rmV (clK K).fr o=true:=fun e=>by
    have:=((MI _ ho25).1 e).1;rw[o1] at this;cases this
   obtain⟨Y,eY,fY,nY⟩:=hopen (m+1) s1 fc nc (d1.trans hdd) o1 om hnr1;refine⟨Y,?_,fY,nY⟩;have hcc:clK (clK K)=clK K:=DW o1;rw[mrK,AI hr];rw[mrK,AI hnr1,hcc] at eY;exact eY
  ·have hs':¬ 5<fre (clK K).F+2*bad3 (clK K).F:=fun e=>hs ((RK om).2 e);have hc1:=jQ s1 o1;have hsum:=AD.SH (clK K).F 12 (fun i hi=>s1.sts i hi);have h7:7<=AD.cnt (clK K).F 2 12:=by
    unfold Rm at hrm;unfold fre bad3 at *
    omega
   obtain⟨v1,v2,v3,v4⟩:=jP s1.wf.map h7;have elv:lvF (clK K)=fun k=>((AC.lvK (clK K).L 96 k:Nat):Int):=rfl;rw[<-elv] at v1 v2 v3 v4;have hTc:Told (clK K) G:=hT.kee q1 rfl;have hrmc:Rm 0 (clK K):=(by unfold Rm at hrm ⊢;omega);obtain⟨Y,S',eY,fY,nY⟩:=mo_fine s1 fc nc (d1.trans hdd) hrmc hTc (by unfold Sq IE at *;omega) v2 (by rw[v3];decide) n;obtain⟨Y2,eY2,G2,X2,d2,hY⟩:=(NQ (n:=n) (b:=0) om) (clK K) G (nwS (AH.chV 12 12 (clK K).F (lvF (clK K))) false false) s1 fc.on v2 (by show (clK K).F (AH.chV 12 12 (clK K).F (lvF (clK K)))≠0;rw[v3];decide) (by show (clK K).F (AH.chV 12 12 (clK K).F (lvF (clK K)))≠3;rw[v3];decide) (d1.trans hdd) hrmc (AK hTc) (by unfold Sq at hsq ⊢;omega) (Ac _);have e2:Y2=(Y,S',0):=AR (eY2.symm.trans eY);subst e2;have hM:mJ (clK K) Y G G2 (nwS (AH.chV 12 12 (clK K).F (lvF (clK K))) false false) (AH.chV 12 12 (clK K).F (lvF (clK K))) ((AC.ofL (clK K).L (AH.chV 12 12 (clK K).F (lvF (clK K)))).length) d2:=by
    rcases hY with ⟨_,M,_⟩ | ⟨c,_⟩ | ⟨c,_⟩
    ·exact M
    ·exact absurd (show (0:Nat)=14 from c) dc
    ·exact absurd (show (0:Nat)=7 from c) dc
   have hd0:d2=0:=by
    have:=hM.stp.bd;have:=n3_bad nY;omega
   have eall:∀k,mrK (movR n) (k+1) K o=mrK (movR n) k Y o:=fun k=>by
    rw[mrK,AI hr];dsimp only;rw[AI hs,AI (by rw[v1];decide),eY];dsimp only;rw[AI dc]
   rw[eall];by_cases hrY:AB.rmV Y.fr o=true
   ·exact⟨Y,by rw[mrK,AJ hrY],fY,nY⟩
   ·rcases hM.gc hd0 (by rw[v3];decide) with ⟨g1,g2⟩ | ⟨g1,g2⟩
    ·exact absurd ((MI _ ho25).2 ⟨g1,om,AL om⟩) hrY
    ·have hfo:Y.fr.o=false:=by
      rcases g1 with e | e
      ·rw[e];exact o1
      ·rw[e];rfl
     exact hopen m hM.sit fY nY hM.dd hfo (by unfold Rm at hrm;omega) hrY
theorem an_all{H:GS}(hH:∀K q,(H K q).length=174/\Bys (H K q))(h:Sit K G No)(hfi:Fine K.s)(hn3:Nq3 K)(hdd:K.dd=false)(hrm:Rm 0 K)(hT:Told K G)(hsq:Sq 1 K)(ho25:o<25)(hn:4<=n) :∃Z,anR (n+1) H K o=some (Z,0)/\Fine Z.s/\Nq3 Z:=by
 obtain⟨Y,eY,fY,nY⟩:=mr_fine h hfi hn3 hdd hrm hT (by unfold Sq at hsq ⊢;omega) ho25 (n:=n) om (n - 2);rw[show n - 2+3=n+1 by omega] at eY;obtain⟨Y2,eY2,G2,X2,d2,s2,st2,hx⟩:=Yl (NQ (n:=n) (b:=0) om) ho25 (n+1) K G h hfi.on hdd hrm (AK hT) (by unfold Sq at hsq ⊢;omega) om (Ac _);have e2:Y2=(Y,0):=AR (eY2.symm.trans eY);subst e2;have hb:=n3_bad hn3;have hbY:=n3_bad nY;have hbd:bad3 Y.F=bad3 K.F+d2:=st2.bd;obtain⟨yon,yX,yd,yR,yr,yT,yn⟩:Y.s.on=true/\(∀b,¬ X2 b)/\Y.dd=false/\Rm 0 Y/\AB.rmV Y.fr o=true/\(Told K G->Told Y G2)/\((d2=0/\Y.nx=K.nx)\/Y.nx+1<=K.nx+8*d2):=by
  rcases hx with ⟨_,a⟩ | ⟨c,_⟩ | ⟨c,_⟩
  ·exact a
  ·exact absurd (show (0:Nat)=14 from c) dc
  ·exact absurd (show (0:Nat)=7 from c) dc
 have s2':Sit Y G2 No:=s2.mono (fun b _ y=>absurd y (yX b));have hnY:Y.nx<IE:=by
  unfold Sq IE at *
  rcases yn with ⟨_,e⟩ | e <;> omega
 obtain⟨c,K1,s',r',R',fD,fi,-,f5,f6⟩:=Sr hH s2' fY ho25 yr hnY;have hl:=RO ho25 fD;refine⟨(FrL K1 o (8*Y.fr.k+Y.fr.i) s' r' R').1,?_,by rw[hl.2.2.1];exact fi,fun b hb=>by rw[hl.2.2.2.1];exact nY b hb⟩;have e:(FrL K1 o (8*Y.fr.k+Y.fr.i) s' r' R')=((FrL K1 o (8*Y.fr.k+Y.fr.i) s' r' R').1,0):=by rw[<-hl.1]
 rw[<-e,<-f6];exact Y3 (mr:=mrK (movR n) (n+1)) (mo:=movR n) (by rw[DJ h];exact hdd) h.sp eY c f5
end
end Go.Proofs.YtmdpnpjacfedpaaGreat
