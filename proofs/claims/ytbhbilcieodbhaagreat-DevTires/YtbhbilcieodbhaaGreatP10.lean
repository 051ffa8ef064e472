/-
  Lemmas.
-/
import Derived.Test.YtbhbilcieodbhaaGreatOm
import Derived.Test.YtbhbilcieodbhaaGreatP09
set_option maxRecDepth 1000000
set_option maxHeartbeats 16000000
set_option linter.unusedSimpArgs false
namespace Go.Proofs.YtbhbilcieodbhaaGreat
open List
open Go.RowKit
theorem aP{α:Type}(f:Nat->α)(n:Nat)(v:α):Dn f n v n=v:=by unfold Dn;rw[AJ rfl]
theorem Wh:∀(l:List Bu) (K:BC),AA.Okl K.L->(∀t ∈ l,t.o<25/\t.p<96/\(t.o=24\/t.p % 8<6))->(l.map (·.o)).Nodup->(l.map (·.p)).Nodup->(∀t ∈ l,∀o,o<25->K.L o≠(t.p:Int)) ->∃L' vs' vc',cmL l K=({ K with L:=L',vs:=vs',vc:=vc' },0)/\AA.Okl L'/\(∀t ∈ l,L' t.o=(t.p:Int)/\vs' t.o=t.q/\vc' t.o=t.c)/\(∀o,(∀t ∈ l,t.o≠o)->L' o=K.L o/\vs' o=K.vs o/\vc' o=K.vc o):=by
 intro l
 induction l with
 | nil=>intro K h _ _ _ _;exact⟨K.L,K.vs,K.vc,rfl,h,fun t ht=>(by cases ht),fun o _=>⟨rfl,rfl,rfl⟩⟩
 | cons t l ih=>
  intro K h hm ho hp hn;obtain⟨m1,m2,m3⟩:=hm t (mem_cons_self ..);have hown:=Bv (hn t (mem_cons_self ..));have hmay:AA.DV (t.o:Nat) (t.p:Nat):=⟨⟨om,om⟩,⟨om,om⟩,m3.imp (fun e=>om) (fun e=>om)⟩;have hc:AA.setC K.L t.o t.p=0:=by
   unfold AA.setC;rw[AI (fun e=>e hmay),AI (by rw[hown];simp)]
  have hL:AA.setL K.L t.o t.p=upd K.L t.o t.p:=by unfold AA.setL;rw[AJ hc,AP]
  have hlay:layK K t=({ K with vs:=upd K.vs t.o t.q,vc:=upd K.vc t.o t.c,L:=upd K.L t.o t.p },0):=by unfold layK;rw[hc,hL]
  have e:cmL (t :: l) K=cmL l { K with vs:=upd K.vs t.o t.q,vc:=upd K.vc t.o t.c,L:=upd K.L t.o t.p }:=by
   rw[cmL,hlay,AI (show ¬ (0:Nat)≠0 by decide)]
  rw[map_cons,nodup_cons] at ho hp;have hto:∀u ∈ l,u.o≠t.o:=fun u hu e2=>ho.1 (e2 ▸ mem_map.2 ⟨u,hu,rfl⟩);have htp:∀u ∈ l,u.p≠t.p:=fun u hu e2=>hp.1 (e2 ▸ mem_map.2 ⟨u,hu,rfl⟩);obtain⟨L',vs',vc',h1,h2,h3,h4⟩:=ih { K with vs:=upd K.vs t.o t.q,vc:=upd K.vc t.o t.c,L:=upd K.L t.o t.p } (h.put t.o ⟨om,om⟩ (fun hlt=>by have:=m3.resolve_left om;omega) hown) (fun u hu=>hm u (mem_cons_of_mem _ hu)) ho.2 hp.2 (fun u hu o ho2=>by
   show upd K.L t.o t.p o≠_
   by_cases eo:o=t.o
   ·
    rw[eo,Be]
    have:=htp u hu
    omega
   ·
    rw[BP _ _ eo]
    exact hn u (mem_cons_of_mem _ hu) o ho2)
  refine⟨L',vs',vc',by rw[e,h1],h2,fun u hu=>?_,fun o ho2=>?_⟩
  ·rcases mem_cons.1 hu with rfl | hu
   ·obtain⟨a,b,c⟩:=h4 u.o (fun v hv=>hto v hv);refine⟨a.trans (Be _ _ _),b.trans ?_,c.trans ?_⟩
    ·show upd K.vs u.o u.q u.o=_;unfold upd;rw[AJ rfl]
    ·show upd K.vc u.o u.c u.o=_;unfold upd;rw[AJ rfl]
   ·exact h3 u hu
  ·obtain⟨a,b,c⟩:=h4 o (fun v hv=>ho2 v (mem_cons_of_mem _ hv));have hne:o≠t.o:=fun e2=>ho2 t (mem_cons_self ..) e2.symm;refine⟨a.trans (BP _ _ hne),b.trans ?_,c.trans ?_⟩
   ·show upd K.vs t.o t.q o=_;unfold upd;rw[AI hne]
   ·show upd K.vc t.o t.c o=_;unfold upd;rw[AI hne]
section
variable {K:BC}{G:BV}{X:Nat->Prop}{S:BW}
theorem Sit.fin(h:Sit K G X){tt:AC.St}(ho:tt.o=true)(hk:tt.k<12)(hF:K.F tt.k=2)(hi:tt.i<=8)(er:∀i,tt.i<=i->i<8->Erd K.s (8*tt.k+i)) :∃F',stK { clK K with fr:=tt } tt.k 1={ K with F:=F',fr:=tt,dd:=K.dd }/\Sit { K with F:=F',fr:=tt,dd:=K.dd } G X/\fre F'=fre K.F/\bad3 F'=bad3 K.F/\(∀b,b<12->(K.F b=3<->F' b=3))/\(∀b,b<12->(K.F b=0<->F' b=0))/\(∀b,b<12->b≠tt.k->K.F b=2->F' b=2):=by
 obtain⟨s1,f1,b1,o1,q1⟩:=h.cl;have hne:K.fr.o=true->tt.k≠K.fr.k:=fun e x=>by
  have:=(h.frk e).2;rw[<-x,hF] at this;exact absurd this dc
 have hFk:(clK K).F tt.k=2:=by
  cases e:K.fr.o
  ·rw[CM e];exact hF
  ·rw[h.clK_eq e];show upd K.F K.fr.k 2 tt.k=2;rw[BP _ _ (hne e)];exact hF
 have hz:∀b,b<12->(K.F b=0<->(clK K).F b=0):=fun b hb=>by
  cases e:K.fr.o
  ·rw[CM e]
  ·rw[h.clK_eq e];show K.F b=0<->upd K.F K.fr.k 2 b=0;rcases BO K.F K.fr.k b 2 with ⟨e1,e2⟩ | ⟨_,e2⟩ <;> rw[e2]
   rw[e1,(h.frk e).2];decide
 have eK:clK K={ K with F:=(clK K).F,fr:=(clK K).fr }:=by
  unfold clK;split <;> rfl
 have eF:AD.setF (clK K).F tt.k 1=upd (clK K).F tt.k 1:=DG hk dc (AK (by rw[hFk];decide));have hL:(clK K).L=K.L:=by rw[eK]
 have hs:(clK K).s=K.s:=by rw[eK]
 have hd:(clK K).dd=K.dd:=by rw[eK]
 have c0:=FJ (clK K).F hk 1;have c3:=FK (clK K).F hk 1;rw[hFk] at c0 c3;simp at c0 c3;refine⟨upd (clK K).F tt.k 1,?_,?_,by rw[c0,f1],by rw[c3,b1],fun b hb=>?_,fun b hb=>?_,fun b hb hne e=>?_⟩
 ·unfold stK;show ({ ({ clK K with fr:=tt }:BC) with F:=AD.setF (clK K).F tt.k 1 }:BC)=_;rw[eF];conv=>lhs;rw[eK]
 ·have:=s1.reF (Y:=X) (upd (clK K).F tt.k 1) tt (clK K).dd ?_ ?_ ?_ ?_ ?_ ?_ ?_ ?_ ?_
  ·have e2:({ clK K with F:=upd (clK K).F tt.k 1,fr:=tt,dd:=(clK K).dd }:BC)={ K with F:=upd (clK K).F tt.k 1,fr:=tt,dd:=K.dd }:=by
    rw[hd];conv=>lhs;rw[eK]
   rw[e2] at this;exact this
  ·refine s1.wf.F' ?_ ⟨hk,om⟩ _;rw[BP _ _ om];exact s1.wf.frm
  ·intro b hb;rcases BO (clK K).F tt.k b 1 with ⟨_,e⟩ | ⟨_,e⟩ <;> rw[e]
   ·decide
   ·exact s1.sts b hb
  ·intro p hp e;rcases BO (clK K).F tt.k (p / 8) 1 with ⟨_,e2⟩ | ⟨_,e2⟩ <;> rw[e2] at e
   ·exact absurd e dc
   ·exact s1.frs p hp e
  ·intro b hb;rcases BO (clK K).F tt.k b 1 with ⟨e1,e2⟩ | ⟨e1,e2⟩ <;> rw[e2]
   ·exact⟨fun _=>⟨ho,e1.symm⟩,fun _=>rfl⟩
   ·refine⟨fun e=>?_,fun e=>absurd e.2.symm e1⟩;have:=((s1.opn b hb).1 e).1;rw[o1] at this;cases this
  ·intro _ i hi2 h8;rw[hs];exact er i hi2 h8
  ·intro o hlo hLo;rw[hL] at hLo ⊢;have:=s1.blk o hlo (by rw[hL];exact hLo);rw[hL] at this;rcases BO (clK K).F tt.k ((K.L o).toNat / 8) 1 with ⟨_,e⟩ | ⟨_,e⟩ <;> rw[e]
   ·exact⟨dc,fun e=>absurd e dc⟩
   ·exact this
  ·intro b hb e;rw[BP]
   ·exact e
   ·rintro rfl;rw[hFk] at e;exact absurd e dc
  ·exact fun b _ e=>AL e
  ·rw[c3];exact s1.dds
 ·rw[q1 b hb];rcases BO (clK K).F tt.k b 1 with ⟨e1,e2⟩ | ⟨_,e2⟩ <;> rw[e2]
  rw[e1,hFk];decide
 ·rw[hz b hb];rcases BO (clK K).F tt.k b 1 with ⟨e1,e2⟩ | ⟨_,e2⟩ <;> rw[e2]
  rw[e1,hFk];decide
 ·rw[BP _ _ hne];cases eo:K.fr.o
  ·rw[CM eo];exact e
  ·rw[h.clK_eq eo];show upd K.F K.fr.k 2 b=2;rcases BO K.F K.fr.k b 2 with ⟨_,e2⟩ | ⟨_,e2⟩ <;> rw[e2]
   exact e
def Wi (K:BC) (S:BW):Prop:=∀o,o<25->K.L o≠-1->(K.L o).toNat / 8=S.fm->∃t ∈ S.ld,t.o=o
structure kR (K:BC) (S:BW) (L':Nat->Int) (vs' vc':Nat->Nat):Prop where
 ok:AA.Okl L'
 ld:∀t ∈ S.ld,L' t.o=(t.p:Int)/\vs' t.o=t.q/\vc' t.o=t.c
 no:∀o,(∀t ∈ S.ld,t.o≠o)->L' o=K.L o/\vs' o=K.vs o/\vc' o=K.vc o
theorem Iy.cml(hC:Iy K G S)(h:Sit K G X)(K1:BC)(hL:K1.L=K.L)(hvs:K1.vs=K.vs)(hvc:K1.vc=K.vc):∃L' vs' vc',cmL S.ld K1=({ K1 with L:=L',vs:=vs',vc:=vc' },0)/\kR K S L' vs' vc':=by
 obtain⟨L',vs',vc',h1,h2,h3,h4⟩:=Wh S.ld K1 (by rw[hL];exact h.wf.map) (fun t ht=>by obtain⟨a,_,_,_,_,_,b,c⟩:=hC.ld t ht;exact⟨a,b,c⟩) hC.ndo hC.ndp (fun t ht o ho e=>by
  rw[hL] at e
  have hLo:K.L o≠-1:=by rw[e];omega
  cases ht0:S.tt.o
  ·
   rw[(hC.no ht0).1] at ht;cases ht
  ·
   have:=hC.none ht0 o ho hLo
   rw[e,AP,(hC.ld t ht).2.2.2.2.2.1] at this
   exact this rfl)
 rw[hL,hvs,hvc] at h4;exact⟨L',vs',vc',h1,h2,h3,h4⟩
theorem kR.vs{L':Nat->Int}{vs' vc':Nat->Nat}(hl:kR K S L' vs' vc')(hC:Iy K G S)(o:Nat):vs' o=K.vs o/\(K.L o = -1->L' o = -1)/\(L' o = -1->K.L o = -1):=by
 by_cases e:∃t ∈ S.ld,t.o=o
 ·obtain⟨t,ht,rfl⟩:=e;obtain⟨a,b,_⟩:=hl.ld t ht;obtain⟨_,c,_,d,_⟩:=hC.ld t ht;exact⟨b.trans d,fun x=>absurd x c,fun x=>by rw[a] at x;omega⟩
 ·obtain⟨a,b,_⟩:=hl.no o (fun t ht e2=>e ⟨t,ht,e2⟩);exact⟨b,fun x=>a.trans x,fun x=>a.symm.trans x⟩
theorem Sit.cme(h:Sit K G (Xs S))(hC:Iy K G S)(hW:Wi K S)(hT:∀b,b<12->K.F b=3->G.c.B b=true){s':BG}(hs:s'.Ok)(hch:∀j,s'.ch j=if 32*S.fm<=j/\j<32*S.fm+32 then DW else K.s.ch j){R' N':Nat->Int}(hwf:Wf { K with s:=s',hR:=R',hN:=N' }){L':Nat->Int}{vs' vc':Nat->Nat}(hl:kR K S L' vs' vc'):Sit { K with s:=s',hR:=R',hN:=N',L:=L',vs:=vs',vc:=vc' } { G with T:=clrT G.T S.fm } No/\(∀o,o<25->L' o≠-1->(L' o).toNat / 8≠S.fm):=by
 have hfm:=hC.fm;have hin:∀p,p / 8=S.fm->Erd s' p:=fun p hp k hk=>by rw[hch,AJ om];rfl
 have hout:∀p k,p / 8≠S.fm->k<4->s'.ch (4*p+k)=K.s.ch (4*p+k):=fun p k hp hk=>by rw[hch,AI om]
 have herd:∀p,Erd K.s p->Erd s' p:=fun p hE=>by
  by_cases e:p / 8=S.fm
  ·exact hin p e
  ·intro k hk;rw[hout p k e hk];exact hE k hk
 have hgh:∀p,p / 8≠S.fm->Gh K.s p->Gh s' p:=fun p e hE k hk=>by rw[hout p k e hk];exact hE k hk
 have hgd:∀p,p / 8≠S.fm->Gd K.s p->Gd s' p:=fun p e hE k hk=>by rw[hout p k e hk];exact hE k hk
 have hclr:∀p t D,clrT G.T S.fm p=some (t,D)->p / 8≠S.fm/\G.T p=some (t,D):=fun p t D e=>by
  unfold clrT at e;split at e
  ·cases e
  ·rename_i c;exact⟨c,e⟩
 have hcl:∀p,p / 8≠S.fm->clrT G.T S.fm p=G.T p:=fun p e=>by unfold clrT;rw[AI e]
 have key:∀o,o<25->L' o≠-1->(∃t ∈ S.ld,t.o=o/\L' o=(t.p:Int)/\vs' o=t.q/\vc' o=t.c)\/((∀t ∈ S.ld,t.o≠o)/\L' o=K.L o/\vs' o=K.vs o/\vc' o=K.vc o/\K.L o≠-1/\(K.L o).toNat / 8≠S.fm):=fun o ho hLo=>by
  by_cases e:∃t ∈ S.ld,t.o=o
  ·obtain⟨t,ht,rfl⟩:=e;obtain⟨a,b,c⟩:=hl.ld t ht;exact AK ⟨t,ht,rfl,a,b,c⟩
  ·have hno:∀t ∈ S.ld,t.o≠o:=fun t ht e2=>e ⟨t,ht,e2⟩;obtain⟨a,b,c⟩:=hl.no o hno;have hK:K.L o≠-1:=(by rw[<-a];exact hLo);exact AL ⟨hno,a,b,c,hK,fun x=>e (hW o ho hK x)⟩
 have hto:∀t ∈ S.ld,S.tt.o=true:=fun t ht=>by
  cases e:S.tt.o
  ·rw[(hC.no e).1] at ht;cases ht
  ·rfl
 have hnl:∀o,o<25->L' o≠-1->(L' o).toNat / 8≠S.fm:=fun o ho hLo=>by
  rcases key o ho hLo with ⟨t,ht,_,a,_⟩ | ⟨_,a,_,_,_,b⟩
  ·rw[a,AP,(hC.ld t ht).2.2.2.2.2.1];exact(hC.k12 (hto t ht)).2.1
  ·rw[a];exact b
 refine⟨{
  wf:=⟨hs,hwf.rr,hwf.frm,hl.ok,fun i hi=>by show vs' i<=_;rw[(hl.vs hC i).1];exact h.wf.vs i hi,fun i hi hLi=>by show 1<=vs' i;rw[(hl.vs hC i).1];exact h.wf.vp i hi (fun e=>hLi ((hl.vs hC i).2.1 e)),fun i hi=>?_,hwf.fl,hwf.nx,hwf.fr,hwf.cu,hwf.qu,hwf.hea,hwf.tl⟩
  rep:=h.rep.erase hch
  sts:=h.sts
  frs:=fun p hp e=>herd p (h.frs p hp e)
  opn:=h.opn
  frn:=fun e i hi h8=>herd _ (h.frn e i hi h8)
  liv:=fun o ho hLo=>?_
  nul:=fun o ho e=>h.nul o ho ((hl.vs hC o).2.2 e)
  blk:=fun o ho hLo=>?_
  flo:=fun o ho hLo=>by
   show K.fl o<(vs' o:Int)
   rw[(hl.vs hC o).1]
   exact h.flo o ho (fun e=>hLo ((hl.vs hC o).2.1 e))
  old:=fun p t D hT2 hcd=>?_
  seq:=fun p t D hT2=>h.seq p t D (hclr p t D hT2).2
  fls:=h.fls
  sp:=h.sp
  dds:=h.dds
  cb:=h.cb
  cf:=h.cf
  cn:=fun hLo=>by
   show G.c.N=(vs' 24:Int)/\_
   rw[(hl.vs hC 24).1]
   exact h.cn (fun e=>hLo ((hl.vs hC 24).2.1 e))
  nw:=fun e p=>by
   have:=h.nw ((hl.vs hC 24).2.2 e) p
   show clrT G.T S.fm p=none
   unfold clrT
   split
   ·
    rfl
   ·
    exact this
  z24:=h.z24
  lb:=fun o ho hLo=>by
   show G.c.B ((L' o).toNat / 8)=false
   rcases key o ho hLo with ⟨t,ht,_,a,_⟩ | ⟨_,a,_,_,b,_⟩
   ·
    rw[a,AP,(hC.ld t ht).2.2.2.2.2.1]
    obtain⟨k1,_,k3,_⟩:=hC.k12 (hto t ht)
    cases e4:G.c.B S.tt.k
    ·
     rfl
    ·
     have:=h.cb _ k1 e4
     rw[k3] at this
     exact absurd this dc
   ·
    rw[a]
    exact h.lb o ho b },hnl⟩
 ·by_cases e:∃t ∈ S.ld,t.o=i
  ·obtain⟨t,ht,rfl⟩:=e;obtain⟨_,_,c⟩:=hl.ld t ht;show vc' t.o<256;rw[c,(hC.ld t ht).2.2.2.2.1];omega
  ·obtain⟨_,_,c⟩:=hl.no i (fun t ht e2=>e ⟨t,ht,e2⟩);show vc' i<256;rw[c];exact h.wf.vc i hi
 ·rcases key o ho hLo with ⟨t,ht,rfl,a,b,c⟩ | ⟨_,a,b,c,d,e⟩
  ·obtain⟨D,d1,d2,d3,d4⟩:=hC.dt t ht;have hk:t.p / 8≠S.fm:=(by rw[(hC.ld t ht).2.2.2.2.2.1];exact(hC.k12 (hto t ht)).2.1);have hpl:=(h.rep.ent _ _ _ d1).2.pl;refine⟨t.l,D,⟨?_,d3,d4,?_,fun _=>?_⟩⟩
   ·show clrT G.T S.fm (L' t.o).toNat=some (⟨(L' t.o).toNat,t.o,vs' t.o,vc' t.o,t.l⟩,D);rw[a,b,c,AP,hcl _ hk];exact d1
   ·show Gh s' (L' t.o).toNat;rw[a,AP];exact hgh _ hk d2.gh
   ·show Gd s' (L' t.o).toNat;rw[a,AP];exact hgd _ hk d2
  ·obtain⟨l,D,hlv⟩:=h.liv o ho d;refine⟨l,D,⟨?_,hlv.lost,hlv.data,?_,fun z=>?_⟩⟩
   ·show clrT G.T S.fm (L' o).toNat=some (⟨(L' o).toNat,o,vs' o,vc' o,l⟩,D);rw[a,b,c,hcl _ e];exact hlv.tab
   ·show Gh s' (L' o).toNat;rw[a];exact hgh _ e hlv.gh
   ·show Gd s' (L' o).toNat;rw[a];exact hgd _ e (hlv.gd z)
 ·show K.F ((L' o).toNat / 8)≠0/\(K.F ((L' o).toNat / 8)=3->K.dd=true);rcases key o ho hLo with ⟨t,ht,rfl,a,_⟩ | ⟨_,a,_,_,d,_⟩
  ·rw[a,AP,(hC.ld t ht).2.2.2.2.2.1,(hC.k12 (hto t ht)).2.2.1];exact⟨dc,fun e=>absurd e dc⟩
  ·rw[a];exact h.blk o ho d
 ·obtain⟨hp,hT3⟩:=hclr p t D hT2;have hp96:=(h.rep.ent p t D hT3).1;have ho25:t.o<25:=by have:=(h.rep.ent p t D hT3).2.may.1.2.1;omega
  obtain⟨r1,r2⟩:=h.old p t D hT3 hcd;show L' t.o≠-1/\(t.q<vs' t.o\/t.q=vs' t.o/\((p:Int)=L' t.o\/t.c=(vc' t.o+1) % 256/\G.c.B (p / 8)=false/\(K.F (p / 8)=3\/False)));have hL1:L' t.o≠-1:=fun e=>r1 ((hl.vs hC t.o).2.2 e);refine⟨hL1,?_⟩;rw[(hl.vs hC t.o).1];refine r2.imp id fun ⟨q1,q2⟩=>⟨q1,?_⟩;rcases q2 with q2 | ⟨q2,q6,q3⟩
  ·left;rcases key t.o ho25 hL1 with ⟨u,hu,e1,a,_⟩ | ⟨_,a,_⟩
   ·exfalso;obtain⟨_,b1,b2,_⟩:=hC.ld u hu;rw[e1] at b2;apply hp;rw[<-b2,<-q2,AP]
   ·rw[a];exact q2
  ·rcases q3 with q3 | ⟨q4,q5⟩
   ·exfalso;rw[hT _ om q3] at q6;cases q6
   ·left;have hmem:=hC.all q4 p t D q5 hT3;rw[(hl.ld t hmem).1,(h.rep.ent p t D hT3).2.pl]
end
theorem Wj{l:List Bu}{t:Bu}:∀ {K K1:BC},cmL l K=(K1,0)->cmL (l ++ [t]) K=layK K1 t:=by
 induction l with
 | nil=>
  intro K K1 e;have:K=K1:=(Prod.mk.inj e).1;subst this;show (if (layK K t).2≠0 then layK K t else ((layK K t).1,0))=_;by_cases c:(layK K t).2=0
  ·rw[AI (by rw[c];simp)];exact Prod.ext rfl c.symm
  ·rw[AJ c]
 | cons u l ih=>
  intro K K1 e;rw[cmL] at e;show (if (layK K u).2≠0 then layK K u else cmL (l ++ [t]) (layK K u).1)=_;by_cases c:(layK K u).2≠0
  ·rw[AJ c] at e;rw[e] at c;exact absurd rfl c
  ·rw[AI c] at e ⊢;exact ih e
section
variable {K:BC}{G:BV}{X:Nat->Prop}{S:BW}
def Ju (K:BC) (S:BW):Prop:=∀o,o<24->K.L o≠-1->(K.L o).toNat / 8=S.fm->∃t ∈ S.ld,t.o=o
theorem Sit.cmb(h:Sit K G (Xs S))(hC:Iy K G S)(hto:S.tt.o=true)(hW:Ju K S)(hfar:K.fr.o=true->K.fr.k≠S.fm)(hFv:K.F S.fm≠3)(hb2:bad3 K.F<2){p:Nat}(hp:p / 8=S.tt.k){c:AB.Bp}{s':BG}(k:cR K.s s' G.T ⟨p,24,K.nx,0,false⟩ (AB.Ir c))(hS:Ic K p)(cB:∀b,b<12->(c.B b=true<->K.F b=3\/b=S.fm))(cF:∀i,i<24->c.F i=K.fl i)(cN:c.N=K.nx)(cC:c.C=K.cu)(cT:AB.Zx c){r':Int}{R' N':Nat->Int}(wf:Wf { K with s:=s',r:=r',hR:=R',nx:=K.nx+1 })(wfN:AF.Fk R' N' K.hS){L':Nat->Int}{vs' vc':Nat->Nat}(hl:kR K S L' vs' vc') :Sit { K with s:=s',r:=r',hR:=R',hN:=N',ca:=0,nx:=K.nx+1,L:=upd L' 24 p,vs:=upd vs' 24 K.nx,vc:=upd vc' 24 0,F:=upd K.F S.fm 3 } { G with T:=DE G.T p ⟨p,24,K.nx,0,false⟩ (AB.Ir c),c:=c } No /\(∀o,o<25->upd L' 24 p o≠-1->(upd L' 24 p o).toNat / 8≠S.fm)/\bad3 (upd K.F S.fm 3)=bad3 K.F+1:=by
 have hfm:=hC.fm;obtain⟨k12,kne,kF,ki⟩:=hC.k12 hto;have hfree:=hS.free h;have hTn:=hS.er.tab h.rep;have hn1:=h.wf.nx;have hv:∀x,x≠24->upd vs' 24 K.nx x=vs' x:=fun x hx=>by unfold upd;rw[AI hx]
 have hcp:∀x,x≠24->upd vc' 24 0 x=vc' x:=fun x hx=>by unfold upd;rw[AI hx]
 have hL:∀x,x≠24->upd L' 24 p x=L' x:=fun x hx=>by unfold upd;rw[AI hx]
 have hvo:upd vs' 24 K.nx 24=K.nx:=by unfold upd;rw[AJ rfl]
 have hco:upd vc' 24 0 24=0:=by unfold upd;rw[AJ rfl]
 have hLo:upd L' 24 p 24=(p:Int):=by unfold upd;rw[AJ rfl]
 have c3:=FK K.F hfm 3;rw[AI hFv,AJ rfl] at c3;have hddf:K.dd=false:=by
  cases e:K.dd
  ·rfl
  ·have:=h.dds.1 e;omega
 have hF3:∀b,b<12->(upd K.F S.fm 3 b=3<->K.F b=3\/b=S.fm):=fun b hb=>by
  rcases BO K.F S.fm b 3 with ⟨e1,e2⟩ | ⟨e1,e2⟩ <;> rw[e2]
  ·simp[e1]
  ·simp[e1]
 have hnp:∀t ∈ S.ld,t.p≠p:=fun t ht e=>by
  obtain⟨D,d1,_⟩:=hC.dt t ht;rw[e,hTn] at d1;cases d1
 have key:∀o,o<24->L' o≠-1->(∃t ∈ S.ld,t.o=o/\L' o=(t.p:Int)/\vs' o=t.q/\vc' o=t.c)\/((∀t ∈ S.ld,t.o≠o)/\L' o=K.L o/\vs' o=K.vs o/\vc' o=K.vc o/\K.L o≠-1/\(K.L o).toNat / 8≠S.fm):=fun o ho hLo=>by
  by_cases e:∃t ∈ S.ld,t.o=o
  ·obtain⟨t,ht,rfl⟩:=e;obtain⟨a,b,c⟩:=hl.ld t ht;exact AK ⟨t,ht,rfl,a,b,c⟩
  ·have hno:∀t ∈ S.ld,t.o≠o:=fun t ht e2=>e ⟨t,ht,e2⟩;obtain⟨a,b,c⟩:=hl.no o hno;have hK:K.L o≠-1:=(by rw[<-a];exact hLo);exact AL ⟨hno,a,b,c,hK,fun x=>e (hW o ho hK x)⟩
 have hne:∀x,x<25->K.L x≠-1->(K.L x).toNat≠p:=fun x hx hL e=>hfree x hx (by have:=h.wf.lt hx hL;omega);have hnl:∀o,o<25->upd L' 24 p o≠-1->(upd L' 24 p o).toNat / 8≠S.fm:=fun o ho hLx=>by
  by_cases e:o=24
  ·rw[e,hLo,AP,hp];exact kne
  ·rw[hL o e] at hLx ⊢;rcases key o om hLx with ⟨t,ht,_,a,_⟩ | ⟨_,a,_,_,_,b⟩
   ·rw[a,AP,(hC.ld t ht).2.2.2.2.2.1];exact kne
   ·rw[a];exact b
 have hfreeL:∀o,o<25->L' o≠(p:Int):=fun o ho e=>by
  by_cases e2:∃t ∈ S.ld,t.o=o
  ·obtain⟨t,ht,rfl⟩:=e2;rw[(hl.ld t ht).1] at e;exact hnp t ht om
  ·rw[(hl.no o (fun t ht e3=>e2 ⟨t,ht,e3⟩)).1] at e;exact hfree o ho e
 refine⟨{
  wf:=?_
  rep:=k.rep
  sts:=fun b hb=>by
   show 0<=upd K.F S.fm 3 b/\upd K.F S.fm 3 b<=3
   rcases BO K.F S.fm b 3 with ⟨_,e⟩ | ⟨_,e⟩ <;> rw[e]
   ·
    decide
   ·
    exact h.sts b hb
  frs:=fun x hx e=>by
   have e2:upd K.F S.fm 3 (x / 8)=0:=e
   have e3:K.F (x / 8)=0:=by
    rcases BO K.F S.fm (x / 8) 3 with ⟨_,e4⟩ | ⟨_,e4⟩ <;> rw[e4] at e2
    ·
     exact absurd e2 dc
    ·
     exact e2
   exact k.oth.erd (by rintro rfl;rcases hS.F with f | f <;> (rw[f] at e3;exact absurd e3 dc)) (h.frs x hx e3)
  opn:=fun b hb=>by
   show upd K.F S.fm 3 b=1<->_
   rcases BO K.F S.fm b 3 with ⟨e1,e2⟩ | ⟨_,e2⟩ <;> rw[e2]
   ·
    exact⟨fun e=>absurd e dc,fun e=>absurd (e.2.trans e1) (hfar e.1)⟩
   ·
    exact h.opn b hb
  frn:=fun e i hi h8=>k.oth.erd (fun e2=>by
   have e3:8*K.fr.k+i=p:=e2
   have h8':i<8:=h8
   have h1:K.fr.k=p / 8:=om
   have h2:=hS.fr e h1
   have h3:K.fr.i<=i:=hi
   omega) (h.frn e i hi h8)
  liv:=fun x hx hLx=>?_
  nul:=fun x hx e=>by
   have e2:upd L' 24 p x = -1:=e
   rw[hL x om] at e2
   exact h.nul x hx ((hl.vs hC x).2.2 e2)
  blk:=fun x hx hLx=>?_
  flo:=fun x hx e=>by
   show K.fl x<((upd vs' 24 K.nx x:Nat):Int)
   have e2:upd L' 24 p x≠-1:=e
   rw[hL x om] at e2
   rw[hv x om,(hl.vs hC x).1]
   exact h.flo x hx (fun e3=>e2 ((hl.vs hC x).2.1 e3))
  old:=fun x t C hT hcd=>?_
  seq:=fun x t C hT=>by
   show t.q<K.nx+1
   rcases DZ hT with ⟨rfl,rfl,rfl⟩ | ⟨hx,hT2⟩
   ·
    exact Nat.lt_succ_self _
   ·
    exact Nat.lt_succ_of_lt (h.seq x t C hT2)
  fls:=fun x hx=>by
   show K.fl x<((K.nx+1:Nat):Int)
   have:=h.fls x hx
   omega
  sp:=h.sp
  dds:=by
   show K.dd=true<->2<bad3 (upd K.F S.fm 3)
   rw[hddf]
   simp
   omega
  cb:=fun b hb e=>(hF3 b hb).2 ((cB b hb).1 e)
  cf:=cF
  cn:=fun _=>by
   show c.N=((upd vs' 24 K.nx 24:Nat):Int)/\(c.C+8*((0:Nat):Int)) % 96=(K.cu:Int)/\AB.Zx c
   rw[hvo]
   have:=h.wf.cu
   exact⟨cN,by rw[cC];omega,cT⟩
  nw:=fun e=>by
   have e2:upd L' 24 p 24 = -1:=e
   rw[hLo] at e2
   omega
  z24:=h.z24
  lb:=fun x hx hLx=>by
   show c.B ((upd L' 24 p x).toNat / 8)=false
   have h9:upd L' 24 p x≠-1:=hLx
   have h8:=hnl x hx h9
   have kfl:∀b,b<12->K.F b≠3->b≠S.fm->c.B b=false:=fun b hb h3 hf=>by
    cases e4:c.B b
    ·
     rfl
    ·
     exact((cB b hb).1 e4).elim (fun e=>absurd e h3) (fun e=>absurd e hf)
   by_cases e:x=24
   ·
    rw[e,hLo,AP,hp]
    exact kfl _ k12 (by rw[kF];decide) kne
   ·
    rw[hL x e] at h9 h8 ⊢
    rcases key x om h9 with ⟨t,ht,_,a,_⟩ | ⟨_,a,_,_,b,_⟩
    ·
     rw[a,AP,(hC.ld t ht).2.2.2.2.2.1]
     exact kfl _ k12 (by rw[kF];decide) kne
    ·
     rw[a] at h8 ⊢
     have h7:=(h.wf.lt hx b).1
     exact kfl _ om (fun e3=>by have:=(h.blk x hx b).2 e3;rw[hddf] at this;cases this) h8 },hnl,om⟩
 ·have hvs:∀i,i<25->upd vs' 24 K.nx i<=1099511627775/\(upd L' 24 p i≠-1->1<=upd vs' 24 K.nx i):=fun i hi=>by
   by_cases e:i=24
   ·rw[e,hvo];exact⟨hn1.2,fun _=>hn1.1⟩
   ·rw[hv i e,hL i e,(hl.vs hC i).1];exact⟨h.wf.vs i hi,fun x=>h.wf.vp i hi (fun y=>x ((hl.vs hC i).2.1 y))⟩
  refine⟨k.ok,wf.rr,?_,hl.ok.put 24 ⟨om,by have:=hS.lt;omega⟩ (fun e=>om) (Bv hfreeL),fun i hi=>(hvs i hi).1,fun i hi e=>(hvs i hi).2 e,fun i hi=>?_,wf.fl,wf.nx,wf.fr,wf.cu,wf.qu,wfN,wf.tl⟩
  ·show 0<=upd K.F S.fm 3 12/\upd K.F S.fm 3 12<12;rw[BP _ _ om];exact wf.frm
  ·show upd vc' 24 0 i<256;by_cases e:i=24
   ·rw[e,hco];decide
   ·rw[hcp i e];by_cases e2:∃t ∈ S.ld,t.o=i
    ·obtain⟨t,ht,rfl⟩:=e2;rw[(hl.ld t ht).2.2,(hC.ld t ht).2.2.2.2.1];omega
    ·rw[(hl.no i (fun t ht e3=>e2 ⟨t,ht,e3⟩)).2.2];exact h.wf.vc i hi
 ·by_cases e:x=24
  ·subst e;refine⟨false,AB.Ir c,⟨?_,fun e=>(by cases e),fun _=>rfl,?_,fun _=>?_⟩⟩
   ·show DE G.T p _ _ (upd L' 24 p 24).toNat=some (⟨(upd L' 24 p 24).toNat,24,upd vs' 24 K.nx 24,upd vc' 24 0 24,false⟩,_);rw[hLo,hvo,hco,AP,Iw]
   ·show Gh s' (upd L' 24 p 24).toNat;rw[hLo,AP];exact k.gd.gh
   ·show Gd s' (upd L' 24 p 24).toNat;rw[hLo,AP];exact k.gd
  ·have hLx2:L' x≠-1:=(by rw[<-hL x e];exact hLx);rcases key x om hLx2 with ⟨t,ht,rfl,a,b,c0⟩ | ⟨_,a,b,c0,d,e0⟩
   ·obtain⟨D,d1,d2,d3,d4⟩:=hC.dt t ht;refine⟨t.l,D,⟨?_,d3,fun z=>?_,?_,fun _=>?_⟩⟩
    ·show DE G.T p _ _ (upd L' 24 p t.o).toNat=some (⟨(upd L' 24 p t.o).toNat,t.o,upd vs' 24 K.nx t.o,upd vc' 24 0 t.o,t.l⟩,D);rw[hL _ e,hv _ e,hcp _ e,a,b,c0,AP,Ff _ _ _ (hnp t ht)];exact d1
    ·have:=d4 z;rw[AI e] at this;show D=if t.o=24 then AB.Ir c else G.a t.o;rw[AI e];exact this
    ·show Gh s' (upd L' 24 p t.o).toNat;rw[hL _ e,a,AP];exact k.oth.gh (hnp t ht) d2.gh
    ·show Gd s' (upd L' 24 p t.o).toNat;rw[hL _ e,a,AP];exact k.oth.gd (hnp t ht) d2
   ·obtain⟨l,D,hlv⟩:=h.liv x hx d;refine⟨l,D,⟨?_,hlv.lost,fun z=>?_,?_,fun z=>?_⟩⟩
    ·show DE G.T p _ _ (upd L' 24 p x).toNat=some (⟨(upd L' 24 p x).toNat,x,upd vs' 24 K.nx x,upd vc' 24 0 x,l⟩,D);rw[hL _ e,hv _ e,hcp _ e,a,b,c0,Ff _ _ _ (hne x hx d)];exact hlv.tab
    ·have:=hlv.data z;rw[AI e] at this;show D=if x=24 then AB.Ir c else G.a x;rw[AI e];exact this
    ·show Gh s' (upd L' 24 p x).toNat;rw[hL _ e,a];exact k.oth.gh (hne x hx d) hlv.gh
    ·show Gd s' (upd L' 24 p x).toNat;rw[hL _ e,a];exact k.oth.gd (hne x hx d) (hlv.gd z)
 ·show upd K.F S.fm 3 ((upd L' 24 p x).toNat / 8)≠0/\(upd K.F S.fm 3 ((upd L' 24 p x).toNat / 8)=3->K.dd=true);rw[BP _ _ (hnl x hx hLx)];by_cases e:x=24
  ·rw[e,hLo,AP,hp,kF];exact⟨dc,fun e=>absurd e dc⟩
  ·have hLx2:L' x≠-1:=(by rw[<-hL x e];exact hLx);rw[hL x e];rcases key x om hLx2 with ⟨t,ht,rfl,a,_⟩ | ⟨_,a,_,_,d,_⟩
   ·rw[a,AP,(hC.ld t ht).2.2.2.2.2.1,kF];exact⟨dc,fun e=>absurd e dc⟩
   ·rw[a];exact h.blk x hx d
 ·show upd L' 24 p t.o≠-1/\(t.q<upd vs' 24 K.nx t.o\/t.q=upd vs' 24 K.nx t.o/\((x:Int)=upd L' 24 p t.o\/t.c=(upd vc' 24 0 t.o+1) % 256/\c.B (x / 8)=false/\(upd K.F S.fm 3 (x / 8)=3\/False)));rcases DZ hT with ⟨rfl,rfl,rfl⟩ | ⟨hx,hT2⟩
  ·show upd L' 24 x 24≠-1/\(_\/K.nx=upd vs' 24 K.nx 24/\((x:Int)=upd L' 24 x 24\/_));rw[hLo,hvo];exact⟨om,AL ⟨rfl,AK rfl⟩⟩
  ·have hent:=h.rep.ent x t C hT2;by_cases e:t.o=24
   ·rw[e,hLo,hvo];exact⟨om,AK (h.seq x t C hT2)⟩
   ·have ho24:t.o<24:=by
     have:=hent.2.may.1.2.1;omega
    obtain⟨hcB,hfl⟩:=hcd.resolve_left e;have hcB2:c.B (x / 8)=false:=hcB;have hnot:¬ (K.F (x / 8)=3\/x / 8=S.fm):=fun e3=>by
     rw[(cB (x / 8) om).2 e3] at hcB2;cases hcB2
    have hGB:G.c.B (x / 8)=false:=by
     cases e4:G.c.B (x / 8)
     ·rfl
     ·exact absurd (AK (h.cb (x / 8) om e4)) hnot
    obtain⟨r1,r2⟩:=h.old x t C hT2 (AL ⟨hGB,hfl⟩);have hL1:L' t.o≠-1:=fun e5=>r1 ((hl.vs hC t.o).2.2 e5);rw[hL _ e,hv _ e,(hl.vs hC t.o).1];refine⟨hL1,r2.imp id fun ⟨q1,q2⟩=>⟨q1,AK ?_⟩⟩;rcases q2 with q2 | ⟨_,_,q3⟩
    ·rcases key t.o ho24 hL1 with ⟨u,hu,e1,_⟩ | ⟨_,a,_⟩
     ·exfalso;obtain⟨_,b1,b2,_⟩:=hC.ld u hu;rw[e1] at b2;apply hnot;right;rw[<-b2,<-q2,AP]
     ·rw[a];exact q2
    ·rcases q3 with q3 | ⟨_,q5⟩
     ·exact absurd (AK q3) hnot
     ·have hmem:=hC.all hto x t C q5 hT2;rw[(hl.ld t hmem).1,hent.2.pl]
end
def Told (K:BC) (G:BV):Prop:=∀b,b<12->K.F b=3->G.c.B b=true
structure Stp (m d:Nat) (K K':BC) (G G':BV):Prop where
 a:G'.a=G.a
 z:G'.z=G.z
 fl:K'.fl=K.fl
 lv:∀o,o<24->(K'.L o = -1<->K.L o = -1)
 l24:K.L 24≠-1->K'.L 24≠-1
 vs:∀o,o<24->K'.vs o=K.vs o
 fx:Nh K K'
 b3:∀b,b<12->K.F b=3->K'.F b=3
 bd:bad3 K'.F=bad3 K.F+d
 nx:K.nx<=K'.nx
 rd:RdB m K K'
theorem Stp.refl(K:BC)(G:BV):Stp 0 0 K K G G:=⟨rfl,rfl,rfl,fun _ _=>Iff.rfl,id,fun _ _=>rfl,Nh.refl K,fun _ _=>id,rfl,AM _,RdB.refl K⟩
theorem Stp.trans{m d n e:Nat}{K K' K'':BC}{G G' G'':BV}(h:Stp m d K K' G G')(k:Stp n e K' K'' G' G''):Stp (m+n) (d+e) K K'' G G'':=
 ⟨k.a.trans h.a,k.z.trans h.z,k.fl.trans h.fl,fun o ho=>(k.lv o ho).trans (h.lv o ho),fun x=>k.l24 (h.l24 x),fun o ho=>(k.vs o ho).trans (h.vs o ho),h.fx.trans k.fx,fun b hb x=>k.b3 b hb (h.b3 b hb x),by rw[k.bd,h.bd];omega,AY h.nx k.nx,h.rd.trans k.rd⟩
theorem Stp.mono{m n d:Nat}{K K':BC}{G G':BV}(h:Stp m d K K' G G')(e:m<=n):Stp n d K K' G G':=
 ⟨h.a,h.z,h.fl,h.lv,h.l24,h.vs,h.fx,h.b3,h.bd,h.nx,h.rd.mono e⟩
theorem OH.stp{K K':BC}{G G':BV}(h:OH K K')(hg:G'.a=G.a/\G'.z=G.z){k m:Nat}(hr:RdB k K K')(hk:k<=m):Stp m 0 K K' G G':=
 ⟨hg.1,hg.2,h.fl,fun o _=>by rw[h.L],fun x=>by rw[h.L];exact x,fun o _=>by rw[h.vs],h.fx,fun b hb x=>(h.b3 b hb).1 x,h.bd,Ak h.nx.symm,hr.mono hk⟩
theorem Jv(K:BC)(b:Int):∃F' fr',lvK K b={ K with F:=F',fr:=fr' }:=by
 unfold lvK clK;split
 ·split
  ·exact⟨_,_,rfl⟩
  ·exact⟨K.F,K.fr,rfl⟩
 ·exact⟨K.F,K.fr,rfl⟩
theorem Kw{K:BC}{G:BV}{X:Nat->Prop}(h:Sit K G X)(b:Int){x:Nat}(hx:K.F x≠1):(lvK K b).F x=K.F x:=by
 unfold lvK;split
 ·cases e:K.fr.o
  ·rw[CM e]
  ·rw[h.clK_eq e];show upd K.F K.fr.k 2 x=K.F x;rw[BP];rintro rfl;exact hx (h.frk e).2
 ·rfl
section
variable {K:BC}{G:BV}{X:Nat->Prop}{S:BW}
theorem Sit.st0(h:Sit K G X){b:Nat}(hb:b<12)(h3:K.F b≠3)(h0:K.F b≠0)(hfar:K.fr.o=true->K.fr.k≠b)(hl:∀o,o<25->K.L o≠-1->(K.L o).toNat / 8≠b)(he:∀p,p / 8=b->Erd K.s p) :∃F',stK K b 0={ K with F:=F',fr:=K.fr,dd:=K.dd }/\Sit { K with F:=F',fr:=K.fr,dd:=K.dd } G X/\F' b=0/\fre F'=fre K.F+1/\bad3 F'=bad3 K.F/\(∀x,x<12->x≠b->F' x=K.F x):=by
 have c0:=FJ K.F hb 0;have c3:=FK K.F hb 0;rw[AI h0,AJ rfl] at c0;rw[AI h3,AI (show ¬ (0:Int)=3 by decide)] at c3;refine⟨upd K.F b 0,?_,h.reF _ _ _ ?_ ?_ ?_ ?_ ?_ ?_ ?_ ?_ ?_,Be _ _ _,om,om,fun x _ hx=>BP _ _ hx⟩
 ·unfold stK;rw[DG hb dc (AK h3)]
 ·refine h.wf.F' ?_ h.wf.fr _;rw[BP _ _ om];exact h.wf.frm
 ·intro x hx;rcases BO K.F b x 0 with ⟨_,e⟩ | ⟨_,e⟩ <;> rw[e]
  ·decide
  ·exact h.sts x hx
 ·intro p hp e;rcases BO K.F b (p / 8) 0 with ⟨e1,_⟩ | ⟨_,e2⟩
  ·exact he p e1
  ·rw[e2] at e;exact h.frs p hp e
 ·intro x hx;rcases BO K.F b x 0 with ⟨e1,e2⟩ | ⟨_,e2⟩ <;> rw[e2]
  ·exact⟨fun e=>absurd e dc,fun e=>absurd (e.2.trans e1) (hfar e.1)⟩
  ·exact h.opn x hx
 ·exact h.frn
 ·intro o ho hL;rw[BP _ _ (hl o ho hL)];exact h.blk o ho hL
 ·intro x hx e;rw[BP]
  ·exact e
  ·rintro rfl;exact h3 e
 ·exact fun b _ e=>AL e
 ·rw[show bad3 (upd K.F b 0)=bad3 K.F by omega];exact h.dds
theorem TB(h:Sit K G (Xs S))(hC:Iy K G S)(hW:Wi K S)(hT:Told K G)(h3:K.F S.fm≠3)(h0:K.F S.fm≠0){s':BG}{R' N':Nat->Int}(hwf:Wf { K with s:=s',hR:=R',hN:=N' })(hch:∀j,s'.ch j=if 32*S.fm<=j/\j<32*S.fm+32 then DW else K.s.ch j) :∃K',cmK { K with s:=s',hR:=R',hN:=N' } S 0=(K',0)/\Sit K' { G with T:=clrT G.T S.fm } No/\K'.s=s'/\K'.hR=R'/\K'.F S.fm=0/\fre K'.F=fre K.F+1/\bad3 K'.F=bad3 K.F/\(∀b,b<12->(K'.F b=3<->K.F b=3)) /\(∀o,o<25->K'.L o≠-1->(K'.L o).toNat / 8≠S.fm)/\(∀o,(K'.L o = -1<->K.L o = -1)/\K'.vs o=K.vs o)/\K'.fl=K.fl/\K'.nx=K.nx/\K'.dd=K.dd/\K'.ca=K.ca/\Nh K K'/\(S.tt.o=true->K'.fr=S.tt)/\(S.tt.o=false->K'.fr=K.fr\/K'.fr=noF):=by
 obtain⟨L',vs',vc',e1,hl⟩:=hC.cml h { K with s:=s',hR:=R',hN:=N' } rfl rfl rfl;obtain⟨s1,n1⟩:=h.cme hC hW hT hwf.chip hch hwf hl;have hin:∀p,p / 8=S.fm->Erd s' p:=fun p hp k hk=>by rw[hch,AJ om];rfl
 have hfm:=hC.fm;obtain⟨s2,f2,b2,q2⟩:=s1.lv (S.fm:Nat);have far2:=L1 { K with s:=s',hR:=R',hN:=N',L:=L',vs:=vs',vc:=vc' } S.fm;obtain⟨F2,fr2,e2⟩:=Jv { K with s:=s',hR:=R',hN:=N',L:=L',vs:=vs',vc:=vc' } (S.fm:Nat);have hF0:(lvK { K with s:=s',hR:=R',hN:=N',L:=L',vs:=vs',vc:=vc' } (S.fm:Nat)).F S.fm≠0:=by
  unfold lvK;split
  ·cases eo:K.fr.o
   ·rw[CM (by exact eo)];exact h0
   ·rw[s1.clK_eq (by exact eo)];show upd K.F K.fr.k 2 S.fm≠0;rcases BO K.F K.fr.k S.fm 2 with ⟨_,e⟩ | ⟨_,e⟩ <;> rw[e]
    ·decide
    ·exact h0
  ·exact h0
 have hk2:S.tt.o=true->(lvK { K with s:=s',hR:=R',hN:=N',L:=L',vs:=vs',vc:=vc' } (S.fm:Nat)).F S.tt.k=2:=fun ho=>by
  rw[Kw s1 _ (by show K.F S.tt.k≠1;rw[(hC.k12 ho).2.2.1];decide)];exact(hC.k12 ho).2.2.1
 have hfr2:(lvK { K with s:=s',hR:=R',hN:=N',L:=L',vs:=vs',vc:=vc' } (S.fm:Nat)).fr=K.fr\/(lvK { K with s:=s',hR:=R',hN:=N',L:=L',vs:=vs',vc:=vc' } (S.fm:Nat)).fr=noF:=by
  unfold lvK clK;split
  ·split
   ·exact AL rfl
   ·exact AK rfl
  ·exact AK rfl
 have h32:(lvK { K with s:=s',hR:=R',hN:=N',L:=L',vs:=vs',vc:=vc' } (S.fm:Nat)).F S.fm≠3:=fun e=>h3 ((q2 S.fm hfm).2 e);rw[e2] at s2 f2 b2 q2 far2 hF0 hk2 hfr2 h32;obtain⟨F3,e3,s3,z3,f3,b3,o3⟩:=s2.st0 hfm h32 hF0 far2 n1 (fun p hp=>hin p hp);have ecm:cmK { K with s:=s',hR:=R',hN:=N' } S 0=({ (if S.tt.o then stK { clK { K with s:=s',hR:=R',hN:=N',L:=L',vs:=vs',vc:=vc',F:=F3,fr:=fr2,dd:=K.dd } with fr:=S.tt } S.tt.k 1 else { K with s:=s',hR:=R',hN:=N',L:=L',vs:=vs',vc:=vc',F:=F3,fr:=fr2,dd:=K.dd }) with mv:=wrap64 ((if S.tt.o then stK { clK { K with s:=s',hR:=R',hN:=N',L:=L',vs:=vs',vc:=vc',F:=F3,fr:=fr2,dd:=K.dd } with fr:=S.tt } S.tt.k 1 else { K with s:=s',hR:=R',hN:=N',L:=L',vs:=vs',vc:=vc',F:=F3,fr:=fr2,dd:=K.dd }).mv+S.ld.length) },0):=by
  unfold cmK;rw[e1];dsimp only;rw[AI (show ¬ (0:Nat)≠0 by decide),e2,e3]
 rw[ecm];clear ecm;cases ho:S.tt.o
 ·refine⟨_,rfl,(s3.alk ⟨rfl,rfl,rfl,rfl,rfl,rfl,rfl,rfl,rfl,rfl,rfl,rfl,⟨rfl,rfl,rfl,rfl,rfl,rfl⟩⟩ (s3.wf.mv' _)),rfl,rfl,z3,?_,?_,fun b hb=>?_,n1,fun o=>?_,rfl,rfl,rfl,rfl,⟨rfl,rfl,rfl,rfl,rfl,rfl⟩,fun e=>(by cases e),fun _=>hfr2⟩
  ·show fre F3=_;rw[f3];have:fre F2=fre K.F:=f2;show fre F2+1=_;omega
  ·show bad3 F3=_;rw[b3];exact b2
  ·show F3 b=3<->K.F b=3;by_cases e:b=S.fm
   ·rw[e,z3];exact⟨fun e=>absurd e dc,fun e=>absurd e h3⟩
   ·rw[o3 b hb e];exact(q2 b hb).symm
  ·obtain⟨a,b,c⟩:=hl.vs hC o;exact⟨⟨c,b⟩,a⟩
 ·obtain⟨k12,kne,kF,ki⟩:=hC.k12 ho;have hk3:F3 S.tt.k=2:=by
   rw[o3 _ k12 kne];exact hk2 ho
  obtain⟨F4,e4,s4,f4,b4,q4,z4,-⟩:=s3.fin ho k12 hk3 ki (fun i hi h8 k hk=>by
   show (s'.ch (4*(8*S.tt.k+i)+k)).is=false
   rw[hch,AI om]
   exact hC.er ho i hi h8 k hk)
  rw[AJ rfl,e4];refine⟨_,rfl,(s4.alk ⟨rfl,rfl,rfl,rfl,rfl,rfl,rfl,rfl,rfl,rfl,rfl,rfl,⟨rfl,rfl,rfl,rfl,rfl,rfl⟩⟩ (s4.wf.mv' _)),rfl,rfl,?_,?_,?_,fun b hb=>?_,n1,fun o=>?_,rfl,rfl,rfl,rfl,⟨rfl,rfl,rfl,rfl,rfl,rfl⟩,fun _=>rfl,fun e=>(by cases e)⟩
  ·exact(z4 S.fm hfm).1 z3
  ·show fre F4=_;rw[f4];show fre F3=_;rw[f3];have:fre F2=fre K.F:=f2;show fre F2+1=_;omega
  ·show bad3 F4=_;rw[b4];show bad3 F3=_;rw[b3];exact b2
  ·show F4 b=3<->K.F b=3;rw[<-q4 b hb];show F3 b=3<->K.F b=3;by_cases e:b=S.fm
   ·rw[e,z3];exact⟨fun e=>absurd e dc,fun e=>absurd e h3⟩
   ·rw[o3 b hb e];exact(q2 b hb).symm
  ·obtain⟨a,b,c⟩:=hl.vs hC o;exact⟨⟨c,b⟩,a⟩
end
section
variable (K:BC)
theorem Pd:RdB 0 K (clK K):=by
 unfold clK;split <;> exact RdB.same (fun _=>rfl) rfl
theorem Jw(b:Int):RdB 0 K (lvK K b):=by
 unfold lvK;split
 ·exact Pd K
 ·exact RdB.refl K
theorem gR(b s:Int):RdB 0 K (stK K b s):=RdB.same (fun _=>rfl) rfl
theorem gT(b:Int):RdB 0 K (spK K b):=(Jw K b).trans (RdB.same (fun _=>rfl) rfl)
theorem gU:RdB 0 K (opK K).1:=by
 unfold opK;split <;> exact RdB.same (fun _=>rfl) rfl
theorem Gu(t:Bu):RdB 0 K (layK K t).1:=RdB.same (fun _=>rfl) rfl
theorem Wk(S:BW)(o:Nat):RdB 0 K (tiK K S o).1:=by
 unfold tiK;split
 ·exact RdB.refl K
 ·split
  ·exact RdB.refl K
  ·exact RdB.same (fun _=>rfl) rfl
theorem gV(o:Nat):RdB 1 K (coK K o).1:=by
 unfold coK;split
 ·exact(RdB.refl K).mono om
 ·have:=Wa K (K.L o).toNat;generalize rdK K (K.L o).toNat=x at *
  dsimp only;split
  ·exact this
  ·split
   ·exact this
   ·split <;> exact this
theorem Wl(bd:Bool):∀(l:List Nat) (K:BC) (S:BW),RdB (2*l.length) K (cpK bd l K S).1:=by
 intro l
 induction l with
 | nil=>intro K S;exact RdB.refl K
 | cons o l ih=>
  intro K S;rw[cpK,An];split
  ·exact(ih K S).mono om
  ·have h1:=gV K o;generalize coK K o=c at *
   dsimp only;split
   ·exact h1.mono om
   ·have h2:=Wk c.1 S o;generalize tiK c.1 S o=t at *
    split
    ·exact(h1.trans h2).mono om
    ·have h3:=gQ t.1 ⟨t.2.2.1,o,t.1.vs o,(t.1.vc o+1) % 256,c.2.2.1⟩ c.2.1;generalize prM t.1 ⟨t.2.2.1,o,t.1.vs o,(t.1.vc o+1) % 256,c.2.2.1⟩ c.2.1=p at *
     split
     ·exact((h1.trans h2).trans h3).mono om
     ·exact(((h1.trans h2).trans h3).trans (ih p.1 _)).mono om
theorem gW:∀(l:List Bu) (K:BC),RdB 0 K (cmL l K).1:=by
 intro l
 induction l with
 | nil=>intro K;exact RdB.refl K
 | cons t l ih=>
  intro K;rw[cmL];split
  ·exact Gu K t
  ·exact(Gu K t).trans (ih _)
theorem Wm(S:BW)(st:Int):RdB 0 K (cmK K S st).1:=by
 unfold cmK;have h1:=gW S.ld K;generalize cmL S.ld K=x at *
 dsimp only;split
 ·exact h1
 ·have h2:=(h1.trans (Jw x.1 S.fm)).trans (gR (lvK x.1 S.fm) S.fm st);generalize stK (lvK x.1 S.fm) S.fm st=K1 at *
  split
  ·exact(h2.trans (Pd K1)).trans (RdB.same (fun _=>rfl) rfl)
  ·exact h2.trans (RdB.same (fun _=>rfl) rfl)
theorem Pe(H:Dp)(K:BC)(p o:Nat):RdB 1 K (frK H K p o).1:=by
 unfold frK;split
 ·exact(RdB.refl K).mono om
 ·have h1:RdB 0 K (sqK K):=RdB.same (fun _=>rfl) rfl;have h2:=Wb (sqK K) ⟨p,o,K.nx,0,false⟩ (H (sqK K) K.nx);generalize prK (sqK K) ⟨p,o,K.nx,0,false⟩ (H (sqK K) K.nx)=x at *
  dsimp only;split
  ·exact h1.trans h2
  ·split
   ·exact(h1.trans h2).trans (RdB.same (fun _=>rfl) rfl)
   ·exact h1.trans h2
theorem Pf(S:BW):RdB 1 K (cbK K S).1:=by
 unfold cbK;have h1:=Wk K S 24;generalize tiK K S 24=t at *
 dsimp only;split
 ·exact h1.mono om
 ·have h2:=Pe (bdH S.fm) t.1 t.2.2.1 24;generalize frK (bdH S.fm) t.1 t.2.2.1 24=f at *
  split
  ·exact h1.trans h2
  ·exact(h1.trans h2).trans (Wm f.1 _ 3)
theorem gX(S:BW):RdB (2*((AA.ofL K.L S.fm).map Int.toNat).length+1) K (tyK K S).1:=by
 unfold tyK;dsimp only;split
 ·exact(RdB.refl K).mono om
 ·have h1:=Wl (S.fd || (S.rt && bearK K)) ((AA.ofL K.L S.fm).map Int.toNat) K { S with tt:=noF,ld:=[] };generalize cpK (S.fd || (S.rt && bearK K)) ((AA.ofL K.L S.fm).map Int.toNat) K { S with tt:=noF,ld:=[] }=x at *
  split
  ·exact h1.mono om
  ·split
   ·exact h1.trans (Pf x.1 x.2.1)
   ·have h2:=Wc x.1 S.fm;generalize erK x.1 S.fm=e at *
    split
    ·exact((h1.trans h2).trans (Wm e.1 x.2.1 0)).mono om
    ·split
     ·exact(h1.trans h2).mono om
     ·have h3:=Jw e.1 S.fm;generalize lvK e.1 S.fm=K2 at *
      split
      ·exact((h1.trans h2).trans h3).mono om
      ·exact(((h1.trans h2).trans h3).trans (Pf K2 _)).mono om
end
theorem Wn{K K':BC}(hF:K'.F=K.F)(hfr:K'.fr=K.fr)(b:Int):lvK K' b={ K' with F:=(lvK K b).F,fr:=(lvK K b).fr }:=by
 unfold lvK clK;rw[hF,hfr];split
 ·split
  ·rfl
  ·rw[<-hF,<-hfr]
 ·rw[<-hF,<-hfr]
section
variable {K:BC}{G:BV}{X:Nat->Prop}{S:BW}
def nH (K:BC) (G:BV) (S:BW) (Z:BC × BW × Nat):Prop:=
 (Z.2.1.fm=S.fm/\Z.2.1.rt=S.rt/\Z.2.1.fd=S.fd)/\Z.1.nx=K.nx+1/\fre Z.1.F+(if S.tt.o=true then 0 else 1)=fre K.F /\
 (∀b,b<12->(K.F b≠0->Z.1.F b≠0)/\(b≠S.fm->(S.tt.o=true->b≠S.tt.k)->K.F b=2->Z.1.F b=2)) /\
 ((Z.2.2=0/\Z.1.s.on=true/\∃G',Sit Z.1 G' No/\Told Z.1 G'/\Z.1.F S.fm=3/\(∀o,o<25->Z.1.L o≠-1->(Z.1.L o).toNat / 8≠S.fm)/\Stp 1 1 K Z.1 G G'/\Z.1.dd=false/\Z.1.fr.o=true/\Z.1.fr.i=S.tt.i+1) \/
  (Z.2.2=8/\Z.1.s.on=true/\Sit Z.1 G (Xs Z.2.1)/\mB Z.1 Z.2.1/\Stp 1 0 K Z.1 G G/\Z.1.fr=K.fr/\Z.1.F S.fm=K.F S.fm/\Z.1.dd=K.dd/\(S.tt.o=true->Z.2.1.tt.k=S.tt.k)/\(S.tt.o=false->K.F Z.2.1.tt.k=0)) \/
  (Z.2.2=7/\Z.1.s.on=false/\Sit Z.1 G (Xs Z.2.1)/\Stp 1 0 K Z.1 G G))
theorem Jy(h:Sit K G (Xs S))(hC:Iy K G S)(hB:cS S)(hW:Ju K S)(hon:K.s.on=true)(hf:S.tt.o=false->1<=fre K.F)(h0:K.F S.fm≠0)(h3:K.F S.fm≠3)(hb2:bad3 K.F<2)(hnx:K.nx<DX):nH K G S (cbK K S):=by
 have hrd:=Pf K S;have hi:S.tt.i<8/\((24:Nat)=24\/S.tt.i<6):=⟨by rcases hB with b | ⟨_,b⟩ <;> omega,AK rfl⟩
 obtain⟨K2,k,eti,kee,hs2,htl2,hsp2,k12,kne,kF,ktt,h2,f2,n2,er2,al2,ldk,Fo,kz⟩:=L2 h hC hf h0 (o:=24) dc hi;have hp96:8*k+S.tt.i<96:=om
 have hpk:(8*k+S.tt.i) / 8=k:=om
 have hSp:Ic K2 (8*k+S.tt.i):=by
  refine⟨hp96,AL (by rw[hpk];exact kF),fun fo fk=>?_,er2 S.tt.i (AM _) hi.1⟩;have:=(h2.opn k k12).2 ⟨fo,by rw[fk,hpk]⟩;rw[kF] at this;exact absurd this dc
 have hC2:Iy K2 G { S with tt:=⟨true,k,S.tt.i⟩ }:=by
  refine⟨hC.fm,fun e=>(by cases e),fun _=>⟨k12,kne,kF,Nat.le_of_lt hi.1⟩,fun _=>n2,fun _=>er2,fun _=>al2,fun t ht=>?_,fun t ht=>?_,hC.ndo,hC.ndp⟩
  ·obtain⟨b1,b2,b3,b4,b5,b6,b7⟩:=hC.ld t ht;exact⟨b1,by rw[kee.L];exact b2,by rw[kee.L];exact b3,by rw[kee.vs];exact b4,by rw[kee.vc];exact b5,ldk t ht,b7⟩
  ·rw[hs2];exact hC.dt t ht
 have hFv:K2.F S.fm=K.F S.fm:=Fo S.fm hC.fm (fun e=>kne e.symm);have hXs:∀(j:Nat) (ld:List Bu),(fun b=>b=k)=Xs { S with tt:=⟨true,k,j⟩,ld:=ld }:=fun j ld=>by
  funext b;unfold Xs;simp
 have hnx2:K2.nx<DX:=by rw[kee.nx];exact hnx
 have hn1:=h2.wf.nx;obtain⟨s',r',R',wf3,hfr⟩:=Js h2.wf h2.sp hnx2 h2.rep (by rw[hs2];exact hon) hp96 (by decide:(24:Nat)<25) (AK rfl) hSp.er (bdH S.fm) (D:=AB.Ir { ckK { K2 with nx:=K2.nx+1 } K2.nx with B:=upd (ckK { K2 with nx:=K2.nx+1 } K2.nx).B S.fm true }) rfl (AB.Cn _) (AB.Ec _);have ecb:cbK K S=if (frK (bdH S.fm) K2 (8*k+S.tt.i) 24).2.2≠0 then ((frK (bdH S.fm) K2 (8*k+S.tt.i) 24).1,{ S with tt:=⟨true,k,S.tt.i+1⟩ },(frK (bdH S.fm) K2 (8*k+S.tt.i) 24).2.2) else ((cmK (frK (bdH S.fm) K2 (8*k+S.tt.i) 24).1 { S with tt:=⟨true,k,S.tt.i+1⟩,ld:=S.ld ++ [(frK (bdH S.fm) K2 (8*k+S.tt.i) 24).2.1] } 3).1,{ S with tt:=⟨true,k,S.tt.i+1⟩,ld:=S.ld ++ [(frK (bdH S.fm) K2 (8*k+S.tt.i) 24).2.1] },(cmK (frK (bdH S.fm) K2 (8*k+S.tt.i) 24).1 { S with tt:=⟨true,k,S.tt.i+1⟩,ld:=S.ld ++ [(frK (bdH S.fm) K2 (8*k+S.tt.i) 24).2.1] } 3).2):=by
  unfold cbK;rw[eti];dsimp only;rw[AI (show ¬ (0:Nat)≠0 by decide)]
 rw[ecb] at hrd ⊢;clear ecb;rcases hfr with ⟨ef,kd⟩ | ⟨ef,kn⟩ | ⟨ef,kn⟩
 ·rw[ef] at hrd ⊢;rw[AJ rfl] at hrd ⊢;dsimp only at hrd ⊢;rw[AI (show ¬ (0:Nat)≠0 by decide)] at hrd ⊢;obtain⟨s0,f0,b0,q0⟩:=h2.lv (S.fm:Nat);have far0:=L1 K2 S.fm;obtain⟨F0,fr0,e0⟩:=Jv K2 (S.fm:Nat);have hk0:(lvK K2 (S.fm:Nat)).F k=2:=by rw[Kw h2 _ (by rw[kF];decide)];exact kF
  have h30:(lvK K2 (S.fm:Nat)).F S.fm≠3:=fun e=>by rw[<-q0 S.fm hC.fm,hFv] at e;exact h3 e
  rw[e0] at s0 f0 b0 q0 far0 hk0 h30;have s0':Sit { K2 with F:=F0,fr:=fr0 } G (Xs { S with tt:=⟨true,k,S.tt.i⟩ }):=by
   have:=hXs S.tt.i S.ld;rw[this] at s0;exact s0
  have hC0:Iy { K2 with F:=F0,fr:=fr0 } G { S with tt:=⟨true,k,S.tt.i⟩ }:=⟨hC2.fm,hC2.no,fun _=>⟨k12,kne,hk0,Nat.le_of_lt hi.1⟩,hC2.none,hC2.er,hC2.all,hC2.ld,hC2.dt,hC2.ndo,hC2.ndp⟩;have hSp0:Ic { K2 with F:=F0,fr:=fr0 } (8*k+S.tt.i):=by
   refine⟨hp96,AL (by show F0 ((8*k+S.tt.i) / 8)=2;rw[hpk];exact hk0),fun fo fk=>?_,hSp.er⟩;have:=(s0.opn k k12).2 ⟨fo,by rw[fk,hpk]⟩;have hk0':F0 k=2:=hk0;have this':F0 k=1:=this;rw[hk0'] at this';exact absurd this' dc
  obtain⟨L',vs',vc',e1,hl⟩:=hC0.cml s0' (ntK { K2 with s:=s',r:=r',hR:=R',nx:=K2.nx+1 }) rfl rfl rfl;have hcB:∀b,b<12->((upd (ckK { K2 with nx:=K2.nx+1 } K2.nx).B S.fm true) b=true<->F0 b=3\/b=S.fm):=fun b hb=>by
   show (if b=S.fm then true else decide (K2.F b=3))=true<->_;have q:K2.F b=3<->F0 b=3:=q0 b hb;split
   ·rename_i e;simp[e]
   ·rename_i e;rw[decide_eq_true_iff,q];simp[e]
  have hq:1<=K2.nx/\K2.nx<=1099511627775:=hn1;have hck:=Dm (K:={ K2 with nx:=K2.nx+1 }) ⟨h2.wf.chip,h2.wf.rr,h2.wf.frm,h2.wf.map,h2.wf.vs,h2.wf.vp,h2.wf.vc,h2.wf.fl,wf3.nx,h2.wf.fr,h2.wf.cu,h2.wf.qu,h2.wf.hea,h2.wf.tl⟩ hq;have hcm:=s0'.cmb hC0 rfl (fun o ho hL e=>by
   have hL':K.L o≠-1:=by rw[<-kee.L];exact hL
   have e':(K.L o).toNat / 8=S.fm:=by rw[<-kee.L];exact e
   exact hW o ho hL' e') far0 h30 (by show bad3 F0<2;have:bad3 F0=bad3 K2.F:=b0;rw[this,kee.bd];exact hb2) (p:=8*k+S.tt.i) hpk kd hSp0 hcB (fun i _=>rfl) rfl rfl ⟨hck.F,hck.N,hck.C,hck.R,hck.S⟩ (r':=r') (R':=R') (N':=R') (by
    exact⟨wf3.chip,wf3.rr,s0.wf.frm,wf3.map,wf3.vs,wf3.vp,wf3.vc,wf3.fl,wf3.nx,s0.wf.fr,wf3.cu,wf3.qu,wf3.hea,wf3.tl⟩) (fun i hi=>⟨(wf3.hea i hi).1,(wf3.hea i hi).1,(wf3.hea i hi).2.2⟩) hl
  obtain⟨s5,n5,b5⟩:=hcm;have hown:∀o,o<25->L' o≠((8*k+S.tt.i:Nat):Int):=fun o ho e=>by
   by_cases e2:∃t ∈ S.ld,t.o=o
   ·obtain⟨t,ht,rfl⟩:=e2;rw[(hl.ld t ht).1] at e;obtain⟨D,d1,_⟩:=hC2.dt t ht;rw[show t.p=8*k+S.tt.i by omega,hSp.er.tab h2.rep] at d1;cases d1
   ·rw[(hl.no o (fun t ht e3=>e2 ⟨t,ht,e3⟩)).1] at e;exact hSp.free h2 o ho e
  have hlay:layK { ntK { K2 with s:=s',r:=r',hR:=R',nx:=K2.nx+1 } with L:=L',vs:=vs',vc:=vc' } ⟨8*k+S.tt.i,24,K2.nx,0,false⟩=({ K2 with s:=s',r:=r',hR:=R',hN:=R',ca:=0,nx:=K2.nx+1,L:=upd L' 24 (8*k+S.tt.i:Nat),vs:=upd vs' 24 K2.nx,vc:=upd vc' 24 0 },0):=by
   have hmay:AA.DV ((24:Nat):Int) ((8*k+S.tt.i:Nat):Int):=⟨⟨om,om⟩,⟨om,om⟩,AK rfl⟩;have hc:AA.setC L' ((24:Nat):Int) ((8*k+S.tt.i:Nat):Int)=0:=by
    unfold AA.setC;rw[AI (fun e=>e hmay),AI (by rw[Bv hown];simp)]
   have hLL:AA.setL L' ((24:Nat):Int) ((8*k+S.tt.i:Nat):Int)=upd L' 24 (8*k+S.tt.i:Nat):=(by unfold AA.setL;rw[AJ hc,AP]);unfold layK ntK;dsimp only;rw[hc,hLL]
  have hcml:cmL (S.ld ++ [⟨8*k+S.tt.i,24,K2.nx,0,false⟩]) (ntK { K2 with s:=s',r:=r',hR:=R',nx:=K2.nx+1 })=({ K2 with s:=s',r:=r',hR:=R',hN:=R',ca:=0,nx:=K2.nx+1,L:=upd L' 24 (8*k+S.tt.i:Nat),vs:=upd vs' 24 K2.nx,vc:=upd vc' 24 0 },0):=by
   rw[Wj e1,hlay]
  have hlvk:lvK { K2 with s:=s',r:=r',hR:=R',hN:=R',ca:=0,nx:=K2.nx+1,L:=upd L' 24 (8*k+S.tt.i:Nat),vs:=upd vs' 24 K2.nx,vc:=upd vc' 24 0 } (S.fm:Nat)={ K2 with s:=s',r:=r',hR:=R',hN:=R',ca:=0,nx:=K2.nx+1,L:=upd L' 24 (8*k+S.tt.i:Nat),vs:=upd vs' 24 K2.nx,vc:=upd vc' 24 0,F:=F0,fr:=fr0 }:=by
   have hlk:=Wn (K:=K2) (K':={ K2 with s:=s',r:=r',hR:=R',hN:=R',ca:=0,nx:=K2.nx+1,L:=upd L' 24 (8*k+S.tt.i:Nat),vs:=upd vs' 24 K2.nx,vc:=upd vc' 24 0 }) rfl rfl (S.fm:Nat);rw[e0] at hlk;exact hlk
  have hst:stK { K2 with s:=s',r:=r',hR:=R',hN:=R',ca:=0,nx:=K2.nx+1,L:=upd L' 24 (8*k+S.tt.i:Nat),vs:=upd vs' 24 K2.nx,vc:=upd vc' 24 0,F:=F0,fr:=fr0 } (S.fm:Nat) 3={ K2 with s:=s',r:=r',hR:=R',hN:=R',ca:=0,nx:=K2.nx+1,L:=upd L' 24 (8*k+S.tt.i:Nat),vs:=upd vs' 24 K2.nx,vc:=upd vc' 24 0,F:=upd F0 S.fm 3,fr:=fr0 }:=by
   unfold stK;rw[DG hC.fm dc (AL rfl)]
  have hk5:upd F0 S.fm 3 k=2:=by rw[BP _ _ kne];exact hk0
  obtain⟨F6,e6,s6,f6,b6,q6,z6,m6⟩:=s5.fin (tt:=⟨true,k,S.tt.i+1⟩) rfl k12 hk5 (by show S.tt.i+1<=8;omega) (fun i hi2 h8=>by
   have hi3:S.tt.i+1<=i:=hi2
   exact kd.oth.erd (by show 8*k+i≠8*k+S.tt.i;omega) (er2 i om h8))
  have ecm:cmK (ntK { K2 with s:=s',r:=r',hR:=R',nx:=K2.nx+1 }) { S with tt:=⟨true,k,S.tt.i+1⟩,ld:=S.ld ++ [⟨8*k+S.tt.i,24,K2.nx,0,false⟩] } 3=({ K2 with s:=s',r:=r',hR:=R',hN:=R',ca:=0,nx:=K2.nx+1,L:=upd L' 24 (8*k+S.tt.i:Nat),vs:=upd vs' 24 K2.nx,vc:=upd vc' 24 0,F:=F6,fr:=⟨true,k,S.tt.i+1⟩,mv:=wrap64 (K2.mv+(S.ld ++ [(⟨8*k+S.tt.i,24,K2.nx,0,false⟩:Bu)]).length) },0):=by
   unfold cmK;dsimp only;rw[hcml];dsimp only;rw[AI (show ¬ (0:Nat)≠0 by decide),hlvk,hst,AJ rfl,e6]
  rw[ecm] at hrd ⊢;clear ecm;refine⟨⟨rfl,rfl,rfl⟩,?_,?_,fun b hb=>⟨fun e=>?_,fun hv ht e=>?_⟩,AK ⟨rfl,kd.on,_,(s6.alk ⟨rfl,rfl,rfl,rfl,rfl,rfl,rfl,rfl,rfl,rfl,rfl,rfl,⟨rfl,rfl,rfl,rfl,rfl,rfl⟩⟩ (s6.wf.mv' _)),fun b hb e=>?_,?_,n5,?_,?_,rfl,rfl⟩⟩
  ·show K2.nx+1=K.nx+1;rw[kee.nx]
  ·show fre F6+_=_;rw[f6];have c0:=FJ F0 hC.fm 3;have g0:fre F0=fre K2.F:=f0;have hv0:F0 S.fm≠0:=by
    have:(lvK K2 (S.fm:Nat)).F S.fm≠0:=by
     unfold lvK;split
     ·cases eo:K2.fr.o
      ·rw[CM eo,hFv];exact h0
      ·rw[h2.clK_eq eo];show upd K2.F K2.fr.k 2 S.fm≠0;rcases BO K2.F K2.fr.k S.fm 2 with ⟨_,e⟩ | ⟨_,e⟩ <;> rw[e]
       ·decide
       ·rw[hFv];exact h0
     ·rw[hFv];exact h0
    rw[e0] at this;exact this
   rw[AI hv0,AI (show ¬ (3:Int)=0 by decide)] at c0;show fre (upd F0 S.fm 3)+_=_;omega
  ·show F6 b≠0;intro e9;have e10:upd F0 S.fm 3 b=0:=(z6 b hb).2 e9;have e11:=(kee.nf b hb).1 e;rcases BO F0 S.fm b 3 with ⟨_,x⟩ | ⟨_,x⟩ <;> rw[x] at e10
   ·exact absurd e10 dc
   ·have e12:(lvK K2 (S.fm:Nat)).F b=0:=(by rw[e0];exact e10);by_cases e13:K2.F b=1
    ·have:=(s0.opn b hb);unfold lvK at e12;split at e12
     ·cases eo:K2.fr.o
      ·rw[CM eo] at e12;exact e11 e12
      ·rw[h2.clK_eq eo] at e12;have e14:upd K2.F K2.fr.k 2 b=0:=e12;rcases BO K2.F K2.fr.k b 2 with ⟨_,y⟩ | ⟨_,y⟩ <;> rw[y] at e14
       ·exact absurd e14 dc
       ·exact e11 e14
     ·exact e11 e12
    ·rw[Kw h2 _ e13] at e12;exact e11 e12
  ·show F6 b=2;have hbk:b≠k:=fun x=>by
    cases eo:S.tt.o
    ·rw[eo,AI dc] at f2;subst x;have h9:=(h2.opn b hb);have:K.F b=0:=by
      cases e15:S.tt.o
      ·exact kz e15
      ·rw[eo] at e15;cases e15
     rw[e] at this;exact absurd this dc
    ·exact ht eo (x.trans (ktt eo))
   refine m6 b hb hbk ?_;show upd F0 S.fm 3 b=2;rw[BP _ _ hv];have:(lvK K2 (S.fm:Nat)).F b=2:=by rw[Kw h2 _ (by rw[(kee.nf b hb).2 e];decide)];exact(kee.nf b hb).2 e
   rw[e0] at this;exact this
  ·have e':F6 b=3:=e;have:=(q6 b hb).2 e';exact(hcB b hb).2 (by
    have h9:upd F0 S.fm 3 b=3:=this
    rcases BO F0 S.fm b 3 with ⟨x,_⟩ | ⟨_,x⟩
    ·
     exact AL x
    ·
     rw[x] at h9;exact AK h9)
  ·show F6 S.fm=3;exact(q6 S.fm hC.fm).1 (Be _ _ _)
  ·refine⟨rfl,rfl,kee.fl,fun o ho=>?_,fun _=>?_,fun o ho=>?_,kee.fx.trans ⟨rfl,rfl,rfl,rfl,rfl,rfl⟩,fun b hb e=>?_,?_,?_,hrd.mono om⟩
   ·show upd L' 24 (8*k+S.tt.i:Nat) o = -1<->K.L o = -1;rw[BP _ _ om];obtain⟨_,x,y⟩:=hl.vs hC0 o;have hLL:K2.L o=K.L o:=(by rw[kee.L]);rw[<-hLL];exact⟨y,x⟩
   ·show upd L' 24 (8*k+S.tt.i:Nat) 24≠-1;rw[Be];omega
   ·show upd vs' 24 K2.nx o=K.vs o;have:=(hl.vs hC0 o).1;unfold upd;rw[AI om,this,kee.vs]
   ·show F6 b=3;refine(q6 b hb).1 ?_;show upd F0 S.fm 3 b=3;rcases BO F0 S.fm b 3 with ⟨_,x⟩ | ⟨_,x⟩ <;> rw[x]
    exact(q0 b hb).1 ((kee.b3 b hb).1 e)
   ·show bad3 F6=_;rw[b6];show bad3 (upd F0 S.fm 3)=_;rw[b5];have:bad3 F0=bad3 K2.F:=b0;rw[this,kee.bd]
   ·show K.nx<=K2.nx+1;rw[kee.nx];omega
  ·show K2.dd=false;cases e:K2.dd
   ·rfl
   ·have:=h2.dds.1 e;rw[kee.bd] at this;omega
 ·rw[ef] at hrd ⊢;dsimp only at hrd ⊢;rw[AJ (show (8:Nat)≠0 by decide)] at hrd ⊢;have h4:=h2.pgn kn hSp (Nat.le_succ K2.nx) wf3;rw[hXs (S.tt.i+1) S.ld] at h4;refine⟨⟨rfl,rfl,rfl⟩,by show K2.nx+1=_;rw[kee.nx],?_,fun b hb=>⟨(kee.nf b hb).1,fun _ _=>(kee.nf b hb).2⟩,AL (AK ⟨rfl,kn.on,h4,⟨rfl,k12,kne,kF,n2⟩,?_,kee.fr,hFv,kee.dd,ktt,kz⟩)⟩
  ·show fre K2.F+_=_;exact f2
  ·exact⟨rfl,rfl,kee.fl,fun o _=>by show K2.L o = -1<->_;rw[kee.L],fun x=>by show K2.L 24≠-1;rw[kee.L];exact x,fun o _=>by show K2.vs o=_;rw[kee.vs],kee.fx.trans ⟨rfl,rfl,rfl,rfl,rfl,rfl⟩,fun b hb e=>(kee.b3 b hb).1 e,kee.bd,by show K.nx<=K2.nx+1;rw[kee.nx];omega,hrd.mono om⟩
 ·rw[ef] at hrd ⊢;dsimp only at hrd ⊢;rw[AJ (show (7:Nat)≠0 by decide)] at hrd ⊢;have h4:=h2.pgn kn hSp (Nat.le_succ K2.nx) wf3;rw[hXs (S.tt.i+1) S.ld] at h4;refine⟨⟨rfl,rfl,rfl⟩,by show K2.nx+1=_;rw[kee.nx],?_,fun b hb=>⟨(kee.nf b hb).1,fun _ _=>(kee.nf b hb).2⟩,AL (AL ⟨rfl,kn.on,h4,?_⟩)⟩
  ·show fre K2.F+_=_;exact f2
  ·exact⟨rfl,rfl,kee.fl,fun o _=>by show K2.L o = -1<->_;rw[kee.L],fun x=>by show K2.L 24≠-1;rw[kee.L];exact x,fun o _=>by show K2.vs o=_;rw[kee.vs],kee.fx.trans ⟨rfl,rfl,rfl,rfl,rfl,rfl⟩,fun b hb e=>(kee.b3 b hb).1 e,kee.bd,by show K.nx<=K2.nx+1;rw[kee.nx];omega,hrd.mono om⟩
end
section
variable {K K':BC}{G G':BV}
theorem Nj(h:K.sp=false)(hb:bad3 K.F<2):bearK K=true:=by
 unfold bearK;rw[h,AO hb];rfl
theorem L3(hb:¬ bad3 K.F<2):bearK K=false:=by
 unfold bearK;rw[AN hb];rfl
def Rm (j:Nat) (K:BC):Prop:=5+j<=fre K.F+2*bad3 K.F
structure nI (K K':BC) (G G':BV) (S:BW) (V n:Nat) (d:Nat):Prop where
 on:K'.s.on=true
 sit:Sit K' G' No
 told:Told K' G'
 st:K'.F V=0\/K'.F V=3
 none:∀o,o<25->K'.L o≠-1->(K'.L o).toNat / 8≠V
 stp:Stp 20 d K K' G G'
 nx:K'.nx<=K.nx+d
 dd:K'.dd=false
 rm:Rm 0 K'
 gc:d=0->(K'.fr.o=true/\K'.fr.i<=n)\/((K'.fr=K.fr\/K'.fr=noF)/\fre K'.F=fre K.F+1)
 nf:d≠0->∀b,b<12->(K.F b≠0->K'.F b≠0)/\(b≠V->K.F b=2->K'.F b=2)
 fd:S.fd=true->d≠0/\K'.fr.o=true/\K'.fr.i<=7
structure nJ (K K':BC) (G G':BV) (S':BW):Prop where
 on:K'.s.on=true
 sit:Sit K' G' (Xs S')
 hit:mB K' S'
 stp:Stp 20 0 K K' G G'
 nx:K'.nx<=K.nx+1
 dd:K'.dd=false
 fre:fre K'.F+1=fre K.F
 v0:K'.F S'.fm≠0
 v3:K'.F S'.fm≠3
 told:Told K' G'\/S'.fd=true
 nf:∀b,b<12->(K.F b≠0->K'.F b≠0)/\(K.F b=2->K'.F b=2)
 dk:K.F S'.tt.k=0
structure nK (K K':BC) (G G':BV) (S':BW):Prop where
 on:K'.s.on=true
 sit:Sit K' G' (Xs S')
 fd:S'.fd=true
 b2:bad3 K'.F=2
 stp:Stp 20 0 K K' G G'
 nx:K'.nx=K.nx
 v3:K'.F S'.fm≠3
 dd:K'.dd=false
structure nL (K K':BC) (G G':BV) (S':BW):Prop where
 off:K'.s.on=false
 sit:Sit K' G' (Xs S')
 stp:Stp 20 0 K K' G G'
 nx:K'.nx<=K.nx+1
def nM (K:BC) (G:BV) (S:BW) (n:Nat) (Z:BC × BW × Nat):Prop:=
 (Z.2.1.fm=S.fm/\Z.2.1.rt=S.rt/\(S.fd=true->Z.2.1.fd=true))/\∃G',
  (Z.2.2=0/\∃d,d<=1/\nI K Z.1 G G' S S.fm n d)\/(Z.2.2=8/\nJ K Z.1 G G' Z.2.1)\/(Z.2.2=14/\nK K Z.1 G G' Z.2.1)\/(Z.2.2=7/\nL K Z.1 G G' Z.2.1)
theorem Stp.of{m d n:Nat}(h:Stp m d K K' G G'){k:Nat}(hr:RdB k K K')(hk:k<=n):Stp n d K K' G G':=⟨h.a,h.z,h.fl,h.lv,h.l24,h.vs,h.fx,h.b3,h.bd,h.nx,hr.mono hk⟩
theorem Told.kee(h:Told K G)(hb:∀b,b<12->(K.F b=3<->K'.F b=3))(hc:G'.c=G.c):Told K' G':=fun b hb2 e=>by rw[hc];exact h b hb2 ((hb b hb2).2 e)
theorem Nk{S:BW}(h:Sit K G No)(hon:K.s.on=true)(hfm:S.fm<12)(h0:K.F S.fm≠0)(h3:K.F S.fm≠3)(hdd:K.dd=false)(hrm:Rm 0 K)(hT:Told K G\/S.fd=true)(hnx:K.nx<DX) :nM K G S ((AA.ofL K.L S.fm).length) (tyK K S):=by
 have hrd:=gX K S;have hlen:((AA.ofL K.L S.fm).map Int.toNat).length<=8:=by rw[A7];exact AA.CT K.L S.fm 8
 have hlen2:((AA.ofL K.L S.fm).map Int.toNat).length=(AA.ofL K.L S.fm).length:=A7 _;have hbd2:bad3 K.F<=2:=by
  have:¬ 2<bad3 K.F:=fun e=>by have:=h.dds.2 e;rw[hdd] at this;cases this
  omega
 have hfr1:1<=fre K.F:=by unfold Rm at hrm;omega
 obtain⟨o1,o2,o3⟩:=Ed h.wf.map S.fm;unfold tyK at hrd ⊢;dsimp only at hrd ⊢;by_cases hw:S.fd=true/\bearK K=false
 ·rw[AJ hw] at hrd ⊢;have hb:bad3 K.F=2:=by
   have:¬ bad3 K.F<2:=fun e=>by rw[Nj h.sp e] at hw;cases hw.2
   omega
  refine⟨⟨rfl,rfl,fun _=>hw.1⟩,G,AL (AL (AK ⟨rfl,⟨hon,h.mono (fun _ _ x=>x.elim),hw.1,hb,(Stp.refl K G).mono om,rfl,h3,hdd⟩⟩))⟩
 ·rw[AI hw] at hrd ⊢;have hS1:Sit K G (Xs { S with tt:=noF,ld:=[] }):=h.mono (fun _ _ x=>x.elim);have hC1:Iy K G { S with tt:=noF,ld:=[] }:=⟨hfm,fun _=>⟨rfl,rfl⟩,fun e=>(by cases e),fun e=>(by cases e),fun e=>(by cases e),fun e=>(by cases e),fun t ht=>(by cases ht),fun t ht=>(by cases ht),nodup_nil,nodup_nil⟩;have hD1:YW K { S with tt:=noF,ld:=[] } ((AA.ofL K.L S.fm).map Int.toNat):=⟨fun o ho=>⟨(o1 o ho).1,(o1 o ho).2.1,(o1 o ho).2.2,Ac _⟩,o2,fun o _ t ht=>(by cases ht)⟩;obtain⟨G1,hb,hx⟩:=Jt (S.fd || (S.rt && bearK K)) _ K G { S with tt:=noF,ld:=[] } hS1 hC1 hD1 (AK (Ac _)) hon (fun _=>hfr1) h0 (by show _+0<=25;omega);have hcp:=Wl (S.fd || (S.rt && bearK K)) ((AA.ofL K.L S.fm).map Int.toNat) K { S with tt:=noF,ld:=[] };generalize cpK (S.fd || (S.rt && bearK K)) ((AA.ofL K.L S.fm).map Int.toNat) K { S with tt:=noF,ld:=[] }=x at *
  obtain⟨K1,S1,c1⟩:=x;dsimp only at *
  obtain⟨sfm,srt,sfd⟩:=hb.sh;have sfm':S1.fm=S.fm:=sfm;have srt':S1.rt=S.rt:=srt;have sfd':S1.fd=S.fd:=sfd;have hstp1:Stp 16 0 K K1 G G1:=hb.kee.stp ⟨hb.gc.2.1,hb.gc.2.2⟩ hcp om;have hfre1:fre K1.F+(if S1.tt.o=true then 1 else 0)=fre K.F:=by
   have:=hb.fre;rw[this];rfl
  have hdd1:K1.dd=false:=by rw[hb.kee.dd];exact hdd
  have hF1:K1.F S1.fm=K.F S.fm:=by rw[sfm'];exact hb.fv
  have hdk:S1.tt.o=true->K.F S1.tt.k=0:=fun eo=>hb.dk (by rfl) eo;rcases hx with ⟨rfl,on1,hC,hB,hi,hall,_,hback⟩ | ⟨rfl,on1,hit⟩ | ⟨rfl,off1⟩
  ·rw[AI (show ¬ (0:Nat)≠0 by decide)] at hrd ⊢;have hsit1:=hb.sit;have hf1:S1.tt.o=false->1<=fre K1.F:=fun e=>by rw[e,AI dc] at hfre1;omega
   have hnx1:K1.nx<DX:=(by rw[hb.kee.nx];exact hnx);have hb1:bad3 K1.F=bad3 K.F:=hb.kee.bd;have hD9:S1.tt.o=true->∀b,K.F b=2->b≠S1.tt.k:=fun eo b e x=>by
    have:=hdk eo;rw[<-x,e] at this;exact absurd this dc
   have hDz:∀k,k<12->(S1.tt.o=true->k=S1.tt.k)->(S1.tt.o=false->K1.F k=0)->K.F k=0:=fun k hk k1 k0=>by
    cases eo:S1.tt.o
    ·by_cases e9:K.F k=0
     ·exact e9
     ·exact absurd (k0 eo) ((hb.kee.nf k hk).1 e9)
    ·rw[k1 eo];exact hdk eo
   have hW':Ju K1 S1:=fun o ho hL e=>by
    have hL':K.L o≠-1:=(by rw[<-hb.kee.L];exact hL);have e':(K.L o).toNat / 8=S.fm:=(by rw[<-hb.kee.L,<-sfm'];exact e);rcases hall o (o3 o om hL' e') with ⟨_,e2⟩ | t
    ·omega
    ·exact t
   by_cases hbd:(S.fd || (S.rt && bearK K))=true
   ·rw[AJ hbd] at hrd ⊢;have hb2:bad3 K.F<2:=by
     by_cases e:bad3 K.F<2
     ·exact e
     ·rw[L3 e] at hbd hw;cases hf:S.fd
      ·rw[hf] at hbd;simp at hbd
      ·exact absurd ⟨hf,rfl⟩ hw
    obtain⟨⟨z1,z2,z3⟩,znx,zf,znf,zx⟩:=Jy hsit1 hC hB hW' on1 hf1 (by rw[hF1];exact h0) (by rw[hF1];exact h3) (by rw[hb1];exact hb2) hnx1;generalize cbK K1 S1=Z at *
    have hfreZ:fre Z.1.F+1=fre K.F:=by
     by_cases e:S1.tt.o=true
     ·rw[AJ e] at zf hfre1;omega
     ·rw[AI e] at zf hfre1;omega
    refine⟨⟨z1.trans sfm',z2.trans srt',fun e=>z3.trans (sfd'.trans e)⟩,?_⟩;rcases zx with ⟨e0,zon,G',zs,zt,zF,zn,zst,zdd,zfo,zfi⟩ | ⟨e8,zon,zs,zh,zst,zfr,zF,zdd,zk1,zk0⟩ | ⟨e7,zon,zs,zst⟩
    ·refine⟨G',AK ⟨e0,1,AM _,⟨zon,zs,zt,AL (by rw[<-sfm'];exact zF),by rw[<-sfm'];exact zn,?_,?_,zdd,?_,fun e=>(by cases e),fun _ b hb9=>⟨fun e=>(znf b hb9).1 ((hb.kee.nf b hb9).1 e),fun hv e=>(znf b hb9).2 (by rw[sfm'];exact hv) (fun eo=>hD9 eo b e) ((hb.kee.nf b hb9).2 e)⟩,fun _=>⟨dc,zfo,?_⟩⟩⟩⟩
     ·have:=hstp1.trans zst;exact this.of hrd om
     ·rw[znx,hb.kee.nx];exact AM _
     ·have:=(hstp1.trans zst).bd;unfold Rm at hrm ⊢;omega
     ·rw[zfi];rcases hB with b | ⟨⟨t,ht,b⟩,_⟩
      ·omega
      ·exfalso;rcases hback t ht with c | ⟨_,c⟩
       ·cases c
       ·exact c ⟨hbd,b⟩
    ·refine⟨G1,AL (AK ⟨e8,⟨zon,zs,zh,?_,?_,by rw[zdd];exact hdd1,hfreZ,?_,?_,?_,fun b hb9=>⟨fun e=>(znf b hb9).1 ((hb.kee.nf b hb9).1 e),fun e=>?_⟩,?_⟩⟩)⟩
     ·exact(hstp1.trans zst).of hrd om
     ·rw[znx,hb.kee.nx];exact AM _
     ·rw[z1,zF,hF1];exact h0
     ·rw[z1,zF,hF1];exact h3
     ·rcases hT with t | t
      ·left;refine fun b hb2 e=>?_;rw[hb.gc.1];refine t b hb2 ?_;by_cases e9:K.F b=3
       ·exact e9
       ·exfalso;have hbz:=(hstp1.trans zst).bd;have hle:AD.cnt K.F 3 12<AD.cnt Z.1.F 3 12:=by
         have key:∀n,n<=12->AD.cnt K.F 3 n+(if b<n then 1 else 0)<=AD.cnt Z.1.F 3 n:=by
          intro n
          induction n with
          | zero=>intro _;simp[AD.cnt]
          | succ n ih=>
           intro hn;have i1:=ih om;unfold AD.cnt;by_cases en:n=b
           ·subst en;rw[AI e9,AJ e,AJ om];rw[AI om] at i1;omega
           ·by_cases e3:K.F n=3
            ·rw[AJ e3,AJ ((hstp1.trans zst).b3 n om e3)];by_cases el:b<n
             ·rw[AJ el] at i1;rw[AJ om];omega
             ·rw[AI el] at i1;rw[AI om];omega
            ·rw[AI e3];by_cases el:b<n
             ·rw[AJ el] at i1;rw[AJ om];split <;> omega
             ·rw[AI el] at i1;rw[AI om];split <;> omega
         have:=key 12 (AM _);rw[AJ hb2] at this;omega
        unfold bad3 at hbz;omega
      ·exact AL (z3.trans (sfd'.trans t))
     ·by_cases ev:b=S1.fm
      ·rw[ev,zF];exact(hb.kee.nf _ hC.fm).2 (ev ▸ e)
      ·exact(znf b hb9).2 ev (fun eo=>hD9 eo b e) ((hb.kee.nf b hb9).2 e)
     ·exact hDz Z.2.1.tt.k zh.k zk1 zk0
    ·refine⟨G1,AL (AL (AL ⟨e7,⟨zon,zs,(hstp1.trans zst).of hrd om,by rw[znx,hb.kee.nx];exact AM _⟩⟩))⟩
   ·rw[AI hbd] at hrd ⊢;have hfd:S.fd=false:=by
     cases e:S.fd
     ·rfl
     ·rw[e] at hbd;simp at hbd
    have hTK:Told K G:=hT.resolve_right (by rw[hfd];decide);have hT1:Told K1 G1:=hTK.kee hb.kee.b3 hb.gc.1;have hW:Wi K1 S1:=fun o ho hL e=>by
     have hL':K.L o≠-1:=(by rw[<-hb.kee.L];exact hL);have e':(K.L o).toNat / 8=S.fm:=(by rw[<-hb.kee.L,<-sfm'];exact e);rcases hall o (o3 o ho hL' e') with ⟨e2,_⟩ | t
     ·exact absurd e2 hbd
     ·exact t
    have her:=Wc K1 S.fm;rcases We hsit1.wf hfm on1 with ⟨e0,s',R',N',eK,wf',on',hch⟩ | ⟨e8,s',eK,wf',on',hch⟩ | ⟨e7,s',eK,wf',on',hch⟩
    ·rw[AJ e0] at hrd ⊢;rw[<-sfm'] at eK hch hrd ⊢;obtain⟨K',ec,sK,ks,khR,kF,kf,kb,kb3,kn,kl,kfl,knx,kdd,kca,kfx,kfr1,kfr0⟩:=TB hsit1 hC hW hT1 (by rw[hF1];exact h3) (by rw[hF1];exact h0) wf' hch;rw[eK] at hrd ⊢;rw[ec] at hrd ⊢;have hst:Stp 20 0 K K' G { G1 with T:=clrT G1.T S1.fm }:=by
      refine⟨hb.gc.2.1,hb.gc.2.2,kfl.trans hb.kee.fl,fun o _=>by rw[(kl o).1,hb.kee.L],fun x=>fun e=>by rw[(kl 24).1,hb.kee.L] at e;exact x e,fun o _=>by rw[(kl o).2,hb.kee.vs],hb.kee.fx.trans kfx,fun b hb2 e=>(kb3 b hb2).2 ((hb.kee.b3 b hb2).1 e),kb.trans hb1,by rw[knx,hb.kee.nx];exact AM _,hrd.mono (by rw[sfm'] at *;omega)⟩
     refine⟨⟨sfm',srt',fun e=>by rw[hfd] at e;cases e⟩,_,AK ⟨rfl,0,Ac _,⟨by rw[ks];exact on',sK,?_,AK (by rw[<-sfm'];exact kF),by rw[<-sfm'];exact kn,hst,?_,kdd.trans hdd1,?_,fun _=>?_,fun e=>absurd rfl e,fun e=>by rw[hfd] at e;cases e⟩⟩⟩
     ·exact hT1.kee (fun b hb2=>(kb3 b hb2).symm) rfl
     ·rw[knx,hb.kee.nx];exact AM _
     ·show 5+0<=fre K'.F+2*bad3 K'.F;unfold Rm at hrm;split at hfre1 <;> omega
     ·cases eo:S1.tt.o
      ·right;refine⟨?_,?_⟩
       ·rw[<-hb.kee.fr];exact kfr0 eo
       ·rw[eo,AI dc] at hfre1;show fre K'.F=fre K.F+1;omega
      ·left;rw[kfr1 eo];refine⟨eo,?_⟩;have hi':S1.tt.i<=0+_:=hi;rw[sfm'];omega
    ·rw[AI (by rw[e8];decide),e8] at hrd ⊢;rw[AI (show ¬ (8:Nat)≠8 by decide)] at hrd ⊢;rw[eK] at hrd her ⊢;have alk:WW K1 { K1 with s:=s' }:=⟨hch,rfl,rfl,rfl,rfl,rfl,rfl,rfl,rfl,rfl,rfl,rfl,⟨rfl,rfl,rfl,rfl,rfl,rfl⟩⟩;have s3:=hsit1.alk alk wf';have C3:=hC.alk alk;obtain⟨s4,f4,b4,q4⟩:=s3.lv (S.fm:Nat);obtain⟨F4,fr4,e4⟩:=Jv { K1 with s:=s' } (S.fm:Nat);have hk4:S1.tt.o=true->(lvK { K1 with s:=s' } (S.fm:Nat)).F S1.tt.k=2:=fun ho=>by
      rw[Kw s3 _ (by show K1.F S1.tt.k≠1;rw[(hC.k12 ho).2.2.1];decide)];exact(hC.k12 ho).2.2.1
     have hv0:(lvK { K1 with s:=s' } (S.fm:Nat)).F S.fm≠0:=by
      have hz:K1.F S.fm≠0:=(by rw[<-sfm',hF1];exact h0);unfold lvK;split
      ·cases eo:K1.fr.o
       ·rw[CM (by exact eo)];exact hz
       ·rw[s3.clK_eq (by exact eo)];show upd K1.F K1.fr.k 2 S.fm≠0;rcases BO K1.F K1.fr.k S.fm 2 with ⟨_,e⟩ | ⟨_,e⟩ <;> rw[e]
        ·decide
        ·exact hz
      ·exact hz
     have hv3:(lvK { K1 with s:=s' } (S.fm:Nat)).F S.fm≠3:=fun e=>by
      have h9:K1.F S.fm=3:=(q4 S.fm hfm).2 e;rw[<-sfm',hF1] at h9;exact h3 h9
     have hlrd:=Jw { K1 with s:=s' } (S.fm:Nat);have hF4:∀b,b<12->K1.F b≠0->(lvK { K1 with s:=s' } (S.fm:Nat)).F b≠0:=fun b _ hz=>by
      unfold lvK;split
      ·cases eo:K1.fr.o
       ·rw[CM (by exact eo)];exact hz
       ·rw[s3.clK_eq (by exact eo)];show upd K1.F K1.fr.k 2 b≠0;rcases BO K1.F K1.fr.k b 2 with ⟨_,e⟩ | ⟨_,e⟩ <;> rw[e]
        ·decide
        ·exact hz
      ·exact hz
     have hF42:∀b,K1.F b=2->(lvK { K1 with s:=s' } (S.fm:Nat)).F b=2:=fun b hz=>by
      rw[Kw s3 _ (by show K1.F b≠1;rw[hz];decide)];exact hz
     rw[e4] at s4 f4 b4 q4 hk4 hv0 hv3 hrd hlrd hF4 hF42 ⊢;have f4':fre F4=fre K1.F:=f4;have b4':bad3 F4=bad3 K1.F:=b4;have hst4:Stp 20 0 K { K1 with s:=s',F:=F4,fr:=fr4 } G G1:=by
      refine⟨hstp1.a,hstp1.z,hstp1.fl,hstp1.lv,hstp1.l24,hstp1.vs,hb.kee.fx.trans ⟨rfl,rfl,rfl,rfl,rfl,rfl⟩,fun b hb2 e=>(q4 b hb2).1 ((hb.kee.b3 b hb2).1 e),by show bad3 F4=bad3 K.F+0;omega,hstp1.nx,((hcp.trans her).trans hlrd).mono om⟩
     by_cases hbear:bearK { K1 with s:=s',F:=F4,fr:=fr4 }=false
     ·rw[AJ hbear] at hrd ⊢;have hb2:bad3 F4=2:=by
       have:¬ bad3 F4<2:=fun e=>by
        rw[Nj (K:={ K1 with s:=s',F:=F4,fr:=fr4 }) hsit1.sp e] at hbear;cases hbear
       omega
      refine⟨⟨sfm',srt',fun _=>rfl⟩,G1,AL (AL (AK ⟨rfl,⟨on',?_,rfl,hb2,hst4,?_,?_,hdd1⟩⟩))⟩
      ·exact s4
      ·show K1.nx=K.nx;exact hb.kee.nx
      ·show F4 S1.fm≠3;rw[sfm'];exact hv3
     ·rw[AI hbear] at hrd ⊢;have hb2:bad3 F4<2:=by
       by_cases e:bad3 F4<2
       ·exact e
       ·exact absurd (L3 (K:={ K1 with s:=s',F:=F4,fr:=fr4 }) e) hbear
      have C4:Iy { K1 with s:=s',F:=F4,fr:=fr4 } G1 { S1 with fd:=true }:=⟨C3.fm,C3.no,fun e=>⟨(C3.k12 e).1,(C3.k12 e).2.1,hk4 e,(C3.k12 e).2.2.2⟩,C3.none,C3.er,C3.all,C3.ld,C3.dt,C3.ndo,C3.ndp⟩;obtain⟨⟨z1,z2,z3⟩,znx,zf,znf,zx⟩:=Jy (K:={ K1 with s:=s',F:=F4,fr:=fr4 }) (S:={ S1 with fd:=true }) s4 C4 hB hW' on' (fun e=>by rw[f4'];exact hf1 e) (by show F4 S1.fm≠0;rw[sfm'];exact hv0) (by show F4 S1.fm≠3;rw[sfm'];exact hv3) hb2 hnx1;generalize cbK { K1 with s:=s',F:=F4,fr:=fr4 } { S1 with fd:=true }=Z at *
      have zf':fre Z.1.F+(if S1.tt.o=true then 0 else 1)=fre F4:=zf;have hfreZ:fre Z.1.F+1=fre K.F:=by
       by_cases e:S1.tt.o=true
       ·rw[AJ e] at zf' hfre1;omega
       ·rw[AI e] at zf' hfre1;omega
      have znx':Z.1.nx=K.nx+1:=(by rw[znx];show K1.nx+1=_;rw[hb.kee.nx]);have z1':Z.2.1.fm=S1.fm:=z1;refine⟨⟨z1'.trans sfm',z2.trans srt',fun _=>z3⟩,?_⟩;rcases zx with ⟨e0,zon,G',zs,zt,zF,zn,zst,zdd,zfo,zfi⟩ | ⟨e8',zon,zs,zh,zst,zfr,zF,zdd,zk1,zk0⟩ | ⟨e7,zon,zs,zst⟩
      ·have zF':Z.1.F S1.fm=3:=zF;have zn':∀o,o<25->Z.1.L o≠-1->(Z.1.L o).toNat / 8≠S1.fm:=zn;refine⟨G',AK ⟨e0,1,AM _,⟨zon,zs,zt,AL (by rw[<-sfm'];exact zF'),by rw[<-sfm'];exact zn',(hst4.trans zst).of hrd om,by rw[znx'];exact AM _,zdd,?_,fun e=>(by cases e),fun _ b hb9=>⟨fun e=>(znf b hb9).1 (hF4 b hb9 ((hb.kee.nf b hb9).1 e)),fun hv e=>(znf b hb9).2 (by show b≠S1.fm;rw[sfm'];exact hv) (fun eo=>hD9 eo b e) (hF42 b ((hb.kee.nf b hb9).2 e))⟩,fun e=>by rw[hfd] at e;cases e⟩⟩⟩;have:=(hst4.trans zst).bd;unfold Rm at hrm ⊢;omega
      ·have zF':Z.1.F S1.fm=F4 S1.fm:=zF;refine⟨G1,AL (AK ⟨e8',⟨zon,zs,zh,(hst4.trans zst).of hrd om,by rw[znx'];exact AM _,zdd.trans hdd1,hfreZ,?_,?_,AL z3,fun b hb9=>⟨fun e=>(znf b hb9).1 (hF4 b hb9 ((hb.kee.nf b hb9).1 e)),fun e=>?_⟩,?_⟩⟩)⟩
       ·rw[z1',zF',sfm'];exact hv0
       ·rw[z1',zF',sfm'];exact hv3
       ·by_cases ev:b=S1.fm
        ·rw[ev,zF'];exact hF42 _ ((hb.kee.nf _ hC.fm).2 (ev ▸ e))
        ·exact(znf b hb9).2 ev (fun eo=>hD9 eo b e) (hF42 b ((hb.kee.nf b hb9).2 e))
       ·refine hDz Z.2.1.tt.k zh.k zk1 (fun eo=>?_);have h9:F4 Z.2.1.tt.k=0:=zk0 eo;by_cases e9:K1.F Z.2.1.tt.k=0
        ·exact e9
        ·exact absurd h9 (hF4 _ zh.k e9)
      ·exact⟨G1,AL (AL (AL ⟨e7,⟨zon,zs,(hst4.trans zst).of hrd om,by rw[znx'];exact AM _⟩⟩))⟩
    ·rw[AI (by rw[e7];decide),e7] at hrd ⊢;rw[AJ (show (7:Nat)≠8 by decide)] at hrd ⊢;rw[eK] at hrd ⊢;have alk:WW K1 { K1 with s:=s' }:=⟨hch,rfl,rfl,rfl,rfl,rfl,rfl,rfl,rfl,rfl,rfl,rfl,⟨rfl,rfl,rfl,rfl,rfl,rfl⟩⟩;refine⟨⟨sfm',srt',fun e=>sfd'.trans e⟩,G1,AL (AL (AL ⟨rfl,⟨on',hsit1.alk alk wf',?_,?_⟩⟩))⟩
     ·exact⟨hstp1.a,hstp1.z,hstp1.fl,hstp1.lv,hstp1.l24,hstp1.vs,hb.kee.fx.trans ⟨rfl,rfl,rfl,rfl,rfl,rfl⟩,hstp1.b3,hstp1.bd,hstp1.nx,hrd.mono om⟩
     ·show K1.nx<=K.nx+1;have:=hb.kee.nx;omega
  ·rw[AJ (show (8:Nat)≠0 by decide)] at hrd ⊢;refine⟨⟨sfm',srt',fun e=>sfd'.trans e⟩,G1,AL (AK ⟨rfl,⟨on1,hb.sit,hit,hstp1.mono om,by rw[hb.kee.nx];omega,hdd1,?_,by rw[hF1];exact h0,by rw[hF1];exact h3,?_,hb.kee.nf,hdk hit.o⟩⟩)⟩
   ·rw[hit.o,AJ rfl] at hfre1;exact hfre1
   ·exact hT.imp (fun t=>t.kee hb.kee.b3 hb.gc.1) (fun t=>sfd'.trans t)
  ·rw[AJ (show (7:Nat)≠0 by decide)] at hrd ⊢;exact⟨⟨sfm',srt',fun e=>sfd'.trans e⟩,G1,AL (AL (AL ⟨rfl,⟨off1,hb.sit,hstp1.mono om,by rw[hb.kee.nx];omega⟩⟩))⟩
end
section
variable {b:Nat}{K:BC}{G:BV}{X:Nat->Prop}
def Nf (K K':BC):Prop:=∀b,b<12->(K.F b≠0->K'.F b≠0)/\(K.F b=2->K'.F b=2)
theorem Nf.refl(K:BC):Nf K K:=fun _ _=>⟨id,id⟩
theorem Nf.trans{K' K'':BC}(h:Nf K K')(k:Nf K' K''):Nf K K'':=fun b hb=>⟨fun e=>(k b hb).1 ((h b hb).1 e),fun e=>(k b hb).2 ((h b hb).2 e)⟩
def Sq (j:Nat) (K:BC):Prop:=K.nx+32+j<=DX+8*bad3 K.F
def wM (b:Nat):Nat:=200*4 ^ (3 - b)
theorem Jz(b:Nat):200<=wM b:=by
 unfold wM;have:0<4 ^ (3 - b):=Nat.pow_pos dc;omega
theorem D2{c:Nat}(h:b<=c):wM c<=wM b:=by
 unfold wM;exact Nat.mul_le_mul_left 200 (Nat.pow_le_pow_right dc om)
theorem L4(h:b<=2):wM b=4*wM (b+1):=by
 rcases(by omega:b=0\/b=1\/b=2) with rfl | rfl | rfl <;> rfl
def nN (K:BC) (G:BV) (Z:BC × Nat):Prop:=∃G' X' d,Sit Z.1 G' X'/\Stp (2*wM (bad3 K.F)) d K Z.1 G G' /\
 ((Z.2=0/\Z.1.s.on=true/\(∀b,¬ X' b)/\Told Z.1 G'/\Rm 0 Z.1/\Z.1.dd=false/\Z.1.nx<=K.nx+1+8*d/\Nf K Z.1) \/
  (Z.2=14/\Z.1.s.on=true/\Z.1.dd=true/\Z.1.nx<=K.nx+1+8*d) \/
  (Z.2=7/\Z.1.s.on=false/\Z.1.nx<=K.nx+2+8*d))
def aQ (te:FF) (b0:Nat):Prop:=∀K G,Sit K G No->K.s.on=true->b0<=bad3 K.F->(K.dd=false->Rm 1 K)->Sq 1 K->∃Z,te K=some Z/\nN K G Z
theorem gY(K:BC)(b:Int):∃F' fr' d',spK K b={ K with F:=F',fr:=fr',dd:=d' }:=by
 obtain⟨F',fr',e⟩:=Jv K b;unfold spK stK;rw[e];exact⟨_,_,_,rfl⟩
theorem gZ(h:Sit K G X)(hb:b<12){x:Nat}(hx:x≠b):(K.F x≠0->(spK K b).F x≠0)/\(K.F x=2->(spK K b).F x=2):=by
 have e:(spK K b).F x=(lvK K b).F x:=by
  show AD.setF (lvK K b).F b 3 x=_;rw[DG hb dc (AL rfl),BP _ _ hx]
 rw[e];unfold lvK;split
 ·cases eo:K.fr.o
  ·rw[CM eo];exact⟨id,id⟩
  ·rw[h.clK_eq eo];show (K.F x≠0->upd K.F K.fr.k 2 x≠0)/\(K.F x=2->upd K.F K.fr.k 2 x=2);rcases BO K.F K.fr.k x 2 with ⟨_,e⟩ | ⟨_,e⟩ <;> rw[e]
   ·exact⟨fun _=>dc,fun _=>rfl⟩
   ·exact⟨id,id⟩
 ·exact⟨id,id⟩
theorem Sit.spoS{Y:Nat->Prop}(h:Sit K G X)(hb:b<12)(h3:K.F b≠3)(hl:(∀o,o<25->K.L o≠-1->(K.L o).toNat / 8≠b)\/2<=bad3 K.F)(hY:∀x,x<12->X x->x=b\/Y x):Sit (spK K b) G Y/\Stp 0 1 K (spK K b) G G/\(spK K b).nx=K.nx/\(spK K b).s=K.s/\RdB 0 K (spK K b):=by
 obtain⟨s1,b1,-,q1,-,-⟩:=h.spo hb h3 hl hY;have hr:=gT K (b:Nat);obtain⟨F',fr',d',e⟩:=gY K (b:Nat);rw[e] at s1 b1 q1 hr ⊢;exact⟨s1,⟨rfl,rfl,rfl,fun _ _=>Iff.rfl,id,fun _ _=>rfl,⟨rfl,rfl,rfl,rfl,rfl,rfl⟩,fun x hx e2=>(q1 x hx).2 (AK e2),b1,AM _,hr⟩,rfl,rfl,hr⟩
structure jU (K K':BC) (G G':BV) (S:BW) (V n:Nat) (d:Nat):Prop where
 on:K'.s.on=true
 sit:Sit K' G' No
 told:Told K' G'
 st:K'.F V=0\/K'.F V=3
 none:∀o,o<25->K'.L o≠-1->(K'.L o).toNat / 8≠V
 stp:Stp (wM (bad3 K.F)) d K K' G G'
 nx:(d=0/\K'.nx=K.nx)\/K'.nx+1<=K.nx+8*d
 dd:K'.dd=false
 rm:Rm 0 K'
 gc:d=0->K.F V≠3->(K'.fr.o=true/\K'.fr.i<=n)\/((K'.fr=K.fr\/K'.fr=noF)/\fre K'.F=fre K.F+1)
 fd:S.fd=true->K.F V=2->d≠0/\K'.fr.o=true/\K'.fr.i<=7/\∀b,b<12->(K.F b≠0->K'.F b≠0)/\(b≠V->K.F b=2->K'.F b=2)
structure mj (K K':BC) (G G':BV) (S':BW) (X':Nat->Prop) (d:Nat):Prop where
 on:K'.s.on=true
 sit:Sit K' G' X'
 w:K'.dd=true\/(S'.fd=true/\bad3 K'.F=2/\K'.F S'.fm≠3)
 stp:Stp (wM (bad3 K.F)) d K K' G G'
 nx:K'.nx<=K.nx+8*d
structure mC (K K':BC) (G G':BV) (X':Nat->Prop) (d:Nat):Prop where
 off:K'.s.on=false
 sit:Sit K' G' X'
 stp:Stp (wM (bad3 K.F)) d K K' G G'
 nx:K'.nx<=K.nx+1+8*d
def nO (K:BC) (G:BV) (S:BW) (n:Nat) (Z:BC × BW × Nat):Prop:=
 Z.2.1.fm=S.fm/\(S.fd=true->Z.2.1.fd=true)/\∃G' X' d,(Z.2.2=0/\jU K Z.1 G G' S S.fm n d)\/(Z.2.2=14/\mj K Z.1 G G' Z.2.1 X' d)\/(Z.2.2=7/\mC K Z.1 G G' X' d)
theorem L6(hb:b<12):Lf K (b:Nat)=decide (K.F b=3):=by
 unfold Lf AD.getC AD.getV;rw[AI om,AI om,AP];simp
theorem Nl{te:FF}{b0:Nat}(hte:aQ te b0):∀(n:Nat) (K:BC) (G:BV) (S:BW),Sit K G No->K.s.on=true->S.fm<12->K.F S.fm≠0->K.dd=false->Rm 0 K->(Told K G\/(S.fd=true/\K.F S.fm≠3))->Sq 0 K->4<=n+bad3 K.F->b0<=bad3 K.F+1->∃Z,trK te n K S=some Z/\nO K G S ((AA.ofL K.L S.fm).length) Z:=by
 intro n
 induction n with
 | zero=>
  intro K G S h _ _ _ hdd _ _ _ hn _;have:¬ 2<bad3 K.F:=fun e=>by have:=h.dds.2 e;rw[hdd] at this;cases this
  omega
 | succ n ih=>
  intro K G S h hon hfm h0 hdd hrm hT hsq hn hb0;have hbd2:bad3 K.F<=2:=by
   have:¬ 2<bad3 K.F:=fun e=>by have:=h.dds.2 e;rw[hdd] at this;cases this
   omega
  have wp:=Jz (bad3 K.F);have ws:=L4 hbd2;rw[Nc,L6 hfm];by_cases h3:K.F S.fm=3
  ·rw[AO h3,AJ rfl];have hTK:Told K G:=hT.elim id (fun x=>absurd h3 x.2);have hnone:∀o,o<25->K.L o≠-1->(K.L o).toNat / 8≠S.fm:=fun o ho hL e=>by
    have:=(h.blk o ho hL).2;rw[e] at this;rw[this h3] at hdd;cases hdd
   exact⟨_,rfl,rfl,id,G,No,0,AK ⟨rfl,⟨hon,h,hTK,AL h3,hnone,(Stp.refl K G).mono om,AK ⟨rfl,rfl⟩,hdd,hrm,fun _ e=>absurd h3 e,fun _ e=>by rw[h3] at e;exact absurd e dc⟩⟩⟩
  ·rw[AN h3,AI dc];have hnx:K.nx<DX:=(by unfold Sq at hsq;omega);obtain⟨⟨zf,zr,zd⟩,G1,hty⟩:=Nk h hon hfm h0 h3 hdd hrm (hT.imp id (fun x=>x.1)) hnx;generalize tyK K S=X at *
   rcases hty with ⟨e0,d,hd,D⟩ | ⟨e8,F⟩ | ⟨e14,W⟩ | ⟨e7,C⟩
   ·rw[AJ (by rw[e0];decide)];refine⟨_,rfl,zf,zd,G1,No,d,AK ⟨e0,⟨D.on,D.sit,D.told,D.st,D.none,D.stp.mono om,?_,D.dd,D.rm,fun e _=>D.gc e,fun e _=>?_⟩⟩⟩
    ·have:=D.nx;have:=D.stp.nx;rcases(by omega:d=0\/d=1) with rfl | rfl
     ·exact AK ⟨rfl,om⟩
     ·exact AL om
    ·obtain⟨a,b,c⟩:=D.fd e;exact⟨a,b,c,D.nf a⟩
   ·rw[AI (by rw[e8];decide)];have hbl:AC.blV X.2.1.tt=(X.2.1.tt.k:Nat):=(by unfold AC.blV;rw[F.hit.o];rfl);rw[hbl];have hD3:X.1.F X.2.1.tt.k≠3:=(by rw[F.hit.F];decide);obtain⟨s2,st2,n2,on2,hspr⟩:=F.sit.spoS (Y:=fun _=>False) F.hit.k hD3 (AK F.hit.none) (fun x _ e=>AK e.2);obtain⟨-,b2,f2,q2,d2,-⟩:=F.sit.spo (Y:=fun _=>False) F.hit.k hD3 (AK F.hit.none) (fun x _ e=>AK e.2);have hnf:=fun {x:Nat} (hx:x≠X.2.1.tt.k)=>gZ F.sit F.hit.k hx;have hbF:=F.stp.bd;have hFf:=F.fre;have hFn:=F.nx;rw[AI (show ¬ X.1.F X.2.1.tt.k=0 by rw[F.hit.F];decide)] at f2;generalize spK X.1 (X.2.1.tt.k:Nat)=K2 at *
    have hsq2:Sq 1 K2:=(by unfold Sq at hsq ⊢;omega);obtain⟨Y,hY,G3,X3,d3,s3,st3,hy⟩:=hte K2 G1 s2 (by rw[on2];exact F.on) om (fun _=>by unfold Rm at hrm ⊢;omega) hsq2;rw[hY];have hbK2:bad3 K2.F=bad3 K.F+1:=om;have hst:Stp (20+2*wM (bad3 K.F+1)) (1+d3) K Y.1 G G3:=by
     have:=(F.stp.trans st2).trans st3;have e:0+1+d3=1+d3:=om;rw[e,hbK2] at this;exact this.mono om
    have wq:=Jz (bad3 K.F+1);have hbY:=hst.bd;have hvne:S.fm≠X.2.1.tt.k:=(by rw[<-zf];exact fun e=>F.hit.ne e.symm);rcases hy with ⟨y0,yon,yX,yT,yR,yd,yn,yf⟩ | ⟨y14,yon,yd,yn⟩ | ⟨y7,yoff,yn⟩
    ·dsimp only;rw[AI (by rw[y0];decide)];have hv0:Y.1.F X.2.1.fm≠0:=by
      refine(yf _ (by rw[zf];exact hfm)).1 ((hnf ?_).1 F.v0);rw[zf];exact hvne
     have wY:=D2 (show bad3 K.F+1<=bad3 Y.1.F by omega);obtain⟨Z,hZ,wf',wd',G4,X4,d4,hz⟩:=ih Y.1 G3 X.2.1 (s3.mono (fun b _ x=>absurd x (yX b))) yon (by rw[zf];exact hfm) hv0 yd yR (AK yT) (by unfold Sq at hsq ⊢;omega) om om;refine⟨Z,hZ,wf'.trans zf,fun e=>wd' (zd e),G4,X4,1+d3+d4,?_⟩;rcases hz with ⟨c0,M⟩ | ⟨c14,M⟩ | ⟨c7,M⟩
     ·have M':jU Y.1 Z.1 G3 G4 X.2.1 S.fm ((AA.ofL Y.1.L X.2.1.fm).length) d4:=(by rw[<-zf];exact M);have hn4:Z.1.nx<=Y.1.nx+8*d4:=by rcases M.nx with ⟨_,e⟩ | e <;> omega
      refine AK ⟨c0,⟨M'.on,M'.sit,M'.told,M'.st,M'.none,(hst.trans M'.stp).mono om,AL om,M'.dd,M'.rm,fun e=>absurd e om,fun e1 e2=>?_⟩⟩;have g1:X.1.F S.fm=2:=(F.nf _ hfm).2 e2;have g2:K2.F S.fm=2:=(hnf hvne).2 g1;have g3:Y.1.F S.fm=2:=(yf _ hfm).2 g2;obtain⟨a,b,c,f⟩:=M'.fd (zd e1) g3;refine⟨om,b,c,fun x hx=>⟨fun e=>(f x hx).1 ((yf x hx).1 ?_),fun hv e=>(f x hx).2 hv ((yf x hx).2 ?_)⟩⟩
      ·by_cases ex:x=X.2.1.tt.k
       ·have:=(q2 x hx).2 (AL ex);rw[this];decide
       ·exact(hnf ex).1 ((F.nf x hx).1 e)
      ·have ex:x≠X.2.1.tt.k:=fun ex=>by
        have:=F.dk;rw[<-ex,e] at this;exact absurd this dc
       exact(hnf ex).2 ((F.nf x hx).2 e)
     ·have hM:=M.nx;exact AL (AK ⟨c14,⟨M.on,M.sit,M.w,(hst.trans M.stp).mono om,om⟩⟩)
     ·have hM:=M.nx;exact AL (AL ⟨c7,⟨M.off,M.sit,(hst.trans M.stp).mono om,om⟩⟩)
    ·dsimp only;rw[AJ (by rw[y14];decide)];exact⟨_,rfl,zf,zd,G3,X3,1+d3,AL (AK ⟨y14,⟨yon,s3,AK yd,hst.mono om,by show Y.1.nx<=_;omega⟩⟩)⟩
    ·dsimp only;rw[AJ (by rw[y7];decide)];exact⟨_,rfl,zf,zd,G3,X3,1+d3,AL (AL ⟨y7,⟨yoff,s3,hst.mono om,by show Y.1.nx<=_;omega⟩⟩)⟩
   ·rw[AJ (by rw[e14];decide)];exact⟨_,rfl,zf,zd,G1,Xs X.2.1,0,AL (AK ⟨e14,⟨W.on,W.sit,AL ⟨W.fd,W.b2,W.v3⟩,W.stp.mono om,by rw[W.nx];omega⟩⟩)⟩
   ·rw[AJ (by rw[e7];decide)];exact⟨_,rfl,zf,zd,G1,Xs X.2.1,0,AL (AL ⟨e7,⟨C.off,C.sit,C.stp.mono om,C.nx⟩⟩)⟩
end
section
variable {K:BC}{G:BV}
theorem aR{X:Nat->Prop}(h:Sit K G X)(b:Int):Sit (lvK K b) G X/\Stp 0 0 K (lvK K b) G G/\(lvK K b).nx=K.nx/\(lvK K b).s=K.s/\(lvK K b).dd=K.dd/\fre (lvK K b).F=fre K.F/\(lvK K b).L=K.L/\Nf K (lvK K b)/\(∀x,x<12->(K.F x=3<->(lvK K b).F x=3)):=by
 obtain⟨s1,f1,b1,q1⟩:=h.lv b;have hr:=Jw K b;have hnf:Nf K (lvK K b):=fun x _=>by
  unfold lvK;split
  ·cases eo:K.fr.o
   ·rw[CM eo];exact⟨id,id⟩
   ·rw[h.clK_eq eo];show (K.F x≠0->upd K.F K.fr.k 2 x≠0)/\(K.F x=2->upd K.F K.fr.k 2 x=2);rcases BO K.F K.fr.k x 2 with ⟨_,e⟩ | ⟨_,e⟩ <;> rw[e]
    ·exact⟨fun _=>dc,fun _=>rfl⟩
    ·exact⟨id,id⟩
  ·exact⟨id,id⟩
 obtain⟨F',fr',e⟩:=Jv K b;rw[e] at s1 f1 b1 q1 hr hnf ⊢;exact⟨s1,⟨rfl,rfl,rfl,fun _ _=>Iff.rfl,id,fun _ _=>rfl,⟨rfl,rfl,rfl,rfl,rfl,rfl⟩,fun x hx e2=>(q1 x hx).1 e2,b1,AM _,hr⟩,rfl,rfl,rfl,f1,rfl,hnf,q1⟩
structure nP (K K':BC) (G G':BV) (X':Nat->Prop) (d:Nat):Prop where
 on:K'.s.on=true
 sit:Sit K' G' X'
 dd:K'.dd=true
 stp:Stp (wM (bad3 K.F)) d K K' G G'
 nx:K'.nx<=K.nx+8*d
def ml (K:BC) (G:BV) (S:BW) (n:Nat) (Z:BC × BW × Nat):Prop:=
 ∃G' X' d,(Z.2.2=0/\jU K Z.1 G G' S S.fm n d/\(S.fd=true->d≠0/\Z.1.fr.o=true/\Z.1.fr.i<=7/\∀b,b<12->(K.F b≠0->Z.1.F b≠0)/\(b≠S.fm->K.F b=2->Z.1.F b=2)))\/(Z.2.2=14/\nP K Z.1 G G' X' d)\/(Z.2.2=7/\mC K Z.1 G G' X' d)
theorem Gi{F:Nat->Int}{b:Nat}{s:Int}(h:F b=s):upd F b s=F:=by
 funext x;unfold upd;split
 ·rename_i e;rw[e,h]
 ·rfl
theorem Wo{te:FF}{b0:Nat}(hte:aQ te b0)(n:Nat){S:BW}(h:Sit K G No)(hon:K.s.on=true)(hfm:S.fm<12)(h0:K.F S.fm≠0)(h3:K.F S.fm≠3)(hdd:K.dd=false)(hrm:Rm 0 K)(hT:Told K G\/S.fd=true)(hsq:Sq 0 K)(hn:4<=n+bad3 K.F)(hb0:b0<=bad3 K.F+1) :∃Z,moK te n K S=some Z/\ml K G S ((AA.ofL K.L S.fm).length) Z:=by
 have main:∃Z,trK te n (if S.fd then lvK K S.fm else K) S=some Z/\Z.2.1.fm=S.fm/\∃G' X' d,(Z.2.2=0/\jU K Z.1 G G' S S.fm ((AA.ofL K.L S.fm).length) d/\(S.fd=true->d≠0/\Z.1.fr.o=true/\Z.1.fr.i<=7/\∀b,b<12->(K.F b≠0->Z.1.F b≠0)/\(b≠S.fm->K.F b=2->Z.1.F b=2)))\/(Z.2.2=14/\mj K Z.1 G G' Z.2.1 X' d)\/(Z.2.2=7/\mC K Z.1 G G' X' d):=by
  cases hfd:S.fd
  ·obtain⟨Z,h1,h2,-,h4⟩:=Nl hte n K G S h hon hfm h0 hdd hrm (hT.imp id (fun e=>by rw[hfd] at e;cases e)) hsq hn hb0;obtain⟨G',X',d,h5⟩:=h4;exact⟨Z,h1,h2,G',X',d,h5.imp (fun x=>⟨x.1,x.2,fun e=>by cases e⟩) id⟩
  ·obtain⟨s1,st1,n1,on1,d1,f1,l1,nf1,q1⟩:=aR h (S.fm:Nat);have hF2:(lvK K (S.fm:Nat)).F S.fm=2:=by
    have hs:=h.sts S.fm hfm;by_cases e:K.F S.fm=2
    ·exact(nf1 _ hfm).2 e
    ·have e1:K.F S.fm=1:=om;obtain⟨o1,o2⟩:=(h.opn S.fm hfm).1 e1;unfold lvK;rw[AJ (by unfold AC.blV;rw[o1,o2];rfl),h.clK_eq o1];show upd K.F K.fr.k 2 S.fm=2;rw[o2,Be]
   have hb1:=st1.bd;generalize lvK K (S.fm:Nat)=K1 at *
   obtain⟨Z,e1,e2,-,G',X',d,e4⟩:=Nl hte n K1 G S s1 (by rw[on1];exact hon) hfm (by rw[hF2];decide) (d1.trans hdd) (by unfold Rm at hrm ⊢;omega) (AL ⟨hfd,by rw[hF2];decide⟩) (by unfold Sq at hsq ⊢;omega) om om;rw[l1] at e4;refine⟨Z,e1,e2,G',X',d,?_⟩;rcases e4 with ⟨c,M⟩ | ⟨c,M⟩ | ⟨c,M⟩
   ·have hfdd:d≠0/\Z.1.fr.o=true/\Z.1.fr.i<=7/\∀b,b<12->(K.F b≠0->Z.1.F b≠0)/\(b≠S.fm->K.F b=2->Z.1.F b=2):=by
     obtain⟨a,b,c',f⟩:=M.fd hfd hF2;exact⟨a,b,c',fun x hx=>⟨fun e=>(f x hx).1 ((nf1 x hx).1 e),fun hv e=>(f x hx).2 hv ((nf1 x hx).2 e)⟩⟩
    refine AK ⟨c,⟨M.on,M.sit,M.told,M.st,M.none,by have:=st1.trans M.stp;rw[AW,AW,hb1] at this;exact this,by have:=M.nx;rw[n1] at this;exact this,M.dd,M.rm,fun e _=>absurd e (M.fd hfd hF2).1,fun _ _=>hfdd⟩,fun _=>hfdd⟩
   ·exact AL (AK ⟨c,⟨M.on,M.sit,M.w,by have:=st1.trans M.stp;rw[AW,AW,hb1] at this;exact this,by have:=M.nx;omega⟩⟩)
   ·exact AL (AL ⟨c,⟨M.off,M.sit,by have:=st1.trans M.stp;rw[AW,AW,hb1] at this;exact this,by have:=M.nx;omega⟩⟩)
 obtain⟨Z,e1,e2,G',X',d,e4⟩:=main;unfold moK;rw[e1];dsimp only;rcases e4 with ⟨c,M,Mf⟩ | ⟨c,M⟩ | ⟨c,M⟩
 ·rw[AI (by rw[c];rintro ⟨_,e⟩;cases e)];exact⟨Z,rfl,G',X',d,AK ⟨c,M,Mf⟩⟩
 ·by_cases hf:Z.2.1.fd=true
  ·rw[AJ ⟨hf,c⟩,e2];have hMn:=M.nx;by_cases h33:Z.1.F S.fm=3
   ·have hd:Z.1.dd=true:=M.w.elim id (fun w=>absurd (e2 ▸ h33) w.2.2);have hlv:lvK Z.1 (S.fm:Nat)=Z.1:=by
     unfold lvK;rw[AI];intro e;unfold AC.blV at e;split at e
     ·rename_i ho;have:Z.1.F S.fm=1:=(M.sit.opn S.fm hfm).2 ⟨ho,om⟩;rw[h33] at this;exact absurd this dc
     ·omega
    have hsp:({ spK Z.1 (S.fm:Nat) with dd:=true }:BC)=Z.1:=by
     unfold spK stK;rw[hlv,DG hfm dc (AL rfl),Gi h33];dsimp only;generalize Z.1=Q at hd;cases Q
     dsimp only at hd;subst hd;rfl
    rw[hsp];exact⟨_,rfl,G',X',d,AL (AK ⟨c,⟨M.on,M.sit,hd,M.stp,hMn⟩⟩)⟩
   ·have hb2:2<=bad3 Z.1.F:=M.w.elim (fun e=>Nat.le_of_lt (M.sit.dds.1 e)) (fun w=>om);obtain⟨s5,st5,n5,on5,r5⟩:=M.sit.spoS (Y:=X') hfm h33 (AL hb2) (fun x _ e=>AL e);obtain⟨-,b5,-,-,d5,-⟩:=M.sit.spo (Y:=X') hfm h33 (AL hb2) (fun x _ e=>AL e);have hdt:=d5.2 hb2;have hsp:({ spK Z.1 (S.fm:Nat) with dd:=true }:BC)=spK Z.1 (S.fm:Nat):=by
     generalize spK Z.1 (S.fm:Nat)=Q at hdt;cases Q
     dsimp only at hdt;subst hdt;rfl
    rw[hsp];refine⟨_,rfl,G',X',d+1,AL (AK ⟨c,⟨by show (spK Z.1 (S.fm:Nat)).s.on=true;rw[on5];exact M.on,s5,hdt,M.stp.trans st5,by show (spK Z.1 (S.fm:Nat)).nx<=_;rw[n5];omega⟩⟩)⟩
  ·rw[AI (fun e=>hf e.1)];have hd:Z.1.dd=true:=M.w.elim id (fun w=>absurd w.1 hf);exact⟨Z,rfl,G',X',d,AL (AK ⟨c,⟨M.on,M.sit,hd,M.stp,M.nx⟩⟩)⟩
 ·rw[AI (by rw[c];rintro ⟨_,e⟩;cases e)];exact⟨Z,rfl,G',X',d,AL (AL ⟨c,M⟩)⟩
end
section
variable {K:BC}{G:BV}{o w:Nat}{mo:Ek}{X:Nat->Prop}{F L:Nat->Int}{Z:BC × Nat}
theorem cU(L:Nat->Int):∀k,AA.cL L k<=k
 | 0=>AM _
 | k+1=>by
  have:=cU L k
  unfold AA.cL
  split <;> omega
theorem kS:∀n,n<=12->(∀b,b<12->F b=2->4<=(AA.ofL L b).length)->4*AD.cnt F 2 n<=AA.cP L (8*n)
 | 0,_,_=>Ac _
 | n+1,hn,h=>by
  have ih:=kS n om h
  have e:AA.cP L (8*(n+1))=AA.cP L (8*n)+(AA.ofL L n).length:=AA.bt L n 8
  rw[e]
  unfold AD.cnt
  split
  ·
   rename_i c
   have:=h n om c
   omega
  ·
   omega
theorem Ph(hL:AA.Okl L)(h7:7<=AD.cnt F 2 12):AG.chC 12 12 F (fun k=>(AA.lvK L 96 k:Nat))=0/\AG.chV 12 12 F (fun k=>(AA.lvK L 96 k:Nat))<12/\F (AG.chV 12 12 F (fun k=>(AA.lvK L 96 k:Nat)))=2/\(AA.ofL L (AG.chV 12 12 F (fun k=>(AA.lvK L 96 k:Nat)))).length<=3:=by
 have hb:=AG.Ld F (fun k=>((AA.lvK L 96 k:Nat):Int)) 12;cases e:AG.bst F (fun k=>((AA.lvK L 96 k:Nat):Int)) 12 with
 | none=>
  rw[e] at hb;have:∀k,k<=12->AD.cnt F 2 k=0:=by
   intro k
   induction k with
   | zero=>intro _;rfl
   | succ k ih=>intro hk;unfold AD.cnt;rw[ih om,AI (hb k (Ac _) om)]
  have:=this 12 (AM _);omega
 | some b=>
  rw[e] at hb;obtain⟨_,b2,b3,b4,_⟩:=hb;have eo:AG.Zl F (fun k=>((AA.lvK L 96 k:Nat):Int))=some b:=e;rw[AG.chC_some eo,AG.chV_some eo];refine⟨rfl,b2,b3,?_⟩;by_cases h4:4<=(AA.ofL L b).length
  ·exfalso;have:=kS (F:=F) (L:=L) 12 (AM _) (fun i hi hF=>by
    have:=b4 i (Ac _) hi hF
    dsimp only at this
    rw[AA.In L b2,AA.In L hi] at this
    omega)
   have h96:=AA.dq hL;have h25:=cU L 25;rw[show 8*12=96 by rfl] at this;omega
  ·omega
theorem D3(s:AC.St)(ho:o<25):AC.rmV s o=true<->s.o=true/\s.i<8/\(o=24\/s.i<6):=by
 unfold AC.rmV AC.nxC;rw[decide_eq_true_iff,AI om];cases s.o
 ·simp
 ·rw[AI dc];by_cases c:s.i<8/\((o:Int)=24\/s.i<6)
  ·rw[AJ c];exact⟨fun _=>⟨rfl,c.1,c.2.imp (fun e=>om) id⟩,fun _=>rfl⟩
  ·rw[AI c];refine⟨fun e=>(by cases e),fun e=>absurd ⟨e.2.1,e.2.2.imp (fun x=>om) id⟩ c⟩
def Pi (mo:Ek) (bb:Nat):Prop:=∀K G S,Sit K G No->K.s.on=true->S.fm<12->K.F S.fm≠0->K.F S.fm≠3->K.dd=false->Rm 0 K->(Told K G\/S.fd=true)->Sq 0 K->bb<=bad3 K.F->∃Z,mo K S=some Z/\ml K G S ((AA.ofL K.L S.fm).length) Z
def YX (K:BC) (G:BV) (o w:Nat) (Z:BC × Nat):Prop:=∃G' X' d,Sit Z.1 G' X'/\Stp w d K Z.1 G G' /\
 ((Z.2=0/\Z.1.s.on=true/\(∀b,¬ X' b)/\Z.1.dd=false/\Rm 0 Z.1/\AC.rmV Z.1.fr o=true/\(Told K G->Told Z.1 G')/\((d=0/\Z.1.nx=K.nx)\/Z.1.nx+1<=K.nx+8*d)) \/
  (Z.2=14/\Z.1.s.on=true/\Z.1.dd=true/\Z.1.nx<=K.nx+8*d) \/
  (Z.2=7/\Z.1.s.on=false/\Z.1.nx<=K.nx+1+8*d))
theorem YX.cons{K1:BC}{G1:BV}{w1 d1:Nat}(h:YX K1 G1 o w Z)(st:Stp w1 d1 K K1 G G1)(hT:Told K G->Told K1 G1)(hn:(d1=0/\K1.nx=K.nx)\/K1.nx+1<=K.nx+8*d1):YX K G o (w1+w) Z:=by
 obtain⟨G',X',d,s,st2,hx⟩:=h;refine⟨G',X',d1+d,s,st.trans st2,?_⟩;rcases hx with ⟨a1,a2,a3,a4,a5,a6,a7,a8⟩ | ⟨a1,a2,a3,a4⟩ | ⟨a1,a2,a3⟩
 ·refine AK ⟨a1,a2,a3,a4,a5,a6,fun t=>a7 (hT t),?_⟩;rcases hn with ⟨rfl,e⟩ | e <;> rcases a8 with ⟨rfl,e2⟩ | e2
  ·exact AK ⟨rfl,e2.trans e⟩
  ·exact AL om
  ·exact AL om
  ·exact AL om
 ·exact AL (AK ⟨a1,a2,a3,by rcases hn with ⟨rfl,e⟩ | e <;> omega⟩)
 ·exact AL (AL ⟨a1,a2,by rcases hn with ⟨rfl,e⟩ | e <;> omega⟩)
theorem YX.mono{w':Nat}(h:YX K G o w Z)(e:w<=w'):YX K G o w' Z:=by
 obtain⟨G',X',d,s,st2,hx⟩:=h;exact⟨G',X',d,s,st2.mono e,hx⟩
theorem Gv(h:Sit K G No)(hon:K.s.on=true)(hdd:K.dd=false)(hrm:Rm 0 K)(hr:AC.rmV K.fr o=true)(n:Nat):mrK mo (n+1) K o=some (K,0)/\YX K G o 0 (K,0):=by
 refine⟨by rw[mrK,AJ hr],G,No,0,h,Stp.refl K G,AK ⟨rfl,hon,fun _=>id,hdd,hrm,hr,id,AK ⟨rfl,rfl⟩⟩⟩
theorem Sit.clS(h:Sit K G X):Sit (clK K) G X/\Stp 0 0 K (clK K) G G/\(clK K).nx=K.nx/\(clK K).s=K.s/\(clK K).dd=K.dd/\fre (clK K).F=fre K.F/\(clK K).fr.o=false/\(∀b,b<12->(K.F b=3<->(clK K).F b=3))/\Nf K (clK K)/\(clK K).L=K.L:=by
 obtain⟨s1,f1,b1,o1,q1⟩:=h.cl;have hr:=Pd K;have hnf:Nf K (clK K):=fun x _=>by
  cases eo:K.fr.o
  ·rw[CM eo];exact⟨id,id⟩
  ·rw[h.clK_eq eo];show (K.F x≠0->upd K.F K.fr.k 2 x≠0)/\(K.F x=2->upd K.F K.fr.k 2 x=2);rcases BO K.F K.fr.k x 2 with ⟨_,e⟩ | ⟨_,e⟩ <;> rw[e]
   ·exact⟨fun _=>dc,fun _=>rfl⟩
   ·exact⟨id,id⟩
 have e:∃F' fr',clK K={ K with F:=F',fr:=fr' }:=by
  unfold clK;split
  ·exact⟨_,_,rfl⟩
  ·exact⟨K.F,K.fr,rfl⟩
 obtain⟨F',fr',e⟩:=e;rw[e] at s1 f1 b1 o1 q1 hr hnf ⊢;exact⟨s1,⟨rfl,rfl,rfl,fun _ _=>Iff.rfl,id,fun _ _=>rfl,⟨rfl,rfl,rfl,rfl,rfl,rfl⟩,fun x hx e2=>(q1 x hx).1 e2,b1,AM _,hr⟩,rfl,rfl,rfl,f1,o1,q1,hnf,rfl⟩
theorem Sit.opS(h:Sit K G X)(ho:K.fr.o=false)(hf:1<=fre K.F):(opK K).2=0/\Sit (opK K).1 G X/\Stp 0 0 K (opK K).1 G G/\(opK K).1.nx=K.nx/\(opK K).1.s=K.s/\(opK K).1.dd=K.dd/\fre (opK K).1.F+1=fre K.F/\(opK K).1.fr.o=true/\(opK K).1.fr.i=0/\(∀b,b<12->(K.F b=3<->(opK K).1.F b=3))/\Nf K (opK K).1:=by
 obtain⟨e0,s1,f1,b1,o1,q1,F',e⟩:=h.op ho hf;have hr:=gU K;obtain⟨t1,t2,t3⟩:=Hz h.wf.frm hf;have hnf:Nf K (opK K).1:=fun x hx=>by
  have eo:(opK K).1.F=AD.tkF K.F 0 (tkM K.F):=by unfold opK;rw[AJ t1]
  rw[eo,D5 _ hx];rcases BO K.F (tkM K.F) x 1 with ⟨e1,e2⟩ | ⟨_,e2⟩ <;> rw[e2]
  ·rw[e1,t3];exact⟨fun e=>absurd rfl e,fun e=>absurd e dc⟩
  ·exact⟨id,id⟩
 rw[e] at s1 f1 b1 o1 q1 hr hnf ⊢;exact⟨e0,s1,⟨rfl,rfl,rfl,fun _ _=>Iff.rfl,id,fun _ _=>rfl,⟨rfl,rfl,rfl,rfl,rfl,rfl⟩,fun x hx e2=>(q1 x hx).1 e2,b1,AM _,hr⟩,rfl,rfl,rfl,f1,rfl,rfl,q1,hnf⟩
theorem Ee(hb:bad3 K.F<=2):GD K=true<->5<fre K.F+2*bad3 K.F:=by
 unfold GD AD.Ut;rw[AI (by unfold bad3 at hb;omega),decide_eq_true_iff];unfold fre bad3 at *
 omega
theorem Pj(h:Sit K G X)(ho:K.fr.o=false):AD.cnt K.F 1 12=0:=by
 have:∀k,k<=12->AD.cnt K.F 1 k=0:=by
  intro k
  induction k with
  | zero=>intro _;rfl
  | succ k ih=>
   intro hk;unfold AD.cnt;rw[ih om,AI];intro e;have:=((h.opn k om).1 e).1;rw[ho] at this;cases this
 exact this 12 (AM _)
theorem Q2(h:Sit K G No)(hon:K.s.on=true)(hdd:K.dd=false)(ho25:o<25)(hr:¬ AC.rmV K.fr o=true)(hs:GD (clK K)=true)(hb:bad3 K.F<=2)(n:Nat):∃Z,mrK mo (n+2) K o=some Z/\YX K G o 0 Z:=by
 obtain⟨s1,st1,n1,on1,d1,f1,o1,q1,-,-⟩:=h.clS;have hb1:bad3 (clK K).F=bad3 K.F:=st1.bd;have hs':=(Ee om).1 hs;obtain⟨e2,s2,st2,n2,on2,d2,f2,o2,i2,q2,-⟩:=s1.opS o1 om;have e:mrK mo (n+2) K o=mrK mo (n+1) (opK (clK K)).1 o:=by
  rw[mrK,AI hr];dsimp only;rw[AJ hs,AI (by rw[e2];decide)]
 have hb2:=st2.bd;generalize (opK (clK K)).1=K2 at *
 generalize clK K=K1 at *
 have hrm2:AC.rmV K2.fr o=true:=(D3 _ ho25).2 ⟨o2,om,AL om⟩;obtain⟨e3,m3⟩:=Gv (mo:=mo) s2 (by rw[on2,on1];exact hon) (d2.trans (d1.trans hdd)) (by unfold Rm;omega) hrm2 n;refine⟨(K2,0),e.trans e3,?_⟩;have:=(m3.cons st2 (fun t=>t.kee q2 rfl) (AK ⟨rfl,n2⟩)).cons st1 (fun t=>t.kee q1 rfl) (AK ⟨rfl,n1⟩);exact this
theorem J0{bb:Nat}(hmo:Pi mo bb)(ho25:o<25):∀(n:Nat) (K:BC) (G:BV),Sit K G No->K.s.on=true->K.dd=false->Rm 0 K->(Told K G\/AC.rmV K.fr o=true)->Sq 0 K->5<=n+bad3 K.F->bb<=bad3 K.F->∃Z,mrK mo n K o=some Z/\YX K G o (n*wM (bad3 K.F)) Z:=by
 intro n
 induction n with
 | zero=>
  intro K G h _ hdd _ _ _ hn _;have:¬ 2<bad3 K.F:=fun e=>by have:=h.dds.2 e;rw[hdd] at this;cases this
  omega
 | succ n ih=>
  intro K G h hon hdd hrm hT hsq hn hbb;have hbd2:bad3 K.F<=2:=by
   have:¬ 2<bad3 K.F:=fun e=>by have:=h.dds.2 e;rw[hdd] at this;cases this
   omega
  by_cases hr:AC.rmV K.fr o=true
  ·obtain⟨e,m⟩:=Gv (mo:=mo) h hon hdd hrm hr n;exact⟨_,e,m.mono (Ac _)⟩
  ·have hTK:Told K G:=hT.resolve_right hr;obtain⟨m,rfl⟩:∃m,n=m+1:=⟨n - 1,om⟩;by_cases hs:GD (clK K)=true
   ·obtain⟨Z,e,m2⟩:=Q2 (mo:=mo) h hon hdd ho25 hr hs hbd2 m;exact⟨Z,e,m2.mono (Ac _)⟩
   ·obtain⟨s1,st1,n1,on1,d1,f1,o1,q1,-,l1⟩:=h.clS;have hb1:bad3 (clK K).F=bad3 K.F:=st1.bd;have hs':¬ 5<fre (clK K).F+2*bad3 (clK K).F:=fun e=>hs ((Ee om).2 e);have hc1:=Pj s1 o1;have hsum:=AD.Im (clK K).F 12 (fun i hi=>s1.sts i hi);have h7:7<=AD.cnt (clK K).F 2 12:=by
     unfold Rm at hrm;unfold fre bad3 at *
     omega
    obtain⟨v1,v2,v3,v4⟩:=Ph s1.wf.map h7;have elv:lvF (clK K)=fun k=>((AA.lvK (clK K).L 96 k:Nat):Int):=rfl;rw[<-elv] at v1 v2 v3 v4;have hTc:Told (clK K) G:=hTK.kee q1 rfl;obtain⟨Y,eY,G2,X2,d2,hY⟩:=hmo (clK K) G (nwS (AG.chV 12 12 (clK K).F (lvF (clK K))) false false) s1 (by rw[on1];exact hon) v2 (by show (clK K).F (AG.chV 12 12 (clK K).F (lvF (clK K)))≠0;rw[v3];decide) (by show (clK K).F (AG.chV 12 12 (clK K).F (lvF (clK K)))≠3;rw[v3];decide) (d1.trans hdd) (by unfold Rm at hrm ⊢;omega) (AK hTc) (by unfold Sq at hsq ⊢;omega) om;have eall:mrK mo (m+1+1) K o=if Y.2.2≠0 then some (Y.1,Y.2.2) else mrK mo (m+1) Y.1 o:=by
     rw[mrK,AI hr];dsimp only;rw[AI hs,AI (by rw[v1];decide),eY]
    rw[eall];have hwe:wM (bad3 (clK K).F)=wM (bad3 K.F):=(by rw[hb1]);rcases hY with ⟨c0,M,-⟩ | ⟨c14,M⟩ | ⟨c7,M⟩
    ·rw[AI (by rw[c0];decide)];have hMst:=M.stp;rw[hwe] at hMst;have hst:Stp (wM (bad3 K.F)) d2 K Y.1 G G2:=by
      have:=st1.trans hMst;rw[AW,AW] at this;exact this
     have hnxM:=M.nx;rw[n1] at hnxM;have hbY:=hst.bd;have hcount:(m+1+1)*wM (bad3 K.F)=wM (bad3 K.F)+(m+1)*wM (bad3 K.F):=(by rw[Nat.add_mul (m+1) 1,Nat.one_mul,Nat.add_comm]);by_cases hd0:d2=0
     ·have hv3':(clK K).F (nwS (AG.chV 12 12 (clK K).F (lvF (clK K))) false false).fm≠3:=by
       show (clK K).F (AG.chV 12 12 (clK K).F (lvF (clK K)))≠3;rw[v3];decide
      rcases M.gc hd0 hv3' with ⟨g1,g2⟩ | ⟨g1,g2⟩
      ·have hi3:Y.1.fr.i<=3:=AY g2 v4;obtain⟨e3,m3⟩:=Gv (mo:=mo) M.sit M.on M.dd M.rm ((D3 _ ho25).2 ⟨g1,om,AL om⟩) m;refine⟨_,e3,?_⟩;rw[hcount];exact(m3.cons hst (fun _=>M.told) hnxM).mono om
      ·have hfo:Y.1.fr.o=false:=by
        rcases g1 with e | e
        ·rw[e];exact o1
        ·rw[e];rfl
       have hnr:¬ AC.rmV Y.1.fr o=true:=fun e=>by
        have:=((D3 _ ho25).1 e).1;rw[hfo] at this;cases this
       have hsp:GD (clK Y.1)=true:=by
        rw[CM hfo];refine(Ee om).2 ?_;unfold Rm at hrm;omega
       obtain⟨k,rfl⟩:∃k,m=k+1:=⟨m - 1,om⟩;obtain⟨Z,e3,m3⟩:=Q2 (mo:=mo) M.sit M.on M.dd ho25 hnr hsp om k;refine⟨Z,e3,?_⟩;rw[hcount];exact(m3.cons hst (fun _=>M.told) hnxM).mono om
     ·have hnx':Y.1.nx+1<=K.nx+8*d2:=hnxM.elim (fun e=>absurd e.1 hd0) id;obtain⟨Z,e3,m3⟩:=ih Y.1 G2 M.sit M.on M.dd M.rm (AK M.told) (by unfold Sq at hsq ⊢;omega) om om;refine⟨Z,e3,?_⟩;rw[hcount];have wa:=D2 (show bad3 K.F<=bad3 Y.1.F by omega);exact(m3.cons hst (fun _=>M.told) hnxM).mono (Nat.add_le_add_left (Nat.mul_le_mul_left _ wa) _)
    ·rw[AJ (by rw[c14];decide)];have hMst:=M.stp;rw[hwe] at hMst;have hMn:=M.nx;refine⟨_,rfl,G2,X2,d2,M.sit,?_,AL (AK ⟨c14,M.on,M.dd,by show Y.1.nx<=_;omega⟩)⟩;have:=st1.trans hMst;rw[AW,AW] at this;exact this.mono (by have:=Nat.mul_le_mul_right (wM (bad3 K.F)) (show 1<=m+1+1 by omega);omega)
    ·rw[AJ (by rw[c7];decide)];have hMst:=M.stp;rw[hwe] at hMst;have hMn:=M.nx;refine⟨_,rfl,G2,X2,d2,M.sit,?_,AL (AL ⟨c7,M.off,by show Y.1.nx<=_;omega⟩)⟩;have:=st1.trans hMst;rw[AW,AW] at this;exact this.mono (by have:=Nat.mul_le_mul_right (wM (bad3 K.F)) (show 1<=m+1+1 by omega);omega)
end
section
variable {K:BC}{G:BV}{o:Nat}{X:Nat->Prop}{H:Dp}
theorem Sit.take(h:Sit K G X)(ho25:o<25)(hr:AC.rmV K.fr o=true) :AC.nxC K.fr o=0/\(AC.nxV K.fr o).toNat=8*K.fr.k+K.fr.i/\AC.tkS K.fr o=⟨true,K.fr.k,K.fr.i+1⟩/\Sit { K with fr:=⟨true,K.fr.k,K.fr.i+1⟩ } G X/\Ic { K with fr:=⟨true,K.fr.k,K.fr.i+1⟩ } (8*K.fr.k+K.fr.i)/\(o=24\/(8*K.fr.k+K.fr.i) % 8<6)/\K.fr.k<12/\K.F K.fr.k=1:=by
 obtain⟨ho,hi8,hi6⟩:=(D3 _ ho25).1 hr;obtain⟨k12,kF⟩:=h.frk ho;have hnx:AC.nxC K.fr o=0:=by unfold AC.rmV at hr;exact of_decide_eq_true hr
 have hs:Sit { K with fr:=⟨true,K.fr.k,K.fr.i+1⟩ } G X:=by
  refine h.reF K.F ⟨true,K.fr.k,K.fr.i+1⟩ K.dd (h.wf.F' (fr:=⟨true,K.fr.k,K.fr.i+1⟩) h.wf.frm ⟨k12,by show K.fr.i+1<9;omega⟩ _) h.sts h.frs (fun b hb=>?_) (fun _ i hi h8=>h.frn ho i (by have:K.fr.i+1<=i:=hi;omega) h8) h.blk (fun _ _ e=>e) (fun _ _ e=>AL e) h.dds;have:=h.opn b hb;rw[ho] at this;exact this
 refine⟨hnx,?_,?_,hs,⟨om,AK (by show K.F ((8*K.fr.k+K.fr.i) / 8)=1;rw[show (8*K.fr.k+K.fr.i) / 8=K.fr.k by omega];exact kF),fun _ _=>by show (8*K.fr.k+K.fr.i) % 8<K.fr.i+1;omega,h.frn ho _ (AM _) hi8⟩,hi6.imp id (fun e=>om),k12,kF⟩
 ·unfold AC.nxV;rw[AJ hnx];show (((K.fr.k*8+K.fr.i:Nat):Int)).toNat=_;omega
 ·unfold AC.tkS;rw[AJ hnx];generalize K.fr=st at *
  cases st
  dsimp only at ho;subst ho;rfl
structure mn (K K':BC) (G:BV):Prop where
 sit:Sit K' G No
 stp:Stp 1 0 K K' G G
 nx:K'.nx=K.nx+1
 dd:K'.dd=K.dd
 F:K'.F=K.F
 fr:K'.fr=⟨true,K.fr.k,K.fr.i+1⟩
structure FrD (H:Dp) (K K1:BC) (G:BV) (o p:Nat) (s':BG) (r':Int) (R':Nat->Int):Prop where
 e:K1={ K with fr:=⟨true,K.fr.k,K.fr.i+1⟩ }
 sit:Sit K1 G No
 spot:Ic K1 p
 h6:o=24\/p % 8<6
 wf:Wf { K1 with s:=s',r:=r',hR:=R',nx:=K1.nx+1 }
 pg:cR K1.s s' G.T ⟨p,o,K1.nx,0,false⟩ (H { K1 with nx:=K1.nx+1 } K1.nx)
def FrL (K1:BC) (o p:Nat) (s':BG) (r':Int) (R':Nat->Int):BC × Nat:=layK (if o=24 then ntK { K1 with s:=s',r:=r',hR:=R',nx:=K1.nx+1 } else { K1 with s:=s',r:=r',hR:=R',nx:=K1.nx+1 }) ⟨p,o,K1.nx,0,false⟩
theorem Q3(hH:∀K q,(H K q).length=174/\Bys (H K q))(h:Sit K G No)(hon:K.s.on=true)(ho25:o<25)(hr:AC.rmV K.fr o=true)(hnx:K.nx<DX) :∃p f,frK H { K with fr:=AC.tkS K.fr o } (AC.nxV K.fr o).toNat o=f/\RdB 1 K f.1/\(AC.nxC K.fr o=0/\K.fr.k<12/\K.F K.fr.k=1) /\((f.2.2=0/\f.1.s.on=true/\∃K1 s' r' R',FrD H K K1 G o p s' r' R'/\layK f.1 f.2.1=FrL K1 o p s' r' R')\/(f.2.2=8/\f.1.s.on=true/\mn K f.1 G)\/(f.2.2=7/\f.1.s.on=false/\mn K f.1 G)):=by
 obtain⟨t1,t2,t3,t4,t5,t6,t7,t8⟩:=h.take ho25 hr;have hrd:RdB 1 K (frK H { K with fr:=⟨true,K.fr.k,K.fr.i+1⟩ } (8*K.fr.k+K.fr.i) o).1:=by
  have h0:RdB 0 K { K with fr:=⟨true,K.fr.k,K.fr.i+1⟩ }:=RdB.same (fun _=>rfl) rfl;exact h0.trans (Pe H _ _ o)
 rw[t2,t3];obtain⟨s',r',R',wf,hx⟩:=Js t4.wf t4.sp hnx t4.rep hon t5.lt ho25 t6 t5.er H rfl (hH _ _).1 (hH _ _).2;refine⟨8*K.fr.k+K.fr.i,_,rfl,hrd,⟨t1,t7,t8⟩,?_⟩;rcases hx with ⟨e,k⟩ | ⟨e,k⟩ | ⟨e,k⟩
 ·rw[e];refine AK ⟨rfl,?_,_,s',r',R',⟨rfl,t4,t5,t6,wf,k⟩,rfl⟩;by_cases e24:o=24
  ·rw[AJ e24];exact k.on
  ·rw[AI e24];exact k.on
 ·rw[e] at hrd ⊢;have s4:=t4.pgn k t5 (Nat.le_succ _) wf;exact AL (AK ⟨rfl,k.on,⟨s4,⟨rfl,rfl,rfl,fun _ _=>Iff.rfl,id,fun _ _=>rfl,⟨rfl,rfl,rfl,rfl,rfl,rfl⟩,fun _ _=>id,rfl,Nat.le_succ _,hrd⟩,rfl,rfl,rfl,rfl⟩⟩)
 ·rw[e] at hrd ⊢;have s4:=t4.pgn k t5 (Nat.le_succ _) wf;exact AL (AL ⟨rfl,k.on,⟨s4,⟨rfl,rfl,rfl,fun _ _=>Iff.rfl,id,fun _ _=>rfl,⟨rfl,rfl,rfl,rfl,rfl,rfl⟩,fun _ _=>id,rfl,Nat.le_succ _,hrd⟩,rfl,rfl,rfl,rfl⟩⟩)
theorem CN(h:Sit K G X):CE K=K.dd:=by
 unfold CE;cases e:K.dd
 ·have:¬ 2<bad3 K.F:=fun x=>by have:=h.dds.2 x;rw[e] at this;cases this
  rw[AN this];rfl
 ·rfl
def mq (K:BC) (G:BV) (w:Nat) (Z:BC × Nat):Prop:=∃G' X' d,Sit Z.1 G' X'/\Stp w d K Z.1 G G' /\
 ((Z.2=14/\Z.1.s.on=true/\Z.1.dd=true/\Z.1.nx<=K.nx+1+8*d)\/(Z.2=7/\Z.1.s.on=false/\Z.1.nx<=K.nx+2+8*d))
theorem Wp{mr:BC->Nat->Option (BC × Nat)}{mo:Ek}{bb c W:Nat}(hH:∀K q,(H K q).length=174/\Bys (H K q))(ho25:o<25)(hmo:Pi mo bb)(hmr:∀K G,Sit K G No->K.s.on=true->K.dd=false->Rm 0 K->Told K G->Sq 0 K->bb<=bad3 K.F->∃Z,mr K o=some Z/\YX K G o (c*wM (bad3 K.F)) Z){K0:BC}{G0:BV}{P:BC × Nat->Prop}(hfin:∀K K1 G d p s' r' R',Sit K G No->K.dd=false->Rm 0 K->Told K G->Stp W d K0 K G0 G->K.nx<=K0.nx+8*d->RdB W K0 (FrL K1 o p s' r' R').1->FrD H K K1 G o p s' r' R'->P (FrL K1 o p s' r' R')) :∀(n:Nat) (K:BC) (G:BV) (w d:Nat),Sit K G No->K.s.on=true->(K.dd=false->Rm 0 K/\Told K G)->Sq 1 K->1<=n/\4<=n+bad3 K.F->bb<=bad3 K.F->Stp w d K0 K G0 G->K.nx<=K0.nx+8*d->w+2*((c+2)*wM (bad3 K.F))<=W->∃Z,anK mr mo H n K o=some Z/\((Z.1.s.on=true/\P Z)\/mq K0 G0 W Z):=by
 intro n
 induction n with
 | zero=>intro K G w d _ _ _ _ hn;omega
 | succ n ih=>
  intro K G w d h hon hrt hsq hn hbb hst hnx hw;rw[anK,CN h,h.sp];cases hdd:K.dd
  ·rw[AI (by simp)];obtain⟨hrm,hT⟩:=hrt hdd;have hbd2:bad3 K.F<=2:=by
    have:¬ 2<bad3 K.F:=fun e=>by have:=h.dds.2 e;rw[hdd] at this;cases this
    omega
   have wp:=Jz (bad3 K.F);have ws:=L4 hbd2;have hQ:(c+2)*wM (bad3 K.F)=c*wM (bad3 K.F)+2*wM (bad3 K.F):=Nat.add_mul _ _ _;obtain⟨x,ex,G2,X2,d2,s2,st2,hx⟩:=hmr K G h hon hdd hrm hT (by unfold Sq at hsq ⊢;omega) hbb;rw[ex];dsimp only;have hst2:=hst.trans st2;have hb2:=st2.bd;rcases hx with ⟨x0,xon,xX,xd,xR,xr,xT,xn⟩ | ⟨x14,xon,xd,xn⟩ | ⟨x7,xoff,xn⟩
   ·have hxn:x.1.nx<=K.nx+8*d2:=by rcases xn with ⟨_,e⟩ | e <;> omega
    have hsq2:Sq 1 x.1:=by
     unfold Sq at hsq ⊢;rcases xn with ⟨e1,e⟩ | e <;> omega
    have s2':Sit x.1 G2 No:=s2.mono (fun b _ y=>absurd y (xX b));have hx2:bad3 x.1.F<=2:=by
     have:¬ 2<bad3 x.1.F:=fun e=>by have:=s2.dds.2 e;rw[xd] at this;cases this
     omega
    obtain⟨p,f,ef,frd,⟨fn,fk,fF⟩,hf⟩:=Q3 hH s2' xon ho25 xr (by unfold Sq at hsq2;omega);rw[AI (by rw[x0];decide),ef,AI (by rw[fn];decide)];rcases hf with ⟨f0,fon,K1,s',r',R',fD,fL⟩ | ⟨f8,fon,fF'⟩ | ⟨f7,foff,fF'⟩
    ·rw[AJ f0,fL];refine⟨_,rfl,AK ⟨?_,hfin x.1 K1 G2 (d+d2) p s' r' R' s2' xd xR (xT hT) (hst2.mono om) om ?_ fD⟩⟩
     ·rw[<-fL];exact fon
     ·rw[<-fL];exact((hst2.rd.trans frd).trans (Gu f.1 f.2.1)).mono om
    ·rw[AI (by rw[f8];decide),AI (by rw[f8];decide)];have hbl:(AC.blV f.1.fr).toNat=x.1.fr.k:=by
      rw[fF'.fr];unfold AC.blV;rw[AJ rfl,AP]
     rw[hbl];have hfb:bad3 f.1.F=bad3 x.1.F:=(by rw[fF'.F]);have hfx:=fF'.nx;obtain⟨y,ey,G3,X3,d3,hy⟩:=hmo f.1 G2 (nwS x.1.fr.k false true) fF'.sit fon fk (by show f.1.F x.1.fr.k≠0;rw[fF'.F,fF];decide) (by show f.1.F x.1.fr.k≠3;rw[fF'.F,fF];decide) (fF'.dd.trans xd) (by unfold Rm at xR ⊢;rw[fF'.F];exact xR) (AL rfl) (by unfold Sq at hsq2 ⊢;omega) om;rw[ey];dsimp only;have hst3:=hst2.trans fF'.stp;have wa:=D2 (show bad3 K.F<=bad3 f.1.F by omega);rcases hy with ⟨c0,M,Mf⟩ | ⟨c14,M⟩ | ⟨c7,M⟩
     ·rw[AI (by rw[c0];decide)];obtain⟨m1,-,-,-⟩:=Mf rfl;have hMn:y.1.nx+1<=f.1.nx+8*d3:=M.nx.elim (fun e=>absurd e.1 m1) id;have hMb:=M.stp.bd;have hst4:=hst3.trans M.stp;have hy2:bad3 y.1.F<=2:=by
       have:¬ 2<bad3 y.1.F:=fun e=>by have:=M.sit.dds.2 e;rw[M.dd] at this;cases this
       omega
      have wb:=D2 (show bad3 K.F+1<=bad3 y.1.F by omega);have hQ2:(c+2)*(4*wM (bad3 y.1.F))<=(c+2)*wM (bad3 K.F):=Nat.mul_le_mul_left _ om;have hQ3:(c+2)*(4*wM (bad3 y.1.F))=4*((c+2)*wM (bad3 y.1.F)):=(by rw[<-Nat.mul_assoc,Nat.mul_comm (c+2) 4,Nat.mul_assoc]);exact ih y.1 G3 _ _ M.sit M.on (fun _=>⟨M.rm,M.told⟩) (by unfold Sq at hsq2 ⊢;omega) om om hst4 om om
     ·rw[AJ (by rw[c14];decide)];have hMn:=M.nx;exact⟨_,rfl,AL ⟨G3,X3,_,M.sit,(hst3.trans M.stp).mono om,AK ⟨c14,M.on,M.dd,by show y.1.nx<=_;omega⟩⟩⟩
     ·rw[AJ (by rw[c7];decide)];have hMn:=M.nx;exact⟨_,rfl,AL ⟨G3,X3,_,M.sit,(hst3.trans M.stp).mono om,AL ⟨c7,M.off,by show y.1.nx<=_;omega⟩⟩⟩
    ·rw[AI (by rw[f7];decide),AJ (by rw[f7];decide)];have hfx:=fF'.nx;exact⟨_,rfl,AL ⟨G2,No,_,fF'.sit,(hst2.trans fF'.stp).mono om,AL ⟨f7,foff,by show f.1.nx<=_;omega⟩⟩⟩
   ·rw[AJ (by rw[x14];decide)];exact⟨_,rfl,AL ⟨G2,X2,_,s2,hst2.mono om,AK ⟨x14,xon,xd,om⟩⟩⟩
   ·rw[AJ (by rw[x7];decide)];exact⟨_,rfl,AL ⟨G2,X2,_,s2,hst2.mono om,AL ⟨x7,xoff,om⟩⟩⟩
  ·rw[AJ (AK rfl)];exact⟨_,rfl,AL ⟨G,No,d,h,hst.mono om,AK ⟨rfl,hon,hdd,by show K.nx<=_;omega⟩⟩⟩
end
section
variable {n b:Nat}{K0:BC}{G0:BV}
theorem Wq{K K1:BC}{G:BV}{p:Nat}{s':BG}{r':Int}{R':Nat->Int}(f:FrD noH K K1 G 24 p s' r' R')(hdd:K.dd=false) :(FrL K1 24 p s' r' R').2=0/\(FrL K1 24 p s' r' R').1.nx=K.nx+1/\(FrL K1 24 p s' r' R').1.F=K.F/\(FrL K1 24 p s' r' R').1.dd=K.dd/\(FrL K1 24 p s' r' R').1.fr=⟨true,K.fr.k,K.fr.i+1⟩/\(FrL K1 24 p s' r' R').1.L 24≠-1/\(FrL K1 24 p s' r' R').1.ca=0/\∃G',Sit (FrL K1 24 p s' r' R').1 G' No/\Told (FrL K1 24 p s' r' R').1 G'/\∀w,RdB w K (FrL K1 24 p s' r' R').1->Stp w 0 K (FrL K1 24 p s' r' R').1 G G':=by
 obtain⟨e,s1,sp,_,wf,pg⟩:=f;have hfree:=sp.free s1;have hlt:=sp.lt;have hn1:=s1.wf.nx;have hmay:AA.DV ((24:Nat):Int) (p:Int):=⟨⟨om,om⟩,⟨om,om⟩,AK rfl⟩;have hc:AA.setC K1.L ((24:Nat):Int) (p:Int)=0:=by
  unfold AA.setC;rw[AI (fun e=>e hmay),AI (by rw[Bv hfree];simp)]
 have hLL:AA.setL K1.L ((24:Nat):Int) (p:Int)=upd K1.L 24 p:=by unfold AA.setL;rw[AJ hc,AP]
 have eL:FrL K1 24 p s' r' R'=({ K1 with s:=s',r:=r',hR:=R',hN:=R',ca:=0,nx:=K1.nx+1,vs:=upd K1.vs 24 K1.nx,vc:=upd K1.vc 24 0,L:=upd K1.L 24 p,fl:=K1.fl },0):=by
  unfold FrL layK ntK;rw[AJ rfl];dsimp only;rw[hc,hLL]
 rw[eL];have w5:Wf { K1 with nx:=K1.nx+1 }:=⟨s1.wf.chip,s1.wf.rr,s1.wf.frm,s1.wf.map,s1.wf.vs,s1.wf.vp,s1.wf.vc,s1.wf.fl,wf.nx,s1.wf.fr,s1.wf.cu,s1.wf.qu,s1.wf.hea,s1.wf.tl⟩;have hck:=Dm w5 (q:=K1.nx) hn1;have wfin:Wf { K1 with s:=s',r:=r',hR:=R',hN:=R',ca:=0,nx:=K1.nx+1,vs:=upd K1.vs 24 K1.nx,vc:=upd K1.vc 24 0,L:=upd K1.L 24 p,fl:=K1.fl }:=by
  have w1:=(wf.nt).ver (i:=24) (q:=K1.nx) (c:=0) hn1 dc;refine w1.map' (s1.wf.map.put 24 ⟨om,om⟩ (fun e=>om) (Bv hfree)) fun i hi hLi=>?_;show 1<=upd K1.vs 24 K1.nx i;by_cases e:i=24
  ·rw[e];unfold upd;rw[AJ rfl];exact hn1.1
  ·unfold upd;rw[AI e];rw[BP _ _ e] at hLi;exact s1.wf.vp i hi hLi
 have hs:=s1.note (c:=ckK { K1 with nx:=K1.nx+1 } K1.nx) pg sp (by rw[e];exact hdd) (r':=r') (R':=R') (N':=R') (fl':=K1.fl) (L':=upd K1.L 24 p) (a':=G.a) wfin (Be _ _ _) (fun i hi=>AK ⟨BP _ _ om,rfl,rfl⟩) (fun b _=>decide_eq_true_iff) (fun _ _=>rfl) rfl rfl hck;subst e;refine⟨rfl,rfl,rfl,rfl,rfl,?_,rfl,_,hs,fun b _ e=>AO e,fun w hw=>⟨rfl,rfl,rfl,fun o ho=>?_,fun _=>?_,fun o ho=>?_,⟨rfl,rfl,rfl,rfl,rfl,rfl⟩,fun _ _=>id,rfl,Nat.le_succ _,hw⟩⟩
 ·show upd K.L 24 p 24≠-1;rw[Be];omega
 ·show upd K.L 24 p o = -1<->K.L o = -1;rw[BP _ _ om]
 ·show upd K.L 24 p 24≠-1;rw[Be];omega
 ·show upd K.vs 24 K.nx o=K.vs o;unfold upd;rw[AI om]
def nQ (K:BC) (G:BV) (W:Nat) (Z:BC × Nat):Prop:=∃G' X' d,Sit Z.1 G' X'/\Stp W d K Z.1 G G' /\
 ((Z.2=0/\Z.1.s.on=true/\(∀b,¬ X' b)/\Told Z.1 G'/\Rm 0 Z.1/\Z.1.dd=false/\Z.1.nx<=K.nx+1+8*d/\Nf K Z.1) \/
  (Z.2=14/\Z.1.s.on=true/\Z.1.dd=true/\Z.1.nx<=K.nx+1+8*d) \/
  (Z.2=7/\Z.1.s.on=false/\Z.1.nx<=K.nx+2+8*d))
theorem Pk:∀K q,(noH K q).length=174/\Bys (noH K q):=fun _ _=>⟨AB.Cn _,AB.Ec _⟩
theorem Nm{mr:BC->Nat->Option (BC × Nat)}{mo:Ek}{bb W:Nat}(hmo:Pi mo bb)(hmr:∀K,AC.rmV K.fr 24=true->mr K 24=some (K,0)) :∀(n:Nat) (K:BC) (G:BV) (w d:Nat),Sit K G No->K.s.on=true->K.dd=false->Rm 0 K->AC.rmV K.fr 24=true->Sq 1 K->1<=n/\4<=n+bad3 K.F->bb<=bad3 K.F->Stp w d K0 K G0 G->K.nx<=K0.nx+8*d->Nf K0 K->w+2*wM (bad3 K.F)<=W->∃Z,anK mr mo noH n K 24=some Z/\nQ K0 G0 W Z:=by
 intro n
 induction n with
 | zero=>intro K G w d _ _ _ _ _ _ hn;omega
 | succ n ih=>
  intro K G w d h hon hdd hrm hr hsq hn hbb hst hnx hnf hw;have hbd2:bad3 K.F<=2:=by
   have:¬ 2<bad3 K.F:=fun e=>by have:=h.dds.2 e;rw[hdd] at this;cases this
   omega
  have wp:=Jz (bad3 K.F);have ws:=L4 hbd2;have wq:=Jz (bad3 K.F+1);rw[anK,CN h,h.sp,hdd,AI (by simp),hmr K hr];dsimp only;obtain⟨p,f,ef,frd,⟨fn,fk,fF⟩,hf⟩:=Q3 Pk h hon (by decide:(24:Nat)<25) hr (by unfold Sq at hsq;omega);rw[AI dc,ef,AI (by rw[fn];decide)];rcases hf with ⟨f0,fon,K1,s',r',R',fD,fL⟩ | ⟨f8,fon,fF'⟩ | ⟨f7,foff,fF'⟩
  ·rw[AJ f0,fL];obtain⟨n1,n2,n3,n4,n5,n6,n7,G',n8,n9,n10⟩:=Wq fD hdd;have hon':(FrL K1 24 p s' r' R').1.s.on=true:=(by rw[<-fL];exact fon);have hrd:RdB 1 K (FrL K1 24 p s' r' R').1:=(by rw[<-fL];exact frd.trans (Gu f.1 f.2.1));have hst2:=hst.trans (n10 1 hrd);refine⟨_,rfl,G',No,d+0,n8,hst2.mono om,AK ⟨n1,hon',fun _=>id,n9,?_,by rw[n4];exact hdd,by rw[n2];omega,fun b hb=>by rw[n3];exact hnf b hb⟩⟩;unfold Rm at hrm ⊢;rw[n3];exact hrm
  ·rw[AI (by rw[f8];decide),AI (by rw[f8];decide)];have hbl:(AC.blV f.1.fr).toNat=K.fr.k:=by
    rw[fF'.fr];unfold AC.blV;rw[AJ rfl,AP]
   rw[hbl];have hfb:bad3 f.1.F=bad3 K.F:=(by rw[fF'.F]);have hfx:=fF'.nx;obtain⟨y,ey,G3,X3,d3,hy⟩:=hmo f.1 G (nwS K.fr.k false true) fF'.sit fon fk (by show f.1.F K.fr.k≠0;rw[fF'.F,fF];decide) (by show f.1.F K.fr.k≠3;rw[fF'.F,fF];decide) (fF'.dd.trans hdd) (by unfold Rm at hrm ⊢;rw[fF'.F];exact hrm) (AL rfl) (by unfold Sq at hsq ⊢;omega) om;rw[ey];dsimp only;have hst3:=hst.trans fF'.stp;have wa:wM (bad3 f.1.F)=wM (bad3 K.F):=(by rw[hfb]);rcases hy with ⟨c0,M,Mf⟩ | ⟨c14,M⟩ | ⟨c7,M⟩
   ·rw[AI (by rw[c0];decide)];obtain⟨m1,m2,m3,m4⟩:=Mf rfl;have hMn:y.1.nx+1<=f.1.nx+8*d3:=M.nx.elim (fun e=>absurd e.1 m1) id;have hMb:=M.stp.bd;have hst4:=hst3.trans M.stp;have hy2:bad3 y.1.F<=2:=by
     have:¬ 2<bad3 y.1.F:=fun e=>by have:=M.sit.dds.2 e;rw[M.dd] at this;cases this
     omega
    have wb:=D2 (show bad3 K.F+1<=bad3 y.1.F by omega);refine ih y.1 G3 _ _ M.sit M.on M.dd M.rm ((D3 _ dc).2 ⟨m2,om,AK rfl⟩) (by unfold Sq at hsq ⊢;omega) om om hst4 om (fun b hb=>⟨fun e=>(m4 b hb).1 (by rw[fF'.F];exact(hnf b hb).1 e),fun e=>?_⟩) om;have e2:=(hnf b hb).2 e;refine(m4 b hb).2 (fun ev=>?_) (by rw[fF'.F];exact e2);have ev':b=K.fr.k:=ev;rw[ev',fF] at e2;exact absurd e2 dc
   ·rw[AJ (by rw[c14];decide)];have hMn:=M.nx;exact⟨_,rfl,G3,X3,_,M.sit,(hst3.trans M.stp).mono om,AL (AK ⟨c14,M.on,M.dd,by show y.1.nx<=_;omega⟩)⟩
   ·rw[AJ (by rw[c7];decide)];have hMn:=M.nx;exact⟨_,rfl,G3,X3,_,M.sit,(hst3.trans M.stp).mono om,AL (AL ⟨c7,M.off,by show y.1.nx<=_;omega⟩)⟩
  ·rw[AI (by rw[f7];decide),AJ (by rw[f7];decide)];have hfx:=fF'.nx;exact⟨_,rfl,G,No,_,fF'.sit,(hst.trans fF'.stp).mono om,AL (AL ⟨f7,foff,by show f.1.nx<=_;omega⟩)⟩
theorem Ws(hte:aQ (Lg n) (b+1))(hn:4<=n+1+b):Pi (movR n) b:=by
 intro K G S h hon hfm h0 h3 hdd hrm hT hsq hb;exact Wo hte (n+1) h hon hfm h0 h3 hdd hrm hT hsq om om
theorem aS:∀n b,4<=n+b->aQ (Lg n) b:=by
 intro n
 induction n with
 | zero=>
  intro b hb K G h hon hbk hrm hsq;have hd:K.dd=true:=h.dds.2 om;refine⟨(K,14),?_,G,No,0,h,(Stp.refl K G).mono om,AL (AK ⟨rfl,hon,hd,by show K.nx<=_;omega⟩)⟩;unfold Lg IN;rw[CN h,hd,AJ (AK rfl)]
 | succ n ih=>
  intro b hb K G h hon hbk hrm hsq;unfold Lg IN;rw[CN h,h.sp];cases hd:K.dd
  ·rw[AI (by simp)];have hbd2:bad3 K.F<=2:=by
    have:¬ 2<bad3 K.F:=fun e=>by have:=h.dds.2 e;rw[hd] at this;cases this
    omega
   have hmo:Pi (movR n) (bad3 K.F):=Ws (ih _ om) om;have hmr:∀K,AC.rmV K.fr 24=true->mrK (movR n) (n+1) K 24=some (K,0):=fun K hr=>by rw[mrK,AJ (show AC.rmV K.fr ((24:Nat):Int)=true from hr)]
   have hR1:=hrm hd;have ea:∀K,anR (n+1) noH K 24=anK (mrK (movR n) (n+1)) (movR n) noH (n+1) K 24:=fun K=>rfl;by_cases hr:AC.rmV K.fr 24=true
   ·rw[AJ hr];dsimp only;rw[ea];exact Nm hmo hmr (n+1) K G 0 0 h hon hd (by unfold Rm at hR1 ⊢;omega) hr hsq om (AM _) (Stp.refl K G) om (Nf.refl K) om
   ·rw[AI hr];obtain⟨s1,st1,n1,on1,d1,f1,o1,q1,nf1,-⟩:=h.clS;have hb1:bad3 (clK K).F=bad3 K.F:=st1.bd;unfold Rm at hR1;obtain⟨e2,s2,st2,n2,on2,d2,f2,o2,i2,q2,nf2⟩:=s1.opS o1 om;rw[AI (by rw[e2];decide)];dsimp only;rw[ea];have hb2:=st2.bd;generalize (opK (clK K)).1=K2 at *
    generalize clK K=K1 at *
    have hst:=st1.trans st2;have hbb:bad3 K2.F=bad3 K.F:=om;have:=Nm (W:=2*wM (bad3 K.F)) hmo hmr (n+1) K2 G _ _ s2 (by rw[on2,on1];exact hon) (d2.trans (d1.trans hd)) (by unfold Rm;omega) ((D3 _ dc).2 ⟨o2,om,AK rfl⟩) (by unfold Sq at hsq ⊢;omega) om om hst om (nf1.trans nf2) (by rw[hbb];omega);exact this
  ·rw[AJ (AK rfl)];exact⟨(K,14),rfl,G,No,0,h,(Stp.refl K G).mono om,AL (AK ⟨rfl,hon,hd,by show K.nx<=_;omega⟩)⟩
theorem Fg(hn:3<=n+b):Pi (movR n) b:=Ws (aS n (b+1) om) om
theorem Kx(hn:4<=n){H:Dp}(hH:∀K q,(H K q).length=174/\Bys (H K q)){o:Nat}(ho25:o<25){P:BC × Nat->Prop}(hfin:∀K K1 G d p s' r' R',Sit K G No->K.dd=false->Rm 0 K->Told K G->Stp (2*((n+3)*wM (bad3 K0.F))) d K0 K G0 G->K.nx<=K0.nx+8*d->RdB (2*((n+3)*wM (bad3 K0.F))) K0 (FrL K1 o p s' r' R').1->FrD H K K1 G o p s' r' R'->P (FrL K1 o p s' r' R'))(h:Sit K0 G0 No)(hon:K0.s.on=true)(hrt:K0.dd=false->Rm 0 K0/\Told K0 G0)(hsq:Sq 1 K0):∃Z,anR (n+1) H K0 o=some Z/\((Z.1.s.on=true/\P Z)\/mq K0 G0 (2*((n+3)*wM (bad3 K0.F))) Z):=by
 have hmo:Pi (movR n) (bad3 K0.F):=Fg om;have ea:anR (n+1) H K0 o=anK (mrK (movR n) (n+1)) (movR n) H (n+1) K0 o:=rfl;rw[ea];exact Wp (c:=n+1) hH ho25 hmo (fun K G h1 h2 h3 h4 h5 h6 h7=>J0 hmo ho25 (n+1) K G h1 h2 h3 h4 (AK h5) h6 om h7) hfin (n+1) K0 G0 0 0 h hon hrt hsq om (AM _) (Stp.refl K0 G0) om (by rw[AW];exact AM _)
end
section
variable {K K':BC}{G:BV}{X:Nat->Prop}
structure Eqv (K K':BC):Prop where
 ch:K'.s.ch=K.s.ch
 F:K'.F=K.F
 L:K'.L=K.L
 vs:K'.vs=K.vs
 vc:K'.vc=K.vc
 fl:K'.fl=K.fl
 nx:K'.nx=K.nx
 sp:K'.sp=K.sp
 fr:K'.fr=K.fr
 dd:K'.dd=K.dd
 cu:K'.cu=K.cu
 ca:K'.ca=K.ca
theorem Eqv.refl(K:BC):Eqv K K:=⟨rfl,rfl,rfl,rfl,rfl,rfl,rfl,rfl,rfl,rfl,rfl,rfl⟩
theorem Eqv.trans{K'':BC}(h:Eqv K K')(k:Eqv K' K''):Eqv K K'':=⟨k.ch.trans h.ch,k.F.trans h.F,k.L.trans h.L,k.vs.trans h.vs,k.vc.trans h.vc,k.fl.trans h.fl,k.nx.trans h.nx,k.sp.trans h.sp,k.fr.trans h.fr,k.dd.trans h.dd,k.cu.trans h.cu,k.ca.trans h.ca⟩
theorem WW.eqv(a:WW K K'):Eqv K K':=⟨a.ch,a.F,a.L,a.vs,a.vc,a.fl,a.nx,a.sp,a.fr,a.dd,a.cu,a.ca⟩
theorem Lvs.eqv{o:Nat}{l:Bool}{D:List Nat}(h:Lvs K G o l D)(a:Eqv K K'):Lvs K' G o l D:=
 ⟨by rw[a.L,a.vs,a.vc];exact h.tab,h.lost,h.data,by rw[a.L];exact h.gh.ch a.ch,by rw[a.L];exact fun z=>(h.gd z).ch a.ch⟩
theorem Sit.eqv(h:Sit K G X)(a:Eqv K K')(wf:Wf K'):Sit K' G X where
 wf:=wf
 rep:=h.rep.ch a.ch
 sts:=by rw[a.F];exact h.sts
 frs:=by rw[a.F];exact fun p hp e=>(h.frs p hp e).ch a.ch
 opn:=by rw[a.F,a.fr];exact h.opn
 frn:=by rw[a.fr];exact fun e i hi h8=>(h.frn e i hi h8).ch a.ch
 liv:=fun o ho hL=>by
  rw[a.L] at hL
  obtain⟨l,D,hl⟩:=h.liv o ho hL
  exact⟨l,D,hl.eqv a⟩
 nul:=by rw[a.L];exact h.nul
 blk:=by rw[a.L,a.F,a.dd];exact h.blk
 flo:=by rw[a.L,a.fl,a.vs];exact h.flo
 old:=by unfold lH;rw[a.L,a.fl,a.vs,a.vc,a.F];exact h.old
 seq:=by rw[a.nx];exact h.seq
 fls:=by rw[a.nx,a.fl];exact h.fls
 sp:=by rw[a.sp];exact h.sp
 dds:=by rw[a.dd,a.F];exact h.dds
 cb:=by rw[a.F];exact h.cb
 cf:=by rw[a.fl];exact h.cf
 cn:=by rw[a.L,a.vs,a.cu,a.ca];exact h.cn
 nw:=by rw[a.L];exact h.nw
 z24:=h.z24
 lb:=by rw[a.L];exact h.lb
theorem Sit.pstep(h:Sit K G X):Sit { K with cu:=(K.cu+8) % 96,ca:=K.ca+1 } G X where
 wf:=h.wf.pat' om _
 rep:=h.rep
 sts:=h.sts
 frs:=h.frs
 opn:=h.opn
 frn:=h.frn
 liv:=fun o ho hL=>by
  obtain⟨l,D,hl⟩:=h.liv o ho hL
  exact⟨l,D,⟨hl.tab,hl.lost,hl.data,hl.gh,hl.gd⟩⟩
 nul:=h.nul
 blk:=h.blk
 flo:=h.flo
 old:=h.old
 seq:=h.seq
 fls:=h.fls
 sp:=h.sp
 dds:=h.dds
 cb:=h.cb
 cf:=h.cf
 cn:=fun e=>by
  obtain⟨h1,h2,h3⟩:=h.cn e
  refine⟨h1,?_,h3⟩
  show (G.c.C+8*(K.ca+1)) % 96=(K.cu+8) % 96
  omega
 nw:=h.nw
 z24:=h.z24
 lb:=h.lb
theorem Iz(h:Wf K){p:Nat}(hp:p<96)(hon:K.s.on=true) :(inK K p).2.2=0/\(inK K p).1.s.on=true/\Eqv K (inK K p).1/\Wf (inK K p).1/\(inK K p).2.1=K.tl (pgTo K.s p 4) p/\(inK K p).1.tl=K.tl/\RdB 1 K (inK K p).1:=by
 have hrd:=Wa K p;obtain⟨K',e,ha,hw,hK⟩:=Pc h hp hon;unfold inK;rw[e] at hrd ⊢;dsimp only at hrd ⊢;have hon':K'.s.on=true:=by rw[hK];exact hon
 rw[AI (by simp)];by_cases h1:AA.own K'.L p = -1
 ·rw[AJ h1];exact⟨rfl,hon',ha.eqv,hw,rfl,ha.fx.tl,hrd⟩
 ·rw[AI h1];by_cases h2:(K.tl (pgTo K.s p 4) p).sound=true/\(K.tl (pgTo K.s p 4) p).dmg<2
  ·rw[AJ h2];exact⟨rfl,hon',ha.eqv,hw,rfl,ha.fx.tl,hrd⟩
  ·rw[AI h2];have b:=ha.eqv;refine⟨rfl,hon',⟨b.ch,b.F,b.L,b.vs,b.vc,b.fl,b.nx,b.sp,b.fr,b.dd,b.cu,b.ca⟩,(hw.hR' (AF.Fk.more3 hw.hea _)).qu' (hw.qu.add _),rfl,ha.fx.tl,?_⟩;have h3:=hrd.trans (RdB.same (K':={ K' with hS:=AF.Fl 255 K'.hS (p / 8:Nat),qu:=AE.PL K'.qu (p / 8:Nat) }) (fun _=>rfl) rfl);exact h3
theorem Gw(c:Nat):∀(n i:Nat) (K:BC),Wf K->K.s.on=true->(tdI c n i K).2=0/\(tdI c n i K).1.s.on=true/\Eqv K (tdI c n i K).1/\Wf (tdI c n i K).1/\(tdI c n i K).1.tl=K.tl/\RdB n K (tdI c n i K).1:=by
 intro n
 induction n with
 | zero=>intro i K h hon;exact⟨rfl,hon,Eqv.refl K,h,rfl,RdB.refl K⟩
 | succ n ih=>
  intro i K h hon;obtain⟨e,on,a,w,_,t,r⟩:=Iz h (p:=(c+i) % 96) om hon;rw[tdI,AI (by rw[e];simp)];obtain⟨e2,on2,a2,w2,t2,r2⟩:=ih (i+1) _ w on;refine⟨e2,on2,a.trans a2,w2,t2.trans t,?_⟩;have:=r.trans r2
  rwa [Nat.add_comm 1 n] at this
theorem L7(K:BC):Eqv K (awK K):=⟨rfl,rfl,rfl,rfl,rfl,rfl,rfl,rfl,rfl,rfl,rfl,rfl⟩
theorem gb(R L:Nat->Int):∀(n i:Nat) (q:List Int),AE.Le q->AE.Le (awQ R L n i q):=by
 intro n
 induction n with
 | zero=>intro i q h;exact h
 | succ n ih=>
  intro i q h;rw[awQ];split
  ·exact ih _ _ (h.add _)
  ·exact ih _ _ h
theorem Wt(h:Wf K):Wf (awK K):=h.qu' (gb _ _ _ _ _ h.qu)
theorem gj(K:BC):RdB 0 K (awK K):=RdB.same (fun _=>rfl) rfl
end
section
variable {K K':BC}{G G':BV}{m d n:Nat}
structure Stq (m d:Nat) (K K':BC) (G G':BV):Prop where
 a:G'.a=G.a
 z:G'.z=G.z
 fl:K'.fl=K.fl
 lv:∀o,o<24->(K'.L o = -1<->K.L o = -1)
 l24:K.L 24≠-1->K'.L 24≠-1
 vs:∀o,o<24->K'.vs o=K.vs o
 cu:K'.cu=K.cu
 hS:K'.hS=K.hS
 tl:K'.tl=K.tl
 b3:∀b,b<12->K.F b=3->K'.F b=3
 bd:bad3 K'.F=bad3 K.F+d
 nx:K.nx<=K'.nx
 rd:RdB m K K'
theorem Stp.stq(h:Stp m d K K' G G'):Stq m d K K' G G':=⟨h.a,h.z,h.fl,h.lv,h.l24,h.vs,h.fx.cu,h.fx.hS,h.fx.tl,h.b3,h.bd,h.nx,h.rd⟩
theorem Stq.refl(K:BC)(G:BV):Stq 0 0 K K G G:=(Stp.refl K G).stq
theorem Stq.trans{e:Nat}{K'':BC}{G'':BV}(h:Stq m d K K' G G')(k:Stq n e K' K'' G' G''):Stq (m+n) (d+e) K K'' G G'':=
 ⟨k.a.trans h.a,k.z.trans h.z,k.fl.trans h.fl,fun o ho=>(k.lv o ho).trans (h.lv o ho),fun x=>k.l24 (h.l24 x),fun o ho=>(k.vs o ho).trans (h.vs o ho),k.cu.trans h.cu,k.hS.trans h.hS,k.tl.trans h.tl,fun b hb x=>k.b3 b hb (h.b3 b hb x),by rw[k.bd,h.bd];omega,AY h.nx k.nx,h.rd.trans k.rd⟩
theorem Stq.mono{m':Nat}(h:Stq m d K K' G G')(e:m<=m'):Stq m' d K K' G G':=⟨h.a,h.z,h.fl,h.lv,h.l24,h.vs,h.cu,h.hS,h.tl,h.b3,h.bd,h.nx,h.rd.mono e⟩
theorem Stq.cnt(K:BC)(G:BV)(q:List Int)(x y:Int):Stq 0 0 K { K with qu:=q,rp:=x,md:=y } G G:=⟨rfl,rfl,rfl,fun _ _=>Iff.rfl,id,fun _ _=>rfl,rfl,rfl,rfl,fun _ _=>id,rfl,AM _,RdB.same (fun _=>rfl) rfl⟩
def ms (K:BC) (G:BV) (w:Nat) (Z:BC × Nat):Prop:=∃G' X' d,Sit Z.1 G' X'/\Stq w d K Z.1 G G' /\
 ((Z.2=0/\Z.1.s.on=true/\(∀b,¬ X' b)/\Z.1.dd=false/\Rm 0 Z.1/\Told Z.1 G'/\Z.1.nx<=K.nx+8*d) \/
  (Z.2=14/\Z.1.s.on=true/\Z.1.dd=true/\Z.1.nx<=K.nx+8*d) \/
  (Z.2=7/\Z.1.s.on=false/\Z.1.nx<=K.nx+1+8*d))
theorem Sit.cntq{X:Nat->Prop}(h:Sit K G X){q:List Int}(hq:AE.Le q)(x y:Int):Sit { K with qu:=q,rp:=x,md:=y } G X:=
 h.eqv ⟨rfl,rfl,rfl,rfl,rfl,rfl,rfl,rfl,rfl,rfl,rfl,rfl⟩ (((h.wf.qu' hq).rp' x).md' y)
theorem Q4(hn:3<=n)(h:Sit K G No)(hon:K.s.on=true)(hdd:K.dd=false)(hrm:Rm 0 K)(hT:Told K G)(hsq:Sq 0 K){b:Nat}(hb:b<12) :∃Z,rfK n K b=some Z/\ms K G (wM (bad3 K.F)) Z/\Z.1.qu=K.qu:=by
 unfold rfK;have eo:AA.ofV K.L (b:Nat)=AA.ofL K.L b:=by unfold AA.ofV;rw[AI om,AP]
 rw[eo];by_cases hl:AA.ofL K.L b=[]
 ·rw[AJ hl];exact⟨_,rfl,⟨G,No,0,h,(Stq.refl K G).mono om,AK ⟨rfl,hon,fun _=>id,hdd,hrm,hT,by show K.nx<=_;omega⟩⟩,rfl⟩
 ·rw[AI hl];obtain⟨o,ho⟩:∃o,o ∈ (AA.ofL K.L b).map Int.toNat:=by
   cases e:AA.ofL K.L b with
   | nil=>exact absurd e hl
   | cons x r=>exact⟨x.toNat,by simp⟩
  obtain⟨ho25,hoL,hob⟩:=(Ed h.wf.map b).1 o ho;obtain⟨hF0,hF3⟩:=h.blk o ho25 hoL;rw[hob] at hF0 hF3;have hF3':K.F b≠3:=fun e=>by have:=hF3 e;rw[hdd] at this;cases this
  obtain⟨y,ey,G',X',d,hy⟩:=Fg (n:=n) (b:=bad3 K.F) om K G (nwS b (AF.much 3 K.hS (b:Nat)) false) h hon hb hF0 hF3' hdd hrm (AK hT) hsq (AM _);rw[ey];dsimp only;rcases hy with ⟨c0,M,_⟩ | ⟨c14,M⟩ | ⟨c7,M⟩
  ·rw[AI (by rw[c0];simp)];have hMn:=M.nx;have hqu:y.1.qu=K.qu:=M.stp.fx.qu;refine⟨_,rfl,⟨G',No,d,?_,?_,AK ⟨rfl,M.on,fun _=>id,M.dd,M.rm,M.told,by show y.1.nx<=_;omega⟩⟩,hqu⟩
   ·exact M.sit.cntq M.sit.wf.qu _ _
   ·have:=M.stp.stq.trans (Stq.cnt y.1 G' y.1.qu (wrap64 (y.1.rp+1)) (wrap64 (y.1.md+(AA.ofL K.L b).length)));exact this
  ·rw[AJ (by rw[c14];decide)];have hMn:=M.nx;exact⟨_,rfl,⟨G',X',d,M.sit,M.stp.stq,AL (AK ⟨c14,M.on,M.dd,hMn⟩)⟩,M.stp.fx.qu⟩
  ·rw[AJ (by rw[c7];decide)];exact⟨_,rfl,⟨G',X',d,M.sit,M.stp.stq,AL (AL ⟨c7,M.off,M.nx⟩)⟩,M.stp.fx.qu⟩
theorem L8(hn:3<=n):∀(m:Nat) (K:BC) (G:BV),Sit K G No->K.s.on=true->(K.dd=false->Rm 0 K/\Told K G)->Sq 0 K->K.qu.length<m ->∃Z,raK n m K=some Z/\ms K G (K.qu.length*wM 0) Z:=by
 intro m
 induction m with
 | zero=>intro K G _ _ _ _ hm;omega
 | succ m ih=>
  intro K G h hon hrt hsq hm;rw[raK,CN h];have hdc:K.dd=false\/K.dd=true:=by cases K.dd <;> simp
  rcases hdc with hd | hd
  ·rw[AI (by rw[hd];simp)];obtain⟨hrm,hT⟩:=hrt hd;cases hq:K.qu with
   | nil=>exact⟨_,rfl,G,No,0,h,(Stq.refl K G).mono om,AK ⟨rfl,hon,fun _=>id,hd,hrm,hT,by show K.nx<=_;omega⟩⟩
   | cons b l=>
    dsimp only;have hok:=h.wf.qu;rw[hq] at hok hm;have hbb:=hok.2 b (by simp);have h1:Sit { K with qu:=l } G No:=h.cntq hok.tail K.rp K.md;obtain⟨y,ey,hy,hyq⟩:=Q4 hn h1 hon hd hrm hT hsq (b:=b.toNat) om;rw[ey];dsimp only;have s0:Stq 0 0 K { K with qu:=l } G G:=Stq.cnt K G l K.rp K.md;obtain⟨G',X',d,hs,st,hx⟩:=hy;have wle:wM (bad3 K.F)<=wM 0:=D2 (Ac _);have st1:Stq (0+wM (bad3 K.F)) (0+d) K y.1 G G':=s0.trans st;have hbd:=st1.bd;have hlen:(b :: l).length*wM 0=wM 0+l.length*wM 0:=(by rw[An,Nat.add_mul];omega);rw[hlen];rcases hx with ⟨c0,on,hX,dd,rm,td,nx⟩ | ⟨c14,on,dd,nx⟩ | ⟨c7,off,nx⟩
    ·rw[AI (by rw[c0];simp)];replace nx:y.1.nx<=K.nx+8*d:=nx;have hs2:=hs.mono (Y:=fun _=>False) (fun b _ e=>absurd e (hX b));have hyl:y.1.qu.length=l.length:=(by rw[hyq]);obtain⟨Z,eZ,G2,X2,d2,hs3,st3,hz⟩:=ih y.1 G' hs2 on (fun _=>⟨rm,td⟩) (by unfold Sq at hsq ⊢;omega) (by rw[hyl];simp at hm;omega);rw[hyl] at st3;refine⟨Z,eZ,G2,X2,_,hs3,(st1.trans st3).mono om,?_⟩;rcases hz with ⟨a1,a2,a3,a4,a5,a6,a7⟩ | ⟨a1,a2,a3,a7⟩ | ⟨a1,a2,a7⟩
     ·exact AK ⟨a1,a2,a3,a4,a5,a6,om⟩
     ·exact AL (AK ⟨a1,a2,a3,om⟩)
     ·exact AL (AL ⟨a1,a2,om⟩)
    ·rw[AJ (by rw[c14];decide)];replace nx:y.1.nx<=K.nx+8*d:=nx;exact⟨_,rfl,G',X',_,hs,st1.mono om,AL (AK ⟨c14,on,dd,om⟩)⟩
    ·rw[AJ (by rw[c7];decide)];replace nx:y.1.nx<=K.nx+1+8*d:=nx;exact⟨_,rfl,G',X',_,hs,st1.mono om,AL (AL ⟨c7,off,om⟩)⟩
  ·rw[AJ hd];exact⟨_,rfl,G,No,0,h,(Stq.refl K G).mono om,AL (AK ⟨rfl,hon,hd,by show K.nx<=_;omega⟩)⟩
end
section
variable {K K':BC}{G G':BV}{d:Nat}
structure Str (d:Nat) (K K':BC) (G G':BV):Prop where
 a:G'.a=G.a
 z:G'.z=G.z
 fl:K'.fl=K.fl
 lv:∀o,o<24->(K'.L o = -1<->K.L o = -1)
 l24:K.L 24≠-1->K'.L 24≠-1
 vs:∀o,o<24->K'.vs o=K.vs o
 tl:K'.tl=K.tl
 b3:∀b,b<12->K.F b=3->K'.F b=3
 bd:bad3 K'.F=bad3 K.F+d
 nx:K.nx<=K'.nx
theorem Stq.str{m:Nat}(h:Stq m d K K' G G'):Str d K K' G G':=⟨h.a,h.z,h.fl,h.lv,h.l24,h.vs,h.tl,h.b3,h.bd,h.nx⟩
theorem Str.trans{e:Nat}{K'':BC}{G'':BV}(h:Str d K K' G G')(k:Str e K' K'' G' G''):Str (d+e) K K'' G G'':=
 ⟨k.a.trans h.a,k.z.trans h.z,k.fl.trans h.fl,fun o ho=>(k.lv o ho).trans (h.lv o ho),fun x=>k.l24 (h.l24 x),fun o ho=>(k.vs o ho).trans (h.vs o ho),k.tl.trans h.tl,fun b hb x=>k.b3 b hb (h.b3 b hb x),by rw[k.bd,h.bd];omega,AY h.nx k.nx⟩
theorem Eqv.str(h:Eqv K K')(ht:K'.tl=K.tl)(G:BV):Str 0 K K' G G:=
 ⟨rfl,rfl,h.fl,fun o _=>by rw[h.L],by rw[h.L];exact id,fun o _=>by rw[h.vs],ht,fun b _ e=>by rw[h.F];exact e,by rw[h.F];omega,by rw[h.nx];exact AM _⟩
theorem Nn{K1:BC}{p:Nat}{s':BG}{r':Int}{R':Nat->Int}(f:FrD noH K K1 G 24 p s' r' R')(hdd:K.dd=false) :(FrL K1 24 p s' r' R').2=0/\(FrL K1 24 p s' r' R').1.nx=K.nx+1/\(FrL K1 24 p s' r' R').1.F=K.F/\(FrL K1 24 p s' r' R').1.dd=K.dd/\(FrL K1 24 p s' r' R').1.fr=⟨true,K.fr.k,K.fr.i+1⟩/\(FrL K1 24 p s' r' R').1.L 24≠-1/\(FrL K1 24 p s' r' R').1.ca=0/\∃G',Sit (FrL K1 24 p s' r' R').1 G' No/\Told (FrL K1 24 p s' r' R').1 G'/\Str 0 K (FrL K1 24 p s' r' R').1 G G':=by
 obtain⟨e,s1,sp,_,wf,pg⟩:=f;have hfree:=sp.free s1;have hlt:=sp.lt;have hn1:=s1.wf.nx;have hmay:AA.DV ((24:Nat):Int) (p:Int):=⟨⟨om,om⟩,⟨om,om⟩,AK rfl⟩;have hc:AA.setC K1.L ((24:Nat):Int) (p:Int)=0:=by
  unfold AA.setC;rw[AI (fun e=>e hmay),AI (by rw[Bv hfree];simp)]
 have hLL:AA.setL K1.L ((24:Nat):Int) (p:Int)=upd K1.L 24 p:=by unfold AA.setL;rw[AJ hc,AP]
 have eL:FrL K1 24 p s' r' R'=({ K1 with s:=s',r:=r',hR:=R',hN:=R',ca:=0,nx:=K1.nx+1,vs:=upd K1.vs 24 K1.nx,vc:=upd K1.vc 24 0,L:=upd K1.L 24 p,fl:=K1.fl },0):=by
  unfold FrL layK ntK;rw[AJ rfl];dsimp only;rw[hc,hLL]
 rw[eL];have w5:Wf { K1 with nx:=K1.nx+1 }:=⟨s1.wf.chip,s1.wf.rr,s1.wf.frm,s1.wf.map,s1.wf.vs,s1.wf.vp,s1.wf.vc,s1.wf.fl,wf.nx,s1.wf.fr,s1.wf.cu,s1.wf.qu,s1.wf.hea,s1.wf.tl⟩;have hck:=Dm w5 (q:=K1.nx) hn1;have wfin:Wf { K1 with s:=s',r:=r',hR:=R',hN:=R',ca:=0,nx:=K1.nx+1,vs:=upd K1.vs 24 K1.nx,vc:=upd K1.vc 24 0,L:=upd K1.L 24 p,fl:=K1.fl }:=by
  have w1:=(wf.nt).ver (i:=24) (q:=K1.nx) (c:=0) hn1 dc;refine w1.map' (s1.wf.map.put 24 ⟨om,om⟩ (fun e=>om) (Bv hfree)) fun i hi hLi=>?_;show 1<=upd K1.vs 24 K1.nx i;by_cases e:i=24
  ·rw[e];unfold upd;rw[AJ rfl];exact hn1.1
  ·unfold upd;rw[AI e];rw[BP _ _ e] at hLi;exact s1.wf.vp i hi hLi
 have hs:=s1.note (c:=ckK { K1 with nx:=K1.nx+1 } K1.nx) pg sp (by rw[e];exact hdd) (r':=r') (R':=R') (N':=R') (fl':=K1.fl) (L':=upd K1.L 24 p) (a':=G.a) wfin (Be _ _ _) (fun i hi=>AK ⟨BP _ _ om,rfl,rfl⟩) (fun b _=>decide_eq_true_iff) (fun _ _=>rfl) rfl rfl hck;subst e;refine⟨rfl,rfl,rfl,rfl,rfl,?_,rfl,_,hs,fun b _ e=>AO e,⟨rfl,rfl,rfl,fun o ho=>?_,fun _=>?_,fun o ho=>?_,rfl,fun _ _=>id,rfl,Nat.le_succ _⟩⟩
 ·show upd K.L 24 p 24≠-1;rw[Be];omega
 ·show upd K.L 24 p o = -1<->K.L o = -1;rw[BP _ _ om]
 ·show upd K.L 24 p 24≠-1;rw[Be];omega
 ·show upd K.vs 24 K.nx o=K.vs o;unfold upd;rw[AI om]
def nR (j W:Nat) (K:BC) (G:BV) (Z:BC × Nat):Prop:=∃G' X' d,Sit Z.1 G' X'/\Str d K Z.1 G G'/\RdB W K Z.1 /\
 ((Z.2=0/\Z.1.s.on=true/\(∀b,¬ X' b)/\Z.1.dd=false/\Rm 0 Z.1/\Told Z.1 G'/\Z.1.nx<=K.nx+j+8*d) \/
  (Z.2=14/\Z.1.s.on=true/\Z.1.dd=true/\Z.1.nx<=K.nx+j+8*d) \/
  (Z.2=7/\Z.1.s.on=false/\Z.1.nx<=K.nx+j+1+8*d))
theorem TC{n:Nat}(hn:4<=n)(h:Sit K G No)(hon:K.s.on=true)(hrt:K.dd=false->Rm 0 K/\Told K G)(hsq:Sq 1 K) :∃Z,anR (n+1) noH K 24=some Z/\nR 1 (2*((n+3)*wM (bad3 K.F))) K G Z:=by
 have key:=Kx hn Pk (by decide:(24:Nat)<25) (K0:=K) (G0:=G) (P:=fun Z=>∃G' d,Sit Z.1 G' No/\Str d K Z.1 G G'/\RdB (2*((n+3)*wM (bad3 K.F))) K Z.1/\Z.2=0/\Z.1.dd=false/\Rm 0 Z.1/\Told Z.1 G'/\Z.1.nx<=K.nx+1+8*d) (fun K' K1 G' d p s' r' R' _ hdd hrm _ hst hnx hrd fD=>by
  obtain⟨n1,n2,n3,n4,_,_,_,G2,s2,t2,st2⟩:=Nn fD hdd
  refine⟨G2,d+0,s2,hst.stq.str.trans st2,hrd,n1,by rw[n4];exact hdd,?_,t2,by rw[n2];omega⟩
  unfold Rm at hrm ⊢
  rw[n3]
  exact hrm) h hon hrt hsq
 obtain⟨Z,eZ,hZ⟩:=key;refine⟨Z,eZ,?_⟩;rcases hZ with ⟨on,G',d,s,st,rd,c,dd,rm,td,nx⟩ | ⟨G',X',d,s,st,hx⟩
 ·exact⟨G',No,d,s,st,rd,AK ⟨c,on,fun _=>id,dd,rm,td,nx⟩⟩
 ·refine⟨G',X',d,s,st.stq.str,st.rd,?_⟩;rcases hx with ⟨c,on,dd,nx⟩ | ⟨c,off,nx⟩
  ·exact AL (AK ⟨c,on,dd,nx⟩)
  ·exact AL (AL ⟨c,off,om⟩)
end
structure Ivk (K:BC) (G:BV):Prop where
 on:K.s.on=true
 sit:∃X,Sit K G X/\(K.dd=false->(∀b,¬ X b)/\Rm 0 K/\Told K G)
def nS (W:Nat) (K:BC) (G:BV) (Z:BC × Nat):Prop:=∃G' d,Str d K Z.1 G G'/\RdB W K Z.1/\((Z.2=0/\Ivk Z.1 G'/\Z.1.nx<=K.nx+1+8*d/\(Z.1.dd=false->Z.1.ca<8))\/(Z.2=7/\Z.1.s.on=false/\(∃X,Sit Z.1 G' X)/\Z.1.nx<=K.nx+2+8*d))
theorem Q5{n m:Nat}(hn:4<=n)(hm:13<=m){K:BC}{G:BV}(h:Ivk K G)(hsq:Sq 1 K) :∃Z,tdK (n+1) m K=some Z/\nS (8+12*wM 0+2*((n+3)*wM 0)) K G Z:=by
 obtain⟨on,X,hs,hd⟩:=h;unfold tdK;have s1:=hs.pstep;obtain⟨e2,on2,a2,w2,t2,r2⟩:=Gw K.cu 8 0 { K with cu:=(K.cu+8) % 96,ca:=K.ca+1 } s1.wf on;generalize tdI K.cu 8 0 { K with cu:=(K.cu+8) % 96,ca:=K.ca+1 }=Y at *
 have s2:=s1.eqv a2 w2;have s3:=s2.eqv (L7 Y.1) (Wt w2);have st0:Str 0 K { K with cu:=(K.cu+8) % 96,ca:=K.ca+1 } G G:=⟨rfl,rfl,rfl,fun _ _=>Iff.rfl,id,fun _ _=>rfl,rfl,fun _ _=>id,rfl,AM _⟩;have st3:Str (0+(0+0)) K (awK Y.1) G G:=st0.trans ((a2.str t2 G).trans ((L7 Y.1).str rfl G));have r0:RdB 0 K { K with cu:=(K.cu+8) % 96,ca:=K.ca+1 }:=RdB.same (fun _=>rfl) rfl;have r3:RdB (0+(8+0)) K (awK Y.1):=r0.trans (r2.trans (gj Y.1));have eF:(awK Y.1).F=K.F:=a2.F;have eD:(awK Y.1).dd=K.dd:=a2.dd;have eN:(awK Y.1).nx=K.nx:=a2.nx;have on3:(awK Y.1).s.on=true:=on2;unfold OG;rw[AI (by rw[e2];simp)];generalize awK Y.1=K3 at *
 clear a2 w2 t2 r2 s1 s2 st0 r0 on2 e2;have hdc:K.dd=false\/K.dd=true:=by cases K.dd <;> simp
 rcases hdc with hdd | hdd
 ·obtain⟨hX,hrm,hT⟩:=hd hdd;have s4:Sit K3 G No:=s3.mono (fun b _ e=>absurd e (hX b));have hrm3:Rm 0 K3:=by unfold Rm at hrm ⊢;rw[eF];exact hrm
  have hT3:Told K3 G:=fun b hb e=>hT b hb (by rw[<-eF];exact e);have hl:=s4.wf.qu.len;obtain⟨y,ey,G4,X4,d4,s5,st5,hy⟩:=L8 (n:=n+1) om m K3 G s4 on3 (fun _=>⟨hrm3,hT3⟩) (by unfold Sq at hsq ⊢;rw[eF,eN];omega) om;rw[ey];dsimp only;have st6:=st3.trans st5.str;have r6:=r3.trans st5.rd;have hw12:K3.qu.length*wM 0<=12*wM 0:=Nat.mul_le_mul_right _ hl;have hbd:=st6.bd;rcases hy with ⟨c0,yon,yX,ydd,yrm,yT,ynx⟩ | ⟨c14,yon,ydd,ynx⟩ | ⟨c7,yoff,ynx⟩
  ·rw[AI (by rw[c0];simp)];have s7:=s5.mono (Y:=fun _=>False) (fun b _ e=>absurd e (yX b));by_cases hdue:8<=y.1.ca\/AF.Sc y.1.hR y.1.hN=true
   ·rw[AJ hdue];obtain⟨Z,eZ,G8,X8,d8,s8,st8,r8,hz⟩:=TC hn s7 yon (fun _=>⟨yrm,yT⟩) (by unfold Sq at hsq ⊢;omega);rw[eZ];have wle:2*((n+3)*wM (bad3 y.1.F))<=2*((n+3)*wM 0):=Nat.mul_le_mul_left _ (Nat.mul_le_mul_left _ (D2 (Ac _)));refine⟨_,rfl,G8,_,st6.trans st8,(r6.trans r8).mono om,?_⟩;rcases hz with ⟨a1,a2,a3,a4,a5,a6,a7⟩ | ⟨a1,a2,a3,a7⟩ | ⟨a1,a2,a7⟩
    ·exact AK ⟨by show Kr Z.2=0;rw[a1];rfl,⟨a2,X8,s8,fun _=>⟨a3,a5,a6⟩⟩,by show Z.1.nx<=_;omega,fun _=>by show Z.1.ca<8;rw[(Lx _ _ _ _ _ eZ).2 rfl a1];decide⟩
    ·exact AK ⟨by show Kr Z.2=0;rw[a1];rfl,⟨a2,X8,s8,fun e=>by rw[show Z.1.dd=true from a3] at e;cases e⟩,by show Z.1.nx<=_;omega,fun e=>by rw[show Z.1.dd=true from a3] at e;cases e⟩
    ·exact AL ⟨by show Kr Z.2=7;rw[a1];rfl,a2,⟨X8,s8⟩,by show Z.1.nx<=_;omega⟩
   ·rw[AI hdue];exact⟨_,rfl,G4,_,st6,r6.mono om,AK ⟨rfl,⟨yon,X4,s5,fun _=>⟨yX,yrm,yT⟩⟩,by show y.1.nx<=_;omega,fun _=>by show y.1.ca<8;exact Nat.lt_of_not_le fun e=>hdue (AK e)⟩⟩
  ·rw[AJ (by rw[c14];decide)];exact⟨_,rfl,G4,_,st6,r6.mono om,AK ⟨by show Kr y.2=0;rw[c14];rfl,⟨yon,X4,s5,fun e=>by rw[show y.1.dd=true from ydd] at e;cases e⟩,by show y.1.nx<=_;omega,fun e=>by rw[show y.1.dd=true from ydd] at e;cases e⟩⟩
  ·rw[AJ (by rw[c7];decide)];exact⟨_,rfl,G4,_,st6,r6.mono om,AL ⟨by show Kr y.2=7;rw[c7];rfl,yoff,⟨X4,s5⟩,by show y.1.nx<=_;omega⟩⟩
 ·obtain⟨m',rfl⟩:∃m',m=m'+1:=⟨m - 1,om⟩;rw[raK,CN s3,eD,hdd,AJ rfl];dsimp only;rw[AJ dc];exact⟨_,rfl,G,_,st3,r3.mono om,AK ⟨rfl,⟨on3,X,s3,fun e=>by rw[show K3.dd=true from eD.trans hdd] at e;cases e⟩,by show K3.nx<=_;omega,fun e=>by rw[show K3.dd=true from eD.trans hdd] at e;cases e⟩⟩
section
variable {K:BC}{G:BV}{o:Nat}{D:List Nat}
theorem Q6{H:Dp}{K1:BC}{p:Nat}{s':BG}{r':Int}{R':Nat->Int}(ho:o<24)(f:FrD H K K1 G o p s' r' R')(h24:K.L 24≠-1)(hH:H { K1 with nx:=K1.nx+1 } K1.nx=D) :(FrL K1 o p s' r' R').2=0/\(FrL K1 o p s' r' R').1.nx=K.nx+1/\(FrL K1 o p s' r' R').1.F=K.F/\(FrL K1 o p s' r' R').1.dd=K.dd/\(FrL K1 o p s' r' R').1.L=upd K.L o p/\(FrL K1 o p s' r' R').1.fl=K.fl/\(FrL K1 o p s' r' R').1.tl=K.tl/\∃T,Sit (FrL K1 o p s' r' R').1 { G with T:=T,a:=Dn G.a o D,z:=fun x=>x≠o/\G.z x } No:=by
 obtain⟨e,s1,sp,h6,wf,pg⟩:=f;have hfree:=sp.free s1;have hlt:=sp.lt;have hn1:=s1.wf.nx;have h6':p % 8<6:=h6.elim (fun e=>om) id;have hmay:AA.DV ((o:Nat):Int) (p:Int):=⟨⟨om,om⟩,⟨om,om⟩,AL om⟩;have hc:AA.setC K1.L ((o:Nat):Int) (p:Int)=0:=by
  unfold AA.setC;rw[AI (fun e=>e hmay),AI (by rw[Bv hfree];simp)]
 have hLL:AA.setL K1.L ((o:Nat):Int) (p:Int)=upd K1.L o p:=by unfold AA.setL;rw[AJ hc,AP]
 have eL:FrL K1 o p s' r' R'=({ K1 with s:=s',r:=r',hR:=R',nx:=K1.nx+1,vs:=upd K1.vs o K1.nx,vc:=upd K1.vc o 0,L:=upd K1.L o p },0):=by
  unfold FrL layK;rw[AI om];dsimp only;rw[hc,hLL]
 rw[eL];rw[hH] at pg;have h24':K1.L 24≠-1:=by rw[e];exact h24
 have hs:=s1.put ho pg sp h6' h24' (r':=r') (R':=R') wf;subst e;exact⟨rfl,rfl,rfl,rfl,rfl,rfl,rfl,_,hs⟩
def mt (W:Nat) (K:BC) (G:BV) (o:Nat) (D:List Nat) (Z:BC × Nat):Prop:=
 (Z.2=0/\∃G' d,Ivk Z.1 G'/\G'.a=Dn G.a o D/\G'.z=(fun x=>x≠o/\G.z x)/\RdB W K Z.1/\Z.1.L 24≠-1/\Z.1.L o≠-1/\(∀x,x<24->x≠o->(Z.1.L x = -1<->K.L x = -1))/\Z.1.fl=K.fl/\Z.1.tl=K.tl/\Z.1.dd=false/\bad3 Z.1.F=bad3 K.F+d/\Z.1.nx<=K.nx+1+8*d) \/
 ∃G' d,Str d K Z.1 G G'/\RdB W K Z.1/\((Z.2=14/\Ivk Z.1 G'/\Z.1.dd=true/\Z.1.nx<=K.nx+1+8*d)\/(Z.2=7/\Z.1.s.on=false/\(∃X,Sit Z.1 G' X)/\Z.1.nx<=K.nx+2+8*d))
theorem Wu{n:Nat}(hn:4<=n)(h:Sit K G No)(hon:K.s.on=true)(hrt:K.dd=false->Rm 0 K/\Told K G)(h24:K.L 24≠-1)(hsq:Sq 1 K)(ho:o<24)(hD:D.length=174)(bD:Bys D) :∃Z,anR (n+1) (fun _ _=>D) K o=some Z/\mt (2*((n+3)*wM (bad3 K.F))) K G o D Z:=by
 have key:=Kx hn (H:=fun _ _=>D) (fun _ _=>⟨hD,bD⟩) (by omega:o<25) (K0:=K) (G0:=G) (P:=fun Z=>Z.2=0/\∃T c d,Sit Z.1 { T:=T,c:=c,a:=Dn G.a o D,z:=fun x=>x≠o/\G.z x } No/\(∀b,b<12->Z.1.F b=3->c.B b=true)/\Rm 0 Z.1/\RdB (2*((n+3)*wM (bad3 K.F))) K Z.1/\Z.1.L 24≠-1/\Z.1.L o≠-1/\(∀x,x<24->x≠o->(Z.1.L x = -1<->K.L x = -1))/\Z.1.fl=K.fl/\Z.1.tl=K.tl/\Z.1.dd=false/\bad3 Z.1.F=bad3 K.F+d/\Z.1.nx<=K.nx+1+8*d) (fun K' K1 G' d p s' r' R' _ hdd hrm hT hst hnx hrd fD=>by
  obtain⟨n1,n2,n3,n4,n5,n6,n7,T,s2⟩:=Q6 ho fD (hst.l24 h24) rfl
  have ez:G'.z=G.z:=hst.z
  have ea:G'.a=G.a:=hst.a
  rw[ez,ea] at s2
  refine⟨n1,T,G'.c,d,s2,fun b hb e=>hT b hb (by rw[<-n3];exact e),?_,hrd,?_,?_,fun x hx hxo=>?_,n6.trans hst.fl,n7.trans hst.fx.tl,by rw[n4];exact hdd,by rw[n3];exact hst.bd,by rw[n2];omega⟩
  ·
   unfold Rm at hrm ⊢
   rw[n3]
   exact hrm
  ·
   rw[n5,BP _ _ om]
   exact hst.l24 h24
  ·
   rw[n5,Be]
   omega
  ·
   rw[n5,BP _ _ hxo]
   exact hst.lv x hx) h hon hrt hsq
 obtain⟨Z,eZ,hZ⟩:=key;refine⟨Z,eZ,?_⟩;rcases hZ with ⟨on,c0,T,c,d,s,td,rm,rd,q1,q2,q3,q4,q5,q6,q7,q8⟩ | ⟨G',X',d,s,st,hx⟩
 ·exact AK ⟨c0,_,d,⟨on,_,s,fun _=>⟨fun _=>id,rm,td⟩⟩,rfl,rfl,rd,q1,q2,q3,q4,q5,q6,q7,q8⟩
 ·refine AL ⟨G',d,st.stq.str,st.rd,?_⟩;rcases hx with ⟨c,on,dd,nx⟩ | ⟨c,off,nx⟩
  ·exact AK ⟨c,⟨on,X',s,fun e=>by rw[dd] at e;cases e⟩,dd,nx⟩
  ·exact AL ⟨c,off,⟨X',s⟩,nx⟩
end
section
variable {K:BC}{G:BV}{o:Nat}{X:Nat->Prop}
theorem Ivk.eqv{K':BC}(h:Ivk K G)(a:Eqv K K')(wf:Wf K')(on:K'.s.on=true):Ivk K' G:=by
 obtain⟨_,X,hs,hd⟩:=h;refine⟨on,X,hs.eqv a wf,fun e=>?_⟩;rw[a.dd] at e;obtain⟨h1,h2,h3⟩:=hd e;refine⟨h1,?_,fun b hb eb=>h3 b hb (by rw[<-a.F];exact eb)⟩;unfold Rm at h2 ⊢;rw[a.F];exact h2
theorem Q7(h:Ivk K G)(ho:o<24) :∃K',Ivk K' G/\Eqv K K'/\K'.tl=K.tl/\RdB 1 K K'/\(geK K o=(K',(G.a o).take 160,0)\/(G.z o/\geK K o=(K',[],13))):=by
 obtain⟨on,X,hs,hd⟩:=id h;unfold geK;by_cases hL:K.L o = -1
 ·rw[AJ hL,hs.nul o ho hL];exact⟨K,h,Eqv.refl K,rfl,(RdB.refl K).mono om,AK (by simp)⟩
 ·rw[AI hL];obtain⟨hlt,_⟩:=hs.wf.lt (by omega:o<25) hL;obtain⟨l,D,hl⟩:=hs.liv o om hL;obtain⟨e,on',a,wf,pg,tl,rd⟩:=Iz hs.wf hlt on;obtain⟨q1,q2,q3,q4⟩:=Lz hs.wf.tl hs.wf.chip hs.rep hl.tab hl.gh;rw[<-pg] at q1 q2 q3 q4;generalize inK K (K.L o).toNat=x at *
  dsimp only;rw[AI (by rw[e];simp)];refine⟨x.1,h.eqv a wf on',a,tl,rd,?_⟩;by_cases hso:x.2.1.sound=true
  ·obtain⟨ht,hdt⟩:=q4 hso;obtain⟨_,_,_,_,hle⟩:=q3 ht;have hle':x.2.1.l=l:=hle;cases l with
   | true=>
    rw[AJ (AL hle')];exact AL ⟨hl.lost rfl,rfl⟩
   | false=>
    rw[AI (by rw[hso,hle'];simp)];have:=hl.data rfl;rw[AI om] at this;rw[hdt,this];exact AK rfl
  ·have hsf:x.2.1.sound=false:=(by simpa using hso);rw[AJ (AK hsf)];exact AL ⟨Classical.byContradiction fun hz=>hso (q1.2 (hl.gd hz)),rfl⟩
theorem Sit.rez(h:Sit K G X){z':Nat->Prop}(hz:∀o,o<25->K.L o≠-1->(z' o<->G.z o))(h24:¬ z' 24):Sit K { G with z:=z' } X where
 wf:=h.wf
 rep:=h.rep
 sts:=h.sts
 frs:=h.frs
 opn:=h.opn
 frn:=h.frn
 liv:=fun o ho hL=>by
  obtain⟨l,D,hl⟩:=h.liv o ho hL
  exact⟨l,D,⟨hl.tab,fun e=>(hz o ho hL).2 (hl.lost e),hl.data,hl.gh,fun e=>hl.gd fun k=>e ((hz o ho hL).2 k)⟩⟩
 nul:=h.nul
 blk:=h.blk
 flo:=h.flo
 old:=h.old
 seq:=h.seq
 fls:=h.fls
 sp:=h.sp
 dds:=h.dds
 cb:=h.cb
 cf:=h.cf
 cn:=h.cn
 nw:=h.nw
 z24:=h24
 lb:=h.lb
theorem Wv{K1:BC}{p:Nat}{s':BG}{r':Int}{R':Nat->Int}(ho:o<24)(f:FrD (tmH o (K.vs o:Nat)) K K1 G 24 p s' r' R')(hL:K.L o≠-1)(hdd:K.dd=false) :(FrL K1 24 p s' r' R').2=0/\(FrL K1 24 p s' r' R').1.nx=K.nx+1/\(FrL K1 24 p s' r' R').1.F=K.F/\(FrL K1 24 p s' r' R').1.dd=K.dd/\(FrL K1 24 p s' r' R').1.L=upd K.L 24 p/\(FrL K1 24 p s' r' R').1.tl=K.tl/\(FrL K1 24 p s' r' R').1.fl=K.fl/\AA.atC (FrL K1 24 p s' r' R').1.L (o:Nat)=0/\AA.EL (FrL K1 24 p s' r' R').1.L (o:Nat)=upd (upd K.L 24 p) o (-1) /\∃G',G'.a=Dn G.a o (List.replicate 174 0)/\G'.z=(fun x=>x≠o/\G.z x)/\Sit { (FrL K1 24 p s' r' R').1 with fl:=upd (FrL K1 24 p s' r' R').1.fl o (K.vs o:Nat),L:=AA.EL (FrL K1 24 p s' r' R').1.L (o:Nat) } G' No/\(∀b,b<12->K.F b=3->G'.c.B b=true):=by
 obtain⟨e,s1,sp,_,wf,pg⟩:=f;have hfree:=sp.free s1;have hlt:=sp.lt;have hn1:=s1.wf.nx;have hmay:AA.DV ((24:Nat):Int) (p:Int):=⟨⟨om,om⟩,⟨om,om⟩,AK rfl⟩;have hc:AA.setC K1.L ((24:Nat):Int) (p:Int)=0:=by
  unfold AA.setC;rw[AI (fun e=>e hmay),AI (by rw[Bv hfree];simp)]
 have hLL:AA.setL K1.L ((24:Nat):Int) (p:Int)=upd K1.L 24 p:=by unfold AA.setL;rw[AJ hc,AP]
 have eL:FrL K1 24 p s' r' R'=({ K1 with s:=s',r:=r',hR:=R',hN:=R',ca:=0,nx:=K1.nx+1,vs:=upd K1.vs 24 K1.nx,vc:=upd K1.vc 24 0,L:=upd K1.L 24 p,fl:=K1.fl },0):=by
  unfold FrL layK ntK;rw[AJ rfl];dsimp only;rw[hc,hLL]
 have eLo:K1.L o=K.L o:=by rw[e]
 have eVo:K1.vs o=K.vs o:=by rw[e]
 have hLo:upd K1.L 24 p o≠-1:=by rw[BP _ _ om,eLo];exact hL
 have hat:AA.atC (upd K1.L 24 p) (o:Nat)=0:=by
  unfold AA.atC;rw[AI om,AP,AI hLo]
 have hdr:AA.EL (upd K1.L 24 p) (o:Nat)=upd (upd K1.L 24 p) o (-1):=by
  unfold AA.EL;rw[AJ hat,AP]
 have w5:Wf { K1 with nx:=K1.nx+1 }:=⟨s1.wf.chip,s1.wf.rr,s1.wf.frm,s1.wf.map,s1.wf.vs,s1.wf.vp,s1.wf.vc,s1.wf.fl,wf.nx,s1.wf.fr,s1.wf.cu,s1.wf.qu,s1.wf.hea,s1.wf.tl⟩;have hck:=Dm w5 (q:=K1.nx) hn1;have hvo:=s1.wf.vs o om;have hz:0<=((K1.vs o:Nat):Int)/\((K1.vs o:Nat):Int)<=1099511627775:=om
 have hck':AB.Zx { ckK { K1 with nx:=K1.nx+1 } K1.nx with F:=upd (ckK { K1 with nx:=K1.nx+1 } K1.nx).F o (K1.vs o:Nat) }:=⟨fun i hi=>by
  show 0<=upd _ o _ i/\upd _ o _ i<=1099511627775
  unfold upd
  split
  ·
   exact hz
  ·
   exact hck.F i hi,hck.N,hck.C,hck.R,hck.S⟩
 have hOk:AA.Okl (upd (upd K1.L 24 p) o (-1)):=(s1.wf.map.put 24 ⟨om,om⟩ (fun e=>om) (Bv hfree)).clear o;have wfin:Wf { K1 with s:=s',r:=r',hR:=R',hN:=R',ca:=0,nx:=K1.nx+1,vs:=upd K1.vs 24 K1.nx,vc:=upd K1.vc 24 0,L:=upd (upd K1.L 24 p) o (-1),fl:=upd K1.fl o (K1.vs o:Nat) }:=by
  have w1:=((wf.nt).ver (i:=24) (q:=K1.nx) (c:=0) hn1 dc).fl' (o:=o) hz;refine w1.map' hOk fun i hi hLi=>?_;show 1<=upd K1.vs 24 K1.nx i;by_cases e:i=24
  ·rw[e];unfold upd;rw[AJ rfl];exact hn1.1
  ·by_cases e':i=o
   ·subst e';rw[Be] at hLi;exact absurd rfl hLi
   ·rw[BP _ _ e',BP _ _ e] at hLi;unfold upd;rw[AI e];exact s1.wf.vp i hi hLi
 have hs:=s1.note (c:={ ckK { K1 with nx:=K1.nx+1 } K1.nx with F:=upd (ckK { K1 with nx:=K1.nx+1 } K1.nx).F o (K1.vs o:Nat) }) (by rw[eVo];exact pg) sp (by rw[e];exact hdd) (r':=r') (R':=R') (N':=R') (fl':=upd K1.fl o (K1.vs o:Nat)) (L':=upd (upd K1.L 24 p) o (-1)) (a':=Dn G.a o (List.replicate 174 0)) wfin (by rw[BP _ _ om,Be]) (fun i hi=>by
  by_cases e':i=o
  ·
   subst e'
   refine AL ⟨Be _ _ _,by rw[eLo];exact hL,Be _ _ _,?_⟩
   unfold Dn
   rw[AJ rfl]
  ·
   refine AK ⟨by rw[BP _ _ e',BP _ _ om],BP _ _ e',?_⟩
   unfold Dn
   rw[AI e']) (fun b _=>decide_eq_true_iff) (fun _ _=>rfl) rfl rfl hck'
 have hs2:=hs.rez (z':=fun x=>x≠o/\G.z x) (fun i _ hLi=>by
  have:i≠o:=fun e'=>by
   subst e'
   exact hLi (Be _ _ _)
  exact⟨fun k=>k.2,fun k=>⟨this,k⟩⟩) (fun k=>s1.z24 k.2)
 rw[eL];subst e;rw[<-hdr] at hs2;exact⟨rfl,rfl,rfl,rfl,rfl,rfl,rfl,hat,hdr,_,rfl,rfl,hs2,fun b _ e=>AO e⟩
def mD (W:Nat) (K:BC) (G:BV) (Z:BC × Nat):Prop:=∃G' d,Str d K Z.1 G G'/\RdB W K Z.1/\((Z.2=14/\Ivk Z.1 G'/\Z.1.dd=true/\Z.1.nx<=K.nx+1+8*d)\/(Z.2=7/\Z.1.s.on=false/\(∃X,Sit Z.1 G' X)/\Z.1.nx<=K.nx+2+8*d))
theorem Str.refl(K:BC)(G:BV):Str 0 K K G G:=⟨rfl,rfl,rfl,fun _ _=>Iff.rfl,id,fun _ _=>rfl,rfl,fun _ _=>id,rfl,AM _⟩
theorem aT(h:Sit K G X)(hd:K.dd=true)(n:Nat)(H:Dp)(o:Nat):anR (n+1) H K o=some (K,14):=by
 show anK _ _ H (n+1) K o=_;rw[anK,CN h,hd,AJ (AK rfl)]
theorem mD.dead(h:Ivk K G)(hd:K.dd=true)(W:Nat):mD W K G (K,14):=
 ⟨G,0,Str.refl K G,(RdB.refl K).mono (Ac _),AK ⟨rfl,h,hd,by show K.nx<=_;omega⟩⟩
theorem Q8{n:Nat}(hn:4<=n)(h:Ivk K G)(h24:K.L 24≠-1)(hsq:Sq 1 K)(ho:o<24){D:List Nat}(hD:D.length=174)(bD:Bys D) :∃Z,anR (n+1) (fun _ _=>D) K o=some Z/\Z.1.ca<=K.ca/\mt (2*((n+3)*wM 0)) K G o D Z:=by
 obtain⟨on,X,hs,hd⟩:=id h;have wle:2*((n+3)*wM (bad3 K.F))<=2*((n+3)*wM 0):=Nat.mul_le_mul_left _ (Nat.mul_le_mul_left _ (D2 (Ac _)));cases hdd:K.dd with
 | true=>exact⟨_,aT hs hdd n _ o,AM _,AL (mD.dead h hdd _)⟩
 | false=>
  obtain⟨hX,hrm,hT⟩:=hd hdd;obtain⟨Z,e,hz⟩:=Wu hn (hs.mono fun b _ e=>absurd e (hX b)) on (fun _=>⟨hrm,hT⟩) h24 hsq ho hD bD;refine⟨Z,e,(Lx _ _ _ _ _ e).1,?_⟩;rcases hz with ⟨c,G',d,q1,q2,q3,rd,q⟩ | ⟨G',d,st,rd,q⟩
  ·exact AK ⟨c,G',d,q1,q2,q3,rd.mono wle,q⟩
  ·exact AL ⟨G',d,st,rd.mono wle,q⟩
end
section
variable {s:BG}{K:BC}{H:Dp}{o:Nat}{G:BV}
structure Fine (s:BG):Prop where
 on:s.on=true
 lim:s.lim=false
 bl:∀b,(s.bl b).failed=false/\(s.bl b).wf=false/\(s.bl b).ef=false
theorem Fine.setBl(h:Fine s)(b:Nat)(x:JT)(hx:x.failed=false/\x.wf=false/\x.ef=false):Fine (s.setBl b x):=⟨h.on,h.lim,fun j=>by
 show ((if j=b then x else s.bl j).failed=false)/\_
 by_cases e:j=b
 ·
  simp only[BG.setBl,AJ e];exact hx
 ·
  simp only[BG.setBl,AI e];exact h.bl j⟩
theorem Fine.setCh(h:Fine s)(c:Nat)(k:GY):Fine (s.setCh c k):=⟨h.on,h.lim,h.bl⟩
theorem Fine.go(h:Fine s):Fine (Ik s):=⟨h.on,h.lim,h.bl⟩
theorem Fine.failW(h:Fine s)(b:Nat):(failW (s.bl b)).failed=false/\(failW (s.bl b)).wf=false/\(failW (s.bl b)).ef=false:=by
 obtain⟨h1,h2,h3⟩:=h.bl b;refine⟨?_,h2,h3⟩;show ((s.bl b).failed || ((s.bl b).wf && _))=false;rw[h1,h2];rfl
theorem Fine.failE(h:Fine s)(b:Nat):(failE (s.bl b)).failed=false/\(failE (s.bl b)).wf=false/\(failE (s.bl b)).ef=false:=by
 obtain⟨h1,h2,h3⟩:=h.bl b;refine⟨?_,h2,h3⟩;show ((s.bl b).failed || (s.bl b).ef)=false;rw[h1,h3];rfl
theorem Fine.write(h:Fine s)(a k:Int)(l:List Nat):Fine (writeR s a k l).1/\(writeR s a k l).2≠7/\(writeR s a k l).2≠8:=by
 unfold writeR;split
 ·exact⟨h,by simp,by simp⟩
 ·rw[AI (by rw[h.on];decide)];split
  ·exact⟨h,by simp,by simp⟩
  ·rw[AI (by rw[h.lim];simp),AI (by rw[(h.failW _).1];decide)];exact⟨(h.go.setBl _ _ (h.failW _)).setCh _ _,by simp,by simp⟩
theorem Fine.erase(h:Fine s)(b:Int):Fine (eraseR s b).1/\(eraseR s b).2≠7/\(eraseR s b).2≠8:=by
 unfold eraseR;split
 ·exact⟨h,by simp,by simp⟩
 ·rw[AI (by rw[h.on];decide),AI (by rw[h.lim];simp),AI (by rw[(h.failE _).1];decide)];refine⟨?_,by simp,by simp⟩;have h1:=h.go.setBl b.toNat _ (h.failE b.toNat);have h2:=h1.setBl b.toNat { ((Ik s).setBl b.toNat (Go.Proofs.YtbhbilcieodbhaaGreat.failE (s.bl b.toNat))).bl b.toNat with reads:=0 } (h1.bl b.toNat);exact⟨h2.on,h2.lim,h2.bl⟩
theorem Fine.rd(h:Fine s)(a:Nat):Fine (TQ s a):=h.setBl _ _ (h.bl _)
theorem Fine.wrN(h:Fine s)(a:Int)(W:Nat->List Nat):∀n,Fine (wrN s a W n).1/\(wrN s a W n).2≠7/\(wrN s a W n).2≠8:=by
 intro n
 induction n with
 | zero=>exact⟨h,show (0:Nat)≠7 by decide,show (0:Nat)≠8 by decide⟩
 | succ n ih=>
  rw[Go.Proofs.YtbhbilcieodbhaaGreat.wrN];split
  ·exact ih.1.write _ _ _
  ·exact ih
theorem Fine.readV(h:Fine s)(a:Int):Fine (readV s a).1/\(readV s a).2.2≠7:=by
 unfold Go.Proofs.YtbhbilcieodbhaaGreat.readV;split
 ·exact⟨h,by simp⟩
 ·rw[AI (by rw[h.on];decide)];exact⟨h.rd _,by simp⟩
theorem Fine.prF(h:Fine s)(tl:List Nat->Int->Pg)(r:Int)(t:Bu)(D:List Nat):Fine (prF tl s r t D).1/\((prF tl s r t D).2.1=1\/((prF tl s r t D).2.2≠7/\(prF tl s r t D).2.2≠8)):=by
 unfold Go.Proofs.YtbhbilcieodbhaaGreat.prF;have h1:=h.wrN t.p (wordOf D (body t.p t.o t.q t.c t.l)) 4;generalize Go.Proofs.YtbhbilcieodbhaaGreat.wrN s t.p (wordOf D (body t.p t.o t.q t.c t.l)) 4=X at *
 dsimp only;by_cases h2:X.2≠0
 ·rw[AJ h2];exact⟨h1.1,AL h1.2⟩
 ·rw[AI h2];have h3:=h1.1.readV t.p;unfold rdF;by_cases h4:(Go.Proofs.YtbhbilcieodbhaaGreat.readV X.1 t.p).2.2=0
  ·rw[AJ h4];dsimp only;rw[AI (by simp)];exact⟨h3.1,AK rfl⟩
  ·rw[AI h4];dsimp only;rw[AJ h4];refine⟨h3.1,AL ⟨h3.2,?_⟩⟩;show (Go.Proofs.YtbhbilcieodbhaaGreat.readV X.1 t.p).2.2≠8;unfold Go.Proofs.YtbhbilcieodbhaaGreat.readV;split
   ·simp
   ·split <;> simp
theorem MA(h:Wf K){T:KK}(hR:Ly K.s T){t:Bu}{D:List Nat}(hp:t.p<96)(hE:cQ t.p t D)(hB:Erd K.s t.p)(hf:Fine K.s):(prK K t D).2=0/\Fine (prK K t D).1.s:=by
 have h1:=hf.prF K.tl K.r t D;have h2:=Ng h.tl h.chip hR hp hE hf.on hB K.r;unfold prK;dsimp only;refine⟨?_,h1.1⟩;rcases h2 with ⟨a,_⟩ | ⟨a,b,_⟩ | ⟨a,b,_⟩
 ·rw[a];rfl
 ·rcases h1.2 with c | ⟨_,c⟩
  ·rw[b] at c;cases c
  ·exact absurd a c
 ·rcases h1.2 with c | ⟨c,_⟩
  ·rw[b] at c;cases c
  ·exact absurd a c
theorem Q9(h:Wf K){b:Nat}(hb:b<12)(hf:Fine K.s):(erK K b).2=0/\Fine (erK K b).1.s:=by
 have h1:=hf.erase b;have h2:=FI h.chip hb hf.on;have h0:(eraseR K.s b).2=0:=by
  rcases h2 with ⟨a,_⟩ | ⟨a,_⟩ | ⟨a,_⟩
  ·exact a
  ·exact absurd a h1.2.2
  ·exact absurd a h1.2.1
 unfold erK;dsimp only;rw[AJ h0];exact⟨rfl,h1.1⟩
theorem I0(hH:∀K q,(H K q).length=174/\Bys (H K q))(h:Sit K G No)(hf:Fine K.s)(ho25:o<25)(hr:AC.rmV K.fr o=true)(hnx:K.nx<DX) :AC.nxC K.fr o=0/\∃K1 s' r' R',FrD H K K1 G o (8*K.fr.k+K.fr.i) s' r' R'/\Fine s'/\RdB 1 K (FrL K1 o (8*K.fr.k+K.fr.i) s' r' R').1 /\(frK H { K with fr:=AC.tkS K.fr o } (AC.nxV K.fr o).toNat o).2.2=0/\layK (frK H { K with fr:=AC.tkS K.fr o } (AC.nxV K.fr o).toNat o).1 (frK H { K with fr:=AC.tkS K.fr o } (AC.nxV K.fr o).toNat o).2.1=FrL K1 o (8*K.fr.k+K.fr.i) s' r' R':=by
 obtain⟨t1,t2,t3,t4,t5,t6,t7,t8⟩:=h.take ho25 hr;have hrd:RdB 1 K (frK H { K with fr:=⟨true,K.fr.k,K.fr.i+1⟩ } (8*K.fr.k+K.fr.i) o).1:=by
  have h0:RdB 0 K { K with fr:=⟨true,K.fr.k,K.fr.i+1⟩ }:=RdB.same (fun _=>rfl) rfl;exact h0.trans (Pe H _ _ o)
 rw[t2,t3];refine⟨t1,?_⟩;have e:sqK { K with fr:=⟨true,K.fr.k,K.fr.i+1⟩ }={ K with fr:=⟨true,K.fr.k,K.fr.i+1⟩,nx:=K.nx+1 }:=by
  unfold sqK;have e1:decide (K.nx=DX)=K.sp:=by rw[h.sp];exact AN om
  have e2:min (K.nx+1) DX=K.nx+1:=om
  dsimp only;rw[e1,e2]
 obtain⟨s',r',R',wf,hx⟩:=Js t4.wf t4.sp hnx t4.rep hf.on t5.lt ho25 t6 t5.er H rfl (hH _ _).1 (hH _ _).2;have hn:=h.wf.nx;have hM:DV ((8*K.fr.k+K.fr.i:Nat):Int) (o:Nat) (K.nx:Nat) ((0:Nat):Int) false:=by
  unfold DX at hnx;have:=t5.lt;refine⟨⟨om,om,om,om⟩,?_⟩;by_cases e24:o=24
  ·exact AK ⟨om,rfl⟩
  ·have:=t6.resolve_left e24;exact AL ⟨om,om⟩
 have w1:Wf { K with fr:=⟨true,K.fr.k,K.fr.i+1⟩,nx:=K.nx+1 }:=by rw[<-e];exact t4.wf.sq
 have hpf:=MA (K:={ K with fr:=⟨true,K.fr.k,K.fr.i+1⟩,nx:=K.nx+1 }) w1 t4.rep (t:=⟨8*K.fr.k+K.fr.i,o,K.nx,0,false⟩) (D:=H { K with fr:=⟨true,K.fr.k,K.fr.i+1⟩,nx:=K.nx+1 } K.nx) t5.lt ⟨rfl,hM,(hH _ _).1,(hH _ _).2⟩ t5.er hf;have e0:(frK H { K with fr:=⟨true,K.fr.k,K.fr.i+1⟩ } (8*K.fr.k+K.fr.i) o).2.2=0/\Fine (frK H { K with fr:=⟨true,K.fr.k,K.fr.i+1⟩ } (8*K.fr.k+K.fr.i) o).1.s:=by
  unfold frK;rw[AI (by rw[t4.sp];decide)];dsimp only;rw[e];rw[AI (by rw[hpf.1];simp)];refine⟨rfl,?_⟩;split <;> exact hpf.2
 rcases hx with ⟨ex,k⟩ | ⟨ex,k⟩ | ⟨ex,k⟩
 ·rw[ex] at e0 hrd ⊢;refine⟨_,s',r',R',⟨rfl,t4,t5,t6,wf,k⟩,?_,?_,rfl,rfl⟩
  ·have:=e0.2;dsimp only at this;split at this <;> exact this
  ·exact hrd.trans (Gu _ _)
 ·rw[ex] at e0;exact absurd e0.1 (show ¬ (8:Nat)=0 by decide)
 ·rw[ex] at e0;exact absurd e0.1 (show ¬ (7:Nat)=0 by decide)
theorem MB{mr:BC->Nat->Option (BC × Nat)}{mo:Ek}{n:Nat}{K':BC}(hw:CE K=false)(hs:K.sp=false)(hm:mr K o=some (K',0))(hc:AC.nxC K'.fr o=0)(hf:(frK H { K' with fr:=AC.tkS K'.fr o } (AC.nxV K'.fr o).toNat o).2.2=0) :anK mr mo H (n+1) K o=some (layK (frK H { K' with fr:=AC.tkS K'.fr o } (AC.nxV K'.fr o).toNat o).1 (frK H { K' with fr:=AC.tkS K'.fr o } (AC.nxV K'.fr o).toNat o).2.1):=by
 rw[anK,AI (by rw[hw,hs];simp),hm];dsimp only;rw[AI (by simp),AI (by rw[hc];simp),AJ hf]
theorem RA(hH:∀K q,(H K q).length=174/\Bys (H K q))(h:Sit K G No)(hf:Fine K.s)(hdd:K.dd=false)(ho25:o<25)(hr:AC.rmV K.fr o=true)(hnx:K.nx<DX)(n:Nat) :∃K1 s' r' R',FrD H K K1 G o (8*K.fr.k+K.fr.i) s' r' R'/\Fine s'/\RdB 1 K (FrL K1 o (8*K.fr.k+K.fr.i) s' r' R').1/\anR (n+1) H K o=some (FrL K1 o (8*K.fr.k+K.fr.i) s' r' R'):=by
 obtain⟨c,K1,s',r',R',f1,f2,f4,f5,f6⟩:=I0 hH h hf ho25 hr hnx;refine⟨K1,s',r',R',f1,f2,f4,?_⟩;rw[<-f6];show anK _ _ H (n+1) K o=_;refine MB (by rw[CN h];exact hdd) h.sp ?_ c f5;rw[mrK,AJ hr]
end
end Go.Proofs.YtbhbilcieodbhaaGreat
