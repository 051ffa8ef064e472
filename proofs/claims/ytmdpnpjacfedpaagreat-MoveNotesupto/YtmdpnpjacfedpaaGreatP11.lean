/-
  Lemmas.
-/
import Derived.Test.YtmdpnpjacfedpaaGreatP10
set_option maxRecDepth 1000000
set_option maxHeartbeats 16000000
set_option linter.unusedSimpArgs false
namespace Go.Proofs.YtmdpnpjacfedpaaGreat
open List
open Go.Proofs.Tryz
open Go.RowKit
theorem Yj{K K':BH}(hF:K'.F=K.F)(hfr:K'.fr=K.fr)(b:Int):lvK K' b={ K' with F:=(lvK K b).F,fr:=(lvK K b).fr }:=by
 unfold lvK clK;rw[hF,hfr];split
 ·split
  ·rfl
  ·rw[<-hF,<-hfr]
 ·rw[<-hF,<-hfr]
section
variable {K:BH}{G:Bk}{X:Nat->Prop}{S:Bm}
def oC (K:BH) (G:Bk) (S:Bm) (Z:BH × Bm × Nat):Prop:=
 (Z.2.1.fm=S.fm/\Z.2.1.rt=S.rt/\Z.2.1.fd=S.fd)/\Z.1.nx=K.nx+1/\fre Z.1.F+(if S.tt.o=true then 0 else 1)=fre K.F /\
 (∀b,b<12->(K.F b≠0->Z.1.F b≠0)/\(b≠S.fm->(S.tt.o=true->b≠S.tt.k)->K.F b=2->Z.1.F b=2)) /\
 ((Z.2.2=0/\Z.1.s.on=true/\∃G',Sit Z.1 G' No/\Told Z.1 G'/\Z.1.F S.fm=3/\(∀o,o<25->Z.1.L o≠-1->(Z.1.L o).toNat / 8≠S.fm)/\Stp 1 1 K Z.1 G G'/\Z.1.dd=false/\Z.1.fr.o=true/\Z.1.fr.i=S.tt.i+1) \/
  (Z.2.2=8/\Z.1.s.on=true/\Sit Z.1 G (Xs Z.2.1)/\nA Z.1 Z.2.1/\Stp 1 0 K Z.1 G G/\Z.1.fr=K.fr/\Z.1.F S.fm=K.F S.fm/\Z.1.dd=K.dd/\(S.tt.o=true->Z.2.1.tt.k=S.tt.k)/\(S.tt.o=false->K.F Z.2.1.tt.k=0)) \/
  (Z.2.2=7/\Z.1.s.on=false/\Sit Z.1 G (Xs Z.2.1)/\Stp 1 0 K Z.1 G G))
theorem PY(h:Sit K G (Xs S))(hC:LU K G S)(hB:kS S)(hW:RF K S)(hon:K.s.on=true)(hf:S.tt.o=false->1<=fre K.F)(h0:K.F S.fm≠0)(h3:K.F S.fm≠3)(hb2:bad3 K.F<2)(hnx:K.nx<IE):oC K G S (cbK K S):=by
 have no:=RI K S;have hi:S.tt.i<8/\((24:Nat)=24\/S.tt.i<6):=⟨by rcases hB with b | ⟨_,b⟩ <;> omega,AK rfl⟩
 obtain⟨K2,k,C4,kee,K3,xs,L3,w',p2,kF,o0,h2,f2,n2,qa,ih,C5,Fo,kz⟩:=RE h hC hf h0 (o:=24) dc hi;have h6:8*k+S.tt.i<96:=om
 have w1:(8*k+S.tt.i) / 8=k:=om
 have h1:JZ K2 (8*k+S.tt.i):=by
  refine⟨h6,AL (by rw[w1];exact kF),fun fo fk=>?_,qa S.tt.i (AM _) hi.1⟩;have:=(h2.opn k w').2 ⟨fo,by rw[fk,w1]⟩;rw[kF] at this;exact absurd this dc
 have La:LU K2 G { S with tt:=⟨true,k,S.tt.i⟩ }:=by
  refine⟨hC.fm,fun e=>(by cases e),fun _=>⟨w',p2,kF,Nat.le_of_lt hi.1⟩,fun _=>n2,fun _=>qa,fun _=>ih,fun t ht=>?_,fun t ht=>?_,hC.ndo,hC.ndp⟩
  ·obtain⟨b1,b2,b3,b4,b5,b6,b7⟩:=hC.ld t ht;exact⟨b1,by rw[kee.L];exact b2,by rw[kee.L];exact b3,by rw[kee.vs];exact b4,by rw[kee.vc];exact b5,C5 t ht,b7⟩
  ·rw[K3];exact hC.dt t ht
 have B':K2.F S.fm=K.F S.fm:=Fo S.fm hC.fm (fun e=>p2 e.symm);have f9:∀(j:Nat) (ld:List CP),(fun b=>b=k)=Xs { S with tt:=⟨true,k,j⟩,ld:=ld }:=fun j ld=>by
  funext b;unfold Xs;simp
 have t7:K2.nx<IE:=by rw[kee.nx];exact hnx
 have w5:=h2.wf.nx;obtain⟨s',r',R',it,be⟩:=LG h2.wf h2.sp t7 h2.rep (by rw[K3];exact hon) h6 (by decide:(24:Nat)<25) (AK rfl) h1.er (bdH S.fm) (D:=AA.wrL { ckK { K2 with nx:=K2.nx+1 } K2.nx with B:=upd (ckK { K2 with nx:=K2.nx+1 } K2.nx).B S.fm true }) rfl (AA.CI _) (AA.FA _);have w4:cbK K S=if (frK (bdH S.fm) K2 (8*k+S.tt.i) 24).2.2≠0 then ((frK (bdH S.fm) K2 (8*k+S.tt.i) 24).1,{ S with tt:=⟨true,k,S.tt.i+1⟩ },(frK (bdH S.fm) K2 (8*k+S.tt.i) 24).2.2) else ((cmK (frK (bdH S.fm) K2 (8*k+S.tt.i) 24).1 { S with tt:=⟨true,k,S.tt.i+1⟩,ld:=S.ld ++ [(frK (bdH S.fm) K2 (8*k+S.tt.i) 24).2.1] } 3).1,{ S with tt:=⟨true,k,S.tt.i+1⟩,ld:=S.ld ++ [(frK (bdH S.fm) K2 (8*k+S.tt.i) 24).2.1] },(cmK (frK (bdH S.fm) K2 (8*k+S.tt.i) 24).1 { S with tt:=⟨true,k,S.tt.i+1⟩,ld:=S.ld ++ [(frK (bdH S.fm) K2 (8*k+S.tt.i) 24).2.1] } 3).2):=by
  unfold cbK;rw[C4];dsimp only;rw[AI (show ¬ (0:Nat)≠0 by decide)]
 rw[w4] at no ⊢;rcases be with ⟨ef,kd⟩ | ⟨ef,kn⟩ | ⟨ef,kn⟩
 ·rw[ef] at no ⊢;rw[AJ rfl] at no ⊢;dsimp only at no ⊢;rw[AI (show ¬ (0:Nat)≠0 by decide)] at no ⊢;obtain⟨s0,f0,b0,q0⟩:=h2.lv (S.fm:Nat);have wr:=NM K2 S.fm;obtain⟨F0,hg,e0⟩:=Iy K2 (S.fm:Nat);have G1:(lvK K2 (S.fm:Nat)).F k=2:=by rw[MH h2 _ (by rw[kF];decide)];exact kF
  have o2:(lvK K2 (S.fm:Nat)).F S.fm≠3:=fun e=>by rw[<-q0 S.fm hC.fm,B'] at e;exact h3 e
  rw[e0] at s0 f0 b0 q0 wr G1 o2;have o1:Sit { K2 with F:=F0,fr:=hg } G (Xs { S with tt:=⟨true,k,S.tt.i⟩ }):=by
   have:=f9 S.tt.i S.ld;rw[this] at s0;exact s0
  have f1:LU { K2 with F:=F0,fr:=hg } G { S with tt:=⟨true,k,S.tt.i⟩ }:=⟨La.fm,La.no,fun _=>⟨w',p2,G1,Nat.le_of_lt hi.1⟩,La.none,La.er,La.all,La.ld,La.dt,La.ndo,La.ndp⟩;have f7:JZ { K2 with F:=F0,fr:=hg } (8*k+S.tt.i):=by
   refine⟨h6,AL (by show F0 ((8*k+S.tt.i) / 8)=2;rw[w1];exact G1),fun fo fk=>?_,h1.er⟩;have:=(s0.opn k w').2 ⟨fo,by rw[fk,w1]⟩;have G3:F0 k=2:=G1;have hx:F0 k=1:=this;rw[G3] at hx;exact absurd hx dc
  obtain⟨L',ar,hk,e1,hl⟩:=f1.cml o1 (Nd { K2 with s:=s',r:=r',hR:=R',nx:=K2.nx+1 }) rfl rfl rfl;have oi:∀b,b<12->((upd (ckK { K2 with nx:=K2.nx+1 } K2.nx).B S.fm true) b=true<->F0 b=3\/b=S.fm):=fun b hb=>by
   show (if b=S.fm then true else decide (K2.F b=3))=true<->_;have q:K2.F b=3<->F0 b=3:=q0 b hb;split
   ·rename_i e;simp[e]
   ·rename_i e;rw[decide_eq_true_iff,q];simp[e]
  have hq:1<=K2.nx/\K2.nx<=1099511627775:=w5;have w2:=EE (K:={ K2 with nx:=K2.nx+1 }) ⟨h2.wf.chip,h2.wf.rr,h2.wf.frm,h2.wf.map,h2.wf.vs,h2.wf.vp,h2.wf.vc,h2.wf.fl,it.nx,h2.wf.fr,h2.wf.cu,h2.wf.qu,h2.wf.hea,h2.wf.tl⟩ hq;have hm:=o1.cmb f1 rfl (fun o ho hL e=>by
   have oo:K.L o≠-1:=by rw[<-kee.L];exact hL
   have e':(K.L o).toNat / 8=S.fm:=by rw[<-kee.L];exact e
   exact hW o ho oo e') wr o2 (by show bad3 F0<2;have:bad3 F0=bad3 K2.F:=b0;rw[this,kee.bd];exact hb2) (p:=8*k+S.tt.i) w1 kd f7 oi (fun i _=>rfl) rfl rfl ⟨w2.F,w2.N,w2.C,w2.R,w2.S⟩ (r':=r') (R':=R') (N':=R') (by
    exact⟨it.chip,it.rr,s0.wf.frm,it.map,it.vs,it.vp,it.vc,it.fl,it.nx,s0.wf.fr,it.cu,it.qu,it.hea,it.tl⟩) (fun i hi=>⟨(it.hea i hi).1,(it.hea i hi).1,(it.hea i hi).2.2⟩) hl
  obtain⟨s5,n5,b5⟩:=hm;have x0:∀o,o<25->L' o≠((8*k+S.tt.i:Nat):Int):=fun o ho e=>by
   by_cases e2:∃t ∈ S.ld,t.o=o
   ·obtain⟨t,ht,rfl⟩:=e2;rw[(hl.ld t ht).1] at e;obtain⟨D,d1,_⟩:=La.dt t ht;rw[show t.p=8*k+S.tt.i by omega,h1.er.tab h2.rep] at d1;cases d1
   ·rw[(hl.no o (fun t ht e3=>e2 ⟨t,ht,e3⟩)).1] at e;exact h1.free h2 o ho e
  have x2:layK { Nd { K2 with s:=s',r:=r',hR:=R',nx:=K2.nx+1 } with L:=L',vs:=ar,vc:=hk } ⟨8*k+S.tt.i,24,K2.nx,0,false⟩=({ K2 with s:=s',r:=r',hR:=R',hN:=R',ca:=0,nx:=K2.nx+1,L:=upd L' 24 (8*k+S.tt.i:Nat),vs:=upd ar 24 K2.nx,vc:=upd hk 24 0 },0):=by
   have x1:AB.DY ((24:Nat):Int) ((8*k+S.tt.i:Nat):Int):=⟨⟨om,om⟩,⟨om,om⟩,AK rfl⟩;have hc:AB.setC L' ((24:Nat):Int) ((8*k+S.tt.i:Nat):Int)=0:=by
    unfold AB.setC;rw[AI (fun e=>e x1),AI (by rw[CM x0];simp)]
   have f8:AB.setL L' ((24:Nat):Int) ((8*k+S.tt.i:Nat):Int)=upd L' 24 (8*k+S.tt.i:Nat):=(by unfold AB.setL;rw[AJ hc,AP]);unfold layK Nd;dsimp only;rw[hc,f8]
  have f5:cmL (S.ld ++ [⟨8*k+S.tt.i,24,K2.nx,0,false⟩]) (Nd { K2 with s:=s',r:=r',hR:=R',nx:=K2.nx+1 })=({ K2 with s:=s',r:=r',hR:=R',hN:=R',ca:=0,nx:=K2.nx+1,L:=upd L' 24 (8*k+S.tt.i:Nat),vs:=upd ar 24 K2.nx,vc:=upd hk 24 0 },0):=by
   rw[Yf e1,x2]
  have f3:lvK { K2 with s:=s',r:=r',hR:=R',hN:=R',ca:=0,nx:=K2.nx+1,L:=upd L' 24 (8*k+S.tt.i:Nat),vs:=upd ar 24 K2.nx,vc:=upd hk 24 0 } (S.fm:Nat)={ K2 with s:=s',r:=r',hR:=R',hN:=R',ca:=0,nx:=K2.nx+1,L:=upd L' 24 (8*k+S.tt.i:Nat),vs:=upd ar 24 K2.nx,vc:=upd hk 24 0,F:=F0,fr:=hg }:=by
   have w3:=Yj (K:=K2) (K':={ K2 with s:=s',r:=r',hR:=R',hN:=R',ca:=0,nx:=K2.nx+1,L:=upd L' 24 (8*k+S.tt.i:Nat),vs:=upd ar 24 K2.nx,vc:=upd hk 24 0 }) rfl rfl (S.fm:Nat);rw[e0] at w3;exact w3
  have l2:stK { K2 with s:=s',r:=r',hR:=R',hN:=R',ca:=0,nx:=K2.nx+1,L:=upd L' 24 (8*k+S.tt.i:Nat),vs:=upd ar 24 K2.nx,vc:=upd hk 24 0,F:=F0,fr:=hg } (S.fm:Nat) 3={ K2 with s:=s',r:=r',hR:=R',hN:=R',ca:=0,nx:=K2.nx+1,L:=upd L' 24 (8*k+S.tt.i:Nat),vs:=upd ar 24 K2.nx,vc:=upd hk 24 0,F:=upd F0 S.fm 3,fr:=hg }:=by
   unfold stK;rw[Dk hC.fm dc (AL rfl)]
  have hu:upd F0 S.fm 3 k=2:=by rw[BT _ _ p2];exact G1
  obtain⟨F6,e6,s6,f6,b6,q6,z6,m6⟩:=s5.fin (tt:=⟨true,k,S.tt.i+1⟩) rfl w' hu (by show S.tt.i+1<=8;omega) (fun i hi2 h8=>by
   have hj:S.tt.i+1<=i:=hi2
   exact kd.oth.erd (by show 8*k+i≠8*k+S.tt.i;omega) (qa i om h8))
  have v':cmK (Nd { K2 with s:=s',r:=r',hR:=R',nx:=K2.nx+1 }) { S with tt:=⟨true,k,S.tt.i+1⟩,ld:=S.ld ++ [⟨8*k+S.tt.i,24,K2.nx,0,false⟩] } 3=({ K2 with s:=s',r:=r',hR:=R',hN:=R',ca:=0,nx:=K2.nx+1,L:=upd L' 24 (8*k+S.tt.i:Nat),vs:=upd ar 24 K2.nx,vc:=upd hk 24 0,F:=F6,fr:=⟨true,k,S.tt.i+1⟩,mv:=wrap64 (K2.mv+(S.ld ++ [(⟨8*k+S.tt.i,24,K2.nx,0,false⟩:CP)]).length) },0):=by
   unfold cmK;dsimp only;rw[f5];dsimp only;rw[AI (show ¬ (0:Nat)≠0 by decide),f3,l2,AJ rfl,e6]
  rw[v'] at no ⊢;refine⟨⟨rfl,rfl,rfl⟩,?_,?_,fun b hb=>⟨fun e=>?_,fun hv ht e=>?_⟩,AK ⟨rfl,kd.on,_,(s6.alk ⟨rfl,rfl,rfl,rfl,rfl,rfl,rfl,rfl,rfl,rfl,rfl,rfl,⟨rfl,rfl,rfl,rfl,rfl,rfl⟩⟩ (s6.wf.mv' _)),fun b hb e=>?_,?_,n5,?_,?_,rfl,rfl⟩⟩
  ·show K2.nx+1=K.nx+1;rw[kee.nx]
  ·show fre F6+_=_;rw[f6];have c0:=Fs F0 hC.fm 3;have g0:fre F0=fre K2.F:=f0;have C3:F0 S.fm≠0:=by
    have:(lvK K2 (S.fm:Nat)).F S.fm≠0:=by
     unfold lvK;split
     ·cases eo:K2.fr.o
      ·rw[DW eo,B'];exact h0
      ·rw[h2.clK_eq eo];show upd K2.F K2.fr.k 2 S.fm≠0;rcases BX K2.F K2.fr.k S.fm 2 with ⟨_,e⟩ | ⟨_,e⟩ <;> rw[e]
       ·decide
       ·rw[B'];exact h0
     ·rw[B'];exact h0
    rw[e0] at this;exact this
   rw[AI C3,AI (show ¬ (3:Int)=0 by decide)] at c0;show fre (upd F0 S.fm 3)+_=_;omega
  ·show F6 b≠0;intro e9;have oa:upd F0 S.fm 3 b=0:=(z6 b hb).2 e9;have G2:=(kee.nf b hb).1 e;rcases BX F0 S.fm b 3 with ⟨_,x⟩ | ⟨_,x⟩ <;> rw[x] at oa
   ·exact absurd oa dc
   ·have ha:(lvK K2 (S.fm:Nat)).F b=0:=(by rw[e0];exact oa);by_cases rs:K2.F b=1
    ·have:=(s0.opn b hb);unfold lvK at ha;split at ha
     ·cases eo:K2.fr.o
      ·rw[DW eo] at ha;exact G2 ha
      ·rw[h2.clK_eq eo] at ha;have f4:upd K2.F K2.fr.k 2 b=0:=ha;rcases BX K2.F K2.fr.k b 2 with ⟨_,y⟩ | ⟨_,y⟩ <;> rw[y] at f4
       ·exact absurd f4 dc
       ·exact G2 f4
     ·exact G2 ha
    ·rw[MH h2 _ rs] at ha;exact G2 ha
  ·show F6 b=2;have hs:b≠k:=fun x=>by
    cases eo:S.tt.o
    ·rw[eo,AI dc] at f2;subst x;have h9:=(h2.opn b hb);have:K.F b=0:=by
      cases e15:S.tt.o
      ·exact kz e15
      ·rw[eo] at e15;cases e15
     rw[e] at this;exact absurd this dc
    ·exact ht eo (x.trans (o0 eo))
   refine m6 b hb hs ?_;show upd F0 S.fm 3 b=2;rw[BT _ _ hv];have:(lvK K2 (S.fm:Nat)).F b=2:=by rw[MH h2 _ (by rw[(kee.nf b hb).2 e];decide)];exact(kee.nf b hb).2 e
   rw[e0] at this;exact this
  ·have e':F6 b=3:=e;have:=(q6 b hb).2 e';exact(oi b hb).2 (by
    have h9:upd F0 S.fm 3 b=3:=this
    rcases BX F0 S.fm b 3 with ⟨x,_⟩ | ⟨_,x⟩
    ·
     exact AL x
    ·
     rw[x] at h9;exact AK h9)
  ·show F6 S.fm=3;exact(q6 S.fm hC.fm).1 (Bb _ _ _)
  ·refine⟨rfl,rfl,kee.fl,fun o ho=>?_,fun _=>?_,fun o ho=>?_,kee.fx.trans ⟨rfl,rfl,rfl,rfl,rfl,rfl⟩,fun b hb e=>?_,?_,?_,no.mono om⟩
   ·show upd L' 24 (8*k+S.tt.i:Nat) o = -1<->K.L o = -1;rw[BT _ _ om];obtain⟨_,x,y⟩:=hl.vs f1 o;have f8:K2.L o=K.L o:=(by rw[kee.L]);rw[<-f8];exact⟨y,x⟩
   ·show upd L' 24 (8*k+S.tt.i:Nat) 24≠-1;rw[Bb];omega
   ·show upd ar 24 K2.nx o=K.vs o;have:=(hl.vs f1 o).1;unfold upd;rw[AI om,this,kee.vs]
   ·show F6 b=3;refine(q6 b hb).1 ?_;show upd F0 S.fm 3 b=3;rcases BX F0 S.fm b 3 with ⟨_,x⟩ | ⟨_,x⟩ <;> rw[x]
    exact(q0 b hb).1 ((kee.b3 b hb).1 e)
   ·show bad3 F6=_;rw[b6];show bad3 (upd F0 S.fm 3)=_;rw[b5];have:bad3 F0=bad3 K2.F:=b0;rw[this,kee.bd]
   ·show K.nx<=K2.nx+1;rw[kee.nx];omega
  ·show K2.dd=false;cases e:K2.dd
   ·rfl
   ·have:=h2.dds.1 e;rw[kee.bd] at this;omega
 ·rw[ef] at no ⊢;dsimp only at no ⊢;rw[AJ (show (8:Nat)≠0 by decide)] at no ⊢;have h4:=h2.pgn kn h1 (Nat.le_succ K2.nx) it;rw[f9 (S.tt.i+1) S.ld] at h4;refine⟨⟨rfl,rfl,rfl⟩,by show K2.nx+1=_;rw[kee.nx],?_,fun b hb=>⟨(kee.nf b hb).1,fun _ _=>(kee.nf b hb).2⟩,AL (AK ⟨rfl,kn.on,h4,⟨rfl,w',p2,kF,n2⟩,?_,kee.fr,B',kee.dd,o0,kz⟩)⟩
  ·show fre K2.F+_=_;exact f2
  ·exact⟨rfl,rfl,kee.fl,fun o _=>by show K2.L o = -1<->_;rw[kee.L],fun x=>by show K2.L 24≠-1;rw[kee.L];exact x,fun o _=>by show K2.vs o=_;rw[kee.vs],kee.fx.trans ⟨rfl,rfl,rfl,rfl,rfl,rfl⟩,fun b hb e=>(kee.b3 b hb).1 e,kee.bd,by show K.nx<=K2.nx+1;rw[kee.nx];omega,no.mono om⟩
 ·rw[ef] at no ⊢;dsimp only at no ⊢;rw[AJ (show (7:Nat)≠0 by decide)] at no ⊢;have h4:=h2.pgn kn h1 (Nat.le_succ K2.nx) it;rw[f9 (S.tt.i+1) S.ld] at h4;refine⟨⟨rfl,rfl,rfl⟩,by show K2.nx+1=_;rw[kee.nx],?_,fun b hb=>⟨(kee.nf b hb).1,fun _ _=>(kee.nf b hb).2⟩,AL (AL ⟨rfl,kn.on,h4,?_⟩)⟩
  ·show fre K2.F+_=_;exact f2
  ·exact⟨rfl,rfl,kee.fl,fun o _=>by show K2.L o = -1<->_;rw[kee.L],fun x=>by show K2.L 24≠-1;rw[kee.L];exact x,fun o _=>by show K2.vs o=_;rw[kee.vs],kee.fx.trans ⟨rfl,rfl,rfl,rfl,rfl,rfl⟩,fun b hb e=>(kee.b3 b hb).1 e,kee.bd,by show K.nx<=K2.nx+1;rw[kee.nx];omega,no.mono om⟩
end
section
variable {K K':BH}{G G':Bk}
theorem PZ(h:K.sp=false)(hb:bad3 K.F<2):bearK K=true:=by
 unfold bearK;rw[h,AO hb];rfl
theorem Se(hb:¬ bad3 K.F<2):bearK K=false:=by
 unfold bearK;rw[AN hb];rfl
def Rm (j:Nat) (K:BH):Prop:=5+j<=fre K.F+2*bad3 K.F
structure oD (K K':BH) (G G':Bk) (S:Bm) (V n:Nat) (d:Nat):Prop where
 on:K'.s.on=true
 sit:Sit K' G' No
 told:Told K' G'
 st:K'.F V=0\/K'.F V=3
 none:∀o,o<25->K'.L o≠-1->(K'.L o).toNat / 8≠V
 stp:Stp 20 d K K' G G'
 nx:K'.nx<=K.nx+d
 dd:K'.dd=false
 rm:Rm 0 K'
 gc:d=0->(K'.fr.o=true/\K'.fr.i<=n)\/((K'.fr=K.fr\/K'.fr=noF)/\fre K'.F=fre K.F+1)
 nf:d≠0->∀b,b<12->(K.F b≠0->K'.F b≠0)/\(b≠V->K.F b=2->K'.F b=2)
 fd:S.fd=true->d≠0/\K'.fr.o=true/\K'.fr.i<=7
structure oE (K K':BH) (G G':Bk) (S':Bm):Prop where
 on:K'.s.on=true
 sit:Sit K' G' (Xs S')
 hit:nA K' S'
 stp:Stp 20 0 K K' G G'
 nx:K'.nx<=K.nx+1
 dd:K'.dd=false
 fre:fre K'.F+1=fre K.F
 v0:K'.F S'.fm≠0
 v3:K'.F S'.fm≠3
 told:Told K' G'\/S'.fd=true
 nf:∀b,b<12->(K.F b≠0->K'.F b≠0)/\(K.F b=2->K'.F b=2)
 dk:K.F S'.tt.k=0
structure oF (K K':BH) (G G':Bk) (S':Bm):Prop where
 on:K'.s.on=true
 sit:Sit K' G' (Xs S')
 fd:S'.fd=true
 b2:bad3 K'.F=2
 stp:Stp 20 0 K K' G G'
 nx:K'.nx=K.nx
 v3:K'.F S'.fm≠3
 dd:K'.dd=false
structure oG (K K':BH) (G G':Bk) (S':Bm):Prop where
 off:K'.s.on=false
 sit:Sit K' G' (Xs S')
 stp:Stp 20 0 K K' G G'
 nx:K'.nx<=K.nx+1
def oH (K:BH) (G:Bk) (S:Bm) (n:Nat) (Z:BH × Bm × Nat):Prop:=
 (Z.2.1.fm=S.fm/\Z.2.1.rt=S.rt/\(S.fd=true->Z.2.1.fd=true))/\∃G',
  (Z.2.2=0/\∃d,d<=1/\oD K Z.1 G G' S S.fm n d)\/(Z.2.2=8/\oE K Z.1 G G' Z.2.1)\/(Z.2.2=14/\oF K Z.1 G G' Z.2.1)\/(Z.2.2=7/\oG K Z.1 G G' Z.2.1)
theorem Stp.of{m d n:Nat}(h:Stp m d K K' G G'){k:Nat}(hr:RdB k K K')(hk:k<=n):Stp n d K K' G G':=⟨h.a,h.z,h.fl,h.lv,h.l24,h.vs,h.fx,h.b3,h.bd,h.nx,hr.mono hk⟩
theorem Told.kee(h:Told K G)(hb:∀b,b<12->(K.F b=3<->K'.F b=3))(hc:G'.c=G.c):Told K' G':=fun b hb2 e=>by rw[hc];exact h b hb2 ((hb b hb2).2 e)
theorem Pa{S:Bm}(h:Sit K G No)(hon:K.s.on=true)(hs:S.fm<12)(h0:K.F S.fm≠0)(h3:K.F S.fm≠3)(hdd:K.dd=false)(hrm:Rm 0 K)(hT:Told K G\/S.fd=true)(hnx:K.nx<IE) :oH K G S ((AB.ofL K.L S.fm).length) (tyK K S):=by
 have La:=jM K S;have y1:((AB.ofL K.L S.fm).map Int.toNat).length<=8:=by rw[BA];exact AB.Dh K.L S.fm 8
 have r1:((AB.ofL K.L S.fm).map Int.toNat).length=(AB.ofL K.L S.fm).length:=BA _;have gf:bad3 K.F<=2:=by
  have:¬ 2<bad3 K.F:=fun e=>by have:=h.dds.2 e;rw[hdd] at this;cases this
  omega
 have C5:1<=fre K.F:=by unfold Rm at hrm;omega
 obtain⟨o1,o2,o3⟩:=NN h.wf.map S.fm;unfold tyK at La ⊢;dsimp only at La ⊢;by_cases hw:S.fd=true/\bearK K=false
 ·rw[AJ hw] at La ⊢;have hb:bad3 K.F=2:=by
   have:¬ bad3 K.F<2:=fun e=>by rw[PZ h.sp e] at hw;cases hw.2
   omega
  refine⟨⟨rfl,rfl,fun _=>hw.1⟩,G,AL (AL (AK ⟨rfl,⟨hon,h.mono (fun _ _ x=>x.elim),hw.1,hb,(Stp.refl K G).mono om,rfl,h3,hdd⟩⟩))⟩
 ·rw[AI hw] at La ⊢;have O1:Sit K G (Xs { S with tt:=noF,ld:=[] }):=h.mono (fun _ _ x=>x.elim);have lb:LU K G { S with tt:=noF,ld:=[] }:=⟨hs,fun _=>⟨rfl,rfl⟩,fun e=>(by cases e),fun e=>(by cases e),fun e=>(by cases e),fun e=>(by cases e),fun t ht=>(by cases ht),fun t ht=>(by cases ht),nodup_nil,nodup_nil⟩;have hp:kR K { S with tt:=noF,ld:=[] } ((AB.ofL K.L S.fm).map Int.toNat):=⟨fun o ho=>⟨(o1 o ho).1,(o1 o ho).2.1,(o1 o ho).2.2,Ac _⟩,o2,fun o _ t ht=>(by cases ht)⟩;obtain⟨G1,hb,hx⟩:=LH (S.fd || (S.rt && bearK K)) _ K G { S with tt:=noF,ld:=[] } O1 lb hp (AK (Ac _)) hon (fun _=>C5) h0 (by show _+0<=25;omega);have hu:=Yh (S.fd || (S.rt && bearK K)) ((AB.ofL K.L S.fm).map Int.toNat) K { S with tt:=noF,ld:=[] };generalize cpK (S.fd || (S.rt && bearK K)) ((AB.ofL K.L S.fm).map Int.toNat) K { S with tt:=noF,ld:=[] }=x at *
  obtain⟨K1,S1,c1⟩:=x;dsimp only at *
  obtain⟨h8,y5,x7⟩:=hb.sh;have no:S1.fm=S.fm:=h8;have w':S1.rt=S.rt:=y5;have hg:S1.fd=S.fd:=x7;have it:Stp 16 0 K K1 G G1:=hb.kee.stp ⟨hb.gc.2.1,hb.gc.2.2⟩ hu om;have ar:fre K1.F+(if S1.tt.o=true then 1 else 0)=fre K.F:=by
   have:=hb.fre;rw[this];rfl
  have B':K1.dd=false:=by rw[hb.kee.dd];exact hdd
  have p2:K1.F S1.fm=K.F S.fm:=by rw[no];exact hb.fv
  have xs:S1.tt.o=true->K.F S1.tt.k=0:=fun eo=>hb.dk (by rfl) eo;rcases hx with ⟨rfl,oi,hC,hB,hi,f9,_,qa⟩ | ⟨rfl,oi,L3⟩ | ⟨rfl,be⟩
  ·rw[AI (show ¬ (0:Nat)≠0 by decide)] at La ⊢;have kd:=hb.sit;have pg:S1.tt.o=false->1<=fre K1.F:=fun e=>by rw[e,AI dc] at ar;omega
   have G3:K1.nx<IE:=(by rw[hb.kee.nx];exact hnx);have v':bad3 K1.F=bad3 K.F:=hb.kee.bd;have x0:S1.tt.o=true->∀b,K.F b=2->b≠S1.tt.k:=fun eo b e x=>by
    have:=xs eo;rw[<-x,e] at this;exact absurd this dc
   have h5:∀k,k<12->(S1.tt.o=true->k=S1.tt.k)->(S1.tt.o=false->K1.F k=0)->K.F k=0:=fun k hk k1 k0=>by
    cases eo:S1.tt.o
    ·by_cases e9:K.F k=0
     ·exact e9
     ·exact absurd (k0 eo) ((hb.kee.nf k hk).1 e9)
    ·rw[k1 eo];exact xs eo
   have hj:RF K1 S1:=fun o ho hL e=>by
    have w5:K.L o≠-1:=(by rw[<-hb.kee.L];exact hL);have e':(K.L o).toNat / 8=S.fm:=(by rw[<-hb.kee.L,<-no];exact e);rcases f9 o (o3 o om w5 e') with ⟨_,e2⟩ | t
    ·omega
    ·exact t
   by_cases w1:(S.fd || (S.rt && bearK K))=true
   ·rw[AJ w1] at La ⊢;have h6:bad3 K.F<2:=by
     by_cases e:bad3 K.F<2
     ·exact e
     ·rw[Se e] at w1 hw;cases hf:S.fd
      ·rw[hf] at w1;simp at w1
      ·exact absurd ⟨hf,rfl⟩ hw
    obtain⟨⟨z1,z2,z3⟩,oa,zf,G2,zx⟩:=PY kd hC hB hj oi pg (by rw[p2];exact h0) (by rw[p2];exact h3) (by rw[v'];exact h6) G3;generalize cbK K1 S1=Z at *
    have wr:fre Z.1.F+1=fre K.F:=by
     by_cases e:S1.tt.o=true
     ·rw[AJ e] at zf ar;omega
     ·rw[AI e] at zf ar;omega
    refine⟨⟨z1.trans no,z2.trans w',fun e=>z3.trans (hg.trans e)⟩,?_⟩;rcases zx with ⟨e0,h1,G',zs,zt,zF,zn,hc,f2,r2,W1⟩ | ⟨e8,h1,zs,zh,hc,y6,zF,f2,w4,oo⟩ | ⟨e7,h1,zs,hc⟩
    ·refine⟨G',AK ⟨e0,1,AM _,⟨h1,zs,zt,AL (by rw[<-no];exact zF),by rw[<-no];exact zn,?_,?_,f2,?_,fun e=>(by cases e),fun _ b hb9=>⟨fun e=>(G2 b hb9).1 ((hb.kee.nf b hb9).1 e),fun hv e=>(G2 b hb9).2 (by rw[no];exact hv) (fun eo=>x0 eo b e) ((hb.kee.nf b hb9).2 e)⟩,fun _=>⟨dc,r2,?_⟩⟩⟩⟩
     ·have:=it.trans hc;exact this.of La om
     ·rw[oa,hb.kee.nx];exact AM _
     ·have:=(it.trans hc).bd;unfold Rm at hrm ⊢;omega
     ·rw[W1];rcases hB with b | ⟨⟨t,ht,b⟩,_⟩
      ·omega
      ·exfalso;rcases qa t ht with c | ⟨_,c⟩
       ·cases c
       ·exact c ⟨w1,b⟩
    ·refine⟨G1,AL (AK ⟨e8,⟨h1,zs,zh,?_,?_,by rw[f2];exact B',wr,?_,?_,?_,fun b hb9=>⟨fun e=>(G2 b hb9).1 ((hb.kee.nf b hb9).1 e),fun e=>?_⟩,?_⟩⟩)⟩
     ·exact(it.trans hc).of La om
     ·rw[oa,hb.kee.nx];exact AM _
     ·rw[z1,zF,p2];exact h0
     ·rw[z1,zF,p2];exact h3
     ·rcases hT with t | t
      ·left;refine fun b h6 e=>?_;rw[hb.gc.1];refine t b h6 ?_;by_cases e9:K.F b=3
       ·exact e9
       ·exfalso;have y3:=(it.trans hc).bd;have F3:AD.cnt K.F 3 12<AD.cnt Z.1.F 3 12:=by
         have y2:∀n,n<=12->AD.cnt K.F 3 n+(if b<n then 1 else 0)<=AD.cnt Z.1.F 3 n:=by
          intro n
          induction n with
          | zero=>intro _;simp[AD.cnt]
          | succ n ih=>
           intro hn;have i1:=ih om;unfold AD.cnt;by_cases en:n=b
           ·subst en;rw[AI e9,AJ e,AJ om];rw[AI om] at i1;omega
           ·by_cases e3:K.F n=3
            ·rw[AJ e3,AJ ((it.trans hc).b3 n om e3)];by_cases el:b<n
             ·rw[AJ el] at i1;rw[AJ om];omega
             ·rw[AI el] at i1;rw[AI om];omega
            ·rw[AI e3];by_cases el:b<n
             ·rw[AJ el] at i1;rw[AJ om];split <;> omega
             ·rw[AI el] at i1;rw[AI om];split <;> omega
         have:=y2 12 (AM _);rw[AJ h6] at this;omega
        unfold bad3 at y3;omega
      ·exact AL (z3.trans (hg.trans t))
     ·by_cases ev:b=S1.fm
      ·rw[ev,zF];exact(hb.kee.nf _ hC.fm).2 (ev ▸ e)
      ·exact(G2 b hb9).2 ev (fun eo=>x0 eo b e) ((hb.kee.nf b hb9).2 e)
     ·exact h5 Z.2.1.tt.k zh.k w4 oo
    ·refine⟨G1,AL (AL (AL ⟨e7,⟨h1,zs,(it.trans hc).of La om,by rw[oa,hb.kee.nx];exact AM _⟩⟩))⟩
   ·rw[AI w1] at La ⊢;have x1:S.fd=false:=by
     cases e:S.fd
     ·rfl
     ·rw[e] at w1;simp at w1
    have h7:Told K G:=hT.resolve_right (by rw[x1];decide);have e1:Told K1 G1:=h7.kee hb.kee.b3 hb.gc.1;have hW:Whole K1 S1:=fun o ho hL e=>by
     have w5:K.L o≠-1:=(by rw[<-hb.kee.L];exact hL);have e':(K.L o).toNat / 8=S.fm:=(by rw[<-hb.kee.L,<-no];exact e);rcases f9 o (o3 o ho w5 e') with ⟨e2,_⟩ | t
     ·exact absurd e2 w1
     ·exact t
    have hr:=Ya K1 S.fm;rcases Yc kd.wf hs oi with ⟨e0,s',R',N',eK,f7,f5,f6⟩ | ⟨e8,s',eK,f7,f5,f6⟩ | ⟨e7,s',eK,f7,f5,f6⟩
    ·rw[AJ e0] at La ⊢;rw[<-no] at eK f6 La ⊢;obtain⟨K',ec,sK,ks,a1,kF,kf,kb,hm,kn,kl,x4,h4,x5,W3,x3,l2,K3⟩:=Uz kd hC hW e1 (by rw[p2];exact h3) (by rw[p2];exact h0) f7 f6;rw[eK] at La ⊢;rw[ec] at La ⊢;have x8:Stp 20 0 K K' G { G1 with T:=clrT G1.T S1.fm }:=by
      refine⟨hb.gc.2.1,hb.gc.2.2,x4.trans hb.kee.fl,fun o _=>by rw[(kl o).1,hb.kee.L],fun x=>fun e=>by rw[(kl 24).1,hb.kee.L] at e;exact x e,fun o _=>by rw[(kl o).2,hb.kee.vs],hb.kee.fx.trans x3,fun b h6 e=>(hm b h6).2 ((hb.kee.b3 b h6).1 e),kb.trans v',by rw[h4,hb.kee.nx];exact AM _,La.mono (by rw[no] at *;omega)⟩
     refine⟨⟨no,w',fun e=>by rw[x1] at e;cases e⟩,_,AK ⟨rfl,0,Ac _,⟨by rw[ks];exact f5,sK,?_,AK (by rw[<-no];exact kF),by rw[<-no];exact kn,x8,?_,x5.trans B',?_,fun _=>?_,fun e=>absurd rfl e,fun e=>by rw[x1] at e;cases e⟩⟩⟩
     ·exact e1.kee (fun b h6=>(hm b h6).symm) rfl
     ·rw[h4,hb.kee.nx];exact AM _
     ·show 5+0<=fre K'.F+2*bad3 K'.F;unfold Rm at hrm;split at ar <;> omega
     ·cases eo:S1.tt.o
      ·right;refine⟨?_,?_⟩
       ·rw[<-hb.kee.fr];exact K3 eo
       ·rw[eo,AI dc] at ar;show fre K'.F=fre K.F+1;omega
      ·left;rw[l2 eo];refine⟨eo,?_⟩;have z0:S1.tt.i<=0+_:=hi;rw[no];omega
    ·rw[AI (by rw[e8];decide),e8] at La ⊢;rw[AI (show ¬ (8:Nat)≠8 by decide)] at La ⊢;rw[eK] at La hr ⊢;have alk:YU K1 { K1 with s:=s' }:=⟨f6,rfl,rfl,rfl,rfl,rfl,rfl,rfl,rfl,rfl,rfl,rfl,⟨rfl,rfl,rfl,rfl,rfl,rfl⟩⟩;have s3:=kd.alk alk f7;have C3:=hC.alk alk;obtain⟨s4,f4,b4,q4⟩:=s3.lv (S.fm:Nat);obtain⟨F4,f1,e4⟩:=Iy { K1 with s:=s' } (S.fm:Nat);have r0:S1.tt.o=true->(lvK { K1 with s:=s' } (S.fm:Nat)).F S1.tt.k=2:=fun ho=>by
      rw[MH s3 _ (by show K1.F S1.tt.k≠1;rw[(hC.k12 ho).2.2.1];decide)];exact(hC.k12 ho).2.2.1
     have rs:(lvK { K1 with s:=s' } (S.fm:Nat)).F S.fm≠0:=by
      have hz:K1.F S.fm≠0:=(by rw[<-no,p2];exact h0);unfold lvK;split
      ·cases eo:K1.fr.o
       ·rw[DW (by exact eo)];exact hz
       ·rw[s3.clK_eq (by exact eo)];show upd K1.F K1.fr.k 2 S.fm≠0;rcases BX K1.F K1.fr.k S.fm 2 with ⟨_,e⟩ | ⟨_,e⟩ <;> rw[e]
        ·decide
        ·exact hz
      ·exact hz
     have x2:(lvK { K1 with s:=s' } (S.fm:Nat)).F S.fm≠3:=fun e=>by
      have h9:K1.F S.fm=3:=(q4 S.fm hs).2 e;rw[<-no,p2] at h9;exact h3 h9
     have t7:=LJ { K1 with s:=s' } (S.fm:Nat);have o0:∀b,b<12->K1.F b≠0->(lvK { K1 with s:=s' } (S.fm:Nat)).F b≠0:=fun b _ hz=>by
      unfold lvK;split
      ·cases eo:K1.fr.o
       ·rw[DW (by exact eo)];exact hz
       ·rw[s3.clK_eq (by exact eo)];show upd K1.F K1.fr.k 2 b≠0;rcases BX K1.F K1.fr.k b 2 with ⟨_,e⟩ | ⟨_,e⟩ <;> rw[e]
        ·decide
        ·exact hz
      ·exact hz
     have w2:∀b,K1.F b=2->(lvK { K1 with s:=s' } (S.fm:Nat)).F b=2:=fun b hz=>by
      rw[MH s3 _ (by show K1.F b≠1;rw[hz];decide)];exact hz
     rw[e4] at s4 f4 b4 q4 r0 rs x2 La t7 o0 w2 ⊢;have y0:fre F4=fre K1.F:=f4;have B3:bad3 F4=bad3 K1.F:=b4;have h2:Stp 20 0 K { K1 with s:=s',F:=F4,fr:=f1 } G G1:=by
      refine⟨it.a,it.z,it.fl,it.lv,it.l24,it.vs,hb.kee.fx.trans ⟨rfl,rfl,rfl,rfl,rfl,rfl⟩,fun b h6 e=>(q4 b h6).1 ((hb.kee.b3 b h6).1 e),by show bad3 F4=bad3 K.F+0;omega,it.nx,((hu.trans hr).trans t7).mono om⟩
     by_cases ha:bearK { K1 with s:=s',F:=F4,fr:=f1 }=false
     ·rw[AJ ha] at La ⊢;have h6:bad3 F4=2:=by
       have:¬ bad3 F4<2:=fun e=>by
        rw[PZ (K:={ K1 with s:=s',F:=F4,fr:=f1 }) kd.sp e] at ha;cases ha
       omega
      refine⟨⟨no,w',fun _=>rfl⟩,G1,AL (AL (AK ⟨rfl,⟨f5,?_,rfl,h6,h2,?_,?_,B'⟩⟩))⟩
      ·exact s4
      ·show K1.nx=K.nx;exact hb.kee.nx
      ·show F4 S1.fm≠3;rw[no];exact x2
     ·rw[AI ha] at La ⊢;have h6:bad3 F4<2:=by
       by_cases e:bad3 F4<2
       ·exact e
       ·exact absurd (Se (K:={ K1 with s:=s',F:=F4,fr:=f1 }) e) ha
      have C4:LU { K1 with s:=s',F:=F4,fr:=f1 } G1 { S1 with fd:=true }:=⟨C3.fm,C3.no,fun e=>⟨(C3.k12 e).1,(C3.k12 e).2.1,r0 e,(C3.k12 e).2.2.2⟩,C3.none,C3.er,C3.all,C3.ld,C3.dt,C3.ndo,C3.ndp⟩;obtain⟨⟨z1,z2,z3⟩,oa,zf,G2,zx⟩:=PY (K:={ K1 with s:=s',F:=F4,fr:=f1 }) (S:={ S1 with fd:=true }) s4 C4 hB hj f5 (fun e=>by rw[y0];exact pg e) (by show F4 S1.fm≠0;rw[no];exact rs) (by show F4 S1.fm≠3;rw[no];exact x2) h6 G3;generalize cbK { K1 with s:=s',F:=F4,fr:=f1 } { S1 with fd:=true }=Z at *
      have hh:fre Z.1.F+(if S1.tt.o=true then 0 else 1)=fre F4:=zf;have wr:fre Z.1.F+1=fre K.F:=by
       by_cases e:S1.tt.o=true
       ·rw[AJ e] at hh ar;omega
       ·rw[AI e] at hh ar;omega
      have f3:Z.1.nx=K.nx+1:=(by rw[oa];show K1.nx+1=_;rw[hb.kee.nx]);have w3:Z.2.1.fm=S1.fm:=z1;refine⟨⟨w3.trans no,z2.trans w',fun _=>z3⟩,?_⟩;rcases zx with ⟨e0,h1,G',zs,zt,zF,zn,hc,f2,r2,W1⟩ | ⟨x6,h1,zs,zh,hc,y6,zF,f2,w4,oo⟩ | ⟨e7,h1,zs,hc⟩
      ·have f8:Z.1.F S1.fm=3:=zF;have F1:∀o,o<25->Z.1.L o≠-1->(Z.1.L o).toNat / 8≠S1.fm:=zn;refine⟨G',AK ⟨e0,1,AM _,⟨h1,zs,zt,AL (by rw[<-no];exact f8),by rw[<-no];exact F1,(h2.trans hc).of La om,by rw[f3];exact AM _,f2,?_,fun e=>(by cases e),fun _ b hb9=>⟨fun e=>(G2 b hb9).1 (o0 b hb9 ((hb.kee.nf b hb9).1 e)),fun hv e=>(G2 b hb9).2 (by show b≠S1.fm;rw[no];exact hv) (fun eo=>x0 eo b e) (w2 b ((hb.kee.nf b hb9).2 e))⟩,fun e=>by rw[x1] at e;cases e⟩⟩⟩;have:=(h2.trans hc).bd;unfold Rm at hrm ⊢;omega
      ·have f8:Z.1.F S1.fm=F4 S1.fm:=zF;refine⟨G1,AL (AK ⟨x6,⟨h1,zs,zh,(h2.trans hc).of La om,by rw[f3];exact AM _,f2.trans B',wr,?_,?_,AL z3,fun b hb9=>⟨fun e=>(G2 b hb9).1 (o0 b hb9 ((hb.kee.nf b hb9).1 e)),fun e=>?_⟩,?_⟩⟩)⟩
       ·rw[w3,f8,no];exact rs
       ·rw[w3,f8,no];exact x2
       ·by_cases ev:b=S1.fm
        ·rw[ev,f8];exact w2 _ ((hb.kee.nf _ hC.fm).2 (ev ▸ e))
        ·exact(G2 b hb9).2 ev (fun eo=>x0 eo b e) (w2 b ((hb.kee.nf b hb9).2 e))
       ·refine h5 Z.2.1.tt.k zh.k w4 (fun eo=>?_);have h9:F4 Z.2.1.tt.k=0:=oo eo;by_cases e9:K1.F Z.2.1.tt.k=0
        ·exact e9
        ·exact absurd h9 (o0 _ zh.k e9)
      ·exact⟨G1,AL (AL (AL ⟨e7,⟨h1,zs,(h2.trans hc).of La om,by rw[f3];exact AM _⟩⟩))⟩
    ·rw[AI (by rw[e7];decide),e7] at La ⊢;rw[AJ (show (7:Nat)≠8 by decide)] at La ⊢;rw[eK] at La ⊢;have alk:YU K1 { K1 with s:=s' }:=⟨f6,rfl,rfl,rfl,rfl,rfl,rfl,rfl,rfl,rfl,rfl,rfl,⟨rfl,rfl,rfl,rfl,rfl,rfl⟩⟩;refine⟨⟨no,w',fun e=>hg.trans e⟩,G1,AL (AL (AL ⟨rfl,⟨f5,kd.alk alk f7,?_,?_⟩⟩))⟩
     ·exact⟨it.a,it.z,it.fl,it.lv,it.l24,it.vs,hb.kee.fx.trans ⟨rfl,rfl,rfl,rfl,rfl,rfl⟩,it.b3,it.bd,it.nx,La.mono om⟩
     ·show K1.nx<=K.nx+1;have:=hb.kee.nx;omega
  ·rw[AJ (show (8:Nat)≠0 by decide)] at La ⊢;refine⟨⟨no,w',fun e=>hg.trans e⟩,G1,AL (AK ⟨rfl,⟨oi,hb.sit,L3,it.mono om,by rw[hb.kee.nx];omega,B',?_,by rw[p2];exact h0,by rw[p2];exact h3,?_,hb.kee.nf,xs L3.o⟩⟩)⟩
   ·rw[L3.o,AJ rfl] at ar;exact ar
   ·exact hT.imp (fun t=>t.kee hb.kee.b3 hb.gc.1) (fun t=>hg.trans t)
  ·rw[AJ (show (7:Nat)≠0 by decide)] at La ⊢;exact⟨⟨no,w',fun e=>hg.trans e⟩,G1,AL (AL (AL ⟨rfl,⟨be,hb.sit,it.mono om,by rw[hb.kee.nx];omega⟩⟩))⟩
end
section
variable {b:Nat}{K:BH}{G:Bk}{X:Nat->Prop}
def Nf (K K':BH):Prop:=∀b,b<12->(K.F b≠0->K'.F b≠0)/\(K.F b=2->K'.F b=2)
theorem Nf.refl(K:BH):Nf K K:=fun _ _=>⟨id,id⟩
theorem Nf.trans{K' K'':BH}(h:Nf K K')(k:Nf K' K''):Nf K K'':=fun b hb=>⟨fun e=>(k b hb).1 ((h b hb).1 e),fun e=>(k b hb).2 ((h b hb).2 e)⟩
def Sq (j:Nat) (K:BH):Prop:=K.nx+32+j<=IE+8*bad3 K.F
def wM (b:Nat):Nat:=200*4 ^ (3 - b)
theorem LK(b:Nat):200<=wM b:=by
 unfold wM;have:0<4 ^ (3 - b):=Nat.pow_pos dc;omega
theorem DX{c:Nat}(h:b<=c):wM c<=wM b:=by
 unfold wM;exact Nat.mul_le_mul_left 200 (Nat.pow_le_pow_right dc om)
theorem NO(h:b<=2):wM b=4*wM (b+1):=by
 rcases(by omega:b=0\/b=1\/b=2) with rfl | rfl | rfl <;> rfl
def oI (K:BH) (G:Bk) (Z:BH × Nat):Prop:=∃G' X' d,Sit Z.1 G' X'/\Stp (2*wM (bad3 K.F)) d K Z.1 G G' /\
 ((Z.2=0/\Z.1.s.on=true/\(∀b,¬ X' b)/\Told Z.1 G'/\Rm 0 Z.1/\Z.1.dd=false/\Z.1.nx<=K.nx+1+8*d/\Nf K Z.1) \/
  (Z.2=14/\Z.1.s.on=true/\Z.1.dd=true/\Z.1.nx<=K.nx+1+8*d) \/
  (Z.2=7/\Z.1.s.on=false/\Z.1.nx<=K.nx+2+8*d))
def dG (te:Kz) (b0:Nat):Prop:=∀K G,Sit K G No->K.s.on=true->b0<=bad3 K.F->(K.dd=false->Rm 1 K)->Sq 1 K->∃Z,te K=some Z/\oI K G Z
theorem jN(K:BH)(b:Int):∃F' fr' d',spK K b={ K with F:=F',fr:=fr',dd:=d' }:=by
 obtain⟨F',fr',e⟩:=Iy K b;unfold spK stK;rw[e];exact⟨_,_,_,rfl⟩
theorem jO(h:Sit K G X)(hb:b<12){x:Nat}(hx:x≠b):(K.F x≠0->(spK K b).F x≠0)/\(K.F x=2->(spK K b).F x=2):=by
 have e:(spK K b).F x=(lvK K b).F x:=by
  show AD.setF (lvK K b).F b 3 x=_;rw[Dk hb dc (AL rfl),BT _ _ hx]
 rw[e];unfold lvK;split
 ·cases eo:K.fr.o
  ·rw[DW eo];exact⟨id,id⟩
  ·rw[h.clK_eq eo];show (K.F x≠0->upd K.F K.fr.k 2 x≠0)/\(K.F x=2->upd K.F K.fr.k 2 x=2);rcases BX K.F K.fr.k x 2 with ⟨_,e⟩ | ⟨_,e⟩ <;> rw[e]
   ·exact⟨fun _=>dc,fun _=>rfl⟩
   ·exact⟨id,id⟩
 ·exact⟨id,id⟩
theorem Sit.spoS{Y:Nat->Prop}(h:Sit K G X)(hb:b<12)(h3:K.F b≠3)(hl:(∀o,o<25->K.L o≠-1->(K.L o).toNat / 8≠b)\/2<=bad3 K.F)(hY:∀x,x<12->X x->x=b\/Y x):Sit (spK K b) G Y/\Stp 0 1 K (spK K b) G G/\(spK K b).nx=K.nx/\(spK K b).s=K.s/\RdB 0 K (spK K b):=by
 obtain⟨s1,b1,-,q1,-,-⟩:=h.spo hb h3 hl hY;have hr:=jI K (b:Nat);obtain⟨F',fr',d',e⟩:=jN K (b:Nat);rw[e] at s1 b1 q1 hr ⊢;exact⟨s1,⟨rfl,rfl,rfl,fun _ _=>Iff.rfl,id,fun _ _=>rfl,⟨rfl,rfl,rfl,rfl,rfl,rfl⟩,fun x hx e2=>(q1 x hx).2 (AK e2),b1,AM _,hr⟩,rfl,rfl,hr⟩
structure mJ (K K':BH) (G G':Bk) (S:Bm) (V n:Nat) (d:Nat):Prop where
 on:K'.s.on=true
 sit:Sit K' G' No
 told:Told K' G'
 st:K'.F V=0\/K'.F V=3
 none:∀o,o<25->K'.L o≠-1->(K'.L o).toNat / 8≠V
 stp:Stp (wM (bad3 K.F)) d K K' G G'
 nx:(d=0/\K'.nx=K.nx)\/K'.nx+1<=K.nx+8*d
 dd:K'.dd=false
 rm:Rm 0 K'
 gc:d=0->K.F V≠3->(K'.fr.o=true/\K'.fr.i<=n)\/((K'.fr=K.fr\/K'.fr=noF)/\fre K'.F=fre K.F+1)
 fd:S.fd=true->K.F V=2->d≠0/\K'.fr.o=true/\K'.fr.i<=7/\∀b,b<12->(K.F b≠0->K'.F b≠0)/\(b≠V->K.F b=2->K'.F b=2)
structure nU (K K':BH) (G G':Bk) (S':Bm) (X':Nat->Prop) (d:Nat):Prop where
 on:K'.s.on=true
 sit:Sit K' G' X'
 w:K'.dd=true\/(S'.fd=true/\bad3 K'.F=2/\K'.F S'.fm≠3)
 stp:Stp (wM (bad3 K.F)) d K K' G G'
 nx:K'.nx<=K.nx+8*d
structure nB (K K':BH) (G G':Bk) (X':Nat->Prop) (d:Nat):Prop where
 off:K'.s.on=false
 sit:Sit K' G' X'
 stp:Stp (wM (bad3 K.F)) d K K' G G'
 nx:K'.nx<=K.nx+1+8*d
def oJ (K:BH) (G:Bk) (S:Bm) (n:Nat) (Z:BH × Bm × Nat):Prop:=
 Z.2.1.fm=S.fm/\(S.fd=true->Z.2.1.fd=true)/\∃G' X' d,(Z.2.2=0/\mJ K Z.1 G G' S S.fm n d)\/(Z.2.2=14/\nU K Z.1 G G' Z.2.1 X' d)\/(Z.2.2=7/\nB K Z.1 G G' X' d)
theorem Sf(hb:b<12):PM K (b:Nat)=decide (K.F b=3):=by
 unfold PM AD.getC AD.getV;rw[AI om,AI om,AP];simp
theorem Pc{te:Kz}{b0:Nat}(hte:dG te b0):∀(n:Nat) (K:BH) (G:Bk) (S:Bm),Sit K G No->K.s.on=true->S.fm<12->K.F S.fm≠0->K.dd=false->Rm 0 K->(Told K G\/(S.fd=true/\K.F S.fm≠3))->Sq 0 K->4<=n+bad3 K.F->b0<=bad3 K.F+1->∃Z,trK te n K S=some Z/\oJ K G S ((AB.ofL K.L S.fm).length) Z:=by
 intro n
 induction n with
 | zero=>
  intro K G S h _ _ _ it _ _ _ hn _;have:¬ 2<bad3 K.F:=fun e=>by have:=h.dds.2 e;rw[it] at this;cases this
  omega
 | succ n ih=>
  intro K G S h w1 no h0 it h2 hT h1 hn oa;have h6:bad3 K.F<=2:=by
   have:¬ 2<bad3 K.F:=fun e=>by have:=h.dds.2 e;rw[it] at this;cases this
   omega
  have wp:=LK (bad3 K.F);have ws:=NO h6;rw[PS,Sf no];by_cases h3:K.F S.fm=3
  ·rw[AO h3,AJ rfl];have w2:Told K G:=hT.elim id (fun x=>absurd h3 x.2);have kd:∀o,o<25->K.L o≠-1->(K.L o).toNat / 8≠S.fm:=fun o ho hL e=>by
    have:=(h.blk o ho hL).2;rw[e] at this;rw[this h3] at it;cases it
   exact⟨_,rfl,rfl,id,G,No,0,AK ⟨rfl,⟨w1,h,w2,AL h3,kd,(Stp.refl K G).mono om,AK ⟨rfl,rfl⟩,it,h2,fun _ e=>absurd h3 e,fun _ e=>by rw[h3] at e;exact absurd e dc⟩⟩⟩
  ·rw[AN h3,AI dc];have G2:K.nx<IE:=(by unfold Sq at h1;omega);obtain⟨⟨zf,zr,zd⟩,G1,f7⟩:=Pa h w1 no h0 h3 it h2 (hT.imp id (fun x=>x.1)) G2;generalize tyK K S=X at *
   rcases f7 with ⟨e0,d,hd,D⟩ | ⟨e8,F⟩ | ⟨B',W⟩ | ⟨e7,C⟩
   ·rw[AJ (by rw[e0];decide)];refine⟨_,rfl,zf,zd,G1,No,d,AK ⟨e0,⟨D.on,D.sit,D.told,D.st,D.none,D.stp.mono om,?_,D.dd,D.rm,fun e _=>D.gc e,fun e _=>?_⟩⟩⟩
    ·have:=D.nx;have:=D.stp.nx;rcases(by omega:d=0\/d=1) with rfl | rfl
     ·exact AK ⟨rfl,om⟩
     ·exact AL om
    ·obtain⟨a,b,c⟩:=D.fd e;exact⟨a,b,c,D.nf a⟩
   ·rw[AI (by rw[e8];decide)];have f6:AC.blV X.2.1.tt=(X.2.1.tt.k:Nat):=(by unfold AC.blV;rw[F.hit.o];rfl);rw[f6];have p2:X.1.F X.2.1.tt.k≠3:=(by rw[F.hit.F];decide);obtain⟨s2,f9,n2,f4,f8⟩:=F.sit.spoS (Y:=fun _=>False) F.hit.k p2 (AK F.hit.none) (fun x _ e=>AK e.2);obtain⟨-,b2,f2,q2,d2,-⟩:=F.sit.spo (Y:=fun _=>False) F.hit.k p2 (AK F.hit.none) (fun x _ e=>AK e.2);have hk:=fun {x:Nat} (hx:x≠X.2.1.tt.k)=>jO F.sit F.hit.k hx;have x0:=F.stp.bd;have qa:=F.fre;have hi:=F.nx;rw[AI (show ¬ X.1.F X.2.1.tt.k=0 by rw[F.hit.F];decide)] at f2;generalize spK X.1 (X.2.1.tt.k:Nat)=K2 at *
    have ha:Sq 1 K2:=(by unfold Sq at h1 ⊢;omega);obtain⟨Y,hY,G3,X3,d3,s3,st3,hy⟩:=hte K2 G1 s2 (by rw[f4];exact F.on) om (fun _=>by unfold Rm at h2 ⊢;omega) ha;rw[hY];have w':bad3 K2.F=bad3 K.F+1:=om;have La:Stp (20+2*wM (bad3 K.F+1)) (1+d3) K Y.1 G G3:=by
     have:=(F.stp.trans f9).trans st3;have e:0+1+d3=1+d3:=om;rw[e,w'] at this;exact this.mono om
    have wq:=LK (bad3 K.F+1);have x1:=La.bd;have ar:S.fm≠X.2.1.tt.k:=(by rw[<-zf];exact fun e=>F.hit.ne e.symm);rcases hy with ⟨y0,hc,yX,yT,yR,yd,yn,yf⟩ | ⟨wr,hc,yd,yn⟩ | ⟨y7,hg,yn⟩
    ·dsimp only;rw[AI (by rw[y0];decide)];have f3:Y.1.F X.2.1.fm≠0:=by
      refine(yf _ (by rw[zf];exact no)).1 ((hk ?_).1 F.v0);rw[zf];exact ar
     have wY:=DX (show bad3 K.F+1<=bad3 Y.1.F by omega);obtain⟨Z,hZ,f1,f5,G4,X4,d4,hz⟩:=ih Y.1 G3 X.2.1 (s3.mono (fun b _ x=>absurd x (yX b))) hc (by rw[zf];exact no) f3 yd yR (AK yT) (by unfold Sq at h1 ⊢;omega) om om;refine⟨Z,hZ,f1.trans zf,fun e=>f5 (zd e),G4,X4,1+d3+d4,?_⟩;rcases hz with ⟨c0,M⟩ | ⟨c14,M⟩ | ⟨c7,M⟩
     ·have M':mJ Y.1 Z.1 G3 G4 X.2.1 S.fm ((AB.ofL Y.1.L X.2.1.fm).length) d4:=(by rw[<-zf];exact M);have t7:Z.1.nx<=Y.1.nx+8*d4:=by rcases M.nx with ⟨_,e⟩ | e <;> omega
      refine AK ⟨c0,⟨M'.on,M'.sit,M'.told,M'.st,M'.none,(La.trans M'.stp).mono om,AL om,M'.dd,M'.rm,fun e=>absurd e om,fun e1 e2=>?_⟩⟩;have g1:X.1.F S.fm=2:=(F.nf _ no).2 e2;have g2:K2.F S.fm=2:=(hk ar).2 g1;have g3:Y.1.F S.fm=2:=(yf _ no).2 g2;obtain⟨a,b,c,f⟩:=M'.fd (zd e1) g3;refine⟨om,b,c,fun x hx=>⟨fun e=>(f x hx).1 ((yf x hx).1 ?_),fun hv e=>(f x hx).2 hv ((yf x hx).2 ?_)⟩⟩
      ·by_cases ex:x=X.2.1.tt.k
       ·have:=(q2 x hx).2 (AL ex);rw[this];decide
       ·exact(hk ex).1 ((F.nf x hx).1 e)
      ·have ex:x≠X.2.1.tt.k:=fun ex=>by
        have:=F.dk;rw[<-ex,e] at this;exact absurd this dc
       exact(hk ex).2 ((F.nf x hx).2 e)
     ·have hM:=M.nx;exact AL (AK ⟨c14,⟨M.on,M.sit,M.w,(La.trans M.stp).mono om,om⟩⟩)
     ·have hM:=M.nx;exact AL (AL ⟨c7,⟨M.off,M.sit,(La.trans M.stp).mono om,om⟩⟩)
    ·dsimp only;rw[AJ (by rw[wr];decide)];exact⟨_,rfl,zf,zd,G3,X3,1+d3,AL (AK ⟨wr,⟨hc,s3,AK yd,La.mono om,by show Y.1.nx<=_;omega⟩⟩)⟩
    ·dsimp only;rw[AJ (by rw[y7];decide)];exact⟨_,rfl,zf,zd,G3,X3,1+d3,AL (AL ⟨y7,⟨hg,s3,La.mono om,by show Y.1.nx<=_;omega⟩⟩)⟩
   ·rw[AJ (by rw[B'];decide)];exact⟨_,rfl,zf,zd,G1,Xs X.2.1,0,AL (AK ⟨B',⟨W.on,W.sit,AL ⟨W.fd,W.b2,W.v3⟩,W.stp.mono om,by rw[W.nx];omega⟩⟩)⟩
   ·rw[AJ (by rw[e7];decide)];exact⟨_,rfl,zf,zd,G1,Xs X.2.1,0,AL (AL ⟨e7,⟨C.off,C.sit,C.stp.mono om,C.nx⟩⟩)⟩
end
section
variable {K:BH}{G:Bk}
theorem dH{X:Nat->Prop}(h:Sit K G X)(b:Int):Sit (lvK K b) G X/\Stp 0 0 K (lvK K b) G G/\(lvK K b).nx=K.nx/\(lvK K b).s=K.s/\(lvK K b).dd=K.dd/\fre (lvK K b).F=fre K.F/\(lvK K b).L=K.L/\Nf K (lvK K b)/\(∀x,x<12->(K.F x=3<->(lvK K b).F x=3)):=by
 obtain⟨s1,f1,b1,q1⟩:=h.lv b;have hr:=LJ K b;have it:Nf K (lvK K b):=fun x _=>by
  unfold lvK;split
  ·cases eo:K.fr.o
   ·rw[DW eo];exact⟨id,id⟩
   ·rw[h.clK_eq eo];show (K.F x≠0->upd K.F K.fr.k 2 x≠0)/\(K.F x=2->upd K.F K.fr.k 2 x=2);rcases BX K.F K.fr.k x 2 with ⟨_,e⟩ | ⟨_,e⟩ <;> rw[e]
    ·exact⟨fun _=>dc,fun _=>rfl⟩
    ·exact⟨id,id⟩
  ·exact⟨id,id⟩
 obtain⟨F',fr',e⟩:=Iy K b;rw[e] at s1 f1 b1 q1 hr it ⊢;exact⟨s1,⟨rfl,rfl,rfl,fun _ _=>Iff.rfl,id,fun _ _=>rfl,⟨rfl,rfl,rfl,rfl,rfl,rfl⟩,fun x hx e2=>(q1 x hx).1 e2,b1,AM _,hr⟩,rfl,rfl,rfl,f1,rfl,it,q1⟩
structure oK (K K':BH) (G G':Bk) (X':Nat->Prop) (d:Nat):Prop where
 on:K'.s.on=true
 sit:Sit K' G' X'
 dd:K'.dd=true
 stp:Stp (wM (bad3 K.F)) d K K' G G'
 nx:K'.nx<=K.nx+8*d
def nV (K:BH) (G:Bk) (S:Bm) (n:Nat) (Z:BH × Bm × Nat):Prop:=
 ∃G' X' d,(Z.2.2=0/\mJ K Z.1 G G' S S.fm n d/\(S.fd=true->d≠0/\Z.1.fr.o=true/\Z.1.fr.i<=7/\∀b,b<12->(K.F b≠0->Z.1.F b≠0)/\(b≠S.fm->K.F b=2->Z.1.F b=2)))\/(Z.2.2=14/\oK K Z.1 G G' X' d)\/(Z.2.2=7/\nB K Z.1 G G' X' d)
theorem IA{F:Nat->Int}{b:Nat}{s:Int}(h:F b=s):upd F b s=F:=by
 funext x;unfold upd;split
 ·rename_i e;rw[e,h]
 ·rfl
theorem Yk{te:Kz}{b0:Nat}(hte:dG te b0)(n:Nat){S:Bm}(h:Sit K G No)(hon:K.s.on=true)(hfm:S.fm<12)(h0:K.F S.fm≠0)(h3:K.F S.fm≠3)(hdd:K.dd=false)(hrm:Rm 0 K)(hT:Told K G\/S.fd=true)(hsq:Sq 0 K)(hn:4<=n+bad3 K.F)(hb0:b0<=bad3 K.F+1) :∃Z,moK te n K S=some Z/\nV K G S ((AB.ofL K.L S.fm).length) Z:=by
 have hc:∃Z,trK te n (if S.fd then lvK K S.fm else K) S=some Z/\Z.2.1.fm=S.fm/\∃G' X' d,(Z.2.2=0/\mJ K Z.1 G G' S S.fm ((AB.ofL K.L S.fm).length) d/\(S.fd=true->d≠0/\Z.1.fr.o=true/\Z.1.fr.i<=7/\∀b,b<12->(K.F b≠0->Z.1.F b≠0)/\(b≠S.fm->K.F b=2->Z.1.F b=2)))\/(Z.2.2=14/\nU K Z.1 G G' Z.2.1 X' d)\/(Z.2.2=7/\nB K Z.1 G G' X' d):=by
  cases hfd:S.fd
  ·obtain⟨Z,h1,h2,-,h4⟩:=Pc hte n K G S h hon hfm h0 hdd hrm (hT.imp id (fun e=>by rw[hfd] at e;cases e)) hsq hn hb0;obtain⟨G',X',d,h5⟩:=h4;exact⟨Z,h1,h2,G',X',d,h5.imp (fun x=>⟨x.1,x.2,fun e=>by cases e⟩) id⟩
  ·obtain⟨s1,ar,n1,w1,d1,f1,l1,ha,q1⟩:=dH h (S.fm:Nat);have kd:(lvK K (S.fm:Nat)).F S.fm=2:=by
    have hs:=h.sts S.fm hfm;by_cases e:K.F S.fm=2
    ·exact(ha _ hfm).2 e
    ·have e1:K.F S.fm=1:=om;obtain⟨o1,o2⟩:=(h.opn S.fm hfm).1 e1;unfold lvK;rw[AJ (by unfold AC.blV;rw[o1,o2];rfl),h.clK_eq o1];show upd K.F K.fr.k 2 S.fm=2;rw[o2,Bb]
   have hk:=ar.bd;generalize lvK K (S.fm:Nat)=K1 at *
   obtain⟨Z,e1,e2,-,G',X',d,e4⟩:=Pc hte n K1 G S s1 (by rw[w1];exact hon) hfm (by rw[kd];decide) (d1.trans hdd) (by unfold Rm at hrm ⊢;omega) (AL ⟨hfd,by rw[kd];decide⟩) (by unfold Sq at hsq ⊢;omega) om om;rw[l1] at e4;refine⟨Z,e1,e2,G',X',d,?_⟩;rcases e4 with ⟨c,M⟩ | ⟨c,M⟩ | ⟨c,M⟩
   ·have no:d≠0/\Z.1.fr.o=true/\Z.1.fr.i<=7/\∀b,b<12->(K.F b≠0->Z.1.F b≠0)/\(b≠S.fm->K.F b=2->Z.1.F b=2):=by
     obtain⟨a,b,c',f⟩:=M.fd hfd kd;exact⟨a,b,c',fun x hx=>⟨fun e=>(f x hx).1 ((ha x hx).1 e),fun hv e=>(f x hx).2 hv ((ha x hx).2 e)⟩⟩
    refine AK ⟨c,⟨M.on,M.sit,M.told,M.st,M.none,by have:=ar.trans M.stp;rw[AW,AW,hk] at this;exact this,by have:=M.nx;rw[n1] at this;exact this,M.dd,M.rm,fun e _=>absurd e (M.fd hfd kd).1,fun _ _=>no⟩,fun _=>no⟩
   ·exact AL (AK ⟨c,⟨M.on,M.sit,M.w,by have:=ar.trans M.stp;rw[AW,AW,hk] at this;exact this,by have:=M.nx;omega⟩⟩)
   ·exact AL (AL ⟨c,⟨M.off,M.sit,by have:=ar.trans M.stp;rw[AW,AW,hk] at this;exact this,by have:=M.nx;omega⟩⟩)
 obtain⟨Z,e1,e2,G',X',d,e4⟩:=hc;unfold moK;rw[e1];dsimp only;rcases e4 with ⟨c,M,Mf⟩ | ⟨c,M⟩ | ⟨c,M⟩
 ·rw[AI (by rw[c];rintro ⟨_,e⟩;cases e)];exact⟨Z,rfl,G',X',d,AK ⟨c,M,Mf⟩⟩
 ·by_cases hf:Z.2.1.fd=true
  ·rw[AJ ⟨hf,c⟩,e2];have wr:=M.nx;by_cases it:Z.1.F S.fm=3
   ·have hd:Z.1.dd=true:=M.w.elim id (fun w=>absurd (e2 ▸ it) w.2.2);have B':lvK Z.1 (S.fm:Nat)=Z.1:=by
     unfold lvK;rw[AI];intro e;unfold AC.blV at e;split at e
     ·rename_i ho;have:Z.1.F S.fm=1:=(M.sit.opn S.fm hfm).2 ⟨ho,om⟩;rw[it] at this;exact absurd this dc
     ·omega
    have h6:({ spK Z.1 (S.fm:Nat) with dd:=true }:BH)=Z.1:=by
     unfold spK stK;rw[B',Dk hfm dc (AL rfl),IA it];dsimp only;generalize Z.1=Q at hd;cases Q
     dsimp only at hd;subst hd;rfl
    rw[h6];exact⟨_,rfl,G',X',d,AL (AK ⟨c,⟨M.on,M.sit,hd,M.stp,wr⟩⟩)⟩
   ·have w':2<=bad3 Z.1.F:=M.w.elim (fun e=>Nat.le_of_lt (M.sit.dds.1 e)) (fun w=>om);obtain⟨s5,hg,n5,p2,r5⟩:=M.sit.spoS (Y:=X') hfm it (AL w') (fun x _ e=>AL e);obtain⟨-,b5,-,-,d5,-⟩:=M.sit.spo (Y:=X') hfm it (AL w') (fun x _ e=>AL e);have La:=d5.2 w';have h6:({ spK Z.1 (S.fm:Nat) with dd:=true }:BH)=spK Z.1 (S.fm:Nat):=by
     generalize spK Z.1 (S.fm:Nat)=Q at La;cases Q
     dsimp only at La;subst La;rfl
    rw[h6];refine⟨_,rfl,G',X',d+1,AL (AK ⟨c,⟨by show (spK Z.1 (S.fm:Nat)).s.on=true;rw[p2];exact M.on,s5,La,M.stp.trans hg,by show (spK Z.1 (S.fm:Nat)).nx<=_;rw[n5];omega⟩⟩)⟩
  ·rw[AI (fun e=>hf e.1)];have hd:Z.1.dd=true:=M.w.elim id (fun w=>absurd w.1 hf);exact⟨Z,rfl,G',X',d,AL (AK ⟨c,⟨M.on,M.sit,hd,M.stp,M.nx⟩⟩)⟩
 ·rw[AI (by rw[c];rintro ⟨_,e⟩;cases e)];exact⟨Z,rfl,G',X',d,AL (AL ⟨c,M⟩)⟩
end
section
variable {K:BH}{G:Bk}{o w:Nat}{mo:It}{X:Nat->Prop}{F L:Nat->Int}{Z:BH × Nat}
theorem fP(L:Nat->Int):∀k,AB.cL L k<=k
 | 0=>AM _
 | k+1=>by
  have:=fP L k
  unfold AB.cL
  split <;> omega
theorem li:∀n,n<=12->(∀b,b<12->F b=2->4<=(AB.ofL L b).length)->4*AD.cnt F 2 n<=AB.cP L (8*n)
 | 0,_,_=>Ac _
 | n+1,hn,h=>by
  have ih:=li n om h
  have e:AB.cP L (8*(n+1))=AB.cP L (8*n)+(AB.ofL L n).length:=AB.eu L n 8
  rw[e]
  unfold AD.cnt
  split
  ·
   rename_i c
   have:=h n om c
   omega
  ·
   omega
theorem jP(hL:AB.GK L)(h7:7<=AD.cnt F 2 12):AH.chC 12 12 F (fun k=>(AB.lvK L 96 k:Nat))=0/\AH.chV 12 12 F (fun k=>(AB.lvK L 96 k:Nat))<12/\F (AH.chV 12 12 F (fun k=>(AB.lvK L 96 k:Nat)))=2/\(AB.ofL L (AH.chV 12 12 F (fun k=>(AB.lvK L 96 k:Nat)))).length<=3:=by
 have hb:=AH.M8 F (fun k=>((AB.lvK L 96 k:Nat):Int)) 12;cases e:AH.bst F (fun k=>((AB.lvK L 96 k:Nat):Int)) 12 with
 | none=>
  rw[e] at hb;have:∀k,k<=12->AD.cnt F 2 k=0:=by
   intro k
   induction k with
   | zero=>intro _;rfl
   | succ k ih=>intro hk;unfold AD.cnt;rw[ih om,AI (hb k (Ac _) om)]
  have:=this 12 (AM _);omega
 | some b=>
  rw[e] at hb;obtain⟨_,b2,b3,b4,_⟩:=hb;have eo:AH.cE F (fun k=>((AB.lvK L 96 k:Nat):Int))=some b:=e;rw[AH.chC_some eo,AH.chV_some eo];refine⟨rfl,b2,b3,?_⟩;by_cases h4:4<=(AB.ofL L b).length
  ·exfalso;have:=li (F:=F) (L:=L) 12 (AM _) (fun i hi hF=>by
    have:=b4 i (Ac _) hi hF
    dsimp only at this
    rw[AB.Mz L b2,AB.Mz L hi] at this
    omega)
   have no:=AB.iF hL;have it:=fP L 25;rw[show 8*12=96 by rfl] at this;omega
  ·omega
theorem MI(s:AC.St)(ho:o<25):AC.rmV s o=true<->s.o=true/\s.i<8/\(o=24\/s.i<6):=by
 unfold AC.rmV AC.nxC;rw[decide_eq_true_iff,AI om];cases s.o
 ·simp
 ·rw[AI dc];by_cases c:s.i<8/\((o:Int)=24\/s.i<6)
  ·rw[AJ c];exact⟨fun _=>⟨rfl,c.1,c.2.imp (fun e=>om) id⟩,fun _=>rfl⟩
  ·rw[AI c];refine⟨fun e=>(by cases e),fun e=>absurd ⟨e.2.1,e.2.2.imp (fun x=>om) id⟩ c⟩
def RJ (mo:It) (bb:Nat):Prop:=∀K G S,Sit K G No->K.s.on=true->S.fm<12->K.F S.fm≠0->K.F S.fm≠3->K.dd=false->Rm 0 K->(Told K G\/S.fd=true)->Sq 0 K->bb<=bad3 K.F->∃Z,mo K S=some Z/\nV K G S ((AB.ofL K.L S.fm).length) Z
def Zv (K:BH) (G:Bk) (o w:Nat) (Z:BH × Nat):Prop:=∃G' X' d,Sit Z.1 G' X'/\Stp w d K Z.1 G G' /\
 ((Z.2=0/\Z.1.s.on=true/\(∀b,¬ X' b)/\Z.1.dd=false/\Rm 0 Z.1/\AC.rmV Z.1.fr o=true/\(Told K G->Told Z.1 G')/\((d=0/\Z.1.nx=K.nx)\/Z.1.nx+1<=K.nx+8*d)) \/
  (Z.2=14/\Z.1.s.on=true/\Z.1.dd=true/\Z.1.nx<=K.nx+8*d) \/
  (Z.2=7/\Z.1.s.on=false/\Z.1.nx<=K.nx+1+8*d))
theorem Zv.cons{K1:BH}{G1:Bk}{w1 d1:Nat}(h:Zv K1 G1 o w Z)(st:Stp w1 d1 K K1 G G1)(hT:Told K G->Told K1 G1)(hn:(d1=0/\K1.nx=K.nx)\/K1.nx+1<=K.nx+8*d1):Zv K G o (w1+w) Z:=by
 obtain⟨G',X',d,s,it,hx⟩:=h;refine⟨G',X',d1+d,s,st.trans it,?_⟩;rcases hx with ⟨a1,a2,a3,a4,a5,a6,a7,a8⟩ | ⟨a1,a2,a3,a4⟩ | ⟨a1,a2,a3⟩
 ·refine AK ⟨a1,a2,a3,a4,a5,a6,fun t=>a7 (hT t),?_⟩;rcases hn with ⟨rfl,e⟩ | e <;> rcases a8 with ⟨rfl,e2⟩ | e2
  ·exact AK ⟨rfl,e2.trans e⟩
  ·exact AL om
  ·exact AL om
  ·exact AL om
 ·exact AL (AK ⟨a1,a2,a3,by rcases hn with ⟨rfl,e⟩ | e <;> omega⟩)
 ·exact AL (AL ⟨a1,a2,by rcases hn with ⟨rfl,e⟩ | e <;> omega⟩)
theorem Zv.mono{w':Nat}(h:Zv K G o w Z)(e:w<=w'):Zv K G o w' Z:=by
 obtain⟨G',X',d,s,it,hx⟩:=h;exact⟨G',X',d,s,it.mono e,hx⟩
theorem NP(h:Sit K G No)(hon:K.s.on=true)(hdd:K.dd=false)(hrm:Rm 0 K)(hr:AC.rmV K.fr o=true)(n:Nat):mrK mo (n+1) K o=some (K,0)/\Zv K G o 0 (K,0):=by
 refine⟨by rw[mrK,AJ hr],G,No,0,h,Stp.refl K G,AK ⟨rfl,hon,fun _=>id,hdd,hrm,hr,id,AK ⟨rfl,rfl⟩⟩⟩
theorem Sit.clS(h:Sit K G X):Sit (clK K) G X/\Stp 0 0 K (clK K) G G/\(clK K).nx=K.nx/\(clK K).s=K.s/\(clK K).dd=K.dd/\fre (clK K).F=fre K.F/\(clK K).fr.o=false/\(∀b,b<12->(K.F b=3<->(clK K).F b=3))/\Nf K (clK K)/\(clK K).L=K.L:=by
 obtain⟨s1,f1,b1,o1,q1⟩:=h.cl;have hr:=RG K;have it:Nf K (clK K):=fun x _=>by
  cases eo:K.fr.o
  ·rw[DW eo];exact⟨id,id⟩
  ·rw[h.clK_eq eo];show (K.F x≠0->upd K.F K.fr.k 2 x≠0)/\(K.F x=2->upd K.F K.fr.k 2 x=2);rcases BX K.F K.fr.k x 2 with ⟨_,e⟩ | ⟨_,e⟩ <;> rw[e]
   ·exact⟨fun _=>dc,fun _=>rfl⟩
   ·exact⟨id,id⟩
 have e:∃F' fr',clK K={ K with F:=F',fr:=fr' }:=by
  unfold clK;split
  ·exact⟨_,_,rfl⟩
  ·exact⟨K.F,K.fr,rfl⟩
 obtain⟨F',fr',e⟩:=e;rw[e] at s1 f1 b1 o1 q1 hr it ⊢;exact⟨s1,⟨rfl,rfl,rfl,fun _ _=>Iff.rfl,id,fun _ _=>rfl,⟨rfl,rfl,rfl,rfl,rfl,rfl⟩,fun x hx e2=>(q1 x hx).1 e2,b1,AM _,hr⟩,rfl,rfl,rfl,f1,o1,q1,it,rfl⟩
theorem Sit.opS(h:Sit K G X)(ho:K.fr.o=false)(hf:1<=fre K.F):(opK K).2=0/\Sit (opK K).1 G X/\Stp 0 0 K (opK K).1 G G/\(opK K).1.nx=K.nx/\(opK K).1.s=K.s/\(opK K).1.dd=K.dd/\fre (opK K).1.F+1=fre K.F/\(opK K).1.fr.o=true/\(opK K).1.fr.i=0/\(∀b,b<12->(K.F b=3<->(opK K).1.F b=3))/\Nf K (opK K).1:=by
 obtain⟨e0,s1,f1,b1,o1,q1,F',e⟩:=h.op ho hf;have hr:=jJ K;obtain⟨t1,t2,t3⟩:=Iw h.wf.frm hf;have it:Nf K (opK K).1:=fun x hx=>by
  have eo:(opK K).1.F=AD.tkF K.F 0 (tkM K.F):=by unfold opK;rw[AJ t1]
  rw[eo,Fu _ hx];rcases BX K.F (tkM K.F) x 1 with ⟨e1,e2⟩ | ⟨_,e2⟩ <;> rw[e2]
  ·rw[e1,t3];exact⟨fun e=>absurd rfl e,fun e=>absurd e dc⟩
  ·exact⟨id,id⟩
 rw[e] at s1 f1 b1 o1 q1 hr it ⊢;exact⟨e0,s1,⟨rfl,rfl,rfl,fun _ _=>Iff.rfl,id,fun _ _=>rfl,⟨rfl,rfl,rfl,rfl,rfl,rfl⟩,fun x hx e2=>(q1 x hx).1 e2,b1,AM _,hr⟩,rfl,rfl,rfl,f1,rfl,rfl,q1,it⟩
theorem RK(hb:bad3 K.F<=2):LA K=true<->5<fre K.F+2*bad3 K.F:=by
 unfold LA AD.XM;rw[AI (by unfold bad3 at hb;omega),decide_eq_true_iff];unfold fre bad3 at *
 omega
theorem jQ(h:Sit K G X)(ho:K.fr.o=false):AD.cnt K.F 1 12=0:=by
 have:∀k,k<=12->AD.cnt K.F 1 k=0:=by
  intro k
  induction k with
  | zero=>intro _;rfl
  | succ k ih=>
   intro hk;unfold AD.cnt;rw[ih om,AI];intro e;have:=((h.opn k om).1 e).1;rw[ho] at this;cases this
 exact this 12 (AM _)
theorem Sg(h:Sit K G No)(hon:K.s.on=true)(hdd:K.dd=false)(ho25:o<25)(hr:¬ AC.rmV K.fr o=true)(hs:LA (clK K)=true)(hb:bad3 K.F<=2)(n:Nat):∃Z,mrK mo (n+2) K o=some Z/\Zv K G o 0 Z:=by
 obtain⟨s1,no,n1,ar,d1,f1,o1,q1,-,-⟩:=h.clS;have hv:bad3 (clK K).F=bad3 K.F:=no.bd;have kd:=(RK om).1 hs;obtain⟨e2,s2,Go,n2,La,d2,f2,o2,i2,q2,-⟩:=s1.opS o1 om;have e:mrK mo (n+2) K o=mrK mo (n+1) (opK (clK K)).1 o:=by
  rw[mrK,AI hr];dsimp only;rw[AJ hs,AI (by rw[e2];decide)]
 have hk:=Go.bd;generalize (opK (clK K)).1=K2 at *
 generalize clK K=K1 at *
 have it:AC.rmV K2.fr o=true:=(MI _ ho25).2 ⟨o2,om,AL om⟩;obtain⟨e3,m3⟩:=NP (mo:=mo) s2 (by rw[La,ar];exact hon) (d2.trans (d1.trans hdd)) (by unfold Rm;omega) it n;refine⟨(K2,0),e.trans e3,?_⟩;have:=(m3.cons Go (fun t=>t.kee q2 rfl) (AK ⟨rfl,n2⟩)).cons no (fun t=>t.kee q1 rfl) (AK ⟨rfl,n1⟩);exact this
theorem Yl{bb:Nat}(hmo:RJ mo bb)(ho25:o<25):∀(n:Nat) (K:BH) (G:Bk),Sit K G No->K.s.on=true->K.dd=false->Rm 0 K->(Told K G\/AC.rmV K.fr o=true)->Sq 0 K->5<=n+bad3 K.F->bb<=bad3 K.F->∃Z,mrK mo n K o=some Z/\Zv K G o (n*wM (bad3 K.F)) Z:=by
 intro n
 induction n with
 | zero=>
  intro K G h _ ar _ _ _ hn _;have:¬ 2<bad3 K.F:=fun e=>by have:=h.dds.2 e;rw[ar] at this;cases this
  omega
 | succ n ih=>
  intro K G h w' ar hk hT h0 hn f6;have h6:bad3 K.F<=2:=by
   have:¬ 2<bad3 K.F:=fun e=>by have:=h.dds.2 e;rw[ar] at this;cases this
   omega
  by_cases hr:AC.rmV K.fr o=true
  ·obtain⟨e,m⟩:=NP (mo:=mo) h w' ar hk hr n;exact⟨_,e,m.mono (Ac _)⟩
  ·have wr:Told K G:=hT.resolve_right hr;obtain⟨m,rfl⟩:∃m,n=m+1:=⟨n - 1,om⟩;by_cases hs:LA (clK K)=true
   ·obtain⟨Z,e,m2⟩:=Sg (mo:=mo) h w' ar ho25 hr hs h6 m;exact⟨Z,e,m2.mono (Ac _)⟩
   ·obtain⟨s1,hv,n1,f4,d1,f1,o1,q1,-,l1⟩:=h.clS;have B':bad3 (clK K).F=bad3 K.F:=hv.bd;have f7:¬ 5<fre (clK K).F+2*bad3 (clK K).F:=fun e=>hs ((RK om).2 e);have f5:=jQ s1 o1;have h2:=AD.SH (clK K).F 12 (fun i hi=>s1.sts i hi);have h7:7<=AD.cnt (clK K).F 2 12:=by
     unfold Rm at hk;unfold fre bad3 at *
     omega
    obtain⟨v1,v2,v3,v4⟩:=jP s1.wf.map h7;have p2:lvF (clK K)=fun k=>((AB.lvK (clK K).L 96 k:Nat):Int):=rfl;rw[<-p2] at v1 v2 v3 v4;have f2:Told (clK K) G:=wr.kee q1 rfl;obtain⟨Y,eY,G2,X2,d2,hY⟩:=hmo (clK K) G (nwS (AH.chV 12 12 (clK K).F (lvF (clK K))) false false) s1 (by rw[f4];exact w') v2 (by show (clK K).F (AH.chV 12 12 (clK K).F (lvF (clK K)))≠0;rw[v3];decide) (by show (clK K).F (AH.chV 12 12 (clK K).F (lvF (clK K)))≠3;rw[v3];decide) (d1.trans ar) (by unfold Rm at hk ⊢;omega) (AK f2) (by unfold Sq at h0 ⊢;omega) om;have hx:mrK mo (m+1+1) K o=if Y.2.2≠0 then some (Y.1,Y.2.2) else mrK mo (m+1) Y.1 o:=by
     rw[mrK,AI hr];dsimp only;rw[AI hs,AI (by rw[v1];decide),eY]
    rw[hx];have ha:wM (bad3 (clK K).F)=wM (bad3 K.F):=(by rw[B']);rcases hY with ⟨c0,M,-⟩ | ⟨c14,M⟩ | ⟨c7,M⟩
    ·rw[AI (by rw[c0];decide)];have it:=M.stp;rw[ha] at it;have kd:Stp (wM (bad3 K.F)) d2 K Y.1 G G2:=by
      have:=hv.trans it;rw[AW,AW] at this;exact this
     have La:=M.nx;rw[n1] at La;have f9:=kd.bd;have no:(m+1+1)*wM (bad3 K.F)=wM (bad3 K.F)+(m+1)*wM (bad3 K.F):=(by rw[Nat.add_mul (m+1) 1,Nat.one_mul,Nat.add_comm]);by_cases hg:d2=0
     ·have hc:(clK K).F (nwS (AH.chV 12 12 (clK K).F (lvF (clK K))) false false).fm≠3:=by
       show (clK K).F (AH.chV 12 12 (clK K).F (lvF (clK K)))≠3;rw[v3];decide
      rcases M.gc hg hc with ⟨g1,g2⟩ | ⟨g1,g2⟩
      ·have f8:Y.1.fr.i<=3:=AY g2 v4;obtain⟨e3,m3⟩:=NP (mo:=mo) M.sit M.on M.dd M.rm ((MI _ ho25).2 ⟨g1,om,AL om⟩) m;refine⟨_,e3,?_⟩;rw[no];exact(m3.cons kd (fun _=>M.told) La).mono om
      ·have h1:Y.1.fr.o=false:=by
        rcases g1 with e | e
        ·rw[e];exact o1
        ·rw[e];rfl
       have G1:¬ AC.rmV Y.1.fr o=true:=fun e=>by
        have:=((MI _ ho25).1 e).1;rw[h1] at this;cases this
       have w2:LA (clK Y.1)=true:=by
        rw[DW h1];refine(RK om).2 ?_;unfold Rm at hk;omega
       obtain⟨k,rfl⟩:∃k,m=k+1:=⟨m - 1,om⟩;obtain⟨Z,e3,m3⟩:=Sg (mo:=mo) M.sit M.on M.dd ho25 G1 w2 om k;refine⟨Z,e3,?_⟩;rw[no];exact(m3.cons kd (fun _=>M.told) La).mono om
     ·have f3:Y.1.nx+1<=K.nx+8*d2:=La.elim (fun e=>absurd e.1 hg) id;obtain⟨Z,e3,m3⟩:=ih Y.1 G2 M.sit M.on M.dd M.rm (AK M.told) (by unfold Sq at h0 ⊢;omega) om om;refine⟨Z,e3,?_⟩;rw[no];have wa:=DX (show bad3 K.F<=bad3 Y.1.F by omega);exact(m3.cons kd (fun _=>M.told) La).mono (Nat.add_le_add_left (Nat.mul_le_mul_left _ wa) _)
    ·rw[AJ (by rw[c14];decide)];have it:=M.stp;rw[ha] at it;have w1:=M.nx;refine⟨_,rfl,G2,X2,d2,M.sit,?_,AL (AK ⟨c14,M.on,M.dd,by show Y.1.nx<=_;omega⟩)⟩;have:=hv.trans it;rw[AW,AW] at this;exact this.mono (by have:=Nat.mul_le_mul_right (wM (bad3 K.F)) (show 1<=m+1+1 by omega);omega)
    ·rw[AJ (by rw[c7];decide)];have it:=M.stp;rw[ha] at it;have w1:=M.nx;refine⟨_,rfl,G2,X2,d2,M.sit,?_,AL (AL ⟨c7,M.off,by show Y.1.nx<=_;omega⟩)⟩;have:=hv.trans it;rw[AW,AW] at this;exact this.mono (by have:=Nat.mul_le_mul_right (wM (bad3 K.F)) (show 1<=m+1+1 by omega);omega)
end
section
variable {K:BH}{G:Bk}{o:Nat}{X:Nat->Prop}{H:GS}
theorem Sit.take(h:Sit K G X)(ho25:o<25)(hr:AC.rmV K.fr o=true) :AC.nxC K.fr o=0/\(AC.nxV K.fr o).toNat=8*K.fr.k+K.fr.i/\AC.tkS K.fr o=⟨true,K.fr.k,K.fr.i+1⟩/\Sit { K with fr:=⟨true,K.fr.k,K.fr.i+1⟩ } G X/\JZ { K with fr:=⟨true,K.fr.k,K.fr.i+1⟩ } (8*K.fr.k+K.fr.i)/\(o=24\/(8*K.fr.k+K.fr.i) % 8<6)/\K.fr.k<12/\K.F K.fr.k=1:=by
 obtain⟨ho,La,Go⟩:=(MI _ ho25).1 hr;obtain⟨no,kF⟩:=h.frk ho;have it:AC.nxC K.fr o=0:=by unfold AC.rmV at hr;exact of_decide_eq_true hr
 have hs:Sit { K with fr:=⟨true,K.fr.k,K.fr.i+1⟩ } G X:=by
  refine h.reF K.F ⟨true,K.fr.k,K.fr.i+1⟩ K.dd (h.wf.F' (fr:=⟨true,K.fr.k,K.fr.i+1⟩) h.wf.frm ⟨no,by show K.fr.i+1<9;omega⟩ _) h.sts h.frs (fun b hb=>?_) (fun _ i hi h8=>h.frn ho i (by have:K.fr.i+1<=i:=hi;omega) h8) h.blk (fun _ _ e=>e) (fun _ _ e=>AL e) h.dds;have:=h.opn b hb;rw[ho] at this;exact this
 refine⟨it,?_,?_,hs,⟨om,AK (by show K.F ((8*K.fr.k+K.fr.i) / 8)=1;rw[show (8*K.fr.k+K.fr.i) / 8=K.fr.k by omega];exact kF),fun _ _=>by show (8*K.fr.k+K.fr.i) % 8<K.fr.i+1;omega,h.frn ho _ (AM _) La⟩,Go.imp id (fun e=>om),no,kF⟩
 ·unfold AC.nxV;rw[AJ it];show (((K.fr.k*8+K.fr.i:Nat):Int)).toNat=_;omega
 ·unfold AC.tkS;rw[AJ it];generalize K.fr=st at *
  cases st
  dsimp only at ho;subst ho;rfl
structure nW (K K':BH) (G:Bk):Prop where
 sit:Sit K' G No
 stp:Stp 1 0 K K' G G
 nx:K'.nx=K.nx+1
 dd:K'.dd=K.dd
 F:K'.F=K.F
 fr:K'.fr=⟨true,K.fr.k,K.fr.i+1⟩
structure FrD (H:GS) (K K1:BH) (G:Bk) (o p:Nat) (s':BM) (r':Int) (R':Nat->Int):Prop where
 e:K1={ K with fr:=⟨true,K.fr.k,K.fr.i+1⟩ }
 sit:Sit K1 G No
 spot:JZ K1 p
 h6:o=24\/p % 8<6
 wf:Wf { K1 with s:=s',r:=r',hR:=R',nx:=K1.nx+1 }
 pg:fO K1.s s' G.T ⟨p,o,K1.nx,0,false⟩ (H { K1 with nx:=K1.nx+1 } K1.nx)
def FrL (K1:BH) (o p:Nat) (s':BM) (r':Int) (R':Nat->Int):BH × Nat:=layK (if o=24 then Nd { K1 with s:=s',r:=r',hR:=R',nx:=K1.nx+1 } else { K1 with s:=s',r:=r',hR:=R',nx:=K1.nx+1 }) ⟨p,o,K1.nx,0,false⟩
theorem Sh(hH:∀K q,(H K q).length=174/\Bys (H K q))(h:Sit K G No)(hon:K.s.on=true)(ho25:o<25)(hr:AC.rmV K.fr o=true)(hnx:K.nx<IE) :∃p f,frK H { K with fr:=AC.tkS K.fr o } (AC.nxV K.fr o).toNat o=f/\RdB 1 K f.1/\(AC.nxC K.fr o=0/\K.fr.k<12/\K.F K.fr.k=1) /\((f.2.2=0/\f.1.s.on=true/\∃K1 s' r' R',FrD H K K1 G o p s' r' R'/\layK f.1 f.2.1=FrL K1 o p s' r' R')\/(f.2.2=8/\f.1.s.on=true/\nW K f.1 G)\/(f.2.2=7/\f.1.s.on=false/\nW K f.1 G)):=by
 obtain⟨t1,t2,t3,t4,t5,t6,t7,t8⟩:=h.take ho25 hr;have it:RdB 1 K (frK H { K with fr:=⟨true,K.fr.k,K.fr.i+1⟩ } (8*K.fr.k+K.fr.i) o).1:=by
  have h0:RdB 0 K { K with fr:=⟨true,K.fr.k,K.fr.i+1⟩ }:=RdB.same (fun _=>rfl) rfl;exact h0.trans (RH H _ _ o)
 rw[t2,t3];obtain⟨s',r',R',wf,hx⟩:=LG t4.wf t4.sp hnx t4.rep hon t5.lt ho25 t6 t5.er H rfl (hH _ _).1 (hH _ _).2;refine⟨8*K.fr.k+K.fr.i,_,rfl,it,⟨t1,t7,t8⟩,?_⟩;rcases hx with ⟨e,k⟩ | ⟨e,k⟩ | ⟨e,k⟩
 ·rw[e];refine AK ⟨rfl,?_,_,s',r',R',⟨rfl,t4,t5,t6,wf,k⟩,rfl⟩;by_cases no:o=24
  ·rw[AJ no];exact k.on
  ·rw[AI no];exact k.on
 ·rw[e] at it ⊢;have s4:=t4.pgn k t5 (Nat.le_succ _) wf;exact AL (AK ⟨rfl,k.on,⟨s4,⟨rfl,rfl,rfl,fun _ _=>Iff.rfl,id,fun _ _=>rfl,⟨rfl,rfl,rfl,rfl,rfl,rfl⟩,fun _ _=>id,rfl,Nat.le_succ _,it⟩,rfl,rfl,rfl,rfl⟩⟩)
 ·rw[e] at it ⊢;have s4:=t4.pgn k t5 (Nat.le_succ _) wf;exact AL (AL ⟨rfl,k.on,⟨s4,⟨rfl,rfl,rfl,fun _ _=>Iff.rfl,id,fun _ _=>rfl,⟨rfl,rfl,rfl,rfl,rfl,rfl⟩,fun _ _=>id,rfl,Nat.le_succ _,it⟩,rfl,rfl,rfl,rfl⟩⟩)
theorem DJ(h:Sit K G X):Cy K=K.dd:=by
 unfold Cy;cases e:K.dd
 ·have:¬ 2<bad3 K.F:=fun x=>by have:=h.dds.2 x;rw[e] at this;cases this
  rw[AN this];rfl
 ·rfl
def nX (K:BH) (G:Bk) (w:Nat) (Z:BH × Nat):Prop:=∃G' X' d,Sit Z.1 G' X'/\Stp w d K Z.1 G G' /\
 ((Z.2=14/\Z.1.s.on=true/\Z.1.dd=true/\Z.1.nx<=K.nx+1+8*d)\/(Z.2=7/\Z.1.s.on=false/\Z.1.nx<=K.nx+2+8*d))
theorem Ym{mr:BH->Nat->Option (BH × Nat)}{mo:It}{bb c W:Nat}(hH:∀K q,(H K q).length=174/\Bys (H K q))(ho25:o<25)(hmo:RJ mo bb)(hmr:∀K G,Sit K G No->K.s.on=true->K.dd=false->Rm 0 K->Told K G->Sq 0 K->bb<=bad3 K.F->∃Z,mr K o=some Z/\Zv K G o (c*wM (bad3 K.F)) Z){K0:BH}{G0:Bk}{P:BH × Nat->Prop}(hfin:∀K K1 G d p s' r' R',Sit K G No->K.dd=false->Rm 0 K->Told K G->Stp W d K0 K G0 G->K.nx<=K0.nx+8*d->RdB W K0 (FrL K1 o p s' r' R').1->FrD H K K1 G o p s' r' R'->P (FrL K1 o p s' r' R')) :∀(n:Nat) (K:BH) (G:Bk) (w d:Nat),Sit K G No->K.s.on=true->(K.dd=false->Rm 0 K/\Told K G)->Sq 1 K->1<=n/\4<=n+bad3 K.F->bb<=bad3 K.F->Stp w d K0 K G0 G->K.nx<=K0.nx+8*d->w+2*((c+2)*wM (bad3 K.F))<=W->∃Z,anK mr mo H n K o=some Z/\((Z.1.s.on=true/\P Z)\/nX K0 G0 W Z):=by
 intro n
 induction n with
 | zero=>intro K G w d _ _ _ _ hn;omega
 | succ n ih=>
  intro K G w d h h0 w1 h2 hn G1 wr f3 hw;rw[anK,DJ h,h.sp];cases hdd:K.dd
  ·rw[AI (by simp)];obtain⟨f2,hT⟩:=w1 hdd;have ha:bad3 K.F<=2:=by
    have:¬ 2<bad3 K.F:=fun e=>by have:=h.dds.2 e;rw[hdd] at this;cases this
    omega
   have wp:=LK (bad3 K.F);have ws:=NO ha;have hQ:(c+2)*wM (bad3 K.F)=c*wM (bad3 K.F)+2*wM (bad3 K.F):=Nat.add_mul _ _ _;obtain⟨x,ex,G2,X2,d2,s2,B',hx⟩:=hmr K G h h0 hdd f2 hT (by unfold Sq at h2 ⊢;omega) G1;rw[ex];dsimp only;have no:=wr.trans B';have hi:=B'.bd;rcases hx with ⟨x0,hv,xX,xd,xR,xr,xT,xn⟩ | ⟨h1,hv,xd,xn⟩ | ⟨x7,h6,xn⟩
   ·have f4:x.1.nx<=K.nx+8*d2:=by rcases xn with ⟨_,e⟩ | e <;> omega
    have La:Sq 1 x.1:=by
     unfold Sq at h2 ⊢;rcases xn with ⟨e1,e⟩ | e <;> omega
    have hc:Sit x.1 G2 No:=s2.mono (fun b _ y=>absurd y (xX b));have f9:bad3 x.1.F<=2:=by
     have:¬ 2<bad3 x.1.F:=fun e=>by have:=s2.dds.2 e;rw[xd] at this;cases this
     omega
    obtain⟨p,f,ef,w2,⟨fn,fk,fF⟩,hf⟩:=Sh hH hc hv ho25 xr (by unfold Sq at La;omega);rw[AI (by rw[x0];decide),ef,AI (by rw[fn];decide)];rcases hf with ⟨f0,w',K1,s',r',R',fD,fL⟩ | ⟨f8,w',it⟩ | ⟨f7,hk,it⟩
    ·rw[AJ f0,fL];refine⟨_,rfl,AK ⟨?_,hfin x.1 K1 G2 (d+d2) p s' r' R' hc xd xR (xT hT) (no.mono om) om ?_ fD⟩⟩
     ·rw[<-fL];exact w'
     ·rw[<-fL];exact((no.rd.trans w2).trans (IP f.1 f.2.1)).mono om
    ·rw[AI (by rw[f8];decide),AI (by rw[f8];decide)];have f1:(AC.blV f.1.fr).toNat=x.1.fr.k:=by
      rw[it.fr];unfold AC.blV;rw[AJ rfl,AP]
     rw[f1];have oa:bad3 f.1.F=bad3 x.1.F:=(by rw[it.F]);have p2:=it.nx;obtain⟨y,ey,G3,X3,d3,hy⟩:=hmo f.1 G2 (nwS x.1.fr.k false true) it.sit w' fk (by show f.1.F x.1.fr.k≠0;rw[it.F,fF];decide) (by show f.1.F x.1.fr.k≠3;rw[it.F,fF];decide) (it.dd.trans xd) (by unfold Rm at xR ⊢;rw[it.F];exact xR) (AL rfl) (by unfold Sq at La ⊢;omega) om;rw[ey];dsimp only;have ar:=no.trans it.stp;have wa:=DX (show bad3 K.F<=bad3 f.1.F by omega);rcases hy with ⟨c0,M,Mf⟩ | ⟨c14,M⟩ | ⟨c7,M⟩
     ·rw[AI (by rw[c0];decide)];obtain⟨m1,-,-,-⟩:=Mf rfl;have hg:y.1.nx+1<=f.1.nx+8*d3:=M.nx.elim (fun e=>absurd e.1 m1) id;have f5:=M.stp.bd;have kd:=ar.trans M.stp;have f6:bad3 y.1.F<=2:=by
       have:¬ 2<bad3 y.1.F:=fun e=>by have:=M.sit.dds.2 e;rw[M.dd] at this;cases this
       omega
      have wb:=DX (show bad3 K.F+1<=bad3 y.1.F by omega);have qa:(c+2)*(4*wM (bad3 y.1.F))<=(c+2)*wM (bad3 K.F):=Nat.mul_le_mul_left _ om;have t7:(c+2)*(4*wM (bad3 y.1.F))=4*((c+2)*wM (bad3 y.1.F)):=(by rw[<-Nat.mul_assoc,Nat.mul_comm (c+2) 4,Nat.mul_assoc]);exact ih y.1 G3 _ _ M.sit M.on (fun _=>⟨M.rm,M.told⟩) (by unfold Sq at La ⊢;omega) om om kd om om
     ·rw[AJ (by rw[c14];decide)];have hg:=M.nx;exact⟨_,rfl,AL ⟨G3,X3,_,M.sit,(ar.trans M.stp).mono om,AK ⟨c14,M.on,M.dd,by show y.1.nx<=_;omega⟩⟩⟩
     ·rw[AJ (by rw[c7];decide)];have hg:=M.nx;exact⟨_,rfl,AL ⟨G3,X3,_,M.sit,(ar.trans M.stp).mono om,AL ⟨c7,M.off,by show y.1.nx<=_;omega⟩⟩⟩
    ·rw[AI (by rw[f7];decide),AJ (by rw[f7];decide)];have p2:=it.nx;exact⟨_,rfl,AL ⟨G2,No,_,it.sit,(no.trans it.stp).mono om,AL ⟨f7,hk,by show f.1.nx<=_;omega⟩⟩⟩
   ·rw[AJ (by rw[h1];decide)];exact⟨_,rfl,AL ⟨G2,X2,_,s2,no.mono om,AK ⟨h1,hv,xd,om⟩⟩⟩
   ·rw[AJ (by rw[x7];decide)];exact⟨_,rfl,AL ⟨G2,X2,_,s2,no.mono om,AL ⟨x7,h6,om⟩⟩⟩
  ·rw[AJ (AK rfl)];exact⟨_,rfl,AL ⟨G,No,d,h,wr.mono om,AK ⟨rfl,h0,hdd,by show K.nx<=_;omega⟩⟩⟩
end
section
variable {n b:Nat}{K0:BH}{G0:Bk}
theorem Yn{K K1:BH}{G:Bk}{p:Nat}{s':BM}{r':Int}{R':Nat->Int}(f:FrD noH K K1 G 24 p s' r' R')(hdd:K.dd=false) :(FrL K1 24 p s' r' R').2=0/\(FrL K1 24 p s' r' R').1.nx=K.nx+1/\(FrL K1 24 p s' r' R').1.F=K.F/\(FrL K1 24 p s' r' R').1.dd=K.dd/\(FrL K1 24 p s' r' R').1.fr=⟨true,K.fr.k,K.fr.i+1⟩/\(FrL K1 24 p s' r' R').1.L 24≠-1/\(FrL K1 24 p s' r' R').1.ca=0/\∃G',Sit (FrL K1 24 p s' r' R').1 G' No/\Told (FrL K1 24 p s' r' R').1 G'/\∀w,RdB w K (FrL K1 24 p s' r' R').1->Stp w 0 K (FrL K1 24 p s' r' R').1 G G':=by
 obtain⟨e,s1,sp,_,wf,pg⟩:=f;have it:=sp.free s1;have kd:=sp.lt;have no:=s1.wf.nx;have Go:AB.DY ((24:Nat):Int) (p:Int):=⟨⟨om,om⟩,⟨om,om⟩,AK rfl⟩;have hc:AB.setC K1.L ((24:Nat):Int) (p:Int)=0:=by
  unfold AB.setC;rw[AI (fun e=>e Go),AI (by rw[CM it];simp)]
 have ar:AB.setL K1.L ((24:Nat):Int) (p:Int)=upd K1.L 24 p:=by unfold AB.setL;rw[AJ hc,AP]
 have eL:FrL K1 24 p s' r' R'=({ K1 with s:=s',r:=r',hR:=R',hN:=R',ca:=0,nx:=K1.nx+1,vs:=upd K1.vs 24 K1.nx,vc:=upd K1.vc 24 0,L:=upd K1.L 24 p,fl:=K1.fl },0):=by
  unfold FrL layK Nd;rw[AJ rfl];dsimp only;rw[hc,ar]
 rw[eL];have w5:Wf { K1 with nx:=K1.nx+1 }:=⟨s1.wf.chip,s1.wf.rr,s1.wf.frm,s1.wf.map,s1.wf.vs,s1.wf.vp,s1.wf.vc,s1.wf.fl,wf.nx,s1.wf.fr,s1.wf.cu,s1.wf.qu,s1.wf.hea,s1.wf.tl⟩;have hv:=EE w5 (q:=K1.nx) no;have La:Wf { K1 with s:=s',r:=r',hR:=R',hN:=R',ca:=0,nx:=K1.nx+1,vs:=upd K1.vs 24 K1.nx,vc:=upd K1.vc 24 0,L:=upd K1.L 24 p,fl:=K1.fl }:=by
  have w1:=(wf.nt).ver (i:=24) (q:=K1.nx) (c:=0) no dc;refine w1.map' (s1.wf.map.put 24 ⟨om,om⟩ (fun e=>om) (CM it)) fun i hi hLi=>?_;show 1<=upd K1.vs 24 K1.nx i;by_cases e:i=24
  ·rw[e];unfold upd;rw[AJ rfl];exact no.1
  ·unfold upd;rw[AI e];rw[BT _ _ e] at hLi;exact s1.wf.vp i hi hLi
 have hs:=s1.note (c:=ckK { K1 with nx:=K1.nx+1 } K1.nx) pg sp (by rw[e];exact hdd) (r':=r') (R':=R') (N':=R') (fl':=K1.fl) (L':=upd K1.L 24 p) (a':=G.a) La (Bb _ _ _) (fun i hi=>AK ⟨BT _ _ om,rfl,rfl⟩) (fun b _=>decide_eq_true_iff) (fun _ _=>rfl) rfl rfl hv;subst e;refine⟨rfl,rfl,rfl,rfl,rfl,?_,rfl,_,hs,fun b _ e=>AO e,fun w hw=>⟨rfl,rfl,rfl,fun o ho=>?_,fun _=>?_,fun o ho=>?_,⟨rfl,rfl,rfl,rfl,rfl,rfl⟩,fun _ _=>id,rfl,Nat.le_succ _,hw⟩⟩
 ·show upd K.L 24 p 24≠-1;rw[Bb];omega
 ·show upd K.L 24 p o = -1<->K.L o = -1;rw[BT _ _ om]
 ·show upd K.L 24 p 24≠-1;rw[Bb];omega
 ·show upd K.vs 24 K.nx o=K.vs o;unfold upd;rw[AI om]
def oL (K:BH) (G:Bk) (W:Nat) (Z:BH × Nat):Prop:=∃G' X' d,Sit Z.1 G' X'/\Stp W d K Z.1 G G' /\
 ((Z.2=0/\Z.1.s.on=true/\(∀b,¬ X' b)/\Told Z.1 G'/\Rm 0 Z.1/\Z.1.dd=false/\Z.1.nx<=K.nx+1+8*d/\Nf K Z.1) \/
  (Z.2=14/\Z.1.s.on=true/\Z.1.dd=true/\Z.1.nx<=K.nx+1+8*d) \/
  (Z.2=7/\Z.1.s.on=false/\Z.1.nx<=K.nx+2+8*d))
theorem RL:∀K q,(noH K q).length=174/\Bys (noH K q):=fun _ _=>⟨AA.CI _,AA.FA _⟩
theorem Pd{mr:BH->Nat->Option (BH × Nat)}{mo:It}{bb W:Nat}(hmo:RJ mo bb)(hmr:∀K,AC.rmV K.fr 24=true->mr K 24=some (K,0)) :∀(n:Nat) (K:BH) (G:Bk) (w d:Nat),Sit K G No->K.s.on=true->K.dd=false->Rm 0 K->AC.rmV K.fr 24=true->Sq 1 K->1<=n/\4<=n+bad3 K.F->bb<=bad3 K.F->Stp w d K0 K G0 G->K.nx<=K0.nx+8*d->Nf K0 K->w+2*wM (bad3 K.F)<=W->∃Z,anK mr mo noH n K 24=some Z/\oL K0 G0 W Z:=by
 intro n
 induction n with
 | zero=>intro K G w d _ _ _ _ _ _ hn;omega
 | succ n ih=>
  intro K G w d h h2 Go La hr hx hn G2 hc w2 w' hw;have kd:bad3 K.F<=2:=by
   have:¬ 2<bad3 K.F:=fun e=>by have:=h.dds.2 e;rw[Go] at this;cases this
   omega
  have wp:=LK (bad3 K.F);have ws:=NO kd;have wq:=LK (bad3 K.F+1);rw[anK,DJ h,h.sp,Go,AI (by simp),hmr K hr];dsimp only;obtain⟨p,f,ef,wr,⟨fn,fk,fF⟩,hf⟩:=Sh RL h h2 (by decide:(24:Nat)<25) hr (by unfold Sq at hx;omega);rw[AI dc,ef,AI (by rw[fn];decide)];rcases hf with ⟨f0,ha,K1,s',r',R',fD,fL⟩ | ⟨f8,ha,it⟩ | ⟨f7,hv,it⟩
  ·rw[AJ f0,fL];obtain⟨n1,n2,n3,n4,n5,n6,n7,G',n8,n9,h0⟩:=Yn fD Go;have hk:(FrL K1 24 p s' r' R').1.s.on=true:=(by rw[<-fL];exact ha);have p2:RdB 1 K (FrL K1 24 p s' r' R').1:=(by rw[<-fL];exact wr.trans (IP f.1 f.2.1));have h6:=hc.trans (h0 1 p2);refine⟨_,rfl,G',No,d+0,n8,h6.mono om,AK ⟨n1,hk,fun _=>id,n9,?_,by rw[n4];exact Go,by rw[n2];omega,fun b hb=>by rw[n3];exact w' b hb⟩⟩;unfold Rm at La ⊢;rw[n3];exact La
  ·rw[AI (by rw[f8];decide),AI (by rw[f8];decide)];have B':(AC.blV f.1.fr).toNat=K.fr.k:=by
    rw[it.fr];unfold AC.blV;rw[AJ rfl,AP]
   rw[B'];have G1:bad3 f.1.F=bad3 K.F:=(by rw[it.F]);have h1:=it.nx;obtain⟨y,ey,G3,X3,d3,hy⟩:=hmo f.1 G (nwS K.fr.k false true) it.sit ha fk (by show f.1.F K.fr.k≠0;rw[it.F,fF];decide) (by show f.1.F K.fr.k≠3;rw[it.F,fF];decide) (it.dd.trans Go) (by unfold Rm at La ⊢;rw[it.F];exact La) (AL rfl) (by unfold Sq at hx ⊢;omega) om;rw[ey];dsimp only;have no:=hc.trans it.stp;have wa:wM (bad3 f.1.F)=wM (bad3 K.F):=(by rw[G1]);rcases hy with ⟨c0,M,Mf⟩ | ⟨c14,M⟩ | ⟨c7,M⟩
   ·rw[AI (by rw[c0];decide)];obtain⟨m1,m2,m3,m4⟩:=Mf rfl;have hg:y.1.nx+1<=f.1.nx+8*d3:=M.nx.elim (fun e=>absurd e.1 m1) id;have f1:=M.stp.bd;have ar:=no.trans M.stp;have f2:bad3 y.1.F<=2:=by
     have:¬ 2<bad3 y.1.F:=fun e=>by have:=M.sit.dds.2 e;rw[M.dd] at this;cases this
     omega
    have wb:=DX (show bad3 K.F+1<=bad3 y.1.F by omega);refine ih y.1 G3 _ _ M.sit M.on M.dd M.rm ((MI _ dc).2 ⟨m2,om,AK rfl⟩) (by unfold Sq at hx ⊢;omega) om om ar om (fun b hb=>⟨fun e=>(m4 b hb).1 (by rw[it.F];exact(w' b hb).1 e),fun e=>?_⟩) om;have e2:=(w' b hb).2 e;refine(m4 b hb).2 (fun ev=>?_) (by rw[it.F];exact e2);have w1:b=K.fr.k:=ev;rw[w1,fF] at e2;exact absurd e2 dc
   ·rw[AJ (by rw[c14];decide)];have hg:=M.nx;exact⟨_,rfl,G3,X3,_,M.sit,(no.trans M.stp).mono om,AL (AK ⟨c14,M.on,M.dd,by show y.1.nx<=_;omega⟩)⟩
   ·rw[AJ (by rw[c7];decide)];have hg:=M.nx;exact⟨_,rfl,G3,X3,_,M.sit,(no.trans M.stp).mono om,AL (AL ⟨c7,M.off,by show y.1.nx<=_;omega⟩)⟩
  ·rw[AI (by rw[f7];decide),AJ (by rw[f7];decide)];have h1:=it.nx;exact⟨_,rfl,G,No,_,it.sit,(hc.trans it.stp).mono om,AL (AL ⟨f7,hv,by show f.1.nx<=_;omega⟩)⟩
theorem Yo(hte:dG (PN n) (b+1))(hn:4<=n+1+b):RJ (movR n) b:=by
 intro K G S h ar La h0 h3 no it hT Go hb;exact Yk hte (n+1) h ar La h0 h3 no it hT Go om om
theorem dJ:∀n b,4<=n+b->dG (PN n) b:=by
 intro n
 induction n with
 | zero=>
  intro b hb K G h it hx hv no;have hd:K.dd=true:=h.dds.2 om;refine⟨(K,14),?_,G,No,0,h,(Stp.refl K G).mono om,AL (AK ⟨rfl,it,hd,by show K.nx<=_;omega⟩)⟩;unfold PN SV;rw[DJ h,hd,AJ (AK rfl)]
 | succ n ih=>
  intro b hb K G h it hx hv no;unfold PN SV;rw[DJ h,h.sp];cases hd:K.dd
  ·rw[AI (by simp)];have hg:bad3 K.F<=2:=by
    have:¬ 2<bad3 K.F:=fun e=>by have:=h.dds.2 e;rw[hd] at this;cases this
    omega
   have kd:RJ (movR n) (bad3 K.F):=Yo (ih _ om) om;have ar:∀K,AC.rmV K.fr 24=true->mrK (movR n) (n+1) K 24=some (K,0):=fun K hr=>by rw[mrK,AJ (show AC.rmV K.fr ((24:Nat):Int)=true from hr)]
   have Go:=hv hd;have ea:∀K,anR (n+1) noH K 24=anK (mrK (movR n) (n+1)) (movR n) noH (n+1) K 24:=fun K=>rfl;by_cases hr:AC.rmV K.fr 24=true
   ·rw[AJ hr];dsimp only;rw[ea];exact Pd kd ar (n+1) K G 0 0 h it hd (by unfold Rm at Go ⊢;omega) hr no om (AM _) (Stp.refl K G) om (Nf.refl K) om
   ·rw[AI hr];obtain⟨s1,La,n1,h1,d1,f1,o1,q1,h6,-⟩:=h.clS;have h2:bad3 (clK K).F=bad3 K.F:=La.bd;unfold Rm at Go;obtain⟨e2,s2,hk,n2,h0,d2,f2,o2,i2,q2,hc⟩:=s1.opS o1 om;rw[AI (by rw[e2];decide)];dsimp only;rw[ea];have wr:=hk.bd;generalize (opK (clK K)).1=K2 at *
    generalize clK K=K1 at *
    have w':=La.trans hk;have ha:bad3 K2.F=bad3 K.F:=om;have:=Pd (W:=2*wM (bad3 K.F)) kd ar (n+1) K2 G _ _ s2 (by rw[h0,h1];exact it) (d2.trans (d1.trans hd)) (by unfold Rm;omega) ((MI _ dc).2 ⟨o2,om,AK rfl⟩) (by unfold Sq at no ⊢;omega) om om w' om (h6.trans hc) (by rw[ha];omega);exact this
  ·rw[AJ (AK rfl)];exact⟨(K,14),rfl,G,No,0,h,(Stp.refl K G).mono om,AL (AK ⟨rfl,it,hd,by show K.nx<=_;omega⟩)⟩
theorem NQ(hn:3<=n+b):RJ (movR n) b:=Yo (dJ n (b+1) om) om
theorem Iz(hn:4<=n){H:GS}(hH:∀K q,(H K q).length=174/\Bys (H K q)){o:Nat}(ho25:o<25){P:BH × Nat->Prop}(hfin:∀K K1 G d p s' r' R',Sit K G No->K.dd=false->Rm 0 K->Told K G->Stp (2*((n+3)*wM (bad3 K0.F))) d K0 K G0 G->K.nx<=K0.nx+8*d->RdB (2*((n+3)*wM (bad3 K0.F))) K0 (FrL K1 o p s' r' R').1->FrD H K K1 G o p s' r' R'->P (FrL K1 o p s' r' R'))(h:Sit K0 G0 No)(hon:K0.s.on=true)(hrt:K0.dd=false->Rm 0 K0/\Told K0 G0)(hsq:Sq 1 K0):∃Z,anR (n+1) H K0 o=some Z/\((Z.1.s.on=true/\P Z)\/nX K0 G0 (2*((n+3)*wM (bad3 K0.F))) Z):=by
 have it:RJ (movR n) (bad3 K0.F):=NQ om;have ea:anR (n+1) H K0 o=anK (mrK (movR n) (n+1)) (movR n) H (n+1) K0 o:=rfl;rw[ea];exact Ym (c:=n+1) hH ho25 it (fun K G h1 h2 h3 h4 h5 h6 h7=>Yl it ho25 (n+1) K G h1 h2 h3 h4 (AK h5) h6 om h7) hfin (n+1) K0 G0 0 0 h hon hrt hsq om (AM _) (Stp.refl K0 G0) om (by rw[AW];exact AM _)
end
section
variable {K K':BH}{G:Bk}{X:Nat->Prop}
structure Eqv (K K':BH):Prop where
 ch:K'.s.ch=K.s.ch
 F:K'.F=K.F
 L:K'.L=K.L
 vs:K'.vs=K.vs
 vc:K'.vc=K.vc
 fl:K'.fl=K.fl
 nx:K'.nx=K.nx
 sp:K'.sp=K.sp
 fr:K'.fr=K.fr
 dd:K'.dd=K.dd
 cu:K'.cu=K.cu
 ca:K'.ca=K.ca
theorem Eqv.refl(K:BH):Eqv K K:=⟨rfl,rfl,rfl,rfl,rfl,rfl,rfl,rfl,rfl,rfl,rfl,rfl⟩
theorem Eqv.trans{K'':BH}(h:Eqv K K')(k:Eqv K' K''):Eqv K K'':=⟨k.ch.trans h.ch,k.F.trans h.F,k.L.trans h.L,k.vs.trans h.vs,k.vc.trans h.vc,k.fl.trans h.fl,k.nx.trans h.nx,k.sp.trans h.sp,k.fr.trans h.fr,k.dd.trans h.dd,k.cu.trans h.cu,k.ca.trans h.ca⟩
theorem YU.eqv(a:YU K K'):Eqv K K':=⟨a.ch,a.F,a.L,a.vs,a.vc,a.fl,a.nx,a.sp,a.fr,a.dd,a.cu,a.ca⟩
theorem Lvs.eqv{o:Nat}{l:Bool}{D:List Nat}(h:Lvs K G o l D)(a:Eqv K K'):Lvs K' G o l D:=
 ⟨by rw[a.L,a.vs,a.vc];exact h.tab,h.lost,h.data,by rw[a.L];exact h.gh.ch a.ch,by rw[a.L];exact fun z=>(h.gd z).ch a.ch⟩
theorem Sit.eqv(h:Sit K G X)(a:Eqv K K')(wf:Wf K'):Sit K' G X where
 wf:=wf
 rep:=h.rep.ch a.ch
 sts:=by rw[a.F];exact h.sts
 frs:=by rw[a.F];exact fun p hp e=>(h.frs p hp e).ch a.ch
 opn:=by rw[a.F,a.fr];exact h.opn
 frn:=by rw[a.fr];exact fun e i hi h8=>(h.frn e i hi h8).ch a.ch
 liv:=fun o ho hL=>by
  rw[a.L] at hL
  obtain⟨l,D,hl⟩:=h.liv o ho hL
  exact⟨l,D,hl.eqv a⟩
 nul:=by rw[a.L];exact h.nul
 blk:=by rw[a.L,a.F,a.dd];exact h.blk
 flo:=by rw[a.L,a.fl,a.vs];exact h.flo
 old:=by unfold mI;rw[a.L,a.fl,a.vs,a.vc,a.F];exact h.old
 seq:=by rw[a.nx];exact h.seq
 fls:=by rw[a.nx,a.fl];exact h.fls
 sp:=by rw[a.sp];exact h.sp
 dds:=by rw[a.dd,a.F];exact h.dds
 cb:=by rw[a.F];exact h.cb
 cf:=by rw[a.fl];exact h.cf
 cn:=by rw[a.L,a.vs,a.cu,a.ca];exact h.cn
 nw:=by rw[a.L];exact h.nw
 z24:=h.z24
 lb:=by rw[a.L];exact h.lb
theorem Sit.pstep(h:Sit K G X):Sit { K with cu:=(K.cu+8) % 96,ca:=K.ca+1 } G X where
 wf:=h.wf.pat' om _
 rep:=h.rep
 sts:=h.sts
 frs:=h.frs
 opn:=h.opn
 frn:=h.frn
 liv:=fun o ho hL=>by
  obtain⟨l,D,hl⟩:=h.liv o ho hL
  exact⟨l,D,⟨hl.tab,hl.lost,hl.data,hl.gh,hl.gd⟩⟩
 nul:=h.nul
 blk:=h.blk
 flo:=h.flo
 old:=h.old
 seq:=h.seq
 fls:=h.fls
 sp:=h.sp
 dds:=h.dds
 cb:=h.cb
 cf:=h.cf
 cn:=fun e=>by
  obtain⟨h1,h2,h3⟩:=h.cn e
  refine⟨h1,?_,h3⟩
  show (G.c.C+8*(K.ca+1)) % 96=(K.cu+8) % 96
  omega
 nw:=h.nw
 z24:=h.z24
 lb:=h.lb
theorem Sj(h:Wf K){p:Nat}(hp:p<96)(hon:K.s.on=true) :(inK K p).2.2=0/\(inK K p).1.s.on=true/\Eqv K (inK K p).1/\Wf (inK K p).1/\(inK K p).2.1=K.tl (pgTo K.s p 4) p/\(inK K p).1.tl=K.tl/\RdB 1 K (inK K p).1:=by
 have no:=YY K p;obtain⟨K',e,ha,hw,hK⟩:=Yb h hp hon;unfold inK;rw[e] at no ⊢;dsimp only at no ⊢;have it:K'.s.on=true:=by rw[hK];exact hon
 rw[AI (by simp)];by_cases h1:AB.own K'.L p = -1
 ·rw[AJ h1];exact⟨rfl,it,ha.eqv,hw,rfl,ha.fx.tl,no⟩
 ·rw[AI h1];by_cases h2:(K.tl (pgTo K.s p 4) p).sound=true/\(K.tl (pgTo K.s p 4) p).dmg<2
  ·rw[AJ h2];exact⟨rfl,it,ha.eqv,hw,rfl,ha.fx.tl,no⟩
  ·rw[AI h2];have b:=ha.eqv;refine⟨rfl,it,⟨b.ch,b.F,b.L,b.vs,b.vc,b.fl,b.nx,b.sp,b.fr,b.dd,b.cu,b.ca⟩,(hw.hR' (AG.GR.more3 hw.hea _)).qu' (hw.qu.add _),rfl,ha.fx.tl,?_⟩;have h3:=no.trans (RdB.same (K':={ K' with hS:=AG.more 255 K'.hS (p / 8:Nat),qu:=AF.Ub K'.qu (p / 8:Nat) }) (fun _=>rfl) rfl);exact h3
theorem Yp(c:Nat):∀(n i:Nat) (K:BH),Wf K->K.s.on=true->(tdI c n i K).2=0/\(tdI c n i K).1.s.on=true/\Eqv K (tdI c n i K).1/\Wf (tdI c n i K).1/\(tdI c n i K).1.tl=K.tl/\RdB n K (tdI c n i K).1:=by
 intro n
 induction n with
 | zero=>intro i K h it;exact⟨rfl,it,Eqv.refl K,h,rfl,RdB.refl K⟩
 | succ n ih=>
  intro i K h it;obtain⟨e,on,a,w,_,t,r⟩:=Sj h (p:=(c+i) % 96) om it;rw[tdI,AI (by rw[e];simp)];obtain⟨e2,no,a2,w2,t2,r2⟩:=ih (i+1) _ w on;refine⟨e2,no,a.trans a2,w2,t2.trans t,?_⟩;have:=r.trans r2
  rwa [Nat.add_comm 1 n] at this
theorem Yq(K:BH):Eqv K (awK K):=⟨rfl,rfl,rfl,rfl,rfl,rfl,rfl,rfl,rfl,rfl,rfl,rfl⟩
theorem jR(R L:Nat->Int):∀(n i:Nat) (q:List Int),AF.NA q->AF.NA (awQ R L n i q):=by
 intro n
 induction n with
 | zero=>intro i q h;exact h
 | succ n ih=>
  intro i q h;rw[awQ];split
  ·exact ih _ _ (h.add _)
  ·exact ih _ _ h
theorem lj(h:Wf K):Wf (awK K):=h.qu' (jR _ _ _ _ _ h.qu)
theorem jS(K:BH):RdB 0 K (awK K):=RdB.same (fun _=>rfl) rfl
end
section
variable {K K':BH}{G G':Bk}{m d n:Nat}
structure Stq (m d:Nat) (K K':BH) (G G':Bk):Prop where
 a:G'.a=G.a
 z:G'.z=G.z
 fl:K'.fl=K.fl
 lv:∀o,o<24->(K'.L o = -1<->K.L o = -1)
 l24:K.L 24≠-1->K'.L 24≠-1
 vs:∀o,o<24->K'.vs o=K.vs o
 cu:K'.cu=K.cu
 hS:K'.hS=K.hS
 tl:K'.tl=K.tl
 b3:∀b,b<12->K.F b=3->K'.F b=3
 bd:bad3 K'.F=bad3 K.F+d
 nx:K.nx<=K'.nx
 rd:RdB m K K'
theorem Stp.stq(h:Stp m d K K' G G'):Stq m d K K' G G':=⟨h.a,h.z,h.fl,h.lv,h.l24,h.vs,h.fx.cu,h.fx.hS,h.fx.tl,h.b3,h.bd,h.nx,h.rd⟩
theorem Stq.refl(K:BH)(G:Bk):Stq 0 0 K K G G:=(Stp.refl K G).stq
theorem Stq.trans{e:Nat}{K'':BH}{G'':Bk}(h:Stq m d K K' G G')(k:Stq n e K' K'' G' G''):Stq (m+n) (d+e) K K'' G G'':=
 ⟨k.a.trans h.a,k.z.trans h.z,k.fl.trans h.fl,fun o ho=>(k.lv o ho).trans (h.lv o ho),fun x=>k.l24 (h.l24 x),fun o ho=>(k.vs o ho).trans (h.vs o ho),k.cu.trans h.cu,k.hS.trans h.hS,k.tl.trans h.tl,fun b hb x=>k.b3 b hb (h.b3 b hb x),by rw[k.bd,h.bd];omega,AY h.nx k.nx,h.rd.trans k.rd⟩
theorem Stq.mono{m':Nat}(h:Stq m d K K' G G')(e:m<=m'):Stq m' d K K' G G':=⟨h.a,h.z,h.fl,h.lv,h.l24,h.vs,h.cu,h.hS,h.tl,h.b3,h.bd,h.nx,h.rd.mono e⟩
theorem Stq.cnt(K:BH)(G:Bk)(q:List Int)(x y:Int):Stq 0 0 K { K with qu:=q,rp:=x,md:=y } G G:=⟨rfl,rfl,rfl,fun _ _=>Iff.rfl,id,fun _ _=>rfl,rfl,rfl,rfl,fun _ _=>id,rfl,AM _,RdB.same (fun _=>rfl) rfl⟩
def nY (K:BH) (G:Bk) (w:Nat) (Z:BH × Nat):Prop:=∃G' X' d,Sit Z.1 G' X'/\Stq w d K Z.1 G G' /\
 ((Z.2=0/\Z.1.s.on=true/\(∀b,¬ X' b)/\Z.1.dd=false/\Rm 0 Z.1/\Told Z.1 G'/\Z.1.nx<=K.nx+8*d) \/
  (Z.2=14/\Z.1.s.on=true/\Z.1.dd=true/\Z.1.nx<=K.nx+8*d) \/
  (Z.2=7/\Z.1.s.on=false/\Z.1.nx<=K.nx+1+8*d))
theorem Sit.cntq{X:Nat->Prop}(h:Sit K G X){q:List Int}(hq:AF.NA q)(x y:Int):Sit { K with qu:=q,rp:=x,md:=y } G X:=
 h.eqv ⟨rfl,rfl,rfl,rfl,rfl,rfl,rfl,rfl,rfl,rfl,rfl,rfl⟩ (((h.wf.qu' hq).rp' x).md' y)
theorem dK(hn:3<=n)(h:Sit K G No)(hon:K.s.on=true)(hdd:K.dd=false)(hrm:Rm 0 K)(hT:Told K G)(hsq:Sq 0 K){b:Nat}(hb:b<12) :∃Z,rfK n K b=some Z/\nY K G (wM (bad3 K.F)) Z/\Z.1.qu=K.qu:=by
 unfold rfK;have eo:AB.ofV K.L (b:Nat)=AB.ofL K.L b:=by unfold AB.ofV;rw[AI om,AP]
 rw[eo];by_cases hl:AB.ofL K.L b=[]
 ·rw[AJ hl];exact⟨_,rfl,⟨G,No,0,h,(Stq.refl K G).mono om,AK ⟨rfl,hon,fun _=>id,hdd,hrm,hT,by show K.nx<=_;omega⟩⟩,rfl⟩
 ·rw[AI hl];obtain⟨o,ho⟩:∃o,o ∈ (AB.ofL K.L b).map Int.toNat:=by
   cases e:AB.ofL K.L b with
   | nil=>exact absurd e hl
   | cons x r=>exact⟨x.toNat,by simp⟩
  obtain⟨ho25,hoL,hob⟩:=(NN h.wf.map b).1 o ho;obtain⟨hF0,hF3⟩:=h.blk o ho25 hoL;rw[hob] at hF0 hF3;have hF3':K.F b≠3:=fun e=>by have:=hF3 e;rw[hdd] at this;cases this
  obtain⟨y,ey,G',X',d,hy⟩:=NQ (n:=n) (b:=bad3 K.F) om K G (nwS b (AG.much 3 K.hS (b:Nat)) false) h hon hb hF0 hF3' hdd hrm (AK hT) hsq (AM _);rw[ey];dsimp only;rcases hy with ⟨c0,M,_⟩ | ⟨c14,M⟩ | ⟨c7,M⟩
  ·rw[AI (by rw[c0];simp)];have hMn:=M.nx;have hqu:y.1.qu=K.qu:=M.stp.fx.qu;refine⟨_,rfl,⟨G',No,d,?_,?_,AK ⟨rfl,M.on,fun _=>id,M.dd,M.rm,M.told,by show y.1.nx<=_;omega⟩⟩,hqu⟩
   ·exact M.sit.cntq M.sit.wf.qu _ _
   ·have:=M.stp.stq.trans (Stq.cnt y.1 G' y.1.qu (wrap64 (y.1.rp+1)) (wrap64 (y.1.md+(AB.ofL K.L b).length)));exact this
  ·rw[AJ (by rw[c14];decide)];have hMn:=M.nx;exact⟨_,rfl,⟨G',X',d,M.sit,M.stp.stq,AL (AK ⟨c14,M.on,M.dd,hMn⟩)⟩,M.stp.fx.qu⟩
  ·rw[AJ (by rw[c7];decide)];exact⟨_,rfl,⟨G',X',d,M.sit,M.stp.stq,AL (AL ⟨c7,M.off,M.nx⟩)⟩,M.stp.fx.qu⟩
theorem dL(hn:3<=n):∀(m:Nat) (K:BH) (G:Bk),Sit K G No->K.s.on=true->(K.dd=false->Rm 0 K/\Told K G)->Sq 0 K->K.qu.length<m ->∃Z,raK n m K=some Z/\nY K G (K.qu.length*wM 0) Z:=by
 intro m
 induction m with
 | zero=>intro K G _ _ _ _ hm;omega
 | succ m ih=>
  intro K G h ar hg kd hm;rw[raK,DJ h];have h6:K.dd=false\/K.dd=true:=by cases K.dd <;> simp
  rcases h6 with hd | hd
  ·rw[AI (by rw[hd];simp)];obtain⟨hk,hT⟩:=hg hd;cases hq:K.qu with
   | nil=>exact⟨_,rfl,G,No,0,h,(Stq.refl K G).mono om,AK ⟨rfl,ar,fun _=>id,hd,hk,hT,by show K.nx<=_;omega⟩⟩
   | cons b l=>
    dsimp only;have La:=h.wf.qu;rw[hq] at La hm;have h0:=La.2 b (by simp);have h1:Sit { K with qu:=l } G No:=h.cntq La.tail K.rp K.md;obtain⟨y,ey,hy,ha⟩:=dK hn h1 ar hd hk hT kd (b:=b.toNat) om;rw[ey];dsimp only;have s0:Stq 0 0 K { K with qu:=l } G G:=Stq.cnt K G l K.rp K.md;obtain⟨G',X',d,hs,st,hx⟩:=hy;have wr:wM (bad3 K.F)<=wM 0:=DX (Ac _);have it:Stq (0+wM (bad3 K.F)) (0+d) K y.1 G G':=s0.trans st;have h2:=it.bd;have no:(b :: l).length*wM 0=wM 0+l.length*wM 0:=(by rw[An,Nat.add_mul];omega);rw[no];rcases hx with ⟨c0,on,hX,dd,rm,td,nx⟩ | ⟨c14,on,dd,nx⟩ | ⟨c7,off,nx⟩
    ·rw[AI (by rw[c0];simp)];replace nx:y.1.nx<=K.nx+8*d:=nx;have hc:=hs.mono (Y:=fun _=>False) (fun b _ e=>absurd e (hX b));have hv:y.1.qu.length=l.length:=(by rw[ha]);obtain⟨Z,eZ,G2,X2,d2,w',st3,hz⟩:=ih y.1 G' hc on (fun _=>⟨rm,td⟩) (by unfold Sq at kd ⊢;omega) (by rw[hv];simp at hm;omega);rw[hv] at st3;refine⟨Z,eZ,G2,X2,_,w',(it.trans st3).mono om,?_⟩;rcases hz with ⟨a1,a2,a3,a4,a5,a6,a7⟩ | ⟨a1,a2,a3,a7⟩ | ⟨a1,a2,a7⟩
     ·exact AK ⟨a1,a2,a3,a4,a5,a6,om⟩
     ·exact AL (AK ⟨a1,a2,a3,om⟩)
     ·exact AL (AL ⟨a1,a2,om⟩)
    ·rw[AJ (by rw[c14];decide)];replace nx:y.1.nx<=K.nx+8*d:=nx;exact⟨_,rfl,G',X',_,hs,it.mono om,AL (AK ⟨c14,on,dd,om⟩)⟩
    ·rw[AJ (by rw[c7];decide)];replace nx:y.1.nx<=K.nx+1+8*d:=nx;exact⟨_,rfl,G',X',_,hs,it.mono om,AL (AL ⟨c7,off,om⟩)⟩
  ·rw[AJ hd];exact⟨_,rfl,G,No,0,h,(Stq.refl K G).mono om,AL (AK ⟨rfl,ar,hd,by show K.nx<=_;omega⟩)⟩
end
section
variable {K K':BH}{G G':Bk}{d:Nat}
structure Str (d:Nat) (K K':BH) (G G':Bk):Prop where
 a:G'.a=G.a
 z:G'.z=G.z
 fl:K'.fl=K.fl
 lv:∀o,o<24->(K'.L o = -1<->K.L o = -1)
 l24:K.L 24≠-1->K'.L 24≠-1
 vs:∀o,o<24->K'.vs o=K.vs o
 tl:K'.tl=K.tl
 b3:∀b,b<12->K.F b=3->K'.F b=3
 bd:bad3 K'.F=bad3 K.F+d
 nx:K.nx<=K'.nx
theorem Stq.str{m:Nat}(h:Stq m d K K' G G'):Str d K K' G G':=⟨h.a,h.z,h.fl,h.lv,h.l24,h.vs,h.tl,h.b3,h.bd,h.nx⟩
theorem Str.trans{e:Nat}{K'':BH}{G'':Bk}(h:Str d K K' G G')(k:Str e K' K'' G' G''):Str (d+e) K K'' G G'':=
 ⟨k.a.trans h.a,k.z.trans h.z,k.fl.trans h.fl,fun o ho=>(k.lv o ho).trans (h.lv o ho),fun x=>k.l24 (h.l24 x),fun o ho=>(k.vs o ho).trans (h.vs o ho),k.tl.trans h.tl,fun b hb x=>k.b3 b hb (h.b3 b hb x),by rw[k.bd,h.bd];omega,AY h.nx k.nx⟩
theorem Eqv.str(h:Eqv K K')(ht:K'.tl=K.tl)(G:Bk):Str 0 K K' G G:=
 ⟨rfl,rfl,h.fl,fun o _=>by rw[h.L],by rw[h.L];exact id,fun o _=>by rw[h.vs],ht,fun b _ e=>by rw[h.F];exact e,by rw[h.F];omega,by rw[h.nx];exact AM _⟩
theorem Pe{K1:BH}{p:Nat}{s':BM}{r':Int}{R':Nat->Int}(f:FrD noH K K1 G 24 p s' r' R')(hdd:K.dd=false) :(FrL K1 24 p s' r' R').2=0/\(FrL K1 24 p s' r' R').1.nx=K.nx+1/\(FrL K1 24 p s' r' R').1.F=K.F/\(FrL K1 24 p s' r' R').1.dd=K.dd/\(FrL K1 24 p s' r' R').1.fr=⟨true,K.fr.k,K.fr.i+1⟩/\(FrL K1 24 p s' r' R').1.L 24≠-1/\(FrL K1 24 p s' r' R').1.ca=0/\∃G',Sit (FrL K1 24 p s' r' R').1 G' No/\Told (FrL K1 24 p s' r' R').1 G'/\Str 0 K (FrL K1 24 p s' r' R').1 G G':=by
 obtain⟨e,s1,sp,_,wf,pg⟩:=f;have it:=sp.free s1;have kd:=sp.lt;have no:=s1.wf.nx;have Go:AB.DY ((24:Nat):Int) (p:Int):=⟨⟨om,om⟩,⟨om,om⟩,AK rfl⟩;have hc:AB.setC K1.L ((24:Nat):Int) (p:Int)=0:=by
  unfold AB.setC;rw[AI (fun e=>e Go),AI (by rw[CM it];simp)]
 have ar:AB.setL K1.L ((24:Nat):Int) (p:Int)=upd K1.L 24 p:=by unfold AB.setL;rw[AJ hc,AP]
 have eL:FrL K1 24 p s' r' R'=({ K1 with s:=s',r:=r',hR:=R',hN:=R',ca:=0,nx:=K1.nx+1,vs:=upd K1.vs 24 K1.nx,vc:=upd K1.vc 24 0,L:=upd K1.L 24 p,fl:=K1.fl },0):=by
  unfold FrL layK Nd;rw[AJ rfl];dsimp only;rw[hc,ar]
 rw[eL];have w5:Wf { K1 with nx:=K1.nx+1 }:=⟨s1.wf.chip,s1.wf.rr,s1.wf.frm,s1.wf.map,s1.wf.vs,s1.wf.vp,s1.wf.vc,s1.wf.fl,wf.nx,s1.wf.fr,s1.wf.cu,s1.wf.qu,s1.wf.hea,s1.wf.tl⟩;have hv:=EE w5 (q:=K1.nx) no;have La:Wf { K1 with s:=s',r:=r',hR:=R',hN:=R',ca:=0,nx:=K1.nx+1,vs:=upd K1.vs 24 K1.nx,vc:=upd K1.vc 24 0,L:=upd K1.L 24 p,fl:=K1.fl }:=by
  have w1:=(wf.nt).ver (i:=24) (q:=K1.nx) (c:=0) no dc;refine w1.map' (s1.wf.map.put 24 ⟨om,om⟩ (fun e=>om) (CM it)) fun i hi hLi=>?_;show 1<=upd K1.vs 24 K1.nx i;by_cases e:i=24
  ·rw[e];unfold upd;rw[AJ rfl];exact no.1
  ·unfold upd;rw[AI e];rw[BT _ _ e] at hLi;exact s1.wf.vp i hi hLi
 have hs:=s1.note (c:=ckK { K1 with nx:=K1.nx+1 } K1.nx) pg sp (by rw[e];exact hdd) (r':=r') (R':=R') (N':=R') (fl':=K1.fl) (L':=upd K1.L 24 p) (a':=G.a) La (Bb _ _ _) (fun i hi=>AK ⟨BT _ _ om,rfl,rfl⟩) (fun b _=>decide_eq_true_iff) (fun _ _=>rfl) rfl rfl hv;subst e;refine⟨rfl,rfl,rfl,rfl,rfl,?_,rfl,_,hs,fun b _ e=>AO e,⟨rfl,rfl,rfl,fun o ho=>?_,fun _=>?_,fun o ho=>?_,rfl,fun _ _=>id,rfl,Nat.le_succ _⟩⟩
 ·show upd K.L 24 p 24≠-1;rw[Bb];omega
 ·show upd K.L 24 p o = -1<->K.L o = -1;rw[BT _ _ om]
 ·show upd K.L 24 p 24≠-1;rw[Bb];omega
 ·show upd K.vs 24 K.nx o=K.vs o;unfold upd;rw[AI om]
def oM (j W:Nat) (K:BH) (G:Bk) (Z:BH × Nat):Prop:=∃G' X' d,Sit Z.1 G' X'/\Str d K Z.1 G G'/\RdB W K Z.1 /\
 ((Z.2=0/\Z.1.s.on=true/\(∀b,¬ X' b)/\Z.1.dd=false/\Rm 0 Z.1/\Told Z.1 G'/\Z.1.nx<=K.nx+j+8*d) \/
  (Z.2=14/\Z.1.s.on=true/\Z.1.dd=true/\Z.1.nx<=K.nx+j+8*d) \/
  (Z.2=7/\Z.1.s.on=false/\Z.1.nx<=K.nx+j+1+8*d))
theorem MJ{n:Nat}(hn:4<=n)(h:Sit K G No)(hon:K.s.on=true)(hrt:K.dd=false->Rm 0 K/\Told K G)(hsq:Sq 1 K) :∃Z,anR (n+1) noH K 24=some Z/\oM 1 (2*((n+3)*wM (bad3 K.F))) K G Z:=by
 have it:=Iz hn RL (by decide:(24:Nat)<25) (K0:=K) (G0:=G) (P:=fun Z=>∃G' d,Sit Z.1 G' No/\Str d K Z.1 G G'/\RdB (2*((n+3)*wM (bad3 K.F))) K Z.1/\Z.2=0/\Z.1.dd=false/\Rm 0 Z.1/\Told Z.1 G'/\Z.1.nx<=K.nx+1+8*d) (fun K' K1 G' d p s' r' R' _ hdd hrm _ hst hnx hrd fD=>by
  obtain⟨n1,n2,n3,n4,_,_,_,G2,s2,t2,no⟩:=Pe fD hdd
  refine⟨G2,d+0,s2,hst.stq.str.trans no,hrd,n1,by rw[n4];exact hdd,?_,t2,by rw[n2];omega⟩
  unfold Rm at hrm ⊢
  rw[n3]
  exact hrm) h hon hrt hsq
 obtain⟨Z,eZ,hZ⟩:=it;refine⟨Z,eZ,?_⟩;rcases hZ with ⟨on,G',d,s,st,rd,c,dd,rm,td,nx⟩ | ⟨G',X',d,s,st,hx⟩
 ·exact⟨G',No,d,s,st,rd,AK ⟨c,on,fun _=>id,dd,rm,td,nx⟩⟩
 ·refine⟨G',X',d,s,st.stq.str,st.rd,?_⟩;rcases hx with ⟨c,on,dd,nx⟩ | ⟨c,off,nx⟩
  ·exact AL (AK ⟨c,on,dd,nx⟩)
  ·exact AL (AL ⟨c,off,om⟩)
end
section
variable {n b:Nat}{Z:BH × Nat}{te:Kz}{mo:It}(K:BH)
theorem I0(p:Nat):(rdK K p).1.ca=K.ca:=by
 unfold rdK;dsimp only;split <;> rfl
theorem Yr(t:CP)(D:List Nat):(prK K t D).1.ca=K.ca:=by
 unfold prK;dsimp only
theorem Ys(t:CP)(D:List Nat):(prM K t D).1.ca=K.ca:=by
 unfold prM;split
 ·rfl
 ·exact Yr K t D
theorem jT(b:Nat):(erK K b).1.ca=K.ca:=by
 unfold erK;dsimp only;split <;> rfl
theorem Fv:(clK K).ca=K.ca:=by
 unfold clK;split <;> rfl
theorem NR(b:Int):(lvK K b).ca=K.ca:=by
 unfold lvK;split
 ·exact Fv K
 ·rfl
theorem RM(b s:Int):(stK K b s).ca=K.ca:=by
 unfold stK;dsimp only
theorem Yt(b:Int):(spK K b).ca=K.ca:=by
 unfold spK;dsimp only;rw[RM,NR]
theorem NS:(opK K).1.ca=K.ca:=by
 unfold opK;split <;> rfl
theorem Jv(t:CP):(layK K t).1.ca=K.ca:=by
 unfold layK;dsimp only
theorem jU:(sqK K).ca=K.ca:=by
 unfold sqK;dsimp only
theorem RN(H:GS)(K:BH)(p o:Nat):(frK H K p o).1.ca<=K.ca:=by
 unfold frK;by_cases hs:K.sp=true
 ·rw[AJ hs];exact AM _
 ·rw[AI hs];dsimp only;have h1:(prK (sqK K) ⟨p,o,K.nx,0,false⟩ (H (sqK K) K.nx)).1.ca=K.ca:=(Yr _ _ _).trans (jU K);generalize prK (sqK K) ⟨p,o,K.nx,0,false⟩ (H (sqK K) K.nx)=x at *
  by_cases c:x.2≠0
  ·rw[AJ c];exact Ak h1
  ·rw[AI c];by_cases d:o=24
   ·rw[AJ d];exact Ac _
   ·rw[AI d];exact Ak h1
theorem dM(H:GS)(K:BH)(p:Nat):(frK H K p 24).2.2=0->(frK H K p 24).1.ca=0:=by
 unfold frK;by_cases hs:K.sp=true
 ·rw[AJ hs];intro e;exact absurd e (show ¬ (14:Nat)=0 by decide)
 ·rw[AI hs];dsimp only;generalize prK (sqK K) ⟨p,24,K.nx,0,false⟩ (H (sqK K) K.nx)=x;by_cases c:x.2≠0
  ·rw[AJ c];intro e;exact absurd e c
  ·rw[AI c,AJ rfl];intro _;rfl
theorem I4(S:Bm)(o:Nat):(tiK K S o).1.ca=K.ca:=by
 unfold tiK;split
 ·rfl
 ·split <;> rfl
theorem NT(o:Nat):(coK K o).1.ca=K.ca:=by
 unfold coK;split
 ·rfl
 ·dsimp only;split
  ·exact I0 _ _
  ·split
   ·exact I0 _ _
   ·split <;> exact I0 _ _
theorem jV(bd:Bool):∀(l:List Nat) (K:BH) (S:Bm),(cpK bd l K S).1.ca=K.ca:=by
 intro l
 induction l with
 | nil=>intro K S;rfl
 | cons o l ih=>
  intro K S;unfold cpK;split
  ·exact ih K S
  ·dsimp only;split
   ·exact NT K o
   ·split
    ·exact(I4 _ _ _).trans (NT K o)
    ·split
     ·exact(Ys _ _ _).trans ((I4 _ _ _).trans (NT K o))
     ·exact(ih _ _).trans ((Ys _ _ _).trans ((I4 _ _ _).trans (NT K o)))
theorem Yu:∀(l:List CP) (K:BH),(cmL l K).1.ca=K.ca:=by
 intro l
 induction l with
 | nil=>intro K;rfl
 | cons t l ih=>
  intro K;unfold cmL;split
  ·exact Jv _ _
  ·exact(ih _).trans (Jv _ _)
theorem Yv(S:Bm)(st:Int):(cmK K S st).1.ca=K.ca:=by
 unfold cmK;dsimp only;by_cases c:(cmL S.ld K).2≠0
 ·rw[AJ c];exact Yu _ _
 ·rw[AI c];have h1:(stK (lvK (cmL S.ld K).1 S.fm) S.fm st).ca=K.ca:=by rw[RM,NR,Yu]
  generalize stK (lvK (cmL S.ld K).1 S.fm) S.fm st=K1 at *
  by_cases d:S.tt.o=true
  ·rw[AJ d];dsimp only;rw[RM];exact(Fv K1).trans h1
  ·rw[AI d];exact h1
theorem Yw(S:Bm):(cbK K S).1.ca<=K.ca:=by
 unfold cbK;dsimp only;split
 ·exact Ak (I4 _ _ _)
 ·split
  ·exact AY (RN _ _ _ _) (Ak (I4 _ _ _))
  ·exact AY (Ak (Yv _ _ _)) (AY (RN _ _ _ _) (Ak (I4 _ _ _)))
theorem Yx(S:Bm):(tyK K S).1.ca<=K.ca:=by
 unfold tyK;dsimp only;have hx:=jV (S.fd || (S.rt && bearK K)) ((AB.ofL K.L S.fm).map Int.toNat) K { S with tt:=noF,ld:=[] };generalize cpK (S.fd || (S.rt && bearK K)) ((AB.ofL K.L S.fm).map Int.toNat) K { S with tt:=noF,ld:=[] }=x at *
 have he:=(jT x.1 S.fm).trans hx;have hb:=Yw x.1 x.2.1;generalize erK x.1 S.fm=y at *
 have hc:=(Yv y.1 x.2.1 0).trans he;have hl:=(NR y.1 S.fm).trans he;generalize cmK y.1 x.2.1 0=c at *
 generalize lvK y.1 S.fm=u at *
 have hd:=Yw u { x.2.1 with fd:=true };generalize cbK u { x.2.1 with fd:=true }=v at *
 generalize cbK x.1 x.2.1=v2 at *
 split
 ·exact AM _
 ·split
  ·exact Ak hx
  ·split
   ·exact AY hb (Ak hx)
   ·split
    ·exact Ak hc
    ·split
     ·exact Ak he
     ·split
      ·exact Ak hl
      ·exact AY hd (Ak hl)
def dN (te:Kz):Prop:=∀K Z,te K=some Z->Z.1.ca<=K.ca
def MovL (mo:It):Prop:=∀K S Z,mo K S=some Z->Z.1.ca<=K.ca
theorem Yy{an:Kz}(h:dN an):dN (SV an):=by
 intro K Z e;unfold SV at e;split at e
 ·cases e;exact AM _
 ·split at e
  ·exact h _ _ e
  ·split at e
   ·cases e
    exact Ak ((NS _).trans (Fv _))
   ·exact AY (h _ _ e) (Ak ((NS _).trans (Fv _)))
theorem jW(h:dN te):∀n,MovL (trK te n):=by
 intro n
 induction n with
 | zero=>intro K S Z e;cases e
 | succ n ih=>
  intro K S Z e;unfold trK at e;split at e
  ·cases e;exact AM _
  ·dsimp only at e;split at e
   ·cases e;exact Yx _ _
   ·cases hy:te (spK (tyK K S).1 (AC.blV (tyK K S).2.1.tt)) with
    | none=>rw[hy] at e;cases e
    | some y=>
     rw[hy] at e;dsimp only at e;have h1:=AY (h _ _ hy) (AY (Ak (Yt _ _)) (Yx K S));split at e
     ·cases e;exact h1
     ·exact AY (ih _ _ _ e) h1
theorem Yz(h:dN te)(n:Nat):MovL (moK te n):=by
 intro K S Z e;unfold moK at e;cases hy:trK te n (if S.fd then lvK K S.fm else K) S with
 | none=>rw[hy] at e;cases e
 | some x=>
  rw[hy] at e;dsimp only at e;have h1:x.1.ca<=K.ca:=AY (jW h n _ _ _ hy) (by
   split
   ·
    exact Ak (NR _ _)
   ·
    exact AM _)
  split at e
  ·cases e
   exact AY (Ak (Yt _ _)) h1
  ·cases e;exact h1
theorem jX(h:MovL mo):∀n K o Z,mrK mo n K o=some Z->Z.1.ca<=K.ca:=by
 intro n
 induction n with
 | zero=>intro K o Z e;cases e
 | succ n ih=>
  intro K o Z e;unfold mrK at e;split at e
  ·cases e;exact AM _
  ·dsimp only at e;split at e
   ·split at e
    ·cases e
     exact Ak ((NS _).trans (Fv _))
    ·exact AY (ih _ _ _ e) (Ak ((NS _).trans (Fv _)))
   ·split at e
    ·cases e
     exact Ak (Fv _)
    ·cases hy:mo (clK K) (nwS (AH.chV 12 12 (clK K).F (lvF (clK K))) false false) with
     | none=>rw[hy] at e;cases e
     | some y=>
      rw[hy] at e;dsimp only at e;have h1:=AY (h _ _ _ hy) (Ak (Fv _));split at e
      ·cases e;exact h1
      ·exact AY (ih _ _ _ e) h1
theorem jY{mr:BH->Nat->Option (BH × Nat)}(hr:∀K o Z,mr K o=some Z->Z.1.ca<=K.ca)(h:MovL mo)(H:GS):∀n K o Z,anK mr mo H n K o=some Z->Z.1.ca<=K.ca/\(o=24->Z.2=0->Z.1.ca=0):=by
 intro n
 induction n with
 | zero=>intro K o Z e;cases e
 | succ n ih=>
  intro K o Z e;unfold anK at e;split at e
  ·cases e;exact⟨AM _,fun _ e=>absurd e (show ¬ (14:Nat)=0 by decide)⟩
  ·cases hx:mr K o with
   | none=>rw[hx] at e;cases e
   | some x=>
    rw[hx] at e;dsimp only at e;have h1:=hr _ _ _ hx;split at e
    ·rename_i c;cases e;exact⟨h1,fun _ e=>absurd e c⟩
    ·split at e
     ·rename_i c;cases e;exact⟨h1,fun _ e=>absurd e c⟩
     ·have h2:=RN H { x.1 with fr:=AC.tkS x.1.fr o } (AC.nxV x.1.fr o).toNat o;have h0:o=24->(frK H { x.1 with fr:=AC.tkS x.1.fr o } (AC.nxV x.1.fr o).toNat o).2.2=0->(frK H { x.1 with fr:=AC.tkS x.1.fr o } (AC.nxV x.1.fr o).toNat o).1.ca=0:=by
       rintro rfl;exact dM _ _ _
      generalize frK H { x.1 with fr:=AC.tkS x.1.fr o } (AC.nxV x.1.fr o).toNat o=f at *
      have h3:f.1.ca<=K.ca:=AY h2 h1;split at e
      ·rename_i c;cases e
       exact⟨AY (Ak (Jv _ _)) h3,fun eo _=>(Jv _ _).trans (h0 eo c)⟩
      ·split at e
       ·rename_i c _;cases e;exact⟨h3,fun _ e=>absurd e c⟩
       ·cases hy:mo f.1 (nwS (AC.blV f.1.fr).toNat false true) with
        | none=>rw[hy] at e;cases e
        | some y=>
         rw[hy] at e;dsimp only at e;have h4:=AY (h _ _ _ hy) h3;split at e
         ·rename_i c;cases e;exact⟨h4,fun _ e=>absurd e c⟩
         ·obtain⟨i1,i2⟩:=ih _ _ _ e;exact⟨AY i1 h4,i2⟩
theorem I7:∀n H K o Z,anR n H K o=some Z->Z.1.ca<=K.ca/\(o=24->Z.2=0->Z.1.ca=0):=by
 intro n
 induction n with
 | zero=>intro H K o Z e;cases e
 | succ n ih=>
  intro H K o Z e;have hm:MovL (moK (SV fun K=>anR n noH K 24) (n+1)):=Yz (Yy fun _ _ e=>(ih _ _ _ _ e).1) _;exact jY (mr:=mrK (moK (SV fun K=>anR n noH K 24) (n+1)) (n+1)) (fun K o Z e=>jX hm _ _ _ _ e) hm H (n+1) K o Z e
theorem Sk(n:Nat):MovL (movR n):=Yz (Yy fun _ _ e=>(I7 n _ _ _ _ e).1) _
theorem jZ{K:BH}{rt:Bool}(e:vaK n K b rt=some Z):Z.1.ca<=K.ca:=by
 unfold vaK at e;split at e
 ·cases e;exact AM _
 ·split at e
  ·cases e;exact AM _
  ·cases hy:movR n K (nwS b rt false) with
   | none=>rw[hy] at e;cases e
   | some y=>
    rw[hy] at e;cases e
    exact Sk n _ _ _ hy
theorem Y0(p:Nat):(inK K p).1.ca=K.ca:=by
 unfold inK;dsimp only;split
 ·exact I0 K p
 ·split
  ·exact I0 K p
  ·split <;> exact I0 K p
theorem ja(c:Nat):∀(n i:Nat) (K:BH),(tdI c n i K).1.ca=K.ca:=by
 intro n
 induction n with
 | zero=>intro i K;rfl
 | succ n ih=>
  intro i K;rw[tdI];split
  ·exact Y0 _ _
  ·exact(ih _ _).trans (Y0 _ _)
theorem jb{K:BH}(e:rfK n K b=some Z):Z.1.ca<=K.ca:=by
 unfold rfK at e;split at e
 ·cases e;exact AM _
 ·cases hy:movR n K (nwS b (AG.much 3 K.hS (b:Nat)) false) with
  | none=>rw[hy] at e;cases e
  | some y=>
   rw[hy] at e;dsimp only at e;have h1:=Sk n _ _ _ hy;split at e
   ·cases e;exact h1
   ·cases e;exact h1
theorem jc(m:Nat):∀(n:Nat) (K:BH) (Z:BH × Nat),raK m n K=some Z->Z.1.ca<=K.ca:=by
 intro n
 induction n with
 | zero=>intro K Z e;cases e
 | succ n ih=>
  intro K Z e;rw[raK] at e;split at e
  ·cases e;exact AM _
  ·split at e
   ·cases e;exact AM _
   ·rename_i b r _;cases hy:rfK m { K with qu:=r } b.toNat with
    | none=>rw[hy] at e;cases e
    | some y=>
     rw[hy] at e;dsimp only at e;have h1:=jb hy;dsimp only at h1;split at e
     ·cases e;exact h1
     ·exact AY (ih _ _ e) h1
theorem jd{m:Nat}{K:BH}(e:tdK n m K=some Z):Z.1.ca<=K.ca+1:=by
 unfold tdK at e;have h0:=ja K.cu 8 0 { K with cu:=(K.cu+8) % 96,ca:=K.ca+1 };generalize tdI K.cu 8 0 { K with cu:=(K.cu+8) % 96,ca:=K.ca+1 }=X at *
 unfold YQ at e;split at e
 ·cases e;exact Ak h0
 ·cases hy:raK n m (awK X.1) with
  | none=>rw[hy] at e;cases e
  | some y=>
   rw[hy] at e;dsimp only at e;have h1:y.1.ca<=K.ca+1:=AY (jc _ _ _ _ hy) (Ak h0);split at e
   ·cases e;exact h1
   ·split at e
    ·cases hz:anR n noH y.1 24 with
     | none=>rw[hz] at e;cases e
     | some z=>
      rw[hz] at e;cases e
      exact AY (I7 _ _ _ _ _ hz).1 h1
    ·cases e;exact h1
end
structure Ivk (K:BH) (G:Bk):Prop where
 on:K.s.on=true
 sit:∃X,Sit K G X/\(K.dd=false->(∀b,¬ X b)/\Rm 0 K/\Told K G)
def oN (W:Nat) (K:BH) (G:Bk) (Z:BH × Nat):Prop:=∃G' d,Str d K Z.1 G G'/\RdB W K Z.1/\((Z.2=0/\Ivk Z.1 G'/\Z.1.nx<=K.nx+1+8*d/\(Z.1.dd=false->Z.1.ca<8))\/(Z.2=7/\Z.1.s.on=false/\(∃X,Sit Z.1 G' X)/\Z.1.nx<=K.nx+2+8*d))
theorem dO{n m:Nat}(hn:4<=n)(hm:13<=m){K:BH}{G:Bk}(h:Ivk K G)(hsq:Sq 1 K) :∃Z,tdK (n+1) m K=some Z/\oN (8+12*wM 0+2*((n+3)*wM 0)) K G Z:=by
 obtain⟨on,X,hs,hd⟩:=h;unfold tdK;have s1:=hs.pstep;obtain⟨e2,wr,a2,w2,t2,r2⟩:=Yp K.cu 8 0 { K with cu:=(K.cu+8) % 96,ca:=K.ca+1 } s1.wf on;generalize tdI K.cu 8 0 { K with cu:=(K.cu+8) % 96,ca:=K.ca+1 }=Y at *
 have s2:=s1.eqv a2 w2;have s3:=s2.eqv (Yq Y.1) (lj w2);have st0:Str 0 K { K with cu:=(K.cu+8) % 96,ca:=K.ca+1 } G G:=⟨rfl,rfl,rfl,fun _ _=>Iff.rfl,id,fun _ _=>rfl,rfl,fun _ _=>id,rfl,AM _⟩;have st3:Str (0+(0+0)) K (awK Y.1) G G:=st0.trans ((a2.str t2 G).trans ((Yq Y.1).str rfl G));have r0:RdB 0 K { K with cu:=(K.cu+8) % 96,ca:=K.ca+1 }:=RdB.same (fun _=>rfl) rfl;have r3:RdB (0+(8+0)) K (awK Y.1):=r0.trans (r2.trans (jS Y.1));have eF:(awK Y.1).F=K.F:=a2.F;have eD:(awK Y.1).dd=K.dd:=a2.dd;have eN:(awK Y.1).nx=K.nx:=a2.nx;have hc:(awK Y.1).s.on=true:=wr;unfold YQ;rw[AI (by rw[e2];simp)];generalize awK Y.1=K3 at *
 have hg:K.dd=false\/K.dd=true:=by cases K.dd <;> simp
 rcases hg with no | no
 ·obtain⟨hX,ha,hT⟩:=hd no;have s4:Sit K3 G No:=s3.mono (fun b _ e=>absurd e (hX b));have kd:Rm 0 K3:=by unfold Rm at ha ⊢;rw[eF];exact ha
  have h2:Told K3 G:=fun b hb e=>hT b hb (by rw[<-eF];exact e);have hl:=s4.wf.qu.len;obtain⟨y,ey,G4,X4,d4,s5,hx,hy⟩:=dL (n:=n+1) om m K3 G s4 hc (fun _=>⟨kd,h2⟩) (by unfold Sq at hsq ⊢;rw[eF,eN];omega) om;rw[ey];dsimp only;have La:=st3.trans hx.str;have r6:=r3.trans hx.rd;have h0:K3.qu.length*wM 0<=12*wM 0:=Nat.mul_le_mul_right _ hl;have p2:=La.bd;rcases hy with ⟨c0,ar,yX,hk,h6,yT,w'⟩ | ⟨c14,ar,hk,w'⟩ | ⟨c7,hv,w'⟩
  ·rw[AI (by rw[c0];simp)];have s7:=s5.mono (Y:=fun _=>False) (fun b _ e=>absurd e (yX b));by_cases it:8<=y.1.ca\/AG.Zs y.1.hR y.1.hN=true
   ·rw[AJ it];obtain⟨Z,eZ,G8,X8,d8,s8,h1,r8,hz⟩:=MJ hn s7 ar (fun _=>⟨h6,yT⟩) (by unfold Sq at hsq ⊢;omega);rw[eZ];have B':2*((n+3)*wM (bad3 y.1.F))<=2*((n+3)*wM 0):=Nat.mul_le_mul_left _ (Nat.mul_le_mul_left _ (DX (Ac _)));refine⟨_,rfl,G8,_,La.trans h1,(r6.trans r8).mono om,?_⟩;rcases hz with ⟨a1,a2,a3,a4,a5,a6,a7⟩ | ⟨a1,a2,a3,a7⟩ | ⟨a1,a2,a7⟩
    ·exact AK ⟨by show MF Z.2=0;rw[a1];rfl,⟨a2,X8,s8,fun _=>⟨a3,a5,a6⟩⟩,by show Z.1.nx<=_;omega,fun _=>by show Z.1.ca<8;rw[(I7 _ _ _ _ _ eZ).2 rfl a1];decide⟩
    ·exact AK ⟨by show MF Z.2=0;rw[a1];rfl,⟨a2,X8,s8,fun e=>by rw[show Z.1.dd=true from a3] at e;cases e⟩,by show Z.1.nx<=_;omega,fun e=>by rw[show Z.1.dd=true from a3] at e;cases e⟩
    ·exact AL ⟨by show MF Z.2=7;rw[a1];rfl,a2,⟨X8,s8⟩,by show Z.1.nx<=_;omega⟩
   ·rw[AI it];exact⟨_,rfl,G4,_,La,r6.mono om,AK ⟨rfl,⟨ar,X4,s5,fun _=>⟨yX,h6,yT⟩⟩,by show y.1.nx<=_;omega,fun _=>by show y.1.ca<8;exact Nat.lt_of_not_le fun e=>it (AK e)⟩⟩
  ·rw[AJ (by rw[c14];decide)];exact⟨_,rfl,G4,_,La,r6.mono om,AK ⟨by show MF y.2=0;rw[c14];rfl,⟨ar,X4,s5,fun e=>by rw[show y.1.dd=true from hk] at e;cases e⟩,by show y.1.nx<=_;omega,fun e=>by rw[show y.1.dd=true from hk] at e;cases e⟩⟩
  ·rw[AJ (by rw[c7];decide)];exact⟨_,rfl,G4,_,La,r6.mono om,AL ⟨by show MF y.2=7;rw[c7];rfl,hv,⟨X4,s5⟩,by show y.1.nx<=_;omega⟩⟩
 ·obtain⟨m',rfl⟩:∃m',m=m'+1:=⟨m - 1,om⟩;rw[raK,DJ s3,eD,no,AJ rfl];dsimp only;rw[AJ dc];exact⟨_,rfl,G,_,st3,r3.mono om,AK ⟨rfl,⟨hc,X,s3,fun e=>by rw[show K3.dd=true from eD.trans no] at e;cases e⟩,by show K3.nx<=_;omega,fun e=>by rw[show K3.dd=true from eD.trans no] at e;cases e⟩⟩
section
variable {K:BH}{G:Bk}{o:Nat}{D:List Nat}
theorem Sn{H:GS}{K1:BH}{p:Nat}{s':BM}{r':Int}{R':Nat->Int}(ho:o<24)(f:FrD H K K1 G o p s' r' R')(h24:K.L 24≠-1)(hH:H { K1 with nx:=K1.nx+1 } K1.nx=D) :(FrL K1 o p s' r' R').2=0/\(FrL K1 o p s' r' R').1.nx=K.nx+1/\(FrL K1 o p s' r' R').1.F=K.F/\(FrL K1 o p s' r' R').1.dd=K.dd/\(FrL K1 o p s' r' R').1.L=upd K.L o p/\(FrL K1 o p s' r' R').1.fl=K.fl/\(FrL K1 o p s' r' R').1.tl=K.tl/\∃T,Sit (FrL K1 o p s' r' R').1 { G with T:=T,a:=ET G.a o D,z:=fun x=>x≠o/\G.z x } No:=by
 obtain⟨e,s1,sp,h6,wf,pg⟩:=f;have it:=sp.free s1;have hv:=sp.lt;have kd:=s1.wf.nx;have La:p % 8<6:=h6.elim (fun e=>om) id;have Go:AB.DY ((o:Nat):Int) (p:Int):=⟨⟨om,om⟩,⟨om,om⟩,AL om⟩;have hc:AB.setC K1.L ((o:Nat):Int) (p:Int)=0:=by
  unfold AB.setC;rw[AI (fun e=>e Go),AI (by rw[CM it];simp)]
 have ar:AB.setL K1.L ((o:Nat):Int) (p:Int)=upd K1.L o p:=by unfold AB.setL;rw[AJ hc,AP]
 have eL:FrL K1 o p s' r' R'=({ K1 with s:=s',r:=r',hR:=R',nx:=K1.nx+1,vs:=upd K1.vs o K1.nx,vc:=upd K1.vc o 0,L:=upd K1.L o p },0):=by
  unfold FrL layK;rw[AI om];dsimp only;rw[hc,ar]
 rw[eL];rw[hH] at pg;have no:K1.L 24≠-1:=by rw[e];exact h24
 have hs:=s1.put ho pg sp La no (r':=r') (R':=R') wf;subst e;exact⟨rfl,rfl,rfl,rfl,rfl,rfl,rfl,_,hs⟩
def nZ (W:Nat) (K:BH) (G:Bk) (o:Nat) (D:List Nat) (Z:BH × Nat):Prop:=
 (Z.2=0/\∃G' d,Ivk Z.1 G'/\G'.a=ET G.a o D/\G'.z=(fun x=>x≠o/\G.z x)/\RdB W K Z.1/\Z.1.L 24≠-1/\Z.1.L o≠-1/\(∀x,x<24->x≠o->(Z.1.L x = -1<->K.L x = -1))/\Z.1.fl=K.fl/\Z.1.tl=K.tl/\Z.1.dd=false/\bad3 Z.1.F=bad3 K.F+d/\Z.1.nx<=K.nx+1+8*d) \/
 ∃G' d,Str d K Z.1 G G'/\RdB W K Z.1/\((Z.2=14/\Ivk Z.1 G'/\Z.1.dd=true/\Z.1.nx<=K.nx+1+8*d)\/(Z.2=7/\Z.1.s.on=false/\(∃X,Sit Z.1 G' X)/\Z.1.nx<=K.nx+2+8*d))
theorem Y1{n:Nat}(hn:4<=n)(h:Sit K G No)(hon:K.s.on=true)(hrt:K.dd=false->Rm 0 K/\Told K G)(h24:K.L 24≠-1)(hsq:Sq 1 K)(ho:o<24)(hD:D.length=174)(bD:Bys D) :∃Z,anR (n+1) (fun _ _=>D) K o=some Z/\nZ (2*((n+3)*wM (bad3 K.F))) K G o D Z:=by
 have it:=Iz hn (H:=fun _ _=>D) (fun _ _=>⟨hD,bD⟩) (by omega:o<25) (K0:=K) (G0:=G) (P:=fun Z=>Z.2=0/\∃T c d,Sit Z.1 { T:=T,c:=c,a:=ET G.a o D,z:=fun x=>x≠o/\G.z x } No/\(∀b,b<12->Z.1.F b=3->c.B b=true)/\Rm 0 Z.1/\RdB (2*((n+3)*wM (bad3 K.F))) K Z.1/\Z.1.L 24≠-1/\Z.1.L o≠-1/\(∀x,x<24->x≠o->(Z.1.L x = -1<->K.L x = -1))/\Z.1.fl=K.fl/\Z.1.tl=K.tl/\Z.1.dd=false/\bad3 Z.1.F=bad3 K.F+d/\Z.1.nx<=K.nx+1+8*d) (fun K' K1 G' d p s' r' R' _ hdd hrm hT hst hnx hrd fD=>by
  obtain⟨n1,n2,n3,n4,n5,n6,n7,T,s2⟩:=Sn ho fD (hst.l24 h24) rfl
  have ez:G'.z=G.z:=hst.z
  have ea:G'.a=G.a:=hst.a
  rw[ez,ea] at s2
  refine⟨n1,T,G'.c,d,s2,fun b hb e=>hT b hb (by rw[<-n3];exact e),?_,hrd,?_,?_,fun x hx hxo=>?_,n6.trans hst.fl,n7.trans hst.fx.tl,by rw[n4];exact hdd,by rw[n3];exact hst.bd,by rw[n2];omega⟩
  ·
   unfold Rm at hrm ⊢
   rw[n3]
   exact hrm
  ·
   rw[n5,BT _ _ om]
   exact hst.l24 h24
  ·
   rw[n5,Bb]
   omega
  ·
   rw[n5,BT _ _ hxo]
   exact hst.lv x hx) h hon hrt hsq
 obtain⟨Z,eZ,hZ⟩:=it;refine⟨Z,eZ,?_⟩;rcases hZ with ⟨on,c0,T,c,d,s,td,rm,rd,q1,q2,q3,q4,q5,q6,q7,q8⟩ | ⟨G',X',d,s,st,hx⟩
 ·exact AK ⟨c0,_,d,⟨on,_,s,fun _=>⟨fun _=>id,rm,td⟩⟩,rfl,rfl,rd,q1,q2,q3,q4,q5,q6,q7,q8⟩
 ·refine AL ⟨G',d,st.stq.str,st.rd,?_⟩;rcases hx with ⟨c,on,dd,nx⟩ | ⟨c,off,nx⟩
  ·exact AK ⟨c,⟨on,X',s,fun e=>by rw[dd] at e;cases e⟩,dd,nx⟩
  ·exact AL ⟨c,off,⟨X',s⟩,nx⟩
end
section
variable {K:BH}{G:Bk}{o n:Nat}{X:Nat->Prop}
theorem Ivk.eqv{K':BH}(h:Ivk K G)(a:Eqv K K')(wf:Wf K')(on:K'.s.on=true):Ivk K' G:=by
 obtain⟨_,X,hs,hd⟩:=h;refine⟨on,X,hs.eqv a wf,fun e=>?_⟩;rw[a.dd] at e;obtain⟨h1,h2,h3⟩:=hd e;refine⟨h1,?_,fun b hb eb=>h3 b hb (by rw[<-a.F];exact eb)⟩;unfold Rm at h2 ⊢;rw[a.F];exact h2
theorem dP(h:Ivk K G)(ho:o<24) :∃K',Ivk K' G/\Eqv K K'/\K'.tl=K.tl/\RdB 1 K K'/\(geK K o=(K',(G.a o).take 160,0)\/(G.z o/\geK K o=(K',[],13))):=by
 obtain⟨on,X,hs,hd⟩:=id h;unfold geK;by_cases hL:K.L o = -1
 ·rw[AJ hL,hs.nul o ho hL];exact⟨K,h,Eqv.refl K,rfl,(RdB.refl K).mono om,AK (by simp)⟩
 ·rw[AI hL];obtain⟨hv,_⟩:=hs.wf.lt (by omega:o<25) hL;obtain⟨l,D,hl⟩:=hs.liv o om hL;obtain⟨e,ar,a,wf,pg,tl,rd⟩:=Sj hs.wf hv on;obtain⟨q1,q2,q3,q4⟩:=NL hs.wf.tl hs.wf.chip hs.rep hl.tab hl.gh;rw[<-pg] at q1 q2 q3 q4;generalize inK K (K.L o).toNat=x at *
  dsimp only;rw[AI (by rw[e];simp)];refine⟨x.1,h.eqv a wf ar,a,tl,rd,?_⟩;by_cases no:x.2.1.sound=true
  ·obtain⟨ht,La⟩:=q4 no;obtain⟨_,_,_,_,kd⟩:=q3 ht;have it:x.2.1.l=l:=kd;cases l with
   | true=>
    rw[AJ (AL it)];exact AL ⟨hl.lost rfl,rfl⟩
   | false=>
    rw[AI (by rw[no,it];simp)];have:=hl.data rfl;rw[AI om] at this;rw[La,this];exact AK rfl
  ·have Go:x.2.1.sound=false:=(by simpa using no);rw[AJ (AK Go)];exact AL ⟨Classical.byContradiction fun hz=>no (q1.2 (hl.gd hz)),rfl⟩
theorem Sit.rez(h:Sit K G X){z':Nat->Prop}(hz:∀o,o<25->K.L o≠-1->(z' o<->G.z o))(h24:¬ z' 24):Sit K { G with z:=z' } X where
 wf:=h.wf
 rep:=h.rep
 sts:=h.sts
 frs:=h.frs
 opn:=h.opn
 frn:=h.frn
 liv:=fun o ho hL=>by
  obtain⟨l,D,hl⟩:=h.liv o ho hL
  exact⟨l,D,⟨hl.tab,fun e=>(hz o ho hL).2 (hl.lost e),hl.data,hl.gh,fun e=>hl.gd fun k=>e ((hz o ho hL).2 k)⟩⟩
 nul:=h.nul
 blk:=h.blk
 flo:=h.flo
 old:=h.old
 seq:=h.seq
 fls:=h.fls
 sp:=h.sp
 dds:=h.dds
 cb:=h.cb
 cf:=h.cf
 cn:=h.cn
 nw:=h.nw
 z24:=h24
 lb:=h.lb
theorem Y2{K1:BH}{p:Nat}{s':BM}{r':Int}{R':Nat->Int}(ho:o<24)(f:FrD (tmH o (K.vs o:Nat)) K K1 G 24 p s' r' R')(hL:K.L o≠-1)(hdd:K.dd=false) :(FrL K1 24 p s' r' R').2=0/\(FrL K1 24 p s' r' R').1.nx=K.nx+1/\(FrL K1 24 p s' r' R').1.F=K.F/\(FrL K1 24 p s' r' R').1.dd=K.dd/\(FrL K1 24 p s' r' R').1.L=upd K.L 24 p/\(FrL K1 24 p s' r' R').1.tl=K.tl/\(FrL K1 24 p s' r' R').1.fl=K.fl/\AB.atC (FrL K1 24 p s' r' R').1.L (o:Nat)=0/\AB.dropL (FrL K1 24 p s' r' R').1.L (o:Nat)=upd (upd K.L 24 p) o (-1) /\∃G',G'.a=ET G.a o (List.replicate 174 0)/\G'.z=(fun x=>x≠o/\G.z x)/\Sit { (FrL K1 24 p s' r' R').1 with fl:=upd (FrL K1 24 p s' r' R').1.fl o (K.vs o:Nat),L:=AB.dropL (FrL K1 24 p s' r' R').1.L (o:Nat) } G' No/\(∀b,b<12->K.F b=3->G'.c.B b=true):=by
 obtain⟨e,s1,sp,_,wf,pg⟩:=f;have it:=sp.free s1;have h1:=sp.lt;have La:=s1.wf.nx;have ar:AB.DY ((24:Nat):Int) (p:Int):=⟨⟨om,om⟩,⟨om,om⟩,AK rfl⟩;have hc:AB.setC K1.L ((24:Nat):Int) (p:Int)=0:=by
  unfold AB.setC;rw[AI (fun e=>e ar),AI (by rw[CM it];simp)]
 have h0:AB.setL K1.L ((24:Nat):Int) (p:Int)=upd K1.L 24 p:=by unfold AB.setL;rw[AJ hc,AP]
 have eL:FrL K1 24 p s' r' R'=({ K1 with s:=s',r:=r',hR:=R',hN:=R',ca:=0,nx:=K1.nx+1,vs:=upd K1.vs 24 K1.nx,vc:=upd K1.vc 24 0,L:=upd K1.L 24 p,fl:=K1.fl },0):=by
  unfold FrL layK Nd;rw[AJ rfl];dsimp only;rw[hc,h0]
 have hx:K1.L o=K.L o:=by rw[e]
 have hg:K1.vs o=K.vs o:=by rw[e]
 have w':upd K1.L 24 p o≠-1:=by rw[BT _ _ om,hx];exact hL
 have kd:AB.atC (upd K1.L 24 p) (o:Nat)=0:=by
  unfold AB.atC;rw[AI om,AP,AI w']
 have hk:AB.dropL (upd K1.L 24 p) (o:Nat)=upd (upd K1.L 24 p) o (-1):=by
  unfold AB.dropL;rw[AJ kd,AP]
 have w5:Wf { K1 with nx:=K1.nx+1 }:=⟨s1.wf.chip,s1.wf.rr,s1.wf.frm,s1.wf.map,s1.wf.vs,s1.wf.vp,s1.wf.vc,s1.wf.fl,wf.nx,s1.wf.fr,s1.wf.cu,s1.wf.qu,s1.wf.hea,s1.wf.tl⟩;have no:=EE w5 (q:=K1.nx) La;have h2:=s1.wf.vs o om;have hz:0<=((K1.vs o:Nat):Int)/\((K1.vs o:Nat):Int)<=1099511627775:=om
 have Go:AA.Zp { ckK { K1 with nx:=K1.nx+1 } K1.nx with F:=upd (ckK { K1 with nx:=K1.nx+1 } K1.nx).F o (K1.vs o:Nat) }:=⟨fun i hi=>by
  show 0<=upd _ o _ i/\upd _ o _ i<=1099511627775
  unfold upd
  split
  ·
   exact hz
  ·
   exact no.F i hi,no.N,no.C,no.R,no.S⟩
 have h6:AB.GK (upd (upd K1.L 24 p) o (-1)):=(s1.wf.map.put 24 ⟨om,om⟩ (fun e=>om) (CM it)).clear o;have hv:Wf { K1 with s:=s',r:=r',hR:=R',hN:=R',ca:=0,nx:=K1.nx+1,vs:=upd K1.vs 24 K1.nx,vc:=upd K1.vc 24 0,L:=upd (upd K1.L 24 p) o (-1),fl:=upd K1.fl o (K1.vs o:Nat) }:=by
  have w1:=((wf.nt).ver (i:=24) (q:=K1.nx) (c:=0) La dc).fl' (o:=o) hz;refine w1.map' h6 fun i hi hLi=>?_;show 1<=upd K1.vs 24 K1.nx i;by_cases e:i=24
  ·rw[e];unfold upd;rw[AJ rfl];exact La.1
  ·by_cases e':i=o
   ·subst e';rw[Bb] at hLi;exact absurd rfl hLi
   ·rw[BT _ _ e',BT _ _ e] at hLi;unfold upd;rw[AI e];exact s1.wf.vp i hi hLi
 have hs:=s1.note (c:={ ckK { K1 with nx:=K1.nx+1 } K1.nx with F:=upd (ckK { K1 with nx:=K1.nx+1 } K1.nx).F o (K1.vs o:Nat) }) (by rw[hg];exact pg) sp (by rw[e];exact hdd) (r':=r') (R':=R') (N':=R') (fl':=upd K1.fl o (K1.vs o:Nat)) (L':=upd (upd K1.L 24 p) o (-1)) (a':=ET G.a o (List.replicate 174 0)) hv (by rw[BT _ _ om,Bb]) (fun i hi=>by
  by_cases e':i=o
  ·
   subst e'
   refine AL ⟨Bb _ _ _,by rw[hx];exact hL,Bb _ _ _,?_⟩
   unfold ET
   rw[AJ rfl]
  ·
   refine AK ⟨by rw[BT _ _ e',BT _ _ om],BT _ _ e',?_⟩
   unfold ET
   rw[AI e']) (fun b _=>decide_eq_true_iff) (fun _ _=>rfl) rfl rfl Go
 have ha:=hs.rez (z':=fun x=>x≠o/\G.z x) (fun i _ hLi=>by
  have:i≠o:=fun e'=>by
   subst e'
   exact hLi (Bb _ _ _)
  exact⟨fun k=>k.2,fun k=>⟨this,k⟩⟩) (fun k=>s1.z24 k.2)
 rw[eL];subst e;rw[<-hk] at ha;exact⟨rfl,rfl,rfl,rfl,rfl,rfl,rfl,kd,hk,_,rfl,rfl,ha,fun b _ e=>AO e⟩
def lk (W:Nat) (K:BH) (G:Bk) (Z:BH × Nat):Prop:=∃G' d,Str d K Z.1 G G'/\RdB W K Z.1/\((Z.2=14/\Ivk Z.1 G'/\Z.1.dd=true/\Z.1.nx<=K.nx+1+8*d)\/(Z.2=7/\Z.1.s.on=false/\(∃X,Sit Z.1 G' X)/\Z.1.nx<=K.nx+2+8*d))
theorem Str.refl(K:BH)(G:Bk):Str 0 K K G G:=⟨rfl,rfl,rfl,fun _ _=>Iff.rfl,id,fun _ _=>rfl,rfl,fun _ _=>id,rfl,AM _⟩
theorem NU(h:Sit K G X)(hd:K.dd=true)(n:Nat)(H:GS)(o:Nat):anR (n+1) H K o=some (K,14):=by
 show anK _ _ H (n+1) K o=_;rw[anK,DJ h,hd,AJ (AK rfl)]
theorem lk.dead(h:Ivk K G)(hd:K.dd=true)(W:Nat):lk W K G (K,14):=
 ⟨G,0,Str.refl K G,(RdB.refl K).mono (Ac _),AK ⟨rfl,h,hd,by show K.nx<=_;omega⟩⟩
theorem dQ(hn:4<=n)(h:Ivk K G)(h24:K.L 24≠-1)(hsq:Sq 1 K)(ho:o<24){D:List Nat}(hD:D.length=174)(bD:Bys D) :∃Z,anR (n+1) (fun _ _=>D) K o=some Z/\Z.1.ca<=K.ca/\nZ (2*((n+3)*wM 0)) K G o D Z:=by
 obtain⟨on,X,hs,hd⟩:=id h;have it:2*((n+3)*wM (bad3 K.F))<=2*((n+3)*wM 0):=Nat.mul_le_mul_left _ (Nat.mul_le_mul_left _ (DX (Ac _)));cases hdd:K.dd with
 | true=>exact⟨_,NU hs hdd n _ o,AM _,AL (lk.dead h hdd _)⟩
 | false=>
  obtain⟨hX,no,hT⟩:=hd hdd;obtain⟨Z,e,hz⟩:=Y1 hn (hs.mono fun b _ e=>absurd e (hX b)) on (fun _=>⟨no,hT⟩) h24 hsq ho hD bD;refine⟨Z,e,(I7 _ _ _ _ _ e).1,?_⟩;rcases hz with ⟨c,G',d,q1,q2,q3,rd,q⟩ | ⟨G',d,st,rd,q⟩
  ·exact AK ⟨c,G',d,q1,q2,q3,rd.mono it,q⟩
  ·exact AL ⟨G',d,st,rd.mono it,q⟩
theorem dR(hn:4<=n)(h:Ivk K G)(hsq:Sq 1 K) :∃Z,anR (n+1) noH K 24=some Z/\Z.1.ca<=K.ca/\∃G' d,Str d K Z.1 G G'/\RdB (2*((n+3)*wM 0)) K Z.1/\((Z.2=0/\Ivk Z.1 G'/\Z.1.dd=false/\Z.1.nx<=K.nx+1+8*d)\/(Z.2=14/\Ivk Z.1 G'/\Z.1.dd=true/\Z.1.nx<=K.nx+1+8*d)\/(Z.2=7/\Z.1.s.on=false/\(∃X,Sit Z.1 G' X)/\Z.1.nx<=K.nx+2+8*d)):=by
 obtain⟨on,X,hs,hd⟩:=id h;have it:2*((n+3)*wM (bad3 K.F))<=2*((n+3)*wM 0):=Nat.mul_le_mul_left _ (Nat.mul_le_mul_left _ (DX (Ac _)));cases hdd:K.dd with
 | true=>exact⟨_,NU hs hdd n _ 24,AM _,G,0,Str.refl K G,(RdB.refl K).mono (Ac _),AL (AK ⟨rfl,h,hdd,by show K.nx<=_;omega⟩)⟩
 | false=>
  obtain⟨hX,no,hT⟩:=hd hdd;obtain⟨Z,e,G',X',d,s,st,rd,hz⟩:=MJ hn (hs.mono fun b _ e=>absurd e (hX b)) on (fun _=>⟨no,hT⟩) hsq;refine⟨Z,e,(I7 _ _ _ _ _ e).1,G',d,st,rd.mono it,?_⟩;rcases hz with ⟨a1,a2,a3,a4,a5,a6,a7⟩ | ⟨a1,a2,a3,a7⟩ | ⟨a1,a2,a7⟩
  ·exact AK ⟨a1,⟨a2,X',s,fun _=>⟨a3,a5,a6⟩⟩,a4,a7⟩
  ·exact AL (AK ⟨a1,⟨a2,X',s,fun e=>by rw[a3] at e;cases e⟩,a3,a7⟩)
  ·exact AL (AL ⟨a1,a2,⟨X',s⟩,om⟩)
def oO (W:Nat) (K:BH) (G:Bk) (o:Nat) (Z:BH × Nat):Prop:=
 (Z.2=0/\∃G' d,Ivk Z.1 G'/\G'.a=ET G.a o (List.replicate 174 0)/\(∀x,G'.z x->G.z x)/\RdB W K Z.1/\Z.1.L 24≠-1/\Z.1.L o = -1/\(∀x,x<24->x≠o->(Z.1.L x = -1<->K.L x = -1))/\Z.1.tl=K.tl/\bad3 Z.1.F=bad3 K.F+d/\Z.1.nx<=K.nx+1+8*d)\/lk W K G Z
theorem dS(hn:4<=n)(h:Ivk K G)(h24:K.L 24≠-1)(hsq:Sq 1 K)(ho:o<24) :∃Z,tmK (n+1) K o=some Z/\Z.1.ca<=K.ca/\oO (2*((n+3)*wM 0)) K G o Z:=by
 obtain⟨on,X,hs,hd⟩:=id h;have no:2*((n+3)*wM (bad3 K.F))<=2*((n+3)*wM 0):=Nat.mul_le_mul_left _ (Nat.mul_le_mul_left _ (DX (Ac _)));by_cases hL:K.L o = -1
 ·refine⟨(K,0),by unfold tmK;rw[AJ hL],AM _,AK ⟨rfl,G,0,h,?_,fun _=>id,(RdB.refl K).mono (Ac _),h24,hL,fun _ _ _=>Iff.rfl,rfl,rfl,by show K.nx<=_;omega⟩⟩;funext x;unfold ET;split
  ·rename_i e;rw[e];exact hs.nul o ho hL
  ·rfl
 ·cases hdd:K.dd with
  | true=>
   have e:=NU hs hdd n (tmH o (K.vs o:Nat)) 24;refine⟨(K,14),?_,AM _,AL (lk.dead h hdd _)⟩;unfold tmK;rw[AI hL,e];rfl
  | false=>
   obtain⟨hX,kd,hT⟩:=hd hdd;have s0:=hs.mono (Y:=fun _=>False) (fun b _ e=>absurd e (hX b));have La:=Iz hn (H:=tmH o (K.vs o:Nat)) (fun _ _=>⟨AA.CI _,AA.FA _⟩) (by decide:(24:Nat)<25) (K0:=K) (G0:=G) (P:=fun Z=>Z.2=0/\AB.atC Z.1.L (o:Nat)=0/\∃G' d,Sit { Z.1 with fl:=upd Z.1.fl o (K.vs o:Nat),L:=AB.dropL Z.1.L (o:Nat) } G' No/\G'.a=ET G.a o (List.replicate 174 0)/\G'.z=(fun x=>x≠o/\G.z x)/\(∀b,b<12->Z.1.F b=3->G'.c.B b=true)/\Rm 0 Z.1/\RdB (2*((n+3)*wM (bad3 K.F))) K Z.1/\AB.dropL Z.1.L (o:Nat) 24≠-1/\AB.dropL Z.1.L (o:Nat) o = -1/\(∀x,x<24->x≠o->(AB.dropL Z.1.L (o:Nat) x = -1<->K.L x = -1))/\Z.1.tl=K.tl/\Z.1.dd=false/\bad3 Z.1.F=bad3 K.F+d/\Z.1.nx<=K.nx+1+8*d) (fun K' K1 G' d p s' r' R' _ hdd' hrm' hT' hst hnx hrd fD=>by
    have ev:K'.vs o=K.vs o:=hst.vs o ho
    rw[<-ev] at fD
    obtain⟨n1,n2,n3,n4,n5,n6,n7,n8,n9,G2,g1,g2,s2,t2⟩:=Y2 ho fD (fun e=>hL ((hst.lv o ho).1 e)) hdd'
    have ez:G'.z=G.z:=hst.z
    have ea:G'.a=G.a:=hst.a
    rw[ev] at s2
    rw[ea] at g1
    rw[ez] at g2
    refine⟨n1,n8,G2,d,s2,g1,g2,fun b hb e=>t2 b hb (by rw[<-n3];exact e),?_,hrd,?_,?_,fun x hx hxo=>?_,n6.trans hst.fx.tl,by rw[n4];exact hdd',by rw[n3];exact hst.bd,by rw[n2];omega⟩
    ·
     unfold Rm at hrm' ⊢
     rw[n3]
     exact hrm'
    ·
     rw[n9,BT _ _ om,Bb]
     omega
    ·
     rw[n9,Bb]
    ·
     rw[n9,BT _ _ hxo,BT _ _ om]
     exact hst.lv x hx) s0 on (fun _=>⟨kd,hT⟩) hsq
   obtain⟨Z,eZ,hZ⟩:=La;have it:=(I7 _ _ _ _ _ eZ).1;unfold tmK;rw[AI hL,eZ];dsimp only;rcases hZ with ⟨Go,c0,hv,G',d,s,g1,g2,td,rm,rd,q1,q2,q3,q4,q5,q6,q7⟩ | ⟨G',X',d,s,st,hx⟩
   ·rw[AI (by rw[c0];simp)];refine⟨_,rfl,it,AK ⟨hv,G',d,⟨Go,_,s,fun _=>⟨fun _=>id,rm,td⟩⟩,g1,fun x k=>by rw[g2] at k;exact k.2,?_,q1,q2,q3,q4,q6,q7⟩⟩;intro N hN hR;exact rd.mono no N hN hR
   ·have ar:Z.2≠0:=by rcases hx with ⟨c,_⟩ | ⟨c,_⟩ <;> rw[c] <;> decide
    rw[AJ ar];refine⟨Z,rfl,it,AL ⟨G',d,st.stq.str,st.rd.mono no,?_⟩⟩;rcases hx with ⟨c,on,dd,nx⟩ | ⟨c,off,nx⟩
    ·exact AK ⟨c,⟨on,X',s,fun e=>by rw[dd] at e;cases e⟩,dd,nx⟩
    ·exact AL ⟨c,off,⟨X',s⟩,nx⟩
def ng (W:Nat) (K:BH) (G:Bk) (b:Nat) (rt:Bool) (Z:BH × Nat):Prop:=
 ((K.F b=0\/K.F b=3)/\Z=(K,12))\/(K.F b≠0/\K.F b≠3/\(2<bad3 K.F\/(rt=true/\bad3 K.F=2))/\Z=(K,14)) \/
 (K.F b≠0/\K.F b≠3/\¬ (2<bad3 K.F\/(rt=true/\bad3 K.F=2))/\∃G' d,Str d K Z.1 G G'/\RdB W K Z.1 /\
  ((Z.2=0/\Ivk Z.1 G'/\Z.1.dd=false/\(Z.1.F b=0\/Z.1.F b=3)/\(∀o,o<25->Z.1.L o≠-1->(Z.1.L o).toNat / 8≠b)/\Z.1.nx<=K.nx+1+8*d)\/(Z.2=14/\Ivk Z.1 G'/\Z.1.dd=true/\Z.1.nx<=K.nx+1+8*d)\/(Z.2=7/\Z.1.s.on=false/\(∃X,Sit Z.1 G' X)/\Z.1.nx<=K.nx+2+8*d)))
theorem dT(hn:3<=n)(h:Ivk K G)(hsq:Sq 1 K){b:Nat}(hb:b<12)(rt:Bool) :∃Z,vaK n K b rt=some Z/\Z.1.ca<=K.ca/\ng (wM 0) K G b rt Z:=by
 obtain⟨on,X,hs,hd⟩:=id h;have hv:∃Z,vaK n K b rt=some Z/\ng (wM 0) K G b rt Z:=by
  unfold vaK;by_cases h1:K.F b=0\/K.F b=3
  ·rw[AJ h1];exact⟨_,rfl,AK ⟨h1,rfl⟩⟩
  ·rw[AI h1];have h0:K.F b≠0:=fun e=>h1 (AK e);have h3:K.F b≠3:=fun e=>h1 (AL e);have no:bearK K=decide (bad3 K.F<2):=(by unfold bearK;rw[hs.sp];simp);have it:(Cy K=true\/(rt=true/\bearK K=false))<->(2<bad3 K.F\/(rt=true/\bad3 K.F=2)):=by
    rw[DJ hs,hs.dds,no,decide_eq_false_iff_not];constructor
    ·rintro (e | ⟨e,k⟩)
     ·exact AK e
     ·by_cases c:2<bad3 K.F
      ·exact AK c
      ·exact AL ⟨e,om⟩
    ·rintro (e | ⟨e,k⟩)
     ·exact AK e
     ·exact AL ⟨e,om⟩
   by_cases h2:Cy K=true\/(rt=true/\bearK K=false)
   ·rw[AJ h2];exact⟨_,rfl,AL (AK ⟨h0,h3,it.1 h2,rfl⟩)⟩
   ·rw[AI h2];have ar:K.dd=false:=by
     have:¬ Cy K=true:=fun e=>h2 (AK e);rw[DJ hs] at this;simpa using this
    obtain⟨hX,kd,hT⟩:=hd ar;obtain⟨Z,eZ,G',X',d,hz⟩:=(NQ (n:=n) (b:=0) om) K G (nwS b rt false) (hs.mono fun b _ e=>absurd e (hX b)) on hb h0 h3 ar kd (AK hT) (by unfold Sq at hsq ⊢;omega) (Ac _);rw[eZ];refine⟨_,rfl,AL (AL ⟨h0,h3,fun e=>h2 (it.2 e),G',d,?_⟩)⟩;have La:wM (bad3 K.F)<=wM 0:=DX (Ac _);rcases hz with ⟨c,m,_⟩ | ⟨c,m⟩ | ⟨c,m⟩
    ·refine⟨m.stp.stq.str,m.stp.rd.mono La,AK ⟨c,⟨m.on,_,m.sit,fun _=>⟨fun _=>id,m.rm,m.told⟩⟩,m.dd,m.st,m.none,?_⟩⟩;show Z.1.nx<=_;have:=m.nx;omega
    ·exact⟨m.stp.stq.str,m.stp.rd.mono La,AL (AK ⟨c,⟨m.on,X',m.sit,fun e=>by rw[show Z.1.dd=true from m.dd] at e;cases e⟩,m.dd,by show Z.1.nx<=_;have:=m.nx;omega⟩)⟩
    ·exact⟨m.stp.stq.str,m.stp.rd.mono La,AL (AL ⟨c,m.off,⟨X',m.sit⟩,by show Z.1.nx<=_;have:=m.nx;omega⟩)⟩
 obtain⟨Z,e,hz⟩:=hv;exact⟨Z,e,jZ e,hz⟩
end
section
variable {s:BM}{K:BH}{H:GS}{o:Nat}{G:Bk}
structure Fine (s:BM):Prop where
 on:s.on=true
 lim:s.lim=false
 bl:∀b,(s.bl b).failed=false/\(s.bl b).wf=false/\(s.bl b).ef=false
theorem Fine.setBl(h:Fine s)(b:Nat)(x:Jj)(hx:x.failed=false/\x.wf=false/\x.ef=false):Fine (s.setBl b x):=⟨h.on,h.lim,fun j=>by
 show ((if j=b then x else s.bl j).failed=false)/\_
 by_cases e:j=b
 ·
  simp only[BM.setBl,AJ e];exact hx
 ·
  simp only[BM.setBl,AI e];exact h.bl j⟩
theorem Fine.setCh(h:Fine s)(c:Nat)(k:Ji):Fine (s.setCh c k):=⟨h.on,h.lim,h.bl⟩
theorem Fine.go(h:Fine s):Fine (Jk s):=⟨h.on,h.lim,h.bl⟩
theorem Fine.failW(h:Fine s)(b:Nat):(failW (s.bl b)).failed=false/\(failW (s.bl b)).wf=false/\(failW (s.bl b)).ef=false:=by
 obtain⟨h1,h2,h3⟩:=h.bl b;refine⟨?_,h2,h3⟩;show ((s.bl b).failed || ((s.bl b).wf && _))=false;rw[h1,h2];rfl
theorem Fine.failE(h:Fine s)(b:Nat):(failE (s.bl b)).failed=false/\(failE (s.bl b)).wf=false/\(failE (s.bl b)).ef=false:=by
 obtain⟨h1,h2,h3⟩:=h.bl b;refine⟨?_,h2,h3⟩;show ((s.bl b).failed || (s.bl b).ef)=false;rw[h1,h3];rfl
theorem Fine.write(h:Fine s)(a k:Int)(l:List Nat):Fine (Bz s a k l).1/\(Bz s a k l).2≠7/\(Bz s a k l).2≠8:=by
 unfold Bz;split
 ·exact⟨h,by simp,by simp⟩
 ·rw[AI (by rw[h.on];decide)];split
  ·exact⟨h,by simp,by simp⟩
  ·rw[AI (by rw[h.lim];simp),AI (by rw[(h.failW _).1];decide)];exact⟨(h.go.setBl _ _ (h.failW _)).setCh _ _,by simp,by simp⟩
theorem Fine.erase(h:Fine s)(b:Int):Fine (eraseR s b).1/\(eraseR s b).2≠7/\(eraseR s b).2≠8:=by
 unfold eraseR;split
 ·exact⟨h,by simp,by simp⟩
 ·rw[AI (by rw[h.on];decide),AI (by rw[h.lim];simp),AI (by rw[(h.failE _).1];decide)];refine⟨?_,by simp,by simp⟩;have h1:=h.go.setBl b.toNat _ (h.failE b.toNat);have h2:=h1.setBl b.toNat { ((Jk s).setBl b.toNat (Go.Proofs.YtmdpnpjacfedpaaGreat.failE (s.bl b.toNat))).bl b.toNat with reads:=0 } (h1.bl b.toNat);exact⟨h2.on,h2.lim,h2.bl⟩
theorem Fine.rd(h:Fine s)(a:Nat):Fine (WU s a):=h.setBl _ _ (h.bl _)
theorem Fine.wrN(h:Fine s)(a:Int)(W:Nat->List Nat):∀n,Fine (wrN s a W n).1/\(wrN s a W n).2≠7/\(wrN s a W n).2≠8:=by
 intro n
 induction n with
 | zero=>exact⟨h,show (0:Nat)≠7 by decide,show (0:Nat)≠8 by decide⟩
 | succ n ih=>
  rw[Go.Proofs.YtmdpnpjacfedpaaGreat.wrN];split
  ·exact ih.1.write _ _ _
  ·exact ih
theorem Fine.readV(h:Fine s)(a:Int):Fine (readV s a).1/\(readV s a).2.2≠7:=by
 unfold Go.Proofs.YtmdpnpjacfedpaaGreat.readV;split
 ·exact⟨h,by simp⟩
 ·rw[AI (by rw[h.on];decide)];exact⟨h.rd _,by simp⟩
theorem Fine.prF(h:Fine s)(tl:List Nat->Int->Pg)(r:Int)(t:CP)(D:List Nat):Fine (prF tl s r t D).1/\((prF tl s r t D).2.1=1\/((prF tl s r t D).2.2≠7/\(prF tl s r t D).2.2≠8)):=by
 unfold Go.Proofs.YtmdpnpjacfedpaaGreat.prF;have h1:=h.wrN t.p (wordOf D (body t.p t.o t.q t.c t.l)) 4;generalize Go.Proofs.YtmdpnpjacfedpaaGreat.wrN s t.p (wordOf D (body t.p t.o t.q t.c t.l)) 4=X at *
 dsimp only;by_cases h2:X.2≠0
 ·rw[AJ h2];exact⟨h1.1,AL h1.2⟩
 ·rw[AI h2];have h3:=h1.1.readV t.p;unfold rdF;by_cases h4:(Go.Proofs.YtmdpnpjacfedpaaGreat.readV X.1 t.p).2.2=0
  ·rw[AJ h4];dsimp only;rw[AI (by simp)];exact⟨h3.1,AK rfl⟩
  ·rw[AI h4];dsimp only;rw[AJ h4];refine⟨h3.1,AL ⟨h3.2,?_⟩⟩;show (Go.Proofs.YtmdpnpjacfedpaaGreat.readV X.1 t.p).2.2≠8;unfold Go.Proofs.YtmdpnpjacfedpaaGreat.readV;split
   ·simp
   ·split <;> simp
theorem So(h:Wf K){T:Fq}(hR:JY K.s T){t:CP}{D:List Nat}(hp:t.p<96)(hE:YR t.p t D)(hB:Erd K.s t.p)(hf:Fine K.s):(prK K t D).2=0/\Fine (prK K t D).1.s:=by
 have h1:=hf.prF K.tl K.r t D;have h2:=PW h.tl h.chip hR hp hE hf.on hB K.r;unfold prK;dsimp only;refine⟨?_,h1.1⟩;rcases h2 with ⟨a,_⟩ | ⟨a,b,_⟩ | ⟨a,b,_⟩
 ·rw[a];rfl
 ·rcases h1.2 with c | ⟨_,c⟩
  ·rw[b] at c;cases c
  ·exact absurd a c
 ·rcases h1.2 with c | ⟨c,_⟩
  ·rw[b] at c;cases c
  ·exact absurd a c
theorem Sp(h:Wf K){b:Nat}(hb:b<12)(hf:Fine K.s):(erK K b).2=0/\Fine (erK K b).1.s:=by
 have h1:=hf.erase b;have h2:=Fr h.chip hb hf.on;have h0:(eraseR K.s b).2=0:=by
  rcases h2 with ⟨a,_⟩ | ⟨a,_⟩ | ⟨a,_⟩
  ·exact a
  ·exact absurd a h1.2.2
  ·exact absurd a h1.2.1
 unfold erK;dsimp only;rw[AJ h0];exact⟨rfl,h1.1⟩
theorem Sr(hH:∀K q,(H K q).length=174/\Bys (H K q))(h:Sit K G No)(hf:Fine K.s)(ho25:o<25)(hr:AC.rmV K.fr o=true)(hnx:K.nx<IE) :AC.nxC K.fr o=0/\∃K1 s' r' R',FrD H K K1 G o (8*K.fr.k+K.fr.i) s' r' R'/\Fine s'/\RdB 1 K (FrL K1 o (8*K.fr.k+K.fr.i) s' r' R').1 /\(frK H { K with fr:=AC.tkS K.fr o } (AC.nxV K.fr o).toNat o).2.2=0/\layK (frK H { K with fr:=AC.tkS K.fr o } (AC.nxV K.fr o).toNat o).1 (frK H { K with fr:=AC.tkS K.fr o } (AC.nxV K.fr o).toNat o).2.1=FrL K1 o (8*K.fr.k+K.fr.i) s' r' R':=by
 obtain⟨t1,t2,t3,t4,t5,t6,t7,t8⟩:=h.take ho25 hr;have it:RdB 1 K (frK H { K with fr:=⟨true,K.fr.k,K.fr.i+1⟩ } (8*K.fr.k+K.fr.i) o).1:=by
  have h0:RdB 0 K { K with fr:=⟨true,K.fr.k,K.fr.i+1⟩ }:=RdB.same (fun _=>rfl) rfl;exact h0.trans (RH H _ _ o)
 rw[t2,t3];refine⟨t1,?_⟩;have e:sqK { K with fr:=⟨true,K.fr.k,K.fr.i+1⟩ }={ K with fr:=⟨true,K.fr.k,K.fr.i+1⟩,nx:=K.nx+1 }:=by
  unfold sqK;have e1:decide (K.nx=IE)=K.sp:=by rw[h.sp];exact AN om
  have e2:min (K.nx+1) IE=K.nx+1:=om
  dsimp only;rw[e1,e2]
 obtain⟨s',r',R',wf,hx⟩:=LG t4.wf t4.sp hnx t4.rep hf.on t5.lt ho25 t6 t5.er H rfl (hH _ _).1 (hH _ _).2;have hn:=h.wf.nx;have hM:DY ((8*K.fr.k+K.fr.i:Nat):Int) (o:Nat) (K.nx:Nat) ((0:Nat):Int) false:=by
  unfold IE at hnx;have:=t5.lt;refine⟨⟨om,om,om,om⟩,?_⟩;by_cases Go:o=24
  ·exact AK ⟨om,rfl⟩
  ·have:=t6.resolve_left Go;exact AL ⟨om,om⟩
 have w1:Wf { K with fr:=⟨true,K.fr.k,K.fr.i+1⟩,nx:=K.nx+1 }:=by rw[<-e];exact t4.wf.sq
 have no:=So (K:={ K with fr:=⟨true,K.fr.k,K.fr.i+1⟩,nx:=K.nx+1 }) w1 t4.rep (t:=⟨8*K.fr.k+K.fr.i,o,K.nx,0,false⟩) (D:=H { K with fr:=⟨true,K.fr.k,K.fr.i+1⟩,nx:=K.nx+1 } K.nx) t5.lt ⟨rfl,hM,(hH _ _).1,(hH _ _).2⟩ t5.er hf;have e0:(frK H { K with fr:=⟨true,K.fr.k,K.fr.i+1⟩ } (8*K.fr.k+K.fr.i) o).2.2=0/\Fine (frK H { K with fr:=⟨true,K.fr.k,K.fr.i+1⟩ } (8*K.fr.k+K.fr.i) o).1.s:=by
  unfold frK;rw[AI (by rw[t4.sp];decide)];dsimp only;rw[e];rw[AI (by rw[no.1];simp)];refine⟨rfl,?_⟩;split <;> exact no.2
 rcases hx with ⟨ex,k⟩ | ⟨ex,k⟩ | ⟨ex,k⟩
 ·rw[ex] at e0 it ⊢;refine⟨_,s',r',R',⟨rfl,t4,t5,t6,wf,k⟩,?_,?_,rfl,rfl⟩
  ·have:=e0.2;dsimp only at this;split at this <;> exact this
  ·exact it.trans (IP _ _)
 ·rw[ex] at e0;exact absurd e0.1 (show ¬ (8:Nat)=0 by decide)
 ·rw[ex] at e0;exact absurd e0.1 (show ¬ (7:Nat)=0 by decide)
theorem Y3{mr:BH->Nat->Option (BH × Nat)}{mo:It}{n:Nat}{K':BH}(hw:Cy K=false)(hs:K.sp=false)(hm:mr K o=some (K',0))(hc:AC.nxC K'.fr o=0)(hf:(frK H { K' with fr:=AC.tkS K'.fr o } (AC.nxV K'.fr o).toNat o).2.2=0) :anK mr mo H (n+1) K o=some (layK (frK H { K' with fr:=AC.tkS K'.fr o } (AC.nxV K'.fr o).toNat o).1 (frK H { K' with fr:=AC.tkS K'.fr o } (AC.nxV K'.fr o).toNat o).2.1):=by
 rw[anK,AI (by rw[hw,hs];simp),hm];dsimp only;rw[AI (by simp),AI (by rw[hc];simp),AJ hf]
theorem Ss(hH:∀K q,(H K q).length=174/\Bys (H K q))(h:Sit K G No)(hf:Fine K.s)(hdd:K.dd=false)(ho25:o<25)(hr:AC.rmV K.fr o=true)(hnx:K.nx<IE)(n:Nat) :∃K1 s' r' R',FrD H K K1 G o (8*K.fr.k+K.fr.i) s' r' R'/\Fine s'/\RdB 1 K (FrL K1 o (8*K.fr.k+K.fr.i) s' r' R').1/\anR (n+1) H K o=some (FrL K1 o (8*K.fr.k+K.fr.i) s' r' R'):=by
 obtain⟨c,K1,s',r',R',f1,f2,f4,f5,f6⟩:=Sr hH h hf ho25 hr hnx;refine⟨K1,s',r',R',f1,f2,f4,?_⟩;rw[<-f6];show anK _ _ H (n+1) K o=_;refine Y3 (by rw[DJ h];exact hdd) h.sp ?_ c f5;rw[mrK,AJ hr]
end
section
variable {tl:List Nat->Int->Pg}{K:BH}{s:BM}{H:GS}{G:Bk}{o:Nat}
def K0 (s:BM) (tl:List Nat->Int->Pg):BH:={ s:=s,r:=0,F:=fun _=>0,L:=fun _=>-1,vs:=fun _=>0,vc:=fun _=>0,fl:=fun _=>0,nx:=1,sp:=false,fr:=noF,cu:=0,ca:=0,qu:=[],hR:=fun _=>0,hN:=fun _=>0,hS:=fun _=>0,dd:=false,rp:=0,md:=0,mv:=0,tl:=tl }
def G0:Bk:={ T:=fun _=>none,c:=AA.ck0,a:=fun _=>List.replicate 174 0,z:=fun _=>False }
theorem Pf:AB.GK (fun _=>-1):=by
 refine⟨?_,?_,?_⟩
 all_goals intros
 all_goals first | exact AK rfl | omega
theorem nC(hs:s.Ok)(htl:∀L n,ToldR L n (tl L n)):Wf (K0 s tl) where
 chip:=hs
 rr:=by show -9223372036854775808<=(0:Int)/\(0:Int)<9223372036854775808;decide
 frm:=by show 0<=(0:Int)/\(0:Int)<12;decide
 map:=Pf
 vs:=fun _ _=>Ac _
 vp:=fun _ _ e=>absurd rfl e
 vc:=fun _ _=>by show 0<256;decide
 fl:=fun _ _=>by show 0<=(0:Int)/\(0:Int)<=1099511627775;decide
 nx:=by show 1<=1/\1<=1099511627775;decide
 fr:=by show 0<12/\0<9;decide
 cu:=by show 0<96;decide
 qu:=⟨nodup_nil,fun _ e=>(by cases e)⟩
 hea:=fun _ _=>by show (0<=(0:Int)/\(0:Int)<=65535)/\(0<=(0:Int)/\(0:Int)<=65535)/\0<=(0:Int)/\(0:Int)<=255;decide
 tl:=htl
theorem nD(hs:s.Ok)(he:∀j,(s.ch j).is=false)(htl:∀L n,ToldR L n (tl L n)):Sit (K0 s tl) G0 No where
 wf:=nC hs htl
 rep:=⟨fun _ _ _ e=>(by cases e),fun _ _ _ e=>(by cases e),fun p _ _=>he _⟩
 sts:=fun _ _=>by show 0<=(0:Int)/\(0:Int)<=3;decide
 frs:=fun p _ _ k _=>he _
 opn:=fun b _=>⟨fun e=>absurd (show (0:Int)=1 from e) dc,fun e=>absurd (show false=true from e.1) dc⟩
 frn:=fun e=>absurd (show false=true from e) dc
 liv:=fun _ _ e=>absurd rfl e
 nul:=fun _ _ _=>rfl
 blk:=fun _ _ e=>absurd rfl e
 flo:=fun _ _ e=>absurd rfl e
 old:=fun _ _ _ e=>(by cases e)
 seq:=fun _ _ _ e=>(by cases e)
 fls:=fun _ _=>by show (0:Int)<((1:Nat):Int);decide
 sp:=rfl
 dds:=⟨fun e=>absurd (show false=true from e) dc,fun e=>absurd (show 2<bad3 (fun _=>0) from e) dc⟩
 cb:=fun _ _ e=>absurd (show false=true from e) dc
 cf:=fun _ _=>rfl
 cn:=fun e=>absurd rfl e
 nw:=fun _ _=>rfl
 z24:=id
 lb:=fun _ _ e=>absurd rfl e
theorem ll(i:Nat):upd (fun _=>(0:Int)) i 0=fun _=>0:=by
 funext j;unfold upd;split <;> rfl
theorem dU(htl:∀L n,ToldR L n (tl L n)):∀(n i:Nat) (s:BM),i+n<=12->s.Ok->Fine s->(∀j,(s.ch j).is=false)->(∀b,(s.bl b).reads=0) ->∃s',efK (fun _=>0) n i (K0 s tl) false=(K0 s' tl,false,0)/\s'.Ok/\Fine s'/\(∀j,(s'.ch j).is=false)/\(∀b,(s'.bl b).reads=0):=by
 intro n
 induction n with
 | zero=>intro i s _ ho hf hc hr;exact⟨s,rfl,ho,hf,hc,hr⟩
 | succ n ih=>
  intro i s hi ho hf hc hr;obtain⟨e1,e2⟩:=Sp (K:=K0 s tl) (nC ho htl) (b:=i) om hf;have h1:=hf.erase i;have h2:=Fr ho (show i<12 by omega) hf.on;have h0:(eraseR s i).2=0:=by
   rcases h2 with ⟨a,_⟩ | ⟨a,_⟩ | ⟨a,_⟩
   ·exact a
   ·exact absurd a h1.2.2
   ·exact absurd a h1.2.1
  have eK:erK (K0 s tl) i=(K0 (eraseR s i).1 tl,0):=by
   unfold erK;dsimp only;have La:(eraseR (K0 s tl).s i).2=0:=h0;rw[AJ La];show (({ K0 s tl with s:=(eraseR s i).1,hR:=upd (fun _=>(0:Int)) i 0,hN:=upd (fun _=>(0:Int)) i 0 }:BH),0)=_;rw[ll];rfl
  have no:∀j,((eraseR s i).1.ch j).is=false:=by
   rcases h2 with ⟨_,_,_,a⟩ | ⟨a,_⟩ | ⟨a,_⟩
   ·intro j;rw[a];split
    ·rfl
    ·exact hc j
   ·rw[h0] at a;cases a
   ·rw[h0] at a;cases a
  have Go:(eraseR s i).1.Ok:=Id ho i;have it:∀b,((eraseR s i).1.bl b).reads=0:=by
   intro b;unfold eraseR;rw[AI om,AI (by rw[hf.on];decide),AI (by rw[hf.lim];simp),AI (by rw[(hf.failE _).1];decide)];show (if b=(i:Int).toNat then { ((Jk s).setBl (i:Int).toNat (failE (s.bl (i:Int).toNat))).bl (i:Int).toNat with reads:=0 } else ((Jk s).setBl (i:Int).toNat (failE (s.bl (i:Int).toNat))).bl b).reads=0;split
   ·rfl
   ·rename_i c;show (if b=(i:Int).toNat then failE (s.bl (i:Int).toNat) else s.bl b).reads=0;rw[AI c];exact hr b
  obtain⟨s',q⟩:=ih (i+1) (eraseR s i).1 om Go h1.1 no it;refine⟨s',?_,q.2⟩;rw[efK,AI (by simp),eK];dsimp only;rw[AI dc,AI dc];exact q.1
theorem RO{K1:BH}{p:Nat}{s':BM}{r':Int}{R':Nat->Int}(ho:o<25)(f:FrD H K K1 G o p s' r' R') :(FrL K1 o p s' r' R').2=0/\(FrL K1 o p s' r' R').1.L=upd K.L o p/\(FrL K1 o p s' r' R').1.s=s'/\(FrL K1 o p s' r' R').1.F=K.F/\(FrL K1 o p s' r' R').1.fr=⟨true,K.fr.k,K.fr.i+1⟩/\(FrL K1 o p s' r' R').1.nx=K.nx+1/\(FrL K1 o p s' r' R').1.mv=K.mv/\(FrL K1 o p s' r' R').1.dd=K.dd/\(FrL K1 o p s' r' R').1.tl=K.tl:=by
 obtain⟨e,s1,sp,h6,wf,pg⟩:=f;have it:=sp.free s1;have ar:=sp.lt;have no:AB.DY ((o:Nat):Int) (p:Int):=⟨⟨om,om⟩,⟨om,om⟩,h6.imp (fun e=>om) (fun e=>om)⟩;have hc:AB.setC K1.L ((o:Nat):Int) (p:Int)=0:=by
  unfold AB.setC;rw[AI (fun e=>e no),AI (by rw[CM it];simp)]
 have Go:AB.setL K1.L ((o:Nat):Int) (p:Int)=upd K1.L o p:=by unfold AB.setL;rw[AJ hc,AP]
 subst e;unfold FrL layK Nd;by_cases La:o=24
 ·rw[AJ La];exact⟨hc,Go,rfl,rfl,rfl,rfl,rfl,rfl,rfl⟩
 ·rw[AI La];exact⟨hc,Go,rfl,rfl,rfl,rfl,rfl,rfl,rfl⟩
theorem Su:newS.Ok:=⟨fun _=>R0,fun _=>⟨by show 0<9223372036854775808;decide,fun _=>rfl,by show (-9223372036854775808:Int)<=0;decide,by show (0:Int)<9223372036854775808;decide⟩,by show 0<9223372036854775808;decide,by show (-9223372036854775808:Int)<=0;decide,by show (0:Int)<9223372036854775808;decide⟩
theorem U0:Fine newS:=⟨rfl,rfl,fun _=>⟨rfl,rfl,rfl⟩⟩
structure je (K:BH) (G:Bk):Prop where
 sit:Sit K G No
 told:Told K G
 rm:Rm 0 K
 fine:Fine K.s
 dd:K.dd=false
 a:G.a=fun _=>List.replicate 174 0
 z:G.z=fun _=>False
 L:K.L=upd (fun _=>-1) 24 0
 F:K.F=AD.tkF (fun _=>0) 0 0
 fr:K.fr=⟨true,0,1⟩
 nx:K.nx=2
 ca:K.ca=0
 mv:K.mv=0
 rd:Rdn 1 K
theorem je.ivk(h:je K G):Ivk K G:=⟨h.fine.on,_,h.sit,fun _=>⟨fun _=>id,h.rm,h.told⟩⟩
theorem oP:tkC (fun _=>0)=0/\tkM (fun _=>0)=0:=dc
theorem dV{KO:BH}(hw:Cy K=false)(hs:K.sp=false)(hr:¬ AC.rmV K.fr o=true)(hcl:clK K=K)(hspr:LA K=true)(hop:opK K=(KO,0))(hrO:AC.rmV KO.fr o=true)(hc:AC.nxC KO.fr o=0)(hf:(frK H { KO with fr:=AC.tkS KO.fr o } (AC.nxV KO.fr o).toNat o).2.2=0)(n:Nat) :anR (n+2) H K o=some (layK (frK H { KO with fr:=AC.tkS KO.fr o } (AC.nxV KO.fr o).toNat o).1 (frK H { KO with fr:=AC.tkS KO.fr o } (AC.nxV KO.fr o).toNat o).2.1):=by
 show anK _ _ H (n+2) K o=_;refine Y3 hw hs ?_ hc hf;rw[mrK,AI hr];dsimp only;rw[hcl,AJ hspr,hop,AI (by simp)];dsimp only;rw[mrK,AJ hrO]
theorem jf(htl:∀L n,ToldR L n (tl L n))(n:Nat):∃K G,cnK (n+2) (K0 newS tl)=some (K,0)/\je K G/\K.tl=tl:=by
 obtain⟨s',e1,o1,f1,c1,r1⟩:=dU htl 12 0 newS (AM _) Su U0 (fun _=>rfl) (fun _=>rfl);have h0:=nD o1 c1 htl;have eF:efK (K0 newS tl).F 12 0 (K0 newS tl) false=(K0 s' tl,false,0):=e1;have ar:=h0.op (by rfl) (by show 1<=fre (fun _=>0);decide);have no:LA (K0 s' tl)=true:=by
  show decide (AD.XM (fun _=>0)<((AD.cnt (fun _=>0) 0 12:Nat):Int))=true;decide
 have kd:∃KO:BH,opK (K0 s' tl)=(KO,0)/\KO.s=s'/\KO.F=AD.tkF (fun _=>0) 0 0/\KO.fr=⟨true,0,0⟩/\KO.L=(fun _=>-1)/\KO.nx=1/\KO.dd=false/\KO.mv=0/\KO.tl=tl/\KO.hR=(fun _=>0):=by
  have:=oP;have t1:tkC (K0 s' tl).F=0:=this.1;have t2:tkM (K0 s' tl).F=0:=this.2;refine⟨{ K0 s' tl with F:=AD.tkF (fun _=>0) 0 0,fr:=⟨true,0,0⟩ },?_,rfl,rfl,rfl,rfl,rfl,rfl,rfl,rfl,rfl⟩;unfold opK;rw[AJ t1,t2];rfl
 obtain⟨KO,eO,k1,k2,k3,k4,k5,k6,k7,k8,k9⟩:=kd;rw[eO] at ar;obtain⟨_,s2,hv,b2,_,q2,_⟩:=ar;dsimp only at s2 hv b2 q2;have hr:AC.rmV KO.fr ((24:Nat):Int)=true:=by rw[k3];decide
 obtain⟨c,K1,s3,r3,R3,fD,f3,La,fz,fl⟩:=Sr RL s2 (by rw[k1];exact f1) (by decide:(24:Nat)<25) hr (by rw[k5];decide);have it:=dV (H:=noH) (K:=K0 s' tl) (o:=24) (by rw[DJ h0];rfl) rfl (by show ¬ AC.rmV noF ((24:Nat):Int)=true;decide) rfl no eO hr c fz n;rw[fl] at it;have hl:=RO dc fD;obtain⟨n1,n2,n3,n4,n5,n6,n7,G',g1,g2,g3⟩:=Pe fD k6;rw[k3] at it hl n1 n2 n3 n4 n5 n6 n7 g1 g2 g3 La;generalize FrL K1 24 (8*(⟨true,0,0⟩:AC.St).k+(⟨true,0,0⟩:AC.St).i) s3 r3 R3=Z at *
 refine⟨Z.1,G',?_,⟨g1,g2,?_,?_,?_,?_,?_,?_,?_,?_,?_,?_,?_,?_⟩,?_⟩
 ·unfold cnK;rw[AI (by show ¬ false=true;decide),eF,AI (by simp)];dsimp only;rw[AI (by show ¬ ((-1:Int)≠-1/\_);simp),it];show some (Z.1,MF Z.2)=_;rw[hl.1];rfl
 ·unfold Rm;rw[hl.2.2.2.1,k2];decide
 ·rw[hl.2.2.1];exact f3
 ·rw[hl.2.2.2.2.2.2.2.1];exact k6
 ·rw[g3.a];rfl
 ·rw[g3.z];rfl
 ·rw[hl.2.1,k4];rfl
 ·rw[hl.2.2.2.1,k2]
 ·rw[hl.2.2.2.2.1]
 ·rw[hl.2.2.2.2.2.1,k5]
 ·exact n7
 ·rw[hl.2.2.2.2.2.2.1,k7]
 ·have hk:Rdn 0 KO:=fun b _=>by
   rw[k1,k9,r1 b];show 0<=(0:Int)/\(0:Int)<=((0:Nat):Int)/\(0:Int)=min 0 65535;decide
  exact La 0 dc hk
 ·rw[hl.2.2.2.2.2.2.2.2,k8]
end
def sbS (B:Nat->Bool) (L:Nat->Int) (b:Nat):Int:=if B b=true then 3 else if 0<AB.lvK L 96 b then 2 else 0
def sbF (S:Nat->Int):Nat->Nat->(Nat->Int)->(Nat->Int)
 | 0,_,F=>F
 | n+1,i,F=>sbF S n (i+1) (AD.setF F (i:Nat) (S i))
theorem dW(B:Nat->Bool)(L:Nat->Int)(b:Nat):0<=sbS B L b/\sbS B L b<=3:=by
 unfold sbS;split
 ·omega
 ·split <;> omega
theorem Ph(A:Ad)(w:Wd)(K:BH)(h:CoreAt A w K)(c:AA.Bn)(hF:∀b,b<12->K.F b=0) :Calls prog 121 #[.pointer (some ⟨A.c,0,none⟩),.agg (AA.ckA c)] w fun e w'=>e=.returned (errV 0)/\CoreAt A w' { K with F:=sbF (sbS c.B K.L) 12 0 K.F }/\Chg (Cor A) w w':=by
 have HG0:Hid (Chg No w (w.alloc (.cells (AA.ckA c) 55))):=(Chg.refl _ w).alloc _;have HB0:=BE (AA.Ck.new w c);have HK0:=BE (h.chg0 HG0.out);have HNA:Hid (¬ Cor A w.heap.size):=h.apart (AM _);have q:=CA;have g:=BQ;have HF:=BE hF;obtain⟨X,HX⟩:∃X,Hid (sbF (sbS c.B K.L) 12 0 K.F=X):=⟨_,rfl⟩;rw[HX.out];obtain⟨c2,-⟩:=HK0.out.cMap;have hlv:=AB.IC _ A.ma K.L HK0.out.map;have hz0:=HB0.out.lt;go_enter func121,ntmps121;go_wp2_with fail;generalize w.alloc (.cells (AA.ckA c) 55)=w0 at *
 refine hlv.mono ?_;rintro e w1 ⟨rfl,I1,G1⟩;have HI:=BE I1;have HK1:=BE (HK0.out.chg0 G1);have HG1:=BE ((Chg.cor0 (A:=A) HG0.out).trans (Chg.cor0 (A:=A) G1));have HB1:=BE (HB0.out.chg G1 (fun f=>f));have HN:Hid (¬ Cor A w0.heap.size):=HK0.out.apart (AM _);go_wp2_with fail
 go_loopg [15] 12 (fun kx s15 wr=>∃(i:Nat) (F:Nat->Int),s15=.int .i64 i/\i<=12/\12 - i<=kx/\Hid (CoreAt A wr { K with F:=F })/\Hid (Chg (Cor A) w wr)/\Hid (IB wr w0.heap.size 3 12 (fun k=>(AB.lvK K.L 96 k:Nat)))/\Hid (AA.Ck wr w.heap.size c)/\Hid (∀b,i<=b->b<12->F b=0)/\Hid (sbF (sbS c.B K.L) (12 - i) i F=X))
 case atStart=>exact⟨0,K.F,rfl,om,om,HK1.out,HG1.out,HI.out,HB1.out,fun b _ hb=>HF.out b hb,HX.out⟩
 case round=>
  obtain⟨i,F,rfl,hi,hkx,HC,HG,HJ,HB,HZ,HE⟩:=hrel;by_cases hlt:i<12
  ·have hltz:(i:Int)<12:=om;obtain⟨ci,-⟩:=HJ.out.cell i hlt;have cb:=HB.out.B i hlt;obtain⟨m,hm⟩:∃m,12 - i=m+1:=⟨11 - i,om⟩;have hm2:12 - (i+1)=m:=om;have HE2:Hid (sbF (sbS c.B K.L) m (i+1) (AD.setF F (i:Nat) (sbS c.B K.L i))=X):=by
    have:=HE.out;rw[hm,sbF] at this;exact this
   have hst:=AD.SF wr A.po F HC.out.pool (i:Nat) (sbS c.B K.L i);have hr:=dW c.B K.L i;have hsc:AD.setC F (i:Nat) (sbS c.B K.L i)=0:=by
    unfold AD.setC;have:=HZ.out i (AM _) hlt;rw[AI om,AP,this,AI (by simp)]
   rw[hsc] at hst;have hwf:=HC.out.wf.st (i:Nat) (sbS c.B K.L i);have HWF:Hid (Wf { K with F:=AD.setF F (i:Nat) (sbS c.B K.L i) }):=hwf;have HM2:=BE hm2;have HZ2:Hid (∀b,i+1<=b->b<12->AD.setF F (i:Nat) (sbS c.B K.L i) b=0):=by
    intro b hb hb2;unfold AD.setF;rw[AJ hsc,AP];unfold upd;rw[AI om];exact HZ.out b om hb2
   obtain⟨d1,-⟩:=HC.out.cPool;have q0:∀w,(binOp .neq 46 (errV 0) .nilIface).run prog w=.ok (.bool false) w:=fun w=>q 0 w;replace ci:wr.cell? ⟨w0.heap.size,i,none⟩=some (.int .i64 ((AB.lvK K.L 96 i:Nat):Int)):=ci;have hsv:sbS c.B K.L i=if c.B i=true then 3 else if 0<AB.lvK K.L 96 i then 2 else 0:=rfl;generalize AD.setF F (i:Nat) (sbS c.B K.L i)=F2 at *
   generalize sbS c.B K.L i=sv at *
   generalize AB.lvK K.L 96 i=lv at *
   generalize c.B i=bb at *
   have fin:∀w3:World,IB w3 A.po 177 13 F2->Chg (·=A.po) wr w3->CoreAt A w3 { K with F:=F2 }/\Chg (Cor A) w w3/\IB w3 w0.heap.size 3 12 (fun k=>(AB.lvK K.L 96 k:Nat))/\AA.Ck w3 w.heap.size c:=fun _ h3 g3=>
    ⟨HC.out.setPool h3 g3 HWF.out,HG.out.trans g3.cor_po,HJ.out.chg g3.cor_po HN.out,HB.out.chg g3.cor_po HNA.out⟩
   have HFI:=BE fin;cases bb
   ·by_cases h0:0<lv
    ·have h0z:(0:Int)<(lv:Nat):=om;rw[AI (by simp),AJ h0] at hsv;subst hsv;go_wp2_with fail;refine hst.mono ?_;rintro e w3 ⟨rfl,h3,g3⟩;obtain⟨k3,e3,i3,b3⟩:=HFI.out w3 h3 g3;have HK3:=BE k3;have HG3:=BE e3;have HI3:=BE i3;have HB3:=BE b3;go_wp2
     go_roundg (12 - (i+1))
     case measure=>omega
     case rel=>exact⟨i+1,F2,by simp,om,AM _,HK3.out,HG3.out,HI3.out,HB3.out,HZ2.out,by rw[HM2.out];exact HE2.out⟩
    ·have h0z:¬ (0:Int)<(lv:Nat):=om;rw[AI (by simp),AI h0] at hsv;subst hsv;go_wp2_with fail;refine hst.mono ?_;rintro e w3 ⟨rfl,h3,g3⟩;obtain⟨k3,e3,i3,b3⟩:=HFI.out w3 h3 g3;have HK3:=BE k3;have HG3:=BE e3;have HI3:=BE i3;have HB3:=BE b3;go_wp2
     go_roundg (12 - (i+1))
     case measure=>omega
     case rel=>exact⟨i+1,F2,by simp,om,AM _,HK3.out,HG3.out,HI3.out,HB3.out,HZ2.out,by rw[HM2.out];exact HE2.out⟩
   ·rw[AJ rfl] at hsv;subst hsv;by_cases h0:0<lv
    ·have h0z:(0:Int)<(lv:Nat):=om;go_wp2_with fail;refine hst.mono ?_;rintro e w3 ⟨rfl,h3,g3⟩;obtain⟨k3,e3,i3,b3⟩:=HFI.out w3 h3 g3;have HK3:=BE k3;have HG3:=BE e3;have HI3:=BE i3;have HB3:=BE b3;go_wp2
     go_roundg (12 - (i+1))
     case measure=>omega
     case rel=>exact⟨i+1,F2,by simp,om,AM _,HK3.out,HG3.out,HI3.out,HB3.out,HZ2.out,by rw[HM2.out];exact HE2.out⟩
    ·have h0z:¬ (0:Int)<(lv:Nat):=om;go_wp2_with fail;refine hst.mono ?_;rintro e w3 ⟨rfl,h3,g3⟩;obtain⟨k3,e3,i3,b3⟩:=HFI.out w3 h3 g3;have HK3:=BE k3;have HG3:=BE e3;have HI3:=BE i3;have HB3:=BE b3;go_wp2
     go_roundg (12 - (i+1))
     case measure=>omega
     case rel=>exact⟨i+1,F2,by simp,om,AM _,HK3.out,HG3.out,HI3.out,HB3.out,HZ2.out,by rw[HM2.out];exact HE2.out⟩
  ·have hltz:¬ (i:Int)<12:=om;have e:i=12:=om;subst e;have HE3:Hid (F=X):=HE.out;go_wp2;go_ret;rw[<-HE3.out];exact⟨rfl,HC.out,HG.out⟩
end Go.Proofs.YtmdpnpjacfedpaaGreat
