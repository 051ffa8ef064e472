/-
  Lemmas.
-/
import Derived.Test.YtmdpnpjacfedpaaGreatOm
import Derived.Test.YtmdpnpjacfedpaaGreatP10
set_option maxRecDepth 1000000
set_option maxHeartbeats 16000000
set_option linter.unusedSimpArgs false
namespace Go.Proofs.YtmdpnpjacfedpaaGreat
open List
open Go.Proofs.Tryz
open Go.RowKit
section
variable {K K':BH}{G G':Bk}
theorem PZ(h:K.sp=false)(hb:bad3 K.F<2):bearK K=true:=by
 unfold bearK;rw[h,AO hb];rfl
theorem Se(hb:¬ bad3 K.F<2):bearK K=false:=by
 unfold bearK;rw[AN hb];rfl
def Rm (j:Nat) (K:BH):Prop:=5+j<=fre K.F+2*bad3 K.F
structure oD (K K':BH) (G G':Bk) (S:Bm) (V n:Nat) (d:Nat):Prop where
 on:K'.s.on=true
 sit:Sit K' G' No
 told:Told K' G'
 st:K'.F V=0\/K'.F V=3
 none:∀o,o<25->K'.L o≠-1->(K'.L o).toNat / 8≠V
 stp:Stp 20 d K K' G G'
 nx:K'.nx<=K.nx+d
 dd:K'.dd=false
 rm:Rm 0 K'
 gc:d=0->(K'.fr.o=true/\K'.fr.i<=n)\/((K'.fr=K.fr\/K'.fr=noF)/\fre K'.F=fre K.F+1)
 nf:d≠0->∀b,b<12->(K.F b≠0->K'.F b≠0)/\(b≠V->K.F b=2->K'.F b=2)
 fd:S.fd=true->d≠0/\K'.fr.o=true/\K'.fr.i<=7
structure oE (K K':BH) (G G':Bk) (S':Bm):Prop where
 on:K'.s.on=true
 sit:Sit K' G' (Xs S')
 hit:nA K' S'
 stp:Stp 20 0 K K' G G'
 nx:K'.nx<=K.nx+1
 dd:K'.dd=false
 fre:fre K'.F+1=fre K.F
 v0:K'.F S'.fm≠0
 v3:K'.F S'.fm≠3
 told:Told K' G'\/S'.fd=true
 nf:∀b,b<12->(K.F b≠0->K'.F b≠0)/\(K.F b=2->K'.F b=2)
 dk:K.F S'.tt.k=0
structure oF (K K':BH) (G G':Bk) (S':Bm):Prop where
 on:K'.s.on=true
 sit:Sit K' G' (Xs S')
 fd:S'.fd=true
 b2:bad3 K'.F=2
 stp:Stp 20 0 K K' G G'
 nx:K'.nx=K.nx
 v3:K'.F S'.fm≠3
 dd:K'.dd=false
structure oG (K K':BH) (G G':Bk) (S':Bm):Prop where
 off:K'.s.on=false
 sit:Sit K' G' (Xs S')
 stp:Stp 20 0 K K' G G'
 nx:K'.nx<=K.nx+1
def oH (K:BH) (G:Bk) (S:Bm) (n:Nat) (Z:BH × Bm × Nat):Prop:=
 (Z.2.1.fm=S.fm/\Z.2.1.rt=S.rt/\(S.fd=true->Z.2.1.fd=true))/\∃G',
  (Z.2.2=0/\∃d,d<=1/\oD K Z.1 G G' S S.fm n d)\/(Z.2.2=8/\oE K Z.1 G G' Z.2.1)\/(Z.2.2=14/\oF K Z.1 G G' Z.2.1)\/(Z.2.2=7/\oG K Z.1 G G' Z.2.1)
theorem Stp.of{m d n:Nat}(h:Stp m d K K' G G'){k:Nat}(hr:RdB k K K')(hk:k<=n):Stp n d K K' G G':=⟨h.a,h.z,h.fl,h.lv,h.l24,h.vs,h.fx,h.b3,h.bd,h.nx,hr.mono hk⟩
theorem Told.kee(h:Told K G)(hb:∀b,b<12->(K.F b=3<->K'.F b=3))(hc:G'.c=G.c):Told K' G':=fun b hb2 e=>by rw[hc];exact h b hb2 ((hb b hb2).2 e)
theorem Pa{S:Bm}(h:Sit K G No)(hon:K.s.on=true)(hfm:S.fm<12)(h0:K.F S.fm≠0)(h3:K.F S.fm≠3)(hdd:K.dd=false)(hrm:Rm 0 K)(hT:Told K G\/S.fd=true)(hnx:K.nx<IE) :oH K G S ((AC.ofL K.L S.fm).length) (tyK K S):=by
 have hrd:=jM K S;have hlen:((AC.ofL K.L S.fm).map Int.toNat).length<=8:=by rw[BA];exact AC.Dh K.L S.fm 8
 have hlen2:((AC.ofL K.L S.fm).map Int.toNat).length=(AC.ofL K.L S.fm).length:=BA _;have hbd2:bad3 K.F<=2:=by
  have:¬ 2<bad3 K.F:=fun e=>by have:=h.dds.2 e;rw[hdd] at this;cases this
  omega
 have hfr1:1<=fre K.F:=by unfold Rm at hrm;omega
 obtain⟨o1,o2,o3⟩:=NN h.wf.map S.fm;unfold tyK at hrd ⊢;dsimp only at hrd ⊢;by_cases hw:S.fd=true/\bearK K=false
 ·rw[AJ hw] at hrd ⊢;have hb:bad3 K.F=2:=by
   have:¬ bad3 K.F<2:=fun e=>by rw[PZ h.sp e] at hw;cases hw.2
   omega
  refine⟨⟨rfl,rfl,fun _=>hw.1⟩,G,AL (AL (AK ⟨rfl,⟨hon,h.mono (fun _ _ x=>x.elim),hw.1,hb,(Stp.refl K G).mono om,rfl,h3,hdd⟩⟩))⟩
 ·rw[AI hw] at hrd ⊢;have hS1:Sit K G (Xs { S with tt:=noF,ld:=[] }):=h.mono (fun _ _ x=>x.elim);have hC1:LU K G { S with tt:=noF,ld:=[] }:=⟨hfm,fun _=>⟨rfl,rfl⟩,fun e=>(by cases e),fun e=>(by cases e),fun e=>(by cases e),fun e=>(by cases e),fun t ht=>(by cases ht),fun t ht=>(by cases ht),nodup_nil,nodup_nil⟩;have hD1:kR K { S with tt:=noF,ld:=[] } ((AC.ofL K.L S.fm).map Int.toNat):=⟨fun o ho=>⟨(o1 o ho).1,(o1 o ho).2.1,(o1 o ho).2.2,Ac _⟩,o2,fun o _ t ht=>(by cases ht)⟩;obtain⟨G1,hb,hx⟩:=LH (S.fd || (S.rt && bearK K)) _ K G { S with tt:=noF,ld:=[] } hS1 hC1 hD1 (AK (Ac _)) hon (fun _=>hfr1) h0 (by show _+0<=25;omega);have hcp:=Yh (S.fd || (S.rt && bearK K)) ((AC.ofL K.L S.fm).map Int.toNat) K { S with tt:=noF,ld:=[] };generalize cpK (S.fd || (S.rt && bearK K)) ((AC.ofL K.L S.fm).map Int.toNat) K { S with tt:=noF,ld:=[] }=x at *
  obtain⟨K1,S1,c1⟩:=x;dsimp only at *
  obtain⟨sfm,srt,sfd⟩:=hb.sh;have sfm':S1.fm=S.fm:=sfm;have srt':S1.rt=S.rt:=srt;have sfd':S1.fd=S.fd:=sfd;have hstp1:Stp 16 0 K K1 G G1:=hb.kee.stp ⟨hb.gc.2.1,hb.gc.2.2⟩ hcp om;have hfre1:fre K1.F+(if S1.tt.o=true then 1 else 0)=fre K.F:=by
   have:=hb.fre;rw[this];rfl
  have hdd1:K1.dd=false:=by rw[hb.kee.dd];exact hdd
  have hF1:K1.F S1.fm=K.F S.fm:=by rw[sfm'];exact hb.fv
  have hdk:S1.tt.o=true->K.F S1.tt.k=0:=fun eo=>hb.dk (by rfl) eo;rcases hx with ⟨rfl,on1,hC,hB,hi,hall,_,hback⟩ | ⟨rfl,on1,hit⟩ | ⟨rfl,off1⟩
  ·rw[AI (show ¬ (0:Nat)≠0 by decide)] at hrd ⊢;have hsit1:=hb.sit;have hf1:S1.tt.o=false->1<=fre K1.F:=fun e=>by rw[e,AI dc] at hfre1;omega
   have hnx1:K1.nx<IE:=(by rw[hb.kee.nx];exact hnx);have hb1:bad3 K1.F=bad3 K.F:=hb.kee.bd;have hD9:S1.tt.o=true->∀b,K.F b=2->b≠S1.tt.k:=fun eo b e x=>by
    have:=hdk eo;rw[<-x,e] at this;exact absurd this dc
   have hDz:∀k,k<12->(S1.tt.o=true->k=S1.tt.k)->(S1.tt.o=false->K1.F k=0)->K.F k=0:=fun k hk k1 k0=>by
    cases eo:S1.tt.o
    ·by_cases e9:K.F k=0
     ·exact e9
     ·exact absurd (k0 eo) ((hb.kee.nf k hk).1 e9)
    ·rw[k1 eo];exact hdk eo
   have hW':RF K1 S1:=fun o ho hL e=>by
    have hL':K.L o≠-1:=(by rw[<-hb.kee.L];exact hL);have e':(K.L o).toNat / 8=S.fm:=(by rw[<-hb.kee.L,<-sfm'];exact e);rcases hall o (o3 o om hL' e') with ⟨_,e2⟩ | t
    ·omega
    ·exact t
   by_cases hbd:(S.fd || (S.rt && bearK K))=true
   ·rw[AJ hbd] at hrd ⊢;have hb2:bad3 K.F<2:=by
     by_cases e:bad3 K.F<2
     ·exact e
     ·rw[Se e] at hbd hw;cases hf:S.fd
      ·rw[hf] at hbd;simp at hbd
      ·exact absurd ⟨hf,rfl⟩ hw
    obtain⟨⟨z1,z2,z3⟩,znx,zf,znf,zx⟩:=PY hsit1 hC hB hW' on1 hf1 (by rw[hF1];exact h0) (by rw[hF1];exact h3) (by rw[hb1];exact hb2) hnx1;generalize cbK K1 S1=Z at *
    have hfreZ:fre Z.1.F+1=fre K.F:=by
     by_cases e:S1.tt.o=true
     ·rw[AJ e] at zf hfre1;omega
     ·rw[AI e] at zf hfre1;omega
    refine⟨⟨z1.trans sfm',z2.trans srt',fun e=>z3.trans (sfd'.trans e)⟩,?_⟩;rcases zx with ⟨e0,zon,G',zs,zt,zF,zn,zst,zdd,zfo,zfi⟩ | ⟨e8,zon,zs,zh,zst,zfr,zF,zdd,zk1,zk0⟩ | ⟨e7,zon,zs,zst⟩
    ·refine⟨G',AK ⟨e0,1,AM _,⟨zon,zs,zt,AL (by rw[<-sfm'];exact zF),by rw[<-sfm'];exact zn,?_,?_,zdd,?_,fun e=>(by cases e),fun _ b hb9=>⟨fun e=>(znf b hb9).1 ((hb.kee.nf b hb9).1 e),fun hv e=>(znf b hb9).2 (by rw[sfm'];exact hv) (fun eo=>hD9 eo b e) ((hb.kee.nf b hb9).2 e)⟩,fun _=>⟨dc,zfo,?_⟩⟩⟩⟩
     ·have:=hstp1.trans zst;exact this.of hrd om
     ·rw[znx,hb.kee.nx];exact AM _
     ·have:=(hstp1.trans zst).bd;unfold Rm at hrm ⊢;omega
     ·rw[zfi];rcases hB with b | ⟨⟨t,ht,b⟩,_⟩
      ·omega
      ·exfalso;rcases hback t ht with c | ⟨_,c⟩
       ·cases c
       ·exact c ⟨hbd,b⟩
    ·refine⟨G1,AL (AK ⟨e8,⟨zon,zs,zh,?_,?_,by rw[zdd];exact hdd1,hfreZ,?_,?_,?_,fun b hb9=>⟨fun e=>(znf b hb9).1 ((hb.kee.nf b hb9).1 e),fun e=>?_⟩,?_⟩⟩)⟩
     ·exact(hstp1.trans zst).of hrd om
     ·rw[znx,hb.kee.nx];exact AM _
     ·rw[z1,zF,hF1];exact h0
     ·rw[z1,zF,hF1];exact h3
     ·rcases hT with t | t
      ·left;refine fun b hb2 e=>?_;rw[hb.gc.1];refine t b hb2 ?_;by_cases e9:K.F b=3
       ·exact e9
       ·exfalso;have hbz:=(hstp1.trans zst).bd;have hle:AD.cnt K.F 3 12<AD.cnt Z.1.F 3 12:=by
         have key:∀n,n<=12->AD.cnt K.F 3 n+(if b<n then 1 else 0)<=AD.cnt Z.1.F 3 n:=by
          intro n
          induction n with
          | zero=>intro _;simp[AD.cnt]
          | succ n ih=>
           intro hn;have i1:=ih om;unfold AD.cnt;by_cases en:n=b
           ·subst en;rw[AI e9,AJ e,AJ om];rw[AI om] at i1;omega
           ·by_cases e3:K.F n=3
            ·rw[AJ e3,AJ ((hstp1.trans zst).b3 n om e3)];by_cases el:b<n
             ·rw[AJ el] at i1;rw[AJ om];omega
             ·rw[AI el] at i1;rw[AI om];omega
            ·rw[AI e3];by_cases el:b<n
             ·rw[AJ el] at i1;rw[AJ om];split <;> omega
             ·rw[AI el] at i1;rw[AI om];split <;> omega
         have:=key 12 (AM _);rw[AJ hb2] at this;omega
        unfold bad3 at hbz;omega
      ·exact AL (z3.trans (sfd'.trans t))
     ·by_cases ev:b=S1.fm
      ·rw[ev,zF];exact(hb.kee.nf _ hC.fm).2 (ev ▸ e)
      ·exact(znf b hb9).2 ev (fun eo=>hD9 eo b e) ((hb.kee.nf b hb9).2 e)
     ·exact hDz Z.2.1.tt.k zh.k zk1 zk0
    ·refine⟨G1,AL (AL (AL ⟨e7,⟨zon,zs,(hstp1.trans zst).of hrd om,by rw[znx,hb.kee.nx];exact AM _⟩⟩))⟩
   ·rw[AI hbd] at hrd ⊢;have hfd:S.fd=false:=by
     cases e:S.fd
     ·rfl
     ·rw[e] at hbd;simp at hbd
    have hTK:Told K G:=hT.resolve_right (by rw[hfd];decide);have hT1:Told K1 G1:=hTK.kee hb.kee.b3 hb.gc.1;have hW:Whole K1 S1:=fun o ho hL e=>by
     have hL':K.L o≠-1:=(by rw[<-hb.kee.L];exact hL);have e':(K.L o).toNat / 8=S.fm:=(by rw[<-hb.kee.L,<-sfm'];exact e);rcases hall o (o3 o ho hL' e') with ⟨e2,_⟩ | t
     ·exact absurd e2 hbd
     ·exact t
    have her:=Ya K1 S.fm;rcases Yc hsit1.wf hfm on1 with ⟨e0,s',R',N',eK,wf',on',hch⟩ | ⟨e8,s',eK,wf',on',hch⟩ | ⟨e7,s',eK,wf',on',hch⟩
    ·rw[AJ e0] at hrd ⊢;rw[<-sfm'] at eK hch hrd ⊢;obtain⟨K',ec,sK,ks,khR,kF,kf,kb,kb3,kn,kl,kfl,knx,kdd,kca,kfx,kfr1,kfr0⟩:=Uz hsit1 hC hW hT1 (by rw[hF1];exact h3) (by rw[hF1];exact h0) wf' hch;rw[eK] at hrd ⊢;rw[ec] at hrd ⊢;have hst:Stp 20 0 K K' G { G1 with T:=clrT G1.T S1.fm }:=by
      refine⟨hb.gc.2.1,hb.gc.2.2,kfl.trans hb.kee.fl,fun o _=>by rw[(kl o).1,hb.kee.L],fun x=>fun e=>by rw[(kl 24).1,hb.kee.L] at e;exact x e,fun o _=>by rw[(kl o).2,hb.kee.vs],hb.kee.fx.trans kfx,fun b hb2 e=>(kb3 b hb2).2 ((hb.kee.b3 b hb2).1 e),kb.trans hb1,by rw[knx,hb.kee.nx];exact AM _,hrd.mono (by rw[sfm'] at *;omega)⟩
     refine⟨⟨sfm',srt',fun e=>by rw[hfd] at e;cases e⟩,_,AK ⟨rfl,0,Ac _,⟨by rw[ks];exact on',sK,?_,AK (by rw[<-sfm'];exact kF),by rw[<-sfm'];exact kn,hst,?_,kdd.trans hdd1,?_,fun _=>?_,fun e=>absurd rfl e,fun e=>by rw[hfd] at e;cases e⟩⟩⟩
     ·exact hT1.kee (fun b hb2=>(kb3 b hb2).symm) rfl
     ·rw[knx,hb.kee.nx];exact AM _
     ·show 5+0<=fre K'.F+2*bad3 K'.F;unfold Rm at hrm;split at hfre1 <;> omega
     ·cases eo:S1.tt.o
      ·right;refine⟨?_,?_⟩
       ·rw[<-hb.kee.fr];exact kfr0 eo
       ·rw[eo,AI dc] at hfre1;show fre K'.F=fre K.F+1;omega
      ·left;rw[kfr1 eo];refine⟨eo,?_⟩;have hi':S1.tt.i<=0+_:=hi;rw[sfm'];omega
    ·rw[AI (by rw[e8];decide),e8] at hrd ⊢;rw[AI (show ¬ (8:Nat)≠8 by decide)] at hrd ⊢;rw[eK] at hrd her ⊢;have alk:YU K1 { K1 with s:=s' }:=⟨hch,rfl,rfl,rfl,rfl,rfl,rfl,rfl,rfl,rfl,rfl,rfl,⟨rfl,rfl,rfl,rfl,rfl,rfl⟩⟩;have s3:=hsit1.alk alk wf';have C3:=hC.alk alk;obtain⟨s4,f4,b4,q4⟩:=s3.lv (S.fm:Nat);obtain⟨F4,fr4,e4⟩:=Iy { K1 with s:=s' } (S.fm:Nat);have hk4:S1.tt.o=true->(lvK { K1 with s:=s' } (S.fm:Nat)).F S1.tt.k=2:=fun ho=>by
      rw[MH s3 _ (by show K1.F S1.tt.k≠1;rw[(hC.k12 ho).2.2.1];decide)];exact(hC.k12 ho).2.2.1
     have hv0:(lvK { K1 with s:=s' } (S.fm:Nat)).F S.fm≠0:=by
      have hz:K1.F S.fm≠0:=(by rw[<-sfm',hF1];exact h0);unfold lvK;split
      ·cases eo:K1.fr.o
       ·rw[DW (by exact eo)];exact hz
       ·rw[s3.clK_eq (by exact eo)];show upd K1.F K1.fr.k 2 S.fm≠0;rcases BX K1.F K1.fr.k S.fm 2 with ⟨_,e⟩ | ⟨_,e⟩ <;> rw[e]
        ·decide
        ·exact hz
      ·exact hz
     have hv3:(lvK { K1 with s:=s' } (S.fm:Nat)).F S.fm≠3:=fun e=>by
      have h9:K1.F S.fm=3:=(q4 S.fm hfm).2 e;rw[<-sfm',hF1] at h9;exact h3 h9
     have hlrd:=LJ { K1 with s:=s' } (S.fm:Nat);have hF4:∀b,b<12->K1.F b≠0->(lvK { K1 with s:=s' } (S.fm:Nat)).F b≠0:=fun b _ hz=>by
      unfold lvK;split
      ·cases eo:K1.fr.o
       ·rw[DW (by exact eo)];exact hz
       ·rw[s3.clK_eq (by exact eo)];show upd K1.F K1.fr.k 2 b≠0;rcases BX K1.F K1.fr.k b 2 with ⟨_,e⟩ | ⟨_,e⟩ <;> rw[e]
        ·decide
        ·exact hz
      ·exact hz
     have hF42:∀b,K1.F b=2->(lvK { K1 with s:=s' } (S.fm:Nat)).F b=2:=fun b hz=>by
      rw[MH s3 _ (by show K1.F b≠1;rw[hz];decide)];exact hz
     rw[e4] at s4 f4 b4 q4 hk4 hv0 hv3 hrd hlrd hF4 hF42 ⊢;have f4':fre F4=fre K1.F:=f4;have b4':bad3 F4=bad3 K1.F:=b4;have hst4:Stp 20 0 K { K1 with s:=s',F:=F4,fr:=fr4 } G G1:=by
      refine⟨hstp1.a,hstp1.z,hstp1.fl,hstp1.lv,hstp1.l24,hstp1.vs,hb.kee.fx.trans ⟨rfl,rfl,rfl,rfl,rfl,rfl⟩,fun b hb2 e=>(q4 b hb2).1 ((hb.kee.b3 b hb2).1 e),by show bad3 F4=bad3 K.F+0;omega,hstp1.nx,((hcp.trans her).trans hlrd).mono om⟩
     by_cases hbear:bearK { K1 with s:=s',F:=F4,fr:=fr4 }=false
     ·rw[AJ hbear] at hrd ⊢;have hb2:bad3 F4=2:=by
       have:¬ bad3 F4<2:=fun e=>by
        rw[PZ (K:={ K1 with s:=s',F:=F4,fr:=fr4 }) hsit1.sp e] at hbear;cases hbear
       omega
      refine⟨⟨sfm',srt',fun _=>rfl⟩,G1,AL (AL (AK ⟨rfl,⟨on',?_,rfl,hb2,hst4,?_,?_,hdd1⟩⟩))⟩
      ·exact s4
      ·show K1.nx=K.nx;exact hb.kee.nx
      ·show F4 S1.fm≠3;rw[sfm'];exact hv3
     ·rw[AI hbear] at hrd ⊢;have hb2:bad3 F4<2:=by
       by_cases e:bad3 F4<2
       ·exact e
       ·exact absurd (Se (K:={ K1 with s:=s',F:=F4,fr:=fr4 }) e) hbear
      have C4:LU { K1 with s:=s',F:=F4,fr:=fr4 } G1 { S1 with fd:=true }:=⟨C3.fm,C3.no,fun e=>⟨(C3.k12 e).1,(C3.k12 e).2.1,hk4 e,(C3.k12 e).2.2.2⟩,C3.none,C3.er,C3.all,C3.ld,C3.dt,C3.ndo,C3.ndp⟩;obtain⟨⟨z1,z2,z3⟩,znx,zf,znf,zx⟩:=PY (K:={ K1 with s:=s',F:=F4,fr:=fr4 }) (S:={ S1 with fd:=true }) s4 C4 hB hW' on' (fun e=>by rw[f4'];exact hf1 e) (by show F4 S1.fm≠0;rw[sfm'];exact hv0) (by show F4 S1.fm≠3;rw[sfm'];exact hv3) hb2 hnx1;generalize cbK { K1 with s:=s',F:=F4,fr:=fr4 } { S1 with fd:=true }=Z at *
      have zf':fre Z.1.F+(if S1.tt.o=true then 0 else 1)=fre F4:=zf;have hfreZ:fre Z.1.F+1=fre K.F:=by
       by_cases e:S1.tt.o=true
       ·rw[AJ e] at zf' hfre1;omega
       ·rw[AI e] at zf' hfre1;omega
      have znx':Z.1.nx=K.nx+1:=(by rw[znx];show K1.nx+1=_;rw[hb.kee.nx]);have z1':Z.2.1.fm=S1.fm:=z1;refine⟨⟨z1'.trans sfm',z2.trans srt',fun _=>z3⟩,?_⟩;rcases zx with ⟨e0,zon,G',zs,zt,zF,zn,zst,zdd,zfo,zfi⟩ | ⟨e8',zon,zs,zh,zst,zfr,zF,zdd,zk1,zk0⟩ | ⟨e7,zon,zs,zst⟩
      ·have zF':Z.1.F S1.fm=3:=zF;have zn':∀o,o<25->Z.1.L o≠-1->(Z.1.L o).toNat / 8≠S1.fm:=zn;refine⟨G',AK ⟨e0,1,AM _,⟨zon,zs,zt,AL (by rw[<-sfm'];exact zF'),by rw[<-sfm'];exact zn',(hst4.trans zst).of hrd om,by rw[znx'];exact AM _,zdd,?_,fun e=>(by cases e),fun _ b hb9=>⟨fun e=>(znf b hb9).1 (hF4 b hb9 ((hb.kee.nf b hb9).1 e)),fun hv e=>(znf b hb9).2 (by show b≠S1.fm;rw[sfm'];exact hv) (fun eo=>hD9 eo b e) (hF42 b ((hb.kee.nf b hb9).2 e))⟩,fun e=>by rw[hfd] at e;cases e⟩⟩⟩;have:=(hst4.trans zst).bd;unfold Rm at hrm ⊢;omega
      ·have zF':Z.1.F S1.fm=F4 S1.fm:=zF;refine⟨G1,AL (AK ⟨e8',⟨zon,zs,zh,(hst4.trans zst).of hrd om,by rw[znx'];exact AM _,zdd.trans hdd1,hfreZ,?_,?_,AL z3,fun b hb9=>⟨fun e=>(znf b hb9).1 (hF4 b hb9 ((hb.kee.nf b hb9).1 e)),fun e=>?_⟩,?_⟩⟩)⟩
       ·rw[z1',zF',sfm'];exact hv0
       ·rw[z1',zF',sfm'];exact hv3
       ·by_cases ev:b=S1.fm
        ·rw[ev,zF'];exact hF42 _ ((hb.kee.nf _ hC.fm).2 (ev ▸ e))
        ·exact(znf b hb9).2 ev (fun eo=>hD9 eo b e) (hF42 b ((hb.kee.nf b hb9).2 e))
       ·refine hDz Z.2.1.tt.k zh.k zk1 (fun eo=>?_);have h9:F4 Z.2.1.tt.k=0:=zk0 eo;by_cases e9:K1.F Z.2.1.tt.k=0
        ·exact e9
        ·exact absurd h9 (hF4 _ zh.k e9)
      ·exact⟨G1,AL (AL (AL ⟨e7,⟨zon,zs,(hst4.trans zst).of hrd om,by rw[znx'];exact AM _⟩⟩))⟩
    ·rw[AI (by rw[e7];decide),e7] at hrd ⊢;rw[AJ (show (7:Nat)≠8 by decide)] at hrd ⊢;rw[eK] at hrd ⊢;have alk:YU K1 { K1 with s:=s' }:=⟨hch,rfl,rfl,rfl,rfl,rfl,rfl,rfl,rfl,rfl,rfl,rfl,⟨rfl,rfl,rfl,rfl,rfl,rfl⟩⟩;refine⟨⟨sfm',srt',fun e=>sfd'.trans e⟩,G1,AL (AL (AL ⟨rfl,⟨on',hsit1.alk alk wf',?_,?_⟩⟩))⟩
     ·exact⟨hstp1.a,hstp1.z,hstp1.fl,hstp1.lv,hstp1.l24,hstp1.vs,hb.kee.fx.trans ⟨rfl,rfl,rfl,rfl,rfl,rfl⟩,hstp1.b3,hstp1.bd,hstp1.nx,hrd.mono om⟩
     ·show K1.nx<=K.nx+1;have:=hb.kee.nx;omega
  ·rw[AJ (show (8:Nat)≠0 by decide)] at hrd ⊢;refine⟨⟨sfm',srt',fun e=>sfd'.trans e⟩,G1,AL (AK ⟨rfl,⟨on1,hb.sit,hit,hstp1.mono om,by rw[hb.kee.nx];omega,hdd1,?_,by rw[hF1];exact h0,by rw[hF1];exact h3,?_,hb.kee.nf,hdk hit.o⟩⟩)⟩
   ·rw[hit.o,AJ rfl] at hfre1;exact hfre1
   ·exact hT.imp (fun t=>t.kee hb.kee.b3 hb.gc.1) (fun t=>sfd'.trans t)
  ·rw[AJ (show (7:Nat)≠0 by decide)] at hrd ⊢;exact⟨⟨sfm',srt',fun e=>sfd'.trans e⟩,G1,AL (AL (AL ⟨rfl,⟨off1,hb.sit,hstp1.mono om,by rw[hb.kee.nx];omega⟩⟩))⟩
end
section
variable {b:Nat}{K:BH}{G:Bk}{X:Nat->Prop}
def Nf (K K':BH):Prop:=∀b,b<12->(K.F b≠0->K'.F b≠0)/\(K.F b=2->K'.F b=2)
theorem Nf.refl(K:BH):Nf K K:=fun _ _=>⟨id,id⟩
theorem Nf.trans{K' K'':BH}(h:Nf K K')(k:Nf K' K''):Nf K K'':=fun b hb=>⟨fun e=>(k b hb).1 ((h b hb).1 e),fun e=>(k b hb).2 ((h b hb).2 e)⟩
def Sq (j:Nat) (K:BH):Prop:=K.nx+32+j<=IE+8*bad3 K.F
def wM (b:Nat):Nat:=200*4 ^ (3 - b)
theorem LK(b:Nat):200<=wM b:=by
 unfold wM;have:0<4 ^ (3 - b):=Nat.pow_pos dc;omega
theorem DX{c:Nat}(h:b<=c):wM c<=wM b:=by
 unfold wM;exact Nat.mul_le_mul_left 200 (Nat.pow_le_pow_right dc om)
theorem NO(h:b<=2):wM b=4*wM (b+1):=by
 rcases(by omega:b=0\/b=1\/b=2) with rfl | rfl | rfl <;> rfl
def oI (K:BH) (G:Bk) (Z:BH × Nat):Prop:=∃G' X' d,Sit Z.1 G' X'/\Stp (2*wM (bad3 K.F)) d K Z.1 G G' /\
 ((Z.2=0/\Z.1.s.on=true/\(∀b,¬ X' b)/\Told Z.1 G'/\Rm 0 Z.1/\Z.1.dd=false/\Z.1.nx<=K.nx+1+8*d/\Nf K Z.1) \/
  (Z.2=14/\Z.1.s.on=true/\Z.1.dd=true/\Z.1.nx<=K.nx+1+8*d) \/
  (Z.2=7/\Z.1.s.on=false/\Z.1.nx<=K.nx+2+8*d))
def dG (te:Kz) (b0:Nat):Prop:=∀K G,Sit K G No->K.s.on=true->b0<=bad3 K.F->(K.dd=false->Rm 1 K)->Sq 1 K->∃Z,te K=some Z/\oI K G Z
theorem jN(K:BH)(b:Int):∃F' fr' d',spK K b={ K with F:=F',fr:=fr',dd:=d' }:=by
 obtain⟨F',fr',e⟩:=Iy K b;unfold spK stK;rw[e];exact⟨_,_,_,rfl⟩
theorem jO(h:Sit K G X)(hb:b<12){x:Nat}(hx:x≠b):(K.F x≠0->(spK K b).F x≠0)/\(K.F x=2->(spK K b).F x=2):=by
 have e:(spK K b).F x=(lvK K b).F x:=by
  show AD.setF (lvK K b).F b 3 x=_;rw[Dk hb dc (AL rfl),BT _ _ hx]
 rw[e];unfold lvK;split
 ·cases eo:K.fr.o
  ·rw[DW eo];exact⟨id,id⟩
  ·rw[h.clK_eq eo];show (K.F x≠0->upd K.F K.fr.k 2 x≠0)/\(K.F x=2->upd K.F K.fr.k 2 x=2);rcases BX K.F K.fr.k x 2 with ⟨_,e⟩ | ⟨_,e⟩ <;> rw[e]
   ·exact⟨fun _=>dc,fun _=>rfl⟩
   ·exact⟨id,id⟩
 ·exact⟨id,id⟩
theorem Sit.spoS{Y:Nat->Prop}(h:Sit K G X)(hb:b<12)(h3:K.F b≠3)(hl:(∀o,o<25->K.L o≠-1->(K.L o).toNat / 8≠b)\/2<=bad3 K.F)(hY:∀x,x<12->X x->x=b\/Y x):Sit (spK K b) G Y/\Stp 0 1 K (spK K b) G G/\(spK K b).nx=K.nx/\(spK K b).s=K.s/\RdB 0 K (spK K b):=by
 obtain⟨s1,b1,-,q1,-,-⟩:=h.spo hb h3 hl hY;have hr:=jI K (b:Nat);obtain⟨F',fr',d',e⟩:=jN K (b:Nat);rw[e] at s1 b1 q1 hr ⊢;exact⟨s1,⟨rfl,rfl,rfl,fun _ _=>Iff.rfl,id,fun _ _=>rfl,⟨rfl,rfl,rfl,rfl,rfl,rfl⟩,fun x hx e2=>(q1 x hx).2 (AK e2),b1,AM _,hr⟩,rfl,rfl,hr⟩
structure mJ (K K':BH) (G G':Bk) (S:Bm) (V n:Nat) (d:Nat):Prop where
 on:K'.s.on=true
 sit:Sit K' G' No
 told:Told K' G'
 st:K'.F V=0\/K'.F V=3
 none:∀o,o<25->K'.L o≠-1->(K'.L o).toNat / 8≠V
 stp:Stp (wM (bad3 K.F)) d K K' G G'
 nx:(d=0/\K'.nx=K.nx)\/K'.nx+1<=K.nx+8*d
 dd:K'.dd=false
 rm:Rm 0 K'
 gc:d=0->K.F V≠3->(K'.fr.o=true/\K'.fr.i<=n)\/((K'.fr=K.fr\/K'.fr=noF)/\fre K'.F=fre K.F+1)
 fd:S.fd=true->K.F V=2->d≠0/\K'.fr.o=true/\K'.fr.i<=7/\∀b,b<12->(K.F b≠0->K'.F b≠0)/\(b≠V->K.F b=2->K'.F b=2)
structure nU (K K':BH) (G G':Bk) (S':Bm) (X':Nat->Prop) (d:Nat):Prop where
 on:K'.s.on=true
 sit:Sit K' G' X'
 w:K'.dd=true\/(S'.fd=true/\bad3 K'.F=2/\K'.F S'.fm≠3)
 stp:Stp (wM (bad3 K.F)) d K K' G G'
 nx:K'.nx<=K.nx+8*d
structure nB (K K':BH) (G G':Bk) (X':Nat->Prop) (d:Nat):Prop where
 off:K'.s.on=false
 sit:Sit K' G' X'
 stp:Stp (wM (bad3 K.F)) d K K' G G'
 nx:K'.nx<=K.nx+1+8*d
def oJ (K:BH) (G:Bk) (S:Bm) (n:Nat) (Z:BH × Bm × Nat):Prop:=
 Z.2.1.fm=S.fm/\(S.fd=true->Z.2.1.fd=true)/\∃G' X' d,(Z.2.2=0/\mJ K Z.1 G G' S S.fm n d)\/(Z.2.2=14/\nU K Z.1 G G' Z.2.1 X' d)\/(Z.2.2=7/\nB K Z.1 G G' X' d)
theorem Sf(hb:b<12):PM K (b:Nat)=decide (K.F b=3):=by
 unfold PM AD.getC AD.getV;rw[AI om,AI om,AP];simp
theorem Pc{te:Kz}{b0:Nat}(hte:dG te b0):∀(n:Nat) (K:BH) (G:Bk) (S:Bm),Sit K G No->K.s.on=true->S.fm<12->K.F S.fm≠0->K.dd=false->Rm 0 K->(Told K G\/(S.fd=true/\K.F S.fm≠3))->Sq 0 K->4<=n+bad3 K.F->b0<=bad3 K.F+1->∃Z,trK te n K S=some Z/\oJ K G S ((AC.ofL K.L S.fm).length) Z:=by
 intro n
 induction n with
 | zero=>
  intro K G S h _ _ _ hdd _ _ _ hn _;have:¬ 2<bad3 K.F:=fun e=>by have:=h.dds.2 e;rw[hdd] at this;cases this
  omega
 | succ n ih=>
  intro K G S h hon hfm h0 hdd hrm hT hsq hn hb0;have hbd2:bad3 K.F<=2:=by
   have:¬ 2<bad3 K.F:=fun e=>by have:=h.dds.2 e;rw[hdd] at this;cases this
   omega
  have wp:=LK (bad3 K.F);have ws:=NO hbd2;rw[PS,Sf hfm];by_cases h3:K.F S.fm=3
  ·rw[AO h3,AJ rfl];have hTK:Told K G:=hT.elim id (fun x=>absurd h3 x.2);have hnone:∀o,o<25->K.L o≠-1->(K.L o).toNat / 8≠S.fm:=fun o ho hL e=>by
    have:=(h.blk o ho hL).2;rw[e] at this;rw[this h3] at hdd;cases hdd
   exact⟨_,rfl,rfl,id,G,No,0,AK ⟨rfl,⟨hon,h,hTK,AL h3,hnone,(Stp.refl K G).mono om,AK ⟨rfl,rfl⟩,hdd,hrm,fun _ e=>absurd h3 e,fun _ e=>by rw[h3] at e;exact absurd e dc⟩⟩⟩
  ·rw[AN h3,AI dc];have hnx:K.nx<IE:=(by unfold Sq at hsq;omega);obtain⟨⟨zf,zr,zd⟩,G1,hty⟩:=Pa h hon hfm h0 h3 hdd hrm (hT.imp id (fun x=>x.1)) hnx;generalize tyK K S=X at *
   rcases hty with ⟨e0,d,hd,D⟩ | ⟨e8,F⟩ | ⟨e14,W⟩ | ⟨e7,C⟩
   ·rw[AJ (by rw[e0];decide)];refine⟨_,rfl,zf,zd,G1,No,d,AK ⟨e0,⟨D.on,D.sit,D.told,D.st,D.none,D.stp.mono om,?_,D.dd,D.rm,fun e _=>D.gc e,fun e _=>?_⟩⟩⟩
    ·have:=D.nx;have:=D.stp.nx;rcases(by omega:d=0\/d=1) with rfl | rfl
     ·exact AK ⟨rfl,om⟩
     ·exact AL om
    ·obtain⟨a,b,c⟩:=D.fd e;exact⟨a,b,c,D.nf a⟩
   ·rw[AI (by rw[e8];decide)];have hbl:AB.blV X.2.1.tt=(X.2.1.tt.k:Nat):=(by unfold AB.blV;rw[F.hit.o];rfl);rw[hbl];have hD3:X.1.F X.2.1.tt.k≠3:=(by rw[F.hit.F];decide);obtain⟨s2,st2,n2,on2,hspr⟩:=F.sit.spoS (Y:=fun _=>False) F.hit.k hD3 (AK F.hit.none) (fun x _ e=>AK e.2);obtain⟨-,b2,f2,q2,d2,-⟩:=F.sit.spo (Y:=fun _=>False) F.hit.k hD3 (AK F.hit.none) (fun x _ e=>AK e.2);have hnf:=fun {x:Nat} (hx:x≠X.2.1.tt.k)=>jO F.sit F.hit.k hx;have hbF:=F.stp.bd;have hFf:=F.fre;have hFn:=F.nx;rw[AI (show ¬ X.1.F X.2.1.tt.k=0 by rw[F.hit.F];decide)] at f2;generalize spK X.1 (X.2.1.tt.k:Nat)=K2 at *
    have hsq2:Sq 1 K2:=(by unfold Sq at hsq ⊢;omega);obtain⟨Y,hY,G3,X3,d3,s3,st3,hy⟩:=hte K2 G1 s2 (by rw[on2];exact F.on) om (fun _=>by unfold Rm at hrm ⊢;omega) hsq2;rw[hY];have hbK2:bad3 K2.F=bad3 K.F+1:=om;have hst:Stp (20+2*wM (bad3 K.F+1)) (1+d3) K Y.1 G G3:=by
     have:=(F.stp.trans st2).trans st3;have e:0+1+d3=1+d3:=om;rw[e,hbK2] at this;exact this.mono om
    have wq:=LK (bad3 K.F+1);have hbY:=hst.bd;have hvne:S.fm≠X.2.1.tt.k:=(by rw[<-zf];exact fun e=>F.hit.ne e.symm);rcases hy with ⟨y0,yon,yX,yT,yR,yd,yn,yf⟩ | ⟨y14,yon,yd,yn⟩ | ⟨y7,yoff,yn⟩
    ·dsimp only;rw[AI (by rw[y0];decide)];have hv0:Y.1.F X.2.1.fm≠0:=by
      refine(yf _ (by rw[zf];exact hfm)).1 ((hnf ?_).1 F.v0);rw[zf];exact hvne
     have wY:=DX (show bad3 K.F+1<=bad3 Y.1.F by omega);obtain⟨Z,hZ,wf',wd',G4,X4,d4,hz⟩:=ih Y.1 G3 X.2.1 (s3.mono (fun b _ x=>absurd x (yX b))) yon (by rw[zf];exact hfm) hv0 yd yR (AK yT) (by unfold Sq at hsq ⊢;omega) om om;refine⟨Z,hZ,wf'.trans zf,fun e=>wd' (zd e),G4,X4,1+d3+d4,?_⟩;rcases hz with ⟨c0,M⟩ | ⟨c14,M⟩ | ⟨c7,M⟩
     ·have M':mJ Y.1 Z.1 G3 G4 X.2.1 S.fm ((AC.ofL Y.1.L X.2.1.fm).length) d4:=(by rw[<-zf];exact M);have hn4:Z.1.nx<=Y.1.nx+8*d4:=by rcases M.nx with ⟨_,e⟩ | e <;> omega
      refine AK ⟨c0,⟨M'.on,M'.sit,M'.told,M'.st,M'.none,(hst.trans M'.stp).mono om,AL om,M'.dd,M'.rm,fun e=>absurd e om,fun e1 e2=>?_⟩⟩;have g1:X.1.F S.fm=2:=(F.nf _ hfm).2 e2;have g2:K2.F S.fm=2:=(hnf hvne).2 g1;have g3:Y.1.F S.fm=2:=(yf _ hfm).2 g2;obtain⟨a,b,c,f⟩:=M'.fd (zd e1) g3;refine⟨om,b,c,fun x hx=>⟨fun e=>(f x hx).1 ((yf x hx).1 ?_),fun hv e=>(f x hx).2 hv ((yf x hx).2 ?_)⟩⟩
      ·by_cases ex:x=X.2.1.tt.k
       ·have:=(q2 x hx).2 (AL ex);rw[this];decide
       ·exact(hnf ex).1 ((F.nf x hx).1 e)
      ·have ex:x≠X.2.1.tt.k:=fun ex=>by
        have:=F.dk;rw[<-ex,e] at this;exact absurd this dc
       exact(hnf ex).2 ((F.nf x hx).2 e)
     ·have hM:=M.nx;exact AL (AK ⟨c14,⟨M.on,M.sit,M.w,(hst.trans M.stp).mono om,om⟩⟩)
     ·have hM:=M.nx;exact AL (AL ⟨c7,⟨M.off,M.sit,(hst.trans M.stp).mono om,om⟩⟩)
    ·dsimp only;rw[AJ (by rw[y14];decide)];exact⟨_,rfl,zf,zd,G3,X3,1+d3,AL (AK ⟨y14,⟨yon,s3,AK yd,hst.mono om,by show Y.1.nx<=_;omega⟩⟩)⟩
    ·dsimp only;rw[AJ (by rw[y7];decide)];exact⟨_,rfl,zf,zd,G3,X3,1+d3,AL (AL ⟨y7,⟨yoff,s3,hst.mono om,by show Y.1.nx<=_;omega⟩⟩)⟩
   ·rw[AJ (by rw[e14];decide)];exact⟨_,rfl,zf,zd,G1,Xs X.2.1,0,AL (AK ⟨e14,⟨W.on,W.sit,AL ⟨W.fd,W.b2,W.v3⟩,W.stp.mono om,by rw[W.nx];omega⟩⟩)⟩
   ·rw[AJ (by rw[e7];decide)];exact⟨_,rfl,zf,zd,G1,Xs X.2.1,0,AL (AL ⟨e7,⟨C.off,C.sit,C.stp.mono om,C.nx⟩⟩)⟩
end
section
variable {K:BH}{G:Bk}
theorem dH{X:Nat->Prop}(h:Sit K G X)(b:Int):Sit (lvK K b) G X/\Stp 0 0 K (lvK K b) G G/\(lvK K b).nx=K.nx/\(lvK K b).s=K.s/\(lvK K b).dd=K.dd/\fre (lvK K b).F=fre K.F/\(lvK K b).L=K.L/\Nf K (lvK K b)/\(∀x,x<12->(K.F x=3<->(lvK K b).F x=3)):=by
 obtain⟨s1,f1,b1,q1⟩:=h.lv b;have hr:=LJ K b;have hnf:Nf K (lvK K b):=fun x _=>by
  unfold lvK;split
  ·cases eo:K.fr.o
   ·rw[DW eo];exact⟨id,id⟩
   ·rw[h.clK_eq eo];show (K.F x≠0->upd K.F K.fr.k 2 x≠0)/\(K.F x=2->upd K.F K.fr.k 2 x=2);rcases BX K.F K.fr.k x 2 with ⟨_,e⟩ | ⟨_,e⟩ <;> rw[e]
    ·exact⟨fun _=>dc,fun _=>rfl⟩
    ·exact⟨id,id⟩
  ·exact⟨id,id⟩
 obtain⟨F',fr',e⟩:=Iy K b;rw[e] at s1 f1 b1 q1 hr hnf ⊢;exact⟨s1,⟨rfl,rfl,rfl,fun _ _=>Iff.rfl,id,fun _ _=>rfl,⟨rfl,rfl,rfl,rfl,rfl,rfl⟩,fun x hx e2=>(q1 x hx).1 e2,b1,AM _,hr⟩,rfl,rfl,rfl,f1,rfl,hnf,q1⟩
structure oK (K K':BH) (G G':Bk) (X':Nat->Prop) (d:Nat):Prop where
 on:K'.s.on=true
 sit:Sit K' G' X'
 dd:K'.dd=true
 stp:Stp (wM (bad3 K.F)) d K K' G G'
 nx:K'.nx<=K.nx+8*d
def nV (K:BH) (G:Bk) (S:Bm) (n:Nat) (Z:BH × Bm × Nat):Prop:=
 ∃G' X' d,(Z.2.2=0/\mJ K Z.1 G G' S S.fm n d/\(S.fd=true->d≠0/\Z.1.fr.o=true/\Z.1.fr.i<=7/\∀b,b<12->(K.F b≠0->Z.1.F b≠0)/\(b≠S.fm->K.F b=2->Z.1.F b=2)))\/(Z.2.2=14/\oK K Z.1 G G' X' d)\/(Z.2.2=7/\nB K Z.1 G G' X' d)
theorem IA{F:Nat->Int}{b:Nat}{s:Int}(h:F b=s):upd F b s=F:=by
 funext x;unfold upd;split
 ·rename_i e;rw[e,h]
 ·rfl
theorem Yk{te:Kz}{b0:Nat}(hte:dG te b0)(n:Nat){S:Bm}(h:Sit K G No)(hon:K.s.on=true)(hfm:S.fm<12)(h0:K.F S.fm≠0)(h3:K.F S.fm≠3)(hdd:K.dd=false)(hrm:Rm 0 K)(hT:Told K G\/S.fd=true)(hsq:Sq 0 K)(hn:4<=n+bad3 K.F)(hb0:b0<=bad3 K.F+1) :∃Z,moK te n K S=some Z/\nV K G S ((AC.ofL K.L S.fm).length) Z:=by
 have main:∃Z,trK te n (if S.fd then lvK K S.fm else K) S=some Z/\Z.2.1.fm=S.fm/\∃G' X' d,(Z.2.2=0/\mJ K Z.1 G G' S S.fm ((AC.ofL K.L S.fm).length) d/\(S.fd=true->d≠0/\Z.1.fr.o=true/\Z.1.fr.i<=7/\∀b,b<12->(K.F b≠0->Z.1.F b≠0)/\(b≠S.fm->K.F b=2->Z.1.F b=2)))\/(Z.2.2=14/\nU K Z.1 G G' Z.2.1 X' d)\/(Z.2.2=7/\nB K Z.1 G G' X' d):=by
  cases hfd:S.fd
  ·obtain⟨Z,h1,h2,-,h4⟩:=Pc hte n K G S h hon hfm h0 hdd hrm (hT.imp id (fun e=>by rw[hfd] at e;cases e)) hsq hn hb0;obtain⟨G',X',d,h5⟩:=h4;exact⟨Z,h1,h2,G',X',d,h5.imp (fun x=>⟨x.1,x.2,fun e=>by cases e⟩) id⟩
  ·obtain⟨s1,st1,n1,on1,d1,f1,l1,nf1,q1⟩:=dH h (S.fm:Nat);have hF2:(lvK K (S.fm:Nat)).F S.fm=2:=by
    have hs:=h.sts S.fm hfm;by_cases e:K.F S.fm=2
    ·exact(nf1 _ hfm).2 e
    ·have e1:K.F S.fm=1:=om;obtain⟨o1,o2⟩:=(h.opn S.fm hfm).1 e1;unfold lvK;rw[AJ (by unfold AB.blV;rw[o1,o2];rfl),h.clK_eq o1];show upd K.F K.fr.k 2 S.fm=2;rw[o2,Bb]
   have hb1:=st1.bd;generalize lvK K (S.fm:Nat)=K1 at *
   obtain⟨Z,e1,e2,-,G',X',d,e4⟩:=Pc hte n K1 G S s1 (by rw[on1];exact hon) hfm (by rw[hF2];decide) (d1.trans hdd) (by unfold Rm at hrm ⊢;omega) (AL ⟨hfd,by rw[hF2];decide⟩) (by unfold Sq at hsq ⊢;omega) om om;rw[l1] at e4;refine⟨Z,e1,e2,G',X',d,?_⟩;rcases e4 with ⟨c,M⟩ | ⟨c,M⟩ | ⟨c,M⟩
   ·have hfdd:d≠0/\Z.1.fr.o=true/\Z.1.fr.i<=7/\∀b,b<12->(K.F b≠0->Z.1.F b≠0)/\(b≠S.fm->K.F b=2->Z.1.F b=2):=by
     obtain⟨a,b,c',f⟩:=M.fd hfd hF2;exact⟨a,b,c',fun x hx=>⟨fun e=>(f x hx).1 ((nf1 x hx).1 e),fun hv e=>(f x hx).2 hv ((nf1 x hx).2 e)⟩⟩
    refine AK ⟨c,⟨M.on,M.sit,M.told,M.st,M.none,by have:=st1.trans M.stp;rw[AW,AW,hb1] at this;exact this,by have:=M.nx;rw[n1] at this;exact this,M.dd,M.rm,fun e _=>absurd e (M.fd hfd hF2).1,fun _ _=>hfdd⟩,fun _=>hfdd⟩
   ·exact AL (AK ⟨c,⟨M.on,M.sit,M.w,by have:=st1.trans M.stp;rw[AW,AW,hb1] at this;exact this,by have:=M.nx;omega⟩⟩)
   ·exact AL (AL ⟨c,⟨M.off,M.sit,by have:=st1.trans M.stp;rw[AW,AW,hb1] at this;exact this,by have:=M.nx;omega⟩⟩)
 obtain⟨Z,e1,e2,G',X',d,e4⟩:=main;unfold moK;rw[e1];dsimp only;rcases e4 with ⟨c,M,Mf⟩ | ⟨c,M⟩ | ⟨c,M⟩
 ·rw[AI (by rw[c];rintro ⟨_,e⟩;cases e)];exact⟨Z,rfl,G',X',d,AK ⟨c,M,Mf⟩⟩
 ·by_cases hf:Z.2.1.fd=true
  ·rw[AJ ⟨hf,c⟩,e2];have hMn:=M.nx;by_cases h33:Z.1.F S.fm=3
   ·have hd:Z.1.dd=true:=M.w.elim id (fun w=>absurd (e2 ▸ h33) w.2.2);have hlv:lvK Z.1 (S.fm:Nat)=Z.1:=by
     unfold lvK;rw[AI];intro e;unfold AB.blV at e;split at e
     ·rename_i ho;have:Z.1.F S.fm=1:=(M.sit.opn S.fm hfm).2 ⟨ho,om⟩;rw[h33] at this;exact absurd this dc
     ·omega
    have hsp:({ spK Z.1 (S.fm:Nat) with dd:=true }:BH)=Z.1:=by
     unfold spK stK;rw[hlv,Dk hfm dc (AL rfl),IA h33];dsimp only;generalize Z.1=Q at hd;cases Q
     dsimp only at hd;subst hd;rfl
    rw[hsp];exact⟨_,rfl,G',X',d,AL (AK ⟨c,⟨M.on,M.sit,hd,M.stp,hMn⟩⟩)⟩
   ·have hb2:2<=bad3 Z.1.F:=M.w.elim (fun e=>Nat.le_of_lt (M.sit.dds.1 e)) (fun w=>om);obtain⟨s5,st5,n5,on5,r5⟩:=M.sit.spoS (Y:=X') hfm h33 (AL hb2) (fun x _ e=>AL e);obtain⟨-,b5,-,-,d5,-⟩:=M.sit.spo (Y:=X') hfm h33 (AL hb2) (fun x _ e=>AL e);have hdt:=d5.2 hb2;have hsp:({ spK Z.1 (S.fm:Nat) with dd:=true }:BH)=spK Z.1 (S.fm:Nat):=by
     generalize spK Z.1 (S.fm:Nat)=Q at hdt;cases Q
     dsimp only at hdt;subst hdt;rfl
    rw[hsp];refine⟨_,rfl,G',X',d+1,AL (AK ⟨c,⟨by show (spK Z.1 (S.fm:Nat)).s.on=true;rw[on5];exact M.on,s5,hdt,M.stp.trans st5,by show (spK Z.1 (S.fm:Nat)).nx<=_;rw[n5];omega⟩⟩)⟩
  ·rw[AI (fun e=>hf e.1)];have hd:Z.1.dd=true:=M.w.elim id (fun w=>absurd w.1 hf);exact⟨Z,rfl,G',X',d,AL (AK ⟨c,⟨M.on,M.sit,hd,M.stp,M.nx⟩⟩)⟩
 ·rw[AI (by rw[c];rintro ⟨_,e⟩;cases e)];exact⟨Z,rfl,G',X',d,AL (AL ⟨c,M⟩)⟩
end
section
variable {K:BH}{G:Bk}{o w:Nat}{mo:It}{X:Nat->Prop}{F L:Nat->Int}{Z:BH × Nat}
theorem fP(L:Nat->Int):∀k,AC.cL L k<=k
 | 0=>AM _
 | k+1=>by
  have:=fP L k
  unfold AC.cL
  split <;> omega
theorem li:∀n,n<=12->(∀b,b<12->F b=2->4<=(AC.ofL L b).length)->4*AD.cnt F 2 n<=AC.cP L (8*n)
 | 0,_,_=>Ac _
 | n+1,hn,h=>by
  have ih:=li n om h
  have e:AC.cP L (8*(n+1))=AC.cP L (8*n)+(AC.ofL L n).length:=AC.eu L n 8
  rw[e]
  unfold AD.cnt
  split
  ·
   rename_i c
   have:=h n om c
   omega
  ·
   omega
theorem jP(hL:AC.GK L)(h7:7<=AD.cnt F 2 12):AH.chC 12 12 F (fun k=>(AC.lvK L 96 k:Nat))=0/\AH.chV 12 12 F (fun k=>(AC.lvK L 96 k:Nat))<12/\F (AH.chV 12 12 F (fun k=>(AC.lvK L 96 k:Nat)))=2/\(AC.ofL L (AH.chV 12 12 F (fun k=>(AC.lvK L 96 k:Nat)))).length<=3:=by
 have hb:=AH.M8 F (fun k=>((AC.lvK L 96 k:Nat):Int)) 12;cases e:AH.bst F (fun k=>((AC.lvK L 96 k:Nat):Int)) 12 with
 | none=>
  rw[e] at hb;have:∀k,k<=12->AD.cnt F 2 k=0:=by
   intro k
   induction k with
   | zero=>intro _;rfl
   | succ k ih=>intro hk;unfold AD.cnt;rw[ih om,AI (hb k (Ac _) om)]
  have:=this 12 (AM _);omega
 | some b=>
  rw[e] at hb;obtain⟨_,b2,b3,b4,_⟩:=hb;have eo:AH.cE F (fun k=>((AC.lvK L 96 k:Nat):Int))=some b:=e;rw[AH.chC_some eo,AH.chV_some eo];refine⟨rfl,b2,b3,?_⟩;by_cases h4:4<=(AC.ofL L b).length
  ·exfalso;have:=li (F:=F) (L:=L) 12 (AM _) (fun i hi hF=>by
    have:=b4 i (Ac _) hi hF
    dsimp only at this
    rw[AC.Mz L b2,AC.Mz L hi] at this
    omega)
   have h96:=AC.iF hL;have h25:=fP L 25;rw[show 8*12=96 by rfl] at this;omega
  ·omega
theorem MI(s:AB.St)(ho:o<25):AB.rmV s o=true<->s.o=true/\s.i<8/\(o=24\/s.i<6):=by
 unfold AB.rmV AB.nxC;rw[decide_eq_true_iff,AI om];cases s.o
 ·simp
 ·rw[AI dc];by_cases c:s.i<8/\((o:Int)=24\/s.i<6)
  ·rw[AJ c];exact⟨fun _=>⟨rfl,c.1,c.2.imp (fun e=>om) id⟩,fun _=>rfl⟩
  ·rw[AI c];refine⟨fun e=>(by cases e),fun e=>absurd ⟨e.2.1,e.2.2.imp (fun x=>om) id⟩ c⟩
def RJ (mo:It) (bb:Nat):Prop:=∀K G S,Sit K G No->K.s.on=true->S.fm<12->K.F S.fm≠0->K.F S.fm≠3->K.dd=false->Rm 0 K->(Told K G\/S.fd=true)->Sq 0 K->bb<=bad3 K.F->∃Z,mo K S=some Z/\nV K G S ((AC.ofL K.L S.fm).length) Z
def Zv (K:BH) (G:Bk) (o w:Nat) (Z:BH × Nat):Prop:=∃G' X' d,Sit Z.1 G' X'/\Stp w d K Z.1 G G' /\
 ((Z.2=0/\Z.1.s.on=true/\(∀b,¬ X' b)/\Z.1.dd=false/\Rm 0 Z.1/\AB.rmV Z.1.fr o=true/\(Told K G->Told Z.1 G')/\((d=0/\Z.1.nx=K.nx)\/Z.1.nx+1<=K.nx+8*d)) \/
  (Z.2=14/\Z.1.s.on=true/\Z.1.dd=true/\Z.1.nx<=K.nx+8*d) \/
  (Z.2=7/\Z.1.s.on=false/\Z.1.nx<=K.nx+1+8*d))
theorem Zv.cons{K1:BH}{G1:Bk}{w1 d1:Nat}(h:Zv K1 G1 o w Z)(st:Stp w1 d1 K K1 G G1)(hT:Told K G->Told K1 G1)(hn:(d1=0/\K1.nx=K.nx)\/K1.nx+1<=K.nx+8*d1):Zv K G o (w1+w) Z:=by
 obtain⟨G',X',d,s,st2,hx⟩:=h;refine⟨G',X',d1+d,s,st.trans st2,?_⟩;rcases hx with ⟨a1,a2,a3,a4,a5,a6,a7,a8⟩ | ⟨a1,a2,a3,a4⟩ | ⟨a1,a2,a3⟩
 ·refine AK ⟨a1,a2,a3,a4,a5,a6,fun t=>a7 (hT t),?_⟩;rcases hn with ⟨rfl,e⟩ | e <;> rcases a8 with ⟨rfl,e2⟩ | e2
  ·exact AK ⟨rfl,e2.trans e⟩
  ·exact AL om
  ·exact AL om
  ·exact AL om
 ·exact AL (AK ⟨a1,a2,a3,by rcases hn with ⟨rfl,e⟩ | e <;> omega⟩)
 ·exact AL (AL ⟨a1,a2,by rcases hn with ⟨rfl,e⟩ | e <;> omega⟩)
theorem Zv.mono{w':Nat}(h:Zv K G o w Z)(e:w<=w'):Zv K G o w' Z:=by
 obtain⟨G',X',d,s,st2,hx⟩:=h;exact⟨G',X',d,s,st2.mono e,hx⟩
theorem NP(h:Sit K G No)(hon:K.s.on=true)(hdd:K.dd=false)(hrm:Rm 0 K)(hr:AB.rmV K.fr o=true)(n:Nat):mrK mo (n+1) K o=some (K,0)/\Zv K G o 0 (K,0):=by
 refine⟨by rw[mrK,AJ hr],G,No,0,h,Stp.refl K G,AK ⟨rfl,hon,fun _=>id,hdd,hrm,hr,id,AK ⟨rfl,rfl⟩⟩⟩
theorem Sit.clS(h:Sit K G X):Sit (clK K) G X/\Stp 0 0 K (clK K) G G/\(clK K).nx=K.nx/\(clK K).s=K.s/\(clK K).dd=K.dd/\fre (clK K).F=fre K.F/\(clK K).fr.o=false/\(∀b,b<12->(K.F b=3<->(clK K).F b=3))/\Nf K (clK K)/\(clK K).L=K.L:=by
 obtain⟨s1,f1,b1,o1,q1⟩:=h.cl;have hr:=RG K;have hnf:Nf K (clK K):=fun x _=>by
  cases eo:K.fr.o
  ·rw[DW eo];exact⟨id,id⟩
  ·rw[h.clK_eq eo];show (K.F x≠0->upd K.F K.fr.k 2 x≠0)/\(K.F x=2->upd K.F K.fr.k 2 x=2);rcases BX K.F K.fr.k x 2 with ⟨_,e⟩ | ⟨_,e⟩ <;> rw[e]
   ·exact⟨fun _=>dc,fun _=>rfl⟩
   ·exact⟨id,id⟩
 have e:∃F' fr',clK K={ K with F:=F',fr:=fr' }:=by
  unfold clK;split
  ·exact⟨_,_,rfl⟩
  ·exact⟨K.F,K.fr,rfl⟩
 obtain⟨F',fr',e⟩:=e;rw[e] at s1 f1 b1 o1 q1 hr hnf ⊢;exact⟨s1,⟨rfl,rfl,rfl,fun _ _=>Iff.rfl,id,fun _ _=>rfl,⟨rfl,rfl,rfl,rfl,rfl,rfl⟩,fun x hx e2=>(q1 x hx).1 e2,b1,AM _,hr⟩,rfl,rfl,rfl,f1,o1,q1,hnf,rfl⟩
theorem Sit.opS(h:Sit K G X)(ho:K.fr.o=false)(hf:1<=fre K.F):(opK K).2=0/\Sit (opK K).1 G X/\Stp 0 0 K (opK K).1 G G/\(opK K).1.nx=K.nx/\(opK K).1.s=K.s/\(opK K).1.dd=K.dd/\fre (opK K).1.F+1=fre K.F/\(opK K).1.fr.o=true/\(opK K).1.fr.i=0/\(∀b,b<12->(K.F b=3<->(opK K).1.F b=3))/\Nf K (opK K).1:=by
 obtain⟨e0,s1,f1,b1,o1,q1,F',e⟩:=h.op ho hf;have hr:=jJ K;obtain⟨t1,t2,t3⟩:=Iw h.wf.frm hf;have hnf:Nf K (opK K).1:=fun x hx=>by
  have eo:(opK K).1.F=AD.tkF K.F 0 (tkM K.F):=by unfold opK;rw[AJ t1]
  rw[eo,Fu _ hx];rcases BX K.F (tkM K.F) x 1 with ⟨e1,e2⟩ | ⟨_,e2⟩ <;> rw[e2]
  ·rw[e1,t3];exact⟨fun e=>absurd rfl e,fun e=>absurd e dc⟩
  ·exact⟨id,id⟩
 rw[e] at s1 f1 b1 o1 q1 hr hnf ⊢;exact⟨e0,s1,⟨rfl,rfl,rfl,fun _ _=>Iff.rfl,id,fun _ _=>rfl,⟨rfl,rfl,rfl,rfl,rfl,rfl⟩,fun x hx e2=>(q1 x hx).1 e2,b1,AM _,hr⟩,rfl,rfl,rfl,f1,rfl,rfl,q1,hnf⟩
theorem RK(hb:bad3 K.F<=2):LA K=true<->5<fre K.F+2*bad3 K.F:=by
 unfold LA AD.XM;rw[AI (by unfold bad3 at hb;omega),decide_eq_true_iff];unfold fre bad3 at *
 omega
theorem jQ(h:Sit K G X)(ho:K.fr.o=false):AD.cnt K.F 1 12=0:=by
 have:∀k,k<=12->AD.cnt K.F 1 k=0:=by
  intro k
  induction k with
  | zero=>intro _;rfl
  | succ k ih=>
   intro hk;unfold AD.cnt;rw[ih om,AI];intro e;have:=((h.opn k om).1 e).1;rw[ho] at this;cases this
 exact this 12 (AM _)
theorem Sg(h:Sit K G No)(hon:K.s.on=true)(hdd:K.dd=false)(ho25:o<25)(hr:¬ AB.rmV K.fr o=true)(hs:LA (clK K)=true)(hb:bad3 K.F<=2)(n:Nat):∃Z,mrK mo (n+2) K o=some Z/\Zv K G o 0 Z:=by
 obtain⟨s1,st1,n1,on1,d1,f1,o1,q1,-,-⟩:=h.clS;have hb1:bad3 (clK K).F=bad3 K.F:=st1.bd;have hs':=(RK om).1 hs;obtain⟨e2,s2,st2,n2,on2,d2,f2,o2,i2,q2,-⟩:=s1.opS o1 om;have e:mrK mo (n+2) K o=mrK mo (n+1) (opK (clK K)).1 o:=by
  rw[mrK,AI hr];dsimp only;rw[AJ hs,AI (by rw[e2];decide)]
 have hb2:=st2.bd;generalize (opK (clK K)).1=K2 at *
 generalize clK K=K1 at *
 have hrm2:AB.rmV K2.fr o=true:=(MI _ ho25).2 ⟨o2,om,AL om⟩;obtain⟨e3,m3⟩:=NP (mo:=mo) s2 (by rw[on2,on1];exact hon) (d2.trans (d1.trans hdd)) (by unfold Rm;omega) hrm2 n;refine⟨(K2,0),e.trans e3,?_⟩;have:=(m3.cons st2 (fun t=>t.kee q2 rfl) (AK ⟨rfl,n2⟩)).cons st1 (fun t=>t.kee q1 rfl) (AK ⟨rfl,n1⟩);exact this
theorem Yl{bb:Nat}(hmo:RJ mo bb)(ho25:o<25):∀(n:Nat) (K:BH) (G:Bk),Sit K G No->K.s.on=true->K.dd=false->Rm 0 K->(Told K G\/AB.rmV K.fr o=true)->Sq 0 K->5<=n+bad3 K.F->bb<=bad3 K.F->∃Z,mrK mo n K o=some Z/\Zv K G o (n*wM (bad3 K.F)) Z:=by
 intro n
 induction n with
 | zero=>
  intro K G h _ hdd _ _ _ hn _;have:¬ 2<bad3 K.F:=fun e=>by have:=h.dds.2 e;rw[hdd] at this;cases this
  omega
 | succ n ih=>
  intro K G h hon hdd hrm hT hsq hn hbb;have hbd2:bad3 K.F<=2:=by
   have:¬ 2<bad3 K.F:=fun e=>by have:=h.dds.2 e;rw[hdd] at this;cases this
   omega
  by_cases hr:AB.rmV K.fr o=true
  ·obtain⟨e,m⟩:=NP (mo:=mo) h hon hdd hrm hr n;exact⟨_,e,m.mono (Ac _)⟩
  ·have hTK:Told K G:=hT.resolve_right hr;obtain⟨m,rfl⟩:∃m,n=m+1:=⟨n - 1,om⟩;by_cases hs:LA (clK K)=true
   ·obtain⟨Z,e,m2⟩:=Sg (mo:=mo) h hon hdd ho25 hr hs hbd2 m;exact⟨Z,e,m2.mono (Ac _)⟩
   ·obtain⟨s1,st1,n1,on1,d1,f1,o1,q1,-,l1⟩:=h.clS;have hb1:bad3 (clK K).F=bad3 K.F:=st1.bd;have hs':¬ 5<fre (clK K).F+2*bad3 (clK K).F:=fun e=>hs ((RK om).2 e);have hc1:=jQ s1 o1;have hsum:=AD.SH (clK K).F 12 (fun i hi=>s1.sts i hi);have h7:7<=AD.cnt (clK K).F 2 12:=by
     unfold Rm at hrm;unfold fre bad3 at *
     omega
    obtain⟨v1,v2,v3,v4⟩:=jP s1.wf.map h7;have elv:lvF (clK K)=fun k=>((AC.lvK (clK K).L 96 k:Nat):Int):=rfl;rw[<-elv] at v1 v2 v3 v4;have hTc:Told (clK K) G:=hTK.kee q1 rfl;obtain⟨Y,eY,G2,X2,d2,hY⟩:=hmo (clK K) G (nwS (AH.chV 12 12 (clK K).F (lvF (clK K))) false false) s1 (by rw[on1];exact hon) v2 (by show (clK K).F (AH.chV 12 12 (clK K).F (lvF (clK K)))≠0;rw[v3];decide) (by show (clK K).F (AH.chV 12 12 (clK K).F (lvF (clK K)))≠3;rw[v3];decide) (d1.trans hdd) (by unfold Rm at hrm ⊢;omega) (AK hTc) (by unfold Sq at hsq ⊢;omega) om;have eall:mrK mo (m+1+1) K o=if Y.2.2≠0 then some (Y.1,Y.2.2) else mrK mo (m+1) Y.1 o:=by
     rw[mrK,AI hr];dsimp only;rw[AI hs,AI (by rw[v1];decide),eY]
    rw[eall];have hwe:wM (bad3 (clK K).F)=wM (bad3 K.F):=(by rw[hb1]);rcases hY with ⟨c0,M,-⟩ | ⟨c14,M⟩ | ⟨c7,M⟩
    ·rw[AI (by rw[c0];decide)];have hMst:=M.stp;rw[hwe] at hMst;have hst:Stp (wM (bad3 K.F)) d2 K Y.1 G G2:=by
      have:=st1.trans hMst;rw[AW,AW] at this;exact this
     have hnxM:=M.nx;rw[n1] at hnxM;have hbY:=hst.bd;have hcount:(m+1+1)*wM (bad3 K.F)=wM (bad3 K.F)+(m+1)*wM (bad3 K.F):=(by rw[Nat.add_mul (m+1) 1,Nat.one_mul,Nat.add_comm]);by_cases hd0:d2=0
     ·have hv3':(clK K).F (nwS (AH.chV 12 12 (clK K).F (lvF (clK K))) false false).fm≠3:=by
       show (clK K).F (AH.chV 12 12 (clK K).F (lvF (clK K)))≠3;rw[v3];decide
      rcases M.gc hd0 hv3' with ⟨g1,g2⟩ | ⟨g1,g2⟩
      ·have hi3:Y.1.fr.i<=3:=AY g2 v4;obtain⟨e3,m3⟩:=NP (mo:=mo) M.sit M.on M.dd M.rm ((MI _ ho25).2 ⟨g1,om,AL om⟩) m;refine⟨_,e3,?_⟩;rw[hcount];exact(m3.cons hst (fun _=>M.told) hnxM).mono om
      ·have hfo:Y.1.fr.o=false:=by
        rcases g1 with e | e
        ·rw[e];exact o1
        ·rw[e];rfl
       have hnr:¬ AB.rmV Y.1.fr o=true:=fun e=>by
        have:=((MI _ ho25).1 e).1;rw[hfo] at this;cases this
       have hsp:LA (clK Y.1)=true:=by
        rw[DW hfo];refine(RK om).2 ?_;unfold Rm at hrm;omega
       obtain⟨k,rfl⟩:∃k,m=k+1:=⟨m - 1,om⟩;obtain⟨Z,e3,m3⟩:=Sg (mo:=mo) M.sit M.on M.dd ho25 hnr hsp om k;refine⟨Z,e3,?_⟩;rw[hcount];exact(m3.cons hst (fun _=>M.told) hnxM).mono om
     ·have hnx':Y.1.nx+1<=K.nx+8*d2:=hnxM.elim (fun e=>absurd e.1 hd0) id;obtain⟨Z,e3,m3⟩:=ih Y.1 G2 M.sit M.on M.dd M.rm (AK M.told) (by unfold Sq at hsq ⊢;omega) om om;refine⟨Z,e3,?_⟩;rw[hcount];have wa:=DX (show bad3 K.F<=bad3 Y.1.F by omega);exact(m3.cons hst (fun _=>M.told) hnxM).mono (Nat.add_le_add_left (Nat.mul_le_mul_left _ wa) _)
    ·rw[AJ (by rw[c14];decide)];have hMst:=M.stp;rw[hwe] at hMst;have hMn:=M.nx;refine⟨_,rfl,G2,X2,d2,M.sit,?_,AL (AK ⟨c14,M.on,M.dd,by show Y.1.nx<=_;omega⟩)⟩;have:=st1.trans hMst;rw[AW,AW] at this;exact this.mono (by have:=Nat.mul_le_mul_right (wM (bad3 K.F)) (show 1<=m+1+1 by omega);omega)
    ·rw[AJ (by rw[c7];decide)];have hMst:=M.stp;rw[hwe] at hMst;have hMn:=M.nx;refine⟨_,rfl,G2,X2,d2,M.sit,?_,AL (AL ⟨c7,M.off,by show Y.1.nx<=_;omega⟩)⟩;have:=st1.trans hMst;rw[AW,AW] at this;exact this.mono (by have:=Nat.mul_le_mul_right (wM (bad3 K.F)) (show 1<=m+1+1 by omega);omega)
end
section
variable {K:BH}{G:Bk}{o:Nat}{X:Nat->Prop}{H:GS}
theorem Sit.take(h:Sit K G X)(ho25:o<25)(hr:AB.rmV K.fr o=true) :AB.nxC K.fr o=0/\(AB.nxV K.fr o).toNat=8*K.fr.k+K.fr.i/\AB.tkS K.fr o=⟨true,K.fr.k,K.fr.i+1⟩/\Sit { K with fr:=⟨true,K.fr.k,K.fr.i+1⟩ } G X/\JZ { K with fr:=⟨true,K.fr.k,K.fr.i+1⟩ } (8*K.fr.k+K.fr.i)/\(o=24\/(8*K.fr.k+K.fr.i) % 8<6)/\K.fr.k<12/\K.F K.fr.k=1:=by
 obtain⟨ho,hi8,hi6⟩:=(MI _ ho25).1 hr;obtain⟨k12,kF⟩:=h.frk ho;have hnx:AB.nxC K.fr o=0:=by unfold AB.rmV at hr;exact of_decide_eq_true hr
 have hs:Sit { K with fr:=⟨true,K.fr.k,K.fr.i+1⟩ } G X:=by
  refine h.reF K.F ⟨true,K.fr.k,K.fr.i+1⟩ K.dd (h.wf.F' (fr:=⟨true,K.fr.k,K.fr.i+1⟩) h.wf.frm ⟨k12,by show K.fr.i+1<9;omega⟩ _) h.sts h.frs (fun b hb=>?_) (fun _ i hi h8=>h.frn ho i (by have:K.fr.i+1<=i:=hi;omega) h8) h.blk (fun _ _ e=>e) (fun _ _ e=>AL e) h.dds;have:=h.opn b hb;rw[ho] at this;exact this
 refine⟨hnx,?_,?_,hs,⟨om,AK (by show K.F ((8*K.fr.k+K.fr.i) / 8)=1;rw[show (8*K.fr.k+K.fr.i) / 8=K.fr.k by omega];exact kF),fun _ _=>by show (8*K.fr.k+K.fr.i) % 8<K.fr.i+1;omega,h.frn ho _ (AM _) hi8⟩,hi6.imp id (fun e=>om),k12,kF⟩
 ·unfold AB.nxV;rw[AJ hnx];show (((K.fr.k*8+K.fr.i:Nat):Int)).toNat=_;omega
 ·unfold AB.tkS;rw[AJ hnx];generalize K.fr=st at *
  cases st
  dsimp only at ho;subst ho;rfl
structure nW (K K':BH) (G:Bk):Prop where
 sit:Sit K' G No
 stp:Stp 1 0 K K' G G
 nx:K'.nx=K.nx+1
 dd:K'.dd=K.dd
 F:K'.F=K.F
 fr:K'.fr=⟨true,K.fr.k,K.fr.i+1⟩
structure FrD (H:GS) (K K1:BH) (G:Bk) (o p:Nat) (s':BM) (r':Int) (R':Nat->Int):Prop where
 e:K1={ K with fr:=⟨true,K.fr.k,K.fr.i+1⟩ }
 sit:Sit K1 G No
 spot:JZ K1 p
 h6:o=24\/p % 8<6
 wf:Wf { K1 with s:=s',r:=r',hR:=R',nx:=K1.nx+1 }
 pg:fO K1.s s' G.T ⟨p,o,K1.nx,0,false⟩ (H { K1 with nx:=K1.nx+1 } K1.nx)
def FrL (K1:BH) (o p:Nat) (s':BM) (r':Int) (R':Nat->Int):BH × Nat:=layK (if o=24 then Nd { K1 with s:=s',r:=r',hR:=R',nx:=K1.nx+1 } else { K1 with s:=s',r:=r',hR:=R',nx:=K1.nx+1 }) ⟨p,o,K1.nx,0,false⟩
theorem Sh(hH:∀K q,(H K q).length=174/\Bys (H K q))(h:Sit K G No)(hon:K.s.on=true)(ho25:o<25)(hr:AB.rmV K.fr o=true)(hnx:K.nx<IE) :∃p f,frK H { K with fr:=AB.tkS K.fr o } (AB.nxV K.fr o).toNat o=f/\RdB 1 K f.1/\(AB.nxC K.fr o=0/\K.fr.k<12/\K.F K.fr.k=1) /\((f.2.2=0/\f.1.s.on=true/\∃K1 s' r' R',FrD H K K1 G o p s' r' R'/\layK f.1 f.2.1=FrL K1 o p s' r' R')\/(f.2.2=8/\f.1.s.on=true/\nW K f.1 G)\/(f.2.2=7/\f.1.s.on=false/\nW K f.1 G)):=by
 obtain⟨t1,t2,t3,t4,t5,t6,t7,t8⟩:=h.take ho25 hr;have hrd:RdB 1 K (frK H { K with fr:=⟨true,K.fr.k,K.fr.i+1⟩ } (8*K.fr.k+K.fr.i) o).1:=by
  have h0:RdB 0 K { K with fr:=⟨true,K.fr.k,K.fr.i+1⟩ }:=RdB.same (fun _=>rfl) rfl;exact h0.trans (RH H _ _ o)
 rw[t2,t3];obtain⟨s',r',R',wf,hx⟩:=LG t4.wf t4.sp hnx t4.rep hon t5.lt ho25 t6 t5.er H rfl (hH _ _).1 (hH _ _).2;refine⟨8*K.fr.k+K.fr.i,_,rfl,hrd,⟨t1,t7,t8⟩,?_⟩;rcases hx with ⟨e,k⟩ | ⟨e,k⟩ | ⟨e,k⟩
 ·rw[e];refine AK ⟨rfl,?_,_,s',r',R',⟨rfl,t4,t5,t6,wf,k⟩,rfl⟩;by_cases e24:o=24
  ·rw[AJ e24];exact k.on
  ·rw[AI e24];exact k.on
 ·rw[e] at hrd ⊢;have s4:=t4.pgn k t5 (Nat.le_succ _) wf;exact AL (AK ⟨rfl,k.on,⟨s4,⟨rfl,rfl,rfl,fun _ _=>Iff.rfl,id,fun _ _=>rfl,⟨rfl,rfl,rfl,rfl,rfl,rfl⟩,fun _ _=>id,rfl,Nat.le_succ _,hrd⟩,rfl,rfl,rfl,rfl⟩⟩)
 ·rw[e] at hrd ⊢;have s4:=t4.pgn k t5 (Nat.le_succ _) wf;exact AL (AL ⟨rfl,k.on,⟨s4,⟨rfl,rfl,rfl,fun _ _=>Iff.rfl,id,fun _ _=>rfl,⟨rfl,rfl,rfl,rfl,rfl,rfl⟩,fun _ _=>id,rfl,Nat.le_succ _,hrd⟩,rfl,rfl,rfl,rfl⟩⟩)
theorem DJ(h:Sit K G X):Cy K=K.dd:=by
 unfold Cy;cases e:K.dd
 ·have:¬ 2<bad3 K.F:=fun x=>by have:=h.dds.2 x;rw[e] at this;cases this
  rw[AN this];rfl
 ·rfl
def nX (K:BH) (G:Bk) (w:Nat) (Z:BH × Nat):Prop:=∃G' X' d,Sit Z.1 G' X'/\Stp w d K Z.1 G G' /\
 ((Z.2=14/\Z.1.s.on=true/\Z.1.dd=true/\Z.1.nx<=K.nx+1+8*d)\/(Z.2=7/\Z.1.s.on=false/\Z.1.nx<=K.nx+2+8*d))
theorem Ym{mr:BH->Nat->Option (BH × Nat)}{mo:It}{bb c W:Nat}(hH:∀K q,(H K q).length=174/\Bys (H K q))(ho25:o<25)(hmo:RJ mo bb)(hmr:∀K G,Sit K G No->K.s.on=true->K.dd=false->Rm 0 K->Told K G->Sq 0 K->bb<=bad3 K.F->∃Z,mr K o=some Z/\Zv K G o (c*wM (bad3 K.F)) Z){K0:BH}{G0:Bk}{P:BH × Nat->Prop}(hfin:∀K K1 G d p s' r' R',Sit K G No->K.dd=false->Rm 0 K->Told K G->Stp W d K0 K G0 G->K.nx<=K0.nx+8*d->RdB W K0 (FrL K1 o p s' r' R').1->FrD H K K1 G o p s' r' R'->P (FrL K1 o p s' r' R')) :∀(n:Nat) (K:BH) (G:Bk) (w d:Nat),Sit K G No->K.s.on=true->(K.dd=false->Rm 0 K/\Told K G)->Sq 1 K->1<=n/\4<=n+bad3 K.F->bb<=bad3 K.F->Stp w d K0 K G0 G->K.nx<=K0.nx+8*d->w+2*((c+2)*wM (bad3 K.F))<=W->∃Z,anK mr mo H n K o=some Z/\((Z.1.s.on=true/\P Z)\/nX K0 G0 W Z):=by
 intro n
 induction n with
 | zero=>intro K G w d _ _ _ _ hn;omega
 | succ n ih=>
  intro K G w d h hon hrt hsq hn hbb hst hnx hw;rw[anK,DJ h,h.sp];cases hdd:K.dd
  ·rw[AI (by simp)];obtain⟨hrm,hT⟩:=hrt hdd;have hbd2:bad3 K.F<=2:=by
    have:¬ 2<bad3 K.F:=fun e=>by have:=h.dds.2 e;rw[hdd] at this;cases this
    omega
   have wp:=LK (bad3 K.F);have ws:=NO hbd2;have hQ:(c+2)*wM (bad3 K.F)=c*wM (bad3 K.F)+2*wM (bad3 K.F):=Nat.add_mul _ _ _;obtain⟨x,ex,G2,X2,d2,s2,st2,hx⟩:=hmr K G h hon hdd hrm hT (by unfold Sq at hsq ⊢;omega) hbb;rw[ex];dsimp only;have hst2:=hst.trans st2;have hb2:=st2.bd;rcases hx with ⟨x0,xon,xX,xd,xR,xr,xT,xn⟩ | ⟨x14,xon,xd,xn⟩ | ⟨x7,xoff,xn⟩
   ·have hxn:x.1.nx<=K.nx+8*d2:=by rcases xn with ⟨_,e⟩ | e <;> omega
    have hsq2:Sq 1 x.1:=by
     unfold Sq at hsq ⊢;rcases xn with ⟨e1,e⟩ | e <;> omega
    have s2':Sit x.1 G2 No:=s2.mono (fun b _ y=>absurd y (xX b));have hx2:bad3 x.1.F<=2:=by
     have:¬ 2<bad3 x.1.F:=fun e=>by have:=s2.dds.2 e;rw[xd] at this;cases this
     omega
    obtain⟨p,f,ef,frd,⟨fn,fk,fF⟩,hf⟩:=Sh hH s2' xon ho25 xr (by unfold Sq at hsq2;omega);rw[AI (by rw[x0];decide),ef,AI (by rw[fn];decide)];rcases hf with ⟨f0,fon,K1,s',r',R',fD,fL⟩ | ⟨f8,fon,fF'⟩ | ⟨f7,foff,fF'⟩
    ·rw[AJ f0,fL];refine⟨_,rfl,AK ⟨?_,hfin x.1 K1 G2 (d+d2) p s' r' R' s2' xd xR (xT hT) (hst2.mono om) om ?_ fD⟩⟩
     ·rw[<-fL];exact fon
     ·rw[<-fL];exact((hst2.rd.trans frd).trans (IP f.1 f.2.1)).mono om
    ·rw[AI (by rw[f8];decide),AI (by rw[f8];decide)];have hbl:(AB.blV f.1.fr).toNat=x.1.fr.k:=by
      rw[fF'.fr];unfold AB.blV;rw[AJ rfl,AP]
     rw[hbl];have hfb:bad3 f.1.F=bad3 x.1.F:=(by rw[fF'.F]);have hfx:=fF'.nx;obtain⟨y,ey,G3,X3,d3,hy⟩:=hmo f.1 G2 (nwS x.1.fr.k false true) fF'.sit fon fk (by show f.1.F x.1.fr.k≠0;rw[fF'.F,fF];decide) (by show f.1.F x.1.fr.k≠3;rw[fF'.F,fF];decide) (fF'.dd.trans xd) (by unfold Rm at xR ⊢;rw[fF'.F];exact xR) (AL rfl) (by unfold Sq at hsq2 ⊢;omega) om;rw[ey];dsimp only;have hst3:=hst2.trans fF'.stp;have wa:=DX (show bad3 K.F<=bad3 f.1.F by omega);rcases hy with ⟨c0,M,Mf⟩ | ⟨c14,M⟩ | ⟨c7,M⟩
     ·rw[AI (by rw[c0];decide)];obtain⟨m1,-,-,-⟩:=Mf rfl;have hMn:y.1.nx+1<=f.1.nx+8*d3:=M.nx.elim (fun e=>absurd e.1 m1) id;have hMb:=M.stp.bd;have hst4:=hst3.trans M.stp;have hy2:bad3 y.1.F<=2:=by
       have:¬ 2<bad3 y.1.F:=fun e=>by have:=M.sit.dds.2 e;rw[M.dd] at this;cases this
       omega
      have wb:=DX (show bad3 K.F+1<=bad3 y.1.F by omega);have hQ2:(c+2)*(4*wM (bad3 y.1.F))<=(c+2)*wM (bad3 K.F):=Nat.mul_le_mul_left _ om;have hQ3:(c+2)*(4*wM (bad3 y.1.F))=4*((c+2)*wM (bad3 y.1.F)):=(by rw[<-Nat.mul_assoc,Nat.mul_comm (c+2) 4,Nat.mul_assoc]);exact ih y.1 G3 _ _ M.sit M.on (fun _=>⟨M.rm,M.told⟩) (by unfold Sq at hsq2 ⊢;omega) om om hst4 om om
     ·rw[AJ (by rw[c14];decide)];have hMn:=M.nx;exact⟨_,rfl,AL ⟨G3,X3,_,M.sit,(hst3.trans M.stp).mono om,AK ⟨c14,M.on,M.dd,by show y.1.nx<=_;omega⟩⟩⟩
     ·rw[AJ (by rw[c7];decide)];have hMn:=M.nx;exact⟨_,rfl,AL ⟨G3,X3,_,M.sit,(hst3.trans M.stp).mono om,AL ⟨c7,M.off,by show y.1.nx<=_;omega⟩⟩⟩
    ·rw[AI (by rw[f7];decide),AJ (by rw[f7];decide)];have hfx:=fF'.nx;exact⟨_,rfl,AL ⟨G2,No,_,fF'.sit,(hst2.trans fF'.stp).mono om,AL ⟨f7,foff,by show f.1.nx<=_;omega⟩⟩⟩
   ·rw[AJ (by rw[x14];decide)];exact⟨_,rfl,AL ⟨G2,X2,_,s2,hst2.mono om,AK ⟨x14,xon,xd,om⟩⟩⟩
   ·rw[AJ (by rw[x7];decide)];exact⟨_,rfl,AL ⟨G2,X2,_,s2,hst2.mono om,AL ⟨x7,xoff,om⟩⟩⟩
  ·rw[AJ (AK rfl)];exact⟨_,rfl,AL ⟨G,No,d,h,hst.mono om,AK ⟨rfl,hon,hdd,by show K.nx<=_;omega⟩⟩⟩
end
section
variable {n b:Nat}{K0:BH}{G0:Bk}
theorem Yn{K K1:BH}{G:Bk}{p:Nat}{s':BM}{r':Int}{R':Nat->Int}(f:FrD noH K K1 G 24 p s' r' R')(hdd:K.dd=false) :(FrL K1 24 p s' r' R').2=0/\(FrL K1 24 p s' r' R').1.nx=K.nx+1/\(FrL K1 24 p s' r' R').1.F=K.F/\(FrL K1 24 p s' r' R').1.dd=K.dd/\(FrL K1 24 p s' r' R').1.fr=⟨true,K.fr.k,K.fr.i+1⟩/\(FrL K1 24 p s' r' R').1.L 24≠-1/\(FrL K1 24 p s' r' R').1.ca=0/\∃G',Sit (FrL K1 24 p s' r' R').1 G' No/\Told (FrL K1 24 p s' r' R').1 G'/\∀w,RdB w K (FrL K1 24 p s' r' R').1->Stp w 0 K (FrL K1 24 p s' r' R').1 G G':=by
 obtain⟨e,s1,sp,_,wf,pg⟩:=f;have hfree:=sp.free s1;have hlt:=sp.lt;have hn1:=s1.wf.nx;have hmay:AC.DY ((24:Nat):Int) (p:Int):=⟨⟨om,om⟩,⟨om,om⟩,AK rfl⟩;have hc:AC.setC K1.L ((24:Nat):Int) (p:Int)=0:=by
  unfold AC.setC;rw[AI (fun e=>e hmay),AI (by rw[CM hfree];simp)]
 have hLL:AC.setL K1.L ((24:Nat):Int) (p:Int)=upd K1.L 24 p:=by unfold AC.setL;rw[AJ hc,AP]
 have eL:FrL K1 24 p s' r' R'=({ K1 with s:=s',r:=r',hR:=R',hN:=R',ca:=0,nx:=K1.nx+1,vs:=upd K1.vs 24 K1.nx,vc:=upd K1.vc 24 0,L:=upd K1.L 24 p,fl:=K1.fl },0):=by
  unfold FrL layK Nd;rw[AJ rfl];dsimp only;rw[hc,hLL]
 rw[eL];have w5:Wf { K1 with nx:=K1.nx+1 }:=⟨s1.wf.chip,s1.wf.rr,s1.wf.frm,s1.wf.map,s1.wf.vs,s1.wf.vp,s1.wf.vc,s1.wf.fl,wf.nx,s1.wf.fr,s1.wf.cu,s1.wf.qu,s1.wf.hea,s1.wf.tl⟩;have hck:=EE w5 (q:=K1.nx) hn1;have wfin:Wf { K1 with s:=s',r:=r',hR:=R',hN:=R',ca:=0,nx:=K1.nx+1,vs:=upd K1.vs 24 K1.nx,vc:=upd K1.vc 24 0,L:=upd K1.L 24 p,fl:=K1.fl }:=by
  have w1:=(wf.nt).ver (i:=24) (q:=K1.nx) (c:=0) hn1 dc;refine w1.map' (s1.wf.map.put 24 ⟨om,om⟩ (fun e=>om) (CM hfree)) fun i hi hLi=>?_;show 1<=upd K1.vs 24 K1.nx i;by_cases e:i=24
  ·rw[e];unfold upd;rw[AJ rfl];exact hn1.1
  ·unfold upd;rw[AI e];rw[BT _ _ e] at hLi;exact s1.wf.vp i hi hLi
 have hs:=s1.note (c:=ckK { K1 with nx:=K1.nx+1 } K1.nx) pg sp (by rw[e];exact hdd) (r':=r') (R':=R') (N':=R') (fl':=K1.fl) (L':=upd K1.L 24 p) (a':=G.a) wfin (Bb _ _ _) (fun i hi=>AK ⟨BT _ _ om,rfl,rfl⟩) (fun b _=>decide_eq_true_iff) (fun _ _=>rfl) rfl rfl hck;subst e;refine⟨rfl,rfl,rfl,rfl,rfl,?_,rfl,_,hs,fun b _ e=>AO e,fun w hw=>⟨rfl,rfl,rfl,fun o ho=>?_,fun _=>?_,fun o ho=>?_,⟨rfl,rfl,rfl,rfl,rfl,rfl⟩,fun _ _=>id,rfl,Nat.le_succ _,hw⟩⟩
 ·show upd K.L 24 p 24≠-1;rw[Bb];omega
 ·show upd K.L 24 p o = -1<->K.L o = -1;rw[BT _ _ om]
 ·show upd K.L 24 p 24≠-1;rw[Bb];omega
 ·show upd K.vs 24 K.nx o=K.vs o;unfold upd;rw[AI om]
def oL (K:BH) (G:Bk) (W:Nat) (Z:BH × Nat):Prop:=∃G' X' d,Sit Z.1 G' X'/\Stp W d K Z.1 G G' /\
 ((Z.2=0/\Z.1.s.on=true/\(∀b,¬ X' b)/\Told Z.1 G'/\Rm 0 Z.1/\Z.1.dd=false/\Z.1.nx<=K.nx+1+8*d/\Nf K Z.1) \/
  (Z.2=14/\Z.1.s.on=true/\Z.1.dd=true/\Z.1.nx<=K.nx+1+8*d) \/
  (Z.2=7/\Z.1.s.on=false/\Z.1.nx<=K.nx+2+8*d))
theorem RL:∀K q,(noH K q).length=174/\Bys (noH K q):=fun _ _=>⟨AA.CI _,AA.FA _⟩
theorem Pd{mr:BH->Nat->Option (BH × Nat)}{mo:It}{bb W:Nat}(hmo:RJ mo bb)(hmr:∀K,AB.rmV K.fr 24=true->mr K 24=some (K,0)) :∀(n:Nat) (K:BH) (G:Bk) (w d:Nat),Sit K G No->K.s.on=true->K.dd=false->Rm 0 K->AB.rmV K.fr 24=true->Sq 1 K->1<=n/\4<=n+bad3 K.F->bb<=bad3 K.F->Stp w d K0 K G0 G->K.nx<=K0.nx+8*d->Nf K0 K->w+2*wM (bad3 K.F)<=W->∃Z,anK mr mo noH n K 24=some Z/\oL K0 G0 W Z:=by
 intro n
 induction n with
 | zero=>intro K G w d _ _ _ _ _ _ hn;omega
 | succ n ih=>
  intro K G w d h hon hdd hrm hr hsq hn hbb hst hnx hnf hw;have hbd2:bad3 K.F<=2:=by
   have:¬ 2<bad3 K.F:=fun e=>by have:=h.dds.2 e;rw[hdd] at this;cases this
   omega
  have wp:=LK (bad3 K.F);have ws:=NO hbd2;have wq:=LK (bad3 K.F+1);rw[anK,DJ h,h.sp,hdd,AI (by simp),hmr K hr];dsimp only;obtain⟨p,f,ef,frd,⟨fn,fk,fF⟩,hf⟩:=Sh RL h hon (by decide:(24:Nat)<25) hr (by unfold Sq at hsq;omega);rw[AI dc,ef,AI (by rw[fn];decide)];rcases hf with ⟨f0,fon,K1,s',r',R',fD,fL⟩ | ⟨f8,fon,fF'⟩ | ⟨f7,foff,fF'⟩
  ·rw[AJ f0,fL];obtain⟨n1,n2,n3,n4,n5,n6,n7,G',n8,n9,n10⟩:=Yn fD hdd;have hon':(FrL K1 24 p s' r' R').1.s.on=true:=(by rw[<-fL];exact fon);have hrd:RdB 1 K (FrL K1 24 p s' r' R').1:=(by rw[<-fL];exact frd.trans (IP f.1 f.2.1));have hst2:=hst.trans (n10 1 hrd);refine⟨_,rfl,G',No,d+0,n8,hst2.mono om,AK ⟨n1,hon',fun _=>id,n9,?_,by rw[n4];exact hdd,by rw[n2];omega,fun b hb=>by rw[n3];exact hnf b hb⟩⟩;unfold Rm at hrm ⊢;rw[n3];exact hrm
  ·rw[AI (by rw[f8];decide),AI (by rw[f8];decide)];have hbl:(AB.blV f.1.fr).toNat=K.fr.k:=by
    rw[fF'.fr];unfold AB.blV;rw[AJ rfl,AP]
   rw[hbl];have hfb:bad3 f.1.F=bad3 K.F:=(by rw[fF'.F]);have hfx:=fF'.nx;obtain⟨y,ey,G3,X3,d3,hy⟩:=hmo f.1 G (nwS K.fr.k false true) fF'.sit fon fk (by show f.1.F K.fr.k≠0;rw[fF'.F,fF];decide) (by show f.1.F K.fr.k≠3;rw[fF'.F,fF];decide) (fF'.dd.trans hdd) (by unfold Rm at hrm ⊢;rw[fF'.F];exact hrm) (AL rfl) (by unfold Sq at hsq ⊢;omega) om;rw[ey];dsimp only;have hst3:=hst.trans fF'.stp;have wa:wM (bad3 f.1.F)=wM (bad3 K.F):=(by rw[hfb]);rcases hy with ⟨c0,M,Mf⟩ | ⟨c14,M⟩ | ⟨c7,M⟩
   ·rw[AI (by rw[c0];decide)];obtain⟨m1,m2,m3,m4⟩:=Mf rfl;have hMn:y.1.nx+1<=f.1.nx+8*d3:=M.nx.elim (fun e=>absurd e.1 m1) id;have hMb:=M.stp.bd;have hst4:=hst3.trans M.stp;have hy2:bad3 y.1.F<=2:=by
     have:¬ 2<bad3 y.1.F:=fun e=>by have:=M.sit.dds.2 e;rw[M.dd] at this;cases this
     omega
    have wb:=DX (show bad3 K.F+1<=bad3 y.1.F by omega);refine ih y.1 G3 _ _ M.sit M.on M.dd M.rm ((MI _ dc).2 ⟨m2,om,AK rfl⟩) (by unfold Sq at hsq ⊢;omega) om om hst4 om (fun b hb=>⟨fun e=>(m4 b hb).1 (by rw[fF'.F];exact(hnf b hb).1 e),fun e=>?_⟩) om;have e2:=(hnf b hb).2 e;refine(m4 b hb).2 (fun ev=>?_) (by rw[fF'.F];exact e2);have ev':b=K.fr.k:=ev;rw[ev',fF] at e2;exact absurd e2 dc
   ·rw[AJ (by rw[c14];decide)];have hMn:=M.nx;exact⟨_,rfl,G3,X3,_,M.sit,(hst3.trans M.stp).mono om,AL (AK ⟨c14,M.on,M.dd,by show y.1.nx<=_;omega⟩)⟩
   ·rw[AJ (by rw[c7];decide)];have hMn:=M.nx;exact⟨_,rfl,G3,X3,_,M.sit,(hst3.trans M.stp).mono om,AL (AL ⟨c7,M.off,by show y.1.nx<=_;omega⟩)⟩
  ·rw[AI (by rw[f7];decide),AJ (by rw[f7];decide)];have hfx:=fF'.nx;exact⟨_,rfl,G,No,_,fF'.sit,(hst.trans fF'.stp).mono om,AL (AL ⟨f7,foff,by show f.1.nx<=_;omega⟩)⟩
theorem Yo(hte:dG (PN n) (b+1))(hn:4<=n+1+b):RJ (movR n) b:=by
 intro K G S h hon hfm h0 h3 hdd hrm hT hsq hb;exact Yk hte (n+1) h hon hfm h0 h3 hdd hrm hT hsq om om
theorem dJ:∀n b,4<=n+b->dG (PN n) b:=by
 intro n
 induction n with
 | zero=>
  intro b hb K G h hon hbk hrm hsq;have hd:K.dd=true:=h.dds.2 om;refine⟨(K,14),?_,G,No,0,h,(Stp.refl K G).mono om,AL (AK ⟨rfl,hon,hd,by show K.nx<=_;omega⟩)⟩;unfold PN SV;rw[DJ h,hd,AJ (AK rfl)]
 | succ n ih=>
  intro b hb K G h hon hbk hrm hsq;unfold PN SV;rw[DJ h,h.sp];cases hd:K.dd
  ·rw[AI (by simp)];have hbd2:bad3 K.F<=2:=by
    have:¬ 2<bad3 K.F:=fun e=>by have:=h.dds.2 e;rw[hd] at this;cases this
    omega
   have hmo:RJ (movR n) (bad3 K.F):=Yo (ih _ om) om;have hmr:∀K,AB.rmV K.fr 24=true->mrK (movR n) (n+1) K 24=some (K,0):=fun K hr=>by rw[mrK,AJ (show AB.rmV K.fr ((24:Nat):Int)=true from hr)]
   have hR1:=hrm hd;have ea:∀K,anR (n+1) noH K 24=anK (mrK (movR n) (n+1)) (movR n) noH (n+1) K 24:=fun K=>rfl;by_cases hr:AB.rmV K.fr 24=true
   ·rw[AJ hr];dsimp only;rw[ea];exact Pd hmo hmr (n+1) K G 0 0 h hon hd (by unfold Rm at hR1 ⊢;omega) hr hsq om (AM _) (Stp.refl K G) om (Nf.refl K) om
   ·rw[AI hr];obtain⟨s1,st1,n1,on1,d1,f1,o1,q1,nf1,-⟩:=h.clS;have hb1:bad3 (clK K).F=bad3 K.F:=st1.bd;unfold Rm at hR1;obtain⟨e2,s2,st2,n2,on2,d2,f2,o2,i2,q2,nf2⟩:=s1.opS o1 om;rw[AI (by rw[e2];decide)];dsimp only;rw[ea];have hb2:=st2.bd;generalize (opK (clK K)).1=K2 at *
    generalize clK K=K1 at *
    have hst:=st1.trans st2;have hbb:bad3 K2.F=bad3 K.F:=om;have:=Pd (W:=2*wM (bad3 K.F)) hmo hmr (n+1) K2 G _ _ s2 (by rw[on2,on1];exact hon) (d2.trans (d1.trans hd)) (by unfold Rm;omega) ((MI _ dc).2 ⟨o2,om,AK rfl⟩) (by unfold Sq at hsq ⊢;omega) om om hst om (nf1.trans nf2) (by rw[hbb];omega);exact this
  ·rw[AJ (AK rfl)];exact⟨(K,14),rfl,G,No,0,h,(Stp.refl K G).mono om,AL (AK ⟨rfl,hon,hd,by show K.nx<=_;omega⟩)⟩
theorem NQ(hn:3<=n+b):RJ (movR n) b:=Yo (dJ n (b+1) om) om
theorem Iz(hn:4<=n){H:GS}(hH:∀K q,(H K q).length=174/\Bys (H K q)){o:Nat}(ho25:o<25){P:BH × Nat->Prop}(hfin:∀K K1 G d p s' r' R',Sit K G No->K.dd=false->Rm 0 K->Told K G->Stp (2*((n+3)*wM (bad3 K0.F))) d K0 K G0 G->K.nx<=K0.nx+8*d->RdB (2*((n+3)*wM (bad3 K0.F))) K0 (FrL K1 o p s' r' R').1->FrD H K K1 G o p s' r' R'->P (FrL K1 o p s' r' R'))(h:Sit K0 G0 No)(hon:K0.s.on=true)(hrt:K0.dd=false->Rm 0 K0/\Told K0 G0)(hsq:Sq 1 K0):∃Z,anR (n+1) H K0 o=some Z/\((Z.1.s.on=true/\P Z)\/nX K0 G0 (2*((n+3)*wM (bad3 K0.F))) Z):=by
 have hmo:RJ (movR n) (bad3 K0.F):=NQ om;have ea:anR (n+1) H K0 o=anK (mrK (movR n) (n+1)) (movR n) H (n+1) K0 o:=rfl;rw[ea];exact Ym (c:=n+1) hH ho25 hmo (fun K G h1 h2 h3 h4 h5 h6 h7=>Yl hmo ho25 (n+1) K G h1 h2 h3 h4 (AK h5) h6 om h7) hfin (n+1) K0 G0 0 0 h hon hrt hsq om (AM _) (Stp.refl K0 G0) om (by rw[AW];exact AM _)
end
section
variable {K K':BH}{G:Bk}
structure Eqv (K K':BH):Prop where
 ch:K'.s.ch=K.s.ch
 F:K'.F=K.F
 L:K'.L=K.L
 vs:K'.vs=K.vs
 vc:K'.vc=K.vc
 fl:K'.fl=K.fl
 nx:K'.nx=K.nx
 sp:K'.sp=K.sp
 fr:K'.fr=K.fr
 dd:K'.dd=K.dd
 cu:K'.cu=K.cu
 ca:K'.ca=K.ca
theorem Eqv.refl(K:BH):Eqv K K:=⟨rfl,rfl,rfl,rfl,rfl,rfl,rfl,rfl,rfl,rfl,rfl,rfl⟩
theorem YU.eqv(a:YU K K'):Eqv K K':=⟨a.ch,a.F,a.L,a.vs,a.vc,a.fl,a.nx,a.sp,a.fr,a.dd,a.cu,a.ca⟩
theorem Lvs.eqv{o:Nat}{l:Bool}{D:List Nat}(h:Lvs K G o l D)(a:Eqv K K'):Lvs K' G o l D:=
 ⟨by rw[a.L,a.vs,a.vc];exact h.tab,h.lost,h.data,by rw[a.L];exact h.gh.ch a.ch,by rw[a.L];exact fun z=>(h.gd z).ch a.ch⟩
theorem Sit.eqv{X:Nat->Prop}(h:Sit K G X)(a:Eqv K K')(wf:Wf K'):Sit K' G X where
 wf:=wf
 rep:=h.rep.ch a.ch
 sts:=by rw[a.F];exact h.sts
 frs:=by rw[a.F];exact fun p hp e=>(h.frs p hp e).ch a.ch
 opn:=by rw[a.F,a.fr];exact h.opn
 frn:=by rw[a.fr];exact fun e i hi h8=>(h.frn e i hi h8).ch a.ch
 liv:=fun o ho hL=>by
  rw[a.L] at hL
  obtain⟨l,D,hl⟩:=h.liv o ho hL
  exact⟨l,D,hl.eqv a⟩
 nul:=by rw[a.L];exact h.nul
 blk:=by rw[a.L,a.F,a.dd];exact h.blk
 flo:=by rw[a.L,a.fl,a.vs];exact h.flo
 old:=by unfold mI;rw[a.L,a.fl,a.vs,a.vc,a.F];exact h.old
 seq:=by rw[a.nx];exact h.seq
 fls:=by rw[a.nx,a.fl];exact h.fls
 sp:=by rw[a.sp];exact h.sp
 dds:=by rw[a.dd,a.F];exact h.dds
 cb:=by rw[a.F];exact h.cb
 cf:=by rw[a.fl];exact h.cf
 cn:=by rw[a.L,a.vs,a.cu,a.ca];exact h.cn
 nw:=by rw[a.L];exact h.nw
 z24:=h.z24
 lb:=by rw[a.L];exact h.lb
theorem Sj(h:Wf K){p:Nat}(hp:p<96)(hon:K.s.on=true) :(inK K p).2.2=0/\(inK K p).1.s.on=true/\Eqv K (inK K p).1/\Wf (inK K p).1/\(inK K p).2.1=K.tl (pgTo K.s p 4) p/\(inK K p).1.tl=K.tl/\RdB 1 K (inK K p).1:=by
 have hrd:=YY K p;obtain⟨K',e,ha,hw,hK⟩:=Yb h hp hon;unfold inK;rw[e] at hrd ⊢;dsimp only at hrd ⊢;have hon':K'.s.on=true:=by rw[hK];exact hon
 rw[AI (by simp)];by_cases h1:AC.own K'.L p = -1
 ·rw[AJ h1];exact⟨rfl,hon',ha.eqv,hw,rfl,ha.fx.tl,hrd⟩
 ·rw[AI h1];by_cases h2:(K.tl (pgTo K.s p 4) p).sound=true/\(K.tl (pgTo K.s p 4) p).dmg<2
  ·rw[AJ h2];exact⟨rfl,hon',ha.eqv,hw,rfl,ha.fx.tl,hrd⟩
  ·rw[AI h2];have b:=ha.eqv;refine⟨rfl,hon',⟨b.ch,b.F,b.L,b.vs,b.vc,b.fl,b.nx,b.sp,b.fr,b.dd,b.cu,b.ca⟩,(hw.hR' (AG.GR.more3 hw.hea _)).qu' (hw.qu.add _),rfl,ha.fx.tl,?_⟩;have h3:=hrd.trans (RdB.same (K':={ K' with hS:=AG.more 255 K'.hS (p / 8:Nat),qu:=AF.Ub K'.qu (p / 8:Nat) }) (fun _=>rfl) rfl);exact h3
end
structure Stq (m d:Nat) (K K':BH) (G G':Bk):Prop where
 a:G'.a=G.a
 z:G'.z=G.z
 fl:K'.fl=K.fl
 lv:∀o,o<24->(K'.L o = -1<->K.L o = -1)
 l24:K.L 24≠-1->K'.L 24≠-1
 vs:∀o,o<24->K'.vs o=K.vs o
 cu:K'.cu=K.cu
 hS:K'.hS=K.hS
 tl:K'.tl=K.tl
 b3:∀b,b<12->K.F b=3->K'.F b=3
 bd:bad3 K'.F=bad3 K.F+d
 nx:K.nx<=K'.nx
 rd:RdB m K K'
theorem Stp.stq{m d:Nat}{K K':BH}{G G':Bk}(h:Stp m d K K' G G'):Stq m d K K' G G':=⟨h.a,h.z,h.fl,h.lv,h.l24,h.vs,h.fx.cu,h.fx.hS,h.fx.tl,h.b3,h.bd,h.nx,h.rd⟩
section
variable {K K':BH}{G:Bk}
structure Str (d:Nat) (K K':BH) (G G':Bk):Prop where
 a:G'.a=G.a
 z:G'.z=G.z
 fl:K'.fl=K.fl
 lv:∀o,o<24->(K'.L o = -1<->K.L o = -1)
 l24:K.L 24≠-1->K'.L 24≠-1
 vs:∀o,o<24->K'.vs o=K.vs o
 tl:K'.tl=K.tl
 b3:∀b,b<12->K.F b=3->K'.F b=3
 bd:bad3 K'.F=bad3 K.F+d
 nx:K.nx<=K'.nx
theorem Stq.str{m d:Nat}{G':Bk}(h:Stq m d K K' G G'):Str d K K' G G':=⟨h.a,h.z,h.fl,h.lv,h.l24,h.vs,h.tl,h.b3,h.bd,h.nx⟩
theorem Eqv.str(h:Eqv K K')(ht:K'.tl=K.tl)(G:Bk):Str 0 K K' G G:=
 ⟨rfl,rfl,h.fl,fun o _=>by rw[h.L],by rw[h.L];exact id,fun o _=>by rw[h.vs],ht,fun b _ e=>by rw[h.F];exact e,by rw[h.F];omega,by rw[h.nx];exact AM _⟩
theorem Pe{K1:BH}{p:Nat}{s':BM}{r':Int}{R':Nat->Int}(f:FrD noH K K1 G 24 p s' r' R')(hdd:K.dd=false) :(FrL K1 24 p s' r' R').2=0/\(FrL K1 24 p s' r' R').1.nx=K.nx+1/\(FrL K1 24 p s' r' R').1.F=K.F/\(FrL K1 24 p s' r' R').1.dd=K.dd/\(FrL K1 24 p s' r' R').1.fr=⟨true,K.fr.k,K.fr.i+1⟩/\(FrL K1 24 p s' r' R').1.L 24≠-1/\(FrL K1 24 p s' r' R').1.ca=0/\∃G',Sit (FrL K1 24 p s' r' R').1 G' No/\Told (FrL K1 24 p s' r' R').1 G'/\Str 0 K (FrL K1 24 p s' r' R').1 G G':=by
 obtain⟨e,s1,sp,_,wf,pg⟩:=f;have hfree:=sp.free s1;have hlt:=sp.lt;have hn1:=s1.wf.nx;have hmay:AC.DY ((24:Nat):Int) (p:Int):=⟨⟨om,om⟩,⟨om,om⟩,AK rfl⟩;have hc:AC.setC K1.L ((24:Nat):Int) (p:Int)=0:=by
  unfold AC.setC;rw[AI (fun e=>e hmay),AI (by rw[CM hfree];simp)]
 have hLL:AC.setL K1.L ((24:Nat):Int) (p:Int)=upd K1.L 24 p:=by unfold AC.setL;rw[AJ hc,AP]
 have eL:FrL K1 24 p s' r' R'=({ K1 with s:=s',r:=r',hR:=R',hN:=R',ca:=0,nx:=K1.nx+1,vs:=upd K1.vs 24 K1.nx,vc:=upd K1.vc 24 0,L:=upd K1.L 24 p,fl:=K1.fl },0):=by
  unfold FrL layK Nd;rw[AJ rfl];dsimp only;rw[hc,hLL]
 rw[eL];have w5:Wf { K1 with nx:=K1.nx+1 }:=⟨s1.wf.chip,s1.wf.rr,s1.wf.frm,s1.wf.map,s1.wf.vs,s1.wf.vp,s1.wf.vc,s1.wf.fl,wf.nx,s1.wf.fr,s1.wf.cu,s1.wf.qu,s1.wf.hea,s1.wf.tl⟩;have hck:=EE w5 (q:=K1.nx) hn1;have wfin:Wf { K1 with s:=s',r:=r',hR:=R',hN:=R',ca:=0,nx:=K1.nx+1,vs:=upd K1.vs 24 K1.nx,vc:=upd K1.vc 24 0,L:=upd K1.L 24 p,fl:=K1.fl }:=by
  have w1:=(wf.nt).ver (i:=24) (q:=K1.nx) (c:=0) hn1 dc;refine w1.map' (s1.wf.map.put 24 ⟨om,om⟩ (fun e=>om) (CM hfree)) fun i hi hLi=>?_;show 1<=upd K1.vs 24 K1.nx i;by_cases e:i=24
  ·rw[e];unfold upd;rw[AJ rfl];exact hn1.1
  ·unfold upd;rw[AI e];rw[BT _ _ e] at hLi;exact s1.wf.vp i hi hLi
 have hs:=s1.note (c:=ckK { K1 with nx:=K1.nx+1 } K1.nx) pg sp (by rw[e];exact hdd) (r':=r') (R':=R') (N':=R') (fl':=K1.fl) (L':=upd K1.L 24 p) (a':=G.a) wfin (Bb _ _ _) (fun i hi=>AK ⟨BT _ _ om,rfl,rfl⟩) (fun b _=>decide_eq_true_iff) (fun _ _=>rfl) rfl rfl hck;subst e;refine⟨rfl,rfl,rfl,rfl,rfl,?_,rfl,_,hs,fun b _ e=>AO e,⟨rfl,rfl,rfl,fun o ho=>?_,fun _=>?_,fun o ho=>?_,rfl,fun _ _=>id,rfl,Nat.le_succ _⟩⟩
 ·show upd K.L 24 p 24≠-1;rw[Bb];omega
 ·show upd K.L 24 p o = -1<->K.L o = -1;rw[BT _ _ om]
 ·show upd K.L 24 p 24≠-1;rw[Bb];omega
 ·show upd K.vs 24 K.nx o=K.vs o;unfold upd;rw[AI om]
end
section
variable {te:Kz}{mo:It}(K:BH)
theorem I0(p:Nat):(rdK K p).1.ca=K.ca:=by
 unfold rdK;dsimp only;split <;> rfl
theorem Yr(t:CP)(D:List Nat):(prK K t D).1.ca=K.ca:=by
 unfold prK;dsimp only
theorem Ys(t:CP)(D:List Nat):(prM K t D).1.ca=K.ca:=by
 unfold prM;split
 ·rfl
 ·exact Yr K t D
theorem jT(b:Nat):(erK K b).1.ca=K.ca:=by
 unfold erK;dsimp only;split <;> rfl
theorem Fv:(clK K).ca=K.ca:=by
 unfold clK;split <;> rfl
theorem NR(b:Int):(lvK K b).ca=K.ca:=by
 unfold lvK;split
 ·exact Fv K
 ·rfl
theorem RM(b s:Int):(stK K b s).ca=K.ca:=by
 unfold stK;dsimp only
theorem Yt(b:Int):(spK K b).ca=K.ca:=by
 unfold spK;dsimp only;rw[RM,NR]
theorem NS:(opK K).1.ca=K.ca:=by
 unfold opK;split <;> rfl
theorem Jv(t:CP):(layK K t).1.ca=K.ca:=by
 unfold layK;dsimp only
theorem jU:(sqK K).ca=K.ca:=by
 unfold sqK;dsimp only
theorem RN(H:GS)(K:BH)(p o:Nat):(frK H K p o).1.ca<=K.ca:=by
 unfold frK;by_cases hs:K.sp=true
 ·rw[AJ hs];exact AM _
 ·rw[AI hs];dsimp only;have h1:(prK (sqK K) ⟨p,o,K.nx,0,false⟩ (H (sqK K) K.nx)).1.ca=K.ca:=(Yr _ _ _).trans (jU K);generalize prK (sqK K) ⟨p,o,K.nx,0,false⟩ (H (sqK K) K.nx)=x at *
  by_cases c:x.2≠0
  ·rw[AJ c];exact Ak h1
  ·rw[AI c];by_cases d:o=24
   ·rw[AJ d];exact Ac _
   ·rw[AI d];exact Ak h1
theorem dM(H:GS)(K:BH)(p:Nat):(frK H K p 24).2.2=0->(frK H K p 24).1.ca=0:=by
 unfold frK;by_cases hs:K.sp=true
 ·rw[AJ hs];intro e;exact absurd e (show ¬ (14:Nat)=0 by decide)
 ·rw[AI hs];dsimp only;generalize prK (sqK K) ⟨p,24,K.nx,0,false⟩ (H (sqK K) K.nx)=x;by_cases c:x.2≠0
  ·rw[AJ c];intro e;exact absurd e c
  ·rw[AI c,AJ rfl];intro _;rfl
theorem I4(S:Bm)(o:Nat):(tiK K S o).1.ca=K.ca:=by
 unfold tiK;split
 ·rfl
 ·split <;> rfl
theorem NT(o:Nat):(coK K o).1.ca=K.ca:=by
 unfold coK;split
 ·rfl
 ·dsimp only;split
  ·exact I0 _ _
  ·split
   ·exact I0 _ _
   ·split <;> exact I0 _ _
theorem jV(bd:Bool):∀(l:List Nat) (K:BH) (S:Bm),(cpK bd l K S).1.ca=K.ca:=by
 intro l
 induction l with
 | nil=>intro K S;rfl
 | cons o l ih=>
  intro K S;unfold cpK;split
  ·exact ih K S
  ·dsimp only;split
   ·exact NT K o
   ·split
    ·exact(I4 _ _ _).trans (NT K o)
    ·split
     ·exact(Ys _ _ _).trans ((I4 _ _ _).trans (NT K o))
     ·exact(ih _ _).trans ((Ys _ _ _).trans ((I4 _ _ _).trans (NT K o)))
theorem Yu:∀(l:List CP) (K:BH),(cmL l K).1.ca=K.ca:=by
 intro l
 induction l with
 | nil=>intro K;rfl
 | cons t l ih=>
  intro K;unfold cmL;split
  ·exact Jv _ _
  ·exact(ih _).trans (Jv _ _)
theorem Yv(S:Bm)(st:Int):(cmK K S st).1.ca=K.ca:=by
 unfold cmK;dsimp only;by_cases c:(cmL S.ld K).2≠0
 ·rw[AJ c];exact Yu _ _
 ·rw[AI c];have h1:(stK (lvK (cmL S.ld K).1 S.fm) S.fm st).ca=K.ca:=by rw[RM,NR,Yu]
  generalize stK (lvK (cmL S.ld K).1 S.fm) S.fm st=K1 at *
  by_cases d:S.tt.o=true
  ·rw[AJ d];dsimp only;rw[RM];exact(Fv K1).trans h1
  ·rw[AI d];exact h1
theorem Yw(S:Bm):(cbK K S).1.ca<=K.ca:=by
 unfold cbK;dsimp only;split
 ·exact Ak (I4 _ _ _)
 ·split
  ·exact AY (RN _ _ _ _) (Ak (I4 _ _ _))
  ·exact AY (Ak (Yv _ _ _)) (AY (RN _ _ _ _) (Ak (I4 _ _ _)))
theorem Yx(S:Bm):(tyK K S).1.ca<=K.ca:=by
 unfold tyK;dsimp only;have hx:=jV (S.fd || (S.rt && bearK K)) ((AC.ofL K.L S.fm).map Int.toNat) K { S with tt:=noF,ld:=[] };generalize cpK (S.fd || (S.rt && bearK K)) ((AC.ofL K.L S.fm).map Int.toNat) K { S with tt:=noF,ld:=[] }=x at *
 have he:=(jT x.1 S.fm).trans hx;have hb:=Yw x.1 x.2.1;generalize erK x.1 S.fm=y at *
 have hc:=(Yv y.1 x.2.1 0).trans he;have hl:=(NR y.1 S.fm).trans he;generalize cmK y.1 x.2.1 0=c at *
 generalize lvK y.1 S.fm=u at *
 have hd:=Yw u { x.2.1 with fd:=true };generalize cbK u { x.2.1 with fd:=true }=v at *
 generalize cbK x.1 x.2.1=v2 at *
 split
 ·exact AM _
 ·split
  ·exact Ak hx
  ·split
   ·exact AY hb (Ak hx)
   ·split
    ·exact Ak hc
    ·split
     ·exact Ak he
     ·split
      ·exact Ak hl
      ·exact AY hd (Ak hl)
def dN (te:Kz):Prop:=∀K Z,te K=some Z->Z.1.ca<=K.ca
def MovL (mo:It):Prop:=∀K S Z,mo K S=some Z->Z.1.ca<=K.ca
theorem Yy{an:Kz}(h:dN an):dN (SV an):=by
 intro K Z e;unfold SV at e;split at e
 ·cases e;exact AM _
 ·split at e
  ·exact h _ _ e
  ·split at e
   ·cases e
    exact Ak ((NS _).trans (Fv _))
   ·exact AY (h _ _ e) (Ak ((NS _).trans (Fv _)))
theorem jW(h:dN te):∀n,MovL (trK te n):=by
 intro n
 induction n with
 | zero=>intro K S Z e;cases e
 | succ n ih=>
  intro K S Z e;unfold trK at e;split at e
  ·cases e;exact AM _
  ·dsimp only at e;split at e
   ·cases e;exact Yx _ _
   ·cases hy:te (spK (tyK K S).1 (AB.blV (tyK K S).2.1.tt)) with
    | none=>rw[hy] at e;cases e
    | some y=>
     rw[hy] at e;dsimp only at e;have h1:=AY (h _ _ hy) (AY (Ak (Yt _ _)) (Yx K S));split at e
     ·cases e;exact h1
     ·exact AY (ih _ _ _ e) h1
theorem Yz(h:dN te)(n:Nat):MovL (moK te n):=by
 intro K S Z e;unfold moK at e;cases hy:trK te n (if S.fd then lvK K S.fm else K) S with
 | none=>rw[hy] at e;cases e
 | some x=>
  rw[hy] at e;dsimp only at e;have h1:x.1.ca<=K.ca:=AY (jW h n _ _ _ hy) (by
   split
   ·
    exact Ak (NR _ _)
   ·
    exact AM _)
  split at e
  ·cases e
   exact AY (Ak (Yt _ _)) h1
  ·cases e;exact h1
theorem jX(h:MovL mo):∀n K o Z,mrK mo n K o=some Z->Z.1.ca<=K.ca:=by
 intro n
 induction n with
 | zero=>intro K o Z e;cases e
 | succ n ih=>
  intro K o Z e;unfold mrK at e;split at e
  ·cases e;exact AM _
  ·dsimp only at e;split at e
   ·split at e
    ·cases e
     exact Ak ((NS _).trans (Fv _))
    ·exact AY (ih _ _ _ e) (Ak ((NS _).trans (Fv _)))
   ·split at e
    ·cases e
     exact Ak (Fv _)
    ·cases hy:mo (clK K) (nwS (AH.chV 12 12 (clK K).F (lvF (clK K))) false false) with
     | none=>rw[hy] at e;cases e
     | some y=>
      rw[hy] at e;dsimp only at e;have h1:=AY (h _ _ _ hy) (Ak (Fv _));split at e
      ·cases e;exact h1
      ·exact AY (ih _ _ _ e) h1
theorem jY{mr:BH->Nat->Option (BH × Nat)}(hr:∀K o Z,mr K o=some Z->Z.1.ca<=K.ca)(h:MovL mo)(H:GS):∀n K o Z,anK mr mo H n K o=some Z->Z.1.ca<=K.ca/\(o=24->Z.2=0->Z.1.ca=0):=by
 intro n
 induction n with
 | zero=>intro K o Z e;cases e
 | succ n ih=>
  intro K o Z e;unfold anK at e;split at e
  ·cases e;exact⟨AM _,fun _ e=>absurd e (show ¬ (14:Nat)=0 by decide)⟩
  ·cases hx:mr K o with
   | none=>rw[hx] at e;cases e
   | some x=>
    rw[hx] at e;dsimp only at e;have h1:=hr _ _ _ hx;split at e
    ·rename_i c;cases e;exact⟨h1,fun _ e=>absurd e c⟩
    ·split at e
     ·rename_i c;cases e;exact⟨h1,fun _ e=>absurd e c⟩
     ·have h2:=RN H { x.1 with fr:=AB.tkS x.1.fr o } (AB.nxV x.1.fr o).toNat o;have h0:o=24->(frK H { x.1 with fr:=AB.tkS x.1.fr o } (AB.nxV x.1.fr o).toNat o).2.2=0->(frK H { x.1 with fr:=AB.tkS x.1.fr o } (AB.nxV x.1.fr o).toNat o).1.ca=0:=by
       rintro rfl;exact dM _ _ _
      generalize frK H { x.1 with fr:=AB.tkS x.1.fr o } (AB.nxV x.1.fr o).toNat o=f at *
      have h3:f.1.ca<=K.ca:=AY h2 h1;split at e
      ·rename_i c;cases e
       exact⟨AY (Ak (Jv _ _)) h3,fun eo _=>(Jv _ _).trans (h0 eo c)⟩
      ·split at e
       ·rename_i c _;cases e;exact⟨h3,fun _ e=>absurd e c⟩
       ·cases hy:mo f.1 (nwS (AB.blV f.1.fr).toNat false true) with
        | none=>rw[hy] at e;cases e
        | some y=>
         rw[hy] at e;dsimp only at e;have h4:=AY (h _ _ _ hy) h3;split at e
         ·rename_i c;cases e;exact⟨h4,fun _ e=>absurd e c⟩
         ·obtain⟨i1,i2⟩:=ih _ _ _ e;exact⟨AY i1 h4,i2⟩
theorem I7:∀n H K o Z,anR n H K o=some Z->Z.1.ca<=K.ca/\(o=24->Z.2=0->Z.1.ca=0):=by
 intro n
 induction n with
 | zero=>intro H K o Z e;cases e
 | succ n ih=>
  intro H K o Z e;have hm:MovL (moK (SV fun K=>anR n noH K 24) (n+1)):=Yz (Yy fun _ _ e=>(ih _ _ _ _ e).1) _;exact jY (mr:=mrK (moK (SV fun K=>anR n noH K 24) (n+1)) (n+1)) (fun K o Z e=>jX hm _ _ _ _ e) hm H (n+1) K o Z e
theorem Sk(n:Nat):MovL (movR n):=Yz (Yy fun _ _ e=>(I7 n _ _ _ _ e).1) _
theorem jZ{n:Nat}{K:BH}{b:Nat}{rt:Bool}{Z:BH × Nat}(e:vaK n K b rt=some Z):Z.1.ca<=K.ca:=by
 unfold vaK at e;split at e
 ·cases e;exact AM _
 ·split at e
  ·cases e;exact AM _
  ·cases hy:movR n K (nwS b rt false) with
   | none=>rw[hy] at e;cases e
   | some y=>
    rw[hy] at e;cases e
    exact Sk n _ _ _ hy
end
structure Ivk (K:BH) (G:Bk):Prop where
 on:K.s.on=true
 sit:∃X,Sit K G X/\(K.dd=false->(∀b,¬ X b)/\Rm 0 K/\Told K G)
section
variable {K:BH}{G:Bk}{o:Nat}{D:List Nat}
theorem Sn{H:GS}{K1:BH}{p:Nat}{s':BM}{r':Int}{R':Nat->Int}(ho:o<24)(f:FrD H K K1 G o p s' r' R')(h24:K.L 24≠-1)(hH:H { K1 with nx:=K1.nx+1 } K1.nx=D) :(FrL K1 o p s' r' R').2=0/\(FrL K1 o p s' r' R').1.nx=K.nx+1/\(FrL K1 o p s' r' R').1.F=K.F/\(FrL K1 o p s' r' R').1.dd=K.dd/\(FrL K1 o p s' r' R').1.L=upd K.L o p/\(FrL K1 o p s' r' R').1.fl=K.fl/\(FrL K1 o p s' r' R').1.tl=K.tl/\∃T,Sit (FrL K1 o p s' r' R').1 { G with T:=T,a:=ET G.a o D,z:=fun x=>x≠o/\G.z x } No:=by
 obtain⟨e,s1,sp,h6,wf,pg⟩:=f;have hfree:=sp.free s1;have hlt:=sp.lt;have hn1:=s1.wf.nx;have h6':p % 8<6:=h6.elim (fun e=>om) id;have hmay:AC.DY ((o:Nat):Int) (p:Int):=⟨⟨om,om⟩,⟨om,om⟩,AL om⟩;have hc:AC.setC K1.L ((o:Nat):Int) (p:Int)=0:=by
  unfold AC.setC;rw[AI (fun e=>e hmay),AI (by rw[CM hfree];simp)]
 have hLL:AC.setL K1.L ((o:Nat):Int) (p:Int)=upd K1.L o p:=by unfold AC.setL;rw[AJ hc,AP]
 have eL:FrL K1 o p s' r' R'=({ K1 with s:=s',r:=r',hR:=R',nx:=K1.nx+1,vs:=upd K1.vs o K1.nx,vc:=upd K1.vc o 0,L:=upd K1.L o p },0):=by
  unfold FrL layK;rw[AI om];dsimp only;rw[hc,hLL]
 rw[eL];rw[hH] at pg;have h24':K1.L 24≠-1:=by rw[e];exact h24
 have hs:=s1.put ho pg sp h6' h24' (r':=r') (R':=R') wf;subst e;exact⟨rfl,rfl,rfl,rfl,rfl,rfl,rfl,_,hs⟩
def nZ (W:Nat) (K:BH) (G:Bk) (o:Nat) (D:List Nat) (Z:BH × Nat):Prop:=
 (Z.2=0/\∃G' d,Ivk Z.1 G'/\G'.a=ET G.a o D/\G'.z=(fun x=>x≠o/\G.z x)/\RdB W K Z.1/\Z.1.L 24≠-1/\Z.1.L o≠-1/\(∀x,x<24->x≠o->(Z.1.L x = -1<->K.L x = -1))/\Z.1.fl=K.fl/\Z.1.tl=K.tl/\Z.1.dd=false/\bad3 Z.1.F=bad3 K.F+d/\Z.1.nx<=K.nx+1+8*d) \/
 ∃G' d,Str d K Z.1 G G'/\RdB W K Z.1/\((Z.2=14/\Ivk Z.1 G'/\Z.1.dd=true/\Z.1.nx<=K.nx+1+8*d)\/(Z.2=7/\Z.1.s.on=false/\(∃X,Sit Z.1 G' X)/\Z.1.nx<=K.nx+2+8*d))
theorem Y1{n:Nat}(hn:4<=n)(h:Sit K G No)(hon:K.s.on=true)(hrt:K.dd=false->Rm 0 K/\Told K G)(h24:K.L 24≠-1)(hsq:Sq 1 K)(ho:o<24)(hD:D.length=174)(bD:Bys D) :∃Z,anR (n+1) (fun _ _=>D) K o=some Z/\nZ (2*((n+3)*wM (bad3 K.F))) K G o D Z:=by
 have key:=Iz hn (H:=fun _ _=>D) (fun _ _=>⟨hD,bD⟩) (by omega:o<25) (K0:=K) (G0:=G) (P:=fun Z=>Z.2=0/\∃T c d,Sit Z.1 { T:=T,c:=c,a:=ET G.a o D,z:=fun x=>x≠o/\G.z x } No/\(∀b,b<12->Z.1.F b=3->c.B b=true)/\Rm 0 Z.1/\RdB (2*((n+3)*wM (bad3 K.F))) K Z.1/\Z.1.L 24≠-1/\Z.1.L o≠-1/\(∀x,x<24->x≠o->(Z.1.L x = -1<->K.L x = -1))/\Z.1.fl=K.fl/\Z.1.tl=K.tl/\Z.1.dd=false/\bad3 Z.1.F=bad3 K.F+d/\Z.1.nx<=K.nx+1+8*d) (fun K' K1 G' d p s' r' R' _ hdd hrm hT hst hnx hrd fD=>by
  obtain⟨n1,n2,n3,n4,n5,n6,n7,T,s2⟩:=Sn ho fD (hst.l24 h24) rfl
  have ez:G'.z=G.z:=hst.z
  have ea:G'.a=G.a:=hst.a
  rw[ez,ea] at s2
  refine⟨n1,T,G'.c,d,s2,fun b hb e=>hT b hb (by rw[<-n3];exact e),?_,hrd,?_,?_,fun x hx hxo=>?_,n6.trans hst.fl,n7.trans hst.fx.tl,by rw[n4];exact hdd,by rw[n3];exact hst.bd,by rw[n2];omega⟩
  ·
   unfold Rm at hrm ⊢
   rw[n3]
   exact hrm
  ·
   rw[n5,BT _ _ om]
   exact hst.l24 h24
  ·
   rw[n5,Bb]
   omega
  ·
   rw[n5,BT _ _ hxo]
   exact hst.lv x hx) h hon hrt hsq
 obtain⟨Z,eZ,hZ⟩:=key;refine⟨Z,eZ,?_⟩;rcases hZ with ⟨on,c0,T,c,d,s,td,rm,rd,q1,q2,q3,q4,q5,q6,q7,q8⟩ | ⟨G',X',d,s,st,hx⟩
 ·exact AK ⟨c0,_,d,⟨on,_,s,fun _=>⟨fun _=>id,rm,td⟩⟩,rfl,rfl,rd,q1,q2,q3,q4,q5,q6,q7,q8⟩
 ·refine AL ⟨G',d,st.stq.str,st.rd,?_⟩;rcases hx with ⟨c,on,dd,nx⟩ | ⟨c,off,nx⟩
  ·exact AK ⟨c,⟨on,X',s,fun e=>by rw[dd] at e;cases e⟩,dd,nx⟩
  ·exact AL ⟨c,off,⟨X',s⟩,nx⟩
end
section
variable {K:BH}{G:Bk}{o n:Nat}{X:Nat->Prop}
theorem Ivk.eqv{K':BH}(h:Ivk K G)(a:Eqv K K')(wf:Wf K')(on:K'.s.on=true):Ivk K' G:=by
 obtain⟨_,X,hs,hd⟩:=h;refine⟨on,X,hs.eqv a wf,fun e=>?_⟩;rw[a.dd] at e;obtain⟨h1,h2,h3⟩:=hd e;refine⟨h1,?_,fun b hb eb=>h3 b hb (by rw[<-a.F];exact eb)⟩;unfold Rm at h2 ⊢;rw[a.F];exact h2
theorem dP(h:Ivk K G)(ho:o<24) :∃K',Ivk K' G/\Eqv K K'/\K'.tl=K.tl/\RdB 1 K K'/\(geK K o=(K',(G.a o).take 160,0)\/(G.z o/\geK K o=(K',[],13))):=by
 obtain⟨on,X,hs,hd⟩:=id h;unfold geK;by_cases hL:K.L o = -1
 ·rw[AJ hL,hs.nul o ho hL];exact⟨K,h,Eqv.refl K,rfl,(RdB.refl K).mono om,AK (by simp)⟩
 ·rw[AI hL];obtain⟨hlt,_⟩:=hs.wf.lt (by omega:o<25) hL;obtain⟨l,D,hl⟩:=hs.liv o om hL;obtain⟨e,on',a,wf,pg,tl,rd⟩:=Sj hs.wf hlt on;obtain⟨q1,q2,q3,q4⟩:=NL hs.wf.tl hs.wf.chip hs.rep hl.tab hl.gh;rw[<-pg] at q1 q2 q3 q4;generalize inK K (K.L o).toNat=x at *
  dsimp only;rw[AI (by rw[e];simp)];refine⟨x.1,h.eqv a wf on',a,tl,rd,?_⟩;by_cases hso:x.2.1.sound=true
  ·obtain⟨ht,hdt⟩:=q4 hso;obtain⟨_,_,_,_,hle⟩:=q3 ht;have hle':x.2.1.l=l:=hle;cases l with
   | true=>
    rw[AJ (AL hle')];exact AL ⟨hl.lost rfl,rfl⟩
   | false=>
    rw[AI (by rw[hso,hle'];simp)];have:=hl.data rfl;rw[AI om] at this;rw[hdt,this];exact AK rfl
  ·have hsf:x.2.1.sound=false:=(by simpa using hso);rw[AJ (AK hsf)];exact AL ⟨Classical.byContradiction fun hz=>hso (q1.2 (hl.gd hz)),rfl⟩
theorem Sit.rez(h:Sit K G X){z':Nat->Prop}(hz:∀o,o<25->K.L o≠-1->(z' o<->G.z o))(h24:¬ z' 24):Sit K { G with z:=z' } X where
 wf:=h.wf
 rep:=h.rep
 sts:=h.sts
 frs:=h.frs
 opn:=h.opn
 frn:=h.frn
 liv:=fun o ho hL=>by
  obtain⟨l,D,hl⟩:=h.liv o ho hL
  exact⟨l,D,⟨hl.tab,fun e=>(hz o ho hL).2 (hl.lost e),hl.data,hl.gh,fun e=>hl.gd fun k=>e ((hz o ho hL).2 k)⟩⟩
 nul:=h.nul
 blk:=h.blk
 flo:=h.flo
 old:=h.old
 seq:=h.seq
 fls:=h.fls
 sp:=h.sp
 dds:=h.dds
 cb:=h.cb
 cf:=h.cf
 cn:=h.cn
 nw:=h.nw
 z24:=h24
 lb:=h.lb
theorem Y2{K1:BH}{p:Nat}{s':BM}{r':Int}{R':Nat->Int}(ho:o<24)(f:FrD (tmH o (K.vs o:Nat)) K K1 G 24 p s' r' R')(hL:K.L o≠-1)(hdd:K.dd=false) :(FrL K1 24 p s' r' R').2=0/\(FrL K1 24 p s' r' R').1.nx=K.nx+1/\(FrL K1 24 p s' r' R').1.F=K.F/\(FrL K1 24 p s' r' R').1.dd=K.dd/\(FrL K1 24 p s' r' R').1.L=upd K.L 24 p/\(FrL K1 24 p s' r' R').1.tl=K.tl/\(FrL K1 24 p s' r' R').1.fl=K.fl/\AC.atC (FrL K1 24 p s' r' R').1.L (o:Nat)=0/\AC.dropL (FrL K1 24 p s' r' R').1.L (o:Nat)=upd (upd K.L 24 p) o (-1) /\∃G',G'.a=ET G.a o (List.replicate 174 0)/\G'.z=(fun x=>x≠o/\G.z x)/\Sit { (FrL K1 24 p s' r' R').1 with fl:=upd (FrL K1 24 p s' r' R').1.fl o (K.vs o:Nat),L:=AC.dropL (FrL K1 24 p s' r' R').1.L (o:Nat) } G' No/\(∀b,b<12->K.F b=3->G'.c.B b=true):=by
 obtain⟨e,s1,sp,_,wf,pg⟩:=f;have hfree:=sp.free s1;have hlt:=sp.lt;have hn1:=s1.wf.nx;have hmay:AC.DY ((24:Nat):Int) (p:Int):=⟨⟨om,om⟩,⟨om,om⟩,AK rfl⟩;have hc:AC.setC K1.L ((24:Nat):Int) (p:Int)=0:=by
  unfold AC.setC;rw[AI (fun e=>e hmay),AI (by rw[CM hfree];simp)]
 have hLL:AC.setL K1.L ((24:Nat):Int) (p:Int)=upd K1.L 24 p:=by unfold AC.setL;rw[AJ hc,AP]
 have eL:FrL K1 24 p s' r' R'=({ K1 with s:=s',r:=r',hR:=R',hN:=R',ca:=0,nx:=K1.nx+1,vs:=upd K1.vs 24 K1.nx,vc:=upd K1.vc 24 0,L:=upd K1.L 24 p,fl:=K1.fl },0):=by
  unfold FrL layK Nd;rw[AJ rfl];dsimp only;rw[hc,hLL]
 have eLo:K1.L o=K.L o:=by rw[e]
 have eVo:K1.vs o=K.vs o:=by rw[e]
 have hLo:upd K1.L 24 p o≠-1:=by rw[BT _ _ om,eLo];exact hL
 have hat:AC.atC (upd K1.L 24 p) (o:Nat)=0:=by
  unfold AC.atC;rw[AI om,AP,AI hLo]
 have hdr:AC.dropL (upd K1.L 24 p) (o:Nat)=upd (upd K1.L 24 p) o (-1):=by
  unfold AC.dropL;rw[AJ hat,AP]
 have w5:Wf { K1 with nx:=K1.nx+1 }:=⟨s1.wf.chip,s1.wf.rr,s1.wf.frm,s1.wf.map,s1.wf.vs,s1.wf.vp,s1.wf.vc,s1.wf.fl,wf.nx,s1.wf.fr,s1.wf.cu,s1.wf.qu,s1.wf.hea,s1.wf.tl⟩;have hck:=EE w5 (q:=K1.nx) hn1;have hvo:=s1.wf.vs o om;have hz:0<=((K1.vs o:Nat):Int)/\((K1.vs o:Nat):Int)<=1099511627775:=om
 have hck':AA.Zp { ckK { K1 with nx:=K1.nx+1 } K1.nx with F:=upd (ckK { K1 with nx:=K1.nx+1 } K1.nx).F o (K1.vs o:Nat) }:=⟨fun i hi=>by
  show 0<=upd _ o _ i/\upd _ o _ i<=1099511627775
  unfold upd
  split
  ·
   exact hz
  ·
   exact hck.F i hi,hck.N,hck.C,hck.R,hck.S⟩
 have hOk:AC.GK (upd (upd K1.L 24 p) o (-1)):=(s1.wf.map.put 24 ⟨om,om⟩ (fun e=>om) (CM hfree)).clear o;have wfin:Wf { K1 with s:=s',r:=r',hR:=R',hN:=R',ca:=0,nx:=K1.nx+1,vs:=upd K1.vs 24 K1.nx,vc:=upd K1.vc 24 0,L:=upd (upd K1.L 24 p) o (-1),fl:=upd K1.fl o (K1.vs o:Nat) }:=by
  have w1:=((wf.nt).ver (i:=24) (q:=K1.nx) (c:=0) hn1 dc).fl' (o:=o) hz;refine w1.map' hOk fun i hi hLi=>?_;show 1<=upd K1.vs 24 K1.nx i;by_cases e:i=24
  ·rw[e];unfold upd;rw[AJ rfl];exact hn1.1
  ·by_cases e':i=o
   ·subst e';rw[Bb] at hLi;exact absurd rfl hLi
   ·rw[BT _ _ e',BT _ _ e] at hLi;unfold upd;rw[AI e];exact s1.wf.vp i hi hLi
 have hs:=s1.note (c:={ ckK { K1 with nx:=K1.nx+1 } K1.nx with F:=upd (ckK { K1 with nx:=K1.nx+1 } K1.nx).F o (K1.vs o:Nat) }) (by rw[eVo];exact pg) sp (by rw[e];exact hdd) (r':=r') (R':=R') (N':=R') (fl':=upd K1.fl o (K1.vs o:Nat)) (L':=upd (upd K1.L 24 p) o (-1)) (a':=ET G.a o (List.replicate 174 0)) wfin (by rw[BT _ _ om,Bb]) (fun i hi=>by
  by_cases e':i=o
  ·
   subst e'
   refine AL ⟨Bb _ _ _,by rw[eLo];exact hL,Bb _ _ _,?_⟩
   unfold ET
   rw[AJ rfl]
  ·
   refine AK ⟨by rw[BT _ _ e',BT _ _ om],BT _ _ e',?_⟩
   unfold ET
   rw[AI e']) (fun b _=>decide_eq_true_iff) (fun _ _=>rfl) rfl rfl hck'
 have hs2:=hs.rez (z':=fun x=>x≠o/\G.z x) (fun i _ hLi=>by
  have:i≠o:=fun e'=>by
   subst e'
   exact hLi (Bb _ _ _)
  exact⟨fun k=>k.2,fun k=>⟨this,k⟩⟩) (fun k=>s1.z24 k.2)
 rw[eL];subst e;rw[<-hdr] at hs2;exact⟨rfl,rfl,rfl,rfl,rfl,rfl,rfl,hat,hdr,_,rfl,rfl,hs2,fun b _ e=>AO e⟩
def lk (W:Nat) (K:BH) (G:Bk) (Z:BH × Nat):Prop:=∃G' d,Str d K Z.1 G G'/\RdB W K Z.1/\((Z.2=14/\Ivk Z.1 G'/\Z.1.dd=true/\Z.1.nx<=K.nx+1+8*d)\/(Z.2=7/\Z.1.s.on=false/\(∃X,Sit Z.1 G' X)/\Z.1.nx<=K.nx+2+8*d))
theorem Str.refl(K:BH)(G:Bk):Str 0 K K G G:=⟨rfl,rfl,rfl,fun _ _=>Iff.rfl,id,fun _ _=>rfl,rfl,fun _ _=>id,rfl,AM _⟩
theorem NU(h:Sit K G X)(hd:K.dd=true)(n:Nat)(H:GS)(o:Nat):anR (n+1) H K o=some (K,14):=by
 show anK _ _ H (n+1) K o=_;rw[anK,DJ h,hd,AJ (AK rfl)]
theorem lk.dead(h:Ivk K G)(hd:K.dd=true)(W:Nat):lk W K G (K,14):=
 ⟨G,0,Str.refl K G,(RdB.refl K).mono (Ac _),AK ⟨rfl,h,hd,by show K.nx<=_;omega⟩⟩
theorem dQ(hn:4<=n)(h:Ivk K G)(h24:K.L 24≠-1)(hsq:Sq 1 K)(ho:o<24){D:List Nat}(hD:D.length=174)(bD:Bys D) :∃Z,anR (n+1) (fun _ _=>D) K o=some Z/\Z.1.ca<=K.ca/\nZ (2*((n+3)*wM 0)) K G o D Z:=by
 obtain⟨on,X,hs,hd⟩:=id h;have wle:2*((n+3)*wM (bad3 K.F))<=2*((n+3)*wM 0):=Nat.mul_le_mul_left _ (Nat.mul_le_mul_left _ (DX (Ac _)));cases hdd:K.dd with
 | true=>exact⟨_,NU hs hdd n _ o,AM _,AL (lk.dead h hdd _)⟩
 | false=>
  obtain⟨hX,hrm,hT⟩:=hd hdd;obtain⟨Z,e,hz⟩:=Y1 hn (hs.mono fun b _ e=>absurd e (hX b)) on (fun _=>⟨hrm,hT⟩) h24 hsq ho hD bD;refine⟨Z,e,(I7 _ _ _ _ _ e).1,?_⟩;rcases hz with ⟨c,G',d,q1,q2,q3,rd,q⟩ | ⟨G',d,st,rd,q⟩
  ·exact AK ⟨c,G',d,q1,q2,q3,rd.mono wle,q⟩
  ·exact AL ⟨G',d,st,rd.mono wle,q⟩
def oO (W:Nat) (K:BH) (G:Bk) (o:Nat) (Z:BH × Nat):Prop:=
 (Z.2=0/\∃G' d,Ivk Z.1 G'/\G'.a=ET G.a o (List.replicate 174 0)/\(∀x,G'.z x->G.z x)/\RdB W K Z.1/\Z.1.L 24≠-1/\Z.1.L o = -1/\(∀x,x<24->x≠o->(Z.1.L x = -1<->K.L x = -1))/\Z.1.tl=K.tl/\bad3 Z.1.F=bad3 K.F+d/\Z.1.nx<=K.nx+1+8*d)\/lk W K G Z
theorem dS(hn:4<=n)(h:Ivk K G)(h24:K.L 24≠-1)(hsq:Sq 1 K)(ho:o<24) :∃Z,tmK (n+1) K o=some Z/\Z.1.ca<=K.ca/\oO (2*((n+3)*wM 0)) K G o Z:=by
 obtain⟨on,X,hs,hd⟩:=id h;have wle:2*((n+3)*wM (bad3 K.F))<=2*((n+3)*wM 0):=Nat.mul_le_mul_left _ (Nat.mul_le_mul_left _ (DX (Ac _)));by_cases hL:K.L o = -1
 ·refine⟨(K,0),by unfold tmK;rw[AJ hL],AM _,AK ⟨rfl,G,0,h,?_,fun _=>id,(RdB.refl K).mono (Ac _),h24,hL,fun _ _ _=>Iff.rfl,rfl,rfl,by show K.nx<=_;omega⟩⟩;funext x;unfold ET;split
  ·rename_i e;rw[e];exact hs.nul o ho hL
  ·rfl
 ·cases hdd:K.dd with
  | true=>
   have e:=NU hs hdd n (tmH o (K.vs o:Nat)) 24;refine⟨(K,14),?_,AM _,AL (lk.dead h hdd _)⟩;unfold tmK;rw[AI hL,e];rfl
  | false=>
   obtain⟨hX,hrm,hT⟩:=hd hdd;have s0:=hs.mono (Y:=fun _=>False) (fun b _ e=>absurd e (hX b));have key:=Iz hn (H:=tmH o (K.vs o:Nat)) (fun _ _=>⟨AA.CI _,AA.FA _⟩) (by decide:(24:Nat)<25) (K0:=K) (G0:=G) (P:=fun Z=>Z.2=0/\AC.atC Z.1.L (o:Nat)=0/\∃G' d,Sit { Z.1 with fl:=upd Z.1.fl o (K.vs o:Nat),L:=AC.dropL Z.1.L (o:Nat) } G' No/\G'.a=ET G.a o (List.replicate 174 0)/\G'.z=(fun x=>x≠o/\G.z x)/\(∀b,b<12->Z.1.F b=3->G'.c.B b=true)/\Rm 0 Z.1/\RdB (2*((n+3)*wM (bad3 K.F))) K Z.1/\AC.dropL Z.1.L (o:Nat) 24≠-1/\AC.dropL Z.1.L (o:Nat) o = -1/\(∀x,x<24->x≠o->(AC.dropL Z.1.L (o:Nat) x = -1<->K.L x = -1))/\Z.1.tl=K.tl/\Z.1.dd=false/\bad3 Z.1.F=bad3 K.F+d/\Z.1.nx<=K.nx+1+8*d) (fun K' K1 G' d p s' r' R' _ hdd' hrm' hT' hst hnx hrd fD=>by
    have ev:K'.vs o=K.vs o:=hst.vs o ho
    rw[<-ev] at fD
    obtain⟨n1,n2,n3,n4,n5,n6,n7,n8,n9,G2,g1,g2,s2,t2⟩:=Y2 ho fD (fun e=>hL ((hst.lv o ho).1 e)) hdd'
    have ez:G'.z=G.z:=hst.z
    have ea:G'.a=G.a:=hst.a
    rw[ev] at s2
    rw[ea] at g1
    rw[ez] at g2
    refine⟨n1,n8,G2,d,s2,g1,g2,fun b hb e=>t2 b hb (by rw[<-n3];exact e),?_,hrd,?_,?_,fun x hx hxo=>?_,n6.trans hst.fx.tl,by rw[n4];exact hdd',by rw[n3];exact hst.bd,by rw[n2];omega⟩
    ·
     unfold Rm at hrm' ⊢
     rw[n3]
     exact hrm'
    ·
     rw[n9,BT _ _ om,Bb]
     omega
    ·
     rw[n9,Bb]
    ·
     rw[n9,BT _ _ hxo,BT _ _ om]
     exact hst.lv x hx) s0 on (fun _=>⟨hrm,hT⟩) hsq
   obtain⟨Z,eZ,hZ⟩:=key;have hca:=(I7 _ _ _ _ _ eZ).1;unfold tmK;rw[AI hL,eZ];dsimp only;rcases hZ with ⟨on',c0,hat,G',d,s,g1,g2,td,rm,rd,q1,q2,q3,q4,q5,q6,q7⟩ | ⟨G',X',d,s,st,hx⟩
   ·rw[AI (by rw[c0];simp)];refine⟨_,rfl,hca,AK ⟨hat,G',d,⟨on',_,s,fun _=>⟨fun _=>id,rm,td⟩⟩,g1,fun x k=>by rw[g2] at k;exact k.2,?_,q1,q2,q3,q4,q6,q7⟩⟩;intro N hN hR;exact rd.mono wle N hN hR
   ·have hne:Z.2≠0:=by rcases hx with ⟨c,_⟩ | ⟨c,_⟩ <;> rw[c] <;> decide
    rw[AJ hne];refine⟨Z,rfl,hca,AL ⟨G',d,st.stq.str,st.rd.mono wle,?_⟩⟩;rcases hx with ⟨c,on,dd,nx⟩ | ⟨c,off,nx⟩
    ·exact AK ⟨c,⟨on,X',s,fun e=>by rw[dd] at e;cases e⟩,dd,nx⟩
    ·exact AL ⟨c,off,⟨X',s⟩,nx⟩
def ng (W:Nat) (K:BH) (G:Bk) (b:Nat) (rt:Bool) (Z:BH × Nat):Prop:=
 ((K.F b=0\/K.F b=3)/\Z=(K,12))\/(K.F b≠0/\K.F b≠3/\(2<bad3 K.F\/(rt=true/\bad3 K.F=2))/\Z=(K,14)) \/
 (K.F b≠0/\K.F b≠3/\¬ (2<bad3 K.F\/(rt=true/\bad3 K.F=2))/\∃G' d,Str d K Z.1 G G'/\RdB W K Z.1 /\
  ((Z.2=0/\Ivk Z.1 G'/\Z.1.dd=false/\(Z.1.F b=0\/Z.1.F b=3)/\(∀o,o<25->Z.1.L o≠-1->(Z.1.L o).toNat / 8≠b)/\Z.1.nx<=K.nx+1+8*d)\/(Z.2=14/\Ivk Z.1 G'/\Z.1.dd=true/\Z.1.nx<=K.nx+1+8*d)\/(Z.2=7/\Z.1.s.on=false/\(∃X,Sit Z.1 G' X)/\Z.1.nx<=K.nx+2+8*d)))
theorem dT(hn:3<=n)(h:Ivk K G)(hsq:Sq 1 K){b:Nat}(hb:b<12)(rt:Bool) :∃Z,vaK n K b rt=some Z/\Z.1.ca<=K.ca/\ng (wM 0) K G b rt Z:=by
 obtain⟨on,X,hs,hd⟩:=id h;have key:∃Z,vaK n K b rt=some Z/\ng (wM 0) K G b rt Z:=by
  unfold vaK;by_cases h1:K.F b=0\/K.F b=3
  ·rw[AJ h1];exact⟨_,rfl,AK ⟨h1,rfl⟩⟩
  ·rw[AI h1];have h0:K.F b≠0:=fun e=>h1 (AK e);have h3:K.F b≠3:=fun e=>h1 (AL e);have hbear:bearK K=decide (bad3 K.F<2):=(by unfold bearK;rw[hs.sp];simp);have hiff:(Cy K=true\/(rt=true/\bearK K=false))<->(2<bad3 K.F\/(rt=true/\bad3 K.F=2)):=by
    rw[DJ hs,hs.dds,hbear,decide_eq_false_iff_not];constructor
    ·rintro (e | ⟨e,k⟩)
     ·exact AK e
     ·by_cases c:2<bad3 K.F
      ·exact AK c
      ·exact AL ⟨e,om⟩
    ·rintro (e | ⟨e,k⟩)
     ·exact AK e
     ·exact AL ⟨e,om⟩
   by_cases h2:Cy K=true\/(rt=true/\bearK K=false)
   ·rw[AJ h2];exact⟨_,rfl,AL (AK ⟨h0,h3,hiff.1 h2,rfl⟩)⟩
   ·rw[AI h2];have hdd:K.dd=false:=by
     have:¬ Cy K=true:=fun e=>h2 (AK e);rw[DJ hs] at this;simpa using this
    obtain⟨hX,hrm,hT⟩:=hd hdd;obtain⟨Z,eZ,G',X',d,hz⟩:=(NQ (n:=n) (b:=0) om) K G (nwS b rt false) (hs.mono fun b _ e=>absurd e (hX b)) on hb h0 h3 hdd hrm (AK hT) (by unfold Sq at hsq ⊢;omega) (Ac _);rw[eZ];refine⟨_,rfl,AL (AL ⟨h0,h3,fun e=>h2 (hiff.2 e),G',d,?_⟩)⟩;have wle:wM (bad3 K.F)<=wM 0:=DX (Ac _);rcases hz with ⟨c,m,_⟩ | ⟨c,m⟩ | ⟨c,m⟩
    ·refine⟨m.stp.stq.str,m.stp.rd.mono wle,AK ⟨c,⟨m.on,_,m.sit,fun _=>⟨fun _=>id,m.rm,m.told⟩⟩,m.dd,m.st,m.none,?_⟩⟩;show Z.1.nx<=_;have:=m.nx;omega
    ·exact⟨m.stp.stq.str,m.stp.rd.mono wle,AL (AK ⟨c,⟨m.on,X',m.sit,fun e=>by rw[show Z.1.dd=true from m.dd] at e;cases e⟩,m.dd,by show Z.1.nx<=_;have:=m.nx;omega⟩)⟩
    ·exact⟨m.stp.stq.str,m.stp.rd.mono wle,AL (AL ⟨c,m.off,⟨X',m.sit⟩,by show Z.1.nx<=_;have:=m.nx;omega⟩)⟩
 obtain⟨Z,e,hz⟩:=key;exact⟨Z,e,jZ e,hz⟩
end
section
variable {s:BM}{K:BH}{H:GS}{o:Nat}{G:Bk}
structure Fine (s:BM):Prop where
 on:s.on=true
 lim:s.lim=false
 bl:∀b,(s.bl b).failed=false/\(s.bl b).wf=false/\(s.bl b).ef=false
theorem Fine.setBl(h:Fine s)(b:Nat)(x:Jj)(hx:x.failed=false/\x.wf=false/\x.ef=false):Fine (s.setBl b x):=⟨h.on,h.lim,fun j=>by
 show ((if j=b then x else s.bl j).failed=false)/\_
 by_cases e:j=b
 ·
  simp only[BM.setBl,AJ e];exact hx
 ·
  simp only[BM.setBl,AI e];exact h.bl j⟩
theorem Fine.setCh(h:Fine s)(c:Nat)(k:Ji):Fine (s.setCh c k):=⟨h.on,h.lim,h.bl⟩
theorem Fine.go(h:Fine s):Fine (Jk s):=⟨h.on,h.lim,h.bl⟩
theorem Fine.failW(h:Fine s)(b:Nat):(failW (s.bl b)).failed=false/\(failW (s.bl b)).wf=false/\(failW (s.bl b)).ef=false:=by
 obtain⟨h1,h2,h3⟩:=h.bl b;refine⟨?_,h2,h3⟩;show ((s.bl b).failed || ((s.bl b).wf && _))=false;rw[h1,h2];rfl
theorem Fine.failE(h:Fine s)(b:Nat):(failE (s.bl b)).failed=false/\(failE (s.bl b)).wf=false/\(failE (s.bl b)).ef=false:=by
 obtain⟨h1,h2,h3⟩:=h.bl b;refine⟨?_,h2,h3⟩;show ((s.bl b).failed || (s.bl b).ef)=false;rw[h1,h3];rfl
theorem Fine.write(h:Fine s)(a k:Int)(l:List Nat):Fine (Bz s a k l).1/\(Bz s a k l).2≠7/\(Bz s a k l).2≠8:=by
 unfold Bz;split
 ·exact⟨h,by simp,by simp⟩
 ·rw[AI (by rw[h.on];decide)];split
  ·exact⟨h,by simp,by simp⟩
  ·rw[AI (by rw[h.lim];simp),AI (by rw[(h.failW _).1];decide)];exact⟨(h.go.setBl _ _ (h.failW _)).setCh _ _,by simp,by simp⟩
theorem Fine.erase(h:Fine s)(b:Int):Fine (eraseR s b).1/\(eraseR s b).2≠7/\(eraseR s b).2≠8:=by
 unfold eraseR;split
 ·exact⟨h,by simp,by simp⟩
 ·rw[AI (by rw[h.on];decide),AI (by rw[h.lim];simp),AI (by rw[(h.failE _).1];decide)];refine⟨?_,by simp,by simp⟩;have h1:=h.go.setBl b.toNat _ (h.failE b.toNat);have h2:=h1.setBl b.toNat { ((Jk s).setBl b.toNat (Go.Proofs.YtmdpnpjacfedpaaGreat.failE (s.bl b.toNat))).bl b.toNat with reads:=0 } (h1.bl b.toNat);exact⟨h2.on,h2.lim,h2.bl⟩
theorem Fine.rd(h:Fine s)(a:Nat):Fine (WU s a):=h.setBl _ _ (h.bl _)
theorem Fine.wrN(h:Fine s)(a:Int)(W:Nat->List Nat):∀n,Fine (wrN s a W n).1/\(wrN s a W n).2≠7/\(wrN s a W n).2≠8:=by
 intro n
 induction n with
 | zero=>exact⟨h,show (0:Nat)≠7 by decide,show (0:Nat)≠8 by decide⟩
 | succ n ih=>
  rw[Go.Proofs.YtmdpnpjacfedpaaGreat.wrN];split
  ·exact ih.1.write _ _ _
  ·exact ih
theorem Fine.readV(h:Fine s)(a:Int):Fine (readV s a).1/\(readV s a).2.2≠7:=by
 unfold Go.Proofs.YtmdpnpjacfedpaaGreat.readV;split
 ·exact⟨h,by simp⟩
 ·rw[AI (by rw[h.on];decide)];exact⟨h.rd _,by simp⟩
theorem Fine.prF(h:Fine s)(tl:List Nat->Int->Pg)(r:Int)(t:CP)(D:List Nat):Fine (prF tl s r t D).1/\((prF tl s r t D).2.1=1\/((prF tl s r t D).2.2≠7/\(prF tl s r t D).2.2≠8)):=by
 unfold Go.Proofs.YtmdpnpjacfedpaaGreat.prF;have h1:=h.wrN t.p (wordOf D (body t.p t.o t.q t.c t.l)) 4;generalize Go.Proofs.YtmdpnpjacfedpaaGreat.wrN s t.p (wordOf D (body t.p t.o t.q t.c t.l)) 4=X at *
 dsimp only;by_cases h2:X.2≠0
 ·rw[AJ h2];exact⟨h1.1,AL h1.2⟩
 ·rw[AI h2];have h3:=h1.1.readV t.p;unfold rdF;by_cases h4:(Go.Proofs.YtmdpnpjacfedpaaGreat.readV X.1 t.p).2.2=0
  ·rw[AJ h4];dsimp only;rw[AI (by simp)];exact⟨h3.1,AK rfl⟩
  ·rw[AI h4];dsimp only;rw[AJ h4];refine⟨h3.1,AL ⟨h3.2,?_⟩⟩;show (Go.Proofs.YtmdpnpjacfedpaaGreat.readV X.1 t.p).2.2≠8;unfold Go.Proofs.YtmdpnpjacfedpaaGreat.readV;split
   ·simp
   ·split <;> simp
theorem So(h:Wf K){T:Fq}(hR:JY K.s T){t:CP}{D:List Nat}(hp:t.p<96)(hE:YR t.p t D)(hB:Erd K.s t.p)(hf:Fine K.s):(prK K t D).2=0/\Fine (prK K t D).1.s:=by
 have h1:=hf.prF K.tl K.r t D;have h2:=PW h.tl h.chip hR hp hE hf.on hB K.r;unfold prK;dsimp only;refine⟨?_,h1.1⟩;rcases h2 with ⟨a,_⟩ | ⟨a,b,_⟩ | ⟨a,b,_⟩
 ·rw[a];rfl
 ·rcases h1.2 with c | ⟨_,c⟩
  ·rw[b] at c;cases c
  ·exact absurd a c
 ·rcases h1.2 with c | ⟨c,_⟩
  ·rw[b] at c;cases c
  ·exact absurd a c
theorem Sp(h:Wf K){b:Nat}(hb:b<12)(hf:Fine K.s):(erK K b).2=0/\Fine (erK K b).1.s:=by
 have h1:=hf.erase b;have h2:=Fr h.chip hb hf.on;have h0:(eraseR K.s b).2=0:=by
  rcases h2 with ⟨a,_⟩ | ⟨a,_⟩ | ⟨a,_⟩
  ·exact a
  ·exact absurd a h1.2.2
  ·exact absurd a h1.2.1
 unfold erK;dsimp only;rw[AJ h0];exact⟨rfl,h1.1⟩
theorem Sr(hH:∀K q,(H K q).length=174/\Bys (H K q))(h:Sit K G No)(hf:Fine K.s)(ho25:o<25)(hr:AB.rmV K.fr o=true)(hnx:K.nx<IE) :AB.nxC K.fr o=0/\∃K1 s' r' R',FrD H K K1 G o (8*K.fr.k+K.fr.i) s' r' R'/\Fine s'/\RdB 1 K (FrL K1 o (8*K.fr.k+K.fr.i) s' r' R').1 /\(frK H { K with fr:=AB.tkS K.fr o } (AB.nxV K.fr o).toNat o).2.2=0/\layK (frK H { K with fr:=AB.tkS K.fr o } (AB.nxV K.fr o).toNat o).1 (frK H { K with fr:=AB.tkS K.fr o } (AB.nxV K.fr o).toNat o).2.1=FrL K1 o (8*K.fr.k+K.fr.i) s' r' R':=by
 obtain⟨t1,t2,t3,t4,t5,t6,t7,t8⟩:=h.take ho25 hr;have hrd:RdB 1 K (frK H { K with fr:=⟨true,K.fr.k,K.fr.i+1⟩ } (8*K.fr.k+K.fr.i) o).1:=by
  have h0:RdB 0 K { K with fr:=⟨true,K.fr.k,K.fr.i+1⟩ }:=RdB.same (fun _=>rfl) rfl;exact h0.trans (RH H _ _ o)
 rw[t2,t3];refine⟨t1,?_⟩;have e:sqK { K with fr:=⟨true,K.fr.k,K.fr.i+1⟩ }={ K with fr:=⟨true,K.fr.k,K.fr.i+1⟩,nx:=K.nx+1 }:=by
  unfold sqK;have e1:decide (K.nx=IE)=K.sp:=by rw[h.sp];exact AN om
  have e2:min (K.nx+1) IE=K.nx+1:=om
  dsimp only;rw[e1,e2]
 obtain⟨s',r',R',wf,hx⟩:=LG t4.wf t4.sp hnx t4.rep hf.on t5.lt ho25 t6 t5.er H rfl (hH _ _).1 (hH _ _).2;have hn:=h.wf.nx;have hM:DY ((8*K.fr.k+K.fr.i:Nat):Int) (o:Nat) (K.nx:Nat) ((0:Nat):Int) false:=by
  unfold IE at hnx;have:=t5.lt;refine⟨⟨om,om,om,om⟩,?_⟩;by_cases e24:o=24
  ·exact AK ⟨om,rfl⟩
  ·have:=t6.resolve_left e24;exact AL ⟨om,om⟩
 have w1:Wf { K with fr:=⟨true,K.fr.k,K.fr.i+1⟩,nx:=K.nx+1 }:=by rw[<-e];exact t4.wf.sq
 have hpf:=So (K:={ K with fr:=⟨true,K.fr.k,K.fr.i+1⟩,nx:=K.nx+1 }) w1 t4.rep (t:=⟨8*K.fr.k+K.fr.i,o,K.nx,0,false⟩) (D:=H { K with fr:=⟨true,K.fr.k,K.fr.i+1⟩,nx:=K.nx+1 } K.nx) t5.lt ⟨rfl,hM,(hH _ _).1,(hH _ _).2⟩ t5.er hf;have e0:(frK H { K with fr:=⟨true,K.fr.k,K.fr.i+1⟩ } (8*K.fr.k+K.fr.i) o).2.2=0/\Fine (frK H { K with fr:=⟨true,K.fr.k,K.fr.i+1⟩ } (8*K.fr.k+K.fr.i) o).1.s:=by
  unfold frK;rw[AI (by rw[t4.sp];decide)];dsimp only;rw[e];rw[AI (by rw[hpf.1];simp)];refine⟨rfl,?_⟩;split <;> exact hpf.2
 rcases hx with ⟨ex,k⟩ | ⟨ex,k⟩ | ⟨ex,k⟩
 ·rw[ex] at e0 hrd ⊢;refine⟨_,s',r',R',⟨rfl,t4,t5,t6,wf,k⟩,?_,?_,rfl,rfl⟩
  ·have:=e0.2;dsimp only at this;split at this <;> exact this
  ·exact hrd.trans (IP _ _)
 ·rw[ex] at e0;exact absurd e0.1 (show ¬ (8:Nat)=0 by decide)
 ·rw[ex] at e0;exact absurd e0.1 (show ¬ (7:Nat)=0 by decide)
theorem Y3{mr:BH->Nat->Option (BH × Nat)}{mo:It}{n:Nat}{K':BH}(hw:Cy K=false)(hs:K.sp=false)(hm:mr K o=some (K',0))(hc:AB.nxC K'.fr o=0)(hf:(frK H { K' with fr:=AB.tkS K'.fr o } (AB.nxV K'.fr o).toNat o).2.2=0) :anK mr mo H (n+1) K o=some (layK (frK H { K' with fr:=AB.tkS K'.fr o } (AB.nxV K'.fr o).toNat o).1 (frK H { K' with fr:=AB.tkS K'.fr o } (AB.nxV K'.fr o).toNat o).2.1):=by
 rw[anK,AI (by rw[hw,hs];simp),hm];dsimp only;rw[AI (by simp),AI (by rw[hc];simp),AJ hf]
theorem Ss(hH:∀K q,(H K q).length=174/\Bys (H K q))(h:Sit K G No)(hf:Fine K.s)(hdd:K.dd=false)(ho25:o<25)(hr:AB.rmV K.fr o=true)(hnx:K.nx<IE)(n:Nat) :∃K1 s' r' R',FrD H K K1 G o (8*K.fr.k+K.fr.i) s' r' R'/\Fine s'/\RdB 1 K (FrL K1 o (8*K.fr.k+K.fr.i) s' r' R').1/\anR (n+1) H K o=some (FrL K1 o (8*K.fr.k+K.fr.i) s' r' R'):=by
 obtain⟨c,K1,s',r',R',f1,f2,f4,f5,f6⟩:=Sr hH h hf ho25 hr hnx;refine⟨K1,s',r',R',f1,f2,f4,?_⟩;rw[<-f6];show anK _ _ H (n+1) K o=_;refine Y3 (by rw[DJ h];exact hdd) h.sp ?_ c f5;rw[mrK,AJ hr]
end
section
variable {tl:List Nat->Int->Pg}{K:BH}{s:BM}{H:GS}{G:Bk}{o:Nat}
def K0 (s:BM) (tl:List Nat->Int->Pg):BH:={ s:=s,r:=0,F:=fun _=>0,L:=fun _=>-1,vs:=fun _=>0,vc:=fun _=>0,fl:=fun _=>0,nx:=1,sp:=false,fr:=noF,cu:=0,ca:=0,qu:=[],hR:=fun _=>0,hN:=fun _=>0,hS:=fun _=>0,dd:=false,rp:=0,md:=0,mv:=0,tl:=tl }
def G0:Bk:={ T:=fun _=>none,c:=AA.ck0,a:=fun _=>List.replicate 174 0,z:=fun _=>False }
theorem Pf:AC.GK (fun _=>-1):=by
 refine⟨?_,?_,?_⟩
 all_goals intros
 all_goals first | exact AK rfl | omega
theorem nC(hs:s.Ok)(htl:∀L n,ToldR L n (tl L n)):Wf (K0 s tl) where
 chip:=hs
 rr:=by show -9223372036854775808<=(0:Int)/\(0:Int)<9223372036854775808;decide
 frm:=by show 0<=(0:Int)/\(0:Int)<12;decide
 map:=Pf
 vs:=fun _ _=>Ac _
 vp:=fun _ _ e=>absurd rfl e
 vc:=fun _ _=>by show 0<256;decide
 fl:=fun _ _=>by show 0<=(0:Int)/\(0:Int)<=1099511627775;decide
 nx:=by show 1<=1/\1<=1099511627775;decide
 fr:=by show 0<12/\0<9;decide
 cu:=by show 0<96;decide
 qu:=⟨nodup_nil,fun _ e=>(by cases e)⟩
 hea:=fun _ _=>by show (0<=(0:Int)/\(0:Int)<=65535)/\(0<=(0:Int)/\(0:Int)<=65535)/\0<=(0:Int)/\(0:Int)<=255;decide
 tl:=htl
theorem nD(hs:s.Ok)(he:∀j,(s.ch j).is=false)(htl:∀L n,ToldR L n (tl L n)):Sit (K0 s tl) G0 No where
 wf:=nC hs htl
 rep:=⟨fun _ _ _ e=>(by cases e),fun _ _ _ e=>(by cases e),fun p _ _=>he _⟩
 sts:=fun _ _=>by show 0<=(0:Int)/\(0:Int)<=3;decide
 frs:=fun p _ _ k _=>he _
 opn:=fun b _=>⟨fun e=>absurd (show (0:Int)=1 from e) dc,fun e=>absurd (show false=true from e.1) dc⟩
 frn:=fun e=>absurd (show false=true from e) dc
 liv:=fun _ _ e=>absurd rfl e
 nul:=fun _ _ _=>rfl
 blk:=fun _ _ e=>absurd rfl e
 flo:=fun _ _ e=>absurd rfl e
 old:=fun _ _ _ e=>(by cases e)
 seq:=fun _ _ _ e=>(by cases e)
 fls:=fun _ _=>by show (0:Int)<((1:Nat):Int);decide
 sp:=rfl
 dds:=⟨fun e=>absurd (show false=true from e) dc,fun e=>absurd (show 2<bad3 (fun _=>0) from e) dc⟩
 cb:=fun _ _ e=>absurd (show false=true from e) dc
 cf:=fun _ _=>rfl
 cn:=fun e=>absurd rfl e
 nw:=fun _ _=>rfl
 z24:=id
 lb:=fun _ _ e=>absurd rfl e
theorem ll(i:Nat):upd (fun _=>(0:Int)) i 0=fun _=>0:=by
 funext j;unfold upd;split <;> rfl
theorem dU(htl:∀L n,ToldR L n (tl L n)):∀(n i:Nat) (s:BM),i+n<=12->s.Ok->Fine s->(∀j,(s.ch j).is=false)->(∀b,(s.bl b).reads=0) ->∃s',efK (fun _=>0) n i (K0 s tl) false=(K0 s' tl,false,0)/\s'.Ok/\Fine s'/\(∀j,(s'.ch j).is=false)/\(∀b,(s'.bl b).reads=0):=by
 intro n
 induction n with
 | zero=>intro i s _ ho hf hc hr;exact⟨s,rfl,ho,hf,hc,hr⟩
 | succ n ih=>
  intro i s hi ho hf hc hr;obtain⟨e1,e2⟩:=Sp (K:=K0 s tl) (nC ho htl) (b:=i) om hf;have h1:=hf.erase i;have h2:=Fr ho (show i<12 by omega) hf.on;have h0:(eraseR s i).2=0:=by
   rcases h2 with ⟨a,_⟩ | ⟨a,_⟩ | ⟨a,_⟩
   ·exact a
   ·exact absurd a h1.2.2
   ·exact absurd a h1.2.1
  have eK:erK (K0 s tl) i=(K0 (eraseR s i).1 tl,0):=by
   unfold erK;dsimp only;have h0':(eraseR (K0 s tl).s i).2=0:=h0;rw[AJ h0'];show (({ K0 s tl with s:=(eraseR s i).1,hR:=upd (fun _=>(0:Int)) i 0,hN:=upd (fun _=>(0:Int)) i 0 }:BH),0)=_;rw[ll];rfl
  have hch:∀j,((eraseR s i).1.ch j).is=false:=by
   rcases h2 with ⟨_,_,_,a⟩ | ⟨a,_⟩ | ⟨a,_⟩
   ·intro j;rw[a];split
    ·rfl
    ·exact hc j
   ·rw[h0] at a;cases a
   ·rw[h0] at a;cases a
  have hok:(eraseR s i).1.Ok:=Id ho i;have hrd:∀b,((eraseR s i).1.bl b).reads=0:=by
   intro b;unfold eraseR;rw[AI om,AI (by rw[hf.on];decide),AI (by rw[hf.lim];simp),AI (by rw[(hf.failE _).1];decide)];show (if b=(i:Int).toNat then { ((Jk s).setBl (i:Int).toNat (failE (s.bl (i:Int).toNat))).bl (i:Int).toNat with reads:=0 } else ((Jk s).setBl (i:Int).toNat (failE (s.bl (i:Int).toNat))).bl b).reads=0;split
   ·rfl
   ·rename_i c;show (if b=(i:Int).toNat then failE (s.bl (i:Int).toNat) else s.bl b).reads=0;rw[AI c];exact hr b
  obtain⟨s',q⟩:=ih (i+1) (eraseR s i).1 om hok h1.1 hch hrd;refine⟨s',?_,q.2⟩;rw[efK,AI (by simp),eK];dsimp only;rw[AI dc,AI dc];exact q.1
theorem RO{K1:BH}{p:Nat}{s':BM}{r':Int}{R':Nat->Int}(ho:o<25)(f:FrD H K K1 G o p s' r' R') :(FrL K1 o p s' r' R').2=0/\(FrL K1 o p s' r' R').1.L=upd K.L o p/\(FrL K1 o p s' r' R').1.s=s'/\(FrL K1 o p s' r' R').1.F=K.F/\(FrL K1 o p s' r' R').1.fr=⟨true,K.fr.k,K.fr.i+1⟩/\(FrL K1 o p s' r' R').1.nx=K.nx+1/\(FrL K1 o p s' r' R').1.mv=K.mv/\(FrL K1 o p s' r' R').1.dd=K.dd/\(FrL K1 o p s' r' R').1.tl=K.tl:=by
 obtain⟨e,s1,sp,h6,wf,pg⟩:=f;have hfree:=sp.free s1;have hlt:=sp.lt;have hmay:AC.DY ((o:Nat):Int) (p:Int):=⟨⟨om,om⟩,⟨om,om⟩,h6.imp (fun e=>om) (fun e=>om)⟩;have hc:AC.setC K1.L ((o:Nat):Int) (p:Int)=0:=by
  unfold AC.setC;rw[AI (fun e=>e hmay),AI (by rw[CM hfree];simp)]
 have hLL:AC.setL K1.L ((o:Nat):Int) (p:Int)=upd K1.L o p:=by unfold AC.setL;rw[AJ hc,AP]
 subst e;unfold FrL layK Nd;by_cases h24:o=24
 ·rw[AJ h24];exact⟨hc,hLL,rfl,rfl,rfl,rfl,rfl,rfl,rfl⟩
 ·rw[AI h24];exact⟨hc,hLL,rfl,rfl,rfl,rfl,rfl,rfl,rfl⟩
theorem Su:newS.Ok:=⟨fun _=>R0,fun _=>⟨by show 0<9223372036854775808;decide,fun _=>rfl,by show (-9223372036854775808:Int)<=0;decide,by show (0:Int)<9223372036854775808;decide⟩,by show 0<9223372036854775808;decide,by show (-9223372036854775808:Int)<=0;decide,by show (0:Int)<9223372036854775808;decide⟩
theorem U0:Fine newS:=⟨rfl,rfl,fun _=>⟨rfl,rfl,rfl⟩⟩
structure je (K:BH) (G:Bk):Prop where
 sit:Sit K G No
 told:Told K G
 rm:Rm 0 K
 fine:Fine K.s
 dd:K.dd=false
 a:G.a=fun _=>List.replicate 174 0
 z:G.z=fun _=>False
 L:K.L=upd (fun _=>-1) 24 0
 F:K.F=AD.tkF (fun _=>0) 0 0
 fr:K.fr=⟨true,0,1⟩
 nx:K.nx=2
 ca:K.ca=0
 mv:K.mv=0
 rd:Rdn 1 K
theorem je.ivk(h:je K G):Ivk K G:=⟨h.fine.on,_,h.sit,fun _=>⟨fun _=>id,h.rm,h.told⟩⟩
theorem oP:tkC (fun _=>0)=0/\tkM (fun _=>0)=0:=dc
theorem dV{KO:BH}(hw:Cy K=false)(hs:K.sp=false)(hr:¬ AB.rmV K.fr o=true)(hcl:clK K=K)(hspr:LA K=true)(hop:opK K=(KO,0))(hrO:AB.rmV KO.fr o=true)(hc:AB.nxC KO.fr o=0)(hf:(frK H { KO with fr:=AB.tkS KO.fr o } (AB.nxV KO.fr o).toNat o).2.2=0)(n:Nat) :anR (n+2) H K o=some (layK (frK H { KO with fr:=AB.tkS KO.fr o } (AB.nxV KO.fr o).toNat o).1 (frK H { KO with fr:=AB.tkS KO.fr o } (AB.nxV KO.fr o).toNat o).2.1):=by
 show anK _ _ H (n+2) K o=_;refine Y3 hw hs ?_ hc hf;rw[mrK,AI hr];dsimp only;rw[hcl,AJ hspr,hop,AI (by simp)];dsimp only;rw[mrK,AJ hrO]
theorem jf(htl:∀L n,ToldR L n (tl L n))(n:Nat):∃K G,cnK (n+2) (K0 newS tl)=some (K,0)/\je K G/\K.tl=tl:=by
 obtain⟨s',e1,o1,f1,c1,r1⟩:=dU htl 12 0 newS (AM _) Su U0 (fun _=>rfl) (fun _=>rfl);have h0:=nD o1 c1 htl;have eF:efK (K0 newS tl).F 12 0 (K0 newS tl) false=(K0 s' tl,false,0):=e1;have hop:=h0.op (by rfl) (by show 1<=fre (fun _=>0);decide);have hspr:LA (K0 s' tl)=true:=by
  show decide (AD.XM (fun _=>0)<((AD.cnt (fun _=>0) 0 12:Nat):Int))=true;decide
 have hKO:∃KO:BH,opK (K0 s' tl)=(KO,0)/\KO.s=s'/\KO.F=AD.tkF (fun _=>0) 0 0/\KO.fr=⟨true,0,0⟩/\KO.L=(fun _=>-1)/\KO.nx=1/\KO.dd=false/\KO.mv=0/\KO.tl=tl/\KO.hR=(fun _=>0):=by
  have:=oP;have t1:tkC (K0 s' tl).F=0:=this.1;have t2:tkM (K0 s' tl).F=0:=this.2;refine⟨{ K0 s' tl with F:=AD.tkF (fun _=>0) 0 0,fr:=⟨true,0,0⟩ },?_,rfl,rfl,rfl,rfl,rfl,rfl,rfl,rfl,rfl⟩;unfold opK;rw[AJ t1,t2];rfl
 obtain⟨KO,eO,k1,k2,k3,k4,k5,k6,k7,k8,k9⟩:=hKO;rw[eO] at hop;obtain⟨_,s2,fr2,b2,_,q2,_⟩:=hop;dsimp only at s2 fr2 b2 q2;have hr:AB.rmV KO.fr ((24:Nat):Int)=true:=by rw[k3];decide
 obtain⟨c,K1,s3,r3,R3,fD,f3,rd3,fz,fl⟩:=Sr RL s2 (by rw[k1];exact f1) (by decide:(24:Nat)<25) hr (by rw[k5];decide);have ean:=dV (H:=noH) (K:=K0 s' tl) (o:=24) (by rw[DJ h0];rfl) rfl (by show ¬ AB.rmV noF ((24:Nat):Int)=true;decide) rfl hspr eO hr c fz n;rw[fl] at ean;have hl:=RO dc fD;obtain⟨n1,n2,n3,n4,n5,n6,n7,G',g1,g2,g3⟩:=Pe fD k6;rw[k3] at ean hl n1 n2 n3 n4 n5 n6 n7 g1 g2 g3 rd3;generalize FrL K1 24 (8*(⟨true,0,0⟩:AB.St).k+(⟨true,0,0⟩:AB.St).i) s3 r3 R3=Z at *
 refine⟨Z.1,G',?_,⟨g1,g2,?_,?_,?_,?_,?_,?_,?_,?_,?_,?_,?_,?_⟩,?_⟩
 ·unfold cnK;rw[AI (by show ¬ false=true;decide),eF,AI (by simp)];dsimp only;rw[AI (by show ¬ ((-1:Int)≠-1/\_);simp),ean];show some (Z.1,MF Z.2)=_;rw[hl.1];rfl
 ·unfold Rm;rw[hl.2.2.2.1,k2];decide
 ·rw[hl.2.2.1];exact f3
 ·rw[hl.2.2.2.2.2.2.2.1];exact k6
 ·rw[g3.a];rfl
 ·rw[g3.z];rfl
 ·rw[hl.2.1,k4];rfl
 ·rw[hl.2.2.2.1,k2]
 ·rw[hl.2.2.2.2.1]
 ·rw[hl.2.2.2.2.2.1,k5]
 ·exact n7
 ·rw[hl.2.2.2.2.2.2.1,k7]
 ·have h00:Rdn 0 KO:=fun b _=>by
   rw[k1,k9,r1 b];show 0<=(0:Int)/\(0:Int)<=((0:Nat):Int)/\(0:Int)=min 0 65535;decide
  exact rd3 0 dc h00
 ·rw[hl.2.2.2.2.2.2.2.2,k8]
end
def sbS (B:Nat->Bool) (L:Nat->Int) (b:Nat):Int:=if B b=true then 3 else if 0<AC.lvK L 96 b then 2 else 0
def sbF (S:Nat->Int):Nat->Nat->(Nat->Int)->(Nat->Int)
 | 0,_,F=>F
 | n+1,i,F=>sbF S n (i+1) (AD.setF F (i:Nat) (S i))
theorem dW(B:Nat->Bool)(L:Nat->Int)(b:Nat):0<=sbS B L b/\sbS B L b<=3:=by
 unfold sbS;split
 ·omega
 ·split <;> omega
theorem Ph(A:Ad)(w:Wd)(K:BH)(h:CoreAt A w K)(c:AA.Bn)(hF:∀b,b<12->K.F b=0) :Calls prog 121 #[.pointer (some ⟨A.c,0,none⟩),.agg (AA.ckA c)] w fun e w'=>e=.returned (errV 0)/\CoreAt A w' { K with F:=sbF (sbS c.B K.L) 12 0 K.F }/\Chg (Cor A) w w':=by
 have HG0:Hid (Chg No w (w.alloc (.cells (AA.ckA c) 55))):=(Chg.refl _ w).alloc _;have HB0:=BE (AA.Ck.new w c);have HK0:=BE (h.chg0 HG0.out);have HNA:Hid (¬ Cor A w.heap.size):=h.apart (AM _);have q:=CA;have g:=BQ;have HF:=BE hF;obtain⟨X,HX⟩:∃X,Hid (sbF (sbS c.B K.L) 12 0 K.F=X):=⟨_,rfl⟩;rw[HX.out];obtain⟨c2,-⟩:=HK0.out.cMap;have hlv:=AC.IC _ A.ma K.L HK0.out.map;have hz0:=HB0.out.lt;clear h hF;go_enter func121,ntmps121;go_wp2_with fail;generalize w.alloc (.cells (AA.ckA c) 55)=w0 at *
 refine hlv.mono ?_;rintro e w1 ⟨rfl,I1,G1⟩;have HI:=BE I1;have HK1:=BE (HK0.out.chg0 G1);have HG1:=BE ((Chg.cor0 (A:=A) HG0.out).trans (Chg.cor0 (A:=A) G1));have HB1:=BE (HB0.out.chg G1 (fun f=>f));have HN:Hid (¬ Cor A w0.heap.size):=HK0.out.apart (AM _);clear hlv c2 I1 G1 HG0 HB0 HK0;go_wp2_with fail
 go_loopg [15] 12 (fun kx s15 wr=>∃(i:Nat) (F:Nat->Int),s15=.int .i64 i/\i<=12/\12 - i<=kx/\Hid (CoreAt A wr { K with F:=F })/\Hid (Chg (Cor A) w wr)/\Hid (IB wr w0.heap.size 3 12 (fun k=>(AC.lvK K.L 96 k:Nat)))/\Hid (AA.Ck wr w.heap.size c)/\Hid (∀b,i<=b->b<12->F b=0)/\Hid (sbF (sbS c.B K.L) (12 - i) i F=X))
 case atStart=>exact⟨0,K.F,rfl,om,om,HK1.out,HG1.out,HI.out,HB1.out,fun b _ hb=>HF.out b hb,HX.out⟩
 case round=>
  obtain⟨i,F,rfl,hi,hkx,HC,HG,HJ,HB,HZ,HE⟩:=hrel;by_cases hlt:i<12
  ·have hltz:(i:Int)<12:=om;obtain⟨ci,-⟩:=HJ.out.cell i hlt;have cb:=HB.out.B i hlt;obtain⟨m,hm⟩:∃m,12 - i=m+1:=⟨11 - i,om⟩;have hm2:12 - (i+1)=m:=om;have HE2:Hid (sbF (sbS c.B K.L) m (i+1) (AD.setF F (i:Nat) (sbS c.B K.L i))=X):=by
    have:=HE.out;rw[hm,sbF] at this;exact this
   have hst:=AD.SF wr A.po F HC.out.pool (i:Nat) (sbS c.B K.L i);have hr:=dW c.B K.L i;have hsc:AD.setC F (i:Nat) (sbS c.B K.L i)=0:=by
    unfold AD.setC;have:=HZ.out i (AM _) hlt;rw[AI om,AP,this,AI (by simp)]
   rw[hsc] at hst;have hwf:=HC.out.wf.st (i:Nat) (sbS c.B K.L i);have HWF:Hid (Wf { K with F:=AD.setF F (i:Nat) (sbS c.B K.L i) }):=hwf;have HM2:=BE hm2;have HZ2:Hid (∀b,i+1<=b->b<12->AD.setF F (i:Nat) (sbS c.B K.L i) b=0):=by
    intro b hb hb2;unfold AD.setF;rw[AJ hsc,AP];unfold upd;rw[AI om];exact HZ.out b om hb2
   obtain⟨d1,-⟩:=HC.out.cPool;have q0:∀w,(binOp .neq 46 (errV 0) .nilIface).run prog w=.ok (.bool false) w:=fun w=>q 0 w;replace ci:wr.cell? ⟨w0.heap.size,i,none⟩=some (.int .i64 ((AC.lvK K.L 96 i:Nat):Int)):=ci;have hsv:sbS c.B K.L i=if c.B i=true then 3 else if 0<AC.lvK K.L 96 i then 2 else 0:=rfl;clear hm hm2 HE hr hsc hwf q HZ;generalize AD.setF F (i:Nat) (sbS c.B K.L i)=F2 at *
   generalize sbS c.B K.L i=sv at *
   generalize AC.lvK K.L 96 i=lv at *
   generalize c.B i=bb at *
   have fin:∀w3:World,IB w3 A.po 177 13 F2->Chg (·=A.po) wr w3->CoreAt A w3 { K with F:=F2 }/\Chg (Cor A) w w3/\IB w3 w0.heap.size 3 12 (fun k=>(AC.lvK K.L 96 k:Nat))/\AA.Ck w3 w.heap.size c:=fun _ h3 g3=>
    ⟨HC.out.setPool h3 g3 HWF.out,HG.out.trans g3.cor_po,HJ.out.chg g3.cor_po HN.out,HB.out.chg g3.cor_po HNA.out⟩
   have HFI:=BE fin;clear fin;cases bb
   ·by_cases h0:0<lv
    ·have h0z:(0:Int)<(lv:Nat):=om;rw[AI (by simp),AJ h0] at hsv;subst hsv;clear h0;go_wp2_with fail;refine hst.mono ?_;rintro e w3 ⟨rfl,h3,g3⟩;obtain⟨k3,e3,i3,b3⟩:=HFI.out w3 h3 g3;have HK3:=BE k3;have HG3:=BE e3;have HI3:=BE i3;have HB3:=BE b3;clear hst h3 g3 k3 e3 i3 b3 HC HG HJ HB HFI;go_wp2
     go_roundg (12 - (i+1))
     case measure=>omega
     case rel=>exact⟨i+1,F2,by simp,om,AM _,HK3.out,HG3.out,HI3.out,HB3.out,HZ2.out,by rw[HM2.out];exact HE2.out⟩
    ·have h0z:¬ (0:Int)<(lv:Nat):=om;rw[AI (by simp),AI h0] at hsv;subst hsv;clear h0;go_wp2_with fail;refine hst.mono ?_;rintro e w3 ⟨rfl,h3,g3⟩;obtain⟨k3,e3,i3,b3⟩:=HFI.out w3 h3 g3;have HK3:=BE k3;have HG3:=BE e3;have HI3:=BE i3;have HB3:=BE b3;clear hst h3 g3 k3 e3 i3 b3 HC HG HJ HB HFI;go_wp2
     go_roundg (12 - (i+1))
     case measure=>omega
     case rel=>exact⟨i+1,F2,by simp,om,AM _,HK3.out,HG3.out,HI3.out,HB3.out,HZ2.out,by rw[HM2.out];exact HE2.out⟩
   ·rw[AJ rfl] at hsv;subst hsv;by_cases h0:0<lv
    ·have h0z:(0:Int)<(lv:Nat):=om;clear h0;go_wp2_with fail;refine hst.mono ?_;rintro e w3 ⟨rfl,h3,g3⟩;obtain⟨k3,e3,i3,b3⟩:=HFI.out w3 h3 g3;have HK3:=BE k3;have HG3:=BE e3;have HI3:=BE i3;have HB3:=BE b3;clear hst h3 g3 k3 e3 i3 b3 HC HG HJ HB HFI;go_wp2
     go_roundg (12 - (i+1))
     case measure=>omega
     case rel=>exact⟨i+1,F2,by simp,om,AM _,HK3.out,HG3.out,HI3.out,HB3.out,HZ2.out,by rw[HM2.out];exact HE2.out⟩
    ·have h0z:¬ (0:Int)<(lv:Nat):=om;clear h0;go_wp2_with fail;refine hst.mono ?_;rintro e w3 ⟨rfl,h3,g3⟩;obtain⟨k3,e3,i3,b3⟩:=HFI.out w3 h3 g3;have HK3:=BE k3;have HG3:=BE e3;have HI3:=BE i3;have HB3:=BE b3;clear hst h3 g3 k3 e3 i3 b3 HC HG HJ HB HFI;go_wp2
     go_roundg (12 - (i+1))
     case measure=>omega
     case rel=>exact⟨i+1,F2,by simp,om,AM _,HK3.out,HG3.out,HI3.out,HB3.out,HZ2.out,by rw[HM2.out];exact HE2.out⟩
  ·have hltz:¬ (i:Int)<12:=om;have e:i=12:=om;subst e;have HE3:Hid (F=X):=HE.out;go_wp2;go_ret;rw[<-HE3.out];exact⟨rfl,HC.out,HG.out⟩
section
variable {b:Nat}{o:Oper}{a:Act}(A:Ad)(w:Wd)(K:BH)
theorem dX:(binOp .neq 46 .nilIface .nilIface).run prog w=.ok (.bool false) w:=kr
theorem LL(of ab:Int):AE.newest [] of ab=none:=by
 have e2:AE.lat [] of ab=[]:=eq_nil_iff_forall_not_mem.2 fun f hf=>by cases (AE.H7.1 hf).1
 unfold AE.newest;rw[e2];rfl
theorem jg(c:AA.Bn):AE.lv [] c=fun _=>-1:=by
 funext i;unfold AE.lv;rw[show List.filter (AE.gd c) []=[] from rfl,LL]
theorem nG:AE.mG [] AA.ck0=1:=dc
theorem nH:false=true<->nT [] AA.ck0:=by
 constructor
 ·intro e;cases e
 ·rintro (⟨o,_,h⟩ | ⟨i,_,h⟩)
  ·exact absurd (LL _ _) h
  ·exact absurd (show (0:Int)=1099511627775 from h) dc
theorem nI:AE.lA AA.ck0:=⟨fun _ _=>by show _<=(0:Int)/\(0:Int)<=_;decide,by show _<=(0:Int)/\(0:Int)<=_;decide⟩
theorem nJ:AA.Qp AA.ck0:=(AA.Mm AA.ck0 ⟨fun _ _=>by show _<=(0:Int)/\(0:Int)<=_;decide,by show _<=(0:Int)/\(0:Int)<=_;decide,by show _<=(0:Int)/\(0:Int)<=_;decide,fun _ _=>by show _<=(0:Int)/\(0:Int)<=_;decide,fun _ _=>by show _<=(0:Int)/\(0:Int)<=_;decide⟩).2 ⟨fun _ _=>by show 0<=(0:Int)/\(0:Int)<=_;decide,by show 0<=(0:Int)/\(0:Int)<=_;decide,by show 0<=(0:Int)/\(0:Int)<=_;decide,fun _ _=>by show 0<=(0:Int)/\(0:Int)<=_;decide,fun _ _=>by show 0<=(0:Int)/\(0:Int)<=_;decide⟩
theorem dY(f:Nat->Int)(i:Nat)(hi:i<25)(w:Wd):(Instr.index 37 (.agg (ints f 25).toArray) (.int .i64 i)).run prog w=.ok (.int .i64 (f i)) w:=by
 have h:=BU f 25 i hi;generalize ints f 25=L at *
 simp[Instr.index,run_underlying underlying37,asIntOf,go_sem,hi,h,i6]
theorem NV(h:CoreAt A w K):Calls prog 120 #[.pointer (some ⟨A.c,0,none⟩),.slice none 0 0,.agg (AA.ckA AA.ck0)] w fun e w'=>e=.returned .nilIface/\CoreAt A w' K/\Chg No w w':=by
 have HB0:=BE (AA.Ck.new w AA.ck0);have HG0:Hid (Chg No w (w.alloc (.cells (AA.ckA AA.ck0) 55))):=(Chg.refl _ w).alloc _;have HK0:=BE (h.chg0 HG0.out);clear h;have hix:=dY (fun _=>-1);go_enter func120,ntmps120;go_wp2_with (refine AA.Ba rfl (.tmp 5) rfl w.heap.size rfl HB0.out ?_);generalize w.alloc (.cells (AA.ckA AA.ck0) 55)=w0 at *
 have hlv:=AE.iB w0 AA.ck0;rw[jg] at hlv;refine hlv.mono ?_;rintro e w1 ⟨rfl,G1⟩;have HG1:=BE (HG0.out.trans G1);have HK1:=BE (HK0.out.chg0 G1);clear G1 hlv HG0 HK0;go_wp2_with fail
 go_loopg [15] 25 (fun kx s15 wr=>∃i:Nat,s15=.int .i64 i/\i<=25/\25 - i<=kx/\wr=w1)
 case atStart=>exact⟨0,rfl,om,om,rfl⟩
 case round=>
  obtain⟨i,rfl,hi,hkx,rfl⟩:=hrel;by_cases hlt:i<25
  ·have hltz:(i:Int)<25:=om;have hi0:(0:Int)<=i:=om;have hx:=hix i hlt;go_wp2
   go_roundg (25 - (i+1))
   case measure=>omega
   case rel=>exact⟨i+1,by simp,om,AM _,rfl⟩
  ·have hltz:¬ (i:Int)<25:=om;go_wp2;go_ret;exact⟨rfl,HK1.out,HG1.out⟩
theorem jh:(prog.info? 52).map (·.size)=some 24:=kr
theorem ji{w:Wd}(h:w.rangeAt b 0 (AA.ckL AA.ck0)):w.rangeAt b 0 (ints AA.ck0.F 24):=fun j v hv=>h j v (by
 have hj:=(List.getElem?_eq_some_iff.1 hv).1
 unfold AA.ckL
 rw[Af hj]
 exact hv)
theorem Ck.part{w:Wd}{c:AA.Bn}(h:AA.Ck w b c):w.rangeAt b 0 (AA.ckL c):=fun j v hv=>by
 rw[AW]
 exact h.cell j hv
def corL (A:Ad) (K:BH):List Value:=(List.range 101).map (kc A K)
theorem Pi:(corL A K).length=101:=by simp[corL]
theorem Y4(A:Ad)(s:BM)(tl:List Nat->Int->Pg):(Instr.build 105 #[(0,.pointer (some ⟨A.m,0,none⟩)),(1,.pointer (some ⟨A.po,0,none⟩)),(2,.pointer (some ⟨A.ma,0,none⟩)),(4,.agg (ints AA.ck0.F 24).toArray),(5,.int .i64 1),(6,.bool false),(8,.pointer (some ⟨A.pa,0,none⟩)),(10,.pointer (some ⟨A.h,0,none⟩))]).run prog w=.ok (.agg (corL A (K0 s tl)).toArray) w:=kr
theorem Le{w:Wd}{x1 x2 x3 x4 x5 x6 x7 x8:Operand}{A:Ad}{s:BM}{tl:List Nat->Int->Pg}(ho:o.op=.build 105 #[(0,x1),(1,x2),(2,x3),(4,x4),(5,x5),(6,x6),(8,x7),(10,x8)])(h1:a.eval x1=.pointer (some ⟨A.m,0,none⟩))(h2:a.eval x2=.pointer (some ⟨A.po,0,none⟩))(h3:a.eval x3=.pointer (some ⟨A.ma,0,none⟩))(h4:a.eval x4=.agg (ints AA.ck0.F 24).toArray)(h5:a.eval x5=.int .i64 1)(h6:a.eval x6=.bool false)(h7:a.eval x7=.pointer (some ⟨A.pa,0,none⟩))(h8:a.eval x8=.pointer (some ⟨A.h,0,none⟩)):(execOp a.eval o).run prog w=.ok (.value (.agg (corL A (K0 s tl)).toArray)) w:=by
 have hb:=Y4 w A s tl;unfold execOp;rw[ho];simp only[map_toArray,map_cons,map_nil,h1,h2,h3,h4,h5,h6,h7,h8];generalize Instr.build 105 #[(0,.pointer (some ⟨A.m,0,none⟩)),(1,.pointer (some ⟨A.po,0,none⟩)),(2,.pointer (some ⟨A.ma,0,none⟩)),(4,.agg (ints AA.ck0.F 24).toArray),(5,.int .i64 1),(6,.bool false),(8,.pointer (some ⟨A.pa,0,none⟩)),(10,.pointer (some ⟨A.h,0,none⟩))]=b at *
 simp[hb]
theorem Pj{ops:Array Oper}{w:Wd}{K:Act->World->Prop}{Q:Exit->Act->World->Prop}{E:Prop}(hgd:o.guard=none)(x:Operand)(ho:o.op=.box 105 x){C:Array Value}(hx:a.eval x=.agg C)(h:K (a.put o.dst (.pointer (some ⟨w.heap.size,0,none⟩))) (w.alloc (.cells C 105))):if Region.wanted o (yielded ops a.tmps)=true then Oper.wp prog o a w K Q else E:=by
 rw[AJ (by simp[Region.wanted,hgd])];unfold Oper.wp;simp[execOp,ho,hx,Instr.box,newVar,Value.cells,newRow];exact h
theorem dZ(A:Ad)(K:BH)(hA:A.c=w.heap.size)(hq:K.qu=[]):AF.QB (w.alloc (.cells (corL A K).toArray 105)) A.c 105 101 (kc A K) 83 K.qu:=by
 rw[hq,hA];refine⟨fun _=>0,⟨⟨(corL A K).toArray,by show (w.heap.push _)[w.heap.size]?=_;simp,by simp[Pi],fun i hi=>?_⟩,dc⟩,rfl,fun i hi=>by cases hi⟩;have e:(corL A K).toArray[i]?=some (kc A K i):=by simp[corL,hi]
 rw[e];by_cases c:83<=i/\i<96
 ·obtain⟨k,rfl⟩:∃k,i=83+k:=⟨i - 83,om⟩;rw[AF.CJ _ _ _ _ _ om];unfold kc;rw[AI om,AI om,AI om,AI om,AI om,AI om,AI om,AI om,AI om,AI om,AI om,AJ om]
 ·rw[AF.Cc _ _ _ _ _ om]
theorem oQ:sbF (sbS AA.ck0.B (fun _=>-1)) 12 0 (fun _=>0)=fun _=>0:=by
 have hS:∀b,b<12->sbS AA.ck0.B (fun _=>-1) b=0:=fun b hb=>by
  unfold sbS;rw[AI (by show ¬ false=true;decide),AI];rw[AC.Mz _ hb];have:=NN Pf b;intro e;cases hl:AC.ofL (fun _=>-1) b with
  | nil=>rw[hl] at e;exact absurd e dc
  | cons x l=>
   have h2:=(this.1 x.toNat (by rw[hl];simp)).2.1;exact h2 rfl
 have:∀n i,i+n<=12->sbF (sbS AA.ck0.B (fun _=>-1)) n i (fun _=>0)=fun _=>0:=by
  intro n
  induction n with
  | zero=>intro i _;rfl
  | succ n ih=>
   intro i hi;rw[sbF,hS i om];have e:AD.setF (fun _=>0) (i:Nat) 0=fun _=>0:=by
    unfold AD.setF;split
    ·exact ll _
    ·rfl
   rw[e];exact ih (i+1) om
 exact this 12 0 (AM _)
def Far (A:Ad) (g n:Nat):Prop:=A.g=g/\n<=A.c/\n<=A.m/\n<=A.p/\n<=A.q/\n<=A.b/\n<=A.po/\n<=A.ma/\n<=A.pa/\n<=A.h
theorem U2(g:Nat)(s:BM)(hs:s.Ok)(tl:List Nat->Int->Pg)(htl:∀L n,ToldR L n (tl L n))(w:Wd)(h:BI w g s) :Calls prog 64 #[.pointer (some ⟨g,0,none⟩),.agg (AA.ckA AA.ck0),.slice none 0 0] w fun e w'=>∃A,Far A g w.heap.size/\e=.returned (.tuple #[.pointer (some ⟨A.c,0,none⟩),errV 0])/\CoreAt A w' (K0 s tl)/\Chg (·=g) w w':=by
 have HC:=BE h;have HWF:=BE (nC hs htl);have HB0:=BE (AA.Ck.new w AA.ck0);have HG0:Hid (Chg No w (w.alloc (.cells (AA.ckA AA.ck0) 55))):=(Chg.refl _ w).alloc _;have q:=dX;clear h hs htl;go_enter func64,ntmps64;go_wp2_with (refine AA.Ba rfl (.tmp 4) rfl w.heap.size rfl HB0.out ?_);generalize w.alloc (.cells (AA.ckA AA.ck0) 55)=w0 at *
 refine(AA.Lx w0 AA.ck0 nJ).mono ?_;rintro e w1 ⟨gp,rfl,-,-,G1⟩;have HG1:=BE (HG0.out.trans G1);have HB1:=BE (HB0.out.chg G1 (fun f=>f));have k37:w1.cell? ⟨w.heap.size,37,none⟩=some (.int .i64 0):=HB1.out.C;clear G1 HG0 HB0;go_wp2_with fail;refine(AF.M9 w1 0 dc).mono ?_;rintro e w2 ⟨rfl,P2,G2⟩;have HP2:=BE P2;have HG2:=BE (HG1.out.trans G2);have HB2:=BE (HB1.out.chg G2 (fun f=>f));have hz2:w.heap.size<=w1.heap.size:=HG1.out.size;have hw2:w1.heap.size<w2.heap.size:=HP2.out.lt;clear P2 G2 HG1 HB1 k37;have HNW:Hid (∀u,AA.Ck u w.heap.size AA.ck0->Calls prog 114 #[.slice (some ⟨w.heap.size,38,none⟩) 12 12,.slice (some ⟨w.heap.size,50,none⟩) 12 12] u fun e w'=>e=.returned (.tuple #[.pointer (some ⟨u.heap.size,0,none⟩),.nilIface])/\AG.HB w' u.heap.size 180 (AG.lim 65535 (fun _=>0)) (AG.lim 65535 (fun _=>0)) (AG.lim 255 (fun _=>0))/\Chg No u w'):=fun u hu=>
  AG.M9 u (some ⟨w.heap.size,38,none⟩) (some ⟨w.heap.size,50,none⟩) 12 12 12 12 (fun _=>0) (fun _=>0) (AL ⟨_,_,rfl,hu.lt,fun i hi=>hu.R i hi⟩) (AL ⟨_,_,rfl,hu.lt,fun i hi=>hu.S i hi⟩) ((AG.GL _ _).2 ⟨rfl,fun _ _=>Int.le_refl _⟩) ((AG.GL _ _).2 ⟨rfl,fun _ _=>Int.le_refl _⟩)
 have k38:w2.drew.cell? ⟨w.heap.size,38,none⟩=some (.int .i64 0):=HB2.out.R 0 dc;go_wp2_with fail
 go_region_held3 (fun wx=>wx.cell? ⟨w.heap.size,38,none⟩=some (.int .i64 0))
  (first | exact k38 | exact k38')
  (first | (go_at_call 114;refine(HNW.out _ (HB2.out.chg ((Chg.refl No w2).drewN 1) (fun f=>f))).mono ?_;rintro e w3 ⟨rfl,H3,G3⟩;have k38':=(HB2.out.chg (((Chg.refl No w2).drewN 1).trans G3) (fun f=>f)).R 0 dc;have HH3:=BE H3;have HG3:=BE (((Chg.refl No w2).drewN 1).trans G3)))
 have HB3:=BE (HB2.out.chg HG3.out (fun f=>f));have HP3:=BE (HP2.out.chg HG3.out (fun f=>f));have HGa:=BE (HG2.out.trans HG3.out);have hh3:w2.heap.size<w3.heap.size:=HH3.out.lt;go_wp2_with fail;have HBD:Hid (AA.Ck w3.drew w.heap.size AA.ck0):=HB3.out;have HGD:Hid (Chg No w w3.drew):=HGa.out.drew;refine wp_region_noPanic ?_;refine wp_region_held_drew (S:=fun wx=>wx.rangeAt w.heap.size 0 (AA.ckL AA.ck0)) kr (Ck.part HBD.out) (fun hHeld=>?_);refine Ab (i:=0) rfl kr kr kr (fun _ _ _ h=>h) (AK ⟨rfl,fun _ _=>rfl⟩) hHeld ?_;simp only[Act.put,getElem_toArray,getElem_cons_zero,setIfInBounds_toArray,set_cons_zero,set_cons_succ];refine Ab (i:=4) rfl kr kr kr (fun _ _ _ h=>h) (AK ⟨rfl,fun _ _=>rfl⟩) hHeld ?_
 try simp only[Act.put,bu]
 refine Ab (i:=5) rfl kr kr kr (fun _ _ _ h=>h) (yieldsIf_load_mid rfl 52 _ rfl w.heap.size 0 rfl (ints AA.ck0.F 24) _ (fun w hw=>ji hw) underlying52 rfl (by rw[BF];exact jh)) hHeld ?_
 try simp only[Act.put,bu]
 refine Ab (i:=6) rfl kr kr kr (fun _ _ _ h=>h) (AK ⟨rfl,fun _ _=>rfl⟩) hHeld ?_
 try simp only[Act.put,bu]
 refine Ab (i:=7) rfl kr kr kr (fun _ _ _ h=>h) (yieldsIf_load_mid rfl 55 _ rfl w.heap.size 0 rfl (AA.ckL AA.ck0) _ (fun w hw=>hw) underlying55 rfl (by rw[AA.Gm];exact AA.E7)) hHeld ?_
 try simp only[Act.put,bu]
 refine Ab (i:=9) rfl kr kr kr (fun _ _ _ h=>h) (AK ⟨rfl,fun _ _=>rfl⟩) hHeld ?_
 try simp only[Act.put,bu]
 refine Ab (i:=10) rfl kr kr kr (fun _ _ _ h=>h) (yieldsIf_load_mid rfl 55 _ rfl w.heap.size 0 rfl (AA.ckL AA.ck0) _ (fun w hw=>hw) underlying55 rfl (by rw[AA.Gm];exact AA.E7)) hHeld ?_
 try simp only[Act.put,bu]
 refine Ab (i:=12) rfl kr kr kr (fun _ _ _ h=>h) (AK ⟨rfl,fun _ _=>rfl⟩) hHeld ?_
 try simp only[Act.put,bu]
 refine Ab (i:=13) rfl kr kr kr (fun _ _ _ h=>h) (AK ⟨rfl,fun _ _=>rfl⟩) hHeld ?_
 try simp only[Act.put,bu]
 refine wpAnyH_ready (rs:=[1]) kr (by simp) ?_;refine AllReadyH.cons rfl (fun K' hK=>?_) AllReadyH.nil;go_simp;refine(Wj g _).mono ?_;rintro e w5 ⟨m,p,q,b,rfl,hlt5,hM5,G5⟩;have HM5:=BE hM5;have HG5:=BE (HGD.out.trans G5);have HL5:=BE hlt5;have hz35:w3.heap.size<=w5.heap.size:=G5.size;have G35:Hid (Chg No w3 w5):=((Chg.refl No w3).drewN 1).trans G5;refine hK.out _ _ (Ck.part (HBD.out.chg G5 (fun f=>f))) (fun hHeld=>?_);have HB5:=BE (HBD.out.chg G5 (fun f=>f));clear hK K' hM5 hlt5 G5
 try simp only[Act.put,bu]
 refine wpAnyH_ready (rs:=[2]) kr (by simp) ?_;refine AllReadyH.cons rfl (fun K' hK=>?_) AllReadyH.nil;go_simp;refine(AD.He _).mono ?_;rintro e w6 ⟨rfl,hP6,G6⟩;have HP6:=BE hP6;have HG6:=BE G6;refine hK.out _ _ (Ck.part (HB5.out.chg G6 (fun f=>f))) (fun hHeld=>?_);have HB6:=BE (HB5.out.chg G6 (fun f=>f));clear hK K' hP6 G6
 try simp only[Act.put,bu]
 refine wpAnyH_ready (rs:=[3]) kr (by simp) ?_;refine AllReadyH.cons rfl (fun K' hK=>?_) AllReadyH.nil;go_simp;refine(AC.He _).mono ?_;rintro e w7 ⟨rfl,hQ7,G7⟩;have HQ7:=BE hQ7;have HG7:=BE G7;refine hK.out _ _ (Ck.part (HB6.out.chg G7 (fun f=>f))) (fun hHeld=>?_);have HB7:=BE (HB6.out.chg G7 (fun f=>f));clear hK K' hQ7 G7
 try simp only[Act.put,bu]
 refine wpAnyH_ready (rs:=[8]) kr (by simp) ?_;refine AllReadyH.cons rfl (fun K' hK=>?_) AllReadyH.nil;go_simp;refine(AE.XH w7 none 0 [] 0 rfl (AE.Ow.nil w7 0).sl dc AA.ck0 nI).mono ?_;rintro e w8 ⟨rfl,G8⟩;have HG8:=BE G8;refine hK.out _ _ (Ck.part (HB7.out.chg G8 (fun f=>f))) (fun hHeld=>?_);have HB8:=BE (HB7.out.chg G8 (fun f=>f));clear hK K' G8;rw[nG]
 try simp only[Act.put,bu]
 refine wpAnyH_ready (rs:=[11]) kr (by simp) ?_;refine AllReadyH.cons rfl (fun K' hK=>?_) AllReadyH.nil;go_simp;refine(Ux w8 AA.ck0 (b:=false) nH).mono ?_;rintro e w9 ⟨rfl,G9⟩;have HG9:=BE G9;refine hK.out _ _ (Ck.part (HB8.out.chg G9 (fun f=>f))) (fun hHeld=>?_);have HB9:=BE (HB8.out.chg G9 (fun f=>f));clear hK K' G9
 try simp only[Act.put,bu]
 refine Ab (i:=14) rfl kr kr kr (fun _ _ _ h=>h) (AK ⟨rfl,fun _ _=>Le (A:=⟨w9.heap.size,m,g,p,q,b,w5.heap.size,w6.heap.size,w1.heap.size,w2.heap.size⟩) (s:=s) (tl:=tl) rfl rfl rfl rfl rfl rfl rfl rfl rfl⟩) hHeld ?_
 try simp only[Act.put,bu]
 refine wpAnyH_ready (rs:=[15]) kr (by simp) ?_;refine AllReadyH.cons rfl (fun K' hK=>?_) AllReadyH.nil;refine Pj rfl (.tmp 57) rfl rfl ?_;refine hK.out _ _ (Ck.part (HB9.out.alloc _)) (fun hHeld=>?_);clear hK K'
 try simp only[Act.put,bu]
 refine Ab (i:=16) rfl kr kr kr (fun _ _ _ h=>h) (AK ⟨rfl,fun _ _=>rfl⟩) hHeld ?_
 try simp only[Act.put,bu]
 clear hHeld;refine wpAnyH_done kr ?_ _;refine NoPanic.normal ?_;have G510:Chg No w5 (w9.alloc (.cells (corL ⟨w9.heap.size,m,g,p,q,b,w5.heap.size,w6.heap.size,w1.heap.size,w2.heap.size⟩ (K0 s tl)).toArray 105)):=(((HG6.out.trans HG7.out).trans HG8.out).trans HG9.out).alloc _;have hsz5:w3.heap.size<=w5.heap.size/\w.heap.size<=w3.heap.size:=⟨hz35,HGa.out.size⟩;have hsz9:w5.heap.size<=w9.heap.size/\w5.heap.size<=w6.heap.size:=⟨(((HG6.out.trans HG7.out).trans HG8.out).trans HG9.out).size,HG6.out.size⟩;have HK:Hid (CoreAt ⟨w9.heap.size,m,g,p,q,b,w5.heap.size,w6.heap.size,w1.heap.size,w2.heap.size⟩ (w9.alloc (.cells (corL ⟨w9.heap.size,m,g,p,q,b,w5.heap.size,w6.heap.size,w1.heap.size,w2.heap.size⟩ (K0 s tl)).toArray 105)) (K0 s tl)):=by
  obtain⟨lm,lp,lq,lb⟩:=HM5.out.lts;have el:AG.lim 65535 (fun _=>0)=fun _=>0:=by funext i;show min (0:Int) 65535=0;decide
  have el2:AG.lim 255 (fun _=>0)=fun _=>0:=by funext i;show min (0:Int) 255=0;decide
  have hH:=HH3.out;rw[el,el2] at hH;refine⟨dZ w9 _ _ rfl rfl,⟨(G510.block m lm (fun f=>f)).trans HM5.out.1,HM5.out.2.other (G510.block b lb (fun f=>f)) (G510.block q lq (fun f=>f)) (G510.block p lp (fun f=>f))⟩,HC.out.chg (HG5.out.trans G510) (fun f=>f),HP6.out.chg (((HG7.out.trans HG8.out).trans HG9.out).alloc _) (fun f=>f),IB.chg HQ7.out ((HG8.out.trans HG9.out).alloc _) (fun f=>f),IB.chg HP3.out ((G35.out.trans G510)) (fun f=>f),IB.chg hH ((G35.out.trans G510)) (fun f=>f),HWF.out⟩
 have HB10:=BE (HB9.out.alloc (.cells (corL ⟨w9.heap.size,m,g,p,q,b,w5.heap.size,w6.heap.size,w1.heap.size,w2.heap.size⟩ (K0 s tl)).toArray 105));have HG10:=BE (HG5.out.trans G510);have HFAR:Hid (Far ⟨w9.heap.size,m,g,p,q,b,w5.heap.size,w6.heap.size,w1.heap.size,w2.heap.size⟩ g w.heap.size):=by
  obtain⟨l1,l2,l3,l4⟩:=HL5.out;have l1':w3.heap.size<=m:=l1;have l2':w3.heap.size<=p:=l2;have l3':w3.heap.size<=q:=l3;have l4':w3.heap.size<=b:=l4;exact⟨rfl,by show w.heap.size<=w9.heap.size;omega,by show w.heap.size<=m;omega,by show w.heap.size<=p;omega,by show w.heap.size<=q;omega,by show w.heap.size<=b;omega,by show w.heap.size<=w5.heap.size;omega,by show w.heap.size<=w6.heap.size;omega,by show w.heap.size<=w1.heap.size;omega,by show w.heap.size<=w2.heap.size;omega⟩
 generalize w9.alloc (.cells (corL ⟨w9.heap.size,m,g,p,q,b,w5.heap.size,w6.heap.size,w1.heap.size,w2.heap.size⟩ (K0 s tl)).toArray 105)=w10 at *
 clear HM5 HP6 HQ7 HG6 HG7 HG8 HG9 HB5 HB6 HB7 HB8 HB9 HG5 HL5 HBD HGD HH3 HG3 HB3 HP3 HGa HB2 HP2 HG2 HNW HC HWF G510 G35;go_wp2_with (refine AA.Ba rfl (.tmp 4) rfl w.heap.size rfl HB10.out ?_);refine(NV _ w10 _ HK.out).mono ?_;rintro e w11 ⟨rfl,K11,G11⟩;have HK11:=BE K11;have HG11:=BE (HG10.out.trans G11);have HB11:=BE (HB10.out.chg G11 (fun f=>f));clear K11 G11 HK HG10 HB10;go_wp2_with (refine AA.Ba rfl (.tmp 4) rfl w.heap.size rfl HB11.out ?_);refine(Ph _ w11 _ HK11.out AA.ck0 (fun _ _=>rfl)).mono ?_;rintro e w12 ⟨rfl,K12,G12⟩;have HK12:=BE K12;have HG12:Hid (Chg (·=g) w w12):=(HG11.out.mono (fun _ _ f=>f.elim)).trans' G12 (fun k hk e=>by
  obtain⟨f0,f1,f2,f3,f4,f5,f6,f7,f8,f9⟩:=HFAR.out
  rcases e with e | e | e | e | e | e | e | e
  ·
   omega
  ·
   omega
  ·
   exact e
  ·
   omega
  ·
   omega
  ·
   omega
  ·
   omega
  ·
   omega)
 clear K12 G12;go_wp2;go_ret2;refine⟨_,HFAR.out,rfl,?_,HG12.out⟩;have:=HK12.out;have e5:({ K0 s tl with F:=sbF (sbS AA.ck0.B (K0 s tl).L) 12 0 (K0 s tl).F }:BH)=K0 s tl:=by
  show ({ K0 s tl with F:=sbF (sbS AA.ck0.B (fun _=>-1)) 12 0 (fun _=>0) }:BH)=K0 s tl;rw[oQ];rfl
 rw[e5] at this;exact this
theorem da(g:Nat)(w:Wd):(binOp .eql 24 (.pointer (some ⟨g,0,none⟩)) (.pointer none)).run prog w=.ok (.bool false) w:=kr
theorem db(g:Nat)(s:BM)(hs:s.Ok)(tl:List Nat->Int->Pg)(htl:∀L n,ToldR L n (tl L n))(w:Wd)(h:BI w g s) :Calls prog 24 #[.pointer (some ⟨g,0,none⟩),.agg (AA.ckA AA.ck0),.slice none 0 0] w fun e w'=>∃A,Far A g w.heap.size/\e=.returned (.tuple #[.pointer (some ⟨A.c,0,none⟩),.nilIface])/\CoreAt A w' (K0 s tl)/\Chg (·=g) w w':=by
 have HB0:=BE (AA.Ck.new w AA.ck0);have HG0:Hid (Chg No w (w.alloc (.cells (AA.ckA AA.ck0) 55))):=(Chg.refl _ w).alloc _;have hsz:(w.alloc (.cells (AA.ckA AA.ck0) 55)).heap.size=w.heap.size+1:=World.size_alloc _ _;have hbg:=U2 g s hs tl htl (w.alloc (.cells (AA.ckA AA.ck0) 55)) (h.chg HG0.out (fun f=>f));have q:=CA;have q0:∀w,(binOp .neq 46 (errV 0) .nilIface).run prog w=.ok (.bool false) w:=fun w=>q 0 w;have gq:=BQ;have HS:=BE hsz;clear h hs htl hsz q;go_enter func24,ntmps24;go_wp2_with (refine AA.Ba rfl (.tmp 4) rfl w.heap.size rfl HB0.out ?_);refine hbg.mono ?_;rintro e w1 ⟨A,hF,rfl,hK,hG⟩;have HK:=BE hK;have HG:=BE ((HG0.out.mono (T:=(·=g)) (fun _ _ f=>f.elim)).trans hG);have HF:Hid (Far A g w.heap.size):=by
  obtain⟨f0,f1,f2,f3,f4,f5,f6,f7,f8,f9⟩:=hF;have:=HS.out;exact⟨f0,om,om,om,om,om,om,om,om,om⟩
 clear hbg hK hG hF;go_wp2;go_ret2;exact⟨A,HF.out,rfl,HK.out,HG.out⟩
theorem new_nil(c:AA.Bn):Calls prog 24 #[.pointer none,.agg (AA.ckA c),.slice none 0 0] w fun e w'=>e=.returned (.tuple #[.pointer none,errV 1])/\Chg No w w':=by
 have HG0:Hid (Chg No w (w.alloc (.cells (AA.ckA c) 55))):=(Chg.refl _ w).alloc _;go_enter func24,ntmps24;go_wp2;go_ret2;exact⟨rfl,HG0.out⟩
end
end Go.Proofs.YtmdpnpjacfedpaaGreat
namespace Go.Proofs.YtmdpnpjacfedpaaGreat
open List
open Go.Proofs.Tryz
open Go.RowKit
open Go.Proofs.YtmdpnpjacfedpaaGreat.AE (Bc snd cnd UH lat Jp newest best pk Gp lv gd flo)
def fnd (p:Nat) (t:CP):Bc:=((p:Int),(t.p:Int),(t.o:Int),(t.q:Int),(t.c:Int),t.l)
def jj (T:Fq) (p:Nat):List Bc:=match T p with
 | some x=>[fnd p x.1]
 | none=>[]
def tbL (T:Fq):Nat->List Bc
 | 0=>[]
 | n+1=>tbL T n ++ jj T n
theorem RP(T:Fq)(p:Nat):(jj T p).length<=1:=by
 unfold jj;split <;> simp
theorem Gz(T:Fq):∀n,(tbL T n).length<=n:=by
 intro n
 induction n with
 | zero=>exact AM _
 | succ n ih=>
  rw[tbL,AV];have:=RP T n;omega
theorem de{T:Fq}{p:Nat}{f:Bc}:f ∈ jj T p<->∃t D,T p=some (t,D)/\f=fnd p t:=by
 unfold jj;cases h:T p with
 | none=>simp
 | some x=>
  obtain⟨t,D⟩:=x;constructor
  ·intro hf;exact⟨t,D,rfl,mem_singleton.1 hf⟩
  ·rintro ⟨t',D',e,rfl⟩;cases e
   exact mem_singleton.2 rfl
theorem Jw{T:Fq}{f:Bc}:∀n,f ∈ tbL T n<->∃p t D,p<n/\T p=some (t,D)/\f=fnd p t:=by
 intro n
 induction n with
 | zero=>simp[tbL]
 | succ n ih=>
  rw[tbL,Am,ih,de];constructor
  ·rintro (⟨p,t,D,h1,h2,h3⟩ | ⟨t,D,h2,h3⟩)
   ·exact⟨p,t,D,om,h2,h3⟩
   ·exact⟨n,t,D,om,h2,h3⟩
  ·rintro ⟨p,t,D,h1,h2,h3⟩;by_cases e:p=n
   ·subst e;exact AL ⟨t,D,h2,h3⟩
   ·exact AK ⟨p,t,D,om,h2,h3⟩
theorem U3{g:Bc}{v:Int}(hv:0<=v/\v<256)(hg:g.C=v):∀(r:List Bc) (x:Bc),(x=g\/g ∈ r)->(∀f ∈ x :: r,f=g\/f.C=(v+1) % 256)->best x r=g:=by
 have a1:Gp v v=false:=by unfold Gp;simp
 have a2:Gp ((v+1) % 256) v=false:=by
  unfold Gp;simp only[Bool.and_eq_false_iff,decide_eq_false_iff_not];right;omega
 have a3:Gp v ((v+1) % 256)=true:=by
  unfold Gp;simp only[Ao,Al];omega
 have a4:Gp ((v+1) % 256) ((v+1) % 256)=false:=by unfold Gp;simp
 intro r
 induction r with
 | nil=>
  intro x h _;rcases h with h | h
  ·exact h
  ·cases h
 | cons y r ih=>
  intro x h hall;show best (if Gp y.C x.C then y else x) r=g;have hx:=hall x (by simp);have hy:=hall y (by simp);have hr:∀f ∈ r,f=g\/f.C=(v+1) % 256:=fun f hf=>hall f (by simp[hf]);by_cases ex:x=g
  ·have:(if Gp y.C x.C then y else x)=g:=by
    rcases hy with hy | hy
    ·rw[hy,ex];simp
    ·rw[hy,ex,hg,a2];rfl
   rw[this];exact ih g (AK rfl) (fun f hf=>(mem_cons.1 hf).elim AK (hr f))
  ·have hxc:x.C=(v+1) % 256:=hx.resolve_left ex;by_cases ey:y=g
   ·have:(if Gp y.C x.C then y else x)=g:=by rw[ey,hg,hxc,a3];rfl
    rw[this];exact ih g (AK rfl) (fun f hf=>(mem_cons.1 hf).elim AK (hr f))
   ·have:(if Gp y.C x.C then y else x)=x:=by rw[hy.resolve_left ey,hxc,a4];rfl
    rw[this];refine ih x (AL ?_) (fun f hf=>(mem_cons.1 hf).elim (fun e=>e ▸ hx) (hr f));rcases h with h | h
    ·exact absurd h ex
    ·rcases mem_cons.1 h with h | h
     ·exact absurd h.symm ey
     ·exact h
theorem JQ{l:List Bc}{of ab:Int}{g:Bc}(hg:g ∈ l)(hc:cnd of ab g=true)(hall:∀f ∈ l,cnd of ab f=true->f.S<g.S\/(f.S=g.S/\(f=g\/f.C=(g.C+1) % 256))):newest l of ab=some g:=by
 have hgs:snd g=true:=by
  unfold cnd at hc;simp only[Ao] at hc;exact hc.1.1
 have hgb:=(AE.Cv g).1 hgs;have hgf:g ∈ l.filter (cnd of ab):=mem_filter.2 ⟨hg,hc⟩;have hm:AE.mx (l.filter (cnd of ab))=g.S:=by
  refine AE.eh (fun f hf=>?_) ⟨g,hgf,rfl⟩ (fun f hf=>?_)
  ·obtain⟨h1,h2⟩:=mem_filter.1 hf;rcases hall f h1 h2 with h | h <;> omega
  ·obtain⟨h1,h2⟩:=mem_filter.1 hf;unfold cnd at h2;simp only[Ao] at h2;exact((AE.Cv f).1 h2.1.1).2.2.2.2.1
 have hgl:g ∈ lat l of ab:=by
  unfold lat;refine AE.H7.2 ⟨?_,hgb.1,hgb.2.1⟩;unfold UH;exact mem_filter.2 ⟨hgf,by rw[hm];simp⟩
 have hal:∀f ∈ lat l of ab,f=g\/f.C=(g.C+1) % 256:=fun f hf=>by
  unfold lat at hf;have h1:=(AE.H7.1 hf).1;unfold UH at h1;obtain⟨h2,h3⟩:=mem_filter.1 h1;obtain⟨h4,h5⟩:=mem_filter.1 h2;rw[hm] at h3;have h6:f.S=g.S:=by simpa using h3
  rcases hall f h4 h5 with h | h
  ·omega
  ·exact h.2
 unfold newest;cases e:lat l of ab with
 | nil=>rw[e] at hgl;cases hgl
 | cons x r=>
  rw[e] at hgl hal;show some (best x r)=some g;rw[U3 (v:=g.C) ⟨hgb.2.2.2.2.2.2.1,hgb.2.2.2.2.2.2.2⟩ rfl r x ((mem_cons.1 hgl).elim (fun e=>AK e.symm) AL) hal]
theorem Pk{l:List Bc}{of ab:Int}(h:∀f ∈ l,cnd of ab f=true->False):newest l of ab=none:=by
 have e:l.filter (cnd of ab)=[]:=filter_eq_nil_iff.2 fun f hf e=>h f hf e;have e2:UH l of ab=[]:=by unfold UH;rw[e];rfl
 have e3:lat l of ab=[]:=by
  unfold lat;rw[e2];exact eq_nil_iff_forall_not_mem.2 fun f hf=>by cases (AE.H7.1 hf).1
 unfold newest;rw[e3];rfl
section
variable {K:BH}{G:Bk}{X:Nat->Prop}
theorem YR.snd{p:Nat}{t:CP}{D:List Nat}(h:YR p t D)(hp:p<96):snd (fnd p t)=true:=by
 obtain⟨⟨⟨m1,m2⟩,⟨m3,m4⟩,⟨m5,m6⟩,m7,m8⟩,_⟩:=h.may;refine(AE.Cv _).2 ?_;show 0<=((p:Nat):Int)/\((p:Nat):Int)<96/\0<=((t.o:Nat):Int)/\((t.o:Nat):Int)<25/\0<=((t.q:Nat):Int)/\((t.q:Nat):Int)<1099511627776/\0<=((t.c:Nat):Int)/\((t.c:Nat):Int)<256;omega
theorem Sit.found(h:Sit K G X){o:Nat}(ho:o<25)(hL:K.L o≠-1):∃l D,Lvs K G o l D/\fnd (K.L o).toNat ⟨(K.L o).toNat,o,K.vs o,K.vc o,l⟩ ∈ tbL G.T 96/\AE.snd (fnd (K.L o).toNat ⟨(K.L o).toNat,o,K.vs o,K.vc o,l⟩)=true:=by
 obtain⟨l,D,hl⟩:=h.liv o ho hL;have hlt:=(h.wf.lt ho hL).1;exact⟨l,D,hl,(Jw 96).2 ⟨_,_,D,hlt,hl.tab,rfl⟩,(h.rep.ent _ _ _ hl.tab).2.snd hlt⟩
theorem IQ{p:Nat}{t:CP}{of ab:Int}:cnd of ab (fnd p t)=true<->snd (fnd p t)=true/\(t.o:Int)=of/\ab<(t.q:Int):=by
 unfold cnd;rw[Ao,Ao,decide_eq_true_iff,decide_eq_true_iff];exact and_assoc
theorem Sit.riv(h:Sit K G X){p:Nat}{t:CP}{D:List Nat}(hT:G.T p=some (t,D))(hc:t.o=24\/G.c.B (p / 8)=false/\K.fl t.o<t.q){l:Bool}{D':List Nat}(hl:Lvs K G t.o l D') :(fnd p t).S<(fnd (K.L t.o).toNat ⟨(K.L t.o).toNat,t.o,K.vs t.o,K.vc t.o,l⟩).S\/((fnd p t).S=(fnd (K.L t.o).toNat ⟨(K.L t.o).toNat,t.o,K.vs t.o,K.vc t.o,l⟩).S/\(fnd p t=fnd (K.L t.o).toNat ⟨(K.L t.o).toNat,t.o,K.vs t.o,K.vc t.o,l⟩\/(fnd p t).C=((fnd (K.L t.o).toNat ⟨(K.L t.o).toNat,t.o,K.vs t.o,K.vc t.o,l⟩).C+1) % 256)):=by
 obtain⟨h1,h2⟩:=h.old p t D hT hc;rcases h2 with h2 | ⟨h2,h3⟩
 ·left;show (t.q:Int)<(K.vs t.o:Nat);omega
 ·right;refine⟨by show (t.q:Int)=(K.vs t.o:Nat);rw[h2],?_⟩;rcases h3 with h3 | ⟨h3,_⟩
  ·left;have e:(K.L t.o).toNat=p:=(by rw[<-h3];exact AP p);have:=hl.tab;rw[e,hT] at this;have e2:=(Prod.mk.inj (AR this)).1;rw[e];rw[<-e2]
  ·right;show (t.c:Int)=((K.vc t.o:Nat)+1:Int) % 256;rw[h3];omega
theorem Sit.point(h:Sit K G X)(h24:K.L 24≠-1):∃D,G.T (K.L 24).toNat=some (⟨(K.L 24).toNat,24,K.vs 24,K.vc 24,false⟩,D)/\D=AA.wrL G.c/\newest (tbL G.T 96) 24 (-1)=some (fnd (K.L 24).toNat ⟨(K.L 24).toNat,24,K.vs 24,K.vc 24,false⟩):=by
 obtain⟨l,D,hl,hm,hs⟩:=h.found om h24;have hlf:l=false:=by
  cases l
  ·rfl
  ·exact absurd (hl.lost rfl) h.z24
 subst hlf;refine⟨D,hl.tab,hl.data rfl,JQ hm (IQ.2 ⟨hs,rfl,by show (-1:Int)<_;omega⟩) fun f hf hc=>?_⟩;obtain⟨p,t,D2,hp,hT,rfl⟩:=(Jw 96).1 hf;have ho:t.o=24:=by have:=(IQ.1 hc).2.1;omega
 have hl':Lvs K G t.o false D:=by rw[ho];exact hl
 have:=h.riv hT (AK ho) hl';rw[ho] at this;exact this
theorem fQ{f:Bc}(h:snd f=true):(f.P / 8).toNat<12:=by
 have:=(AE.Cv f).1 h;omega
theorem Sit.live(h:Sit K G X){c:AA.Bn}(hc:AA.Wu c G.c){o:Nat}(ho:o<25):AE.lv (tbL G.T 96) c o=K.L o:=by
 have hgd:∀f,gd c f=true<->snd f=true/\G.c.B (f.P / 8).toNat=false:=fun f=>by
  unfold gd;rw[Ao];constructor
  ·rintro ⟨a,b⟩;rw[hc.B _ (fQ a)] at b;exact⟨a,by simpa using b⟩
  ·rintro ⟨a,b⟩;rw[hc.B _ (fQ a),b];exact⟨a,rfl⟩
 have hfl:AE.flo c o=if o=24 then -1 else K.fl o:=by
  unfold AE.flo;split
  ·rfl
  ·rw[hc.F o om,h.cf o om]
 unfold AE.lv;by_cases hL:K.L o = -1
 ·rw[Pk,hL];intro f hf hcd;obtain⟨hf1,hf2⟩:=mem_filter.1 hf;obtain⟨p,t,D,hp,hT,rfl⟩:=(Jw 96).1 hf1;have e:=IQ.1 hcd;have eo:t.o=o:=by have:=e.2.1;omega
  have hB:G.c.B (p / 8)=false:=by
   have:=((hgd _).1 hf2).2;rw[show ((fnd p t).P / 8).toNat=p / 8 by show (((p:Nat):Int) / 8).toNat=_;omega] at this;exact this
  have hcnd:t.o=24\/G.c.B (p / 8)=false/\K.fl t.o<t.q:=by
   by_cases e24:o=24
   ·exact AK (eo.trans e24)
   ·refine AL ⟨hB,?_⟩;have:=e.2.2;rw[hfl,AI e24] at this;rw[eo];exact this
  have:=(h.old p t D hT hcnd).1;rw[eo] at this;exact this hL
 ·obtain⟨l,D,hl,hm,hs⟩:=h.found ho hL;have hlt:=(h.wf.lt ho hL);have hB:=h.lb o ho hL;have hmem:fnd (K.L o).toNat ⟨(K.L o).toNat,o,K.vs o,K.vc o,l⟩ ∈ (tbL G.T 96).filter (gd c):=mem_filter.2 ⟨hm,(hgd _).2 ⟨hs,by
   rw[show ((fnd (K.L o).toNat ⟨(K.L o).toNat,o,K.vs o,K.vc o,l⟩).P / 8).toNat=(K.L o).toNat / 8 by show ((((K.L o).toNat:Nat):Int) / 8).toNat=_;omega]
   exact hB⟩⟩
  have hcn:cnd (o:Nat) (AE.flo c o) (fnd (K.L o).toNat ⟨(K.L o).toNat,o,K.vs o,K.vc o,l⟩)=true:=IQ.2 ⟨hs,rfl,by
   rw[hfl]
   show _<((K.vs o:Nat):Int)
   split
   ·
    omega
   ·
    exact h.flo o om hL⟩
  rw[JQ hmem hcn fun f hf hcd=>?_]
  ·show (((K.L o).toNat:Nat):Int)=K.L o;exact hlt.2.symm
  ·obtain⟨hf1,hf2⟩:=mem_filter.1 hf;obtain⟨p,t,D2,hp,hT,rfl⟩:=(Jw 96).1 hf1;have e:=IQ.1 hcd;have eo:t.o=o:=(by have:=e.2.1;omega);have hBp:G.c.B (p / 8)=false:=by
    have:=((hgd _).1 hf2).2;rw[show ((fnd p t).P / 8).toNat=p / 8 by show (((p:Nat):Int) / 8).toNat=_;omega] at this;exact this
   have hcnd:t.o=24\/G.c.B (p / 8)=false/\K.fl t.o<t.q:=by
    by_cases e24:o=24
    ·exact AK (eo.trans e24)
    ·refine AL ⟨hBp,?_⟩;have:=e.2.2;rw[hfl,AI e24] at this;rw[eo];exact this
   have hl':Lvs K G t.o l D:=(by rw[eo];exact hl);have:=h.riv hT hcnd hl';rw[eo] at this;exact this
end
end Go.Proofs.YtmdpnpjacfedpaaGreat
