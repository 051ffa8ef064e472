/-
  Lemmas.
-/
import Derived.Test.YtbhbilcieodbhaaGreatOm
import Derived.Test.YtbhbilcieodbhaaGreatP11
import Derived.Carry
import Derived.Below
import Derived.DataReads
set_option maxRecDepth 1000000
set_option maxHeartbeats 16000000
set_option linter.unusedSimpArgs false
namespace Go.Proofs.YtbhbilcieodbhaaGreat
open List
open Go.Proofs.Tryz
open Go.RowKit
section
variable {s:BG}{n:Nat}{Z:BC × Nat}{te:FO}{mo:Ew}(K:BC)
def Un (s:BG):Prop:=Fine s/\∀j,(s.ch j).now=(s.ch j).tru
theorem YC(h:Un s)(a k:Int)(l:List Nat):Un (writeR s a k l).1:=by
 refine⟨(h.1.write a k l).1,fun j=>?_⟩;unfold writeR;split
 ·exact h.2 j
 ·rw[AI (by rw[h.1.on];decide)];split
  ·exact h.2 j
  ·rw[AI (by rw[h.1.lim];simp),AI (by rw[(h.1.failW _).1];decide)];show (if j=4*a.toNat+k.toNat then GH l else s.ch j).now=(if j=4*a.toNat+k.toNat then GH l else s.ch j).tru;split
   ·rfl
   ·exact h.2 j
theorem YD(h:Un s)(b:Int):Un (eraseR s b).1:=by
 refine⟨(h.1.erase b).1,fun j=>?_⟩;unfold eraseR;split
 ·exact h.2 j
 ·rw[AI (by rw[h.1.on];decide),AI (by rw[h.1.lim];simp),AI (by rw[(h.1.failE _).1];decide)];show (if 32*b.toNat<=j/\j<32*b.toNat+32 then Dm else s.ch j).now=(if 32*b.toNat<=j/\j<32*b.toNat+32 then Dm else s.ch j).tru;split
  ·rfl
  ·exact h.2 j
theorem YE(h:Un s)(a:Int):Un (readV s a).1:=by
 refine⟨(h.1.readV a).1,?_⟩;unfold readV;split
 ·exact h.2
 ·split <;> exact h.2
theorem ja(h:Un s)(a:Int)(W:Nat->List Nat):∀n,Un (wrN s a W n).1:=by
 intro n
 induction n with
 | zero=>exact h
 | succ n ih=>
  rw[wrN];split
  ·exact YC ih _ _ _
  ·exact ih
theorem YF(tl:List Nat->Int->Pg)(h:Un s)(r a:Int):Un (rdF tl s r a).1:=by
 have:=YE h a;unfold rdF;split <;> exact this
theorem jb(tl:List Nat->Int->Pg)(h:Un s)(r:Int)(t:CD)(D:List Nat):Un (prF tl s r t D).1:=by
 unfold prF;have h1:=ja h t.p (wordOf D (body t.p t.o t.q t.c t.l)) 4;generalize wrN s t.p (wordOf D (body t.p t.o t.q t.c t.l)) 4=X at *
 dsimp only;have h2:=YF tl h1 r t.p;generalize rdF tl X.1 r t.p=Y at *
 split
 ·exact h1
 ·split <;> exact h2
theorem YG(p:Nat)(h:Un K.s):Un (rdK K p).1.s:=by
 have:=YF K.tl h K.r p;unfold rdK;dsimp only;generalize rdF K.tl K.s K.r p=X at *
 split <;> exact this
theorem YH(t:CD)(D:List Nat)(h:Un K.s):Un (prK K t D).1.s:=by
 have:=jb K.tl h K.r t D;unfold prK;dsimp only;exact this
theorem jc(t:CD)(D:List Nat)(h:Un K.s):Un (prM K t D).1.s:=by
 unfold prM;split
 ·exact h
 ·exact YH K t D h
theorem jd(b:Nat)(h:Un K.s):Un (erK K b).1.s:=by
 have:=YD h b;unfold erK;dsimp only;generalize eraseR K.s b=X at *
 split <;> exact this
theorem YI(H:EG)(K:BC)(p o:Nat)(h:Un K.s):Un (frK H K p o).1.s:=by
 unfold frK;by_cases hs:K.sp=true
 ·rw[AJ hs];exact h
 ·rw[AI hs];dsimp only;have h1:=YH (sqK K) ⟨p,o,K.nx,0,false⟩ (H (sqK K) K.nx) (by rw[Ws];exact h);generalize prK (sqK K) ⟨p,o,K.nx,0,false⟩ (H (sqK K) K.nx)=x at *
  by_cases c:x.2≠0
  ·rw[AJ c];exact h1
  ·rw[AI c];by_cases d:o=24
   ·rw[AJ d];exact h1
   ·rw[AI d];exact h1
theorem je(o:Nat)(h:Un K.s):Un (coK K o).1.s:=by
 have h1:=YG K (K.L o).toNat h;unfold coK;split
 ·exact h
 ·dsimp only;generalize rdK K (K.L o).toNat=X at *
  split
  ·exact h1
  ·split
   ·exact h1
   ·split <;> exact h1
theorem jf(bd:Bool):∀(l:List Nat) (K:BC) (S:BV),Un K.s->Un (cpK bd l K S).1.s:=by
 intro l
 induction l with
 | nil=>intro K S h;exact h
 | cons o l ih=>
  intro K S h;unfold cpK;split
  ·exact ih K S h
  ·dsimp only;have h1:=je K o h;generalize coK K o=c at *
   have h2:Un (tiK c.1 S o).1.s:=(by rw[Ik];exact h1);generalize tiK c.1 S o=t at *
   have h3:=jc t.1 ⟨t.2.2.1,o,t.1.vs o,(t.1.vc o+1) % 256,c.2.2.1⟩ c.2.1 h2;generalize prM t.1 ⟨t.2.2.1,o,t.1.vs o,(t.1.vc o+1) % 256,c.2.2.1⟩ c.2.1=p at *
   split
   ·exact h1
   ·split
    ·exact h2
    ·split
     ·exact h3
     ·exact ih _ _ h3
theorem YJ(S:BV)(h:Un K.s):Un (cbK K S).1.s:=by
 unfold cbK;dsimp only;have h1:Un (tiK K S 24).1.s:=by rw[Ik];exact h
 generalize tiK K S 24=t at *
 have h2:=YI (bdH S.fm) t.1 t.2.2.1 24 h1;generalize frK (bdH S.fm) t.1 t.2.2.1 24=f at *
 split
 ·exact h1
 ·split
  ·exact h2
  ·rw[Il];exact h2
theorem jg(S:BV)(h:Un K.s):Un (tyK K S).1.s:=by
 unfold tyK;dsimp only;have hx:=jf (S.fd || (S.rt && bearK K)) ((AA.ofL K.L S.fm).map Int.toNat) K { S with tt:=noF,ld:=[] } h;generalize cpK (S.fd || (S.rt && bearK K)) ((AA.ofL K.L S.fm).map Int.toNat) K { S with tt:=noF,ld:=[] }=x at *
 have he:=jd x.1 S.fm hx;have hb:=YJ x.1 x.2.1 hx;generalize erK x.1 S.fm=y at *
 have hc:Un (cmK y.1 x.2.1 0).1.s:=by rw[Il];exact he
 have hl:Un (lvK y.1 S.fm).s:=by rw[FR];exact he
 generalize cmK y.1 x.2.1 0=c at *
 generalize lvK y.1 S.fm=u at *
 have hd:=YJ u { x.2.1 with fd:=true } hl;generalize cbK u { x.2.1 with fd:=true }=v at *
 generalize cbK x.1 x.2.1=v2 at *
 split
 ·exact h
 ·split
  ·exact hx
  ·split
   ·exact hb
   ·split
    ·exact hc
    ·split
     ·exact he
     ·split
      ·exact hl
      ·exact hd
def cH (te:FO):Prop:=∀K Z,te K=some Z->Un K.s->Un Z.1.s
def MovU (mo:Ew):Prop:=∀K S Z,mo K S=some Z->Un K.s->Un Z.1.s
theorem YK{an:FO}(h:cH an):cH (Ii an):=by
 intro K Z e hp;unfold Ii at e;have h1:Un (opK (clK K)).1.s:=by rw[LS,Hh];exact hp
 split at e
 ·cases e;exact hp
 ·split at e
  ·exact h _ _ e hp
  ·split at e
   ·cases e
    exact h1
   ·exact h _ _ e h1
theorem jh(h:cH te):∀n,MovU (trK te n):=by
 intro n
 induction n with
 | zero=>intro K S Z e;cases e
 | succ n ih=>
  intro K S Z e hp;unfold trK at e;have ht:=jg K S hp;split at e
  ·cases e;exact hp
  ·dsimp only at e;generalize tyK K S=x at *
   split at e
   ·cases e;exact ht
   ·cases hy:te (spK x.1 (AC.blV x.2.1.tt)) with
    | none=>rw[hy] at e;cases e
    | some y=>
     rw[hy] at e;dsimp only at e;have h1:=h _ _ hy (by rw[LR];exact ht);split at e
     ·cases e;exact h1
     ·exact ih _ _ _ e h1
theorem YL(h:cH te)(n:Nat):MovU (moK te n):=by
 intro K S Z e hp;unfold moK at e;cases hy:trK te n (if S.fd then lvK K S.fm else K) S with
 | none=>rw[hy] at e;cases e
 | some x=>
  rw[hy] at e;dsimp only at e;have h1:Un x.1.s:=jh h n _ _ _ hy (by
   split
   ·
    rw[FR];exact hp
   ·
    exact hp)
  split at e
  ·cases e
   show Un (spK x.1 x.2.1.fm).s;rw[LR];exact h1
  ·cases e;exact h1
theorem ji(h:MovU mo):∀n K o Z,mrK mo n K o=some Z->Un K.s->Un Z.1.s:=by
 intro n
 induction n with
 | zero=>intro K o Z e;cases e
 | succ n ih=>
  intro K o Z e hp;unfold mrK at e;have h0:Un (clK K).s:=by rw[Hh];exact hp
  split at e
  ·cases e;exact hp
  ·dsimp only at e;generalize clK K=K1 at *
   have h1:Un (opK K1).1.s:=(by rw[LS];exact h0);split at e
   ·split at e
    ·cases e
     exact h1
    ·exact ih _ _ _ e h1
   ·split at e
    ·cases e
     exact h0
    ·cases hy:mo K1 (nwS (AG.chV 12 12 K1.F (lvF K1)) false false) with
     | none=>rw[hy] at e;cases e
     | some y=>
      rw[hy] at e;dsimp only at e;have h2:=h _ _ _ hy h0;split at e
      ·cases e;exact h2
      ·exact ih _ _ _ e h2
theorem jj{mr:BC->Nat->Option (BC × Nat)}(hr:∀K o Z,mr K o=some Z->Un K.s->Un Z.1.s)(h:MovU mo)(H:EG):∀n K o Z,anK mr mo H n K o=some Z->Un K.s->Un Z.1.s:=by
 intro n
 induction n with
 | zero=>intro K o Z e;cases e
 | succ n ih=>
  intro K o Z e hp;unfold anK at e;split at e
  ·cases e;exact hp
  ·cases hx:mr K o with
   | none=>rw[hx] at e;cases e
   | some x=>
    rw[hx] at e;dsimp only at e;have h1:=hr _ _ _ hx hp;split at e
    ·cases e;exact h1
    ·split at e
     ·cases e;exact h1
     ·have h2:=YI H { x.1 with fr:=AC.tkS x.1.fr o } (AC.nxV x.1.fr o).toNat o h1;generalize frK H { x.1 with fr:=AC.tkS x.1.fr o } (AC.nxV x.1.fr o).toNat o=f at *
      split at e
      ·cases e
       rw[J7];exact h2
      ·split at e
       ·cases e;exact h2
       ·cases hy:mo f.1 (nwS (AC.blV f.1.fr).toNat false true) with
        | none=>rw[hy] at e;cases e
        | some y=>
         rw[hy] at e;dsimp only at e;have h4:=h _ _ _ hy h2;split at e
         ·cases e;exact h4
         ·exact ih _ _ _ e h4
theorem KS:∀n H K o Z,anR n H K o=some Z->Un K.s->Un Z.1.s:=by
 intro n
 induction n with
 | zero=>intro H K o Z e;cases e
 | succ n ih=>
  intro H K o Z e;have hm:MovU (moK (Ii fun K=>anR n noH K 24) (n+1)):=YL (YK fun _ _ e=>ih _ _ _ _ e) _;exact jj (mr:=mrK (moK (Ii fun K=>anR n noH K 24) (n+1)) (n+1)) (fun K o Z e=>ji hm _ _ _ _ e) hm H (n+1) K o Z e
theorem cI(n:Nat):MovU (movR n):=YL (YK fun _ _ e=>KS n _ _ _ _ e) _
theorem jk{K:BC}{o:Nat}(e:tmK n K o=some Z)(hp:Un K.s):Un Z.1.s:=by
 unfold tmK at e;split at e
 ·cases e;exact hp
 ·cases hy:anR n (tmH o (K.vs o:Nat)) K 24 with
  | none=>rw[hy] at e;cases e
  | some y=>
   rw[hy] at e;dsimp only at e;have h1:=KS _ _ _ _ _ hy hp;split at e
   ·cases e;exact h1
   ·cases e;exact h1
theorem Qd(p:Nat)(h:Un K.s):Un (inK K p).1.s:=by
 have h1:=YG K p h;unfold inK;dsimp only;generalize rdK K p=X at *
 split
 ·exact h1
 ·split
  ·exact h1
  ·split <;> exact h1
theorem jl(o:Nat)(h:Un K.s):Un (geK K o).1.s:=by
 have h1:=Qd K (K.L o).toNat h;unfold geK;split
 ·exact h
 ·dsimp only;generalize inK K (K.L o).toNat=X at *
  split
  ·exact h1
  ·split <;> exact h1
theorem jm(c:Nat):∀(n i:Nat) (K:BC),Un K.s->Un (tdI c n i K).1.s:=by
 intro n
 induction n with
 | zero=>intro i K h;exact h
 | succ n ih=>
  intro i K h;rw[tdI];split
  ·exact Qd _ _ h
  ·exact ih _ _ (Qd _ _ h)
theorem jn{K:BC}{b:Nat}(e:rfK n K b=some Z)(hp:Un K.s):Un Z.1.s:=by
 unfold rfK at e;split at e
 ·cases e;exact hp
 ·cases hy:movR n K (nwS b (AF.much 3 K.hS (b:Nat)) false) with
  | none=>rw[hy] at e;cases e
  | some y=>
   rw[hy] at e;dsimp only at e;have h1:=cI n _ _ _ hy hp;split at e
   ·cases e;exact h1
   ·cases e;exact h1
theorem jo(m:Nat):∀(n:Nat) (K:BC) (Z:BC × Nat),raK m n K=some Z->Un K.s->Un Z.1.s:=by
 intro n
 induction n with
 | zero=>intro K Z e;cases e
 | succ n ih=>
  intro K Z e hp;rw[raK] at e;split at e
  ·cases e;exact hp
  ·split at e
   ·cases e;exact hp
   ·rename_i b r _;cases hy:rfK m { K with qu:=r } b.toNat with
    | none=>rw[hy] at e;cases e
    | some y=>
     rw[hy] at e;dsimp only at e;have h1:=jn hy hp;split at e
     ·cases e;exact h1
     ·exact ih _ _ e h1
theorem jp{m:Nat}{K:BC}(e:tdK n m K=some Z)(hp:Un K.s):Un Z.1.s:=by
 unfold tdK at e;have h0:=jm K.cu 8 0 { K with cu:=(K.cu+8) % 96,ca:=K.ca+1 } hp;generalize tdI K.cu 8 0 { K with cu:=(K.cu+8) % 96,ca:=K.ca+1 }=X at *
 unfold Oz at e;split at e
 ·cases e;exact h0
 ·cases hy:raK n m (awK X.1) with
  | none=>rw[hy] at e;cases e
  | some y=>
   rw[hy] at e;dsimp only at e;have h1:Un y.1.s:=jo _ _ _ _ hy h0;split at e
   ·cases e;exact h1
   ·split at e
    ·cases hz:anR n noH y.1 24 with
     | none=>rw[hz] at e;cases e
     | some z=>
      rw[hz] at e;cases e
      have h9:=KS _ _ _ _ _ hz h1;exact h9
    ·cases e;exact h1
end
section
variable {K:BC}{G:BW}{B a b o:Nat}{La:Nat->Int}{s:BG}
structure Fnv (B:Nat) (K:BC) (G:BW) (La:Nat->Int):Prop where
 iv:Lnv B K G La
 wd:Wsd K.s
 dd:K.dd=false
theorem Fnv.sit(h:Fnv B K G La):Sit K G No/\Rm 0 K/\Told K G:=by
 obtain⟨_,X,hs,hd⟩:=h.iv.iv;obtain⟨hX,r,t⟩:=hd h.dd;exact⟨hs.mono (fun b _ e=>absurd e (hX b)),r,t⟩
theorem cJ(h:Fnv B K G La)(hB:B<1073741824)(ho:o<24)(x:Int):∃Y G',anR 6 (fun _ _=>FX x ++ List.replicate 14 0) K o=some (Y,0)/\Fnv (B+1) Y G' (upd La o x):=by
 obtain⟨hs,hr,ht⟩:=h.sit;obtain⟨Z,e,-,G',Lb,iv,h0,-,-⟩:=b8 h.iv hB ho x;obtain⟨Y,eY,-,dY⟩:=QZ (H:=fun _ _=>FX x ++ List.replicate 14 0) (fun _ _=>⟨KP x,Rf x⟩) hs h.wd.1 h.dd hr ht (h.iv.sq hB) (o:=o) om (n:=5) dc;have e2:Z=(Y,0):=AR (e.symm.trans eY);subst e2;obtain rfl:=h0 rfl;exact⟨Y,G',eY,iv,Mk _ _ _ _ _ eY h.wd,dY⟩
theorem YM(h:Fnv B K G La)(hB:B<1073741824)(ho:o<24):∃Y G',tmK 6 K o=some (Y,0)/\Fnv (B+1) Y G' (upd La o 0):=by
 obtain⟨hs,hr,ht⟩:=h.sit;obtain⟨Z,e,hc,G',Lb,iv,h0,-⟩:=Xi h.iv hB ho;have hd:Z.1.dd=false:=by
  have e':=e;unfold tmK at e';by_cases hL:K.L o = -1
  ·rw[AJ hL] at e';cases e'
   exact h.dd
  ·obtain⟨Y,eY,-,dY⟩:=QZ (H:=tmH o (K.vs o:Nat)) (fun _ _=>⟨AB.CX _,AB.D5 _⟩) hs h.wd.1 h.dd hr ht (h.iv.sq hB) (o:=24) dc (n:=5) dc;rw[AI hL,eY] at e';dsimp only at e';rw[AI (by simp)] at e';cases e'
   exact dY
 have h2:Z.2=0:=by
  rcases hc with c | ⟨_,c⟩
  ·exact c
  ·have:=iv.dd.2 c;rw[hd] at this;cases this
 obtain⟨Y,c⟩:=Z;dsimp only at h2 hd iv;subst h2;obtain rfl:=h0 rfl;exact⟨Y,G',e,iv,jU e h.wd,hd⟩
theorem Mm(h:Fnv B K G La)(hB:B<1073741824)(ho:o<24):∃K',geK K o=(K',FX (La o),0)/\Fnv (B+1) K' G La:=by
 obtain⟨K',e,iv,v⟩:=Rh h.iv hB ho;have hw:=jV K o h.wd;rw[e] at hw;exact⟨K',e,iv,hw,v.dd.trans h.dd⟩
theorem jq{n m:Nat}(hn:4<=n)(hm:13<=m)(h:Ivk K G)(hw:Wsd K.s)(hdd:K.dd=false)(hsq:Sq 1 K):∃Z,tdK (n+1) m K=some (Z,0)/\Z.dd=false:=by
 obtain⟨on,X,hs,hd⟩:=h;unfold tdK;have s1:=hs.pstep;obtain⟨e2,on2,a2,w2,t2,r2⟩:=KI K.cu 8 0 { K with cu:=(K.cu+8) % 96,ca:=K.ca+1 } s1.wf on;have f2:Wsd (tdI K.cu 8 0 { K with cu:=(K.cu+8) % 96,ca:=K.ca+1 }).1.s:=Ml K.cu 8 0 { K with cu:=(K.cu+8) % 96,ca:=K.ca+1 } hw;generalize tdI K.cu 8 0 { K with cu:=(K.cu+8) % 96,ca:=K.ca+1 }=Y at *
 have s2:=s1.eqv a2 w2;have s3:=s2.eqv (KJ Y.1) (RZ w2);have eF:(awK Y.1).F=K.F:=a2.F;have eD:(awK Y.1).dd=false:=a2.dd.trans hdd;have eN:(awK Y.1).nx=K.nx:=a2.nx;have f3:Fine (awK Y.1).s:=f2.1;unfold Oz;rw[AI (by rw[e2];simp)];generalize awK Y.1=K3 at *
 obtain⟨hX,hrm,hT⟩:=hd hdd;have s4:Sit K3 G No:=s3.mono (fun b _ e=>absurd e (hX b));have hrm3:Rm 0 K3:=by unfold Rm at hrm ⊢;rw[eF];exact hrm
 have hT3:Told K3 G:=fun b hb e=>hT b hb (by rw[<-eF];exact e);have hl:=s4.wf.qu.len;have hsq3:Sq 0 K3:=by unfold Sq at hsq ⊢;rw[eF,eN];omega
 obtain⟨y,ey,G4,X4,d4,s5,st5,hy⟩:=JM (n:=n+1) om m K3 G s4 f3.on (fun _=>⟨hrm3,hT3⟩) hsq3 om;obtain⟨Y4,eY4,f4⟩:=Xq (n:=n+1) om m K3 G s4 f3 eD hrm3 hT3 hsq3 om;have e4:y=(Y4,0):=AR (ey.symm.trans eY4);subst e4;rw[ey];dsimp only;rw[AI (by simp)];have hbd:bad3 Y4.F=bad3 K3.F+d4:=st5.bd;rcases hy with ⟨-,yon,yX,ydd,yrm,yT,ynx⟩ | ⟨c,_⟩ | ⟨c,_⟩
 ·have s7:Sit Y4 G4 No:=s5.mono (fun b _ e=>absurd e (yX b));have ynx':Y4.nx<=K3.nx+8*d4:=ynx;by_cases hdue:8<=Y4.ca\/AF.Tt Y4.hR Y4.hN=true
  ·rw[AJ hdue];obtain⟨Z,eZ,-,dZ⟩:=QZ (H:=noH) (fun _ _=>⟨AB.CX _,AB.D5 _⟩) s7 f4 ydd yrm yT (by unfold Sq at hsq ⊢;rw[eF,eN] at *;omega) (o:=24) dc (n:=n) hn;rw[eZ];exact⟨Z,rfl,dZ⟩
  ·rw[AI hdue];exact⟨Y4,rfl,ydd⟩
 ·exact absurd (show (0:Nat)=14 from c) dc
 ·exact absurd (show (0:Nat)=7 from c) dc
theorem Ob(h:Fnv B K G La)(hB:B<1073741824):∃Y G',tdK 6 13 K=some (Y,0)/\Fnv (B+1) Y G' La:=by
 obtain⟨Z,e,-,⟨G',iv⟩,-⟩:=Xj h.iv hB;obtain⟨Y,eY,dY⟩:=jq (n:=5) (m:=13) dc dc h.iv.iv h.wd h.dd (h.iv.sq hB);have e2:Z=(Y,0):=AR (e.symm.trans eY);subst e2;exact⟨Y,G',eY,iv,jY eY h.wd,dY⟩
theorem Tl(a b:List Nat)(i v:Nat)(n:Nat):dmgTo (a.set i v) b n<=dmgTo a b n+(if i<n then 1 else 0):=by
 induction n with
 | zero=>exact Ac _
 | succ n ih=>
  have e0:dmgTo (a.set i v) b (n+1)=dmgTo (a.set i v) b n+(if (a.set i v).getD n 0=b.getD n 0 then 0 else 1):=rfl;have e1:dmgTo a b (n+1)=dmgTo a b n+(if a.getD n 0=b.getD n 0 then 0 else 1):=rfl;rw[e0,e1];by_cases e:n=i
  ·rw[AI (show ¬ i<n by omega)] at ih;rw[AJ (show i<n+1 by omega)];have h1:(if (a.set i v).getD n 0=b.getD n 0 then 0 else 1)<=1:=by split <;> decide
   omega
  ·have e2:(a.set i v).getD n 0=a.getD n 0:=by
    rw[AQ,List.getElem?_set_ne om,<-AQ]
   rw[e2];by_cases h1:i<n
   ·rw[AJ h1] at ih;rw[AJ (show i<n+1 by omega)];omega
   ·rw[AI h1] at ih;rw[AI (show ¬ i<n+1 by omega)];omega
theorem YN(k:Df)(p b:Nat):dmg (D4 k p b)<=dmg k+1:=by
 have:=Tl k.now k.tru p (k.now.getD p 0 ^^^ 2 ^ b) 64;show dmgTo (k.now.set p (k.now.getD p 0 ^^^ 2 ^ b)) k.tru 64<=dmgTo k.now k.tru 64+1;split at this <;> omega
def flpS (s:BG) (a b:Nat):BG:=s.setCh (4*a+b / 512) (D4 (s.ch (4*a+b / 512)) (b / 8 % 64) (b % 8))
theorem Qe(s:BG)(a b j:Nat):((flpS s a b).ch j).is=(s.ch j).is/\((flpS s a b).ch j).tru=(s.ch j).tru:=by
 show ((if j=4*a+b / 512 then _ else s.ch j:Df)).is=_/\((if j=4*a+b / 512 then _ else s.ch j:Df)).tru=_;split
 ·rename_i e;rw[e];exact⟨rfl,rfl⟩
 ·exact⟨rfl,rfl⟩
theorem Rj(s:BG)(a b j:Nat):dmg ((flpS s a b).ch j)<=dmg (s.ch j)+(if j=4*a+b / 512 then 1 else 0):=by
 show dmg (if j=4*a+b / 512 then _ else s.ch j:Df)<=_;split
 ·rename_i e;rw[e];exact YN _ _ _
 ·exact AM _
theorem cK(h:Wsd s)(a b:Nat):Wsd (flpS s a b):=by
 refine⟨h.1.setCh _ _,fun j=>?_⟩;show dmg (if j=4*a+b / 512 then D4 (s.ch (4*a+b / 512)) (b / 8 % 64) (b % 8) else s.ch j:Df)<=(if j=4*a+b / 512 then D4 (s.ch (4*a+b / 512)) (b / 8 % 64) (b % 8) else s.ch j:Df).worst;split
 ·exact Nat.le_max_right _ _
 ·exact h.2 j
theorem Rk{p:Nat}(h:Erd s p):Erd (flpS s a b) p:=fun k hk=>((Qe s a b _).1).trans (h k hk)
theorem Sit.flp{X:Nat->Prop}(h:Sit K G X)(hok:(flpS K.s a b).Ok)(hd:dmg (K.s.ch (4*a+b / 512))<2):Sit { K with s:=flpS K.s a b } G X:=by
 have w:=h.wf;refine⟨⟨hok,w.rr,w.frm,w.map,w.vs,w.vp,w.vc,w.fl,w.nx,w.fr,w.cu,w.qu,w.hea,w.tl⟩,⟨h.rep.ent,fun p t D e k hk=>?_,fun p hp e=>?_⟩,h.sts,fun p hp e=>Rk (h.frs p hp e),h.opn,fun e i h1 h2=>Rk (h.frn e i h1 h2),fun o ho hL=>?_,h.nul,h.blk,h.flo,h.old,h.seq,h.fls,h.sp,h.dds,h.cb,h.cf,h.cn,h.nw,h.z24,h.lb⟩
 ·obtain⟨i1,i2⟩:=h.rep.is p t D e k hk;obtain⟨f1,f2⟩:=Qe K.s a b (4*p+k);exact⟨f1.trans i1,f2.trans i2⟩
 ·exact((Qe K.s a b _).1).trans (h.rep.non p hp e)
 ·obtain⟨l,D,lv⟩:=h.liv o ho hL;have hb:∀j,dmg ((flpS K.s a b).ch j)<=2\/dmg ((flpS K.s a b).ch j)<=dmg (K.s.ch j):=fun j=>by
   have:=Rj K.s a b j;split at this
   ·rename_i e;rw[<-e] at hd;omega
   ·omega
  refine⟨l,D,lv.tab,lv.lost,lv.data,fun k hk=>?_,fun hz k hk=>?_⟩
  ·have h1:=lv.gh k hk;rcases hb (4*(K.L o).toNat+k) with e | e
   ·exact AY e dc
   ·exact AY e h1
  ·have h1:=lv.gd hz k hk;rcases hb (4*(K.L o).toNat+k) with e | e
   ·exact e
   ·exact AY e h1
theorem YO(ha:a<96)(hb:b<2048):If s a b=(flpS s a b,0):=aA s ha hb
theorem YP(h:s.Ok)(ha:a<96)(hb:b<2048):(flpS s a b).Ok:=by
 have:=YA h a b
 rwa [YO ha hb] at this
theorem Bgn.fin(h:Bgn K G)(hu:Un K.s):Fnv 0 K G (fun _=>0):=⟨h.inv,⟨h.fine,fun j=>by rw[Fq (hu.2 j)];exact Ac _⟩,h.dd⟩
end
theorem KT(a:List Nat):∀n,dmgTo a a n=0
 | 0=>rfl
 | n+1=>by
  show dmgTo a a n+(if a.getD n 0=a.getD n 0 then 0 else 1)=0
  rw[KT a n,AJ rfl]
theorem YQ{k:Df}(h:k.now=k.tru):dmg k=0:=by
 unfold dmg;rw[h];exact KT _ _
theorem jr(K1:BC)(o p:Nat)(s':BG)(r':Int)(R':Nat->Int):(FrL K1 o p s' r' R').1.qu=K1.qu:=by
 unfold FrL layK ntK;dsimp only;split <;> rfl
structure Lit (N:Nat) (K:BC) (G:BW):Prop where
 sit:Sit K G No
 told:Told K G
 rm:Rm 0 K
 n3:N3 K
 un:Un K.s
 dd:K.dd=false
 qu:K.qu=[]
 rd:Rdn N K
 z:∀o,¬ G.z o
theorem Bgn.lit{K:BC}{G:BW}(h:Bgn K G)(hu:Un K.s)(hq:K.qu=[]):Lit 1 K G where
 sit:=h.sit
 told:=h.told
 rm:=h.rm
 n3:=by
  have:=jA (F:=fun _=>0) (fun _ _=>dc) 0;intro b hb;rw[h.F];exact this b hb
 un:=hu
 dd:=h.dd
 qu:=hq
 rd:=h.rd
 z:=fun o e=>by rw[h.z] at e;exact e
section
variable {s:BG}{a:Nat}{tl:List Nat->Int->Pg}
structure CP (s:BG):Prop where
 ok:s.Ok
 fine:Fine s
 ch:∀j,s.ch j=Dm
 hi:∀b,12<=b->(s.bl b).reads=0
theorem CP.new:CP GI:=⟨bU,Td,fun _=>rfl,fun _ _=>rfl⟩
theorem CP.is(h:CP s)(j:Nat):(s.ch j).is=false:=by rw[h.ch];rfl
theorem CP.un(h:CP s):Un s:=⟨h.fine,fun j=>by rw[h.ch];rfl⟩
theorem CP.page(h:CP s)(a:Nat):pgTo s a 4=List.replicate 256 255:=by
 show ((([] ++ (s.ch (4*a+0)).now) ++ (s.ch (4*a+1)).now) ++ (s.ch (4*a+2)).now) ++ (s.ch (4*a+3)).now=_;rw[h.ch,h.ch,h.ch,h.ch];decide
theorem CP.rd(h:CP s)(ha:a<96):CP (Ts s a):=by
 refine⟨Lx h.ok a,?_,h.ch,fun b hb=>?_⟩
 ·have:=(h.fine.readV (a:Int)).1
  rwa [Gp ha h.fine.on] at this
 ·show (if b=a / 8 then ({ s.bl (a / 8) with reads:=wrap64 ((s.bl (a / 8)).reads+1) }:Ji) else s.bl b).reads=0;rw[AI om];exact h.hi b hb
theorem CP.read{s':BG}(h:CP s)(ha:a<96){r r':Int}{x:Pg}{c:Nat}(hr:ReadR s r (a:Nat) s' r' x c):CP s'/\c=0/\x.tagged=false/\s'.steps=s.steps:=by
 obtain⟨e1,e2,h3⟩:=hr;rw[Gp ha h.fine.on] at e1 e2 h3;dsimp only at e1 e2 h3;subst e1;refine⟨h.rd ha,e2,?_,rfl⟩;rcases h3 with ⟨n,_⟩ | ⟨_,_,ht⟩
 ·exact absurd e2 n
 ·rw[h.page] at ht;refine(ht.blank ?_).1;have:ds (part 64 (List.replicate 256 255) 3) GE=0:=dc
  omega
def R8 (n:Nat):Nat->Int:=fun b=>if b<n then 8 else 0
theorem YR(htl:∀L n,ToldR L n (tl L n)):∀(n i:Nat) (s:BG) (R:Nat->Int),i+n=12->CP s->(∀b,b<i\/12<=b->R b=0/\(s.bl b).reads=0)->(∀b,0<=R b/\R b<=65535) ->∃s',efK (fun _=>0) n i { K0 s tl with hR:=R } false=(K0 s' tl,false,0)/\CP s'/\(∀b,(s'.bl b).reads=0):=by
 intro n
 induction n with
 | zero=>
  intro i s R hi hB hr _;have hz:R=fun _=>0:=by
   funext b;exact(hr b om).1
  subst hz;exact⟨s,rfl,hB,fun b=>(hr b om).2⟩
 | succ n ih=>
  intro i s R hi hB hr hR;have hwf:Wf { K0 s tl with hR:=R }:={ mj hB.ok htl with hea:=fun b hb=>⟨hR b,((mj hB.ok htl).hea b hb).2⟩ };have hf:=hB.fine;obtain⟨e1,e2⟩:=Rc (K:={ K0 s tl with hR:=R }) hwf (b:=i) om hf;have h1:=hf.erase i;have h2:=FT hB.ok (show i<12 by omega) hf.on;have h0:(eraseR s i).2=0:=by
   rcases h2 with ⟨a,_⟩ | ⟨a,_⟩ | ⟨a,_⟩
   ·exact a
   ·exact absurd a h1.2.2
   ·exact absurd a h1.2.1
  have eK:erK { K0 s tl with hR:=R } i=({ K0 (eraseR s i).1 tl with hR:=upd R i 0 },0):=by
   unfold erK;dsimp only;have h0':(eraseR (K0 s tl).s i).2=0:=h0;rw[AJ h0'];show (({ K0 s tl with s:=(eraseR s i).1,hR:=upd R i 0,hN:=upd (fun _=>(0:Int)) i 0 }:BC),0)=_;rw[mD];rfl
  have hch:∀j,(eraseR s i).1.ch j=Dm:=by
   rcases h2 with ⟨_,_,_,a⟩ | ⟨a,_⟩ | ⟨a,_⟩
   ·intro j;rw[a];split
    ·rfl
    ·exact hB.ch j
   ·rw[h0] at a;cases a
   ·rw[h0] at a;cases a
  have hok:(eraseR s i).1.Ok:=Hy hB.ok i;have hrd:∀b,((eraseR s i).1.bl b).reads=if b=i then 0 else (s.bl b).reads:=by
   intro b;unfold eraseR;rw[AI om,AI (by rw[hf.on];decide),AI (by rw[hf.lim];simp),AI (by rw[(hf.failE _).1];decide)];show (if b=(i:Int).toNat then { ((JA s).setBl (i:Int).toNat (failE (s.bl (i:Int).toNat))).bl (i:Int).toNat with reads:=0 } else ((JA s).setBl (i:Int).toNat (failE (s.bl (i:Int).toNat))).bl b).reads=_;rw[AP];by_cases c:b=i
   ·rw[AJ c,AJ c]
   ·rw[AI c,AI c];show (if b=i then failE (s.bl i) else s.bl b).reads=_;rw[AI c]
  have hB1:CP (eraseR s i).1:=⟨hok,h1.1,hch,fun b hb=>by rw[hrd,AI om];exact hB.hi b hb⟩;obtain⟨s',q⟩:=ih (i+1) (eraseR s i).1 (upd R i 0) om hB1 (fun b hb=>by
   rw[hrd]
   unfold upd
   by_cases c:b=i
   ·
    rw[AJ c,AJ c];exact⟨rfl,rfl⟩
   ·
    rw[AI c,AI c];exact hr b om) (fun b=>by
   unfold upd
   split
   ·
    decide
   ·
    exact hR b)
  refine⟨s',?_,q.2⟩;rw[efK,AI (by simp),eK];dsimp only;rw[AI dc,AI dc];exact q.1
theorem YS(K1:BC)(o p:Nat)(s':BG)(r':Int)(R':Nat->Int):(FrL K1 o p s' r' R').1.hS=K1.hS/\(FrL K1 o p s' r' R').1.cu=K1.cu:=by
 unfold FrL layK ntK;dsimp only;split <;> exact⟨rfl,rfl⟩
theorem YT(htl:∀L n,ToldR L n (tl L n))(hB:CP s)(n:Nat):∃K G,cnK (n+2) { K0 s tl with hR:=R8 12 }=some (K,0)/\(Bgn K G/\Lit 1 K G)/\(K.tl=tl/\K.hS=(fun _=>0)/\K.cu=0):=by
 obtain⟨s',e1,hB',r1⟩:=YR htl 12 0 s (R8 12) rfl hB (fun b hb=>⟨by unfold R8;rw[AI om],hB.hi b om⟩) (fun b=>by unfold R8;split <;> decide)
 have o1:=hB'.ok;have f1:=hB'.fine;have h0:=nT o1 hB'.is htl;have eF:efK ({ K0 s tl with hR:=R8 12 }:BC).F 12 0 { K0 s tl with hR:=R8 12 } false=(K0 s' tl,false,0):=e1;have hop:=h0.op (by rfl) (by show 1<=fre (fun _=>0);decide);have hspr:GM (K0 s' tl)=true:=by
  show decide (AD.VQ (fun _=>0)<((AD.cnt (fun _=>0) 0 12:Nat):Int))=true;decide
 have hKO:∃KO:BC,opK (K0 s' tl)=(KO,0)/\KO.s=s'/\KO.F=AD.tkF (fun _=>0) 0 0/\KO.fr=⟨true,0,0⟩/\KO.L=(fun _=>-1)/\KO.nx=1/\KO.dd=false/\KO.mv=0/\KO.tl=tl/\KO.hR=(fun _=>0)/\KO.qu=[]/\Un KO.s/\KO.hS=(fun _=>0)/\KO.cu=0:=by
  have:=ou;have t1:tkC (K0 s' tl).F=0:=this.1;have t2:tkM (K0 s' tl).F=0:=this.2;refine⟨{ K0 s' tl with F:=AD.tkF (fun _=>0) 0 0,fr:=⟨true,0,0⟩ },?_,rfl,rfl,rfl,rfl,rfl,rfl,rfl,rfl,rfl,rfl,hB'.un,rfl,rfl⟩;unfold opK;rw[AJ t1,t2];rfl
 obtain⟨KO,eO,k1,k2,k3,k4,k5,k6,k7,k8,k9,k10,k11,k12,k13⟩:=hKO;rw[eO] at hop;obtain⟨_,s2,fr2,b2,_,q2,_⟩:=hop;dsimp only at s2 fr2 b2 q2;have hr:AC.rmV KO.fr ((24:Nat):Int)=true:=by rw[k3];decide
 obtain⟨c,K1,s3,r3,R3,fD,f3,rd3,fz,fl⟩:=Mh QP s2 (by rw[k1];exact f1) (by decide:(24:Nat)<25) hr (by rw[k5];decide);have ean:=bV (H:=noH) (K:=K0 s' tl) (o:=24) (by rw[Co h0];rfl) rfl (by show ¬ AC.rmV noF ((24:Nat):Int)=true;decide) rfl hspr eO hr c fz n;rw[fl] at ean;have hu:=KS _ _ _ _ _ ean hB'.un;have hq:=(jr K1 24 (8*KO.fr.k+KO.fr.i) s3 r3 R3).trans ((congrArg (·.qu) fD.e).trans k10);have hhs:=(YS K1 24 (8*KO.fr.k+KO.fr.i) s3 r3 R3).1.trans ((congrArg (·.hS) fD.e).trans k12);have hcu:=(YS K1 24 (8*KO.fr.k+KO.fr.i) s3 r3 R3).2.trans ((congrArg (·.cu) fD.e).trans k13);have hl:=QR dc fD;obtain⟨n1,n2,n3,n4,n5,n6,n7,G',g1,g2,g3⟩:=OQ fD k6;rw[k3] at ean hl n1 n2 n3 n4 n5 n6 n7 g1 g2 g3 rd3 hu hq hhs hcu;generalize FrL K1 24 (8*(⟨true,0,0⟩:AC.St).k+(⟨true,0,0⟩:AC.St).i) s3 r3 R3=Z at *
 refine(fun (x:_/\(Bgn Z.1 G')/\_)=>⟨Z.1,G',x.1,⟨x.2.1,x.2.1.lit hu hq⟩,x.2.2⟩) ⟨?_,⟨g1,g2,?_,?_,?_,?_,?_,?_,?_,?_,?_,?_,?_,?_⟩,?_,hhs,hcu⟩
 ·unfold cnK;rw[AI (by show ¬ false=true;decide),eF,AI (by simp)];dsimp only;rw[AI (by show ¬ ((-1:Int)≠-1/\_);simp),ean];show some (Z.1,LQ Z.2)=_;rw[hl.1];rfl
 ·unfold Rm;rw[hl.2.2.2.1,k2];decide
 ·rw[hl.2.2.1];exact f3
 ·rw[hl.2.2.2.2.2.2.2.1];exact k6
 ·rw[g3.a];rfl
 ·rw[g3.z];rfl
 ·rw[hl.2.1,k4];rfl
 ·rw[hl.2.2.2.1,k2]
 ·rw[hl.2.2.2.2.1]
 ·rw[hl.2.2.2.2.2.1,k5]
 ·exact n7
 ·rw[hl.2.2.2.2.2.2.1,k7]
 ·have h00:Rdn 0 KO:=fun b _=>by
   rw[k1,k9,r1 b];show 0<=(0:Int)/\(0:Int)<=((0:Nat):Int)/\(0:Int)=min 0 65535;decide
  exact rd3 0 dc h00
 ·rw[hl.2.2.2.2.2.2.2.2,k8]
end
section
variable {w:Wd}{v:Value}{b:Nat}{ops:Array Oper}{rest:List Oper}{o:Oper}{a:Act}{Q:Exit->Act->World->Prop}
theorem Tm(B:Nat)(a:Int)(x:Pg)(v:Value)(hx:x.tagged=false)(w:Wd) :Calls prog 100 #[.pointer (some ⟨B,0,none⟩),.int .i64 a,Sj x v] w fun e w'=>e=.returned (.tuple #[])/\Chg No w w':=by
 unfold Sj;rw[hx];have c0:=(Pb.new w false x.p x.o x.s x.c x.l x.sound v x.dmg).cells.1;have G0:=BB ((Chg.refl No w).alloc (.cells #[.bool false,.int .i64 x.p,.int .i64 x.o,.int .i64 x.s,.int .i64 x.c,.bool x.l,.bool x.sound,v,.int .i64 x.dmg] 129));go_enter func100,ntmps100;go_wp2;refine AZ (results_none rfl _ _ _) rfl ?_;exact⟨rfl,G0.out⟩
def Sg (w:Wd) (b:Nat) (v:Value):Prop:=w.heap[b]?=some (.cells #[.slice none 0 0,v] 147)
theorem Sg.new(w:Wd)(v:Value):Sg (w.alloc (.cells #[.slice none 0 0,v] 147)) w.heap.size v:=by
 show (w.heap.push _)[w.heap.size]?=_;simp
theorem Sg.lt(h:Sg w b v):b<w.heap.size:=(Array.getElem?_eq_some_iff.1 (show w.heap[b]?=some _ from h)).1
theorem Sg.chg{S:Nat->Prop}{w':Wd}(h:Sg w b v)(hc:Chg S w w')(hb:¬ S b):Sg w' b v:=(hc.block b h.lt hb).trans h
theorem Sg.cells(h:Sg w b v):w.cell? ⟨b,0,none⟩=some (.slice none 0 0)/\w.cell? ⟨b,1,none⟩=some v:=by
 have h':w.heap[b]?=some _:=h;refine⟨?_,?_⟩ <;> simp[World.cell?,h']
theorem Qf:(prog.info? 147).map (·.size)=some 2:=kr
theorem KU(hgd:o.guard=none)(x:Operand)(ho:o.op=.load 147 x)(g:Nat)(hx:a.eval x=.pointer (some ⟨g,0,none⟩))(hg:Sg w g v)(h:wpList prog ops Q rest (a.put o.dst (.agg #[.slice none 0 0,v])) w):wpList prog ops Q (o :: rest) a w:=
 wpList_load_row hgd 147 x ho g hx 147 _ _ _ hg underlying147 rfl Qf h
theorem DX(hgd:o.guard=none)(x y:Operand)(ho:o.op=.store 147 x y)(g:Nat)(hx:a.eval x=.pointer (some ⟨g,0,none⟩)){v:Option Nat}(hy:a.eval y=.agg #[.slice none 0 0,.map v]){v':Value}(hg:Sg w g v')(h:∀w',Sg w' g (.map v)->Chg (·=g) w w'->wpList prog ops Q rest (a.put o.dst undef) w'):wpList prog ops Q (o :: rest) a w:=
 wpList_store_row hgd 147 x y ho g _ hx hy 147 _ hg Qf rfl (by simp[Value.oneCell']) (h _ (setRow_heap w g _ _ 147 _ hg) ⟨rfl,rfl,rfl,by simp,fun k _ hk=>setRow_other _ _ _ _ hk⟩)
theorem js(w:Wd):(zeroValue 147).run prog w=.ok (.agg #[.slice none 0 0,.map none]) w:=kr
theorem cQ(n:Nat)(w:Wd):(Instr.build 147 #[(1,.map (some n))]).run prog w=.ok (.agg #[.slice none 0 0,.map (some n)]) w:=kr
theorem DY(hgd:o.guard=none)(ho:o.op=.alloc 147)(N:Nat)(hN:w.heap.size=N)(h:∀w',Sg w' N (.map none)->Chg No w w'->w'.heap.size=N+1->wpList prog ops Q rest (a.put o.dst (.pointer (some ⟨N,0,none⟩))) w'):wpList prog ops Q (o :: rest) a w:=by
 refine wpList_plain hgd fun K hK=>?_;have hz:=js;unfold Oper.wp;simp[execOp,ho,Instr.alloc,hz,newVar,Value.cells,newRow];rw[hN];exact hK _ _ (h _ (by rw[<-hN];exact Sg.new w _) ((Chg.refl _ w).alloc _) (by simp[hN]))
theorem Qg{fn:Func}{q u:Tmp}(h:fn.results=#[.cell q 147,.tmp u])(tmps:Array Value){g:Nat}(hp:tmps.getD q undef=.pointer (some ⟨g,0,none⟩))(hT:Sg w g v) :(results fn tmps).run prog w=.ok (.tuple #[.agg #[.slice none 0 0,v],tmps.getD u undef]) w:=by
 rw[results_cell_tmp h,hp];simp[asAddr,run_loadVar_row w g 147 147 _ _ _ hT underlying147 rfl Qf]
theorem Qh(g:Nat)(s:BG)(hB:CP s)(w:Wd)(h:BE w g s) :Calls prog 65 #[.pointer (some ⟨g,0,none⟩)] w fun e w'=>∃s' mp,e=.returned (.tuple #[.agg #[.slice none 0 0,.map (some mp)],.nilIface])/\CP s'/\s'.steps=s.steps/\BE w' g s'/\Chg (·=g) w w':=by
 have HB:=BB hB;have HC:=BB h;have HL:=BB h.lt;have hmm:=@run_makeMap prog;have hbs:=cQ;have q0:=BK;clear hB h;go_enter func65,ntmps65;go_wp2_with (refine DY rfl rfl w.heap.size rfl ?_);intro w1 K1 G1 S1;have HK1:=BB K1;have HG1:=BB G1;have HS1:=BB S1;clear K1 G1 S1;go_wp2_with (refine DY rfl rfl _ rfl ?_);intro w2 K2 G2 S2;have HK2:=BB K2;have HG2:=BB (((HG1.out.alloc (.map #[] 0)).trans G2));have HR2:=BB ((HK1.out.chg ((Chg.refl No w1).alloc (.map #[] 0)) (fun f=>f)).chg G2 (fun f=>f));have hN2:(w1.alloc (.map #[] 0)).heap.size=w1.heap.size+1:=by simp
 have hs1:=HS1.out;clear K2 G2;go_wp2_with (refine DX rfl (.tmp 4) (.tmp 14) rfl _ rfl rfl HK2.out ?_);intro w3 K3 G3;have HK3:=BB K3;have HG3:=BB (HG2.out.trans' G3 (fun k hk e=>om));have HR3:=BB (HR2.out.chg G3 (fun e=>om));have HC3:=BB (HC.out.chg HG3.out (fun f=>f));clear K3 G3 HK2 HR2 HG2 hN2 S2 hs1 HS1 HK1 HG1;have hcall:=Ni g w3;go_wp2_with fail;refine hcall.mono ?_;rintro x w4 ⟨m,p,q,b,rfl,hge,M4,G4⟩;have HM:=BB M4;have HC:=BB (HC3.out.chg G4 (fun f=>f));have HK:=BB (HK3.out.chg G4 (fun f=>f));have HR:=BB (HR3.out.chg G4 (fun f=>f));have HG:=BB ((HG3.out.trans G4).mono (T:=(·=g)) (fun _ _ f=>f.elim));have HGE:=BB hge;have HS:=BB HG3.out.size;have HL3:Hid (w.heap.size+1+1<w3.heap.size):=HK3.out.lt;clear hcall M4 G4 hge HC3 HK3 HR3 HG3;go_wp2
 go_loopg [17] 96 (fun kx s17 wr=>∃(i:Nat) (s':BG) (r:Int),s17=.int .i64 i/\i<=96/\96 - i<=kx/\Hid (Du wr m g p q b r)/\Hid (BE wr g s')/\Hid (CP s')/\Hid (s'.steps=s.steps)/\Hid (Sg wr (w.heap.size+1+1) (.map (some (w.heap.size+1))))/\Hid (Sg wr w.heap.size (.map none))/\Hid (Chg (·=g) w wr))
 case atStart=>exact⟨0,s,0,rfl,om,om,HM.out,HC.out,HB.out,rfl,HK.out,HR.out,HG.out⟩
 case round=>
  clear HM HC HK HR HG HB;obtain⟨i,s',r,rfl,hi,hkx,HM,HC,HB,HS',HK,HR,HG⟩:=hrel;by_cases hlt:i<96
  ·have hltz:(i:Int)<96:=om;have hcall:=H7 m g p q b r s' HB.out.ok wr HM.out HC.out (i:Nat);go_wp2_with fail;refine hcall.mono ?_;rintro e w5 ⟨s2,r2,x,c,v,rfl,hR,hO,M5,C5,G5⟩;obtain⟨B5,rfl,ht,hst⟩:=HB.out.read hlt hR;have hadd:=fun (B:Nat) (u:Wd)=>Tm B (i:Nat) x v ht u;have hone:=hO.one;have HM5:=BB M5;have HC5:=BB C5;have HB5:=BB B5;have HS5:Hid (s2.steps=s.steps):=hst.trans HS'.out;obtain⟨g1,g2,g3,g4⟩:=HGE.out;have nf:∀k,k<w.heap.size+1+1+1->¬ k=g->¬ (k=m\/k=g\/k=b):=fun k hk hn e=>by
    have:=HL3.out;omega
   have HK5:=BB (HK.out.chg G5 (nf _ om (by have:=HL.out;omega)));have HR5:=BB (HR.out.chg G5 (nf _ om (by have:=HL.out;omega)));have HG5:=BB (HG.out.trans' G5 (fun k hk e=>by have:=HL3.out;omega));have HP5:=BB (Pb.new w5 false 0 0 0 0 false false (.slice none 0 0) 0);have HA5:Hid (Chg No w5 (w5.alloc (.cells #[.bool false,.int .i64 0,.int .i64 0,.int .i64 0,.int .i64 0,.bool false,.bool false,.slice none 0 0,.int .i64 0] 129))):=(Chg.refl _ w5).alloc _;have HL5:Hid (w.heap.size<=w5.heap.size):=HG5.out.size;have HLT:=BB HC5.out.lt;clear hcall hR hO M5 C5 G5 B5 hst ht HM HC HB HS' HK HR HG nf g1 g2 g3 g4;unfold Sj;rw[show nerrV 0=.nilIface from rfl];go_wp2_with (refine wpList_store_pg rfl (.tmp 7) (.tmp 24) rfl _ rfl rfl hone HP5.out ?_);intro w6 P6 G6;have HP6:=BB P6;have HZ:Hid (Chg No w5 w6):=HA5.out.trans' G6 (fun k hk e=>by subst e;omega);have HM6:=BB (HM5.out.chg HZ.out);have HC6:=BB (HC5.out.chg HZ.out (fun f=>f));have HK6:=BB (HK5.out.chg HZ.out (fun f=>f));have HR6:=BB (HR5.out.chg HZ.out (fun f=>f));have HG6:=BB (HG5.out.trans' HZ.out (fun _ _ f=>f.elim));clear P6 G6 HP5 HA5 HM5 HC5 HK5 HR5 HG5 HZ;go_wp2_with (refine wpList_load_pg rfl (.tmp 7) rfl _ rfl HP6.out ?_);refine(hadd _ _).mono ?_;rintro e w7 ⟨rfl,Z7⟩;have HM7:=BB (HM6.out.chg Z7);have HC7:=BB (HC6.out.chg Z7 (fun f=>f));have HK7:=BB (HK6.out.chg Z7 (fun f=>f));have HR7:=BB (HR6.out.chg Z7 (fun f=>f));have HG7:=BB (HG6.out.trans' Z7 (fun _ _ f=>f.elim));clear HM6 HC6 HK6 HR6 HG6 Z7 hadd hone HP6;go_wp2
   go_roundg (96 - (i+1))
   case measure=>omega
   case rel=>exact⟨i+1,s2,r2,by simp,om,AM _,HM7.out,HC7.out,HB5.out,HS5.out,HK7.out,HR7.out,HG7.out⟩
  ·have hltz:¬ (i:Int)<96:=om;go_wp2_with (first | (refine KU rfl (.tmp 4) rfl _ rfl HK.out ?_) | (refine DX rfl (.tmp 2) (.tmp 34) rfl _ rfl rfl HR.out ?_));intro w6 K6 G6;have HL0:=HL.out;have HG6:=BB (HG.out.trans' G6 (fun k hk e=>om));have HC6:=BB (HC.out.chg G6 (fun e=>om));go_wp2;refine AZ (Qg rfl _ rfl K6) rfl ?_;exact⟨s',_,rfl,HB.out,HS'.out,HC6.out,HG6.out⟩
end
section
variable (w:Wd)
theorem mM:prog.arrayLen 116=24:=kr
theorem jt:(sizeOf (prog.elem 116)).run prog w=.ok 1 w:=kr
theorem Tn(b o:Nat)(w:Wd):(Instr.sliceAt 116 (.pointer (some ⟨b,o,none⟩)) none none none).run prog w=.ok (.slice (some ⟨b,o,none⟩) 24 24) w:=by
 rw[run_sliceAt_array_all w 116 ⟨b,o,none⟩ underlying116,jt,mM];simp[slicedAt,Addr.add_mid]
theorem JE(g:Nat)(c:AB.Bp)(h:AB.Ck w g c)(z:Int):Calls prog 235 #[.slice (some ⟨g,0,none⟩) 24 24,.int .i64 z] w fun e w'=>∃x:Int,e=.returned (.int .i64 x)/\(0<=x<->∃i,i<24/\c.F i=z)/\w'=w:=by
 have HK:=BB h;clear h;go_enter func235,ntmps235;go_wp2_with fail
 go_loopg [8] 24 (fun kx s8 wr=>∃i:Nat,s8=.int .i64 i/\i<=24/\24 - i<=kx/\Hid (wr=w)/\Hid (∀j,j<i->c.F j≠z))
 case atStart=>exact⟨0,rfl,om,om,rfl,fun j hj=>om⟩
 case round=>
  obtain⟨i,rfl,hi,hkx,HW,HE⟩:=hrel;have ew:wr=w:=HW.out;subst ew;by_cases hlt:i<24
  ·have hltz:(i:Int)<24:=om;have ci:=HK.out.F i hlt;by_cases hz:c.F i=z
   ·have HX:Hid (∃i,i<24/\c.F i=z):=⟨i,hlt,hz⟩;rw[hz] at ci;clear hz HE;go_wp2;go_ret;exact⟨(i:Nat),rfl,⟨fun _=>HX.out,fun _=>om⟩,rfl⟩
   ·have hzb:(z == c.F i)=false:=(by simp;exact fun e=>hz e.symm);have HE2:Hid (∀j,j<i+1->c.F j≠z):=fun j hj=>by
     by_cases e:j=i
     ·rw[e];exact hz
     ·exact HE.out j om
    generalize c.F i=fi at *
    clear HE hz;go_wp2
    go_roundg (24 - (i+1))
    case measure=>omega
    case rel=>exact⟨i+1,by simp,om,AM _,rfl,HE2.out⟩
  ·have hltz:¬ (i:Int)<24:=om;have e:i=24:=om;subst e;go_wp2;go_ret;exact⟨-1,rfl,⟨fun e=>om,fun ⟨j,hj,e⟩=>absurd e (HE.out j hj)⟩,rfl⟩
theorem Qi(g:Nat)(c:AB.Bp)(h:AB.Ck w g c)(z:Int){b:Bool}(hb:b=true<->∃i,i<24/\c.F i=z):Calls prog 211 #[.slice (some ⟨g,0,none⟩) 24 24,.int .i64 z] w fun e w'=>e=.returned (.bool b)/\w'=w:=by
 have hix:=JE w g c h z;have HB:=BB hb;clear h hb;go_enter func211,ntmps211;go_wp2_with fail;refine hix.mono ?_;rintro e w ⟨x,rfl,hx,rfl⟩;have HX:=BB hx;clear hix hx;by_cases h0:0<=x
 ·have hge:x ≥ 0:=h0;have eb:b=true:=HB.out.2 (HX.out.1 h0);subst eb;clear h0;go_wp2;go_ret;exact⟨rfl,rfl⟩
 ·have eb:b=false:=by
   cases b
   ·rfl
   ·exact absurd (HX.out.2 (HB.out.1 rfl)) h0
  subst eb;go_wp2;go_ret;exact⟨by simp[h0],rfl⟩
def oO (l:List AH.Bt) (c:AB.Bp):Prop:=(∃o,o<25/\AH.newest l (o:Nat) 1099511627774≠none)\/∃i,i<24/\c.F i=1099511627775
end
end Go.Proofs.YtbhbilcieodbhaaGreat
namespace Go.Proofs.YtbhbilcieodbhaaGreat.AH
open List
open Go.Proofs.Tryz
open Go.RowKit
open AB
theorem YU(w:Wd)(a:Option Addr)(cap:Nat)(of ab:Int):Calls prog 169 #[.slice a 0 cap,.int .i64 of,.int .i64 ab] w fun e w'=>e=.returned (.slice none 0 0)/\w'=w:=by
 go_enter func169,ntmps169;go_wp2;refine wp_loop_rounds 1 ?_;rw[rounds_succ];go_wp2_with (go_at_call 202;refine(XV _ _).mono ?_;rintro e w' ⟨rfl,rfl⟩);refine wp_loop_rounds 1 ?_;rw[rounds_succ];go_wp2;go_ret;exact⟨rfl,rfl⟩
theorem YV(w:Wd)(a:Option Addr)(cap:Nat)(of ab:Int):Calls prog 136 #[.slice a 0 cap,.int .i64 of,.int .i64 ab] w (nX w [] of ab):=by
 go_enter func136,ntmps136;go_wp2_with (refine Bv rfl rfl w.heap.size rfl ?_);intro w1 K1 G1 S1;have HK1:=BB K1;have HG1:=BB G1;clear K1 G1 S1;go_wp2_with (first | (go_at_call 169;refine(YU _ a cap of ab).mono ?_;rintro e w2 ⟨rfl,rfl⟩) | (refine wpList_build_fo rfl rfl ?_) | (refine wpList_store_fo rfl (.tmp 6) (.tmp 19) rfl w.heap.size rfl rfl HK1.out ?_));intro w3 K3 G3;have HK3:=BB K3;have HG3:=BB (HG1.out.trans' G3 fun k hk h=>om);clear K3 G3;go_wp2;refine AZ (QU rfl _ rfl HK3.out) rfl ?_;exact⟨rfl,HG3.out⟩
theorem KV(w:Wd)(a:Option Addr)(cap:Nat)(of ab:Int):Calls prog 136 #[.slice a 0 cap,.int .i64 of,.int .i64 ab] w fun e w'=>e=.returned (.tuple #[.agg (fA f0),.bool false])/\Chg No w w':=YV w a cap of ab
theorem ju(w:Wd)(c:Bp) :Calls prog 212 #[.slice none 0 0,.agg (ckA c)] w fun e w'=>e=.returned (.agg (ints (lv [] c) 25).toArray)/\Chg No w w':=by
 have hs:Sl w (.slice none 0 0) ([]:List Bt):=(Ow.nil w 0).sl;have K0:=Ck.new w c;have HK0:=BB K0;have HG0:Hid (Chg No w (w.alloc (.cells (ckA c) 142))):=(Chg.refl _ w).alloc _;have HS:=BB (hs.new HG0.out);have S33:Hid ((prog.info? 140).map (·.size)=some (bools c.B 12).length):=by show _=_;rw[BT];exact iy
 obtain⟨B,HBB⟩:∃B,Hid (B=w.heap.size):=⟨_,rfl⟩;clear hs K0;go_enter func212,ntmps212;go_wp2_with (refine Ey rfl rfl (w.heap.size+1) (World.size_alloc _ _) ?_);intro w1 A1 G1 S1;have HK1:=BB (HK0.out.chg G1 (fun h=>h));have HS1:=BB (HS.out.new G1);have HG1:=BB (HG0.out.trans G1);have HA1:=BB A1;have HP1:=BB (HK1.out.partB);have c23:=Ti w1 none 0 [] 0 rfl c HS1.out dc 0 rfl;clear A1 G1 HK0 HG0 HS;rw[<-HBB.out] at HK1 HA1 HP1 S1;rw[<-HBB.out];go_wp2_with (first | (refine wpList_load_mid rfl 140 (.tmp 11) rfl B 25 rfl _ _ HP1.out underlying140 rfl S33.out ?_) | (go_at_call 236;refine c23.mono ?_;rintro e w2 ⟨a',cap',rfl,hS2,G2⟩;have HS2:=BB hS2;have HSb0:=BB (hS2.apart);have HK2:=BB (HK1.out.chg G2 (fun h=>h));have HA2:=BB (HA1.out.chg G2 (fun h=>h));have HG2:=BB (HG1.out.trans G2);have hs2:=G2.size;clear G2 hS2 c23) | (refine Ey rfl rfl w2.heap.size rfl ?_));intro w3 A3 G3 S3;have HK3:=BB (HK2.out.chg G3 (fun h=>h));have HA3:=BB (HA2.out.chg G3 (fun h=>h));have HS3:=BB (HS2.out.new G3);have HG3:=BB (HG2.out.trans G3);have HD3:=BB A3;clear A3 G3 HK1 HA1 HP1 HG1 HS1 HK2 HA2 HG2 HS2 S33;obtain⟨D,HDD⟩:∃D,Hid (D=w2.heap.size):=⟨_,rfl⟩;rw[<-HDD.out] at HD3 S3 hs2 HSb0;rw[<-HDD.out];have hDw:w.heap.size+2<=D:=by have:=HBB.out;omega
 have hBD:B+1<D:=by have:=HBB.out;omega
 have hDs:D<w3.heap.size:=om
 have HSb:Hid ((([]:List Bt).filter (gd c)).length≠0->∀k,(Value.slice a' 0 cap').ownBlock=some k->¬ k=D):=BB HSb0.out;have C24:Aside _:=fun (i:Nat) (h:i<25) (W:Wd)=>Th c i h W;go_wp2_with fail
 go_loopg [14] 25 (fun kx s14 wr=>∃(i:Nat) (F:Nat->Int),s14=.int .i64 i/\i<=25/\25 - i<=kx/\Hid (A25 wr D F)/\Hid (∀j,j<i->F j=lv [] c j)/\Hid (Chg (·=D) w3 wr))
 case atStart=>exact⟨0,fun _=>0,rfl,om,om,HD3.out,fun j hj=>absurd hj (Nat.not_lt_zero _),Chg.refl _ _⟩
 case round=>
 obtain⟨i,F,rfl,hin,hkx,HDr,HF,HGr⟩:=hrel;by_cases hlt:i<25
 ·have hltz:(i:Int)<25:=om
  obtain⟨d1,d2⟩:=HDr.out.cell i hlt;have HD1:=BB (HDr.out.set i (-1));have HG1:Hid (Chg (·=D) w3 (wr.setCell ⟨D,i,none⟩ (.int .i64 (-1)))):=BB (HGr.out.setCell (AK rfl) i _);have c24:=C24.out i hlt;have HKr:=BB (HK3.out.chg HG1.out om);have hsr:(wr.setCell ⟨D,i,none⟩ (.int .i64 (-1))).heap.size=wr.heap.size:=by simp[World.setCell]
  go_upto_region 7 with fail
  generalize wr.setCell ⟨D,i,none⟩ (.int .i64 (-1))=wa at *
  have ho:newest (([]:List Bt).filter (gd c)) i (flo c i)=none:=rfl;have HLv:=BB (bq ho);have C11:Aside _:=fun W=>KV W a' cap' i (flo c i);go_wp2_with (first | (refine Bc rfl (.tmp 3) rfl B rfl HKr.out ?_) | (go_at_call 237;refine(c24 _).mono ?_;rintro e w4 ⟨rfl,G4⟩;have HG4:=BB (HG1.out.trans' G4 (fun _ _ h=>h.elim));have HD4:=BB (HD1.out.chg G4 (fun h=>h));have HS4:=BB ((HS3.out.chg HG4.out HSb.out));clear G4) | (go_at_call 136;refine(C11.out _).mono ?_;rintro e w5 ⟨rfl,G5⟩;have HG5:=BB (HG4.out.trans' G5 (fun _ _ h=>h.elim));have HD5:=BB (HD4.out.chg G5 (fun h=>h));clear G5) | (refine Bv rfl rfl w5.heap.size rfl ?_));intro w6 K6 G6 S6;have HK6:=BB K6;clear K6;go_wp2_with (refine wpList_store_fo rfl (.tmp 8) (.tmp 26) rfl w5.heap.size rfl rfl HK6.out ?_);intro w7 K7 G7;have hD5:=HD5.out.lt;have G67:=G6.trans' G7 (fun k hk h=>om);have HG7:=BB (HG5.out.trans' G67 (fun _ _ h=>h.elim));have HD7:=BB (HD5.out.chg G67 (fun h=>h));clear K7 G6 G7 G67 HK6 S6;go_wp2
  go_roundg (25 - (i+1))
  case measure=>omega
  case rel=>
   refine⟨i+1,_,by simp,om,AM _,HD7.out,fun j hj=>?_,HG7.out⟩;by_cases e:j=i
   ·subst e;simp[upd,HLv.out]
   ·simp[upd,e];exact HF.out j om
 ·have hltz:¬ (i:Int)<25:=om
  have HDl:=BB (HDr.out.congr (g:=lv [] c) (fun j hj=>HF.out j om));have HAr:=BB (HA3.out.chg HGr.out om);go_wp2_with (first | (refine KN rfl (.tmp 6) rfl D rfl HDl.out ?_) | (refine Iw rfl (.tmp 4) (.tmp 34) rfl (B+1) rfl rfl HAr.out ?_));intro w8 A8 G8;have HA8:=BB A8;have HG8:=BB ((HG3.out.trans' HGr.out fun k hk h=>om).trans' G8 fun k hk h=>by have:=HBB.out;omega);clear A8 G8;go_wp2;refine AZ (QW rfl _ rfl HA8.out) rfl ?_;exact⟨rfl,HG8.out⟩
end Go.Proofs.YtbhbilcieodbhaaGreat.AH
namespace Go.Proofs.YtbhbilcieodbhaaGreat
open List
open Go.Proofs.Tryz
open Go.RowKit
theorem To(w:Wd)(c:AB.Bp){b:Bool}(hb:b=true<->oO [] c) :Calls prog 179 #[.slice none 0 0,.agg (AB.ckA c)] w fun e w'=>e=.returned (.bool b)/\Chg No w w':=by
 have G0:Chg No w (w.alloc (.cells (AB.ckA c) 142)):=(Chg.refl _ w).alloc _;have HG0:=BB G0;have HB0:=BB (AB.Ck.new w c);have HB:=BB hb;clear hb G0;go_enter func179,ntmps179;go_wp2_with fail;generalize w.alloc (.cells (AB.ckA c) 142)=w0 at *
 go_loopg [8] 25 (fun kx s8 wr=>∃i:Nat,s8=.int .i64 i/\i<=25/\25 - i<=kx/\Hid (Chg No w wr)/\Hid (AB.Ck wr w.heap.size c))
 case atStart=>exact⟨0,rfl,om,om,HG0.out,HB0.out⟩
 case round=>
  obtain⟨i,rfl,hi,hkx,HG,HC⟩:=hrel;by_cases hlt:i<25
  ·have hltz:(i:Int)<25:=om;have hnw:=AH.KV wr none 0 (i:Nat) 1099511627774;have hlw:=HC.out.lt;go_wp2_with fail;refine hnw.mono ?_;rintro e w2 ⟨rfl,g2⟩;have HG2:=BB (HG.out.trans g2);have HC2:=BB (HC.out.chg g2 (fun f=>f));have hz2:w.heap.size<w2.heap.size:=HC2.out.lt;clear hnw g2 HG HC;go_wp2_with (refine AH.Bv rfl rfl w2.heap.size rfl ?_);intro w3 F3 g3 z3;have HF3:=BB F3;have HG3:=BB (HG2.out.trans g3);have HC3:=BB (HC2.out.chg g3 (fun f=>f));clear F3 g3 HG2 HC2;go_wp2_with (refine AH.wpList_store_fo rfl (.tmp 6) (.tmp 15) rfl w2.heap.size rfl rfl HF3.out ?_);intro w4 F4 g4;have HG4:=BB (HG3.out.trans' g4 (fun k hk e=>om));have HC4:=BB (HC3.out.chg g4 om);clear F4 g4 HG3 HC3 HF3;go_wp2
   go_roundg (25 - (i+1))
   case measure=>omega
   case rel=>exact⟨i+1,by simp,om,AM _,HG4.out,HC4.out⟩
  ·have hltz:¬ (i:Int)<25:=om;have e:i=25:=om;subst e;have hs2:=Tn w.heap.size 0;have hct:=Qi wr w.heap.size c HC.out 1099511627775 (b:=b) ⟨fun e=>(HB.out.1 e).elim (fun ⟨_,_,x⟩=>absurd rfl x) id,fun e=>HB.out.2 (AL e)⟩;go_wp2_with fail;refine hct.mono ?_;rintro e wr ⟨rfl,rfl⟩;clear hct;go_wp2;go_ret;exact⟨rfl,HG.out⟩
def sbS (B:Nat->Bool) (L:Nat->Int) (b:Nat):Int:=if B b=true then 3 else if 0<AA.lvK L 96 b then 2 else 0
def sbF (S:Nat->Int):Nat->Nat->(Nat->Int)->(Nat->Int)
 | 0,_,F=>F
 | n+1,i,F=>sbF S n (i+1) (AD.setF F (i:Nat) (S i))
theorem cR(B:Nat->Bool)(L:Nat->Int)(b:Nat):0<=sbS B L b/\sbS B L b<=3:=by
 unfold sbS;split
 ·omega
 ·split <;> omega
theorem Oc(A:Ad)(w:Wd)(K:BC)(h:CoreAt A w K)(c:AB.Bp)(hF:∀b,b<12->K.F b=0) :Calls prog 181 #[.pointer (some ⟨A.c,0,none⟩),.agg (AB.ckA c)] w fun e w'=>e=.returned (errV 0)/\CoreAt A w' { K with F:=sbF (sbS c.B K.L) 12 0 K.F }/\Chg (Cor A) w w':=by
 have HG0:Hid (Chg No w (w.alloc (.cells (AB.ckA c) 142))):=(Chg.refl _ w).alloc _;have HB0:=BB (AB.Ck.new w c);have HK0:=BB (h.chg0 HG0.out);have HNA:Hid (¬ Cor A w.heap.size):=h.apart (AM _);have q:=Bn;have g:=BM;have HF:=BB hF;obtain⟨X,HX⟩:∃X,Hid (sbF (sbS c.B K.L) 12 0 K.F=X):=⟨_,rfl⟩;rw[HX.out];obtain⟨c2,-⟩:=HK0.out.cMap;have hlv:=AA.Gx _ A.ma K.L HK0.out.map;have hz0:=HB0.out.lt;clear h hF;go_enter func181,ntmps181;go_wp2_with fail;generalize w.alloc (.cells (AB.ckA c) 142)=w0 at *
 refine hlv.mono ?_;rintro e w1 ⟨rfl,I1,G1⟩;have HI:=BB I1;have HK1:=BB (HK0.out.chg0 G1);have HG1:=BB ((Chg.cor0 (A:=A) HG0.out).trans (Chg.cor0 (A:=A) G1));have HB1:=BB (HB0.out.chg G1 (fun f=>f));have HN:Hid (¬ Cor A w0.heap.size):=HK0.out.apart (AM _);clear hlv c2 I1 G1 HG0 HB0 HK0;go_wp2_with fail
 go_loopg [15] 12 (fun kx s15 wr=>∃(i:Nat) (F:Nat->Int),s15=.int .i64 i/\i<=12/\12 - i<=kx/\Hid (CoreAt A wr { K with F:=F })/\Hid (Chg (Cor A) w wr)/\Hid (IB wr w0.heap.size 3 12 (fun k=>(AA.lvK K.L 96 k:Nat)))/\Hid (AB.Ck wr w.heap.size c)/\Hid (∀b,i<=b->b<12->F b=0)/\Hid (sbF (sbS c.B K.L) (12 - i) i F=X))
 case atStart=>exact⟨0,K.F,rfl,om,om,HK1.out,HG1.out,HI.out,HB1.out,fun b _ hb=>HF.out b hb,HX.out⟩
 case round=>
  obtain⟨i,F,rfl,hi,hkx,HC,HG,HJ,HB,HZ,HE⟩:=hrel;by_cases hlt:i<12
  ·have hltz:(i:Int)<12:=om;obtain⟨ci,-⟩:=HJ.out.cell i hlt;have cb:=HB.out.B i hlt;obtain⟨m,hm⟩:∃m,12 - i=m+1:=⟨11 - i,om⟩;have hm2:12 - (i+1)=m:=om;have HE2:Hid (sbF (sbS c.B K.L) m (i+1) (AD.setF F (i:Nat) (sbS c.B K.L i))=X):=by
    have:=HE.out;rw[hm,sbF] at this;exact this
   have hst:=AD.set_v wr A.po F HC.out.pool (i:Nat) (sbS c.B K.L i);have hr:=cR c.B K.L i;have hsc:AD.setC F (i:Nat) (sbS c.B K.L i)=0:=by
    unfold AD.setC;have:=HZ.out i (AM _) hlt;rw[AI om,AP,this,AI (by simp)]
   rw[hsc] at hst;have hwf:=HC.out.wf.st (i:Nat) (sbS c.B K.L i);have HWF:Hid (Wf { K with F:=AD.setF F (i:Nat) (sbS c.B K.L i) }):=hwf;have HM2:=BB hm2;have HZ2:Hid (∀b,i+1<=b->b<12->AD.setF F (i:Nat) (sbS c.B K.L i) b=0):=by
    intro b hb hb2;unfold AD.setF;rw[AJ hsc,AP];unfold upd;rw[AI om];exact HZ.out b om hb2
   obtain⟨d1,-⟩:=HC.out.cPool;have q0:∀w,(binOp .neq 33 (errV 0) .nilIface).run prog w=.ok (.bool false) w:=fun w=>q 0 w;replace ci:wr.cell? ⟨w0.heap.size,i,none⟩=some (.int .i64 ((AA.lvK K.L 96 i:Nat):Int)):=ci;have hsv:sbS c.B K.L i=if c.B i=true then 3 else if 0<AA.lvK K.L 96 i then 2 else 0:=rfl;clear hm hm2 HE hr hsc hwf q HZ;generalize AD.setF F (i:Nat) (sbS c.B K.L i)=F2 at *
   generalize sbS c.B K.L i=sv at *
   generalize AA.lvK K.L 96 i=lv at *
   generalize c.B i=bb at *
   have fin:∀w3:World,IB w3 A.po 167 13 F2->Chg (·=A.po) wr w3->CoreAt A w3 { K with F:=F2 }/\Chg (Cor A) w w3/\IB w3 w0.heap.size 3 12 (fun k=>(AA.lvK K.L 96 k:Nat))/\AB.Ck w3 w.heap.size c:=fun _ h3 g3=>
    ⟨HC.out.setPool h3 g3 HWF.out,HG.out.trans g3.cor_po,HJ.out.chg g3.cor_po HN.out,HB.out.chg g3.cor_po HNA.out⟩
   have HFI:=BB fin;clear fin;cases bb
   ·by_cases h0:0<lv
    ·have h0z:(0:Int)<(lv:Nat):=om;rw[AI (by simp),AJ h0] at hsv;subst hsv;clear h0;go_wp2_with fail;refine hst.mono ?_;rintro e w3 ⟨rfl,h3,g3⟩;obtain⟨k3,e3,i3,b3⟩:=HFI.out w3 h3 g3;have HK3:=BB k3;have HG3:=BB e3;have HI3:=BB i3;have HB3:=BB b3;clear hst h3 g3 k3 e3 i3 b3 HC HG HJ HB HFI;go_wp2
     go_roundg (12 - (i+1))
     case measure=>omega
     case rel=>exact⟨i+1,F2,by simp,om,AM _,HK3.out,HG3.out,HI3.out,HB3.out,HZ2.out,by rw[HM2.out];exact HE2.out⟩
    ·have h0z:¬ (0:Int)<(lv:Nat):=om;rw[AI (by simp),AI h0] at hsv;subst hsv;clear h0;go_wp2_with fail;refine hst.mono ?_;rintro e w3 ⟨rfl,h3,g3⟩;obtain⟨k3,e3,i3,b3⟩:=HFI.out w3 h3 g3;have HK3:=BB k3;have HG3:=BB e3;have HI3:=BB i3;have HB3:=BB b3;clear hst h3 g3 k3 e3 i3 b3 HC HG HJ HB HFI;go_wp2
     go_roundg (12 - (i+1))
     case measure=>omega
     case rel=>exact⟨i+1,F2,by simp,om,AM _,HK3.out,HG3.out,HI3.out,HB3.out,HZ2.out,by rw[HM2.out];exact HE2.out⟩
   ·rw[AJ rfl] at hsv;subst hsv;by_cases h0:0<lv
    ·have h0z:(0:Int)<(lv:Nat):=om;clear h0;go_wp2_with fail;refine hst.mono ?_;rintro e w3 ⟨rfl,h3,g3⟩;obtain⟨k3,e3,i3,b3⟩:=HFI.out w3 h3 g3;have HK3:=BB k3;have HG3:=BB e3;have HI3:=BB i3;have HB3:=BB b3;clear hst h3 g3 k3 e3 i3 b3 HC HG HJ HB HFI;go_wp2
     go_roundg (12 - (i+1))
     case measure=>omega
     case rel=>exact⟨i+1,F2,by simp,om,AM _,HK3.out,HG3.out,HI3.out,HB3.out,HZ2.out,by rw[HM2.out];exact HE2.out⟩
    ·have h0z:¬ (0:Int)<(lv:Nat):=om;clear h0;go_wp2_with fail;refine hst.mono ?_;rintro e w3 ⟨rfl,h3,g3⟩;obtain⟨k3,e3,i3,b3⟩:=HFI.out w3 h3 g3;have HK3:=BB k3;have HG3:=BB e3;have HI3:=BB i3;have HB3:=BB b3;clear hst h3 g3 k3 e3 i3 b3 HC HG HJ HB HFI;go_wp2
     go_roundg (12 - (i+1))
     case measure=>omega
     case rel=>exact⟨i+1,F2,by simp,om,AM _,HK3.out,HG3.out,HI3.out,HB3.out,HZ2.out,by rw[HM2.out];exact HE2.out⟩
  ·have hltz:¬ (i:Int)<12:=om;have e:i=12:=om;subst e;have HE3:Hid (F=X):=HE.out;go_wp2;go_ret;rw[<-HE3.out];exact⟨rfl,HC.out,HG.out⟩
section
variable {w:Wd}{b:Nat}{o:Oper}{a:Act}(A:Ad)(K:BC)
theorem cS(w:Wd):(binOp .neq 33 .nilIface .nilIface).run prog w=.ok (.bool false) w:=kr
theorem KW(of ab:Int):AH.newest [] of ab=none:=by
 have e2:AH.oN [] of ab=[]:=eq_nil_iff_forall_not_mem.2 fun f hf=>by cases (AH.bj.1 hf).1
 unfold AH.newest;rw[e2];rfl
theorem jv(c:AB.Bp):AH.lv [] c=fun _=>-1:=by
 funext i;unfold AH.lv;rw[show List.filter (AH.gd c) []=[] from rfl,KW]
theorem nc:AH.ml [] AB.ck0=1:=dc
theorem ng:false=true<->oO [] AB.ck0:=by
 constructor
 ·intro e;cases e
 ·rintro (⟨o,_,h⟩ | ⟨i,_,h⟩)
  ·exact absurd (KW _ _) h
  ·exact absurd (show (0:Int)=1099511627775 from h) dc
theorem nh:AH.mh AB.ck0:=⟨fun _ _=>by show _<=(0:Int)/\(0:Int)<=_;decide,by show _<=(0:Int)/\(0:Int)<=_;decide⟩
theorem ni:AB.Vp AB.ck0:=(AB.RQ AB.ck0 ⟨fun _ _=>by show _<=(0:Int)/\(0:Int)<=_;decide,by show _<=(0:Int)/\(0:Int)<=_;decide,by show _<=(0:Int)/\(0:Int)<=_;decide,fun _ _=>by show _<=(0:Int)/\(0:Int)<=_;decide,fun _ _=>by show _<=(0:Int)/\(0:Int)<=_;decide⟩).2 ⟨fun _ _=>by show 0<=(0:Int)/\(0:Int)<=_;decide,by show 0<=(0:Int)/\(0:Int)<=_;decide,by show 0<=(0:Int)/\(0:Int)<=_;decide,fun _ _=>by show 0<=(0:Int)/\(0:Int)<=_;decide,fun _ _=>by show 0<=(0:Int)/\(0:Int)<=_;decide⟩
theorem cU(f:Nat->Int)(i:Nat)(hi:i<25)(w:Wd):(Instr.index 38 (.agg (ints f 25).toArray) (.int .i64 i)).run prog w=.ok (.int .i64 (f i)) w:=by
 have h:=BJ f 25 i hi;generalize ints f 25=L at *
 simp[Instr.index,run_underlying underlying38,asIntOf,go_sem,hi,h,i6]
theorem Mn(w:Wd)(K:BC)(h:CoreAt A w K):Calls prog 180 #[.pointer (some ⟨A.c,0,none⟩),.slice none 0 0,.agg (AB.ckA AB.ck0)] w fun e w'=>e=.returned .nilIface/\CoreAt A w' K/\Chg No w w':=by
 have HB0:=BB (AB.Ck.new w AB.ck0);have HG0:Hid (Chg No w (w.alloc (.cells (AB.ckA AB.ck0) 142))):=(Chg.refl _ w).alloc _;have HK0:=BB (h.chg0 HG0.out);clear h;have hix:=cU (fun _=>-1);go_enter func180,ntmps180;go_wp2_with (refine AB.Bc rfl (.tmp 5) rfl w.heap.size rfl HB0.out ?_);generalize w.alloc (.cells (AB.ckA AB.ck0) 142)=w0 at *
 have hlv:=AH.ju w0 AB.ck0;rw[jv] at hlv;refine hlv.mono ?_;rintro e w1 ⟨rfl,G1⟩;have HG1:=BB (HG0.out.trans G1);have HK1:=BB (HK0.out.chg0 G1);clear G1 hlv HG0 HK0;go_wp2_with fail
 go_loopg [15] 25 (fun kx s15 wr=>∃i:Nat,s15=.int .i64 i/\i<=25/\25 - i<=kx/\wr=w1)
 case atStart=>exact⟨0,rfl,om,om,rfl⟩
 case round=>
  obtain⟨i,rfl,hi,hkx,rfl⟩:=hrel;by_cases hlt:i<25
  ·have hltz:(i:Int)<25:=om;have hi0:(0:Int)<=i:=om;have hx:=hix i hlt;go_wp2
   go_roundg (25 - (i+1))
   case measure=>omega
   case rel=>exact⟨i+1,by simp,om,AM _,rfl⟩
  ·have hltz:¬ (i:Int)<25:=om;go_wp2;go_ret;exact⟨rfl,HK1.out,HG1.out⟩
theorem jw:(prog.info? 116).map (·.size)=some 24:=kr
theorem jx(h:w.rangeAt b 0 (AB.ckL AB.ck0)):w.rangeAt b 0 (ints AB.ck0.F 24):=fun j v hv=>h j v (by
 have hj:=(List.getElem?_eq_some_iff.1 hv).1
 unfold AB.ckL
 rw[Af hj]
 exact hv)
theorem Ck.part{c:AB.Bp}(h:AB.Ck w b c):w.rangeAt b 0 (AB.ckL c):=fun j v hv=>by
 rw[AW]
 exact h.cell j hv
def corL (A:Ad) (K:BC):List Value:=(List.range 101).map (kc A K)
theorem Od:(corL A K).length=101:=by simp[corL]
theorem YW(w:Wd)(A:Ad)(s:BG)(tl:List Nat->Int->Pg):(Instr.build 124 #[(0,.pointer (some ⟨A.m,0,none⟩)),(1,.pointer (some ⟨A.po,0,none⟩)),(2,.pointer (some ⟨A.ma,0,none⟩)),(4,.agg (ints AB.ck0.F 24).toArray),(5,.int .i64 1),(6,.bool false),(8,.pointer (some ⟨A.pa,0,none⟩)),(10,.pointer (some ⟨A.h,0,none⟩))]).run prog w=.ok (.agg (corL A (K0 s tl)).toArray) w:=kr
theorem Kk{x1 x2 x3 x4 x5 x6 x7 x8:Operand}{A:Ad}{s:BG}{tl:List Nat->Int->Pg}(ho:o.op=.build 124 #[(0,x1),(1,x2),(2,x3),(4,x4),(5,x5),(6,x6),(8,x7),(10,x8)])(h1:a.eval x1=.pointer (some ⟨A.m,0,none⟩))(h2:a.eval x2=.pointer (some ⟨A.po,0,none⟩))(h3:a.eval x3=.pointer (some ⟨A.ma,0,none⟩))(h4:a.eval x4=.agg (ints AB.ck0.F 24).toArray)(h5:a.eval x5=.int .i64 1)(h6:a.eval x6=.bool false)(h7:a.eval x7=.pointer (some ⟨A.pa,0,none⟩))(h8:a.eval x8=.pointer (some ⟨A.h,0,none⟩)):(execOp a.eval o).run prog w=.ok (.value (.agg (corL A (K0 s tl)).toArray)) w:=by
 have hb:=YW w A s tl;unfold execOp;rw[ho];simp only[map_toArray,map_cons,map_nil,h1,h2,h3,h4,h5,h6,h7,h8];generalize Instr.build 124 #[(0,.pointer (some ⟨A.m,0,none⟩)),(1,.pointer (some ⟨A.po,0,none⟩)),(2,.pointer (some ⟨A.ma,0,none⟩)),(4,.agg (ints AB.ck0.F 24).toArray),(5,.int .i64 1),(6,.bool false),(8,.pointer (some ⟨A.pa,0,none⟩)),(10,.pointer (some ⟨A.h,0,none⟩))]=b at *
 simp[hb]
theorem Oe{ops:Array Oper}{K:Act->World->Prop}{Q:Exit->Act->World->Prop}{E:Prop}(hgd:o.guard=none)(x:Operand)(ho:o.op=.box 124 x){C:Array Value}(hx:a.eval x=.agg C)(h:K (a.put o.dst (.pointer (some ⟨w.heap.size,0,none⟩))) (w.alloc (.cells C 124))):if Region.wanted o (yielded ops a.tmps)=true then Oper.wp prog o a w K Q else E:=by
 rw[AJ (by simp[Region.wanted,hgd])];unfold Oper.wp;simp[execOp,ho,hx,Instr.box,newVar,Value.cells,newRow];exact h
theorem cV(w:Wd)(A:Ad)(K:BC)(hA:A.c=w.heap.size)(hq:K.qu=[]):AE.QB (w.alloc (.cells (corL A K).toArray 124)) A.c 124 101 (kc A K) 83 K.qu:=by
 rw[hq,hA];refine⟨fun _=>0,⟨⟨(corL A K).toArray,by show (w.heap.push _)[w.heap.size]?=_;simp,by simp[Od],fun i hi=>?_⟩,dc⟩,rfl,fun i hi=>by cases hi⟩;have e:(corL A K).toArray[i]?=some (kc A K i):=by simp[corL,hi]
 rw[e];by_cases c:83<=i/\i<96
 ·obtain⟨k,rfl⟩:∃k,i=83+k:=⟨i - 83,om⟩;rw[AE.Br _ _ _ _ _ om];unfold kc;rw[AI om,AI om,AI om,AI om,AI om,AI om,AI om,AI om,AI om,AI om,AI om,AJ om]
 ·rw[AE.CK _ _ _ _ _ om]
theorem oy:sbF (sbS AB.ck0.B (fun _=>-1)) 12 0 (fun _=>0)=fun _=>0:=by
 have hS:∀b,b<12->sbS AB.ck0.B (fun _=>-1) b=0:=fun b hb=>by
  unfold sbS;rw[AI (by show ¬ false=true;decide),AI];rw[AA.L6 _ hb];have:=GR OR b;intro e;cases hl:AA.ofL (fun _=>-1) b with
  | nil=>rw[hl] at e;exact absurd e dc
  | cons x l=>
   have h2:=(this.1 x.toNat (by rw[hl];simp)).2.1;exact h2 rfl
 have:∀n i,i+n<=12->sbF (sbS AB.ck0.B (fun _=>-1)) n i (fun _=>0)=fun _=>0:=by
  intro n
  induction n with
  | zero=>intro i _;rfl
  | succ n ih=>
   intro i hi;rw[sbF,hS i om];have e:AD.setF (fun _=>0) (i:Nat) 0=fun _=>0:=by
    unfold AD.setF;split
    ·exact mD _
    ·rfl
   rw[e];exact ih (i+1) om
 exact this 12 0 (AM _)
def Far (A:Ad) (g n:Nat):Prop:=A.g=g/\n<=A.c/\n<=A.m/\n<=A.p/\n<=A.q/\n<=A.b/\n<=A.po/\n<=A.ma/\n<=A.pa/\n<=A.h
theorem Tp(g:Nat)(s:BG)(hs:s.Ok)(tl:List Nat->Int->Pg)(htl:∀L n,ToldR L n (tl L n))(w:Wd)(h:BE w g s) :Calls prog 140 #[.pointer (some ⟨g,0,none⟩),.agg (AB.ckA AB.ck0),.slice none 0 0] w fun e w'=>∃A,Far A g w.heap.size/\e=.returned (.tuple #[.pointer (some ⟨A.c,0,none⟩),errV 0])/\CoreAt A w' (K0 s tl)/\Chg (·=g) w w':=by
 have HC:=BB h;have HWF:=BB (mj hs htl);have HB0:=BB (AB.Ck.new w AB.ck0);have HG0:Hid (Chg No w (w.alloc (.cells (AB.ckA AB.ck0) 142))):=(Chg.refl _ w).alloc _;have q:=cS;clear h hs htl;go_enter func140,ntmps140;go_wp2_with (refine AB.Bc rfl (.tmp 4) rfl w.heap.size rfl HB0.out ?_);generalize w.alloc (.cells (AB.ckA AB.ck0) 142)=w0 at *
 refine(AB.LK w0 AB.ck0 ni).mono ?_;rintro e w1 ⟨gp,rfl,-,-,G1⟩;have HG1:=BB (HG0.out.trans G1);have HB1:=BB (HB0.out.chg G1 (fun f=>f));have k37:w1.cell? ⟨w.heap.size,37,none⟩=some (.int .i64 0):=HB1.out.C;clear G1 HG0 HB0;go_wp2_with fail;refine(AE.new_yes w1 0 dc).mono ?_;rintro e w2 ⟨rfl,P2,G2⟩;have HP2:=BB P2;have HG2:=BB (HG1.out.trans G2);have HB2:=BB (HB1.out.chg G2 (fun f=>f));have hz2:w.heap.size<=w1.heap.size:=HG1.out.size;have hw2:w1.heap.size<w2.heap.size:=HP2.out.lt;clear P2 G2 HG1 HB1 k37;have HNW:Hid (∀u,AB.Ck u w.heap.size AB.ck0->Calls prog 175 #[.slice (some ⟨w.heap.size,38,none⟩) 12 12,.slice (some ⟨w.heap.size,50,none⟩) 12 12] u fun e w'=>e=.returned (.tuple #[.pointer (some ⟨u.heap.size,0,none⟩),.nilIface])/\AF.HB w' u.heap.size 170 (AF.lim 65535 (fun _=>0)) (AF.lim 65535 (fun _=>0)) (AF.lim 255 (fun _=>0))/\Chg No u w'):=fun u hu=>
  AF.new_yes u (some ⟨w.heap.size,38,none⟩) (some ⟨w.heap.size,50,none⟩) 12 12 12 12 (fun _=>0) (fun _=>0) (AL ⟨_,_,rfl,hu.lt,fun i hi=>hu.R i hi⟩) (AL ⟨_,_,rfl,hu.lt,fun i hi=>hu.S i hi⟩) ((AF.Fl _ _).2 ⟨rfl,fun _ _=>Int.le_refl _⟩) ((AF.Fl _ _).2 ⟨rfl,fun _ _=>Int.le_refl _⟩)
 have k38:w2.drew.cell? ⟨w.heap.size,38,none⟩=some (.int .i64 0):=HB2.out.R 0 dc;go_wp2_with fail
 go_region_held3 (fun wx=>wx.cell? ⟨w.heap.size,38,none⟩=some (.int .i64 0))
  (first | exact k38 | exact k38')
  (first | (go_at_call 175;refine(HNW.out _ (HB2.out.chg ((Chg.refl No w2).drewN 1) (fun f=>f))).mono ?_;rintro e w3 ⟨rfl,H3,G3⟩;have k38':=(HB2.out.chg (((Chg.refl No w2).drewN 1).trans G3) (fun f=>f)).R 0 dc;have HH3:=BB H3;have HG3:=BB (((Chg.refl No w2).drewN 1).trans G3)))
 have HB3:=BB (HB2.out.chg HG3.out (fun f=>f));have HP3:=BB (HP2.out.chg HG3.out (fun f=>f));have HGa:=BB (HG2.out.trans HG3.out);have hh3:w2.heap.size<w3.heap.size:=HH3.out.lt;go_wp2_with fail;have HBD:Hid (AB.Ck w3.drew w.heap.size AB.ck0):=HB3.out;have HGD:Hid (Chg No w w3.drew):=HGa.out.drew;refine wp_region_noPanic ?_;refine wp_region_held_drew (S:=fun wx=>wx.rangeAt w.heap.size 0 (AB.ckL AB.ck0)) kr (Ck.part HBD.out) (fun hHeld=>?_);refine Ab (i:=0) rfl kr kr kr (fun _ _ _ h=>h) (AK ⟨rfl,fun _ _=>rfl⟩) hHeld ?_;simp only[Act.put,getElem_toArray,getElem_cons_zero,setIfInBounds_toArray,set_cons_zero,set_cons_succ];refine Ab (i:=4) rfl kr kr kr (fun _ _ _ h=>h) (AK ⟨rfl,fun _ _=>rfl⟩) hHeld ?_
 try simp only[Act.put,bu]
 refine Ab (i:=5) rfl kr kr kr (fun _ _ _ h=>h) (yieldsIf_load_mid rfl 116 _ rfl w.heap.size 0 rfl (ints AB.ck0.F 24) _ (fun w hw=>jx hw) underlying116 rfl (by rw[BD];exact jw)) hHeld ?_
 try simp only[Act.put,bu]
 refine Ab (i:=6) rfl kr kr kr (fun _ _ _ h=>h) (AK ⟨rfl,fun _ _=>rfl⟩) hHeld ?_
 try simp only[Act.put,bu]
 refine Ab (i:=7) rfl kr kr kr (fun _ _ _ h=>h) (yieldsIf_load_mid rfl 142 _ rfl w.heap.size 0 rfl (AB.ckL AB.ck0) _ (fun w hw=>hw) underlying142 rfl (by rw[AB.GL];exact AB.size26)) hHeld ?_
 try simp only[Act.put,bu]
 refine Ab (i:=9) rfl kr kr kr (fun _ _ _ h=>h) (AK ⟨rfl,fun _ _=>rfl⟩) hHeld ?_
 try simp only[Act.put,bu]
 refine Ab (i:=10) rfl kr kr kr (fun _ _ _ h=>h) (yieldsIf_load_mid rfl 142 _ rfl w.heap.size 0 rfl (AB.ckL AB.ck0) _ (fun w hw=>hw) underlying142 rfl (by rw[AB.GL];exact AB.size26)) hHeld ?_
 try simp only[Act.put,bu]
 refine Ab (i:=12) rfl kr kr kr (fun _ _ _ h=>h) (AK ⟨rfl,fun _ _=>rfl⟩) hHeld ?_
 try simp only[Act.put,bu]
 refine Ab (i:=13) rfl kr kr kr (fun _ _ _ h=>h) (AK ⟨rfl,fun _ _=>rfl⟩) hHeld ?_
 try simp only[Act.put,bu]
 refine wpAnyH_ready (rs:=[1]) kr (by simp) ?_;refine AllReadyH.cons rfl (fun K' hK=>?_) AllReadyH.nil;go_simp;refine(Ni g _).mono ?_;rintro e w5 ⟨m,p,q,b,rfl,hlt5,hM5,G5⟩;have HM5:=BB hM5;have HG5:=BB (HGD.out.trans G5);have HL5:=BB hlt5;have hz35:w3.heap.size<=w5.heap.size:=G5.size;have G35:Hid (Chg No w3 w5):=((Chg.refl No w3).drewN 1).trans G5;refine hK.out _ _ (Ck.part (HBD.out.chg G5 (fun f=>f))) (fun hHeld=>?_);have HB5:=BB (HBD.out.chg G5 (fun f=>f));clear hK K' hM5 hlt5 G5
 try simp only[Act.put,bu]
 refine wpAnyH_ready (rs:=[2]) kr (by simp) ?_;refine AllReadyH.cons rfl (fun K' hK=>?_) AllReadyH.nil;go_simp;refine(AD.GW _).mono ?_;rintro e w6 ⟨rfl,hP6,G6⟩;have HP6:=BB hP6;have HG6:=BB G6;refine hK.out _ _ (Ck.part (HB5.out.chg G6 (fun f=>f))) (fun hHeld=>?_);have HB6:=BB (HB5.out.chg G6 (fun f=>f));clear hK K' hP6 G6
 try simp only[Act.put,bu]
 refine wpAnyH_ready (rs:=[3]) kr (by simp) ?_;refine AllReadyH.cons rfl (fun K' hK=>?_) AllReadyH.nil;go_simp;refine(AA.GW _).mono ?_;rintro e w7 ⟨rfl,hQ7,G7⟩;have HQ7:=BB hQ7;have HG7:=BB G7;refine hK.out _ _ (Ck.part (HB6.out.chg G7 (fun f=>f))) (fun hHeld=>?_);have HB7:=BB (HB6.out.chg G7 (fun f=>f));clear hK K' hQ7 G7
 try simp only[Act.put,bu]
 refine wpAnyH_ready (rs:=[8]) kr (by simp) ?_;refine AllReadyH.cons rfl (fun K' hK=>?_) AllReadyH.nil;go_simp;refine(AH.Xa w7 none 0 [] 0 rfl (AH.Ow.nil w7 0).sl dc AB.ck0 nh).mono ?_;rintro e w8 ⟨rfl,G8⟩;have HG8:=BB G8;refine hK.out _ _ (Ck.part (HB7.out.chg G8 (fun f=>f))) (fun hHeld=>?_);have HB8:=BB (HB7.out.chg G8 (fun f=>f));clear hK K' G8;rw[nc]
 try simp only[Act.put,bu]
 refine wpAnyH_ready (rs:=[11]) kr (by simp) ?_;refine AllReadyH.cons rfl (fun K' hK=>?_) AllReadyH.nil;go_simp;refine(To w8 AB.ck0 (b:=false) ng).mono ?_;rintro e w9 ⟨rfl,G9⟩;have HG9:=BB G9;refine hK.out _ _ (Ck.part (HB8.out.chg G9 (fun f=>f))) (fun hHeld=>?_);have HB9:=BB (HB8.out.chg G9 (fun f=>f));clear hK K' G9
 try simp only[Act.put,bu]
 refine Ab (i:=14) rfl kr kr kr (fun _ _ _ h=>h) (AK ⟨rfl,fun _ _=>Kk (A:=⟨w9.heap.size,m,g,p,q,b,w5.heap.size,w6.heap.size,w1.heap.size,w2.heap.size⟩) (s:=s) (tl:=tl) rfl rfl rfl rfl rfl rfl rfl rfl rfl⟩) hHeld ?_
 try simp only[Act.put,bu]
 refine wpAnyH_ready (rs:=[15]) kr (by simp) ?_;refine AllReadyH.cons rfl (fun K' hK=>?_) AllReadyH.nil;refine Oe rfl (.tmp 57) rfl rfl ?_;refine hK.out _ _ (Ck.part (HB9.out.alloc _)) (fun hHeld=>?_);clear hK K'
 try simp only[Act.put,bu]
 refine Ab (i:=16) rfl kr kr kr (fun _ _ _ h=>h) (AK ⟨rfl,fun _ _=>rfl⟩) hHeld ?_
 try simp only[Act.put,bu]
 clear hHeld;refine wpAnyH_done kr ?_ _;refine NoPanic.normal ?_;have G510:Chg No w5 (w9.alloc (.cells (corL ⟨w9.heap.size,m,g,p,q,b,w5.heap.size,w6.heap.size,w1.heap.size,w2.heap.size⟩ (K0 s tl)).toArray 124)):=(((HG6.out.trans HG7.out).trans HG8.out).trans HG9.out).alloc _;have hsz5:w3.heap.size<=w5.heap.size/\w.heap.size<=w3.heap.size:=⟨hz35,HGa.out.size⟩;have hsz9:w5.heap.size<=w9.heap.size/\w5.heap.size<=w6.heap.size:=⟨(((HG6.out.trans HG7.out).trans HG8.out).trans HG9.out).size,HG6.out.size⟩;have HK:Hid (CoreAt ⟨w9.heap.size,m,g,p,q,b,w5.heap.size,w6.heap.size,w1.heap.size,w2.heap.size⟩ (w9.alloc (.cells (corL ⟨w9.heap.size,m,g,p,q,b,w5.heap.size,w6.heap.size,w1.heap.size,w2.heap.size⟩ (K0 s tl)).toArray 124)) (K0 s tl)):=by
  obtain⟨lm,lp,lq,lb⟩:=HM5.out.lts;have el:AF.lim 65535 (fun _=>0)=fun _=>0:=by funext i;show min (0:Int) 65535=0;decide
  have el2:AF.lim 255 (fun _=>0)=fun _=>0:=by funext i;show min (0:Int) 255=0;decide
  have hH:=HH3.out;rw[el,el2] at hH;refine⟨cV w9 _ _ rfl rfl,⟨(G510.block m lm (fun f=>f)).trans HM5.out.1,HM5.out.2.other (G510.block b lb (fun f=>f)) (G510.block q lq (fun f=>f)) (G510.block p lp (fun f=>f))⟩,HC.out.chg (HG5.out.trans G510) (fun f=>f),HP6.out.chg (((HG7.out.trans HG8.out).trans HG9.out).alloc _) (fun f=>f),IB.chg HQ7.out ((HG8.out.trans HG9.out).alloc _) (fun f=>f),IB.chg HP3.out ((G35.out.trans G510)) (fun f=>f),IB.chg hH ((G35.out.trans G510)) (fun f=>f),HWF.out⟩
 have HB10:=BB (HB9.out.alloc (.cells (corL ⟨w9.heap.size,m,g,p,q,b,w5.heap.size,w6.heap.size,w1.heap.size,w2.heap.size⟩ (K0 s tl)).toArray 124));have HG10:=BB (HG5.out.trans G510);have HFAR:Hid (Far ⟨w9.heap.size,m,g,p,q,b,w5.heap.size,w6.heap.size,w1.heap.size,w2.heap.size⟩ g w.heap.size):=by
  obtain⟨l1,l2,l3,l4⟩:=HL5.out;have l1':w3.heap.size<=m:=l1;have l2':w3.heap.size<=p:=l2;have l3':w3.heap.size<=q:=l3;have l4':w3.heap.size<=b:=l4;exact⟨rfl,by show w.heap.size<=w9.heap.size;omega,by show w.heap.size<=m;omega,by show w.heap.size<=p;omega,by show w.heap.size<=q;omega,by show w.heap.size<=b;omega,by show w.heap.size<=w5.heap.size;omega,by show w.heap.size<=w6.heap.size;omega,by show w.heap.size<=w1.heap.size;omega,by show w.heap.size<=w2.heap.size;omega⟩
 generalize w9.alloc (.cells (corL ⟨w9.heap.size,m,g,p,q,b,w5.heap.size,w6.heap.size,w1.heap.size,w2.heap.size⟩ (K0 s tl)).toArray 124)=w10 at *
 clear HM5 HP6 HQ7 HG6 HG7 HG8 HG9 HB5 HB6 HB7 HB8 HB9 HG5 HL5 HBD HGD HH3 HG3 HB3 HP3 HGa HB2 HP2 HG2 HNW HC HWF G510 G35;go_wp2_with (refine AB.Bc rfl (.tmp 4) rfl w.heap.size rfl HB10.out ?_);refine(Mn _ w10 _ HK.out).mono ?_;rintro e w11 ⟨rfl,K11,G11⟩;have HK11:=BB K11;have HG11:=BB (HG10.out.trans G11);have HB11:=BB (HB10.out.chg G11 (fun f=>f));clear K11 G11 HK HG10 HB10;go_wp2_with (refine AB.Bc rfl (.tmp 4) rfl w.heap.size rfl HB11.out ?_);refine(Oc _ w11 _ HK11.out AB.ck0 (fun _ _=>rfl)).mono ?_;rintro e w12 ⟨rfl,K12,G12⟩;have HK12:=BB K12;have HG12:Hid (Chg (·=g) w w12):=(HG11.out.mono (fun _ _ f=>f.elim)).trans' G12 (fun k hk e=>by
  obtain⟨f0,f1,f2,f3,f4,f5,f6,f7,f8,f9⟩:=HFAR.out
  rcases e with e | e | e | e | e | e | e | e
  ·
   omega
  ·
   omega
  ·
   exact e
  ·
   omega
  ·
   omega
  ·
   omega
  ·
   omega
  ·
   omega)
 clear K12 G12;go_wp2;go_ret2;refine⟨_,HFAR.out,rfl,?_,HG12.out⟩;have:=HK12.out;have e5:({ K0 s tl with F:=sbF (sbS AB.ck0.B (K0 s tl).L) 12 0 (K0 s tl).F }:BC)=K0 s tl:=by
  show ({ K0 s tl with F:=sbF (sbS AB.ck0.B (fun _=>-1)) 12 0 (fun _=>0) }:BC)=K0 s tl;rw[oy];rfl
 rw[e5] at this;exact this
theorem Rl(g:Nat)(w:Wd):(binOp .eql 24 (.pointer (some ⟨g,0,none⟩)) (.pointer none)).run prog w=.ok (.bool false) w:=kr
theorem cW(g:Nat)(s:BG)(hs:s.Ok)(tl:List Nat->Int->Pg)(htl:∀L n,ToldR L n (tl L n))(w:Wd)(h:BE w g s) :Calls prog 102 #[.pointer (some ⟨g,0,none⟩),.agg (AB.ckA AB.ck0),.slice none 0 0] w fun e w'=>∃A,Far A g w.heap.size/\e=.returned (.tuple #[.pointer (some ⟨A.c,0,none⟩),.nilIface])/\CoreAt A w' (K0 s tl)/\Chg (·=g) w w':=by
 have HB0:=BB (AB.Ck.new w AB.ck0);have HG0:Hid (Chg No w (w.alloc (.cells (AB.ckA AB.ck0) 142))):=(Chg.refl _ w).alloc _;have hsz:(w.alloc (.cells (AB.ckA AB.ck0) 142)).heap.size=w.heap.size+1:=World.size_alloc _ _;have hbg:=Tp g s hs tl htl (w.alloc (.cells (AB.ckA AB.ck0) 142)) (h.chg HG0.out (fun f=>f));have q:=Bn;have q0:∀w,(binOp .neq 33 (errV 0) .nilIface).run prog w=.ok (.bool false) w:=fun w=>q 0 w;have gq:=BM;have HS:=BB hsz;clear h hs htl hsz q;go_enter func102,ntmps102;go_wp2_with (refine AB.Bc rfl (.tmp 4) rfl w.heap.size rfl HB0.out ?_);refine hbg.mono ?_;rintro e w1 ⟨A,hF,rfl,hK,hG⟩;have HK:=BB hK;have HG:=BB ((HG0.out.mono (T:=(·=g)) (fun _ _ f=>f.elim)).trans hG);have HF:Hid (Far A g w.heap.size):=by
  obtain⟨f0,f1,f2,f3,f4,f5,f6,f7,f8,f9⟩:=hF;have:=HS.out;exact⟨f0,om,om,om,om,om,om,om,om,om⟩
 clear hbg hK hG hF;go_wp2;go_ret2;exact⟨A,HF.out,rfl,HK.out,HG.out⟩
end
theorem cX(w:Wd):Calls prog 135 #[.slice none 0 0] w fun e w'=>e=.returned (.slice none 0 0)/\w'=w:=by
 have q:∀w:World,(binOp .eql 144 (.slice none 0 0) (.slice none 0 0)).run prog w=.ok (.bool true) w:=fun w=>kr
 go_enter func135,ntmps135;go_wp2;go_ret;exact⟨rfl,rfl⟩
theorem Of(B:Nat)(v:Value)(w:Wd)(h:Sg w B v) :Calls prog 101 #[.pointer (some ⟨B,0,none⟩)] w fun e w'=>e=.returned (.tuple #[.agg (AB.ckA AB.ck0),.bool false])/\Chg No w w':=by
 have H1:=BB (AB.Ck.new w AB.ck0);have G1:Hid (Chg No w (w.alloc (.cells (AB.ckA AB.ck0) 142))):=(Chg.refl _ w).alloc _;have c0:=(h.chg G1.out (fun f=>f)).cells.1;clear h;go_enter func101,ntmps101;go_wp2_with (first | refine AB.Cn rfl rfl ?_);generalize w.alloc (.cells (AB.ckA AB.ck0) 142)=w1 at *
 have hcl:=cX w1;go_wp2_with fail;refine hcl.mono ?_;rintro e w2 ⟨rfl,rfl⟩;clear hcl;go_wp2
 go_loopg [4] 0 (fun kx s4 wr=>s4=.slice none 0 0/\Hid (wr=w2))
 case atStart=>exact⟨rfl,rfl⟩
 case round=>
  obtain⟨rfl,HW⟩:=hrel;obtain rfl:=HW.out;have hcall:=AH.KV wr none 0 24 (-1);go_wp2_with fail;refine hcall.mono ?_;rintro e w3 ⟨rfl,G3⟩;have H3:=BB (H1.out.chg G3 (fun f=>f));have G3':=BB (G1.out.trans G3);clear hcall c0 G3;go_wp2_with (refine AH.Bv rfl rfl _ rfl ?_);intro w4 K4 G4 S4;have HK4:=BB K4;have H4:=BB (H3.out.chg G4 (fun f=>f));have HG4:=BB (G3'.out.trans G4);have HS4:=BB S4;have HLE:=BB G3'.out.size;have HB3:=BB H3.out.lt;clear K4 G4 S4;go_wp2_with (refine AH.wpList_store_fo rfl (.tmp 5) (.tmp 17) rfl _ rfl rfl HK4.out ?_);intro w5 K5 G5;have H5:=BB (H4.out.chg G5 (fun e=>by have:=HB3.out;omega));have HG5:=BB (HG4.out.trans' G5 (fun k hk e=>by have:=HLE.out;omega));clear K5 G5 HK4;go_wp2_with (first | (refine AB.Ev rfl rfl ?_) | (refine AB.Cm rfl (.tmp 2) (.tmp 21) rfl _ rfl rfl H5.out ?_));intro w6 K6 G6;have HG6:=BB (HG5.out.trans' G6 (fun k hk e=>om));go_wp2;refine AZ (AB.Py rfl _ rfl K6) rfl ?_;exact⟨rfl,HG6.out⟩
theorem Og{A:Ad}{g n m:Nat}(h:Far A g n)(hm:m<=n):Far A g m:=by
 obtain⟨a,b,c,d,e,f,i,j,k,l⟩:=h;exact⟨a,om,om,om,om,om,om,om,om,om⟩
theorem Qj(B g:Nat)(v:Value)(s:BG)(hs:s.Ok)(tl:List Nat->Int->Pg)(htl:∀L n,ToldR L n (tl L n))(w:Wd)(h:Sg w B v)(hc:BE w g s) :Calls prog 66 #[.pointer (some ⟨B,0,none⟩),.pointer (some ⟨g,0,none⟩)] w fun e w'=>∃A,Far A g w.heap.size/\e=.returned (.tuple #[.pointer (some ⟨A.c,0,none⟩),.nilIface])/\CoreAt A w' (K0 s tl)/\Chg (·=g) w w':=by
 have hcall:=Of B v w h;have HC:=BB hc;have hb:=AB.build26;clear h hc;go_enter func66,ntmps66;go_wp2_with fail;refine hcall.mono ?_;rintro e w1 ⟨rfl,G1⟩;have HC1:=BB (HC.out.chg G1 (fun f=>f));have HG1:=BB G1;clear hcall G1;have H2:=BB (AB.Ck.new w1 AB.ck0);have G2:Hid (Chg No w1 (w1.alloc (.cells (AB.ckA AB.ck0) 142))):=(Chg.refl _ w1).alloc _;go_wp2_with (first | (refine AB.Cn rfl rfl ?_) | (refine AB.Cm rfl (.tmp 6) (.tmp 11) rfl _ rfl rfl H2.out ?_));intro w3 K3 G3;have HL1:=BB HG1.out.size;have HC3:=BB ((HC1.out.chg G2.out (fun f=>f)).chg G3 (fun e=>by have:=HC1.out.lt;omega));have HG3:=BB ((HG1.out.trans G2.out).trans' G3 (fun k hk e=>by have:=HL1.out;omega));clear K3 G3 H2 G2 HC1;have hnew:=cW g s hs tl htl w3 HC3.out;go_wp2_with (refine AB.Ev rfl rfl ?_);refine hnew.mono ?_;rintro e w4 ⟨A,hF,rfl,hK,G4⟩;have HF:=BB hF;have HK:=BB hK;have HG4:=BB ((HG3.out.mono (T:=(·=g)) (fun _ _ f=>f.elim)).trans G4);have HS:=BB HG3.out.size;clear hnew hF hK G4;go_wp2;go_ret2;exact⟨A,Og HF.out HS.out,rfl,HK.out,HG4.out⟩
section
variable {b n:Nat}(w:Wd)
theorem cY:Calls prog 143 #[.int .u64 1,.int .u64 12] w fun e w'=>e=.returned (.tuple #[.int .u64 0,.int .u64 12])/\w'=w:=by
 go_enter func143,ntmps143;go_wp2;go_ret2;exact⟨rfl,rfl⟩
theorem mN:Calls prog 104 #[.int .u64 1,.int .u64 12] w fun e w'=>e=.returned (.tuple #[.int .u64 0,.int .u64 12])/\w'=w:=by
 have hc:=cY w;go_enter func104,ntmps104;go_wp2_with fail;refine hc.mono ?_;rintro e w1 ⟨rfl,rfl⟩;go_wp2;go_ret2;exact⟨rfl,rfl⟩
theorem cZ:(Instr.makeSlice 22 (.int .i64 12) (.int .i64 12)).run prog w=.ok (.slice (some ⟨w.heap.size,0,none⟩) 12 12) (w.alloc (.cells (ints (fun _=>0) 12).toArray 3)):=kr
def E8 (n:Nat):Nat->Int:=fun b=>if b<n then 8 else 0
theorem cd(n k:Nat)(h:n+k<=12):(ints (E8 n) 12).take n ++ List.replicate k (.int .i64 8) ++ (ints (E8 n) 12).drop (n+(List.replicate k (Value.int .i64 8)).length)=ints (E8 (n+k)) 12:=by
 rw[length_replicate];apply ext_getElem?;intro i;have l1:((ints (E8 n) 12).take n).length=n:=by rw[length_take,BD];omega
 by_cases h1:i<n
 ·rw[Aq,Af om,List.getElem?_take,AJ h1,BJ _ _ _ om,BJ _ _ _ om];unfold E8;rw[AJ h1,AJ om]
 ·by_cases h2:i<n+k
  ·rw[Aq,Aa om,l1,Af (by rw[length_replicate];omega),List.getElem?_replicate,AJ om,BJ _ _ _ om];unfold E8;rw[AJ h2];rfl
  ·rw[Aq,Aa om,l1,Aa (by rw[length_replicate];omega),length_replicate,List.getElem?_drop,show n+k+(i - n - k)=i by omega];by_cases h3:i<12
   ·rw[BJ _ _ _ h3,BJ _ _ _ h3];unfold E8;rw[AI h1,AI h2]
   ·rw[Ae (by rw[BD];omega),Ae (by rw[BD];omega)]
theorem Oh(ty:TypeId)(b n k g dl dc sl sc:Nat)(hI:IB w b 3 12 (E8 n))(hk:Nat.min sl dl=k)(hn:n+k<=12)(hsrc:∀j,j<k->w.cell? ⟨g,j,none⟩=some (.int .i64 8)) :(Builtin.copy_ #[22,22] ty #[.slice (some ⟨b,n,none⟩) dl dc,.slice (some ⟨g,0,none⟩) sl sc]).run prog w=.ok (goInt k) (w.setRow b (ints (E8 (n+k)) 12).toArray):=by
 have hlen:(List.replicate k (Value.int .i64 8)).length=k:=length_replicate;have hrun:=run_copy_row (P:=prog) w 22 22 ty 3 b n dl dc ⟨g,0,none⟩ sl sc (ints (E8 n) 12).toArray 3 (List.replicate k (.int .i64 8)) underlying22 AE.size3 hI (by rw[hlen,hk]) (fun j v hv=>by
  have hj:j<k:=by have:=(List.getElem?_eq_some_iff.1 hv).1;rwa [hlen] at this
  rw[List.getElem?_replicate,AJ hj] at hv
  injection hv with hv
  subst hv
  rw[Addr.add_mid,AW]
  exact hsrc j hj) (by rw[hlen,size_toArray,BD];omega) (fun v hv=>by rw[(mem_replicate.1 hv).2];rfl)
 rw[show (ints (E8 n) 12).toArray.toList=ints (E8 n) 12 from rfl,cd n k hn,hlen] at hrun;exact hrun
theorem Qk{w:Wd}{m:Nat}(hI:IB w b 3 12 (E8 n)):IB (w.setRow b (ints (E8 m) 12).toArray) b 3 12 (E8 m)/\Chg (·=b) w (w.setRow b (ints (E8 m) 12).toArray):=
 ⟨setRow_heap w b _ _ 3 _ hI,Cj _ _ _⟩
theorem E8.cell{w:Wd}(hI:IB w b 3 12 (E8 n)){j:Nat}(hj:j<n)(hn:n<=12):w.cell? ⟨b,j,none⟩=some (.int .i64 8):=by
 rw[(hI.cell j om).1];unfold E8;rw[AJ hj]
theorem YX(g:Nat)(w:Wd)(hc:w.cell? ⟨g,0,none⟩=some (.int .i64 8))(hg:g<w.heap.size) :Calls prog 68 #[.slice (some ⟨g,0,none⟩) 1 1,.int .i64 12] w fun e w'=>∃d,e=.returned (.slice (some ⟨d,0,none⟩) 12 12)/\w.heap.size<=d/\IB w' d 3 12 (E8 12)/\Chg No w w':=by
 have hm:=cZ w;have HG:=BB hg;have HC:=BB hc;have hmul:=mN w;clear hc hg;go_enter func68,ntmps68;go_wp2_with fail;refine hmul.mono ?_;rintro e w1 ⟨rfl,rfl⟩;clear hmul;have hI0:IB (w1.alloc (.cells (ints (fun _=>0) 12).toArray 3)) w1.heap.size 3 12 (E8 0):=by
  show (w1.heap.push _)[w1.heap.size]?=_;simp;rfl
 have G0:Chg No w1 (w1.alloc (.cells (ints (fun _=>0) 12).toArray 3)):=(Chg.refl _ w1).alloc _;have hcp:=Oh _ 3 w1.heap.size 0 1 g 12 12 1 1 hI0 rfl om (fun j hj=>by
  obtain rfl:j=0:=om
  exact(G0.cell HG.out (fun f=>f) 0).trans HC.out)
 obtain⟨K1,G1⟩:=Qk (m:=1) hI0;have HK:=BB K1;have HG1:=BB (G0.trans' G1 (fun k hk e=>om));obtain⟨N,hN⟩:∃N,w1.heap.size=N:=⟨_,rfl⟩;have HN:=BB hN;clear K1 G1 G0 HC HG;rw[hN] at hm hcp HK HG1;go_wp2;generalize ((w1.alloc (.cells (ints (fun _=>0) 12).toArray 3)).setRow N (ints (E8 (0+1)) 12).toArray)=w2 at *
 go_loopg [8] 12 (fun kx s8 wr=>∃n:Nat,s8=.int .i64 n/\(n=1\/n=2\/n=4\/n=8\/n=12)/\12 - n<=kx/\Hid (IB wr N 3 12 (E8 n))/\Hid (Chg No w1 wr))
 case atStart=>exact⟨1,rfl,AK rfl,om,HK.out,HG1.out⟩
 case round=>
  clear HK HG1 hcp hm;obtain⟨n,rfl,hn,hkx,HI,HG⟩:=hrel;have HID:Hid (IB wr.drew N 3 12 (E8 n)):=HI.out;have hcp:=fun k (h:Nat.min n (12 - n)=k) (h2:n+k<=12)=>Oh wr.drew 3 N n k N (12 - n) (12 - n) n 12 HID.out h h2 (fun j hj=>E8.cell HID.out (by have:k<=n:=h ▸ Nat.min_le_left _ _;omega) om);have HGD:∀m,Hid (IB (wr.drew.setRow N (ints (E8 m) 12).toArray) N 3 12 (E8 m))/\Hid (Chg No w1 (wr.drew.setRow N (ints (E8 m) 12).toArray)):=fun m=>
   ⟨(Qk (m:=m) HID.out).1,(HG.out.drew).trans' (Qk (m:=m) HID.out).2 (fun k hk e=>by have:=HN.out;omega)⟩
  have HGD:=BB HGD;rcases hn with rfl | rfl | rfl | rfl | rfl
  ·have hcp:=hcp 1 rfl om;go_wp2;go_region;go_wp2
   go_roundg 10
   case measure=>omega
   case rel=>exact⟨2,rfl,om,AM _,(HGD.out 2).1.out,(HGD.out 2).2.out⟩
  ·have hcp:=hcp 2 rfl om;go_wp2;go_region;go_wp2
   go_roundg 8
   case measure=>omega
   case rel=>exact⟨4,rfl,om,AM _,(HGD.out 4).1.out,(HGD.out 4).2.out⟩
  ·have hcp:=hcp 4 rfl om;go_wp2;go_region;go_wp2
   go_roundg 4
   case measure=>omega
   case rel=>exact⟨8,rfl,om,AM _,(HGD.out 8).1.out,(HGD.out 8).2.out⟩
  ·have hcp:=hcp 4 rfl om;go_wp2;go_region;go_wp2
   go_roundg 0
   case measure=>omega
   case rel=>exact⟨12,rfl,om,AM _,(HGD.out 12).1.out,(HGD.out 12).2.out⟩
  ·clear hcp;go_wp2;go_ret;exact⟨N,rfl,by rw[<-HN.out];exact AM _,HI.out,HG.out⟩
end
theorem nj(w:Wd):(w.alloc (.cells #[.int .i64 8] 3)).cell? ⟨w.heap.size,0,none⟩=some (.int .i64 8):=by
 have h:(w.alloc (.cells #[.int .i64 8] 3)).heap[w.heap.size]?=some (.cells #[.int .i64 8] 3):=by
  show (w.heap.push _)[w.heap.size]?=_;simp
 simp only[World.cell?,h];rfl
theorem Oi(g:Nat)(s:BG)(hB:CP s)(tl:List Nat->Int->Pg)(htl:∀L n,ToldR L n (tl L n))(w:Wd)(h:BE w g s) :Calls prog 43 #[.pointer (some ⟨g,0,none⟩)] w fun e w'=>∃A K G,Far A g w.heap.size/\e=.returned (.tuple #[.pointer (some ⟨A.c,0,none⟩),.nilIface])/\CoreAt A w' K/\(Bgn K G/\Lit 1 K G)/\(K.tl=tl/\K.hS=(fun _=>0)/\K.cu=0)/\Chg (·=g) w w':=by
 have hcall:=Qh g s hB w h;have HL:=BB h.lt;have q0:=BK;clear h hB;go_enter func43,ntmps43;go_wp2_with fail;refine hcall.mono ?_;rintro e w1 ⟨s1,mp,rfl,B1,-,C1,G1⟩;have HB1:=BB B1;have HC1:=BB C1;have HG1:=BB G1;clear hcall B1 C1 G1;go_wp2_with (first | (refine DY rfl rfl w1.heap.size rfl ?_));intro w2 K2 G2 S2;have HK2:=BB K2;have HC2:=BB (HC1.out.chg G2 (fun f=>f));have HG2:=BB (HG1.out.trans' G2 (fun _ _ f=>f.elim));have HS1:=BB HG1.out.size;have HL1:=BB HC1.out.lt;clear K2 G2 S2 HC1 HG1;go_wp2_with (refine DX rfl (.tmp 4) (.tmp 12) rfl _ rfl rfl HK2.out ?_);intro w3 K3 G3;have HK3:=BB K3;have HC3:=BB (HC2.out.chg G3 (fun e=>by have:=HL1.out;omega));have HG3:=BB (HG2.out.trans' G3 (fun k hk e=>by have:=HS1.out;omega));have HLK:=BB HG3.out.size;clear K3 G3 HK2 HC2 HG2;have hcore:=Qj w1.heap.size g _ s1 HB1.out.ok tl htl w3 HK3.out HC3.out;go_wp2_with fail;refine hcore.mono ?_;rintro e w4 ⟨A,hF,rfl,hK,G4⟩;have HF:=BB (Og hF HLK.out);have HK:=BB hK;have HG4:=BB (HG3.out.trans G4);clear hcore hF hK G4 HK3 HC3 HG3;have HLOW:Hid (∀k,Cor A k->k<w4.heap.size):=fun k hk=>HK.out.low k (AK hk);have G5:Chg No w4 (w4.alloc (.cells #[.int .i64 8] 3)):=(Chg.refl _ w4).alloc _;have c5:(w4.alloc (.cells #[.int .i64 8] 3)).cell? ⟨w4.heap.size,0,none⟩=some (.int .i64 8):=nj w4;have hrep:=YX w4.heap.size _ c5 (by rw[World.size_alloc];omega);have HZ5:Hid ((w4.alloc (.cells #[.int .i64 8] 3)).heap.size=w4.heap.size+1):=World.size_alloc _ _;have HG5:=BB G5;clear G5 c5;go_wp2_with fail;refine hrep.mono ?_;rintro e w6 ⟨d,rfl,hd,hI,G6⟩;have HI:=BB hI;have HG6:=BB (HG5.out.trans G6);have HD:Hid (w4.heap.size+1<=d):=by have:=HZ5.out;show _<=_;omega
 clear hrep hd hI G6 HG5 HZ5;have HK6:=BB (HK.out.chg0 HG6.out);have hseen:=gy A w6 _ HK6.out d 0 12 (E8 12) HI.out.lt (fun i hi=>by rw[AW];exact(HI.out.cell i hi).1) (fun e=>by have:=HLOW.out _ e;have:=HD.out;omega);rw[show WX (E8 12) 12 (K0 s1 tl).hR=R8 12 from l9 _ (fun i hi=>by unfold E8;rw[AJ hi])] at hseen;clear HK HI;go_wp2_with fail;refine hseen.mono ?_;rintro e w7 ⟨rfl,hK7,G7⟩;have HK7:=BB hK7;have HG7:=BB G7;clear hseen hK7 G7 HK6;obtain⟨K,G,eK,hBg,etl⟩:=YT htl HB1.out 1;have hcl:=ax A w7 _ HK7.out _ _ eK;go_wp2_with fail;refine hcl.mono ?_;rintro e w8 ⟨rfl,hK8,G8⟩;have HK8:=BB hK8;have HBG:=BB hBg;have HE:=BB etl;have HG8:=BB G8;clear hcl hK8 hBg etl G8 HK7;rw[show errV 0=.nilIface from rfl];go_wp2;go_ret2;refine⟨A,K,G,HF.out,rfl,HK8.out,HBG.out,HE.out,?_⟩;have nf:∀k,k<w.heap.size->Cor A k->k=g:=fun k hk e=>by
  obtain⟨a,b,c,d,e',f,i,j,l,n⟩:=HF.out;rcases e with e | e | e | e | e | e | e | e <;> omega
 exact((HG4.out.trans' HG6.out (fun _ _ f=>f.elim)).trans' HG7.out nf).trans' HG8.out nf
section
variable {w w':Wd}{D g:Nat}{x:Option Addr}
def Dv (w:Wd) (D g:Nat) (x:Option Addr):Prop:=w.heap[D]?=some (.cells #[.pointer (some ⟨g,0,none⟩),.pointer x] 76)
theorem Dv.new(w:Wd)(g:Nat)(x:Option Addr):Dv (w.alloc (.cells #[.pointer (some ⟨g,0,none⟩),.pointer x] 76)) w.heap.size g x:=by
 show (w.heap.push _)[w.heap.size]?=_;simp
theorem Dv.lt(h:Dv w D g x):D<w.heap.size:=(Array.getElem?_eq_some_iff.1 (show w.heap[D]?=some _ from h)).1
theorem Dv.chg{S:Nat->Prop}(h:Dv w D g x)(hc:Chg S w w')(hb:¬ S D):Dv w' D g x:=(hc.block D h.lt hb).trans h
theorem Dv.cells(h:Dv w D g x):w.cell? ⟨D,0,none⟩=some (.pointer (some ⟨g,0,none⟩))/\w.cell? ⟨D,1,none⟩=some (.pointer x)/\w.frozen? ⟨D,1,none⟩=false:=by
 have h':w.heap[D]?=some _:=h;refine⟨?_,?_,?_⟩
 ·simp only[World.cell?,h'];rfl
 ·simp only[World.cell?,h'];rfl
 ·simp only[World.frozen?,h'];rfl
theorem Dv.set(h:Dv w D g x)(y:Option Addr):Dv (w.setCell ⟨D,1,none⟩ (.pointer y)) D g y:=heap_setCell_same w D 1 _ 76 _ h
theorem YY(v:Value):Chg (·=D) w (w.setCell ⟨D,1,none⟩ v):=(Chg.refl (·=D) w).setCell (AK rfl) _ _
theorem CoreAt.but{A:Ad}{K:BC}(h:CoreAt A w K)(n:∀x,Cor A x\/x=A.p\/x=A.q->¬ x=g)(hc:Chg (·=g) w w'):CoreAt A w' K:=by
 obtain⟨f1,f2,f3,f4,f5,f6,f7⟩:=h.frame hc;exact⟨f1 (n _ (AK (AK rfl))),f2 (n _ (AK (AL (AK rfl)))) (n _ (AL (AK rfl))) (n _ (AL (AL rfl))) (n _ (AK (AL (AL (AL (AK rfl)))))),f3 (n _ (AK (AL (AL (AK rfl))))),f4 (n _ (AK (AL (AL (AL (AL (AK rfl))))))),f5 (n _ (AK (AL (AL (AL (AL (AL (AK rfl)))))))),f6 (n _ (AK (AL (AL (AL (AL (AL (AL (AK rfl))))))))),f7 (n _ (AK (AL (AL (AL (AL (AL (AL (AL rfl))))))))),h.wf⟩
theorem cg(w:Wd)(g:Nat):(Instr.build 76 #[(0,.pointer (some ⟨g,0,none⟩))]).run prog w=.ok (.agg #[.pointer (some ⟨g,0,none⟩),.pointer none]) w:=kr
theorem YZ(g:Nat)(w:Wd):Calls prog 21 #[.pointer (some ⟨g,0,none⟩)] w fun e w'=>e=.returned (.tuple #[.pointer (some ⟨w.heap.size,0,none⟩),.nilIface])/\Dv w' w.heap.size g none/\Chg No w w':=by
 have hb:=cg w g;have H:=BB (Dv.new w g none);have G:=BB ((Chg.refl No w).alloc (.cells #[.pointer (some ⟨g,0,none⟩),.pointer none] 76));go_enter func21,ntmps21;go_wp2;go_ret2;exact⟨rfl,H.out,G.out⟩
theorem Mo(D g:Nat)(s:BG)(hB:CP s)(tl:List Nat->Int->Pg)(htl:∀L n,ToldR L n (tl L n))(w:Wd)(hc:BE w g s)(h:Dv w D g none)(hne:D≠g) :Calls prog 24 #[.pointer (some ⟨D,0,none⟩)] w fun e w'=>∃A K G,Far A g w.heap.size/\e=.returned .nilIface/\Dv w' D g (some ⟨A.c,0,none⟩)/\CoreAt A w' K/\(Bgn K G/\Lit 1 K G)/\(K.tl=tl/\K.hS=(fun _=>0)/\K.cu=0)/\Chg (fun k=>k=g\/k=D) w w':=by
 obtain⟨c0,c1,-⟩:=h.cells;have HD:=BB h;have hcall:=Oi g s hB tl htl w hc;have HN:=BB hne;have q0:=BK;clear h hc hB;go_enter func24,ntmps24;go_wp2_with fail;refine hcall.mono ?_;rintro e w1 ⟨A,K,G,hF,rfl,hK,hBg,etl,G1⟩;have HF:=BB hF;have HK:=BB hK;have HBG:=BB hBg;have HE:=BB etl;have HG1:=BB G1;have HD1:=BB (HD.out.chg G1 HN.out);obtain⟨d0,d1,f1⟩:=HD1.out.cells;clear hcall c0 c1 hF hK hBg etl G1;go_wp2;go_ret;have hL:=HD.out.lt;have nD:∀x,Cor A x\/x=A.p\/x=A.q->¬ x=D:=fun x e h=>by
  obtain⟨a,b,c,d,e',f,i,j,l,n⟩:=HF.out;have:=HN.out;rcases e with (e | e | e | e | e | e | e | e) | e | e <;> omega
 refine⟨A,K,G,HF.out,rfl,HD1.out.set _,?_,HBG.out,HE.out,?_⟩
 ·exact HK.out.but nD (YY _)
 ·exact(HG1.out.mono (fun _ _ e=>AK e)).trans' (YY _) (fun k hk e=>AL e)
theorem IP(D g c o:Nat)(w:Wd)(h:Dv w D g (some ⟨c,0,none⟩))(hb:o<24):Calls prog 31 #[.pointer (some ⟨D,0,none⟩),.int .i64 (o:Nat),.int .i64 160] w fun e w'=>e=.returned .nilIface/\w'=w:=by
 obtain⟨c0,c1,-⟩:=h.cells;have h1:¬ (o:Int)<0:=om
 have h2:¬ 24<=(o:Int):=om
 clear h;go_enter func31,ntmps31;go_wp2;go_ret;exact⟨rfl,rfl⟩
end
section
variable {w w':Wd}{D:Nat}{A:Ad}{K:BC}
structure Dmt (w:Wd) (D:Nat) (A:Ad) (K:BC):Prop where
 dv:Dv w D A.g (some ⟨A.c,0,none⟩)
 core:CoreAt A w K
 nd:¬ Cor A D
theorem Dmt.chg0(h:Dmt w D A K)(hc:Chg No w w'):Dmt w' D A K:=⟨h.dv.chg hc (fun f=>f),h.core.chg0 hc,h.nd⟩
theorem Dmt.cor{K':BC}(h:Dmt w D A K)(hk:CoreAt A w' K')(hc:Chg (Cor A) w w'):Dmt w' D A K':=⟨h.dv.chg hc h.nd,hk,h.nd⟩
theorem Mq(D:Nat)(A:Ad)(K:BC)(w:Wd)(h:Dmt w D A K)(c:Nat)(hc:c≠7)(hca:K.ca<9223372036854775807)(n m:Nat)(Z:BC × Nat)(hZ:tdK n m K=some Z)(h7:Z.2≠7) :Calls prog 32 #[.pointer (some ⟨D,0,none⟩),errV c] w fun e w'=>e=.returned (errV c)/\Dmt w' D A Z.1/\Chg (Cor A) w w':=by
 obtain⟨c0,c1,-⟩:=h.dv.cells;have hi:=Iu c 7 dc w;rw[show decide (c=7)=false by simp[hc]] at hi;have ht:=hJ A w K h.core hca n m Z hZ;have hi2:=fun u:World=>Iu Z.2 7 dc u;rw[show decide (Z.2=7)=false by simp[h7]] at hi2;have H:=BB h;clear h;go_enter func32,ntmps32;go_wp2_with fail;refine hi.mono ?_;rintro e w1 ⟨rfl,rfl⟩;go_wp2_with fail;refine ht.mono ?_;rintro e w2 ⟨rfl,hK,hG⟩;have HM:=BB (H.out.cor hK hG);have HG:=BB hG;clear ht hi hK hG c0 c1;go_wp2_with fail;refine(hi2 w2).mono ?_;rintro e w3 ⟨rfl,rfl⟩;go_wp2;go_ret;exact⟨rfl,HM.out,HG.out⟩
theorem cj(D:Nat)(A:Ad)(K:BC)(w:Wd)(h:Dmt w D A K)(o:Nat)(ho:o<24)(K':BC)(B:List Nat)(hg:geK K o=(K',B,0))(hca:K'.ca<9223372036854775807)(n m:Nat)(Z:BC × Nat)(hZ:tdK n m K'=some Z)(h7:Z.2≠7) :Calls prog 16 #[.pointer (some ⟨D,0,none⟩),.int .i64 (o:Nat)] w fun e w'=>∃v,e=.returned (.tuple #[v,.nilIface])/\Own w' w.heap.size 5 v B/\Dmt w' D A Z.1/\Chg (Cor A) w w':=by
 obtain⟨c0,c1,-⟩:=h.dv.cells;have hr:=IP D A.g A.c o w h.dv ho;have hget:=lr A w K h.core o ho;rw[hg] at hget;have htd:=fun (u:Wd) (hu:Dmt u D A K')=>Mq D A K' u hu 0 dc hca n m Z hZ h7;rw[show errV 0=.nilIface from rfl] at htd;have H:=BB h;have HL:=BB h.core.low;have q0:=BK;clear h hg;go_enter func16,ntmps16;go_wp2_with fail;refine hr.mono ?_;rintro e w1 ⟨rfl,rfl⟩;go_wp2_with fail;refine hget.mono ?_;rintro e w2 ⟨v,rfl,hO,hK,hG⟩;have HM:=BB (H.out.cor hK hG);have HG:=BB hG;have HO:=BB hO;clear hr hget hO hK hG c0 c1;dsimp only;rw[show errV 0=.nilIface from rfl];go_wp2_with fail;refine(htd w2 HM.out).mono ?_;rintro e w3 ⟨rfl,hM,hG3⟩;have HM3:=BB hM;have HG3:=BB (HG.out.trans hG3);have HO3:Hid (Own w3 w1.heap.size 5 v B):=HO.out.chg hG3 (fun k hk he e=>by have:=HL.out k (AK e);have:=(HO.out.block he).1;omega);clear htd hM hG3;go_wp2;go_ret2;exact⟨v,rfl,HO3.out,HM3.out,HG3.out⟩
theorem Ya(D:Nat)(A:Ad)(K:BC)(w:Wd)(h:Dmt w D A K)(o:Nat)(ho:o<24)(d off cap:Nat)(L:List Nat)(hL:L.length=160)(bL:Bys L)(hd:At w d off L)(nd:¬ Cor A d)(k:Nat)(Y:BC × Nat)(hY:anR k (fun _ _=>L ++ List.replicate 14 0) K o=some Y)(hy:Y.2≠7)(hca:Y.1.ca<9223372036854775807)(n m:Nat)(Z:BC × Nat)(hZ:tdK n m Y.1=some Z)(h7:Z.2≠7) :Calls prog 12 #[.pointer (some ⟨D,0,none⟩),.int .i64 (o:Nat),.slice (some ⟨d,off,none⟩) 160 cap] w fun e w'=>e=.returned (errV Y.2)/\Dmt w' D A Z.1/\Chg (Cor A) w w':=by
 obtain⟨c0,c1,-⟩:=h.dv.cells;have hr:=IP D A.g A.c o w h.dv ho;have hput:=ll A w K h.core o ho d off cap L hL bL hd nd k Y hY;have htd:=fun (u:Wd) (hu:Dmt u D A Y.1)=>Mq D A Y.1 u hu Y.2 hy hca n m Z hZ h7;have H:=BB h;have q0:=BK;clear h hY hd;go_enter func12,ntmps12;go_wp2_with fail;refine hr.mono ?_;rintro e w1 ⟨rfl,rfl⟩;go_wp2_with fail;refine hput.mono ?_;rintro e w2 ⟨rfl,hK,hG⟩;have HM:=BB (H.out.cor hK hG);have HG:=BB hG;clear hr hput hK hG c0 c1;go_wp2_with fail;refine(htd w2 HM.out).mono ?_;rintro e w3 ⟨rfl,hM,hG3⟩;have HM3:=BB hM;have HG3:=BB (HG.out.trans hG3);clear htd hM hG3;go_wp2;go_ret;exact⟨rfl,HM3.out,HG3.out⟩
theorem ck(D:Nat)(A:Ad)(K:BC)(w:Wd)(h:Dmt w D A K)(o:Nat)(ho:o<24)(k:Nat)(Y:BC × Nat)(hY:tmK k K o=some Y)(hy:Y.2≠7)(hca:Y.1.ca<9223372036854775807)(n m:Nat)(Z:BC × Nat)(hZ:tdK n m Y.1=some Z)(h7:Z.2≠7) :Calls prog 22 #[.pointer (some ⟨D,0,none⟩),.int .i64 (o:Nat)] w fun e w'=>e=.returned (errV Y.2)/\Dmt w' D A Z.1/\Chg (Cor A) w w':=by
 obtain⟨c0,c1,-⟩:=h.dv.cells;have hr:=IP D A.g A.c o w h.dv ho;have hput:=gw A w K h.core o ho k Y hY;have htd:=fun (u:Wd) (hu:Dmt u D A Y.1)=>Mq D A Y.1 u hu Y.2 hy hca n m Z hZ h7;have H:=BB h;have q0:=BK;clear h hY;go_enter func22,ntmps22;go_wp2_with fail;refine hr.mono ?_;rintro e w1 ⟨rfl,rfl⟩;go_wp2_with fail;refine hput.mono ?_;rintro e w2 ⟨rfl,hK,hG⟩;have HM:=BB (H.out.cor hK hG);have HG:=BB hG;clear hr hput hK hG c0 c1;go_wp2_with fail;refine(htd w2 HM.out).mono ?_;rintro e w3 ⟨rfl,hM,hG3⟩;have HM3:=BB hM;have HG3:=BB (HG.out.trans hG3);clear htd hM hG3;go_wp2;go_ret;exact⟨rfl,HM3.out,HG3.out⟩
theorem Oj{fn:Func}{q u:Tmp}(h:fn.results=#[.cell q 40,.tmp u])(tmps:Array Value){g:Nat}{F:Nat->Int}(hp:tmps.getD q undef=.pointer (some ⟨g,0,none⟩))(hT:IB w g 40 67 F) :(results fn tmps).run prog w=.ok (.tuple #[.agg (ints F 67).toArray,tmps.getD u undef]) w:=by
 rw[results_cell_tmp h,hp];simp[asAddr,run_loadVar_row w g 40 40 _ _ _ hT underlying40 rfl (bf F)]
theorem Rn(D:Nat)(A:Ad)(K:BC)(w:Wd)(h:Dmt w D A K):Calls prog 14 #[.pointer (some ⟨D,0,none⟩)] w fun e w'=>e=.returned (.tuple #[.agg (ints (vwF K) 67).toArray,.nilIface])/\Chg No w w':=by
 have H:=BB h;have GN:Hid (Chg No w (w.alloc (.cells (ints (fun _=>0) 67).toArray 40))):=(Chg.refl _ w).alloc _;have HI:Hid (IB (w.alloc (.cells (ints (fun _=>0) 67).toArray 40)) w.heap.size 40 67 (fun _=>0)):=BB (by
  show (w.heap.push _)[w.heap.size]?=_
  simp)
 have H1:=BB (H.out.chg0 GN.out);obtain⟨c0,c1,-⟩:=H1.out.dv.cells;have hv:=ir A _ K H1.out.core;clear h;go_enter func14,ntmps14;go_wp2_with (first | refine Cp rfl rfl ?_);generalize w.alloc (.cells (ints (fun _=>0) 67).toArray 40)=w1 at *
 go_wp2_with fail;refine hv.mono ?_;rintro e w2 ⟨rfl,hK,hG⟩;have HG:=BB (GN.out.trans hG);have HI2:=BB (IB.chg HI.out hG (fun f=>f));clear hv hK hG c0 c1;have HS:=BB GN.out.size;go_wp2_with (refine Cq rfl (.tmp 2) (.tmp 15) rfl _ rfl rfl HI2.out ?_);intro w3 K3 G3;have HG3:=BB (HG.out.trans' G3 (fun k hk e=>om));go_wp2;refine AZ (Oj rfl _ rfl K3) rfl ?_;exact⟨rfl,HG3.out⟩
end
theorem mO:∃tl:List Nat->Int->Pg,∀L n,ToldR L n (tl L n):=Classical.axiomOfChoice fun L=>Classical.axiomOfChoice fun n=>ar L n
theorem LW(g:Nat)(w:Wd):(binOp .eql 25 (.pointer (some ⟨g,0,none⟩)) (.pointer none)).run prog w=.ok (.bool false) w:=kr
theorem z7:(0:Nat)≠7:=dc
theorem CZ{ops:Array Oper}{rest:List Oper}{o:Oper}{a:Act}{w:Wd}{Q:Exit->Act->World->Prop}(hw:Region.wanted o (yielded ops a.tmps)=true)(v:Value)(h:(execOp a.eval o).run prog w=.ok (.value v) w)(next:wpList prog ops Q rest (a.put o.dst v) w):wpList prog ops Q (o :: rest) a w:=
 wpList_step fun _ hK=>by
  rw[AJ hw]
  unfold Oper.wp
  rw[h]
  exact hK _ _ next
theorem co{w:Wd}{a:Addr}{v:Value}(h:w.cell? a=some v):a.block<w.heap.size:=by
 by_cases hb:a.block<w.heap.size
 ·exact hb
 ·rw[World.cell?,Array.getElem?_eq_none om] at h;cases h
section
variable {o:Oper}{a:Act}{w:Wd}{F:Nat->Int}{ops:Array Oper}{rest:List Oper}{Q:Exit->Act->World->Prop}
def Kl (z:Int):Prop:=-9223372036854775808<=z/\z<=9223372036854775807
theorem Et(z:Int)(h:Kl z)(n:Nat)(hn:0<n)(hn2:n<10000000)(w:Wd) :Calls prog 26 #[.int .i64 z,.int .i64 n] w fun e w'=>e=.returned (.int .i64 (pkN z n:Nat))/\w'=w:=by
 obtain⟨h1,h2⟩:=h;have hne:((n:Int) == 0)=false:=by simp only[beq_eq_false_iff_ne];omega
 have hne2:¬ (n:Int)=0:=om
 have hnm:¬ (n:Int) = -1:=om
 by_cases hz:z<0
 ·have hq:=br hz n hn;go_enter func26,ntmps26;go_wp2;go_ret;exact⟨rfl,rfl⟩
 ·have hq:=bw hz n hn;go_enter func26,ntmps26;go_wp2;go_ret;exact⟨rfl,rfl⟩
theorem KX:(prog.info? 30).map (·.size)=some 24:=kr
theorem mP(F:Nat->Int):(prog.info? 30).map (·.size)=some (ints F 24).toArray.size:=by rw[size_toArray,BD];exact KX
theorem Yb(w:Wd):(zeroValue 30).run prog w=.ok (.agg (ints (fun _=>0) 24).toArray) w:=kr
theorem Yc(w:Wd):(Instr.build 30 #[]).run prog w=.ok (.agg (ints (fun _=>0) 24).toArray) w:=kr
theorem Bg{x:Operand}{g:Nat}(ho:o.op=.load 30 x)(hx:a.eval x=.pointer (some ⟨g,0,none⟩))(hg:IB w g 30 24 F):(execOp a.eval o).run prog w=.ok (.value (.agg (ints F 24).toArray)) w:=by
 unfold execOp;simp only[ho,hx,Instr.loadAt,Instr.sureAddr,Sem.run_bind,Sem.run_pure,Result.andThen_ok,run_loadVar_row w g 30 30 _ _ _ hg underlying30 rfl (mP F)]
theorem Bw(hgd:o.guard=none)(ho:o.op=.alloc 30)(h:wpList prog ops Q rest (a.put o.dst (.pointer (some ⟨w.heap.size,0,none⟩))) (w.alloc (.cells (ints (fun _=>0) 24).toArray 30))):wpList prog ops Q (o :: rest) a w:=by
 refine wpList_plain hgd fun K hK=>?_;have hz:=Yb;unfold Oper.wp;generalize (ints (fun _=>0) 24).toArray=q at *
 simp[execOp,ho,Instr.alloc,hz,newVar,Value.cells,newRow];exact hK _ _ h
theorem By(hgd:o.guard=none)(x y:Operand)(ho:o.op=.store 30 x y)(g:Nat)(hx:a.eval x=.pointer (some ⟨g,0,none⟩))(hy:a.eval y=.agg (ints F 24).toArray){F':Nat->Int}(hg:IB w g 30 24 F')(h:∀w',IB w' g 30 24 F->Chg (·=g) w w'->wpList prog ops Q rest (a.put o.dst undef) w'):wpList prog ops Q (o :: rest) a w:=
 wpList_store_row hgd 30 x y ho g _ hx hy 30 _ hg (mP F) (by simp[BD]) (all_oneCell_toArray (CC _ _)) (h _ (setRow_heap w g _ _ 30 _ hg) (Cj _ _ _))
end
section
variable {w:Wd}{n:Nat}{F:Nat->Int}
set_option linter.unusedSimpArgs false
def dsA (La:Nat->Int) (kd a x:Int):Nat->Int:=if pkN kd 6<3 then upd La (pkN a 24) (numN x:Nat) else if pkN kd 6=3 then upd La (pkN a 24) 0 else La
def jy (La:Nat->Int) (kd a:Int):List Nat:=if pkN kd 6<4 then [] else FX (La (pkN a 24))
def jz (w:Wd) (lo:Nat) (v:Value) (l:List Nat):Prop:=(v=.slice none 0 0/\l=[])\/∃gv cv,v=.slice (some ⟨gv,0,none⟩) 160 cv/\lo<=gv/\At w gv 0 l/\l.length=160/\Bys l
theorem Yd(w:Wd)(o:Obj):(w.alloc o).heap[w.heap.size]?=some o:=by
 show (w.heap.push _)[w.heap.size]?=_;simp
theorem Ql(La:Nat->Int)(kd a x:Int)(w:Wd):∃w3,((w.alloc (.cells (ints La 24).toArray 30)).alloc (.cells #[.int .i64 kd,.int .i64 a,.int .i64 x] 67)).alloc (.cells (ints (fun _=>0) 24).toArray 30)=w3 /\IB w3 w.heap.size 30 24 La/\w3.heap[w.heap.size+1]?=some (.cells #[.int .i64 kd,.int .i64 a,.int .i64 x] 67)/\IB w3 (w.heap.size+1+1) 30 24 (fun _=>0)/\Chg No w w3/\w3.heap.size=w.heap.size+3:=by
 obtain⟨w1,h1⟩:∃w1,w.alloc (.cells (ints La 24).toArray 30)=w1:=⟨_,rfl⟩;have a1:IB w1 w.heap.size 30 24 La:=by rw[<-h1];exact IB.new ..
 have g1:Chg No w w1:=by rw[<-h1];exact(Chg.refl _ w).alloc _
 have s1:w1.heap.size=w.heap.size+1:=by rw[<-h1];exact World.size_alloc _ _
 rw[h1];obtain⟨w2,h2⟩:∃w2,w1.alloc (.cells #[.int .i64 kd,.int .i64 a,.int .i64 x] 67)=w2:=⟨_,rfl⟩;have a2:w2.heap[w.heap.size+1]?=some (.cells #[.int .i64 kd,.int .i64 a,.int .i64 x] 67):=by rw[<-h2,<-s1];exact Yd ..
 have g2:Chg No w1 w2:=by rw[<-h2];exact(Chg.refl _ w1).alloc _
 have s2:w2.heap.size=w.heap.size+2:=by rw[<-h2,World.size_alloc,s1]
 rw[h2];have g3:Chg No w2 (w2.alloc (.cells (ints (fun _=>0) 24).toArray 30)):=(Chg.refl _ w2).alloc _;refine⟨_,rfl,(a1.chg g2 (fun f=>f)).chg g3 (fun f=>f),(g3.block _ om (fun f=>f)).trans a2,?_,g1.trans (g2.trans g3),by rw[World.size_alloc,s2]⟩;have:=IB.new w2 30 24 (fun _=>0)
 rwa [s2] at this
theorem j7{kd a x:Int}(h:w.heap[n]?=some (.cells #[.int .i64 kd,.int .i64 a,.int .i64 x] 67)):w.cell? ⟨n,0,none⟩=some (.int .i64 kd)/\w.cell? ⟨n,1,none⟩=some (.int .i64 a)/\w.cell? ⟨n,2,none⟩=some (.int .i64 x):=by
 refine⟨?_,?_,?_⟩ <;> · simp only[World.cell?,h];rfl
theorem CoreAt.out'{A:Ad}{K:BC}(h:CoreAt A w K){w':Wd}{S:Nat->Prop}(n:∀x,Cor A x\/x=A.p\/x=A.q->¬ S x)(hc:Chg S w w'):CoreAt A w' K:=by
 obtain⟨f1,f2,f3,f4,f5,f6,f7⟩:=h.frame hc;exact⟨f1 (n _ (AK (AK rfl))),f2 (n _ (AK (AL (AK rfl)))) (n _ (AL (AK rfl))) (n _ (AL (AL rfl))) (n _ (AK (AL (AL (AL (AK rfl)))))),f3 (n _ (AK (AL (AL (AK rfl))))),f4 (n _ (AK (AL (AL (AL (AL (AK rfl))))))),f5 (n _ (AK (AL (AL (AL (AL (AL (AK rfl)))))))),f6 (n _ (AK (AL (AL (AL (AL (AL (AL (AK rfl))))))))),f7 (n _ (AK (AL (AL (AL (AL (AL (AL (AL rfl))))))))),h.wf⟩
def Lw (A:Ad) (D n:Nat):Prop:=∀x,(Cor A x\/x=A.p\/x=A.q)\/x=D->x<n
theorem IB.range{b:Nat}{t:TypeId}(h:IB w b t n F):w.rangeAt b 0 (ints F n):=fun j v hv=>by
 have hj:j<n:=by have:=(List.getElem?_eq_some_iff.1 hv).1;rwa [BD] at this
 rw[BJ _ _ _ hj] at hv
 rw[<-hv,AW]
 exact(h.cell j hj).1
theorem CG{ops:Array Oper}{o:Oper}{a:Act}{K:Act->World->Prop}{Q:Exit->Act->World->Prop}{E:Prop}(hgd:o.guard=none)(x y:Operand)(ho:o.op=.store 30 x y)(g:Nat)(hx:a.eval x=.pointer (some ⟨g,0,none⟩))(F:Nat->Int)(hy:a.eval y=.agg (ints F 24).toArray){F0:Nat->Int}(hg:IB w g 30 24 F0)(h:∀w',IB w' g 30 24 F->Chg (·=g) w w'->K (a.put o.dst undef) w'):if Region.wanted o (yielded ops a.tmps)=true then Oper.wp prog o a w K Q else E:=by
 rw[AJ (by simp[Region.wanted,hgd])];exact wp_store_row 30 x y ho g _ hx hy 30 _ hg (by rw[KX];simp[BD]) (by simp[BD]) (all_oneCell_toArray (CC _ _)) (h _ (setRow_heap w g _ _ 30 _ hg) (Cj _ _ _))
theorem DV{fn:Func}{p u v:Tmp}(h:fn.results=#[.cell p 30,.tmp u,.tmp v])(tmps:Array Value){g:Nat}(hp:tmps.getD p undef=.pointer (some ⟨g,0,none⟩))(hr:w.rangeAt g 0 (ints F 24)) :(results fn tmps).run prog w=.ok (.tuple #[.agg (ints F 24).toArray,tmps.getD u undef,tmps.getD v undef]) w:=by
 have hl:=run_loadVar_mid (P:=prog) w g 0 30 (ints F 24) _ hr underlying30 rfl (by rw[BD];exact KX);unfold results;rw[h];have hp':=hp;simp only[Array.getD_eq_getD_getElem?] at hp';simp[hp',asAddr,hl]
end
def GS (Q:BC->Prop) (w:Wd) (D:Nat) (A:Ad):Prop:=∃K,Dmt w D A K/\Q K
theorem GS.chg0{Q:BC->Prop}{w w':Wd}{D:Nat}{A:Ad}(h:GS Q w D A)(hc:Chg No w w'):GS Q w' D A:=by
 obtain⟨K,h1,h2⟩:=h;exact⟨K,h1.chg0 hc,h2⟩
theorem GS.low{Q:BC->Prop}{w:Wd}{D:Nat}{A:Ad}(h:GS Q w D A):∀k,Cor A k->k<w.heap.size:=by
 obtain⟨K,h1,-⟩:=h;exact fun k hk=>h1.core.low k (AK hk)
theorem GS.mono{Q R:BC->Prop}{w:Wd}{D:Nat}{A:Ad}(h:GS Q w D A)(k:∀K,Q K->R K):GS R w D A:=by
 obtain⟨K,h1,h2⟩:=h;exact⟨K,h1,k K h2⟩
def ZB (Y:BC) (R:BC->Prop):Prop:=Y.ca<9223372036854775807/\∃Z,tdK 6 13 Y=some (Z,0)/\R Z
theorem Tq{Q R:BC->Prop}(D:Nat)(A:Ad)(w:Wd)(h:GS Q w D A)(o:Nat)(ho:o<24)(x:Int)(st:∀K,Q K->∃Y,anR 6 (fun _ _=>FX x ++ List.replicate 14 0) K o=some (Y,0)/\ZB Y R)(d off cap:Nat)(hd:At w d off (FX x))(nd:¬ Cor A d) :Calls prog 12 #[.pointer (some ⟨D,0,none⟩),.int .i64 (o:Nat),.slice (some ⟨d,off,none⟩) 160 cap] w fun e w'=>e=.returned .nilIface/\GS R w' D A/\Chg (Cor A) w w':=by
 obtain⟨K,h1,h2⟩:=h;obtain⟨Y,e1,hc,Z,e2,f2⟩:=st K h2;refine(Ya D A K w h1 o ho d off cap (FX x) (CL x) (Hk x) hd nd 6 (Y,0) e1 z7 hc 6 13 (Z,0) e2 z7).mono ?_;rintro e w' ⟨rfl,hM,hG⟩;exact⟨rfl,⟨Z,hM,f2⟩,hG⟩
theorem Ye{Q R:BC->Prop}(D:Nat)(A:Ad)(w:Wd)(h:GS Q w D A)(o:Nat)(ho:o<24)(st:∀K,Q K->∃Y,tmK 6 K o=some (Y,0)/\ZB Y R) :Calls prog 22 #[.pointer (some ⟨D,0,none⟩),.int .i64 (o:Nat)] w fun e w'=>e=.returned .nilIface/\GS R w' D A/\Chg (Cor A) w w':=by
 obtain⟨K,h1,h2⟩:=h;obtain⟨Y,e1,hc,Z,e2,f2⟩:=st K h2;refine(ck D A K w h1 o ho 6 (Y,0) e1 z7 hc 6 13 (Z,0) e2 z7).mono ?_;rintro e w' ⟨rfl,hM,hG⟩;exact⟨rfl,⟨Z,hM,f2⟩,hG⟩
theorem Ol{Q R:BC->Prop}(D:Nat)(A:Ad)(w:Wd)(h:GS Q w D A)(o:Nat)(ho:o<24)(x:Int)(st:∀K,Q K->∃Y,geK K o=(Y,FX x,0)/\ZB Y R) :Calls prog 16 #[.pointer (some ⟨D,0,none⟩),.int .i64 (o:Nat)] w fun e w'=>∃gv cv,e=.returned (.tuple #[.slice (some ⟨gv,0,none⟩) 160 cv,.nilIface])/\w.heap.size<=gv/\At w' gv 0 (FX x)/\GS R w' D A/\Chg (Cor A) w w':=by
 obtain⟨K,h1,h2⟩:=h;obtain⟨Y,e1,hc,Z,e2,f2⟩:=st K h2;refine(cj D A K w h1 o ho Y (FX x) e1 hc 6 13 (Z,0) e2 z7).mono ?_;rintro e w' ⟨v,rfl,hO,hM,hG⟩;obtain⟨gv,cv,rfl,hgv,hgs,hcv,hcl,-⟩:=hO.lies (by rw[CL];decide);rw[CL];exact⟨gv,cv,rfl,hgv,⟨hgs,fun i hi=>by rw[AW];exact hcl i hi⟩,⟨Z,hM,f2⟩,hG⟩
structure j8 (P:Nat->(Nat->Int)->BC->Prop):Prop where
 put:∀B La K,P B La K->B+1<1073741824->∀o,o<24->∀x,∃Y,anR 6 (fun _ _=>FX x ++ List.replicate 14 0) K o=some (Y,0)/\ZB Y (P (B+2) (upd La o x))
 trim:∀B La K,P B La K->B+1<1073741824->∀o,o<24->∃Y,tmK 6 K o=some (Y,0)/\ZB Y (P (B+2) (upd La o 0))
 get:∀B La K,P B La K->B+1<1073741824->∀o,o<24->∃Y,geK K o=(Y,FX (La o),0)/\ZB Y (P (B+2) La)
def Fr (P:Nat->(Nat->Int)->BC->Prop) (w:Wd) (D:Nat) (A:Ad) (B:Nat) (La:Nat->Int):Prop:=GS (P B La) w D A
section
variable {P:Nat->(Nat->Int)->BC->Prop}
theorem Fr.chg0{w w':Wd}{D:Nat}{A:Ad}{B:Nat}{La:Nat->Int}(h:Fr P w D A B La)(hc:Chg No w w'):Fr P w' D A B La:=GS.chg0 h hc
theorem Fr.low{w:Wd}{D:Nat}{A:Ad}{B:Nat}{La:Nat->Int}(h:Fr P w D A B La):∀k,Cor A k->k<w.heap.size:=GS.low h
theorem IQ(C:j8 P)(D:Nat)(A:Ad)(B:Nat)(La:Nat->Int)(w:Wd)(h:Fr P w D A B La)(hB:B+1<1073741824)(o:Nat)(ho:o<24)(x:Int)(d off cap:Nat)(hd:At w d off (FX x))(nd:¬ Cor A d) :Calls prog 12 #[.pointer (some ⟨D,0,none⟩),.int .i64 (o:Nat),.slice (some ⟨d,off,none⟩) 160 cap] w fun e w'=>e=.returned .nilIface/\Fr P w' D A (B+2) (upd La o x)/\Chg (Cor A) w w':=
 Tq D A w h o ho x (fun K hK=>C.put B La K hK hB o ho x) d off cap hd nd
theorem Yf(C:j8 P)(D:Nat)(A:Ad)(B:Nat)(La:Nat->Int)(w:Wd)(h:Fr P w D A B La)(hB:B+1<1073741824)(o:Nat)(ho:o<24) :Calls prog 22 #[.pointer (some ⟨D,0,none⟩),.int .i64 (o:Nat)] w fun e w'=>e=.returned .nilIface/\Fr P w' D A (B+2) (upd La o 0)/\Chg (Cor A) w w':=
 Ye D A w h o ho (fun K hK=>C.trim B La K hK hB o ho)
theorem Yg(C:j8 P)(D:Nat)(A:Ad)(B:Nat)(La:Nat->Int)(w:Wd)(h:Fr P w D A B La)(hB:B+1<1073741824)(o:Nat)(ho:o<24) :Calls prog 16 #[.pointer (some ⟨D,0,none⟩),.int .i64 (o:Nat)] w fun e w'=>∃gv cv,e=.returned (.tuple #[.slice (some ⟨gv,0,none⟩) 160 cv,.nilIface])/\w.heap.size<=gv/\At w' gv 0 (FX (La o))/\Fr P w' D A (B+2) La/\Chg (Cor A) w w':=
 Ol D A w h o ho (La o) (fun K hK=>C.get B La K hK hB o ho)
end
set_option linter.unusedSimpArgs false
section
variable {P:Nat->(Nat->Int)->BC->Prop}
theorem Fr.lw{w:Wd}{D:Nat}{A:Ad}{B:Nat}{La:Nat->Int}(h:Fr P w D A B La):Lw A D w.heap.size:=by
 obtain⟨K,h1,-⟩:=h;intro x e;rcases e with e | rfl
 ·exact h1.core.low x e
 ·exact h1.dv.lt
theorem Fr.far{w:Wd}{D:Nat}{A:Ad}{B:Nat}{La:Nat->Int}(h:Fr P w D A B La){n:Nat}(l:Lw A D n){w':Wd}{S:Nat->Prop}(hS:∀k,S k->n<=k)(hc:Chg S w w'):Fr P w' D A B La:=by
 obtain⟨K,h1,h2⟩:=h;exact⟨K,⟨h1.dv.chg hc (fun e=>by have:=hS _ e;have:=l D (AL rfl);omega),h1.core.out' (fun x e f=>by have:=hS _ f;have:=l x (AK e);omega) hc,h1.nd⟩,h2⟩
end
structure Mr (P:Nat->(Nat->Int)->BC->Prop) (w wx:Wd) (D:Nat) (A:Ad) (B:Nat) (La L:Nat->Int) (n:Nat):Prop where
 lw:Lw A D n
 t:Chg (fun k=>n<=k\/Cor A k) w wx
 d:Fr P wx D A B La
 r:IB wx n 30 24 L
 h:∃F0,IB wx (n+1+1) 30 24 F0
 s:n+3<=wx.heap.size
section
variable {P:Nat->(Nat->Int)->BC->Prop}
theorem Mr.chg{w wx:Wd}{D:Nat}{A:Ad}{B:Nat}{La L:Nat->Int}{n:Nat}(h:Mr P w wx D A B La L n){wy:Wd}{S:Nat->Prop}(hc:Chg S wx wy)(hS:∀k,S k->n<=k\/Cor A k)(h0:¬ S n)(h2:¬ S (n+1+1)){B':Nat}{La':Nat->Int}(hd:Fr P wy D A B' La'):Mr P w wy D A B' La' L n:=
 ⟨h.lw,h.t.trans (hc.mono (fun k _ e=>hS k e)),hd,h.r.chg hc h0,by obtain⟨F0,hF⟩:=h.h;exact⟨F0,hF.chg hc h2⟩,AY h.s hc.size⟩
theorem Mr.chg0{w wx:Wd}{D:Nat}{A:Ad}{B:Nat}{La L:Nat->Int}{n:Nat}(h:Mr P w wx D A B La L n){wy:Wd}(hc:Chg No wx wy):Mr P w wy D A B La L n:=h.chg hc (fun _ f=>f.elim) (fun f=>f) (fun f=>f) (h.d.chg0 hc)
theorem Mr.cor{w wx:Wd}{D:Nat}{A:Ad}{B:Nat}{La L:Nat->Int}{n:Nat}(h:Mr P w wx D A B La L n){wy:Wd}(hc:Chg (Cor A) wx wy){B':Nat}{La':Nat->Int}(hd:Fr P wy D A B' La'):Mr P w wy D A B' La' L n:=
 h.chg hc (fun _ e=>AL e) (fun e=>by have:=h.lw n (AK (AK e));omega) (fun e=>by have:=h.lw (n+1+1) (AK (AK e));omega) hd
theorem Mr.store{w wx:Wd}{D:Nat}{A:Ad}{B:Nat}{La L:Nat->Int}{n:Nat}(h:Mr P w wx D A B La L n){wy:Wd}{F:Nat->Int}(hI:IB wy (n+1+1) 30 24 F)(hc:Chg (·=n+1+1) wx wy):Mr P w wy D A B La L n:=
 ⟨h.lw,h.t.trans (hc.mono (fun k _ e=>AK om)),h.d.far h.lw (fun k e=>om) hc,h.r.chg hc om,⟨F,hI⟩,AY h.s hc.size⟩
theorem Mr.drew{w wx:Wd}{D:Nat}{A:Ad}{B:Nat}{La L:Nat->Int}{n:Nat}(h:Mr P w wx D A B La L n):Mr P w wx.drew D A B La L n:=h.chg0 (Chg.refl _ wx).drew
theorem cq(C:j8 P)(D:Nat)(A:Ad)(B:Nat)(La:Nat->Int)(w:Wd)(h:Fr P w D A B La)(hB:B+1<1073741824)(kd a x:Int)(hk:Kl kd)(ha:Kl a)(hx:Kl x) :Calls prog 27 #[.pointer (some ⟨D,0,none⟩),.agg (ints La 24).toArray,.agg #[.int .i64 kd,.int .i64 a,.int .i64 x]] w fun e w'=>∃v,e=.returned (.tuple #[.agg (ints (dsA La kd a x) 24).toArray,v,.nilIface])/\Fr P w' D A (B+2) (dsA La kd a x)/\jz w' w.heap.size v (jy La kd a)/\Chg (Cor A) w w':=by
 obtain⟨w3,e3,hI,hP,hR,hG,hS3⟩:=Ql La kd a x w;obtain⟨n,hn⟩:∃n,w.heap.size=n:=⟨_,rfl⟩;have hlw:=h.lw;rw[hn] at hI hP hR hS3 hlw;have HLW:=BB hlw;have HN:=BB hn;have E3:=BB e3;have HI:=BB hI;have HP:=BB hP;have HR:=BB hR;have HG:=BB hG;have HS:=BB hS3;have H:=BB (h.chg0 hG);have HLOW:=BB h.low;have hkq:=Et kd hk 6 dc dc;have haq:=Et a ha 24 dc dc;have hxq:=Et x hx 1000000 dc dc;have hL:=EF a 24 dc;have hL0:(pkN a 24:Int)<24:=om
 have hL1:(0:Int)<=(pkN a 24:Int):=om
 have hx1:=EF x 1000000 dc;have EA:Hid (∀q,q=pkN kd 6->dsA La kd a x=if q<3 then upd La (pkN a 24) (numN x:Nat) else if q=3 then upd La (pkN a 24) 0 else La):=fun q e=>by subst e;rfl
 have ER:Hid (∀q,q=pkN kd 6->jy La kd a=if q<4 then [] else FX (La (pkN a 24))):=fun q e=>by subst e;rfl
 have hnum:((numN x:Nat):Int)=1+((pkN x 1000000:Nat):Int):=by unfold numN;omega
 have HNUM:=BB hnum;have hk6:=EF kd 6 dc;clear h e3 hI hP hR hG hS3 hnum hn hlw;obtain⟨p0,p1,p2⟩:=j7 HP.out;go_enter func27,ntmps27
 go_upto_region 1 with (first | refine Bw rfl rfl ?_)
 rw[E3.out,HN.out];clear E3;generalize hlb:dsA La kd a x=Lb at *
 generalize hlr:jy La kd a=Lr at *
 have HLB:=BB hlb;have HLR:=BB hlr;clear hlb hlr;generalize pkN kd 6=q at *
 generalize pkN a 24=of at *
 generalize pkN x 1000000=xn at *
 generalize numN x=N at *
 go_wp2_with fail;refine(haq _).mono ?_;rintro e w3 ⟨rfl,rfl⟩;go_wp2_with fail;refine(hxq _).mono ?_;rintro e w3 ⟨rfl,rfl⟩;go_wp2_with fail;refine(hkq _).mono ?_;rintro e w3 ⟨rfl,rfl⟩;clear haq hxq hkq p0 p1 p2;have hcq:(q=0\/q=1\/q=2)\/q=3\/4<=q:=om
 obtain⟨ci,cf⟩:=HI.out.cell of hL;rcases hcq with hq3 | rfl | hq4
 ·rcases hq3 with rfl | rfl | rfl
  all_goals
   go_upto_region 8 with fail
   rw[<-HNUM.out];have G4:Chg (fun k=>k=n) w3 (w3.setCell ⟨n,of,none⟩ (.int .i64 (N:Nat))):=(Chg.refl (·=n) w3).setCell (AK rfl) of (.int .i64 (N:Nat));have HI4:=HI.out.set of (N:Nat);have HR4:=HR.out.chg G4 om;have R4:Mr P w (w3.setCell ⟨n,of,none⟩ (.int .i64 (N:Nat))) D A B La (upd La of (N:Nat)) n:=
    ⟨HLW.out,(HG.out.mono (fun _ _ f=>f.elim)).trans (G4.mono (fun k _ e=>AK om)),H.out.far HLW.out (fun k e=>om) G4,HI4,⟨_,HR4⟩,by have:=G4.size;have:=HS.out;have:=HN.out;omega⟩
   have ELb:=EA.out _ rfl;have ELr:=ER.out _ rfl;rw[AJ dc] at ELb ELr;have HEB:=BB ELb;have HER:=BB ELr;rw[<-ELb] at R4;clear HI HG H HR HP ci cf HNUM G4 HI4 HR4 EA ER HS ELb ELr;generalize w3.setCell ⟨n,of,none⟩ (.int .i64 (N:Nat))=w4 at *
   have R4d:=BB R4.drew;refine wp_region_noPanic ?_;refine wp_region_held_drew (S:=fun wx=>IB wx n 30 24 Lb) kr R4d.out.r (fun hHeld=>?_);refine Ab (i:=0) rfl kr kr kr (fun _ _ _ h=>h) (AK ⟨rfl,fun _ hw=>Bg rfl rfl hw⟩) hHeld ?_;simp only[Act.put,bu];refine Ab (i:=1) rfl kr kr kr (fun _ _ _ h=>h) (AK ⟨rfl,fun _ hw=>rfl⟩) hHeld ?_;simp only[Act.put,bu];refine Ab (i:=2) rfl kr kr kr (fun _ _ _ h=>h) (AK ⟨rfl,fun _ hw=>rfl⟩) hHeld ?_;simp only[Act.put,bu];refine Ab (i:=3) rfl kr kr kr (fun _ _ _ h=>h) (AK ⟨rfl,fun _ hw=>rfl⟩) hHeld ?_;simp only[Act.put,bu];refine wpAnyH_ready (rs:=[4]) kr (by simp) ?_;refine AllReadyH.cons rfl (fun K' hK=>?_) AllReadyH.nil;go_simp;refine(Hl (N:Nat) _).mono ?_;rintro e wb ⟨rfl,hAb,Gb⟩;have Rb:=R4d.out.chg0 Gb;refine hK.out _ _ Rb.r (fun hHeld=>?_);clear hK K';refine wpAnyH_ready (rs:=[5]) kr (by simp) ?_;refine AllReadyH.cons rfl (fun K' hK=>?_) AllReadyH.nil;go_simp;refine(IQ C D A B La _ Rb.d hB of hL (N:Nat) _ 0 160 hAb.at_ (fun e=>by have h1:=HLW.out _ (AK (AK e));have h2:=R4d.out.s;omega)).mono ?_;rintro e wd ⟨rfl,hDd,Gd⟩;have Rd:=Rb.cor Gd hDd;refine hK.out _ _ Rd.r (fun hHeld=>?_);clear hK K';refine wpAnyH_ready (rs:=[6]) kr (by simp) ?_;refine AllReadyH.cons rfl (fun K' hK=>?_) AllReadyH.nil;obtain⟨F1,hF1⟩:=Rd.h;refine CG rfl (.tmp 6) (.tmp 31) rfl (n+1+1) rfl Lb rfl hF1 ?_;intro ws1 Is1 Gs1;have Rz:=Rd.store Is1 Gs1;clear hF1;refine hK.out _ _ Rz.r (fun hHeld=>?_);clear hK K';simp only[Act.put,bu];refine Ab (i:=7) rfl kr kr kr (fun _ _ _ h=>h) (AK ⟨rfl,fun _ _=>rfl⟩) hHeld ?_;simp only[Act.put,bu];refine Ab (i:=8) rfl kr kr kr (fun _ _ _ h=>h) (AK ⟨rfl,fun _ _=>rfl⟩) hHeld ?_;simp only[Act.put,bu];refine wpAnyH_done kr ?_ _;refine NoPanic.normal ?_;have HF:=BB Rz;have HIF:=BB Is1;go_wp2;refine AZ (DV rfl _ rfl HIF.out.range) rfl ?_;refine⟨_,by rw[HLB.out];rfl,?_,AK ⟨rfl,HLR.out.trans HER.out⟩,HF.out.t.mono (fun k hk e=>e.resolve_left (by have:=HN.out;omega))⟩;rw[HLB.out,HEB.out];exact HF.out.d
 ·go_upto_region 11 with fail
  have G4:Chg (fun k=>k=n) w3 (w3.setCell ⟨n,of,none⟩ (.int .i64 0)):=(Chg.refl (·=n) w3).setCell (AK rfl) of (.int .i64 0);have HI4:=HI.out.set of 0;have HR4:=HR.out.chg G4 om;have R4:Mr P w (w3.setCell ⟨n,of,none⟩ (.int .i64 0)) D A B La (upd La of 0) n:=
   ⟨HLW.out,(HG.out.mono (fun _ _ f=>f.elim)).trans (G4.mono (fun k _ e=>AK om)),H.out.far HLW.out (fun k e=>om) G4,HI4,⟨_,HR4⟩,by have:=G4.size;have:=HS.out;have:=HN.out;omega⟩
  have ELb:=EA.out 3 rfl;have ELr:=ER.out 3 rfl;rw[AI dc,AJ dc] at ELb;rw[AJ dc] at ELr;have HEB:=BB ELb;have HER:=BB ELr;rw[<-ELb] at R4;clear HI HG H HR HP ci cf HNUM G4 HI4 HR4 EA ER HS ELb ELr;generalize w3.setCell ⟨n,of,none⟩ (.int .i64 0)=w4 at *
  have R4d:=BB R4.drew;refine wp_region_noPanic ?_;refine wp_region_held_drew (S:=fun wx=>IB wx n 30 24 Lb) kr R4d.out.r (fun hHeld=>?_);refine Ab (i:=0) rfl kr kr kr (fun _ _ _ h=>h) (AK ⟨rfl,fun _ hw=>Bg rfl rfl hw⟩) hHeld ?_;simp only[Act.put,bu];refine Ab (i:=1) rfl kr kr kr (fun _ _ _ h=>h) (AK ⟨rfl,fun _ hw=>rfl⟩) hHeld ?_;simp only[Act.put,bu];refine Ab (i:=2) rfl kr kr kr (fun _ _ _ h=>h) (AK ⟨rfl,fun _ hw=>rfl⟩) hHeld ?_;simp only[Act.put,bu];refine wpAnyH_ready (rs:=[3]) kr (by simp) ?_;refine AllReadyH.cons rfl (fun K' hK=>?_) AllReadyH.nil;go_simp;refine(Yf C D A B La _ R4d.out.d hB of hL).mono ?_;rintro e wd ⟨rfl,hDd,Gd⟩;have Rd:=R4d.out.cor Gd hDd;refine hK.out _ _ Rd.r (fun hHeld=>?_);clear hK K';refine wpAnyH_ready (rs:=[4]) kr (by simp) ?_;refine AllReadyH.cons rfl (fun K' hK=>?_) AllReadyH.nil;obtain⟨F1,hF1⟩:=Rd.h;refine CG rfl (.tmp 6) (.tmp 42) rfl (n+1+1) rfl Lb rfl hF1 ?_;intro ws1 Is1 Gs1;have Rz:=Rd.store Is1 Gs1;clear hF1;refine hK.out _ _ Rz.r (fun hHeld=>?_);clear hK K';simp only[Act.put,bu];refine Ab (i:=5) rfl kr kr kr (fun _ _ _ h=>h) (AK ⟨rfl,fun _ _=>rfl⟩) hHeld ?_;simp only[Act.put,bu];refine Ab (i:=6) rfl kr kr kr (fun _ _ _ h=>h) (AK ⟨rfl,fun _ _=>rfl⟩) hHeld ?_;simp only[Act.put,bu];refine wpAnyH_done kr ?_ _;refine NoPanic.normal ?_;have HF:=BB Rz;have HIF:=BB Is1;go_wp2;refine AZ (DV rfl _ rfl HIF.out.range) rfl ?_;refine⟨_,by rw[HLB.out];rfl,?_,AK ⟨rfl,HLR.out.trans HER.out⟩,HF.out.t.mono (fun k hk e=>e.resolve_left (by have:=HN.out;omega))⟩;rw[HLB.out,HEB.out];exact HF.out.d
 ·have q0:(q:Int)≠0:=om
  have q1:(q:Int)≠1:=om
  have q2:(q:Int)≠2:=om
  have q3:(q:Int)≠3:=om
  have e0:((q:Int) == 0)=false:=by simpa using q0
  have e1:((q:Int) == 1)=false:=by simpa using q1
  have e2:((q:Int) == 2)=false:=by simpa using q2
  have e3:((q:Int) == 3)=false:=by simpa using q3
  have ELb:=EA.out q rfl;have ELr:=ER.out q rfl;rw[AI om,AI om] at ELb;rw[AI om] at ELr;have HEB:=BB ELb;have HER:=BB ELr;have hrd:=Yg C D A B La w3 H.out hB of hL;clear EA ER ELb ELr hq4 hk6 ci cf HNUM H;go_wp2_with fail;refine hrd.mono ?_;rintro e w5 ⟨gv,cv,rfl,hgv,hAt,hD5,G5⟩;have hnc:∀k,n<=k->¬ Cor A k:=fun k hk e=>by have:=HLW.out k (AK (AK e));omega
  have HI5:=BB (HI.out.chg G5 (hnc n (AM _)));have HR5:=BB (HR.out.chg G5 (hnc (n+1+1) om));have HAT:=BB hAt;have HD5:=BB hD5;have HG5:Hid (Chg (Cor A) w w5):=(HG.out.mono (fun _ _ f=>f.elim)).trans G5;have HGV:Hid (w.heap.size+3<=gv):=by have h1:=HS.out;have h2:=HN.out;show _<=_;omega
  clear hrd hgv hAt hD5 G5 HI HR HG HS hnc;go_wp2_with (first | refine CZ rfl _ (Bg rfl rfl HI5.out) ?_ | refine By rfl (.tmp 6) (.tmp 52) rfl (n+1+1) rfl rfl HR5.out ?_);intro w6 I6 G6;have HI6:=BB I6;have HG6:=BB G6;clear I6 G6;go_wp2;refine AZ (DV rfl _ rfl HI6.out.range) rfl ?_;have hn:=HN.out;have hgv:=HGV.out;refine⟨_,by rw[HLB.out,HEB.out];rfl,?_,AL ⟨gv,cv,rfl,om,?_,?_,?_⟩,HG5.out.trans' HG6.out (fun k hk e=>om)⟩
  ·rw[HLB.out,HEB.out];exact HD5.out.far HLW.out (fun k e=>om) HG6.out
  ·rw[HLR.out,HER.out];exact HAT.out.chg HG6.out om
  ·rw[HLR.out,HER.out];exact CL _
  ·rw[HLR.out,HER.out];exact Hk _
end
section
variable {w:Wd}{fn:Func}{p u:Tmp}{g:Nat}{F:Nat->Int}
set_option linter.unusedSimpArgs false
theorem Om(h:fn.results=#[.cell p 30,.tmp u])(tmps:Array Value)(hp:tmps.getD p undef=.pointer (some ⟨g,0,none⟩))(hr:w.rangeAt g 0 (ints F 24)) :(results fn tmps).run prog w=.ok (.tuple #[.agg (ints F 24).toArray,tmps.getD u undef]) w:=by
 have hl:=run_loadVar_mid (P:=prog) w g 0 30 (ints F 24) _ hr underlying30 rfl (by rw[BD];exact KX);unfold results;rw[h];have hp':=hp;simp only[Array.getD_eq_getD_getElem?] at hp';simp[hp',asAddr,hl]
theorem Oo{v:Tmp}(h:fn.results=#[.tmp u,.tmp v,.cell p 30])(tmps:Array Value)(hp:tmps.getD p undef=.pointer (some ⟨g,0,none⟩))(hr:w.rangeAt g 0 (ints F 24)) :(results fn tmps).run prog w=.ok (.tuple #[tmps.getD u undef,tmps.getD v undef,.agg (ints F 24).toArray]) w:=by
 have hl:=run_loadVar_mid (P:=prog) w g 0 30 (ints F 24) _ hr underlying30 rfl (by rw[BD];exact KX);unfold results;rw[h];have hp':=hp;simp only[Array.getD_eq_getD_getElem?] at hp';simp[hp',asAddr,hl]
theorem Km{o:Oper}{a:Act}(ho:o.op=.build 30 #[]):(execOp a.eval o).run prog w=.ok (.value (.agg (ints (fun _=>0) 24).toArray)) w:=by
 have hb:=Yc w;unfold execOp;simp[ho,hb]
end
section
variable {w w':Wd}{S:Nat->Prop}
set_option linter.unusedSimpArgs false
theorem F8{ops:Array Oper}{o:Oper}{a:Act}{K:Act->World->Prop}{Q:Exit->Act->World->Prop}{E:Prop}(hgd:o.guard=none)(ho:o.op=.alloc 30)(h:K (a.put o.dst (.pointer (some ⟨w.heap.size,0,none⟩))) (w.alloc (.cells (ints (fun _=>0) 24).toArray 30))):if Region.wanted o (yielded ops a.tmps)=true then Oper.wp prog o a w K Q else E:=by
 rw[AJ (by simp[Region.wanted,hgd])];have hz:=Yb;unfold Oper.wp;simp only[execOp,ho,Instr.alloc,newVar,Value.cells,newRow];generalize (ints (fun _=>0) 24).toArray=q at *
 simp[hz];exact h
structure Tu where
 k:Int
 a:Int
 x:Int
def Tu.Ok (o:Tu):Prop:=Kl o.k/\Kl o.a/\Kl o.x
def OprAt (w:Wd) (g o:Nat) (z:Tu):Prop:=w.cell? ⟨g,o,none⟩=some (.int .i64 z.k)/\w.cell? ⟨g,o+1,none⟩=some (.int .i64 z.a)/\w.cell? ⟨g,o+2,none⟩=some (.int .i64 z.x)
theorem OprAt.chg{g o:Nat}{z:Tu}(h:OprAt w g o z)(hc:Chg S w w')(hg:g<w.heap.size)(hs:¬ S g):OprAt w' g o z:=by
 obtain⟨h0,h1,h2⟩:=h;exact⟨(hc.cell hg hs _).trans h0,(hc.cell hg hs _).trans h1,(hc.cell hg hs _).trans h2⟩
def IsOps (w:Wd) (a:Option Addr) (len:Nat) (O:Nat->Tu):Prop:=
 (∀i,i<len->(O i).Ok)/\(len=0\/∃g o,a=some ⟨g,o,none⟩/\g<w.heap.size/\∀i,i<len->OprAt w g (o+i*3) (O i))
theorem jz.chg{lo:Nat}{v:Value}{l:List Nat}(h:jz w lo v l)(hc:Chg S w w')(hS:∀k,lo<=k->k<w.heap.size->¬ S k){lo':Nat}(hl:lo'<=lo):jz w' lo' v l:=by
 rcases h with ⟨rfl,rfl⟩ | ⟨gv,cv,rfl,h1,h2,h3,h4⟩
 ·exact AK ⟨rfl,rfl⟩
 ·exact AL ⟨gv,cv,rfl,AY hl h1,h2.chg hc (hS gv h1 h2.1),h3,h4⟩
end
set_option linter.unusedSimpArgs false
section
variable {P:Nat->(Nat->Int)->BC->Prop}
structure nk (P:Nat->(Nat->Int)->BC->Prop) (w wr:Wd) (D:Nat) (A:Ad) (B:Nat) (La:Nat->Int) (n:Nat):Prop where
 d:Fr P wr D A B La
 i:IB wr n 30 24 La
 r:∃F,IB wr (n+1) 30 24 F
 t:Chg (Cor A) w wr
theorem Fr.out{w:Wd}{D:Nat}{A:Ad}{B:Nat}{La:Nat->Int}(h:Fr P w D A B La){w':Wd}{S:Nat->Prop}(hS:∀x,(Cor A x\/x=A.p\/x=A.q)\/x=D->¬ S x)(hc:Chg S w w'):Fr P w' D A B La:=by
 obtain⟨K,h1,h2⟩:=h;exact⟨K,⟨h1.dv.chg hc (hS D (AL rfl)),h1.core.out' (fun x e=>hS x (AK e)) hc,h1.nd⟩,h2⟩
theorem Yh(C:j8 P)(D:Nat)(A:Ad)(La0:Nat->Int)(a:Option Addr)(len cap:Nat)(O:Nat->Tu)(w:Wd)(h:Fr P w D A 0 La0)(hO:IsOps w a len O)(hlen:len<=1048576)(hna:∀g o,a=some ⟨g,o,none⟩->len=0\/¬ Cor A g) :Calls prog 45 #[.pointer (some ⟨D,0,none⟩),.agg (ints La0 24).toArray,.slice a len cap] w fun e w'=>∃La,e=.returned (.tuple #[.agg (ints La 24).toArray,.bool true])/\Fr P w' D A (2*len) La/\Chg (Cor A) w w':=by
 have g1:Chg No w (w.alloc (.cells (ints La0 24).toArray 30)):=(Chg.refl _ w).alloc _;have hi1:IB (w.alloc (.cells (ints La0 24).toArray 30)) w.heap.size 30 24 La0:=IB.new w 30 24 La0;have hz1:(w.alloc (.cells (ints La0 24).toArray 30)).heap.size=w.heap.size+1:=World.size_alloc _ _;have HLW:Hid (Lw A D w.heap.size):=h.lw;have HD1:=BB (h.chg0 g1);have HI1:=BB hi1;have HZ1:=BB hz1;have HG1:=BB g1;have HO:=BB hO;have HNA:=BB hna;clear h hO hna g1 hi1 hz1;go_enter func45,ntmps45
 go_upto_region 1 with (first | refine Bw rfl rfl ?_)
 generalize w.alloc (.cells (ints La0 24).toArray 30)=w1 at *
 have g2:Chg No w1 (w1.alloc (.cells (ints (fun _=>0) 24).toArray 30)):=(Chg.refl _ w1).alloc _;have HS0:Hid (nk P w (w1.alloc (.cells (ints (fun _=>0) 24).toArray 30)) D A 0 La0 w.heap.size):=⟨HD1.out.chg0 g2,HI1.out.chg g2 (fun f=>f),⟨fun _=>0,by
  have:=IB.new w1 30 24 (fun _=>0)
  rwa [HZ1.out] at this⟩,(HG1.out.trans g2).mono (fun _ _ f=>f.elim)⟩
 clear g2 HI1 HG1 HD1 HZ1;generalize w1.alloc (.cells (ints (fun _=>0) 24).toArray 30)=w2 at *
 obtain⟨n,hn⟩:∃n,w.heap.size=n:=⟨_,rfl⟩;have HN:=BB hn;rw[hn] at HS0 HLW ⊢;clear hn;go_wp2_with fail
 go_loopw [8] (fun t8 wr=>∃(i:Nat) (La:Nat->Int),i<=len/\t8=.int .i64 i/\nk P w wr D A (2*i) La n) (fun t8 _=>len - (intOf t8).toNat)
 case atStart=>exact⟨0,_,om,rfl,HS0.out⟩
 case round=>
  clear HS0;obtain⟨i,La,hi,rfl,hS⟩:=hrel;by_cases hlt:i<len
  ·have hl1:(i:Int)<(len:Int):=om;have hl0:(0:Int)<=(i:Int):=om;obtain⟨hok,hc⟩:=HO.out;rcases hc with hc | ⟨go,oo,rfl,hqa,hc⟩
   ·omega
   have hoi:=hok i hlt;have hng:¬ Cor A go:=(HNA.out go oo rfl).resolve_left om;have hci:=(hc i hlt).chg hS.t hqa hng;generalize O i=oi at *
   have HOK:=BB hoi;have HCI:=BB hci;have HGO:Hid (go<w.heap.size):=hqa;have HNG:=BB hng;have HS:=BB hS;have HB:Hid (2*i+1<1073741824):=(by show _<_;omega);have hdo:=fun wx (h:Fr P wx D A (2*i) La)=>cq C D A (2*i) La wx h HB.out oi.k oi.a oi.x HOK.out.1 HOK.out.2.1 HOK.out.2.2;have HDO:=BB hdo;clear hok hc hS hoi hci hqa hng hdo
   go_upto_region 4 with fail
   go_cut [9,10,11] from 18 to 28 (fun s9 s10 s11 wx=>∃nb v,s9=.pointer (some ⟨nb,0,none⟩)/\s10=v/\s11=.nilIface/\Hid (n+1<nb/\wr.heap.size<=nb)/\Hid (IB wx nb 30 24 (dsA La oi.k oi.a oi.x))/\Hid (Fr P wx D A (2*i+2) (dsA La oi.k oi.a oi.x))/\Hid (jz wx wr.heap.size v (jy La oi.k oi.a))/\Hid (Chg (Cor A) wr wx))
   case first=>
    refine wp_region_noPanic ?_;refine wp_region_held_drew (S:=fun wx=>IB wx n 30 24 La/\OprAt wx go (oo+i*3) oi) kr ⟨HS.out.i.drew,HCI.out⟩ (fun hHeld=>?_);refine Ab (i:=0) rfl kr kr kr (fun _ _ _ h=>h) (AK ⟨rfl,fun _ hw=>rfl⟩) hHeld ?_;simp only[Act.put,bu];refine Ab (i:=1) rfl kr kr kr (fun _ _ _ h=>h) (AK ⟨rfl,fun _ hw=>Bg rfl rfl hw.1⟩) hHeld ?_;simp only[Act.put,bu];refine Ab (i:=2) rfl kr kr kr (fun _ _ _ h=>h) (AK ⟨rfl,fun _ hw=>rfl⟩) hHeld ?_;simp only[Act.put,bu];refine Ab (i:=3) rfl kr kr kr (fun _ _ _ h=>h) (AK ⟨rfl,fun _ hw=>rfl⟩) hHeld ?_;simp only[Act.put,bu];refine Ab (i:=4) (v:=.pointer (some ⟨go,oo+i*3,none⟩)) rfl kr kr kr (fun _ _ _ h=>h) (AK ⟨rfl,fun _ hw=>by go_simp⟩) hHeld ?_;simp only[Act.put,bu];refine Ab (i:=5) (v:=.agg #[.int .i64 oi.k,.int .i64 oi.a,.int .i64 oi.x]) rfl kr kr kr (fun _ _ _ h=>h) (AK ⟨rfl,fun _ hw=>by obtain⟨_,c0,c1,c2⟩:=hw;go_simp⟩) hHeld ?_;simp only[Act.put,bu];have hnn:¬ Cor A n:=fun f=>by have h2:=HLW.out n (AK (AK f));omega
    have hng:¬ Cor A go:=HNG.out;have hgo:go<wr.heap.size:=(by have:=HGO.out;have:=HS.out.t.size;omega);have hn1:n+1<wr.heap.size:=(by obtain⟨F,hF⟩:=HS.out.r;exact hF.lt);refine wpAnyH_ready (rs:=[6,11]) kr (by simp) ?_;refine AllReadyH.cons rfl (fun K' hK=>?_) (AllReadyH.cons rfl (fun K' hK=>?_) AllReadyH.nil)
    case' refine_1=>
     go_simp;refine(HDO.out _ (HS.out.d.chg0 (Chg.refl _ wr).drew)).mono ?_;rintro e wd ⟨v,rfl,hDd,hRd,Gd⟩;have Gd':Chg (Cor A) wr wd:=(Chg.refl (Cor A) wr).drew.trans Gd;have hId:=HS.out.i.chg Gd' hnn;have hCd:=HCI.out.chg Gd' hgo hng;refine hK.out _ _ ⟨hId,hCd⟩ (fun hHeld=>?_);clear hK K';refine Ab (i:=7) rfl kr kr kr (fun _ _ _ h=>h) (AK ⟨rfl,fun _ hw=>rfl⟩) hHeld ?_;simp only[Act.put,bu];refine Ab (i:=8) rfl kr kr kr (fun _ _ _ h=>h) (AK ⟨rfl,fun _ hw=>rfl⟩) hHeld ?_;simp only[Act.put,bu];refine Ab (i:=9) rfl kr kr kr (fun _ _ _ h=>h) (AK ⟨rfl,fun _ hw=>rfl⟩) hHeld ?_;simp only[Act.put,bu];refine Ab (i:=10) rfl kr kr kr (fun _ _ _ h=>h) (AK ⟨rfl,fun _ hw=>rfl⟩) hHeld ?_;simp only[Act.put,bu];refine wpAnyH_ready (rs:=[11]) kr (by simp) ?_;refine AllReadyH.cons rfl (fun K' hK=>?_) AllReadyH.nil;have ga:Chg No wd (wd.alloc (.cells (ints (fun _=>0) 24).toArray 30)):=(Chg.refl _ wd).alloc _;refine F8 rfl rfl ?_;refine hK.out _ _ ⟨hId.chg ga (fun f=>f),hCd.chg ga (Aj hgo Gd'.size) (fun f=>f)⟩ (fun hHeld=>?_);clear hK K';simp only[Act.put,bu];refine wpAnyH_ready (rs:=[12]) kr (by simp) ?_;refine AllReadyH.cons rfl (fun K' hK=>?_) AllReadyH.nil;refine CG rfl (.tmp 9) (.tmp 26) rfl wd.heap.size rfl (dsA La oi.k oi.a oi.x) rfl (IB.new wd 30 24 _) ?_;intro ws Is Gs;have hnlt:n<wd.heap.size:=hId.lt;refine hK.out _ _ ⟨(hId.chg ga (fun f=>f)).chg Gs om,(hCd.chg ga (Aj hgo Gd'.size) (fun f=>f)).chg Gs (Aj (Aj hgo Gd'.size) ga.size) (by have:=Gd'.size;omega)⟩ (fun hHeld=>?_);clear hK K';simp only[Act.put,bu];refine Ab (i:=13) rfl kr kr kr (fun _ _ _ h=>h) (AK ⟨rfl,fun _ hw=>rfl⟩) hHeld ?_;simp only[Act.put,bu];refine Ab (i:=14) rfl kr kr kr (fun _ _ _ h=>h) (AK ⟨rfl,fun _ hw=>rfl⟩) hHeld ?_;simp only[Act.put,bu];have HNB:Hid (n+1<wd.heap.size/\wr.heap.size<=wd.heap.size):=⟨Aj hn1 Gd'.size,Gd'.size⟩;have HIs:=BB Is;have HDs:=BB ((hDd.chg0 ga).far hDd.lw (fun k e=>om) Gs);have HRs:Hid (jz ws wr.heap.size v (jy La oi.k oi.a)):=hRd.chg ((ga.mono (T:=(·=wd.heap.size)) (fun _ _ f=>f.elim)).trans Gs) (fun k h1 h2 f=>om) (AM _);have HGs:Hid (Chg (Cor A) wr ws):=(Gd'.trans (ga.mono (fun _ _ f=>f.elim))).trans' Gs (fun k hk f=>by have:=Gd'.size;omega);refine wpAnyH_done kr ?_ _;refine NoPanic.normal ?_;go_wp2_with fail
     go_meet
     case rel=>exact⟨_,_,rfl,rfl,rfl,HNB,HIs,HDs,HRs,HGs⟩
    case' refine_2=>
     have gz:Chg No wr (wr.drew.alloc (.cells (ints (fun _=>0) 24).toArray 30)):=(Chg.refl No wr).drew.alloc _;have hz:IB (wr.drew.alloc (.cells (ints (fun _=>0) 24).toArray 30)) wr.heap.size 30 24 (fun _=>0):=IB.new wr.drew 30 24 _;have hzs:(wr.drew.alloc (.cells (ints (fun _=>0) 24).toArray 30)).heap.size=wr.heap.size+1:=World.size_alloc _ _;refine F8 rfl rfl ?_;refine hK.out _ _ ⟨HS.out.i.chg gz (fun f=>f),HCI.out.chg gz hgo (fun f=>f)⟩ (fun hHeld=>?_);clear hK K';simp only[Act.put,bu];refine wpAnyH_ready (rs:=[6]) kr (by simp) ?_;refine AllReadyH.cons rfl (fun K' hK=>?_) AllReadyH.nil;go_simp;refine(HDO.out _ (HS.out.d.chg0 gz)).mono ?_;rintro e wd ⟨v,rfl,hDd,hRd,Gd⟩;have hlw:=HS.out.d.lw;have hnz:¬ Cor A wr.heap.size:=fun f=>by have h1:=hlw _ (AK (AK f));omega
     have hId:=(HS.out.i.chg gz (fun f=>f)).chg Gd hnn;have hCd:=(HCI.out.chg gz hgo (fun f=>f)).chg Gd (Aj hgo gz.size) hng;have hzd:=hz.chg Gd hnz;refine hK.out _ _ ⟨hId,hCd⟩ (fun hHeld=>?_);clear hK K';refine Ab (i:=7) rfl kr kr kr (fun _ _ _ h=>h) (AK ⟨rfl,fun _ hw=>rfl⟩) hHeld ?_;simp only[Act.put,bu];refine Ab (i:=8) rfl kr kr kr (fun _ _ _ h=>h) (AK ⟨rfl,fun _ hw=>rfl⟩) hHeld ?_;simp only[Act.put,bu];refine Ab (i:=9) rfl kr kr kr (fun _ _ _ h=>h) (AK ⟨rfl,fun _ hw=>rfl⟩) hHeld ?_;simp only[Act.put,bu];refine Ab (i:=10) rfl kr kr kr (fun _ _ _ h=>h) (AK ⟨rfl,fun _ hw=>rfl⟩) hHeld ?_;simp only[Act.put,bu];refine wpAnyH_ready (rs:=[12]) kr (by simp) ?_;refine AllReadyH.cons rfl (fun K' hK=>?_) AllReadyH.nil;refine CG rfl (.tmp 9) (.tmp 26) rfl wr.heap.size rfl (dsA La oi.k oi.a oi.x) rfl hzd ?_;intro ws Is Gs;have hnlt:n<wr.heap.size:=HS.out.i.lt;refine hK.out _ _ ⟨hId.chg Gs om,hCd.chg Gs (Aj (Aj hgo gz.size) Gd.size) om⟩ (fun hHeld=>?_);clear hK K';simp only[Act.put,bu];refine Ab (i:=13) rfl kr kr kr (fun _ _ _ h=>h) (AK ⟨rfl,fun _ hw=>rfl⟩) hHeld ?_;simp only[Act.put,bu];refine Ab (i:=14) rfl kr kr kr (fun _ _ _ h=>h) (AK ⟨rfl,fun _ hw=>rfl⟩) hHeld ?_;simp only[Act.put,bu];have HNB:Hid (n+1<wr.heap.size/\wr.heap.size<=wr.heap.size):=⟨hn1,AM _⟩;have HIs:=BB Is;have HDs:=BB (hDd.out (fun x e f=>by have h1:=hlw x e;omega) Gs);have HRs:Hid (jz ws wr.heap.size v (jy La oi.k oi.a)):=hRd.chg Gs (fun k h1 h2 f=>om) om;have HGs:Hid (Chg (Cor A) wr ws):=((gz.mono (T:=Cor A) (fun _ _ f=>f.elim)).trans Gd).trans' Gs (fun k hk f=>om);refine wpAnyH_done kr ?_ _;refine NoPanic.normal ?_;go_wp2_with fail
     go_meet
     case rel=>exact⟨_,_,rfl,rfl,rfl,HNB,HIs,HDs,HRs,HGs⟩
   case rest=>
   obtain⟨nb,v1,rfl,e10,rfl,HNB,HIb,HDb,HRb,HGb⟩:=hcut;have e11:=e10.symm;clear e10;subst e11;have hnn:¬ Cor A n:=fun f=>by have h2:=HLW.out n (AK (AK f));omega
   have hn1:¬ Cor A (n+1):=fun f=>by have h2:=HLW.out (n+1) (AK (AK f));omega
   have HVI:=BB (HS.out.i.chg HGb.out hnn);have HVR:Hid (∃F,IB wc (n+1) 30 24 F):=(by obtain⟨F,hF⟩:=HS.out.r;exact⟨F,hF.chg HGb.out hn1⟩);have HVT:Hid (Chg (Cor A) w wc):=HS.out.t.trans HGb.out;have HCV:=BB (HCI.out.chg HGb.out (by have:=HGO.out;have:=HS.out.t.size;omega) HNG.out);have HRED:Hid ((v1=.slice none 0 0)\/(∃gv cv,v1=.slice (some ⟨gv,0,none⟩) 160 cv/\At wc gv 0 (FX (La (pkN oi.a 24))))):=by
    rcases HRb.out with ⟨e,_⟩ | ⟨gv,cv,e,h1,h2,h3,h4⟩
    ·exact AK e
    ·unfold jy at h2 h3;split at h3
     ·exact absurd h3 dc
     ·rename_i c;rw[AI c] at h2;exact AL ⟨gv,cv,e,h2⟩
   have HWS:Hid (wr.heap.size<=wc.heap.size):=HGb.out.size;clear HCI HDO HGb hnn hn1 HRb;generalize dsA La oi.k oi.a oi.x=Lb at *
   generalize wc=wu at *
   go_upto_region 5 with fail
   go_cut [49] from 29 to 49 (fun s49 wx=>s49=.bool false/\Hid (Chg No wu wx))
   case first=>
    rcases HRED.out with rfl | ⟨gv,cv,rfl,hat⟩
    ·clear HRED;go_wp2_with fail
     go_meet
     case rel=>exact⟨rfl,Chg.refl _ _⟩
    ·have HAT:=BB hat;have hsm:=Et oi.a HOK.out.2.1 24 dc dc;have hp:=EF oi.a 24 dc;have hp1:(pkN oi.a 24:Int)<24:=om;have hp0:(0:Int)<=(pkN oi.a 24:Int):=om;obtain⟨cn,-⟩:=HVI.out.cell (pkN oi.a 24) hp;obtain⟨k0,k1,k2⟩:=HCV.out;generalize pkN oi.a 24=of at *
     have hlen:=CL (La of);have hbys:=Hk (La of);have HLEN:=BB hlen;have HBYS:=BB hbys;generalize La of=y at *
     clear HRED hat hlen hbys k0 k2;go_wp2_with fail;refine(hsm _).mono ?_;rintro e wq ⟨rfl,rfl⟩;clear hsm;go_wp2_with fail;refine(Hl y wq).mono ?_;rintro x w4 ⟨rfl,hA4,G4⟩;have hsm:=Xg w4 gv 0 160 cv wq.heap.size 0 160 160 (FX y) (FX y) HLEN.out.symm HLEN.out.symm HBYS.out HBYS.out (HAT.out.chg G4 (fun f=>f)) hA4.at_;rw[AO rfl] at hsm;have HG4:=BB G4;clear hA4 G4 HAT cn k1;go_wp2_with fail;refine hsm.mono ?_;rintro x w5 ⟨rfl,rfl⟩;clear hsm;go_wp2_with fail
     go_meet
     case rel=>exact⟨rfl,HG4.out⟩
   case rest=>
   obtain⟨rfl,HGc⟩:=hcut;have HIc:=BB (HIb.out.chg HGc.out (fun f=>f));have HVc:=BB (HVI.out.chg HGc.out (fun f=>f));have HDc:=BB (HDb.out.chg0 HGc.out);have HTc:Hid (Chg (Cor A) w wc):=HVT.out.trans (HGc.out.mono (fun _ _ f=>f.elim));have HRc:Hid (∃F,IB wc (n+1) 30 24 F):=(by obtain⟨F,hF⟩:=HVR.out;exact⟨F,hF.chg HGc.out (fun f=>f)⟩);clear HGc HIb HVI HDb HVT HVR HRED HCV;go_wp2_with (first | refine CZ rfl _ (Bg rfl rfl HIc.out) ?_ | refine By rfl (.tmp 4) (.tmp 51) rfl n rfl rfl HVc.out ?_);intro w5 I5 G5;have HS5:Hid (nk P w w5 D A (2*(i+1)) Lb n):=⟨by
    rw[show 2*(i+1)=2*i+2 by omega]
    exact HDc.out.far HLW.out (fun k e=>om) G5,I5,by obtain⟨F,hF⟩:=HRc.out;exact⟨F,hF.chg G5 om⟩,HTc.out.trans' G5 (fun k hk e=>by have:=HN.out;omega)⟩
   clear I5 G5 HIc HVc HDc HTc HRc;go_wp2;exact⟨⟨i+1,Lb,om,by go_num,HS5.out⟩,by simp[intOf];omega⟩
  ·have hl1:¬ (i:Int)<(len:Int):=om;have e24:i=len:=om;subst e24;have HS:=BB hS;obtain⟨F0,hF0⟩:=hS.r;have HF0:=BB hF0;clear hS hF0;go_wp2_with (first | refine CZ rfl _ (Bg rfl rfl HS.out.i) ?_ | refine By rfl (.tmp 6) (.tmp 52) rfl (n+1) rfl rfl HF0.out ?_);intro w3 I3 G3;have HI3:=BB I3;have HD3:=BB (HS.out.d.far HLW.out (fun k e=>om) G3);have HG3:Hid (Chg (Cor A) w w3):=HS.out.t.trans' G3 (fun k hk e=>by have:=HN.out;omega);clear I3 G3;go_wp2;refine AZ (Om rfl _ rfl HI3.out.range) rfl ?_;exact⟨La,rfl,HD3.out,HG3.out⟩
end
end Go.Proofs.YtbhbilcieodbhaaGreat
