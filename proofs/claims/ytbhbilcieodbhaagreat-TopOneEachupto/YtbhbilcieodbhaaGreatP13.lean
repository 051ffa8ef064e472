/-
  Lemmas.
-/
import Derived.Test.YtbhbilcieodbhaaGreatOm
import Derived.Test.YtbhbilcieodbhaaGreatP12
import Derived.Deep.Slices
set_option maxRecDepth 1000000
set_option maxHeartbeats 16000000
set_option linter.unusedSimpArgs false
namespace Go.Proofs.YtbhbilcieodbhaaGreat
open List
open Go.Proofs.Tryz
open Go.RowKit
section
variable {a k:Nat}
set_option linter.unusedSimpArgs false
def Flps (a k:Nat):Nat->BG->BG->Prop
 | 0,s,s'=>s'=s
 | n+1,s,s'=>∃s1,Flps a k n s s1/\(s'=s1\/∃b,b<2048/\b / 512=k/\s'=flpS s1 a b)
theorem Flps.ok(ha:a<96):∀ {n:Nat} {s s':BG},Flps a k n s s'->s.Ok->s'.Ok
 | 0,_,_,h,hs=>by
  have:_=_:=h
  rw[this];exact hs
 | n+1,_,_,h,hs=>by
  obtain⟨s1,h1,h2 | ⟨b,hb,-,h2⟩⟩:=h
  ·
   rw[h2];exact h1.ok ha hs
  ·
   rw[h2];exact YG (h1.ok ha hs) ha hb
theorem Flps.more{s s':BG}:∀ {n m:Nat},n<=m->Flps a k n s s'->Flps a k m s s'
 | n,0,hm,h=>by
  obtain rfl:n=0:=om
  exact h
 | n,m+1,hm,h=>by
  by_cases e:n=m+1
  ·
   rw[<-e];exact h
  ·
   exact⟨s',h.more om,AK rfl⟩
theorem IM(z:Int):Ke (wrap64 z):=⟨EQ z,by have:=ES z;omega⟩
theorem Ya(g:Nat)(s:BG)(hs:s.Ok)(a k:Nat)(ha:a<96)(hk:k<4)(raw:Int)(hr:Ke raw)(many:Nat)(hm:many<=4)(w:Wd)(h:BE w g s) :Calls prog 29 #[.pointer (some ⟨g,0,none⟩),.int .i64 (a:Nat),.int .i64 (k:Nat),.int .i64 raw,.int .i64 (many:Nat)] w fun e w'=>∃s',e=.returned (.tuple #[])/\Flps a k many s s'/\BE w' g s'/\Chg (·=g) w w':=by
 have hq1:=Eo raw hr 64 dc dc;have hq2:=Eo (wrap64 (raw.tdiv 7)) (IM _) 15 dc dc;have hq3:=Eo (wrap64 (raw.tdiv 3)) (IM _) 8 dc dc;have h1:=GO raw 64 dc;have h2:=GO (wrap64 (raw.tdiv 7)) 15 dc;have h3:=GO (wrap64 (raw.tdiv 3)) 8 dc;have HC:=BB h;have HS:=BB hs;clear h hr hs;generalize pkN raw 64=f at *
 generalize pkN (wrap64 (raw.tdiv 7)) 15=q at *
 generalize pkN (wrap64 (raw.tdiv 3)) 8=bt at *
 go_enter func29,ntmps29;go_wp2_with fail;refine(hq1 _).mono ?_;rintro e wq ⟨rfl,rfl⟩;clear hq1;go_wp2_with fail
 go_loopw [11] (fun t11 wr=>∃(i:Nat) (s1:BG),i<=many/\t11=.int .i64 i/\Hid (BE wr g s1)/\Hid (Flps a k i s s1)/\Hid (Chg (·=g) wq wr)) (fun t11 _=>many - (intOf t11).toNat)
 case atStart=>exact⟨0,s,om,rfl,HC.out,rfl,Chg.refl _ _⟩
 case round=>
  obtain⟨i,s1,hi,rfl,HC1,HF1,HG1⟩:=hrel;by_cases hlt:i<many
  ·have hl1:(i:Int)<(many:Int):=om;go_wp2_with fail;refine(hq2 _).mono ?_;rintro e wx ⟨rfl,rfl⟩
   go_upto_region 5 with fail
   have hsm:i*(1+q)<=64:=by
    have:=Nat.mul_le_mul (show i<=4 by omega) (show 1+q<=16 by omega);omega
   have hm1:(wrap64 (((f:Nat):Int)+wrap64 (((i:Nat):Int)*(1+((q:Nat):Int))))).tmod 64=(((f+i*(1+q)) % 64:Nat):Int):=by
    rw[show ((i:Nat):Int)*(1+((q:Nat):Int))=((i*(1+q):Nat):Int) by push_cast;rfl];generalize i*(1+q)=z at *
    rw[show wrap64 ((z:Nat):Int)=(z:Int) by unfold wrap64;omega,show wrap64 (((f:Nat):Int)+((z:Nat):Int))=((f+z:Nat):Int) by unfold wrap64;omega];rw[Av om];omega
   have hb:(f+i*(1+q)) % 64<64:=Nat.mod_lt _ dc;rw[hm1];generalize (f+i*(1+q)) % 64=b at *
   have HQ2:=BB hq2;clear hm1 hsm hq2;go_wp2_with fail
   go_loopw [13] (fun t13 wx2=>∃x:Nat,x<=i/\t13=.int .i64 x/\wx=wx2) (fun t13 _=>i - (intOf t13).toNat)
   case atStart=>exact⟨0,om,rfl,rfl⟩
   case round=>
    obtain⟨x,hx,rfl,rfl⟩:=hrel;by_cases hlx:x<i
    ·have hx1:(x:Int)<(i:Int):=om;go_wp2_with fail;refine(HQ2.out _).mono ?_;rintro e wy ⟨rfl,rfl⟩;by_cases hc:(wrap64 (((f:Nat):Int)+wrap64 (((x:Nat):Int)*(1+((q:Nat):Int))))).tmod 64=((b:Nat):Int)
     ·go_wp2;refine AZ (results_none rfl _ _ _) rfl ?_;exact⟨s1,rfl,HF1.out.more hi,HC1.out,HG1.out⟩
     ·go_wp2;exact⟨⟨x+1,om,by go_num,trivial⟩,by simp[intOf];omega⟩
    ·have hx1:¬ (x:Int)<(i:Int):=om;go_wp2_with fail;refine(hq3 _).mono ?_;rintro e wy ⟨rfl,rfl⟩;go_wp2_with fail;rw[show (((k:Nat):Int)*64+((b:Nat):Int))*8+((bt:Nat):Int)=((k*512+b*8+bt:Nat):Int) by omega];have hsk:=HF1.out.ok ha HS.out;refine(Xy g s1 hsk (a:Nat) (k*512+b*8+bt:Nat) _ HC1.out).mono ?_;rw[YF ha om];rintro e wz ⟨rfl,hCz,hGz⟩;have HCz:=BB hCz;have HGz:=BB (HG1.out.trans hGz);have HFz:Hid (Flps a k (i+1) s (flpS s1 a (k*512+b*8+bt))):=⟨s1,HF1.out,AL ⟨_,om,om,rfl⟩⟩;clear hCz hGz hsk;go_wp2;exact⟨⟨i+1,_,om,by go_num,HCz,HFz,HGz⟩,by simp[intOf];omega⟩
  ·have hl1:¬ (i:Int)<(many:Int):=om;go_wp2;go_end0;exact⟨rfl,s1,HF1.out.more hi,HC1.out,HG1.out⟩
end
structure Skn (K K':BC):Prop where
 s:K'.s=K.s
 r:K'.r=K.r
 hR:K'.hR=K.hR
 hN:K'.hN=K.hN
 hS:K'.hS=K.hS
 cu:K'.cu=K.cu
 ca:K'.ca=K.ca
 qu:K'.qu=K.qu
 rp:K'.rp=K.rp
 md:K'.md=K.md
 tl:K'.tl=K.tl
theorem Skn.refl(K:BC):Skn K K:=⟨rfl,rfl,rfl,rfl,rfl,rfl,rfl,rfl,rfl,rfl,rfl⟩
theorem Skn.trans{K K' K'':BC}(h:Skn K K')(k:Skn K' K''):Skn K K'':=⟨k.s.trans h.s,k.r.trans h.r,k.hR.trans h.hR,k.hN.trans h.hN,k.hS.trans h.hS,k.cu.trans h.cu,k.ca.trans h.ca,k.qu.trans h.qu,k.rp.trans h.rp,k.md.trans h.md,k.tl.trans h.tl⟩
theorem IN(K:BC):Skn K (clK K):=by unfold clK;split <;> exact⟨rfl,rfl,rfl,rfl,rfl,rfl,rfl,rfl,rfl,rfl,rfl⟩
theorem Mi(K:BC)(b:Int):Skn K (lvK K b):=by
 unfold lvK;split
 ·exact IN K
 ·exact Skn.refl K
theorem Yb(K:BC)(b s:Int):Skn K (stK K b s):=⟨rfl,rfl,rfl,rfl,rfl,rfl,rfl,rfl,rfl,rfl,rfl⟩
theorem Yc(K:BC)(b:Int):Skn K (spK K b):=by
 have h:=(Mi K b).trans (Yb (lvK K b) b 3);exact⟨h.s,h.r,h.hR,h.hN,h.hS,h.cu,h.ca,h.qu,h.rp,h.md,h.tl⟩
theorem QW(K:BC):Skn K (opK K).1:=by unfold opK;split <;> exact⟨rfl,rfl,rfl,rfl,rfl,rfl,rfl,rfl,rfl,rfl,rfl⟩
theorem Yd(K:BC):Skn K (sqK K):=⟨rfl,rfl,rfl,rfl,rfl,rfl,rfl,rfl,rfl,rfl,rfl⟩
theorem JK(K:BC)(t:CD):Skn K (layK K t).1:=⟨rfl,rfl,rfl,rfl,rfl,rfl,rfl,rfl,rfl,rfl,rfl⟩
theorem QX(K:BC)(S:BW)(o:Nat):Skn K (tiK K S o).1:=by
 unfold tiK;split
 ·exact Skn.refl K
 ·split <;> exact⟨rfl,rfl,rfl,rfl,rfl,rfl,rfl,rfl,rfl,rfl,rfl⟩
theorem jm:∀(l:List CD) (K:BC),Skn K (cmL l K).1:=by
 intro l
 induction l with
 | nil=>intro K;exact Skn.refl K
 | cons t l ih=>
  intro K;unfold cmL;split
  ·exact JK K t
  ·exact(JK K t).trans (ih _)
theorem QY(K:BC)(S:BW)(st:Int):Skn K (cmK K S st).1:=by
 have h0:=jm S.ld K;unfold cmK;dsimp only;generalize cmL S.ld K=x at *
 split
 ·exact h0
 ·have h1:=h0.trans ((Mi x.1 S.fm).trans (Yb (lvK x.1 S.fm) S.fm st));generalize stK (lvK x.1 S.fm) S.fm st=y at *
  split
  ·have h2:=h1.trans (IN y);exact⟨h2.s,h2.r,h2.hR,h2.hN,h2.hS,h2.cu,h2.ca,h2.qu,h2.rp,h2.md,h2.tl⟩
  ·exact⟨h1.s,h1.r,h1.hR,h1.hN,h1.hS,h1.cu,h1.ca,h1.qu,h1.rp,h1.md,h1.tl⟩
structure Kpr (P:BC->Prop):Prop where
 rd:∀K p,P K->P (rdK K p).1
 pr:∀K t D,P K->P (prK K t D).1
 er:∀K b,P K->P (erK K b).1
 nt:∀K,P K->P (ntK K)
 st:∀K K',P K->Skn K K'->P K'
structure nu (P:BC->Prop):Prop extends Kpr P where
 ct:∀K hS qu rp md,P K->P { K with hS:=hS,qu:=qu,rp:=rp,md:=md }
 ps:∀K,P K->P { K with cu:=(K.cu+8) % 96,ca:=K.ca+1 }
def cY (P:BC->Prop) (te:FL):Prop:=∀K Z,te K=some Z->P K->P Z.1
def MovG (P:BC->Prop) (mo:Es):Prop:=∀K S Z,mo K S=some Z->P K->P Z.1
section
variable {P:BC->Prop}
theorem jn(C:Kpr P)(K:BC)(t:CD)(D:List Nat)(h:P K):P (prM K t D).1:=by
 unfold prM;split
 ·exact h
 ·exact C.pr K t D h
theorem Ye(C:Kpr P)(H:ED)(K:BC)(p o:Nat)(h:P K):P (frK H K p o).1:=by
 unfold frK;by_cases hs:K.sp=true
 ·rw[AJ hs];exact h
 ·rw[AI hs];dsimp only;have h1:=C.pr (sqK K) ⟨p,o,K.nx,0,false⟩ (H (sqK K) K.nx) (C.st _ _ h (Yd K));generalize prK (sqK K) ⟨p,o,K.nx,0,false⟩ (H (sqK K) K.nx)=x at *
  by_cases c:x.2≠0
  ·rw[AJ c];exact h1
  ·rw[AI c];by_cases d:o=24
   ·rw[AJ d];exact C.nt _ h1
   ·rw[AI d];exact h1
theorem jo(C:Kpr P)(K:BC)(o:Nat)(h:P K):P (coK K o).1:=by
 have h1:=C.rd K (K.L o).toNat h;unfold coK;split
 ·exact h
 ·dsimp only;generalize rdK K (K.L o).toNat=X at *
  split
  ·exact h1
  ·split
   ·exact h1
   ·split <;> exact h1
theorem Yf(C:Kpr P)(bd:Bool):∀(l:List Nat) (K:BC) (S:BW),P K->P (cpK bd l K S).1:=by
 intro l
 induction l with
 | nil=>intro K S h;exact h
 | cons o l ih=>
  intro K S h;unfold cpK;split
  ·exact ih K S h
  ·dsimp only;have h1:=jo C K o h;generalize coK K o=c at *
   have h2:P (tiK c.1 S o).1:=C.st _ _ h1 (QX _ _ _);generalize tiK c.1 S o=t at *
   have h3:=jn C t.1 ⟨t.2.2.1,o,t.1.vs o,(t.1.vc o+1) % 256,c.2.2.1⟩ c.2.1 h2;generalize prM t.1 ⟨t.2.2.1,o,t.1.vs o,(t.1.vc o+1) % 256,c.2.2.1⟩ c.2.1=p at *
   split
   ·exact h1
   ·split
    ·exact h2
    ·split
     ·exact h3
     ·exact ih _ _ h3
theorem Yg(C:Kpr P)(K:BC)(S:BW)(h:P K):P (cbK K S).1:=by
 unfold cbK;dsimp only;have h1:P (tiK K S 24).1:=C.st _ _ h (QX _ _ _);generalize tiK K S 24=t at *
 have h2:=Ye C (bdH S.fm) t.1 t.2.2.1 24 h1;generalize frK (bdH S.fm) t.1 t.2.2.1 24=f at *
 split
 ·exact h1
 ·split
  ·exact h2
  ·exact C.st _ _ h2 (QY _ _ _)
theorem jp(C:Kpr P)(K:BC)(S:BW)(h:P K):P (tyK K S).1:=by
 unfold tyK;dsimp only;have hx:=Yf C (S.fd || (S.rt && bearK K)) ((AB.ofL K.L S.fm).map Int.toNat) K { S with tt:=noF,ld:=[] } h;generalize cpK (S.fd || (S.rt && bearK K)) ((AB.ofL K.L S.fm).map Int.toNat) K { S with tt:=noF,ld:=[] }=x at *
 have he:=C.er x.1 S.fm hx;have hb:=Yg C x.1 x.2.1 hx;generalize erK x.1 S.fm=y at *
 have hc:P (cmK y.1 x.2.1 0).1:=C.st _ _ he (QY _ _ _);have hl:P (lvK y.1 S.fm):=C.st _ _ he (Mi _ _);generalize cmK y.1 x.2.1 0=c at *
 generalize lvK y.1 S.fm=u at *
 have hd:=Yg C u { x.2.1 with fd:=true } hl;generalize cbK u { x.2.1 with fd:=true }=v at *
 generalize cbK x.1 x.2.1=v2 at *
 split
 ·exact h
 ·split
  ·exact hx
  ·split
   ·exact hb
   ·split
    ·exact hc
    ·split
     ·exact he
     ·split
      ·exact hl
      ·exact hd
theorem Yh(C:Kpr P){an:FL}(h:cY P an):cY P (Id an):=by
 intro K Z e hp;unfold Id at e;have h1:P (opK (clK K)).1:=C.st _ _ (C.st _ _ hp (IN _)) (QW _);split at e
 ·cases e;exact hp
 ·split at e
  ·exact h _ _ e hp
  ·split at e
   ·cases e
    exact h1
   ·exact h _ _ e h1
theorem jq(C:Kpr P){te:FL}(h:cY P te):∀n,MovG P (trK te n):=by
 intro n
 induction n with
 | zero=>intro K S Z e;cases e
 | succ n ih=>
  intro K S Z e hp;unfold trK at e;have ht:=jp C K S hp;split at e
  ·cases e;exact hp
  ·dsimp only at e;generalize tyK K S=x at *
   split at e
   ·cases e;exact ht
   ·cases hy:te (spK x.1 (AC.blV x.2.1.tt)) with
    | none=>rw[hy] at e;cases e
    | some y=>
     rw[hy] at e;dsimp only at e;have h1:=h _ _ hy (C.st _ _ ht (Yc _ _));split at e
     ·cases e;exact h1
     ·exact ih _ _ _ e h1
theorem Yi(C:Kpr P){te:FL}(h:cY P te)(n:Nat):MovG P (moK te n):=by
 intro K S Z e hp;unfold moK at e;cases hy:trK te n (if S.fd then lvK K S.fm else K) S with
 | none=>rw[hy] at e;cases e
 | some x=>
  rw[hy] at e;dsimp only at e;have h1:P x.1:=jq C h n _ _ _ hy (by
   split
   ·
    exact C.st _ _ hp (Mi _ _)
   ·
    exact hp)
  split at e
  ·cases e
   exact C.st _ _ (C.st _ _ h1 (Yc _ _)) ⟨rfl,rfl,rfl,rfl,rfl,rfl,rfl,rfl,rfl,rfl,rfl⟩
  ·cases e;exact h1
theorem jr(C:Kpr P){mo:Es}(h:MovG P mo):∀n K o Z,mrK mo n K o=some Z->P K->P Z.1:=by
 intro n
 induction n with
 | zero=>intro K o Z e;cases e
 | succ n ih=>
  intro K o Z e hp;unfold mrK at e;have h0:P (clK K):=C.st _ _ hp (IN _);split at e
  ·cases e;exact hp
  ·dsimp only at e;generalize clK K=K1 at *
   have h1:P (opK K1).1:=C.st _ _ h0 (QW _);split at e
   ·split at e
    ·cases e
     exact h1
    ·exact ih _ _ _ e h1
   ·split at e
    ·cases e
     exact h0
    ·cases hy:mo K1 (nwS (AG.chV 12 12 K1.F (lvF K1)) false false) with
     | none=>rw[hy] at e;cases e
     | some y=>
      rw[hy] at e;dsimp only at e;have h2:=h _ _ _ hy h0;split at e
      ·cases e;exact h2
      ·exact ih _ _ _ e h2
theorem js(C:Kpr P){mr:BC->Nat->Option (BC × Nat)}{mo:Es}(hr:∀K o Z,mr K o=some Z->P K->P Z.1)(h:MovG P mo)(H:ED):∀n K o Z,anK mr mo H n K o=some Z->P K->P Z.1:=by
 intro n
 induction n with
 | zero=>intro K o Z e;cases e
 | succ n ih=>
  intro K o Z e hp;unfold anK at e;split at e
  ·cases e;exact hp
  ·cases hx:mr K o with
   | none=>rw[hx] at e;cases e
   | some x=>
    rw[hx] at e;dsimp only at e;have h1:=hr _ _ _ hx hp;split at e
    ·cases e;exact h1
    ·split at e
     ·cases e;exact h1
     ·have h2:=Ye C H { x.1 with fr:=AC.tkS x.1.fr o } (AC.nxV x.1.fr o).toNat o (C.st _ _ h1 ⟨rfl,rfl,rfl,rfl,rfl,rfl,rfl,rfl,rfl,rfl,rfl⟩);generalize frK H { x.1 with fr:=AC.tkS x.1.fr o } (AC.nxV x.1.fr o).toNat o=f at *
      split at e
      ·cases e
       exact C.st _ _ h2 (JK _ _)
      ·split at e
       ·cases e;exact h2
       ·cases hy:mo f.1 (nwS (AC.blV f.1.fr).toNat false true) with
        | none=>rw[hy] at e;cases e
        | some y=>
         rw[hy] at e;dsimp only at e;have h4:=h _ _ _ hy h2;split at e
         ·cases e;exact h4
         ·exact ih _ _ _ e h4
theorem QZ(C:Kpr P):∀n H K o Z,anR n H K o=some Z->P K->P Z.1:=by
 intro n
 induction n with
 | zero=>intro H K o Z e;cases e
 | succ n ih=>
  intro H K o Z e;have hm:MovG P (moK (Id fun K=>anR n noH K 24) (n+1)):=Yi C (Yh C fun _ _ e=>ih _ _ _ _ e) _;exact js C (mr:=mrK (moK (Id fun K=>anR n noH K 24) (n+1)) (n+1)) (fun K o Z e=>jr C hm _ _ _ _ e) hm H (n+1) K o Z e
theorem cZ(C:Kpr P)(n:Nat):MovG P (movR n):=Yi C (Yh C fun _ _ e=>QZ C n _ _ _ _ e) _
end
section
variable {P:BC->Prop}
theorem Qa(C:nu P)(K:BC)(p:Nat)(h:P K):P (inK K p).1:=by
 have h1:=C.rd K p h;unfold inK;dsimp only;generalize rdK K p=X at *
 split
 ·exact h1
 ·split
  ·exact h1
  ·split <;> exact C.ct _ _ _ _ _ h1
theorem jt(C:nu P)(K:BC)(o:Nat)(h:P K):P (geK K o).1:=by
 have h1:=Qa C K (K.L o).toNat h;unfold geK;split
 ·exact h
 ·dsimp only;generalize inK K (K.L o).toNat=X at *
  split
  ·exact h1
  ·split <;> exact h1
theorem ju(C:nu P)(c:Nat):∀(n i:Nat) (K:BC),P K->P (tdI c n i K).1:=by
 intro n
 induction n with
 | zero=>intro i K h;exact h
 | succ n ih=>
  intro i K h;rw[tdI];split
  ·exact Qa C _ _ h
  ·exact ih _ _ (Qa C _ _ h)
theorem jv(C:nu P){n:Nat}{K:BC}{b:Nat}{Z:BC × Nat}(e:rfK n K b=some Z)(hp:P K):P Z.1:=by
 unfold rfK at e;split at e
 ·cases e;exact hp
 ·cases hy:movR n K (nwS b (AF.much 3 K.hS (b:Nat)) false) with
  | none=>rw[hy] at e;cases e
  | some y=>
   rw[hy] at e;dsimp only at e;have h1:=cZ C.toKpr n _ _ _ hy hp;split at e
   ·cases e;exact h1
   ·cases e;exact C.ct _ y.1.hS y.1.qu _ _ h1
theorem jw(C:nu P)(m:Nat):∀(n:Nat) (K:BC) (Z:BC × Nat),raK m n K=some Z->P K->P Z.1:=by
 intro n
 induction n with
 | zero=>intro K Z e;cases e
 | succ n ih=>
  intro K Z e hp;rw[raK] at e;split at e
  ·cases e;exact hp
  ·split at e
   ·cases e;exact hp
   ·rename_i b r _;cases hy:rfK m { K with qu:=r } b.toNat with
    | none=>rw[hy] at e;cases e
    | some y=>
     rw[hy] at e;dsimp only at e;have h1:=jv C hy (C.ct _ K.hS r K.rp K.md hp);split at e
     ·cases e;exact h1
     ·exact ih _ _ e h1
theorem jx(C:nu P){n m:Nat}{K:BC}{Z:BC × Nat}(e:tdK n m K=some Z)(hp:P K):P Z.1:=by
 unfold tdK at e;have h0:=ju C K.cu 8 0 { K with cu:=(K.cu+8) % 96,ca:=K.ca+1 } (C.ps K hp);generalize tdI K.cu 8 0 { K with cu:=(K.cu+8) % 96,ca:=K.ca+1 }=X at *
 unfold Oc at e;split at e
 ·cases e;exact h0
 ·cases hy:raK n m (awK X.1) with
  | none=>rw[hy] at e;cases e
  | some y=>
   rw[hy] at e;dsimp only at e;have h1:P y.1:=jw C _ _ _ _ hy (C.ct _ X.1.hS _ X.1.rp X.1.md h0);split at e
   ·cases e;exact h1
   ·split at e
    ·cases hz:anR n noH y.1 24 with
     | none=>rw[hz] at e;cases e
     | some z=>
      rw[hz] at e;cases e
      have h9:=QZ C.toKpr _ _ _ _ _ hz h1;exact h9
    ·cases e;exact h1
end
structure mO (Q:BG->Prop):Prop where
 w:∀s a k l,Q s->Q (writeR s a k l).1
 e:∀s b,Q s->Q (eraseR s b).1
 r:∀s a,Q s->Q (readV s a).1
section
variable {Q:BG->Prop}
theorem jy(C:mO Q){s:BG}(h:Q s)(a:Int)(W:Nat->List Nat):∀n,Q (wrN s a W n).1:=by
 intro n
 induction n with
 | zero=>exact h
 | succ n ih=>
  rw[wrN];split
  ·exact C.w _ _ _ _ ih
  ·exact ih
theorem Yj(C:mO Q)(tl:List Nat->Int->Pg){s:BG}(h:Q s)(r a:Int):Q (rdF tl s r a).1:=by
 have:=C.r s a h;unfold rdF;split <;> exact this
theorem mO.kpq(C:mO Q):nu fun K=>Q K.s where
 rd K p h:=by
  have:=Yj C K.tl h K.r p;unfold rdK;dsimp only;generalize rdF K.tl K.s K.r p=X at *
  split <;> exact this
 pr K t D h:=by
  have h1:=jy C h t.p (wordOf D (body t.p t.o t.q t.c t.l)) 4;unfold prK prF;dsimp only;generalize wrN K.s t.p (wordOf D (body t.p t.o t.q t.c t.l)) 4=X at *
  have h2:=Yj C K.tl h1 K.r t.p;generalize rdF K.tl X.1 K.r t.p=Y at *
  split
  ·exact h1
  ·split <;> exact h2
 er K b h:=by
  have:=C.e K.s b h;unfold erK;dsimp only;generalize eraseR K.s b=X at *
  split <;> exact this
 nt _ h:=h
 st K K' h k:=by rw[k.s];exact h
 ct _ _ _ _ _ h:=h
 ps _ h:=h
end
def Dm (d:Nat->Nat) (s:BG):Prop:=Fine s/\∀j,dmg (s.ch j)<=d j
theorem Yk(d:Nat->Nat):mO (Dm d) where
 w s a k l h:=by
  refine⟨(h.1.write a k l).1,fun j=>?_⟩;unfold writeR;split
  ·exact h.2 j
  ·rw[AI (by rw[h.1.on];decide)];split
   ·exact h.2 j
   ·rw[AI (by rw[h.1.lim];simp),AI (by rw[(h.1.failW _).1];decide)];show dmg (if j=4*a.toNat+k.toNat then GE l else s.ch j)<=d j;split
    ·rw[Hf rfl];exact Ac _
    ·exact h.2 j
 e s b h:=by
  refine⟨(h.1.erase b).1,fun j=>?_⟩;unfold eraseR;split
  ·exact h.2 j
  ·rw[AI (by rw[h.1.on];decide),AI (by rw[h.1.lim];simp),AI (by rw[(h.1.failE _).1];decide)];show dmg (if 32*b.toNat<=j/\j<32*b.toNat+32 then Dk else s.ch j)<=d j;split
   ·rw[Hf rfl];exact Ac _
   ·exact h.2 j
 r s a h:=by
  refine⟨(h.1.readV a).1,?_⟩;unfold readV;split
  ·exact h.2
  ·split <;> exact h.2
theorem cd(K0:BC):Kpr (Ps K0) where
 rd K p h:=h.trans (by
  unfold rdK
  dsimp only
  split <;> exact⟨rfl,rfl,rfl,rfl,rfl,rfl⟩)
 pr K t D h:=h.trans (by unfold prK;exact⟨rfl,rfl,rfl,rfl,rfl,rfl⟩)
 er K b h:=h.trans (by
  unfold erK
  dsimp only
  split <;> exact⟨rfl,rfl,rfl,rfl,rfl,rfl⟩)
 nt K h:=h.trans ⟨rfl,rfl,rfl,rfl,rfl,rfl⟩
 st K K' h k:=h.trans ⟨k.cu,k.qu,k.hS,k.rp,k.md,k.tl⟩
section
variable {K:BC}{N:Nat->Int}{V:Nat->Prop}{s s':BG}{b o n:Nat}{G:BV}
def npN (s:BG) (b:Nat):Nat->Nat
 | 0=>0
 | n+1=>npN s b n+(if (s.ch (4*(8*b+n))).is=true then 1 else 0)
theorem Yl(s:BG)(b:Nat):∀n,npN s b n<=n
 | 0=>AM _
 | n+1=>by
  have:=Yl s b n
  rw[npN]
  split <;> omega
def Pgk (s s':BG):Prop:=∀j,(s.ch j).is=true->(s'.ch j).is=true
theorem KU(h:Pgk s s')(b:Nat):∀n,npN s b n<=npN s' b n
 | 0=>AM _
 | n+1=>by
  have:=KU h b n
  rw[npN,npN]
  by_cases e:(s.ch (4*(8*b+n))).is=true
  ·
   rw[AJ e,AJ (h _ e)];omega
  ·
   rw[AI e];omega
theorem RY(h:Pgk s s'){i:Nat}(h0:(s.ch (4*(8*b+i))).is=false)(h1:(s'.ch (4*(8*b+i))).is=true):∀n,i<n->npN s b n+1<=npN s' b n
 | 0,hn=>om
 | n+1,hn=>by
  rw[npN,npN]
  by_cases e:i=n
  ·
   subst e
   have:=KU h b i
   rw[AI (by rw[h0];simp),AJ h1]
   omega
  ·
   have:=RY h h0 h1 n om
   by_cases e:(s.ch (4*(8*b+n))).is=true
   ·
    rw[AJ e,AJ (h _ e)];omega
   ·
    rw[AI e];omega
theorem FU:∀n,(∀i,i<n->(s'.ch (4*(8*b+i))).is=(s.ch (4*(8*b+i))).is)->npN s' b n=npN s b n
 | 0,_=>rfl
 | n+1,h=>by
  rw[npN,npN,FU n (fun i hi=>h i om),h n om]
theorem Pgk.refl(s:BG):Pgk s s:=fun _ h=>h
theorem Pgk.trans{s'':BG}(h:Pgk s s')(k:Pgk s' s''):Pgk s s'':=fun j e=>k j (h j e)
theorem KV(s:BG)(a k:Int)(l:List Nat):Pgk s (writeR s a k l).1/\((writeR s a k l).2=0->(0<=a/\a<96)/\(s.ch (4*a.toNat+k.toNat)).is=false/\((writeR s a k l).1.ch (4*a.toNat+k.toNat)).is=true):=by
 unfold writeR;split
 ·exact⟨Pgk.refl s,fun e=>absurd e (by decide:¬ (1:Nat)=0)⟩
 ·rename_i c1;split
  ·exact⟨Pgk.refl s,fun e=>absurd e (by decide:¬ (7:Nat)=0)⟩
  ·split
   ·exact⟨Pgk.refl s,fun e=>absurd e (by decide:¬ (9:Nat)=0)⟩
   ·rename_i c2;split
    ·exact⟨Pgk.refl s,fun e=>absurd e (by decide:¬ (7:Nat)=0)⟩
    ·split
     ·exact⟨Pgk.refl s,fun e=>absurd e (by decide:¬ (8:Nat)=0)⟩
     ·refine⟨fun j e=>?_,fun _=>⟨om,by simpa using c2,?_⟩⟩
      ·show (if j=4*a.toNat+k.toNat then GE l else s.ch j:Ds).is=true;split
       ·rfl
       ·exact e
      ·show (if 4*a.toNat+k.toNat=4*a.toNat+k.toNat then GE l else s.ch (4*a.toNat+k.toNat):Ds).is=true;rw[AJ rfl];rfl
theorem Qb(s:BG)(a:Int)(W:Nat->List Nat):∀n,Pgk s (wrN s a W n).1
 | 0=>Pgk.refl s
 | n+1=>by
  rw[wrN]
  split
  ·
   exact(Qb s a W n).trans (KV _ _ _ _).1
  ·
   exact Qb s a W n
theorem Ym(s:BG)(a:Int)(W:Nat->List Nat):∀n,1<=n->(wrN s a W n).2=0->(0<=a/\a<96)/\(s.ch (4*a.toNat)).is=false/\((wrN s a W n).1.ch (4*a.toNat)).is=true
 | 0,hn,_=>om
 | n+1,_,h=>by
  rw[wrN] at h ⊢
  by_cases e:(wrN s a W n).2=0
  ·
   rw[AJ e] at h ⊢
   by_cases hn:n=0
   ·
    subst hn
    obtain⟨h1,h2,h3⟩:=(KV (wrN s a W 0).1 a (0:Nat) (W 0)).2 h
    exact⟨h1,h2,h3⟩
   ·
    obtain⟨h1,h2,h3⟩:=Ym s a W n om e
    exact⟨h1,h2,(KV _ _ _ _).1 _ h3⟩
  ·
   rw[AI e] at h
   exact absurd h e
theorem Yn(s:BG)(a:Int):(readV s a).1.ch=s.ch:=by
 unfold readV;split
 ·rfl
 ·split <;> rfl
theorem Yo(tl:List Nat->Int->Pg)(s:BG)(r a:Int):(rdF tl s r a).1.ch=s.ch:=by
 unfold rdF;split <;> exact Yn s a
theorem Hy(R:Nat->Int)(x n b:Nat):CL R (x:Nat) (n:Nat) b<=R b+(if b=x then (n:Int) else 0):=by
 unfold CL;split
 ·rw[AP];unfold upd;split
  ·rename_i e;subst e;omega
  ·omega
 ·split <;> omega
def Rq (N:Nat->Int) (V:Nat->Prop) (K:BC):Prop:=∀b,b<12->¬ V b->K.hR b<=N b+(npN K.s b 8:Nat)
theorem Rq.skn{K':BC}(h:Rq N V K)(k:Skn K K'):Rq N V K':=fun b hb hV=>by rw[k.hR,k.s];exact h b hb hV
theorem Rq.mono{M:Nat->Int}{U:Nat->Prop}(h:Rq N V K)(hN:∀b,N b<=M b)(hV:∀b,V b->U b):Rq M U K:=fun b hb hU=>Int.le_trans (h b hb (fun e=>hU (hV b e))) (Int.add_le_add_right (hN b) _)
theorem db(h:Rq N V K)(p:Nat):Rq (fun b=>N b+(if b=p / 8 then 1 else 0)) V (rdK K p).1:=by
 unfold rdK;dsimp only;have hc:=Yo K.tl K.s K.r p;generalize rdF K.tl K.s K.r p=x at *
 intro b hb hV;have h1:=h b hb hV;have h2:=Hy K.hR (p / 8) 1 b;split
 ·show CL K.hR (p / 8:Nat) 1 b<=N b+(if b=p / 8 then 1 else 0)+(npN x.1 b 8:Nat);rw[FU (s:=K.s) 8 (fun i _=>by rw[hc])];have e:CL K.hR (p / 8:Nat) 1=CL K.hR (p / 8:Nat) ((1:Nat):Int):=rfl;rw[e];split at h2 <;> rename_i c
  ·rw[AJ c];omega
  ·rw[AI c];omega
 ·show K.hR b<=N b+(if b=p / 8 then 1 else 0)+(npN x.1 b 8:Nat);rw[FU (s:=K.s) 8 (fun i _=>by rw[hc])];split <;> omega
theorem jz(h:Rq N V K){p:Nat}(hp:V (p / 8)):Rq N V (rdK K p).1:=fun b hb hV=>by
 have:=db h p b hb hV
 dsimp only at this
 rw[AI (fun e=>hV (by rw[e];exact hp))] at this
 omega
theorem de(h:Rq N V K)(t:CD)(D:List Nat):Rq N V (prK K t D).1:=by
 intro b hb hV;have h1:=h b hb hV;have hk:=Qb K.s t.p (wordOf D (body t.p t.o t.q t.c t.l)) 4;have hw:=Ym K.s t.p (wordOf D (body t.p t.o t.q t.c t.l)) 4 dc;unfold prK prF;dsimp only;generalize wrN K.s t.p (wordOf D (body t.p t.o t.q t.c t.l)) 4=W at *
 have hm:=KU hk b 8;have hc:=Yo K.tl W.1 K.r t.p;have z0:=Hy K.hR (t.p / 8) 0 b;have z1:=Hy K.hR (t.p / 8) 1 b;have e0:(if b=t.p / 8 then ((0:Nat):Int) else 0)=0:=by split <;> rfl
 rw[e0] at z0;generalize rdF K.tl W.1 K.r t.p=R at *
 have hs:npN R.1 b 8=npN W.1 b 8:=FU 8 (fun i _=>by rw[hc]);by_cases c1:W.2≠0
 ·rw[AJ c1];show CL K.hR (t.p / 8:Nat) ((0:Nat):Int) b<=N b+(npN W.1 b 8:Nat);omega
 ·rw[AI c1];by_cases c2:R.2.2.2≠0
  ·rw[AJ c2];show CL K.hR (t.p / 8:Nat) ((0:Nat):Int) b<=N b+(npN R.1 b 8:Nat);omega
  ·rw[AI c2];show CL K.hR (t.p / 8:Nat) ((1:Nat):Int) b<=N b+(npN R.1 b 8:Nat);by_cases e:b=t.p / 8
   ·rw[AJ e] at z1;obtain⟨-,w1,w2⟩:=hw (Decidable.not_not.1 c1);rw[AP] at w1 w2;have ep:4*t.p=4*(8*b+t.p % 8):=om;rw[ep] at w1 w2;have:=RY hk w1 w2 8 om;omega
   ·rw[AI e] at z1;omega
theorem j7(h:Rq N V K)(t:CD)(D:List Nat):Rq N V (prM K t D).1:=by
 unfold prM;split
 ·exact h
 ·exact de h t D
theorem mB(hN:0<=N b)(h:Rq N (fun x=>V x\/x=b) K)(h0:(erK K b).2=0):Rq N V (erK K b).1:=by
 have hch:(eraseR K.s b).2=0->∀j,((eraseR K.s b).1.ch j)=if 32*b<=j/\j<32*b+32 then Dk else K.s.ch j:=by
  unfold eraseR;split
  ·exact fun e=>absurd e (by decide:¬ (1:Nat)=0)
  ·split
   ·exact fun e=>absurd e (by decide:¬ (7:Nat)=0)
   ·split
    ·exact fun e=>absurd e (by decide:¬ (7:Nat)=0)
    ·split
     ·exact fun e=>absurd e (by decide:¬ (8:Nat)=0)
     ·intro _ j;rw[AP];rfl
 unfold erK at h0 ⊢;dsimp only at h0 ⊢;generalize eraseR K.s b=x at *
 by_cases c:x.2=0
 ·rw[AJ c] at h0 ⊢;replace hch:=hch c;intro y hy hV;show upd K.hR b 0 y<=N y+(npN x.1 y 8:Nat);by_cases e:y=b
  ·subst e;rw[Bc];omega
  ·rw[BN _ _ e];have:=h y hy (fun k=>k.elim hV e);rw[FU (s:=K.s) (s':=x.1) 8 (fun i hi=>by rw[hch,AI om])];exact this
 ·rw[AI c] at h0;unfold Fv at h0;dsimp only at h0;split at h0
  ·exact absurd h0 c
  ·cases h0
theorem mC(h:Rq N V K)(hV:V ((K.L o).toNat / 8)):Rq N V (coK K o).1:=by
 have h1:=jz h hV;unfold coK;split
 ·exact h
 ·dsimp only;generalize rdK K (K.L o).toNat=X at *
  split
  ·exact h1
  ·split
   ·exact h1
   ·split <;> exact h1
theorem mD(bd:Bool):∀(l:List Nat) (K:BC) (S:BW),Rq N V K->(∀o ∈ l,V ((K.L o).toNat / 8))->Rq N V (cpK bd l K S).1:=by
 intro l
 induction l with
 | nil=>intro K S h _;exact h
 | cons o l ih=>
  intro K S h hl;have hl':∀x ∈ l,V ((K.L x).toNat / 8):=fun x hx=>hl x (mem_cons_of_mem _ hx);unfold cpK;split
  ·exact ih K S h hl'
  ·dsimp only;have h1:=mC h (hl o (mem_cons_self ..));have k1:=(Vz K o).1;generalize coK K o=c at *
   have h2:=h1.skn (QX c.1 S o);have k2:=(Pn c.1 S o).1;generalize tiK c.1 S o=t at *
   have h3:=j7 h2 ⟨t.2.2.1,o,t.1.vs o,(t.1.vc o+1) % 256,c.2.2.1⟩ c.2.1;have k3:=(V0 t.1 ⟨t.2.2.1,o,t.1.vs o,(t.1.vc o+1) % 256,c.2.2.1⟩ c.2.1).1;generalize prM t.1 ⟨t.2.2.1,o,t.1.vs o,(t.1.vc o+1) % 256,c.2.2.1⟩ c.2.1=p at *
   split
   ·exact h1
   ·split
    ·exact h2
    ·split
     ·exact h3
     ·exact ih _ _ h3 (fun x hx=>by rw[k3,k2,k1];exact hl' x hx)
theorem cg(h:Fine s)(hb:b<12):(eraseR s (b:Nat)).2=0:=by
 unfold eraseR;rw[AI om,AI (by rw[h.on];decide),AI (by rw[h.lim];simp),AI (by rw[(h.failE _).1];decide)]
theorem mE{V:Nat}(hm:AB.Okl K.L)(hfi:Fine K.s)(hV:V<12)(hN:0<=N V)(h:Rq N No K)(h0:(tyK K (nwS V false false)).2.2=0):Rq N No (tyK K (nwS V false false)).1:=by
 rw[da] at h0 ⊢;have e0:(false || (false && bearK K))=false:=by simp
 rw[e0] at h0 ⊢;have hx:=mD (N:=N) (V:=fun x=>False\/x=V) false ((AB.ofL K.L V).map Int.toNat) K { nwS V false false with tt:=noF,ld:=[] } (h.mono (fun _=>Int.le_refl _) (fun _ f=>f.elim)) (fun o ho=>AL ((IG hm V).1 o ho).2.2);have hf:Fine (cpK false ((AB.ofL K.L V).map Int.toNat) K { nwS V false false with tt:=noF,ld:=[] }).1.s:=Yf (mO.kpq (Q:=Fine) ⟨fun s a k l h=>(h.write a k l).1,fun s b h=>(h.erase b).1,fun s a h=>(h.readV a).1⟩).toKpr false _ K _ hfi;generalize cpK false ((AB.ofL K.L V).map Int.toNat) K { nwS V false false with tt:=noF,ld:=[] }=x at *
 by_cases c:x.2.2≠0
 ·rw[AJ c] at h0;exact absurd h0 c
 ·rw[AI c,AI (show ¬ false=true by decide)] at h0 ⊢;unfold bm at h0 ⊢;dsimp only at h0 ⊢;have he:=mB (V:=fun _=>False) hN hx;have e1:=cg hf hV;have hE:(erK x.1 V).2=0:=by unfold erK;dsimp only;rw[AJ e1]
  rw[AJ hE];exact(he hE).skn (QY _ _ _)
structure Ste (P:BC->Prop):Prop where
 sk:∀K K',P K->Skn K K'->K'.L=K.L->P K'
 an:∀H K p o,P K->(frK H K p o).2.2=0->P (layK (frK H K p o).1 (frK H K p o).2.1).1
 ty:∀K V,AB.Okl K.L->Fine K.s->V<12->P K->(tyK K (nwS V false false)).2.2=0->P (tyK K (nwS V false false)).1
theorem rq_fr(H:ED)(K:BC)(p o:Nat)(h:Rq N V K):Rq N V (frK H K p o).1:=by
 unfold frK;by_cases hs:K.sp=true
 ·rw[AJ hs];exact h
 ·rw[AI hs];dsimp only;have h1:=de (h.skn (Yd K)) ⟨p,o,K.nx,0,false⟩ (H (sqK K) K.nx);generalize prK (sqK K) ⟨p,o,K.nx,0,false⟩ (H (sqK K) K.nx)=x at *
  by_cases c:x.2≠0
  ·rw[AJ c];exact h1
  ·rw[AI c];by_cases d:o=24
   ·rw[AJ d];exact h1
   ·rw[AI d];exact h1
theorem j8(hN:∀b,0<=N b):Ste (Rq N fun _=>False):=⟨fun _ _ h k _=>h.skn k,fun H K p o h _=>(rq_fr H K p o h).skn (JK _ _),fun _ _ hm hf hV h h0=>mE hm hf hV (hN _) h h0⟩
theorem cl_L(K:BC):(clK K).L=K.L:=by unfold clK;split <;> rfl
theorem op_L(K:BC):(opK K).1.L=K.L:=by unfold opK;split <;> rfl
theorem j9(h:Sit K G No)(hfi:Fine K.s)(hdd:K.dd=false)(hrm:Rm 0 K)(hT:Told K G)(hnx:K.nx<EC){V:Nat}(hV:V<12)(h0:K.F V≠0)(h3:K.F V≠3)(rt:Bool)(n:Nat) :∃Y S',movR n K (nwS V rt false)=some (Y,S',0)/\tyK K (nwS V rt false)=(Y,S',0)/\Fine Y.s/\(rt=false->B3 (fun b=>K.F b=3) Y.F):=by
 obtain⟨t1,t2,t3⟩:=RS h hfi hdd hrm hT hnx hV h0 h3 rt;obtain⟨Y,S',ht⟩:∃Y S',tyK K (nwS V rt false)=(Y,S',0):=⟨_,_,by rw[<-t1]⟩;rw[ht] at t2 t3;refine⟨Y,S',?_,ht,t2,t3⟩;unfold movR moK;rw[AI (by show ¬ false=true;decide)];have etr:trK (L3 n) (n+1) K (nwS V rt false)=some (Y,S',0):=by
  rw[trK,AI (by show ¬ L2 K (V:Nat)=true;rw[MT hV];simpa using h3)];dsimp only;rw[ht,AJ (show (0:Nat)≠8 by decide)]
 rw[etr];dsimp only;rw[AI (by rintro ⟨_,e⟩;exact absurd e dc)]
theorem OY{mo:Es}(s:Sit K G No)(hf:Fine K.s)(hb:bad3 K.F<=2)(ho:K.fr.o=false)(hfre:5<fre K.F+2*bad3 K.F)(ho25:o<25)(k:Nat):∃Y,mrK mo (k+2) K o=some (Y,0)/\Fine Y.s/\Skn K Y/\Y.L=K.L:=by
 have hnr:¬ AC.rmV K.fr o=true:=fun e=>by
  have:=((D5 _ ho25).1 e).1;rw[ho] at this;cases this
 have hc:clK K=K:=CO ho;have hs:GJ (clK K)=true:=by rw[hc];exact(El hb).2 hfre
 obtain⟨e2,s2,st2,n2,on2,d2,f2,o2,i2,q2,-⟩:=s.opS ho om;refine⟨(opK K).1,?_,by rw[on2];exact hf,QW K,op_L K⟩;rw[mrK,AI hnr];dsimp only;rw[AJ hs,hc,AI (by rw[e2];decide)];rw[mrK,AJ ((D5 _ ho25).2 ⟨o2,om,AL om⟩)]
theorem kC(h:Sit K G No)(hfi:Fine K.s)(hdd:K.dd=false)(hrm:Rm 0 K)(hT:Told K G)(hsq:Sq 0 K)(ho25:o<25)(hn:3<=n)(m:Nat) :∃Y,mrK (movR n) (m+3) K o=some (Y,0)/\Fine Y.s/\∀P,Ste P->P K->P Y:=by
 by_cases hr:AC.rmV K.fr o=true
 ·exact⟨K,(Hc (mo:=movR n) h hfi.on hdd hrm hr (m+2)).1,hfi,fun _ _ hp=>hp⟩
 ·have hb0:bad3 K.F<=2:=by
   have:¬ 2<bad3 K.F:=fun e=>by have:=h.dds.2 e;rw[hdd] at this;cases this
   omega
  obtain⟨s1,st1,n1,on1,d1,f1,o1,q1,-,l1⟩:=h.clS;have hb1:bad3 (clK K).F=bad3 K.F:=by have:=st1.bd;omega
  have fc:Fine (clK K).s:=by rw[on1];exact hfi
  by_cases hs:GJ (clK K)=true
  ·have hs':=(El om).1 hs;obtain⟨Y,eY,fY,kY,lY⟩:=OY (mo:=movR n) s1 fc om o1 hs' ho25 (m+1);refine⟨Y,?_,fY,fun P C hp=>C.sk _ _ hp ((IN K).trans kY) (lY.trans (cl_L K))⟩;have hnr1:¬ AC.rmV (clK K).fr o=true:=fun e=>by
    have:=((D5 _ ho25).1 e).1;rw[o1] at this;cases this
   have hcc:clK (clK K)=clK K:=CO o1;rw[mrK,AI hr];rw[mrK,AI hnr1,hcc] at eY;exact eY
  ·have hs':¬ 5<fre (clK K).F+2*bad3 (clK K).F:=fun e=>hs ((El om).2 e);have hc1:=P0 s1 o1;have hsum:=AD.I4 (clK K).F 12 (fun i hi=>s1.sts i hi);have h7:7<=AD.cnt (clK K).F 2 12:=by
    unfold Rm at hrm;unfold fre bad3 at *
    omega
   obtain⟨v1,v2,v3,v4⟩:=Py s1.wf.map h7;have elv:lvF (clK K)=fun k=>((AB.lvK (clK K).L 96 k:Nat):Int):=rfl;rw[<-elv] at v1 v2 v3 v4;have hTc:Told (clK K) G:=hT.kee q1 rfl;have hrmc:Rm 0 (clK K):=(by unfold Rm at hrm ⊢;omega);obtain⟨Y,S',eY,tY,fY,nY⟩:=j9 s1 fc (d1.trans hdd) hrmc hTc (by unfold Sq EC at *;omega) v2 (by rw[v3];decide) (by rw[v3];decide) false n;obtain⟨Y2,eY2,G2,X2,d2,hY⟩:=(Fl (n:=n) (b:=0) om) (clK K) G (nwS (AG.chV 12 12 (clK K).F (lvF (clK K))) false false) s1 fc.on v2 (by show (clK K).F (AG.chV 12 12 (clK K).F (lvF (clK K)))≠0;rw[v3];decide) (by show (clK K).F (AG.chV 12 12 (clK K).F (lvF (clK K)))≠3;rw[v3];decide) (d1.trans hdd) hrmc (AK hTc) (by unfold Sq at hsq ⊢;omega) (Ac _);have e2:Y2=(Y,S',0):=AR (eY2.symm.trans eY);subst e2;have hM:kK (clK K) Y G G2 (nwS (AG.chV 12 12 (clK K).F (lvF (clK K))) false false) (AG.chV 12 12 (clK K).F (lvF (clK K))) ((AB.ofL (clK K).L (AG.chV 12 12 (clK K).F (lvF (clK K)))).length) d2:=by
    rcases hY with ⟨_,M,_⟩ | ⟨c,_⟩ | ⟨c,_⟩
    ·exact M
    ·exact absurd (show (0:Nat)=14 from c) dc
    ·exact absurd (show (0:Nat)=7 from c) dc
   have hbd:=hM.stp.bd;have hd0:d2=0:=by
    have:=dX (nY rfl);omega
   have eall:∀k,mrK (movR n) (k+1) K o=mrK (movR n) k Y o:=fun k=>by
    rw[mrK,AI hr];dsimp only;rw[AI hs,AI (by rw[v1];decide),eY];dsimp only;rw[AI dc]
   have hP:∀P,Ste P->P K->P Y:=fun P C hp=>by
    have:=C.ty (clK K) (AG.chV 12 12 (clK K).F (lvF (clK K))) s1.wf.map fc v2 (C.sk _ _ hp (IN K) (cl_L K)) (by rw[tY])
    rwa [tY] at this
   rw[eall];by_cases hrY:AC.rmV Y.fr o=true
   ·exact⟨Y,by rw[mrK,AJ hrY],fY,hP⟩
   ·rcases hM.gc hd0 (by rw[v3];decide) with ⟨g1,g2⟩ | ⟨g1,g2⟩
    ·exact absurd ((D5 _ ho25).2 ⟨g1,om,AL om⟩) hrY
    ·have hfo:Y.fr.o=false:=by
      rcases g1 with e | e
      ·rw[e];exact o1
      ·rw[e];rfl
     obtain⟨Z,eZ,fZ,kZ,lZ⟩:=OY (mo:=movR n) hM.sit fY om hfo (by unfold Rm at hrm;omega) ho25 m;exact⟨Z,eZ,fZ,fun P C hp=>C.sk _ _ (hP P C hp) kZ lZ⟩
theorem kD{H:ED}(hH:∀K q,(H K q).length=174/\Bys (H K q))(h:Sit K G No)(hfi:Fine K.s)(hdd:K.dd=false)(hrm:Rm 0 K)(hT:Told K G)(hsq:Sq 1 K)(ho25:o<25)(hn:4<=n) :∃Z,anR (n+1) H K o=some (Z,0)/\Fine Z.s/\Z.dd=false/\∀P,Ste P->P K->P Z:=by
 obtain⟨Y,eY,fY,pY⟩:=kC h hfi hdd hrm hT (by unfold Sq at hsq ⊢;omega) ho25 (n:=n) om (n - 2);rw[show n - 2+3=n+1 by omega] at eY;obtain⟨Y2,eY2,G2,X2,d2,s2,st2,hx⟩:=KE (Fl (n:=n) (b:=0) om) ho25 (n+1) K G h hfi.on hdd hrm (AK hT) (by unfold Sq at hsq ⊢;omega) om (Ac _);have e2:Y2=(Y,0):=AR (eY2.symm.trans eY);subst e2;have hbY:bad3 Y.F=bad3 K.F+d2:=st2.bd;obtain⟨yon,yX,yd,yR,yr,yT,yn⟩:Y.s.on=true/\(∀b,¬ X2 b)/\Y.dd=false/\Rm 0 Y/\AC.rmV Y.fr o=true/\(Told K G->Told Y G2)/\((d2=0/\Y.nx=K.nx)\/Y.nx+1<=K.nx+8*d2):=by
  rcases hx with ⟨_,a⟩ | ⟨c,_⟩ | ⟨c,_⟩
  ·exact a
  ·exact absurd (show (0:Nat)=14 from c) dc
  ·exact absurd (show (0:Nat)=7 from c) dc
 have s2':Sit Y G2 No:=s2.mono (fun b _ y=>absurd y (yX b));have hb2:bad3 Y.F<=2:=by
  have:¬ 2<bad3 Y.F:=fun e=>by have:=s2'.dds.2 e;rw[yd] at this;cases this
  omega
 have hnY:Y.nx<EC:=by
  unfold Sq EC at *
  rcases yn with ⟨_,e⟩ | e <;> omega
 obtain⟨c,K1,s',r',R',fD,fi,-,f5,f6⟩:=MX hH s2' fY ho25 yr hnY;have hl:=QA ho25 fD;refine⟨(FrL K1 o (8*Y.fr.k+Y.fr.i) s' r' R').1,?_,by rw[hl.2.2.1];exact fi,hl.2.2.2.2.2.2.2.1.trans yd,fun P C hp=>?_⟩
 rotate_left
 ·rw[<-f6];exact C.an H _ _ o (C.sk Y { Y with fr:=AC.tkS Y.fr o } (pY P C hp) ⟨rfl,rfl,rfl,rfl,rfl,rfl,rfl,rfl,rfl,rfl,rfl⟩ rfl) f5
 have e:(FrL K1 o (8*Y.fr.k+Y.fr.i) s' r' R')=((FrL K1 o (8*Y.fr.k+Y.fr.i) s' r' R').1,0):=by rw[<-hl.1]
 rw[<-e,<-f6];exact P9 (mr:=mrK (movR n) (n+1)) (mo:=movR n) (by rw[Cn h];exact hdd) h.sp eY c f5
end
section
variable {K:BC}{G:BV}{B m n o c:Nat}{La N:Nat->Int}{V:Nat->Prop}{r:Int}
theorem Sit.cln1{X:Nat->Prop}(h:Sit K G X)(hu:∀j,dmg (K.s.ch j)<=1):ja K:=by
 intro p hp hn;rcases AB.Cy K.L (p:Int) with ⟨o,ho,-,hL,-⟩ | ⟨e,-⟩
 ·obtain⟨l,D,lv⟩:=h.liv o ho (by rw[hL];omega);have ht:=lv.tab;rw[hL,AP] at ht;obtain⟨-,hE⟩:=h.rep.ent p _ D ht;have hd:∀k,k<4->hurt D (body p o (K.vs o) (K.vc o) l) (pgTo K.s p 4) k<=1:=fun k hk=>by
   rw[NQ h.wf.chip hk (h.rep.is p _ D ht k hk).2];exact hu _
  have hm:=ToldR.mends (Dt:=D) (X:=pgTo K.s p 4) (p:=p) (o:=o) (s:=K.vs o) (c:=K.vc o) (l:=l) (g:=K.tl (pgTo K.s p 4) p) hE.len hE.bys hE.may (CW h.wf.chip p 4) (h.wf.tl _ _) (fun k hk=>by have:=hd k hk;omega);obtain⟨-,-,-,-,-,-,hs,-,hg⟩:=hm;refine⟨hs,?_⟩;have h0:=hd 0 om;have h1:=hd 1 om;have h2:=hd 2 om;have h3:=hd 3 om;rw[hg];omega
 ·exact absurd e hn
def lk (b a:Nat):Int:=8*((a / 96:Nat):Int)+((min 8 (a % 96 - 8*b):Nat):Int)
theorem cj(b a:Nat)(hb:b<12):lk b (a+1)=lk b a+(if b=a % 96 / 8 then 1 else 0):=by
 unfold lk;split <;> omega
theorem Yp(b a n:Nat)(hn:n<=192):lk b (a+n)<=lk b a+16:=by
 unfold lk;have h1:a=96*(a / 96)+a % 96:=om
 have h2:a % 96<96:=om
 generalize a / 96=q at *
 generalize a % 96=r at *
 subst h1;have h3:(96*q+r+n) / 96=q\/(96*q+r+n) / 96=q+1\/(96*q+r+n) / 96=q+2:=om
 rcases h3 with e | e | e <;> rw[e] <;> omega
theorem dh(h:Rq N V K)(p:Nat):Rq (fun b=>N b+(if b=p / 8 then 1 else 0)) V (inK K p).1:=by
 have h1:=db h p;unfold inK;dsimp only;generalize rdK K p=X at *
 split
 ·exact h1
 ·split
  ·exact h1
  ·split
   ·exact h1
   ·exact fun b hb hV=>h1 b hb hV
theorem kE(c a:Nat)(hc:c % 96=a % 96):∀(n i:Nat) (N:Nat->Int) (K:BC),Wf K->K.s.on=true->Rq N V K->Rq (fun b=>N b+(lk b (a+i+n) - lk b (a+i))) V (tdI c n i K).1:=by
 intro n
 induction n with
 | zero=>
  intro i N K _ _ h;exact h.mono (fun b=>by show N b<=N b+(lk b (a+i) - lk b (a+i));omega) (fun _ e=>e)
 | succ n ih=>
  intro i N K wf on h;obtain⟨e,on',-,wf',-⟩:=JI wf (p:=(c+i) % 96) om on;have h1:=dh h ((c+i) % 96);rw[tdI,AI (by rw[e];simp)];refine fun b hb hV=>Int.le_trans (ih (i+1) _ _ wf' on' h1 b hb hV) ?_;have h2:=cj b (a+i) hb;rw[show (a+i) % 96=(c+i) % 96 by omega] at h2;dsimp only;rw[show a+(i+1)=a+i+1 by omega,show a+i+1+n=a+i+(n+1) by omega];generalize (if b=(c+i) % 96 / 8 then (1:Int) else 0)=z at *
  generalize lk b (a+i+(n+1))=x at *
  generalize lk b (a+i+1)=y at *
  omega
theorem di:∀(n:Nat) (K Y:BC),raK m n K=some (Y,0)->Y.qu=[]:=by
 intro n
 induction n with
 | zero=>intro K Y e;cases e
 | succ n ih=>
  intro K Y e;rw[raK] at e;split at e
  ·cases e
  ·split at e
   ·rename_i hq;cases e
    exact hq
   ·rename_i b r _;cases hy:rfK m { K with qu:=r } b.toNat with
    | none=>rw[hy] at e;cases e
    | some y=>
     rw[hy] at e;dsimp only at e;split at e
     ·rename_i c;cases e
      exact absurd rfl c
     ·exact ih _ _ e
theorem Yq{H:ED}{Z:BC × Nat}(e:anR n H K o=some Z):Ps K Z.1:=QZ (cd K) _ _ _ _ _ e (Ps.refl K)
theorem KW(hn:4<=n)(hm:13<=m)(h:Ivk K G)(hw:Wsd K.s)(hdd:K.dd=false)(hsq:Sq 1 K) :∃X Y Z,tdI K.cu 8 0 { K with cu:=(K.cu+8) % 96,ca:=K.ca+1 }=(X,0)/\raK (n+1) m (awK X)=some (Y,0)/\tdK (n+1) m K=some (Z,0)/\Wf X/\Eqv { K with cu:=(K.cu+8) % 96,ca:=K.ca+1 } X /\(∃G4,Sit Y G4 No/\Fine Y.s/\Y.dd=false/\Rm 0 Y/\Told Y G4/\Sq 1 Y)/\(Z=Y\/(anR (n+1) noH Y 24=some (Z,0)/\∀P,Ste P->P Y->P Z)):=by
 obtain⟨on,X,hs,hd⟩:=h;have s1:=hs.pstep;obtain⟨e2,on2,a2,w2,t2,r2⟩:=KF K.cu 8 0 { K with cu:=(K.cu+8) % 96,ca:=K.ca+1 } s1.wf on;have f2:Wsd (tdI K.cu 8 0 { K with cu:=(K.cu+8) % 96,ca:=K.ca+1 }).1.s:=QL K.cu 8 0 { K with cu:=(K.cu+8) % 96,ca:=K.ca+1 } hw;unfold tdK;generalize tdI K.cu 8 0 { K with cu:=(K.cu+8) % 96,ca:=K.ca+1 }=Y at *
 have s2:=s1.eqv a2 w2;have s3:=s2.eqv (MU Y.1) (XF w2);have eF:(awK Y.1).F=K.F:=a2.F;have eD:(awK Y.1).dd=false:=a2.dd.trans hdd;have eN:(awK Y.1).nx=K.nx:=a2.nx;have f3:Fine (awK Y.1).s:=f2.1;unfold Oc;rw[AI (by rw[e2];simp)];obtain⟨hX,hrm,hT⟩:=hd hdd;have s4:Sit (awK Y.1) G No:=s3.mono (fun b _ e=>absurd e (hX b));have hrm3:Rm 0 (awK Y.1):=by unfold Rm at hrm ⊢;rw[eF];exact hrm
 have hT3:Told (awK Y.1) G:=fun b hb e=>hT b hb (by rw[<-eF];exact e);have hl:=s4.wf.qu.len;have hsq3:Sq 0 (awK Y.1):=by unfold Sq at hsq ⊢;rw[eF,eN];omega
 obtain⟨y,ey,G4,X4,d4,s5,st5,hy⟩:=MV (n:=n+1) om m (awK Y.1) G s4 f3.on (fun _=>⟨hrm3,hT3⟩) hsq3 om;obtain⟨Y4,eY4,f4⟩:=Xi (n:=n+1) om m (awK Y.1) G s4 f3 eD hrm3 hT3 hsq3 om;have e4:y=(Y4,0):=AR (ey.symm.trans eY4);subst e4;rw[ey];dsimp only;rw[AI (by simp)];have hbd:bad3 Y4.F=bad3 (awK Y.1).F+d4:=st5.bd;rcases hy with ⟨-,yon,yX,ydd,yrm,yT,ynx⟩ | ⟨c,_⟩ | ⟨c,_⟩
 ·have s7:Sit Y4 G4 No:=s5.mono (fun b _ e=>absurd e (yX b));have ynx':Y4.nx<=(awK Y.1).nx+8*d4:=ynx;have hsq7:Sq 1 Y4:=by unfold Sq at hsq ⊢;rw[eF] at hbd;rw[eN] at ynx';omega
  have eY:Y=(Y.1,0):=by rw[<-e2]
  by_cases hdue:8<=Y4.ca\/AF.Tk Y4.hR Y4.hN=true
  ·rw[AJ hdue];obtain⟨Z,eZ,-,dZ,pZ⟩:=kD (H:=noH) (fun _ _=>⟨AA.CX _,AA.D3 _⟩) s7 f4 ydd yrm yT hsq7 (o:=24) dc (n:=n) hn;refine⟨Y.1,Y4,Z,eY,ey,by rw[eZ];rfl,w2,a2,⟨G4,s7,f4,ydd,yrm,yT,hsq7⟩,AL ⟨eZ,pZ⟩⟩
  ·rw[AI hdue];exact⟨Y.1,Y4,Y4,eY,ey,rfl,w2,a2,⟨G4,s7,f4,ydd,yrm,yT,hsq7⟩,AK rfl⟩
 ·exact absurd (show (0:Nat)=14 from c) dc
 ·exact absurd (show (0:Nat)=7 from c) dc
theorem Ii(h:Fnv B K G La)(hB:B<1073741824):∃Z G',tdK 6 13 K=some (Z,0)/\Fnv (B+1) Z G' La/\Z.qu=[]:=by
 obtain⟨Z,G',e,hZ⟩:=OJ h hB;obtain⟨X,Y,Z2,e1,e2,e3,-,-,-,hz⟩:=KW (n:=5) (m:=13) dc dc h.iv.iv h.wd h.dd (h.iv.sq hB);obtain rfl:Z=Z2:=(Prod.mk.inj (AR (e.symm.trans e3))).1;refine⟨Z,G',e,hZ,?_⟩;rcases hz with rfl | ⟨ea,-⟩
 ·exact di _ _ _ e2
 ·rw[(Yq ea).qu];exact di _ _ _ e2
structure kG (N:Nat->Int) (r:Int) (c B:Nat) (K:BC) (G:BV) (La:Nat->Int):Prop where
 fn:Fnv B K G La
 d1:Dm (fun _=>1) K.s
 qu:K.qu=[]
 rp:K.rp=r
 cu:K.cu=c % 96
 rq:Rq N No K
theorem mF(h:Fnv B K G La)(d:Dm (fun _=>1) K.s){p:Nat}(hp:p<96):(inK K p).2.2=0/\Qt K (inK K p).1:=OK h.sit.1.wf hp h.wd.1.on (h.sit.1.cln1 d.2)
theorem kG.get(h:kG N r c B K G La)(hB:B<1073741824)(ho:o<24) :∃K',geK K o=(K',FT (La o),0)/\kG (fun b=>N b+1) r c (B+1) K' G La:=by
 obtain⟨K',e,f⟩:=Mb h.fn hB ho;refine⟨K',e,?_⟩;have hd:=jt (Yk (fun _=>1)).kpq K o h.d1;rw[e] at hd;by_cases hL:K.L o = -1
 ·unfold geK at e;rw[AJ hL] at e;obtain rfl:K=K':=(Prod.mk.inj e).1;exact⟨f,hd,h.qu,h.rp,h.cu,h.rq.mono (fun b=>om) (fun _ e=>e)⟩
 ·obtain⟨hp,-⟩:=h.fn.sit.1.wf.lt (by omega:o<25) hL;obtain⟨-,q⟩:=mF h.fn h.d1 hp;have hr:=dh h.rq (K.L o).toNat;unfold geK at e;rw[AI hL] at e;dsimp only at e;generalize inK K (K.L o).toNat=X at *
  have eK:X.1=K':=by
   split at e
   ·exact(Prod.mk.inj e).1
   ·split at e <;> exact(Prod.mk.inj e).1
  subst eK;refine⟨f,hd,q.qu.trans h.qu,q.rp.trans h.rp,q.eqv.cu.trans h.cu,hr.mono (fun b=>?_) (fun _ e=>e)⟩;split <;> omega
theorem kG.tend(h:kG N r c B K G La)(hB:B<1073741824)(hN:∀b,b<12->0<=N b/\N b+(lk b (c+8) - lk b c)+8<512) :∃Z G',tdK 6 13 K=some (Z,0)/\kG (fun b=>N b+(lk b (c+8) - lk b c)) r (c+8) (B+1) Z G' La:=by
 obtain⟨Z,G',e,hZ,hq⟩:=Ii h.fn hB;obtain⟨X,Y,Z2,e1,e2,e3,wX,aX,⟨G4,s4,f4,d4,m4,t4,q4⟩,hz⟩:=KW (n:=5) (m:=13) dc dc h.fn.iv.iv h.fn.wd h.fn.dd (h.fn.iv.sq hB);obtain rfl:Z=Z2:=(Prod.mk.inj (AR (e.symm.trans e3))).1;have hwf:=h.fn.sit.1.wf;have hcl:ja { K with cu:=(K.cu+8) % 96,ca:=K.ca+1 }:=h.fn.sit.1.cln1 h.d1.2;have q1:=Ta K.cu 8 0 { K with cu:=(K.cu+8) % 96,ca:=K.ca+1 } (hwf.pat' om _) h.fn.wd.1.on hcl;have r1:=kE K.cu c (by have:=h.cu;omega) 8 0 N { K with cu:=(K.cu+8) % 96,ca:=K.ca+1 } (hwf.pat' om _) h.fn.wd.1.on (show Rq N _ { K with cu:=(K.cu+8) % 96,ca:=K.ca+1 } from h.rq);rw[e1] at q1 r1;dsimp only at q1 r1;have hlt:∀b,b<12->X.hR b<512:=fun b hb=>by
  have h1:=r1 b hb (fun f=>f);have h2:=Yl X.s b 8;have h3:=(hN b hb).2;dsimp only at h1;rw[show c+0+8=c+8 by omega,show c+0=c by omega] at h1;omega
 have haw:awK X=X:=by
  unfold awK;rw[YH hlt 12 0 _ rfl]
 have hw:Cz X=false:=by
  have:=Cn h.fn.sit.1;rw[h.fn.dd] at this;unfold Cz at this ⊢;rw[q1.eqv.F,q1.eqv.dd];exact this
 have eY:Y=X:=by
  rw[haw,raK,AI (by rw[hw];simp),q1.qu,h.qu] at e2;cases e2
  rfl
 subst eY;have hr2:Rq (fun b=>N b+(lk b (c+8) - lk b c)) No Y:=r1;have hcu:Y.cu=(c+8) % 96:=by
  rw[q1.eqv.cu];show (K.cu+8) % 96=_;rw[h.cu];omega
 refine⟨Z,G',e,hZ,jx (Yk (fun _=>1)).kpq e h.d1,hq,?_,?_,?_⟩
 ·rcases hz with rfl | ⟨ea,-⟩
  ·exact q1.rp.trans h.rp
  ·exact((Yq ea).rp.trans q1.rp).trans h.rp
 ·rcases hz with rfl | ⟨ea,-⟩
  ·exact hcu
  ·exact(Yq ea).cu.trans hcu
 ·rcases hz with rfl | ⟨-,pa⟩
  ·exact hr2
  ·have hN2:Ste (Rq (fun b=>if b<12 then N b+(lk b (c+8) - lk b c) else 0) fun _=>False):=j8 fun b=>by
    split
    ·rename_i hb;have:=(hN b hb).1;have:lk b c<=lk b (c+8):=by unfold lk;omega
     omega
    ·omega
   have h9:=pa _ hN2 (fun b hb hV=>by dsimp only;rw[AJ hb];exact hr2 b hb hV);intro b hb hV;have:=h9 b hb hV;dsimp only at this
   rwa [AJ hb] at this
end
section
variable {B a k:Nat}{La:Nat->Int}{K:BC}{G:BV}
def mG (B:Nat) (La:Nat->Int) (K:BC):Prop:=∃G,Fnv B K G La/\Un K.s/\K.qu=[]
theorem Mj{Y:BC}(h:Fnv (B+1) Y G La)(u:Un Y.s)(hB:B+1<1073741824):cW Y (mG (B+2) La):=by
 obtain⟨Z,G',e,f,q⟩:=Ii h hB;exact⟨by have:=h.iv.ca;omega,Z,e,G',f,jY e u,q⟩
theorem ck:mA mG where
 put B La K h hB o ho x:=by
  obtain⟨G,f,u,-⟩:=h;obtain⟨Y,G',e,f2⟩:=bx f om ho x;exact⟨Y,e,Mj f2 (KN _ _ _ _ _ e u) hB⟩
 trim B La K h hB o ho:=by
  obtain⟨G,f,u,-⟩:=h;obtain⟨Y,G',e,f2⟩:=YD f om ho;exact⟨Y,e,Mj f2 (jT e u) hB⟩
 get B La K h hB o ho:=by
  obtain⟨G,f,u,-⟩:=h;obtain⟨Y,e,f2⟩:=Mb f om ho;have hu:=jU K o u;rw[e] at hu;exact⟨Y,e,Mj f2 hu hB⟩
theorem co(K:BC)(G:BV)(hB:Bgn K G)(hL:Lit 1 K G):mG 0 (fun _=>0) K:=⟨G,hB.fin hL.un,hL.un,hL.qu⟩
theorem OZ(ha:a<96):∀(n:Nat) {K:BC} {s':BG},Flps a k n K.s s'->Fnv B K G La->dmg (K.s.ch (4*a+k))+n<=2 ->Fnv B { K with s:=s' } G La/\∀j,dmg (s'.ch j)<=dmg (K.s.ch j)+(if j=4*a+k then n else 0)
 | 0,K,s',h,f,_=>by
  have e:s'=K.s:=h
  subst e
  exact⟨f,fun j=>by split <;> omega⟩
 | n+1,K,s',h,f,hd=>by
  obtain⟨s1,h1,h2⟩:=h
  obtain⟨f1,d1⟩:=OZ ha n h1 f om
  rcases h2 with rfl | ⟨b,hb,hk,rfl⟩
  ·
   refine⟨f1,fun j=>?_⟩
   have h4:=d1 j
   by_cases c:j=4*a+k
   ·
    rw[AJ c] at h4 ⊢;omega
   ·
    rw[AI c] at h4 ⊢;omega
  ·
   have e4:4*a+b / 512=4*a+k:=by rw[hk]
   have hdd:dmg (s1.ch (4*a+b / 512))<2:=by
    have:=d1 (4*a+k);rw[AJ rfl] at this;rw[e4];omega
   obtain⟨hs,hr,ht⟩:=f1.sit;have hs2:=hs.flp (YG hs.wf.chip ha hb) hdd;have l:=f1.iv;refine⟨⟨⟨⟨l.iv.on,_,hs2,fun _=>⟨fun _=>id,hr,ht⟩⟩,l.pw,l.l24,l.a,l.z,l.nx,l.ca,l.rd,l.c8⟩,bz f1.wd a b,f1.dd⟩,fun j=>?_⟩;have h3:=RT s1 a b j;have h4:=d1 j;rw[e4] at h3;by_cases c:j=4*a+k
   ·rw[AJ c] at h3 h4 ⊢;omega
   ·rw[AI c] at h3 h4 ⊢;omega
def Y0 (B:Nat) (La:Nat->Int) (j:Nat) (K:BC):Prop:=∃G,Fnv B K G La/\K.qu=[]/\∀c,dmg (K.s.ch c)<=if c<j then 1 else 0
theorem mG.pdm(h:mG B La K):Y0 B La 0 K:=by
 obtain⟨G,f,u,q⟩:=h;exact⟨G,f,q,fun c=>by rw[YI (u.2 c)];exact Ac _⟩
theorem Y0.next(ha:a<96){s':BG}(h:Y0 B La (4*a+k) K)(e:Flps a k 1 K.s s'):Y0 B La (4*a+k+1) { K with s:=s' }:=by
 obtain⟨G,f,q,d⟩:=h;have h0:=d (4*a+k);rw[AI (Nat.lt_irrefl _)] at h0;obtain⟨f2,d2⟩:=OZ ha 1 e f om;refine⟨G,f2,q,fun c=>?_⟩;have h1:=d2 c;have h2:=d c;show dmg (s'.ch c)<=_;by_cases c1:c<4*a+k
 ·rw[AJ c1] at h2;rw[AI om] at h1;rw[AJ om];omega
 ·rw[AI c1] at h2;by_cases c2:c=4*a+k
  ·rw[AJ c2] at h1;rw[AJ om];omega
  ·rw[AI c2] at h1;rw[AI om];omega
def kH (B:Nat) (La:Nat->Int) (q:Bool) (r:Int) (i:Nat) (K:BC):Prop:=∃G,Fnv (B+2*i) K G La/\(q=true->∃(c:Nat) (H:Nat->Int),(∀b,b<12->H b<362/\0<=H b)/\kG (fun b=>H b+i+(lk b (c+8*i) - lk b c)) r (c+8*i) (B+2*i) K G La)
theorem kH.get{q:Bool}{r:Int}{i:Nat}(hi:i<24)(hB:B+50<1073741824)(h:kH B La q r i K):∃Y,geK K i=(Y,FT (La i),0)/\cW Y (kH B La q r (i+1)):=by
 obtain⟨G,f,hc⟩:=h;obtain⟨Y,e,f2⟩:=Mb f om hi;obtain⟨Z,G',e3,f3⟩:=OJ f2 om;refine⟨Y,e,by have:=f2.iv.ca;omega,Z,e3,?_⟩;cases q
 ·exact⟨G',f3,fun e=>by cases e⟩
 ·obtain⟨c,H,hH,hC⟩:=hc rfl;obtain⟨Y2,e4,hC2⟩:=hC.get om hi;obtain rfl:Y=Y2:=(Prod.mk.inj (e.symm.trans e4)).1;obtain⟨Z2,G2,e5,hC3⟩:=hC2.tend om (fun b hb=>by
   obtain⟨h1,h2⟩:=hH b hb
   have h3:=Yp b c (8*i+8) om
   have h4:lk b c<=lk b (c+8*i):=by unfold lk;omega
   rw[<-Nat.add_assoc] at h3
   omega)
  obtain rfl:Z=Z2:=(Prod.mk.inj (AR (e3.symm.trans e5))).1;refine⟨G2,hC3.fn,fun _=>⟨c,H,hH,?_⟩⟩;have e8:c+8*(i+1)=c+8*i+8:=om
  rw[e8];refine⟨hC3.fn,hC3.d1,hC3.qu,hC3.rp,hC3.cu,hC3.rq.mono (fun b=>?_) (fun _ e=>e)⟩
  push_cast;omega
end
set_option linter.unusedSimpArgs false
structure mP (Q:BC->Prop) (w wr:Wd) (D:Nat) (A:Ad) (La:Nat->Int) (n:Nat):Prop where
 lw:Lw A D n
 d:Hh Q wr D A
 i:IB wr n 30 24 La
 t:Chg (Cor A) w wr
theorem Ti(Q:Nat->BC->Prop)(D:Nat)(A:Ad)(La:Nat->Int)(w:Wd)(h:Hh (Q 0) w D A)(hQ:∀i,i<24->∀K,Q i K->∃Y,geK K i=(Y,FT (La i),0)/\cW Y (Q (i+1))) :Calls prog 28 #[.pointer (some ⟨D,0,none⟩),.agg (ints La 24).toArray] w fun e w'=>e=.returned (.bool true)/\Hh (Q 24) w' D A/\Chg (Cor A) w w':=by
 have qn:=BO;have g1:Chg No w (w.alloc (.cells (ints La 24).toArray 30)):=(Chg.refl _ w).alloc _;have HS0:Hid (mP (Q 0) w (w.alloc (.cells (ints La 24).toArray 30)) D A La w.heap.size):=⟨Fm.lw (P:=fun _ _=>Q 0) (B:=0) (La:=La) h,h.chg0 g1,IB.new w 30 24 La,g1.mono (fun _ _ f=>f.elim)⟩;have HQ:=BB hQ;clear h g1 hQ;go_enter func28,ntmps28;go_wp2_with fail;generalize w.alloc (.cells (ints La 24).toArray 30)=w1 at *
 obtain⟨n,hn⟩:∃n,w.heap.size=n:=⟨_,rfl⟩;rw[hn] at HS0 ⊢
 go_loopw [5] (fun t5 wr=>∃i:Nat,i<=24/\t5=.int .i64 i/\mP (Q i) w wr D A La n) (fun t5 _=>24 - (intOf t5).toNat)
 case atStart=>exact⟨0,om,rfl,HS0.out⟩
 case round=>
  clear HS0;obtain⟨i,hi,rfl,hS⟩:=hrel;by_cases hlt:i<24
  ·have hl1:(i:Int)<24:=om;have hl0:(0:Int)<=(i:Int):=om;have hrd:=OV (R:=Q (i+1)) D A wr hS.d i hlt (La i) (HQ.out i hlt);have HS:=BB hS;clear hS;go_wp2_with fail;refine hrd.mono ?_;rintro x w3 ⟨gv,cv,rfl,hgv,hAt,hD3,G3⟩;have hnn:¬ Cor A n:=fun e=>by have:=HS.out.lw n (AK (AK e));omega
   have hI3:=HS.out.i.chg G3 hnn;have HS3:Hid (mP (Q (i+1)) w w3 D A La n):=⟨HS.out.lw,hD3,hI3,HS.out.t.trans G3⟩;obtain⟨c0,-⟩:=hI3.cell i hlt;have HAT:=BB hAt;have hlen:=CM (La i);have hbys:=Hd (La i);have HLEN:=BB hlen;have HBYS:=BB hbys;generalize La i=y at *
   clear hrd hgv hAt hD3 G3 hnn hI3 HS hlen hbys;go_wp2_with fail;refine(He y w3).mono ?_;rintro x w4 ⟨rfl,hA4,G4⟩;have hsm:=XY w4 gv 0 160 cv w3.heap.size 0 160 160 (FT y) (FT y) HLEN.out.symm HLEN.out.symm HBYS.out HBYS.out (HAT.out.chg G4 (fun f=>f)) hA4.at_;rw[AO rfl] at hsm;have HS4:Hid (mP (Q (i+1)) w w4 D A La n):=⟨HS3.out.lw,HS3.out.d.chg0 G4,HS3.out.i.chg G4 (fun f=>f),HS3.out.t.trans (G4.mono (fun _ _ f=>f.elim))⟩;clear hA4 G4 c0 HAT HS3;go_wp2_with fail;refine hsm.mono ?_;rintro x w5 ⟨rfl,rfl⟩;go_wp2;exact⟨⟨i+1,om,by go_num,HS4.out⟩,by simp[intOf];omega⟩
  ·have hl1:¬ (i:Int)<24:=om;have e24:i=24:=om;subst e24;have HS:=BB hS;clear hS;go_wp2;go_ret;exact⟨rfl,HS.out.d,HS.out.t⟩
theorem Yr(F:Nat->Int)(w:Wd) :Calls prog 30 #[.agg (ints F 67).toArray] w fun e w'=>∃q:Bool,e=.returned (.bool q)/\(q=true->∀b,b<12->F (40+b)<362)/\Chg No w w':=by
 have g1:Chg No w (w.alloc (.cells (ints F 67).toArray 40)):=(Chg.refl _ w).alloc _;have HI:Hid (IB (w.alloc (.cells (ints F 67).toArray 40)) w.heap.size 40 67 F):=IB.new w 40 67 F;have HG:=BB g1;clear g1;go_enter func30,ntmps30;go_wp2_with fail;generalize w.alloc (.cells (ints F 67).toArray 40)=w1 at *
 generalize w.heap.size=n at *
 go_loopw [3] (fun t3 wr=>∃i:Nat,i<=12/\t3=.int .i64 i/\Hid (∀b,b<i->F (40+b)<362)/\w1=wr) (fun t3 _=>12 - (intOf t3).toNat)
 case atStart=>exact⟨0,om,rfl,fun b hb=>om,rfl⟩
 case round=>
  obtain⟨i,hi,rfl,HL,rfl⟩:=hrel;by_cases hlt:i<12
  ·have hl1:(i:Int)<12:=om;have hl0:(0:Int)<=(i:Int):=om;obtain⟨c0,-⟩:=HI.out.cell (40+i) om;have HV:Hid (∀v:Int,F (40+i)=v->v<362->∀b,b<i+1->F (40+b)<362):=fun v e hv b hb=>by
    by_cases e2:b=i
    ·rw[e2,e];exact hv
    ·exact HL.out b om
   obtain⟨v,hv⟩:∃v,F (40+i)=v:=⟨_,rfl⟩;rw[hv] at c0;have HV2:=HV.out v hv;have HW:=BB HV2;clear HV HV2 HL hv;by_cases hc:v<362
   ·go_wp2;exact⟨⟨i+1,om,by go_num,HW.out hc,trivial⟩,by simp[intOf];omega⟩
   ·go_wp2;go_ret;exact AK ⟨rfl,HG.out⟩
  ·have hl1:¬ (i:Int)<12:=om;obtain rfl:i=12:=om
   go_wp2;go_ret;exact AL ⟨rfl,HL.out,HG.out⟩
section
variable {Q:BC->Prop}{w w' wr:Wd}{D n:Nat}{A:Ad}{La:Nat->Int}{S:Nat->Prop}
set_option linter.unusedSimpArgs false
structure Qc (w wr:Wd) (D:Nat) (A:Ad) (Q:BC->Prop) (La:Nat->Int) (n:Nat):Prop where
 d:Hh Q wr D A
 i:IB wr n 30 24 La
 t:Chg No w wr
theorem Hh.far(h:Hh Q w D A)(l:Lw A D n)(hS:∀k,S k->n<=k)(hc:Chg S w w'):Hh Q w' D A:=Fm.far (P:=fun _ _=>Q) (B:=0) (La:=fun _=>0) h l hS hc
theorem Qc.cor{R:BC->Prop}(h:Qc w wr D A Q La n)(lo:∀x,(Cor A x\/x=A.p\/x=A.q)\/x=D->w.heap.size<=x)(lw:Lw A D n)(hd:Hh R w' D A)(hc:Chg (Cor A) wr w'):Qc w w' D A R La n:=
 ⟨hd,h.i.chg hc (fun e=>by have:=lw n (AK (AK e));omega),h.t.trans' hc (fun k hk e=>by have:=lo k (AK (AK e));omega)⟩
theorem Qc.far(h:Qc w wr D A Q La n)(lw:Lw A D n)(hw:w.heap.size<=n)(hS:∀k,S k->n<k)(hc:Chg S wr w'):Qc w w' D A Q La n:=
 ⟨h.d.far lw (fun k e=>by have:=hS k e;omega) hc,h.i.chg hc (fun e=>by have:=hS n e;omega),h.t.trans' hc (fun k hk e=>by have:=hS k e;omega)⟩
theorem Qc.chg0(h:Qc w wr D A Q La n)(hc:Chg No wr w'):Qc w w' D A Q La n:=
 ⟨h.d.chg0 hc,h.i.chg hc (fun f=>f),h.t.trans hc⟩
theorem mH(K:BC)(b:Nat)(hb:b<12):vwF K (40+b)=K.hR b:=by
 unfold vwF;rw[AI om,AI om,AI om,AI om,AI om,AJ om];congr 1;omega
theorem dj(K:BC):vwF K 64=K.rp:=rfl
theorem Y0.psh{B:Nat}{K:BC}(h:Y0 B La 384 K){q:Bool}(hq:q=true->∀b,b<12->vwF K (40+b)<362):kH B La q K.rp 0 K:=by
 obtain⟨G,f,hqu,d⟩:=h;refine⟨G,f,fun e=>⟨K.cu,K.hR,fun b hb=>⟨?_,?_⟩,f,⟨f.wd.1,fun j=>?_⟩,hqu,rfl,?_,fun b hb _=>?_⟩⟩
 ·have:=hq e b hb
  rwa [mH K b hb] at this
 ·exact((f.sit.1.wf.hea b hb).1).1
 ·have:=d j;split at this <;> omega
 ·have:=f.sit.1.wf.cu;omega
 ·show K.hR b<=K.hR b+((0:Nat):Int)+(lk b (K.cu+8*0) - lk b K.cu)+_;rw[show K.cu+8*0=K.cu by omega];omega
theorem Ys(a:Option Addr)(len cap:Nat)(O:Nat->Tl)(raw:Int)(w:Wd)(hO:IsOps w a len O)(hlen:len<=1048576) :Calls prog 7 #[.slice a len cap,.int .i64 raw] w fun e w'=>e=.returned (.bool true)/\Below w.heap.size w w':=by
 have p1:=RW;have qe:=ji;have hbg:=YZ ck co a len cap O w hO hlen;clear hO;have HB:Hid (2*len+50<1073741824):=by show _<_;omega
 go_enter func7,ntmps7;go_wp2_with fail;refine hbg.mono ?_;rintro e w1 ⟨D,A,La,rfl,hlo,hd,G1⟩;have HLO:=BB hlo;have HLW:=BB (Fm.lw hd);have HS1:=BB G1.size;have HD1:=BB (Hh.mono hd (fun K hK=>hK.pdm));have HG1:=BB G1;have HR1:=BB (IB.new w1 30 24 (fun _=>0));have g2:Chg No w1 (w1.alloc (.cells (ints (fun _=>0) 24).toArray 30)):=(Chg.refl _ w1).alloc _;have HG2:=BB (HG1.out.trans g2);have HD2:=BB (HD1.out.chg0 g2);clear hbg hlo hd G1 g2;generalize 2*len=B at *
 go_wp2_with (first | refine Bw rfl rfl ?_ | refine By rfl (.tmp 7) (.tmp 21) rfl w1.heap.size rfl rfl HR1.out ?_);intro w3 I3 G3;have HST:Hid (Qc w w3 D A (Y0 B La 0) La w1.heap.size):=⟨HD2.out.far HLW.out (fun k e=>om) G3,I3,HG2.out.trans' G3 (fun k hk e=>by have:=HS1.out;omega)⟩;clear I3 G3 HG1 HG2 HD1 HD2 HR1;generalize w1.heap.size=n at *
 go_wp2_with fail
 go_loopw [8] (fun t8 wr=>∃x:Nat,x<=96/\t8=.int .i64 x/\Hid (Qc w wr D A (Y0 B La (4*x)) La n)) (fun t8 _=>96 - (intOf t8).toNat)
 case atStart=>exact⟨0,om,rfl,HST.out⟩
 case round=>
  clear HST;obtain⟨x,hx,rfl,HS⟩:=hrel;by_cases hlt:x<96
  ·have hl1:(x:Int)<96:=om;go_wp2_with fail
   go_loopw [9] (fun t9 wr2=>∃k:Nat,k<=4/\t9=.int .i64 k/\Hid (Qc w wr2 D A (Y0 B La (4*x+k)) La n)) (fun t9 _=>4 - (intOf t9).toNat)
   case atStart=>exact⟨0,om,rfl,HS.out⟩
   case round=>
    clear HS;obtain⟨k,hk,rfl,HS⟩:=hrel;by_cases hlk:k<4
    ·have hk1:(k:Int)<4:=om;go_wp2_with fail;obtain⟨K,hM,hP⟩:=HS.out.d;have hok:K.s.Ok:=(by obtain⟨G,f,-⟩:=hP;exact f.sit.1.wf.chip);refine(Ya A.g K.s hok x k hlt hlk _ (IM _) 1 dc _ hM.core.chip).mono ?_;rintro e wz ⟨s',rfl,hF,hC,hG⟩;have hP2:=hP.next hlt hF;have hwf:Wf { K with s:=s' }:=(by obtain⟨G,f,-⟩:=hP2;exact f.sit.1.wf);have hne:D≠A.g:=fun e=>hM.nd (by rw[e];exact AL (AL (AK rfl)));have HN:Hid (Qc w wz D A (Y0 B La (4*x+(k+1))) La n):=HS.out.cor HLO.out HLW.out ⟨_,⟨hM.dv.chg hG hne,hM.core.setChip hC hG hwf,hM.nd⟩,hP2⟩ (hG.mono (fun k _ e=>by rw[e];exact AL (AL (AK rfl))));clear hM hP hok hF hC hG hP2 hwf hne HS;go_wp2;exact⟨⟨k+1,om,by go_num,HN.out⟩,by simp[intOf];omega⟩
    ·have hk1:¬ (k:Int)<4:=om;obtain rfl:k=4:=om
     go_wp2;exact⟨⟨x+1,om,by go_num,HS.out⟩,by simp[intOf];omega⟩
  ·have hl1:¬ (x:Int)<96:=om;obtain rfl:x=96:=om
   obtain⟨K,hM,hP⟩:=HS.out.d;have hvw:=RX D A K _ hM;have HK:Hid (Qc w wr D A (·=K) La n):=⟨⟨K,hM,rfl⟩,HS.out.i,HS.out.t⟩;have HP:=BB hP;clear hM hP HS;go_wp2_with fail;refine hvw.mono ?_;rintro e w4 ⟨rfl,G4⟩;have HK4:=BB (HK.out.chg0 G4);have HI4:=BB (IB.new w4 40 67 (fun _=>0));have g5:Chg No w4 (w4.alloc (.cells (ints (fun _=>0) 67).toArray 40)):=(Chg.refl _ w4).alloc _;have HK5:=BB (HK4.out.chg0 g5);have HN4:Hid (n<w4.heap.size):=HK4.out.i.lt;clear hvw G4 g5 HK HK4;go_wp2_with (first | refine Co rfl rfl ?_ | refine Cp rfl (.tmp 10) (.tmp 44) rfl w4.heap.size rfl rfl HI4.out ?_);intro w6 I6 G6;have HV6:=BB I6;have HK6:=BB (HK5.out.far HLW.out HS1.out (fun k e=>by have:=HN4.out;omega) G6);clear I6 G6 HI4 HK5;generalize w4.heap.size=m1 at *
   go_wp2_with (first | refine CZ rfl _ (Mg rfl rfl HV6.out) ?_);refine(Yr (vwF K) w6).mono ?_;rintro e w7 ⟨q,rfl,hq,G7⟩;have HK7:=BB (HK6.out.chg0 G7);have HV7:=BB (HV6.out.chg G7 (fun f=>f));have HP7:Hid (Hh (kH B La q K.rp 0) w7 D A):=HK7.out.d.mono (fun X e=>by rw[e];exact HP.out.psh hq);clear hq G7 HK6 HV6;go_wp2_with (first | refine CZ rfl _ (Bj rfl rfl HK7.out.i) ?_);refine(Ti (kH B La q K.rp) D A La w7 HP7.out (fun i hi X hX=>hX.get hi HB.out)).mono ?_;rintro e w8 ⟨rfl,hd8,G8⟩;have HK8:Hid (Qc w w8 D A (kH B La q K.rp 24) La n):=HK7.out.cor HLO.out HLW.out hd8 G8;have HV8:=BB (HV7.out.chg G8 (fun e=>by have:=HLW.out m1 (AK (AK e));have:=HN4.out;omega));clear hd8 G8 HK7 HV7 HP7;obtain⟨K2,hM2,hP2⟩:=HK8.out.d;have hvw:=RX D A K2 _ hM2;have HE:Hid (q=true->vwF K 64=vwF K2 64):=fun e=>by
    obtain⟨G,-,h⟩:=hP2;obtain⟨c,H,-,hC⟩:=h e;rw[dj,dj];exact hC.rp.symm
   clear hM2 hP2 HP;go_wp2_with fail;refine hvw.mono ?_;rintro e w9 ⟨rfl,G9⟩;have HK9:=BB (HK8.out.chg0 G9);have HV9:=BB (HV8.out.chg G9 (fun f=>f));have HI9:=BB (IB.new w9 40 67 (fun _=>0));have g10:Chg No w9 (w9.alloc (.cells (ints (fun _=>0) 67).toArray 40)):=(Chg.refl _ w9).alloc _;have HK10:=BB (HK9.out.chg0 g10);have HV10:=BB (HV9.out.chg g10 (fun f=>f));have HN9:Hid (n<w9.heap.size/\m1<w9.heap.size):=⟨HK9.out.i.lt,HV9.out.lt⟩;clear hvw G9 g10 HK8 HV8 HK9 HV9;go_wp2_with (first | refine Co rfl rfl ?_ | refine Cp rfl (.tmp 14) (.tmp 54) rfl w9.heap.size rfl rfl HI9.out ?_);intro w11 I11 G11;have HW11:=BB I11;have HV11:=BB (HV10.out.chg G11 (by have:=HN9.out;omega));have HK11:=BB (HK10.out.far HLW.out HS1.out (fun k e=>by have:=HN9.out;omega) G11);clear I11 G11 HI9 HK10 HV10;obtain⟨c1,-⟩:=HV11.out.cell 64 dc;obtain⟨c2,-⟩:=HW11.out.cell 64 dc;have HT:Hid (Below w.heap.size w w11):=HK11.out.t.below (fun _ f=>f.elim) (AM _);generalize w9.heap.size=m2 at *
   cases q
   ·clear HE;go_wp2;go_ret;exact⟨rfl,HT.out⟩
   ·have e64:=HE.out rfl;rw[<-e64] at c2;generalize vwF K 64=r at *
    clear HE e64;go_wp2;go_ret;exact⟨rfl,HT.out⟩
end
end Go.Proofs.YtbhbilcieodbhaaGreat
namespace Go.Proofs.YtbhbilcieodbhaaGreat
open List
open Go.Proofs.Tryz
open Go.RowKit Go.Deep Go.ChangeShapes Go.WideShapes
section
variable {H:Type}
theorem Yt(d:DataW H):1<=Rows.uptoBulk d:=by
 cases d with
 | lit l=>cases l <;> simp[Rows.uptoBulk]
 | _=>simp[Rows.uptoBulk]
theorem Yu(l:List (DataW H)):l.length<=Rows.uptoBulkAll l:=by
 induction l with
 | nil=>simp[Rows.uptoBulkAll]
 | cons x r ih=>have:=Yt x;simp only[Rows.uptoBulkAll,An];omega
theorem addr_at(g o j:Nat):(⟨g,o,none⟩:Addr).add j=⟨g,o+j,none⟩:=by unfold Addr.add;split <;> simp_all
theorem kI{enc:TypeId × Value->H}{W:Wd}{a:Option Addr}{len cap:Nat}{d:DataW H}{p:List MemPlace}(h:DataW.Trod enc prog W 0 (fun _=>true) true 61 (.slice a len cap) d p)(hb:Rows.uptoBulk d<=1048576):∃O,IsOps W a len O/\len<=1048576:=by
 have ce:prog.cellsOf 67=3:=kr
 have c3:prog.cellsOf 3=1:=kr
 obtain⟨fuel,hf⟩:=h;rcases open_slice underlying61 hf with ⟨hcs,_⟩ | ⟨x,l,c,m,n,D,Pl,hcs,_,hl,hm,hmm,hx,hel⟩
 ·simp[Value.cells] at hcs;obtain⟨rfl,rfl,rfl⟩:=hcs;exact⟨fun _=>⟨0,0,0⟩,⟨fun i hi=>absurd hi (Nat.not_lt_zero _),AK rfl⟩,dc⟩
 ·simp[Value.cells] at hcs;obtain⟨rfl,rfl,rfl⟩:=hcs;have hmc:m=cap:=by simpa using hmm
  subst hmc;have hlen:len<=1048576:=by
   simp only[Prod.mk.injEq] at hx;rw[hx.1] at hb;have:=Yu ((List.range len).map D);simp only[Rows.uptoBulk] at hb;rw[A7,length_range] at this;omega
  have each:∀i,i<len->∃o:Tl,o.Ok/\W.cell? (x.add (i*3))=some (.int .i64 o.k)/\W.cell? (x.add (i*3+1))=some (.int .i64 o.a)/\W.cell? (x.add (i*3+2))=some (.int .i64 o.x):=by
   intro i hi;obtain⟨cs',h1,h2⟩:=hel i om;rw[ce] at h1;obtain⟨_,hln,hcell⟩:=World.cells?_some h1;obtain⟨xs,k,hk,hxy,_,hxl,hfs⟩:=DataW.trod_struct underlying67 h2
   match xs,hxl,cs',hln with
   | [y0,y1,y2],_,[v0,v1,v2],_=>
    have g0:=hfs 0 _ rfl;have g1:=hfs 1 _ rfl;have g2:=hfs 2 _ rfl;simp[c3] at g0 g1 g2;have e0:=hcell 0 om;have e1:=hcell 1 om;have e2:=hcell 2 om;rw[add_add] at e0 e1 e2;simp at e0 e1 e2;obtain⟨z0,f0,_,wz0⟩:=DataW.trod_int (k:=.i64) underlying3 g0;obtain⟨z1,f1,_,wz1⟩:=DataW.trod_int (k:=.i64) underlying3 g1;obtain⟨z2,f2,_,wz2⟩:=DataW.trod_int (k:=.i64) underlying3 g2;simp only[List.cons.injEq,and_true] at f0 f1 f2;exact⟨⟨z0,z1,z2⟩,⟨bounds_i64 wz0,bounds_i64 wz1,bounds_i64 wz2⟩,by rw[e0,f0],by rw[e1,f1],by rw[e2,f2]⟩
  have inst0:Inhabited Tl:=⟨⟨0,0,0⟩⟩;obtain⟨O,hO⟩:=choose_lt each;refine⟨O,⟨fun i hi=>(hO i hi).1,?_⟩,hlen⟩;by_cases h0:len=0
  ·exact AK h0
  ·right;obtain⟨g,o,spot⟩:=x;have hspot:spot=none:=(by simpa[Addr.add] using World.cell?_spot (hO 0 om).2.1);subst hspot;have hadd:∀j,(⟨g,o,none⟩:Addr).add j=⟨g,o+j,none⟩:=addr_at g o;have hlt:g<W.heap.size:=by
    have:=cV (hO 0 om).2.1;rw[hadd] at this;exact this
   refine⟨g,o,rfl,hlt,fun i hi=>?_⟩;obtain⟨_,h0,h1,h2⟩:=hO i hi;rw[hadd] at h0 h1 h2;exact⟨h0,by rw[Nat.add_assoc];exact h1,by rw[Nat.add_assoc];exact h2⟩
end
end Go.Proofs.YtbhbilcieodbhaaGreat
