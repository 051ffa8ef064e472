/-
  Lemmas.
-/
import Derived.Test.YtbhbilcieodbhaaGreatOm
import Derived.Test.YtbhbilcieodbhaaGreatP12
import Derived.Deep.Slices
set_option maxRecDepth 1000000
set_option maxHeartbeats 16000000
set_option linter.unusedSimpArgs false
namespace Go.Proofs.YtbhbilcieodbhaaGreat
open List
open Go.Proofs.Tryz
open Go.RowKit
set_option linter.unusedSimpArgs false
theorem IsOps.chg0{w w':Wd}{a:Option Addr}{len:Nat}{O:Nat->Tu}(h:IsOps w a len O)(hc:Chg No w w'):IsOps w' a len O:=by
 obtain⟨h1,h2⟩:=h;refine⟨h1,h2.imp id ?_⟩;rintro ⟨g,o,e,hg,hc2⟩;exact⟨g,o,e,Aj hg hc.size,fun i hi=>(hc2 i hi).chg hc hg (fun f=>f)⟩
theorem IsOps.low{w:Wd}{a:Option Addr}{len:Nat}{O:Nat->Tu}(h:IsOps w a len O)(g o:Nat)(e:a=some ⟨g,o,none⟩):len=0\/g<w.heap.size:=by
 obtain⟨-,h2⟩:=h;rcases h2 with h2 | ⟨g',o',e',hg,-⟩
 ·exact AK h2
 ·rw[e] at e';cases e'
  exact AL hg
theorem Tr{Q:BC->Prop}(h0:∀K G,Bgn K G->Lit 1 K G->Q K)(g:Nat)(w:Wd)(hC:BE w g GI):Calls prog 44 #[.pointer (some ⟨g,0,none⟩)] w fun e w'=>∃D A,e=.returned (.pointer (some ⟨D,0,none⟩))/\A.g=g/\(∀k,Cor A k\/k=A.p\/k=A.q->k=g\/w.heap.size<=k)/\w.heap.size<=D/\GS Q w' D A/\Chg (·=g) w w':=by
 obtain⟨tl,htl⟩:=mO;have HTL:=BB htl;have HC:=BB hC;have qn:=BK;have p2:=LW;have HQ:=BB h0;clear htl hC h0;go_enter func44,ntmps44;go_wp2_with fail;refine(YZ g w).mono ?_;rintro e w2 ⟨rfl,hD2,G2⟩;have HC2:=BB (HC.out.chg G2 (fun f=>f));have HG2:=BB G2;have HLD:=BB hD2.lt;have HLG:=BB HC.out.lt;have hmt:=Mo w.heap.size g GI CP.new tl HTL.out w2 HC2.out hD2 (by have:=HLG.out;omega);clear hD2 G2;go_wp2_with fail;refine hmt.mono ?_;rintro e w3 ⟨A,K,G,hF,rfl,hD3,hK,⟨hB,hL⟩,-,G3⟩;have eg:A.g=g:=hF.1;have HFN:=BB (HQ.out K G hB hL);have HF:=BB hF;have HD3:=BB hD3;have HK:=BB hK;have HG3:Hid (Chg (·=g) w w3):=(HG2.out.mono (fun _ _ f=>f.elim)).trans' G3 (fun k hk e=>om);clear hmt hF hD3 hK hB hL G3;go_wp2;go_ret;have hs2:=HG2.out.size;have hld:=HLD.out;have hlg:=HLG.out;subst eg;refine⟨w.heap.size,A,rfl,rfl,fun k e=>?_,AM _,⟨K,⟨HD3.out,HK.out,fun e=>?_⟩,HFN.out⟩,HG3.out⟩
 ·obtain⟨a,b,c,d,e',f,i,j,l,n⟩:=HF.out;rcases e with (e | e | e | e | e | e | e | e) | e | e <;> omega
 ·obtain⟨a,b,c,d,e',f,i,j,l,n⟩:=HF.out;rcases e with e | e | e | e | e | e | e | e <;> omega
section
variable {P:Nat->(Nat->Int)->BC->Prop}
theorem Yi(C:j8 P)(h0:∀K G,Bgn K G->Lit 1 K G->P 0 (fun _=>0) K)(a:Option Addr)(len cap:Nat)(O:Nat->Tu)(w:Wd)(hO:IsOps w a len O)(hlen:len<=1048576):Calls prog 25 #[.slice a len cap] w fun e w'=>∃D A La,e=.returned (.tuple #[.pointer (some ⟨A.g,0,none⟩),.pointer (some ⟨D,0,none⟩),.agg (ints La 24).toArray])/\(∀x,(Cor A x\/x=A.p\/x=A.q)\/x=D->w.heap.size<=x)/\Fr P w' D A (2*len) La/\Chg No w w':=by
 have HOP:=BB hO;have HQ:=BB h0;clear hO h0;have p1:=Rl;have p2:=LW;have g1:Chg No w (w.alloc (.cells (ints (fun _=>0) 24).toArray 30)):=(Chg.refl _ w).alloc _;have HI1:Hid (IB (w.alloc (.cells (ints (fun _=>0) 24).toArray 30)) w.heap.size 30 24 (fun _=>0)):=IB.new w 30 24 _;have HG1:=BB g1;have HZ1:Hid ((w.alloc (.cells (ints (fun _=>0) 24).toArray 30)).heap.size=w.heap.size+1):=World.size_alloc _ _;clear g1;go_enter func25,ntmps25
 go_upto_region 1 with (first | refine Bw rfl rfl ?_)
 generalize w.alloc (.cells (ints (fun _=>0) 24).toArray 30)=w1 at *
 have g2:Chg No w1 (w1.alloc (.cells (ints (fun _=>0) 24).toArray 30)):=(Chg.refl _ w1).alloc _;have HI2:=BB (HI1.out.chg g2 (fun f=>f));have HR2:Hid (IB (w1.alloc (.cells (ints (fun _=>0) 24).toArray 30)) w1.heap.size 30 24 (fun _=>0)):=IB.new w1 30 24 _;have HG2:=BB (HG1.out.trans g2);obtain⟨n,hn⟩:∃n,w.heap.size=n:=⟨_,rfl⟩;have HN:=BB hn;rw[hn] at HI2 HZ1 ⊢;clear g2 HI1 HG1 hn;go_wp2_with (first | refine Bw rfl rfl ?_ | refine CZ rfl _ (Km rfl) ?_ | refine By rfl (.tmp 5) (.tmp 10) rfl w1.heap.size rfl rfl HR2.out ?_);intro w3 I3 G3;have HI3:=BB (HI2.out.chg G3 (by have:=HZ1.out;omega));have HJ3:=BB I3;have HG3:=BB (HG2.out.trans' G3 (fun k hk e=>by have:=HN.out;have:=HZ1.out;omega));clear I3 G3 HI2 HR2 HG2;generalize w1.heap.size=nb at *
 go_wp2_with fail;refine(U7 w3).mono ?_;rintro e w4 ⟨rfl,hC4,G4⟩;have hoc:=Tr (Q:=P 0 fun _=>0) HQ.out w3.heap.size w4 hC4;have HI4:=BB (HI3.out.chg G4 (fun f=>f));have HJ4:=BB (HJ3.out.chg G4 (fun f=>f));have HG4:=BB (HG3.out.trans G4);have HC4:=BB hC4.lt;have HS3:Hid (n+2<=w3.heap.size):=by have:=HJ3.out.lt;have:=HZ1.out;show _<=_;omega
 have HS34:=BB G4.size;clear hC4 G4 HI3 HJ3 HG3;go_wp2_with fail;refine hoc.mono ?_;rintro e w5 ⟨D,A,rfl,eg,hlo,hDl,hD5,G5⟩;have h3:=HS3.out;have h34:=HS34.out;have HI5:=BB (HI4.out.chg G5 om);have HJ5:=BB (HJ4.out.chg G5 (by have:=HZ1.out;omega));have HG5:Hid (Chg No w w5):=HG4.out.trans' G5 (fun k hk e=>by have:=HN.out;omega);have HLO:Hid (∀x,(Cor A x\/x=A.p\/x=A.q)\/x=D->n+2<=x):=fun x e=>by
  rcases e with e | rfl
  ·rcases hlo x e with e2 | e2 <;> omega
  ·omega
 have HD5:=BB hD5;have HE:=BB eg;rw[<-eg];clear hoc hlo hDl hD5 G5 HI4 HJ4 HG4 eg h3 h34;go_wp2_with (first | refine CZ rfl _ (Bg rfl rfl HJ5.out) ?_);refine(Yh C D A (fun _=>0) a len cap O w5 HD5.out (HOP.out.chg0 HG5.out) hlen (fun g o e=>(HOP.out.low g o e).imp id fun h4 f=>by have h1:=HLO.out g (AK (AK f));have h2:=HN.out;omega)).mono ?_;rintro e w6 ⟨La,rfl,hd6,G6⟩;have HI6:=BB (HI5.out.chg G6 (fun f=>by have h1:=HLO.out n (AK (AK f));omega));have HG6:=BB (HG5.out.trans' G6 (fun k hk f=>by have h1:=HLO.out k (AK (AK f));have h2:=HN.out;omega));have HD6:=BB hd6;have HR6:=BB (IB.new w6 30 24 (fun _=>0));have g7:Chg No w6 (w6.alloc (.cells (ints (fun _=>0) 24).toArray 30)):=(Chg.refl _ w6).alloc _;have HG7:=BB (HG6.out.trans g7);have HD7:=BB (HD6.out.chg0 g7);have HI7:=BB (HI6.out.chg g7 (fun f=>f));have HL6:=BB HI6.out.lt;have HLD6:=BB HD6.out.lw;clear hd6 G6 HI5 HJ5 HG5 HD5 g7 HI6 HG6 HD6;go_wp2_with (first | refine Bw rfl rfl ?_ | refine By rfl (.tmp 8) (.tmp 25) rfl w6.heap.size rfl rfl HR6.out ?_);intro w8 I8 G8;have HI8:=BB (HI7.out.chg G8 (by have:=HL6.out;omega));have HJ8:=BB I8;have HG8:=BB (HG7.out.trans' G8 (fun k hk e=>by have:=HL6.out;have:=HN.out;omega));have HD8:=BB (HD7.out.far HLD6.out (fun k e=>om) G8);clear I8 G8 HI7 HR6 HG7 HD7;generalize w6.heap.size=m at *
 go_wp2_with fail;refine wp_region_noPanic ?_;refine wp_region_held_drew (S:=fun wx=>IB wx m 30 24 La) kr (HJ8.out.drew) (fun hHeld=>?_);refine Ab (i:=0) rfl kr kr kr (fun _ _ _ h=>h) (AK ⟨rfl,fun _ hw=>rfl⟩) hHeld ?_;simp only[Act.put,bu];refine Ab (i:=1) rfl kr kr kr (fun _ _ _ h=>h) (AK ⟨rfl,fun _ hw=>rfl⟩) hHeld ?_;simp only[Act.put,bu];refine Ab (i:=2) rfl kr kr kr (fun _ _ _ h=>h) (AK ⟨rfl,fun _ hw=>Bg rfl rfl hw⟩) hHeld ?_;simp only[Act.put,bu];refine Ab (i:=3) rfl kr kr kr (fun _ _ _ h=>h) (AK ⟨rfl,fun _ hw=>rfl⟩) hHeld ?_;simp only[Act.put,bu];refine Ab (i:=4) rfl kr kr kr (fun _ _ _ h=>h) (AK ⟨rfl,fun _ hw=>rfl⟩) hHeld ?_;simp only[Act.put,bu];refine wpAnyH_ready (rs:=[5]) kr (by simp) ?_;refine AllReadyH.cons rfl (fun K' hK=>?_) AllReadyH.nil;refine CG rfl (.tmp 4) (.tmp 32) rfl n rfl La rfl HI8.out.drew ?_;intro w9 I9 G9;have G9':Chg (·=n) w8 w9:=(Chg.refl (·=n) w8).drew.trans G9;have HI9:=BB I9;have HG9:=BB (HG8.out.trans' G9' (fun k hk e=>by have:=HN.out;omega));have HD9:Hid (Fr P w9 D A (2*len) La):=by
  obtain⟨K,h1,h2⟩:=HD8.out;exact⟨K,⟨h1.dv.chg G9' (fun e=>by have:=HLO.out D (AL rfl);omega),h1.core.out' (fun x e f=>by have:=HLO.out x (AK e);omega) G9',h1.nd⟩,h2⟩
 refine hK.out _ _ (HJ8.out.drew.chg G9 (by have:=HL6.out;omega)) (fun hHeld=>?_);clear hK K' I9 G9 G9';simp only[Act.put,bu];refine wpAnyH_done kr ?_ _;refine NoPanic.normal ?_;go_wp2;refine AZ (Oo rfl _ rfl HI9.out.range) rfl ?_;exact⟨D,A,La,rfl,fun x e=>by have:=HLO.out x e;have:=HN.out;omega,HD9.out,HG9.out⟩
end
set_option linter.unusedSimpArgs false
def Flps (a k:Nat):Nat->BG->BG->Prop
 | 0,s,s'=>s'=s
 | n+1,s,s'=>∃s1,Flps a k n s s1/\(s'=s1\/∃b,b<2048/\b / 512=k/\s'=flpS s1 a b)
theorem Flps.ok{a k:Nat}(ha:a<96):∀ {n:Nat} {s s':BG},Flps a k n s s'->s.Ok->s'.Ok
 | 0,_,_,h,hs=>by
  have:_=_:=h
  rw[this];exact hs
 | n+1,_,_,h,hs=>by
  obtain⟨s1,h1,h2 | ⟨b,hb,-,h2⟩⟩:=h
  ·
   rw[h2];exact h1.ok ha hs
  ·
   rw[h2];exact YP (h1.ok ha hs) ha hb
theorem IS(z:Int):Kl (wrap64 z):=⟨EU z,by have:=EV z;omega⟩
structure Skn (K K':BC):Prop where
 s:K'.s=K.s
 r:K'.r=K.r
 hR:K'.hR=K.hR
 hN:K'.hN=K.hN
 hS:K'.hS=K.hS
 cu:K'.cu=K.cu
 ca:K'.ca=K.ca
 qu:K'.qu=K.qu
 rp:K'.rp=K.rp
 md:K'.md=K.md
 tl:K'.tl=K.tl
theorem Skn.refl(K:BC):Skn K K:=⟨rfl,rfl,rfl,rfl,rfl,rfl,rfl,rfl,rfl,rfl,rfl⟩
theorem Skn.trans{K K' K'':BC}(h:Skn K K')(k:Skn K' K''):Skn K K'':=⟨k.s.trans h.s,k.r.trans h.r,k.hR.trans h.hR,k.hN.trans h.hN,k.hS.trans h.hS,k.cu.trans h.cu,k.ca.trans h.ca,k.qu.trans h.qu,k.rp.trans h.rp,k.md.trans h.md,k.tl.trans h.tl⟩
theorem IT(K:BC):Skn K (clK K):=by unfold clK;split <;> exact⟨rfl,rfl,rfl,rfl,rfl,rfl,rfl,rfl,rfl,rfl,rfl⟩
theorem Ms(K:BC)(b:Int):Skn K (lvK K b):=by
 unfold lvK;split
 ·exact IT K
 ·exact Skn.refl K
theorem Yj(K:BC)(b s:Int):Skn K (stK K b s):=⟨rfl,rfl,rfl,rfl,rfl,rfl,rfl,rfl,rfl,rfl,rfl⟩
theorem Yk(K:BC)(b:Int):Skn K (spK K b):=by
 have h:=(Ms K b).trans (Yj (lvK K b) b 3);exact⟨h.s,h.r,h.hR,h.hN,h.hS,h.cu,h.ca,h.qu,h.rp,h.md,h.tl⟩
theorem Qm(K:BC):Skn K (opK K).1:=by unfold opK;split <;> exact⟨rfl,rfl,rfl,rfl,rfl,rfl,rfl,rfl,rfl,rfl,rfl⟩
theorem j9(K:BC):Skn K (sqK K):=⟨rfl,rfl,rfl,rfl,rfl,rfl,rfl,rfl,rfl,rfl,rfl⟩
theorem Mt(K:BC)(t:CD):Skn K (layK K t).1:=⟨rfl,rfl,rfl,rfl,rfl,rfl,rfl,rfl,rfl,rfl,rfl⟩
theorem Yl(K:BC)(S:BV)(o:Nat):Skn K (tiK K S o).1:=by
 unfold tiK;split
 ·exact Skn.refl K
 ·split <;> exact⟨rfl,rfl,rfl,rfl,rfl,rfl,rfl,rfl,rfl,rfl,rfl⟩
theorem kA:∀(l:List CD) (K:BC),Skn K (cmL l K).1:=by
 intro l
 induction l with
 | nil=>intro K;exact Skn.refl K
 | cons t l ih=>
  intro K;unfold cmL;split
  ·exact Mt K t
  ·exact(Mt K t).trans (ih _)
theorem Ym(K:BC)(S:BV)(st:Int):Skn K (cmK K S st).1:=by
 have h0:=kA S.ld K;unfold cmK;dsimp only;generalize cmL S.ld K=x at *
 split
 ·exact h0
 ·have h1:=h0.trans ((Ms x.1 S.fm).trans (Yj (lvK x.1 S.fm) S.fm st));generalize stK (lvK x.1 S.fm) S.fm st=y at *
  split
  ·have h2:=h1.trans (IT y);exact⟨h2.s,h2.r,h2.hR,h2.hN,h2.hS,h2.cu,h2.ca,h2.qu,h2.rp,h2.md,h2.tl⟩
  ·exact⟨h1.s,h1.r,h1.hR,h1.hN,h1.hS,h1.cu,h1.ca,h1.qu,h1.rp,h1.md,h1.tl⟩
structure Kpr (P:BC->Prop):Prop where
 rd:∀K p,P K->P (rdK K p).1
 pr:∀K t D,P K->P (prK K t D).1
 er:∀K b,P K->P (erK K b).1
 nt:∀K,P K->P (ntK K)
 st:∀K K',P K->Skn K K'->P K'
structure eB (P:BC->Prop):Prop extends Kpr P where
 ct:∀K hS qu rp md,P K->P { K with hS:=hS,qu:=qu,rp:=rp,md:=md }
 ps:∀K,P K->P { K with cu:=(K.cu+8) % 96,ca:=K.ca+1 }
def cw (P:BC->Prop) (te:FO):Prop:=∀K Z,te K=some Z->P K->P Z.1
def MovG (P:BC->Prop) (mo:Ew):Prop:=∀K S Z,mo K S=some Z->P K->P Z.1
section
variable {P:BC->Prop}
theorem Yn(C:Kpr P)(K:BC)(t:CD)(D:List Nat)(h:P K):P (prM K t D).1:=by
 unfold prM;split
 ·exact h
 ·exact C.pr K t D h
theorem Mu(C:Kpr P)(H:EG)(K:BC)(p o:Nat)(h:P K):P (frK H K p o).1:=by
 unfold frK;by_cases hs:K.sp=true
 ·rw[AJ hs];exact h
 ·rw[AI hs];dsimp only;have h1:=C.pr (sqK K) ⟨p,o,K.nx,0,false⟩ (H (sqK K) K.nx) (C.st _ _ h (j9 K));generalize prK (sqK K) ⟨p,o,K.nx,0,false⟩ (H (sqK K) K.nx)=x at *
  by_cases c:x.2≠0
  ·rw[AJ c];exact h1
  ·rw[AI c];by_cases d:o=24
   ·rw[AJ d];exact C.nt _ h1
   ·rw[AI d];exact h1
theorem Yo(C:Kpr P)(K:BC)(o:Nat)(h:P K):P (coK K o).1:=by
 have h1:=C.rd K (K.L o).toNat h;unfold coK;split
 ·exact h
 ·dsimp only;generalize rdK K (K.L o).toNat=X at *
  split
  ·exact h1
  ·split
   ·exact h1
   ·split <;> exact h1
theorem kC(C:Kpr P)(bd:Bool):∀(l:List Nat) (K:BC) (S:BV),P K->P (cpK bd l K S).1:=by
 intro l
 induction l with
 | nil=>intro K S h;exact h
 | cons o l ih=>
  intro K S h;unfold cpK;split
  ·exact ih K S h
  ·dsimp only;have h1:=Yo C K o h;generalize coK K o=c at *
   have h2:P (tiK c.1 S o).1:=C.st _ _ h1 (Yl _ _ _);generalize tiK c.1 S o=t at *
   have h3:=Yn C t.1 ⟨t.2.2.1,o,t.1.vs o,(t.1.vc o+1) % 256,c.2.2.1⟩ c.2.1 h2;generalize prM t.1 ⟨t.2.2.1,o,t.1.vs o,(t.1.vc o+1) % 256,c.2.2.1⟩ c.2.1=p at *
   split
   ·exact h1
   ·split
    ·exact h2
    ·split
     ·exact h3
     ·exact ih _ _ h3
theorem Yp(C:Kpr P)(K:BC)(S:BV)(h:P K):P (cbK K S).1:=by
 unfold cbK;dsimp only;have h1:P (tiK K S 24).1:=C.st _ _ h (Yl _ _ _);generalize tiK K S 24=t at *
 have h2:=Mu C (bdH S.fm) t.1 t.2.2.1 24 h1;generalize frK (bdH S.fm) t.1 t.2.2.1 24=f at *
 split
 ·exact h1
 ·split
  ·exact h2
  ·exact C.st _ _ h2 (Ym _ _ _)
theorem kD(C:Kpr P)(K:BC)(S:BV)(h:P K):P (tyK K S).1:=by
 unfold tyK;dsimp only;have hx:=kC C (S.fd || (S.rt && bearK K)) ((AA.ofL K.L S.fm).map Int.toNat) K { S with tt:=noF,ld:=[] } h;generalize cpK (S.fd || (S.rt && bearK K)) ((AA.ofL K.L S.fm).map Int.toNat) K { S with tt:=noF,ld:=[] }=x at *
 have he:=C.er x.1 S.fm hx;have hb:=Yp C x.1 x.2.1 hx;generalize erK x.1 S.fm=y at *
 have hc:P (cmK y.1 x.2.1 0).1:=C.st _ _ he (Ym _ _ _);have hl:P (lvK y.1 S.fm):=C.st _ _ he (Ms _ _);generalize cmK y.1 x.2.1 0=c at *
 generalize lvK y.1 S.fm=u at *
 have hd:=Yp C u { x.2.1 with fd:=true } hl;generalize cbK u { x.2.1 with fd:=true }=v at *
 generalize cbK x.1 x.2.1=v2 at *
 split
 ·exact h
 ·split
  ·exact hx
  ·split
   ·exact hb
   ·split
    ·exact hc
    ·split
     ·exact he
     ·split
      ·exact hl
      ·exact hd
theorem Yq(C:Kpr P){an:FO}(h:cw P an):cw P (Ii an):=by
 intro K Z e hp;unfold Ii at e;have h1:P (opK (clK K)).1:=C.st _ _ (C.st _ _ hp (IT _)) (Qm _);split at e
 ·cases e;exact hp
 ·split at e
  ·exact h _ _ e hp
  ·split at e
   ·cases e
    exact h1
   ·exact h _ _ e h1
theorem kE(C:Kpr P){te:FO}(h:cw P te):∀n,MovG P (trK te n):=by
 intro n
 induction n with
 | zero=>intro K S Z e;cases e
 | succ n ih=>
  intro K S Z e hp;unfold trK at e;have ht:=kD C K S hp;split at e
  ·cases e;exact hp
  ·dsimp only at e;generalize tyK K S=x at *
   split at e
   ·cases e;exact ht
   ·cases hy:te (spK x.1 (AC.blV x.2.1.tt)) with
    | none=>rw[hy] at e;cases e
    | some y=>
     rw[hy] at e;dsimp only at e;have h1:=h _ _ hy (C.st _ _ ht (Yk _ _));split at e
     ·cases e;exact h1
     ·exact ih _ _ _ e h1
theorem Yr(C:Kpr P){te:FO}(h:cw P te)(n:Nat):MovG P (moK te n):=by
 intro K S Z e hp;unfold moK at e;cases hy:trK te n (if S.fd then lvK K S.fm else K) S with
 | none=>rw[hy] at e;cases e
 | some x=>
  rw[hy] at e;dsimp only at e;have h1:P x.1:=kE C h n _ _ _ hy (by
   split
   ·
    exact C.st _ _ hp (Ms _ _)
   ·
    exact hp)
  split at e
  ·cases e
   exact C.st _ _ (C.st _ _ h1 (Yk _ _)) ⟨rfl,rfl,rfl,rfl,rfl,rfl,rfl,rfl,rfl,rfl,rfl⟩
  ·cases e;exact h1
theorem kG(C:Kpr P){mo:Ew}(h:MovG P mo):∀n K o Z,mrK mo n K o=some Z->P K->P Z.1:=by
 intro n
 induction n with
 | zero=>intro K o Z e;cases e
 | succ n ih=>
  intro K o Z e hp;unfold mrK at e;have h0:P (clK K):=C.st _ _ hp (IT _);split at e
  ·cases e;exact hp
  ·dsimp only at e;generalize clK K=K1 at *
   have h1:P (opK K1).1:=C.st _ _ h0 (Qm _);split at e
   ·split at e
    ·cases e
     exact h1
    ·exact ih _ _ _ e h1
   ·split at e
    ·cases e
     exact h0
    ·cases hy:mo K1 (nwS (AG.chV 12 12 K1.F (lvF K1)) false false) with
     | none=>rw[hy] at e;cases e
     | some y=>
      rw[hy] at e;dsimp only at e;have h2:=h _ _ _ hy h0;split at e
      ·cases e;exact h2
      ·exact ih _ _ _ e h2
theorem kH(C:Kpr P){mr:BC->Nat->Option (BC × Nat)}{mo:Ew}(hr:∀K o Z,mr K o=some Z->P K->P Z.1)(h:MovG P mo)(H:EG):∀n K o Z,anK mr mo H n K o=some Z->P K->P Z.1:=by
 intro n
 induction n with
 | zero=>intro K o Z e;cases e
 | succ n ih=>
  intro K o Z e hp;unfold anK at e;split at e
  ·cases e;exact hp
  ·cases hx:mr K o with
   | none=>rw[hx] at e;cases e
   | some x=>
    rw[hx] at e;dsimp only at e;have h1:=hr _ _ _ hx hp;split at e
    ·cases e;exact h1
    ·split at e
     ·cases e;exact h1
     ·have h2:=Mu C H { x.1 with fr:=AC.tkS x.1.fr o } (AC.nxV x.1.fr o).toNat o (C.st _ _ h1 ⟨rfl,rfl,rfl,rfl,rfl,rfl,rfl,rfl,rfl,rfl,rfl⟩);generalize frK H { x.1 with fr:=AC.tkS x.1.fr o } (AC.nxV x.1.fr o).toNat o=f at *
      split at e
      ·cases e
       exact C.st _ _ h2 (Mt _ _)
      ·split at e
       ·cases e;exact h2
       ·cases hy:mo f.1 (nwS (AC.blV f.1.fr).toNat false true) with
        | none=>rw[hy] at e;cases e
        | some y=>
         rw[hy] at e;dsimp only at e;have h4:=h _ _ _ hy h2;split at e
         ·cases e;exact h4
         ·exact ih _ _ _ e h4
theorem Qn(C:Kpr P):∀n H K o Z,anR n H K o=some Z->P K->P Z.1:=by
 intro n
 induction n with
 | zero=>intro H K o Z e;cases e
 | succ n ih=>
  intro H K o Z e;have hm:MovG P (moK (Ii fun K=>anR n noH K 24) (n+1)):=Yr C (Yq C fun _ _ e=>ih _ _ _ _ e) _;exact kH C (mr:=mrK (moK (Ii fun K=>anR n noH K 24) (n+1)) (n+1)) (fun K o Z e=>kG C hm _ _ _ _ e) hm H (n+1) K o Z e
theorem cy(C:Kpr P)(n:Nat):MovG P (movR n):=Yr C (Yq C fun _ _ e=>Qn C n _ _ _ _ e) _
end
section
variable {P:BC->Prop}
theorem Qo(C:eB P)(K:BC)(p:Nat)(h:P K):P (inK K p).1:=by
 have h1:=C.rd K p h;unfold inK;dsimp only;generalize rdK K p=X at *
 split
 ·exact h1
 ·split
  ·exact h1
  ·split <;> exact C.ct _ _ _ _ _ h1
theorem kI(C:eB P)(K:BC)(o:Nat)(h:P K):P (geK K o).1:=by
 have h1:=Qo C K (K.L o).toNat h;unfold geK;split
 ·exact h
 ·dsimp only;generalize inK K (K.L o).toNat=X at *
  split
  ·exact h1
  ·split <;> exact h1
theorem kJ(C:eB P)(c:Nat):∀(n i:Nat) (K:BC),P K->P (tdI c n i K).1:=by
 intro n
 induction n with
 | zero=>intro i K h;exact h
 | succ n ih=>
  intro i K h;rw[tdI];split
  ·exact Qo C _ _ h
  ·exact ih _ _ (Qo C _ _ h)
theorem kK(C:eB P){n:Nat}{K:BC}{b:Nat}{Z:BC × Nat}(e:rfK n K b=some Z)(hp:P K):P Z.1:=by
 unfold rfK at e;split at e
 ·cases e;exact hp
 ·cases hy:movR n K (nwS b (AF.much 3 K.hS (b:Nat)) false) with
  | none=>rw[hy] at e;cases e
  | some y=>
   rw[hy] at e;dsimp only at e;have h1:=cy C.toKpr n _ _ _ hy hp;split at e
   ·cases e;exact h1
   ·cases e;exact C.ct _ y.1.hS y.1.qu _ _ h1
theorem kL(C:eB P)(m:Nat):∀(n:Nat) (K:BC) (Z:BC × Nat),raK m n K=some Z->P K->P Z.1:=by
 intro n
 induction n with
 | zero=>intro K Z e;cases e
 | succ n ih=>
  intro K Z e hp;rw[raK] at e;split at e
  ·cases e;exact hp
  ·split at e
   ·cases e;exact hp
   ·rename_i b r _;cases hy:rfK m { K with qu:=r } b.toNat with
    | none=>rw[hy] at e;cases e
    | some y=>
     rw[hy] at e;dsimp only at e;have h1:=kK C hy (C.ct _ K.hS r K.rp K.md hp);split at e
     ·cases e;exact h1
     ·exact ih _ _ e h1
theorem kN(C:eB P){n m:Nat}{K:BC}{Z:BC × Nat}(e:tdK n m K=some Z)(hp:P K):P Z.1:=by
 unfold tdK at e;have h0:=kJ C K.cu 8 0 { K with cu:=(K.cu+8) % 96,ca:=K.ca+1 } (C.ps K hp);generalize tdI K.cu 8 0 { K with cu:=(K.cu+8) % 96,ca:=K.ca+1 }=X at *
 unfold Oz at e;split at e
 ·cases e;exact h0
 ·cases hy:raK n m (awK X.1) with
  | none=>rw[hy] at e;cases e
  | some y=>
   rw[hy] at e;dsimp only at e;have h1:P y.1:=kL C _ _ _ _ hy (C.ct _ X.1.hS _ X.1.rp X.1.md h0);split at e
   ·cases e;exact h1
   ·split at e
    ·cases hz:anR n noH y.1 24 with
     | none=>rw[hz] at e;cases e
     | some z=>
      rw[hz] at e;cases e
      have h9:=Qn C.toKpr _ _ _ _ _ hz h1;exact h9
    ·cases e;exact h1
end
structure mQ (Q:BG->Prop):Prop where
 w:∀s a k l,Q s->Q (writeR s a k l).1
 e:∀s b,Q s->Q (eraseR s b).1
 r:∀s a,Q s->Q (readV s a).1
section
variable {Q:BG->Prop}
theorem kO(C:mQ Q){s:BG}(h:Q s)(a:Int)(W:Nat->List Nat):∀n,Q (wrN s a W n).1:=by
 intro n
 induction n with
 | zero=>exact h
 | succ n ih=>
  rw[wrN];split
  ·exact C.w _ _ _ _ ih
  ·exact ih
theorem Ys(C:mQ Q)(tl:List Nat->Int->Pg){s:BG}(h:Q s)(r a:Int):Q (rdF tl s r a).1:=by
 have:=C.r s a h;unfold rdF;split <;> exact this
theorem mQ.kpq(C:mQ Q):eB fun K=>Q K.s where
 rd K p h:=by
  have:=Ys C K.tl h K.r p;unfold rdK;dsimp only;generalize rdF K.tl K.s K.r p=X at *
  split <;> exact this
 pr K t D h:=by
  have h1:=kO C h t.p (wordOf D (body t.p t.o t.q t.c t.l)) 4;unfold prK prF;dsimp only;generalize wrN K.s t.p (wordOf D (body t.p t.o t.q t.c t.l)) 4=X at *
  have h2:=Ys C K.tl h1 K.r t.p;generalize rdF K.tl X.1 K.r t.p=Y at *
  split
  ·exact h1
  ·split <;> exact h2
 er K b h:=by
  have:=C.e K.s b h;unfold erK;dsimp only;generalize eraseR K.s b=X at *
  split <;> exact this
 nt _ h:=h
 st K K' h k:=by rw[k.s];exact h
 ct _ _ _ _ _ h:=h
 ps _ h:=h
end
theorem cz(K0:BC):Kpr (QH K0) where
 rd K p h:=h.trans (by
  unfold rdK
  dsimp only
  split <;> exact⟨rfl,rfl,rfl,rfl,rfl,rfl⟩)
 pr K t D h:=h.trans (by unfold prK;exact⟨rfl,rfl,rfl,rfl,rfl,rfl⟩)
 er K b h:=h.trans (by
  unfold erK
  dsimp only
  split <;> exact⟨rfl,rfl,rfl,rfl,rfl,rfl⟩)
 nt K h:=h.trans ⟨rfl,rfl,rfl,rfl,rfl,rfl⟩
 st K K' h k:=h.trans ⟨k.cu,k.qu,k.hS,k.rp,k.md,k.tl⟩
section
variable {o n:Nat}{K:BC}{G:BW}
theorem Oq(s:BG)(a:Int):(readV s a).1.ch=s.ch:=by
 unfold readV;split
 ·rfl
 ·split <;> rfl
theorem kP(tl:List Nat->Int->Pg)(s:BG)(r a:Int):(rdF tl s r a).1.ch=s.ch:=by
 unfold rdF;split <;> exact Oq s a
structure Ste2 (o:Nat) (P Q:BC->Prop):Prop where
 pq:∀K,P K->Q K
 sp:∀K K',P K->Skn K K'->K'.L=K.L->K'.mv=K.mv->P K'
 sk:∀K K',Q K->Skn K K'->K'.L=K.L->K'.mv=K.mv->Q K'
 an:∀H K p,Q K->(frK H K p o).2.2=0->Q (layK (frK H K p o).1 (frK H K p o).2.1).1
 ty:∀K V,AA.Okl K.L->Fine K.s->V<12->P K->(tyK K (nwS V false false)).2.2=0->Q (tyK K (nwS V false false)).1
def oP (o:Nat) (P:BC->Prop):Prop:=Ste2 o P P
theorem kQ{P:BC->Prop}(sk:∀K K',P K->Skn K K'->K'.L=K.L->K'.mv=K.mv->P K')(an:∀H K p,P K->(frK H K p o).2.2=0->P (layK (frK H K p o).1 (frK H K p o).2.1).1)(ty:∀K V,AA.Okl K.L->Fine K.s->V<12->P K->(tyK K (nwS V false false)).2.2=0->P (tyK K (nwS V false false)).1):oP o P:=⟨fun _ h=>h,sk,sk,an,ty⟩
theorem eC(K:BC):(clK K).mv=K.mv:=by unfold clK;split <;> rfl
theorem mS(K:BC):(opK K).1.mv=K.mv:=by unfold opK;split <;> rfl
theorem dA(K:BC):(clK K).L=K.L:=by unfold clK;split <;> rfl
theorem nu(K:BC):(opK K).1.L=K.L:=by unfold opK;split <;> rfl
theorem Yt(h:Sit K G No)(hfi:Fine K.s)(hdd:K.dd=false)(hrm:Rm 0 K)(hT:Told K G)(hnx:K.nx<D9){V:Nat}(hV:V<12)(h0:K.F V≠0)(h3:K.F V≠3)(rt:Bool)(n:Nat) :∃Y S',movR n K (nwS V rt false)=some (Y,S',0)/\tyK K (nwS V rt false)=(Y,S',0)/\Fine Y.s/\(rt=false->B3 (fun b=>K.F b=3) Y.F):=by
 obtain⟨t1,t2,t3⟩:=Ri h hfi hdd hrm hT hnx hV h0 h3 rt;obtain⟨Y,S',ht⟩:∃Y S',tyK K (nwS V rt false)=(Y,S',0):=⟨_,_,by rw[<-t1]⟩;rw[ht] at t2 t3;refine⟨Y,S',?_,ht,t2,t3⟩;unfold movR moK;rw[AI (by show ¬ false=true;decide)];have etr:trK (MC n) (n+1) K (nwS V rt false)=some (Y,S',0):=by
  rw[trK,AI (by show ¬ MB K (V:Nat)=true;rw[Mc hV];simpa using h3)];dsimp only;rw[ht,AJ (show (0:Nat)≠8 by decide)]
 rw[etr];dsimp only;rw[AI (by rintro ⟨_,e⟩;exact absurd e dc)]
theorem Ot{mo:Ew}(s:Sit K G No)(hf:Fine K.s)(hb:bad3 K.F<=2)(ho:K.fr.o=false)(hfre:5<fre K.F+2*bad3 K.F)(ho25:o<25)(k:Nat):∃Y,mrK mo (k+2) K o=some (Y,0)/\Fine Y.s/\Skn K Y/\Y.L=K.L/\Y.mv=K.mv:=by
 have hnr:¬ AC.rmV K.fr o=true:=fun e=>by
  have:=((D7 _ ho25).1 e).1;rw[ho] at this;cases this
 have hc:clK K=K:=CO ho;have hs:GM (clK K)=true:=by rw[hc];exact(Eo hb).2 hfre
 obtain⟨e2,s2,st2,n2,on2,d2,f2,o2,i2,q2,-⟩:=s.opS ho om;refine⟨(opK K).1,?_,by rw[on2];exact hf,Qm K,nu K,mS K⟩;rw[mrK,AI hnr];dsimp only;rw[AJ hs,hc,AI (by rw[e2];decide)];rw[mrK,AJ ((D7 _ ho25).2 ⟨o2,om,AL om⟩)]
theorem kR(h:Sit K G No)(hfi:Fine K.s)(hdd:K.dd=false)(hrm:Rm 0 K)(hT:Told K G)(hsq:Sq 0 K)(ho25:o<25)(hn:3<=n)(m:Nat) :∃Y,mrK (movR n) (m+3) K o=some (Y,0)/\Fine Y.s/\∀P Q,Ste2 o P Q->P K->Q Y:=by
 by_cases hr:AC.rmV K.fr o=true
 ·exact⟨K,(Hj (mo:=movR n) h hfi.on hdd hrm hr (m+2)).1,hfi,fun _ _ C hp=>C.pq _ hp⟩
 ·have hb0:bad3 K.F<=2:=by
   have:¬ 2<bad3 K.F:=fun e=>by have:=h.dds.2 e;rw[hdd] at this;cases this
   omega
  obtain⟨s1,st1,n1,on1,d1,f1,o1,q1,-,l1⟩:=h.clS;have hb1:bad3 (clK K).F=bad3 K.F:=by have:=st1.bd;omega
  have fc:Fine (clK K).s:=by rw[on1];exact hfi
  by_cases hs:GM (clK K)=true
  ·have hs':=(Eo om).1 hs;obtain⟨Y,eY,fY,kY,lY,mY⟩:=Ot (mo:=movR n) s1 fc om o1 hs' ho25 (m+1);refine⟨Y,?_,fY,fun P Q C hp=>C.pq _ (C.sp _ _ hp ((IT K).trans kY) (lY.trans (dA K)) (mY.trans (eC K)))⟩;have hnr1:¬ AC.rmV (clK K).fr o=true:=fun e=>by
    have:=((D7 _ ho25).1 e).1;rw[o1] at this;cases this
   have hcc:clK (clK K)=clK K:=CO o1;rw[mrK,AI hr];rw[mrK,AI hnr1,hcc] at eY;exact eY
  ·have hs':¬ 5<fre (clK K).F+2*bad3 (clK K).F:=fun e=>hs ((Eo om).2 e);have hc1:=QO s1 o1;have hsum:=AD.JC (clK K).F 12 (fun i hi=>s1.sts i hi);have h7:7<=AD.cnt (clK K).F 2 12:=by
    unfold Rm at hrm;unfold fre bad3 at *
    omega
   obtain⟨v1,v2,v3,v4⟩:=QM s1.wf.map h7;have elv:lvF (clK K)=fun k=>((AA.lvK (clK K).L 96 k:Nat):Int):=rfl;rw[<-elv] at v1 v2 v3 v4;have hTc:Told (clK K) G:=hT.kee q1 rfl;have hrmc:Rm 0 (clK K):=(by unfold Rm at hrm ⊢;omega);obtain⟨Y,S',eY,tY,fY,nY⟩:=Yt s1 fc (d1.trans hdd) hrmc hTc (by unfold Sq D9 at *;omega) v2 (by rw[v3];decide) (by rw[v3];decide) false n;obtain⟨Y2,eY2,G2,X2,d2,hY⟩:=(Ep (n:=n) (b:=0) om) (clK K) G (nwS (AG.chV 12 12 (clK K).F (lvF (clK K))) false false) s1 fc.on v2 (by show (clK K).F (AG.chV 12 12 (clK K).F (lvF (clK K)))≠0;rw[v3];decide) (by show (clK K).F (AG.chV 12 12 (clK K).F (lvF (clK K)))≠3;rw[v3];decide) (d1.trans hdd) hrmc (AK hTc) (by unfold Sq at hsq ⊢;omega) (Ac _);have e2:Y2=(Y,S',0):=AR (eY2.symm.trans eY);subst e2;have hM:ke (clK K) Y G G2 (nwS (AG.chV 12 12 (clK K).F (lvF (clK K))) false false) (AG.chV 12 12 (clK K).F (lvF (clK K))) ((AA.ofL (clK K).L (AG.chV 12 12 (clK K).F (lvF (clK K)))).length) d2:=by
    rcases hY with ⟨_,M,_⟩ | ⟨c,_⟩ | ⟨c,_⟩
    ·exact M
    ·exact absurd (show (0:Nat)=14 from c) dc
    ·exact absurd (show (0:Nat)=7 from c) dc
   have hbd:=hM.stp.bd;have hd0:d2=0:=by
    have:=eA (nY rfl);omega
   have eall:∀k,mrK (movR n) (k+1) K o=mrK (movR n) k Y o:=fun k=>by
    rw[mrK,AI hr];dsimp only;rw[AI hs,AI (by rw[v1];decide),eY];dsimp only;rw[AI dc]
   have hP:∀P Q,Ste2 o P Q->P K->Q Y:=fun P Q C hp=>by
    have:=C.ty (clK K) (AG.chV 12 12 (clK K).F (lvF (clK K))) s1.wf.map fc v2 (C.sp _ _ hp (IT K) (dA K) (eC K)) (by rw[tY])
    rwa [tY] at this
   rw[eall];by_cases hrY:AC.rmV Y.fr o=true
   ·exact⟨Y,by rw[mrK,AJ hrY],fY,hP⟩
   ·rcases hM.gc hd0 (by rw[v3];decide) with ⟨g1,g2⟩ | ⟨g1,g2⟩
    ·exact absurd ((D7 _ ho25).2 ⟨g1,om,AL om⟩) hrY
    ·have hfo:Y.fr.o=false:=by
      rcases g1 with e | e
      ·rw[e];exact o1
      ·rw[e];rfl
     obtain⟨Z,eZ,fZ,kZ,lZ,mZ⟩:=Ot (mo:=movR n) hM.sit fY om hfo (by unfold Rm at hrm;omega) ho25 m;exact⟨Z,eZ,fZ,fun P Q C hp=>C.sk _ _ (hP P Q C hp) kZ lZ mZ⟩
theorem kS{H:EG}(hH:∀K q,(H K q).length=174/\Bys (H K q))(h:Sit K G No)(hfi:Fine K.s)(hdd:K.dd=false)(hrm:Rm 0 K)(hT:Told K G)(hsq:Sq 1 K)(ho25:o<25)(hn:4<=n) :∃Z,anR (n+1) H K o=some (Z,0)/\Fine Z.s/\Z.dd=false/\∀P Q,Ste2 o P Q->P K->Q Z:=by
 obtain⟨Y,eY,fY,pY⟩:=kR h hfi hdd hrm hT (by unfold Sq at hsq ⊢;omega) ho25 (n:=n) om (n - 2);rw[show n - 2+3=n+1 by omega] at eY;obtain⟨Y2,eY2,G2,X2,d2,s2,st2,hx⟩:=KH (Ep (n:=n) (b:=0) om) ho25 (n+1) K G h hfi.on hdd hrm (AK hT) (by unfold Sq at hsq ⊢;omega) om (Ac _);have e2:Y2=(Y,0):=AR (eY2.symm.trans eY);subst e2;have hbY:bad3 Y.F=bad3 K.F+d2:=st2.bd;obtain⟨yon,yX,yd,yR,yr,yT,yn⟩:Y.s.on=true/\(∀b,¬ X2 b)/\Y.dd=false/\Rm 0 Y/\AC.rmV Y.fr o=true/\(Told K G->Told Y G2)/\((d2=0/\Y.nx=K.nx)\/Y.nx+1<=K.nx+8*d2):=by
  rcases hx with ⟨_,a⟩ | ⟨c,_⟩ | ⟨c,_⟩
  ·exact a
  ·exact absurd (show (0:Nat)=14 from c) dc
  ·exact absurd (show (0:Nat)=7 from c) dc
 have s2':Sit Y G2 No:=s2.mono (fun b _ y=>absurd y (yX b));have hb2:bad3 Y.F<=2:=by
  have:¬ 2<bad3 Y.F:=fun e=>by have:=s2'.dds.2 e;rw[yd] at this;cases this
  omega
 have hnY:Y.nx<D9:=by
  unfold Sq D9 at *
  rcases yn with ⟨_,e⟩ | e <;> omega
 obtain⟨c,K1,s',r',R',fD,fi,-,f5,f6⟩:=Mh hH s2' fY ho25 yr hnY;have hl:=QR ho25 fD;refine⟨(FrL K1 o (8*Y.fr.k+Y.fr.i) s' r' R').1,?_,by rw[hl.2.2.1];exact fi,hl.2.2.2.2.2.2.2.1.trans yd,fun P Q C hp=>?_⟩
 rotate_left
 ·rw[<-f6];exact C.an H _ _ (C.sk Y { Y with fr:=AC.tkS Y.fr o } (pY P Q C hp) ⟨rfl,rfl,rfl,rfl,rfl,rfl,rfl,rfl,rfl,rfl,rfl⟩ rfl rfl) f5
 have e:(FrL K1 o (8*Y.fr.k+Y.fr.i) s' r' R')=((FrL K1 o (8*Y.fr.k+Y.fr.i) s' r' R').1,0):=by rw[<-hl.1]
 rw[<-e,<-f6];exact QQ (mr:=mrK (movR n) (n+1)) (mo:=movR n) (by rw[Co h];exact hdd) h.sp eY c f5
end
section
variable {K:BC}{m n:Nat}{G:BW}
theorem eE:∀(n:Nat) (K Y:BC),raK m n K=some (Y,0)->Y.qu=[]:=by
 intro n
 induction n with
 | zero=>intro K Y e;cases e
 | succ n ih=>
  intro K Y e;rw[raK] at e;split at e
  ·cases e
  ·split at e
   ·rename_i hq;cases e
    exact hq
   ·rename_i b r _;cases hy:rfK m { K with qu:=r } b.toNat with
    | none=>rw[hy] at e;cases e
    | some y=>
     rw[hy] at e;dsimp only at e;split at e
     ·rename_i c;cases e
      exact absurd rfl c
     ·exact ih _ _ e
theorem eG{H:EG}{o:Nat}{Z:BC × Nat}(e:anR n H K o=some Z):QH K Z.1:=Qn (cz K) _ _ _ _ _ e (QH.refl K)
theorem KY(hn:4<=n)(hm:13<=m)(h:Ivk K G)(hw:Wsd K.s)(hdd:K.dd=false)(hsq:Sq 1 K) :∃X Y Z,tdI K.cu 8 0 { K with cu:=(K.cu+8) % 96,ca:=K.ca+1 }=(X,0)/\raK (n+1) m (awK X)=some (Y,0)/\tdK (n+1) m K=some (Z,0)/\Wf X/\Eqv { K with cu:=(K.cu+8) % 96,ca:=K.ca+1 } X /\(∃G4,Sit Y G4 No/\Fine Y.s/\Y.dd=false/\Rm 0 Y/\Told Y G4/\Sq 1 Y)/\(Z=Y\/(anR (n+1) noH Y 24=some (Z,0)/\∀P Q,Ste2 24 P Q->P Y->Q Z)):=by
 obtain⟨on,X,hs,hd⟩:=h;have s1:=hs.pstep;obtain⟨e2,on2,a2,w2,t2,r2⟩:=KI K.cu 8 0 { K with cu:=(K.cu+8) % 96,ca:=K.ca+1 } s1.wf on;have f2:Wsd (tdI K.cu 8 0 { K with cu:=(K.cu+8) % 96,ca:=K.ca+1 }).1.s:=Ml K.cu 8 0 { K with cu:=(K.cu+8) % 96,ca:=K.ca+1 } hw;unfold tdK;generalize tdI K.cu 8 0 { K with cu:=(K.cu+8) % 96,ca:=K.ca+1 }=Y at *
 have s2:=s1.eqv a2 w2;have s3:=s2.eqv (KJ Y.1) (RZ w2);have eF:(awK Y.1).F=K.F:=a2.F;have eD:(awK Y.1).dd=false:=a2.dd.trans hdd;have eN:(awK Y.1).nx=K.nx:=a2.nx;have f3:Fine (awK Y.1).s:=f2.1;unfold Oz;rw[AI (by rw[e2];simp)];obtain⟨hX,hrm,hT⟩:=hd hdd;have s4:Sit (awK Y.1) G No:=s3.mono (fun b _ e=>absurd e (hX b));have hrm3:Rm 0 (awK Y.1):=by unfold Rm at hrm ⊢;rw[eF];exact hrm
 have hT3:Told (awK Y.1) G:=fun b hb e=>hT b hb (by rw[<-eF];exact e);have hl:=s4.wf.qu.len;have hsq3:Sq 0 (awK Y.1):=by unfold Sq at hsq ⊢;rw[eF,eN];omega
 obtain⟨y,ey,G4,X4,d4,s5,st5,hy⟩:=JM (n:=n+1) om m (awK Y.1) G s4 f3.on (fun _=>⟨hrm3,hT3⟩) hsq3 om;obtain⟨Y4,eY4,f4⟩:=Xq (n:=n+1) om m (awK Y.1) G s4 f3 eD hrm3 hT3 hsq3 om;have e4:y=(Y4,0):=AR (ey.symm.trans eY4);subst e4;rw[ey];dsimp only;rw[AI (by simp)];have hbd:bad3 Y4.F=bad3 (awK Y.1).F+d4:=st5.bd;rcases hy with ⟨-,yon,yX,ydd,yrm,yT,ynx⟩ | ⟨c,_⟩ | ⟨c,_⟩
 ·have s7:Sit Y4 G4 No:=s5.mono (fun b _ e=>absurd e (yX b));have ynx':Y4.nx<=(awK Y.1).nx+8*d4:=ynx;have hsq7:Sq 1 Y4:=by unfold Sq at hsq ⊢;rw[eF] at hbd;rw[eN] at ynx';omega
  have eY:Y=(Y.1,0):=by rw[<-e2]
  by_cases hdue:8<=Y4.ca\/AF.Tt Y4.hR Y4.hN=true
  ·rw[AJ hdue];obtain⟨Z,eZ,-,dZ,pZ⟩:=kS (H:=noH) (fun _ _=>⟨AB.CX _,AB.D5 _⟩) s7 f4 ydd yrm yT hsq7 (o:=24) dc (n:=n) hn;refine⟨Y.1,Y4,Z,eY,ey,by rw[eZ];rfl,w2,a2,⟨G4,s7,f4,ydd,yrm,yT,hsq7⟩,AL ⟨eZ,pZ⟩⟩
  ·rw[AI hdue];exact⟨Y.1,Y4,Y4,eY,ey,rfl,w2,a2,⟨G4,s7,f4,ydd,yrm,yT,hsq7⟩,AK rfl⟩
 ·exact absurd (show (0:Nat)=14 from c) dc
 ·exact absurd (show (0:Nat)=7 from c) dc
theorem Im{B:Nat}{La:Nat->Int}(h:Fnv B K G La)(hB:B<1073741824):∃Z G',tdK 6 13 K=some (Z,0)/\Fnv (B+1) Z G' La/\Z.qu=[]:=by
 obtain⟨Z,G',e,hZ⟩:=Ob h hB;obtain⟨X,Y,Z2,e1,e2,e3,-,-,-,hz⟩:=KY (n:=5) (m:=13) dc dc h.iv.iv h.wd h.dd (h.iv.sq hB);obtain rfl:Z=Z2:=(Prod.mk.inj (AR (e.symm.trans e3))).1;refine⟨Z,G',e,hZ,?_⟩;rcases hz with rfl | ⟨ea,-⟩
 ·exact eE _ _ _ e2
 ·rw[(eG ea).qu];exact eE _ _ _ e2
end
section
variable {B:Nat}{La:Nat->Int}{G:BW}
def kT (B:Nat) (La:Nat->Int) (K:BC):Prop:=∃G,Fnv B K G La/\Un K.s/\K.qu=[]
theorem Mv{Y:BC}(h:Fnv (B+1) Y G La)(u:Un Y.s)(hB:B+1<1073741824):ZB Y (kT (B+2) La):=by
 obtain⟨Z,G',e,f,q⟩:=Im h hB;exact⟨by have:=h.iv.ca;omega,Z,e,G',f,jp e u,q⟩
theorem dB:j8 kT where
 put B La K h hB o ho x:=by
  obtain⟨G,f,u,-⟩:=h;obtain⟨Y,G',e,f2⟩:=cJ f om ho x;exact⟨Y,e,Mv f2 (KS _ _ _ _ _ e u) hB⟩
 trim B La K h hB o ho:=by
  obtain⟨G,f,u,-⟩:=h;obtain⟨Y,G',e,f2⟩:=YM f om ho;exact⟨Y,e,Mv f2 (jk e u) hB⟩
 get B La K h hB o ho:=by
  obtain⟨G,f,u,-⟩:=h;obtain⟨Y,e,f2⟩:=Mm f om ho;have hu:=jl K o u;rw[e] at hu;exact⟨Y,e,Mv f2 hu hB⟩
theorem dC(K:BC)(G:BW)(hB:Bgn K G)(hL:Lit 1 K G):kT 0 (fun _=>0) K:=⟨G,hB.fin hL.un,hL.un,hL.qu⟩
theorem Ou{a k:Nat}(ha:a<96):∀(n:Nat) {K:BC} {s':BG},Flps a k n K.s s'->Fnv B K G La->dmg (K.s.ch (4*a+k))+n<=2 ->Fnv B { K with s:=s' } G La/\∀j,dmg (s'.ch j)<=dmg (K.s.ch j)+(if j=4*a+k then n else 0)
 | 0,K,s',h,f,_=>by
  have e:s'=K.s:=h
  subst e
  exact⟨f,fun j=>by split <;> omega⟩
 | n+1,K,s',h,f,hd=>by
  obtain⟨s1,h1,h2⟩:=h
  obtain⟨f1,d1⟩:=Ou ha n h1 f om
  rcases h2 with rfl | ⟨b,hb,hk,rfl⟩
  ·
   refine⟨f1,fun j=>?_⟩
   have h4:=d1 j
   by_cases c:j=4*a+k
   ·
    rw[AJ c] at h4 ⊢;omega
   ·
    rw[AI c] at h4 ⊢;omega
  ·
   have e4:4*a+b / 512=4*a+k:=by rw[hk]
   have hdd:dmg (s1.ch (4*a+b / 512))<2:=by
    have:=d1 (4*a+k);rw[AJ rfl] at this;rw[e4];omega
   obtain⟨hs,hr,ht⟩:=f1.sit;have hs2:=hs.flp (YP hs.wf.chip ha hb) hdd;have l:=f1.iv;refine⟨⟨⟨⟨l.iv.on,_,hs2,fun _=>⟨fun _=>id,hr,ht⟩⟩,l.pw,l.l24,l.a,l.z,l.nx,l.ca,l.rd,l.c8⟩,cK f1.wd a b,f1.dd⟩,fun j=>?_⟩;have h3:=Rj s1 a b j;have h4:=d1 j;rw[e4] at h3;by_cases c:j=4*a+k
   ·rw[AJ c] at h3 h4 ⊢;omega
   ·rw[AI c] at h3 h4 ⊢;omega
end
set_option linter.unusedSimpArgs false
structure mn (Q:BC->Prop) (w wr:Wd) (D:Nat) (A:Ad) (La:Nat->Int) (n:Nat):Prop where
 lw:Lw A D n
 d:GS Q wr D A
 i:IB wr n 30 24 La
 t:Chg (Cor A) w wr
theorem LX(Q:Nat->BC->Prop)(D:Nat)(A:Ad)(La:Nat->Int)(w:Wd)(h:GS (Q 0) w D A)(hQ:∀i,i<24->∀K,Q i K->∃Y,geK K i=(Y,FX (La i),0)/\ZB Y (Q (i+1))) :Calls prog 28 #[.pointer (some ⟨D,0,none⟩),.agg (ints La 24).toArray] w fun e w'=>e=.returned (.bool true)/\GS (Q 24) w' D A/\Chg (Cor A) w w':=by
 have qn:=BK;have g1:Chg No w (w.alloc (.cells (ints La 24).toArray 30)):=(Chg.refl _ w).alloc _;have HS0:Hid (mn (Q 0) w (w.alloc (.cells (ints La 24).toArray 30)) D A La w.heap.size):=⟨Fr.lw (P:=fun _ _=>Q 0) (B:=0) (La:=La) h,h.chg0 g1,IB.new w 30 24 La,g1.mono (fun _ _ f=>f.elim)⟩;have HQ:=BB hQ;clear h g1 hQ;go_enter func28,ntmps28;go_wp2_with fail;generalize w.alloc (.cells (ints La 24).toArray 30)=w1 at *
 obtain⟨n,hn⟩:∃n,w.heap.size=n:=⟨_,rfl⟩;rw[hn] at HS0 ⊢
 go_loopw [5] (fun t5 wr=>∃i:Nat,i<=24/\t5=.int .i64 i/\mn (Q i) w wr D A La n) (fun t5 _=>24 - (intOf t5).toNat)
 case atStart=>exact⟨0,om,rfl,HS0.out⟩
 case round=>
  clear HS0;obtain⟨i,hi,rfl,hS⟩:=hrel;by_cases hlt:i<24
  ·have hl1:(i:Int)<24:=om;have hl0:(0:Int)<=(i:Int):=om;have hrd:=Ol (R:=Q (i+1)) D A wr hS.d i hlt (La i) (HQ.out i hlt);have HS:=BB hS;clear hS;go_wp2_with fail;refine hrd.mono ?_;rintro x w3 ⟨gv,cv,rfl,hgv,hAt,hD3,G3⟩;have hnn:¬ Cor A n:=fun e=>by have:=HS.out.lw n (AK (AK e));omega
   have hI3:=HS.out.i.chg G3 hnn;have HS3:Hid (mn (Q (i+1)) w w3 D A La n):=⟨HS.out.lw,hD3,hI3,HS.out.t.trans G3⟩;obtain⟨c0,-⟩:=hI3.cell i hlt;have HAT:=BB hAt;have hlen:=CL (La i);have hbys:=Hk (La i);have HLEN:=BB hlen;have HBYS:=BB hbys;generalize La i=y at *
   clear hrd hgv hAt hD3 G3 hnn hI3 HS hlen hbys;go_wp2_with fail;refine(Hl y w3).mono ?_;rintro x w4 ⟨rfl,hA4,G4⟩;have hsm:=Xg w4 gv 0 160 cv w3.heap.size 0 160 160 (FX y) (FX y) HLEN.out.symm HLEN.out.symm HBYS.out HBYS.out (HAT.out.chg G4 (fun f=>f)) hA4.at_;rw[AO rfl] at hsm;have HS4:Hid (mn (Q (i+1)) w w4 D A La n):=⟨HS3.out.lw,HS3.out.d.chg0 G4,HS3.out.i.chg G4 (fun f=>f),HS3.out.t.trans (G4.mono (fun _ _ f=>f.elim))⟩;clear hA4 G4 c0 HAT HS3;go_wp2_with fail;refine hsm.mono ?_;rintro x w5 ⟨rfl,rfl⟩;go_wp2;exact⟨⟨i+1,om,by go_num,HS4.out⟩,by simp[intOf];omega⟩
  ·have hl1:¬ (i:Int)<24:=om;have e24:i=24:=om;subst e24;have HS:=BB hS;clear hS;go_wp2;go_ret;exact⟨rfl,HS.out.d,HS.out.t⟩
section
variable {Q:BC->Prop}{w w' wr:Wd}{D n:Nat}{A:Ad}{La:Nat->Int}{S:Nat->Prop}
set_option linter.unusedSimpArgs false
structure Qp (w wr:Wd) (D:Nat) (A:Ad) (Q:BC->Prop) (La:Nat->Int) (n:Nat):Prop where
 d:GS Q wr D A
 i:IB wr n 30 24 La
 t:Chg No w wr
theorem GS.far(h:GS Q w D A)(l:Lw A D n)(hS:∀k,S k->n<=k)(hc:Chg S w w'):GS Q w' D A:=Fr.far (P:=fun _ _=>Q) (B:=0) (La:=fun _=>0) h l hS hc
theorem Qp.cor{R:BC->Prop}(h:Qp w wr D A Q La n)(lo:∀x,(Cor A x\/x=A.p\/x=A.q)\/x=D->w.heap.size<=x)(lw:Lw A D n)(hd:GS R w' D A)(hc:Chg (Cor A) wr w'):Qp w w' D A R La n:=
 ⟨hd,h.i.chg hc (fun e=>by have:=lw n (AK (AK e));omega),h.t.trans' hc (fun k hk e=>by have:=lo k (AK (AK e));omega)⟩
theorem Qp.far(h:Qp w wr D A Q La n)(lw:Lw A D n)(hw:w.heap.size<=n)(hS:∀k,S k->n<k)(hc:Chg S wr w'):Qp w w' D A Q La n:=
 ⟨h.d.far lw (fun k e=>by have:=hS k e;omega) hc,h.i.chg hc (fun e=>by have:=hS n e;omega),h.t.trans' hc (fun k hk e=>by have:=hS k e;omega)⟩
theorem Qp.chg0(h:Qp w wr D A Q La n)(hc:Chg No wr w'):Qp w w' D A Q La n:=
 ⟨h.d.chg0 hc,h.i.chg hc (fun f=>f),h.t.trans hc⟩
end
end Go.Proofs.YtbhbilcieodbhaaGreat
namespace Go.Proofs.YtbhbilcieodbhaaGreat
open List
open Go.Proofs.Tryz
open Go.RowKit Go.Deep Go.ChangeShapes Go.WideShapes
section
variable {H:Type}
theorem Yu(d:DataW H):1<=Rows.uptoBulk d:=by
 cases d with
 | lit l=>cases l <;> simp[Rows.uptoBulk]
 | _=>simp[Rows.uptoBulk]
theorem Yv(l:List (DataW H)):l.length<=Rows.uptoBulkAll l:=by
 induction l with
 | nil=>simp[Rows.uptoBulkAll]
 | cons x r ih=>have:=Yu x;simp only[Rows.uptoBulkAll,An];omega
theorem addr_at(g o j:Nat):(⟨g,o,none⟩:Addr).add j=⟨g,o+j,none⟩:=by unfold Addr.add;split <;> simp_all
theorem kU{enc:TypeId × Value->H}{W:Wd}{a:Option Addr}{len cap:Nat}{d:DataW H}{p:List MemPlace}(h:DataW.Trod enc prog W 0 (fun _=>true) true 61 (.slice a len cap) d p)(hb:Rows.uptoBulk d<=1048576):∃O,IsOps W a len O/\len<=1048576:=by
 have ce:prog.cellsOf 67=3:=kr
 have c3:prog.cellsOf 3=1:=kr
 obtain⟨fuel,hf⟩:=h;rcases open_slice underlying61 hf with ⟨hcs,_⟩ | ⟨x,l,c,m,n,D,Pl,hcs,_,hl,hm,hmm,hx,hel⟩
 ·simp[Value.cells] at hcs;obtain⟨rfl,rfl,rfl⟩:=hcs;exact⟨fun _=>⟨0,0,0⟩,⟨fun i hi=>absurd hi (Nat.not_lt_zero _),AK rfl⟩,dc⟩
 ·simp[Value.cells] at hcs;obtain⟨rfl,rfl,rfl⟩:=hcs;have hmc:m=cap:=by simpa using hmm
  subst hmc;have hlen:len<=1048576:=by
   simp only[Prod.mk.injEq] at hx;rw[hx.1] at hb;have:=Yv ((List.range len).map D);simp only[Rows.uptoBulk] at hb;rw[A7,length_range] at this;omega
  have each:∀i,i<len->∃o:Tu,o.Ok/\W.cell? (x.add (i*3))=some (.int .i64 o.k)/\W.cell? (x.add (i*3+1))=some (.int .i64 o.a)/\W.cell? (x.add (i*3+2))=some (.int .i64 o.x):=by
   intro i hi;obtain⟨cs',h1,h2⟩:=hel i om;rw[ce] at h1;obtain⟨_,hln,hcell⟩:=World.cells?_some h1;obtain⟨xs,k,hk,hxy,_,hxl,hfs⟩:=DataW.trod_struct underlying67 h2
   match xs,hxl,cs',hln with
   | [y0,y1,y2],_,[v0,v1,v2],_=>
    have g0:=hfs 0 _ rfl;have g1:=hfs 1 _ rfl;have g2:=hfs 2 _ rfl;simp[c3] at g0 g1 g2;have e0:=hcell 0 om;have e1:=hcell 1 om;have e2:=hcell 2 om;rw[add_add] at e0 e1 e2;simp at e0 e1 e2;obtain⟨z0,f0,_,wz0⟩:=DataW.trod_int (k:=.i64) underlying3 g0;obtain⟨z1,f1,_,wz1⟩:=DataW.trod_int (k:=.i64) underlying3 g1;obtain⟨z2,f2,_,wz2⟩:=DataW.trod_int (k:=.i64) underlying3 g2;simp only[List.cons.injEq,and_true] at f0 f1 f2;exact⟨⟨z0,z1,z2⟩,⟨bounds_i64 wz0,bounds_i64 wz1,bounds_i64 wz2⟩,by rw[e0,f0],by rw[e1,f1],by rw[e2,f2]⟩
  have inst0:Inhabited Tu:=⟨⟨0,0,0⟩⟩;obtain⟨O,hO⟩:=choose_lt each;refine⟨O,⟨fun i hi=>(hO i hi).1,?_⟩,hlen⟩;by_cases h0:len=0
  ·exact AK h0
  ·right;obtain⟨g,o,spot⟩:=x;have hspot:spot=none:=(by simpa[Addr.add] using World.cell?_spot (hO 0 om).2.1);subst hspot;have hadd:∀j,(⟨g,o,none⟩:Addr).add j=⟨g,o+j,none⟩:=addr_at g o;have hlt:g<W.heap.size:=by
    have:=co (hO 0 om).2.1;rw[hadd] at this;exact this
   refine⟨g,o,rfl,hlt,fun i hi=>?_⟩;obtain⟨_,h0,h1,h2⟩:=hO i hi;rw[hadd] at h0 h1 h2;exact⟨h0,by rw[Nat.add_assoc];exact h1,by rw[Nat.add_assoc];exact h2⟩
end
end Go.Proofs.YtbhbilcieodbhaaGreat
namespace Go.Proofs.YtbhbilcieodbhaaGreat
open List
open Go.Proofs.Tryz
open Go.RowKit
section
variable {V:Nat->Prop}{K K':BC}{S:BV}{p:Nat}{t:CD}
def Dz (s0 s:BG):Prop:=∀j,dmg (s.ch j)=0\/s.ch j=s0.ch j
theorem Dz.refl(s:BG):Dz s s:=fun _=>AL rfl
theorem Mw(s0:BG):mQ (Dz s0) where
 w s a k l h:=fun j=>by
  unfold writeR
  split
  ·
   exact h j
  ·
   split
   ·
    exact h j
   ·
    split
    ·
     exact h j
    ·
     split
     ·
      exact h j
     ·
      split
      ·
       exact h j
      ·
       show dmg (if j=4*a.toNat+k.toNat then GH l else s.ch j)=0\/(if j=4*a.toNat+k.toNat then GH l else s.ch j)=s0.ch j
       split
       ·
        exact AK (Fq rfl)
       ·
        exact h j
 e s b h:=fun j=>by
  unfold eraseR
  split
  ·
   exact h j
  ·
   split
   ·
    exact h j
   ·
    split
    ·
     exact h j
    ·
     split
     ·
      exact h j
     ·
      show dmg (if 32*b.toNat<=j/\j<32*b.toNat+32 then Dm else s.ch j)=0\/(if 32*b.toNat<=j/\j<32*b.toNat+32 then Dm else s.ch j)=s0.ch j
      split
      ·
       exact AK (Fq rfl)
      ·
       exact h j
 r s a h:=fun j=>by
  rw[Oq]
  exact h j
def Cl (s:BG) (p:Nat):Prop:=∀k,k<4->dmg (s.ch (4*p+k))=0
theorem Cl.dz{s s':BG}(h:Cl s p)(d:Dz s s'):Cl s' p:=fun k hk=>by
 rcases d (4*p+k) with e | e
 ·
  exact e
 ·
  rw[e];exact h k hk
def Nv (V:Nat->Prop) (K:BC):Prop:=∀p:Nat,p<96->V p->AA.own K.L p≠-1->Cl K.s p
theorem Nv.dz(h:Nv V K)(d:Dz K.s K'.s)(l:K'.L=K.L):Nv V K':=fun p hp hV ho=>(h p hp hV (by rw[<-l];exact ho)).dz d
theorem Yw(s:BG)(a:Nat)(W:Nat->List Nat):∀n,n<=4->(wrN s a W n).2=0->∀k,k<n->dmg ((wrN s a W n).1.ch (4*a+k))=0
 | 0,_,_,k,hk=>om
 | n+1,hn,h,k,hk=>by
  rw[wrN] at h ⊢
  by_cases e:(wrN s a W n).2=0
  ·
   rw[AJ e] at h ⊢
   by_cases hkn:k=n
   ·
    subst hkn
    revert h
    unfold writeR
    split
    ·
     exact fun e=>absurd e (by decide:¬ (1:Nat)=0)
    ·
     split
     ·
      exact fun e=>absurd e (by decide:¬ (7:Nat)=0)
     ·
      split
      ·
       exact fun e=>absurd e (by decide:¬ (9:Nat)=0)
      ·
       split
       ·
        exact fun e=>absurd e (by decide:¬ (7:Nat)=0)
       ·
        split
        ·
         exact fun e=>absurd e (by decide:¬ (8:Nat)=0)
        ·
         intro _
         rw[AP,AP]
         show dmg (if 4*a+k=4*a+k then GH (W k) else _:Df)=0
         rw[AJ rfl]
         exact Fq rfl
   ·
    have h1:=Yw s a W n om e k om
    rcases(Mw (wrN s a W n).1).w _ a n (W n) (Dz.refl _) (4*a+k) with e2 | e2
    ·
     exact e2
    ·
     rw[e2];exact h1
  ·
   rw[AI e] at h
   exact absurd h e
theorem eH{D:List Nat}(h:(prK K t D).2=0):Cl (prK K t D).1.s t.p:=by
 have hw:=Yw K.s t.p (wordOf D (body t.p t.o t.q t.c t.l)) 4 (AM _);unfold prK prF at h ⊢;dsimp only at h ⊢;generalize wrN K.s t.p (wordOf D (body t.p t.o t.q t.c t.l)) 4=W at *
 have hc:=kP K.tl W.1 K.r t.p;generalize rdF K.tl W.1 K.r t.p=R at *
 by_cases c1:W.2≠0
 ·rw[AJ c1] at h;unfold Fy at h;dsimp only at h;split at h
  ·exact absurd h c1
  ·cases h
 ·rw[AI c1] at h ⊢;have hw2:=hw (Decidable.not_not.1 c1);intro k hk;split
  ·rw[hc];exact hw2 k hk
  ·rw[hc];exact hw2 k hk
theorem KZ(K:BC):eB fun K'=>Dz K.s K'.s:=(Mw K.s).kpq
theorem Yx(h:Nv V K)(c:Cl K.s t.p):Nv V (layK K t).1:=by
 intro p hp hV ho;show Cl K.s p;replace ho:AA.own (AA.setL K.L t.o t.p) p≠-1:=ho;unfold AA.setL at ho;split at ho
 ·rw[AP] at ho;rcases AA.CN (upd K.L t.o t.p) (p:Int) with ⟨i,hi,-,hL,-⟩ | ⟨e,-⟩
  ·rcases BO K.L t.o i (t.p:Int) with ⟨_,e⟩ | ⟨_,e⟩
   ·rw[e] at hL;have:t.p=p:=om
    rw[<-this];exact c
   ·rw[e] at hL;refine h p hp hV ?_;rcases AA.CN K.L (p:Int) with ⟨x,_,hx,_⟩ | ⟨_,hx⟩
    ·rw[hx];omega
    ·exact absurd hL (hx i hi)
  ·exact absurd e ho
 ·exact h p hp hV ho
theorem eI{H:EG}{o:Nat}(h:(frK H K p o).2.2=0):Cl (frK H K p o).1.s (frK H K p o).2.1.p/\(frK H K p o).1.L=K.L:=by
 unfold frK at h ⊢;by_cases hs:K.sp=true
 ·rw[AJ hs] at h;cases h
 ·rw[AI hs] at h ⊢;dsimp only at h ⊢;have h1:=eH (K:=sqK K) (t:=⟨p,o,K.nx,0,false⟩) (D:=H (sqK K) K.nx);have h2:=(QC (sqK K) ⟨p,o,K.nx,0,false⟩ (H (sqK K) K.nx)).1;generalize prK (sqK K) ⟨p,o,K.nx,0,false⟩ (H (sqK K) K.nx)=x at *
  by_cases c:x.2≠0
  ·rw[AJ c] at h;exact absurd h c
  ·rw[AI c] at h ⊢;have h3:=h1 (Decidable.not_not.1 c);split
   ·exact⟨h3,h2⟩
   ·exact⟨h3,h2⟩
def ZC (K:BC) (S:BV):Prop:=∀t ∈ S.ld,Cl K.s t.p
theorem mT:∀(l:List CD) (K:BC),Nv V K->(∀t ∈ l,Cl K.s t.p)->Nv V (cmL l K).1:=by
 intro l
 induction l with
 | nil=>intro K h _;exact h
 | cons t l ih=>
  intro K h hc;unfold cmL;have h1:=Yx h (hc t (mem_cons_self ..));split
  ·exact h1
  ·exact ih _ h1 (fun x hx=>hc x (mem_cons_of_mem _ hx))
theorem IU(h:Nv V K)(s:K'.s=K.s)(l:K'.L=K.L):Nv V K':=h.dz (by rw[s];exact Dz.refl _) l
theorem mU(K:BC)(b:Int):(lvK K b).L=K.L:=by
 unfold lvK;split
 ·exact dA K
 ·rfl
theorem Yy(h:Nv V K)(hc:ZC K S)(st:Int):Nv V (cmK K S st).1:=by
 have h0:=mT S.ld K h hc;unfold cmK;dsimp only;generalize cmL S.ld K=x at *
 split
 ·exact h0
 ·have h1:Nv V (stK (lvK x.1 S.fm) S.fm st):=IU h0 (FR _ _) (mU _ _);generalize stK (lvK x.1 S.fm) S.fm st=y at *
  split
  ·exact IU h1 (Hh y) (dA y)
  ·exact IU h1 rfl rfl
theorem mV(bd:Bool):∀(l:List Nat) (K:BC) (S:BV),Nv V K->ZC K S->Nv V (cpK bd l K S).1/\ZC (cpK bd l K S).1 (cpK bd l K S).2.1:=by
 intro l
 induction l with
 | nil=>intro K S h hc;exact⟨h,hc⟩
 | cons o l ih=>
  intro K S h hc;unfold cpK;split
  ·exact ih K S h hc
  ·dsimp only;have d1:=Yo (KZ K).toKpr K o (Dz.refl _);have h1:=h.dz d1 (WD K o).1;have c1:ZC (coK K o).1 S:=fun t ht=>(hc t ht).dz d1;generalize coK K o=c at *
   have d2:Dz c.1.s (tiK c.1 S o).1.s:=(by rw[Ik];exact Dz.refl _);have h2:=h1.dz d2 (ML c.1 S o).1;have c2:ZC (tiK c.1 S o).1 (tiK c.1 S o).2.1:=fun t ht=>(c1 t (by rw[<-(MN c.1 S o).2];exact ht)).dz d2;generalize tiK c.1 S o=t at *
   have d3:=Yn (KZ t.1).toKpr t.1 ⟨t.2.2.1,o,t.1.vs o,(t.1.vc o+1) % 256,c.2.2.1⟩ c.2.1 (Dz.refl _);have h3:=h2.dz d3 (WE t.1 ⟨t.2.2.1,o,t.1.vs o,(t.1.vc o+1) % 256,c.2.2.1⟩ c.2.1).1;have c3:ZC (prM t.1 ⟨t.2.2.1,o,t.1.vs o,(t.1.vc o+1) % 256,c.2.2.1⟩ c.2.1).1 t.2.1:=fun x hx=>(c2 x hx).dz d3;have n3:(prM t.1 ⟨t.2.2.1,o,t.1.vs o,(t.1.vc o+1) % 256,c.2.2.1⟩ c.2.1).2=0->Cl (prM t.1 ⟨t.2.2.1,o,t.1.vs o,(t.1.vc o+1) % 256,c.2.2.1⟩ c.2.1).1.s t.2.2.1:=by
    unfold prM;split
    ·exact fun e=>absurd e (by decide:¬ (8:Nat)=0)
    ·exact fun e=>eH e
   generalize prM t.1 ⟨t.2.2.1,o,t.1.vs o,(t.1.vc o+1) % 256,c.2.2.1⟩ c.2.1=p at *
   split
   ·exact⟨h1,c1⟩
   ·split
    ·exact⟨h2,c2⟩
    ·split
     ·exact⟨h3,c3⟩
     ·rename_i e3;refine ih _ _ h3 (fun x hx=>?_);rcases mem_append.1 hx with hx | hx
      ·exact c3 x hx
      ·rw[mem_singleton.1 hx];exact n3 (Decidable.not_not.1 e3)
theorem eJ(h:Nv V K)(hc:ZC K S):Nv V (cbK K S).1:=by
 unfold cbK;dsimp only;have d1:Dz K.s (tiK K S 24).1.s:=by rw[Ik];exact Dz.refl _
 have h1:=h.dz d1 (ML K S 24).1;have c1:ZC (tiK K S 24).1 (tiK K S 24).2.1:=fun t ht=>(hc t (by rw[<-(MN K S 24).2];exact ht)).dz d1;generalize tiK K S 24=t at *
 have d2:=Mu (KZ t.1).toKpr (bdH S.fm) t.1 t.2.2.1 24 (Dz.refl _);have f2:=eI (H:=bdH S.fm) (K:=t.1) (p:=t.2.2.1) (o:=24);have l2:(frK (bdH S.fm) t.1 t.2.2.1 24).1.L=t.1.L:=by
  unfold frK;split
  ·rfl
  ·dsimp only;have h2:=(QC (sqK t.1) ⟨t.2.2.1,24,t.1.nx,0,false⟩ (bdH S.fm (sqK t.1) t.1.nx)).1;generalize prK (sqK t.1) ⟨t.2.2.1,24,t.1.nx,0,false⟩ (bdH S.fm (sqK t.1) t.1.nx)=x at *
   split
   ·exact h2
   ·split <;> exact h2
 have h2:=h1.dz d2 l2;generalize frK (bdH S.fm) t.1 t.2.2.1 24=f at *
 split
 ·exact h1
 ·split
  ·exact h2
  ·rename_i e2;refine Yy h2 (fun x hx=>?_) 3;rcases mem_append.1 hx with hx | hx
   ·exact(c1 x hx).dz d2
   ·rw[mem_singleton.1 hx];exact(f2 (Decidable.not_not.1 e2)).1
theorem eM(h:Nv V K):Nv V (tyK K S).1:=by
 unfold tyK;dsimp only;obtain⟨hx,cx⟩:=mV (S.fd || (S.rt && bearK K)) ((AA.ofL K.L S.fm).map Int.toNat) K { S with tt:=noF,ld:=[] } h (fun t ht=>(by cases ht));generalize cpK (S.fd || (S.rt && bearK K)) ((AA.ofL K.L S.fm).map Int.toNat) K { S with tt:=noF,ld:=[] }=x at *
 have de:=(KZ x.1).er x.1 S.fm (Dz.refl _);have le:(erK x.1 S.fm).1.L=x.1.L:=by
  unfold erK;dsimp only;split <;> rfl
 have he:=hx.dz de le;have ce:ZC (erK x.1 S.fm).1 x.2.1:=fun t ht=>(cx t ht).dz de;have hb:=eJ hx cx;generalize erK x.1 S.fm=y at *
 have hl:Nv V (lvK y.1 S.fm):=IU he (FR _ _) (mU _ _);have cl:ZC (lvK y.1 S.fm) { x.2.1 with fd:=true }:=fun t ht=>by rw[FR];exact ce t ht
 split
 ·exact h
 ·split
  ·exact hx
  ·split
   ·exact hb
   ·split
    ·exact Yy he ce 0
    ·split
     ·exact he
     ·split
      ·exact hl
      ·exact eJ hl cl
theorem kV(V:Nat->Prop)(o:Nat):oP o (Nv V):=kQ (fun _ _ h k l _=>IU h k.s l) (fun H K p h e=>by
 obtain⟨c,l⟩:=eI e
 exact Yx (h.dz (Mu (KZ K).toKpr H K p o (Dz.refl _)) l) c) (fun _ _ _ _ _ h _=>eM h)
end
section
variable {K K':BC}{G:BW}{y x:Int}{n b p:Nat}{V X:Nat->Prop}
theorem mW(hn:3<=n)(h:Sit K G No)(hfi:Fine K.s)(hdd:K.dd=false)(hrm:Rm 0 K)(hT:Told K G)(hsq:Sq 0 K)(hb:b<12) :∃Y,rfK n K b=some (Y,0)/\Fine Y.s/\(∀V,Nv V K->Nv V Y)/\∀o,o<25->Y.L o≠-1->(Y.L o).toNat / 8≠b:=by
 unfold rfK;have eo:AA.ofV K.L (b:Nat)=AA.ofL K.L b:=by unfold AA.ofV;rw[AI om,AP]
 rw[eo];by_cases hl:AA.ofL K.L b=[]
 ·rw[AJ hl];refine⟨K,rfl,hfi,fun _ k=>k,fun o ho hL e=>?_⟩;have:=(GR h.wf.map b).2.2 o ho hL e;rw[hl] at this;cases this
 ·rw[AI hl];obtain⟨o,ho⟩:∃o,o ∈ (AA.ofL K.L b).map Int.toNat:=by
   cases e:AA.ofL K.L b with
   | nil=>exact absurd e hl
   | cons x r=>exact⟨x.toNat,by simp⟩
  obtain⟨ho25,hoL,hob⟩:=(GR h.wf.map b).1 o ho;obtain⟨hF0,hF3⟩:=h.blk o ho25 hoL;rw[hob] at hF0 hF3;have hF3':K.F b≠3:=fun e=>by have:=hF3 e;rw[hdd] at this;cases this
  have hb0:bad3 K.F<=2:=by
   have:¬ 2<bad3 K.F:=fun e=>by have:=h.dds.2 e;rw[hdd] at this;cases this
   omega
  obtain⟨Y,S',eY,tY,fY,-⟩:=Yt h hfi hdd hrm hT (by unfold Sq D9 at *;omega) hb hF0 hF3' (AF.much 3 K.hS (b:Nat)) n;obtain⟨y,ey,G',X',d,hy⟩:=Ep (n:=n) (b:=bad3 K.F) om K G (nwS b (AF.much 3 K.hS (b:Nat)) false) h hfi.on hb hF0 hF3' hdd hrm (AK hT) hsq (AM _);obtain rfl:y=(Y,S',0):=AR (ey.symm.trans eY);rw[eY];dsimp only;rw[AI (by simp)];refine⟨_,rfl,fY,fun V k=>?_,?_⟩
  ·have:=eM (S:=nwS b (AF.much 3 K.hS (b:Nat)) false) k;rw[tY] at this;exact IU this rfl rfl
  ·rcases hy with ⟨_,M,_⟩ | ⟨c,_⟩ | ⟨c,_⟩
   ·exact M.none
   ·exact absurd (show (0:Nat)=14 from c) dc
   ·exact absurd (show (0:Nat)=7 from c) dc
theorem dD(h:Nv V K)(hn:∀o,o<25->K.L o≠-1->(K.L o).toNat / 8≠b):Nv (fun p=>V p\/p / 8=b) K:=fun p hp hV ho=>by
 rcases hV with hV | hV
 ·
  exact h p hp hV ho
 ·
  exfalso
  rcases AA.CN K.L (p:Int) with ⟨o,h1,-,h3,-⟩ | ⟨e,-⟩
  ·
   exact hn o h1 om (by rw[h3,AP];exact hV)
  ·
   exact ho e
theorem mX(hn:3<=n):∀(m:Nat) (K:BC) (G:BW),Sit K G No->Fine K.s->K.dd=false->Rm 0 K->Told K G->Sq 0 K->K.qu.length<m ->∃Y,raK n m K=some (Y,0)/\∀V,Nv V K->Nv (fun p=>V p\/((p / 8:Nat):Int) ∈ K.qu) Y:=by
 intro m
 induction m with
 | zero=>intro K G _ _ _ _ _ _ hm;omega
 | succ m ih=>
  intro K G h hfi hd hrm hT hsq hm;rw[raK,Co h,AI (by rw[hd];simp)];cases hq:K.qu with
  | nil=>exact⟨K,rfl,fun V k p hp hV ho=>k p hp (hV.elim id fun e=>by cases e) ho⟩
  | cons b l=>
   dsimp only;have hok:=h.wf.qu;rw[hq] at hok hm;have hbb:=hok.2 b (by simp);have h1:Sit { K with qu:=l } G No:=h.cntq hok.tail K.rp K.md;obtain⟨y,ey,hy,hyq⟩:=Me hn h1 hfi.on hd hrm hT hsq (b:=b.toNat) om;obtain⟨Y,eY,fY,vY,nY⟩:=mW hn h1 hfi hd hrm hT hsq (b:=b.toNat) om;have e2:y=(Y,0):=AR (ey.symm.trans eY);subst e2;rw[ey];dsimp only;rw[AI (by simp)];obtain⟨G',X',d,hs,st,hx⟩:=hy;have hbd:bad3 Y.F=bad3 K.F+d:=st.bd;rcases hx with ⟨c0,on,hX,dd,rm,td,nx⟩ | ⟨c,_⟩ | ⟨c,_⟩
   ·have nx':Y.nx<=K.nx+8*d:=nx;have hyl:Y.qu.length=l.length:=(by rw[show Y.qu=l from hyq]);obtain⟨Z,eZ,vZ⟩:=ih Y G' (hs.mono (Y:=fun _=>False) (fun b _ e=>absurd e (hX b))) fY dd rm td (by unfold Sq at hsq ⊢;omega) (by rw[hyl];simp at hm;omega);refine⟨Z,eZ,fun V k p hp hV ho=>?_⟩;have k1:Nv (fun p=>V p\/p / 8=b.toNat) Y:=dD (vY V k) nY;refine vZ _ k1 p hp ?_ ho;rcases hV with hV | hV
    ·exact AK (AK hV)
    ·rcases mem_cons.1 hV with e | e
     ·exact AK (AL om)
     ·exact AL (by rw[show Y.qu=l from hyq];exact e)
   ·exact absurd (show (0:Nat)=14 from c) dc
   ·exact absurd (show (0:Nat)=7 from c) dc
theorem dE(q:List Int)(h:0<=x/\x<12):x ∈ AE.Ny q x:=by
 unfold AE.Ny;split
 ·rename_i c;rcases c with c | c
  ·omega
  ·exact c
 ·exact mem_append.2 (AL (mem_singleton.2 rfl))
theorem Ro{q:List Int}(h:y ∈ q):y ∈ AE.Ny q x:=by
 unfold AE.Ny;split
 ·exact h
 ·exact mem_append.2 (AK h)
theorem dF{R L:Nat->Int}:∀(n i:Nat) (q:List Int),y ∈ q->y ∈ awQ R L n i q:=by
 intro n
 induction n with
 | zero=>intro i q h;exact h
 | succ n ih=>
  intro i q h;rw[awQ];refine ih _ _ ?_;split
  ·exact Ro h
  ·exact h
theorem Yz(h:y ∈ K.qu):y ∈ (inK K p).1.qu:=by
 have h1:(rdK K p).1.qu=K.qu:=by
  unfold rdK;dsimp only;split <;> rfl
 unfold inK;dsimp only;generalize rdK K p=X at *
 split
 ·rw[h1];exact h
 ·split
  ·rw[h1];exact h
  ·split
   ·rw[h1];exact h
   ·exact Ro (by rw[h1];exact h)
def Z2 (s:BG):Prop:=∀j,dmg (s.ch j)=0\/dmg (s.ch j)=2
theorem dG(h:Sit K G X)(hon:K.s.on=true)(hd:Z2 K.s)(hp:p<96)(ho:AA.own K.L p≠-1)(hc:¬ Cl K.s p):((p / 8:Nat):Int) ∈ (inK K p).1.qu:=by
 obtain⟨K',e,ha,-,-⟩:=QI h.wf hp hon;have hbad:¬ ((K.tl (pgTo K.s p 4) p).sound=true/\(K.tl (pgTo K.s p 4) p).dmg<2):=by
  rcases AA.CN K.L (p:Int) with ⟨o,h1,-,hL,-⟩ | ⟨e,-⟩
  ·obtain⟨l,D,lv⟩:=h.liv o h1 (by rw[hL];omega);have ht:=lv.tab;rw[hL,AP] at ht;obtain⟨-,hE⟩:=h.rep.ent p _ D ht;have he:∀k,k<4->hurt D (body p o (K.vs o) (K.vc o) l) (pgTo K.s p 4) k=dmg (K.s.ch (4*p+k)):=fun k hk=>Ng h.wf.chip hk (h.rep.is p _ D ht k hk).2;have hm:=ToldR.mends (Dt:=D) (X:=pgTo K.s p 4) (p:=p) (o:=o) (s:=K.vs o) (c:=K.vc o) (l:=l) (g:=K.tl (pgTo K.s p 4) p) hE.len hE.bys hE.may (CW h.wf.chip p 4) (h.wf.tl _ _) (fun k hk=>by
    rw[he k hk]
    rcases hd (4*p+k) with e | e <;> omega)
   obtain⟨-,-,-,-,-,-,-,-,hg⟩:=hm;rw[he 0 om,he 1 om,he 2 om,he 3 om] at hg;rintro ⟨-,hlt⟩;apply hc;intro k hk;rcases hd (4*p+k) with e | e
   ·exact e
   ·exfalso;have:k=0\/k=1\/k=2\/k=3:=om
    rcases this with rfl | rfl | rfl | rfl <;> omega
  ·exact absurd e ho
 unfold inK;rw[e];dsimp only;rw[AI (by simp),AI (by rw[ha.L];exact ho),AI hbad];exact dE _ om
theorem dH(c:Nat):∀(n i:Nat) (K:BC),y ∈ K.qu->y ∈ (tdI c n i K).1.qu:=by
 intro n
 induction n with
 | zero=>intro i K h;exact h
 | succ n ih=>
  intro i K h;rw[tdI];split
  ·exact Yz h
  ·exact ih _ _ (Yz h)
theorem Y0(c:Nat):∀(n i:Nat) (K:BC),Sit K G X->K.s.on=true->Z2 K.s->∀j,j<n->AA.own K.L ((c+i+j) % 96:Nat)≠-1->¬ Cl K.s ((c+i+j) % 96)->(((c+i+j) % 96 / 8:Nat):Int) ∈ (tdI c n i K).1.qu:=by
 intro n
 induction n with
 | zero=>intro i K _ _ _ j hj;omega
 | succ n ih=>
  intro i K h on hd j hj ho hc;obtain⟨e,on',ev,wf',-⟩:=Md h.wf (p:=(c+i) % 96) om on;rw[tdI,AI (by rw[e];simp)];by_cases hj0:j=0
  ·subst hj0;exact dH _ _ _ _ (dG h on hd om ho hc)
  ·have:=ih (i+1) (inK K ((c+i) % 96)).1 (h.eqv ev wf') on' (fun x=>by rw[ev.ch];exact hd x) (j - 1) om;rw[show c+(i+1)+(j - 1)=c+i+j by omega] at this;exact this (by rw[ev.L];exact ho) (fun k=>hc (fun x hx=>by have:=k x hx;rwa [ev.ch] at this))
theorem Cl.eqv(e:Eqv K K')(p:Nat):Cl K'.s p<->Cl K.s p:=by
 unfold Cl;rw[e.ch]
theorem Nv.eqv(h:Nv V K)(e:Eqv K K'):Nv V K':=h.dz (fun j=>AL (by rw[e.ch])) e.L
theorem Ov{B:Nat}{La:Nat->Int}(h:Fnv B K G La)(hB:B<1073741824)(hd:Z2 K.s) :∃Z G',tdK 6 13 K=some (Z,0)/\Fnv (B+1) Z G' La/\Z.qu=[]/\Z.cu=(K.cu+8) % 96/\∀V,Nv V K->Nv (fun p=>V p\/∃j,j<8/\p=(K.cu+j) % 96) Z:=by
 obtain⟨Z,G',e,hZ,hq⟩:=Im h hB;obtain⟨X,Y,Z2,e1,e2,e3,wX,aX,⟨G4,s4,f4,d4,m4,t4,q4⟩,hz⟩:=KY (n:=5) (m:=13) dc dc h.iv.iv h.wd h.dd (h.iv.sq hB);obtain rfl:Z=Z2:=(Prod.mk.inj (AR (e.symm.trans e3))).1;obtain⟨hs,hr,ht⟩:=h.sit;have s1:=hs.pstep;have s2:=s1.eqv aX wX;have s3:Sit (awK X) G No:=s2.eqv (KJ X) (RZ wX);have f2:Wsd (tdI K.cu 8 0 { K with cu:=(K.cu+8) % 96,ca:=K.ca+1 }).1.s:=Ml K.cu 8 0 { K with cu:=(K.cu+8) % 96,ca:=K.ca+1 } h.wd;rw[e1] at f2;have seen:=Y0 K.cu (G:=G) (X:=fun _=>False) 8 0 { K with cu:=(K.cu+8) % 96,ca:=K.ca+1 } s1 h.wd.1.on hd;rw[e1] at seen;have eF:(awK X).F=K.F:=aX.F;have eN:(awK X).nx=K.nx:=aX.nx;have hsq:=h.iv.sq hB;obtain⟨Y2,eY2,vY⟩:=mX (n:=6) dc 13 (awK X) G s3 f2.1 (aX.dd.trans h.dd) (by unfold Rm at hr ⊢;rw[eF];exact hr) (fun b hb x=>ht b hb (by rw[<-eF];exact x)) (by unfold Sq at hsq ⊢;rw[eF,eN];omega) (by have:=s3.wf.qu.len;omega);obtain rfl:Y=Y2:=(Prod.mk.inj (AR (e2.symm.trans eY2))).1;have hcu:Y.cu=(K.cu+8) % 96:=by
  obtain⟨y,ey,G5,X5,d5,s5,st5,hy⟩:=JM (n:=6) om 13 (awK X) G s3 f2.1.on (fun _=>⟨by unfold Rm at hr ⊢;rw[eF];exact hr,fun b hb x=>ht b hb (by rw[<-eF];exact x)⟩) (by unfold Sq at hsq ⊢;rw[eF,eN];omega) (by have:=s3.wf.qu.len;omega);obtain rfl:y=(Y,0):=AR (ey.symm.trans e2);exact st5.cu.trans aX.cu
 refine⟨Z,G',e,hZ,hq,?_,fun V k=>?_⟩
 ·rcases hz with rfl | ⟨ea,-⟩
  ·exact hcu
  ·exact(eG ea).cu.trans hcu
 ·have k1:Nv V { K with cu:=(K.cu+8) % 96,ca:=K.ca+1 }:=k;have k2:Nv (fun p=>V p\/AA.own X.L p = -1\/Cl X.s p) (awK X):=fun p hp hV ho=>by
   rcases hV with hV | hV | hV
   ·exact(k1.eqv aX) p hp hV ho
   ·exact absurd hV ho
   ·exact hV
  have k3:=vY _ k2;have k4:Nv (fun p=>V p\/∃j,j<8/\p=(K.cu+j) % 96) Y:=fun p hp hV ho=>by
   refine k3 p hp ?_ ho;rcases hV with hV | ⟨j,hj,rfl⟩
   ·exact AK (AK hV)
   ·by_cases h1:AA.own X.L ((K.cu+j) % 96:Nat) = -1
    ·exact AK (AL (AK h1))
    ·by_cases h2:Cl X.s ((K.cu+j) % 96)
     ·exact AK (AL (AL h2))
     ·refine AL (dF _ _ _ ?_);have:=seen j hj;rw[show K.cu+0+j=K.cu+j by omega] at this;exact this (by rw[<-show X.L=K.L from aX.L];exact h1) (fun x=>h2 ((Cl.eqv aX _).2 x))
  rcases hz with rfl | ⟨-,pa⟩
  ·exact k4
  ·exact pa _ _ (kV _ 24) k4
end
section
variable {B k o a i c0:Nat}{La L:Nat->Int}{K:BC}{raw:Int}{b:List Nat}{s0:BG}
def hbN (raw:Int) (k i:Nat):Nat:=k*512+(pkN raw 64+i*(1+pkN (wrap64 (raw.tdiv 7)) 15)) % 64*8+pkN (wrap64 (raw.tdiv 3)) 8
def Hf (raw:Int) (a k:Nat):Nat->BG->BG
 | 0,s=>s
 | n+1,s=>flpS (Hf raw a k n s) a (hbN raw k n)
theorem Mx(raw:Int)(hk:k<4)(i:Nat):hbN raw k i<2048/\hbN raw k i / 512=k/\hbN raw k i / 8 % 64=(pkN raw 64+i*(1+pkN (wrap64 (raw.tdiv 7)) 15)) % 64/\hbN raw k i % 8<8:=by
 have h1:=EF (wrap64 (raw.tdiv 3)) 8 dc;unfold hbN;have h2:(pkN raw 64+i*(1+pkN (wrap64 (raw.tdiv 7)) 15)) % 64<64:=Nat.mod_lt _ dc;generalize (pkN raw 64+i*(1+pkN (wrap64 (raw.tdiv 7)) 15)) % 64=z at *
 omega
theorem Hf.flps(hk:k<4)(s:BG):∀n,Flps a k n s (Hf raw a k n s)
 | 0=>rfl
 | n+1=>⟨_,Hf.flps hk s n,AL ⟨_,(Mx raw hk n).1,(Mx raw hk n).2.1,rfl⟩⟩
theorem Ka:∀ {n:Nat} {s s':BG},Flps a k n s s'->∀j,j≠4*a+k->s'.ch j=s.ch j
 | 0,_,_,h,j,_=>by
  have e:_=_:=h
  rw[e]
 | n+1,_,_,h,j,hj=>by
  obtain⟨s1,h1,h2 | ⟨b,-,hk,h2⟩⟩:=h
  ·
   rw[h2];exact Ka h1 j hj
  ·
   rw[h2]
   show (if j=4*a+b / 512 then _ else s1.ch j:Df)=_
   rw[AI (by rw[hk];exact hj)]
   exact Ka h1 j hj
theorem Kb{a:List Nat}:∀n,dmgTo a b n=0->∀i,i<n->a.getD i 0=b.getD i 0
 | 0,_,i,hi=>om
 | n+1,h,i,hi=>by
  have e:dmgTo a b n+(if a.getD n 0=b.getD n 0 then 0 else 1)=0:=h
  by_cases c:a.getD n 0=b.getD n 0
  ·
   rw[AJ c] at e
   by_cases hin:i=n
   ·
    rw[hin];exact c
   ·
    exact Kb n om i om
  ·
   rw[AI c] at e
   omega
theorem Kc{a:List Nat}{v:Nat}(hl:i<a.length)(he:a.getD i 0=b.getD i 0)(hv:v≠a.getD i 0):∀n,dmgTo (a.set i v) b n=dmgTo a b n+(if i<n then 1 else 0)
 | 0=>rfl
 | n+1=>by
  have e0:dmgTo (a.set i v) b (n+1)=dmgTo (a.set i v) b n+(if (a.set i v).getD n 0=b.getD n 0 then 0 else 1):=rfl
  have e1:dmgTo a b (n+1)=dmgTo a b n+(if a.getD n 0=b.getD n 0 then 0 else 1):=rfl
  rw[e0,e1,Kc hl he hv n]
  by_cases e:n=i
  ·
   subst e
   have e2:(a.set n v).getD n 0=v:=by rw[AQ,List.getElem?_set_self hl];rfl
   rw[e2,AI (Nat.lt_irrefl _),AI (by rw[<-he];exact hv),AJ he,AJ (Nat.lt_succ_self _)]
  ·
   have e2:(a.set i v).getD n 0=a.getD n 0:=by rw[AQ,List.getElem?_set_ne om,<-AQ]
   rw[e2]
   by_cases h1:i<n
   ·
    rw[AJ h1,AJ (show i<n+1 by omega)];omega
   ·
    rw[AI h1,AI (show ¬ i<n+1 by omega)];omega
theorem Y1(x b:Nat):x ^^^ 2 ^ b≠x:=fun e=>by
 have h:(x ^^^ 2 ^ b) ^^^ x=0:=by rw[e];exact BA x
 have h2:(x ^^^ 2 ^ b) ^^^ x=2 ^ b:=by rw[Nat.xor_comm x,A9,BA,Aw]
 rw[h2] at h
 exact absurd h (Nat.pos_iff_ne_zero.1 (Nat.two_pow_pos b))
theorem kW(hk:k<4){s:BG}(hs:s.Ok)(h:dmg (s.ch (4*a+k))=0):dmg ((Hf raw a k 2 s).ch (4*a+k))=2:=by
 obtain⟨-,d1,p1,b1⟩:=Mx raw hk 0;obtain⟨-,d2,p2,b2⟩:=Mx raw hk 1;have hq:=EF (wrap64 (raw.tdiv 7)) 15 dc;have hne:hbN raw k 0 / 8 % 64≠hbN raw k 1 / 8 % 64:=by
  rw[p1,p2];have:=EF raw 64 dc;generalize pkN raw 64=f at *
  generalize pkN (wrap64 (raw.tdiv 7)) 15=q at *
  omega
 show dmg ((flpS (flpS s a (hbN raw k 0)) a (hbN raw k 1)).ch (4*a+k))=2;have e1:(flpS s a (hbN raw k 0)).ch (4*a+k)=D4 (s.ch (4*a+k)) (hbN raw k 0 / 8 % 64) (hbN raw k 0 % 8):=by
  show (if 4*a+k=4*a+hbN raw k 0 / 512 then D4 (s.ch (4*a+hbN raw k 0 / 512)) _ _ else _:Df)=_;rw[d1,AJ rfl]
 have e2:(flpS (flpS s a (hbN raw k 0)) a (hbN raw k 1)).ch (4*a+k)=D4 ((flpS s a (hbN raw k 0)).ch (4*a+k)) (hbN raw k 1 / 8 % 64) (hbN raw k 1 % 8):=by
  show (if 4*a+k=4*a+hbN raw k 1 / 512 then D4 ((flpS s a (hbN raw k 0)).ch (4*a+hbN raw k 1 / 512)) _ _ else _:Df)=_;rw[d2,AJ rfl]
 rw[e2,e1];have ok:=hs.ch (4*a+k);have hp1:hbN raw k 0 / 8 % 64<64:=Nat.mod_lt _ dc;have hp2:hbN raw k 1 / 8 % 64<64:=Nat.mod_lt _ dc;generalize hbN raw k 0 / 8 % 64=x at *
 generalize hbN raw k 1 / 8 % 64=y at *
 generalize hbN raw k 0 % 8=u at *
 generalize hbN raw k 1 % 8=v at *
 generalize s.ch (4*a+k)=c at *
 have hz:=Kb 64 (show dmgTo c.now c.tru 64=0 from h);show dmgTo ((c.now.set x (c.now.getD x 0 ^^^ 2 ^ u)).set y ((c.now.set x (c.now.getD x 0 ^^^ 2 ^ u)).getD y 0 ^^^ 2 ^ v)) c.tru 64=2;have hn:=ok.now;have ey:(c.now.set x (c.now.getD x 0 ^^^ 2 ^ u)).getD y 0=c.now.getD y 0:=by rw[AQ,List.getElem?_set_ne hne,<-AQ]
 rw[Kc (by rw[length_set];omega) (by rw[ey];exact hz y hp2) (Y1 _ _) 64,Kc om (hz x hp1) (Y1 _ _) 64,AJ hp1,AJ hp2];have:dmgTo c.now c.tru 64=0:=h;omega
def Hs (L:Nat->Int) (o k c:Nat):Prop:=∃o' k',k'<4/\(o'<o\/o'=o/\k'<k)/\o'<25/\L o'≠-1/\c=4*(L o').toNat+k'
def My (B:Nat) (La:Nat->Int) (L:Nat->Int) (o k:Nat) (K:BC):Prop:=K.L=L/\∃G,Fnv B K G La/\∀c,dmg (K.s.ch c)=0\/(dmg (K.s.ch c)=2/\Hs L o k c)
theorem kT.pth(h:kT B La K):My B La K.L 0 0 K:=by
 obtain⟨G,f,u,-⟩:=h;exact⟨rfl,G,f,fun c=>AK (YQ (u.2 c))⟩
theorem My.skip(h:My B La L o 0 K):My B La L (o+1) 0 K:=by
 obtain⟨e,G,f,d⟩:=h;refine⟨e,G,f,fun c=>(d c).imp id fun ⟨h1,o',k',h2,h3,h4⟩=>⟨h1,o',k',h2,AK ?_,h4⟩⟩;rcases h3 with h3 | ⟨_,h3⟩ <;> omega
theorem My.over(h:My B La L o 4 K):My B La L (o+1) 0 K:=by
 obtain⟨e,G,f,d⟩:=h;refine⟨e,G,f,fun c=>(d c).imp id fun ⟨h1,o',k',h2,h3,h4⟩=>⟨h1,o',k',h2,AK ?_,h4⟩⟩;rcases h3 with h3 | ⟨h3,_⟩ <;> omega
theorem My.next(ho:o<25)(hk:k<4)(hL:L o≠-1)(raw:Int)(h:My B La L o k K):My B La L o (k+1) { K with s:=Hf raw (L o).toNat k 2 K.s }:=by
 obtain⟨e,G,f,d⟩:=h;have wf:=f.sit.1.wf;have hlt:=wf.lt ho (by rw[e];exact hL);rw[e] at hlt;have h0:dmg (K.s.ch (4*(L o).toNat+k))=0:=by
  rcases d (4*(L o).toNat+k) with h | ⟨-,o',k',h2,h3,h4,h5,h6⟩
  ·exact h
  ·exfalso;have hlt2:=wf.lt h4 (by rw[e];exact h5);rw[e] at hlt2;have:=wf.map.inj o o' ho h4 (by rw[e];omega) (by rw[e];exact hL);subst this;omega
 have hF:=Hf.flps (raw:=raw) (a:=(L o).toNat) hk K.s 2;have hf:=Ou hlt.1 2 hF f om;refine⟨e,G,hf.1,fun c=>?_⟩;show dmg ((Hf raw (L o).toNat k 2 K.s).ch c)=0\/(dmg ((Hf raw (L o).toNat k 2 K.s).ch c)=2/\_);by_cases hc:c=4*(L o).toNat+k
 ·rw[hc,kW hk wf.chip h0];exact AL ⟨rfl,o,k,hk,AL ⟨rfl,Nat.lt_succ_self _⟩,ho,hL,rfl⟩
 ·rw[Ka hF c hc];refine(d c).imp id fun ⟨h1,o',k',h2,h3,h4⟩=>⟨h1,o',k',h2,?_,h4⟩;rcases h3 with h3 | ⟨h3,h5⟩
  ·exact AK h3
  ·exact AL ⟨h3,om⟩
def dJ (B:Nat) (La:Nat->Int) (s0:BG) (c0 i:Nat) (K:BC):Prop:=∃G,Fnv (B+2*i) K G La/\Dz s0 K.s/\K.cu=(c0+8*i) % 96/\Nv (fun p=>∃j,j<8*i/\p=(c0+j) % 96) K
theorem My.ptt(h:My B La L 25 0 K):Z2 K.s/\dJ B La K.s K.cu 0 K:=by
 obtain⟨e,G,f,d⟩:=h;have:=f.sit.1.wf.cu;refine⟨fun j=>(d j).imp id fun h=>h.1,G,f,Dz.refl _,om,fun p hp hV ho=>?_⟩;obtain⟨j,hj,-⟩:=hV;omega
theorem dJ.get(hz:Z2 s0)(hi:i<24)(hB:B+50<1073741824)(h:dJ B La s0 c0 i K):∃Y,geK K i=(Y,FX (La i),0)/\ZB Y (dJ B La s0 c0 (i+1)):=by
 obtain⟨G,f,d,cu,nv⟩:=h;obtain⟨Y,e,f2⟩:=Mm f om hi;obtain⟨Y2,e2,-,ev⟩:=Rh f.iv om hi;obtain rfl:Y=Y2:=(Prod.mk.inj (e.symm.trans e2)).1;have d2:Dz s0 Y.s:=by
  have:=kI (Mw s0).kpq K i d
  rwa [e] at this
 have z2:Z2 Y.s:=fun j=>by
  rcases d2 j with h | h
  ·exact AK h
  ·rw[h];exact hz j
 obtain⟨Z,G',e3,f3,-,cu3,nv3⟩:=Ov f2 om z2;have f4:∀m,m=B+2*i+1+1->Fnv m Z G' La:=fun m e=>by subst e;exact f3
 have d4:=kN (P:=fun K=>Dz s0 K.s) (Mw s0).kpq e3 d2;have hca:Y.ca<9223372036854775807:=by have:=f2.iv.ca;omega
 refine⟨Y,e,hca,Z,e3,G',f4 _ om,d4,?_,fun p hp hV ho=>?_⟩
 ·rw[cu3,ev.cu,cu];omega
 ·refine nv3 _ (nv.eqv ev) p hp ?_ ho;obtain⟨j,hj,hp2⟩:=hV;by_cases hj2:j<8*i
  ·exact AK ⟨j,hj2,hp2⟩
  ·refine AL ⟨j - 8*i,om,?_⟩;rw[ev.cu,cu];omega
theorem dJ.fin(h:dJ B La s0 c0 24 K)(ho:o<25)(hL:K.L o≠-1):(K.L o).toNat<96/\K.L o=((K.L o).toNat:Nat)/\∀k,k<4->dmg (K.s.ch (4*(K.L o).toNat+k))=0:=by
 obtain⟨G,f,d,cu,nv⟩:=h;obtain⟨h1,h2⟩:=f.sit.1.wf.lt ho hL;refine⟨h1,h2,nv _ h1 ⟨((K.L o).toNat+96 - c0 % 96) % 96,om,om⟩ ?_⟩;rw[AA.L4 f.sit.1.wf.map ho h2 om];omega
end
set_option linter.unusedSimpArgs false
theorem Y3(g:Nat)(s:BG)(hs:s.Ok)(a k:Nat)(ha:a<96)(hk:k<4)(raw:Int)(hr:Kl raw)(many:Nat)(hm:many<=2)(w:Wd)(h:BE w g s) :Calls prog 29 #[.pointer (some ⟨g,0,none⟩),.int .i64 (a:Nat),.int .i64 (k:Nat),.int .i64 raw,.int .i64 (many:Nat)] w fun e w'=>e=.returned (.tuple #[])/\BE w' g (Hf raw a k many s)/\Chg (·=g) w w':=by
 have hq1:=Et raw hr 64 dc dc;have hq2:=Et (wrap64 (raw.tdiv 7)) (IS _) 15 dc dc;have hq3:=Et (wrap64 (raw.tdiv 3)) (IS _) 8 dc dc;have h1:=EF raw 64 dc;have h2:=EF (wrap64 (raw.tdiv 7)) 15 dc;have h3:=EF (wrap64 (raw.tdiv 3)) 8 dc;have HE:Hid (∀i,hbN raw k i=k*512+(pkN raw 64+i*(1+pkN (wrap64 (raw.tdiv 7)) 15)) % 64*8+pkN (wrap64 (raw.tdiv 3)) 8):=fun i=>rfl;have HC:=BB h;have HS:=BB hs;clear h hr hs;generalize pkN raw 64=f at *
 generalize pkN (wrap64 (raw.tdiv 7)) 15=q at *
 generalize pkN (wrap64 (raw.tdiv 3)) 8=bt at *
 go_enter func29,ntmps29;go_wp2_with fail;refine(hq1 _).mono ?_;rintro e wq ⟨rfl,rfl⟩;clear hq1;go_wp2_with fail
 go_loopw [11] (fun t11 wr=>∃i:Nat,i<=many/\t11=.int .i64 i/\Hid (BE wr g (Hf raw a k i s))/\Hid (Chg (·=g) wq wr)) (fun t11 _=>many - (intOf t11).toNat)
 case atStart=>exact⟨0,om,rfl,HC.out,Chg.refl _ _⟩
 case round=>
  obtain⟨i,hi,rfl,HC1,HG1⟩:=hrel;by_cases hlt:i<many
  ·have hl1:(i:Int)<(many:Int):=om;go_wp2_with fail;refine(hq2 _).mono ?_;rintro e wx ⟨rfl,rfl⟩
   go_upto_region 5 with fail
   have hsm:i*(1+q)<=64:=by
    have:=Nat.mul_le_mul (show i<=4 by omega) (show 1+q<=16 by omega);omega
   have hm1:(wrap64 (((f:Nat):Int)+wrap64 (((i:Nat):Int)*(1+((q:Nat):Int))))).tmod 64=(((f+i*(1+q)) % 64:Nat):Int):=by
    rw[show ((i:Nat):Int)*(1+((q:Nat):Int))=((i*(1+q):Nat):Int) by push_cast;rfl];generalize i*(1+q)=z at *
    rw[show wrap64 ((z:Nat):Int)=(z:Int) by unfold wrap64;omega,show wrap64 (((f:Nat):Int)+((z:Nat):Int))=((f+z:Nat):Int) by unfold wrap64;omega];rw[Av om];omega
   have hb:(f+i*(1+q)) % 64<64:=Nat.mod_lt _ dc;rw[hm1];have hbe:=HE.out i;have hx0:0<i->((f+i*(1+q)) % 64:Nat)≠f:=fun h0=>by
    obtain rfl:i=1:=om
    omega
   generalize (f+i*(1+q)) % 64=b at *
   have HQ2:=BB hq2;clear hm1 hsm hq2;go_wp2_with fail
   go_loopw [13] (fun t13 wx2=>∃x:Nat,x<=i/\t13=.int .i64 x/\wx=wx2) (fun t13 _=>i - (intOf t13).toNat)
   case atStart=>exact⟨0,om,rfl,rfl⟩
   case round=>
    obtain⟨x,hx,rfl,rfl⟩:=hrel;by_cases hlx:x<i
    ·have hx1:(x:Int)<(i:Int):=om;go_wp2_with fail;refine(HQ2.out _).mono ?_;rintro e wy ⟨rfl,rfl⟩;obtain rfl:x=0:=om
     have hc:¬ (wrap64 (((f:Nat):Int)+wrap64 (((0:Nat):Int)*(1+((q:Nat):Int))))).tmod 64=((b:Nat):Int):=fun e=>by
      have h0:=hx0 om;rw[show ((0:Nat):Int)*(1+((q:Nat):Int))=0 by rw[Int.natCast_zero,Int.zero_mul],show wrap64 0=0 by unfold wrap64;omega,Int.add_zero,show wrap64 ((f:Nat):Int)=(f:Int) by unfold wrap64;omega,Av om] at e;omega
     have hc2:=hc;rw[show ((0:Nat):Int)*(1+((q:Nat):Int))=0 by rw[Int.natCast_zero,Int.zero_mul]] at hc2;go_wp2;exact⟨⟨1,om,by go_num,trivial⟩,by simp[intOf];omega⟩
    ·have hx1:¬ (x:Int)<(i:Int):=om;go_wp2_with fail;refine(hq3 _).mono ?_;rintro e wy ⟨rfl,rfl⟩;go_wp2_with fail;rw[show (((k:Nat):Int)*64+((b:Nat):Int))*8+((bt:Nat):Int)=((k*512+b*8+bt:Nat):Int) by omega];have hsk:=(Hf.flps (raw:=raw) (a:=a) hk s i).ok ha HS.out;refine(YB g (Hf raw a k i s) hsk (a:Nat) (k*512+b*8+bt:Nat) _ HC1.out).mono ?_;rw[YO ha om];rintro e wz ⟨rfl,hCz,hGz⟩;have HCz:=BB hCz;have HGz:=BB (HG1.out.trans hGz);rw[<-hbe] at HCz;clear hCz hGz hsk;go_wp2;exact⟨⟨i+1,om,by go_num,HCz,HGz⟩,by simp[intOf];omega⟩
  ·have hl1:¬ (i:Int)<(many:Int):=om;go_wp2;go_end0;obtain rfl:i=many:=om
   exact⟨rfl,HC1.out,HG1.out⟩
section
variable {La F:Nat->Int}{w wr w':Wd}{D n m:Nat}{A:Ad}{Q:BC->Prop}
set_option linter.unusedSimpArgs false
structure Qq (w wr:Wd) (D:Nat) (A:Ad) (Q:BC->Prop) (La:Nat->Int) (n m:Nat) (F:Nat->Int):Prop where
 o:Qp w wr D A Q La n
 v:IB wr m 40 67 F
 m:n<m
theorem Qq.cor{R:BC->Prop}(h:Qq w wr D A Q La n m F)(lo:∀x,(Cor A x\/x=A.p\/x=A.q)\/x=D->w.heap.size<=x)(lw:Lw A D n)(hd:GS R w' D A)(hc:Chg (Cor A) wr w'):Qq w w' D A R La n m F:=
 ⟨h.o.cor lo lw hd hc,h.v.chg hc (fun e=>by have:=lw m (AK (AK e));have:=h.m;omega),h.m⟩
theorem Qq.chg0(h:Qq w wr D A Q La n m F)(hc:Chg No wr w'):Qq w w' D A Q La n m F:=
 ⟨h.o.chg0 hc,h.v.chg hc (fun f=>f),h.m⟩
theorem mc(K:BC)(o:Nat)(ho:o<25):vwF K (12+o)=K.L o:=by
 unfold vwF;rw[AI om,AJ om];congr 1;omega
def kX (B:Nat) (La:Nat->Int) (i:Nat) (K:BC):Prop:=∃G,Fnv (B+2*i) K G La
theorem kX.get{B:Nat}{i:Nat}(hi:i<24)(hB:B+50<1073741824){K:BC}(h:kX B La i K):∃Y,geK K i=(Y,FX (La i),0)/\ZB Y (kX B La (i+1)):=by
 obtain⟨G,f⟩:=h;obtain⟨Y,e,f2⟩:=Mm f om hi;obtain⟨Z,G',e3,f3⟩:=Ob f2 om;have f4:∀m,m=B+2*i+1+1->Fnv m Z G' La:=fun m e=>by subst e;exact f3
 have hca:Y.ca<9223372036854775807:=by have:=f2.iv.ca;omega
 exact⟨Y,e,hca,Z,e3,G',f4 _ om⟩
theorem Y5(a:Option Addr)(len cap:Nat)(O:Nat->Tu)(raw:Int)(w:Wd)(hO:IsOps w a len O)(hlen:len<=1048576) :Calls prog 8 #[.slice a len cap,.int .i64 raw] w fun e w'=>e=.returned (.bool true)/\Below w.heap.size w w':=by
 have p1:=Rl;have qn:=BK;have hbg:=Yi dB dC a len cap O w hO hlen;clear hO;have HB:Hid (2*len+200<1073741824):=by show _<_;omega
 go_enter func8,ntmps8;go_wp2_with fail;refine hbg.mono ?_;rintro e w1 ⟨D,A,La,rfl,hlo,hd,G1⟩;have HLO:=BB hlo;have HLW:=BB (Fr.lw hd);have HS1:=BB G1.size;have HD1:Hid (GS (kT (2*len) La) w1 D A):=hd;have HG1:=BB G1;have HR1:=BB (IB.new w1 30 24 (fun _=>0));have g2:Chg No w1 (w1.alloc (.cells (ints (fun _=>0) 24).toArray 30)):=(Chg.refl _ w1).alloc _;have HG2:=BB (HG1.out.trans g2);have HD2:=BB (HD1.out.chg0 g2);clear hbg hlo hd G1 g2;generalize 2*len=B at *
 go_wp2_with (first | refine Bw rfl rfl ?_ | refine By rfl (.tmp 7) (.tmp 25) rfl w1.heap.size rfl rfl HR1.out ?_);intro w3 I3 G3;have HST:Hid (Qp w w3 D A (kT B La) La w1.heap.size):=⟨HD2.out.far HLW.out (fun k e=>om) G3,I3,HG2.out.trans' G3 (fun k hk e=>by have:=HS1.out;omega)⟩;clear I3 G3 HG1 HG2 HD1 HD2 HR1;generalize w1.heap.size=n at *
 obtain⟨K,hM,hP⟩:=HST.out.d;have hvw:=Rn D A K _ hM;have HK:Hid (Qp w w3 D A (My B La K.L 0 0) La n):=⟨⟨K,hM,hP.pth⟩,HST.out.i,HST.out.t⟩;have HRG:Hid (∀o,o<25->K.L o = -1\/(0<=K.L o/\K.L o<96)):=by obtain⟨G,f,-⟩:=hP;exact f.sit.1.wf.map.rng
 have HVL:Hid (∀o,o<25->vwF K (12+o)=K.L o):=mc K;clear hM hP HST;go_wp2_with fail;refine hvw.mono ?_;rintro e w4 ⟨rfl,G4⟩;have HK4:=BB (HK.out.chg0 G4);have HI4:=BB (IB.new w4 40 67 (fun _=>0));have g5:Chg No w4 (w4.alloc (.cells (ints (fun _=>0) 67).toArray 40)):=(Chg.refl _ w4).alloc _;have HK5:=BB (HK4.out.chg0 g5);have HN4:Hid (n<w4.heap.size):=HK4.out.i.lt;clear hvw G4 g5 HK HK4;go_wp2_with (first | refine Cp rfl rfl ?_ | refine Cq rfl (.tmp 8) (.tmp 31) rfl w4.heap.size rfl rfl HI4.out ?_);intro w6 I6 G6;have HK6:Hid (Qq w w6 D A (My B La K.L 0 0) La n w4.heap.size (vwF K)):=⟨HK5.out.far HLW.out HS1.out (fun k e=>by have:=HN4.out;omega) G6,I6,HN4.out⟩;clear I6 G6 HI4 HK5 HN4;generalize w4.heap.size=m1 at *
 generalize vwF K=VF at *
 generalize K.L=L at *
 go_wp2_with fail
 go_loopw [10] (fun t10 wr=>∃o:Nat,o<=25/\t10=.int .i64 o/\Hid (Qq w wr D A (My B La L o 0) La n m1 VF)) (fun t10 _=>25 - (intOf t10).toNat)
 case atStart=>exact⟨0,om,rfl,HK6.out⟩
 case round=>
  clear HK6;obtain⟨o,ho,rfl,HS⟩:=hrel;by_cases hlt:o<25
  ·have hl1:(o:Int)<=24:=om;have hl0:(0:Int)<=(o:Int):=om;have hl2:(o:Int)<25:=om;obtain⟨c0,-⟩:=HS.out.v.cell (12+o) om;rw[HVL.out o hlt] at c0;rcases HRG.out o hlt with hL | hL
   ·rw[hL] at c0;have HN:Hid (Qq w wr D A (My B La L (o+1) 0) La n m1 VF):=⟨⟨HS.out.o.d.mono (fun X hX=>hX.skip),HS.out.o.i,HS.out.o.t⟩,HS.out.v,HS.out.m⟩;clear HS hL;go_wp2;exact⟨⟨o+1,om,by go_num,HN.out⟩,by simp[intOf];omega⟩
   ·obtain⟨p,hp⟩:∃p:Nat,L o=(p:Int):=⟨(L o).toNat,om⟩;have hp1:p<96:=om;have hp2:(L o).toNat=p:=om;have hp3:L o≠-1:=om;have HP:=BB hp;have HP2:=BB hp2;have HP3:=BB hp3;rw[hp] at c0;have hp0:¬ (p:Int)<0:=om;clear hL hp hp2 hp3;go_wp2_with fail
    go_loopw [11] (fun t11 wr2=>∃k:Nat,k<=4/\t11=.int .i64 k/\Hid (Qq w wr2 D A (My B La L o k) La n m1 VF)) (fun t11 _=>4 - (intOf t11).toNat)
    case atStart=>exact⟨0,om,rfl,HS.out⟩
    case round=>
     clear HS c0;obtain⟨k,hk,rfl,HS⟩:=hrel;by_cases hlk:k<4
     ·have hk1:(k:Int)<4:=om;obtain⟨c0,-⟩:=HS.out.v.cell (12+o) om;rw[HVL.out o hlt,HP.out] at c0;go_wp2_with fail;obtain⟨K,hM,hP⟩:=HS.out.o.d;have hok:K.s.Ok:=(by obtain⟨-,G,f,-⟩:=hP;exact f.sit.1.wf.chip);refine(Y3 A.g K.s hok p k hp1 hlk _ (IS _) 2 dc _ hM.core.chip).mono ?_;rintro e wz ⟨rfl,hC,hG⟩;have hP2:=hP.next hlt hlk HP3.out (wrap64 (wrap64 (raw+(o:Int))+(k:Int)));rw[HP2.out] at hP2;have hwf:Wf { K with s:=Hf (wrap64 (wrap64 (raw+(o:Int))+(k:Int))) p k 2 K.s }:=(by obtain⟨-,G,f,-⟩:=hP2;exact f.sit.1.wf);have hne:D≠A.g:=fun e=>hM.nd (by rw[e];exact AL (AL (AK rfl)));have HN:Hid (Qq w wz D A (My B La L o (k+1)) La n m1 VF):=HS.out.cor HLO.out HLW.out ⟨_,⟨hM.dv.chg hG hne,hM.core.setChip hC hG hwf,hM.nd⟩,hP2⟩ (hG.mono (fun k _ e=>by rw[e];exact AL (AL (AK rfl))));clear hM hP hok hC hG hP2 hwf hne HS c0;go_wp2;exact⟨⟨k+1,om,by go_num,HN.out⟩,by simp[intOf];omega⟩
     ·have hk1:¬ (k:Int)<4:=om;obtain rfl:k=4:=om
      have HN:Hid (Qq w wr D A (My B La L (o+1) 0) La n m1 VF):=⟨⟨HS.out.o.d.mono (fun X hX=>hX.over),HS.out.o.i,HS.out.o.t⟩,HS.out.v,HS.out.m⟩;clear HS;go_wp2;exact⟨⟨o+1,om,by go_num,HN.out⟩,by simp[intOf];omega⟩
  ·have hl1:¬ (o:Int)<=24:=om;obtain rfl:o=25:=om
   obtain⟨K,hM,hP⟩:=HS.out.o.d;obtain⟨hz,ht⟩:=hP.ptt;have HPS:Hid (GS (dJ B La K.s K.cu 0) wr D A):=⟨K,hM,ht⟩;have HZ:=BB hz;clear hM hP hz ht;go_wp2_with (first | refine CZ rfl _ (Bg rfl rfl HS.out.o.i) ?_);refine(LX (dJ B La K.s K.cu) D A La wr HPS.out (fun i hi X hX=>hX.get HZ.out hi (by have:=HB.out;omega))).mono ?_;rintro e w8 ⟨rfl,hd8,G8⟩;have HK8:Hid (Qp w w8 D A (dJ B La K.s K.cu 24) La n):=HS.out.o.cor HLO.out HLW.out hd8 G8;clear hd8 G8 HPS HS HZ;generalize K.s=s0 at *
   generalize K.cu=c0 at *
   clear HRG HVL;obtain⟨K2,hM2,hP2⟩:=HK8.out.d;have hvw:=Rn D A K2 _ hM2;have HK:Hid (Qp w w8 D A (·=K2) La n):=⟨⟨K2,hM2,rfl⟩,HK8.out.i,HK8.out.t⟩;have HOK:Hid K2.s.Ok:=(by obtain⟨G,f,-⟩:=hP2;exact f.sit.1.wf.chip);have HPF:Hid (kX (B+48) La 0 K2):=(by obtain⟨G,f,-⟩:=hP2;exact⟨G,f⟩);have HRG:Hid (∀o,o<25->K2.L o = -1\/(0<=K2.L o/\K2.L o<96)):=(by obtain⟨G,f,-⟩:=hP2;exact f.sit.1.wf.map.rng);have HVL:Hid (∀o,o<25->vwF K2 (12+o)=K2.L o):=mc K2;have HCL:Hid (∀o,o<25->∀p:Nat,K2.L o=(p:Int)->∀k,k<4->dmg (K2.s.ch (4*p+k))=0):=fun o ho p hp k hk=>by
    obtain⟨-,h2,h3⟩:=hP2.fin ho om;have:=h3 k hk
    rwa [hp,AP] at this
   clear hM2 hP2 HK8;go_wp2_with fail;refine hvw.mono ?_;rintro e w9 ⟨rfl,G9⟩;have HK9:=BB (HK.out.chg0 G9);have HI9:=BB (IB.new w9 40 67 (fun _=>0));have g10:Chg No w9 (w9.alloc (.cells (ints (fun _=>0) 67).toArray 40)):=(Chg.refl _ w9).alloc _;have HK10:=BB (HK9.out.chg0 g10);have HN9:Hid (n<w9.heap.size):=HK9.out.i.lt;clear hvw G9 g10 HK HK9;go_wp2_with (first | refine Cp rfl rfl ?_ | refine Cq rfl (.tmp 13) (.tmp 66) rfl w9.heap.size rfl rfl HI9.out ?_);intro w11 I11 G11;have HK11:Hid (Qq w w11 D A (·=K2) La n w9.heap.size (vwF K2)):=⟨HK10.out.far HLW.out HS1.out (fun k e=>by have:=HN9.out;omega) G11,I11,HN9.out⟩;clear I11 G11 HI9 HK10 HN9;generalize w9.heap.size=m2 at *
   generalize vwF K2=VF2 at *
   go_wp2_with fail
   go_loopw [15] (fun t15 wx=>∃o:Nat,o<=25/\t15=.int .i64 o/\Hid (Qq w wx D A (·=K2) La n m2 VF2)) (fun t15 _=>25 - (intOf t15).toNat)
   case atStart=>exact⟨0,om,rfl,HK11.out⟩
   case round=>
    clear HK11;obtain⟨o,ho,rfl,HS⟩:=hrel;by_cases hlt:o<25
    ·have hl1:(o:Int)<=24:=om;have hl0:(0:Int)<=(o:Int):=om;have hl2:(o:Int)<25:=om;obtain⟨c0,-⟩:=HS.out.v.cell (12+o) om;rw[HVL.out o hlt] at c0;rcases HRG.out o hlt with hL | hL
     ·rw[hL] at c0;clear hL;go_wp2;exact⟨⟨o+1,om,by go_num,HS.out⟩,by simp[intOf];omega⟩
     ·obtain⟨p,hp⟩:∃p:Nat,K2.L o=(p:Int):=⟨(K2.L o).toNat,om⟩;have hp1:p<96:=om;have HP:=BB hp;have hcl:=HCL.out o hlt p hp;have HC:=BB hcl;rw[hp] at c0;have hp0:¬ (p:Int)<0:=om;clear hL hp hcl;go_wp2_with fail
      go_loopw [16] (fun t16 wx2=>∃k:Nat,k<=4/\t16=.int .i64 k/\Hid (Qq w wx2 D A (·=K2) La n m2 VF2)) (fun t16 _=>4 - (intOf t16).toNat)
      case atStart=>exact⟨0,om,rfl,HS.out⟩
      case round=>
       clear HS c0;obtain⟨k,hk,rfl,HS⟩:=hrel;by_cases hlk:k<4
       ·have hk1:(k:Int)<4:=om;obtain⟨c0,-⟩:=HS.out.v.cell (12+o) om;rw[HVL.out o hlt,HP.out] at c0;go_wp2_with fail;obtain⟨K3,hM,rfl⟩:=HS.out.o.d;refine(Qc A.g K3.s HOK.out p k hp1 hlk _ hM.core.chip).mono ?_;rintro e wz ⟨rfl,G⟩;have HN:=BB (HS.out.chg0 G);rw[HC.out k hlk];generalize (K3.s.ch (4*p+k)).worst=wo at *
        clear hM G HS c0;go_wp2;exact⟨⟨k+1,om,by go_num,HN.out⟩,by simp[intOf];omega⟩
       ·have hk1:¬ (k:Int)<4:=om;obtain rfl:k=4:=om
        go_wp2;exact⟨⟨o+1,om,by go_num,HS.out⟩,by simp[intOf];omega⟩
    ·have hl1:¬ (o:Int)<=24:=om;obtain rfl:o=25:=om
     have HPS:Hid (GS (kX (B+48) La 0) wr D A):=HS.out.o.d.mono (fun X e=>by rw[e];exact HPF.out);go_wp2_with (first | refine CZ rfl _ (Bg rfl rfl HS.out.o.i) ?_);refine(LX (kX (B+48) La) D A La _ HPS.out (fun i hi X hX=>hX.get hi (by have:=HB.out;omega))).mono ?_;rintro e wy ⟨rfl,hd,G⟩;have HKy:Hid (Qp w wy D A (kX (B+48) La 24) La n):=HS.out.o.cor HLO.out HLW.out hd G;have HT:Hid (Below w.heap.size w wy):=HKy.out.t.below (fun _ f=>f.elim) (AM _);clear hd G HPS HS HKy;go_wp2;go_ret;exact⟨rfl,HT.out⟩
end
end Go.Proofs.YtbhbilcieodbhaaGreat
