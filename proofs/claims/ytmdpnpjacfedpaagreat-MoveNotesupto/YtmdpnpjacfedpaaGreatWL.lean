/-
  Lemmas.
-/
import Derived.Test.YtmdpnpjacfedpaaGreatP13
set_option maxRecDepth 1000000
set_option maxHeartbeats 16000000
set_option linter.unusedSimpArgs false
namespace Go.Proofs.YtmdpnpjacfedpaaGreat
open Go.Proofs.Tryz
open Go.RowKit
structure Nte (K:BH) (T:Fq) (p:Nat) (t:CP) (D:List Nat) (cc:AA.Bn):Prop where
 rep:JY K.s T
 tab:T p=some (t,D)
 new:AE.newest (tbL T 96) 24 (-1)=some (fnd p t)
 doc:AA.gZ D
 rd:AA.rdC D=cc
 B:bad3 K.F<=2->∀b,b<12->cc.B b=(K.F b == 3)
 C:K.ca<8->((K.cu:Int)+768 - (K.ca:Int)*8).tmod 96=cc.C
 cu:K.cu<96
theorem Lnv.note{B:Nat}{K:BH}{G:Bk}{La:Nat->Int}(h:Lnv B K G La):∃p t D cc,Nte K G.T p t D cc:=by
 obtain⟨_,X,hs,hd⟩:=h.iv;obtain⟨D,hT,hD,hN⟩:=hs.point h.l24;obtain⟨_,hcu,hTl⟩:=hs.cn h.l24;have hDoc:AA.gZ D:=by
  rw[hD];exact(AA.SB _ (AA.FA _) (AA.CI _)).1 ⟨(AA.Fg _ hTl).symm.okc (IM hTl),(AA.Fg _ hTl).wrL⟩
 have hL:=AA.Fg _ hTl;refine⟨_,_,D,AA.rdC D,⟨hs.rep,hT,hN,hDoc,rfl,fun hb b hb12=>?_,fun hc=>?_,?_⟩⟩
 ·rw[hD,hL.B b hb12];have hdd:K.dd=false:=by
   cases e:K.dd
   ·rfl
   ·have:=hs.dds.1 e;omega
  have hto:=(hd hdd).2.2 b hb12;cases e:G.c.B b
  ·by_cases e3:K.F b=3
   ·rw[hto e3] at e;cases e
   ·simp[e3]
  ·simp[hs.cb b hb12 e]
 ·rw[hD,hL.C];have:=hTl.C;rw[Av om];omega
 ·have:=hTl.C;omega
theorem Rg(a:Option Addr)(len cap:Nat)(O:Nat->Zw)(w:Wd)(hO:IsOps w a len O)(hlen:len<=1048576) :Calls prog 7 #[.slice a len cap] w fun e w'=>e=.returned (.bool true)/\Below w.heap.size w w':=by
 have p2:=Eu;have HO:=BE hO;clear hO;go_enter func7,ntmps7;go_wp2_with fail;refine(kN w).mono ?_;rintro e w1 ⟨rfl,G1⟩;have HG1:=BE G1;clear G1;go_wp2_with fail;refine(Jz w1).mono ?_;rintro e w2 ⟨A,K,G,rfl,hF,hAg,hK,hB,G2⟩;have HA:Hid (∀k,Cor A k->w.heap.size<=k):=fun k hk=>by
  obtain⟨f0,f1,f2,f3,f4,f5,f6,f7,f8,f9⟩:=hF;have:=HG1.out.size;rcases hk with e | e | e | e | e | e | e | e <;> omega
 have G3:Chg No w2 (w2.alloc (.cells (ints (fun _=>0) 24).toArray 31)):=(Chg.refl _ _).alloc _;have HP:Hid (VF w A w2.heap.size 0 (w2.alloc (.cells (ints (fun _=>0) 24).toArray 31))):=
  ⟨⟨K,G,fun _=>0,hK.chg0 G3,IB.new w2 31 24 (fun _=>0),hB.inv⟩,hK.apart (AM _),fun k hk=>by
   rcases hk with hk | rfl
   ·
    exact HA.out k hk
   ·
    exact(HG1.out.trans G2).size,(HG1.out.trans G2).trans G3⟩
 clear hF hAg hK hB G2 HA HG1 G3;go_wp2_with fail
 go_loopw [7] (fun t7 wr=>∃i:Nat,i<=len/\t7=.int .i64 i/\VF w A w2.heap.size i wr) (fun t7 _=>len - (intOf t7).toNat)
 case atStart=>exact⟨0,om,rfl,HP.out⟩
 case round=>
  clear HP;obtain⟨ar,har⟩:∃n,w2.heap.size=n:=⟨_,rfl⟩;rw[har] at hrel ⊢;clear har;obtain⟨i,hi,rfl,hS⟩:=hrel;by_cases hlt:i<len
  ·have hl1:(i:Int)<(len:Int):=om;have hl0:(0:Int)<=(i:Int):=om;obtain⟨hok,hc⟩:=HO.out;rcases hc with hc | ⟨qa,oa,rfl,hqa,hc⟩
   ·omega
   obtain⟨x0,x1,x2⟩:=(hc i hlt).chg hS.chg hqa;obtain⟨o0,o1,o2⟩:=hok i hlt;obtain⟨K,G,La,hK,hI,hv⟩:=hS.st;have hstep:=Rc A wr K G La i ar hK hI hS.nar hv om (O i).k (O i).a (O i).x o0 o1 o2;have HS:=BE hS;have HOX:Hid (OprAt w qa (oa+i*3) (O i)):=hc i hlt;have HQA:=BE hqa;have hpk:=Cx (O i).k o0.1 o0.2 10 dc dc;generalize O i=oi at *
   clear hok hc hS o0 o1 o2 hK hI hv hqa;go_wp2_with fail;refine hstep.mono ?_;rintro x w3 ⟨rfl,K3,G3,L3,hK3,hI3,hv3,-,C3⟩;have HX:Hid (OprAt w qa (oa+i*3) oi):=HOX.out;have HS3:=BE (HS.out.next ⟨K3,G3,L3,hK3,hI3,hv3⟩ C3);have HK3:=BE hK3;have HI3:=BE hI3;have HV3:=BE hv3;clear hstep x0 x1 x2 C3 HS hK3 hI3 hv3;go_wp2_with fail;refine(EW A w3 K3 HK3.out).mono ?_;rintro x w4 ⟨rfl,hK4,C4⟩;have HI4:=BE (IB.new w4 39 67 (fun _=>0));have HK4:=BE hK4;have HGp:=BE C4;clear hK4 C4 HK3;go_wp2_with (first | refine Bw rfl rfl ?_ | refine By rfl (.tmp 9) (.tmp 43) rfl w4.heap.size rfl rfl HI4.out ?_);intro w5 I5 G5;have G45:Chg No w4 w5:=((Chg.refl No w4).alloc _).trans' G5 (fun k hk h=>om);have G35:=HGp.out.trans G45;have HK5:=BE (HK4.out.chg0 G45);have HS5:=BE (HS3.out.next ⟨K3,G3,L3,HK5.out,HI3.out.chg G35 (fun f=>f),HV3.out⟩ (Chg.newA G35));have HB5:=BE (HI3.out.chg G35 (fun f=>f));have HVb:=BE I5;obtain⟨nb,hnb⟩:∃n,w4.heap.size=n:=⟨_,rfl⟩;rw[hnb] at HVb;rw[hnb];clear G45 G35 G5 I5 HGp HI4 HK4 HI3 HS3 hnb;have h8:=HV3.out.c8;obtain⟨pp,tt,DD,cc,hN⟩:=HV3.out.note;have HN:=BE hN;have hbn:=JB K3;have hbs:=fun w=>JC (vwF K3) w;generalize hnn:bdN (vwF K3) 12=n at *
   clear hN hnn;go_wp2_with (refine Dv rfl (.tmp 9) rfl nb rfl HVb.out ?_);refine(hbs w5).mono ?_;rintro x w6 ⟨rfl,C6⟩;have HK6:=BE (HK5.out.chg0 C6);have HV6:=BE (HVb.out.chg C6 (fun f=>f));have HB6:=BE (HB5.out.chg C6 (fun f=>f));have HS6:=BE (HS5.out.next ⟨K3,G3,L3,HK6.out,HB6.out,HV3.out⟩ (Chg.newA C6));clear C6 HK5 HVb HB5 HS5 hbs;by_cases h2:2<n
   ·have h2z:(2:Int)<(n:Int):=om;go_wp2;go_ret;exact⟨rfl,GQ HS6.out.chg (fun k f=>f.elim) (AM _)⟩
   ·have h2z:¬ (2:Int)<(n:Int):=om;have hb2:bad3 K3.F<=2:=om;have hca:=h8 hb2;have hBB:=HN.out.B hb2;have hCC:=HN.out.C hca;have hcu:=HN.out.cu;clear h8 hbn h2;go_wp2_with fail;refine(Pn A.g K3.s HK6.out.wf.chip G3.T HN.out.rep w6 HK6.out.chip).mono ?_;rintro e w7 ⟨v7,rfl,hl,C7⟩;obtain⟨a7,cap7,rfl,hcap7,hll⟩:=hl;have HL:Hid (AE.Sl w7 (.slice a7 (tbL G3.T 96).length cap7) (tbL G3.T 96)):=⟨a7,cap7,rfl,hcap7,hll⟩;have HK7:=BE (HK6.out.chg0 C7);have HV7:=BE (HV6.out.chg C7 (fun f=>f));have HB7:=BE (HB6.out.chg C7 (fun f=>f));have HS7:=BE (HS6.out.next ⟨K3,G3,L3,HK7.out,HB7.out,HV3.out⟩ (Chg.newA C7));clear C7 hcap7 hll HK6 HV6 HB6 HS6;go_wp2_with fail;refine(Sv A.g K3.s HK7.out.wf.chip G3.T HN.out.rep pp tt DD HN.out.tab w7 HK7.out.chip a7 _ cap7 rfl HL.out HN.out.new HN.out.doc cc HN.out.rd).mono ?_;rintro e w8 ⟨rfl,C8⟩;have HK8:=BE (HK7.out.chg0 C8);have HV8:=BE (HV7.out.chg C8 (fun f=>f));have HB8:=BE (HB7.out.chg C8 (fun f=>f));have HS8:=BE (HS7.out.next ⟨K3,G3,L3,HK8.out,HB8.out,HV3.out⟩ (Chg.newA C8));have HN2:=BE (AA.Ck.new w8 AA.ck0);have HGA:Hid (Chg No w8 (w8.alloc (.cells (AA.ckA AA.ck0) 55))):=(Chg.refl _ w8).alloc _;clear C8 HK7 HV7 HB7 HS7 HL;go_wp2_with (first | refine AA.CK rfl rfl w8.heap.size rfl ?_ | refine AA.Bv rfl (.tmp 10) (.tmp 52) rfl w8.heap.size rfl rfl HN2.out ?_);intro w9 N9 G9;have C9:Chg No w8 w9:=HGA.out.trans' G9 (fun k hk h=>om);have HK9:=BE (HK8.out.chg0 C9);have HV9:=BE (HV8.out.chg C9 (fun f=>f));have HB9:=BE (HB8.out.chg C9 (fun f=>f));have HS9:=BE (HS8.out.next ⟨K3,G3,L3,HK9.out,HB9.out,HV3.out⟩ (Chg.newA C9));have HN9:=BE N9;obtain⟨nc,hnc⟩:∃n,w8.heap.size=n:=⟨_,rfl⟩;rw[hnc] at HN9;rw[hnc];clear N9 G9 C9 HN2 HGA HK8 HV8 HB8 HS8 hnc;have k1:=HN9.out.C;obtain⟨k2,-⟩:=HV9.out.cell 38 dc;obtain⟨k3,-⟩:=HV9.out.cell 39 dc;rw[show vwF K3 38=(K3.cu:Nat) from rfl] at k2;rw[show vwF K3 39=(K3.ca:Nat) from rfl] at k3;have hcaz:(K3.ca:Int)<8:=om;have hcuz:(K3.cu:Int)<96:=om;have hC0:0<=cc.C/\cc.C<96:=(by rw[<-hCC,Av om];omega);have hc8:¬ (8:Int)<=(K3.ca:Int):=om;rw[<-hCC] at k1;go_wp2_with fail
    go_loopw [12] (fun t12 wr=>∃k:Nat,k<=12/\t12=.int .i64 k/\IB wr nb 39 67 (vwF K3)/\AA.Ck wr nc cc/\CoreAt A wr K3/\IB wr ar 31 24 L3/\VF w A ar (i+1) wr) (fun t12 _=>12 - (intOf t12).toNat)
    case atStart=>exact⟨0,om,rfl,HV9.out,HN9.out,HK9.out,HB9.out,HS9.out⟩
    case round=>
     clear HV9 HN9 HK9 HB9 HS9 k1 k2 k3;obtain⟨k,hk,rfl,hV,hNn,hK,hBa,hS⟩:=hrel;by_cases hk2:k<12
     ·have hk1:(k:Int)<12:=om;have hk0:(0:Int)<=(k:Int):=om;have j1:=hNn.B k hk2;obtain⟨j2,-⟩:=hV.cell k om;rw[hBB k hk2] at j1;rw[Pp K3 hk2] at j2;have HV:=BE hV;have HNn:=BE hNn;have HK:=BE hK;have HBa:=BE hBa;have HS:=BE hS;clear hV hNn hK hBa hS;generalize K3.F k=z at *
      have hz:(z=3/\(z == 3)=true)\/(¬ z=3/\(z == 3)=false):=by
       by_cases e:z=3
       ·exact AK ⟨e,by simp[e]⟩
       ·exact AL ⟨e,by simp[e]⟩
      have CD:Chg No wr wr.drew:=(Chg.refl No wr).drewN 1;have HVd:=BE (HV.out.chg CD (fun f=>f));have HNd:=BE (HNn.out.chg CD (fun f=>f));have HKd:=BE (HK.out.chg0 CD);have HBd:=BE (HBa.out.chg CD (fun f=>f));have HSd:=BE (HS.out.next ⟨K3,G3,L3,HKd.out,HBd.out,HV3.out⟩ (Chg.newA CD));clear CD HV HNn HK HBa HS;rcases hz with ⟨z1,z2⟩ | ⟨z1,z2⟩
      ·rw[z2] at j1;subst z1;go_wp2_with fail
       go_region_held3 (fun wx=>wx.cell? ⟨nc,25+k,none⟩=some (.bool true)/\wx.cell? ⟨nb,k,none⟩=some (.int .i64 3)) (first | exact⟨j1,j2⟩) (fail)
       go_wp2;exact⟨⟨k+1,om,by go_num,HVd.out,HNd.out,HKd.out,HBd.out,HSd.out⟩,by simp[intOf];omega⟩
      ·rw[z2] at j1;go_wp2_with fail
       go_region_held3 (fun wx=>wx.cell? ⟨nc,25+k,none⟩=some (.bool false)/\wx.cell? ⟨nb,k,none⟩=some (.int .i64 z)) (first | exact⟨j1,j2⟩) (fail)
       go_wp2;exact⟨⟨k+1,om,by go_num,HVd.out,HNd.out,HKd.out,HBd.out,HSd.out⟩,by simp[intOf];omega⟩
     ·have hk1:¬ (k:Int)<12:=om;obtain⟨y0,-,-⟩:=HX.out.chg hS.chg HQA.out;have HV:=BE hV;have HS:=BE hS;obtain⟨k4,-⟩:=hV.cell 39 dc;rw[show vwF K3 39=(K3.ca:Nat) from rfl] at k4;clear hV hNn hK hBa hS;generalize pkN oi.k 10=kk at *
      go_wp2_with fail;refine(hpk wr).mono ?_;rintro e wz ⟨rfl,rfl⟩;by_cases h7:(kk:Int)=7
      ·go_wp2;exact⟨⟨i+1,om,by go_num,HS.out⟩,by simp[intOf];omega⟩
      ·go_wp2;exact⟨⟨i+1,om,by go_num,HS.out⟩,by simp[intOf];omega⟩
  ·have hl1:¬ (i:Int)<(len:Int):=om;have HS:=BE hS;clear hS;go_wp2;go_ret;exact⟨rfl,GQ HS.out.chg (fun k f=>f.elim) (AM _)⟩
end Go.Proofs.YtmdpnpjacfedpaaGreat
