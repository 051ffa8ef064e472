/-
  Lemmas.
-/
import Derived.Test.YtbhbilcieodbhaaGreatOm
import Derived.Test.YtbhbilcieodbhaaGreatP12
set_option maxRecDepth 1000000
set_option maxHeartbeats 16000000
set_option linter.unusedSimpArgs false
namespace Go.Proofs.YtbhbilcieodbhaaGreat
open Go.Proofs.Tryz
open Go.RowKit
section
variable {w wr w':Wd}{D:Nat}{A:Ad}{Q:BC->Prop}
set_option linter.unusedSimpArgs false
structure OJ (w wr:Wd) (D:Nat) (A:Ad) (Q:BC->Prop):Prop where
 d:QD Q wr D A
 t:Chg No w wr
theorem OJ.cor{R:BC->Prop}(h:OJ w wr D A Q)(lo:∀k,Cor A k->w.heap.size<=k)(hd:QD R w' D A)(hc:Chg (Cor A) wr w'):OJ w w' D A R:=
 ⟨hd,h.t.trans' hc (fun k hk e=>by have:=lo k e;omega)⟩
theorem OJ.chg0(h:OJ w wr D A Q)(hc:Chg No wr w'):OJ w w' D A Q:=⟨h.d.chg0 hc,h.t.trans hc⟩
theorem OJ.far(h:OJ w wr D A Q){n:Nat}(lw:Lw A D n)(hw:w.heap.size<=n){S:Nat->Prop}(hS:∀k,S k->n<=k)(hc:Chg S wr w'):OJ w w' D A Q:=
 ⟨jB.far (P:=fun _ _=>Q) (B:=0) (La:=fun _=>0) h.d lw hS hc,h.t.trans' hc (fun k hk e=>by have:=hS k e;omega)⟩
theorem QD.lw(h:QD Q w D A):Lw A D w.heap.size:=jB.lw (P:=fun _ _=>Q) (B:=0) (La:=fun _=>0) h
theorem Kz(K:BC)(o:Nat)(ho:o<25):Pl K (12+o)=K.L o:=by
 unfold Pl;rw[AI om,AJ om];congr 1;omega
theorem jS(K:BC)(b:Nat)(hb:b<12):Pl K (40+b)=K.hR b:=by
 unfold Pl;rw[AI om,AI om,AI om,AI om,AI om,AJ om];congr 1;omega
theorem lM(p:Nat)(hp:p<96):IntKind.i64.wrap (((p:Nat):Int) / 8)=((p / 8:Nat):Int):=by
 simp only[IntKind.wrap];show (if (true && decide (((p:Nat):Int) / 8 % 18446744073709551616 ≥ 9223372036854775808))=true then ((p:Nat):Int) / 8 % 18446744073709551616 - 18446744073709551616 else ((p:Nat):Int) / 8 % 18446744073709551616)=_;rw[AI (by simp;omega)];omega
theorem QK(of times:Int)(hof:jA of)(htm:jA times)(w:Wd) :Calls prog 4 #[.int .i64 of,.int .i64 times] w fun e w'=>e=.returned (.bool true)/\Below w.heap.size w w':=by
 have p2:=Fi;have qn:=BJ;have hpk:=RK of hof 24 dc dc;have hpt:=RK times htm 700 dc dc;have hs:=XD of 24 dc;have hT:=XD times 700 dc;generalize pkN of 24=s at *
 generalize pkN times 700=T at *
 have HPT:=BB hpt;clear hpt hof htm;go_enter func4,ntmps4;go_wp2_with fail;refine(mQ w).mono ?_;rintro e w1 ⟨rfl,G1⟩;have HG1:=BB G1;clear G1;go_wp2_with fail;refine(YS w1).mono ?_;rintro e w2 ⟨D,A,K,G,rfl,hA,hD,hM,⟨⟨hB,hL⟩,hS0,hcu⟩,G2⟩;have HLO:Hid (∀k,Cor A k->w.heap.size<=k):=fun k hk=>AY HG1.out.size (hA k hk);have HT2:Hid (OJ w w2 D A (·=K)):=⟨⟨K,hM,rfl⟩,HG1.out.trans G2⟩;have HF:=BB (TP hs hB hL hS0 hcu);clear hA hD hM hB hL hS0 hcu G2 HG1;go_wp2_with fail;refine(hpk _).mono ?_;rintro e w3 ⟨rfl,rfl⟩;clear hpk;go_wp2_with fail;refine(Gx 1 _).mono ?_;rintro e w4 ⟨rfl,hA4,G4⟩;have HT4:=BB (HT2.out.chg0 G4);have hwr:=TN (Q:=(·=K)) (R:=fun Z=>∃G',Tir s 1 2 Z G' (upd (fun _=>0) s 1)) D A w4 HT4.out.d s hs 1 (fun X hX=>by rw[hX];exact HF.out) w3.heap.size 0 160 hA4.at_ (fun e=>by
  obtain⟨K',h1,-⟩:=HT2.out.d
  exact h1.core.apart (AM _) e)
 clear hA4 G4 HT2;go_wp2_with fail;refine hwr.mono ?_;rintro e w5 ⟨rfl,hd5,G5⟩;have HT5:Hid (OJ w w5 D A (fun Z=>∃G',Tir s 1 2 Z G' (upd (fun _=>0) s 1))):=HT4.out.cor HLO.out hd5 G5;clear hwr hd5 G5 HT4 HF;generalize hLa:upd (fun _=>(0:Int)) s 1=La at *
 have HLA:Hid (La s=1):=by rw[<-hLa];exact Be _ _ _
 clear hLa;go_wp2_with fail
 go_loopw [10] (fun t10 wr=>∃i:Nat,i<=T+1/\t10=.int .i64 i/\Hid (OJ w wr D A (fun Z=>∃G',Tir s (1+i) (2+2*i) Z G' La))) (fun t10 _=>T+1 - (intOf t10).toNat)
 case atStart=>exact⟨0,om,rfl,HT5.out⟩
 case round=>
  clear HT5;obtain⟨i,hi,rfl,HS⟩:=hrel;go_wp2_with fail;refine(HPT.out _).mono ?_;rintro e wq ⟨rfl,rfl⟩;by_cases hlt:i<T+1
  ·have hl1:(i:Int)<=(T:Int):=om;obtain⟨K,hM,G,hK⟩:=HS.out.d;have hvw:=RF D A K _ hM;have hrng:=hK.fn.sit.1.wf.lt (by omega:s<25) hK.L;obtain⟨p,hp⟩:∃p:Nat,K.L s=(p:Int):=⟨_,hrng.2⟩;have hp96:p<96:=(by have:=hrng.1;rw[hp,AP] at this;exact this);have HK:Hid (OJ w wq D A (·=K)):=⟨⟨K,hM,rfl⟩,HS.out.t⟩;have HLB:Hid (lb s K=p / 8):=(by show (K.L s).toNat / 8=_;rw[hp];rfl);have HCA:=BB (hK.call hs om om);have HPL:=BB hp;have hp0:¬ (p:Int)<0:=om;clear hM hK hrng hp HS;go_wp2_with fail;refine hvw.mono ?_;rintro e w6 ⟨rfl,G6⟩;have HK6:=BB (HK.out.chg0 G6);have HI6:=BB (IB.new w6 40 67 (fun _=>0));have g7:Chg No w6 (w6.alloc (.cells (ints (fun _=>0) 67).toArray 40)):=(Chg.refl _ w6).alloc _;have HK7:=BB (HK6.out.chg0 g7);have HL6:=BB HK6.out.d.lw;have HW6:=BB HK6.out.t.size;clear hvw G6 g7 HK HK6;go_wp2_with (first | refine Ch rfl rfl ?_ | refine Ci rfl (.tmp 11) (.tmp 50) rfl w6.heap.size rfl rfl HI6.out ?_);intro w8 I8 G8;have HV8:=BB I8;have HK8:=BB (HK7.out.far HL6.out HW6.out (fun k e=>om) G8);clear I8 G8 HI6 HK7;generalize w6.heap.size=m1 at *
   obtain⟨c0,-⟩:=HV8.out.cell (12+s) om;rw[Kz K s om,HPL.out] at c0;have hs0:(0:Int)<=(s:Int):=om;have hs1:(s:Int)<25:=om;go_wp2_with fail;refine(X9 (Q:=(·=K)) (R:=fun Z=>(∃G',Tir s (1+i+1) (2+2*i+2) Z G' La)/\Pmv s K.mv (K.L s) 16 Z/\(Z.rp=K.rp\/480<=K.hR (lb s K))) D A _ HK8.out.d s hs (La s) (fun X hX=>by rw[hX];exact HCA.out)).mono ?_;rintro e w9 ⟨gv,cv,rfl,hgv,hAt,hd9,G9⟩;have HT9:=BB (HK8.out.cor HLO.out hd9 G9);have HV9:=BB (HV8.out.chg G9 (fun e=>by have:=HL6.out m1 (AK (AK e));omega));rw[HLA.out] at hAt;have HAT:=BB hAt;clear hgv hAt hd9 G9 HK8 HV8 HCA c0 hp0;obtain⟨K2,hM2,⟨G',hT2⟩,hPm,hRp⟩:=HT9.out.d;have hvw:=RF D A K2 _ hM2;have hrng:=hT2.fn.sit.1.wf.lt (by omega:s<25) hT2.L;obtain⟨p2,hp2⟩:∃p2:Nat,K2.L s=(p2:Int):=⟨_,hrng.2⟩;have hp96b:p2<96:=(by have:=hrng.1;rw[hp2,AP] at this;exact this);have HPL2:=BB hp2;have HMV:Hid (p2 / 8≠p / 8->¬ K2.mv=K.mv):=fun h=>hPm.ne dc (fun e=>h (by rw[hp2,HPL.out] at e;omega));have HRR:Hid (K.rp<K2.rp->480<=K.hR (p / 8)):=fun h=>by
    rw[HLB.out] at hRp;exact hRp.resolve_left om
   have HRE:Hid (∀b,b<12->(K2.s.bl b).reads<528):=fun b hb=>hT2.reads om hb;have HOK:Hid K2.s.Ok:=hT2.fn.sit.1.wf.chip;have HRG:Hid (∀o,o<25->K2.L o = -1\/(0<=K2.L o/\K2.L o<96)):=hT2.fn.sit.1.wf.map.rng;have HNX:Hid (∃G',Tir s (1+(i+1)) (2+2*(i+1)) K2 G' La):=by
    rw[show 1+(i+1)=1+i+1 by omega,show 2+2*(i+1)=2+2*i+2 by omega];exact⟨G',hT2⟩
   have HK9:Hid (OJ w w9 D A (·=K2)):=⟨⟨K2,hM2,rfl⟩,HT9.out.t⟩;clear hM2 hT2 hPm hRp hrng hp2 HT9;go_wp2_with fail;refine hvw.mono ?_;rintro e w10 ⟨rfl,G10⟩;have HK10:=BB (HK9.out.chg0 G10);have HV10:=BB (HV9.out.chg G10 (fun f=>f));have HT10:=BB (HAT.out.chg G10 (fun f=>f));have HI10:=BB (IB.new w10 40 67 (fun _=>0));have g11:Chg No w10 (w10.alloc (.cells (ints (fun _=>0) 67).toArray 40)):=(Chg.refl _ w10).alloc _;have HK11:=BB (HK10.out.chg0 g11);have HV11:=BB (HV10.out.chg g11 (fun f=>f));have HT11:=BB (HT10.out.chg g11 (fun f=>f));have HL10:=BB HK10.out.d.lw;have HW10:=BB HK10.out.t.size;have HG10:Hid (gv<w10.heap.size/\m1<w10.heap.size):=⟨HT10.out.1,HV10.out.lt⟩;clear hvw G10 g11 HK9 HK10 HV9 HV10 HAT HT10;go_wp2_with (first | refine Ch rfl rfl ?_ | refine Ci rfl (.tmp 15) (.tmp 70) rfl w10.heap.size rfl rfl HI10.out ?_);intro w12 I12 G12;have HW12:=BB I12;have HV12:=BB (HV11.out.chg G12 (by have:=HG10.out.2;omega));have HT12:=BB (HT11.out.chg G12 (by have:=HG10.out.1;omega));have HK12:=BB (HK11.out.far HL10.out HW10.out (fun k e=>om) G12);clear I12 G12 HI10 HK11 HV11 HT11;generalize w10.heap.size=m2 at *
   go_wp2_with fail;refine(Gx 1 _).mono ?_;rintro e w13 ⟨rfl,hA13,G13⟩;have hsm:=Pt w13 gv 0 160 cv w12.heap.size 0 160 160 (En 1) (En 1) (BY 1).symm (BY 1).symm (DH 1) (DH 1) (HT12.out.chg G13 (fun f=>f)) hA13.at_;rw[AO rfl] at hsm;have HW13:=BB (HW12.out.chg G13 (fun f=>f));have HV13:=BB (HV12.out.chg G13 (fun f=>f));have HK13:=BB (HK12.out.chg0 G13);clear hA13 G13 HT12 HW12 HV12 HK12;go_wp2_with fail;refine hsm.mono ?_;rintro e w14 ⟨rfl,rfl⟩;clear hsm
   go_upto_region 19 with fail
   obtain⟨a1,-⟩:=HV13.out.cell (12+s) om;obtain⟨a2,-⟩:=HW13.out.cell (12+s) om;obtain⟨a3,-⟩:=HV13.out.cell 66 dc;obtain⟨a4,-⟩:=HW13.out.cell 66 dc;rw[Kz K s om,HPL.out] at a1;rw[Kz K2 s om,HPL2.out] at a2;rw[show Pl K 66=K.mv from rfl] at a3;rw[show Pl K2 66=K2.mv from rfl] at a4;have q1:=tq p 8;have q2:=tq p2 8;have hw1:=lM p hp96;have hw2:=lM p2 hp96b
   go_cut [101] from 84 to 101 (fun s101 wx=>s101=.bool false/\Hid (Chg No w14 wx))
   case first=>
    by_cases h:p2 / 8=p / 8
    ·have hd:(IntKind.i64.wrap (((p2:Nat):Int) / 8) != IntKind.i64.wrap (((p:Nat):Int) / 8))=false:=(by rw[hw1,hw2,h];simp);clear hw1 hw2
     go_quiet (fail)
     go_wp2_with fail
     go_meet
     case rel=>exact⟨rfl,(Chg.refl _ _).drewN _⟩
    ·have hd:(IntKind.i64.wrap (((p2:Nat):Int) / 8) != IntKind.i64.wrap (((p:Nat):Int) / 8))=true:=by
      rw[hw1,hw2];simp only[bne_iff_ne,ne_eq];omega
     have hm:(K2.mv == K.mv)=false:=by
      rw[beq_eq_false_iff_ne];exact HMV.out h
     clear hw1 hw2
     go_quiet (fail)
     go_wp2_with fail
     go_meet
     case rel=>exact⟨rfl,(Chg.refl _ _).drewN _⟩
   case rest=>
   obtain⟨rfl,HGc⟩:=hcut;have HKc:=BB (HK13.out.chg0 HGc.out);have HVc:=BB (HV13.out.chg HGc.out (fun f=>f));have HWc:=BB (HW13.out.chg HGc.out (fun f=>f));clear HGc HK13 HV13 HW13 a1 a2 a3 a4 HMV hw1 hw2 q1 q2;go_wp2_with fail
   go_loopw [17] (fun t17 wx=>∃b:Nat,b<=12/\t17=.int .i64 b/\Hid (OJ w wx D A (·=K2))/\Hid (IB wx m1 40 67 (Pl K))/\Hid (IB wx m2 40 67 (Pl K2))) (fun t17 _=>12 - (intOf t17).toNat)
   case atStart=>exact⟨0,om,rfl,HKc.out,HVc.out,HWc.out⟩
   case round=>
    clear HKc HVc HWc;obtain⟨b,hb,rfl,HKb,HVb,HWb⟩:=hrel;by_cases hltb:b<12
    ·have hb1:(b:Int)<12:=om;obtain⟨K3,hM,rfl⟩:=HKb.out.d;have hrd:=SB A.g K3.s b hltb;have HRD:Hid (BF _ A.g K3.s):=hM.core.chip;clear hM;go_wp2_with fail;refine(hrd _ HRD.out).mono ?_;rintro e wz ⟨rfl,Gz⟩;have HKz:=BB (HKb.out.chg0 Gz);have HVz:=BB (HVb.out.chg Gz (fun f=>f));have HWz:=BB (HWb.out.chg Gz (fun f=>f));have hn:=HRE.out b hltb;have hn2:¬ (528:Int)<=(K3.s.bl b).reads:=om;generalize (K3.s.bl b).reads=rdn at *
     clear hrd HRD Gz HKb HVb HWb hn;go_wp2_with fail
     go_loopw [20,21] (fun t20 t21 wy=>∃(l:Bool) (j:Nat),t20=.bool l/\j<=25/\t21=.int .i64 j/\wz=wy) (fun _ t21 _=>25 - (intOf t21).toNat)
     case atStart=>exact⟨false,0,rfl,om,rfl,rfl⟩
     case round=>
      obtain⟨l,j,rfl,hj,rfl,rfl⟩:=hrel;by_cases hltj:j<25
      ·have hj1:(j:Int)<=24:=om;have hj0:(0:Int)<=(j:Int):=om;have hj2:(j:Int)<25:=om;obtain⟨cj,-⟩:=HWz.out.cell (12+j) om;rw[Kz K3 j hltj] at cj;cases l
       ·rcases HRG.out j hltj with hL | hL
        ·rw[hL] at cj;clear hL;go_wp2;exact⟨⟨_,j+1,rfl,om,by go_num,trivial⟩,by simp[intOf];omega⟩
        ·obtain⟨pj,hpj⟩:∃pj:Nat,K3.L j=(pj:Int):=⟨(K3.L j).toNat,om⟩;rw[hpj] at cj;have hpj0:(0:Int)<=(pj:Int):=om;clear hL hpj;go_wp2;exact⟨⟨_,j+1,rfl,om,by go_num,trivial⟩,by simp[intOf];omega⟩
       ·go_wp2;exact⟨⟨_,j+1,rfl,om,by go_num,trivial⟩,by simp[intOf];omega⟩
      ·have hj1:¬ (j:Int)<=24:=om;obtain rfl:j=25:=om
       cases l
       ·go_wp2;exact⟨⟨b+1,om,by go_num,HKz,HVz,HWz⟩,by simp[intOf];omega⟩
       ·go_wp2;exact⟨⟨b+1,om,by go_num,HKz,HVz,HWz⟩,by simp[intOf];omega⟩
    ·have hb1:¬ (b:Int)<12:=om;obtain rfl:b=12:=om
     go_upto_region 32 with fail
     obtain⟨a1,-⟩:=HVb.out.cell (12+s) om;obtain⟨a2,-⟩:=HWb.out.cell (12+s) om;obtain⟨a3,-⟩:=HVb.out.cell 64 dc;obtain⟨a4,-⟩:=HWb.out.cell 64 dc;obtain⟨a5,-⟩:=HVb.out.cell (40+p / 8) om;rw[Kz K s om,HPL.out] at a1;rw[Kz K2 s om,HPL2.out] at a2;rw[show Pl K 64=K.rp from rfl] at a3;rw[show Pl K2 64=K2.rp from rfl] at a4;rw[jS K (p / 8) om] at a5;have q1:=tq p 8;have q2:=tq p2 8;have hw1:=lM p hp96;have hw2:=lM p2 hp96b;have HRR2:=HRR.out;generalize K.rp=rp1 at *
     generalize K2.rp=rp2 at *
     generalize K.hR (p / 8)=hrd at *
     go_cut [170] from 142 to 170 (fun s170 wx=>s170=.bool false/\Hid (Chg No wr wx))
     case first=>
      have ht:(((p:Nat):Int) / 8).toNat=p / 8:=om;have hi1:(0:Int)<=((p:Nat):Int) / 8:=om;have hi2:((p:Nat):Int) / 8<12:=om;by_cases h1:rp1<rp2
      ·have h1d:decide (rp1<rp2)=true:=AO h1;have h480:¬ hrd<480:=(by have:=HRR2 h1;omega);have h48d:decide (hrd<480)=false:=AN h480;clear hw1 hw2 HRR2 HRR;by_cases h:p2 / 8=p / 8
       ·have hd:(((p2:Nat):Int) / 8 != ((p:Nat):Int) / 8)=false:=by
         rw[bne_eq_false_iff_eq];omega
        go_big_quiet (fail)
        go_wp2_with fail
        go_meet
        case rel=>exact⟨rfl,(Chg.refl _ _).drewN _⟩
       ·have hd:(((p2:Nat):Int) / 8 != ((p:Nat):Int) / 8)=true:=by
         simp only[bne_iff_ne,ne_eq];omega
        go_big_quiet (fail)
        go_wp2_with fail
        go_meet
        case rel=>exact⟨rfl,(Chg.refl _ _).drewN _⟩
      ·have h1d:decide (rp1<rp2)=false:=AN h1;clear hw1 hw2
       go_quiet (fail)
       go_wp2_with fail
       go_meet
       case rel=>exact⟨rfl,(Chg.refl _ _).drewN _⟩
     case rest=>
     obtain⟨rfl,HGc⟩:=hcut;have HKf:=BB (HKb.out.chg0 HGc.out);have HSN:Hid (OJ w wc D A (fun Z=>∃G',Tir s (1+(i+1)) (2+2*(i+1)) Z G' La)):=⟨HKf.out.d.mono (fun X e=>by rw[e];exact HNX.out),HKf.out.t⟩;clear HGc HKf HKb HVb HWb a1 a2 a3 a4 a5 hw1 hw2 q1 q2 HRR2;go_wp2;exact⟨⟨i+1,om,by go_num,HSN.out⟩,by simp[intOf];omega⟩
  ·have hl1:¬ (i:Int)<=(T:Int):=om;have HT:Hid (Below w.heap.size w wq):=HS.out.t.below (fun _ f=>f.elim) (AM _);clear HS;go_wp2;go_ret;exact⟨rfl,HT.out⟩
end
end Go.Proofs.YtbhbilcieodbhaaGreat
