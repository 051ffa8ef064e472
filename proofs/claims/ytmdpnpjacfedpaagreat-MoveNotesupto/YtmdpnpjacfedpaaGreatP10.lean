/-
  Lemmas.
-/
import Derived.Test.YtmdpnpjacfedpaaGreatP09
set_option maxRecDepth 1000000
set_option maxHeartbeats 16000000
set_option linter.unusedSimpArgs false
namespace Go.Proofs.YtmdpnpjacfedpaaGreat
open List
open Go.Proofs.Tryz
open Go.RowKit
section
variable (A:Ad)(K:BH)
def tmH (o:Nat) (z:Int):GS:=fun K q=>AA.wrL { ckK K q with F:=upd (ckK K q).F o z }
def tmK (n:Nat) (K:BH) (o:Nat):Option (BH × Nat):=
 if K.L o = -1 then some (K,0) else
 match anR n (tmH o (K.vs o:Nat)) K 24 with
 | none=>none
 | some y=>if y.2≠0 then some y else some ({ y.1 with fl:=upd y.1.fl o (K.vs o:Nat),L:=AB.dropL y.1.L (o:Nat) },AB.atC y.1.L (o:Nat))
theorem i7(o:Nat)(ho:o<24)(z:Int)(j:Nat)(_:j<101)(_:j<83\/83+13<=j):upL (kc A K) (53+o) [.int .i64 z] j=kc A { K with fl:=upd K.fl o z } j:=by
 rw[Br];by_cases e:j=53+o
 ·subst e;rw[AJ rfl,fJ A _ o ho];show _=Value.int .i64 (upd K.fl o z o);unfold upd;rw[AJ rfl]
 ·rw[AI e];unfold kc;by_cases h0:j=0
  ·simp only[AJ h0]
  by_cases h1:j=1
  ·simp only[AI h0,AJ h1]
  by_cases h2:j=2
  ·simp only[AI h0,AI h1,AJ h2]
  by_cases h3:j<53
  ·simp only[AI h0,AI h1,AI h2,AJ h3]
  by_cases h4:j<77
  ·simp only[AI h0,AI h1,AI h2,AI h3,AJ h4];unfold upd;rw[AI om]
  simp only[AI h0,AI h1,AI h2,AI h3,AI h4]
theorem Wf.fl'{K:BH}(h:Wf K){o:Nat}{z:Int}(hz:0<=z/\z<=1099511627775):Wf { K with fl:=upd K.fl o z }:=
 ⟨h.chip,h.rr,h.frm,h.map,h.vs,h.vp,h.vc,fun i hi=>by
  show 0<=upd K.fl o z i/\upd K.fl o z i<=1099511627775
  unfold upd
  split
  ·
   exact hz
  ·
   exact h.fl i hi,h.nx,h.fr,h.cu,h.qu,h.hea,h.tl⟩
theorem CoreAt.setFl{A:Ad}{w:Wd}{K:BH}(h:CoreAt A w K)(o:Nat)(ho:o<24)(z:Int)(hz:0<=z/\z<=1099511627775):CoreAt A (w.setCell ⟨A.c,53+o,none⟩ (.int .i64 z)) { K with fl:=upd K.fl o z }:=
 h.setCore { K with fl:=upd K.fl o z } ⟨rfl,rfl,rfl,rfl,rfl,rfl,rfl,rfl,rfl⟩ (QB.ext (QB.set h.core (53+o) (.int .i64 z) om) (i7 A K o ho z)) ((Chg.refl (·=A.c) w).setCell (AK rfl) _ _) (h.wf.fl' hz)
theorem i9(w:Wd)(K:BH)(h:CoreAt A w K)(o:Nat):Calls prog 58 #[.pointer (some ⟨A.ma,0,none⟩),.int .i64 (o:Nat)] w fun e w'=>e=.returned (errV (AB.atC K.L (o:Nat)))/\CoreAt A w' { K with L:=AB.dropL K.L (o:Nat) }/\Chg (·=A.ma) w w':=by
 refine(AB.iI w A.ma K.L h.map h.wf.map (o:Nat)).mono ?_;rintro e w' ⟨rfl,hM,hc,hO⟩;refine⟨rfl,h.setMap hM hc (h.wf.map' hO fun i hi hLi=>h.wf.vp i hi fun e=>hLi ?_),hc⟩;unfold AB.dropL;split
 ·unfold upd;split
  ·rfl
  ·exact e
 ·exact e
theorem YP(w:Wd)(K:BH)(h:CoreAt A w K)(o:Nat)(ho:o<24)(n:Nat)(Z:BH × Nat)(hZ:tmK n K o=some Z) :Calls prog 21 #[.pointer (some ⟨A.c,0,none⟩),.int .i64 (o:Nat)] w fun e w'=>e=.returned (errV Z.2)/\CoreAt A w' Z.1/\Chg (Cor A) w w':=by
 have GA:Chg No w (w.alloc (.cells #[.int .i64 (o:Nat)] 3)):=(Chg.refl _ w).alloc _;have hs:=fun w=>Gw w (o:Nat) om;have K1:=h.chg0 GA;obtain⟨c2,-⟩:=(K1.drewN 1).cMap;have hB0:(w.alloc (.cells #[.int .i64 (o:Nat)] 3)).drew.cell? ⟨w.heap.size,0,none⟩=some (.int .i64 (o:Nat)):=by
  have h1:(w.alloc (.cells #[.int .i64 (o:Nat)] 3)).heap[w.heap.size]?=some (.cells #[.int .i64 (o:Nat)] 3):=(show (w.heap.push _)[w.heap.size]?=_ by simp);show (w.alloc (.cells #[.int .i64 (o:Nat)] 3)).cell? ⟨w.heap.size,0,none⟩=_;rw[cell_of_row _ _ _ _ _ _ h1];rfl
 have hat:=AB.b9 _ A.ma K.L (K1.drewN 1).map (o:Nat);have q:=CA;have g:=BQ;have HK1:=BE K1;have HG1:=BE (Chg.cor0 (A:=A) GA);unfold tmK at hZ;by_cases hl:K.L o = -1
 ·rw[AJ hl] at hZ;have HZ:Hid ((K,0)=Z):=AR hZ;have e1:AB.atC K.L (o:Nat)=11:=by unfold AB.atC;rw[AI om];simp[hl]
  rw[e1] at hat;replace q:∀w,(binOp .neq 46 (errV 11) .nilIface).run prog w=.ok (.bool true) w:=fun w=>q 11 w;generalize AB.atV K.L (o:Nat)=av at *
  clear h hl e1 hZ GA K1 ho;go_enter func21,ntmps21;go_wp2_with (go_at_call 51;refine(hs _).mono ?_;rintro e w1 ⟨rfl,rfl⟩)
  go_region_held3 (fun wx=>wx.cell? ⟨A.c,2,none⟩=some (.pointer (some ⟨A.ma,0,none⟩))/\wx.cell? ⟨w.heap.size,0,none⟩=some (.int .i64 (o:Nat)))
   (first | exact⟨c2,hB0⟩)
   (first | (go_at_call 50;refine hat.mono ?_;rintro e w2 ⟨rfl,rfl⟩))
  go_wp2;go_ret;rw[<-HZ.out];exact⟨rfl,HK1.out.drewN 1,HG1.out.drew⟩
 ·rw[AI hl] at hZ;obtain⟨y,hy,hyz⟩:∃y,anR n (tmH o (K.vs o:Nat)) K 24=some y/\(if y.2≠0 then some y else some ({ y.1 with fl:=upd y.1.fl o (K.vs o:Nat),L:=AB.dropL y.1.L (o:Nat) },AB.atC y.1.L (o:Nat)))=some Z:=by
   cases ea:anR n (tmH o (K.vs o:Nat)) K 24 with
   | none=>rw[ea] at hZ;cases hZ
   | some y=>rw[ea] at hZ;exact⟨y,rfl,hZ⟩
  have e1:AB.atC K.L (o:Nat)=0:=by unfold AB.atC;rw[AI om];simp[hl]
  rw[e1] at hat;have q0:∀w,(binOp .neq 46 (errV 0) .nilIface).run prog w=.ok (.bool false) w:=fun w=>q 0 w;generalize AB.atV K.L (o:Nat)=av at *
  have HVS:Hid (0<=((K.vs o:Nat):Int)/\((K.vs o:Nat):Int)<=1099511627775):=(show 0<=((K.vs o:Nat):Int)/\((K.vs o:Nat):Int)<=1099511627775 by have:=h.wf.vs o om;omega);have HLOW:=BE h.low;have HO:=BE ho;have HY:=BE hy;have HYZ:=BE hyz;obtain⟨cv,-⟩:=K1.cVs o om;have hB1:(w.alloc (.cells #[.int .i64 (o:Nat)] 3)).cell? ⟨w.heap.size,0,none⟩=some (.int .i64 (o:Nat)):=hB0;have cva:∀X,(((w.alloc (.cells #[.int .i64 (o:Nat)] 3)).drewN 2).alloc X).cell? ⟨A.c,3+o*2,none⟩=some (.int .i64 (K.vs o:Nat)):=fun X=>by rw[Au _ _ _ (K1.drewN 2).lts.1];exact((K1.drewN 2).cVs o om).1
  have hoz:0<=((o:Nat):Int):=om
  have hoz2:((o:Nat):Int)<25:=om
  clear h hl e1 hZ GA K1 ho hy hyz;go_enter func21,ntmps21;go_wp2_with (go_at_call 51;refine(hs _).mono ?_;rintro e w1 ⟨rfl,rfl⟩)
  go_region_held3 (fun wx=>wx.cell? ⟨A.c,2,none⟩=some (.pointer (some ⟨A.ma,0,none⟩))/\wx.cell? ⟨w.heap.size,0,none⟩=some (.int .i64 (o:Nat)))
   (first | exact⟨c2,hB0⟩)
   (first | (go_at_call 50;refine hat.mono ?_;rintro e w2 ⟨rfl,rfl⟩))
  go_wp2_with fail;go_region;have G2:Chg No (w.alloc (.cells #[.int .i64 (o:Nat)] 3)) (((w.alloc (.cells #[.int .i64 (o:Nat)] 3)).drewN 2).alloc (.cells #[.int .i64 (K.vs o:Nat)] 2)):=((Chg.refl _ _).drewN 2).alloc _;have HK2:=BE (HK1.out.chg0 G2);have HG2:=BE (HG1.out.trans G2.cor0);have hsz:(w.alloc (.cells #[.int .i64 (o:Nat)] 3)).heap.size=w.heap.size+1:=by simp
  have hb2:(((w.alloc (.cells #[.int .i64 (o:Nat)] 3)).drewN 2).alloc (.cells #[.int .i64 (K.vs o:Nat)] 2)).cell? ⟨w.heap.size,0,none⟩=some (.int .i64 (o:Nat)):=(G2.cell (by rw[hsz];omega) (fun f=>f) 0).trans hB1;have hb3:(((w.alloc (.cells #[.int .i64 (o:Nat)] 3)).drewN 2).alloc (.cells #[.int .i64 (K.vs o:Nat)] 2)).cell? ⟨w.heap.size+1,0,none⟩=some (.int .i64 (K.vs o:Nat)):=by
   have hz2:((w.alloc (.cells #[.int .i64 (o:Nat)] 3)).drewN 2).heap.size=w.heap.size+1:=hsz;have h1:(((w.alloc (.cells #[.int .i64 (o:Nat)] 3)).drewN 2).alloc (.cells #[.int .i64 (K.vs o:Nat)] 2)).heap[w.heap.size+1]?=some (.cells #[.int .i64 (K.vs o:Nat)] 2):=by
    have key:∀(H:Array Obj) (x:Obj) (k:Nat),H.size=k->(H.push x)[k]?=some x:=fun H x k e=>by subst e;simp
    exact key _ _ _ hz2
   rw[cell_of_row _ _ _ _ _ _ h1];rfl
  have hsz2:(((w.alloc (.cells #[.int .i64 (o:Nat)] 3)).drewN 2).alloc (.cells #[.int .i64 (K.vs o:Nat)] 2)).heap.size=w.heap.size+2:=by
   have hz2:((w.alloc (.cells #[.int .i64 (o:Nat)] 3)).drewN 2).heap.size=w.heap.size+1:=hsz;simp
  clear cva cv hB0 hB1 c2 hat G2 HK1 HG1 hsz;generalize (((w.alloc (.cells #[.int .i64 (o:Nat)] 3)).drewN 2).alloc (.cells #[.int .i64 (K.vs o:Nat)] 2))=w2 at *
  have htl:=GM w2 A.c 57 #[.pointer (some ⟨w.heap.size+1,0,none⟩),.pointer (some ⟨w.heap.size,0,none⟩)];have hmf:∀(fn:Fn) (first cap:Array Value) (w:Wd),(Instr.makeFunc fn first cap).run prog w=.ok (.func fn first cap) w:=fun _ _ _ _=>rfl;have HB2:=BE hb2;have HB3:=BE hb3;have HSZ2:=BE hsz2;clear hb2 hb3 hsz2;go_wp2_with fail;refine htl.mono ?_;rintro e w3 ⟨rfl,a1,a2,a3,g3⟩;have K3:=HK2.out.chg0 g3;have n0:¬ Cor A w.heap.size:=fun e=>by have:=HLOW.out _ (AK e);omega
  have n1:¬ Cor A (w.heap.size+1):=fun e=>by have:=HLOW.out _ (AK e);omega
  have z2:=HSZ2.out;have n2:¬ Cor A w2.heap.size:=fun e=>by have:=HLOW.out _ (AK e);omega
  have n3:¬ Cor A (w2.heap.size+1):=fun e=>by have:=HLOW.out _ (AK e);omega
  have b2:=(g3.cell om (fun f=>f) 0).trans HB2.out;have b3:=(g3.cell om (fun f=>f) 0).trans HB3.out;have hz3:=g3.size;have hH:=Dy A w3 57 #[.pointer (some ⟨w.heap.size+1,0,none⟩),.pointer (some ⟨w.heap.size,0,none⟩)] _ (Um A w3 (w.heap.size+1) w.heap.size o (K.vs o:Nat) b3 b2 HO.out n1 n0 om om) w2.heap.size (w2.heap.size+1) a1 a2 n2 n3 om om (Xv o _ HVS.out);have han:=FF A n w3 102 #[.pointer (some ⟨w2.heap.size,0,none⟩),.pointer (some ⟨w2.heap.size+1,0,none⟩)] (tmH o (K.vs o:Nat)) hH w3 K 24 y K3 (Chg.refl _ _) dc HY.out;replace han:Calls prog 52 #[.pointer (some ⟨A.c,0,none⟩),.int .i64 24,.func (.func 102) #[] #[.pointer (some ⟨w2.heap.size,0,none⟩),.pointer (some ⟨w2.heap.size+1,0,none⟩)]] w3 fun e w'=>e=.returned (errV y.2)/\CoreAt A w' y.1/\Chg (Cor A) w3 w':=han;have HG3:=BE (HG2.out.trans g3.cor0);have HBB:Hid (w3.cell? ⟨w.heap.size,0,none⟩=some (.int .i64 (o:Nat))/\w3.cell? ⟨w.heap.size+1,0,none⟩=some (.int .i64 (K.vs o:Nat))/\¬ Cor A w.heap.size/\¬ Cor A (w.heap.size+1)/\w.heap.size+1<w3.heap.size):=⟨b2,b3,n0,n1,om⟩;clear htl a1 a2 a3 g3 K3 hH b2 b3 n0 n1 n2 n3 z2 hz3 HB2 HB3 HSZ2;go_wp2_with fail;refine han.mono ?_;rintro e w4 ⟨rfl,k4,g4⟩;have HK4:=BE k4;have HG4:=BE (HG3.out.trans g4);obtain⟨bb1,bb2,bb3,bb4,bb5⟩:=HBB.out;have d1:=(g4.cell om bb3 0).trans bb1;have d2:=(g4.cell bb5 bb4 0).trans bb2;have HBB4:Hid (w4.cell? ⟨w.heap.size,0,none⟩=some (.int .i64 (o:Nat))/\w4.cell? ⟨w.heap.size+1,0,none⟩=some (.int .i64 (K.vs o:Nat))/\¬ Cor A w.heap.size/\¬ Cor A (w.heap.size+1)/\w.heap.size+1<w4.heap.size):=⟨d1,d2,bb3,bb4,Aj bb5 g4.size⟩;clear han k4 g4 bb1 bb2 bb3 bb4 bb5 HBB HG3 HK2 HG2;by_cases hy0:y.2=0
  ·have HYZ2:Hid (({ y.1 with fl:=upd y.1.fl o (K.vs o:Nat),L:=AB.dropL y.1.L (o:Nat) },AB.atC y.1.L (o:Nat))=Z):=by
    have:=HYZ.out;rw[AI (by rw[hy0];simp)] at this;exact AR this
   replace q:∀w,(binOp .neq 46 (errV y.2) .nilIface).run prog w=.ok (.bool false) w:=fun w=>by rw[q,AO hy0];rfl
   have hoz24:((o:Nat):Int)<24:=(by have:=HO.out;omega);obtain⟨cf,ff⟩:=HK4.out.cFl o HO.out;clear hy0 HYZ;go_wp2_with fail;go_region;have G5:Chg (·=A.c) w4 (w4.setCell ⟨A.c,53+o,none⟩ (.int .i64 (K.vs o:Nat))).drew:=((Chg.refl (·=A.c) w4).setCell (AK rfl) _ _).drew;have K5:=((HK4.out.setFl o HO.out _ HVS.out).drewN 1);have hA5:¬ w.heap.size=A.c:=fun e=>HBB4.out.2.2.1 (AK e);have f1:=(G5.cell (by have:=HBB4.out.2.2.2.2;omega) hA5 0).trans d1;have HNM:Hid (¬ w.heap.size=A.ma):=fun e=>HBB4.out.2.2.1 (by unfold Cor;omega);have HSZ5:Hid (w.heap.size<(w4.setCell ⟨A.c,53+o,none⟩ (.int .i64 (K.vs o:Nat))).drew.drew.heap.size):=(show w.heap.size<(w4.setCell ⟨A.c,53+o,none⟩ (.int .i64 (K.vs o:Nat))).drew.drew.heap.size by have:=HBB4.out.2.2.2.2;have:=G5.size;show w.heap.size<(w4.setCell ⟨A.c,53+o,none⟩ (.int .i64 (K.vs o:Nat))).drew.heap.size;omega);have HK5:=BE K5;have HG5:=BE (HG4.out.trans G5.cor_c);obtain⟨c5,-⟩:=(K5.drewN 1).cMap;have hdr:=i9 A _ _ (K5.drewN 1) o;clear HK4 HG4 cf ff K5 G5 d1 d2 HBB4 hA5;go_wp2_with fail
   go_region_held3 (fun wx=>wx.cell? ⟨A.c,2,none⟩=some (.pointer (some ⟨A.ma,0,none⟩))/\wx.cell? ⟨w.heap.size,0,none⟩=some (.int .i64 (o:Nat)))
    (first | exact⟨c5,f1⟩ | exact⟨x1,x2⟩)
    (first | (go_at_call 58;refine hdr.mono ?_;rintro e w6 ⟨rfl,k6,g6⟩;have HK6:=BE k6;have HG6:=BE (HG5.out.drew.trans g6.cor_ma);obtain⟨x1,-⟩:=k6.cMap;have x2:=(g6.cell HSZ5.out HNM.out 0).trans f1;clear k6 g6))
   go_wp2;go_ret;rw[<-HYZ2.out];exact⟨rfl,HK6.out,HG6.out⟩
  ·have HYZ2:Hid (y=Z):=by
    have:=HYZ.out;rw[AJ hy0] at this;exact AR this
   replace q:∀w,(binOp .neq 46 (errV y.2) .nilIface).run prog w=.ok (.bool true) w:=fun w=>by rw[q,AN hy0];rfl
   clear hy0 HYZ d1 d2;go_wp2;go_ret;rw[<-HYZ2.out];exact⟨rfl,HK4.out,HG4.out⟩
end
section
variable {K:BH}{w:Wd}(A:Ad)
def awQ (R L:Nat->Int):Nat->Nat->List Int->List Int
 | 0,_,q=>q
 | n+1,i,q=>awQ R L n (i+1) (if AG.much 512 R (i:Nat)=true/\0<AB.lvK L 96 i then AF.Ub q (i:Nat) else q)
def awK (K:BH):BH:={ K with qu:=awQ K.hR K.L 12 0 K.qu }
theorem dB(w:Wd)(K:BH)(h:CoreAt A w K) :Calls prog 82 #[.pointer (some ⟨A.c,0,none⟩)] w fun e w'=>e=.returned (.tuple #[])/\CoreAt A w' (awK K)/\Chg (Cor A) w w':=by
 obtain⟨c2,-⟩:=h.cMap;have hv:=AB.IC w A.ma K.L h.map;have HK:=BE h;have q:=Ii;have g:=Dg;obtain⟨X,HX⟩:∃X,Hid (awQ K.hR K.L 12 0 K.qu=X):=⟨_,rfl⟩;unfold awK;rw[HX.out];go_enter func82,ntmps82;go_wp2_with (go_at_call 140;refine hv.mono ?_;rintro e w1 ⟨rfl,I1,G1⟩);have HI:=BE I1;have kd:=BE (HK.out.chg0 G1);have h6:=BE (Chg.cor0 (A:=A) G1);have HN:Hid (¬ Cor A w.heap.size):=HK.out.apart (AM _);have G2:w.heap.size<w1.heap.size:=I1.lt
 go_loopg [12] 12 (fun kx s12 wr=>∃(i:Nat) (l:List Int),s12=.int .i64 i/\i<=12/\12 - i<=kx/\Hid (CoreAt A wr { K with qu:=l })/\Hid (Chg (Cor A) w wr)/\Hid (IB wr w.heap.size 3 12 (fun k=>(AB.lvK K.L 96 k:Nat)))/\Hid (awQ K.hR K.L (12 - i) i l=X))
 case atStart=>exact⟨0,K.qu,rfl,om,om,kd.out,h6.out,HI.out,HX⟩
 case round=>
  obtain⟨i,l,rfl,hi,f1,HC,HG,HJ,HE⟩:=hrel;by_cases ha:i<12
  ·have Go:(i:Int)<12:=om;obtain⟨ci,-⟩:=HJ.out.cell i ha;obtain⟨m,hm⟩:∃m,12 - i=m+1:=⟨11 - i,om⟩;have hc:12 - (i+1)=m:=om;have ar:Hid (awQ K.hR K.L m (i+1) (if AG.much 512 K.hR (i:Nat)=true/\0<AB.lvK K.L 96 i then AF.Ub l (i:Nat) else l)=X):=by
    have:=HE.out;rw[hm,awQ] at this;exact this
   have no:=AG.cS wr A.h K.hR K.hN K.hS HC.out.hea HC.out.wf.hea (i:Nat);have hx:AG.Jr (i:Nat)=0:=(by unfold AG.Jr;rw[AJ om]);rw[hx] at no;obtain⟨p2,-⟩:=HC.out.cHea;have hg:=YK A wr _ HC (i:Nat);have La:=BE hc;replace q:∀w,(binOp .eql 46 (errV 0) .nilIface).run prog w=.ok (.bool true) w:=fun w=>q 0 w;generalize w2:AG.much 512 K.hR (i:Nat)=mu at *
   generalize hv:AB.lvK K.L 96 i=lv at *
   replace ci:wr.cell? ⟨w.heap.size,i,none⟩=some (.int .i64 (lv:Nat)):=ci;cases mu
   ·have it:Hid (awQ K.hR K.L m (i+1) l=X):=by
     have:=ar.out;rw[AI (by simp)] at this;exact this
    go_wp2_with (go_at_call 141;refine no.mono ?_;rintro e wr ⟨rfl,rfl⟩)
    go_roundg (12 - (i+1))
    case measure=>omega
    case rel=>exact⟨i+1,l,by simp,om,AM _,HC.out,HG.out,HJ.out,by rw[La.out];exact it⟩
   ·by_cases h0:0<lv
    ·have hk:(0:Int)<(lv:Nat):=om;have it:Hid (awQ K.hR K.L m (i+1) (AF.Ub l (i:Nat))=X):=by
      have:=ar.out;rw[AJ ⟨rfl,h0⟩] at this;exact this
     go_wp2_with (go_at_call 141;refine no.mono ?_;rintro e wr ⟨rfl,rfl⟩);refine hg.mono ?_;rintro e w3 ⟨rfl,k3,g3⟩;have B':=BE k3;have h1:=BE (HG.out.trans g3.cor_c);have h2:=BE (HJ.out.chg g3.cor_c HN);go_wp2
     go_roundg (12 - (i+1))
     case measure=>omega
     case rel=>exact⟨i+1,_,by simp,om,AM _,B'.out,h1.out,h2.out,by rw[La.out];exact it⟩
    ·have hk:¬ (0:Int)<(lv:Nat):=om;have it:Hid (awQ K.hR K.L m (i+1) l=X):=by
      have:=ar.out;rw[AI (fun e=>h0 e.2)] at this;exact this
     go_wp2_with (go_at_call 141;refine no.mono ?_;rintro e wr ⟨rfl,rfl⟩)
     go_roundg (12 - (i+1))
     case measure=>omega
     case rel=>exact⟨i+1,l,by simp,om,AM _,HC.out,HG.out,HJ.out,by rw[La.out];exact it⟩
  ·have Go:¬ (i:Int)<12:=om;have e:i=12:=om;subst e;have it:Hid (l=X):=HE.out;go_wp2;go_end0;rw[<-it.out];exact⟨rfl,HC.out,HG⟩
def rfK (n:Nat) (K:BH) (b:Nat):Option (BH × Nat):=
 if AB.ofV K.L (b:Nat)=[] then some (K,0) else
 match movR n K (nwS b (AG.much 3 K.hS (b:Nat)) false) with
 | none=>none
 | some y=>if y.2.2≠0 then some (y.1,y.2.2) else some ({ y.1 with rp:=wrap64 (y.1.rp+1),md:=wrap64 (y.1.md+(AB.ofV K.L (b:Nat)).length) },0)
theorem Wf.rp'(h:Wf K)(z:Int):Wf { K with rp:=z }:=
 ⟨h.chip,h.rr,h.frm,h.map,h.vs,h.vp,h.vc,h.fl,h.nx,h.fr,h.cu,h.qu,h.hea,h.tl⟩
theorem Wf.md'(h:Wf K)(z:Int):Wf { K with md:=z }:=
 ⟨h.chip,h.rr,h.frm,h.map,h.vs,h.vp,h.vc,h.fl,h.nx,h.fr,h.cu,h.qu,h.hea,h.tl⟩
theorem lZ(K:BH)(z:Int)(j:Nat)(_:j<101)(_:j<83\/83+13<=j):upL (kc A K) 98 [.int .i64 z] j=kc A { K with rp:=z } j:=by
 rw[Br];by_cases e:j=98
 ·subst e;rfl
 ·rw[AI e];unfold kc;by_cases h0:j=0
  ·simp only[AJ h0]
  by_cases h1:j=1
  ·simp only[AI h0,AJ h1]
  by_cases h2:j=2
  ·simp only[AI h0,AI h1,AJ h2]
  by_cases h3:j<53
  ·simp only[AI h0,AI h1,AI h2,AJ h3]
  by_cases h4:j<77
  ·simp only[AI h0,AI h1,AI h2,AI h3,AJ h4]
  have:j=77\/j=78\/j=79\/j=80\/j=81\/j=82\/j=96\/j=97\/j=99\/j=100:=om
  rcases this with rfl | rfl | rfl | rfl | rfl | rfl | rfl | rfl | rfl | rfl <;> rfl
theorem lc(K:BH)(z:Int)(j:Nat)(_:j<101)(_:j<83\/83+13<=j):upL (kc A K) 99 [.int .i64 z] j=kc A { K with md:=z } j:=by
 rw[Br];by_cases e:j=99
 ·subst e;rfl
 ·rw[AI e];unfold kc;by_cases h0:j=0
  ·simp only[AJ h0]
  by_cases h1:j=1
  ·simp only[AI h0,AJ h1]
  by_cases h2:j=2
  ·simp only[AI h0,AI h1,AJ h2]
  by_cases h3:j<53
  ·simp only[AI h0,AI h1,AI h2,AJ h3]
  by_cases h4:j<77
  ·simp only[AI h0,AI h1,AI h2,AI h3,AJ h4]
  have:j=77\/j=78\/j=79\/j=80\/j=81\/j=82\/j=96\/j=97\/j=98\/j=100:=om
  rcases this with rfl | rfl | rfl | rfl | rfl | rfl | rfl | rfl | rfl | rfl <;> rfl
theorem CoreAt.setRp{A:Ad}(h:CoreAt A w K)(z:Int):CoreAt A (w.setCell ⟨A.c,98,none⟩ (.int .i64 z)) { K with rp:=z }:=
 h.setCore { K with rp:=z } ⟨rfl,rfl,rfl,rfl,rfl,rfl,rfl,rfl,rfl⟩ (QB.ext (QB.set h.core 98 (.int .i64 z) om) (lZ A K z)) ((Chg.refl (·=A.c) w).setCell (AK rfl) _ _) (h.wf.rp' z)
theorem CoreAt.setMd{A:Ad}(h:CoreAt A w K)(z:Int):CoreAt A (w.setCell ⟨A.c,99,none⟩ (.int .i64 z)) { K with md:=z }:=
 h.setCore { K with md:=z } ⟨rfl,rfl,rfl,rfl,rfl,rfl,rfl,rfl,rfl⟩ (QB.ext (QB.set h.core 99 (.int .i64 z) om) (lc A K z)) ((Chg.refl (·=A.c) w).setCell (AK rfl) _ _) (h.wf.md' z)
theorem Uv(w:Wd)(K:BH)(h:CoreAt A w K)(b:Nat)(hb:b<12)(n:Nat)(Z:BH × Nat)(hZ:rfK n K b=some Z) :Calls prog 143 #[.pointer (some ⟨A.c,0,none⟩),.int .i64 (b:Nat)] w fun e w'=>e=.returned (errV Z.2)/\CoreAt A w' Z.1/\Chg (Cor A) w w':=by
 obtain⟨c2,-⟩:=h.cMap;have hof:=AB.ml w A.ma K.L h.map (b:Nat);have e1:AB.mH (b:Nat)=0:=by unfold AB.mH;rw[AI om]
 rw[e1] at hof;have hlen:=AB.Q4 K.L (b:Nat);have q:=CA;have g:=BQ;have HK:=BE h;have HB:=BE hb;have hbd:=MC;have HZ:=BE hZ;have q0:∀w,(binOp .neq 46 (errV 0) .nilIface).run prog w=.ok (.bool false) w:=fun w=>q 0 w;have HZ2:Hid ((if AB.ofV K.L (b:Nat)=[] then some (K,0) else match movR n K (nwS b (AG.much 3 K.hS (b:Nat)) false) with | none=>none | some y=>if y.2.2≠0 then some (y.1,y.2.2) else some ({ y.1 with rp:=wrap64 (y.1.rp+1),md:=wrap64 (y.1.md+(AB.ofV K.L (b:Nat)).length) },0))=some Z):=HZ.out;generalize AB.ofV K.L (b:Nat)=l at *
 go_enter func143,ntmps143;go_wp2_with fail;refine hof.mono ?_;rintro e w1 ⟨⟨a,cap,rfl,O1⟩,G1⟩;have HK1:=BE (HK.out.chg0 G1);have HG1:=BE (Chg.cor0 (A:=A) G1);have hweak:=AG.iQ w1 A.h K.hR K.hN K.hS HK1.out.hea HK1.out.wf.hea (b:Nat);have hb8:AG.Jr (b:Nat)=0:=by unfold AG.Jr;rw[AJ (by have:=HB.out;omega)]
 rw[hb8] at hweak;obtain⟨c96,-⟩:=HK1.out.cHea;by_cases hl:l=[]
 ·subst hl;have HZ3:Hid ((K,0)=Z):=by
   have:=HZ2.out;rw[AJ rfl] at this;exact AR this
  go_wp2;go_ret;rw[<-HZ3.out];exact⟨rfl,HK1.out,HG1.out⟩
 ·have hlz:¬ ((l.length:Nat):Int)=0:=fun e=>hl (length_eq_zero_iff.1 om);have hlb:(((l.length:Nat):Int) == 0)=false:=by simpa using hl
  generalize AG.much 3 K.hS (b:Nat)=wk at *
  obtain⟨y,hy,hyz⟩:∃y,movR n K (nwS b wk false)=some y/\(if y.2.2≠0 then some (y.1,y.2.2) else some ({ y.1 with rp:=wrap64 (y.1.rp+1),md:=wrap64 (y.1.md+l.length) },0))=some Z:=by
   have:=HZ2.out;rw[AI hl] at this;cases e:movR n K (nwS b wk false) with
   | none=>rw[e] at this;cases this
   | some y=>rw[e] at this;exact⟨y,rfl,this⟩
  have GA:Chg No w1 (w1.alloc (.cells #[.int .i64 (b:Nat),.bool wk,.bool false,.bool false,.int .i64 0,.int .i64 0,.slice none 0 0] 144)):=(Chg.refl _ w1).alloc _;have hmv:=YE A n (FF A n) _ K w1.heap.size (nwS b wk false) _ y (HK1.out.chg0 GA) (ShAt.new w1 b wk false) HB.out hy;have HG:=BE (HG1.out.trans (Chg.cor0 (A:=A) GA));have hsz1:=HG1.out.size;have HYZ:=BE hyz;generalize l.length=ln at *
  go_wp2_with (go_at_call 190;refine hweak.mono ?_;rintro e w1 ⟨rfl,rfl⟩);refine hmv.mono ?_;rintro e w6 ⟨v6,rfl,k6,s6,sm6,g6⟩;have HK6:=BE k6;have HG7:=BE (HG.out.trans' g6 (fun k hk e=>e.elim id (fun e=>om)));by_cases hc:y.2.2=0
  ·replace q:∀w,(binOp .neq 46 (errV y.2.2) .nilIface).run prog w=.ok (.bool false) w:=fun w=>by rw[q,AO hc];rfl
   have HZ3:Hid (({ y.1 with rp:=wrap64 (y.1.rp+1),md:=wrap64 (y.1.md+(ln:Nat)) },0)=Z):=by
    have:=HYZ.out;rw[AI (by rw[hc];simp)] at this;exact AR this
   have w1r:IntKind.i64.wrap (y.1.rp+1)=wrap64 (y.1.rp+1):=(by rw[IntKind.wrap_i64];unfold wrap64;rfl);have w2r:IntKind.i64.wrap (y.1.md+(ln:Int))=wrap64 (y.1.md+(ln:Int)):=(by rw[IntKind.wrap_i64];unfold wrap64;rfl);obtain⟨c98,f98⟩:=k6.cRp;have k7:=k6.setRp (wrap64 (y.1.rp+1));obtain⟨c99,f99⟩:=k7.cMd;have HK8:=BE (k7.setMd (wrap64 (y.1.md+(ln:Int))));have HG8:Hid (Chg (Cor A) w ((w6.setCell ⟨A.c,98,none⟩ (.int .i64 (wrap64 (y.1.rp+1)))).setCell ⟨A.c,99,none⟩ (.int .i64 (wrap64 (y.1.md+(ln:Int)))))):=(HG7.out.setCell (AK (AK rfl)) _ _).setCell (AK (AK rfl)) _ _;generalize y.1.rp=r0 at *
   generalize y.1.md=d0 at *
   generalize wrap64 (r0+1)=zr at *
   generalize wrap64 (d0+(ln:Int))=zd at *
   go_wp2;go_ret;rw[<-HZ3.out];exact⟨rfl,HK8.out,HG8.out⟩
  ·replace q:∀w,(binOp .neq 46 (errV y.2.2) .nilIface).run prog w=.ok (.bool true) w:=fun w=>by rw[q,AN hc];rfl
   have HZ3:Hid ((y.1,y.2.2)=Z):=by
    have:=HYZ.out;rw[AJ hc] at this;exact AR this
   go_wp2;go_ret;rw[<-HZ3.out];exact⟨rfl,HK6.out,HG7.out⟩
end
def raK (m:Nat):Nat->BH->Option (BH × Nat)
 | 0,_=>none
 | n+1,K=>if Cy K=true then some (K,14) else
  match K.qu with
  | []=>some (K,0)
  | b :: l=>match rfK m { K with qu:=l } b.toNat with
   | none=>none
   | some y=>if y.2≠0 then some y else raK m n y.1
theorem jA(A:Ad)(w:Wd)(K:BH)(h:CoreAt A w K):Calls prog 142 #[.pointer (some ⟨A.c,83,none⟩)] w fun e w'=>e=.returned (.tuple #[.int .i64 (K.qu.headD 0),.bool (AF.nxB K.qu)])/\CoreAt A w' { K with qu:=K.qu.tail }/\Chg (·=A.c) w w':=by
 refine(AF.M7 w A.c 105 101 _ 83 K.qu h.core h.wf.qu).mono ?_;rintro e w' ⟨rfl,hQ,hc⟩;have ht:AF.NA K.qu.tail:=by
  have:=h.wf.qu;cases e:K.qu with
  | nil=>rw[e] at this;exact this
  | cons x l=>rw[e] at this;exact this.tail
 exact⟨rfl,h.setCore { K with qu:=K.qu.tail } ⟨rfl,rfl,rfl,rfl,rfl,rfl,rfl,rfl,rfl⟩ hQ hc (h.wf.qu' ht),hc⟩
theorem NK(A:Ad)(w:Wd)(K:BH)(h:CoreAt A w K)(m n:Nat)(Z:BH × Nat)(hZ:raK m n K=some Z) :Calls prog 83 #[.pointer (some ⟨A.c,0,none⟩)] w fun e w'=>e=.returned (errV Z.2)/\CoreAt A w' Z.1/\Chg (Cor A) w w':=by
 have HK:=BE h;have HZ:=BE hZ;have q:=CA;have g:=BQ;clear h hZ;go_enter func83,ntmps83;go_wp2_with fail
 go_loopg [2] n (fun kx s2 wr=>∃k Ki,k<=kx/\Hid (CoreAt A wr Ki)/\Hid (Chg (Cor A) w wr)/\Hid (raK m k Ki=some Z))
 case atStart=>exact⟨n,K,AM _,HK.out,Chg.refl _ _,HZ⟩
 case round=>
  obtain⟨k,Ki,hk,HC,HG,HE⟩:=hrel;obtain _ | k:=k
  ·exact absurd HE (fun e=>by cases e)
  have no:=NC A wr Ki HC;have kd:Hid ((if Cy Ki=true then some (Ki,14) else match Ki.qu with | []=>some (Ki,0) | b :: l=>match rfK m { Ki with qu:=l } b.toNat with | none=>none | some y=>if y.2≠0 then some y else raK m k y.1)=some Z):=HE.out;clear HE;cases h1:Cy Ki
  ·rw[h1] at no;have it:=jA A wr Ki HC;have ar:Hid ((match Ki.qu with | []=>some (Ki,0) | b :: l=>match rfK m { Ki with qu:=l } b.toNat with | none=>none | some y=>if y.2≠0 then some y else raK m k y.1)=some Z):=by
    have:=kd.out;rw[AI (by rw[h1];simp)] at this;exact this
   clear kd h1;have ha:=HC.out.wf.qu;cases hq:Ki.qu with
   | nil=>
    rw[hq] at it;have hx:Hid ((Ki,0)=Z):=by
     have:=ar.out;rw[hq] at this;exact AR this
    have p2:{ Ki with qu:=([]:List Int) }=Ki:=(by rw[<-hq]);replace it:Calls prog 142 #[.pointer (some ⟨A.c,83,none⟩)] wr fun e w'=>e=.returned (.tuple #[.int .i64 0,.bool false])/\CoreAt A w' { Ki with qu:=[] }/\Chg (·=A.c) wr w':=it;rw[p2] at it;clear ar ha hq p2;go_wp2_with (go_at_call 60;refine no.mono ?_;rintro e wr ⟨rfl,rfl⟩);refine it.mono ?_;rintro e w2 ⟨rfl,k2,g2⟩;have G1:=BE k2;have hv:=BE (HG.out.trans g2.cor_c);clear it k2 g2 no;go_wp2;go_ret;rw[<-hx.out];exact⟨rfl,G1.out,hv⟩
   | cons b l=>
    rw[hq] at it ha;have w1:=ha.2 b (by simp);obtain⟨y,hy,h0⟩:∃y,rfK m { Ki with qu:=l } b.toNat=some y/\(if y.2≠0 then some y else raK m k y.1)=some Z:=by
     have:=ar.out;rw[hq] at this;dsimp only at this;cases e:rfK m { Ki with qu:=l } b.toNat with
     | none=>rw[e] at this;cases this
     | some y=>rw[e] at this;exact⟨y,rfl,this⟩
    replace it:Calls prog 142 #[.pointer (some ⟨A.c,83,none⟩)] wr fun e w'=>e=.returned (.tuple #[.int .i64 ((b.toNat:Nat):Int),.bool true])/\CoreAt A w' { Ki with qu:=l }/\Chg (·=A.c) wr w':=by
     rw[show ((b.toNat:Nat):Int)=b by omega];exact it
    have HB:Hid (b.toNat<12):=(by show b.toNat<12;omega);have La:=BE h0;have HY:=BE hy;clear ar ha hq w1 hy h0;generalize b.toNat=bn at *
    go_wp2_with (go_at_call 60;refine no.mono ?_;rintro e wr ⟨rfl,rfl⟩);refine it.mono ?_;rintro e w2 ⟨rfl,k2,g2⟩;have hv:=BE (HG.out.trans g2.cor_c);have B':=Uv A w2 _ k2 bn HB m y HY;clear it k2 g2 no HC HG;go_wp2_with fail;refine B'.mono ?_;rintro e w3 ⟨rfl,k3,g3⟩;have hg:=BE k3;have h2:=BE (hv.out.trans g3);clear B' k3 g3 hv;by_cases hc:y.2=0
    ·replace q:∀w,(binOp .neq 46 (errV y.2) .nilIface).run prog w=.ok (.bool false) w:=fun w=>by rw[q,AO hc];rfl
     have h6:Hid (raK m k y.1=some Z):=by
      have:=La.out;rw[AI (by rw[hc];simp)] at this;exact this
     clear hc La;go_wp2
     go_roundg k
     case measure=>omega
     case rel=>exact⟨k,y.1,AM _,hg.out,h2.out,h6⟩
    ·replace q:∀w,(binOp .neq 46 (errV y.2) .nilIface).run prog w=.ok (.bool true) w:=fun w=>by rw[q,AN hc];rfl
     have h6:Hid (y=Z):=by
      have:=La.out;rw[AJ hc] at this;exact AR this
     clear hc La;go_wp2;go_ret;rw[<-h6.out];exact⟨rfl,hg.out,h2⟩
  ·rw[h1] at no;have hx:Hid ((Ki,14)=Z):=by
    have:=kd.out;rw[AJ h1] at this;exact AR this
   clear kd h1;go_wp2_with (go_at_call 60;refine no.mono ?_;rintro e wr ⟨rfl,rfl⟩);go_ret;rw[<-hx.out];exact⟨rfl,HC.out,HG⟩
def tdI (c:Nat):Nat->Nat->BH->BH × Nat
 | 0,_,K=>(K,0)
 | n+1,i,K=>if (inK K ((c+i) % 96)).2.2≠0 then ((inK K ((c+i) % 96)).1,(inK K ((c+i) % 96)).2.2) else tdI c n (i+1) (inK K ((c+i) % 96)).1
def YQ (n m:Nat) (X:BH × Nat):Option (BH × Nat):=
 if X.2≠0 then some X else
 match raK n m (awK X.1) with
 | none=>none
 | some y=>if y.2≠0 then some (y.1,MF y.2) else
  if 8<=y.1.ca\/AG.Zs y.1.hR y.1.hN=true then (anR n noH y.1 24).map fun z=>(z.1,MF z.2) else some (y.1,0)
def tdK (n m:Nat) (K:BH):Option (BH × Nat):=YQ n m (tdI K.cu 8 0 { K with cu:=(K.cu+8) % 96,ca:=K.ca+1 })
theorem Wf.pat'{K:BH}(h:Wf K){x:Nat}(hx:x<96)(y:Nat):Wf { K with cu:=x,ca:=y }:=
 ⟨h.chip,h.rr,h.frm,h.map,h.vs,h.vp,h.vc,h.fl,h.nx,h.fr,hx,h.qu,h.hea,h.tl⟩
theorem jB(A:Ad)(w:Wd)(K:BH)(h:CoreAt A w K)(hk:K.ca<9223372036854775807):Calls prog 81 #[.pointer (some ⟨A.pa,0,none⟩)] w fun e w'=>e=.returned (.slice (some ⟨w.heap.size,0,none⟩) 8 8)/\IB w' w.heap.size 3 8 (AF.iL K.cu)/\CoreAt A w' { K with cu:=(K.cu+8) % 96,ca:=K.ca+1 }/\Chg (·=A.pa) w w':=by
 refine(AF.iM w A.pa K.cu K.ca h.pat h.wf.cu hk _ rfl).mono ?_;rintro e w' ⟨rfl,hI,hP,hc⟩;exact⟨rfl,hI,h.setPat hP hc (h.wf.pat' om _),hc⟩
theorem jC(A:Ad)(w:Wd)(K:BH)(h:CoreAt A w K)(hca:K.ca<9223372036854775807)(n m:Nat)(Z:BH × Nat)(hZ:tdK n m K=some Z) :Calls prog 39 #[.pointer (some ⟨A.c,0,none⟩)] w fun e w'=>e=.returned (errV Z.2)/\CoreAt A w' Z.1/\Chg (Cor A) w w':=by
 obtain⟨o0,-⟩:=h.cPat;have qa:=jB A w K h hca;have HK:=BE h;have q:=CA;have g:=BQ;have HN:Hid (¬ Cor A w.heap.size):=h.apart (AM _);have HZ:Hid (YQ n m (tdI K.cu 8 0 { K with cu:=(K.cu+8) % 96,ca:=K.ca+1 })=some Z):=hZ;have f1:=BE h.low;clear h hca hZ;go_enter func39,ntmps39;go_wp2_with fail;refine qa.mono ?_;rintro e w1 ⟨rfl,I1,k1,g1⟩;have HI:=BE I1;have x0:=BE k1;have o2:=BE g1.cor_pa;have C4:w.heap.size<w1.heap.size:=I1.lt;clear qa o0 I1 k1 g1;go_wp2_with fail
 go_loopg [14] 8 (fun kx s14 wr=>∃(i:Nat) (Ki:BH),s14=.int .i64 i/\i<=8/\8 - i<=kx/\Hid (CoreAt A wr Ki)/\Hid (Chg (Cor A) w wr)/\Hid (IB wr w.heap.size 3 8 (AF.iL K.cu))/\Hid (YQ n m (tdI K.cu (8 - i) i Ki)=some Z))
 case atStart=>exact⟨0,_,rfl,om,om,x0.out,o2.out,HI.out,HZ⟩
 case round=>
  obtain⟨i,Ki,rfl,hi,K',HC,HG,HJ,HE⟩:=hrel;by_cases x2:i<8
  ·have f2:(i:Int)<8:=om;obtain⟨ci,-⟩:=HJ.out.cell i x2;replace ci:wr.cell? ⟨w.heap.size,i,none⟩=some (.int .i64 (((K.cu+i) % 96:Nat):Int)):=ci;obtain⟨j,hj⟩:∃j,8 - i=j+1:=⟨7 - i,om⟩;have f5:8 - (i+1)=j:=om;have h2:Hid (YQ n m (if (inK Ki ((K.cu+i) % 96)).2.2≠0 then ((inK Ki ((K.cu+i) % 96)).1,(inK Ki ((K.cu+i) % 96)).2.2) else tdI K.cu j (i+1) (inK Ki ((K.cu+i) % 96)).1)=some Z):=by
    have:=HE.out;rw[hj,tdI] at this;exact this
   have f8:=ME A wr Ki HC ((K.cu+i) % 96) om;have K3:=BE f5;clear hj f5 HE;generalize inK Ki ((K.cu+i) % 96)=X at *
   generalize (K.cu+i) % 96=p at *
   go_wp2_with fail;refine f8.mono ?_;rintro e w2 ⟨v,rfl,O2,k2,g2⟩;have f4:=BE k2;have hx:=BE (HG.out.trans g2);have G1:=BE (HJ.out.chg g2 HN);have f6:=BE O2;have f9:=BE (Pb.new w2 false 0 0 0 0 false false (.slice none 0 0) 0);have B':Hid (Chg No w2 (w2.alloc (.cells #[.bool false,.int .i64 0,.int .i64 0,.int .i64 0,.int .i64 0,.bool false,.bool false,.slice none 0 0,.int .i64 0] 132))):=(Chg.refl _ w2).alloc _;have C5:w.heap.size<w2.heap.size:=G1.out.lt;clear f8 O2 k2 g2 HC HG HJ ci;unfold Zo;go_wp2_with (first | refine wpList_store_pg rfl (.tmp 5) (.tmp 22) rfl w2.heap.size rfl rfl f6.out.one f9 ?_);intro w3 P3 G3;have it:=BE ((f4.out.chg0 B').far f1 om G3);have ar:=BE ((hx.out.trans B'.out.cor0).trans' G3 (fun k hk e=>om));have x1:=BE ((G1.out.chg B' (fun f=>f)).chg G3 om);clear P3 G3 f4 hx G1 f6 f9 B';by_cases hc:X.2.2=0
   ·replace q:∀w,(binOp .neq 46 (errV X.2.2) .nilIface).run prog w=.ok (.bool false) w:=fun w=>by rw[q,AO hc];rfl
    have no:Hid (YQ n m (tdI K.cu j (i+1) X.1)=some Z):=by
     have:=h2.out;rw[AI (by rw[hc];simp)] at this;exact this
    clear hc h2;go_wp2
    go_roundg (8 - (i+1))
    case measure=>omega
    case rel=>exact⟨i+1,X.1,by simp,om,AM _,it.out,ar.out,x1.out,by rw[K3.out];exact no⟩
   ·replace q:∀w,(binOp .neq 46 (errV X.2.2) .nilIface).run prog w=.ok (.bool true) w:=fun w=>by rw[q,AN hc];rfl
    have no:Hid ((X.1,X.2.2)=Z):=by
     have:=h2.out;rw[AJ hc] at this;unfold YQ at this;rw[AJ hc] at this;exact AR this
    clear hc h2;go_wp2;go_ret;rw[<-no.out];exact⟨rfl,it.out,ar⟩
  ·have f2:¬ (i:Int)<8:=om;have e:i=8:=om;subst e;obtain⟨y,hy,t7⟩:∃y,raK n m (awK Ki)=some y/\(if y.2≠0 then some (y.1,MF y.2) else if 8<=y.1.ca\/AG.Zs y.1.hR y.1.hN=true then (anR n noH y.1 24).map fun z=>(z.1,MF z.2) else some (y.1,0))=some Z:=by
    have:YQ n m (Ki,0)=some Z:=HE.out;unfold YQ at this;rw[AI (by simp)] at this;cases e:raK n m (awK Ki) with
    | none=>rw[e] at this;cases this
    | some y=>rw[e] at this;exact⟨y,rfl,this⟩
   have f7:=dB A wr Ki HC;have HY:=BE hy;have h1:=BE t7;clear HE hy t7 HJ;go_wp2_with fail;refine f7.mono ?_;rintro e w2 ⟨rfl,k2,g2⟩;have hx:=BE (HG.out.trans g2);have oa:=NK A w2 _ k2 n m y HY;clear f7 k2 g2 HC HG;go_wp2_with fail;refine oa.mono ?_;rintro e w3 ⟨rfl,k3,g3⟩;have it:=BE k3;have ar:=BE (hx.out.trans g3);clear oa k3 g3 hx;by_cases hc:y.2=0
   ·replace q:∀w,(binOp .neq 46 (errV y.2) .nilIface).run prog w=.ok (.bool false) w:=fun w=>by rw[q,AO hc];rfl
    have no:Hid ((if 8<=y.1.ca\/AG.Zs y.1.hR y.1.hN=true then (anR n noH y.1 24).map fun z=>(z.1,MF z.2) else some (y.1,0))=some Z):=by
     have:=h1.out;rw[AI (by rw[hc];simp)] at this;exact this
    obtain⟨p2,-⟩:=it.out.cPat;obtain⟨G2,-⟩:=it.out.cHea;have La:=AF.cI w3 A.pa y.1.cu y.1.ca it.out.pat;have hv:=AG.lP w3 A.h y.1.hR y.1.hN y.1.hS it.out.hea it.out.wf.hea;clear hc h1;by_cases h8:8<=y.1.ca
    ·rw[AO (show ((y.1.ca:Nat):Int) ≥ 8 by omega)] at La;obtain⟨z,hz,h0⟩:∃z,anR n noH y.1 24=some z/\Z=(z.1,MF z.2):=by
      have:=no.out;rw[AJ (AK h8)] at this;cases e:anR n noH y.1 24 with
      | none=>rw[e] at this;cases this
      | some z=>rw[e] at this;exact⟨z,rfl,(AR this).symm⟩
     have h6:=LE A n (FF A n) w3 y.1 it z hz;have f3:=BE h0;clear no hz h0 hv h8;go_wp2_with (go_at_call 84;refine La.mono ?_;rintro e w3 ⟨rfl,rfl⟩);refine h6.mono ?_;rintro e w4 ⟨rfl,k4,g4⟩;have ha:=BE k4;have kd:=BE (ar.out.trans g4);have hg:=Fp z.2 w4;clear h6 k4 g4 La p2 G2;go_wp2_with (go_at_call 78;refine hg.mono ?_;rintro e w4 ⟨rfl,rfl⟩);go_ret;rw[f3.out];exact⟨rfl,ha.out,kd⟩
    ·rw[AN (show ¬ ((y.1.ca:Nat):Int) ≥ 8 by omega)] at La;cases hb:AG.Zs y.1.hR y.1.hN
     ·rw[hb] at hv;have L3:Hid ((y.1,0)=Z):=by
       have:=no.out;rw[AI (fun e=>e.elim h8 (fun e=>by rw[hb] at e;cases e))] at this;exact AR this
      clear no hb h8;go_wp2_with (go_at_call 84;refine La.mono ?_;rintro e w3 ⟨rfl,rfl⟩);refine hv.mono ?_;rintro e w4 ⟨rfl,mm,rfl⟩;have ha:=BE (it.out.drewN mm);have kd:=BE (ar.out.drewN mm);clear hv La p2 G2;go_wp2;go_ret;rw[<-L3.out];exact⟨rfl,ha.out,kd⟩
     ·rw[hb] at hv;obtain⟨z,hz,h0⟩:∃z,anR n noH y.1 24=some z/\Z=(z.1,MF z.2):=by
       have:=no.out;rw[AJ (AL hb)] at this;cases e:anR n noH y.1 24 with
       | none=>rw[e] at this;cases this
       | some z=>rw[e] at this;exact⟨z,rfl,(AR this).symm⟩
      have f3:=BE h0;have o1:=BE hz;clear no hz h0 hb h8;go_wp2_with (go_at_call 84;refine La.mono ?_;rintro e w3 ⟨rfl,rfl⟩);refine hv.mono ?_;rintro e w4 ⟨rfl,mm,rfl⟩;have ha:=BE (it.out.drewN mm);have kd:=BE (ar.out.drewN mm);generalize w3.drewN mm=w4 at *
      have h6:=LE A n (FF A n) w4 y.1 ha z o1;clear hv La p2 G2 it ar;go_wp2_with fail;refine h6.mono ?_;rintro e w5 ⟨rfl,k5,g5⟩;have oi:=BE k5;have C3:=BE (kd.out.trans g5);have hg:=Fp z.2 w5;clear h6 k5 g5;go_wp2_with (go_at_call 78;refine hg.mono ?_;rintro e w5 ⟨rfl,rfl⟩);go_ret;rw[f3.out];exact⟨rfl,oi.out,C3⟩
   ·replace q:∀w,(binOp .neq 46 (errV y.2) .nilIface).run prog w=.ok (.bool true) w:=fun w=>by rw[q,AN hc];rfl
    have no:Hid ((y.1,MF y.2)=Z):=by
     have:=h1.out;rw[AJ hc] at this;exact AR this
    have hg:=Fp y.2 w3;clear hc h1;go_wp2_with (go_at_call 78;refine hg.mono ?_;rintro e w3 ⟨rfl,rfl⟩);go_ret;rw[<-no.out];exact⟨rfl,it.out,ar⟩
section
variable (w:Wd)
theorem lf:prog.arrayLen 52=24:=kr
theorem jD:(sizeOf (prog.elem 52)).run prog w=.ok 1 w:=kr
theorem Uw(b o:Nat)(w:Wd):(Instr.sliceAt 52 (.pointer (some ⟨b,o,none⟩)) none none none).run prog w=.ok (.slice (some ⟨b,o,none⟩) 24 24) w:=by
 rw[run_sliceAt_array_all w 52 ⟨b,o,none⟩ underlying52,jD,lf];simp[slicedAt,Addr.add_mid]
theorem Jn(g:Nat)(c:AA.Bn)(h:AA.Ck w g c)(z:Int):Calls prog 209 #[.slice (some ⟨g,0,none⟩) 24 24,.int .i64 z] w fun e w'=>∃x:Int,e=.returned (.int .i64 x)/\(0<=x<->∃i,i<24/\c.F i=z)/\w'=w:=by
 have HK:=BE h;go_enter func209,ntmps209;go_wp2_with fail
 go_loopg [8] 24 (fun kx s8 wr=>∃i:Nat,s8=.int .i64 i/\i<=24/\24 - i<=kx/\Hid (wr=w)/\Hid (∀j,j<i->c.F j≠z))
 case atStart=>exact⟨0,rfl,om,om,rfl,fun j hj=>om⟩
 case round=>
  obtain⟨i,rfl,hi,La,HW,HE⟩:=hrel;have ew:wr=w:=HW.out;subst ew;by_cases no:i<24
  ·have it:(i:Int)<24:=om;have ci:=HK.out.F i no;by_cases hz:c.F i=z
   ·have HX:Hid (∃i,i<24/\c.F i=z):=⟨i,no,hz⟩;rw[hz] at ci;go_wp2;go_ret;exact⟨(i:Nat),rfl,⟨fun _=>HX.out,fun _=>om⟩,rfl⟩
   ·have ar:(z == c.F i)=false:=(by simp;exact fun e=>hz e.symm);have Go:Hid (∀j,j<i+1->c.F j≠z):=fun j hj=>by
     by_cases e:j=i
     ·rw[e];exact hz
     ·exact HE j om
    generalize c.F i=fi at *
    go_wp2
    go_roundg (24 - (i+1))
    case measure=>omega
    case rel=>exact⟨i+1,by simp,om,AM _,rfl,Go⟩
  ·have it:¬ (i:Int)<24:=om;have e:i=24:=om;subst e;go_wp2;go_ret;exact⟨-1,rfl,⟨fun e=>om,fun ⟨j,hj,e⟩=>absurd e (HE.out j hj)⟩,rfl⟩
theorem RC(g:Nat)(c:AA.Bn)(h:AA.Ck w g c)(z:Int){b:Bool}(hb:b=true<->∃i,i<24/\c.F i=z):Calls prog 170 #[.slice (some ⟨g,0,none⟩) 24 24,.int .i64 z] w fun e w'=>e=.returned (.bool b)/\w'=w:=by
 have it:=Jn w g c h z;have HB:=BE hb;clear h hb;go_enter func170,ntmps170;go_wp2_with fail;refine it.mono ?_;rintro e w ⟨x,rfl,hx,rfl⟩;have HX:=BE hx;clear it hx;by_cases h0:0<=x
 ·have no:x ≥ 0:=h0;have eb:b=true:=HB.out.2 (HX.out.1 h0);subst eb;clear h0;go_wp2;go_ret;exact⟨rfl,rfl⟩
 ·have eb:b=false:=by
   cases b
   ·rfl
   ·exact absurd (HX.out.2 (HB.out.1 rfl)) h0
  subst eb;go_wp2;go_ret;exact⟨by simp[h0],rfl⟩
def nT (l:List AE.Bc) (c:AA.Bn):Prop:=(∃o,o<25/\AE.newest l (o:Nat) 1099511627774≠none)\/∃i,i<24/\c.F i=1099511627775
end
theorem Ux(w:Wd)(c:AA.Bn){b:Bool}(hb:b=true<->nT [] c) :Calls prog 119 #[.slice none 0 0,.agg (AA.ckA c)] w fun e w'=>e=.returned (.bool b)/\Chg No w w':=by
 have G0:Chg No w (w.alloc (.cells (AA.ckA c) 55)):=(Chg.refl _ w).alloc _;have hx:=BE G0;have h6:=BE (AA.Ck.new w c);have HB:=BE hb;go_enter func119,ntmps119;go_wp2_with fail;generalize w.alloc (.cells (AA.ckA c) 55)=w0 at *
 go_loopg [8] 25 (fun kx s8 wr=>∃i:Nat,s8=.int .i64 i/\i<=25/\25 - i<=kx/\Hid (Chg No w wr)/\Hid (AA.Ck wr w.heap.size c))
 case atStart=>exact⟨0,rfl,om,om,hx.out,h6⟩
 case round=>
  obtain⟨i,rfl,hi,p2,HG,HC⟩:=hrel;by_cases B':i<25
  ·have it:(i:Int)<25:=om;have ha:=AE.Oy wr none 0 (i:Nat) 1099511627774;have h1:=HC.out.lt;go_wp2_with fail;refine ha.mono ?_;rintro e w2 ⟨rfl,g2⟩;have kd:=BE (HG.out.trans g2);have no:=BE (HC.out.chg g2 (fun f=>f));have h2:w.heap.size<w2.heap.size:=no.out.lt;go_wp2_with (refine AE.Bh rfl rfl w2.heap.size rfl ?_);intro w3 F3 g3 z3;have hg:=BE F3;have hc:=BE (kd.out.trans g3);have h0:=BE (no.out.chg g3 (fun f=>f));go_wp2_with (refine AE.wpList_store_fo rfl (.tmp 6) (.tmp 15) rfl w2.heap.size rfl rfl hg ?_);intro w4 F4 g4;have La:=BE (hc.out.trans' g4 (fun k hk e=>om));have ar:=BE (h0.out.chg g4 om);go_wp2
   go_roundg (25 - (i+1))
   case measure=>omega
   case rel=>exact⟨i+1,by simp,om,AM _,La.out,ar⟩
  ·have it:¬ (i:Int)<25:=om;have e:i=25:=om;subst e;have w1:=Uw w.heap.size 0;have hv:=RC wr w.heap.size c HC 1099511627775 (b:=b) ⟨fun e=>(HB.out.1 e).elim (fun ⟨_,_,x⟩=>absurd rfl x) id,fun e=>HB.out.2 (AL e)⟩;go_wp2_with fail;refine hv.mono ?_;rintro e wr ⟨rfl,rfl⟩;go_wp2;go_ret;exact⟨rfl,HG⟩
section
variable {s s':BM}{p x b:Nat}{tl:List Nat->Int->Pg}{t:CP}{D:List Nat}{r:Int}{W:Nat->List Nat}
abbrev Fq:=Nat->Option (CP × List Nat)
structure YR (p:Nat) (t:CP) (D:List Nat):Prop where
 pl:t.p=p
 may:DY t.p t.o t.q t.c t.l
 len:D.length=174
 bys:Bys D
structure JY (s:BM) (T:Fq):Prop where
 ent:∀p t D,T p=some (t,D)->p<96/\YR p t D
 is:∀p t D,T p=some (t,D)->∀k,k<4->(s.ch (4*p+k)).is=true/\(s.ch (4*p+k)).tru=wordOf D (body t.p t.o t.q t.c t.l) k
 non:∀p,p<96->T p=none->(s.ch (4*p+3)).is=false
def Erd (s:BM) (p:Nat):Prop:=∀k,k<4->(s.ch (4*p+k)).is=false
def Gd (s:BM) (p:Nat):Prop:=∀k,k<4->dmg (s.ch (4*p+k))<=2
def Gh (s:BM) (p:Nat):Prop:=∀k,k<4->dmg (s.ch (4*p+k))<=4
def Dj (T:Fq) (p:Nat) (t:CP) (D:List Nat):Fq:=fun x=>if x=p then some (t,D) else T x
def clrT (T:Fq) (b:Nat):Fq:=fun x=>if x / 8=b then none else T x
theorem Gd.gh(h:Gd s p):Gh s p:=fun k hk=>AY (h k hk) dc
theorem Erd.tab{T:Fq}(h:JY s T)(hE:Erd s p):T p=none:=by
 cases e:T p with
 | none=>rfl
 | some x=>
  obtain⟨t,D⟩:=x;have:=(h.is p t D e 3 om).1;rw[hE 3 om] at this;cases this
def YS (s s':BM) (p:Nat):Prop:=∀j,¬ (4*p<=j/\j<4*p+4)->s'.ch j=s.ch j
theorem YS.erd(h:YS s s' p)(hx:x≠p)(hE:Erd s x):Erd s' x:=fun k hk=>by rw[h _ om];exact hE k hk
theorem YS.gd(h:YS s s' p)(hx:x≠p)(hE:Gd s x):Gd s' x:=fun k hk=>by rw[h _ om];exact hE k hk
theorem YS.gh(h:YS s s' p)(hx:x≠p)(hE:Gh s x):Gh s' x:=fun k hk=>by rw[h _ om];exact hE k hk
theorem JY.ch{T:Fq}(h:JY s T)(e:s'.ch=s.ch):JY s' T:=⟨h.ent,fun p t D hT k hk=>by rw[e];exact h.is p t D hT k hk,fun p hp hT=>by rw[e];exact h.non p hp hT⟩
theorem Erd.ch(h:Erd s p)(e:s'.ch=s.ch):Erd s' p:=fun k hk=>by rw[e];exact h k hk
theorem Gd.ch(h:Gd s p)(e:s'.ch=s.ch):Gd s' p:=fun k hk=>by rw[e];exact h k hk
theorem Gh.ch(h:Gh s p)(e:s'.ch=s.ch):Gh s' p:=fun k hk=>by rw[e];exact h k hk
theorem RD(hp:p<96)(hon:s.on=true):rdF tl s r p=(WU s p,wrap64 (r+1),tl (pgTo s p 4) p,0):=by
 unfold rdF;rw[Oa hp hon];rfl
theorem dC(hp:p<96)(hon:s.on=false):rdF tl s r p=(s,r,Pg.zero,7):=by
 have e:readV s p=(s,[],7):=by unfold readV;rw[AI om,AJ hon]
 unfold rdF;rw[e];rfl
theorem NL(htl:∀L n,ToldR L n (tl L n))(hs:s.Ok){T:Fq}(h:JY s T)(hT:T p=some (t,D))(hg:Gh s p) :((tl (pgTo s p 4) p).sound=true<->Gd s p)/\((tl (pgTo s p 4) p).tagged=true<->dmg (s.ch (4*p+3))<=2)/\((tl (pgTo s p 4) p).tagged=true->(tl (pgTo s p 4) p).p=t.p/\(tl (pgTo s p 4) p).o=t.o/\(tl (pgTo s p 4) p).s=t.q/\(tl (pgTo s p 4) p).c=t.c/\(tl (pgTo s p 4) p).l=t.l)/\((tl (pgTo s p 4) p).sound=true->(tl (pgTo s p 4) p).tagged=true/\(tl (pgTo s p 4) p).data=D):=by
 obtain⟨hp,hE⟩:=h.ent p t D hT;have hd:∀k,k<4->hurt D (body t.p t.o t.q t.c t.l) (pgTo s p 4) k=dmg (s.ch (4*p+k)):=fun k hk=>Wc hs hk (h.is p t D hT k hk).2;have it:=htl (pgTo s p 4) p;obtain⟨h1,h2,-,h3,h4,-⟩:=ToldR.told (Dt:=D) (X:=pgTo s p 4) (p:=t.p) (o:=t.o) (s:=t.q) (c:=t.c) (l:=t.l) (g:=tl (pgTo s p 4) p) hE.len hE.bys hE.may (DO hs p 4) (by rw[hE.pl];exact it) (fun k hk=>by rw[hd k hk];exact hg k hk);rw[hd 3 om] at h1 h2;rw[hd 0 om,hd 1 om,hd 2 om] at h2;refine⟨⟨fun e k hk=>?_,fun e=>?_⟩,h1,h3,fun e=>⟨?_,h4 e⟩⟩
 ·obtain⟨a3,a0,a1,a2⟩:=h2.1 e;rcases(by omega:k=0\/k=1\/k=2\/k=3) with rfl | rfl | rfl | rfl
  ·exact a0
  ·exact a1
  ·exact a2
  ·exact a3
 ·exact h2.2 ⟨e 3 om,e 0 om,e 1 om,e 2 om⟩
 ·exact h1.2 (h2.1 e).1
structure Lay4 (s t:BM) (p n:Nat) (W:Nat->List Nat):Prop where
 ch:∀j,t.ch j=if 4*p<=j/\j<4*p+n then OO (W (j - 4*p)) else s.ch j
 rd:∀b,(t.bl b).reads=(s.bl b).reads
theorem YT(hp:p<96)(hl:∀k,k<4->(W k).length=64)(hon:s.on=true)(hE:Erd s p):∀n,n<=4 ->((wrN s p W n).2=0/\(wrN s p W n).1.on=true/\Lay4 s (wrN s p W n).1 p n W) \/((wrN s p W n).2=8/\(wrN s p W n).1.on=true/\∃m,m<n/\Lay4 s (wrN s p W n).1 p m W) \/((wrN s p W n).2=7/\(wrN s p W n).1.on=false/\∃m,m<n/\Lay4 s (wrN s p W n).1 p m W):=by
 intro n
 induction n with
 | zero=>intro _;exact AK ⟨rfl,hon,⟨fun j=>by rw[AI om];rfl,fun _=>rfl⟩⟩
 | succ n ih=>
  intro hn;have e:wrN s p W (n+1)=if (wrN s p W n).2=0 then Bz (wrN s p W n).1 p n (W n) else wrN s p W n:=rfl;rw[e];generalize wrN s p W n=X at *
  rcases ih om with ⟨h0,ho,hL⟩ | ⟨h0,ho,m,hm,hL⟩ | ⟨h0,ho,m,hm,hL⟩
  ·rw[AJ h0];unfold Bz;have e1:((p:Int)).toNat=p:=AP p;have e2:((n:Int)).toNat=n:=AP n;rw[e1,e2,AI (by simp only[not_or,Decidable.not_not,ne_eq];exact⟨⟨om,om,om,om⟩,hl n om⟩),AI (by rw[ho];simp),AI (by rw[hL.ch,AI om,hE n om];simp)];split
   ·exact AL (AL ⟨rfl,rfl,n,om,⟨hL.ch,hL.rd⟩⟩)
   ·split
    ·refine AL (AK ⟨rfl,ho,n,om,⟨hL.ch,fun b=>?_⟩⟩);rw[<-hL.rd b];show (if b=p / 8 then failW (X.1.bl (p / 8)) else X.1.bl b).reads=_;split
     ·rename_i c;rw[c];rfl
     ·rfl
    ·refine AK ⟨rfl,ho,⟨fun j=>?_,fun b=>?_⟩⟩
     ·show (if j=4*p+n then OO (W n) else X.1.ch j)=_;split
      ·rename_i c;rw[AJ om,c,show 4*p+n - 4*p=n by omega]
      ·rename_i c;rw[hL.ch];by_cases d:4*p<=j/\j<4*p+n
       ·rw[AJ d,AJ om]
       ·rw[AI d,AI om]
     ·rw[<-hL.rd b];show (if b=p / 8 then failW (X.1.bl (p / 8)) else X.1.bl b).reads=_;split
      ·rename_i c;rw[c];rfl
      ·rfl
  ·rw[AI (by rw[h0];decide)];exact AL (AK ⟨h0,ho,m,om,hL⟩)
  ·rw[AI (by rw[h0];decide)];exact AL (AL ⟨h0,ho,m,om,hL⟩)
theorem Lay4.oth{t:BM}{n:Nat}(h:Lay4 s t p n W)(hn:n<=4):YS s t p:=fun j hj=>by rw[h.ch,AI om]
theorem YS.rep{T:Fq}(h:YS s s' p)(hR:JY s T)(hT:T p=none)(h3:(s'.ch (4*p+3)).is=false):JY s' T:=by
 refine⟨hR.ent,fun x t D hx k hk=>?_,fun x hx hn=>?_⟩
 ·have:x≠p:=by rintro rfl;rw[hT] at hx;cases hx
  rw[h _ om];exact hR.is x t D hx k hk
 ·by_cases e:x=p
  ·rw[e];exact h3
  ·rw[h _ om];exact hR.non x hx hn
theorem dD(l:List Nat):dmg (OO l)=0:=by
 have:∀n,dmgTo l l n=0:=by
  intro n
  induction n with
  | zero=>rfl
  | succ n ih=>rw[dmgTo,ih,AJ rfl]
 exact this 64
theorem Lay4.full{T:Fq}(h:Lay4 s s' p 4 (wordOf D (body t.p t.o t.q t.c t.l)))(hR:JY s T)(hp:p<96)(hE:YR p t D):JY s' (Dj T p t D)/\Gd s' p:=by
 have it:∀k,k<4->s'.ch (4*p+k)=OO (wordOf D (body t.p t.o t.q t.c t.l) k):=fun k hk=>by rw[h.ch,AJ om,show 4*p+k - 4*p=k by omega]
 refine⟨⟨fun x u C hx=>?_,fun x u C hx k hk=>?_,fun x hx hn=>?_⟩,fun k hk=>by rw[it k hk,dD];decide⟩
 ·unfold Dj at hx;split at hx
  ·rename_i e;injection hx with hx;injection hx with h1 h2;subst h1 h2 e;exact⟨hp,hE⟩
  ·exact hR.ent x u C hx
 ·unfold Dj at hx;split at hx
  ·rename_i e;injection hx with hx;injection hx with h1 h2;subst h1 h2 e;rw[it k hk];exact⟨rfl,rfl⟩
  ·rename_i e;rw[h.ch,AI om];exact hR.is x u C hx k hk
 ·unfold Dj at hn;split at hn
  ·cases hn
  ·rename_i e;rw[h.ch,AI om];exact hR.non x hx hn
structure fO (s s':BM) (T:Fq) (t:CP) (D:List Nat):Prop where
 ok:s'.Ok
 on:s'.on=true
 rep:JY s' (Dj T t.p t D)
 gd:Gd s' t.p
 oth:YS s s' t.p
structure jE (s s':BM) (T:Fq) (t:CP) (on:Bool):Prop where
 ok:s'.Ok
 on:s'.on=on
 rep:JY s' T
 oth:YS s s' t.p
theorem PW(htl:∀L n,ToldR L n (tl L n))(hs:s.Ok){T:Fq}(hR:JY s T)(hp:t.p<96)(hE:YR t.p t D)(hon:s.on=true)(hB:Erd s t.p)(r:Int) :((prF tl s r t D).2.2=0/\(prF tl s r t D).2.1=1/\fO s (prF tl s r t D).1 T t D) \/((prF tl s r t D).2.2=8/\(prF tl s r t D).2.1=0/\jE s (prF tl s r t D).1 T t true) \/((prF tl s r t D).2.2=7/\(prF tl s r t D).2.1=0/\jE s (prF tl s r t D).1 T t false):=by
 have hZ:=BS t.p t.o t.q t.c t.l;have bZ:=Ce t.p t.o t.q t.c t.l;have no:=Mh hs (t.p:Int) (W:=wordOf D (body t.p t.o t.q t.c t.l)) 4 (fun k hk=>(EK hE.len hE.bys hZ bZ k hk).2.1);have hw:=YT (s:=s) (p:=t.p) (W:=wordOf D (body t.p t.o t.q t.c t.l)) hp (fun k hk=>EN hE.len hE.bys hZ bZ k hk) hon hB 4 (AM _);have ar:=hB.tab hR;unfold prF;generalize wrN s t.p (wordOf D (body t.p t.o t.q t.c t.l)) 4=X at *
 dsimp only;rcases hw with ⟨h0,ho,hL⟩ | ⟨h0,ho,m,hm,hL⟩ | ⟨h0,ho,m,hm,hL⟩
 ·obtain⟨hv,Go⟩:=hL.full hR hp hE;have La:=NL htl no hv (show Dj T t.p t D t.p=some (t,D) by unfold Dj;rw[AJ rfl]) Go.gh;have it:=La.1.2 Go;obtain⟨kd,ha⟩:=La.2.2.2 it;rw[AI (by rw[h0];simp),RD hp ho];dsimp only;rw[AI (by simp),AJ ⟨kd,La.2.2.1 kd,it,ha⟩];exact AK ⟨rfl,rfl,⟨Qb no _,ho,hv.ch rfl,Go.ch rfl,hL.oth (AM _)⟩⟩
 ·rw[AJ (by rw[h0];decide)];refine AL (AK ⟨h0,rfl,⟨no,ho,?_,hL.oth om⟩⟩);exact(hL.oth om).rep hR ar (by rw[hL.ch,AI om];exact hB 3 om)
 ·rw[AJ (by rw[h0];decide)];refine AL (AL ⟨h0,rfl,⟨no,ho,?_,hL.oth om⟩⟩);exact(hL.oth om).rep hR ar (by rw[hL.ch,AI om];exact hB 3 om)
theorem Fr(hs:s.Ok)(hb:b<12)(hon:s.on=true) :((eraseR s b).2=0/\(eraseR s b).1.on=true/\(eraseR s b).1.Ok/\∀j,(eraseR s b).1.ch j=if 32*b<=j/\j<32*b+32 then Gk else s.ch j) \/((eraseR s b).2=8/\(eraseR s b).1.on=true/\(eraseR s b).1.Ok/\(eraseR s b).1.ch=s.ch) \/((eraseR s b).2=7/\(eraseR s b).1.on=false/\(eraseR s b).1.Ok/\(eraseR s b).1.ch=s.ch):=by
 have it:=Id hs b;unfold eraseR at it ⊢;rw[AI om,AI (by rw[hon];simp)] at it ⊢;split at it
 ·rename_i c;rw[AJ c];exact AL (AL ⟨rfl,rfl,it,rfl⟩)
 ·rename_i c;rw[AI c];split at it
  ·rename_i d;rw[AJ d];exact AL (AK ⟨rfl,hon,it,rfl⟩)
  ·rename_i d;rw[AI d];exact AK ⟨rfl,hon,it,fun j=>rfl⟩
theorem JY.erase{T:Fq}(h:JY s T)(e:∀j,s'.ch j=if 32*b<=j/\j<32*b+32 then Gk else s.ch j):JY s' (clrT T b):=by
 refine⟨fun x t D hx=>?_,fun x t D hx k hk=>?_,fun x hx hn=>?_⟩
 ·unfold clrT at hx;split at hx
  ·cases hx
  ·exact h.ent x t D hx
 ·unfold clrT at hx;split at hx
  ·cases hx
  ·rename_i c;rw[e,AI om];exact h.is x t D hx k hk
 ·unfold clrT at hn;rw[e];split at hn
  ·rename_i c;rw[AJ om];rfl
  ·rename_i c;rw[AI om];exact h.non x hx hn
end
section
variable {K K':BH}{o:Nat}{X:Nat->Prop}
structure Bk where
 T:Fq
 c:AA.Bn
 a:Nat->List Nat
 z:Nat->Prop
structure Lvs (K:BH) (G:Bk) (o:Nat) (l:Bool) (D:List Nat):Prop where
 tab:G.T (K.L o).toNat=some (⟨(K.L o).toNat,o,K.vs o,K.vc o,l⟩,D)
 lost:l=true->G.z o
 data:l=false->D=if o=24 then AA.wrL G.c else G.a o
 gh:Gh K.s (K.L o).toNat
 gd:¬ G.z o->Gd K.s (K.L o).toNat
def mI (K:BH) (c:AA.Bn) (X:Nat->Prop) (p:Nat) (t:CP):Prop:=
 K.L t.o≠-1/\(t.q<K.vs t.o\/t.q=K.vs t.o/\((p:Int)=K.L t.o\/t.c=(K.vc t.o+1) % 256/\c.B (p / 8)=false/\(K.F (p / 8)=3\/X (p / 8))))
structure Sit (K:BH) (G:Bk) (X:Nat->Prop):Prop where
 wf:Wf K
 rep:JY K.s G.T
 sts:∀b,b<12->0<=K.F b/\K.F b<=3
 frs:∀p,p<96->K.F (p / 8)=0->Erd K.s p
 opn:∀b,b<12->(K.F b=1<->K.fr.o=true/\K.fr.k=b)
 frn:K.fr.o=true->∀i,K.fr.i<=i->i<8->Erd K.s (8*K.fr.k+i)
 liv:∀o,o<25->K.L o≠-1->∃l D,Lvs K G o l D
 nul:∀o,o<24->K.L o = -1->G.a o=List.replicate 174 0
 blk:∀o,o<25->K.L o≠-1->K.F ((K.L o).toNat / 8)≠0/\(K.F ((K.L o).toNat / 8)=3->K.dd=true)
 flo:∀o,o<24->K.L o≠-1->K.fl o<K.vs o
 old:∀p t D,G.T p=some (t,D)->(t.o=24\/G.c.B (p / 8)=false/\K.fl t.o<t.q)->mI K G.c X p t
 seq:∀p t D,G.T p=some (t,D)->t.q<K.nx
 fls:∀o,o<24->K.fl o<K.nx
 sp:K.sp=false
 dds:K.dd=true<->2<bad3 K.F
 cb:∀b,b<12->G.c.B b=true->K.F b=3
 cf:∀o,o<24->G.c.F o=K.fl o
 cn:K.L 24≠-1->G.c.N=K.vs 24/\(G.c.C+8*K.ca) % 96=K.cu/\AA.Zp G.c
 nw:K.L 24 = -1->∀p,G.T p=none
 z24:¬ G.z 24
 lb:∀o,o<25->K.L o≠-1->G.c.B ((K.L o).toNat / 8)=false
theorem Wf.lt(h:Wf K)(ho:o<25)(hL:K.L o≠-1):(K.L o).toNat<96/\K.L o=((K.L o).toNat:Nat):=by
 rcases h.map.rng o ho with e | e
 ·exact absurd e hL
 ·omega
structure VE (K K':BH):Prop where
 cu:K'.cu=K.cu
 qu:K'.qu=K.qu
 hS:K'.hS=K.hS
 rp:K'.rp=K.rp
 md:K'.md=K.md
 tl:K'.tl=K.tl
theorem VE.refl(K:BH):VE K K:=⟨rfl,rfl,rfl,rfl,rfl,rfl⟩
theorem VE.trans{K'':BH}(h:VE K K')(k:VE K' K''):VE K K'':=⟨k.cu.trans h.cu,k.qu.trans h.qu,k.hS.trans h.hS,k.rp.trans h.rp,k.md.trans h.md,k.tl.trans h.tl⟩
structure YU (K K':BH):Prop where
 ch:K'.s.ch=K.s.ch
 F:K'.F=K.F
 L:K'.L=K.L
 vs:K'.vs=K.vs
 vc:K'.vc=K.vc
 fl:K'.fl=K.fl
 nx:K'.nx=K.nx
 sp:K'.sp=K.sp
 fr:K'.fr=K.fr
 dd:K'.dd=K.dd
 cu:K'.cu=K.cu
 ca:K'.ca=K.ca
 fx:VE K K'
theorem Lvs.alk{G:Bk}{l:Bool}{D:List Nat}(h:Lvs K G o l D)(a:YU K K'):Lvs K' G o l D:=
 ⟨by rw[a.L,a.vs,a.vc];exact h.tab,h.lost,h.data,by rw[a.L];exact h.gh.ch a.ch,by rw[a.L];exact fun z=>(h.gd z).ch a.ch⟩
theorem Sit.alk{G:Bk}(h:Sit K G X)(a:YU K K')(wf:Wf K'):Sit K' G X where
 wf:=wf
 rep:=h.rep.ch a.ch
 sts:=by rw[a.F];exact h.sts
 frs:=by rw[a.F];exact fun p hp e=>(h.frs p hp e).ch a.ch
 opn:=by rw[a.F,a.fr];exact h.opn
 frn:=by rw[a.fr];exact fun e i hi h8=>(h.frn e i hi h8).ch a.ch
 liv:=fun o ho hL=>by
  rw[a.L] at hL
  obtain⟨l,D,hl⟩:=h.liv o ho hL
  exact⟨l,D,hl.alk a⟩
 nul:=by rw[a.L];exact h.nul
 blk:=by rw[a.L,a.F,a.dd];exact h.blk
 flo:=by rw[a.L,a.fl,a.vs];exact h.flo
 old:=by unfold mI;rw[a.L,a.fl,a.vs,a.vc,a.F];exact h.old
 seq:=by rw[a.nx];exact h.seq
 fls:=by rw[a.nx,a.fl];exact h.fls
 sp:=by rw[a.sp];exact h.sp
 dds:=by rw[a.dd,a.F];exact h.dds
 cb:=by rw[a.F];exact h.cb
 cf:=by rw[a.fl];exact h.cf
 cn:=by rw[a.L,a.vs,a.cu,a.ca];exact h.cn
 nw:=by rw[a.L];exact h.nw
 z24:=h.z24
 lb:=by rw[a.L];exact h.lb
theorem Sit.mono{G:Bk}{Y:Nat->Prop}(h:Sit K G X)(hXY:∀b,b<12->X b->K.F b=3\/Y b):Sit K G Y:=by
 have it:∀p t D,G.T p=some (t,D)->(t.o=24\/G.c.B (p / 8)=false/\K.fl t.o<t.q)->mI K G.c Y p t:=by
  intro p t D hT hc;obtain⟨h1,h2⟩:=h.old p t D hT hc;have hp:=(h.rep.ent p t D hT).1;exact⟨h1,h2.imp id fun ⟨e,k⟩=>⟨e,k.imp id fun ⟨c,y,x⟩=>⟨c,y,x.elim AK (hXY _ om)⟩⟩⟩
 exact⟨h.wf,h.rep,h.sts,h.frs,h.opn,h.frn,h.liv,h.nul,h.blk,h.flo,it,h.seq,h.fls,h.sp,h.dds,h.cb,h.cf,h.cn,h.nw,h.z24,h.lb⟩
end
theorem Dk{F:Nat->Int}{b:Nat}{s:Int}(hb:b<12)(hs:0<=s/\s<=3)(h3:F b≠3\/s=3):AD.setF F b s=upd F b s:=by
 have e:AD.setC F b s=0:=by
  unfold AD.setC;rw[AP,AI om,AI om]
 unfold AD.setF;rw[AJ e,AP]
theorem Bb(F:Nat->Int)(n:Nat)(s:Int):upd F n s n=s:=by unfold upd;rw[AJ rfl]
theorem BT(F:Nat->Int){n j:Nat}(s:Int)(h:j≠n):upd F n s j=F j:=by unfold upd;rw[AI h]
theorem BX(F:Nat->Int)(n j:Nat)(s:Int):(j=n/\upd F n s j=s)\/(j≠n/\upd F n s j=F j):=by
 by_cases h:j=n
 ·subst h;exact AK ⟨rfl,Bb _ _ _⟩
 ·exact AL ⟨h,BT _ _ h⟩
theorem YV(F:Nat->Int){n:Nat}(hn:n<12)(s t:Int):AD.cnt (upd F n s) t 12+(if F n=t then 1 else 0)=AD.cnt F t 12+(if s=t then 1 else 0):=AD.SG F n s t 12 hn
def fre (F:Nat->Int):Nat:=AD.cnt F 0 12
theorem Fs(F:Nat->Int){n:Nat}(hn:n<12)(s:Int):fre (upd F n s)+(if F n=0 then 1 else 0)=fre F+(if s=0 then 1 else 0):=YV F hn s 0
theorem Ft(F:Nat->Int){n:Nat}(hn:n<12)(s:Int):bad3 (upd F n s)+(if F n=3 then 1 else 0)=bad3 F+(if s=3 then 1 else 0):=YV F hn s 3
theorem YW(F:Nat->Int)(s:Int):fre (upd F 12 s)=fre F:=AD.My F 12 s 0 12 (AM _)
theorem YX(F:Nat->Int)(s:Int):bad3 (upd F 12 s)=bad3 F:=AD.My F 12 s 3 12 (AM _)
section
variable {K:BH}{G:Bk}{X Y:Nat->Prop}
theorem Sit.reF(h:Sit K G X)(F':Nat->Int)(fr':AC.St)(dd':Bool)(wf:Wf { K with F:=F',fr:=fr',dd:=dd' })(sts:∀b,b<12->0<=F' b/\F' b<=3)(frs:∀p,p<96->F' (p / 8)=0->Erd K.s p)(opn:∀b,b<12->(F' b=1<->fr'.o=true/\fr'.k=b))(frn:fr'.o=true->∀i,fr'.i<=i->i<8->Erd K.s (8*fr'.k+i))(blk:∀o,o<25->K.L o≠-1->F' ((K.L o).toNat / 8)≠0/\(F' ((K.L o).toNat / 8)=3->dd'=true))(rv:∀b,b<12->K.F b=3->F' b=3)(xy:∀b,b<12->X b->F' b=3\/Y b)(dds:dd'=true<->2<bad3 F'):Sit { K with F:=F',fr:=fr',dd:=dd' } G Y where
 wf:=wf
 rep:=h.rep
 sts:=sts
 frs:=frs
 opn:=opn
 frn:=frn
 liv:=fun o ho hL=>by
  obtain⟨l,D,hl⟩:=h.liv o ho hL
  exact⟨l,D,⟨hl.tab,hl.lost,hl.data,hl.gh,hl.gd⟩⟩
 nul:=h.nul
 blk:=blk
 flo:=h.flo
 old:=fun p t D hT hc=>by
  obtain⟨h1,h2⟩:=h.old p t D hT hc
  have hp:=(h.rep.ent p t D hT).1
  exact⟨h1,h2.imp id fun ⟨e,k⟩=>⟨e,k.imp id fun ⟨c,y,x⟩=>⟨c,y,x.elim (fun x=>AK (rv _ om x)) (xy _ om)⟩⟩⟩
 seq:=h.seq
 fls:=h.fls
 sp:=h.sp
 dds:=dds
 cb:=fun b hb e=>rv b hb (h.cb b hb e)
 cf:=h.cf
 cn:=h.cn
 nw:=h.nw
 z24:=h.z24
 lb:=h.lb
theorem Sit.frk(h:Sit K G X)(ho:K.fr.o=true):K.fr.k<12/\K.F K.fr.k=1:=⟨h.wf.fr.1,(h.opn K.fr.k h.wf.fr.1).2 ⟨ho,rfl⟩⟩
theorem DW(h:K.fr.o=false):clK K=K:=by unfold clK;rw[h];rfl
theorem Sit.clK_eq(h:Sit K G X)(ho:K.fr.o=true):clK K={ K with F:=upd K.F K.fr.k 2,fr:=noF,dd:=K.dd }:=by
 obtain⟨h1,h2⟩:=h.frk ho;unfold clK;rw[ho,AJ rfl,Dk h1 dc (AK (by rw[h2];decide))]
theorem jF:AC.Fl noF:=⟨(by decide:(0:Nat)<12),(by decide:(0:Nat)<9)⟩
theorem Sit.cl(h:Sit K G X):Sit (clK K) G X/\fre (clK K).F=fre K.F/\bad3 (clK K).F=bad3 K.F/\(clK K).fr.o=false/\(∀b,b<12->(K.F b=3<->(clK K).F b=3)):=by
 cases ho:K.fr.o
 ·rw[DW ho];exact⟨h,rfl,rfl,ho,fun b _=>Iff.rfl⟩
 ·obtain⟨h1,h2⟩:=h.frk ho;rw[h.clK_eq ho];have c0:=Fs K.F h1 2;have c3:=Ft K.F h1 2;rw[h2] at c0 c3;simp at c0 c3;refine⟨h.reF _ _ _ ?_ ?_ ?_ ?_ ?_ ?_ ?_ ?_ ?_,c0,c3,rfl,fun b hb=>?_⟩
  ·have e:=(h.wf.fr' jF).st K.fr.k 2;unfold stK at e;rw[show ({ K with fr:=noF }:BH).F=K.F from rfl,Dk h1 dc (AK (by rw[h2];decide))] at e;exact e
  ·intro b hb;rcases BX K.F K.fr.k b 2 with ⟨_,e⟩ | ⟨_,e⟩ <;> rw[e]
   ·decide
   ·exact h.sts b hb
  ·intro p hp e;rcases BX K.F K.fr.k (p / 8) 2 with ⟨_,e2⟩ | ⟨_,e2⟩ <;> rw[e2] at e
   ·exact absurd e dc
   ·exact h.frs p hp e
  ·intro b hb;refine⟨fun e=>?_,fun e=>absurd e.1 dc⟩;rcases BX K.F K.fr.k b 2 with ⟨_,e2⟩ | ⟨c,e2⟩ <;> rw[e2] at e
   ·exact absurd e dc
   ·exact absurd ((h.opn b hb).1 e).2.symm c
  ·exact fun e=>absurd e dc
  ·intro o hl hL;rcases BX K.F K.fr.k ((K.L o).toNat / 8) 2 with ⟨_,e2⟩ | ⟨_,e2⟩ <;> rw[e2]
   ·exact⟨dc,fun e=>absurd e dc⟩
   ·exact h.blk o hl hL
  ·intro b hb e;rw[BT]
   ·exact e
   ·rintro rfl;rw[h2] at e;exact absurd e dc
  ·exact fun b _ e=>AL e
  ·rw[c3];exact h.dds
  ·show K.F b=3<->upd K.F K.fr.k 2 b=3;rcases BX K.F K.fr.k b 2 with ⟨e,e2⟩ | ⟨_,e2⟩ <;> rw[e2]
   rw[e,h2];decide
theorem Sit.lv(h:Sit K G X)(b:Int):Sit (lvK K b) G X/\fre (lvK K b).F=fre K.F/\bad3 (lvK K b).F=bad3 K.F/\(∀b',b'<12->(K.F b'=3<->(lvK K b).F b'=3)):=by
 unfold lvK;split
 ·obtain⟨h1,h2,h3,_,h5⟩:=h.cl;exact⟨h1,h2,h3,h5⟩
 ·exact⟨h,rfl,rfl,fun _ _=>Iff.rfl⟩
theorem NM(K:BH)(b:Nat):(lvK K b).fr.o=true->(lvK K b).fr.k≠b:=by
 unfold lvK;split
 ·rename_i e;intro ho;unfold clK at ho;split at ho
  ·exact absurd (show (false:Bool)=true from ho) dc
  ·rename_i c;exact absurd ho c
 ·rename_i e;intro ho e2;apply e;unfold AC.blV;rw[ho,e2];rfl
theorem Iw(hw:0<=K.F 12/\K.F 12<12)(hf:1<=fre K.F):tkC K.F=0/\tkM K.F<12/\K.F (tkM K.F)=0:=by
 obtain⟨hN,hm⟩:=LB K.F hw;rcases hN with ⟨h1,j,_,_,h4,_⟩ | ⟨_,_,h3⟩
 ·exact⟨h1,hm,h4⟩
 ·have:∀k,k<=12->AD.cnt K.F 0 k=0:=by
   intro k
   induction k with
   | zero=>intro _;rfl
   | succ k ih=>intro hk;unfold AD.cnt;rw[ih om,AI (h3 k om)]
  have:=this 12 (AM _);unfold fre at hf;omega
theorem Sit.free_none(h:Sit K G X){m:Nat}(hF:K.F m=0):∀o,o<25->K.L o≠-1->(K.L o).toNat / 8≠m:=fun o ho hL e=>(h.blk o ho hL).1 (by rw[e];exact hF)
theorem LF(F:Nat->Int)(m:Nat):AD.tkF F 0 m=upd (upd F m 1) 12 ((m+1) % 12:Nat):=by unfold AD.tkF;rw[AJ rfl]
theorem Fu(F:Nat->Int){m b:Nat}(hb:b<12):AD.tkF F 0 m b=upd F m 1 b:=by rw[LF,BT _ _ om]
theorem Wf.F'{K:BH}(h:Wf K){F:Nat->Int}(hF:0<=F 12/\F 12<12){fr:AC.St}(hfr:AC.Fl fr)(d:Bool):Wf { K with F:=F,fr:=fr,dd:=d }:=
 ⟨h.chip,h.rr,hF,h.map,h.vs,h.vp,h.vc,h.fl,h.nx,hfr,h.cu,h.qu,h.hea,h.tl⟩
theorem Sit.op(h:Sit K G X)(ho:K.fr.o=false)(hf:1<=fre K.F) :(opK K).2=0/\Sit (opK K).1 G X/\fre (opK K).1.F+1=fre K.F/\bad3 (opK K).1.F=bad3 K.F/\(opK K).1.fr=⟨true,tkM K.F,0⟩/\(∀b,b<12->(K.F b=3<->(opK K).1.F b=3)) /\∃F',(opK K).1={ K with F:=F',fr:=⟨true,tkM K.F,0⟩,dd:=K.dd }:=by
 obtain⟨h1,h2,h3⟩:=Iw h.wf.frm hf;have e:opK K=({ K with F:=AD.tkF K.F 0 (tkM K.F),fr:=⟨true,tkM K.F,0⟩,dd:=K.dd },0):=by unfold opK;rw[AJ h1]
 rw[e];have c0:=Fs K.F h2 1;have c3:=Ft K.F h2 1;rw[h3] at c0 c3;simp at c0 c3;have f0:fre (AD.tkF K.F 0 (tkM K.F))=fre (upd K.F (tkM K.F) 1):=by rw[LF,YW]
 have f3:bad3 (AD.tkF K.F 0 (tkM K.F))=bad3 (upd K.F (tkM K.F) 1):=by rw[LF,YX]
 refine⟨rfl,h.reF _ _ _ ?_ ?_ ?_ ?_ ?_ ?_ ?_ ?_ ?_,by rw[f0];exact c0,by rw[f3,c3],rfl,fun b hb=>?_,_,rfl⟩
 ·refine h.wf.F' ?_ ⟨h2,(by decide:(0:Nat)<9)⟩ _;rw[LF,Bb];omega
 ·intro b hb;rw[Fu _ hb];rcases BX K.F (tkM K.F) b 1 with ⟨_,e⟩ | ⟨_,e⟩ <;> rw[e]
  ·decide
  ·exact h.sts b hb
 ·intro p hp e;rw[Fu _ om] at e;rcases BX K.F (tkM K.F) (p / 8) 1 with ⟨_,e2⟩ | ⟨_,e2⟩ <;> rw[e2] at e
  ·exact absurd e dc
  ·exact h.frs p hp e
 ·intro b hb;rw[Fu _ hb];refine⟨fun e=>⟨rfl,?_⟩,fun e=>?_⟩
  ·rcases BX K.F (tkM K.F) b 1 with ⟨e1,_⟩ | ⟨c,e2⟩
   ·exact e1.symm
   ·rw[e2] at e;have:=((h.opn b hb).1 e).1;rw[ho] at this;cases this
  ·rw[<-e.2];exact Bb _ _ _
 ·intro _ i _ hi;exact h.frs _ (by show 8*tkM K.F+i<96;omega) (by show K.F ((8*tkM K.F+i) / 8)=0;rw[show (8*tkM K.F+i) / 8=tkM K.F by omega];exact h3)
 ·intro o hl hL;have it:=(h.wf.lt hl hL).1;rw[Fu _ om,BT _ _ (h.free_none h3 o hl hL)];exact h.blk o hl hL
 ·intro b hb e;rw[Fu _ hb,BT]
  ·exact e
  ·rintro rfl;rw[h3] at e;exact absurd e dc
 ·exact fun b _ e=>AL e
 ·rw[f3,c3];exact h.dds
 ·show K.F b=3<->AD.tkF K.F 0 (tkM K.F) b=3;rw[Fu _ hb];rcases BX K.F (tkM K.F) b 1 with ⟨e,e2⟩ | ⟨_,e2⟩ <;> rw[e2]
  rw[e,h3];decide
theorem Sit.spo(h:Sit K G X){b:Nat}(hb:b<12)(h3:K.F b≠3)(hl:(∀o,o<25->K.L o≠-1->(K.L o).toNat / 8≠b)\/2<=bad3 K.F)(hY:∀x,x<12->X x->x=b\/Y x) :Sit (spK K b) G Y/\bad3 (spK K b).F=bad3 K.F+1/\fre K.F<=fre (spK K b).F+(if K.F b=0 then 1 else 0)/\(∀x,x<12->((spK K b).F x=3<->K.F x=3\/x=b))/\((spK K b).dd=true<->2<=bad3 K.F)/\((spK K b).fr=K.fr\/(spK K b).fr=noF):=by
 obtain⟨s1,f1,b1,q1⟩:=h.lv (b:Nat);have it:=NM K b;have hL:(lvK K b).L=K.L:=by unfold lvK clK;split <;> (try split) <;> rfl
 have ha:(lvK K b).dd=K.dd:=by unfold lvK clK;split <;> (try split) <;> rfl
 have hk:(lvK K b).sp=K.sp:=by unfold lvK clK;split <;> (try split) <;> rfl
 have kd:(lvK K b).fr=K.fr\/(lvK K b).fr=noF:=by
  unfold lvK clK;split
  ·split
   ·exact AL rfl
   ·exact AK rfl
  ·exact AK rfl
 have ar:K.F b=0<->(lvK K b).F b=0:=by
  unfold lvK;split
  ·rename_i e;unfold clK;split
   ·rename_i ho;have La:K.fr.k=b:=(by unfold AC.blV at e;rw[ho] at e;simp at e;omega);obtain⟨h1,h2⟩:=h.frk ho;show K.F b=0<->AD.setF K.F K.fr.k 2 b=0;rw[Dk h1 dc (AK (by rw[h2];decide)),La,Bb,<-La,h2];decide
   ·exact Iff.rfl
  ·exact Iff.rfl
 have hv:(lvK K b).F b≠3:=fun e=>h3 ((q1 b hb).2 e);unfold spK stK;generalize lvK K b=K1 at *
 dsimp only;rw[Dk hb dc (AL rfl)];have c0:=Fs K1.F hb 3;have c3:=Ft K1.F hb 3;rw[AI hv,AJ rfl] at c3;rw[AI (show ¬ (3:Int)=0 by decide)] at c0;have hd:(K1.dd || (decide (2<bad3 (upd K1.F b 3)) || K1.sp))=decide (2<bad3 (upd K1.F b 3)):=by
  rw[s1.sp,Bool.or_false];cases e:K1.dd
  ·rfl
  ·have:=s1.dds.1 e;rw[AO om];rfl
 rw[hd];refine⟨s1.reF _ _ _ ?_ ?_ ?_ ?_ ?_ ?_ ?_ ?_ ?_,om,?_,fun x hx=>?_,?_,kd⟩
 ·refine s1.wf.F' ?_ s1.wf.fr _;rw[BT _ _ om];exact s1.wf.frm
 ·intro x hx;rcases BX K1.F b x 3 with ⟨_,e⟩ | ⟨_,e⟩ <;> rw[e]
  ·decide
  ·exact s1.sts x hx
 ·intro p hp e;rcases BX K1.F b (p / 8) 3 with ⟨_,e2⟩ | ⟨_,e2⟩ <;> rw[e2] at e
  ·exact absurd e dc
  ·exact s1.frs p hp e
 ·intro x hx;rcases BX K1.F b x 3 with ⟨e1,e2⟩ | ⟨_,e2⟩ <;> rw[e2]
  ·refine⟨fun e=>absurd e dc,fun e=>?_⟩;subst e1;exact absurd e.2 (it e.1)
  ·exact s1.opn x hx
 ·exact s1.frn
 ·intro o ho no;rw[hL] at no ⊢;rcases BX K1.F b ((K.L o).toNat / 8) 3 with ⟨e1,e2⟩ | ⟨_,e2⟩ <;> rw[e2]
  ·refine⟨dc,fun _=>?_⟩;rcases hl with hl | hl
   ·exact absurd e1 (hl o ho no)
   ·exact AO om
  ·have:=s1.blk o ho (by rw[hL];exact no);rw[hL] at this;refine⟨this.1,fun e=>AO ?_⟩;have:=s1.dds.1 (this.2 e);omega
 ·intro x hx e;rcases BX K1.F b x 3 with ⟨_,e2⟩ | ⟨_,e2⟩ <;> rw[e2]
  exact e
 ·intro x hx e;rcases hY x hx e with rfl | e
  ·exact AK (Bb _ _ _)
  ·exact AL e
 ·exact decide_eq_true_iff
 ·show fre K.F<=fre (upd K1.F b 3)+_;by_cases e:K.F b=0
  ·rw[AJ (ar.1 e)] at c0;rw[AJ e];omega
  ·rw[AI (fun e2=>e (ar.2 e2))] at c0;rw[AI e];omega
 ·show upd K1.F b 3 x=3<->_;rcases BX K1.F b x 3 with ⟨e1,e2⟩ | ⟨e1,e2⟩ <;> rw[e2]
  ·simp[e1]
  ·rw[<-q1 x hx];simp[e1]
 ·show decide (2<bad3 (upd K1.F b 3))=true<->_;rw[decide_eq_true_iff];omega
end
section
variable {K K':BH}{N i j:Nat}
def Rdn (N:Nat) (K:BH):Prop:=∀b,b<12->0<=(K.s.bl b).reads/\(K.s.bl b).reads<=N/\K.hR b=min (K.s.bl b).reads 65535
def RdB (k:Nat) (K K':BH):Prop:=∀N,N+k<4611686018427387904->Rdn N K->Rdn (N+k) K'
theorem Rdn.mono{M:Nat}(h:Rdn N K)(e:N<=M):Rdn M K:=fun b hb=>by
 obtain⟨h1,h2,h3⟩:=h b hb
 exact⟨h1,om,h3⟩
theorem RdB.refl(K:BH):RdB 0 K K:=fun _ _ h=>h
theorem RdB.trans{K'':BH}(h:RdB i K K')(k:RdB j K' K''):RdB (i+j) K K'':=fun N hN hR=>by
 have:=k (N+i) om (h N om hR)
 rwa [Nat.add_assoc] at this
theorem RdB.mono(h:RdB i K K')(e:i<=j):RdB j K K':=fun N hN hR=>(h N om hR).mono om
theorem RdB.same(h1:∀b,(K'.s.bl b).reads=(K.s.bl b).reads)(h2:K'.hR=K.hR):RdB 0 K K':=fun N _ h b hb=>by
 rw[h1,h2]
 exact h b hb
theorem dE(R:Nat->Int){x n:Nat}(hx:x<12)(b:Nat):Di R (x:Nat) (n:Nat) b=if b=x then min (R x+(n:Int)) 65535 else R b:=by
 unfold Di;rw[AJ om,AP];unfold upd;split
 ·rw[show max (n:Int) 0=n by omega]
 ·rfl
theorem MG(s:BM)(p b:Nat):((WU s p).bl b).reads=if b=p / 8 then wrap64 ((s.bl b).reads+1) else (s.bl b).reads:=by
 show (if b=p / 8 then _ else s.bl b:Jj).reads=_;split
 ·rename_i e;rw[e]
 ·rfl
theorem Rdn.one(h:Rdn N K)(hN:N+1<4611686018427387904){p:Nat}(hp:p<96)(h1:∀b,(K'.s.bl b).reads=if b=p / 8 then wrap64 ((K.s.bl b).reads+1) else (K.s.bl b).reads)(h2:K'.hR=Di K.hR (p / 8:Nat) (1:Nat)):Rdn (N+1) K':=fun b hb=>by
 obtain⟨a1,a2,a3⟩:=h b hb
 rw[h1 b,h2,dE K.hR om b]
 by_cases e:b=p / 8
 ·
  rw[AJ e,AJ e,<-e,a3]
  have:wrap64 ((K.s.bl b).reads+1)=(K.s.bl b).reads+1:=by unfold wrap64;omega
  rw[this]
  refine⟨om,om,om⟩
 ·
  rw[AI e,AI e]
  exact⟨a1,om,a3⟩
theorem YY(K:BH)(p:Nat):RdB 1 K (rdK K p).1:=fun N hN h=>by
 unfold rdK rdF
 by_cases hp:p<96
 ·
  cases hon:K.s.on
  ·
   have e:readV K.s p=(K.s,[],7):=by unfold readV;rw[AI om,AJ hon]
   rw[e]
   exact(h.mono om:Rdn (N+1) K)
  ·
   rw[Oa hp hon]
   exact h.one hN hp (MG K.s p) rfl
 ·
  have e:readV K.s p=(K.s,[],1):=by unfold readV;rw[AJ om]
  rw[e]
  exact(h.mono om:Rdn (N+1) K)
theorem Uy(s:BM)(a:Int)(W:Nat->List Nat)(b:Nat):∀n,((wrN s a W n).1.bl b).reads=(s.bl b).reads:=by
 intro n
 induction n with
 | zero=>rfl
 | succ n ih=>
  have e:wrN s a W (n+1)=if (wrN s a W n).2=0 then Bz (wrN s a W n).1 a n (W n) else wrN s a W n:=rfl;rw[e];generalize wrN s a W n=X at *
  split
  ·rw[<-ih];unfold Bz;have it:∀x:Nat,((if b=x then failW (X.1.bl x) else X.1.bl b:Jj)).reads=(X.1.bl b).reads:=fun x=>by
    split
    ·rename_i c;rw[c];rfl
    ·rfl
   split
   ·rfl
   ·split
    ·rfl
    ·split
     ·rfl
     ·split
      ·rfl
      ·split
       ·exact it _
       ·exact it _
  ·exact ih
theorem YZ(K:BH)(t:CP)(D:List Nat):RdB 1 K (prK K t D).1:=fun N hN h=>by
 unfold prK
 show Rdn (N+1) { K with s:=(prF K.tl K.s K.r t D).1,r:=wrap64 (K.r+(prF K.tl K.s K.r t D).2.1),hR:=Di K.hR (t.p / 8:Nat) (prF K.tl K.s K.r t D).2.1 }
 have hw:=fun b=>Uy K.s t.p (wordOf D (body t.p t.o t.q t.c t.l)) b 4
 have h0:∀(s:BM) (r:Int),(∀b,(s.bl b).reads=(K.s.bl b).reads)->Rdn (N+1) { K with s:=s,r:=r,hR:=Di K.hR (t.p / 8:Nat) (0:Nat) }:=fun s r hs b hb=>by
  obtain⟨a1,a2,a3⟩:=h b hb
  show 0<=(s.bl b).reads/\(s.bl b).reads<=_/\Di K.hR (t.p / 8:Nat) (0:Nat) b=min (s.bl b).reads 65535
  rw[hs b]
  refine⟨a1,om,?_⟩
  unfold Di
  split
  ·
   rename_i c
   rw[AP]
   unfold upd
   split
   ·
    rename_i e;rw[<-e,a3];omega
   ·
    exact a3
  ·
   exact a3
 unfold prF
 generalize wrN K.s t.p (wordOf D (body t.p t.o t.q t.c t.l)) 4=X at *
 dsimp only
 split
 ·
  exact h0 _ _ hw
 ·
  by_cases hp:t.p<96
  ·
   cases hon:X.1.on
   ·
    rw[dC hp hon]
    rw[AJ (show (7:Nat)≠0 by decide)]
    exact h0 _ _ hw
   ·
    rw[RD hp hon]
    rw[AI (show ¬ (0:Nat)≠0 by decide)]
    refine h.one hN hp (fun b=>?_) rfl
    show ((WU X.1 t.p).bl b).reads=_
    rw[MG,hw b]
  ·
   have e:rdF K.tl X.1 K.r t.p=(X.1,K.r,Pg.zero,1):=by
    unfold rdF;have e:readV X.1 t.p=(X.1,[],1):=(by unfold readV;rw[AJ om]);rw[e];rfl
   rw[e,AJ (show (1:Nat)≠0 by decide)];exact h0 _ _ hw
theorem jG(K:BH)(t:CP)(D:List Nat):RdB 1 K (prM K t D).1:=by
 unfold prM;split
 ·exact(RdB.refl K).mono om
 ·exact YZ K t D
theorem Ya(K:BH)(b:Nat):RdB 0 K (erK K b).1:=fun N hN h=>by
 unfold erK
 have it:∀x,(eraseR K.s b).2≠0->((eraseR K.s b).1.bl x).reads=(K.s.bl x).reads:=fun x=>by
  unfold eraseR
  split
  ·
   exact fun _=>rfl
  ·
   split
   ·
    exact fun _=>rfl
   ·
    split
    ·
     exact fun _=>rfl
    ·
     split
     ·
      intro _
      show (if x=((b:Int)).toNat then failE (K.s.bl _) else K.s.bl x:Jj).reads=_
      split
      ·
       rename_i c;rw[c];rfl
      ·
       rfl
     ·
      exact fun e=>absurd rfl e
 dsimp only
 split
 ·
  rename_i c
  intro x hx
  obtain⟨a1,a2,a3⟩:=h x hx
  have hr:((eraseR K.s b).1.bl x).reads=if x=b then 0 else (K.s.bl x).reads:=by
   revert c;unfold eraseR;split
   ·intro e;cases e
   ·split
    ·intro e;cases e
    ·split
     ·intro e;cases e
     ·split
      ·intro e;cases e
      ·intro _;rw[AP];show (if x=b then _ else (if x=b then _ else K.s.bl x:Jj):Jj).reads=_;split
       ·rfl
       ·rfl
  show 0<=((eraseR K.s b).1.bl x).reads/\((eraseR K.s b).1.bl x).reads<=_/\upd K.hR b 0 x=min ((eraseR K.s b).1.bl x).reads 65535;rw[hr];unfold upd;split
  ·exact⟨dc,om,dc⟩
  ·exact⟨a1,om,a3⟩
 ·rename_i c;intro x hx;show 0<=((eraseR K.s b).1.bl x).reads/\((eraseR K.s b).1.bl x).reads<=_/\K.hR x=min ((eraseR K.s b).1.bl x).reads 65535;rw[it x c];exact h x hx
end
theorem Wf.cnt{K:BH}(h:Wf K){s:BM}(hs:s.Ok)(r:Int)(b n:Int):Wf { K with s:=s,r:=wrap64 r,hR:=Di K.hR b n }:=
 ⟨hs,⟨GH _,GI _⟩,h.frm,h.map,h.vs,h.vp,h.vc,h.fl,h.nx,h.fr,h.cu,h.qu,GR.cnt h.hea b n,h.tl⟩
theorem Yb{K:BH}(h:Wf K){p:Nat}(hp:p<96)(hon:K.s.on=true) :∃K',rdK K p=(K',K.tl (pgTo K.s p 4) p,0)/\YU K K'/\Wf K'/\K'={ K with s:=WU K.s p,r:=wrap64 (K.r+1),hR:=Di K.hR (p / 8:Nat) 1 }:=by
 refine⟨{ K with s:=WU K.s p,r:=wrap64 (K.r+1),hR:=Di K.hR (p / 8:Nat) 1 },?_,⟨rfl,rfl,rfl,rfl,rfl,rfl,rfl,rfl,rfl,rfl,rfl,rfl,⟨rfl,rfl,rfl,rfl,rfl,rfl⟩⟩,h.cnt (Qb h.chip _) _ _ _,rfl⟩;unfold rdK;rw[RD hp hon];rfl
theorem PX{K:BH}(h:Wf K){T:Fq}(hR:JY K.s T){t:CP}{D:List Nat}(hp:t.p<96)(hE:YR t.p t D)(hon:K.s.on=true)(hB:Erd K.s t.p) :∃s' r' R',(prK K t D).1={ K with s:=s',r:=r',hR:=R' }/\Wf { K with s:=s',r:=r',hR:=R' } /\(((prK K t D).2=0/\fO K.s s' T t D)\/((prK K t D).2=8/\jE K.s s' T t true)\/((prK K t D).2=7/\jE K.s s' T t false)):=by
 have hx:=PW h.tl h.chip hR hp hE hon hB K.r;unfold prK;generalize prF K.tl K.s K.r t D=P at *
 obtain⟨P1,P2,P3⟩:=P;dsimp only at hx ⊢;have it:P1.Ok:=by
  rcases hx with ⟨_,_,k⟩ | ⟨_,_,k⟩ | ⟨_,_,k⟩ <;> exact k.ok
 refine⟨P1,wrap64 (K.r+P2),Di K.hR (t.p / 8:Nat) P2,rfl,h.cnt it _ _ _,?_⟩;rcases hx with ⟨e,_,k⟩ | ⟨e,_,k⟩ | ⟨e,_,k⟩ <;> rw[e]
 ·exact AK ⟨rfl,k⟩
 ·exact AL (AK ⟨rfl,k⟩)
 ·exact AL (AL ⟨rfl,k⟩)
theorem Yc{K:BH}(h:Wf K){b:Nat}(hb:b<12)(it:K.s.on=true) :((erK K b).2=0/\∃s' R' N',(erK K b).1={ K with s:=s',hR:=R',hN:=N' }/\Wf { K with s:=s',hR:=R',hN:=N' }/\s'.on=true/\∀j,s'.ch j=if 32*b<=j/\j<32*b+32 then Gk else K.s.ch j) \/((erK K b).2=8/\∃s',(erK K b).1={ K with s:=s' }/\Wf { K with s:=s' }/\s'.on=true/\s'.ch=K.s.ch) \/((erK K b).2=7/\∃s',(erK K b).1={ K with s:=s' }/\Wf { K with s:=s' }/\s'.on=false/\s'.ch=K.s.ch):=by
 unfold erK;rcases Fr h.chip hb it with ⟨e,ho,hk,hc⟩ | ⟨e,ho,hk,hc⟩ | ⟨e,ho,hk,hc⟩
 ·refine AK ?_;dsimp only;rw[AJ e];refine⟨rfl,_,_,_,rfl,⟨hk,h.rr,h.frm,h.map,h.vs,h.vp,h.vc,h.fl,h.nx,h.fr,h.cu,h.qu,fun i hi=>?_,h.tl⟩,ho,hc⟩;obtain⟨h1,h2,h3⟩:=h.hea i hi;refine⟨?_,?_,h3⟩
  ·show 0<=upd K.hR b 0 i/\upd K.hR b 0 i<=65535;rcases BX K.hR b i 0 with ⟨_,e⟩ | ⟨_,e⟩ <;> rw[e]
   ·decide
   ·exact h1
  ·show 0<=upd K.hN b 0 i/\upd K.hN b 0 i<=65535;rcases BX K.hN b i 0 with ⟨_,e⟩ | ⟨_,e⟩ <;> rw[e]
   ·decide
   ·exact h2
 ·refine AL (AK ?_);dsimp only;rw[AI (by rw[e];decide),e];exact⟨rfl,_,rfl,h.chip' hk,ho,hc⟩
 ·refine AL (AL ?_);dsimp only;rw[AI (by rw[e];decide),e];exact⟨rfl,_,rfl,h.chip' hk,ho,hc⟩
theorem LG{K:BH}(h:Wf K)(hsp:K.sp=false)(hnx:K.nx<IE){T:Fq}(hR:JY K.s T)(hon:K.s.on=true){p o:Nat}(hp:p<96)(ho:o<25)(hf:o=24\/p % 8<6)(hB:Erd K.s p)(H:GS){D:List Nat}(hD:H { K with nx:=K.nx+1 } K.nx=D)(hl:D.length=174)(hb:Bys D) :∃s' r' R',Wf { K with s:=s',r:=r',hR:=R',nx:=K.nx+1 } /\((frK H K p o=(if o=24 then Nd { K with s:=s',r:=r',hR:=R',nx:=K.nx+1 } else { K with s:=s',r:=r',hR:=R',nx:=K.nx+1 },⟨p,o,K.nx,0,false⟩,0)/\fO K.s s' T ⟨p,o,K.nx,0,false⟩ D) \/(frK H K p o=({ K with s:=s',r:=r',hR:=R',nx:=K.nx+1 },Zt,8)/\jE K.s s' T ⟨p,o,K.nx,0,false⟩ true) \/(frK H K p o=({ K with s:=s',r:=r',hR:=R',nx:=K.nx+1 },Zt,7)/\jE K.s s' T ⟨p,o,K.nx,0,false⟩ false)):=by
 have e:sqK K={ K with nx:=K.nx+1 }:=by
  unfold sqK;have e1:decide (K.nx=IE)=K.sp:=by rw[hsp];exact AN om
  have e2:min (K.nx+1) IE=K.nx+1:=om
  rw[e1,e2]
 have w1:Wf { K with nx:=K.nx+1 }:=by rw[<-e];exact h.sq
 have hn:=h.nx;have hM:DY (p:Nat) (o:Nat) (K.nx:Nat) ((0:Nat):Int) false:=by
  unfold IE at hnx;refine⟨⟨om,om,om,om⟩,?_⟩;by_cases it:o=24
  ·exact AK ⟨om,rfl⟩
  ·have:=hf.resolve_left it;exact AL ⟨om,om⟩
 have hE:YR p ⟨p,o,K.nx,0,false⟩ D:=⟨rfl,hM,hl,hb⟩;obtain⟨s',r',R',h1,h2,h3⟩:=PX (K:={ K with nx:=K.nx+1 }) w1 hR (t:=⟨p,o,K.nx,0,false⟩) hp hE hon hB;refine⟨s',r',R',h2,?_⟩;have e0:frK H K p o=if (prK (sqK K) ⟨p,o,K.nx,0,false⟩ (H (sqK K) K.nx)).2≠0 then ((prK (sqK K) ⟨p,o,K.nx,0,false⟩ (H (sqK K) K.nx)).1,Zt,(prK (sqK K) ⟨p,o,K.nx,0,false⟩ (H (sqK K) K.nx)).2) else (if o=24 then Nd (prK (sqK K) ⟨p,o,K.nx,0,false⟩ (H (sqK K) K.nx)).1 else (prK (sqK K) ⟨p,o,K.nx,0,false⟩ (H (sqK K) K.nx)).1,⟨p,o,K.nx,0,false⟩,0):=by
  unfold frK;rw[AI (by rw[hsp];decide)]
 rw[e0,e,hD];generalize prK { K with nx:=K.nx+1 } ⟨p,o,K.nx,0,false⟩ D=P at *
 obtain⟨P1,P2⟩:=P;dsimp only at h1 h3 ⊢;subst h1;rcases h3 with ⟨rfl,k⟩ | ⟨rfl,k⟩ | ⟨rfl,k⟩
 ·left;exact⟨by rw[AI dc],k⟩
 ·right;left;exact⟨by rw[AJ dc],k⟩
 ·right;right;exact⟨by rw[AJ dc],k⟩
theorem CM{L:Nat->Int}{q:Int}(h:∀o,o<25->L o≠q):AB.own L q = -1:=AB.Fk h
section
variable {K:BH}{G:Bk}{X:Nat->Prop}
structure JZ (K:BH) (p:Nat):Prop where
 lt:p<96
 F:K.F (p / 8)=1\/K.F (p / 8)=2
 fr:K.fr.o=true->K.fr.k=p / 8->p % 8<K.fr.i
 er:Erd K.s p
theorem JZ.free{p:Nat}(h:JZ K p)(hs:Sit K G X):∀o,o<25->K.L o≠(p:Int):=fun o ho e=>by
 have hL:K.L o≠-1:=by rw[e];omega
 obtain⟨l,D,hl⟩:=hs.liv o ho hL
 have h1:=hl.tab
 rw[e,AP,h.er.tab hs.rep] at h1
 cases h1
theorem Sit.pgn(h:Sit K G X){t:CP}{s':BM}{on:Bool}(k:jE K.s s' G.T t on)(hS:JZ K t.p){r':Int}{R':Nat->Int}{nx':Nat}(hn:K.nx<=nx')(wf:Wf { K with s:=s',r:=r',hR:=R',nx:=nx' }) :Sit { K with s:=s',r:=r',hR:=R',nx:=nx' } G X where
 wf:=wf
 rep:=k.rep
 sts:=h.sts
 frs:=fun p hp e=>k.oth.erd (by rintro rfl;rcases hS.F with f | f <;> (rw[f] at e;exact absurd e dc)) (h.frs p hp e)
 opn:=h.opn
 frn:=fun e i hi h8=>k.oth.erd (fun e2=>by
  have e3:8*K.fr.k+i=t.p:=e2
  have Go:i<8:=h8
  have h1:K.fr.k=t.p / 8:=om
  have h2:=hS.fr e h1
  have h3:K.fr.i<=i:=hi
  omega) (h.frn e i hi h8)
 liv:=fun o ho hL=>by
  obtain⟨l,D,hl⟩:=h.liv o ho hL
  have no:=h.wf.lt ho hL
  have it:(K.L o).toNat≠t.p:=fun e=>hS.free h o ho om
  exact⟨l,D,⟨hl.tab,hl.lost,hl.data,k.oth.gh it hl.gh,fun z=>k.oth.gd it (hl.gd z)⟩⟩
 nul:=h.nul
 blk:=h.blk
 flo:=h.flo
 old:=h.old
 seq:=fun p u D hT=>Aj (h.seq p u D hT) hn
 fls:=fun o ho=>Int.lt_of_lt_of_le (h.fls o ho) (by exact_mod_cast hn)
 sp:=h.sp
 dds:=h.dds
 cb:=h.cb
 cf:=h.cf
 cn:=h.cn
 nw:=h.nw
 z24:=h.z24
 lb:=h.lb
theorem Ju(T:Fq)(p:Nat)(t:CP)(D:List Nat):Dj T p t D p=some (t,D):=by unfold Dj;rw[AJ rfl]
theorem GO(T:Fq){p x:Nat}(t:CP)(D:List Nat)(h:x≠p):Dj T p t D x=T x:=by unfold Dj;rw[AI h]
theorem Dz{T:Fq}{p x:Nat}{t u:CP}{D C:List Nat}(h:Dj T p t D x=some (u,C)):(x=p/\u=t/\C=D)\/(x≠p/\T x=some (u,C)):=by
 unfold Dj at h;split at h
 ·rename_i e;injection h with h;injection h with h1 h2;exact AK ⟨e,h1.symm,h2.symm⟩
 ·rename_i e;exact AL ⟨e,h⟩
def ET {α:Type} (f:Nat->α) (n:Nat) (v:α):Nat->α:=fun j=>if j=n then v else f j
theorem Sit.put(h:Sit K G X){o p:Nat}{D:List Nat}(ho:o<24){s':BM}(k:fO K.s s' G.T ⟨p,o,K.nx,0,false⟩ D)(hS:JZ K p)(h6:p % 8<6)(h24:K.L 24≠-1){r':Int}{R':Nat->Int}(wf:Wf { K with s:=s',r:=r',hR:=R',nx:=K.nx+1 }) :Sit { K with s:=s',r:=r',hR:=R',nx:=K.nx+1,vs:=upd K.vs o K.nx,vc:=upd K.vc o 0,L:=upd K.L o p } { G with T:=Dj G.T p ⟨p,o,K.nx,0,false⟩ D,a:=ET G.a o D,z:=fun x=>x≠o/\G.z x } X:=by
 have La:=hS.free h;have wr:=hS.er.tab h.rep;have hk:=h.wf.nx;have hL:∀x,x≠o->upd K.L o p x=K.L x:=fun x hx=>by unfold upd;rw[AI hx]
 have hv:∀x,x≠o->upd K.vs o K.nx x=K.vs x:=fun x hx=>by unfold upd;rw[AI hx]
 have hc:∀x,x≠o->upd K.vc o 0 x=K.vc x:=fun x hx=>by unfold upd;rw[AI hx]
 have no:upd K.L o p o=(p:Int):=by unfold upd;rw[AJ rfl]
 have ar:upd K.vs o K.nx o=K.nx:=by unfold upd;rw[AJ rfl]
 have hg:upd K.vc o 0 o=0:=by unfold upd;rw[AJ rfl]
 have ha:∀x,x<25->K.L x≠-1->(K.L x).toNat≠p:=fun x hx hL e=>La x hx (by have:=h.wf.lt hx hL;omega);exact {
  wf:=by
   have w1:=wf.ver (i:=o) (q:=K.nx) (c:=0) ⟨hk.1,hk.2⟩ dc
   refine w1.map' (h.wf.map.put o ⟨om,by have:=hS.lt;omega⟩ (fun _=>om) (CM La)) fun i hi hLi=>?_
   show 1<=upd K.vs o K.nx i
   by_cases e:i=o
   ·
    rw[e,ar];exact hk.1
   ·
    rw[hv i e]
    rw[hL i e] at hLi
    exact h.wf.vp i hi hLi
  rep:=k.rep
  sts:=h.sts
  frs:=fun x hx e=>k.oth.erd (by rintro rfl;rcases hS.F with f | f <;> (rw[f] at e;exact absurd e dc)) (h.frs x hx e)
  opn:=h.opn
  frn:=fun e i hi h8=>k.oth.erd (fun e2=>by
   have e3:8*K.fr.k+i=p:=e2
   have h0:i<8:=h8
   have h1:K.fr.k=p / 8:=om
   have h2:=hS.fr e h1
   have h3:K.fr.i<=i:=hi
   omega) (h.frn e i hi h8)
  liv:=fun x hx hLx=>by
   by_cases e:x=o
   ·
    subst e
    refine⟨false,D,⟨?_,fun e=>(by cases e),fun _=>?_,?_,fun _=>?_⟩⟩
    ·
     show Dj G.T p _ D (upd K.L x p x).toNat=some (⟨(upd K.L x p x).toNat,x,upd K.vs x K.nx x,upd K.vc x 0 x,false⟩,D)
     rw[no,ar,hg,AP,Ju]
    ·
     show D=if x=24 then AA.wrL G.c else ET G.a x D x
     rw[AI om]
     unfold ET
     rw[AJ rfl]
    ·
     show Gh s' (upd K.L x p x).toNat
     rw[no,AP]
     exact k.gd.gh
    ·
     show Gd s' (upd K.L x p x).toNat
     rw[no,AP]
     exact k.gd
   ·
    have it:K.L x≠-1:=by rw[<-hL x e];exact hLx
    obtain⟨l,C,hl⟩:=h.liv x hx it
    refine⟨l,C,⟨?_,fun z=>⟨e,hl.lost z⟩,fun z=>?_,?_,fun z=>?_⟩⟩
    ·
     show Dj G.T p _ D (upd K.L o p x).toNat=some (⟨(upd K.L o p x).toNat,x,upd K.vs o K.nx x,upd K.vc o 0 x,l⟩,C)
     rw[hL x e,hv x e,hc x e,GO _ _ _ (ha x hx it)]
     exact hl.tab
    ·
     show C=if x=24 then AA.wrL G.c else ET G.a o D x
     unfold ET
     rw[AI e]
     exact hl.data z
    ·
     show Gh s' (upd K.L o p x).toNat
     rw[hL x e]
     exact k.oth.gh (ha x hx it) hl.gh
    ·
     show Gd s' (upd K.L o p x).toNat
     rw[hL x e]
     exact k.oth.gd (ha x hx it) (hl.gd fun z2=>z ⟨e,z2⟩)
  nul:=fun x hx e=>by
   show ET G.a o D x=_
   have w':x≠o:=by
    rintro rfl
    have e2:upd K.L x p x = -1:=e
    rw[no] at e2
    omega
   unfold ET
   rw[AI w']
   have e2:upd K.L o p x = -1:=e
   rw[hL x w'] at e2
   exact h.nul x hx e2
  blk:=fun x hx e=>by
   show K.F ((upd K.L o p x).toNat / 8)≠0/\(K.F ((upd K.L o p x).toNat / 8)=3->K.dd=true)
   by_cases ex:x=o
   ·
    subst ex
    rw[no,AP]
    rcases hS.F with f | f <;> rw[f] <;> exact⟨dc,fun e=>absurd e dc⟩
   ·
    rw[hL x ex]
    have e2:upd K.L o p x≠-1:=e
    rw[hL x ex] at e2
    exact h.blk x hx e2
  flo:=fun x hx e=>by
   show K.fl x<((upd K.vs o K.nx x:Nat):Int)
   by_cases ex:x=o
   ·
    subst ex
    rw[ar]
    exact h.fls x hx
   ·
    rw[hv x ex]
    have e2:upd K.L o p x≠-1:=e
    rw[hL x ex] at e2
    exact h.flo x hx e2
  old:=fun x t C hT hcd=>by
   show upd K.L o p t.o≠-1/\(t.q<upd K.vs o K.nx t.o\/t.q=upd K.vs o K.nx t.o/\((x:Int)=upd K.L o p t.o\/t.c=(upd K.vc o 0 t.o+1) % 256/\G.c.B (x / 8)=false/\(K.F (x / 8)=3\/X (x / 8))))
   rcases Dz hT with ⟨rfl,rfl,rfl⟩ | ⟨hx,kd⟩
   ·
    rw[no,ar]
    exact⟨om,AL ⟨rfl,AK rfl⟩⟩
   ·
    by_cases e:t.o=o
    ·
     rw[e,no,ar]
     exact⟨om,AK (h.seq x t C kd)⟩
    ·
     rw[hL _ e,hv _ e,hc _ e]
     exact h.old x t C kd hcd
  seq:=fun x t C hT=>by
   show t.q<K.nx+1
   rcases Dz hT with ⟨rfl,rfl,rfl⟩ | ⟨hx,kd⟩
   ·
    exact Nat.lt_succ_self _
   ·
    exact Nat.lt_succ_of_lt (h.seq x t C kd)
  fls:=fun x hx=>by
   show K.fl x<((K.nx+1:Nat):Int)
   have:=h.fls x hx
   omega
  sp:=h.sp
  dds:=h.dds
  cb:=h.cb
  cf:=h.cf
  cn:=by
   show upd K.L o p 24≠-1->G.c.N=(upd K.vs o K.nx 24:Nat)/\_
   rw[hL 24 om,hv 24 om]
   exact h.cn
  nw:=fun e=>by
   have e2:upd K.L o p 24 = -1:=e
   rw[hL 24 om] at e2
   exact absurd e2 h24
  z24:=fun e=>h.z24 e.2
  lb:=fun x hx hLx=>by
   show G.c.B ((upd K.L o p x).toNat / 8)=false
   by_cases e:x=o
   ·
    rw[e,no,AP]
    cases e4:G.c.B (p / 8)
    ·
     rfl
    ·
     have:=h.cb (p / 8) (by have:=hS.lt;omega) e4
     rcases hS.F with f | f <;> (rw[f] at this;exact absurd this dc)
   ·
    rw[hL x e]
    exact h.lb x hx (by have h9:upd K.L o p x≠-1:=hLx;rw[hL x e] at h9;exact h9) }
end
section
variable {K:BH}{G:Bk}{X:Nat->Prop}
theorem Sit.note(h:Sit K G X){p:Nat}{c:AA.Bn}{s':BM}(k:fO K.s s' G.T ⟨p,24,K.nx,0,false⟩ (AA.wrL c))(hS:JZ K p)(hdd:K.dd=false){r':Int}{R' N':Nat->Int}{fl' L':Nat->Int}{a':Nat->List Nat}(wf:Wf { K with s:=s',r:=r',hR:=R',hN:=N',ca:=0,nx:=K.nx+1,vs:=upd K.vs 24 K.nx,vc:=upd K.vc 24 0,L:=L',fl:=fl' })(hL24:L' 24=p)(hl:∀i,i<24->(L' i=K.L i/\fl' i=K.fl i/\a' i=G.a i)\/(L' i = -1/\K.L i≠-1/\fl' i=K.vs i/\a' i=List.replicate 174 0))(cB:∀b,b<12->(c.B b=true<->K.F b=3))(cF:∀i,i<24->c.F i=fl' i)(cN:c.N=K.nx)(cC:c.C=K.cu)(cT:AA.Zp c) :Sit { K with s:=s',r:=r',hR:=R',hN:=N',ca:=0,nx:=K.nx+1,vs:=upd K.vs 24 K.nx,vc:=upd K.vc 24 0,L:=L',fl:=fl' } { G with T:=Dj G.T p ⟨p,24,K.nx,0,false⟩ (AA.wrL c),c:=c,a:=a' } X:=by
 have hk:=hS.free h;have G2:=hS.er.tab h.rep;have hv:∀x,x≠24->upd K.vs 24 K.nx x=K.vs x:=fun x hx=>by unfold upd;rw[AI hx]
 have hc:∀x,x≠24->upd K.vc 24 0 x=K.vc x:=fun x hx=>by unfold upd;rw[AI hx]
 have ha:upd K.vs 24 K.nx 24=K.nx:=by unfold upd;rw[AJ rfl]
 have p2:upd K.vc 24 0 24=0:=by unfold upd;rw[AJ rfl]
 have w':∀x,x<25->K.L x≠-1->(K.L x).toNat≠p:=fun x hx hL e=>hk x hx (by have:=h.wf.lt hx hL;omega);have ar:∀x,x<24->L' x≠-1->L' x=K.L x/\fl' x=K.fl x/\a' x=G.a x:=fun x hx e=>(hl x hx).elim id fun e2=>absurd e2.1 e;exact {
  wf:=wf
  rep:=k.rep
  sts:=h.sts
  frs:=fun x hx e=>k.oth.erd (by rintro rfl;rcases hS.F with f | f <;> (rw[f] at e;exact absurd e dc)) (h.frs x hx e)
  opn:=h.opn
  frn:=fun e i hi h8=>k.oth.erd (fun e2=>by
   have e3:8*K.fr.k+i=p:=e2
   have w2:i<8:=h8
   have h1:K.fr.k=p / 8:=om
   have h2:=hS.fr e h1
   have h3:K.fr.i<=i:=hi
   omega) (h.frn e i hi h8)
  liv:=fun x hx hLx=>by
   by_cases e:x=24
   ·
    subst e
    refine⟨false,AA.wrL c,⟨?_,fun e=>(by cases e),fun _=>rfl,?_,fun _=>?_⟩⟩
    ·
     show Dj G.T p _ _ (L' 24).toNat=some (⟨(L' 24).toNat,24,upd K.vs 24 K.nx 24,upd K.vc 24 0 24,false⟩,_)
     rw[hL24,ha,p2,AP,Ju]
    ·
     show Gh s' (L' 24).toNat
     rw[hL24,AP]
     exact k.gd.gh
    ·
     show Gd s' (L' 24).toNat
     rw[hL24,AP]
     exact k.gd
   ·
    obtain⟨e1,e2,e3⟩:=ar x om hLx
    have it:K.L x≠-1:=by rw[<-e1];exact hLx
    obtain⟨l,C,hl⟩:=h.liv x hx it
    refine⟨l,C,⟨?_,hl.lost,fun z=>?_,?_,fun z=>?_⟩⟩
    ·
     show Dj G.T p _ _ (L' x).toNat=some (⟨(L' x).toNat,x,upd K.vs 24 K.nx x,upd K.vc 24 0 x,l⟩,C)
     rw[e1,hv x e,hc x e,GO _ _ _ (w' x hx it)]
     exact hl.tab
    ·
     have:=hl.data z
     rw[AI e] at this
     show C=if x=24 then AA.wrL c else a' x
     rw[AI e,e3]
     exact this
    ·
     show Gh s' (L' x).toNat
     rw[e1]
     exact k.oth.gh (w' x hx it) hl.gh
    ·
     show Gd s' (L' x).toNat
     rw[e1]
     exact k.oth.gd (w' x hx it) (hl.gd z)
  nul:=fun x hx e=>by
   rcases hl x hx with ⟨e1,_,e3⟩ | ⟨_,_,_,e3⟩
   ·
    show a' x=_
    rw[e3]
    exact h.nul x hx (e1.symm.trans e)
   ·
    exact e3
  blk:=fun x hx e=>by
   show K.F ((L' x).toNat / 8)≠0/\(K.F ((L' x).toNat / 8)=3->K.dd=true)
   by_cases ex:x=24
   ·
    subst ex
    rw[hL24,AP]
    rcases hS.F with f | f <;> rw[f] <;> exact⟨dc,fun e=>absurd e dc⟩
   ·
    obtain⟨e1,_⟩:=ar x om e
    rw[e1]
    exact h.blk x hx (by rw[<-e1];exact e)
  flo:=fun x hx e=>by
   show fl' x<((upd K.vs 24 K.nx x:Nat):Int)
   obtain⟨e1,e2,_⟩:=ar x hx e
   rw[hv x om,e2]
   exact h.flo x hx (by rw[<-e1];exact e)
  old:=fun x t C hT hcd=>by
   show L' t.o≠-1/\(t.q<upd K.vs 24 K.nx t.o\/t.q=upd K.vs 24 K.nx t.o/\((x:Int)=L' t.o\/t.c=(upd K.vc 24 0 t.o+1) % 256/\c.B (x / 8)=false/\(K.F (x / 8)=3\/X (x / 8))))
   rcases Dz hT with ⟨rfl,rfl,rfl⟩ | ⟨hx,La⟩
   ·
    show L' 24≠-1/\_
    rw[hL24]
    exact⟨om,AL ⟨ha.symm,AK rfl⟩⟩
   ·
    have h6:=h.rep.ent x t C La
    by_cases e:t.o=24
    ·
     rw[e,hL24,ha]
     exact⟨om,AK (h.seq x t C La)⟩
    ·
     have kd:t.o<24:=by
      have:=h6.2.may.1.2.1
      omega
     obtain⟨w1,G1⟩:=hcd.resolve_left e
     have no:c.B (x / 8)=false:=w1
     have hg:fl' t.o<t.q:=G1
     have B':K.F (x / 8)≠3:=fun e3=>by
      rw[(cB (x / 8) om).2 e3] at no
      cases no
     have h0:G.c.B (x / 8)=false:=by
      cases e4:G.c.B (x / 8)
      ·
       rfl
      ·
       exact absurd (h.cb (x / 8) om e4) B'
     rcases hl t.o kd with ⟨e1,e2,_⟩ | ⟨e1,e2,e3,_⟩
     ·
      have:=h.old x t C La (AL ⟨h0,by rw[<-e2];exact hg⟩)
      rw[hv _ e,hc _ e,e1]
      exact⟨this.1,this.2.imp id fun ⟨u,v⟩=>⟨u,v.imp id fun ⟨v1,_,v3⟩=>⟨v1,no,v3⟩⟩⟩
     ·
      have wr:=h.flo t.o kd e2
      have:=h.old x t C La (AL ⟨h0,om⟩)
      rcases this.2 with h5 | h5 <;> omega
  seq:=fun x t C hT=>by
   show t.q<K.nx+1
   rcases Dz hT with ⟨rfl,rfl,rfl⟩ | ⟨hx,La⟩
   ·
    exact Nat.lt_succ_self _
   ·
    exact Nat.lt_succ_of_lt (h.seq x t C La)
  fls:=fun x hx=>by
   show fl' x<((K.nx+1:Nat):Int)
   rcases hl x hx with ⟨_,e2,_⟩ | ⟨_,e1,e2,_⟩
   ·
    rw[e2]
    have:=h.fls x hx
    omega
   ·
    rw[e2]
    obtain⟨l,D,ar⟩:=h.liv x om e1
    have:=h.seq _ _ _ ar.tab
    have h5:K.vs x<K.nx:=this
    omega
  sp:=h.sp
  dds:=h.dds
  cb:=fun b hb e=>(cB b hb).1 e
  cf:=cF
  cn:=fun _=>by
   show c.N=((upd K.vs 24 K.nx 24:Nat):Int)/\(c.C+8*((0:Nat):Int)) % 96=(K.cu:Int)/\AA.Zp c
   rw[ha]
   have:=h.wf.cu
   exact⟨cN,by rw[cC];omega,cT⟩
  nw:=fun e=>by
   have e2:L' 24 = -1:=e
   rw[hL24] at e2
   omega
  z24:=h.z24
  lb:=fun x hx hLx=>by
   show c.B ((L' x).toNat / 8)=false
   by_cases e:x=24
   ·
    rw[e,hL24,AP]
    cases e4:c.B (p / 8)
    ·
     rfl
    ·
     have:=(cB (p / 8) (by have:=hS.lt;omega)).1 e4
     rcases hS.F with f | f <;> (rw[f] at this;exact absurd this dc)
   ·
    obtain⟨e1,_,_⟩:=ar x om hLx
    rw[e1]
    have it:K.L x≠-1:=by rw[<-e1];exact hLx
    cases e4:c.B ((K.L x).toNat / 8)
    ·
     rfl
    ·
     have h7:=(h.wf.lt hx it).1
     have:=(h.blk x hx it).2 ((cB _ om).1 e4)
     rw[hdd] at this
     cases this }
end
theorem dF{L:Nat->Int}(h:AB.GK L)(b:Nat):∀k,(∀o ∈ (AB.ofK L b k).map Int.toNat,o<25/\(8*b:Nat)<=L o/\L o<(8*b+k:Nat))/\((AB.ofK L b k).map Int.toNat).Pairwise (fun x y=>L x<L y)/\(∀o,o<25->(8*b:Nat)<=L o->L o<(8*b+k:Nat)->o ∈ (AB.ofK L b k).map Int.toNat):=by
 intro k
 induction k with
 | zero=>exact⟨fun o ho=>(by cases ho),List.Pairwise.nil,fun o _ h1 h2=>om⟩
 | succ k ih=>
  obtain⟨h1,h2,h3⟩:=ih;unfold AB.ofK;rw[map_append];rcases AB.Dr L ((8*b+k:Nat):Int) with ⟨i,hi,e,hL,_⟩ | ⟨e,hn⟩
  ·rw[AI (by rw[e];omega),e];have em:List.map Int.toNat [((i:Nat):Int)]=[i]:=(by simp);rw[em];refine⟨fun o ho=>?_,?_,fun o ho ha hb=>?_⟩
   ·rcases mem_append.1 ho with ho | ho
    ·obtain⟨a1,a2,a3⟩:=h1 o ho;exact⟨a1,a2,om⟩
    ·have:o=i:=by simpa using ho
     subst this;exact⟨hi,om,om⟩
   ·rw[pairwise_append];refine⟨h2,pairwise_singleton _ _,fun x hx y hy=>?_⟩;have:y=i:=by simpa using hy
    subst this;have:=(h1 x hx).2.2;omega
   ·by_cases e2:L o<(8*b+k:Nat)
    ·exact mem_append_left _ (h3 o ho ha e2)
    ·have:o=i:=h.inj o i ho hi om om;exact mem_append_right _ (by simp[this])
  ·rw[AJ e];simp only[map_nil,append_nil];refine⟨fun o ho=>?_,h2,fun o ho ha hb=>?_⟩
   ·obtain⟨a1,a2,a3⟩:=h1 o ho;exact⟨a1,a2,om⟩
   ·have:=hn o ho;exact h3 o ho ha om
theorem NN{L:Nat->Int}(h:AB.GK L)(b:Nat):(∀o ∈ (AB.ofL L b).map Int.toNat,o<25/\L o≠-1/\(L o).toNat / 8=b)/\((AB.ofL L b).map Int.toNat).Pairwise (fun x y=>L x<L y)/\(∀o,o<25->L o≠-1->(L o).toNat / 8=b->o ∈ (AB.ofL L b).map Int.toNat):=by
 obtain⟨h1,h2,h3⟩:=dF h b 8;refine⟨fun o ho=>?_,h2,fun o ho hL e=>?_⟩
 ·obtain⟨a1,a2,a3⟩:=h1 o ho;exact⟨a1,om,om⟩
 ·have:=(h.rng o ho).resolve_left hL;exact h3 o ho om om
structure Pz (K K':BH):Prop where
 L:K'.L=K.L
 vs:K'.vs=K.vs
 vc:K'.vc=K.vc
 fl:K'.fl=K.fl
 nx:K'.nx=K.nx
 fr:K'.fr=K.fr
 dd:K'.dd=K.dd
 cu:K'.cu=K.cu
 ca:K'.ca=K.ca
 b3:∀b,b<12->(K.F b=3<->K'.F b=3)
 bd:bad3 K'.F=bad3 K.F
 fx:VE K K'
 nf:∀b,b<12->(K.F b≠0->K'.F b≠0)/\(K.F b=2->K'.F b=2)
theorem Pz.refl(K:BH):Pz K K:=⟨rfl,rfl,rfl,rfl,rfl,rfl,rfl,rfl,rfl,fun _ _=>Iff.rfl,rfl,VE.refl K,fun _ _=>⟨id,id⟩⟩
theorem Pz.trans{K K' K'':BH}(h:Pz K K')(k:Pz K' K''):Pz K K'':=⟨k.L.trans h.L,k.vs.trans h.vs,k.vc.trans h.vc,k.fl.trans h.fl,k.nx.trans h.nx,k.fr.trans h.fr,k.dd.trans h.dd,k.cu.trans h.cu,k.ca.trans h.ca,fun b hb=>(h.b3 b hb).trans (k.b3 b hb),k.bd.trans h.bd,h.fx.trans k.fx,fun b hb=>⟨fun e=>(k.nf b hb).1 ((h.nf b hb).1 e),fun e=>(k.nf b hb).2 ((h.nf b hb).2 e)⟩⟩
theorem YU.kee{K K':BH}(a:YU K K'):Pz K K':=⟨a.L,a.vs,a.vc,a.fl,a.nx,a.fr,a.dd,a.cu,a.ca,fun b _=>by rw[a.F],by rw[a.F],a.fx,fun b _=>by rw[a.F];exact⟨id,id⟩⟩
def Xs (S:Bm):Nat->Prop:=fun b=>S.tt.o=true/\b=S.tt.k
structure LU (K:BH) (G:Bk) (S:Bm):Prop where
 fm:S.fm<12
 no:S.tt.o=false->S.ld=[]/\S.tt.i=0
 k12:S.tt.o=true->S.tt.k<12/\S.tt.k≠S.fm/\K.F S.tt.k=2/\S.tt.i<=8
 none:S.tt.o=true->∀o,o<25->K.L o≠-1->(K.L o).toNat / 8≠S.tt.k
 er:S.tt.o=true->∀i,S.tt.i<=i->i<8->Erd K.s (8*S.tt.k+i)
 all:S.tt.o=true->∀p t D,p / 8=S.tt.k->G.T p=some (t,D)->t ∈ S.ld
 ld:∀t ∈ S.ld,t.o<25/\K.L t.o≠-1/\(K.L t.o).toNat / 8=S.fm/\t.q=K.vs t.o/\t.c=(K.vc t.o+1) % 256/\t.p / 8=S.tt.k/\t.p<96/\(t.o=24\/t.p % 8<6)
 dt:∀t ∈ S.ld,∃D,G.T t.p=some (t,D)/\Gd K.s t.p/\(t.l=true->G.z t.o)/\(t.l=false->D=if t.o=24 then AA.wrL G.c else G.a t.o)
 ndo:(S.ld.map (·.o)).Nodup
 ndp:(S.ld.map (·.p)).Nodup
theorem LU.alk{K K':BH}{G:Bk}{S:Bm}(h:LU K G S)(a:YU K K'):LU K' G S:=
 ⟨h.fm,h.no,by rw[a.F];exact h.k12,by rw[a.L];exact h.none,fun e i hi h8=>(h.er e i hi h8).ch a.ch,h.all,by rw[a.L,a.vs,a.vc];exact h.ld,fun t ht=>by
  obtain⟨D,h1,h2,h3⟩:=h.dt t ht
  exact⟨D,h1,h2.ch a.ch,h3⟩,h.ndo,h.ndp⟩
section
variable {K:BH}{G:Bk}{X:Nat->Prop}
theorem Sit.copy(h:Sit K G X){t:CP}{D:List Nat}{s':BM}(k:fO K.s s' G.T t D)(hS:JZ K t.p)(ho:t.o<25)(hL:K.L t.o≠-1)(hq:t.q=K.vs t.o)(hc:t.c=(K.vc t.o+1) % 256)(hX:X (t.p / 8)){r':Int}{R':Nat->Int}(wf:Wf { K with s:=s',r:=r',hR:=R' }) :Sit { K with s:=s',r:=r',hR:=R' } { G with T:=Dj G.T t.p t D } X:=by
 have no:∀x,x<25->K.L x≠-1->(K.L x).toNat≠t.p:=fun x hx hL e=>hS.free h x hx (by have:=h.wf.lt hx hL;omega);exact {
  wf:=wf
  rep:=k.rep
  sts:=h.sts
  frs:=fun p hp e=>k.oth.erd (by rintro rfl;rcases hS.F with f | f <;> (rw[f] at e;exact absurd e dc)) (h.frs p hp e)
  opn:=h.opn
  frn:=fun e i hi h8=>k.oth.erd (fun e2=>by
   have e3:8*K.fr.k+i=t.p:=e2
   have Go:i<8:=h8
   have h1:K.fr.k=t.p / 8:=om
   have h2:=hS.fr e h1
   have h3:K.fr.i<=i:=hi
   omega) (h.frn e i hi h8)
  liv:=fun o ho hL=>by
   obtain⟨l,C,hl⟩:=h.liv o ho hL
   refine⟨l,C,⟨?_,hl.lost,hl.data,k.oth.gh (no o ho hL) hl.gh,fun z=>k.oth.gd (no o ho hL) (hl.gd z)⟩⟩
   show Dj G.T t.p t D (K.L o).toNat=_
   rw[GO _ _ _ (no o ho hL)]
   exact hl.tab
  nul:=h.nul
  blk:=h.blk
  flo:=h.flo
  old:=fun x u C hT hcd=>by
   rcases Dz hT with ⟨rfl,rfl,rfl⟩ | ⟨hx,it⟩
   ·
    refine⟨hL,AL ⟨hq,AL ⟨hc,?_,AL hX⟩⟩⟩
    cases e4:G.c.B (u.p / 8)
    ·
     rfl
    ·
     have:=h.cb (u.p / 8) (by have:=hS.lt;omega) e4
     rcases hS.F with f | f <;> (rw[f] at this;exact absurd this dc)
   ·
    exact h.old x u C it hcd
  seq:=fun x u C hT=>by
   rcases Dz hT with ⟨rfl,rfl,rfl⟩ | ⟨hx,it⟩
   ·
    obtain⟨l,E,hl⟩:=h.liv u.o ho hL
    have:=h.seq _ _ _ hl.tab
    show u.q<K.nx
    rw[hq]
    exact this
   ·
    exact h.seq x u C it
  fls:=h.fls
  sp:=h.sp
  dds:=h.dds
  cb:=h.cb
  cf:=h.cf
  cn:=h.cn
  nw:=fun e=>by
   obtain⟨l,E,hl⟩:=h.liv t.o ho hL
   have:=h.nw e (K.L t.o).toNat
   rw[hl.tab] at this
   cases this
  z24:=h.z24
  lb:=h.lb }
theorem Yd(h:Sit K G X)(hon:K.s.on=true){o:Nat}(ho:o<25)(hL:K.L o≠-1) :∃K' D l,coK K o=(K',D,l,0)/\YU K K'/\Wf K'/\K'.s.on=true/\D.length=174/\Bys D/\(l=true->G.z o)/\(l=false->D=if o=24 then AA.wrL G.c else G.a o):=by
 obtain⟨ar,hx⟩:=h.wf.lt ho hL;obtain⟨l,D,hl⟩:=h.liv o ho hL;obtain⟨K',e,a,wf,Go⟩:=Yb h.wf ar hon;have it:K'.s.on=true:=by rw[Go];exact hon
 obtain⟨t1,t2,t3,t4⟩:=NL h.wf.tl h.wf.chip h.rep hl.tab hl.gh;have hE:=(h.rep.ent _ _ _ hl.tab).2;have no:AB.atC K.L o=0:=by
  unfold AB.atC;rw[AI om,AP,AI hL]
 unfold coK;rw[AI (by rw[no];decide),e];dsimp only;rw[AI dc];cases hs:(K.tl (pgTo K.s (K.L o).toNat 4) (K.L o).toNat).sound
 ·rw[AI dc];have ha:¬ Gd K.s (K.L o).toNat:=fun g=>by rw[t1.2 g] at hs;cases hs
  have hz:G.z o:=Classical.byContradiction fun z=>ha (hl.gd z);have hv:o≠24:=by rintro rfl;exact h.z24 hz
  rw[AI hv];exact⟨K',_,true,rfl,a,wf,it,by simp,fun n hn=>by rw[(mem_replicate.1 hn).2];decide,fun _=>hz,fun e=>by cases e⟩
 ·rw[AJ rfl];obtain⟨kd,La⟩:=t4 hs;have hk:=(t3 kd).2.2.2.2;rw[La,hk];exact⟨K',D,l,rfl,a,wf,it,hE.len,hE.bys,hl.lost,hl.data⟩
theorem Sit.tkc(h:Sit K G X)(hX:∀b,b<12->¬ X b)(hf:1<=fre K.F) :tkC K.F=0/\tkM K.F<12/\K.F (tkM K.F)=0/\∃F',AD.setF (AD.tkF K.F 0 (tkM K.F)) (tkM K.F) 2=F'/\Sit { K with F:=F' } G (fun b=>b=tkM K.F)/\F' (tkM K.F)=2/\(∀b,b<12->b≠tkM K.F->F' b=K.F b)/\fre F'+1=fre K.F/\bad3 F'=bad3 K.F:=by
 obtain⟨h1,h2,h3⟩:=Iw h.wf.frm hf;refine⟨h1,h2,h3,_,rfl,?_⟩;have no:∀b,b<12->AD.tkF K.F 0 (tkM K.F) b=upd K.F (tkM K.F) 1 b:=fun b hb=>Fu _ hb;have hm:AD.tkF K.F 0 (tkM K.F) (tkM K.F)≠3:=by rw[no _ h2,Bb];decide
 rw[Dk h2 dc (AK hm)];have hF:∀b,b<12->b≠tkM K.F->upd (AD.tkF K.F 0 (tkM K.F)) (tkM K.F) 2 b=K.F b:=fun b hb hne=>by rw[BT _ _ hne,no b hb,BT _ _ hne]
 have it:upd (AD.tkF K.F 0 (tkM K.F)) (tkM K.F) 2 (tkM K.F)=2:=Bb _ _ _;have c0:=Fs K.F h2 1;have c3:=Ft K.F h2 1;have d0:=Fs (AD.tkF K.F 0 (tkM K.F)) h2 2;have d3:=Ft (AD.tkF K.F 0 (tkM K.F)) h2 2;have f0:fre (AD.tkF K.F 0 (tkM K.F))=fre (upd K.F (tkM K.F) 1):=by rw[LF,YW]
 have f3:bad3 (AD.tkF K.F 0 (tkM K.F))=bad3 (upd K.F (tkM K.F) 1):=by rw[LF,YX]
 rw[h3] at c0 c3;rw[no _ h2,Bb] at d0 d3;simp at c0 c3 d0 d3;have b3:bad3 (upd (AD.tkF K.F 0 (tkM K.F)) (tkM K.F) 2)=bad3 K.F:=om
 refine⟨?_,it,hF,om,b3⟩;refine h.reF (Y:=fun b=>b=tkM K.F) _ K.fr K.dd ?_ ?_ ?_ ?_ ?_ ?_ ?_ ?_ ?_
 ·refine h.wf.F' ?_ h.wf.fr _;rw[BT _ _ om,LF,Bb];omega
 ·intro b hb;by_cases e:b=tkM K.F
  ·rw[e,it];decide
  ·rw[hF b hb e];exact h.sts b hb
 ·intro p hp e;by_cases e2:p / 8=tkM K.F
  ·rw[e2,it] at e;exact absurd e dc
  ·rw[hF _ om e2] at e;exact h.frs p hp e
 ·intro b hb;by_cases e:b=tkM K.F
  ·rw[e,it];refine⟨fun e=>absurd e dc,fun e2=>?_⟩;have:=(h.opn (tkM K.F) h2).2 e2;rw[h3] at this;exact absurd this dc
  ·rw[hF b hb e];exact h.opn b hb
 ·exact h.frn
 ·intro o ho hL;have Go:=(h.wf.lt ho hL).1;rw[hF _ om (h.free_none h3 o ho hL)];exact h.blk o ho hL
 ·intro b hb e;rw[hF b hb]
  ·exact e
  ·rintro rfl;rw[h3] at e;exact absurd e dc
 ·exact fun b hb e=>absurd e (hX b hb)
 ·rw[b3];exact h.dds
structure kR (K:BH) (S:Bm) (l:List Nat):Prop where
 mem:∀o ∈ l,o<25/\K.L o≠-1/\(K.L o).toNat / 8=S.fm/\S.tt.i<=(K.L o).toNat % 8
 ord:l.Pairwise (fun x y=>K.L x<K.L y)
 new:∀o ∈ l,∀t ∈ S.ld,t.o≠o
theorem RE{S:Bm}(h:Sit K G (Xs S))(hC:LU K G S)(hf:S.tt.o=false->1<=fre K.F)(hv:K.F S.fm≠0){o:Nat}(ho:o<25)(hi:S.tt.i<8/\(o=24\/S.tt.i<6)) :∃K' k,tiK K S o=(K',{ S with tt:=⟨true,k,S.tt.i+1⟩ },8*k+S.tt.i,0)/\Pz K K'/\K'.s=K.s/\K'.tl=K.tl/\K'.sp=K.sp/\k<12/\k≠S.fm/\K'.F k=2/\(S.tt.o=true->k=S.tt.k)/\Sit K' G (fun b=>b=k)/\fre K'.F+(if S.tt.o=true then 0 else 1)=fre K.F /\(∀o,o<25->K'.L o≠-1->(K'.L o).toNat / 8≠k)/\(∀i,S.tt.i<=i->i<8->Erd K'.s (8*k+i))/\(∀p t D,p / 8=k->G.T p=some (t,D)->t ∈ S.ld)/\(∀t ∈ S.ld,t.p / 8=k)/\(∀b,b<12->b≠k->K'.F b=K.F b)/\(S.tt.o=false->K.F k=0):=by
 have it:∀k,AC.nxC ⟨true,k,S.tt.i⟩ o=0:=fun k=>by
  unfold AC.nxC;have h2:(o:Int)=24\/S.tt.i<6:=hi.2.imp (fun e=>om) id;rw[AI om,AI (show ¬ (true:Bool)=false by decide),AJ ⟨hi.1,h2⟩]
 have ar:∀k,AC.tkS ⟨true,k,S.tt.i⟩ o=⟨true,k,S.tt.i+1⟩:=fun k=>by unfold AC.tkS;rw[AJ (it k)]
 have La:∀k,(AC.nxV ⟨true,k,S.tt.i⟩ o).toNat=8*k+S.tt.i:=fun k=>by unfold AC.nxV;rw[AJ (it k)];show (k*8+S.tt.i:Int).toNat=_;omega
 cases e:S.tt.o
 ·obtain⟨hx,kd⟩:=hC.no e;obtain⟨t1,t2,t3,F',ha,s1,f1,f2,f3,f4⟩:=h.tkc (fun b _ x=>by have:=x.1;rw[e] at this;cases this) (hf e);have hk:tkM K.F≠S.fm:=fun x=>hv (by rw[<-x];exact t3);refine⟨{ K with F:=F' },tkM K.F,?_,⟨rfl,rfl,rfl,rfl,rfl,rfl,rfl,rfl,rfl,fun b hb=>?_,f4,⟨rfl,rfl,rfl,rfl,rfl,rfl⟩,fun b hb=>?_⟩,rfl,rfl,rfl,t2,hk,f1,fun x=>(by cases x),s1,f3,h.free_none t3,fun i _ h8=>?_,fun p t D hp hT=>?_,fun t ht=>?_,f2,fun _=>t3⟩
  ·unfold tiK;rw[e,AI dc,AI (by rw[t1];decide),ha];have hz:=kd;have a1:=ar (tkM K.F);have a2:=it (tkM K.F);have a3:=La (tkM K.F);rw[kd] at a1 a2 a3 ⊢;rw[a1,a2,a3]
  ·show K.F b=3<->F' b=3;by_cases x:b=tkM K.F
   ·rw[x,f1,t3];decide
   ·rw[f2 b hb x]
  ·show (K.F b≠0->F' b≠0)/\(K.F b=2->F' b=2);by_cases x:b=tkM K.F
   ·rw[x,f1,t3];decide
   ·rw[f2 b hb x];exact⟨id,id⟩
  ·exact h.frs _ om (by rw[show (8*tkM K.F+i) / 8=tkM K.F by omega];exact t3)
  ·have no:=(h.rep.ent p t D hT).1;have:=(h.frs p no (by rw[hp];exact t3)).tab h.rep;rw[hT] at this;cases this
  ·rw[hx] at ht;cases ht
 ·obtain⟨k1,k2,k3,k4⟩:=hC.k12 e;have h6:S.tt=⟨true,S.tt.k,S.tt.i⟩:=by
   generalize S.tt=st at *
   cases st
   simp_all
  refine⟨K,S.tt.k,?_,Pz.refl K,rfl,rfl,rfl,k1,k2,k3,fun _=>rfl,h.mono (fun b _ x=>AL x.2),rfl,hC.none e,hC.er e,hC.all e,fun t ht=>(hC.ld t ht).2.2.2.2.2.1,fun _ _ _=>rfl,fun e2=>by cases e2⟩;unfold tiK;rw[AJ e];have a1:=ar S.tt.k;have a2:=it S.tt.k;have a3:=La S.tt.k;rw[<-h6] at a1 a2 a3;rw[a1,a2,a3]
end
structure Cpb (K K':BH) (G G':Bk) (S S':Bm):Prop where
 sit:Sit K' G' (Xs S')
 kee:Pz K K'
 gc:G'.c=G.c/\G'.a=G.a/\G'.z=G.z
 sh:S'.fm=S.fm/\S'.rt=S.rt/\S'.fd=S.fd
 fre:fre K'.F+(if S'.tt.o=true then 1 else 0)=fre K.F+(if S.tt.o=true then 1 else 0)
 fv:K'.F S.fm=K.F S.fm
 dk:S.tt.o=false->S'.tt.o=true->K.F S'.tt.k=0
 ds:S.tt.o=true->S'.tt.o=true/\S'.tt.k=S.tt.k
def kS (S:Bm):Prop:=S.tt.i<=6\/((∃t ∈ S.ld,t.o=24)/\S.tt.i<=7)
structure nA (K:BH) (S:Bm):Prop where
 o:S.tt.o=true
 k:S.tt.k<12
 ne:S.tt.k≠S.fm
 F:K.F S.tt.k=2
 none:∀o,o<25->K.L o≠-1->(K.L o).toNat / 8≠S.tt.k
def oB (bd:Bool) (l:List Nat) (K:BH) (G:Bk) (S:Bm) (Z:BH × Bm × Nat):Prop:=
 ∃G',Cpb K Z.1 G G' S Z.2.1 /\
  ((Z.2.2=0/\Z.1.s.on=true/\LU Z.1 G' Z.2.1/\kS Z.2.1/\Z.2.1.tt.i<=S.tt.i+l.length/\(∀o ∈ l,(bd=true/\o=24)\/∃t ∈ Z.2.1.ld,t.o=o)/\(∀t ∈ S.ld,t ∈ Z.2.1.ld)/\(∀t ∈ Z.2.1.ld,t ∈ S.ld\/(t.o ∈ l/\¬ (bd=true/\t.o=24)))) \/
   (Z.2.2=8/\Z.1.s.on=true/\nA Z.1 Z.2.1)\/(Z.2.2=7/\Z.1.s.on=false))
theorem LH(bd:Bool):∀(l:List Nat) (K:BH) (G:Bk) (S:Bm),Sit K G (Xs S)->LU K G S->kR K S l->kS S->K.s.on=true->(S.tt.o=false->1<=fre K.F)->K.F S.fm≠0->l.length+S.tt.i<=25->oB bd l K G S (cpK bd l K S):=by
 intro l
 induction l with
 | nil=>
  intro K G S h hC _ hB B' hf hv _;refine⟨G,⟨h,Pz.refl K,⟨rfl,rfl,rfl⟩,⟨rfl,rfl,rfl⟩,rfl,rfl,fun e e2=>(by have e3:S.tt.o=true:=e2;rw[e] at e3;cases e3),fun e=>⟨e,rfl⟩⟩,AK ⟨rfl,B',hC,hB,AM _,fun o ho=>(by cases ho),fun t ht=>ht,fun t ht=>AK ht⟩⟩
 | cons o l ih=>
  intro K G S h hC hD hB B' hf hv f8;rw[An] at f8;obtain⟨m1,m2,m3,m4⟩:=hD.mem o (mem_cons_self ..);have no:=pairwise_cons.1 hD.ord;by_cases h0:bd=true/\o=24
  ·have e:cpK bd (o :: l) K S=cpK bd l K S:=(by rw[cpK,AJ h0]);rw[e];obtain⟨G',hb,hx⟩:=ih K G S h hC ⟨fun x hx=>hD.mem x (mem_cons_of_mem _ hx),no.2,fun x hx=>hD.new x (mem_cons_of_mem _ hx)⟩ hB B' hf hv om;refine⟨G',hb,hx.imp (fun ⟨a1,a2,a3,a4,a5,a6,a7,a8⟩=>⟨a1,a2,a3,a4,by rw[An];omega,fun x hx=>?_,a7,fun t ht=>(a8 t ht).imp id fun ⟨c1,c2⟩=>⟨mem_cons_of_mem _ c1,c2⟩⟩) id⟩;rcases mem_cons.1 hx with rfl | hx
   ·exact AK h0
   ·exact a6 x hx
  ·obtain⟨K1,D,lo,x0,a1,w1,be,L3,K',hz,o0⟩:=Yd h B' m1 m2;have h1:Sit K1 G (Xs S):=h.alk a1 w1;have t7:LU K1 G S:=hC.alk a1;have hc:S.tt.i<8/\(o=24\/S.tt.i<6):=by
    by_cases La:o=24
    ·exact⟨om,AK La⟩
    ·have:=(h.wf.map.may o om).resolve_left m2;have:=h.wf.lt m1 m2;exact⟨om,AL om⟩
   obtain⟨K2,k,K3,f5,oa,w4,w3,p2,G2,kF,G1,h2,f2,n2,qa,w5,C3,Fo,kz⟩:=RE h1 t7 (by rw[a1.F];exact hf) (by rw[a1.F];exact hv) m1 hc;have it:Pz K K2:=a1.kee.trans f5;have ar:8*k+S.tt.i<96:=om;have wr:(8*k+S.tt.i) / 8=k:=om;have l2:=h.wf.vs o m1;have oo:=h.wf.vp o m1 m2;have h6:o=24->lo=false:=fun e=>by
    cases elo:lo
    ·rfl
    ·exact absurd (e ▸ hz elo) h.z24
   have hM:DY ((8*k+S.tt.i:Nat):Int) (o:Nat) (K2.vs o:Nat) (((K2.vc o+1) % 256:Nat):Int) lo:=by
    rw[it.vs];refine⟨⟨om,om,om,om⟩,?_⟩;by_cases La:o=24
    ·exact AK ⟨om,h6 La⟩
    ·have:=hc.2.resolve_left La;exact AL ⟨om,om⟩
   have hE:YR (8*k+S.tt.i) ⟨8*k+S.tt.i,o,K2.vs o,(K2.vc o+1) % 256,lo⟩ D:=⟨rfl,hM,L3,K'⟩;have w':JZ K2 (8*k+S.tt.i):=by
    refine⟨ar,AL (by rw[wr];exact kF),fun fo fk=>?_,qa S.tt.i (AM _) hc.1⟩;have:=(h2.opn k p2).2 ⟨fo,by rw[fk,wr]⟩;rw[kF] at this;exact absurd this dc
   have f9:prM K2 ⟨8*k+S.tt.i,o,K2.vs o,(K2.vc o+1) % 256,lo⟩ D=prK K2 ⟨8*k+S.tt.i,o,K2.vs o,(K2.vc o+1) % 256,lo⟩ D:=by
    unfold prM;rw[AI];rintro ⟨x,y⟩;have:=h6 x;rw[this] at y;cases y
   obtain⟨s',r',R',ep,f1,o2⟩:=PX (K:=K2) h2.wf h2.rep (t:=⟨8*k+S.tt.i,o,K2.vs o,(K2.vc o+1) % 256,lo⟩) ar hE (by rw[oa];exact be) w'.er;have ha:K2.L o≠-1:=(by rw[it.L];exact m2);have w2:cpK bd (o :: l) K S=if (prK K2 ⟨8*k+S.tt.i,o,K2.vs o,(K2.vc o+1) % 256,lo⟩ D).2≠0 then ((prK K2 ⟨8*k+S.tt.i,o,K2.vs o,(K2.vc o+1) % 256,lo⟩ D).1,{ S with tt:=⟨true,k,S.tt.i+1⟩ },(prK K2 ⟨8*k+S.tt.i,o,K2.vs o,(K2.vc o+1) % 256,lo⟩ D).2) else cpK bd l (prK K2 ⟨8*k+S.tt.i,o,K2.vs o,(K2.vc o+1) % 256,lo⟩ D).1 { S with tt:=⟨true,k,S.tt.i+1⟩,ld:=S.ld ++ [⟨8*k+S.tt.i,o,K2.vs o,(K2.vc o+1) % 256,lo⟩] }:=by
    rw[cpK,AI h0,x0];dsimp only;rw[AI dc,K3];dsimp only;rw[AI dc,f9]
   rw[w2,ep];have hk:fre K2.F+1=fre K.F+(if S.tt.o=true then 1 else 0):=by
    rw[a1.F] at f2;split at f2 <;> rename_i c
    ·rw[AJ c];omega
    ·rw[AI c];omega
   have hg:K2.F S.fm=K.F S.fm:=(by rw[Fo S.fm hC.fm (fun e=>G2 e.symm),a1.F]);have f3:∀(ld:List CP),(fun b=>b=k)=Xs { S with tt:=⟨true,k,S.tt.i+1⟩,ld:=ld }:=fun ld=>by
    funext b;unfold Xs;simp
   rcases o2 with ⟨ec,kd⟩ | ⟨ec,kn⟩ | ⟨ec,kn⟩
   ·rw[ec,AI dc];have h3:=h2.copy kd w' m1 ha rfl rfl wr f1;rw[f3 (S.ld ++ [⟨8*k+S.tt.i,o,K2.vs o,(K2.vc o+1) % 256,lo⟩])] at h3;have oi:=w'.er.tab h2.rep;have f4:∀t ∈ S.ld,t.p≠8*k+S.tt.i:=fun t ht e=>by
     obtain⟨E,h5,_⟩:=hC.dt t ht;rw[e,oi] at h5;cases h5
    have G3:∀t ∈ S.ld,t.o≠o:=hD.new o (mem_cons_self ..);have C5:LU { K2 with s:=s',r:=r',hR:=R' } { G with T:=Dj G.T (8*k+S.tt.i) ⟨8*k+S.tt.i,o,K2.vs o,(K2.vc o+1) % 256,lo⟩ D } { S with tt:=⟨true,k,S.tt.i+1⟩,ld:=S.ld ++ [⟨8*k+S.tt.i,o,K2.vs o,(K2.vc o+1) % 256,lo⟩] }:=by
     refine⟨hC.fm,fun e=>(by cases e),fun _=>⟨p2,G2,kF,by show S.tt.i+1<=8;omega⟩,fun _=>n2,fun _ i hi h8=>?_,fun _ p t E hp hT=>?_,fun t ht=>?_,fun t ht=>?_,?_,?_⟩
     ·have rs:S.tt.i+1<=i:=hi;exact kd.oth.erd (by show 8*k+i≠8*k+S.tt.i;omega) (qa i om h8)
     ·rcases Dz hT with ⟨_,e2,_⟩ | ⟨_,o1⟩
      ·rw[e2];exact mem_append_right _ (mem_singleton.2 rfl)
      ·exact mem_append_left _ (w5 p t E hp o1)
     ·rcases mem_append.1 ht with ht | ht
      ·obtain⟨b1,b2,b3,b4,b5,b6,b7⟩:=hC.ld t ht;refine⟨b1,by rw[show ({ K2 with s:=s',r:=r',hR:=R' }:BH).L=K.L from it.L];exact b2,by rw[show ({ K2 with s:=s',r:=r',hR:=R' }:BH).L=K.L from it.L];exact b3,?_,?_,C3 t ht,b7⟩
       ·show t.q=K2.vs t.o;rw[it.vs];exact b4
       ·show t.c=(K2.vc t.o+1) % 256;rw[it.vc];exact b5
      ·have:t=⟨8*k+S.tt.i,o,K2.vs o,(K2.vc o+1) % 256,lo⟩:=mem_singleton.1 ht;subst this;refine⟨m1,ha,?_,rfl,rfl,wr,ar,?_⟩
       ·show (K2.L o).toNat / 8=S.fm;rw[it.L];exact m3
       ·rcases hc.2 with e | e
        ·exact AK e
        ·exact AL (by show (8*k+S.tt.i) % 8<6;omega)
     ·rcases mem_append.1 ht with ht | ht
      ·obtain⟨E,b1,b2,b3⟩:=t7.dt t ht;refine⟨E,?_,kd.oth.gd (f4 t ht) (by rw[oa];exact b2),b3⟩;show Dj G.T _ _ D t.p=_;rw[GO _ _ _ (f4 t ht)];exact b1
      ·have:t=⟨8*k+S.tt.i,o,K2.vs o,(K2.vc o+1) % 256,lo⟩:=mem_singleton.1 ht;subst this;exact⟨D,Ju _ _ _ _,kd.gd,hz,o0⟩
     ·show ((S.ld ++ [(⟨8*k+S.tt.i,o,K2.vs o,(K2.vc o+1) % 256,lo⟩:CP)]).map (fun t:CP=>t.o)).Nodup;rw[map_append,nodup_append];refine⟨hC.ndo,(by simp),fun x hx y hy e=>?_⟩;obtain⟨t,ht,rfl⟩:=mem_map.1 hx;have:y=o:=by simpa using hy
      exact G3 t ht (e.trans this)
     ·show ((S.ld ++ [(⟨8*k+S.tt.i,o,K2.vs o,(K2.vc o+1) % 256,lo⟩:CP)]).map (fun t:CP=>t.p)).Nodup;rw[map_append,nodup_append];refine⟨hC.ndp,(by simp),fun x hx y hy e=>?_⟩;obtain⟨t,ht,rfl⟩:=mem_map.1 hx;have:y=8*k+S.tt.i:=by simpa using hy
      exact f4 t ht (e.trans this)
    have C4:kS { S with tt:=⟨true,k,S.tt.i+1⟩,ld:=S.ld ++ [⟨8*k+S.tt.i,o,K2.vs o,(K2.vc o+1) % 256,lo⟩] }:=by
     by_cases La:o=24
     ·right;refine⟨⟨_,mem_append_right _ (mem_singleton.2 rfl),La⟩,?_⟩;show S.tt.i+1<=7;rcases hB with b | ⟨⟨t,ht,b⟩,_⟩
      ·omega
      ·exact absurd (b.trans La.symm) (G3 t ht)
     ·left;show S.tt.i+1<=6;have:=hc.2.resolve_left La;omega
    have f6:kR { K2 with s:=s',r:=r',hR:=R' } { S with tt:=⟨true,k,S.tt.i+1⟩,ld:=S.ld ++ [⟨8*k+S.tt.i,o,K2.vs o,(K2.vc o+1) % 256,lo⟩] } l:=by
     refine⟨fun x hx=>?_,?_,fun x hx t ht=>?_⟩
     ·obtain⟨b1,b2,b3,b4⟩:=hD.mem x (mem_cons_of_mem _ hx);have hs:=no.1 x hx;have f7:K2.L=K.L:=it.L;refine⟨b1,by show K2.L x≠-1;rw[f7];exact b2,by show (K2.L x).toNat / 8=S.fm;rw[f7];exact b3,?_⟩;show S.tt.i+1<=(K2.L x).toNat % 8;rw[f7];have:=h.wf.lt m1 m2;have:=h.wf.lt b1 b2;omega
     ·show l.Pairwise fun x y=>K2.L x<K2.L y;rw[it.L];exact no.2
     ·rcases mem_append.1 ht with ht | ht
      ·exact hD.new x (mem_cons_of_mem _ hx) t ht
      ·have:t=⟨8*k+S.tt.i,o,K2.vs o,(K2.vc o+1) % 256,lo⟩:=mem_singleton.1 ht;subst this;rintro rfl;exact absurd (no.1 _ hx) (Int.lt_irrefl _)
    obtain⟨G',hb,hx⟩:=ih _ _ _ h3 C5 f6 C4 kd.on (fun e=>by cases e) (by show K2.F S.fm≠0;rw[hg];exact hv) (by show l.length+(S.tt.i+1)<=25;omega);refine⟨G',⟨hb.sit,it.trans ((show Pz K2 { K2 with s:=s',r:=r',hR:=R' } from ⟨rfl,rfl,rfl,rfl,rfl,rfl,rfl,rfl,rfl,fun _ _=>Iff.rfl,rfl,⟨rfl,rfl,rfl,rfl,rfl,rfl⟩,fun _ _=>⟨id,id⟩⟩).trans hb.kee),hb.gc,hb.sh,?_,hb.fv.trans hg,fun e _=>(by rw[(hb.ds rfl).2];have:=kz e;rw[a1.F] at this;exact this),fun e=>⟨(hb.ds rfl).1,(hb.ds rfl).2.trans (G1 e)⟩⟩,hx.imp (fun ⟨x1,x2,x3,x4,x5,x6,x7,x8⟩=>⟨x1,x2,x3,x4,?_,fun y hy=>?_,fun t ht=>x7 t (mem_append_left _ ht),fun t ht=>?_⟩) id⟩
    ·have:=hb.fre;rw[this];show fre K2.F+1=_;exact hk
    ·have xs:_<=(S.tt.i+1)+l.length:=x5;rw[An];omega
    ·rcases mem_cons.1 hy with rfl | hy
     ·exact AL ⟨_,x7 _ (mem_append_right _ (mem_singleton.2 rfl)),rfl⟩
     ·exact x6 y hy
    ·rcases x8 t ht with ht | ⟨c1,c2⟩
     ·rcases mem_append.1 ht with ht | ht
      ·exact AK ht
      ·have:t=⟨8*k+S.tt.i,o,K2.vs o,(K2.vc o+1) % 256,lo⟩:=mem_singleton.1 ht;subst this;exact AL ⟨mem_cons_self ..,h0⟩
     ·exact AL ⟨mem_cons_of_mem _ c1,c2⟩
   ·rw[ec,AJ dc];have h3:=h2.pgn kn w' (AM _) f1;rw[f3 S.ld] at h3;refine⟨G,⟨h3,it.trans ⟨rfl,rfl,rfl,rfl,rfl,rfl,rfl,rfl,rfl,fun _ _=>Iff.rfl,rfl,⟨rfl,rfl,rfl,rfl,rfl,rfl⟩,fun _ _=>⟨id,id⟩⟩,⟨rfl,rfl,rfl⟩,⟨rfl,rfl,rfl⟩,hk,hg,fun e _=>(by have:=kz e;rw[a1.F] at this;exact this),fun e=>⟨rfl,G1 e⟩⟩,AL (AK ⟨rfl,kn.on,⟨rfl,p2,G2,kF,n2⟩⟩)⟩
   ·rw[ec,AJ dc];have h3:=h2.pgn kn w' (AM _) f1;rw[f3 S.ld] at h3;refine⟨G,⟨h3,it.trans ⟨rfl,rfl,rfl,rfl,rfl,rfl,rfl,rfl,rfl,fun _ _=>Iff.rfl,rfl,⟨rfl,rfl,rfl,rfl,rfl,rfl⟩,fun _ _=>⟨id,id⟩⟩,⟨rfl,rfl,rfl⟩,⟨rfl,rfl,rfl⟩,hk,hg,fun e _=>(by have:=kz e;rw[a1.F] at this;exact this),fun e=>⟨rfl,G1 e⟩⟩,AL (AL ⟨rfl,kn.on⟩)⟩
theorem Sd{α:Type}(f:Nat->α)(n:Nat)(v:α):ET f n v n=v:=by unfold ET;rw[AJ rfl]
theorem Ye:∀(l:List CP) (K:BH),AB.GK K.L->(∀t ∈ l,t.o<25/\t.p<96/\(t.o=24\/t.p % 8<6))->(l.map (·.o)).Nodup->(l.map (·.p)).Nodup->(∀t ∈ l,∀o,o<25->K.L o≠(t.p:Int)) ->∃L' it Go,cmL l K=({ K with L:=L',vs:=it,vc:=Go },0)/\AB.GK L'/\(∀t ∈ l,L' t.o=(t.p:Int)/\it t.o=t.q/\Go t.o=t.c)/\(∀o,(∀t ∈ l,t.o≠o)->L' o=K.L o/\it o=K.vs o/\Go o=K.vc o):=by
 intro l
 induction l with
 | nil=>intro K h _ _ _ _;exact⟨K.L,K.vs,K.vc,rfl,h,fun t ht=>(by cases ht),fun o _=>⟨rfl,rfl,rfl⟩⟩
 | cons t l ih=>
  intro K h hm ho hp hn;obtain⟨m1,m2,m3⟩:=hm t (mem_cons_self ..);have no:=CM (hn t (mem_cons_self ..));have ar:AB.DY (t.o:Nat) (t.p:Nat):=⟨⟨om,om⟩,⟨om,om⟩,m3.imp (fun e=>om) (fun e=>om)⟩;have hc:AB.setC K.L t.o t.p=0:=by
   unfold AB.setC;rw[AI (fun e=>e ar),AI (by rw[no];simp)]
  have hL:AB.setL K.L t.o t.p=upd K.L t.o t.p:=by unfold AB.setL;rw[AJ hc,AP]
  have kd:layK K t=({ K with vs:=upd K.vs t.o t.q,vc:=upd K.vc t.o t.c,L:=upd K.L t.o t.p },0):=by unfold layK;rw[hc,hL]
  have e:cmL (t :: l) K=cmL l { K with vs:=upd K.vs t.o t.q,vc:=upd K.vc t.o t.c,L:=upd K.L t.o t.p }:=by
   rw[cmL,kd,AI (show ¬ (0:Nat)≠0 by decide)]
  rw[map_cons,nodup_cons] at ho hp;have ha:∀u ∈ l,u.o≠t.o:=fun u hu e2=>ho.1 (e2 ▸ mem_map.2 ⟨u,hu,rfl⟩);have hk:∀u ∈ l,u.p≠t.p:=fun u hu e2=>hp.1 (e2 ▸ mem_map.2 ⟨u,hu,rfl⟩);obtain⟨L',it,Go,h1,h2,h3,h4⟩:=ih { K with vs:=upd K.vs t.o t.q,vc:=upd K.vc t.o t.c,L:=upd K.L t.o t.p } (h.put t.o ⟨om,om⟩ (fun hlt=>by have:=m3.resolve_left om;omega) no) (fun u hu=>hm u (mem_cons_of_mem _ hu)) ho.2 hp.2 (fun u hu o ho2=>by
   show upd K.L t.o t.p o≠_
   by_cases eo:o=t.o
   ·
    rw[eo,Bb]
    have:=hk u hu
    omega
   ·
    rw[BT _ _ eo]
    exact hn u (mem_cons_of_mem _ hu) o ho2)
  refine⟨L',it,Go,by rw[e,h1],h2,fun u hu=>?_,fun o ho2=>?_⟩
  ·rcases mem_cons.1 hu with rfl | hu
   ·obtain⟨a,b,c⟩:=h4 u.o (fun v hv=>ha v hv);refine⟨a.trans (Bb _ _ _),b.trans ?_,c.trans ?_⟩
    ·show upd K.vs u.o u.q u.o=_;unfold upd;rw[AJ rfl]
    ·show upd K.vc u.o u.c u.o=_;unfold upd;rw[AJ rfl]
   ·exact h3 u hu
  ·obtain⟨a,b,c⟩:=h4 o (fun v hv=>ho2 v (mem_cons_of_mem _ hv));have La:o≠t.o:=fun e2=>ho2 t (mem_cons_self ..) e2.symm;refine⟨a.trans (BT _ _ La),b.trans ?_,c.trans ?_⟩
   ·show upd K.vs t.o t.q o=_;unfold upd;rw[AI La]
   ·show upd K.vc t.o t.c o=_;unfold upd;rw[AI La]
section
variable {K:BH}{G:Bk}{X:Nat->Prop}{S:Bm}
theorem Sit.fin(h:Sit K G X){tt:AC.St}(ho:tt.o=true)(hk:tt.k<12)(hF:K.F tt.k=2)(hi:tt.i<=8)(er:∀i,tt.i<=i->i<8->Erd K.s (8*tt.k+i)) :∃F',stK { clK K with fr:=tt } tt.k 1={ K with F:=F',fr:=tt,dd:=K.dd }/\Sit { K with F:=F',fr:=tt,dd:=K.dd } G X/\fre F'=fre K.F/\bad3 F'=bad3 K.F/\(∀b,b<12->(K.F b=3<->F' b=3))/\(∀b,b<12->(K.F b=0<->F' b=0))/\(∀b,b<12->b≠tt.k->K.F b=2->F' b=2):=by
 obtain⟨s1,f1,b1,o1,q1⟩:=h.cl;have no:K.fr.o=true->tt.k≠K.fr.k:=fun e x=>by
  have:=(h.frk e).2;rw[<-x,hF] at this;exact absurd this dc
 have it:(clK K).F tt.k=2:=by
  cases e:K.fr.o
  ·rw[DW e];exact hF
  ·rw[h.clK_eq e];show upd K.F K.fr.k 2 tt.k=2;rw[BT _ _ (no e)];exact hF
 have hz:∀b,b<12->(K.F b=0<->(clK K).F b=0):=fun b hb=>by
  cases e:K.fr.o
  ·rw[DW e]
  ·rw[h.clK_eq e];show K.F b=0<->upd K.F K.fr.k 2 b=0;rcases BX K.F K.fr.k b 2 with ⟨e1,e2⟩ | ⟨_,e2⟩ <;> rw[e2]
   rw[e1,(h.frk e).2];decide
 have eK:clK K={ K with F:=(clK K).F,fr:=(clK K).fr }:=by
  unfold clK;split <;> rfl
 have eF:AD.setF (clK K).F tt.k 1=upd (clK K).F tt.k 1:=Dk hk dc (AK (by rw[it];decide));have hL:(clK K).L=K.L:=by rw[eK]
 have hs:(clK K).s=K.s:=by rw[eK]
 have hd:(clK K).dd=K.dd:=by rw[eK]
 have c0:=Fs (clK K).F hk 1;have c3:=Ft (clK K).F hk 1;rw[it] at c0 c3;simp at c0 c3;refine⟨upd (clK K).F tt.k 1,?_,?_,by rw[c0,f1],by rw[c3,b1],fun b hb=>?_,fun b hb=>?_,fun b hb no e=>?_⟩
 ·unfold stK;show ({ ({ clK K with fr:=tt }:BH) with F:=AD.setF (clK K).F tt.k 1 }:BH)=_;rw[eF];conv=>lhs;rw[eK]
 ·have:=s1.reF (Y:=X) (upd (clK K).F tt.k 1) tt (clK K).dd ?_ ?_ ?_ ?_ ?_ ?_ ?_ ?_ ?_
  ·have e2:({ clK K with F:=upd (clK K).F tt.k 1,fr:=tt,dd:=(clK K).dd }:BH)={ K with F:=upd (clK K).F tt.k 1,fr:=tt,dd:=K.dd }:=by
    rw[hd];conv=>lhs;rw[eK]
   rw[e2] at this;exact this
  ·refine s1.wf.F' ?_ ⟨hk,om⟩ _;rw[BT _ _ om];exact s1.wf.frm
  ·intro b hb;rcases BX (clK K).F tt.k b 1 with ⟨_,e⟩ | ⟨_,e⟩ <;> rw[e]
   ·decide
   ·exact s1.sts b hb
  ·intro p hp e;rcases BX (clK K).F tt.k (p / 8) 1 with ⟨_,e2⟩ | ⟨_,e2⟩ <;> rw[e2] at e
   ·exact absurd e dc
   ·exact s1.frs p hp e
  ·intro b hb;rcases BX (clK K).F tt.k b 1 with ⟨e1,e2⟩ | ⟨e1,e2⟩ <;> rw[e2]
   ·exact⟨fun _=>⟨ho,e1.symm⟩,fun _=>rfl⟩
   ·refine⟨fun e=>?_,fun e=>absurd e.2.symm e1⟩;have:=((s1.opn b hb).1 e).1;rw[o1] at this;cases this
  ·intro _ i La h8;rw[hs];exact er i La h8
  ·intro o ar Go;rw[hL] at Go ⊢;have:=s1.blk o ar (by rw[hL];exact Go);rw[hL] at this;rcases BX (clK K).F tt.k ((K.L o).toNat / 8) 1 with ⟨_,e⟩ | ⟨_,e⟩ <;> rw[e]
   ·exact⟨dc,fun e=>absurd e dc⟩
   ·exact this
  ·intro b hb e;rw[BT]
   ·exact e
   ·rintro rfl;rw[it] at e;exact absurd e dc
  ·exact fun b _ e=>AL e
  ·rw[c3];exact s1.dds
 ·rw[q1 b hb];rcases BX (clK K).F tt.k b 1 with ⟨e1,e2⟩ | ⟨_,e2⟩ <;> rw[e2]
  rw[e1,it];decide
 ·rw[hz b hb];rcases BX (clK K).F tt.k b 1 with ⟨e1,e2⟩ | ⟨_,e2⟩ <;> rw[e2]
  rw[e1,it];decide
 ·rw[BT _ _ no];cases eo:K.fr.o
  ·rw[DW eo];exact e
  ·rw[h.clK_eq eo];show upd K.F K.fr.k 2 b=2;rcases BX K.F K.fr.k b 2 with ⟨_,e2⟩ | ⟨_,e2⟩ <;> rw[e2]
   exact e
def Whole (K:BH) (S:Bm):Prop:=∀o,o<25->K.L o≠-1->(K.L o).toNat / 8=S.fm->∃t ∈ S.ld,t.o=o
structure lh (K:BH) (S:Bm) (L':Nat->Int) (vs' vc':Nat->Nat):Prop where
 ok:AB.GK L'
 ld:∀t ∈ S.ld,L' t.o=(t.p:Int)/\vs' t.o=t.q/\vc' t.o=t.c
 no:∀o,(∀t ∈ S.ld,t.o≠o)->L' o=K.L o/\vs' o=K.vs o/\vc' o=K.vc o
theorem LU.cml(hC:LU K G S)(h:Sit K G X)(K1:BH)(hL:K1.L=K.L)(hvs:K1.vs=K.vs)(hvc:K1.vc=K.vc):∃L' it no,cmL S.ld K1=({ K1 with L:=L',vs:=it,vc:=no },0)/\lh K S L' it no:=by
 obtain⟨L',it,no,h1,h2,h3,h4⟩:=Ye S.ld K1 (by rw[hL];exact h.wf.map) (fun t ht=>by obtain⟨a,_,_,_,_,_,b,c⟩:=hC.ld t ht;exact⟨a,b,c⟩) hC.ndo hC.ndp (fun t ht o ho e=>by
  rw[hL] at e
  have Go:K.L o≠-1:=by rw[e];omega
  cases ht0:S.tt.o
  ·
   rw[(hC.no ht0).1] at ht;cases ht
  ·
   have:=hC.none ht0 o ho Go
   rw[e,AP,(hC.ld t ht).2.2.2.2.2.1] at this
   exact this rfl)
 rw[hL,hvs,hvc] at h4;exact⟨L',it,no,h1,h2,h3,h4⟩
theorem lh.vs{L':Nat->Int}{vs' vc':Nat->Nat}(hl:lh K S L' vs' vc')(hC:LU K G S)(o:Nat):vs' o=K.vs o/\(K.L o = -1->L' o = -1)/\(L' o = -1->K.L o = -1):=by
 by_cases e:∃t ∈ S.ld,t.o=o
 ·obtain⟨t,ht,rfl⟩:=e;obtain⟨a,b,_⟩:=hl.ld t ht;obtain⟨_,c,_,d,_⟩:=hC.ld t ht;exact⟨b.trans d,fun x=>absurd x c,fun x=>by rw[a] at x;omega⟩
 ·obtain⟨a,b,_⟩:=hl.no o (fun t ht e2=>e ⟨t,ht,e2⟩);exact⟨b,fun x=>a.trans x,fun x=>a.symm.trans x⟩
theorem Sit.cme(h:Sit K G (Xs S))(hC:LU K G S)(hW:Whole K S)(hT:∀b,b<12->K.F b=3->G.c.B b=true){s':BM}(hs:s'.Ok)(hch:∀j,s'.ch j=if 32*S.fm<=j/\j<32*S.fm+32 then Gk else K.s.ch j){R' N':Nat->Int}(hwf:Wf { K with s:=s',hR:=R',hN:=N' }){L':Nat->Int}{vs' vc':Nat->Nat}(hl:lh K S L' vs' vc'):Sit { K with s:=s',hR:=R',hN:=N',L:=L',vs:=vs',vc:=vc' } { G with T:=clrT G.T S.fm } No/\(∀o,o<25->L' o≠-1->(L' o).toNat / 8≠S.fm):=by
 have w1:=hC.fm;have wr:∀p,p / 8=S.fm->Erd s' p:=fun p hp k hk=>by rw[hch,AJ om];rfl
 have no:∀p k,p / 8≠S.fm->k<4->s'.ch (4*p+k)=K.s.ch (4*p+k):=fun p k hp hk=>by rw[hch,AI om]
 have ar:∀p,Erd K.s p->Erd s' p:=fun p hE=>by
  by_cases e:p / 8=S.fm
  ·exact wr p e
  ·intro k hk;rw[no p k e hk];exact hE k hk
 have h2:∀p,p / 8≠S.fm->Gh K.s p->Gh s' p:=fun p e hE k hk=>by rw[no p k e hk];exact hE k hk
 have h1:∀p,p / 8≠S.fm->Gd K.s p->Gd s' p:=fun p e hE k hk=>by rw[no p k e hk];exact hE k hk
 have La:∀p t D,clrT G.T S.fm p=some (t,D)->p / 8≠S.fm/\G.T p=some (t,D):=fun p t D e=>by
  unfold clrT at e;split at e
  ·cases e
  ·rename_i c;exact⟨c,e⟩
 have hg:∀p,p / 8≠S.fm->clrT G.T S.fm p=G.T p:=fun p e=>by unfold clrT;rw[AI e]
 have kd:∀o,o<25->L' o≠-1->(∃t ∈ S.ld,t.o=o/\L' o=(t.p:Int)/\vs' o=t.q/\vc' o=t.c)\/((∀t ∈ S.ld,t.o≠o)/\L' o=K.L o/\vs' o=K.vs o/\vc' o=K.vc o/\K.L o≠-1/\(K.L o).toNat / 8≠S.fm):=fun o ho it=>by
  by_cases e:∃t ∈ S.ld,t.o=o
  ·obtain⟨t,ht,rfl⟩:=e;obtain⟨a,b,c⟩:=hl.ld t ht;exact AK ⟨t,ht,rfl,a,b,c⟩
  ·have hc:∀t ∈ S.ld,t.o≠o:=fun t ht e2=>e ⟨t,ht,e2⟩;obtain⟨a,b,c⟩:=hl.no o hc;have hK:K.L o≠-1:=(by rw[<-a];exact it);exact AL ⟨hc,a,b,c,hK,fun x=>e (hW o ho hK x)⟩
 have hx:∀t ∈ S.ld,S.tt.o=true:=fun t ht=>by
  cases e:S.tt.o
  ·rw[(hC.no e).1] at ht;cases ht
  ·rfl
 have B':∀o,o<25->L' o≠-1->(L' o).toNat / 8≠S.fm:=fun o ho it=>by
  rcases kd o ho it with ⟨t,ht,_,a,_⟩ | ⟨_,a,_,_,_,b⟩
  ·rw[a,AP,(hC.ld t ht).2.2.2.2.2.1];exact(hC.k12 (hx t ht)).2.1
  ·rw[a];exact b
 refine⟨{
  wf:=⟨hs,hwf.rr,hwf.frm,hl.ok,fun i hi=>by show vs' i<=_;rw[(hl.vs hC i).1];exact h.wf.vs i hi,fun i hi hLi=>by show 1<=vs' i;rw[(hl.vs hC i).1];exact h.wf.vp i hi (fun e=>hLi ((hl.vs hC i).2.1 e)),fun i hi=>?_,hwf.fl,hwf.nx,hwf.fr,hwf.cu,hwf.qu,hwf.hea,hwf.tl⟩
  rep:=h.rep.erase hch
  sts:=h.sts
  frs:=fun p hp e=>ar p (h.frs p hp e)
  opn:=h.opn
  frn:=fun e i hi h8=>ar _ (h.frn e i hi h8)
  liv:=fun o ho it=>?_
  nul:=fun o ho e=>h.nul o ho ((hl.vs hC o).2.2 e)
  blk:=fun o ho it=>?_
  flo:=fun o ho it=>by
   show K.fl o<(vs' o:Int)
   rw[(hl.vs hC o).1]
   exact h.flo o ho (fun e=>it ((hl.vs hC o).2.1 e))
  old:=fun p t D hT2 hcd=>?_
  seq:=fun p t D hT2=>h.seq p t D (La p t D hT2).2
  fls:=h.fls
  sp:=h.sp
  dds:=h.dds
  cb:=h.cb
  cf:=h.cf
  cn:=fun it=>by
   show G.c.N=(vs' 24:Int)/\_
   rw[(hl.vs hC 24).1]
   exact h.cn (fun e=>it ((hl.vs hC 24).2.1 e))
  nw:=fun e p=>by
   have:=h.nw ((hl.vs hC 24).2.2 e) p
   show clrT G.T S.fm p=none
   unfold clrT
   split
   ·
    rfl
   ·
    exact this
  z24:=h.z24
  lb:=fun o ho it=>by
   show G.c.B ((L' o).toNat / 8)=false
   rcases kd o ho it with ⟨t,ht,_,a,_⟩ | ⟨_,a,_,_,b,_⟩
   ·
    rw[a,AP,(hC.ld t ht).2.2.2.2.2.1]
    obtain⟨k1,_,k3,_⟩:=hC.k12 (hx t ht)
    cases e4:G.c.B S.tt.k
    ·
     rfl
    ·
     have:=h.cb _ k1 e4
     rw[k3] at this
     exact absurd this dc
   ·
    rw[a]
    exact h.lb o ho b },B'⟩
 ·by_cases e:∃t ∈ S.ld,t.o=i
  ·obtain⟨t,ht,rfl⟩:=e;obtain⟨_,_,c⟩:=hl.ld t ht;show vc' t.o<256;rw[c,(hC.ld t ht).2.2.2.2.1];omega
  ·obtain⟨_,_,c⟩:=hl.no i (fun t ht e2=>e ⟨t,ht,e2⟩);show vc' i<256;rw[c];exact h.wf.vc i hi
 ·rcases kd o ho it with ⟨t,ht,rfl,a,b,c⟩ | ⟨_,a,b,c,d,e⟩
  ·obtain⟨D,d1,d2,d3,d4⟩:=hC.dt t ht;have hk:t.p / 8≠S.fm:=(by rw[(hC.ld t ht).2.2.2.2.2.1];exact(hC.k12 (hx t ht)).2.1);have G1:=(h.rep.ent _ _ _ d1).2.pl;refine⟨t.l,D,⟨?_,d3,d4,?_,fun _=>?_⟩⟩
   ·show clrT G.T S.fm (L' t.o).toNat=some (⟨(L' t.o).toNat,t.o,vs' t.o,vc' t.o,t.l⟩,D);rw[a,b,c,AP,hg _ hk];exact d1
   ·show Gh s' (L' t.o).toNat;rw[a,AP];exact h2 _ hk d2.gh
   ·show Gd s' (L' t.o).toNat;rw[a,AP];exact h1 _ hk d2
  ·obtain⟨l,D,ha⟩:=h.liv o ho d;refine⟨l,D,⟨?_,ha.lost,ha.data,?_,fun z=>?_⟩⟩
   ·show clrT G.T S.fm (L' o).toNat=some (⟨(L' o).toNat,o,vs' o,vc' o,l⟩,D);rw[a,b,c,hg _ e];exact ha.tab
   ·show Gh s' (L' o).toNat;rw[a];exact h2 _ e ha.gh
   ·show Gd s' (L' o).toNat;rw[a];exact h1 _ e (ha.gd z)
 ·show K.F ((L' o).toNat / 8)≠0/\(K.F ((L' o).toNat / 8)=3->K.dd=true);rcases kd o ho it with ⟨t,ht,rfl,a,_⟩ | ⟨_,a,_,_,d,_⟩
  ·rw[a,AP,(hC.ld t ht).2.2.2.2.2.1,(hC.k12 (hx t ht)).2.2.1];exact⟨dc,fun e=>absurd e dc⟩
  ·rw[a];exact h.blk o ho d
 ·obtain⟨hp,hv⟩:=La p t D hT2;have p2:=(h.rep.ent p t D hv).1;have h6:t.o<25:=by have:=(h.rep.ent p t D hv).2.may.1.2.1;omega
  obtain⟨r1,r2⟩:=h.old p t D hv hcd;show L' t.o≠-1/\(t.q<vs' t.o\/t.q=vs' t.o/\((p:Int)=L' t.o\/t.c=(vc' t.o+1) % 256/\G.c.B (p / 8)=false/\(K.F (p / 8)=3\/False)));have h0:L' t.o≠-1:=fun e=>r1 ((hl.vs hC t.o).2.2 e);refine⟨h0,?_⟩;rw[(hl.vs hC t.o).1];refine r2.imp id fun ⟨q1,q2⟩=>⟨q1,?_⟩;rcases q2 with q2 | ⟨q2,q6,q3⟩
  ·left;rcases kd t.o h6 h0 with ⟨u,hu,e1,a,_⟩ | ⟨_,a,_⟩
   ·exfalso;obtain⟨_,b1,b2,_⟩:=hC.ld u hu;rw[e1] at b2;apply hp;rw[<-b2,<-q2,AP]
   ·rw[a];exact q2
  ·rcases q3 with q3 | ⟨q4,q5⟩
   ·exfalso;rw[hT _ om q3] at q6;cases q6
   ·left;have w':=hC.all q4 p t D q5 hv;rw[(hl.ld t w').1,(h.rep.ent p t D hv).2.pl]
end
theorem Yf{l:List CP}{t:CP}:∀ {K K1:BH},cmL l K=(K1,0)->cmL (l ++ [t]) K=layK K1 t:=by
 induction l with
 | nil=>
  intro K K1 e;have:K=K1:=(Prod.mk.inj e).1;subst this;show (if (layK K t).2≠0 then layK K t else ((layK K t).1,0))=_;by_cases c:(layK K t).2=0
  ·rw[AI (by rw[c];simp)];exact Prod.ext rfl c.symm
  ·rw[AJ c]
 | cons u l ih=>
  intro K K1 e;rw[cmL] at e;show (if (layK K u).2≠0 then layK K u else cmL (l ++ [t]) (layK K u).1)=_;by_cases c:(layK K u).2≠0
  ·rw[AJ c] at e;rw[e] at c;exact absurd rfl c
  ·rw[AI c] at e ⊢;exact ih e
section
variable {K:BH}{G:Bk}{X:Nat->Prop}{S:Bm}
def RF (K:BH) (S:Bm):Prop:=∀o,o<24->K.L o≠-1->(K.L o).toNat / 8=S.fm->∃t ∈ S.ld,t.o=o
theorem Sit.cmb(h:Sit K G (Xs S))(hC:LU K G S)(hto:S.tt.o=true)(hW:RF K S)(hfar:K.fr.o=true->K.fr.k≠S.fm)(hFv:K.F S.fm≠3)(hb2:bad3 K.F<2){p:Nat}(hp:p / 8=S.tt.k){c:AA.Bn}{s':BM}(k:fO K.s s' G.T ⟨p,24,K.nx,0,false⟩ (AA.wrL c))(hS:JZ K p)(cB:∀b,b<12->(c.B b=true<->K.F b=3\/b=S.fm))(cF:∀i,i<24->c.F i=K.fl i)(cN:c.N=K.nx)(cC:c.C=K.cu)(cT:AA.Zp c){r':Int}{R' N':Nat->Int}(wf:Wf { K with s:=s',r:=r',hR:=R',nx:=K.nx+1 })(wfN:AG.GR R' N' K.hS){L':Nat->Int}{vs' vc':Nat->Nat}(hl:lh K S L' vs' vc') :Sit { K with s:=s',r:=r',hR:=R',hN:=N',ca:=0,nx:=K.nx+1,L:=upd L' 24 p,vs:=upd vs' 24 K.nx,vc:=upd vc' 24 0,F:=upd K.F S.fm 3 } { G with T:=Dj G.T p ⟨p,24,K.nx,0,false⟩ (AA.wrL c),c:=c } No /\(∀o,o<25->upd L' 24 p o≠-1->(upd L' 24 p o).toNat / 8≠S.fm)/\bad3 (upd K.F S.fm 3)=bad3 K.F+1:=by
 have qa:=hC.fm;obtain⟨f4,B',kF,ki⟩:=hC.k12 hto;have La:=hS.free h;have f9:=hS.er.tab h.rep;have f5:=h.wf.nx;have hv:∀x,x≠24->upd vs' 24 K.nx x=vs' x:=fun x hx=>by unfold upd;rw[AI hx]
 have G1:∀x,x≠24->upd vc' 24 0 x=vc' x:=fun x hx=>by unfold upd;rw[AI hx]
 have hL:∀x,x≠24->upd L' 24 p x=L' x:=fun x hx=>by unfold upd;rw[AI hx]
 have wr:upd vs' 24 K.nx 24=K.nx:=by unfold upd;rw[AJ rfl]
 have f8:upd vc' 24 0 24=0:=by unfold upd;rw[AJ rfl]
 have it:upd L' 24 p 24=(p:Int):=by unfold upd;rw[AJ rfl]
 have c3:=Ft K.F qa 3;rw[AI hFv,AJ rfl] at c3;have hg:K.dd=false:=by
  cases e:K.dd
  ·rfl
  ·have:=h.dds.1 e;omega
 have oa:∀b,b<12->(upd K.F S.fm 3 b=3<->K.F b=3\/b=S.fm):=fun b hb=>by
  rcases BX K.F S.fm b 3 with ⟨e1,e2⟩ | ⟨e1,e2⟩ <;> rw[e2]
  ·simp[e1]
  ·simp[e1]
 have p2:∀t ∈ S.ld,t.p≠p:=fun t ht e=>by
  obtain⟨D,d1,_⟩:=hC.dt t ht;rw[e,f9] at d1;cases d1
 have h0:∀o,o<24->L' o≠-1->(∃t ∈ S.ld,t.o=o/\L' o=(t.p:Int)/\vs' o=t.q/\vc' o=t.c)\/((∀t ∈ S.ld,t.o≠o)/\L' o=K.L o/\vs' o=K.vs o/\vc' o=K.vc o/\K.L o≠-1/\(K.L o).toNat / 8≠S.fm):=fun o ho it=>by
  by_cases e:∃t ∈ S.ld,t.o=o
  ·obtain⟨t,ht,rfl⟩:=e;obtain⟨a,b,c⟩:=hl.ld t ht;exact AK ⟨t,ht,rfl,a,b,c⟩
  ·have f3:∀t ∈ S.ld,t.o≠o:=fun t ht e2=>e ⟨t,ht,e2⟩;obtain⟨a,b,c⟩:=hl.no o f3;have hK:K.L o≠-1:=(by rw[<-a];exact it);exact AL ⟨f3,a,b,c,hK,fun x=>e (hW o ho hK x)⟩
 have w2:∀x,x<25->K.L x≠-1->(K.L x).toNat≠p:=fun x hx hL e=>La x hx (by have:=h.wf.lt hx hL;omega);have G2:∀o,o<25->upd L' 24 p o≠-1->(upd L' 24 p o).toNat / 8≠S.fm:=fun o ho no=>by
  by_cases e:o=24
  ·rw[e,it,AP,hp];exact B'
  ·rw[hL o e] at no ⊢;rcases h0 o om no with ⟨t,ht,_,a,_⟩ | ⟨_,a,_,_,_,b⟩
   ·rw[a,AP,(hC.ld t ht).2.2.2.2.2.1];exact B'
   ·rw[a];exact b
 have ar:∀o,o<25->L' o≠(p:Int):=fun o ho e=>by
  by_cases e2:∃t ∈ S.ld,t.o=o
  ·obtain⟨t,ht,rfl⟩:=e2;rw[(hl.ld t ht).1] at e;exact p2 t ht om
  ·rw[(hl.no o (fun t ht e3=>e2 ⟨t,ht,e3⟩)).1] at e;exact La o ho e
 refine⟨{
  wf:=?_
  rep:=k.rep
  sts:=fun b hb=>by
   show 0<=upd K.F S.fm 3 b/\upd K.F S.fm 3 b<=3
   rcases BX K.F S.fm b 3 with ⟨_,e⟩ | ⟨_,e⟩ <;> rw[e]
   ·
    decide
   ·
    exact h.sts b hb
  frs:=fun x hx e=>by
   have e2:upd K.F S.fm 3 (x / 8)=0:=e
   have e3:K.F (x / 8)=0:=by
    rcases BX K.F S.fm (x / 8) 3 with ⟨_,e4⟩ | ⟨_,e4⟩ <;> rw[e4] at e2
    ·
     exact absurd e2 dc
    ·
     exact e2
   exact k.oth.erd (by rintro rfl;rcases hS.F with f | f <;> (rw[f] at e3;exact absurd e3 dc)) (h.frs x hx e3)
  opn:=fun b hb=>by
   show upd K.F S.fm 3 b=1<->_
   rcases BX K.F S.fm b 3 with ⟨e1,e2⟩ | ⟨_,e2⟩ <;> rw[e2]
   ·
    exact⟨fun e=>absurd e dc,fun e=>absurd (e.2.trans e1) (hfar e.1)⟩
   ·
    exact h.opn b hb
  frn:=fun e i hi h8=>k.oth.erd (fun e2=>by
   have e3:8*K.fr.k+i=p:=e2
   have x1:i<8:=h8
   have h1:K.fr.k=p / 8:=om
   have h2:=hS.fr e h1
   have h3:K.fr.i<=i:=hi
   omega) (h.frn e i hi h8)
  liv:=fun x hx no=>?_
  nul:=fun x hx e=>by
   have e2:upd L' 24 p x = -1:=e
   rw[hL x om] at e2
   exact h.nul x hx ((hl.vs hC x).2.2 e2)
  blk:=fun x hx no=>?_
  flo:=fun x hx e=>by
   show K.fl x<((upd vs' 24 K.nx x:Nat):Int)
   have e2:upd L' 24 p x≠-1:=e
   rw[hL x om] at e2
   rw[hv x om,(hl.vs hC x).1]
   exact h.flo x hx (fun e3=>e2 ((hl.vs hC x).2.1 e3))
  old:=fun x t C hT hcd=>?_
  seq:=fun x t C hT=>by
   show t.q<K.nx+1
   rcases Dz hT with ⟨rfl,rfl,rfl⟩ | ⟨hx,ha⟩
   ·
    exact Nat.lt_succ_self _
   ·
    exact Nat.lt_succ_of_lt (h.seq x t C ha)
  fls:=fun x hx=>by
   show K.fl x<((K.nx+1:Nat):Int)
   have:=h.fls x hx
   omega
  sp:=h.sp
  dds:=by
   show K.dd=true<->2<bad3 (upd K.F S.fm 3)
   rw[hg]
   simp
   omega
  cb:=fun b hb e=>(oa b hb).2 ((cB b hb).1 e)
  cf:=cF
  cn:=fun _=>by
   show c.N=((upd vs' 24 K.nx 24:Nat):Int)/\(c.C+8*((0:Nat):Int)) % 96=(K.cu:Int)/\AA.Zp c
   rw[wr]
   have:=h.wf.cu
   exact⟨cN,by rw[cC];omega,cT⟩
  nw:=fun e=>by
   have e2:upd L' 24 p 24 = -1:=e
   rw[it] at e2
   omega
  z24:=h.z24
  lb:=fun x hx no=>by
   show c.B ((upd L' 24 p x).toNat / 8)=false
   have h9:upd L' 24 p x≠-1:=no
   have h8:=G2 x hx h9
   have w1:∀b,b<12->K.F b≠3->b≠S.fm->c.B b=false:=fun b hb h3 hf=>by
    cases e4:c.B b
    ·
     rfl
    ·
     exact((cB b hb).1 e4).elim (fun e=>absurd e h3) (fun e=>absurd e hf)
   by_cases e:x=24
   ·
    rw[e,it,AP,hp]
    exact w1 _ f4 (by rw[kF];decide) B'
   ·
    rw[hL x e] at h9 h8 ⊢
    rcases h0 x om h9 with ⟨t,ht,_,a,_⟩ | ⟨_,a,_,_,b,_⟩
    ·
     rw[a,AP,(hC.ld t ht).2.2.2.2.2.1]
     exact w1 _ f4 (by rw[kF];decide) B'
    ·
     rw[a] at h8 ⊢
     have h7:=(h.wf.lt hx b).1
     exact w1 _ om (fun e3=>by have:=(h.blk x hx b).2 e3;rw[hg] at this;cases this) h8 },G2,om⟩
 ·have f7:∀i,i<25->upd vs' 24 K.nx i<=1099511627775/\(upd L' 24 p i≠-1->1<=upd vs' 24 K.nx i):=fun i hi=>by
   by_cases e:i=24
   ·rw[e,wr];exact⟨f5.2,fun _=>f5.1⟩
   ·rw[hv i e,hL i e,(hl.vs hC i).1];exact⟨h.wf.vs i hi,fun x=>h.wf.vp i hi (fun y=>x ((hl.vs hC i).2.1 y))⟩
  refine⟨k.ok,wf.rr,?_,hl.ok.put 24 ⟨om,by have:=hS.lt;omega⟩ (fun e=>om) (CM ar),fun i hi=>(f7 i hi).1,fun i hi e=>(f7 i hi).2 e,fun i hi=>?_,wf.fl,wf.nx,wf.fr,wf.cu,wf.qu,wfN,wf.tl⟩
  ·show 0<=upd K.F S.fm 3 12/\upd K.F S.fm 3 12<12;rw[BT _ _ om];exact wf.frm
  ·show upd vc' 24 0 i<256;by_cases e:i=24
   ·rw[e,f8];decide
   ·rw[G1 i e];by_cases e2:∃t ∈ S.ld,t.o=i
    ·obtain⟨t,ht,rfl⟩:=e2;rw[(hl.ld t ht).2.2,(hC.ld t ht).2.2.2.2.1];omega
    ·rw[(hl.no i (fun t ht e3=>e2 ⟨t,ht,e3⟩)).2.2];exact h.wf.vc i hi
 ·by_cases e:x=24
  ·subst e;refine⟨false,AA.wrL c,⟨?_,fun e=>(by cases e),fun _=>rfl,?_,fun _=>?_⟩⟩
   ·show Dj G.T p _ _ (upd L' 24 p 24).toNat=some (⟨(upd L' 24 p 24).toNat,24,upd vs' 24 K.nx 24,upd vc' 24 0 24,false⟩,_);rw[it,wr,f8,AP,Ju]
   ·show Gh s' (upd L' 24 p 24).toNat;rw[it,AP];exact k.gd.gh
   ·show Gd s' (upd L' 24 p 24).toNat;rw[it,AP];exact k.gd
  ·have kd:L' x≠-1:=(by rw[<-hL x e];exact no);rcases h0 x om kd with ⟨t,ht,rfl,a,b,c0⟩ | ⟨_,a,b,c0,d,e0⟩
   ·obtain⟨D,d1,d2,d3,d4⟩:=hC.dt t ht;refine⟨t.l,D,⟨?_,d3,fun z=>?_,?_,fun _=>?_⟩⟩
    ·show Dj G.T p _ _ (upd L' 24 p t.o).toNat=some (⟨(upd L' 24 p t.o).toNat,t.o,upd vs' 24 K.nx t.o,upd vc' 24 0 t.o,t.l⟩,D);rw[hL _ e,hv _ e,G1 _ e,a,b,c0,AP,GO _ _ _ (p2 t ht)];exact d1
    ·have:=d4 z;rw[AI e] at this;show D=if t.o=24 then AA.wrL c else G.a t.o;rw[AI e];exact this
    ·show Gh s' (upd L' 24 p t.o).toNat;rw[hL _ e,a,AP];exact k.oth.gh (p2 t ht) d2.gh
    ·show Gd s' (upd L' 24 p t.o).toNat;rw[hL _ e,a,AP];exact k.oth.gd (p2 t ht) d2
   ·obtain⟨l,D,h6⟩:=h.liv x hx d;refine⟨l,D,⟨?_,h6.lost,fun z=>?_,?_,fun z=>?_⟩⟩
    ·show Dj G.T p _ _ (upd L' 24 p x).toNat=some (⟨(upd L' 24 p x).toNat,x,upd vs' 24 K.nx x,upd vc' 24 0 x,l⟩,D);rw[hL _ e,hv _ e,G1 _ e,a,b,c0,GO _ _ _ (w2 x hx d)];exact h6.tab
    ·have:=h6.data z;rw[AI e] at this;show D=if x=24 then AA.wrL c else G.a x;rw[AI e];exact this
    ·show Gh s' (upd L' 24 p x).toNat;rw[hL _ e,a];exact k.oth.gh (w2 x hx d) h6.gh
    ·show Gd s' (upd L' 24 p x).toNat;rw[hL _ e,a];exact k.oth.gd (w2 x hx d) (h6.gd z)
 ·show upd K.F S.fm 3 ((upd L' 24 p x).toNat / 8)≠0/\(upd K.F S.fm 3 ((upd L' 24 p x).toNat / 8)=3->K.dd=true);rw[BT _ _ (G2 x hx no)];by_cases e:x=24
  ·rw[e,it,AP,hp,kF];exact⟨dc,fun e=>absurd e dc⟩
  ·have kd:L' x≠-1:=(by rw[<-hL x e];exact no);rw[hL x e];rcases h0 x om kd with ⟨t,ht,rfl,a,_⟩ | ⟨_,a,_,_,d,_⟩
   ·rw[a,AP,(hC.ld t ht).2.2.2.2.2.1,kF];exact⟨dc,fun e=>absurd e dc⟩
   ·rw[a];exact h.blk x hx d
 ·show upd L' 24 p t.o≠-1/\(t.q<upd vs' 24 K.nx t.o\/t.q=upd vs' 24 K.nx t.o/\((x:Int)=upd L' 24 p t.o\/t.c=(upd vc' 24 0 t.o+1) % 256/\c.B (x / 8)=false/\(upd K.F S.fm 3 (x / 8)=3\/False)));rcases Dz hT with ⟨rfl,rfl,rfl⟩ | ⟨hx,ha⟩
  ·show upd L' 24 x 24≠-1/\(_\/K.nx=upd vs' 24 K.nx 24/\((x:Int)=upd L' 24 x 24\/_));rw[it,wr];exact⟨om,AL ⟨rfl,AK rfl⟩⟩
  ·have hc:=h.rep.ent x t C ha;by_cases e:t.o=24
   ·rw[e,it,wr];exact⟨om,AK (h.seq x t C ha)⟩
   ·have f2:t.o<24:=by
     have:=hc.2.may.1.2.1;omega
    obtain⟨t7,x0⟩:=hcd.resolve_left e;have w':c.B (x / 8)=false:=t7;have hk:¬ (K.F (x / 8)=3\/x / 8=S.fm):=fun e3=>by
     rw[(cB (x / 8) om).2 e3] at w';cases w'
    have G3:G.c.B (x / 8)=false:=by
     cases e4:G.c.B (x / 8)
     ·rfl
     ·exact absurd (AK (h.cb (x / 8) om e4)) hk
    obtain⟨r1,r2⟩:=h.old x t C ha (AL ⟨G3,x0⟩);have f6:L' t.o≠-1:=fun e5=>r1 ((hl.vs hC t.o).2.2 e5);rw[hL _ e,hv _ e,(hl.vs hC t.o).1];refine⟨f6,r2.imp id fun ⟨q1,q2⟩=>⟨q1,AK ?_⟩⟩;rcases q2 with q2 | ⟨_,_,q3⟩
    ·rcases h0 t.o f2 f6 with ⟨u,hu,e1,_⟩ | ⟨_,a,_⟩
     ·exfalso;obtain⟨_,b1,b2,_⟩:=hC.ld u hu;rw[e1] at b2;apply hk;right;rw[<-b2,<-q2,AP]
     ·rw[a];exact q2
    ·rcases q3 with q3 | ⟨_,q5⟩
     ·exact absurd (AK q3) hk
     ·have f1:=hC.all hto x t C q5 ha;rw[(hl.ld t f1).1,hc.2.pl]
end
def Told (K:BH) (G:Bk):Prop:=∀b,b<12->K.F b=3->G.c.B b=true
structure Stp (m d:Nat) (K K':BH) (G G':Bk):Prop where
 a:G'.a=G.a
 z:G'.z=G.z
 fl:K'.fl=K.fl
 lv:∀o,o<24->(K'.L o = -1<->K.L o = -1)
 l24:K.L 24≠-1->K'.L 24≠-1
 vs:∀o,o<24->K'.vs o=K.vs o
 fx:VE K K'
 b3:∀b,b<12->K.F b=3->K'.F b=3
 bd:bad3 K'.F=bad3 K.F+d
 nx:K.nx<=K'.nx
 rd:RdB m K K'
theorem Stp.refl(K:BH)(G:Bk):Stp 0 0 K K G G:=⟨rfl,rfl,rfl,fun _ _=>Iff.rfl,id,fun _ _=>rfl,VE.refl K,fun _ _=>id,rfl,AM _,RdB.refl K⟩
theorem Stp.trans{m d n e:Nat}{K K' K'':BH}{G G' G'':Bk}(h:Stp m d K K' G G')(k:Stp n e K' K'' G' G''):Stp (m+n) (d+e) K K'' G G'':=
 ⟨k.a.trans h.a,k.z.trans h.z,k.fl.trans h.fl,fun o ho=>(k.lv o ho).trans (h.lv o ho),fun x=>k.l24 (h.l24 x),fun o ho=>(k.vs o ho).trans (h.vs o ho),h.fx.trans k.fx,fun b hb x=>k.b3 b hb (h.b3 b hb x),by rw[k.bd,h.bd];omega,AY h.nx k.nx,h.rd.trans k.rd⟩
theorem Stp.mono{m n d:Nat}{K K':BH}{G G':Bk}(h:Stp m d K K' G G')(e:m<=n):Stp n d K K' G G':=
 ⟨h.a,h.z,h.fl,h.lv,h.l24,h.vs,h.fx,h.b3,h.bd,h.nx,h.rd.mono e⟩
theorem Pz.stp{K K':BH}{G G':Bk}(h:Pz K K')(hg:G'.a=G.a/\G'.z=G.z){k m:Nat}(hr:RdB k K K')(hk:k<=m):Stp m 0 K K' G G':=
 ⟨hg.1,hg.2,h.fl,fun o _=>by rw[h.L],fun x=>by rw[h.L];exact x,fun o _=>by rw[h.vs],h.fx,fun b hb x=>(h.b3 b hb).1 x,h.bd,Ak h.nx.symm,hr.mono hk⟩
theorem Iy(K:BH)(b:Int):∃F' fr',lvK K b={ K with F:=F',fr:=fr' }:=by
 unfold lvK clK;split
 ·split
  ·exact⟨_,_,rfl⟩
  ·exact⟨K.F,K.fr,rfl⟩
 ·exact⟨K.F,K.fr,rfl⟩
theorem MH{K:BH}{G:Bk}{X:Nat->Prop}(h:Sit K G X)(b:Int){x:Nat}(hx:K.F x≠1):(lvK K b).F x=K.F x:=by
 unfold lvK;split
 ·cases e:K.fr.o
  ·rw[DW e]
  ·rw[h.clK_eq e];show upd K.F K.fr.k 2 x=K.F x;rw[BT];rintro rfl;exact hx (h.frk e).2
 ·rfl
section
variable {K:BH}{G:Bk}{X:Nat->Prop}{S:Bm}
theorem Sit.st0(h:Sit K G X){b:Nat}(hb:b<12)(h3:K.F b≠3)(h0:K.F b≠0)(hfar:K.fr.o=true->K.fr.k≠b)(hl:∀o,o<25->K.L o≠-1->(K.L o).toNat / 8≠b)(he:∀p,p / 8=b->Erd K.s p) :∃F',stK K b 0={ K with F:=F',fr:=K.fr,dd:=K.dd }/\Sit { K with F:=F',fr:=K.fr,dd:=K.dd } G X/\F' b=0/\fre F'=fre K.F+1/\bad3 F'=bad3 K.F/\(∀x,x<12->x≠b->F' x=K.F x):=by
 have c0:=Fs K.F hb 0;have c3:=Ft K.F hb 0;rw[AI h0,AJ rfl] at c0;rw[AI h3,AI (show ¬ (0:Int)=3 by decide)] at c3;refine⟨upd K.F b 0,?_,h.reF _ _ _ ?_ ?_ ?_ ?_ ?_ ?_ ?_ ?_ ?_,Bb _ _ _,om,om,fun x _ hx=>BT _ _ hx⟩
 ·unfold stK;rw[Dk hb dc (AK h3)]
 ·refine h.wf.F' ?_ h.wf.fr _;rw[BT _ _ om];exact h.wf.frm
 ·intro x hx;rcases BX K.F b x 0 with ⟨_,e⟩ | ⟨_,e⟩ <;> rw[e]
  ·decide
  ·exact h.sts x hx
 ·intro p hp e;rcases BX K.F b (p / 8) 0 with ⟨e1,_⟩ | ⟨_,e2⟩
  ·exact he p e1
  ·rw[e2] at e;exact h.frs p hp e
 ·intro x hx;rcases BX K.F b x 0 with ⟨e1,e2⟩ | ⟨_,e2⟩ <;> rw[e2]
  ·exact⟨fun e=>absurd e dc,fun e=>absurd (e.2.trans e1) (hfar e.1)⟩
  ·exact h.opn x hx
 ·exact h.frn
 ·intro o ho hL;rw[BT _ _ (hl o ho hL)];exact h.blk o ho hL
 ·intro x hx e;rw[BT]
  ·exact e
  ·rintro rfl;exact h3 e
 ·exact fun b _ e=>AL e
 ·rw[show bad3 (upd K.F b 0)=bad3 K.F by omega];exact h.dds
theorem Uz(h:Sit K G (Xs S))(hC:LU K G S)(hW:Whole K S)(hT:Told K G)(h3:K.F S.fm≠3)(h0:K.F S.fm≠0){s':BM}{R' N':Nat->Int}(hwf:Wf { K with s:=s',hR:=R',hN:=N' })(hch:∀j,s'.ch j=if 32*S.fm<=j/\j<32*S.fm+32 then Gk else K.s.ch j) :∃K',cmK { K with s:=s',hR:=R',hN:=N' } S 0=(K',0)/\Sit K' { G with T:=clrT G.T S.fm } No/\K'.s=s'/\K'.hR=R'/\K'.F S.fm=0/\fre K'.F=fre K.F+1/\bad3 K'.F=bad3 K.F/\(∀b,b<12->(K'.F b=3<->K.F b=3)) /\(∀o,o<25->K'.L o≠-1->(K'.L o).toNat / 8≠S.fm)/\(∀o,(K'.L o = -1<->K.L o = -1)/\K'.vs o=K.vs o)/\K'.fl=K.fl/\K'.nx=K.nx/\K'.dd=K.dd/\K'.ca=K.ca/\VE K K'/\(S.tt.o=true->K'.fr=S.tt)/\(S.tt.o=false->K'.fr=K.fr\/K'.fr=noF):=by
 obtain⟨L',it,no,e1,hl⟩:=hC.cml h { K with s:=s',hR:=R',hN:=N' } rfl rfl rfl;obtain⟨s1,n1⟩:=h.cme hC hW hT hwf.chip hch hwf hl;have w':∀p,p / 8=S.fm->Erd s' p:=fun p hp k hk=>by rw[hch,AJ om];rfl
 have hv:=hC.fm;obtain⟨s2,f2,b2,q2⟩:=s1.lv (S.fm:Nat);have far2:=NM { K with s:=s',hR:=R',hN:=N',L:=L',vs:=it,vc:=no } S.fm;obtain⟨F2,ar,e2⟩:=Iy { K with s:=s',hR:=R',hN:=N',L:=L',vs:=it,vc:=no } (S.fm:Nat);have ha:(lvK { K with s:=s',hR:=R',hN:=N',L:=L',vs:=it,vc:=no } (S.fm:Nat)).F S.fm≠0:=by
  unfold lvK;split
  ·cases eo:K.fr.o
   ·rw[DW (by exact eo)];exact h0
   ·rw[s1.clK_eq (by exact eo)];show upd K.F K.fr.k 2 S.fm≠0;rcases BX K.F K.fr.k S.fm 2 with ⟨_,e⟩ | ⟨_,e⟩ <;> rw[e]
    ·decide
    ·exact h0
  ·exact h0
 have hx:S.tt.o=true->(lvK { K with s:=s',hR:=R',hN:=N',L:=L',vs:=it,vc:=no } (S.fm:Nat)).F S.tt.k=2:=fun ho=>by
  rw[MH s1 _ (by show K.F S.tt.k≠1;rw[(hC.k12 ho).2.2.1];decide)];exact(hC.k12 ho).2.2.1
 have La:(lvK { K with s:=s',hR:=R',hN:=N',L:=L',vs:=it,vc:=no } (S.fm:Nat)).fr=K.fr\/(lvK { K with s:=s',hR:=R',hN:=N',L:=L',vs:=it,vc:=no } (S.fm:Nat)).fr=noF:=by
  unfold lvK clK;split
  ·split
   ·exact AL rfl
   ·exact AK rfl
  ·exact AK rfl
 have h6:(lvK { K with s:=s',hR:=R',hN:=N',L:=L',vs:=it,vc:=no } (S.fm:Nat)).F S.fm≠3:=fun e=>h3 ((q2 S.fm hv).2 e);rw[e2] at s2 f2 b2 q2 far2 ha hx La h6;obtain⟨F3,e3,s3,z3,f3,b3,o3⟩:=s2.st0 hv h6 ha far2 n1 (fun p hp=>w' p hp);have hg:cmK { K with s:=s',hR:=R',hN:=N' } S 0=({ (if S.tt.o then stK { clK { K with s:=s',hR:=R',hN:=N',L:=L',vs:=it,vc:=no,F:=F3,fr:=ar,dd:=K.dd } with fr:=S.tt } S.tt.k 1 else { K with s:=s',hR:=R',hN:=N',L:=L',vs:=it,vc:=no,F:=F3,fr:=ar,dd:=K.dd }) with mv:=wrap64 ((if S.tt.o then stK { clK { K with s:=s',hR:=R',hN:=N',L:=L',vs:=it,vc:=no,F:=F3,fr:=ar,dd:=K.dd } with fr:=S.tt } S.tt.k 1 else { K with s:=s',hR:=R',hN:=N',L:=L',vs:=it,vc:=no,F:=F3,fr:=ar,dd:=K.dd }).mv+S.ld.length) },0):=by
  unfold cmK;rw[e1];dsimp only;rw[AI (show ¬ (0:Nat)≠0 by decide),e2,e3]
 rw[hg];cases ho:S.tt.o
 ·refine⟨_,rfl,(s3.alk ⟨rfl,rfl,rfl,rfl,rfl,rfl,rfl,rfl,rfl,rfl,rfl,rfl,⟨rfl,rfl,rfl,rfl,rfl,rfl⟩⟩ (s3.wf.mv' _)),rfl,rfl,z3,?_,?_,fun b hb=>?_,n1,fun o=>?_,rfl,rfl,rfl,rfl,⟨rfl,rfl,rfl,rfl,rfl,rfl⟩,fun e=>(by cases e),fun _=>La⟩
  ·show fre F3=_;rw[f3];have:fre F2=fre K.F:=f2;show fre F2+1=_;omega
  ·show bad3 F3=_;rw[b3];exact b2
  ·show F3 b=3<->K.F b=3;by_cases e:b=S.fm
   ·rw[e,z3];exact⟨fun e=>absurd e dc,fun e=>absurd e h3⟩
   ·rw[o3 b hb e];exact(q2 b hb).symm
  ·obtain⟨a,b,c⟩:=hl.vs hC o;exact⟨⟨c,b⟩,a⟩
 ·obtain⟨kd,hc,kF,ki⟩:=hC.k12 ho;have h1:F3 S.tt.k=2:=by
   rw[o3 _ kd hc];exact hx ho
  obtain⟨F4,e4,s4,f4,b4,q4,z4,-⟩:=s3.fin ho kd h1 ki (fun i hi h8 k hk=>by
   show (s'.ch (4*(8*S.tt.k+i)+k)).is=false
   rw[hch,AI om]
   exact hC.er ho i hi h8 k hk)
  rw[AJ rfl,e4];refine⟨_,rfl,(s4.alk ⟨rfl,rfl,rfl,rfl,rfl,rfl,rfl,rfl,rfl,rfl,rfl,rfl,⟨rfl,rfl,rfl,rfl,rfl,rfl⟩⟩ (s4.wf.mv' _)),rfl,rfl,?_,?_,?_,fun b hb=>?_,n1,fun o=>?_,rfl,rfl,rfl,rfl,⟨rfl,rfl,rfl,rfl,rfl,rfl⟩,fun _=>rfl,fun e=>(by cases e)⟩
  ·exact(z4 S.fm hv).1 z3
  ·show fre F4=_;rw[f4];show fre F3=_;rw[f3];have:fre F2=fre K.F:=f2;show fre F2+1=_;omega
  ·show bad3 F4=_;rw[b4];show bad3 F3=_;rw[b3];exact b2
  ·show F4 b=3<->K.F b=3;rw[<-q4 b hb];show F3 b=3<->K.F b=3;by_cases e:b=S.fm
   ·rw[e,z3];exact⟨fun e=>absurd e dc,fun e=>absurd e h3⟩
   ·rw[o3 b hb e];exact(q2 b hb).symm
  ·obtain⟨a,b,c⟩:=hl.vs hC o;exact⟨⟨c,b⟩,a⟩
end
section
variable (K:BH)
theorem RG:RdB 0 K (clK K):=by
 unfold clK;split <;> exact RdB.same (fun _=>rfl) rfl
theorem LJ(b:Int):RdB 0 K (lvK K b):=by
 unfold lvK;split
 ·exact RG K
 ·exact RdB.refl K
theorem jH(b s:Int):RdB 0 K (stK K b s):=RdB.same (fun _=>rfl) rfl
theorem jI(b:Int):RdB 0 K (spK K b):=(LJ K b).trans (RdB.same (fun _=>rfl) rfl)
theorem jJ:RdB 0 K (opK K).1:=by
 unfold opK;split <;> exact RdB.same (fun _=>rfl) rfl
theorem IP(t:CP):RdB 0 K (layK K t).1:=RdB.same (fun _=>rfl) rfl
theorem Yg(S:Bm)(o:Nat):RdB 0 K (tiK K S o).1:=by
 unfold tiK;split
 ·exact RdB.refl K
 ·split
  ·exact RdB.refl K
  ·exact RdB.same (fun _=>rfl) rfl
theorem jK(o:Nat):RdB 1 K (coK K o).1:=by
 unfold coK;split
 ·exact(RdB.refl K).mono om
 ·have:=YY K (K.L o).toNat;generalize rdK K (K.L o).toNat=x at *
  dsimp only;split
  ·exact this
  ·split
   ·exact this
   ·split <;> exact this
theorem Yh(bd:Bool):∀(l:List Nat) (K:BH) (S:Bm),RdB (2*l.length) K (cpK bd l K S).1:=by
 intro l
 induction l with
 | nil=>intro K S;exact RdB.refl K
 | cons o l ih=>
  intro K S;rw[cpK,An];split
  ·exact(ih K S).mono om
  ·have h1:=jK K o;generalize coK K o=c at *
   dsimp only;split
   ·exact h1.mono om
   ·have h2:=Yg c.1 S o;generalize tiK c.1 S o=t at *
    split
    ·exact(h1.trans h2).mono om
    ·have h3:=jG t.1 ⟨t.2.2.1,o,t.1.vs o,(t.1.vc o+1) % 256,c.2.2.1⟩ c.2.1;generalize prM t.1 ⟨t.2.2.1,o,t.1.vs o,(t.1.vc o+1) % 256,c.2.2.1⟩ c.2.1=p at *
     split
     ·exact((h1.trans h2).trans h3).mono om
     ·exact(((h1.trans h2).trans h3).trans (ih p.1 _)).mono om
theorem jL:∀(l:List CP) (K:BH),RdB 0 K (cmL l K).1:=by
 intro l
 induction l with
 | nil=>intro K;exact RdB.refl K
 | cons t l ih=>
  intro K;rw[cmL];split
  ·exact IP K t
  ·exact(IP K t).trans (ih _)
theorem Yi(S:Bm)(st:Int):RdB 0 K (cmK K S st).1:=by
 unfold cmK;have h1:=jL S.ld K;generalize cmL S.ld K=x at *
 dsimp only;split
 ·exact h1
 ·have h2:=(h1.trans (LJ x.1 S.fm)).trans (jH (lvK x.1 S.fm) S.fm st);generalize stK (lvK x.1 S.fm) S.fm st=K1 at *
  split
  ·exact(h2.trans (RG K1)).trans (RdB.same (fun _=>rfl) rfl)
  ·exact h2.trans (RdB.same (fun _=>rfl) rfl)
theorem RH(H:GS)(K:BH)(p o:Nat):RdB 1 K (frK H K p o).1:=by
 unfold frK;split
 ·exact(RdB.refl K).mono om
 ·have h1:RdB 0 K (sqK K):=RdB.same (fun _=>rfl) rfl;have h2:=YZ (sqK K) ⟨p,o,K.nx,0,false⟩ (H (sqK K) K.nx);generalize prK (sqK K) ⟨p,o,K.nx,0,false⟩ (H (sqK K) K.nx)=x at *
  dsimp only;split
  ·exact h1.trans h2
  ·split
   ·exact(h1.trans h2).trans (RdB.same (fun _=>rfl) rfl)
   ·exact h1.trans h2
theorem RI(S:Bm):RdB 1 K (cbK K S).1:=by
 unfold cbK;have h1:=Yg K S 24;generalize tiK K S 24=t at *
 dsimp only;split
 ·exact h1.mono om
 ·have h2:=RH (bdH S.fm) t.1 t.2.2.1 24;generalize frK (bdH S.fm) t.1 t.2.2.1 24=f at *
  split
  ·exact h1.trans h2
  ·exact(h1.trans h2).trans (Yi f.1 _ 3)
theorem jM(S:Bm):RdB (2*((AB.ofL K.L S.fm).map Int.toNat).length+1) K (tyK K S).1:=by
 unfold tyK;dsimp only;split
 ·exact(RdB.refl K).mono om
 ·have h1:=Yh (S.fd || (S.rt && bearK K)) ((AB.ofL K.L S.fm).map Int.toNat) K { S with tt:=noF,ld:=[] };generalize cpK (S.fd || (S.rt && bearK K)) ((AB.ofL K.L S.fm).map Int.toNat) K { S with tt:=noF,ld:=[] }=x at *
  split
  ·exact h1.mono om
  ·split
   ·exact h1.trans (RI x.1 x.2.1)
   ·have h2:=Ya x.1 S.fm;generalize erK x.1 S.fm=e at *
    split
    ·exact((h1.trans h2).trans (Yi e.1 x.2.1 0)).mono om
    ·split
     ·exact(h1.trans h2).mono om
     ·have h3:=LJ e.1 S.fm;generalize lvK e.1 S.fm=K2 at *
      split
      ·exact((h1.trans h2).trans h3).mono om
      ·exact(((h1.trans h2).trans h3).trans (RI K2 _)).mono om
end
end Go.Proofs.YtmdpnpjacfedpaaGreat
