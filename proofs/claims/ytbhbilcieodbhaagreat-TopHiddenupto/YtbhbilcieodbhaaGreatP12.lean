/-
  Lemmas.
-/
import Derived.Test.YtbhbilcieodbhaaGreatOm
import Derived.Test.YtbhbilcieodbhaaGreatP11
import Derived.Below
import Derived.DataReads
import Derived.Deep.Slices
set_option maxRecDepth 1000000
set_option maxHeartbeats 16000000
set_option linter.unusedSimpArgs false
namespace Go.Proofs.YtbhbilcieodbhaaGreat.AG
open List
open Go.Proofs.Tryz
open Go.RowKit
open AA
theorem KB(w:Wd)(a:Option Addr)(cap:Nat)(of ab:Int):Calls prog 136 #[.slice a 0 cap,.int .i64 of,.int .i64 ab] w fun e w'=>e=.returned (.tuple #[.agg (fA f0),.bool false])/\Chg No w w':=Xb w a cap of ab
theorem gu(w:Wd)(c:Bu) :Calls prog 212 #[.slice none 0 0,.agg (ckA c)] w fun e w'=>e=.returned (.agg (ints (lv [] c) 25).toArray)/\Chg No w w':=by
 have hs:Sl w (.slice none 0 0) ([]:List By):=(Ow.nil w 0).sl;have K0:=Ck.new w c;have HK0:=BB K0;have HG0:Hid (Chg No w (w.alloc (.cells (ckA c) 142))):=(Chg.refl _ w).alloc _;have HS:=BB (hs.new HG0.out);have S33:Hid ((prog.info? 140).map (·.size)=some (bools c.B 12).length):=by show _=_;rw[BS];exact fK
 obtain⟨B,HBB⟩:∃B,Hid (B=w.heap.size):=⟨_,rfl⟩;clear hs K0;go_enter func212,ntmps212;go_wp2_with (refine Eh rfl rfl (w.heap.size+1) (World.size_alloc _ _) ?_);intro w1 A1 G1 S1;have HK1:=BB (HK0.out.chg G1 (fun h=>h));have HS1:=BB (HS.out.new G1);have HG1:=BB (HG0.out.trans G1);have HA1:=BB A1;have HP1:=BB (HK1.out.partB);have c23:=Sa w1 none 0 [] 0 rfl c HS1.out dc 0 rfl;clear A1 G1 HK0 HG0 HS;rw[<-HBB.out] at HK1 HA1 HP1 S1;rw[<-HBB.out];go_wp2_with (first | (refine wpList_load_mid rfl 140 (.tmp 11) rfl B 25 rfl _ _ HP1.out underlying140 rfl S33.out ?_) | (go_at_call 236;refine c23.mono ?_;rintro e w2 ⟨a',cap',rfl,hS2,G2⟩;have HS2:=BB hS2;have HSb0:=BB (hS2.apart);have HK2:=BB (HK1.out.chg G2 (fun h=>h));have HA2:=BB (HA1.out.chg G2 (fun h=>h));have HG2:=BB (HG1.out.trans G2);have hs2:=G2.size;clear G2 hS2 c23) | (refine Eh rfl rfl w2.heap.size rfl ?_));intro w3 A3 G3 S3;have HK3:=BB (HK2.out.chg G3 (fun h=>h));have HA3:=BB (HA2.out.chg G3 (fun h=>h));have HS3:=BB (HS2.out.new G3);have HG3:=BB (HG2.out.trans G3);have HD3:=BB A3;clear A3 G3 HK1 HA1 HP1 HG1 HS1 HK2 HA2 HG2 HS2 S33;obtain⟨D,HDD⟩:∃D,Hid (D=w2.heap.size):=⟨_,rfl⟩;rw[<-HDD.out] at HD3 S3 hs2 HSb0;rw[<-HDD.out];have hDw:w.heap.size+2<=D:=by have:=HBB.out;omega
 have hBD:B+1<D:=by have:=HBB.out;omega
 have hDs:D<w3.heap.size:=om
 have HSb:Hid ((([]:List By).filter (gd c)).length≠0->∀k,(Value.slice a' 0 cap').ownBlock=some k->¬ k=D):=BB HSb0.out;have C24:Aside _:=fun (i:Nat) (h:i<25) (W:Wd)=>SZ c i h W;go_wp2_with fail
 go_loopg [14] 25 (fun kx s14 wr=>∃(i:Nat) (F:Nat->Int),s14=.int .i64 i/\i<=25/\25 - i<=kx/\Hid (A25 wr D F)/\Hid (∀j,j<i->F j=lv [] c j)/\Hid (Chg (·=D) w3 wr))
 case atStart=>exact⟨0,fun _=>0,rfl,om,om,HD3.out,fun j hj=>absurd hj (Nat.not_lt_zero _),Chg.refl _ _⟩
 case round=>
 obtain⟨i,F,rfl,hin,hkx,HDr,HF,HGr⟩:=hrel;by_cases hlt:i<25
 ·have hltz:(i:Int)<25:=om
  obtain⟨d1,d2⟩:=HDr.out.cell i hlt;have HD1:=BB (HDr.out.set i (-1));have HG1:Hid (Chg (·=D) w3 (wr.setCell ⟨D,i,none⟩ (.int .i64 (-1)))):=BB (HGr.out.setCell (AK rfl) i _);have c24:=C24.out i hlt;have HKr:=BB (HK3.out.chg HG1.out om);have hsr:(wr.setCell ⟨D,i,none⟩ (.int .i64 (-1))).heap.size=wr.heap.size:=by simp[World.setCell]
  go_upto_region 7 with fail
  generalize wr.setCell ⟨D,i,none⟩ (.int .i64 (-1))=wa at *
  have ho:newest (([]:List By).filter (gd c)) i (flo c i)=none:=rfl;have HLv:=BB (Z2 ho);have C11:Aside _:=fun W=>KB W a' cap' i (flo c i);go_wp2_with (first | (refine Bf rfl (.tmp 3) rfl B rfl HKr.out ?_) | (go_at_call 237;refine(c24 _).mono ?_;rintro e w4 ⟨rfl,G4⟩;have HG4:=BB (HG1.out.trans' G4 (fun _ _ h=>h.elim));have HD4:=BB (HD1.out.chg G4 (fun h=>h));have HS4:=BB ((HS3.out.chg HG4.out HSb.out));clear G4) | (go_at_call 136;refine(C11.out _).mono ?_;rintro e w5 ⟨rfl,G5⟩;have HG5:=BB (HG4.out.trans' G5 (fun _ _ h=>h.elim));have HD5:=BB (HD4.out.chg G5 (fun h=>h));clear G5) | (refine CA rfl rfl w5.heap.size rfl ?_));intro w6 K6 G6 S6;have HK6:=BB K6;clear K6;go_wp2_with (refine wpList_store_fo rfl (.tmp 8) (.tmp 26) rfl w5.heap.size rfl rfl HK6.out ?_);intro w7 K7 G7;have hD5:=HD5.out.lt;have G67:=G6.trans' G7 (fun k hk h=>om);have HG7:=BB (HG5.out.trans' G67 (fun _ _ h=>h.elim));have HD7:=BB (HD5.out.chg G67 (fun h=>h));clear K7 G6 G7 G67 HK6 S6;go_wp2
  go_roundg (25 - (i+1))
  case measure=>omega
  case rel=>
   refine⟨i+1,_,by simp,om,AM _,HD7.out,fun j hj=>?_,HG7.out⟩;by_cases e:j=i
   ·subst e;simp[upd,HLv.out]
   ·simp[upd,e];exact HF.out j om
 ·have hltz:¬ (i:Int)<25:=om
  have HDl:=BB (HDr.out.congr (g:=lv [] c) (fun j hj=>HF.out j om));have HAr:=BB (HA3.out.chg HGr.out om);go_wp2_with (first | (refine J3 rfl (.tmp 6) rfl D rfl HDl.out ?_) | (refine Ic rfl (.tmp 4) (.tmp 34) rfl (B+1) rfl rfl HAr.out ?_));intro w8 A8 G8;have HA8:=BB A8;have HG8:=BB ((HG3.out.trans' HGr.out fun k hk h=>om).trans' G8 fun k hk h=>by have:=HBB.out;omega);clear A8 G8;go_wp2;refine AZ (PU rfl _ rfl HA8.out) rfl ?_;exact⟨rfl,HG8.out⟩
end Go.Proofs.YtbhbilcieodbhaaGreat.AG
namespace Go.Proofs.YtbhbilcieodbhaaGreat
open List
open Go.Proofs.Tryz
open Go.RowKit
theorem Sh(w:Wd)(c:AA.Bu){b:Bool}(hb:b=true<->km [] c) :Calls prog 179 #[.slice none 0 0,.agg (AA.ckA c)] w fun e w'=>e=.returned (.bool b)/\Chg No w w':=by
 have G0:Chg No w (w.alloc (.cells (AA.ckA c) 142)):=(Chg.refl _ w).alloc _;have HG0:=BB G0;have HB0:=BB (AA.Ck.new w c);have HB:=BB hb;clear hb G0;go_enter func179,ntmps179;go_wp2_with fail;generalize w.alloc (.cells (AA.ckA c) 142)=w0 at *
 go_loopg [8] 25 (fun kx s8 wr=>∃i:Nat,s8=.int .i64 i/\i<=25/\25 - i<=kx/\Hid (Chg No w wr)/\Hid (AA.Ck wr w.heap.size c))
 case atStart=>exact⟨0,rfl,om,om,HG0.out,HB0.out⟩
 case round=>
  obtain⟨i,rfl,hi,hkx,HG,HC⟩:=hrel;by_cases hlt:i<25
  ·have hltz:(i:Int)<25:=om;have hnw:=AG.KB wr none 0 (i:Nat) 1099511627774;have hlw:=HC.out.lt;go_wp2_with fail;refine hnw.mono ?_;rintro e w2 ⟨rfl,g2⟩;have HG2:=BB (HG.out.trans g2);have HC2:=BB (HC.out.chg g2 (fun f=>f));have hz2:w.heap.size<w2.heap.size:=HC2.out.lt;clear hnw g2 HG HC;go_wp2_with (refine AG.CA rfl rfl w2.heap.size rfl ?_);intro w3 F3 g3 z3;have HF3:=BB F3;have HG3:=BB (HG2.out.trans g3);have HC3:=BB (HC2.out.chg g3 (fun f=>f));clear F3 g3 HG2 HC2;go_wp2_with (refine AG.wpList_store_fo rfl (.tmp 6) (.tmp 15) rfl w2.heap.size rfl rfl HF3.out ?_);intro w4 F4 g4;have HG4:=BB (HG3.out.trans' g4 (fun k hk e=>om));have HC4:=BB (HC3.out.chg g4 om);clear F4 g4 HG3 HC3 HF3;go_wp2
   go_roundg (25 - (i+1))
   case measure=>omega
   case rel=>exact⟨i+1,by simp,om,AM _,HG4.out,HC4.out⟩
  ·have hltz:¬ (i:Int)<25:=om;have e:i=25:=om;subst e;have hs2:=Sf w.heap.size 0;have hct:=Ph wr w.heap.size c HC.out 1099511627775 (b:=b) ⟨fun e=>(HB.out.1 e).elim (fun ⟨_,_,x⟩=>absurd rfl x) id,fun e=>HB.out.2 (AL e)⟩;go_wp2_with fail;refine hct.mono ?_;rintro e wr ⟨rfl,rfl⟩;clear hct;go_wp2;go_ret;exact⟨rfl,HG.out⟩
def sbS (B:Nat->Bool) (L:Nat->Int) (b:Nat):Int:=if B b=true then 3 else if 0<AB.lvK L 96 b then 2 else 0
def sbF (S:Nat->Int):Nat->Nat->(Nat->Int)->(Nat->Int)
 | 0,_,F=>F
 | n+1,i,F=>sbF S n (i+1) (AD.setF F (i:Nat) (S i))
theorem aL(B:Nat->Bool)(L:Nat->Int)(b:Nat):0<=sbS B L b/\sbS B L b<=3:=by
 unfold sbS;split
 ·omega
 ·split <;> omega
theorem Nt(A:Ad)(w:Wd)(K:BC)(h:CoreAt A w K)(c:AA.Bu)(hF:∀b,b<12->K.F b=0) :Calls prog 181 #[.pointer (some ⟨A.c,0,none⟩),.agg (AA.ckA c)] w fun e w'=>e=.returned (errV 0)/\CoreAt A w' { K with F:=sbF (sbS c.B K.L) 12 0 K.F }/\Chg (Cor A) w w':=by
 have HG0:Hid (Chg No w (w.alloc (.cells (AA.ckA c) 142))):=(Chg.refl _ w).alloc _;have HB0:=BB (AA.Ck.new w c);have HK0:=BB (h.chg0 HG0.out);have HNA:Hid (¬ Cor A w.heap.size):=h.apart (AM _);have q:=Bt;have g:=BL;have HF:=BB hF;obtain⟨X,HX⟩:∃X,Hid (sbF (sbS c.B K.L) 12 0 K.F=X):=⟨_,rfl⟩;rw[HX.out];obtain⟨c2,-⟩:=HK0.out.cMap;have hlv:=AB.Ge _ A.ma K.L HK0.out.map;have hz0:=HB0.out.lt;clear h hF;go_enter func181,ntmps181;go_wp2_with fail;generalize w.alloc (.cells (AA.ckA c) 142)=w0 at *
 refine hlv.mono ?_;rintro e w1 ⟨rfl,I1,G1⟩;have HI:=BB I1;have HK1:=BB (HK0.out.chg0 G1);have HG1:=BB ((Chg.cor0 (A:=A) HG0.out).trans (Chg.cor0 (A:=A) G1));have HB1:=BB (HB0.out.chg G1 (fun f=>f));have HN:Hid (¬ Cor A w0.heap.size):=HK0.out.apart (AM _);clear hlv c2 I1 G1 HG0 HB0 HK0;go_wp2_with fail
 go_loopg [15] 12 (fun kx s15 wr=>∃(i:Nat) (F:Nat->Int),s15=.int .i64 i/\i<=12/\12 - i<=kx/\Hid (CoreAt A wr { K with F:=F })/\Hid (Chg (Cor A) w wr)/\Hid (IB wr w0.heap.size 3 12 (fun k=>(AB.lvK K.L 96 k:Nat)))/\Hid (AA.Ck wr w.heap.size c)/\Hid (∀b,i<=b->b<12->F b=0)/\Hid (sbF (sbS c.B K.L) (12 - i) i F=X))
 case atStart=>exact⟨0,K.F,rfl,om,om,HK1.out,HG1.out,HI.out,HB1.out,fun b _ hb=>HF.out b hb,HX.out⟩
 case round=>
  obtain⟨i,F,rfl,hi,hkx,HC,HG,HJ,HB,HZ,HE⟩:=hrel;by_cases hlt:i<12
  ·have hltz:(i:Int)<12:=om;obtain⟨ci,-⟩:=HJ.out.cell i hlt;have cb:=HB.out.B i hlt;obtain⟨m,hm⟩:∃m,12 - i=m+1:=⟨11 - i,om⟩;have hm2:12 - (i+1)=m:=om;have HE2:Hid (sbF (sbS c.B K.L) m (i+1) (AD.setF F (i:Nat) (sbS c.B K.L i))=X):=by
    have:=HE.out;rw[hm,sbF] at this;exact this
   have hst:=AD.set_v wr A.po F HC.out.pool (i:Nat) (sbS c.B K.L i);have hr:=aL c.B K.L i;have hsc:AD.setC F (i:Nat) (sbS c.B K.L i)=0:=by
    unfold AD.setC;have:=HZ.out i (AM _) hlt;rw[AI om,AP,this,AI (by simp)]
   rw[hsc] at hst;have hwf:=HC.out.wf.st (i:Nat) (sbS c.B K.L i);have HWF:Hid (Wf { K with F:=AD.setF F (i:Nat) (sbS c.B K.L i) }):=hwf;have HM2:=BB hm2;have HZ2:Hid (∀b,i+1<=b->b<12->AD.setF F (i:Nat) (sbS c.B K.L i) b=0):=by
    intro b hb hb2;unfold AD.setF;rw[AJ hsc,AP];unfold upd;rw[AI om];exact HZ.out b om hb2
   obtain⟨d1,-⟩:=HC.out.cPool;have q0:∀w,(binOp .neq 33 (errV 0) .nilIface).run prog w=.ok (.bool false) w:=fun w=>q 0 w;replace ci:wr.cell? ⟨w0.heap.size,i,none⟩=some (.int .i64 ((AB.lvK K.L 96 i:Nat):Int)):=ci;have hsv:sbS c.B K.L i=if c.B i=true then 3 else if 0<AB.lvK K.L 96 i then 2 else 0:=rfl;clear hm hm2 HE hr hsc hwf q HZ;generalize AD.setF F (i:Nat) (sbS c.B K.L i)=F2 at *
   generalize sbS c.B K.L i=sv at *
   generalize AB.lvK K.L 96 i=lv at *
   generalize c.B i=bb at *
   have fin:∀w3:World,IB w3 A.po 167 13 F2->Chg (·=A.po) wr w3->CoreAt A w3 { K with F:=F2 }/\Chg (Cor A) w w3/\IB w3 w0.heap.size 3 12 (fun k=>(AB.lvK K.L 96 k:Nat))/\AA.Ck w3 w.heap.size c:=fun _ h3 g3=>
    ⟨HC.out.setPool h3 g3 HWF.out,HG.out.trans g3.cor_po,HJ.out.chg g3.cor_po HN.out,HB.out.chg g3.cor_po HNA.out⟩
   have HFI:=BB fin;clear fin;cases bb
   ·by_cases h0:0<lv
    ·have h0z:(0:Int)<(lv:Nat):=om;rw[AI (by simp),AJ h0] at hsv;subst hsv;clear h0;go_wp2_with fail;refine hst.mono ?_;rintro e w3 ⟨rfl,h3,g3⟩;obtain⟨k3,e3,i3,b3⟩:=HFI.out w3 h3 g3;have HK3:=BB k3;have HG3:=BB e3;have HI3:=BB i3;have HB3:=BB b3;clear hst h3 g3 k3 e3 i3 b3 HC HG HJ HB HFI;go_wp2
     go_roundg (12 - (i+1))
     case measure=>omega
     case rel=>exact⟨i+1,F2,by simp,om,AM _,HK3.out,HG3.out,HI3.out,HB3.out,HZ2.out,by rw[HM2.out];exact HE2.out⟩
    ·have h0z:¬ (0:Int)<(lv:Nat):=om;rw[AI (by simp),AI h0] at hsv;subst hsv;clear h0;go_wp2_with fail;refine hst.mono ?_;rintro e w3 ⟨rfl,h3,g3⟩;obtain⟨k3,e3,i3,b3⟩:=HFI.out w3 h3 g3;have HK3:=BB k3;have HG3:=BB e3;have HI3:=BB i3;have HB3:=BB b3;clear hst h3 g3 k3 e3 i3 b3 HC HG HJ HB HFI;go_wp2
     go_roundg (12 - (i+1))
     case measure=>omega
     case rel=>exact⟨i+1,F2,by simp,om,AM _,HK3.out,HG3.out,HI3.out,HB3.out,HZ2.out,by rw[HM2.out];exact HE2.out⟩
   ·rw[AJ rfl] at hsv;subst hsv;by_cases h0:0<lv
    ·have h0z:(0:Int)<(lv:Nat):=om;clear h0;go_wp2_with fail;refine hst.mono ?_;rintro e w3 ⟨rfl,h3,g3⟩;obtain⟨k3,e3,i3,b3⟩:=HFI.out w3 h3 g3;have HK3:=BB k3;have HG3:=BB e3;have HI3:=BB i3;have HB3:=BB b3;clear hst h3 g3 k3 e3 i3 b3 HC HG HJ HB HFI;go_wp2
     go_roundg (12 - (i+1))
     case measure=>omega
     case rel=>exact⟨i+1,F2,by simp,om,AM _,HK3.out,HG3.out,HI3.out,HB3.out,HZ2.out,by rw[HM2.out];exact HE2.out⟩
    ·have h0z:¬ (0:Int)<(lv:Nat):=om;clear h0;go_wp2_with fail;refine hst.mono ?_;rintro e w3 ⟨rfl,h3,g3⟩;obtain⟨k3,e3,i3,b3⟩:=HFI.out w3 h3 g3;have HK3:=BB k3;have HG3:=BB e3;have HI3:=BB i3;have HB3:=BB b3;clear hst h3 g3 k3 e3 i3 b3 HC HG HJ HB HFI;go_wp2
     go_roundg (12 - (i+1))
     case measure=>omega
     case rel=>exact⟨i+1,F2,by simp,om,AM _,HK3.out,HG3.out,HI3.out,HB3.out,HZ2.out,by rw[HM2.out];exact HE2.out⟩
  ·have hltz:¬ (i:Int)<12:=om;have e:i=12:=om;subst e;have HE3:Hid (F=X):=HE.out;go_wp2;go_ret;rw[<-HE3.out];exact⟨rfl,HC.out,HG.out⟩
section
variable {w:Wd}{b:Nat}{o:Oper}{a:Act}(A:Ad)(K:BC)
theorem aM(w:Wd):(binOp .neq 33 .nilIface .nilIface).run prog w=.ok (.bool false) w:=kr
theorem KC(of ab:Int):AG.newest [] of ab=none:=by
 have e2:AG.kj [] of ab=[]:=eq_nil_iff_forall_not_mem.2 fun f hf=>by cases (AG.Zx.1 hf).1
 unfold AG.newest;rw[e2];rfl
theorem gw(c:AA.Bu):AG.lv [] c=fun _=>-1:=by
 funext i;unfold AG.lv;rw[show List.filter (AG.gd c) []=[] from rfl,KC]
theorem kK:AG.jc [] AA.ck0=1:=dc
theorem kL:false=true<->km [] AA.ck0:=by
 constructor
 ·intro e;cases e
 ·rintro (⟨o,_,h⟩ | ⟨i,_,h⟩)
  ·exact absurd (KC _ _) h
  ·exact absurd (show (0:Int)=1099511627775 from h) dc
theorem kN:AG.jY AA.ck0:=⟨fun _ _=>by show _<=(0:Int)/\(0:Int)<=_;decide,by show _<=(0:Int)/\(0:Int)<=_;decide⟩
theorem kO:AA.U3 AA.ck0:=(AA.QV AA.ck0 ⟨fun _ _=>by show _<=(0:Int)/\(0:Int)<=_;decide,by show _<=(0:Int)/\(0:Int)<=_;decide,by show _<=(0:Int)/\(0:Int)<=_;decide,fun _ _=>by show _<=(0:Int)/\(0:Int)<=_;decide,fun _ _=>by show _<=(0:Int)/\(0:Int)<=_;decide⟩).2 ⟨fun _ _=>by show 0<=(0:Int)/\(0:Int)<=_;decide,by show 0<=(0:Int)/\(0:Int)<=_;decide,by show 0<=(0:Int)/\(0:Int)<=_;decide,fun _ _=>by show 0<=(0:Int)/\(0:Int)<=_;decide,fun _ _=>by show 0<=(0:Int)/\(0:Int)<=_;decide⟩
theorem aN(f:Nat->Int)(i:Nat)(hi:i<25)(w:Wd):(Instr.index 38 (.agg (ints f 25).toArray) (.int .i64 i)).run prog w=.ok (.int .i64 (f i)) w:=by
 have h:=BU f 25 i hi;generalize ints f 25=L at *
 simp[Instr.index,run_underlying underlying38,asIntOf,go_sem,hi,h,i6]
theorem MG(w:Wd)(K:BC)(h:CoreAt A w K):Calls prog 180 #[.pointer (some ⟨A.c,0,none⟩),.slice none 0 0,.agg (AA.ckA AA.ck0)] w fun e w'=>e=.returned .nilIface/\CoreAt A w' K/\Chg No w w':=by
 have HB0:=BB (AA.Ck.new w AA.ck0);have HG0:Hid (Chg No w (w.alloc (.cells (AA.ckA AA.ck0) 142))):=(Chg.refl _ w).alloc _;have HK0:=BB (h.chg0 HG0.out);clear h;have hix:=aN (fun _=>-1);go_enter func180,ntmps180;go_wp2_with (refine AA.Bf rfl (.tmp 5) rfl w.heap.size rfl HB0.out ?_);generalize w.alloc (.cells (AA.ckA AA.ck0) 142)=w0 at *
 have hlv:=AG.gu w0 AA.ck0;rw[gw] at hlv;refine hlv.mono ?_;rintro e w1 ⟨rfl,G1⟩;have HG1:=BB (HG0.out.trans G1);have HK1:=BB (HK0.out.chg0 G1);clear G1 hlv HG0 HK0;go_wp2_with fail
 go_loopg [15] 25 (fun kx s15 wr=>∃i:Nat,s15=.int .i64 i/\i<=25/\25 - i<=kx/\wr=w1)
 case atStart=>exact⟨0,rfl,om,om,rfl⟩
 case round=>
  obtain⟨i,rfl,hi,hkx,rfl⟩:=hrel;by_cases hlt:i<25
  ·have hltz:(i:Int)<25:=om;have hi0:(0:Int)<=i:=om;have hx:=hix i hlt;go_wp2
   go_roundg (25 - (i+1))
   case measure=>omega
   case rel=>exact⟨i+1,by simp,om,AM _,rfl⟩
  ·have hltz:¬ (i:Int)<25:=om;go_wp2;go_ret;exact⟨rfl,HK1.out,HG1.out⟩
theorem gx:(prog.info? 116).map (·.size)=some 24:=kr
theorem gy(h:w.rangeAt b 0 (AA.ckL AA.ck0)):w.rangeAt b 0 (ints AA.ck0.F 24):=fun j v hv=>h j v (by
 have hj:=(List.getElem?_eq_some_iff.1 hv).1
 unfold AA.ckL
 rw[Af hj]
 exact hv)
theorem Ck.part{c:AA.Bu}(h:AA.Ck w b c):w.rangeAt b 0 (AA.ckL c):=fun j v hv=>by
 rw[AW]
 exact h.cell j hv
def corL (A:Ad) (K:BC):List Value:=(List.range 101).map (kc A K)
theorem Nu:(corL A K).length=101:=by simp[corL]
theorem Xc(w:Wd)(A:Ad)(s:BG)(tl:List Nat->Int->Pg):(Instr.build 124 #[(0,.pointer (some ⟨A.m,0,none⟩)),(1,.pointer (some ⟨A.po,0,none⟩)),(2,.pointer (some ⟨A.ma,0,none⟩)),(4,.agg (ints AA.ck0.F 24).toArray),(5,.int .i64 1),(6,.bool false),(8,.pointer (some ⟨A.pa,0,none⟩)),(10,.pointer (some ⟨A.h,0,none⟩))]).run prog w=.ok (.agg (corL A (K0 s tl)).toArray) w:=kr
theorem KL{x1 x2 x3 x4 x5 x6 x7 x8:Operand}{A:Ad}{s:BG}{tl:List Nat->Int->Pg}(ho:o.op=.build 124 #[(0,x1),(1,x2),(2,x3),(4,x4),(5,x5),(6,x6),(8,x7),(10,x8)])(h1:a.eval x1=.pointer (some ⟨A.m,0,none⟩))(h2:a.eval x2=.pointer (some ⟨A.po,0,none⟩))(h3:a.eval x3=.pointer (some ⟨A.ma,0,none⟩))(h4:a.eval x4=.agg (ints AA.ck0.F 24).toArray)(h5:a.eval x5=.int .i64 1)(h6:a.eval x6=.bool false)(h7:a.eval x7=.pointer (some ⟨A.pa,0,none⟩))(h8:a.eval x8=.pointer (some ⟨A.h,0,none⟩)):(execOp a.eval o).run prog w=.ok (.value (.agg (corL A (K0 s tl)).toArray)) w:=by
 have hb:=Xc w A s tl;unfold execOp;rw[ho];simp only[map_toArray,map_cons,map_nil,h1,h2,h3,h4,h5,h6,h7,h8];generalize Instr.build 124 #[(0,.pointer (some ⟨A.m,0,none⟩)),(1,.pointer (some ⟨A.po,0,none⟩)),(2,.pointer (some ⟨A.ma,0,none⟩)),(4,.agg (ints AA.ck0.F 24).toArray),(5,.int .i64 1),(6,.bool false),(8,.pointer (some ⟨A.pa,0,none⟩)),(10,.pointer (some ⟨A.h,0,none⟩))]=b at *
 simp[hb]
theorem Nv{ops:Array Oper}{K:Act->World->Prop}{Q:Exit->Act->World->Prop}{E:Prop}(hgd:o.guard=none)(x:Operand)(ho:o.op=.box 124 x){C:Array Value}(hx:a.eval x=.agg C)(h:K (a.put o.dst (.pointer (some ⟨w.heap.size,0,none⟩))) (w.alloc (.cells C 124))):if Region.wanted o (yielded ops a.tmps)=true then Oper.wp prog o a w K Q else E:=by
 rw[AJ (by simp[Region.wanted,hgd])];unfold Oper.wp;simp[execOp,ho,hx,Instr.box,newVar,Value.cells,newRow];exact h
theorem aO(w:Wd)(A:Ad)(K:BC)(hA:A.c=w.heap.size)(hq:K.qu=[]):AE.QB (w.alloc (.cells (corL A K).toArray 124)) A.c 124 101 (kc A K) 83 K.qu:=by
 rw[hq,hA];refine⟨fun _=>0,⟨⟨(corL A K).toArray,by show (w.heap.push _)[w.heap.size]?=_;simp,by simp[Nu],fun i hi=>?_⟩,dc⟩,rfl,fun i hi=>by cases hi⟩;have e:(corL A K).toArray[i]?=some (kc A K i):=by simp[corL,hi]
 rw[e];by_cases c:83<=i/\i<96
 ·obtain⟨k,rfl⟩:∃k,i=83+k:=⟨i - 83,om⟩;rw[AE.Bw _ _ _ _ _ om];unfold kc;rw[AI om,AI om,AI om,AI om,AI om,AI om,AI om,AI om,AI om,AI om,AI om,AJ om]
 ·rw[AE.CL _ _ _ _ _ om]
theorem lP:sbF (sbS AA.ck0.B (fun _=>-1)) 12 0 (fun _=>0)=fun _=>0:=by
 have hS:∀b,b<12->sbS AA.ck0.B (fun _=>-1) b=0:=fun b hb=>by
  unfold sbS;rw[AI (by show ¬ false=true;decide),AI];rw[AB.Lf _ hb];have:=Jt Nj b;intro e;cases hl:AB.ofL (fun _=>-1) b with
  | nil=>rw[hl] at e;exact absurd e dc
  | cons x l=>
   have h2:=(this.1 x.toNat (by rw[hl];simp)).2.1;exact h2 rfl
 have:∀n i,i+n<=12->sbF (sbS AA.ck0.B (fun _=>-1)) n i (fun _=>0)=fun _=>0:=by
  intro n
  induction n with
  | zero=>intro i _;rfl
  | succ n ih=>
   intro i hi;rw[sbF,hS i om];have e:AD.setF (fun _=>0) (i:Nat) 0=fun _=>0:=by
    unfold AD.setF;split
    ·exact jF _
    ·rfl
   rw[e];exact ih (i+1) om
 exact this 12 0 (AM _)
def Far (A:Ad) (g n:Nat):Prop:=A.g=g/\n<=A.c/\n<=A.m/\n<=A.p/\n<=A.q/\n<=A.b/\n<=A.po/\n<=A.ma/\n<=A.pa/\n<=A.h
theorem Sj(g:Nat)(s:BG)(hs:s.Ok)(tl:List Nat->Int->Pg)(htl:∀L n,ToldR L n (tl L n))(w:Wd)(h:BE w g s) :Calls prog 140 #[.pointer (some ⟨g,0,none⟩),.agg (AA.ckA AA.ck0),.slice none 0 0] w fun e w'=>∃A,Far A g w.heap.size/\e=.returned (.tuple #[.pointer (some ⟨A.c,0,none⟩),errV 0])/\CoreAt A w' (K0 s tl)/\Chg (·=g) w w':=by
 have HC:=BB h;have HWF:=BB (ja hs htl);have HB0:=BB (AA.Ck.new w AA.ck0);have HG0:Hid (Chg No w (w.alloc (.cells (AA.ckA AA.ck0) 142))):=(Chg.refl _ w).alloc _;have q:=aM;clear h hs htl;go_enter func140,ntmps140;go_wp2_with (refine AA.Bf rfl (.tmp 4) rfl w.heap.size rfl HB0.out ?_);generalize w.alloc (.cells (AA.ckA AA.ck0) 142)=w0 at *
 refine(AA.Kj w0 AA.ck0 kO).mono ?_;rintro e w1 ⟨gp,rfl,-,-,G1⟩;have HG1:=BB (HG0.out.trans G1);have HB1:=BB (HB0.out.chg G1 (fun f=>f));have k37:w1.cell? ⟨w.heap.size,37,none⟩=some (.int .i64 0):=HB1.out.C;clear G1 HG0 HB0;go_wp2_with fail;refine(AE.new_yes w1 0 dc).mono ?_;rintro e w2 ⟨rfl,P2,G2⟩;have HP2:=BB P2;have HG2:=BB (HG1.out.trans G2);have HB2:=BB (HB1.out.chg G2 (fun f=>f));have hz2:w.heap.size<=w1.heap.size:=HG1.out.size;have hw2:w1.heap.size<w2.heap.size:=HP2.out.lt;clear P2 G2 HG1 HB1 k37;have HNW:Hid (∀u,AA.Ck u w.heap.size AA.ck0->Calls prog 175 #[.slice (some ⟨w.heap.size,38,none⟩) 12 12,.slice (some ⟨w.heap.size,50,none⟩) 12 12] u fun e w'=>e=.returned (.tuple #[.pointer (some ⟨u.heap.size,0,none⟩),.nilIface])/\AF.HB w' u.heap.size 170 (AF.lim 65535 (fun _=>0)) (AF.lim 65535 (fun _=>0)) (AF.lim 255 (fun _=>0))/\Chg No u w'):=fun u hu=>
  AF.new_yes u (some ⟨w.heap.size,38,none⟩) (some ⟨w.heap.size,50,none⟩) 12 12 12 12 (fun _=>0) (fun _=>0) (AL ⟨_,_,rfl,hu.lt,fun i hi=>hu.R i hi⟩) (AL ⟨_,_,rfl,hu.lt,fun i hi=>hu.S i hi⟩) ((AF.FW _ _).2 ⟨rfl,fun _ _=>Int.le_refl _⟩) ((AF.FW _ _).2 ⟨rfl,fun _ _=>Int.le_refl _⟩)
 have k38:w2.drew.cell? ⟨w.heap.size,38,none⟩=some (.int .i64 0):=HB2.out.R 0 dc;go_wp2_with fail
 go_region_held3 (fun wx=>wx.cell? ⟨w.heap.size,38,none⟩=some (.int .i64 0))
  (first | exact k38 | exact k38')
  (first | (go_at_call 175;refine(HNW.out _ (HB2.out.chg ((Chg.refl No w2).drewN 1) (fun f=>f))).mono ?_;rintro e w3 ⟨rfl,H3,G3⟩;have k38':=(HB2.out.chg (((Chg.refl No w2).drewN 1).trans G3) (fun f=>f)).R 0 dc;have HH3:=BB H3;have HG3:=BB (((Chg.refl No w2).drewN 1).trans G3)))
 have HB3:=BB (HB2.out.chg HG3.out (fun f=>f));have HP3:=BB (HP2.out.chg HG3.out (fun f=>f));have HGa:=BB (HG2.out.trans HG3.out);have hh3:w2.heap.size<w3.heap.size:=HH3.out.lt;go_wp2_with fail;have HBD:Hid (AA.Ck w3.drew w.heap.size AA.ck0):=HB3.out;have HGD:Hid (Chg No w w3.drew):=HGa.out.drew;refine wp_region_noPanic ?_;refine wp_region_held_drew (S:=fun wx=>wx.rangeAt w.heap.size 0 (AA.ckL AA.ck0)) kr (Ck.part HBD.out) (fun hHeld=>?_);refine Ab (i:=0) rfl kr kr kr (fun _ _ _ h=>h) (AK ⟨rfl,fun _ _=>rfl⟩) hHeld ?_;simp only[Act.put,getElem_toArray,getElem_cons_zero,setIfInBounds_toArray,set_cons_zero,set_cons_succ];refine Ab (i:=4) rfl kr kr kr (fun _ _ _ h=>h) (AK ⟨rfl,fun _ _=>rfl⟩) hHeld ?_
 try simp only[Act.put,bu]
 refine Ab (i:=5) rfl kr kr kr (fun _ _ _ h=>h) (yieldsIf_load_mid rfl 116 _ rfl w.heap.size 0 rfl (ints AA.ck0.F 24) _ (fun w hw=>gy hw) underlying116 rfl (by rw[BD];exact gx)) hHeld ?_
 try simp only[Act.put,bu]
 refine Ab (i:=6) rfl kr kr kr (fun _ _ _ h=>h) (AK ⟨rfl,fun _ _=>rfl⟩) hHeld ?_
 try simp only[Act.put,bu]
 refine Ab (i:=7) rfl kr kr kr (fun _ _ _ h=>h) (yieldsIf_load_mid rfl 142 _ rfl w.heap.size 0 rfl (AA.ckL AA.ck0) _ (fun w hw=>hw) underlying142 rfl (by rw[AA.Fw];exact AA.size26)) hHeld ?_
 try simp only[Act.put,bu]
 refine Ab (i:=9) rfl kr kr kr (fun _ _ _ h=>h) (AK ⟨rfl,fun _ _=>rfl⟩) hHeld ?_
 try simp only[Act.put,bu]
 refine Ab (i:=10) rfl kr kr kr (fun _ _ _ h=>h) (yieldsIf_load_mid rfl 142 _ rfl w.heap.size 0 rfl (AA.ckL AA.ck0) _ (fun w hw=>hw) underlying142 rfl (by rw[AA.Fw];exact AA.size26)) hHeld ?_
 try simp only[Act.put,bu]
 refine Ab (i:=12) rfl kr kr kr (fun _ _ _ h=>h) (AK ⟨rfl,fun _ _=>rfl⟩) hHeld ?_
 try simp only[Act.put,bu]
 refine Ab (i:=13) rfl kr kr kr (fun _ _ _ h=>h) (AK ⟨rfl,fun _ _=>rfl⟩) hHeld ?_
 try simp only[Act.put,bu]
 refine wpAnyH_ready (rs:=[1]) kr (by simp) ?_;refine AllReadyH.cons rfl (fun K' hK=>?_) AllReadyH.nil;go_simp;refine(Mw g _).mono ?_;rintro e w5 ⟨m,p,q,b,rfl,hlt5,hM5,G5⟩;have HM5:=BB hM5;have HG5:=BB (HGD.out.trans G5);have HL5:=BB hlt5;have hz35:w3.heap.size<=w5.heap.size:=G5.size;have G35:Hid (Chg No w3 w5):=((Chg.refl No w3).drewN 1).trans G5;refine hK.out _ _ (Ck.part (HBD.out.chg G5 (fun f=>f))) (fun hHeld=>?_);have HB5:=BB (HBD.out.chg G5 (fun f=>f));clear hK K' hM5 hlt5 G5
 try simp only[Act.put,bu]
 refine wpAnyH_ready (rs:=[2]) kr (by simp) ?_;refine AllReadyH.cons rfl (fun K' hK=>?_) AllReadyH.nil;go_simp;refine(AD.GE _).mono ?_;rintro e w6 ⟨rfl,hP6,G6⟩;have HP6:=BB hP6;have HG6:=BB G6;refine hK.out _ _ (Ck.part (HB5.out.chg G6 (fun f=>f))) (fun hHeld=>?_);have HB6:=BB (HB5.out.chg G6 (fun f=>f));clear hK K' hP6 G6
 try simp only[Act.put,bu]
 refine wpAnyH_ready (rs:=[3]) kr (by simp) ?_;refine AllReadyH.cons rfl (fun K' hK=>?_) AllReadyH.nil;go_simp;refine(AB.GE _).mono ?_;rintro e w7 ⟨rfl,hQ7,G7⟩;have HQ7:=BB hQ7;have HG7:=BB G7;refine hK.out _ _ (Ck.part (HB6.out.chg G7 (fun f=>f))) (fun hHeld=>?_);have HB7:=BB (HB6.out.chg G7 (fun f=>f));clear hK K' hQ7 G7
 try simp only[Act.put,bu]
 refine wpAnyH_ready (rs:=[8]) kr (by simp) ?_;refine AllReadyH.cons rfl (fun K' hK=>?_) AllReadyH.nil;go_simp;refine(AG.Wk w7 none 0 [] 0 rfl (AG.Ow.nil w7 0).sl dc AA.ck0 kN).mono ?_;rintro e w8 ⟨rfl,G8⟩;have HG8:=BB G8;refine hK.out _ _ (Ck.part (HB7.out.chg G8 (fun f=>f))) (fun hHeld=>?_);have HB8:=BB (HB7.out.chg G8 (fun f=>f));clear hK K' G8;rw[kK]
 try simp only[Act.put,bu]
 refine wpAnyH_ready (rs:=[11]) kr (by simp) ?_;refine AllReadyH.cons rfl (fun K' hK=>?_) AllReadyH.nil;go_simp;refine(Sh w8 AA.ck0 (b:=false) kL).mono ?_;rintro e w9 ⟨rfl,G9⟩;have HG9:=BB G9;refine hK.out _ _ (Ck.part (HB8.out.chg G9 (fun f=>f))) (fun hHeld=>?_);have HB9:=BB (HB8.out.chg G9 (fun f=>f));clear hK K' G9
 try simp only[Act.put,bu]
 refine Ab (i:=14) rfl kr kr kr (fun _ _ _ h=>h) (AK ⟨rfl,fun _ _=>KL (A:=⟨w9.heap.size,m,g,p,q,b,w5.heap.size,w6.heap.size,w1.heap.size,w2.heap.size⟩) (s:=s) (tl:=tl) rfl rfl rfl rfl rfl rfl rfl rfl rfl⟩) hHeld ?_
 try simp only[Act.put,bu]
 refine wpAnyH_ready (rs:=[15]) kr (by simp) ?_;refine AllReadyH.cons rfl (fun K' hK=>?_) AllReadyH.nil;refine Nv rfl (.tmp 57) rfl rfl ?_;refine hK.out _ _ (Ck.part (HB9.out.alloc _)) (fun hHeld=>?_);clear hK K'
 try simp only[Act.put,bu]
 refine Ab (i:=16) rfl kr kr kr (fun _ _ _ h=>h) (AK ⟨rfl,fun _ _=>rfl⟩) hHeld ?_
 try simp only[Act.put,bu]
 clear hHeld;refine wpAnyH_done kr ?_ _;refine NoPanic.normal ?_;have G510:Chg No w5 (w9.alloc (.cells (corL ⟨w9.heap.size,m,g,p,q,b,w5.heap.size,w6.heap.size,w1.heap.size,w2.heap.size⟩ (K0 s tl)).toArray 124)):=(((HG6.out.trans HG7.out).trans HG8.out).trans HG9.out).alloc _;have hsz5:w3.heap.size<=w5.heap.size/\w.heap.size<=w3.heap.size:=⟨hz35,HGa.out.size⟩;have hsz9:w5.heap.size<=w9.heap.size/\w5.heap.size<=w6.heap.size:=⟨(((HG6.out.trans HG7.out).trans HG8.out).trans HG9.out).size,HG6.out.size⟩;have HK:Hid (CoreAt ⟨w9.heap.size,m,g,p,q,b,w5.heap.size,w6.heap.size,w1.heap.size,w2.heap.size⟩ (w9.alloc (.cells (corL ⟨w9.heap.size,m,g,p,q,b,w5.heap.size,w6.heap.size,w1.heap.size,w2.heap.size⟩ (K0 s tl)).toArray 124)) (K0 s tl)):=by
  obtain⟨lm,lp,lq,lb⟩:=HM5.out.lts;have el:AF.lim 65535 (fun _=>0)=fun _=>0:=by funext i;show min (0:Int) 65535=0;decide
  have el2:AF.lim 255 (fun _=>0)=fun _=>0:=by funext i;show min (0:Int) 255=0;decide
  have hH:=HH3.out;rw[el,el2] at hH;refine⟨aO w9 _ _ rfl rfl,⟨(G510.block m lm (fun f=>f)).trans HM5.out.1,HM5.out.2.other (G510.block b lb (fun f=>f)) (G510.block q lq (fun f=>f)) (G510.block p lp (fun f=>f))⟩,HC.out.chg (HG5.out.trans G510) (fun f=>f),HP6.out.chg (((HG7.out.trans HG8.out).trans HG9.out).alloc _) (fun f=>f),IB.chg HQ7.out ((HG8.out.trans HG9.out).alloc _) (fun f=>f),IB.chg HP3.out ((G35.out.trans G510)) (fun f=>f),IB.chg hH ((G35.out.trans G510)) (fun f=>f),HWF.out⟩
 have HB10:=BB (HB9.out.alloc (.cells (corL ⟨w9.heap.size,m,g,p,q,b,w5.heap.size,w6.heap.size,w1.heap.size,w2.heap.size⟩ (K0 s tl)).toArray 124));have HG10:=BB (HG5.out.trans G510);have HFAR:Hid (Far ⟨w9.heap.size,m,g,p,q,b,w5.heap.size,w6.heap.size,w1.heap.size,w2.heap.size⟩ g w.heap.size):=by
  obtain⟨l1,l2,l3,l4⟩:=HL5.out;have l1':w3.heap.size<=m:=l1;have l2':w3.heap.size<=p:=l2;have l3':w3.heap.size<=q:=l3;have l4':w3.heap.size<=b:=l4;exact⟨rfl,by show w.heap.size<=w9.heap.size;omega,by show w.heap.size<=m;omega,by show w.heap.size<=p;omega,by show w.heap.size<=q;omega,by show w.heap.size<=b;omega,by show w.heap.size<=w5.heap.size;omega,by show w.heap.size<=w6.heap.size;omega,by show w.heap.size<=w1.heap.size;omega,by show w.heap.size<=w2.heap.size;omega⟩
 generalize w9.alloc (.cells (corL ⟨w9.heap.size,m,g,p,q,b,w5.heap.size,w6.heap.size,w1.heap.size,w2.heap.size⟩ (K0 s tl)).toArray 124)=w10 at *
 clear HM5 HP6 HQ7 HG6 HG7 HG8 HG9 HB5 HB6 HB7 HB8 HB9 HG5 HL5 HBD HGD HH3 HG3 HB3 HP3 HGa HB2 HP2 HG2 HNW HC HWF G510 G35;go_wp2_with (refine AA.Bf rfl (.tmp 4) rfl w.heap.size rfl HB10.out ?_);refine(MG _ w10 _ HK.out).mono ?_;rintro e w11 ⟨rfl,K11,G11⟩;have HK11:=BB K11;have HG11:=BB (HG10.out.trans G11);have HB11:=BB (HB10.out.chg G11 (fun f=>f));clear K11 G11 HK HG10 HB10;go_wp2_with (refine AA.Bf rfl (.tmp 4) rfl w.heap.size rfl HB11.out ?_);refine(Nt _ w11 _ HK11.out AA.ck0 (fun _ _=>rfl)).mono ?_;rintro e w12 ⟨rfl,K12,G12⟩;have HK12:=BB K12;have HG12:Hid (Chg (·=g) w w12):=(HG11.out.mono (fun _ _ f=>f.elim)).trans' G12 (fun k hk e=>by
  obtain⟨f0,f1,f2,f3,f4,f5,f6,f7,f8,f9⟩:=HFAR.out
  rcases e with e | e | e | e | e | e | e | e
  ·
   omega
  ·
   omega
  ·
   exact e
  ·
   omega
  ·
   omega
  ·
   omega
  ·
   omega
  ·
   omega)
 clear K12 G12;go_wp2;go_ret2;refine⟨_,HFAR.out,rfl,?_,HG12.out⟩;have:=HK12.out;have e5:({ K0 s tl with F:=sbF (sbS AA.ck0.B (K0 s tl).L) 12 0 (K0 s tl).F }:BC)=K0 s tl:=by
  show ({ K0 s tl with F:=sbF (sbS AA.ck0.B (fun _=>-1)) 12 0 (fun _=>0) }:BC)=K0 s tl;rw[lP];rfl
 rw[e5] at this;exact this
theorem Qp(g:Nat)(w:Wd):(binOp .eql 24 (.pointer (some ⟨g,0,none⟩)) (.pointer none)).run prog w=.ok (.bool false) w:=kr
theorem aP(g:Nat)(s:BG)(hs:s.Ok)(tl:List Nat->Int->Pg)(htl:∀L n,ToldR L n (tl L n))(w:Wd)(h:BE w g s) :Calls prog 102 #[.pointer (some ⟨g,0,none⟩),.agg (AA.ckA AA.ck0),.slice none 0 0] w fun e w'=>∃A,Far A g w.heap.size/\e=.returned (.tuple #[.pointer (some ⟨A.c,0,none⟩),.nilIface])/\CoreAt A w' (K0 s tl)/\Chg (·=g) w w':=by
 have HB0:=BB (AA.Ck.new w AA.ck0);have HG0:Hid (Chg No w (w.alloc (.cells (AA.ckA AA.ck0) 142))):=(Chg.refl _ w).alloc _;have hsz:(w.alloc (.cells (AA.ckA AA.ck0) 142)).heap.size=w.heap.size+1:=World.size_alloc _ _;have hbg:=Sj g s hs tl htl (w.alloc (.cells (AA.ckA AA.ck0) 142)) (h.chg HG0.out (fun f=>f));have q:=Bt;have q0:∀w,(binOp .neq 33 (errV 0) .nilIface).run prog w=.ok (.bool false) w:=fun w=>q 0 w;have gq:=BL;have HS:=BB hsz;clear h hs htl hsz q;go_enter func102,ntmps102;go_wp2_with (refine AA.Bf rfl (.tmp 4) rfl w.heap.size rfl HB0.out ?_);refine hbg.mono ?_;rintro e w1 ⟨A,hF,rfl,hK,hG⟩;have HK:=BB hK;have HG:=BB ((HG0.out.mono (T:=(·=g)) (fun _ _ f=>f.elim)).trans hG);have HF:Hid (Far A g w.heap.size):=by
  obtain⟨f0,f1,f2,f3,f4,f5,f6,f7,f8,f9⟩:=hF;have:=HS.out;exact⟨f0,om,om,om,om,om,om,om,om,om⟩
 clear hbg hK hG hF;go_wp2;go_ret2;exact⟨A,HF.out,rfl,HK.out,HG.out⟩
end
theorem aQ(w:Wd):Calls prog 135 #[.slice none 0 0] w fun e w'=>e=.returned (.slice none 0 0)/\w'=w:=by
 have q:∀w:World,(binOp .eql 144 (.slice none 0 0) (.slice none 0 0)).run prog w=.ok (.bool true) w:=fun w=>kr
 go_enter func135,ntmps135;go_wp2;go_ret;exact⟨rfl,rfl⟩
theorem Nw(B:Nat)(v:Value)(w:Wd)(h:Sg w B v) :Calls prog 101 #[.pointer (some ⟨B,0,none⟩)] w fun e w'=>e=.returned (.tuple #[.agg (AA.ckA AA.ck0),.bool false])/\Chg No w w':=by
 have H1:=BB (AA.Ck.new w AA.ck0);have G1:Hid (Chg No w (w.alloc (.cells (AA.ckA AA.ck0) 142))):=(Chg.refl _ w).alloc _;have c0:=(h.chg G1.out (fun f=>f)).cells.1;clear h;go_enter func101,ntmps101;go_wp2_with (first | refine AA.Ci rfl rfl ?_);generalize w.alloc (.cells (AA.ckA AA.ck0) 142)=w1 at *
 have hcl:=aQ w1;go_wp2_with fail;refine hcl.mono ?_;rintro e w2 ⟨rfl,rfl⟩;clear hcl;go_wp2
 go_loopg [4] 0 (fun kx s4 wr=>s4=.slice none 0 0/\Hid (wr=w2))
 case atStart=>exact⟨rfl,rfl⟩
 case round=>
  obtain⟨rfl,HW⟩:=hrel;obtain rfl:=HW.out;have hcall:=AG.KB wr none 0 24 (-1);go_wp2_with fail;refine hcall.mono ?_;rintro e w3 ⟨rfl,G3⟩;have H3:=BB (H1.out.chg G3 (fun f=>f));have G3':=BB (G1.out.trans G3);clear hcall c0 G3;go_wp2_with (refine AG.CA rfl rfl _ rfl ?_);intro w4 K4 G4 S4;have HK4:=BB K4;have H4:=BB (H3.out.chg G4 (fun f=>f));have HG4:=BB (G3'.out.trans G4);have HS4:=BB S4;have HLE:=BB G3'.out.size;have HB3:=BB H3.out.lt;clear K4 G4 S4;go_wp2_with (refine AG.wpList_store_fo rfl (.tmp 5) (.tmp 17) rfl _ rfl rfl HK4.out ?_);intro w5 K5 G5;have H5:=BB (H4.out.chg G5 (fun e=>by have:=HB3.out;omega));have HG5:=BB (HG4.out.trans' G5 (fun k hk e=>by have:=HLE.out;omega));clear K5 G5 HK4;go_wp2_with (first | (refine AA.Ee rfl rfl ?_) | (refine AA.Ch rfl (.tmp 2) (.tmp 21) rfl _ rfl rfl H5.out ?_));intro w6 K6 G6;have HG6:=BB (HG5.out.trans' G6 (fun k hk e=>om));go_wp2;refine AZ (AA.PA rfl _ rfl K6) rfl ?_;exact⟨rfl,HG6.out⟩
theorem Nx{A:Ad}{g n m:Nat}(h:Far A g n)(hm:m<=n):Far A g m:=by
 obtain⟨a,b,c,d,e,f,i,j,k,l⟩:=h;exact⟨a,om,om,om,om,om,om,om,om,om⟩
theorem Pi(B g:Nat)(v:Value)(s:BG)(hs:s.Ok)(tl:List Nat->Int->Pg)(htl:∀L n,ToldR L n (tl L n))(w:Wd)(h:Sg w B v)(hc:BE w g s) :Calls prog 66 #[.pointer (some ⟨B,0,none⟩),.pointer (some ⟨g,0,none⟩)] w fun e w'=>∃A,Far A g w.heap.size/\e=.returned (.tuple #[.pointer (some ⟨A.c,0,none⟩),.nilIface])/\CoreAt A w' (K0 s tl)/\Chg (·=g) w w':=by
 have hcall:=Nw B v w h;have HC:=BB hc;have hb:=AA.build26;clear h hc;go_enter func66,ntmps66;go_wp2_with fail;refine hcall.mono ?_;rintro e w1 ⟨rfl,G1⟩;have HC1:=BB (HC.out.chg G1 (fun f=>f));have HG1:=BB G1;clear hcall G1;have H2:=BB (AA.Ck.new w1 AA.ck0);have G2:Hid (Chg No w1 (w1.alloc (.cells (AA.ckA AA.ck0) 142))):=(Chg.refl _ w1).alloc _;go_wp2_with (first | (refine AA.Ci rfl rfl ?_) | (refine AA.Ch rfl (.tmp 6) (.tmp 11) rfl _ rfl rfl H2.out ?_));intro w3 K3 G3;have HL1:=BB HG1.out.size;have HC3:=BB ((HC1.out.chg G2.out (fun f=>f)).chg G3 (fun e=>by have:=HC1.out.lt;omega));have HG3:=BB ((HG1.out.trans G2.out).trans' G3 (fun k hk e=>by have:=HL1.out;omega));clear K3 G3 H2 G2 HC1;have hnew:=aP g s hs tl htl w3 HC3.out;go_wp2_with (refine AA.Ee rfl rfl ?_);refine hnew.mono ?_;rintro e w4 ⟨A,hF,rfl,hK,G4⟩;have HF:=BB hF;have HK:=BB hK;have HG4:=BB ((HG3.out.mono (T:=(·=g)) (fun _ _ f=>f.elim)).trans G4);have HS:=BB HG3.out.size;clear hnew hF hK G4;go_wp2;go_ret2;exact⟨A,Nx HF.out HS.out,rfl,HK.out,HG4.out⟩
section
variable {b n:Nat}(w:Wd)
theorem aR:Calls prog 143 #[.int .u64 1,.int .u64 12] w fun e w'=>e=.returned (.tuple #[.int .u64 0,.int .u64 12])/\w'=w:=by
 go_enter func143,ntmps143;go_wp2;go_ret2;exact⟨rfl,rfl⟩
theorem jR:Calls prog 104 #[.int .u64 1,.int .u64 12] w fun e w'=>e=.returned (.tuple #[.int .u64 0,.int .u64 12])/\w'=w:=by
 have hc:=aR w;go_enter func104,ntmps104;go_wp2_with fail;refine hc.mono ?_;rintro e w1 ⟨rfl,rfl⟩;go_wp2;go_ret2;exact⟨rfl,rfl⟩
theorem aS:(Instr.makeSlice 22 (.int .i64 12) (.int .i64 12)).run prog w=.ok (.slice (some ⟨w.heap.size,0,none⟩) 12 12) (w.alloc (.cells (ints (fun _=>0) 12).toArray 3)):=kr
def E8 (n:Nat):Nat->Int:=fun b=>if b<n then 8 else 0
theorem aT(n k:Nat)(h:n+k<=12):(ints (E8 n) 12).take n ++ List.replicate k (.int .i64 8) ++ (ints (E8 n) 12).drop (n+(List.replicate k (Value.int .i64 8)).length)=ints (E8 (n+k)) 12:=by
 rw[length_replicate];apply ext_getElem?;intro i;have l1:((ints (E8 n) 12).take n).length=n:=by rw[length_take,BD];omega
 by_cases h1:i<n
 ·rw[Aq,Af om,List.getElem?_take,AJ h1,BU _ _ _ om,BU _ _ _ om];unfold E8;rw[AJ h1,AJ om]
 ·by_cases h2:i<n+k
  ·rw[Aq,Aa om,l1,Af (by rw[length_replicate];omega),List.getElem?_replicate,AJ om,BU _ _ _ om];unfold E8;rw[AJ h2];rfl
  ·rw[Aq,Aa om,l1,Aa (by rw[length_replicate];omega),length_replicate,List.getElem?_drop,show n+k+(i - n - k)=i by omega];by_cases h3:i<12
   ·rw[BU _ _ _ h3,BU _ _ _ h3];unfold E8;rw[AI h1,AI h2]
   ·rw[Ae (by rw[BD];omega),Ae (by rw[BD];omega)]
theorem Ny(ty:TypeId)(b n k g dl dc sl sc:Nat)(hI:IB w b 3 12 (E8 n))(hk:Nat.min sl dl=k)(hn:n+k<=12)(hsrc:∀j,j<k->w.cell? ⟨g,j,none⟩=some (.int .i64 8)) :(Builtin.copy_ #[22,22] ty #[.slice (some ⟨b,n,none⟩) dl dc,.slice (some ⟨g,0,none⟩) sl sc]).run prog w=.ok (goInt k) (w.setRow b (ints (E8 (n+k)) 12).toArray):=by
 have hlen:(List.replicate k (Value.int .i64 8)).length=k:=length_replicate;have hrun:=run_copy_row (P:=prog) w 22 22 ty 3 b n dl dc ⟨g,0,none⟩ sl sc (ints (E8 n) 12).toArray 3 (List.replicate k (.int .i64 8)) underlying22 AE.size3 hI (by rw[hlen,hk]) (fun j v hv=>by
  have hj:j<k:=by have:=(List.getElem?_eq_some_iff.1 hv).1;rwa [hlen] at this
  rw[List.getElem?_replicate,AJ hj] at hv
  injection hv with hv
  subst hv
  rw[Addr.add_mid,AW]
  exact hsrc j hj) (by rw[hlen,size_toArray,BD];omega) (fun v hv=>by rw[(mem_replicate.1 hv).2];rfl)
 rw[show (ints (E8 n) 12).toArray.toList=ints (E8 n) 12 from rfl,aT n k hn,hlen] at hrun;exact hrun
theorem Pj{w:Wd}{m:Nat}(hI:IB w b 3 12 (E8 n)):IB (w.setRow b (ints (E8 m) 12).toArray) b 3 12 (E8 m)/\Chg (·=b) w (w.setRow b (ints (E8 m) 12).toArray):=
 ⟨setRow_heap w b _ _ 3 _ hI,DZ _ _ _⟩
theorem E8.cell{w:Wd}(hI:IB w b 3 12 (E8 n)){j:Nat}(hj:j<n)(hn:n<=12):w.cell? ⟨b,j,none⟩=some (.int .i64 8):=by
 rw[(hI.cell j om).1];unfold E8;rw[AJ hj]
theorem Xd(g:Nat)(w:Wd)(hc:w.cell? ⟨g,0,none⟩=some (.int .i64 8))(hg:g<w.heap.size) :Calls prog 68 #[.slice (some ⟨g,0,none⟩) 1 1,.int .i64 12] w fun e w'=>∃d,e=.returned (.slice (some ⟨d,0,none⟩) 12 12)/\w.heap.size<=d/\IB w' d 3 12 (E8 12)/\Chg No w w':=by
 have hm:=aS w;have HG:=BB hg;have HC:=BB hc;have hmul:=jR w;clear hc hg;go_enter func68,ntmps68;go_wp2_with fail;refine hmul.mono ?_;rintro e w1 ⟨rfl,rfl⟩;clear hmul;have hI0:IB (w1.alloc (.cells (ints (fun _=>0) 12).toArray 3)) w1.heap.size 3 12 (E8 0):=by
  show (w1.heap.push _)[w1.heap.size]?=_;simp;rfl
 have G0:Chg No w1 (w1.alloc (.cells (ints (fun _=>0) 12).toArray 3)):=(Chg.refl _ w1).alloc _;have hcp:=Ny _ 3 w1.heap.size 0 1 g 12 12 1 1 hI0 rfl om (fun j hj=>by
  obtain rfl:j=0:=om
  exact(G0.cell HG.out (fun f=>f) 0).trans HC.out)
 obtain⟨K1,G1⟩:=Pj (m:=1) hI0;have HK:=BB K1;have HG1:=BB (G0.trans' G1 (fun k hk e=>om));obtain⟨N,hN⟩:∃N,w1.heap.size=N:=⟨_,rfl⟩;have HN:=BB hN;clear K1 G1 G0 HC HG;rw[hN] at hm hcp HK HG1;go_wp2;generalize ((w1.alloc (.cells (ints (fun _=>0) 12).toArray 3)).setRow N (ints (E8 (0+1)) 12).toArray)=w2 at *
 go_loopg [8] 12 (fun kx s8 wr=>∃n:Nat,s8=.int .i64 n/\(n=1\/n=2\/n=4\/n=8\/n=12)/\12 - n<=kx/\Hid (IB wr N 3 12 (E8 n))/\Hid (Chg No w1 wr))
 case atStart=>exact⟨1,rfl,AK rfl,om,HK.out,HG1.out⟩
 case round=>
  clear HK HG1 hcp hm;obtain⟨n,rfl,hn,hkx,HI,HG⟩:=hrel;have HID:Hid (IB wr.drew N 3 12 (E8 n)):=HI.out;have hcp:=fun k (h:Nat.min n (12 - n)=k) (h2:n+k<=12)=>Ny wr.drew 3 N n k N (12 - n) (12 - n) n 12 HID.out h h2 (fun j hj=>E8.cell HID.out (by have:k<=n:=h ▸ Nat.min_le_left _ _;omega) om);have HGD:∀m,Hid (IB (wr.drew.setRow N (ints (E8 m) 12).toArray) N 3 12 (E8 m))/\Hid (Chg No w1 (wr.drew.setRow N (ints (E8 m) 12).toArray)):=fun m=>
   ⟨(Pj (m:=m) HID.out).1,(HG.out.drew).trans' (Pj (m:=m) HID.out).2 (fun k hk e=>by have:=HN.out;omega)⟩
  have HGD:=BB HGD;rcases hn with rfl | rfl | rfl | rfl | rfl
  ·have hcp:=hcp 1 rfl om;go_wp2;go_region;go_wp2
   go_roundg 10
   case measure=>omega
   case rel=>exact⟨2,rfl,om,AM _,(HGD.out 2).1.out,(HGD.out 2).2.out⟩
  ·have hcp:=hcp 2 rfl om;go_wp2;go_region;go_wp2
   go_roundg 8
   case measure=>omega
   case rel=>exact⟨4,rfl,om,AM _,(HGD.out 4).1.out,(HGD.out 4).2.out⟩
  ·have hcp:=hcp 4 rfl om;go_wp2;go_region;go_wp2
   go_roundg 4
   case measure=>omega
   case rel=>exact⟨8,rfl,om,AM _,(HGD.out 8).1.out,(HGD.out 8).2.out⟩
  ·have hcp:=hcp 4 rfl om;go_wp2;go_region;go_wp2
   go_roundg 0
   case measure=>omega
   case rel=>exact⟨12,rfl,om,AM _,(HGD.out 12).1.out,(HGD.out 12).2.out⟩
  ·clear hcp;go_wp2;go_ret;exact⟨N,rfl,by rw[<-HN.out];exact AM _,HI.out,HG.out⟩
end
theorem kP(w:Wd):(w.alloc (.cells #[.int .i64 8] 3)).cell? ⟨w.heap.size,0,none⟩=some (.int .i64 8):=by
 have h:(w.alloc (.cells #[.int .i64 8] 3)).heap[w.heap.size]?=some (.cells #[.int .i64 8] 3):=by
  show (w.heap.push _)[w.heap.size]?=_;simp
 simp only[World.cell?,h];rfl
theorem Nz(g:Nat)(s:BG)(hB:CN s)(tl:List Nat->Int->Pg)(htl:∀L n,ToldR L n (tl L n))(w:Wd)(h:BE w g s) :Calls prog 43 #[.pointer (some ⟨g,0,none⟩)] w fun e w'=>∃A K G,Far A g w.heap.size/\e=.returned (.tuple #[.pointer (some ⟨A.c,0,none⟩),.nilIface])/\CoreAt A w' K/\(Su K G/\jd 1 K G)/\K.tl=tl/\Chg (·=g) w w':=by
 have hcall:=Pf g s hB w h;have HL:=BB h.lt;have q0:=BJ;clear h hB;go_enter func43,ntmps43;go_wp2_with fail;refine hcall.mono ?_;rintro e w1 ⟨s1,mp,rfl,B1,-,C1,G1⟩;have HB1:=BB B1;have HC1:=BB C1;have HG1:=BB G1;clear hcall B1 C1 G1;go_wp2_with (first | (refine DW rfl rfl w1.heap.size rfl ?_));intro w2 K2 G2 S2;have HK2:=BB K2;have HC2:=BB (HC1.out.chg G2 (fun f=>f));have HG2:=BB (HG1.out.trans' G2 (fun _ _ f=>f.elim));have HS1:=BB HG1.out.size;have HL1:=BB HC1.out.lt;clear K2 G2 S2 HC1 HG1;go_wp2_with (refine DV rfl (.tmp 4) (.tmp 12) rfl _ rfl rfl HK2.out ?_);intro w3 K3 G3;have HK3:=BB K3;have HC3:=BB (HC2.out.chg G3 (fun e=>by have:=HL1.out;omega));have HG3:=BB (HG2.out.trans' G3 (fun k hk e=>by have:=HS1.out;omega));have HLK:=BB HG3.out.size;clear K3 G3 HK2 HC2 HG2;have hcore:=Pi w1.heap.size g _ s1 HB1.out.ok tl htl w3 HK3.out HC3.out;go_wp2_with fail;refine hcore.mono ?_;rintro e w4 ⟨A,hF,rfl,hK,G4⟩;have HF:=BB (Nx hF HLK.out);have HK:=BB hK;have HG4:=BB (HG3.out.trans G4);clear hcore hF hK G4 HK3 HC3 HG3;have HLOW:Hid (∀k,Cor A k->k<w4.heap.size):=fun k hk=>HK.out.low k (AK hk);have G5:Chg No w4 (w4.alloc (.cells #[.int .i64 8] 3)):=(Chg.refl _ w4).alloc _;have c5:(w4.alloc (.cells #[.int .i64 8] 3)).cell? ⟨w4.heap.size,0,none⟩=some (.int .i64 8):=kP w4;have hrep:=Xd w4.heap.size _ c5 (by rw[World.size_alloc];omega);have HZ5:Hid ((w4.alloc (.cells #[.int .i64 8] 3)).heap.size=w4.heap.size+1):=World.size_alloc _ _;have HG5:=BB G5;clear G5 c5;go_wp2_with fail;refine hrep.mono ?_;rintro e w6 ⟨d,rfl,hd,hI,G6⟩;have HI:=BB hI;have HG6:=BB (HG5.out.trans G6);have HD:Hid (w4.heap.size+1<=d):=by have:=HZ5.out;show _<=_;omega
 clear hrep hd hI G6 HG5 HZ5;have HK6:=BB (HK.out.chg0 HG6.out);have hseen:=dW A w6 _ HK6.out d 0 12 (E8 12) HI.out.lt (fun i hi=>by rw[AW];exact(HI.out.cell i hi).1) (fun e=>by have:=HLOW.out _ e;have:=HD.out;omega);rw[show Vi (E8 12) 12 (K0 s1 tl).hR=R8 12 from jA _ (fun i hi=>by unfold E8;rw[AJ hi])] at hseen;clear HK HI;go_wp2_with fail;refine hseen.mono ?_;rintro e w7 ⟨rfl,hK7,G7⟩;have HK7:=BB hK7;have HG7:=BB G7;clear hseen hK7 G7 HK6;obtain⟨K,G,eK,hBg,etl⟩:=XZ htl HB1.out 1;have hcl:=ZY A w7 _ HK7.out _ _ eK;go_wp2_with fail;refine hcl.mono ?_;rintro e w8 ⟨rfl,hK8,G8⟩;have HK8:=BB hK8;have HBG:=BB hBg;have HE:=BB etl;have HG8:=BB G8;clear hcl hK8 hBg etl G8 HK7;rw[show errV 0=.nilIface from rfl];go_wp2;go_ret2;refine⟨A,K,G,HF.out,rfl,HK8.out,HBG.out,HE.out,?_⟩;have nf:∀k,k<w.heap.size->Cor A k->k=g:=fun k hk e=>by
  obtain⟨a,b,c,d,e',f,i,j,l,n⟩:=HF.out;rcases e with e | e | e | e | e | e | e | e <;> omega
 exact((HG4.out.trans' HG6.out (fun _ _ f=>f.elim)).trans' HG7.out nf).trans' HG8.out nf
section
variable {w w':Wd}{D g:Nat}{x:Option Addr}
def Dv (w:Wd) (D g:Nat) (x:Option Addr):Prop:=w.heap[D]?=some (.cells #[.pointer (some ⟨g,0,none⟩),.pointer x] 76)
theorem Dv.new(w:Wd)(g:Nat)(x:Option Addr):Dv (w.alloc (.cells #[.pointer (some ⟨g,0,none⟩),.pointer x] 76)) w.heap.size g x:=by
 show (w.heap.push _)[w.heap.size]?=_;simp
theorem Dv.lt(h:Dv w D g x):D<w.heap.size:=(Array.getElem?_eq_some_iff.1 (show w.heap[D]?=some _ from h)).1
theorem Dv.chg{S:Nat->Prop}(h:Dv w D g x)(hc:Chg S w w')(hb:¬ S D):Dv w' D g x:=(hc.block D h.lt hb).trans h
theorem Dv.cells(h:Dv w D g x):w.cell? ⟨D,0,none⟩=some (.pointer (some ⟨g,0,none⟩))/\w.cell? ⟨D,1,none⟩=some (.pointer x)/\w.frozen? ⟨D,1,none⟩=false:=by
 have h':w.heap[D]?=some _:=h;refine⟨?_,?_,?_⟩
 ·simp only[World.cell?,h'];rfl
 ·simp only[World.cell?,h'];rfl
 ·simp only[World.frozen?,h'];rfl
theorem Dv.set(h:Dv w D g x)(y:Option Addr):Dv (w.setCell ⟨D,1,none⟩ (.pointer y)) D g y:=heap_setCell_same w D 1 _ 76 _ h
theorem Xe(v:Value):Chg (·=D) w (w.setCell ⟨D,1,none⟩ v):=(Chg.refl (·=D) w).setCell (AK rfl) _ _
theorem CoreAt.but{A:Ad}{K:BC}(h:CoreAt A w K)(n:∀x,Cor A x\/x=A.p\/x=A.q->¬ x=g)(hc:Chg (·=g) w w'):CoreAt A w' K:=by
 obtain⟨f1,f2,f3,f4,f5,f6,f7⟩:=h.frame hc;exact⟨f1 (n _ (AK (AK rfl))),f2 (n _ (AK (AL (AK rfl)))) (n _ (AL (AK rfl))) (n _ (AL (AL rfl))) (n _ (AK (AL (AL (AL (AK rfl)))))),f3 (n _ (AK (AL (AL (AK rfl))))),f4 (n _ (AK (AL (AL (AL (AL (AK rfl))))))),f5 (n _ (AK (AL (AL (AL (AL (AL (AK rfl)))))))),f6 (n _ (AK (AL (AL (AL (AL (AL (AL (AK rfl))))))))),f7 (n _ (AK (AL (AL (AL (AL (AL (AL (AL rfl))))))))),h.wf⟩
theorem aU(w:Wd)(g:Nat):(Instr.build 76 #[(0,.pointer (some ⟨g,0,none⟩))]).run prog w=.ok (.agg #[.pointer (some ⟨g,0,none⟩),.pointer none]) w:=kr
theorem Xf(g:Nat)(w:Wd):Calls prog 21 #[.pointer (some ⟨g,0,none⟩)] w fun e w'=>e=.returned (.tuple #[.pointer (some ⟨w.heap.size,0,none⟩),.nilIface])/\Dv w' w.heap.size g none/\Chg No w w':=by
 have hb:=aU w g;have H:=BB (Dv.new w g none);have G:=BB ((Chg.refl No w).alloc (.cells #[.pointer (some ⟨g,0,none⟩),.pointer none] 76));go_enter func21,ntmps21;go_wp2;go_ret2;exact⟨rfl,H.out,G.out⟩
theorem MH(D g:Nat)(s:BG)(hB:CN s)(tl:List Nat->Int->Pg)(htl:∀L n,ToldR L n (tl L n))(w:Wd)(hc:BE w g s)(h:Dv w D g none)(hne:D≠g) :Calls prog 24 #[.pointer (some ⟨D,0,none⟩)] w fun e w'=>∃A K G,Far A g w.heap.size/\e=.returned .nilIface/\Dv w' D g (some ⟨A.c,0,none⟩)/\CoreAt A w' K/\(Su K G/\jd 1 K G)/\K.tl=tl/\Chg (fun k=>k=g\/k=D) w w':=by
 obtain⟨c0,c1,-⟩:=h.cells;have HD:=BB h;have hcall:=Nz g s hB tl htl w hc;have HN:=BB hne;have q0:=BJ;clear h hc hB;go_enter func24,ntmps24;go_wp2_with fail;refine hcall.mono ?_;rintro e w1 ⟨A,K,G,hF,rfl,hK,hBg,etl,G1⟩;have HF:=BB hF;have HK:=BB hK;have HBG:=BB hBg;have HE:=BB etl;have HG1:=BB G1;have HD1:=BB (HD.out.chg G1 HN.out);obtain⟨d0,d1,f1⟩:=HD1.out.cells;clear hcall c0 c1 hF hK hBg etl G1;go_wp2;go_ret;have hL:=HD.out.lt;have nD:∀x,Cor A x\/x=A.p\/x=A.q->¬ x=D:=fun x e h=>by
  obtain⟨a,b,c,d,e',f,i,j,l,n⟩:=HF.out;have:=HN.out;rcases e with (e | e | e | e | e | e | e | e) | e | e <;> omega
 refine⟨A,K,G,HF.out,rfl,HD1.out.set _,?_,HBG.out,HE.out,?_⟩
 ·exact HK.out.but nD (Xe _)
 ·exact(HG1.out.mono (fun _ _ e=>AK e)).trans' (Xe _) (fun k hk e=>AL e)
theorem H7(D g c o:Nat)(w:Wd)(h:Dv w D g (some ⟨c,0,none⟩))(hb:o<24):Calls prog 31 #[.pointer (some ⟨D,0,none⟩),.int .i64 (o:Nat),.int .i64 160] w fun e w'=>e=.returned .nilIface/\w'=w:=by
 obtain⟨c0,c1,-⟩:=h.cells;have h1:¬ (o:Int)<0:=om
 have h2:¬ 24<=(o:Int):=om
 clear h;go_enter func31,ntmps31;go_wp2;go_ret;exact⟨rfl,rfl⟩
end
section
variable {w w':Wd}{D:Nat}{A:Ad}{K:BC}
structure Dmt (w:Wd) (D:Nat) (A:Ad) (K:BC):Prop where
 dv:Dv w D A.g (some ⟨A.c,0,none⟩)
 core:CoreAt A w K
 nd:¬ Cor A D
theorem Dmt.chg0(h:Dmt w D A K)(hc:Chg No w w'):Dmt w' D A K:=⟨h.dv.chg hc (fun f=>f),h.core.chg0 hc,h.nd⟩
theorem Dmt.cor{K':BC}(h:Dmt w D A K)(hk:CoreAt A w' K')(hc:Chg (Cor A) w w'):Dmt w' D A K':=⟨h.dv.chg hc h.nd,hk,h.nd⟩
theorem MI(D:Nat)(A:Ad)(K:BC)(w:Wd)(h:Dmt w D A K)(c:Nat)(hc:c≠7)(hca:K.ca<9223372036854775807)(n m:Nat)(Z:BC × Nat)(hZ:tdK n m K=some Z)(h7:Z.2≠7) :Calls prog 32 #[.pointer (some ⟨D,0,none⟩),errV c] w fun e w'=>e=.returned (errV c)/\Dmt w' D A Z.1/\Chg (Cor A) w w':=by
 obtain⟨c0,c1,-⟩:=h.dv.cells;have hi:=Ia c 7 dc w;rw[show decide (c=7)=false by simp[hc]] at hi;have ht:=da A w K h.core hca n m Z hZ;have hi2:=fun u:World=>Ia Z.2 7 dc u;rw[show decide (Z.2=7)=false by simp[h7]] at hi2;have H:=BB h;clear h;go_enter func32,ntmps32;go_wp2_with fail;refine hi.mono ?_;rintro e w1 ⟨rfl,rfl⟩;go_wp2_with fail;refine ht.mono ?_;rintro e w2 ⟨rfl,hK,hG⟩;have HM:=BB (H.out.cor hK hG);have HG:=BB hG;clear ht hi hK hG c0 c1;go_wp2_with fail;refine(hi2 w2).mono ?_;rintro e w3 ⟨rfl,rfl⟩;go_wp2;go_ret;exact⟨rfl,HM.out,HG.out⟩
theorem aV(D:Nat)(A:Ad)(K:BC)(w:Wd)(h:Dmt w D A K)(o:Nat)(ho:o<24)(K':BC)(B:List Nat)(hg:geK K o=(K',B,0))(hca:K'.ca<9223372036854775807)(n m:Nat)(Z:BC × Nat)(hZ:tdK n m K'=some Z)(h7:Z.2≠7) :Calls prog 16 #[.pointer (some ⟨D,0,none⟩),.int .i64 (o:Nat)] w fun e w'=>∃v,e=.returned (.tuple #[v,.nilIface])/\Own w' w.heap.size 5 v B/\Dmt w' D A Z.1/\Chg (Cor A) w w':=by
 obtain⟨c0,c1,-⟩:=h.dv.cells;have hr:=H7 D A.g A.c o w h.dv ho;have hget:=i7 A w K h.core o ho;rw[hg] at hget;have htd:=fun (u:Wd) (hu:Dmt u D A K')=>MI D A K' u hu 0 dc hca n m Z hZ h7;rw[show errV 0=.nilIface from rfl] at htd;have H:=BB h;have HL:=BB h.core.low;have q0:=BJ;clear h hg;go_enter func16,ntmps16;go_wp2_with fail;refine hr.mono ?_;rintro e w1 ⟨rfl,rfl⟩;go_wp2_with fail;refine hget.mono ?_;rintro e w2 ⟨v,rfl,hO,hK,hG⟩;have HM:=BB (H.out.cor hK hG);have HG:=BB hG;have HO:=BB hO;clear hr hget hO hK hG c0 c1;dsimp only;rw[show errV 0=.nilIface from rfl];go_wp2_with fail;refine(htd w2 HM.out).mono ?_;rintro e w3 ⟨rfl,hM,hG3⟩;have HM3:=BB hM;have HG3:=BB (HG.out.trans hG3);have HO3:Hid (Own w3 w1.heap.size 5 v B):=HO.out.chg hG3 (fun k hk he e=>by have:=HL.out k (AK e);have:=(HO.out.block he).1;omega);clear htd hM hG3;go_wp2;go_ret2;exact⟨v,rfl,HO3.out,HM3.out,HG3.out⟩
theorem Xg(D:Nat)(A:Ad)(K:BC)(w:Wd)(h:Dmt w D A K)(o:Nat)(ho:o<24)(d off cap:Nat)(L:List Nat)(hL:L.length=160)(bL:Bys L)(hd:At w d off L)(nd:¬ Cor A d)(k:Nat)(Y:BC × Nat)(hY:anR k (fun _ _=>L ++ List.replicate 14 0) K o=some Y)(hy:Y.2≠7)(hca:Y.1.ca<9223372036854775807)(n m:Nat)(Z:BC × Nat)(hZ:tdK n m Y.1=some Z)(h7:Z.2≠7) :Calls prog 12 #[.pointer (some ⟨D,0,none⟩),.int .i64 (o:Nat),.slice (some ⟨d,off,none⟩) 160 cap] w fun e w'=>e=.returned (errV Y.2)/\Dmt w' D A Z.1/\Chg (Cor A) w w':=by
 obtain⟨c0,c1,-⟩:=h.dv.cells;have hr:=H7 D A.g A.c o w h.dv ho;have hput:=i4 A w K h.core o ho d off cap L hL bL hd nd k Y hY;have htd:=fun (u:Wd) (hu:Dmt u D A Y.1)=>MI D A Y.1 u hu Y.2 hy hca n m Z hZ h7;have H:=BB h;have q0:=BJ;clear h hY hd;go_enter func12,ntmps12;go_wp2_with fail;refine hr.mono ?_;rintro e w1 ⟨rfl,rfl⟩;go_wp2_with fail;refine hput.mono ?_;rintro e w2 ⟨rfl,hK,hG⟩;have HM:=BB (H.out.cor hK hG);have HG:=BB hG;clear hr hput hK hG c0 c1;go_wp2_with fail;refine(htd w2 HM.out).mono ?_;rintro e w3 ⟨rfl,hM,hG3⟩;have HM3:=BB hM;have HG3:=BB (HG.out.trans hG3);clear htd hM hG3;go_wp2;go_ret;exact⟨rfl,HM3.out,HG3.out⟩
theorem aW(D:Nat)(A:Ad)(K:BC)(w:Wd)(h:Dmt w D A K)(o:Nat)(ho:o<24)(k:Nat)(Y:BC × Nat)(hY:tmK k K o=some Y)(hy:Y.2≠7)(hca:Y.1.ca<9223372036854775807)(n m:Nat)(Z:BC × Nat)(hZ:tdK n m Y.1=some Z)(h7:Z.2≠7) :Calls prog 22 #[.pointer (some ⟨D,0,none⟩),.int .i64 (o:Nat)] w fun e w'=>e=.returned (errV Y.2)/\Dmt w' D A Z.1/\Chg (Cor A) w w':=by
 obtain⟨c0,c1,-⟩:=h.dv.cells;have hr:=H7 D A.g A.c o w h.dv ho;have hput:=dU A w K h.core o ho k Y hY;have htd:=fun (u:Wd) (hu:Dmt u D A Y.1)=>MI D A Y.1 u hu Y.2 hy hca n m Z hZ h7;have H:=BB h;have q0:=BJ;clear h hY;go_enter func22,ntmps22;go_wp2_with fail;refine hr.mono ?_;rintro e w1 ⟨rfl,rfl⟩;go_wp2_with fail;refine hput.mono ?_;rintro e w2 ⟨rfl,hK,hG⟩;have HM:=BB (H.out.cor hK hG);have HG:=BB hG;clear hr hput hK hG c0 c1;go_wp2_with fail;refine(htd w2 HM.out).mono ?_;rintro e w3 ⟨rfl,hM,hG3⟩;have HM3:=BB hM;have HG3:=BB (HG.out.trans hG3);clear htd hM hG3;go_wp2;go_ret;exact⟨rfl,HM3.out,HG3.out⟩
end
theorem jS:∃tl:List Nat->Int->Pg,∀L n,ToldR L n (tl L n):=Classical.axiomOfChoice fun L=>Classical.axiomOfChoice fun n=>ZV L n
theorem Kx(g:Nat)(w:Wd):(binOp .eql 25 (.pointer (some ⟨g,0,none⟩)) (.pointer none)).run prog w=.ok (.bool false) w:=kr
theorem g9(w:Wd):(binOp .eql 33 .nilIface .nilIface).run prog w=.ok (.bool true) w:=kr
theorem z7:(0:Nat)≠7:=dc
theorem CE{ops:Array Oper}{rest:List Oper}{o:Oper}{a:Act}{w:Wd}{Q:Exit->Act->World->Prop}(hw:Region.wanted o (yielded ops a.tmps)=true)(v:Value)(h:(execOp a.eval o).run prog w=.ok (.value v) w)(next:wpList prog ops Q rest (a.put o.dst v) w):wpList prog ops Q (o :: rest) a w:=
 wpList_step fun _ hK=>by
  rw[AJ hw]
  unfold Oper.wp
  rw[h]
  exact hK _ _ next
section
variable {w:Wd}
theorem Qq{a:Addr}{v:Value}(h:w.cell? a=some v):a.block<w.heap.size:=by
 by_cases hb:a.block<w.heap.size
 ·exact hb
 ·rw[World.cell?,Array.getElem?_eq_none om] at h;cases h
theorem Sk{S:Nat->Prop}{w':Wd}(h:Chg S w w'){B:Nat}(hS:∀k,S k->B<=k)(hB:B<=w.heap.size):Below B w w':=
 ⟨h.os,h.tape,h.output,h.size,fun k hk=>h.block k om (fun f=>by have:=hS k f;omega)⟩
end
section
variable {w:Wd}{D B:Nat}{A:Ad}{La:Nat->Int}
def EP (w:Wd) (D:Nat) (A:Ad) (B:Nat) (La:Nat->Int):Prop:=∃K G,Dmt w D A K/\Fnv B K G La
theorem EP.chg0{w':Wd}(h:EP w D A B La)(hc:Chg No w w'):EP w' D A B La:=by
 obtain⟨K,G,h1,h2⟩:=h;exact⟨K,G,h1.chg0 hc,h2⟩
theorem EP.low(h:EP w D A B La):∀k,Cor A k->k<w.heap.size:=by
 obtain⟨K,G,h1,-⟩:=h;exact fun k hk=>h1.core.low k (AK hk)
theorem F8(D:Nat)(A:Ad)(B:Nat)(La:Nat->Int)(w:Wd)(h:EP w D A B La)(hB:B+1<1073741824)(o:Nat)(ho:o<24)(x:Int)(d off cap:Nat)(hd:At w d off (J4 x))(nd:¬ Cor A d) :Calls prog 12 #[.pointer (some ⟨D,0,none⟩),.int .i64 (o:Nat),.slice (some ⟨d,off,none⟩) 160 cap] w fun e w'=>e=.returned .nilIface/\EP w' D A (B+2) (upd La o x)/\Chg (Cor A) w w':=by
 obtain⟨K,G,h1,h2⟩:=h;obtain⟨Y,G1,e1,f1⟩:=aG h2 om ho x;obtain⟨Z,G2,e2,f2⟩:=J8 f1 om;have hc:=f1.iv.ca;refine(Xg D A K w h1 o ho d off cap (J4 x) (CW x) (Iw x) hd nd 6 (Y,0) e1 z7 (by show Y.ca<_;omega) 6 13 (Z,0) e2 z7).mono ?_;rintro e w' ⟨rfl,hM,hG⟩;exact⟨rfl,⟨Z,G2,hM,f2⟩,hG⟩
theorem Sn(D:Nat)(A:Ad)(B:Nat)(La:Nat->Int)(w:Wd)(h:EP w D A B La)(hB:B+1<1073741824)(o:Nat)(ho:o<24) :Calls prog 22 #[.pointer (some ⟨D,0,none⟩),.int .i64 (o:Nat)] w fun e w'=>e=.returned .nilIface/\EP w' D A (B+2) (upd La o 0)/\Chg (Cor A) w w':=by
 obtain⟨K,G,h1,h2⟩:=h;obtain⟨Y,G1,e1,f1⟩:=XU h2 om ho;obtain⟨Z,G2,e2,f2⟩:=J8 f1 om;have hc:=f1.iv.ca;refine(aW D A K w h1 o ho 6 (Y,0) e1 z7 (by show Y.ca<_;omega) 6 13 (Z,0) e2 z7).mono ?_;rintro e w' ⟨rfl,hM,hG⟩;exact⟨rfl,⟨Z,G2,hM,f2⟩,hG⟩
theorem Ky(D:Nat)(A:Ad)(B:Nat)(La:Nat->Int)(w:Wd)(h:EP w D A B La)(hB:B+1<1073741824)(o:Nat)(ho:o<24) :Calls prog 16 #[.pointer (some ⟨D,0,none⟩),.int .i64 (o:Nat)] w fun e w'=>∃gv cv,e=.returned (.tuple #[.slice (some ⟨gv,0,none⟩) 160 cv,.nilIface])/\w.heap.size<=gv/\At w' gv 0 (J4 (La o))/\EP w' D A (B+2) La/\Chg (Cor A) w w':=by
 obtain⟨K,G,h1,h2⟩:=h;obtain⟨Y,e1,f1⟩:=aH h2 om ho;obtain⟨Z,G2,e2,f2⟩:=J8 f1 om;have hc:=f1.iv.ca;refine(aV D A K w h1 o ho Y (J4 (La o)) e1 om 6 13 (Z,0) e2 z7).mono ?_;rintro e w' ⟨v,rfl,hO,hM,hG⟩;obtain⟨gv,cv,rfl,hgv,hgs,hcv,hcl,-⟩:=hO.lies (by rw[CW];decide);rw[CW];exact⟨gv,cv,rfl,hgv,⟨hgs,fun i hi=>by rw[AW];exact hcl i hi⟩,⟨Z,G2,hM,f2⟩,hG⟩
theorem So(D:Nat)(A:Ad)(B:Nat)(La:Nat->Int)(K:BC)(G:Ba)(w:Wd)(h1:Dmt w D A K)(h2:Fnv B K G La)(a b:Nat)(ha:a<96)(hb:b<2048)(hw:(K.s.ch (4*a+b / 512)).worst<2)(hg:D≠A.g) :Calls prog 15 #[.pointer (some ⟨A.g,0,none⟩),.int .i64 (a:Nat),.int .i64 (b:Nat)] w fun e w'=>e=.returned .nilIface/\EP w' D A B La/\Chg (Cor A) w w':=by
 refine(XM A.g K.s h2.sit.1.wf.chip a b w h1.core.chip).mono ?_;rintro e w' ⟨rfl,hC,hG⟩;rw[XW ha hb] at hC ⊢;have f:=XX h2 ha hb hw;have hc:Chg (Cor A) w w':=hG.mono (fun k _ e=>by rw[e];exact AL (AL (AK rfl)));exact⟨rfl,⟨_,G,⟨h1.dv.chg hG hg,h1.core.setChip hC hG f.sit.1.wf,h1.nd⟩,f⟩,hc⟩
end
section
variable {o:Oper}{a:Act}{w:Wd}{F:Nat->Int}{ops:Array Oper}{rest:List Oper}{Q:Exit->Act->World->Prop}
def i64r (z:Int):Prop:=-9223372036854775808<=z/\z<=9223372036854775807
theorem I0(z:Int)(h:i64r z)(n:Nat)(hn:0<n)(hn2:n<10000000)(w:Wd) :Calls prog 26 #[.int .i64 z,.int .i64 n] w fun e w'=>e=.returned (.int .i64 (pkN z n:Nat))/\w'=w:=by
 obtain⟨h1,h2⟩:=h;have hne:((n:Int) == 0)=false:=by simp only[beq_eq_false_iff_ne];omega
 have hne2:¬ (n:Int)=0:=om
 have hnm:¬ (n:Int) = -1:=om
 by_cases hz:z<0
 ·have hq:=Z3 hz n hn;go_enter func26,ntmps26;go_wp2;go_ret;exact⟨rfl,rfl⟩
 ·have hq:=Z4 hz n hn;go_enter func26,ntmps26;go_wp2;go_ret;exact⟨rfl,rfl⟩
theorem KD:(prog.info? 30).map (·.size)=some 24:=kr
theorem jT(F:Nat->Int):(prog.info? 30).map (·.size)=some (ints F 24).toArray.size:=by rw[size_toArray,BD];exact KD
theorem Xh(w:Wd):(zeroValue 30).run prog w=.ok (.agg (ints (fun _=>0) 24).toArray) w:=kr
theorem Xi(w:Wd):(Instr.build 30 #[]).run prog w=.ok (.agg (ints (fun _=>0) 24).toArray) w:=kr
theorem BX{x:Operand}{g:Nat}(ho:o.op=.load 30 x)(hx:a.eval x=.pointer (some ⟨g,0,none⟩))(hg:IB w g 30 24 F):(execOp a.eval o).run prog w=.ok (.value (.agg (ints F 24).toArray)) w:=by
 unfold execOp;simp only[ho,hx,Instr.loadAt,Instr.sureAddr,Sem.run_bind,Sem.run_pure,Result.andThen_ok,run_loadVar_row w g 30 30 _ _ _ hg underlying30 rfl (jT F)]
theorem Bn(hgd:o.guard=none)(ho:o.op=.alloc 30)(h:wpList prog ops Q rest (a.put o.dst (.pointer (some ⟨w.heap.size,0,none⟩))) (w.alloc (.cells (ints (fun _=>0) 24).toArray 30))):wpList prog ops Q (o :: rest) a w:=by
 refine wpList_plain hgd fun K hK=>?_;have hz:=Xh;unfold Oper.wp;generalize (ints (fun _=>0) 24).toArray=q at *
 simp[execOp,ho,Instr.alloc,hz,newVar,Value.cells,newRow];exact hK _ _ h
theorem Bi(hgd:o.guard=none)(x y:Operand)(ho:o.op=.store 30 x y)(g:Nat)(hx:a.eval x=.pointer (some ⟨g,0,none⟩))(hy:a.eval y=.agg (ints F 24).toArray){F':Nat->Int}(hg:IB w g 30 24 F')(h:∀w',IB w' g 30 24 F->Chg (·=g) w w'->wpList prog ops Q rest (a.put o.dst undef) w'):wpList prog ops Q (o :: rest) a w:=
 wpList_store_row hgd 30 x y ho g _ hx hy 30 _ hg (jT F) (by simp[BD]) (all_oneCell_toArray (CU _ _)) (h _ (setRow_heap w g _ _ 30 _ hg) (DZ _ _ _))
theorem Pk(g:Nat)(w:Wd)(hC:BE w g Ft):Calls prog 44 #[.pointer (some ⟨g,0,none⟩)] w fun e w'=>∃D A,e=.returned (.pointer (some ⟨D,0,none⟩))/\A.g=g/\(∀k,Cor A k\/k=A.p\/k=A.q->k=g\/w.heap.size<=k)/\w.heap.size<=D/\EP w' D A 0 (fun _=>0)/\Chg (·=g) w w':=by
 obtain⟨tl,htl⟩:=jS;have HTL:=BB htl;have HC:=BB hC;have qn:=BJ;have p2:=Kx;clear htl hC;go_enter func44,ntmps44;go_wp2_with fail;refine(Xf g w).mono ?_;rintro e w2 ⟨rfl,hD2,G2⟩;have HC2:=BB (HC.out.chg G2 (fun f=>f));have HG2:=BB G2;have HLD:=BB hD2.lt;have HLG:=BB HC.out.lt;have hmt:=MH w.heap.size g Ft CN.new tl HTL.out w2 HC2.out hD2 (by have:=HLG.out;omega);clear hD2 G2;go_wp2_with fail;refine hmt.mono ?_;rintro e w3 ⟨A,K,G,hF,rfl,hD3,hK,⟨hB,hL⟩,-,G3⟩;have eg:A.g=g:=hF.1;have HFN:=BB (hB.fin hL.un);have HF:=BB hF;have HD3:=BB hD3;have HK:=BB hK;have HG3:Hid (Chg (·=g) w w3):=(HG2.out.mono (fun _ _ f=>f.elim)).trans' G3 (fun k hk e=>om);clear hmt hF hD3 hK hB hL G3;go_wp2;go_ret;have hs2:=HG2.out.size;have hld:=HLD.out;have hlg:=HLG.out;subst eg;refine⟨w.heap.size,A,rfl,rfl,fun k e=>?_,AM _,⟨K,G,⟨HD3.out,HK.out,fun e=>?_⟩,HFN.out⟩,HG3.out⟩
 ·obtain⟨a,b,c,d,e',f,i,j,l,n⟩:=HF.out;rcases e with (e | e | e | e | e | e | e | e) | e | e <;> omega
 ·obtain⟨a,b,c,d,e',f,i,j,l,n⟩:=HF.out;rcases e with e | e | e | e | e | e | e | e <;> omega
end
section
variable {w wx wy w':Wd}{n D B B':Nat}{A:Ad}{La L F La':Nat->Int}{S:Nat->Prop}
set_option linter.unusedSimpArgs false
def dsA (La:Nat->Int) (kd a x:Int):Nat->Int:=if pkN kd 6<3 then upd La (pkN a 24) (numN x:Nat) else if pkN kd 6=3 then upd La (pkN a 24) 0 else La
def dsR (La:Nat->Int) (kd a:Int):List Nat:=if pkN kd 6<4 then [] else J4 (La (pkN a 24))
def Xq (w:Wd) (lo:Nat) (v:Value) (l:List Nat):Prop:=(v=.slice none 0 0/\l=[])\/∃gv cv,v=.slice (some ⟨gv,0,none⟩) 160 cv/\lo<=gv/\At w gv 0 l/\l.length=160/\Bys l
theorem Xj(w:Wd)(o:Obj):(w.alloc o).heap[w.heap.size]?=some o:=by
 show (w.heap.push _)[w.heap.size]?=_;simp
theorem Pm(La:Nat->Int)(kd a x:Int)(w:Wd):∃w3,((w.alloc (.cells (ints La 24).toArray 30)).alloc (.cells #[.int .i64 kd,.int .i64 a,.int .i64 x] 67)).alloc (.cells (ints (fun _=>0) 24).toArray 30)=w3 /\IB w3 w.heap.size 30 24 La/\w3.heap[w.heap.size+1]?=some (.cells #[.int .i64 kd,.int .i64 a,.int .i64 x] 67)/\IB w3 (w.heap.size+1+1) 30 24 (fun _=>0)/\Chg No w w3/\w3.heap.size=w.heap.size+3:=by
 obtain⟨w1,h1⟩:∃w1,w.alloc (.cells (ints La 24).toArray 30)=w1:=⟨_,rfl⟩;have a1:IB w1 w.heap.size 30 24 La:=by rw[<-h1];exact IB.new ..
 have g1:Chg No w w1:=by rw[<-h1];exact(Chg.refl _ w).alloc _
 have s1:w1.heap.size=w.heap.size+1:=by rw[<-h1];exact World.size_alloc _ _
 rw[h1];obtain⟨w2,h2⟩:∃w2,w1.alloc (.cells #[.int .i64 kd,.int .i64 a,.int .i64 x] 67)=w2:=⟨_,rfl⟩;have a2:w2.heap[w.heap.size+1]?=some (.cells #[.int .i64 kd,.int .i64 a,.int .i64 x] 67):=by rw[<-h2,<-s1];exact Xj ..
 have g2:Chg No w1 w2:=by rw[<-h2];exact(Chg.refl _ w1).alloc _
 have s2:w2.heap.size=w.heap.size+2:=by rw[<-h2,World.size_alloc,s1]
 rw[h2];have g3:Chg No w2 (w2.alloc (.cells (ints (fun _=>0) 24).toArray 30)):=(Chg.refl _ w2).alloc _;refine⟨_,rfl,(a1.chg g2 (fun f=>f)).chg g3 (fun f=>f),(g3.block _ om (fun f=>f)).trans a2,?_,g1.trans (g2.trans g3),by rw[World.size_alloc,s2]⟩;have:=IB.new w2 30 24 (fun _=>0)
 rwa [s2] at this
theorem hJ{kd a x:Int}(h:w.heap[n]?=some (.cells #[.int .i64 kd,.int .i64 a,.int .i64 x] 67)):w.cell? ⟨n,0,none⟩=some (.int .i64 kd)/\w.cell? ⟨n,1,none⟩=some (.int .i64 a)/\w.cell? ⟨n,2,none⟩=some (.int .i64 x):=by
 refine⟨?_,?_,?_⟩ <;> · simp only[World.cell?,h];rfl
theorem CoreAt.out'{K:BC}(h:CoreAt A w K)(n:∀x,Cor A x\/x=A.p\/x=A.q->¬ S x)(hc:Chg S w w'):CoreAt A w' K:=by
 obtain⟨f1,f2,f3,f4,f5,f6,f7⟩:=h.frame hc;exact⟨f1 (n _ (AK (AK rfl))),f2 (n _ (AK (AL (AK rfl)))) (n _ (AL (AK rfl))) (n _ (AL (AL rfl))) (n _ (AK (AL (AL (AL (AK rfl)))))),f3 (n _ (AK (AL (AL (AK rfl))))),f4 (n _ (AK (AL (AL (AL (AL (AK rfl))))))),f5 (n _ (AK (AL (AL (AL (AL (AL (AK rfl)))))))),f6 (n _ (AK (AL (AL (AL (AL (AL (AL (AK rfl))))))))),f7 (n _ (AK (AL (AL (AL (AL (AL (AL (AL rfl))))))))),h.wf⟩
def Lw (A:Ad) (D n:Nat):Prop:=∀x,(Cor A x\/x=A.p\/x=A.q)\/x=D->x<n
theorem EP.lw(h:EP w D A B La):Lw A D w.heap.size:=by
 obtain⟨K,G,h1,-⟩:=h;intro x e;rcases e with e | rfl
 ·exact h1.core.low x e
 ·exact h1.dv.lt
theorem EP.far(h:EP w D A B La)(l:Lw A D n)(hS:∀k,S k->n<=k)(hc:Chg S w w'):EP w' D A B La:=by
 obtain⟨K,G,h1,h2⟩:=h;exact⟨K,G,⟨h1.dv.chg hc (fun e=>by have:=hS _ e;have:=l D (AL rfl);omega),h1.core.out' (fun x e f=>by have:=hS _ f;have:=l x (AK e);omega) hc,h1.nd⟩,h2⟩
structure Rg (w wx:Wd) (D:Nat) (A:Ad) (B:Nat) (La L:Nat->Int) (n:Nat):Prop where
 lw:Lw A D n
 t:Chg (fun k=>n<=k\/Cor A k) w wx
 d:EP wx D A B La
 r:IB wx n 30 24 L
 h:∃F0,IB wx (n+1+1) 30 24 F0
 s:n+3<=wx.heap.size
theorem Rg.chg(h:Rg w wx D A B La L n)(hc:Chg S wx wy)(hS:∀k,S k->n<=k\/Cor A k)(h0:¬ S n)(h2:¬ S (n+1+1))(hd:EP wy D A B' La'):Rg w wy D A B' La' L n:=
 ⟨h.lw,h.t.trans (hc.mono (fun k _ e=>hS k e)),hd,h.r.chg hc h0,by obtain⟨F0,hF⟩:=h.h;exact⟨F0,hF.chg hc h2⟩,AY h.s hc.size⟩
theorem Rg.chg0(h:Rg w wx D A B La L n)(hc:Chg No wx wy):Rg w wy D A B La L n:=h.chg hc (fun _ f=>f.elim) (fun f=>f) (fun f=>f) (h.d.chg0 hc)
theorem Rg.cor(h:Rg w wx D A B La L n)(hc:Chg (Cor A) wx wy)(hd:EP wy D A B' La'):Rg w wy D A B' La' L n:=
 h.chg hc (fun _ e=>AL e) (fun e=>by have:=h.lw n (AK (AK e));omega) (fun e=>by have:=h.lw (n+1+1) (AK (AK e));omega) hd
theorem Rg.store(h:Rg w wx D A B La L n)(hI:IB wy (n+1+1) 30 24 F)(hc:Chg (·=n+1+1) wx wy):Rg w wy D A B La L n:=
 ⟨h.lw,h.t.trans (hc.mono (fun k _ e=>AK om)),h.d.far h.lw (fun k e=>om) hc,h.r.chg hc om,⟨F,hI⟩,AY h.s hc.size⟩
theorem Rg.drew(h:Rg w wx D A B La L n):Rg w wx.drew D A B La L n:=h.chg0 (Chg.refl _ wx).drew
theorem IB.range{b:Nat}{t:TypeId}(h:IB w b t n F):w.rangeAt b 0 (ints F n):=fun j v hv=>by
 have hj:j<n:=by have:=(List.getElem?_eq_some_iff.1 hv).1;rwa [BD] at this
 rw[BU _ _ _ hj] at hv
 rw[<-hv,AW]
 exact(h.cell j hj).1
theorem Bp{ops:Array Oper}{o:Oper}{a:Act}{K:Act->World->Prop}{Q:Exit->Act->World->Prop}{E:Prop}(hgd:o.guard=none)(x y:Operand)(ho:o.op=.store 30 x y)(g:Nat)(hx:a.eval x=.pointer (some ⟨g,0,none⟩))(F:Nat->Int)(hy:a.eval y=.agg (ints F 24).toArray){F0:Nat->Int}(hg:IB w g 30 24 F0)(h:∀w',IB w' g 30 24 F->Chg (·=g) w w'->K (a.put o.dst undef) w'):if Region.wanted o (yielded ops a.tmps)=true then Oper.wp prog o a w K Q else E:=by
 rw[AJ (by simp[Region.wanted,hgd])];exact wp_store_row 30 x y ho g _ hx hy 30 _ hg (by rw[KD];simp[BD]) (by simp[BD]) (all_oneCell_toArray (CU _ _)) (h _ (setRow_heap w g _ _ 30 _ hg) (DZ _ _ _))
theorem DR{fn:Func}{p u v:Tmp}(h:fn.results=#[.cell p 30,.tmp u,.tmp v])(tmps:Array Value){g:Nat}(hp:tmps.getD p undef=.pointer (some ⟨g,0,none⟩))(hr:w.rangeAt g 0 (ints F 24)) :(results fn tmps).run prog w=.ok (.tuple #[.agg (ints F 24).toArray,tmps.getD u undef,tmps.getD v undef]) w:=by
 have hl:=run_loadVar_mid (P:=prog) w g 0 30 (ints F 24) _ hr underlying30 rfl (by rw[BD];exact KD);unfold results;rw[h];have hp':=hp;simp only[Array.getD_eq_getD_getElem?] at hp';simp[hp',asAddr,hl]
theorem N0(D:Nat)(A:Ad)(B:Nat)(La:Nat->Int)(w:Wd)(h:EP w D A B La)(hB:B+1<1073741824)(kd a x:Int)(hk:i64r kd)(ha:i64r a)(hx:i64r x) :Calls prog 27 #[.pointer (some ⟨D,0,none⟩),.agg (ints La 24).toArray,.agg #[.int .i64 kd,.int .i64 a,.int .i64 x]] w fun e w'=>∃v,e=.returned (.tuple #[.agg (ints (dsA La kd a x) 24).toArray,v,.nilIface])/\EP w' D A (B+2) (dsA La kd a x)/\Xq w' w.heap.size v (dsR La kd a)/\Chg (Cor A) w w':=by
 obtain⟨w3,e3,hI,hP,hR,hG,hS3⟩:=Pm La kd a x w;obtain⟨n,hn⟩:∃n,w.heap.size=n:=⟨_,rfl⟩;have hlw:=h.lw;rw[hn] at hI hP hR hS3 hlw;have HLW:=BB hlw;have HN:=BB hn;have E3:=BB e3;have HI:=BB hI;have HP:=BB hP;have HR:=BB hR;have HG:=BB hG;have HS:=BB hS3;have H:=BB (h.chg0 hG);have HLOW:=BB h.low;have hkq:=I0 kd hk 6 dc dc;have haq:=I0 a ha 24 dc dc;have hxq:=I0 x hx 1000000 dc dc;have hL:=MC a 24 dc;have hL0:(pkN a 24:Int)<24:=om
 have hL1:(0:Int)<=(pkN a 24:Int):=om
 have hx1:=MC x 1000000 dc;have EA:Hid (∀q,q=pkN kd 6->dsA La kd a x=if q<3 then upd La (pkN a 24) (numN x:Nat) else if q=3 then upd La (pkN a 24) 0 else La):=fun q e=>by subst e;rfl
 have ER:Hid (∀q,q=pkN kd 6->dsR La kd a=if q<4 then [] else J4 (La (pkN a 24))):=fun q e=>by subst e;rfl
 have hnum:((numN x:Nat):Int)=1+((pkN x 1000000:Nat):Int):=by unfold numN;omega
 have HNUM:=BB hnum;have hk6:=MC kd 6 dc;clear h e3 hI hP hR hG hS3 hnum hn hlw;obtain⟨p0,p1,p2⟩:=hJ HP.out;go_enter func27,ntmps27
 go_upto_region 1 with (first | refine Bn rfl rfl ?_)
 rw[E3.out,HN.out];clear E3;generalize hlb:dsA La kd a x=Lb at *
 generalize hlr:dsR La kd a=Lr at *
 have HLB:=BB hlb;have HLR:=BB hlr;clear hlb hlr;generalize pkN kd 6=q at *
 generalize pkN a 24=of at *
 generalize pkN x 1000000=xn at *
 generalize numN x=N at *
 go_wp2_with fail;refine(haq _).mono ?_;rintro e w3 ⟨rfl,rfl⟩;go_wp2_with fail;refine(hxq _).mono ?_;rintro e w3 ⟨rfl,rfl⟩;go_wp2_with fail;refine(hkq _).mono ?_;rintro e w3 ⟨rfl,rfl⟩;clear haq hxq hkq p0 p1 p2;have hcq:q=0\/q=1\/q=2\/q=3\/4<=q:=om
 obtain⟨ci,cf⟩:=HI.out.cell of hL;rcases hcq with rfl | rfl | rfl | rfl | hq4
 ·go_upto_region 8 with fail
  rw[<-HNUM.out];have G4:Chg (fun k=>k=n) w3 (w3.setCell ⟨n,of,none⟩ (.int .i64 (N:Nat))):=(Chg.refl (·=n) w3).setCell (AK rfl) of (.int .i64 (N:Nat));have HI4:=HI.out.set of (N:Nat);have HR4:=HR.out.chg G4 om;have R4:Rg w (w3.setCell ⟨n,of,none⟩ (.int .i64 (N:Nat))) D A B La (upd La of (N:Nat)) n:=
   ⟨HLW.out,(HG.out.mono (fun _ _ f=>f.elim)).trans (G4.mono (fun k _ e=>AK om)),H.out.far HLW.out (fun k e=>om) G4,HI4,⟨_,HR4⟩,by have:=G4.size;have:=HS.out;have:=HN.out;omega⟩
  have ELb:=EA.out 0 rfl;have ELr:=ER.out 0 rfl;rw[AJ dc] at ELb ELr;have HEB:=BB ELb;have HER:=BB ELr;rw[<-ELb] at R4;clear HI HG H HR HP ci cf HNUM G4 HI4 HR4 EA ER HS ELb ELr;generalize w3.setCell ⟨n,of,none⟩ (.int .i64 (N:Nat))=w4 at *
  have R4d:=BB R4.drew;refine wp_region_noPanic ?_;refine wp_region_held_drew (S:=fun wx=>IB wx n 30 24 Lb) kr R4d.out.r (fun hHeld=>?_);refine Ab (i:=0) rfl kr kr kr (fun _ _ _ h=>h) (AK ⟨rfl,fun _ hw=>BX rfl rfl hw⟩) hHeld ?_;simp only[Act.put,bu];refine Ab (i:=1) rfl kr kr kr (fun _ _ _ h=>h) (AK ⟨rfl,fun _ hw=>rfl⟩) hHeld ?_;simp only[Act.put,bu];refine Ab (i:=2) rfl kr kr kr (fun _ _ _ h=>h) (AK ⟨rfl,fun _ hw=>rfl⟩) hHeld ?_;simp only[Act.put,bu];refine Ab (i:=3) rfl kr kr kr (fun _ _ _ h=>h) (AK ⟨rfl,fun _ hw=>rfl⟩) hHeld ?_;simp only[Act.put,bu];refine wpAnyH_ready (rs:=[4]) kr (by simp) ?_;refine AllReadyH.cons rfl (fun K' hK=>?_) AllReadyH.nil;go_simp;refine(Iy (N:Nat) _).mono ?_;rintro e wb ⟨rfl,hAb,Gb⟩;have Rb:=R4d.out.chg0 Gb;refine hK.out _ _ Rb.r (fun hHeld=>?_);clear hK K';refine wpAnyH_ready (rs:=[5]) kr (by simp) ?_;refine AllReadyH.cons rfl (fun K' hK=>?_) AllReadyH.nil;go_simp;refine(F8 D A B La _ Rb.d hB of hL (N:Nat) _ 0 160 hAb.at_ (fun e=>by have h1:=HLW.out _ (AK (AK e));have h2:=R4d.out.s;omega)).mono ?_;rintro e wd ⟨rfl,hDd,Gd⟩;have Rd:=Rb.cor Gd hDd;refine hK.out _ _ Rd.r (fun hHeld=>?_);clear hK K';refine wpAnyH_ready (rs:=[6]) kr (by simp) ?_;refine AllReadyH.cons rfl (fun K' hK=>?_) AllReadyH.nil;obtain⟨F1,hF1⟩:=Rd.h;refine Bp rfl (.tmp 6) (.tmp 31) rfl (n+1+1) rfl Lb rfl hF1 ?_;intro ws1 Is1 Gs1;have Rz:=Rd.store Is1 Gs1;clear hF1;refine hK.out _ _ Rz.r (fun hHeld=>?_);clear hK K';simp only[Act.put,bu];refine Ab (i:=7) rfl kr kr kr (fun _ _ _ h=>h) (AK ⟨rfl,fun _ _=>rfl⟩) hHeld ?_;simp only[Act.put,bu];refine Ab (i:=8) rfl kr kr kr (fun _ _ _ h=>h) (AK ⟨rfl,fun _ _=>rfl⟩) hHeld ?_;simp only[Act.put,bu];refine wpAnyH_done kr ?_ _;refine NoPanic.normal ?_;have HF:=BB Rz;have HIF:=BB Is1;go_wp2;refine AZ (DR rfl _ rfl HIF.out.range) rfl ?_;refine⟨_,by rw[HLB.out];rfl,?_,AK ⟨rfl,HLR.out.trans HER.out⟩,HF.out.t.mono (fun k hk e=>e.resolve_left (by have:=HN.out;omega))⟩;rw[HLB.out,HEB.out];exact HF.out.d
 ·go_upto_region 8 with fail
  rw[<-HNUM.out];have G4:Chg (fun k=>k=n) w3 (w3.setCell ⟨n,of,none⟩ (.int .i64 (N:Nat))):=(Chg.refl (·=n) w3).setCell (AK rfl) of (.int .i64 (N:Nat));have HI4:=HI.out.set of (N:Nat);have HR4:=HR.out.chg G4 om;have R4:Rg w (w3.setCell ⟨n,of,none⟩ (.int .i64 (N:Nat))) D A B La (upd La of (N:Nat)) n:=
   ⟨HLW.out,(HG.out.mono (fun _ _ f=>f.elim)).trans (G4.mono (fun k _ e=>AK om)),H.out.far HLW.out (fun k e=>om) G4,HI4,⟨_,HR4⟩,by have:=G4.size;have:=HS.out;have:=HN.out;omega⟩
  have ELb:=EA.out 1 rfl;have ELr:=ER.out 1 rfl;rw[AJ dc] at ELb ELr;have HEB:=BB ELb;have HER:=BB ELr;rw[<-ELb] at R4;clear HI HG H HR HP ci cf HNUM G4 HI4 HR4 EA ER HS ELb ELr;generalize w3.setCell ⟨n,of,none⟩ (.int .i64 (N:Nat))=w4 at *
  have R4d:=BB R4.drew;refine wp_region_noPanic ?_;refine wp_region_held_drew (S:=fun wx=>IB wx n 30 24 Lb) kr R4d.out.r (fun hHeld=>?_);refine Ab (i:=0) rfl kr kr kr (fun _ _ _ h=>h) (AK ⟨rfl,fun _ hw=>BX rfl rfl hw⟩) hHeld ?_;simp only[Act.put,bu];refine Ab (i:=1) rfl kr kr kr (fun _ _ _ h=>h) (AK ⟨rfl,fun _ hw=>rfl⟩) hHeld ?_;simp only[Act.put,bu];refine Ab (i:=2) rfl kr kr kr (fun _ _ _ h=>h) (AK ⟨rfl,fun _ hw=>rfl⟩) hHeld ?_;simp only[Act.put,bu];refine Ab (i:=3) rfl kr kr kr (fun _ _ _ h=>h) (AK ⟨rfl,fun _ hw=>rfl⟩) hHeld ?_;simp only[Act.put,bu];refine wpAnyH_ready (rs:=[4]) kr (by simp) ?_;refine AllReadyH.cons rfl (fun K' hK=>?_) AllReadyH.nil;go_simp;refine(Iy (N:Nat) _).mono ?_;rintro e wb ⟨rfl,hAb,Gb⟩;have Rb:=R4d.out.chg0 Gb;refine hK.out _ _ Rb.r (fun hHeld=>?_);clear hK K';refine wpAnyH_ready (rs:=[5]) kr (by simp) ?_;refine AllReadyH.cons rfl (fun K' hK=>?_) AllReadyH.nil;go_simp;refine(F8 D A B La _ Rb.d hB of hL (N:Nat) _ 0 160 hAb.at_ (fun e=>by have h1:=HLW.out _ (AK (AK e));have h2:=R4d.out.s;omega)).mono ?_;rintro e wd ⟨rfl,hDd,Gd⟩;have Rd:=Rb.cor Gd hDd;refine hK.out _ _ Rd.r (fun hHeld=>?_);clear hK K';refine wpAnyH_ready (rs:=[6]) kr (by simp) ?_;refine AllReadyH.cons rfl (fun K' hK=>?_) AllReadyH.nil;obtain⟨F1,hF1⟩:=Rd.h;refine Bp rfl (.tmp 6) (.tmp 31) rfl (n+1+1) rfl Lb rfl hF1 ?_;intro ws1 Is1 Gs1;have Rz:=Rd.store Is1 Gs1;clear hF1;refine hK.out _ _ Rz.r (fun hHeld=>?_);clear hK K';simp only[Act.put,bu];refine Ab (i:=7) rfl kr kr kr (fun _ _ _ h=>h) (AK ⟨rfl,fun _ _=>rfl⟩) hHeld ?_;simp only[Act.put,bu];refine Ab (i:=8) rfl kr kr kr (fun _ _ _ h=>h) (AK ⟨rfl,fun _ _=>rfl⟩) hHeld ?_;simp only[Act.put,bu];refine wpAnyH_done kr ?_ _;refine NoPanic.normal ?_;have HF:=BB Rz;have HIF:=BB Is1;go_wp2;refine AZ (DR rfl _ rfl HIF.out.range) rfl ?_;refine⟨_,by rw[HLB.out];rfl,?_,AK ⟨rfl,HLR.out.trans HER.out⟩,HF.out.t.mono (fun k hk e=>e.resolve_left (by have:=HN.out;omega))⟩;rw[HLB.out,HEB.out];exact HF.out.d
 ·go_upto_region 8 with fail
  rw[<-HNUM.out];have G4:Chg (fun k=>k=n) w3 (w3.setCell ⟨n,of,none⟩ (.int .i64 (N:Nat))):=(Chg.refl (·=n) w3).setCell (AK rfl) of (.int .i64 (N:Nat));have HI4:=HI.out.set of (N:Nat);have HR4:=HR.out.chg G4 om;have R4:Rg w (w3.setCell ⟨n,of,none⟩ (.int .i64 (N:Nat))) D A B La (upd La of (N:Nat)) n:=
   ⟨HLW.out,(HG.out.mono (fun _ _ f=>f.elim)).trans (G4.mono (fun k _ e=>AK om)),H.out.far HLW.out (fun k e=>om) G4,HI4,⟨_,HR4⟩,by have:=G4.size;have:=HS.out;have:=HN.out;omega⟩
  have ELb:=EA.out 2 rfl;have ELr:=ER.out 2 rfl;rw[AJ dc] at ELb ELr;have HEB:=BB ELb;have HER:=BB ELr;rw[<-ELb] at R4;clear HI HG H HR HP ci cf HNUM G4 HI4 HR4 EA ER HS ELb ELr;generalize w3.setCell ⟨n,of,none⟩ (.int .i64 (N:Nat))=w4 at *
  have R4d:=BB R4.drew;refine wp_region_noPanic ?_;refine wp_region_held_drew (S:=fun wx=>IB wx n 30 24 Lb) kr R4d.out.r (fun hHeld=>?_);refine Ab (i:=0) rfl kr kr kr (fun _ _ _ h=>h) (AK ⟨rfl,fun _ hw=>BX rfl rfl hw⟩) hHeld ?_;simp only[Act.put,bu];refine Ab (i:=1) rfl kr kr kr (fun _ _ _ h=>h) (AK ⟨rfl,fun _ hw=>rfl⟩) hHeld ?_;simp only[Act.put,bu];refine Ab (i:=2) rfl kr kr kr (fun _ _ _ h=>h) (AK ⟨rfl,fun _ hw=>rfl⟩) hHeld ?_;simp only[Act.put,bu];refine Ab (i:=3) rfl kr kr kr (fun _ _ _ h=>h) (AK ⟨rfl,fun _ hw=>rfl⟩) hHeld ?_;simp only[Act.put,bu];refine wpAnyH_ready (rs:=[4]) kr (by simp) ?_;refine AllReadyH.cons rfl (fun K' hK=>?_) AllReadyH.nil;go_simp;refine(Iy (N:Nat) _).mono ?_;rintro e wb ⟨rfl,hAb,Gb⟩;have Rb:=R4d.out.chg0 Gb;refine hK.out _ _ Rb.r (fun hHeld=>?_);clear hK K';refine wpAnyH_ready (rs:=[5]) kr (by simp) ?_;refine AllReadyH.cons rfl (fun K' hK=>?_) AllReadyH.nil;go_simp;refine(F8 D A B La _ Rb.d hB of hL (N:Nat) _ 0 160 hAb.at_ (fun e=>by have h1:=HLW.out _ (AK (AK e));have h2:=R4d.out.s;omega)).mono ?_;rintro e wd ⟨rfl,hDd,Gd⟩;have Rd:=Rb.cor Gd hDd;refine hK.out _ _ Rd.r (fun hHeld=>?_);clear hK K';refine wpAnyH_ready (rs:=[6]) kr (by simp) ?_;refine AllReadyH.cons rfl (fun K' hK=>?_) AllReadyH.nil;obtain⟨F1,hF1⟩:=Rd.h;refine Bp rfl (.tmp 6) (.tmp 31) rfl (n+1+1) rfl Lb rfl hF1 ?_;intro ws1 Is1 Gs1;have Rz:=Rd.store Is1 Gs1;clear hF1;refine hK.out _ _ Rz.r (fun hHeld=>?_);clear hK K';simp only[Act.put,bu];refine Ab (i:=7) rfl kr kr kr (fun _ _ _ h=>h) (AK ⟨rfl,fun _ _=>rfl⟩) hHeld ?_;simp only[Act.put,bu];refine Ab (i:=8) rfl kr kr kr (fun _ _ _ h=>h) (AK ⟨rfl,fun _ _=>rfl⟩) hHeld ?_;simp only[Act.put,bu];refine wpAnyH_done kr ?_ _;refine NoPanic.normal ?_;have HF:=BB Rz;have HIF:=BB Is1;go_wp2;refine AZ (DR rfl _ rfl HIF.out.range) rfl ?_;refine⟨_,by rw[HLB.out];rfl,?_,AK ⟨rfl,HLR.out.trans HER.out⟩,HF.out.t.mono (fun k hk e=>e.resolve_left (by have:=HN.out;omega))⟩;rw[HLB.out,HEB.out];exact HF.out.d
 ·go_upto_region 11 with fail
  have G4:Chg (fun k=>k=n) w3 (w3.setCell ⟨n,of,none⟩ (.int .i64 0)):=(Chg.refl (·=n) w3).setCell (AK rfl) of (.int .i64 0);have HI4:=HI.out.set of 0;have HR4:=HR.out.chg G4 om;have R4:Rg w (w3.setCell ⟨n,of,none⟩ (.int .i64 0)) D A B La (upd La of 0) n:=
   ⟨HLW.out,(HG.out.mono (fun _ _ f=>f.elim)).trans (G4.mono (fun k _ e=>AK om)),H.out.far HLW.out (fun k e=>om) G4,HI4,⟨_,HR4⟩,by have:=G4.size;have:=HS.out;have:=HN.out;omega⟩
  have ELb:=EA.out 3 rfl;have ELr:=ER.out 3 rfl;rw[AI dc,AJ dc] at ELb;rw[AJ dc] at ELr;have HEB:=BB ELb;have HER:=BB ELr;rw[<-ELb] at R4;clear HI HG H HR HP ci cf HNUM G4 HI4 HR4 EA ER HS ELb ELr;generalize w3.setCell ⟨n,of,none⟩ (.int .i64 0)=w4 at *
  have R4d:=BB R4.drew;refine wp_region_noPanic ?_;refine wp_region_held_drew (S:=fun wx=>IB wx n 30 24 Lb) kr R4d.out.r (fun hHeld=>?_);refine Ab (i:=0) rfl kr kr kr (fun _ _ _ h=>h) (AK ⟨rfl,fun _ hw=>BX rfl rfl hw⟩) hHeld ?_;simp only[Act.put,bu];refine Ab (i:=1) rfl kr kr kr (fun _ _ _ h=>h) (AK ⟨rfl,fun _ hw=>rfl⟩) hHeld ?_;simp only[Act.put,bu];refine Ab (i:=2) rfl kr kr kr (fun _ _ _ h=>h) (AK ⟨rfl,fun _ hw=>rfl⟩) hHeld ?_;simp only[Act.put,bu];refine wpAnyH_ready (rs:=[3]) kr (by simp) ?_;refine AllReadyH.cons rfl (fun K' hK=>?_) AllReadyH.nil;go_simp;refine(Sn D A B La _ R4d.out.d hB of hL).mono ?_;rintro e wd ⟨rfl,hDd,Gd⟩;have Rd:=R4d.out.cor Gd hDd;refine hK.out _ _ Rd.r (fun hHeld=>?_);clear hK K';refine wpAnyH_ready (rs:=[4]) kr (by simp) ?_;refine AllReadyH.cons rfl (fun K' hK=>?_) AllReadyH.nil;obtain⟨F1,hF1⟩:=Rd.h;refine Bp rfl (.tmp 6) (.tmp 42) rfl (n+1+1) rfl Lb rfl hF1 ?_;intro ws1 Is1 Gs1;have Rz:=Rd.store Is1 Gs1;clear hF1;refine hK.out _ _ Rz.r (fun hHeld=>?_);clear hK K';simp only[Act.put,bu];refine Ab (i:=5) rfl kr kr kr (fun _ _ _ h=>h) (AK ⟨rfl,fun _ _=>rfl⟩) hHeld ?_;simp only[Act.put,bu];refine Ab (i:=6) rfl kr kr kr (fun _ _ _ h=>h) (AK ⟨rfl,fun _ _=>rfl⟩) hHeld ?_;simp only[Act.put,bu];refine wpAnyH_done kr ?_ _;refine NoPanic.normal ?_;have HF:=BB Rz;have HIF:=BB Is1;go_wp2;refine AZ (DR rfl _ rfl HIF.out.range) rfl ?_;refine⟨_,by rw[HLB.out];rfl,?_,AK ⟨rfl,HLR.out.trans HER.out⟩,HF.out.t.mono (fun k hk e=>e.resolve_left (by have:=HN.out;omega))⟩;rw[HLB.out,HEB.out];exact HF.out.d
 ·have q0:(q:Int)≠0:=om
  have q1:(q:Int)≠1:=om
  have q2:(q:Int)≠2:=om
  have q3:(q:Int)≠3:=om
  have e0:((q:Int) == 0)=false:=by simpa using q0
  have e1:((q:Int) == 1)=false:=by simpa using q1
  have e2:((q:Int) == 2)=false:=by simpa using q2
  have e3:((q:Int) == 3)=false:=by simpa using q3
  have ELb:=EA.out q rfl;have ELr:=ER.out q rfl;rw[AI om,AI om] at ELb;rw[AI om] at ELr;have HEB:=BB ELb;have HER:=BB ELr;have hrd:=Ky D A B La w3 H.out hB of hL;clear EA ER ELb ELr hq4 hk6 ci cf HNUM H;go_wp2_with fail;refine hrd.mono ?_;rintro e w5 ⟨gv,cv,rfl,hgv,hAt,hD5,G5⟩;have hnc:∀k,n<=k->¬ Cor A k:=fun k hk e=>by have:=HLW.out k (AK (AK e));omega
  have HI5:=BB (HI.out.chg G5 (hnc n (AM _)));have HR5:=BB (HR.out.chg G5 (hnc (n+1+1) om));have HAT:=BB hAt;have HD5:=BB hD5;have HG5:Hid (Chg (Cor A) w w5):=(HG.out.mono (fun _ _ f=>f.elim)).trans G5;have HGV:Hid (w.heap.size+3<=gv):=by have h1:=HS.out;have h2:=HN.out;show _<=_;omega
  clear hrd hgv hAt hD5 G5 HI HR HG HS hnc;go_wp2_with (first | refine CE rfl _ (BX rfl rfl HI5.out) ?_ | refine Bi rfl (.tmp 6) (.tmp 52) rfl (n+1+1) rfl rfl HR5.out ?_);intro w6 I6 G6;have HI6:=BB I6;have HG6:=BB G6;clear I6 G6;go_wp2;refine AZ (DR rfl _ rfl HI6.out.range) rfl ?_;have hn:=HN.out;have hgv:=HGV.out;refine⟨_,by rw[HLB.out,HEB.out];rfl,?_,AL ⟨gv,cv,rfl,om,?_,?_,?_⟩,HG5.out.trans' HG6.out (fun k hk e=>om)⟩
  ·rw[HLB.out,HEB.out];exact HD5.out.far HLW.out (fun k e=>om) HG6.out
  ·rw[HLR.out,HER.out];exact HAT.out.chg HG6.out om
  ·rw[HLR.out,HER.out];exact CW _
  ·rw[HLR.out,HER.out];exact Iw _
end
section
variable {w:Wd}{fn:Func}{p u:Tmp}{g:Nat}{F:Nat->Int}
set_option linter.unusedSimpArgs false
structure je (w wr:Wd) (D:Nat) (A:Ad) (B:Nat) (La:Nat->Int) (n:Nat):Prop where
 lw:Lw A D n
 d:EP wr D A B La
 i:IB wr n 30 24 La
 t:Chg (Cor A) w wr
theorem IS(D:Nat)(A:Ad)(B:Nat)(La:Nat->Int)(w:Wd)(h:EP w D A B La)(hB:B+50<1073741824) :Calls prog 28 #[.pointer (some ⟨D,0,none⟩),.agg (ints La 24).toArray] w fun e w'=>e=.returned (.bool true)/\EP w' D A (B+48) La/\Chg (Cor A) w w':=by
 have qn:=BJ;have g1:Chg No w (w.alloc (.cells (ints La 24).toArray 30)):=(Chg.refl _ w).alloc _;have HS0:Hid (je w (w.alloc (.cells (ints La 24).toArray 30)) D A B La w.heap.size):=⟨h.lw,h.chg0 g1,IB.new w 30 24 La,g1.mono (fun _ _ f=>f.elim)⟩;clear h g1;go_enter func28,ntmps28;go_wp2_with fail;generalize w.alloc (.cells (ints La 24).toArray 30)=w1 at *
 obtain⟨n,hn⟩:∃n,w.heap.size=n:=⟨_,rfl⟩;rw[hn] at HS0 ⊢
 go_loopw [5] (fun t5 wr=>∃i:Nat,i<=24/\t5=.int .i64 i/\je w wr D A (B+2*i) La n) (fun t5 _=>24 - (intOf t5).toNat)
 case atStart=>exact⟨0,om,rfl,HS0.out⟩
 case round=>
  clear HS0;obtain⟨i,hi,rfl,hS⟩:=hrel;by_cases hlt:i<24
  ·have hl1:(i:Int)<24:=om;have hl0:(0:Int)<=(i:Int):=om;have hrd:=Ky D A (B+2*i) La wr hS.d om i hlt;have HS:=BB hS;clear hS;go_wp2_with fail;refine hrd.mono ?_;rintro x w3 ⟨gv,cv,rfl,hgv,hAt,hD3,G3⟩;have hnn:¬ Cor A n:=fun e=>by have:=HS.out.lw n (AK (AK e));omega
   have hI3:=HS.out.i.chg G3 hnn;have HS3:Hid (je w w3 D A (B+2*i+2) La n):=⟨HS.out.lw,hD3,hI3,HS.out.t.trans G3⟩;obtain⟨c0,-⟩:=hI3.cell i hlt;have HAT:=BB hAt;have hlen:=CW (La i);have hbys:=Iw (La i);have HLEN:=BB hlen;have HBYS:=BB hbys;generalize La i=y at *
   clear hrd hgv hAt hD3 G3 hnn hI3 HS hlen hbys;go_wp2_with fail;refine(Iy y w3).mono ?_;rintro x w4 ⟨rfl,hA4,G4⟩;have hsm:=fP w4 gv 0 160 cv w3.heap.size 0 160 160 (J4 y) (J4 y) HLEN.out.symm HLEN.out.symm HBYS.out HBYS.out (HAT.out.chg G4 (fun f=>f)) hA4.at_;rw[AO rfl] at hsm;have HS4:Hid (je w w4 D A (B+2*i+2) La n):=⟨HS3.out.lw,HS3.out.d.chg0 G4,HS3.out.i.chg G4 (fun f=>f),HS3.out.t.trans (G4.mono (fun _ _ f=>f.elim))⟩;clear hA4 G4 c0 HAT HS3;go_wp2_with fail;refine hsm.mono ?_;rintro x w5 ⟨rfl,rfl⟩;go_wp2;exact⟨⟨i+1,om,by go_num,HS4.out⟩,by simp[intOf];omega⟩
  ·have hl1:¬ (i:Int)<24:=om;have e24:i=24:=om;subst e24;have HS:=BB hS;clear hS;go_wp2;go_ret;exact⟨rfl,HS.out.d,HS.out.t⟩
theorem N1(h:fn.results=#[.cell p 30,.tmp u])(tmps:Array Value)(hp:tmps.getD p undef=.pointer (some ⟨g,0,none⟩))(hr:w.rangeAt g 0 (ints F 24)) :(results fn tmps).run prog w=.ok (.tuple #[.agg (ints F 24).toArray,tmps.getD u undef]) w:=by
 have hl:=run_loadVar_mid (P:=prog) w g 0 30 (ints F 24) _ hr underlying30 rfl (by rw[BD];exact KD);unfold results;rw[h];have hp':=hp;simp only[Array.getD_eq_getD_getElem?] at hp';simp[hp',asAddr,hl]
theorem N4{v:Tmp}(h:fn.results=#[.tmp u,.tmp v,.cell p 30])(tmps:Array Value)(hp:tmps.getD p undef=.pointer (some ⟨g,0,none⟩))(hr:w.rangeAt g 0 (ints F 24)) :(results fn tmps).run prog w=.ok (.tuple #[tmps.getD u undef,tmps.getD v undef,.agg (ints F 24).toArray]) w:=by
 have hl:=run_loadVar_mid (P:=prog) w g 0 30 (ints F 24) _ hr underlying30 rfl (by rw[BD];exact KD);unfold results;rw[h];have hp':=hp;simp only[Array.getD_eq_getD_getElem?] at hp';simp[hp',asAddr,hl]
theorem Fk{o:Oper}{a:Act}(ho:o.op=.build 30 #[]):(execOp a.eval o).run prog w=.ok (.value (.agg (ints (fun _=>0) 24).toArray)) w:=by
 have hb:=Xi w;unfold execOp;simp[ho,hb]
theorem Sp(D:Nat)(La:Nat->Int)(w:Wd):Calls prog 45 #[.pointer (some ⟨D,0,none⟩),.agg (ints La 24).toArray,.slice none 0 0] w fun e w'=>e=.returned (.tuple #[.agg (ints La 24).toArray,.bool true])/\Chg No w w':=by
 have g1:Chg No w (w.alloc (.cells (ints La 24).toArray 30)):=(Chg.refl _ w).alloc _;have HI:Hid (IB (w.alloc (.cells (ints La 24).toArray 30)) w.heap.size 30 24 La):=IB.new w 30 24 La;have HG:=BB g1;have HZ:Hid ((w.alloc (.cells (ints La 24).toArray 30)).heap.size=w.heap.size+1):=World.size_alloc _ _;clear g1;go_enter func45,ntmps45
 go_upto_region 1 with (first | refine Bn rfl rfl ?_)
 generalize w.alloc (.cells (ints La 24).toArray 30)=w1 at *
 have g2:Chg No w1 (w1.alloc (.cells (ints (fun _=>0) 24).toArray 30)):=(Chg.refl _ w1).alloc _;have HI2:=BB (HI.out.chg g2 (fun f=>f));have HR2:Hid (IB (w1.alloc (.cells (ints (fun _=>0) 24).toArray 30)) (w.heap.size+1) 30 24 (fun _=>0)):=by
  have:=IB.new w1 30 24 (fun _=>0)
  rwa [HZ.out] at this
 have HG2:=BB (HG.out.trans g2);clear g2 HI HG;generalize w1.alloc (.cells (ints (fun _=>0) 24).toArray 30)=w2 at *
 obtain⟨n,hn⟩:∃n,w.heap.size=n:=⟨_,rfl⟩;have HN:=BB hn;rw[hn] at HI2 HR2 ⊢;clear hn;go_wp2_with fail
 go_loopw [8] (fun t8 wr=>t8=.int .i64 0/\w2=wr) (fun _ _=>0)
 case atStart=>exact⟨rfl,rfl⟩
 case round=>
  obtain⟨rfl,rfl⟩:=hrel;go_wp2_with (first | refine CE rfl _ (BX rfl rfl HI2.out) ?_ | refine Bi rfl (.tmp 6) (.tmp 52) rfl (n+1) rfl rfl HR2.out ?_);intro w3 I3 G3;have HI3:=BB I3;have HG3:=BB (HG2.out.trans' G3 (fun k hk e=>by have:=HN.out;omega));clear I3 G3;go_wp2;refine AZ (N1 rfl _ rfl HI3.out.range) rfl ?_;exact⟨rfl,HG3.out⟩
theorem Kz(w:Wd):Calls prog 25 #[.slice none 0 0] w fun e w'=>∃D A,e=.returned (.tuple #[.pointer (some ⟨A.g,0,none⟩),.pointer (some ⟨D,0,none⟩),.agg (ints (fun _=>0) 24).toArray])/\(∀x,(Cor A x\/x=A.p\/x=A.q)\/x=D->w.heap.size<=x)/\EP w' D A 0 (fun _=>0)/\Chg No w w':=by
 have p1:=Qp;have p2:=Kx;have g1:Chg No w (w.alloc (.cells (ints (fun _=>0) 24).toArray 30)):=(Chg.refl _ w).alloc _;have HI1:Hid (IB (w.alloc (.cells (ints (fun _=>0) 24).toArray 30)) w.heap.size 30 24 (fun _=>0)):=IB.new w 30 24 _;have HG1:=BB g1;have HZ1:Hid ((w.alloc (.cells (ints (fun _=>0) 24).toArray 30)).heap.size=w.heap.size+1):=World.size_alloc _ _;clear g1;go_enter func25,ntmps25
 go_upto_region 1 with (first | refine Bn rfl rfl ?_)
 generalize w.alloc (.cells (ints (fun _=>0) 24).toArray 30)=w1 at *
 have g2:Chg No w1 (w1.alloc (.cells (ints (fun _=>0) 24).toArray 30)):=(Chg.refl _ w1).alloc _;have HI2:=BB (HI1.out.chg g2 (fun f=>f));have HR2:Hid (IB (w1.alloc (.cells (ints (fun _=>0) 24).toArray 30)) w1.heap.size 30 24 (fun _=>0)):=IB.new w1 30 24 _;have HG2:=BB (HG1.out.trans g2);obtain⟨n,hn⟩:∃n,w.heap.size=n:=⟨_,rfl⟩;have HN:=BB hn;rw[hn] at HI2 HZ1 ⊢;clear g2 HI1 HG1 hn;go_wp2_with (first | refine Bn rfl rfl ?_ | refine CE rfl _ (Fk rfl) ?_ | refine Bi rfl (.tmp 5) (.tmp 10) rfl w1.heap.size rfl rfl HR2.out ?_);intro w3 I3 G3;have HI3:=BB (HI2.out.chg G3 (by have:=HZ1.out;omega));have HJ3:=BB I3;have HG3:=BB (HG2.out.trans' G3 (fun k hk e=>by have:=HN.out;have:=HZ1.out;omega));clear I3 G3 HI2 HR2 HG2;generalize w1.heap.size=nb at *
 go_wp2_with fail;refine(UG w3).mono ?_;rintro e w4 ⟨rfl,hC4,G4⟩;have hoc:=Pk w3.heap.size w4 hC4;have HI4:=BB (HI3.out.chg G4 (fun f=>f));have HJ4:=BB (HJ3.out.chg G4 (fun f=>f));have HG4:=BB (HG3.out.trans G4);have HC4:=BB hC4.lt;have HS3:Hid (n+2<=w3.heap.size):=by have:=HJ3.out.lt;have:=HZ1.out;show _<=_;omega
 have HS34:=BB G4.size;clear hC4 G4 HI3 HJ3 HG3;go_wp2_with fail;refine hoc.mono ?_;rintro e w5 ⟨D,A,rfl,eg,hlo,hDl,hD5,G5⟩;have h3:=HS3.out;have h34:=HS34.out;have HI5:=BB (HI4.out.chg G5 om);have HJ5:=BB (HJ4.out.chg G5 (by have:=HZ1.out;omega));have HG5:Hid (Chg No w w5):=HG4.out.trans' G5 (fun k hk e=>by have:=HN.out;omega);have HLO:Hid (∀x,(Cor A x\/x=A.p\/x=A.q)\/x=D->n+2<=x):=fun x e=>by
  rcases e with e | rfl
  ·rcases hlo x e with e2 | e2 <;> omega
  ·omega
 have HD5:=BB hD5;have HE:=BB eg;rw[<-eg];clear hoc hlo hDl hD5 G5 HI4 HJ4 HG4 eg h3 h34;go_wp2_with (first | refine CE rfl _ (BX rfl rfl HJ5.out) ?_);refine(Sp D (fun _=>0) w5).mono ?_;rintro e w6 ⟨rfl,G6⟩;have HI6:=BB (HI5.out.chg G6 (fun f=>f));have HG6:=BB (HG5.out.trans G6);have HD6:=BB (HD5.out.chg0 G6);have HR6:=BB (IB.new w6 30 24 (fun _=>0));have g7:Chg No w6 (w6.alloc (.cells (ints (fun _=>0) 24).toArray 30)):=(Chg.refl _ w6).alloc _;have HG7:=BB (HG6.out.trans g7);have HD7:=BB (HD6.out.chg0 g7);have HI7:=BB (HI6.out.chg g7 (fun f=>f));have HL6:=BB HI6.out.lt;have HLD6:=BB HD6.out.lw;clear G6 HI5 HJ5 HG5 HD5 g7 HI6 HG6 HD6;go_wp2_with (first | refine Bn rfl rfl ?_ | refine Bi rfl (.tmp 8) (.tmp 25) rfl w6.heap.size rfl rfl HR6.out ?_);intro w8 I8 G8;have HI8:=BB (HI7.out.chg G8 (by have:=HL6.out;omega));have HJ8:=BB I8;have HG8:=BB (HG7.out.trans' G8 (fun k hk e=>by have:=HL6.out;have:=HN.out;omega));have HD8:=BB (HD7.out.far HLD6.out (fun k e=>om) G8);clear I8 G8 HI7 HR6 HG7 HD7;generalize w6.heap.size=m at *
 go_wp2_with fail;refine wp_region_noPanic ?_;refine wp_region_held_drew (S:=fun wx=>IB wx m 30 24 (fun _=>0)) kr (HJ8.out.drew) (fun hHeld=>?_);refine Ab (i:=0) rfl kr kr kr (fun _ _ _ h=>h) (AK ⟨rfl,fun _ hw=>rfl⟩) hHeld ?_;simp only[Act.put,bu];refine Ab (i:=1) rfl kr kr kr (fun _ _ _ h=>h) (AK ⟨rfl,fun _ hw=>rfl⟩) hHeld ?_;simp only[Act.put,bu];refine Ab (i:=2) rfl kr kr kr (fun _ _ _ h=>h) (AK ⟨rfl,fun _ hw=>BX rfl rfl hw⟩) hHeld ?_;simp only[Act.put,bu];refine Ab (i:=3) rfl kr kr kr (fun _ _ _ h=>h) (AK ⟨rfl,fun _ hw=>rfl⟩) hHeld ?_;simp only[Act.put,bu];refine Ab (i:=4) rfl kr kr kr (fun _ _ _ h=>h) (AK ⟨rfl,fun _ hw=>rfl⟩) hHeld ?_;simp only[Act.put,bu];refine wpAnyH_ready (rs:=[5]) kr (by simp) ?_;refine AllReadyH.cons rfl (fun K' hK=>?_) AllReadyH.nil;refine Bp rfl (.tmp 4) (.tmp 32) rfl n rfl (fun _=>0) rfl HI8.out.drew ?_;intro w9 I9 G9;have G9':Chg (·=n) w8 w9:=(Chg.refl (·=n) w8).drew.trans G9;have HI9:=BB I9;have HG9:=BB (HG8.out.trans' G9' (fun k hk e=>by have:=HN.out;omega));have HD9:Hid (EP w9 D A 0 (fun _=>0)):=by
  obtain⟨K,G,h1,h2⟩:=HD8.out;exact⟨K,G,⟨h1.dv.chg G9' (fun e=>by have:=HLO.out D (AL rfl);omega),h1.core.out' (fun x e f=>by have:=HLO.out x (AK e);omega) G9',h1.nd⟩,h2⟩
 refine hK.out _ _ (HJ8.out.drew.chg G9 (by have:=HL6.out;omega)) (fun hHeld=>?_);clear hK K' I9 G9 G9';simp only[Act.put,bu];refine wpAnyH_done kr ?_ _;refine NoPanic.normal ?_;go_wp2;refine AZ (N4 rfl _ rfl HI9.out.range) rfl ?_;exact⟨D,A,rfl,fun x e=>by have:=HLO.out x e;have:=HN.out;omega,HD9.out,HG9.out⟩
end
section
variable {w w':Wd}{S:Nat->Prop}
set_option linter.unusedSimpArgs false
theorem DH{ops:Array Oper}{o:Oper}{a:Act}{K:Act->World->Prop}{Q:Exit->Act->World->Prop}{E:Prop}(hgd:o.guard=none)(ho:o.op=.alloc 30)(h:K (a.put o.dst (.pointer (some ⟨w.heap.size,0,none⟩))) (w.alloc (.cells (ints (fun _=>0) 24).toArray 30))):if Region.wanted o (yielded ops a.tmps)=true then Oper.wp prog o a w K Q else E:=by
 rw[AJ (by simp[Region.wanted,hgd])];have hz:=Xh;unfold Oper.wp;simp only[execOp,ho,Instr.alloc,newVar,Value.cells,newRow];generalize (ints (fun _=>0) 24).toArray=q at *
 simp[hz];exact h
structure bH where
 k:Int
 a:Int
 x:Int
def bH.Ok (o:bH):Prop:=i64r o.k/\i64r o.a/\i64r o.x
def OprAt (w:Wd) (g o:Nat) (z:bH):Prop:=w.cell? ⟨g,o,none⟩=some (.int .i64 z.k)/\w.cell? ⟨g,o+1,none⟩=some (.int .i64 z.a)/\w.cell? ⟨g,o+2,none⟩=some (.int .i64 z.x)
theorem OprAt.chg{g o:Nat}{z:bH}(h:OprAt w g o z)(hc:Chg S w w')(hg:g<w.heap.size)(hs:¬ S g):OprAt w' g o z:=by
 obtain⟨h0,h1,h2⟩:=h;exact⟨(hc.cell hg hs _).trans h0,(hc.cell hg hs _).trans h1,(hc.cell hg hs _).trans h2⟩
def IsOps (w:Wd) (a:Option Addr) (len:Nat) (O:Nat->bH):Prop:=
 (∀i,i<len->(O i).Ok)/\(len=0\/∃g o,a=some ⟨g,o,none⟩/\g<w.heap.size/\∀i,i<len->OprAt w g (o+i*3) (O i))
def IsNum (w:Wd) (a:Option Addr) (len:Nat) (f:Nat->Int):Prop:=
 (∀i,i<len->i64r (f i))/\(len=0\/∃g o,a=some ⟨g,o,none⟩/\g<w.heap.size/\∀i,i<len->w.cell? ⟨g,o+i,none⟩=some (.int .i64 (f i)))
theorem EP.out{D:Nat}{A:Ad}{B:Nat}{La:Nat->Int}(h:EP w D A B La)(hS:∀x,(Cor A x\/x=A.p\/x=A.q)\/x=D->¬ S x)(hc:Chg S w w'):EP w' D A B La:=by
 obtain⟨K,G,h1,h2⟩:=h;exact⟨K,G,⟨h1.dv.chg hc (hS D (AL rfl)),h1.core.out' (fun x e=>hS x (AK e)) hc,h1.nd⟩,h2⟩
structure jU (w wr:Wd) (D1:Nat) (A1:Ad) (D2:Nat) (A2:Ad) (n B:Nat) (La:Nat->Int):Prop where
 d1:EP wr D1 A1 B La
 d2:EP wr D2 A2 B La
 i:IB wr n 30 24 La
 t:Chg No w wr
structure lQ (w:Wd) (D1:Nat) (A1:Ad) (D2:Nat) (A2:Ad) (m n:Nat):Prop where
 lo:∀x,(Cor A1 x\/x=A1.p\/x=A1.q)\/x=D1->w.heap.size<=x/\x<m
 hi:∀x,(Cor A2 x\/x=A2.p\/x=A2.q)\/x=D2->m<=x/\x<n
 wm:w.heap.size<=m
 mn:m<=n
theorem jV(b:Nat):((b / 512:Nat):Int).tmod 4=((b / 512 % 4:Nat):Int):=by rw[Av om];omega
theorem tq(b c:Nat):((b:Nat):Int).tdiv c=((b / c:Nat):Int):=by rw[Int.tdiv_eq_ediv_of_nonneg om];omega
theorem tr(b c:Nat):((b:Nat):Int).tmod c=((b % c:Nat):Int):=by rw[Av om];omega
theorem Xq.chg{lo:Nat}{v:Value}{l:List Nat}(h:Xq w lo v l)(hc:Chg S w w')(hS:∀k,lo<=k->k<w.heap.size->¬ S k){lo':Nat}(hl:lo'<=lo):Xq w' lo' v l:=by
 rcases h with ⟨rfl,rfl⟩ | ⟨gv,cv,rfl,h1,h2,h3,h4⟩
 ·exact AK ⟨rfl,rfl⟩
 ·exact AL ⟨gv,cv,rfl,AY hl h1,h2.chg hc (hS gv h1 h2.1),h3,h4⟩
def iA (b:Bool) (P:Prop):Prop:=b=true<->P
theorem N5(a:Option Addr)(len cap:Nat)(O:Nat->bH)(ta:Option Addr)(tn tc:Nat)(T:Nat->Int)(w:Wd)(hO:IsOps w a len O)(hlen:len<=1048576)(hT:IsNum w ta tn T) :Calls prog 6 #[.slice a len cap,.slice ta tn tc] w fun e w'=>e=.returned (.bool true)/\Below w.heap.size w w':=by
 have p1:=Qp;have qn:=BJ;have qe:=g9;have HO:=BB hO;have HT:=BB hT;clear hO hT;go_enter func6,ntmps6;go_wp2_with fail;refine(Kz w).mono ?_;rintro e w1 ⟨D1,A1,rfl,hlo1,hd1,G1⟩;have HLO1:=BB hlo1;have HD1:=BB hd1;have HG1:=BB G1;have HR1:=BB (IB.new w1 30 24 (fun _=>0));have g2:Chg No w1 (w1.alloc (.cells (ints (fun _=>0) 24).toArray 30)):=(Chg.refl _ w1).alloc _;have HG2:=BB (HG1.out.trans g2);have HD2:=BB (HD1.out.chg0 g2);have HUP1:=BB hd1.lw;clear hlo1 hd1 G1 g2;go_wp2_with (first | refine Bn rfl rfl ?_ | refine Bi rfl (.tmp 7) (.tmp 29) rfl w1.heap.size rfl rfl HR1.out ?_);intro w3 I3 G3;have HG3:=BB (HG2.out.trans' G3 (fun k hk e=>by have:=HG1.out.size;omega));have HD3:=BB (HD2.out.far HUP1.out (fun k e=>om) G3);have HS1:=BB HG1.out.size;clear I3 G3 HG2 HD2 HR1 HD1;generalize w1.heap.size=na1 at *
 go_wp2_with fail;refine(Kz w3).mono ?_;rintro e w4 ⟨D2,A2,rfl,hlo2,hd2,G4⟩;have HLO2:=BB hlo2;have HE2:=BB hd2;have HU2:=BB hd2.lw;have HD4:=BB (HD3.out.chg0 G4);have HU3:=BB HD3.out.lw;have HG4:=BB (HG3.out.trans G4);have HS3:=BB HG3.out.size;have HS4:=BB G4.size;have HR4:=BB (IB.new w4 30 24 (fun _=>0));have g5:Chg No w4 (w4.alloc (.cells (ints (fun _=>0) 24).toArray 30)):=(Chg.refl _ w4).alloc _;have HG5:=BB (HG4.out.trans g5);have HD5:=BB (HD4.out.chg0 g5);have HE5:=BB (HE2.out.chg0 g5);clear hlo2 hd2 G4 g5 HD3 HG3 HE2;go_wp2_with (first | refine Bn rfl rfl ?_ | refine Bi rfl (.tmp 10) (.tmp 34) rfl w4.heap.size rfl rfl HR4.out ?_);intro w6 I6 G6;have HM:Hid (∀x,(Cor A1 x\/x=A1.p\/x=A1.q)\/x=D1->x<w4.heap.size):=fun x e=>by have h1:=HU3.out x e;have h2:=HS4.out;omega
 have HG6:=BB (HG5.out.trans' G6 (fun k hk e=>by have h1:=HS3.out;have h2:=HS4.out;omega));have HD6:=BB (HD5.out.out (fun x e f=>by have h1:=HM.out x e;omega) G6);have HE6:=BB (HE5.out.out (fun x e f=>by have h1:=HU2.out x e;omega) G6);have HS6:Hid (w4.heap.size<=w6.heap.size):=by have h:=G6.size;rw[World.size_alloc] at h;show _<=_;omega
 clear I6 G6 HG5 HD5 HE5 HR4 HD4 HG4;have HAP0:Hid (∀n,w4.heap.size<=n->lQ w D1 A1 D2 A2 w3.heap.size n):=fun n hn=>⟨fun x e=>⟨HLO1.out x e,HU3.out x e⟩,fun x e=>⟨HLO2.out x e,Aj (HU2.out x e) hn⟩,HS3.out,by have h:=HS4.out;omega⟩;generalize w4.heap.size=na2 at *
 go_wp2_with (first | refine CE rfl _ (Fk rfl) ?_ | refine Bn rfl rfl ?_ | refine Bi rfl (.tmp 11) (.tmp 41) rfl w6.heap.size rfl rfl (IB.new w6 30 24 (fun _=>0)) ?_);intro w7 I7 G7;have g67:Chg No w6 (w6.alloc (.cells (ints (fun _=>0) 24).toArray 30)):=(Chg.refl _ w6).alloc _;have HAP:=BB (HAP0.out w6.heap.size HS6.out);have HTW:Hid (jU w w7 D1 A1 D2 A2 w6.heap.size 0 (fun _=>0)):=
  ⟨(HD6.out.chg0 g67).out (fun x e f=>by have h1:=HM.out x e;have h2:=HS6.out;omega) G7,(HE6.out.chg0 g67).out (fun x e f=>by have h1:=HAP.out.hi x e;omega) G7,I7,(HG6.out.trans g67).trans' G7 (fun k hk e=>by have h1:=HAP.out.wm;have h2:=HAP.out.mn;omega)⟩
 clear I7 G7 g67 HD6 HE6 HG6 HAP0 HS6 HM HU2 HU3 HS3 HS4 HLO1 HLO2 HUP1 HS1 HG1;generalize w6.heap.size=n at *
 generalize w3.heap.size=m at *
 go_wp2_with fail
 go_loopw [12] (fun t12 wr=>∃(i:Nat) (La:Nat->Int),i<=len/\t12=.int .i64 i/\jU w wr D1 A1 D2 A2 n (2*i) La) (fun t12 _=>len - (intOf t12).toNat)
 case atStart=>exact⟨0,_,om,rfl,HTW.out⟩
 case round=>
  clear HTW;obtain⟨i,La,hi,rfl,hS⟩:=hrel;by_cases hlt:i<len
  ·have hl1:(i:Int)<(len:Int):=om;have hl0:(0:Int)<=(i:Int):=om;obtain⟨hok,hc⟩:=HO.out;rcases hc with hc | ⟨go,oo,rfl,hqa,hc⟩
   ·omega
   have hoi:=hok i hlt;have hci:=(hc i hlt).chg hS.t hqa (fun f=>f);have hgo:go<w.heap.size:=hqa;generalize O i=oi at *
   have HOK:=BB hoi;have HCI:=BB hci;have HGO:=BB hgo;have HS:=BB hS;clear hok hc hS hoi hci hgo hqa
   go_upto_region 9 with fail
   go_cut [51] from 48 to 50 (fun s51 wx=>(∃b:Bool,s51=.bool b/\Hid (iA b (i<tn)))/\wr=wx)
   case first=>
    by_cases h1:i<tn
    ·have h1z:(i:Int)<(tn:Int):=om;have H3:Hid (iA true (i<tn)):=iff_of_true rfl h1;go_wp2_with fail
     go_meet
     case rel=>exact⟨⟨true,rfl,H3⟩,rfl⟩
    ·have h1z:¬ (i:Int)<(tn:Int):=om;have H3:Hid (iA false (i<tn)):=iff_of_false dc h1;go_wp2_with fail
     go_meet
     case rel=>exact⟨⟨false,rfl,H3⟩,rfl⟩
   case rest=>
   obtain⟨⟨b1,rfl,HB1⟩,rfl⟩:=hcut
   go_upto_if 51 with fail
   go_cut [13,14,15,16,17,18] from 51 to 80 (fun _ _ _ _ _ _ wx=>Hid (EP wx D2 A2 (2*i) La)/\Hid (Chg (Cor A2) wr wx))
   case first=>
    cases b1
    ·go_wp2_with fail
     go_meet
     case rel=>exact⟨HS.out.d2,Chg.refl _ _⟩
    ·have hti:i<tn:=HB1.out.1 rfl;have htz:(i:Int)<(tn:Int):=om;obtain⟨htk,htc⟩:=HT.out;rcases htc with htc | ⟨gt,ot,rfl,hgt,htc⟩
     ·omega
     have hzi:=htk i hti;have hcz:=(HS.out.t.cell hgt (fun f=>f) _).trans (htc i hti);generalize T i=z at *
     have hsm:=I0 z hzi 196608 dc dc;have hb:=MC z 196608 dc;clear htk htc hti HB1 hgt hzi;go_wp2_with fail;refine(hsm _).mono ?_;rintro e wq ⟨rfl,rfl⟩;generalize pkN z 196608=bt at *
     have hq1:=tq bt 2048;have hq2:=tq bt 512;have hq3:=jV bt;have hq4:=tr bt 2048;have hq5:(0:Int)<=(bt:Int):=om;clear hsm hcz;go_wp2_with fail;rw[show (bt:Int) / 2048=((bt / 2048:Nat):Int) from om,show (bt:Int) / 512 % 4=((bt / 512 % 4:Nat):Int) from om];obtain⟨K2,G2,hM2,hF2⟩:=HS.out.d2;refine(Pa A2.g K2.s hF2.sit.1.wf.chip (bt / 2048) (bt / 512 % 4) om om wq hM2.core.chip).mono ?_;rintro e wy ⟨rfl,Gy⟩;have hix:4*(bt / 2048)+bt % 2048 / 512=4*(bt / 2048)+bt / 512 % 4:=om;have hfl:=So D2 A2 (2*i) La K2 G2 wy (hM2.chg0 Gy) hF2 (bt / 2048) (bt % 2048) om om;rw[hix] at hfl;have HDy:Hid (EP wy D2 A2 (2*i) La):=⟨K2,G2,hM2.chg0 Gy,hF2⟩;have HGy:Hid (Chg (Cor A2) wq wy):=Gy.mono (fun _ _ f=>f.elim);have hne:D2≠A2.g:=fun e=>hM2.nd (by rw[e];exact AL (AL (AK rfl)));generalize (K2.s.ch (4*(bt / 2048)+bt / 512 % 4)).worst=wt at *
     generalize dmg (K2.s.ch (4*(bt / 2048)+bt / 512 % 4))=dm at *
     clear hF2 Gy hM2 hix;by_cases hwt:wt<2
     ·have hwz:(wt:Int)<2:=om;have hfl2:=hfl hwt hne;clear hfl;go_wp2_with fail;rw[show (bt:Int) / 2048=((bt / 2048:Nat):Int) from om,show (bt:Int) % 2048=((bt % 2048:Nat):Int) from om];refine hfl2.mono ?_;rintro e wz ⟨rfl,hDz,Gz⟩;have HDz:=BB hDz;have HGz:=BB (HGy.out.trans Gz);clear hfl2 hDz Gz;go_wp2_with fail
      go_meet
      case rel=>exact⟨HDz,HGz⟩
     ·have hwz:¬ (wt:Int)<2:=om;clear hfl;go_wp2_with fail
      go_meet
      case rel=>exact⟨HDy,HGy⟩
   case rest=>
   obtain⟨HD2,HC2⟩:=hcut;have HU:Hid (jU w wc D1 A1 D2 A2 n (2*i) La):=⟨HS.out.d1.out (fun x e f=>by have h1:=HAP.out.lo x e;have h2:=HAP.out.hi x (AK (AK f));omega) HC2.out,HD2.out,HS.out.i.chg HC2.out (fun f=>by have h2:=HAP.out.hi n (AK (AK f));omega),HS.out.t.trans' HC2.out (fun k hk f=>by have h2:=HAP.out.hi k (AK (AK f));have h3:=HAP.out.wm;omega)⟩;have HCU:=BB (HCI.out.chg HC2.out (by have:=HGO.out;have:=HS.out.t.size;omega) (fun f=>by have h2:=HAP.out.hi go (AK (AK f));have h3:=HAP.out.wm;have:=HGO.out;omega));clear HD2 HC2 HS HCI HB1;generalize wc=wu at *
   have HB:Hid (2*i+1<1073741824):=(by show _<_;omega);have hdo:=fun wx (h:EP wx D1 A1 (2*i) La)=>N0 D1 A1 (2*i) La wx h HB.out oi.k oi.a oi.x HOK.out.1 HOK.out.2.1 HOK.out.2.2;have HDO:=BB hdo;clear hdo
   go_upto_region 16 with fail
   go_cut [19,20,21] from 81 to 91 (fun s19 s20 s21 wx=>∃nb v,s19=.pointer (some ⟨nb,0,none⟩)/\s20=v/\s21=.nilIface/\Hid (n<nb/\wu.heap.size<=nb)/\Hid (IB wx nb 30 24 (dsA La oi.k oi.a oi.x))/\Hid (EP wx D1 A1 (2*i+2) (dsA La oi.k oi.a oi.x))/\Hid (Xq wx wu.heap.size v (dsR La oi.k oi.a))/\Hid (Chg (Cor A1) wu wx))
   case first=>
    refine wp_region_noPanic ?_;refine wp_region_held_drew (S:=fun wx=>IB wx n 30 24 La/\OprAt wx go (oo+i*3) oi) kr ⟨HU.out.i.drew,HCU.out⟩ (fun hHeld=>?_);refine Ab (i:=0) rfl kr kr kr (fun _ _ _ h=>h) (AK ⟨rfl,fun _ hw=>rfl⟩) hHeld ?_;simp only[Act.put,bu];refine Ab (i:=1) rfl kr kr kr (fun _ _ _ h=>h) (AK ⟨rfl,fun _ hw=>BX rfl rfl hw.1⟩) hHeld ?_;simp only[Act.put,bu];refine Ab (i:=2) rfl kr kr kr (fun _ _ _ h=>h) (AK ⟨rfl,fun _ hw=>rfl⟩) hHeld ?_;simp only[Act.put,bu];refine Ab (i:=3) rfl kr kr kr (fun _ _ _ h=>h) (AK ⟨rfl,fun _ hw=>rfl⟩) hHeld ?_;simp only[Act.put,bu];refine Ab (i:=4) (v:=.pointer (some ⟨go,oo+i*3,none⟩)) rfl kr kr kr (fun _ _ _ h=>h) (AK ⟨rfl,fun _ hw=>by go_simp⟩) hHeld ?_;simp only[Act.put,bu];refine Ab (i:=5) (v:=.agg #[.int .i64 oi.k,.int .i64 oi.a,.int .i64 oi.x]) rfl kr kr kr (fun _ _ _ h=>h) (AK ⟨rfl,fun _ hw=>by obtain⟨_,c0,c1,c2⟩:=hw;go_simp⟩) hHeld ?_;simp only[Act.put,bu];have hnn:¬ Cor A1 n:=fun f=>by have h2:=HAP.out.lo n (AK (AK f));have h3:=HAP.out.mn;omega
    have hng:¬ Cor A1 go:=fun f=>by have h2:=HAP.out.lo go (AK (AK f));have h3:=HGO.out;have h4:=HAP.out.wm;omega
    have hgo:go<wu.heap.size:=(by have:=HGO.out;have:=HU.out.t.size;omega);refine wpAnyH_ready (rs:=[6,11]) kr (by simp) ?_;refine AllReadyH.cons rfl (fun K' hK=>?_) (AllReadyH.cons rfl (fun K' hK=>?_) AllReadyH.nil)
    case' refine_1=>
     go_simp;refine(HDO.out _ (HU.out.d1.chg0 (Chg.refl _ wu).drew)).mono ?_;rintro e wd ⟨v,rfl,hDd,hRd,Gd⟩;have Gd':Chg (Cor A1) wu wd:=(Chg.refl (Cor A1) wu).drew.trans Gd;have hId:=HU.out.i.chg Gd' hnn;have hCd:=HCU.out.chg Gd' hgo hng;refine hK.out _ _ ⟨hId,hCd⟩ (fun hHeld=>?_);clear hK K';refine Ab (i:=7) rfl kr kr kr (fun _ _ _ h=>h) (AK ⟨rfl,fun _ hw=>rfl⟩) hHeld ?_;simp only[Act.put,bu];refine Ab (i:=8) rfl kr kr kr (fun _ _ _ h=>h) (AK ⟨rfl,fun _ hw=>rfl⟩) hHeld ?_;simp only[Act.put,bu];refine Ab (i:=9) rfl kr kr kr (fun _ _ _ h=>h) (AK ⟨rfl,fun _ hw=>rfl⟩) hHeld ?_;simp only[Act.put,bu];refine Ab (i:=10) rfl kr kr kr (fun _ _ _ h=>h) (AK ⟨rfl,fun _ hw=>rfl⟩) hHeld ?_;simp only[Act.put,bu];refine wpAnyH_ready (rs:=[11]) kr (by simp) ?_;refine AllReadyH.cons rfl (fun K' hK=>?_) AllReadyH.nil;have ga:Chg No wd (wd.alloc (.cells (ints (fun _=>0) 24).toArray 30)):=(Chg.refl _ wd).alloc _;refine DH rfl rfl ?_;refine hK.out _ _ ⟨hId.chg ga (fun f=>f),hCd.chg ga (Aj hgo Gd'.size) (fun f=>f)⟩ (fun hHeld=>?_);clear hK K';simp only[Act.put,bu];refine wpAnyH_ready (rs:=[12]) kr (by simp) ?_;refine AllReadyH.cons rfl (fun K' hK=>?_) AllReadyH.nil;refine Bp rfl (.tmp 19) (.tmp 89) rfl wd.heap.size rfl (dsA La oi.k oi.a oi.x) rfl (IB.new wd 30 24 _) ?_;intro ws Is Gs;have hnlt:n<wd.heap.size:=hId.lt;refine hK.out _ _ ⟨(hId.chg ga (fun f=>f)).chg Gs om,(hCd.chg ga (Aj hgo Gd'.size) (fun f=>f)).chg Gs (Aj (Aj hgo Gd'.size) ga.size) (by have:=Gd'.size;omega)⟩ (fun hHeld=>?_);clear hK K';simp only[Act.put,bu];refine Ab (i:=13) rfl kr kr kr (fun _ _ _ h=>h) (AK ⟨rfl,fun _ hw=>rfl⟩) hHeld ?_;simp only[Act.put,bu];refine Ab (i:=14) rfl kr kr kr (fun _ _ _ h=>h) (AK ⟨rfl,fun _ hw=>rfl⟩) hHeld ?_;simp only[Act.put,bu];have HNB:Hid (n<wd.heap.size/\wu.heap.size<=wd.heap.size):=⟨hnlt,Gd'.size⟩;have HIs:=BB Is;have HDs:=BB ((hDd.chg0 ga).far hDd.lw (fun k e=>om) Gs);have HRs:Hid (Xq ws wu.heap.size v (dsR La oi.k oi.a)):=hRd.chg ((ga.mono (T:=(·=wd.heap.size)) (fun _ _ f=>f.elim)).trans Gs) (fun k h1 h2 f=>om) (AM _);have HGs:Hid (Chg (Cor A1) wu ws):=(Gd'.trans (ga.mono (fun _ _ f=>f.elim))).trans' Gs (fun k hk f=>by have:=Gd'.size;omega);refine wpAnyH_done kr ?_ _;refine NoPanic.normal ?_;go_wp2_with fail
     go_meet
     case rel=>exact⟨_,_,rfl,rfl,rfl,HNB,HIs,HDs,HRs,HGs⟩
    case' refine_2=>
     have gz:Chg No wu (wu.drew.alloc (.cells (ints (fun _=>0) 24).toArray 30)):=(Chg.refl No wu).drew.alloc _;have hz:IB (wu.drew.alloc (.cells (ints (fun _=>0) 24).toArray 30)) wu.heap.size 30 24 (fun _=>0):=IB.new wu.drew 30 24 _;have hzs:(wu.drew.alloc (.cells (ints (fun _=>0) 24).toArray 30)).heap.size=wu.heap.size+1:=World.size_alloc _ _;refine DH rfl rfl ?_;refine hK.out _ _ ⟨HU.out.i.chg gz (fun f=>f),HCU.out.chg gz hgo (fun f=>f)⟩ (fun hHeld=>?_);clear hK K';simp only[Act.put,bu];refine wpAnyH_ready (rs:=[6]) kr (by simp) ?_;refine AllReadyH.cons rfl (fun K' hK=>?_) AllReadyH.nil;go_simp;refine(HDO.out _ (HU.out.d1.chg0 gz)).mono ?_;rintro e wd ⟨v,rfl,hDd,hRd,Gd⟩;have hlw:=HU.out.d1.lw;have hnz:¬ Cor A1 wu.heap.size:=fun f=>by have h1:=hlw _ (AK (AK f));omega
     have hId:=(HU.out.i.chg gz (fun f=>f)).chg Gd hnn;have hCd:=(HCU.out.chg gz hgo (fun f=>f)).chg Gd (Aj hgo gz.size) hng;have hzd:=hz.chg Gd hnz;refine hK.out _ _ ⟨hId,hCd⟩ (fun hHeld=>?_);clear hK K';refine Ab (i:=7) rfl kr kr kr (fun _ _ _ h=>h) (AK ⟨rfl,fun _ hw=>rfl⟩) hHeld ?_;simp only[Act.put,bu];refine Ab (i:=8) rfl kr kr kr (fun _ _ _ h=>h) (AK ⟨rfl,fun _ hw=>rfl⟩) hHeld ?_;simp only[Act.put,bu];refine Ab (i:=9) rfl kr kr kr (fun _ _ _ h=>h) (AK ⟨rfl,fun _ hw=>rfl⟩) hHeld ?_;simp only[Act.put,bu];refine Ab (i:=10) rfl kr kr kr (fun _ _ _ h=>h) (AK ⟨rfl,fun _ hw=>rfl⟩) hHeld ?_;simp only[Act.put,bu];refine wpAnyH_ready (rs:=[12]) kr (by simp) ?_;refine AllReadyH.cons rfl (fun K' hK=>?_) AllReadyH.nil;refine Bp rfl (.tmp 19) (.tmp 89) rfl wu.heap.size rfl (dsA La oi.k oi.a oi.x) rfl hzd ?_;intro ws Is Gs;have hnlt:n<wu.heap.size:=HU.out.i.lt;refine hK.out _ _ ⟨hId.chg Gs om,hCd.chg Gs (Aj (Aj hgo gz.size) Gd.size) om⟩ (fun hHeld=>?_);clear hK K';simp only[Act.put,bu];refine Ab (i:=13) rfl kr kr kr (fun _ _ _ h=>h) (AK ⟨rfl,fun _ hw=>rfl⟩) hHeld ?_;simp only[Act.put,bu];refine Ab (i:=14) rfl kr kr kr (fun _ _ _ h=>h) (AK ⟨rfl,fun _ hw=>rfl⟩) hHeld ?_;simp only[Act.put,bu];have HNB:Hid (n<wu.heap.size/\wu.heap.size<=wu.heap.size):=⟨hnlt,AM _⟩;have HIs:=BB Is;have HDs:=BB (hDd.out (fun x e f=>by have h1:=hlw x e;omega) Gs);have HRs:Hid (Xq ws wu.heap.size v (dsR La oi.k oi.a)):=hRd.chg Gs (fun k h1 h2 f=>om) om;have HGs:Hid (Chg (Cor A1) wu ws):=((gz.mono (T:=Cor A1) (fun _ _ f=>f.elim)).trans Gd).trans' Gs (fun k hk f=>om);refine wpAnyH_done kr ?_ _;refine NoPanic.normal ?_;go_wp2_with fail
     go_meet
     case rel=>exact⟨_,_,rfl,rfl,rfl,HNB,HIs,HDs,HRs,HGs⟩
   case rest=>
   obtain⟨nb,v1,rfl,e20,rfl,HNB,HIb,HDb,HRb,HGb⟩:=hcut;have HE20:=BB e20;clear e20;have hn1:∀k,n<=k->¬ Cor A1 k:=fun k hk f=>by have h2:=HAP.out.lo k (AK (AK f));have h3:=HAP.out.mn;omega
   have HVI:=BB (HU.out.i.chg HGb.out (hn1 n (AM _)));have HVT:Hid (Chg No w wc):=HU.out.t.trans' HGb.out (fun k hk f=>by have h2:=HAP.out.lo k (AK (AK f));omega);have HVD:Hid (EP wc D2 A2 (2*i) La):=HU.out.d2.out (fun x e f=>by have h1:=HAP.out.hi x e;have h2:=HAP.out.lo x (AK (AK f));omega) HGb.out;have HCV:=BB (HCU.out.chg HGb.out (by have:=HGO.out;have:=HU.out.t.size;omega) (fun f=>by have h2:=HAP.out.lo go (AK (AK f));have:=HGO.out;omega));have HNL:Hid (n<wu.heap.size):=HU.out.i.lt;clear HU HCU HDO HGb hn1;have hdp:=fun wx (h:EP wx D2 A2 (2*i) La)=>N0 D2 A2 (2*i) La wx h HB.out oi.k oi.a oi.x HOK.out.1 HOK.out.2.1 HOK.out.2.2;have HDP:=BB hdp;clear hdp;generalize dsA La oi.k oi.a oi.x=Lb at *
   generalize dsR La oi.k oi.a=Lr at *
   generalize wc=wv at *
   go_upto_region 17 with fail
   go_cut [22,23,24] from 92 to 102 (fun s22 s23 s24 wx=>∃nb v,s22=.pointer (some ⟨nb,0,none⟩)/\s23=v/\s24=.nilIface/\Hid (n<nb/\wv.heap.size<=nb)/\Hid (IB wx nb 30 24 Lb)/\Hid (EP wx D2 A2 (2*i+2) Lb)/\Hid (Xq wx wv.heap.size v Lr)/\Hid (Chg (Cor A2) wv wx))
   case first=>
    refine wp_region_noPanic ?_;refine wp_region_held_drew (S:=fun wx=>IB wx n 30 24 La/\OprAt wx go (oo+i*3) oi) kr ⟨HVI.out.drew,HCV.out⟩ (fun hHeld=>?_);refine Ab (i:=0) rfl kr kr kr (fun _ _ _ h=>h) (AK ⟨rfl,fun _ hw=>rfl⟩) hHeld ?_;simp only[Act.put,bu];refine Ab (i:=1) rfl kr kr kr (fun _ _ _ h=>h) (AK ⟨rfl,fun _ hw=>BX rfl rfl hw.1⟩) hHeld ?_;simp only[Act.put,bu];refine Ab (i:=2) rfl kr kr kr (fun _ _ _ h=>h) (AK ⟨rfl,fun _ hw=>rfl⟩) hHeld ?_;simp only[Act.put,bu];refine Ab (i:=3) rfl kr kr kr (fun _ _ _ h=>h) (AK ⟨rfl,fun _ hw=>rfl⟩) hHeld ?_;simp only[Act.put,bu];refine Ab (i:=4) (v:=.pointer (some ⟨go,oo+i*3,none⟩)) rfl kr kr kr (fun _ _ _ h=>h) (AK ⟨rfl,fun _ hw=>by go_simp⟩) hHeld ?_;simp only[Act.put,bu];refine Ab (i:=5) (v:=.agg #[.int .i64 oi.k,.int .i64 oi.a,.int .i64 oi.x]) rfl kr kr kr (fun _ _ _ h=>h) (AK ⟨rfl,fun _ hw=>by obtain⟨_,c0,c1,c2⟩:=hw;go_simp⟩) hHeld ?_;simp only[Act.put,bu];have hnn:¬ Cor A2 n:=fun f=>by have h2:=HAP.out.hi n (AK (AK f));have h3:=HAP.out.mn;omega
    have hng:¬ Cor A2 go:=fun f=>by have h2:=HAP.out.hi go (AK (AK f));have h3:=HGO.out;have h4:=HAP.out.wm;omega
    have hgo:go<wv.heap.size:=(by have:=HGO.out;have:=HVT.out.size;omega);refine wpAnyH_ready (rs:=[6,11]) kr (by simp) ?_;refine AllReadyH.cons rfl (fun K' hK=>?_) (AllReadyH.cons rfl (fun K' hK=>?_) AllReadyH.nil)
    case' refine_1=>
     go_simp;refine(HDP.out _ (HVD.out.chg0 (Chg.refl _ wv).drew)).mono ?_;rintro e wd ⟨v,rfl,hDd,hRd,Gd⟩;have Gd':Chg (Cor A2) wv wd:=(Chg.refl (Cor A2) wv).drew.trans Gd;have hId:=HVI.out.chg Gd' hnn;have hCd:=HCV.out.chg Gd' hgo hng;refine hK.out _ _ ⟨hId,hCd⟩ (fun hHeld=>?_);clear hK K';refine Ab (i:=7) rfl kr kr kr (fun _ _ _ h=>h) (AK ⟨rfl,fun _ hw=>rfl⟩) hHeld ?_;simp only[Act.put,bu];refine Ab (i:=8) rfl kr kr kr (fun _ _ _ h=>h) (AK ⟨rfl,fun _ hw=>rfl⟩) hHeld ?_;simp only[Act.put,bu];refine Ab (i:=9) rfl kr kr kr (fun _ _ _ h=>h) (AK ⟨rfl,fun _ hw=>rfl⟩) hHeld ?_;simp only[Act.put,bu];refine Ab (i:=10) rfl kr kr kr (fun _ _ _ h=>h) (AK ⟨rfl,fun _ hw=>rfl⟩) hHeld ?_;simp only[Act.put,bu];refine wpAnyH_ready (rs:=[11]) kr (by simp) ?_;refine AllReadyH.cons rfl (fun K' hK=>?_) AllReadyH.nil;have ga:Chg No wd (wd.alloc (.cells (ints (fun _=>0) 24).toArray 30)):=(Chg.refl _ wd).alloc _;refine DH rfl rfl ?_;refine hK.out _ _ ⟨hId.chg ga (fun f=>f),hCd.chg ga (Aj hgo Gd'.size) (fun f=>f)⟩ (fun hHeld=>?_);clear hK K';simp only[Act.put,bu];refine wpAnyH_ready (rs:=[12]) kr (by simp) ?_;refine AllReadyH.cons rfl (fun K' hK=>?_) AllReadyH.nil;refine Bp rfl (.tmp 22) (.tmp 100) rfl wd.heap.size rfl Lb rfl (IB.new wd 30 24 _) ?_;intro ws Is Gs;have hnlt:n<wd.heap.size:=hId.lt;refine hK.out _ _ ⟨(hId.chg ga (fun f=>f)).chg Gs om,(hCd.chg ga (Aj hgo Gd'.size) (fun f=>f)).chg Gs (Aj (Aj hgo Gd'.size) ga.size) (by have:=Gd'.size;omega)⟩ (fun hHeld=>?_);clear hK K';simp only[Act.put,bu];refine Ab (i:=13) rfl kr kr kr (fun _ _ _ h=>h) (AK ⟨rfl,fun _ hw=>rfl⟩) hHeld ?_;simp only[Act.put,bu];refine Ab (i:=14) rfl kr kr kr (fun _ _ _ h=>h) (AK ⟨rfl,fun _ hw=>rfl⟩) hHeld ?_;simp only[Act.put,bu];have HNB:Hid (n<wd.heap.size/\wv.heap.size<=wd.heap.size):=⟨hnlt,Gd'.size⟩;have HIs:=BB Is;have HDs:=BB ((hDd.chg0 ga).far hDd.lw (fun k e=>om) Gs);have HRs:Hid (Xq ws wv.heap.size v Lr):=hRd.chg ((ga.mono (T:=(·=wd.heap.size)) (fun _ _ f=>f.elim)).trans Gs) (fun k h1 h2 f=>om) (AM _);have HGs:Hid (Chg (Cor A2) wv ws):=(Gd'.trans (ga.mono (fun _ _ f=>f.elim))).trans' Gs (fun k hk f=>by have:=Gd'.size;omega);refine wpAnyH_done kr ?_ _;refine NoPanic.normal ?_;go_wp2_with fail
     go_meet
     case rel=>exact⟨_,_,rfl,rfl,rfl,HNB,HIs,HDs,HRs,HGs⟩
    case' refine_2=>
     have gz:Chg No wv (wv.drew.alloc (.cells (ints (fun _=>0) 24).toArray 30)):=(Chg.refl No wv).drew.alloc _;have hz:IB (wv.drew.alloc (.cells (ints (fun _=>0) 24).toArray 30)) wv.heap.size 30 24 (fun _=>0):=IB.new wv.drew 30 24 _;have hzs:(wv.drew.alloc (.cells (ints (fun _=>0) 24).toArray 30)).heap.size=wv.heap.size+1:=World.size_alloc _ _;refine DH rfl rfl ?_;refine hK.out _ _ ⟨HVI.out.chg gz (fun f=>f),HCV.out.chg gz hgo (fun f=>f)⟩ (fun hHeld=>?_);clear hK K';simp only[Act.put,bu];refine wpAnyH_ready (rs:=[6]) kr (by simp) ?_;refine AllReadyH.cons rfl (fun K' hK=>?_) AllReadyH.nil;go_simp;refine(HDP.out _ (HVD.out.chg0 gz)).mono ?_;rintro e wd ⟨v,rfl,hDd,hRd,Gd⟩;have hlw:=HVD.out.lw;have hnz:¬ Cor A2 wv.heap.size:=fun f=>by have h1:=hlw _ (AK (AK f));omega
     have hId:=(HVI.out.chg gz (fun f=>f)).chg Gd hnn;have hCd:=(HCV.out.chg gz hgo (fun f=>f)).chg Gd (Aj hgo gz.size) hng;have hzd:=hz.chg Gd hnz;refine hK.out _ _ ⟨hId,hCd⟩ (fun hHeld=>?_);clear hK K';refine Ab (i:=7) rfl kr kr kr (fun _ _ _ h=>h) (AK ⟨rfl,fun _ hw=>rfl⟩) hHeld ?_;simp only[Act.put,bu];refine Ab (i:=8) rfl kr kr kr (fun _ _ _ h=>h) (AK ⟨rfl,fun _ hw=>rfl⟩) hHeld ?_;simp only[Act.put,bu];refine Ab (i:=9) rfl kr kr kr (fun _ _ _ h=>h) (AK ⟨rfl,fun _ hw=>rfl⟩) hHeld ?_;simp only[Act.put,bu];refine Ab (i:=10) rfl kr kr kr (fun _ _ _ h=>h) (AK ⟨rfl,fun _ hw=>rfl⟩) hHeld ?_;simp only[Act.put,bu];refine wpAnyH_ready (rs:=[12]) kr (by simp) ?_;refine AllReadyH.cons rfl (fun K' hK=>?_) AllReadyH.nil;refine Bp rfl (.tmp 22) (.tmp 100) rfl wv.heap.size rfl Lb rfl hzd ?_;intro ws Is Gs;have hnlt:n<wv.heap.size:=HVI.out.lt;refine hK.out _ _ ⟨hId.chg Gs om,hCd.chg Gs (Aj (Aj hgo gz.size) Gd.size) om⟩ (fun hHeld=>?_);clear hK K';simp only[Act.put,bu];refine Ab (i:=13) rfl kr kr kr (fun _ _ _ h=>h) (AK ⟨rfl,fun _ hw=>rfl⟩) hHeld ?_;simp only[Act.put,bu];refine Ab (i:=14) rfl kr kr kr (fun _ _ _ h=>h) (AK ⟨rfl,fun _ hw=>rfl⟩) hHeld ?_;simp only[Act.put,bu];have HNB:Hid (n<wv.heap.size/\wv.heap.size<=wv.heap.size):=⟨hnlt,AM _⟩;have HIs:=BB Is;have HDs:=BB (hDd.out (fun x e f=>by have h1:=hlw x e;omega) Gs);have HRs:Hid (Xq ws wv.heap.size v Lr):=hRd.chg Gs (fun k h1 h2 f=>om) om;have HGs:Hid (Chg (Cor A2) wv ws):=((gz.mono (T:=Cor A2) (fun _ _ f=>f.elim)).trans Gd).trans' Gs (fun k hk f=>om);refine wpAnyH_done kr ?_ _;refine NoPanic.normal ?_;go_wp2_with fail
     go_meet
     case rel=>exact⟨_,_,rfl,rfl,rfl,HNB,HIs,HDs,HRs,HGs⟩
   case rest=>
   obtain⟨mb,v2,rfl,e23,rfl,HMB,HIm,HDm,HRm,HGm⟩:=hcut;have e20:=HE20.out;clear HE20;have hn2:∀k,n<=k->¬ Cor A2 k:=fun k hk f=>by have h2:=HAP.out.hi k (AK (AK f));omega
   have HWI:=BB (HVI.out.chg HGm.out (hn2 n (AM _)));have HWT:Hid (Chg No w wc):=HVT.out.trans' HGm.out (fun k hk f=>by have h2:=HAP.out.hi k (AK (AK f));have h3:=HAP.out.wm;omega);have HWD:Hid (EP wc D1 A1 (2*i+2) Lb):=HDb.out.out (fun x e f=>by have h1:=HAP.out.lo x e;have h2:=HAP.out.hi x (AK (AK f));omega) HGm.out;have HWB:=BB (HIb.out.chg HGm.out (hn2 nb (by have:=HNB.out;omega)));have HR1:=BB (HRb.out.chg HGm.out (fun k h1 _ f=>by have h2:=HAP.out.hi k (AK (AK f));have:=HNL.out;omega) (AM _));have HNN:Hid (nb≠n):=(by have:=HNB.out;show _≠_;omega);clear HVI HVT HVD HCV HDb HIb HRb HGm HIm HMB HDP HNB hn2 HNL;generalize wc=ww at *
   have HL2:=BB HWD.out.lw;have key:(v1=.slice none 0 0/\v2=.slice none 0 0)\/∃g1 c1 g2 c2,v1=.slice (some ⟨g1,0,none⟩) 160 c1/\v2=.slice (some ⟨g2,0,none⟩) 160 c2/\At ww g1 0 Lr/\At ww g2 0 Lr/\Lr.length=160:=by
    rcases HR1.out with ⟨e1,e2⟩ | ⟨g1,c1,e1,-,a1,l1,-⟩
    ·rcases HRm.out with ⟨f1,f2⟩ | ⟨g2,c2,f1,-,a2,l2,-⟩
     ·exact AK ⟨e1,f1⟩
     ·rw[e2] at l2;cases l2
    ·rcases HRm.out with ⟨f1,f2⟩ | ⟨g2,c2,f1,-,a2,l2,-⟩
     ·rw[f2] at l1;cases l1
     ·exact AL ⟨g1,c1,g2,c2,e1,f1,a1,a2,l1⟩
   clear HR1 HRm;rcases key with ⟨h1,h2⟩ | ⟨g1,c1,g2,c2,h1,h2,a1,a2,l1⟩
   ·rw[h1] at e20;rw[h2] at e23;subst e20 e23;clear h1 h2;have k0:=run_convert_bytes_nil (P:=prog) ww 35 5 underlying35 underlying5 0 0 9 underlying9;go_wp2_with (first | refine CE rfl _ (BX rfl rfl HWB.out) ?_ | refine Bi rfl (.tmp 11) (.tmp 116) rfl n rfl rfl HWI.out ?_);intro w9 I9 G9;have HT9:Hid (jU w w9 D1 A1 D2 A2 n (2*(i+1)) Lb):=by
     rw[show 2*(i+1)=2*i+2 by omega];exact⟨HWD.out.out (fun x e f=>by have h1:=HAP.out.lo x e;have h3:=HAP.out.mn;omega) G9,HDm.out.out (fun x e f=>by have h1:=HAP.out.hi x e;omega) G9,I9,HWT.out.trans' G9 (fun k hk f=>by have h1:=HAP.out.wm;have h2:=HAP.out.mn;omega)⟩
    clear I9 G9;go_wp2;exact⟨⟨i+1,Lb,om,by go_num,HT9.out⟩,by simp[intOf];omega⟩
   ·rw[h1] at e20;rw[h2] at e23;subst e20 e23;clear h1 h2;have k1:=run_convert_bytes_arg (P:=prog) ww 35 5 underlying35 underlying5 g1 0 160 c1 (Lr.map fun (n:Nat)=>(n:Int)) (by simp[l1]) (a1.ints l1.symm) 9 underlying9;have k2:=run_convert_bytes_arg (P:=prog) ww 35 5 underlying35 underlying5 g2 0 160 c2 (Lr.map fun (n:Nat)=>(n:Int)) (by simp[l1]) (a2.ints l1.symm) 9 underlying9;generalize Lr.map (fun (n:Nat)=>(n:Int))=x1 at *
    clear a1 a2 l1;go_wp2_with (first | refine CE rfl _ (BX rfl rfl HWB.out) ?_ | refine Bi rfl (.tmp 11) (.tmp 116) rfl n rfl rfl HWI.out ?_);intro w9 I9 G9;have HT9:Hid (jU w w9 D1 A1 D2 A2 n (2*(i+1)) Lb):=by
     rw[show 2*(i+1)=2*i+2 by omega];exact⟨HWD.out.out (fun x e f=>by have h1:=HAP.out.lo x e;have h3:=HAP.out.mn;omega) G9,HDm.out.out (fun x e f=>by have h1:=HAP.out.hi x e;omega) G9,I9,HWT.out.trans' G9 (fun k hk f=>by have h1:=HAP.out.wm;have h2:=HAP.out.mn;omega)⟩
    clear I9 G9;go_wp2;exact⟨⟨i+1,Lb,om,by go_num,HT9.out⟩,by simp[intOf];omega⟩
  ·have hl1:¬ (i:Int)<(len:Int):=om;have HS:=BB hS;clear hS;go_wp2_with (first | refine CE rfl _ (BX rfl rfl HS.out.i) ?_);refine(IS D1 A1 (2*i) La wr HS.out.d1 om).mono ?_;rintro e wa ⟨rfl,hDa,Ga⟩;have HIa:=BB (HS.out.i.chg Ga (fun f=>by have h2:=HAP.out.lo n (AK (AK f));have h3:=HAP.out.mn;omega));have HDa:=BB (HS.out.d2.out (fun x e f=>by have h1:=HAP.out.hi x e;have h2:=HAP.out.lo x (AK (AK f));omega) Ga);have HGa:Hid (Chg No w wa):=HS.out.t.trans' Ga (fun k hk f=>by have h2:=HAP.out.lo k (AK (AK f));omega);clear hDa Ga HS;go_wp2_with (first | refine CE rfl _ (BX rfl rfl HIa.out) ?_);refine(IS D2 A2 (2*i) La wa HDa.out om).mono ?_;rintro e wb ⟨rfl,hDb,Gb⟩;have HGb:Hid (Chg No w wb):=HGa.out.trans' Gb (fun k hk f=>by have h2:=HAP.out.hi k (AK (AK f));have h3:=HAP.out.wm;omega);clear hDb Gb;go_wp2;go_ret;exact⟨rfl,Sk HGb.out (fun k f=>f.elim) (AM _)⟩
end
end Go.Proofs.YtbhbilcieodbhaaGreat
namespace Go.Proofs.YtbhbilcieodbhaaGreat
open List
open Go.Proofs.Tryz
open Go.RowKit Go.Deep Go.ChangeShapes Go.WideShapes
section
variable {H:Type}{enc:TypeId × Value->H}{W:Wd}{a:Option Addr}{len cap:Nat}{d:DataW H}{p:List MemPlace}
theorem Xk(d:DataW H):1<=Rows.uptoBulk d:=by
 cases d with
 | lit l=>cases l <;> simp[Rows.uptoBulk]
 | _=>simp[Rows.uptoBulk]
theorem N6(l:List (DataW H)):l.length<=Rows.uptoBulkAll l:=by
 induction l with
 | nil=>simp[Rows.uptoBulkAll]
 | cons x r ih=>have:=Xk x;simp only[Rows.uptoBulkAll,An];omega
theorem addr_at(g o j:Nat):(⟨g,o,none⟩:Addr).add j=⟨g,o+j,none⟩:=by unfold Addr.add;split <;> simp_all
theorem iB(h:DataW.Trod enc prog W 0 (fun _=>true) true 61 (.slice a len cap) d p)(hb:Rows.uptoBulk d<=1048576):∃O,IsOps W a len O/\len<=1048576:=by
 have ce:prog.cellsOf 67=3:=kr
 have c3:prog.cellsOf 3=1:=kr
 obtain⟨fuel,hf⟩:=h;rcases open_slice underlying61 hf with ⟨hcs,_⟩ | ⟨x,l,c,m,n,D,Pl,hcs,_,hl,hm,hmm,hx,hel⟩
 ·simp[Value.cells] at hcs;obtain⟨rfl,rfl,rfl⟩:=hcs;exact⟨fun _=>⟨0,0,0⟩,⟨fun i hi=>absurd hi (Nat.not_lt_zero _),AK rfl⟩,dc⟩
 ·simp[Value.cells] at hcs;obtain⟨rfl,rfl,rfl⟩:=hcs;have hmc:m=cap:=by simpa using hmm
  subst hmc;have hlen:len<=1048576:=by
   simp only[Prod.mk.injEq] at hx;rw[hx.1] at hb;have:=N6 ((List.range len).map D);simp only[Rows.uptoBulk] at hb;rw[A7,length_range] at this;omega
  have each:∀i,i<len->∃o:bH,o.Ok/\W.cell? (x.add (i*3))=some (.int .i64 o.k)/\W.cell? (x.add (i*3+1))=some (.int .i64 o.a)/\W.cell? (x.add (i*3+2))=some (.int .i64 o.x):=by
   intro i hi;obtain⟨cs',h1,h2⟩:=hel i om;rw[ce] at h1;obtain⟨_,hln,hcell⟩:=World.cells?_some h1;obtain⟨xs,k,hk,hxy,_,hxl,hfs⟩:=DataW.trod_struct underlying67 h2
   match xs,hxl,cs',hln with
   | [y0,y1,y2],_,[v0,v1,v2],_=>
    have g0:=hfs 0 _ rfl;have g1:=hfs 1 _ rfl;have g2:=hfs 2 _ rfl;simp[c3] at g0 g1 g2;have e0:=hcell 0 om;have e1:=hcell 1 om;have e2:=hcell 2 om;rw[add_add] at e0 e1 e2;simp at e0 e1 e2;obtain⟨z0,f0,_,wz0⟩:=DataW.trod_int (k:=.i64) underlying3 g0;obtain⟨z1,f1,_,wz1⟩:=DataW.trod_int (k:=.i64) underlying3 g1;obtain⟨z2,f2,_,wz2⟩:=DataW.trod_int (k:=.i64) underlying3 g2;simp only[List.cons.injEq,and_true] at f0 f1 f2;exact⟨⟨z0,z1,z2⟩,⟨bounds_i64 wz0,bounds_i64 wz1,bounds_i64 wz2⟩,by rw[e0,f0],by rw[e1,f1],by rw[e2,f2]⟩
  have inst0:Inhabited bH:=⟨⟨0,0,0⟩⟩;obtain⟨O,hO⟩:=choose_lt each;refine⟨O,⟨fun i hi=>(hO i hi).1,?_⟩,hlen⟩;by_cases h0:len=0
  ·exact AK h0
  ·right;obtain⟨g,o,spot⟩:=x;have hspot:spot=none:=(by simpa[Addr.add] using World.cell?_spot (hO 0 om).2.1);subst hspot;have hadd:∀j,(⟨g,o,none⟩:Addr).add j=⟨g,o+j,none⟩:=addr_at g o;have hlt:g<W.heap.size:=by
    have:=Qq (hO 0 om).2.1;rw[hadd] at this;exact this
   refine⟨g,o,rfl,hlt,fun i hi=>?_⟩;obtain⟨_,h0,h1,h2⟩:=hO i hi;rw[hadd] at h0 h1 h2;exact⟨h0,by rw[Nat.add_assoc];exact h1,by rw[Nat.add_assoc];exact h2⟩
theorem aX(h:DataW.Trod enc prog W 0 (fun _=>true) true 22 (.slice a len cap) d p)(hb:Rows.uptoBulk d<=1048576):∃V,IsNum W a len V/\len<=1048576:=by
 have ce:prog.cellsOf 3=1:=kr
 obtain⟨fuel,hf⟩:=h;rcases open_slice underlying22 hf with ⟨hcs,_⟩ | ⟨x,l,c,m,n,D,Pl,hcs,_,hl,hm,hmm,hx,hel⟩
 ·simp[Value.cells] at hcs;obtain⟨rfl,rfl,rfl⟩:=hcs;exact⟨fun _=>0,⟨fun i hi=>absurd hi (Nat.not_lt_zero _),AK rfl⟩,dc⟩
 ·simp[Value.cells] at hcs;obtain⟨rfl,rfl,rfl⟩:=hcs;have hmc:m=cap:=by simpa using hmm
  subst hmc;have hlen:len<=1048576:=by
   simp only[Prod.mk.injEq] at hx;rw[hx.1] at hb;have:=N6 ((List.range len).map D);simp only[Rows.uptoBulk] at hb;rw[A7,length_range] at this;omega
  have each:∀i,i<len->∃z:Int,i64r z/\W.cell? (x.add i)=some (.int .i64 z):=by
   intro i hi;obtain⟨cs',h1,h2⟩:=hel i om;rw[ce] at h1;obtain⟨_,hln,hcell⟩:=World.cells?_some h1
   match cs',hln with
   | [v0],_=>
    have e0:=hcell 0 om;rw[add_add] at e0;simp at e0;obtain⟨z0,f0,_,wz0⟩:=DataW.trod_int (k:=.i64) underlying3 h2;simp only[List.cons.injEq,and_true] at f0;exact⟨z0,bounds_i64 wz0,by rw[e0,f0]⟩
  obtain⟨O,hO⟩:=choose_lt each;refine⟨O,⟨fun i hi=>(hO i hi).1,?_⟩,hlen⟩;by_cases h0:len=0
  ·exact AK h0
  ·right;obtain⟨g,o,spot⟩:=x;have hspot:spot=none:=(by simpa[Addr.add] using World.cell?_spot (hO 0 om).2);subst hspot;have hadd:∀j,(⟨g,o,none⟩:Addr).add j=⟨g,o+j,none⟩:=addr_at g o;have hlt:g<W.heap.size:=by
    have:=Qq (hO 0 om).2;rw[hadd] at this;exact this
   refine⟨g,o,rfl,hlt,fun i hi=>?_⟩;have h0:=(hO i hi).2;rw[hadd] at h0;exact h0
end
end Go.Proofs.YtbhbilcieodbhaaGreat
