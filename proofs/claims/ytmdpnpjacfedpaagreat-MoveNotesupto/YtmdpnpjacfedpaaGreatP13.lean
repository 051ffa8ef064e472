/-
  Lemmas.
-/
import Derived.Test.YtmdpnpjacfedpaaGreatP12
import Derived.Below
import Derived.Deep.Slices
set_option maxRecDepth 1000000
set_option maxHeartbeats 16000000
set_option linter.unusedSimpArgs false
namespace Go.Proofs.YtmdpnpjacfedpaaGreat
open List
open Go.Proofs.Tryz
open Go.RowKit
section
variable (w:Wd)
theorem Ja{ops:Array Oper}{rest:List Oper}{o:Oper}{a:Act}{w:Wd}{Q:Exit->Act->World->Prop}(hw:Region.wanted o (yielded ops a.tmps)=true)(x:Operand)(ho:o.op=.load 39 x)(g:Nat)(hx:a.eval x=.pointer (some ⟨g,0,none⟩)){F:Nat->Int}(hg:IB w g 39 67 F)(h:wpList prog ops Q rest (a.put o.dst (.agg (ints F 67).toArray)) w):wpList prog ops Q (o :: rest) a w:=
 wpList_step fun _ hK=>by
  rw[AJ hw]
  exact wp_load_row 39 x ho g hx 39 _ _ _ hg underlying39 rfl (by rw[show (ints F 67).toArray.size=67 by simp[BF]];exact Gu) (hK _ _ h)
theorem eC:prog.plainKey 2=true:=kr
theorem Ha(d:Nat)(w:Wd)(f:Nat->Int):(Op.equalIn (d+2) 36 (.agg (ints f 12).toArray) (.agg (ints f 12).toArray)).run prog w=.ok true w:=by
 obtain⟨i,hi⟩:=ZF;rw[run_equalIn_array w (d+1) _ _ underlying36 hi,Sx];refine LN d _ w _ (fun i hi=>⟨f i,?_⟩);have:=BU f 12 i (mem_range.1 hi);simpa[i6] using this
theorem Zg:(prog.fieldsOf 39).toList.map (fun f=>(f.type,f.offset))=[(36,0),(37,12),(2,37),(3,38),(3,39),(36,40),(36,52),(3,64),(3,65),(3,66)]:=kr
theorem TF(F:Nat->Int):(ints F 67).toArray.extract 0 (0+12)=(ints F 12).toArray/\(ints F 67).toArray.extract 12 (12+25)=(ints (fun i=>F (12+i)) 25).toArray/\(ints F 67).toArray.extract 40 (40+12)=(ints (fun i=>F (40+i)) 12).toArray/\(ints F 67).toArray.extract 52 (52+12)=(ints (fun i=>F (52+i)) 12).toArray:=⟨kr,kr,kr,kr⟩
theorem Ra(d:Nat)(A:Array Value)(w:Wd)(fs:List Field)(h:∀f ∈ fs,∃v,(Go.part f.type A f.offset).run prog w=.ok v w/\(Op.equalIn d f.type v v).run prog w=.ok true w) :(Op.eqFields d A A fs).run prog w=.ok true w:=by
 induction fs with
 | nil=>simp[Op.eqFields]
 | cons f fs ih=>
  have ih:=ih (fun g hg=>h g (by simp[hg]));obtain⟨v,h1,h2⟩:=h f (by simp);simp only[Op.eqFields];split
  ·simp only[Sem.run_bind,h1,h2,Result.andThen_ok];simpa using ih
  ·exact ih
theorem TG(t:TypeId)(w:Wd)(b:Bool)(h:(isAgg t).run prog w=.ok b w)(A:Array Value)(off n:Nat)(hn:(sizeOf t).run prog w=.ok n w)(hb:b=true):(Go.part t A off).run prog w=.ok (.agg (A.extract off (off+n))) w:=by
 subst hb;simp[Go.part,h,hn]
theorem LS:(isAgg 36).run prog w=.ok true w:=kr
theorem Zh:(isAgg 37).run prog w=.ok true w:=kr
theorem Rb:(sizeOf 36).run prog w=.ok 12 w:=kr
theorem kK:(sizeOf 37).run prog w=.ok 25 w:=kr
theorem fY(F:Nat->Int)(i:Nat)(h:i<67):(ints F 67).toArray[i]?=some (.int .i64 (F i)):=by
 have:=BU F 67 i h;simpa[i6] using this
theorem mB(d:Nat)(w:Wd)(F:Nat->Int):(Op.equalIn (d+3) 39 (.agg (ints F 67).toArray) (.agg (ints F 67).toArray)).run prog w=.ok true w:=by
 rw[run_equalIn_struct w (d+2) 39 _ _ kr kr];apply Ra;intro f hf;have hm:(f.type,f.offset) ∈ [(36,0),(37,12),(2,37),(3,38),(3,39),(36,40),(36,52),(3,64),(3,65),(3,66)]:=by
  rw[<-Zg];exact mem_map.2 ⟨f,hf,rfl⟩
 have one:∀i,i<67->∃v,(Go.part 3 (ints F 67).toArray i).run prog w=.ok v w/\(Op.equalIn (d+2) 3 v v).run prog w=.ok true w:=fun i hi=>
  ⟨_,run_part_plain (P:=prog) w Sw (xs:=(ints F 67).toArray) (off:=i) (fY F i hi),by
   have:=run_equalIn_int (P:=prog) w (d+1) 3 .i64 .i64 (F i) (F i) underlying3
   rw[beq_self_eq_true] at this;exact this⟩
 simp only[mem_cons,not_mem_nil,or_false,Prod.mk.injEq] at hm;rcases hm with ⟨h1,h2⟩ | ⟨h1,h2⟩ | ⟨h1,h2⟩ | ⟨h1,h2⟩ | ⟨h1,h2⟩ | ⟨h1,h2⟩ | ⟨h1,h2⟩ | ⟨h1,h2⟩ | ⟨h1,h2⟩ | ⟨h1,h2⟩ <;> rw[h1,h2]
 ·refine⟨_,TG 36 w _ (LS w) _ _ _ (Rb w) rfl,?_⟩;rw[(TF F).1];exact Ha d w _
 ·refine⟨_,TG 37 w _ (Zh w) _ _ _ (kK w) rfl,?_⟩;rw[(TF F).2.1];exact LO d w _
 ·exact⟨_,run_part_plain (P:=prog) w eC (xs:=(ints F 67).toArray) (off:=37) (fY F 37 dc),by
   have:=run_equalIn_int (P:=prog) w (d+1) 2 .i64 .i64 (F 37) (F 37) underlying2
   rw[beq_self_eq_true] at this;exact this⟩
 ·exact one 38 dc
 ·exact one 39 dc
 ·refine⟨_,TG 36 w _ (LS w) _ _ _ (Rb w) rfl,?_⟩;rw[(TF F).2.2.1];exact Ha d w _
 ·refine⟨_,TG 36 w _ (LS w) _ _ _ (Rb w) rfl,?_⟩;rw[(TF F).2.2.2];exact Ha d w _
 ·exact one 64 dc
 ·exact one 65 dc
 ·exact one 66 dc
theorem kL(F:Nat->Int):(binOp .eql 39 (.agg (ints F 67).toArray) (.agg (ints F 67).toArray)).run prog w=.ok (.bool true) w:=by
 rw[run_eql_struct,show (10000:Nat)=9997+3 from rfl,mB];rfl
theorem Zi(op:BinOp)(x y:Operand)(xs ys:Array Value):(eqGuard op 39 x y (.agg xs) (.agg ys)).run prog w=.ok () w:=run_eqGuard_agg w op 39 x y xs ys kr
theorem kN:Calls prog 9 #[] w fun e w'=>e=.returned (.bool true)/\Chg No w w':=by
 have p2:=Eu;have q:=JE;go_enter func9,ntmps9;go_wp2_with fail;refine(Jz w).mono ?_;rintro e w1 ⟨A,K,G,rfl,hF,r0,hu,hB,G1⟩;obtain⟨KB,KC,KD,KE,GE,La,u1,u2,u3,u4,u5,u6,u7,u8,u9,u10⟩:=eB hB;have HA:Hid (∀k,Cor A k->w.heap.size<=k):=fun k hk=>by
  obtain⟨f0,f1,f2,f3,f4,f5,f6,f7,f8,f9⟩:=hF;rcases hk with e | e | e | e | e | e | e | e <;> omega
 have HB:=BE hB;have C4:=BE hu;have h3:=BE G1;have U1:=BE u1;have U4:=BE u4;have U8:=BE u8;have U9:=BE u9;have L3:=BE u10;have V1:Hid (vwF K (12+24)=0/\vwF K 37=2):=⟨by rw[NX K dc,hB.L,Bb],by show ((K.nx:Nat):Int)=2;rw[hB.nx];rfl⟩;have V2:Hid (vwF KB (12+3)=1/\vwF KB 37=3):=⟨by rw[NX KB dc,u2],by show ((KB.nx:Nat):Int)=3;rw[u3];rfl⟩;have V3:Hid (vwF KC (12+24)=8/\vwF KC (12+3)=9/\vwF KC 66=2):=⟨by rw[NX KC dc,u5],by rw[NX KC dc,u6],by show KC.mv=2;exact u7⟩;have HK:=C4;have HG:=h3;go_wp2_with fail;refine(EW A w1 K HK).mono ?_;rintro e B' ⟨rfl,h0,G2⟩;have oa:¬ Cor A B'.heap.size:=h0.apart (AM _);have t7:=BE h0;have qa:=BE (HG.out.trans G2);have h6:=BE G2;have w2:=BE (IB.new B' 39 67 (fun _=>0));go_wp2_with (first | refine Bw rfl rfl ?_ | refine By rfl (.tmp 3) (.tmp 19) rfl B'.heap.size rfl rfl w2 ?_);intro o0 I3 G3;have ha:Chg No B' o0:=((Chg.refl No B').alloc _).trans' G3 (fun k hk h=>om);have HK:=BE (t7.out.chg0 ha);have HG:=BE (qa.out.trans ha);have no:=BE I3;have it:=BE oa;obtain⟨na,oi⟩:∃n,B'.heap.size=n:=⟨_,rfl⟩;rw[oi] at no it;rw[oi];go_wp2_with fail;refine(Jy 7 o0).mono ?_;rintro e w4 ⟨rfl,hj,G4⟩;have hs:=fM A w4 K (HK.out.chg0 G4) 3 dc o0.heap.size 0 160 (JA 7) (CR 7) (GP 7) hj.at_ (HK.out.apart (AM _)) 6 (KB,0) U1;have h6:=BE G4;go_wp2_with fail;refine hs.mono ?_;rintro e w5 ⟨rfl,xs,G5⟩;have hg:=BE xs;have hc:Hid (Chg No w w5):=(HG.out.trans h6).trans' G5 (fun k hk e=>by have:=HA.out k e;omega);replace no:=BE ((no.out.chg h6 (fun f=>f)).chg G5 it);have HK:=hg;have HG:=hc;rw[show errV 0=Value.nilIface from rfl];go_wp2_with fail;refine(EW A w5 KB HK).mono ?_;rintro e wr ⟨rfl,h0,G2⟩;have oa:¬ Cor A wr.heap.size:=h0.apart (AM _);have t7:=BE h0;have qa:=BE (HG.out.trans G2);have h6:=BE G2;have w2:=BE (IB.new wr 39 67 (fun _=>0));go_wp2_with (first | refine Bw rfl rfl ?_ | refine By rfl (.tmp 5) (.tmp 24) rfl wr.heap.size rfl rfl w2 ?_);intro K3 I3 G3;have ha:Chg No wr K3:=((Chg.refl No wr).alloc _).trans' G3 (fun k hk h=>om);have HK:=BE (t7.out.chg0 ha);have HG:=BE (qa.out.trans ha);have hv:=BE I3;have ar:=BE oa;replace no:=BE (no.out.chg (h6.out.trans ha) (fun f=>f));obtain⟨nb,o1⟩:∃n,wr.heap.size=n:=⟨_,rfl⟩;rw[o1] at hv ar;rw[o1];go_wp2_with fail;refine(PT A K3 KB HK 0 dc false 6 (KC,0) U4).mono ?_;rintro e w6 ⟨rfl,hm,G6⟩;have hg:=BE hm;have hc:Hid (Chg No w w6):=HG.out.trans' G6 (fun k hk e=>by have:=HA.out k e;omega);replace no:=BE (no.out.chg G6 it);replace hv:=BE (hv.out.chg G6 ar);have HK:=hg;have HG:=hc;rw[show errV 0=Value.nilIface from rfl];go_wp2_with fail;refine(EW A w6 KC HK).mono ?_;rintro e h2 ⟨rfl,h0,G2⟩;have oa:¬ Cor A h2.heap.size:=h0.apart (AM _);have t7:=BE h0;have qa:=BE (HG.out.trans G2);have h6:=BE G2;have w2:=BE (IB.new h2 39 67 (fun _=>0));go_wp2_with (first | refine Bw rfl rfl ?_ | refine By rfl (.tmp 7) (.tmp 28) rfl h2.heap.size rfl rfl w2 ?_);intro w3 I3 G3;have ha:Chg No h2 w3:=((Chg.refl No h2).alloc _).trans' G3 (fun k hk h=>om);have HK:=BE (t7.out.chg0 ha);have HG:=BE (qa.out.trans ha);have hx:=BE I3;have kd:=BE oa;replace no:=BE (no.out.chg (h6.out.trans ha) (fun f=>f));replace hv:=BE (hv.out.chg (h6.out.trans ha) (fun f=>f));obtain⟨nc,C3⟩:∃n,h2.heap.size=n:=⟨_,rfl⟩;rw[C3] at hx kd;rw[C3];go_wp2_with fail;refine(YP A w3 KC HK 3 dc 6 (KD,0) U8).mono ?_;rintro e w7 ⟨rfl,oo,G7⟩;have hg:=BE oo;have hc:Hid (Chg No w w7):=HG.out.trans' G7 (fun k hk e=>by have:=HA.out k e;omega);replace no:=BE (no.out.chg G7 it);replace hv:=BE (hv.out.chg G7 ar);replace hx:=BE (hx.out.chg G7 kd);have HK:=hg;have HG:=hc;rw[show errV 0=Value.nilIface from rfl];have x1:=fN A w7 KD HK 3 dc;rw[U9.out] at x1;dsimp only at x1;rw[show errV 0=Value.nilIface from rfl] at x1;go_wp2_with fail;refine x1.mono ?_;rintro e w8 ⟨v,rfl,O8,hn,G8⟩;obtain⟨gv,cv,rfl,r2,v',r1,be,-⟩:=O8.lies (by rw[CR];decide);have hg:=BE hn;have hc:Hid (Chg No w w8):=HG.out.trans' G8 (fun k hk e=>by have:=HA.out k e;omega);replace no:=BE (no.out.chg G8 it);replace hv:=BE (hv.out.chg G8 ar);replace hx:=BE (hx.out.chg G8 kd);have x2:Hid (At w8 gv 0 (JA 0)):=⟨v',fun i hi=>by rw[AW];exact be i hi⟩;rw[CR];have HK:=hg;have HG:=hc;go_wp2_with fail;refine(EW A w8 KE HK).mono ?_;rintro e w9 ⟨rfl,C5,G9⟩;have hg:=BE C5;have hc:=BE (HG.out.trans G9);have h6:=BE G9;go_wp2_with fail;refine(Pr A.g KE GE L3.out.iv L3.out.l24 w9 hg.out.chip).mono ?_;rintro e wx ⟨rfl,Gx⟩;have HG:=BE (hc.out.trans Gx);have x0:=h6.out.trans Gx;replace no:=BE (no.out.chg x0 (fun f=>f));replace hv:=BE (hv.out.chg x0 (fun f=>f));replace hx:=BE (hx.out.chg x0 (fun f=>f));have h1:Hid (At wx gv 0 (JA 0)):=⟨Aj x2.out.1 x0.size,fun i hi=>(x0.cell x2.out.1 (fun f=>f) (0+i)).trans (x2.out.2 i hi)⟩;obtain⟨ho,-⟩:=no.out.cell 36 dc;obtain⟨h4,-⟩:=no.out.cell 37 dc;obtain⟨l2,-⟩:=hv.out.cell 15 dc;obtain⟨ht,-⟩:=hv.out.cell 37 dc;obtain⟨K',-⟩:=hx.out.cell 36 dc;obtain⟨c15,-⟩:=hx.out.cell 15 dc;obtain⟨rs,-⟩:=hx.out.cell 66 dc;rw[show vwF K 36=0 from V1.out.1] at ho;rw[V1.out.2] at h4;rw[show vwF KB 15=1 from V2.out.1] at l2;rw[V2.out.2] at ht;rw[show vwF KC 36=8 from V3.out.1] at K';rw[show vwF KC 15=9 from V3.out.2.1] at c15;rw[V3.out.2.2] at rs;have pg:=Jy 0 wx;go_wp2_with fail;refine pg.mono ?_;rintro e wy ⟨rfl,e1,Gy⟩;have o2:=ZB wy gv 0 160 cv wx.heap.size 0 160 160 (JA 0) (JA 0) (CR 0).symm (CR 0).symm (GP 0) (GP 0) ⟨Aj h1.out.1 Gy.size,fun i hi=>(Gy.cell h1.out.1 (fun f=>f) (0+i)).trans (h1.out.2 i hi)⟩ e1.at_;rw[AO rfl] at o2;have ih:=BE (HG.out.trans Gy);go_wp2_with fail;refine o2.mono ?_;rintro e wz ⟨rfl,rfl⟩;go_wp2;go_ret;exact⟨rfl,ih⟩
end
section
variable {A:Ad}{ar:Nat}{w w':Wd}
def nK (A:Ad) (ar B:Nat) (tn:Prop) (w:Wd) (e:Ending) (w':Wd):Prop:=e=.returned (.bool true)/\∃K' G' Lb,CoreAt A w' K'/\IB w' ar 31 24 Lb/\Lnv (B+1) K' G' Lb/\(tn->bad3 K'.F<=2->K'.ca<8)/\Chg (fun k=>Cor A k\/k=ar) w w'
def LT (x:Int):Prop:=-9223372036854775808<=x/\x<=9223372036854775807
theorem Chg.corA(h:Chg (Cor A) w w'):Chg (fun k=>Cor A k\/k=ar) w w':=h.mono (fun _ _ f=>AK f)
theorem Chg.newA(h:Chg No w w'):Chg (fun k=>Cor A k\/k=ar) w w':=h.mono (fun _ _ f=>f.elim)
theorem Lnv.wf{B:Nat}{K:BH}{G:Bk}{La:Nat->Int}(h:Lnv B K G La):Wf K:=by
 obtain⟨_,X,hs,_⟩:=h.iv;exact hs.wf
theorem mD(A:Ad)(w:Wd)(K:BH)(G:Bk)(La:Nat->Int)(B ar:Nat)(h:CoreAt A w K)(hI:IB w ar 31 24 La)(nar:¬ Cor A ar)(hv:Lnv B K G La)(hB:B<1073741824)(kd a x:Int)(hk:LT kd)(ha:LT a)(hx:LT x)(h6:pkN kd 10≠6) :Calls prog 11 #[.pointer (some ⟨A.g,0,none⟩),.pointer (some ⟨A.c,0,none⟩),.pointer (some ⟨ar,0,none⟩),.agg #[.int .i64 kd,.int .i64 a,.int .i64 x]] w (nK A ar B (pkN kd 10=7) w):=by
 have G0:Chg No w (w.alloc (.cells #[.int .i64 kd,.int .i64 a,.int .i64 x] 34)):=(Chg.refl _ w).alloc _;have HK:=BE (h.chg0 G0);have HI:=BE (hI.chg G0 (fun f=>f));have HG:=BE (Chg.newA (A:=A) (ar:=ar) G0);have h1:=BE nar;have HV:=BE hv;have HX:=BE hx;have h2:(w.alloc (.cells #[.int .i64 kd,.int .i64 a,.int .i64 x] 34)).heap[w.heap.size]?=some (.cells #[.int .i64 kd,.int .i64 a,.int .i64 x] 34):=(show (w.heap.push _)[w.heap.size]?=_ by simp);have k0:(w.alloc (.cells #[.int .i64 kd,.int .i64 a,.int .i64 x] 34)).cell? ⟨w.heap.size,0,none⟩=some (.int .i64 kd):=by rw[cell_of_row _ _ _ _ _ _ h2];rfl
 have k1:(w.alloc (.cells #[.int .i64 kd,.int .i64 a,.int .i64 x] 34)).cell? ⟨w.heap.size,1,none⟩=some (.int .i64 a):=by rw[cell_of_row _ _ _ _ _ _ h2];rfl
 have k2:(w.alloc (.cells #[.int .i64 kd,.int .i64 a,.int .i64 x] 34)).cell? ⟨w.heap.size,2,none⟩=some (.int .i64 x):=by rw[cell_of_row _ _ _ _ _ _ h2];rfl
 have p1:=Cx a ha.1 ha.2 24 dc dc;have p2:=Cx a ha.1 ha.2 12 dc dc;have p3:=Cx kd hk.1 hk.2 10 dc dc;have p4:=Cx x hx.1 hx.2 40 dc dc;have l1:=I9 a 24 dc;have l2:=I9 a 12 dc;have l3:=I9 kd 10 dc;have l4:=I9 x 40 dc;generalize pkN a 24=o at *
 generalize pkN a 12=b at *
 generalize pkN kd 10=q at *
 generalize pkN x 40=y at *
 go_enter func11,ntmps11;go_wp2_with fail;generalize w.alloc (.cells #[.int .i64 kd,.int .i64 a,.int .i64 x] 34)=w0 at *
 refine(p1 w0).mono ?_;rintro e w0 ⟨rfl,rfl⟩;go_wp2_with fail;refine(p2 w0).mono ?_;rintro e w0 ⟨rfl,rfl⟩;go_wp2_with fail;refine(p3 w0).mono ?_;rintro e w0 ⟨rfl,rfl⟩;have L1:=BE l1;have L2:=BE l2;have x2:(o:Int)<24:=om
 have f7:(0:Int)<=o:=om
 have hq:(q=0\/q=1\/q=2)\/q=3\/q=4\/q=5\/q=7\/q=8\/q=9:=om
 rcases hq with hq | rfl | rfl | rfl | rfl | rfl | rfl
 ·obtain⟨Z,e1,c1,G',Lb,v1,b1,b2,-⟩:=TD HV hB L1 (numN x:Nat);have hp:=lu A w0 K HK ar La HI h1 o L1 x HX.out.1 HX.out.2 6 Z e1 c1 Lb b1 b2;have it:=BE v1;rcases hq with rfl | rfl | rfl
  all_goals
   go_wp2_with fail;refine hp.mono ?_;rintro e w1 ⟨rfl,hg,t7,G1⟩;have hc:=BE hg;have no:=BE t7;have w':=BE (HG.out.trans G1);go_wp2;go_ret;exact⟨rfl,Z.1,G',Lb,hc.out,no.out,it.out,fun e=>absurd e dc,w'⟩
 ·obtain⟨K',e1,v1,-⟩:=Na HV hB L1;have hp:=ZP A w0 K HK ar La HI h1 o L1 K' e1;have it:=BE v1;go_wp2_with fail;refine hp.mono ?_;rintro e w1 ⟨rfl,hg,G1⟩;have hc:=BE hg;have no:=BE (HI.out.chg G1 h1);have w':=BE (HG.out.trans (Chg.corA (ar:=ar) G1));go_wp2;go_ret;exact⟨rfl,K',G,La,hc.out,no.out,it.out,fun e=>absurd e dc,w'⟩
 ·obtain⟨Z,e1,c1,G',Lb,v1,b1,b2⟩:=Pt HV hB L1;have hp:=YP A w0 K HK o L1 6 Z e1;have it:=BE v1;have f3:=BE c1;have hi:=BE b1;have f9:=BE b2;go_wp2_with fail;refine hp.mono ?_;rintro e w1 ⟨rfl,hg,G1⟩;have hc:=BE hg;have no:=BE (HI.out.chg G1 h1);have w':=BE (HG.out.trans (Chg.corA (ar:=ar) G1));rcases f3 with h0 | ⟨f5,hb⟩
  ·have f1:=BE h0;rw[h0,show errV 0=Value.nilIface from rfl];have q:=JE;obtain⟨x0,x1⟩:=no.out.cell o L1;have f6:=BE (no.out.set o 0);have G3:Chg (·=ar) w1 (w1.setCell ⟨ar,o,none⟩ (.int .i64 0)):=(Chg.refl (·=ar) w1).setCell (AK rfl) _ _;have oa:=BE (hc.out.far2 G3 no.out.ty);have qa:Hid (Chg (fun k=>Cor A k\/k=ar) w (w1.setCell ⟨ar,o,none⟩ (.int .i64 0))):=w'.out.trans (G3.mono (fun _ _ f=>AL f));have hw:=Ev A _ Z.1 oa 0 (AK rfl);go_wp2_with fail;refine hw.mono ?_;rintro e w4 ⟨rfl,w2,G4⟩;have B':=BE w2;have G2:=BE (f6.out.chg G4 (fun f=>f));have wr:=BE (qa.out.trans (Chg.newA (A:=A) (ar:=ar) G4));go_wp2;go_ret;exact⟨rfl,Z.1,G',Lb,B'.out,by rw[hi.out f1.out];exact G2.out,it.out,fun e=>absurd e dc,wr⟩
  ·have f1:=BE f5;rw[f5,show errV 14=Value.iface 57 (.int .i64 14) from rfl];have q:=RX;have hw:=Ev A w1 Z.1 hc 14 (AL ⟨rfl,hb⟩);go_wp2_with fail;refine hw.mono ?_;rintro e w4 ⟨rfl,w2,G4⟩;have B':=BE w2;have G2:=BE (no.out.chg G4 (fun f=>f));have wr:=BE (w'.out.trans (Chg.newA (A:=A) (ar:=ar) G4));go_wp2;go_ret;exact⟨rfl,Z.1,G',Lb,B'.out,by rw[f9.out (by rw[f1.out];decide)];exact G2.out,it.out,fun e=>absurd e dc,wr⟩
 ·obtain⟨Z,e1,c1,G',v1⟩:=Zd HV hB;have hp:=LE A 6 (FF A 6) w0 K HK Z e1;have it:=BE v1;have f3:=BE c1;go_wp2_with fail;refine hp.mono ?_;rintro e w1 ⟨rfl,hg,G1⟩;have hc:=BE hg;have no:=BE (HI.out.chg G1 h1);have w':=BE (HG.out.trans (Chg.corA (ar:=ar) G1));have hw:=Ev A w1 Z.1 hg Z.2 f3;go_wp2_with fail;refine hw.mono ?_;rintro e w4 ⟨rfl,w2,G4⟩;have B':=BE w2;have G2:=BE (no.out.chg G4 (fun f=>f));have wr:=BE (w'.out.trans (Chg.newA (A:=A) (ar:=ar) G4));go_wp2;go_ret;exact⟨rfl,Z.1,G',La,B'.out,G2.out,it.out,fun e=>absurd e dc,wr⟩
 ·obtain⟨Z,e1,c1,⟨G',v1⟩,c8⟩:=Ze HV hB;have o0:=HV.out.ca;have hp:=jC A w0 K HK om 6 13 Z e1;rw[c1,show errV 0=Value.nilIface from rfl] at hp;have it:=BE v1;have f8:=BE c8;have q:=JE;go_wp2_with fail;refine hp.mono ?_;rintro e w1 ⟨rfl,hg,G1⟩;have hc:=BE hg;have no:=BE (HI.out.chg G1 h1);have w':=BE (HG.out.trans (Chg.corA (ar:=ar) G1));go_wp2;go_ret;exact⟨rfl,Z.1,G',La,hc.out,no.out,it.out,fun _=>f8.out,w'⟩
 ·have f4:=HK.out.wf.chip;have v1:=Pu HV hB (s':=(ER K.s (b:Nat) (y:Nat)).1) (Tx f4 _ _ om) (by unfold ER;rw[AI (by have:=L2.out;omega)];rfl) (by unfold ER;rw[AI (by have:=L2.out;omega)];rfl) (by unfold ER;rw[AI (by have:=L2.out;omega)];rfl) (fun i=>by
   unfold ER
   rw[AI (by have:=L2.out;omega)]
   show (if i=((b:Nat):Int).toNat then _ else K.s.bl i).reads=(K.s.bl i).reads
   split
   ·
    rename_i c;rw[c]
   ·
    rfl)
  have hp:=Tz A.g K.s (b:Nat) (y:Nat) w0 HK.out.chip;have it:=BE v1;have HL:=BE l4;go_wp2_with fail;refine(p4 w0).mono ?_;rintro e w0 ⟨rfl,rfl⟩;go_wp2_with fail;refine hp.mono ?_;rintro e w1 ⟨rfl,f2,G1⟩;have hc:=BE (HK.out.setChip f2 G1 it.out.wf);have no:=BE (HI.out.chg (Chg.cor_g G1) h1);have w':=BE (HG.out.trans (Chg.corA (ar:=ar) (Chg.cor_g G1)));go_wp2;go_ret;exact⟨rfl,_,G,La,hc.out,no.out,it.out,fun e=>absurd e dc,w'⟩
 ·have f4:=HK.out.wf.chip;have v1:=Pu HV hB (s':=(ES K.s (b:Nat)).1) (T8 f4 _) (by unfold ES;rw[AI (by have:=L2.out;omega)];rfl) (by unfold ES;rw[AI (by have:=L2.out;omega)];rfl) (by unfold ES;rw[AI (by have:=L2.out;omega)];rfl) (fun i=>by
   unfold ES
   rw[AI (by have:=L2.out;omega)]
   show (if i=((b:Nat):Int).toNat then _ else K.s.bl i).reads=(K.s.bl i).reads
   split
   ·
    rename_i c;rw[c]
   ·
    rfl)
  have hp:=T9 A.g K.s (b:Nat) w0 HK.out.chip;have it:=BE v1;go_wp2_with fail;refine hp.mono ?_;rintro e w1 ⟨rfl,f2,G1⟩;have hc:=BE (HK.out.setChip f2 G1 it.out.wf);have no:=BE (HI.out.chg (Chg.cor_g G1) h1);have w':=BE (HG.out.trans (Chg.corA (ar:=ar) (Chg.cor_g G1)));go_wp2;go_ret;exact⟨rfl,_,G,La,hc.out,no.out,it.out,fun e=>absurd e dc,w'⟩
end
section
variable {ops:Array Oper}{rest:List Oper}{o:Oper}{a:Act}{Q:Exit->Act->World->Prop}{F:Nat->Int}(w:Wd)
def fZ (kd a x:Int):Nat->Int:=fun i=>if i=0 then kd else if i=1 then a else x
theorem eE:(binOp .eql 46 (.iface 57 (.int .i64 12)) (.iface 57 (.int .i64 12))).run prog w=.ok (.bool true) w:=kr
theorem Zj(n:Int):(binOp .neq 46 (.iface 57 (.int .i64 n)) .nilIface).run prog w=.ok (.bool true) w:=kr
theorem Dv{w:Wd}(hgd:o.guard=none)(x:Operand)(ho:o.op=.load 39 x)(g:Nat)(hx:a.eval x=.pointer (some ⟨g,0,none⟩))(hg:IB w g 39 67 F)(h:wpList prog ops Q rest (a.put o.dst (.agg (ints F 67).toArray)) w):wpList prog ops Q (o :: rest) a w:=
 wpList_load_row hgd 39 x ho g hx 39 _ _ _ hg underlying39 rfl (by rw[show (ints F 67).toArray.size=67 by simp[BF]];exact Gu) h
theorem Bi{w:Wd}(d:Nat)(_:o.dst=some d)(x:Operand)(ho:o.op=.load 39 x)(g:Nat)(hx:a.eval x=.pointer (some ⟨g,0,none⟩))(hw:Region.wanted o (yielded ops a.tmps)=true)(hg:IB w g 39 67 F)(h:wpList prog ops Q rest (a.put o.dst (.agg (ints F 67).toArray)) w):wpList prog ops Q (o :: rest) a w:=Ja hw x ho g hx hg h
theorem mE(A:Ad)(w:Wd)(K:BH)(G:Bk)(La:Nat->Int)(B ar:Nat)(h:CoreAt A w K)(hI:IB w ar 31 24 La)(nar:¬ Cor A ar)(hv:Lnv B K G La)(hB:B<1073741824)(kd a x:Int)(hk:LT kd)(ha:LT a)(h6:pkN kd 10=6) :Calls prog 11 #[.pointer (some ⟨A.g,0,none⟩),.pointer (some ⟨A.c,0,none⟩),.pointer (some ⟨ar,0,none⟩),.agg #[.int .i64 kd,.int .i64 a,.int .i64 x]] w (nK A ar B (pkN kd 10=7) w):=by
 have G0:Chg No w (w.alloc (.cells #[.int .i64 kd,.int .i64 a,.int .i64 x] 34)):=(Chg.refl _ w).alloc _;have HK:=BE (h.chg0 G0);have HI:=BE (hI.chg G0 (fun f=>f));have HG:=BE (Chg.newA (A:=A) (ar:=ar) G0);have HNA:=BE nar;have HNO:Hid (¬ Cor A w.heap.size):=h.apart (AM _);have HOP:Hid (IB (w.alloc (.cells #[.int .i64 kd,.int .i64 a,.int .i64 x] 34)) w.heap.size 34 3 (fZ kd a x)):=IB.new w 34 3 (fZ kd a x);have k0:=(HOP.out.cell 0 dc).1;have k1:=(HOP.out.cell 1 dc).1;rw[show fZ kd a x 0=kd from rfl] at k0;rw[show fZ kd a x 1=a from rfl] at k1;have p1:=Cx a ha.1 ha.2 24 dc dc;have p2:=Cx a ha.1 ha.2 12 dc dc;have p3:=Cx kd hk.1 hk.2 10 dc dc;have l2:=I9 a 12 dc;rw[h6] at p3 ⊢;generalize pkN a 24=o at *
 generalize pkN a 12=b at *
 obtain⟨rt,hrt⟩:∃rt:Bool,(x.tmod 3 == 0)=rt:=⟨_,rfl⟩;obtain⟨Z,e1,⟨G',v1⟩,hz⟩:=TE hv hB l2 rt;have HV1:=BE v1;have HE1:=BE e1;have HZ:=BE hz;have HNAF:Hid (∀i,i<12->0<=Z.1.F i/\Z.1.F i<=3):=by
  obtain⟨_,X,hs,_⟩:=v1.iv;exact hs.sts
 have HLR:Hid (∀i,i<25->Z.1.L i = -1\/(0<=Z.1.L i/\Z.1.L i<96)):=v1.wf.map.rng;clear h hI nar hv G0 h6 e1 v1 hz hk ha;go_enter func11,ntmps11;go_wp2_with fail;generalize w.alloc (.cells #[.int .i64 kd,.int .i64 a,.int .i64 x] 34)=w0 at *
 refine(p1 w0).mono ?_;rintro e w0 ⟨rfl,rfl⟩;go_wp2_with fail;refine(p2 w0).mono ?_;rintro e w0 ⟨rfl,rfl⟩;go_wp2_with fail;refine(p3 w0).mono ?_;rintro e w0 ⟨rfl,rfl⟩;have L2:=BE l2;have hbz:(b:Int)<12:=om
 have hbz0:(0:Int)<=b:=om
 obtain⟨n0,hn0⟩:∃n,w.heap.size=n:=⟨_,rfl⟩;rw[hn0] at HOP HNO k0 k1;rw[hn0];clear p1 p2 p3 l2 hn0 k0 k1;go_wp2_with fail;refine(EW A w0 K HK.out).mono ?_;rintro e w1 ⟨rfl,hK1,G1⟩;have HI2:=BE (IB.new w1 39 67 (fun _=>0));have HK1:=BE hK1;have HGp:=BE G1;clear hK1 G1;go_wp2_with (first | refine Bw rfl rfl ?_ | refine By rfl (.tmp 13) (.tmp 68) rfl w1.heap.size rfl rfl HI2.out ?_);intro w2 I2 G2;have G12:Chg No w1 w2:=((Chg.refl No w1).alloc _).trans' G2 (fun k hk h=>om);have G02:=HGp.out.trans G12;have HK2:=BE (HK1.out.chg0 G12);have HIA:=BE (HI.out.chg G02 (fun f=>f));have HOP2:=BE (HOP.out.chg G02 (fun f=>f));have HG2:=BE (HG.out.trans (Chg.newA (A:=A) (ar:=ar) G02));have HVa:=BE I2;have HNV:Hid (¬ Cor A w1.heap.size):=HK1.out.apart (AM _);obtain⟨na,hna⟩:∃n,w1.heap.size=n:=⟨_,rfl⟩;rw[hna] at HVa HNV;rw[hna];have k2:=(HOP2.out.cell 2 dc).1;rw[show fZ kd a x 2=x from rfl] at k2;clear G12 G02 G2 I2 HGp HI2 HK1 HK HI HOP HG hna;go_wp2_with fail;refine(PT A w2 K HK2.out b L2.out rt 6 Z HE1.out).mono ?_;rintro e w3 ⟨rfl,hK3,G3⟩;have HK3:=BE hK3;have HI3:=BE (HIA.out.chg G3 HNA.out);have HOP3:=BE (HOP2.out.chg G3 HNO.out);have HVa3:=BE (HVa.out.chg G3 HNV.out);have HG3:=BE (HG2.out.trans (Chg.corA (ar:=ar) G3));clear hK3 G3 HK2 HIA HOP2 HVa HG2 k2;go_wp2_with fail;refine(EW A w3 Z.1 HK3.out).mono ?_;rintro e w4 ⟨rfl,hK4,G4⟩;have HI4:=BE (IB.new w4 39 67 (fun _=>0));have HK4:=BE hK4;have HGp:=BE G4;clear hK4 G4;go_wp2_with (first | refine Bw rfl rfl ?_ | refine By rfl (.tmp 15) (.tmp 77) rfl w4.heap.size rfl rfl HI4.out ?_);intro w5 I5 G5;have G45:Chg No w4 w5:=((Chg.refl No w4).alloc _).trans' G5 (fun k hk h=>om);have G35:=HGp.out.trans G45;have HK5:=BE (HK4.out.chg0 G45);have HI5:=BE (HI3.out.chg G35 (fun f=>f));have HOP5:=BE (HOP3.out.chg G35 (fun f=>f));have HVa5:=BE (HVa3.out.chg G35 (fun f=>f));have HVb5:=BE I5;have HG5:=BE (HG3.out.trans (Chg.newA (A:=A) (ar:=ar) G35));obtain⟨nb,hnb⟩:∃n,w4.heap.size=n:=⟨_,rfl⟩;rw[hnb] at HVb5;rw[hnb];have k2:=(HOP5.out.cell 2 dc).1;rw[show fZ kd a x 2=x from rfl] at k2;obtain⟨kb,-⟩:=HVa5.out.cell b (by have:=L2.out;omega);rw[Pp K L2.out] at kb;clear G45 G35 G5 I5 HGp HI4 HK4 HK3 HI3 HOP3 HVa3 HG3 hnb;have hqv:=kL;have hgv:=Zi;rcases HZ.out with ⟨hF,rfl⟩ | ⟨hF0,hF3,hbd,rfl⟩ | ⟨hF0,hF3,hbd,hz⟩
 ·rw[show errV (K,12).snd=Value.iface 57 (.int .i64 12) from rfl];have q12:=eE;clear HZ HE1 HNAF HLR k2;rcases hF with e | e
  all_goals
   rw[e] at kb;clear e;go_wp2_with (first | refine Bi 95 rfl (.tmp 13) rfl na rfl rfl HVa5.out ?_ | refine Bi 96 rfl (.tmp 15) rfl nb rfl rfl HVb5.out ?_);go_ret;exact⟨rfl,K,G',La,HK5.out,HI5.out,HV1.out,fun e=>absurd e dc,HG5.out⟩
 ·rw[show errV (K,14).snd=Value.iface 57 (.int .i64 14) from rfl];have q14:=NZ;have f0:(K.F b == 0)=false:=by simpa using hF0
  have f3:(K.F b == 3)=false:=by simpa using hF3
  have hbn:=JB K;have hbs:=fun w=>JC (vwF K) w;clear HZ HE1 HNAF HLR;generalize K.F b=z at *
  generalize hnb:bdN (vwF K) 12=n at *
  rw[<-hbn] at hbd;clear hbn hnb;go_wp2_with (refine Dv rfl (.tmp 13) rfl na rfl HVa5.out ?_);refine(hbs w5).mono ?_;rintro e w6 ⟨rfl,G6⟩;have HK6:=BE (HK5.out.chg0 G6);have HI6:=BE (HI5.out.chg G6 (fun f=>f));have HVa6:=BE (HVa5.out.chg G6 (fun f=>f));have HVb6:=BE (HVb5.out.chg G6 (fun f=>f));have HOP6:=BE (HOP5.out.chg G6 (fun f=>f));have HG6:=BE (HG5.out.trans (Chg.newA (A:=A) (ar:=ar) G6));have k6:=(HOP6.out.cell 2 dc).1;rw[show fZ kd a x 2=x from rfl] at k6;clear G6 HK5 HI5 HVa5 HVb5 HOP5 HG5 k2 kb;by_cases h2:2<n
  ·have h2z:(2:Int)<(n:Int):=om;clear hbd;go_wp2_with (with_reducible refine Bi 118 rfl (.tmp 13) rfl na ?_ ?_ (F:=vwF K) ?_ (Hid.out ?_))
   ·rfl
   ·exact HVa6.out
   refine BE ?_;go_wp2_with (refine Bi 119 rfl (.tmp 15) rfl nb rfl rfl HVb6.out ?_);go_ret;exact⟨rfl,K,G',La,HK6.out,HI6.out,HV1.out,fun e=>absurd e dc,HG6.out⟩
  ·have h2z:¬ (2:Int)<(n:Int):=om;obtain⟨ert,en⟩:=hbd.resolve_left h2;subst ert;subst en;clear hbd h2;go_wp2_with (with_reducible refine Bi 109 rfl (.tmp 13) rfl na ?_ ?_ (F:=vwF K) ?_ (Hid.out ?_))
   ·rfl
   ·exact HVa6.out
   refine BE ?_;go_wp2_with fail;refine(hbs w6).mono ?_;rintro e w7 ⟨rfl,G7⟩;have HK7:=BE (HK6.out.chg0 G7);have HI7:=BE (HI6.out.chg G7 (fun f=>f));have HVa7:=BE (HVa6.out.chg G7 (fun f=>f));have HVb7:=BE (HVb6.out.chg G7 (fun f=>f));have HG7:=BE (HG6.out.trans (Chg.newA (A:=A) (ar:=ar) G7));clear G7 HK6 HI6 HVa6 HVb6 HG6;go_wp2_with (with_reducible refine Bi 118 rfl (.tmp 13) rfl na ?_ ?_ (F:=vwF K) ?_ (Hid.out ?_))
   ·rfl
   ·exact HVa7.out
   refine BE ?_;go_wp2_with (refine Bi 119 rfl (.tmp 15) rfl nb rfl rfl HVb7.out ?_);go_ret;exact⟨rfl,K,G',La,HK7.out,HI7.out,HV1.out,fun e=>absurd e dc,HG7.out⟩
 ·have q14:=NZ;have f0:(K.F b == 0)=false:=by simpa using hF0
  have f3:(K.F b == 3)=false:=by simpa using hF3
  have hbn:=JB K;have hbs:=fun w=>JC (vwF K) w;clear HZ HE1;generalize K.F b=z at *
  generalize hnb:bdN (vwF K) 12=n at *
  rw[<-hbn] at hbd;clear hbn hnb;have h2z:¬ (2:Int)<(n:Int):=fun e=>hbd (AK om);have hrn:rt=true->¬ (n:Int)=2:=fun e k=>hbd (AL ⟨e,om⟩);clear hbd;go_wp2_with (refine Dv rfl (.tmp 13) rfl na rfl HVa5.out ?_);refine(hbs w5).mono ?_;rintro e w6 ⟨rfl,G6⟩;have HK6:=BE (HK5.out.chg0 G6);have HI6:=BE (HI5.out.chg G6 (fun f=>f));have HVa6:=BE (HVa5.out.chg G6 (fun f=>f));have HVb6:=BE (HVb5.out.chg G6 (fun f=>f));have HOP6:=BE (HOP5.out.chg G6 (fun f=>f));have HG6:=BE (HG5.out.trans (Chg.newA (A:=A) (ar:=ar) G6));have k6:=(HOP6.out.cell 2 dc).1;rw[show fZ kd a x 2=x from rfl] at k6;clear G6 HK5 HI5 HVa5 HVb5 HOP5 HG5 k2 kb;have HZZ:=BE hz;clear hz hF0 hF3;cases rt with
  | true=>
   have hn2:=hrn rfl;have hn2b:((n:Int) == 2)=false:=(by simpa using hn2);clear hrn;go_wp2_with (refine Bi 109 rfl (.tmp 13) rfl na rfl rfl HVa6.out ?_);refine(hbs w6).mono ?_;rintro e w7 ⟨rfl,G7⟩;have HK7:=BE (HK6.out.chg0 G7);have HI7:=BE (HI6.out.chg G7 (fun f=>f));have HVb7:=BE (HVb6.out.chg G7 (fun f=>f));have HG7:=BE (HG6.out.trans (Chg.newA (A:=A) (ar:=ar) G7));clear G7 HK6 HI6 HVa6 HVb6 HG6 HOP6 k6 hbs;rcases HZZ.out with ⟨c0,hF,hn⟩ | ⟨c14,hb2⟩
   ·rw[c0,show errV 0=Value.nilIface from rfl];have qn:=JD;have HFb:=BE hF;have HLn:=BE hn;clear c0 hF hn HZZ;go_wp2
    go_loopg [16] 25 (fun kx s16 wx=>∃i:Nat,s16=.int .i64 i/\i<=25/\25 - i<=kx/\wx=w7)
    case atStart=>exact⟨0,rfl,om,om,rfl⟩
    case round=>
    obtain⟨i,rfl,hi,hkx,rfl⟩:=hrel;by_cases hit:i<25
    ·have hiz:(i:Int)<=24:=om;have hiz2:(i:Int)<25:=om;have hi0:(0:Int)<=i:=om;obtain⟨hc,-⟩:=HVb7.out.cell (12+i) om;rw[NX Z.1 hit] at hc;have hr:=HLR.out i hit;have hl:=HLn.out i hit;generalize Z.1.L i=y at *
     rcases hr with rfl | ⟨y0,y1⟩
     ·clear hl;go_wp2
      go_roundg (25 - (i+1))
      case measure=>omega
      case rel=>exact⟨i+1,by simp,om,AM _,rfl⟩
     ·obtain⟨m,rfl⟩:∃m:Nat,y=(m:Int):=⟨y.toNat,om⟩;have hm:=hl om;rw[AP] at hm;have hd8:((m:Int)).tdiv 8=((m / 8:Nat):Int):=(by rw[Int.tdiv_eq_ediv_of_nonneg om];omega);have hmb:(((m / 8:Nat):Int) == (b:Int))=false:=(by simp only[beq_eq_false_iff_ne];omega);have hmb2:¬ ((m / 8:Nat):Int)=(b:Int):=om;have hm0:(0:Int)<=(m:Int):=om;have hdz:((m / 8:Nat):Int)<12:=om;have hdz0:(0:Int)<=((m / 8:Nat):Int):=om;generalize m / 8=d at *
      clear hl y0;go_wp2
      go_roundg (25 - (i+1))
      case measure=>omega
      case rel=>exact⟨i+1,by simp,om,AM _,rfl⟩
    ·have hiz:¬ (i:Int)<=24:=om;obtain⟨hcb,-⟩:=HVb7.out.cell b (by have:=L2.out;omega);rw[Pp Z.1 L2.out] at hcb;rcases HFb.out with e | e
     ·rw[e] at hcb;clear e;go_wp2;go_ret;exact⟨rfl,Z.1,G',La,HK7.out,HI7.out,HV1.out,fun e=>absurd e dc,HG7.out⟩
     ·rw[e] at hcb;clear e;go_wp2;go_ret;exact⟨rfl,Z.1,G',La,HK7.out,HI7.out,HV1.out,fun e=>absurd e dc,HG7.out⟩
   ·rw[c14,show errV 14=Value.iface 57 (.int .i64 14) from rfl];have qn:=Zj;have hbn2:=JB Z.1;have hbs2:=fun w=>JC (vwF Z.1) w;have h2n:(2:Int)<((bdN (vwF Z.1) 12:Nat):Int):=(by rw[hbn2];omega);generalize bdN (vwF Z.1) 12=n2 at *
    clear c14 hb2 HZZ hbn2;go_wp2_with (refine Bi 129 rfl (.tmp 15) rfl nb rfl rfl HVb7.out ?_);refine(hbs2 w7).mono ?_;rintro e w8 ⟨rfl,G8⟩;have HK8:=BE (HK7.out.chg0 G8);have HI8:=BE (HI7.out.chg G8 (fun f=>f));have HG8:=BE (HG7.out.trans (Chg.newA (A:=A) (ar:=ar) G8));clear G8;go_wp2;go_ret;exact⟨rfl,Z.1,G',La,HK8.out,HI8.out,HV1.out,fun e=>absurd e dc,HG8.out⟩
  | false=>
   have HK7:=HK6;have HI7:=HI6;have HVb7:=HVb6;have HG7:=HG6;clear HK6 HI6 HVa6 HVb6 HG6 HOP6 hbs hrn;rcases HZZ.out with ⟨c0,hF,hn⟩ | ⟨c14,hb2⟩
   ·rw[c0,show errV 0=Value.nilIface from rfl];have qn:=JD;have HFb:=BE hF;have HLn:=BE hn;clear c0 hF hn HZZ;go_wp2
    go_loopg [16] 25 (fun kx s16 wx=>∃i:Nat,s16=.int .i64 i/\i<=25/\25 - i<=kx/\wx=w6)
    case atStart=>exact⟨0,rfl,om,om,rfl⟩
    case round=>
    obtain⟨i,rfl,hi,hkx,rfl⟩:=hrel;by_cases hit:i<25
    ·have hiz:(i:Int)<=24:=om;have hiz2:(i:Int)<25:=om;have hi0:(0:Int)<=i:=om;obtain⟨hc,-⟩:=HVb7.out.cell (12+i) om;rw[NX Z.1 hit] at hc;have hr:=HLR.out i hit;have hl:=HLn.out i hit;generalize Z.1.L i=y at *
     rcases hr with rfl | ⟨y0,y1⟩
     ·clear hl;go_wp2
      go_roundg (25 - (i+1))
      case measure=>omega
      case rel=>exact⟨i+1,by simp,om,AM _,rfl⟩
     ·obtain⟨m,rfl⟩:∃m:Nat,y=(m:Int):=⟨y.toNat,om⟩;have hm:=hl om;rw[AP] at hm;have hd8:((m:Int)).tdiv 8=((m / 8:Nat):Int):=(by rw[Int.tdiv_eq_ediv_of_nonneg om];omega);have hmb:(((m / 8:Nat):Int) == (b:Int))=false:=(by simp only[beq_eq_false_iff_ne];omega);have hmb2:¬ ((m / 8:Nat):Int)=(b:Int):=om;have hm0:(0:Int)<=(m:Int):=om;have hdz:((m / 8:Nat):Int)<12:=om;have hdz0:(0:Int)<=((m / 8:Nat):Int):=om;generalize m / 8=d at *
      clear hl y0;go_wp2
      go_roundg (25 - (i+1))
      case measure=>omega
      case rel=>exact⟨i+1,by simp,om,AM _,rfl⟩
    ·have hiz:¬ (i:Int)<=24:=om;obtain⟨hcb,-⟩:=HVb7.out.cell b (by have:=L2.out;omega);rw[Pp Z.1 L2.out] at hcb;rcases HFb.out with e | e
     ·rw[e] at hcb;clear e;go_wp2;go_ret;exact⟨rfl,Z.1,G',La,HK7.out,HI7.out,HV1.out,fun e=>absurd e dc,HG7.out⟩
     ·rw[e] at hcb;clear e;go_wp2;go_ret;exact⟨rfl,Z.1,G',La,HK7.out,HI7.out,HV1.out,fun e=>absurd e dc,HG7.out⟩
   ·rw[c14,show errV 14=Value.iface 57 (.int .i64 14) from rfl];have qn:=Zj;have hbn2:=JB Z.1;have hbs2:=fun w=>JC (vwF Z.1) w;have h2n:(2:Int)<((bdN (vwF Z.1) 12:Nat):Int):=(by rw[hbn2];omega);generalize bdN (vwF Z.1) 12=n2 at *
    clear c14 hb2 HZZ hbn2;go_wp2_with (refine Bi 129 rfl (.tmp 15) rfl nb rfl rfl HVb7.out ?_);refine(hbs2 w6).mono ?_;rintro e w8 ⟨rfl,G8⟩;have HK8:=BE (HK7.out.chg0 G8);have HI8:=BE (HI7.out.chg G8 (fun f=>f));have HG8:=BE (HG7.out.trans (Chg.newA (A:=A) (ar:=ar) G8));clear G8;go_wp2;go_ret;exact⟨rfl,Z.1,G',La,HK8.out,HI8.out,HV1.out,fun e=>absurd e dc,HG8.out⟩
end
section
variable {w w':Wd}{B:Nat}
theorem Rc(A:Ad)(w:Wd)(K:BH)(G:Bk)(La:Nat->Int)(B ar:Nat)(h:CoreAt A w K)(hI:IB w ar 31 24 La)(nar:¬ Cor A ar)(hv:Lnv B K G La)(hB:B<1073741824)(kd a x:Int)(hk:LT kd)(ha:LT a)(hx:LT x) :Calls prog 11 #[.pointer (some ⟨A.g,0,none⟩),.pointer (some ⟨A.c,0,none⟩),.pointer (some ⟨ar,0,none⟩),.agg #[.int .i64 kd,.int .i64 a,.int .i64 x]] w (nK A ar B (pkN kd 10=7) w):=by
 by_cases h6:pkN kd 10=6
 ·exact mE A w K G La B ar h hI nar hv hB kd a x hk ha h6
 ·exact mD A w K G La B ar h hI nar hv hB kd a x hk ha hx h6
structure Zw where
 k:Int
 a:Int
 x:Int
def Zw.Ok (o:Zw):Prop:=LT o.k/\LT o.a/\LT o.x
def OprAt (w:Wd) (g o:Nat) (z:Zw):Prop:=w.cell? ⟨g,o,none⟩=some (.int .i64 z.k)/\w.cell? ⟨g,o+1,none⟩=some (.int .i64 z.a)/\w.cell? ⟨g,o+2,none⟩=some (.int .i64 z.x)
theorem OprAt.chg{g o:Nat}{z:Zw}(h:OprAt w g o z)(hc:Chg No w w')(hg:g<w.heap.size):OprAt w' g o z:=by
 obtain⟨h0,h1,h2⟩:=h;exact⟨(hc.cell hg (fun f=>f) _).trans h0,(hc.cell hg (fun f=>f) _).trans h1,(hc.cell hg (fun f=>f) _).trans h2⟩
def IsOps (w:Wd) (a:Option Addr) (len:Nat) (O:Nat->Zw):Prop:=
 (∀i,i<len->(O i).Ok)/\(len=0\/∃g o,a=some ⟨g,o,none⟩/\g<w.heap.size/\∀i,i<len->OprAt w g (o+i*3) (O i))
structure VF (w:Wd) (A:Ad) (ar B:Nat) (wr:Wd):Prop where
 st:∃K G La,CoreAt A wr K/\IB wr ar 31 24 La/\Lnv B K G La
 nar:¬ Cor A ar
 far:∀k,Cor A k\/k=ar->w.heap.size<=k
 chg:Chg No w wr
theorem GQ{S:Nat->Prop}(h:Chg S w w')(hS:∀k,S k->B<=k)(hB:B<=w.heap.size):Below B w w':=
 ⟨h.os,h.tape,h.output,h.size,fun k hk=>h.block k om (fun f=>by have:=hS k f;omega)⟩
theorem VF.next{A:Ad}{ar B':Nat}{wr:Wd}(h:VF w A ar B wr)(st:∃K G La,CoreAt A w' K/\IB w' ar 31 24 La/\Lnv B' K G La)(G:Chg (fun k=>Cor A k\/k=ar) wr w'):VF w A ar B' w':=
 ⟨st,h.nar,h.far,h.chg.trans' G (fun k hk e=>by have:=h.far k e;omega)⟩
theorem Re(a:Option Addr)(len cap:Nat)(O:Nat->Zw)(w:Wd)(hO:IsOps w a len O)(hlen:len<=1048576) :Calls prog 3 #[.slice a len cap] w fun e w'=>e=.returned (.bool true)/\Below w.heap.size w w':=by
 have p2:=Eu;have HO:=BE hO;go_enter func3,ntmps3;go_wp2_with fail;refine(kN w).mono ?_;rintro e w1 ⟨rfl,G1⟩;have hx:=BE G1;go_wp2_with fail;refine(Jz w1).mono ?_;rintro e w2 ⟨A,K,G,rfl,hF,h4,hK,hB,G2⟩;have HA:Hid (∀k,Cor A k->w.heap.size<=k):=fun k hk=>by
  obtain⟨f0,f1,f2,f3,f4,f5,f6,f7,f8,f9⟩:=hF;have:=hx.out.size;rcases hk with e | e | e | e | e | e | e | e <;> omega
 have G3:Chg No w2 (w2.alloc (.cells (ints (fun _=>0) 24).toArray 31)):=(Chg.refl _ _).alloc _;have HP:Hid (VF w A w2.heap.size 0 (w2.alloc (.cells (ints (fun _=>0) 24).toArray 31))):=
  ⟨⟨K,G,fun _=>0,hK.chg0 G3,IB.new w2 31 24 (fun _=>0),hB.inv⟩,hK.apart (AM _),fun k hk=>by
   rcases hk with hk | rfl
   ·
    exact HA k hk
   ·
    exact(hx.out.trans G2).size,(hx.out.trans G2).trans G3⟩
 go_wp2_with fail
 go_loopw [7] (fun t7 wr=>∃i:Nat,i<=len/\t7=.int .i64 i/\VF w A w2.heap.size i wr) (fun t7 _=>len - (intOf t7).toNat)
 case atStart=>exact⟨0,om,rfl,HP⟩
 case round=>
  obtain⟨ar,oo⟩:∃n,w2.heap.size=n:=⟨_,rfl⟩;rw[oo] at hrel ⊢;obtain⟨i,hi,rfl,hS⟩:=hrel;by_cases h0:i<len
  ·have l2:(i:Int)<(len:Int):=om;have h3:(0:Int)<=(i:Int):=om;obtain⟨hs,hc⟩:=HO.out;rcases hc with hc | ⟨qa,oa,rfl,hj,hc⟩
   ·omega
   obtain⟨x0,x1,x2⟩:=(hc i h0).chg hS.chg hj;obtain⟨o0,o1,o2⟩:=hs i h0;obtain⟨K,G,La,hK,hI,hv⟩:=hS.st;have it:=Rc A wr K G La i ar hK hI hS.nar hv om (O i).k (O i).a (O i).x o0 o1 o2;have HS:=BE hS;generalize O i=oi at *
   go_wp2_with fail;refine it.mono ?_;rintro x w3 ⟨rfl,K3,G3,L3,no,B',h1,-,C3⟩;have ha:=BE (HS.out.next ⟨K3,G3,L3,no,B',h1⟩ C3);have e1:=BE no;have rs:=BE B';have kd:=BE h1;go_wp2_with fail;refine(EW A w3 K3 e1).mono ?_;rintro x w4 ⟨rfl,h6,C4⟩;have v':=Pr A.g K3 G3 kd.out.iv kd.out.l24 w4 h6.chip;have ho:=BE h6;have be:=BE (rs.out.chg C4 (fun f=>f));have ih:=BE (ha.out.next ⟨K3,G3,L3,h6,be.out,kd⟩ (Chg.newA C4));go_wp2_with fail;refine v'.mono ?_;rintro x w5 ⟨rfl,C5⟩;have xs:=BE (ih.out.next ⟨K3,G3,L3,ho.out.chg0 C5,be.out.chg C5 (fun f=>f),kd⟩ (Chg.newA C5));go_wp2;exact⟨⟨i+1,om,by go_num,xs⟩,by simp[intOf];omega⟩
  ·have l2:¬ (i:Int)<(len:Int):=om;have HS:=BE hS;go_wp2_with fail
   go_loopw [10] (fun t10 wr=>∃k:Nat,k<=24/\t10=.int .i64 k/\VF w A ar (i+k) wr) (fun t10 _=>24 - (intOf t10).toNat)
   case atStart=>exact⟨0,om,rfl,HS⟩
   case round=>
    obtain⟨k,hk,rfl,hS⟩:=hrel;by_cases h2:k<24
    ·have hu:(k:Int)<24:=om;obtain⟨K,G,La,hK,hI,hv⟩:=hS.st;obtain⟨K',hg,ht,-⟩:=Na hv om h2;have hm:=ZP A _ K hK ar La hI hS.nar k h2 K' hg;have HS:=BE hS;have HI:=BE hI;have HV:=BE ht;go_wp2_with fail;refine hm.mono ?_;rintro x w3 ⟨rfl,no,C3⟩;have ha:=BE (HS.out.next ⟨K',G,La,no,HI.out.chg C3 HS.out.nar,HV⟩ (Chg.corA C3));go_wp2;exact⟨⟨k+1,om,by go_num,ha⟩,by simp[intOf];omega⟩
    ·have hu:¬ (k:Int)<24:=om;have HS:=BE hS;go_wp2;go_ret;exact⟨rfl,GQ HS.out.chg (fun k f=>f.elim) (AM _)⟩
end
end Go.Proofs.YtmdpnpjacfedpaaGreat
namespace Go.Proofs.YtmdpnpjacfedpaaGreat
open List
open Go.Proofs.Tryz
open Go.RowKit Go.Deep Go.ChangeShapes Go.WideShapes
section
variable {H:Type}
theorem Zk(d:DataW H):1<=Rows.uptoBulk d:=by
 cases d with
 | lit l=>cases l <;> simp[Rows.uptoBulk]
 | _=>simp[Rows.uptoBulk]
theorem Zl(l:List (DataW H)):l.length<=Rows.uptoBulkAll l:=by
 induction l with
 | nil=>simp[Rows.uptoBulkAll]
 | cons x r ih=>have:=Zk x;simp only[Rows.uptoBulkAll,An];omega
theorem H8(g o j:Nat):(⟨g,o,none⟩:Addr).add j=⟨g,o+j,none⟩:=by unfold Addr.add;split <;> simp_all
theorem eG{w:Wd}{a:Addr}{v:Value}(h:w.cell? a=some v):a.block<w.heap.size:=by
 by_cases hb:a.block<w.heap.size
 ·exact hb
 ·rw[World.cell?,Array.getElem?_eq_none om] at h;cases h
theorem Rf{enc:TypeId × Value->H}{W:Wd}{a:Option Addr}{len cap:Nat}{d:DataW H}{p:List MemPlace}(h:DataW.Trod enc prog W 0 (fun _=>true) true 22 (.slice a len cap) d p)(hb:Rows.uptoBulk d<=1048576):∃O,IsOps W a len O/\len<=1048576:=by
 have ce:prog.cellsOf 34=3:=kr
 have c3:prog.cellsOf 3=1:=kr
 obtain⟨fuel,hf⟩:=h;rcases open_slice underlying22 hf with ⟨hcs,_⟩ | ⟨x,l,c,m,n,D,Pl,hcs,_,hl,hm,hmm,hx,hel⟩
 ·simp[Value.cells] at hcs;obtain⟨rfl,rfl,rfl⟩:=hcs;exact⟨fun _=>⟨0,0,0⟩,⟨fun i hi=>absurd hi (Nat.not_lt_zero _),AK rfl⟩,dc⟩
 ·simp[Value.cells] at hcs;obtain⟨rfl,rfl,rfl⟩:=hcs;have hmc:m=cap:=by simpa using hmm
  subst hmc;have hlen:len<=1048576:=by
   simp only[Prod.mk.injEq] at hx;rw[hx.1] at hb;have:=Zl ((List.range len).map D);simp only[Rows.uptoBulk] at hb;rw[BA,length_range] at this;omega
  have each:∀i,i<len->∃o:Zw,o.Ok/\W.cell? (x.add (i*3))=some (.int .i64 o.k)/\W.cell? (x.add (i*3+1))=some (.int .i64 o.a)/\W.cell? (x.add (i*3+2))=some (.int .i64 o.x):=by
   intro i hi;obtain⟨cs',h1,h2⟩:=hel i om;rw[ce] at h1;obtain⟨_,hln,hcell⟩:=World.cells?_some h1;obtain⟨xs,k,hk,hxy,_,hxl,hfs⟩:=DataW.trod_struct underlying34 h2
   match xs,hxl,cs',hln with
   | [y0,y1,y2],_,[v0,v1,v2],_=>
    have g0:=hfs 0 _ rfl;have g1:=hfs 1 _ rfl;have g2:=hfs 2 _ rfl;simp[c3] at g0 g1 g2;have e0:=hcell 0 om;have e1:=hcell 1 om;have e2:=hcell 2 om;rw[add_add] at e0 e1 e2;simp at e0 e1 e2;obtain⟨z0,f0,_,wz0⟩:=DataW.trod_int (k:=.i64) underlying3 g0;obtain⟨z1,f1,_,wz1⟩:=DataW.trod_int (k:=.i64) underlying3 g1;obtain⟨z2,f2,_,wz2⟩:=DataW.trod_int (k:=.i64) underlying3 g2;simp only[List.cons.injEq,and_true] at f0 f1 f2;exact⟨⟨z0,z1,z2⟩,⟨bounds_i64 wz0,bounds_i64 wz1,bounds_i64 wz2⟩,by rw[e0,f0],by rw[e1,f1],by rw[e2,f2]⟩
  have inst0:Inhabited Zw:=⟨⟨0,0,0⟩⟩;obtain⟨O,hO⟩:=choose_lt each;refine⟨O,⟨fun i hi=>(hO i hi).1,?_⟩,hlen⟩;by_cases h0:len=0
  ·exact AK h0
  ·right;obtain⟨g,o,spot⟩:=x;have hspot:spot=none:=(by simpa[Addr.add] using World.cell?_spot (hO 0 om).2.1);subst hspot;have hadd:∀j,(⟨g,o,none⟩:Addr).add j=⟨g,o+j,none⟩:=H8 g o;have hlt:g<W.heap.size:=by
    have:=eG (hO 0 om).2.1;rw[hadd] at this;exact this
   refine⟨g,o,rfl,hlt,fun i hi=>?_⟩;obtain⟨_,h0,h1,h2⟩:=hO i hi;rw[hadd] at h0 h1 h2;exact⟨h0,by rw[Nat.add_assoc];exact h1,by rw[Nat.add_assoc];exact h2⟩
end
end Go.Proofs.YtmdpnpjacfedpaaGreat
