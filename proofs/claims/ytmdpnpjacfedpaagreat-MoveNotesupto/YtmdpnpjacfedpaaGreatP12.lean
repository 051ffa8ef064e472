/-
  Lemmas.
-/
import Derived.Test.YtmdpnpjacfedpaaGreatP11
set_option maxRecDepth 1000000
set_option maxHeartbeats 16000000
set_option linter.unusedSimpArgs false
namespace Go.Proofs.YtmdpnpjacfedpaaGreat
open List
open Go.Proofs.Tryz
open Go.RowKit
section
variable {w:Wd}{b:Nat}{o:Oper}{a:Act}(A:Ad)(K:BH)
theorem dX(w:Wd):(binOp .neq 46 .nilIface .nilIface).run prog w=.ok (.bool false) w:=kr
theorem LL(of ab:Int):AE.newest [] of ab=none:=by
 have e2:AE.lat [] of ab=[]:=eq_nil_iff_forall_not_mem.2 fun f hf=>by cases (AE.H7.1 hf).1
 unfold AE.newest;rw[e2];rfl
theorem jg(c:AA.Bn):AE.lv [] c=fun _=>-1:=by
 funext i;unfold AE.lv;rw[show List.filter (AE.gd c) []=[] from rfl,LL]
theorem nG:AE.mG [] AA.ck0=1:=dc
theorem nH:false=true<->nT [] AA.ck0:=by
 constructor
 ·intro e;cases e
 ·rintro (⟨o,_,h⟩ | ⟨i,_,h⟩)
  ·exact absurd (LL _ _) h
  ·exact absurd (show (0:Int)=1099511627775 from h) dc
theorem nI:AE.lA AA.ck0:=⟨fun _ _=>by show _<=(0:Int)/\(0:Int)<=_;decide,by show _<=(0:Int)/\(0:Int)<=_;decide⟩
theorem nJ:AA.Qp AA.ck0:=(AA.Mm AA.ck0 ⟨fun _ _=>by show _<=(0:Int)/\(0:Int)<=_;decide,by show _<=(0:Int)/\(0:Int)<=_;decide,by show _<=(0:Int)/\(0:Int)<=_;decide,fun _ _=>by show _<=(0:Int)/\(0:Int)<=_;decide,fun _ _=>by show _<=(0:Int)/\(0:Int)<=_;decide⟩).2 ⟨fun _ _=>by show 0<=(0:Int)/\(0:Int)<=_;decide,by show 0<=(0:Int)/\(0:Int)<=_;decide,by show 0<=(0:Int)/\(0:Int)<=_;decide,fun _ _=>by show 0<=(0:Int)/\(0:Int)<=_;decide,fun _ _=>by show 0<=(0:Int)/\(0:Int)<=_;decide⟩
theorem dY(f:Nat->Int)(i:Nat)(hi:i<25)(w:Wd):(Instr.index 37 (.agg (ints f 25).toArray) (.int .i64 i)).run prog w=.ok (.int .i64 (f i)) w:=by
 have h:=BU f 25 i hi;generalize ints f 25=L at *
 simp[Instr.index,run_underlying underlying37,asIntOf,go_sem,hi,h,i6]
theorem NV(w:Wd)(K:BH)(h:CoreAt A w K):Calls prog 120 #[.pointer (some ⟨A.c,0,none⟩),.slice none 0 0,.agg (AA.ckA AA.ck0)] w fun e w'=>e=.returned .nilIface/\CoreAt A w' K/\Chg No w w':=by
 have kd:=BE (AA.Ck.new w AA.ck0);have no:Hid (Chg No w (w.alloc (.cells (AA.ckA AA.ck0) 55))):=(Chg.refl _ w).alloc _;have ar:=BE (h.chg0 no);have hv:=dY (fun _=>-1);go_enter func120,ntmps120;go_wp2_with (refine AA.Ba rfl (.tmp 5) rfl w.heap.size rfl kd ?_);generalize w.alloc (.cells (AA.ckA AA.ck0) 55)=w0 at *
 have Go:=AE.iB w0 AA.ck0;rw[jg] at Go;refine Go.mono ?_;rintro e w1 ⟨rfl,G1⟩;have ha:=BE (no.out.trans G1);have La:=BE (ar.out.chg0 G1);go_wp2_with fail
 go_loopg [15] 25 (fun kx s15 wr=>∃i:Nat,s15=.int .i64 i/\i<=25/\25 - i<=kx/\wr=w1)
 case atStart=>exact⟨0,rfl,om,om,rfl⟩
 case round=>
  obtain⟨i,rfl,hi,hc,rfl⟩:=hrel;by_cases hk:i<25
  ·have it:(i:Int)<25:=om;have h6:(0:Int)<=i:=om;have hx:=hv i hk;go_wp2
   go_roundg (25 - (i+1))
   case measure=>omega
   case rel=>exact⟨i+1,by simp,om,AM _,rfl⟩
  ·have it:¬ (i:Int)<25:=om;go_wp2;go_ret;exact⟨rfl,La.out,ha⟩
theorem jh:(prog.info? 52).map (·.size)=some 24:=kr
theorem ji(h:w.rangeAt b 0 (AA.ckL AA.ck0)):w.rangeAt b 0 (ints AA.ck0.F 24):=fun j v hv=>h j v (by
 have hj:=(List.getElem?_eq_some_iff.1 hv).1
 unfold AA.ckL
 rw[Af hj]
 exact hv)
theorem Ck.part{c:AA.Bn}(h:AA.Ck w b c):w.rangeAt b 0 (AA.ckL c):=fun j v hv=>by
 rw[AW]
 exact h.cell j hv
def corL (A:Ad) (K:BH):List Value:=(List.range 101).map (kc A K)
theorem Pi:(corL A K).length=101:=by simp[corL]
theorem Y4(w:Wd)(A:Ad)(s:BM)(tl:List Nat->Int->Pg):(Instr.build 105 #[(0,.pointer (some ⟨A.m,0,none⟩)),(1,.pointer (some ⟨A.po,0,none⟩)),(2,.pointer (some ⟨A.ma,0,none⟩)),(4,.agg (ints AA.ck0.F 24).toArray),(5,.int .i64 1),(6,.bool false),(8,.pointer (some ⟨A.pa,0,none⟩)),(10,.pointer (some ⟨A.h,0,none⟩))]).run prog w=.ok (.agg (corL A (K0 s tl)).toArray) w:=kr
theorem Le{x1 x2 x3 x4 x5 x6 x7 x8:Operand}{A:Ad}{s:BM}{tl:List Nat->Int->Pg}(ho:o.op=.build 105 #[(0,x1),(1,x2),(2,x3),(4,x4),(5,x5),(6,x6),(8,x7),(10,x8)])(h1:a.eval x1=.pointer (some ⟨A.m,0,none⟩))(h2:a.eval x2=.pointer (some ⟨A.po,0,none⟩))(h3:a.eval x3=.pointer (some ⟨A.ma,0,none⟩))(h4:a.eval x4=.agg (ints AA.ck0.F 24).toArray)(h5:a.eval x5=.int .i64 1)(h6:a.eval x6=.bool false)(h7:a.eval x7=.pointer (some ⟨A.pa,0,none⟩))(h8:a.eval x8=.pointer (some ⟨A.h,0,none⟩)):(execOp a.eval o).run prog w=.ok (.value (.agg (corL A (K0 s tl)).toArray)) w:=by
 have hb:=Y4 w A s tl;unfold execOp;rw[ho];simp only[map_toArray,map_cons,map_nil,h1,h2,h3,h4,h5,h6,h7,h8];generalize Instr.build 105 #[(0,.pointer (some ⟨A.m,0,none⟩)),(1,.pointer (some ⟨A.po,0,none⟩)),(2,.pointer (some ⟨A.ma,0,none⟩)),(4,.agg (ints AA.ck0.F 24).toArray),(5,.int .i64 1),(6,.bool false),(8,.pointer (some ⟨A.pa,0,none⟩)),(10,.pointer (some ⟨A.h,0,none⟩))]=b at *
 simp[hb]
theorem Pj{ops:Array Oper}{K:Act->World->Prop}{Q:Exit->Act->World->Prop}{E:Prop}(hgd:o.guard=none)(x:Operand)(ho:o.op=.box 105 x){C:Array Value}(hx:a.eval x=.agg C)(h:K (a.put o.dst (.pointer (some ⟨w.heap.size,0,none⟩))) (w.alloc (.cells C 105))):if Region.wanted o (yielded ops a.tmps)=true then Oper.wp prog o a w K Q else E:=by
 rw[AJ (by simp[Region.wanted,hgd])];unfold Oper.wp;simp[execOp,ho,hx,Instr.box,newVar,Value.cells,newRow];exact h
theorem dZ(w:Wd)(A:Ad)(K:BH)(hA:A.c=w.heap.size)(hq:K.qu=[]):AF.QB (w.alloc (.cells (corL A K).toArray 105)) A.c 105 101 (kc A K) 83 K.qu:=by
 rw[hq,hA];refine⟨fun _=>0,⟨⟨(corL A K).toArray,by show (w.heap.push _)[w.heap.size]?=_;simp,by simp[Pi],fun i hi=>?_⟩,dc⟩,rfl,fun i hi=>by cases hi⟩;have e:(corL A K).toArray[i]?=some (kc A K i):=by simp[corL,hi]
 rw[e];by_cases c:83<=i/\i<96
 ·obtain⟨k,rfl⟩:∃k,i=83+k:=⟨i - 83,om⟩;rw[AF.CJ _ _ _ _ _ om];unfold kc;rw[AI om,AI om,AI om,AI om,AI om,AI om,AI om,AI om,AI om,AI om,AI om,AJ om]
 ·rw[AF.Cc _ _ _ _ _ om]
theorem oQ:sbF (sbS AA.ck0.B (fun _=>-1)) 12 0 (fun _=>0)=fun _=>0:=by
 have hS:∀b,b<12->sbS AA.ck0.B (fun _=>-1) b=0:=fun b hb=>by
  unfold sbS;rw[AI (by show ¬ false=true;decide),AI];rw[AB.Mz _ hb];have:=NN Pf b;intro e;cases hl:AB.ofL (fun _=>-1) b with
  | nil=>rw[hl] at e;exact absurd e dc
  | cons x l=>
   have h2:=(this.1 x.toNat (by rw[hl];simp)).2.1;exact h2 rfl
 have:∀n i,i+n<=12->sbF (sbS AA.ck0.B (fun _=>-1)) n i (fun _=>0)=fun _=>0:=by
  intro n
  induction n with
  | zero=>intro i _;rfl
  | succ n ih=>
   intro i hi;rw[sbF,hS i om];have e:AD.setF (fun _=>0) (i:Nat) 0=fun _=>0:=by
    unfold AD.setF;split
    ·exact ll _
    ·rfl
   rw[e];exact ih (i+1) om
 exact this 12 0 (AM _)
def Far (A:Ad) (g n:Nat):Prop:=A.g=g/\n<=A.c/\n<=A.m/\n<=A.p/\n<=A.q/\n<=A.b/\n<=A.po/\n<=A.ma/\n<=A.pa/\n<=A.h
theorem U2(g:Nat)(s:BM)(hs:s.Ok)(tl:List Nat->Int->Pg)(htl:∀L n,ToldR L n (tl L n))(w:Wd)(h:BI w g s) :Calls prog 64 #[.pointer (some ⟨g,0,none⟩),.agg (AA.ckA AA.ck0),.slice none 0 0] w fun e w'=>∃A,Far A g w.heap.size/\e=.returned (.tuple #[.pointer (some ⟨A.c,0,none⟩),errV 0])/\CoreAt A w' (K0 s tl)/\Chg (·=g) w w':=by
 have HC:=BE h;have hh:=BE (nC hs htl);have C5:=BE (AA.Ck.new w AA.ck0);have W1:Hid (Chg No w (w.alloc (.cells (AA.ckA AA.ck0) 55))):=(Chg.refl _ w).alloc _;have q:=dX;go_enter func64,ntmps64;go_wp2_with (refine AA.Ba rfl (.tmp 4) rfl w.heap.size rfl C5 ?_);generalize w.alloc (.cells (AA.ckA AA.ck0) 55)=w0 at *
 refine(AA.Lx w0 AA.ck0 nJ).mono ?_;rintro e w1 ⟨gp,rfl,-,-,G1⟩;have L3:=BE (W1.out.trans G1);have w4:=BE (C5.out.chg G1 (fun f=>f));have x3:w1.cell? ⟨w.heap.size,37,none⟩=some (.int .i64 0):=w4.out.C;go_wp2_with fail;refine(AF.M9 w1 0 dc).mono ?_;rintro e w2 ⟨rfl,P2,G2⟩;have x1:=BE P2;have hm:=BE (L3.out.trans G2);have hv:=BE (w4.out.chg G2 (fun f=>f));have x6:w.heap.size<=w1.heap.size:=L3.out.size;have x8:w1.heap.size<w2.heap.size:=x1.out.lt;have e1:Hid (∀u,AA.Ck u w.heap.size AA.ck0->Calls prog 114 #[.slice (some ⟨w.heap.size,38,none⟩) 12 12,.slice (some ⟨w.heap.size,50,none⟩) 12 12] u fun e w'=>e=.returned (.tuple #[.pointer (some ⟨u.heap.size,0,none⟩),.nilIface])/\AG.HB w' u.heap.size 180 (AG.lim 65535 (fun _=>0)) (AG.lim 65535 (fun _=>0)) (AG.lim 255 (fun _=>0))/\Chg No u w'):=fun u hu=>
  AG.M9 u (some ⟨w.heap.size,38,none⟩) (some ⟨w.heap.size,50,none⟩) 12 12 12 12 (fun _=>0) (fun _=>0) (AL ⟨_,_,rfl,hu.lt,fun i hi=>hu.R i hi⟩) (AL ⟨_,_,rfl,hu.lt,fun i hi=>hu.S i hi⟩) ((AG.GL _ _).2 ⟨rfl,fun _ _=>Int.le_refl _⟩) ((AG.GL _ _).2 ⟨rfl,fun _ _=>Int.le_refl _⟩)
 have hb:w2.drew.cell? ⟨w.heap.size,38,none⟩=some (.int .i64 0):=hv.out.R 0 dc;go_wp2_with fail
 go_region_held3 (fun wx=>wx.cell? ⟨w.heap.size,38,none⟩=some (.int .i64 0))
  (first | exact hb | exact t7)
  (first | (go_at_call 114;refine(e1.out _ (hv.out.chg ((Chg.refl No w2).drewN 1) (fun f=>f))).mono ?_;rintro e w3 ⟨rfl,H3,G3⟩;have t7:=(hv.out.chg (((Chg.refl No w2).drewN 1).trans G3) (fun f=>f)).R 0 dc;have x0:=BE H3;have qa:=BE (((Chg.refl No w2).drewN 1).trans G3)))
 have ih:=BE (hv.out.chg qa (fun f=>f));have v':=BE (x1.out.chg qa (fun f=>f));have o1:=BE (hm.out.trans qa);have x7:w2.heap.size<w3.heap.size:=x0.out.lt;go_wp2_with fail;have B':Hid (AA.Ck w3.drew w.heap.size AA.ck0):=ih.out;have ht:Hid (Chg No w w3.drew):=o1.out.drew;refine wp_region_noPanic ?_;refine wp_region_held_drew (S:=fun wx=>wx.rangeAt w.heap.size 0 (AA.ckL AA.ck0)) kr (Ck.part B') (fun hHeld=>?_);refine Ab (i:=0) rfl kr kr kr (fun _ _ _ h=>h) (AK ⟨rfl,fun _ _=>rfl⟩) hHeld ?_;simp only[Act.put,getElem_toArray,getElem_cons_zero,setIfInBounds_toArray,set_cons_zero,set_cons_succ];refine Ab (i:=4) rfl kr kr kr (fun _ _ _ h=>h) (AK ⟨rfl,fun _ _=>rfl⟩) hHeld ?_
 try simp only[Act.put,bu]
 refine Ab (i:=5) rfl kr kr kr (fun _ _ _ h=>h) (yieldsIf_load_mid rfl 52 _ rfl w.heap.size 0 rfl (ints AA.ck0.F 24) _ (fun w hw=>ji hw) underlying52 rfl (by rw[BF];exact jh)) hHeld ?_
 try simp only[Act.put,bu]
 refine Ab (i:=6) rfl kr kr kr (fun _ _ _ h=>h) (AK ⟨rfl,fun _ _=>rfl⟩) hHeld ?_
 try simp only[Act.put,bu]
 refine Ab (i:=7) rfl kr kr kr (fun _ _ _ h=>h) (yieldsIf_load_mid rfl 55 _ rfl w.heap.size 0 rfl (AA.ckL AA.ck0) _ (fun w hw=>hw) underlying55 rfl (by rw[AA.Gm];exact AA.E7)) hHeld ?_
 try simp only[Act.put,bu]
 refine Ab (i:=9) rfl kr kr kr (fun _ _ _ h=>h) (AK ⟨rfl,fun _ _=>rfl⟩) hHeld ?_
 try simp only[Act.put,bu]
 refine Ab (i:=10) rfl kr kr kr (fun _ _ _ h=>h) (yieldsIf_load_mid rfl 55 _ rfl w.heap.size 0 rfl (AA.ckL AA.ck0) _ (fun w hw=>hw) underlying55 rfl (by rw[AA.Gm];exact AA.E7)) hHeld ?_
 try simp only[Act.put,bu]
 refine Ab (i:=12) rfl kr kr kr (fun _ _ _ h=>h) (AK ⟨rfl,fun _ _=>rfl⟩) hHeld ?_
 try simp only[Act.put,bu]
 refine Ab (i:=13) rfl kr kr kr (fun _ _ _ h=>h) (AK ⟨rfl,fun _ _=>rfl⟩) hHeld ?_
 try simp only[Act.put,bu]
 refine wpAnyH_ready (rs:=[1]) kr (by simp) ?_;refine AllReadyH.cons rfl (fun K' hK=>?_) AllReadyH.nil;go_simp;refine(Wj g _).mono ?_;rintro e w5 ⟨m,p,q,b,rfl,hg,hr,G5⟩;have ha:=BE hr;have C4:=BE (ht.out.trans G5);have pg:=BE hg;have hc:w3.heap.size<=w5.heap.size:=G5.size;have o0:Hid (Chg No w3 w5):=((Chg.refl No w3).drewN 1).trans G5;refine hK _ _ (Ck.part (B'.out.chg G5 (fun f=>f))) (fun hHeld=>?_);have o2:=BE (B'.out.chg G5 (fun f=>f))
 try simp only[Act.put,bu]
 refine wpAnyH_ready (rs:=[2]) kr (by simp) ?_;refine AllReadyH.cons rfl (fun K' hK=>?_) AllReadyH.nil;go_simp;refine(AD.He _).mono ?_;rintro e w6 ⟨rfl,oo,G6⟩;have r0:=BE oo;have h6:=BE G6;refine hK _ _ (Ck.part (o2.out.chg G6 (fun f=>f))) (fun hHeld=>?_);have x2:=BE (o2.out.chg G6 (fun f=>f))
 try simp only[Act.put,bu]
 refine wpAnyH_ready (rs:=[3]) kr (by simp) ?_;refine AllReadyH.cons rfl (fun K' hK=>?_) AllReadyH.nil;go_simp;refine(AB.He _).mono ?_;rintro e w7 ⟨rfl,xs,G7⟩;have h4:=BE xs;have hx:=BE G7;refine hK _ _ (Ck.part (x2.out.chg G7 (fun f=>f))) (fun hHeld=>?_);have oa:=BE (x2.out.chg G7 (fun f=>f))
 try simp only[Act.put,bu]
 refine wpAnyH_ready (rs:=[8]) kr (by simp) ?_;refine AllReadyH.cons rfl (fun K' hK=>?_) AllReadyH.nil;go_simp;refine(AE.XH w7 none 0 [] 0 rfl (AE.Ow.nil w7 0).sl dc AA.ck0 nI).mono ?_;rintro e w8 ⟨rfl,G8⟩;have ar:=BE G8;refine hK _ _ (Ck.part (oa.out.chg G8 (fun f=>f))) (fun hHeld=>?_);have C3:=BE (oa.out.chg G8 (fun f=>f));rw[nG]
 try simp only[Act.put,bu]
 refine wpAnyH_ready (rs:=[11]) kr (by simp) ?_;refine AllReadyH.cons rfl (fun K' hK=>?_) AllReadyH.nil;go_simp;refine(Ux w8 AA.ck0 (b:=false) nH).mono ?_;rintro e w9 ⟨rfl,G9⟩;have La:=BE G9;refine hK _ _ (Ck.part (C3.out.chg G9 (fun f=>f))) (fun hHeld=>?_);have K3:=BE (C3.out.chg G9 (fun f=>f))
 try simp only[Act.put,bu]
 refine Ab (i:=14) rfl kr kr kr (fun _ _ _ h=>h) (AK ⟨rfl,fun _ _=>Le (A:=⟨w9.heap.size,m,g,p,q,b,w5.heap.size,w6.heap.size,w1.heap.size,w2.heap.size⟩) (s:=s) (tl:=tl) rfl rfl rfl rfl rfl rfl rfl rfl rfl⟩) hHeld ?_
 try simp only[Act.put,bu]
 refine wpAnyH_ready (rs:=[15]) kr (by simp) ?_;refine AllReadyH.cons rfl (fun K' hK=>?_) AllReadyH.nil;refine Pj rfl (.tmp 57) rfl rfl ?_;refine hK _ _ (Ck.part (K3.out.alloc _)) (fun hHeld=>?_)
 try simp only[Act.put,bu]
 refine Ab (i:=16) rfl kr kr kr (fun _ _ _ h=>h) (AK ⟨rfl,fun _ _=>rfl⟩) hHeld ?_
 try simp only[Act.put,bu]
 refine wpAnyH_done kr ?_ _;refine NoPanic.normal ?_;have it:Chg No w5 (w9.alloc (.cells (corL ⟨w9.heap.size,m,g,p,q,b,w5.heap.size,w6.heap.size,w1.heap.size,w2.heap.size⟩ (K0 s tl)).toArray 105)):=(((h6.out.trans hx).trans ar).trans La).alloc _;have hj:w3.heap.size<=w5.heap.size/\w.heap.size<=w3.heap.size:=⟨hc,o1.out.size⟩;have r1:w5.heap.size<=w9.heap.size/\w5.heap.size<=w6.heap.size:=⟨(((h6.out.trans hx).trans ar).trans La).size,h6.out.size⟩;have HK:Hid (CoreAt ⟨w9.heap.size,m,g,p,q,b,w5.heap.size,w6.heap.size,w1.heap.size,w2.heap.size⟩ (w9.alloc (.cells (corL ⟨w9.heap.size,m,g,p,q,b,w5.heap.size,w6.heap.size,w1.heap.size,w2.heap.size⟩ (K0 s tl)).toArray 105)) (K0 s tl)):=by
  obtain⟨lm,lp,lq,lb⟩:=ha.out.lts;have el:AG.lim 65535 (fun _=>0)=fun _=>0:=by funext i;show min (0:Int) 65535=0;decide
  have be:AG.lim 255 (fun _=>0)=fun _=>0:=by funext i;show min (0:Int) 255=0;decide
  have hH:=x0.out;rw[el,be] at hH;refine⟨dZ w9 _ _ rfl rfl,⟨(it.block m lm (fun f=>f)).trans ha.out.1,ha.out.2.other (it.block b lb (fun f=>f)) (it.block q lq (fun f=>f)) (it.block p lp (fun f=>f))⟩,HC.out.chg (C4.out.trans it) (fun f=>f),r0.out.chg (((hx.out.trans ar).trans La).alloc _) (fun f=>f),IB.chg h4 ((ar.out.trans La).alloc _) (fun f=>f),IB.chg v' ((o0.out.trans it)) (fun f=>f),IB.chg hH ((o0.out.trans it)) (fun f=>f),hh⟩
 have no:=BE (K3.out.alloc (.cells (corL ⟨w9.heap.size,m,g,p,q,b,w5.heap.size,w6.heap.size,w1.heap.size,w2.heap.size⟩ (K0 s tl)).toArray 105));have kd:=BE (C4.out.trans it);have Go:Hid (Far ⟨w9.heap.size,m,g,p,q,b,w5.heap.size,w6.heap.size,w1.heap.size,w2.heap.size⟩ g w.heap.size):=by
  obtain⟨l1,l2,l3,l4⟩:=pg.out;have h8:w3.heap.size<=m:=l1;have x4:w3.heap.size<=p:=l2;have F1:w3.heap.size<=q:=l3;have x5:w3.heap.size<=b:=l4;exact⟨rfl,by show w.heap.size<=w9.heap.size;omega,by show w.heap.size<=m;omega,by show w.heap.size<=p;omega,by show w.heap.size<=q;omega,by show w.heap.size<=b;omega,by show w.heap.size<=w5.heap.size;omega,by show w.heap.size<=w6.heap.size;omega,by show w.heap.size<=w1.heap.size;omega,by show w.heap.size<=w2.heap.size;omega⟩
 generalize w9.alloc (.cells (corL ⟨w9.heap.size,m,g,p,q,b,w5.heap.size,w6.heap.size,w1.heap.size,w2.heap.size⟩ (K0 s tl)).toArray 105)=ho at *
 go_wp2_with (refine AA.Ba rfl (.tmp 4) rfl w.heap.size rfl no ?_);refine(NV _ ho _ HK).mono ?_;rintro e h3 ⟨rfl,r2,oi⟩;have h2:=BE r2;have h1:=BE (kd.out.trans oi);have wr:=BE (no.out.chg oi (fun f=>f));go_wp2_with (refine AA.Ba rfl (.tmp 4) rfl w.heap.size rfl wr ?_);refine(Ph _ h3 _ h2 AA.ck0 (fun _ _=>rfl)).mono ?_;rintro e h5 ⟨rfl,h7,hn⟩;have h0:=BE h7;have p2:Hid (Chg (·=g) w h5):=(h1.out.mono (fun _ _ f=>f.elim)).trans' hn (fun k hk e=>by
  obtain⟨f0,f1,f2,f3,f4,f5,f6,f7,f8,f9⟩:=Go.out
  rcases e with e | e | e | e | e | e | e | e
  ·
   omega
  ·
   omega
  ·
   exact e
  ·
   omega
  ·
   omega
  ·
   omega
  ·
   omega
  ·
   omega)
 go_wp2;go_ret2;refine⟨_,Go.out,rfl,?_,p2⟩;have:=h0.out;have e5:({ K0 s tl with F:=sbF (sbS AA.ck0.B (K0 s tl).L) 12 0 (K0 s tl).F }:BH)=K0 s tl:=by
  show ({ K0 s tl with F:=sbF (sbS AA.ck0.B (fun _=>-1)) 12 0 (fun _=>0) }:BH)=K0 s tl;rw[oQ];rfl
 rw[e5] at this;exact this
theorem da(g:Nat)(w:Wd):(binOp .eql 24 (.pointer (some ⟨g,0,none⟩)) (.pointer none)).run prog w=.ok (.bool false) w:=kr
theorem db(g:Nat)(s:BM)(hs:s.Ok)(tl:List Nat->Int->Pg)(htl:∀L n,ToldR L n (tl L n))(w:Wd)(h:BI w g s) :Calls prog 24 #[.pointer (some ⟨g,0,none⟩),.agg (AA.ckA AA.ck0),.slice none 0 0] w fun e w'=>∃A,Far A g w.heap.size/\e=.returned (.tuple #[.pointer (some ⟨A.c,0,none⟩),.nilIface])/\CoreAt A w' (K0 s tl)/\Chg (·=g) w w':=by
 have La:=BE (AA.Ck.new w AA.ck0);have it:Hid (Chg No w (w.alloc (.cells (AA.ckA AA.ck0) 55))):=(Chg.refl _ w).alloc _;have no:(w.alloc (.cells (AA.ckA AA.ck0) 55)).heap.size=w.heap.size+1:=World.size_alloc _ _;have ar:=U2 g s hs tl htl (w.alloc (.cells (AA.ckA AA.ck0) 55)) (h.chg it (fun f=>f));have q:=CA;have q0:∀w,(binOp .neq 46 (errV 0) .nilIface).run prog w=.ok (.bool false) w:=fun w=>q 0 w;have gq:=BQ;have HS:=BE no;go_enter func24,ntmps24;go_wp2_with (refine AA.Ba rfl (.tmp 4) rfl w.heap.size rfl La ?_);refine ar.mono ?_;rintro e w1 ⟨A,hF,rfl,hK,hG⟩;have HK:=BE hK;have HG:=BE ((it.out.mono (T:=(·=g)) (fun _ _ f=>f.elim)).trans hG);have HF:Hid (Far A g w.heap.size):=by
  obtain⟨f0,f1,f2,f3,f4,f5,f6,f7,f8,f9⟩:=hF;have:=HS.out;exact⟨f0,om,om,om,om,om,om,om,om,om⟩
 go_wp2;go_ret2;exact⟨A,HF.out,rfl,HK.out,HG⟩
end
end Go.Proofs.YtmdpnpjacfedpaaGreat
namespace Go.Proofs.YtmdpnpjacfedpaaGreat
open List
open Go.Proofs.Tryz
open Go.RowKit
open Go.Proofs.YtmdpnpjacfedpaaGreat.AE (Bc snd cnd UH lat Jp newest best pk Gp lv gd flo)
def fnd (p:Nat) (t:CP):Bc:=((p:Int),(t.p:Int),(t.o:Int),(t.q:Int),(t.c:Int),t.l)
def jj (T:Fq) (p:Nat):List Bc:=match T p with
 | some x=>[fnd p x.1]
 | none=>[]
def tbL (T:Fq):Nat->List Bc
 | 0=>[]
 | n+1=>tbL T n ++ jj T n
theorem RP(T:Fq)(p:Nat):(jj T p).length<=1:=by
 unfold jj;split <;> simp
theorem Gz(T:Fq):∀n,(tbL T n).length<=n:=by
 intro n
 induction n with
 | zero=>exact AM _
 | succ n ih=>
  rw[tbL,AV];have:=RP T n;omega
theorem de{T:Fq}{p:Nat}{f:Bc}:f ∈ jj T p<->∃t D,T p=some (t,D)/\f=fnd p t:=by
 unfold jj;cases h:T p with
 | none=>simp
 | some x=>
  obtain⟨t,D⟩:=x;constructor
  ·intro hf;exact⟨t,D,rfl,mem_singleton.1 hf⟩
  ·rintro ⟨t',D',e,rfl⟩;cases e
   exact mem_singleton.2 rfl
theorem Jw{T:Fq}{f:Bc}:∀n,f ∈ tbL T n<->∃p t D,p<n/\T p=some (t,D)/\f=fnd p t:=by
 intro n
 induction n with
 | zero=>simp[tbL]
 | succ n ih=>
  rw[tbL,Am,ih,de];constructor
  ·rintro (⟨p,t,D,h1,h2,h3⟩ | ⟨t,D,h2,h3⟩)
   ·exact⟨p,t,D,om,h2,h3⟩
   ·exact⟨n,t,D,om,h2,h3⟩
  ·rintro ⟨p,t,D,h1,h2,h3⟩;by_cases e:p=n
   ·subst e;exact AL ⟨t,D,h2,h3⟩
   ·exact AK ⟨p,t,D,om,h2,h3⟩
theorem U3{g:Bc}{v:Int}(hv:0<=v/\v<256)(hg:g.C=v):∀(r:List Bc) (x:Bc),(x=g\/g ∈ r)->(∀f ∈ x :: r,f=g\/f.C=(v+1) % 256)->best x r=g:=by
 have a1:Gp v v=false:=by unfold Gp;simp
 have a2:Gp ((v+1) % 256) v=false:=by
  unfold Gp;simp only[Bool.and_eq_false_iff,decide_eq_false_iff_not];right;omega
 have a3:Gp v ((v+1) % 256)=true:=by
  unfold Gp;simp only[Ao,Al];omega
 have a4:Gp ((v+1) % 256) ((v+1) % 256)=false:=by unfold Gp;simp
 intro r
 induction r with
 | nil=>
  intro x h _;rcases h with h | h
  ·exact h
  ·cases h
 | cons y r ih=>
  intro x h it;show best (if Gp y.C x.C then y else x) r=g;have hx:=it x (by simp);have hy:=it y (by simp);have hr:∀f ∈ r,f=g\/f.C=(v+1) % 256:=fun f hf=>it f (by simp[hf]);by_cases ex:x=g
  ·have:(if Gp y.C x.C then y else x)=g:=by
    rcases hy with hy | hy
    ·rw[hy,ex];simp
    ·rw[hy,ex,hg,a2];rfl
   rw[this];exact ih g (AK rfl) (fun f hf=>(mem_cons.1 hf).elim AK (hr f))
  ·have no:x.C=(v+1) % 256:=hx.resolve_left ex;by_cases ey:y=g
   ·have:(if Gp y.C x.C then y else x)=g:=by rw[ey,hg,no,a3];rfl
    rw[this];exact ih g (AK rfl) (fun f hf=>(mem_cons.1 hf).elim AK (hr f))
   ·have:(if Gp y.C x.C then y else x)=x:=by rw[hy.resolve_left ey,no,a4];rfl
    rw[this];refine ih x (AL ?_) (fun f hf=>(mem_cons.1 hf).elim (fun e=>e ▸ hx) (hr f));rcases h with h | h
    ·exact absurd h ex
    ·rcases mem_cons.1 h with h | h
     ·exact absurd h.symm ey
     ·exact h
theorem JQ{l:List Bc}{of ab:Int}{g:Bc}(hg:g ∈ l)(hc:cnd of ab g=true)(it:∀f ∈ l,cnd of ab f=true->f.S<g.S\/(f.S=g.S/\(f=g\/f.C=(g.C+1) % 256))):newest l of ab=some g:=by
 have hv:snd g=true:=by
  unfold cnd at hc;simp only[Ao] at hc;exact hc.1.1
 have Go:=(AE.Cv g).1 hv;have ar:g ∈ l.filter (cnd of ab):=mem_filter.2 ⟨hg,hc⟩;have hm:AE.mx (l.filter (cnd of ab))=g.S:=by
  refine AE.eh (fun f hf=>?_) ⟨g,ar,rfl⟩ (fun f hf=>?_)
  ·obtain⟨h1,h2⟩:=mem_filter.1 hf;rcases it f h1 h2 with h | h <;> omega
  ·obtain⟨h1,h2⟩:=mem_filter.1 hf;unfold cnd at h2;simp only[Ao] at h2;exact((AE.Cv f).1 h2.1.1).2.2.2.2.1
 have no:g ∈ lat l of ab:=by
  unfold lat;refine AE.H7.2 ⟨?_,Go.1,Go.2.1⟩;unfold UH;exact mem_filter.2 ⟨ar,by rw[hm];simp⟩
 have La:∀f ∈ lat l of ab,f=g\/f.C=(g.C+1) % 256:=fun f hf=>by
  unfold lat at hf;have h1:=(AE.H7.1 hf).1;unfold UH at h1;obtain⟨h2,h3⟩:=mem_filter.1 h1;obtain⟨h4,h5⟩:=mem_filter.1 h2;rw[hm] at h3;have h6:f.S=g.S:=by simpa using h3
  rcases it f h4 h5 with h | h
  ·omega
  ·exact h.2
 unfold newest;cases e:lat l of ab with
 | nil=>rw[e] at no;cases no
 | cons x r=>
  rw[e] at no La;show some (best x r)=some g;rw[U3 (v:=g.C) ⟨Go.2.2.2.2.2.2.1,Go.2.2.2.2.2.2.2⟩ rfl r x ((mem_cons.1 no).elim (fun e=>AK e.symm) AL) La]
theorem Pk{l:List Bc}{of ab:Int}(h:∀f ∈ l,cnd of ab f=true->False):newest l of ab=none:=by
 have e:l.filter (cnd of ab)=[]:=filter_eq_nil_iff.2 fun f hf e=>h f hf e;have e2:UH l of ab=[]:=by unfold UH;rw[e];rfl
 have e3:lat l of ab=[]:=by
  unfold lat;rw[e2];exact eq_nil_iff_forall_not_mem.2 fun f hf=>by cases (AE.H7.1 hf).1
 unfold newest;rw[e3];rfl
section
variable {K:BH}{G:Bk}{X:Nat->Prop}
theorem YR.snd{p:Nat}{t:CP}{D:List Nat}(h:YR p t D)(hp:p<96):snd (fnd p t)=true:=by
 obtain⟨⟨⟨m1,m2⟩,⟨m3,m4⟩,⟨m5,m6⟩,m7,m8⟩,_⟩:=h.may;refine(AE.Cv _).2 ?_;show 0<=((p:Nat):Int)/\((p:Nat):Int)<96/\0<=((t.o:Nat):Int)/\((t.o:Nat):Int)<25/\0<=((t.q:Nat):Int)/\((t.q:Nat):Int)<1099511627776/\0<=((t.c:Nat):Int)/\((t.c:Nat):Int)<256;omega
theorem Sit.found(h:Sit K G X){o:Nat}(ho:o<25)(hL:K.L o≠-1):∃l D,Lvs K G o l D/\fnd (K.L o).toNat ⟨(K.L o).toNat,o,K.vs o,K.vc o,l⟩ ∈ tbL G.T 96/\AE.snd (fnd (K.L o).toNat ⟨(K.L o).toNat,o,K.vs o,K.vc o,l⟩)=true:=by
 obtain⟨l,D,hl⟩:=h.liv o ho hL;have it:=(h.wf.lt ho hL).1;exact⟨l,D,hl,(Jw 96).2 ⟨_,_,D,it,hl.tab,rfl⟩,(h.rep.ent _ _ _ hl.tab).2.snd it⟩
theorem IQ{p:Nat}{t:CP}{of ab:Int}:cnd of ab (fnd p t)=true<->snd (fnd p t)=true/\(t.o:Int)=of/\ab<(t.q:Int):=by
 unfold cnd;rw[Ao,Ao,decide_eq_true_iff,decide_eq_true_iff];exact and_assoc
theorem Sit.riv(h:Sit K G X){p:Nat}{t:CP}{D:List Nat}(hT:G.T p=some (t,D))(hc:t.o=24\/G.c.B (p / 8)=false/\K.fl t.o<t.q){l:Bool}{D':List Nat}(hl:Lvs K G t.o l D') :(fnd p t).S<(fnd (K.L t.o).toNat ⟨(K.L t.o).toNat,t.o,K.vs t.o,K.vc t.o,l⟩).S\/((fnd p t).S=(fnd (K.L t.o).toNat ⟨(K.L t.o).toNat,t.o,K.vs t.o,K.vc t.o,l⟩).S/\(fnd p t=fnd (K.L t.o).toNat ⟨(K.L t.o).toNat,t.o,K.vs t.o,K.vc t.o,l⟩\/(fnd p t).C=((fnd (K.L t.o).toNat ⟨(K.L t.o).toNat,t.o,K.vs t.o,K.vc t.o,l⟩).C+1) % 256)):=by
 obtain⟨h1,h2⟩:=h.old p t D hT hc;rcases h2 with h2 | ⟨h2,h3⟩
 ·left;show (t.q:Int)<(K.vs t.o:Nat);omega
 ·right;refine⟨by show (t.q:Int)=(K.vs t.o:Nat);rw[h2],?_⟩;rcases h3 with h3 | ⟨h3,_⟩
  ·left;have e:(K.L t.o).toNat=p:=(by rw[<-h3];exact AP p);have:=hl.tab;rw[e,hT] at this;have e2:=(Prod.mk.inj (AR this)).1;rw[e];rw[<-e2]
  ·right;show (t.c:Int)=((K.vc t.o:Nat)+1:Int) % 256;rw[h3];omega
theorem Sit.point(h:Sit K G X)(h24:K.L 24≠-1):∃D,G.T (K.L 24).toNat=some (⟨(K.L 24).toNat,24,K.vs 24,K.vc 24,false⟩,D)/\D=AA.wrL G.c/\newest (tbL G.T 96) 24 (-1)=some (fnd (K.L 24).toNat ⟨(K.L 24).toNat,24,K.vs 24,K.vc 24,false⟩):=by
 obtain⟨l,D,hl,hm,hs⟩:=h.found om h24;have no:l=false:=by
  cases l
  ·rfl
  ·exact absurd (hl.lost rfl) h.z24
 subst no;refine⟨D,hl.tab,hl.data rfl,JQ hm (IQ.2 ⟨hs,rfl,by show (-1:Int)<_;omega⟩) fun f hf hc=>?_⟩;obtain⟨p,t,D2,hp,hT,rfl⟩:=(Jw 96).1 hf;have ho:t.o=24:=by have:=(IQ.1 hc).2.1;omega
 have it:Lvs K G t.o false D:=by rw[ho];exact hl
 have:=h.riv hT (AK ho) it;rw[ho] at this;exact this
theorem fQ{f:Bc}(h:snd f=true):(f.P / 8).toNat<12:=by
 have:=(AE.Cv f).1 h;omega
theorem Sit.live(h:Sit K G X){c:AA.Bn}(hc:AA.Wu c G.c){o:Nat}(ho:o<25):AE.lv (tbL G.T 96) c o=K.L o:=by
 have ha:∀f,gd c f=true<->snd f=true/\G.c.B (f.P / 8).toNat=false:=fun f=>by
  unfold gd;rw[Ao];constructor
  ·rintro ⟨a,b⟩;rw[hc.B _ (fQ a)] at b;exact⟨a,by simpa using b⟩
  ·rintro ⟨a,b⟩;rw[hc.B _ (fQ a),b];exact⟨a,rfl⟩
 have kd:AE.flo c o=if o=24 then -1 else K.fl o:=by
  unfold AE.flo;split
  ·rfl
  ·rw[hc.F o om,h.cf o om]
 unfold AE.lv;by_cases hL:K.L o = -1
 ·rw[Pk,hL];intro f hf hk;obtain⟨hv,ar⟩:=mem_filter.1 hf;obtain⟨p,t,D,hp,hT,rfl⟩:=(Jw 96).1 hv;have e:=IQ.1 hk;have eo:t.o=o:=by have:=e.2.1;omega
  have hB:G.c.B (p / 8)=false:=by
   have:=((ha _).1 ar).2;rw[show ((fnd p t).P / 8).toNat=p / 8 by show (((p:Nat):Int) / 8).toNat=_;omega] at this;exact this
  have it:t.o=24\/G.c.B (p / 8)=false/\K.fl t.o<t.q:=by
   by_cases no:o=24
   ·exact AK (eo.trans no)
   ·refine AL ⟨hB,?_⟩;have:=e.2.2;rw[kd,AI no] at this;rw[eo];exact this
  have:=(h.old p t D hT it).1;rw[eo] at this;exact this hL
 ·obtain⟨l,D,hl,hm,hs⟩:=h.found ho hL;have hg:=(h.wf.lt ho hL);have hB:=h.lb o ho hL;have La:fnd (K.L o).toNat ⟨(K.L o).toNat,o,K.vs o,K.vc o,l⟩ ∈ (tbL G.T 96).filter (gd c):=mem_filter.2 ⟨hm,(ha _).2 ⟨hs,by
   rw[show ((fnd (K.L o).toNat ⟨(K.L o).toNat,o,K.vs o,K.vc o,l⟩).P / 8).toNat=(K.L o).toNat / 8 by show ((((K.L o).toNat:Nat):Int) / 8).toNat=_;omega]
   exact hB⟩⟩
  have hx:cnd (o:Nat) (AE.flo c o) (fnd (K.L o).toNat ⟨(K.L o).toNat,o,K.vs o,K.vc o,l⟩)=true:=IQ.2 ⟨hs,rfl,by
   rw[kd]
   show _<((K.vs o:Nat):Int)
   split
   ·
    omega
   ·
    exact h.flo o om hL⟩
  rw[JQ La hx fun f hf hk=>?_]
  ·show (((K.L o).toNat:Nat):Int)=K.L o;exact hg.2.symm
  ·obtain⟨hv,ar⟩:=mem_filter.1 hf;obtain⟨p,t,D2,hp,hT,rfl⟩:=(Jw 96).1 hv;have e:=IQ.1 hk;have eo:t.o=o:=(by have:=e.2.1;omega);have h6:G.c.B (p / 8)=false:=by
    have:=((ha _).1 ar).2;rw[show ((fnd p t).P / 8).toNat=p / 8 by show (((p:Nat):Int) / 8).toNat=_;omega] at this;exact this
   have it:t.o=24\/G.c.B (p / 8)=false/\K.fl t.o<t.q:=by
    by_cases no:o=24
    ·exact AK (eo.trans no)
    ·refine AL ⟨h6,?_⟩;have:=e.2.2;rw[kd,AI no] at this;rw[eo];exact this
   have w':Lvs K G t.o l D:=(by rw[eo];exact hl);have:=h.riv hT it w';rw[eo] at this;exact this
end
end Go.Proofs.YtmdpnpjacfedpaaGreat
namespace Go.Proofs.YtmdpnpjacfedpaaGreat
open List
open Go.Proofs.Tryz
open Go.RowKit
section
variable {w:Wd}{a:Act}{o:Oper}{ops:Array Oper}{Q:Exit->Act->World->Prop}{F:Nat->Int}{K:Act->World->Prop}{E:Prop}{rest:List Oper}
def fR (n c k r m v:Int):Nat->Int:=fun i=>if i=37 then n else if i=38 then c else if i=39 then k else if i=64 then r else if i=65 then m else if i=66 then v else 0
def vwF (K:BH):Nat->Int:=fun i=>if i<12 then K.F i else if i<37 then K.L (i - 12) else if i=37 then (K.nx:Nat) else if i=38 then (K.cu:Nat) else if i=39 then (K.ca:Nat) else if i<52 then K.hR (i - 40) else if i<64 then K.hS (i - 52) else if i=64 then K.rp else if i=65 then K.md else K.mv
theorem Y5(w:Wd):(zeroValue 39).run prog w=.ok (.agg (ints (fun _=>0) 67).toArray) w:=kr
theorem Gu:(prog.info? 39).map (·.size)=some 67:=kr
theorem dh(w:Wd)(n c k r m v:Int):(Instr.build 39 #[(2,.int .i64 n),(3,.int .i64 c),(4,.int .i64 k),(7,.int .i64 r),(8,.int .i64 m),(9,.int .i64 v)]).run prog w=.ok (.agg (ints (fR n c k r m v) 67).toArray) w:=kr
theorem FG{x1 x2 x3 x4 x5 x6:Operand}{n c k r m v:Int}(ho:o.op=.build 39 #[(2,x1),(3,x2),(4,x3),(7,x4),(8,x5),(9,x6)])(h1:a.eval x1=.int .i64 n)(h2:a.eval x2=.int .i64 c)(h3:a.eval x3=.int .i64 k)(h4:a.eval x4=.int .i64 r)(h5:a.eval x5=.int .i64 m)(h6:a.eval x6=.int .i64 v):(execOp a.eval o).run prog w=.ok (.value (.agg (ints (fR n c k r m v) 67).toArray)) w:=by
 have hb:=dh w n c k r m v;unfold execOp;rw[ho];simp only[map_toArray,map_cons,map_nil,h1,h2,h3,h4,h5,h6];generalize Instr.build 39 #[(2,.int .i64 n),(3,.int .i64 c),(4,.int .i64 k),(7,.int .i64 r),(8,.int .i64 m),(9,.int .i64 v)]=b at *
 simp[hb]
theorem EU(hgd:o.guard=none)(ho:o.op=.alloc 39)(h:K (a.put o.dst (.pointer (some ⟨w.heap.size,0,none⟩))) (w.alloc (.cells (ints (fun _=>0) 67).toArray 39))):if Region.wanted o (yielded ops a.tmps)=true then Oper.wp prog o a w K Q else E:=by
 rw[AJ (by simp[Region.wanted,hgd])];have hz:=Y5;unfold Oper.wp;simp only[execOp,ho,Instr.alloc,newVar,Value.cells,newRow];generalize (ints (fun _=>0) 67).toArray=q at *
 simp[hz];exact h
theorem EV(hgd:o.guard=none)(x y:Operand)(ho:o.op=.store 39 x y)(g:Nat)(hx:a.eval x=.pointer (some ⟨g,0,none⟩))(F:Nat->Int)(hy:a.eval y=.agg (ints F 67).toArray){F0:Nat->Int}(hg:IB w g 39 67 F0)(h:∀w',IB w' g 39 67 F->Chg (·=g) w w'->K (a.put o.dst undef) w'):if Region.wanted o (yielded ops a.tmps)=true then Oper.wp prog o a w K Q else E:=by
 rw[AJ (by simp[Region.wanted,hgd])];exact wp_store_row 39 x y ho g _ hx hy 39 _ hg (by rw[Gu];simp[BF]) (by simp[BF]) (all_oneCell_toArray (Cf _ _)) (h _ (setRow_heap w g _ _ 39 _ hg) (Dx _ _ _))
theorem Bw(hgd:o.guard=none)(ho:o.op=.alloc 39)(h:wpList prog ops Q rest (a.put o.dst (.pointer (some ⟨w.heap.size,0,none⟩))) (w.alloc (.cells (ints (fun _=>0) 67).toArray 39))):wpList prog ops Q (o :: rest) a w:=by
 refine wpList_plain hgd fun K hK=>?_;have hz:=Y5;unfold Oper.wp;generalize (ints (fun _=>0) 67).toArray=q at *
 simp[execOp,ho,Instr.alloc,hz,newVar,Value.cells,newRow];exact hK _ _ h
def pt (o:Nat) (R F:Nat->Int):Nat->Int:=fun i=>if o<=i/\i<o+12 then R (i - o) else F i
theorem di(o:Nat)(R F:Nat->Int)(ho:o+12<=67):(ints F 67).take o ++ ints R 12 ++ (ints F 67).drop (o+(ints R 12).length)=ints (pt o R F) 67:=by
 rw[BF];apply ext_getElem?;intro i;have l1:((ints F 67).take o).length=o:=by rw[length_take,BF];omega
 have l2:((ints F 67).take o ++ ints R 12).length=o+12:=by rw[AV,l1,BF]
 by_cases h1:i<o
 ·rw[Af om,Af om,List.getElem?_take_of_lt h1,BU _ _ _ om,BU _ _ _ om];simp only[pt];rw[AI om]
 ·by_cases h2:i<o+12
  ·rw[Af om,Aa om,l1,BU _ _ _ om,BU _ _ _ om];simp only[pt];rw[AJ om]
  ·rw[Aa om,l2,List.getElem?_drop,show o+12+(i - (o+12))=i by omega];by_cases h3:i<67
   ·rw[BU _ _ _ h3,BU _ _ _ h3];simp only[pt];rw[AI om]
   ·rw[Ae (by rw[BF];omega),Ae (by rw[BF];omega)]
theorem FH{p:Oper}(hgd:p.guard=none)(d s:Operand)(ho:p.op=.call { callee:=.builtin .copy,args:=#[d,s],argTypes:=#[43,43] })(b o g:Nat)(hd:a.eval d=.slice (some ⟨b,o,none⟩) 12 12)(hs:a.eval s=.slice (some ⟨g,0,none⟩) 12 12){R:Nat->Int}(hC:IB w b 39 67 F)(hR:IB w g 3 12 R)(hn:o+12<=67)(h:∀w',IB w' b 39 67 (pt o R F)->Chg (·=b) w w'->K (a.put p.dst (goInt 12)) w') :if Region.wanted p (yielded ops a.tmps)=true then Oper.wp prog p a w K Q else E:=by
 have hw:Region.wanted p (yielded ops a.tmps)=true:=by simp[Region.wanted,hgd]
 rw[AJ hw];have it:(ints R 12).length=12:=BF _ _;have Go:(ints F 67).toArray.size=67:=by rw[size_toArray,BF]
 have no:=run_copy_row (P:=prog) w 43 43 p.type 3 b o 12 12 ⟨g,0,none⟩ 12 12 (ints F 67).toArray 39 (ints R 12) underlying43 AF.Ks hC (by rw[it];rfl) (fun j v hv=>by
  have hj:j<12:=by have:=(List.getElem?_eq_some_iff.1 hv).1;rwa [it] at this
  rw[Addr.add_mid,BU _ _ _ hj] at *
  rw[<-hv,AW,(hR.cell j hj).1];rfl) (by rw[it,Go];omega) (Cf _ _)
 rw[show (ints F 67).toArray.toList=ints F 67 from rfl,di o R F hn,it] at no;unfold Oper.wp;simp[execOp,ho,resolve,invoke,builtin,hd,hs,no,Result.andThen];exact h _ (setRow_heap w b _ _ 39 _ hC) (Dx _ _ _)
theorem jk(F:Nat->Int):(prog.info? 39).map (·.size)=some (ints F 67).toArray.size:=by rw[size_toArray,BF];exact Gu
theorem LM(hgd:o.guard=none)(x:Operand)(ho:o.op=.load 39 x)(g:Nat)(hx:a.eval x=.pointer (some ⟨g,0,none⟩))(hg:IB w g 39 67 F)(h:wpList prog ops Q rest (a.put o.dst (.agg (ints F 67).toArray)) w):wpList prog ops Q (o :: rest) a w:=
 wpList_load_row hgd 39 x ho g hx 39 _ _ _ hg underlying39 rfl (jk F) h
theorem By(hgd:o.guard=none)(x y:Operand)(ho:o.op=.store 39 x y)(g:Nat)(hx:a.eval x=.pointer (some ⟨g,0,none⟩))(hy:a.eval y=.agg (ints F 67).toArray){F':Nat->Int}(hg:IB w g 39 67 F')(h:∀w',IB w' g 39 67 F->Chg (·=g) w w'->wpList prog ops Q rest (a.put o.dst undef) w'):wpList prog ops Q (o :: rest) a w:=
 wpList_store_row hgd 39 x y ho g _ hx hy 39 _ hg (jk F) (by simp[BF]) (all_oneCell_toArray (Cf _ _)) (h _ (setRow_heap w g _ _ 39 _ hg) (Dx _ _ _))
theorem RQ{fn:Func}{q:Tmp}(h:fn.results=#[.cell q 39])(tmps:Array Value){g:Nat}(hp:tmps.getD q undef=.pointer (some ⟨g,0,none⟩))(hT:IB w g 39 67 F) :(results fn tmps).run prog w=.ok (.agg (ints F 67).toArray) w:=
 results_cell_row h tmps w g 39 _ _ _ hp hT underlying39 rfl (jk F)
def fS (n:Nat) (L B:Nat->Int):Nat->Int:=fun j=>if 12<=j/\j<12+n then L (j - 12) else B j
theorem Pm(n:Nat)(L B:Nat->Int):upd (fS n L B) (12+n) (L n)=fS (n+1) L B:=by
 funext j;simp only[upd,fS];by_cases e:j=12+n
 ·subst e;rw[AJ rfl,AJ om,show 12+n - 12=n by omega]
 ·rw[AI e];by_cases h:12<=j/\j<12+n
  ·rw[AJ h,AJ om]
  ·rw[AI h,AI om]
theorem dj(F:Nat->Int)(i:Nat)(x y:Int):upd (upd F i x) i y=upd F i y:=by
 funext j;simp only[upd];by_cases e:j=i <;> simp[e]
theorem dl(K:BH)(j:Nat)(hj:j<67):fS 25 K.L (pt 52 K.hS (pt 40 K.hR (pt 0 K.F (fR (K.nx:Nat) K.cu K.ca K.rp K.md K.mv)))) j=vwF K j:=by
 simp only[fS,pt,fR,vwF];by_cases h1:j<12
 ·rw[AI om,AI om,AI om,AJ om,AJ h1];rfl
 ·rw[AI h1];by_cases h2:j<37
  ·rw[AJ om,AJ h2]
  ·rw[AI om,AI h2];by_cases h3:j<40
   ·rw[AI om,AI om,AI om];obtain rfl | rfl | rfl:j=37\/j=38\/j=39:=om
    all_goals simp
   ·simp only[AI (show ¬ j=37 by omega),AI (show ¬ j=38 by omega),AI (show ¬ j=39 by omega)];by_cases h4:j<52
    ·rw[AI om,AJ om,AJ h4]
    ·rw[AI h4];by_cases h5:j<64
     ·rw[AJ om,AJ h5]
     ·rw[AI om,AI om,AI om,AI h5];obtain rfl | rfl | rfl:j=64\/j=65\/j=66:=om
      all_goals simp
theorem EW(A:Ad)(w:Wd)(K:BH)(h:CoreAt A w K):Calls prog 13 #[.pointer (some ⟨A.c,0,none⟩)] w fun e w'=>e=.returned (.agg (ints (vwF K) 67).toArray)/\CoreAt A w' K/\Chg No w w':=by
 have HK:=BE h;have hg:=BE h.low;clear h;go_enter func13,ntmps13;go_wp2_with (refine Bw rfl rfl ?_);have no:=BE (HK.out.chg0 ((Chg.refl No w).alloc (.cells (ints (fun _=>0) 67).toArray 39)));have hv:=BE (IB.new w 39 67 (fun _=>0));have hx:Hid (Chg No w (w.alloc (.cells (ints (fun _=>0) 67).toArray 39))):=(Chg.refl _ w).alloc _;have it:Hid (∀x,Cor A x\/x=A.p\/x=A.q->x<w.heap.size):=hg.out;generalize w.alloc (.cells (ints (fun _=>0) 67).toArray 39)=w0 at *
 have La:Hid (∀u,CoreAt A u K->(u.cell? ⟨A.c,77,none⟩=some (.int .i64 (K.nx:Nat))/\u.cell? ⟨A.c,82,none⟩=some (.pointer (some ⟨A.pa,0,none⟩))/\u.cell? ⟨A.c,98,none⟩=some (.int .i64 K.rp)/\u.cell? ⟨A.c,99,none⟩=some (.int .i64 K.md)/\u.cell? ⟨A.c,100,none⟩=some (.int .i64 K.mv))):=fun u hu=>⟨hu.cNx.1,hu.cPat.1,hu.cRp.1,hu.cMd.1,hu.cMv.1⟩;refine wp_region_noPanic ?_;refine wp_region_held_drew (S:=fun wx=>wx.cell? ⟨A.c,77,none⟩=some (.int .i64 (K.nx:Nat))/\wx.cell? ⟨A.c,82,none⟩=some (.pointer (some ⟨A.pa,0,none⟩))/\wx.cell? ⟨A.c,98,none⟩=some (.int .i64 K.rp)/\wx.cell? ⟨A.c,99,none⟩=some (.int .i64 K.md)/\wx.cell? ⟨A.c,100,none⟩=some (.int .i64 K.mv)) kr (La.out _ (no.out.drewN 1)) (fun hHeld=>?_);refine Ab (i:=0) rfl kr kr kr (fun _ _ _ h=>h) (AK ⟨rfl,fun _ _=>rfl⟩) hHeld ?_;simp only[Act.put,getElem_toArray,getElem_cons_zero,setIfInBounds_toArray,set_cons_zero,set_cons_succ];refine Ab (i:=1) rfl kr kr kr (fun _ _ _ h=>h) (AK ⟨rfl,fun _ _=>rfl⟩) hHeld ?_;simp only[Act.put,bu];refine Ab (i:=2) rfl kr kr kr (fun _ _ _ h=>h) (AK ⟨rfl,fun _ _=>rfl⟩) hHeld ?_;simp only[Act.put,bu];refine Ab (i:=3) (v:=.int .i64 (K.nx:Nat)) rfl kr kr kr (fun _ _ _ h=>h) (AK ⟨rfl,fun w hw=>by obtain⟨s1,s2,s3,s4,s5⟩:=hw;go_simp⟩) hHeld ?_;simp only[Act.put,bu];refine Ab (i:=4) rfl kr kr kr (fun _ _ _ h=>h) (AK ⟨rfl,fun _ _=>rfl⟩) hHeld ?_;simp only[Act.put,bu];refine Ab (i:=5) rfl kr kr kr (fun _ _ _ h=>h) (AK ⟨rfl,fun _ _=>rfl⟩) hHeld ?_;simp only[Act.put,bu];refine Ab (i:=6) rfl kr kr kr (fun _ _ _ h=>h) (AK ⟨rfl,fun _ _=>rfl⟩) hHeld ?_;simp only[Act.put,bu];refine Ab (i:=7) (v:=.pointer (some ⟨A.pa,0,none⟩)) rfl kr kr kr (fun _ _ _ h=>h) (AK ⟨rfl,fun w hw=>by obtain⟨s1,s2,s3,s4,s5⟩:=hw;go_simp⟩) hHeld ?_;simp only[Act.put,bu];refine Ab (i:=9) rfl kr kr kr (fun _ _ _ h=>h) (AK ⟨rfl,fun _ _=>rfl⟩) hHeld ?_;simp only[Act.put,bu];refine Ab (i:=10) rfl kr kr kr (fun _ _ _ h=>h) (AK ⟨rfl,fun _ _=>rfl⟩) hHeld ?_;simp only[Act.put,bu];refine Ab (i:=11) rfl kr kr kr (fun _ _ _ h=>h) (AK ⟨rfl,fun _ _=>rfl⟩) hHeld ?_;simp only[Act.put,bu];refine Ab (i:=12) (v:=.pointer (some ⟨A.pa,0,none⟩)) rfl kr kr kr (fun _ _ _ h=>h) (AK ⟨rfl,fun w hw=>by obtain⟨s1,s2,s3,s4,s5⟩:=hw;go_simp⟩) hHeld ?_;simp only[Act.put,bu];refine Ab (i:=14) rfl kr kr kr (fun _ _ _ h=>h) (AK ⟨rfl,fun _ _=>rfl⟩) hHeld ?_;simp only[Act.put,bu];refine Ab (i:=15) rfl kr kr kr (fun _ _ _ h=>h) (AK ⟨rfl,fun _ _=>rfl⟩) hHeld ?_;simp only[Act.put,bu];refine Ab (i:=16) rfl kr kr kr (fun _ _ _ h=>h) (AK ⟨rfl,fun _ _=>rfl⟩) hHeld ?_;simp only[Act.put,bu];refine Ab (i:=17) (v:=.int .i64 K.rp) rfl kr kr kr (fun _ _ _ h=>h) (AK ⟨rfl,fun w hw=>by obtain⟨s1,s2,s3,s4,s5⟩:=hw;go_simp⟩) hHeld ?_;simp only[Act.put,bu];refine Ab (i:=18) rfl kr kr kr (fun _ _ _ h=>h) (AK ⟨rfl,fun _ _=>rfl⟩) hHeld ?_;simp only[Act.put,bu];refine Ab (i:=19) rfl kr kr kr (fun _ _ _ h=>h) (AK ⟨rfl,fun _ _=>rfl⟩) hHeld ?_;simp only[Act.put,bu];refine Ab (i:=20) rfl kr kr kr (fun _ _ _ h=>h) (AK ⟨rfl,fun _ _=>rfl⟩) hHeld ?_;simp only[Act.put,bu];refine Ab (i:=21) (v:=.int .i64 K.md) rfl kr kr kr (fun _ _ _ h=>h) (AK ⟨rfl,fun w hw=>by obtain⟨s1,s2,s3,s4,s5⟩:=hw;go_simp⟩) hHeld ?_;simp only[Act.put,bu];refine Ab (i:=22) rfl kr kr kr (fun _ _ _ h=>h) (AK ⟨rfl,fun _ _=>rfl⟩) hHeld ?_;simp only[Act.put,bu];refine Ab (i:=23) rfl kr kr kr (fun _ _ _ h=>h) (AK ⟨rfl,fun _ _=>rfl⟩) hHeld ?_;simp only[Act.put,bu];refine Ab (i:=24) rfl kr kr kr (fun _ _ _ h=>h) (AK ⟨rfl,fun _ _=>rfl⟩) hHeld ?_;simp only[Act.put,bu];refine Ab (i:=25) (v:=.int .i64 K.mv) rfl kr kr kr (fun _ _ _ h=>h) (AK ⟨rfl,fun w hw=>by obtain⟨s1,s2,s3,s4,s5⟩:=hw;go_simp⟩) hHeld ?_;simp only[Act.put,bu];refine wpAnyH_ready (rs:=[8,27]) kr (by simp) ?_;refine AllReadyH.cons rfl (fun K' hK=>?_) (AllReadyH.cons rfl (fun K' hK=>?_) AllReadyH.nil)
 case' refine_1=>
  go_simp;refine(AF.FD _ A.pa K.cu K.ca (no.out.drewN 1).pat).mono ?_;rintro e w1 ⟨rfl,rfl⟩;refine hK _ _ (La.out _ (no.out.drewN 1)) (fun hHeld=>?_);clear hK K';refine wpAnyH_ready (rs:=[13,27]) kr (by simp) ?_;refine AllReadyH.cons rfl (fun K' hK=>?_) (AllReadyH.cons rfl (fun K' hK=>?_) AllReadyH.nil)
  case' refine_1=>
   go_simp;refine(AF.Ir _ A.pa K.cu K.ca (no.out.drewN 1).pat).mono ?_;rintro e w1 ⟨rfl,rfl⟩;refine hK _ _ (La.out _ (no.out.drewN 1)) (fun hHeld=>?_);clear hK K';refine Ab (i:=26) rfl kr kr kr (fun _ _ _ h=>h) (AK ⟨rfl,fun _ _=>FG rfl rfl rfl rfl rfl rfl rfl⟩) hHeld ?_;simp only[Act.put,bu];refine wpAnyH_ready (rs:=[27]) kr (by simp) ?_;refine AllReadyH.cons rfl (fun K' hK=>?_) AllReadyH.nil;refine EU rfl rfl ?_;refine hK _ _ (La.out _ ((no.out.drewN 1).chg0 ((Chg.refl No w0.drew).alloc (.cells (ints (fun _=>0) 67).toArray 39)))) (fun hHeld=>?_);clear hK K';simp only[Act.put,bu];refine wpAnyH_ready (rs:=[28]) kr (by simp) ?_;refine AllReadyH.cons rfl (fun K' hK=>?_) AllReadyH.nil;refine EV rfl (.tmp 3) (.tmp 33) rfl w0.heap.size rfl (fR (K.nx:Nat) K.cu K.ca K.rp K.md K.mv) rfl (IB.new w0.drew 39 67 (fun _=>0)) ?_;intro w2 C2 G2;have K2:=((no.out.drewN 1).chg0 ((Chg.refl No w0.drew).alloc (.cells (ints (fun _=>0) 67).toArray 39))).far it (Nat.le_of_lt hv.out.lt) G2;refine hK _ _ (La.out _ K2) (fun hHeld=>?_);clear hK K' hHeld;simp only[Act.put,getElem_toArray,getElem_cons_zero,getElem_cons_succ];refine wpAnyH_done kr ?_ _;refine NoPanic.normal ?_;have f2:=BE ((hv.out.chg ((Chg.refl No w0).drew.alloc (.cells (ints (fun _=>0) 67).toArray 39)) (fun f=>f)).chg G2 (by have:=hv.out.lt;omega));have f5:=BE ((hx.out.trans ((Chg.refl No w0).drew.alloc (.cells (ints (fun _=>0) 67).toArray 39))).trans' G2 (fun k hk e=>by have:=hx.out.size;omega));have h2:=BE C2;have hc:=BE K2;clear C2 G2 K2
  case' refine_2=>
   refine EU rfl rfl ?_;refine hK _ _ (La.out _ ((no.out.drewN 1).chg0 ((Chg.refl No w0.drew).alloc (.cells (ints (fun _=>0) 67).toArray 39)))) (fun hHeld=>?_);clear hK K';simp only[Act.put,bu];refine wpAnyH_ready (rs:=[13]) kr (by simp) ?_;refine AllReadyH.cons rfl (fun K' hK=>?_) AllReadyH.nil;go_simp;refine(AF.Ir _ A.pa K.cu K.ca ((no.out.drewN 1).chg0 ((Chg.refl No w0.drew).alloc (.cells (ints (fun _=>0) 67).toArray 39))).pat).mono ?_;rintro e w1 ⟨rfl,rfl⟩;refine hK _ _ (La.out _ ((no.out.drewN 1).chg0 ((Chg.refl No w0.drew).alloc (.cells (ints (fun _=>0) 67).toArray 39)))) (fun hHeld=>?_);clear hK K';refine Ab (i:=26) rfl kr kr kr (fun _ _ _ h=>h) (AK ⟨rfl,fun _ _=>FG rfl rfl rfl rfl rfl rfl rfl⟩) hHeld ?_;simp only[Act.put,bu];refine wpAnyH_ready (rs:=[28]) kr (by simp) ?_;refine AllReadyH.cons rfl (fun K' hK=>?_) AllReadyH.nil;refine EV rfl (.tmp 3) (.tmp 33) rfl w0.heap.size rfl (fR (K.nx:Nat) K.cu K.ca K.rp K.md K.mv) rfl (IB.new w0.drew 39 67 (fun _=>0)) ?_;intro w2 C2 G2;have K2:=((no.out.drewN 1).chg0 ((Chg.refl No w0.drew).alloc (.cells (ints (fun _=>0) 67).toArray 39))).far it (Nat.le_of_lt hv.out.lt) G2;refine hK _ _ (La.out _ K2) (fun hHeld=>?_);clear hK K' hHeld;simp only[Act.put,getElem_toArray,getElem_cons_zero,getElem_cons_succ];refine wpAnyH_done kr ?_ _;refine NoPanic.normal ?_;have f2:=BE ((hv.out.chg ((Chg.refl No w0).drew.alloc (.cells (ints (fun _=>0) 67).toArray 39)) (fun f=>f)).chg G2 (by have:=hv.out.lt;omega));have f5:=BE ((hx.out.trans ((Chg.refl No w0).drew.alloc (.cells (ints (fun _=>0) 67).toArray 39))).trans' G2 (fun k hk e=>by have:=hx.out.size;omega));have h2:=BE C2;have hc:=BE K2;clear C2 G2 K2
 case' refine_2=>
  refine EU rfl rfl ?_;refine hK _ _ (La.out _ ((no.out.drewN 1).chg0 ((Chg.refl No w0.drew).alloc (.cells (ints (fun _=>0) 67).toArray 39)))) (fun hHeld=>?_);clear hK K';simp only[Act.put,bu];refine wpAnyH_ready (rs:=[8]) kr (by simp) ?_;refine AllReadyH.cons rfl (fun K' hK=>?_) AllReadyH.nil;go_simp;refine(AF.FD _ A.pa K.cu K.ca ((no.out.drewN 1).chg0 ((Chg.refl No w0.drew).alloc (.cells (ints (fun _=>0) 67).toArray 39))).pat).mono ?_;rintro e w1 ⟨rfl,rfl⟩;refine hK _ _ (La.out _ ((no.out.drewN 1).chg0 ((Chg.refl No w0.drew).alloc (.cells (ints (fun _=>0) 67).toArray 39)))) (fun hHeld=>?_);clear hK K';refine wpAnyH_ready (rs:=[13]) kr (by simp) ?_;refine AllReadyH.cons rfl (fun K' hK=>?_) AllReadyH.nil;go_simp;refine(AF.Ir _ A.pa K.cu K.ca ((no.out.drewN 1).chg0 ((Chg.refl No w0.drew).alloc (.cells (ints (fun _=>0) 67).toArray 39))).pat).mono ?_;rintro e w1 ⟨rfl,rfl⟩;refine hK _ _ (La.out _ ((no.out.drewN 1).chg0 ((Chg.refl No w0.drew).alloc (.cells (ints (fun _=>0) 67).toArray 39)))) (fun hHeld=>?_);clear hK K';refine Ab (i:=26) rfl kr kr kr (fun _ _ _ h=>h) (AK ⟨rfl,fun _ _=>FG rfl rfl rfl rfl rfl rfl rfl⟩) hHeld ?_;simp only[Act.put,bu];refine wpAnyH_ready (rs:=[28]) kr (by simp) ?_;refine AllReadyH.cons rfl (fun K' hK=>?_) AllReadyH.nil;refine EV rfl (.tmp 3) (.tmp 33) rfl w0.heap.size rfl (fR (K.nx:Nat) K.cu K.ca K.rp K.md K.mv) rfl (IB.new w0.drew 39 67 (fun _=>0)) ?_;intro w2 C2 G2;have K2:=((no.out.drewN 1).chg0 ((Chg.refl No w0.drew).alloc (.cells (ints (fun _=>0) 67).toArray 39))).far it (Nat.le_of_lt hv.out.lt) G2;refine hK _ _ (La.out _ K2) (fun hHeld=>?_);clear hK K' hHeld;simp only[Act.put,getElem_toArray,getElem_cons_zero,getElem_cons_succ];refine wpAnyH_done kr ?_ _;refine NoPanic.normal ?_;have f2:=BE ((hv.out.chg ((Chg.refl No w0).drew.alloc (.cells (ints (fun _=>0) 67).toArray 39)) (fun f=>f)).chg G2 (by have:=hv.out.lt;omega));have f5:=BE ((hx.out.trans ((Chg.refl No w0).drew.alloc (.cells (ints (fun _=>0) 67).toArray 39))).trans' G2 (fun k hk e=>by have:=hx.out.size;omega));have h2:=BE C2;have hc:=BE K2;clear C2 G2 K2
 all_goals
  have h6:=hv.out.lt;have r1:=h2.out.lt;obtain⟨N,HN⟩:∃N,Hid (N=w0.heap.size):=⟨_,rfl⟩;rw[<-HN.out] at h2 r1 h6
  try rw[show (w0.drewN 1).heap.size=N from HN.out.symm]
  try rw[show w0.drew.heap.size=N from HN.out.symm]
  try rw[show w0.heap.size=N from HN.out.symm]
  have h4:=AF.D5 N 0;obtain⟨c1,-⟩:=hc.out.cPool;have ar:¬ w.heap.size=N:=om
  clear no HK hx hv La;go_wp2_with fail
  go_region_held3 (fun wx=>wx.cell? ⟨A.c,1,none⟩=some (.pointer (some ⟨A.po,0,none⟩)))
   (first | exact c1 | exact z1 | exact y1)
   (first
    | (refine FH rfl (.tmp 35) (.tmp 40) rfl N 0 w2.heap.size rfl rfl oo x0 om ?_;intro w4 C4 G4;have ha:=BE C4;have K4:=l2.out.far it (Nat.le_of_lt h6) G4;obtain⟨y1,-⟩:=K4.cPool;have kd:=BE K4;have h1:=BE (x2.out.chg G4 ar);have h0:=BE (hs.out.trans' G4 (fun k hk e=>om));clear C4 G4 K4 oo x0 l2 x2 hs)
    | (go_at_call 47;refine(AD.EC _ A.po K.F (hc.out.drewN 1).pool).mono ?_;rintro e w3 ⟨rfl,I3,G3⟩;have K3:=(hc.out.drewN 1).chg0 G3;obtain⟨z1,-⟩:=K3.cPool;have x0:=BE I3;have l2:=BE K3;have oo:=BE ((h2.out.chg (Chg.refl No w2).drew (fun f=>f)).chg G3 (fun f=>f));have x2:=BE ((f2.out.chg (Chg.refl No w2).drew (fun f=>f)).chg G3 (fun f=>f));have hs:=BE (f5.out.drew.trans G3);clear I3 G3 K3))
  all_goals
   have h5:=AF.D5 N 40;obtain⟨B',-⟩:=kd.out.cHea;clear h4 c1;go_wp2_with fail
   go_region_held3 (fun wx=>wx.cell? ⟨A.c,96,none⟩=some (.pointer (some ⟨A.h,0,none⟩)))
    (first | exact B' | exact f9 | exact f4)
    (first
     | (refine FH rfl (.tmp 43) (.tmp 48) rfl N 40 (w4.heap.size+1) rfl rfl ho o2 om ?_;intro w7 C7 G7;have h3:=BE C7;have K7:=o0.out.far it (Nat.le_of_lt h6) G7;obtain⟨f4,-⟩:=K7.cHea;have f1:=BE K7;have r2:=BE (ht.out.chg G7 ar);have hn:=BE (L3.out.trans' G7 (fun k hk e=>om));clear C7 G7 K7 ho o2 o0 ht L3)
     | (go_at_call 48;refine(AG.SR _ A.h K.hR K.hN K.hS (kd.out.drewN 1).hea kd.out.wf.hea).mono ?_;rintro e w6 ⟨rfl,I6,G6⟩;have K6:=(kd.out.drewN 1).chg0 G6;obtain⟨f9,-⟩:=K6.cHea;have o2:=BE I6;have o0:=BE K6;have ho:=BE ((ha.out.chg (Chg.refl No w4).drew (fun f=>f)).chg G6 (fun f=>f));have ht:=BE ((h1.out.chg (Chg.refl No w4).drew (fun f=>f)).chg G6 (fun f=>f));have L3:=BE (h0.out.drew.trans G6);clear I6 G6 K6))
   all_goals
    have W1:=AF.D5 N 52;obtain⟨B',-⟩:=f1.out.cHea;clear h5;go_wp2_with fail
    go_region_held3 (fun wx=>wx.cell? ⟨A.c,96,none⟩=some (.pointer (some ⟨A.h,0,none⟩)))
     (first | exact B' | exact f9 | exact f4)
     (first
      | (refine FH rfl (.tmp 51) (.tmp 56) rfl N 52 (w7.heap.size+1) rfl rfl be C5 om ?_;intro w9 C9 G9;have C3:=BE C9;have K9:=o1.out.far it (Nat.le_of_lt h6) G9;obtain⟨f4,-⟩:=K9.cHea;have v':=BE K9;have pg:=BE (oa.out.chg G9 ar);have hm:=BE (xs.out.trans' G9 (fun k hk e=>om));clear C9 G9 K9 be C5 o1 oa xs)
      | (go_at_call 49;refine(AG.PK _ A.h K.hR K.hN K.hS (f1.out.drewN 1).hea f1.out.wf.hea).mono ?_;rintro e w8 ⟨rfl,I8,G8⟩;have K8:=(f1.out.drewN 1).chg0 G8;obtain⟨f9,-⟩:=K8.cHea;have C5:=BE I8;have o1:=BE K8;have be:=BE ((h3.out.chg (Chg.refl No w7).drew (fun f=>f)).chg G8 (fun f=>f));have oa:=BE ((r2.out.chg (Chg.refl No w7).drew (fun f=>f)).chg G8 (fun f=>f));have xs:=BE (hn.out.drew.trans G8);clear I8 G8 K8))
    all_goals
     clear B' W1;generalize ih:pt 52 K.hS (pt 40 K.hR (pt 0 K.F (fR (K.nx:Nat) K.cu K.ca K.rp K.md K.mv)))=B at C3;have HB:=BE ih;clear ih;go_wp2_with fail
     go_loopg [58] 25 (fun kx s58 wr=>∃i:Nat,s58=.int .i64 i/\i<=25/\25 - i<=kx/\Hid (IB wr N 39 67 (fS i K.L B))/\Hid (CoreAt A wr K)/\Hid (IB wr w.heap.size 39 67 (fun _=>0))/\Hid (Chg No w wr))
     case atStart=>exact⟨0,rfl,om,om,(C3.out.congr (fun j _=>(AI om).symm)),v'.out,pg.out,hm⟩
     case round=>
      obtain⟨i,rfl,h7,x4,HC,p2,HR,HG⟩:=hrel;by_cases x1:i<25
      ·have t7:(i:Int)<25:=om;obtain⟨cb,fb⟩:=HC.out.cell (12+i) om;have GN:Chg (·=N) wr (wr.setCell ⟨N,12+i,none⟩ (.int .i64 (-1))):=(Chg.refl (·=N) wr).setCell (AK rfl) _ _;have ha:=BE (HC.out.set (12+i) (-1));have K4:=p2.out.far it (Nat.le_of_lt h6) GN;obtain⟨c2,-⟩:=K4.cMap;have kd:=BE K4;have h1:=BE (HR.out.chg GN ar);have h0:=BE (HG.out.trans' GN (fun k hk e=>om));clear K4 GN HC p2 HR HG;by_cases hL:K.L i = -1
       ·have f6:=AB.M6 _ A.ma K.L kd.out.map i x1 hL;have f8:Hid (IB (wr.setCell ⟨N,12+i,none⟩ (.int .i64 (-1))) N 39 67 (fS (i+1) K.L B)):=by
         have:=ha.out;rw[<-hL,Pm] at this;rw[hL] at this;exact this
        clear ha hL;go_wp2_with fail;refine f6.mono ?_;rintro e w5 ⟨rfl,rfl⟩;go_wp2
        go_roundg (25 - (i+1))
        case measure=>omega
        case rel=>exact⟨i+1,by simp,om,AM _,f8.out,kd.out,h1.out,h0⟩
       ·have f6:=AB.Q2 _ A.ma K.L kd.out.map i x1 hL;obtain⟨h8,x3⟩:=ha.out.cell (12+i) om;have G1:Chg (·=N) (wr.setCell ⟨N,12+i,none⟩ (.int .i64 (-1))) ((wr.setCell ⟨N,12+i,none⟩ (.int .i64 (-1))).setCell ⟨N,12+i,none⟩ (.int .i64 (K.L i))):=(Chg.refl (·=N) _).setCell (AK rfl) _ _;have f8:Hid (IB ((wr.setCell ⟨N,12+i,none⟩ (.int .i64 (-1))).setCell ⟨N,12+i,none⟩ (.int .i64 (K.L i))) N 39 67 (fS (i+1) K.L B)):=by
         have:=ha.out.set (12+i) (K.L i);rw[dj,Pm] at this;exact this
        have hb:=BE (kd.out.far it (Nat.le_of_lt h6) G1);have r0:=BE (h1.out.chg G1 ar);have hh:=BE (h0.out.trans' G1 (fun k hk e=>om));clear ha kd h1 h0 G1 hL;go_wp2_with fail;refine f6.mono ?_;rintro e w5 ⟨rfl,rfl⟩;go_wp2
        go_roundg (25 - (i+1))
        case measure=>omega
        case rel=>exact⟨i+1,by simp,om,AM _,f8.out,hb.out,r0.out,hh⟩
      ·have t7:¬ (i:Int)<25:=om;have hr:i=25:=om;subst hr;go_wp2_with (first | refine LM rfl (.tmp 3) rfl N rfl HC ?_ | refine By rfl (.tmp 2) (.tmp 80) rfl w.heap.size rfl rfl HR ?_);intro e1 oi f7;have hi:Hid (IB e1 w.heap.size 39 67 (vwF K)):=oi.congr (fun j hj=>by rw[<-HB.out];exact dl K j hj);have qa:=BE (p2.out.far it (AM _) f7);have f3:=BE (HG.out.trans' f7 (fun k hk e=>om));clear oi f7 HC p2 HR HG;go_wp2;refine AZ (RQ rfl _ rfl hi) rfl ?_;exact⟨rfl,qa.out,f3⟩
end
section
variable {z:Int}(w:Wd)
def pkN (z:Int) (n:Nat):Nat:=((if z<0 then -(z+1) else z).tmod (n:Int)).toNat
theorem I9(z:Int)(n:Nat)(hn:0<n):pkN z n<n:=by
 unfold pkN;rw[Av (by split <;> omega)]
 have a1:=Int.emod_nonneg (if z<0 then -(z+1) else z) (b:=(n:Int)) om;have a2:=Int.emod_lt_of_pos (if z<0 then -(z+1) else z) (b:=(n:Int)) om;omega
theorem dm(h:z<0)(n:Nat)(hn:0<n):(-(z+1)).tmod (n:Int)=(pkN z n:Nat):=by
 unfold pkN;rw[AJ h,Int.toNat_of_nonneg];rw[Av om];exact Int.emod_nonneg _ om
theorem dn(h:¬ z<0)(n:Nat)(hn:0<n):z.tmod (n:Int)=(pkN z n:Nat):=by
 unfold pkN;rw[AI h,Int.toNat_of_nonneg];rw[Av om];exact Int.emod_nonneg _ om
theorem Cx(z:Int)(h1 : -9223372036854775808<=z)(h2:z<=9223372036854775807)(n:Nat)(hn:0<n)(hn2:n<10000000)(w:Wd) :Calls prog 15 #[.int .i64 z,.int .i64 n] w fun e w'=>e=.returned (.int .i64 (pkN z n:Nat))/\w'=w:=by
 have Go:((n:Int) == 0)=false:=by simp only[beq_eq_false_iff_ne];omega
 have it:¬ (n:Int)=0:=om
 have no:¬ (n:Int) = -1:=om
 by_cases hz:z<0
 ·have hq:=dm hz n hn;go_enter func15,ntmps15;go_wp2;go_ret;exact⟨rfl,rfl⟩
 ·have hq:=dn hz n hn;go_enter func15,ntmps15;go_wp2;go_ret;exact⟨rfl,rfl⟩
def numN (z:Int):Nat:=1+pkN z 1000000
theorem U5(z:Int)(h1 : -9223372036854775808<=z)(h2:z<=9223372036854775807)(w:Wd):Calls prog 79 #[.int .i64 z] w fun e w'=>e=.returned (.int .i64 (numN z:Nat))/\w'=w:=by
 have hp:=Cx z h1 h2 1000000 dc dc w;have hl:=I9 z 1000000 dc;have e:((numN z:Nat):Int)=1+((pkN z 1000000:Nat):Int):=by unfold numN;omega
 have HE:=BE e;generalize pkN z 1000000=q at *
 have hq:(q:Int)<1000000:=om
 have it:(0:Int)<=q:=om
 go_enter func79,ntmps79;go_wp2_with fail;refine hp.mono ?_;rintro e w ⟨rfl,rfl⟩;go_wp2;go_ret;exact⟨by rw[HE.out];rfl,rfl⟩
def lcN (x:Int):Nat->Nat
 | 0=>(IntKind.u64.wrap x).toNat
 | i+1=>(lcN x i*6364136223846793005+1442695040888963407) % 18446744073709551616
def bytL (x:Int):Nat->List Nat
 | 0=>[]
 | n+1=>bytL x n ++ [lcN x (n+1) / 1099511627776 % 256]
def JA (x:Int):List Nat:=if x=0 then List.replicate 160 0 else bytL x 160
theorem EQ(x:Int):∀n,(bytL x n).length=n:=by
 intro n
 induction n with
 | zero=>rfl
 | succ n ih=>rw[bytL,AV,ih];rfl
theorem Y6(x:Int):∀n,Bys (bytL x n):=by
 intro n
 induction n with
 | zero=>intro m hm;cases hm
 | succ n ih=>
  intro m hm;rw[bytL] at hm;rcases mem_append.1 hm with h | h
  ·exact ih m h
  ·rw[mem_singleton.1 h];exact Nat.mod_lt _ dc
theorem CR(x:Int):(JA x).length=160:=by
 unfold JA;split
 ·simp
 ·exact EQ x 160
theorem GP(x:Int):Bys (JA x):=by
 unfold JA;split
 ·intro m hm;rw[(mem_replicate.1 hm).2];decide
 ·exact Y6 x 160
def Jp (x:Int) (i:Nat):List Nat:=bytL x i ++ List.replicate (160 - i) 0
theorem Y7(x:Int)(i:Nat)(hi:i<160):(Jp x i).set i (lcN x (i+1) / 1099511627776 % 256)=Jp x (i+1):=by
 unfold Jp;rw[bytL,Aq,Ap _ _ (by rw[EQ];exact AM _),EQ,Nat.sub_self,show 160 - i=(160 - (i+1))+1 by omega,replicate_succ];rfl
theorem RR(x:Int)(i:Nat)(hi:i<=160):(Jp x i).length=160:=by
 unfold Jp;rw[AV,EQ,length_replicate];omega
theorem Y8:(Instr.makeSlice 48 (.int .i64 160) (.int .i64 160)).run prog w=.ok (.slice (some ⟨w.heap.size,0,none⟩) 160 160) (w.alloc (.cells (bcells (List.replicate 160 0)) 5)):=CZ w 160 160 rfl dc
def RS:List Nat:=List.replicate 160 0
theorem Y9:(Instr.makeSlice 48 (.int .i64 160) (.int .i64 160)).run prog w=.ok (.slice (some ⟨w.heap.size,0,none⟩) 160 160) (w.alloc (.cells (bcells RS) 5)):=Y8 w
theorem dp(v:Nat)(_:v<18446744073709551616):IntKind.u64.wrap (IntKind.u64.wrap ((v:Int)*6364136223846793005)+1442695040888963407)=(((v*6364136223846793005+1442695040888963407) % 18446744073709551616:Nat):Int):=by
 rw[IntKind.wrap_u64,IntKind.wrap_u64];omega
theorem jl(x:Int)(i:Nat):lcN x i<18446744073709551616:=by
 cases i with
 | zero=>
  unfold lcN;rw[IntKind.wrap_u64];omega
 | succ i=>exact Nat.mod_lt _ dc
theorem ZA(x:Int):IntKind.u64.wrap x=((lcN x 0:Nat):Int):=by
 unfold lcN;rw[IntKind.wrap_u64];omega
theorem Jy(x:Int)(w:Wd):Calls prog 17 #[.int .i64 x] w fun e w'=>e=.returned (.slice (some ⟨w.heap.size,0,none⟩) 160 160)/\Arr w' w.heap.size 5 (JA x)/\Chg No w w':=by
 have hg:=Y9;have A0:Arr (w.alloc (.cells (bcells RS) 5)) w.heap.size 5 RS:=Arr.new w 5 _;have G0:Chg No w (w.alloc (.cells (bcells RS) 5)):=(Chg.refl _ _).alloc _;have La:=BE A0;have hv:=BE G0;by_cases hx:x=0
 ·subst hx;go_enter func17,ntmps17;go_wp2;go_ret;exact⟨rfl,La.out,hv⟩
 ·have ha:(x == 0)=false:=by simpa using hx
  have HB:Hid (JA x=bytL x 160):=by show JA x=_;unfold JA;rw[AI hx]
  have h6:=ZA x;have HZ:Hid (RS=Jp x 0):=by show RS=_;unfold Jp bytL RS;simp
  go_enter func17,ntmps17;go_wp2
  go_loopg [4,5] 160 (fun kx s4 s5 wr=>∃i:Nat,s5=.int .i64 i/\s4=.int .u64 (lcN x i:Nat)/\i<=160/\160 - i<=kx/\Hid (Arr wr w.heap.size 5 (Jp x i))/\Hid (Chg No w wr))
  case atStart=>exact⟨0,rfl,rfl,om,om,by rw[<-HZ.out];exact La.out,hv⟩
  case round=>
   obtain⟨i,rfl,rfl,hi,h1,HA,HG⟩:=hrel;by_cases Go:i<160
   ·have it:(i:Int)<160:=om;have h0:(0:Int)<=i:=om;have hf:=HA.out.frozen i;have hc:=HA.out.cell i (by rw[RR x i hi];exact Go);have e1:=dp (lcN x i) (jl x i);have hE:lcN x (i+1)=(lcN x i*6364136223846793005+1442695040888963407) % 18446744073709551616:=rfl;rw[<-hE] at e1;have hN:=Y7 x i Go;obtain⟨v1,no⟩:∃v,lcN x (i+1)=v:=⟨_,rfl⟩;rw[no] at e1 hN;have kd:=BE no;generalize lcN x i=v0 at *
    have e2:((v1:Nat):Int).tdiv 1099511627776=((v1 / 1099511627776:Nat):Int):=(by rw[Int.tdiv_eq_ediv_of_nonneg om];omega);have e3:IntKind.u8.wrap ((v1 / 1099511627776:Nat):Int)=((v1 / 1099511627776 % 256:Nat):Int):=(by rw[IntKind.wrap_u8];omega);have e4:IntKind.u64.wrap ((v1 / 1099511627776:Nat):Int) % 256=((v1 / 1099511627776 % 256:Nat):Int):=(by rw[IntKind.wrap_u64];omega);have ar:=BE (HA.out.store i (v1 / 1099511627776 % 256));rw[hN] at ar;have hk:=BE (HG.out.setCell (S:=fun _=>False) (g:=w.heap.size) (AL (AM _)) i (.int .u8 ((v1 / 1099511627776 % 256:Nat):Int)));generalize v1 / 1099511627776 % 256=b1 at *
    generalize v1 / 1099511627776=d1 at *
    go_wp2
    go_roundg (160 - (i+1))
    case measure=>omega
    case rel=>exact⟨i+1,by simp,by rw[kd.out],om,AM _,ar.out,hk⟩
   ·have it:¬ (i:Int)<160:=om;have e:i=160:=om;subst e;go_wp2;go_ret;refine⟨rfl,?_,HG⟩;have:=HA.out;rw[HB.out];unfold Jp at this;simpa using this
theorem ZB(c1 o1 n1 cap1 c2 o2 n2 cap2:Nat)(l1 l2:List Nat)(e1:n1=l1.length)(e2:n2=l2.length)(b1:Bys l1)(b2:Bys l2)(h1:At w c1 o1 l1)(h2:At w c2 o2 l2) :Calls prog 34 #[.slice (some ⟨c1,o1,none⟩) n1 cap1,.slice (some ⟨c2,o2,none⟩) n2 cap2] w fun e w'=>e=.returned (.bool (decide (l1=l2)))/\w'=w:=by
 have k1:=run_convert_bytes_arg (P:=prog) w 48 5 underlying48 underlying5 c1 o1 n1 cap1 (l1.map fun (n:Nat)=>(n:Int)) (by simp[e1]) (h1.ints e1) 9 underlying9;have k2:=run_convert_bytes_arg (P:=prog) w 48 5 underlying48 underlying5 c2 o2 n2 cap2 (l2.map fun (n:Nat)=>(n:Int)) (by simp[e2]) (h2.ints e2) 9 underlying9;have hq:=WL l1 l2 b1 b2;generalize l1.map (fun (n:Nat)=>(n:Int))=x1 at *
 generalize l2.map (fun (n:Nat)=>(n:Int))=x2 at *
 have HQ:=BE hq;clear hq e1 e2 h1 h2;go_enter func34,ntmps34;go_wp2;go_ret;exact⟨by rw[<-HQ.out];rfl,rfl⟩
def bdN (F:Nat->Int):Nat->Nat
 | 0=>0
 | n+1=>bdN F n+if F n=3 then 1 else 0
theorem dq(F:Nat->Int):∀n,bdN F n=AD.cnt F 3 n:=by
 intro n
 induction n with
 | zero=>rfl
 | succ n ih=>
  rw[bdN,AD.cnt,ih]
theorem jm(F:Nat->Int):∀n,bdN F n<=n:=by
 intro n
 induction n with
 | zero=>exact AM _
 | succ n ih=>rw[bdN];split <;> omega
theorem JB(K:BH):bdN (vwF K) 12=bad3 K.F:=by
 rw[dq];unfold bad3;have:∀n,n<=12->AD.cnt (vwF K) 3 n=AD.cnt K.F 3 n:=by
  intro n
  induction n with
  | zero=>intro _;rfl
  | succ n ih=>
   intro h;rw[AD.cnt,AD.cnt,ih om];have:vwF K n=K.F n:=by unfold vwF;rw[AJ om]
   rw[this]
 exact this 12 (AM _)
theorem JC(V:Nat->Int)(w:Wd):Calls prog 18 #[.agg (ints V 67).toArray] w fun e w'=>e=.returned (.int .i64 (bdN V 12:Nat))/\Chg No w w':=by
 have HR:=BE (IB.new w 39 67 V);have HG:Hid (Chg No w (w.alloc (.cells (ints V 67).toArray 39))):=(Chg.refl _ w).alloc _;go_enter func18,ntmps18;go_wp2;generalize w.alloc (.cells (ints V 67).toArray 39)=w1 at *
 go_loopg [3,4] 12 (fun kx s3 s4 wr=>∃i:Nat,s4=.int .i64 i/\s3=.int .i64 (bdN V i:Nat)/\i<=12/\12 - i<=kx/\wr=w1)
 case atStart=>exact⟨0,rfl,rfl,om,om,rfl⟩
 case round=>
  obtain⟨i,rfl,rfl,hi,hv,rfl⟩:=hrel;by_cases kd:i<12
  ·have it:(i:Int)<12:=om;have h0:(0:Int)<=i:=om;obtain⟨hc,-⟩:=HR.out.cell i om;have HB:Hid (bdN V (i+1)=bdN V i+if V i=3 then 1 else 0):=rfl;have ar:=jm V i;have hk:((bdN V i:Nat):Int)<13:=om;have La:(0:Int)<=((bdN V i:Nat):Int):=om;by_cases h3:V i=3
   ·rw[h3] at hc;have no:Hid (bdN V (i+1)=bdN V i+1):=(by show bdN V (i+1)=_;rw[HB.out,AJ h3]);generalize bdN V i=b0 at *
    go_wp2
    go_roundg (12 - (i+1))
    case measure=>omega
    case rel=>exact⟨i+1,by simp,by rw[no.out];simp,om,AM _,rfl⟩
   ·have hb:(V i == 3)=false:=(by simpa using h3);have no:Hid (bdN V (i+1)=bdN V i):=(by show bdN V (i+1)=_;rw[HB.out,AI h3];rfl);generalize bdN V i=b0 at *
    go_wp2
    go_roundg (12 - (i+1))
    case measure=>omega
    case rel=>exact⟨i+1,by simp,by rw[no.out],om,AM _,rfl⟩
  ·have it:¬ (i:Int)<12:=om;have e:i=12:=om;subst e;go_wp2;go_ret;exact⟨rfl,HG⟩
end
end Go.Proofs.YtmdpnpjacfedpaaGreat
namespace Go.Proofs.YtmdpnpjacfedpaaGreat
open List
open Go.Proofs.Tryz
open Go.RowKit
open Go.Proofs.YtmdpnpjacfedpaaGreat.AE (Bc Sl Ow Fo LZ fA fL lv newest)
section
variable {T:Fq}{i p:Nat}{t:CP}{D:List Nat}
theorem JD(w:Wd):(binOp .neq 46 .nilIface .nilIface).run prog w=.ok (.bool false) w:=kr
theorem JR(g:Nat)(s:BM)(hs:s.Ok)(a k:Nat)(ha:a<96)(hk:k<4)(w:Wd)(h:BI w g s)(his:(s.ch (4*a+k)).is=true) :Calls prog 70 #[.pointer (some ⟨g,0,none⟩),.int .i64 a,.int .i64 k] w fun e w'=>e=.returned (.tuple #[.slice (some ⟨w.heap.size,0,none⟩) 58 64,.bool true])/\Arr w' w.heap.size 5 (s.ch (4*a+k)).tru/\Chg No w w':=by
 have ht:=Ie g s hs a k ha hk w h;rw[his] at ht;have q:=JD;generalize (s.ch (4*a+k)).tru=l at *
 go_enter func70,ntmps70;go_wp2_with fail;refine ht.mono ?_;rintro e w1 ⟨rfl,hA,hG⟩;have HA:=BE hA;have HG:=BE hG;go_wp2;go_ret2;exact⟨rfl,HA.out,HG⟩
theorem RT(g:Nat)(s:BM)(hs:s.Ok)(a k:Nat)(ha:a<96)(hk:k<4)(w:Wd)(h:BI w g s)(his:(s.ch (4*a+k)).is=false) :Calls prog 70 #[.pointer (some ⟨g,0,none⟩),.int .i64 a,.int .i64 k] w fun e w'=>e=.returned (.tuple #[.slice none 0 0,.bool false])/\Chg No w w':=by
 have ht:=Ie g s hs a k ha hk w h;rw[his] at ht;have q:=JD;generalize (s.ch (4*a+k)).tru=l at *
 go_enter func70,ntmps70;go_wp2_with fail;refine ht.mono ?_;rintro e w1 ⟨rfl,hA,hG⟩;have HG:=BE hG;go_wp2;go_ret2;exact⟨rfl,HG⟩
theorem U6(w:Wd)(p a b c d:Int)(l:Bool):(Instr.build 149 #[(0,.int .i64 p),(1,.agg #[.int .i64 a,.int .i64 b,.int .i64 c,.int .i64 d,.bool l])]).run prog w=.ok (.agg #[.int .i64 p,.int .i64 a,.int .i64 b,.int .i64 c,.int .i64 d,.bool l]) w:=kr
theorem ZC(h:T i=none):tbL T (i+1)=tbL T i:=by
 rw[tbL];unfold jj;rw[h];exact append_nil _
theorem ZD(h:T i=some (t,D)):tbL T (i+1)=tbL T i ++ [fnd i t]:=by
 rw[tbL];unfold jj;rw[h]
theorem U7{s:BM}(h:JY s T)(hT:T p=some (t,D)):(s.ch (4*p+3)).tru.take 58=body t.p t.o t.q t.c t.l ++ mk/\(s.ch (4*p+3)).tru.length=64:=by
 obtain⟨_,hE⟩:=h.ent p t D hT;have e:=(h.is p t D hT 3 om).2;rw[e,IZ hE.len (BS _ _ _ _ _) 3 om,N1 hE.len (BS _ _ _ _ _)];exact⟨rfl,EN hE.len hE.bys (BS _ _ _ _ _) (Ce _ _ _ _ _) 3 om⟩
theorem NW{l:List Nat}{n:Nat}(h:i<n):(l.take n).getD i 0=l.getD i 0:=by
 simp only[AQ,List.getElem?_take_of_lt h]
theorem du(hE:YR p t D){e:Ending}(h:YN (body t.p t.o t.q t.c t.l) e):e=.returned (.tuple #[.agg #[.int .i64 (t.p:Nat),.int .i64 (t.o:Nat),.int .i64 (t.q:Nat),.int .i64 (t.c:Nat),.bool t.l],.bool true]):=by
 have hb:=MZ t.p t.o t.q t.c t.l hE.may;obtain⟨f1,f2,f3,f4,f5⟩:=Ho t.p t.o t.q t.c t.l hE.may;rcases h with ⟨_,h⟩ | ⟨h,_⟩
 ·rw[f1,f2,f3,f4,f5] at h;exact h
 ·exact absurd hb h
theorem Pn(g:Nat)(s:BM)(hs:s.Ok)(T:Fq)(hR:JY s T)(w:Wd)(h:BI w g s) :Calls prog 27 #[.pointer (some ⟨g,0,none⟩)] w fun e w'=>∃v',e=.returned v'/\Sl w' v' (tbL T 96)/\Chg No w w':=by
 have HC:=BE h;have HS:=BE hs;have HR:=BE hR;have hb:=U6;go_enter func27,ntmps27;go_wp2
 go_loopg [3,4] 96 (fun kx s3 s4 wr=>∃i:Nat,s4=.int .i64 i/\i<=96/\96 - i<=kx/\Hid (Ow wr w.heap.size s3 (tbL T i))/\Hid (Chg No w wr))
 case atStart=>exact⟨0,rfl,om,om,Ow.nil w _,Chg.refl _ w⟩
 case round=>
 obtain⟨i,rfl,hi,x0,HO,HG⟩:=hrel;by_cases hv:i<96
 ·have no:(i:Int)<96:=om
  have h0:(0:Int)<=i:=om
  have hg:=BE (HC.out.chg HG (fun f=>f));rcases hT:T i with _ | ⟨t,D⟩
  ·have HN:=BE (ZC hT);have hm:=RT g s HS i 3 hv dc wr hg (HR.out.non i hv hT);go_wp2_with fail;refine hm.mono ?_;rintro e w1 ⟨rfl,it⟩;have kd:=BE (HG.out.trans it);have ar:=BE (HO.out.new it);go_wp2
   go_roundg (96 - (i+1))
   case measure=>omega
   case rel=>
    refine⟨i+1,by simp,om,AM _,?_,kd⟩;show Ow _ _ _ _;rw[HN.out];exact ar
  ·have HN:=BE (ZD hT);have hm:=JR g s HS i 3 hv dc wr hg (HR.out.is i t D hT 3 dc).1;obtain⟨e1,e2⟩:=U7 HR hT;have HE:=BE (HR.out.ent i t D hT).2;have p2:t.p=i:=HE.out.pl;generalize (s.ch (4*i+3)).tru=L at *
   have ha:=BE e1;have B':=BE e2;have oa:=Gz T i;go_wp2_with fail;refine hm.mono ?_;rintro e w1 ⟨rfl,f2,it⟩;have kd:=BE (HG.out.trans it);have ar:=BE (HO.out.new it);have hx:=BE f2;have G2:=Nz w1 wr.heap.size 0 64 (L.take 58) (by rw[ha.out,AV,BS,Dd]) hx.out.lt (fun j hj=>by
    have f5:j<58:=by rw[length_take] at hj;omega
    rw[NW f5,AW]
    exact hx.out.cell j (by rw[B'.out];omega))
   rw[show decide ((L.take 58).drop 50=mk)=true from AO (by rw[ha.out,drop_left' (BS _ _ _ _ _)])] at G2;go_wp2_with fail;refine G2.mono ?_;rintro e w2 ⟨rfl,h6⟩;have f7:=BE (kd.out.trans h6);have f6:=BE (ar.out.new h6);have G1:=BE (hx.out.chg h6 (fun f=>f));have qa:=YO w2 wr.heap.size 0 64 (body t.p t.o t.q t.c t.l) (Ce _ _ _ _ _) (BS _ _ _ _ _) dc ⟨G1.out.lt,fun j hj=>by
    rw[BS] at hj
    rw[AW,G1.out.cell j (by rw[B'.out];omega)]
    have:L.getD j 0=(body t.p t.o t.q t.c t.l).getD j 0:=by
     rw[<-NW (show j<58 by omega),ha.out]
     simp only[AQ]
     rw[Af (by rw[BS];exact hj)]
    rw[this]⟩
   go_wp2_with fail;refine qa.mono ?_;rintro e w3 ⟨La,f1⟩;have ee:=du HE La;subst ee;have G3:=BE (f7.out.trans f1);have f9:=BE (f6.out.new f1);rw[p2];have HF:Hid (fnd i t=((i:Int),(i:Int),(t.o:Int),(t.q:Int),(t.c:Int),t.l)):=(by show fnd i t=_;unfold fnd;rw[p2]);generalize t.o=tO at *
   generalize t.q=tq at *
   generalize t.c=tc at *
   generalize t.l=tl at *
   go_wp2_with (refine AE.DF (f:=((i:Int),(i:Int),(tO:Int),(tq:Int),(tc:Int),tl)) rfl (.tmp 43) rfl rfl (w3.heap.size+1) (World.size_alloc _ _) ?_);intro w4 K4 G4;have h1:Chg No w3 w4:=((Chg.refl _ w3).alloc _).trans G4;have h2:=BE (f9.out.new h1);have hc:=BE (G3.out.trans h1);have t7:=BE (LZ.one K4);have f4:w.heap.size<=w4.heap.size:=hc.out.size;go_wp2_with (refine AE.CX w4 rfl (.tmp 40) (.tmp 44) rfl w.heap.size u3 _ rfl h2 (w3.heap.size+1) 0 1 1 [((i:Int),(i:Int),(tO:Int),(tq:Int),(tc:Int),tl)] rfl rfl t7 om f4 ?_);intro v' w5 O5 G5;have f3:=BE O5;have f8:Hid (Chg No w w5):=BE (hc.out.trans' G5 fun k hk h=>by
    have:=h2.out.block h
    omega)
   go_wp2
   go_roundg (96 - (i+1))
   case measure=>omega
   case rel=>
    refine⟨i+1,by simp,om,AM _,?_,f8⟩;show Ow _ _ _ _;rw[HN.out,HF.out];exact f3
 ·have no:¬ (i:Int)<96:=om
  have e:i=96:=om
  subst e;go_wp2;go_ret;exact⟨_,rfl,HO.out.sl,HG⟩
end
end Go.Proofs.YtmdpnpjacfedpaaGreat
namespace Go.Proofs.YtmdpnpjacfedpaaGreat
open List
open Go.Proofs.Tryz
open Go.RowKit
open Go.Proofs.YtmdpnpjacfedpaaGreat.AE (Bc Sl Ow Fo LZ fA fL lv newest A25)
theorem Bs.more{w2 wr w':Wd}{v:Value}{L:List Nat}(h:Bs w2 wr v L)(hG:Chg No wr w'):Bs w2 w' v L:=⟨h.1.chgF hG,h.2.trans hG⟩
def dv (M:List Nat):Nat->List Nat
 | 0=>[]
 | i+1=>dv M i ++ part 58 M i
theorem RU{M:List Nat}(h:M.length=4*58):∀i,i<=3->(dv M i).length=58*i:=by
 intro i
 induction i with
 | zero=>intro _;rfl
 | succ i ih=>
  intro hi;rw[dv,AV,ih om,Cm h i om];omega
theorem jn(g:Nat)(s:BM)(hs:s.Ok)(T:Fq)(hR:JY s T)(p:Nat)(t:CP)(D:List Nat)(hT:T p=some (t,D))(w:Wd)(h:BI w g s) :Calls prog 69 #[.pointer (some ⟨g,0,none⟩),.int .i64 p] w fun e w'=>∃v,e=.returned v/\Own w' w.heap.size 5 v D/\Chg No w w':=by
 obtain⟨hp,hE⟩:=hR.ent p t D hT;have G1:=EG;have HC:=BE h;have HS:=BE hs;have no:=Gi hE.len (BS t.p t.o t.q t.c t.l);have HI:Hid (∀k,k<3->(s.ch (4*p+k)).is=true/\(s.ch (4*p+k)).tru.take 58=part 58 (msgOf D (body t.p t.o t.q t.c t.l)) k/\(s.ch (4*p+k)).tru.length=64):=fun k hk=>by
  obtain⟨i1,i2⟩:=hR.is p t D hT k om;refine⟨i1,?_,?_⟩
  ·rw[i2,IZ hE.len (BS _ _ _ _ _) k om]
  ·rw[i2,EN hE.len hE.bys (BS _ _ _ _ _) (Ce _ _ _ _ _) k om]
 have HD:Hid (dv (msgOf D (body t.p t.o t.q t.c t.l)) 3=D):=by
  show dv _ 3=D;simp only[dv,A7];exact N0 hE.len
 generalize msgOf D (body t.p t.o t.q t.c t.l)=M at *
 have kd:=BE (RU no);have w2:=BE (Cm no);have HP:=BE hp;clear h hs hR hT hE no hp;have G2:Hid (((p:Int)<96)/\(0:Int)<=p):=by have:=HP.out;exact⟨om,om⟩
 go_enter func69,ntmps69;go_wp2
 go_loopg [5,6] 3 (fun kx s5 s6 wr=>∃i:Nat,s6=.int .i64 i/\i<=3/\3 - i<=kx/\Hid (Bs w wr s5 (dv M i)))
 case atStart=>exact⟨0,rfl,om,om,⟨Own.nil w _ 5,Chg.refl _ w⟩⟩
 case round=>
 obtain⟨i,rfl,hi,f1,HB⟩:=hrel;by_cases hc:i<3
 ·have it:(i:Int)<3:=om
  have h0:(0:Int)<=i:=om
  obtain⟨i1,i2,i3⟩:=HI.out i hc;have hm:=JR g s HS p i HP om wr (HC.out.chg HB.out.2 (fun f=>f)) i1;generalize (s.ch (4*p+i)).tru=L at *
  have B':=BE i2;have hg:=BE i3;clear i1 i2 i3;obtain⟨a5,c5,hv⟩:=HB.out.slice;have hx:=kd.out i hi;rw[hx] at hv;subst hv;go_wp2_with fail;refine hm.mono ?_;rintro e w1 ⟨rfl,ar,ha⟩;have La:=BE (HB.out.more ha);have p2:=BE ar;clear hm ar ha HB;go_wp2_with (at_builtin;refine BK _ rfl _ _ 48 rfl w.heap.size 5 underlying48 G1 _ (dv M i) rfl La.out.1 (some ⟨wr.heap.size,0,none⟩) 58 64 (part 58 M i) rfl ?h0 ?h1 ?h2 ?h3 ?h4 w1.heap.size rfl ?_)
  case h0=>exact w2 i om
  case h1=>exact fun e=>by cases e
  case h2=>
   intro ad Go j hj;injection Go with Go;subst Go;rw[Addr.add_mid,AW,<-B'.out,NW hj];exact p2.out.cell j (by rw[hg.out];omega)
  case h3=>rw[kd.out i hi];omega
  case h4=>exact La.out.2.size
  intro v3 w3 O3 g3 _;have h6:Hid (Bs w w3 v3 (dv M (i+1))):=La.out.grown O3 g3;clear O3 g3;go_wp2
  go_roundg (3 - (i+1))
  case measure=>omega
  case rel=>exact⟨i+1,by simp,om,AM _,h6⟩
 ·have it:¬ (i:Int)<3:=om
  have e:i=3:=om
  subst e;go_wp2;go_ret;have:=HB.out;rw[HD.out] at this;exact⟨_,rfl,this.1,this.2⟩
theorem Sv(g:Nat)(s:BM)(hs:s.Ok)(T:Fq)(hR:JY s T)(p:Nat)(t:CP)(D:List Nat)(hT:T p=some (t,D))(w:Wd)(h:BI w g s)(a:Option Addr)(n cap:Nat)(hn:n=(tbL T 96).length)(hl:Sl w (.slice a n cap) (tbL T 96))(hN:newest (tbL T 96) 24 (-1)=some (fnd p t))(hd:AA.gZ D)(cc:AA.Bn)(hcc:AA.rdC D=cc) :Calls prog 26 #[.pointer (some ⟨g,0,none⟩),.slice a n cap] w fun e w'=>e=.returned (.tuple #[.agg (AA.ckA cc),.bool true])/\Chg No w w':=by
 have HC:=BE h;have HS:=BE hs;have HR:=BE hR;have HT:=BE hT;have HE:=BE (hR.ent p t D hT).2;have HD:=BE hd;have f9:=BE hcc;have HL:=BE hl;have f6:=BE hn;have f3:n<2932031007402:=by have:=Gz T 96;omega
 have HV:Hid (AE.XB (newest (tbL T 96) 24 (-1))=.tuple #[.agg (fA (fnd p t)),.bool true]):=by show AE.XB _=_;rw[hN];rfl
 have B':=BE (AA.Ck.new w AA.ck0);have Go:Hid (Chg No w (w.alloc (.cells (AA.ckA AA.ck0) 55))):=(Chg.refl _ w).alloc _;clear h hs hR hT hd hl hn hN hcc;go_enter func26,ntmps26;go_wp2_with (refine AA.CK rfl rfl w.heap.size rfl ?_);generalize w.alloc (.cells (AA.ckA AA.ck0) 55)=w0 at *
 refine(AE.Gs w0 a cap _ n f6 24 (-1) (HL.out.new Go) f3 HV).mono ?_;rintro e w1 ⟨rfl,G1⟩;have h0:=BE (Go.out.trans G1);have kd:=BE (B'.out.chg G1 (fun f=>f));clear G1 Go B' HL;go_wp2_with (refine AE.Bh rfl rfl w1.heap.size rfl ?_);intro w2 F2 G2 S2;have h6:=BE F2;clear F2;go_wp2_with (refine AE.wpList_store_fo rfl (.tmp 6) (.tmp 13) rfl w1.heap.size rfl rfl h6 ?_);intro w3 F3 G3;have ar:Chg No w1 w3:=G2.trans' G3 (fun k hk h=>om);have La:=BE (h0.out.trans ar);have f1:=BE (kd.out.chg ar (fun f=>f));obtain⟨k0,-,-,-,-,-⟩:=F3.cells;have qa:w3.cell? ⟨w1.heap.size,0,none⟩=some (.int .i64 (p:Nat)):=k0;clear F3 G2 G3 ar h6 S2 h0 kd k0;have ha:=jn g s HS T HR p t D HT w3 (HC.out.chg La (fun f=>f));go_wp2_with fail;refine ha.mono ?_;rintro e w4 ⟨v,rfl,O4,G4⟩;obtain⟨gd,cd,rfl,f7,hv,hg,hx,-⟩:=O4.lies (by rw[HE.out.len];decide);have hc:=BE (La.out.trans G4);have h1:=BE (f1.out.chg G4 (fun f=>f));have it:=HE.out.len;rw[it] at hg;have f8:=BE hx;have t7:=BE hv;clear O4 G4 ha La f1 hx f7 hv qa;have no:=AA.UG w4 gd 0 cd D HE.out.bys it hg ⟨t7.out,fun i hi=>by rw[AW];exact f8 i hi⟩ HD;rw[f9.out] at no;rw[it];have o0:=BE it;clear it;go_wp2_with fail;refine no.mono ?_;rintro e w5 ⟨rfl,G5⟩;have p2:=BE (hc.out.trans G5);have wr:=BE (h1.out.chg G5 (fun f=>f));have x0:=BE (AA.Ck.new w5 AA.ck0);have h2:Hid (Chg No w5 (w5.alloc (.cells (AA.ckA AA.ck0) 55))):=(Chg.refl _ w5).alloc _;have x2:w.heap.size<w5.heap.size:=wr.out.lt;clear G5 no hc h1;go_wp2_with (first | refine AA.CK rfl rfl w5.heap.size rfl ?_ | refine AA.Bv rfl (.tmp 8) (.tmp 24) rfl w5.heap.size rfl rfl x0 ?_);intro w7 N7 G7;have f4:=BE ((wr.out.chg h2 (fun f=>f)).chg G7 om);have f2:=BE N7;have oa:=BE ((p2.out.trans h2).trans' G7 (fun k hk h=>by have:=p2.out.size;omega));clear N7 G7;go_wp2_with (first | refine AA.Ba rfl (.tmp 8) rfl w5.heap.size rfl f2 ?_ | refine AA.Bv rfl (.tmp 4) (.tmp 26) rfl w.heap.size rfl rfl f4 ?_);intro w8 N8 G8;have x1:=BE N8;have f5:=BE (oa.out.trans' G8 (fun k hk h=>om));clear N8 G8;go_wp2;refine AZ (AA.KY rfl _ rfl x1) rfl ?_;exact⟨rfl,f5⟩
theorem Po{fn:Func}{q u:Tmp}(h:fn.results=#[.cell q 37,.tmp u])(tmps:Array Value){w:Wd}{g:Nat}{F:Nat->Int}(hp:tmps.getD q undef=.pointer (some ⟨g,0,none⟩))(hT:A25 w g F) :(results fn tmps).run prog w=.ok (.tuple #[.agg (ints F 25).toArray,tmps.getD u undef]) w:=by
 rw[results_cell_tmp h,hp];simp[asAddr,run_loadVar_row w g 37 37 _ _ _ hT underlying37 rfl (by rw[AE.DQ];exact AE.Kn)]
theorem ZE(g:Nat)(s:BM)(hs:s.Ok)(T:Fq)(hR:JY s T)(p:Nat)(t:CP)(D:List Nat)(hT:T p=some (t,D))(w:Wd)(h:BI w g s)(hN:newest (tbL T 96) 24 (-1)=some (fnd p t))(hd:AA.gZ D)(cc:AA.Bn)(hcc:AA.rdC D=cc) :Calls prog 44 #[.pointer (some ⟨g,0,none⟩)] w fun e w'=>e=.returned (.tuple #[.agg (ints (lv (tbL T 96) cc) 25).toArray,.bool true])/\Chg No w w':=by
 have HC:=BE h;have HS:=BE hs;have HR:=BE hR;have HT:=BE hT;have HN:=BE hN;have HD:=BE hd;have f3:=BE hcc;clear h hs hR hT hN hd hcc;go_enter func44,ntmps44;go_wp2_with (refine AE.CL rfl rfl w.heap.size rfl ?_);intro w0 A0 G0 S0;have h6:=BE A0;have kd:=BE G0;clear A0 G0 S0;go_wp2_with fail;refine(Pn g s HS T HR w0 (HC.out.chg kd (fun f=>f))).mono ?_;rintro e w1 ⟨v1,rfl,hl,G1⟩;obtain⟨a,La,rfl,it,ha⟩:=hl;have HL:Hid (Sl w1 (.slice a (tbL T 96).length La) (tbL T 96)):=⟨a,La,rfl,it,ha⟩;have ar:=BE (kd.out.trans G1);have wr:=BE (h6.out.chg G1 (fun f=>f));have p2:(tbL T 96).length<2932031007402:=by have:=Gz T 96;omega
 have f7:Hid ((tbL T 96).length=(tbL T 96).length):=rfl;clear G1 it ha kd h6;go_wp2_with fail;refine(Sv g s HS T HR p t D HT w1 (HC.out.chg ar (fun f=>f)) a _ La rfl HL HN HD cc f3).mono ?_;rintro e w2 ⟨rfl,G2⟩;have h1:=BE (ar.out.trans G2);have hv:=BE (wr.out.chg G2 (fun f=>f));have h2:=BE (HL.out.new G2);have hg:=BE (AA.Ck.new w2 AA.ck0);have hc:Hid (Chg No w2 (w2.alloc (.cells (AA.ckA AA.ck0) 55))):=(Chg.refl _ w2).alloc _;have f8:w.heap.size<w2.heap.size:=hv.out.lt;clear G2 ar wr HL;go_wp2_with (first | refine AA.CK rfl rfl w2.heap.size rfl ?_ | refine AA.Bv rfl (.tmp 5) (.tmp 13) rfl w2.heap.size rfl rfl hg ?_);intro w4 N4 G4;have no:Chg No w2 w4:=hc.out.trans' G4 (fun k hk h=>om);have hx:=BE (h1.out.trans no);have B':=BE (hv.out.chg no (fun f=>f));have h0:=BE (h2.out.new no);have f6:=BE N4;clear N4 G4 no hg hc h1 hv h2;go_wp2_with (refine AA.Ba rfl (.tmp 5) rfl w2.heap.size rfl f6 ?_);refine(AE.UM w4 a La (tbL T 96) _ rfl cc h0 p2).mono ?_;rintro e w5 ⟨rfl,G5⟩;have f4:=BE (hx.out.trans G5);have f2:=BE (B'.out.chg G5 (fun f=>f));clear G5 hx B' h0;go_wp2_with (refine AE.DH rfl (.tmp 2) (.tmp 20) rfl w.heap.size rfl rfl f2 ?_);intro w6 A6 G6;have f1:=BE A6;have f5:=BE (f4.out.trans' G6 (fun k hk h=>om));clear A6 G6;go_wp2;refine AZ (Po rfl _ rfl f1) rfl ?_;exact⟨rfl,f5⟩
end Go.Proofs.YtmdpnpjacfedpaaGreat
namespace Go.Proofs.YtmdpnpjacfedpaaGreat
open List
open Go.Proofs.Tryz
open Go.RowKit
open Go.Proofs.YtmdpnpjacfedpaaGreat.AE (lv newest A25)
section
variable {i b:Nat}{F L:Nat->Int}(w:Wd)(K:BH)
theorem dx(g:Nat)(s:BM)(hs:s.Ok)(b:Nat)(hb:b<12)(w:Wd)(h:BI w g s)(hE:∀i,i<8->Erd s (b*8+i)) :Calls prog 42 #[.pointer (some ⟨g,0,none⟩),.int .i64 b] w fun e w'=>e=.returned (.bool true)/\Chg No w w':=by
 have HC:=BE h;have HS:=BE hs;have HE:=BE hE;have q:=JD;have hc:(b:Int)<12:=om
 have hv:(0:Int)<=b:=om
 go_enter func42,ntmps42;go_wp2
 go_loopg [5] 8 (fun kx s5 wr=>∃i:Nat,s5=.int .i64 i/\i<=8/\8 - i<=kx/\Hid (Chg No w wr))
 case atStart=>exact⟨0,rfl,om,om,Chg.refl _ w⟩
 case round=>
 obtain⟨i,rfl,hi,h6,HG⟩:=hrel;by_cases ar:i<8
 ·have it:(i:Int)<8:=om
  have hx:(0:Int)<=i:=om
  go_wp2
  go_loopg [6] 4 (fun ky s6 wx=>∃k:Nat,s6=.int .i64 k/\k<=4/\4 - k<=ky/\Hid (Chg No w wx))
  case atStart=>exact⟨0,rfl,om,om,HG⟩
  case round=>
  obtain⟨k,rfl,hk,ha,HX⟩:=hrel;by_cases Go:k<4
  ·have no:(k:Int)<4:=om;have hg:(0:Int)<=k:=om;have ht:=Ie g s HS (b*8+i) k om Go wr (HC.out.chg HX (fun f=>f));rw[HE.out i ar k Go,show (((b*8+i:Nat):Int))=(b:Int)*8+(i:Int) by omega] at ht;go_wp2_with fail;refine ht.mono ?_;rintro e w1 ⟨rfl,-,La⟩;have kd:=BE (HX.out.trans La);go_wp2
   go_roundg (4 - (k+1))
   case measure=>omega
   case rel=>exact⟨k+1,by simp,om,AM _,kd⟩
  ·have no:¬ (k:Int)<4:=om;go_wp2
   go_roundg (8 - (i+1))
   case measure=>omega
   case rel=>exact⟨i+1,by simp,om,AM _,HX⟩
 ·have it:¬ (i:Int)<8:=om
  go_wp2;go_ret;exact⟨rfl,HG⟩
theorem Pp(h:i<12):vwF K i=K.F i:=by unfold vwF;rw[AJ h]
theorem NX(h:i<25):vwF K (12+i)=K.L i:=by unfold vwF;rw[AI om,AJ om,show 12+i - 12=i by omega]
theorem Sw:prog.plainKey 3=true:=kr
theorem Sx:prog.cellsOf 3=1:=kr
theorem ZF:∃i,prog.info? 3=some i:=Option.isSome_iff_exists.1 kr
theorem LN(d:Nat)(A:Array Value)(w:Wd)(is:List Nat)(hin:∀i ∈ is,∃z,A[i]?=some (.int .i64 z)) :(Op.eqItems (d+1) 3 1 A A is).run prog w=.ok true w:=by
 induction is with
 | nil=>simp[Op.eqItems]
 | cons i is ih=>
  have ih:=ih (fun j hj=>hin j (by simp[hj]));obtain⟨z,hz⟩:=hin i (by simp);have p1:=run_part_plain (P:=prog) w Sw (xs:=A) (off:=i*1) (by rw[Nat.mul_one];exact hz);have p3:=run_equalIn_int (P:=prog) w d 3 .i64 .i64 z z underlying3;simp only[Op.eqItems,Sem.run_bind,p1,p3,Result.andThen_ok,beq_self_eq_true];simpa using ih
theorem LO(d:Nat)(w:Wd)(f:Nat->Int):(Op.equalIn (d+2) 37 (.agg (ints f 25).toArray) (.agg (ints f 25).toArray)).run prog w=.ok true w:=by
 obtain⟨i,hi⟩:=ZF;rw[run_equalIn_array w (d+1) _ _ underlying37 hi,Sx];refine LN d _ w _ (fun i hi=>⟨f i,?_⟩);have:=BU f 25 i (mem_range.1 hi);simpa[i6] using this
theorem dy(f:Nat->Int):(binOp .eql 37 (.agg (ints f 25).toArray) (.agg (ints f 25).toArray)).run prog w=.ok (.bool true) w:=by
 rw[run_eql_struct,show (10000:Nat)=9998+2 from rfl,LO];rfl
theorem VA(op:BinOp)(x y:Operand)(xs ys:Array Value):(eqGuard op 37 x y (.agg xs) (.agg ys)).run prog w=.ok () w:=run_eqGuard_agg w op 37 x y xs ys kr
theorem FM{ops:Array Oper}{rest:List Oper}{o:Oper}{a:Act}{w:Wd}{Q:Exit->Act->World->Prop}(hw:Region.wanted o (yielded ops a.tmps)=true)(x:Operand)(ho:o.op=.load 37 x)(b off:Nat)(hx:a.eval x=.pointer (some ⟨b,off,none⟩))(hc:w.rangeAt b off (ints F 25))(h:wpList prog ops Q rest (a.put o.dst (.agg (ints F 25).toArray)) w):wpList prog ops Q (o :: rest) a w:=
 wpList_step fun _ hK=>by
  rw[AJ hw]
  exact wp_load_mid 37 x ho b off hx (ints F 25) _ hc underlying37 rfl (by rw[BF];exact AE.Kn) (hK _ _ h)
theorem IB.range{w:Wd}{n:Nat}{t:TypeId}(h:IB w b t n F)(off m:Nat)(hm:off+m<=n):w.rangeAt b off (ints (fun i=>F (off+i)) m):=fun j v hv=>by
 have hj:j<m:=by have:=(List.getElem?_eq_some_iff.1 hv).1;rw[BF] at this;exact this
 rw[BU _ _ _ hj] at hv
 rw[(h.cell (off+j) om).1]
 rw[<-hv]
 rfl
theorem A25.range{w:Wd}(h:A25 w b F):w.rangeAt b 0 (ints F 25):=fun j v hv=>by
 have hj:j<25:=by have:=(List.getElem?_eq_some_iff.1 hv).1;rw[BF] at this;exact this
 rw[BU _ _ _ hj] at hv
 rw[AW,(h.cell j hj).1,<-hv]
 rfl
def cn (V:Nat->Int) (i s:Nat):Int:=((AD.cnt V (s:Int) i:Nat):Int)
theorem ZG(V:Nat->Int)(i s:Nat):0<=cn V i s/\cn V i s<=i:=by
 have:∀i,AD.cnt V (s:Int) i<=i:=by
  intro i
  induction i with
  | zero=>exact AM _
  | succ i ih=>rw[AD.cnt];split <;> omega
 have:=this i;unfold cn;omega
theorem dz{V:Nat->Int}{x:Nat}(hx:V i=(x:Int))(s:Nat):cn V (i+1) s=upd (cn V i) x (cn V i x+1) s:=by
 unfold cn;rw[AD.cnt];by_cases e:s=x
 ·subst e;rw[AJ hx,Bb];omega
 ·rw[AI (by rw[hx];omega),BT _ _ e];rfl
theorem jo:(zeroValue 85).run prog w=.ok (.agg (ints (fun _=>0) 4).toArray) w:=kr
theorem jp:(zeroValue 87).run prog w=.ok (.agg (bools (fun _=>false) 96).toArray) w:=kr
def Pq (L:Nat->Int):Nat->Nat->Bool
 | 0,_=>false
 | i+1,p=>Pq L i p || decide (L i=(p:Int))
theorem jq{p:Nat}(h:∀j,j<i->L j≠(p:Int)):Pq L i p=false:=by
 induction i with
 | zero=>rfl
 | succ i ih=>
  rw[Pq,ih (fun j hj=>h j om),AN (h i om)];rfl
theorem ZH{m:Nat}(h:L i=(m:Int))(p:Nat):Pq L (i+1) p=upd (Pq L i) m true p:=by
 rw[Pq,h];by_cases e:p=m
 ·subst e;unfold upd;rw[AJ rfl];simp
 ·unfold upd;rw[AI e,AN om];simp
theorem ZI(h:L i = -1)(p:Nat):Pq L (i+1) p=Pq L i p:=by
 rw[Pq,h,AN om];simp
theorem ZJ{K:BH}{G:Bk}{X:Nat->Prop}(h:Sit K G X):AD.cnt K.F 1 12<=1:=by
 have:∀n,n<=12->AD.cnt K.F 1 n<=if K.fr.o=true/\K.fr.k<n then 1 else 0:=by
  intro n
  induction n with
  | zero=>intro _;exact Ac _
  | succ n ih=>
   intro hn;have:=ih om;rw[AD.cnt];have ho:=h.opn n om;by_cases e:K.F n=1
   ·obtain⟨e1,e2⟩:=ho.1 e;rw[AJ e,AJ ⟨e1,om⟩];rw[AI om] at this;omega
   ·rw[AI e];split at this
    ·rename_i c;rw[AJ ⟨c.1,om⟩];omega
    ·omega
 have:=this 12 (AM _);split at this <;> omega
theorem ZK(s:Nat):cn (vwF K) 12 s=((AD.cnt K.F (s:Int) 12:Nat):Int):=by
 unfold cn;have:∀n,n<=12->AD.cnt (vwF K) (s:Int) n=AD.cnt K.F (s:Int) n:=by
  intro n
  induction n with
  | zero=>intro _;rfl
  | succ n ih=>
   intro h;rw[AD.cnt,AD.cnt,ih om,Pp K om]
 rw[this 12 (AM _)]
theorem ZL(m o:Nat)(h:0<=(m:Int)/\(m:Int)<96)(ho:0<=(o:Int)/\(o:Int)<25)(hm:(o:Int)=24\/(m:Int) % 8<6):Calls prog 43 #[.int .i64 m,.int .i64 o] w fun e w'=>e=.returned (.tuple #[.bool true,.int .i64 0])/\w'=w:=by
 have:=AC.UW w m o h ho;rw[AO hm] at this;exact this
theorem Pr(g:Nat)(K:BH)(G:Bk)(h:Ivk K G)(h24:K.L 24≠-1)(w:Wd)(hC:BI w g K.s) :Calls prog 12 #[.pointer (some ⟨g,0,none⟩),.agg (ints (vwF K) 67).toArray] w fun e w'=>e=.returned (.bool true)/\Chg No w w':=by
 obtain⟨on,X,hs,hd⟩:=h;have HS:=BE hs;have HC:=BE hC;have f5:=BE h24;have r2:Hid (cn (vwF K) 12 1<=1/\(2<cn (vwF K) 12 3<->2<bad3 K.F)/\(¬ 2<bad3 K.F->¬ cn (vwF K) 12 0<1+2*(2 - cn (vwF K) 12 3))):=by
  show _/\_/\_;rw[ZK,ZK,ZK];have e3:AD.cnt K.F ((3:Nat):Int) 12=bad3 K.F:=rfl;have e0:AD.cnt K.F ((0:Nat):Int) 12=fre K.F:=rfl;have e1:=ZJ hs;rw[e3,e0];refine⟨by show ((AD.cnt K.F 1 12:Nat):Int)<=1;omega,om,fun hb=>?_⟩;have oo:K.dd=false:=by
   cases e:K.dd
   ·rfl
   ·exact absurd (hs.dds.1 e) hb
  have:=(hd oo).2.1;unfold Rm at this;omega
 have G3:Hid (∀o,o<25->K.L o≠-1->K.F ((K.L o).toNat / 8)≠0/\(K.F ((K.L o).toNat / 8)=3->2<bad3 K.F)):=fun o ho hL=>⟨(hs.blk o ho hL).1,fun e=>hs.dds.1 ((hs.blk o ho hL).2 e)⟩;clear hs hd hC h24 on;have x2:=BE (IB.new w 39 67 (vwF K));have x1:Hid (Chg No w (w.alloc (.cells (ints (vwF K) 67).toArray 39))):=(Chg.refl _ w).alloc _;have f8:(w.alloc (.cells (ints (vwF K) 67).toArray 39)).heap.size=w.heap.size+1:=World.size_alloc _ _;go_enter func12,ntmps12;go_wp2_with (refine CV rfl 85 rfl (w.heap.size+1) (World.size_alloc _ _) jo ?_);intro w1 M1 G1 S1;have xs:=BE (x2.out.chg G1 (fun f=>f));have x3:=BE (x1.out.trans G1);have hr:Hid (IB w1 (w.heap.size+1) 85 4 (fun _=>0)):=M1;clear M1 G1 x2 x1 f8;go_wp2
 go_loopg [6] 12 (fun kx s6 wr=>∃i:Nat,s6=.int .i64 i/\i<=12/\12 - i<=kx/\Hid (IB wr (w.heap.size+1) 85 4 (cn (vwF K) i))/\Hid (IB wr w.heap.size 39 67 (vwF K))/\Hid (Chg No w wr))
 case atStart=>exact⟨0,rfl,om,om,hr.out,xs.out,x3⟩
 case round=>
 obtain⟨i,rfl,hi,x8,HM,HV,HG⟩:=hrel;by_cases x0:i<12
 ·have B':(i:Int)<12:=om
  have u2:(0:Int)<=i:=om
  obtain⟨hc,-⟩:=HV.out.cell i om;have p2:=HS.out.sts i x0;rw[<-Pp K x0] at p2;obtain⟨x,hx,x7⟩:∃x:Nat,vwF K i=(x:Int)/\x<4:=⟨(vwF K i).toNat,om,om⟩;rw[hx] at hc;obtain⟨m0,mf⟩:=HM.out.cell x x7;have hb:=ZG (vwF K) i x;have pg:=BE ((HM.out.set x (cn (vwF K) i x+1)).congr (G:=cn (vwF K) (i+1)) (fun j _=>(dz hx j).symm));have it:=BE (HV.out.chg ((Chg.refl (·=w.heap.size+1) wr).setCell (AK rfl) x (.int .i64 (cn (vwF K) i x+1))) om);have no:=BE (HG.out.setCell (S:=fun _=>False) (g:=w.heap.size+1) (AL (Nat.le_succ _)) x (.int .i64 (cn (vwF K) i x+1)));generalize cn (vwF K) i x=z at *
  have he:0<=z:=hb.1;have g3:z<13:=om
  have z0:(0:Int)<=(x:Int):=om
  have a1:(x:Int)<4:=om
  have g5:¬ (x:Int)<0:=om
  have gf:¬ (3:Int)<(x:Int):=om
  clear hb p2 hx;go_wp2
  go_roundg (12 - (i+1))
  case measure=>omega
  case rel=>exact⟨i+1,by simp,om,AM _,pg.out,it.out,no⟩
 ·have B':¬ (i:Int)<12:=om
  have e:i=12:=om
  subst e;obtain⟨c0,-⟩:=HM.out.cell 0 om;obtain⟨c1,-⟩:=HM.out.cell 1 om;obtain⟨c3,-⟩:=HM.out.cell 3 om;have b0:=ZG (vwF K) 12 0;have b3:=ZG (vwF K) 12 3;obtain⟨q1,q3,q0⟩:=r2.out;generalize cn (vwF K) 12 0=n0 at *
  generalize cn (vwF K) 12 1=n1 at *
  generalize cn (vwF K) 12 3=n3 at *
  have y0:¬ (1:Int)<n1:=om
  have w2:(Hid (∀o,o<25->K.L o≠-1->K.F ((K.L o).toNat / 8)=1\/K.F ((K.L o).toNat / 8)=2\/(K.F ((K.L o).toNat / 8)=3/\True))/\(2:Int)<n3)\/(Hid (∀o,o<25->K.L o≠-1->K.F ((K.L o).toNat / 8)=1\/K.F ((K.L o).toNat / 8)=2\/(K.F ((K.L o).toNat / 8)=3/\False))/\¬ (2:Int)<n3/\0<=n3/\n3<=2/\¬ n0<1+2*(2 - n3)/\0<=n0/\n0<=12):=by
   have p2:∀o,o<25->K.L o≠-1->0<=K.F ((K.L o).toNat / 8)/\K.F ((K.L o).toNat / 8)<=3:=fun o ho hL=>HS.out.sts _ (by have:=(HS.out.wf.lt ho hL).1;omega);by_cases c:(2:Int)<n3
   ·left;refine⟨fun o ho hL=>?_,c⟩;have h1:=p2 o ho hL;have h2:=(G3.out o ho hL).1;have h5:K.F ((K.L o).toNat / 8)=1\/K.F ((K.L o).toNat / 8)=2\/K.F ((K.L o).toNat / 8)=3:=om;exact h5.imp id (Or.imp id fun e=>⟨e,trivial⟩)
   ·right;refine⟨fun o ho hL=>?_,c,om,om,by have:=q0 (fun e=>c (q3.2 e));omega,om,om⟩;have h1:=p2 o ho hL;have h2:=(G3.out o ho hL).1;have h3:=(G3.out o ho hL).2;have h4:K.F ((K.L o).toNat / 8)≠3:=fun e=>c (q3.2 (h3 e));have h5:K.F ((K.L o).toNat / 8)=1\/K.F ((K.L o).toNat / 8)=2:=om;exact h5.imp id AK
  clear q1 q3 q0 b0 b3 B' x8 hi HM;rcases w2 with ⟨HZ,r1⟩ | ⟨HZ,r1,y6,W1,F1,y2,h7⟩
  all_goals
   go_wp2
   go_loopg [9] 12 (fun kx s9 wx=>∃j:Nat,s9=.int .i64 j/\j<=12/\12 - j<=kx/\Hid (IB wx w.heap.size 39 67 (vwF K))/\Hid (Chg No w wx))
   case atStart=>exact⟨0,rfl,om,om,HV.out,HG⟩
   case round=>
   obtain⟨j,rfl,hj,be,it,no⟩:=hrel;clear c0 c1 c3 HV HG;by_cases oa:j<12
   ·have w4:(j:Int)<12:=om;have lb:(0:Int)<=j:=om;obtain⟨hc,-⟩:=it.out.cell j om;rw[Pp K oa] at hc;by_cases h0:K.F j=0
    ·rw[h0] at hc;have o2:=dx g K.s HS.out.wf.chip j oa wr (HC.out.chg no (fun f=>f)) (fun i hi=>HS.out.frs (j*8+i) om (by rw[show (j*8+i) / 8=j by omega];exact h0));clear h0;go_wp2_with fail;refine o2.mono ?_;rintro e w3 ⟨rfl,f9⟩;have h8:=BE (it.out.chg f9 (fun f=>f));have r0:=BE (no.out.trans f9);clear f9 o2 it no hc;go_wp2
     go_roundg (12 - (j+1))
     case measure=>omega
     case rel=>exact⟨j+1,by simp,om,AM _,h8.out,r0⟩
    ·have u3:(K.F j == 0)=false:=(by simpa using h0);go_wp2
     go_roundg (12 - (j+1))
     case measure=>omega
     case rel=>exact⟨j+1,by simp,om,AM _,it.out,no⟩
   ·have w4:¬ (j:Int)<12:=om;obtain⟨bh,t7⟩:∃bh,wr.heap.size=bh:=⟨_,rfl⟩;have hu:w.heap.size<bh:=(by rw[<-t7];exact it.out.lt);go_wp2_with (refine CV rfl 87 rfl bh t7 jp ?_);intro w5 B5 G5 S5;have o1:Hid (BB w5 bh 87 96 (Pq K.L 0)):=B5;have oi:=BE (it.out.chg G5 (fun f=>f));have C3:=BE (no.out.trans G5);have ih:¬ bh=w.heap.size:=om;have x4:¬ w.heap.size=bh:=om;clear B5 G5 S5 it no t7 w4 hj be;go_wp2
    go_loopg [12] 25 (fun kx s12 wx=>∃o:Nat,s12=.int .i64 o/\o<=25/\25 - o<=kx/\Hid (BB wx bh 87 96 (Pq K.L o))/\Hid (IB wx w.heap.size 39 67 (vwF K))/\Hid (Chg No w wx))
    case atStart=>exact⟨0,rfl,om,om,o1.out,oi.out,C3⟩
    case round=>
    obtain⟨o,rfl,ho,y1,HB,ha,hg⟩:=hrel;clear o1 oi C3;by_cases f1:o<25
    ·have l2:(o:Int)<=24:=om;have v':(o:Int)<25:=om;have F3:(0:Int)<=o:=om;obtain⟨hc,-⟩:=ha.out.cell (12+o) om;rw[NX K f1] at hc;by_cases hL:K.L o = -1
     ·rw[hL] at hc;have f2:Hid (BB wr bh 87 96 (Pq K.L (o+1))):=by
       show BB wr bh 87 96 _;rw[show Pq K.L (o+1)=Pq K.L o from funext (ZI hL)];exact HB
      clear hL;go_wp2
      go_roundg (25 - (o+1))
      case measure=>omega
      case rel=>exact⟨o+1,by simp,om,AM _,f2.out,ha.out,hg⟩
     ·obtain⟨f7,hm⟩:=HS.out.wf.lt f1 hL;have x5:=HZ.out o f1 hL;have hv:(o:Int)=24\/(K.L o) % 8<6:=by
       by_cases e':o=24
       ·left;omega
       ·exact AL ((HS.out.wf.map.may o om).resolve_left hL)
      have La:∀i,i<o->K.L i≠K.L o:=fun i hi e=>by
       have:=HS.out.wf.map.inj i o om f1 e (by rw[e];exact hL);omega
      have K3:=BE (fun p=>(ZH (L:=K.L) (i:=o) hm p));generalize (K.L o).toNat=m at *
      rw[hm] at hc hv La;have qa:=ZL wr m o ⟨om,om⟩ ⟨om,om⟩ hv;obtain⟨hb,y3⟩:=HB.out.cell m f7;rw[jq La] at hb;obtain⟨rs,-⟩:=ha.out.cell (m / 8) om;rw[Pp K om] at rs;have u1:((m:Int)).tdiv 8=((m / 8:Nat):Int):=(by rw[Int.tdiv_eq_ediv_of_nonneg om];omega);have ht:m / 8<12:=om;have f2:=BE (HB.out.set m true);have ar:=BE (ha.out.chg ((Chg.refl (·=bh) wr).setCell (AK rfl) m (.bool true)) om);have kd:=BE (hg.out.setCell (S:=fun _=>False) (g:=bh) (AL (Nat.le_of_lt hu)) m (.bool true));have f4:Hid (BB (wr.setCell ⟨bh,m,none⟩ (.bool true)) bh 87 96 (Pq K.L (o+1))):=by
       show BB _ bh 87 96 _;rw[show Pq K.L (o+1)=upd (Pq K.L o) m true from funext K3.out];exact f2
      generalize m / 8=d at *
      have u5:(d:Int)<12:=om;have g1:(0:Int)<=d:=om;have O3:(m:Int)<96:=om;have B3:(0:Int)<=m:=om;have O1:¬ (m:Int) = -1:=om;have y5:((m:Int) == -1)=false:=(by simp);generalize K.F d=z at *
      clear hm hL hv La K3 f2 HB;rcases x5 with rfl | rfl | ⟨rfl,hp⟩
      ·go_wp2_with fail;refine qa.mono ?_;rintro e wr ⟨rfl,rfl⟩;go_wp2
       go_roundg (25 - (o+1))
       case measure=>omega
       case rel=>exact⟨o+1,by simp,om,AM _,f4.out,ar.out,kd⟩
      ·go_wp2_with fail;refine qa.mono ?_;rintro e wr ⟨rfl,rfl⟩;go_wp2
       go_roundg (25 - (o+1))
       case measure=>omega
       case rel=>exact⟨o+1,by simp,om,AM _,f4.out,ar.out,kd⟩
      ·first
       | exact hp.elim
       | (go_wp2_with fail;refine qa.mono ?_;rintro e wr ⟨rfl,rfl⟩;go_wp2;go_roundg (25 - (o+1));(case measure=>omega);(case rel=>exact⟨o+1,by simp,om,AM _,f4.out,ar.out,kd⟩))
    ·have l2:¬ (o:Int)<=24:=om;obtain⟨D,hT,hD,hN⟩:=HS.out.point f5;have h6:=(HS.out.cn f5).2.2;have G2:AA.gZ D:=by
      rw[hD];exact(AA.SB _ (AA.FA _) (AA.CI _)).1 ⟨(AA.Fg _ h6).symm.okc (IM h6),(AA.Fg _ h6).wrL⟩
     have f3:=ZE g K.s HS.out.wf.chip G.T HS.out.rep _ _ D hT wr (HC.out.chg hg (fun f=>f)) hN G2 _ rfl;rw[show ints (lv (tbL G.T 96) (AA.rdC D)) 25=ints (fun i=>vwF K (12+i)) 25 from Df fun i hi=>by
      rw[NX K hi,hD]
      exact HS.out.live (AA.Fg _ h6) hi] at f3
     have HP:Hid (vwF K (12+24)=K.L 24/\0<=K.L 24):=⟨NX K dc,by have:=HS.out.wf.lt (by decide:24<25) f5;omega⟩;clear hT hD hN h6 G2 HB;generalize vwF K=V at *
     go_wp2_with fail;refine f3.mono ?_;rintro e w7 ⟨rfl,G7⟩;have ar:=BE (ha.out.chg G7 (fun f=>f));have kd:=BE (hg.out.trans G7);clear G7 f3 ha hg;go_wp2_with (refine AE.CL rfl rfl w7.heap.size rfl ?_);intro w8 A8 G8 S8;have L3:=BE A8;have K':w.heap.size<w7.heap.size:=ar.out.lt;go_wp2_with (refine AE.DH rfl (.tmp 17) (.tmp 119) rfl w7.heap.size rfl rfl L3 ?_);intro w9 A9 G9;have f6:Chg No w7 w9:=G8.trans' G9 (fun k hk h=>om);have o0:=BE (ar.out.chg f6 (fun f=>f));have C4:=BE (kd.out.trans f6);have W3:=BE A9;have x6:=BE (A25.range A9);have C5:=BE (IB.range o0 12 25 dc);obtain⟨hh,-⟩:=o0.out.cell 36 dc;rw[show V 36=K.L 24 from HP.out.1] at hh;have hn:=HP.out.2;generalize K.L 24=z2 at *
     clear A8 G8 S8 A9 G9 f6 L3 ar kd;have hq:=dy;have g2:=VA;go_wp2_with (first | (refine FM rfl (.tmp 17) rfl w7.heap.size 0 rfl x6 ?_) | (refine FM rfl (.tmp 124) rfl w.heap.size 12 rfl C5 ?_));go_ret;exact⟨rfl,C4⟩
end
end Go.Proofs.YtmdpnpjacfedpaaGreat
namespace Go.Proofs.YtmdpnpjacfedpaaGreat
open List
open Go.Proofs.Tryz
open Go.RowKit
section
variable {G:Bk}(K:BH)
theorem RV(p:Nat):(rdK K p).1.mv=K.mv:=by
 unfold rdK;dsimp only;split <;> rfl
theorem jr(t:CP)(D:List Nat):(prK K t D).1.mv=K.mv:=by
 unfold prK;dsimp only
theorem ZM(t:CP)(D:List Nat):(prM K t D).1.mv=K.mv:=by
 unfold prM;split
 ·rfl
 ·exact jr K t D
theorem RW(S:Bm)(o:Nat):(tiK K S o).1.mv=K.mv:=by
 unfold tiK;split
 ·rfl
 ·split <;> rfl
theorem NY(o:Nat):(coK K o).1.mv=K.mv:=by
 unfold coK;split
 ·rfl
 ·dsimp only;split
  ·exact RV _ _
  ·split
   ·exact RV _ _
   ·split <;> exact RV _ _
theorem ZN(bd:Bool):∀(l:List Nat) (K:BH) (S:Bm),(cpK bd l K S).1.mv=K.mv:=by
 intro l
 induction l with
 | nil=>intro K S;rfl
 | cons o l ih=>
  intro K S;unfold cpK;split
  ·exact ih K S
  ·dsimp only;split
   ·exact NY K o
   ·split
    ·exact(RW _ _ _).trans (NY K o)
    ·split
     ·exact(ZM _ _ _).trans ((RW _ _ _).trans (NY K o))
     ·exact(ih _ _).trans ((ZM _ _ _).trans ((RW _ _ _).trans (NY K o)))
theorem d9(bd:Bool)(o:Nat)(l:List Nat)(K:BH)(S:Bm):cpK bd (o :: l) K S=if (cpK bd [o] K S).2.2≠0 then cpK bd [o] K S else cpK bd l (cpK bd [o] K S).1 (cpK bd [o] K S).2.1:=by
 have e1:cpK bd [o] K S=if bd=true/\o=24 then (K,S,0) else
  if (coK K o).2.2.2≠0 then ((coK K o).1,S,(coK K o).2.2.2) else
  if (tiK (coK K o).1 S o).2.2.2≠0 then ((tiK (coK K o).1 S o).1,(tiK (coK K o).1 S o).2.1,(tiK (coK K o).1 S o).2.2.2) else
  if (prM (tiK (coK K o).1 S o).1 ⟨(tiK (coK K o).1 S o).2.2.1,o,(tiK (coK K o).1 S o).1.vs o,((tiK (coK K o).1 S o).1.vc o+1) % 256,(coK K o).2.2.1⟩ (coK K o).2.1).2≠0 then ((prM (tiK (coK K o).1 S o).1 ⟨(tiK (coK K o).1 S o).2.2.1,o,(tiK (coK K o).1 S o).1.vs o,((tiK (coK K o).1 S o).1.vc o+1) % 256,(coK K o).2.2.1⟩ (coK K o).2.1).1,(tiK (coK K o).1 S o).2.1,(prM (tiK (coK K o).1 S o).1 ⟨(tiK (coK K o).1 S o).2.2.1,o,(tiK (coK K o).1 S o).1.vs o,((tiK (coK K o).1 S o).1.vc o+1) % 256,(coK K o).2.2.1⟩ (coK K o).2.1).2) else
  ((prM (tiK (coK K o).1 S o).1 ⟨(tiK (coK K o).1 S o).2.2.1,o,(tiK (coK K o).1 S o).1.vs o,((tiK (coK K o).1 S o).1.vc o+1) % 256,(coK K o).2.2.1⟩ (coK K o).2.1).1,{ (tiK (coK K o).1 S o).2.1 with ld:=(tiK (coK K o).1 S o).2.1.ld ++ [⟨(tiK (coK K o).1 S o).2.2.1,o,(tiK (coK K o).1 S o).1.vs o,((tiK (coK K o).1 S o).1.vc o+1) % 256,(coK K o).2.2.1⟩] },0):=rfl
 rw[cpK,e1];dsimp only;by_cases h1:bd=true/\o=24
 ·rw[AJ h1,AJ h1];simp
 ·rw[AI h1,AI h1];by_cases h2:(coK K o).2.2.2≠0
  ·rw[AJ h2,AJ h2];dsimp only;rw[AJ h2]
  ·rw[AI h2,AI h2];by_cases h3:(tiK (coK K o).1 S o).2.2.2≠0
   ·rw[AJ h3,AJ h3];dsimp only;rw[AJ h3]
   ·rw[AI h3,AI h3];generalize tiK (coK K o).1 S o=t at *
    generalize hp:prM t.1 ⟨t.2.2.1,o,t.1.vs o,(t.1.vc o+1) % 256,(coK K o).2.2.1⟩ (coK K o).2.1=p;by_cases h4:p.2≠0
    ·rw[AJ h4,AJ h4];dsimp only;rw[AJ h4]
    ·rw[AI h4,AI h4];dsimp only;rw[AI (by simp)]
theorem Fine.rdK{K:BH}(h:Fine K.s)(p:Nat):Fine (rdK K p).1.s:=by
 have:=h.readV p;unfold Go.Proofs.YtmdpnpjacfedpaaGreat.rdK rdF;dsimp only;by_cases e:(Go.Proofs.YtmdpnpjacfedpaaGreat.readV K.s p).2.2=0
 ·rw[AJ e];dsimp only;rw[AJ rfl];exact this.1
 ·rw[AI e];dsimp only;rw[AI e];exact this.1
theorem Fine.coK{K:BH}(h:Fine K.s)(o:Nat):Fine (coK K o).1.s:=by
 have:=Fine.rdK h (K.L o).toNat;unfold Go.Proofs.YtmdpnpjacfedpaaGreat.coK;dsimp only;split
 ·exact h
 ·split
  ·exact this
  ·split
   ·exact this
   ·split <;> exact this
theorem Sy{K:BH}{S:Bm}{o:Nat}(h:Sit K G (Xs S))(hC:LU K G S)(hD:kR K S [o])(_:kS S)(hfi:Fine K.s)(hf:S.tt.o=false->1<=fre K.F)(hv:K.F S.fm≠0) :∃K' S' k lo,cpK false [o] K S=(K',S',0)/\S'.tt=⟨true,k,S.tt.i+1⟩/\S'.ld=S.ld ++ [⟨8*k+S.tt.i,o,K.vs o,(K.vc o+1) % 256,lo⟩]/\S'.fm=S.fm/\S'.fd=S.fd/\Fine K'.s/\(S.tt.o=true->k=S.tt.k)/\(S.tt.o=false->k=tkM K.F):=by
 obtain⟨m1,m2,m3,m4⟩:=hD.mem o (mem_cons_self ..);obtain⟨K1,D,lo,hx,a1,w1,G3,wr,G1,hz,f3⟩:=Yd h hfi.on m1 m2;have f1:Fine K1.s:=by have:=Fine.coK hfi o;rw[hx] at this;exact this
 have h1:Sit K1 G (Xs S):=h.alk a1 w1;have B':LU K1 G S:=hC.alk a1;have ha:S.tt.i<8/\(o=24\/S.tt.i<6):=by
  by_cases Go:o=24
  ·exact⟨om,AK Go⟩
  ·have:=(h.wf.map.may o om).resolve_left m2;have:=h.wf.lt m1 m2;exact⟨om,AL om⟩
 obtain⟨K2,k,h6,La,w2,hg,h0,G2,f6,kF,hc,h2,f2,n2,p2,f5,f8,Fo,kz⟩:=RE h1 B' (by rw[a1.F];exact hf) (by rw[a1.F];exact hv) m1 ha;have hk:S.tt.o=false->k=tkM K.F:=fun e=>by
  have e2:=h6;unfold tiK at e2;rw[AI (by rw[e];decide)] at e2;by_cases e3:tkC K1.F≠0
  ·rw[AJ e3] at e2;have:=congrArg (fun x=>x.2.2.2) e2;exact absurd (show (14:Nat)=0 from this) dc
  ·rw[AI e3] at e2;have:=congrArg (fun x=>x.2.1.tt.k) e2;dsimp only at this;rw[<-this,a1.F];unfold AC.tkS;split <;> rfl
 have it:Pz K K2:=a1.kee.trans La;have ar:8*k+S.tt.i<96:=om
 have f9:(8*k+S.tt.i) / 8=k:=om
 have f7:=h.wf.vs o m1;have f4:=h.wf.vp o m1 m2;have no:o=24->lo=false:=fun e=>by
  cases elo:lo
  ·rfl
  ·exact absurd (e ▸ hz elo) h.z24
 have hM:DY ((8*k+S.tt.i:Nat):Int) (o:Nat) (K2.vs o:Nat) (((K2.vc o+1) % 256:Nat):Int) lo:=by
  rw[it.vs];refine⟨⟨om,om,om,om⟩,?_⟩;by_cases Go:o=24
  ·exact AK ⟨om,no Go⟩
  ·have:=ha.2.resolve_left Go;exact AL ⟨om,om⟩
 have hE:YR (8*k+S.tt.i) ⟨8*k+S.tt.i,o,K2.vs o,(K2.vc o+1) % 256,lo⟩ D:=⟨rfl,hM,wr,G1⟩;have kd:prM K2 ⟨8*k+S.tt.i,o,K2.vs o,(K2.vc o+1) % 256,lo⟩ D=prK K2 ⟨8*k+S.tt.i,o,K2.vs o,(K2.vc o+1) % 256,lo⟩ D:=by
  unfold prM;rw[AI];rintro ⟨x,y⟩;have:=no x;rw[this] at y;cases y
 have w':=So (K:=K2) h2.wf h2.rep (t:=⟨8*k+S.tt.i,o,K2.vs o,(K2.vc o+1) % 256,lo⟩) ar hE (p2 S.tt.i (AM _) ha.1) (by rw[w2];exact f1);refine⟨_,{ S with tt:=⟨true,k,S.tt.i+1⟩,ld:=S.ld ++ [⟨8*k+S.tt.i,o,K.vs o,(K.vc o+1) % 256,lo⟩] },k,lo,?_,rfl,rfl,rfl,rfl,w'.2,hc,hk⟩;rw[cpK,AI (by simp),hx];dsimp only;rw[AI dc,h6];dsimp only;rw[AI dc,kd,AI (by rw[w'.1];simp),cpK,it.vs,it.vc]
theorem VB(L:Nat->Int)(n q:Int):AB.setC L n q=0\/AB.setC L n q=1\/AB.setC L n q=12:=by
 unfold AB.setC;split
 ·exact AL (AK rfl)
 ·split
  ·exact AL (AL rfl)
  ·exact AK rfl
theorem ZO:∀(l:List CP) (K:BH),(cmL l K).2=0\/(cmL l K).2=1\/(cmL l K).2=12:=by
 intro l
 induction l with
 | nil=>intro K;exact AK rfl
 | cons t l ih=>
  intro K;unfold cmL;split
  ·exact VB _ _ _
  ·exact ih _
theorem js{K:BH}(h:Sit K G No)(hfi:Fine K.s)(hdd:K.dd=false)(hrm:Rm 0 K)(hT:Told K G)(hnx:K.nx<IE){V a b:Nat}(hV:V<12)(h0:K.F V≠0)(h3:K.F V≠3)(hab:a≠b)(hof:(AB.ofL K.L V).map Int.toNat=[a,b])(n:Nat) :∃Z,vaK n K V false=some (Z,0)/\Fine Z.s/\Z.L=upd (upd K.L a (8*tkM K.F:Nat)) b (8*tkM K.F+1:Nat)/\Z.mv=wrap64 (K.mv+2)/\Z.fr=⟨true,tkM K.F,2⟩/\Z.nx=K.nx/\Z.dd=false:=by
 obtain⟨o1,o2,o3⟩:=NN h.wf.map V;rw[hof] at o1 o2 o3;have hg:1<=fre K.F:=by
  have xs:bad3 K.F<=2:=by
   have:¬ 2<bad3 K.F:=fun e=>by have:=h.dds.2 e;rw[hdd] at this;cases this
   omega
  unfold Rm at hrm;omega
 obtain⟨S0,w'⟩:∃S0:Bm,S0={ nwS V false false with tt:=noF,ld:=[] }:=⟨_,rfl⟩;have La:S0.fm=V:=by rw[w'];rfl
 have rs:S0.fd=false:=by rw[w'];rfl
 have hc:S0.tt=noF:=by rw[w']
 have no:S0.ld=[]:=by rw[w']
 have o0:S0.tt.o=false:=by rw[hc];rfl
 have ha:S0.tt.i=0:=by rw[hc];rfl
 have qa:Sit K G (Xs S0):=h.mono (fun _ _ x=>x.elim);have h1:∀ {P:Prop},S0.tt.o=true->P:=fun e=>by rw[o0] at e;cases e
 have G1:∀ {P:Prop} {t:CP},t ∈ S0.ld->P:=fun e=>by rw[no] at e;cases e
 have x2:LU K G S0:=⟨by rw[La];exact hV,fun _=>⟨no,ha⟩,fun e=>h1 e,fun e=>h1 e,fun e=>h1 e,fun e=>h1 e,fun t ht=>G1 ht,fun t ht=>G1 ht,by rw[no];exact nodup_nil,by rw[no];exact nodup_nil⟩;have t7:kR K S0 [a]:=⟨fun o ho=>by
  have eo:o=a:=by simpa using ho
  subst eo
  obtain⟨q1,q2,q3⟩:=o1 o (by simp)
  rw[La,ha]
  exact⟨q1,q2,q3,Ac _⟩,pairwise_singleton _ _,fun o _ t ht=>G1 ht⟩
 have w3:kS S0:=AK (by rw[ha];exact Ac _);have f1:K.F S0.fm≠0:=by rw[La];exact h0
 obtain⟨Ka,Sa,k,lo,ea,ta,la,f8,pg,fa,-,hk⟩:=Sy qa x2 t7 w3 hfi (fun _=>hg) f1;have ih:=hk o0;rw[ha] at ta la;rw[no,A7] at la;obtain⟨Ga,ar,f3⟩:=LH false [a] K G S0 qa x2 t7 w3 hfi.on (fun _=>hg) f1 (by rw[ha];show 1+0<=25;decide);have f2:=ZN false [a] K S0;rw[ea] at ar f3 f2;dsimp only at ar f3 f2;obtain⟨-,-,oa,f7,-,-,-,-⟩:=f3.resolve_right (by rintro (⟨e,_⟩ | ⟨e,_⟩) <;> exact absurd e dc)
 have L3:kR Ka Sa [b]:=by
  refine⟨fun o ho=>?_,pairwise_singleton _ _,fun o ho t ht=>?_⟩
  ·have eo:o=b:=(by simpa using ho);subst eo;obtain⟨q1,q2,q3⟩:=o1 o (by simp);rw[ar.kee.L,f8,La,ta];refine⟨q1,q2,q3,?_⟩;have q4:=(pairwise_cons.1 o2).1 o (by simp);obtain⟨p1,p2,p3⟩:=o1 a (by simp);have w1:=h.wf.lt q1 q2;have w2:=h.wf.lt p1 p2;show 0+1<=(K.L o).toNat % 8;omega
  ·have eo:o=b:=(by simpa using ho);rw[la] at ht;have et:t=⟨8*k+0,a,K.vs a,(K.vc a+1) % 256,lo⟩:=(by simpa using ht);rw[et,eo];exact hab
 have hi:Ka.F Sa.fm≠0:=by rw[f8,show Ka.F S0.fm=K.F S0.fm from ar.fv];exact f1
 have wr:Sa.tt.o=true:=by rw[ta]
 have f9:Sa.tt.i=1:=by rw[ta]
 have hs:Sa.tt.k=k:=by rw[ta]
 obtain⟨Kb,S2,k2,G2,eb,tb,lb,h4,hu,fb,be,-⟩:=Sy ar.sit oa L3 f7 fa (fun e=>by rw[wr] at e;cases e) hi;have w5:k2=k:=(be wr).trans hs;subst w5;rw[f9] at tb lb;rw[la] at lb;obtain⟨Gb,h6,-⟩:=LH false [b] Ka Ga Sa ar.sit oa L3 f7 fa.on (fun e=>by rw[wr] at e;cases e) hi (by rw[f9];show 1+1<=25;decide);have f6:=ZN false [b] Ka Sa;rw[eb] at h6 f6;dsimp only at h6 f6;have G3:cpK false [a,b] K S0=(Kb,S2,0):=by
  rw[d9,ea];dsimp only;rw[AI (by simp)];exact eb
 have K3:=Sp (K:=Kb) h6.sit.wf (b:=V) hV fb;have x1:=Pa (S:=nwS V false false) h hfi.on hV h0 h3 hdd hrm (AK hT) hnx;have h2:tyK K (nwS V false false)=((cmK (erK Kb V).1 S2 0).1,S2,(cmK (erK Kb V).1 S2 0).2):=by
  unfold tyK;dsimp only;have e8:(nwS V false false).fd=false:=rfl;have e9:((nwS V false false).fd || ((nwS V false false).rt && bearK K))=false:=rfl;have e7:(nwS V false false).fm=V:=rfl;have e6:cpK false [a,b] K { fm:=V,rt:=(nwS V false false).rt,fd:=(nwS V false false).fd,tt:=noF,ld:=[] }=(Kb,S2,0):=by
   rw[w'] at G3;exact G3
  rw[AI (by rw[e8];simp),e9,e7,hof,e6];dsimp only;rw[AI (by simp),AI dc,AJ K3.1]
 have it:(cmK (erK Kb V).1 S2 0).2=0:=by
  have hn:(cmK (erK Kb V).1 S2 0).2=0\/(cmK (erK Kb V).1 S2 0).2=1\/(cmK (erK Kb V).1 S2 0).2=12:=by
   unfold cmK;dsimp only;split
   ·exact ZO _ _
   ·exact AK rfl
  obtain⟨-,G',hx⟩:=x1;rw[h2] at hx;dsimp only at hx;rcases hx with ⟨e,_⟩ | ⟨e,_⟩ | ⟨e,_⟩ | ⟨e,_⟩
  ·exact e
  ·omega
  ·omega
  ·omega
 have hv:(tyK K (nwS V false false)).1.dd=false:=by
  obtain⟨-,G',hx⟩:=x1;rcases hx with ⟨e,d,_,q⟩ | ⟨e,_⟩ | ⟨e,_⟩ | ⟨e,_⟩
  ·exact q.dd
  all_goals
   rw[h2] at e;dsimp only at e;rw[it] at e;cases e
 have B':Kb.nx=K.nx:=h6.kee.nx.trans ar.kee.nx;have f5:∃s' R' N',(erK Kb V).1={ Kb with s:=s',hR:=R',hN:=N' }:=by
  unfold erK;dsimp only;split
  ·exact⟨_,_,_,rfl⟩
  ·exact⟨_,_,_,rfl⟩
 obtain⟨s',R',N',f5⟩:=f5;have hm:Kb.L=K.L:=h6.kee.L.trans ar.kee.L;have K':Kb.mv=K.mv:=f6.trans f2;have w4:(cmL S2.ld (erK Kb V).1).2=0/\(cmL S2.ld (erK Kb V).1).1.L=upd (upd K.L a (8*k2:Nat)) b (8*k2+1:Nat)/\(cmL S2.ld (erK Kb V).1).1.mv=K.mv/\(cmL S2.ld (erK Kb V).1).1.nx=K.nx/\(cmL S2.ld (erK Kb V).1).1.s=(erK Kb V).1.s:=by
  have c0:(cmL S2.ld (erK Kb V).1).2=0:=by
   refine Classical.byContradiction fun e=>?_;have:cmK (erK Kb V).1 S2 0=cmL S2.ld (erK Kb V).1:=by
    unfold cmK;dsimp only;rw[AJ e]
   rw[this] at it;exact e it
  refine⟨c0,?_⟩;have C4:S2.ld=[⟨8*k2+0,a,K.vs a,(K.vc a+1) % 256,lo⟩,⟨8*k2+1,b,Ka.vs b,(Ka.vc b+1) % 256,G2⟩]:=lb;rw[C4,f5] at c0 ⊢;rw[cmL] at c0 ⊢;by_cases c1:(layK ({ Kb with s:=s',hR:=R',hN:=N' }:BH) ⟨8*k2+0,a,K.vs a,(K.vc a+1) % 256,lo⟩).2≠0
  ·rw[AJ c1] at c0;exact absurd c0 c1
  ·rw[AI c1] at c0 ⊢;rw[cmL] at c0 ⊢;have C5:AB.setC Kb.L ((a:Nat):Int) ((8*k2+0:Nat):Int)=0:=by
    have:(layK ({ Kb with s:=s',hR:=R',hN:=N' }:BH) ⟨8*k2+0,a,K.vs a,(K.vc a+1) % 256,lo⟩).2=0:=by simpa using c1
    exact this
   by_cases c2:(layK (layK ({ Kb with s:=s',hR:=R',hN:=N' }:BH) ⟨8*k2+0,a,K.vs a,(K.vc a+1) % 256,lo⟩).1 ⟨8*k2+1,b,Ka.vs b,(Ka.vc b+1) % 256,G2⟩).2≠0
   ·rw[AJ c2] at c0;exact absurd c0 c2
   ·rw[AI c2];rw[cmL];have x0:AB.setC (AB.setL Kb.L ((a:Nat):Int) ((8*k2+0:Nat):Int)) ((b:Nat):Int) ((8*k2+1:Nat):Int)=0:=by
     have:(layK (layK ({ Kb with s:=s',hR:=R',hN:=N' }:BH) ⟨8*k2+0,a,K.vs a,(K.vc a+1) % 256,lo⟩).1 ⟨8*k2+1,b,Ka.vs b,(Ka.vc b+1) % 256,G2⟩).2=0:=by simpa using c2
     exact this
    refine⟨?_,K',B',rfl⟩;show AB.setL (AB.setL Kb.L ((a:Nat):Int) ((8*k2+0:Nat):Int)) ((b:Nat):Int) ((8*k2+1:Nat):Int)=_;have e5:AB.setL Kb.L ((a:Nat):Int) ((8*k2+0:Nat):Int)=upd K.L a (8*k2:Nat):=by
     unfold AB.setL;rw[AJ C5,AP,hm];rfl
    rw[e5] at x0 ⊢;unfold AB.setL;rw[AJ x0,AP]
 have kd:(cmK (erK Kb V).1 S2 0).1.L=upd (upd K.L a (8*k2:Nat)) b (8*k2+1:Nat)/\(cmK (erK Kb V).1 S2 0).1.mv=wrap64 (K.mv+2)/\(cmK (erK Kb V).1 S2 0).1.fr=⟨true,k2,2⟩/\(cmK (erK Kb V).1 S2 0).1.nx=K.nx/\(cmK (erK Kb V).1 S2 0).1.s=(erK Kb V).1.s:=by
  obtain⟨l0,l1,l2,l3,l4⟩:=w4;have v':S2.tt=⟨true,k2,2⟩:=tb;have f4:S2.ld.length=2:=by rw[lb];rfl
  unfold cmK;dsimp only;rw[AI (by rw[l0];simp)];dsimp only;rw[v',f4,AJ rfl];generalize cmL S2.ld (erK Kb V).1=X at *
  obtain⟨F1,hj,e1⟩:=Iy X.1 (S2.fm:Nat);have e2:∀Y:BH,∃F2 oi,clK Y={ Y with F:=F2,fr:=oi }:=fun Y=>by
   unfold clK;split
   ·exact⟨_,_,rfl⟩
   ·exact⟨_,_,rfl⟩
  obtain⟨F2,oi,e2⟩:=e2 (stK (lvK X.1 (S2.fm:Nat)) (S2.fm:Nat) 0);rw[e2];unfold stK;rw[e1];exact⟨l1,by show wrap64 (X.1.mv+((2:Nat):Int))=_;rw[l2];rfl,rfl,l3,l4⟩
 rw[h2] at hv;dsimp only at hv;rw[ih] at kd;refine⟨(cmK (erK Kb V).1 S2 0).1,?_,by rw[kd.2.2.2.2];exact K3.2,kd.1,kd.2.1,kd.2.2.1,kd.2.2.2.1,hv⟩;unfold vaK;rw[AI (by rintro (e | e);exact h0 e;exact h3 e),AI (by rw[DJ h,hdd];simp)];have C3:movR n K (nwS V false false)=some ((cmK (erK Kb V).1 S2 0).1,S2,0):=by
  unfold movR moK;rw[AI (by show ¬ false=true;decide)];have oo:trK (PN n) (n+1) K (nwS V false false)=some ((cmK (erK Kb V).1 S2 0).1,S2,0):=by
   rw[trK,AI (by show ¬ PM K (V:Nat)=true;rw[Sf hV];simpa using h3)];dsimp only;rw[h2,it,AJ dc]
  rw[oo];dsimp only;rw[AI (by rintro ⟨_,e⟩;exact absurd e dc)]
 rw[C3];rfl
end
section
variable (A:Ad)(w:Wd)(K:BH)
theorem lr:∃tl:List Nat->Int->Pg,∀L n,ToldR L n (tl L n):=Classical.axiomOfChoice fun L=>Classical.axiomOfChoice fun n=>cq L n
theorem Eu(g:Nat)(w:Wd):(binOp .eql 25 (.pointer (some ⟨g,0,none⟩)) (.pointer none)).run prog w=.ok (.bool false) w:=kr
theorem Jz:Calls prog 10 #[] w fun e w'=>∃A K G,e=.returned (.tuple #[.pointer (some ⟨A.g,0,none⟩),.pointer (some ⟨A.c,0,none⟩)])/\Far A A.g w.heap.size/\w.heap.size<=A.g/\CoreAt A w' K/\je K G/\Chg No w w':=by
 obtain⟨tl,no⟩:=lr;obtain⟨K,G,La,hB,-⟩:=jf no 4;have HB:=BE hB;have ha:=BE La;have hv:=BE no;have qn:=JD;have p1:=da;have p2:=Eu;have q:=CA;have q0:∀w,(binOp .neq 46 (errV 0) .nilIface).run prog w=.ok (.bool false) w:=fun w=>q 0 w;have gq:=BQ;go_enter func10,ntmps10;go_wp2_with fail;refine(WQ w).mono ?_;rintro e w1 ⟨rfl,hc,G1⟩;have hx:=BE hc;have Go:=BE G1;go_wp2_with (refine AA.FK rfl rfl ?_);refine(db w.heap.size newS Su tl hv w1 hx).mono ?_;rintro e w2 ⟨A,hF,rfl,hK,G2⟩;have ar:=BE hK;have eg:A.g=w.heap.size:=hF.1;have HF:Hid (Far A A.g w.heap.size):=by
  obtain⟨f0,f1,f2,f3,f4,f5,f6,f7,f8,f9⟩:=hF;have:=Go.out.size;exact⟨rfl,om,om,om,om,om,om,om,om,om⟩
 have h6:Hid (Chg No w w2):=Go.out.trans' G2 (fun k hk e=>om);have it:=BE eg;go_wp2_with fail;refine(cx A w2 _ ar 6 (K,0) ha).mono ?_;rintro e w3 ⟨rfl,kd,G3⟩;have h0:=BE kd;have hg:Hid (Chg No w w3):=h6.out.trans' G3 (fun k hk e=>by
  obtain⟨f0,f1,f2,f3,f4,f5,f6,f7,f8,f9⟩:=HF.out
  have:=it.out
  rcases e with e | e | e | e | e | e | e | e <;> omega)
 go_wp2;go_ret2;refine⟨A,K,G,?_,HF.out,by rw[it.out];exact AM _,h0.out,HB.out,hg⟩;rw[it.out];rfl
theorem CoreAt.far2{A:Ad}{w w':Wd}{K:BH}(h:CoreAt A w K){b:Nat}(hc:Chg (·=b) w w')(hb:Ty w b 31):CoreAt A w' K:=by
 obtain⟨t0,t1,t2,t3,t4,t5,t6,t7,t8,t9⟩:=h.tys;obtain⟨f1,f2,f3,f4,f5,f6,f7⟩:=h.frame hc;exact⟨f1 (t0.ne hb dc),f2 (t1.ne hb dc) (t3.ne hb dc) (t4.ne hb dc) (t5.ne hb dc),f3 (t2.ne hb dc),f4 (t6.ne hb dc),f5 (t7.ne hb dc),f6 (t8.ne hb dc),f7 (t9.ne hb dc),h.wf⟩
theorem JE:(binOp .eql 46 .nilIface .nilIface).run prog w=.ok (.bool true) w:=kr
theorem RX(n:Int):(binOp .eql 46 (.iface 57 (.int .i64 n)) .nilIface).run prog w=.ok (.bool false) w:=kr
theorem NZ:(binOp .eql 46 (.iface 57 (.int .i64 14)) (.iface 57 (.int .i64 14))).run prog w=.ok (.bool true) w:=kr
theorem Ev(h:CoreAt A w K)(c:Nat)(hc:c=0\/c=14/\2<bad3 K.F):Calls prog 37 #[errV c,.pointer (some ⟨A.c,0,none⟩)] w fun e w'=>e=.returned (.bool true)/\CoreAt A w' K/\Chg No w w':=by
 have HK:=BE h;rcases hc with rfl | ⟨rfl,h2⟩
 ·show Calls prog 37 #[.nilIface,.pointer (some ⟨A.c,0,none⟩)] w _;have q:=JE;go_enter func37,ntmps37;go_wp2;go_ret;exact⟨rfl,HK.out,Chg.refl _ w⟩
 ·show Calls prog 37 #[.iface 57 (.int .i64 14),.pointer (some ⟨A.c,0,none⟩)] w _;have q:=RX;have hv:=NZ;have kd:(2:Int)<((bdN (vwF K) 12:Nat):Int):=by rw[JB];omega
  go_enter func37,ntmps37;go_wp2_with fail;refine(EW A w K HK).mono ?_;rintro e w1 ⟨rfl,Go,G1⟩;have no:=BE Go;have ar:=BE G1;generalize vwF K=V at *
  go_wp2_with fail;refine(JC V w1).mono ?_;rintro e w2 ⟨rfl,G2⟩;have La:=BE (no.out.chg0 G2);have it:=BE (ar.out.trans G2);generalize bdN V 12=b at *
  go_wp2;go_ret;exact⟨rfl,La.out,it⟩
theorem lu(h:CoreAt A w K)(ar:Nat)(La:Nat->Int)(hI:IB w ar 31 24 La)(nar:¬ Cor A ar)(of:Nat)(ho:of<24)(x:Int)(h1 : -9223372036854775808<=x)(h2:x<=9223372036854775807)(n:Nat)(Z:BH × Nat)(hZ:anR n (fun _ _=>JA (numN x:Nat) ++ List.replicate 14 0) K of=some Z)(hc:Z.2=0\/Z.2=14/\2<bad3 Z.1.F)(Lb:Nat->Int)(hb0:Z.2=0->Lb=upd La of (numN x:Nat))(hb1:Z.2≠0->Lb=La) :Calls prog 36 #[.pointer (some ⟨A.c,0,none⟩),.pointer (some ⟨ar,0,none⟩),.int .i64 of,.int .i64 x] w fun e w'=>e=.returned (.bool true)/\CoreAt A w' Z.1/\IB w' ar 31 24 Lb/\Chg (fun k=>Cor A k\/k=ar) w w':=by
 have HK:=BE h;have HI:=BE hI;have f6:=BE nar;have it:=U5 x h1 h2;have HZ:=BE hZ;have HC:=BE hc;have HO:=BE ho;have f7:=BE hb0;have f5:=BE hb1;have x1:(of:Int)<24:=om
 have f2:(0:Int)<=of:=om
 generalize numN x=N at *
 go_enter func36,ntmps36;go_wp2_with (go_at_call 79;refine(it _).mono ?_;rintro e w ⟨rfl,rfl⟩);refine(Jy (N:Nat) w).mono ?_;rintro e w1 ⟨rfl,wr,G1⟩;have B':=BE (HK.out.chg0 G1);have t7:=BE (HI.out.chg G1 (fun f=>f));have f4:=BE wr;have hi:Hid (¬ Cor A w.heap.size):=HK.out.apart (AM _);have f3:Hid (Chg (fun k=>Cor A k\/k=ar) w w1):=G1.mono (fun _ _ f=>f.elim);have f9:=fM A w1 K B' of HO w.heap.size 0 160 (JA (N:Nat)) (CR _) (GP _) (f4.out.at_) hi n Z HZ;go_wp2_with fail;refine f9.mono ?_;rintro e w2 ⟨rfl,p2,G2⟩;have hx:=BE p2;have no:=BE (t7.out.chg G2 f6);have hg:Hid (Chg (fun k=>Cor A k\/k=ar) w w2):=f3.out.trans (G2.mono (fun _ _ f=>AK f));rcases HC with h0 | ⟨h6,hb⟩
 ·have kd:=BE h0;rw[h0,show errV 0=Value.nilIface from rfl];have q:=JE;obtain⟨oa,x0⟩:=no.out.cell of HO;have f1:=BE (no.out.set of (N:Nat));have G3:Chg (·=ar) w2 (w2.setCell ⟨ar,of,none⟩ (.int .i64 (N:Nat))):=(Chg.refl (·=ar) w2).setCell (AK rfl) _ _;have qa:=BE (hx.out.far2 G3 no.out.ty);have f8:Hid (Chg (fun k=>Cor A k\/k=ar) w (w2.setCell ⟨ar,of,none⟩ (.int .i64 (N:Nat)))):=hg.out.trans (G3.mono (fun _ _ f=>AL f));go_wp2_with fail
  go_region_with (go_at_call 79;refine(it _).mono ?_;rintro e w3 ⟨rfl,rfl⟩)
  all_goals
   go_wp2_with fail;refine(Ev A _ Z.1 (qa.out.drewN 1) 0 (AK rfl)).mono ?_;rintro e w4 ⟨rfl,hk,G4⟩;have hv:=BE hk;have ha:=BE ((f1.out.drewN 1).chg G4 (fun f=>f));have Go:=BE ((f8.out.drewN 1).trans (G4.mono (T:=fun k=>Cor A k\/k=ar) (fun _ _ f=>f.elim)));go_wp2;go_ret;refine⟨rfl,hv.out,?_,Go⟩;rw[f7.out kd.out];exact ha
 ·have kd:=BE h6;rw[h6,show errV 14=Value.iface 57 (.int .i64 14) from rfl];have q:=RX;go_wp2_with fail;refine(Ev A w2 Z.1 hx 14 (AL ⟨rfl,hb⟩)).mono ?_;rintro e w4 ⟨rfl,hk,G4⟩;have hv:=BE hk;have ha:=BE (no.out.chg G4 (fun f=>f));have Go:=BE (hg.out.trans (G4.mono (T:=fun k=>Cor A k\/k=ar) (fun _ _ f=>f.elim)));go_wp2;go_ret;refine⟨rfl,hv.out,?_,Go⟩;rw[f5.out (by rw[kd.out];decide)];exact ha
theorem ZP(h:CoreAt A w K)(ar:Nat)(La:Nat->Int)(hI:IB w ar 31 24 La)(nar:¬ Cor A ar)(of:Nat)(ho:of<24)(K':BH)(hg:geK K of=(K',JA (La of),0)) :Calls prog 14 #[.pointer (some ⟨A.c,0,none⟩),.pointer (some ⟨ar,0,none⟩),.int .i64 of] w fun e w'=>e=.returned (.bool true)/\CoreAt A w' K'/\Chg (Cor A) w w':=by
 have HI:=BE hI;have f6:=BE nar;have G3:(of:Int)<24:=om
 have f1:(0:Int)<=of:=om
 have HO:=BE ho;have hv:=fN A w K h of ho;rw[hg] at hv;dsimp only at hv;rw[show errV 0=Value.nilIface from rfl] at hv;have q:=JE;generalize f5:La of=y at *
 have B':=BE f5;have hk:=CR y;have kd:=GP y;have it:=BE hk;have no:=BE kd;go_enter func14,ntmps14;go_wp2_with fail;refine hv.mono ?_;rintro e w1 ⟨v,rfl,O1,h2,G1⟩;obtain⟨gv,cv,rfl,f8,h0,f9,p2,-⟩:=O1.lies (by rw[it.out];decide);have h1:=BE h2;have f7:=BE (HI.out.chg G1 f6);have f2:=BE G1;have hx:Hid (At w1 gv 0 (JA y)):=⟨h0,fun i hi=>by rw[AW];exact p2 i hi⟩;obtain⟨hc,-⟩:=f7.out.cell of HO;rw[B'.out] at hc;rw[it.out];go_wp2_with fail;refine(Jy y w1).mono ?_;rintro e w2 ⟨rfl,f4,G2⟩;have wr:=BE (h1.out.chg0 G2);have f3:=BE (f2.out.trans (Chg.cor0 (A:=A) G2));have ha:Hid (At w2 gv 0 (JA y)):=⟨Aj hx.out.1 G2.size,fun i hi=>(G2.cell hx.out.1 (fun f=>f) (0+i)).trans (hx.out.2 i hi)⟩;have h6:=ZB w2 gv 0 160 cv w1.heap.size 0 160 160 (JA y) (JA y) it.out.symm it.out.symm no no ha f4.at_;rw[AO rfl] at h6;go_wp2_with fail;refine h6.mono ?_;rintro e w3 ⟨rfl,rfl⟩;go_wp2;go_ret;exact⟨rfl,wr.out,f3⟩
end
section
variable {s:BM}{n b:Nat}{Z:BH × Nat}{te:Kz}{mo:It}(K:BH)
def Pw (s:BM):Prop:=s.on=true/\s.lim=false
theorem ZQ(h:Pw s)(a k:Int)(l:List Nat):Pw (Bz s a k l).1:=by
 unfold Bz;split
 ·exact h
 ·rw[AI (by rw[h.1];decide)];split
  ·exact h
  ·rw[AI (by rw[h.2];simp)];split <;> exact h
theorem ZR(h:Pw s)(b:Int):Pw (eraseR s b).1:=by
 unfold eraseR;split
 ·exact h
 ·rw[AI (by rw[h.1];decide),AI (by rw[h.2];simp)];split <;> exact h
theorem jt(h:Pw s)(a:Int)(W:Nat->List Nat):∀n,Pw (wrN s a W n).1:=by
 intro n
 induction n with
 | zero=>exact h
 | succ n ih=>
  rw[wrN];split
  ·exact ZQ ih _ _ _
  ·exact ih
theorem ZS(h:Pw s)(a:Int):Pw (readV s a).1:=by
 unfold readV;split
 ·exact h
 ·split <;> exact h
theorem ZT(tl:List Nat->Int->Pg)(h:Pw s)(r a:Int):Pw (rdF tl s r a).1:=by
 have:=ZS h a;unfold rdF;split <;> exact this
theorem ju(tl:List Nat->Int->Pg)(h:Pw s)(r:Int)(t:CP)(D:List Nat):Pw (prF tl s r t D).1:=by
 unfold prF;have h1:=jt h t.p (wordOf D (body t.p t.o t.q t.c t.l)) 4;generalize wrN s t.p (wordOf D (body t.p t.o t.q t.c t.l)) 4=X at *
 dsimp only;have h2:=ZT tl h1 r t.p;generalize rdF tl X.1 r t.p=Y at *
 split
 ·exact h1
 ·split <;> exact h2
theorem ZU(p:Nat)(h:Pw K.s):Pw (rdK K p).1.s:=by
 have:=ZT K.tl h K.r p;unfold rdK;dsimp only;generalize rdF K.tl K.s K.r p=X at *
 split <;> exact this
theorem ZV(t:CP)(D:List Nat)(h:Pw K.s):Pw (prK K t D).1.s:=by
 have:=ju K.tl h K.r t D;unfold prK;dsimp only;exact this
theorem jv(t:CP)(D:List Nat)(h:Pw K.s):Pw (prM K t D).1.s:=by
 unfold prM;split
 ·exact h
 ·exact ZV K t D h
theorem jw(b:Nat)(h:Pw K.s):Pw (erK K b).1.s:=by
 have:=ZR h b;unfold erK;dsimp only;generalize eraseR K.s b=X at *
 split <;> exact this
theorem Sz:(clK K).s=K.s:=by
 unfold clK;split <;> rfl
theorem S7(b:Int):(lvK K b).s=K.s:=by
 unfold lvK;split
 ·exact Sz K
 ·rfl
theorem ZW(b s:Int):(stK K b s).s=K.s:=by
 unfold stK;dsimp only
theorem fT(b:Int):(spK K b).s=K.s:=by
 unfold spK;dsimp only;rw[ZW,S7]
theorem fU:(opK K).1.s=K.s:=by
 unfold opK;split <;> rfl
theorem RY(t:CP):(layK K t).1.s=K.s:=by
 unfold layK;dsimp only
theorem lw:(sqK K).s=K.s:=by
 unfold sqK;dsimp only
theorem ZX(H:GS)(K:BH)(p o:Nat)(h:Pw K.s):Pw (frK H K p o).1.s:=by
 unfold frK;by_cases hs:K.sp=true
 ·rw[AJ hs];exact h
 ·rw[AI hs];dsimp only;have h1:=ZV (sqK K) ⟨p,o,K.nx,0,false⟩ (H (sqK K) K.nx) (by rw[lw];exact h);generalize prK (sqK K) ⟨p,o,K.nx,0,false⟩ (H (sqK K) K.nx)=x at *
  by_cases c:x.2≠0
  ·rw[AJ c];exact h1
  ·rw[AI c];by_cases d:o=24
   ·rw[AJ d];exact h1
   ·rw[AI d];exact h1
theorem fV(S:Bm)(o:Nat):(tiK K S o).1.s=K.s:=by
 unfold tiK;split
 ·rfl
 ·split <;> rfl
theorem jx(o:Nat)(h:Pw K.s):Pw (coK K o).1.s:=by
 have h1:=ZU K (K.L o).toNat h;unfold coK;split
 ·exact h
 ·dsimp only;generalize rdK K (K.L o).toNat=X at *
  split
  ·exact h1
  ·split
   ·exact h1
   ·split <;> exact h1
theorem jy(bd:Bool):∀(l:List Nat) (K:BH) (S:Bm),Pw K.s->Pw (cpK bd l K S).1.s:=by
 intro l
 induction l with
 | nil=>intro K S h;exact h
 | cons o l ih=>
  intro K S h;unfold cpK;split
  ·exact ih K S h
  ·dsimp only;have h1:=jx K o h;generalize coK K o=c at *
   have h2:Pw (tiK c.1 S o).1.s:=(by rw[fV];exact h1);generalize tiK c.1 S o=t at *
   have h3:=jv t.1 ⟨t.2.2.1,o,t.1.vs o,(t.1.vc o+1) % 256,c.2.2.1⟩ c.2.1 h2;generalize prM t.1 ⟨t.2.2.1,o,t.1.vs o,(t.1.vc o+1) % 256,c.2.2.1⟩ c.2.1=p at *
   split
   ·exact h1
   ·split
    ·exact h2
    ·split
     ·exact h3
     ·exact ih _ _ h3
theorem fW:∀(l:List CP) (K:BH),(cmL l K).1.s=K.s:=by
 intro l
 induction l with
 | nil=>intro K;rfl
 | cons t l ih=>
  intro K;unfold cmL;split
  ·exact RY _ _
  ·exact(ih _).trans (RY _ _)
theorem fX(S:Bm)(st:Int):(cmK K S st).1.s=K.s:=by
 unfold cmK;dsimp only;by_cases c:(cmL S.ld K).2≠0
 ·rw[AJ c];exact fW _ _
 ·rw[AI c];have h1:(stK (lvK (cmL S.ld K).1 S.fm) S.fm st).s=K.s:=by rw[ZW,S7,fW]
  generalize stK (lvK (cmL S.ld K).1 S.fm) S.fm st=K1 at *
  by_cases d:S.tt.o=true
  ·rw[AJ d];dsimp only;rw[ZW];exact(Sz K1).trans h1
  ·rw[AI d];exact h1
theorem ZY(S:Bm)(h:Pw K.s):Pw (cbK K S).1.s:=by
 unfold cbK;dsimp only;have h1:Pw (tiK K S 24).1.s:=by rw[fV];exact h
 generalize tiK K S 24=t at *
 have h2:=ZX (bdH S.fm) t.1 t.2.2.1 24 h1;generalize frK (bdH S.fm) t.1 t.2.2.1 24=f at *
 split
 ·exact h1
 ·split
  ·exact h2
  ·rw[fX];exact h2
theorem jz(S:Bm)(h:Pw K.s):Pw (tyK K S).1.s:=by
 unfold tyK;dsimp only;have hx:=jy (S.fd || (S.rt && bearK K)) ((AB.ofL K.L S.fm).map Int.toNat) K { S with tt:=noF,ld:=[] } h;generalize cpK (S.fd || (S.rt && bearK K)) ((AB.ofL K.L S.fm).map Int.toNat) K { S with tt:=noF,ld:=[] }=x at *
 have he:=jw x.1 S.fm hx;have hb:=ZY x.1 x.2.1 hx;generalize erK x.1 S.fm=y at *
 have hc:Pw (cmK y.1 x.2.1 0).1.s:=by rw[fX];exact he
 have hl:Pw (lvK y.1 S.fm).s:=by rw[S7];exact he
 generalize cmK y.1 x.2.1 0=c at *
 generalize lvK y.1 S.fm=u at *
 have hd:=ZY u { x.2.1 with fd:=true } hl;generalize cbK u { x.2.1 with fd:=true }=v at *
 generalize cbK x.1 x.2.1=v2 at *
 split
 ·exact h
 ·split
  ·exact hx
  ·split
   ·exact hb
   ·split
    ·exact hc
    ·split
     ·exact he
     ·split
      ·exact hl
      ·exact hd
def eA (te:Kz):Prop:=∀K Z,te K=some Z->Pw K.s->Pw Z.1.s
def MovP (mo:It):Prop:=∀K S Z,mo K S=some Z->Pw K.s->Pw Z.1.s
theorem ZZ{an:Kz}(h:eA an):eA (SV an):=by
 intro K Z e hp;unfold SV at e;have h1:Pw (opK (clK K)).1.s:=by rw[fU,Sz];exact hp
 split at e
 ·cases e;exact hp
 ·split at e
  ·exact h _ _ e hp
  ·split at e
   ·cases e
    exact h1
   ·exact h _ _ e h1
theorem j7(h:eA te):∀n,MovP (trK te n):=by
 intro n
 induction n with
 | zero=>intro K S Z e;cases e
 | succ n ih=>
  intro K S Z e hp;unfold trK at e;have ht:=jz K S hp;split at e
  ·cases e;exact hp
  ·dsimp only at e;generalize tyK K S=x at *
   split at e
   ·cases e;exact ht
   ·cases hy:te (spK x.1 (AC.blV x.2.1.tt)) with
    | none=>rw[hy] at e;cases e
    | some y=>
     rw[hy] at e;dsimp only at e;have h1:=h _ _ hy (by rw[fT];exact ht);split at e
     ·cases e;exact h1
     ·exact ih _ _ _ e h1
theorem Za(h:eA te)(n:Nat):MovP (moK te n):=by
 intro K S Z e hp;unfold moK at e;cases hy:trK te n (if S.fd then lvK K S.fm else K) S with
 | none=>rw[hy] at e;cases e
 | some x=>
  rw[hy] at e;dsimp only at e;have h1:Pw x.1.s:=j7 h n _ _ _ hy (by
   split
   ·
    rw[S7];exact hp
   ·
    exact hp)
  split at e
  ·cases e
   show Pw (spK x.1 x.2.1.fm).s;rw[fT];exact h1
  ·cases e;exact h1
theorem j8(h:MovP mo):∀n K o Z,mrK mo n K o=some Z->Pw K.s->Pw Z.1.s:=by
 intro n
 induction n with
 | zero=>intro K o Z e;cases e
 | succ n ih=>
  intro K o Z e hp;unfold mrK at e;have h0:Pw (clK K).s:=by rw[Sz];exact hp
  split at e
  ·cases e;exact hp
  ·dsimp only at e;generalize clK K=K1 at *
   have h1:Pw (opK K1).1.s:=(by rw[fU];exact h0);split at e
   ·split at e
    ·cases e
     exact h1
    ·exact ih _ _ _ e h1
   ·split at e
    ·cases e
     exact h0
    ·cases hy:mo K1 (nwS (AH.chV 12 12 K1.F (lvF K1)) false false) with
     | none=>rw[hy] at e;cases e
     | some y=>
      rw[hy] at e;dsimp only at e;have h2:=h _ _ _ hy h0;split at e
      ·cases e;exact h2
      ·exact ih _ _ _ e h2
theorem j9{mr:BH->Nat->Option (BH × Nat)}(hr:∀K o Z,mr K o=some Z->Pw K.s->Pw Z.1.s)(h:MovP mo)(H:GS):∀n K o Z,anK mr mo H n K o=some Z->Pw K.s->Pw Z.1.s:=by
 intro n
 induction n with
 | zero=>intro K o Z e;cases e
 | succ n ih=>
  intro K o Z e hp;unfold anK at e;split at e
  ·cases e;exact hp
  ·cases hx:mr K o with
   | none=>rw[hx] at e;cases e
   | some x=>
    rw[hx] at e;dsimp only at e;have h1:=hr _ _ _ hx hp;split at e
    ·cases e;exact h1
    ·split at e
     ·cases e;exact h1
     ·have h2:=ZX H { x.1 with fr:=AC.tkS x.1.fr o } (AC.nxV x.1.fr o).toNat o h1;generalize frK H { x.1 with fr:=AC.tkS x.1.fr o } (AC.nxV x.1.fr o).toNat o=f at *
      split at e
      ·cases e
       rw[RY];exact h2
      ·split at e
       ·cases e;exact h2
       ·cases hy:mo f.1 (nwS (AC.blV f.1.fr).toNat false true) with
        | none=>rw[hy] at e;cases e
        | some y=>
         rw[hy] at e;dsimp only at e;have h4:=h _ _ _ hy h2;split at e
         ·cases e;exact h4
         ·exact ih _ _ _ e h4
theorem LP:∀n H K o Z,anR n H K o=some Z->Pw K.s->Pw Z.1.s:=by
 intro n
 induction n with
 | zero=>intro H K o Z e;cases e
 | succ n ih=>
  intro H K o Z e;have hm:MovP (moK (SV fun K=>anR n noH K 24) (n+1)):=Za (ZZ fun _ _ e=>ih _ _ _ _ e) _;exact j9 (mr:=mrK (moK (SV fun K=>anR n noH K 24) (n+1)) (n+1)) (fun K o Z e=>j8 hm _ _ _ _ e) hm H (n+1) K o Z e
theorem TA(n:Nat):MovP (movR n):=Za (ZZ fun _ _ e=>LP n _ _ _ _ e) _
theorem kA{K:BH}{o:Nat}(e:tmK n K o=some Z)(hp:Pw K.s):Pw Z.1.s:=by
 unfold tmK at e;split at e
 ·cases e;exact hp
 ·cases hy:anR n (tmH o (K.vs o:Nat)) K 24 with
  | none=>rw[hy] at e;cases e
  | some y=>
   rw[hy] at e;dsimp only at e;have h1:=LP _ _ _ _ _ hy hp;split at e
   ·cases e;exact h1
   ·cases e;exact h1
theorem kC{K:BH}{rt:Bool}(e:vaK n K b rt=some Z)(hp:Pw K.s):Pw Z.1.s:=by
 unfold vaK at e;split at e
 ·cases e;exact hp
 ·split at e
  ·cases e;exact hp
  ·cases hy:movR n K (nwS b rt false) with
   | none=>rw[hy] at e;cases e
   | some y=>
    rw[hy] at e;cases e
    exact TA n _ _ _ hy hp
theorem RZ(p:Nat)(h:Pw K.s):Pw (inK K p).1.s:=by
 have h1:=ZU K p h;unfold inK;dsimp only;generalize rdK K p=X at *
 split
 ·exact h1
 ·split
  ·exact h1
  ·split <;> exact h1
theorem kD(o:Nat)(h:Pw K.s):Pw (geK K o).1.s:=by
 have h1:=RZ K (K.L o).toNat h;unfold geK;split
 ·exact h
 ·dsimp only;generalize inK K (K.L o).toNat=X at *
  split
  ·exact h1
  ·split <;> exact h1
theorem kE(c:Nat):∀(n i:Nat) (K:BH),Pw K.s->Pw (tdI c n i K).1.s:=by
 intro n
 induction n with
 | zero=>intro i K h;exact h
 | succ n ih=>
  intro i K h;rw[tdI];split
  ·exact RZ _ _ h
  ·exact ih _ _ (RZ _ _ h)
theorem kG{K:BH}(e:rfK n K b=some Z)(hp:Pw K.s):Pw Z.1.s:=by
 unfold rfK at e;split at e
 ·cases e;exact hp
 ·cases hy:movR n K (nwS b (AG.much 3 K.hS (b:Nat)) false) with
  | none=>rw[hy] at e;cases e
  | some y=>
   rw[hy] at e;dsimp only at e;have h1:=TA n _ _ _ hy hp;split at e
   ·cases e;exact h1
   ·cases e;exact h1
theorem kH(m:Nat):∀(n:Nat) (K:BH) (Z:BH × Nat),raK m n K=some Z->Pw K.s->Pw Z.1.s:=by
 intro n
 induction n with
 | zero=>intro K Z e;cases e
 | succ n ih=>
  intro K Z e hp;rw[raK] at e;split at e
  ·cases e;exact hp
  ·split at e
   ·cases e;exact hp
   ·rename_i b r _;cases hy:rfK m { K with qu:=r } b.toNat with
    | none=>rw[hy] at e;cases e
    | some y=>
     rw[hy] at e;dsimp only at e;have h1:=kG hy hp;split at e
     ·cases e;exact h1
     ·exact ih _ _ e h1
theorem kI{m:Nat}{K:BH}(e:tdK n m K=some Z)(hp:Pw K.s):Pw Z.1.s:=by
 unfold tdK at e;have h0:=kE K.cu 8 0 { K with cu:=(K.cu+8) % 96,ca:=K.ca+1 } hp;generalize tdI K.cu 8 0 { K with cu:=(K.cu+8) % 96,ca:=K.ca+1 }=X at *
 unfold YQ at e;split at e
 ·cases e;exact h0
 ·cases hy:raK n m (awK X.1) with
  | none=>rw[hy] at e;cases e
  | some y=>
   rw[hy] at e;dsimp only at e;have h1:Pw y.1.s:=kH _ _ _ _ hy h0;split at e
   ·cases e;exact h1
   ·split at e
    ·cases hz:anR n noH y.1 24 with
     | none=>rw[hz] at e;cases e
     | some z=>
      rw[hz] at e;cases e
      have h9:=LP _ _ _ _ _ hz h1;exact h9
    ·cases e;exact h1
theorem Pw.not(h:Pw s):¬ s.on=false:=by rw[h.1];decide
end
section
variable {K K':BH}{B o W:Nat}{G:Bk}{La:Nat->Int}
def wW:Nat:=8+12*wM 0+2*((5+3)*wM 0)
theorem lz:wW=358408:=dc
def kJ (x:Int):List Nat:=JA x ++ List.replicate 14 0
theorem LQ(x:Int):(kJ x).length=174:=by unfold kJ;rw[AV,CR,length_replicate]
theorem TB(x:Int):Bys (kJ x):=fun n hn=>(mem_append.1 hn).elim (GP x n) (fun h=>by rw[(mem_replicate.1 h).2];decide)
theorem Zb(x:Int):(kJ x).take 160=JA x:=by
 unfold kJ;rw[take_append_of_le_length (by rw[CR];exact AM _),As (by rw[CR];exact AM _)]
theorem Ps:kJ 0=List.replicate 174 0:=dc
structure Lnv (B:Nat) (K:BH) (G:Bk) (La:Nat->Int):Prop where
 iv:Ivk K G
 pw:Pw K.s
 l24:K.L 24≠-1
 a:∀o,o<24->G.a o=kJ (La o)
 z:∀o,¬ G.z o
 nx:K.nx<=2+B+8*bad3 K.F
 ca:K.ca<=B
 rd:Rdn (1+B*wW) K
 c8:bad3 K.F<=2->K.ca<8
theorem Lnv.sq(h:Lnv B K G La)(hB:B<1073741824):Sq 1 K:=by
 have:=h.nx;unfold Sq IE;omega
theorem LR(hr:RdB W K K')(h:Rdn (1+B*wW) K)(hW:W<=wW)(hB:B<1073741824):Rdn (1+(B+1)*wW) K':=by
 have e:=lz;have h1:=hr (1+B*wW) (by rw[e];rw[e] at hW;omega) h;refine h1.mono ?_;rw[e];rw[e] at hW;omega
theorem VC:2*((5+3)*wM 0)<=wW:=dc
theorem Zc:wM 0<=wW:=dc
theorem Lnv.str{d:Nat}{G':Bk}(h:Lnv B K G La)(hB:B<1073741824)(st:Str d K K' G G')(rd:RdB W K K')(hW:W<=wW)(iv:Ivk K' G')(pw:Pw K'.s)(nx:K'.nx<=K.nx+1+8*d)(ca:K'.ca<=K.ca+1)(c8:K'.ca<=K.ca\/(bad3 K'.F<=2->K'.ca<8)):Lnv (B+1) K' G' La:=by
 have h1:=h.nx;have h2:=h.ca;have h3:=st.bd;exact⟨iv,pw,st.l24 h.l24,fun o ho=>by rw[st.a];exact h.a o ho,fun o=>by rw[st.z];exact h.z o,om,om,LR rd h.rd hW hB,fun hb=>c8.elim (fun e=>by have:=h.c8 om;omega) (fun f=>f hb)⟩
theorem TC{α:Type}(a:Nat->α){x:Nat}(D:α)(h:x≠o):ET a o D x=a x:=by unfold ET;rw[AI h]
theorem TD(h:Lnv B K G La)(hB:B<1073741824)(ho:o<24)(x:Int) :∃Z,anR 6 (fun _ _=>JA x ++ List.replicate 14 0) K o=some Z/\(Z.2=0\/Z.2=14/\2<bad3 Z.1.F)/\∃G' Lb,Lnv (B+1) Z.1 G' Lb/\(Z.2=0->Lb=upd La o x)/\(Z.2≠0->Lb=La)/\(bad3 K.F<=2->Z.2=0\/bad3 K.F<bad3 Z.1.F):=by
 obtain⟨Z,e,no,hz⟩:=dQ (n:=5) dc h.iv h.l24 (h.sq hB) ho (LQ x) (TB x);have it:=LP _ _ _ _ _ e h.pw;refine⟨Z,e,?_⟩;rcases hz with ⟨c,G',d,iv,ga,gz,rd,q1,q2,q3,q4,q5,q6,q7,q8⟩ | ⟨G',d,st,rd,q⟩
 ·have n1:=h.nx;have n2:=h.ca;refine⟨AK c,G',upd La o x,⟨iv,it,q1,fun i hi=>?_,fun i=>by rw[gz];exact fun k=>h.z i k.2,om,om,LR rd h.rd VC hB,fun hb=>by have:=h.c8 om;omega⟩,fun _=>rfl,fun k=>absurd c k,fun _=>AK c⟩;rw[ga];by_cases ei:i=o
  ·rw[ei,Sd,Bb]
  ·rw[TC _ _ ei,BT _ _ ei];exact h.a i hi
 ·rcases q with ⟨c,iv,dd,nx⟩ | ⟨_,off,_⟩
  ·have hb:2<bad3 Z.1.F:=by
    obtain⟨_,X,hs,_⟩:=iv;exact hs.dds.1 dd
   exact⟨AL ⟨c,hb⟩,G',La,h.str hB st rd VC iv it nx om (AK om),fun k=>(by rw[c] at k;cases k),fun _=>rfl,fun _=>AL om⟩
  ·exact absurd off it.not
theorem Na(h:Lnv B K G La)(hB:B<1073741824)(ho:o<24) :∃K',geK K o=(K',JA (La o),0)/\Lnv (B+1) K' G La/\Eqv K K':=by
 obtain⟨K',iv,a,tl,rd,hg⟩:=dP h.iv ho;rcases hg with hg | ⟨hz,_⟩
 ·have it:=kD K o h.pw;rw[hg] at it;rw[h.a o ho,Zb] at hg;refine⟨K',hg,h.str hB (a.str tl G) rd dc iv it ?_ ?_ (AK ?_),a⟩
  ·rw[a.nx];omega
  ·rw[a.ca];omega
  ·rw[a.ca];exact AM _
 ·exact absurd hz (h.z o)
theorem Pt(h:Lnv B K G La)(hB:B<1073741824)(ho:o<24) :∃Z,tmK 6 K o=some Z/\(Z.2=0\/Z.2=14/\2<bad3 Z.1.F)/\∃G' Lb,Lnv (B+1) Z.1 G' Lb/\(Z.2=0->Lb=upd La o 0)/\(Z.2≠0->Lb=La):=by
 obtain⟨Z,e,no,hz⟩:=dS (n:=5) dc h.iv h.l24 (h.sq hB) ho;have it:=kA e h.pw;refine⟨Z,e,?_⟩;rcases hz with ⟨c,G',d,iv,ga,gz,rd,q1,q2,q3,q4,q7,q8⟩ | ⟨G',d,st,rd,q⟩
 ·have n1:=h.nx;have n2:=h.ca;refine⟨AK c,G',upd La o 0,⟨iv,it,q1,fun i hi=>?_,fun i k=>h.z i (gz i k),om,om,LR rd h.rd VC hB,fun hb=>by have:=h.c8 om;omega⟩,fun _=>rfl,fun k=>absurd c k⟩;rw[ga];by_cases ei:i=o
  ·rw[ei,Sd,Bb,Ps]
  ·rw[TC _ _ ei,BT _ _ ei];exact h.a i hi
 ·rcases q with ⟨c,iv,dd,nx⟩ | ⟨_,off,_⟩
  ·have hb:2<bad3 Z.1.F:=by
    obtain⟨_,X,hs,_⟩:=iv;exact hs.dds.1 dd
   exact⟨AL ⟨c,hb⟩,G',La,h.str hB st rd VC iv it nx om (AK om),fun k=>(by rw[c] at k;cases k),fun _=>rfl⟩
  ·exact absurd off it.not
theorem Zd(h:Lnv B K G La)(hB:B<1073741824) :∃Z,anR 6 noH K 24=some Z/\(Z.2=0\/Z.2=14/\2<bad3 Z.1.F)/\∃G',Lnv (B+1) Z.1 G' La:=by
 obtain⟨Z,e,no,G',d,st,rd,q⟩:=dR (n:=5) dc h.iv (h.sq hB);have it:=LP _ _ _ _ _ e h.pw;refine⟨Z,e,?_⟩;rcases q with ⟨c,iv,dd,nx⟩ | ⟨c,iv,dd,nx⟩ | ⟨_,off,_⟩
 ·exact⟨AK c,G',h.str hB st rd VC iv it nx om (AK om)⟩
 ·have hb:2<bad3 Z.1.F:=by
   obtain⟨_,X,hs,_⟩:=iv;exact hs.dds.1 dd
  exact⟨AL ⟨c,hb⟩,G',h.str hB st rd VC iv it nx om (AK om)⟩
 ·exact absurd off it.not
theorem TE(h:Lnv B K G La)(hB:B<1073741824){b:Nat}(hb:b<12)(rt:Bool) :∃Z,vaK 6 K b rt=some Z/\(∃G',Lnv (B+1) Z.1 G' La) /\(((K.F b=0\/K.F b=3)/\Z=(K,12))\/(K.F b≠0/\K.F b≠3/\(2<bad3 K.F\/(rt=true/\bad3 K.F=2))/\Z=(K,14)) \/(K.F b≠0/\K.F b≠3/\¬ (2<bad3 K.F\/(rt=true/\bad3 K.F=2))/\((Z.2=0/\(Z.1.F b=0\/Z.1.F b=3)/\∀o,o<25->Z.1.L o≠-1->(Z.1.L o).toNat / 8≠b)\/(Z.2=14/\2<bad3 Z.1.F)))):=by
 obtain⟨Z,e,no,hz⟩:=dT (n:=6) dc h.iv (h.sq hB) hb rt;have it:=kC e h.pw;refine⟨Z,e,?_⟩;have same:Lnv (B+1) K G La:=h.str hB (Str.refl K G) (RdB.refl K) (Ac _) h.iv h.pw om om (AK (AM _));rcases hz with ⟨h1,h2⟩ | ⟨h1,h2,h3,h4⟩ | ⟨h1,h2,h3,G',d,st,rd,q⟩
 ·exact⟨⟨G,by rw[h2];exact same⟩,AK ⟨h1,h2⟩⟩
 ·exact⟨⟨G,by rw[h4];exact same⟩,AL (AK ⟨h1,h2,h3,h4⟩)⟩
 ·rcases q with ⟨c,iv,dd,hF,hn,nx⟩ | ⟨c,iv,dd,nx⟩ | ⟨_,off,_⟩
  ·exact⟨⟨G',h.str hB st rd Zc iv it nx om (AK om)⟩,AL (AL ⟨h1,h2,h3,AK ⟨c,hF,hn⟩⟩)⟩
  ·have hb:2<bad3 Z.1.F:=by
    obtain⟨_,X,hs,_⟩:=iv;exact hs.dds.1 dd
   exact⟨⟨G',h.str hB st rd Zc iv it nx om (AK om)⟩,AL (AL ⟨h1,h2,h3,AL ⟨c,hb⟩⟩)⟩
  ·exact absurd off it.not
theorem Ze(h:Lnv B K G La)(hB:B<1073741824) :∃Z,tdK 6 13 K=some Z/\Z.2=0/\(∃G',Lnv (B+1) Z.1 G' La)/\(bad3 Z.1.F<=2->Z.1.ca<8):=by
 obtain⟨Z,e,G',d,st,rd,q⟩:=dO (n:=5) (m:=13) dc dc h.iv (h.sq hB);have it:=kI e h.pw;have no:=jd e;refine⟨Z,e,?_⟩;rcases q with ⟨c,iv,nx,c8⟩ | ⟨_,off,_⟩
 ·have h8:bad3 Z.1.F<=2->Z.1.ca<8:=fun hb=>c8 (by
   obtain⟨_,X,hs,_⟩:=iv
   cases ed:Z.1.dd
   ·
    rfl
   ·
    have:=hs.dds.1 ed
    omega)
  exact⟨c,⟨G',h.str hB st rd (AM _) iv it nx no (AL h8)⟩,h8⟩
 ·exact absurd off it.not
theorem Pu(h:Lnv B K G La)(hB:B<1073741824){s':BM}(hs:s'.Ok)(hch:s'.ch=K.s.ch)(hon:s'.on=K.s.on)(hlim:s'.lim=K.s.lim)(hrd:∀b,(s'.bl b).reads=(K.s.bl b).reads):Lnv (B+1) { K with s:=s' } G La:=by
 have wf:Wf { K with s:=s' }:=by
  obtain⟨_,X,it,_⟩:=h.iv;have w:=it.wf;exact⟨hs,w.rr,w.frm,w.map,w.vs,w.vp,w.vc,w.fl,w.nx,w.fr,w.cu,w.qu,w.hea,w.tl⟩
 have a:Eqv K { K with s:=s' }:=⟨hch,rfl,rfl,rfl,rfl,rfl,rfl,rfl,rfl,rfl,rfl,rfl⟩;refine h.str hB (a.str rfl G) (W:=0) (RdB.same hrd rfl) (Ac _) (h.iv.eqv a wf ?_) ⟨?_,?_⟩ ?_ ?_ (AK (AM _))
 ·show s'.on=true;rw[hon];exact h.pw.1
 ·show s'.on=true;rw[hon];exact h.pw.1
 ·show s'.lim=false;rw[hlim];exact h.pw.2
 ·show K.nx<=K.nx+1+8*0;omega
 ·show K.ca<=K.ca+1;omega
theorem je.inv(h:je K G):Lnv 0 K G (fun _=>0) where
 iv:=h.ivk
 pw:=⟨h.fine.on,h.fine.lim⟩
 l24:=by rw[h.L,Bb];decide
 a:=fun o _=>by rw[h.a,Ps]
 z:=fun o=>by rw[h.z];exact id
 nx:=by rw[h.nx];omega
 ca:=by rw[h.ca];exact AM _
 rd:=h.rd.mono om
 c8:=fun _=>by rw[h.ca];decide
end
theorem Zf(L:Nat->Int)(n:Int):AB.atC L n=0\/AB.atC L n=1\/AB.atC L n=11:=by
 unfold AB.atC;split
 ·exact AL (AK rfl)
 ·split
  ·exact AL (AL rfl)
  ·exact AK rfl
theorem l9:(AB.ofL (upd (upd (fun _=>-1) 24 0) 3 1) 0).map Int.toNat=[24,3]:=dc
theorem mA:tkM (AD.tkF (fun _=>0) 0 0)=1:=dc
theorem eB{K:BH}{G:Bk}(h:je K G):∃KB KC KD KE GE La,anR 6 (fun _ _=>JA 7 ++ List.replicate 14 0) K 3=some (KB,0)/\KB.L 3=1/\KB.nx=3/\vaK 6 KB 0 false=some (KC,0)/\KC.L 24=8/\KC.L 3=9/\KC.mv=2/\tmK 6 KC 3=some (KD,0)/\geK KD 3=(KE,JA 0,0)/\Lnv 4 KE GE La:=by
 obtain⟨K1,s',r',R',fD,fi,-,e1⟩:=Ss (H:=fun _ _=>JA 7 ++ List.replicate 14 0) (fun _ _=>⟨LQ 7,TB 7⟩) h.sit h.fine h.dd (o:=3) dc (by rw[h.fr];decide) (by rw[h.nx];decide) 5;have hl:=RO dc fD;obtain⟨-,-,-,-,-,-,-,T,sB⟩:=Sn (by decide:3<24) fD (by rw[h.L,Bb];decide) rfl;rw[h.fr] at e1 hl sB;generalize FrL K1 3 (8*(⟨true,0,1⟩:AC.St).k+(⟨true,0,1⟩:AC.St).i) s' r' R'=Z at *
 obtain⟨l0,lL,ls,lF,hc,kd,h6,ha,w'⟩:=hl;obtain⟨KB,c⟩:=Z;dsimp only at l0 lL ls lF hc kd h6 ha w' sB;subst l0;have ar:KB.L=upd (upd (fun _=>-1) 24 0) 3 1:=by rw[lL,h.L];rfl
 have no:KB.F=AD.tkF (fun _=>0) 0 0:=lF.trans h.F;have fB:Fine KB.s:=by rw[ls];exact fi
 have hg:KB.dd=false:=ha.trans h.dd;have nxB:KB.nx=3:=by rw[kd,h.nx]
 have h2:Rm 0 KB:=by
  have:=h.rm;unfold Rm at this ⊢;rw[lF];exact this
 have tB:∀b,b<12->KB.F b=3->G.c.B b=true:=fun b hb e=>h.told b hb (by rw[<-lF];exact e);obtain⟨KC,e2,fC,it,mC,hx,nxC,hv⟩:=js sB fB hg h2 tB (by rw[nxB];decide) (V:=0) (a:=24) (b:=3) dc (by rw[no];decide) (by rw[no];decide) dc (by rw[ar];exact l9) 6;rw[show tkM KB.F=1 by rw[no];exact mA] at it hx;obtain⟨Z1,q1,-,G1,L1,v1,-⟩:=TD h.inv dc (o:=3) dc 7;have z1:Z1=(KB,0):=AR (q1.symm.trans e1);subst z1;obtain⟨Z2,q2,⟨G2,v2⟩,-⟩:=TE v1 dc (b:=0) dc false;have z2:Z2=(KC,0):=AR (q2.symm.trans e2);subst z2;obtain⟨Z3,q3,wr,G3,L3,v3,h1,-⟩:=Pt v2 dc (o:=3) dc;have sC:Sit KC G2 No:=by
  obtain⟨_,X,hs,hd⟩:=v2.iv;exact hs.mono (fun b _ e=>absurd e ((hd hv).1 b))
 obtain⟨K2,s2,r2,R2,B',-,-,e3⟩:=Ss (H:=tmH 3 (KC.vs 3:Nat)) (fun _ _=>⟨AA.CI _,AA.FA _⟩) sC fC hv (o:=24) dc (by rw[hx];decide) (by rw[nxC,nxB];decide) 5;have h0:=RO dc B';have hk:Z3.2=0:=by
  have q4:=q3;unfold tmK at q4;rw[AI (by rw[it,Bb];decide),e3] at q4;dsimp only at q4;rw[AI (by rw[h0.1];simp)] at q4;have e5:=congrArg (·.2) (AR q4);dsimp only at e5;have:=Zf (FrL K2 24 (8*KC.fr.k+KC.fr.i) s2 r2 R2).1.L ((3:Nat):Int);rcases wr with c | ⟨c,_⟩
  ·exact c
  ·rw[<-e5] at c;omega
 obtain⟨KD,c⟩:=Z3;dsimp only at hk;subst hk;obtain⟨KE,q5,v5,-⟩:=Na v3 dc (o:=3) dc;rw[h1 rfl,Bb] at q5;refine⟨KB,KC,KD,KE,G3,L3,e1,?_,nxB,e2,?_,?_,?_,q3,q5,v5⟩
 ·rw[ar,Bb]
 ·rw[it,BT _ _ dc,Bb];rfl
 ·rw[it,Bb];rfl
 ·rw[mC,h6,h.mv];kernel_rfl
end Go.Proofs.YtmdpnpjacfedpaaGreat
