/-
  Lemmas.
-/
import Derived.Test.YtmdpnpjacfedpaaGreatOm
import Derived.Test.YtmdpnpjacfedpaaGreatP11
import Derived.Below
import Derived.Deep.Slices
set_option maxRecDepth 1000000
set_option maxHeartbeats 16000000
set_option linter.unusedSimpArgs false
namespace Go.Proofs.YtmdpnpjacfedpaaGreat
open List
open Go.Proofs.Tryz
open Go.RowKit
section
variable {w:Wd}{a:Act}{o:Oper}{ops:Array Oper}{Q:Exit->Act->World->Prop}{F:Nat->Int}{K:Act->World->Prop}{E:Prop}{rest:List Oper}
def fR (n c k r m v:Int):Nat->Int:=fun i=>if i=37 then n else if i=38 then c else if i=39 then k else if i=64 then r else if i=65 then m else if i=66 then v else 0
def vwF (K:BH):Nat->Int:=fun i=>if i<12 then K.F i else if i<37 then K.L (i - 12) else if i=37 then (K.nx:Nat) else if i=38 then (K.cu:Nat) else if i=39 then (K.ca:Nat) else if i<52 then K.hR (i - 40) else if i<64 then K.hS (i - 52) else if i=64 then K.rp else if i=65 then K.md else K.mv
theorem Y5(w:Wd):(zeroValue 39).run prog w=.ok (.agg (ints (fun _=>0) 67).toArray) w:=kr
theorem Gu:(prog.info? 39).map (·.size)=some 67:=kr
theorem dh(w:Wd)(n c k r m v:Int):(Instr.build 39 #[(2,.int .i64 n),(3,.int .i64 c),(4,.int .i64 k),(7,.int .i64 r),(8,.int .i64 m),(9,.int .i64 v)]).run prog w=.ok (.agg (ints (fR n c k r m v) 67).toArray) w:=kr
theorem FG{x1 x2 x3 x4 x5 x6:Operand}{n c k r m v:Int}(ho:o.op=.build 39 #[(2,x1),(3,x2),(4,x3),(7,x4),(8,x5),(9,x6)])(h1:a.eval x1=.int .i64 n)(h2:a.eval x2=.int .i64 c)(h3:a.eval x3=.int .i64 k)(h4:a.eval x4=.int .i64 r)(h5:a.eval x5=.int .i64 m)(h6:a.eval x6=.int .i64 v):(execOp a.eval o).run prog w=.ok (.value (.agg (ints (fR n c k r m v) 67).toArray)) w:=by
 have hb:=dh w n c k r m v;unfold execOp;rw[ho];simp only[map_toArray,map_cons,map_nil,h1,h2,h3,h4,h5,h6];generalize Instr.build 39 #[(2,.int .i64 n),(3,.int .i64 c),(4,.int .i64 k),(7,.int .i64 r),(8,.int .i64 m),(9,.int .i64 v)]=b at *
 simp[hb]
theorem EU(hgd:o.guard=none)(ho:o.op=.alloc 39)(h:K (a.put o.dst (.pointer (some ⟨w.heap.size,0,none⟩))) (w.alloc (.cells (ints (fun _=>0) 67).toArray 39))):if Region.wanted o (yielded ops a.tmps)=true then Oper.wp prog o a w K Q else E:=by
 rw[AJ (by simp[Region.wanted,hgd])];have hz:=Y5;unfold Oper.wp;simp only[execOp,ho,Instr.alloc,newVar,Value.cells,newRow];generalize (ints (fun _=>0) 67).toArray=q at *
 simp[hz];exact h
theorem EV(hgd:o.guard=none)(x y:Operand)(ho:o.op=.store 39 x y)(g:Nat)(hx:a.eval x=.pointer (some ⟨g,0,none⟩))(F:Nat->Int)(hy:a.eval y=.agg (ints F 67).toArray){F0:Nat->Int}(hg:IB w g 39 67 F0)(h:∀w',IB w' g 39 67 F->Chg (·=g) w w'->K (a.put o.dst undef) w'):if Region.wanted o (yielded ops a.tmps)=true then Oper.wp prog o a w K Q else E:=by
 rw[AJ (by simp[Region.wanted,hgd])];exact wp_store_row 39 x y ho g _ hx hy 39 _ hg (by rw[Gu];simp[BF]) (by simp[BF]) (all_oneCell_toArray (Cf _ _)) (h _ (setRow_heap w g _ _ 39 _ hg) (Dx _ _ _))
theorem Bw(hgd:o.guard=none)(ho:o.op=.alloc 39)(h:wpList prog ops Q rest (a.put o.dst (.pointer (some ⟨w.heap.size,0,none⟩))) (w.alloc (.cells (ints (fun _=>0) 67).toArray 39))):wpList prog ops Q (o :: rest) a w:=by
 refine wpList_plain hgd fun K hK=>?_;have hz:=Y5;unfold Oper.wp;generalize (ints (fun _=>0) 67).toArray=q at *
 simp[execOp,ho,Instr.alloc,hz,newVar,Value.cells,newRow];exact hK _ _ h
def pt (o:Nat) (R F:Nat->Int):Nat->Int:=fun i=>if o<=i/\i<o+12 then R (i - o) else F i
theorem di(o:Nat)(R F:Nat->Int)(ho:o+12<=67):(ints F 67).take o ++ ints R 12 ++ (ints F 67).drop (o+(ints R 12).length)=ints (pt o R F) 67:=by
 rw[BF];apply ext_getElem?;intro i;have l1:((ints F 67).take o).length=o:=by rw[length_take,BF];omega
 have l2:((ints F 67).take o ++ ints R 12).length=o+12:=by rw[AV,l1,BF]
 by_cases h1:i<o
 ·rw[Af om,Af om,List.getElem?_take_of_lt h1,BU _ _ _ om,BU _ _ _ om];simp only[pt];rw[AI om]
 ·by_cases h2:i<o+12
  ·rw[Af om,Aa om,l1,BU _ _ _ om,BU _ _ _ om];simp only[pt];rw[AJ om]
  ·rw[Aa om,l2,List.getElem?_drop,show o+12+(i - (o+12))=i by omega];by_cases h3:i<67
   ·rw[BU _ _ _ h3,BU _ _ _ h3];simp only[pt];rw[AI om]
   ·rw[Ae (by rw[BF];omega),Ae (by rw[BF];omega)]
theorem FH{p:Oper}(hgd:p.guard=none)(d s:Operand)(ho:p.op=.call { callee:=.builtin .copy,args:=#[d,s],argTypes:=#[43,43] })(b o g:Nat)(hd:a.eval d=.slice (some ⟨b,o,none⟩) 12 12)(hs:a.eval s=.slice (some ⟨g,0,none⟩) 12 12){R:Nat->Int}(hC:IB w b 39 67 F)(hR:IB w g 3 12 R)(hn:o+12<=67)(h:∀w',IB w' b 39 67 (pt o R F)->Chg (·=b) w w'->K (a.put p.dst (goInt 12)) w') :if Region.wanted p (yielded ops a.tmps)=true then Oper.wp prog p a w K Q else E:=by
 have hw:Region.wanted p (yielded ops a.tmps)=true:=by simp[Region.wanted,hgd]
 rw[AJ hw];have hlen:(ints R 12).length=12:=BF _ _;have hsz:(ints F 67).toArray.size=67:=by rw[size_toArray,BF]
 have hrun:=run_copy_row (P:=prog) w 43 43 p.type 3 b o 12 12 ⟨g,0,none⟩ 12 12 (ints F 67).toArray 39 (ints R 12) underlying43 AF.Ks hC (by rw[hlen];rfl) (fun j v hv=>by
  have hj:j<12:=by have:=(List.getElem?_eq_some_iff.1 hv).1;rwa [hlen] at this
  rw[Addr.add_mid,BU _ _ _ hj] at *
  rw[<-hv,AW,(hR.cell j hj).1];rfl) (by rw[hlen,hsz];omega) (Cf _ _)
 rw[show (ints F 67).toArray.toList=ints F 67 from rfl,di o R F hn,hlen] at hrun;unfold Oper.wp;simp[execOp,ho,resolve,invoke,builtin,hd,hs,hrun,Result.andThen];exact h _ (setRow_heap w b _ _ 39 _ hC) (Dx _ _ _)
theorem jk(F:Nat->Int):(prog.info? 39).map (·.size)=some (ints F 67).toArray.size:=by rw[size_toArray,BF];exact Gu
theorem LM(hgd:o.guard=none)(x:Operand)(ho:o.op=.load 39 x)(g:Nat)(hx:a.eval x=.pointer (some ⟨g,0,none⟩))(hg:IB w g 39 67 F)(h:wpList prog ops Q rest (a.put o.dst (.agg (ints F 67).toArray)) w):wpList prog ops Q (o :: rest) a w:=
 wpList_load_row hgd 39 x ho g hx 39 _ _ _ hg underlying39 rfl (jk F) h
theorem By(hgd:o.guard=none)(x y:Operand)(ho:o.op=.store 39 x y)(g:Nat)(hx:a.eval x=.pointer (some ⟨g,0,none⟩))(hy:a.eval y=.agg (ints F 67).toArray){F':Nat->Int}(hg:IB w g 39 67 F')(h:∀w',IB w' g 39 67 F->Chg (·=g) w w'->wpList prog ops Q rest (a.put o.dst undef) w'):wpList prog ops Q (o :: rest) a w:=
 wpList_store_row hgd 39 x y ho g _ hx hy 39 _ hg (jk F) (by simp[BF]) (all_oneCell_toArray (Cf _ _)) (h _ (setRow_heap w g _ _ 39 _ hg) (Dx _ _ _))
theorem RQ{fn:Func}{q:Tmp}(h:fn.results=#[.cell q 39])(tmps:Array Value){g:Nat}(hp:tmps.getD q undef=.pointer (some ⟨g,0,none⟩))(hT:IB w g 39 67 F) :(results fn tmps).run prog w=.ok (.agg (ints F 67).toArray) w:=
 results_cell_row h tmps w g 39 _ _ _ hp hT underlying39 rfl (jk F)
def fS (n:Nat) (L B:Nat->Int):Nat->Int:=fun j=>if 12<=j/\j<12+n then L (j - 12) else B j
theorem Pm(n:Nat)(L B:Nat->Int):upd (fS n L B) (12+n) (L n)=fS (n+1) L B:=by
 funext j;simp only[upd,fS];by_cases e:j=12+n
 ·subst e;rw[AJ rfl,AJ om,show 12+n - 12=n by omega]
 ·rw[AI e];by_cases h:12<=j/\j<12+n
  ·rw[AJ h,AJ om]
  ·rw[AI h,AI om]
theorem dj(F:Nat->Int)(i:Nat)(x y:Int):upd (upd F i x) i y=upd F i y:=by
 funext j;simp only[upd];by_cases e:j=i <;> simp[e]
theorem dl(K:BH)(j:Nat)(hj:j<67):fS 25 K.L (pt 52 K.hS (pt 40 K.hR (pt 0 K.F (fR (K.nx:Nat) K.cu K.ca K.rp K.md K.mv)))) j=vwF K j:=by
 simp only[fS,pt,fR,vwF];by_cases h1:j<12
 ·rw[AI om,AI om,AI om,AJ om,AJ h1];rfl
 ·rw[AI h1];by_cases h2:j<37
  ·rw[AJ om,AJ h2]
  ·rw[AI om,AI h2];by_cases h3:j<40
   ·rw[AI om,AI om,AI om];obtain rfl | rfl | rfl:j=37\/j=38\/j=39:=om
    all_goals simp
   ·simp only[AI (show ¬ j=37 by omega),AI (show ¬ j=38 by omega),AI (show ¬ j=39 by omega)];by_cases h4:j<52
    ·rw[AI om,AJ om,AJ h4]
    ·rw[AI h4];by_cases h5:j<64
     ·rw[AJ om,AJ h5]
     ·rw[AI om,AI om,AI om,AI h5];obtain rfl | rfl | rfl:j=64\/j=65\/j=66:=om
      all_goals simp
theorem EW(A:Ad)(w:Wd)(K:BH)(h:CoreAt A w K):Calls prog 13 #[.pointer (some ⟨A.c,0,none⟩)] w fun e w'=>e=.returned (.agg (ints (vwF K) 67).toArray)/\CoreAt A w' K/\Chg No w w':=by
 have HK:=BE h;have HLOW0:=BE h.low;clear h;go_enter func13,ntmps13;go_wp2_with (refine Bw rfl rfl ?_);have HK0:=BE (HK.out.chg0 ((Chg.refl No w).alloc (.cells (ints (fun _=>0) 67).toArray 39)));have HR0:=BE (IB.new w 39 67 (fun _=>0));have HG0:Hid (Chg No w (w.alloc (.cells (ints (fun _=>0) 67).toArray 39))):=(Chg.refl _ w).alloc _;have HLOW:Hid (∀x,Cor A x\/x=A.p\/x=A.q->x<w.heap.size):=HLOW0.out;generalize w.alloc (.cells (ints (fun _=>0) 67).toArray 39)=w0 at *
 have HSS:Hid (∀u,CoreAt A u K->(u.cell? ⟨A.c,77,none⟩=some (.int .i64 (K.nx:Nat))/\u.cell? ⟨A.c,82,none⟩=some (.pointer (some ⟨A.pa,0,none⟩))/\u.cell? ⟨A.c,98,none⟩=some (.int .i64 K.rp)/\u.cell? ⟨A.c,99,none⟩=some (.int .i64 K.md)/\u.cell? ⟨A.c,100,none⟩=some (.int .i64 K.mv))):=fun u hu=>⟨hu.cNx.1,hu.cPat.1,hu.cRp.1,hu.cMd.1,hu.cMv.1⟩;refine wp_region_noPanic ?_;refine wp_region_held_drew (S:=fun wx=>wx.cell? ⟨A.c,77,none⟩=some (.int .i64 (K.nx:Nat))/\wx.cell? ⟨A.c,82,none⟩=some (.pointer (some ⟨A.pa,0,none⟩))/\wx.cell? ⟨A.c,98,none⟩=some (.int .i64 K.rp)/\wx.cell? ⟨A.c,99,none⟩=some (.int .i64 K.md)/\wx.cell? ⟨A.c,100,none⟩=some (.int .i64 K.mv)) kr (HSS.out _ (HK0.out.drewN 1)) (fun hHeld=>?_);refine Ab (i:=0) rfl kr kr kr (fun _ _ _ h=>h) (AK ⟨rfl,fun _ _=>rfl⟩) hHeld ?_;simp only[Act.put,getElem_toArray,getElem_cons_zero,setIfInBounds_toArray,set_cons_zero,set_cons_succ];refine Ab (i:=1) rfl kr kr kr (fun _ _ _ h=>h) (AK ⟨rfl,fun _ _=>rfl⟩) hHeld ?_;simp only[Act.put,bu];refine Ab (i:=2) rfl kr kr kr (fun _ _ _ h=>h) (AK ⟨rfl,fun _ _=>rfl⟩) hHeld ?_;simp only[Act.put,bu];refine Ab (i:=3) (v:=.int .i64 (K.nx:Nat)) rfl kr kr kr (fun _ _ _ h=>h) (AK ⟨rfl,fun w hw=>by obtain⟨s1,s2,s3,s4,s5⟩:=hw;go_simp⟩) hHeld ?_;simp only[Act.put,bu];refine Ab (i:=4) rfl kr kr kr (fun _ _ _ h=>h) (AK ⟨rfl,fun _ _=>rfl⟩) hHeld ?_;simp only[Act.put,bu];refine Ab (i:=5) rfl kr kr kr (fun _ _ _ h=>h) (AK ⟨rfl,fun _ _=>rfl⟩) hHeld ?_;simp only[Act.put,bu];refine Ab (i:=6) rfl kr kr kr (fun _ _ _ h=>h) (AK ⟨rfl,fun _ _=>rfl⟩) hHeld ?_;simp only[Act.put,bu];refine Ab (i:=7) (v:=.pointer (some ⟨A.pa,0,none⟩)) rfl kr kr kr (fun _ _ _ h=>h) (AK ⟨rfl,fun w hw=>by obtain⟨s1,s2,s3,s4,s5⟩:=hw;go_simp⟩) hHeld ?_;simp only[Act.put,bu];refine Ab (i:=9) rfl kr kr kr (fun _ _ _ h=>h) (AK ⟨rfl,fun _ _=>rfl⟩) hHeld ?_;simp only[Act.put,bu];refine Ab (i:=10) rfl kr kr kr (fun _ _ _ h=>h) (AK ⟨rfl,fun _ _=>rfl⟩) hHeld ?_;simp only[Act.put,bu];refine Ab (i:=11) rfl kr kr kr (fun _ _ _ h=>h) (AK ⟨rfl,fun _ _=>rfl⟩) hHeld ?_;simp only[Act.put,bu];refine Ab (i:=12) (v:=.pointer (some ⟨A.pa,0,none⟩)) rfl kr kr kr (fun _ _ _ h=>h) (AK ⟨rfl,fun w hw=>by obtain⟨s1,s2,s3,s4,s5⟩:=hw;go_simp⟩) hHeld ?_;simp only[Act.put,bu];refine Ab (i:=14) rfl kr kr kr (fun _ _ _ h=>h) (AK ⟨rfl,fun _ _=>rfl⟩) hHeld ?_;simp only[Act.put,bu];refine Ab (i:=15) rfl kr kr kr (fun _ _ _ h=>h) (AK ⟨rfl,fun _ _=>rfl⟩) hHeld ?_;simp only[Act.put,bu];refine Ab (i:=16) rfl kr kr kr (fun _ _ _ h=>h) (AK ⟨rfl,fun _ _=>rfl⟩) hHeld ?_;simp only[Act.put,bu];refine Ab (i:=17) (v:=.int .i64 K.rp) rfl kr kr kr (fun _ _ _ h=>h) (AK ⟨rfl,fun w hw=>by obtain⟨s1,s2,s3,s4,s5⟩:=hw;go_simp⟩) hHeld ?_;simp only[Act.put,bu];refine Ab (i:=18) rfl kr kr kr (fun _ _ _ h=>h) (AK ⟨rfl,fun _ _=>rfl⟩) hHeld ?_;simp only[Act.put,bu];refine Ab (i:=19) rfl kr kr kr (fun _ _ _ h=>h) (AK ⟨rfl,fun _ _=>rfl⟩) hHeld ?_;simp only[Act.put,bu];refine Ab (i:=20) rfl kr kr kr (fun _ _ _ h=>h) (AK ⟨rfl,fun _ _=>rfl⟩) hHeld ?_;simp only[Act.put,bu];refine Ab (i:=21) (v:=.int .i64 K.md) rfl kr kr kr (fun _ _ _ h=>h) (AK ⟨rfl,fun w hw=>by obtain⟨s1,s2,s3,s4,s5⟩:=hw;go_simp⟩) hHeld ?_;simp only[Act.put,bu];refine Ab (i:=22) rfl kr kr kr (fun _ _ _ h=>h) (AK ⟨rfl,fun _ _=>rfl⟩) hHeld ?_;simp only[Act.put,bu];refine Ab (i:=23) rfl kr kr kr (fun _ _ _ h=>h) (AK ⟨rfl,fun _ _=>rfl⟩) hHeld ?_;simp only[Act.put,bu];refine Ab (i:=24) rfl kr kr kr (fun _ _ _ h=>h) (AK ⟨rfl,fun _ _=>rfl⟩) hHeld ?_;simp only[Act.put,bu];refine Ab (i:=25) (v:=.int .i64 K.mv) rfl kr kr kr (fun _ _ _ h=>h) (AK ⟨rfl,fun w hw=>by obtain⟨s1,s2,s3,s4,s5⟩:=hw;go_simp⟩) hHeld ?_;simp only[Act.put,bu];refine wpAnyH_ready (rs:=[8,27]) kr (by simp) ?_;refine AllReadyH.cons rfl (fun K' hK=>?_) (AllReadyH.cons rfl (fun K' hK=>?_) AllReadyH.nil)
 case' refine_1=>
  go_simp;refine(AF.FD _ A.pa K.cu K.ca (HK0.out.drewN 1).pat).mono ?_;rintro e w1 ⟨rfl,rfl⟩;refine hK.out _ _ (HSS.out _ (HK0.out.drewN 1)) (fun hHeld=>?_);clear hK K';refine wpAnyH_ready (rs:=[13,27]) kr (by simp) ?_;refine AllReadyH.cons rfl (fun K' hK=>?_) (AllReadyH.cons rfl (fun K' hK=>?_) AllReadyH.nil)
  case' refine_1=>
   go_simp;refine(AF.Ir _ A.pa K.cu K.ca (HK0.out.drewN 1).pat).mono ?_;rintro e w1 ⟨rfl,rfl⟩;refine hK.out _ _ (HSS.out _ (HK0.out.drewN 1)) (fun hHeld=>?_);clear hK K';refine Ab (i:=26) rfl kr kr kr (fun _ _ _ h=>h) (AK ⟨rfl,fun _ _=>FG rfl rfl rfl rfl rfl rfl rfl⟩) hHeld ?_;simp only[Act.put,bu];refine wpAnyH_ready (rs:=[27]) kr (by simp) ?_;refine AllReadyH.cons rfl (fun K' hK=>?_) AllReadyH.nil;refine EU rfl rfl ?_;refine hK.out _ _ (HSS.out _ ((HK0.out.drewN 1).chg0 ((Chg.refl No w0.drew).alloc (.cells (ints (fun _=>0) 67).toArray 39)))) (fun hHeld=>?_);clear hK K';simp only[Act.put,bu];refine wpAnyH_ready (rs:=[28]) kr (by simp) ?_;refine AllReadyH.cons rfl (fun K' hK=>?_) AllReadyH.nil;refine EV rfl (.tmp 3) (.tmp 33) rfl w0.heap.size rfl (fR (K.nx:Nat) K.cu K.ca K.rp K.md K.mv) rfl (IB.new w0.drew 39 67 (fun _=>0)) ?_;intro w2 C2 G2;have K2:=((HK0.out.drewN 1).chg0 ((Chg.refl No w0.drew).alloc (.cells (ints (fun _=>0) 67).toArray 39))).far HLOW.out (Nat.le_of_lt HR0.out.lt) G2;refine hK.out _ _ (HSS.out _ K2) (fun hHeld=>?_);clear hK K' hHeld;simp only[Act.put,getElem_toArray,getElem_cons_zero,getElem_cons_succ];refine wpAnyH_done kr ?_ _;refine NoPanic.normal ?_;have HR2:=BE ((HR0.out.chg ((Chg.refl No w0).drew.alloc (.cells (ints (fun _=>0) 67).toArray 39)) (fun f=>f)).chg G2 (by have:=HR0.out.lt;omega));have HG2:=BE ((HG0.out.trans ((Chg.refl No w0).drew.alloc (.cells (ints (fun _=>0) 67).toArray 39))).trans' G2 (fun k hk e=>by have:=HG0.out.size;omega));have HC2:=BE C2;have HK2:=BE K2;clear C2 G2 K2
  case' refine_2=>
   refine EU rfl rfl ?_;refine hK.out _ _ (HSS.out _ ((HK0.out.drewN 1).chg0 ((Chg.refl No w0.drew).alloc (.cells (ints (fun _=>0) 67).toArray 39)))) (fun hHeld=>?_);clear hK K';simp only[Act.put,bu];refine wpAnyH_ready (rs:=[13]) kr (by simp) ?_;refine AllReadyH.cons rfl (fun K' hK=>?_) AllReadyH.nil;go_simp;refine(AF.Ir _ A.pa K.cu K.ca ((HK0.out.drewN 1).chg0 ((Chg.refl No w0.drew).alloc (.cells (ints (fun _=>0) 67).toArray 39))).pat).mono ?_;rintro e w1 ⟨rfl,rfl⟩;refine hK.out _ _ (HSS.out _ ((HK0.out.drewN 1).chg0 ((Chg.refl No w0.drew).alloc (.cells (ints (fun _=>0) 67).toArray 39)))) (fun hHeld=>?_);clear hK K';refine Ab (i:=26) rfl kr kr kr (fun _ _ _ h=>h) (AK ⟨rfl,fun _ _=>FG rfl rfl rfl rfl rfl rfl rfl⟩) hHeld ?_;simp only[Act.put,bu];refine wpAnyH_ready (rs:=[28]) kr (by simp) ?_;refine AllReadyH.cons rfl (fun K' hK=>?_) AllReadyH.nil;refine EV rfl (.tmp 3) (.tmp 33) rfl w0.heap.size rfl (fR (K.nx:Nat) K.cu K.ca K.rp K.md K.mv) rfl (IB.new w0.drew 39 67 (fun _=>0)) ?_;intro w2 C2 G2;have K2:=((HK0.out.drewN 1).chg0 ((Chg.refl No w0.drew).alloc (.cells (ints (fun _=>0) 67).toArray 39))).far HLOW.out (Nat.le_of_lt HR0.out.lt) G2;refine hK.out _ _ (HSS.out _ K2) (fun hHeld=>?_);clear hK K' hHeld;simp only[Act.put,getElem_toArray,getElem_cons_zero,getElem_cons_succ];refine wpAnyH_done kr ?_ _;refine NoPanic.normal ?_;have HR2:=BE ((HR0.out.chg ((Chg.refl No w0).drew.alloc (.cells (ints (fun _=>0) 67).toArray 39)) (fun f=>f)).chg G2 (by have:=HR0.out.lt;omega));have HG2:=BE ((HG0.out.trans ((Chg.refl No w0).drew.alloc (.cells (ints (fun _=>0) 67).toArray 39))).trans' G2 (fun k hk e=>by have:=HG0.out.size;omega));have HC2:=BE C2;have HK2:=BE K2;clear C2 G2 K2
 case' refine_2=>
  refine EU rfl rfl ?_;refine hK.out _ _ (HSS.out _ ((HK0.out.drewN 1).chg0 ((Chg.refl No w0.drew).alloc (.cells (ints (fun _=>0) 67).toArray 39)))) (fun hHeld=>?_);clear hK K';simp only[Act.put,bu];refine wpAnyH_ready (rs:=[8]) kr (by simp) ?_;refine AllReadyH.cons rfl (fun K' hK=>?_) AllReadyH.nil;go_simp;refine(AF.FD _ A.pa K.cu K.ca ((HK0.out.drewN 1).chg0 ((Chg.refl No w0.drew).alloc (.cells (ints (fun _=>0) 67).toArray 39))).pat).mono ?_;rintro e w1 ⟨rfl,rfl⟩;refine hK.out _ _ (HSS.out _ ((HK0.out.drewN 1).chg0 ((Chg.refl No w0.drew).alloc (.cells (ints (fun _=>0) 67).toArray 39)))) (fun hHeld=>?_);clear hK K';refine wpAnyH_ready (rs:=[13]) kr (by simp) ?_;refine AllReadyH.cons rfl (fun K' hK=>?_) AllReadyH.nil;go_simp;refine(AF.Ir _ A.pa K.cu K.ca ((HK0.out.drewN 1).chg0 ((Chg.refl No w0.drew).alloc (.cells (ints (fun _=>0) 67).toArray 39))).pat).mono ?_;rintro e w1 ⟨rfl,rfl⟩;refine hK.out _ _ (HSS.out _ ((HK0.out.drewN 1).chg0 ((Chg.refl No w0.drew).alloc (.cells (ints (fun _=>0) 67).toArray 39)))) (fun hHeld=>?_);clear hK K';refine Ab (i:=26) rfl kr kr kr (fun _ _ _ h=>h) (AK ⟨rfl,fun _ _=>FG rfl rfl rfl rfl rfl rfl rfl⟩) hHeld ?_;simp only[Act.put,bu];refine wpAnyH_ready (rs:=[28]) kr (by simp) ?_;refine AllReadyH.cons rfl (fun K' hK=>?_) AllReadyH.nil;refine EV rfl (.tmp 3) (.tmp 33) rfl w0.heap.size rfl (fR (K.nx:Nat) K.cu K.ca K.rp K.md K.mv) rfl (IB.new w0.drew 39 67 (fun _=>0)) ?_;intro w2 C2 G2;have K2:=((HK0.out.drewN 1).chg0 ((Chg.refl No w0.drew).alloc (.cells (ints (fun _=>0) 67).toArray 39))).far HLOW.out (Nat.le_of_lt HR0.out.lt) G2;refine hK.out _ _ (HSS.out _ K2) (fun hHeld=>?_);clear hK K' hHeld;simp only[Act.put,getElem_toArray,getElem_cons_zero,getElem_cons_succ];refine wpAnyH_done kr ?_ _;refine NoPanic.normal ?_;have HR2:=BE ((HR0.out.chg ((Chg.refl No w0).drew.alloc (.cells (ints (fun _=>0) 67).toArray 39)) (fun f=>f)).chg G2 (by have:=HR0.out.lt;omega));have HG2:=BE ((HG0.out.trans ((Chg.refl No w0).drew.alloc (.cells (ints (fun _=>0) 67).toArray 39))).trans' G2 (fun k hk e=>by have:=HG0.out.size;omega));have HC2:=BE C2;have HK2:=BE K2;clear C2 G2 K2
 all_goals
  have hN0:=HR0.out.lt;have hNG:=HC2.out.lt;obtain⟨N,HN⟩:∃N,Hid (N=w0.heap.size):=⟨_,rfl⟩;rw[<-HN.out] at HC2 hNG hN0
  try rw[show (w0.drewN 1).heap.size=N from HN.out.symm]
  try rw[show w0.drew.heap.size=N from HN.out.symm]
  try rw[show w0.heap.size=N from HN.out.symm]
  have hs1:=AF.D5 N 0;obtain⟨c1,-⟩:=HK2.out.cPool;have hne2:¬ w.heap.size=N:=om
  clear HK0 HK HG0 HR0 HSS;go_wp2_with fail
  go_region_held3 (fun wx=>wx.cell? ⟨A.c,1,none⟩=some (.pointer (some ⟨A.po,0,none⟩)))
   (first | exact c1 | exact z1 | exact y1)
   (first
    | (refine FH rfl (.tmp 35) (.tmp 40) rfl N 0 w2.heap.size rfl rfl HC3.out HI3.out om ?_;intro w4 C4 G4;have HC4:=BE C4;have K4:=HK3.out.far HLOW.out (Nat.le_of_lt hN0) G4;obtain⟨y1,-⟩:=K4.cPool;have HK4:=BE K4;have HR4:=BE (HR3.out.chg G4 hne2);have HG4:=BE (HG3.out.trans' G4 (fun k hk e=>om));clear C4 G4 K4 HC3 HI3 HK3 HR3 HG3)
    | (go_at_call 47;refine(AD.EC _ A.po K.F (HK2.out.drewN 1).pool).mono ?_;rintro e w3 ⟨rfl,I3,G3⟩;have K3:=(HK2.out.drewN 1).chg0 G3;obtain⟨z1,-⟩:=K3.cPool;have HI3:=BE I3;have HK3:=BE K3;have HC3:=BE ((HC2.out.chg (Chg.refl No w2).drew (fun f=>f)).chg G3 (fun f=>f));have HR3:=BE ((HR2.out.chg (Chg.refl No w2).drew (fun f=>f)).chg G3 (fun f=>f));have HG3:=BE (HG2.out.drew.trans G3);clear I3 G3 K3))
  all_goals
   have hs2:=AF.D5 N 40;obtain⟨c96,-⟩:=HK4.out.cHea;clear hs1 c1;go_wp2_with fail
   go_region_held3 (fun wx=>wx.cell? ⟨A.c,96,none⟩=some (.pointer (some ⟨A.h,0,none⟩)))
    (first | exact c96 | exact z96 | exact y96)
    (first
     | (refine FH rfl (.tmp 43) (.tmp 48) rfl N 40 (w4.heap.size+1) rfl rfl HC6.out HI6.out om ?_;intro w7 C7 G7;have HC7:=BE C7;have K7:=HK6.out.far HLOW.out (Nat.le_of_lt hN0) G7;obtain⟨y96,-⟩:=K7.cHea;have HK7:=BE K7;have HR7:=BE (HR6.out.chg G7 hne2);have HG7:=BE (HG6.out.trans' G7 (fun k hk e=>om));clear C7 G7 K7 HC6 HI6 HK6 HR6 HG6)
     | (go_at_call 48;refine(AG.SR _ A.h K.hR K.hN K.hS (HK4.out.drewN 1).hea HK4.out.wf.hea).mono ?_;rintro e w6 ⟨rfl,I6,G6⟩;have K6:=(HK4.out.drewN 1).chg0 G6;obtain⟨z96,-⟩:=K6.cHea;have HI6:=BE I6;have HK6:=BE K6;have HC6:=BE ((HC4.out.chg (Chg.refl No w4).drew (fun f=>f)).chg G6 (fun f=>f));have HR6:=BE ((HR4.out.chg (Chg.refl No w4).drew (fun f=>f)).chg G6 (fun f=>f));have HG6:=BE (HG4.out.drew.trans G6);clear I6 G6 K6))
   all_goals
    have hs3:=AF.D5 N 52;obtain⟨c96,-⟩:=HK7.out.cHea;clear hs2;go_wp2_with fail
    go_region_held3 (fun wx=>wx.cell? ⟨A.c,96,none⟩=some (.pointer (some ⟨A.h,0,none⟩)))
     (first | exact c96 | exact z96 | exact y96)
     (first
      | (refine FH rfl (.tmp 51) (.tmp 56) rfl N 52 (w7.heap.size+1) rfl rfl HC8.out HI8.out om ?_;intro w9 C9 G9;have HC9:=BE C9;have K9:=HK8.out.far HLOW.out (Nat.le_of_lt hN0) G9;obtain⟨y96,-⟩:=K9.cHea;have HK9:=BE K9;have HR9:=BE (HR8.out.chg G9 hne2);have HG9:=BE (HG8.out.trans' G9 (fun k hk e=>om));clear C9 G9 K9 HC8 HI8 HK8 HR8 HG8)
      | (go_at_call 49;refine(AG.PK _ A.h K.hR K.hN K.hS (HK7.out.drewN 1).hea HK7.out.wf.hea).mono ?_;rintro e w8 ⟨rfl,I8,G8⟩;have K8:=(HK7.out.drewN 1).chg0 G8;obtain⟨z96,-⟩:=K8.cHea;have HI8:=BE I8;have HK8:=BE K8;have HC8:=BE ((HC7.out.chg (Chg.refl No w7).drew (fun f=>f)).chg G8 (fun f=>f));have HR8:=BE ((HR7.out.chg (Chg.refl No w7).drew (fun f=>f)).chg G8 (fun f=>f));have HG8:=BE (HG7.out.drew.trans G8);clear I8 G8 K8))
    all_goals
     clear c96 hs3;generalize HBB:pt 52 K.hS (pt 40 K.hR (pt 0 K.F (fR (K.nx:Nat) K.cu K.ca K.rp K.md K.mv)))=B at HC9;have HB:=BE HBB;clear HBB;go_wp2_with fail
     go_loopg [58] 25 (fun kx s58 wr=>∃i:Nat,s58=.int .i64 i/\i<=25/\25 - i<=kx/\Hid (IB wr N 39 67 (fS i K.L B))/\Hid (CoreAt A wr K)/\Hid (IB wr w.heap.size 39 67 (fun _=>0))/\Hid (Chg No w wr))
     case atStart=>exact⟨0,rfl,om,om,(HC9.out.congr (fun j _=>(AI om).symm)),HK9.out,HR9.out,HG9.out⟩
     case round=>
      obtain⟨i,rfl,hi25,hkx,HC,HKr,HR,HG⟩:=hrel;by_cases hlt:i<25
      ·have hltz:(i:Int)<25:=om;obtain⟨cb,fb⟩:=HC.out.cell (12+i) om;have GN:Chg (·=N) wr (wr.setCell ⟨N,12+i,none⟩ (.int .i64 (-1))):=(Chg.refl (·=N) wr).setCell (AK rfl) _ _;have HC4:=BE (HC.out.set (12+i) (-1));have K4:=HKr.out.far HLOW.out (Nat.le_of_lt hN0) GN;obtain⟨c2,-⟩:=K4.cMap;have HK4:=BE K4;have HR4:=BE (HR.out.chg GN hne2);have HG4:=BE (HG.out.trans' GN (fun k hk e=>om));clear K4 GN HC HKr HR HG;by_cases hL:K.L i = -1
       ·have hat:=AC.M6 _ A.ma K.L HK4.out.map i hlt hL;have HC5:Hid (IB (wr.setCell ⟨N,12+i,none⟩ (.int .i64 (-1))) N 39 67 (fS (i+1) K.L B)):=by
         have:=HC4.out;rw[<-hL,Pm] at this;rw[hL] at this;exact this
        clear HC4 hL;go_wp2_with fail;refine hat.mono ?_;rintro e w5 ⟨rfl,rfl⟩;go_wp2
        go_roundg (25 - (i+1))
        case measure=>omega
        case rel=>exact⟨i+1,by simp,om,AM _,HC5.out,HK4.out,HR4.out,HG4.out⟩
       ·have hat:=AC.Q2 _ A.ma K.L HK4.out.map i hlt hL;obtain⟨cb5,fb5⟩:=HC4.out.cell (12+i) om;have GN5:Chg (·=N) (wr.setCell ⟨N,12+i,none⟩ (.int .i64 (-1))) ((wr.setCell ⟨N,12+i,none⟩ (.int .i64 (-1))).setCell ⟨N,12+i,none⟩ (.int .i64 (K.L i))):=(Chg.refl (·=N) _).setCell (AK rfl) _ _;have HC5:Hid (IB ((wr.setCell ⟨N,12+i,none⟩ (.int .i64 (-1))).setCell ⟨N,12+i,none⟩ (.int .i64 (K.L i))) N 39 67 (fS (i+1) K.L B)):=by
         have:=HC4.out.set (12+i) (K.L i);rw[dj,Pm] at this;exact this
        have HK5:=BE (HK4.out.far HLOW.out (Nat.le_of_lt hN0) GN5);have HR5:=BE (HR4.out.chg GN5 hne2);have HG5:=BE (HG4.out.trans' GN5 (fun k hk e=>om));clear HC4 HK4 HR4 HG4 GN5 hL;go_wp2_with fail;refine hat.mono ?_;rintro e w5 ⟨rfl,rfl⟩;go_wp2
        go_roundg (25 - (i+1))
        case measure=>omega
        case rel=>exact⟨i+1,by simp,om,AM _,HC5.out,HK5.out,HR5.out,HG5.out⟩
      ·have hltz:¬ (i:Int)<25:=om;have e25:i=25:=om;subst e25;go_wp2_with (first | refine LM rfl (.tmp 3) rfl N rfl HC.out ?_ | refine By rfl (.tmp 2) (.tmp 80) rfl w.heap.size rfl rfl HR.out ?_);intro w10 C10 G10;have HC10:Hid (IB w10 w.heap.size 39 67 (vwF K)):=C10.congr (fun j hj=>by rw[<-HB.out];exact dl K j hj);have HK10:=BE (HKr.out.far HLOW.out (AM _) G10);have HG10:=BE (HG.out.trans' G10 (fun k hk e=>om));clear C10 G10 HC HKr HR HG;go_wp2;refine AZ (RQ rfl _ rfl HC10.out) rfl ?_;exact⟨rfl,HK10.out,HG10.out⟩
end
section
variable {z:Int}(w:Wd)
def pkN (z:Int) (n:Nat):Nat:=((if z<0 then -(z+1) else z).tmod (n:Int)).toNat
theorem I9(z:Int)(n:Nat)(hn:0<n):pkN z n<n:=by
 unfold pkN;rw[Av (by split <;> omega)]
 have a1:=Int.emod_nonneg (if z<0 then -(z+1) else z) (b:=(n:Int)) om;have a2:=Int.emod_lt_of_pos (if z<0 then -(z+1) else z) (b:=(n:Int)) om;omega
theorem dm(h:z<0)(n:Nat)(hn:0<n):(-(z+1)).tmod (n:Int)=(pkN z n:Nat):=by
 unfold pkN;rw[AJ h,Int.toNat_of_nonneg];rw[Av om];exact Int.emod_nonneg _ om
theorem dn(h:¬ z<0)(n:Nat)(hn:0<n):z.tmod (n:Int)=(pkN z n:Nat):=by
 unfold pkN;rw[AI h,Int.toNat_of_nonneg];rw[Av om];exact Int.emod_nonneg _ om
theorem Cx(z:Int)(h1 : -9223372036854775808<=z)(h2:z<=9223372036854775807)(n:Nat)(hn:0<n)(hn2:n<10000000)(w:Wd) :Calls prog 15 #[.int .i64 z,.int .i64 n] w fun e w'=>e=.returned (.int .i64 (pkN z n:Nat))/\w'=w:=by
 have hne:((n:Int) == 0)=false:=by simp only[beq_eq_false_iff_ne];omega
 have hne2:¬ (n:Int)=0:=om
 have hnm:¬ (n:Int) = -1:=om
 by_cases hz:z<0
 ·have hq:=dm hz n hn;go_enter func15,ntmps15;go_wp2;go_ret;exact⟨rfl,rfl⟩
 ·have hq:=dn hz n hn;go_enter func15,ntmps15;go_wp2;go_ret;exact⟨rfl,rfl⟩
def lcN (x:Int):Nat->Nat
 | 0=>(IntKind.u64.wrap x).toNat
 | i+1=>(lcN x i*6364136223846793005+1442695040888963407) % 18446744073709551616
def bytL (x:Int):Nat->List Nat
 | 0=>[]
 | n+1=>bytL x n ++ [lcN x (n+1) / 1099511627776 % 256]
def JA (x:Int):List Nat:=if x=0 then List.replicate 160 0 else bytL x 160
theorem EQ(x:Int):∀n,(bytL x n).length=n:=by
 intro n
 induction n with
 | zero=>rfl
 | succ n ih=>rw[bytL,AV,ih];rfl
theorem Y6(x:Int):∀n,Bys (bytL x n):=by
 intro n
 induction n with
 | zero=>intro m hm;cases hm
 | succ n ih=>
  intro m hm;rw[bytL] at hm;rcases mem_append.1 hm with h | h
  ·exact ih m h
  ·rw[mem_singleton.1 h];exact Nat.mod_lt _ dc
theorem CR(x:Int):(JA x).length=160:=by
 unfold JA;split
 ·simp
 ·exact EQ x 160
theorem GP(x:Int):Bys (JA x):=by
 unfold JA;split
 ·intro m hm;rw[(mem_replicate.1 hm).2];decide
 ·exact Y6 x 160
def Jp (x:Int) (i:Nat):List Nat:=bytL x i ++ List.replicate (160 - i) 0
theorem Y7(x:Int)(i:Nat)(hi:i<160):(Jp x i).set i (lcN x (i+1) / 1099511627776 % 256)=Jp x (i+1):=by
 unfold Jp;rw[bytL,Aq,Ap _ _ (by rw[EQ];exact AM _),EQ,Nat.sub_self,show 160 - i=(160 - (i+1))+1 by omega,replicate_succ];rfl
theorem RR(x:Int)(i:Nat)(hi:i<=160):(Jp x i).length=160:=by
 unfold Jp;rw[AV,EQ,length_replicate];omega
theorem Y8:(Instr.makeSlice 48 (.int .i64 160) (.int .i64 160)).run prog w=.ok (.slice (some ⟨w.heap.size,0,none⟩) 160 160) (w.alloc (.cells (bcells (List.replicate 160 0)) 5)):=CZ w 160 160 rfl dc
def RS:List Nat:=List.replicate 160 0
theorem Y9:(Instr.makeSlice 48 (.int .i64 160) (.int .i64 160)).run prog w=.ok (.slice (some ⟨w.heap.size,0,none⟩) 160 160) (w.alloc (.cells (bcells RS) 5)):=Y8 w
theorem dp(v:Nat)(_:v<18446744073709551616):IntKind.u64.wrap (IntKind.u64.wrap ((v:Int)*6364136223846793005)+1442695040888963407)=(((v*6364136223846793005+1442695040888963407) % 18446744073709551616:Nat):Int):=by
 rw[IntKind.wrap_u64,IntKind.wrap_u64];omega
theorem jl(x:Int)(i:Nat):lcN x i<18446744073709551616:=by
 cases i with
 | zero=>
  unfold lcN;rw[IntKind.wrap_u64];omega
 | succ i=>exact Nat.mod_lt _ dc
theorem ZA(x:Int):IntKind.u64.wrap x=((lcN x 0:Nat):Int):=by
 unfold lcN;rw[IntKind.wrap_u64];omega
theorem Jy(x:Int)(w:Wd):Calls prog 17 #[.int .i64 x] w fun e w'=>e=.returned (.slice (some ⟨w.heap.size,0,none⟩) 160 160)/\Arr w' w.heap.size 5 (JA x)/\Chg No w w':=by
 have hmk:=Y9;have A0:Arr (w.alloc (.cells (bcells RS) 5)) w.heap.size 5 RS:=Arr.new w 5 _;have G0:Chg No w (w.alloc (.cells (bcells RS) 5)):=(Chg.refl _ _).alloc _;have HA0:=BE A0;have HG0:=BE G0;clear A0 G0;by_cases hx:x=0
 ·subst hx;go_enter func17,ntmps17;go_wp2;go_ret;exact⟨rfl,HA0.out,HG0.out⟩
 ·have hxb:(x == 0)=false:=by simpa using hx
  have HB:Hid (JA x=bytL x 160):=by show JA x=_;unfold JA;rw[AI hx]
  have hw0:=ZA x;have HZ:Hid (RS=Jp x 0):=by show RS=_;unfold Jp bytL RS;simp
  go_enter func17,ntmps17;go_wp2
  go_loopg [4,5] 160 (fun kx s4 s5 wr=>∃i:Nat,s5=.int .i64 i/\s4=.int .u64 (lcN x i:Nat)/\i<=160/\160 - i<=kx/\Hid (Arr wr w.heap.size 5 (Jp x i))/\Hid (Chg No w wr))
  case atStart=>exact⟨0,rfl,rfl,om,om,by rw[<-HZ.out];exact HA0.out,HG0.out⟩
  case round=>
   obtain⟨i,rfl,rfl,hi,hkx,HA,HG⟩:=hrel;by_cases hlt:i<160
   ·have hltz:(i:Int)<160:=om;have h0:(0:Int)<=i:=om;have hf:=HA.out.frozen i;have hc:=HA.out.cell i (by rw[RR x i hi];exact hlt);have e1:=dp (lcN x i) (jl x i);have hE:lcN x (i+1)=(lcN x i*6364136223846793005+1442695040888963407) % 18446744073709551616:=rfl;rw[<-hE] at e1;clear hE;have hN:=Y7 x i hlt;obtain⟨v1,hv1⟩:∃v,lcN x (i+1)=v:=⟨_,rfl⟩;rw[hv1] at e1 hN;have HV1:=BE hv1;clear hv1;generalize lcN x i=v0 at *
    have e2:((v1:Nat):Int).tdiv 1099511627776=((v1 / 1099511627776:Nat):Int):=(by rw[Int.tdiv_eq_ediv_of_nonneg om];omega);have e3:IntKind.u8.wrap ((v1 / 1099511627776:Nat):Int)=((v1 / 1099511627776 % 256:Nat):Int):=(by rw[IntKind.wrap_u8];omega);have e4:IntKind.u64.wrap ((v1 / 1099511627776:Nat):Int) % 256=((v1 / 1099511627776 % 256:Nat):Int):=(by rw[IntKind.wrap_u64];omega);have HA2:=BE (HA.out.store i (v1 / 1099511627776 % 256));rw[hN] at HA2;have HG2:=BE (HG.out.setCell (S:=fun _=>False) (g:=w.heap.size) (AL (AM _)) i (.int .u8 ((v1 / 1099511627776 % 256:Nat):Int)));generalize v1 / 1099511627776 % 256=b1 at *
    generalize v1 / 1099511627776=d1 at *
    clear hN;go_wp2
    go_roundg (160 - (i+1))
    case measure=>omega
    case rel=>exact⟨i+1,by simp,by rw[HV1.out],om,AM _,HA2.out,HG2.out⟩
   ·have hltz:¬ (i:Int)<160:=om;have e:i=160:=om;subst e;go_wp2;go_ret;refine⟨rfl,?_,HG.out⟩;have:=HA.out;rw[HB.out];unfold Jp at this;simpa using this
theorem ZB(c1 o1 n1 cap1 c2 o2 n2 cap2:Nat)(l1 l2:List Nat)(e1:n1=l1.length)(e2:n2=l2.length)(b1:Bys l1)(b2:Bys l2)(h1:At w c1 o1 l1)(h2:At w c2 o2 l2) :Calls prog 34 #[.slice (some ⟨c1,o1,none⟩) n1 cap1,.slice (some ⟨c2,o2,none⟩) n2 cap2] w fun e w'=>e=.returned (.bool (decide (l1=l2)))/\w'=w:=by
 have k1:=run_convert_bytes_arg (P:=prog) w 48 5 underlying48 underlying5 c1 o1 n1 cap1 (l1.map fun (n:Nat)=>(n:Int)) (by simp[e1]) (h1.ints e1) 9 underlying9;have k2:=run_convert_bytes_arg (P:=prog) w 48 5 underlying48 underlying5 c2 o2 n2 cap2 (l2.map fun (n:Nat)=>(n:Int)) (by simp[e2]) (h2.ints e2) 9 underlying9;have hq:=WL l1 l2 b1 b2;generalize l1.map (fun (n:Nat)=>(n:Int))=x1 at *
 generalize l2.map (fun (n:Nat)=>(n:Int))=x2 at *
 have HQ:=BE hq;clear hq e1 e2 h1 h2;go_enter func34,ntmps34;go_wp2;go_ret;exact⟨by rw[<-HQ.out];rfl,rfl⟩
def bdN (F:Nat->Int):Nat->Nat
 | 0=>0
 | n+1=>bdN F n+if F n=3 then 1 else 0
theorem dq(F:Nat->Int):∀n,bdN F n=AD.cnt F 3 n:=by
 intro n
 induction n with
 | zero=>rfl
 | succ n ih=>
  rw[bdN,AD.cnt,ih]
theorem jm(F:Nat->Int):∀n,bdN F n<=n:=by
 intro n
 induction n with
 | zero=>exact AM _
 | succ n ih=>rw[bdN];split <;> omega
theorem JB(K:BH):bdN (vwF K) 12=bad3 K.F:=by
 rw[dq];unfold bad3;have:∀n,n<=12->AD.cnt (vwF K) 3 n=AD.cnt K.F 3 n:=by
  intro n
  induction n with
  | zero=>intro _;rfl
  | succ n ih=>
   intro h;rw[AD.cnt,AD.cnt,ih om];have:vwF K n=K.F n:=by unfold vwF;rw[AJ om]
   rw[this]
 exact this 12 (AM _)
theorem JC(V:Nat->Int)(w:Wd):Calls prog 18 #[.agg (ints V 67).toArray] w fun e w'=>e=.returned (.int .i64 (bdN V 12:Nat))/\Chg No w w':=by
 have HR:=BE (IB.new w 39 67 V);have HG:Hid (Chg No w (w.alloc (.cells (ints V 67).toArray 39))):=(Chg.refl _ w).alloc _;go_enter func18,ntmps18;go_wp2;generalize w.alloc (.cells (ints V 67).toArray 39)=w1 at *
 go_loopg [3,4] 12 (fun kx s3 s4 wr=>∃i:Nat,s4=.int .i64 i/\s3=.int .i64 (bdN V i:Nat)/\i<=12/\12 - i<=kx/\wr=w1)
 case atStart=>exact⟨0,rfl,rfl,om,om,rfl⟩
 case round=>
  obtain⟨i,rfl,rfl,hi,hkx,rfl⟩:=hrel;by_cases hlt:i<12
  ·have hltz:(i:Int)<12:=om;have h0:(0:Int)<=i:=om;obtain⟨hc,-⟩:=HR.out.cell i om;have HB:Hid (bdN V (i+1)=bdN V i+if V i=3 then 1 else 0):=rfl;have hbl:=jm V i;have hbz:((bdN V i:Nat):Int)<13:=om;have hbz0:(0:Int)<=((bdN V i:Nat):Int):=om;by_cases h3:V i=3
   ·rw[h3] at hc;have HB2:Hid (bdN V (i+1)=bdN V i+1):=(by show bdN V (i+1)=_;rw[HB.out,AJ h3]);generalize bdN V i=b0 at *
    clear h3 HB;go_wp2
    go_roundg (12 - (i+1))
    case measure=>omega
    case rel=>exact⟨i+1,by simp,by rw[HB2.out];simp,om,AM _,rfl⟩
   ·have hb:(V i == 3)=false:=(by simpa using h3);have HB2:Hid (bdN V (i+1)=bdN V i):=(by show bdN V (i+1)=_;rw[HB.out,AI h3];rfl);generalize bdN V i=b0 at *
    clear HB;go_wp2
    go_roundg (12 - (i+1))
    case measure=>omega
    case rel=>exact⟨i+1,by simp,by rw[HB2.out],om,AM _,rfl⟩
  ·have hltz:¬ (i:Int)<12:=om;have e:i=12:=om;subst e;go_wp2;go_ret;exact⟨rfl,HG.out⟩
end
end Go.Proofs.YtmdpnpjacfedpaaGreat
namespace Go.Proofs.YtmdpnpjacfedpaaGreat
open List
open Go.Proofs.Tryz
open Go.RowKit
open Go.Proofs.YtmdpnpjacfedpaaGreat.AE (Bc Sl Ow Fo LZ fA fL lv newest)
section
variable {T:Fq}{i p:Nat}{t:CP}{D:List Nat}
theorem JD(w:Wd):(binOp .neq 46 .nilIface .nilIface).run prog w=.ok (.bool false) w:=kr
theorem JR(g:Nat)(s:BM)(hs:s.Ok)(a k:Nat)(ha:a<96)(hk:k<4)(w:Wd)(h:BI w g s)(his:(s.ch (4*a+k)).is=true) :Calls prog 70 #[.pointer (some ⟨g,0,none⟩),.int .i64 a,.int .i64 k] w fun e w'=>e=.returned (.tuple #[.slice (some ⟨w.heap.size,0,none⟩) 58 64,.bool true])/\Arr w' w.heap.size 5 (s.ch (4*a+k)).tru/\Chg No w w':=by
 have ht:=Ie g s hs a k ha hk w h;rw[his] at ht;have q:=JD;clear h his hs;generalize (s.ch (4*a+k)).tru=l at *
 go_enter func70,ntmps70;go_wp2_with fail;refine ht.mono ?_;rintro e w1 ⟨rfl,hA,hG⟩;have HA:=BE hA;have HG:=BE hG;clear hA hG ht;go_wp2;go_ret2;exact⟨rfl,HA.out,HG.out⟩
theorem RT(g:Nat)(s:BM)(hs:s.Ok)(a k:Nat)(ha:a<96)(hk:k<4)(w:Wd)(h:BI w g s)(his:(s.ch (4*a+k)).is=false) :Calls prog 70 #[.pointer (some ⟨g,0,none⟩),.int .i64 a,.int .i64 k] w fun e w'=>e=.returned (.tuple #[.slice none 0 0,.bool false])/\Chg No w w':=by
 have ht:=Ie g s hs a k ha hk w h;rw[his] at ht;have q:=JD;clear h his hs;generalize (s.ch (4*a+k)).tru=l at *
 go_enter func70,ntmps70;go_wp2_with fail;refine ht.mono ?_;rintro e w1 ⟨rfl,hA,hG⟩;have HG:=BE hG;clear hA hG ht;go_wp2;go_ret2;exact⟨rfl,HG.out⟩
theorem U6(w:Wd)(p a b c d:Int)(l:Bool):(Instr.build 149 #[(0,.int .i64 p),(1,.agg #[.int .i64 a,.int .i64 b,.int .i64 c,.int .i64 d,.bool l])]).run prog w=.ok (.agg #[.int .i64 p,.int .i64 a,.int .i64 b,.int .i64 c,.int .i64 d,.bool l]) w:=kr
theorem ZC(h:T i=none):tbL T (i+1)=tbL T i:=by
 rw[tbL];unfold jj;rw[h];exact append_nil _
theorem ZD(h:T i=some (t,D)):tbL T (i+1)=tbL T i ++ [fnd i t]:=by
 rw[tbL];unfold jj;rw[h]
theorem U7{s:BM}(h:JY s T)(hT:T p=some (t,D)):(s.ch (4*p+3)).tru.take 58=body t.p t.o t.q t.c t.l ++ mk/\(s.ch (4*p+3)).tru.length=64:=by
 obtain⟨_,hE⟩:=h.ent p t D hT;have e:=(h.is p t D hT 3 om).2;rw[e,IZ hE.len (BS _ _ _ _ _) 3 om,N1 hE.len (BS _ _ _ _ _)];exact⟨rfl,EN hE.len hE.bys (BS _ _ _ _ _) (Ce _ _ _ _ _) 3 om⟩
theorem NW{l:List Nat}{n:Nat}(h:i<n):(l.take n).getD i 0=l.getD i 0:=by
 simp only[AQ,List.getElem?_take_of_lt h]
theorem du(hE:YR p t D){e:Ending}(h:YN (body t.p t.o t.q t.c t.l) e):e=.returned (.tuple #[.agg #[.int .i64 (t.p:Nat),.int .i64 (t.o:Nat),.int .i64 (t.q:Nat),.int .i64 (t.c:Nat),.bool t.l],.bool true]):=by
 have hb:=MZ t.p t.o t.q t.c t.l hE.may;obtain⟨f1,f2,f3,f4,f5⟩:=Ho t.p t.o t.q t.c t.l hE.may;rcases h with ⟨_,h⟩ | ⟨h,_⟩
 ·rw[f1,f2,f3,f4,f5] at h;exact h
 ·exact absurd hb h
theorem Pn(g:Nat)(s:BM)(hs:s.Ok)(T:Fq)(hR:JY s T)(w:Wd)(h:BI w g s) :Calls prog 27 #[.pointer (some ⟨g,0,none⟩)] w fun e w'=>∃v',e=.returned v'/\Sl w' v' (tbL T 96)/\Chg No w w':=by
 have HC:=BE h;have HS:=BE hs;have HR:=BE hR;clear h hs hR;have hb:=U6;go_enter func27,ntmps27;go_wp2
 go_loopg [3,4] 96 (fun kx s3 s4 wr=>∃i:Nat,s4=.int .i64 i/\i<=96/\96 - i<=kx/\Hid (Ow wr w.heap.size s3 (tbL T i))/\Hid (Chg No w wr))
 case atStart=>exact⟨0,rfl,om,om,Ow.nil w _,Chg.refl _ w⟩
 case round=>
 obtain⟨i,rfl,hi,hkx,HO,HG⟩:=hrel;by_cases hlt:i<96
 ·have hltz:(i:Int)<96:=om
  have h0:(0:Int)<=i:=om
  have HCr:=BE (HC.out.chg HG.out (fun f=>f));rcases hT:T i with _ | ⟨t,D⟩
  ·have HN:=BE (ZC hT);have hm:=RT g s HS.out i 3 hlt dc wr HCr.out (HR.out.non i hlt hT);clear hT;go_wp2_with fail;refine hm.mono ?_;rintro e w1 ⟨rfl,hG1⟩;have HG1:=BE (HG.out.trans hG1);have HO1:=BE (HO.out.new hG1);clear hG1 hm HO HG HCr;go_wp2
   go_roundg (96 - (i+1))
   case measure=>omega
   case rel=>
    refine⟨i+1,by simp,om,AM _,?_,HG1.out⟩;show Ow _ _ _ _;rw[HN.out];exact HO1.out
  ·have HN:=BE (ZD hT);have hm:=JR g s HS.out i 3 hlt dc wr HCr.out (HR.out.is i t D hT 3 dc).1;obtain⟨e1,e2⟩:=U7 HR.out hT;have HE:=BE (HR.out.ent i t D hT).2;have hpl:t.p=i:=HE.out.pl;generalize (s.ch (4*i+3)).tru=L at *
   have HE1:=BE e1;have HE2:=BE e2;have hll:=Gz T i;clear e1 e2 hT;go_wp2_with fail;refine hm.mono ?_;rintro e w1 ⟨rfl,hA1,hG1⟩;have HG1:=BE (HG.out.trans hG1);have HO1:=BE (HO.out.new hG1);have HA1:=BE hA1;clear hG1 hm HO HG HCr hA1;have hmk:=Nz w1 wr.heap.size 0 64 (L.take 58) (by rw[HE1.out,AV,BS,Dd]) HA1.out.lt (fun j hj=>by
    have hj':j<58:=by rw[length_take] at hj;omega
    rw[NW hj',AW]
    exact HA1.out.cell j (by rw[HE2.out];omega))
   rw[show decide ((L.take 58).drop 50=mk)=true from AO (by rw[HE1.out,drop_left' (BS _ _ _ _ _)])] at hmk;go_wp2_with fail;refine hmk.mono ?_;rintro e w2 ⟨rfl,hG2⟩;have HG2:=BE (HG1.out.trans hG2);have HO2:=BE (HO1.out.new hG2);have HA2:=BE (HA1.out.chg hG2 (fun f=>f));clear hG2 hmk HG1 HO1 HA1;have htg:=YO w2 wr.heap.size 0 64 (body t.p t.o t.q t.c t.l) (Ce _ _ _ _ _) (BS _ _ _ _ _) dc ⟨HA2.out.lt,fun j hj=>by
    rw[BS] at hj
    rw[AW,HA2.out.cell j (by rw[HE2.out];omega)]
    have:L.getD j 0=(body t.p t.o t.q t.c t.l).getD j 0:=by
     rw[<-NW (show j<58 by omega),HE1.out]
     simp only[AQ]
     rw[Af (by rw[BS];exact hj)]
    rw[this]⟩
   go_wp2_with fail;refine htg.mono ?_;rintro e w3 ⟨hans,hG3⟩;have ee:=du HE.out hans;subst ee;have HG3:=BE (HG2.out.trans hG3);have HO3:=BE (HO2.out.new hG3);clear hG3 htg HG2 HO2 HA2 hans;rw[hpl];have HF:Hid (fnd i t=((i:Int),(i:Int),(t.o:Int),(t.q:Int),(t.c:Int),t.l)):=(by show fnd i t=_;unfold fnd;rw[hpl]);generalize t.o=tO at *
   generalize t.q=tq at *
   generalize t.c=tc at *
   generalize t.l=tl at *
   go_wp2_with (refine AE.DF (f:=((i:Int),(i:Int),(tO:Int),(tq:Int),(tc:Int),tl)) rfl (.tmp 43) rfl rfl (w3.heap.size+1) (World.size_alloc _ _) ?_);intro w4 K4 G4;have G34:Chg No w3 w4:=((Chg.refl _ w3).alloc _).trans G4;have HO4:=BE (HO3.out.new G34);have HG4:=BE (HG3.out.trans G34);have HA4:=BE (LZ.one K4);have hb4:w.heap.size<=w4.heap.size:=HG4.out.size;clear K4 G4 G34 HO3 HG3;go_wp2_with (refine AE.CX w4 rfl (.tmp 40) (.tmp 44) rfl w.heap.size u3 _ rfl HO4.out (w3.heap.size+1) 0 1 1 [((i:Int),(i:Int),(tO:Int),(tq:Int),(tc:Int),tl)] rfl rfl HA4.out om hb4 ?_);intro v' w5 O5 G5;have HO5:=BE O5;have HG5:Hid (Chg No w w5):=BE (HG4.out.trans' G5 fun k hk h=>by
    have:=HO4.out.block h
    omega)
   clear O5 G5;go_wp2
   go_roundg (96 - (i+1))
   case measure=>omega
   case rel=>
    refine⟨i+1,by simp,om,AM _,?_,HG5.out⟩;show Ow _ _ _ _;rw[HN.out,HF.out];exact HO5.out
 ·have hltz:¬ (i:Int)<96:=om
  have e:i=96:=om
  subst e;go_wp2;go_ret;exact⟨_,rfl,HO.out.sl,HG.out⟩
end
end Go.Proofs.YtmdpnpjacfedpaaGreat
namespace Go.Proofs.YtmdpnpjacfedpaaGreat
open List
open Go.Proofs.Tryz
open Go.RowKit
open Go.Proofs.YtmdpnpjacfedpaaGreat.AE (Bc Sl Ow Fo LZ fA fL lv newest A25)
theorem Bs.more{w2 wr w':Wd}{v:Value}{L:List Nat}(h:Bs w2 wr v L)(hG:Chg No wr w'):Bs w2 w' v L:=⟨h.1.chgF hG,h.2.trans hG⟩
def dv (M:List Nat):Nat->List Nat
 | 0=>[]
 | i+1=>dv M i ++ part 58 M i
theorem RU{M:List Nat}(h:M.length=4*58):∀i,i<=3->(dv M i).length=58*i:=by
 intro i
 induction i with
 | zero=>intro _;rfl
 | succ i ih=>
  intro hi;rw[dv,AV,ih om,Cm h i om];omega
theorem jn(g:Nat)(s:BM)(hs:s.Ok)(T:Fq)(hR:JY s T)(p:Nat)(t:CP)(D:List Nat)(hT:T p=some (t,D))(w:Wd)(h:BI w g s) :Calls prog 69 #[.pointer (some ⟨g,0,none⟩),.int .i64 p] w fun e w'=>∃v,e=.returned v/\Own w' w.heap.size 5 v D/\Chg No w w':=by
 obtain⟨hp,hE⟩:=hR.ent p t D hT;have hi5:=EG;have HC:=BE h;have HS:=BE hs;have hml:=Gi hE.len (BS t.p t.o t.q t.c t.l);have HI:Hid (∀k,k<3->(s.ch (4*p+k)).is=true/\(s.ch (4*p+k)).tru.take 58=part 58 (msgOf D (body t.p t.o t.q t.c t.l)) k/\(s.ch (4*p+k)).tru.length=64):=fun k hk=>by
  obtain⟨i1,i2⟩:=hR.is p t D hT k om;refine⟨i1,?_,?_⟩
  ·rw[i2,IZ hE.len (BS _ _ _ _ _) k om]
  ·rw[i2,EN hE.len hE.bys (BS _ _ _ _ _) (Ce _ _ _ _ _) k om]
 have HD:Hid (dv (msgOf D (body t.p t.o t.q t.c t.l)) 3=D):=by
  show dv _ 3=D;simp only[dv,A7];exact N0 hE.len
 generalize msgOf D (body t.p t.o t.q t.c t.l)=M at *
 have HAL:=BE (RU hml);have HPL:=BE (Cm hml);have HP:=BE hp;clear h hs hR hT hE hml hp;have HPB:Hid (((p:Int)<96)/\(0:Int)<=p):=by have:=HP.out;exact⟨om,om⟩
 go_enter func69,ntmps69;go_wp2
 go_loopg [5,6] 3 (fun kx s5 s6 wr=>∃i:Nat,s6=.int .i64 i/\i<=3/\3 - i<=kx/\Hid (Bs w wr s5 (dv M i)))
 case atStart=>exact⟨0,rfl,om,om,⟨Own.nil w _ 5,Chg.refl _ w⟩⟩
 case round=>
 obtain⟨i,rfl,hi,hkx,HB⟩:=hrel;by_cases hlt:i<3
 ·have hltz:(i:Int)<3:=om
  have h0:(0:Int)<=i:=om
  obtain⟨i1,i2,i3⟩:=HI.out i hlt;have hm:=JR g s HS.out p i HP.out om wr (HC.out.chg HB.out.2 (fun f=>f)) i1;generalize (s.ch (4*p+i)).tru=L at *
  have HE2:=BE i2;have HE3:=BE i3;clear i1 i2 i3;obtain⟨a5,c5,hv5⟩:=HB.out.slice;have hal:=HAL.out i hi;rw[hal] at hv5;subst hv5;go_wp2_with fail;refine hm.mono ?_;rintro e w1 ⟨rfl,hA1,hG1⟩;have HB1:=BE (HB.out.more hG1);have HA1:=BE hA1;clear hm hA1 hG1 HB;go_wp2_with (at_builtin;refine BK _ rfl _ _ 48 rfl w.heap.size 5 underlying48 hi5 _ (dv M i) rfl HB1.out.1 (some ⟨wr.heap.size,0,none⟩) 58 64 (part 58 M i) rfl ?h0 ?h1 ?h2 ?h3 ?h4 w1.heap.size rfl ?_)
  case h0=>exact HPL.out i om
  case h1=>exact fun e=>by cases e
  case h2=>
   intro ad had j hj;injection had with had;subst had;rw[Addr.add_mid,AW,<-HE2.out,NW hj];exact HA1.out.cell j (by rw[HE3.out];omega)
  case h3=>rw[HAL.out i hi];omega
  case h4=>exact HB1.out.2.size
  intro v3 w3 O3 g3 _;have HB3:Hid (Bs w w3 v3 (dv M (i+1))):=HB1.out.grown O3 g3;clear O3 g3;go_wp2
  go_roundg (3 - (i+1))
  case measure=>omega
  case rel=>exact⟨i+1,by simp,om,AM _,HB3.out⟩
 ·have hltz:¬ (i:Int)<3:=om
  have e:i=3:=om
  subst e;go_wp2;go_ret;have:=HB.out;rw[HD.out] at this;exact⟨_,rfl,this.1,this.2⟩
theorem Sv(g:Nat)(s:BM)(hs:s.Ok)(T:Fq)(hR:JY s T)(p:Nat)(t:CP)(D:List Nat)(hT:T p=some (t,D))(w:Wd)(h:BI w g s)(a:Option Addr)(n cap:Nat)(hn:n=(tbL T 96).length)(hl:Sl w (.slice a n cap) (tbL T 96))(hN:newest (tbL T 96) 24 (-1)=some (fnd p t))(hd:AA.gZ D)(cc:AA.Bn)(hcc:AA.rdC D=cc) :Calls prog 26 #[.pointer (some ⟨g,0,none⟩),.slice a n cap] w fun e w'=>e=.returned (.tuple #[.agg (AA.ckA cc),.bool true])/\Chg No w w':=by
 have HC:=BE h;have HS:=BE hs;have HR:=BE hR;have HT:=BE hT;have HE:=BE (hR.ent p t D hT).2;have HD:=BE hd;have HCC:=BE hcc;have HL:=BE hl;have HNL:=BE hn;have hn9:n<2932031007402:=by have:=Gz T 96;omega
 have HV:Hid (AE.XB (newest (tbL T 96) 24 (-1))=.tuple #[.agg (fA (fnd p t)),.bool true]):=by show AE.XB _=_;rw[hN];rfl
 have HK0:=BE (AA.Ck.new w AA.ck0);have HG0:Hid (Chg No w (w.alloc (.cells (AA.ckA AA.ck0) 55))):=(Chg.refl _ w).alloc _;clear h hs hR hT hd hl hn hN hcc;go_enter func26,ntmps26;go_wp2_with (refine AA.CK rfl rfl w.heap.size rfl ?_);generalize w.alloc (.cells (AA.ckA AA.ck0) 55)=w0 at *
 refine(AE.Gs w0 a cap _ n HNL.out 24 (-1) (HL.out.new HG0.out) hn9 HV.out).mono ?_;rintro e w1 ⟨rfl,G1⟩;have HG1:=BE (HG0.out.trans G1);have HK1:=BE (HK0.out.chg G1 (fun f=>f));clear G1 HG0 HK0 HL;go_wp2_with (refine AE.Bh rfl rfl w1.heap.size rfl ?_);intro w2 F2 G2 S2;have HF2:=BE F2;clear F2;go_wp2_with (refine AE.wpList_store_fo rfl (.tmp 6) (.tmp 13) rfl w1.heap.size rfl rfl HF2.out ?_);intro w3 F3 G3;have G13:Chg No w1 w3:=G2.trans' G3 (fun k hk h=>om);have HG3:=BE (HG1.out.trans G13);have HK3:=BE (HK1.out.chg G13 (fun f=>f));obtain⟨k0,-,-,-,-,-⟩:=F3.cells;have k0':w3.cell? ⟨w1.heap.size,0,none⟩=some (.int .i64 (p:Nat)):=k0;clear F3 G2 G3 G13 HF2 S2 HG1 HK1 k0;have hdt:=jn g s HS.out T HR.out p t D HT.out w3 (HC.out.chg HG3.out (fun f=>f));go_wp2_with fail;refine hdt.mono ?_;rintro e w4 ⟨v,rfl,O4,G4⟩;obtain⟨gd,cd,rfl,hgd,hgs,hcd,hcl,-⟩:=O4.lies (by rw[HE.out.len];decide);have HG4:=BE (HG3.out.trans G4);have HK4:=BE (HK3.out.chg G4 (fun f=>f));have hln:=HE.out.len;rw[hln] at hcd;have HCL:=BE hcl;have HGS:=BE hgs;clear O4 G4 hdt HG3 HK3 hcl hgd hgs k0';have hrd:=AA.UG w4 gd 0 cd D HE.out.bys hln hcd ⟨HGS.out,fun i hi=>by rw[AW];exact HCL.out i hi⟩ HD.out;rw[HCC.out] at hrd;rw[hln];have HLN:=BE hln;clear hln;go_wp2_with fail;refine hrd.mono ?_;rintro e w5 ⟨rfl,G5⟩;have HG5:=BE (HG4.out.trans G5);have HK5:=BE (HK4.out.chg G5 (fun f=>f));have HN5:=BE (AA.Ck.new w5 AA.ck0);have HGA:Hid (Chg No w5 (w5.alloc (.cells (AA.ckA AA.ck0) 55))):=(Chg.refl _ w5).alloc _;have hsz:w.heap.size<w5.heap.size:=HK5.out.lt;clear G5 hrd HG4 HK4;go_wp2_with (first | refine AA.CK rfl rfl w5.heap.size rfl ?_ | refine AA.Bv rfl (.tmp 8) (.tmp 24) rfl w5.heap.size rfl rfl HN5.out ?_);intro w7 N7 G7;have HK7:=BE ((HK5.out.chg HGA.out (fun f=>f)).chg G7 om);have HN7:=BE N7;have HG7:=BE ((HG5.out.trans HGA.out).trans' G7 (fun k hk h=>by have:=HG5.out.size;omega));clear N7 G7;go_wp2_with (first | refine AA.Ba rfl (.tmp 8) rfl w5.heap.size rfl HN7.out ?_ | refine AA.Bv rfl (.tmp 4) (.tmp 26) rfl w.heap.size rfl rfl HK7.out ?_);intro w8 N8 G8;have HN8:=BE N8;have HG8:=BE (HG7.out.trans' G8 (fun k hk h=>om));clear N8 G8;go_wp2;refine AZ (AA.KY rfl _ rfl HN8.out) rfl ?_;exact⟨rfl,HG8.out⟩
theorem Po{fn:Func}{q u:Tmp}(h:fn.results=#[.cell q 37,.tmp u])(tmps:Array Value){w:Wd}{g:Nat}{F:Nat->Int}(hp:tmps.getD q undef=.pointer (some ⟨g,0,none⟩))(hT:A25 w g F) :(results fn tmps).run prog w=.ok (.tuple #[.agg (ints F 25).toArray,tmps.getD u undef]) w:=by
 rw[results_cell_tmp h,hp];simp[asAddr,run_loadVar_row w g 37 37 _ _ _ hT underlying37 rfl (by rw[AE.DQ];exact AE.Kn)]
theorem ZE(g:Nat)(s:BM)(hs:s.Ok)(T:Fq)(hR:JY s T)(p:Nat)(t:CP)(D:List Nat)(hT:T p=some (t,D))(w:Wd)(h:BI w g s)(hN:newest (tbL T 96) 24 (-1)=some (fnd p t))(hd:AA.gZ D)(cc:AA.Bn)(hcc:AA.rdC D=cc) :Calls prog 44 #[.pointer (some ⟨g,0,none⟩)] w fun e w'=>e=.returned (.tuple #[.agg (ints (lv (tbL T 96) cc) 25).toArray,.bool true])/\Chg No w w':=by
 have HC:=BE h;have HS:=BE hs;have HR:=BE hR;have HT:=BE hT;have HN:=BE hN;have HD:=BE hd;have HCC:=BE hcc;clear h hs hR hT hN hd hcc;go_enter func44,ntmps44;go_wp2_with (refine AE.CL rfl rfl w.heap.size rfl ?_);intro w0 A0 G0 S0;have HA0:=BE A0;have HG0:=BE G0;clear A0 G0 S0;go_wp2_with fail;refine(Pn g s HS.out T HR.out w0 (HC.out.chg HG0.out (fun f=>f))).mono ?_;rintro e w1 ⟨v1,rfl,hl,G1⟩;obtain⟨a,cap,rfl,hcap,hll⟩:=hl;have HL:Hid (Sl w1 (.slice a (tbL T 96).length cap) (tbL T 96)):=⟨a,cap,rfl,hcap,hll⟩;have HG1:=BE (HG0.out.trans G1);have HA1:=BE (HA0.out.chg G1 (fun f=>f));have hn9:(tbL T 96).length<2932031007402:=by have:=Gz T 96;omega
 have HNE:Hid ((tbL T 96).length=(tbL T 96).length):=rfl;clear G1 hcap hll HG0 HA0;go_wp2_with fail;refine(Sv g s HS.out T HR.out p t D HT.out w1 (HC.out.chg HG1.out (fun f=>f)) a _ cap rfl HL.out HN.out HD.out cc HCC.out).mono ?_;rintro e w2 ⟨rfl,G2⟩;have HG2:=BE (HG1.out.trans G2);have HA2:=BE (HA1.out.chg G2 (fun f=>f));have HL2:=BE (HL.out.new G2);have HN2:=BE (AA.Ck.new w2 AA.ck0);have HGA:Hid (Chg No w2 (w2.alloc (.cells (AA.ckA AA.ck0) 55))):=(Chg.refl _ w2).alloc _;have hsz:w.heap.size<w2.heap.size:=HA2.out.lt;clear G2 HG1 HA1 HL;go_wp2_with (first | refine AA.CK rfl rfl w2.heap.size rfl ?_ | refine AA.Bv rfl (.tmp 5) (.tmp 13) rfl w2.heap.size rfl rfl HN2.out ?_);intro w4 N4 G4;have G24:Chg No w2 w4:=HGA.out.trans' G4 (fun k hk h=>om);have HG4:=BE (HG2.out.trans G24);have HA4:=BE (HA2.out.chg G24 (fun f=>f));have HL4:=BE (HL2.out.new G24);have HN4:=BE N4;clear N4 G4 G24 HN2 HGA HG2 HA2 HL2;go_wp2_with (refine AA.Ba rfl (.tmp 5) rfl w2.heap.size rfl HN4.out ?_);refine(AE.UM w4 a cap (tbL T 96) _ rfl cc HL4.out hn9).mono ?_;rintro e w5 ⟨rfl,G5⟩;have HG5:=BE (HG4.out.trans G5);have HA5:=BE (HA4.out.chg G5 (fun f=>f));clear G5 HG4 HA4 HL4;go_wp2_with (refine AE.DH rfl (.tmp 2) (.tmp 20) rfl w.heap.size rfl rfl HA5.out ?_);intro w6 A6 G6;have HA6:=BE A6;have HG6:=BE (HG5.out.trans' G6 (fun k hk h=>om));clear A6 G6;go_wp2;refine AZ (Po rfl _ rfl HA6.out) rfl ?_;exact⟨rfl,HG6.out⟩
end Go.Proofs.YtmdpnpjacfedpaaGreat
namespace Go.Proofs.YtmdpnpjacfedpaaGreat
open List
open Go.Proofs.Tryz
open Go.RowKit
open Go.Proofs.YtmdpnpjacfedpaaGreat.AE (lv newest A25)
section
variable {i b:Nat}{F L:Nat->Int}(w:Wd)(K:BH)
theorem dx(g:Nat)(s:BM)(hs:s.Ok)(b:Nat)(hb:b<12)(w:Wd)(h:BI w g s)(hE:∀i,i<8->Erd s (b*8+i)) :Calls prog 42 #[.pointer (some ⟨g,0,none⟩),.int .i64 b] w fun e w'=>e=.returned (.bool true)/\Chg No w w':=by
 have HC:=BE h;have HS:=BE hs;have HE:=BE hE;have q:=JD;have hbz:(b:Int)<12:=om
 have hbz0:(0:Int)<=b:=om
 clear h hs hE;go_enter func42,ntmps42;go_wp2
 go_loopg [5] 8 (fun kx s5 wr=>∃i:Nat,s5=.int .i64 i/\i<=8/\8 - i<=kx/\Hid (Chg No w wr))
 case atStart=>exact⟨0,rfl,om,om,Chg.refl _ w⟩
 case round=>
 obtain⟨i,rfl,hi,hkx,HG⟩:=hrel;by_cases hlt:i<8
 ·have hltz:(i:Int)<8:=om
  have hi0:(0:Int)<=i:=om
  go_wp2
  go_loopg [6] 4 (fun ky s6 wx=>∃k:Nat,s6=.int .i64 k/\k<=4/\4 - k<=ky/\Hid (Chg No w wx))
  case atStart=>exact⟨0,rfl,om,om,HG.out⟩
  case round=>
  obtain⟨k,rfl,hk,hky,HX⟩:=hrel;by_cases hkt:k<4
  ·have hktz:(k:Int)<4:=om;have hk0:(0:Int)<=k:=om;have ht:=Ie g s HS.out (b*8+i) k om hkt wr (HC.out.chg HX.out (fun f=>f));rw[HE.out i hlt k hkt,show (((b*8+i:Nat):Int))=(b:Int)*8+(i:Int) by omega] at ht;go_wp2_with fail;refine ht.mono ?_;rintro e w1 ⟨rfl,-,hG1⟩;have HG1:=BE (HX.out.trans hG1);clear hG1 ht HX;go_wp2
   go_roundg (4 - (k+1))
   case measure=>omega
   case rel=>exact⟨k+1,by simp,om,AM _,HG1.out⟩
  ·have hktz:¬ (k:Int)<4:=om;go_wp2
   go_roundg (8 - (i+1))
   case measure=>omega
   case rel=>exact⟨i+1,by simp,om,AM _,HX.out⟩
 ·have hltz:¬ (i:Int)<8:=om
  go_wp2;go_ret;exact⟨rfl,HG.out⟩
theorem Pp(h:i<12):vwF K i=K.F i:=by unfold vwF;rw[AJ h]
theorem NX(h:i<25):vwF K (12+i)=K.L i:=by unfold vwF;rw[AI om,AJ om,show 12+i - 12=i by omega]
theorem Sw:prog.plainKey 3=true:=kr
theorem Sx:prog.cellsOf 3=1:=kr
theorem ZF:∃i,prog.info? 3=some i:=Option.isSome_iff_exists.1 kr
theorem LN(d:Nat)(A:Array Value)(w:Wd)(is:List Nat)(hin:∀i ∈ is,∃z,A[i]?=some (.int .i64 z)) :(Op.eqItems (d+1) 3 1 A A is).run prog w=.ok true w:=by
 induction is with
 | nil=>simp[Op.eqItems]
 | cons i is ih=>
  have ih:=ih (fun j hj=>hin j (by simp[hj]));obtain⟨z,hz⟩:=hin i (by simp);have p1:=run_part_plain (P:=prog) w Sw (xs:=A) (off:=i*1) (by rw[Nat.mul_one];exact hz);have p3:=run_equalIn_int (P:=prog) w d 3 .i64 .i64 z z underlying3;simp only[Op.eqItems,Sem.run_bind,p1,p3,Result.andThen_ok,beq_self_eq_true];simpa using ih
theorem LO(d:Nat)(w:Wd)(f:Nat->Int):(Op.equalIn (d+2) 37 (.agg (ints f 25).toArray) (.agg (ints f 25).toArray)).run prog w=.ok true w:=by
 obtain⟨i,hi⟩:=ZF;rw[run_equalIn_array w (d+1) _ _ underlying37 hi,Sx];refine LN d _ w _ (fun i hi=>⟨f i,?_⟩);have:=BU f 25 i (mem_range.1 hi);simpa[i6] using this
theorem dy(f:Nat->Int):(binOp .eql 37 (.agg (ints f 25).toArray) (.agg (ints f 25).toArray)).run prog w=.ok (.bool true) w:=by
 rw[run_eql_struct,show (10000:Nat)=9998+2 from rfl,LO];rfl
theorem VA(op:BinOp)(x y:Operand)(xs ys:Array Value):(eqGuard op 37 x y (.agg xs) (.agg ys)).run prog w=.ok () w:=run_eqGuard_agg w op 37 x y xs ys kr
theorem FM{ops:Array Oper}{rest:List Oper}{o:Oper}{a:Act}{w:Wd}{Q:Exit->Act->World->Prop}(hw:Region.wanted o (yielded ops a.tmps)=true)(x:Operand)(ho:o.op=.load 37 x)(b off:Nat)(hx:a.eval x=.pointer (some ⟨b,off,none⟩))(hc:w.rangeAt b off (ints F 25))(h:wpList prog ops Q rest (a.put o.dst (.agg (ints F 25).toArray)) w):wpList prog ops Q (o :: rest) a w:=
 wpList_step fun _ hK=>by
  rw[AJ hw]
  exact wp_load_mid 37 x ho b off hx (ints F 25) _ hc underlying37 rfl (by rw[BF];exact AE.Kn) (hK _ _ h)
theorem IB.range{w:Wd}{n:Nat}{t:TypeId}(h:IB w b t n F)(off m:Nat)(hm:off+m<=n):w.rangeAt b off (ints (fun i=>F (off+i)) m):=fun j v hv=>by
 have hj:j<m:=by have:=(List.getElem?_eq_some_iff.1 hv).1;rw[BF] at this;exact this
 rw[BU _ _ _ hj] at hv
 rw[(h.cell (off+j) om).1]
 rw[<-hv]
 rfl
theorem A25.range{w:Wd}(h:A25 w b F):w.rangeAt b 0 (ints F 25):=fun j v hv=>by
 have hj:j<25:=by have:=(List.getElem?_eq_some_iff.1 hv).1;rw[BF] at this;exact this
 rw[BU _ _ _ hj] at hv
 rw[AW,(h.cell j hj).1,<-hv]
 rfl
def cn (V:Nat->Int) (i s:Nat):Int:=((AD.cnt V (s:Int) i:Nat):Int)
theorem ZG(V:Nat->Int)(i s:Nat):0<=cn V i s/\cn V i s<=i:=by
 have:∀i,AD.cnt V (s:Int) i<=i:=by
  intro i
  induction i with
  | zero=>exact AM _
  | succ i ih=>rw[AD.cnt];split <;> omega
 have:=this i;unfold cn;omega
theorem dz{V:Nat->Int}{x:Nat}(hx:V i=(x:Int))(s:Nat):cn V (i+1) s=upd (cn V i) x (cn V i x+1) s:=by
 unfold cn;rw[AD.cnt];by_cases e:s=x
 ·subst e;rw[AJ hx,Bb];omega
 ·rw[AI (by rw[hx];omega),BT _ _ e];rfl
theorem jo:(zeroValue 85).run prog w=.ok (.agg (ints (fun _=>0) 4).toArray) w:=kr
theorem jp:(zeroValue 87).run prog w=.ok (.agg (bools (fun _=>false) 96).toArray) w:=kr
def Pq (L:Nat->Int):Nat->Nat->Bool
 | 0,_=>false
 | i+1,p=>Pq L i p || decide (L i=(p:Int))
theorem jq{p:Nat}(h:∀j,j<i->L j≠(p:Int)):Pq L i p=false:=by
 induction i with
 | zero=>rfl
 | succ i ih=>
  rw[Pq,ih (fun j hj=>h j om),AN (h i om)];rfl
theorem ZH{m:Nat}(h:L i=(m:Int))(p:Nat):Pq L (i+1) p=upd (Pq L i) m true p:=by
 rw[Pq,h];by_cases e:p=m
 ·subst e;unfold upd;rw[AJ rfl];simp
 ·unfold upd;rw[AI e,AN om];simp
theorem ZI(h:L i = -1)(p:Nat):Pq L (i+1) p=Pq L i p:=by
 rw[Pq,h,AN om];simp
theorem ZJ{K:BH}{G:Bk}{X:Nat->Prop}(h:Sit K G X):AD.cnt K.F 1 12<=1:=by
 have:∀n,n<=12->AD.cnt K.F 1 n<=if K.fr.o=true/\K.fr.k<n then 1 else 0:=by
  intro n
  induction n with
  | zero=>intro _;exact Ac _
  | succ n ih=>
   intro hn;have:=ih om;rw[AD.cnt];have ho:=h.opn n om;by_cases e:K.F n=1
   ·obtain⟨e1,e2⟩:=ho.1 e;rw[AJ e,AJ ⟨e1,om⟩];rw[AI om] at this;omega
   ·rw[AI e];split at this
    ·rename_i c;rw[AJ ⟨c.1,om⟩];omega
    ·omega
 have:=this 12 (AM _);split at this <;> omega
theorem ZK(s:Nat):cn (vwF K) 12 s=((AD.cnt K.F (s:Int) 12:Nat):Int):=by
 unfold cn;have:∀n,n<=12->AD.cnt (vwF K) (s:Int) n=AD.cnt K.F (s:Int) n:=by
  intro n
  induction n with
  | zero=>intro _;rfl
  | succ n ih=>
   intro h;rw[AD.cnt,AD.cnt,ih om,Pp K om]
 rw[this 12 (AM _)]
theorem ZL(m o:Nat)(h:0<=(m:Int)/\(m:Int)<96)(ho:0<=(o:Int)/\(o:Int)<25)(hm:(o:Int)=24\/(m:Int) % 8<6):Calls prog 43 #[.int .i64 m,.int .i64 o] w fun e w'=>e=.returned (.tuple #[.bool true,.int .i64 0])/\w'=w:=by
 have:=AB.UW w m o h ho;rw[AO hm] at this;exact this
theorem Pr(g:Nat)(K:BH)(G:Bk)(h:Ivk K G)(h24:K.L 24≠-1)(w:Wd)(hC:BI w g K.s) :Calls prog 12 #[.pointer (some ⟨g,0,none⟩),.agg (ints (vwF K) 67).toArray] w fun e w'=>e=.returned (.bool true)/\Chg No w w':=by
 obtain⟨on,X,hs,hd⟩:=h;have HS:=BE hs;have HC:=BE hC;have H24:=BE h24;have HCN:Hid (cn (vwF K) 12 1<=1/\(2<cn (vwF K) 12 3<->2<bad3 K.F)/\(¬ 2<bad3 K.F->¬ cn (vwF K) 12 0<1+2*(2 - cn (vwF K) 12 3))):=by
  show _/\_/\_;rw[ZK,ZK,ZK];have e3:AD.cnt K.F ((3:Nat):Int) 12=bad3 K.F:=rfl;have e0:AD.cnt K.F ((0:Nat):Int) 12=fre K.F:=rfl;have e1:=ZJ hs;rw[e3,e0];refine⟨by show ((AD.cnt K.F 1 12:Nat):Int)<=1;omega,om,fun hb=>?_⟩;have hdd:K.dd=false:=by
   cases e:K.dd
   ·rfl
   ·exact absurd (hs.dds.1 e) hb
  have:=(hd hdd).2.1;unfold Rm at this;omega
 have HBL:Hid (∀o,o<25->K.L o≠-1->K.F ((K.L o).toNat / 8)≠0/\(K.F ((K.L o).toNat / 8)=3->2<bad3 K.F)):=fun o ho hL=>⟨(hs.blk o ho hL).1,fun e=>hs.dds.1 ((hs.blk o ho hL).2 e)⟩;clear hs hd hC h24 on;have HV0:=BE (IB.new w 39 67 (vwF K));have HG0:Hid (Chg No w (w.alloc (.cells (ints (vwF K) 67).toArray 39))):=(Chg.refl _ w).alloc _;have hsz0:(w.alloc (.cells (ints (vwF K) 67).toArray 39)).heap.size=w.heap.size+1:=World.size_alloc _ _;go_enter func12,ntmps12;go_wp2_with (refine CV rfl 85 rfl (w.heap.size+1) (World.size_alloc _ _) jo ?_);intro w1 M1 G1 S1;have HV1:=BE (HV0.out.chg G1 (fun f=>f));have HG1:=BE (HG0.out.trans G1);have HM1:Hid (IB w1 (w.heap.size+1) 85 4 (fun _=>0)):=M1;clear M1 G1 HV0 HG0 hsz0;go_wp2
 go_loopg [6] 12 (fun kx s6 wr=>∃i:Nat,s6=.int .i64 i/\i<=12/\12 - i<=kx/\Hid (IB wr (w.heap.size+1) 85 4 (cn (vwF K) i))/\Hid (IB wr w.heap.size 39 67 (vwF K))/\Hid (Chg No w wr))
 case atStart=>exact⟨0,rfl,om,om,HM1.out,HV1.out,HG1.out⟩
 case round=>
 obtain⟨i,rfl,hi,hkx,HM,HV,HG⟩:=hrel;by_cases hlt:i<12
 ·have hltz:(i:Int)<12:=om
  have hi0:(0:Int)<=i:=om
  obtain⟨hc,-⟩:=HV.out.cell i om;have hst:=HS.out.sts i hlt;rw[<-Pp K hlt] at hst;obtain⟨x,hx,hx4⟩:∃x:Nat,vwF K i=(x:Int)/\x<4:=⟨(vwF K i).toNat,om,om⟩;rw[hx] at hc;obtain⟨m0,mf⟩:=HM.out.cell x hx4;have hb:=ZG (vwF K) i x;have HM2:=BE ((HM.out.set x (cn (vwF K) i x+1)).congr (G:=cn (vwF K) (i+1)) (fun j _=>(dz hx j).symm));have HV2:=BE (HV.out.chg ((Chg.refl (·=w.heap.size+1) wr).setCell (AK rfl) x (.int .i64 (cn (vwF K) i x+1))) om);have HG2:=BE (HG.out.setCell (S:=fun _=>False) (g:=w.heap.size+1) (AL (Nat.le_succ _)) x (.int .i64 (cn (vwF K) i x+1)));generalize cn (vwF K) i x=z at *
  have hz0:0<=z:=hb.1;have hz1:z<13:=om
  have hx0:(0:Int)<=(x:Int):=om
  have hx1:(x:Int)<4:=om
  have hx2:¬ (x:Int)<0:=om
  have hx3:¬ (3:Int)<(x:Int):=om
  clear hb hst hx;go_wp2
  go_roundg (12 - (i+1))
  case measure=>omega
  case rel=>exact⟨i+1,by simp,om,AM _,HM2.out,HV2.out,HG2.out⟩
 ·have hltz:¬ (i:Int)<12:=om
  have e:i=12:=om
  subst e;obtain⟨c0,-⟩:=HM.out.cell 0 om;obtain⟨c1,-⟩:=HM.out.cell 1 om;obtain⟨c3,-⟩:=HM.out.cell 3 om;have b0:=ZG (vwF K) 12 0;have b3:=ZG (vwF K) 12 3;obtain⟨q1,q3,q0⟩:=HCN.out;generalize cn (vwF K) 12 0=n0 at *
  generalize cn (vwF K) 12 1=n1 at *
  generalize cn (vwF K) 12 3=n3 at *
  have hn1:¬ (1:Int)<n1:=om
  have hcase:(Hid (∀o,o<25->K.L o≠-1->K.F ((K.L o).toNat / 8)=1\/K.F ((K.L o).toNat / 8)=2\/(K.F ((K.L o).toNat / 8)=3/\True))/\(2:Int)<n3)\/(Hid (∀o,o<25->K.L o≠-1->K.F ((K.L o).toNat / 8)=1\/K.F ((K.L o).toNat / 8)=2\/(K.F ((K.L o).toNat / 8)=3/\False))/\¬ (2:Int)<n3/\0<=n3/\n3<=2/\¬ n0<1+2*(2 - n3)/\0<=n0/\n0<=12):=by
   have hst:∀o,o<25->K.L o≠-1->0<=K.F ((K.L o).toNat / 8)/\K.F ((K.L o).toNat / 8)<=3:=fun o ho hL=>HS.out.sts _ (by have:=(HS.out.wf.lt ho hL).1;omega);by_cases c:(2:Int)<n3
   ·left;refine⟨fun o ho hL=>?_,c⟩;have h1:=hst o ho hL;have h2:=(HBL.out o ho hL).1;have h5:K.F ((K.L o).toNat / 8)=1\/K.F ((K.L o).toNat / 8)=2\/K.F ((K.L o).toNat / 8)=3:=om;exact h5.imp id (Or.imp id fun e=>⟨e,trivial⟩)
   ·right;refine⟨fun o ho hL=>?_,c,om,om,by have:=q0 (fun e=>c (q3.2 e));omega,om,om⟩;have h1:=hst o ho hL;have h2:=(HBL.out o ho hL).1;have h3:=(HBL.out o ho hL).2;have h4:K.F ((K.L o).toNat / 8)≠3:=fun e=>c (q3.2 (h3 e));have h5:K.F ((K.L o).toNat / 8)=1\/K.F ((K.L o).toNat / 8)=2:=om;exact h5.imp id AK
  clear q1 q3 q0 b0 b3 hltz hkx hi HM;rcases hcase with ⟨HZ,hc3⟩ | ⟨HZ,hc3,hn3,hn32,hc0,hn0,hn02⟩
  all_goals
   go_wp2
   go_loopg [9] 12 (fun kx s9 wx=>∃j:Nat,s9=.int .i64 j/\j<=12/\12 - j<=kx/\Hid (IB wx w.heap.size 39 67 (vwF K))/\Hid (Chg No w wx))
   case atStart=>exact⟨0,rfl,om,om,HV.out,HG.out⟩
   case round=>
   obtain⟨j,rfl,hj,hky,HV2,HG2⟩:=hrel;clear c0 c1 c3 HV HG;by_cases hjt:j<12
   ·have hjz:(j:Int)<12:=om;have hj0:(0:Int)<=j:=om;obtain⟨hc,-⟩:=HV2.out.cell j om;rw[Pp K hjt] at hc;by_cases h0:K.F j=0
    ·rw[h0] at hc;have hbl:=dx g K.s HS.out.wf.chip j hjt wr (HC.out.chg HG2.out (fun f=>f)) (fun i hi=>HS.out.frs (j*8+i) om (by rw[show (j*8+i) / 8=j by omega];exact h0));clear h0;go_wp2_with fail;refine hbl.mono ?_;rintro e w3 ⟨rfl,hG3⟩;have HV3:=BE (HV2.out.chg hG3 (fun f=>f));have HG3:=BE (HG2.out.trans hG3);clear hG3 hbl HV2 HG2 hc;go_wp2
     go_roundg (12 - (j+1))
     case measure=>omega
     case rel=>exact⟨j+1,by simp,om,AM _,HV3.out,HG3.out⟩
    ·have h0b:(K.F j == 0)=false:=(by simpa using h0);go_wp2
     go_roundg (12 - (j+1))
     case measure=>omega
     case rel=>exact⟨j+1,by simp,om,AM _,HV2.out,HG2.out⟩
   ·have hjz:¬ (j:Int)<12:=om;obtain⟨bh,hbh⟩:∃bh,wr.heap.size=bh:=⟨_,rfl⟩;have hne:w.heap.size<bh:=(by rw[<-hbh];exact HV2.out.lt);go_wp2_with (refine CV rfl 87 rfl bh hbh jp ?_);intro w5 B5 G5 S5;have HB5:Hid (BB w5 bh 87 96 (Pq K.L 0)):=B5;have HV5:=BE (HV2.out.chg G5 (fun f=>f));have HG5:=BE (HG2.out.trans G5);have hne1:¬ bh=w.heap.size:=om;have hne2:¬ w.heap.size=bh:=om;clear B5 G5 S5 HV2 HG2 hbh hjz hj hky;go_wp2
    go_loopg [12] 25 (fun kx s12 wx=>∃o:Nat,s12=.int .i64 o/\o<=25/\25 - o<=kx/\Hid (BB wx bh 87 96 (Pq K.L o))/\Hid (IB wx w.heap.size 39 67 (vwF K))/\Hid (Chg No w wx))
    case atStart=>exact⟨0,rfl,om,om,HB5.out,HV5.out,HG5.out⟩
    case round=>
    obtain⟨o,rfl,ho,hkz,HB,HV6,HG6⟩:=hrel;clear HB5 HV5 HG5;by_cases hot:o<25
    ·have hoz:(o:Int)<=24:=om;have hoz2:(o:Int)<25:=om;have ho0:(0:Int)<=o:=om;obtain⟨hc,-⟩:=HV6.out.cell (12+o) om;rw[NX K hot] at hc;by_cases hL:K.L o = -1
     ·rw[hL] at hc;have HB7:Hid (BB wr bh 87 96 (Pq K.L (o+1))):=by
       show BB wr bh 87 96 _;rw[show Pq K.L (o+1)=Pq K.L o from funext (ZI hL)];exact HB.out
      clear hL;go_wp2
      go_roundg (25 - (o+1))
      case measure=>omega
      case rel=>exact⟨o+1,by simp,om,AM _,HB7.out,HV6.out,HG6.out⟩
     ·obtain⟨hm96,hm⟩:=HS.out.wf.lt hot hL;have hz3:=HZ.out o hot hL;have hmay:(o:Int)=24\/(K.L o) % 8<6:=by
       by_cases e24:o=24
       ·left;omega
       ·exact AL ((HS.out.wf.map.may o om).resolve_left hL)
      have hnew:∀i,i<o->K.L i≠K.L o:=fun i hi e=>by
       have:=HS.out.wf.map.inj i o om hot e (by rw[e];exact hL);omega
      have HBn:=BE (fun p=>(ZH (L:=K.L) (i:=o) hm p));generalize (K.L o).toNat=m at *
      rw[hm] at hc hmay hnew;have hrh:=ZL wr m o ⟨om,om⟩ ⟨om,om⟩ hmay;obtain⟨hb,hbf⟩:=HB.out.cell m hm96;rw[jq hnew] at hb;obtain⟨hs8,-⟩:=HV6.out.cell (m / 8) om;rw[Pp K om] at hs8;have hd8:((m:Int)).tdiv 8=((m / 8:Nat):Int):=(by rw[Int.tdiv_eq_ediv_of_nonneg om];omega);have hd12:m / 8<12:=om;have HB7:=BE (HB.out.set m true);have HV7:=BE (HV6.out.chg ((Chg.refl (·=bh) wr).setCell (AK rfl) m (.bool true)) om);have HG7:=BE (HG6.out.setCell (S:=fun _=>False) (g:=bh) (AL (Nat.le_of_lt hne)) m (.bool true));have HB8:Hid (BB (wr.setCell ⟨bh,m,none⟩ (.bool true)) bh 87 96 (Pq K.L (o+1))):=by
       show BB _ bh 87 96 _;rw[show Pq K.L (o+1)=upd (Pq K.L o) m true from funext HBn.out];exact HB7.out
      generalize m / 8=d at *
      have hdz:(d:Int)<12:=om;have hd0:(0:Int)<=d:=om;have hmz:(m:Int)<96:=om;have hm0:(0:Int)<=m:=om;have hmn:¬ (m:Int) = -1:=om;have hmb:((m:Int) == -1)=false:=(by simp);generalize K.F d=z at *
      clear hm hL hmay hnew HBn HB7 HB;rcases hz3 with rfl | rfl | ⟨rfl,hp⟩
      ·go_wp2_with fail;refine hrh.mono ?_;rintro e wr ⟨rfl,rfl⟩;go_wp2
       go_roundg (25 - (o+1))
       case measure=>omega
       case rel=>exact⟨o+1,by simp,om,AM _,HB8.out,HV7.out,HG7.out⟩
      ·go_wp2_with fail;refine hrh.mono ?_;rintro e wr ⟨rfl,rfl⟩;go_wp2
       go_roundg (25 - (o+1))
       case measure=>omega
       case rel=>exact⟨o+1,by simp,om,AM _,HB8.out,HV7.out,HG7.out⟩
      ·first
       | exact hp.elim
       | (go_wp2_with fail;refine hrh.mono ?_;rintro e wr ⟨rfl,rfl⟩;go_wp2;go_roundg (25 - (o+1));(case measure=>omega);(case rel=>exact⟨o+1,by simp,om,AM _,HB8.out,HV7.out,HG7.out⟩))
    ·have hoz:¬ (o:Int)<=24:=om;obtain⟨D,hT,hD,hN⟩:=HS.out.point H24.out;have hTl:=(HS.out.cn H24.out).2.2;have hDoc:AA.gZ D:=by
      rw[hD];exact(AA.SB _ (AA.FA _) (AA.CI _)).1 ⟨(AA.Fg _ hTl).symm.okc (IM hTl),(AA.Fg _ hTl).wrL⟩
     have hon:=ZE g K.s HS.out.wf.chip G.T HS.out.rep _ _ D hT wr (HC.out.chg HG6.out (fun f=>f)) hN hDoc _ rfl;rw[show ints (lv (tbL G.T 96) (AA.rdC D)) 25=ints (fun i=>vwF K (12+i)) 25 from Df fun i hi=>by
      rw[NX K hi,hD]
      exact HS.out.live (AA.Fg _ hTl) hi] at hon
     have HP:Hid (vwF K (12+24)=K.L 24/\0<=K.L 24):=⟨NX K dc,by have:=HS.out.wf.lt (by decide:24<25) H24.out;omega⟩;clear hT hD hN hTl hDoc HB;generalize vwF K=V at *
     go_wp2_with fail;refine hon.mono ?_;rintro e w7 ⟨rfl,G7⟩;have HV7:=BE (HV6.out.chg G7 (fun f=>f));have HG7:=BE (HG6.out.trans G7);clear G7 hon HV6 HG6;go_wp2_with (refine AE.CL rfl rfl w7.heap.size rfl ?_);intro w8 A8 G8 S8;have HA8:=BE A8;have hlt7:w.heap.size<w7.heap.size:=HV7.out.lt;go_wp2_with (refine AE.DH rfl (.tmp 17) (.tmp 119) rfl w7.heap.size rfl rfl HA8.out ?_);intro w9 A9 G9;have G79:Chg No w7 w9:=G8.trans' G9 (fun k hk h=>om);have HV9:=BE (HV7.out.chg G79 (fun f=>f));have HG9:=BE (HG7.out.trans G79);have HA9:=BE A9;have HR1:=BE (A25.range A9);have HR2:=BE (IB.range HV9.out 12 25 dc);obtain⟨k36,-⟩:=HV9.out.cell 36 dc;rw[show V 36=K.L 24 from HP.out.1] at k36;have hpos:=HP.out.2;generalize K.L 24=l24 at *
     clear A8 G8 S8 A9 G9 G79 HA8 HV7 HG7;have hq:=dy;have hgq:=VA;go_wp2_with (first | (refine FM rfl (.tmp 17) rfl w7.heap.size 0 rfl HR1.out ?_) | (refine FM rfl (.tmp 124) rfl w.heap.size 12 rfl HR2.out ?_));go_ret;exact⟨rfl,HG9.out⟩
end
end Go.Proofs.YtmdpnpjacfedpaaGreat
namespace Go.Proofs.YtmdpnpjacfedpaaGreat
open List
open Go.Proofs.Tryz
open Go.RowKit
section
variable {G:Bk}(K:BH)
theorem RV(p:Nat):(rdK K p).1.mv=K.mv:=by
 unfold rdK;dsimp only;split <;> rfl
theorem jr(t:CP)(D:List Nat):(prK K t D).1.mv=K.mv:=by
 unfold prK;dsimp only
theorem ZM(t:CP)(D:List Nat):(prM K t D).1.mv=K.mv:=by
 unfold prM;split
 ·rfl
 ·exact jr K t D
theorem RW(S:Bm)(o:Nat):(tiK K S o).1.mv=K.mv:=by
 unfold tiK;split
 ·rfl
 ·split <;> rfl
theorem NY(o:Nat):(coK K o).1.mv=K.mv:=by
 unfold coK;split
 ·rfl
 ·dsimp only;split
  ·exact RV _ _
  ·split
   ·exact RV _ _
   ·split <;> exact RV _ _
theorem ZN(bd:Bool):∀(l:List Nat) (K:BH) (S:Bm),(cpK bd l K S).1.mv=K.mv:=by
 intro l
 induction l with
 | nil=>intro K S;rfl
 | cons o l ih=>
  intro K S;unfold cpK;split
  ·exact ih K S
  ·dsimp only;split
   ·exact NY K o
   ·split
    ·exact(RW _ _ _).trans (NY K o)
    ·split
     ·exact(ZM _ _ _).trans ((RW _ _ _).trans (NY K o))
     ·exact(ih _ _).trans ((ZM _ _ _).trans ((RW _ _ _).trans (NY K o)))
theorem d9(bd:Bool)(o:Nat)(l:List Nat)(K:BH)(S:Bm):cpK bd (o :: l) K S=if (cpK bd [o] K S).2.2≠0 then cpK bd [o] K S else cpK bd l (cpK bd [o] K S).1 (cpK bd [o] K S).2.1:=by
 have e1:cpK bd [o] K S=if bd=true/\o=24 then (K,S,0) else
  if (coK K o).2.2.2≠0 then ((coK K o).1,S,(coK K o).2.2.2) else
  if (tiK (coK K o).1 S o).2.2.2≠0 then ((tiK (coK K o).1 S o).1,(tiK (coK K o).1 S o).2.1,(tiK (coK K o).1 S o).2.2.2) else
  if (prM (tiK (coK K o).1 S o).1 ⟨(tiK (coK K o).1 S o).2.2.1,o,(tiK (coK K o).1 S o).1.vs o,((tiK (coK K o).1 S o).1.vc o+1) % 256,(coK K o).2.2.1⟩ (coK K o).2.1).2≠0 then ((prM (tiK (coK K o).1 S o).1 ⟨(tiK (coK K o).1 S o).2.2.1,o,(tiK (coK K o).1 S o).1.vs o,((tiK (coK K o).1 S o).1.vc o+1) % 256,(coK K o).2.2.1⟩ (coK K o).2.1).1,(tiK (coK K o).1 S o).2.1,(prM (tiK (coK K o).1 S o).1 ⟨(tiK (coK K o).1 S o).2.2.1,o,(tiK (coK K o).1 S o).1.vs o,((tiK (coK K o).1 S o).1.vc o+1) % 256,(coK K o).2.2.1⟩ (coK K o).2.1).2) else
  ((prM (tiK (coK K o).1 S o).1 ⟨(tiK (coK K o).1 S o).2.2.1,o,(tiK (coK K o).1 S o).1.vs o,((tiK (coK K o).1 S o).1.vc o+1) % 256,(coK K o).2.2.1⟩ (coK K o).2.1).1,{ (tiK (coK K o).1 S o).2.1 with ld:=(tiK (coK K o).1 S o).2.1.ld ++ [⟨(tiK (coK K o).1 S o).2.2.1,o,(tiK (coK K o).1 S o).1.vs o,((tiK (coK K o).1 S o).1.vc o+1) % 256,(coK K o).2.2.1⟩] },0):=rfl
 rw[cpK,e1];dsimp only;by_cases h1:bd=true/\o=24
 ·rw[AJ h1,AJ h1];simp
 ·rw[AI h1,AI h1];by_cases h2:(coK K o).2.2.2≠0
  ·rw[AJ h2,AJ h2];dsimp only;rw[AJ h2]
  ·rw[AI h2,AI h2];by_cases h3:(tiK (coK K o).1 S o).2.2.2≠0
   ·rw[AJ h3,AJ h3];dsimp only;rw[AJ h3]
   ·rw[AI h3,AI h3];generalize tiK (coK K o).1 S o=t at *
    generalize hp:prM t.1 ⟨t.2.2.1,o,t.1.vs o,(t.1.vc o+1) % 256,(coK K o).2.2.1⟩ (coK K o).2.1=p;by_cases h4:p.2≠0
    ·rw[AJ h4,AJ h4];dsimp only;rw[AJ h4]
    ·rw[AI h4,AI h4];dsimp only;rw[AI (by simp)]
theorem Fine.rdK{K:BH}(h:Fine K.s)(p:Nat):Fine (rdK K p).1.s:=by
 have:=h.readV p;unfold Go.Proofs.YtmdpnpjacfedpaaGreat.rdK rdF;dsimp only;by_cases e:(Go.Proofs.YtmdpnpjacfedpaaGreat.readV K.s p).2.2=0
 ·rw[AJ e];dsimp only;rw[AJ rfl];exact this.1
 ·rw[AI e];dsimp only;rw[AI e];exact this.1
theorem Fine.coK{K:BH}(h:Fine K.s)(o:Nat):Fine (coK K o).1.s:=by
 have:=Fine.rdK h (K.L o).toNat;unfold Go.Proofs.YtmdpnpjacfedpaaGreat.coK;dsimp only;split
 ·exact h
 ·split
  ·exact this
  ·split
   ·exact this
   ·split <;> exact this
theorem Sy{K:BH}{S:Bm}{o:Nat}(h:Sit K G (Xs S))(hC:LU K G S)(hD:kR K S [o])(_:kS S)(hfi:Fine K.s)(hf:S.tt.o=false->1<=fre K.F)(hv:K.F S.fm≠0) :∃K' S' k lo,cpK false [o] K S=(K',S',0)/\S'.tt=⟨true,k,S.tt.i+1⟩/\S'.ld=S.ld ++ [⟨8*k+S.tt.i,o,K.vs o,(K.vc o+1) % 256,lo⟩]/\S'.fm=S.fm/\S'.fd=S.fd/\Fine K'.s/\(S.tt.o=true->k=S.tt.k)/\(S.tt.o=false->k=tkM K.F):=by
 obtain⟨m1,m2,m3,m4⟩:=hD.mem o (mem_cons_self ..);obtain⟨K1,D,lo,eco,a1,w1,on1,hDl,hDb,hz,hdt⟩:=Yd h hfi.on m1 m2;have f1:Fine K1.s:=by have:=Fine.coK hfi o;rw[eco] at this;exact this
 have h1:Sit K1 G (Xs S):=h.alk a1 w1;have hC1:LU K1 G S:=hC.alk a1;have hi6:S.tt.i<8/\(o=24\/S.tt.i<6):=by
  by_cases e24:o=24
  ·exact⟨om,AK e24⟩
  ·have:=(h.wf.map.may o om).resolve_left m2;have:=h.wf.lt m1 m2;exact⟨om,AL om⟩
 obtain⟨K2,k,eti,kee2,hs2,htl2,hsp2,k12,kne,kF,ktt,h2,f2,n2,er2,al2,ldk,Fo,kz⟩:=RE h1 hC1 (by rw[a1.F];exact hf) (by rw[a1.F];exact hv) m1 hi6;have hk:S.tt.o=false->k=tkM K.F:=fun e=>by
  have e2:=eti;unfold tiK at e2;rw[AI (by rw[e];decide)] at e2;by_cases e3:tkC K1.F≠0
  ·rw[AJ e3] at e2;have:=congrArg (fun x=>x.2.2.2) e2;exact absurd (show (14:Nat)=0 from this) dc
  ·rw[AI e3] at e2;have:=congrArg (fun x=>x.2.1.tt.k) e2;dsimp only at this;rw[<-this,a1.F];unfold AB.tkS;split <;> rfl
 have kee02:Pz K K2:=a1.kee.trans kee2;have hp96:8*k+S.tt.i<96:=om
 have hpk:(8*k+S.tt.i) / 8=k:=om
 have hvs:=h.wf.vs o m1;have hvp:=h.wf.vp o m1 m2;have hl24:o=24->lo=false:=fun e=>by
  cases elo:lo
  ·rfl
  ·exact absurd (e ▸ hz elo) h.z24
 have hM:DY ((8*k+S.tt.i:Nat):Int) (o:Nat) (K2.vs o:Nat) (((K2.vc o+1) % 256:Nat):Int) lo:=by
  rw[kee02.vs];refine⟨⟨om,om,om,om⟩,?_⟩;by_cases e24:o=24
  ·exact AK ⟨om,hl24 e24⟩
  ·have:=hi6.2.resolve_left e24;exact AL ⟨om,om⟩
 have hE:YR (8*k+S.tt.i) ⟨8*k+S.tt.i,o,K2.vs o,(K2.vc o+1) % 256,lo⟩ D:=⟨rfl,hM,hDl,hDb⟩;have hprm:prM K2 ⟨8*k+S.tt.i,o,K2.vs o,(K2.vc o+1) % 256,lo⟩ D=prK K2 ⟨8*k+S.tt.i,o,K2.vs o,(K2.vc o+1) % 256,lo⟩ D:=by
  unfold prM;rw[AI];rintro ⟨x,y⟩;have:=hl24 x;rw[this] at y;cases y
 have hpf:=So (K:=K2) h2.wf h2.rep (t:=⟨8*k+S.tt.i,o,K2.vs o,(K2.vc o+1) % 256,lo⟩) hp96 hE (er2 S.tt.i (AM _) hi6.1) (by rw[hs2];exact f1);refine⟨_,{ S with tt:=⟨true,k,S.tt.i+1⟩,ld:=S.ld ++ [⟨8*k+S.tt.i,o,K.vs o,(K.vc o+1) % 256,lo⟩] },k,lo,?_,rfl,rfl,rfl,rfl,hpf.2,ktt,hk⟩;rw[cpK,AI (by simp),eco];dsimp only;rw[AI dc,eti];dsimp only;rw[AI dc,hprm,AI (by rw[hpf.1];simp),cpK,kee02.vs,kee02.vc]
theorem VB(L:Nat->Int)(n q:Int):AC.setC L n q=0\/AC.setC L n q=1\/AC.setC L n q=12:=by
 unfold AC.setC;split
 ·exact AL (AK rfl)
 ·split
  ·exact AL (AL rfl)
  ·exact AK rfl
theorem ZO:∀(l:List CP) (K:BH),(cmL l K).2=0\/(cmL l K).2=1\/(cmL l K).2=12:=by
 intro l
 induction l with
 | nil=>intro K;exact AK rfl
 | cons t l ih=>
  intro K;unfold cmL;split
  ·exact VB _ _ _
  ·exact ih _
theorem js{K:BH}(h:Sit K G No)(hfi:Fine K.s)(hdd:K.dd=false)(hrm:Rm 0 K)(hT:Told K G)(hnx:K.nx<IE){V a b:Nat}(hV:V<12)(h0:K.F V≠0)(h3:K.F V≠3)(hab:a≠b)(hof:(AC.ofL K.L V).map Int.toNat=[a,b])(n:Nat) :∃Z,vaK n K V false=some (Z,0)/\Fine Z.s/\Z.L=upd (upd K.L a (8*tkM K.F:Nat)) b (8*tkM K.F+1:Nat)/\Z.mv=wrap64 (K.mv+2)/\Z.fr=⟨true,tkM K.F,2⟩/\Z.nx=K.nx/\Z.dd=false:=by
 obtain⟨o1,o2,o3⟩:=NN h.wf.map V;rw[hof] at o1 o2 o3;have hfr1:1<=fre K.F:=by
  have hbd2:bad3 K.F<=2:=by
   have:¬ 2<bad3 K.F:=fun e=>by have:=h.dds.2 e;rw[hdd] at this;cases this
   omega
  unfold Rm at hrm;omega
 obtain⟨S0,hS0⟩:∃S0:Bm,S0={ nwS V false false with tt:=noF,ld:=[] }:=⟨_,rfl⟩;have s0fm:S0.fm=V:=by rw[hS0];rfl
 have s0fd:S0.fd=false:=by rw[hS0];rfl
 have s0tt:S0.tt=noF:=by rw[hS0]
 have s0ld:S0.ld=[]:=by rw[hS0]
 have s0o:S0.tt.o=false:=by rw[s0tt];rfl
 have s0i:S0.tt.i=0:=by rw[s0tt];rfl
 have hS1:Sit K G (Xs S0):=h.mono (fun _ _ x=>x.elim);have hno:∀ {P:Prop},S0.tt.o=true->P:=fun e=>by rw[s0o] at e;cases e
 have hnt:∀ {P:Prop} {t:CP},t ∈ S0.ld->P:=fun e=>by rw[s0ld] at e;cases e
 have hC1:LU K G S0:=⟨by rw[s0fm];exact hV,fun _=>⟨s0ld,s0i⟩,fun e=>hno e,fun e=>hno e,fun e=>hno e,fun e=>hno e,fun t ht=>hnt ht,fun t ht=>hnt ht,by rw[s0ld];exact nodup_nil,by rw[s0ld];exact nodup_nil⟩;have hDa:kR K S0 [a]:=⟨fun o ho=>by
  have eo:o=a:=by simpa using ho
  subst eo
  obtain⟨q1,q2,q3⟩:=o1 o (by simp)
  rw[s0fm,s0i]
  exact⟨q1,q2,q3,Ac _⟩,pairwise_singleton _ _,fun o _ t ht=>hnt ht⟩
 have hB0:kS S0:=AK (by rw[s0i];exact Ac _);have h0':K.F S0.fm≠0:=by rw[s0fm];exact h0
 obtain⟨Ka,Sa,k,lo,ea,ta,la,fma,fda,fa,-,hk⟩:=Sy hS1 hC1 hDa hB0 hfi (fun _=>hfr1) h0';have hka:=hk s0o;rw[s0i] at ta la;rw[s0ld,A7] at la;obtain⟨Ga,hba,hxa⟩:=LH false [a] K G S0 hS1 hC1 hDa hB0 hfi.on (fun _=>hfr1) h0' (by rw[s0i];show 1+0<=25;decide);have mva:=ZN false [a] K S0;rw[ea] at hba hxa mva;dsimp only at hba hxa mva;obtain⟨-,-,hCa,hBa,-,-,-,-⟩:=hxa.resolve_right (by rintro (⟨e,_⟩ | ⟨e,_⟩) <;> exact absurd e dc)
 have hDb:kR Ka Sa [b]:=by
  refine⟨fun o ho=>?_,pairwise_singleton _ _,fun o ho t ht=>?_⟩
  ·have eo:o=b:=(by simpa using ho);subst eo;obtain⟨q1,q2,q3⟩:=o1 o (by simp);rw[hba.kee.L,fma,s0fm,ta];refine⟨q1,q2,q3,?_⟩;have q4:=(pairwise_cons.1 o2).1 o (by simp);obtain⟨p1,p2,p3⟩:=o1 a (by simp);have w1:=h.wf.lt q1 q2;have w2:=h.wf.lt p1 p2;show 0+1<=(K.L o).toNat % 8;omega
  ·have eo:o=b:=(by simpa using ho);rw[la] at ht;have et:t=⟨8*k+0,a,K.vs a,(K.vc a+1) % 256,lo⟩:=(by simpa using ht);rw[et,eo];exact hab
 have hva:Ka.F Sa.fm≠0:=by rw[fma,show Ka.F S0.fm=K.F S0.fm from hba.fv];exact h0'
 have sao:Sa.tt.o=true:=by rw[ta]
 have sai:Sa.tt.i=1:=by rw[ta]
 have sak:Sa.tt.k=k:=by rw[ta]
 obtain⟨Kb,S2,k2,lo2,eb,tb,lb,fmb,fdb,fb,hk2,-⟩:=Sy hba.sit hCa hDb hBa fa (fun e=>by rw[sao] at e;cases e) hva;have ek2:k2=k:=(hk2 sao).trans sak;subst ek2;rw[sai] at tb lb;rw[la] at lb;obtain⟨Gb,hbb,-⟩:=LH false [b] Ka Ga Sa hba.sit hCa hDb hBa fa.on (fun e=>by rw[sao] at e;cases e) hva (by rw[sai];show 1+1<=25;decide);have mvb:=ZN false [b] Ka Sa;rw[eb] at hbb mvb;dsimp only at hbb mvb;have ecp:cpK false [a,b] K S0=(Kb,S2,0):=by
  rw[d9,ea];dsimp only;rw[AI (by simp)];exact eb
 have efi:=Sp (K:=Kb) hbb.sit.wf (b:=V) hV fb;have hte:=Pa (S:=nwS V false false) h hfi.on hV h0 h3 hdd hrm (AK hT) hnx;have ety:tyK K (nwS V false false)=((cmK (erK Kb V).1 S2 0).1,S2,(cmK (erK Kb V).1 S2 0).2):=by
  unfold tyK;dsimp only;have e8:(nwS V false false).fd=false:=rfl;have e9:((nwS V false false).fd || ((nwS V false false).rt && bearK K))=false:=rfl;have e7:(nwS V false false).fm=V:=rfl;have e6:cpK false [a,b] K { fm:=V,rt:=(nwS V false false).rt,fd:=(nwS V false false).fd,tt:=noF,ld:=[] }=(Kb,S2,0):=by
   rw[hS0] at ecp;exact ecp
  rw[AI (by rw[e8];simp),e9,e7,hof,e6];dsimp only;rw[AI (by simp),AI dc,AJ efi.1]
 have hcode:(cmK (erK Kb V).1 S2 0).2=0:=by
  have hc2:(cmK (erK Kb V).1 S2 0).2=0\/(cmK (erK Kb V).1 S2 0).2=1\/(cmK (erK Kb V).1 S2 0).2=12:=by
   unfold cmK;dsimp only;split
   ·exact ZO _ _
   ·exact AK rfl
  obtain⟨-,G',hx⟩:=hte;rw[ety] at hx;dsimp only at hx;rcases hx with ⟨e,_⟩ | ⟨e,_⟩ | ⟨e,_⟩ | ⟨e,_⟩
  ·exact e
  ·omega
  ·omega
  ·omega
 have hdd2:(tyK K (nwS V false false)).1.dd=false:=by
  obtain⟨-,G',hx⟩:=hte;rcases hx with ⟨e,d,_,q⟩ | ⟨e,_⟩ | ⟨e,_⟩ | ⟨e,_⟩
  ·exact q.dd
  all_goals
   rw[ety] at e;dsimp only at e;rw[hcode] at e;cases e
 have hnx2:Kb.nx=K.nx:=hbb.kee.nx.trans hba.kee.nx;have heK:∃s' R' N',(erK Kb V).1={ Kb with s:=s',hR:=R',hN:=N' }:=by
  unfold erK;dsimp only;split
  ·exact⟨_,_,_,rfl⟩
  ·exact⟨_,_,_,rfl⟩
 obtain⟨s',R',N',heK⟩:=heK;have hLb:Kb.L=K.L:=hbb.kee.L.trans hba.kee.L;have hmb:Kb.mv=K.mv:=mvb.trans mva;have hcl:(cmL S2.ld (erK Kb V).1).2=0/\(cmL S2.ld (erK Kb V).1).1.L=upd (upd K.L a (8*k2:Nat)) b (8*k2+1:Nat)/\(cmL S2.ld (erK Kb V).1).1.mv=K.mv/\(cmL S2.ld (erK Kb V).1).1.nx=K.nx/\(cmL S2.ld (erK Kb V).1).1.s=(erK Kb V).1.s:=by
  have c0:(cmL S2.ld (erK Kb V).1).2=0:=by
   refine Classical.byContradiction fun e=>?_;have:cmK (erK Kb V).1 S2 0=cmL S2.ld (erK Kb V).1:=by
    unfold cmK;dsimp only;rw[AJ e]
   rw[this] at hcode;exact e hcode
  refine⟨c0,?_⟩;have eld:S2.ld=[⟨8*k2+0,a,K.vs a,(K.vc a+1) % 256,lo⟩,⟨8*k2+1,b,Ka.vs b,(Ka.vc b+1) % 256,lo2⟩]:=lb;rw[eld,heK] at c0 ⊢;rw[cmL] at c0 ⊢;by_cases c1:(layK ({ Kb with s:=s',hR:=R',hN:=N' }:BH) ⟨8*k2+0,a,K.vs a,(K.vc a+1) % 256,lo⟩).2≠0
  ·rw[AJ c1] at c0;exact absurd c0 c1
  ·rw[AI c1] at c0 ⊢;rw[cmL] at c0 ⊢;have c1':AC.setC Kb.L ((a:Nat):Int) ((8*k2+0:Nat):Int)=0:=by
    have:(layK ({ Kb with s:=s',hR:=R',hN:=N' }:BH) ⟨8*k2+0,a,K.vs a,(K.vc a+1) % 256,lo⟩).2=0:=by simpa using c1
    exact this
   by_cases c2:(layK (layK ({ Kb with s:=s',hR:=R',hN:=N' }:BH) ⟨8*k2+0,a,K.vs a,(K.vc a+1) % 256,lo⟩).1 ⟨8*k2+1,b,Ka.vs b,(Ka.vc b+1) % 256,lo2⟩).2≠0
   ·rw[AJ c2] at c0;exact absurd c0 c2
   ·rw[AI c2];rw[cmL];have c2':AC.setC (AC.setL Kb.L ((a:Nat):Int) ((8*k2+0:Nat):Int)) ((b:Nat):Int) ((8*k2+1:Nat):Int)=0:=by
     have:(layK (layK ({ Kb with s:=s',hR:=R',hN:=N' }:BH) ⟨8*k2+0,a,K.vs a,(K.vc a+1) % 256,lo⟩).1 ⟨8*k2+1,b,Ka.vs b,(Ka.vc b+1) % 256,lo2⟩).2=0:=by simpa using c2
     exact this
    refine⟨?_,hmb,hnx2,rfl⟩;show AC.setL (AC.setL Kb.L ((a:Nat):Int) ((8*k2+0:Nat):Int)) ((b:Nat):Int) ((8*k2+1:Nat):Int)=_;have e5:AC.setL Kb.L ((a:Nat):Int) ((8*k2+0:Nat):Int)=upd K.L a (8*k2:Nat):=by
     unfold AC.setL;rw[AJ c1',AP,hLb];rfl
    rw[e5] at c2' ⊢;unfold AC.setL;rw[AJ c2',AP]
 have hcm:(cmK (erK Kb V).1 S2 0).1.L=upd (upd K.L a (8*k2:Nat)) b (8*k2+1:Nat)/\(cmK (erK Kb V).1 S2 0).1.mv=wrap64 (K.mv+2)/\(cmK (erK Kb V).1 S2 0).1.fr=⟨true,k2,2⟩/\(cmK (erK Kb V).1 S2 0).1.nx=K.nx/\(cmK (erK Kb V).1 S2 0).1.s=(erK Kb V).1.s:=by
  obtain⟨l0,l1,l2,l3,l4⟩:=hcl;have ett:S2.tt=⟨true,k2,2⟩:=tb;have elen:S2.ld.length=2:=by rw[lb];rfl
  unfold cmK;dsimp only;rw[AI (by rw[l0];simp)];dsimp only;rw[ett,elen,AJ rfl];generalize cmL S2.ld (erK Kb V).1=X at *
  obtain⟨F1,fr1,e1⟩:=Iy X.1 (S2.fm:Nat);have e2:∀Y:BH,∃F2 fr2,clK Y={ Y with F:=F2,fr:=fr2 }:=fun Y=>by
   unfold clK;split
   ·exact⟨_,_,rfl⟩
   ·exact⟨_,_,rfl⟩
  obtain⟨F2,fr2,e2⟩:=e2 (stK (lvK X.1 (S2.fm:Nat)) (S2.fm:Nat) 0);rw[e2];unfold stK;rw[e1];exact⟨l1,by show wrap64 (X.1.mv+((2:Nat):Int))=_;rw[l2];rfl,rfl,l3,l4⟩
 rw[ety] at hdd2;dsimp only at hdd2;rw[hka] at hcm;refine⟨(cmK (erK Kb V).1 S2 0).1,?_,by rw[hcm.2.2.2.2];exact efi.2,hcm.1,hcm.2.1,hcm.2.2.1,hcm.2.2.2.1,hdd2⟩;unfold vaK;rw[AI (by rintro (e | e);exact h0 e;exact h3 e),AI (by rw[DJ h,hdd];simp)];have emv:movR n K (nwS V false false)=some ((cmK (erK Kb V).1 S2 0).1,S2,0):=by
  unfold movR moK;rw[AI (by show ¬ false=true;decide)];have etr:trK (PN n) (n+1) K (nwS V false false)=some ((cmK (erK Kb V).1 S2 0).1,S2,0):=by
   rw[trK,AI (by show ¬ PM K (V:Nat)=true;rw[Sf hV];simpa using h3)];dsimp only;rw[ety,hcode,AJ dc]
  rw[etr];dsimp only;rw[AI (by rintro ⟨_,e⟩;exact absurd e dc)]
 rw[emv];rfl
end
section
variable (w:Wd)
theorem lr:∃tl:List Nat->Int->Pg,∀L n,ToldR L n (tl L n):=Classical.axiomOfChoice fun L=>Classical.axiomOfChoice fun n=>cq L n
theorem Eu(g:Nat)(w:Wd):(binOp .eql 25 (.pointer (some ⟨g,0,none⟩)) (.pointer none)).run prog w=.ok (.bool false) w:=kr
theorem Jz:Calls prog 10 #[] w fun e w'=>∃A K G,e=.returned (.tuple #[.pointer (some ⟨A.g,0,none⟩),.pointer (some ⟨A.c,0,none⟩)])/\Far A A.g w.heap.size/\w.heap.size<=A.g/\CoreAt A w' K/\je K G/\Chg No w w':=by
 obtain⟨tl,htl⟩:=lr;obtain⟨K,G,hcn,hB,-⟩:=jf htl 4;have HB:=BE hB;have HCN:=BE hcn;have HTL:=BE htl;have qn:=JD;have p1:=da;have p2:=Eu;have q:=CA;have q0:∀w,(binOp .neq 46 (errV 0) .nilIface).run prog w=.ok (.bool false) w:=fun w=>q 0 w;have gq:=BQ;clear hcn hB htl q;go_enter func10,ntmps10;go_wp2_with fail;refine(WQ w).mono ?_;rintro e w1 ⟨rfl,hC1,G1⟩;have HC1:=BE hC1;have HG1:=BE G1;clear hC1 G1;go_wp2_with (refine AA.FK rfl rfl ?_);refine(db w.heap.size newS Su tl HTL.out w1 HC1.out).mono ?_;rintro e w2 ⟨A,hF,rfl,hK,G2⟩;have HK2:=BE hK;have eg:A.g=w.heap.size:=hF.1;have HF:Hid (Far A A.g w.heap.size):=by
  obtain⟨f0,f1,f2,f3,f4,f5,f6,f7,f8,f9⟩:=hF;have:=HG1.out.size;exact⟨rfl,om,om,om,om,om,om,om,om,om⟩
 have HG2:Hid (Chg No w w2):=HG1.out.trans' G2 (fun k hk e=>om);have HEG:=BE eg;clear hF hK G2 eg;go_wp2_with fail;refine(cx A w2 _ HK2.out 6 (K,0) HCN.out).mono ?_;rintro e w3 ⟨rfl,hK3,G3⟩;have HK3:=BE hK3;have HG3:Hid (Chg No w w3):=HG2.out.trans' G3 (fun k hk e=>by
  obtain⟨f0,f1,f2,f3,f4,f5,f6,f7,f8,f9⟩:=HF.out
  have:=HEG.out
  rcases e with e | e | e | e | e | e | e | e <;> omega)
 clear hK3 G3 HK2 HG2;go_wp2;go_ret2;refine⟨A,K,G,?_,HF.out,by rw[HEG.out];exact AM _,HK3.out,HB.out,HG3.out⟩;rw[HEG.out];rfl
theorem CoreAt.far2{A:Ad}{w w':Wd}{K:BH}(h:CoreAt A w K){b:Nat}(hc:Chg (·=b) w w')(hb:Ty w b 31):CoreAt A w' K:=by
 obtain⟨t0,t1,t2,t3,t4,t5,t6,t7,t8,t9⟩:=h.tys;obtain⟨f1,f2,f3,f4,f5,f6,f7⟩:=h.frame hc;exact⟨f1 (t0.ne hb dc),f2 (t1.ne hb dc) (t3.ne hb dc) (t4.ne hb dc) (t5.ne hb dc),f3 (t2.ne hb dc),f4 (t6.ne hb dc),f5 (t7.ne hb dc),f6 (t8.ne hb dc),f7 (t9.ne hb dc),h.wf⟩
theorem JE:(binOp .eql 46 .nilIface .nilIface).run prog w=.ok (.bool true) w:=kr
theorem ZP(A:Ad)(w:Wd)(K:BH)(h:CoreAt A w K)(ar:Nat)(La:Nat->Int)(hI:IB w ar 31 24 La)(nar:¬ Cor A ar)(of:Nat)(ho:of<24)(K':BH)(hg:geK K of=(K',JA (La of),0)) :Calls prog 14 #[.pointer (some ⟨A.c,0,none⟩),.pointer (some ⟨ar,0,none⟩),.int .i64 of] w fun e w'=>e=.returned (.bool true)/\CoreAt A w' K'/\Chg (Cor A) w w':=by
 have HI:=BE hI;have HNA:=BE nar;have hoz:(of:Int)<24:=om
 have hoz0:(0:Int)<=of:=om
 have HO:=BE ho;have hgk:=fN A w K h of ho;rw[hg] at hgk;dsimp only at hgk;rw[show errV 0=Value.nilIface from rfl] at hgk;have q:=JE;generalize hla:La of=y at *
 have HLA:=BE hla;have hlen:=CR y;have hbys:=GP y;have HLEN:=BE hlen;have HBYS:=BE hbys;clear h hI nar ho hg hla hlen hbys;go_enter func14,ntmps14;go_wp2_with fail;refine hgk.mono ?_;rintro e w1 ⟨v,rfl,O1,hK1,G1⟩;obtain⟨gv,cv,rfl,hgv,hgs,hcv,hcl,-⟩:=O1.lies (by rw[HLEN.out];decide);have HK1:=BE hK1;have HI1:=BE (HI.out.chg G1 HNA.out);have HG1:=BE G1;have HAT:Hid (At w1 gv 0 (JA y)):=⟨hgs,fun i hi=>by rw[AW];exact hcl i hi⟩;obtain⟨hc0,-⟩:=HI1.out.cell of HO.out;rw[HLA.out] at hc0;rw[HLEN.out];clear O1 hK1 G1 hgk HI hgv hgs hcv hcl;go_wp2_with fail;refine(Jy y w1).mono ?_;rintro e w2 ⟨rfl,hA2,G2⟩;have HK2:=BE (HK1.out.chg0 G2);have HG2:=BE (HG1.out.trans (Chg.cor0 (A:=A) G2));have HAT2:Hid (At w2 gv 0 (JA y)):=⟨Aj HAT.out.1 G2.size,fun i hi=>(G2.cell HAT.out.1 (fun f=>f) (0+i)).trans (HAT.out.2 i hi)⟩;have hsm:=ZB w2 gv 0 160 cv w1.heap.size 0 160 160 (JA y) (JA y) HLEN.out.symm HLEN.out.symm HBYS.out HBYS.out HAT2.out hA2.at_;rw[AO rfl] at hsm;clear hA2 G2 HK1 HG1 HI1 hc0 HAT;go_wp2_with fail;refine hsm.mono ?_;rintro e w3 ⟨rfl,rfl⟩;go_wp2;go_ret;exact⟨rfl,HK2.out,HG2.out⟩
end
section
variable {s:BM}{te:Kz}{mo:It}{n:Nat}{Z:BH × Nat}(K:BH)
def Pw (s:BM):Prop:=s.on=true/\s.lim=false
theorem ZQ(h:Pw s)(a k:Int)(l:List Nat):Pw (Bz s a k l).1:=by
 unfold Bz;split
 ·exact h
 ·rw[AI (by rw[h.1];decide)];split
  ·exact h
  ·rw[AI (by rw[h.2];simp)];split <;> exact h
theorem ZR(h:Pw s)(b:Int):Pw (eraseR s b).1:=by
 unfold eraseR;split
 ·exact h
 ·rw[AI (by rw[h.1];decide),AI (by rw[h.2];simp)];split <;> exact h
theorem jt(h:Pw s)(a:Int)(W:Nat->List Nat):∀n,Pw (wrN s a W n).1:=by
 intro n
 induction n with
 | zero=>exact h
 | succ n ih=>
  rw[wrN];split
  ·exact ZQ ih _ _ _
  ·exact ih
theorem ZS(h:Pw s)(a:Int):Pw (readV s a).1:=by
 unfold readV;split
 ·exact h
 ·split <;> exact h
theorem ZT(tl:List Nat->Int->Pg)(h:Pw s)(r a:Int):Pw (rdF tl s r a).1:=by
 have:=ZS h a;unfold rdF;split <;> exact this
theorem ju(tl:List Nat->Int->Pg)(h:Pw s)(r:Int)(t:CP)(D:List Nat):Pw (prF tl s r t D).1:=by
 unfold prF;have h1:=jt h t.p (wordOf D (body t.p t.o t.q t.c t.l)) 4;generalize wrN s t.p (wordOf D (body t.p t.o t.q t.c t.l)) 4=X at *
 dsimp only;have h2:=ZT tl h1 r t.p;generalize rdF tl X.1 r t.p=Y at *
 split
 ·exact h1
 ·split <;> exact h2
theorem ZU(p:Nat)(h:Pw K.s):Pw (rdK K p).1.s:=by
 have:=ZT K.tl h K.r p;unfold rdK;dsimp only;generalize rdF K.tl K.s K.r p=X at *
 split <;> exact this
theorem ZV(t:CP)(D:List Nat)(h:Pw K.s):Pw (prK K t D).1.s:=by
 have:=ju K.tl h K.r t D;unfold prK;dsimp only;exact this
theorem jv(t:CP)(D:List Nat)(h:Pw K.s):Pw (prM K t D).1.s:=by
 unfold prM;split
 ·exact h
 ·exact ZV K t D h
theorem jw(b:Nat)(h:Pw K.s):Pw (erK K b).1.s:=by
 have:=ZR h b;unfold erK;dsimp only;generalize eraseR K.s b=X at *
 split <;> exact this
theorem Sz:(clK K).s=K.s:=by
 unfold clK;split <;> rfl
theorem S7(b:Int):(lvK K b).s=K.s:=by
 unfold lvK;split
 ·exact Sz K
 ·rfl
theorem ZW(b s:Int):(stK K b s).s=K.s:=by
 unfold stK;dsimp only
theorem fT(b:Int):(spK K b).s=K.s:=by
 unfold spK;dsimp only;rw[ZW,S7]
theorem fU:(opK K).1.s=K.s:=by
 unfold opK;split <;> rfl
theorem RY(t:CP):(layK K t).1.s=K.s:=by
 unfold layK;dsimp only
theorem lw:(sqK K).s=K.s:=by
 unfold sqK;dsimp only
theorem ZX(H:GS)(K:BH)(p o:Nat)(h:Pw K.s):Pw (frK H K p o).1.s:=by
 unfold frK;by_cases hs:K.sp=true
 ·rw[AJ hs];exact h
 ·rw[AI hs];dsimp only;have h1:=ZV (sqK K) ⟨p,o,K.nx,0,false⟩ (H (sqK K) K.nx) (by rw[lw];exact h);generalize prK (sqK K) ⟨p,o,K.nx,0,false⟩ (H (sqK K) K.nx)=x at *
  by_cases c:x.2≠0
  ·rw[AJ c];exact h1
  ·rw[AI c];by_cases d:o=24
   ·rw[AJ d];exact h1
   ·rw[AI d];exact h1
theorem fV(S:Bm)(o:Nat):(tiK K S o).1.s=K.s:=by
 unfold tiK;split
 ·rfl
 ·split <;> rfl
theorem jx(o:Nat)(h:Pw K.s):Pw (coK K o).1.s:=by
 have h1:=ZU K (K.L o).toNat h;unfold coK;split
 ·exact h
 ·dsimp only;generalize rdK K (K.L o).toNat=X at *
  split
  ·exact h1
  ·split
   ·exact h1
   ·split <;> exact h1
theorem jy(bd:Bool):∀(l:List Nat) (K:BH) (S:Bm),Pw K.s->Pw (cpK bd l K S).1.s:=by
 intro l
 induction l with
 | nil=>intro K S h;exact h
 | cons o l ih=>
  intro K S h;unfold cpK;split
  ·exact ih K S h
  ·dsimp only;have h1:=jx K o h;generalize coK K o=c at *
   have h2:Pw (tiK c.1 S o).1.s:=(by rw[fV];exact h1);generalize tiK c.1 S o=t at *
   have h3:=jv t.1 ⟨t.2.2.1,o,t.1.vs o,(t.1.vc o+1) % 256,c.2.2.1⟩ c.2.1 h2;generalize prM t.1 ⟨t.2.2.1,o,t.1.vs o,(t.1.vc o+1) % 256,c.2.2.1⟩ c.2.1=p at *
   split
   ·exact h1
   ·split
    ·exact h2
    ·split
     ·exact h3
     ·exact ih _ _ h3
theorem fW:∀(l:List CP) (K:BH),(cmL l K).1.s=K.s:=by
 intro l
 induction l with
 | nil=>intro K;rfl
 | cons t l ih=>
  intro K;unfold cmL;split
  ·exact RY _ _
  ·exact(ih _).trans (RY _ _)
theorem fX(S:Bm)(st:Int):(cmK K S st).1.s=K.s:=by
 unfold cmK;dsimp only;by_cases c:(cmL S.ld K).2≠0
 ·rw[AJ c];exact fW _ _
 ·rw[AI c];have h1:(stK (lvK (cmL S.ld K).1 S.fm) S.fm st).s=K.s:=by rw[ZW,S7,fW]
  generalize stK (lvK (cmL S.ld K).1 S.fm) S.fm st=K1 at *
  by_cases d:S.tt.o=true
  ·rw[AJ d];dsimp only;rw[ZW];exact(Sz K1).trans h1
  ·rw[AI d];exact h1
theorem ZY(S:Bm)(h:Pw K.s):Pw (cbK K S).1.s:=by
 unfold cbK;dsimp only;have h1:Pw (tiK K S 24).1.s:=by rw[fV];exact h
 generalize tiK K S 24=t at *
 have h2:=ZX (bdH S.fm) t.1 t.2.2.1 24 h1;generalize frK (bdH S.fm) t.1 t.2.2.1 24=f at *
 split
 ·exact h1
 ·split
  ·exact h2
  ·rw[fX];exact h2
theorem jz(S:Bm)(h:Pw K.s):Pw (tyK K S).1.s:=by
 unfold tyK;dsimp only;have hx:=jy (S.fd || (S.rt && bearK K)) ((AC.ofL K.L S.fm).map Int.toNat) K { S with tt:=noF,ld:=[] } h;generalize cpK (S.fd || (S.rt && bearK K)) ((AC.ofL K.L S.fm).map Int.toNat) K { S with tt:=noF,ld:=[] }=x at *
 have he:=jw x.1 S.fm hx;have hb:=ZY x.1 x.2.1 hx;generalize erK x.1 S.fm=y at *
 have hc:Pw (cmK y.1 x.2.1 0).1.s:=by rw[fX];exact he
 have hl:Pw (lvK y.1 S.fm).s:=by rw[S7];exact he
 generalize cmK y.1 x.2.1 0=c at *
 generalize lvK y.1 S.fm=u at *
 have hd:=ZY u { x.2.1 with fd:=true } hl;generalize cbK u { x.2.1 with fd:=true }=v at *
 generalize cbK x.1 x.2.1=v2 at *
 split
 ·exact h
 ·split
  ·exact hx
  ·split
   ·exact hb
   ·split
    ·exact hc
    ·split
     ·exact he
     ·split
      ·exact hl
      ·exact hd
def eA (te:Kz):Prop:=∀K Z,te K=some Z->Pw K.s->Pw Z.1.s
def MovP (mo:It):Prop:=∀K S Z,mo K S=some Z->Pw K.s->Pw Z.1.s
theorem ZZ{an:Kz}(h:eA an):eA (SV an):=by
 intro K Z e hp;unfold SV at e;have h1:Pw (opK (clK K)).1.s:=by rw[fU,Sz];exact hp
 split at e
 ·cases e;exact hp
 ·split at e
  ·exact h _ _ e hp
  ·split at e
   ·cases e
    exact h1
   ·exact h _ _ e h1
theorem j7(h:eA te):∀n,MovP (trK te n):=by
 intro n
 induction n with
 | zero=>intro K S Z e;cases e
 | succ n ih=>
  intro K S Z e hp;unfold trK at e;have ht:=jz K S hp;split at e
  ·cases e;exact hp
  ·dsimp only at e;generalize tyK K S=x at *
   split at e
   ·cases e;exact ht
   ·cases hy:te (spK x.1 (AB.blV x.2.1.tt)) with
    | none=>rw[hy] at e;cases e
    | some y=>
     rw[hy] at e;dsimp only at e;have h1:=h _ _ hy (by rw[fT];exact ht);split at e
     ·cases e;exact h1
     ·exact ih _ _ _ e h1
theorem Za(h:eA te)(n:Nat):MovP (moK te n):=by
 intro K S Z e hp;unfold moK at e;cases hy:trK te n (if S.fd then lvK K S.fm else K) S with
 | none=>rw[hy] at e;cases e
 | some x=>
  rw[hy] at e;dsimp only at e;have h1:Pw x.1.s:=j7 h n _ _ _ hy (by
   split
   ·
    rw[S7];exact hp
   ·
    exact hp)
  split at e
  ·cases e
   show Pw (spK x.1 x.2.1.fm).s;rw[fT];exact h1
  ·cases e;exact h1
theorem j8(h:MovP mo):∀n K o Z,mrK mo n K o=some Z->Pw K.s->Pw Z.1.s:=by
 intro n
 induction n with
 | zero=>intro K o Z e;cases e
 | succ n ih=>
  intro K o Z e hp;unfold mrK at e;have h0:Pw (clK K).s:=by rw[Sz];exact hp
  split at e
  ·cases e;exact hp
  ·dsimp only at e;generalize clK K=K1 at *
   have h1:Pw (opK K1).1.s:=(by rw[fU];exact h0);split at e
   ·split at e
    ·cases e
     exact h1
    ·exact ih _ _ _ e h1
   ·split at e
    ·cases e
     exact h0
    ·cases hy:mo K1 (nwS (AH.chV 12 12 K1.F (lvF K1)) false false) with
     | none=>rw[hy] at e;cases e
     | some y=>
      rw[hy] at e;dsimp only at e;have h2:=h _ _ _ hy h0;split at e
      ·cases e;exact h2
      ·exact ih _ _ _ e h2
theorem j9{mr:BH->Nat->Option (BH × Nat)}(hr:∀K o Z,mr K o=some Z->Pw K.s->Pw Z.1.s)(h:MovP mo)(H:GS):∀n K o Z,anK mr mo H n K o=some Z->Pw K.s->Pw Z.1.s:=by
 intro n
 induction n with
 | zero=>intro K o Z e;cases e
 | succ n ih=>
  intro K o Z e hp;unfold anK at e;split at e
  ·cases e;exact hp
  ·cases hx:mr K o with
   | none=>rw[hx] at e;cases e
   | some x=>
    rw[hx] at e;dsimp only at e;have h1:=hr _ _ _ hx hp;split at e
    ·cases e;exact h1
    ·split at e
     ·cases e;exact h1
     ·have h2:=ZX H { x.1 with fr:=AB.tkS x.1.fr o } (AB.nxV x.1.fr o).toNat o h1;generalize frK H { x.1 with fr:=AB.tkS x.1.fr o } (AB.nxV x.1.fr o).toNat o=f at *
      split at e
      ·cases e
       rw[RY];exact h2
      ·split at e
       ·cases e;exact h2
       ·cases hy:mo f.1 (nwS (AB.blV f.1.fr).toNat false true) with
        | none=>rw[hy] at e;cases e
        | some y=>
         rw[hy] at e;dsimp only at e;have h4:=h _ _ _ hy h2;split at e
         ·cases e;exact h4
         ·exact ih _ _ _ e h4
theorem LP:∀n H K o Z,anR n H K o=some Z->Pw K.s->Pw Z.1.s:=by
 intro n
 induction n with
 | zero=>intro H K o Z e;cases e
 | succ n ih=>
  intro H K o Z e;have hm:MovP (moK (SV fun K=>anR n noH K 24) (n+1)):=Za (ZZ fun _ _ e=>ih _ _ _ _ e) _;exact j9 (mr:=mrK (moK (SV fun K=>anR n noH K 24) (n+1)) (n+1)) (fun K o Z e=>j8 hm _ _ _ _ e) hm H (n+1) K o Z e
theorem TA(n:Nat):MovP (movR n):=Za (ZZ fun _ _ e=>LP n _ _ _ _ e) _
theorem kA{K:BH}{o:Nat}(e:tmK n K o=some Z)(hp:Pw K.s):Pw Z.1.s:=by
 unfold tmK at e;split at e
 ·cases e;exact hp
 ·cases hy:anR n (tmH o (K.vs o:Nat)) K 24 with
  | none=>rw[hy] at e;cases e
  | some y=>
   rw[hy] at e;dsimp only at e;have h1:=LP _ _ _ _ _ hy hp;split at e
   ·cases e;exact h1
   ·cases e;exact h1
theorem kC{K:BH}{b:Nat}{rt:Bool}(e:vaK n K b rt=some Z)(hp:Pw K.s):Pw Z.1.s:=by
 unfold vaK at e;split at e
 ·cases e;exact hp
 ·split at e
  ·cases e;exact hp
  ·cases hy:movR n K (nwS b rt false) with
   | none=>rw[hy] at e;cases e
   | some y=>
    rw[hy] at e;cases e
    exact TA n _ _ _ hy hp
theorem RZ(p:Nat)(h:Pw K.s):Pw (inK K p).1.s:=by
 have h1:=ZU K p h;unfold inK;dsimp only;generalize rdK K p=X at *
 split
 ·exact h1
 ·split
  ·exact h1
  ·split <;> exact h1
theorem kD(o:Nat)(h:Pw K.s):Pw (geK K o).1.s:=by
 have h1:=RZ K (K.L o).toNat h;unfold geK;split
 ·exact h
 ·dsimp only;generalize inK K (K.L o).toNat=X at *
  split
  ·exact h1
  ·split <;> exact h1
theorem Pw.not(h:Pw s):¬ s.on=false:=by rw[h.1];decide
end
section
variable {K K':BH}{B o W:Nat}{G:Bk}{La:Nat->Int}
def wW:Nat:=8+12*wM 0+2*((5+3)*wM 0)
theorem lz:wW=358408:=dc
def kJ (x:Int):List Nat:=JA x ++ List.replicate 14 0
theorem LQ(x:Int):(kJ x).length=174:=by unfold kJ;rw[AV,CR,length_replicate]
theorem TB(x:Int):Bys (kJ x):=fun n hn=>(mem_append.1 hn).elim (GP x n) (fun h=>by rw[(mem_replicate.1 h).2];decide)
theorem Zb(x:Int):(kJ x).take 160=JA x:=by
 unfold kJ;rw[take_append_of_le_length (by rw[CR];exact AM _),As (by rw[CR];exact AM _)]
theorem Ps:kJ 0=List.replicate 174 0:=dc
structure Lnv (B:Nat) (K:BH) (G:Bk) (La:Nat->Int):Prop where
 iv:Ivk K G
 pw:Pw K.s
 l24:K.L 24≠-1
 a:∀o,o<24->G.a o=kJ (La o)
 z:∀o,¬ G.z o
 nx:K.nx<=2+B+8*bad3 K.F
 ca:K.ca<=B
 rd:Rdn (1+B*wW) K
 c8:bad3 K.F<=2->K.ca<8
theorem Lnv.sq(h:Lnv B K G La)(hB:B<1073741824):Sq 1 K:=by
 have:=h.nx;unfold Sq IE;omega
theorem LR(hr:RdB W K K')(h:Rdn (1+B*wW) K)(hW:W<=wW)(hB:B<1073741824):Rdn (1+(B+1)*wW) K':=by
 have e:=lz;have h1:=hr (1+B*wW) (by rw[e];rw[e] at hW;omega) h;refine h1.mono ?_;rw[e];rw[e] at hW;omega
theorem VC:2*((5+3)*wM 0)<=wW:=dc
theorem Zc:wM 0<=wW:=dc
theorem Lnv.str{d:Nat}{G':Bk}(h:Lnv B K G La)(hB:B<1073741824)(st:Str d K K' G G')(rd:RdB W K K')(hW:W<=wW)(iv:Ivk K' G')(pw:Pw K'.s)(nx:K'.nx<=K.nx+1+8*d)(ca:K'.ca<=K.ca+1)(c8:K'.ca<=K.ca\/(bad3 K'.F<=2->K'.ca<8)):Lnv (B+1) K' G' La:=by
 have h1:=h.nx;have h2:=h.ca;have h3:=st.bd;exact⟨iv,pw,st.l24 h.l24,fun o ho=>by rw[st.a];exact h.a o ho,fun o=>by rw[st.z];exact h.z o,om,om,LR rd h.rd hW hB,fun hb=>c8.elim (fun e=>by have:=h.c8 om;omega) (fun f=>f hb)⟩
theorem TC{α:Type}(a:Nat->α){x:Nat}(D:α)(h:x≠o):ET a o D x=a x:=by unfold ET;rw[AI h]
theorem TD(h:Lnv B K G La)(hB:B<1073741824)(ho:o<24)(x:Int) :∃Z,anR 6 (fun _ _=>JA x ++ List.replicate 14 0) K o=some Z/\(Z.2=0\/Z.2=14/\2<bad3 Z.1.F)/\∃G' Lb,Lnv (B+1) Z.1 G' Lb/\(Z.2=0->Lb=upd La o x)/\(Z.2≠0->Lb=La)/\(bad3 K.F<=2->Z.2=0\/bad3 K.F<bad3 Z.1.F):=by
 obtain⟨Z,e,hca,hz⟩:=dQ (n:=5) dc h.iv h.l24 (h.sq hB) ho (LQ x) (TB x);have hpw:=LP _ _ _ _ _ e h.pw;refine⟨Z,e,?_⟩;rcases hz with ⟨c,G',d,iv,ga,gz,rd,q1,q2,q3,q4,q5,q6,q7,q8⟩ | ⟨G',d,st,rd,q⟩
 ·have n1:=h.nx;have n2:=h.ca;refine⟨AK c,G',upd La o x,⟨iv,hpw,q1,fun i hi=>?_,fun i=>by rw[gz];exact fun k=>h.z i k.2,om,om,LR rd h.rd VC hB,fun hb=>by have:=h.c8 om;omega⟩,fun _=>rfl,fun k=>absurd c k,fun _=>AK c⟩;rw[ga];by_cases ei:i=o
  ·rw[ei,Sd,Bb]
  ·rw[TC _ _ ei,BT _ _ ei];exact h.a i hi
 ·rcases q with ⟨c,iv,dd,nx⟩ | ⟨_,off,_⟩
  ·have hb:2<bad3 Z.1.F:=by
    obtain⟨_,X,hs,_⟩:=iv;exact hs.dds.1 dd
   exact⟨AL ⟨c,hb⟩,G',La,h.str hB st rd VC iv hpw nx om (AK om),fun k=>(by rw[c] at k;cases k),fun _=>rfl,fun _=>AL om⟩
  ·exact absurd off hpw.not
theorem Na(h:Lnv B K G La)(hB:B<1073741824)(ho:o<24) :∃K',geK K o=(K',JA (La o),0)/\Lnv (B+1) K' G La/\Eqv K K':=by
 obtain⟨K',iv,a,tl,rd,hg⟩:=dP h.iv ho;rcases hg with hg | ⟨hz,_⟩
 ·have hpw:=kD K o h.pw;rw[hg] at hpw;rw[h.a o ho,Zb] at hg;refine⟨K',hg,h.str hB (a.str tl G) rd dc iv hpw ?_ ?_ (AK ?_),a⟩
  ·rw[a.nx];omega
  ·rw[a.ca];omega
  ·rw[a.ca];exact AM _
 ·exact absurd hz (h.z o)
theorem Pt(h:Lnv B K G La)(hB:B<1073741824)(ho:o<24) :∃Z,tmK 6 K o=some Z/\(Z.2=0\/Z.2=14/\2<bad3 Z.1.F)/\∃G' Lb,Lnv (B+1) Z.1 G' Lb/\(Z.2=0->Lb=upd La o 0)/\(Z.2≠0->Lb=La):=by
 obtain⟨Z,e,hca,hz⟩:=dS (n:=5) dc h.iv h.l24 (h.sq hB) ho;have hpw:=kA e h.pw;refine⟨Z,e,?_⟩;rcases hz with ⟨c,G',d,iv,ga,gz,rd,q1,q2,q3,q4,q7,q8⟩ | ⟨G',d,st,rd,q⟩
 ·have n1:=h.nx;have n2:=h.ca;refine⟨AK c,G',upd La o 0,⟨iv,hpw,q1,fun i hi=>?_,fun i k=>h.z i (gz i k),om,om,LR rd h.rd VC hB,fun hb=>by have:=h.c8 om;omega⟩,fun _=>rfl,fun k=>absurd c k⟩;rw[ga];by_cases ei:i=o
  ·rw[ei,Sd,Bb,Ps]
  ·rw[TC _ _ ei,BT _ _ ei];exact h.a i hi
 ·rcases q with ⟨c,iv,dd,nx⟩ | ⟨_,off,_⟩
  ·have hb:2<bad3 Z.1.F:=by
    obtain⟨_,X,hs,_⟩:=iv;exact hs.dds.1 dd
   exact⟨AL ⟨c,hb⟩,G',La,h.str hB st rd VC iv hpw nx om (AK om),fun k=>(by rw[c] at k;cases k),fun _=>rfl⟩
  ·exact absurd off hpw.not
theorem TE(h:Lnv B K G La)(hB:B<1073741824){b:Nat}(hb:b<12)(rt:Bool) :∃Z,vaK 6 K b rt=some Z/\(∃G',Lnv (B+1) Z.1 G' La) /\(((K.F b=0\/K.F b=3)/\Z=(K,12))\/(K.F b≠0/\K.F b≠3/\(2<bad3 K.F\/(rt=true/\bad3 K.F=2))/\Z=(K,14)) \/(K.F b≠0/\K.F b≠3/\¬ (2<bad3 K.F\/(rt=true/\bad3 K.F=2))/\((Z.2=0/\(Z.1.F b=0\/Z.1.F b=3)/\∀o,o<25->Z.1.L o≠-1->(Z.1.L o).toNat / 8≠b)\/(Z.2=14/\2<bad3 Z.1.F)))):=by
 obtain⟨Z,e,hca,hz⟩:=dT (n:=6) dc h.iv (h.sq hB) hb rt;have hpw:=kC e h.pw;refine⟨Z,e,?_⟩;have same:Lnv (B+1) K G La:=h.str hB (Str.refl K G) (RdB.refl K) (Ac _) h.iv h.pw om om (AK (AM _));rcases hz with ⟨h1,h2⟩ | ⟨h1,h2,h3,h4⟩ | ⟨h1,h2,h3,G',d,st,rd,q⟩
 ·exact⟨⟨G,by rw[h2];exact same⟩,AK ⟨h1,h2⟩⟩
 ·exact⟨⟨G,by rw[h4];exact same⟩,AL (AK ⟨h1,h2,h3,h4⟩)⟩
 ·rcases q with ⟨c,iv,dd,hF,hn,nx⟩ | ⟨c,iv,dd,nx⟩ | ⟨_,off,_⟩
  ·exact⟨⟨G',h.str hB st rd Zc iv hpw nx om (AK om)⟩,AL (AL ⟨h1,h2,h3,AK ⟨c,hF,hn⟩⟩)⟩
  ·have hb:2<bad3 Z.1.F:=by
    obtain⟨_,X,hs,_⟩:=iv;exact hs.dds.1 dd
   exact⟨⟨G',h.str hB st rd Zc iv hpw nx om (AK om)⟩,AL (AL ⟨h1,h2,h3,AL ⟨c,hb⟩⟩)⟩
  ·exact absurd off hpw.not
theorem je.inv(h:je K G):Lnv 0 K G (fun _=>0) where
 iv:=h.ivk
 pw:=⟨h.fine.on,h.fine.lim⟩
 l24:=by rw[h.L,Bb];decide
 a:=fun o _=>by rw[h.a,Ps]
 z:=fun o=>by rw[h.z];exact id
 nx:=by rw[h.nx];omega
 ca:=by rw[h.ca];exact AM _
 rd:=h.rd.mono om
 c8:=fun _=>by rw[h.ca];decide
end
theorem Zf(L:Nat->Int)(n:Int):AC.atC L n=0\/AC.atC L n=1\/AC.atC L n=11:=by
 unfold AC.atC;split
 ·exact AL (AK rfl)
 ·split
  ·exact AL (AL rfl)
  ·exact AK rfl
theorem l9:(AC.ofL (upd (upd (fun _=>-1) 24 0) 3 1) 0).map Int.toNat=[24,3]:=dc
theorem mA:tkM (AD.tkF (fun _=>0) 0 0)=1:=dc
theorem eB{K:BH}{G:Bk}(h:je K G):∃KB KC KD KE GE La,anR 6 (fun _ _=>JA 7 ++ List.replicate 14 0) K 3=some (KB,0)/\KB.L 3=1/\KB.nx=3/\vaK 6 KB 0 false=some (KC,0)/\KC.L 24=8/\KC.L 3=9/\KC.mv=2/\tmK 6 KC 3=some (KD,0)/\geK KD 3=(KE,JA 0,0)/\Lnv 4 KE GE La:=by
 obtain⟨K1,s',r',R',fD,fi,-,e1⟩:=Ss (H:=fun _ _=>JA 7 ++ List.replicate 14 0) (fun _ _=>⟨LQ 7,TB 7⟩) h.sit h.fine h.dd (o:=3) dc (by rw[h.fr];decide) (by rw[h.nx];decide) 5;have hl:=RO dc fD;obtain⟨-,-,-,-,-,-,-,T,sB⟩:=Sn (by decide:3<24) fD (by rw[h.L,Bb];decide) rfl;rw[h.fr] at e1 hl sB;generalize FrL K1 3 (8*(⟨true,0,1⟩:AB.St).k+(⟨true,0,1⟩:AB.St).i) s' r' R'=Z at *
 obtain⟨l0,lL,ls,lF,lfr,lnx,lmv,ldd,ltl⟩:=hl;obtain⟨KB,c⟩:=Z;dsimp only at l0 lL ls lF lfr lnx lmv ldd ltl sB;subst l0;have hLB:KB.L=upd (upd (fun _=>-1) 24 0) 3 1:=by rw[lL,h.L];rfl
 have hFB:KB.F=AD.tkF (fun _=>0) 0 0:=lF.trans h.F;have fB:Fine KB.s:=by rw[ls];exact fi
 have ddB:KB.dd=false:=ldd.trans h.dd;have nxB:KB.nx=3:=by rw[lnx,h.nx]
 have rmB:Rm 0 KB:=by
  have:=h.rm;unfold Rm at this ⊢;rw[lF];exact this
 have tB:∀b,b<12->KB.F b=3->G.c.B b=true:=fun b hb e=>h.told b hb (by rw[<-lF];exact e);obtain⟨KC,e2,fC,hLC,mC,frC,nxC,ddC⟩:=js sB fB ddB rmB tB (by rw[nxB];decide) (V:=0) (a:=24) (b:=3) dc (by rw[hFB];decide) (by rw[hFB];decide) dc (by rw[hLB];exact l9) 6;rw[show tkM KB.F=1 by rw[hFB];exact mA] at hLC frC;obtain⟨Z1,q1,-,G1,L1,v1,-⟩:=TD h.inv dc (o:=3) dc 7;have z1:Z1=(KB,0):=AR (q1.symm.trans e1);subst z1;obtain⟨Z2,q2,⟨G2,v2⟩,-⟩:=TE v1 dc (b:=0) dc false;have z2:Z2=(KC,0):=AR (q2.symm.trans e2);subst z2;obtain⟨Z3,q3,hc3,G3,L3,v3,hb3,-⟩:=Pt v2 dc (o:=3) dc;have sC:Sit KC G2 No:=by
  obtain⟨_,X,hs,hd⟩:=v2.iv;exact hs.mono (fun b _ e=>absurd e ((hd ddC).1 b))
 obtain⟨K2,s2,r2,R2,fD2,-,-,e3⟩:=Ss (H:=tmH 3 (KC.vs 3:Nat)) (fun _ _=>⟨AA.CI _,AA.FA _⟩) sC fC ddC (o:=24) dc (by rw[frC];decide) (by rw[nxC,nxB];decide) 5;have hl2:=RO dc fD2;have hz3:Z3.2=0:=by
  have q4:=q3;unfold tmK at q4;rw[AI (by rw[hLC,Bb];decide),e3] at q4;dsimp only at q4;rw[AI (by rw[hl2.1];simp)] at q4;have e5:=congrArg (·.2) (AR q4);dsimp only at e5;have:=Zf (FrL K2 24 (8*KC.fr.k+KC.fr.i) s2 r2 R2).1.L ((3:Nat):Int);rcases hc3 with c | ⟨c,_⟩
  ·exact c
  ·rw[<-e5] at c;omega
 obtain⟨KD,c⟩:=Z3;dsimp only at hz3;subst hz3;obtain⟨KE,q5,v5,-⟩:=Na v3 dc (o:=3) dc;rw[hb3 rfl,Bb] at q5;refine⟨KB,KC,KD,KE,G3,L3,e1,?_,nxB,e2,?_,?_,?_,q3,q5,v5⟩
 ·rw[hLB,Bb]
 ·rw[hLC,BT _ _ dc,Bb];rfl
 ·rw[hLC,Bb];rfl
 ·rw[mC,lmv,h.mv];kernel_rfl
section
variable (w:Wd)
theorem Ja{ops:Array Oper}{rest:List Oper}{o:Oper}{a:Act}{w:Wd}{Q:Exit->Act->World->Prop}(hw:Region.wanted o (yielded ops a.tmps)=true)(x:Operand)(ho:o.op=.load 39 x)(g:Nat)(hx:a.eval x=.pointer (some ⟨g,0,none⟩)){F:Nat->Int}(hg:IB w g 39 67 F)(h:wpList prog ops Q rest (a.put o.dst (.agg (ints F 67).toArray)) w):wpList prog ops Q (o :: rest) a w:=
 wpList_step fun _ hK=>by
  rw[AJ hw]
  exact wp_load_row 39 x ho g hx 39 _ _ _ hg underlying39 rfl (by rw[show (ints F 67).toArray.size=67 by simp[BF]];exact Gu) (hK _ _ h)
theorem eC:prog.plainKey 2=true:=kr
theorem Ha(d:Nat)(w:Wd)(f:Nat->Int):(Op.equalIn (d+2) 36 (.agg (ints f 12).toArray) (.agg (ints f 12).toArray)).run prog w=.ok true w:=by
 obtain⟨i,hi⟩:=ZF;rw[run_equalIn_array w (d+1) _ _ underlying36 hi,Sx];refine LN d _ w _ (fun i hi=>⟨f i,?_⟩);have:=BU f 12 i (mem_range.1 hi);simpa[i6] using this
theorem Zg:(prog.fieldsOf 39).toList.map (fun f=>(f.type,f.offset))=[(36,0),(37,12),(2,37),(3,38),(3,39),(36,40),(36,52),(3,64),(3,65),(3,66)]:=kr
theorem TF(F:Nat->Int):(ints F 67).toArray.extract 0 (0+12)=(ints F 12).toArray/\(ints F 67).toArray.extract 12 (12+25)=(ints (fun i=>F (12+i)) 25).toArray/\(ints F 67).toArray.extract 40 (40+12)=(ints (fun i=>F (40+i)) 12).toArray/\(ints F 67).toArray.extract 52 (52+12)=(ints (fun i=>F (52+i)) 12).toArray:=⟨kr,kr,kr,kr⟩
theorem Ra(d:Nat)(A:Array Value)(w:Wd)(fs:List Field)(h:∀f ∈ fs,∃v,(Go.part f.type A f.offset).run prog w=.ok v w/\(Op.equalIn d f.type v v).run prog w=.ok true w) :(Op.eqFields d A A fs).run prog w=.ok true w:=by
 induction fs with
 | nil=>simp[Op.eqFields]
 | cons f fs ih=>
  have ih:=ih (fun g hg=>h g (by simp[hg]));obtain⟨v,h1,h2⟩:=h f (by simp);simp only[Op.eqFields];split
  ·simp only[Sem.run_bind,h1,h2,Result.andThen_ok];simpa using ih
  ·exact ih
theorem TG(t:TypeId)(w:Wd)(b:Bool)(h:(isAgg t).run prog w=.ok b w)(A:Array Value)(off n:Nat)(hn:(sizeOf t).run prog w=.ok n w)(hb:b=true):(Go.part t A off).run prog w=.ok (.agg (A.extract off (off+n))) w:=by
 subst hb;simp[Go.part,h,hn]
theorem LS:(isAgg 36).run prog w=.ok true w:=kr
theorem Zh:(isAgg 37).run prog w=.ok true w:=kr
theorem Rb:(sizeOf 36).run prog w=.ok 12 w:=kr
theorem kK:(sizeOf 37).run prog w=.ok 25 w:=kr
theorem fY(F:Nat->Int)(i:Nat)(h:i<67):(ints F 67).toArray[i]?=some (.int .i64 (F i)):=by
 have:=BU F 67 i h;simpa[i6] using this
theorem mB(d:Nat)(w:Wd)(F:Nat->Int):(Op.equalIn (d+3) 39 (.agg (ints F 67).toArray) (.agg (ints F 67).toArray)).run prog w=.ok true w:=by
 rw[run_equalIn_struct w (d+2) 39 _ _ kr kr];apply Ra;intro f hf;have hm:(f.type,f.offset) ∈ [(36,0),(37,12),(2,37),(3,38),(3,39),(36,40),(36,52),(3,64),(3,65),(3,66)]:=by
  rw[<-Zg];exact mem_map.2 ⟨f,hf,rfl⟩
 have one:∀i,i<67->∃v,(Go.part 3 (ints F 67).toArray i).run prog w=.ok v w/\(Op.equalIn (d+2) 3 v v).run prog w=.ok true w:=fun i hi=>
  ⟨_,run_part_plain (P:=prog) w Sw (xs:=(ints F 67).toArray) (off:=i) (fY F i hi),by
   have:=run_equalIn_int (P:=prog) w (d+1) 3 .i64 .i64 (F i) (F i) underlying3
   rw[beq_self_eq_true] at this;exact this⟩
 simp only[mem_cons,not_mem_nil,or_false,Prod.mk.injEq] at hm;rcases hm with ⟨h1,h2⟩ | ⟨h1,h2⟩ | ⟨h1,h2⟩ | ⟨h1,h2⟩ | ⟨h1,h2⟩ | ⟨h1,h2⟩ | ⟨h1,h2⟩ | ⟨h1,h2⟩ | ⟨h1,h2⟩ | ⟨h1,h2⟩ <;> rw[h1,h2]
 ·refine⟨_,TG 36 w _ (LS w) _ _ _ (Rb w) rfl,?_⟩;rw[(TF F).1];exact Ha d w _
 ·refine⟨_,TG 37 w _ (Zh w) _ _ _ (kK w) rfl,?_⟩;rw[(TF F).2.1];exact LO d w _
 ·exact⟨_,run_part_plain (P:=prog) w eC (xs:=(ints F 67).toArray) (off:=37) (fY F 37 dc),by
   have:=run_equalIn_int (P:=prog) w (d+1) 2 .i64 .i64 (F 37) (F 37) underlying2
   rw[beq_self_eq_true] at this;exact this⟩
 ·exact one 38 dc
 ·exact one 39 dc
 ·refine⟨_,TG 36 w _ (LS w) _ _ _ (Rb w) rfl,?_⟩;rw[(TF F).2.2.1];exact Ha d w _
 ·refine⟨_,TG 36 w _ (LS w) _ _ _ (Rb w) rfl,?_⟩;rw[(TF F).2.2.2];exact Ha d w _
 ·exact one 64 dc
 ·exact one 65 dc
 ·exact one 66 dc
theorem kL(F:Nat->Int):(binOp .eql 39 (.agg (ints F 67).toArray) (.agg (ints F 67).toArray)).run prog w=.ok (.bool true) w:=by
 rw[run_eql_struct,show (10000:Nat)=9997+3 from rfl,mB];rfl
theorem Zi(op:BinOp)(x y:Operand)(xs ys:Array Value):(eqGuard op 39 x y (.agg xs) (.agg ys)).run prog w=.ok () w:=run_eqGuard_agg w op 39 x y xs ys kr
theorem kN:Calls prog 9 #[] w fun e w'=>e=.returned (.bool true)/\Chg No w w':=by
 have p2:=Eu;have q:=JE;go_enter func9,ntmps9;go_wp2_with fail;refine(Jz w).mono ?_;rintro e w1 ⟨A,K,G,rfl,hF,hAg,hK1,hB,G1⟩;obtain⟨KB,KC,KD,KE,GE,La,u1,u2,u3,u4,u5,u6,u7,u8,u9,u10⟩:=eB hB;have HA:Hid (∀k,Cor A k->w.heap.size<=k):=fun k hk=>by
  obtain⟨f0,f1,f2,f3,f4,f5,f6,f7,f8,f9⟩:=hF;rcases hk with e | e | e | e | e | e | e | e <;> omega
 have HB:=BE hB;have HK1:=BE hK1;have HG1:=BE G1;have U1:=BE u1;have U4:=BE u4;have U8:=BE u8;have U9:=BE u9;have U10:=BE u10;have V1:Hid (vwF K (12+24)=0/\vwF K 37=2):=⟨by rw[NX K dc,hB.L,Bb],by show ((K.nx:Nat):Int)=2;rw[hB.nx];rfl⟩;have V2:Hid (vwF KB (12+3)=1/\vwF KB 37=3):=⟨by rw[NX KB dc,u2],by show ((KB.nx:Nat):Int)=3;rw[u3];rfl⟩;have V3:Hid (vwF KC (12+24)=8/\vwF KC (12+3)=9/\vwF KC 66=2):=⟨by rw[NX KC dc,u5],by rw[NX KC dc,u6],by show KC.mv=2;exact u7⟩;clear hF hAg hK1 hB G1 u1 u2 u3 u4 u5 u6 u7 u8 u9 u10;have HK:=HK1;have HG:=HG1;clear HK1 HG1;go_wp2_with fail;refine(EW A w1 K HK.out).mono ?_;rintro e wva ⟨rfl,hK2,G2⟩;have hap:¬ Cor A wva.heap.size:=hK2.apart (AM _);have HKx:=BE hK2;have HGx:=BE (HG.out.trans G2);have HGp:=BE G2;have HI2:=BE (IB.new wva 39 67 (fun _=>0));clear hK2 G2 HK HG;go_wp2_with (first | refine Bw rfl rfl ?_ | refine By rfl (.tmp 3) (.tmp 19) rfl wva.heap.size rfl rfl HI2.out ?_);intro wka I3 G3;have G23:Chg No wva wka:=((Chg.refl No wva).alloc _).trans' G3 (fun k hk h=>om);have HK:=BE (HKx.out.chg0 G23);have HG:=BE (HGx.out.trans G23);have HVa:=BE I3;have HNHVa:=BE hap;obtain⟨na,hna⟩:∃n,wva.heap.size=n:=⟨_,rfl⟩;rw[hna] at HVa HNHVa;rw[hna];clear I3 G3 G23 hap HKx HGx HGp HI2 hna;go_wp2_with fail;refine(Jy 7 wka).mono ?_;rintro e w4 ⟨rfl,hA4,G4⟩;have hpk:=fM A w4 K (HK.out.chg0 G4) 3 dc wka.heap.size 0 160 (JA 7) (CR 7) (GP 7) hA4.at_ (HK.out.apart (AM _)) 6 (KB,0) U1.out;have HGp:=BE G4;clear hA4 G4;go_wp2_with fail;refine hpk.mono ?_;rintro e w5 ⟨rfl,hK5,G5⟩;have HKn:=BE hK5;have HGn:Hid (Chg No w w5):=(HG.out.trans HGp.out).trans' G5 (fun k hk e=>by have:=HA.out k e;omega);replace HVa:=BE ((HVa.out.chg HGp.out (fun f=>f)).chg G5 HNHVa.out);clear hpk hK5 G5 HGp HK HG;have HK:=HKn;have HG:=HGn;clear HKn HGn;rw[show errV 0=Value.nilIface from rfl];go_wp2_with fail;refine(EW A w5 KB HK.out).mono ?_;rintro e wvb ⟨rfl,hK2,G2⟩;have hap:¬ Cor A wvb.heap.size:=hK2.apart (AM _);have HKx:=BE hK2;have HGx:=BE (HG.out.trans G2);have HGp:=BE G2;have HI2:=BE (IB.new wvb 39 67 (fun _=>0));clear hK2 G2 HK HG;go_wp2_with (first | refine Bw rfl rfl ?_ | refine By rfl (.tmp 5) (.tmp 24) rfl wvb.heap.size rfl rfl HI2.out ?_);intro wkb I3 G3;have G23:Chg No wvb wkb:=((Chg.refl No wvb).alloc _).trans' G3 (fun k hk h=>om);have HK:=BE (HKx.out.chg0 G23);have HG:=BE (HGx.out.trans G23);have HVb:=BE I3;have HNHVb:=BE hap;replace HVa:=BE (HVa.out.chg (HGp.out.trans G23) (fun f=>f));obtain⟨nb,hnb⟩:∃n,wvb.heap.size=n:=⟨_,rfl⟩;rw[hnb] at HVb HNHVb;rw[hnb];clear I3 G3 G23 hap HKx HGx HGp HI2 hnb;go_wp2_with fail;refine(PT A wkb KB HK.out 0 dc false 6 (KC,0) U4.out).mono ?_;rintro e w6 ⟨rfl,hK6,G6⟩;have HKn:=BE hK6;have HGn:Hid (Chg No w w6):=HG.out.trans' G6 (fun k hk e=>by have:=HA.out k e;omega);replace HVa:=BE (HVa.out.chg G6 HNHVa.out);replace HVb:=BE (HVb.out.chg G6 HNHVb.out);clear hK6 G6 HK HG;have HK:=HKn;have HG:=HGn;clear HKn HGn;rw[show errV 0=Value.nilIface from rfl];go_wp2_with fail;refine(EW A w6 KC HK.out).mono ?_;rintro e wvc ⟨rfl,hK2,G2⟩;have hap:¬ Cor A wvc.heap.size:=hK2.apart (AM _);have HKx:=BE hK2;have HGx:=BE (HG.out.trans G2);have HGp:=BE G2;have HI2:=BE (IB.new wvc 39 67 (fun _=>0));clear hK2 G2 HK HG;go_wp2_with (first | refine Bw rfl rfl ?_ | refine By rfl (.tmp 7) (.tmp 28) rfl wvc.heap.size rfl rfl HI2.out ?_);intro wkc I3 G3;have G23:Chg No wvc wkc:=((Chg.refl No wvc).alloc _).trans' G3 (fun k hk h=>om);have HK:=BE (HKx.out.chg0 G23);have HG:=BE (HGx.out.trans G23);have HVc:=BE I3;have HNHVc:=BE hap;replace HVa:=BE (HVa.out.chg (HGp.out.trans G23) (fun f=>f));replace HVb:=BE (HVb.out.chg (HGp.out.trans G23) (fun f=>f));obtain⟨nc,hnc⟩:∃n,wvc.heap.size=n:=⟨_,rfl⟩;rw[hnc] at HVc HNHVc;rw[hnc];clear I3 G3 G23 hap HKx HGx HGp HI2 hnc;go_wp2_with fail;refine(YP A wkc KC HK.out 3 dc 6 (KD,0) U8.out).mono ?_;rintro e w7 ⟨rfl,hK7,G7⟩;have HKn:=BE hK7;have HGn:Hid (Chg No w w7):=HG.out.trans' G7 (fun k hk e=>by have:=HA.out k e;omega);replace HVa:=BE (HVa.out.chg G7 HNHVa.out);replace HVb:=BE (HVb.out.chg G7 HNHVb.out);replace HVc:=BE (HVc.out.chg G7 HNHVc.out);clear hK7 G7 HK HG;have HK:=HKn;have HG:=HGn;clear HKn HGn;rw[show errV 0=Value.nilIface from rfl];have hgk:=fN A w7 KD HK.out 3 dc;rw[U9.out] at hgk;dsimp only at hgk;rw[show errV 0=Value.nilIface from rfl] at hgk;go_wp2_with fail;refine hgk.mono ?_;rintro e w8 ⟨v,rfl,O8,hK8,G8⟩;obtain⟨gv,cv,rfl,hgv,hgs,hcv,hcl,-⟩:=O8.lies (by rw[CR];decide);have HKn:=BE hK8;have HGn:Hid (Chg No w w8):=HG.out.trans' G8 (fun k hk e=>by have:=HA.out k e;omega);replace HVa:=BE (HVa.out.chg G8 HNHVa.out);replace HVb:=BE (HVb.out.chg G8 HNHVb.out);replace HVc:=BE (HVc.out.chg G8 HNHVc.out);have HAT:Hid (At w8 gv 0 (JA 0)):=⟨hgs,fun i hi=>by rw[AW];exact hcl i hi⟩;rw[CR];clear hK8 G8 HK HG O8 hgk hgv hgs hcv hcl;have HK:=HKn;have HG:=HGn;clear HKn HGn;go_wp2_with fail;refine(EW A w8 KE HK.out).mono ?_;rintro e w9 ⟨rfl,hK9,G9⟩;have HKn:=BE hK9;have HGn:=BE (HG.out.trans G9);have HGp:=BE G9;clear hK9 G9 HK HG;go_wp2_with fail;refine(Pr A.g KE GE U10.out.iv U10.out.l24 w9 HKn.out.chip).mono ?_;rintro e wx ⟨rfl,Gx⟩;have HG:=BE (HGn.out.trans Gx);have G8x:=HGp.out.trans Gx;replace HVa:=BE (HVa.out.chg G8x (fun f=>f));replace HVb:=BE (HVb.out.chg G8x (fun f=>f));replace HVc:=BE (HVc.out.chg G8x (fun f=>f));have HATx:Hid (At wx gv 0 (JA 0)):=⟨Aj HAT.out.1 G8x.size,fun i hi=>(G8x.cell HAT.out.1 (fun f=>f) (0+i)).trans (HAT.out.2 i hi)⟩;obtain⟨a36,-⟩:=HVa.out.cell 36 dc;obtain⟨a37,-⟩:=HVa.out.cell 37 dc;obtain⟨b15,-⟩:=HVb.out.cell 15 dc;obtain⟨b37,-⟩:=HVb.out.cell 37 dc;obtain⟨c36,-⟩:=HVc.out.cell 36 dc;obtain⟨c15,-⟩:=HVc.out.cell 15 dc;obtain⟨c66,-⟩:=HVc.out.cell 66 dc;rw[show vwF K 36=0 from V1.out.1] at a36;rw[V1.out.2] at a37;rw[show vwF KB 15=1 from V2.out.1] at b15;rw[V2.out.2] at b37;rw[show vwF KC 36=8 from V3.out.1] at c36;rw[show vwF KC 15=9 from V3.out.2.1] at c15;rw[V3.out.2.2] at c66;have hby:=Jy 0 wx;clear Gx G8x HGp HGn HKn HAT HVa HVb HVc;go_wp2_with fail;refine hby.mono ?_;rintro e wy ⟨rfl,hAy,Gy⟩;have hsm:=ZB wy gv 0 160 cv wx.heap.size 0 160 160 (JA 0) (JA 0) (CR 0).symm (CR 0).symm (GP 0) (GP 0) ⟨Aj HATx.out.1 Gy.size,fun i hi=>(Gy.cell HATx.out.1 (fun f=>f) (0+i)).trans (HATx.out.2 i hi)⟩ hAy.at_;rw[AO rfl] at hsm;have HGy:=BE (HG.out.trans Gy);clear hAy Gy hby;go_wp2_with fail;refine hsm.mono ?_;rintro e wz ⟨rfl,rfl⟩;go_wp2;go_ret;exact⟨rfl,HGy.out⟩
end
def LT (x:Int):Prop:=-9223372036854775808<=x/\x<=9223372036854775807
theorem Chg.corA{A:Ad}{ar:Nat}{w w':Wd}(h:Chg (Cor A) w w'):Chg (fun k=>Cor A k\/k=ar) w w':=h.mono (fun _ _ f=>AK f)
section
variable {ops:Array Oper}{rest:List Oper}{o:Oper}{a:Act}{w:Wd}{Q:Exit->Act->World->Prop}{F:Nat->Int}
theorem Dv(hgd:o.guard=none)(x:Operand)(ho:o.op=.load 39 x)(g:Nat)(hx:a.eval x=.pointer (some ⟨g,0,none⟩))(hg:IB w g 39 67 F)(h:wpList prog ops Q rest (a.put o.dst (.agg (ints F 67).toArray)) w):wpList prog ops Q (o :: rest) a w:=
 wpList_load_row hgd 39 x ho g hx 39 _ _ _ hg underlying39 rfl (by rw[show (ints F 67).toArray.size=67 by simp[BF]];exact Gu) h
theorem Bi(d:Nat)(_:o.dst=some d)(x:Operand)(ho:o.op=.load 39 x)(g:Nat)(hx:a.eval x=.pointer (some ⟨g,0,none⟩))(hw:Region.wanted o (yielded ops a.tmps)=true)(hg:IB w g 39 67 F)(h:wpList prog ops Q rest (a.put o.dst (.agg (ints F 67).toArray)) w):wpList prog ops Q (o :: rest) a w:=Ja hw x ho g hx hg h
end
theorem GQ{S:Nat->Prop}{w w':Wd}(h:Chg S w w'){B:Nat}(hS:∀k,S k->B<=k)(hB:B<=w.heap.size):Below B w w':=
 ⟨h.os,h.tape,h.output,h.size,fun k hk=>h.block k om (fun f=>by have:=hS k f;omega)⟩
end Go.Proofs.YtmdpnpjacfedpaaGreat
namespace Go.Proofs.YtmdpnpjacfedpaaGreat
open List
open Go.Proofs.Tryz
open Go.RowKit Go.Deep Go.ChangeShapes Go.WideShapes
section
variable {H:Type}
theorem Zk(d:DataW H):1<=Rows.uptoBulk d:=by
 cases d with
 | lit l=>cases l <;> simp[Rows.uptoBulk]
 | _=>simp[Rows.uptoBulk]
theorem Zl(l:List (DataW H)):l.length<=Rows.uptoBulkAll l:=by
 induction l with
 | nil=>simp[Rows.uptoBulkAll]
 | cons x r ih=>have:=Zk x;simp only[Rows.uptoBulkAll,An];omega
theorem H8(g o j:Nat):(⟨g,o,none⟩:Addr).add j=⟨g,o+j,none⟩:=by unfold Addr.add;split <;> simp_all
theorem eG{w:Wd}{a:Addr}{v:Value}(h:w.cell? a=some v):a.block<w.heap.size:=by
 by_cases hb:a.block<w.heap.size
 ·exact hb
 ·rw[World.cell?,Array.getElem?_eq_none om] at h;cases h
end
end Go.Proofs.YtmdpnpjacfedpaaGreat
namespace Go.Proofs.YtmdpnpjacfedpaaGreat
open List
open Go.Proofs.Tryz
open Go.RowKit
theorem nL(K:BH){i:Nat}(h:i<12):vwF K (40+i)=K.hR i:=by unfold vwF;rw[AI om,AI om,AI om,AI om,AI om,AJ om,show 40+i - 40=i by omega]
end Go.Proofs.YtmdpnpjacfedpaaGreat
