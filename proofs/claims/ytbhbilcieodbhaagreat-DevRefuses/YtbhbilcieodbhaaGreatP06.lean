/-
  A page is programmed. Condition: the core lies in memory; the tag may be; the data lie outside the core.
-/
import Derived.Test.YtbhbilcieodbhaaGreatP05
import Derived.Maps.AppendAt
import Derived.Deep.AppendLies
import Derived.Deep.RegionLaw
namespace Go.Proofs.YtbhbilcieodbhaaGreat
set_option maxRecDepth 100000
open Go.RowKit
theorem prF_ok {s:Chp} (hs:s.Ok) {r:Int} {t:Tgg} {D:List Nat} {s':Chp} {r':Int} {e:Nat} (h:ProgR s r t.p t.p t.o t.q t.c t.l D s' r' e) (hD:D.length=174) (bD:Bys D):s'.Ok:=by
 have hW:=wrN_ok hs t.p (W:=wordOf D (body t.p t.o t.q t.c t.l)) 4 (fun k hk=>(word_cw hD bD (body_length _ _ _ _ _) (body_bys _ _ _ _ _) k hk).2.1)
 rcases h with ⟨_,rfl,_⟩ | ⟨_,g,x,hR,_⟩
 ·
  exact hW
 ·
  exact hR.ok hW
theorem sub_reads {r r':Int} (hr : -9223372036854775808<=r/\r<9223372036854775808) {n:Nat} (h:(n=0/\r'=r)\/(n=1/\r'=wrap64 (r+1))):wrap64 (r' - r)=(n:Int)/\r'=wrap64 (r+n)/\(-9223372036854775808<=r'/\r'<9223372036854775808):=by
 rcases h with ⟨rfl,rfl⟩ | ⟨rfl,rfl⟩
 ·
  unfold wrap64;omega
 ·
  unfold wrap64;omega
set_option maxHeartbeats 1000000 in
theorem prog_k (A:Ad) (w:World) (K:Kor) (h:CoreAt A w K) (t:Tgg) (hm:May t.p t.o t.q t.c t.l) (c o cap:Nat) (D:List Nat) (hD:D.length=174) (bD:Bys D) (hA:At w c o D) (hcn:¬ Cor A c) :
 Calls Tryz.prog 120 #[.pointer (some ⟨A.c,0,none⟩),.agg #[.int .i64 (t.p:Nat),.int .i64 (t.o:Nat),.int .i64 (t.q:Nat),.int .i64 (t.c:Nat),.bool t.l],.slice (some ⟨c,o,none⟩) 174 cap] w fun e w'=>e=.returned (errV (prK K t D).2)/\CoreAt A w' (prK K t D).1/\Chg (Cor A) w w':=by
 have T0:=Tg.new w t.p t.o t.q t.c t.l
 have G0:Chg (fun _=>False) w (w.alloc (.cells #[.int .i64 (t.p:Nat),.int .i64 (t.o:Nat),.int .i64 (t.q:Nat),.int .i64 (t.c:Nat),.bool t.l] 127)):=(Chg.refl _ w).alloc _
 have C0:=h.chg0 G0
 have A0:=hA.chg G0 (fun f=>f)
 have hlow:=h.low
 have hpl:=hm.place
 have HLOW:=hyd hlow
 obtain⟨c0,-⟩:=C0.cMed
 obtain⟨u0,u1,u2,u3,u4⟩:=T0.cells
 have hrd:=mreads_any A.m A.g A.p A.q A.b K.r _ C0.med
 have HT0:=hyd T0
 have HG0:=hyd G0
 have HC0:=hyd C0
 have HA0:=hyd A0
 have HCN:=hyd hcn
 have HM:=hyd hm
 have HD:=hyd hD
 have HPL:=hyd hpl
 clear h C0 G0 T0 A0 hA hcn hm hD hlow hpl
 go_enter Tryz.func120,Tryz.ntmps120
 go_wp2_with fail
 refine hrd.mono ?_
 rintro e w1 ⟨rfl,rfl⟩
 clear hrd
 generalize (w.alloc (.cells #[.int .i64 (t.p:Nat),.int .i64 (t.o:Nat),.int .i64 (t.q:Nat),.int .i64 (t.c:Nat),.bool t.l] 127))=w0 at *
 go_wp2_with fail
 go_region_held3 (fun wx=>wx.cell? ⟨A.c,0,none⟩=some (.pointer (some ⟨A.m,0,none⟩))/\wx.cell? ⟨w.heap.size,0,none⟩=some (.int .i64 (t.p:Nat))/\wx.cell? ⟨w.heap.size,1,none⟩=some (.int .i64 (t.o:Nat))/\wx.cell? ⟨w.heap.size,2,none⟩=some (.int .i64 (t.q:Nat))/\wx.cell? ⟨w.heap.size,3,none⟩=some (.int .i64 (t.c:Nat))/\wx.cell? ⟨w.heap.size,4,none⟩=some (.bool t.l))
  (first | exact⟨c0,u0,u1,u2,u3,u4⟩ | exact⟨z0,y0,y1,y2,y3,y4⟩)
  (first | (go_at_call 157;refine(mprogram_yes A.m A.g A.p A.q A.b K.r K.s HC0.out.wf.chip _ (HC0.out.drewN 1).med (HC0.out.drewN 1).chip t.p t.o t.q t.c t.l HM.out c o cap D HD.out bD (fun e=>HCN.out (Or.inr (Or.inr (Or.inr (Or.inl e))))) (fun e=>HCN.out (Or.inr (Or.inr (Or.inl e)))) (fun e=>HCN.out (Or.inr (Or.inl e))) (HA0.out.chg (Chg.refl (fun _=>False) w0).drew (fun f=>f))).mono ?_;rintro e w2 ⟨⟨s',r',x,hP,rfl,M2,C2⟩,G2⟩;obtain⟨n,hE,hn⟩:=hP.eq HC0.out.wf.tl;have K2:=(HC0.out.drewN 1).setMed M2 C2 G2 ((HC0.out.drewN 1).wf.med' (prF_ok HC0.out.wf.chip hP HD.out bD) (sub_reads HC0.out.wf.rr hn).2.2);have n0:¬ (w.heap.size=A.m\/w.heap.size=A.g\/w.heap.size=A.b):=(fun e=>by have:=HLOW.out w.heap.size (Or.inl (e.elim (fun e=>Or.inr (Or.inl e)) fun e=>e.elim (fun e=>Or.inr (Or.inr (Or.inl e))) fun e=>Or.inr (Or.inr (Or.inr (Or.inl e)))));omega);have T2:=(HT0.out.chg (Chg.refl (fun _=>False) w0).drew (fun f=>f)).chg G2 n0;obtain⟨y0,y1,y2,y3,y4⟩:=T2.cells;obtain⟨z0,-⟩:=K2.cMed;have HK2:=hyd K2;have HG2:=hyd ((Chg.cor0 (A:=A) HG0.out).drew.trans G2.cor_med);have HT2:=hyd T2;have HE:=hyd hE;have HN:=hyd hn;clear hP M2 C2 G2 K2 T2 n0 hE hn))
 all_goals
  obtain⟨hsub,hr2,-⟩:=sub_reads HC0.out.wf.rr HN.out
  have hbl:=fun w=>block_of w (t.p:Nat) (by have:=HPL.out;omega)
  rw[show ((t.p:Nat):Int) / 8=((t.p / 8:Nat):Int) by omega] at hbl
  have HR2:=hyd hr2
  have hn6:(n:Int)<=65536:=by rcases HN.out with ⟨e,_⟩ | ⟨e,_⟩ <;> omega
  have hi:IntKind.i64.wrap (r' - K.r)=(n:Int):=by rw[IntKind.wrap_i64];unfold wrap64 at hsub;exact hsub
  clear hr2 c0 u0 u1 u2 u3 u4 y1 y2 y3 y4
  go_wp2_with fail
  go_region_held3 (fun wx=>wx.cell? ⟨A.c,0,none⟩=some (.pointer (some ⟨A.m,0,none⟩))/\wx.cell? ⟨w.heap.size,0,none⟩=some (.int .i64 (t.p:Nat)))
   (first | exact⟨z0,y0⟩ | exact⟨z4,y4⟩)
   (first
    | (go_at_call 90;refine(hbl _).mono ?_;rintro e w3 ⟨rfl,rfl⟩)
    | (go_at_call 156;refine(mreads_any A.m A.g A.p A.q A.b r' _ (HK2.out.drewN 1).med).mono ?_;rintro e w3 ⟨rfl,rfl⟩)
    | (go_at_call 103;refine(count_k A _ _ (HK2.out.drewN 1) (t.p / 8) (by have:=HPL.out;omega) (n:Int) hn6).mono ?_;rintro e w4 ⟨rfl,K4,G4⟩;have T4:=(HT2.out.chg (Chg.refl (fun _=>False) w2).drew (fun f=>f)).chg G4 (fun e=>by have:=HLOW.out _ (Or.inl e);omega);have y4:=T4.cells.1;obtain⟨z4,-⟩:=K4.cMed;have HK4:=hyd K4;have HG4:=hyd (HG2.out.drew.trans G4);clear K4 G4 T4))
  all_goals
   have hf:=failure_k w4 x
   rw[nerr_err]
   clear hsub hbl z0 y0 hi
   go_wp2_with (go_at_call 158;refine hf.mono ?_;rintro e w5 ⟨rfl,rfl⟩)
   go_ret
   have e1:prK K t D=({ K with s:=s',r:=r',hR:=cntF K.hR (t.p / 8:Nat) (n:Nat) },failC x):=by
    unfold prK
    rw[HE.out,HR2.out]
   rw[e1]
   exact⟨rfl,HK4.out,HG4.out⟩
end Go.Proofs.YtbhbilcieodbhaaGreat
/-
  The checkpoint that tells how a core stands. Condition: the core lies in memory.
-/
namespace Go.Proofs.YtbhbilcieodbhaaGreat
set_option maxRecDepth 100000
open Go.RowKit
theorem build55 (w:World) (F:Nat->Int) (n c:Int):(Instr.build 142 #[(0,.agg (ints F 24).toArray),(1,.int .i64 n),(3,.int .i64 c)]).run Tryz.prog w=.ok (.agg (Point.ckA ⟨F,n,fun _=>false,c,fun _=>0,fun _=>0⟩)) w:=by kernel_rfl
theorem exec_build55 {o:Oper} {a:Act} {w:World} {x y z:Operand} {F:Nat->Int} {n c:Int} (ho:o.op=.build 142 #[(0,x),(1,y),(3,z)]) (hx:a.eval x=.agg (ints F 24).toArray) (hy:a.eval y=.int .i64 n) (hz:a.eval z=.int .i64 c):(execOp a.eval o).run Tryz.prog w=.ok (.value (.agg (Point.ckA ⟨F,n,fun _=>false,c,fun _=>0,fun _=>0⟩))) w:=by
 have hb:=build55 w F n c
 unfold execOp
 rw[ho]
 simp only[List.map_toArray,List.map_cons,List.map_nil,hx,hy,hz]
 generalize Instr.build 142 #[(0,.agg (ints F 24).toArray),(1,.int .i64 n),(3,.int .i64 c)]=b at *
 simp[hb]
theorem step_alloc_ck {ops:Array Oper} {o:Oper} {a:Act} {w:World} {K:Act->World->Prop} {Q:Exit->Act->World->Prop} {E:Prop} (hgd:o.guard=none) (ho:o.op=.alloc 142)
 (h:K (a.put o.dst (.pointer (some ⟨w.heap.size,0,none⟩))) (w.alloc (.cells (Point.ckA Point.ck0) 142))):if Region.wanted o (yielded ops a.tmps)=true then Oper.wp Tryz.prog o a w K Q else E:=by
 rw[if_pos (by simp[Region.wanted,hgd])]
 have hz:=Point.zero26
 unfold Oper.wp
 simp[execOp,ho,Instr.alloc,hz,newVar,Value.cells,newRow]
 exact h
theorem step_store_ck {ops:Array Oper} {o:Oper} {a:Act} {w:World} {K:Act->World->Prop} {Q:Exit->Act->World->Prop} {E:Prop} (hgd:o.guard=none) (x y:Operand) (ho:o.op=.store 142 x y)
 (g:Nat) (hx:a.eval x=.pointer (some ⟨g,0,none⟩)) (c:Point.Ckp) (hy:a.eval y=.agg (Point.ckA c)) {c0:Point.Ckp} (hg:Point.Ck w g c0)
 (h:∀ w',Point.Ck w' g c->Chg (·=g) w w'->K (a.put o.dst undef) w'):if Region.wanted o (yielded ops a.tmps)=true then Oper.wp Tryz.prog o a w K Q else E:=by
 rw[if_pos (by simp[Region.wanted,hgd])]
 exact wp_store_row 142 x y ho g _ hx hy 142 _ hg (by rw[Point.ckA_size];exact Point.size26) (by rw[Point.ckA_size,Point.ckA_size]) (Point.ckA_one c) (h _ (setRow_heap w g _ _ 142 _ hg) (chg_row _ _ _))
theorem CoreAt.partFl {A:Ad} {w:World} {K:Kor} (h:CoreAt A w K):w.rangeAt A.c 53 (ints K.fl 24):=fun j v hv=>by
 have hj:j<24:=by have:=(List.getElem?_eq_some_iff.1 hv).1;rwa [ints_length] at this
 rw[ints_at _ _ _ hj] at hv
 rw[(h.cFl j hj).1,<-hv];rfl
theorem ck_mid (a b m m':List Value) (h:m.length=m'.length):(a ++ (m ++ b)).take a.length ++ m' ++ (a ++ (m ++ b)).drop (a.length+m'.length)=a ++ (m' ++ b):=by
 rw[List.take_left' rfl,<-h,List.drop_append,List.drop_eq_nil_of_le (by omega),List.nil_append,show a.length+m.length - a.length=m.length by omega,List.drop_left' rfl,List.append_assoc]
theorem ckL_setR (c:Point.Ckp) (R:Nat->Int):(Point.ckL c).take 38 ++ ints R 12 ++ (Point.ckL c).drop (38+(ints R 12).length)=Point.ckL { c with R:=R }:=by
 have e:∀ X:Nat->Int,Point.ckL { c with R:=X }=(ints c.F 24 ++ ([i6 c.N] ++ (bools c.B 12 ++ [i6 c.C]))) ++ (ints X 12 ++ ints c.S 12):=fun X=>by simp[Point.ckL]
 have h:=ck_mid (ints c.F 24 ++ ([i6 c.N] ++ (bools c.B 12 ++ [i6 c.C]))) (ints c.S 12) (ints c.R 12) (ints R 12) (by simp[ints_length])
 have l:(ints c.F 24 ++ ([i6 c.N] ++ (bools c.B 12 ++ [i6 c.C]))).length=38:=by simp[ints_length,bools_length]
 rw[l,<-e,<-e] at h
 exact h
theorem ckL_setS (c:Point.Ckp) (R:Nat->Int):(Point.ckL c).take 50 ++ ints R 12 ++ (Point.ckL c).drop (50+(ints R 12).length)=Point.ckL { c with S:=R }:=by
 have e:∀ X:Nat->Int,Point.ckL { c with S:=X }=(ints c.F 24 ++ ([i6 c.N] ++ (bools c.B 12 ++ ([i6 c.C] ++ ints c.R 12)))) ++ (ints X 12 ++ []):=fun X=>by simp[Point.ckL]
 have h:=ck_mid (ints c.F 24 ++ ([i6 c.N] ++ (bools c.B 12 ++ ([i6 c.C] ++ ints c.R 12)))) [] (ints c.S 12) (ints R 12) (by simp[ints_length])
 have l:(ints c.F 24 ++ ([i6 c.N] ++ (bools c.B 12 ++ ([i6 c.C] ++ ints c.R 12)))).length=50:=by simp[ints_length,bools_length]
 rw[l,<-e,<-e] at h
 exact h
theorem step_copy_ck {ops:Array Oper} {p:Oper} {a:Act} {w:World} {K:Act->World->Prop} {Q:Exit->Act->World->Prop} {E:Prop} (hgd:p.guard=none) (d s:Operand)
 (ho:p.op=.call { callee:=.builtin .copy,args:=#[d,s],argTypes:=#[22,22] }) (b o g:Nat) (hd:a.eval d=.slice (some ⟨b,o,none⟩) 12 12) (hs:a.eval s=.slice (some ⟨g,0,none⟩) 12 12)
 {c c':Point.Ckp} {R:Nat->Int} (hC:Point.Ck w b c) (hR:IB w g 3 12 R) (hn:o+12<=62) (he:(Point.ckL c).take o ++ ints R 12 ++ (Point.ckL c).drop (o+(ints R 12).length)=Point.ckL c')
 (h:∀ w',Point.Ck w' b c'->Chg (·=b) w w'->K (a.put p.dst (goInt 12)) w') :
 if Region.wanted p (yielded ops a.tmps)=true then Oper.wp Tryz.prog p a w K Q else E:=by
 have hw:Region.wanted p (yielded ops a.tmps)=true:=by simp[Region.wanted,hgd]
 rw[if_pos hw]
 have hlen:(ints R 12).length=12:=ints_length _ _
 have hrun:=run_copy_row (P:=Tryz.prog) w 22 22 p.type 3 b o 12 12 ⟨g,0,none⟩ 12 12 (Point.ckA c) 142 (ints R 12) Tryz.underlying22 Patrol.size3 hC (by rw[hlen];rfl) (fun j v hv=>by
  have hj:j<12:=by have:=(List.getElem?_eq_some_iff.1 hv).1;rwa [hlen] at this
  rw[Addr.add_mid,ints_at _ _ _ hj] at *
  rw[<-hv,Nat.zero_add,(hR.cell j hj).1];rfl) (by rw[hlen,Point.ckA_size];omega) (ints_one _ _)
 rw[show (Point.ckA c).toList=Point.ckL c from rfl,he,hlen] at hrun
 unfold Oper.wp
 simp[execOp,ho,resolve,invoke,builtin,hd,hs,hrun,Result.andThen]
 exact h _ (setRow_heap w b _ _ 142 _ hC) (chg_row _ _ _)
theorem upto_upd (g:Nat->Bool) (i:Nat):upd (fun b=>if b<i then g b else false) i (g i)=fun b=>if b<i+1 then g b else false:=by
 funext j
 unfold upd
 by_cases e:j=i
 ·
  subst e;rw[if_pos rfl,if_pos (by omega)]
 ·
  rw[if_neg e]
  show (if j<i then g j else false)=_
  by_cases e2:j<i
  ·
   rw[if_pos e2,if_pos (by omega)]
  ·
   rw[if_neg e2,if_neg (by omega)]
set_option maxHeartbeats 400000 in
theorem ck_k (A:Ad) (w:World) (K:Kor) (h:CoreAt A w K) (q:Int):Calls Tryz.prog 95 #[.pointer (some ⟨A.c,0,none⟩),.int .i64 q] w fun e w'=>e=.returned (.agg (Point.ckA (ckK K q)))/\CoreAt A w' K/\Chg (fun _=>False) w w':=by
 have hu:=Tryz.underlying116
 have hsz:=Point.size22
 have HK:=hyd h
 have HLOW0:=hyd h.low
 clear h
 go_enter Tryz.func95,Tryz.ntmps95
 go_wp2_with (refine Point.wpList_alloc_ck rfl rfl ?_)
 have HK0:=hyd (HK.out.chg0 ((Chg.refl (fun _=>False) w).alloc (.cells (Point.ckA Point.ck0) 142)))
 have HR0:=hyd (Point.Ck.new w Point.ck0)
 have HG0:Hid (Chg (fun _=>False) w (w.alloc (.cells (Point.ckA Point.ck0) 142))):=(Chg.refl _ w).alloc _
 have HLOW:Hid (∀ x,Cor A x\/x=A.p\/x=A.q->x<w.heap.size):=HLOW0.out
 generalize w.alloc (.cells (Point.ckA Point.ck0) 142)=w0 at *
 have HSS:Hid (∀ u,CoreAt A u K->(u.cell? ⟨A.c,82,none⟩=some (.pointer (some ⟨A.pa,0,none⟩))/\u.rangeAt A.c 53 (ints K.fl 24))):=fun u hu=>⟨hu.cPat.1,hu.partFl⟩
 refine wp_region_noPanic ?_
 refine wp_region_held_drew (S:=fun wx=>wx.cell? ⟨A.c,82,none⟩=some (.pointer (some ⟨A.pa,0,none⟩))/\wx.rangeAt A.c 53 (ints K.fl 24)) (by kernel_rfl) (HSS.out _ (HK0.out.drewN 1)) (fun hHeld=>?_)
 refine wpAnyH_take (i:=0) rfl (by kernel_rfl) (by kernel_rfl) (by kernel_rfl) (fun _ _ _ h=>h) (Or.inl ⟨rfl,fun _ _=>rfl⟩) hHeld ?_
 simp only[Act.put,List.getElem_toArray,List.getElem_cons_zero,List.setIfInBounds_toArray,List.set_cons_zero,List.set_cons_succ]
 refine wpAnyH_take (i:=1) rfl (by kernel_rfl) (by kernel_rfl) (by kernel_rfl) (fun _ _ _ h=>h) (Or.inl ⟨rfl,fun _ _=>rfl⟩) hHeld ?_
 simp only[Act.put,List.getElem_toArray,List.getElem_cons_zero,List.getElem_cons_succ,List.setIfInBounds_toArray,List.set_cons_zero,List.set_cons_succ]
 refine wpAnyH_take (i:=2) rfl (by kernel_rfl) (by kernel_rfl) (by kernel_rfl) (fun _ _ _ h=>h) (Or.inl ⟨rfl,fun _ _=>rfl⟩) hHeld ?_
 simp only[Act.put,List.getElem_toArray,List.getElem_cons_zero,List.getElem_cons_succ,List.setIfInBounds_toArray,List.set_cons_zero,List.set_cons_succ]
 refine wpAnyH_take (i:=3) rfl (by kernel_rfl) (by kernel_rfl) (by kernel_rfl) (fun _ _ _ h=>h) (yieldsIf_load_mid rfl 116 _ rfl A.c 53 rfl (ints K.fl 24) _ (fun w hw=>hw.2) hu rfl (by rw[hsz];rw[ints_length])) hHeld ?_
 simp only[Act.put,List.getElem_toArray,List.getElem_cons_zero,List.getElem_cons_succ,List.setIfInBounds_toArray,List.set_cons_zero,List.set_cons_succ]
 refine wpAnyH_take (i:=4) rfl (by kernel_rfl) (by kernel_rfl) (by kernel_rfl) (fun _ _ _ h=>h) (Or.inl ⟨rfl,fun _ _=>rfl⟩) hHeld ?_
 simp only[Act.put,List.getElem_toArray,List.getElem_cons_zero,List.getElem_cons_succ,List.setIfInBounds_toArray,List.set_cons_zero,List.set_cons_succ]
 refine wpAnyH_take (i:=5) rfl (by kernel_rfl) (by kernel_rfl) (by kernel_rfl) (fun _ _ _ h=>h) (Or.inl ⟨rfl,fun _ _=>rfl⟩) hHeld ?_
 simp only[Act.put,List.getElem_toArray,List.getElem_cons_zero,List.getElem_cons_succ,List.setIfInBounds_toArray,List.set_cons_zero,List.set_cons_succ]
 refine wpAnyH_take (i:=6) rfl (by kernel_rfl) (by kernel_rfl) (by kernel_rfl) (fun _ _ _ h=>h) (Or.inl ⟨rfl,fun _ _=>rfl⟩) hHeld ?_
 simp only[Act.put,List.getElem_toArray,List.getElem_cons_zero,List.getElem_cons_succ,List.setIfInBounds_toArray,List.set_cons_zero,List.set_cons_succ]
 refine wpAnyH_take (i:=7) rfl (by kernel_rfl) (by kernel_rfl) (by kernel_rfl) (fun _ _ _ h=>h) (Or.inl ⟨rfl,fun _ _=>rfl⟩) hHeld ?_
 simp only[Act.put,List.getElem_toArray,List.getElem_cons_zero,List.getElem_cons_succ,List.setIfInBounds_toArray,List.set_cons_zero,List.set_cons_succ]
 refine wpAnyH_take (i:=8) (v:=.pointer (some ⟨A.pa,0,none⟩)) rfl (by kernel_rfl) (by kernel_rfl) (by kernel_rfl) (fun _ _ _ h=>h) (Or.inl ⟨rfl,fun w hw=>by obtain⟨s1,-⟩:=hw;go_simp⟩) hHeld ?_
 simp only[Act.put,List.getElem_toArray,List.getElem_cons_zero,List.getElem_cons_succ,List.setIfInBounds_toArray,List.set_cons_zero,List.set_cons_succ]
 refine wpAnyH_ready (rs:=[9,11]) (by kernel_rfl) (by simp) ?_
 refine AllReadyH.cons rfl (fun K' hK=>?_) (AllReadyH.cons rfl (fun K' hK=>?_) AllReadyH.nil)
 case' refine_1=>
  go_simp
  refine(Patrol.cursor_any _ A.pa K.cu K.ca (HK0.out.drewN 1).pat).mono ?_
  rintro e w1 ⟨rfl,rfl⟩
  refine hK.out _ _ (HSS.out _ (HK0.out.drewN 1)) (fun hHeld=>?_)
  clear hK K'
  refine wpAnyH_take (i:=10) rfl (by kernel_rfl) (by kernel_rfl) (by kernel_rfl) (fun _ _ _ h=>h) (Or.inl ⟨rfl,fun _ _=>exec_build55 rfl rfl rfl rfl⟩) hHeld ?_
  simp only[Act.put,List.getElem_toArray,List.getElem_cons_zero,List.getElem_cons_succ,List.setIfInBounds_toArray,List.set_cons_zero,List.set_cons_succ]
  refine wpAnyH_ready (rs:=[11]) (by kernel_rfl) (by simp) ?_
  refine AllReadyH.cons rfl (fun K' hK=>?_) AllReadyH.nil
  refine step_alloc_ck rfl rfl ?_
  refine hK.out _ _ (HSS.out _ ((HK0.out.drewN 1).chg0 ((Chg.refl (fun _=>False) w0.drew).alloc _))) (fun hHeld=>?_)
  clear hK K'
  simp only[Act.put,List.getElem_toArray,List.getElem_cons_zero,List.getElem_cons_succ,List.setIfInBounds_toArray,List.set_cons_zero,List.set_cons_succ]
  refine wpAnyH_ready (rs:=[12]) (by kernel_rfl) (by simp) ?_
  refine AllReadyH.cons rfl (fun K' hK=>?_) AllReadyH.nil
  refine step_store_ck rfl (.tmp 5) (.tmp 18) rfl w0.heap.size rfl ⟨K.fl,q,fun _=>false,K.cu,fun _=>0,fun _=>0⟩ rfl (Point.Ck.new w0.drew Point.ck0) ?_
  intro w2 C2 G2
  have K2:=((HK0.out.drewN 1).chg0 ((Chg.refl (fun _=>False) w0.drew).alloc (.cells (Point.ckA Point.ck0) 142))).far HLOW.out (Nat.le_of_lt HR0.out.lt) G2
  refine hK.out _ _ (HSS.out _ K2) (fun hHeld=>?_)
  clear hK K' hHeld
  simp only[Act.put,List.getElem_toArray,List.getElem_cons_zero,List.getElem_cons_succ]
  refine wpAnyH_done (by kernel_rfl) ?_ _
  refine NoPanic.normal ?_
  have HR2:=hyd ((HR0.out.chg ((Chg.refl (fun _=>False) w0).drew.alloc (.cells (Point.ckA Point.ck0) 142)) (fun f=>f)).chg G2 (by have:=HR0.out.lt;omega))
  have HG2:=hyd ((HG0.out.trans ((Chg.refl (fun _=>False) w0).drew.alloc (.cells (Point.ckA Point.ck0) 142))).trans' G2 (fun k hk e=>by have:=HG0.out.size;omega))
  have HC2:=hyd C2
  have HK2:=hyd K2
  clear C2 G2 K2
 case' refine_2=>
  refine step_alloc_ck rfl rfl ?_
  refine hK.out _ _ (HSS.out _ ((HK0.out.drewN 1).chg0 ((Chg.refl (fun _=>False) w0.drew).alloc _))) (fun hHeld=>?_)
  clear hK K'
  simp only[Act.put,List.getElem_toArray,List.getElem_cons_zero,List.getElem_cons_succ,List.setIfInBounds_toArray,List.set_cons_zero,List.set_cons_succ]
  refine wpAnyH_ready (rs:=[9]) (by kernel_rfl) (by simp) ?_
  refine AllReadyH.cons rfl (fun K' hK=>?_) AllReadyH.nil
  go_simp
  refine(Patrol.cursor_any _ A.pa K.cu K.ca ((HK0.out.drewN 1).chg0 ((Chg.refl (fun _=>False) w0.drew).alloc (.cells (Point.ckA Point.ck0) 142))).pat).mono ?_
  rintro e w1 ⟨rfl,rfl⟩
  refine hK.out _ _ (HSS.out _ ((HK0.out.drewN 1).chg0 ((Chg.refl (fun _=>False) w0.drew).alloc _))) (fun hHeld=>?_)
  clear hK K'
  refine wpAnyH_take (i:=10) rfl (by kernel_rfl) (by kernel_rfl) (by kernel_rfl) (fun _ _ _ h=>h) (Or.inl ⟨rfl,fun _ _=>exec_build55 rfl rfl rfl rfl⟩) hHeld ?_
  simp only[Act.put,List.getElem_toArray,List.getElem_cons_zero,List.getElem_cons_succ,List.setIfInBounds_toArray,List.set_cons_zero,List.set_cons_succ]
  refine wpAnyH_ready (rs:=[12]) (by kernel_rfl) (by simp) ?_
  refine AllReadyH.cons rfl (fun K' hK=>?_) AllReadyH.nil
  refine step_store_ck rfl (.tmp 5) (.tmp 18) rfl w0.heap.size rfl ⟨K.fl,q,fun _=>false,K.cu,fun _=>0,fun _=>0⟩ rfl (Point.Ck.new w0.drew Point.ck0) ?_
  intro w2 C2 G2
  have K2:=((HK0.out.drewN 1).chg0 ((Chg.refl (fun _=>False) w0.drew).alloc (.cells (Point.ckA Point.ck0) 142))).far HLOW.out (Nat.le_of_lt HR0.out.lt) G2
  refine hK.out _ _ (HSS.out _ K2) (fun hHeld=>?_)
  clear hK K' hHeld
  simp only[Act.put,List.getElem_toArray,List.getElem_cons_zero,List.getElem_cons_succ]
  refine wpAnyH_done (by kernel_rfl) ?_ _
  refine NoPanic.normal ?_
  have HR2:=hyd ((HR0.out.chg ((Chg.refl (fun _=>False) w0).drew.alloc (.cells (Point.ckA Point.ck0) 142)) (fun f=>f)).chg G2 (by have:=HR0.out.lt;omega))
  have HG2:=hyd ((HG0.out.trans ((Chg.refl (fun _=>False) w0).drew.alloc (.cells (Point.ckA Point.ck0) 142))).trans' G2 (fun k hk e=>by have:=HG0.out.size;omega))
  have HC2:=hyd C2
  have HK2:=hyd K2
  clear C2 G2 K2
 all_goals
  have hN0:=HR0.out.lt
  have hNG:=HC2.out.lt
  obtain⟨N,HN⟩:∃ N,Hid (N=w0.heap.size):=⟨_,rfl⟩
  rw[<-HN.out] at HC2 hNG hN0
  try rw[show (w0.drewN 1).heap.size=N from HN.out.symm]
  try rw[show w0.drew.heap.size=N from HN.out.symm]
  try rw[show w0.heap.size=N from HN.out.symm]
  have hst:=Pool.states_any w2 A.po K.F HK2.out.pool
  obtain⟨c1,-⟩:=HK2.out.cPool
  clear HK0 HK HG0 HR0 HSS hu hsz
  go_wp2_with fail
  refine hst.mono ?_
  rintro e w3 ⟨rfl,I3,G3⟩
  have HK3:=hyd (HK2.out.chg0 G3)
  have HC3:=hyd (HC2.out.chg G3 (fun f=>f))
  have HR3:=hyd (HR2.out.chg G3 (fun f=>f))
  have HG3:=hyd (HG2.out.trans G3)
  have HI3:=hyd I3
  have HW2:Hid (N<w2.heap.size):=hNG
  obtain⟨M,HM⟩:∃ M,Hid (M=w2.heap.size):=⟨_,rfl⟩
  rw[<-HM.out] at HI3 ⊢
  clear hst c1 I3 G3 HK2 HC2 HR2 HG2
  go_wp2_with fail
  go_loopg [25] 12 (fun kx s25 wr=>∃ i:Nat,s25=.int .i64 i/\i<=12/\12 - i<=kx/\Hid (Point.Ck wr N ⟨K.fl,q,fun b=>if b<i then decide (K.F b=3) else false,K.cu,fun _=>0,fun _=>0⟩)/\Hid (CoreAt A wr K)/\Hid (Point.Ck wr w.heap.size Point.ck0)/\Hid (IB wr M 3 12 K.F)/\Hid (Chg (fun _=>False) w wr))
  case atStart=>exact⟨0,rfl,by omega,by omega,HC3.out,HK3.out,HR3.out,HI3.out,HG3.out⟩
  case round=>
   obtain⟨i,rfl,hi12,hkx,HC,HKr,HR,HI,HG⟩:=hrel
   by_cases hlt:i<12
   ·
    have hltz:(i:Int)<12:=by omega
    obtain⟨ci,-⟩:=HI.out.cell i hlt
    have cb:=HC.out.B i hlt
    have fb:=HC.out.frozen (25+i)
    have hne:¬ M=N:=by have:=HM.out;have:=HW2.out;omega
    have hne2:¬ w.heap.size=N:=by omega
    have GN:Chg (·=N) wr (wr.setCell ⟨N,25+i,none⟩ (.bool (decide (K.F i=3)))):=(Chg.refl (·=N) wr).setCell (Or.inl rfl) _ _
    have HC4:Hid (Point.Ck (wr.setCell ⟨N,25+i,none⟩ (.bool (decide (K.F i=3)))) N ⟨K.fl,q,fun b=>if b<i+1 then decide (K.F b=3) else false,K.cu,fun _=>0,fun _=>0⟩):=by
     have:=HC.out.setB i hlt (decide (K.F i=3))
     have e:=upto_upd (fun b=>decide (K.F b=3)) i
     rw[show ({ (⟨K.fl,q,fun b=>if b<i then decide (K.F b=3) else false,K.cu,fun _=>0,fun _=>0⟩:Point.Ckp) with B:=upd (fun b=>if b<i then decide (K.F b=3) else false) i (decide (K.F i=3)) }:Point.Ckp)=⟨K.fl,q,fun b=>if b<i+1 then decide (K.F b=3) else false,K.cu,fun _=>0,fun _=>0⟩ by rw[e]] at this
     exact this
    have HK4:=hyd (HKr.out.far HLOW.out (Nat.le_of_lt hN0) GN)
    have HR4:=hyd (HR.out.chg GN hne2)
    have HI4:=hyd (HI.out.chg GN hne)
    have HG4:=hyd (HG.out.trans' GN (fun k hk e=>by omega))
    have HEQ:Hid ((K.F i == 3)=decide (K.F i=3)):=by show (K.F i == 3)=decide (K.F i=3);by_cases e:K.F i=3 <;> simp[e]
    generalize decide (K.F i=3)=bb at *
    generalize K.F i=fi at *
    have heq:(fi == 3)=bb:=HEQ.out
    clear HC HKr HR HI HG GN HEQ
    go_wp2
    go_roundg (12 - (i+1))
    case measure=>omega
    case rel=>exact⟨i+1,by simp,by omega,Nat.le_refl _,HC4.out,HK4.out,HR4.out,HI4.out,HG4.out⟩
   ·
    have hltz:¬ (i:Int)<12:=by omega
    have e12:i=12:=by omega
    subst e12
    have HC5:Hid (Point.Ck wr N ⟨K.fl,q,fun b=>decide (K.F b=3),K.cu,fun _=>0,fun _=>0⟩):=by
     have:=HC.out
     refine Eq.trans (show wr.heap[N]?=_ from this) ?_
     rw[show Point.ckA ⟨K.fl,q,fun b=>if b<12 then decide (K.F b=3) else false,K.cu,fun _=>0,fun _=>0⟩=Point.ckA ⟨K.fl,q,fun b=>decide (K.F b=3),K.cu,fun _=>0,fun _=>0⟩ from Point.ckA_congr (fun _ _=>rfl) rfl (fun j hj=>if_pos hj) rfl (fun _ _=>rfl) (fun _ _=>rfl)]
    clear HC HI
    have hs1:=Patrol.slice42_a N 38
    obtain⟨c96,-⟩:=HKr.out.cHea
    have hne2:¬ w.heap.size=N:=by omega
    go_wp2_with fail
    go_region_held3 (fun wx=>wx.cell? ⟨A.c,96,none⟩=some (.pointer (some ⟨A.h,0,none⟩)))
     (first | exact c96 | exact z96 | exact y96)
     (first
      | (refine step_copy_ck rfl (.tmp 37) (.tmp 42) rfl N 38 (wr.heap.size+1) rfl rfl HC6.out HI6.out (by omega) (ckL_setR _ _) ?_;intro w7 C7 G7;have HC7:=hyd C7;have K7:=HK6.out.far HLOW.out (Nat.le_of_lt hN0) G7;obtain⟨y96,-⟩:=K7.cHea;have HK7:=hyd K7;have HR7:=hyd (HR6.out.chg G7 hne2);have HG7:=hyd (HG6.out.trans' G7 (fun k hk e=>by omega));clear C7 G7 K7 HC6 HI6 HK6 HR6 HG6)
      | (go_at_call 54;refine(Health.reads_v _ A.h K.hR K.hN K.hS (HKr.out.drewN 1).hea HKr.out.wf.hea).mono ?_;rintro e w6 ⟨rfl,I6,G6⟩;have K6:=(HKr.out.drewN 1).chg0 G6;obtain⟨z96,-⟩:=K6.cHea;have HI6:=hyd I6;have HK6:=hyd K6;have HC6:=hyd ((HC5.out.chg (Chg.refl (fun _=>False) wr).drew (fun f=>f)).chg G6 (fun f=>f));have HR6:=hyd ((HR.out.chg (Chg.refl (fun _=>False) wr).drew (fun f=>f)).chg G6 (fun f=>f));have HG6:=hyd (HG.out.drew.trans G6);clear I6 G6 K6))
    all_goals
     have hs2:=Patrol.slice42_a N 50
     obtain⟨c96,-⟩:=HK7.out.cHea
     clear hs1
     go_wp2_with fail
     go_region_held3 (fun wx=>wx.cell? ⟨A.c,96,none⟩=some (.pointer (some ⟨A.h,0,none⟩)))
      (first | exact c96 | exact z96 | exact y96)
      (first
       | (refine step_copy_ck rfl (.tmp 45) (.tmp 50) rfl N 50 (w7.heap.size+1) rfl rfl HC8.out HI8.out (by omega) (ckL_setS _ _) ?_;intro w9 C9 G9;have HC9:=hyd C9;have K9:=HK8.out.far HLOW.out (Nat.le_of_lt hN0) G9;obtain⟨y96,-⟩:=K9.cHea;have HK9:=hyd K9;have HR9:=hyd (HR8.out.chg G9 hne2);have HG9:=hyd (HG8.out.trans' G9 (fun k hk e=>by omega));clear C9 G9 K9 HC8 HI8 HK8 HR8 HG8)
       | (go_at_call 55;refine(Health.scores_v _ A.h K.hR K.hN K.hS (HK7.out.drewN 1).hea HK7.out.wf.hea).mono ?_;rintro e w8 ⟨rfl,I8,G8⟩;have K8:=(HK7.out.drewN 1).chg0 G8;obtain⟨z96,-⟩:=K8.cHea;have HI8:=hyd I8;have HK8:=hyd K8;have HC8:=hyd ((HC7.out.chg (Chg.refl (fun _=>False) w7).drew (fun f=>f)).chg G8 (fun f=>f));have HR8:=hyd ((HR7.out.chg (Chg.refl (fun _=>False) w7).drew (fun f=>f)).chg G8 (fun f=>f));have HG8:=hyd (HG7.out.drew.trans G8);clear I8 G8 K8))
     all_goals
      clear c96 hs2
      go_wp2_with (first | refine Point.wpList_load_ck rfl (.tmp 5) rfl N rfl HC9.out ?_ | refine Point.wpList_store_ck rfl (.tmp 4) (.tmp 52) rfl w.heap.size rfl rfl HR9.out ?_)
      intro w10 C10 G10
      have HC10:=hyd C10
      have HK10:=hyd (HK9.out.far HLOW.out (Nat.le_refl _) G10)
      have HG10:=hyd (HG9.out.trans' G10 (fun k hk e=>by omega))
      clear C10 G10 HC9 HK9 HG9
      go_wp2
      refine bodyPost_ret (Point.results_ck1 rfl _ rfl HC10.out) rfl ?_
      exact⟨rfl,HK10.out,HG10.out⟩
end Go.Proofs.YtbhbilcieodbhaaGreat
/-
  A page is programmed with the next seq, its bytes made by a closure. Condition: the core lies in memory; the closure makes 174 bytes and changes nothing.
-/
namespace Go.Proofs.YtbhbilcieodbhaaGreat
set_option maxRecDepth 100000
open Go.RowKit
structure Hold (A:Ad) (w0:World) (f:FuncId) (cp:Array Value) (H:Hol):Prop where
 ent:∀ args w,(callFunc f args).run Tryz.prog w=.ok (.enter f args) w
 len:∀ K q,(H K q).length=174
 bys:∀ K q,Bys (H K q)
 run:∀ w K (q:Nat),CoreAt A w K->Chg (Cor A) w0 w->1<=q/\q<=1099511627775->Calls Tryz.prog f (#[.int .i64 (q:Nat)] ++ cp) w fun e w'=>∃ g,e=.returned (.slice (some ⟨g,0,none⟩) 174 174)/\w.heap.size<=g/\At w' g 0 (H K q)/\Chg (fun _=>False) w w'
theorem Wf.nt {K:Kor} (h:Wf K):Wf (ntK K):=⟨h.chip,h.rr,h.frm,h.map,h.vs,h.vp,h.vc,h.fl,h.nx,h.fr,h.cu,h.qu,Health.Okh.noted h.hea,h.tl⟩
theorem zero123 (w:World):(zeroValue 127).run Tryz.prog w=.ok (.agg #[.int .i64 0,.int .i64 0,.int .i64 0,.int .i64 0,.bool false]) w:=by kernel_rfl
theorem build123 (w:World) (x y z:Int):(Instr.build 127 #[(0,.int .i64 x),(1,.int .i64 y),(2,.int .i64 z)]).run Tryz.prog w=.ok (.agg #[.int .i64 x,.int .i64 y,.int .i64 z,.int .i64 0,.bool false]) w:=by kernel_rfl
theorem build123z (w:World):(Instr.build 127 #[]).run Tryz.prog w=.ok (.agg #[.int .i64 0,.int .i64 0,.int .i64 0,.int .i64 0,.bool false]) w:=by kernel_rfl
set_option maxHeartbeats 1000000 in
theorem fresh_k (A:Ad) (w0:World) (f:FuncId) (cp:Array Value) (H:Hol) (hH:Hold A w0 f cp H) (w:World) (K:Kor) (h:CoreAt A w K) (hw:Chg (Cor A) w0 w) (p o:Nat) (hm:May p o K.nx 0 false) :
 Calls Tryz.prog 82 #[.pointer (some ⟨A.c,0,none⟩),.int .i64 (p:Nat),.int .i64 (o:Nat),.func (.func f) #[] cp] w fun e w'=>e=.returned (.tuple #[.agg #[.int .i64 ((frK H K p o).2.1.p:Nat),.int .i64 ((frK H K p o).2.1.o:Nat),.int .i64 ((frK H K p o).2.1.q:Nat),.int .i64 ((frK H K p o).2.1.c:Nat),.bool (frK H K p o).2.1.l],errV (frK H K p o).2.2])/\CoreAt A w' (frK H K p o).1/\Chg (Cor A) w w':=by
 have hz:=zero123
 have hb:=build123
 have hb0:=build123z
 have T0:=Tg.new w 0 0 0 0 false
 have G0:Chg (fun _=>False) w (w.alloc (.cells #[.int .i64 0,.int .i64 0,.int .i64 0,.int .i64 0,.bool false] 127)):=(Chg.refl _ w).alloc _
 have C0:=h.chg0 G0
 obtain⟨c78,-⟩:=C0.cSp
 have HLOW:=hyd h.low
 have HW:=hyd hw
 have HM:=hyd hm
 have HH:=hyd hH
 have HC0:=hyd C0
 have HT0:=hyd T0
 have HG0:=hyd G0
 cases hsp:K.sp
 ·
  rw[hsp] at c78
  have HSP:=hyd hsp
  clear hsp
  have hsq:=seq_k A _ K C0
  clear h hw hm hH C0 T0 G0
  go_enter Tryz.func82,Tryz.ntmps82
  go_wp2_with fail
  refine hsq.mono ?_
  rintro e w1 ⟨rfl,k1,g1⟩
  have hl1:=HT0.out.lt
  have hs1:=g1.size
  have n0:¬ Cor A w.heap.size:=fun e=>by have:=HLOW.out _ (Or.inl e);omega
  have n1:¬ Cor A w1.heap.size:=fun e=>by have:=HLOW.out _ (Or.inl e);omega
  have HT1:=hyd ((HT0.out.chg g1 n0).alloc (.cells #[.int .i64 (p:Nat),.int .i64 (o:Nat),.int .i64 (K.nx:Nat),.int .i64 0,.bool false] 127))
  have HV1:=hyd (Tg.new w1 (p:Nat) (o:Nat) (K.nx:Nat) 0 false)
  have GA:Chg (fun _=>False) w1 (w1.alloc (.cells #[.int .i64 (p:Nat),.int .i64 (o:Nat),.int .i64 (K.nx:Nat),.int .i64 0,.bool false] 127)):=(Chg.refl _ w1).alloc _
  have HK1:=hyd (k1.chg0 GA)
  have HG1:=hyd (((Chg.cor0 (A:=A) HG0.out).trans g1).trans GA.cor0)
  clear hsq k1 g1 GA c78 HT0 HG0 HC0
  go_wp2_with fail
  generalize (w1.alloc (.cells #[.int .i64 (p:Nat),.int .i64 (o:Nat),.int .i64 (K.nx:Nat),.int .i64 0,.bool false] 127))=w2 at *
  obtain⟨u0,u1,u2,u3,u4⟩:=HV1.out.cells
  have hen:=HH.out.ent
  have HN:=hyd n1
  have HN0:=hyd n0
  have HQ:Hid (1<=K.nx/\K.nx<=1099511627775):=by
   obtain⟨⟨_,_,h3,_⟩,_⟩:=HM.out
   show 1<=K.nx/\K.nx<=1099511627775
   omega
  have SS:∀ u,Tg u w1.heap.size (p:Nat) (o:Nat) (K.nx:Nat) 0 false->(u.cell? ⟨w1.heap.size,0,none⟩=some (.int .i64 (p:Nat))/\u.cell? ⟨w1.heap.size,1,none⟩=some (.int .i64 (o:Nat))/\u.cell? ⟨w1.heap.size,2,none⟩=some (.int .i64 (K.nx:Nat))/\u.cell? ⟨w1.heap.size,3,none⟩=some (.int .i64 0)/\u.cell? ⟨w1.heap.size,4,none⟩=some (.bool false)):=fun u hu=>hu.cells
  have HSS:=hyd SS
  clear n1 n0 SS hz hb
  go_region_held3 (fun wx=>wx.cell? ⟨w1.heap.size,0,none⟩=some (.int .i64 (p:Nat))/\wx.cell? ⟨w1.heap.size,1,none⟩=some (.int .i64 (o:Nat))/\wx.cell? ⟨w1.heap.size,2,none⟩=some (.int .i64 (K.nx:Nat))/\wx.cell? ⟨w1.heap.size,3,none⟩=some (.int .i64 0)/\wx.cell? ⟨w1.heap.size,4,none⟩=some (.bool false))
   (first | exact⟨u0,u1,u2,u3,u4⟩ | exact HSS.out _ HV3.out | exact HSS.out _ HV4.out)
   (first
    | (go_at_call 120;refine(prog_k A _ _ HK3.out ⟨p,o,K.nx,0,false⟩ HM.out g 0 174 (H (sqK K) K.nx) (HH.out.len _ _) (HH.out.bys _ _) HA3.out HGN.out).mono ?_;rintro e w4 ⟨rfl,k4,g4⟩;have HK4:=hyd k4;have HV4:=hyd (HV3.out.chg g4 HN.out);have HT4:=hyd (HT3.out.chg g4 HN0.out);have HG4:=hyd (HG3.out.trans g4);clear k4 g4)
    | (refine(HH.out.run _ (sqK K) K.nx (HK1.out.drewN 1) ((HW.out.trans HG1.out).drewN 1) HQ.out).mono ?_;rintro e w3 ⟨g,rfl,hgl,hA3,g3⟩;have HA3:=hyd hA3;have HK3:=hyd ((HK1.out.drewN 1).chg0 g3);have HV3:=hyd ((HV1.out.chg (Chg.refl (fun _=>False) w2).drew (fun f=>f)).chg g3 (fun f=>f));have HT3:=hyd ((HT1.out.chg (Chg.refl (fun _=>False) w2).drew (fun f=>f)).chg g3 (fun f=>f));have HGN:Hid (¬ Cor A g):=(fun e=>by have:=HLOW.out _ (Or.inl e);have:=HT1.out.lt;have e2:(w2.drewN 1).heap.size=w2.heap.size:=rfl;omega);have HG3:=hyd (HG1.out.drew.trans (Chg.cor0 (A:=A) g3));clear hA3 g3))
  all_goals
   have hne:¬ w1.heap.size=w.heap.size:=by omega
   have HF:Hid (frK H K p o=if (prK (sqK K) ⟨p,o,K.nx,0,false⟩ (H (sqK K) K.nx)).2≠0 then ((prK (sqK K) ⟨p,o,K.nx,0,false⟩ (H (sqK K) K.nx)).1,tg0,(prK (sqK K) ⟨p,o,K.nx,0,false⟩ (H (sqK K) K.nx)).2) else (if o=24 then ntK (prK (sqK K) ⟨p,o,K.nx,0,false⟩ (H (sqK K) K.nx)).1 else (prK (sqK K) ⟨p,o,K.nx,0,false⟩ (H (sqK K) K.nx)).1,⟨p,o,K.nx,0,false⟩,0)):=by
    show frK H K p o=_
    unfold frK
    rw[HSP.out]
    rfl
   generalize prK (sqK K) ⟨p,o,K.nx,0,false⟩ (H (sqK K) K.nx)=Z at *
   have q:=neq_er
   have gq:=guard_neq
   by_cases hz:Z.2=0
   ·
    have HF2:Hid (frK H K p o=(if o=24 then ntK Z.1 else Z.1,⟨p,o,K.nx,0,false⟩,0)):=by show frK H K p o=_;rw[HF.out,if_neg (by rw[hz];simp)]
    replace q:∀ w,(binOp .neq 33 (errV Z.2) .nilIface).run Tryz.prog w=.ok (.bool false) w:=fun w=>by rw[q,decide_eq_true hz];rfl
    generalize Z.2=z2 at *
    generalize Z.1=K4 at *
    clear hz hen u0 u1 u2 u3 u4
    by_cases h24:o=24
    ·
     subst h24
     have hp:=Patrol.noted_any w4 A.pa K4.cu K4.ca HK4.out.pat
     obtain⟨c82,-⟩:=HK4.out.cPat
     go_wp2_with fail
     refine hp.mono ?_
     rintro e w5 ⟨rfl,k5,g5⟩
     have K5:=HK4.out.setPat k5 g5 ⟨HK4.out.wf.chip,HK4.out.wf.rr,HK4.out.wf.frm,HK4.out.wf.map,HK4.out.wf.vs,HK4.out.wf.vp,HK4.out.wf.vc,HK4.out.wf.fl,HK4.out.wf.nx,HK4.out.wf.fr,HK4.out.wf.cu,HK4.out.wf.qu,HK4.out.wf.hea,HK4.out.wf.tl⟩
     obtain⟨c96,-⟩:=K5.cHea
     have hn:=Health.noted_v w5 A.h K4.hR K4.hN K4.hS K5.hea K5.wf.hea
     have HK5:=hyd K5
     have HV5:=hyd (HV4.out.chg g5.cor_pa HN.out)
     have HT5:=hyd (HT4.out.chg g5.cor_pa HN0.out)
     have HG5:=hyd (HG4.out.trans g5.cor_pa)
     clear hp c82 k5 g5 K5
     go_wp2_with fail
     refine hn.mono ?_
     rintro e w6 ⟨rfl,k6,g6⟩
     have HK6:=hyd (HK5.out.setHea k6 g6 (HK5.out.wf.hR' (Health.Okh.noted HK5.out.wf.hea)))
     have HV6:=hyd (HV5.out.chg g6.cor_h HN.out)
     have HT6:=hyd (HT5.out.chg g6.cor_h HN0.out)
     have HG6:=hyd (HG5.out.trans g6.cor_h)
     clear hn c96 k6 g6
     go_wp2_with (first | refine wpList_load_tag rfl (.tmp 10) rfl w1.heap.size rfl HV6.out ?_ | refine wpList_store_tag rfl (.tmp 8) (.tmp 46) rfl w.heap.size rfl rfl HT6.out ?_)
     intro w7 T7 G7
     have HT7:=hyd T7
     have HK7:=hyd (HK6.out.far HLOW.out (Nat.le_refl _) G7)
     have HG7:=hyd (HG6.out.trans' G7 (fun k hk e=>by omega))
     clear T7 G7
     go_wp2
     refine bodyPost_ret (results_tag rfl _ rfl HT7.out) rfl ?_
     rw[HF2.out,if_pos trivial]
     exact⟨rfl,HK7.out,HG7.out⟩
    ·
     have H24:=hyd h24
     have hoz:(((o:Nat):Int) == 24)=false:=by simp;omega
     go_wp2_with (first | refine wpList_load_tag rfl (.tmp 10) rfl w1.heap.size rfl HV4.out ?_ | refine wpList_store_tag rfl (.tmp 8) (.tmp 46) rfl w.heap.size rfl rfl HT4.out ?_)
     intro w7 T7 G7
     have HT7:=hyd T7
     have HK7:=hyd (HK4.out.far HLOW.out (Nat.le_refl _) G7)
     have HG7:=hyd (HG4.out.trans' G7 (fun k hk e=>by omega))
     clear T7 G7
     go_wp2
     refine bodyPost_ret (results_tag rfl _ rfl HT7.out) rfl ?_
     rw[HF2.out,if_neg H24.out]
     exact⟨rfl,HK7.out,HG7.out⟩
   ·
    have HF2:Hid (frK H K p o=(Z.1,tg0,Z.2)):=by show frK H K p o=_;rw[HF.out,if_pos hz]
    replace q:∀ w,(binOp .neq 33 (errV Z.2) .nilIface).run Tryz.prog w=.ok (.bool true) w:=fun w=>by rw[q,decide_eq_false hz];rfl
    generalize Z.2=z2 at *
    generalize Z.1=K4 at *
    clear hz hen u0 u1 u2 u3 u4
    go_wp2_with (first | refine wpList_store_tag rfl (.tmp 8) (.tmp 32) rfl w.heap.size rfl rfl HT4.out ?_)
    intro w7 T7 G7
    have HT7:=hyd T7
    have HK7:=hyd (HK4.out.far HLOW.out (Nat.le_refl _) G7)
    have HG7:=hyd (HG4.out.trans' G7 (fun k hk e=>by omega))
    clear T7 G7
    go_wp2
    refine bodyPost_ret (results_tag rfl _ rfl HT7.out) rfl ?_
    rw[HF2.out]
    exact⟨rfl,HK7.out,HG7.out⟩
 ·
  rw[hsp] at c78
  have HF2:Hid (frK H K p o=(K,tg0,14)):=by show frK H K p o=_;unfold frK;rw[hsp];rfl
  clear h hw hm hH C0 T0 G0
  go_enter Tryz.func82,Tryz.ntmps82
  go_wp2_with (first | refine wpList_store_tag rfl (.tmp 8) (.tmp 16) rfl w.heap.size rfl rfl HT0.out ?_)
  intro w7 T7 G7
  have HT7:=hyd T7
  have HK7:=hyd (HC0.out.far HLOW.out (Nat.le_refl _) G7)
  have HG7:=hyd ((Chg.cor0 (A:=A) HG0.out).trans' G7 (fun k hk e=>by omega))
  clear T7 G7
  go_wp2
  refine bodyPost_ret (results_tag rfl _ rfl HT7.out) rfl ?_
  rw[HF2.out]
  exact⟨rfl,HK7.out,HG7.out⟩
end Go.Proofs.YtbhbilcieodbhaaGreat
/-
  The closures that make a page's bytes: a sector's, a checkpoint's. Conditions: what they have captured lies outside the core.
-/
namespace Go.Proofs.YtbhbilcieodbhaaGreat
set_option maxRecDepth 100000
open Go.RowKit
structure More (A:Ad) (w0:World) (f:FuncId) (cp:Array Value) (M:Point.Ckp->Point.Ckp):Prop where
 ent:∀ args w,(callFunc f args).run Tryz.prog w=.ok (.enter f args) w
 run:∀ w N c,Chg (Cor A) w0 w->Point.Ck w N c->w0.heap.size<=N->Calls Tryz.prog f (#[.pointer (some ⟨N,0,none⟩)] ++ cp) w fun e w'=>e=.returned (.tuple #[])/\Point.Ck w' N (M c)/\Chg (·=N) w w'
theorem nothing_k (w:World) (N:Nat):Calls Tryz.prog 111 #[.pointer (some ⟨N,0,none⟩)] w fun e w'=>e=.returned (.tuple #[])/\w'=w:=by
 go_enter Tryz.func111,Tryz.ntmps111
 go_wp2
 go_end0
 exact⟨rfl,rfl⟩
theorem trim1_k (w:World) (N:Nat) (c:Point.Ckp) (h:Point.Ck w N c) (x y o:Nat) (z:Int) (hx:w.cell? ⟨x,0,none⟩=some (.int .i64 z)) (hy:w.cell? ⟨y,0,none⟩=some (.int .i64 (o:Nat))) (ho:o<24):Calls Tryz.prog 63 #[.pointer (some ⟨N,0,none⟩),.pointer (some ⟨x,0,none⟩),.pointer (some ⟨y,0,none⟩)] w fun e w'=>e=.returned (.tuple #[])/\Point.Ck w' N { c with F:=upd c.F o z }/\Chg (·=N) w w':=by
 have c1:=h.F o ho
 have f1:=h.frozen o
 have hoz:((o:Nat):Int)<24:=by omega
 have HC:=hyd (h.setF o ho z)
 clear h ho
 go_enter Tryz.func63,Tryz.ntmps63
 go_wp2_with fail
 go_region
 go_end0
 exact⟨rfl,HC.out,((Chg.refl (·=N) w).setCell (Or.inl rfl) _ _).drew⟩
theorem bad1_k (w:World) (N:Nat) (c:Point.Ckp) (h:Point.Ck w N c) (x s b:Nat) (hx:w.cell? ⟨x,0,none⟩=some (.pointer (some ⟨s,0,none⟩))) (hy:w.cell? ⟨s,0,none⟩=some (.int .i64 (b:Nat))) (hb:b<12):Calls Tryz.prog 222 #[.pointer (some ⟨N,0,none⟩),.pointer (some ⟨x,0,none⟩)] w fun e w'=>e=.returned (.tuple #[])/\Point.Ck w' N { c with B:=upd c.B b true }/\Chg (·=N) w w':=by
 have c1:=h.B b hb
 have f1:=h.frozen (25+b)
 have hoz:((b:Nat):Int)<12:=by omega
 have HC:=hyd (h.setB b hb true)
 clear h hb
 go_enter Tryz.func222,Tryz.ntmps222
 go_wp2_with fail
 go_region
 go_end0
 exact⟨rfl,HC.out,((Chg.refl (·=N) w).setCell (Or.inl rfl) _ _).drew⟩
theorem enters71:∀ args w,(callFunc 111 args).run Tryz.prog w=.ok (.enter 111 args) w:=enters_of Tryz.func111 (by kernel_rfl) rfl
theorem enters51:∀ args w,(callFunc 63 args).run Tryz.prog w=.ok (.enter 63 args) w:=enters_of Tryz.func63 (by kernel_rfl) rfl
theorem enters205:∀ args w,(callFunc 222 args).run Tryz.prog w=.ok (.enter 222 args) w:=enters_of Tryz.func222 (by kernel_rfl) rfl
theorem enters93:∀ args w,(callFunc 94 args).run Tryz.prog w=.ok (.enter 94 args) w:=enters_of Tryz.func94 (by kernel_rfl) rfl
theorem enters47:∀ args w,(callFunc 50 args).run Tryz.prog w=.ok (.enter 50 args) w:=enters_of Tryz.func50 (by kernel_rfl) rfl
theorem more_none (A:Ad) (w0:World):More A w0 111 #[] (fun c=>c):=⟨enters71,fun w N c _ h _=>(nothing_k w N).mono (by rintro e w' ⟨rfl,rfl⟩;exact⟨rfl,h,Chg.refl _ _⟩)⟩
theorem more_trim (A:Ad) (w0:World) (x y o:Nat) (z:Int) (hx:w0.cell? ⟨x,0,none⟩=some (.int .i64 z)) (hy:w0.cell? ⟨y,0,none⟩=some (.int .i64 (o:Nat))) (ho:o<24) (nx:¬ Cor A x) (ny:¬ Cor A y) (lx:x<w0.heap.size) (ly:y<w0.heap.size):More A w0 63 #[.pointer (some ⟨x,0,none⟩),.pointer (some ⟨y,0,none⟩)] (fun c=>{ c with F:=upd c.F o z }):=
 ⟨enters51,fun w N c hc h _=>trim1_k w N c h x y o z ((hc.cell lx nx 0).trans hx) ((hc.cell ly ny 0).trans hy) ho⟩
theorem more_bad (A:Ad) (w0:World) (x s b:Nat) (hx:w0.cell? ⟨x,0,none⟩=some (.pointer (some ⟨s,0,none⟩))) (hy:w0.cell? ⟨s,0,none⟩=some (.int .i64 (b:Nat))) (hb:b<12) (nx:¬ Cor A x) (ny:¬ Cor A s) (lx:x<w0.heap.size) (ly:s<w0.heap.size):More A w0 222 #[.pointer (some ⟨x,0,none⟩)] (fun c=>{ c with B:=upd c.B b true }):=
 ⟨enters205,fun w N c hc h _=>bad1_k w N c h x s b ((hc.cell lx nx 0).trans hx) ((hc.cell ly ny 0).trans hy) hb⟩
set_option maxHeartbeats 400000 in
theorem telling1_k (A:Ad) (w0:World) (f:FuncId) (cp:Array Value) (M:Point.Ckp->Point.Ckp) (hM:More A w0 f cp M) (b1 b2:Nat) (h1:w0.cell? ⟨b1,0,none⟩=some (.pointer (some ⟨A.c,0,none⟩))) (h2:w0.cell? ⟨b2,0,none⟩=some (.func (.func f) #[] cp)) (n1:¬ Cor A b1) (n2:¬ Cor A b2) (l1:b1<w0.heap.size) (l2:b2<w0.heap.size)
 (w:World) (K:Kor) (q:Nat) (h:CoreAt A w K) (hw:Chg (Cor A) w0 w) (hok:Point.Okc (M (ckK K q))) :
 Calls Tryz.prog 94 #[.int .i64 (q:Nat),.pointer (some ⟨b1,0,none⟩),.pointer (some ⟨b2,0,none⟩)] w fun e w'=>∃ g,e=.returned (.slice (some ⟨g,0,none⟩) 174 174)/\w.heap.size<=g/\At w' g 0 (Point.wrL (M (ckK K q)))/\Chg (fun _=>False) w w':=by
 have c1:=(hw.cell l1 n1 0).trans h1
 have hck:=ck_k A w K h (q:Nat)
 have hen:=hM.ent
 have HW:=hyd hw
 have HMM:=hyd hM
 have HOK:=hyd hok
 have HX:Hid (∀ u,Chg (fun _=>False) w u->u.cell? ⟨b2,0,none⟩=some (.func (.func f) #[] cp)):=fun u hu=>(((hw.trans hu.cor0).cell l2 n2 0)).trans h2
 have HS:=hyd hw.size
 clear h hw hM hok h1 h2
 go_enter Tryz.func94,Tryz.ntmps94
 go_wp2_with fail
 refine hck.mono ?_
 rintro e w1 ⟨rfl,k1,g1⟩
 have HG1:=hyd g1
 have HZ1:=hyd g1.size
 clear hck k1 g1 c1
 go_wp2_with (first | refine Point.wpList_alloc_ck rfl rfl ?_ | refine Point.wpList_store_ck rfl (.tmp 5) (.tmp 10) rfl w1.heap.size rfl rfl (Point.Ck.new w1 Point.ck0) ?_)
 intro w2 C2 G2
 have G12:Chg (fun _=>False) w w2:=(HG1.out.alloc (.cells (Point.ckA Point.ck0) 142)).trans' G2 (fun k hk e=>by have:=HG1.out.size;omega)
 have cf:=HX.out w2 G12
 have hmo:=HMM.out.run w2 w1.heap.size _ (HW.out.trans G12.cor0) C2 (by have:=HG1.out.size;have:=HS.out;omega)
 have HG2:=hyd G12
 clear C2 G2 G12 HG1
 go_wp2_with fail
 refine hmo.mono ?_
 rintro e w3 ⟨rfl,C3,G3⟩
 have hwr:=Point.write_yes w3 _ HOK.out
 have HC3:=hyd C3
 have HG3:=hyd (HG2.out.trans' G3 (fun k hk e=>by have:=HZ1.out;omega))
 clear hmo C3 G3 cf
 go_wp2_with (first | refine Point.wpList_load_ck rfl (.tmp 5) rfl w1.heap.size rfl HC3.out ?_)
 refine hwr.mono ?_
 rintro e w4 ⟨g,rfl,hg,hA,g4⟩
 have HA:=hyd hA
 have HG4:=hyd (HG3.out.trans g4)
 have HLE:Hid (w.heap.size<=g):=Nat.le_trans HG3.out.size hg
 clear hwr hA g4 hg
 go_wp2
 go_ret
 exact⟨g,rfl,HLE.out,HA.out.at_,HG4.out⟩
theorem telling_hold (A:Ad) (w0:World) (f:FuncId) (cp:Array Value) (M:Point.Ckp->Point.Ckp) (hM:More A w0 f cp M) (b1 b2:Nat) (h1:w0.cell? ⟨b1,0,none⟩=some (.pointer (some ⟨A.c,0,none⟩))) (h2:w0.cell? ⟨b2,0,none⟩=some (.func (.func f) #[] cp)) (n1:¬ Cor A b1) (n2:¬ Cor A b2) (l1:b1<w0.heap.size) (l2:b2<w0.heap.size)
 (hok:∀ K (q:Nat),Wf K->1<=q/\q<=1099511627775->Point.Okc (M (ckK K q))):Hold A w0 94 #[.pointer (some ⟨b1,0,none⟩),.pointer (some ⟨b2,0,none⟩)] (fun K q=>Point.wrL (M (ckK K q))):=
 ⟨enters93,fun _ _=>Point.wrL_length _,fun _ _=>Point.wrL_bys _,fun w K q hC hW hq=>telling1_k A w0 f cp M hM b1 b2 h1 h2 n1 n2 l1 l2 w K q hC hW (hok K q hC.wf hq)⟩
theorem ck_ok {K:Kor} (h:Wf K) {q:Nat} (hq:1<=q/\q<=1099511627775):Point.Tld (ckK K q):=by
 refine⟨fun i hi=>h.fl i hi,?_,?_,fun i hi=>(h.hea i hi).1,fun i hi=>(h.hea i hi).2.2⟩
 ·
  show 0<=((q:Nat):Int)/\((q:Nat):Int)<=1099511627775
  omega
 ·
  have:=h.cu
  show 0<=((K.cu:Nat):Int)/\((K.cu:Nat):Int)<=95
  omega
theorem tld_okc {c:Point.Ckp} (h:Point.Tld c):Point.Okc c:=by
 refine(Point.okc_iff c ⟨fun i hi=>?_,?_,?_,fun i hi=>?_,fun i hi=>?_⟩).2 h
 ·
  have:=h.F i hi;omega
 ·
  have:=h.N;omega
 ·
  have:=h.C;omega
 ·
  have:=h.R i hi;omega
 ·
  have:=h.S i hi;omega
theorem none_okc (K:Kor) (q:Nat) (h:Wf K) (hq:1<=q/\q<=1099511627775):Point.Okc ((fun c:Point.Ckp=>c) (ckK K q)):=tld_okc (ck_ok h hq)
theorem bad_okc (b:Nat) (K:Kor) (q:Nat) (h:Wf K) (hq:1<=q/\q<=1099511627775):Point.Okc ((fun c:Point.Ckp=>{ c with B:=upd c.B b true }) (ckK K q)):=
 tld_okc ⟨(ck_ok h hq).F,(ck_ok h hq).N,(ck_ok h hq).C,(ck_ok h hq).R,(ck_ok h hq).S⟩
theorem trim_okc (o:Nat) (z:Int) (hz:0<=z/\z<=1099511627775) (K:Kor) (q:Nat) (h:Wf K) (hq:1<=q/\q<=1099511627775):Point.Okc ((fun c:Point.Ckp=>{ c with F:=upd c.F o z }) (ckK K q)):=
 tld_okc ⟨fun i hi=>by
  show 0<=upd (ckK K q).F o z i/\upd (ckK K q).F o z i<=1099511627775
  unfold upd
  split
  ·
   exact hz
  ·
   exact(ck_ok h hq).F i hi,(ck_ok h hq).N,(ck_ok h hq).C,(ck_ok h hq).R,(ck_ok h hq).S⟩
theorem telling_k (w:World) (b:Nat) (f:FuncId) (cp:Array Value):Calls Tryz.prog 62 #[.pointer (some ⟨b,0,none⟩),.func (.func f) #[] cp] w fun e w'=>e=.returned (.func (.func 94) #[] #[.pointer (some ⟨w.heap.size,0,none⟩),.pointer (some ⟨w.heap.size+1,0,none⟩)])/\w'.cell? ⟨w.heap.size,0,none⟩=some (.pointer (some ⟨b,0,none⟩))/\w'.cell? ⟨w.heap.size+1,0,none⟩=some (.func (.func f) #[] cp)/\w'.heap.size=w.heap.size+2/\Chg (fun _=>False) w w':=by
 have hmf:∀ (fn:Fn) (first cap:Array Value) (w:World),(Instr.makeFunc fn first cap).run Tryz.prog w=.ok (.func fn first cap) w:=fun _ _ _ _=>rfl
 go_enter Tryz.func62,Tryz.ntmps62
 go_wp2
 go_ret
 refine⟨rfl,?_,?_,by simp,((Chg.refl _ w).alloc _).alloc _⟩
 ·
  have h1:((w.alloc (.cells #[.pointer (some ⟨b,0,none⟩)] 74)).alloc (.cells #[.func (.func f) #[] cp] 143)).heap[w.heap.size]?=some (.cells #[.pointer (some ⟨b,0,none⟩)] 74):=(Below.heap_alloc _ _ _ (by simp)).trans (show (w.heap.push _)[w.heap.size]?=_ by simp)
  rw[cell_of_row _ _ _ _ _ _ h1];rfl
 ·
  have e:(w.alloc (.cells #[.pointer (some ⟨b,0,none⟩)] 74)).heap.size=w.heap.size+1:=by simp
  have h1:((w.alloc (.cells #[.pointer (some ⟨b,0,none⟩)] 74)).alloc (.cells #[.func (.func f) #[] cp] 143)).heap[w.heap.size+1]?=some (.cells #[.func (.func f) #[] cp] 143):=by
   rw[<-e]
   show ((w.alloc (.cells #[.pointer (some ⟨b,0,none⟩)] 74)).heap.push _)[(w.alloc (.cells #[.pointer (some ⟨b,0,none⟩)] 74)).heap.size]?=_
   generalize (w.alloc (.cells #[.pointer (some ⟨b,0,none⟩)] 74)).heap=hp
   simp
  rw[cell_of_row _ _ _ _ _ _ h1];rfl
theorem make174 (w:World):(Instr.makeSlice 35 (.int .i64 174) (.int .i64 174)).run Tryz.prog w=.ok (.slice (some ⟨w.heap.size,0,none⟩) 174 174) (w.alloc (.cells (bcells z174) 5)):=by
 obtain⟨i,h1,h2,h3,h4⟩:=info5
 have h:=run_make (P:=Tryz.prog) w 35 5 i (.int .u8 0) Tryz.underlying35 h1 h2 .i64 .i64 174 174 (by omega) (by omega) (by rw[h4];omega) (by omega)
 rw[h,h3,made_bytes];rfl
theorem put1_k (w:World) (x d o cap:Nat) (D:List Nat) (hD:D.length=160) (hx:w.cell? ⟨x,0,none⟩=some (.slice (some ⟨d,o,none⟩) 160 cap)) (hd:At w d o D) (q:Int) :
 Calls Tryz.prog 50 #[.int .i64 q,.pointer (some ⟨x,0,none⟩)] w fun e w'=>∃ g,e=.returned (.slice (some ⟨g,0,none⟩) 174 174)/\w.heap.size<=g/\At w' g 0 (D ++ List.replicate 14 0)/\Chg (fun _=>False) w w':=by
 have hm:=make174
 have hxl:x<w.heap.size:=World.block_lt_of_cell? w ⟨x,0,none⟩ hx
 have A0:=Arr.new w 5 z174
 have G0:Chg (fun _=>False) w (w.alloc (.cells (bcells z174) 5)):=(Chg.refl _ w).alloc _
 have hx1:=(G0.cell hxl (fun f=>f) 0).trans hx
 have D1:=hd.chg G0 (fun f=>f)
 have HA:=hyd A0
 have HG:=hyd G0
 have HD1:=hyd D1
 have HDL:=hyd hD
 have HE:Hid (lay z174 0 D=D ++ List.replicate 14 0):=by
  show lay z174 0 D=D ++ List.replicate 14 0
  unfold lay z174
  rw[hD]
  simp
 clear A0 G0 D1 hd hx hD
 go_enter Tryz.func50,Tryz.ntmps50
 go_wp2_with (first | refine wpList_copy_arr rfl (.tmp 6) (.tmp 7) rfl w.heap.size 0 174 174 d o 160 cap rfl rfl HA.out D (by rw[HDL.out];rfl) HD1.out.2 (by rw[HDL.out];simp[z174]) ?_)
 have HR:=hyd (HA.out.row (lay z174 0 D))
 have HGR:=hyd (HG.out.trans' (chg_row _ w.heap.size (bcells (lay z174 0 D))) (fun k hk e=>by omega))
 clear HA HG HD1 hx1
 go_wp2
 go_ret
 refine⟨w.heap.size,rfl,Nat.le_refl _,?_,HGR.out⟩
 rw[<-HE.out]
 exact HR.out.at_
theorem put_hold (A:Ad) (w0:World) (x d o cap:Nat) (D:List Nat) (hD:D.length=160) (bD:Bys D) (hx:w0.cell? ⟨x,0,none⟩=some (.slice (some ⟨d,o,none⟩) 160 cap)) (hd:At w0 d o D) (nx:¬ Cor A x) (nd:¬ Cor A d) (lx:x<w0.heap.size):Hold A w0 50 #[.pointer (some ⟨x,0,none⟩)] (fun _ _=>D ++ List.replicate 14 0):=
 ⟨enters47,fun _ _=>by simp[hD],fun _ _ n hn=>(List.mem_append.1 hn).elim (bD n) (fun h=>by rw[(List.mem_replicate.1 h).2];decide),fun w K q hC hW hq=>put1_k w x d o cap D hD ((hW.cell lx nx 0).trans hx) (hd.chg hW nd) (q:Nat)⟩
end Go.Proofs.YtbhbilcieodbhaaGreat
/-
  How a move that is under way lies in memory; the next page of the block that is copied into. Condition: core and move lie in memory.
-/
namespace Go.Proofs.YtbhbilcieodbhaaGreat
set_option maxRecDepth 100000
open Go.RowKit
def sf (S:Shf) (v:Value) (i:Nat):Value:=if i=0 then .int .i64 (S.fm:Nat) else if i=1 then .bool S.rt else if i=2 then .bool S.fd else if i=3 then .bool S.tt.o else if i=4 then .int .i64 (S.tt.k:Nat) else if i=5 then .int .i64 (S.tt.i:Nat) else v
def ShAt (w:World) (x:Nat) (S:Shf) (v:Value):Prop:=Sto w x 163 7 (sf S v)
section
variable {w w':World} {x:Nat} {S:Shf} {v:Value}
theorem ShAt.lt (h:ShAt w x S v):x<w.heap.size:=Sto.lt h
theorem ShAt.ty (h:ShAt w x S v):Ty w x 163:=Sto.ty h
theorem ShAt.chg {T:Nat->Prop} (h:ShAt w x S v) (hc:Chg T w w') (hb:¬ T x):ShAt w' x S v:=Sto.chg h hc hb
theorem ShAt.cell (h:ShAt w x S v) (i:Nat) (hi:i<7):w.cell? ⟨x,i,none⟩=some (sf S v i)/\w.frozen? ⟨x,i,none⟩=false:=⟨Sto.cell h i hi,Sto.frozen h i⟩
theorem ShAt.front (h:ShAt w x S v):Front.FB w x 163 7 (sf S v) 3 S.tt:=⟨h,by omega,rfl,rfl,rfl⟩
theorem ShAt.setTo {T:Front.St} (h:Front.FB w x 163 7 (upL (sf S v) 3 (Front.stL T)) 3 T):ShAt w x { S with tt:=T } v:=by
 refine Sto.ext h.1 fun i hi=>?_
 obtain⟨u0,u1,u2⟩:=Front.upL_st (sf S v) 3 T
 have:i=0\/i=1\/i=2\/i=3\/i=4\/i=5\/i=6:=by omega
 rcases this with rfl | rfl | rfl | rfl | rfl | rfl | rfl
 ·
  rfl
 ·
  rfl
 ·
  rfl
 ·
  rw[u0];rfl
 ·
  rw[u1];rfl
 ·
  rw[u2];rfl
 ·
  rfl
theorem CoreAt.apartSh {A:Ad} {K:Kor} (hC:CoreAt A w K) (h:ShAt w x S v):¬ Cor A x:=by
 obtain⟨t0,t1,t2,t3,t4,t5,t6,t7,t8,t9⟩:=hC.tys
 have t:=h.ty
 rintro (e | e | e | e | e | e | e | e)
 ·
  exact t.ne t0 (by decide) e
 ·
  exact t.ne t1 (by decide) e
 ·
  exact t.ne t2 (by decide) e
 ·
  exact t.ne t5 (by decide) e
 ·
  exact t.ne t6 (by decide) e
 ·
  exact t.ne t7 (by decide) e
 ·
  exact t.ne t8 (by decide) e
 ·
  exact t.ne t9 (by decide) e
theorem CoreAt.offTy {A:Ad} {K:Kor} (hC:CoreAt A w K) {T:Nat->Prop} (h:∀ k,k<w.heap.size->T k->Ty w k 163\/Ty w k 127) (hc:Chg T w w'):CoreAt A w' K:=by
 obtain⟨t0,t1,t2,t3,t4,t5,t6,t7,t8,t9⟩:=hC.tys
 have hn:∀ {k t},Ty w k t->t≠163->t≠127->¬ T k:=fun {k t} hk n1 n2 ht=>by
  have hl:k<w.heap.size:=by obtain⟨cs,z,e⟩:=hk;exact(Array.getElem?_eq_some_iff.1 e).1
  rcases h k hl ht with u | u
  ·
   exact hk.ne u n1 rfl
  ·
   exact hk.ne u n2 rfl
 obtain⟨f1,f2,f3,f4,f5,f6,f7⟩:=hC.frame hc
 exact⟨f1 (hn t0 (by decide) (by decide)),f2 (hn t1 (by decide) (by decide)) (hn t3 (by decide) (by decide)) (hn t4 (by decide) (by decide)) (hn t5 (by decide) (by decide)),f3 (hn t2 (by decide) (by decide)),f4 (hn t6 (by decide) (by decide)),f5 (hn t7 (by decide) (by decide)),f6 (hn t8 (by decide) (by decide)),f7 (hn t9 (by decide) (by decide)),hC.wf⟩
theorem CoreAt.offSh {A:Ad} {K:Kor} (hC:CoreAt A w K) (h:ShAt w x S v) (hc:Chg (·=x) w w'):CoreAt A w' K:=hC.offTy (fun k _ e=>Or.inl (by rw[e];exact h.ty)) hc
end
def Mvs (A:Ad) (x:Nat) (k:Nat):Prop:=Cor A k\/k=x
theorem Chg.mvs {A:Ad} {x:Nat} {w w':World} (h:Chg (Cor A) w w'):Chg (Mvs A x) w w':=h.mono fun _ _ e=>Or.inl e
theorem Chg.mvx {A:Ad} {x:Nat} {w w':World} (h:Chg (·=x) w w'):Chg (Mvs A x) w w':=h.mono fun _ _ e=>Or.inr e
theorem ti_take (K:Kor) (S:Shf) (o:Nat) (h:S.tt.o=true):tiK K S o=(K,{ S with tt:=Front.tkS S.tt o },(Front.nxV S.tt o).toNat,Front.nxC S.tt o):=by unfold tiK;rw[if_pos h]
theorem nxV_nat (s:Front.St) (n:Int):((Front.nxV s n).toNat:Int)=Front.nxV s n:=by
 unfold Front.nxV
 split <;> omega
theorem takeIn_k (A:Ad) (w:World) (K:Kor) (h:CoreAt A w K) (x:Nat) (S:Shf) (v:Value) (hS:ShAt w x S v) (ok:Front.Okf S.tt) (o:Nat) :
 Calls Tryz.prog 221 #[.pointer (some ⟨A.c,0,none⟩),.pointer (some ⟨x,0,none⟩),.int .i64 (o:Nat)] w fun e w'=>e=.returned (.tuple #[.int .i64 ((tiK K S o).2.2.1:Nat),errV (tiK K S o).2.2.2])/\CoreAt A w' (tiK K S o).1/\ShAt w' x (tiK K S o).2.1 v/\Front.Okf (tiK K S o).2.1.tt/\Chg (Mvs A x) w w':=by
 have hb:=Front.block_any w x 163 7 _ 3 S.tt hS.front
 have q:=neq_er
 have g:=guard_neq
 unfold Front.blV at hb
 cases ho:S.tt.o
 ·
  rw[ho] at hb
  replace hb:Calls Tryz.prog 85 #[.pointer (some ⟨x,3,none⟩)] w fun e w'=>e=.returned (.int .i64 (-1))/\w'=w:=hb
  obtain⟨c1,-⟩:=h.cPool
  have ht:=take_k A w K h
  have hm:=(tkM_lt K.F h.wf.frm).2
  by_cases hc:tkC K.F=0
  ·
   have HF:Hid (tiK K S o=({ K with F:=Pool.setF (Pool.tkF K.F 0 (tkM K.F)) (tkM K.F) 2 },{ S with tt:=Front.tkS ⟨true,tkM K.F,0⟩ o },(Front.nxV ⟨true,tkM K.F,0⟩ o).toNat,Front.nxC ⟨true,tkM K.F,0⟩ o)):=by
    show tiK K S o=_
    unfold tiK
    rw[if_neg (by rw[ho];simp),if_neg (by rw[hc];simp)]
   rw[hc] at ht
   have HS:=hyd hS
   have HNX:=hyd (h.apartSh hS)
   have HM:=hyd hm
   clear h hS ho hc hm ok
   go_enter Tryz.func221,Tryz.ntmps221
   go_wp2_with (go_at_call 85;refine hb.mono ?_;rintro e w1 ⟨rfl,rfl⟩)
   refine ht.mono ?_
   rintro e w1 ⟨rfl,k1,g1⟩
   have hst:=set_k A w1 _ k1 (tkM K.F:Nat) 2
   have HS1:=hyd (HS.out.chg g1 HNX.out)
   have HG1:=hyd g1
   clear ht k1 g1 hb c1
   go_wp2_with fail
   refine hst.mono ?_
   rintro e w2 ⟨rfl,k2,g2⟩
   have S2:=HS1.out.chg g2 HNX.out
   have hop:=Front.open_yes w2 x 163 7 _ 3 S.tt S2.front (tkM K.F) 0 HM.out (by decide)
   have HK2:=hyd k2
   have HS2:=hyd S2
   have HG2:=hyd (HG1.out.trans g2)
   clear hst k2 g2 S2 HS1 HG1
   go_wp2_with fail
   refine hop.mono ?_
   rintro e w3 ⟨rfl,f3,g3⟩
   have hok:Front.Okf ⟨true,tkM K.F,0⟩:=⟨HM.out,(by decide:0<9)⟩
   have htk:=Front.take_v w3 x 163 7 _ 3 _ f3 hok (o:Nat)
   have HK3:=hyd (HK2.out.offSh HS2.out g3)
   have HS3:=hyd (ShAt.setTo f3)
   have HG3:=hyd (HG2.out.mvs.trans g3.mvx)
   have HOK:=hyd (Front.Okf.take hok (o:Nat))
   clear hop f3 g3 hok
   go_wp2_with fail
   refine htk.mono ?_
   rintro e w4 ⟨rfl,f4,g4⟩
   have HK4:=hyd (HK3.out.offSh HS3.out g4)
   have HS4:Hid (ShAt w4 x { S with tt:=Front.tkS ⟨true,tkM K.F,0⟩ o } v):=by
    obtain⟨y1,y2⟩:=f4
    refine ShAt.setTo (S:=S) ⟨Sto.ext y1 fun i hi=>?_,y2.1,rfl,rfl,rfl⟩
    have:i=0\/i=1\/i=2\/i=3\/i=4\/i=5\/i=6:=by omega
    rcases this with rfl | rfl | rfl | rfl | rfl | rfl | rfl <;> rfl
   have HG4:=hyd (HG3.out.trans g4.mvx)
   clear htk f4 g4
   go_wp2
   go_ret2
   rw[HF.out]
   show _/\_/\_/\_
   rw[nxV_nat]
   exact⟨rfl,HK4.out,HS4.out,HOK.out,HG4.out⟩
  ·
   have HF:Hid (tiK K S o=(K,S,0,14)):=by
    show tiK K S o=_
    unfold tiK
    rw[if_neg (by rw[ho];simp),if_pos hc]
   have hd:decide (tkC K.F=0)=false:=decide_eq_false hc
   have e1:Pool.tkF K.F (tkC K.F) (tkM K.F)=K.F:=by unfold Pool.tkF;rw[if_neg hc]
   rw[e1] at ht
   have HS:=hyd hS
   have HNX:=hyd (h.apartSh hS)
   have HOK:=hyd ok
   clear h hS ho hc hm ok e1
   generalize tkC K.F=k at *
   generalize tkM K.F=m at *
   go_enter Tryz.func221,Tryz.ntmps221
   go_wp2_with (first | (go_at_call 85;refine hb.mono ?_;rintro e w1 ⟨rfl,rfl⟩) | (go_at_call 152;refine ht.mono ?_;rintro e w1 ⟨rfl,k1,g1⟩))
   go_ret2
   rw[HF.out]
   exact⟨rfl,k1,HS.out.chg g1 HNX.out,HOK.out,g1.mvs⟩
 ·
  have HF:=hyd (ti_take K S o ho)
  rw[ho] at hb
  replace hb:Calls Tryz.prog 85 #[.pointer (some ⟨x,3,none⟩)] w fun e w'=>e=.returned (.int .i64 (S.tt.k:Nat))/\w'=w:=hb
  have hz:(((S.tt.k:Nat):Int) == -1)=false:=by simp
  have htk:=Front.take_v w x 163 7 _ 3 _ hS.front ok (o:Nat)
  have HS:=hyd hS
  have HC:=hyd h
  have HOK:=hyd (Front.Okf.take ok (o:Nat))
  clear h hS ho ok
  go_enter Tryz.func221,Tryz.ntmps221
  go_wp2_with (go_at_call 85;refine hb.mono ?_;rintro e w1 ⟨rfl,rfl⟩)
  refine htk.mono ?_
  rintro e w4 ⟨rfl,f4,g4⟩
  have HK4:=hyd (HC.out.offSh HS.out g4)
  have HS4:=hyd (ShAt.setTo f4)
  have HG4:=hyd g4
  clear htk f4 g4
  go_wp2
  go_ret2
  rw[HF.out]
  show _/\_/\_/\_
  rw[nxV_nat]
  exact⟨rfl,HK4.out,HS4.out,HOK.out,HG4.out.mvx⟩
end Go.Proofs.YtbhbilcieodbhaaGreat
/-
  Tags that may not be are refused; slices of tags, and what is appended to them. Condition of append: at most 2^20 tags.
-/
namespace Go.Proofs.YtbhbilcieodbhaaGreat
set_option maxRecDepth 100000
open Go.RowKit
set_option maxHeartbeats 1000000 in
theorem prog_no (A:Ad) (w:World) (K:Kor) (h:CoreAt A w K) (t:Tgg) (hpl:t.p<96) (hm:¬ May t.p t.o t.q t.c t.l) (c o cap:Nat) :
 Calls Tryz.prog 120 #[.pointer (some ⟨A.c,0,none⟩),.agg #[.int .i64 (t.p:Nat),.int .i64 (t.o:Nat),.int .i64 (t.q:Nat),.int .i64 (t.c:Nat),.bool t.l],.slice (some ⟨c,o,none⟩) 174 cap] w fun e w'=>e=.returned (errV 8)/\CoreAt A w' K/\Chg (Cor A) w w':=by
 have T0:=Tg.new w t.p t.o t.q t.c t.l
 have G0:Chg (fun _=>False) w (w.alloc (.cells #[.int .i64 (t.p:Nat),.int .i64 (t.o:Nat),.int .i64 (t.q:Nat),.int .i64 (t.c:Nat),.bool t.l] 127)):=(Chg.refl _ w).alloc _
 have C0:=h.chg0 G0
 have HLOW:=hyd h.low
 obtain⟨c0,-⟩:=C0.cMed
 obtain⟨u0,u1,u2,u3,u4⟩:=T0.cells
 have hrd:=mreads_any A.m A.g A.p A.q A.b K.r _ C0.med
 have HT0:=hyd T0
 have HG0:=hyd G0
 have HC0:=hyd C0
 have HM:=hyd hm
 have HPL:=hyd hpl
 clear h C0 G0 T0 hm hpl
 go_enter Tryz.func120,Tryz.ntmps120
 go_wp2_with fail
 refine hrd.mono ?_
 rintro e w1 ⟨rfl,rfl⟩
 clear hrd
 generalize (w.alloc (.cells #[.int .i64 (t.p:Nat),.int .i64 (t.o:Nat),.int .i64 (t.q:Nat),.int .i64 (t.c:Nat),.bool t.l] 127))=w0 at *
 go_wp2_with fail
 go_region_held3 (fun wx=>wx.cell? ⟨A.c,0,none⟩=some (.pointer (some ⟨A.m,0,none⟩))/\wx.cell? ⟨w.heap.size,0,none⟩=some (.int .i64 (t.p:Nat))/\wx.cell? ⟨w.heap.size,1,none⟩=some (.int .i64 (t.o:Nat))/\wx.cell? ⟨w.heap.size,2,none⟩=some (.int .i64 (t.q:Nat))/\wx.cell? ⟨w.heap.size,3,none⟩=some (.int .i64 (t.c:Nat))/\wx.cell? ⟨w.heap.size,4,none⟩=some (.bool t.l))
  (first | exact⟨c0,u0,u1,u2,u3,u4⟩ | exact⟨z0,y0,y1,y2,y3,y4⟩)
  (first | (go_at_call 157;refine(mprogram_no A.m A.g A.p A.q A.b K.r _ (HC0.out.drewN 1).med (t.p:Nat) (t.p:Nat) (t.o:Nat) (t.q:Nat) (t.c:Nat) t.l (some ⟨c,o,none⟩) 174 cap (fun e=>HM.out e.1)).mono ?_;rintro e w2 ⟨rfl,G2⟩;have K2:=(HC0.out.drewN 1).chg0 G2;have T2:=(HT0.out.chg (Chg.refl (fun _=>False) w0).drew (fun f=>f)).chg G2 (fun f=>f);obtain⟨y0,y1,y2,y3,y4⟩:=T2.cells;obtain⟨z0,-⟩:=K2.cMed;have HK2:=hyd K2;have HG2:=hyd ((Chg.cor0 (A:=A) HG0.out).drew.trans G2.cor0);have HT2:=hyd T2;clear G2 K2 T2))
 all_goals
  have hbl:=fun w=>block_of w (t.p:Nat) (by have:=HPL.out;omega)
  rw[show ((t.p:Nat):Int) / 8=((t.p / 8:Nat):Int) by omega] at hbl
  have hi:IntKind.i64.wrap (K.r - K.r)=(0:Int):=by rw[Int.sub_self];rfl
  clear c0 u0 u1 u2 u3 u4 y1 y2 y3 y4
  go_wp2_with fail
  go_region_held3 (fun wx=>wx.cell? ⟨A.c,0,none⟩=some (.pointer (some ⟨A.m,0,none⟩))/\wx.cell? ⟨w.heap.size,0,none⟩=some (.int .i64 (t.p:Nat)))
   (first | exact⟨z0,y0⟩ | exact⟨z4,y4⟩)
   (first
    | (go_at_call 90;refine(hbl _).mono ?_;rintro e w3 ⟨rfl,rfl⟩)
    | (go_at_call 156;refine(mreads_any A.m A.g A.p A.q A.b K.r _ (HK2.out.drewN 1).med).mono ?_;rintro e w3 ⟨rfl,rfl⟩)
    | (go_at_call 103;refine(count_k A _ _ (HK2.out.drewN 1) (t.p / 8) (by have:=HPL.out;omega) 0 (by decide)).mono ?_;rintro e w4 ⟨rfl,K4,G4⟩;have T4:=(HT2.out.chg (Chg.refl (fun _=>False) w2).drew (fun f=>f)).chg G4 (fun e=>by have:=HLOW.out _ (Or.inl e);omega);have y4:=T4.cells.1;obtain⟨z4,-⟩:=K4.cMed;have HK4:=hyd K4;have HG4:=hyd (HG2.out.drew.trans G4);clear K4 G4 T4))
  all_goals
   have hf:=failure_k w4 1
   have HE:=hyd (cntF_none HC0.out.wf.hea (t.p / 8) (by have:=HPL.out;omega) (Int.le_refl 0))
   clear hbl z0 y0 hi
   go_wp2_with (go_at_call 158;refine hf.mono ?_;rintro e w5 ⟨rfl,rfl⟩)
   go_ret
   refine⟨rfl,?_,HG4.out⟩
   have:=HK4.out
   rw[HE.out] at this
   exact this
def tL (t:Tgg):List Value:=[.int .i64 (t.p:Nat),.int .i64 (t.o:Nat),.int .i64 (t.q:Nat),.int .i64 (t.c:Nat),.bool t.l]
theorem tL_one (t:Tgg):∀ v ∈ tL t,v.oneCell'=true:=by
 intro v hv
 simp[tL] at hv
 rcases hv with rfl | rfl | rfl | rfl | rfl <;> rfl
def Lad (w:World) (base:Nat) (v:Value) (l:List Tgg):Prop:=w.ownsRow base 127 5 v l.length (l.flatMap tL)
theorem tlat_get:∀ (l:List Tgg) (i:Nat) (f:Tgg) (j:Nat),l[i]?=some f->j<5->(l.flatMap tL)[i*5+j]?=(tL f)[j]?
 | [],i,f,j,h,_=>by simp at h
 | x :: r,0,f,j,h,hj=>by
  have e:x=f:=by simpa using h
  subst e
  rw[List.flatMap_cons,Nat.zero_mul,Nat.zero_add,List.getElem?_append_left (by simpa[tL] using hj)]
 | x :: r,i+1,f,j,h,hj=>by
  have h':r[i]?=some f:=by simpa using h
  rw[List.flatMap_cons,List.getElem?_append_right (by simp[tL];omega),show (i+1)*5+j - (tL x).length=i*5+j by simp[tL];omega,tlat_get r i f j h' hj]
section
variable {w w':World} {base:Nat} {v:Value} {l:List Tgg}
theorem Lad.nil (w:World) (base:Nat):Lad w base (.slice none 0 0) []:=⟨rfl,Or.inl ⟨rfl,rfl⟩⟩
theorem Lad.keep (h:Lad w base v l) (hk:∀ k,k<w.heap.size->v.ownBlock=some k->w'.heap[k]?=w.heap[k]?):Lad w' base v l:=by
 refine⟨h.1,?_⟩
 rcases h.2 with h1 | ⟨g,cap,cur,rfl,hb,hh,r⟩
 ·
  exact Or.inl h1
 ·
  exact Or.inr ⟨g,cap,cur,rfl,hb,(hk g (Array.getElem?_eq_some_iff.1 hh).1 rfl).trans hh,r⟩
theorem Lad.ty (h:Lad w base v l) {k:Nat} (hk:v.ownBlock=some k):Ty w k 127/\base<=k/\k<w.heap.size:=by
 rcases h.2 with ⟨rfl,_⟩ | ⟨g,cap,cur,rfl,hb,hh,_⟩
 ·
  cases hk
 ·
  have e:g=k:=by simpa[Value.ownBlock] using hk
  subst e
  exact⟨⟨_,_,hh⟩,hb,(Array.getElem?_eq_some_iff.1 hh).1⟩
theorem Lad.chg {T:Nat->Prop} (h:Lad w base v l) (hc:Chg T w w') (hs:∀ k,v.ownBlock=some k->¬ T k):Lad w' base v l:=h.keep fun k hk e=>hc.block k hk (hs k e)
theorem Lad.new (h:Lad w base v l) (hc:Chg (fun _=>False) w w'):Lad w' base v l:=h.chg hc fun _ _ f=>f
theorem Lad.lower (h:Lad w base v l) {b:Nat} (hb:b<=base):Lad w b v l:=by
 refine⟨h.1,?_⟩
 rcases h.2 with h1 | ⟨g,cap,cur,rfl,hg,r⟩
 ·
  exact Or.inl h1
 ·
  exact Or.inr ⟨g,cap,cur,rfl,Nat.le_trans hb hg,r⟩
theorem Lad.noCor {A:Ad} {K:Kor} (h:Lad w base v l) (hC:CoreAt A w K):∀ k,v.ownBlock=some k->¬ Cor A k:=by
 intro k hk
 have t:=(h.ty hk).1
 obtain⟨t0,t1,t2,t3,t4,t5,t6,t7,t8,t9⟩:=hC.tys
 rintro (e | e | e | e | e | e | e | e)
 ·
  exact t.ne t0 (by decide) e
 ·
  exact t.ne t1 (by decide) e
 ·
  exact t.ne t2 (by decide) e
 ·
  exact t.ne t5 (by decide) e
 ·
  exact t.ne t6 (by decide) e
 ·
  exact t.ne t7 (by decide) e
 ·
  exact t.ne t8 (by decide) e
 ·
  exact t.ne t9 (by decide) e
theorem Lad.noSh {x:Nat} {S:Shf} {u:Value} (h:Lad w base v l) (hS:ShAt w x S u):∀ k,v.ownBlock=some k->¬ k=x:=fun _ hk=>(h.ty hk).1.ne hS.ty (by decide)
theorem Lad.one (h:Lad w base v l):∃ a cap,v=.slice a l.length cap:=by
 rcases h.2 with ⟨rfl,e⟩ | ⟨g,cap,cur,rfl,_⟩
 ·
  exact⟨none,0,by rw[e]⟩
 ·
  exact⟨_,cap,rfl⟩
theorem Lad.at_ (h:Lad w base v l) {i:Nat} {t:Tgg} (hi:l[i]?=some t):∃ g cap,v=.slice (some ⟨g,0,none⟩) l.length cap/\l.length<=cap/\w.rangeAt g (i*5) (tL t):=by
 have hcl:=fun g hg=>World.ownsRow.cells (g:=g) h hg
 rcases h.2 with ⟨rfl,e⟩ | ⟨g,cap,cur,hv,hg,hh,hn,_⟩
 ·
  have:=(List.getElem?_eq_some_iff.1 hi).1
  omega
 ·
  refine⟨g,cap,hv,hn,fun j u hu=>?_⟩
  have hj:j<5:=by have:=(List.getElem?_eq_some_iff.1 hu).1;simpa[tL] using this
  have:=hcl g (by rw[hv];rfl) (i*5+j) u ((tlat_get l i t j hi hj).trans hu)
  rw[Addr.add_mid,Nat.zero_add] at this
  exact this
end
theorem info123:∃ i,Tryz.prog.info? 127=some i/\i.zero=some (.agg #[.int .i64 0,.int .i64 0,.int .i64 0,.int .i64 0,.bool false])/\i.size=5/\i.bytes=40:=by
 have h:(Tryz.prog.info? 127).map (fun i=>(i.zero,i.size,i.bytes))=some (some (.agg #[.int .i64 0,.int .i64 0,.int .i64 0,.int .i64 0,.bool false]),5,40):=by kernel_rfl
 cases e:Tryz.prog.info? 127 with
 | none=>rw[e] at h;cases h
 | some i=>
  rw[e] at h
  simp only[Option.map_some,Option.some.injEq,Prod.mk.injEq] at h
  exact⟨i,rfl,h.1,h.2.1,h.2.2⟩
theorem step_append_tag (w:World) {ops:Array Oper} {o:Oper} {a:Act} {K:Act->World->Prop} {Q:Exit->Act->World->Prop} {E:Prop} (hgd:o.guard=none) (s x:Operand)
 (ho:o.op=.call { callee:=.builtin .append,args:=#[s,x],argTypes:=#[161,161] })
 (base:Nat) (v:Value) (l:List Tgg) (hs:a.eval s=v) (hown:Lad w base v l)
 (B c:Nat) (t:Tgg) (hx:a.eval x=.slice (some ⟨B,0,none⟩) 1 c) (hB:Tg w B t.p t.o t.q t.c t.l) (hlen:l.length<=1048576) (hbase:base<=w.heap.size)
 (h:∀ g cap w',Lad w' base (.slice (some ⟨g,0,none⟩) (l.length+1) cap) (l ++ [t])->Chg (fun k=>v.ownBlock=some k) w w'->K (a.put o.dst (.slice (some ⟨g,0,none⟩) (l.length+1) cap)) w') :
 if Region.wanted o (yielded ops a.tmps)=true then Oper.wp Tryz.prog o a w K Q else E:=by
 obtain⟨i,hi1,hi2,hi3,hi4⟩:=info123
 refine step_append_lies w hgd s x 161 ho base 127 i _ 5 40 Tryz.underlying161 hi1 hi2 hi3 hi4 rfl (by decide) v l.length (l.flatMap tL) hs hown ⟨B,0,none⟩ 1 c (tL t) hx rfl (World.news_of_block hB) (tL_one t) (by decide) (by unfold maxLen;omega) (by omega) hbase _ rfl ?_
 intro g cap w' h1 h2 _ _
 refine h g cap w' ?_ ⟨h2.os,h2.tape,h2.output,h2.size,fun k hk hs=>h2.block k hk (fun e=>hs e.symm)⟩
 unfold Lad
 rw[List.length_append,List.flatMap_append]
 simpa using h1
end Go.Proofs.YtbhbilcieodbhaaGreat
/-
  Every row of bytes is read as some page. No condition.
-/
namespace Go.Proofs.YtbhbilcieodbhaaGreat
set_option maxRecDepth 100000
open Go.RowKit
theorem dec_ex (l:List Nat):∃ r,IsDec l r:=by
 by_cases h:∃ c,Cw c/\ds l c<=2
 ·
  obtain⟨c,hc,hd⟩:=h
  exact⟨_,Or.inr ⟨c,hc,rfl,hd⟩⟩
 ·
  exact⟨none,Or.inl ⟨rfl,fun c hc=>by
   by_cases hd:ds l c<=2
   ·
    exact absurd ⟨c,hc,hd⟩ h
   ·
    omega⟩⟩
theorem good_ex (L:List Nat) (i:Nat):IsDec (part 64 L i) none\/∃ r,Good L i r:=by
 obtain⟨r,h⟩:=dec_ex (part 64 L i)
 rcases h with ⟨rfl,h⟩ | ⟨c,hc,rfl,hd⟩
 ·
  exact Or.inl (Or.inl ⟨rfl,h⟩)
 ·
  refine Or.inr ⟨_,Or.inr ⟨c,hc,rfl,hd⟩,?_,?_,hd⟩
  ·
   have:=hc.1
   simp[this]
  ·
   intro n hn
   exact hc.2.1 n (List.mem_of_mem_take hn)
theorem msg_ex (L:List Nat) (k:Int):∃ R d c,MsgR L k R d c:=by
 by_cases h:L.length=256/\0<=k/\k<=3
 ·
  rcases good_ex L k.toNat with g | ⟨r,g⟩
  ·
   exact⟨[],0,5,Or.inr ⟨k.toNat,by omega,by omega,h.1,Or.inl ⟨g,rfl,rfl,rfl⟩⟩⟩
  ·
   exact⟨r.1,r.2,0,Or.inr ⟨k.toNat,by omega,by omega,h.1,Or.inr ⟨g,rfl⟩⟩⟩
 ·
  exact⟨[],0,1,Or.inl ⟨h,rfl,rfl,rfl⟩⟩
theorem dmg_ex (L:List Nat):∃ m,DmgR L m:=by
 have h:=fun k:Nat=>msg_ex L (k:Int)
 exact⟨_,fun k=>(h k).choose,fun k=>(h k).choose_spec.choose,fun k=>(h k).choose_spec.choose_spec.choose,fun k _=>(h k).choose_spec.choose_spec.choose_spec,rfl⟩
theorem dat_ex (L:List Nat):∃ R d c,DatR L R d c:=by
 by_cases h:L.length=256
 ·
  rcases good_ex L 0 with g0 | ⟨r0,g0⟩
  ·
   exact⟨[],0,5,Or.inr (Or.inl ⟨h,⟨0,by decide,g0⟩,rfl,rfl,rfl⟩)⟩
  ·
   rcases good_ex L 1 with g1 | ⟨r1,g1⟩
   ·
    exact⟨[],0,5,Or.inr (Or.inl ⟨h,⟨1,by decide,g1⟩,rfl,rfl,rfl⟩)⟩
   ·
    rcases good_ex L 2 with g2 | ⟨r2,g2⟩
    ·
     exact⟨[],0,5,Or.inr (Or.inl ⟨h,⟨2,by decide,g2⟩,rfl,rfl,rfl⟩)⟩
    ·
     exact⟨_,_,0,Or.inr (Or.inr ⟨h,r0,r1,r2,g0,g1,g2,rfl,rfl,rfl⟩)⟩
 ·
  exact⟨[],0,1,Or.inl ⟨h,rfl,rfl,rfl⟩⟩
theorem bod_ex (L:List Nat):∃ R d c,BodR L R d c:=by
 by_cases h:L.length=256
 ·
  rcases good_ex L 3 with g0 | ⟨r0,g0⟩
  ·
   exact⟨[],0,5,Or.inr (Or.inl ⟨h,g0,rfl,rfl,rfl⟩)⟩
  ·
   by_cases e:r0.1.drop 50=mk
   ·
    exact⟨_,_,0,Or.inr (Or.inr ⟨h,r0,g0,Or.inr ⟨e,rfl,rfl,rfl⟩⟩)⟩
   ·
    exact⟨[],0,6,Or.inr (Or.inr ⟨h,r0,g0,Or.inl ⟨e,rfl,rfl,rfl⟩⟩)⟩
 ·
  exact⟨[],0,1,Or.inl ⟨h,rfl,rfl,rfl⟩⟩
theorem told_ex (L:List Nat) (n:Int):∃ g,ToldR L n g:=by
 obtain⟨m,hm⟩:=dmg_ex L
 obtain⟨B,bd,bc,hB⟩:=bod_ex L
 obtain⟨D,dd,dc,hD⟩:=dat_ex L
 by_cases ht:TagAt B bc n
 ·
  by_cases hd:dc=0
  ·
   exact⟨⟨true,fld B 0 2,fld B 2 1,fld B 3 5,fld B 8 1,lst B,true,D,m⟩,hm,B,bd,bc,hB,Or.inr ⟨ht,rfl,rfl,rfl,rfl,rfl,rfl,D,dd,dc,hD,Or.inr ⟨hd,rfl,rfl⟩⟩⟩
  ·
   exact⟨⟨true,fld B 0 2,fld B 2 1,fld B 3 5,fld B 8 1,lst B,false,[],m⟩,hm,B,bd,bc,hB,Or.inr ⟨ht,rfl,rfl,rfl,rfl,rfl,rfl,D,dd,dc,hD,Or.inl ⟨hd,rfl,rfl⟩⟩⟩
 ·
  exact⟨⟨false,0,0,0,0,false,false,[],m⟩,hm,B,bd,bc,hB,Or.inl ⟨ht,rfl,rfl,rfl,rfl,rfl,rfl,rfl,rfl⟩⟩
theorem rdK_sound {K:Kor} (hK:Wf K) {p:Nat} (h:(rdK K p).2.1.sound=true):(rdK K p).2.1.data.length=174/\Bys (rdK K p).2.1.data:=by
 unfold rdK at h ⊢
 simp only at h ⊢
 by_cases e:(readV K.s p).2.2=0
 ·
  have e2:rdF K.tl K.s K.r p=((readV K.s p).1,wrap64 (K.r+1),K.tl (readV K.s p).2.1 p,0):=by unfold rdF;rw[if_pos e]
  rw[e2] at h ⊢
  exact(ToldR.sound (hK.tl _ _) h).2
 ·
  have e2:rdF K.tl K.s K.r p=((readV K.s p).1,K.r,Pg.zero,(readV K.s p).2.2):=by unfold rdF;rw[if_neg e]
  rw[e2] at h ⊢
  simp only[if_neg e] at h
  cases h
end Go.Proofs.YtbhbilcieodbhaaGreat
/-
  What a number's page holds. Condition: the core lies in memory.
-/
namespace Go.Proofs.YtbhbilcieodbhaaGreat
set_option maxRecDepth 100000
open Go.RowKit
def Dat (w':World) (n:Nat) (v:Value) (D:List Nat):Prop:=∃ g cap,v=.slice (some ⟨g,0,none⟩) 174 cap/\n<=g/\At w' g 0 D/\D.length=174/\Bys D
theorem map_lt {K:Kor} (h:Wf K) {o:Nat} (ho:o<25) (hc:Pmap.atC K.L o=0):(K.L o).toNat<96/\Pmap.atV K.L o=((K.L o).toNat:Nat)/\K.L o≠-1:=by
 have e:K.L o≠-1:=by
  intro e
  unfold Pmap.atC at hc
  rw[if_neg (by omega),if_pos (by simpa using e)] at hc
  cases hc
 have:=h.map.1 o ho
 refine⟨by omega,?_,e⟩
 unfold Pmap.atV
 rw[if_pos hc]
 simp
 omega
set_option maxHeartbeats 1000000 in
theorem content_k (A:Ad) (w:World) (K:Kor) (h:CoreAt A w K) (o:Nat) (ho:o<25) :
 Calls Tryz.prog 220 #[.pointer (some ⟨A.c,0,none⟩),.int .i64 (o:Nat)] w fun e w'=>∃ v,e=.returned (.tuple #[v,.bool (coK K o).2.2.1,errV (coK K o).2.2.2])/\((coK K o).2.2.2=0->Dat w' w.heap.size v (coK K o).2.1)/\CoreAt A w' (coK K o).1/\Chg (Cor A) w w':=by
 obtain⟨c2,-⟩:=h.cMap
 have hat:=Pmap.at_v w A.ma K.L h.map (o:Nat)
 have q:=neq_er
 have g:=guard_neq
 by_cases hc:Pmap.atC K.L o=0
 ·
  obtain⟨hp,hv,hl⟩:=map_lt h.wf ho hc
  rw[hv,hc] at hat
  have hrd:=read_k A w K h (K.L o).toNat hp
  have HF:Hid (coK K o=if (rdK K (K.L o).toNat).2.2≠0 then ((rdK K (K.L o).toNat).1,[],false,(rdK K (K.L o).toNat).2.2) else if (rdK K (K.L o).toNat).2.1.sound=true then ((rdK K (K.L o).toNat).1,(rdK K (K.L o).toNat).2.1.data,(rdK K (K.L o).toNat).2.1.l,0) else if o=24 then ((rdK K (K.L o).toNat).1,noH (rdK K (K.L o).toNat).1 ((rdK K (K.L o).toNat).1.vs 24),false,0) else ((rdK K (K.L o).toNat).1,List.replicate 174 0,true,0)):=by
   show coK K o=_
   unfold coK
   rw[if_neg (by rw[hc];simp)]
  have HSD:Hid ((rdK K (K.L o).toNat).2.1.sound=true->(rdK K (K.L o).toNat).2.1.data.length=174/\Bys (rdK K (K.L o).toNat).2.1.data):=fun x=>rdK_sound h.wf x
  have HL:=hyd hl
  have HVS:Hid ((rdK K (K.L o).toNat).1.vs=K.vs/\(rdK K (K.L o).toNat).1.L=K.L):=by
   show _/\_
   unfold rdK
   simp only
   split <;> exact⟨rfl,rfl⟩
  generalize rdK K (K.L o).toNat=Z at *
  have HLOW:=hyd h.low
  clear h hc hl hp hv
  generalize (K.L o).toNat=pp at *
  go_enter Tryz.func220,Tryz.ntmps220
  go_wp2_with (go_at_call 56;refine hat.mono ?_;rintro e w ⟨rfl,rfl⟩)
  refine hrd.mono ?_
  rintro e w1 ⟨v,rfl,hO,k1,g1⟩
  have HO:=hyd hO
  have HK1:=hyd k1
  have HG1:=hyd g1
  have HP:=hyd (Pb.new w1 false 0 0 0 0 false false (.slice none 0 0) 0)
  have HGN:Hid (Chg (fun _=>False) w1 (w1.alloc (.cells #[.bool false,.int .i64 0,.int .i64 0,.int .i64 0,.int .i64 0,.bool false,.bool false,.slice none 0 0,.int .i64 0] 129))):=(Chg.refl _ w1).alloc _
  have hs1:=g1.size
  clear hat hrd hO k1 g1 c2
  unfold pgV
  go_wp2_with (first | refine wpList_store_pg rfl (.tmp 9) (.tmp 27) rfl w1.heap.size rfl rfl HO.out.one HP.out ?_)
  intro w2 P2 G2
  have HK2:=hyd ((HK1.out.chg0 HGN.out).far HLOW.out (by omega) G2)
  have HO2:=hyd ((HO.out.chg HGN.out (fun _ _ _ f=>f)).chg G2 (fun k hk he e=>by have:=HO.out.block he;omega))
  have HG2:=hyd ((HG1.out.trans HGN.out.cor0).trans' G2 (fun k hk e=>by omega))
  have hz2:=P2.lt
  obtain⟨p0,p1,p2,p3,p4,p5,p6,p7,p8⟩:=P2.cells
  clear G2 P2 HO HK1 HG1 HGN HP
  by_cases hz:Z.2.2=0
  ·
   replace q:∀ w,(binOp .neq 33 (errV Z.2.2) .nilIface).run Tryz.prog w=.ok (.bool false) w:=fun w=>by rw[q,decide_eq_true hz];rfl
   cases hsd:Z.2.1.sound
   ·
    rw[hsd] at p6
    by_cases h24:o=24
    ·
     subst h24
     have HF2:Hid (coK K 24=(Z.1,noH Z.1 (Z.1.vs 24),false,0)):=by show coK K 24=_;rw[HF.out,if_neg (by rw[hz];simp),if_neg (by rw[hsd];simp),if_pos rfl]
     have htl:=telling_k w2 A.c 111 #[]
     clear hz hsd HSD HF p0 p1 p2 p3 p4 p5 p7 p8
     go_wp2_with fail
     refine htl.mono ?_
     rintro e w3 ⟨rfl,a1,a2,a3,g3⟩
     have K3:=HK2.out.chg0 g3
     obtain⟨cv,-⟩:=K3.cVs 24 (by decide)
     have hq:1<=Z.1.vs 24/\Z.1.vs 24<=1099511627775:=⟨K3.wf.vp 24 (by decide) (by rw[HVS.out.2];exact HL.out),K3.wf.vs 24 (by decide)⟩
     have hlo:=HK2.out.low
     have hH:=telling_hold A w3 111 #[] _ (more_none A w3) w2.heap.size (w2.heap.size+1) a1 a2 (fun e=>by have:=hlo _ (Or.inl e);omega) (fun e=>by have:=hlo _ (Or.inl e);omega) (by omega) (by omega) none_okc
     have hcl:=hH.run w3 Z.1 (Z.1.vs 24) K3 (Chg.refl _ _) hq
     have hen:=hH.ent
     have hmf:∀ (fn:Fn) (first cap:Array Value) (w:World),(Instr.makeFunc fn first cap).run Tryz.prog w=.ok (.func fn first cap) w:=fun _ _ _ _=>rfl
     have HB:=hyd (hH.bys Z.1 (Z.1.vs 24))
     have HLN:=hyd (hH.len Z.1 (Z.1.vs 24))
     have HK3:=hyd K3
     have HG3:=hyd (HG2.out.trans g3.cor0)
     have hz3:w2.heap.size<=w3.heap.size:=g3.size
     clear htl a1 a2 a3 g3 K3 hlo hH hq p6
     go_wp2_with fail
     refine hcl.mono ?_
     rintro e w4 ⟨gg,rfl,hg,hA,g4⟩
     have HA:=hyd hA
     have HK4:=hyd (HK3.out.chg0 g4)
     have HG4:=hyd (HG3.out.trans g4.cor0)
     have HLE:Hid (w.heap.size<=gg):=(show w.heap.size<=gg by omega)
     clear hcl hA g4 hg
     go_wp2
     go_ret3
     rw[HF2.out]
     exact⟨_,rfl,fun _=>⟨gg,174,rfl,HLE.out,HA.out,HLN.out,HB.out⟩,HK4.out,HG4.out⟩
    ·
     have HF2:Hid (coK K o=(Z.1,List.replicate 174 0,true,0)):=by show coK K o=_;rw[HF.out,if_neg (by rw[hz];simp),if_neg (by rw[hsd];simp),if_neg h24]
     have hoz:(((o:Nat):Int) == 24)=false:=by simp;omega
     have hm:=make174
     have HA:=hyd (Arr.new w2 5 z174)
     have HGA:Hid (Chg (fun _=>False) w2 (w2.alloc (.cells (bcells z174) 5))):=(Chg.refl _ w2).alloc _
     clear hz hsd HSD HF p0 p1 p2 p3 p4 p5 p7 p8 h24
     go_wp2
     go_ret3
     rw[HF2.out]
     exact⟨_,rfl,fun _=>⟨w2.heap.size,174,rfl,by omega,HA.out.at_,by simp,fun n hn=>by rw[(List.mem_replicate.1 hn).2];decide⟩,HK2.out.chg0 HGA.out,HG2.out.trans HGA.out.cor0⟩
   ·
    rw[hsd] at p6
    have HF2:Hid (coK K o=(Z.1,Z.2.1.data,Z.2.1.l,0)):=by show coK K o=_;rw[HF.out,if_neg (by rw[hz];simp),if_pos hsd]
    have HSD2:=hyd (HSD.out hsd)
    clear hz hsd HSD HF p0 p1 p2 p3 p4 p8
    go_wp2_with fail
    go_region
    go_wp2
    go_ret3
    rw[HF2.out]
    refine⟨v,rfl,fun _=>?_,HK2.out.drewN 1,HG2.out.drewN 1⟩
    obtain⟨gg,cap,rfl,hb,hl,-,hA,-⟩:=HO2.out.lies (by rw[HSD2.out.1];decide)
    refine⟨gg,cap,by rw[HSD2.out.1],hb,⟨hl,fun i hi=>?_⟩,HSD2.out.1,HSD2.out.2⟩
    rw[Nat.zero_add]
    exact hA i hi
  ·
   have HF2:Hid (coK K o=(Z.1,[],false,Z.2.2)):=by show coK K o=_;rw[HF.out,if_pos hz]
   have HZ:=hyd hz
   replace q:∀ w,(binOp .neq 33 (errV Z.2.2) .nilIface).run Tryz.prog w=.ok (.bool true) w:=fun w=>by rw[q,decide_eq_false hz];rfl
   generalize Z.2.2=z2 at *
   clear hz HF HSD p0 p1 p2 p3 p4 p5 p6 p7 p8
   go_wp2
   go_ret3
   rw[HF2.out]
   exact⟨_,rfl,fun e=>absurd e HZ.out,HK2.out,HG2.out⟩
 ·
  have HF:Hid (coK K o=(K,[],false,Pmap.atC K.L o)):=by
   show coK K o=_
   unfold coK
   rw[if_pos hc]
  have HC:=hyd h
  have HZ:=hyd hc
  replace q:∀ w,(binOp .neq 33 (errV (Pmap.atC K.L o)) .nilIface).run Tryz.prog w=.ok (.bool true) w:=fun w=>by rw[q,decide_eq_false hc];rfl
  clear h hc ho
  generalize Pmap.atC K.L o=z2 at *
  go_enter Tryz.func220,Tryz.ntmps220
  go_wp2_with (go_at_call 56;refine hat.mono ?_;rintro e w ⟨rfl,rfl⟩)
  go_ret3
  rw[HF.out]
  exact⟨_,rfl,fun e=>absurd e HZ.out,HC.out,Chg.refl _ _⟩
end Go.Proofs.YtbhbilcieodbhaaGreat
/-
  What a move's small steps leave as it was, and what they give. No condition: lemmas on the machine.
-/
namespace Go.Proofs.YtbhbilcieodbhaaGreat
set_option maxRecDepth 100000
open Go.RowKit
def Kep (K K':Kor):Prop:=K'.L=K.L/\K'.vs=K.vs/\K'.vc=K.vc
theorem Kep.refl (K:Kor):Kep K K:=⟨rfl,rfl,rfl⟩
theorem Kep.trans {K K' K'':Kor} (h:Kep K K') (k:Kep K' K''):Kep K K'':=⟨k.1.trans h.1,k.2.1.trans h.2.1,k.2.2.trans h.2.2⟩
theorem rdK_kp (K:Kor) (p:Nat):Kep K (rdK K p).1:=by
 unfold rdK
 simp only
 split <;> exact⟨rfl,rfl,rfl⟩
theorem coK_kp (K:Kor) (o:Nat):Kep K (coK K o).1:=by
 unfold coK
 simp only
 split
 ·
  exact Kep.refl K
 ·
  split
  ·
   exact rdK_kp K _
  ·
   split
   ·
    exact rdK_kp K _
   ·
    split <;> exact rdK_kp K _
theorem tiK_kp (K:Kor) (S:Shf) (o:Nat):Kep K (tiK K S o).1:=by
 unfold tiK
 split
 ·
  exact Kep.refl K
 ·
  split
  ·
   exact Kep.refl K
  ·
   exact⟨rfl,rfl,rfl⟩
theorem prK_kp (K:Kor) (t:Tgg) (D:List Nat):Kep K (prK K t D).1:=by
 unfold prK
 generalize prF K.tl K.s K.r t D=z
 exact⟨rfl,rfl,rfl⟩
theorem prM_kp (K:Kor) (t:Tgg) (D:List Nat):Kep K (prM K t D).1:=by
 unfold prM
 split
 ·
  exact Kep.refl K
 ·
  exact prK_kp K t D
def Sm (S S':Shf):Prop:=S'.fm=S.fm/\S'.rt=S.rt/\S'.fd=S.fd
theorem tiK_sm (K:Kor) (S:Shf) (o:Nat):Sm S (tiK K S o).2.1/\(tiK K S o).2.1.ld=S.ld:=by
 unfold tiK
 split
 ·
  exact⟨⟨rfl,rfl,rfl⟩,rfl⟩
 ·
  split
  ·
   exact⟨⟨rfl,rfl,rfl⟩,rfl⟩
  ·
   exact⟨⟨rfl,rfl,rfl⟩,rfl⟩
theorem nx_place {s:Front.St} (h:Front.Okf s) {o:Nat} (hc:Front.nxC s o=0):(Front.nxV s o).toNat<96/\(o=24\/(Front.nxV s o).toNat % 8<6)/\(Front.nxV s o).toNat=s.k*8+s.i/\s.i<8:=by
 have h1:=h.1
 have h2:Front.nxV s o=((s.k*8+s.i:Nat):Int):=by unfold Front.nxV;rw[if_pos hc]
 have h3:=Front.nx_lt hc
 rw[h2,Int.toNat_natCast]
 refine⟨by omega,?_,rfl,h3⟩
 unfold Front.nxC at hc
 split at hc
 ·
  cases hc
 ·
  split at hc
  ·
   cases hc
  ·
   split at hc
   ·
    rename_i e
    rcases e.2 with e | e
    ·
     left;omega
    ·
     right;omega
   ·
    cases hc
theorem tiK_place (K:Kor) (S:Shf) (o:Nat) (hK:Wf K) (hS:Front.Okf S.tt) (hc:(tiK K S o).2.2.2=0):(tiK K S o).2.2.1<96/\(o=24\/(tiK K S o).2.2.1 % 8<6):=by
 unfold tiK at hc ⊢
 split at hc
 ·
  rename_i e
  rw[if_pos e]
  have:=nx_place hS hc
  exact⟨this.1,this.2.1⟩
 ·
  rename_i e
  rw[if_neg e]
  split at hc
  ·
   cases hc
  ·
   rename_i e2
   rw[if_neg e2]
   have:=nx_place (s:=⟨true,tkM K.F,0⟩) ⟨(tkM_lt K.F hK.frm).2,(by decide:0<9)⟩ hc
   exact⟨this.1,this.2.1⟩
theorem of_mem {L:Nat->Int} {b:Nat}:∀ {k:Nat} {z:Int},z ∈ Pmap.ofK L b k->∃ o:Nat,o<25/\z=o/\L o≠-1
 | 0,z,h=>by cases h
 | k+1,z,h=>by
  unfold Pmap.ofK at h
  rcases List.mem_append.1 h with h | h
  ·
   exact of_mem h
  ·
   split at h
   ·
    cases h
   ·
    rename_i h6
    have e:z=Pmap.own L ((8*b+k:Nat):Int):=by simpa using h
    rcases Pmap.own_spec L ((8*b+k:Nat):Int) with ⟨i,h1,h2,h3,_⟩ | ⟨h2,_⟩
    ·
     exact⟨i,h1,by rw[e,h2],by rw[h3];omega⟩
    ·
     exact absurd h2 h6
def Tgs (l:List Tgg):Prop:=∀ t ∈ l,t.o<25/\(1<=t.q/\t.q<=1099511627775)/\t.c<256
theorem Tgs.app {l:List Tgg} (h:Tgs l) {t:Tgg} (ht:t.o<25/\(1<=t.q/\t.q<=1099511627775)/\t.c<256):Tgs (l ++ [t]):=fun u hu=>by
 rcases List.mem_append.1 hu with hu | hu
 ·
  exact h u hu
 ·
  rw[show u=t by simpa using hu];exact ht
theorem progM_k (A:Ad) (w:World) (K:Kor) (h:CoreAt A w K) (t:Tgg) (hp:t.p<96) (hf:t.o=24\/t.p % 8<6) (hT:t.o<25/\(1<=t.q/\t.q<=1099511627775)/\t.c<256) (c o cap:Nat) (D:List Nat) (hD:D.length=174) (bD:Bys D) (hA:At w c o D) (hcn:¬ Cor A c) :
 Calls Tryz.prog 120 #[.pointer (some ⟨A.c,0,none⟩),.agg #[.int .i64 (t.p:Nat),.int .i64 (t.o:Nat),.int .i64 (t.q:Nat),.int .i64 (t.c:Nat),.bool t.l],.slice (some ⟨c,o,none⟩) 174 cap] w fun e w'=>e=.returned (errV (prM K t D).2)/\CoreAt A w' (prM K t D).1/\Chg (Cor A) w w':=by
 unfold prM
 by_cases e:t.o=24/\t.l=true
 ·
  rw[if_pos e]
  refine prog_no A w K h t hp (fun hm=>?_) c o cap
  rcases hm.2 with ⟨_,k⟩ | ⟨k,_⟩
  ·
   rw[e.2] at k;cases k
  ·
   exact k (by rw[e.1];rfl)
 ·
  rw[if_neg e]
  refine prog_k A w K h t ⟨⟨by omega,by omega,by omega,by omega⟩,?_⟩ c o cap D hD bD hA hcn
  by_cases e2:t.o=24
  ·
   left
   refine⟨by omega,?_⟩
   cases hl:t.l
   ·
    rfl
   ·
    exact absurd ⟨e2,hl⟩ e
  ·
   right
   refine⟨by omega,?_⟩
   have:=hf.resolve_left e2
   omega
end Go.Proofs.YtbhbilcieodbhaaGreat
/-
  The copies count: commit. Condition: core and move lie in memory; the tags are a core's.
-/
namespace Go.Proofs.YtbhbilcieodbhaaGreat
set_option maxRecDepth 100000
open Go.RowKit
theorem Wf.mv' {K:Kor} (h:Wf K) (z:Int):Wf { K with mv:=z }:=
 ⟨h.chip,h.rr,h.frm,h.map,h.vs,h.vp,h.vc,h.fl,h.nx,h.fr,h.cu,h.qu,h.hea,h.tl⟩
theorem kc_mv (A:Ad) (K:Kor) (z:Int) (j:Nat) (_:j<101) (_:j<83\/83+13<=j):upL (kc A K) 100 [.int .i64 z] j=kc A { K with mv:=z } j:=by
 rw[upL_one]
 by_cases e:j=100
 ·
  subst e;rfl
 ·
  rw[if_neg e]
  have e2:j<100:=by omega
  unfold kc
  by_cases h0:j=0
  ·
   simp only[if_pos h0]
  by_cases h1:j=1
  ·
   simp only[if_neg h0,if_pos h1]
  by_cases h2:j=2
  ·
   simp only[if_neg h0,if_neg h1,if_pos h2]
  by_cases h3:j<53
  ·
   simp only[if_neg h0,if_neg h1,if_neg h2,if_pos h3]
  by_cases h4:j<77
  ·
   simp only[if_neg h0,if_neg h1,if_neg h2,if_neg h3,if_pos h4]
  have:j=77\/j=78\/j=79\/j=80\/j=81\/j=82\/j=96\/j=97\/j=98\/j=99:=by omega
  rcases this with rfl | rfl | rfl | rfl | rfl | rfl | rfl | rfl | rfl | rfl <;> rfl
theorem CoreAt.setMv {A:Ad} {w:World} {K:Kor} (h:CoreAt A w K) (z:Int):CoreAt A (w.setCell ⟨A.c,100,none⟩ (.int .i64 z)) { K with mv:=z }:=
 h.setCore { K with mv:=z } ⟨rfl,rfl,rfl,rfl,rfl,rfl,rfl,rfl,rfl⟩ (QB.ext (QB.set h.core 100 (.int .i64 z) (by omega)) (kc_mv A K z)) ((Chg.refl (·=A.c) w).setCell (Or.inl rfl) _ _) (h.wf.mv' z)
theorem cmL_cons (t:Tgg) (l:List Tgg) (K:Kor):cmL (t :: l) K=if (layK K t).2≠0 then layK K t else cmL l (layK K t).1:=rfl
structure Cmi (A:Ad) (x n:Nat) (S:Shf) (v:Value) (r:List Tgg) (Z:Kor × Nat) (w wr:World) (Ki:Kor):Prop where
 eq:cmL r Ki=Z
 core:CoreAt A wr Ki
 sh:ShAt wr x S v
 lad:Lad wr n v S.ld
 chg:Chg (Cor A) w wr
set_option maxHeartbeats 2000000 in
theorem commit_k (A:Ad) (w:World) (K:Kor) (h:CoreAt A w K) (x n:Nat) (S:Shf) (v:Value) (hS:ShAt w x S v) (hL:Lad w n v S.ld) (ok:Front.Okf S.tt) (hT:Tgs S.ld) (hlen:S.ld.length<=1048576) (st:Int) :
 Calls Tryz.prog 191 #[.pointer (some ⟨A.c,0,none⟩),.pointer (some ⟨x,0,none⟩),.int .i64 st] w fun e w'=>e=.returned (errV (cmK K S st).2)/\CoreAt A w' (cmK K S st).1/\Chg (Cor A) w w':=by
 obtain⟨d6,-⟩:=hS.cell 6 (by decide)
 replace d6:w.cell? ⟨x,6,none⟩=some v:=d6
 have q:=neq_er
 have g:=guard_neq
 obtain⟨a,cap,rfl⟩:=hL.one
 have HC:=hyd h
 have HS:=hyd hS
 have HL:=hyd hL
 have HT:=hyd hT
 have HOK:=hyd ok
 obtain⟨m,HM⟩:∃ m,Hid (m=S.ld.length):=⟨_,rfl⟩
 have HF:Hid (cmK K S st=if (cmL S.ld K).2≠0 then cmL S.ld K else ({ (if S.tt.o then stK { clK (stK (lvK (cmL S.ld K).1 S.fm) S.fm st) with fr:=S.tt } S.tt.k 1 else stK (lvK (cmL S.ld K).1 S.fm) S.fm st) with mv:=wrap64 ((if S.tt.o then stK { clK (stK (lvK (cmL S.ld K).1 S.fm) S.fm st) with fr:=S.tt } S.tt.k 1 else stK (lvK (cmL S.ld K).1 S.fm) S.fm st).mv+S.ld.length) },0)):=rfl
 obtain⟨Z,HZ⟩:∃ Z,Hid (cmL S.ld K=Z):=⟨_,rfl⟩
 rw[HZ.out] at HF
 rw[<-HM.out] at d6 HF
 rw[<-HM.out] at HS HL
 have hm6:m<=1048576:=by rw[HM.out];exact hlen
 clear h hS hL ok hT hlen
 go_enter Tryz.func191,Tryz.ntmps191
 go_wp2_with fail
 go_loopg [16] m (fun kx s16 wr=>∃ i:Nat,s16=.int .i64 i/\i<=m/\m - i<=kx/\∃ Ki,Hid (Cmi A x n S (.slice a m cap) (S.ld.drop i) Z w wr Ki))
 case atStart=>exact⟨0,rfl,by omega,by omega,K,⟨HZ.out,HC.out,HS.out,HL.out,Chg.refl _ _⟩⟩
 case round=>
  obtain⟨i,rfl,him,hkx,Ki,HI⟩:=hrel
  by_cases hlt:i<m
  ·
   have hltz:(i:Int)<(m:Int):=by omega
   obtain⟨t,ht⟩:∃ t,S.ld[i]?=some t:=⟨_,List.getElem?_eq_getElem (by have:=HM.out;omega)⟩
   obtain⟨gg,cap2,hv,hcap,hrng⟩:=HI.out.lad.at_ ht
   obtain⟨rfl,-,-⟩:a=some ⟨gg,0,none⟩/\m=S.ld.length/\cap=cap2:=by simpa using hv
   have HE:Hid (cmL (t :: S.ld.drop (i+1)) Ki=Z):=by
    have e:=HI.out.eq
    rw[List.drop_eq_getElem_cons (by have:=HM.out;omega),(List.getElem?_eq_some_iff.1 ht).2] at e
    exact e
   have htg:=HT.out t (List.mem_of_getElem? ht)
   have r0:=hrng 0 _ rfl
   have r1:=hrng 1 _ rfl
   have r2:=hrng 2 _ rfl
   have r3:=hrng 3 _ rfl
   have r4:=hrng 4 _ rfl
   rw[Nat.add_zero] at r0
   have GA:Chg (fun _=>False) wr (wr.alloc (.cells #[.int .i64 (t.p:Nat),.int .i64 (t.o:Nat),.int .i64 (t.q:Nat),.int .i64 (t.c:Nat),.bool t.l] 127)):=(Chg.refl _ wr).alloc _
   have hly:=lay_k A _ Ki (HI.out.core.chg0 GA) t htg.1 htg.2.1 htg.2.2
   have hzt:=zero123
   have HGA:=hyd GA
   clear ht hv hcap hrng htg GA
   go_wp2_with fail
   refine hly.mono ?_
   rintro e w2 ⟨rfl,k2,g2⟩
   have G2:=(Chg.cor0 (A:=A) HGA.out).trans g2
   have HK2:=hyd k2
   have HS2:=hyd (HI.out.sh.chg G2 (HI.out.core.apartSh HI.out.sh))
   have HL2:=hyd (HI.out.lad.chg G2 (HI.out.lad.noCor HI.out.core))
   have HG2:=hyd (HI.out.chg.trans G2)
   have HE2:=HE.out
   rw[cmL_cons] at HE2
   generalize layK Ki t=P at *
   clear hly k2 g2 G2 HE HI r0 r1 r2 r3 r4 hzt HGA
   by_cases hp:P.2=0
   ·
    rw[if_neg (by rw[hp];simp)] at HE2
    have HI2:Hid (Cmi A x n S (.slice (some ⟨gg,0,none⟩) m cap) (S.ld.drop (i+1)) Z w w2 P.1):=⟨HE2,HK2.out,HS2.out,HL2.out,HG2.out⟩
    rw[hp]
    clear hp HE2 HK2 HS2 HL2 HG2
    go_wp2
    go_roundg (m - (i+1))
    case measure=>omega
    case rel=>exact⟨i+1,by simp,by omega,Nat.le_refl _,P.1,HI2.out⟩
   ·
    rw[if_pos hp] at HE2
    have HE3:=hyd HE2
    have HP:=hyd hp
    replace q:∀ w,(binOp .neq 33 (errV P.2) .nilIface).run Tryz.prog w=.ok (.bool true) w:=fun w=>by rw[q,decide_eq_false hp];rfl
    clear hp HE2
    go_wp2
    go_ret
    rw[HF.out,<-HE3.out,if_pos HP.out]
    exact⟨rfl,HK2.out,HG2.out⟩
  ·
   have hltz:¬ (i:Int)<(m:Int):=by omega
   have HZ2:Hid (Z=(Ki,0)):=by
    have e:=HI.out.eq
    rw[List.drop_eq_nil_of_le (by have:=HM.out;omega)] at e
    exact e.symm
   obtain⟨d0,-⟩:=HI.out.sh.cell 0 (by decide)
   replace d0:wr.cell? ⟨x,0,none⟩=some (.int .i64 (S.fm:Nat)):=d0
   have hlv:=leave_k A wr Ki HI.out.core (S.fm:Nat)
   have HNX:=hyd (HI.out.core.apartSh HI.out.sh)
   have HSr:=hyd HI.out.sh
   have HGr:=hyd HI.out.chg
   clear HI
   go_wp2_with fail
   refine hlv.mono ?_
   rintro e w2 ⟨rfl,k2,g2⟩
   have S2:=HSr.out.chg g2 HNX.out
   obtain⟨e0,-⟩:=S2.cell 0 (by decide)
   replace e0:w2.cell? ⟨x,0,none⟩=some (.int .i64 (S.fm:Nat)):=e0
   have hst:=set_k A w2 _ k2 (S.fm:Nat) st
   have HS2:=hyd S2
   have HG2:=hyd (HGr.out.trans g2)
   clear hlv k2 g2 S2 d0 HSr HGr
   go_wp2_with fail
   refine hst.mono ?_
   rintro e w3 ⟨rfl,k3,g3⟩
   have HF2:Hid (cmK K S st=({ (if S.tt.o then stK { clK (stK (lvK Ki S.fm) S.fm st) with fr:=S.tt } S.tt.k 1 else stK (lvK Ki S.fm) S.fm st) with mv:=wrap64 ((if S.tt.o then stK { clK (stK (lvK Ki S.fm) S.fm st) with fr:=S.tt } S.tt.k 1 else stK (lvK Ki S.fm) S.fm st).mv+m) },0)):=by
    show cmK K S st=_
    rw[HF.out,HZ2.out]
    rfl
   clear HF
   generalize stK (lvK Ki S.fm) S.fm st=K3 at *
   have S3:=HS2.out.chg g3 HNX.out
   have hbl:=Front.block_any w3 x 163 7 _ 3 S.tt S3.front
   unfold Front.blV at hbl
   have HK3:=hyd k3
   have HS3:=hyd S3
   have HG3:=hyd (HG2.out.trans g3)
   clear hst k3 g3 e0 S3 HS2 HG2
   cases ho:S.tt.o
   ·
    rw[ho] at hbl
    replace hbl:Calls Tryz.prog 85 #[.pointer (some ⟨x,3,none⟩)] w3 fun e w'=>e=.returned (.int .i64 (-1))/\w'=w3:=hbl
    have HF3:Hid (cmK K S st=({ K3 with mv:=wrap64 (K3.mv+m) },0)):=by
     show cmK K S st=_
     rw[HF2.out,ho]
     rfl
    obtain⟨e6,-⟩:=HS3.out.cell 6 (by decide)
    replace e6:w3.cell? ⟨x,6,none⟩=some (.slice a m cap):=e6
    obtain⟨c100,f100⟩:=HK3.out.cMv
    have hwr:IntKind.i64.wrap (K3.mv+(m:Int))=wrap64 (K3.mv+(m:Int)):=by rw[IntKind.wrap_i64];unfold wrap64;rfl
    clear ho HF2
    generalize wrap64 (K3.mv+(m:Int))=zz at *
    go_wp2_with (go_at_call 85;refine hbl.mono ?_;rintro e w3 ⟨rfl,rfl⟩)
    go_region
    all_goals
     go_wp2
     go_ret
     rw[HF3.out]
     exact⟨rfl,(HK3.out.setMv zz).drewN 1,(HG3.out.trans (Chg.cor_c ((Chg.refl (·=A.c) _).setCell (Or.inl rfl) _ _))).drewN 1⟩
   ·
    rw[ho] at hbl
    replace hbl:Calls Tryz.prog 85 #[.pointer (some ⟨x,3,none⟩)] w3 fun e w'=>e=.returned (.int .i64 (S.tt.k:Nat))/\w'=w3:=hbl
    have HF3:Hid (cmK K S st=({ stK { clK K3 with fr:=S.tt } S.tt.k 1 with mv:=wrap64 ((stK { clK K3 with fr:=S.tt } S.tt.k 1).mv+m) },0)):=by
     show cmK K S st=_
     rw[HF2.out,ho]
     rfl
    have hz:(((S.tt.k:Nat):Int) == -1)=false:=by simp
    have hcl:=close_k A w3 K3 HK3.out
    clear ho HF2
    go_wp2_with (go_at_call 85;refine hbl.mono ?_;rintro e w3 ⟨rfl,rfl⟩)
    refine hcl.mono ?_
    rintro e w4 ⟨rfl,k4,g4⟩
    have S4:=HS3.out.chg g4 HNX.out
    obtain⟨e3,-⟩:=S4.cell 3 (by decide)
    obtain⟨e4,-⟩:=S4.cell 4 (by decide)
    obtain⟨e5,-⟩:=S4.cell 5 (by decide)
    replace e3:w4.cell? ⟨x,3,none⟩=some (.bool S.tt.o):=e3
    replace e4:w4.cell? ⟨x,4,none⟩=some (.int .i64 (S.tt.k:Nat)):=e4
    replace e5:w4.cell? ⟨x,5,none⟩=some (.int .i64 (S.tt.i:Nat)):=e5
    generalize clK K3=K4 at *
    obtain⟨f,hf,back⟩:=QB.front k4.core
    have HFB:=hyd hf
    have HBK:=hyd back
    have HK4:=hyd k4
    have HS4:=hyd S4
    have HG4:=hyd (HG3.out.trans g4)
    clear hbl hcl k4 g4 S4 hf back HK3 HS3 HG3
    go_wp2_with (refine Front.wpList_store_front rfl (.tmp 54) (.tmp 52) rfl A.c 79 rfl S.tt rfl HFB.out ?_)
    intro w5 F5 G5
    have K5:=HK4.out.setFr (HBK.out w5 _ F5) G5 HOK.out
    have hst:=set_k A w5 _ K5 (S.tt.k:Nat) 1
    have HS5:=hyd (HS4.out.chg (Chg.cor_c (A:=A) G5) HNX.out)
    have HG5:=hyd (HG4.out.trans (Chg.cor_c G5))
    clear F5 G5 K5 e3 e4 e5 HFB HBK HK4 HS4 HG4
    go_wp2_with fail
    refine hst.mono ?_
    rintro e w6 ⟨rfl,k6,g6⟩
    generalize stK { K4 with fr:=S.tt } S.tt.k 1=K6 at *
    have S6:=HS5.out.chg g6 HNX.out
    obtain⟨e6,-⟩:=S6.cell 6 (by decide)
    replace e6:w6.cell? ⟨x,6,none⟩=some (.slice a m cap):=e6
    obtain⟨c100,f100⟩:=k6.cMv
    have hwr:IntKind.i64.wrap (K6.mv+(m:Int))=wrap64 (K6.mv+(m:Int)):=by rw[IntKind.wrap_i64];unfold wrap64;rfl
    have HK6:=hyd k6
    have HG6:=hyd (HG5.out.trans g6)
    clear hst k6 g6 S6 HS5 HG5
    generalize wrap64 (K6.mv+(m:Int))=zz at *
    go_wp2_with fail
    go_region
    all_goals
     go_wp2
     go_ret
     rw[HF3.out]
     exact⟨rfl,(HK6.out.setMv zz).drewN 1,(HG6.out.trans (Chg.cor_c ((Chg.refl (·=A.c) _).setCell (Or.inl rfl) _ _))).drewN 1⟩
end Go.Proofs.YtbhbilcieodbhaaGreat
/-
  What counts in a block is copied. Condition: core and move lie in memory; no tag is laid yet.
-/
namespace Go.Proofs.YtbhbilcieodbhaaGreat
set_option maxRecDepth 100000
open Go.RowKit
theorem build123t (w:World) (x y z u:Int) (l:Bool):(Instr.build 127 #[(0,.int .i64 x),(1,.int .i64 y),(2,.int .i64 z),(3,.int .i64 u),(4,.bool l)]).run Tryz.prog w=.ok (.agg #[.int .i64 x,.int .i64 y,.int .i64 z,.int .i64 u,.bool l]) w:=by kernel_rfl
theorem zero89 (w:World):(zeroValue 114).run Tryz.prog w=.ok (.agg #[.int .i64 0,.int .i64 0]) w:=by kernel_rfl
theorem Tgs.nil:Tgs []:=fun _ h=>by cases h
theorem Ow.at_ {w:World} {base:Nat} {a:Option Addr} {n cap:Nat} {l:List Int} (h:Pmap.Ow w base (.slice a n cap) l) {i:Nat} {z:Int} (hi:l[i]?=some z):∃ g,a=some ⟨g,0,none⟩/\w.cell? ⟨g,i,none⟩=some (.int .i64 z)/\base<=g:=by
 have hcl:=fun g hg=>World.ownsRow.cells (g:=g) h hg
 have hlt:=(List.getElem?_eq_some_iff.1 hi).1
 rcases h.2 with ⟨_,e⟩ | ⟨g,cap',cur,hv,hg,_⟩
 ·
  omega
 ·
  have ea:a=some ⟨g,0,none⟩:=by
   simp only[Value.slice.injEq] at hv
   exact hv.1
  refine⟨g,ea,?_,hg⟩
  have:=hcl g (by rw[hv];rfl) i (.int .i64 z) (by rw[List.getElem?_map,hi];rfl)
  rw[Addr.add_mid,Nat.zero_add] at this
  exact this
theorem Ow.len {w:World} {base:Nat} {a:Option Addr} {n cap:Nat} {l:List Int} (h:Pmap.Ow w base (.slice a n cap) l) (hn:n=l.length):n<=cap:=by
 rcases h.2 with ⟨_,e⟩ | ⟨g,cap',cur,hv,hg,_,hc,_⟩
 ·
  omega
 ·
  simp only[Value.slice.injEq] at hv
  omega
theorem ShAt.setLd {w:World} {x:Nat} {S:Shf} {v:Value} (h:ShAt w x S v) (v':Value) (l:List Tgg):ShAt (w.setCell ⟨x,6,none⟩ v') x { S with ld:=l } v':=by
 refine Sto.ext (Sto.setCells [v'] 6 h) fun i hi=>?_
 rw[upL_one]
 have:i=0\/i=1\/i=2\/i=3\/i=4\/i=5\/i=6:=by omega
 rcases this with rfl | rfl | rfl | rfl | rfl | rfl | rfl <;> rfl
def cp3 (bd:Bool) (r:List Nat) (Y:Kor × List Nat × Bool × Nat) (t:Kor × Shf × Nat × Nat) (o:Nat):Kor × Shf × Nat:=
 if (prM t.1 ⟨t.2.2.1,o,t.1.vs o,(t.1.vc o+1) % 256,Y.2.2.1⟩ Y.2.1).2≠0 then ((prM t.1 ⟨t.2.2.1,o,t.1.vs o,(t.1.vc o+1) % 256,Y.2.2.1⟩ Y.2.1).1,t.2.1,(prM t.1 ⟨t.2.2.1,o,t.1.vs o,(t.1.vc o+1) % 256,Y.2.2.1⟩ Y.2.1).2) else cpK bd r (prM t.1 ⟨t.2.2.1,o,t.1.vs o,(t.1.vc o+1) % 256,Y.2.2.1⟩ Y.2.1).1 { t.2.1 with ld:=t.2.1.ld ++ [⟨t.2.2.1,o,t.1.vs o,(t.1.vc o+1) % 256,Y.2.2.1⟩] }
def cp2 (bd:Bool) (r:List Nat) (Y:Kor × List Nat × Bool × Nat) (S:Shf) (o:Nat):Kor × Shf × Nat:=
 if (tiK Y.1 S o).2.2.2≠0 then ((tiK Y.1 S o).1,(tiK Y.1 S o).2.1,(tiK Y.1 S o).2.2.2) else cp3 bd r Y (tiK Y.1 S o) o
theorem cpK_cons (bd:Bool) (r:List Nat) (K:Kor) (S:Shf) (o:Nat) (h:¬ (bd=true/\o=24)):cpK bd (o :: r) K S=if (coK K o).2.2.2≠0 then ((coK K o).1,S,(coK K o).2.2.2) else cp2 bd r (coK K o) S o:=by
 rw[cpK,if_neg h]
 rfl
structure Cpi (A:Ad) (K:Kor) (S:Shf) (x n:Nat) (bd:Bool) (r:List Nat) (Z:Kor × Shf × Nat) (v0:Value) (l0:List Int) (w1 wr:World) (i:Nat) (Ki:Kor) (Si:Shf) (v:Value):Prop where
 eq:cpK bd r Ki Si=Z
 core:CoreAt A wr Ki
 sh:ShAt wr x Si v
 lad:Lad wr w1.heap.size v Si.ld
 ok:Front.Okf Si.tt
 kep:Kep K Ki
 sm:Sm S Si
 tgs:Tgs Si.ld
 len:Si.ld.length<=i
 inn:Pmap.Ow wr n v0 l0
 chg:Chg (fun k=>Mvs A x k\/w1.heap.size<=k) w1 wr
theorem Cpi.out {A:Ad} {K:Kor} {S:Shf} {x n:Nat} {bd:Bool} {r:List Nat} {Z:Kor × Shf × Nat} {v0:Value} {l0:List Int} {w w1 wr:World} {i:Nat} {Ki:Kor} {Si:Shf} {v:Value} (h:Cpi A K S x n bd r Z v0 l0 w1 wr i Ki Si v) (hw:Chg (fun _=>False) w w1) (hi:i<=8) (hr:(Ki,Si)=(Z.1,Z.2.1)) :
 CoreAt A wr Z.1/\ShAt wr x Z.2.1 v/\Lad wr w.heap.size v Z.2.1.ld/\Front.Okf Z.2.1.tt/\Sm S Z.2.1/\Tgs Z.2.1.ld/\Z.2.1.ld.length<=8/\Kep K Z.1/\Chg (Mvs A x) w wr:=by
 obtain⟨h1,h2⟩:=Prod.mk.inj hr
 subst h1 h2
 exact⟨h.core,h.sh,h.lad.lower hw.size,h.ok,h.sm,h.tgs,Nat.le_trans h.len hi,h.kep,(hw.mono (fun _ _ f=>f.elim)).trans' h.chg (fun k hk e=>e.elim id (fun e=>by have:=hw.size;omega))⟩
set_option maxHeartbeats 4000000 in
theorem copy_k (A:Ad) (w:World) (K:Kor) (h:CoreAt A w K) (x:Nat) (S:Shf) (hS:ShAt w x S (.slice none 0 0)) (ok:Front.Okf S.tt) (hfm:S.fm<12) (hld:S.ld=[]) (bd:Bool) (Z:Kor × Shf × Nat) (hZ:cpK bd ((Pmap.ofL K.L S.fm).map Int.toNat) K S=Z) :
 Calls Tryz.prog 189 #[.pointer (some ⟨A.c,0,none⟩),.pointer (some ⟨x,0,none⟩),.bool bd] w fun e w'=>∃ v,e=.returned (errV Z.2.2)/\CoreAt A w' Z.1/\ShAt w' x Z.2.1 v/\Lad w' w.heap.size v Z.2.1.ld/\Front.Okf Z.2.1.tt/\Sm S Z.2.1/\Tgs Z.2.1.ld/\Z.2.1.ld.length<=8/\Kep K Z.1/\Chg (Mvs A x) w w':=by
 obtain⟨c2,-⟩:=h.cMap
 obtain⟨d0,-⟩:=hS.cell 0 (by decide)
 replace d0:w.cell? ⟨x,0,none⟩=some (.int .i64 (S.fm:Nat)):=d0
 have q:=neq_er
 have g:=guard_neq
 have HK:=hyd h
 have HS:=hyd hS
 have HOK:=hyd ok
 have HFM:=hyd hfm
 have HLD:=hyd hld
 have HZ:=hyd hZ
 have HLOW:=hyd h.low
 have hxl:=hS.lt
 clear h hS ok hfm hld hZ
 go_enter Tryz.func189,Tryz.ntmps189
 go_wp2_with fail
 go_region_held3 (fun wx=>wx.cell? ⟨A.c,2,none⟩=some (.pointer (some ⟨A.ma,0,none⟩))/\wx.cell? ⟨x,0,none⟩=some (.int .i64 (S.fm:Nat)))
  (first | exact⟨c2,d0⟩ | exact⟨z2,y0⟩)
  (first | (go_at_call 146;refine(Pmap.of_yes _ A.ma K.L (HK.out.drewN 1).map S.fm HFM.out).mono ?_;rintro e w1 ⟨⟨a,cap,rfl,hO⟩,g1⟩;have K1:=(HK.out.drewN 1).chg0 g1;have S1:=(HS.out.chg (Chg.refl (fun _=>False) w).drew (fun f=>f)).chg g1 (fun f=>f);obtain⟨z2,-⟩:=K1.cMap;have y0:w1.cell? ⟨x,0,none⟩=some (.int .i64 (S.fm:Nat)):=(S1.cell 0 (by decide)).1;have HK1:=hyd K1;have HS1:=hyd S1;have HO1:=hyd hO;have HG1:=hyd ((Chg.refl (fun _=>False) w).drew.trans g1);clear K1 S1 hO g1))
 all_goals
  have hs1:=HG1.out.size
  have HO2:Hid (Pmap.Ow w1 w.heap.size (.slice a (Pmap.ofL K.L S.fm).length cap) (Pmap.ofL K.L S.fm)):=HO1.out
  have HL8:Hid ((Pmap.ofL K.L S.fm).length<=8):=Pmap.ofK_length K.L S.fm 8
  have HMEM:Hid (∀ z ∈ Pmap.ofL K.L S.fm,∃ o:Nat,o<25/\z=o/\K.L o≠-1):=fun z hz=>of_mem hz
  clear c2 d0 z2 y0 HO1 HK
  obtain⟨n,HN⟩:∃ n,Hid (n=(Pmap.ofL K.L S.fm).length):=⟨_,rfl⟩
  generalize Pmap.ofL K.L S.fm=l at *
  rw[<-HN.out] at HO2 HL8 ⊢
  have q0:∀ w,(binOp .neq 33 (errV 0) .nilIface).run Tryz.prog w=.ok (.bool false) w:=fun w=>q 0 w
  have hn8:n<=8:=HL8.out
  have HCAP:=hyd (Ow.len HO2.out HN.out)
  go_wp2_with fail
  go_loopg [35] n (fun kx s35 wr=>∃ i:Nat,s35=.int .i64 i/\i<=n/\n - i<=kx/\∃ Ki Si v,Hid (Cpi A K S x w.heap.size bd ((l.map Int.toNat).drop i) Z (.slice a n cap) l w1 wr i Ki Si v))
  case atStart=>exact⟨0,rfl,by omega,by omega,K,S,_,⟨HZ.out,HK1.out,HS1.out,by rw[HLD.out];exact Lad.nil _ _,HOK.out,Kep.refl K,⟨rfl,rfl,rfl⟩,by rw[HLD.out];exact Tgs.nil,by rw[HLD.out];exact Nat.le_refl 0,HO2.out,Chg.refl _ _⟩⟩
  case round=>
   obtain⟨i,rfl,hin,hkx,Ki,Si,v,HI⟩:=hrel
   by_cases hlt:i<n
   ·
    have hltz:(i:Int)<(n:Int):=by omega
    obtain⟨z,hz⟩:∃ z,l[i]?=some z:=⟨_,List.getElem?_eq_getElem (by have:=HN.out;omega)⟩
    obtain⟨o,ho,rfl,hlo⟩:=HMEM.out z (List.mem_of_getElem? hz)
    obtain⟨gi,rfl,ci,hgi⟩:=Ow.at_ HI.out.inn hz
    have HDR:Hid ((l.map Int.toNat).drop i=o :: (l.map Int.toNat).drop (i+1)):=by
     show (l.map Int.toNat).drop i=o :: (l.map Int.toNat).drop (i+1)
     rw[List.drop_eq_getElem_cons (by rw[List.length_map];have:=HN.out;omega)]
     congr 1
     rw[List.getElem_map]
     have:=(List.getElem?_eq_some_iff.1 hz).2
     rw[this];rfl
    have hHO:=hyd ho
    have HLO:=hyd hlo
    clear hz ho hlo
    by_cases hsk:bd=true/\o=24
    ·
     obtain⟨rfl,rfl⟩:=hsk
     have HI2:Hid (Cpi A K S x w.heap.size true ((l.map Int.toNat).drop (i+1)) Z (.slice (some ⟨gi,0,none⟩) n cap) l w1 wr (i+1) Ki Si v):=by
      have e:=HI.out.eq
      rw[HDR.out,cpK,if_pos ⟨rfl,rfl⟩] at e
      exact⟨e,HI.out.core,HI.out.sh,HI.out.lad,HI.out.ok,HI.out.kep,HI.out.sm,HI.out.tgs,Nat.le_succ_of_le HI.out.len,HI.out.inn,HI.out.chg⟩
     clear HI HDR
     go_wp2
     go_roundg (n - (i+1))
     case measure=>omega
     case rel=>exact⟨i+1,by simp,by omega,Nat.le_refl _,Ki,Si,v,HI2.out⟩
    ·
     have HEQ:Hid ((if (coK Ki o).2.2.2≠0 then ((coK Ki o).1,Si,(coK Ki o).2.2.2) else cp2 bd ((l.map Int.toNat).drop (i+1)) (coK Ki o) Si o)=Z):=by
      have e:=HI.out.eq
      rw[HDR.out,cpK_cons _ _ _ _ _ hsk] at e
      exact e
     have hs2:bd=false\/(bd=true/\(((o:Nat):Int) == 24)=false):=by
      cases bd
      ·
       exact Or.inl rfl
      ·
       right
       refine⟨rfl,?_⟩
       have:¬ o=24:=fun e=>hsk ⟨rfl,e⟩
       simp;omega
     have hco:=content_k A wr Ki HI.out.core o hHO.out
     have HYK:=hyd (coK_kp Ki o)
     generalize coK Ki o=Y at *
     clear hsk
     rcases hs2 with rfl | ⟨rfl,hoz⟩
     all_goals
      go_wp2_with fail
      refine hco.mono ?_
      rintro e w2 ⟨vd,rfl,hD,k2,g2⟩
      have HD:=hyd hD
      have HK2:=hyd k2
      have HS2:=hyd (HI.out.sh.chg g2 (HI.out.core.apartSh HI.out.sh))
      have HL2:=hyd (HI.out.lad.chg g2 (HI.out.lad.noCor HI.out.core))
      have HO3:=hyd (HI.out.inn.chg g2 (fun k hk e f=>by have:=(HI.out.inn.block e).1;have:=HLOW.out _ (Or.inl f);omega))
      have HG2:=hyd (HI.out.chg.trans (g2.mono (fun _ _ e=>Or.inl (Or.inl e))))
      have HKP2:=hyd (HI.out.kep.trans HYK.out)
      have hsr:=g2.size
      clear hco hD k2 g2
      by_cases hy:Y.2.2.2=0
      ·
       have HE2:=HEQ.out
       rw[if_neg (by rw[hy];simp)] at HE2
       unfold cp2 at HE2
       have HE3:=hyd HE2
       have HY:=hyd hy
       have hti:=takeIn_k A w2 Y.1 HK2.out x Si v HS2.out HI.out.ok o
       have HPL:=hyd (tiK_place Y.1 Si o HK2.out.wf HI.out.ok)
       have HTK:=hyd (tiK_kp Y.1 Si o)
       have HTS:=hyd (tiK_sm Y.1 Si o)
       generalize tiK Y.1 Si o=t at *
       rw[hy]
       clear hy HE2 HEQ
       go_wp2_with fail
       refine hti.mono ?_
       rintro e w3 ⟨rfl,k3,s3,ok3,g3⟩
       have HK3:=hyd k3
       have HS3:=hyd s3
       have HOK3:=hyd ok3
       have HL3:=hyd (HL2.out.chg g3 (fun k hk e=>e.elim (HL2.out.noCor HK2.out k hk) (HL2.out.noSh HS2.out k hk)))
       have HO4:=hyd (HO3.out.chg g3 (fun k hk e f=>by have:=(HI.out.inn.block e).1;exact f.elim (fun f=>by have:=HLOW.out _ (Or.inl f);omega) (fun f=>by omega)))
       have HG3:=hyd (HG2.out.trans (g3.mono (fun _ _ e=>Or.inl e)))
       have HKP3:=hyd (HKP2.out.trans HTK.out)
       have HM3:=hyd g3
       have hsr3:=g3.size
       clear hti k3 s3 ok3 g3
       by_cases ht:t.2.2.2=0
       ·
        have HE5:=HE3.out
        rw[if_neg (by rw[ht];simp)] at HE5
        unfold cp3 at HE5
        have HE6:=hyd HE5
        have HPL2:=hyd (HPL.out ht)
        obtain⟨gd,capd,rfl,hgd,hA,hDl,hDb⟩:=HD.out HY.out
        obtain⟨cs,-⟩:=HK3.out.cVs o hHO.out
        obtain⟨cc,-⟩:=HK3.out.cVc o hHO.out
        have hvc:=HK3.out.wf.vc o hHO.out
        have HTG:Hid (o<25/\(1<=t.1.vs o/\t.1.vs o<=1099511627775)/\(t.1.vc o+1) % 256<256):=⟨hHO.out,⟨HK3.out.wf.vp o hHO.out (by rw[HKP3.out.1];exact HLO.out),HK3.out.wf.vs o hHO.out⟩,Nat.mod_lt _ (by decide)⟩
        have hoz2:((o:Nat):Int)<25:=by have:=hHO.out;omega
        have hbt:=build123t
        have hzt:=zero123
        have hz89:=zero89
        have hrem:IntKind.i64.wrap (((t.1.vc o:Nat):Int)+1)=((t.1.vc o+1:Nat):Int):=by rw[IntKind.wrap_i64];omega
        have hrem2:(((t.1.vc o+1:Nat):Int)).tmod 256=(((t.1.vc o+1) % 256:Nat):Int):=by rw[Int.tmod_eq_emod_of_nonneg (by omega)];omega
        have HA:=hyd hA
        have HDL:=hyd hDl
        have HDB:=hyd hDb
        have HGD:=hyd hgd
        rw[ht]
        clear ht HE3 HE5 HD hA hDl hDb HPL hgd
        generalize (t.1.vc o+1) % 256=cc1 at *
        generalize t.1.vc o+1=cc0 at *
        go_wp2_with fail
        obtain⟨w4,hw4⟩:∃ w4,w4=((w3.alloc (.cells #[.int .i64 (t.1.vs o:Nat),.int .i64 (t.1.vc o:Nat)] 114)).alloc (.cells #[.int .i64 (t.2.2.1:Nat),.int .i64 (o:Nat),.int .i64 (t.1.vs o:Nat),.int .i64 (cc1:Nat),.bool Y.2.2.1] 127)):=⟨_,rfl⟩
        rw[<-hw4]
        have GA:Chg (fun _=>False) w3 w4:=by rw[hw4];exact((Chg.refl _ w3).alloc _).alloc _
        have T4:Tg w4 (w3.heap.size+1) (t.2.2.1:Nat) (o:Nat) (t.1.vs o:Nat) (cc1:Nat) Y.2.2.1:=by
         rw[hw4]
         have e:=Tg.new (w3.alloc (.cells #[.int .i64 (t.1.vs o:Nat),.int .i64 (t.1.vc o:Nat)] 114)) (t.2.2.1:Nat) (o:Nat) (t.1.vs o:Nat) (cc1:Nat) Y.2.2.1
         rw[show (w3.alloc (.cells #[.int .i64 (t.1.vs o:Nat),.int .i64 (t.1.vc o:Nat)] 114)).heap.size=w3.heap.size+1 by simp] at e
         exact e
        have hsw:=HI.out.chg.size
        have hnc:¬ Cor A gd:=fun e=>by have:=HLOW.out _ (Or.inl e);have:=HGD.out;omega
        have hnx:¬ gd=x:=fun e=>by have:=HGD.out;omega
        have hnt:¬ Cor A (w3.heap.size+1):=fun e=>by have:=HLOW.out _ (Or.inl e);omega
        have hpr:=progM_k A w4 t.1 (HK3.out.chg0 GA) ⟨t.2.2.1,o,t.1.vs o,cc1,Y.2.2.1⟩ HPL2.out.1 HPL2.out.2 HTG.out gd 0 capd Y.2.1 HDL.out HDB.out ((HA.out.chg HM3.out (fun e=>e.elim hnc hnx)).chg GA (fun f=>f)) hnc
        have HPK:=hyd (prM_kp t.1 ⟨t.2.2.1,o,t.1.vs o,cc1,Y.2.2.1⟩ Y.2.1)
        generalize prM t.1 ⟨t.2.2.1,o,t.1.vs o,cc1,Y.2.2.1⟩ Y.2.1=P at *
        refine hpr.mono ?_
        rintro e w5 ⟨rfl,k5,g5⟩
        have HK5:=hyd k5
        have HS5:=hyd ((HS3.out.chg GA (fun f=>f)).chg g5 ((HK3.out.chg0 GA).apartSh (HS3.out.chg GA (fun f=>f))))
        have HL5:Hid (Lad w5 w1.heap.size v t.2.1.ld):=by
         show Lad w5 w1.heap.size v t.2.1.ld
         rw[HTS.out.2]
         exact(HL3.out.new GA).chg g5 ((HL3.out.new GA).noCor (HK3.out.chg0 GA))
        have HO5:=hyd ((HO4.out.new GA).chg g5 (fun k hk e f=>by have:=(HI.out.inn.block e).1;have:=HLOW.out _ (Or.inl f);omega))
        have T5:=T4.chg g5 hnt
        have HG5:=hyd ((HG3.out.trans (GA.mono (fun _ _ f=>f.elim))).trans (g5.mono (fun _ _ e=>Or.inl (Or.inl e))))
        have HKP5:=hyd (HKP3.out.trans HPK.out)
        have hsr4:=GA.size
        have hsr5:=g5.size
        clear hw4 hpr k5 g5 GA T4 cs cc hrem hrem2 hvc hnc hnx hnt hbt hzt hz89
        by_cases hp:P.2=0
        ·
         have HE7:=HE6.out
         rw[if_neg (by rw[hp];simp)] at HE7
         have HE8:=hyd HE7
         obtain⟨d6,f6⟩:=HS5.out.cell 6 (by decide)
         replace d6:w5.cell? ⟨x,6,none⟩=some v:=d6
         obtain⟨u0,u1,u2,u3,u4⟩:=T5.cells
         have d6b:(w5.alloc (.cells #[.int .i64 (t.2.2.1:Nat),.int .i64 (o:Nat),.int .i64 (t.1.vs o:Nat),.int .i64 (cc1:Nat),.bool Y.2.2.1] 127)).cell? ⟨x,6,none⟩=some v:=(World.cell?_alloc_some _ _ _ (by rw[d6];rfl)).trans d6
         have G6:Chg (fun _=>False) w5 ((w5.alloc (.cells #[.int .i64 (t.2.2.1:Nat),.int .i64 (o:Nat),.int .i64 (t.1.vs o:Nat),.int .i64 (cc1:Nat),.bool Y.2.2.1] 127)).drew):=((Chg.refl (fun _=>False) w5).alloc _).drew
         have HL6:=hyd (HL5.out.new G6)
         have HT6:Hid (Tg (w5.alloc (.cells #[.int .i64 (t.2.2.1:Nat),.int .i64 (o:Nat),.int .i64 (t.1.vs o:Nat),.int .i64 (cc1:Nat),.bool Y.2.2.1] 127)).drew w5.heap.size (t.2.2.1:Nat) (o:Nat) (t.1.vs o:Nat) (cc1:Nat) Y.2.2.1):=(Tg.new w5 (t.2.2.1:Nat) (o:Nat) (t.1.vs o:Nat) (cc1:Nat) Y.2.2.1)
         have HG6:=hyd G6
         have hlen:t.2.1.ld.length<=1048576:=by rw[HTS.out.2];exact Nat.le_trans HI.out.len (by omega)
         have HLEN:=hyd hlen
         have HBASE:Hid (w1.heap.size<=(w5.alloc (.cells #[.int .i64 (t.2.2.1:Nat),.int .i64 (o:Nat),.int .i64 (t.1.vs o:Nat),.int .i64 (cc1:Nat),.bool Y.2.2.1] 127)).drew.heap.size):=Nat.le_trans (show w1.heap.size<=w5.heap.size by omega) G6.size
         have HVO:Hid (∀ k,v.ownBlock=some k->¬ k=x):=HL5.out.noSh HS5.out
         have HVC:Hid (∀ k,v.ownBlock=some k->Ty w5 k 127/\w1.heap.size<=k/\k<w5.heap.size):=fun k hk=>HL5.out.ty hk
         have HP:=hyd hp
         rw[hp]
         clear hp HE7 HE6 G6 hlen T5
         generalize t.1.vs o=vs1 at *
         generalize t.2.2.1=pl at *
         generalize Y.2.2.1=lo at *
         go_wp2_with fail
         go_region_law (refine step_append_tag _ rfl (.tmp 91) (.tmp 93) rfl w1.heap.size v t.2.1.ld (by simp[Act.eval]) HL6.out w5.heap.size 1 ⟨pl,o,vs1,cc1,lo⟩ (by simp[Act.eval]) HT6.out HLEN.out HBASE.out ?_;intro g6 cap6 w6 hL hC;have S6:=(HS5.out.chg HG6.out (fun f=>f)).chg hC (fun e=>HVO.out _ e rfl);obtain⟨d7,f7⟩:=S6.cell 6 (by decide);have HL7:=hyd hL;have HC7:=hyd hC;have HS7:=hyd S6;clear hL hC S6)
         all_goals
          have GX:Chg (·=x) w6 (w6.setCell ⟨x,6,none⟩ (.slice (some ⟨g6,0,none⟩) (t.2.1.ld.length+1) cap6)):=(Chg.refl (·=x) w6).setCell (Or.inl rfl) _ _
          have HX:=hyd GX
          have HI2:=hyd (Cpi.mk (A:=A) (K:=K) (S:=S) (n:=w.heap.size) (v0:=.slice (some ⟨gi,0,none⟩) n cap) (l0:=l) (w1:=w1) (i:=i+1) HE8.out (((HK5.out.chg0 HG6.out).offTy (fun k _ e=>Or.inr (HL6.out.ty e).1) HC7.out).offSh HS7.out HX.out) (HS7.out.setLd _ _) (HL7.out.chg HX.out (HL7.out.noSh HS7.out)) HOK3.out HKP5.out ⟨HTS.out.1.1.trans HI.out.sm.1,HTS.out.1.2.1.trans HI.out.sm.2.1,HTS.out.1.2.2.trans HI.out.sm.2.2⟩
           (by show Tgs (t.2.1.ld ++ [_]);rw[HTS.out.2];exact HI.out.tgs.app HTG.out)
           (by show (t.2.1.ld ++ [_]).length<=i+1;rw[HTS.out.2,List.length_append];exact Nat.succ_le_succ HI.out.len)
           (((HO5.out.new HG6.out).chg HC7.out (fun k hk e f=>by have:=(HO2.out.block e).2;have:=(HVC.out k f).2.1;omega)).chg HX.out (fun k hk e f=>by have:=(HO2.out.block e).1;omega))
           (((HG5.out.trans (HG6.out.mono (fun _ _ f=>f.elim))).trans (HC7.out.mono (fun k _ e=>Or.inr (HVC.out k e).2.1))).trans (HX.out.mono (fun _ _ e=>Or.inl (Or.inr e)))))
          clear GX HX HE8 HK5 HL6 HC7 HS7 HL7 HI HO5 HG5 HG6
          go_wp2
          go_roundg (n - (i+1))
          case measure=>omega
          case rel=>exact⟨i+1,by simp,by omega,Nat.le_refl _,_,_,_,HI2.out⟩
        ·
         replace q:∀ w,(binOp .neq 33 (errV P.2) .nilIface).run Tryz.prog w=.ok (.bool true) w:=fun w=>by rw[q,decide_eq_false hp];rfl
         have HE9:=HE6.out
         rw[if_pos hp] at HE9
         have HE4:=hyd HE9
         clear HE6 HE9 hp
         generalize P.2=p2 at *
         go_wp2
         go_ret
         rw[<-HE4.out]
         exact⟨v,rfl,HK5.out,HS5.out,HL5.out.lower (by omega),HOK3.out,⟨HTS.out.1.1.trans HI.out.sm.1,HTS.out.1.2.1.trans HI.out.sm.2.1,HTS.out.1.2.2.trans HI.out.sm.2.2⟩,by rw[HTS.out.2];exact HI.out.tgs,by rw[HTS.out.2];exact Nat.le_trans HI.out.len (by omega),HKP5.out,(HG1.out.mono (fun _ _ f=>f.elim)).trans' HG5.out (fun k hk e=>e.elim id (fun e=>by omega))⟩
       ·
        replace q:∀ w,(binOp .neq 33 (errV t.2.2.2) .nilIface).run Tryz.prog w=.ok (.bool true) w:=fun w=>by rw[q,decide_eq_false ht];rfl
        have HE4:Hid ((t.1,t.2.1,t.2.2.2)=Z):=by
         have e:=HE3.out
         rw[if_pos ht] at e
         exact e
        clear HE3
        generalize t.2.2.2=t2 at *
        go_wp2
        go_ret
        rw[<-HE4.out]
        exact⟨v,rfl,HK3.out,HS3.out,by rw[HTS.out.2];exact HL3.out.lower (by omega),HOK3.out,⟨HTS.out.1.1.trans HI.out.sm.1,HTS.out.1.2.1.trans HI.out.sm.2.1,HTS.out.1.2.2.trans HI.out.sm.2.2⟩,by rw[HTS.out.2];exact HI.out.tgs,by rw[HTS.out.2];exact Nat.le_trans HI.out.len (by omega),HKP3.out,(HG1.out.mono (fun _ _ f=>f.elim)).trans' HG3.out (fun k hk e=>e.elim id (fun e=>by omega))⟩
      ·
       replace q:∀ w,(binOp .neq 33 (errV Y.2.2.2) .nilIface).run Tryz.prog w=.ok (.bool true) w:=fun w=>by rw[q,decide_eq_false hy];rfl
       have HE4:Hid ((Y.1,Si,Y.2.2.2)=Z):=by
        have e:=HEQ.out
        rw[if_pos hy] at e
        exact e
       clear HEQ hy
       generalize Y.2.2.2=y2 at *
       go_wp2
       go_ret
       rw[<-HE4.out]
       exact⟨v,rfl,HK2.out,HS2.out,HL2.out.lower (by omega),HI.out.ok,HI.out.sm,HI.out.tgs,by exact Nat.le_trans HI.out.len (by omega),HKP2.out,(HG1.out.mono (fun _ _ f=>f.elim)).trans' HG2.out (fun k hk e=>e.elim id (fun e=>by omega))⟩
   ·
    have hltz:¬ (i:Int)<(n:Int):=by omega
    have e:cpK bd ((l.map Int.toNat).drop i) Ki Si=(Ki,Si,0):=by
     rw[List.drop_eq_nil_of_le (by rw[List.length_map];have:=HN.out;omega)]
     rfl
    have HE:Hid ((Ki,Si,0)=Z):=e.symm.trans HI.out.eq
    clear e
    go_wp2
    go_ret
    obtain⟨r1,r2⟩:=HI.out.out HG1.out (by omega) (by rw[<-HE.out])
    exact⟨by rw[<-HE.out];rfl,r1,v,r2⟩
end Go.Proofs.YtbhbilcieodbhaaGreat
/-
  A move is ended by a checkpoint that tells its block as bad. Condition: core and move lie in memory.
-/
namespace Go.Proofs.YtbhbilcieodbhaaGreat
set_option maxRecDepth 100000
open Go.RowKit
theorem frK_eq (H:Hol) (K:Kor) (p o:Nat):frK H K p o=if K.sp then (K,tg0,14) else if (prK (sqK K) ⟨p,o,K.nx,0,false⟩ (H (sqK K) K.nx)).2≠0 then ((prK (sqK K) ⟨p,o,K.nx,0,false⟩ (H (sqK K) K.nx)).1,tg0,(prK (sqK K) ⟨p,o,K.nx,0,false⟩ (H (sqK K) K.nx)).2) else (if o=24 then ntK (prK (sqK K) ⟨p,o,K.nx,0,false⟩ (H (sqK K) K.nx)).1 else (prK (sqK K) ⟨p,o,K.nx,0,false⟩ (H (sqK K) K.nx)).1,⟨p,o,K.nx,0,false⟩,0):=rfl
theorem frK_tag (H:Hol) (K:Kor) (p o:Nat) (h:(frK H K p o).2.2=0):(frK H K p o).2.1=⟨p,o,K.nx,0,false⟩:=by
 rw[frK_eq] at h ⊢
 generalize prK (sqK K) ⟨p,o,K.nx,0,false⟩ (H (sqK K) K.nx)=z at h ⊢
 cases hs:K.sp
 ·
  rw[hs,if_neg (by decide)] at h
  rw[if_neg (by decide)]
  by_cases hz:z.2=0
  ·
   rw[if_neg (by rw[hz];simp)]
  ·
   rw[if_pos hz] at h
   exact absurd h hz
 ·
  rw[hs,if_pos rfl] at h
  cases h
def cb2 (t:Kor × Shf × Nat × Nat) (fm:Nat):Kor × Shf × Nat:=
 if (frK (bdH fm) t.1 t.2.2.1 24).2.2≠0 then ((frK (bdH fm) t.1 t.2.2.1 24).1,t.2.1,(frK (bdH fm) t.1 t.2.2.1 24).2.2) else
 ((cmK (frK (bdH fm) t.1 t.2.2.1 24).1 { t.2.1 with ld:=t.2.1.ld ++ [(frK (bdH fm) t.1 t.2.2.1 24).2.1] } 3).1,{ t.2.1 with ld:=t.2.1.ld ++ [(frK (bdH fm) t.1 t.2.2.1 24).2.1] },(cmK (frK (bdH fm) t.1 t.2.2.1 24).1 { t.2.1 with ld:=t.2.1.ld ++ [(frK (bdH fm) t.1 t.2.2.1 24).2.1] } 3).2)
theorem cbK_eq (K:Kor) (S:Shf):cbK K S=if (tiK K S 24).2.2.2≠0 then ((tiK K S 24).1,(tiK K S 24).2.1,(tiK K S 24).2.2.2) else cb2 (tiK K S 24) S.fm:=rfl
set_option maxHeartbeats 4000000 in
theorem commitBad_k (A:Ad) (w:World) (K:Kor) (h:CoreAt A w K) (x n:Nat) (S:Shf) (v:Value) (hS:ShAt w x S v) (hL:Lad w n v S.ld) (hn:n<=w.heap.size) (ok:Front.Okf S.tt) (hfm:S.fm<12) (hT:Tgs S.ld) (hlen:S.ld.length<=1000) (Z:Kor × Shf × Nat) (hZ:cbK K S=Z) :
 Calls Tryz.prog 190 #[.pointer (some ⟨A.c,0,none⟩),.pointer (some ⟨x,0,none⟩)] w fun e w'=>∃ v',e=.returned (errV Z.2.2)/\CoreAt A w' Z.1/\ShAt w' x Z.2.1 v'/\Lad w' n v' Z.2.1.ld/\Front.Okf Z.2.1.tt/\Sm S Z.2.1/\Chg (fun k=>Mvs A x k\/n<=k) w w':=by
 have G0:Chg (fun _=>False) w (w.alloc (.cells #[.pointer (some ⟨x,0,none⟩)] 160)):=(Chg.refl _ w).alloc _
 have K0:=h.chg0 G0
 have S0:=hS.chg G0 (fun f=>f)
 have L0:=hL.new G0
 have hti:=takeIn_k A _ K K0 x S v S0 ok 24
 have HPL:=hyd (tiK_place K S 24 h.wf ok)
 have HTK:=hyd (tiK_kp K S 24)
 have HTS:=hyd (tiK_sm K S 24)
 have HLOW:=hyd h.low
 have hxl:=hS.lt
 have hB0:(w.alloc (.cells #[.pointer (some ⟨x,0,none⟩)] 160)).cell? ⟨w.heap.size,0,none⟩=some (.pointer (some ⟨x,0,none⟩)):=by
  have h1:(w.alloc (.cells #[.pointer (some ⟨x,0,none⟩)] 160)).heap[w.heap.size]?=some (.cells #[.pointer (some ⟨x,0,none⟩)] 160):=(show (w.heap.push _)[w.heap.size]?=_ by simp)
  rw[cell_of_row _ _ _ _ _ _ h1];rfl
 have HE3:=hyd ((cbK_eq K S).symm.trans hZ)
 have HC0:=hyd K0
 have HS0:=hyd S0
 have HL0:=hyd L0
 have HG0:=hyd G0
 have HVL:Hid (∀ k,v.ownBlock=some k->n<=k/\k<w.heap.size):=fun k hk=>(hL.ty hk).2
 have HT:=hyd hT
 have HLEN:=hyd hlen
 have HFM:=hyd hfm
 have HN:=hyd hn
 have q:=neq_er
 have g:=guard_neq
 have hsz0:(w.alloc (.cells #[.pointer (some ⟨x,0,none⟩)] 160)).heap.size=w.heap.size+1:=by simp
 clear h hS hL ok hfm hT hlen hZ G0 K0 S0 L0 hn
 go_enter Tryz.func190,Tryz.ntmps190
 go_wp2_with fail
 generalize (w.alloc (.cells #[.pointer (some ⟨x,0,none⟩)] 160))=w0 at *
 generalize tiK K S 24=t at *
 refine hti.mono ?_
 rintro e w3 ⟨rfl,k3,s3,ok3,g3⟩
 have hnb:¬ Cor A w.heap.size:=fun e=>by have:=HLOW.out _ (Or.inl e);omega
 have B3:w3.cell? ⟨w.heap.size,0,none⟩=some (.pointer (some ⟨x,0,none⟩)):=(g3.cell (by omega) (fun e=>e.elim hnb (fun e=>by omega)) 0).trans hB0
 have HNB:=hyd hnb
 have HK3:=hyd k3
 have HS3:=hyd s3
 have HOK3:=hyd ok3
 have HL3:=hyd (HL0.out.chg g3 (fun k hk e=>e.elim (HL0.out.noCor HC0.out k hk) (HL0.out.noSh HS0.out k hk)))
 have HG3:=hyd ((HG0.out.mono (fun _ _ f=>f.elim)).trans g3)
 have hs3:=g3.size
 clear hti k3 s3 ok3 g3 hB0 hnb
 by_cases ht:t.2.2.2=0
 ·
  have HE5:=HE3.out
  rw[if_neg (by rw[ht];simp)] at HE5
  unfold cb2 at HE5
  have HE6:=hyd HE5
  have HPL2:=hyd (HPL.out ht)
  have htl:=telling_k w3 A.c 222 #[.pointer (some ⟨w.heap.size,0,none⟩)]
  have hmf:∀ (fn:Fn) (first cap:Array Value) (w:World),(Instr.makeFunc fn first cap).run Tryz.prog w=.ok (.func fn first cap) w:=fun _ _ _ _=>rfl
  rw[ht]
  clear ht HE3 HE5 HPL
  go_wp2_with fail
  refine htl.mono ?_
  rintro e w4 ⟨rfl,a1,a2,a3,g4⟩
  have K4:=HK3.out.chg0 g4
  have S4:=HS3.out.chg g4 (fun f=>f)
  have B4:=(g4.cell (World.block_lt_of_cell? w3 ⟨w.heap.size,0,none⟩ B3) (fun f=>f) 0).trans B3
  obtain⟨d0,-⟩:=S4.cell 0 (by decide)
  replace d0:w4.cell? ⟨x,0,none⟩=some (.int .i64 (S.fm:Nat)):=by rw[<-HTS.out.1.1];exact d0
  have hlo:=HK3.out.low
  have hmo:=more_bad A w4 w.heap.size x S.fm B4 d0 HFM.out HNB.out (K4.apartSh S4) (World.block_lt_of_cell? w4 ⟨w.heap.size,0,none⟩ B4) S4.lt
  have hH:=telling_hold A w4 222 #[.pointer (some ⟨w.heap.size,0,none⟩)] _ hmo w3.heap.size (w3.heap.size+1) a1 a2 (fun e=>by have:=hlo _ (Or.inl e);omega) (fun e=>by have:=hlo _ (Or.inl e);omega) (by omega) (by omega) (bad_okc S.fm)
  have hnx:=K4.wf.nx
  have hfr:=fresh_k A w4 94 #[.pointer (some ⟨w3.heap.size,0,none⟩),.pointer (some ⟨w3.heap.size+1,0,none⟩)] _ hH w4 t.1 K4 (Chg.refl _ _) t.2.2.1 24 ⟨⟨by have:=HPL2.out.1;omega,by omega,by omega,by omega⟩,Or.inl ⟨rfl,rfl⟩⟩
  replace hfr:Calls Tryz.prog 82 #[.pointer (some ⟨A.c,0,none⟩),.int .i64 (t.2.2.1:Nat),.int .i64 ((24:Nat):Int),.func (.func 94) #[] #[.pointer (some ⟨w3.heap.size,0,none⟩),.pointer (some ⟨w3.heap.size+1,0,none⟩)]] w4 fun e w'=>e=.returned (.tuple #[.agg #[.int .i64 ((frK (bdH S.fm) t.1 t.2.2.1 24).2.1.p:Nat),.int .i64 ((frK (bdH S.fm) t.1 t.2.2.1 24).2.1.o:Nat),.int .i64 ((frK (bdH S.fm) t.1 t.2.2.1 24).2.1.q:Nat),.int .i64 ((frK (bdH S.fm) t.1 t.2.2.1 24).2.1.c:Nat),.bool (frK (bdH S.fm) t.1 t.2.2.1 24).2.1.l],errV (frK (bdH S.fm) t.1 t.2.2.1 24).2.2])/\CoreAt A w' (frK (bdH S.fm) t.1 t.2.2.1 24).1/\Chg (Cor A) w4 w':=hfr
  have HFT:=hyd (frK_tag (bdH S.fm) t.1 t.2.2.1 24)
  have HNX:=hyd hnx
  generalize frK (bdH S.fm) t.1 t.2.2.1 24=P at *
  have HK4:=hyd K4
  have HS4:=hyd S4
  have HL4:=hyd (HL3.out.new g4)
  have HG4:=hyd (HG3.out.trans (g4.mono (fun _ _ f=>f.elim)))
  have hs4:=g4.size
  have HB4:=hyd B4
  clear htl a1 a2 a3 g4 K4 S4 B4 B3 d0 hlo hmo hH hnx
  go_wp2_with fail
  refine hfr.mono ?_
  rintro e w5 ⟨rfl,k5,g5⟩
  have hs5:=g5.size
  have GA:Chg (fun _=>False) w5 (w5.alloc (.cells #[.int .i64 (P.2.1.p:Nat),.int .i64 (P.2.1.o:Nat),.int .i64 (P.2.1.q:Nat),.int .i64 (P.2.1.c:Nat),.bool P.2.1.l] 127)):=(Chg.refl _ w5).alloc _
  have T6:=Tg.new w5 (P.2.1.p:Nat) (P.2.1.o:Nat) (P.2.1.q:Nat) (P.2.1.c:Nat) P.2.1.l
  have HK6:=hyd (k5.chg0 GA)
  have HS6:=hyd ((HS4.out.chg g5 (HK4.out.apartSh HS4.out)).chg GA (fun f=>f))
  have HL6:=hyd ((HL4.out.chg g5 (HL4.out.noCor HK4.out)).new GA)
  have HG6:=hyd ((HG4.out.trans g5.mvs).trans (GA.mono (fun _ _ f=>f.elim)))
  have B6:=(GA.cell (by have:=World.block_lt_of_cell? w4 ⟨w.heap.size,0,none⟩ HB4.out;show w.heap.size<w5.heap.size;exact Nat.lt_of_lt_of_le this hs5) (fun f=>f) 0).trans ((g5.cell (World.block_lt_of_cell? w4 ⟨w.heap.size,0,none⟩ HB4.out) HNB.out 0).trans HB4.out)
  have hzt:=zero123
  have hs6:=GA.size
  have HTT:=hyd T6
  clear hfr k5 g5 GA HK4 HS4 HL4 HG4
  by_cases hp:P.2.2=0
  ·
   have HE7:=HE6.out
   rw[if_neg (by rw[hp];simp)] at HE7
   have HE8:=hyd HE7
   have HFT2:=hyd (HFT.out hp)
   rw[hp]
   clear hp HE7 HE6 HFT
   go_wp2_with fail
   generalize (w5.alloc (.cells #[.int .i64 (P.2.1.p:Nat),.int .i64 (P.2.1.o:Nat),.int .i64 (P.2.1.q:Nat),.int .i64 (P.2.1.c:Nat),.bool P.2.1.l] 127))=w6 at *
   obtain⟨d6,f6⟩:=HS6.out.cell 6 (by decide)
   replace d6:w6.cell? ⟨x,6,none⟩=some v:=d6
   obtain⟨u0,u1,u2,u3,u4⟩:=HTT.out.cells
   have d6b:(w6.alloc (.cells #[.int .i64 (P.2.1.p:Nat),.int .i64 (P.2.1.o:Nat),.int .i64 (P.2.1.q:Nat),.int .i64 (P.2.1.c:Nat),.bool P.2.1.l] 127)).cell? ⟨x,6,none⟩=some v:=(World.cell?_alloc_some _ _ _ (by rw[d6];rfl)).trans d6
   have B6b:(w6.alloc (.cells #[.int .i64 (P.2.1.p:Nat),.int .i64 (P.2.1.o:Nat),.int .i64 (P.2.1.q:Nat),.int .i64 (P.2.1.c:Nat),.bool P.2.1.l] 127)).cell? ⟨w.heap.size,0,none⟩=some (.pointer (some ⟨x,0,none⟩)):=(World.cell?_alloc_some _ _ _ (by rw[B6];rfl)).trans B6
   have G7:Chg (fun _=>False) w6 ((w6.alloc (.cells #[.int .i64 (P.2.1.p:Nat),.int .i64 (P.2.1.o:Nat),.int .i64 (P.2.1.q:Nat),.int .i64 (P.2.1.c:Nat),.bool P.2.1.l] 127)).drew):=((Chg.refl (fun _=>False) w6).alloc _).drew
   have HL7:Hid (Lad ((w6.alloc (.cells #[.int .i64 (P.2.1.p:Nat),.int .i64 (P.2.1.o:Nat),.int .i64 (P.2.1.q:Nat),.int .i64 (P.2.1.c:Nat),.bool P.2.1.l] 127)).drew) n v t.2.1.ld):=by
    show Lad _ n v t.2.1.ld
    rw[HTS.out.2]
    exact HL6.out.new G7
   have HT7:Hid (Tg (w6.alloc (.cells #[.int .i64 (P.2.1.p:Nat),.int .i64 (P.2.1.o:Nat),.int .i64 (P.2.1.q:Nat),.int .i64 (P.2.1.c:Nat),.bool P.2.1.l] 127)).drew w6.heap.size (P.2.1.p:Nat) (P.2.1.o:Nat) (P.2.1.q:Nat) (P.2.1.c:Nat) P.2.1.l):=Tg.new w6 (P.2.1.p:Nat) (P.2.1.o:Nat) (P.2.1.q:Nat) (P.2.1.c:Nat) P.2.1.l
   have HG7:=hyd G7
   have HLN:Hid (t.2.1.ld.length<=1048576):=by
    show t.2.1.ld.length<=1048576
    rw[HTS.out.2]
    exact Nat.le_trans HLEN.out (by decide)
   have HBASE:Hid (n<=(w6.alloc (.cells #[.int .i64 (P.2.1.p:Nat),.int .i64 (P.2.1.o:Nat),.int .i64 (P.2.1.q:Nat),.int .i64 (P.2.1.c:Nat),.bool P.2.1.l] 127)).drew.heap.size):=Nat.le_trans (Nat.le_trans HN.out (show w.heap.size<=w6.heap.size by omega)) G7.size
   have HVO:Hid (∀ k,v.ownBlock=some k->¬ k=x):=HL6.out.noSh HS6.out
   clear G7
   go_region_law (refine step_append_tag _ rfl (.tmp 33) (.tmp 35) rfl n v t.2.1.ld (by simp[Act.eval]) HL7.out w6.heap.size 1 P.2.1 (by simp[Act.eval]) HT7.out HLN.out HBASE.out ?_;intro g8 cap8 w8 hL hC;have S8:=(HS6.out.chg HG7.out (fun f=>f)).chg hC (fun e=>HVO.out _ e rfl);obtain⟨d8,f8⟩:=S8.cell 6 (by decide);have B8:w8.cell? ⟨w.heap.size,0,none⟩=some (.pointer (some ⟨x,0,none⟩)):=(hC.cell (World.block_lt_of_cell? _ ⟨w.heap.size,0,none⟩ B6b) (fun e=>Nat.lt_irrefl _ (HVL.out _ e).2) 0).trans B6b;have HL8:=hyd hL;have HC8:=hyd hC;have HS8:=hyd S8;clear hL hC S8)
   all_goals
    have GX:Chg (·=x) w8 (w8.setCell ⟨x,6,none⟩ (.slice (some ⟨g8,0,none⟩) (t.2.1.ld.length+1) cap8)):=(Chg.refl (·=x) w8).setCell (Or.inl rfl) _ _
    have K9:=((HK6.out.chg0 HG7.out).offTy (fun k _ e=>Or.inr (HL7.out.ty e).1) HC8.out).offSh HS8.out GX
    have S9:=HS8.out.setLd (.slice (some ⟨g8,0,none⟩) (t.2.1.ld.length+1) cap8) (t.2.1.ld ++ [P.2.1])
    have L9:=HL8.out.chg GX (HL8.out.noSh HS8.out)
    have HG9:=hyd (((HG6.out.mono (fun k _ e=>Or.inl e)).trans (HG7.out.mono (fun _ _ f=>f.elim))).trans (HC8.out.mono (fun k _ e=>Or.inr (HVL.out k e).1)) |>.trans (GX.mono (fun _ _ e=>Or.inl (Or.inr e))))
    have hcm:=commit_k A _ P.1 K9 x n { t.2.1 with ld:=t.2.1.ld ++ [P.2.1] } _ S9 L9 HOK3.out (by
     show Tgs (t.2.1.ld ++ [P.2.1])
     rw[HTS.out.2,HFT2.out]
     exact HT.out.app ⟨(show 24<25 by decide),HNX.out,(show 0<256 by decide)⟩) (by
     show (t.2.1.ld ++ [P.2.1]).length<=1048576
     rw[HTS.out.2,List.length_append]
     have:=HLEN.out
     simp
     omega) 3
    have B9:=(GX.cell (World.block_lt_of_cell? _ ⟨w.heap.size,0,none⟩ B8) (fun e:w.heap.size=x=>by omega) 0).trans B8
    have HK9:=hyd K9
    have HS9:=hyd S9
    have HL9:=hyd L9
    clear GX K9 S9 L9 d6 f6 d6b B6b B6 u0 u1 u2 u3 u4 d8 f8 B8 HS8 HL8 HC8
    go_wp2_with fail
    generalize (w8.setCell ⟨x,6,none⟩ (.slice (some ⟨g8,0,none⟩) (t.2.1.ld.length+1) cap8))=w9 at *
    refine hcm.mono ?_
    rintro e w10 ⟨rfl,k10,g10⟩
    have HK10:=hyd k10
    have HS10:=hyd (HS9.out.chg g10 (HK9.out.apartSh HS9.out))
    have HL10:=hyd (HL9.out.chg g10 (HL9.out.noCor HK9.out))
    have HG10:=hyd (HG9.out.trans (g10.mono (fun _ _ e=>Or.inl (Or.inl e))))
    clear hcm k10 g10 B9
    go_wp2
    go_ret
    rw[<-HE8.out]
    exact⟨_,rfl,HK10.out,HS10.out,HL10.out,HOK3.out,⟨HTS.out.1.1,HTS.out.1.2.1,HTS.out.1.2.2⟩,HG10.out⟩
  ·
   replace q:∀ w,(binOp .neq 33 (errV P.2.2) .nilIface).run Tryz.prog w=.ok (.bool true) w:=fun w=>by rw[q,decide_eq_false hp];rfl
   have HE9:=HE6.out
   rw[if_pos hp] at HE9
   have HE4:=hyd HE9
   have e6:=HL6.out
   rw[<-HTS.out.2] at e6
   have HL6b:=hyd e6
   clear e6
   clear HE6 HE9 hp
   go_wp2
   go_ret
   rw[<-HE4.out]
   exact⟨v,rfl,HK6.out,HS6.out,HL6b.out,HOK3.out,HTS.out.1,HG6.out.mono (fun _ _ e=>Or.inl e)⟩
 ·
  replace q:∀ w,(binOp .neq 33 (errV t.2.2.2) .nilIface).run Tryz.prog w=.ok (.bool true) w:=fun w=>by rw[q,decide_eq_false ht];rfl
  have HE9:=HE3.out
  rw[if_pos ht] at HE9
  have HE4:=hyd HE9
  have HL6b:Hid (Lad w3 n v t.2.1.ld):=by
   have e:=HL3.out
   rw[<-HTS.out.2] at e
   exact e
  clear HE3 HE9 ht
  go_wp2
  go_ret
  rw[<-HE4.out]
  exact⟨v,rfl,HK3.out,HS3.out,HL6b.out,HOK3.out,HTS.out.1,HG3.out.mono (fun _ _ e=>Or.inl e)⟩
end Go.Proofs.YtbhbilcieodbhaaGreat
