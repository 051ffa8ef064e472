/-
  Lemmas.
-/
import Derived.Test.YtbhbilcieodbhaaGreatOm
import Derived.Test.YtbhbilcieodbhaaGreatP07
set_option maxRecDepth 1000000
set_option maxHeartbeats 16000000
set_option linter.unusedSimpArgs false
namespace Go.Proofs.YtbhbilcieodbhaaGreat
open List
open Go.Proofs.Tryz
open Go.RowKit
theorem Z8(A:Ad)(w:Wd)(K:BC)(h:CoreAt A w K)(t:Bu)(hpl:t.p<96)(hm:¬ DV t.p t.o t.q t.c t.l)(c o cap:Nat) :Calls prog 120 #[.pointer (some ⟨A.c,0,none⟩),.agg #[.int .i64 (t.p:Nat),.int .i64 (t.o:Nat),.int .i64 (t.q:Nat),.int .i64 (t.c:Nat),.bool t.l],.slice (some ⟨c,o,none⟩) 174 cap] w fun e w'=>e=.returned (errV 8)/\CoreAt A w' K/\Chg (Cor A) w w':=by
 have T0:=Tg.new w t.p t.o t.q t.c t.l;have G0:Chg No w (w.alloc (.cells #[.int .i64 (t.p:Nat),.int .i64 (t.o:Nat),.int .i64 (t.q:Nat),.int .i64 (t.c:Nat),.bool t.l] 127)):=(Chg.refl _ w).alloc _;have C0:=h.chg0 G0;have HLOW:=BB h.low;obtain⟨c0,-⟩:=C0.cMed;obtain⟨u0,u1,u2,u3,u4⟩:=T0.cells;have hrd:=EZ A.m A.g A.p A.q A.b K.r _ C0.med;have HT0:=BB T0;have HG0:=BB G0;have HC0:=BB C0;have HM:=BB hm;have HPL:=BB hpl;clear h C0 G0 T0 hm hpl;go_enter func120,ntmps120;go_wp2_with fail;refine hrd.mono ?_;rintro e w1 ⟨rfl,rfl⟩;clear hrd;generalize (w.alloc (.cells #[.int .i64 (t.p:Nat),.int .i64 (t.o:Nat),.int .i64 (t.q:Nat),.int .i64 (t.c:Nat),.bool t.l] 127))=w0 at *
 go_wp2_with fail
 go_region_held3 (fun wx=>wx.cell? ⟨A.c,0,none⟩=some (.pointer (some ⟨A.m,0,none⟩))/\wx.cell? ⟨w.heap.size,0,none⟩=some (.int .i64 (t.p:Nat))/\wx.cell? ⟨w.heap.size,1,none⟩=some (.int .i64 (t.o:Nat))/\wx.cell? ⟨w.heap.size,2,none⟩=some (.int .i64 (t.q:Nat))/\wx.cell? ⟨w.heap.size,3,none⟩=some (.int .i64 (t.c:Nat))/\wx.cell? ⟨w.heap.size,4,none⟩=some (.bool t.l))
  (first | exact⟨c0,u0,u1,u2,u3,u4⟩ | exact⟨z0,y0,y1,y2,y3,y4⟩)
  (first | (go_at_call 157;refine(NC A.m A.g A.p A.q A.b K.r _ (HC0.out.drewN 1).med (t.p:Nat) (t.p:Nat) (t.o:Nat) (t.q:Nat) (t.c:Nat) t.l (some ⟨c,o,none⟩) 174 cap (fun e=>HM.out e.1)).mono ?_;rintro e w2 ⟨rfl,G2⟩;have K2:=(HC0.out.drewN 1).chg0 G2;have T2:=(HT0.out.chg (Chg.refl No w0).drew (fun f=>f)).chg G2 (fun f=>f);obtain⟨y0,y1,y2,y3,y4⟩:=T2.cells;obtain⟨z0,-⟩:=K2.cMed;have HK2:=BB K2;have HG2:=BB ((Chg.cor0 (A:=A) HG0.out).drew.trans G2.cor0);have HT2:=BB T2;clear G2 K2 T2))
 all_goals
  have hbl:=fun w=>Gm w (t.p:Nat) (by have:=HPL.out;omega);rw[show ((t.p:Nat):Int) / 8=((t.p / 8:Nat):Int) by omega] at hbl;have hi:IntKind.i64.wrap (K.r - K.r)=(0:Int):=by rw[Int.sub_self];rfl
  clear c0 u0 u1 u2 u3 u4 y1 y2 y3 y4;go_wp2_with fail
  go_region_held3 (fun wx=>wx.cell? ⟨A.c,0,none⟩=some (.pointer (some ⟨A.m,0,none⟩))/\wx.cell? ⟨w.heap.size,0,none⟩=some (.int .i64 (t.p:Nat)))
   (first | exact⟨z0,y0⟩ | exact⟨z4,y4⟩)
   (first
    | (go_at_call 90;refine(hbl _).mono ?_;rintro e w3 ⟨rfl,rfl⟩)
    | (go_at_call 156;refine(EZ A.m A.g A.p A.q A.b K.r _ (HK2.out.drewN 1).med).mono ?_;rintro e w3 ⟨rfl,rfl⟩)
    | (go_at_call 103;refine(Iu A _ _ (HK2.out.drewN 1) (t.p / 8) (by have:=HPL.out;omega) 0 dc).mono ?_;rintro e w4 ⟨rfl,K4,G4⟩;have T4:=(HT2.out.chg (Chg.refl No w2).drew (fun f=>f)).chg G4 (fun e=>by have:=HLOW.out _ (AK e);omega);have y4:=T4.cells.1;obtain⟨z4,-⟩:=K4.cMed;have HK4:=BB K4;have HG4:=BB (HG2.out.drew.trans G4);clear K4 G4 T4))
  all_goals
   have hf:=Hw w4 1;have HE:=BB (Hv HC0.out.wf.hea (t.p / 8) (by have:=HPL.out;omega) (Int.le_refl 0));clear hbl z0 y0 hi;go_wp2_with (go_at_call 158;refine hf.mono ?_;rintro e w5 ⟨rfl,rfl⟩);go_ret;refine⟨rfl,?_,HG4.out⟩;have:=HK4.out;rw[HE.out] at this;exact this
def tL (t:Bu):List Value:=[.int .i64 (t.p:Nat),.int .i64 (t.o:Nat),.int .i64 (t.q:Nat),.int .i64 (t.c:Nat),.bool t.l]
theorem eh(t:Bu):∀v ∈ tL t,v.oneCell'=true:=by
 intro v hv;simp[tL] at hv;rcases hv with rfl | rfl | rfl | rfl | rfl <;> rfl
def Lad (w:Wd) (base:Nat) (v:Value) (l:List Bu):Prop:=w.ownsRow base 127 5 v l.length (l.flatMap tL)
theorem Nb:∀(l:List Bu) (i:Nat) (f:Bu) (j:Nat),l[i]?=some f->j<5->(l.flatMap tL)[i*5+j]?=(tL f)[j]?
 | [],i,f,j,h,_=>by simp at h
 | x :: r,0,f,j,h,hj=>by
  have e:x=f:=by simpa using h
  subst e
  rw[flatMap_cons,Nat.zero_mul,AW,Af (by simpa[tL] using hj)]
 | x :: r,i+1,f,j,h,hj=>by
  have h':r[i]?=some f:=by simpa using h
  rw[flatMap_cons,Aa (by simp[tL];omega),show (i+1)*5+j - (tL x).length=i*5+j by simp[tL];omega,Nb r i f j h' hj]
section
variable {w w':Wd}{base:Nat}{v:Value}{l:List Bu}
theorem Lad.nil(w:Wd)(base:Nat):Lad w base (.slice none 0 0) []:=⟨rfl,AK ⟨rfl,rfl⟩⟩
theorem Lad.keep(h:Lad w base v l)(hk:∀k,k<w.heap.size->v.ownBlock=some k->w'.heap[k]?=w.heap[k]?):Lad w' base v l:=by
 refine⟨h.1,?_⟩;rcases h.2 with h1 | ⟨g,cap,cur,rfl,hb,hh,r⟩
 ·exact AK h1
 ·exact AL ⟨g,cap,cur,rfl,hb,(hk g (Array.getElem?_eq_some_iff.1 hh).1 rfl).trans hh,r⟩
theorem Lad.ty(h:Lad w base v l){k:Nat}(hk:v.ownBlock=some k):Ty w k 127/\base<=k/\k<w.heap.size:=by
 rcases h.2 with ⟨rfl,_⟩ | ⟨g,cap,cur,rfl,hb,hh,_⟩
 ·cases hk
 ·have e:g=k:=by simpa[Value.ownBlock] using hk
  subst e;exact⟨⟨_,_,hh⟩,hb,(Array.getElem?_eq_some_iff.1 hh).1⟩
theorem Lad.chg{T:Nat->Prop}(h:Lad w base v l)(hc:Chg T w w')(hs:∀k,v.ownBlock=some k->¬ T k):Lad w' base v l:=h.keep fun k hk e=>hc.block k hk (hs k e)
theorem Lad.new(h:Lad w base v l)(hc:Chg No w w'):Lad w' base v l:=h.chg hc fun _ _ f=>f
theorem Lad.lower(h:Lad w base v l){b:Nat}(hb:b<=base):Lad w b v l:=by
 refine⟨h.1,?_⟩;rcases h.2 with h1 | ⟨g,cap,cur,rfl,hg,r⟩
 ·exact AK h1
 ·exact AL ⟨g,cap,cur,rfl,AY hb hg,r⟩
theorem Lad.noCor{A:Ad}{K:BC}(h:Lad w base v l)(hC:CoreAt A w K):∀k,v.ownBlock=some k->¬ Cor A k:=by
 intro k hk;have t:=(h.ty hk).1;obtain⟨t0,t1,t2,t3,t4,t5,t6,t7,t8,t9⟩:=hC.tys;rintro (e | e | e | e | e | e | e | e)
 ·exact t.ne t0 dc e
 ·exact t.ne t1 dc e
 ·exact t.ne t2 dc e
 ·exact t.ne t5 dc e
 ·exact t.ne t6 dc e
 ·exact t.ne t7 dc e
 ·exact t.ne t8 dc e
 ·exact t.ne t9 dc e
theorem Lad.noSh{x:Nat}{S:BW}{u:Value}(h:Lad w base v l)(hS:ShAt w x S u):∀k,v.ownBlock=some k->¬ k=x:=fun _ hk=>(h.ty hk).1.ne hS.ty dc
theorem Lad.one(h:Lad w base v l):∃a cap,v=.slice a l.length cap:=by
 rcases h.2 with ⟨rfl,e⟩ | ⟨g,cap,cur,rfl,_⟩
 ·exact⟨none,0,by rw[e]⟩
 ·exact⟨_,cap,rfl⟩
theorem Lad.at_(h:Lad w base v l){i:Nat}{t:Bu}(hi:l[i]?=some t):∃g cap,v=.slice (some ⟨g,0,none⟩) l.length cap/\l.length<=cap/\w.rangeAt g (i*5) (tL t):=by
 have hcl:=fun g hg=>World.ownsRow.cells (g:=g) h hg;rcases h.2 with ⟨rfl,e⟩ | ⟨g,cap,cur,hv,hg,hh,hn,_⟩
 ·have:=(List.getElem?_eq_some_iff.1 hi).1;omega
 ·refine⟨g,cap,hv,hn,fun j u hu=>?_⟩;have hj:j<5:=by have:=(List.getElem?_eq_some_iff.1 hu).1;simpa[tL] using this
  have:=hcl g (by rw[hv];rfl) (i*5+j) u ((Nb l i t j hi hj).trans hu);rw[Addr.add_mid,AW] at this;exact this
end
theorem Z9:∃i,prog.info? 127=some i/\i.zero=some (.agg #[.int .i64 0,.int .i64 0,.int .i64 0,.int .i64 0,.bool false])/\i.size=5/\i.bytes=40:=by
 have h:(prog.info? 127).map (fun i=>(i.zero,i.size,i.bytes))=some (some (.agg #[.int .i64 0,.int .i64 0,.int .i64 0,.int .i64 0,.bool false]),5,40):=kr
 cases e:prog.info? 127 with
 | none=>rw[e] at h;cases h
 | some i=>
  rw[e] at h;simp only[Option.map_some,Option.some.injEq,Prod.mk.injEq] at h;exact⟨i,rfl,h.1,h.2.1,h.2.2⟩
theorem El(w:Wd){ops:Array Oper}{o:Oper}{a:Act}{K:Act->World->Prop}{Q:Exit->Act->World->Prop}{E:Prop}(hgd:o.guard=none)(s x:Operand)(ho:o.op=.call { callee:=.builtin .append,args:=#[s,x],argTypes:=#[161,161] })(base:Nat)(v:Value)(l:List Bu)(hs:a.eval s=v)(hown:Lad w base v l)(B c:Nat)(t:Bu)(hx:a.eval x=.slice (some ⟨B,0,none⟩) 1 c)(hB:Tg w B t.p t.o t.q t.c t.l)(hlen:l.length<=1048576)(hbase:base<=w.heap.size)(h:∀g cap w',Lad w' base (.slice (some ⟨g,0,none⟩) (l.length+1) cap) (l ++ [t])->Chg (fun k=>v.ownBlock=some k) w w'->K (a.put o.dst (.slice (some ⟨g,0,none⟩) (l.length+1) cap)) w') :if Region.wanted o (yielded ops a.tmps)=true then Oper.wp prog o a w K Q else E:=by
 obtain⟨i,hi1,hi2,hi3,hi4⟩:=Z9;refine step_append_lies w hgd s x 161 ho base 127 i _ 5 40 underlying161 hi1 hi2 hi3 hi4 rfl dc v l.length (l.flatMap tL) hs hown ⟨B,0,none⟩ 1 c (tL t) hx rfl (World.news_of_block hB) (eh t) dc (by unfold maxLen;omega) om hbase _ rfl ?_;intro g cap w' h1 h2 _ _;refine h g cap w' ?_ ⟨h2.os,h2.tape,h2.output,h2.size,fun k hk hs=>h2.block k hk (fun e=>hs e.symm)⟩;unfold Lad;rw[AV,flatMap_append];simpa using h1
theorem ek(l:List Nat):∃r,IsDec l r:=by
 by_cases h:∃c,Cw c/\ds l c<=2
 ·obtain⟨c,hc,hd⟩:=h;exact⟨_,AL ⟨c,hc,rfl,hd⟩⟩
 ·exact⟨none,AK ⟨rfl,fun c hc=>by
   by_cases hd:ds l c<=2
   ·
    exact absurd ⟨c,hc,hd⟩ h
   ·
    omega⟩⟩
theorem Gt(L:List Nat)(i:Nat):IsDec (part 64 L i) none\/∃r,Good L i r:=by
 obtain⟨r,h⟩:=ek (part 64 L i);rcases h with ⟨rfl,h⟩ | ⟨c,hc,rfl,hd⟩
 ·exact AK (AK ⟨rfl,h⟩)
 ·refine AL ⟨_,AL ⟨c,hc,rfl,hd⟩,?_,?_,hd⟩
  ·have:=hc.1;simp[this]
  ·intro n hn;exact hc.2.1 n (mem_of_mem_take hn)
theorem eu(L:List Nat)(k:Int):∃R d c,MsgR L k R d c:=by
 by_cases h:L.length=256/\0<=k/\k<=3
 ·rcases Gt L k.toNat with g | ⟨r,g⟩
  ·exact⟨[],0,5,AL ⟨k.toNat,om,om,h.1,AK ⟨g,rfl,rfl,rfl⟩⟩⟩
  ·exact⟨r.1,r.2,0,AL ⟨k.toNat,om,om,h.1,AL ⟨g,rfl⟩⟩⟩
 ·exact⟨[],0,1,AK ⟨h,rfl,rfl,rfl⟩⟩
theorem fB(L:List Nat):∃m,DmgR L m:=by
 have h:=fun k:Nat=>eu L (k:Int);exact⟨_,fun k=>(h k).choose,fun k=>(h k).choose_spec.choose,fun k=>(h k).choose_spec.choose_spec.choose,fun k _=>(h k).choose_spec.choose_spec.choose_spec,rfl⟩
theorem fC(L:List Nat):∃R d c,DatR L R d c:=by
 by_cases h:L.length=256
 ·rcases Gt L 0 with g0 | ⟨r0,g0⟩
  ·exact⟨[],0,5,AL (AK ⟨h,⟨0,dc,g0⟩,rfl,rfl,rfl⟩)⟩
  ·rcases Gt L 1 with g1 | ⟨r1,g1⟩
   ·exact⟨[],0,5,AL (AK ⟨h,⟨1,dc,g1⟩,rfl,rfl,rfl⟩)⟩
   ·rcases Gt L 2 with g2 | ⟨r2,g2⟩
    ·exact⟨[],0,5,AL (AK ⟨h,⟨2,dc,g2⟩,rfl,rfl,rfl⟩)⟩
    ·exact⟨_,_,0,AL (AL ⟨h,r0,r1,r2,g0,g1,g2,rfl,rfl,rfl⟩)⟩
 ·exact⟨[],0,1,AK ⟨h,rfl,rfl,rfl⟩⟩
theorem fE(L:List Nat):∃R d c,BodR L R d c:=by
 by_cases h:L.length=256
 ·rcases Gt L 3 with g0 | ⟨r0,g0⟩
  ·exact⟨[],0,5,AL (AK ⟨h,g0,rfl,rfl,rfl⟩)⟩
  ·by_cases e:r0.1.drop 50=mk
   ·exact⟨_,_,0,AL (AL ⟨h,r0,g0,AL ⟨e,rfl,rfl,rfl⟩⟩)⟩
   ·exact⟨[],0,6,AL (AL ⟨h,r0,g0,AK ⟨e,rfl,rfl,rfl⟩⟩)⟩
 ·exact⟨[],0,1,AK ⟨h,rfl,rfl,rfl⟩⟩
theorem aA(L:List Nat)(n:Int):∃g,ToldR L n g:=by
 obtain⟨m,hm⟩:=fB L;obtain⟨B,bd,bc,hB⟩:=fE L;obtain⟨D,dd,dc,hD⟩:=fC L;by_cases ht:JY B bc n
 ·by_cases hd:dc=0
  ·exact⟨⟨true,BS B 0 2,BS B 2 1,BS B 3 5,BS B 8 1,II B,true,D,m⟩,hm,B,bd,bc,hB,AL ⟨ht,rfl,rfl,rfl,rfl,rfl,rfl,D,dd,dc,hD,AL ⟨hd,rfl,rfl⟩⟩⟩
  ·exact⟨⟨true,BS B 0 2,BS B 2 1,BS B 3 5,BS B 8 1,II B,false,[],m⟩,hm,B,bd,bc,hB,AL ⟨ht,rfl,rfl,rfl,rfl,rfl,rfl,D,dd,dc,hD,AK ⟨hd,rfl,rfl⟩⟩⟩
 ·exact⟨⟨false,0,0,0,0,false,false,[],m⟩,hm,B,bd,bc,hB,AK ⟨ht,rfl,rfl,rfl,rfl,rfl,rfl,rfl,rfl⟩⟩
theorem Kn{K:BC}(hK:Wf K){p:Nat}(h:(rdK K p).2.1.sound=true):(rdK K p).2.1.data.length=174/\Bys (rdK K p).2.1.data:=by
 unfold rdK at h ⊢;simp only at h ⊢;by_cases e:(readV K.s p).2.2=0
 ·have e2:rdF K.tl K.s K.r p=((readV K.s p).1,wrap64 (K.r+1),K.tl (readV K.s p).2.1 p,0):=by unfold rdF;rw[AJ e]
  rw[e2] at h ⊢;exact(ToldR.sound (hK.tl _ _) h).2
 ·have e2:rdF K.tl K.s K.r p=((readV K.s p).1,K.r,Pg.zero,(readV K.s p).2.2):=by unfold rdF;rw[AI e]
  rw[e2] at h ⊢;simp only[AI e] at h;cases h
def nB (w':Wd) (n:Nat) (v:Value) (D:List Nat):Prop:=∃g cap,v=.slice (some ⟨g,0,none⟩) 174 cap/\n<=g/\At w' g 0 D/\D.length=174/\Bys D
theorem Vk{K:BC}(h:Wf K){o:Nat}(ho:o<25)(hc:AA.atC K.L o=0):(K.L o).toNat<96/\AA.atV K.L o=((K.L o).toNat:Nat)/\K.L o≠-1:=by
 have e:K.L o≠-1:=by
  intro e;unfold AA.atC at hc;rw[AI om,AJ (by simpa using e)] at hc;cases hc
 have:=h.map.1 o ho;refine⟨om,?_,e⟩;unfold AA.atV;rw[AJ hc];simp;omega
theorem Sp(A:Ad)(w:Wd)(K:BC)(h:CoreAt A w K)(o:Nat)(ho:o<25) :Calls prog 220 #[.pointer (some ⟨A.c,0,none⟩),.int .i64 (o:Nat)] w fun e w'=>∃v,e=.returned (.tuple #[v,.bool (coK K o).2.2.1,errV (coK K o).2.2.2])/\((coK K o).2.2.2=0->nB w' w.heap.size v (coK K o).2.1)/\CoreAt A w' (coK K o).1/\Chg (Cor A) w w':=by
 obtain⟨c2,-⟩:=h.cMap;have hat:=AA.Zj w A.ma K.L h.map (o:Nat);have q:=Bn;have g:=BL;by_cases hc:AA.atC K.L o=0
 ·obtain⟨hp,hv,hl⟩:=Vk h.wf ho hc;rw[hv,hc] at hat;have hrd:=VV A w K h (K.L o).toNat hp;have HF:Hid (coK K o=if (rdK K (K.L o).toNat).2.2≠0 then ((rdK K (K.L o).toNat).1,[],false,(rdK K (K.L o).toNat).2.2) else if (rdK K (K.L o).toNat).2.1.sound=true then ((rdK K (K.L o).toNat).1,(rdK K (K.L o).toNat).2.1.data,(rdK K (K.L o).toNat).2.1.l,0) else if o=24 then ((rdK K (K.L o).toNat).1,noH (rdK K (K.L o).toNat).1 ((rdK K (K.L o).toNat).1.vs 24),false,0) else ((rdK K (K.L o).toNat).1,List.replicate 174 0,true,0)):=by
   show coK K o=_;unfold coK;rw[AI (by rw[hc];simp)]
  have HSD:Hid ((rdK K (K.L o).toNat).2.1.sound=true->(rdK K (K.L o).toNat).2.1.data.length=174/\Bys (rdK K (K.L o).toNat).2.1.data):=fun x=>Kn h.wf x;have HL:=BB hl;have HVS:Hid ((rdK K (K.L o).toNat).1.vs=K.vs/\(rdK K (K.L o).toNat).1.L=K.L):=by
   show _/\_;unfold rdK;simp only;split <;> exact⟨rfl,rfl⟩
  generalize rdK K (K.L o).toNat=Z at *
  have HLOW:=BB h.low;clear h hc hl hp hv;generalize (K.L o).toNat=pp at *
  go_enter func220,ntmps220;go_wp2_with (go_at_call 56;refine hat.mono ?_;rintro e w ⟨rfl,rfl⟩);refine hrd.mono ?_;rintro e w1 ⟨v,rfl,hO,k1,g1⟩;have HO:=BB hO;have HK1:=BB k1;have HG1:=BB g1;have HP:=BB (Pb.new w1 false 0 0 0 0 false false (.slice none 0 0) 0);have HGN:Hid (Chg No w1 (w1.alloc (.cells #[.bool false,.int .i64 0,.int .i64 0,.int .i64 0,.int .i64 0,.bool false,.bool false,.slice none 0 0,.int .i64 0] 129))):=(Chg.refl _ w1).alloc _;have hs1:=g1.size;clear hat hrd hO k1 g1 c2;unfold SE;go_wp2_with (first | refine wpList_store_pg rfl (.tmp 9) (.tmp 27) rfl w1.heap.size rfl rfl HO.out.one HP.out ?_);intro w2 P2 G2;have HK2:=BB ((HK1.out.chg0 HGN.out).far HLOW.out om G2);have HO2:=BB ((HO.out.chg HGN.out (fun _ _ _ f=>f)).chg G2 (fun k hk he e=>by have:=HO.out.block he;omega));have HG2:=BB ((HG1.out.trans HGN.out.cor0).trans' G2 (fun k hk e=>om));have hz2:=P2.lt;obtain⟨p0,p1,p2,p3,p4,p5,p6,p7,p8⟩:=P2.cells;clear G2 P2 HO HK1 HG1 HGN HP;by_cases hz:Z.2.2=0
  ·replace q:∀w,(binOp .neq 33 (errV Z.2.2) .nilIface).run prog w=.ok (.bool false) w:=fun w=>by rw[q,AO hz];rfl
   cases hsd:Z.2.1.sound
   ·rw[hsd] at p6;by_cases h24:o=24
    ·subst h24;have HF2:Hid (coK K 24=(Z.1,noH Z.1 (Z.1.vs 24),false,0)):=(by show coK K 24=_;rw[HF.out,AI (by rw[hz];simp),AI (by rw[hsd];simp),AJ rfl]);have htl:=Fe w2 A.c 111 #[];clear hz hsd HSD HF p0 p1 p2 p3 p4 p5 p7 p8;go_wp2_with fail;refine htl.mono ?_;rintro e w3 ⟨rfl,a1,a2,a3,g3⟩;have K3:=HK2.out.chg0 g3;obtain⟨cv,-⟩:=K3.cVs 24 dc;have hq:1<=Z.1.vs 24/\Z.1.vs 24<=1099511627775:=⟨K3.wf.vp 24 dc (by rw[HVS.out.2];exact HL.out),K3.wf.vs 24 dc⟩;have hlo:=HK2.out.low;have hH:=DY A w3 111 #[] _ (Km A w3) w2.heap.size (w2.heap.size+1) a1 a2 (fun e=>by have:=hlo _ (AK e);omega) (fun e=>by have:=hlo _ (AK e);omega) om om NZ;have hcl:=hH.run w3 Z.1 (Z.1.vs 24) K3 (Chg.refl _ _) hq;have hen:=hH.ent;have hmf:∀(fn:Fn) (first cap:Array Value) (w:Wd),(Instr.makeFunc fn first cap).run prog w=.ok (.func fn first cap) w:=fun _ _ _ _=>rfl;have HB:=BB (hH.bys Z.1 (Z.1.vs 24));have HLN:=BB (hH.len Z.1 (Z.1.vs 24));have HK3:=BB K3;have HG3:=BB (HG2.out.trans g3.cor0);have hz3:w2.heap.size<=w3.heap.size:=g3.size;clear htl a1 a2 a3 g3 K3 hlo hH hq p6;go_wp2_with fail;refine hcl.mono ?_;rintro e w4 ⟨gg,rfl,hg,hA,g4⟩;have HA:=BB hA;have HK4:=BB (HK3.out.chg0 g4);have HG4:=BB (HG3.out.trans g4.cor0);have HLE:Hid (w.heap.size<=gg):=(show w.heap.size<=gg by omega);clear hcl hA g4 hg;go_wp2
     go_ret3
     rw[HF2.out];exact⟨_,rfl,fun _=>⟨gg,174,rfl,HLE.out,HA.out,HLN.out,HB.out⟩,HK4.out,HG4.out⟩
    ·have HF2:Hid (coK K o=(Z.1,List.replicate 174 0,true,0)):=(by show coK K o=_;rw[HF.out,AI (by rw[hz];simp),AI (by rw[hsd];simp),AI h24]);have hoz:(((o:Nat):Int) == 24)=false:=(by simp;omega);have hm:=Qy;have HA:=BB (Arr.new w2 5 EF);have HGA:Hid (Chg No w2 (w2.alloc (.cells (bcells EF) 5))):=(Chg.refl _ w2).alloc _;clear hz hsd HSD HF p0 p1 p2 p3 p4 p5 p7 p8 h24;go_wp2
     go_ret3
     rw[HF2.out];exact⟨_,rfl,fun _=>⟨w2.heap.size,174,rfl,om,HA.out.at_,by simp,fun n hn=>by rw[(mem_replicate.1 hn).2];decide⟩,HK2.out.chg0 HGA.out,HG2.out.trans HGA.out.cor0⟩
   ·rw[hsd] at p6;have HF2:Hid (coK K o=(Z.1,Z.2.1.data,Z.2.1.l,0)):=(by show coK K o=_;rw[HF.out,AI (by rw[hz];simp),AJ hsd]);have HSD2:=BB (HSD.out hsd);clear hz hsd HSD HF p0 p1 p2 p3 p4 p8;go_wp2_with fail;go_region;go_wp2
    go_ret3
    rw[HF2.out];refine⟨v,rfl,fun _=>?_,HK2.out.drewN 1,HG2.out.drewN 1⟩;obtain⟨gg,cap,rfl,hb,hl,-,hA,-⟩:=HO2.out.lies (by rw[HSD2.out.1];decide);refine⟨gg,cap,by rw[HSD2.out.1],hb,⟨hl,fun i hi=>?_⟩,HSD2.out.1,HSD2.out.2⟩;rw[AW];exact hA i hi
  ·have HF2:Hid (coK K o=(Z.1,[],false,Z.2.2)):=(by show coK K o=_;rw[HF.out,AJ hz]);have HZ:=BB hz;replace q:∀w,(binOp .neq 33 (errV Z.2.2) .nilIface).run prog w=.ok (.bool true) w:=fun w=>by rw[q,AN hz];rfl
   generalize Z.2.2=z2 at *
   clear hz HF HSD p0 p1 p2 p3 p4 p5 p6 p7 p8;go_wp2
   go_ret3
   rw[HF2.out];exact⟨_,rfl,fun e=>absurd e HZ.out,HK2.out,HG2.out⟩
 ·have HF:Hid (coK K o=(K,[],false,AA.atC K.L o)):=by
   show coK K o=_;unfold coK;rw[AJ hc]
  have HC:=BB h;have HZ:=BB hc;replace q:∀w,(binOp .neq 33 (errV (AA.atC K.L o)) .nilIface).run prog w=.ok (.bool true) w:=fun w=>by rw[q,AN hc];rfl
  clear h hc ho;generalize AA.atC K.L o=z2 at *
  go_enter func220,ntmps220;go_wp2_with (go_at_call 56;refine hat.mono ?_;rintro e w ⟨rfl,rfl⟩)
  go_ret3
  rw[HF.out];exact⟨_,rfl,fun e=>absurd e HZ.out,HC.out,Chg.refl _ _⟩
section
variable (K:BC)
def Ln (K K':BC):Prop:=K'.L=K.L/\K'.vs=K.vs/\K'.vc=K.vc
theorem Ln.refl:Ln K K:=⟨rfl,rfl,rfl⟩
theorem Ln.trans{K K' K'':BC}(h:Ln K K')(k:Ln K' K''):Ln K K'':=⟨k.1.trans h.1,k.2.1.trans h.2.1,k.2.2.trans h.2.2⟩
theorem PS(p:Nat):Ln K (rdK K p).1:=by
 unfold rdK;simp only;split <;> exact⟨rfl,rfl,rfl⟩
theorem PT(o:Nat):Ln K (coK K o).1:=by
 unfold coK;simp only;split
 ·exact Ln.refl K
 ·split
  ·exact PS K _
  ·split
   ·exact PS K _
   ·split <;> exact PS K _
theorem Lo(S:BW)(o:Nat):Ln K (tiK K S o).1:=by
 unfold tiK;split
 ·exact Ln.refl K
 ·split
  ·exact Ln.refl K
  ·exact⟨rfl,rfl,rfl⟩
theorem Vl(t:Bu)(D:List Nat):Ln K (prK K t D).1:=by
 unfold prK;generalize prF K.tl K.s K.r t D=z;exact⟨rfl,rfl,rfl⟩
theorem PU(t:Bu)(D:List Nat):Ln K (prM K t D).1:=by
 unfold prM;split
 ·exact Ln.refl K
 ·exact Vl K t D
def Sm (S S':BW):Prop:=S'.fm=S.fm/\S'.rt=S.rt/\S'.fd=S.fd
theorem PV(S:BW)(o:Nat):Sm S (tiK K S o).2.1/\(tiK K S o).2.1.ld=S.ld:=by
 unfold tiK;split
 ·exact⟨⟨rfl,rfl,rfl⟩,rfl⟩
 ·split
  ·exact⟨⟨rfl,rfl,rfl⟩,rfl⟩
  ·exact⟨⟨rfl,rfl,rfl⟩,rfl⟩
theorem Jo{s:AC.St}(h:AC.E9 s){o:Nat}(hc:AC.nxC s o=0):(AC.nxV s o).toNat<96/\(o=24\/(AC.nxV s o).toNat % 8<6)/\(AC.nxV s o).toNat=s.k*8+s.i/\s.i<8:=by
 have h1:=h.1;have h2:AC.nxV s o=((s.k*8+s.i:Nat):Int):=by unfold AC.nxV;rw[AJ hc]
 have h3:=AC.b8 hc;rw[h2,AP];refine⟨om,?_,rfl,h3⟩;unfold AC.nxC at hc;split at hc
 ·cases hc
 ·split at hc
  ·cases hc
  ·split at hc
   ·rename_i e;rcases e.2 with e | e
    ·left;omega
    ·right;omega
   ·cases hc
theorem Ko(S:BW)(o:Nat)(hK:Wf K)(hS:AC.E9 S.tt)(hc:(tiK K S o).2.2.2=0):(tiK K S o).2.2.1<96/\(o=24\/(tiK K S o).2.2.1 % 8<6):=by
 unfold tiK at hc ⊢;split at hc
 ·rename_i e;rw[AJ e];have:=Jo hS hc;exact⟨this.1,this.2.1⟩
 ·rename_i e;rw[AI e];split at hc
  ·cases hc
  ·rename_i e2;rw[AI e2];have:=Jo (s:=⟨true,tkM K.F,0⟩) ⟨(Jn K.F hK.frm).2,(by decide:0<9)⟩ hc;exact⟨this.1,this.2.1⟩
theorem Vm{L:Nat->Int}{b:Nat}:∀ {k:Nat} {z:Int},z ∈ AA.ofK L b k->∃o:Nat,o<25/\z=o/\L o≠-1
 | 0,z,h=>by cases h
 | k+1,z,h=>by
  unfold AA.ofK at h
  rcases mem_append.1 h with h | h
  ·
   exact Vm h
  ·
   split at h
   ·
    cases h
   ·
    rename_i h6
    have e:z=AA.own L ((8*b+k:Nat):Int):=by simpa using h
    rcases AA.Cc L ((8*b+k:Nat):Int) with ⟨i,h1,h2,h3,_⟩ | ⟨h2,_⟩
    ·
     exact⟨i,h1,by rw[e,h2],by rw[h3];omega⟩
    ·
     exact absurd h2 h6
def Sr (l:List Bu):Prop:=∀t ∈ l,t.o<25/\(1<=t.q/\t.q<=1099511627775)/\t.c<256
theorem Sr.app{l:List Bu}(h:Sr l){t:Bu}(ht:t.o<25/\(1<=t.q/\t.q<=1099511627775)/\t.c<256):Sr (l ++ [t]):=fun u hu=>by
 rcases mem_append.1 hu with hu | hu
 ·
  exact h u hu
 ·
  rw[show u=t by simpa using hu];exact ht
theorem aB(A:Ad)(w:Wd)(K:BC)(h:CoreAt A w K)(t:Bu)(hp:t.p<96)(hf:t.o=24\/t.p % 8<6)(hT:t.o<25/\(1<=t.q/\t.q<=1099511627775)/\t.c<256)(c o cap:Nat)(D:List Nat)(hD:D.length=174)(bD:Bys D)(hA:At w c o D)(hcn:¬ Cor A c) :Calls prog 120 #[.pointer (some ⟨A.c,0,none⟩),.agg #[.int .i64 (t.p:Nat),.int .i64 (t.o:Nat),.int .i64 (t.q:Nat),.int .i64 (t.c:Nat),.bool t.l],.slice (some ⟨c,o,none⟩) 174 cap] w fun e w'=>e=.returned (errV (prM K t D).2)/\CoreAt A w' (prM K t D).1/\Chg (Cor A) w w':=by
 unfold prM;by_cases e:t.o=24/\t.l=true
 ·rw[AJ e];refine Z8 A w K h t hp (fun hm=>?_) c o cap;rcases hm.2 with ⟨_,k⟩ | ⟨k,_⟩
  ·rw[e.2] at k;cases k
  ·exact k (by rw[e.1];rfl)
 ·rw[AI e];refine VW A w K h t ⟨⟨om,om,om,om⟩,?_⟩ c o cap D hD bD hA hcn;by_cases e2:t.o=24
  ·left;refine⟨om,?_⟩;cases hl:t.l
   ·rfl
   ·exact absurd ⟨e2,hl⟩ e
  ·right;refine⟨om,?_⟩;have:=hf.resolve_left e2;omega
end
section
variable {K:BC}
theorem Wf.mv'(h:Wf K)(z:Int):Wf { K with mv:=z }:=
 ⟨h.chip,h.rr,h.frm,h.map,h.vs,h.vp,h.vc,h.fl,h.nx,h.fr,h.cu,h.qu,h.hea,h.tl⟩
theorem kH(A:Ad)(K:BC)(z:Int)(j:Nat)(_:j<101)(_:j<83\/83+13<=j):upL (kc A K) 100 [.int .i64 z] j=kc A { K with mv:=z } j:=by
 rw[Bj];by_cases e:j=100
 ·subst e;rfl
 ·rw[AI e];have e2:j<100:=om
  unfold kc;by_cases h0:j=0
  ·simp only[AJ h0]
  by_cases h1:j=1
  ·simp only[AI h0,AJ h1]
  by_cases h2:j=2
  ·simp only[AI h0,AI h1,AJ h2]
  by_cases h3:j<53
  ·simp only[AI h0,AI h1,AI h2,AJ h3]
  by_cases h4:j<77
  ·simp only[AI h0,AI h1,AI h2,AI h3,AJ h4]
  have:j=77\/j=78\/j=79\/j=80\/j=81\/j=82\/j=96\/j=97\/j=98\/j=99:=om
  rcases this with rfl | rfl | rfl | rfl | rfl | rfl | rfl | rfl | rfl | rfl <;> rfl
theorem CoreAt.setMv{A:Ad}{w:Wd}(h:CoreAt A w K)(z:Int):CoreAt A (w.setCell ⟨A.c,100,none⟩ (.int .i64 z)) { K with mv:=z }:=
 h.setCore { K with mv:=z } ⟨rfl,rfl,rfl,rfl,rfl,rfl,rfl,rfl,rfl⟩ (QB.ext (QB.set h.core 100 (.int .i64 z) om) (kH A K z)) ((Chg.refl (·=A.c) w).setCell (AK rfl) _ _) (h.wf.mv' z)
theorem Vn(t:Bu)(l:List Bu)(K:BC):cmL (t :: l) K=if (layK K t).2≠0 then layK K t else cmL l (layK K t).1:=rfl
structure Cmi (A:Ad) (x n:Nat) (S:BW) (v:Value) (r:List Bu) (Z:BC × Nat) (w wr:Wd) (Ki:BC):Prop where
 eq:cmL r Ki=Z
 core:CoreAt A wr Ki
 sh:ShAt wr x S v
 lad:Lad wr n v S.ld
 chg:Chg (Cor A) w wr
theorem Jp(A:Ad)(w:Wd)(K:BC)(h:CoreAt A w K)(x n:Nat)(S:BW)(v:Value)(hS:ShAt w x S v)(hL:Lad w n v S.ld)(ok:AC.E9 S.tt)(hT:Sr S.ld)(hlen:S.ld.length<=1048576)(st:Int) :Calls prog 191 #[.pointer (some ⟨A.c,0,none⟩),.pointer (some ⟨x,0,none⟩),.int .i64 st] w fun e w'=>e=.returned (errV (cmK K S st).2)/\CoreAt A w' (cmK K S st).1/\Chg (Cor A) w w':=by
 obtain⟨d6,-⟩:=hS.cell 6 dc;replace d6:w.cell? ⟨x,6,none⟩=some v:=d6;have q:=Bn;have g:=BL;obtain⟨a,cap,rfl⟩:=hL.one;have HC:=BB h;have HS:=BB hS;have HL:=BB hL;have HT:=BB hT;have HOK:=BB ok;obtain⟨m,HM⟩:∃m,Hid (m=S.ld.length):=⟨_,rfl⟩;have HF:Hid (cmK K S st=if (cmL S.ld K).2≠0 then cmL S.ld K else ({ (if S.tt.o then stK { clK (stK (lvK (cmL S.ld K).1 S.fm) S.fm st) with fr:=S.tt } S.tt.k 1 else stK (lvK (cmL S.ld K).1 S.fm) S.fm st) with mv:=wrap64 ((if S.tt.o then stK { clK (stK (lvK (cmL S.ld K).1 S.fm) S.fm st) with fr:=S.tt } S.tt.k 1 else stK (lvK (cmL S.ld K).1 S.fm) S.fm st).mv+S.ld.length) },0)):=rfl;obtain⟨Z,HZ⟩:∃Z,Hid (cmL S.ld K=Z):=⟨_,rfl⟩;rw[HZ.out] at HF;rw[<-HM.out] at d6 HF;rw[<-HM.out] at HS HL;have hm6:m<=1048576:=by rw[HM.out];exact hlen
 clear h hS hL ok hT hlen;go_enter func191,ntmps191;go_wp2_with fail
 go_loopg [16] m (fun kx s16 wr=>∃i:Nat,s16=.int .i64 i/\i<=m/\m - i<=kx/\∃Ki,Hid (Cmi A x n S (.slice a m cap) (S.ld.drop i) Z w wr Ki))
 case atStart=>exact⟨0,rfl,om,om,K,⟨HZ.out,HC.out,HS.out,HL.out,Chg.refl _ _⟩⟩
 case round=>
  obtain⟨i,rfl,him,hkx,Ki,HI⟩:=hrel;by_cases hlt:i<m
  ·have hltz:(i:Int)<(m:Int):=om;obtain⟨t,ht⟩:∃t,S.ld[i]?=some t:=⟨_,AU (by have:=HM.out;omega)⟩;obtain⟨gg,cap2,hv,hcap,hrng⟩:=HI.out.lad.at_ ht;obtain⟨rfl,-,-⟩:a=some ⟨gg,0,none⟩/\m=S.ld.length/\cap=cap2:=by simpa using hv
   have HE:Hid (cmL (t :: S.ld.drop (i+1)) Ki=Z):=by
    have e:=HI.out.eq;rw[drop_eq_getElem_cons (by have:=HM.out;omega),(List.getElem?_eq_some_iff.1 ht).2] at e;exact e
   have htg:=HT.out t (mem_of_getElem? ht);have r0:=hrng 0 _ rfl;have r1:=hrng 1 _ rfl;have r2:=hrng 2 _ rfl;have r3:=hrng 3 _ rfl;have r4:=hrng 4 _ rfl;rw[Nat.add_zero] at r0;have GA:Chg No wr (wr.alloc (.cells #[.int .i64 (t.p:Nat),.int .i64 (t.o:Nat),.int .i64 (t.q:Nat),.int .i64 (t.c:Nat),.bool t.l] 127)):=(Chg.refl _ wr).alloc _;have hly:=cI A _ Ki (HI.out.core.chg0 GA) t htg.1 htg.2.1 htg.2.2;have hzt:=Gs;have HGA:=BB GA;clear ht hv hcap hrng htg GA;go_wp2_with fail;refine hly.mono ?_;rintro e w2 ⟨rfl,k2,g2⟩;have G2:=(Chg.cor0 (A:=A) HGA.out).trans g2;have HK2:=BB k2;have HS2:=BB (HI.out.sh.chg G2 (HI.out.core.apartSh HI.out.sh));have HL2:=BB (HI.out.lad.chg G2 (HI.out.lad.noCor HI.out.core));have HG2:=BB (HI.out.chg.trans G2);have HE2:=HE.out;rw[Vn] at HE2;generalize layK Ki t=P at *
   clear hly k2 g2 G2 HE HI r0 r1 r2 r3 r4 hzt HGA;by_cases hp:P.2=0
   ·rw[AI (by rw[hp];simp)] at HE2;have HI2:Hid (Cmi A x n S (.slice (some ⟨gg,0,none⟩) m cap) (S.ld.drop (i+1)) Z w w2 P.1):=⟨HE2,HK2.out,HS2.out,HL2.out,HG2.out⟩;rw[hp];clear hp HE2 HK2 HS2 HL2 HG2;go_wp2
    go_roundg (m - (i+1))
    case measure=>omega
    case rel=>exact⟨i+1,by simp,om,AM _,P.1,HI2.out⟩
   ·rw[AJ hp] at HE2;have HE3:=BB HE2;have HP:=BB hp;replace q:∀w,(binOp .neq 33 (errV P.2) .nilIface).run prog w=.ok (.bool true) w:=fun w=>by rw[q,AN hp];rfl
    clear hp HE2;go_wp2;go_ret;rw[HF.out,<-HE3.out,AJ HP.out];exact⟨rfl,HK2.out,HG2.out⟩
  ·have hltz:¬ (i:Int)<(m:Int):=om;have HZ2:Hid (Z=(Ki,0)):=by
    have e:=HI.out.eq;rw[Ax (by have:=HM.out;omega)] at e;exact e.symm
   obtain⟨d0,-⟩:=HI.out.sh.cell 0 dc;replace d0:wr.cell? ⟨x,0,none⟩=some (.int .i64 (S.fm:Nat)):=d0;have hlv:=Gp A wr Ki HI.out.core (S.fm:Nat);have HNX:=BB (HI.out.core.apartSh HI.out.sh);have HSr:=BB HI.out.sh;have HGr:=BB HI.out.chg;clear HI;go_wp2_with fail;refine hlv.mono ?_;rintro e w2 ⟨rfl,k2,g2⟩;have S2:=HSr.out.chg g2 HNX.out;obtain⟨e0,-⟩:=S2.cell 0 dc;replace e0:w2.cell? ⟨x,0,none⟩=some (.int .i64 (S.fm:Nat)):=e0;have hst:=NY A w2 _ k2 (S.fm:Nat) st;have HS2:=BB S2;have HG2:=BB (HGr.out.trans g2);clear hlv k2 g2 S2 d0 HSr HGr;go_wp2_with fail;refine hst.mono ?_;rintro e w3 ⟨rfl,k3,g3⟩;have HF2:Hid (cmK K S st=({ (if S.tt.o then stK { clK (stK (lvK Ki S.fm) S.fm st) with fr:=S.tt } S.tt.k 1 else stK (lvK Ki S.fm) S.fm st) with mv:=wrap64 ((if S.tt.o then stK { clK (stK (lvK Ki S.fm) S.fm st) with fr:=S.tt } S.tt.k 1 else stK (lvK Ki S.fm) S.fm st).mv+m) },0)):=by
    show cmK K S st=_;rw[HF.out,HZ2.out];rfl
   clear HF;generalize stK (lvK Ki S.fm) S.fm st=K3 at *
   have S3:=HS2.out.chg g3 HNX.out;have hbl:=AC.Db w3 x 163 7 _ 3 S.tt S3.front;unfold AC.blV at hbl;have HK3:=BB k3;have HS3:=BB S3;have HG3:=BB (HG2.out.trans g3);clear hst k3 g3 e0 S3 HS2 HG2;cases ho:S.tt.o
   ·rw[ho] at hbl;replace hbl:Calls prog 85 #[.pointer (some ⟨x,3,none⟩)] w3 fun e w'=>e=.returned (.int .i64 (-1))/\w'=w3:=hbl;have HF3:Hid (cmK K S st=({ K3 with mv:=wrap64 (K3.mv+m) },0)):=by
     show cmK K S st=_;rw[HF2.out,ho];rfl
    obtain⟨e6,-⟩:=HS3.out.cell 6 dc;replace e6:w3.cell? ⟨x,6,none⟩=some (.slice a m cap):=e6;obtain⟨c100,f100⟩:=HK3.out.cMv;have hwr:IntKind.i64.wrap (K3.mv+(m:Int))=wrap64 (K3.mv+(m:Int)):=(by rw[IntKind.wrap_i64];unfold wrap64;rfl);clear ho HF2;generalize wrap64 (K3.mv+(m:Int))=zz at *
    go_wp2_with (go_at_call 85;refine hbl.mono ?_;rintro e w3 ⟨rfl,rfl⟩);go_region
    all_goals
     go_wp2;go_ret;rw[HF3.out];exact⟨rfl,(HK3.out.setMv zz).drewN 1,(HG3.out.trans (Chg.cor_c ((Chg.refl (·=A.c) _).setCell (AK rfl) _ _))).drewN 1⟩
   ·rw[ho] at hbl;replace hbl:Calls prog 85 #[.pointer (some ⟨x,3,none⟩)] w3 fun e w'=>e=.returned (.int .i64 (S.tt.k:Nat))/\w'=w3:=hbl;have HF3:Hid (cmK K S st=({ stK { clK K3 with fr:=S.tt } S.tt.k 1 with mv:=wrap64 ((stK { clK K3 with fr:=S.tt } S.tt.k 1).mv+m) },0)):=by
     show cmK K S st=_;rw[HF2.out,ho];rfl
    have hz:(((S.tt.k:Nat):Int) == -1)=false:=(by simp);have hcl:=Gn A w3 K3 HK3.out;clear ho HF2;go_wp2_with (go_at_call 85;refine hbl.mono ?_;rintro e w3 ⟨rfl,rfl⟩);refine hcl.mono ?_;rintro e w4 ⟨rfl,k4,g4⟩;have S4:=HS3.out.chg g4 HNX.out;obtain⟨e3,-⟩:=S4.cell 3 dc;obtain⟨e4,-⟩:=S4.cell 4 dc;obtain⟨e5,-⟩:=S4.cell 5 dc;replace e3:w4.cell? ⟨x,3,none⟩=some (.bool S.tt.o):=e3;replace e4:w4.cell? ⟨x,4,none⟩=some (.int .i64 (S.tt.k:Nat)):=e4;replace e5:w4.cell? ⟨x,5,none⟩=some (.int .i64 (S.tt.i:Nat)):=e5;generalize clK K3=K4 at *
    obtain⟨f,hf,back⟩:=QB.front k4.core;have HFB:=BB hf;have HBK:=BB back;have HK4:=BB k4;have HS4:=BB S4;have HG4:=BB (HG3.out.trans g4);clear hbl hcl k4 g4 S4 hf back HK3 HS3 HG3;go_wp2_with (refine AC.CF rfl (.tmp 54) (.tmp 52) rfl A.c 79 rfl S.tt rfl HFB.out ?_);intro w5 F5 G5;have K5:=HK4.out.setFr (HBK.out w5 _ F5) G5 HOK.out;have hst:=NY A w5 _ K5 (S.tt.k:Nat) 1;have HS5:=BB (HS4.out.chg (Chg.cor_c (A:=A) G5) HNX.out);have HG5:=BB (HG4.out.trans (Chg.cor_c G5));clear F5 G5 K5 e3 e4 e5 HFB HBK HK4 HS4 HG4;go_wp2_with fail;refine hst.mono ?_;rintro e w6 ⟨rfl,k6,g6⟩;generalize stK { K4 with fr:=S.tt } S.tt.k 1=K6 at *
    have S6:=HS5.out.chg g6 HNX.out;obtain⟨e6,-⟩:=S6.cell 6 dc;replace e6:w6.cell? ⟨x,6,none⟩=some (.slice a m cap):=e6;obtain⟨c100,f100⟩:=k6.cMv;have hwr:IntKind.i64.wrap (K6.mv+(m:Int))=wrap64 (K6.mv+(m:Int)):=(by rw[IntKind.wrap_i64];unfold wrap64;rfl);have HK6:=BB k6;have HG6:=BB (HG5.out.trans g6);clear hst k6 g6 S6 HS5 HG5;generalize wrap64 (K6.mv+(m:Int))=zz at *
    go_wp2_with fail;go_region
    all_goals
     go_wp2;go_ret;rw[HF3.out];exact⟨rfl,(HK6.out.setMv zz).drewN 1,(HG6.out.trans (Chg.cor_c ((Chg.refl (·=A.c) _).setCell (AK rfl) _ _))).drewN 1⟩
end
section
variable {w:Wd}{n base cap i x:Nat}{a:Option Addr}{l:List Int}{S:BW}{v:Value}
theorem Ss(w:Wd)(x y z u:Int)(l:Bool):(Instr.build 127 #[(0,.int .i64 x),(1,.int .i64 y),(2,.int .i64 z),(3,.int .i64 u),(4,.bool l)]).run prog w=.ok (.agg #[.int .i64 x,.int .i64 y,.int .i64 z,.int .i64 u,.bool l]) w:=kr
theorem fG(w:Wd):(zeroValue 114).run prog w=.ok (.agg #[.int .i64 0,.int .i64 0]) w:=kr
theorem Sr.nil:Sr []:=fun _ h=>by cases h
theorem Ow.at_(h:AA.Ow w base (.slice a n cap) l){z:Int}(hi:l[i]?=some z):∃g,a=some ⟨g,0,none⟩/\w.cell? ⟨g,i,none⟩=some (.int .i64 z)/\base<=g:=by
 have hcl:=fun g hg=>World.ownsRow.cells (g:=g) h hg;have hlt:=(List.getElem?_eq_some_iff.1 hi).1;rcases h.2 with ⟨_,e⟩ | ⟨g,cap',cur,hv,hg,_⟩
 ·omega
 ·have ea:a=some ⟨g,0,none⟩:=by
   simp only[Value.slice.injEq] at hv;exact hv.1
  refine⟨g,ea,?_,hg⟩;have:=hcl g (by rw[hv];rfl) i (.int .i64 z) (by rw[List.getElem?_map,hi];rfl);rw[Addr.add_mid,AW] at this;exact this
theorem Ow.len(h:AA.Ow w base (.slice a n cap) l)(hn:n=l.length):n<=cap:=by
 rcases h.2 with ⟨_,e⟩ | ⟨g,cap',cur,hv,hg,_,hc,_⟩
 ·omega
 ·simp only[Value.slice.injEq] at hv;omega
theorem ShAt.setLd(h:ShAt w x S v)(v':Value)(l:List Bu):ShAt (w.setCell ⟨x,6,none⟩ v') x { S with ld:=l } v':=by
 refine Sto.ext (Sto.setCells [v'] 6 h) fun i hi=>?_;rw[Bj];have:i=0\/i=1\/i=2\/i=3\/i=4\/i=5\/i=6:=om
 rcases this with rfl | rfl | rfl | rfl | rfl | rfl | rfl <;> rfl
def me (bd:Bool) (r:List Nat) (Y:BC × List Nat × Bool × Nat) (t:BC × BW × Nat × Nat) (o:Nat):BC × BW × Nat:=
 if (prM t.1 ⟨t.2.2.1,o,t.1.vs o,(t.1.vc o+1) % 256,Y.2.2.1⟩ Y.2.1).2≠0 then ((prM t.1 ⟨t.2.2.1,o,t.1.vs o,(t.1.vc o+1) % 256,Y.2.2.1⟩ Y.2.1).1,t.2.1,(prM t.1 ⟨t.2.2.1,o,t.1.vs o,(t.1.vc o+1) % 256,Y.2.2.1⟩ Y.2.1).2) else cpK bd r (prM t.1 ⟨t.2.2.1,o,t.1.vs o,(t.1.vc o+1) % 256,Y.2.2.1⟩ Y.2.1).1 { t.2.1 with ld:=t.2.1.ld ++ [⟨t.2.2.1,o,t.1.vs o,(t.1.vc o+1) % 256,Y.2.2.1⟩] }
def lz (bd:Bool) (r:List Nat) (Y:BC × List Nat × Bool × Nat) (S:BW) (o:Nat):BC × BW × Nat:=
 if (tiK Y.1 S o).2.2.2≠0 then ((tiK Y.1 S o).1,(tiK Y.1 S o).2.1,(tiK Y.1 S o).2.2.2) else me bd r Y (tiK Y.1 S o) o
theorem Vo(bd:Bool)(r:List Nat)(K:BC)(S:BW)(o:Nat)(h:¬ (bd=true/\o=24)):cpK bd (o :: r) K S=if (coK K o).2.2.2≠0 then ((coK K o).1,S,(coK K o).2.2.2) else lz bd r (coK K o) S o:=by
 rw[cpK,AI h];rfl
structure Cpi (A:Ad) (K:BC) (S:BW) (x n:Nat) (bd:Bool) (r:List Nat) (Z:BC × BW × Nat) (v0:Value) (l0:List Int) (w1 wr:Wd) (i:Nat) (Ki:BC) (Si:BW) (v:Value):Prop where
 eq:cpK bd r Ki Si=Z
 core:CoreAt A wr Ki
 sh:ShAt wr x Si v
 lad:Lad wr w1.heap.size v Si.ld
 ok:AC.E9 Si.tt
 kep:Ln K Ki
 sm:Sm S Si
 tgs:Sr Si.ld
 len:Si.ld.length<=i
 inn:AA.Ow wr n v0 l0
 chg:Chg (fun k=>YV A x k\/w1.heap.size<=k) w1 wr
theorem Cpi.out{A:Ad}{K:BC}{bd:Bool}{r:List Nat}{Z:BC × BW × Nat}{v0:Value}{l0:List Int}{w1 wr:Wd}{Ki:BC}{Si:BW}(h:Cpi A K S x n bd r Z v0 l0 w1 wr i Ki Si v)(hw:Chg No w w1)(hi:i<=8)(hr:(Ki,Si)=(Z.1,Z.2.1)) :CoreAt A wr Z.1/\ShAt wr x Z.2.1 v/\Lad wr w.heap.size v Z.2.1.ld/\AC.E9 Z.2.1.tt/\Sm S Z.2.1/\Sr Z.2.1.ld/\Z.2.1.ld.length<=8/\Ln K Z.1/\Chg (YV A x) w wr:=by
 obtain⟨h1,h2⟩:=Prod.mk.inj hr;subst h1 h2;exact⟨h.core,h.sh,h.lad.lower hw.size,h.ok,h.sm,h.tgs,AY h.len hi,h.kep,(hw.mono (fun _ _ f=>f.elim)).trans' h.chg (fun k hk e=>e.elim id (fun e=>by have:=hw.size;omega))⟩
theorem Lp(A:Ad)(w:Wd)(K:BC)(h:CoreAt A w K)(x:Nat)(S:BW)(hS:ShAt w x S (.slice none 0 0))(ok:AC.E9 S.tt)(hfm:S.fm<12)(hld:S.ld=[])(bd:Bool)(Z:BC × BW × Nat)(hZ:cpK bd ((AA.ofL K.L S.fm).map Int.toNat) K S=Z) :Calls prog 189 #[.pointer (some ⟨A.c,0,none⟩),.pointer (some ⟨x,0,none⟩),.bool bd] w fun e w'=>∃v,e=.returned (errV Z.2.2)/\CoreAt A w' Z.1/\ShAt w' x Z.2.1 v/\Lad w' w.heap.size v Z.2.1.ld/\AC.E9 Z.2.1.tt/\Sm S Z.2.1/\Sr Z.2.1.ld/\Z.2.1.ld.length<=8/\Ln K Z.1/\Chg (YV A x) w w':=by
 obtain⟨c2,-⟩:=h.cMap;obtain⟨d0,-⟩:=hS.cell 0 dc;replace d0:w.cell? ⟨x,0,none⟩=some (.int .i64 (S.fm:Nat)):=d0;have q:=Bn;have g:=BL;have HK:=BB h;have HS:=BB hS;have HOK:=BB ok;have HFM:=BB hfm;have HLD:=BB hld;have HZ:=BB hZ;have HLOW:=BB h.low;have hxl:=hS.lt;clear h hS ok hfm hld hZ;go_enter func189,ntmps189;go_wp2_with fail
 go_region_held3 (fun wx=>wx.cell? ⟨A.c,2,none⟩=some (.pointer (some ⟨A.ma,0,none⟩))/\wx.cell? ⟨x,0,none⟩=some (.int .i64 (S.fm:Nat)))
  (first | exact⟨c2,d0⟩ | exact⟨z2,y0⟩)
  (first | (go_at_call 146;refine(AA.U0 _ A.ma K.L (HK.out.drewN 1).map S.fm HFM.out).mono ?_;rintro e w1 ⟨⟨a,cap,rfl,hO⟩,g1⟩;have K1:=(HK.out.drewN 1).chg0 g1;have S1:=(HS.out.chg (Chg.refl No w).drew (fun f=>f)).chg g1 (fun f=>f);obtain⟨z2,-⟩:=K1.cMap;have y0:w1.cell? ⟨x,0,none⟩=some (.int .i64 (S.fm:Nat)):=(S1.cell 0 dc).1;have HK1:=BB K1;have HS1:=BB S1;have HO1:=BB hO;have HG1:=BB ((Chg.refl No w).drew.trans g1);clear K1 S1 hO g1))
 all_goals
  have hs1:=HG1.out.size;have HO2:Hid (AA.Ow w1 w.heap.size (.slice a (AA.ofL K.L S.fm).length cap) (AA.ofL K.L S.fm)):=HO1.out;have HL8:Hid ((AA.ofL K.L S.fm).length<=8):=AA.CT K.L S.fm 8;have HMEM:Hid (∀z ∈ AA.ofL K.L S.fm,∃o:Nat,o<25/\z=o/\K.L o≠-1):=fun z hz=>Vm hz;clear c2 d0 z2 y0 HO1 HK;obtain⟨n,HN⟩:∃n,Hid (n=(AA.ofL K.L S.fm).length):=⟨_,rfl⟩;generalize AA.ofL K.L S.fm=l at *
  rw[<-HN.out] at HO2 HL8 ⊢;have q0:∀w,(binOp .neq 33 (errV 0) .nilIface).run prog w=.ok (.bool false) w:=fun w=>q 0 w;have hn8:n<=8:=HL8.out;have HCAP:=BB (Ow.len HO2.out HN.out);go_wp2_with fail
  go_loopg [35] n (fun kx s35 wr=>∃i:Nat,s35=.int .i64 i/\i<=n/\n - i<=kx/\∃Ki Si v,Hid (Cpi A K S x w.heap.size bd ((l.map Int.toNat).drop i) Z (.slice a n cap) l w1 wr i Ki Si v))
  case atStart=>exact⟨0,rfl,om,om,K,S,_,⟨HZ.out,HK1.out,HS1.out,by rw[HLD.out];exact Lad.nil _ _,HOK.out,Ln.refl K,⟨rfl,rfl,rfl⟩,by rw[HLD.out];exact Sr.nil,by rw[HLD.out];exact AM 0,HO2.out,Chg.refl _ _⟩⟩
  case round=>
   obtain⟨i,rfl,hin,hkx,Ki,Si,v,HI⟩:=hrel;by_cases hlt:i<n
   ·have hltz:(i:Int)<(n:Int):=om;obtain⟨z,hz⟩:∃z,l[i]?=some z:=⟨_,AU (by have:=HN.out;omega)⟩;obtain⟨o,ho,rfl,hlo⟩:=HMEM.out z (mem_of_getElem? hz);obtain⟨gi,rfl,ci,hgi⟩:=Ow.at_ HI.out.inn hz;have HDR:Hid ((l.map Int.toNat).drop i=o :: (l.map Int.toNat).drop (i+1)):=by
     show (l.map Int.toNat).drop i=o :: (l.map Int.toNat).drop (i+1);rw[drop_eq_getElem_cons (by rw[A7];have:=HN.out;omega)];congr 1;rw[getElem_map];have:=(List.getElem?_eq_some_iff.1 hz).2;rw[this];rfl
    have hHO:=BB ho;have HLO:=BB hlo;clear hz ho hlo;by_cases hsk:bd=true/\o=24
    ·obtain⟨rfl,rfl⟩:=hsk;have HI2:Hid (Cpi A K S x w.heap.size true ((l.map Int.toNat).drop (i+1)) Z (.slice (some ⟨gi,0,none⟩) n cap) l w1 wr (i+1) Ki Si v):=by
      have e:=HI.out.eq;rw[HDR.out,cpK,AJ ⟨rfl,rfl⟩] at e;exact⟨e,HI.out.core,HI.out.sh,HI.out.lad,HI.out.ok,HI.out.kep,HI.out.sm,HI.out.tgs,Nat.le_succ_of_le HI.out.len,HI.out.inn,HI.out.chg⟩
     clear HI HDR;go_wp2
     go_roundg (n - (i+1))
     case measure=>omega
     case rel=>exact⟨i+1,by simp,om,AM _,Ki,Si,v,HI2.out⟩
    ·have HEQ:Hid ((if (coK Ki o).2.2.2≠0 then ((coK Ki o).1,Si,(coK Ki o).2.2.2) else lz bd ((l.map Int.toNat).drop (i+1)) (coK Ki o) Si o)=Z):=by
      have e:=HI.out.eq;rw[HDR.out,Vo _ _ _ _ _ hsk] at e;exact e
     have hs2:bd=false\/(bd=true/\(((o:Nat):Int) == 24)=false):=by
      cases bd
      ·exact AK rfl
      ·right;refine⟨rfl,?_⟩;have:¬ o=24:=fun e=>hsk ⟨rfl,e⟩;simp;omega
     have hco:=Sp A wr Ki HI.out.core o hHO.out;have HYK:=BB (PT Ki o);generalize coK Ki o=Y at *
     clear hsk;rcases hs2 with rfl | ⟨rfl,hoz⟩
     all_goals
      go_wp2_with fail;refine hco.mono ?_;rintro e w2 ⟨vd,rfl,hD,k2,g2⟩;have HD:=BB hD;have HK2:=BB k2;have HS2:=BB (HI.out.sh.chg g2 (HI.out.core.apartSh HI.out.sh));have HL2:=BB (HI.out.lad.chg g2 (HI.out.lad.noCor HI.out.core));have HO3:=BB (HI.out.inn.chg g2 (fun k hk e f=>by have:=(HI.out.inn.block e).1;have:=HLOW.out _ (AK f);omega));have HG2:=BB (HI.out.chg.trans (g2.mono (fun _ _ e=>AK (AK e))));have HKP2:=BB (HI.out.kep.trans HYK.out);have hsr:=g2.size;clear hco hD k2 g2;by_cases hy:Y.2.2.2=0
      ·have HE2:=HEQ.out;rw[AI (by rw[hy];simp)] at HE2;unfold lz at HE2;have HE3:=BB HE2;have HY:=BB hy;have hti:=Na A w2 Y.1 HK2.out x Si v HS2.out HI.out.ok o;have HPL:=BB (Ko Y.1 Si o HK2.out.wf HI.out.ok);have HTK:=BB (Lo Y.1 Si o);have HTS:=BB (PV Y.1 Si o);generalize tiK Y.1 Si o=t at *
       rw[hy];clear hy HE2 HEQ;go_wp2_with fail;refine hti.mono ?_;rintro e w3 ⟨rfl,k3,s3,ok3,g3⟩;have HK3:=BB k3;have HS3:=BB s3;have HOK3:=BB ok3;have HL3:=BB (HL2.out.chg g3 (fun k hk e=>e.elim (HL2.out.noCor HK2.out k hk) (HL2.out.noSh HS2.out k hk)));have HO4:=BB (HO3.out.chg g3 (fun k hk e f=>by have:=(HI.out.inn.block e).1;exact f.elim (fun f=>by have:=HLOW.out _ (AK f);omega) (fun f=>om)));have HG3:=BB (HG2.out.trans (g3.mono (fun _ _ e=>AK e)));have HKP3:=BB (HKP2.out.trans HTK.out);have HM3:=BB g3;have hsr3:=g3.size;clear hti k3 s3 ok3 g3;by_cases ht:t.2.2.2=0
       ·have HE5:=HE3.out;rw[AI (by rw[ht];simp)] at HE5;unfold me at HE5;have HE6:=BB HE5;have HPL2:=BB (HPL.out ht);obtain⟨gd,capd,rfl,hgd,hA,hDl,hDb⟩:=HD.out HY.out;obtain⟨cs,-⟩:=HK3.out.cVs o hHO.out;obtain⟨cc,-⟩:=HK3.out.cVc o hHO.out;have hvc:=HK3.out.wf.vc o hHO.out;have HTG:Hid (o<25/\(1<=t.1.vs o/\t.1.vs o<=1099511627775)/\(t.1.vc o+1) % 256<256):=⟨hHO.out,⟨HK3.out.wf.vp o hHO.out (by rw[HKP3.out.1];exact HLO.out),HK3.out.wf.vs o hHO.out⟩,Nat.mod_lt _ dc⟩;have hoz2:((o:Nat):Int)<25:=(by have:=hHO.out;omega);have hbt:=Ss;have hzt:=Gs;have hz89:=fG;have hrem:IntKind.i64.wrap (((t.1.vc o:Nat):Int)+1)=((t.1.vc o+1:Nat):Int):=(by rw[IntKind.wrap_i64];omega);have hrem2:(((t.1.vc o+1:Nat):Int)).tmod 256=(((t.1.vc o+1) % 256:Nat):Int):=(by rw[Av om];omega);have HA:=BB hA;have HDL:=BB hDl;have HDB:=BB hDb;have HGD:=BB hgd;rw[ht];clear ht HE3 HE5 HD hA hDl hDb HPL hgd;generalize (t.1.vc o+1) % 256=cc1 at *
        generalize t.1.vc o+1=cc0 at *
        go_wp2_with fail;obtain⟨w4,hw4⟩:∃w4,w4=((w3.alloc (.cells #[.int .i64 (t.1.vs o:Nat),.int .i64 (t.1.vc o:Nat)] 114)).alloc (.cells #[.int .i64 (t.2.2.1:Nat),.int .i64 (o:Nat),.int .i64 (t.1.vs o:Nat),.int .i64 (cc1:Nat),.bool Y.2.2.1] 127)):=⟨_,rfl⟩;rw[<-hw4];have GA:Chg No w3 w4:=(by rw[hw4];exact((Chg.refl _ w3).alloc _).alloc _);have T4:Tg w4 (w3.heap.size+1) (t.2.2.1:Nat) (o:Nat) (t.1.vs o:Nat) (cc1:Nat) Y.2.2.1:=by
         rw[hw4];have e:=Tg.new (w3.alloc (.cells #[.int .i64 (t.1.vs o:Nat),.int .i64 (t.1.vc o:Nat)] 114)) (t.2.2.1:Nat) (o:Nat) (t.1.vs o:Nat) (cc1:Nat) Y.2.2.1;rw[show (w3.alloc (.cells #[.int .i64 (t.1.vs o:Nat),.int .i64 (t.1.vc o:Nat)] 114)).heap.size=w3.heap.size+1 by simp] at e;exact e
        have hsw:=HI.out.chg.size;have hnc:¬ Cor A gd:=fun e=>by have:=HLOW.out _ (AK e);have:=HGD.out;omega
        have hnx:¬ gd=x:=fun e=>by have:=HGD.out;omega
        have hnt:¬ Cor A (w3.heap.size+1):=fun e=>by have:=HLOW.out _ (AK e);omega
        have hpr:=aB A w4 t.1 (HK3.out.chg0 GA) ⟨t.2.2.1,o,t.1.vs o,cc1,Y.2.2.1⟩ HPL2.out.1 HPL2.out.2 HTG.out gd 0 capd Y.2.1 HDL.out HDB.out ((HA.out.chg HM3.out (fun e=>e.elim hnc hnx)).chg GA (fun f=>f)) hnc;have HPK:=BB (PU t.1 ⟨t.2.2.1,o,t.1.vs o,cc1,Y.2.2.1⟩ Y.2.1);generalize prM t.1 ⟨t.2.2.1,o,t.1.vs o,cc1,Y.2.2.1⟩ Y.2.1=P at *
        refine hpr.mono ?_;rintro e w5 ⟨rfl,k5,g5⟩;have HK5:=BB k5;have HS5:=BB ((HS3.out.chg GA (fun f=>f)).chg g5 ((HK3.out.chg0 GA).apartSh (HS3.out.chg GA (fun f=>f))));have HL5:Hid (Lad w5 w1.heap.size v t.2.1.ld):=by
         show Lad w5 w1.heap.size v t.2.1.ld;rw[HTS.out.2];exact(HL3.out.new GA).chg g5 ((HL3.out.new GA).noCor (HK3.out.chg0 GA))
        have HO5:=BB ((HO4.out.new GA).chg g5 (fun k hk e f=>by have:=(HI.out.inn.block e).1;have:=HLOW.out _ (AK f);omega));have T5:=T4.chg g5 hnt;have HG5:=BB ((HG3.out.trans (GA.mono (fun _ _ f=>f.elim))).trans (g5.mono (fun _ _ e=>AK (AK e))));have HKP5:=BB (HKP3.out.trans HPK.out);have hsr4:=GA.size;have hsr5:=g5.size;clear hw4 hpr k5 g5 GA T4 cs cc hrem hrem2 hvc hnc hnx hnt hbt hzt hz89;by_cases hp:P.2=0
        ·have HE7:=HE6.out;rw[AI (by rw[hp];simp)] at HE7;have HE8:=BB HE7;obtain⟨d6,f6⟩:=HS5.out.cell 6 dc;replace d6:w5.cell? ⟨x,6,none⟩=some v:=d6;obtain⟨u0,u1,u2,u3,u4⟩:=T5.cells;have d6b:(w5.alloc (.cells #[.int .i64 (t.2.2.1:Nat),.int .i64 (o:Nat),.int .i64 (t.1.vs o:Nat),.int .i64 (cc1:Nat),.bool Y.2.2.1] 127)).cell? ⟨x,6,none⟩=some v:=(World.cell?_alloc_some _ _ _ (by rw[d6];rfl)).trans d6;have G6:Chg No w5 ((w5.alloc (.cells #[.int .i64 (t.2.2.1:Nat),.int .i64 (o:Nat),.int .i64 (t.1.vs o:Nat),.int .i64 (cc1:Nat),.bool Y.2.2.1] 127)).drew):=((Chg.refl No w5).alloc _).drew;have HL6:=BB (HL5.out.new G6);have HT6:Hid (Tg (w5.alloc (.cells #[.int .i64 (t.2.2.1:Nat),.int .i64 (o:Nat),.int .i64 (t.1.vs o:Nat),.int .i64 (cc1:Nat),.bool Y.2.2.1] 127)).drew w5.heap.size (t.2.2.1:Nat) (o:Nat) (t.1.vs o:Nat) (cc1:Nat) Y.2.2.1):=(Tg.new w5 (t.2.2.1:Nat) (o:Nat) (t.1.vs o:Nat) (cc1:Nat) Y.2.2.1);have HG6:=BB G6;have hlen:t.2.1.ld.length<=1048576:=(by rw[HTS.out.2];exact AY HI.out.len om);have HLEN:=BB hlen;have HBASE:Hid (w1.heap.size<=(w5.alloc (.cells #[.int .i64 (t.2.2.1:Nat),.int .i64 (o:Nat),.int .i64 (t.1.vs o:Nat),.int .i64 (cc1:Nat),.bool Y.2.2.1] 127)).drew.heap.size):=AY (show w1.heap.size<=w5.heap.size by omega) G6.size;have HVO:Hid (∀k,v.ownBlock=some k->¬ k=x):=HL5.out.noSh HS5.out;have HVC:Hid (∀k,v.ownBlock=some k->Ty w5 k 127/\w1.heap.size<=k/\k<w5.heap.size):=fun k hk=>HL5.out.ty hk;have HP:=BB hp;rw[hp];clear hp HE7 HE6 G6 hlen T5;generalize t.1.vs o=vs1 at *
         generalize t.2.2.1=pl at *
         generalize Y.2.2.1=lo at *
         go_wp2_with fail
         go_region_law (refine El _ rfl (.tmp 91) (.tmp 93) rfl w1.heap.size v t.2.1.ld (by simp[Act.eval]) HL6.out w5.heap.size 1 ⟨pl,o,vs1,cc1,lo⟩ (by simp[Act.eval]) HT6.out HLEN.out HBASE.out ?_;intro g6 cap6 w6 hL hC;have S6:=(HS5.out.chg HG6.out (fun f=>f)).chg hC (fun e=>HVO.out _ e rfl);obtain⟨d7,f7⟩:=S6.cell 6 dc;have HL7:=BB hL;have HC7:=BB hC;have HS7:=BB S6;clear hL hC S6)
         all_goals
          have GX:Chg (·=x) w6 (w6.setCell ⟨x,6,none⟩ (.slice (some ⟨g6,0,none⟩) (t.2.1.ld.length+1) cap6)):=(Chg.refl (·=x) w6).setCell (AK rfl) _ _;have HX:=BB GX;have HI2:=BB (Cpi.mk (A:=A) (K:=K) (S:=S) (n:=w.heap.size) (v0:=.slice (some ⟨gi,0,none⟩) n cap) (l0:=l) (w1:=w1) (i:=i+1) HE8.out (((HK5.out.chg0 HG6.out).offTy (fun k _ e=>AL (HL6.out.ty e).1) HC7.out).offSh HS7.out HX.out) (HS7.out.setLd _ _) (HL7.out.chg HX.out (HL7.out.noSh HS7.out)) HOK3.out HKP5.out ⟨HTS.out.1.1.trans HI.out.sm.1,HTS.out.1.2.1.trans HI.out.sm.2.1,HTS.out.1.2.2.trans HI.out.sm.2.2⟩
           (by show Sr (t.2.1.ld ++ [_]);rw[HTS.out.2];exact HI.out.tgs.app HTG.out)
           (by show (t.2.1.ld ++ [_]).length<=i+1;rw[HTS.out.2,AV];exact Nat.succ_le_succ HI.out.len)
           (((HO5.out.new HG6.out).chg HC7.out (fun k hk e f=>by have:=(HO2.out.block e).2;have:=(HVC.out k f).2.1;omega)).chg HX.out (fun k hk e f=>by have:=(HO2.out.block e).1;omega))
           (((HG5.out.trans (HG6.out.mono (fun _ _ f=>f.elim))).trans (HC7.out.mono (fun k _ e=>AL (HVC.out k e).2.1))).trans (HX.out.mono (fun _ _ e=>AK (AL e)))))
          clear GX HX HE8 HK5 HL6 HC7 HS7 HL7 HI HO5 HG5 HG6;go_wp2
          go_roundg (n - (i+1))
          case measure=>omega
          case rel=>exact⟨i+1,by simp,om,AM _,_,_,_,HI2.out⟩
        ·replace q:∀w,(binOp .neq 33 (errV P.2) .nilIface).run prog w=.ok (.bool true) w:=fun w=>by rw[q,AN hp];rfl
         have HE9:=HE6.out;rw[AJ hp] at HE9;have HE4:=BB HE9;clear HE6 HE9 hp;generalize P.2=p2 at *
         go_wp2;go_ret;rw[<-HE4.out];exact⟨v,rfl,HK5.out,HS5.out,HL5.out.lower om,HOK3.out,⟨HTS.out.1.1.trans HI.out.sm.1,HTS.out.1.2.1.trans HI.out.sm.2.1,HTS.out.1.2.2.trans HI.out.sm.2.2⟩,by rw[HTS.out.2];exact HI.out.tgs,by rw[HTS.out.2];exact AY HI.out.len om,HKP5.out,(HG1.out.mono (fun _ _ f=>f.elim)).trans' HG5.out (fun k hk e=>e.elim id (fun e=>om))⟩
       ·replace q:∀w,(binOp .neq 33 (errV t.2.2.2) .nilIface).run prog w=.ok (.bool true) w:=fun w=>by rw[q,AN ht];rfl
        have HE4:Hid ((t.1,t.2.1,t.2.2.2)=Z):=by
         have e:=HE3.out;rw[AJ ht] at e;exact e
        clear HE3;generalize t.2.2.2=t2 at *
        go_wp2;go_ret;rw[<-HE4.out];exact⟨v,rfl,HK3.out,HS3.out,by rw[HTS.out.2];exact HL3.out.lower om,HOK3.out,⟨HTS.out.1.1.trans HI.out.sm.1,HTS.out.1.2.1.trans HI.out.sm.2.1,HTS.out.1.2.2.trans HI.out.sm.2.2⟩,by rw[HTS.out.2];exact HI.out.tgs,by rw[HTS.out.2];exact AY HI.out.len om,HKP3.out,(HG1.out.mono (fun _ _ f=>f.elim)).trans' HG3.out (fun k hk e=>e.elim id (fun e=>om))⟩
      ·replace q:∀w,(binOp .neq 33 (errV Y.2.2.2) .nilIface).run prog w=.ok (.bool true) w:=fun w=>by rw[q,AN hy];rfl
       have HE4:Hid ((Y.1,Si,Y.2.2.2)=Z):=by
        have e:=HEQ.out;rw[AJ hy] at e;exact e
       clear HEQ hy;generalize Y.2.2.2=y2 at *
       go_wp2;go_ret;rw[<-HE4.out];exact⟨v,rfl,HK2.out,HS2.out,HL2.out.lower om,HI.out.ok,HI.out.sm,HI.out.tgs,by exact AY HI.out.len om,HKP2.out,(HG1.out.mono (fun _ _ f=>f.elim)).trans' HG2.out (fun k hk e=>e.elim id (fun e=>om))⟩
   ·have hltz:¬ (i:Int)<(n:Int):=om;have e:cpK bd ((l.map Int.toNat).drop i) Ki Si=(Ki,Si,0):=by
     rw[Ax (by rw[A7];have:=HN.out;omega)];rfl
    have HE:Hid ((Ki,Si,0)=Z):=e.symm.trans HI.out.eq;clear e;go_wp2;go_ret;obtain⟨r1,r2⟩:=HI.out.out HG1.out om (by rw[<-HE.out]);exact⟨by rw[<-HE.out];rfl,r1,v,r2⟩
end
theorem Vp(H:Dp)(K:BC)(p o:Nat):frK H K p o=if K.sp then (K,YU,14) else if (prK (sqK K) ⟨p,o,K.nx,0,false⟩ (H (sqK K) K.nx)).2≠0 then ((prK (sqK K) ⟨p,o,K.nx,0,false⟩ (H (sqK K) K.nx)).1,YU,(prK (sqK K) ⟨p,o,K.nx,0,false⟩ (H (sqK K) K.nx)).2) else (if o=24 then ntK (prK (sqK K) ⟨p,o,K.nx,0,false⟩ (H (sqK K) K.nx)).1 else (prK (sqK K) ⟨p,o,K.nx,0,false⟩ (H (sqK K) K.nx)).1,⟨p,o,K.nx,0,false⟩,0):=rfl
theorem Qz(H:Dp)(K:BC)(p o:Nat)(h:(frK H K p o).2.2=0):(frK H K p o).2.1=⟨p,o,K.nx,0,false⟩:=by
 rw[Vp] at h ⊢;generalize prK (sqK K) ⟨p,o,K.nx,0,false⟩ (H (sqK K) K.nx)=z at h ⊢;cases hs:K.sp
 ·rw[hs,AI dc] at h;rw[AI dc];by_cases hz:z.2=0
  ·rw[AI (by rw[hz];simp)]
  ·rw[AJ hz] at h;exact absurd h hz
 ·rw[hs,AJ rfl] at h;cases h
def mf (t:BC × BW × Nat × Nat) (fm:Nat):BC × BW × Nat:=
 if (frK (bdH fm) t.1 t.2.2.1 24).2.2≠0 then ((frK (bdH fm) t.1 t.2.2.1 24).1,t.2.1,(frK (bdH fm) t.1 t.2.2.1 24).2.2) else
 ((cmK (frK (bdH fm) t.1 t.2.2.1 24).1 { t.2.1 with ld:=t.2.1.ld ++ [(frK (bdH fm) t.1 t.2.2.1 24).2.1] } 3).1,{ t.2.1 with ld:=t.2.1.ld ++ [(frK (bdH fm) t.1 t.2.2.1 24).2.1] },(cmK (frK (bdH fm) t.1 t.2.2.1 24).1 { t.2.1 with ld:=t.2.1.ld ++ [(frK (bdH fm) t.1 t.2.2.1 24).2.1] } 3).2)
theorem fH(K:BC)(S:BW):cbK K S=if (tiK K S 24).2.2.2≠0 then ((tiK K S 24).1,(tiK K S 24).2.1,(tiK K S 24).2.2.2) else mf (tiK K S 24) S.fm:=rfl
theorem D0(A:Ad)(w:Wd)(K:BC)(h:CoreAt A w K)(x n:Nat)(S:BW)(v:Value)(hS:ShAt w x S v)(hL:Lad w n v S.ld)(hn:n<=w.heap.size)(ok:AC.E9 S.tt)(hfm:S.fm<12)(hT:Sr S.ld)(hlen:S.ld.length<=1000)(Z:BC × BW × Nat)(hZ:cbK K S=Z) :Calls prog 190 #[.pointer (some ⟨A.c,0,none⟩),.pointer (some ⟨x,0,none⟩)] w fun e w'=>∃v',e=.returned (errV Z.2.2)/\CoreAt A w' Z.1/\ShAt w' x Z.2.1 v'/\Lad w' n v' Z.2.1.ld/\AC.E9 Z.2.1.tt/\Sm S Z.2.1/\Chg (fun k=>YV A x k\/n<=k) w w':=by
 have G0:Chg No w (w.alloc (.cells #[.pointer (some ⟨x,0,none⟩)] 160)):=(Chg.refl _ w).alloc _;have K0:=h.chg0 G0;have S0:=hS.chg G0 (fun f=>f);have L0:=hL.new G0;have hti:=Na A _ K K0 x S v S0 ok 24;have HPL:=BB (Ko K S 24 h.wf ok);have HTK:=BB (Lo K S 24);have HTS:=BB (PV K S 24);have HLOW:=BB h.low;have hxl:=hS.lt;have hB0:(w.alloc (.cells #[.pointer (some ⟨x,0,none⟩)] 160)).cell? ⟨w.heap.size,0,none⟩=some (.pointer (some ⟨x,0,none⟩)):=by
  have h1:(w.alloc (.cells #[.pointer (some ⟨x,0,none⟩)] 160)).heap[w.heap.size]?=some (.cells #[.pointer (some ⟨x,0,none⟩)] 160):=(show (w.heap.push _)[w.heap.size]?=_ by simp);rw[cell_of_row _ _ _ _ _ _ h1];rfl
 have HE3:=BB ((fH K S).symm.trans hZ);have HC0:=BB K0;have HS0:=BB S0;have HL0:=BB L0;have HG0:=BB G0;have HVL:Hid (∀k,v.ownBlock=some k->n<=k/\k<w.heap.size):=fun k hk=>(hL.ty hk).2;have HT:=BB hT;have HLEN:=BB hlen;have HFM:=BB hfm;have HN:=BB hn;have q:=Bn;have g:=BL;have hsz0:(w.alloc (.cells #[.pointer (some ⟨x,0,none⟩)] 160)).heap.size=w.heap.size+1:=by simp
 clear h hS hL ok hfm hT hlen hZ G0 K0 S0 L0 hn;go_enter func190,ntmps190;go_wp2_with fail;generalize (w.alloc (.cells #[.pointer (some ⟨x,0,none⟩)] 160))=w0 at *
 generalize tiK K S 24=t at *
 refine hti.mono ?_;rintro e w3 ⟨rfl,k3,s3,ok3,g3⟩;have hnb:¬ Cor A w.heap.size:=fun e=>by have:=HLOW.out _ (AK e);omega
 have B3:w3.cell? ⟨w.heap.size,0,none⟩=some (.pointer (some ⟨x,0,none⟩)):=(g3.cell om (fun e=>e.elim hnb (fun e=>om)) 0).trans hB0;have HNB:=BB hnb;have HK3:=BB k3;have HS3:=BB s3;have HOK3:=BB ok3;have HL3:=BB (HL0.out.chg g3 (fun k hk e=>e.elim (HL0.out.noCor HC0.out k hk) (HL0.out.noSh HS0.out k hk)));have HG3:=BB ((HG0.out.mono (fun _ _ f=>f.elim)).trans g3);have hs3:=g3.size;clear hti k3 s3 ok3 g3 hB0 hnb;by_cases ht:t.2.2.2=0
 ·have HE5:=HE3.out;rw[AI (by rw[ht];simp)] at HE5;unfold mf at HE5;have HE6:=BB HE5;have HPL2:=BB (HPL.out ht);have htl:=Fe w3 A.c 222 #[.pointer (some ⟨w.heap.size,0,none⟩)];have hmf:∀(fn:Fn) (first cap:Array Value) (w:Wd),(Instr.makeFunc fn first cap).run prog w=.ok (.func fn first cap) w:=fun _ _ _ _=>rfl;rw[ht];clear ht HE3 HE5 HPL;go_wp2_with fail;refine htl.mono ?_;rintro e w4 ⟨rfl,a1,a2,a3,g4⟩;have K4:=HK3.out.chg0 g4;have S4:=HS3.out.chg g4 (fun f=>f);have B4:=(g4.cell (World.block_lt_of_cell? w3 ⟨w.heap.size,0,none⟩ B3) (fun f=>f) 0).trans B3;obtain⟨d0,-⟩:=S4.cell 0 dc;replace d0:w4.cell? ⟨x,0,none⟩=some (.int .i64 (S.fm:Nat)):=by rw[<-HTS.out.1.1];exact d0
  have hlo:=HK3.out.low;have hmo:=Vh A w4 w.heap.size x S.fm B4 d0 HFM.out HNB.out (K4.apartSh S4) (World.block_lt_of_cell? w4 ⟨w.heap.size,0,none⟩ B4) S4.lt;have hH:=DY A w4 222 #[.pointer (some ⟨w.heap.size,0,none⟩)] _ hmo w3.heap.size (w3.heap.size+1) a1 a2 (fun e=>by have:=hlo _ (AK e);omega) (fun e=>by have:=hlo _ (AK e);omega) om om (Z5 S.fm);have hnx:=K4.wf.nx;have hfr:=Qx A w4 94 #[.pointer (some ⟨w3.heap.size,0,none⟩),.pointer (some ⟨w3.heap.size+1,0,none⟩)] _ hH w4 t.1 K4 (Chg.refl _ _) t.2.2.1 24 ⟨⟨by have:=HPL2.out.1;omega,om,om,om⟩,AK ⟨rfl,rfl⟩⟩;replace hfr:Calls prog 82 #[.pointer (some ⟨A.c,0,none⟩),.int .i64 (t.2.2.1:Nat),.int .i64 ((24:Nat):Int),.func (.func 94) #[] #[.pointer (some ⟨w3.heap.size,0,none⟩),.pointer (some ⟨w3.heap.size+1,0,none⟩)]] w4 fun e w'=>e=.returned (.tuple #[.agg #[.int .i64 ((frK (bdH S.fm) t.1 t.2.2.1 24).2.1.p:Nat),.int .i64 ((frK (bdH S.fm) t.1 t.2.2.1 24).2.1.o:Nat),.int .i64 ((frK (bdH S.fm) t.1 t.2.2.1 24).2.1.q:Nat),.int .i64 ((frK (bdH S.fm) t.1 t.2.2.1 24).2.1.c:Nat),.bool (frK (bdH S.fm) t.1 t.2.2.1 24).2.1.l],errV (frK (bdH S.fm) t.1 t.2.2.1 24).2.2])/\CoreAt A w' (frK (bdH S.fm) t.1 t.2.2.1 24).1/\Chg (Cor A) w4 w':=hfr;have HFT:=BB (Qz (bdH S.fm) t.1 t.2.2.1 24);have HNX:=BB hnx;generalize frK (bdH S.fm) t.1 t.2.2.1 24=P at *
  have HK4:=BB K4;have HS4:=BB S4;have HL4:=BB (HL3.out.new g4);have HG4:=BB (HG3.out.trans (g4.mono (fun _ _ f=>f.elim)));have hs4:=g4.size;have HB4:=BB B4;clear htl a1 a2 a3 g4 K4 S4 B4 B3 d0 hlo hmo hH hnx;go_wp2_with fail;refine hfr.mono ?_;rintro e w5 ⟨rfl,k5,g5⟩;have hs5:=g5.size;have GA:Chg No w5 (w5.alloc (.cells #[.int .i64 (P.2.1.p:Nat),.int .i64 (P.2.1.o:Nat),.int .i64 (P.2.1.q:Nat),.int .i64 (P.2.1.c:Nat),.bool P.2.1.l] 127)):=(Chg.refl _ w5).alloc _;have T6:=Tg.new w5 (P.2.1.p:Nat) (P.2.1.o:Nat) (P.2.1.q:Nat) (P.2.1.c:Nat) P.2.1.l;have HK6:=BB (k5.chg0 GA);have HS6:=BB ((HS4.out.chg g5 (HK4.out.apartSh HS4.out)).chg GA (fun f=>f));have HL6:=BB ((HL4.out.chg g5 (HL4.out.noCor HK4.out)).new GA);have HG6:=BB ((HG4.out.trans g5.mvs).trans (GA.mono (fun _ _ f=>f.elim)));have B6:=(GA.cell (by have:=World.block_lt_of_cell? w4 ⟨w.heap.size,0,none⟩ HB4.out;show w.heap.size<w5.heap.size;exact Aj this hs5) (fun f=>f) 0).trans ((g5.cell (World.block_lt_of_cell? w4 ⟨w.heap.size,0,none⟩ HB4.out) HNB.out 0).trans HB4.out);have hzt:=Gs;have hs6:=GA.size;have HTT:=BB T6;clear hfr k5 g5 GA HK4 HS4 HL4 HG4;by_cases hp:P.2.2=0
  ·have HE7:=HE6.out;rw[AI (by rw[hp];simp)] at HE7;have HE8:=BB HE7;have HFT2:=BB (HFT.out hp);rw[hp];clear hp HE7 HE6 HFT;go_wp2_with fail;generalize (w5.alloc (.cells #[.int .i64 (P.2.1.p:Nat),.int .i64 (P.2.1.o:Nat),.int .i64 (P.2.1.q:Nat),.int .i64 (P.2.1.c:Nat),.bool P.2.1.l] 127))=w6 at *
   obtain⟨d6,f6⟩:=HS6.out.cell 6 dc;replace d6:w6.cell? ⟨x,6,none⟩=some v:=d6;obtain⟨u0,u1,u2,u3,u4⟩:=HTT.out.cells;have d6b:(w6.alloc (.cells #[.int .i64 (P.2.1.p:Nat),.int .i64 (P.2.1.o:Nat),.int .i64 (P.2.1.q:Nat),.int .i64 (P.2.1.c:Nat),.bool P.2.1.l] 127)).cell? ⟨x,6,none⟩=some v:=(World.cell?_alloc_some _ _ _ (by rw[d6];rfl)).trans d6;have B6b:(w6.alloc (.cells #[.int .i64 (P.2.1.p:Nat),.int .i64 (P.2.1.o:Nat),.int .i64 (P.2.1.q:Nat),.int .i64 (P.2.1.c:Nat),.bool P.2.1.l] 127)).cell? ⟨w.heap.size,0,none⟩=some (.pointer (some ⟨x,0,none⟩)):=(World.cell?_alloc_some _ _ _ (by rw[B6];rfl)).trans B6;have G7:Chg No w6 ((w6.alloc (.cells #[.int .i64 (P.2.1.p:Nat),.int .i64 (P.2.1.o:Nat),.int .i64 (P.2.1.q:Nat),.int .i64 (P.2.1.c:Nat),.bool P.2.1.l] 127)).drew):=((Chg.refl No w6).alloc _).drew;have HL7:Hid (Lad ((w6.alloc (.cells #[.int .i64 (P.2.1.p:Nat),.int .i64 (P.2.1.o:Nat),.int .i64 (P.2.1.q:Nat),.int .i64 (P.2.1.c:Nat),.bool P.2.1.l] 127)).drew) n v t.2.1.ld):=by
    show Lad _ n v t.2.1.ld;rw[HTS.out.2];exact HL6.out.new G7
   have HT7:Hid (Tg (w6.alloc (.cells #[.int .i64 (P.2.1.p:Nat),.int .i64 (P.2.1.o:Nat),.int .i64 (P.2.1.q:Nat),.int .i64 (P.2.1.c:Nat),.bool P.2.1.l] 127)).drew w6.heap.size (P.2.1.p:Nat) (P.2.1.o:Nat) (P.2.1.q:Nat) (P.2.1.c:Nat) P.2.1.l):=Tg.new w6 (P.2.1.p:Nat) (P.2.1.o:Nat) (P.2.1.q:Nat) (P.2.1.c:Nat) P.2.1.l;have HG7:=BB G7;have HLN:Hid (t.2.1.ld.length<=1048576):=by
    show t.2.1.ld.length<=1048576;rw[HTS.out.2];exact AY HLEN.out dc
   have HBASE:Hid (n<=(w6.alloc (.cells #[.int .i64 (P.2.1.p:Nat),.int .i64 (P.2.1.o:Nat),.int .i64 (P.2.1.q:Nat),.int .i64 (P.2.1.c:Nat),.bool P.2.1.l] 127)).drew.heap.size):=AY (AY HN.out (show w.heap.size<=w6.heap.size by omega)) G7.size;have HVO:Hid (∀k,v.ownBlock=some k->¬ k=x):=HL6.out.noSh HS6.out;clear G7
   go_region_law (refine El _ rfl (.tmp 33) (.tmp 35) rfl n v t.2.1.ld (by simp[Act.eval]) HL7.out w6.heap.size 1 P.2.1 (by simp[Act.eval]) HT7.out HLN.out HBASE.out ?_;intro g8 cap8 w8 hL hC;have S8:=(HS6.out.chg HG7.out (fun f=>f)).chg hC (fun e=>HVO.out _ e rfl);obtain⟨d8,f8⟩:=S8.cell 6 dc;have B8:w8.cell? ⟨w.heap.size,0,none⟩=some (.pointer (some ⟨x,0,none⟩)):=(hC.cell (World.block_lt_of_cell? _ ⟨w.heap.size,0,none⟩ B6b) (fun e=>Nat.lt_irrefl _ (HVL.out _ e).2) 0).trans B6b;have HL8:=BB hL;have HC8:=BB hC;have HS8:=BB S8;clear hL hC S8)
   all_goals
    have GX:Chg (·=x) w8 (w8.setCell ⟨x,6,none⟩ (.slice (some ⟨g8,0,none⟩) (t.2.1.ld.length+1) cap8)):=(Chg.refl (·=x) w8).setCell (AK rfl) _ _;have K9:=((HK6.out.chg0 HG7.out).offTy (fun k _ e=>AL (HL7.out.ty e).1) HC8.out).offSh HS8.out GX;have S9:=HS8.out.setLd (.slice (some ⟨g8,0,none⟩) (t.2.1.ld.length+1) cap8) (t.2.1.ld ++ [P.2.1]);have L9:=HL8.out.chg GX (HL8.out.noSh HS8.out);have HG9:=BB (((HG6.out.mono (fun k _ e=>AK e)).trans (HG7.out.mono (fun _ _ f=>f.elim))).trans (HC8.out.mono (fun k _ e=>AL (HVL.out k e).1)) |>.trans (GX.mono (fun _ _ e=>AK (AL e))));have hcm:=Jp A _ P.1 K9 x n { t.2.1 with ld:=t.2.1.ld ++ [P.2.1] } _ S9 L9 HOK3.out (by
     show Sr (t.2.1.ld ++ [P.2.1])
     rw[HTS.out.2,HFT2.out]
     exact HT.out.app ⟨(show 24<25 by decide),HNX.out,(show 0<256 by decide)⟩) (by
     show (t.2.1.ld ++ [P.2.1]).length<=1048576
     rw[HTS.out.2,AV]
     have:=HLEN.out
     simp
     omega) 3
    have B9:=(GX.cell (World.block_lt_of_cell? _ ⟨w.heap.size,0,none⟩ B8) (fun e:w.heap.size=x=>om) 0).trans B8;have HK9:=BB K9;have HS9:=BB S9;have HL9:=BB L9;clear GX K9 S9 L9 d6 f6 d6b B6b B6 u0 u1 u2 u3 u4 d8 f8 B8 HS8 HL8 HC8;go_wp2_with fail;generalize (w8.setCell ⟨x,6,none⟩ (.slice (some ⟨g8,0,none⟩) (t.2.1.ld.length+1) cap8))=w9 at *
    refine hcm.mono ?_;rintro e w10 ⟨rfl,k10,g10⟩;have HK10:=BB k10;have HS10:=BB (HS9.out.chg g10 (HK9.out.apartSh HS9.out));have HL10:=BB (HL9.out.chg g10 (HL9.out.noCor HK9.out));have HG10:=BB (HG9.out.trans (g10.mono (fun _ _ e=>AK (AK e))));clear hcm k10 g10 B9;go_wp2;go_ret;rw[<-HE8.out];exact⟨_,rfl,HK10.out,HS10.out,HL10.out,HOK3.out,⟨HTS.out.1.1,HTS.out.1.2.1,HTS.out.1.2.2⟩,HG10.out⟩
  ·replace q:∀w,(binOp .neq 33 (errV P.2.2) .nilIface).run prog w=.ok (.bool true) w:=fun w=>by rw[q,AN hp];rfl
   have HE9:=HE6.out;rw[AJ hp] at HE9;have HE4:=BB HE9;have e6:=HL6.out;rw[<-HTS.out.2] at e6;have HL6b:=BB e6;clear e6;clear HE6 HE9 hp;go_wp2;go_ret;rw[<-HE4.out];exact⟨v,rfl,HK6.out,HS6.out,HL6b.out,HOK3.out,HTS.out.1,HG6.out.mono (fun _ _ e=>AK e)⟩
 ·replace q:∀w,(binOp .neq 33 (errV t.2.2.2) .nilIface).run prog w=.ok (.bool true) w:=fun w=>by rw[q,AN ht];rfl
  have HE9:=HE3.out;rw[AJ ht] at HE9;have HE4:=BB HE9;have HL6b:Hid (Lad w3 n v t.2.1.ld):=by
   have e:=HL3.out;rw[<-HTS.out.2] at e;exact e
  clear HE3 HE9 ht;go_wp2;go_ret;rw[<-HE4.out];exact⟨v,rfl,HK3.out,HS3.out,HL6b.out,HOK3.out,HTS.out.1,HG3.out.mono (fun _ _ e=>AK e)⟩
section
variable {S:BW}{K:BC}{X:BC × BW × Nat}
theorem ShAt.setFd{w:Wd}{x:Nat}{v:Value}(h:ShAt w x S v)(d:Bool):ShAt (w.setCell ⟨x,2,none⟩ (.bool d)) x { S with fd:=d } v:=by
 refine Sto.ext (Sto.setCells [.bool d] 2 h) fun i hi=>?_;rw[Bj];have:i=0\/i=1\/i=2\/i=3\/i=4\/i=5\/i=6:=om
 rcases this with rfl | rfl | rfl | rfl | rfl | rfl | rfl <;> rfl
def kI (X:BC × BW × Nat) (fm:Nat):BC × BW × Nat:=
 if (erK X.1 fm).2=0 then ((cmK (erK X.1 fm).1 X.2.1 0).1,X.2.1,(cmK (erK X.1 fm).1 X.2.1 0).2) else
 if (erK X.1 fm).2≠8 then ((erK X.1 fm).1,X.2.1,(erK X.1 fm).2) else
 if bearK (lvK (erK X.1 fm).1 fm)=false then (lvK (erK X.1 fm).1 fm,{ X.2.1 with fd:=true },14) else cbK (lvK (erK X.1 fm).1 fm) { X.2.1 with fd:=true }
def Vq (bd:Bool) (K:BC) (S:BW):BC × BW × Nat:=
 if (cpK bd ((AA.ofL K.L S.fm).map Int.toNat) K S).2.2≠0 then cpK bd ((AA.ofL K.L S.fm).map Int.toNat) K S else
 if bd=true then cbK (cpK bd ((AA.ofL K.L S.fm).map Int.toNat) K S).1 (cpK bd ((AA.ofL K.L S.fm).map Int.toNat) K S).2.1 else kI (cpK bd ((AA.ofL K.L S.fm).map Int.toNat) K S) S.fm
theorem Vr(K:BC)(S:BW):tyK K S=if S.fd=true/\bearK K=false then (K,{ S with tt:=noF,ld:=[] },14) else Vq (S.fd || (S.rt && bearK K)) K { S with tt:=noF,ld:=[] }:=by
 unfold tyK Vq kI;dsimp only
theorem Vs(h1:S.fd=true)(h2:bearK K=false):tyK K S=(K,{ S with tt:=noF,ld:=[] },14):=by rw[Vr,AJ ⟨h1,h2⟩]
theorem Lq{bd:Bool}(h1:¬ (S.fd=true/\bearK K=false))(h:(S.fd || (S.rt && bearK K))=bd):tyK K S=Vq bd K { S with tt:=noF,ld:=[] }:=by rw[Vr,AI h1,h]
theorem Vt(h:cpK false ((AA.ofL K.L S.fm).map Int.toNat) K S=X):Vq false K S=if X.2.2≠0 then X else kI X S.fm:=by
 unfold Vq;rw[h,AI (show ¬ (false=true) by decide)]
theorem Q0(h:cpK true ((AA.ofL K.L S.fm).map Int.toNat) K S=X):Vq true K S=if X.2.2≠0 then X else cbK X.1 X.2.1:=by
 unfold Vq;rw[h,AJ (show true=true from rfl)]
theorem Vu{fm:Nat}{E:BC × Nat}(h:erK X.1 fm=E):kI X fm=if E.2=0 then ((cmK E.1 X.2.1 0).1,X.2.1,(cmK E.1 X.2.1 0).2) else if E.2≠8 then (E.1,X.2.1,E.2) else if bearK (lvK E.1 fm)=false then (lvK E.1 fm,{ X.2.1 with fd:=true },14) else cbK (lvK E.1 fm) { X.2.1 with fd:=true }:=by
 unfold kI;rw[h]
def nC (A:Ad) (x:Nat) (S:BW) (w:Wd) (Z:BC × BW × Nat) (e:Ending) (w':Wd):Prop:=∃v,e=.returned (errV Z.2.2)/\CoreAt A w' Z.1/\ShAt w' x Z.2.1 v/\AC.E9 Z.2.1.tt/\(Z.2.1.fm=S.fm/\Z.2.1.rt=S.rt)/\Chg (YV A x) w w'
theorem kJ(A:Ad)(w:Wd)(K:BC)(h:CoreAt A w K)(x:Nat)(S:BW)(v:Value)(hS:ShAt w x S v)(hfm:S.fm<12)(Z:BC × BW × Nat)(hZ:tyK K S=Z) :Calls prog 160 #[.pointer (some ⟨A.c,0,none⟩),.pointer (some ⟨x,0,none⟩)] w fun e w'=>nC A x S w Z e w':=by
 have hb:=AC.build26;have HS:=BB hS;have HK:=BB h;have HFM:=BB hfm;have HLOW:=BB h.low;have hxl:=hS.lt;have HE:=BB hZ;have q:=Bn;have g:=BL;have qe:=Hn;have ge:=DC;clear h hS hfm hZ;go_enter func160,ntmps160;go_wp2_with (refine AC.CF rfl (.tmp 12) (.tmp 10) rfl x 3 rfl ⟨false,0,0⟩ rfl HS.out.front ?_);intro w1 F1 G1;have S1:=ShAt.setTo F1;obtain⟨d6,f6⟩:=S1.cell 6 dc;have S2:=S1.setLd (.slice none 0 0) [];have GX:Chg (·=x) w1 (w1.setCell ⟨x,6,none⟩ (.slice none 0 0)):=(Chg.refl (·=x) w1).setCell (AK rfl) _ _;have K2:=(HK.out.offSh HS.out G1).offSh S1 GX;have HG2:=BB (G1.trans GX);obtain⟨d2,f2⟩:=S2.cell 2 dc;obtain⟨d1,f1⟩:=S2.cell 1 dc;replace d2:(w1.setCell ⟨x,6,none⟩ (.slice none 0 0)).cell? ⟨x,2,none⟩=some (.bool S.fd):=d2;replace d1:(w1.setCell ⟨x,6,none⟩ (.slice none 0 0)).cell? ⟨x,1,none⟩=some (.bool S.rt):=d1;have hbe:=Li A _ K K2;have HK2:=BB K2;have HS2:Hid (ShAt (w1.setCell ⟨x,6,none⟩ (.slice none 0 0)) x { S with tt:=noF,ld:=[] } (.slice none 0 0)):=S2;have HSZ:=BB (AY G1.size GX.size);clear S1 S2 F1 G1 K2 HK HS GX f1 f2;cases hfd:S.fd
 ·rw[hfd] at d2;cases hrt:S.rt
  ·rw[hrt] at d1;have HE3:Hid (Vq false K { S with tt:=noF,ld:=[] }=Z):=(Lq (fun e=>by rw[hfd] at e;cases e.1) (by rw[hfd,hrt];rfl)).symm.trans HE.out;clear HE hfd hrt;obtain⟨X,HX⟩:∃X,Hid (cpK false ((AA.ofL K.L ({ S with tt:=noF,ld:=[] }:BW).fm).map Int.toNat) K { S with tt:=noF,ld:=[] }=X):=⟨_,rfl⟩;have hcp:=Lp A _ K HK2.out x _ HS2.out E9.noF HFM.out rfl false X HX.out;have HE4:=BB ((Vt HX.out).symm.trans HE3.out);clear HE3 HX;go_wp2_with (go_at_call 188;refine hbe.mono ?_;rintro e w9 ⟨rfl,rfl⟩);refine hcp.mono ?_;rintro e w3 ⟨v3,rfl,k3,s3,l3,ok3,sm3,tg3,ln3,kp3,g3⟩;have HK3:=BB k3;have HS3:=BB s3;have HL3:=BB l3;have HOK3:=BB ok3;have HSM:Hid (X.2.1.fm=S.fm/\X.2.1.rt=S.rt/\X.2.1.fd=S.fd):=sm3;have HTG:=BB tg3;have HLN:=BB ln3;have HG3:=BB ((HG2.out.mvx (A:=A)).trans g3);have hs3:=g3.size;have hs2:=HSZ.out;obtain⟨e0,-⟩:=s3.cell 0 dc;replace e0:w3.cell? ⟨x,0,none⟩=some (.int .i64 (S.fm:Nat)):=(by rw[<-sm3.1];exact e0);clear hcp k3 s3 l3 ok3 sm3 tg3 ln3 kp3 g3 d1 d2 d6 f6;by_cases hx:X.2.2=0
   ·have HE5:=HE4.out;rw[AI (by rw[hx];simp)] at HE5;have HE6:=BB HE5;rw[hx];clear hx HE5 HE4;obtain⟨n,hn⟩:∃n,n=(w1.setCell ⟨x,6,none⟩ (.slice none 0 0)).heap.size:=⟨_,rfl⟩;rw[<-hn] at HL3 hs3 hs2;have her:=Lj A w3 X.1 HK3.out S.fm HFM.out;have HE7:=HE6.out;rw[Vu rfl] at HE7;have HE8:Hid (_=Z):=HE7;generalize erK X.1 S.fm=E at *
    clear hn HE7 HE6;go_wp2_with fail;refine her.mono ?_;rintro e w4 ⟨rfl,k4,g4⟩;have HK4:=BB k4;have HS4:=BB (HS3.out.chg g4 (HK3.out.apartSh HS3.out));have HL4:=BB (HL3.out.chg g4 (HL3.out.noCor HK3.out));have HG4:=BB (HG3.out.trans g4.mvs);have hs4:=g4.size;obtain⟨e4,-⟩:=HS4.out.cell 0 dc;replace e4:w4.cell? ⟨x,0,none⟩=some (.int .i64 (S.fm:Nat)):=(by rw[<-HSM.out.1];exact e4);clear her k4 g4 e0;by_cases h0:E.2=0
    ·have HE9:=HE8.out;rw[AJ h0] at HE9;have HEA:=BB HE9;have hcm:=Jp A w4 E.1 HK4.out x n X.2.1 v3 HS4.out HL4.out HOK3.out HTG.out (AY HLN.out dc) 0;replace qe:∀w,(binOp .eql 33 (errV E.2) .nilIface).run prog w=.ok (.bool true) w:=fun w=>by rw[qe,AO h0]
     clear HE8 HE9 h0;go_wp2_with fail;refine hcm.mono ?_;rintro e w5 ⟨rfl,k5,g5⟩;have HK5:=BB k5;have HS5:=BB (HS4.out.chg g5 (HK4.out.apartSh HS4.out));have HG5:=BB (HG4.out.trans g5.mvs);clear hcm k5 g5;go_wp2;go_ret;rw[<-HEA.out];exact⟨v3,rfl,HK5.out,HS5.out,HOK3.out,⟨HSM.out.1,HSM.out.2.1⟩,HG5.out⟩
    ·have HE9:=HE8.out;rw[AI h0] at HE9;replace qe:∀w,(binOp .eql 33 (errV E.2) .nilIface).run prog w=.ok (.bool false) w:=fun w=>by rw[qe,AN h0]
     have his:=Ib E.2 8 dc w4;by_cases h8:E.2=8
     ·rw[AI (by rw[h8];simp)] at HE9;rw[AO h8] at his;have HEA:=BB HE9;have S5:=HS4.out.setFd true;obtain⟨d2,f2⟩:=HS4.out.cell 2 dc;have G5:Chg (·=x) w4 (w4.setCell ⟨x,2,none⟩ (.bool true)):=(Chg.refl (·=x) w4).setCell (AK rfl) _ _;have K5:=HK4.out.offSh HS4.out G5;have L5:=HL4.out.chg G5 (HL4.out.noSh HS4.out);obtain⟨e5,-⟩:=S5.cell 0 dc;replace e5:(w4.setCell ⟨x,2,none⟩ (.bool true)).cell? ⟨x,0,none⟩=some (.int .i64 (S.fm:Nat)):=(by rw[<-HSM.out.1];exact e5);have hlv:=Gp A _ E.1 K5 (S.fm:Nat);have HK5:=BB K5;have HS5:=BB S5;have HL5:=BB L5;have HG5:=BB (HG4.out.trans (G5.mvx (A:=A)));have hs5:=G5.size;clear HE8 HE9 h0 h8 S5 K5 L5 G5;go_wp2_with (go_at_call 46;refine his.mono ?_;rintro e w9 ⟨rfl,rfl⟩);refine hlv.mono ?_;rintro e w6 ⟨rfl,k6,g6⟩;generalize lvK E.1 S.fm=K6 at *
      have hb6:=Li A w6 K6 k6;have HK6:=BB k6;have HS6:=BB (HS5.out.chg g6 (HK5.out.apartSh HS5.out));have HL6:=BB (HL5.out.chg g6 (HL5.out.noCor HK5.out));have HG6:=BB (HG5.out.trans g6.mvs);have hs6:=g6.size;clear hlv k6 g6 his e5 d2 f2 e4;cases hbb:bearK K6
      ·rw[hbb] at hb6;have HEB:=HEA.out;rw[AJ hbb] at HEB;have HEC:=BB HEB;clear HEA HEB hbb;go_wp2_with (go_at_call 188;refine hb6.mono ?_;rintro e w9 ⟨rfl,rfl⟩);go_ret;rw[<-HEC.out];exact⟨v3,rfl,HK6.out,HS6.out,HOK3.out,⟨HSM.out.1,HSM.out.2.1⟩,HG6.out⟩
      ·rw[hbb] at hb6;have HEB:=HEA.out;rw[AI (by rw[hbb];simp)] at HEB;have hcb:=D0 A w6 K6 HK6.out x n { X.2.1 with fd:=true } v3 HS6.out HL6.out om HOK3.out (by show X.2.1.fm<12;rw[HSM.out.1];exact HFM.out) HTG.out (AY HLN.out dc) Z HEB;clear HEA HEB hbb;go_wp2_with (go_at_call 188;refine hb6.mono ?_;rintro e w9 ⟨rfl,rfl⟩);refine hcb.mono ?_;rintro e w7 ⟨v7,rfl,k7,s7,l7,ok7,sm7,g7⟩;have HK7:=BB k7;have HS7:=BB s7;have HOK7:=BB ok7;have HSM7:=BB sm7;have HG7:=BB (HG6.out.trans' g7 (fun k hk e=>e.elim id (fun e=>om)));clear hcb k7 s7 l7 ok7 sm7 g7;go_wp2;go_ret;exact⟨v7,rfl,HK7.out,HS7.out,HOK7.out,⟨HSM7.out.1.trans HSM.out.1,HSM7.out.2.1.trans HSM.out.2.1⟩,HG7.out⟩
     ·rw[AJ h8] at HE9;rw[AN h8] at his;have HEA:=BB HE9;clear HE8 HE9 h0 h8;go_wp2_with (go_at_call 46;refine his.mono ?_;rintro e w9 ⟨rfl,rfl⟩);go_ret;rw[<-HEA.out];exact⟨v3,rfl,HK4.out,HS4.out,HOK3.out,⟨HSM.out.1,HSM.out.2.1⟩,HG4.out⟩
   ·replace q:∀w,(binOp .neq 33 (errV X.2.2) .nilIface).run prog w=.ok (.bool true) w:=fun w=>by rw[q,AN hx];rfl
    have HE5:=HE4.out;rw[AJ hx] at HE5;have HE6:=BB HE5;clear hx HE5 HE4;go_wp2;go_ret;rw[<-HE6.out];exact⟨v3,rfl,HK3.out,HS3.out,HOK3.out,⟨HSM.out.1,HSM.out.2.1⟩,HG3.out⟩
  ·rw[hrt] at d1;cases hbk:bearK K
   ·rw[hbk] at hbe;have HE3:Hid (Vq false K { S with tt:=noF,ld:=[] }=Z):=(Lq (fun e=>by rw[hfd] at e;cases e.1) (by rw[hfd,hrt,hbk];rfl)).symm.trans HE.out;clear HE hfd hrt hbk;obtain⟨X,HX⟩:∃X,Hid (cpK false ((AA.ofL K.L ({ S with tt:=noF,ld:=[] }:BW).fm).map Int.toNat) K { S with tt:=noF,ld:=[] }=X):=⟨_,rfl⟩;have hcp:=Lp A _ K HK2.out x _ HS2.out E9.noF HFM.out rfl false X HX.out;have HE4:=BB ((Vt HX.out).symm.trans HE3.out);clear HE3 HX;go_wp2_with (go_at_call 188;refine hbe.mono ?_;rintro e w9 ⟨rfl,rfl⟩);refine hcp.mono ?_;rintro e w3 ⟨v3,rfl,k3,s3,l3,ok3,sm3,tg3,ln3,kp3,g3⟩;have HK3:=BB k3;have HS3:=BB s3;have HL3:=BB l3;have HOK3:=BB ok3;have HSM:Hid (X.2.1.fm=S.fm/\X.2.1.rt=S.rt/\X.2.1.fd=S.fd):=sm3;have HTG:=BB tg3;have HLN:=BB ln3;have HG3:=BB ((HG2.out.mvx (A:=A)).trans g3);have hs3:=g3.size;have hs2:=HSZ.out;obtain⟨e0,-⟩:=s3.cell 0 dc;replace e0:w3.cell? ⟨x,0,none⟩=some (.int .i64 (S.fm:Nat)):=(by rw[<-sm3.1];exact e0);clear hcp k3 s3 l3 ok3 sm3 tg3 ln3 kp3 g3 d1 d2 d6 f6;by_cases hx:X.2.2=0
    ·have HE5:=HE4.out;rw[AI (by rw[hx];simp)] at HE5;have HE6:=BB HE5;rw[hx];clear hx HE5 HE4;obtain⟨n,hn⟩:∃n,n=(w1.setCell ⟨x,6,none⟩ (.slice none 0 0)).heap.size:=⟨_,rfl⟩;rw[<-hn] at HL3 hs3 hs2;have her:=Lj A w3 X.1 HK3.out S.fm HFM.out;have HE7:=HE6.out;rw[Vu rfl] at HE7;have HE8:Hid (_=Z):=HE7;generalize erK X.1 S.fm=E at *
     clear hn HE7 HE6;go_wp2_with fail;refine her.mono ?_;rintro e w4 ⟨rfl,k4,g4⟩;have HK4:=BB k4;have HS4:=BB (HS3.out.chg g4 (HK3.out.apartSh HS3.out));have HL4:=BB (HL3.out.chg g4 (HL3.out.noCor HK3.out));have HG4:=BB (HG3.out.trans g4.mvs);have hs4:=g4.size;obtain⟨e4,-⟩:=HS4.out.cell 0 dc;replace e4:w4.cell? ⟨x,0,none⟩=some (.int .i64 (S.fm:Nat)):=(by rw[<-HSM.out.1];exact e4);clear her k4 g4 e0;by_cases h0:E.2=0
     ·have HE9:=HE8.out;rw[AJ h0] at HE9;have HEA:=BB HE9;have hcm:=Jp A w4 E.1 HK4.out x n X.2.1 v3 HS4.out HL4.out HOK3.out HTG.out (AY HLN.out dc) 0;replace qe:∀w,(binOp .eql 33 (errV E.2) .nilIface).run prog w=.ok (.bool true) w:=fun w=>by rw[qe,AO h0]
      clear HE8 HE9 h0;go_wp2_with fail;refine hcm.mono ?_;rintro e w5 ⟨rfl,k5,g5⟩;have HK5:=BB k5;have HS5:=BB (HS4.out.chg g5 (HK4.out.apartSh HS4.out));have HG5:=BB (HG4.out.trans g5.mvs);clear hcm k5 g5;go_wp2;go_ret;rw[<-HEA.out];exact⟨v3,rfl,HK5.out,HS5.out,HOK3.out,⟨HSM.out.1,HSM.out.2.1⟩,HG5.out⟩
     ·have HE9:=HE8.out;rw[AI h0] at HE9;replace qe:∀w,(binOp .eql 33 (errV E.2) .nilIface).run prog w=.ok (.bool false) w:=fun w=>by rw[qe,AN h0]
      have his:=Ib E.2 8 dc w4;by_cases h8:E.2=8
      ·rw[AI (by rw[h8];simp)] at HE9;rw[AO h8] at his;have HEA:=BB HE9;have S5:=HS4.out.setFd true;obtain⟨d2,f2⟩:=HS4.out.cell 2 dc;have G5:Chg (·=x) w4 (w4.setCell ⟨x,2,none⟩ (.bool true)):=(Chg.refl (·=x) w4).setCell (AK rfl) _ _;have K5:=HK4.out.offSh HS4.out G5;have L5:=HL4.out.chg G5 (HL4.out.noSh HS4.out);obtain⟨e5,-⟩:=S5.cell 0 dc;replace e5:(w4.setCell ⟨x,2,none⟩ (.bool true)).cell? ⟨x,0,none⟩=some (.int .i64 (S.fm:Nat)):=(by rw[<-HSM.out.1];exact e5);have hlv:=Gp A _ E.1 K5 (S.fm:Nat);have HK5:=BB K5;have HS5:=BB S5;have HL5:=BB L5;have HG5:=BB (HG4.out.trans (G5.mvx (A:=A)));have hs5:=G5.size;clear HE8 HE9 h0 h8 S5 K5 L5 G5;go_wp2_with (go_at_call 46;refine his.mono ?_;rintro e w9 ⟨rfl,rfl⟩);refine hlv.mono ?_;rintro e w6 ⟨rfl,k6,g6⟩;generalize lvK E.1 S.fm=K6 at *
       have hb6:=Li A w6 K6 k6;have HK6:=BB k6;have HS6:=BB (HS5.out.chg g6 (HK5.out.apartSh HS5.out));have HL6:=BB (HL5.out.chg g6 (HL5.out.noCor HK5.out));have HG6:=BB (HG5.out.trans g6.mvs);have hs6:=g6.size;clear hlv k6 g6 his e5 d2 f2 e4;cases hbb:bearK K6
       ·rw[hbb] at hb6;have HEB:=HEA.out;rw[AJ hbb] at HEB;have HEC:=BB HEB;clear HEA HEB hbb;go_wp2_with (go_at_call 188;refine hb6.mono ?_;rintro e w9 ⟨rfl,rfl⟩);go_ret;rw[<-HEC.out];exact⟨v3,rfl,HK6.out,HS6.out,HOK3.out,⟨HSM.out.1,HSM.out.2.1⟩,HG6.out⟩
       ·rw[hbb] at hb6;have HEB:=HEA.out;rw[AI (by rw[hbb];simp)] at HEB;have hcb:=D0 A w6 K6 HK6.out x n { X.2.1 with fd:=true } v3 HS6.out HL6.out om HOK3.out (by show X.2.1.fm<12;rw[HSM.out.1];exact HFM.out) HTG.out (AY HLN.out dc) Z HEB;clear HEA HEB hbb;go_wp2_with (go_at_call 188;refine hb6.mono ?_;rintro e w9 ⟨rfl,rfl⟩);refine hcb.mono ?_;rintro e w7 ⟨v7,rfl,k7,s7,l7,ok7,sm7,g7⟩;have HK7:=BB k7;have HS7:=BB s7;have HOK7:=BB ok7;have HSM7:=BB sm7;have HG7:=BB (HG6.out.trans' g7 (fun k hk e=>e.elim id (fun e=>om)));clear hcb k7 s7 l7 ok7 sm7 g7;go_wp2;go_ret;exact⟨v7,rfl,HK7.out,HS7.out,HOK7.out,⟨HSM7.out.1.trans HSM.out.1,HSM7.out.2.1.trans HSM.out.2.1⟩,HG7.out⟩
      ·rw[AJ h8] at HE9;rw[AN h8] at his;have HEA:=BB HE9;clear HE8 HE9 h0 h8;go_wp2_with (go_at_call 46;refine his.mono ?_;rintro e w9 ⟨rfl,rfl⟩);go_ret;rw[<-HEA.out];exact⟨v3,rfl,HK4.out,HS4.out,HOK3.out,⟨HSM.out.1,HSM.out.2.1⟩,HG4.out⟩
    ·replace q:∀w,(binOp .neq 33 (errV X.2.2) .nilIface).run prog w=.ok (.bool true) w:=fun w=>by rw[q,AN hx];rfl
     have HE5:=HE4.out;rw[AJ hx] at HE5;have HE6:=BB HE5;clear hx HE5 HE4;go_wp2;go_ret;rw[<-HE6.out];exact⟨v3,rfl,HK3.out,HS3.out,HOK3.out,⟨HSM.out.1,HSM.out.2.1⟩,HG3.out⟩
   ·rw[hbk] at hbe;have HE3:Hid (Vq true K { S with tt:=noF,ld:=[] }=Z):=(Lq (fun e=>by rw[hfd] at e;cases e.1) (by rw[hfd,hrt,hbk];rfl)).symm.trans HE.out;clear HE hfd hrt hbk;obtain⟨X,HX⟩:∃X,Hid (cpK true ((AA.ofL K.L ({ S with tt:=noF,ld:=[] }:BW).fm).map Int.toNat) K { S with tt:=noF,ld:=[] }=X):=⟨_,rfl⟩;have hcp:=Lp A _ K HK2.out x _ HS2.out E9.noF HFM.out rfl true X HX.out;have HE4:=BB ((Q0 HX.out).symm.trans HE3.out);clear HE3 HX;go_wp2_with (go_at_call 188;refine hbe.mono ?_;rintro e w9 ⟨rfl,rfl⟩);refine hcp.mono ?_;rintro e w3 ⟨v3,rfl,k3,s3,l3,ok3,sm3,tg3,ln3,kp3,g3⟩;have HK3:=BB k3;have HS3:=BB s3;have HL3:=BB l3;have HOK3:=BB ok3;have HSM:Hid (X.2.1.fm=S.fm/\X.2.1.rt=S.rt/\X.2.1.fd=S.fd):=sm3;have HTG:=BB tg3;have HLN:=BB ln3;have HG3:=BB ((HG2.out.mvx (A:=A)).trans g3);have hs3:=g3.size;have hs2:=HSZ.out;obtain⟨e0,-⟩:=s3.cell 0 dc;replace e0:w3.cell? ⟨x,0,none⟩=some (.int .i64 (S.fm:Nat)):=(by rw[<-sm3.1];exact e0);clear hcp k3 s3 l3 ok3 sm3 tg3 ln3 kp3 g3 d1 d2 d6 f6;by_cases hx:X.2.2=0
    ·have HE5:=HE4.out;rw[AI (by rw[hx];simp)] at HE5;have HE6:=BB HE5;rw[hx];clear hx HE5 HE4;obtain⟨n,hn⟩:∃n,n=(w1.setCell ⟨x,6,none⟩ (.slice none 0 0)).heap.size:=⟨_,rfl⟩;rw[<-hn] at HL3 hs3 hs2;have hcb:=D0 A w3 X.1 HK3.out x n X.2.1 v3 HS3.out HL3.out hs3 HOK3.out (by rw[HSM.out.1];exact HFM.out) HTG.out (AY HLN.out dc) Z HE6.out;clear hn e0;go_wp2_with fail;refine hcb.mono ?_;rintro e w4 ⟨v4,rfl,k4,s4,l4,ok4,sm4,g4⟩;have HK4:=BB k4;have HS4:=BB s4;have HOK4:=BB ok4;have HSM4:=BB sm4;have HG4:=BB ((HG3.out).trans' g4 (fun k hk e=>e.elim id (fun e=>om)));clear hcb k4 s4 l4 ok4 sm4 g4;go_wp2;go_ret;exact⟨v4,rfl,HK4.out,HS4.out,HOK4.out,⟨HSM4.out.1.trans HSM.out.1,HSM4.out.2.1.trans HSM.out.2.1⟩,HG4.out⟩
    ·replace q:∀w,(binOp .neq 33 (errV X.2.2) .nilIface).run prog w=.ok (.bool true) w:=fun w=>by rw[q,AN hx];rfl
     have HE5:=HE4.out;rw[AJ hx] at HE5;have HE6:=BB HE5;clear hx HE5 HE4;go_wp2;go_ret;rw[<-HE6.out];exact⟨v3,rfl,HK3.out,HS3.out,HOK3.out,⟨HSM.out.1,HSM.out.2.1⟩,HG3.out⟩
 ·rw[hfd] at d2;cases hbk:bearK K
  ·rw[hbk] at hbe;have HE3:=BB ((Vs hfd hbk).symm.trans HE.out);clear HE hfd hbk;go_wp2_with (go_at_call 188;refine hbe.mono ?_;rintro e w9 ⟨rfl,rfl⟩);go_ret;rw[<-HE3.out];exact⟨_,rfl,HK2.out,HS2.out,E9.noF,⟨rfl,rfl⟩,HG2.out.mvx⟩
  ·rw[hbk] at hbe;have HE3:Hid (Vq true K { S with tt:=noF,ld:=[] }=Z):=(Lq (fun e=>by rw[hbk] at e;cases e.2) (by rw[hfd];rfl)).symm.trans HE.out;clear HE hfd hbk;obtain⟨X,HX⟩:∃X,Hid (cpK true ((AA.ofL K.L ({ S with tt:=noF,ld:=[] }:BW).fm).map Int.toNat) K { S with tt:=noF,ld:=[] }=X):=⟨_,rfl⟩;have hcp:=Lp A _ K HK2.out x _ HS2.out E9.noF HFM.out rfl true X HX.out;have HE4:=BB ((Q0 HX.out).symm.trans HE3.out);clear HE3 HX;go_wp2_with (go_at_call 188;refine hbe.mono ?_;rintro e w9 ⟨rfl,rfl⟩);refine hcp.mono ?_;rintro e w3 ⟨v3,rfl,k3,s3,l3,ok3,sm3,tg3,ln3,kp3,g3⟩;have HK3:=BB k3;have HS3:=BB s3;have HL3:=BB l3;have HOK3:=BB ok3;have HSM:Hid (X.2.1.fm=S.fm/\X.2.1.rt=S.rt/\X.2.1.fd=S.fd):=sm3;have HTG:=BB tg3;have HLN:=BB ln3;have HG3:=BB ((HG2.out.mvx (A:=A)).trans g3);have hs3:=g3.size;have hs2:=HSZ.out;obtain⟨e0,-⟩:=s3.cell 0 dc;replace e0:w3.cell? ⟨x,0,none⟩=some (.int .i64 (S.fm:Nat)):=(by rw[<-sm3.1];exact e0);clear hcp k3 s3 l3 ok3 sm3 tg3 ln3 kp3 g3 d1 d2 d6 f6;by_cases hx:X.2.2=0
   ·have HE5:=HE4.out;rw[AI (by rw[hx];simp)] at HE5;have HE6:=BB HE5;rw[hx];clear hx HE5 HE4;obtain⟨n,hn⟩:∃n,n=(w1.setCell ⟨x,6,none⟩ (.slice none 0 0)).heap.size:=⟨_,rfl⟩;rw[<-hn] at HL3 hs3 hs2;have hcb:=D0 A w3 X.1 HK3.out x n X.2.1 v3 HS3.out HL3.out hs3 HOK3.out (by rw[HSM.out.1];exact HFM.out) HTG.out (AY HLN.out dc) Z HE6.out;clear hn e0;go_wp2_with fail;refine hcb.mono ?_;rintro e w4 ⟨v4,rfl,k4,s4,l4,ok4,sm4,g4⟩;have HK4:=BB k4;have HS4:=BB s4;have HOK4:=BB ok4;have HSM4:=BB sm4;have HG4:=BB ((HG3.out).trans' g4 (fun k hk e=>e.elim id (fun e=>om)));clear hcb k4 s4 l4 ok4 sm4 g4;go_wp2;go_ret;exact⟨v4,rfl,HK4.out,HS4.out,HOK4.out,⟨HSM4.out.1.trans HSM.out.1,HSM4.out.2.1.trans HSM.out.2.1⟩,HG4.out⟩
   ·replace q:∀w,(binOp .neq 33 (errV X.2.2) .nilIface).run prog w=.ok (.bool true) w:=fun w=>by rw[q,AN hx];rfl
    have HE5:=HE4.out;rw[AJ hx] at HE5;have HE6:=BB HE5;clear hx HE5 HE4;go_wp2;go_ret;rw[<-HE6.out];exact⟨v3,rfl,HK3.out,HS3.out,HOK3.out,⟨HSM.out.1,HSM.out.2.1⟩,HG3.out⟩
end
def fI (A:Ad) (te:FF):Prop:=∀w K Z,CoreAt A w K->te K=some Z->Calls prog 161 #[.pointer (some ⟨A.c,0,none⟩)] w fun e w'=>e=.returned (errV Z.2)/\CoreAt A w' Z.1/\Chg (Cor A) w w'
theorem Nc(te:FF)(n:Nat)(K:BC)(S:BW):trK te (n+1) K S=if Lf K S.fm=true then some (K,S,0) else if (tyK K S).2.2≠8 then some (tyK K S) else match te (spK (tyK K S).1 (AC.blV (tyK K S).2.1.tt)) with
 | none=>none
 | some y=>if y.2≠0 then some (y.1,(tyK K S).2.1,y.2) else trK te n y.1 (tyK K S).2.1:=by
 rw[trK];dsimp only;generalize tyK K S=X;generalize te (spK X.1 (AC.blV X.2.1.tt))=Y;cases Y <;> rfl
theorem Vv(te:FF)(K:BC)(S:BW):trK te 0 K S=none:=rfl
structure mh (A:Ad) (te:FF) (x:Nat) (S:BW) (Z:BC × BW × Nat) (w wr:Wd) (k:Nat) (Ki:BC) (Si:BW) (v:Value):Prop where
 eq:trK te k Ki Si=some Z
 core:CoreAt A wr Ki
 sh:ShAt wr x Si v
 sm:Si.fm=S.fm/\Si.rt=S.rt
 chg:Chg (YV A x) w wr
def l9 (A:Ad) (x:Nat) (S:BW) (w:Wd) (Z:BC × BW × Nat) (e:Ending) (w':Wd):Prop:=∃v,e=.returned (errV Z.2.2)/\CoreAt A w' Z.1/\ShAt w' x Z.2.1 v/\(Z.2.1.fm=S.fm/\Z.2.1.rt=S.rt)/\Chg (YV A x) w w'
theorem Q1(A:Ad)(te:FF)(hte:fI A te)(w:Wd)(K:BC)(h:CoreAt A w K)(x:Nat)(S:BW)(v:Value)(hS:ShAt w x S v)(hfm:S.fm<12)(n:Nat)(Z:BC × BW × Nat)(hZ:trK te n K S=some Z) :Calls prog 125 #[.pointer (some ⟨A.c,0,none⟩),.pointer (some ⟨x,0,none⟩)] w fun e w'=>l9 A x S w Z e w':=by
 have HS:=BB hS;have HK:=BB h;have HFM:=BB hfm;have HTE:=BB hte;have HZ:=BB hZ;have q:=Bn;have g:=BL;clear h hS hfm hZ hte;go_enter func125,ntmps125;go_wp2_with fail
 go_loopg [4] n (fun kx s4 wr=>∃k Ki Si v,k<=kx/\Hid (mh A te x S Z w wr k Ki Si v))
 case atStart=>exact⟨n,K,S,v,AM _,⟨HZ.out,HK.out,HS.out,⟨rfl,rfl⟩,Chg.refl _ _⟩⟩
 case round=>
  obtain⟨k,Ki,Si,vi,hk,HI⟩:=hrel;obtain _ | k:=k
  ·exact absurd HI.out.eq (by rw[Vv];exact fun e=>by cases e)
  obtain⟨d0,-⟩:=HI.out.sh.cell 0 dc;replace d0:wr.cell? ⟨x,0,none⟩=some (.int .i64 (Si.fm:Nat)):=d0;have hbk:=kC A wr Ki HI.out.core (Si.fm:Nat);have HE:=HI.out.eq;rw[Nc] at HE;cases hb:Lf Ki Si.fm
  ·rw[hb] at hbk;rw[AI (by rw[hb];simp)] at HE;obtain⟨X,HX⟩:∃X,Hid (tyK Ki Si=X):=⟨_,rfl⟩;rw[HX.out] at HE;have hty:=kJ A wr Ki HI.out.core x Si vi HI.out.sh (by rw[HI.out.sm.1];exact HFM.out) X HX.out;have HE2:=BB HE;clear hb HE HX;go_wp2_with (go_at_call 159;refine hbk.mono ?_;rintro e w9 ⟨rfl,rfl⟩);refine hty.mono ?_;rintro e w2 ⟨v2,rfl,k2,s2,ok2,sm2,g2⟩;have HK2:=BB k2;have HS2:=BB s2;have HSM2:Hid (X.2.1.fm=S.fm/\X.2.1.rt=S.rt):=⟨sm2.1.trans HI.out.sm.1,sm2.2.trans HI.out.sm.2⟩;have HG2:=BB (HI.out.chg.trans g2);have his:=Ib X.2.2 8 dc w2;have hbl:=AC.Db w2 x 163 7 _ 3 X.2.1.tt s2.front;clear hty k2 s2 ok2 sm2 g2 d0 hbk;by_cases h8:X.2.2=8
   ·rw[AO h8] at his;have HE3:=HE2.out;rw[AI (by rw[h8];simp)] at HE3;have hsp:=It A w2 X.1 HK2.out (AC.blV X.2.1.tt);cases hy:te (spK X.1 (AC.blV X.2.1.tt)) with
    | none=>rw[hy] at HE3;cases HE3
    | some y=>
     rw[hy] at HE3;have HY:=BB hy;have HE4:Hid ((if y.2≠0 then some (y.1,X.2.1,y.2) else trK te k y.1 X.2.1)=some Z):=HE3;clear h8 hy HE3 HE2;go_wp2_with (first | (go_at_call 46;refine his.mono ?_;rintro e w9 ⟨rfl,rfl⟩) | (go_at_call 85;refine hbl.mono ?_;rintro e w9 ⟨rfl,rfl⟩));refine hsp.mono ?_;rintro e w3 ⟨rfl,k3,g3⟩;have htl:=HTE.out w3 _ y k3 HY.out;have HK3:=BB k3;have HS3:=BB (HS2.out.chg g3 (HK2.out.apartSh HS2.out));have HG3:=BB (HG2.out.trans g3.mvs);clear hsp k3 g3 his hbl HY;go_wp2_with fail;refine htl.mono ?_;rintro e w4 ⟨rfl,k4,g4⟩;have HK4:=BB k4;have HS4:=BB (HS3.out.chg g4 (HK3.out.apartSh HS3.out));have HG4:=BB (HG3.out.trans g4.mvs);clear htl k4 g4;by_cases h0:y.2=0
     ·have HE5:=HE4.out;rw[AI (by rw[h0];simp)] at HE5;have HI2:Hid (mh A te x S Z w w4 k y.1 X.2.1 v2):=⟨HE5,HK4.out,HS4.out,HSM2.out,HG4.out⟩;rw[h0];clear h0 HE5 HE4;go_wp2
      go_roundg k
      case measure=>omega
      case rel=>exact⟨k,y.1,X.2.1,v2,AM _,HI2.out⟩
     ·replace q:∀w,(binOp .neq 33 (errV y.2) .nilIface).run prog w=.ok (.bool true) w:=fun w=>by rw[q,AN h0];rfl
      have HE5:=HE4.out;rw[AJ h0] at HE5;have HE6:Hid ((y.1,X.2.1,y.2)=Z):=AR HE5;clear h0 HE5 HE4;go_wp2;go_ret;rw[<-HE6.out];exact⟨v2,rfl,HK4.out,HS4.out,HSM2.out,HG4.out⟩
   ·rw[AN h8] at his;have HE3:=HE2.out;rw[AJ h8] at HE3;have HE4:Hid (X=Z):=AR HE3;clear h8 HE3 HE2;go_wp2_with (go_at_call 46;refine his.mono ?_;rintro e w9 ⟨rfl,rfl⟩);go_ret;rw[<-HE4.out];exact⟨v2,rfl,HK2.out,HS2.out,HSM2.out,HG2.out⟩
  ·rw[hb] at hbk;rw[AJ hb] at HE;have HE4:Hid ((Ki,Si,0)=Z):=AR HE;clear hb HE;go_wp2_with (go_at_call 159;refine hbk.mono ?_;rintro e w9 ⟨rfl,rfl⟩);go_ret;rw[<-HE4.out];exact⟨vi,rfl,HI.out.core,HI.out.sh,HI.out.sm,HI.out.chg⟩
theorem fJ(te:FF)(n:Nat)(K:BC)(S:BW)(Z:BC × BW × Nat)(h:moK te n K S=some Z):∃X,trK te n (if S.fd then lvK K S.fm else K) S=some X/\(if X.2.1.fd=true/\X.2.2=14 then ({ spK X.1 X.2.1.fm with dd:=true },X.2.1,X.2.2) else X)=Z:=by
 unfold moK at h;generalize trK te n (if S.fd then lvK K S.fm else K) S=Y at h;cases Y with
 | none=>cases h
 | some X=>
  refine⟨X,rfl,?_⟩;dsimp only at h;by_cases c:X.2.1.fd=true/\X.2.2=14
  ·rw[AJ c] at h ⊢;exact AR h
  ·rw[AI c] at h ⊢;exact AR h
theorem fK(A:Ad)(te:FF)(hte:fI A te)(w:Wd)(K:BC)(h:CoreAt A w K)(x:Nat)(S:BW)(v:Value)(hS:ShAt w x S v)(hfm:S.fm<12)(n:Nat)(Z:BC × BW × Nat)(hZ:moK te n K S=some Z) :Calls prog 84 #[.pointer (some ⟨A.c,0,none⟩),.pointer (some ⟨x,0,none⟩)] w fun e w'=>l9 A x S w Z e w':=by
 obtain⟨X,hX,hE⟩:=fJ te n K S Z hZ;obtain⟨d2,-⟩:=hS.cell 2 dc;obtain⟨d0,-⟩:=hS.cell 0 dc;replace d2:w.cell? ⟨x,2,none⟩=some (.bool S.fd):=d2;replace d0:w.cell? ⟨x,0,none⟩=some (.int .i64 (S.fm:Nat)):=d0;have HS:=BB hS;have HK:=BB h;have HFM:=BB hfm;have HTE:=BB hte;have HE:=BB hE;have hlv:=Gp A w K h (S.fm:Nat);clear hZ hE;cases hfd:S.fd
 ·rw[hfd] at d2;have HX:Hid (trK te n K S=some X):=by
   have e:=hX;rw[hfd] at e;exact e
  have htr:=Q1 A te HTE.out w K HK.out x S v HS.out HFM.out n X HX.out;clear h hS hfm hte hX hfd hlv;go_enter func84,ntmps84;go_wp2_with fail;refine htr.mono ?_;rintro e w2 ⟨v2,rfl,k2,s2,sm2,g2⟩;have HK2:=BB k2;have HS2:=BB s2;have HSM:=BB sm2;have HG2:=BB g2;obtain⟨e2,-⟩:=s2.cell 2 dc;obtain⟨e0,-⟩:=s2.cell 0 dc;replace e2:w2.cell? ⟨x,2,none⟩=some (.bool X.2.1.fd):=e2;replace e0:w2.cell? ⟨x,0,none⟩=some (.int .i64 (X.2.1.fm:Nat)):=e0;have his:=Ib X.2.2 14 dc w2;have hsp:=It A w2 X.1 k2 (X.2.1.fm:Nat);clear htr k2 s2 sm2 g2;cases hf:X.2.1.fd
  ·rw[hf] at e2;have HE2:=HE.out;rw[AI (by rw[hf];simp)] at HE2;have HE3:=BB HE2;clear HE HE2 hf;go_wp2;go_ret;rw[<-HE3.out];exact⟨v2,rfl,HK2.out,HS2.out,HSM.out,HG2.out⟩
  ·rw[hf] at e2;by_cases h14:X.2.2=14
   ·rw[AO h14] at his;have HE2:=HE.out;rw[AJ ⟨hf,h14⟩] at HE2;have HE3:=BB HE2;clear HE HE2 hf h14;go_wp2_with (go_at_call 46;refine his.mono ?_;rintro e w9 ⟨rfl,rfl⟩);refine hsp.mono ?_;rintro e w3 ⟨rfl,k3,g3⟩;generalize spK X.1 X.2.1.fm=K3 at *
    obtain⟨c97,f97⟩:=k3.cDd;have HK4:=BB (k3.setDd true);have G4:Chg (·=A.c) w3 (w3.setCell ⟨A.c,97,none⟩ (.bool true)):=(Chg.refl (·=A.c) w3).setCell (AK rfl) _ _;have G34:=g3.trans (Chg.cor_c (A:=A) G4);have HS4:=BB (HS2.out.chg G34 (HK2.out.apartSh HS2.out));have HG4:=BB (HG2.out.trans G34.mvs);clear hsp k3 g3 G4 G34 e0 e2 his;go_wp2;go_ret;rw[<-HE3.out];exact⟨v2,rfl,HK4.out,HS4.out,HSM.out,HG4.out⟩
   ·rw[AN h14] at his;have HE2:=HE.out;rw[AI (fun e=>h14 e.2)] at HE2;have HE3:=BB HE2;clear HE HE2 hf h14;go_wp2_with (go_at_call 46;refine his.mono ?_;rintro e w9 ⟨rfl,rfl⟩);go_ret;rw[<-HE3.out];exact⟨v2,rfl,HK2.out,HS2.out,HSM.out,HG2.out⟩
 ·rw[hfd] at d2;have HX:Hid (trK te n (lvK K S.fm) S=some X):=by
   have e:=hX;rw[hfd] at e;exact e
  have HNX:=BB (h.apartSh hS);clear h hS hfm hte hX hfd;go_enter func84,ntmps84;go_wp2_with fail;refine hlv.mono ?_;rintro e w1 ⟨rfl,k1,g1⟩;have S1:=HS.out.chg g1 HNX.out;have htr:=Q1 A te HTE.out w1 _ k1 x S v S1 HFM.out n X HX.out;have HG1:=BB g1;clear hlv k1 g1 S1 d0 d2;go_wp2_with fail;refine htr.mono ?_;rintro e w2 ⟨v2,rfl,k2,s2,sm2,g2⟩;have HK2:=BB k2;have HS2:=BB s2;have HSM:=BB sm2;have HG2:=BB (HG1.out.mvs.trans g2);obtain⟨e2,-⟩:=s2.cell 2 dc;obtain⟨e0,-⟩:=s2.cell 0 dc;replace e2:w2.cell? ⟨x,2,none⟩=some (.bool X.2.1.fd):=e2;replace e0:w2.cell? ⟨x,0,none⟩=some (.int .i64 (X.2.1.fm:Nat)):=e0;have his:=Ib X.2.2 14 dc w2;have hsp:=It A w2 X.1 k2 (X.2.1.fm:Nat);clear htr k2 s2 sm2 g2;cases hf:X.2.1.fd
  ·rw[hf] at e2;have HE2:=HE.out;rw[AI (by rw[hf];simp)] at HE2;have HE3:=BB HE2;clear HE HE2 hf;go_wp2;go_ret;rw[<-HE3.out];exact⟨v2,rfl,HK2.out,HS2.out,HSM.out,HG2.out⟩
  ·rw[hf] at e2;by_cases h14:X.2.2=14
   ·rw[AO h14] at his;have HE2:=HE.out;rw[AJ ⟨hf,h14⟩] at HE2;have HE3:=BB HE2;clear HE HE2 hf h14;go_wp2_with (go_at_call 46;refine his.mono ?_;rintro e w9 ⟨rfl,rfl⟩);refine hsp.mono ?_;rintro e w3 ⟨rfl,k3,g3⟩;generalize spK X.1 X.2.1.fm=K3 at *
    obtain⟨c97,f97⟩:=k3.cDd;have HK4:=BB (k3.setDd true);have G4:Chg (·=A.c) w3 (w3.setCell ⟨A.c,97,none⟩ (.bool true)):=(Chg.refl (·=A.c) w3).setCell (AK rfl) _ _;have G34:=g3.trans (Chg.cor_c (A:=A) G4);have HS4:=BB (HS2.out.chg G34 (HK2.out.apartSh HS2.out));have HG4:=BB (HG2.out.trans G34.mvs);clear hsp k3 g3 G4 G34 e0 e2 his;go_wp2;go_ret;rw[<-HE3.out];exact⟨v2,rfl,HK4.out,HS4.out,HSM.out,HG4.out⟩
   ·rw[AN h14] at his;have HE2:=HE.out;rw[AI (fun e=>h14 e.2)] at HE2;have HE3:=BB HE2;clear HE HE2 hf h14;go_wp2_with (go_at_call 46;refine his.mono ?_;rintro e w9 ⟨rfl,rfl⟩);go_ret;rw[<-HE3.out];exact⟨v2,rfl,HK2.out,HS2.out,HSM.out,HG2.out⟩
def AnC (A:Ad) (n:Nat):Prop:=∀w0 f cp H,Hold A w0 f cp H->∀w K (o:Nat) Z,CoreAt A w K->Chg (Cor A) w0 w->o<25->anR n H K o=some Z ->
 Calls prog 49 #[.pointer (some ⟨A.c,0,none⟩),.int .i64 (o:Nat),.func (.func f) #[] cp] w fun e w'=>e=.returned (errV Z.2)/\CoreAt A w' Z.1/\Chg (Cor A) w w'
theorem Lr(A:Ad)(n:Nat)(hA:AnC A n)(w:Wd)(K:BC)(h:CoreAt A w K)(Z:BC × Nat)(hZ:anR n noH K 24=some Z) :Calls prog 78 #[.pointer (some ⟨A.c,0,none⟩)] w fun e w'=>e=.returned (errV Z.2)/\CoreAt A w' Z.1/\Chg (Cor A) w w':=by
 have htl:=Fe w A.c 111 #[];have HK:=BB h;have HA:=BB hA;have HZ:=BB hZ;have hmf:∀(fn:Fn) (first cap:Array Value) (w:Wd),(Instr.makeFunc fn first cap).run prog w=.ok (.func fn first cap) w:=fun _ _ _ _=>rfl;clear h hA hZ;go_enter func78,ntmps78;go_wp2_with fail;refine htl.mono ?_;rintro e w3 ⟨rfl,a1,a2,a3,g3⟩;have K3:=HK.out.chg0 g3;have hlo:=HK.out.low;have hH:=DY A w3 111 #[] _ (Km A w3) w.heap.size (w.heap.size+1) a1 a2 (fun e=>by have:=hlo _ (AK e);omega) (fun e=>by have:=hlo _ (AK e);omega) om om NZ;have han:=HA.out w3 94 #[.pointer (some ⟨w.heap.size,0,none⟩),.pointer (some ⟨w.heap.size+1,0,none⟩)] noH hH w3 K 24 Z K3 (Chg.refl _ _) dc HZ.out;replace han:Calls prog 49 #[.pointer (some ⟨A.c,0,none⟩),.int .i64 24,.func (.func 94) #[] #[.pointer (some ⟨w.heap.size,0,none⟩),.pointer (some ⟨w.heap.size+1,0,none⟩)]] w3 fun e w'=>e=.returned (errV Z.2)/\CoreAt A w' Z.1/\Chg (Cor A) w3 w':=han;have HG3:=BB (Chg.cor0 (A:=A) g3);clear htl a1 a2 a3 g3 K3 hlo hH;go_wp2_with fail;refine han.mono ?_;rintro e w4 ⟨rfl,k4,g4⟩;have HK4:=BB k4;have HG4:=BB (HG3.out.trans g4);clear han k4 g4;go_wp2;go_ret;exact⟨rfl,HK4.out,HG4.out⟩
theorem fM(A:Ad)(n:Nat)(hA:AnC A n):fI A (Lg n):=by
 intro w K Z h hZ;have hno:=fun w K Z h hZ=>Lr A n hA w K h Z hZ;have HNO:Hid (∀w K Z,CoreAt A w K->anR n noH K 24=some Z->Calls prog 78 #[.pointer (some ⟨A.c,0,none⟩)] w fun e w'=>e=.returned (errV Z.2)/\CoreAt A w' Z.1/\Chg (Cor A) w w'):=hno;have hw:=PQ A w K h;obtain⟨c78,-⟩:=h.cSp;obtain⟨f,hf,-⟩:=QB.front h.core;have hrm:=AC.VD w A.c 124 101 f 79 K.fr hf h.wf.fr 24;have hcl:=Gn A w K h;have q:=Bn;have g:=BL;have HK:=BB h;have HZ:Hid (IN (fun K=>anR n noH K 24) K=some Z):=hZ;have HZ2:=HZ.out;unfold IN at HZ2;clear h hf hZ hA hno;cases hwn:CE K
 ·rw[hwn] at hw;cases hsp:K.sp
  ·rw[hsp] at c78;rw[AI (by rw[hwn,hsp];simp)] at HZ2;cases hr:AC.rmV K.fr 24
   ·rw[hr] at hrm;rw[AI (by rw[hr];simp)] at HZ2;have HZ3:=BB HZ2;clear HZ HZ2 hwn hsp hr;go_enter func161,ntmps161;go_wp2_with (first | (go_at_call 79;refine hw.mono ?_;rintro e w ⟨rfl,rfl⟩));refine hrm.mono ?_;rintro e w1 ⟨rfl,m,rfl⟩;have hcl2:=Gn A _ K (HK.out.drewN m);have HG0:Hid (Chg (Cor A) w (w.drewN m)):=(Chg.refl _ w).drewN m;clear hrm hcl hw c78 HK;generalize w.drewN m=w1 at *
    go_wp2_with fail;refine hcl2.mono ?_;rintro e w2 ⟨rfl,k2,g2⟩;generalize clK K=K2 at *
    have hop:=VU A w2 K2 k2;have HG2:=BB (HG0.out.trans g2);clear hcl2 k2 g2 HG0;go_wp2_with fail;refine hop.mono ?_;rintro e w3 ⟨rfl,k3,g3⟩;have HK3:=BB k3;have HG3:=BB (HG2.out.trans g3);clear hop g3 HG2;generalize opK K2=P at *
    by_cases hp:P.2=0
    ·have HZ4:=HZ3.out;rw[AI (by rw[hp];simp)] at HZ4;have hn2:=HNO.out w3 P.1 Z k3 HZ4;rw[hp];clear hp HZ4 HZ3 k3;go_wp2_with fail;refine hn2.mono ?_;rintro e w4 ⟨rfl,k4,g4⟩;have HK4:=BB k4;have HG4:=BB (HG3.out.trans g4);clear hn2 k4 g4;go_wp2;go_ret;exact⟨rfl,HK4.out,HG4.out⟩
    ·replace q:∀w,(binOp .neq 33 (errV P.2) .nilIface).run prog w=.ok (.bool true) w:=fun w=>by rw[q,AN hp];rfl
     have HZ4:=HZ3.out;rw[AJ hp] at HZ4;have HZ5:Hid (P=Z):=AR HZ4;clear hp HZ4 HZ3 k3;go_wp2;go_ret;rw[<-HZ5.out];exact⟨rfl,HK3.out,HG3.out⟩
   ·rw[hr] at hrm;rw[AJ hr] at HZ2;have HZ3:=BB HZ2;clear HZ HZ2 hwn hsp hr;go_enter func161,ntmps161;go_wp2_with (first | (go_at_call 79;refine hw.mono ?_;rintro e w ⟨rfl,rfl⟩));refine hrm.mono ?_;rintro e w1 ⟨rfl,m,rfl⟩;have hn2:=HNO.out (w.drewN m) K Z (HK.out.drewN m) HZ3.out;have HG0:Hid (Chg (Cor A) w (w.drewN m)):=(Chg.refl _ w).drewN m;clear hrm hcl hw c78 HK;generalize w.drewN m=w1 at *
    go_wp2_with fail;refine hn2.mono ?_;rintro e w4 ⟨rfl,k4,g4⟩;have HK4:=BB k4;have HG4:=BB (HG0.out.trans g4);clear hn2 k4 g4;go_wp2;go_ret;exact⟨rfl,HK4.out,HG4.out⟩
  ·rw[hsp] at c78;rw[AJ (AL hsp)] at HZ2;have HZ3:Hid ((K,14)=Z):=AR HZ2;clear HZ HZ2 hwn hsp;go_enter func161,ntmps161;go_wp2_with (go_at_call 79;refine hw.mono ?_;rintro e w ⟨rfl,rfl⟩);go_ret;rw[<-HZ3.out];exact⟨rfl,HK.out,Chg.refl _ _⟩
 ·rw[hwn] at hw;rw[AJ (AK hwn)] at HZ2;have HZ3:Hid ((K,14)=Z):=AR HZ2;clear HZ HZ2 hwn;go_enter func161,ntmps161;go_wp2_with (go_at_call 79;refine hw.mono ?_;rintro e w ⟨rfl,rfl⟩);go_ret;rw[<-HZ3.out];exact⟨rfl,HK.out,Chg.refl _ _⟩
section
variable (w:Wd)
def fN (A:Ad) (mo:Ek):Prop:=∀w K x S v Z,CoreAt A w K->ShAt w x S v->S.fm<12->mo K S=some Z->Calls prog 84 #[.pointer (some ⟨A.c,0,none⟩),.pointer (some ⟨x,0,none⟩)] w fun e w'=>l9 A x S w Z e w'
theorem cJ(A:Ad)(n:Nat)(hA:AnC A n):fN A (movR n):=fun w K x S v Z h hS hf hZ=>fK A (Lg n) (fM A n hA) w K h x S v hS hf (n+1) Z hZ
theorem IB.lies{w:Wd}{b n:Nat}{t:TypeId}{F:Nat->Int}(h:IB w b t n F):AG.Lies w (some ⟨b,0,none⟩) n F:=AL ⟨b,0,rfl,h.lt,fun i hi=>by rw[AW];exact(h.cell i hi).1⟩
theorem Vw(b:Int):(Instr.build 163 #[(0,.int .i64 b)]).run prog w=.ok (.agg #[.int .i64 b,.bool false,.bool false,.bool false,.int .i64 0,.int .i64 0,.slice none 0 0]) w:=kr
theorem Su(b:Int):(Instr.build 163 #[(0,.int .i64 b),(2,.bool true)]).run prog w=.ok (.agg #[.int .i64 b,.bool false,.bool true,.bool false,.int .i64 0,.int .i64 0,.slice none 0 0]) w:=kr
theorem ShAt.new(b:Nat)(rt fd:Bool):ShAt (w.alloc (.cells #[.int .i64 (b:Nat),.bool rt,.bool fd,.bool false,.int .i64 0,.int .i64 0,.slice none 0 0] 163)) w.heap.size (nwS b rt fd) (.slice none 0 0):=by
 refine⟨_,(show (w.heap.push _)[w.heap.size]?=_ by simp;rfl),rfl,fun i hi=>?_⟩;have:i=0\/i=1\/i=2\/i=3\/i=4\/i=5\/i=6:=om
 rcases this with rfl | rfl | rfl | rfl | rfl | rfl | rfl <;> rfl
theorem Vx(mo:Ek)(K:BC)(o:Nat):mrK mo 0 K o=none:=rfl
theorem Vy(mo:Ek)(n:Nat)(K:BC)(o:Nat)(Z:BC × Nat)(h:mrK mo (n+1) K o=some Z) :(AC.rmV K.fr o=true/\(K,0)=Z)\/(AC.rmV K.fr o=false /\((GD (clK K)=true/\(if (opK (clK K)).2≠0 then some (opK (clK K)) else mrK mo n (opK (clK K)).1 o)=some Z) \/(GD (clK K)=false/\((AG.chC 12 12 (clK K).F (lvF (clK K))≠0/\(clK K,14)=Z) \/(AG.chC 12 12 (clK K).F (lvF (clK K))=0/\∃y,mo (clK K) (nwS (AG.chV 12 12 (clK K).F (lvF (clK K))) false false)=some y/\(if y.2.2≠0 then some (y.1,y.2.2) else mrK mo n y.1 o)=some Z))))):=by
 rw[mrK] at h;dsimp only at h;cases hr:AC.rmV K.fr o
 ·rw[AI (by rw[hr];simp)] at h;refine AL ⟨rfl,?_⟩;generalize clK K=K1 at h ⊢;cases hs:GD K1
  ·rw[AI (by rw[hs];simp)] at h;refine AL ⟨rfl,?_⟩;by_cases hc:AG.chC 12 12 K1.F (lvF K1)=0
   ·rw[AI (by rw[hc];simp)] at h;refine AL ⟨hc,?_⟩;generalize mo K1 (nwS (AG.chV 12 12 K1.F (lvF K1)) false false)=Y at h ⊢;cases Y with
    | none=>cases h
    | some y=>exact⟨y,rfl,h⟩
   ·rw[AJ hc] at h;exact AK ⟨hc,AR h⟩
  ·rw[AJ hs] at h;exact AK ⟨rfl,h⟩
 ·rw[AJ hr] at h;exact AK ⟨rfl,AR h⟩
structure mA (A:Ad) (mo:Ek) (o:Nat) (Z:BC × Nat) (w wr:Wd) (k:Nat) (Ki:BC):Prop where
 eq:mrK mo k Ki o=some Z
 core:CoreAt A wr Ki
 chg:Chg (Cor A) w wr
theorem fO(A:Ad)(mo:Ek)(hmo:fN A mo)(w:Wd)(K:BC)(h:CoreAt A w K)(o:Nat)(n:Nat)(Z:BC × Nat)(hZ:mrK mo n K o=some Z) :Calls prog 80 #[.pointer (some ⟨A.c,0,none⟩),.int .i64 (o:Nat)] w fun e w'=>e=.returned (errV Z.2)/\CoreAt A w' Z.1/\Chg (Cor A) w w':=by
 have HK:=BB h;have HMO:=BB hmo;have HZ:=BB hZ;have q:=Bn;have g:=BL;have hbd:=Vw;clear h hZ hmo;go_enter func80,ntmps80;go_wp2_with fail
 go_loopg [4] n (fun kx s4 wr=>∃k Ki,k<=kx/\Hid (mA A mo o Z w wr k Ki))
 case atStart=>exact⟨n,K,AM _,⟨HZ.out,HK.out,Chg.refl _ _⟩⟩
 case round=>
  obtain⟨k,Ki,hk,HI⟩:=hrel;obtain _ | k:=k
  ·exact absurd HI.out.eq (by rw[Vx];exact fun e=>by cases e)
  obtain⟨f,hf,-⟩:=QB.front HI.out.core.core;have hrm:=AC.VD wr A.c 124 101 f 79 Ki.fr hf HI.out.core.wf.fr (o:Nat);clear hf;rcases Vy mo k Ki o Z HI.out.eq with ⟨hr,hE⟩ | ⟨hr,hE⟩
  ·rw[hr] at hrm;have HE:=BB hE;clear hE hr;go_wp2_with fail;refine hrm.mono ?_;rintro e w1 ⟨rfl,m,rfl⟩;have HK1:=BB (HI.out.core.drewN m);have HG1:=BB (HI.out.chg.drewN m);clear hrm;generalize wr.drewN m=w1 at *
   go_wp2;go_ret;rw[<-HE.out];exact⟨rfl,HK1.out,HG1.out⟩
  ·rw[hr] at hrm;have HE:=BB hE;clear hE hr;go_wp2_with fail;refine hrm.mono ?_;rintro e w1 ⟨rfl,m,rfl⟩;have hcl:=Gn A _ Ki (HI.out.core.drewN m);have HG1:=BB (HI.out.chg.drewN m);clear hrm HI;generalize wr.drewN m=w1 at *
   go_wp2_with fail;refine hcl.mono ?_;rintro e w2 ⟨rfl,k2,g2⟩;generalize clK Ki=K2 at *
   obtain⟨c1,-⟩:=k2.cPool;obtain⟨c2,-⟩:=k2.cMap;have hspr:=AD.SL w2 A.po K2.F k2.pool;have HK2:=BB k2;have HG2:=BB (HG1.out.trans g2);clear hcl k2 g2 HG1;rcases HE.out with ⟨hs,hE⟩ | ⟨hs,hE⟩
   ·have hs2:decide (AD.Ut K2.F<(AD.cnt K2.F 0 12:Nat))=true:=hs;rw[hs2] at hspr;have hop:=VU A w2 K2 HK2.out;generalize opK K2=P at *
    have HE2:=BB hE;clear hs hs2 hE HE;go_wp2_with (go_at_call 115;refine hspr.mono ?_;rintro e w9 ⟨rfl,rfl⟩);refine hop.mono ?_;rintro e w3 ⟨rfl,k3,g3⟩;have HK3:=BB k3;have HG3:=BB (HG2.out.trans g3);clear hop k3 g3 hspr c1 c2 HG2;by_cases hp:P.2=0
    ·have HE3:=HE2.out;rw[AI (by rw[hp];simp)] at HE3;have HI2:Hid (mA A mo o Z w w3 k P.1):=⟨HE3,HK3.out,HG3.out⟩;rw[hp];clear hp HE3 HE2;go_wp2
     go_roundg k
     case measure=>omega
     case rel=>exact⟨k,P.1,AM _,HI2.out⟩
    ·replace q:∀w,(binOp .neq 33 (errV P.2) .nilIface).run prog w=.ok (.bool true) w:=fun w=>by rw[q,AN hp];rfl
     have HE3:=HE2.out;rw[AJ hp] at HE3;have HE4:Hid (P=Z):=AR HE3;clear hp HE3 HE2;go_wp2;go_ret;rw[<-HE4.out];exact⟨rfl,HK3.out,HG3.out⟩
   ·have hs2:decide (AD.Ut K2.F<(AD.cnt K2.F 0 12:Nat))=false:=hs;rw[hs2] at hspr;have HE2:=BB hE;clear hs hs2 hE HE;go_wp2_with (go_at_call 115;refine hspr.mono ?_;rintro e w2 ⟨rfl,rfl⟩)
    go_region_held3 (fun wx=>wx.cell? ⟨A.c,1,none⟩=some (.pointer (some ⟨A.po,0,none⟩))/\wx.cell? ⟨A.c,2,none⟩=some (.pointer (some ⟨A.ma,0,none⟩)))
     (first | exact⟨c1,c2⟩ | exact⟨x1,x2⟩ | exact⟨z1,z2⟩)
     (first
      | (go_at_call 53;refine(AD.Dj _ A.po K2.F (HK2.out.drewN 1).pool).mono ?_;rintro e w3 ⟨rfl,hI3,g3⟩;have HI3:=BB hI3;have HK3:=BB ((HK2.out.drewN 1).chg0 g3);obtain⟨x1,-⟩:=HK3.out.cPool;obtain⟨x2,-⟩:=HK3.out.cMap;have HG3:=BB (HG2.out.drew.trans (Chg.cor0 (A:=A) g3));clear hI3 g3)
      | (go_at_call 107;refine(AA.Gj _ A.ma K2.L (HK2.out.drewN 1).map).mono ?_;rintro e w3 ⟨rfl,hL3,g3⟩;have HL3:=BB hL3;have HK3:=BB ((HK2.out.drewN 1).chg0 g3);obtain⟨x1,-⟩:=HK3.out.cPool;obtain⟨x2,-⟩:=HK3.out.cMap;have HG3:=BB (HG2.out.drew.trans (Chg.cor0 (A:=A) g3));clear hL3 g3)
      | (go_at_call 53;refine(AD.Dj _ A.po K2.F HK3.out.pool).mono ?_;rintro e w4 ⟨rfl,hI4,g4⟩;have HI4:=BB hI4;have HL4:=BB (HL3.out.chg g4 (fun f=>f));have HK4:=BB (HK3.out.chg0 g4);obtain⟨z1,-⟩:=HK4.out.cPool;obtain⟨z2,-⟩:=HK4.out.cMap;have HG4:=BB (HG3.out.trans (Chg.cor0 (A:=A) g4));clear hI4 g4)
      | (go_at_call 107;refine(AA.Gj _ A.ma K2.L HK3.out.map).mono ?_;rintro e w4 ⟨rfl,hL4,g4⟩;have HL4:=BB hL4;have HI4:=BB (HI3.out.chg g4 (fun f=>f));have HK4:=BB (HK3.out.chg0 g4);obtain⟨z1,-⟩:=HK4.out.cPool;obtain⟨z2,-⟩:=HK4.out.cMap;have HG4:=BB (HG3.out.trans (Chg.cor0 (A:=A) g4));clear hL4 g4)
      | (go_at_call 117;refine(AG.SW _ _ _ 12 12 K2.F (lvF K2) HI4.out.lies HL4.out.lies).mono ?_;rintro e w5 ⟨rfl,m5,rfl⟩;have HK5:=BB (HK4.out.drewN m5);have HG5:=BB (HG4.out.drewN m5);obtain⟨z1,-⟩:=HK5.out.cPool;obtain⟨z2,-⟩:=HK5.out.cMap))
    all_goals
     generalize w4.drewN m5=w5 at *
     clear c1 c2 x1 x2 z1 z2 hspr;rcases HE2.out with ⟨hc,hE⟩ | ⟨hc,y,hy,hE⟩
     ·replace q:∀w,(binOp .neq 33 (errV (AG.chC 12 12 K2.F (lvF K2))) .nilIface).run prog w=.ok (.bool true) w:=fun w=>by rw[q,AN hc];rfl
      have HE3:=BB hE;clear hc hE HE2;generalize AG.chC 12 12 K2.F (lvF K2)=cc at *
      go_wp2;go_ret;rw[<-HE3.out];exact⟨rfl,HK5.out,HG5.out⟩
     ·have hch:=(AG.Zn hc).2.2.1;have GA:Chg No w5 (w5.alloc (.cells #[.int .i64 (AG.chV 12 12 K2.F (lvF K2):Nat),.bool false,.bool false,.bool false,.int .i64 0,.int .i64 0,.slice none 0 0] 163)):=(Chg.refl _ w5).alloc _;have hmv:=HMO.out _ K2 w5.heap.size (nwS (AG.chV 12 12 K2.F (lvF K2)) false false) _ y (HK5.out.chg0 GA) (ShAt.new w5 (AG.chV 12 12 K2.F (lvF K2)) false false) hch hy;have HG6:=BB (HG5.out.trans (Chg.cor0 (A:=A) GA));have HSZ:=BB HG5.out.size;have HE3:=BB hE;rw[hc];clear hc hch hy hE HE2 GA HK5;go_wp2_with fail;refine hmv.mono ?_;rintro e w6 ⟨v6,rfl,k6,s6,sm6,g6⟩;have HK6:=BB k6;have HG7:=BB (HG6.out.trans' g6 (fun k hk e=>e.elim id (fun e=>by have:=HSZ.out;omega)));clear hmv k6 s6 sm6 g6 HG6;by_cases hp:y.2.2=0
      ·have HE4:=HE3.out;rw[AI (by rw[hp];simp)] at HE4;have HI2:Hid (mA A mo o Z w w6 k y.1):=⟨HE4,HK6.out,HG7.out⟩;rw[hp];clear hp HE3 HE4;go_wp2
       go_roundg k
       case measure=>omega
       case rel=>exact⟨k,y.1,AM _,HI2.out⟩
      ·replace q:∀w,(binOp .neq 33 (errV y.2.2) .nilIface).run prog w=.ok (.bool true) w:=fun w=>by rw[q,AN hp];rfl
       have HE4:=HE3.out;rw[AJ hp] at HE4;have HE5:Hid ((y.1,y.2.2)=Z):=AR HE4;clear hp HE3 HE4;go_wp2;go_ret;rw[<-HE5.out];exact⟨rfl,HK6.out,HG7.out⟩
end
def kK (A:Ad) (mr:BC->Nat->Option (BC × Nat)):Prop:=∀w K (o:Nat) Z,CoreAt A w K->mr K o=some Z->Calls prog 80 #[.pointer (some ⟨A.c,0,none⟩),.int .i64 (o:Nat)] w fun e w'=>e=.returned (errV Z.2)/\CoreAt A w' Z.1/\Chg (Cor A) w w'
theorem fP(H:Dp)(K:BC)(p o:Nat):(frK H K p o).1.fr=K.fr:=by
 have e:∀t D,(prK (sqK K) t D).1.fr=K.fr:=fun t D=>by
  unfold prK;generalize prF (sqK K).tl (sqK K).s (sqK K).r t D=z;rfl
 rw[Vp];have e1:=e ⟨p,o,K.nx,0,false⟩ (H (sqK K) K.nx);generalize prK (sqK K) ⟨p,o,K.nx,0,false⟩ (H (sqK K) K.nx)=z at e1 ⊢;split
 ·rfl
 ·split
  ·exact e1
  ·show (if o=24 then ntK z.1 else z.1).fr=K.fr;split <;> exact e1
theorem Vz(mr:BC->Nat->Option (BC × Nat))(mo:Ek)(H:Dp)(K:BC)(o:Nat):anK mr mo H 0 K o=none:=rfl
theorem V0(mr:BC->Nat->Option (BC × Nat))(mo:Ek)(H:Dp)(n:Nat)(K:BC)(o:Nat)(Z:BC × Nat)(h:anK mr mo H (n+1) K o=some Z) :((CE K=true\/K.sp=true)/\(K,14)=Z)\/((CE K=false/\K.sp=false)/\∃x,mr K o=some x /\((x.2≠0/\x=Z)\/(x.2=0/\((AC.nxC x.1.fr o≠0/\(x.1,AC.nxC x.1.fr o)=Z)\/(AC.nxC x.1.fr o=0/\∃P,frK H { x.1 with fr:=AC.tkS x.1.fr o } (AC.nxV x.1.fr o).toNat o=P /\((P.2.2=0/\layK P.1 P.2.1=Z)\/(P.2.2≠0/\P.2.2≠8/\(P.1,P.2.2)=Z)\/(P.2.2=8/\∃y,mo P.1 (nwS (AC.blV P.1.fr).toNat false true)=some y/\(if y.2.2≠0 then some (y.1,y.2.2) else anK mr mo H n y.1 o)=some Z))))))):=by
 rw[anK] at h;by_cases hw:CE K=true\/K.sp=true
 ·rw[AJ hw] at h;exact AK ⟨hw,AR h⟩
 ·rw[AI hw] at h;refine AL ⟨?_,?_⟩
  ·cases h1:CE K
   ·cases h2:K.sp
    ·exact⟨rfl,rfl⟩
    ·exact absurd (AL h2) hw
   ·exact absurd (AK h1) hw
  ·cases hx:mr K o with
   | none=>rw[hx] at h;cases h
   | some x=>
    rw[hx] at h;dsimp only at h;refine⟨x,rfl,?_⟩;by_cases h0:x.2=0
    ·rw[AI (by rw[h0];simp)] at h;refine AL ⟨h0,?_⟩;by_cases hn:AC.nxC x.1.fr o=0
     ·rw[AI (by rw[hn];simp)] at h;refine AL ⟨hn,_,rfl,?_⟩;generalize frK H { x.1 with fr:=AC.tkS x.1.fr o } (AC.nxV x.1.fr o).toNat o=P at h ⊢;by_cases hp:P.2.2=0
      ·rw[AJ hp] at h;exact AK ⟨hp,AR h⟩
      ·rw[AI hp] at h;by_cases h8:P.2.2=8
       ·rw[AI (by rw[h8];simp)] at h;refine AL (AL ⟨h8,?_⟩);generalize mo P.1 (nwS (AC.blV P.1.fr).toNat false true)=Y at h ⊢;cases Y with
        | none=>cases h
        | some y=>exact⟨y,rfl,h⟩
       ·rw[AJ h8] at h;exact AL (AK ⟨hp,h8,AR h⟩)
     ·rw[AJ hn] at h;exact AK ⟨hn,AR h⟩
    ·rw[AJ h0] at h;exact AK ⟨h0,AR h⟩
structure mi (A:Ad) (mr:BC->Nat->Option (BC × Nat)) (mo:Ek) (H:Dp) (o:Nat) (Z:BC × Nat) (w wr:Wd) (k:Nat) (Ki:BC):Prop where
 eq:anK mr mo H k Ki o=some Z
 core:CoreAt A wr Ki
 chg:Chg (Cor A) w wr
theorem aC(A:Ad)(mr:BC->Nat->Option (BC × Nat))(hmr:kK A mr)(mo:Ek)(hmo:fN A mo)(w0:Wd)(f:FuncId)(cp:Array Value)(H:Dp)(hH:Hold A w0 f cp H)(w:Wd)(K:BC)(h:CoreAt A w K)(hw0:Chg (Cor A) w0 w)(o:Nat)(ho:o<25)(n:Nat)(Z:BC × Nat)(hZ:anK mr mo H n K o=some Z) :Calls prog 49 #[.pointer (some ⟨A.c,0,none⟩),.int .i64 (o:Nat),.func (.func f) #[] cp] w fun e w'=>e=.returned (errV Z.2)/\CoreAt A w' Z.1/\Chg (Cor A) w w':=by
 have HK:=BB h;have HMO:=BB hmo;have HMR:=BB hmr;have HH:=BB hH;have HW0:=BB hw0;have HO:=BB ho;have HZ:=BB hZ;have q:=Bn;have g:=BL;have qe:=Hn;have ge:=DC;have hbd:=Su;have hzt:=Gs;clear h hZ hmo hmr hH hw0 ho;go_enter func49,ntmps49;go_wp2_with fail
 go_loopg [6] n (fun kx s6 wr=>∃k Ki,k<=kx/\Hid (mi A mr mo H o Z w wr k Ki))
 case atStart=>exact⟨n,K,AM _,⟨HZ.out,HK.out,Chg.refl _ _⟩⟩
 case round=>
  obtain⟨k,Ki,hk,HI⟩:=hrel;obtain _ | k:=k
  ·exact absurd HI.out.eq (by rw[Vz];exact fun e=>by cases e)
  have hwn:=PQ A wr Ki HI.out.core;obtain⟨c78,-⟩:=HI.out.core.cSp;rcases V0 mr mo H k Ki o Z HI.out.eq with ⟨hr,hE⟩ | ⟨⟨hr1,hr2⟩,X,hX,hE⟩
  ·have HE:=BB hE;cases h1:CE Ki
   ·have h2:Ki.sp=true:=hr.resolve_left (by rw[h1];simp);rw[h1] at hwn;rw[h2] at c78;clear hr hE h1 h2;go_wp2_with (go_at_call 79;refine hwn.mono ?_;rintro e wr ⟨rfl,rfl⟩);go_ret;rw[<-HE.out];exact⟨rfl,HI.out.core,HI.out.chg⟩
   ·rw[h1] at hwn;clear hr hE h1;go_wp2_with (go_at_call 79;refine hwn.mono ?_;rintro e wr ⟨rfl,rfl⟩);go_ret;rw[<-HE.out];exact⟨rfl,HI.out.core,HI.out.chg⟩
  ·rw[hr1] at hwn;rw[hr2] at c78;have hrm:=HMR.out wr Ki o X HI.out.core hX;have HE:=BB hE;clear hr1 hr2 hX hE;go_wp2_with (go_at_call 79;refine hwn.mono ?_;rintro e wr ⟨rfl,rfl⟩);refine hrm.mono ?_;rintro e w1 ⟨rfl,k1,g1⟩;have HK1:=BB k1;have HG1:=BB (HI.out.chg.trans g1);clear hrm k1 g1 HI hwn c78;rcases HE.out with ⟨h0,hE⟩ | ⟨h0,hE⟩
   ·replace q:∀w,(binOp .neq 33 (errV X.2) .nilIface).run prog w=.ok (.bool true) w:=fun w=>by rw[q,AN h0];rfl
    have HE3:=BB hE;clear h0 hE HE;go_wp2;go_ret;rw[<-HE3.out];exact⟨rfl,HK1.out,HG1.out⟩
   ·have HE2:=BB hE;rw[h0];clear h0 hE HE;obtain⟨ff,hf,back⟩:=QB.front HK1.out.core;have htk:=AC.take_v w1 A.c 124 101 ff 79 X.1.fr hf HK1.out.wf.fr (o:Nat);have HBK:=BB back;clear hf back;go_wp2_with fail;refine htk.mono ?_;rintro e w2 ⟨rfl,F2,g2⟩;have HK2:=BB (HK1.out.setFr (HBK.out w2 _ F2) g2 (AC.E9.take HK1.out.wf.fr (o:Nat)));have HG2:=BB (HG1.out.trans (Chg.cor_c (A:=A) g2));clear htk F2 g2;rcases HE2.out with ⟨hn,hE⟩ | ⟨hn,P,hP,hE⟩
    ·have HE3:=BB hE;have HEQ:Hid ({ X.1 with fr:=AC.tkS X.1.fr (o:Nat) }=X.1):=by
      show ({ X.1 with fr:=AC.tkS X.1.fr (o:Nat) }:BC)=X.1;unfold AC.tkS;rw[AI hn]
     rw[HEQ.out] at HK2;replace q:∀w,(binOp .neq 33 (errV (AC.nxC X.1.fr (o:Nat))) .nilIface).run prog w=.ok (.bool true) w:=fun w=>by rw[q,AN hn];rfl
     clear hn hE HE2 HEQ;generalize AC.nxC X.1.fr (o:Nat)=nn at *
     go_wp2;go_ret;rw[<-HE3.out];exact⟨rfl,HK2.out,HG2.out⟩
    ·have HPL:=BB (Jo HK1.out.wf.fr hn);have HOP:Hid (AC.blV X.1.fr=(X.1.fr.k:Nat)/\X.1.fr.o=true):=by
      have e:X.1.fr.o=true:=by
       cases e:X.1.fr.o
       ·have:=AC.bx (s:=X.1.fr) (n:=(o:Nat)) (by have:=HO.out;omega) e;rw[hn] at this;cases this
       ·rfl
      exact⟨by unfold AC.blV;rw[e];rfl,e⟩
     have hfr:=Qx A w0 f cp H HH.out w2 _ HK2.out (HW0.out.trans HG2.out) (AC.nxV X.1.fr (o:Nat)).toNat o ⟨⟨by have:=HPL.out.1;omega,by have:=HO.out;omega,by have:=HK2.out.wf.nx;omega,om⟩,by
      rcases HPL.out.2.1 with e | e
      ·
       exact AK ⟨om,rfl⟩
      ·
       by_cases e2:o=24
       ·
        exact AK ⟨om,rfl⟩
       ·
        exact AL ⟨om,om⟩⟩
     rw[hP] at hfr;have HFR:Hid (P.1.fr=AC.tkS X.1.fr (o:Nat)):=by
      rw[<-hP];exact fP _ _ _ _
     have HFT:Hid (P.2.2=0->P.2.1=⟨(AC.nxV X.1.fr (o:Nat)).toNat,o,X.1.nx,0,false⟩):=fun e=>by
      rw[<-hP] at e ⊢;exact Qz _ _ _ _ e
     have HTK:Hid (AC.tkS X.1.fr (o:Nat)={ X.1.fr with i:=X.1.fr.i+1 }):=by
      show AC.tkS X.1.fr (o:Nat)=_;unfold AC.tkS;rw[AJ hn]
     have HNX:Hid (1<=X.1.nx/\X.1.nx<=1099511627775):=HK2.out.wf.nx;rw[Lm] at hfr;rw[hn];have HE3:=BB hE;have HBL:Hid (AC.blV P.1.fr=(X.1.fr.k:Nat)):=by
      show AC.blV P.1.fr=_;rw[HFR.out,HTK.out];unfold AC.blV;rw[show ({ X.1.fr with i:=X.1.fr.i+1 }:AC.St).o=true from HOP.out.2];rfl
     have HKL:Hid (X.1.fr.k<12):=HK1.out.wf.fr.1;clear hn hE HE2 hP HBK;go_wp2_with fail;refine hfr.mono ?_;rintro e w3 ⟨rfl,k3,g3⟩;have GA:Chg No w3 (w3.alloc (.cells #[.int .i64 (P.2.1.p:Nat),.int .i64 (P.2.1.o:Nat),.int .i64 (P.2.1.q:Nat),.int .i64 (P.2.1.c:Nat),.bool P.2.1.l] 127)):=(Chg.refl _ w3).alloc _;have K4:=k3.chg0 GA;have HG4:=BB ((HG2.out.trans g3).trans (Chg.cor0 (A:=A) GA));have HK4:=BB K4;clear hfr k3 g3 GA;rcases HE3.out with ⟨hp,hE⟩ | ⟨hp,h8,hE⟩ | ⟨h8,y,hy,hE⟩
     ·have htg:=HFT.out hp;have hly:=cI A _ P.1 K4 P.2.1 (by rw[htg];exact HO.out) (by rw[htg];exact HNX.out) (by rw[htg];exact(show 0<256 by decide));have HE4:=BB hE;replace qe:∀w,(binOp .eql 33 (errV P.2.2) .nilIface).run prog w=.ok (.bool true) w:=fun w=>by rw[qe,AO hp]
      clear hp hE htg HE3 K4;go_wp2_with fail;refine hly.mono ?_;rintro e w5 ⟨rfl,k5,g5⟩;have HK5:=BB k5;have HG5:=BB (HG4.out.trans g5);clear hly k5 g5;go_wp2;go_ret;rw[<-HE4.out];exact⟨rfl,HK5.out,HG5.out⟩
     ·have his:=Ib P.2.2 8 dc (w3.alloc (.cells #[.int .i64 (P.2.1.p:Nat),.int .i64 (P.2.1.o:Nat),.int .i64 (P.2.1.q:Nat),.int .i64 (P.2.1.c:Nat),.bool P.2.1.l] 127));rw[AN h8] at his;have HE4:=BB hE;replace qe:∀w,(binOp .eql 33 (errV P.2.2) .nilIface).run prog w=.ok (.bool false) w:=fun w=>by rw[qe,AN hp]
      clear hp h8 hE HE3 K4;go_wp2_with fail;refine his.mono ?_;rintro e w5 ⟨rfl,rfl⟩;clear his;go_wp2;go_ret;rw[<-HE4.out];exact⟨rfl,HK4.out,HG4.out⟩
     ·have his:=Ib P.2.2 8 dc (w3.alloc (.cells #[.int .i64 (P.2.1.p:Nat),.int .i64 (P.2.1.o:Nat),.int .i64 (P.2.1.q:Nat),.int .i64 (P.2.1.c:Nat),.bool P.2.1.l] 127));rw[AO h8] at his;have HE4:=BB hE;replace qe:∀w,(binOp .eql 33 (errV P.2.2) .nilIface).run prog w=.ok (.bool false) w:=fun w=>by rw[qe,h8];rfl
      obtain⟨f4,hf4,-⟩:=QB.front K4.core;have hbl:=AC.Db _ A.c 124 101 f4 79 P.1.fr hf4;rw[HBL.out] at hbl;have HY:Hid (mo P.1 (nwS X.1.fr.k false true)=some y):=by
       rw[HBL.out] at hy;exact hy
      clear h8 hy hE HE3 K4 hf4;go_wp2_with fail;generalize (w3.alloc (.cells #[.int .i64 (P.2.1.p:Nat),.int .i64 (P.2.1.o:Nat),.int .i64 (P.2.1.q:Nat),.int .i64 (P.2.1.c:Nat),.bool P.2.1.l] 127))=w4 at *
      have GB:Chg No w4 (w4.alloc (.cells #[.int .i64 (X.1.fr.k:Nat),.bool false,.bool true,.bool false,.int .i64 0,.int .i64 0,.slice none 0 0] 163)):=(Chg.refl _ w4).alloc _;have hmv:=HMO.out _ P.1 w4.heap.size (nwS X.1.fr.k false true) _ y (HK4.out.chg0 GB) (ShAt.new w4 X.1.fr.k false true) HKL.out HY.out;have HG6:=BB (HG4.out.trans (Chg.cor0 (A:=A) GB));have HSZ:=BB HG4.out.size;clear GB HK4;refine his.mono ?_;rintro e w4 ⟨rfl,rfl⟩;go_wp2_with (first | (go_at_call 46;refine his.mono ?_;rintro e w4 ⟨rfl,rfl⟩) | (go_at_call 85;refine hbl.mono ?_;rintro e w4 ⟨rfl,rfl⟩));refine hmv.mono ?_;rintro e w6 ⟨v6,rfl,k6,s6,sm6,g6⟩;have HK6:=BB k6;have HG7:=BB (HG6.out.trans' g6 (fun k hk e=>e.elim id (fun e=>by have:=HSZ.out;omega)));clear hmv k6 s6 sm6 g6 HG6 his hbl;by_cases hp:y.2.2=0
      ·have HE5:=HE4.out;rw[AI (by rw[hp];simp)] at HE5;have HI2:Hid (mi A mr mo H o Z w w6 k y.1):=⟨HE5,HK6.out,HG7.out⟩;rw[hp];clear hp HE4 HE5;go_wp2
       go_roundg k
       case measure=>omega
       case rel=>exact⟨k,y.1,AM _,HI2.out⟩
      ·replace q:∀w,(binOp .neq 33 (errV y.2.2) .nilIface).run prog w=.ok (.bool true) w:=fun w=>by rw[q,AN hp];rfl
       have HE5:=HE4.out;rw[AJ hp] at HE5;have HE6:Hid ((y.1,y.2.2)=Z):=AR HE5;clear hp HE4 HE5;go_wp2;go_ret;rw[<-HE6.out];exact⟨rfl,HK6.out,HG7.out⟩
theorem GF(A:Ad):∀n,AnC A n
 | 0=>fun _ _ _ _ _ _ _ _ _ _ _ _ h=>by cases h
 | n+1=>fun w0 f cp H hH w K o Z hC hW ho hZ=>by
  have hA:=GF A n
  have hmo:=cJ A n hA
  have hZ2:anK (mrK (movR n) (n+1)) (movR n) H (n+1) K o=some Z:=hZ
  exact aC A (mrK (movR n) (n+1)) (fun w K o Z hK hZ=>fO A (movR n) hmo w K hK o (n+1) Z hZ) (movR n) hmo w0 f cp H hH w K hC hW o ho (n+1) Z hZ2
theorem GG(w:Wd)(o:Int)(h:0<=o/\o<24):Calls prog 48 #[.int .i64 o] w fun e w'=>e=.returned (.bool true)/\w'=w:=by
 obtain⟨h1,h2⟩:=h;go_enter func48,ntmps48;go_wp2;go_ret;exact⟨rfl,rfl⟩
theorem kL(A:Ad)(w:Wd)(K:BC)(h:CoreAt A w K)(o:Nat)(ho:o<24)(d off cap:Nat)(D:List Nat)(hD:D.length=160)(bD:Bys D)(hd:At w d off D)(nd:¬ Cor A d)(n:Nat)(Z:BC × Nat)(hZ:anR n (fun _ _=>D ++ List.replicate 14 0) K o=some Z) :Calls prog 33 #[.pointer (some ⟨A.c,0,none⟩),.int .i64 (o:Nat),.slice (some ⟨d,off,none⟩) 160 cap] w fun e w'=>e=.returned (errV Z.2)/\CoreAt A w' Z.1/\Chg (Cor A) w w':=by
 have G0:Chg No w (w.alloc (.cells #[.slice (some ⟨d,off,none⟩) 160 cap] 35)):=(Chg.refl _ w).alloc _;have hB0:(w.alloc (.cells #[.slice (some ⟨d,off,none⟩) 160 cap] 35)).cell? ⟨w.heap.size,0,none⟩=some (.slice (some ⟨d,off,none⟩) 160 cap):=by
  have h1:(w.alloc (.cells #[.slice (some ⟨d,off,none⟩) 160 cap] 35)).heap[w.heap.size]?=some (.cells #[.slice (some ⟨d,off,none⟩) 160 cap] 35):=(show (w.heap.push _)[w.heap.size]?=_ by simp);rw[cell_of_row _ _ _ _ _ _ h1];rfl
 have hs:=fun w=>GG w (o:Nat) om;have hH:=Vj A _ w.heap.size d off cap D hD bD hB0 (hd.chg G0 (fun f=>f)) (h.apart (AM _)) nd (by simp);have han:=GF A n _ 50 #[.pointer (some ⟨w.heap.size,0,none⟩)] _ hH _ K o Z (h.chg0 G0) (Chg.refl _ _) om hZ;have hmf:∀(fn:Fn) (first cap:Array Value) (w:Wd),(Instr.makeFunc fn first cap).run prog w=.ok (.func fn first cap) w:=fun _ _ _ _=>rfl;have HG:=BB (Chg.cor0 (A:=A) G0);clear h hZ hd nd hD bD hH G0 ho hB0;go_enter func33,ntmps33;go_wp2_with (go_at_call 48;refine(hs _).mono ?_;rintro e w1 ⟨rfl,rfl⟩);refine han.mono ?_;rintro e w2 ⟨rfl,k2,g2⟩;have HK2:=BB k2;have HG2:=BB (HG.out.trans g2);clear han k2 g2;go_wp2;go_ret;exact⟨rfl,HK2.out,HG2.out⟩
theorem Sv(w:Wd)(b:Int)(r:Bool):(Instr.build 163 #[(0,.int .i64 b),(1,.bool r)]).run prog w=.ok (.agg #[.int .i64 b,.bool r,.bool false,.bool false,.int .i64 0,.int .i64 0,.slice none 0 0]) w:=kr
section
variable {k:Nat}{t l sd:Bool}{p o s c d:Int}{v:Value}(A:Ad)(w:Wd)(K:BC)
def inK (K:BC) (p:Nat):BC × Pg × Nat:=
 let x:=rdK K p
 if x.2.2≠0 then (x.1,Pg.zero,x.2.2) else
 if AA.own x.1.L p = -1 then (x.1,x.2.1,0) else
 if x.2.1.sound=true/\x.2.1.dmg<2 then (x.1,x.2.1,0) else
 ({ x.1 with hS:=AF.Fl 255 x.1.hS (p / 8:Nat),qu:=AE.PL x.1.qu (p / 8:Nat) },x.2.1,0)
theorem Wf.qu'{K:BC}(h:Wf K){l:List Int}(hl:AE.Le l):Wf { K with qu:=l }:=
 ⟨h.chip,h.rr,h.frm,h.map,h.vs,h.vp,h.vc,h.fl,h.nx,h.fr,h.cu,hl,h.hea,h.tl⟩
theorem V1(h:CoreAt A w K)(x:Int):Calls prog 92 #[.pointer (some ⟨A.c,83,none⟩),.int .i64 x] w fun e w'=>e=.returned (errV (AE.eH x))/\CoreAt A w' { K with qu:=AE.PL K.qu x }/\Chg (·=A.c) w w':=by
 refine(AE.jt w A.c 124 101 _ 83 K.qu h.core h.wf.qu x).mono ?_;rintro e w' ⟨rfl,hQ,hc⟩;exact⟨rfl,h.setCore { K with qu:=AE.PL K.qu x } ⟨rfl,rfl,rfl,rfl,rfl,rfl,rfl,rfl,rfl⟩ hQ hc (h.wf.qu' (h.wf.qu.add x)),hc⟩
theorem V4(h:CoreAt A w K)(x:Int):Calls prog 91 #[.pointer (some ⟨A.h,0,none⟩),.int .i64 x] w fun e w'=>e=.returned (errV (AF.Io x))/\CoreAt A w' { K with hS:=AF.Fl 255 K.hS x }/\Chg (·=A.h) w w':=by
 refine(AF.VG w A.h _ _ _ h.hea h.wf.hea x).mono ?_;rintro e w' ⟨rfl,hH,hc⟩;exact⟨rfl,h.setHea hH hc (h.wf.hR' ((AF.Fk.more3 h.wf.hea x))),hc⟩
theorem Pb.set8{w:Wd}(h:Pb w k t p o s c l sd v d)(d':Int):Pb (w.setCell ⟨k,8,none⟩ (.int .i64 d')) k t p o s c l sd v d':=heap_setCell_same w k 8 _ 129 _ h
theorem Pb.all{w:Wd}(h:Pb w k t p o s c l sd v d)(t':Bool)(p' o' s' c':Int)(l' sd':Bool)(v':Value)(d':Int) :Pb (((((((((w.setCell ⟨k,0,none⟩ (.bool t')).setCell ⟨k,1,none⟩ (.int .i64 p')).setCell ⟨k,2,none⟩ (.int .i64 o')).setCell ⟨k,3,none⟩ (.int .i64 s')).setCell ⟨k,4,none⟩ (.int .i64 c')).setCell ⟨k,5,none⟩ (.bool l')).setCell ⟨k,6,none⟩ (.bool sd')).setCell ⟨k,7,none⟩ (v')).setCell ⟨k,8,none⟩ (.int .i64 d')) k t' p' o' s' c' l' sd' v' d'/\Chg (·=k) w (((((((((w.setCell ⟨k,0,none⟩ (.bool t')).setCell ⟨k,1,none⟩ (.int .i64 p')).setCell ⟨k,2,none⟩ (.int .i64 o')).setCell ⟨k,3,none⟩ (.int .i64 s')).setCell ⟨k,4,none⟩ (.int .i64 c')).setCell ⟨k,5,none⟩ (.bool l')).setCell ⟨k,6,none⟩ (.bool sd')).setCell ⟨k,7,none⟩ (v')).setCell ⟨k,8,none⟩ (.int .i64 d')):=by
 refine⟨((((((((h.set0 t').set1 p').set2 o').set3 s').set4 c').set5 l').set6 sd').set7 v').set8 d',?_⟩;have g:=Chg.refl (·=k) w;exact((((((((g.setCell (AK rfl) _ _).setCell (AK rfl) _ _).setCell (AK rfl) _ _).setCell (AK rfl) _ _).setCell (AK rfl) _ _).setCell (AK rfl) _ _).setCell (AK rfl) _ _).setCell (AK rfl) _ _).setCell (AK rfl) _ _
theorem Kq(h:CoreAt A w K)(p:Nat)(hp:p<96) :Calls prog 57 #[.pointer (some ⟨A.c,0,none⟩),.int .i64 (p:Nat)] w fun e w'=>∃v,e=.returned (.tuple #[SE (inK K p).2.1 v,errV (inK K p).2.2])/\Cr w' w.heap.size 5 v (inK K p).2.1.data/\CoreAt A w' (inK K p).1/\Chg (Cor A) w w':=by
 have hbd:=Ja;have HP:=BB (Pb.new w false 0 0 0 0 false false (.slice none 0 0) 0);have G0:Chg No w (w.alloc (.cells #[.bool false,.int .i64 0,.int .i64 0,.int .i64 0,.int .i64 0,.bool false,.bool false,.slice none 0 0,.int .i64 0] 129)):=(Chg.refl _ w).alloc _;have hrd:=VV A _ K (h.chg0 G0) p hp;have hs0:(w.alloc (.cells #[.bool false,.int .i64 0,.int .i64 0,.int .i64 0,.int .i64 0,.bool false,.bool false,.slice none 0 0,.int .i64 0] 129)).heap.size=w.heap.size+1:=by simp
 rw[hs0] at hrd;have HLOW:=BB h.low;have HG:=BB G0;have q:=Bn;have g:=BL;have hpz:0<=((p:Nat):Int)/\((p:Nat):Int)<96:=om
 have hbl:=fun w=>Gm w (p:Nat) hpz;have HE:Hid (inK K p=if (rdK K p).2.2≠0 then ((rdK K p).1,Pg.zero,(rdK K p).2.2) else if AA.own (rdK K p).1.L p = -1 then ((rdK K p).1,(rdK K p).2.1,0) else if (rdK K p).2.1.sound=true/\(rdK K p).2.1.dmg<2 then ((rdK K p).1,(rdK K p).2.1,0) else ({ (rdK K p).1 with hS:=AF.Fl 255 (rdK K p).1.hS (p / 8:Nat),qu:=AE.PL (rdK K p).1.qu (p / 8:Nat) },(rdK K p).2.1,0)):=rfl;generalize rdK K p=Z at *
 clear h G0 hs0;go_enter func57,ntmps57;go_wp2_with fail;refine hrd.mono ?_;rintro e w1 ⟨v,rfl,hO,K1,G1⟩;have n0:¬ Cor A w.heap.size:=fun e=>by have:=HLOW.out _ (AK e);omega
 have HP1:=BB (HP.out.chg G1 n0);have HG1:=BB ((Chg.cor0 (A:=A) HG.out).trans G1);have HO1:=BB hO;have HK1:=BB K1;have HPN:=BB (Pb.new w1 false 0 0 0 0 false false (.slice none 0 0) 0);have HGN:Hid (Chg No w1 (w1.alloc (.cells #[.bool false,.int .i64 0,.int .i64 0,.int .i64 0,.int .i64 0,.bool false,.bool false,.slice none 0 0,.int .i64 0] 129))):=(Chg.refl _ w1).alloc _;have hlt1:=HP1.out.lt;clear hrd hO K1 G1 HP HG n0;unfold SE;go_wp2_with (first | refine wpList_store_pg rfl (.tmp 6) (.tmp 16) rfl w1.heap.size rfl rfl HO1.out.one HPN.out ?_);intro w2 P2 G2;have hz1:=HGN.out.size;have HK2:=BB ((HK1.out.chg0 HGN.out).far HLOW.out om G2);have HP2:=BB P2;have HQ2:=BB ((HP1.out.chg HGN.out (fun f=>f)).chg G2 om);have HO2:=BB ((HO1.out.chg HGN.out (fun _ _ _ f=>f)).chg G2 (fun k hk he e=>by have:=HO1.out.block he;omega));have HG2:=BB ((HG1.out.trans HGN.out.cor0).trans' G2 (fun k hk e=>om));have hz2:=P2.lt;have hwle:w.heap.size+1<=w1.heap.size:=om
 clear P2 G2 HK1 HO1 HP1 HG1 HPN HGN hz1;by_cases hc:Z.2.2=0
 ·replace q0:∀w,(binOp .neq 33 (errV Z.2.2) .nilIface).run prog w=.ok (.bool false) w:=fun w=>by rw[q,AO hc];rfl
  obtain⟨c2,-⟩:=HK2.out.cMap;obtain⟨c10,-⟩:=HK2.out.cHea;have how:=AA.Zk w2 A.ma Z.1.L HK2.out.map (p:Nat);have HZ:=BB hc;by_cases ho:AA.own Z.1.L (p:Nat) = -1
  ·have HE2:Hid (inK K p=(Z.1,Z.2.1,0)):=(by show inK K p=_;rw[HE.out,AI (by rw[hc];simp),AJ ho]);have eo:AA.YT Z.1.L (p:Nat)=11:=(by unfold AA.YT;rw[AI om,AJ ho]);have q1:∀w,(binOp .neq 33 (errV 11) .nilIface).run prog w=.ok (.bool true) w:=fun w=>by rw[q];rfl
   rw[eo] at how;generalize AA.owV Z.1.L (p:Nat)=ov at *
   clear hc ho HE hbl eo q;go_wp2_with (first | (go_at_call 89;refine how.mono ?_;rintro e w9 ⟨rfl,rfl⟩) | refine wpList_load_pg rfl (.tmp 6) rfl w1.heap.size rfl HP2.out ?_ | refine wpList_store_pg rfl (.tmp 4) (.tmp 33) rfl w.heap.size rfl rfl HO2.out.one HQ2.out ?_);intro w3 P3 G3;have HP3:=BB P3;have HK3:=BB (HK2.out.far HLOW.out (AM _) G3);have HO3:=BB (HO2.out.chg G3 (fun k hk he e=>by have:=(HO2.out.block he).1;omega));have HG3:=BB (HG2.out.trans' G3 (fun k hk e=>om));clear P3 G3 HQ2 HK2 HG2 HP2 HO2;go_wp2;refine AZ (Bz rfl _ rfl HP3.out) rfl ?_;rw[HE2.out];exact⟨v,rfl,HO3.out.mono (fun k hk=>by have:=(HO3.out.block hk).1;omega),HK3.out,HG3.out⟩
  ·have eo:AA.YT Z.1.L (p:Nat)=0:=(by unfold AA.YT;rw[AI om,AI ho]);rw[eo] at how;have q1:∀w,(binOp .neq 33 (errV 0) .nilIface).run prog w=.ok (.bool false) w:=fun w=>by rw[q];rfl
   clear q;obtain⟨p0,p1,p2,p3,p4,p5,p6,p7,p8⟩:=HP2.out.cells;generalize AA.owV Z.1.L (p:Nat)=ov at *
   by_cases hs:Z.2.1.sound=true/\Z.2.1.dmg<2
   ·have HE2:Hid (inK K p=(Z.1,Z.2.1,0)):=(by show inK K p=_;rw[HE.out,AI (by rw[hc];simp),AI ho,AJ hs]);obtain⟨hs1,hs2⟩:=hs;rw[hs1] at p6;have hs3:((Z.2.1.dmg:Nat):Int)<2:=om;clear hc ho HE hbl eo hs1 hs2 p0 p1 p2 p3 p4 p5 p7;go_wp2_with (first | (go_at_call 89;refine how.mono ?_;rintro e w9 ⟨rfl,rfl⟩) | refine wpList_load_pg rfl (.tmp 6) rfl w1.heap.size rfl HP2.out ?_ | refine wpList_store_pg rfl (.tmp 4) (.tmp 41) rfl w.heap.size rfl rfl HO2.out.one HQ2.out ?_);intro w3 P3 G3;have HP3:=BB P3;have HK3:=BB (HK2.out.far HLOW.out (AM _) G3);have HO3:=BB (HO2.out.chg G3 (fun k hk he e=>by have:=(HO2.out.block he).1;omega));have HG3:=BB (HG2.out.trans' G3 (fun k hk e=>om));clear P3 G3 HQ2 HK2 HG2 HP2 HO2;go_wp2;refine AZ (Bz rfl _ rfl HP3.out) rfl ?_;rw[HE2.out];exact⟨v,rfl,HO3.out.mono (fun k hk=>by have:=(HO3.out.block hk).1;omega),HK3.out,HG3.out⟩
   ·have HE2:Hid (inK K p=({ Z.1 with hS:=AF.Fl 255 Z.1.hS (p / 8:Nat),qu:=AE.PL Z.1.qu (p / 8:Nat) },Z.2.1,0)):=(by show inK K p=_;rw[HE.out,AI (by rw[hc];simp),AI ho,AI hs]);have hrp:=V4 A w2 Z.1 HK2.out (p / 8:Nat);have hb8:AF.Io (p / 8:Nat)=0:=(by unfold AF.Io;rw[AJ om]);rw[hb8] at hrp;have hbl2:=hbl w2;rw[show ((p:Nat):Int) / 8=((p / 8:Nat):Int) by omega] at hbl2;have hsd:Z.2.1.sound=false\/(Z.2.1.sound=true/\¬ ((Z.2.1.dmg:Nat):Int)<2):=by
     cases e:Z.2.1.sound
     ·exact AK rfl
     ·exact AL ⟨rfl,fun x=>hs ⟨e,om⟩⟩
    clear hc ho HE hbl eo hs hb8 p0 p1 p2 p3 p4 p5 p7;obtain⟨va,vn,vk,rfl⟩:∃a n k,v=.slice a n k:=by
     rcases HO2.out.form with ⟨e,_⟩ | ⟨gg,cap,e,_⟩
     ·exact⟨_,_,_,e⟩
     ·exact⟨_,_,_,e⟩
    rcases hsd with hsd | ⟨hsd,hdm⟩
    ·rw[hsd] at p6;clear hsd;go_wp2_with (first | (go_at_call 89;refine how.mono ?_;rintro e w2 ⟨rfl,rfl⟩) | (go_at_call 90;refine hbl2.mono ?_;rintro e w2 ⟨rfl,rfl⟩));refine hrp.mono ?_;rintro e w3 ⟨rfl,K3,G3⟩;have HK3:=BB K3;have n1:¬ w1.heap.size=A.h:=fun e=>by have:=HLOW.out A.h (AK (by unfold Cor;omega));omega
     have n0:¬ w.heap.size=A.h:=fun e=>by have:=HLOW.out A.h (AK (by unfold Cor;omega));omega
     have HP3:=BB (HP2.out.chg G3 n1);have HQ3:=BB (HQ2.out.chg G3 n0);have HO3:=BB (HO2.out.chg G3 (fun k hk he e=>by have:=(HO2.out.block he).1;have:=HLOW.out A.h (AK (by unfold Cor;omega));omega));have HG3:=BB (HG2.out.trans G3.cor_h);have hz3:w2.heap.size<=w3.heap.size:=G3.size;obtain⟨r0,r1,r2,r3,r4,r5,r6,r7,r8⟩:=(HP3.out.chg ((Chg.refl No w3).drew) (fun f=>f)).cells;clear hrp K3 G3 HP2 HQ2 HO2 HG2 HK2 how hbl2 p6 p8 c2 c10 n0 n1;go_wp2_with fail
     go_region_held3 (fun wx=>wx.cell? ⟨w1.heap.size,0,none⟩=some (.bool Z.2.1.tagged)/\wx.cell? ⟨w1.heap.size,1,none⟩=some (.int .i64 (Z.2.1.p:Nat))/\wx.cell? ⟨w1.heap.size,2,none⟩=some (.int .i64 (Z.2.1.o:Nat))/\wx.cell? ⟨w1.heap.size,3,none⟩=some (.int .i64 (Z.2.1.s:Nat))/\wx.cell? ⟨w1.heap.size,4,none⟩=some (.int .i64 (Z.2.1.c:Nat))/\wx.cell? ⟨w1.heap.size,5,none⟩=some (.bool Z.2.1.l)/\wx.cell? ⟨w1.heap.size,6,none⟩=some (.bool Z.2.1.sound)/\wx.cell? ⟨w1.heap.size,7,none⟩=some (.slice va vn vk)/\wx.cell? ⟨w1.heap.size,8,none⟩=some (.int .i64 (Z.2.1.dmg:Nat)))
      (first | (with_reducible exact⟨u0,u1,u2,u3,u4,u5,u6,u7,u8⟩) | (with_reducible exact⟨x0,x1,x2,x3,x4,x5,x6,x7,x8⟩) | (with_reducible exact⟨r0,r1,r2,r3,r4,r5,r6,r7,r8⟩))
      (first
       | (go_at_call 92;refine(V1 A _ _ (HK3.out.drewN 1) _).mono ?_;rintro e w4 ⟨rfl,k4,g4⟩;have nc1:¬ w1.heap.size=A.c:=(fun e=>by have:=HLOW.out A.c (AK (by unfold Cor;omega));omega);have nc0:¬ w.heap.size=A.c:=(fun e=>by have:=HLOW.out A.c (AK (by unfold Cor;omega));omega);have HK4:=BB k4;have HG4:=BB (HG3.out.drew.trans g4.cor_c);have HP4:=BB (HP3.out.chg ((Chg.refl (·=A.c) w3).drew.trans g4) nc1);have HQ4:=BB (HQ3.out.chg ((Chg.refl (·=A.c) w3).drew.trans g4) nc0);have HO4:=BB (HO3.out.chg ((Chg.refl (·=A.c) w3).drew.trans g4) (fun k hk he e=>by have:=(HO3.out.block he).1;have:=HLOW.out A.c (AK (by unfold Cor;omega));omega));obtain⟨x0,x1,x2,x3,x4,x5,x6,x7,x8⟩:=HP4.out.cells;obtain⟨y0,y1,y2,y3,y4,y5,y6,y7,y8⟩:=HQ4.out.cells;have z0:=HQ4.out.frozen 0;have z1:=HQ4.out.frozen 1;have z2:=HQ4.out.frozen 2;have z3:=HQ4.out.frozen 3;have z4:=HQ4.out.frozen 4;have z5:=HQ4.out.frozen 5;have z6:=HQ4.out.frozen 6;have z7:=HQ4.out.frozen 7;have z8:=HQ4.out.frozen 8;obtain⟨P5,G5⟩:=HQ4.out.all Z.2.1.tagged (Z.2.1.p:Nat) (Z.2.1.o:Nat) (Z.2.1.s:Nat) (Z.2.1.c:Nat) Z.2.1.l Z.2.1.sound (.slice va vn vk) (Z.2.1.dmg:Nat);obtain⟨u0,u1,u2,u3,u4,u5,u6,u7,u8⟩:=(HP4.out.chg G5 om).cells;have HP5:=BB P5;have HG5':=BB G5;clear P5 G5;clear k4 g4 nc1 nc0))
     have HK5:=BB (HK4.out.far HLOW.out (AM _) HG5'.out);have HO5:=BB (HO4.out.chg HG5'.out (fun k hk he e=>by have:=(HO4.out.block he).1;omega));have HG5:=BB (HG4.out.trans' HG5'.out (fun k hk e=>om));clear y0 y1 y2 y3 y4 y5 y6 y7 y8 z0 z1 z2 z3 z4 z5 z6 z7 z8 u0 u1 u2 u3 u4 u5 u6 u7 u8 x0 x1 x2 x3 x4 x5 x6 x7 x8;go_wp2;refine AZ (Bz rfl _ rfl HP5.out) rfl ?_;rw[HE2.out];have ea:AE.eH ((p:Int) / 8)=0:=(by unfold AE.eH;rw[AI om]);have hk:=HK5.out;rw[show ((p:Nat):Int) / 8=((p / 8:Nat):Int) by omega] at hk;rw[ea];exact⟨_,rfl,HO5.out.mono (fun k hk=>by have:=(HO5.out.block hk).1;omega),hk,HG5.out⟩
    ·rw[hsd] at p6;clear hsd;go_wp2_with (first | (go_at_call 89;refine how.mono ?_;rintro e w2 ⟨rfl,rfl⟩) | (go_at_call 90;refine hbl2.mono ?_;rintro e w2 ⟨rfl,rfl⟩));refine hrp.mono ?_;rintro e w3 ⟨rfl,K3,G3⟩;have HK3:=BB K3;have n1:¬ w1.heap.size=A.h:=fun e=>by have:=HLOW.out A.h (AK (by unfold Cor;omega));omega
     have n0:¬ w.heap.size=A.h:=fun e=>by have:=HLOW.out A.h (AK (by unfold Cor;omega));omega
     have HP3:=BB (HP2.out.chg G3 n1);have HQ3:=BB (HQ2.out.chg G3 n0);have HO3:=BB (HO2.out.chg G3 (fun k hk he e=>by have:=(HO2.out.block he).1;have:=HLOW.out A.h (AK (by unfold Cor;omega));omega));have HG3:=BB (HG2.out.trans G3.cor_h);have hz3:w2.heap.size<=w3.heap.size:=G3.size;obtain⟨r0,r1,r2,r3,r4,r5,r6,r7,r8⟩:=(HP3.out.chg ((Chg.refl No w3).drew) (fun f=>f)).cells;clear hrp K3 G3 HP2 HQ2 HO2 HG2 HK2 how hbl2 p6 p8 c2 c10 n0 n1;go_wp2_with fail
     go_region_held3 (fun wx=>wx.cell? ⟨w1.heap.size,0,none⟩=some (.bool Z.2.1.tagged)/\wx.cell? ⟨w1.heap.size,1,none⟩=some (.int .i64 (Z.2.1.p:Nat))/\wx.cell? ⟨w1.heap.size,2,none⟩=some (.int .i64 (Z.2.1.o:Nat))/\wx.cell? ⟨w1.heap.size,3,none⟩=some (.int .i64 (Z.2.1.s:Nat))/\wx.cell? ⟨w1.heap.size,4,none⟩=some (.int .i64 (Z.2.1.c:Nat))/\wx.cell? ⟨w1.heap.size,5,none⟩=some (.bool Z.2.1.l)/\wx.cell? ⟨w1.heap.size,6,none⟩=some (.bool Z.2.1.sound)/\wx.cell? ⟨w1.heap.size,7,none⟩=some (.slice va vn vk)/\wx.cell? ⟨w1.heap.size,8,none⟩=some (.int .i64 (Z.2.1.dmg:Nat)))
      (first | (with_reducible exact⟨u0,u1,u2,u3,u4,u5,u6,u7,u8⟩) | (with_reducible exact⟨x0,x1,x2,x3,x4,x5,x6,x7,x8⟩) | (with_reducible exact⟨r0,r1,r2,r3,r4,r5,r6,r7,r8⟩))
      (first
       | (go_at_call 92;refine(V1 A _ _ (HK3.out.drewN 1) _).mono ?_;rintro e w4 ⟨rfl,k4,g4⟩;have nc1:¬ w1.heap.size=A.c:=(fun e=>by have:=HLOW.out A.c (AK (by unfold Cor;omega));omega);have nc0:¬ w.heap.size=A.c:=(fun e=>by have:=HLOW.out A.c (AK (by unfold Cor;omega));omega);have HK4:=BB k4;have HG4:=BB (HG3.out.drew.trans g4.cor_c);have HP4:=BB (HP3.out.chg ((Chg.refl (·=A.c) w3).drew.trans g4) nc1);have HQ4:=BB (HQ3.out.chg ((Chg.refl (·=A.c) w3).drew.trans g4) nc0);have HO4:=BB (HO3.out.chg ((Chg.refl (·=A.c) w3).drew.trans g4) (fun k hk he e=>by have:=(HO3.out.block he).1;have:=HLOW.out A.c (AK (by unfold Cor;omega));omega));obtain⟨x0,x1,x2,x3,x4,x5,x6,x7,x8⟩:=HP4.out.cells;obtain⟨y0,y1,y2,y3,y4,y5,y6,y7,y8⟩:=HQ4.out.cells;have z0:=HQ4.out.frozen 0;have z1:=HQ4.out.frozen 1;have z2:=HQ4.out.frozen 2;have z3:=HQ4.out.frozen 3;have z4:=HQ4.out.frozen 4;have z5:=HQ4.out.frozen 5;have z6:=HQ4.out.frozen 6;have z7:=HQ4.out.frozen 7;have z8:=HQ4.out.frozen 8;obtain⟨P5,G5⟩:=HQ4.out.all Z.2.1.tagged (Z.2.1.p:Nat) (Z.2.1.o:Nat) (Z.2.1.s:Nat) (Z.2.1.c:Nat) Z.2.1.l Z.2.1.sound (.slice va vn vk) (Z.2.1.dmg:Nat);obtain⟨u0,u1,u2,u3,u4,u5,u6,u7,u8⟩:=(HP4.out.chg G5 om).cells;have HP5:=BB P5;have HG5':=BB G5;clear P5 G5;clear k4 g4 nc1 nc0))
     have HK5:=BB (HK4.out.far HLOW.out (AM _) HG5'.out);have HO5:=BB (HO4.out.chg HG5'.out (fun k hk he e=>by have:=(HO4.out.block he).1;omega));have HG5:=BB (HG4.out.trans' HG5'.out (fun k hk e=>om));clear y0 y1 y2 y3 y4 y5 y6 y7 y8 z0 z1 z2 z3 z4 z5 z6 z7 z8 u0 u1 u2 u3 u4 u5 u6 u7 u8 x0 x1 x2 x3 x4 x5 x6 x7 x8;go_wp2;refine AZ (Bz rfl _ rfl HP5.out) rfl ?_;rw[HE2.out];have ea:AE.eH ((p:Int) / 8)=0:=(by unfold AE.eH;rw[AI om]);have hk:=HK5.out;rw[show ((p:Nat):Int) / 8=((p / 8:Nat):Int) by omega] at hk;rw[ea];exact⟨_,rfl,HO5.out.mono (fun k hk=>by have:=(HO5.out.block hk).1;omega),hk,HG5.out⟩
 ·have HE2:Hid (inK K p=(Z.1,Pg.zero,Z.2.2)):=by show inK K p=_;rw[HE.out,AJ hc]
  replace q:∀w,(binOp .neq 33 (errV Z.2.2) .nilIface).run prog w=.ok (.bool true) w:=fun w=>by rw[q,AN hc];rfl
  clear hc HE hbl;go_wp2_with (first | refine wpList_store_pg rfl (.tmp 4) (.tmp 20) rfl w.heap.size rfl rfl rfl HQ2.out ?_);intro w3 P3 G3;have HP3:=BB P3;have HK3:=BB (HK2.out.far HLOW.out (AM _) G3);have HG3:=BB (HG2.out.trans' G3 (fun k hk e=>om));clear P3 G3 HQ2 HK2 HG2 HP2 HO2;go_wp2;refine AZ (Bz rfl _ rfl HP3.out) rfl ?_;rw[HE2.out];exact⟨.slice none 0 0,rfl,CC _ _,HK3.out,HG3.out⟩
end
def efK (S:Nat->Int):Nat->Nat->BC->Bool->BC × Bool × Nat
 | 0,_,K,b=>(K,b,0)
 | n+1,i,K,b=>if S i≠0 then efK S n (i+1) K b else
  if (erK K i).2=7 then ((erK K i).1,false,7) else
  if (erK K i).2≠0 then efK S n (i+1) (spK (erK K i).1 (i:Nat)) true else efK S n (i+1) (erK K i).1 b
def Kr (c:Nat):Nat:=if c=14 then 0 else c
def cnK (n:Nat) (K:BC):Option (BC × Nat):=
 if K.dd=true then some (K,0) else
 if (efK K.F 12 0 K false).2.2≠0 then some ((efK K.F 12 0 K false).1,(efK K.F 12 0 K false).2.2) else
 if (efK K.F 12 0 K false).1.L 24≠-1/\(efK K.F 12 0 K false).2.1=false then some ((efK K.F 12 0 K false).1,0) else
 (anR n noH (efK K.F 12 0 K false).1 24).map fun y=>(y.1,Kr y.2)
theorem FG(c:Nat)(w:Wd):Calls prog 75 #[errV c] w fun e w'=>e=.returned (errV (Kr c))/\w'=w:=by
 have his:=Ib c 14 dc w;unfold Kr;by_cases h:c=14
 ·rw[AO h] at his;rw[AJ h];clear h;generalize errV c=x at *
  go_enter func75,ntmps75;go_wp2_with (go_at_call 46;refine his.mono ?_;rintro e w ⟨rfl,rfl⟩);go_ret;exact⟨rfl,rfl⟩
 ·rw[AN h] at his;rw[AI h];clear h;generalize errV c=x at *
  go_enter func75,ntmps75;go_wp2_with (go_at_call 46;refine his.mono ?_;rintro e w ⟨rfl,rfl⟩);go_ret;exact⟨rfl,rfl⟩
theorem V5(S:Nat->Int):∀n i K b,(efK S n i K b).2.2=0\/(efK S n i K b).2.2=7:=by
 intro n
 induction n with
 | zero=>intro i K b;exact AK rfl
 | succ n ih=>
  intro i K b;rw[efK];split
  ·exact ih _ _ _
  ·split
   ·exact AL rfl
   ·split <;> exact ih _ _ _
theorem Sw(c:Nat):FE c=0\/FE c=7\/FE c=8:=by
 unfold FE;split
 ·rename_i h;rcases h with h | h <;> rw[h] <;> simp
 ·simp
theorem Nd(A:Ad)(w:Wd)(K:BC)(h:CoreAt A w K) :Calls prog 105 #[.pointer (some ⟨A.c,0,none⟩)] w fun e w'=>e=.returned (.tuple #[.bool (efK K.F 12 0 K false).2.1,errV (efK K.F 12 0 K false).2.2])/\CoreAt A w' (efK K.F 12 0 K false).1/\Chg (Cor A) w w':=by
 obtain⟨c1,-⟩:=h.cPool;have hst:=AD.Dj w A.po K.F h.pool;have HK:=BB h;have q:=Bn;have g:=BL;obtain⟨X,HX⟩:∃X,Hid (efK K.F 12 0 K false=X):=⟨_,rfl⟩;rw[HX.out];clear h;go_enter func105,ntmps105;go_wp2_with (go_at_call 53;refine hst.mono ?_;rintro e w1 ⟨rfl,I1,G1⟩);have HI:=BB I1;have HK1:=BB (HK.out.chg0 G1);have HG1:=BB (Chg.cor0 (A:=A) G1);have HN:Hid (¬ Cor A w.heap.size):=HK.out.apart (AM _);have hs1:w.heap.size<w1.heap.size:=I1.lt;clear hst c1 I1 G1
 go_loopg [4,14] 12 (fun kx s4 s14 wr=>∃(i:Nat) (Ki:BC) (b:Bool),s14=.int .i64 i/\s4=.bool b/\i<=12/\12 - i<=kx/\Hid (CoreAt A wr Ki)/\Hid (Chg (Cor A) w wr)/\Hid (IB wr w.heap.size 3 12 K.F)/\Hid (efK K.F (12 - i) i Ki b=X))
 case atStart=>exact⟨0,K,false,rfl,rfl,om,om,HK1.out,HG1.out,HI.out,HX.out⟩
 case round=>
  obtain⟨i,Ki,b,rfl,rfl,hi,hkx,HC,HG,HJ,HE⟩:=hrel;by_cases hlt:i<12
  ·have hltz:(i:Int)<12:=om;obtain⟨ci,-⟩:=HJ.out.cell i hlt;obtain⟨m,hm⟩:∃m,12 - i=m+1:=⟨11 - i,om⟩;have hm2:12 - (i+1)=m:=om;have HE2:Hid ((if K.F i≠0 then efK K.F m (i+1) Ki b else if (erK Ki i).2=7 then ((erK Ki i).1,false,7) else if (erK Ki i).2≠0 then efK K.F m (i+1) (spK (erK Ki i).1 (i:Nat)) true else efK K.F m (i+1) (erK Ki i).1 b)=X):=by
    have:=HE.out;rw[hm,efK] at this;exact this
   have her:=Lj A wr Ki HC.out i hlt;have HM2:=BB hm2;clear hm hm2 HE;generalize K.F i=fi at *
   by_cases h0:fi=0
   ·subst h0;have hcd:(erK Ki i).2=0\/(erK Ki i).2=7\/(erK Ki i).2=8:=by
     unfold erK;dsimp only;split
     ·exact AK rfl
     ·exact Sw _
    have HCD:=BB hcd;clear hcd;generalize erK Ki i=Y at *
    go_wp2_with fail;refine her.mono ?_;rintro e w2 ⟨rfl,k2,g2⟩;have HK2:=BB k2;have HG2:=BB (HG.out.trans g2);have HJ2:=BB (HJ.out.chg g2 HN.out);have his:=Ib Y.2 7 dc w2;have hsp:=It A w2 Y.1 k2 (i:Nat);clear her k2 g2 ci HC HG HJ;rcases HCD.out with e | e | e
    ·rw[AN (by rw[e];decide)] at his;have HE3:Hid (efK K.F m (i+1) Y.1 b=X):=by
      have:=HE2.out;rw[AI (by simp),AI (by rw[e];decide),AI (by rw[e];simp)] at this;exact this
     replace q:∀w,(binOp .neq 33 (errV Y.2) .nilIface).run prog w=.ok (.bool false) w:=fun w=>by rw[q,AO e];rfl
     clear HE2 HCD hsp e;go_wp2_with (go_at_call 46;refine his.mono ?_;rintro e w2 ⟨rfl,rfl⟩)
     go_roundg (12 - (i+1))
     case measure=>omega
     case rel=>exact⟨i+1,Y.1,b,by simp,rfl,om,AM _,HK2.out,HG2.out,HJ2.out,by rw[HM2.out];exact HE3.out⟩
    ·rw[AO e] at his;have HE3:Hid ((Y.1,false,7)=X):=by
      have:=HE2.out;rw[AI (by simp),AJ e] at this;exact this
     have HY:=BB e;clear HE2 HCD hsp e;go_wp2_with (go_at_call 46;refine his.mono ?_;rintro e w2 ⟨rfl,rfl⟩);go_ret2;rw[<-HE3.out,HY.out];exact⟨rfl,HK2.out,HG2.out⟩
    ·rw[AN (by rw[e];decide)] at his;have HE3:Hid (efK K.F m (i+1) (spK Y.1 (i:Nat)) true=X):=by
      have:=HE2.out;rw[AI (by simp),AI (by rw[e];decide),AJ (by rw[e];decide)] at this;exact this
     replace q:∀w,(binOp .neq 33 (errV Y.2) .nilIface).run prog w=.ok (.bool true) w:=fun w=>by rw[q,AN (by rw[e];decide)];rfl
     clear HE2 HCD e;go_wp2_with (go_at_call 46;refine his.mono ?_;rintro e w2 ⟨rfl,rfl⟩);refine hsp.mono ?_;rintro e w3 ⟨rfl,k3,g3⟩;have HK3:=BB k3;have HG3:=BB (HG2.out.trans g3);have HJ3:=BB (HJ2.out.chg g3 HN.out);clear hsp k3 g3 HK2 HG2 HJ2 his;go_wp2
     go_roundg (12 - (i+1))
     case measure=>omega
     case rel=>exact⟨i+1,_,true,by simp,rfl,om,AM _,HK3.out,HG3.out,HJ3.out,by rw[HM2.out];exact HE3.out⟩
   ·have h0b:(fi == 0)=false:=(by simp[h0]);have HE3:Hid (efK K.F m (i+1) Ki b=X):=by
     have:=HE2.out;rw[AJ h0] at this;exact this
    clear HE2 her h0;go_wp2
    go_roundg (12 - (i+1))
    case measure=>omega
    case rel=>exact⟨i+1,Ki,b,by simp,rfl,om,AM _,HC.out,HG.out,HJ.out,by rw[HM2.out];exact HE3.out⟩
  ·have hltz:¬ (i:Int)<12:=om;have e:i=12:=om;subst e;have HE3:Hid ((Ki,b,0)=X):=HE.out;go_wp2;go_ret2;rw[<-HE3.out];exact⟨rfl,HC.out,HG.out⟩
theorem aD(A:Ad)(w:Wd)(K:BC)(h:CoreAt A w K)(n:Nat)(Z:BC × Nat)(hZ:cnK n K=some Z) :Calls prog 69 #[.pointer (some ⟨A.c,0,none⟩)] w fun e w'=>e=.returned (errV Z.2)/\CoreAt A w' Z.1/\Chg (Cor A) w w':=by
 obtain⟨c97,-⟩:=h.cDd;have hef:=Nd A w K h;have q:=Bn;have g:=BL;have HK:=BB h;unfold cnK at hZ;cases hd:K.dd
 ·rw[hd] at c97 hZ;rw[AI (by simp)] at hZ;have hcd:=V5 K.F 12 0 K false;generalize efK K.F 12 0 K false=X at *
  clear h hd;by_cases h7:X.2.2≠0
  ·rw[AJ h7] at hZ;have HZ:Hid ((X.1,X.2.2)=Z):=AR hZ;replace q:∀w,(binOp .neq 33 (errV X.2.2) .nilIface).run prog w=.ok (.bool true) w:=fun w=>by rw[q,AN h7];rfl
   clear hZ h7 hcd;go_enter func69,ntmps69;go_wp2_with (go_at_call 105;refine hef.mono ?_;rintro e w1 ⟨rfl,k1,g1⟩;have HK1:=BB k1;have HG1:=BB g1;clear k1 g1);go_ret;rw[<-HZ.out];exact⟨rfl,HK1.out,HG1.out⟩
  ·rw[AI h7] at hZ;have h0:X.2.2=0:=(by simpa using h7);have HZ:=BB hZ;replace q0:∀w,(binOp .neq 33 (errV X.2.2) .nilIface).run prog w=.ok (.bool false) w:=fun w=>by rw[q,AO h0];rfl
   clear hZ h7 hcd h0;go_enter func69,ntmps69;go_wp2_with fail;refine hef.mono ?_;rintro e w1 ⟨rfl,k1,g1⟩;obtain⟨c2,-⟩:=k1.cMap;have hat:=AA.Zj w1 A.ma X.1.L k1.map (24:Nat);have HK1:=BB k1;have HG1:=BB g1;clear hef k1 g1 c97;have key:∀(y:BC × Nat),anR n noH X.1 24=some y->Z=(y.1,Kr y.2)->Calls prog 78 #[.pointer (some ⟨A.c,0,none⟩)] w1 fun e w'=>e=.returned (errV y.2)/\CoreAt A w' y.1/\Chg (Cor A) w1 w':=fun y hy _=>Lr A n (GF A n) w1 X.1 HK1.out y hy;by_cases hl:X.1.L 24 = -1
   ·have e24:AA.atC X.1.L (24:Nat)=11:=(by unfold AA.atC;rw[AI om];simp[hl]);rw[e24] at hat;have HZ2:=HZ.out;rw[AI (fun e=>e.1 hl)] at HZ2;obtain⟨y,hy,hyz⟩:∃y,anR n noH X.1 24=some y/\Z=(y.1,Kr y.2):=by
     cases ea:anR n noH X.1 24 with
     | none=>rw[ea] at HZ2;cases HZ2
     | some y=>rw[ea] at HZ2;exact⟨y,rfl,(AR HZ2).symm⟩
    have hnt:=key y hy hyz;have HYZ:=BB hyz;have q1:∀w,(binOp .eql 33 (errV 11) .nilIface).run prog w=.ok (.bool false) w:=fun w=>Hn 11 w;have g1:=DC;clear key HZ HZ2 hl hy hyz e24 q;generalize AA.atV X.1.L (24:Nat)=av at *
    go_wp2_with (go_at_call 56;refine hat.mono ?_;rintro e w1 ⟨rfl,rfl⟩);refine hnt.mono ?_;rintro e w2 ⟨rfl,k2,g2⟩;have HK2:=BB k2;have HG2:=BB (HG1.out.trans g2);have hun:=FG y.2 w2;clear hnt k2 g2 hat;go_wp2_with (go_at_call 75;refine hun.mono ?_;rintro e w2 ⟨rfl,rfl⟩);go_ret;rw[HYZ.out];exact⟨rfl,HK2.out,HG2.out⟩
   ·have e24:AA.atC X.1.L (24:Nat)=0:=(by unfold AA.atC;rw[AI om];simp[hl]);rw[e24] at hat;have q1:∀w,(binOp .eql 33 (errV 0) .nilIface).run prog w=.ok (.bool true) w:=fun w=>Hn 0 w;have g1:=DC;generalize AA.atV X.1.L (24:Nat)=av at *
    cases hb:X.2.1
    ·have HZ2:=HZ.out;rw[AJ ⟨hl,hb⟩] at HZ2;have HZ3:Hid ((X.1,0)=Z):=AR HZ2;clear key HZ HZ2 hl e24 q;clear hb;go_wp2_with (go_at_call 56;refine hat.mono ?_;rintro e w1 ⟨rfl,rfl⟩);go_ret;rw[<-HZ3.out];exact⟨rfl,HK1.out,HG1.out⟩
    ·have HZ2:=HZ.out;rw[AI (fun e=>by rw[hb] at e;exact absurd e.2 dc)] at HZ2;obtain⟨y,hy,hyz⟩:∃y,anR n noH X.1 24=some y/\Z=(y.1,Kr y.2):=by
      cases ea:anR n noH X.1 24 with
      | none=>rw[ea] at HZ2;cases HZ2
      | some y=>rw[ea] at HZ2;exact⟨y,rfl,(AR HZ2).symm⟩
     have hnt:=key y hy hyz;have HYZ:=BB hyz;clear key HZ HZ2 hl hy hyz e24 q;clear hb;go_wp2_with (go_at_call 56;refine hat.mono ?_;rintro e w1 ⟨rfl,rfl⟩);refine hnt.mono ?_;rintro e w2 ⟨rfl,k2,g2⟩;have HK2:=BB k2;have HG2:=BB (HG1.out.trans g2);have hun:=FG y.2 w2;clear hnt k2 g2 hat;go_wp2_with (go_at_call 75;refine hun.mono ?_;rintro e w2 ⟨rfl,rfl⟩);go_ret;rw[HYZ.out];exact⟨rfl,HK2.out,HG2.out⟩
 ·rw[hd] at c97 hZ;rw[AJ rfl] at hZ;have HZ:Hid ((K,0)=Z):=AR hZ;clear hef hZ h hd;go_enter func69,ntmps69;go_wp2;go_ret;rw[<-HZ.out];exact⟨rfl,HK.out,Chg.refl _ _⟩
end Go.Proofs.YtbhbilcieodbhaaGreat
