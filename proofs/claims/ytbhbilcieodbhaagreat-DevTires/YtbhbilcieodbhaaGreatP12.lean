/-
  Lemmas.
-/
import Derived.Test.YtbhbilcieodbhaaGreatOm
import Derived.Test.YtbhbilcieodbhaaGreatP11
import Derived.Carry
import Derived.Below
import Derived.DataReads
set_option maxRecDepth 1000000
set_option maxHeartbeats 16000000
set_option linter.unusedSimpArgs false
namespace Go.Proofs.YtbhbilcieodbhaaGreat
open List
open Go.Proofs.Tryz
open Go.RowKit
section
variable {s:BG}{a:Nat}{tl:List Nat->Int->Pg}
structure CL (s:BG):Prop where
 ok:s.Ok
 fine:Fine s
 ch:∀j,s.ch j=DW
 hi:∀b,12<=b->(s.bl b).reads=0
theorem CL.new:CL Fz:=⟨aU,TD,fun _=>rfl,fun _ _=>rfl⟩
theorem CL.is(h:CL s)(j:Nat):(s.ch j).is=false:=by rw[h.ch];rfl
theorem CL.un(h:CL s):Un s:=⟨h.fine,fun j=>by rw[h.ch];rfl⟩
theorem CL.page(h:CL s)(a:Nat):pgTo s a 4=List.replicate 256 255:=by
 show ((([] ++ (s.ch (4*a+0)).now) ++ (s.ch (4*a+1)).now) ++ (s.ch (4*a+2)).now) ++ (s.ch (4*a+3)).now=_;rw[h.ch,h.ch,h.ch,h.ch];decide
theorem CL.rd(h:CL s)(ha:a<96):CL (TQ s a):=by
 refine⟨LU h.ok a,?_,h.ch,fun b hb=>?_⟩
 ·have:=(h.fine.readV (a:Int)).1
  rwa [E6 ha h.fine.on] at this
 ·show (if b=a / 8 then ({ s.bl (a / 8) with reads:=wrap64 ((s.bl (a / 8)).reads+1) }:JT) else s.bl b).reads=0;rw[AI om];exact h.hi b hb
theorem CL.read{s':BG}(h:CL s)(ha:a<96){r r':Int}{x:Pg}{c:Nat}(hr:ReadR s r (a:Nat) s' r' x c):CL s'/\c=0/\x.tagged=false/\s'.steps=s.steps:=by
 obtain⟨e1,e2,h3⟩:=hr;rw[E6 ha h.fine.on] at e1 e2 h3;dsimp only at e1 e2 h3;subst e1;refine⟨h.rd ha,e2,?_,rfl⟩;rcases h3 with ⟨n,_⟩ | ⟨_,_,ht⟩
 ·exact absurd e2 n
 ·rw[h.page] at ht;refine(ht.blank ?_).1;have:ds (part 64 (List.replicate 256 255) 3) Fx=0:=dc
  omega
def R8 (n:Nat):Nat->Int:=fun b=>if b<n then 8 else 0
theorem Xw(htl:∀L n,ToldR L n (tl L n)):∀(n i:Nat) (s:BG) (R:Nat->Int),i+n=12->CL s->(∀b,b<i\/12<=b->R b=0/\(s.bl b).reads=0)->(∀b,0<=R b/\R b<=65535) ->∃s',efK (fun _=>0) n i { K0 s tl with hR:=R } false=(K0 s' tl,false,0)/\CL s'/\(∀b,(s'.bl b).reads=0):=by
 intro n
 induction n with
 | zero=>
  intro i s R hi hB hr _;have hz:R=fun _=>0:=by
   funext b;exact(hr b om).1
  subst hz;exact⟨s,rfl,hB,fun b=>(hr b om).2⟩
 | succ n ih=>
  intro i s R hi hB hr hR;have hwf:Wf { K0 s tl with hR:=R }:={ lI hB.ok htl with hea:=fun b hb=>⟨hR b,((lI hB.ok htl).hea b hb).2⟩ };have hf:=hB.fine;obtain⟨e1,e2⟩:=Q9 (K:={ K0 s tl with hR:=R }) hwf (b:=i) om hf;have h1:=hf.erase i;have h2:=FI hB.ok (show i<12 by omega) hf.on;have h0:(eraseR s i).2=0:=by
   rcases h2 with ⟨a,_⟩ | ⟨a,_⟩ | ⟨a,_⟩
   ·exact a
   ·exact absurd a h1.2.2
   ·exact absurd a h1.2.1
  have eK:erK { K0 s tl with hR:=R } i=({ K0 (eraseR s i).1 tl with hR:=upd R i 0 },0):=by
   unfold erK;dsimp only;have h0':(eraseR (K0 s tl).s i).2=0:=h0;rw[AJ h0'];show (({ K0 s tl with s:=(eraseR s i).1,hR:=upd R i 0,hN:=upd (fun _=>(0:Int)) i 0 }:BC),0)=_;rw[kT];rfl
  have hch:∀j,(eraseR s i).1.ch j=DW:=by
   rcases h2 with ⟨_,_,_,a⟩ | ⟨a,_⟩ | ⟨a,_⟩
   ·intro j;rw[a];split
    ·rfl
    ·exact hB.ch j
   ·rw[h0] at a;cases a
   ·rw[h0] at a;cases a
  have hok:(eraseR s i).1.Ok:=Hi hB.ok i;have hrd:∀b,((eraseR s i).1.bl b).reads=if b=i then 0 else (s.bl b).reads:=by
   intro b;unfold eraseR;rw[AI om,AI (by rw[hf.on];decide),AI (by rw[hf.lim];simp),AI (by rw[(hf.failE _).1];decide)];show (if b=(i:Int).toNat then { ((Ik s).setBl (i:Int).toNat (failE (s.bl (i:Int).toNat))).bl (i:Int).toNat with reads:=0 } else ((Ik s).setBl (i:Int).toNat (failE (s.bl (i:Int).toNat))).bl b).reads=_;rw[AP];by_cases c:b=i
   ·rw[AJ c,AJ c]
   ·rw[AI c,AI c];show (if b=i then failE (s.bl i) else s.bl b).reads=_;rw[AI c]
  have hB1:CL (eraseR s i).1:=⟨hok,h1.1,hch,fun b hb=>by rw[hrd,AI om];exact hB.hi b hb⟩;obtain⟨s',q⟩:=ih (i+1) (eraseR s i).1 (upd R i 0) om hB1 (fun b hb=>by
   rw[hrd]
   unfold upd
   by_cases c:b=i
   ·
    rw[AJ c,AJ c];exact⟨rfl,rfl⟩
   ·
    rw[AI c,AI c];exact hr b om) (fun b=>by
   unfold upd
   split
   ·
    decide
   ·
    exact hR b)
  refine⟨s',?_,q.2⟩;rw[efK,AI (by simp),eK];dsimp only;rw[AI dc,AI dc];exact q.1
theorem Xx(K1:BC)(o p:Nat)(s':BG)(r':Int)(R':Nat->Int):(FrL K1 o p s' r' R').1.hS=K1.hS/\(FrL K1 o p s' r' R').1.cu=K1.cu:=by
 unfold FrL layK ntK;dsimp only;split <;> exact⟨rfl,rfl⟩
theorem Xy(htl:∀L n,ToldR L n (tl L n))(hB:CL s)(n:Nat):∃K G,cnK (n+2) { K0 s tl with hR:=R8 12 }=some (K,0)/\(OI K G/\IU 1 K G)/\(K.tl=tl/\K.hS=(fun _=>0)/\K.cu=0):=by
 obtain⟨s',e1,hB',r1⟩:=Xw htl 12 0 s (R8 12) rfl hB (fun b hb=>⟨by unfold R8;rw[AI om],hB.hi b om⟩) (fun b=>by unfold R8;split <;> decide)
 have o1:=hB'.ok;have f1:=hB'.fine;have h0:=mE o1 hB'.is htl;have eF:efK ({ K0 s tl with hR:=R8 12 }:BC).F 12 0 { K0 s tl with hR:=R8 12 } false=(K0 s' tl,false,0):=e1;have hop:=h0.op (by rfl) (by show 1<=fre (fun _=>0);decide);have hspr:GD (K0 s' tl)=true:=by
  show decide (AD.Ut (fun _=>0)<((AD.cnt (fun _=>0) 0 12:Nat):Int))=true;decide
 have hKO:∃KO:BC,opK (K0 s' tl)=(KO,0)/\KO.s=s'/\KO.F=AD.tkF (fun _=>0) 0 0/\KO.fr=⟨true,0,0⟩/\KO.L=(fun _=>-1)/\KO.nx=1/\KO.dd=false/\KO.mv=0/\KO.tl=tl/\KO.hR=(fun _=>0)/\KO.qu=[]/\Un KO.s/\KO.hS=(fun _=>0)/\KO.cu=0:=by
  have:=nT;have t1:tkC (K0 s' tl).F=0:=this.1;have t2:tkM (K0 s' tl).F=0:=this.2;refine⟨{ K0 s' tl with F:=AD.tkF (fun _=>0) 0 0,fr:=⟨true,0,0⟩ },?_,rfl,rfl,rfl,rfl,rfl,rfl,rfl,rfl,rfl,rfl,hB'.un,rfl,rfl⟩;unfold opK;rw[AJ t1,t2];rfl
 obtain⟨KO,eO,k1,k2,k3,k4,k5,k6,k7,k8,k9,k10,k11,k12,k13⟩:=hKO;rw[eO] at hop;obtain⟨_,s2,fr2,b2,_,q2,_⟩:=hop;dsimp only at s2 fr2 b2 q2;have hr:AC.rmV KO.fr ((24:Nat):Int)=true:=by rw[k3];decide
 obtain⟨c,K1,s3,r3,R3,fD,f3,rd3,fz,fl⟩:=I0 Pk s2 (by rw[k1];exact f1) (by decide:(24:Nat)<25) hr (by rw[k5];decide);have ean:=aV (H:=noH) (K:=K0 s' tl) (o:=24) (by rw[CN h0];rfl) rfl (by show ¬ AC.rmV noF ((24:Nat):Int)=true;decide) rfl hspr eO hr c fz n;rw[fl] at ean;have hu:=H8 _ _ _ _ _ ean hB'.un;have hq:=(Py K1 24 (8*KO.fr.k+KO.fr.i) s3 r3 R3).trans ((congrArg (·.qu) fD.e).trans k10);have hhs:=(Xx K1 24 (8*KO.fr.k+KO.fr.i) s3 r3 R3).1.trans ((congrArg (·.hS) fD.e).trans k12);have hcu:=(Xx K1 24 (8*KO.fr.k+KO.fr.i) s3 r3 R3).2.trans ((congrArg (·.cu) fD.e).trans k13);have hl:=J1 dc fD;obtain⟨n1,n2,n3,n4,n5,n6,n7,G',g1,g2,g3⟩:=Nn fD k6;rw[k3] at ean hl n1 n2 n3 n4 n5 n6 n7 g1 g2 g3 rd3 hu hq hhs hcu;generalize FrL K1 24 (8*(⟨true,0,0⟩:AC.St).k+(⟨true,0,0⟩:AC.St).i) s3 r3 R3=Z at *
 refine(fun (x:_/\(OI Z.1 G')/\_)=>⟨Z.1,G',x.1,⟨x.2.1,x.2.1.lit hu hq⟩,x.2.2⟩) ⟨?_,⟨g1,g2,?_,?_,?_,?_,?_,?_,?_,?_,?_,?_,?_,?_⟩,?_,hhs,hcu⟩
 ·unfold cnK;rw[AI (by show ¬ false=true;decide),eF,AI (by simp)];dsimp only;rw[AI (by show ¬ ((-1:Int)≠-1/\_);simp),ean];show some (Z.1,Kr Z.2)=_;rw[hl.1];rfl
 ·unfold Rm;rw[hl.2.2.2.1,k2];decide
 ·rw[hl.2.2.1];exact f3
 ·rw[hl.2.2.2.2.2.2.2.1];exact k6
 ·rw[g3.a];rfl
 ·rw[g3.z];rfl
 ·rw[hl.2.1,k4];rfl
 ·rw[hl.2.2.2.1,k2]
 ·rw[hl.2.2.2.2.1]
 ·rw[hl.2.2.2.2.2.1,k5]
 ·exact n7
 ·rw[hl.2.2.2.2.2.2.1,k7]
 ·have h00:Rdn 0 KO:=fun b _=>by
   rw[k1,k9,r1 b];show 0<=(0:Int)/\(0:Int)<=((0:Nat):Int)/\(0:Int)=min 0 65535;decide
  exact rd3 0 dc h00
 ·rw[hl.2.2.2.2.2.2.2.2,k8]
end
section
variable {w:Wd}{v:Value}{b:Nat}{ops:Array Oper}{rest:List Oper}{o:Oper}{a:Act}{Q:Exit->Act->World->Prop}
theorem TJ(B:Nat)(a:Int)(x:Pg)(v:Value)(hx:x.tagged=false)(w:Wd) :Calls prog 100 #[.pointer (some ⟨B,0,none⟩),.int .i64 a,SE x v] w fun e w'=>e=.returned (.tuple #[])/\Chg No w w':=by
 unfold SE;rw[hx];have c0:=(Pb.new w false x.p x.o x.s x.c x.l x.sound v x.dmg).cells.1;have G0:=BB ((Chg.refl No w).alloc (.cells #[.bool false,.int .i64 x.p,.int .i64 x.o,.int .i64 x.s,.int .i64 x.c,.bool x.l,.bool x.sound,v,.int .i64 x.dmg] 129));go_enter func100,ntmps100;go_wp2;refine AZ (results_none rfl _ _ _) rfl ?_;exact⟨rfl,G0.out⟩
def Sg (w:Wd) (b:Nat) (v:Value):Prop:=w.heap[b]?=some (.cells #[.slice none 0 0,v] 147)
theorem Sg.new(w:Wd)(v:Value):Sg (w.alloc (.cells #[.slice none 0 0,v] 147)) w.heap.size v:=by
 show (w.heap.push _)[w.heap.size]?=_;simp
theorem Sg.lt(h:Sg w b v):b<w.heap.size:=(Array.getElem?_eq_some_iff.1 (show w.heap[b]?=some _ from h)).1
theorem Sg.chg{S:Nat->Prop}{w':Wd}(h:Sg w b v)(hc:Chg S w w')(hb:¬ S b):Sg w' b v:=(hc.block b h.lt hb).trans h
theorem Sg.cells(h:Sg w b v):w.cell? ⟨b,0,none⟩=some (.slice none 0 0)/\w.cell? ⟨b,1,none⟩=some v:=by
 have h':w.heap[b]?=some _:=h;refine⟨?_,?_⟩ <;> simp[World.cell?,h']
theorem Pz:(prog.info? 147).map (·.size)=some 2:=kr
theorem J9(hgd:o.guard=none)(x:Operand)(ho:o.op=.load 147 x)(g:Nat)(hx:a.eval x=.pointer (some ⟨g,0,none⟩))(hg:Sg w g v)(h:wpList prog ops Q rest (a.put o.dst (.agg #[.slice none 0 0,v])) w):wpList prog ops Q (o :: rest) a w:=
 wpList_load_row hgd 147 x ho g hx 147 _ _ _ hg underlying147 rfl Pz h
theorem DQ(hgd:o.guard=none)(x y:Operand)(ho:o.op=.store 147 x y)(g:Nat)(hx:a.eval x=.pointer (some ⟨g,0,none⟩)){v:Option Nat}(hy:a.eval y=.agg #[.slice none 0 0,.map v]){v':Value}(hg:Sg w g v')(h:∀w',Sg w' g (.map v)->Chg (·=g) w w'->wpList prog ops Q rest (a.put o.dst undef) w'):wpList prog ops Q (o :: rest) a w:=
 wpList_store_row hgd 147 x y ho g _ hx hy 147 _ hg Pz rfl (by simp[Value.oneCell']) (h _ (setRow_heap w g _ _ 147 _ hg) ⟨rfl,rfl,rfl,by simp,fun k _ hk=>setRow_other _ _ _ _ hk⟩)
theorem iu(w:Wd):(zeroValue 147).run prog w=.ok (.agg #[.slice none 0 0,.map none]) w:=kr
theorem bI(n:Nat)(w:Wd):(Instr.build 147 #[(1,.map (some n))]).run prog w=.ok (.agg #[.slice none 0 0,.map (some n)]) w:=kr
theorem DR(hgd:o.guard=none)(ho:o.op=.alloc 147)(N:Nat)(hN:w.heap.size=N)(h:∀w',Sg w' N (.map none)->Chg No w w'->w'.heap.size=N+1->wpList prog ops Q rest (a.put o.dst (.pointer (some ⟨N,0,none⟩))) w'):wpList prog ops Q (o :: rest) a w:=by
 refine wpList_plain hgd fun K hK=>?_;have hz:=iu;unfold Oper.wp;simp[execOp,ho,Instr.alloc,hz,newVar,Value.cells,newRow];rw[hN];exact hK _ _ (h _ (by rw[<-hN];exact Sg.new w _) ((Chg.refl _ w).alloc _) (by simp[hN]))
theorem P0{fn:Func}{q u:Tmp}(h:fn.results=#[.cell q 147,.tmp u])(tmps:Array Value){g:Nat}(hp:tmps.getD q undef=.pointer (some ⟨g,0,none⟩))(hT:Sg w g v) :(results fn tmps).run prog w=.ok (.tuple #[.agg #[.slice none 0 0,v],tmps.getD u undef]) w:=by
 rw[results_cell_tmp h,hp];simp[asAddr,run_loadVar_row w g 147 147 _ _ _ hT underlying147 rfl Pz]
theorem P7(g:Nat)(s:BG)(hB:CL s)(w:Wd)(h:BF w g s) :Calls prog 65 #[.pointer (some ⟨g,0,none⟩)] w fun e w'=>∃s' mp,e=.returned (.tuple #[.agg #[.slice none 0 0,.map (some mp)],.nilIface])/\CL s'/\s'.steps=s.steps/\BF w' g s'/\Chg (·=g) w w':=by
 have HB:=BB hB;have HC:=BB h;have HL:=BB h.lt;have hmm:=@run_makeMap prog;have hbs:=bI;have q0:=BJ;clear hB h;go_enter func65,ntmps65;go_wp2_with (refine DR rfl rfl w.heap.size rfl ?_);intro w1 K1 G1 S1;have HK1:=BB K1;have HG1:=BB G1;have HS1:=BB S1;clear K1 G1 S1;go_wp2_with (refine DR rfl rfl _ rfl ?_);intro w2 K2 G2 S2;have HK2:=BB K2;have HG2:=BB (((HG1.out.alloc (.map #[] 0)).trans G2));have HR2:=BB ((HK1.out.chg ((Chg.refl No w1).alloc (.map #[] 0)) (fun f=>f)).chg G2 (fun f=>f));have hN2:(w1.alloc (.map #[] 0)).heap.size=w1.heap.size+1:=by simp
 have hs1:=HS1.out;clear K2 G2;go_wp2_with (refine DQ rfl (.tmp 4) (.tmp 14) rfl _ rfl rfl HK2.out ?_);intro w3 K3 G3;have HK3:=BB K3;have HG3:=BB (HG2.out.trans' G3 (fun k hk e=>om));have HR3:=BB (HR2.out.chg G3 (fun e=>om));have HC3:=BB (HC.out.chg HG3.out (fun f=>f));clear K3 G3 HK2 HR2 HG2 hN2 S2 hs1 HS1 HK1 HG1;have hcall:=M9 g w3;go_wp2_with fail;refine hcall.mono ?_;rintro x w4 ⟨m,p,q,b,rfl,hge,M4,G4⟩;have HM:=BB M4;have HC:=BB (HC3.out.chg G4 (fun f=>f));have HK:=BB (HK3.out.chg G4 (fun f=>f));have HR:=BB (HR3.out.chg G4 (fun f=>f));have HG:=BB ((HG3.out.trans G4).mono (T:=(·=g)) (fun _ _ f=>f.elim));have HGE:=BB hge;have HS:=BB HG3.out.size;have HL3:Hid (w.heap.size+1+1<w3.heap.size):=HK3.out.lt;clear hcall M4 G4 hge HC3 HK3 HR3 HG3;go_wp2
 go_loopg [17] 96 (fun kx s17 wr=>∃(i:Nat) (s':BG) (r:Int),s17=.int .i64 i/\i<=96/\96 - i<=kx/\Hid (Do wr m g p q b r)/\Hid (BF wr g s')/\Hid (CL s')/\Hid (s'.steps=s.steps)/\Hid (Sg wr (w.heap.size+1+1) (.map (some (w.heap.size+1))))/\Hid (Sg wr w.heap.size (.map none))/\Hid (Chg (·=g) w wr))
 case atStart=>exact⟨0,s,0,rfl,om,om,HM.out,HC.out,HB.out,rfl,HK.out,HR.out,HG.out⟩
 case round=>
  clear HM HC HK HR HG HB;obtain⟨i,s',r,rfl,hi,hkx,HM,HC,HB,HS',HK,HR,HG⟩:=hrel;by_cases hlt:i<96
  ·have hltz:(i:Int)<96:=om;have hcall:=Hl m g p q b r s' HB.out.ok wr HM.out HC.out (i:Nat);go_wp2_with fail;refine hcall.mono ?_;rintro e w5 ⟨s2,r2,x,c,v,rfl,hR,hO,M5,C5,G5⟩;obtain⟨B5,rfl,ht,hst⟩:=HB.out.read hlt hR;have hadd:=fun (B:Nat) (u:Wd)=>TJ B (i:Nat) x v ht u;have hone:=hO.one;have HM5:=BB M5;have HC5:=BB C5;have HB5:=BB B5;have HS5:Hid (s2.steps=s.steps):=hst.trans HS'.out;obtain⟨g1,g2,g3,g4⟩:=HGE.out;have nf:∀k,k<w.heap.size+1+1+1->¬ k=g->¬ (k=m\/k=g\/k=b):=fun k hk hn e=>by
    have:=HL3.out;omega
   have HK5:=BB (HK.out.chg G5 (nf _ om (by have:=HL.out;omega)));have HR5:=BB (HR.out.chg G5 (nf _ om (by have:=HL.out;omega)));have HG5:=BB (HG.out.trans' G5 (fun k hk e=>by have:=HL3.out;omega));have HP5:=BB (Pb.new w5 false 0 0 0 0 false false (.slice none 0 0) 0);have HA5:Hid (Chg No w5 (w5.alloc (.cells #[.bool false,.int .i64 0,.int .i64 0,.int .i64 0,.int .i64 0,.bool false,.bool false,.slice none 0 0,.int .i64 0] 129))):=(Chg.refl _ w5).alloc _;have HL5:Hid (w.heap.size<=w5.heap.size):=HG5.out.size;have HLT:=BB HC5.out.lt;clear hcall hR hO M5 C5 G5 B5 hst ht HM HC HB HS' HK HR HG nf g1 g2 g3 g4;unfold SE;rw[show nerrV 0=.nilIface from rfl];go_wp2_with (refine wpList_store_pg rfl (.tmp 7) (.tmp 24) rfl _ rfl rfl hone HP5.out ?_);intro w6 P6 G6;have HP6:=BB P6;have HZ:Hid (Chg No w5 w6):=HA5.out.trans' G6 (fun k hk e=>by subst e;omega);have HM6:=BB (HM5.out.chg HZ.out);have HC6:=BB (HC5.out.chg HZ.out (fun f=>f));have HK6:=BB (HK5.out.chg HZ.out (fun f=>f));have HR6:=BB (HR5.out.chg HZ.out (fun f=>f));have HG6:=BB (HG5.out.trans' HZ.out (fun _ _ f=>f.elim));clear P6 G6 HP5 HA5 HM5 HC5 HK5 HR5 HG5 HZ;go_wp2_with (refine wpList_load_pg rfl (.tmp 7) rfl _ rfl HP6.out ?_);refine(hadd _ _).mono ?_;rintro e w7 ⟨rfl,Z7⟩;have HM7:=BB (HM6.out.chg Z7);have HC7:=BB (HC6.out.chg Z7 (fun f=>f));have HK7:=BB (HK6.out.chg Z7 (fun f=>f));have HR7:=BB (HR6.out.chg Z7 (fun f=>f));have HG7:=BB (HG6.out.trans' Z7 (fun _ _ f=>f.elim));clear HM6 HC6 HK6 HR6 HG6 Z7 hadd hone HP6;go_wp2
   go_roundg (96 - (i+1))
   case measure=>omega
   case rel=>exact⟨i+1,s2,r2,by simp,om,AM _,HM7.out,HC7.out,HB5.out,HS5.out,HK7.out,HR7.out,HG7.out⟩
  ·have hltz:¬ (i:Int)<96:=om;go_wp2_with (first | (refine J9 rfl (.tmp 4) rfl _ rfl HK.out ?_) | (refine DQ rfl (.tmp 2) (.tmp 34) rfl _ rfl rfl HR.out ?_));intro w6 K6 G6;have HL0:=HL.out;have HG6:=BB (HG.out.trans' G6 (fun k hk e=>om));have HC6:=BB (HC.out.chg G6 (fun e=>om));go_wp2;refine AZ (P0 rfl _ rfl K6) rfl ?_;exact⟨s',_,rfl,HB.out,HS'.out,HC6.out,HG6.out⟩
end
section
variable (w:Wd)
theorem kj:prog.arrayLen 116=24:=kr
theorem iw:(sizeOf (prog.elem 116)).run prog w=.ok 1 w:=kr
theorem TK(b o:Nat)(w:Wd):(Instr.sliceAt 116 (.pointer (some ⟨b,o,none⟩)) none none none).run prog w=.ok (.slice (some ⟨b,o,none⟩) 24 24) w:=by
 rw[run_sliceAt_array_all w 116 ⟨b,o,none⟩ underlying116,iw,kj];simp[slicedAt,Addr.add_mid]
theorem Ip(g:Nat)(c:AB.Bp)(h:AB.Ck w g c)(z:Int):Calls prog 235 #[.slice (some ⟨g,0,none⟩) 24 24,.int .i64 z] w fun e w'=>∃x:Int,e=.returned (.int .i64 x)/\(0<=x<->∃i,i<24/\c.F i=z)/\w'=w:=by
 have HK:=BB h;clear h;go_enter func235,ntmps235;go_wp2_with fail
 go_loopg [8] 24 (fun kx s8 wr=>∃i:Nat,s8=.int .i64 i/\i<=24/\24 - i<=kx/\Hid (wr=w)/\Hid (∀j,j<i->c.F j≠z))
 case atStart=>exact⟨0,rfl,om,om,rfl,fun j hj=>om⟩
 case round=>
  obtain⟨i,rfl,hi,hkx,HW,HE⟩:=hrel;have ew:wr=w:=HW.out;subst ew;by_cases hlt:i<24
  ·have hltz:(i:Int)<24:=om;have ci:=HK.out.F i hlt;by_cases hz:c.F i=z
   ·have HX:Hid (∃i,i<24/\c.F i=z):=⟨i,hlt,hz⟩;rw[hz] at ci;clear hz HE;go_wp2;go_ret;exact⟨(i:Nat),rfl,⟨fun _=>HX.out,fun _=>om⟩,rfl⟩
   ·have hzb:(z == c.F i)=false:=(by simp;exact fun e=>hz e.symm);have HE2:Hid (∀j,j<i+1->c.F j≠z):=fun j hj=>by
     by_cases e:j=i
     ·rw[e];exact hz
     ·exact HE.out j om
    generalize c.F i=fi at *
    clear HE hz;go_wp2
    go_roundg (24 - (i+1))
    case measure=>omega
    case rel=>exact⟨i+1,by simp,om,AM _,rfl,HE2.out⟩
  ·have hltz:¬ (i:Int)<24:=om;have e:i=24:=om;subst e;go_wp2;go_ret;exact⟨-1,rfl,⟨fun e=>om,fun ⟨j,hj,e⟩=>absurd e (HE.out j hj)⟩,rfl⟩
theorem P9(g:Nat)(c:AB.Bp)(h:AB.Ck w g c)(z:Int){b:Bool}(hb:b=true<->∃i,i<24/\c.F i=z):Calls prog 211 #[.slice (some ⟨g,0,none⟩) 24 24,.int .i64 z] w fun e w'=>e=.returned (.bool b)/\w'=w:=by
 have hix:=Ip w g c h z;have HB:=BB hb;clear h hb;go_enter func211,ntmps211;go_wp2_with fail;refine hix.mono ?_;rintro e w ⟨x,rfl,hx,rfl⟩;have HX:=BB hx;clear hix hx;by_cases h0:0<=x
 ·have hge:x ≥ 0:=h0;have eb:b=true:=HB.out.2 (HX.out.1 h0);subst eb;clear h0;go_wp2;go_ret;exact⟨rfl,rfl⟩
 ·have eb:b=false:=by
   cases b
   ·rfl
   ·exact absurd (HX.out.2 (HB.out.1 rfl)) h0
  subst eb;go_wp2;go_ret;exact⟨by simp[h0],rfl⟩
def m0 (l:List AH.Bt) (c:AB.Bp):Prop:=(∃o,o<25/\AH.newest l (o:Nat) 1099511627774≠none)\/∃i,i<24/\c.F i=1099511627775
end
end Go.Proofs.YtbhbilcieodbhaaGreat
namespace Go.Proofs.YtbhbilcieodbhaaGreat.AH
open List
open Go.Proofs.Tryz
open Go.RowKit
open AB
theorem Xz(w:Wd)(a:Option Addr)(cap:Nat)(of ab:Int):Calls prog 169 #[.slice a 0 cap,.int .i64 of,.int .i64 ab] w fun e w'=>e=.returned (.slice none 0 0)/\w'=w:=by
 go_enter func169,ntmps169;go_wp2;refine wp_loop_rounds 1 ?_;rw[rounds_succ];go_wp2_with (go_at_call 202;refine(W7 _ _).mono ?_;rintro e w' ⟨rfl,rfl⟩);refine wp_loop_rounds 1 ?_;rw[rounds_succ];go_wp2;go_ret;exact⟨rfl,rfl⟩
theorem X0(w:Wd)(a:Option Addr)(cap:Nat)(of ab:Int):Calls prog 136 #[.slice a 0 cap,.int .i64 of,.int .i64 ab] w (mI w [] of ab):=by
 go_enter func136,ntmps136;go_wp2_with (refine Bw rfl rfl w.heap.size rfl ?_);intro w1 K1 G1 S1;have HK1:=BB K1;have HG1:=BB G1;clear K1 G1 S1;go_wp2_with (first | (go_at_call 169;refine(Xz _ a cap of ab).mono ?_;rintro e w2 ⟨rfl,rfl⟩) | (refine wpList_build_fo rfl rfl ?_) | (refine wpList_store_fo rfl (.tmp 6) (.tmp 19) rfl w.heap.size rfl rfl HK1.out ?_));intro w3 K3 G3;have HK3:=BB K3;have HG3:=BB (HG1.out.trans' G3 fun k hk h=>om);clear K3 G3;go_wp2;refine AZ (Po rfl _ rfl HK3.out) rfl ?_;exact⟨rfl,HG3.out⟩
theorem KB(w:Wd)(a:Option Addr)(cap:Nat)(of ab:Int):Calls prog 136 #[.slice a 0 cap,.int .i64 of,.int .i64 ab] w fun e w'=>e=.returned (.tuple #[.agg (fA f0),.bool false])/\Chg No w w':=X0 w a cap of ab
theorem ix(w:Wd)(c:Bp) :Calls prog 212 #[.slice none 0 0,.agg (ckA c)] w fun e w'=>e=.returned (.agg (ints (lv [] c) 25).toArray)/\Chg No w w':=by
 have hs:Sl w (.slice none 0 0) ([]:List Bt):=(Ow.nil w 0).sl;have K0:=Ck.new w c;have HK0:=BB K0;have HG0:Hid (Chg No w (w.alloc (.cells (ckA c) 142))):=(Chg.refl _ w).alloc _;have HS:=BB (hs.new HG0.out);have S33:Hid ((prog.info? 140).map (·.size)=some (bools c.B 12).length):=by show _=_;rw[BT];exact gy
 obtain⟨B,HBB⟩:∃B,Hid (B=w.heap.size):=⟨_,rfl⟩;clear hs K0;go_enter func212,ntmps212;go_wp2_with (refine Em rfl rfl (w.heap.size+1) (World.size_alloc _ _) ?_);intro w1 A1 G1 S1;have HK1:=BB (HK0.out.chg G1 (fun h=>h));have HS1:=BB (HS.out.new G1);have HG1:=BB (HG0.out.trans G1);have HA1:=BB A1;have HP1:=BB (HK1.out.partB);have c23:=TH w1 none 0 [] 0 rfl c HS1.out dc 0 rfl;clear A1 G1 HK0 HG0 HS;rw[<-HBB.out] at HK1 HA1 HP1 S1;rw[<-HBB.out];go_wp2_with (first | (refine wpList_load_mid rfl 140 (.tmp 11) rfl B 25 rfl _ _ HP1.out underlying140 rfl S33.out ?_) | (go_at_call 236;refine c23.mono ?_;rintro e w2 ⟨a',cap',rfl,hS2,G2⟩;have HS2:=BB hS2;have HSb0:=BB (hS2.apart);have HK2:=BB (HK1.out.chg G2 (fun h=>h));have HA2:=BB (HA1.out.chg G2 (fun h=>h));have HG2:=BB (HG1.out.trans G2);have hs2:=G2.size;clear G2 hS2 c23) | (refine Em rfl rfl w2.heap.size rfl ?_));intro w3 A3 G3 S3;have HK3:=BB (HK2.out.chg G3 (fun h=>h));have HA3:=BB (HA2.out.chg G3 (fun h=>h));have HS3:=BB (HS2.out.new G3);have HG3:=BB (HG2.out.trans G3);have HD3:=BB A3;clear A3 G3 HK1 HA1 HP1 HG1 HS1 HK2 HA2 HG2 HS2 S33;obtain⟨D,HDD⟩:∃D,Hid (D=w2.heap.size):=⟨_,rfl⟩;rw[<-HDD.out] at HD3 S3 hs2 HSb0;rw[<-HDD.out];have hDw:w.heap.size+2<=D:=by have:=HBB.out;omega
 have hBD:B+1<D:=by have:=HBB.out;omega
 have hDs:D<w3.heap.size:=om
 have HSb:Hid ((([]:List Bt).filter (gd c)).length≠0->∀k,(Value.slice a' 0 cap').ownBlock=some k->¬ k=D):=BB HSb0.out;have C24:Aside _:=fun (i:Nat) (h:i<25) (W:Wd)=>TG c i h W;go_wp2_with fail
 go_loopg [14] 25 (fun kx s14 wr=>∃(i:Nat) (F:Nat->Int),s14=.int .i64 i/\i<=25/\25 - i<=kx/\Hid (A25 wr D F)/\Hid (∀j,j<i->F j=lv [] c j)/\Hid (Chg (·=D) w3 wr))
 case atStart=>exact⟨0,fun _=>0,rfl,om,om,HD3.out,fun j hj=>absurd hj (Nat.not_lt_zero _),Chg.refl _ _⟩
 case round=>
 obtain⟨i,F,rfl,hin,hkx,HDr,HF,HGr⟩:=hrel;by_cases hlt:i<25
 ·have hltz:(i:Int)<25:=om
  obtain⟨d1,d2⟩:=HDr.out.cell i hlt;have HD1:=BB (HDr.out.set i (-1));have HG1:Hid (Chg (·=D) w3 (wr.setCell ⟨D,i,none⟩ (.int .i64 (-1)))):=BB (HGr.out.setCell (AK rfl) i _);have c24:=C24.out i hlt;have HKr:=BB (HK3.out.chg HG1.out om);have hsr:(wr.setCell ⟨D,i,none⟩ (.int .i64 (-1))).heap.size=wr.heap.size:=by simp[World.setCell]
  go_upto_region 7 with fail
  generalize wr.setCell ⟨D,i,none⟩ (.int .i64 (-1))=wa at *
  have ho:newest (([]:List Bt).filter (gd c)) i (flo c i)=none:=rfl;have HLv:=BB (ap ho);have C11:Aside _:=fun W=>KB W a' cap' i (flo c i);go_wp2_with (first | (refine Bf rfl (.tmp 3) rfl B rfl HKr.out ?_) | (go_at_call 237;refine(c24 _).mono ?_;rintro e w4 ⟨rfl,G4⟩;have HG4:=BB (HG1.out.trans' G4 (fun _ _ h=>h.elim));have HD4:=BB (HD1.out.chg G4 (fun h=>h));have HS4:=BB ((HS3.out.chg HG4.out HSb.out));clear G4) | (go_at_call 136;refine(C11.out _).mono ?_;rintro e w5 ⟨rfl,G5⟩;have HG5:=BB (HG4.out.trans' G5 (fun _ _ h=>h.elim));have HD5:=BB (HD4.out.chg G5 (fun h=>h));clear G5) | (refine Bw rfl rfl w5.heap.size rfl ?_));intro w6 K6 G6 S6;have HK6:=BB K6;clear K6;go_wp2_with (refine wpList_store_fo rfl (.tmp 8) (.tmp 26) rfl w5.heap.size rfl rfl HK6.out ?_);intro w7 K7 G7;have hD5:=HD5.out.lt;have G67:=G6.trans' G7 (fun k hk h=>om);have HG7:=BB (HG5.out.trans' G67 (fun _ _ h=>h.elim));have HD7:=BB (HD5.out.chg G67 (fun h=>h));clear K7 G6 G7 G67 HK6 S6;go_wp2
  go_roundg (25 - (i+1))
  case measure=>omega
  case rel=>
   refine⟨i+1,_,by simp,om,AM _,HD7.out,fun j hj=>?_,HG7.out⟩;by_cases e:j=i
   ·subst e;simp[upd,HLv.out]
   ·simp[upd,e];exact HF.out j om
 ·have hltz:¬ (i:Int)<25:=om
  have HDl:=BB (HDr.out.congr (g:=lv [] c) (fun j hj=>HF.out j om));have HAr:=BB (HA3.out.chg HGr.out om);go_wp2_with (first | (refine J5 rfl (.tmp 6) rfl D rfl HDl.out ?_) | (refine Id rfl (.tmp 4) (.tmp 34) rfl (B+1) rfl rfl HAr.out ?_));intro w8 A8 G8;have HA8:=BB A8;have HG8:=BB ((HG3.out.trans' HGr.out fun k hk h=>om).trans' G8 fun k hk h=>by have:=HBB.out;omega);clear A8 G8;go_wp2;refine AZ (Pq rfl _ rfl HA8.out) rfl ?_;exact⟨rfl,HG8.out⟩
end Go.Proofs.YtbhbilcieodbhaaGreat.AH
namespace Go.Proofs.YtbhbilcieodbhaaGreat
open List
open Go.Proofs.Tryz
open Go.RowKit
theorem TL(w:Wd)(c:AB.Bp){b:Bool}(hb:b=true<->m0 [] c) :Calls prog 179 #[.slice none 0 0,.agg (AB.ckA c)] w fun e w'=>e=.returned (.bool b)/\Chg No w w':=by
 have G0:Chg No w (w.alloc (.cells (AB.ckA c) 142)):=(Chg.refl _ w).alloc _;have HG0:=BB G0;have HB0:=BB (AB.Ck.new w c);have HB:=BB hb;clear hb G0;go_enter func179,ntmps179;go_wp2_with fail;generalize w.alloc (.cells (AB.ckA c) 142)=w0 at *
 go_loopg [8] 25 (fun kx s8 wr=>∃i:Nat,s8=.int .i64 i/\i<=25/\25 - i<=kx/\Hid (Chg No w wr)/\Hid (AB.Ck wr w.heap.size c))
 case atStart=>exact⟨0,rfl,om,om,HG0.out,HB0.out⟩
 case round=>
  obtain⟨i,rfl,hi,hkx,HG,HC⟩:=hrel;by_cases hlt:i<25
  ·have hltz:(i:Int)<25:=om;have hnw:=AH.KB wr none 0 (i:Nat) 1099511627774;have hlw:=HC.out.lt;go_wp2_with fail;refine hnw.mono ?_;rintro e w2 ⟨rfl,g2⟩;have HG2:=BB (HG.out.trans g2);have HC2:=BB (HC.out.chg g2 (fun f=>f));have hz2:w.heap.size<w2.heap.size:=HC2.out.lt;clear hnw g2 HG HC;go_wp2_with (refine AH.Bw rfl rfl w2.heap.size rfl ?_);intro w3 F3 g3 z3;have HF3:=BB F3;have HG3:=BB (HG2.out.trans g3);have HC3:=BB (HC2.out.chg g3 (fun f=>f));clear F3 g3 HG2 HC2;go_wp2_with (refine AH.wpList_store_fo rfl (.tmp 6) (.tmp 15) rfl w2.heap.size rfl rfl HF3.out ?_);intro w4 F4 g4;have HG4:=BB (HG3.out.trans' g4 (fun k hk e=>om));have HC4:=BB (HC3.out.chg g4 om);clear F4 g4 HG3 HC3 HF3;go_wp2
   go_roundg (25 - (i+1))
   case measure=>omega
   case rel=>exact⟨i+1,by simp,om,AM _,HG4.out,HC4.out⟩
  ·have hltz:¬ (i:Int)<25:=om;have e:i=25:=om;subst e;have hs2:=TK w.heap.size 0;have hct:=P9 wr w.heap.size c HC.out 1099511627775 (b:=b) ⟨fun e=>(HB.out.1 e).elim (fun ⟨_,_,x⟩=>absurd rfl x) id,fun e=>HB.out.2 (AL e)⟩;go_wp2_with fail;refine hct.mono ?_;rintro e wr ⟨rfl,rfl⟩;clear hct;go_wp2;go_ret;exact⟨rfl,HG.out⟩
def sbS (B:Nat->Bool) (L:Nat->Int) (b:Nat):Int:=if B b=true then 3 else if 0<AA.lvK L 96 b then 2 else 0
def sbF (S:Nat->Int):Nat->Nat->(Nat->Int)->(Nat->Int)
 | 0,_,F=>F
 | n+1,i,F=>sbF S n (i+1) (AD.setF F (i:Nat) (S i))
theorem bJ(B:Nat->Bool)(L:Nat->Int)(b:Nat):0<=sbS B L b/\sbS B L b<=3:=by
 unfold sbS;split
 ·omega
 ·split <;> omega
theorem Ny(A:Ad)(w:Wd)(K:BC)(h:CoreAt A w K)(c:AB.Bp)(hF:∀b,b<12->K.F b=0) :Calls prog 181 #[.pointer (some ⟨A.c,0,none⟩),.agg (AB.ckA c)] w fun e w'=>e=.returned (errV 0)/\CoreAt A w' { K with F:=sbF (sbS c.B K.L) 12 0 K.F }/\Chg (Cor A) w w':=by
 have HG0:Hid (Chg No w (w.alloc (.cells (AB.ckA c) 142))):=(Chg.refl _ w).alloc _;have HB0:=BB (AB.Ck.new w c);have HK0:=BB (h.chg0 HG0.out);have HNA:Hid (¬ Cor A w.heap.size):=h.apart (AM _);have q:=Bn;have g:=BL;have HF:=BB hF;obtain⟨X,HX⟩:∃X,Hid (sbF (sbS c.B K.L) 12 0 K.F=X):=⟨_,rfl⟩;rw[HX.out];obtain⟨c2,-⟩:=HK0.out.cMap;have hlv:=AA.Gj _ A.ma K.L HK0.out.map;have hz0:=HB0.out.lt;clear h hF;go_enter func181,ntmps181;go_wp2_with fail;generalize w.alloc (.cells (AB.ckA c) 142)=w0 at *
 refine hlv.mono ?_;rintro e w1 ⟨rfl,I1,G1⟩;have HI:=BB I1;have HK1:=BB (HK0.out.chg0 G1);have HG1:=BB ((Chg.cor0 (A:=A) HG0.out).trans (Chg.cor0 (A:=A) G1));have HB1:=BB (HB0.out.chg G1 (fun f=>f));have HN:Hid (¬ Cor A w0.heap.size):=HK0.out.apart (AM _);clear hlv c2 I1 G1 HG0 HB0 HK0;go_wp2_with fail
 go_loopg [15] 12 (fun kx s15 wr=>∃(i:Nat) (F:Nat->Int),s15=.int .i64 i/\i<=12/\12 - i<=kx/\Hid (CoreAt A wr { K with F:=F })/\Hid (Chg (Cor A) w wr)/\Hid (IB wr w0.heap.size 3 12 (fun k=>(AA.lvK K.L 96 k:Nat)))/\Hid (AB.Ck wr w.heap.size c)/\Hid (∀b,i<=b->b<12->F b=0)/\Hid (sbF (sbS c.B K.L) (12 - i) i F=X))
 case atStart=>exact⟨0,K.F,rfl,om,om,HK1.out,HG1.out,HI.out,HB1.out,fun b _ hb=>HF.out b hb,HX.out⟩
 case round=>
  obtain⟨i,F,rfl,hi,hkx,HC,HG,HJ,HB,HZ,HE⟩:=hrel;by_cases hlt:i<12
  ·have hltz:(i:Int)<12:=om;obtain⟨ci,-⟩:=HJ.out.cell i hlt;have cb:=HB.out.B i hlt;obtain⟨m,hm⟩:∃m,12 - i=m+1:=⟨11 - i,om⟩;have hm2:12 - (i+1)=m:=om;have HE2:Hid (sbF (sbS c.B K.L) m (i+1) (AD.setF F (i:Nat) (sbS c.B K.L i))=X):=by
    have:=HE.out;rw[hm,sbF] at this;exact this
   have hst:=AD.set_v wr A.po F HC.out.pool (i:Nat) (sbS c.B K.L i);have hr:=bJ c.B K.L i;have hsc:AD.setC F (i:Nat) (sbS c.B K.L i)=0:=by
    unfold AD.setC;have:=HZ.out i (AM _) hlt;rw[AI om,AP,this,AI (by simp)]
   rw[hsc] at hst;have hwf:=HC.out.wf.st (i:Nat) (sbS c.B K.L i);have HWF:Hid (Wf { K with F:=AD.setF F (i:Nat) (sbS c.B K.L i) }):=hwf;have HM2:=BB hm2;have HZ2:Hid (∀b,i+1<=b->b<12->AD.setF F (i:Nat) (sbS c.B K.L i) b=0):=by
    intro b hb hb2;unfold AD.setF;rw[AJ hsc,AP];unfold upd;rw[AI om];exact HZ.out b om hb2
   obtain⟨d1,-⟩:=HC.out.cPool;have q0:∀w,(binOp .neq 33 (errV 0) .nilIface).run prog w=.ok (.bool false) w:=fun w=>q 0 w;replace ci:wr.cell? ⟨w0.heap.size,i,none⟩=some (.int .i64 ((AA.lvK K.L 96 i:Nat):Int)):=ci;have hsv:sbS c.B K.L i=if c.B i=true then 3 else if 0<AA.lvK K.L 96 i then 2 else 0:=rfl;clear hm hm2 HE hr hsc hwf q HZ;generalize AD.setF F (i:Nat) (sbS c.B K.L i)=F2 at *
   generalize sbS c.B K.L i=sv at *
   generalize AA.lvK K.L 96 i=lv at *
   generalize c.B i=bb at *
   have fin:∀w3:World,IB w3 A.po 167 13 F2->Chg (·=A.po) wr w3->CoreAt A w3 { K with F:=F2 }/\Chg (Cor A) w w3/\IB w3 w0.heap.size 3 12 (fun k=>(AA.lvK K.L 96 k:Nat))/\AB.Ck w3 w.heap.size c:=fun _ h3 g3=>
    ⟨HC.out.setPool h3 g3 HWF.out,HG.out.trans g3.cor_po,HJ.out.chg g3.cor_po HN.out,HB.out.chg g3.cor_po HNA.out⟩
   have HFI:=BB fin;clear fin;cases bb
   ·by_cases h0:0<lv
    ·have h0z:(0:Int)<(lv:Nat):=om;rw[AI (by simp),AJ h0] at hsv;subst hsv;clear h0;go_wp2_with fail;refine hst.mono ?_;rintro e w3 ⟨rfl,h3,g3⟩;obtain⟨k3,e3,i3,b3⟩:=HFI.out w3 h3 g3;have HK3:=BB k3;have HG3:=BB e3;have HI3:=BB i3;have HB3:=BB b3;clear hst h3 g3 k3 e3 i3 b3 HC HG HJ HB HFI;go_wp2
     go_roundg (12 - (i+1))
     case measure=>omega
     case rel=>exact⟨i+1,F2,by simp,om,AM _,HK3.out,HG3.out,HI3.out,HB3.out,HZ2.out,by rw[HM2.out];exact HE2.out⟩
    ·have h0z:¬ (0:Int)<(lv:Nat):=om;rw[AI (by simp),AI h0] at hsv;subst hsv;clear h0;go_wp2_with fail;refine hst.mono ?_;rintro e w3 ⟨rfl,h3,g3⟩;obtain⟨k3,e3,i3,b3⟩:=HFI.out w3 h3 g3;have HK3:=BB k3;have HG3:=BB e3;have HI3:=BB i3;have HB3:=BB b3;clear hst h3 g3 k3 e3 i3 b3 HC HG HJ HB HFI;go_wp2
     go_roundg (12 - (i+1))
     case measure=>omega
     case rel=>exact⟨i+1,F2,by simp,om,AM _,HK3.out,HG3.out,HI3.out,HB3.out,HZ2.out,by rw[HM2.out];exact HE2.out⟩
   ·rw[AJ rfl] at hsv;subst hsv;by_cases h0:0<lv
    ·have h0z:(0:Int)<(lv:Nat):=om;clear h0;go_wp2_with fail;refine hst.mono ?_;rintro e w3 ⟨rfl,h3,g3⟩;obtain⟨k3,e3,i3,b3⟩:=HFI.out w3 h3 g3;have HK3:=BB k3;have HG3:=BB e3;have HI3:=BB i3;have HB3:=BB b3;clear hst h3 g3 k3 e3 i3 b3 HC HG HJ HB HFI;go_wp2
     go_roundg (12 - (i+1))
     case measure=>omega
     case rel=>exact⟨i+1,F2,by simp,om,AM _,HK3.out,HG3.out,HI3.out,HB3.out,HZ2.out,by rw[HM2.out];exact HE2.out⟩
    ·have h0z:¬ (0:Int)<(lv:Nat):=om;clear h0;go_wp2_with fail;refine hst.mono ?_;rintro e w3 ⟨rfl,h3,g3⟩;obtain⟨k3,e3,i3,b3⟩:=HFI.out w3 h3 g3;have HK3:=BB k3;have HG3:=BB e3;have HI3:=BB i3;have HB3:=BB b3;clear hst h3 g3 k3 e3 i3 b3 HC HG HJ HB HFI;go_wp2
     go_roundg (12 - (i+1))
     case measure=>omega
     case rel=>exact⟨i+1,F2,by simp,om,AM _,HK3.out,HG3.out,HI3.out,HB3.out,HZ2.out,by rw[HM2.out];exact HE2.out⟩
  ·have hltz:¬ (i:Int)<12:=om;have e:i=12:=om;subst e;have HE3:Hid (F=X):=HE.out;go_wp2;go_ret;rw[<-HE3.out];exact⟨rfl,HC.out,HG.out⟩
section
variable {w:Wd}{b:Nat}{o:Oper}{a:Act}(A:Ad)(K:BC)
theorem bK(w:Wd):(binOp .neq 33 .nilIface .nilIface).run prog w=.ok (.bool false) w:=kr
theorem KC(of ab:Int):AH.newest [] of ab=none:=by
 have e2:AH.mz [] of ab=[]:=eq_nil_iff_forall_not_mem.2 fun f hf=>by cases (AH.ai.1 hf).1
 unfold AH.newest;rw[e2];rfl
theorem iy(c:AB.Bp):AH.lv [] c=fun _=>-1:=by
 funext i;unfold AH.lv;rw[show List.filter (AH.gd c) []=[] from rfl,KC]
theorem mL:AH.lJ [] AB.ck0=1:=dc
theorem mM:false=true<->m0 [] AB.ck0:=by
 constructor
 ·intro e;cases e
 ·rintro (⟨o,_,h⟩ | ⟨i,_,h⟩)
  ·exact absurd (KC _ _) h
  ·exact absurd (show (0:Int)=1099511627775 from h) dc
theorem mN:AH.lG AB.ck0:=⟨fun _ _=>by show _<=(0:Int)/\(0:Int)<=_;decide,by show _<=(0:Int)/\(0:Int)<=_;decide⟩
theorem mO:AB.VQ AB.ck0:=(AB.Qw AB.ck0 ⟨fun _ _=>by show _<=(0:Int)/\(0:Int)<=_;decide,by show _<=(0:Int)/\(0:Int)<=_;decide,by show _<=(0:Int)/\(0:Int)<=_;decide,fun _ _=>by show _<=(0:Int)/\(0:Int)<=_;decide,fun _ _=>by show _<=(0:Int)/\(0:Int)<=_;decide⟩).2 ⟨fun _ _=>by show 0<=(0:Int)/\(0:Int)<=_;decide,by show 0<=(0:Int)/\(0:Int)<=_;decide,by show 0<=(0:Int)/\(0:Int)<=_;decide,fun _ _=>by show 0<=(0:Int)/\(0:Int)<=_;decide,fun _ _=>by show 0<=(0:Int)/\(0:Int)<=_;decide⟩
theorem bN(f:Nat->Int)(i:Nat)(hi:i<25)(w:Wd):(Instr.index 38 (.agg (ints f 25).toArray) (.int .i64 i)).run prog w=.ok (.int .i64 (f i)) w:=by
 have h:=BM f 25 i hi;generalize ints f 25=L at *
 simp[Instr.index,run_underlying underlying38,asIntOf,go_sem,hi,h,i6]
theorem MG(w:Wd)(K:BC)(h:CoreAt A w K):Calls prog 180 #[.pointer (some ⟨A.c,0,none⟩),.slice none 0 0,.agg (AB.ckA AB.ck0)] w fun e w'=>e=.returned .nilIface/\CoreAt A w' K/\Chg No w w':=by
 have HB0:=BB (AB.Ck.new w AB.ck0);have HG0:Hid (Chg No w (w.alloc (.cells (AB.ckA AB.ck0) 142))):=(Chg.refl _ w).alloc _;have HK0:=BB (h.chg0 HG0.out);clear h;have hix:=bN (fun _=>-1);go_enter func180,ntmps180;go_wp2_with (refine AB.Bf rfl (.tmp 5) rfl w.heap.size rfl HB0.out ?_);generalize w.alloc (.cells (AB.ckA AB.ck0) 142)=w0 at *
 have hlv:=AH.ix w0 AB.ck0;rw[iy] at hlv;refine hlv.mono ?_;rintro e w1 ⟨rfl,G1⟩;have HG1:=BB (HG0.out.trans G1);have HK1:=BB (HK0.out.chg0 G1);clear G1 hlv HG0 HK0;go_wp2_with fail
 go_loopg [15] 25 (fun kx s15 wr=>∃i:Nat,s15=.int .i64 i/\i<=25/\25 - i<=kx/\wr=w1)
 case atStart=>exact⟨0,rfl,om,om,rfl⟩
 case round=>
  obtain⟨i,rfl,hi,hkx,rfl⟩:=hrel;by_cases hlt:i<25
  ·have hltz:(i:Int)<25:=om;have hi0:(0:Int)<=i:=om;have hx:=hix i hlt;go_wp2
   go_roundg (25 - (i+1))
   case measure=>omega
   case rel=>exact⟨i+1,by simp,om,AM _,rfl⟩
  ·have hltz:¬ (i:Int)<25:=om;go_wp2;go_ret;exact⟨rfl,HK1.out,HG1.out⟩
theorem iz:(prog.info? 116).map (·.size)=some 24:=kr
theorem i4(h:w.rangeAt b 0 (AB.ckL AB.ck0)):w.rangeAt b 0 (ints AB.ck0.F 24):=fun j v hv=>h j v (by
 have hj:=(List.getElem?_eq_some_iff.1 hv).1
 unfold AB.ckL
 rw[Af hj]
 exact hv)
theorem Ck.part{c:AB.Bp}(h:AB.Ck w b c):w.rangeAt b 0 (AB.ckL c):=fun j v hv=>by
 rw[AW]
 exact h.cell j hv
def corL (A:Ad) (K:BC):List Value:=(List.range 101).map (kc A K)
theorem Nz:(corL A K).length=101:=by simp[corL]
theorem X1(w:Wd)(A:Ad)(s:BG)(tl:List Nat->Int->Pg):(Instr.build 124 #[(0,.pointer (some ⟨A.m,0,none⟩)),(1,.pointer (some ⟨A.po,0,none⟩)),(2,.pointer (some ⟨A.ma,0,none⟩)),(4,.agg (ints AB.ck0.F 24).toArray),(5,.int .i64 1),(6,.bool false),(8,.pointer (some ⟨A.pa,0,none⟩)),(10,.pointer (some ⟨A.h,0,none⟩))]).run prog w=.ok (.agg (corL A (K0 s tl)).toArray) w:=kr
theorem KM{x1 x2 x3 x4 x5 x6 x7 x8:Operand}{A:Ad}{s:BG}{tl:List Nat->Int->Pg}(ho:o.op=.build 124 #[(0,x1),(1,x2),(2,x3),(4,x4),(5,x5),(6,x6),(8,x7),(10,x8)])(h1:a.eval x1=.pointer (some ⟨A.m,0,none⟩))(h2:a.eval x2=.pointer (some ⟨A.po,0,none⟩))(h3:a.eval x3=.pointer (some ⟨A.ma,0,none⟩))(h4:a.eval x4=.agg (ints AB.ck0.F 24).toArray)(h5:a.eval x5=.int .i64 1)(h6:a.eval x6=.bool false)(h7:a.eval x7=.pointer (some ⟨A.pa,0,none⟩))(h8:a.eval x8=.pointer (some ⟨A.h,0,none⟩)):(execOp a.eval o).run prog w=.ok (.value (.agg (corL A (K0 s tl)).toArray)) w:=by
 have hb:=X1 w A s tl;unfold execOp;rw[ho];simp only[map_toArray,map_cons,map_nil,h1,h2,h3,h4,h5,h6,h7,h8];generalize Instr.build 124 #[(0,.pointer (some ⟨A.m,0,none⟩)),(1,.pointer (some ⟨A.po,0,none⟩)),(2,.pointer (some ⟨A.ma,0,none⟩)),(4,.agg (ints AB.ck0.F 24).toArray),(5,.int .i64 1),(6,.bool false),(8,.pointer (some ⟨A.pa,0,none⟩)),(10,.pointer (some ⟨A.h,0,none⟩))]=b at *
 simp[hb]
theorem N0{ops:Array Oper}{K:Act->World->Prop}{Q:Exit->Act->World->Prop}{E:Prop}(hgd:o.guard=none)(x:Operand)(ho:o.op=.box 124 x){C:Array Value}(hx:a.eval x=.agg C)(h:K (a.put o.dst (.pointer (some ⟨w.heap.size,0,none⟩))) (w.alloc (.cells C 124))):if Region.wanted o (yielded ops a.tmps)=true then Oper.wp prog o a w K Q else E:=by
 rw[AJ (by simp[Region.wanted,hgd])];unfold Oper.wp;simp[execOp,ho,hx,Instr.box,newVar,Value.cells,newRow];exact h
theorem bO(w:Wd)(A:Ad)(K:BC)(hA:A.c=w.heap.size)(hq:K.qu=[]):AE.QB (w.alloc (.cells (corL A K).toArray 124)) A.c 124 101 (kc A K) 83 K.qu:=by
 rw[hq,hA];refine⟨fun _=>0,⟨⟨(corL A K).toArray,by show (w.heap.push _)[w.heap.size]?=_;simp,by simp[Nz],fun i hi=>?_⟩,dc⟩,rfl,fun i hi=>by cases hi⟩;have e:(corL A K).toArray[i]?=some (kc A K i):=by simp[corL,hi]
 rw[e];by_cases c:83<=i/\i<96
 ·obtain⟨k,rfl⟩:∃k,i=83+k:=⟨i - 83,om⟩;rw[AE.Br _ _ _ _ _ om];unfold kc;rw[AI om,AI om,AI om,AI om,AI om,AI om,AI om,AI om,AI om,AI om,AI om,AJ om]
 ·rw[AE.CG _ _ _ _ _ om]
theorem nW:sbF (sbS AB.ck0.B (fun _=>-1)) 12 0 (fun _=>0)=fun _=>0:=by
 have hS:∀b,b<12->sbS AB.ck0.B (fun _=>-1) b=0:=fun b hb=>by
  unfold sbS;rw[AI (by show ¬ false=true;decide),AI];rw[AA.In _ hb];have:=Ed Np b;intro e;cases hl:AA.ofL (fun _=>-1) b with
  | nil=>rw[hl] at e;exact absurd e dc
  | cons x l=>
   have h2:=(this.1 x.toNat (by rw[hl];simp)).2.1;exact h2 rfl
 have:∀n i,i+n<=12->sbF (sbS AB.ck0.B (fun _=>-1)) n i (fun _=>0)=fun _=>0:=by
  intro n
  induction n with
  | zero=>intro i _;rfl
  | succ n ih=>
   intro i hi;rw[sbF,hS i om];have e:AD.setF (fun _=>0) (i:Nat) 0=fun _=>0:=by
    unfold AD.setF;split
    ·exact kT _
    ·rfl
   rw[e];exact ih (i+1) om
 exact this 12 0 (AM _)
def Far (A:Ad) (g n:Nat):Prop:=A.g=g/\n<=A.c/\n<=A.m/\n<=A.p/\n<=A.q/\n<=A.b/\n<=A.po/\n<=A.ma/\n<=A.pa/\n<=A.h
theorem TM(g:Nat)(s:BG)(hs:s.Ok)(tl:List Nat->Int->Pg)(htl:∀L n,ToldR L n (tl L n))(w:Wd)(h:BF w g s) :Calls prog 140 #[.pointer (some ⟨g,0,none⟩),.agg (AB.ckA AB.ck0),.slice none 0 0] w fun e w'=>∃A,Far A g w.heap.size/\e=.returned (.tuple #[.pointer (some ⟨A.c,0,none⟩),errV 0])/\CoreAt A w' (K0 s tl)/\Chg (·=g) w w':=by
 have HC:=BB h;have HWF:=BB (lI hs htl);have HB0:=BB (AB.Ck.new w AB.ck0);have HG0:Hid (Chg No w (w.alloc (.cells (AB.ckA AB.ck0) 142))):=(Chg.refl _ w).alloc _;have q:=bK;clear h hs htl;go_enter func140,ntmps140;go_wp2_with (refine AB.Bf rfl (.tmp 4) rfl w.heap.size rfl HB0.out ?_);generalize w.alloc (.cells (AB.ckA AB.ck0) 142)=w0 at *
 refine(AB.Kk w0 AB.ck0 mO).mono ?_;rintro e w1 ⟨gp,rfl,-,-,G1⟩;have HG1:=BB (HG0.out.trans G1);have HB1:=BB (HB0.out.chg G1 (fun f=>f));have k37:w1.cell? ⟨w.heap.size,37,none⟩=some (.int .i64 0):=HB1.out.C;clear G1 HG0 HB0;go_wp2_with fail;refine(AE.new_yes w1 0 dc).mono ?_;rintro e w2 ⟨rfl,P2,G2⟩;have HP2:=BB P2;have HG2:=BB (HG1.out.trans G2);have HB2:=BB (HB1.out.chg G2 (fun f=>f));have hz2:w.heap.size<=w1.heap.size:=HG1.out.size;have hw2:w1.heap.size<w2.heap.size:=HP2.out.lt;clear P2 G2 HG1 HB1 k37;have HNW:Hid (∀u,AB.Ck u w.heap.size AB.ck0->Calls prog 175 #[.slice (some ⟨w.heap.size,38,none⟩) 12 12,.slice (some ⟨w.heap.size,50,none⟩) 12 12] u fun e w'=>e=.returned (.tuple #[.pointer (some ⟨u.heap.size,0,none⟩),.nilIface])/\AF.HB w' u.heap.size 170 (AF.lim 65535 (fun _=>0)) (AF.lim 65535 (fun _=>0)) (AF.lim 255 (fun _=>0))/\Chg No u w'):=fun u hu=>
  AF.new_yes u (some ⟨w.heap.size,38,none⟩) (some ⟨w.heap.size,50,none⟩) 12 12 12 12 (fun _=>0) (fun _=>0) (AL ⟨_,_,rfl,hu.lt,fun i hi=>hu.R i hi⟩) (AL ⟨_,_,rfl,hu.lt,fun i hi=>hu.S i hi⟩) ((AF.Fd _ _).2 ⟨rfl,fun _ _=>Int.le_refl _⟩) ((AF.Fd _ _).2 ⟨rfl,fun _ _=>Int.le_refl _⟩)
 have k38:w2.drew.cell? ⟨w.heap.size,38,none⟩=some (.int .i64 0):=HB2.out.R 0 dc;go_wp2_with fail
 go_region_held3 (fun wx=>wx.cell? ⟨w.heap.size,38,none⟩=some (.int .i64 0))
  (first | exact k38 | exact k38')
  (first | (go_at_call 175;refine(HNW.out _ (HB2.out.chg ((Chg.refl No w2).drewN 1) (fun f=>f))).mono ?_;rintro e w3 ⟨rfl,H3,G3⟩;have k38':=(HB2.out.chg (((Chg.refl No w2).drewN 1).trans G3) (fun f=>f)).R 0 dc;have HH3:=BB H3;have HG3:=BB (((Chg.refl No w2).drewN 1).trans G3)))
 have HB3:=BB (HB2.out.chg HG3.out (fun f=>f));have HP3:=BB (HP2.out.chg HG3.out (fun f=>f));have HGa:=BB (HG2.out.trans HG3.out);have hh3:w2.heap.size<w3.heap.size:=HH3.out.lt;go_wp2_with fail;have HBD:Hid (AB.Ck w3.drew w.heap.size AB.ck0):=HB3.out;have HGD:Hid (Chg No w w3.drew):=HGa.out.drew;refine wp_region_noPanic ?_;refine wp_region_held_drew (S:=fun wx=>wx.rangeAt w.heap.size 0 (AB.ckL AB.ck0)) kr (Ck.part HBD.out) (fun hHeld=>?_);refine Ab (i:=0) rfl kr kr kr (fun _ _ _ h=>h) (AK ⟨rfl,fun _ _=>rfl⟩) hHeld ?_;simp only[Act.put,getElem_toArray,getElem_cons_zero,setIfInBounds_toArray,set_cons_zero,set_cons_succ];refine Ab (i:=4) rfl kr kr kr (fun _ _ _ h=>h) (AK ⟨rfl,fun _ _=>rfl⟩) hHeld ?_
 try simp only[Act.put,bu]
 refine Ab (i:=5) rfl kr kr kr (fun _ _ _ h=>h) (yieldsIf_load_mid rfl 116 _ rfl w.heap.size 0 rfl (ints AB.ck0.F 24) _ (fun w hw=>i4 hw) underlying116 rfl (by rw[BD];exact iz)) hHeld ?_
 try simp only[Act.put,bu]
 refine Ab (i:=6) rfl kr kr kr (fun _ _ _ h=>h) (AK ⟨rfl,fun _ _=>rfl⟩) hHeld ?_
 try simp only[Act.put,bu]
 refine Ab (i:=7) rfl kr kr kr (fun _ _ _ h=>h) (yieldsIf_load_mid rfl 142 _ rfl w.heap.size 0 rfl (AB.ckL AB.ck0) _ (fun w hw=>hw) underlying142 rfl (by rw[AB.GC];exact AB.size26)) hHeld ?_
 try simp only[Act.put,bu]
 refine Ab (i:=9) rfl kr kr kr (fun _ _ _ h=>h) (AK ⟨rfl,fun _ _=>rfl⟩) hHeld ?_
 try simp only[Act.put,bu]
 refine Ab (i:=10) rfl kr kr kr (fun _ _ _ h=>h) (yieldsIf_load_mid rfl 142 _ rfl w.heap.size 0 rfl (AB.ckL AB.ck0) _ (fun w hw=>hw) underlying142 rfl (by rw[AB.GC];exact AB.size26)) hHeld ?_
 try simp only[Act.put,bu]
 refine Ab (i:=12) rfl kr kr kr (fun _ _ _ h=>h) (AK ⟨rfl,fun _ _=>rfl⟩) hHeld ?_
 try simp only[Act.put,bu]
 refine Ab (i:=13) rfl kr kr kr (fun _ _ _ h=>h) (AK ⟨rfl,fun _ _=>rfl⟩) hHeld ?_
 try simp only[Act.put,bu]
 refine wpAnyH_ready (rs:=[1]) kr (by simp) ?_;refine AllReadyH.cons rfl (fun K' hK=>?_) AllReadyH.nil;go_simp;refine(M9 g _).mono ?_;rintro e w5 ⟨m,p,q,b,rfl,hlt5,hM5,G5⟩;have HM5:=BB hM5;have HG5:=BB (HGD.out.trans G5);have HL5:=BB hlt5;have hz35:w3.heap.size<=w5.heap.size:=G5.size;have G35:Hid (Chg No w3 w5):=((Chg.refl No w3).drewN 1).trans G5;refine hK.out _ _ (Ck.part (HBD.out.chg G5 (fun f=>f))) (fun hHeld=>?_);have HB5:=BB (HBD.out.chg G5 (fun f=>f));clear hK K' hM5 hlt5 G5
 try simp only[Act.put,bu]
 refine wpAnyH_ready (rs:=[2]) kr (by simp) ?_;refine AllReadyH.cons rfl (fun K' hK=>?_) AllReadyH.nil;go_simp;refine(AD.GK _).mono ?_;rintro e w6 ⟨rfl,hP6,G6⟩;have HP6:=BB hP6;have HG6:=BB G6;refine hK.out _ _ (Ck.part (HB5.out.chg G6 (fun f=>f))) (fun hHeld=>?_);have HB6:=BB (HB5.out.chg G6 (fun f=>f));clear hK K' hP6 G6
 try simp only[Act.put,bu]
 refine wpAnyH_ready (rs:=[3]) kr (by simp) ?_;refine AllReadyH.cons rfl (fun K' hK=>?_) AllReadyH.nil;go_simp;refine(AA.GK _).mono ?_;rintro e w7 ⟨rfl,hQ7,G7⟩;have HQ7:=BB hQ7;have HG7:=BB G7;refine hK.out _ _ (Ck.part (HB6.out.chg G7 (fun f=>f))) (fun hHeld=>?_);have HB7:=BB (HB6.out.chg G7 (fun f=>f));clear hK K' hQ7 G7
 try simp only[Act.put,bu]
 refine wpAnyH_ready (rs:=[8]) kr (by simp) ?_;refine AllReadyH.cons rfl (fun K' hK=>?_) AllReadyH.nil;go_simp;refine(AH.XC w7 none 0 [] 0 rfl (AH.Ow.nil w7 0).sl dc AB.ck0 mN).mono ?_;rintro e w8 ⟨rfl,G8⟩;have HG8:=BB G8;refine hK.out _ _ (Ck.part (HB7.out.chg G8 (fun f=>f))) (fun hHeld=>?_);have HB8:=BB (HB7.out.chg G8 (fun f=>f));clear hK K' G8;rw[mL]
 try simp only[Act.put,bu]
 refine wpAnyH_ready (rs:=[11]) kr (by simp) ?_;refine AllReadyH.cons rfl (fun K' hK=>?_) AllReadyH.nil;go_simp;refine(TL w8 AB.ck0 (b:=false) mM).mono ?_;rintro e w9 ⟨rfl,G9⟩;have HG9:=BB G9;refine hK.out _ _ (Ck.part (HB8.out.chg G9 (fun f=>f))) (fun hHeld=>?_);have HB9:=BB (HB8.out.chg G9 (fun f=>f));clear hK K' G9
 try simp only[Act.put,bu]
 refine Ab (i:=14) rfl kr kr kr (fun _ _ _ h=>h) (AK ⟨rfl,fun _ _=>KM (A:=⟨w9.heap.size,m,g,p,q,b,w5.heap.size,w6.heap.size,w1.heap.size,w2.heap.size⟩) (s:=s) (tl:=tl) rfl rfl rfl rfl rfl rfl rfl rfl rfl⟩) hHeld ?_
 try simp only[Act.put,bu]
 refine wpAnyH_ready (rs:=[15]) kr (by simp) ?_;refine AllReadyH.cons rfl (fun K' hK=>?_) AllReadyH.nil;refine N0 rfl (.tmp 57) rfl rfl ?_;refine hK.out _ _ (Ck.part (HB9.out.alloc _)) (fun hHeld=>?_);clear hK K'
 try simp only[Act.put,bu]
 refine Ab (i:=16) rfl kr kr kr (fun _ _ _ h=>h) (AK ⟨rfl,fun _ _=>rfl⟩) hHeld ?_
 try simp only[Act.put,bu]
 clear hHeld;refine wpAnyH_done kr ?_ _;refine NoPanic.normal ?_;have G510:Chg No w5 (w9.alloc (.cells (corL ⟨w9.heap.size,m,g,p,q,b,w5.heap.size,w6.heap.size,w1.heap.size,w2.heap.size⟩ (K0 s tl)).toArray 124)):=(((HG6.out.trans HG7.out).trans HG8.out).trans HG9.out).alloc _;have hsz5:w3.heap.size<=w5.heap.size/\w.heap.size<=w3.heap.size:=⟨hz35,HGa.out.size⟩;have hsz9:w5.heap.size<=w9.heap.size/\w5.heap.size<=w6.heap.size:=⟨(((HG6.out.trans HG7.out).trans HG8.out).trans HG9.out).size,HG6.out.size⟩;have HK:Hid (CoreAt ⟨w9.heap.size,m,g,p,q,b,w5.heap.size,w6.heap.size,w1.heap.size,w2.heap.size⟩ (w9.alloc (.cells (corL ⟨w9.heap.size,m,g,p,q,b,w5.heap.size,w6.heap.size,w1.heap.size,w2.heap.size⟩ (K0 s tl)).toArray 124)) (K0 s tl)):=by
  obtain⟨lm,lp,lq,lb⟩:=HM5.out.lts;have el:AF.lim 65535 (fun _=>0)=fun _=>0:=by funext i;show min (0:Int) 65535=0;decide
  have el2:AF.lim 255 (fun _=>0)=fun _=>0:=by funext i;show min (0:Int) 255=0;decide
  have hH:=HH3.out;rw[el,el2] at hH;refine⟨bO w9 _ _ rfl rfl,⟨(G510.block m lm (fun f=>f)).trans HM5.out.1,HM5.out.2.other (G510.block b lb (fun f=>f)) (G510.block q lq (fun f=>f)) (G510.block p lp (fun f=>f))⟩,HC.out.chg (HG5.out.trans G510) (fun f=>f),HP6.out.chg (((HG7.out.trans HG8.out).trans HG9.out).alloc _) (fun f=>f),IB.chg HQ7.out ((HG8.out.trans HG9.out).alloc _) (fun f=>f),IB.chg HP3.out ((G35.out.trans G510)) (fun f=>f),IB.chg hH ((G35.out.trans G510)) (fun f=>f),HWF.out⟩
 have HB10:=BB (HB9.out.alloc (.cells (corL ⟨w9.heap.size,m,g,p,q,b,w5.heap.size,w6.heap.size,w1.heap.size,w2.heap.size⟩ (K0 s tl)).toArray 124));have HG10:=BB (HG5.out.trans G510);have HFAR:Hid (Far ⟨w9.heap.size,m,g,p,q,b,w5.heap.size,w6.heap.size,w1.heap.size,w2.heap.size⟩ g w.heap.size):=by
  obtain⟨l1,l2,l3,l4⟩:=HL5.out;have l1':w3.heap.size<=m:=l1;have l2':w3.heap.size<=p:=l2;have l3':w3.heap.size<=q:=l3;have l4':w3.heap.size<=b:=l4;exact⟨rfl,by show w.heap.size<=w9.heap.size;omega,by show w.heap.size<=m;omega,by show w.heap.size<=p;omega,by show w.heap.size<=q;omega,by show w.heap.size<=b;omega,by show w.heap.size<=w5.heap.size;omega,by show w.heap.size<=w6.heap.size;omega,by show w.heap.size<=w1.heap.size;omega,by show w.heap.size<=w2.heap.size;omega⟩
 generalize w9.alloc (.cells (corL ⟨w9.heap.size,m,g,p,q,b,w5.heap.size,w6.heap.size,w1.heap.size,w2.heap.size⟩ (K0 s tl)).toArray 124)=w10 at *
 clear HM5 HP6 HQ7 HG6 HG7 HG8 HG9 HB5 HB6 HB7 HB8 HB9 HG5 HL5 HBD HGD HH3 HG3 HB3 HP3 HGa HB2 HP2 HG2 HNW HC HWF G510 G35;go_wp2_with (refine AB.Bf rfl (.tmp 4) rfl w.heap.size rfl HB10.out ?_);refine(MG _ w10 _ HK.out).mono ?_;rintro e w11 ⟨rfl,K11,G11⟩;have HK11:=BB K11;have HG11:=BB (HG10.out.trans G11);have HB11:=BB (HB10.out.chg G11 (fun f=>f));clear K11 G11 HK HG10 HB10;go_wp2_with (refine AB.Bf rfl (.tmp 4) rfl w.heap.size rfl HB11.out ?_);refine(Ny _ w11 _ HK11.out AB.ck0 (fun _ _=>rfl)).mono ?_;rintro e w12 ⟨rfl,K12,G12⟩;have HK12:=BB K12;have HG12:Hid (Chg (·=g) w w12):=(HG11.out.mono (fun _ _ f=>f.elim)).trans' G12 (fun k hk e=>by
  obtain⟨f0,f1,f2,f3,f4,f5,f6,f7,f8,f9⟩:=HFAR.out
  rcases e with e | e | e | e | e | e | e | e
  ·
   omega
  ·
   omega
  ·
   exact e
  ·
   omega
  ·
   omega
  ·
   omega
  ·
   omega
  ·
   omega)
 clear K12 G12;go_wp2;go_ret2;refine⟨_,HFAR.out,rfl,?_,HG12.out⟩;have:=HK12.out;have e5:({ K0 s tl with F:=sbF (sbS AB.ck0.B (K0 s tl).L) 12 0 (K0 s tl).F }:BC)=K0 s tl:=by
  show ({ K0 s tl with F:=sbF (sbS AB.ck0.B (fun _=>-1)) 12 0 (fun _=>0) }:BC)=K0 s tl;rw[nW];rfl
 rw[e5] at this;exact this
theorem RE(g:Nat)(w:Wd):(binOp .eql 24 (.pointer (some ⟨g,0,none⟩)) (.pointer none)).run prog w=.ok (.bool false) w:=kr
theorem bP(g:Nat)(s:BG)(hs:s.Ok)(tl:List Nat->Int->Pg)(htl:∀L n,ToldR L n (tl L n))(w:Wd)(h:BF w g s) :Calls prog 102 #[.pointer (some ⟨g,0,none⟩),.agg (AB.ckA AB.ck0),.slice none 0 0] w fun e w'=>∃A,Far A g w.heap.size/\e=.returned (.tuple #[.pointer (some ⟨A.c,0,none⟩),.nilIface])/\CoreAt A w' (K0 s tl)/\Chg (·=g) w w':=by
 have HB0:=BB (AB.Ck.new w AB.ck0);have HG0:Hid (Chg No w (w.alloc (.cells (AB.ckA AB.ck0) 142))):=(Chg.refl _ w).alloc _;have hsz:(w.alloc (.cells (AB.ckA AB.ck0) 142)).heap.size=w.heap.size+1:=World.size_alloc _ _;have hbg:=TM g s hs tl htl (w.alloc (.cells (AB.ckA AB.ck0) 142)) (h.chg HG0.out (fun f=>f));have q:=Bn;have q0:∀w,(binOp .neq 33 (errV 0) .nilIface).run prog w=.ok (.bool false) w:=fun w=>q 0 w;have gq:=BL;have HS:=BB hsz;clear h hs htl hsz q;go_enter func102,ntmps102;go_wp2_with (refine AB.Bf rfl (.tmp 4) rfl w.heap.size rfl HB0.out ?_);refine hbg.mono ?_;rintro e w1 ⟨A,hF,rfl,hK,hG⟩;have HK:=BB hK;have HG:=BB ((HG0.out.mono (T:=(·=g)) (fun _ _ f=>f.elim)).trans hG);have HF:Hid (Far A g w.heap.size):=by
  obtain⟨f0,f1,f2,f3,f4,f5,f6,f7,f8,f9⟩:=hF;have:=HS.out;exact⟨f0,om,om,om,om,om,om,om,om,om⟩
 clear hbg hK hG hF;go_wp2;go_ret2;exact⟨A,HF.out,rfl,HK.out,HG.out⟩
end
theorem bQ(w:Wd):Calls prog 135 #[.slice none 0 0] w fun e w'=>e=.returned (.slice none 0 0)/\w'=w:=by
 have q:∀w:World,(binOp .eql 144 (.slice none 0 0) (.slice none 0 0)).run prog w=.ok (.bool true) w:=fun w=>kr
 go_enter func135,ntmps135;go_wp2;go_ret;exact⟨rfl,rfl⟩
theorem N1(B:Nat)(v:Value)(w:Wd)(h:Sg w B v) :Calls prog 101 #[.pointer (some ⟨B,0,none⟩)] w fun e w'=>e=.returned (.tuple #[.agg (AB.ckA AB.ck0),.bool false])/\Chg No w w':=by
 have H1:=BB (AB.Ck.new w AB.ck0);have G1:Hid (Chg No w (w.alloc (.cells (AB.ckA AB.ck0) 142))):=(Chg.refl _ w).alloc _;have c0:=(h.chg G1.out (fun f=>f)).cells.1;clear h;go_enter func101,ntmps101;go_wp2_with (first | refine AB.Cg rfl rfl ?_);generalize w.alloc (.cells (AB.ckA AB.ck0) 142)=w1 at *
 have hcl:=bQ w1;go_wp2_with fail;refine hcl.mono ?_;rintro e w2 ⟨rfl,rfl⟩;clear hcl;go_wp2
 go_loopg [4] 0 (fun kx s4 wr=>s4=.slice none 0 0/\Hid (wr=w2))
 case atStart=>exact⟨rfl,rfl⟩
 case round=>
  obtain⟨rfl,HW⟩:=hrel;obtain rfl:=HW.out;have hcall:=AH.KB wr none 0 24 (-1);go_wp2_with fail;refine hcall.mono ?_;rintro e w3 ⟨rfl,G3⟩;have H3:=BB (H1.out.chg G3 (fun f=>f));have G3':=BB (G1.out.trans G3);clear hcall c0 G3;go_wp2_with (refine AH.Bw rfl rfl _ rfl ?_);intro w4 K4 G4 S4;have HK4:=BB K4;have H4:=BB (H3.out.chg G4 (fun f=>f));have HG4:=BB (G3'.out.trans G4);have HS4:=BB S4;have HLE:=BB G3'.out.size;have HB3:=BB H3.out.lt;clear K4 G4 S4;go_wp2_with (refine AH.wpList_store_fo rfl (.tmp 5) (.tmp 17) rfl _ rfl rfl HK4.out ?_);intro w5 K5 G5;have H5:=BB (H4.out.chg G5 (fun e=>by have:=HB3.out;omega));have HG5:=BB (HG4.out.trans' G5 (fun k hk e=>by have:=HLE.out;omega));clear K5 G5 HK4;go_wp2_with (first | (refine AB.Ej rfl rfl ?_) | (refine AB.Cf rfl (.tmp 2) (.tmp 21) rfl _ rfl rfl H5.out ?_));intro w6 K6 G6;have HG6:=BB (HG5.out.trans' G6 (fun k hk e=>om));go_wp2;refine AZ (AB.PN rfl _ rfl K6) rfl ?_;exact⟨rfl,HG6.out⟩
theorem N4{A:Ad}{g n m:Nat}(h:Far A g n)(hm:m<=n):Far A g m:=by
 obtain⟨a,b,c,d,e,f,i,j,k,l⟩:=h;exact⟨a,om,om,om,om,om,om,om,om,om⟩
theorem QA(B g:Nat)(v:Value)(s:BG)(hs:s.Ok)(tl:List Nat->Int->Pg)(htl:∀L n,ToldR L n (tl L n))(w:Wd)(h:Sg w B v)(hc:BF w g s) :Calls prog 66 #[.pointer (some ⟨B,0,none⟩),.pointer (some ⟨g,0,none⟩)] w fun e w'=>∃A,Far A g w.heap.size/\e=.returned (.tuple #[.pointer (some ⟨A.c,0,none⟩),.nilIface])/\CoreAt A w' (K0 s tl)/\Chg (·=g) w w':=by
 have hcall:=N1 B v w h;have HC:=BB hc;have hb:=AB.build26;clear h hc;go_enter func66,ntmps66;go_wp2_with fail;refine hcall.mono ?_;rintro e w1 ⟨rfl,G1⟩;have HC1:=BB (HC.out.chg G1 (fun f=>f));have HG1:=BB G1;clear hcall G1;have H2:=BB (AB.Ck.new w1 AB.ck0);have G2:Hid (Chg No w1 (w1.alloc (.cells (AB.ckA AB.ck0) 142))):=(Chg.refl _ w1).alloc _;go_wp2_with (first | (refine AB.Cg rfl rfl ?_) | (refine AB.Cf rfl (.tmp 6) (.tmp 11) rfl _ rfl rfl H2.out ?_));intro w3 K3 G3;have HL1:=BB HG1.out.size;have HC3:=BB ((HC1.out.chg G2.out (fun f=>f)).chg G3 (fun e=>by have:=HC1.out.lt;omega));have HG3:=BB ((HG1.out.trans G2.out).trans' G3 (fun k hk e=>by have:=HL1.out;omega));clear K3 G3 H2 G2 HC1;have hnew:=bP g s hs tl htl w3 HC3.out;go_wp2_with (refine AB.Ej rfl rfl ?_);refine hnew.mono ?_;rintro e w4 ⟨A,hF,rfl,hK,G4⟩;have HF:=BB hF;have HK:=BB hK;have HG4:=BB ((HG3.out.mono (T:=(·=g)) (fun _ _ f=>f.elim)).trans G4);have HS:=BB HG3.out.size;clear hnew hF hK G4;go_wp2;go_ret2;exact⟨A,N4 HF.out HS.out,rfl,HK.out,HG4.out⟩
section
variable {b n:Nat}(w:Wd)
theorem bR:Calls prog 143 #[.int .u64 1,.int .u64 12] w fun e w'=>e=.returned (.tuple #[.int .u64 0,.int .u64 12])/\w'=w:=by
 go_enter func143,ntmps143;go_wp2;go_ret2;exact⟨rfl,rfl⟩
theorem km:Calls prog 104 #[.int .u64 1,.int .u64 12] w fun e w'=>e=.returned (.tuple #[.int .u64 0,.int .u64 12])/\w'=w:=by
 have hc:=bR w;go_enter func104,ntmps104;go_wp2_with fail;refine hc.mono ?_;rintro e w1 ⟨rfl,rfl⟩;go_wp2;go_ret2;exact⟨rfl,rfl⟩
theorem bS:(Instr.makeSlice 22 (.int .i64 12) (.int .i64 12)).run prog w=.ok (.slice (some ⟨w.heap.size,0,none⟩) 12 12) (w.alloc (.cells (ints (fun _=>0) 12).toArray 3)):=kr
def E8 (n:Nat):Nat->Int:=fun b=>if b<n then 8 else 0
theorem bT(n k:Nat)(h:n+k<=12):(ints (E8 n) 12).take n ++ List.replicate k (.int .i64 8) ++ (ints (E8 n) 12).drop (n+(List.replicate k (Value.int .i64 8)).length)=ints (E8 (n+k)) 12:=by
 rw[length_replicate];apply ext_getElem?;intro i;have l1:((ints (E8 n) 12).take n).length=n:=by rw[length_take,BD];omega
 by_cases h1:i<n
 ·rw[Aq,Af om,List.getElem?_take,AJ h1,BM _ _ _ om,BM _ _ _ om];unfold E8;rw[AJ h1,AJ om]
 ·by_cases h2:i<n+k
  ·rw[Aq,Aa om,l1,Af (by rw[length_replicate];omega),List.getElem?_replicate,AJ om,BM _ _ _ om];unfold E8;rw[AJ h2];rfl
  ·rw[Aq,Aa om,l1,Aa (by rw[length_replicate];omega),length_replicate,List.getElem?_drop,show n+k+(i - n - k)=i by omega];by_cases h3:i<12
   ·rw[BM _ _ _ h3,BM _ _ _ h3];unfold E8;rw[AI h1,AI h2]
   ·rw[Ae (by rw[BD];omega),Ae (by rw[BD];omega)]
theorem N5(ty:TypeId)(b n k g dl dc sl sc:Nat)(hI:IB w b 3 12 (E8 n))(hk:Nat.min sl dl=k)(hn:n+k<=12)(hsrc:∀j,j<k->w.cell? ⟨g,j,none⟩=some (.int .i64 8)) :(Builtin.copy_ #[22,22] ty #[.slice (some ⟨b,n,none⟩) dl dc,.slice (some ⟨g,0,none⟩) sl sc]).run prog w=.ok (goInt k) (w.setRow b (ints (E8 (n+k)) 12).toArray):=by
 have hlen:(List.replicate k (Value.int .i64 8)).length=k:=length_replicate;have hrun:=run_copy_row (P:=prog) w 22 22 ty 3 b n dl dc ⟨g,0,none⟩ sl sc (ints (E8 n) 12).toArray 3 (List.replicate k (.int .i64 8)) underlying22 AE.size3 hI (by rw[hlen,hk]) (fun j v hv=>by
  have hj:j<k:=by have:=(List.getElem?_eq_some_iff.1 hv).1;rwa [hlen] at this
  rw[List.getElem?_replicate,AJ hj] at hv
  injection hv with hv
  subst hv
  rw[Addr.add_mid,AW]
  exact hsrc j hj) (by rw[hlen,size_toArray,BD];omega) (fun v hv=>by rw[(mem_replicate.1 hv).2];rfl)
 rw[show (ints (E8 n) 12).toArray.toList=ints (E8 n) 12 from rfl,bT n k hn,hlen] at hrun;exact hrun
theorem QC{w:Wd}{m:Nat}(hI:IB w b 3 12 (E8 n)):IB (w.setRow b (ints (E8 m) 12).toArray) b 3 12 (E8 m)/\Chg (·=b) w (w.setRow b (ints (E8 m) 12).toArray):=
 ⟨setRow_heap w b _ _ 3 _ hI,DF _ _ _⟩
theorem E8.cell{w:Wd}(hI:IB w b 3 12 (E8 n)){j:Nat}(hj:j<n)(hn:n<=12):w.cell? ⟨b,j,none⟩=some (.int .i64 8):=by
 rw[(hI.cell j om).1];unfold E8;rw[AJ hj]
theorem X5(g:Nat)(w:Wd)(hc:w.cell? ⟨g,0,none⟩=some (.int .i64 8))(hg:g<w.heap.size) :Calls prog 68 #[.slice (some ⟨g,0,none⟩) 1 1,.int .i64 12] w fun e w'=>∃d,e=.returned (.slice (some ⟨d,0,none⟩) 12 12)/\w.heap.size<=d/\IB w' d 3 12 (E8 12)/\Chg No w w':=by
 have hm:=bS w;have HG:=BB hg;have HC:=BB hc;have hmul:=km w;clear hc hg;go_enter func68,ntmps68;go_wp2_with fail;refine hmul.mono ?_;rintro e w1 ⟨rfl,rfl⟩;clear hmul;have hI0:IB (w1.alloc (.cells (ints (fun _=>0) 12).toArray 3)) w1.heap.size 3 12 (E8 0):=by
  show (w1.heap.push _)[w1.heap.size]?=_;simp;rfl
 have G0:Chg No w1 (w1.alloc (.cells (ints (fun _=>0) 12).toArray 3)):=(Chg.refl _ w1).alloc _;have hcp:=N5 _ 3 w1.heap.size 0 1 g 12 12 1 1 hI0 rfl om (fun j hj=>by
  obtain rfl:j=0:=om
  exact(G0.cell HG.out (fun f=>f) 0).trans HC.out)
 obtain⟨K1,G1⟩:=QC (m:=1) hI0;have HK:=BB K1;have HG1:=BB (G0.trans' G1 (fun k hk e=>om));obtain⟨N,hN⟩:∃N,w1.heap.size=N:=⟨_,rfl⟩;have HN:=BB hN;clear K1 G1 G0 HC HG;rw[hN] at hm hcp HK HG1;go_wp2;generalize ((w1.alloc (.cells (ints (fun _=>0) 12).toArray 3)).setRow N (ints (E8 (0+1)) 12).toArray)=w2 at *
 go_loopg [8] 12 (fun kx s8 wr=>∃n:Nat,s8=.int .i64 n/\(n=1\/n=2\/n=4\/n=8\/n=12)/\12 - n<=kx/\Hid (IB wr N 3 12 (E8 n))/\Hid (Chg No w1 wr))
 case atStart=>exact⟨1,rfl,AK rfl,om,HK.out,HG1.out⟩
 case round=>
  clear HK HG1 hcp hm;obtain⟨n,rfl,hn,hkx,HI,HG⟩:=hrel;have HID:Hid (IB wr.drew N 3 12 (E8 n)):=HI.out;have hcp:=fun k (h:Nat.min n (12 - n)=k) (h2:n+k<=12)=>N5 wr.drew 3 N n k N (12 - n) (12 - n) n 12 HID.out h h2 (fun j hj=>E8.cell HID.out (by have:k<=n:=h ▸ Nat.min_le_left _ _;omega) om);have HGD:∀m,Hid (IB (wr.drew.setRow N (ints (E8 m) 12).toArray) N 3 12 (E8 m))/\Hid (Chg No w1 (wr.drew.setRow N (ints (E8 m) 12).toArray)):=fun m=>
   ⟨(QC (m:=m) HID.out).1,(HG.out.drew).trans' (QC (m:=m) HID.out).2 (fun k hk e=>by have:=HN.out;omega)⟩
  have HGD:=BB HGD;rcases hn with rfl | rfl | rfl | rfl | rfl
  ·have hcp:=hcp 1 rfl om;go_wp2;go_region;go_wp2
   go_roundg 10
   case measure=>omega
   case rel=>exact⟨2,rfl,om,AM _,(HGD.out 2).1.out,(HGD.out 2).2.out⟩
  ·have hcp:=hcp 2 rfl om;go_wp2;go_region;go_wp2
   go_roundg 8
   case measure=>omega
   case rel=>exact⟨4,rfl,om,AM _,(HGD.out 4).1.out,(HGD.out 4).2.out⟩
  ·have hcp:=hcp 4 rfl om;go_wp2;go_region;go_wp2
   go_roundg 4
   case measure=>omega
   case rel=>exact⟨8,rfl,om,AM _,(HGD.out 8).1.out,(HGD.out 8).2.out⟩
  ·have hcp:=hcp 4 rfl om;go_wp2;go_region;go_wp2
   go_roundg 0
   case measure=>omega
   case rel=>exact⟨12,rfl,om,AM _,(HGD.out 12).1.out,(HGD.out 12).2.out⟩
  ·clear hcp;go_wp2;go_ret;exact⟨N,rfl,by rw[<-HN.out];exact AM _,HI.out,HG.out⟩
end
theorem mP(w:Wd):(w.alloc (.cells #[.int .i64 8] 3)).cell? ⟨w.heap.size,0,none⟩=some (.int .i64 8):=by
 have h:(w.alloc (.cells #[.int .i64 8] 3)).heap[w.heap.size]?=some (.cells #[.int .i64 8] 3):=by
  show (w.heap.push _)[w.heap.size]?=_;simp
 simp only[World.cell?,h];rfl
theorem N6(g:Nat)(s:BG)(hB:CL s)(tl:List Nat->Int->Pg)(htl:∀L n,ToldR L n (tl L n))(w:Wd)(h:BF w g s) :Calls prog 43 #[.pointer (some ⟨g,0,none⟩)] w fun e w'=>∃A K G,Far A g w.heap.size/\e=.returned (.tuple #[.pointer (some ⟨A.c,0,none⟩),.nilIface])/\CoreAt A w' K/\(OI K G/\IU 1 K G)/\(K.tl=tl/\K.hS=(fun _=>0)/\K.cu=0)/\Chg (·=g) w w':=by
 have hcall:=P7 g s hB w h;have HL:=BB h.lt;have q0:=BJ;clear h hB;go_enter func43,ntmps43;go_wp2_with fail;refine hcall.mono ?_;rintro e w1 ⟨s1,mp,rfl,B1,-,C1,G1⟩;have HB1:=BB B1;have HC1:=BB C1;have HG1:=BB G1;clear hcall B1 C1 G1;go_wp2_with (first | (refine DR rfl rfl w1.heap.size rfl ?_));intro w2 K2 G2 S2;have HK2:=BB K2;have HC2:=BB (HC1.out.chg G2 (fun f=>f));have HG2:=BB (HG1.out.trans' G2 (fun _ _ f=>f.elim));have HS1:=BB HG1.out.size;have HL1:=BB HC1.out.lt;clear K2 G2 S2 HC1 HG1;go_wp2_with (refine DQ rfl (.tmp 4) (.tmp 12) rfl _ rfl rfl HK2.out ?_);intro w3 K3 G3;have HK3:=BB K3;have HC3:=BB (HC2.out.chg G3 (fun e=>by have:=HL1.out;omega));have HG3:=BB (HG2.out.trans' G3 (fun k hk e=>by have:=HS1.out;omega));have HLK:=BB HG3.out.size;clear K3 G3 HK2 HC2 HG2;have hcore:=QA w1.heap.size g _ s1 HB1.out.ok tl htl w3 HK3.out HC3.out;go_wp2_with fail;refine hcore.mono ?_;rintro e w4 ⟨A,hF,rfl,hK,G4⟩;have HF:=BB (N4 hF HLK.out);have HK:=BB hK;have HG4:=BB (HG3.out.trans G4);clear hcore hF hK G4 HK3 HC3 HG3;have HLOW:Hid (∀k,Cor A k->k<w4.heap.size):=fun k hk=>HK.out.low k (AK hk);have G5:Chg No w4 (w4.alloc (.cells #[.int .i64 8] 3)):=(Chg.refl _ w4).alloc _;have c5:(w4.alloc (.cells #[.int .i64 8] 3)).cell? ⟨w4.heap.size,0,none⟩=some (.int .i64 8):=mP w4;have hrep:=X5 w4.heap.size _ c5 (by rw[World.size_alloc];omega);have HZ5:Hid ((w4.alloc (.cells #[.int .i64 8] 3)).heap.size=w4.heap.size+1):=World.size_alloc _ _;have HG5:=BB G5;clear G5 c5;go_wp2_with fail;refine hrep.mono ?_;rintro e w6 ⟨d,rfl,hd,hI,G6⟩;have HI:=BB hI;have HG6:=BB (HG5.out.trans G6);have HD:Hid (w4.heap.size+1<=d):=by have:=HZ5.out;show _<=_;omega
 clear hrep hd hI G6 HG5 HZ5;have HK6:=BB (HK.out.chg0 HG6.out);have hseen:=fU A w6 _ HK6.out d 0 12 (E8 12) HI.out.lt (fun i hi=>by rw[AW];exact(HI.out.cell i hi).1) (fun e=>by have:=HLOW.out _ e;have:=HD.out;omega);rw[show V6 (E8 12) 12 (K0 s1 tl).hR=R8 12 from kQ _ (fun i hi=>by unfold E8;rw[AJ hi])] at hseen;clear HK HI;go_wp2_with fail;refine hseen.mono ?_;rintro e w7 ⟨rfl,hK7,G7⟩;have HK7:=BB hK7;have HG7:=BB G7;clear hseen hK7 G7 HK6;obtain⟨K,G,eK,hBg,etl⟩:=Xy htl HB1.out 1;have hcl:=aD A w7 _ HK7.out _ _ eK;go_wp2_with fail;refine hcl.mono ?_;rintro e w8 ⟨rfl,hK8,G8⟩;have HK8:=BB hK8;have HBG:=BB hBg;have HE:=BB etl;have HG8:=BB G8;clear hcl hK8 hBg etl G8 HK7;rw[show errV 0=.nilIface from rfl];go_wp2;go_ret2;refine⟨A,K,G,HF.out,rfl,HK8.out,HBG.out,HE.out,?_⟩;have nf:∀k,k<w.heap.size->Cor A k->k=g:=fun k hk e=>by
  obtain⟨a,b,c,d,e',f,i,j,l,n⟩:=HF.out;rcases e with e | e | e | e | e | e | e | e <;> omega
 exact((HG4.out.trans' HG6.out (fun _ _ f=>f.elim)).trans' HG7.out nf).trans' HG8.out nf
section
variable {w w':Wd}{D g:Nat}{x:Option Addr}
def Dv (w:Wd) (D g:Nat) (x:Option Addr):Prop:=w.heap[D]?=some (.cells #[.pointer (some ⟨g,0,none⟩),.pointer x] 76)
theorem Dv.new(w:Wd)(g:Nat)(x:Option Addr):Dv (w.alloc (.cells #[.pointer (some ⟨g,0,none⟩),.pointer x] 76)) w.heap.size g x:=by
 show (w.heap.push _)[w.heap.size]?=_;simp
theorem Dv.lt(h:Dv w D g x):D<w.heap.size:=(Array.getElem?_eq_some_iff.1 (show w.heap[D]?=some _ from h)).1
theorem Dv.chg{S:Nat->Prop}(h:Dv w D g x)(hc:Chg S w w')(hb:¬ S D):Dv w' D g x:=(hc.block D h.lt hb).trans h
theorem Dv.cells(h:Dv w D g x):w.cell? ⟨D,0,none⟩=some (.pointer (some ⟨g,0,none⟩))/\w.cell? ⟨D,1,none⟩=some (.pointer x)/\w.frozen? ⟨D,1,none⟩=false:=by
 have h':w.heap[D]?=some _:=h;refine⟨?_,?_,?_⟩
 ·simp only[World.cell?,h'];rfl
 ·simp only[World.cell?,h'];rfl
 ·simp only[World.frozen?,h'];rfl
theorem Dv.set(h:Dv w D g x)(y:Option Addr):Dv (w.setCell ⟨D,1,none⟩ (.pointer y)) D g y:=heap_setCell_same w D 1 _ 76 _ h
theorem X6(v:Value):Chg (·=D) w (w.setCell ⟨D,1,none⟩ v):=(Chg.refl (·=D) w).setCell (AK rfl) _ _
theorem CoreAt.but{A:Ad}{K:BC}(h:CoreAt A w K)(n:∀x,Cor A x\/x=A.p\/x=A.q->¬ x=g)(hc:Chg (·=g) w w'):CoreAt A w' K:=by
 obtain⟨f1,f2,f3,f4,f5,f6,f7⟩:=h.frame hc;exact⟨f1 (n _ (AK (AK rfl))),f2 (n _ (AK (AL (AK rfl)))) (n _ (AL (AK rfl))) (n _ (AL (AL rfl))) (n _ (AK (AL (AL (AL (AK rfl)))))),f3 (n _ (AK (AL (AL (AK rfl))))),f4 (n _ (AK (AL (AL (AL (AL (AK rfl))))))),f5 (n _ (AK (AL (AL (AL (AL (AL (AK rfl)))))))),f6 (n _ (AK (AL (AL (AL (AL (AL (AL (AK rfl))))))))),f7 (n _ (AK (AL (AL (AL (AL (AL (AL (AL rfl))))))))),h.wf⟩
theorem bU(w:Wd)(g:Nat):(Instr.build 76 #[(0,.pointer (some ⟨g,0,none⟩))]).run prog w=.ok (.agg #[.pointer (some ⟨g,0,none⟩),.pointer none]) w:=kr
theorem N7(g:Nat)(w:Wd):Calls prog 21 #[.pointer (some ⟨g,0,none⟩)] w fun e w'=>e=.returned (.tuple #[.pointer (some ⟨w.heap.size,0,none⟩),.nilIface])/\Dv w' w.heap.size g none/\Chg No w w':=by
 have hb:=bU w g;have H:=BB (Dv.new w g none);have G:=BB ((Chg.refl No w).alloc (.cells #[.pointer (some ⟨g,0,none⟩),.pointer none] 76));go_enter func21,ntmps21;go_wp2;go_ret2;exact⟨rfl,H.out,G.out⟩
theorem Gy(D g:Nat)(s:BG)(hB:CL s)(tl:List Nat->Int->Pg)(htl:∀L n,ToldR L n (tl L n))(w:Wd)(hc:BF w g s)(h:Dv w D g none)(hne:D≠g) :Calls prog 24 #[.pointer (some ⟨D,0,none⟩)] w fun e w'=>∃A K G,Far A g w.heap.size/\e=.returned .nilIface/\Dv w' D g (some ⟨A.c,0,none⟩)/\CoreAt A w' K/\(OI K G/\IU 1 K G)/\(K.tl=tl/\K.hS=(fun _=>0)/\K.cu=0)/\Chg (fun k=>k=g\/k=D) w w':=by
 obtain⟨c0,c1,-⟩:=h.cells;have HD:=BB h;have hcall:=N6 g s hB tl htl w hc;have HN:=BB hne;have q0:=BJ;clear h hc hB;go_enter func24,ntmps24;go_wp2_with fail;refine hcall.mono ?_;rintro e w1 ⟨A,K,G,hF,rfl,hK,hBg,etl,G1⟩;have HF:=BB hF;have HK:=BB hK;have HBG:=BB hBg;have HE:=BB etl;have HG1:=BB G1;have HD1:=BB (HD.out.chg G1 HN.out);obtain⟨d0,d1,f1⟩:=HD1.out.cells;clear hcall c0 c1 hF hK hBg etl G1;go_wp2;go_ret;have hL:=HD.out.lt;have nD:∀x,Cor A x\/x=A.p\/x=A.q->¬ x=D:=fun x e h=>by
  obtain⟨a,b,c,d,e',f,i,j,l,n⟩:=HF.out;have:=HN.out;rcases e with (e | e | e | e | e | e | e | e) | e | e <;> omega
 refine⟨A,K,G,HF.out,rfl,HD1.out.set _,?_,HBG.out,HE.out,?_⟩
 ·exact HK.out.but nD (X6 _)
 ·exact(HG1.out.mono (fun _ _ e=>AK e)).trans' (X6 _) (fun k hk e=>AL e)
theorem H9(D g c o:Nat)(w:Wd)(h:Dv w D g (some ⟨c,0,none⟩))(hb:o<24):Calls prog 31 #[.pointer (some ⟨D,0,none⟩),.int .i64 (o:Nat),.int .i64 160] w fun e w'=>e=.returned .nilIface/\w'=w:=by
 obtain⟨c0,c1,-⟩:=h.cells;have h1:¬ (o:Int)<0:=om
 have h2:¬ 24<=(o:Int):=om
 clear h;go_enter func31,ntmps31;go_wp2;go_ret;exact⟨rfl,rfl⟩
end
section
variable {w w':Wd}{D:Nat}{A:Ad}{K:BC}
structure Dmt (w:Wd) (D:Nat) (A:Ad) (K:BC):Prop where
 dv:Dv w D A.g (some ⟨A.c,0,none⟩)
 core:CoreAt A w K
 nd:¬ Cor A D
theorem Dmt.chg0(h:Dmt w D A K)(hc:Chg No w w'):Dmt w' D A K:=⟨h.dv.chg hc (fun f=>f),h.core.chg0 hc,h.nd⟩
theorem Dmt.cor{K':BC}(h:Dmt w D A K)(hk:CoreAt A w' K')(hc:Chg (Cor A) w w'):Dmt w' D A K':=⟨h.dv.chg hc h.nd,hk,h.nd⟩
theorem MH(D:Nat)(A:Ad)(K:BC)(w:Wd)(h:Dmt w D A K)(c:Nat)(hc:c≠7)(hca:K.ca<9223372036854775807)(n m:Nat)(Z:BC × Nat)(hZ:tdK n m K=some Z)(h7:Z.2≠7) :Calls prog 32 #[.pointer (some ⟨D,0,none⟩),errV c] w fun e w'=>e=.returned (errV c)/\Dmt w' D A Z.1/\Chg (Cor A) w w':=by
 obtain⟨c0,c1,-⟩:=h.dv.cells;have hi:=Ib c 7 dc w;rw[show decide (c=7)=false by simp[hc]] at hi;have ht:=fW A w K h.core hca n m Z hZ;have hi2:=fun u:World=>Ib Z.2 7 dc u;rw[show decide (Z.2=7)=false by simp[h7]] at hi2;have H:=BB h;clear h;go_enter func32,ntmps32;go_wp2_with fail;refine hi.mono ?_;rintro e w1 ⟨rfl,rfl⟩;go_wp2_with fail;refine ht.mono ?_;rintro e w2 ⟨rfl,hK,hG⟩;have HM:=BB (H.out.cor hK hG);have HG:=BB hG;clear ht hi hK hG c0 c1;go_wp2_with fail;refine(hi2 w2).mono ?_;rintro e w3 ⟨rfl,rfl⟩;go_wp2;go_ret;exact⟨rfl,HM.out,HG.out⟩
theorem MI(D:Nat)(A:Ad)(K:BC)(w:Wd)(h:Dmt w D A K)(o:Nat)(ho:o<24)(K':BC)(B:List Nat)(hg:geK K o=(K',B,0))(hca:K'.ca<9223372036854775807)(n m:Nat)(Z:BC × Nat)(hZ:tdK n m K'=some Z)(h7:Z.2≠7) :Calls prog 16 #[.pointer (some ⟨D,0,none⟩),.int .i64 (o:Nat)] w fun e w'=>∃v,e=.returned (.tuple #[v,.nilIface])/\Own w' w.heap.size 5 v B/\Dmt w' D A Z.1/\Chg (Cor A) w w':=by
 obtain⟨c0,c1,-⟩:=h.dv.cells;have hr:=H9 D A.g A.c o w h.dv ho;have hget:=kN A w K h.core o ho;rw[hg] at hget;have htd:=fun (u:Wd) (hu:Dmt u D A K')=>MH D A K' u hu 0 dc hca n m Z hZ h7;rw[show errV 0=.nilIface from rfl] at htd;have H:=BB h;have HL:=BB h.core.low;have q0:=BJ;clear h hg;go_enter func16,ntmps16;go_wp2_with fail;refine hr.mono ?_;rintro e w1 ⟨rfl,rfl⟩;go_wp2_with fail;refine hget.mono ?_;rintro e w2 ⟨v,rfl,hO,hK,hG⟩;have HM:=BB (H.out.cor hK hG);have HG:=BB hG;have HO:=BB hO;clear hr hget hO hK hG c0 c1;dsimp only;rw[show errV 0=.nilIface from rfl];go_wp2_with fail;refine(htd w2 HM.out).mono ?_;rintro e w3 ⟨rfl,hM,hG3⟩;have HM3:=BB hM;have HG3:=BB (HG.out.trans hG3);have HO3:Hid (Own w3 w1.heap.size 5 v B):=HO.out.chg hG3 (fun k hk he e=>by have:=HL.out k (AK e);have:=(HO.out.block he).1;omega);clear htd hM hG3;go_wp2;go_ret2;exact⟨v,rfl,HO3.out,HM3.out,HG3.out⟩
theorem N8(D:Nat)(A:Ad)(K:BC)(w:Wd)(h:Dmt w D A K)(o:Nat)(ho:o<24)(d off cap:Nat)(L:List Nat)(hL:L.length=160)(bL:Bys L)(hd:At w d off L)(nd:¬ Cor A d)(k:Nat)(Y:BC × Nat)(hY:anR k (fun _ _=>L ++ List.replicate 14 0) K o=some Y)(hy:Y.2≠7)(hca:Y.1.ca<9223372036854775807)(n m:Nat)(Z:BC × Nat)(hZ:tdK n m Y.1=some Z)(h7:Z.2≠7) :Calls prog 12 #[.pointer (some ⟨D,0,none⟩),.int .i64 (o:Nat),.slice (some ⟨d,off,none⟩) 160 cap] w fun e w'=>e=.returned (errV Y.2)/\Dmt w' D A Z.1/\Chg (Cor A) w w':=by
 obtain⟨c0,c1,-⟩:=h.dv.cells;have hr:=H9 D A.g A.c o w h.dv ho;have hput:=kL A w K h.core o ho d off cap L hL bL hd nd k Y hY;have htd:=fun (u:Wd) (hu:Dmt u D A Y.1)=>MH D A Y.1 u hu Y.2 hy hca n m Z hZ h7;have H:=BB h;have q0:=BJ;clear h hY hd;go_enter func12,ntmps12;go_wp2_with fail;refine hr.mono ?_;rintro e w1 ⟨rfl,rfl⟩;go_wp2_with fail;refine hput.mono ?_;rintro e w2 ⟨rfl,hK,hG⟩;have HM:=BB (H.out.cor hK hG);have HG:=BB hG;clear hr hput hK hG c0 c1;go_wp2_with fail;refine(htd w2 HM.out).mono ?_;rintro e w3 ⟨rfl,hM,hG3⟩;have HM3:=BB hM;have HG3:=BB (HG.out.trans hG3);clear htd hM hG3;go_wp2;go_ret;exact⟨rfl,HM3.out,HG3.out⟩
theorem bV(D:Nat)(A:Ad)(K:BC)(w:Wd)(h:Dmt w D A K)(o:Nat)(ho:o<24)(k:Nat)(Y:BC × Nat)(hY:tmK k K o=some Y)(hy:Y.2≠7)(hca:Y.1.ca<9223372036854775807)(n m:Nat)(Z:BC × Nat)(hZ:tdK n m Y.1=some Z)(h7:Z.2≠7) :Calls prog 22 #[.pointer (some ⟨D,0,none⟩),.int .i64 (o:Nat)] w fun e w'=>e=.returned (errV Y.2)/\Dmt w' D A Z.1/\Chg (Cor A) w w':=by
 obtain⟨c0,c1,-⟩:=h.dv.cells;have hr:=H9 D A.g A.c o w h.dv ho;have hput:=fS A w K h.core o ho k Y hY;have htd:=fun (u:Wd) (hu:Dmt u D A Y.1)=>MH D A Y.1 u hu Y.2 hy hca n m Z hZ h7;have H:=BB h;have q0:=BJ;clear h hY;go_enter func22,ntmps22;go_wp2_with fail;refine hr.mono ?_;rintro e w1 ⟨rfl,rfl⟩;go_wp2_with fail;refine hput.mono ?_;rintro e w2 ⟨rfl,hK,hG⟩;have HM:=BB (H.out.cor hK hG);have HG:=BB hG;clear hr hput hK hG c0 c1;go_wp2_with fail;refine(htd w2 HM.out).mono ?_;rintro e w3 ⟨rfl,hM,hG3⟩;have HM3:=BB hM;have HG3:=BB (HG.out.trans hG3);clear htd hM hG3;go_wp2;go_ret;exact⟨rfl,HM3.out,HG3.out⟩
theorem N9{fn:Func}{q u:Tmp}(h:fn.results=#[.cell q 40,.tmp u])(tmps:Array Value){g:Nat}{F:Nat->Int}(hp:tmps.getD q undef=.pointer (some ⟨g,0,none⟩))(hT:IB w g 40 67 F) :(results fn tmps).run prog w=.ok (.tuple #[.agg (ints F 67).toArray,tmps.getD u undef]) w:=by
 rw[results_cell_tmp h,hp];simp[asAddr,run_loadVar_row w g 40 40 _ _ _ hT underlying40 rfl (ac F)]
theorem RF(D:Nat)(A:Ad)(K:BC)(w:Wd)(h:Dmt w D A K):Calls prog 14 #[.pointer (some ⟨D,0,none⟩)] w fun e w'=>e=.returned (.tuple #[.agg (ints (Pl K) 67).toArray,.nilIface])/\Chg No w w':=by
 have H:=BB h;have GN:Hid (Chg No w (w.alloc (.cells (ints (fun _=>0) 67).toArray 40))):=(Chg.refl _ w).alloc _;have HI:Hid (IB (w.alloc (.cells (ints (fun _=>0) 67).toArray 40)) w.heap.size 40 67 (fun _=>0)):=BB (by
  show (w.heap.push _)[w.heap.size]?=_
  simp)
 have H1:=BB (H.out.chg0 GN.out);obtain⟨c0,c1,-⟩:=H1.out.dv.cells;have hv:=gk A _ K H1.out.core;clear h;go_enter func14,ntmps14;go_wp2_with (first | refine Ch rfl rfl ?_);generalize w.alloc (.cells (ints (fun _=>0) 67).toArray 40)=w1 at *
 go_wp2_with fail;refine hv.mono ?_;rintro e w2 ⟨rfl,hK,hG⟩;have HG:=BB (GN.out.trans hG);have HI2:=BB (IB.chg HI.out hG (fun f=>f));clear hv hK hG c0 c1;have HS:=BB GN.out.size;go_wp2_with (refine Ci rfl (.tmp 2) (.tmp 15) rfl _ rfl rfl HI2.out ?_);intro w3 K3 G3;have HG3:=BB (HG.out.trans' G3 (fun k hk e=>om));go_wp2;refine AZ (N9 rfl _ rfl K3) rfl ?_;exact⟨rfl,HG3.out⟩
end
theorem X7{K:BC}{G:BV}(hb:OI K G)(h:IU 1 K G){D:List Nat}(hD:D.length=174)(bD:Bys D) :∃K1 K2 K3 K4 K5 K6 K7 K8,anR 6 (fun _ _=>D) K 3=some (K1,0)/\tdK 6 13 K1=some (K2,0)/\geK K2 3=(K3,D.take 160,0)/\tdK 6 13 K3=some (K4,0)/\tmK 6 K4 3=some (K5,0)/\tdK 6 13 K5=some (K6,0)/\geK K6 3=(K7,List.replicate 160 0,0)/\tdK 6 13 K7=some (K8,0)/\K1.ca=0/\K3.ca=1/\K5.ca=0/\K7.ca=1:=by
 obtain⟨K1,T1,e1,h1,c1,l1,f1,F1,n1⟩:=h.put (o:=3) dc hD bD (by rw[hb.fr];decide) (by rw[hb.nx];decide) (by rw[hb.L,Be];decide) dc 5;rw[hb.ca] at c1;rw[hb.fr] at f1 l1;rw[hb.nx] at n1;obtain⟨K2,e2,h2,c2,l2,f2,F2,n2⟩:=h1.tend dc om 6 12;obtain⟨K3,e3,h3,v3⟩:=h2.get dc (o:=3) dc;obtain⟨K4,e4,h4,c4,l4,f4,F4,n4⟩:=h3.tend dc (by rw[v3.ca,c2,c1];decide) 6 12;obtain⟨K5,G5,e5,h5,g5,c5,f5,F5,n5⟩:=h4.trim (o:=3) dc (by rw[l4,v3.L,l2,l1,Be];decide) (by rw[f4,v3.fr,f2,f1];decide) (by rw[n4,v3.nx,n2,n1];decide) dc 5;obtain⟨K6,e6,h6,c6,l6,f6,F6,n6⟩:=h5.tend dc om 6 12;obtain⟨K7,e7,h7,v7⟩:=h6.get dc (o:=3) dc;obtain⟨K8,e8,h8,c8,l8,f8,F8,n8⟩:=h7.tend dc (by rw[v7.ca,c6,c5];decide) 6 12;refine⟨K1,K2,K3,K4,K5,K6,K7,K8,e1,e2,?_,e4,e5,e6,?_,e8,c1,by rw[v3.ca,c2,c1],c5,by rw[v7.ca,c6,c5]⟩
 ·rw[e3];show (K3,(Dn G.a 3 D 3).take 160,0)=_;unfold Dn;rw[AJ rfl]
 ·rw[e7,g5];unfold Dn;rw[AJ rfl];rfl
section
variable (w:Wd)
theorem cY:∃tl:List Nat->Int->Pg,∀L n,ToldR L n (tl L n):=Classical.axiomOfChoice fun L=>Classical.axiomOfChoice fun n=>aA L n
theorem Fi(g:Nat)(w:Wd):(binOp .eql 25 (.pointer (some ⟨g,0,none⟩)) (.pointer none)).run prog w=.ok (.bool false) w:=kr
theorem i7:(binOp .eql 33 .nilIface .nilIface).run prog w=.ok (.bool true) w:=kr
theorem bW:Calls prog 10 #[] w fun e w'=>∃D A K G,e=.returned (.tuple #[.pointer (some ⟨A.g,0,none⟩),.pointer (some ⟨D,0,none⟩)])/\(∀k,Cor A k->w.heap.size<=k)/\w.heap.size<=D/\Dmt w' D A K/\(OI K G/\IU 1 K G)/\Chg No w w':=by
 obtain⟨tl,htl⟩:=cY;have HTL:=BB htl;have qn:=BJ;have p1:=RE;have p2:=Fi;clear htl;go_enter func10,ntmps10;go_wp2_with fail;refine(My w).mono ?_;rintro e w1 ⟨rfl,hC1,G1⟩;have HL1:=BB hC1.lt;have HC1:=BB hC1;have HG1:=BB G1;clear hC1 G1;go_wp2_with fail;refine(N7 w.heap.size w1).mono ?_;rintro e w2 ⟨rfl,hD2,G2⟩;have HC2:=BB (HC1.out.chg G2 (fun f=>f));have HG2:=BB (HG1.out.trans G2);have hmt:=Gy w1.heap.size w.heap.size Fz CL.new tl HTL.out w2 HC2.out hD2 (by have:=HL1.out;omega);have HLD:=BB hD2.lt;clear hD2 G2;go_wp2_with fail;refine hmt.mono ?_;rintro e w3 ⟨A,K,G,hF,rfl,hD3,hK,hB,-,G3⟩;have HF:=BB hF;have eg:A.g=w.heap.size:=hF.1;have HD3:=BB hD3;have HK:=BB hK;have HB:=BB hB;have HG3:=BB (HG2.out.trans' G3 (fun k hk e=>by have:=HG1.out.size;omega));clear hmt hF hD3 hK hB G3;go_wp2;go_ret2;have hs1:=HG1.out.size;have hl1:=HL1.out;have hld:=HLD.out;have nlt:=HG2.out.size;refine⟨w1.heap.size,A,K,G,by rw[eg];rfl,fun k e=>?_,hs1,⟨by rw[eg];exact HD3.out,HK.out,fun e=>?_⟩,HB.out,HG3.out⟩
 ·obtain⟨a,b,c,d,e',f,i,j,l,n⟩:=HF.out;rcases e with e | e | e | e | e | e | e | e <;> omega
 ·obtain⟨a,b,c,d,e',f,i,j,l,n⟩:=HF.out;rcases e with e | e | e | e | e | e | e | e <;> omega
theorem z7:(0:Nat)≠7:=dc
theorem ko(x:Int):(En x ++ List.replicate 14 0).length=174:=by rw[AV,BY,length_replicate]
theorem i8(x:Int):Bys (En x ++ List.replicate 14 0):=fun m hm=>by
 rcases mem_append.1 hm with h | h
 ·
  exact DH x m h
 ·
  rw[(mem_replicate.1 h).2];decide
theorem i9(x:Int):(En x ++ List.replicate 14 0).take 160=En x:=by
 rw[take_append_of_le_length (by rw[BY];exact AM _),As (by rw[BY];exact AM _)]
theorem mQ:Calls prog 9 #[] w fun e w'=>e=.returned (.bool true)/\Chg No w w':=by
 have p2:=Fi;have q:=i7;go_enter func9,ntmps9;go_wp2_with fail;refine(bW w).mono ?_;rintro e w1 ⟨D,A,K,G,rfl,hA,hD,hM,⟨hB,hL⟩,G1⟩;obtain⟨K1,K2,K3,K4,K5,K6,K7,K8,u1,u2,u3,u4,u5,u6,u7,u8,c1,c3,c5,c7⟩:=X7 hB hL (ko 9) (i8 9);rw[i9] at u3;have HA:=BB hA;have HM1:=BB hM;have HG1:=BB G1;have U1:=BB u1;have U2:=BB u2;have U3:=BB u3;have U4:=BB u4;have U5:=BB u5;have U6:=BB u6;have U7:=BB u7;have U8:=BB u8;have C1:=BB c1;have C3:=BB c3;have C5:=BB c5;have C7:=BB c7;clear hA hD hM hB hL G1 u1 u2 u3 u4 u5 u6 u7 u8 c1 c3 c5 c7;go_wp2_with fail;refine(Gx 9 w1).mono ?_;rintro e w2 ⟨rfl,hA2,G2⟩;have hwr:=N8 D A K w2 (HM1.out.chg0 G2) 3 dc w1.heap.size 0 160 (En 9) (BY 9) (DH 9) hA2.at_ (HM1.out.core.apart (AM _)) 6 (K1,0) U1.out z7 (by show K1.ca<_;rw[C1.out];decide) 6 13 (K2,0) U2.out z7;rw[show errV 0=Value.nilIface from rfl] at hwr;have HG2:=BB (HG1.out.trans G2);clear hA2 G2 HM1 HG1;go_wp2_with fail;refine hwr.mono ?_;rintro e w3 ⟨rfl,hM3,G3⟩;have hrd:=MI D A K2 w3 hM3 3 dc K3 (En 9) U3.out (by show K3.ca<_;rw[C3.out];decide) 6 13 (K4,0) U4.out z7;have HL3:Hid (∀k,Cor A k->k<w3.heap.size):=fun k hk=>hM3.core.low k (AK hk);have HG3:Hid (Chg No w w3):=HG2.out.trans' G3 (fun k hk e=>by have:=HA.out k e;omega);clear hwr hM3 G3 HG2;go_wp2_with fail;refine hrd.mono ?_;rintro e w4 ⟨v,rfl,hO,hM4,G4⟩;obtain⟨gv,cv,rfl,hgv,hgs,hcv,hcl,-⟩:=hO.lies (by rw[BY];decide);have HT4:Hid (At w4 gv 0 (En 9)):=⟨hgs,fun i hi=>by rw[AW];exact hcl i hi⟩;have HN:Hid (¬ Cor A gv):=fun e=>by have:=HL3.out gv e;omega
 have htr:=bV D A K4 w4 hM4 3 dc 6 (K5,0) U5.out z7 (by show K5.ca<_;rw[C5.out];decide) 6 13 (K6,0) U6.out z7;rw[show errV 0=Value.nilIface from rfl] at htr;have HG4:Hid (Chg No w w4):=HG3.out.trans' G4 (fun k hk e=>by have:=HA.out k e;omega);rw[BY];clear hrd hO hM4 G4 HG3 HL3 hgv hgs hcv hcl;go_wp2_with fail;refine htr.mono ?_;rintro e w5 ⟨rfl,hM5,G5⟩;have hrd:=MI D A K6 w5 hM5 3 dc K7 (List.replicate 160 0) U7.out (by show K7.ca<_;rw[C7.out];decide) 6 13 (K8,0) U8.out z7;have HT5:=BB (HT4.out.chg G5 HN.out);have HG5:Hid (Chg No w w5):=HG4.out.trans' G5 (fun k hk e=>by have:=HA.out k e;omega);clear htr hM5 G5 HG4 HT4;go_wp2_with fail;refine hrd.mono ?_;rintro e w6 ⟨v,rfl,hO,hM6,G6⟩;obtain⟨gu,cu,rfl,hgv,hgs,hcv,hcl,-⟩:=hO.lies (by rw[length_replicate];decide);have HU6:Hid (At w6 gu 0 (En 0)):=⟨hgs,fun i hi=>by rw[AW];exact hcl i hi⟩;have HT6:=BB (HT5.out.chg G6 HN.out);have HG6:Hid (Chg No w w6):=HG5.out.trans' G6 (fun k hk e=>by have:=HA.out k e;omega);rw[length_replicate];clear hrd hO hM6 G6 HG5 HT5 hgv hgs hcv hcl;go_wp2_with fail;refine(Gx 9 w6).mono ?_;rintro e w7 ⟨rfl,hA7,G7⟩;have hsm:=Pt w7 gv 0 160 cv w6.heap.size 0 160 160 (En 9) (En 9) (BY 9).symm (BY 9).symm (DH 9) (DH 9) (HT6.out.chg G7 (fun f=>f)) hA7.at_;rw[AO rfl] at hsm;have HU7:=BB (HU6.out.chg G7 (fun f=>f));have HG7:=BB (HG6.out.trans G7);clear hA7 G7 HT6 HU6 HG6;go_wp2_with fail;refine hsm.mono ?_;rintro e w8 ⟨rfl,rfl⟩;go_wp2_with fail;refine(Gx 0 w8).mono ?_;rintro e w9 ⟨rfl,hA9,G9⟩;have hsm:=Pt w9 gu 0 160 cu w8.heap.size 0 160 160 (En 0) (En 0) (BY 0).symm (BY 0).symm (DH 0) (DH 0) (HU7.out.chg G9 (fun f=>f)) hA9.at_;rw[AO rfl] at hsm;have HG9:=BB (HG7.out.trans G9);clear hA9 G9 HU7 HG7;go_wp2_with fail;refine hsm.mono ?_;rintro e wz ⟨rfl,rfl⟩;go_wp2;go_ret;exact⟨rfl,HG9.out⟩
end
def jA (z:Int):Prop:=-9223372036854775808<=z/\z<=9223372036854775807
set_option linter.unusedSimpArgs false
theorem CoreAt.out'{A:Ad}{w:Wd}{K:BC}(h:CoreAt A w K){w':Wd}{S:Nat->Prop}(n:∀x,Cor A x\/x=A.p\/x=A.q->¬ S x)(hc:Chg S w w'):CoreAt A w' K:=by
 obtain⟨f1,f2,f3,f4,f5,f6,f7⟩:=h.frame hc;exact⟨f1 (n _ (AK (AK rfl))),f2 (n _ (AK (AL (AK rfl)))) (n _ (AL (AK rfl))) (n _ (AL (AL rfl))) (n _ (AK (AL (AL (AL (AK rfl)))))),f3 (n _ (AK (AL (AL (AK rfl))))),f4 (n _ (AK (AL (AL (AL (AL (AK rfl))))))),f5 (n _ (AK (AL (AL (AL (AL (AL (AK rfl)))))))),f6 (n _ (AK (AL (AL (AL (AL (AL (AL (AK rfl))))))))),f7 (n _ (AK (AL (AL (AL (AL (AL (AL (AL rfl))))))))),h.wf⟩
def Lw (A:Ad) (D n:Nat):Prop:=∀x,(Cor A x\/x=A.p\/x=A.q)\/x=D->x<n
def QD (Q:BC->Prop) (w:Wd) (D:Nat) (A:Ad):Prop:=∃K,Dmt w D A K/\Q K
theorem QD.chg0{Q:BC->Prop}{w w':Wd}{D:Nat}{A:Ad}(h:QD Q w D A)(hc:Chg No w w'):QD Q w' D A:=by
 obtain⟨K,h1,h2⟩:=h;exact⟨K,h1.chg0 hc,h2⟩
theorem QD.mono{Q R:BC->Prop}{w:Wd}{D:Nat}{A:Ad}(h:QD Q w D A)(k:∀K,Q K->R K):QD R w D A:=by
 obtain⟨K,h1,h2⟩:=h;exact⟨K,h1,k K h2⟩
def lK (Y:BC) (R:BC->Prop):Prop:=Y.ca<9223372036854775807/\∃Z,tdK 6 13 Y=some (Z,0)/\R Z
theorem TN{Q R:BC->Prop}(D:Nat)(A:Ad)(w:Wd)(h:QD Q w D A)(o:Nat)(ho:o<24)(x:Int)(st:∀K,Q K->∃Y,anR 6 (fun _ _=>En x ++ List.replicate 14 0) K o=some (Y,0)/\lK Y R)(d off cap:Nat)(hd:At w d off (En x))(nd:¬ Cor A d) :Calls prog 12 #[.pointer (some ⟨D,0,none⟩),.int .i64 (o:Nat),.slice (some ⟨d,off,none⟩) 160 cap] w fun e w'=>e=.returned .nilIface/\QD R w' D A/\Chg (Cor A) w w':=by
 obtain⟨K,h1,h2⟩:=h;obtain⟨Y,e1,hc,Z,e2,f2⟩:=st K h2;refine(N8 D A K w h1 o ho d off cap (En x) (BY x) (DH x) hd nd 6 (Y,0) e1 z7 hc 6 13 (Z,0) e2 z7).mono ?_;rintro e w' ⟨rfl,hM,hG⟩;exact⟨rfl,⟨Z,hM,f2⟩,hG⟩
theorem X9{Q R:BC->Prop}(D:Nat)(A:Ad)(w:Wd)(h:QD Q w D A)(o:Nat)(ho:o<24)(x:Int)(st:∀K,Q K->∃Y,geK K o=(Y,En x,0)/\lK Y R) :Calls prog 16 #[.pointer (some ⟨D,0,none⟩),.int .i64 (o:Nat)] w fun e w'=>∃gv cv,e=.returned (.tuple #[.slice (some ⟨gv,0,none⟩) 160 cv,.nilIface])/\w.heap.size<=gv/\At w' gv 0 (En x)/\QD R w' D A/\Chg (Cor A) w w':=by
 obtain⟨K,h1,h2⟩:=h;obtain⟨Y,e1,hc,Z,e2,f2⟩:=st K h2;refine(MI D A K w h1 o ho Y (En x) e1 hc 6 13 (Z,0) e2 z7).mono ?_;rintro e w' ⟨v,rfl,hO,hM,hG⟩;obtain⟨gv,cv,rfl,hgv,hgs,hcv,hcl,-⟩:=hO.lies (by rw[BY];decide);rw[BY];exact⟨gv,cv,rfl,hgv,⟨hgs,fun i hi=>by rw[AW];exact hcl i hi⟩,⟨Z,hM,f2⟩,hG⟩
def jB (P:Nat->(Nat->Int)->BC->Prop) (w:Wd) (D:Nat) (A:Ad) (B:Nat) (La:Nat->Int):Prop:=QD (P B La) w D A
section
variable {P:Nat->(Nat->Int)->BC->Prop}
end
set_option linter.unusedSimpArgs false
section
variable {P:Nat->(Nat->Int)->BC->Prop}
theorem jB.lw{w:Wd}{D:Nat}{A:Ad}{B:Nat}{La:Nat->Int}(h:jB P w D A B La):Lw A D w.heap.size:=by
 obtain⟨K,h1,-⟩:=h;intro x e;rcases e with e | rfl
 ·exact h1.core.low x e
 ·exact h1.dv.lt
theorem jB.far{w:Wd}{D:Nat}{A:Ad}{B:Nat}{La:Nat->Int}(h:jB P w D A B La){n:Nat}(l:Lw A D n){w':Wd}{S:Nat->Prop}(hS:∀k,S k->n<=k)(hc:Chg S w w'):jB P w' D A B La:=by
 obtain⟨K,h1,h2⟩:=h;exact⟨K,⟨h1.dv.chg hc (fun e=>by have:=hS _ e;have:=l D (AL rfl);omega),h1.core.out' (fun x e f=>by have:=hS _ f;have:=l x (AK e);omega) hc,h1.nd⟩,h2⟩
end
section
variable {P:Nat->(Nat->Int)->BC->Prop}
end
set_option linter.unusedSimpArgs false
theorem tq(b c:Nat):((b:Nat):Int).tdiv c=((b / c:Nat):Int):=by rw[Int.tdiv_eq_ediv_of_nonneg om];omega
structure Skn (K K':BC):Prop where
 s:K'.s=K.s
 r:K'.r=K.r
 hR:K'.hR=K.hR
 hN:K'.hN=K.hN
 hS:K'.hS=K.hS
 cu:K'.cu=K.cu
 ca:K'.ca=K.ca
 qu:K'.qu=K.qu
 rp:K'.rp=K.rp
 md:K'.md=K.md
 tl:K'.tl=K.tl
theorem Skn.refl(K:BC):Skn K K:=⟨rfl,rfl,rfl,rfl,rfl,rfl,rfl,rfl,rfl,rfl,rfl⟩
theorem Skn.trans{K K' K'':BC}(h:Skn K K')(k:Skn K' K''):Skn K K'':=⟨k.s.trans h.s,k.r.trans h.r,k.hR.trans h.hR,k.hN.trans h.hN,k.hS.trans h.hS,k.cu.trans h.cu,k.ca.trans h.ca,k.qu.trans h.qu,k.rp.trans h.rp,k.md.trans h.md,k.tl.trans h.tl⟩
theorem IA(K:BC):Skn K (clK K):=by unfold clK;split <;> exact⟨rfl,rfl,rfl,rfl,rfl,rfl,rfl,rfl,rfl,rfl,rfl⟩
theorem MJ(K:BC)(b:Int):Skn K (lvK K b):=by
 unfold lvK;split
 ·exact IA K
 ·exact Skn.refl K
theorem YA(K:BC)(b s:Int):Skn K (stK K b s):=⟨rfl,rfl,rfl,rfl,rfl,rfl,rfl,rfl,rfl,rfl,rfl⟩
theorem YB(K:BC)(b:Int):Skn K (spK K b):=by
 have h:=(MJ K b).trans (YA (lvK K b) b 3);exact⟨h.s,h.r,h.hR,h.hN,h.hS,h.cu,h.ca,h.qu,h.rp,h.md,h.tl⟩
theorem QE(K:BC):Skn K (opK K).1:=by unfold opK;split <;> exact⟨rfl,rfl,rfl,rfl,rfl,rfl,rfl,rfl,rfl,rfl,rfl⟩
theorem YC(K:BC):Skn K (sqK K):=⟨rfl,rfl,rfl,rfl,rfl,rfl,rfl,rfl,rfl,rfl,rfl⟩
theorem Fj(K:BC)(t:Bu):Skn K (layK K t).1:=⟨rfl,rfl,rfl,rfl,rfl,rfl,rfl,rfl,rfl,rfl,rfl⟩
theorem QF(K:BC)(S:BW)(o:Nat):Skn K (tiK K S o).1:=by
 unfold tiK;split
 ·exact Skn.refl K
 ·split <;> exact⟨rfl,rfl,rfl,rfl,rfl,rfl,rfl,rfl,rfl,rfl,rfl⟩
theorem jC:∀(l:List Bu) (K:BC),Skn K (cmL l K).1:=by
 intro l
 induction l with
 | nil=>intro K;exact Skn.refl K
 | cons t l ih=>
  intro K;unfold cmL;split
  ·exact Fj K t
  ·exact(Fj K t).trans (ih _)
theorem QG(K:BC)(S:BW)(st:Int):Skn K (cmK K S st).1:=by
 have h0:=jC S.ld K;unfold cmK;dsimp only;generalize cmL S.ld K=x at *
 split
 ·exact h0
 ·have h1:=h0.trans ((MJ x.1 S.fm).trans (YA (lvK x.1 S.fm) S.fm st));generalize stK (lvK x.1 S.fm) S.fm st=y at *
  split
  ·have h2:=h1.trans (IA y);exact⟨h2.s,h2.r,h2.hR,h2.hN,h2.hS,h2.cu,h2.ca,h2.qu,h2.rp,h2.md,h2.tl⟩
  ·exact⟨h1.s,h1.r,h1.hR,h1.hN,h1.hS,h1.cu,h1.ca,h1.qu,h1.rp,h1.md,h1.tl⟩
structure Kpr (P:BC->Prop):Prop where
 rd:∀K p,P K->P (rdK K p).1
 pr:∀K t D,P K->P (prK K t D).1
 er:∀K b,P K->P (erK K b).1
 nt:∀K,P K->P (ntK K)
 st:∀K K',P K->Skn K K'->P K'
structure nX (P:BC->Prop):Prop extends Kpr P where
 ct:∀K hS qu rp md,P K->P { K with hS:=hS,qu:=qu,rp:=rp,md:=md }
 ps:∀K,P K->P { K with cu:=(K.cu+8) % 96,ca:=K.ca+1 }
def bX (P:BC->Prop) (te:FF):Prop:=∀K Z,te K=some Z->P K->P Z.1
def MovG (P:BC->Prop) (mo:Ek):Prop:=∀K S Z,mo K S=some Z->P K->P Z.1
section
variable {P:BC->Prop}
theorem jD(C:Kpr P)(K:BC)(t:Bu)(D:List Nat)(h:P K):P (prM K t D).1:=by
 unfold prM;split
 ·exact h
 ·exact C.pr K t D h
theorem YD(C:Kpr P)(H:Dp)(K:BC)(p o:Nat)(h:P K):P (frK H K p o).1:=by
 unfold frK;by_cases hs:K.sp=true
 ·rw[AJ hs];exact h
 ·rw[AI hs];dsimp only;have h1:=C.pr (sqK K) ⟨p,o,K.nx,0,false⟩ (H (sqK K) K.nx) (C.st _ _ h (YC K));generalize prK (sqK K) ⟨p,o,K.nx,0,false⟩ (H (sqK K) K.nx)=x at *
  by_cases c:x.2≠0
  ·rw[AJ c];exact h1
  ·rw[AI c];by_cases d:o=24
   ·rw[AJ d];exact C.nt _ h1
   ·rw[AI d];exact h1
theorem jE(C:Kpr P)(K:BC)(o:Nat)(h:P K):P (coK K o).1:=by
 have h1:=C.rd K (K.L o).toNat h;unfold coK;split
 ·exact h
 ·dsimp only;generalize rdK K (K.L o).toNat=X at *
  split
  ·exact h1
  ·split
   ·exact h1
   ·split <;> exact h1
theorem QH(C:Kpr P)(bd:Bool):∀(l:List Nat) (K:BC) (S:BW),P K->P (cpK bd l K S).1:=by
 intro l
 induction l with
 | nil=>intro K S h;exact h
 | cons o l ih=>
  intro K S h;unfold cpK;split
  ·exact ih K S h
  ·dsimp only;have h1:=jE C K o h;generalize coK K o=c at *
   have h2:P (tiK c.1 S o).1:=C.st _ _ h1 (QF _ _ _);generalize tiK c.1 S o=t at *
   have h3:=jD C t.1 ⟨t.2.2.1,o,t.1.vs o,(t.1.vc o+1) % 256,c.2.2.1⟩ c.2.1 h2;generalize prM t.1 ⟨t.2.2.1,o,t.1.vs o,(t.1.vc o+1) % 256,c.2.2.1⟩ c.2.1=p at *
   split
   ·exact h1
   ·split
    ·exact h2
    ·split
     ·exact h3
     ·exact ih _ _ h3
theorem YE(C:Kpr P)(K:BC)(S:BW)(h:P K):P (cbK K S).1:=by
 unfold cbK;dsimp only;have h1:P (tiK K S 24).1:=C.st _ _ h (QF _ _ _);generalize tiK K S 24=t at *
 have h2:=YD C (bdH S.fm) t.1 t.2.2.1 24 h1;generalize frK (bdH S.fm) t.1 t.2.2.1 24=f at *
 split
 ·exact h1
 ·split
  ·exact h2
  ·exact C.st _ _ h2 (QG _ _ _)
theorem YF(C:Kpr P)(K:BC)(S:BW)(h:P K):P (tyK K S).1:=by
 unfold tyK;dsimp only;have hx:=QH C (S.fd || (S.rt && bearK K)) ((AA.ofL K.L S.fm).map Int.toNat) K { S with tt:=noF,ld:=[] } h;generalize cpK (S.fd || (S.rt && bearK K)) ((AA.ofL K.L S.fm).map Int.toNat) K { S with tt:=noF,ld:=[] }=x at *
 have he:=C.er x.1 S.fm hx;have hb:=YE C x.1 x.2.1 hx;generalize erK x.1 S.fm=y at *
 have hc:P (cmK y.1 x.2.1 0).1:=C.st _ _ he (QG _ _ _);have hl:P (lvK y.1 S.fm):=C.st _ _ he (MJ _ _);generalize cmK y.1 x.2.1 0=c at *
 generalize lvK y.1 S.fm=u at *
 have hd:=YE C u { x.2.1 with fd:=true } hl;generalize cbK u { x.2.1 with fd:=true }=v at *
 generalize cbK x.1 x.2.1=v2 at *
 split
 ·exact h
 ·split
  ·exact hx
  ·split
   ·exact hb
   ·split
    ·exact hc
    ·split
     ·exact he
     ·split
      ·exact hl
      ·exact hd
theorem jF(C:Kpr P){an:FF}(h:bX P an):bX P (IN an):=by
 intro K Z e hp;unfold IN at e;have h1:P (opK (clK K)).1:=C.st _ _ (C.st _ _ hp (IA _)) (QE _);split at e
 ·cases e;exact hp
 ·split at e
  ·exact h _ _ e hp
  ·split at e
   ·cases e
    exact h1
   ·exact h _ _ e h1
theorem jG(C:Kpr P){te:FF}(h:bX P te):∀n,MovG P (trK te n):=by
 intro n
 induction n with
 | zero=>intro K S Z e;cases e
 | succ n ih=>
  intro K S Z e hp;unfold trK at e;have ht:=YF C K S hp;split at e
  ·cases e;exact hp
  ·dsimp only at e;generalize tyK K S=x at *
   split at e
   ·cases e;exact ht
   ·cases hy:te (spK x.1 (AC.blV x.2.1.tt)) with
    | none=>rw[hy] at e;cases e
    | some y=>
     rw[hy] at e;dsimp only at e;have h1:=h _ _ hy (C.st _ _ ht (YB _ _));split at e
     ·cases e;exact h1
     ·exact ih _ _ _ e h1
theorem jH(C:Kpr P){te:FF}(h:bX P te)(n:Nat):MovG P (moK te n):=by
 intro K S Z e hp;unfold moK at e;cases hy:trK te n (if S.fd then lvK K S.fm else K) S with
 | none=>rw[hy] at e;cases e
 | some x=>
  rw[hy] at e;dsimp only at e;have h1:P x.1:=jG C h n _ _ _ hy (by
   split
   ·
    exact C.st _ _ hp (MJ _ _)
   ·
    exact hp)
  split at e
  ·cases e
   exact C.st _ _ (C.st _ _ h1 (YB _ _)) ⟨rfl,rfl,rfl,rfl,rfl,rfl,rfl,rfl,rfl,rfl,rfl⟩
  ·cases e;exact h1
theorem jI(C:Kpr P){mo:Ek}(h:MovG P mo):∀n K o Z,mrK mo n K o=some Z->P K->P Z.1:=by
 intro n
 induction n with
 | zero=>intro K o Z e;cases e
 | succ n ih=>
  intro K o Z e hp;unfold mrK at e;have h0:P (clK K):=C.st _ _ hp (IA _);split at e
  ·cases e;exact hp
  ·dsimp only at e;generalize clK K=K1 at *
   have h1:P (opK K1).1:=C.st _ _ h0 (QE _);split at e
   ·split at e
    ·cases e
     exact h1
    ·exact ih _ _ _ e h1
   ·split at e
    ·cases e
     exact h0
    ·cases hy:mo K1 (nwS (AG.chV 12 12 K1.F (lvF K1)) false false) with
     | none=>rw[hy] at e;cases e
     | some y=>
      rw[hy] at e;dsimp only at e;have h2:=h _ _ _ hy h0;split at e
      ·cases e;exact h2
      ·exact ih _ _ _ e h2
theorem jJ(C:Kpr P){mr:BC->Nat->Option (BC × Nat)}{mo:Ek}(hr:∀K o Z,mr K o=some Z->P K->P Z.1)(h:MovG P mo)(H:Dp):∀n K o Z,anK mr mo H n K o=some Z->P K->P Z.1:=by
 intro n
 induction n with
 | zero=>intro K o Z e;cases e
 | succ n ih=>
  intro K o Z e hp;unfold anK at e;split at e
  ·cases e;exact hp
  ·cases hx:mr K o with
   | none=>rw[hx] at e;cases e
   | some x=>
    rw[hx] at e;dsimp only at e;have h1:=hr _ _ _ hx hp;split at e
    ·cases e;exact h1
    ·split at e
     ·cases e;exact h1
     ·have h2:=YD C H { x.1 with fr:=AC.tkS x.1.fr o } (AC.nxV x.1.fr o).toNat o (C.st _ _ h1 ⟨rfl,rfl,rfl,rfl,rfl,rfl,rfl,rfl,rfl,rfl,rfl⟩);generalize frK H { x.1 with fr:=AC.tkS x.1.fr o } (AC.nxV x.1.fr o).toNat o=f at *
      split at e
      ·cases e
       exact C.st _ _ h2 (Fj _ _)
      ·split at e
       ·cases e;exact h2
       ·cases hy:mo f.1 (nwS (AC.blV f.1.fr).toNat false true) with
        | none=>rw[hy] at e;cases e
        | some y=>
         rw[hy] at e;dsimp only at e;have h4:=h _ _ _ hy h2;split at e
         ·cases e;exact h4
         ·exact ih _ _ _ e h4
theorem jK(C:Kpr P):∀n H K o Z,anR n H K o=some Z->P K->P Z.1:=by
 intro n
 induction n with
 | zero=>intro H K o Z e;cases e
 | succ n ih=>
  intro H K o Z e;have hm:MovG P (moK (IN fun K=>anR n noH K 24) (n+1)):=jH C (jF C fun _ _ e=>ih _ _ _ _ e) _;exact jJ C (mr:=mrK (moK (IN fun K=>anR n noH K 24) (n+1)) (n+1)) (fun K o Z e=>jI C hm _ _ _ _ e) hm H (n+1) K o Z e
end
section
variable {P:BC->Prop}
end
structure jL (Q:BG->Prop):Prop where
 w:∀s a k l,Q s->Q (writeR s a k l).1
 e:∀s b,Q s->Q (eraseR s b).1
 r:∀s a,Q s->Q (readV s a).1
section
variable {Q:BG->Prop}
theorem jM(C:jL Q){s:BG}(h:Q s)(a:Int)(W:Nat->List Nat):∀n,Q (wrN s a W n).1:=by
 intro n
 induction n with
 | zero=>exact h
 | succ n ih=>
  rw[wrN];split
  ·exact C.w _ _ _ _ ih
  ·exact ih
theorem YG(C:jL Q)(tl:List Nat->Int->Pg){s:BG}(h:Q s)(r a:Int):Q (rdF tl s r a).1:=by
 have:=C.r s a h;unfold rdF;split <;> exact this
theorem jL.kpq(C:jL Q):nX fun K=>Q K.s where
 rd K p h:=by
  have:=YG C K.tl h K.r p;unfold rdK;dsimp only;generalize rdF K.tl K.s K.r p=X at *
  split <;> exact this
 pr K t D h:=by
  have h1:=jM C h t.p (wordOf D (body t.p t.o t.q t.c t.l)) 4;unfold prK prF;dsimp only;generalize wrN K.s t.p (wordOf D (body t.p t.o t.q t.c t.l)) 4=X at *
  have h2:=YG C K.tl h1 K.r t.p;generalize rdF K.tl X.1 K.r t.p=Y at *
  split
  ·exact h1
  ·split <;> exact h2
 er K b h:=by
  have:=C.e K.s b h;unfold erK;dsimp only;generalize eraseR K.s b=X at *
  split <;> exact this
 nt _ h:=h
 st K K' h k:=by rw[k.s];exact h
 ct _ _ _ _ _ h:=h
 ps _ h:=h
end
theorem RG(K0:BC):Kpr (Nh K0) where
 rd K p h:=h.trans (by
  unfold rdK
  dsimp only
  split <;> exact⟨rfl,rfl,rfl,rfl,rfl,rfl⟩)
 pr K t D h:=h.trans (by unfold prK;exact⟨rfl,rfl,rfl,rfl,rfl,rfl⟩)
 er K b h:=h.trans (by
  unfold erK
  dsimp only
  split <;> exact⟨rfl,rfl,rfl,rfl,rfl,rfl⟩)
 nt K h:=h.trans ⟨rfl,rfl,rfl,rfl,rfl,rfl⟩
 st K K' h k:=h.trans ⟨k.cu,k.qu,k.hS,k.rp,k.md,k.tl⟩
section
variable {K:BC}{N:Nat->Int}{V U:Nat->Prop}{s s':BG}{o b n:Nat}{G:BV}
def npN (s:BG) (b:Nat):Nat->Nat
 | 0=>0
 | n+1=>npN s b n+(if (s.ch (4*(8*b+n))).is=true then 1 else 0)
theorem MK(s:BG)(b:Nat):∀n,npN s b n<=n
 | 0=>AM _
 | n+1=>by
  have:=MK s b n
  rw[npN]
  split <;> omega
def Pgk (s s':BG):Prop:=∀j,(s.ch j).is=true->(s'.ch j).is=true
theorem KD(h:Pgk s s')(b:Nat):∀n,npN s b n<=npN s' b n
 | 0=>AM _
 | n+1=>by
  have:=KD h b n
  rw[npN,npN]
  by_cases e:(s.ch (4*(8*b+n))).is=true
  ·
   rw[AJ e,AJ (h _ e)];omega
  ·
   rw[AI e];omega
theorem RH(h:Pgk s s'){i:Nat}(h0:(s.ch (4*(8*b+i))).is=false)(h1:(s'.ch (4*(8*b+i))).is=true):∀n,i<n->npN s b n+1<=npN s' b n
 | 0,hn=>om
 | n+1,hn=>by
  rw[npN,npN]
  by_cases e:i=n
  ·
   subst e
   have:=KD h b i
   rw[AI (by rw[h0];simp),AJ h1]
   omega
  ·
   have:=RH h h0 h1 n om
   by_cases e:(s.ch (4*(8*b+n))).is=true
   ·
    rw[AJ e,AJ (h _ e)];omega
   ·
    rw[AI e];omega
theorem FM:∀n,(∀i,i<n->(s'.ch (4*(8*b+i))).is=(s.ch (4*(8*b+i))).is)->npN s' b n=npN s b n
 | 0,_=>rfl
 | n+1,h=>by
  rw[npN,npN,FM n (fun i hi=>h i om),h n om]
theorem Pgk.refl(s:BG):Pgk s s:=fun _ h=>h
theorem Pgk.trans{s'':BG}(h:Pgk s s')(k:Pgk s' s''):Pgk s s'':=fun j e=>k j (h j e)
theorem KE(s:BG)(a k:Int)(l:List Nat):Pgk s (writeR s a k l).1/\((writeR s a k l).2=0->(0<=a/\a<96)/\(s.ch (4*a.toNat+k.toNat)).is=false/\((writeR s a k l).1.ch (4*a.toNat+k.toNat)).is=true):=by
 unfold writeR;split
 ·exact⟨Pgk.refl s,fun e=>absurd e (by decide:¬ (1:Nat)=0)⟩
 ·rename_i c1;split
  ·exact⟨Pgk.refl s,fun e=>absurd e (by decide:¬ (7:Nat)=0)⟩
  ·split
   ·exact⟨Pgk.refl s,fun e=>absurd e (by decide:¬ (9:Nat)=0)⟩
   ·rename_i c2;split
    ·exact⟨Pgk.refl s,fun e=>absurd e (by decide:¬ (7:Nat)=0)⟩
    ·split
     ·exact⟨Pgk.refl s,fun e=>absurd e (by decide:¬ (8:Nat)=0)⟩
     ·refine⟨fun j e=>?_,fun _=>⟨om,by simpa using c2,?_⟩⟩
      ·show (if j=4*a.toNat+k.toNat then E4 l else s.ch j:GY).is=true;split
       ·rfl
       ·exact e
      ·show (if 4*a.toNat+k.toNat=4*a.toNat+k.toNat then E4 l else s.ch (4*a.toNat+k.toNat):GY).is=true;rw[AJ rfl];rfl
theorem QI(s:BG)(a:Int)(W:Nat->List Nat):∀n,Pgk s (wrN s a W n).1
 | 0=>Pgk.refl s
 | n+1=>by
  rw[wrN]
  split
  ·
   exact(QI s a W n).trans (KE _ _ _ _).1
  ·
   exact QI s a W n
theorem YH(s:BG)(a:Int)(W:Nat->List Nat):∀n,1<=n->(wrN s a W n).2=0->(0<=a/\a<96)/\(s.ch (4*a.toNat)).is=false/\((wrN s a W n).1.ch (4*a.toNat)).is=true
 | 0,hn,_=>om
 | n+1,_,h=>by
  rw[wrN] at h ⊢
  by_cases e:(wrN s a W n).2=0
  ·
   rw[AJ e] at h ⊢
   by_cases hn:n=0
   ·
    subst hn
    obtain⟨h1,h2,h3⟩:=(KE (wrN s a W 0).1 a (0:Nat) (W 0)).2 h
    exact⟨h1,h2,h3⟩
   ·
    obtain⟨h1,h2,h3⟩:=YH s a W n om e
    exact⟨h1,h2,(KE _ _ _ _).1 _ h3⟩
  ·
   rw[AI e] at h
   exact absurd h e
theorem OA(s:BG)(a:Int):(readV s a).1.ch=s.ch:=by
 unfold readV;split
 ·rfl
 ·split <;> rfl
theorem QJ(tl:List Nat->Int->Pg)(s:BG)(r a:Int):(rdF tl s r a).1.ch=s.ch:=by
 unfold rdF;split <;> exact OA s a
theorem Ho(R:Nat->Int)(x n b:Nat):CH R (x:Nat) (n:Nat) b<=R b+(if b=x then (n:Int) else 0):=by
 unfold CH;split
 ·rw[AP];unfold upd;split
  ·rename_i e;subst e;omega
  ·omega
 ·split <;> omega
def Rq (N:Nat->Int) (V:Nat->Prop) (K:BC):Prop:=∀b,b<12->¬ V b->K.hR b<=N b+(npN K.s b 8:Nat)
theorem Rq.skn{K':BC}(h:Rq N V K)(k:Skn K K'):Rq N V K':=fun b hb hV=>by rw[k.hR,k.s];exact h b hb hV
theorem Rq.mono{M:Nat->Int}(h:Rq N V K)(hN:∀b,N b<=M b)(hV:∀b,V b->U b):Rq M U K:=fun b hb hU=>Int.le_trans (h b hb (fun e=>hU (hV b e))) (Int.add_le_add_right (hN b) _)
theorem cZ(h:Rq N V K)(p:Nat):Rq (fun b=>N b+(if b=p / 8 then 1 else 0)) V (rdK K p).1:=by
 unfold rdK;dsimp only;have hc:=QJ K.tl K.s K.r p;generalize rdF K.tl K.s K.r p=x at *
 intro b hb hV;have h1:=h b hb hV;have h2:=Ho K.hR (p / 8) 1 b;split
 ·show CH K.hR (p / 8:Nat) 1 b<=N b+(if b=p / 8 then 1 else 0)+(npN x.1 b 8:Nat);rw[FM (s:=K.s) 8 (fun i _=>by rw[hc])];have e:CH K.hR (p / 8:Nat) 1=CH K.hR (p / 8:Nat) ((1:Nat):Int):=rfl;rw[e];split at h2 <;> rename_i c
  ·rw[AJ c];omega
  ·rw[AI c];omega
 ·show K.hR b<=N b+(if b=p / 8 then 1 else 0)+(npN x.1 b 8:Nat);rw[FM (s:=K.s) 8 (fun i _=>by rw[hc])];split <;> omega
theorem jN(h:Rq N V K){p:Nat}(hp:V (p / 8)):Rq N V (rdK K p).1:=fun b hb hV=>by
 have:=cZ h p b hb hV
 dsimp only at this
 rw[AI (fun e=>hV (by rw[e];exact hp))] at this
 omega
theorem cd(h:Rq N V K)(t:Bu)(D:List Nat):Rq N V (prK K t D).1:=by
 intro b hb hV;have h1:=h b hb hV;have hk:=QI K.s t.p (wordOf D (body t.p t.o t.q t.c t.l)) 4;have hw:=YH K.s t.p (wordOf D (body t.p t.o t.q t.c t.l)) 4 dc;unfold prK prF;dsimp only;generalize wrN K.s t.p (wordOf D (body t.p t.o t.q t.c t.l)) 4=W at *
 have hm:=KD hk b 8;have hc:=QJ K.tl W.1 K.r t.p;have z0:=Ho K.hR (t.p / 8) 0 b;have z1:=Ho K.hR (t.p / 8) 1 b;have e0:(if b=t.p / 8 then ((0:Nat):Int) else 0)=0:=by split <;> rfl
 rw[e0] at z0;generalize rdF K.tl W.1 K.r t.p=R at *
 have hs:npN R.1 b 8=npN W.1 b 8:=FM 8 (fun i _=>by rw[hc]);by_cases c1:W.2≠0
 ·rw[AJ c1];show CH K.hR (t.p / 8:Nat) ((0:Nat):Int) b<=N b+(npN W.1 b 8:Nat);omega
 ·rw[AI c1];by_cases c2:R.2.2.2≠0
  ·rw[AJ c2];show CH K.hR (t.p / 8:Nat) ((0:Nat):Int) b<=N b+(npN R.1 b 8:Nat);omega
  ·rw[AI c2];show CH K.hR (t.p / 8:Nat) ((1:Nat):Int) b<=N b+(npN R.1 b 8:Nat);by_cases e:b=t.p / 8
   ·rw[AJ e] at z1;obtain⟨-,w1,w2⟩:=hw (Decidable.not_not.1 c1);rw[AP] at w1 w2;have ep:4*t.p=4*(8*b+t.p % 8):=om;rw[ep] at w1 w2;have:=RH hk w1 w2 8 om;omega
   ·rw[AI e] at z1;omega
theorem jO(h:Rq N V K)(t:Bu)(D:List Nat):Rq N V (prM K t D).1:=by
 unfold prM;split
 ·exact h
 ·exact cd h t D
theorem kp(hN:0<=N b)(h:Rq N (fun x=>V x\/x=b) K)(h0:(erK K b).2=0):Rq N V (erK K b).1:=by
 have hch:(eraseR K.s b).2=0->∀j,((eraseR K.s b).1.ch j)=if 32*b<=j/\j<32*b+32 then DW else K.s.ch j:=by
  unfold eraseR;split
  ·exact fun e=>absurd e (by decide:¬ (1:Nat)=0)
  ·split
   ·exact fun e=>absurd e (by decide:¬ (7:Nat)=0)
   ·split
    ·exact fun e=>absurd e (by decide:¬ (7:Nat)=0)
    ·split
     ·exact fun e=>absurd e (by decide:¬ (8:Nat)=0)
     ·intro _ j;rw[AP];rfl
 unfold erK at h0 ⊢;dsimp only at h0 ⊢;generalize eraseR K.s b=x at *
 by_cases c:x.2=0
 ·rw[AJ c] at h0 ⊢;replace hch:=hch c;intro y hy hV;show upd K.hR b 0 y<=N y+(npN x.1 y 8:Nat);by_cases e:y=b
  ·subst e;rw[Be];omega
  ·rw[BP _ _ e];have:=h y hy (fun k=>k.elim hV e);rw[FM (s:=K.s) (s':=x.1) 8 (fun i hi=>by rw[hch,AI om])];exact this
 ·rw[AI c] at h0;unfold FE at h0;dsimp only at h0;split at h0
  ·exact absurd h0 c
  ·cases h0
theorem kq(h:Rq N V K)(hV:V ((K.L o).toNat / 8)):Rq N V (coK K o).1:=by
 have h1:=jN h hV;unfold coK;split
 ·exact h
 ·dsimp only;generalize rdK K (K.L o).toNat=X at *
  split
  ·exact h1
  ·split
   ·exact h1
   ·split <;> exact h1
theorem kt(bd:Bool):∀(l:List Nat) (K:BC) (S:BW),Rq N V K->(∀o ∈ l,V ((K.L o).toNat / 8))->Rq N V (cpK bd l K S).1:=by
 intro l
 induction l with
 | nil=>intro K S h _;exact h
 | cons o l ih=>
  intro K S h hl;have hl':∀x ∈ l,V ((K.L x).toNat / 8):=fun x hx=>hl x (mem_cons_of_mem _ hx);unfold cpK;split
  ·exact ih K S h hl'
  ·dsimp only;have h1:=kq h (hl o (mem_cons_self ..));have k1:=(PT K o).1;generalize coK K o=c at *
   have h2:=h1.skn (QF c.1 S o);have k2:=(Lo c.1 S o).1;generalize tiK c.1 S o=t at *
   have h3:=jO h2 ⟨t.2.2.1,o,t.1.vs o,(t.1.vc o+1) % 256,c.2.2.1⟩ c.2.1;have k3:=(PU t.1 ⟨t.2.2.1,o,t.1.vs o,(t.1.vc o+1) % 256,c.2.2.1⟩ c.2.1).1;generalize prM t.1 ⟨t.2.2.1,o,t.1.vs o,(t.1.vc o+1) % 256,c.2.2.1⟩ c.2.1=p at *
   split
   ·exact h1
   ·split
    ·exact h2
    ·split
     ·exact h3
     ·exact ih _ _ h3 (fun x hx=>by rw[k3,k2,k1];exact hl' x hx)
theorem RI(h:Fine s)(hb:b<12):(eraseR s (b:Nat)).2=0:=by
 unfold eraseR;rw[AI om,AI (by rw[h.on];decide),AI (by rw[h.lim];simp),AI (by rw[(h.failE _).1];decide)]
theorem ML{W:Nat->Prop}{V:Nat}(hW:∀x,U x->W x\/x=V)(hm:AA.Okl K.L)(hfi:Fine K.s)(hV:V<12)(hN:0<=N V)(h:Rq N U K)(h0:(tyK K (nwS V false false)).2.2=0):Rq N W (tyK K (nwS V false false)).1:=by
 rw[XS] at h0 ⊢;have e0:(false || (false && bearK K))=false:=by simp
 rw[e0] at h0 ⊢;have hx:=kt (N:=N) (V:=fun x=>W x\/x=V) false ((AA.ofL K.L V).map Int.toNat) K { nwS V false false with tt:=noF,ld:=[] } (h.mono (fun _=>Int.le_refl _) hW) (fun o ho=>AL ((Ed hm V).1 o ho).2.2);have hf:Fine (cpK false ((AA.ofL K.L V).map Int.toNat) K { nwS V false false with tt:=noF,ld:=[] }).1.s:=QH (jL.kpq (Q:=Fine) ⟨fun s a k l h=>(h.write a k l).1,fun s b h=>(h.erase b).1,fun s a h=>(h.readV a).1⟩).toKpr false _ K _ hfi;generalize cpK false ((AA.ofL K.L V).map Int.toNat) K { nwS V false false with tt:=noF,ld:=[] }=x at *
 by_cases c:x.2.2≠0
 ·rw[AJ c] at h0;exact absurd h0 c
 ·rw[AI c,AI (show ¬ false=true by decide)] at h0 ⊢;unfold XR at h0 ⊢;dsimp only at h0 ⊢;have he:=kp (V:=W) hN hx;have e1:=RI hf hV;have hE:(erK x.1 V).2=0:=by unfold erK;dsimp only;rw[AJ e1]
  rw[AJ hE];exact(he hE).skn (QG _ _ _)
theorem ku{V:Nat}(hm:AA.Okl K.L)(hfi:Fine K.s)(hV:V<12)(hN:0<=N V)(h:Rq N No K)(h0:(tyK K (nwS V false false)).2.2=0):Rq N No (tyK K (nwS V false false)).1:=ML (fun _ f=>f.elim) hm hfi hV hN h h0
structure Ste2 (o:Nat) (P Q:BC->Prop):Prop where
 pq:∀K,P K->Q K
 sp:∀K K',P K->Skn K K'->K'.L=K.L->K'.mv=K.mv->P K'
 sk:∀K K',Q K->Skn K K'->K'.L=K.L->K'.mv=K.mv->Q K'
 an:∀H K p,Q K->(frK H K p o).2.2=0->Q (layK (frK H K p o).1 (frK H K p o).2.1).1
 ty:∀K V,AA.Okl K.L->Fine K.s->V<12->P K->(tyK K (nwS V false false)).2.2=0->Q (tyK K (nwS V false false)).1
def mS (o:Nat) (P:BC->Prop):Prop:=Ste2 o P P
theorem YI{P:BC->Prop}(sk:∀K K',P K->Skn K K'->K'.L=K.L->K'.mv=K.mv->P K')(an:∀H K p,P K->(frK H K p o).2.2=0->P (layK (frK H K p o).1 (frK H K p o).2.1).1)(ty:∀K V,AA.Okl K.L->Fine K.s->V<12->P K->(tyK K (nwS V false false)).2.2=0->P (tyK K (nwS V false false)).1):mS o P:=⟨fun _ h=>h,sk,sk,an,ty⟩
theorem YJ(H:Dp)(K:BC)(p o:Nat)(h:Rq N V K):Rq N V (frK H K p o).1:=by
 unfold frK;by_cases hs:K.sp=true
 ·rw[AJ hs];exact h
 ·rw[AI hs];dsimp only;have h1:=cd (h.skn (YC K)) ⟨p,o,K.nx,0,false⟩ (H (sqK K) K.nx);generalize prK (sqK K) ⟨p,o,K.nx,0,false⟩ (H (sqK K) K.nx)=x at *
  by_cases c:x.2≠0
  ·rw[AJ c];exact h1
  ·rw[AI c];by_cases d:o=24
   ·rw[AJ d];exact h1
   ·rw[AI d];exact h1
theorem jP(hN:∀b,0<=N b)(o:Nat):mS o (Rq N fun _=>False):=YI (fun _ _ h k _ _=>h.skn k) (fun H K p h _=>(YJ H K p o h).skn (Fj _ _)) (fun _ _ hm hf hV h h0=>ku hm hf hV (hN _) h h0)
theorem RJ(K:BC):(clK K).mv=K.mv:=by unfold clK;split <;> rfl
theorem kv(K:BC):(opK K).1.mv=K.mv:=by unfold opK;split <;> rfl
theorem bY(K:BC):(clK K).L=K.L:=by unfold clK;split <;> rfl
theorem mT(K:BC):(opK K).1.L=K.L:=by unfold opK;split <;> rfl
theorem YK(h:Sit K G No)(hfi:Fine K.s)(hdd:K.dd=false)(hrm:Rm 0 K)(hT:Told K G)(hnx:K.nx<DX){V:Nat}(hV:V<12)(h0:K.F V≠0)(h3:K.F V≠3)(rt:Bool)(n:Nat) :∃Y S',movR n K (nwS V rt false)=some (Y,S',0)/\tyK K (nwS V rt false)=(Y,S',0)/\Fine Y.s/\(rt=false->B3 (fun b=>K.F b=3) Y.F):=by
 obtain⟨t1,t2,t3⟩:=RC h hfi hdd hrm hT hnx hV h0 h3 rt;obtain⟨Y,S',ht⟩:∃Y S',tyK K (nwS V rt false)=(Y,S',0):=⟨_,_,by rw[<-t1]⟩;rw[ht] at t2 t3;refine⟨Y,S',?_,ht,t2,t3⟩;unfold movR moK;rw[AI (by show ¬ false=true;decide)];have etr:trK (Lg n) (n+1) K (nwS V rt false)=some (Y,S',0):=by
  rw[trK,AI (by show ¬ Lf K (V:Nat)=true;rw[L6 hV];simpa using h3)];dsimp only;rw[ht,AJ (show (0:Nat)≠8 by decide)]
 rw[etr];dsimp only;rw[AI (by rintro ⟨_,e⟩;exact absurd e dc)]
theorem OB{mo:Ek}(s:Sit K G No)(hf:Fine K.s)(hb:bad3 K.F<=2)(ho:K.fr.o=false)(hfre:5<fre K.F+2*bad3 K.F)(ho25:o<25)(k:Nat):∃Y,mrK mo (k+2) K o=some (Y,0)/\Fine Y.s/\Skn K Y/\Y.L=K.L/\Y.mv=K.mv:=by
 have hnr:¬ AC.rmV K.fr o=true:=fun e=>by
  have:=((D3 _ ho25).1 e).1;rw[ho] at this;cases this
 have hc:clK K=K:=CM ho;have hs:GD (clK K)=true:=by rw[hc];exact(Ee hb).2 hfre
 obtain⟨e2,s2,st2,n2,on2,d2,f2,o2,i2,q2,-⟩:=s.opS ho om;refine⟨(opK K).1,?_,by rw[on2];exact hf,QE K,mT K,kv K⟩;rw[mrK,AI hnr];dsimp only;rw[AJ hs,hc,AI (by rw[e2];decide)];rw[mrK,AJ ((D3 _ ho25).2 ⟨o2,om,AL om⟩)]
theorem jQ(h:Sit K G No)(hfi:Fine K.s)(hdd:K.dd=false)(hrm:Rm 0 K)(hT:Told K G)(hsq:Sq 0 K)(ho25:o<25)(hn:3<=n)(m:Nat) :∃Y,mrK (movR n) (m+3) K o=some (Y,0)/\Fine Y.s/\∀P Q,Ste2 o P Q->P K->Q Y:=by
 by_cases hr:AC.rmV K.fr o=true
 ·exact⟨K,(Gv (mo:=movR n) h hfi.on hdd hrm hr (m+2)).1,hfi,fun _ _ C hp=>C.pq _ hp⟩
 ·have hb0:bad3 K.F<=2:=by
   have:¬ 2<bad3 K.F:=fun e=>by have:=h.dds.2 e;rw[hdd] at this;cases this
   omega
  obtain⟨s1,st1,n1,on1,d1,f1,o1,q1,-,l1⟩:=h.clS;have hb1:bad3 (clK K).F=bad3 K.F:=by have:=st1.bd;omega
  have fc:Fine (clK K).s:=by rw[on1];exact hfi
  by_cases hs:GD (clK K)=true
  ·have hs':=(Ee om).1 hs;obtain⟨Y,eY,fY,kY,lY,mY⟩:=OB (mo:=movR n) s1 fc om o1 hs' ho25 (m+1);refine⟨Y,?_,fY,fun P Q C hp=>C.pq _ (C.sp _ _ hp ((IA K).trans kY) (lY.trans (bY K)) (mY.trans (RJ K)))⟩;have hnr1:¬ AC.rmV (clK K).fr o=true:=fun e=>by
    have:=((D3 _ ho25).1 e).1;rw[o1] at this;cases this
   have hcc:clK (clK K)=clK K:=CM o1;rw[mrK,AI hr];rw[mrK,AI hnr1,hcc] at eY;exact eY
  ·have hs':¬ 5<fre (clK K).F+2*bad3 (clK K).F:=fun e=>hs ((Ee om).2 e);have hc1:=Pj s1 o1;have hsum:=AD.Im (clK K).F 12 (fun i hi=>s1.sts i hi);have h7:7<=AD.cnt (clK K).F 2 12:=by
    unfold Rm at hrm;unfold fre bad3 at *
    omega
   obtain⟨v1,v2,v3,v4⟩:=Ph s1.wf.map h7;have elv:lvF (clK K)=fun k=>((AA.lvK (clK K).L 96 k:Nat):Int):=rfl;rw[<-elv] at v1 v2 v3 v4;have hTc:Told (clK K) G:=hT.kee q1 rfl;have hrmc:Rm 0 (clK K):=(by unfold Rm at hrm ⊢;omega);obtain⟨Y,S',eY,tY,fY,nY⟩:=YK s1 fc (d1.trans hdd) hrmc hTc (by unfold Sq DX at *;omega) v2 (by rw[v3];decide) (by rw[v3];decide) false n;obtain⟨Y2,eY2,G2,X2,d2,hY⟩:=(Fg (n:=n) (b:=0) om) (clK K) G (nwS (AG.chV 12 12 (clK K).F (lvF (clK K))) false false) s1 fc.on v2 (by show (clK K).F (AG.chV 12 12 (clK K).F (lvF (clK K)))≠0;rw[v3];decide) (by show (clK K).F (AG.chV 12 12 (clK K).F (lvF (clK K)))≠3;rw[v3];decide) (d1.trans hdd) hrmc (AK hTc) (by unfold Sq at hsq ⊢;omega) (Ac _);have e2:Y2=(Y,S',0):=AR (eY2.symm.trans eY);subst e2;have hM:jU (clK K) Y G G2 (nwS (AG.chV 12 12 (clK K).F (lvF (clK K))) false false) (AG.chV 12 12 (clK K).F (lvF (clK K))) ((AA.ofL (clK K).L (AG.chV 12 12 (clK K).F (lvF (clK K)))).length) d2:=by
    rcases hY with ⟨_,M,_⟩ | ⟨c,_⟩ | ⟨c,_⟩
    ·exact M
    ·exact absurd (show (0:Nat)=14 from c) dc
    ·exact absurd (show (0:Nat)=7 from c) dc
   have hbd:=hM.stp.bd;have hd0:d2=0:=by
    have:=cX (nY rfl);omega
   have eall:∀k,mrK (movR n) (k+1) K o=mrK (movR n) k Y o:=fun k=>by
    rw[mrK,AI hr];dsimp only;rw[AI hs,AI (by rw[v1];decide),eY];dsimp only;rw[AI dc]
   have hP:∀P Q,Ste2 o P Q->P K->Q Y:=fun P Q C hp=>by
    have:=C.ty (clK K) (AG.chV 12 12 (clK K).F (lvF (clK K))) s1.wf.map fc v2 (C.sp _ _ hp (IA K) (bY K) (RJ K)) (by rw[tY])
    rwa [tY] at this
   rw[eall];by_cases hrY:AC.rmV Y.fr o=true
   ·exact⟨Y,by rw[mrK,AJ hrY],fY,hP⟩
   ·rcases hM.gc hd0 (by rw[v3];decide) with ⟨g1,g2⟩ | ⟨g1,g2⟩
    ·exact absurd ((D3 _ ho25).2 ⟨g1,om,AL om⟩) hrY
    ·have hfo:Y.fr.o=false:=by
      rcases g1 with e | e
      ·rw[e];exact o1
      ·rw[e];rfl
     obtain⟨Z,eZ,fZ,kZ,lZ,mZ⟩:=OB (mo:=movR n) hM.sit fY om hfo (by unfold Rm at hrm;omega) ho25 m;exact⟨Z,eZ,fZ,fun P Q C hp=>C.sk _ _ (hP P Q C hp) kZ lZ mZ⟩
theorem YL{H:Dp}(hH:∀K q,(H K q).length=174/\Bys (H K q))(h:Sit K G No)(hfi:Fine K.s)(hdd:K.dd=false)(hrm:Rm 0 K)(hT:Told K G)(hsq:Sq 1 K)(ho25:o<25)(hn:4<=n) :∃Z,anR (n+1) H K o=some (Z,0)/\Fine Z.s/\Z.dd=false/\∀P Q,Ste2 o P Q->P K->Q Z:=by
 obtain⟨Y,eY,fY,pY⟩:=jQ h hfi hdd hrm hT (by unfold Sq at hsq ⊢;omega) ho25 (n:=n) om (n - 2);rw[show n - 2+3=n+1 by omega] at eY;obtain⟨Y2,eY2,G2,X2,d2,s2,st2,hx⟩:=J0 (Fg (n:=n) (b:=0) om) ho25 (n+1) K G h hfi.on hdd hrm (AK hT) (by unfold Sq at hsq ⊢;omega) om (Ac _);have e2:Y2=(Y,0):=AR (eY2.symm.trans eY);subst e2;have hbY:bad3 Y.F=bad3 K.F+d2:=st2.bd;obtain⟨yon,yX,yd,yR,yr,yT,yn⟩:Y.s.on=true/\(∀b,¬ X2 b)/\Y.dd=false/\Rm 0 Y/\AC.rmV Y.fr o=true/\(Told K G->Told Y G2)/\((d2=0/\Y.nx=K.nx)\/Y.nx+1<=K.nx+8*d2):=by
  rcases hx with ⟨_,a⟩ | ⟨c,_⟩ | ⟨c,_⟩
  ·exact a
  ·exact absurd (show (0:Nat)=14 from c) dc
  ·exact absurd (show (0:Nat)=7 from c) dc
 have s2':Sit Y G2 No:=s2.mono (fun b _ y=>absurd y (yX b));have hb2:bad3 Y.F<=2:=by
  have:¬ 2<bad3 Y.F:=fun e=>by have:=s2'.dds.2 e;rw[yd] at this;cases this
  omega
 have hnY:Y.nx<DX:=by
  unfold Sq DX at *
  rcases yn with ⟨_,e⟩ | e <;> omega
 obtain⟨c,K1,s',r',R',fD,fi,-,f5,f6⟩:=I0 hH s2' fY ho25 yr hnY;have hl:=J1 ho25 fD;refine⟨(FrL K1 o (8*Y.fr.k+Y.fr.i) s' r' R').1,?_,by rw[hl.2.2.1];exact fi,hl.2.2.2.2.2.2.2.1.trans yd,fun P Q C hp=>?_⟩
 rotate_left
 ·rw[<-f6];exact C.an H _ _ (C.sk Y { Y with fr:=AC.tkS Y.fr o } (pY P Q C hp) ⟨rfl,rfl,rfl,rfl,rfl,rfl,rfl,rfl,rfl,rfl,rfl⟩ rfl rfl) f5
 have e:(FrL K1 o (8*Y.fr.k+Y.fr.i) s' r' R')=((FrL K1 o (8*Y.fr.k+Y.fr.i) s' r' R').1,0):=by rw[<-hl.1]
 rw[<-e,<-f6];exact MB (mr:=mrK (movR n) (n+1)) (mo:=movR n) (by rw[CN h];exact hdd) h.sp eY c f5
end
section
variable {K:BC}{G:BV}{V:Nat->Prop}{m n:Nat}
theorem Sit.cln1{X:Nat->Prop}(h:Sit K G X)(hu:∀j,dmg (K.s.ch j)<=1):Xu K:=by
 intro p hp hn;rcases AA.Cc K.L (p:Int) with ⟨o,ho,-,hL,-⟩ | ⟨e,-⟩
 ·obtain⟨l,D,lv⟩:=h.liv o ho (by rw[hL];omega);have ht:=lv.tab;rw[hL,AP] at ht;obtain⟨-,hE⟩:=h.rep.ent p _ D ht;have hd:∀k,k<4->hurt D (body p o (K.vs o) (K.vc o) l) (pgTo K.s p 4) k<=1:=fun k hk=>by
   rw[JZ h.wf.chip hk (h.rep.is p _ D ht k hk).2];exact hu _
  have hm:=ToldR.mends (Dt:=D) (X:=pgTo K.s p 4) (p:=p) (o:=o) (s:=K.vs o) (c:=K.vc o) (l:=l) (g:=K.tl (pgTo K.s p 4) p) hE.len hE.bys hE.may (CD h.wf.chip p 4) (h.wf.tl _ _) (fun k hk=>by have:=hd k hk;omega);obtain⟨-,-,-,-,-,-,hs,-,hg⟩:=hm;refine⟨hs,?_⟩;have h0:=hd 0 om;have h1:=hd 1 om;have h2:=hd 2 om;have h3:=hd 3 om;rw[hg];omega
 ·exact absurd e hn
def lk (b a:Nat):Int:=8*((a / 96:Nat):Int)+((min 8 (a % 96 - 8*b):Nat):Int)
theorem be(b a:Nat)(hb:b<12):lk b (a+1)=lk b a+(if b=a % 96 / 8 then 1 else 0):=by
 unfold lk;split <;> omega
theorem YM{N:Nat->Int}(h:Rq N V K)(p:Nat):Rq (fun b=>N b+(if b=p / 8 then 1 else 0)) V (inK K p).1:=by
 have h1:=cZ h p;unfold inK;dsimp only;generalize rdK K p=X at *
 split
 ·exact h1
 ·split
  ·exact h1
  ·split
   ·exact h1
   ·exact fun b hb hV=>h1 b hb hV
theorem YN(c a:Nat)(hc:c % 96=a % 96):∀(n i:Nat) (N:Nat->Int) (K:BC),Wf K->K.s.on=true->Rq N V K->Rq (fun b=>N b+(lk b (a+i+n) - lk b (a+i))) V (tdI c n i K).1:=by
 intro n
 induction n with
 | zero=>
  intro i N K _ _ h;exact h.mono (fun b=>by show N b<=N b+(lk b (a+i) - lk b (a+i));omega) (fun _ e=>e)
 | succ n ih=>
  intro i N K wf on h;obtain⟨e,on',-,wf',-⟩:=Iz wf (p:=(c+i) % 96) om on;have h1:=YM h ((c+i) % 96);rw[tdI,AI (by rw[e];simp)];refine fun b hb hV=>Int.le_trans (ih (i+1) _ _ wf' on' h1 b hb hV) ?_;have h2:=be b (a+i) hb;rw[show (a+i) % 96=(c+i) % 96 by omega] at h2;dsimp only;rw[show a+(i+1)=a+i+1 by omega,show a+i+1+n=a+i+(n+1) by omega];generalize (if b=(c+i) % 96 / 8 then (1:Int) else 0)=z at *
  generalize lk b (a+i+(n+1))=x at *
  generalize lk b (a+i+1)=y at *
  omega
theorem ce:∀(n:Nat) (K Y:BC),raK m n K=some (Y,0)->Y.qu=[]:=by
 intro n
 induction n with
 | zero=>intro K Y e;cases e
 | succ n ih=>
  intro K Y e;rw[raK] at e;split at e
  ·cases e
  ·split at e
   ·rename_i hq;cases e
    exact hq
   ·rename_i b r _;cases hy:rfK m { K with qu:=r } b.toNat with
    | none=>rw[hy] at e;cases e
    | some y=>
     rw[hy] at e;dsimp only at e;split at e
     ·rename_i c;cases e
      exact absurd rfl c
     ·exact ih _ _ e
theorem YO{H:Dp}{o:Nat}{Z:BC × Nat}(e:anR n H K o=some Z):Nh K Z.1:=jK (RG K) _ _ _ _ _ e (Nh.refl K)
theorem KF(hn:4<=n)(hm:13<=m)(h:Ivk K G)(hw:Wsd K.s)(hdd:K.dd=false)(hsq:Sq 1 K) :∃X Y Z,tdI K.cu 8 0 { K with cu:=(K.cu+8) % 96,ca:=K.ca+1 }=(X,0)/\raK (n+1) m (awK X)=some (Y,0)/\tdK (n+1) m K=some (Z,0)/\Wf X/\Eqv { K with cu:=(K.cu+8) % 96,ca:=K.ca+1 } X /\(∃G4,Sit Y G4 No/\Fine Y.s/\Y.dd=false/\Rm 0 Y/\Told Y G4/\Sq 1 Y)/\(Z=Y\/(anR (n+1) noH Y 24=some (Z,0)/\∀P Q,Ste2 24 P Q->P Y->Q Z)):=by
 obtain⟨on,X,hs,hd⟩:=h;have s1:=hs.pstep;obtain⟨e2,on2,a2,w2,t2,r2⟩:=Gw K.cu 8 0 { K with cu:=(K.cu+8) % 96,ca:=K.ca+1 } s1.wf on;have f2:Wsd (tdI K.cu 8 0 { K with cu:=(K.cu+8) % 96,ca:=K.ca+1 }).1.s:=MF K.cu 8 0 { K with cu:=(K.cu+8) % 96,ca:=K.ca+1 } hw;unfold tdK;generalize tdI K.cu 8 0 { K with cu:=(K.cu+8) % 96,ca:=K.ca+1 }=Y at *
 have s2:=s1.eqv a2 w2;have s3:=s2.eqv (L7 Y.1) (Wt w2);have eF:(awK Y.1).F=K.F:=a2.F;have eD:(awK Y.1).dd=false:=a2.dd.trans hdd;have eN:(awK Y.1).nx=K.nx:=a2.nx;have f3:Fine (awK Y.1).s:=f2.1;unfold OG;rw[AI (by rw[e2];simp)];obtain⟨hX,hrm,hT⟩:=hd hdd;have s4:Sit (awK Y.1) G No:=s3.mono (fun b _ e=>absurd e (hX b));have hrm3:Rm 0 (awK Y.1):=by unfold Rm at hrm ⊢;rw[eF];exact hrm
 have hT3:Told (awK Y.1) G:=fun b hb e=>hT b hb (by rw[<-eF];exact e);have hl:=s4.wf.qu.len;have hsq3:Sq 0 (awK Y.1):=by unfold Sq at hsq ⊢;rw[eF,eN];omega
 obtain⟨y,ey,G4,X4,d4,s5,st5,hy⟩:=L8 (n:=n+1) om m (awK Y.1) G s4 f3.on (fun _=>⟨hrm3,hT3⟩) hsq3 om;obtain⟨Y4,eY4,f4⟩:=XV (n:=n+1) om m (awK Y.1) G s4 f3 eD hrm3 hT3 hsq3 om;have e4:y=(Y4,0):=AR (ey.symm.trans eY4);subst e4;rw[ey];dsimp only;rw[AI (by simp)];have hbd:bad3 Y4.F=bad3 (awK Y.1).F+d4:=st5.bd;rcases hy with ⟨-,yon,yX,ydd,yrm,yT,ynx⟩ | ⟨c,_⟩ | ⟨c,_⟩
 ·have s7:Sit Y4 G4 No:=s5.mono (fun b _ e=>absurd e (yX b));have ynx':Y4.nx<=(awK Y.1).nx+8*d4:=ynx;have hsq7:Sq 1 Y4:=by unfold Sq at hsq ⊢;rw[eF] at hbd;rw[eN] at ynx';omega
  have eY:Y=(Y.1,0):=by rw[<-e2]
  by_cases hdue:8<=Y4.ca\/AF.Sc Y4.hR Y4.hN=true
  ·rw[AJ hdue];obtain⟨Z,eZ,-,dZ,pZ⟩:=YL (H:=noH) (fun _ _=>⟨AB.Cn _,AB.Ec _⟩) s7 f4 ydd yrm yT hsq7 (o:=24) dc (n:=n) hn;refine⟨Y.1,Y4,Z,eY,ey,by rw[eZ];rfl,w2,a2,⟨G4,s7,f4,ydd,yrm,yT,hsq7⟩,AL ⟨eZ,pZ⟩⟩
  ·rw[AI hdue];exact⟨Y.1,Y4,Y4,eY,ey,rfl,w2,a2,⟨G4,s7,f4,ydd,yrm,yT,hsq7⟩,AK rfl⟩
 ·exact absurd (show (0:Nat)=14 from c) dc
 ·exact absurd (show (0:Nat)=7 from c) dc
theorem OC{B:Nat}{La:Nat->Int}(h:TI B K G La)(hB:B<1073741824):∃Z G',tdK 6 13 K=some (Z,0)/\TI (B+1) Z G' La/\Z.qu=[]:=by
 obtain⟨Z,G',e,hZ⟩:=Xt h hB;obtain⟨X,Y,Z2,e1,e2,e3,-,-,-,hz⟩:=KF (n:=5) (m:=13) dc dc h.iv.iv h.wd h.dd (h.iv.sq hB);obtain rfl:Z=Z2:=(Prod.mk.inj (AR (e.symm.trans e3))).1;refine⟨Z,G',e,hZ,?_⟩;rcases hz with rfl | ⟨ea,-⟩
 ·exact ce _ _ _ e2
 ·rw[(YO ea).qu];exact ce _ _ _ e2
end
section
variable {K:BC}
def Dz (s0 s:BG):Prop:=∀j,dmg (s.ch j)=0\/s.ch j=s0.ch j
theorem Dz.refl(s:BG):Dz s s:=fun _=>AL rfl
theorem jR(s0:BG):jL (Dz s0) where
 w s a k l h:=fun j=>by
  unfold writeR
  split
  ·
   exact h j
  ·
   split
   ·
    exact h j
   ·
    split
    ·
     exact h j
    ·
     split
     ·
      exact h j
     ·
      split
      ·
       exact h j
      ·
       show dmg (if j=4*a.toNat+k.toNat then E4 l else s.ch j)=0\/(if j=4*a.toNat+k.toNat then E4 l else s.ch j)=s0.ch j
       split
       ·
        exact AK (Fh rfl)
       ·
        exact h j
 e s b h:=fun j=>by
  unfold eraseR
  split
  ·
   exact h j
  ·
   split
   ·
    exact h j
   ·
    split
    ·
     exact h j
    ·
     split
     ·
      exact h j
     ·
      show dmg (if 32*b.toNat<=j/\j<32*b.toNat+32 then DW else s.ch j)=0\/(if 32*b.toNat<=j/\j<32*b.toNat+32 then DW else s.ch j)=s0.ch j
      split
      ·
       exact AK (Fh rfl)
      ·
       exact h j
 r s a h:=fun j=>by
  rw[OA]
  exact h j
def Cl (s:BG) (p:Nat):Prop:=∀k,k<4->dmg (s.ch (4*p+k))=0
theorem YP(s:BG)(a:Nat)(W:Nat->List Nat):∀n,n<=4->(wrN s a W n).2=0->∀k,k<n->dmg ((wrN s a W n).1.ch (4*a+k))=0
 | 0,_,_,k,hk=>om
 | n+1,hn,h,k,hk=>by
  rw[wrN] at h ⊢
  by_cases e:(wrN s a W n).2=0
  ·
   rw[AJ e] at h ⊢
   by_cases hkn:k=n
   ·
    subst hkn
    revert h
    unfold writeR
    split
    ·
     exact fun e=>absurd e (by decide:¬ (1:Nat)=0)
    ·
     split
     ·
      exact fun e=>absurd e (by decide:¬ (7:Nat)=0)
     ·
      split
      ·
       exact fun e=>absurd e (by decide:¬ (9:Nat)=0)
      ·
       split
       ·
        exact fun e=>absurd e (by decide:¬ (7:Nat)=0)
       ·
        split
        ·
         exact fun e=>absurd e (by decide:¬ (8:Nat)=0)
        ·
         intro _
         rw[AP,AP]
         show dmg (if 4*a+k=4*a+k then E4 (W k) else _:GY)=0
         rw[AJ rfl]
         exact Fh rfl
   ·
    have h1:=YP s a W n om e k om
    rcases(jR (wrN s a W n).1).w _ a n (W n) (Dz.refl _) (4*a+k) with e2 | e2
    ·
     exact e2
    ·
     rw[e2];exact h1
  ·
   rw[AI e] at h
   exact absurd h e
theorem kw{t:Bu}{D:List Nat}(h:(prK K t D).2=0):Cl (prK K t D).1.s t.p:=by
 have hw:=YP K.s t.p (wordOf D (body t.p t.o t.q t.c t.l)) 4 (AM _);unfold prK prF at h ⊢;dsimp only at h ⊢;generalize wrN K.s t.p (wordOf D (body t.p t.o t.q t.c t.l)) 4=W at *
 have hc:=QJ K.tl W.1 K.r t.p;generalize rdF K.tl W.1 K.r t.p=R at *
 by_cases c1:W.2≠0
 ·rw[AJ c1] at h;unfold FE at h;dsimp only at h;split at h
  ·exact absurd h c1
  ·cases h
 ·rw[AI c1] at h ⊢;have hw2:=hw (Decidable.not_not.1 c1);intro k hk;split
  ·rw[hc];exact hw2 k hk
  ·rw[hc];exact hw2 k hk
theorem cg{H:Dp}{p o:Nat}(h:(frK H K p o).2.2=0):Cl (frK H K p o).1.s (frK H K p o).2.1.p/\(frK H K p o).1.L=K.L:=by
 unfold frK at h ⊢;by_cases hs:K.sp=true
 ·rw[AJ hs] at h;cases h
 ·rw[AI hs] at h ⊢;dsimp only at h ⊢;have h1:=kw (K:=sqK K) (t:=⟨p,o,K.nx,0,false⟩) (D:=H (sqK K) K.nx);have h2:=(Vl (sqK K) ⟨p,o,K.nx,0,false⟩ (H (sqK K) K.nx)).1;generalize prK (sqK K) ⟨p,o,K.nx,0,false⟩ (H (sqK K) K.nx)=x at *
  by_cases c:x.2≠0
  ·rw[AJ c] at h;exact absurd h c
  ·rw[AI c] at h ⊢;have h3:=h1 (Decidable.not_not.1 c);split
   ·exact⟨h3,h2⟩
   ·exact⟨h3,h2⟩
theorem mU(K:BC)(b:Int):(lvK K b).L=K.L:=by
 unfold lvK;split
 ·exact bY K
 ·rfl
end
section
variable {s V M:Nat}{K:BC}{v l:Int}{N:Nat->Int}
def lb (s:Nat) (K:BC):Nat:=(K.L s).toNat / 8
theorem ky(bd:Bool):∀(l:List Nat) (K:BC) (S:BW),(∀t ∈ (cpK bd l K S).2.1.ld,t ∈ S.ld\/t.o ∈ l)/\(cpK bd l K S).2.1.ld.length<=S.ld.length+l.length/\(cpK bd l K S).1.L=K.L/\(cpK bd l K S).1.mv=K.mv/\(cpK bd l K S).2.1.fm=S.fm:=by
 intro l
 induction l with
 | nil=>intro K S;exact⟨fun t ht=>AK ht,AM _,rfl,rfl,rfl⟩
 | cons o l ih=>
  intro K S;unfold cpK;split
  ·obtain⟨h1,h2,h3,h4,h5⟩:=ih K S;exact⟨fun t ht=>(h1 t ht).imp id (mem_cons_of_mem _),by rw[An];omega,h3,h4,h5⟩
  ·dsimp only;have l1:=(PT K o).1;have m1:(coK K o).1.mv=K.mv:=by
    have hr:∀p,(rdK K p).1.mv=K.mv:=fun p=>by
     unfold rdK;dsimp only;split <;> rfl
    unfold coK;split
    ·rfl
    ·dsimp only;split
     ·exact hr _
     ·split
      ·exact hr _
      ·split <;> exact hr _
   generalize coK K o=c at *
   have l2:=(Lo c.1 S o).1;have m2:(tiK c.1 S o).1.mv=c.1.mv:=by
    unfold tiK;split
    ·rfl
    ·split <;> rfl
   obtain⟨⟨f2,-,-⟩,d2⟩:=PV c.1 S o;generalize tiK c.1 S o=t at *
   have l3:=(PU t.1 ⟨t.2.2.1,o,t.1.vs o,(t.1.vc o+1) % 256,c.2.2.1⟩ c.2.1).1;have m3:(prM t.1 ⟨t.2.2.1,o,t.1.vs o,(t.1.vc o+1) % 256,c.2.2.1⟩ c.2.1).1.mv=t.1.mv:=by
    unfold prM;split
    ·rfl
    ·rfl
   generalize prM t.1 ⟨t.2.2.1,o,t.1.vs o,(t.1.vc o+1) % 256,c.2.2.1⟩ c.2.1=p at *
   split
   ·exact⟨fun t ht=>AK ht,Nat.le_add_right _ _,l1,m1,rfl⟩
   ·split
    ·exact⟨fun x hx=>AK (by rw[<-d2];exact hx),by rw[d2];omega,l2.trans l1,m2.trans m1,f2⟩
    ·split
     ·exact⟨fun x hx=>AK (by rw[<-d2];exact hx),by rw[d2];omega,l3.trans (l2.trans l1),m3.trans (m2.trans m1),f2⟩
     ·obtain⟨h1,h2,h3,h4,h5⟩:=ih p.1 { t.2.1 with ld:=t.2.1.ld ++ [⟨t.2.2.1,o,t.1.vs o,(t.1.vc o+1) % 256,c.2.2.1⟩] };refine⟨fun x hx=>?_,?_,h3.trans (l3.trans (l2.trans l1)),h4.trans (m3.trans (m2.trans m1)),h5.trans f2⟩
      ·rcases h1 x hx with h | h
       ·rcases mem_append.1 h with h | h
        ·exact AK (by rw[<-d2];exact h)
        ·rw[mem_singleton.1 h];exact AL (mem_cons_self ..)
       ·exact AL (mem_cons_of_mem _ h)
      ·have:(t.2.1.ld ++ [(⟨t.2.2.1,o,t.1.vs o,(t.1.vc o+1) % 256,c.2.2.1⟩:Bu)]).length=S.ld.length+1:=by rw[AV,d2];rfl
       rw[An];dsimp only at h2;omega
theorem mV(s:Nat):∀(l:List Bu) (K:BC),(∀t ∈ l,t.o≠s)->(cmL l K).1.L s=K.L s:=by
 intro l
 induction l with
 | nil=>intro K _;rfl
 | cons t l ih=>
  intro K h;have h1:(layK K t).1.L s=K.L s:=by
   show AA.setL K.L t.o t.p s=K.L s;unfold AA.setL;split
   ·rw[AP,BP _ _ (fun e=>h t (mem_cons_self ..) e.symm)]
   ·rfl
  unfold cmL;split
  ·exact h1
  ·rw[ih _ (fun x hx=>h x (mem_cons_of_mem _ hx))];exact h1
theorem lA:∀(l:List Bu) (K:BC),(cmL l K).1.mv=K.mv:=by
 intro l
 induction l with
 | nil=>intro K;rfl
 | cons t l ih=>
  intro K;unfold cmL;split
  ·rfl
  ·exact ih _
theorem ck(hm:AA.Okl K.L)(hf:Fine K.s)(hV:V<12)(h0:(tyK K (nwS V false false)).2.2=0)(s:Nat) :(lb s K≠V->(tyK K (nwS V false false)).1.L s=K.L s)/\∃m:Nat,m<=8/\(tyK K (nwS V false false)).1.mv=wrap64 (K.mv+m)/\((tyK K (nwS V false false)).1.L s=K.L s\/1<=m):=by
 rw[XS] at h0 ⊢;have e0:(false || (false && bearK K))=false:=by simp
 rw[e0] at h0 ⊢;have hl8:((AA.ofL K.L V).map Int.toNat).length<=8:=by rw[A7];exact AA.CT K.L V 8
 have ho:=(Ed hm V).1;obtain⟨a1,a2,a3,a4,a5⟩:=ky false ((AA.ofL K.L V).map Int.toNat) K { nwS V false false with tt:=noF,ld:=[] };have hfi:Fine (cpK false ((AA.ofL K.L V).map Int.toNat) K { nwS V false false with tt:=noF,ld:=[] }).1.s:=QH (jL.kpq (Q:=Fine) ⟨fun s a k l h=>(h.write a k l).1,fun s b h=>(h.erase b).1,fun s a h=>(h.readV a).1⟩).toKpr false _ K _ hf;generalize cpK false ((AA.ofL K.L V).map Int.toNat) K { nwS V false false with tt:=noF,ld:=[] }=x at *
 by_cases c:x.2.2≠0
 ·rw[AJ c] at h0;exact absurd h0 c
 ·rw[AI c,AI (show ¬ false=true by decide)] at h0 ⊢;unfold XR at h0 ⊢;dsimp only at h0 ⊢;have e1:=RI hfi hV;have eE:(erK x.1 V).2=0/\(erK x.1 V).1.L=x.1.L/\(erK x.1 V).1.mv=x.1.mv:=by
   unfold erK;dsimp only;rw[AJ e1];exact⟨rfl,rfl,rfl⟩
  rw[AJ eE.1] at h0 ⊢;have hld:∀t ∈ x.2.1.ld,t.o<25/\(K.L t.o).toNat / 8=V:=fun t ht=>by
   rcases a1 t ht with h | h
   ·cases h
   ·obtain⟨q1,-,q3⟩:=ho _ h;exact⟨q1,q3⟩
  have hlen:x.2.1.ld.length<=8:=by
   have:x.2.1.ld.length<=0+((AA.ofL K.L V).map Int.toNat).length:=a2;omega
  have key:∀(K1:BC) (S:BW) (st:Int),(cmK K1 S st).2=0->(cmK K1 S st).1.L=(cmL S.ld K1).1.L/\(cmK K1 S st).1.mv=wrap64 (K1.mv+S.ld.length):=by
   intro K1 S st h;have hmv:=lA S.ld K1;unfold cmK at h ⊢;dsimp only at h ⊢;generalize cmL S.ld K1=y at *
   by_cases c2:y.2≠0
   ·rw[AJ c2] at h;exact absurd h c2
   ·rw[AI c2];have f1:(stK (lvK y.1 S.fm) S.fm st).L=y.1.L:=mU _ _;have f2:(stK (lvK y.1 S.fm) S.fm st).mv=y.1.mv:=by
     show (lvK y.1 S.fm).mv=y.1.mv;unfold lvK;split
     ·exact RJ _
     ·rfl
    generalize stK (lvK y.1 S.fm) S.fm st=z at *
    have f3:=bY z;have f4:=RJ z;dsimp only;split
    ·refine⟨f3.trans f1,?_⟩;show wrap64 ((clK z).mv+_)=_;rw[f4,f2,hmv]
    ·exact⟨f1,by rw[f2,hmv]⟩
  obtain⟨k1,k2⟩:=key _ _ _ h0;rw[k1,k2,eE.2.2,a4];have hbase:(erK x.1 V).1.L s=K.L s:=by rw[eE.2.1,a3]
  refine⟨fun hne=>?_,x.2.1.ld.length,hlen,rfl,?_⟩
  ·rw[mV s _ _ (fun t ht e=>hne (by have:=(hld t ht).2;rw[e] at this;exact this)),hbase]
  ·by_cases hn:x.2.1.ld=[]
   ·left;rw[hn];exact hbase
   ·right;exact length_pos_iff.2 hn
def Pmv (s:Nat) (v l:Int) (M:Nat) (K:BC):Prop:=∃m:Nat,m<=M/\(K.mv=wrap64 (v+m)\/K.mv=v/\m=0)/\(K.L s=l\/1<=m)
theorem TO(v:Int)(a b:Nat):wrap64 (wrap64 (v+a)+b)=wrap64 (v+(a+b:Nat)):=by
 unfold wrap64
 push_cast;omega
theorem co(K:BC)(t:Bu)(h:t.o≠s):(layK K t).1.L s=K.L s:=by
 show AA.setL K.L t.o t.p s=K.L s;unfold AA.setL;split
 ·rw[AP,BP _ _ (fun e=>h e.symm)]
 ·rfl
theorem YQ{H:Dp}{p o:Nat}(h:(frK H K p o).2.2=0):(frK H K p o).2.1.o=o/\(frK H K p o).1.mv=K.mv:=by
 unfold frK at h ⊢;by_cases hs:K.sp=true
 ·rw[AJ hs] at h;cases h
 ·rw[AI hs] at h ⊢;dsimp only at h ⊢;have h2:(prK (sqK K) ⟨p,o,K.nx,0,false⟩ (H (sqK K) K.nx)).1.mv=K.mv:=rfl;generalize prK (sqK K) ⟨p,o,K.nx,0,false⟩ (H (sqK K) K.nx)=x at *
  by_cases c:x.2≠0
  ·rw[AJ c] at h;exact absurd h c
  ·rw[AI c];split
   ·exact⟨rfl,h2⟩
   ·exact⟨rfl,h2⟩
theorem YR(hm:AA.Okl K.L)(hf:Fine K.s)(hV:V<12)(h:Pmv s v l M K)(h0:(tyK K (nwS V false false)).2.2=0):Pmv s v l (M+8) (tyK K (nwS V false false)).1:=by
 obtain⟨m,hm1,hm2,hm3⟩:=h;obtain⟨-,m2,h1,h2,h3⟩:=ck hm hf hV h0 s;refine⟨m+m2,om,AK ?_,?_⟩
 ·rcases hm2 with hm2 | ⟨hm2,hz⟩
  ·rw[h2,hm2,TO]
  ·rw[h2,hm2,hz,AW]
 ·rcases h3 with h3 | h3
  ·rw[h3];exact hm3.imp id om
  ·exact AL om
theorem Pmv.ne(h:Pmv s v l M K)(hM:M<=1000)(hL:K.L s≠l):K.mv≠v:=by
 obtain⟨m,h1,h2,h3⟩:=h;have h4:=h3.resolve_left hL;rcases h2 with h2 | ⟨-,h2⟩
 ·rw[h2];unfold wrap64;omega
 ·omega
theorem bf(hs:s<24)(v l:Int)(M:Nat):Ste2 24 (Pmv s v l M) (Pmv s v l (M+8)) where
 pq K:=fun ⟨m,h1,h2⟩=>⟨m,om,h2⟩
 sp K K':=fun ⟨m,h1,h2,h3⟩ _ e1 e2=>⟨m,h1,by rw[e2];exact h2,by rw[e1];exact h3⟩
 sk K K':=fun ⟨m,h1,h2,h3⟩ _ e1 e2=>⟨m,h1,by rw[e2];exact h2,by rw[e1];exact h3⟩
 an H K p:=fun ⟨m,h1,h2,h3⟩ e=>by
  obtain⟨f1,f2⟩:=YQ e
  obtain⟨-,f3⟩:=cg e
  refine⟨m,h1,by
   show (frK H K p 24).1.mv=_\/(frK H K p 24).1.mv=_/\_
   rw[f2];exact h2,?_⟩
  rw[co _ _ (by rw[f1];omega),f3]
  exact h3
 ty K V hm hf hV h h0:=YR hm hf hV h h0
structure cq (s:Nat) (N:Nat->Int) (K:BC):Prop where
 oth:Rq N (fun b=>b=lb s K) K
 own:Rq (fun _=>511) (fun b=>b≠lb s K) K
theorem cq.ty(hN:∀b,0<=N b/\N b<=511)(hm:AA.Okl K.L)(hf:Fine K.s)(hV:V<12)(h:Rq N (fun b=>b=lb s K) K)(h2:lb s K=V\/Rq (fun _=>511) (fun b=>b≠lb s K) K)(h0:(tyK K (nwS V false false)).2.2=0):cq s N (tyK K (nwS V false false)).1:=by
 obtain⟨hL,-⟩:=ck hm hf hV h0 s;by_cases e:lb s K=V
 ·have h1:Rq N No (tyK K (nwS V false false)).1:=ML (fun x hx=>AL (hx.trans e)) hm hf hV (hN V).1 h h0;exact⟨h1.mono (fun _=>Int.le_refl _) (fun _ f=>f.elim),h1.mono (fun b=>(hN b).2) (fun _ f=>f.elim)⟩
 ·have h3:=h2.resolve_left e;have el:lb s (tyK K (nwS V false false)).1=lb s K:=by unfold lb;rw[hL e]
  constructor
  ·rw[el];exact ML (fun x hx=>AK hx) hm hf hV (hN V).1 h h0
  ·rw[el];exact ML (fun x hx=>AK hx) hm hf hV dc h3 h0
theorem bg(hs:s<24)(hN:∀b,0<=N b/\N b<=511):mS 24 (cq s N):=YI (fun K K' h k l _=>by
 have el:lb s K'=lb s K:=by unfold lb;rw[l]
 exact⟨by rw[el];exact h.oth.skn k,by rw[el];exact h.own.skn k⟩) (fun H K p h e=>by
 obtain⟨f1,-⟩:=YQ e
 obtain⟨-,f3⟩:=cg e
 have el:lb s (layK (frK H K p 24).1 (frK H K p 24).2.1).1=lb s K:=by
  unfold lb
  rw[co _ _ (by rw[f1];omega),f3]
 exact⟨by rw[el];exact(YJ H K p 24 h.oth).skn (Fj _ _),by rw[el];exact(YJ H K p 24 h.own).skn (Fj _ _)⟩) (fun K V hm hf hV h h0=>cq.ty hN hm hf hV h.oth (AL h.own) h0)
end
section
variable {K:BC}{G:BV}
theorem bh{R L:Nat->Int}{x:Nat}(hx:x<12)(h1:512<=R x/\0<AA.lvK L 96 x)(h:∀b,b<12->b≠x->R b<512):∀(n i:Nat) (q:List Int),i+n=12->awQ R L n i q=if i<=x then AE.PL q (x:Nat) else q:=by
 intro n
 induction n with
 | zero=>intro i q hi;rw[AI om];rfl
 | succ n ih=>
  intro i q hi;rw[awQ,ih (i+1) _ om];have hm:AF.much 512 R (i:Nat)=decide (512<=R i):=by
   unfold AF.much;rw[AJ om,AP]
  by_cases e:i=x
  ·subst e;rw[AI om,AJ (AM _),hm,AJ ⟨AO h1.1,h1.2⟩]
  ·have:¬ (AF.much 512 R (i:Nat)=true/\0<AA.lvK L 96 i):=fun k=>by
    have k1:=k.1;rw[hm] at k1;have:=of_decide_eq_true k1;have:=h i om e;omega
   rw[AI this];by_cases c:i<=x
   ·rw[AJ c,AJ om]
   ·rw[AI c,AI om]
theorem lB{n:Nat}(h:Sit K G No)(hfi:Fine K.s)(hdd:K.dd=false)(hrm:Rm 0 K)(hT:Told K G)(hnx:K.nx<DX){b:Nat}(hb:b<12)(hl:∃o,o<25/\K.L o≠-1/\(K.L o).toNat / 8=b)(hS:AF.much 3 K.hS (b:Nat)=false) :∃Y S',rfK n K b=some ({ Y with rp:=wrap64 (Y.rp+1),md:=wrap64 (Y.md+(AA.ofV K.L (b:Nat)).length) },0)/\tyK K (nwS b false false)=(Y,S',0):=by
 obtain⟨o,ho25,hoL,hob⟩:=hl;obtain⟨hF0,hF3⟩:=h.blk o ho25 hoL;rw[hob] at hF0 hF3;have hF3':K.F b≠3:=fun e=>by have:=hF3 e;rw[hdd] at this;cases this
 obtain⟨Y,S',eY,tY,-,-⟩:=YK h hfi hdd hrm hT hnx hb hF0 hF3' false n;refine⟨Y,S',?_,tY⟩;have eo:AA.ofV K.L (b:Nat)=AA.ofL K.L b:=by unfold AA.ofV;rw[AI om,AP]
 unfold rfK;rw[hS,eY,AI (fun e=>by
  have:=(Ed h.wf.map b).2.2 o ho25 hoL hob
  rw[<-eo,e] at this
  cases this)]
 rfl
structure Tir (s c B:Nat) (K:BC) (G:BV) (La:Nat->Int):Prop where
 fn:TI B K G La
 un:Un K.s
 qu:K.qu=[]
 hS:K.hS=fun _=>0
 cu:K.cu=(8*c) % 96
 L:K.L s≠-1
 tb:cq s (fun b=>1+lk b (8*c)) K
theorem cw(b c:Nat)(hc:c<=704):0<=lk b (8*c)/\lk b (8*c)<=480:=by
 unfold lk;omega
theorem lC(b c:Nat):lk b (8*c)<=lk b (8*c+8)/\lk b (8*c+8)<=lk b (8*c)+8:=by
 unfold lk;omega
theorem OD{s c B:Nat}(hs:s<24)(hc:c<=702){La:Nat->Int}(f:TI B K G La)(hB:B<1073741824)(un:Un K.s)(qu:K.qu=[])(hS:K.hS=fun _=>0)(cu:K.cu=(8*c) % 96)(L:K.L s≠-1)(rq:Rq (fun b=>1+lk b (8*c)) (fun b=>b=lb s K) K){H:Nat->Int}(rh:Rq H No K) :∃Z G',tdK 6 13 K=some (Z,0)/\Tir s (c+1) (B+1) Z G' La/\Pmv s K.mv (K.L s) 16 Z/\(Z.rp=K.rp\/496<=H (lb s K)):=by
 obtain⟨Z,G',e,hZ,hq⟩:=OC f hB;obtain⟨X,Y,Z2,e1,e2,e3,wX,aX,⟨G4,s4,f4,d4,m4,t4,q4⟩,hz⟩:=KF (n:=5) (m:=13) dc dc f.iv.iv f.wd f.dd (f.iv.sq hB);obtain rfl:Z=Z2:=(Prod.mk.inj (AR (e.symm.trans e3))).1;obtain⟨hsit,hr,ht⟩:=f.sit;have hwf:=hsit.wf;have hcl:Xu { K with cu:=(K.cu+8) % 96,ca:=K.ca+1 }:=hsit.cln1 (fun j=>by rw[J8 (un.2 j)];exact Ac _);have q1:=Ky K.cu 8 0 { K with cu:=(K.cu+8) % 96,ca:=K.ca+1 } (hwf.pat' om _) f.wd.1.on hcl;have r1:=YN K.cu (8*c) om 8 0 (fun b=>1+lk b (8*c)) { K with cu:=(K.cu+8) % 96,ca:=K.ca+1 } (hwf.pat' om _) f.wd.1.on (show Rq _ (fun b=>b=lb s K) { K with cu:=(K.cu+8) % 96,ca:=K.ca+1 } from rq);have r2:=YN K.cu (8*c) om 8 0 H { K with cu:=(K.cu+8) % 96,ca:=K.ca+1 } (hwf.pat' om _) f.wd.1.on (show Rq H _ { K with cu:=(K.cu+8) % 96,ca:=K.ca+1 } from rh);have f2:Wsd (tdI K.cu 8 0 { K with cu:=(K.cu+8) % 96,ca:=K.ca+1 }).1.s:=MF K.cu 8 0 { K with cu:=(K.cu+8) % 96,ca:=K.ca+1 } f.wd;rw[e1] at q1 r1 r2 f2;dsimp only at q1 r1 r2 f2;rw[show 8*c+0+8=8*c+8 by omega,show 8*c+0=8*c by omega] at r1 r2;have elX:X.L=K.L:=q1.eqv.L;have elb:lb s X=lb s K:=by unfold lb;rw[elX]
 have hlb:lb s K<12:=by
  have:=(hwf.lt (by omega:s<25) L).1;unfold lb;omega
 have hNb:∀b,0<=1+lk b (8*(c+1))/\1+lk b (8*(c+1))<=481:=fun b=>by have:=cw b (c+1) om;omega
 have e8:8*c+8=8*(c+1):=om
 have r3:Rq (fun b=>1+lk b (8*(c+1))) (fun b=>b=lb s K) X:=r1.mono (fun b=>by rw[e8];omega) (fun _ x=>x);have hoth:∀b,b<12->b≠lb s K->X.hR b<512:=fun b hb hne=>by
  have h1:=r3 b hb hne;have h2:=MK X.s b 8;have h3:=hNb b;dsimp only at h1;omega
 have hw:CE X=false:=by
  have:=CN hsit;rw[f.dd] at this;unfold CE at this ⊢;rw[q1.eqv.F,q1.eqv.dd];exact this
 have hcu:X.cu=(8*(c+1)) % 96:=by
  rw[q1.eqv.cu];show (K.cu+8) % 96=_;rw[cu];omega
 have hZL:Z.L s≠-1:=by
  obtain⟨Z3,e4,G9,d9,st,-⟩:=Q5 (n:=5) (m:=13) dc dc f.iv.iv (f.iv.sq hB);obtain rfl:Z3=(Z,0):=AR (e4.symm.trans e);exact fun k=>L ((st.lv s hs).1 k)
 have hZu:Un Z.s:=Xr e un;have hXmv:X.mv=K.mv:=q1.mv;have hXm:Pmv s K.mv (K.L s) 0 X:=⟨0,AM _,AL ⟨hXmv,rfl⟩,AK (by rw[elX])⟩
 suffices key:∀(P:BC),Y=P->cq s (fun b=>1+lk b (8*(c+1))) P->P.hS=(fun _=>0)->P.cu=(8*(c+1)) % 96->Pmv s K.mv (K.L s) 8 P->(P.rp=K.rp\/496<=H (lb s K))->Tir s (c+1) (B+1) Z G' La/\Pmv s K.mv (K.L s) 16 Z/\(Z.rp=K.rp\/496<=H (lb s K)) by
  by_cases hcase:X.hR (lb s K)<512
  ·have hlt:∀b,b<12->X.hR b<512:=fun b hb=>by
    by_cases x:b=lb s K
    ·rw[x];exact hcase
    ·exact hoth b hb x
   have haw:awK X=X:=by
    unfold awK;rw[Nx hlt 12 0 _ rfl]
   have eY:Y=X:=by
    rw[haw,raK,AI (by rw[hw];simp),q1.qu,qu] at e2;cases e2
    rfl
   obtain⟨m,m1,m2⟩:=hXm;exact⟨Z,G',e,key X eY ⟨by rw[elb];exact r3,by
    rw[elb]
    intro b hb hne
    have:b=lb s K:=Decidable.not_not.1 hne
    rw[this]
    show X.hR (lb s K)<=511+_
    omega⟩ (q1.hS.trans hS) hcu ⟨m,om,m2⟩ (AK q1.rp)⟩
  ·have hge:512<=X.hR (lb s K):=om;have hmem:s ∈ (AA.ofL K.L (lb s K)).map Int.toNat:=(Ed hwf.map (lb s K)).2.2 s om L rfl;have hlive:0<AA.lvK X.L 96 (lb s K):=by
    rw[elX,AA.In _ hlb];cases hq:AA.ofL K.L (lb s K) with
    | nil=>rw[hq] at hmem;cases hmem
    | cons x r=>exact Nat.succ_pos _
   have haw:awK X={ X with qu:=[((lb s K:Nat):Int)] }:=by
    unfold awK;rw[bh hlb ⟨hge,hlive⟩ hoth 12 0 _ rfl,AJ (Ac _),q1.qu,show ({ K with cu:=(K.cu+8) % 96,ca:=K.ca+1 }:BC).qu=[] from qu];unfold AE.PL;rw[AI (by simp;omega)];rfl
   have s2:Sit X G No:=hsit.pstep.eqv aX wX;have s3:Sit { X with qu:=[] } G No:=s2.cntq (q:=[]) ⟨nodup_nil,fun _ x=>(by cases x)⟩ X.rp X.md;have hnx:({ X with qu:=[] }:BC).nx<DX:=by
    have h1:=f.iv.sq hB;have h2:bad3 K.F<=2:=by
     have:¬ 2<bad3 K.F:=fun e=>by have:=hsit.dds.2 e;rw[f.dd] at this;cases this
     omega
    have h3:X.nx=K.nx:=aX.nx;show X.nx<DX;unfold Sq DX at *
    omega
   obtain⟨Yt,S',er,et⟩:=lB (n:=6) s3 f2.1 (aX.dd.trans f.dd) (by have hF:X.F=K.F:=aX.F;unfold Rm at hr ⊢;show 5+0<=fre X.F+2*bad3 X.F;rw[hF];exact hr) (fun b hb x=>ht b hb (by have hF:X.F=K.F:=aX.F;rw[<-hF];exact x)) hnx hlb ⟨s,om,by show X.L s≠-1;rw[elX];exact L,by show (X.L s).toNat / 8=_;rw[elX];rfl⟩ (by
    have hS2:X.hS=fun _=>0:=q1.hS.trans hS
    show AF.much 3 X.hS _=false
    rw[hS2]
    unfold AF.much
    rw[AJ om]
    rfl)
   have fx:Nh { X with qu:=[] } Yt:=by
    have:=YF (RG { X with qu:=[] }) { X with qu:=[] } (nwS (lb s K) false false) (Nh.refl _)
    rwa [et] at this
   have eY:Y={ Yt with qu:=[],rp:=wrap64 (Yt.rp+1),md:=wrap64 (Yt.md+(AA.ofV ({ X with qu:=[] }:BC).L ((lb s K:Nat):Int)).length) }:=by
    rw[haw,raK] at e2;rw[AI (show ¬ CE { X with qu:=[((lb s K:Nat):Int)] }=true by
     have:CE { X with qu:=[((lb s K:Nat):Int)] }=CE X:=rfl
     rw[this,hw];simp)] at e2
    dsimp only at e2;rw[AP,er] at e2;dsimp only at e2;rw[AI (by simp),raK] at e2;split at e2
    ·cases e2
    ·rw[show ({ Yt with rp:=wrap64 (Yt.rp+1),md:=wrap64 (Yt.md+(AA.ofV ({ X with qu:=[] }:BC).L ((lb s K:Nat):Int)).length) }:BC).qu=[] from fx.qu] at e2;exact(Prod.mk.inj (AR e2)).1.symm
   have h0:(tyK { X with qu:=[] } (nwS (lb s K) false false)).2.2=0:=(by rw[et]);have elb2:lb s { X with qu:=[] }=lb s K:=elb;have tb:cq s (fun b=>1+lk b (8*(c+1))) Yt:=by
    have:=cq.ty (N:=fun b=>1+lk b (8*(c+1))) (fun b=>by have:=hNb b;omega) (K:={ X with qu:=[] }) (V:=lb s K) s3.wf.map f2.1 hlb (by rw[elb2];exact fun b hb hV=>r3 b hb hV) (AK elb2) h0
    rwa [et] at this
   have pm:Pmv s K.mv (K.L s) 8 Yt:=by
    have:=YR (K:={ X with qu:=[] }) (V:=lb s K) s3.wf.map f2.1 hlb (show Pmv s K.mv (K.L s) 0 { X with qu:=[] } from hXm) h0
    rwa [et] at this
   refine⟨Z,G',e,key _ eY ⟨tb.oth,tb.own⟩ (fx.hS.trans (q1.hS.trans hS)) (fx.cu.trans hcu) pm (AL ?_)⟩;have h1:=r2 (lb s K) hlb (fun x=>x);have h2:=MK X.s (lb s K) 8;have h3:=lC (lb s K) c;dsimp only at h1;omega
 rintro P rfl tb hS2 cu2 pm hrp;rcases hz with rfl | ⟨ea,pa⟩
 ·obtain⟨m,m1,m2⟩:=pm;exact⟨⟨hZ,hZu,hq,hS2,cu2,hZL,tb⟩,⟨m,om,m2⟩,hrp⟩
 ·have fx:=YO ea;refine⟨⟨hZ,hZu,hq,fx.hS.trans hS2,fx.cu.trans cu2,hZL,pa _ _ (bg hs (fun b=>by have:=hNb b;omega)) tb⟩,pa _ _ (bf hs _ _ 8) pm,?_⟩;rw[fx.rp];exact hrp
end
section
variable {s c B:Nat}{K:BC}{G:BV}{La:Nat->Int}
set_option linter.unusedSimpArgs false
theorem Tir.call(hs:s<24)(hc:c<=702)(h:Tir s c B K G La)(hB:B+1<1073741824) :∃Y,geK K s=(Y,En (La s),0)/\lK Y (fun Z=>(∃G',Tir s (c+1) (B+2) Z G' La)/\Pmv s K.mv (K.L s) 16 Z/\(Z.rp=K.rp\/480<=K.hR (lb s K))):=by
 obtain⟨Y,e,f⟩:=bG h.fn om hs;obtain⟨hp,-⟩:=h.fn.sit.1.wf.lt (by omega:s<25) h.L;have hu:=Xq K s h.un;rw[e] at hu;have hcl:Xu K:=h.fn.sit.1.cln1 (fun j=>by rw[J8 (h.un.2 j)];exact Ac _);have q:=(J6 h.fn.sit.1.wf hp h.fn.wd.1.on hcl).2;have r1:=YM h.tb.oth (K.L s).toNat;have r2:=YM (N:=K.hR) (V:=fun _=>False) (K:=K) (fun b _ _=>om) (K.L s).toNat;have eK:(inK K (K.L s).toNat).1=Y:=by
  unfold geK at e;rw[AI h.L] at e;dsimp only at e;generalize inK K (K.L s).toNat=X at *
  split at e
  ·exact(Prod.mk.inj e).1
  ·split at e <;> exact(Prod.mk.inj e).1
 rw[eK] at q r1 r2;have elb:lb s Y=lb s K:=by unfold lb;rw[q.eqv.L]
 obtain⟨Z,G',e3,t,pm,hr⟩:=OD hs hc f om hu (q.qu.trans h.qu) (q.hS.trans h.hS) (q.eqv.cu.trans h.cu) (by rw[q.eqv.L];exact h.L) (by
  rw[elb]
  intro b hb hne
  have:=r1 b hb hne
  dsimp only at this
  rw[AI (fun x=>hne (by rw[x];rfl))] at this
  show Y.hR b<=1+lk b (8*c)+_
  omega) r2
 have hca:Y.ca<9223372036854775807:=by have:=f.iv.ca;omega
 refine⟨Y,e,hca,Z,e3,⟨G',t⟩,?_,?_⟩
 ·rw[q.mv,q.eqv.L] at pm;exact pm
 ·rw[q.rp,elb] at hr;refine hr.imp id fun x=>?_;rw[AJ (show lb s K=(K.L s).toNat / 8 from rfl)] at x;omega
theorem TP(hs:s<24)(hB:OI K G)(hL:IU 1 K G)(h0:K.hS=fun _=>0)(hc:K.cu=0) :∃Y,anR 6 (fun _ _=>En 1 ++ List.replicate 14 0) K s=some (Y,0)/\lK Y (fun Z=>∃G',Tir s 1 2 Z G' (upd (fun _=>0) s 1)):=by
 have f:=hB.fin hL.un;obtain⟨Y,G1,e,f1⟩:=bF f dc hs 1;have fx:=YO e;have hu:=H8 _ _ _ _ _ e hL.un;obtain⟨hsit,hr,ht⟩:=f.sit;have hYL:Y.L s≠-1:=by
  obtain⟨Z,e2,-,hz⟩:=Q8 (n:=5) dc f.iv.iv f.iv.l24 (f.iv.sq dc) hs (Eh 1) (I4 1);obtain rfl:Z=(Y,0):=AR (e2.symm.trans e);rcases hz with ⟨-,G',d,-,-,-,-,-,q,-⟩ | ⟨G',d,-,-,q⟩
  ·exact q
  ·rcases q with ⟨c,-⟩ | ⟨c,-⟩
   ·exact absurd (show (0:Nat)=14 from c) dc
   ·exact absurd (show (0:Nat)=7 from c) dc
 obtain⟨Y2,e2,-,-,pa⟩:=YL (H:=fun _ _=>En 1 ++ List.replicate 14 0) (fun _ _=>⟨Eh 1,I4 1⟩) hsit f.wd.1 f.dd hr ht (f.iv.sq dc) (o:=s) om (n:=5) dc;obtain rfl:Y=Y2:=(Prod.mk.inj (AR (e.symm.trans e2))).1;have r1:=pa _ _ (jP (N:=fun _=>1) (fun _=>dc) s) (fun b hb _=>by
  obtain⟨h1,h2,h3⟩:=hL.rd b hb
  show K.hR b<=1+_
  omega)
 obtain⟨Z,G',e3,t,-,-⟩:=OD (c:=0) hs dc f1 dc hu (fx.qu.trans hL.qu) (fx.hS.trans h0) (by rw[fx.cu,hc]) hYL (r1.mono (fun b=>by show (1:Int)<=1+lk b (8*0);unfold lk;omega) (fun _ x=>x.elim)) r1;exact⟨Y,e,by have:=f1.iv.ca;omega,Z,e3,G',t⟩
theorem Tir.reads(hc:c<=704)(h:Tir s c B K G La){b:Nat}(hb:b<12):(K.s.bl b).reads<528:=by
 obtain⟨h1,h2,h3⟩:=h.fn.iv.rd b hb;have h4:=MK K.s b 8;have h5:=cw b c hc;by_cases e:b=lb s K
 ·have h6:K.hR b<=511+(npN K.s b 8:Nat):=h.tb.own b hb (fun x=>x e);omega
 ·have h6:K.hR b<=1+lk b (8*c)+(npN K.s b 8:Nat):=h.tb.oth b hb e;omega
theorem YS(w:Wd):Calls prog 10 #[] w fun e w'=>∃D A K G,e=.returned (.tuple #[.pointer (some ⟨A.g,0,none⟩),.pointer (some ⟨D,0,none⟩)])/\(∀k,Cor A k->w.heap.size<=k)/\w.heap.size<=D/\Dmt w' D A K/\((OI K G/\IU 1 K G)/\K.hS=(fun _=>0)/\K.cu=0)/\Chg No w w':=by
 obtain⟨tl,htl⟩:=cY;have HTL:=BB htl;have qn:=BJ;have p1:=RE;have p2:=Fi;clear htl;go_enter func10,ntmps10;go_wp2_with fail;refine(My w).mono ?_;rintro e w1 ⟨rfl,hC1,G1⟩;have HL1:=BB hC1.lt;have HC1:=BB hC1;have HG1:=BB G1;clear hC1 G1;go_wp2_with fail;refine(N7 w.heap.size w1).mono ?_;rintro e w2 ⟨rfl,hD2,G2⟩;have HC2:=BB (HC1.out.chg G2 (fun f=>f));have HG2:=BB (HG1.out.trans G2);have hmt:=Gy w1.heap.size w.heap.size Fz CL.new tl HTL.out w2 HC2.out hD2 (by have:=HL1.out;omega);have HLD:=BB hD2.lt;clear hD2 G2;go_wp2_with fail;refine hmt.mono ?_;rintro e w3 ⟨A,K,G,hF,rfl,hD3,hK,hB0,⟨-,hB1⟩,G3⟩;have hB:=And.intro hB0 hB1;have HF:=BB hF;have eg:A.g=w.heap.size:=hF.1;have HD3:=BB hD3;have HK:=BB hK;have HB:=BB hB;have HG3:=BB (HG2.out.trans' G3 (fun k hk e=>by have:=HG1.out.size;omega));clear hmt hF hD3 hK hB hB0 hB1 G3;go_wp2;go_ret2;have hs1:=HG1.out.size;have hl1:=HL1.out;have hld:=HLD.out;have nlt:=HG2.out.size;refine⟨w1.heap.size,A,K,G,by rw[eg];rfl,fun k e=>?_,hs1,⟨by rw[eg];exact HD3.out,HK.out,fun e=>?_⟩,HB.out,HG3.out⟩
 ·obtain⟨a,b,c,d,e',f,i,j,l,n⟩:=HF.out;rcases e with e | e | e | e | e | e | e | e <;> omega
 ·obtain⟨a,b,c,d,e',f,i,j,l,n⟩:=HF.out;rcases e with e | e | e | e | e | e | e | e <;> omega
theorem RK(z:Int)(h:jA z)(n:Nat)(hn:0<n)(hn2:n<10000000)(w:Wd) :Calls prog 11 #[.int .i64 z,.int .i64 n] w fun e w'=>e=.returned (.int .i64 (pkN z n:Nat))/\w'=w:=by
 obtain⟨h1,h2⟩:=h;have hne:((n:Int) == 0)=false:=by simp only[beq_eq_false_iff_ne];omega
 have hne2:¬ (n:Int)=0:=om
 have hnm:¬ (n:Int) = -1:=om
 by_cases hz:z<0
 ·have hq:=aq hz n hn;go_enter func11,ntmps11;go_wp2;go_ret;exact⟨rfl,rfl⟩
 ·have hq:=ar hz n hn;go_enter func11,ntmps11;go_wp2;go_ret;exact⟨rfl,rfl⟩
end
end Go.Proofs.YtbhbilcieodbhaaGreat
