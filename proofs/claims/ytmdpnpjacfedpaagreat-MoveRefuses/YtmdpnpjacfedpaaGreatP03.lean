/-
  Lemmas.
-/
import Derived.Test.YtmdpnpjacfedpaaGreatOm
import Derived.Test.YtmdpnpjacfedpaaGreatP02
import Derived.Deep.Draws
import Derived.Deep.LoopGhost
set_option maxRecDepth 1000000
set_option maxHeartbeats 16000000
set_option linter.unusedSimpArgs false
namespace Go.Proofs.YtmdpnpjacfedpaaGreat
open List
open Go.Proofs.Tryz
open Go.RowKit
section
variable {w w' u:Wd}{t l sd l':Bool}{p s c d o r of p' o' s' c':Int}{v:Value}{k g b m q:Nat}{S:Nat->Prop}{ops:Array Oper}{rest:List Oper}{a:Act}{Q:Exit->Act->World->Prop}{fn:Func}
def EO (w:Wd) (m g p q b:Nat) (r:Int):Prop:=w.heap[m]?=some (.cells #[.pointer (some ⟨g,0,none⟩),.pointer (some ⟨p,0,none⟩),.int .i64 r] 239)/\Frm w p q b
theorem EO.lt{p:Nat}(h:EO w m g p q b r):m<w.heap.size:=(Array.getElem?_eq_some_iff.1 h.1).1
theorem EO.cells{p:Nat}(h:EO w m g p q b r):w.cell? ⟨m,0,none⟩=some (.pointer (some ⟨g,0,none⟩))/\w.cell? ⟨m,1,none⟩=some (.pointer (some ⟨p,0,none⟩))/\w.cell? ⟨m,2,none⟩=some (.int .i64 r):=by
 refine⟨?_,?_,?_⟩ <;> simp[World.cell?,h.1]
theorem EO.mb{p:Nat}(h:EO w m g p q b r):m≠b:=by
 intro e;obtain⟨c,z,hc,-⟩:=D8 h.2.1.1;have h2:=h.1;rw[e,hc] at h2;simp at h2
theorem EO.but{p:Nat}(h:EO w m g p q b r)(hF:Frm w' p q b)(hB:But b w w'):EO w' m g p q b r:=⟨(hB.block m h.lt h.mb).trans h.1,hF⟩
theorem EO.chg{p:Nat}(h:EO w m g p q b r)(hc:Chg No w w'):EO w' m g p q b r:=⟨(hc.block m h.lt (fun f=>f)).trans h.1,h.2.chg hc⟩
theorem EO.lts{p:Nat}(h:EO w m g p q b r):m<w.heap.size/\p<w.heap.size/\q<w.heap.size/\b<w.heap.size:=⟨h.lt,h.2.lt,h.2.1.lt,h.2.1.1.lt⟩
theorem EO.far{p:Nat}(h:EO w m g p q b r)(hc:Chg S w w')(hm:¬ S m)(hp:¬ S p)(hq:¬ S q)(hb:¬ S b):EO w' m g p q b r:=
 ⟨(hc.block m h.lt hm).trans h.1,h.2.other (hc.block b h.2.1.1.lt hb) (hc.block q h.2.1.lt hq) (hc.block p h.2.lt hp)⟩
theorem But.fresh(h:But b u w)(hc:Chg (·=k) w w')(hk:u.heap.size<=k):But b u w':=
 ⟨hc.os.trans h.os,hc.tape.trans h.tape,hc.output.trans h.output,AY h.size hc.size,fun i hi hb=>(hc.block i (Aj hi h.size) om).trans (h.block i hi hb)⟩
theorem Mi{c:Nat}(h:c≠0):errV c=.iface 57 (.int .i64 (c:Int)):=AI h
theorem Hq{c:Nat}(hc:DK c)(h:c≠0)(w:Wd):(binOp .neq 46 (.iface 57 (.int .i64 (c:Int))) .nilIface).run prog w=.ok (.bool true) w:=by
 rcases hc with rfl | rfl | rfl | rfl
 ·exact absurd rfl h
 ·exact EI w
 ·exact FT w
 ·exact Hj w
theorem Hs{c:Nat}(hc:DK c)(h:c≠0)(w:Wd):(binOp .eql 46 (.iface 57 (.int .i64 (c:Int))) .nilIface).run prog w=.ok (.bool false) w:=by
 rcases hc with rfl | rfl | rfl | rfl
 ·exact absurd rfl h
 ·exact Nv w
 ·exact Nw w
 ·exact MT w
theorem If:errV 0=.nilIface:=rfl
def Pb (w:Wd) (k:Nat) (t:Bool) (p o s c:Int) (l sd:Bool) (v:Value) (d:Int):Prop:=w.heap[k]?=some (.cells #[.bool t,.int .i64 p,.int .i64 o,.int .i64 s,.int .i64 c,.bool l,.bool sd,v,.int .i64 d] 132)
theorem Pb.new(w:Wd)(t:Bool)(p o s c:Int)(l sd:Bool)(v:Value)(d:Int):Pb (w.alloc (.cells #[.bool t,.int .i64 p,.int .i64 o,.int .i64 s,.int .i64 c,.bool l,.bool sd,v,.int .i64 d] 132)) w.heap.size t p o s c l sd v d:=by
 show (w.heap.push _)[w.heap.size]?=_;simp
theorem Pb.lt(h:Pb w k t p o s c l sd v d):k<w.heap.size:=(Array.getElem?_eq_some_iff.1 (show w.heap[k]?=some _ from h)).1
theorem Pb.chg(h:Pb w k t p o s c l sd v d)(hc:Chg S w w')(hk:¬ S k):Pb w' k t p o s c l sd v d:=(hc.block k h.lt hk).trans h
theorem Pb.alloc(h:Pb w k t p o s c l sd v d)(x:Obj):Pb (w.alloc x) k t p o s c l sd v d:=(Below.heap_alloc _ _ _ h.lt).trans h
theorem Pb.cells(h:Pb w k t p o s c l sd v d) :w.cell? ⟨k,0,none⟩=some (.bool t)/\w.cell? ⟨k,1,none⟩=some (.int .i64 p)/\w.cell? ⟨k,2,none⟩=some (.int .i64 o)/\w.cell? ⟨k,3,none⟩=some (.int .i64 s)/\w.cell? ⟨k,4,none⟩=some (.int .i64 c)/\w.cell? ⟨k,5,none⟩=some (.bool l)/\w.cell? ⟨k,6,none⟩=some (.bool sd)/\w.cell? ⟨k,7,none⟩=some v/\w.cell? ⟨k,8,none⟩=some (.int .i64 d):=by
 have h':w.heap[k]?=some _:=h;refine⟨?_,?_,?_,?_,?_,?_,?_,?_,?_⟩ <;> simp[World.cell?,h']
theorem Pb.frozen(h:Pb w k t p o s c l sd v d)(i:Nat):w.frozen? ⟨k,i,none⟩=false:=by
 have h':w.heap[k]?=some _:=h;simp[World.frozen?,h']
theorem Pb.set0(h:Pb w k t p o s c l sd v d)(t':Bool):Pb (w.setCell ⟨k,0,none⟩ (.bool t')) k t' p o s c l sd v d:=heap_setCell_same w k 0 _ 132 _ h
theorem Pb.set1(h:Pb w k t p o s c l sd v d)(p':Int):Pb (w.setCell ⟨k,1,none⟩ (.int .i64 p')) k t p' o s c l sd v d:=heap_setCell_same w k 1 _ 132 _ h
theorem Pb.set2(h:Pb w k t p o s c l sd v d)(o':Int):Pb (w.setCell ⟨k,2,none⟩ (.int .i64 o')) k t p o' s c l sd v d:=heap_setCell_same w k 2 _ 132 _ h
theorem Pb.set3(h:Pb w k t p o s c l sd v d)(s':Int):Pb (w.setCell ⟨k,3,none⟩ (.int .i64 s')) k t p o s' c l sd v d:=heap_setCell_same w k 3 _ 132 _ h
theorem Pb.set4(h:Pb w k t p o s c l sd v d)(c':Int):Pb (w.setCell ⟨k,4,none⟩ (.int .i64 c')) k t p o s c' l sd v d:=heap_setCell_same w k 4 _ 132 _ h
theorem Pb.set5(h:Pb w k t p o s c l sd v d)(l':Bool):Pb (w.setCell ⟨k,5,none⟩ (.bool l')) k t p o s c l' sd v d:=heap_setCell_same w k 5 _ 132 _ h
theorem Pb.set6(h:Pb w k t p o s c l sd v d)(sd':Bool):Pb (w.setCell ⟨k,6,none⟩ (.bool sd')) k t p o s c l sd' v d:=heap_setCell_same w k 6 _ 132 _ h
theorem Pb.set7(h:Pb w k t p o s c l sd v d)(v':Value):Pb (w.setCell ⟨k,7,none⟩ v') k t p o s c l sd v' d:=heap_setCell_same w k 7 _ 132 _ h
theorem Pb.tag(h:Pb w k t p o s c l sd v d)(p' o' s' c':Int)(l':Bool):Pb (w.setCells k 1 [.int .i64 p',.int .i64 o',.int .i64 s',.int .i64 c',.bool l']) k t p' o' s' c' l' sd v d:=
 ((((h.set1 p').set2 o').set3 s').set4 c').set5 l'
theorem gR(h:Chg S u w)(hk:S k\/u.heap.size<=k)(vs:List Value):Chg S u (w.setCells k 1 vs):=Chg.setCells hk vs 1 h
theorem Mj:(prog.info? 132).map (·.size)=some 9:=kr
theorem wpList_load_pg{o:Oper}(hgd:o.guard=none)(x:Operand)(ho:o.op=.load 132 x)(g:Nat)(hx:a.eval x=.pointer (some ⟨g,0,none⟩))(hg:Pb w g t p of s c l sd v d)(h:wpList prog ops Q rest (a.put o.dst (.agg #[.bool t,.int .i64 p,.int .i64 of,.int .i64 s,.int .i64 c,.bool l,.bool sd,v,.int .i64 d])) w):wpList prog ops Q (o :: rest) a w:=
 wpList_load_row hgd 132 x ho g hx 132 _ _ _ hg underlying132 rfl Mj h
theorem wpList_store_pg{o:Oper}(hgd:o.guard=none)(x y:Operand)(ho:o.op=.store 132 x y)(g:Nat)(hx:a.eval x=.pointer (some ⟨g,0,none⟩))(hy:a.eval y=.agg #[.bool t,.int .i64 p,.int .i64 of,.int .i64 s,.int .i64 c,.bool l,.bool sd,v,.int .i64 d])(hv:v.oneCell'=true){t':Bool}{sd':Bool}{v':Value}{d':Int}(hg:Pb w g t' p' o' s' c' l' sd' v' d')(h:∀w',Pb w' g t p of s c l sd v d->Chg (·=g) w w'->wpList prog ops Q rest (a.put o.dst undef) w'):wpList prog ops Q (o :: rest) a w:=
 wpList_store_row hgd 132 x y ho g _ hx hy 132 _ hg Mj rfl (by simp[hv];simp[Value.oneCell']) (h _ (setRow_heap w g _ _ 132 _ hg) ⟨rfl,rfl,rfl,by simp,fun k _ hk=>setRow_other _ _ _ _ hk⟩)
theorem Pb.there(h:Pb w k t p o s c l sd v d):w.there k 1 5:=fun j hj=>by
 obtain⟨-,h1,h2,h3,h4,h5,-⟩:=h.cells
 refine⟨?_,h.frozen _⟩
 rcases(by omega:j=0\/j=1\/j=2\/j=3\/j=4) with rfl | rfl | rfl | rfl | rfl
 ·
  rw[h1];rfl
 ·
  rw[h2];rfl
 ·
  rw[h3];rfl
 ·
  rw[h4];rfl
 ·
  rw[h5];rfl
theorem Ek{o:Oper}(hgd:o.guard=none)(x y:Operand)(ho:o.op=.store 130 x y)(g:Nat)(hx:a.eval x=.pointer (some ⟨g,1,none⟩))(hy:a.eval y=.agg #[.int .i64 p,.int .i64 of,.int .i64 s,.int .i64 c,.bool l])(hg:Pb w g t p' o' s' c' l' sd v d)(h:∀w',Pb w' g t p of s c l sd v d->Chg (·=g) w w'->wpList prog ops Q rest (a.put o.dst undef) w'):wpList prog ops Q (o :: rest) a w:=
 wpList_store_mid hgd 130 x y ho g 1 _ hx hy hg.there Gj (by simp[Value.oneCell']) (h _ (hg.tag p of s c l) (gR (S:=(·=g)) (Chg.refl _ w) (AK rfl) _))
theorem Gl{q:Tmp}(h:fn.results=#[.cell q 132])(tmps:Array Value)(hp:tmps.getD q undef=.pointer (some ⟨g,0,none⟩))(hT:Pb w g t p o s c l sd v d) :(results fn tmps).run prog w=.ok (.agg #[.bool t,.int .i64 p,.int .i64 o,.int .i64 s,.int .i64 c,.bool l,.bool sd,v,.int .i64 d]) w:=
 results_cell_row h tmps w g 132 _ _ _ hp hT underlying132 rfl Mj
theorem CO{q u:Tmp}(h:fn.results=#[.cell q 132,.tmp u])(tmps:Array Value)(hp:tmps.getD q undef=.pointer (some ⟨g,0,none⟩))(hT:Pb w g t p o s c l sd v d) :(results fn tmps).run prog w=.ok (.tuple #[.agg #[.bool t,.int .i64 p,.int .i64 o,.int .i64 s,.int .i64 c,.bool l,.bool sd,v,.int .i64 d],tmps.getD u undef]) w:=by
 rw[results_cell_tmp h,hp];simp[asAddr,run_loadVar_row w g 132 132 _ _ _ hT underlying132 rfl Mj]
def Zo (g:Pg) (v:Value):Value:=.agg #[.bool g.tagged,.int .i64 g.p,.int .i64 g.o,.int .i64 g.s,.int .i64 g.c,.bool g.l,.bool g.sound,v,.int .i64 g.dmg]
theorem Ob(m g p q b:Nat)(r:Int)(w:Wd)(h:EO w m g p q b r)(c o cap:Nat)(L:List Nat)(hL:L.length=256)(bL:Bys L)(hcb:c≠b)(hcs:c<w.heap.size)(hcap:256<=cap)(hh:Ca w (.slice (some ⟨c,o,none⟩) 256 cap) L) :Calls prog 214 #[.pointer (some ⟨m,0,none⟩),.slice (some ⟨c,o,none⟩) 256 cap] w fun e w'=>∃d:Nat,e=.returned (.int .i64 d)/\DmgR L d/\EO w' m g p q b r/\But b w w':=by
 have HH:=BE hh;have HL:=BE hL;have HM:=BE h;clear hh hL h;go_enter func214,ntmps214;go_wp2_with fail
 go_loopw [5,10] (fun t5 t10 wr=>∃(k:Nat) (R:Nat->List Nat) (d e:Nat->Nat),k<=4/\t10=.int .i64 k/\t5=.int .i64 (dmgs d e k:Nat)/\(∀j,j<k->MsgR L (j:Nat) (R j) (d j) (e j))/\EO wr m g p q b r/\But b w wr) (fun _ t10 _=>4 - (intOf t10).toNat)
 case atStart=>exact⟨0,fun _=>[],fun _=>0,fun _=>0,om,rfl,rfl,fun j hj=>absurd hj om,HM.out,But.refl _ _⟩
 case round=>
  obtain⟨k,R,d,e,hk,rfl,rfl,hR,hM,hB⟩:=hrel;by_cases hlt:k<4
  ·have hlt':(k:Int)<4:=om;obtain⟨c0,c1,c2⟩:=hM.cells;have hHx:=HH.out.chg hB.chg (fun k _ he e=>hcb ((AR he).trans e));have hsx:=hB.size;have hcall:=TY p q b wr hM.2 c o 256 cap L HL.out.symm bL hcb om hcap hHx (k:Nat);have HR:=BE hR;have HMx:=BE hM;have HBx:=BE hB;clear hR hM hB hHx;go_wp2_with fail;refine hcall.mono ?_;rintro x w2 ⟨⟨a,n,cp,R2,d2,e2,rfl,-,hm,-⟩,hF2,hB2⟩;clear hcall;have HM2:=BE (HMx.out.but hF2 hB2);have HB2:=BE (HBx.out.trans hB2);have hcode:=hm.code;have hR2:∀j,j<k+1->MsgR L (j:Nat) (if j=k then R2 else R j) (if j=k then d2 else d j) (if j=k then e2 else e j):=by
    intro j hj;by_cases ej:j=k
    ·subst ej;rw[AJ rfl,AJ rfl,AJ rfl];exact hm
    ·rw[AI ej,AI ej,AI ej];exact HR.out j om
   have hd0:dmgs (fun j=>if j=k then d2 else d j) (fun j=>if j=k then e2 else e j) k=dmgs d e k:=KU k (fun j hj=>⟨by rw[AI om],by rw[AI om]⟩);have hd1:dmgs (fun j=>if j=k then d2 else d j) (fun j=>if j=k then e2 else e j) (k+1)=if e2=0 then max (dmgs d e k) d2 else dmgs d e k:=by
    show (if (if k=k then e2 else e k)=0 then max (dmgs _ _ k) (if k=k then d2 else d k) else dmgs _ _ k)=_;rw[hd0,AJ rfl,AJ rfl]
   have HR2:=BE hR2;have HD1:=BE hd1;have q1:=JH;by_cases he:e2=0
   ·subst he;rw[AJ rfl] at HD1;clear hd1 hd0 hR2 hm hF2 hB2 HMx HBx hcode;rw[If];go_wp2;exact⟨⟨k+1,_,_,_,om,by go_num,by rw[HD1.out];go_num,HR2.out,HM2.out,HB2.out⟩,by simp[intOf];omega⟩
   ·have q2:=Hs hcode.1 he;rw[AI he] at HD1;rw[Mi he];clear hd1 hd0 hR2 hm hF2 hB2 HMx HBx hcode;go_wp2;exact⟨⟨k+1,_,_,_,om,by go_num,by rw[HD1.out],HR2.out,HM2.out,HB2.out⟩,by simp[intOf];omega⟩
  ·obtain rfl:k=4:=om
   have HR:=BE hR;clear hR;go_wp2;go_ret;exact⟨_,rfl,⟨R,d,e,HR.out,rfl⟩,hM,hB⟩
end
section
variable {w:Wd}{L B:List Nat}{d m g p q b:Nat}{s:BM}{r:Int}
theorem BodR.good(h:BodR L B d 0):B.length=50/\Bys B:=by
 rcases h with ⟨_,_,_,e⟩ | ⟨_,_,_,_,e⟩ | ⟨_,r,hg,⟨_,_,_,e⟩ | ⟨_,rfl,_,_⟩⟩
 ·cases e
 ·cases e
 ·cases e
 ·exact⟨by rw[length_take,hg.2.1];decide,fun n hn=>hg.2.2.1 n (mem_of_mem_take hn)⟩
theorem DatR.good(h:DatR L B d 0):B.length=174/\Bys B:=by
 rcases h with ⟨_,_,_,e⟩ | ⟨_,_,_,_,e⟩ | ⟨_,r0,r1,r2,h0,h1,h2,rfl,_,_⟩
 ·cases e
 ·cases e
 ·refine⟨by rw[AV,AV,h0.2.1,h1.2.1,h2.2.1],fun n hn=>?_⟩;rcases mem_append.1 hn with hn | hn
  ·rcases mem_append.1 hn with hn | hn
   ·exact h0.2.2.1 n hn
   ·exact h1.2.2.1 n hn
  ·exact h2.2.2.1 n hn
def ko (L:List Nat) (a:Int) (e:Ending):Prop:=
 ∃(B:List Nat) (bd bc:Nat),BodR L B bd bc /\
  ((¬ KV B bc a/\e=.returned (.tuple #[.agg #[.int .i64 0,.int .i64 0,.int .i64 0,.int .i64 0,.bool false],.bool false])) \/
   (KV B bc a/\e=.returned (.tuple #[.agg #[.int .i64 (fld B 0 2:Nat),.int .i64 (fld B 2 1:Nat),.int .i64 (fld B 3 5:Nat),.int .i64 (fld B 8 1:Nat),.bool (FW B)],.bool true])))
theorem We(m g p q b:Nat)(r:Int)(w:Wd)(h:EO w m g p q b r)(a:Int)(c o cap:Nat)(L:List Nat)(hL:L.length=256)(bL:Bys L)(hcb:c≠b)(hcs:c<w.heap.size)(hcap:256<=cap)(hh:Ca w (.slice (some ⟨c,o,none⟩) 256 cap) L) :Calls prog 215 #[.pointer (some ⟨m,0,none⟩),.int .i64 a,.slice (some ⟨c,o,none⟩) 256 cap] w fun e w'=>ko L a e/\EO w' m g p q b r/\But b w w':=by
 have hb:=GF;have HT:=BE (Tg.new w 0 0 0 0 false);have G0:Chg No w (w.alloc (.cells #[.int .i64 0,.int .i64 0,.int .i64 0,.int .i64 0,.bool false] 130)):=(Chg.refl _ w).alloc _;have M0:=h.chg G0;have H0:=hh.chgF G0;have hs0:=G0.size;obtain⟨hms,hps,hqs,hbs⟩:=h.lts;have hcall:=gJ p q b _ M0.2 c o 256 cap L hL.symm bL hcb om hcap H0;obtain⟨c0,c1,c2⟩:=M0.cells;have HM:=BE M0;have HG:=BE G0;have q1:=Bt;have q2:=E4;have q3:∀w:World,(binOp .neq 46 (.iface 57 (.int .i64 3)) .nilIface).run prog w=.ok (.bool true) w:=fun w=>kr
 clear G0 M0 H0 hL hh h hs0;go_enter func215,ntmps215;go_wp2_with fail;refine hcall.mono ?_;rintro x w1 ⟨⟨ad,n,cp,B,bd,bc,rfl,hn,hB,hO⟩,hF1,hB1⟩;clear hcall;have hcode:=hB.code.1;have HM1:=BE (HM.out.but hF1 hB1);have HB1:=BE (show But b w w1 from HG.out.but.trans hB1);have HT1:=BE (HT.out.chg hB1.chg (fun e=>om));clear c0 c1 c2 HM HT HG hF1 hB1;by_cases hbc:bc=0
 ·subst hbc;obtain⟨hlB,bB⟩:=hB.good;have hd:=OH w1 ad n cp B bB hn (by obtain⟨g',cap',hv,-,-,hle,-⟩:=hO.lies om;injection hv;omega) hO.held;rw[If];have HBd:=BE hB;have HlB:=BE hlB;clear hcode hB hlB hO hn;go_wp2_with fail;refine hd.mono ?_;rintro x w2 ⟨v,y,rfl,hans,G2⟩;clear hd;have HM2:=BE (HM1.out.chg G2);have HB2:=BE (HB1.out.trans G2.but);have HT2:=BE (HT1.out.chg G2 (fun e=>e));clear HM1 HB1 HT1 G2;rcases hans with ⟨h5,-⟩ | ⟨-,hni,rfl,rfl⟩ | ⟨-,his,rfl,rfl⟩
  ·exact absurd HlB.out h5
  ·have T3:=HT2.out.alloc (.cells #[.int .i64 0,.int .i64 0,.int .i64 0,.int .i64 0,.bool false] 130);have HM3:=BE (HM2.out.chg ((Chg.refl _ w2).alloc (.cells #[.int .i64 0,.int .i64 0,.int .i64 0,.int .i64 0,.bool false] 130)));have HB3:=BE (HB2.out.alloc (.cells #[.int .i64 0,.int .i64 0,.int .i64 0,.int .i64 0,.bool false] 130));have HT3:=BE T3;clear T3 HM2 HB2 HT2;go_wp2_with (refine BO rfl (.tmp 6) (.tmp 38) rfl w.heap.size rfl rfl HT3.out ?_);intro w4 T4 G4;have HT4:=BE T4;have M4:=HM3.out.far G4 om om om om;have B4:=HB3.out.fresh G4 (AM _);have HM4:=BE M4;have HB4:=BE B4;clear T4 G4 M4 B4 HM3 HB3 HT3;go_wp2;refine AZ (Bf rfl _ rfl HT4.out) rfl ?_;exact⟨⟨B,bd,0,HBd.out,AK ⟨fun ht=>hni ht.2.1,rfl⟩⟩,HM4.out,HB4.out⟩
  ·have T3:=HT2.out.alloc (.cells #[.int .i64 (fld B 0 2:Nat),.int .i64 (fld B 2 1:Nat),.int .i64 (fld B 3 5:Nat),.int .i64 (fld B 8 1:Nat),.bool (FW B)] 130);have V3:=Tg.new w2 (fld B 0 2:Nat) (fld B 2 1:Nat) (fld B 3 5:Nat) (fld B 8 1:Nat) (FW B);have HM3:=BE (HM2.out.chg ((Chg.refl _ w2).alloc (.cells #[.int .i64 (fld B 0 2:Nat),.int .i64 (fld B 2 1:Nat),.int .i64 (fld B 3 5:Nat),.int .i64 (fld B 8 1:Nat),.bool (FW B)] 130)));have HB3:=BE (HB2.out.alloc (.cells #[.int .i64 (fld B 0 2:Nat),.int .i64 (fld B 2 1:Nat),.int .i64 (fld B 3 5:Nat),.int .i64 (fld B 8 1:Nat),.bool (FW B)] 130));have HT3:=BE T3;obtain⟨v0,v1,v2,v3,v4⟩:=V3.cells;clear T3 V3 HM2 HB2 HT2;by_cases hp:((fld B 0 2:Nat):Int)=a
   ·have hp':(((fld B 0 2:Nat):Int) != a)=false:=(by simp[hp]);have HP:=BE hp;clear hp;go_wp2_with (refine BO rfl (.tmp 6) (.tmp 39) rfl w.heap.size rfl rfl HT3.out ?_);intro w4 T4 G4;have HT4:=BE T4;have M4:=HM3.out.far G4 om om om om;have B4:=HB3.out.fresh G4 (AM _);have HM4:=BE M4;have HB4:=BE B4;clear T4 G4 M4 B4 HM3 HB3 HT3 v0 v1 v2 v3 v4;go_wp2;refine AZ (Bf rfl _ rfl HT4.out) rfl ?_;exact⟨⟨B,bd,0,HBd.out,AL ⟨⟨rfl,his,HP.out⟩,rfl⟩⟩,HM4.out,HB4.out⟩
   ·have hp':(((fld B 0 2:Nat):Int) != a)=true:=(by simp[hp]);have HP:=BE hp;clear hp;go_wp2_with (refine BO rfl (.tmp 6) (.tmp 38) rfl w.heap.size rfl rfl HT3.out ?_);intro w4 T4 G4;have HT4:=BE T4;have M4:=HM3.out.far G4 om om om om;have B4:=HB3.out.fresh G4 (AM _);have HM4:=BE M4;have HB4:=BE B4;clear T4 G4 M4 B4 HM3 HB3 HT3 v0 v1 v2 v3 v4;go_wp2;refine AZ (Bf rfl _ rfl HT4.out) rfl ?_;exact⟨⟨B,bd,0,HBd.out,AK ⟨fun ht=>HP.out ht.2.2,rfl⟩⟩,HM4.out,HB4.out⟩
 ·have q4:=Hq hcode hbc;rw[Mi hbc];clear hcode;go_wp2_with (refine BO rfl (.tmp 6) (.tmp 24) rfl w.heap.size rfl rfl HT1.out ?_);intro w4 T4 G4;have HT4:=BE T4;have M4:=HM1.out.far G4 om om om om;have B4:=HB1.out.fresh G4 (AM _);have HM4:=BE M4;have HB4:=BE B4;clear T4 G4 M4 B4 HM1 HB1 HT1;go_wp2;refine AZ (Bf rfl _ rfl HT4.out) rfl ?_;exact⟨⟨B,bd,bc,hB,AK ⟨fun ht=>hbc ht.1,rfl⟩⟩,HM4.out,HB4.out⟩
theorem bG(w:Wd)(d:Int):(Instr.build 132 #[(4,.int .i64 d)]).run prog w=.ok (.agg #[.bool false,.int .i64 0,.int .i64 0,.int .i64 0,.int .i64 0,.bool false,.bool false,.slice none 0 0,.int .i64 d]) w:=kr
theorem KW(w:Wd):(Instr.build 132 #[]).run prog w=.ok (.agg #[.bool false,.int .i64 0,.int .i64 0,.int .i64 0,.int .i64 0,.bool false,.bool false,.slice none 0 0,.int .i64 0]) w:=kr
theorem DR.one{base:Nat}{e:TypeId}{v:Value}{l:List Nat}(h:DR w base e v l):v.oneCell'=true:=by
 rcases h.form with ⟨rfl,_⟩ | ⟨g,cap,rfl,_⟩ <;> rfl
theorem UD(m g p q b:Nat)(r:Int)(w:Wd)(h:EO w m g p q b r)(a:Int)(c o cap:Nat)(L:List Nat)(hL:L.length=256)(bL:Bys L)(hcb:c≠b)(hcs:c<w.heap.size)(hcap:256<=cap)(hh:Ca w (.slice (some ⟨c,o,none⟩) 256 cap) L) :Calls prog 178 #[.pointer (some ⟨m,0,none⟩),.int .i64 a,.slice (some ⟨c,o,none⟩) 256 cap] w fun e w'=>∃x v,e=.returned (Zo x v)/\ToldR L a x/\DR w' w.heap.size 5 v x.data/\EO w' m g p q b r/\But b w w':=by
 have hbd:=bG;have HP:=BE (Pb.new w false 0 0 0 0 false false (.slice none 0 0) 0);have G0:Chg No w (w.alloc (.cells #[.bool false,.int .i64 0,.int .i64 0,.int .i64 0,.int .i64 0,.bool false,.bool false,.slice none 0 0,.int .i64 0] 132)):=(Chg.refl _ w).alloc _;have M0:=h.chg G0;have H0:=hh.chgF G0;have hs0:=G0.size;obtain⟨hms,hps,hqs,hbs⟩:=h.lts;have hcall:=Ob m g p q b r _ M0 c o cap L hL bL hcb om hcap H0;have HH:=BE hh;have HG:=BE G0;have HL:=BE hL;clear G0 M0 H0 hh h hs0 hL;go_enter func178,ntmps178;go_wp2_with fail;refine hcall.mono ?_;rintro x w1 ⟨d,rfl,hD,M1,B1⟩;clear hcall;have B1':But b w w1:=HG.out.but.trans B1;have HP1:=BE (HP.out.chg B1.chg (fun e=>om));have P2:=Pb.new w1 false 0 0 0 0 false false (.slice none 0 0) (d:Int);have G2:Chg No w1 (w1.alloc (.cells #[.bool false,.int .i64 0,.int .i64 0,.int .i64 0,.int .i64 0,.bool false,.bool false,.slice none 0 0,.int .i64 (d:Int)] 132)):=(Chg.refl _ w1).alloc _;have HP2:=BE (HP1.out.alloc (.cells #[.bool false,.int .i64 0,.int .i64 0,.int .i64 0,.int .i64 0,.bool false,.bool false,.slice none 0 0,.int .i64 (d:Int)] 132));have HB2:=BE (B1'.trans G2.but);have hs1:=B1'.size;have hs01:=HP1.out.lt;have hs2:=HB2.out.size;have hcall:=We m g p q b r _ (M1.chg G2) a c o cap L HL.out bL hcb om hcap (HH.out.chg HB2.out.chg (fun k _ he e=>hcb ((AR he).trans e)));have HK:=BE P2;have HD:=BE hD;clear hD M1 B1 B1' P2 G2 HP1 HP HG;go_wp2_with fail;refine hcall.mono ?_;rintro x w3 ⟨⟨B,bd,bc,hB,hT⟩,M3,B3⟩;clear hcall;have HK3:=BE (HK.out.chg B3.chg (fun e=>om));have HP3:=BE (HP2.out.chg B3.chg (fun e=>om));have HB3:=BE (HB2.out.trans B3);have HM3:=BE M3;have hne:w1.heap.size≠w.heap.size:=om
 clear HK HP2 HB2 M3 B3;rcases hT with ⟨hno,rfl⟩ | ⟨hyes,rfl⟩
 ·go_wp2_with (refine Ek rfl (.tmp 22) (.tmp 20) rfl w1.heap.size rfl rfl HK3.out ?_);intro w4 P4 G4;obtain⟨k0,-⟩:=P4.cells;have kf:=P4.frozen 0;have HP5:=BE (P4.set0 false);have G5:Chg (·=w1.heap.size) w3 (w4.setCell ⟨w1.heap.size,0,none⟩ (.bool false)):=G4.at _ 0 _;have HR5:=BE (HP3.out.chg G5 (fun e=>hne e.symm));have HM5:=BE (HM3.out.far G5 om om om om);have HB5:=BE (HB3.out.fresh G5 om);clear G4 G5 P4 HK3 HP3 HB3 HM3;go_wp2_with (first | (refine wpList_load_pg rfl (.tmp 7) rfl w1.heap.size rfl HP5.out ?_) | (refine wpList_store_pg rfl (.tmp 6) (.tmp 27) rfl w.heap.size rfl rfl rfl HR5.out ?_));intro w6 P6 G6;have HP6:=BE P6;have HM6:=BE (HM5.out.far G6 om om om om);have HB6:=BE (HB5.out.fresh G6 om);clear P6 G6 HM5 HB5 HP5 HR5 k0 kf;go_wp2;refine AZ (Gl rfl _ rfl HP6.out) rfl ?_;exact⟨⟨false,0,0,0,0,false,false,[],d⟩,_,rfl,⟨HD.out,B,bd,bc,hB,AK ⟨hno,rfl,rfl,rfl,rfl,rfl,rfl,rfl,rfl⟩⟩,CU _ _,HM6.out,HB6.out⟩
 ·go_wp2_with (refine Ek rfl (.tmp 22) (.tmp 20) rfl w1.heap.size rfl rfl HK3.out ?_);intro w4 P4 G4;obtain⟨k0,-⟩:=P4.cells;have kf:=P4.frozen 0;have P5:=P4.set0 true;have G5:Chg (·=w1.heap.size) w3 (w4.setCell ⟨w1.heap.size,0,none⟩ (.bool true)):=G4.at _ 0 _;have HR5:=BE (HP3.out.chg G5 (fun e=>hne e.symm));have M5:=HM3.out.far G5 om om om om;have HB5:=BE (HB3.out.fresh G5 om);have hs5:=HB5.out.size;obtain⟨-,c1,-⟩:=M5.cells;have hcall:=gI p q b _ M5.2 c o 256 cap L HL.out.symm bL hcb om hcap (HH.out.chg HB5.out.chg (fun k _ he e=>hcb ((AR he).trans e)));have hl5:=P5.lt;have HP5:=BE P5;have HM5:=BE M5;clear G4 G5 P4 P5 M5 HK3 HP3 HB3 HM3;go_wp2_with fail;refine hcall.mono ?_;rintro x w6 ⟨⟨ad,n,cp,R,dd,dc,rfl,rfl,hDat,hO⟩,hF6,hB6⟩;clear hcall;have hcode:=hDat.code.1;have P6:=HP5.out.chg hB6.chg (fun e=>om);have HR6:=BE (HR5.out.chg hB6.chg (fun e=>om));have HM6:=BE (HM5.out.but hF6 hB6);have HB6:=BE (HB5.out.trans hB6);have HP6:=BE P6;have HO6:=BE (show DR w6 (w1.heap.size+1) 5 (.slice ad R.length cp) R from hO.mono (fun k hk=>by have:=(hO.block hk).1;omega));clear k0 kf c1 HP5 HM5 HB5 HR5 hF6 hB6 hO;by_cases hdc:dc=0
  ·subst hdc;have e0:=JH;rw[If];obtain⟨-,-,-,-,-,-,k6,k7,-⟩:=P6.cells;have f6:=P6.frozen 6;have f7:=P6.frozen 7;have HP7:=BE ((P6.set6 true).set7 (.slice ad R.length cp));have G7:Chg (·=w1.heap.size) w6 ((w6.setCell ⟨w1.heap.size,6,none⟩ (.bool true)).setCell ⟨w1.heap.size,7,none⟩ (.slice ad R.length cp)):=((Chg.refl (·=w1.heap.size) w6).at _ 6 _).at _ 7 _;have HR7:=BE (HR6.out.chg G7 (fun e=>hne e.symm));have HM7:=BE (HM6.out.far G7 om om om om);have HB7:=BE (HB6.out.fresh G7 om);have HO7:=BE (HO6.out.chg G7 (fun k _ hk e=>by have:=(HO6.out.block hk).1;omega));clear P6 G7 HR6 HM6 HB6 HP6 HO6 hcode;go_wp2_with (first | (refine wpList_load_pg rfl (.tmp 7) rfl w1.heap.size rfl HP7.out ?_) | (refine wpList_store_pg rfl (.tmp 6) (.tmp 43) rfl w.heap.size rfl rfl rfl HR7.out ?_));intro w8 P8 G8;have HP8:=BE P8;have HM8:=BE (HM7.out.far G8 om om om om);have HB8:=BE (HB7.out.fresh G8 om);have HO8:=BE (HO7.out.chg G8 (fun k _ hk e=>by have:=(HO7.out.block hk).1;omega));clear P8 G8 HM7 HB7 HP7 HR7 HO7 k6 k7 f6 f7;go_wp2;refine AZ (Gl rfl _ rfl HP8.out) rfl ?_;exact⟨⟨true,fld B 0 2,fld B 2 1,fld B 3 5,fld B 8 1,FW B,true,R,d⟩,_,rfl,⟨HD.out,B,bd,bc,hB,AL ⟨hyes,rfl,rfl,rfl,rfl,rfl,rfl,R,dd,0,hDat,AL ⟨rfl,rfl,rfl⟩⟩⟩,HO8.out.mono (fun k hk=>by have:=(HO8.out.block hk).1;omega),HM8.out,HB8.out⟩
  ·have e0:=Hs hcode hdc;rw[Mi hdc];clear P6 HO6 hcode;go_wp2_with (first | (refine wpList_load_pg rfl (.tmp 7) rfl w1.heap.size rfl HP6.out ?_) | (refine wpList_store_pg rfl (.tmp 6) (.tmp 43) rfl w.heap.size rfl rfl rfl HR6.out ?_));intro w8 P8 G8;have HP8:=BE P8;have HM8:=BE (HM6.out.far G8 om om om om);have HB8:=BE (HB6.out.fresh G8 om);clear P8 G8 HM6 HB6 HP6 HR6;go_wp2;refine AZ (Gl rfl _ rfl HP8.out) rfl ?_;exact⟨⟨true,fld B 0 2,fld B 2 1,fld B 3 5,fld B 8 1,FW B,false,[],d⟩,_,rfl,⟨HD.out,B,bd,bc,hB,AL ⟨hyes,rfl,rfl,rfl,rfl,rfl,rfl,R,dd,dc,hDat,AK ⟨hdc,rfl,rfl⟩⟩⟩,CU _ _,HM8.out,HB8.out⟩
theorem Ig{c:Nat}(hc:nIsCode c)(h:c≠0):∃x,nerrV c=.iface 57 x/\∀w:World,(binOp .neq 46 (.iface 57 x) .nilIface).run prog w=.ok (.bool true) w:=by
 rcases hc with rfl | rfl | rfl | rfl | rfl
 ·exact absurd rfl h
 ·exact⟨_,rfl,Qc⟩
 ·exact⟨_,rfl,Qd⟩
 ·exact⟨_,rfl,Qe⟩
 ·exact⟨_,rfl,Qf⟩
theorem Qh(hs:s.Ok){a:Int}(h:(readV s a).2.2=0):(readV s a).2.1.length=256/\Bys (readV s a).2.1:=by
 unfold readV at h ⊢;split at h
 ·cases h
 ·split at h
  ·cases h
  ·rename_i h1 h2;rw[AI h1,AI h2];exact⟨DO hs _ _,WT hs _ _⟩
theorem EO.count(h:EO w m g p q b r)(r':Int):EO (w.setCell ⟨m,2,none⟩ (.int .i64 r')) m g p q b r':=by
 have hm:∀k,k≠m->(w.setCell ⟨m,2,none⟩ (.int .i64 r')).heap[k]?=w.heap[k]?:=fun k hk=>heap_setCell_other _ _ _ _ hk;refine⟨heap_setCell_same w m 2 _ 239 _ h.1,h.2.other (hm b h.mb.symm) (hm q ?_) (hm p ?_)⟩
 ·intro e;have h1:=h.2.1.2;rw[e,h.1] at h1;simp at h1
 ·intro e;have h1:w.heap[p]?=some (.cells #[.pointer (some ⟨q,0,none⟩)] 278):=h.2.2;rw[e,h.1] at h1;simp at h1
theorem EO.mg(h:EO w m g p q b r)(hC:BI w g s):m≠g/\p≠g/\q≠g/\b≠g:=by
 obtain⟨cs,hg,-,-⟩:=hC;refine⟨fun e=>?_,fun e=>?_,fun e=>?_,fun e=>?_⟩
 ·have h1:=h.1;rw[e,hg] at h1;simp at h1
 ·have h1:w.heap[p]?=some (.cells #[.pointer (some ⟨q,0,none⟩)] 278):=h.2.2;rw[e,hg] at h1;simp at h1
 ·have h1:=h.2.1.2;rw[e,hg] at h1;simp at h1
 ·obtain⟨c,z,hc,-⟩:=D8 h.2.1.1;rw[e,hg] at hc;simp at hc
theorem Lv(m g p q b:Nat)(r:Int)(s:BM)(hs:s.Ok)(w:Wd)(h:EO w m g p q b r)(hC:BI w g s)(a:Int) :Calls prog 134 #[.pointer (some ⟨m,0,none⟩),.int .i64 a] w fun e w'=>∃s' r' x c v,e=.returned (.tuple #[Zo x v,nerrV c])/\ReadR s r a s' r' x c/\DR w' w.heap.size 5 v x.data/\EO w' m g p q b r'/\BI w' g s'/\Chg (fun k=>k=m\/k=g\/k=b) w w':=by
 have hbd:=KW;have HP:=BE (Pb.new w false 0 0 0 0 false false (.slice none 0 0) 0);have G0:Chg No w (w.alloc (.cells #[.bool false,.int .i64 0,.int .i64 0,.int .i64 0,.int .i64 0,.bool false,.bool false,.slice none 0 0,.int .i64 0] 132)):=(Chg.refl _ w).alloc _;have M0:=h.chg G0;have C0:=hC.chg G0 (fun f=>f);obtain⟨hms,hps,hqs,hbs⟩:=h.lts;obtain⟨nm,np,nq,nb⟩:=h.mg hC;have hgs:=hC.lt;obtain⟨c0,-,-⟩:=M0.cells;have hcall:=Qg g s hs a _ C0;have hs0:(w.alloc (.cells #[.bool false,.int .i64 0,.int .i64 0,.int .i64 0,.int .i64 0,.bool false,.bool false,.slice none 0 0,.int .i64 0] 132)).heap.size=w.heap.size+1:=by simp
 rw[hs0] at hcall;have HG:=BE G0;have HM:=BE M0;have hcode:=KT s a;have q0:=Bt;have hmb:=h.mb;clear G0 M0 C0 hs0 h hC;go_enter func134,ntmps134;go_wp2_with fail;refine hcall.mono ?_;rintro x w1 ⟨ad,n,cap,rfl,hn,hO,C1,G1⟩;clear hcall c0;have hs1:=HG.out.size;have M1:=HM.out.far G1 nm np nq nb;have HP1:=BE (HP.out.chg G1 om);have G01:Chg (fun k=>k=m\/k=g\/k=b) w w1:=(HG.out.mono (T:=fun k=>k=m\/k=g\/k=b) (fun _ _ f=>f.elim)).trans' G1 (fun k _ e=>AL (AK e));by_cases hc:(readV s a).2.2=0
 ·obtain⟨hlen,hbys⟩:=Qh hs hc;have HC:=BE hc;rw[hc];obtain⟨g',cap',hv,hg',hg'',hle,hcl,-⟩:=hO.lies om;have hH:=hO.held;rw[show n=256 from om] at hH ⊢;rw[show n=256 from om,hlen] at hv;injection hv with hv1 hv2 hv3;subst hv1 hv3;generalize hLL:(readV s a).2.1=L at *
  have HLL:=BE hLL;clear hLL hcl hO hn hcode hc;obtain⟨-,-,c2⟩:=M1.cells;have M2:=M1.count (wrap64 (r+1));have G2:Chg (·=m) w1 (w1.setCell ⟨m,2,none⟩ (.int .i64 (wrap64 (r+1)))):=(Chg.refl (·=m) w1).at _ 2 _;have G02:Chg (fun k=>k=m\/k=g\/k=b) w (w1.setCell ⟨m,2,none⟩ (.int .i64 (wrap64 (r+1)))):=G01.trans' G2 (fun k _ e=>AK e);have C2:=C1.chg G2 (fun e=>nm e.symm);have HP2:=BE (HP1.out.chg G2 om);have hH2:=hH.chg G2 (fun k hk he e=>by have:=AR he;simp at this;omega);have hs12:=G2.size;have hs01:=HP1.out.lt;have hpage:=UD m g p q b (wrap64 (r+1)) _ M2 a g' 0 cap L hlen hbys om om om hH2;have hadd:=Ry m 2 w1 c2 (by simp[World.frozen?,M1.1]);have HM2:=BE M2;have HC2:=BE C2;have HG02:=BE G02;clear M1 M2 C1 C2 G1 G2 G02 G01 hH hH2 HP1;simp only[nerrV];go_wp2_with fail;refine hadd.mono ?_;rintro x w2 ⟨rfl,rfl⟩;clear hadd c2;go_wp2_with fail;refine hpage.mono ?_;rintro x w3 ⟨X,v,rfl,hT,hO3,M3,B3⟩;clear hpage;have HP3:=BE (HP2.out.chg B3.chg (fun e=>om));have HC3:=BE (HC2.out.chg B3.chg (fun e=>nb e.symm));have HG3:=BE (HG02.out.trans' B3.chg (fun k _ e=>AL (AL e)));have HM3:=BE M3;have HO3:=BE hO3;clear M3 B3 HC2 HG02 HP2 HM2;go_wp2_with (refine wpList_store_pg rfl (.tmp 4) (.tmp 28) rfl w.heap.size rfl rfl HO3.out.one HP3.out ?_);intro w4 P4 G4;have HP4:=BE P4;have HM4:=BE (HM3.out.far G4 om om om om);have HC4:=BE (HC3.out.chg G4 om);have HG4:=BE (HG3.out.trans' G4 (fun k hk e=>om));have HO4:=BE (HO3.out.chg G4 (fun k hk he e=>by have:=(HO3.out.block he).1;simp at this;omega));clear P4 G4 HM3 HC3 HG3 HP3 HO3;go_wp2;refine AZ (CO rfl _ rfl HP4.out) rfl ?_;exact⟨(readV s a).1,wrap64 (r+1),X,0,v,rfl,⟨rfl,HC.out.symm,AL ⟨rfl,rfl,by rw[HLL.out];exact hT⟩⟩,HO4.out.mono (fun k hk=>by have:=(HO4.out.block hk).1;simp at this;omega),HM4.out,HC4.out,HG4.out⟩
 ·obtain⟨y,hy,q1⟩:=Ig hcode hc;have HY:=BE hy;rw[hy];have HM1:=BE M1;have HC1:=BE C1;have HG1:=BE G01;clear M1 C1 G1 G01 hO hn hcode hy;go_wp2_with (refine wpList_store_pg rfl (.tmp 4) (.tmp 19) rfl w.heap.size rfl rfl rfl HP1.out ?_);intro w2 P2 G2;have HP2:=BE P2;have HM2:=BE (HM1.out.far G2 om om om om);have HC2:=BE (HC1.out.chg G2 om);have HG2:=BE (HG1.out.trans' G2 (fun k hk e=>om));clear P2 G2 HM1 HC1 HG1 HP1;go_wp2;refine AZ (CO rfl _ rfl HP2.out) rfl ?_;refine⟨(readV s a).1,r,Pg.zero,(readV s a).2.2,_,?_,⟨rfl,rfl,AK ⟨hc,rfl,rfl⟩⟩,CU _ _,HM2.out,HC2.out,HG2.out⟩;rw[HY.out];rfl
end
end Go.Proofs.YtmdpnpjacfedpaaGreat
namespace Go.Proofs.YtmdpnpjacfedpaaGreat
open List
open Go.Proofs.Tryz
open Go.RowKit Go.Shelf
section
variable {base g:Nat}{v:Value}{gs:List Nat}{X Y w:Wd}{ls:List (List Nat)}{α:Type}
attribute [local go_sem] Oper.semAt_some
def slc (g:Nat):Value:=.slice (some ⟨g,0,none⟩) 64 64
structure FO (W:Wd) (base:Nat) (v:Value) (gs:List Nat) (ls:List (List Nat)):Prop where
 row:W.ownsRow base 48 1 v gs.length (gs.map slc)
 len:ls.length=gs.length
 arr:∀j,j<gs.length->Arr W (gs.getD j 0) 5 (ls.getD j [])
 nd:gs.Nodup
 off:∀k,v.ownBlock=some k->k ∉ gs
 low:∀g ∈ gs,base<=g
theorem FO.mem_lt{W:Wd}(h:FO W base v gs ls)(hg:g ∈ gs):g<W.heap.size:=by
 obtain⟨j,hj,rfl⟩:=getElem_of_mem hg;have:=(h.arr j hj).lt
 rwa [AQ,AU hj] at this
theorem GV{e:TypeId}{z:Nat}{n:Nat}{xs:List Value}(h:X.ownsRow base e z v n xs)(hk:∀g c t,v.ownBlock=some g->X.heap[g]?=some (.cells c t)->Y.heap[g]?=X.heap[g]?):Y.ownsRow base e z v n xs:=by
 refine⟨h.1,?_⟩;rcases h.2 with h1 | ⟨g,cap,cur,rfl,hb,hh,r⟩
 ·exact AK h1
 ·exact AL ⟨g,cap,cur,rfl,hb,(hk _ _ _ rfl hh).trans hh,r⟩
theorem FO.keeps(h:FO X base v gs ls)(hk:JI X Y):FO Y base v gs ls:=
 ⟨GV h.row (fun g c t _ hh=>hk g c t hh),h.len,fun j hj=>(hk _ _ _ (h.arr j hj)).trans (h.arr j hj),h.nd,h.off,h.low⟩
theorem FO.chg{S:Nat->Prop}(h:FO X base v gs ls)(hc:Chg S X Y)(hS:∀k,S k->v.ownBlock≠some k/\k ∉ gs):FO Y base v gs ls:=
 ⟨GV h.row (fun g c t e hh=>hc.block g (Array.getElem?_eq_some_iff.1 hh).1 (fun s=>(hS g s).1 e)),h.len,fun j hj=>(h.arr j hj).chg hc (fun s=>(hS _ s).2 (by rw[AQ,AU hj];exact getElem_mem hj)),h.nd,h.off,h.low⟩
theorem kp(w:Wd):(Instr.makeSlice 294 (.int .i64 0) (.int .i64 4)).run prog w=.ok (.slice (some ⟨w.heap.size,0,none⟩) 0 4) (w.alloc (.cells #[.slice none 0 0,.slice none 0 0,.slice none 0 0,.slice none 0 0] 48)):=kr
theorem Qi:(prog.info? 48).map (fun i=>(i.zero,i.size,i.bytes))=some (some (.slice none 0 0),1,24):=kr
theorem Wg{fn:Func}{p1 p2:Tmp}(h:fn.results=#[.cell p1 294,.cell p2 46])(tmps:Array Value){r1 r2:Nat}{v1 v2:Value}(hp1:tmps.getD p1 undef=.pointer (some ⟨r1,0,none⟩))(hp2:tmps.getD p2 undef=.pointer (some ⟨r2,0,none⟩))(b1:Boxed w r1 294 v1)(b2:Boxed w r2 46 v2) :(results fn tmps).run prog w=.ok (.tuple #[v1,v2]) w:=by
 have c1:=b1.cell;have c2:=b2.cell;have hp1':tmps[p1]?.getD undef=.pointer (some ⟨r1,0,none⟩):=by simpa using hp1
 have hp2':tmps[p2]?.getD undef=.pointer (some ⟨r2,0,none⟩):=by simpa using hp2
 simp[results,h,hp1',hp2',go_sem,c1,c2]
theorem Wh(p:Nat)(w:Wd)(a:Option Addr)(n cap:Nat)(hn:n≠174)(bv:Value) :Calls prog 245 #[.pointer (some ⟨p,0,none⟩),.slice a n cap,bv] w fun e w'=>e=.returned (.tuple #[.slice none 0 0,.iface 57 (.int .i64 1)])/\Chg No w w':=by
 have hn':((n:Int) != 174)=true:=by simp;omega
 refine(callsIn_wide (n:=3)).1 ?_;refine callsIn_of_wp_marks func245 rfl trivial ?_ rfl;simp only[ntmps245,size_toArray,An,length_nil,Nat.reduceAdd,Nat.reduceSub,Array.replicate_succ,Array.replicate_zero,push_toArray,append_toArray,A7,cons_append]
 gi_wp2;refine⟨.tuple #[.slice none 0 0,.iface 57 (.int .i64 1)],?_,rfl,((((Chg.refl _ _).alloc _).alloc _).alloc _)⟩;simp[results,f245,go_sem]
def LI (w W3 W:Wd) (p q b r Bx:Nat) (M:List Nat) (pre:List Ix):Prop:=
 ∃(v:Value) (gs:List Nat),FO W w.heap.size v gs (pre.map fun x=>JT (part 58 M x.1))/\Boxed W Bx 294 v/\(∀g,v.ownBlock=some g->g=r\/W3.heap.size<=g)/\(∀g ∈ gs,W3.heap.size<=g)/\Frm W p q b/\Chg (fun k=>k=b\/k=r\/k=Bx) W3 W
theorem LI.keep{W3:Wd}{p q b r Bx:Nat}{M:List Nat}{pre:List Ix}{row:Option Nat}(h:LI w W3 X p q b r Bx M pre)(hg:X.grownBy Y row)(hr:∀r,row=some r->W3.heap.size<=r/\∃o:Obj,X.heap[r]?=some o/\o.isCells=false):LI w W3 Y p q b r Bx M pre:=by
 obtain⟨v,gs,h1,h2,h3,h4,h5,h6⟩:=h;have hk:=kept hg hr;exact⟨v,gs,h1.keeps hk,BV h2 hk,h3,h4,h5.keep hk,h6.grown hg (fun k e=>AL (hr k e).1)⟩
theorem Qj(h:gs.Nodup)(hg:g ∉ gs):(gs ++ [g]).Nodup:=by
 rw[nodup_append];refine⟨h,by simp,fun a ha b hb=>?_⟩;simp at hb;subst hb;exact fun e=>hg (e ▸ ha)
theorem Ht(l:List α)(x d:α)(j:Nat)(h:j<l.length):(l ++ [x]).getD j d=l.getD j d:=by
 simp[AQ,Af h]
theorem Hu(l:List α)(x d:α):(l ++ [x]).getD l.length d=x:=by
 simp[AQ]
theorem FO.snoc{v':Value}{l:List Nat}(h:FO X base v gs ls)(hg:X.grownBy Y v.ownBlock)(ho:Y.ownsRow base 48 1 v' (gs.length+1) (gs.map slc ++ [slc g]))(hat:v'.ownBlock=v.ownBlock\/v'.ownBlock=some X.heap.size)(hA:Arr X g 5 l)(hb:base<=g)(hn:g ∉ gs)(hv:v.ownBlock≠some g):FO Y base v' (gs ++ [g]) (ls ++ [l]):=by
 have hk:∀k,k<X.heap.size->v.ownBlock≠some k->Y.heap[k]?=X.heap[k]?:=fun k hk hv=>hg.block k hk (fun e=>hv e.symm);refine⟨by simpa using ho,by simp[h.len],fun j hj=>?_,Qj h.nd hn,fun k hk' hm=>?_,fun g' hg'=>?_⟩
 ·by_cases hj':j<gs.length
  ·rw[Ht _ _ _ _ hj',Ht _ _ _ _ (by rw[h.len];exact hj')];have hA:=h.arr j hj';exact(hk _ hA.lt (fun e=>h.off _ e (by rw[AQ,AU hj'];exact getElem_mem hj'))).trans hA
  ·have e:j=gs.length:=(by simp at hj;omega);subst e;rw[Hu,<-h.len,Hu];exact(hk _ hA.lt hv).trans hA
 ·rcases mem_append.1 hm with h1 | h1
  ·rcases hat with h2 | h2
   ·exact h.off k (by rw[<-h2];exact hk') h1
   ·have:=h.mem_lt h1;rw[h2] at hk';have:=AR hk';omega
  ·simp at h1;subst h1;rcases hat with h2 | h2
   ·exact hv (by rw[<-h2];exact hk')
   ·rw[h2] at hk';have:=AR hk';have:=hA.lt;omega
 ·rcases mem_append.1 hg' with h1 | h1
  ·exact h.low g' h1
  ·simp at h1;subst h1;exact hb
theorem Jl(p q b:Nat)(w:Wd)(h:Frm w p q b)(c o cap:Nat)(Dt:List Nat)(hD:Dt.length=174)(bD:Bys Dt)(hcb:c≠b)(hcs:c<w.heap.size)(hcell:∀i,i<Dt.length->w.cell? ⟨c,o+i,none⟩=some (.int .u8 (Dt.getD i 0:Nat)))(c2 o2 cap2:Nat)(Bd:List Nat)(hB:Bd.length=50)(bB:Bys Bd)(hcs2:c2<w.heap.size)(hcell2:∀i,i<Bd.length->w.cell? ⟨c2,o2+i,none⟩=some (.int .u8 (Bd.getD i 0:Nat)))(MM:List Nat)(hMM:Dt ++ (Bd ++ mk)=MM) :Calls prog 245 #[.pointer (some ⟨p,0,none⟩),.slice (some ⟨c,o,none⟩) 174 cap,.slice (some ⟨c2,o2,none⟩) 50 cap2] w fun e w'=>(∃r k gs,e=.returned (.tuple #[.slice (some ⟨r,0,none⟩) 4 k,.nilIface])/\FO w' w.heap.size (.slice (some ⟨r,0,none⟩) 4 k) gs ((List.range 4).map fun i=>JT (part 58 MM i)))/\Frm w' p q b/\But b w w':=by
 have HC:=BE hcell;have HC2:=BE hcell2;clear hcell hcell2;have hmk:=kp;have q1:=Bt;have hp:=h.lt;have hbs:=h.1.1.lt;have hqs:=h.1.lt;refine(callsIn_wide (n:=3)).1 ?_;refine callsIn_of_wp_marks func245 rfl trivial ?_ rfl;simp only[ntmps245,size_toArray,An,length_nil,Nat.reduceAdd,Nat.reduceSub,Array.replicate_succ,Array.replicate_zero,push_toArray,append_toArray,A7,cons_append]
 gi_wp2_with fail;have x0:Boxed (((w.alloc (.cells #[.pointer (some ⟨p,0,none⟩)] 236)).alloc (.cells #[.slice none 0 0] 294)).alloc (.cells #[.nilIface] 46)) w.heap.size 236 (.pointer (some ⟨p,0,none⟩)):=((Boxed.new' _ (by simp) _ _).alloc _).alloc _;have x1:Boxed (((w.alloc (.cells #[.pointer (some ⟨p,0,none⟩)] 236)).alloc (.cells #[.slice none 0 0] 294)).alloc (.cells #[.nilIface] 46)) (w.heap.size+1) 294 (.slice none 0 0):=(Boxed.new' _ (by simp) _ _).alloc _;have x2:Boxed (((w.alloc (.cells #[.pointer (some ⟨p,0,none⟩)] 236)).alloc (.cells #[.slice none 0 0] 294)).alloc (.cells #[.nilIface] 46)) (w.heap.size+1+1) 46 .nilIface:=Boxed.new' _ (by simp) _ _;have G0:Chg No w (((w.alloc (.cells #[.pointer (some ⟨p,0,none⟩)] 236)).alloc (.cells #[.slice none 0 0] 294)).alloc (.cells #[.nilIface] 46)):=(((Chg.refl _ _).alloc _).alloc _).alloc _;have hs0:(((w.alloc (.cells #[.pointer (some ⟨p,0,none⟩)] 236)).alloc (.cells #[.slice none 0 0] 294)).alloc (.cells #[.nilIface] 46)).heap.size=w.heap.size+3:=by simp
 generalize ((w.alloc (.cells #[.pointer (some ⟨p,0,none⟩)] 236)).alloc (.cells #[.slice none 0 0] 294)).alloc (.cells #[.nilIface] 46)=W0 at *
 refine⟨trivial,(callsIn_wide.2 (Vz W0 c2 o2 cap2 Bd hB om (fun i hi=>(Ag (w:=w) (a:=⟨c2,o2+i,none⟩) (G0.block c2 hcs2 (fun e=>e))).trans (HC2.out i hi)))).mono ?_⟩;rintro e W1 ⟨gS,rfl,hgS,AS,G1⟩;have GG1:=G0.trans G1;have y0:Boxed W1 w.heap.size 236 (.pointer (some ⟨p,0,none⟩)):=(G1.block _ x0.lt (fun e=>e)).trans x0;have y1:Boxed W1 (w.heap.size+1) 294 (.slice none 0 0):=(G1.block _ x1.lt (fun e=>e)).trans x1;have y2:Boxed W1 (w.heap.size+1+1) 46 .nilIface:=(G1.block _ x2.lt (fun e=>e)).trans x2;have hs1:=G1.size;clear x0 x1 x2 G0 G1
 gi_wp2_with fail;have hl0:∀i,i<Dt.length->(((W1.alloc (.cells #[.slice none 0 0,.slice none 0 0,.slice none 0 0,.slice none 0 0] 48)).alloc (.cells #[.slice (some ⟨W1.heap.size,0,none⟩) 0 4] 294)).alloc (.cells #[.slice (some ⟨c,o,none⟩) 174 cap,.slice (some ⟨gS,0,none⟩) 58 58] 48)).cell? ⟨c,o+i,none⟩=some (.int .u8 (Dt.getD i 0:Nat)):=fun i hi=>
  (Ag (w:=w) (a:=⟨c,o+i,none⟩) (((((GG1.alloc _).alloc _).alloc _)).block c hcs (fun e=>e))).trans (HC.out i hi)
 have A3:=((AS.alloc (.cells #[.slice none 0 0,.slice none 0 0,.slice none 0 0,.slice none 0 0] 48)).alloc (.cells #[.slice (some ⟨W1.heap.size,0,none⟩) 0 4] 294)).alloc (.cells #[.slice (some ⟨c,o,none⟩) 174 cap,.slice (some ⟨gS,0,none⟩) 58 58] 48);have GA:=((GG1.alloc (.cells #[.slice none 0 0,.slice none 0 0,.slice none 0 0,.slice none 0 0] 48)).alloc (.cells #[.slice (some ⟨W1.heap.size,0,none⟩) 0 4] 294)).alloc (.cells #[.slice (some ⟨c,o,none⟩) 174 cap,.slice (some ⟨gS,0,none⟩) 58 58] 48);have u0:=((y0.alloc (.cells #[.slice none 0 0,.slice none 0 0,.slice none 0 0,.slice none 0 0] 48)).alloc (.cells #[.slice (some ⟨W1.heap.size,0,none⟩) 0 4] 294)).alloc (.cells #[.slice (some ⟨c,o,none⟩) 174 cap,.slice (some ⟨gS,0,none⟩) 58 58] 48);have u1:=((y1.alloc (.cells #[.slice none 0 0,.slice none 0 0,.slice none 0 0,.slice none 0 0] 48)).alloc (.cells #[.slice (some ⟨W1.heap.size,0,none⟩) 0 4] 294)).alloc (.cells #[.slice (some ⟨c,o,none⟩) 174 cap,.slice (some ⟨gS,0,none⟩) 58 58] 48);have u2:=((y2.alloc (.cells #[.slice none 0 0,.slice none 0 0,.slice none 0 0,.slice none 0 0] 48)).alloc (.cells #[.slice (some ⟨W1.heap.size,0,none⟩) 0 4] 294)).alloc (.cells #[.slice (some ⟨c,o,none⟩) 174 cap,.slice (some ⟨gS,0,none⟩) 58 58] 48);have u3:Boxed (((W1.alloc (.cells #[.slice none 0 0,.slice none 0 0,.slice none 0 0,.slice none 0 0] 48)).alloc (.cells #[.slice (some ⟨W1.heap.size,0,none⟩) 0 4] 294)).alloc (.cells #[.slice (some ⟨c,o,none⟩) 174 cap,.slice (some ⟨gS,0,none⟩) 58 58] 48)) (W1.heap.size+1) 294 (.slice (some ⟨W1.heap.size,0,none⟩) 0 4):=(Boxed.new' _ (by simp) _ _).alloc _;have u4:(((W1.alloc (.cells #[.slice none 0 0,.slice none 0 0,.slice none 0 0,.slice none 0 0] 48)).alloc (.cells #[.slice (some ⟨W1.heap.size,0,none⟩) 0 4] 294)).alloc (.cells #[.slice (some ⟨c,o,none⟩) 174 cap,.slice (some ⟨gS,0,none⟩) 58 58] 48)).heap[W1.heap.size]?=some (.cells #[.slice none 0 0,.slice none 0 0,.slice none 0 0,.slice none 0 0] 48):=by
  rw[Below.heap_alloc _ _ _ (by simp;omega),Below.heap_alloc _ _ _ (by simp)];exact World.alloc_heap_new W1 _
 have u5:(((W1.alloc (.cells #[.slice none 0 0,.slice none 0 0,.slice none 0 0,.slice none 0 0] 48)).alloc (.cells #[.slice (some ⟨W1.heap.size,0,none⟩) 0 4] 294)).alloc (.cells #[.slice (some ⟨c,o,none⟩) 174 cap,.slice (some ⟨gS,0,none⟩) 58 58] 48)).heap[W1.heap.size+1+1]?=some (.cells #[.slice (some ⟨c,o,none⟩) 174 cap,.slice (some ⟨gS,0,none⟩) 58 58] 48):=by
  have:=World.alloc_heap_new ((W1.alloc (.cells #[.slice none 0 0,.slice none 0 0,.slice none 0 0,.slice none 0 0] 48)).alloc (.cells #[.slice (some ⟨W1.heap.size,0,none⟩) 0 4] 294)) (.cells #[.slice (some ⟨c,o,none⟩) 174 cap,.slice (some ⟨gS,0,none⟩) 58 58] 48);simpa using this
 have hsA:(((W1.alloc (.cells #[.slice none 0 0,.slice none 0 0,.slice none 0 0,.slice none 0 0] 48)).alloc (.cells #[.slice (some ⟨W1.heap.size,0,none⟩) 0 4] 294)).alloc (.cells #[.slice (some ⟨c,o,none⟩) 174 cap,.slice (some ⟨gS,0,none⟩) 58 58] 48)).heap.size=W1.heap.size+3:=by simp
 generalize ((W1.alloc (.cells #[.slice none 0 0,.slice none 0 0,.slice none 0 0,.slice none 0 0] 48)).alloc (.cells #[.slice (some ⟨W1.heap.size,0,none⟩) 0 4] 294)).alloc (.cells #[.slice (some ⟨c,o,none⟩) 174 cap,.slice (some ⟨gS,0,none⟩) 58 58] 48)=WA at *
 have hgSl:=AS.lt;have hSl:(Bd ++ mk).length=58:=by rw[AV,hB,Dd]
 refine⟨trivial,(callsIn_wide.2 (QJ WA (W1.heap.size+1+1) c o cap gS 0 58 Dt (Bd ++ mk) hD hSl u5 om om hl0 A3.at0)).mono ?_⟩;rintro e W2 ⟨gM,kM,rfl,OM,G2⟩;have hsz2:=G2.size;have GB:=GA.trans G2;have v0:Boxed W2 w.heap.size 236 (.pointer (some ⟨p,0,none⟩)):=(G2.block _ u0.lt (fun e=>e)).trans u0;have v1:Boxed W2 (w.heap.size+1) 294 (.slice none 0 0):=(G2.block _ u1.lt (fun e=>e)).trans u1;have v2:Boxed W2 (w.heap.size+1+1) 46 .nilIface:=(G2.block _ u2.lt (fun e=>e)).trans u2;have v3:Boxed W2 (W1.heap.size+1) 294 (.slice (some ⟨W1.heap.size,0,none⟩) 0 4):=(G2.block _ u3.lt (fun e=>e)).trans u3;have v4:=(G2.block _ (show W1.heap.size<WA.heap.size by omega) (fun e=>e)).trans u4;clear u0 u1 u2 u3 u4 u5 A3 hl0 AS y0 y1 y2 GA G2 GG1;have hMl:MM.length=4*58:=by rw[<-hMM,AV,hD,hSl]
 have bM:Bys MM:=by
  rw[<-hMM];intro x hx;rcases mem_append.1 hx with h1 | h1
  ·exact bD x h1
  ·rcases mem_append.1 h1 with h2 | h2
   ·exact bB x h2
   ·exact QI x h2
 rw[hMM] at OM;clear hMM;obtain⟨gM',kM',hvM,hgM,hgMs,hkM,cM,-⟩:=OM.lies om;simp only[Value.slice.injEq,Option.some.injEq,Addr.mk.injEq] at hvM;obtain⟨⟨rfl,-,-⟩,-,rfl⟩:=hvM;have HCM:=BE cM;have HML:=BE hMl;have HkM:=BE hkM;clear cM hMl hkM OM hSl
 gi_wp2_with (refine⟨trivial,?_⟩;gi_at_call 238;refine(callsIn_wide.2 (IU _ _ _ _ 58)).mono ?_;rintro e w' ⟨rfl,rfl⟩);have x0:=(v0.alloc (.cells #[.slice (some ⟨gM,0,none⟩) 232 kM] 48)).alloc (.cells #[.int .i64 58] 3);have x1:=(v1.alloc (.cells #[.slice (some ⟨gM,0,none⟩) 232 kM] 48)).alloc (.cells #[.int .i64 58] 3);have x2:=(v2.alloc (.cells #[.slice (some ⟨gM,0,none⟩) 232 kM] 48)).alloc (.cells #[.int .i64 58] 3);have x3:=(v3.alloc (.cells #[.slice (some ⟨gM,0,none⟩) 232 kM] 48)).alloc (.cells #[.int .i64 58] 3);have x4:((W2.alloc (.cells #[.slice (some ⟨gM,0,none⟩) 232 kM] 48)).alloc (.cells #[.int .i64 58] 3)).heap[W1.heap.size]?=some (.cells #[.slice none 0 0,.slice none 0 0,.slice none 0 0,.slice none 0 0] 48):=by
  rw[Below.heap_alloc _ _ _ (by simp;omega),Below.heap_alloc _ _ _ om];exact v4
 have x5:Boxed ((W2.alloc (.cells #[.slice (some ⟨gM,0,none⟩) 232 kM] 48)).alloc (.cells #[.int .i64 58] 3)) W2.heap.size 48 (.slice (some ⟨gM,0,none⟩) 232 kM):=(Boxed.new' _ rfl _ _).alloc _;have x6:Boxed ((W2.alloc (.cells #[.slice (some ⟨gM,0,none⟩) 232 kM] 48)).alloc (.cells #[.int .i64 58] 3)) (W2.heap.size+1) 3 (.int .i64 58):=Boxed.new' _ (by simp) _ _;have G3:=(GB.alloc (.cells #[.slice (some ⟨gM,0,none⟩) 232 kM] 48)).alloc (.cells #[.int .i64 58] 3);have hs3:((W2.alloc (.cells #[.slice (some ⟨gM,0,none⟩) 232 kM] 48)).alloc (.cells #[.int .i64 58] 3)).heap.size=W2.heap.size+2:=by simp
 have hCM:∀i,i<MM.length->((W2.alloc (.cells #[.slice (some ⟨gM,0,none⟩) 232 kM] 48)).alloc (.cells #[.int .i64 58] 3)).cell? ⟨gM,i,none⟩=some (.int .u8 (MM.getD i 0:Nat)):=fun i hi=>by
  rw[Au _ _ _ (by simp;omega),Au _ _ _ hgMs];exact HCM.out i hi
 generalize (W2.alloc (.cells #[.slice (some ⟨gM,0,none⟩) 232 kM] 48)).alloc (.cells #[.int .i64 58] 3)=W3 at *
 have F3:=h.chg G3;refine wpIn_rangeFunc_ownG rfl om (gf:=255) (lb:=#[.pointer (some ⟨W2.heap.size,0,none⟩),.pointer (some ⟨W2.heap.size+1,0,none⟩)]) rfl trivial (enters_of func255 kr rfl)
  (aQ Fence.wide _ trivial rfl om _ _ gM 0 kM (by have:=HkM.out;have:=HML.out;omega) W3 om om x5.cell x6.cell) Kp.t (Kp.b om om) (Below.refl _ _) (fun _=>rfl)
  (fun pre W=>LI w W3 W p q b W1.heap.size (W1.heap.size+1) MM pre)
  (fun _ _ _=>False)
  (fun pre X Y row hs hg hr=>hs.keep hg hr)
  (fun _ _ _ _ _ hs _ _=>hs)
  ⟨_,[],⟨⟨rfl,AL ⟨_,4,_,rfl,om,x4,dc,dc,rfl,by simp⟩⟩,rfl,fun j hj=>by simp at hj,by simp,fun k _ hm=>by simp at hm,fun g hm=>by simp at hm⟩,x3,fun g e=>AK (AR e).symm,fun g hm=>by simp at hm,F3,Chg.refl _ _⟩
  (fun x=>{ tmps:=#[.pointer (some ⟨p,0,none⟩),.slice (some ⟨c,o,none⟩) 174 cap,.slice (some ⟨c2,o2,none⟩) 50 cap2,.pointer (some ⟨w.heap.size,0,none⟩),undef,undef,.pointer (some ⟨w.heap.size+1,0,none⟩),.pointer (some ⟨w.heap.size+1+1,0,none⟩),.slice (some ⟨gS,0,none⟩) 58 58,.nilIface,.pointer (some ⟨W1.heap.size+1,0,none⟩),undef,.slice (some ⟨gM,x.1*58,none⟩) 58 (kM - x.1*58),undef,undef,.slice (some ⟨c,o,none⟩) 174 cap,.int .i64 174,.bool false,undef,.tuple #[.slice (some ⟨gS,0,none⟩) 58 58,.nilIface],.slice (some ⟨c2,o2,none⟩) 50 cap2,.tuple #[.slice (some ⟨gS,0,none⟩) 58 58,.nilIface],.slice (some ⟨gS,0,none⟩) 58 58,.nilIface,.nilIface,.bool false,undef,.slice (some ⟨W1.heap.size,0,none⟩) 0 4,.slice (some ⟨c,o,none⟩) 174 cap,.slice (some ⟨gS,0,none⟩) 58 58,.slice (some ⟨W1.heap.size+1+1,0,none⟩) 2 2,.slice (some ⟨gM,0,none⟩) 232 kM,.func (.func 255) #[] #[.pointer (some ⟨W2.heap.size,0,none⟩),.pointer (some ⟨W2.heap.size+1,0,none⟩)],.int .i64 (x.1:Int),.slice (some ⟨gM,x.1*58,none⟩) 58 (kM - x.1*58),undef,undef,undef,undef,undef,undef,undef,undef,undef,undef,undef,undef,undef,undef,undef,undef,undef],defers:=[] }) ?assign ?body ?done ?stop
 case assign=>
  intro l x W K hK;dsimp only[QG];simp only[AW]
  gi_wp2;exact hK
 case body=>
  rintro l pre x W ⟨v,gs,R,y3,hv,hgs,F,hG⟩ hpl;have y0:Boxed W w.heap.size 236 (.pointer (some ⟨p,0,none⟩)):=(hG.block _ x0.lt om).trans x0;have hs2:=hG.size;have z0:=y0.cell;have z2:W.cell? ⟨p,0,none⟩=some (.pointer (some ⟨q,0,none⟩)):=F.2.cell;have hbc:∀o,W.heap[b]?=some o->o.isCells=true:=fun o ho=>by
   obtain⟨c,z,hc,-⟩:=D8 F.1.1;rw[hc] at ho;cases ho;rfl
  obtain⟨i,hi⟩:=x;dsimp only;have hpl2:=Cm HML.out i hi;have hpb:=Hh (z:=58) bM i;have hcc:∀j,j<(part 58 MM i).length->W.cell? ⟨gM,i*58+j,none⟩=some (.int .u8 ((part 58 MM i).getD j 0:Nat)):=fun j hj=>by
   rw[IV 58 MM i j om];exact(Ag (w:=W3) (a:=⟨gM,i*58+j,none⟩) (hG.block gM om om)).trans (hCM _ (by have:=HML.out;omega))
  have HEnc:=BE (QF q b W F.1 gM (i*58) (kM - i*58) (part 58 MM i) hpl2 hpb om om hcc);clear hcc
  gi_wp2_with fail;refine⟨trivial,(CallsIn.inRound l (callsIn_wide.2 HEnc.out)).mono ?_⟩;rintro e W4 ⟨g,rfl,hg,A4,C4,B4⟩;clear HEnc;have F4:=F.but C4 B4;have a1:KeepsFrom W3.heap.size W W4:=B4.chg.keeps (fun k hk o ho=>hbc o (by rw[<-hk];exact ho)) _;have hs4:=B4.size;have R4:FO W4 w.heap.size v gs (pre.map fun x=>JT (part 58 MM x.1)):=R.chg B4.chg (fun k e=>by
   subst e
   exact⟨fun h1=>by have:=hv _ h1;omega,fun h1=>by have:=hgs _ h1;omega⟩)
  have y4:Boxed W4 (W1.heap.size+1) 294 v:=(B4.block _ y3.lt om).trans y3;have c4:=y4.cell;have q2:=Bt;have hln:gs.length=pre.length:=by have:=R.len;simpa using this.symm
  have A5:=A4.alloc (.cells #[.slice (some ⟨g,0,none⟩) 64 64] 48);have R5:=R4.chg ((Chg.refl No W4).alloc (.cells #[.slice (some ⟨g,0,none⟩) 64 64] 48)) (fun k e=>e.elim);have y5:=y4.alloc (.cells #[.slice (some ⟨g,0,none⟩) 64 64] 48);have F5:=F4.chg ((Chg.refl No W4).alloc (.cells #[.slice (some ⟨g,0,none⟩) 64 64] 48));have hs5:(W4.alloc (.cells #[.slice (some ⟨g,0,none⟩) 64 64] 48)).heap.size=W4.heap.size+1:=by simp
  have hnw:∀j u,[slc g][j]?=some u->(W4.alloc (.cells #[.slice (some ⟨g,0,none⟩) 64 64] 48)).cell? ((⟨W4.heap.size,0,none⟩:Addr).add j)=some u:=cell_one_new _ _ _;have a2:KeepsFrom W3.heap.size W (W4.alloc (.cells #[.slice (some ⟨g,0,none⟩) 64 64] 48)):=a1.trans (((Chg.refl No W4).alloc _).keeps (fun k e=>e.elim) _);have hk5:∀k,k<W.heap.size->k≠b->(W4.alloc (.cells #[.slice (some ⟨g,0,none⟩) 64 64] 48)).heap[k]?=W.heap[k]?:=fun k hk hb=>(Below.heap_alloc _ _ _ om).trans (B4.block k hk hb);have G5:Chg (fun k=>k=b\/k=W1.heap.size\/k=W1.heap.size+1) W3 (W4.alloc (.cells #[.slice (some ⟨g,0,none⟩) 64 64] 48)):=(hG.trans' B4.chg (fun k _ e=>AK e)).alloc _;have hgn:g ∉ gs:=fun hm=>by have:=R.mem_lt hm;omega
  have hvn:v.ownBlock≠some g:=fun e=>by
   rcases R.row.2 with ⟨rfl,_⟩ | ⟨g',_,_,rfl,_,hh,_⟩
   ·cases e
   ·have e1:g'=g:=AR e;have:=(Array.getElem?_eq_some_iff.1 hh).1;omega
  obtain⟨i0,hi0,hz0,hz1,hz2⟩:=info_parts Qi;have HA:=BE A5;have HR:=BE R5;have HY:=BE y5;have HF:=BE F5;have HN:=BE hnw;have HB:Hid (w.heap.size<=(W4.alloc (.cells #[.slice (some ⟨g,0,none⟩) 64 64] 48)).heap.size):=BE om;have HL1:Hid (gs.length+1<=maxLen):=BE (by unfold maxLen;omega);have HL2:Hid ((gs.length+1)*24<=140737488355328):=BE om;have H5:=BE hs5;clear hs5;clear R R4 A4 A5 R5 y5 F5 hnw y4 F4 hG F y3 B4 a1
  gi_wp2_with (gi_at_builtin;refine wpListIn_append_own_at _ rfl _ _ 294 rfl w.heap.size 48 i0 (.slice none 0 0) 1 24 underlying294 hi0 hz0 hz1 hz2 rfl dc v gs.length (gs.map slc) rfl HR.out.row ⟨W4.heap.size,0,none⟩ 1 1 [slc g] rfl rfl HN.out (by simp[slc,Value.oneCell']) HL1.out HL2.out HB.out ?_);intro v' W6 O6 hg6 _ hat;have hs5:=H5.out;obtain⟨g6,k6,hv6⟩:=ownsRow_succ O6;have hv':∀k,v'.ownBlock=some k->k=W1.heap.size\/W3.heap.size<=k:=fun k hk=>by
   rcases hat with h1 | h1
   ·exact hv k (by rw[<-h1];exact hk)
   ·rw[h1] at hk;have:=AR hk;omega
  have R6:=HR.out.snoc hg6 (by first | exact O6 | (rw[hln] at O6 ⊢;exact O6) | (rw[hln];exact O6)) (by rw[hs5];exact hat) HA.out om hgn hvn;have y6:Boxed W6 (W1.heap.size+1) 294 v:=HY.out.kept hg6 (fun e=>by have:=hv _ e.symm;omega);have F6:Frm W6 p q b:=HF.out.other (hg6.block _ HF.out.1.1.lt (fun e=>by have:=hv _ e.symm;omega)) (hg6.block _ HF.out.1.lt (fun e=>by have:=hv _ e.symm;omega)) (hg6.block _ HF.out.lt (fun e=>by have:=hv _ e.symm;omega));have hcv:∀k,v.ownBlock=some k->∀o,(W4.alloc (.cells #[.slice (some ⟨g,0,none⟩) 64 64] 48)).heap[k]?=some o->o.isCells=true:=fun k hk o ho=>by
   rcases HR.out.row.2 with ⟨rfl,_⟩ | ⟨g,cap,cur,rfl,_,hh,_⟩
   ·cases hk
   ·have e:g=k:=AR hk;rw[<-e,hh] at ho;cases ho;rfl
  have a3:KeepsFrom W3.heap.size (W4.alloc (.cells #[.slice (some ⟨g,0,none⟩) 64 64] 48)) W6:=⟨hg6.size,fun k o _ h0 ho=>(hg6.block k (Array.getElem?_eq_some_iff.1 h0).1 (fun e=>by rw[hcv k e.symm o h0] at ho;cases ho)).trans h0⟩;have G6:Chg (fun k=>k=b\/k=W1.heap.size\/k=W1.heap.size+1) W3 W6:=G5.grown hg6 (fun k e=>by have:=hv _ e;omega);have hk6:∀k,k<W.heap.size->k≠b->v.ownBlock≠some k->W6.heap[k]?=W.heap[k]?:=fun k hk hb hvk=>(hg6.block k om (fun e=>hvk e.symm)).trans (hk5 k hk hb);have hs6:=hg6.size;have fin:∀Y,W6.setCell ⟨W1.heap.size+1,0,none⟩ v'=Y->KeepsFrom W3.heap.size W Y/\Kp W2.heap.size (W2.heap.size+1) W Y/\LI w W3 Y p q b W1.heap.size (W1.heap.size+1) MM (pre ++ [⟨i,hi⟩]):=fun Y hY=>by
   have e5:Boxed Y (W1.heap.size+1) 294 v':=(by rw[<-hY];exact y6.set _);have K4:Chg (fun k=>k=W1.heap.size+1) W6 Y:=(by rw[<-hY];exact(Chg.refl (fun k=>k=W1.heap.size+1) W6).setCell (AK rfl) 0 _);have a4:KeepsFrom W3.heap.size W6 Y:=K4.keeps (fun k hk o ho=>by
    subst hk
    rw[show W6.heap[_]?=_ from y6] at ho;cases ho;rfl) _
   refine⟨(a2.trans a3).trans a4,⟨?_,?_⟩,v',gs ++ [g],?_,e5,hv',?_,?_,?_⟩
   ·exact(K4.block _ om om).trans (hk6 _ om om (fun e=>by have:=hv _ e;omega))
   ·exact(K4.block _ om om).trans (hk6 _ om om (fun e=>by have:=hv _ e;omega))
   ·rw[map_append];refine R6.chg K4 (fun k e=>?_);subst e;refine⟨fun h1=>by have:=hv' _ h1;omega,fun h1=>?_⟩;rcases mem_append.1 h1 with h2 | h2
    ·have:=hgs _ h2;omega
    ·simp at h2;omega
   ·intro g' hm;rcases mem_append.1 hm with h2 | h2
    ·exact hgs _ h2
    ·simp at h2;omega
   ·exact F6.other (K4.block _ F6.1.1.lt om) (K4.block _ F6.1.lt om) (K4.block _ F6.lt om)
   ·exact G6.trans' K4 (fun k hk e=>AL (AL e))
  have HFin:=BE fin;have c6:=y6.cell;have f6:=y6.frozen;subst hv6;clear fin R6 HR HA HY HF HN hg6 O6 a2 a3 G5 G6 hk5 hk6 hcv
  gi_wp2_with fail;exact HFin.out _ rfl
 case done=>
  rintro D ys W hD rfl ⟨v,gs,R,y3,hv,hgs,F,hG⟩ hK;have y1:Boxed W (w.heap.size+1) 294 (.slice none 0 0):=(hG.block _ x1.lt om).trans x1;have y2:Boxed W (w.heap.size+1+1) 46 .nilIface:=(hG.block _ x2.lt om).trans x2;have hln:gs.length=4:=by
   have:=R.len;rw[BA,Dm 4 om] at this;exact this.symm
  have hrow:=R.row;rw[hln] at hrow;obtain⟨g6,k6,hv6⟩:=ownsRow_succ hrow;subst hv6;have hgv:=hv g6 rfl;have e1:Boxed ((W.setCell ⟨w.heap.size+1,0,none⟩ (.slice (some ⟨g6,0,none⟩) 4 k6)).setCell ⟨w.heap.size+1+1,0,none⟩ .nilIface) (w.heap.size+1) 294 (.slice (some ⟨g6,0,none⟩) 4 k6):=(y1.set _).other om _;have e2:Boxed ((W.setCell ⟨w.heap.size+1,0,none⟩ (.slice (some ⟨g6,0,none⟩) 4 k6)).setCell ⟨w.heap.size+1+1,0,none⟩ .nilIface) (w.heap.size+1+1) 46 .nilIface:=(y2.other om _).set _;have K4:Chg (fun k=>k=w.heap.size+1\/k=w.heap.size+1+1) W ((W.setCell ⟨w.heap.size+1,0,none⟩ (.slice (some ⟨g6,0,none⟩) 4 k6)).setCell ⟨w.heap.size+1+1,0,none⟩ .nilIface):=((Chg.refl _ W).setCell (AK (AK rfl)) 0 _).setCell (AK (AL rfl)) 0 _;have HR:=BE R;have HF:=BE F;have HG:=BE hG;have c1:=y1.cell;have c2:=y2.cell;have c3:=y3.cell;have f1:=y1.frozen;have f2:=y2.frozen;clear R F hG hrow
  gi_wp2_with fail;generalize (W.setCell ⟨w.heap.size+1,0,none⟩ (.slice (some ⟨g6,0,none⟩) 4 k6)).setCell ⟨w.heap.size+1+1,0,none⟩ .nilIface=Y at *
  have hK2:Y.heap[D]?=some (.deferred (some [])):=(K4.block D (Array.getElem?_eq_some_iff.1 hK).1 om).trans hK;have hkp:=FU (.deferred none) hK2 rfl;have F5:=HF.out.other (K4.block _ HF.out.1.1.lt om) (K4.block _ HF.out.1.lt om) (K4.block _ HF.out.lt om);have R5:=HR.out.chg K4 (fun k e=>⟨fun h1=>by have:g6=k:=AR h1;omega,fun h1=>by have:=hgs _ h1;omega⟩);have G5:Chg (·=b) w Y:=((G3.mono (T:=(·=b)) (fun _ _ e=>e.elim)).trans' HG.out (fun k hk e=>om)).trans' K4 (fun k hk e=>om);have G6:=G5.grown (grownBy_putObj' Y D (.deferred none)) (fun k e=>AL (by cases e;omega));refine⟨by simp,.inl ⟨_,_,rfl,run_takeDeferred hK2,?_⟩⟩;refine⟨_,Wg rfl _ rfl rfl (BV e1 hkp) (BV e2 hkp),⟨g6,k6,gs,rfl,?_⟩,F5.keep hkp,⟨G6.os,G6.tape,G6.output,G6.size,G6.block⟩⟩;have em:(upto 4).map (fun x=>JT (part 58 MM x.1))=(List.range 4).map fun i=>JT (part 58 MM i):=rfl;rw[<-em];exact R5.keeps hkp
 case stop=>
  rintro D cc pre W _ _ h _;exact h.elim
end
end Go.Proofs.YtmdpnpjacfedpaaGreat
namespace Go.Proofs.YtmdpnpjacfedpaaGreat
open List
open Go.Proofs.Tryz
open Go.RowKit
section
variable {base n:Nat}(w:Wd)
theorem Wi(x y:Value)(g p:Nat)(hx:x=.pointer (some ⟨g,0,none⟩))(hy:y=.pointer (some ⟨p,0,none⟩)):(Instr.build 239 #[(0,x),(1,y)]).run prog w=.ok (.agg #[x,y,.int .i64 0]) w:=by
 subst hx hy;kernel_rfl
theorem Wj(g:Nat)(w:Wd):Calls prog 115 #[.pointer (some ⟨g,0,none⟩)] w fun e w'=>∃m p q b,e=.returned (.pointer (some ⟨m,0,none⟩))/\(w.heap.size<=m/\w.heap.size<=p/\w.heap.size<=q/\w.heap.size<=b)/\EO w' m g p q b 0/\Chg No w w':=by
 go_enter func115,ntmps115;go_wp2_with fail;refine(TU w).mono ?_;rintro x w1 ⟨p,q,b,rfl,hp,hq,hb,hF,G1⟩;have hbd:=fun w=>Wi w _ _ g p rfl rfl;have HF:=BE hF;have HG:=BE G1;clear hF G1;go_wp2;go_ret;have G2:Chg No w1 (w1.alloc (.cells #[.pointer (some ⟨g,0,none⟩),.pointer (some ⟨p,0,none⟩),.int .i64 0] 239)):=(Chg.refl _ w1).alloc _;have:=HG.out.size;refine⟨_,p,q,b,rfl,⟨om,hp,hq,hb⟩,⟨?_,HF.out.chg G2⟩,HG.out.trans G2⟩;show (w1.heap.push _)[w1.heap.size]?=_;simp
theorem E6(m g p q b:Nat)(r:Int)(w:Wd)(h:EO w m g p q b r):Calls prog 197 #[.pointer (some ⟨m,0,none⟩)] w fun e w'=>e=.returned (.int .i64 r)/\w'=w:=by
 obtain⟨-,-,c2⟩:=h.cells;have hcall:=ON m 2 w c2;clear h;go_enter func197,ntmps197;go_wp2_with fail;refine hcall.mono ?_;rintro x w1 ⟨rfl,rfl⟩;clear hcall;go_wp2;go_ret;exact⟨rfl,rfl⟩
theorem Qk(m g p q b:Nat)(r:Int)(s:BM)(hs:s.Ok)(w:Wd)(h:EO w m g p q b r)(hC:BI w g s)(k:Int):Calls prog 185 #[.pointer (some ⟨m,0,none⟩),.int .i64 k] w fun e w'=>e=.returned (nerrV (eraseR s k).2)/\BI w' g (eraseR s k).1/\Chg (·=g) w w':=by
 obtain⟨c0,-,-⟩:=h.cells;have hcall:=Tu g s hs k w hC;clear h hC;go_enter func185,ntmps185;go_wp2_with fail;refine hcall.mono ?_;rintro x w1 ⟨rfl,C1,G1⟩;clear hcall;have HC:=BE C1;have HG:=BE G1;clear C1 G1;go_wp2;go_ret;exact⟨rfl,HC.out,HG.out⟩
theorem Oc{w:Wd}{base':Nat}{e:TypeId}{z:Nat}{v:Value}{xs:List Value}(h:w.ownsRow base e z v n xs)(hb:base'<=base):w.ownsRow base' e z v n xs:=by
 refine⟨h.1,?_⟩;rcases h.2 with h1 | ⟨g,cap,cur,rfl,hg,r⟩
 ·exact AK h1
 ·exact AL ⟨g,cap,cur,rfl,AY hb hg,r⟩
theorem DY.nats{p o s c:Int}{l:Bool}(h:DY p o s c l):∃p' o' s' c':Nat,p=p'/\o=o'/\s=s'/\c=c':=by
 obtain⟨⟨h1,-⟩,⟨h2,-⟩,⟨h3,-⟩,h4,-⟩:=h.1;exact⟨p.toNat,o.toNat,s.toNat,c.toNat,om,om,om,om⟩
theorem Ql(m g p q b:Nat)(r:Int)(w:Wd)(h:EO w m g p q b r)(a tp to ts tc:Int)(tl:Bool)(ad:Option Addr)(n cap:Nat)(hno:¬ (DY tp to ts tc tl/\tp=a/\n=174)) :Calls prog 221 #[.pointer (some ⟨m,0,none⟩),.int .i64 a,.agg #[.int .i64 tp,.int .i64 to,.int .i64 ts,.int .i64 tc,.bool tl],.slice ad n cap] w fun e w'=>e=.returned (.tuple #[.slice none 0 0,.iface 57 (.int .i64 1)])/\Chg No w w':=by
 have T0:=Tg.new w tp to ts tc tl;have G0:Chg No w (w.alloc (.cells #[.int .i64 tp,.int .i64 to,.int .i64 ts,.int .i64 tc,.bool tl] 130)):=(Chg.refl _ w).alloc _;obtain⟨-,c1,-⟩:=(h.chg G0).cells;obtain⟨v0,v1,v2,v3,v4⟩:=T0.cells;have HT:=BE T0;have HM:=BE (h.chg G0);have HG:=BE G0;have q1:=EI;have q2:=Bt;clear T0 G0 h;by_cases hp:tp=a
 ·by_cases hm:DY tp to ts tc tl
  ·have hn:n≠174:=fun e=>hno ⟨hm,hp,e⟩;obtain⟨p',o',s',c',rfl,rfl,rfl,rfl⟩:=hm.nats;have hp':(((p':Nat):Int) != a)=false:=(by simp[hp]);have henc:=fun w=>E5 w p' o' s' c' tl hm;clear hno hp;go_enter func221,ntmps221;go_wp2_with (first | refine Bu rfl (.tmp 6) rfl w.heap.size rfl HT.out ?_);refine(henc _).mono ?_;rintro x w1 ⟨g1,rfl,-,-,G1⟩;clear henc;have c1':w1.cell? ⟨m,1,none⟩=some (.pointer (some ⟨p,0,none⟩)):=(HM.out.chg G1).cells.2.1;have HG1:=BE (HG.out.trans G1);clear G1 c1 v0 v1 v2 v3 v4;go_wp2_with fail;refine(Wh p w1 ad n cap hn _).mono ?_;rintro x w2 ⟨rfl,G2⟩;have HG2:=BE (HG1.out.trans G2);clear G2 HG1;go_wp2;go_ret2;exact⟨rfl,HG2.out⟩
  ·have hp':(tp != a)=false:=(by simp[hp]);have henc:=fun w=>Lr w tp to ts tc tl hm;clear hno hp hm;go_enter func221,ntmps221;go_wp2_with (first | refine Bu rfl (.tmp 6) rfl w.heap.size rfl HT.out ?_);refine(henc _).mono ?_;rintro x w1 ⟨rfl,G1⟩;have HG1:=BE (HG.out.trans G1);clear henc G1 c1 v0 v1 v2 v3 v4;go_wp2;go_ret2;exact⟨rfl,HG1.out⟩
 ·have hp':(tp != a)=true:=by simp[hp]
  clear hno hp;go_enter func221,ntmps221;go_wp2;go_ret2;exact⟨rfl,HG.out⟩
theorem Od(m g p q b:Nat)(r:Int)(w:Wd)(h:EO w m g p q b r)(tp to ts tc:Nat)(tl:Bool)(hm:DY tp to ts tc tl)(c o cap:Nat)(Dt:List Nat)(hD:Dt.length=174)(bD:Bys Dt)(hcb:c≠b)(hcs:c<w.heap.size)(hA:At w c o Dt) :Calls prog 221 #[.pointer (some ⟨m,0,none⟩),.int .i64 (tp:Nat),.agg #[.int .i64 (tp:Nat),.int .i64 (to:Nat),.int .i64 (ts:Nat),.int .i64 (tc:Nat),.bool tl],.slice (some ⟨c,o,none⟩) 174 cap] w fun e w'=>∃rr k gs,e=.returned (.tuple #[.slice (some ⟨rr,0,none⟩) 4 k,.nilIface])/\FO w' w.heap.size (.slice (some ⟨rr,0,none⟩) 4 k) gs ((List.range 4).map (wordOf Dt (body tp to ts tc tl)))/\EO w' m g p q b r/\But b w w':=by
 have T0:=Tg.new w tp to ts tc tl;have G0:Chg No w (w.alloc (.cells #[.int .i64 (tp:Nat),.int .i64 (to:Nat),.int .i64 (ts:Nat),.int .i64 (tc:Nat),.bool tl] 130)):=(Chg.refl _ w).alloc _;obtain⟨-,c1,-⟩:=(h.chg G0).cells;obtain⟨v0,v1,v2,v3,v4⟩:=T0.cells;have HT:=BE T0;have HM:=BE (h.chg G0);have HG:=BE G0;have HA:=BE hA;have q2:=Bt;have hp':(((tp:Nat):Int) != (tp:Nat))=false:=by simp
 have henc:=fun w=>E5 w tp to ts tc tl hm;have hbs:=h.lts.2.2.2;have hsz:=G0.size;clear T0 G0 h hA;go_enter func221,ntmps221;go_wp2_with (first | refine Bu rfl (.tmp 6) rfl w.heap.size rfl HT.out ?_);refine(henc _).mono ?_;rintro x w1 ⟨g1,rfl,hg1,A1,G1⟩;clear henc;have M1:=HM.out.chg G1;have c1':=M1.cells.2.1;have G01:=HG.out.trans G1;have hs1:=G01.size;have hlay:=Jl p q b w1 M1.2 c o cap Dt hD bD hcb om (HA.out.chg G01 (fun f=>f)).2 g1 0 50 (body tp to ts tc tl) (BS _ _ _ _ _) (Ce _ _ _ _ _) A1.lt A1.at_.2 (msgOf Dt (body tp to ts tc tl)) rfl;have HM1:=BE M1;have HG1:=BE G01;clear G1 c1 v0 v1 v2 v3 v4 A1 M1 G01 HM HG;go_wp2_with fail;refine hlay.mono ?_;rintro x w2 ⟨⟨rr,k,gs,rfl,hR⟩,hF,hB⟩;clear hlay;have HR:=BE hR;have HM2:=BE (HM1.out.but hF hB);have HB2:=BE (HG1.out.but.trans hB);clear hR hF hB HM1 HG1;go_wp2;go_ret2;exact⟨rr,k,gs,rfl,⟨Oc HR.out.row hs1,HR.out.len,HR.out.arr,HR.out.nd,HR.out.off,fun g hg=>AY hs1 (HR.out.low g hg)⟩,HM2.out,HB2.out⟩
theorem Wk{q g o c:Nat}(h:q≠g):(Value.slice (some ⟨q,o,none⟩) n c).ownBlock≠some g:=fun e=>h (AR e)
theorem Qm(W:Nat->List Nat)(i:Nat)(hi:i<4):((List.range 4).map W).getD i []=W i:=by
 rw[AQ,List.getElem?_map,List.getElem?_range hi];rfl
theorem FO.cell{W:Wd}{rr k:Nat}{gs:List Nat}{ls:List (List Nat)}(h:FO W base (.slice (some ⟨rr,0,none⟩) 4 k) gs ls)(i:Nat)(hi:i<4):gs.length=4/\4<=k/\W.cell? ⟨rr,i,none⟩=some (slc (gs.getD i 0)):=by
 rcases h.row.2 with ⟨e,_⟩ | ⟨g,cap,cur,e,_,hh,hn,_,hz,ht⟩
 ·cases e
 ·injection e with e1 e2 e3;injection e1 with e1;injection e1 with e1;subst e1 e3;have hl4:gs.length=4:=e2.symm;refine⟨hl4,by rw[<-hl4];exact hn,?_⟩;have h2:(cur.toList.take (gs.length*1))[i]?=(gs.map slc)[i]?:=by rw[ht]
  rw[List.getElem?_take_of_lt om,Array.getElem?_toList,List.getElem?_map,AU om] at h2;simp only[World.cell?,hh];rw[AQ,AU om];simpa using h2
theorem gT(p o s c p' o' s' c':Int)(l l':Bool):(Op.equalIn 10000 130 (.agg #[.int .i64 p,.int .i64 o,.int .i64 s,.int .i64 c,.bool l]) (.agg #[.int .i64 p',.int .i64 o',.int .i64 s',.int .i64 c',.bool l'])).run prog w=.ok (decide (p=p'/\o=o'/\s=s'/\c=c'/\l=l')) w:=by
 have u3:=underlying3;have a3:=isAgg3;have z3:=sizeOf3;have u2:=underlying2;have a2:=isAgg2;have z2:=sizeOf2;have u4:=underlying4;have a4:=isAgg4;have z4:=sizeOf4;rw[show (10000:Nat)=9999+1 from rfl,run_equalIn_agg w 9999 130 _ _ kr kr];simp only[Program.fieldsOf,underlying130];go_simp;by_cases h1:p=p' <;> by_cases h2:o=o' <;> by_cases h3:s=s' <;> by_cases h4:c=c' <;> by_cases h5:l=l' <;> simp[h1,h2,h3,h4,h5]
theorem bH(p o s c p' o' s' c':Int)(l l':Bool):(binOp .neq 130 (.agg #[.int .i64 p,.int .i64 o,.int .i64 s,.int .i64 c,.bool l]) (.agg #[.int .i64 p',.int .i64 o',.int .i64 s',.int .i64 c',.bool l'])).run prog w=.ok (.bool (!decide (p=p'/\o=o'/\s=s'/\c=c'/\l=l'))) w:=by
 rw[run_neq_struct,gT];rfl
theorem UE(op:BinOp)(x y:Operand)(xs ys:Array Value):(eqGuard op 130 x y (.agg xs) (.agg ys)).run prog w=.ok () w:=run_eqGuard_agg w op 130 x y xs ys kr
theorem ToldR.sound{L:List Nat}{n:Int}{g:Pg}(h:ToldR L n g)(hs:g.sound=true):g.tagged=true/\g.data.length=174/\Bys g.data:=by
 obtain⟨_,B,bd,bc,hB,hr⟩:=h;rcases hr with ⟨_,_,_,_,_,_,_,q7,_⟩ | ⟨_,q1,_,_,_,_,_,D,dd,dc,hD,⟨_,q7,_⟩ | ⟨rfl,_,q8⟩⟩
 ·rw[hs] at q7;cases q7
 ·rw[hs] at q7;cases q7
 ·rw[q8];exact⟨q1,hD.good⟩
def eT (s:BM) (r:Int) (a tp to ts tc:Nat) (tl:Bool) (Dt:List Nat) (w':Wd) (m g p q b:Nat) (e:Ending):Prop:=∃s' r' c,ProgR s r a tp to ts tc tl Dt s' r' c/\e=.returned (nerrV c)/\EO w' m g p q b r'/\BI w' g s'
theorem Qn(m g p q b:Nat)(r:Int)(s:BM)(hs:s.Ok)(w:Wd)(h:EO w m g p q b r)(hC:BI w g s)(tp to ts tc:Nat)(tl:Bool)(_hm:DY tp to ts tc tl)(c o cap:Nat)(Dt:List Nat)(hD:Dt.length=174)(bD:Bys Dt)(hcb:c≠b)(hcg:c≠g)(hcm:c≠m)(hA:At w c o Dt)(base rr k:Nat)(gs:List Nat)(hR:FO w base (.slice (some ⟨rr,0,none⟩) 4 k) gs ((List.range 4).map (wordOf Dt (body tp to ts tc tl))))(hbase:m<base/\g<base/\b<base) :Calls prog 222 #[.pointer (some ⟨m,0,none⟩),.int .i64 (tp:Nat),.slice (some ⟨rr,0,none⟩) 4 k,.agg #[.int .i64 (tp:Nat),.int .i64 (to:Nat),.int .i64 (ts:Nat),.int .i64 (tc:Nat),.bool tl],.slice (some ⟨c,o,none⟩) 174 cap] w fun e w'=>eT s r tp tp to ts tc tl Dt w' m g p q b e/\Chg (fun k=>k=m\/k=g\/k=b) w w':=by
 have T0:=Tg.new w tp to ts tc tl;have G0:Chg No w (w.alloc (.cells #[.int .i64 (tp:Nat),.int .i64 (to:Nat),.int .i64 (ts:Nat),.int .i64 (tc:Nat),.bool tl] 130)):=(Chg.refl _ w).alloc _;have hsz:(w.alloc (.cells #[.int .i64 (tp:Nat),.int .i64 (to:Nat),.int .i64 (ts:Nat),.int .i64 (tc:Nat),.bool tl] 130)).heap.size=w.heap.size+1:=by simp
 obtain⟨hms,hps,hqs,hbs⟩:=h.lts;obtain⟨nm,np,nq,nb⟩:=h.mg hC;have hgs:=hC.lt;have hmb:=h.mb;have hW:∀k,k<4->(wordOf Dt (body tp to ts tc tl) k).length=64/\Bys (wordOf Dt (body tp to ts tc tl) k):=fun k hk=>⟨EN hD bD (BS _ _ _ _ _) (Ce _ _ _ _ _) k hk,(EK hD bD (BS _ _ _ _ _) (Ce _ _ _ _ _) k hk).2.1⟩;have HT:=BE T0;have HM:=BE (h.chg G0);have HC:=BE (hC.chg G0 (fun f=>f));have HA:=BE (hA.chg G0 (fun f=>f));have HR:=BE (hR.chg G0 (fun _ f=>f.elim));have HG:=BE G0;have HW:=BE hW;have HD:=BE hD;have HS:=BE hs;have hAc:=hA.1;have q0:=Bt;generalize hWW:wordOf Dt (body tp to ts tc tl)=W at *
 have HWW:=BE hWW;generalize hw0:w.alloc (.cells #[.int .i64 (tp:Nat),.int .i64 (to:Nat),.int .i64 (ts:Nat),.int .i64 (tc:Nat),.bool tl] 130)=w0 at *
 clear T0 G0 h hC hA hR hW hD hs hWW;go_enter func222,ntmps222;go_wp2_with fail;clear hw0
 go_loopw [18] (fun t18 wr=>∃i:Nat,i<=4/\t18=.int .i64 i/\(wrN s (tp:Nat) W i).2=0/\BI wr g (wrN s (tp:Nat) W i).1/\Chg (·=g) w0 wr) (fun t18 _=>4 - (intOf t18).toNat)
 case atStart=>exact⟨0,om,rfl,rfl,HC.out,Chg.refl _ _⟩
 case round=>
  obtain⟨i,hi,rfl,hz,C1,G1⟩:=hrel;have hM1:=HM.out.far G1 nm np nq nb;have hR1:=HR.out.chg G1 (fun x hx=>by subst hx;exact⟨fun e=>by rcases HR.out.row.2 with ⟨e',_⟩ | ⟨g',_,_,e',hg',_⟩;cases e';injection e' with e1;injection e1 with e1;injection e1 with e1;subst e1;have:=AR e;simp at this;omega,fun e=>by have:=HR.out.low _ e;omega⟩);by_cases hlt:i<4
  ·have hlt':(i:Int)<4:=om;obtain⟨hgl,hk4,hcell⟩:=hR1.cell i hlt;have harr:=hR1.arr i om;rw[Qm W i hlt] at harr;have hge:base<=gs.getD i 0:=hR1.low _ (by rw[AQ,AU om];exact getElem_mem _);obtain⟨hwl,hwb⟩:=HW.out i hlt;have hok:(wrN s (tp:Nat) W i).1.Ok:=Mh HS.out _ i (fun k hk=>(HW.out k om).2);have hheld:Ca wr (slc (gs.getD i 0)) (W i):=by
    have:=harr.heldFull 64 64 hwl.symm;exact this
   obtain⟨c0,-,-⟩:=hM1.cells;have hcall:=Tw g _ hok (tp:Nat) (i:Nat) (W i) (slc (gs.getD i 0)) wr hheld (Wk om) C1;have hstep:wrN s (tp:Nat) W (i+1)=Bz (wrN s (tp:Nat) W i).1 (tp:Nat) i (W i):=by
    show (if (wrN s (tp:Nat) W i).2=0 then Bz (wrN s (tp:Nat) W i).1 (tp:Nat) i (W i) else wrN s (tp:Nat) W i)=_;rw[AJ hz]
   rw[<-hstep] at hcall;have hcode:=Wa s (tp:Nat) W (i+1);have HG1:=BE G1;have HM1:=BE hM1;have HST:=BE hstep;unfold slc at hcell hcall;clear hM1 hR1 harr hheld C1 G1 hstep hok;generalize gs.getD i 0=gi at *
   go_wp2_with fail;refine hcall.mono ?_;rintro x w2 ⟨rfl,C2,G2⟩;clear hcall;have HC2:=BE C2;have HG2:=BE (HG1.out.trans G2);have HM2:=BE (HM1.out.far G2 nm np nq nb);clear C2 G2 HG1 HM1 hcell c0;by_cases hc:(wrN s (tp:Nat) W (i+1)).2=0
   ·rw[hc];simp only[nerrV];have HCC:=BE hc;clear hc hcode;go_wp2;exact⟨⟨i+1,om,by go_num,HCC.out,HC2.out,HG2.out⟩,by simp[intOf];omega⟩
   ·obtain⟨y,hy,q1⟩:=Ig hcode hc;have HY:=BE hy;rw[hy];have HCC:=BE hc;clear hc hcode hy;go_wp2;go_ret;have e4:wrN s (tp:Nat) W 4=wrN s (tp:Nat) W (i+1):=by
     have:=Wb HCC.out (4 - (i+1))
     rwa [show i+1+(4 - (i+1))=4 from om] at this
    refine⟨⟨(wrN s (tp:Nat) W (i+1)).1,r,(wrN s (tp:Nat) W (i+1)).2,AK ?_,by rw[HY.out];rfl,HM2.out,HC2.out⟩,?_⟩
    ·rw[HWW.out,e4];exact⟨HCC.out,rfl,rfl,rfl⟩
    ·exact(HG.out.mono (fun _ _ f=>f.elim)).trans' HG2.out (fun k _ e=>AL (AK e))
  ·obtain rfl:i=4:=om
   have hok:(wrN s (tp:Nat) W 4).1.Ok:=Mh HS.out _ 4 (fun k hk=>(HW.out k om).2);have hs1:=G1.size;have hcall:=Lv m g p q b r _ hok wr hM1 C1 (tp:Nat);have HT1:=BE (HT.out.chg G1 om);have HA1:=BE (HA.out.chg G1 (fun e=>hcg e));have HG1:=BE G1;have HZ:=BE hz;clear hM1 hR1 C1 G1 hok hz;go_wp2_with fail;refine hcall.mono ?_;rintro x w2 ⟨s',r',X,e,v,rfl,hRR,hO,M2,C2,G2⟩;clear hcall;have HT2:=BE (HT1.out.chg G2 om);have HA2:=BE (HA1.out.chg G2 om);have HM2:=BE M2;have HC2:=BE C2;have HG2:=BE ((HG1.out.mono (T:=fun k=>k=m\/k=g\/k=b) (fun k _ e=>AL (AK e))).trans G2);have HRR:=BE hRR;have HO:=BE hO;clear HT1 HA1 HG1 M2 C2 G2 hO;unfold Zo;have hcode:nIsCode e:=(by rw[hRR.2.1];exact KT _ _);have hlow:∀k,v.ownBlock=some k->wr.heap.size<=k/\k<w2.heap.size:=fun k hk=>HO.out.block hk;have hs2:=HG2.out.size;have hwr:=hs1;have hgd:=UE;by_cases hc:e=0
   ·subst hc;simp only[nerrV];obtain⟨-,hRc,hRt⟩:=hRR;have hTold:ToldR (readV (wrN s (tp:Nat) W 4).1 (tp:Nat)).2.1 (tp:Nat) X:=by
     rcases hRt with ⟨x,_⟩ | ⟨_,_,x⟩
     ·exact absurd rfl x
     ·exact x
    have HTold:=BE hTold;clear hRc hRt hcode hTold;go_wp2_with (refine wpList_store_pg rfl (.tmp 14) (.tmp 39) rfl w2.heap.size rfl rfl HO.out.one (Pb.new w2 false 0 0 0 0 false false (.slice none 0 0) 0) ?_);intro w3 P3 G3;have G3':Chg No w2 w3:=((Chg.refl No w2).alloc _).trans' G3 (fun k hk e=>om);have HT3:=BE (HT2.out.chg G3' (fun f=>f));have HM3:=BE (HM2.out.chg G3');have HC3:=BE (HC2.out.chg G3' (fun f=>f));have HA3:=BE (HA2.out.chg G3' (fun f=>f));have HG3:=BE (HG2.out.trans' G3' (fun _ _ f=>f.elim));have HO3:=BE (HO.out.chg G3' (fun _ _ _ f=>f));obtain⟨k0,k1,k2,k3,k4,k5,k6,k7,k8⟩:=P3.cells;obtain⟨v0,v1,v2,v3,v4⟩:=HT3.out.cells;clear G3 G3' P3 HT2 HM2 HC2 HA2 HG2 HO;obtain⟨xt,xp,xo,xs,xc,xl,xsd,xd,xg⟩:=X;simp only at k0 k1 k2 k3 k4 k5 k6 k7 k8 HO3 ⊢;cases xsd
    ·go_wp2;go_ret;refine⟨⟨s',r',8,AL ?_,rfl,HM3.out,HC3.out⟩,(HG.out.mono (fun _ _ f=>f.elim)).trans HG3.out⟩;rw[HWW.out];exact⟨HZ.out,_,0,HRR.out,AL (AL ⟨rfl,fun hi=>(by have:=hi.2.2.1;cases this),rfl⟩)⟩
    ·have qt:=fun w=>bH w xp xo xs xc tp to ts tc xl tl;obtain⟨ht0,hd0,bd0⟩:=HTold.out.sound rfl;simp only at ht0 hd0 bd0;by_cases ht:((xp:Int)=tp/\(xo:Int)=to/\(xs:Int)=ts/\(xc:Int)=tc/\xl=tl)
     ·rw[AO ht] at qt;obtain⟨g',cap',rfl,hg',hg'',-,hcl,-⟩:=HO3.out.lies om;have heq:=Ic w3 g' 0 xd.length cap' c o 174 cap xd Dt rfl HD.out.symm bd0 bD ⟨hg'',fun i hi=>by rw[AW];exact hcl i hi⟩ HA3.out;have HT0:=BE ht;have HD0:=BE hd0;clear ht hcl HO3 hd0;rw[HD0.out] at heq k7 ⊢;by_cases hdd:xd=Dt
      ·rw[AO hdd] at heq;go_wp2_with fail;refine heq.mono ?_;rintro x w4 ⟨rfl,rfl⟩;clear heq;go_wp2;go_ret;refine⟨⟨s',r',0,AL ?_,rfl,HM3.out,HC3.out⟩,(HG.out.mono (fun _ _ f=>f.elim)).trans HG3.out⟩;rw[HWW.out];exact⟨HZ.out,_,0,HRR.out,AL (AK ⟨rfl,⟨ht0,⟨by show xp=tp;have:=HT0.out.1;omega,by show xo=to;have:=HT0.out.2.1;omega,by show xs=ts;have:=HT0.out.2.2.1;omega,by show xc=tc;have:=HT0.out.2.2.2.1;omega,HT0.out.2.2.2.2⟩,rfl,hdd⟩,rfl⟩)⟩
      ·rw[AN hdd] at heq;go_wp2_with fail;refine heq.mono ?_;rintro x w4 ⟨rfl,rfl⟩;clear heq;go_wp2;go_ret;refine⟨⟨s',r',8,AL ?_,rfl,HM3.out,HC3.out⟩,(HG.out.mono (fun _ _ f=>f.elim)).trans HG3.out⟩;rw[HWW.out];exact⟨HZ.out,_,0,HRR.out,AL (AL ⟨rfl,fun hi=>hdd hi.2.2.2,rfl⟩)⟩
     ·rw[AN ht] at qt;go_wp2;go_ret;refine⟨⟨s',r',8,AL ?_,rfl,HM3.out,HC3.out⟩,(HG.out.mono (fun _ _ f=>f.elim)).trans HG3.out⟩;rw[HWW.out];exact⟨HZ.out,_,0,HRR.out,AL (AL ⟨rfl,fun hi=>ht ⟨by have:=hi.2.1.1;simp only at this;omega,by have:=hi.2.1.2.1;simp only at this;omega,by have:=hi.2.1.2.2.1;simp only at this;omega,by have:=hi.2.1.2.2.2.1;simp only at this;omega,hi.2.1.2.2.2.2⟩,rfl⟩)⟩
   ·obtain⟨y,hy,q1⟩:=Ig hcode hc;have HY:=BE hy;rw[hy];have HCC:=BE hc;clear hc hcode hy;go_wp2_with (refine wpList_store_pg rfl (.tmp 14) (.tmp 39) rfl w2.heap.size rfl rfl HO.out.one (Pb.new w2 false 0 0 0 0 false false (.slice none 0 0) 0) ?_);intro w3 P3 G3;have G3':Chg No w2 w3:=((Chg.refl No w2).alloc _).trans' G3 (fun k hk e=>om);have HM3:=BE (HM2.out.chg G3');have HC3:=BE (HC2.out.chg G3' (fun f=>f));have HG3:=BE (HG2.out.trans' G3' (fun _ _ f=>f.elim));clear G3 G3' P3 HT2 HM2 HC2 HA2 HG2 HO;go_wp2;go_ret;refine⟨⟨s',r',e,AL ?_,by rw[HY.out];rfl,HM3.out,HC3.out⟩,(HG.out.mono (fun _ _ f=>f.elim)).trans HG3.out⟩;rw[HWW.out];exact⟨HZ.out,_,e,HRR.out,AK ⟨HCC.out,rfl⟩⟩
theorem Oe(m g p q b:Nat)(r:Int)(w:Wd)(h:EO w m g p q b r)(a tp to ts tc:Int)(tl:Bool)(ad:Option Addr)(n cap:Nat)(hno:¬ (DY tp to ts tc tl/\tp=a/\n=174)) :Calls prog 198 #[.pointer (some ⟨m,0,none⟩),.int .i64 a,.agg #[.int .i64 tp,.int .i64 to,.int .i64 ts,.int .i64 tc,.bool tl],.slice ad n cap] w fun e w'=>e=.returned (.iface 57 (.int .i64 1))/\Chg No w w':=by
 have T0:=Tg.new w tp to ts tc tl;have G0:Chg No w (w.alloc (.cells #[.int .i64 tp,.int .i64 to,.int .i64 ts,.int .i64 tc,.bool tl] 130)):=(Chg.refl _ w).alloc _;have hcall:=Ql m g p q b r _ (h.chg G0) a tp to ts tc tl ad n cap hno;have HT:=BE T0;have HG:=BE G0;have q1:=EI;clear T0 G0 h hno;go_enter func198,ntmps198;go_wp2_with (first | refine Bu rfl (.tmp 6) rfl w.heap.size rfl HT.out ?_);refine hcall.mono ?_;rintro x w1 ⟨rfl,G1⟩;have HG1:=BE (HG.out.trans G1);clear hcall G1;go_wp2;go_ret;exact⟨rfl,HG1.out⟩
theorem Mk(m g p q b:Nat)(r:Int)(s:BM)(hs:s.Ok)(w:Wd)(h:EO w m g p q b r)(hC:BI w g s)(tp to ts tc:Nat)(tl:Bool)(hm:DY tp to ts tc tl)(c o cap:Nat)(Dt:List Nat)(hD:Dt.length=174)(bD:Bys Dt)(hcb:c≠b)(hcg:c≠g)(hcm:c≠m)(hA:At w c o Dt) :Calls prog 198 #[.pointer (some ⟨m,0,none⟩),.int .i64 (tp:Nat),.agg #[.int .i64 (tp:Nat),.int .i64 (to:Nat),.int .i64 (ts:Nat),.int .i64 (tc:Nat),.bool tl],.slice (some ⟨c,o,none⟩) 174 cap] w fun e w'=>eT s r tp tp to ts tc tl Dt w' m g p q b e/\Chg (fun k=>k=m\/k=g\/k=b) w w':=by
 have T0:=Tg.new w tp to ts tc tl;have G0:Chg No w (w.alloc (.cells #[.int .i64 (tp:Nat),.int .i64 (to:Nat),.int .i64 (ts:Nat),.int .i64 (tc:Nat),.bool tl] 130)):=(Chg.refl _ w).alloc _;have hs0:=G0.size;have hcall:=Od m g p q b r _ (h.chg G0) tp to ts tc tl hm c o cap Dt hD bD hcb (Aj hA.1 hs0) (hA.chg G0 (fun f=>f));obtain⟨hms,hps,hqs,hbs⟩:=h.lts;obtain⟨nm,np,nq,nb⟩:=h.mg hC;have hgs:=hC.lt;have hAc:=hA.1;have HT:=BE T0;have HG:=BE G0;have HC:=BE hC;have HA:=BE hA;have HD:=BE hD;have HS:=BE hs;have q1:=Bt;clear T0 G0 h hC hA hD hs;go_enter func198,ntmps198;go_wp2_with (first | refine Bu rfl (.tmp 6) rfl w.heap.size rfl HT.out ?_);refine hcall.mono ?_;rintro x w1 ⟨rr,k,gs,rfl,hR,M1,B1⟩;clear hcall;have C1:=(HC.out.chg HG.out (fun f=>f)).chg B1.chg (fun e=>nb e.symm);have A1:=(HA.out.chg HG.out (fun f=>f)).chg B1.chg hcb;have HT1:=BE (HT.out.chg B1.chg om);have G1:Chg (fun k=>k=m\/k=g\/k=b) w w1:=(HG.out.mono (T:=fun k=>k=m\/k=g\/k=b) (fun _ _ f=>f.elim)).trans' B1.chg (fun k _ e=>AL (AL e));have hcall:=Qn m g p q b r s HS.out w1 M1 C1 tp to ts tc tl hm c o cap Dt HD.out bD hcb hcg hcm A1 _ rr k gs hR om;have HG1:=BE G1;clear hR M1 B1 C1 A1 HC HA HG G1;go_wp2_with (first | refine Bu rfl (.tmp 6) rfl w.heap.size rfl HT1.out ?_);refine hcall.mono ?_;rintro x w2 ⟨⟨s',r',e,hP,rfl,M2,C2⟩,G2⟩;have HP:=BE hP;have HM2:=BE M2;have HC2:=BE C2;have HG2:=BE (HG1.out.trans G2);clear hcall hP M2 C2 G2;go_wp2;go_ret;exact⟨⟨s',r',e,HP.out,rfl,HM2.out,HC2.out⟩,HG2.out⟩
end
theorem Chg.drewN{S:Nat->Prop}{u w:Wd}(h:Chg S u w)(n:Nat):Chg S u (w.drewN n):=by
 induction n with
 | zero=>exact h
 | succ n ih=>exact ih.drew
def i6 (z:Int):Value:=.int .i64 z
def upd {α:Type} (f:Nat->α) (i:Nat) (z:α):Nat->α:=fun j=>if j=i then z else f j
def ints (f:Nat->Int) (n:Nat):List Value:=(List.range n).map fun i=>i6 (f i)
theorem BF(f:Nat->Int)(n:Nat):(ints f n).length=n:=by simp[ints]
theorem BU(f:Nat->Int)(n i:Nat)(h:i<n):(ints f n)[i]?=some (i6 (f i)):=by simp[ints,h]
theorem Fd(f:Nat->Int)(n i:Nat)(z:Int):(ints f n).set i (i6 z)=ints (upd f i z) n:=by
 apply ext_getElem?;intro j;by_cases hj:j<n
 ·by_cases e:j=i
  ·subst e;rw[List.getElem?_set_self (by simpa[BF] using hj),BU _ _ _ hj];simp[upd]
  ·rw[List.getElem?_set_ne om,BU _ _ _ hj,BU _ _ _ hj];simp[upd,e]
 ·rw[Ae (by simp[BF];omega),Ae (by simp[BF];omega)]
theorem Cf(f:Nat->Int)(n:Nat):∀v ∈ ints f n,v.oneCell'=true:=by
 intro v hv;obtain⟨_,_,rfl⟩:=mem_map.1 hv;rfl
theorem Df{f g:Nat->Int}{n:Nat}(h:∀i,i<n->f i=g i):ints f n=ints g n:=by
 apply map_congr_left;intro i hi;rw[h i (mem_range.1 hi)]
def IB (w:Wd) (b:Nat) (t:TypeId) (n:Nat) (F:Nat->Int):Prop:=w.heap[b]?=some (.cells (ints F n).toArray t)
section
variable {w w':Wd}{b n:Nat}{t:TypeId}{F:Nat->Int}
theorem IB.lt(h:IB w b t n F):b<w.heap.size:=(Array.getElem?_eq_some_iff.1 (show w.heap[b]?=some _ from h)).1
theorem IB.chg{S:Nat->Prop}(h:IB w b t n F)(hc:Chg S w w')(hb:¬ S b):IB w' b t n F:=(hc.block b h.lt hb).trans h
theorem IB.new(w:Wd)(t:TypeId)(n:Nat)(F:Nat->Int):IB (w.alloc (.cells (ints F n).toArray t)) w.heap.size t n F:=by
 show (w.heap.push _)[w.heap.size]?=_;simp
theorem IB.set(h:IB w b t n F)(i:Nat)(z:Int):IB (w.setCell ⟨b,i,none⟩ (.int .i64 z)) b t n (upd F i z):=by
 have h':w.heap[b]?=some _:=h;show (w.setCell ⟨b,i,none⟩ _).heap[b]?=_;have e2:(ints F n).toArray.setIfInBounds i (.int .i64 z)=(ints (upd F i z) n).toArray:=by
  apply Array.ext';have:=Fd F n i z;simpa[i6] using this
 simp[World.setCell,Ai,h',e2]
theorem IB.cell(h:IB w b t n F)(i:Nat)(hi:i<n):w.cell? ⟨b,i,none⟩=some (.int .i64 (F i))/\w.frozen? ⟨b,i,none⟩=false:=by
 have h':w.heap[b]?=some _:=h;refine⟨?_,by simp[World.frozen?,h']⟩;simp only[World.cell?,h'];simpa[i6] using BU F n i hi
theorem IB.congr{G:Nat->Int}(h:IB w b t n F)(e:∀i,i<n->F i=G i):IB w b t n G:=by
 unfold IB at *
 rw[h,Df e]
theorem IB.row(h:IB w b t n F)(G:Nat->Int):IB (w.setRow b (ints G n).toArray) b t n G:=setRow_heap w b _ _ t _ h
end
def bools (f:Nat->Bool) (n:Nat):List Value:=(List.range n).map fun i=>.bool (f i)
theorem BP(f:Nat->Bool)(n:Nat):(bools f n).length=n:=by simp[bools]
theorem Do(f:Nat->Bool)(n i:Nat)(h:i<n):(bools f n)[i]?=some (.bool (f i)):=by simp[bools,h]
theorem Lw(f:Nat->Bool)(n i:Nat)(z:Bool):(bools f n).set i (.bool z)=bools (upd f i z) n:=by
 apply ext_getElem?;intro j;by_cases hj:j<n
 ·by_cases e:j=i
  ·subst e;rw[List.getElem?_set_self (by simpa[BP] using hj),Do _ _ _ hj];simp[upd]
  ·rw[List.getElem?_set_ne om,Do _ _ _ hj,Do _ _ _ hj];simp[upd,e]
 ·rw[Ae (by simp[BP];omega),Ae (by simp[BP];omega)]
theorem UF(f:Nat->Bool)(n:Nat):∀v ∈ bools f n,v.oneCell'=true:=by
 intro v hv;obtain⟨_,_,rfl⟩:=mem_map.1 hv;rfl
theorem Of{f g:Nat->Bool}{n:Nat}(h:∀i,i<n->f i=g i):bools f n=bools g n:=by
 apply map_congr_left;intro i hi;rw[h i (mem_range.1 hi)]
def BB (w:Wd) (b:Nat) (t:TypeId) (n:Nat) (F:Nat->Bool):Prop:=w.heap[b]?=some (.cells (bools F n).toArray t)
section
variable {w w':Wd}{b n:Nat}{t:TypeId}{F:Nat->Bool}
theorem BB.set(h:BB w b t n F)(i:Nat)(z:Bool):BB (w.setCell ⟨b,i,none⟩ (.bool z)) b t n (upd F i z):=by
 have h':w.heap[b]?=some _:=h;show (w.setCell ⟨b,i,none⟩ _).heap[b]?=_;have e2:(bools F n).toArray.setIfInBounds i (.bool z)=(bools (upd F i z) n).toArray:=by
  apply Array.ext';have:=Lw F n i z;simpa using this
 simp[World.setCell,Ai,h',e2]
theorem BB.cell(h:BB w b t n F)(i:Nat)(hi:i<n):w.cell? ⟨b,i,none⟩=some (.bool (F i))/\w.frozen? ⟨b,i,none⟩=false:=by
 have h':w.heap[b]?=some _:=h;refine⟨?_,by simp[World.frozen?,h']⟩;simp only[World.cell?,h'];simpa using Do F n i hi
end
theorem Dx(w:Wd)(g:Nat)(c:Array Value):Chg (·=g) w (w.setRow g c):=⟨rfl,rfl,rfl,by simp,fun k _ hk=>setRow_other _ _ _ _ hk⟩
theorem CV{ops:Array Oper}{rest:List Oper}{o:Oper}{a:Act}{w:Wd}{Q:Exit->Act->World->Prop}(hgd:o.guard=none)(t:TypeId)(ho:o.op=.alloc t)(N:Nat)(hN:w.heap.size=N){A:Array Value}(hz:∀w,(zeroValue t).run prog w=.ok (.agg A) w)(h:∀w',w'.heap[N]?=some (.cells A t)->Chg No w w'->w'.heap.size=N+1->wpList prog ops Q rest (a.put o.dst (.pointer (some ⟨N,0,none⟩))) w'):wpList prog ops Q (o :: rest) a w:=by
 refine wpList_plain hgd fun K hK=>?_;unfold Oper.wp;simp[execOp,ho,Instr.alloc,hz,newVar,Value.cells,newRow];rw[hN];refine hK _ _ (h _ ?_ ((Chg.refl _ w).alloc _) (by simp[hN]));rw[<-hN];show (w.heap.push _)[w.heap.size]?=_;simp
theorem Hv(w:Wd):(binOp .eql 46 .nilIface .nilIface).run prog w=.ok (.bool true) w:=kr
theorem Ct(w:Wd):(binOp .neq 46 .nilIface .nilIface).run prog w=.ok (.bool false) w:=kr
theorem Ih(w:Wd)(n:Int):(binOp .eql 46 (.iface 57 (.int .i64 n)) .nilIface).run prog w=.ok (.bool false) w:=kr
theorem Cu(w:Wd)(n:Int):(binOp .neq 46 (.iface 57 (.int .i64 n)) .nilIface).run prog w=.ok (.bool true) w:=kr
theorem KX(c:Nat):nerrV c=errV c:=by
 cases c with
 | zero=>rfl
 | succ n=>unfold errV;rw[AI om];rfl
theorem Ii(c:Nat)(w:Wd):(binOp .eql 46 (errV c) .nilIface).run prog w=.ok (.bool (decide (c=0))) w:=by
 unfold errV;by_cases h:c=0
 ·rw[AJ h,AO h];exact Hv w
 ·rw[AI h,AN h];exact Ih w _
theorem CA(c:Nat)(w:Wd):(binOp .neq 46 (errV c) .nilIface).run prog w=.ok (.bool (!decide (c=0))) w:=by
 unfold errV;by_cases h:c=0
 ·rw[AJ h,AO h];exact Ct w
 ·rw[AI h,AN h];exact Cu w _
theorem Dg(c:Nat)(x:Operand)(w:Wd):(eqGuard .eql 46 x (.const .nilIface) (errV c) .nilIface).run prog w=.ok () w:=by
 unfold errV;by_cases h:c=0
 ·rw[AJ h];cases x <;> rfl
 ·rw[AI h];rfl
theorem BQ(c:Nat)(x:Operand)(w:Wd):(eqGuard .neq 46 x (.const .nilIface) (errV c) .nilIface).run prog w=.ok () w:=by
 unfold errV;by_cases h:c=0
 ·rw[AJ h];cases x <;> rfl
 ·rw[AI h];rfl
end Go.Proofs.YtmdpnpjacfedpaaGreat
namespace Go.Proofs.YtmdpnpjacfedpaaGreat.AA
open List
open Go.Proofs.Tryz
open Go.RowKit
section
variable {w w' wr:Wd}{b g n k:Nat}{l:List Nat}{ops:Array Oper}{rest:List Oper}{o:Oper}{a:Act}{Q:Exit->Act->World->Prop}{e:Value}{f:Nat->Bool}{z:Int}{fn:Func}{q:Tmp}{ps:List (Nat × Nat)}
theorem gU(h:Bys l):bts (le l) l.length=l:=by
 induction l with
 | nil=>simp[bts]
 | cons x r ih=>
  have h2:=h x mem_cons_self;rw[An,N3,le];have e1:(x+256*le r) % 256=x:=om
  have e2:(x+256*le r) / 256=le r:=om
  rw[e1,e2,ih (fun n hn=>h n (mem_cons_of_mem _ hn))]
theorem Wl(w:Wd)(v n:Nat)(_hv:v<18446744073709551616)(h1:1<=n)(h8:n<=8)(hr:¬ v<256 ^ n) :Calls prog 223 #[.int .u64 (v:Int),.int .i64 (n:Int)] w fun e w'=>e=.returned (.tuple #[.slice none 0 0,.iface 57 (.int .i64 2)])/\w'=w:=by
 have h1':¬ (n:Int)<1:=om
 have h8':¬ (8:Int)<(n:Int):=om
 have hsh:(0:Int)<=8*(n:Int):=om
 have hb:((v:Int) / 2 ^ (8*n) != 0)=true:=by
  rw[MW,bne_iff_ne];have:0<v / 256 ^ n:=Nat.div_pos om (Nat.pow_pos dc);omega
 clear hr;go_enter func223,ntmps223;go_wp2;go_ret2;exact⟨rfl,rfl⟩
theorem Hw(w:Wd):(binOp .neq 46 (.iface 57 (.int .i64 2)) .nilIface).run prog w=.ok (.bool true) w:=kr
structure Bn where
 F:Nat->Int
 N:Int
 B:Nat->Bool
 C:Int
 R:Nat->Int
 S:Nat->Int
def ckL (c:Bn):List Value:=ints c.F 24 ++ ([i6 c.N] ++ (bools c.B 12 ++ ([i6 c.C] ++ (ints c.R 12 ++ ints c.S 12))))
def ckA (c:Bn):Array Value:=(ckL c).toArray
theorem Gm(c:Bn):(ckL c).length=62:=by simp[ckL,BF,BP]
theorem DC(c:Bn):(ckA c).size=62:=by simp[ckA,Gm]
theorem bI(c:Bn):∀v ∈ ckL c,v.oneCell'=true:=by
 intro v hv;unfold ckL at hv;simp only[Am,mem_singleton] at hv;rcases hv with h | h | h | h | h | h
 ·exact Cf _ _ v h
 ·subst h;rfl
 ·exact UF _ _ v h
 ·subst h;rfl
 ·exact Cf _ _ v h
 ·exact Cf _ _ v h
theorem R7(c:Bn):(ckA c).all (·.oneCell')=true:=all_oneCell_toArray (bI c)
theorem El{c d:Bn}(hF:∀i,i<24->c.F i=d.F i)(hN:c.N=d.N)(hB:∀i,i<12->c.B i=d.B i)(hC:c.C=d.C)(hR:∀i,i<12->c.R i=d.R i)(hS:∀i,i<12->c.S i=d.S i):ckA c=ckA d:=by
 unfold ckA ckL;rw[Df hF,hN,Of hB,hC,Df hR,Df hS]
def Ck (w:Wd) (b:Nat) (c:Bn):Prop:=w.heap[b]?=some (.cells (ckA c) 55)
theorem Ck.new(w:Wd)(c:Bn):Ck (w.alloc (.cells (ckA c) 55)) w.heap.size c:=by
 show (w.heap.push _)[w.heap.size]?=_;simp
theorem Ck.lt{c:Bn}(h:Ck w b c):b<w.heap.size:=(Array.getElem?_eq_some_iff.1 (show w.heap[b]?=some _ from h)).1
theorem Ck.other{c:Bn}(h:Ck w b c)(e:w'.heap[b]?=w.heap[b]?):Ck w' b c:=e.trans h
theorem Ck.chg{S:Nat->Prop}{c:Bn}(h:Ck w b c)(hc:Chg S w w')(hb:¬ S b):Ck w' b c:=(hc.block b h.lt hb).trans h
theorem Ck.alloc{c:Bn}(h:Ck w b c)(x:Obj):Ck (w.alloc x) b c:=(Below.heap_alloc _ _ _ h.lt).trans h
theorem Ck.setOther{c:Bn}(h:Ck w b c)(hg:k≠b)(i:Nat)(v:Value):Ck (w.setCell ⟨k,i,none⟩ v) b c:=
 h.other (Below.heap_setCell _ _ _ _ (by simp;omega))
theorem Ck.frozen{c:Bn}(h:Ck w b c)(i:Nat):w.frozen? ⟨b,i,none⟩=false:=by
 have h':w.heap[b]?=some _:=h;simp[World.frozen?,h']
theorem Ck.cell{c:Bn}(h:Ck w b c)(i:Nat){v:Value}(hv:(ckL c)[i]?=some v):w.cell? ⟨b,i,none⟩=some v:=by
 have h':w.heap[b]?=some _:=h;simp only[World.cell?,h',ckA];simpa using hv
theorem eU(c:Bn)(i:Nat)(hi:i<24):(ckL c)[i]?=some (i6 (c.F i)):=by
 rw[ckL,Af (by rw[BF];omega),BU _ _ _ hi]
theorem kq(c:Bn):(ckL c)[24]?=some (i6 c.N):=by
 rw[ckL,Aa (by rw[BF];omega),BF];rfl
theorem eV(c:Bn)(i:Nat)(hi:i<12):(ckL c)[25+i]?=some (.bool (c.B i)):=by
 rw[ckL,Aa (by rw[BF];omega),BF,Aa (by simp;omega),show 25+i - 24 - [i6 c.N].length=i by simp;omega,Af (by rw[BP];omega),Do _ _ _ hi]
theorem kt(c:Bn):(ckL c)[37]?=some (i6 c.C):=by
 rw[ckL,Aa (by rw[BF];omega),BF,Aa (by simp),Aa (by simp[BP]),BP];rfl
theorem Og(c:Bn)(i:Nat):(ckL c)[38+i]?=(ints c.R 12 ++ ints c.S 12)[i]?:=by
 rw[ckL,Aa (by rw[BF];omega),BF,Aa (by simp;omega),Aa (by simp[BP];omega),BP,Aa (by simp;omega)];congr 1;simp;omega
theorem eW(c:Bn)(i:Nat)(hi:i<12):(ckL c)[38+i]?=some (i6 (c.R i)):=by
 rw[Og,Af (by rw[BF];omega),BU _ _ _ hi]
theorem eX(c:Bn)(i:Nat)(hi:i<12):(ckL c)[50+i]?=some (i6 (c.S i)):=by
 rw[show 50+i=38+(12+i) by omega,Og,Aa (by rw[BF];omega),BF,show 12+i - 12=i by omega,BU _ _ _ hi]
theorem Ck.F{c:Bn}(h:Ck w b c)(i:Nat)(hi:i<24):w.cell? ⟨b,i,none⟩=some (.int .i64 (c.F i)):=h.cell i (eU c i hi)
theorem Ck.N{c:Bn}(h:Ck w b c):w.cell? ⟨b,24,none⟩=some (.int .i64 c.N):=h.cell 24 (kq c)
theorem Ck.B{c:Bn}(h:Ck w b c)(i:Nat)(hi:i<12):w.cell? ⟨b,25+i,none⟩=some (.bool (c.B i)):=h.cell (25+i) (eV c i hi)
theorem Ck.C{c:Bn}(h:Ck w b c):w.cell? ⟨b,37,none⟩=some (.int .i64 c.C):=h.cell 37 (kt c)
theorem Ck.R{c:Bn}(h:Ck w b c)(i:Nat)(hi:i<12):w.cell? ⟨b,38+i,none⟩=some (.int .i64 (c.R i)):=h.cell (38+i) (eW c i hi)
theorem Ck.S{c:Bn}(h:Ck w b c)(i:Nat)(hi:i<12):w.cell? ⟨b,50+i,none⟩=some (.int .i64 (c.S i)):=h.cell (50+i) (eX c i hi)
theorem Ck.set{c d:Bn}(h:Ck w b c)(i:Nat)(v:Value)(e:(ckL c).set i v=ckL d):Ck (w.setCell ⟨b,i,none⟩ v) b d:=by
 have h':w.heap[b]?=some _:=h;show (w.setCell ⟨b,i,none⟩ v).heap[b]?=_;have e2:(ckA c).setIfInBounds i v=ckA d:=by
  apply Array.ext';simp[ckA,e]
 simp[World.setCell,Ai,h',e2]
theorem Ck.setF{c:Bn}(h:Ck w b c)(i:Nat)(hi:i<24)(z:Int):Ck (w.setCell ⟨b,i,none⟩ (.int .i64 z)) b { c with F:=upd c.F i z }:=
 h.set i _ (by show (ckL c).set i (i6 z)=_;rw[ckL,set_append_left _ _ (by rw[BF];omega),Fd];rfl)
theorem Ck.setN{c:Bn}(h:Ck w b c)(z:Int):Ck (w.setCell ⟨b,24,none⟩ (.int .i64 z)) b { c with N:=z }:=
 h.set 24 _ (by rw[ckL,Ap _ _ (by rw[BF];omega),BF];rfl)
theorem Ck.setB{c:Bn}(h:Ck w b c)(i:Nat)(hi:i<12)(z:Bool):Ck (w.setCell ⟨b,25+i,none⟩ (.bool z)) b { c with B:=upd c.B i z }:=
 h.set (25+i) _ (by rw[ckL,Ap _ _ (by rw[BF];omega),BF,Ap _ _ (by simp;omega),show 25+i - 24 - [i6 c.N].length=i by simp;omega,set_append_left _ _ (by rw[BP];omega),Lw];rfl)
theorem Ck.setC{c:Bn}(h:Ck w b c)(z:Int):Ck (w.setCell ⟨b,37,none⟩ (.int .i64 z)) b { c with C:=z }:=
 h.set 37 _ (by rw[ckL,Ap _ _ (by rw[BF];omega),BF,Ap _ _ (by simp),Ap _ _ (by simp[BP]),BP];rfl)
theorem Ck.setR{c:Bn}(h:Ck w b c)(i:Nat)(hi:i<12)(z:Int):Ck (w.setCell ⟨b,38+i,none⟩ (.int .i64 z)) b { c with R:=upd c.R i z }:=
 h.set (38+i) _ (by show (ckL c).set (38+i) (i6 z)=_;rw[ckL,Ap _ _ (by rw[BF];omega),BF,Ap _ _ (by simp;omega),Ap _ _ (by simp[BP];omega),BP,Ap _ _ (by simp;omega),show 38+i - 24 - [i6 c.N].length - 12 - [i6 c.C].length=i by simp;omega,set_append_left _ _ (by rw[BF];omega),Fd];rfl)
theorem Ck.setS{c:Bn}(h:Ck w b c)(i:Nat)(hi:i<12)(z:Int):Ck (w.setCell ⟨b,50+i,none⟩ (.int .i64 z)) b { c with S:=upd c.S i z }:=
 h.set (50+i) _ (by show (ckL c).set (50+i) (i6 z)=_;rw[ckL,Ap _ _ (by rw[BF];omega),BF,Ap _ _ (by simp;omega),Ap _ _ (by simp[BP];omega),BP,Ap _ _ (by simp;omega),Ap _ _ (by simp[BF];omega),BF,show 50+i - 24 - [i6 c.N].length - 12 - [i6 c.C].length - 12=i by simp;omega,Fd];rfl)
theorem Ck.part{c:Bn}(h:Ck w b c)(o:Nat)(cs:List Value)(hs:∀j v,cs[j]?=some v->(ckL c)[o+j]?=some v):w.rangeAt b o cs:=fun j v hv=>h.cell (o+j) (hs j v hv)
theorem Ck.partF{c:Bn}(h:Ck w b c):w.rangeAt b 0 (ints c.F 24):=h.part 0 _ fun j v hv=>by
 have hj:j<24:=by have:=(List.getElem?_eq_some_iff.1 hv).1;rwa [BF] at this
 rw[AW,eU c j hj,<-BU c.F 24 j hj,hv]
theorem Ck.partB{c:Bn}(h:Ck w b c):w.rangeAt b 25 (bools c.B 12):=h.part 25 _ fun j v hv=>by
 have hj:j<12:=by have:=(List.getElem?_eq_some_iff.1 hv).1;rwa [BP] at this
 rw[eV c j hj,<-Do c.B 12 j hj,hv]
theorem Ck.partR{c:Bn}(h:Ck w b c):w.rangeAt b 38 (ints c.R 12):=h.part 38 _ fun j v hv=>by
 have hj:j<12:=by have:=(List.getElem?_eq_some_iff.1 hv).1;rwa [BF] at this
 rw[eW c j hj,<-BU c.R 12 j hj,hv]
theorem Ck.partS{c:Bn}(h:Ck w b c):w.rangeAt b 50 (ints c.S 12):=h.part 50 _ fun j v hv=>by
 have hj:j<12:=by have:=(List.getElem?_eq_some_iff.1 hv).1;rwa [BF] at this
 rw[eX c j hj,<-BU c.S 12 j hj,hv]
theorem E7:(prog.info? 55).map (·.size)=some 62:=kr
theorem Wm:(prog.info? 52).map (·.size)=some 24:=kr
theorem Gj:(prog.info? 53).map (·.size)=some 12:=kr
theorem Wn:(prog.info? 36).map (·.size)=some 12:=kr
theorem Ba(hgd:o.guard=none)(x:Operand)(ho:o.op=.load 55 x)(g:Nat)(hx:a.eval x=.pointer (some ⟨g,0,none⟩)){c:Bn}(hg:Ck w g c)(h:wpList prog ops Q rest (a.put o.dst (.agg (ckA c))) w):wpList prog ops Q (o :: rest) a w:=
 wpList_load_row hgd 55 x ho g hx 55 _ _ _ hg underlying55 rfl (by rw[DC];exact E7) h
def ck0:Bn:=⟨fun _=>0,0,fun _=>false,0,fun _=>0,fun _=>0⟩
theorem Bv(hgd:o.guard=none)(x y:Operand)(ho:o.op=.store 55 x y)(g:Nat)(hx:a.eval x=.pointer (some ⟨g,0,none⟩)){c:Bn}(hy:a.eval y=.agg (ckA c)){c':Bn}(hg:Ck w g c')(h:∀w',Ck w' g c->Chg (·=g) w w'->wpList prog ops Q rest (a.put o.dst undef) w'):wpList prog ops Q (o :: rest) a w:=
 wpList_store_row hgd 55 x y ho g _ hx hy 55 _ hg (by rw[DC];exact E7) (by rw[DC,DC]) (R7 c) (h _ (setRow_heap w g _ _ 55 _ hg) ⟨rfl,rfl,rfl,by simp,fun k _ hk=>setRow_other _ _ _ _ hk⟩)
theorem KY{u:Tmp}(h:fn.results=#[.cell q 55,.tmp u])(tmps:Array Value){c:Bn}(hp:tmps.getD q undef=.pointer (some ⟨g,0,none⟩))(hT:Ck w g c) :(results fn tmps).run prog w=.ok (.tuple #[.agg (ckA c),tmps.getD u undef]) w:=by
 rw[results_cell_tmp h,hp];simp[asAddr,run_loadVar_row w g 55 55 _ _ _ hT underlying55 rfl (by rw[DC];exact E7)]
theorem Oh(h:fn.results=#[.cell q 55])(tmps:Array Value){c:Bn}(hp:tmps.getD q undef=.pointer (some ⟨g,0,none⟩))(hT:Ck w g c) :(results fn tmps).run prog w=.ok (.agg (ckA c)) w:=
 results_cell_row h tmps w g 55 _ _ _ hp hT underlying55 rfl (by rw[DC];exact E7)
theorem Jm(w:Wd):(Instr.build 55 #[]).run prog w=.ok (.agg (ckA ck0)) w:=kr
theorem Wo(w:Wd):(zeroValue 55).run prog w=.ok (.agg (ckA ck0)) w:=kr
theorem Du(hgd:o.guard=none)(ho:o.op=.alloc 55)(h:wpList prog ops Q rest (a.put o.dst (.pointer (some ⟨w.heap.size,0,none⟩))) (w.alloc (.cells (ckA ck0) 55))):wpList prog ops Q (o :: rest) a w:=by
 refine wpList_plain hgd fun K hK=>?_;have hz:=Wo;unfold Oper.wp;simp[execOp,ho,Instr.alloc,hz,newVar,Value.cells,newRow];exact hK _ _ h
theorem FK(hgd:o.guard=none)(ho:o.op=.build 55 #[])(h:wpList prog ops Q rest (a.put o.dst (.agg (ckA ck0))) w):wpList prog ops Q (o :: rest) a w:=by
 refine wpList_plain hgd fun K hK=>?_;have hz:=Jm;unfold Oper.wp;simp[execOp,ho,hz];exact hK _ _ h
def bitsN (f:Nat->Bool):Nat->Nat
 | 0=>0
 | n+1=>bitsN f n+(if f n then 2 ^ n else 0)
theorem Fe(f:Nat->Bool):∀n,bitsN f n<2 ^ n
 | 0=>by simp[bitsN]
 | n+1=>by
  have:=Fe f n
  rw[bitsN,Nat.pow_succ]
  split <;> omega
theorem KZ(f:Nat->Bool):bitsN f 12<4096:=Fe f 12
theorem Wp(a k:Nat)(h:a<2 ^ k):a ||| 2 ^ k=a+2 ^ k:=by
 have:=Nat.two_pow_add_eq_or_of_lt h 1;rw[Nat.mul_one] at this;rw[Nat.or_comm,<-this,Nat.add_comm]
theorem bJ(f:Nat->Bool)(i:Nat)(hi:i<12)(w:Wd):(Instr.index 53 (.agg (bools f 12).toArray) (.int .i64 i)).run prog w=.ok (.bool (f i)) w:=by
 have h:=Do f 12 i hi;generalize bools f 12=L at *
 simp[Instr.index,run_underlying underlying53,asIntOf,go_sem,hi,h]
theorem bK(f:Nat->Int)(i:Nat)(hi:i<24)(w:Wd):(Instr.index 52 (.agg (ints f 24).toArray) (.int .i64 i)).run prog w=.ok (.int .i64 (f i)) w:=by
 have h:=BU f 24 i hi;generalize ints f 24=L at *
 simp[Instr.index,run_underlying underlying52,asIntOf,go_sem,hi,h,i6]
theorem Jn(f:Nat->Int)(i:Nat)(hi:i<12)(w:Wd):(Instr.index 36 (.agg (ints f 12).toArray) (.int .i64 i)).run prog w=.ok (.int .i64 (f i)) w:=by
 have h:=BU f 12 i hi;generalize ints f 12=L at *
 simp[Instr.index,run_underlying underlying36,asIntOf,go_sem,hi,h,i6]
def Bo (w:Wd) (b:Nat) (f:Nat->Bool):Prop:=w.heap[b]?=some (.cells (bools f 12).toArray 53)
theorem Bo.new(w:Wd)(f:Nat->Bool):Bo (w.alloc (.cells (bools f 12).toArray 53)) w.heap.size f:=by
 show (w.heap.push _)[w.heap.size]?=_;simp
theorem Bo.lt(h:Bo w b f):b<w.heap.size:=(Array.getElem?_eq_some_iff.1 (show w.heap[b]?=some _ from h)).1
theorem Bo.chg{S:Nat->Prop}(h:Bo w b f)(hc:Chg S w w')(hb:¬ S b):Bo w' b f:=(hc.block b h.lt hb).trans h
theorem Bo.cell(h:Bo w b f)(i:Nat)(hi:i<12):w.cell? ⟨b,i,none⟩=some (.bool (f i))/\w.frozen? ⟨b,i,none⟩=false:=by
 have h':w.heap[b]?=some _:=h;refine⟨?_,by simp[World.frozen?,h']⟩;simp only[World.cell?,h'];simpa using Do f 12 i hi
theorem Qo(f:Nat->Bool):((bools f 12).toArray).size=12:=by simp[BP]
theorem Kc(hgd:o.guard=none)(x:Operand)(ho:o.op=.load 53 x)(g:Nat)(hx:a.eval x=.pointer (some ⟨g,0,none⟩))(hg:Bo w g f)(h:wpList prog ops Q rest (a.put o.dst (.agg (bools f 12).toArray)) w):wpList prog ops Q (o :: rest) a w:=
 wpList_load_row hgd 53 x ho g hx 53 _ _ _ hg underlying53 rfl (by rw[Qo];exact Gj) h
theorem Wq(w:Wd)(f:Nat->Bool) :Calls prog 200 #[.agg (bools f 12).toArray] w fun e w'=>e=.returned (.int .u64 (bitsN f 12:Nat))/\Chg No w w':=by
 have HB:=BE (Bo.new w f);have HG:Hid (Chg No w (w.alloc (.cells (bools f 12).toArray 53))):=BE ((Chg.refl _ w).alloc _);go_enter func200,ntmps200;go_wp2_with (refine Kc rfl (.tmp 1) rfl w.heap.size rfl HB.out ?_)
 go_loopw [3,7] (fun v t wr=>∃k:Nat,k<=12/\t=.int .i64 k/\v=.int .u64 (bitsN f k:Nat)/\Chg No w wr) (fun _ t _=>12 - (intOf t).toNat)
 case atStart=>exact⟨0,dc,rfl,rfl,HG.out⟩
 case round=>
  obtain⟨k,hk,rfl,rfl,hG⟩:=hrel;by_cases hlt:k<12
  ·have hlt':(k:Int)<12:=om;have hkb:(0:Int)<=(k:Int):=om;have hix:=bJ f k hlt;have hb:=Fe f k;have hp:2 ^ k<=2 ^ 11:=Nat.pow_le_pow_right dc om;cases hf:f k with
   | false=>
    rw[hf] at hix;have HE:Hid (bitsN f (k+1)=bitsN f k):=BE (by rw[bitsN,hf];rfl);go_wp2;exact⟨⟨k+1,om,by go_num,by rw[HE.out],hG⟩,by simp[intOf];omega⟩
   | true=>
    rw[hf] at hix;have HE:Hid (bitsN f (k+1)=bitsN f k ||| 2 ^ k):=BE (by rw[bitsN,hf,Wp _ _ hb];rfl);have HO:Hid (bits .or .u64 (bitsN f k:Int) (IntKind.u64.wrap (2 ^ k))=(bitsN f k ||| 2 ^ k:Nat)):=by
     have e:(2 ^ k:Int)=((2 ^ k:Nat):Int):=(by push_cast;rfl);rw[e,D9 _ om,KI _ _ om om];rfl
    go_wp2;exact⟨⟨k+1,om,by go_num,by rw[HO.out,HE.out],hG⟩,by simp[intOf];omega⟩
  ·have e:k=12:=om;subst e;go_wp2;go_ret;exact⟨rfl,hG⟩
def gV (v k i:Nat):Bool:=if i<k then v.testBit i else false
theorem bN(v k:Nat):upd (gV v k) k (v.testBit k)=gV v (k+1):=by
 funext j;unfold upd gV;by_cases h:j=k
 ·subst h;simp
 ·by_cases h2:j<k
  ·rw[AI h,AJ h2,AJ om]
  ·rw[AI h,AI h2,AI om]
def cat:List (Nat × Nat)->List Nat
 | []=>[]
 | p :: r=>bts p.1 p.2 ++ cat r
def tot:List (Nat × Nat)->Nat
 | []=>0
 | p :: r=>p.2+tot r
def Kd (ps:List (Nat × Nat)):Prop:=∀p ∈ ps,p.1<256 ^ p.2
theorem CB:∀ps,(cat ps).length=tot ps
 | []=>rfl
 | p :: r=>by rw[cat,tot,AV,BG,CB r]
theorem E8:∀ps qs,cat (ps ++ qs)=cat ps ++ cat qs
 | [],_=>rfl
 | p :: r,qs=>by rw[cons_append,cat,cat,E8 r,Aq]
theorem EA:∀ps qs,tot (ps ++ qs)=tot ps+tot qs
 | [],_=>by simp[tot]
 | p :: r,qs=>by rw[cons_append,tot,tot,EA r,Nat.add_assoc]
theorem Ff(ps:List (Nat × Nat))(v z:Nat):cat (ps ++ [(v,z)])=cat ps ++ bts v z:=by rw[E8];simp[cat]
theorem Em(ps:List (Nat × Nat))(v z:Nat):tot (ps ++ [(v,z)])=tot ps+z:=by rw[EA];simp[tot]
theorem Ij(ps:List (Nat × Nat))(v z:Nat):Kd (ps ++ [(v,z)])<->Kd ps/\v<256 ^ z:=by
 constructor
 ·intro h;exact⟨fun p hp=>h p (by simp[hp]),h (v,z) (by simp)⟩
 ·rintro ⟨h1,h2⟩ p hp;rcases mem_append.1 hp with h | h
  ·exact h1 p h
  ·rw[mem_singleton] at h;subst h;exact h2
def Ik (ps:List (Nat × Nat)):List Nat:=cat ps ++ List.replicate (174 - tot ps) 0
theorem JN(ps:List (Nat × Nat))(h:tot ps<=174):(Ik ps).length=174:=by simp[Ik,CB];omega
theorem Ws(ps:List (Nat × Nat))(v z:Nat)(h:tot ps+z<=174):lay (Ik ps) (tot ps) (bts v z)=Ik (ps ++ [(v,z)]):=by
 unfold lay Ik;rw[BG,Ff,Em,take_append_of_le_length (by rw[CB];omega),As (by rw[CB];omega),drop_append,drop_of_length_le (by rw[CB];omega),A7,CB,drop_replicate,Aq];congr 3;omega
def Wr (w:Wd) (b g n:Nat) (e:Value):Prop:=
 w.heap[b]?=some (.cells #[.slice (some ⟨g,0,none⟩) n 174,e] 234)
theorem Wr.lt(h:Wr w b g n e):b<w.heap.size:=(Array.getElem?_eq_some_iff.1 (show w.heap[b]?=some _ from h)).1
theorem Wr.other(h:Wr w b g n e)(k:w'.heap[b]?=w.heap[b]?):Wr w' b g n e:=k.trans h
theorem Wr.chg{S:Nat->Prop}(h:Wr w b g n e)(hc:Chg S w w')(hb:¬ S b):Wr w' b g n e:=(hc.block b h.lt hb).trans h
theorem Wr.cells(h:Wr w b g n e):w.cell? ⟨b,0,none⟩=some (.slice (some ⟨g,0,none⟩) n 174)/\w.cell? ⟨b,1,none⟩=some e/\w.frozen? ⟨b,0,none⟩=false/\w.frozen? ⟨b,1,none⟩=false:=by
 have h':w.heap[b]?=some _:=h;refine⟨?_,?_,?_,?_⟩ <;> simp[World.cell?,World.frozen?,h']
theorem Wr.store(h:Wr w b g n e)(m:Nat):Wr (w.setCell ⟨b,0,none⟩ (.slice (some ⟨g,0,none⟩) m 174)) b g m e:=by
 have h':w.heap[b]?=some _:=h;show (w.setCell ⟨b,0,none⟩ _).heap[b]?=_;simp[World.setCell,Ai,h']
theorem Wr.err(h:Wr w b g n e)(e':Value):Wr (w.setCell ⟨b,1,none⟩ e') b g n e':=by
 have h':w.heap[b]?=some _:=h;show (w.setCell ⟨b,1,none⟩ _).heap[b]?=_;simp[World.setCell,Ai,h']
def Oi (w:Wd) (b g:Nat) (ps:List (Nat × Nat)):Prop:=
 b≠g/\((Kd ps/\Wr w b g (tot ps) .nilIface/\Arr w g 5 (Ik ps))\/(¬ Kd ps/\∃n,Wr w b g n (.iface 57 (.int .i64 2))))
theorem Oi.lt(h:Oi w b g ps):b<w.heap.size:=by
 rcases h.2 with ⟨_,h,_⟩ | ⟨_,n,h⟩ <;> exact h.lt
theorem Oi.chg{S:Nat->Prop}(h:Oi w b g ps)(hc:Chg S w w')(hb:¬ S b)(hg:¬ S g):Oi w' b g ps:=by
 refine⟨h.1,?_⟩;rcases h.2 with ⟨h1,h2,h3⟩ | ⟨h1,n,h2⟩
 ·exact AK ⟨h1,h2.chg hc hb,h3.chg hc hg⟩
 ·exact AL ⟨h1,n,h2.chg hc hb⟩
theorem Jl(w:Wd)(b g:Nat)(ps:List (Nat × Nat))(hW:Oi w b g ps)(v z:Nat)(hv:v<18446744073709551616)(hz1:1<=z)(hz8:z<=8)(hn:tot ps+z<=174) :Calls prog 199 #[.pointer (some ⟨b,0,none⟩),.int .u64 (v:Int),.int .i64 (z:Int)] w fun e w'=>e=.returned (.tuple #[])/\Oi w' b g (ps ++ [(v,z)])/\Chg (fun k=>k=b\/k=g) w w':=by
 obtain⟨hbg,hW⟩:=hW;have q1:=Bt;have q2:=Hw;rcases hW with ⟨hf,hR,hA⟩ | ⟨hf,n,hR⟩
 ·by_cases hr:v<256 ^ z
  ·have HW:=BE hR;have HA:=BE hA;have hcall:=N6 w v z hv hz1 hz8 hr;have HF:Hid (Kd (ps ++ [(v,z)])):=BE ((Ij _ _ _).2 ⟨hf,hr⟩);have HL:=BE (JN ps om);obtain⟨i0,i1,-,-⟩:=hR.cells;clear hR hA hr hf;go_enter func199,ntmps199;go_wp2_with fail;refine hcall.mono ?_;rintro e w1 ⟨g1,rfl,hg1,A1,G1⟩;clear hcall i0 i1;have W1:=HW.out.chg G1 (fun e=>e);have B1:=HA.out.chg G1 (fun e=>e);obtain⟨k0,k1,-,-⟩:=W1.cells;have hsrc:Hid (∀j,j<(bts v z).length->w1.cell? ⟨g1,0+j,none⟩=some (.int .u8 ((bts v z).getD j 0:Nat))):=BE (fun j hj=>by
    rw[BG] at hj
    rw[AW,A1.cell j (by rw[BG];omega),DB _ _ _ hj,DB _ _ _ om])
   have HB1:=BE B1;have W2:Wr (w1.setRow g (bcells (lay (Ik ps) (tot ps) (bts v z)))) b g (tot ps) .nilIface:=W1.other (setRow_other _ _ _ _ hbg);have A2:Arr (w1.setRow g (bcells (lay (Ik ps) (tot ps) (bts v z)))) g 5 (Ik (ps ++ [(v,z)])):=by
    have:=B1.row (lay (Ik ps) (tot ps) (bts v z))
    rwa [Ws ps v z hn] at this ⊢
   have G2:Chg (fun k=>k=b\/k=g) w (w1.setRow g (bcells (lay (Ik ps) (tot ps) (bts v z)))):=(G1.mono (fun _ _ f=>f.elim)).setRow (AK (AL rfl)) _;obtain⟨j0,-,f0,-⟩:=W2.cells;have HW2:=BE W2;have HA2:=BE A2;have HG2:=BE G2;have HT:=BE (Em ps v z);clear W1 B1 A1 G1 W2 A2 G2;go_wp2_with (at_builtin;refine EL rfl (.tmp 29) (.tmp 30) rfl g (tot ps) 174 g1 0 z z rfl rfl HB1.out (bts v z) (BG v z) hsrc.out hn (by rw[HL.out];exact hn) ?_);go_end0;refine⟨rfl,⟨hbg,AK ⟨HF.out,?_,HA2.out.setOther hbg _ _⟩⟩,HG2.out.setCell (AK (AK rfl)) _ _⟩;rw[HT.out];exact HW2.out.store _
  ·have HW:=BE hR;have hcall:=Wl w v z hv hz1 hz8 hr;have HF:Hid (¬ Kd (ps ++ [(v,z)])):=BE (fun h=>hr ((Ij _ _ _).1 h).2);obtain⟨i0,i1,i2,i3⟩:=hR.cells;clear hR hA hr hf;go_enter func199,ntmps199;go_wp2_with fail;refine hcall.mono ?_;rintro e w1 ⟨rfl,rfl⟩;clear hcall;go_wp2;refine AZ (results_none rfl _ _ _) rfl ?_;exact⟨rfl,⟨hbg,AL ⟨HF.out,_,HW.out.err _⟩⟩,(Chg.refl _ _).setCell (AK (AK rfl)) _ _⟩
 ·have HW:=BE hR;have HF:Hid (¬ Kd (ps ++ [(v,z)])):=BE (fun h=>hf ((Ij _ _ _).1 h).1);obtain⟨i0,i1,i2,i3⟩:=hR.cells;clear hR hf;go_enter func199,ntmps199;go_wp2;refine AZ (results_none rfl _ _ _) rfl ?_;exact⟨rfl,⟨hbg,AL ⟨HF.out,_,HW.out⟩⟩,Chg.refl _ _⟩
def u6 (z:Int):Nat:=(IntKind.u64.wrap z).toNat
theorem Wt(z:Int):((u6 z:Nat):Int)=IntKind.u64.wrap z:=by
 unfold u6;rw[IntKind.wrap_u64];omega
theorem ku(z:Int):u6 z<18446744073709551616:=by
 unfold u6;rw[IntKind.wrap_u64];omega
theorem Oj(w:Wd)(b g:Nat)(ps:List (Nat × Nat))(hW:Oi w b g ps)(z:Int)(s:Nat)(hz1:1<=s)(hz8:s<=8)(hn:tot ps+s<=174) :Calls prog 199 #[.pointer (some ⟨b,0,none⟩),.int .u64 (IntKind.u64.wrap z),.int .i64 (s:Int)] w fun e w'=>e=.returned (.tuple #[])/\Oi w' b g (ps ++ [(u6 z,s)])/\Chg (fun k=>k=b\/k=g) w w':=by
 have:=Jl w b g ps hW (u6 z) s (ku z) hz1 hz8 hn
 rwa [Wt] at this
def fl (f:Nat->Int) (n s:Nat):List (Nat × Nat):=(List.range n).map fun i=>(u6 (f i),s)
theorem Hx(f:Nat->Int)(n s:Nat):fl f (n+1) s=fl f n s ++ [(u6 (f n),s)]:=by simp[fl,range_succ]
theorem E9(f:Nat->Int)(s:Nat):∀n,tot (fl f n s)=n*s
 | 0=>by simp[fl,tot]
 | n+1=>by rw[Hx,Em,E9 f s n,Nat.add_mul,Nat.one_mul]
def nums (c:Bn):Nat->List (Nat × Nat)
 | 0=>[]
 | 1=>fl c.F 24 5
 | 2=>fl c.F 24 5 ++ [(u6 c.N,5)]
 | 3=>fl c.F 24 5 ++ [(u6 c.N,5)] ++ [(bitsN c.B 12,2)]
 | 4=>fl c.F 24 5 ++ [(u6 c.N,5)] ++ [(bitsN c.B 12,2)] ++ [(u6 c.C,1)]
 | 5=>fl c.F 24 5 ++ [(u6 c.N,5)] ++ [(bitsN c.B 12,2)] ++ [(u6 c.C,1)] ++ fl c.R 12 2
 | _=>fl c.F 24 5 ++ [(u6 c.N,5)] ++ [(bitsN c.B 12,2)] ++ [(u6 c.C,1)] ++ fl c.R 12 2 ++ fl c.S 12 1
theorem Hy(c:Bn):tot (nums c 1)=120/\tot (nums c 2)=125/\tot (nums c 3)=127/\tot (nums c 4)=128/\tot (nums c 5)=152/\tot (nums c 6)=164:=by
 refine⟨?_,?_,?_,?_,?_,?_⟩ <;> simp[nums,EA,E9,tot]
theorem Ol(w:Wd)(b g:Nat)(c:Bn)(hW:Oi w b g [])(hg:g<w.heap.size) :Calls prog 161 #[.pointer (some ⟨b,0,none⟩),.agg (ckA c)] w fun e w'=>e=.returned (.tuple #[])/\Oi w' b g (nums c 6)/\Chg (fun k=>k=b\/k=g) w w':=by
 have hb:=hW.lt;have hbs:¬ (w.heap.size=b\/w.heap.size=g):=om
 have HK:=BE (Ck.new w c);have HG:Hid (Chg (fun k=>k=b\/k=g) w (w.alloc (.cells (ckA c) 55))):=BE ((Chg.refl _ w).alloc _);have HW:Hid (Oi (w.alloc (.cells (ckA c) 55)) b g []):=BE (hW.chg (S:=fun _=>False) ((Chg.refl _ w).alloc _) (fun e=>e) (fun e=>e));have r1:=HK.out.partF;obtain⟨t1,t2,t3,t4,t5,t6⟩:=Hy c;have HT:=BE (And.intro t1 (And.intro t2 (And.intro t3 (And.intro t4 (And.intro t5 t6)))));have S22:Hid ((prog.info? 52).map (·.size)=some (ints c.F 24).length):=by rw[BF];exact Wm
 have S23:Hid ((prog.info? 53).map (·.size)=some (bools c.B 12).length):=by rw[BP];exact Gj
 have S24:Hid ((prog.info? 36).map (·.size)=some (ints c.R 12).length):=by rw[BF];exact Wn
 have S25:Hid ((prog.info? 36).map (·.size)=some (ints c.S 12).length):=by rw[BF];exact Wn
 clear hW t1 t2 t3 t4 t5 t6;go_enter func161,ntmps161;go_wp2_with (refine wpList_load_mid rfl 52 (.tmp 10) rfl w.heap.size 0 rfl _ _ r1 underlying52 rfl S22.out ?_);clear r1
 go_loopw [12] (fun t wr=>∃k:Nat,k<=24/\t=.int .i64 k/\Oi wr b g (fl c.F k 5)/\Ck wr w.heap.size c/\Chg (fun k=>k=b\/k=g) w wr) (fun t _=>24 - (intOf t).toNat)
 case atStart=>exact⟨0,dc,rfl,HW.out,HK.out,HG.out⟩
 case round=>
  clear HW HK HG;obtain⟨k,hk,rfl,a1,a2,a3⟩:=hrel;by_cases hlt:k<24
  ·have hlt':(k:Int)<24:=om;have hkb:(0:Int)<=(k:Int):=om;have hix:=bK c.F k hlt;have hcall:=Oj wr b g _ a1 (c.F k) 5 dc dc (by rw[E9];omega);have HK:=BE a2;have HG:=BE a3;clear a1 a2 a3;go_wp2_with fail;refine hcall.mono ?_;rintro e w2 ⟨rfl,W2,G2⟩;have HW2:=BE W2;have HK2:=BE (HK.out.chg G2 hbs);have HG2:=BE (HG.out.trans G2);clear hcall W2 G2 HK HG;go_wp2;exact⟨⟨k+1,om,by go_num,by rw[Hx];exact HW2.out,HK2.out,HG2.out⟩,by simp[intOf];omega⟩
  ·have e:k=24:=om;subst e;have hcall:=Oj wr b g _ a1 c.N 5 dc dc (by rw[E9];omega);have k1:=a2.N;have HK:=BE a2;have HG:=BE a3;clear a1 a2 a3;go_wp2_with fail;refine hcall.mono ?_;rintro e w2 ⟨rfl,W2,G2⟩;have K2:=HK.out.chg G2 hbs;have HG2:=BE (HG.out.trans G2);have r2:=K2.partB;have HW2:=BE W2;have HK2:=BE K2;have hcall:=Wq w2 c.B;clear W2 G2 HK HG K2 k1;go_wp2_with (refine wpList_load_mid rfl 53 (.tmp 26) rfl w.heap.size 25 rfl _ _ r2 underlying53 rfl S23.out ?_);refine hcall.mono ?_;rintro e w3 ⟨rfl,G3⟩;have W3:=HW2.out.chg G3 (fun e=>e) (fun e=>e);have HK3:=BE (HK2.out.chg G3 (fun e=>e));have HG3:=BE (HG2.out.trans (G3.mono (fun _ _ f=>f.elim)));have hcall:=Jl w3 b g _ W3 (bitsN c.B 12) 2 (by have:=KZ c.B;omega) dc dc (by rw[Em,E9];omega);clear W3 G3 HK2 HG2 HW2 r2;go_wp2_with fail;refine hcall.mono ?_;rintro e w4 ⟨rfl,W4,G4⟩;have K4:=HK3.out.chg G4 hbs;have HG4:=BE (HG3.out.trans G4);have k1:=K4.C;have hcall:=Oj w4 b g _ W4 c.C 1 dc dc (by rw[Em,Em,E9];omega);have HK4:=BE K4;clear W4 G4 HK3 HG3 K4;go_wp2_with fail;refine hcall.mono ?_;rintro e w5 ⟨rfl,W5,G5⟩;have K5:=HK4.out.chg G5 hbs;have HG5:=BE (HG4.out.trans G5);have r3:=K5.partR;have HK5:=BE K5;have HW5:Hid (Oi w5 b g (nums c 4)):=BE W5;clear W5 G5 HK4 HG4 K5 hcall k1;go_wp2_with (refine wpList_load_mid rfl 36 (.tmp 35) rfl w.heap.size 38 rfl _ _ r3 underlying36 rfl S24.out ?_);clear r3
   go_loopw [37] (fun t wr=>∃k:Nat,k<=12/\t=.int .i64 k/\Oi wr b g (nums c 4 ++ fl c.R k 2)/\Ck wr w.heap.size c/\Chg (fun k=>k=b\/k=g) w wr) (fun t _=>12 - (intOf t).toNat)
   case atStart=>exact⟨0,dc,rfl,by simpa[fl] using HW5.out,HK5.out,HG5.out⟩
   case round=>
    clear HW5 HK5 HG5;obtain⟨k,hk,rfl,a1,a2,a3⟩:=hrel;by_cases hlt:k<12
    ·have hlt':(k:Int)<12:=om;have hkb:(0:Int)<=(k:Int):=om;have hix:=Jn c.R k hlt;have hcall:=Oj _ b g _ a1 (c.R k) 2 dc dc (by rw[EA,E9,HT.out.2.2.2.1];omega);have HK:=BE a2;have HG:=BE a3;clear a1 a2 a3;go_wp2_with fail;refine hcall.mono ?_;rintro e w2 ⟨rfl,W2,G2⟩;have HW2:=BE W2;have HK2:=BE (HK.out.chg G2 hbs);have HG2:=BE (HG.out.trans G2);clear hcall W2 G2 HK HG;go_wp2;exact⟨⟨k+1,om,by go_num,by rw[Hx,<-Aq];exact HW2.out,HK2.out,HG2.out⟩,by simp[intOf];omega⟩
    ·have e:k=12:=om;subst e;have r4:=a2.partS;have HK5:=BE a2;have HG5:=BE a3;have HW5:=BE a1;clear a1 a2 a3;go_wp2_with (refine wpList_load_mid rfl 36 (.tmp 45) rfl w.heap.size 50 rfl _ _ r4 underlying36 rfl S25.out ?_);clear r4
     go_loopw [47] (fun t wr=>∃k:Nat,k<=12/\t=.int .i64 k/\Oi wr b g (nums c 5 ++ fl c.S k 1)/\Ck wr w.heap.size c/\Chg (fun k=>k=b\/k=g) w wr) (fun t _=>12 - (intOf t).toNat)
     case atStart=>exact⟨0,dc,rfl,by rw[show fl c.S 0 1=[] from rfl,append_nil];exact HW5.out,HK5.out,HG5.out⟩
     case round=>
      clear HW5 HK5 HG5;obtain⟨k,hk,rfl,a1,a2,a3⟩:=hrel;by_cases hlt:k<12
      ·have hlt':(k:Int)<12:=om;have hkb:(0:Int)<=(k:Int):=om;have hix:=Jn c.S k hlt;have hcall:=Oj _ b g _ a1 (c.S k) 1 dc dc (by rw[EA,E9,HT.out.2.2.2.2.1];omega);have HK:=BE a2;have HG:=BE a3;clear a1 a2 a3;go_wp2_with fail;refine hcall.mono ?_;rintro e w2 ⟨rfl,W2,G2⟩;have HW2:=BE W2;have HK2:=BE (HK.out.chg G2 hbs);have HG2:=BE (HG.out.trans G2);clear hcall W2 G2 HK HG;go_wp2;exact⟨⟨k+1,om,by go_num,by rw[Hx,<-Aq];exact HW2.out,HK2.out,HG2.out⟩,by simp[intOf];omega⟩
      ·have e:k=12:=om;subst e;have HG5:=BE a3;have HW5:=BE a1;clear a1 a2 a3;go_wp2;go_end0;exact⟨rfl,HW5.out,HG5.out⟩
def Qp (c:Bn):Prop:=c.C<96/\Kd (nums c 6)
def wrL (c:Bn):List Nat:=Ik (nums c 6)
theorem CI(c:Bn):(wrL c).length=174:=JN _ (by rw[(Hy c).2.2.2.2.2];decide)
def wst0 (w:Wd) (c:Bn):World:=((w.alloc (.cells (ckA c) 55)).alloc (.cells (bcells Ef) 5)).alloc (.cells #[.slice (some ⟨w.heap.size+1,0,none⟩) 0 174,.nilIface] 234)
theorem R8(w:Wd)(c:Bn):Oi (wst0 w c) (w.heap.size+1+1) (w.heap.size+1) []/\Chg No w (wst0 w c)/\w.heap.size+1<(wst0 w c).heap.size:=by
 have A0:=Arr.new (w.alloc (.cells (ckA c) 55)) 5 Ef;have e0:(w.alloc (.cells (ckA c) 55)).heap.size=w.heap.size+1:=by simp
 rw[e0] at A0;have hN:=heap_alloc_new ((w.alloc (.cells (ckA c) 55)).alloc (.cells (bcells Ef) 5)) (.cells #[.slice (some ⟨w.heap.size+1,0,none⟩) 0 174,.nilIface] 234);have e1:((w.alloc (.cells (ckA c) 55)).alloc (.cells (bcells Ef) 5)).heap.size=w.heap.size+1+1:=by simp
 rw[e1] at hN;refine⟨⟨om,AK ⟨(fun p hp=>absurd hp (by simp)),hN,?_⟩⟩,(((Chg.refl _ w).alloc _).alloc _).alloc _,by simp[wst0]⟩;exact A0.alloc _
theorem R9:∀ps,Bys (cat ps)
 | []=>fun n hn=>by cases hn
 | p :: r=>fun n hn=>(mem_append.1 hn).elim (CS _ _ n) (R9 r n)
theorem FA(c:Bn):Bys (wrL c):=fun n hn=>(mem_append.1 hn).elim (R9 _ n) (fun h=>by rw[(mem_replicate.1 h).2];decide)
theorem kv(w:Wd)(c:Bn)(h:¬ Qp c) :Calls prog 104 #[.agg (ckA c)] w fun e w'=>e=.returned (.tuple #[.slice none 0 0,.iface 57 (.int .i64 1)])/\Chg No w w':=by
 have K0:=Ck.new w c;have G0:Chg No w (w.alloc (.cells (ckA c) 55)):=(Chg.refl _ w).alloc _;have k1:=K0.C;by_cases hC:c.C<96
 ·have HF:Hid (¬ Kd (nums c 6)):=BE (fun e=>h ⟨hC,e⟩);have hC':¬ (96:Int)<=c.C:=om
  have hm:=IX;have q1:=Hw;have HK:=BE K0;have HG:=BE G0;clear h hC K0 G0;go_enter func104,ntmps104;go_wp2_with (refine Ba rfl (.tmp 1) rfl w.heap.size rfl ((HK.out.alloc _).alloc _) ?_);have hs:=R8 w c
  change Calls prog 161 _ (wst0 w c) _;generalize wst0 w c=w0 at *
  obtain⟨W0,G0,hlt⟩:=hs;refine(Ol w0 _ _ c W0 hlt).mono ?_;rintro e w1 ⟨rfl,W1,G1⟩;have HG1:Hid (Chg No w w1):=BE (G0.trans' G1 (fun i hi hh=>om));obtain⟨n,hR⟩:∃n,Wr w1 (w.heap.size+1+1) (w.heap.size+1) n (.iface 57 (.int .i64 2)):=by
   rcases W1.2 with ⟨hf,_⟩ | ⟨_,hn⟩
   ·exact absurd hf HF.out
   ·exact hn
  obtain⟨j0,j1,-,-⟩:=hR.cells;clear W0 G0 hlt W1 G1 hR HK HG k1;go_wp2;go_ret2;exact⟨rfl,HG1.out⟩
 ·have hC':(96:Int)<=c.C:=om
  have HG:=BE G0;clear h K0 G0 hC;go_enter func104,ntmps104;go_wp2;go_ret2;exact⟨rfl,HG.out⟩
theorem Lx(w:Wd)(c:Bn)(h:Qp c) :Calls prog 104 #[.agg (ckA c)] w fun e w'=>∃g,e=.returned (.tuple #[.slice (some ⟨g,0,none⟩) 174 174,.nilIface])/\w.heap.size<=g/\Arr w' g 5 (wrL c)/\Chg No w w':=by
 have K0:=Ck.new w c;have k1:=K0.C;have hC':¬ (96:Int)<=c.C:=by have:=h.1;omega
 have HF:Hid (Kd (nums c 6)):=BE h.2;have hm:=IX;have q1:=Bt;have HK:=BE K0;clear h K0;go_enter func104,ntmps104;go_wp2_with (refine Ba rfl (.tmp 1) rfl w.heap.size rfl ((HK.out.alloc _).alloc _) ?_);have hs:=R8 w c
 change Calls prog 161 _ (wst0 w c) _;generalize wst0 w c=w0 at *
 obtain⟨W0,G0,hlt⟩:=hs;refine(Ol w0 _ _ c W0 hlt).mono ?_;rintro e w1 ⟨rfl,W1,G1⟩;have HG1:Hid (Chg No w w1):=BE (G0.trans' G1 (fun i hi hh=>om));obtain⟨hR,hA⟩:Wr w1 (w.heap.size+1+1) (w.heap.size+1) 164 .nilIface/\Arr w1 (w.heap.size+1) 5 (wrL c):=by
  rcases W1.2 with ⟨_,h1,h2⟩ | ⟨hf,_⟩
  ·rw[(Hy c).2.2.2.2.2] at h1;exact⟨h1,h2⟩
  ·exact absurd HF.out hf
 obtain⟨j0,j1,-,-⟩:=hR.cells;have HA:=BE hA;clear W0 G0 hlt W1 G1 hR HK k1 hA;go_wp2;go_ret2;exact⟨_,rfl,om,HA.out,HG1.out⟩
def part (l:List Nat) (a z k i:Nat):Int:=if i<k then (fld l (a+z*i) z:Nat) else 0
theorem Ke(l:List Nat)(a z k:Nat):upd (part l a z k) k ((fld l (a+z*k) z:Nat):Int)=part l a z (k+1):=by
 funext j;unfold upd part;by_cases h:j=k
 ·subst h;simp
 ·by_cases h2:j<k
  ·rw[AI h,AJ h2,AJ om]
  ·rw[AI h,AI h2,AI om]
def rdK (l:List Nat) (f n:Nat) (bs:Bool) (c r s:Nat):Bn:=
 ⟨part l 0 5 f,if n=0 then 0 else (fld l 120 5:Nat),fun i=>bs && (fld l 125 2).testBit i,if c=0 then 0 else (fld l 127 1:Nat),part l 128 2 r,part l 152 1 s⟩
def rdC (l:List Nat):Bn:=⟨fun i=>(fld l (5*i) 5:Nat),(fld l 120 5:Nat),fun i=>(fld l 125 2).testBit i,(fld l 127 1:Nat),fun i=>(fld l (128+2*i) 2:Nat),fun i=>(fld l (152+i) 1:Nat)⟩
theorem kw(l:List Nat):ckA (rdK l 0 0 false 0 0 0)=ckA ck0:=by
 apply El <;> intros <;> simp[rdK,ck0,part]
theorem bO(l:List Nat):ckA (rdK l 24 1 true 1 12 12)=ckA (rdC l):=by
 apply El <;> intros <;> simp_all[rdK,rdC,part]
theorem Ck.eq{c d:Bn}(h:Ck w b c)(e:ckA c=ckA d):Ck w b d:=by
 unfold Ck at *
 rwa [<-e]
theorem bP(h:Bys l){a:Nat}(hn:a+5<=l.length):fld l a 5<1099511627776:=DV h hn
theorem gW(h:Bys l){a:Nat}(hn:a+2<=l.length):fld l a 2<65536:=DV h hn
theorem Om(h:Bys l){a:Nat}(hn:a+1<=l.length):fld l a 1<256:=DV h hn
def nk (l:List Nat):Prop:=Qp (rdC l)/\wrL (rdC l)=l
theorem EB(a b:List Nat)(j:Nat):(a ++ b).getD j 0=if j<a.length then a.getD j 0 else b.getD (j - a.length) 0:=by
 simp only[AQ];by_cases h:j<a.length
 ·rw[AJ h,Af h]
 ·rw[AI h,Aa om]
theorem Ml(f:Nat->Int)(s:Nat)(hs:0<s):∀n j,j<n*s->(cat (fl f n s)).getD j 0=byteAt (u6 (f (j / s))) (j % s)
 | 0,j,h=>om
 | n+1,j,h=>by
  rw[Hx,Ff,EB,CB,E9]
  by_cases h2:j<n*s
  ·
   rw[AJ h2,Ml f s hs n j h2]
  ·
   rw[Nat.add_mul,Nat.one_mul] at h
   rw[AI h2,DB _ _ _ om]
   have e1:j=(j - n*s)+s*n:=by rw[Nat.mul_comm s n];omega
   have e2:j / s=n:=by rw[e1,Nat.add_mul_div_left _ _ hs,Nat.div_eq_of_lt om,AW]
   have e3:j % s=j - n*s:=by
    conv=>lhs;rw[e1]
    rw[Nat.add_mul_mod_self_left,Az om]
   rw[e2,e3]
def wb (c:Bn) (j:Nat):Nat:=
 if j<120 then byteAt (u6 (c.F (j / 5))) (j % 5)
 else if j<125 then byteAt (u6 c.N) (j - 120)
 else if j<127 then byteAt (bitsN c.B 12) (j - 125)
 else if j<128 then byteAt (u6 c.C) (j - 127)
 else if j<152 then byteAt (u6 (c.R ((j - 128) / 2))) ((j - 128) % 2)
 else if j<164 then byteAt (u6 (c.S (j - 152))) 0
 else 0
theorem Qq(c:Bn)(j:Nat):(wrL c).getD j 0=wb c j:=by
 obtain⟨t1,t2,t3,t4,t5,t6⟩:=Hy c;have e6:cat (nums c 6)=cat (nums c 5) ++ cat (fl c.S 12 1):=by rw[<-E8];rfl
 have e5:cat (nums c 5)=cat (nums c 4) ++ cat (fl c.R 12 2):=by rw[<-E8];rfl
 have e4:cat (nums c 4)=cat (nums c 3) ++ bts (u6 c.C) 1:=by rw[<-Ff];rfl
 have e3:cat (nums c 3)=cat (nums c 2) ++ bts (bitsN c.B 12) 2:=by rw[<-Ff];rfl
 have e2:cat (nums c 2)=cat (nums c 1) ++ bts (u6 c.N) 5:=by rw[<-Ff];rfl
 have e1:cat (nums c 1)=cat (fl c.F 24 5):=rfl;unfold wrL Ik wb;rw[EB,CB,t6];by_cases h6:j<164
 ·rw[AJ h6,e6,EB,CB,t5];by_cases h5:j<152
  ·rw[AJ h5,e5,EB,CB,t4];by_cases h4:j<128
   ·rw[AJ h4,e4,EB,CB,t3];by_cases h3:j<127
    ·rw[AJ h3,e3,EB,CB,t2];by_cases h2:j<125
     ·rw[AJ h2,e2,EB,CB,t1];by_cases h1:j<120
      ·rw[AJ h1,AJ h1,e1,Ml _ _ dc _ _ om]
      ·rw[AI h1,AI h1,AJ h2,DB _ _ _ om]
     ·rw[AI h2,AI om,AI h2,AJ h3,DB _ _ _ om]
    ·rw[AI h3,AI om,AI om,AI h3,AJ h4,DB _ _ _ om]
   ·rw[AI h4,AI om,AI om,AI om,AI h4,AJ h5,Ml _ _ dc _ _ om]
  ·rw[AI h5,AI om,AI om,AI om,AI om,AI h5,AJ h6,Ml _ _ dc _ _ om,Nat.div_one,Nat.mod_one]
 ·rw[AI h6,AI om,AI om,AI om,AI om,AI om,AI h6];simp only[AQ,List.getElem?_replicate];split <;> rfl
theorem Il{c:Bn}{a v:Nat}(hn:a+n<=174)(hv:v<256 ^ n)(h:∀k,k<n->wb c (a+k)=byteAt v k):fld (wrL c) a n=v:=by
 have e:FJ (wrL c) a n=bts v n:=by
  apply DG
  ·rw[BJ (by rw[CI];omega),BG]
  ·intro i hi;rw[BJ (by rw[CI];omega)] at hi;rw[KK hi,Qq,h i hi,DB _ _ _ hi]
 unfold fld;rw[e,Ia,Az hv]
theorem Cp(hl:Bys l){a:Nat}(hk:k<n)(hn:a+n<=l.length):byteAt (fld l a n) k=l.getD (a+k) 0:=by
 have e:=gU (Cs hl a n);rw[BJ hn] at e;have:(bts (fld l a n) n).getD k 0=(FJ l a n).getD k 0:=congrArg (fun x=>x.getD k 0) e;rw[DB _ _ _ hk,KK hk] at this;exact this
structure Wu (c d:Bn):Prop where
 F:∀i,i<24->c.F i=d.F i
 N:c.N=d.N
 B:∀i,i<12->c.B i=d.B i
 C:c.C=d.C
 R:∀i,i<12->c.R i=d.R i
 S:∀i,i<12->c.S i=d.S i
theorem Kf{f g:Nat->Int}{s:Nat}(h:∀i,i<n->f i=g i):fl f n s=fl g n s:=by
 apply map_congr_left;intro i hi;rw[h i (mem_range.1 hi)]
theorem JO{g:Nat->Bool}:∀ {n:Nat},(∀i,i<n->f i=g i)->bitsN f n=bitsN g n
 | 0,_=>rfl
 | n+1,h=>by rw[bitsN,bitsN,JO (fun i hi=>h i om),h n om]
theorem Wu.nums{c d:Bn}(h:Wu c d):nums c 6=nums d 6:=by
 show fl c.F 24 5 ++ [(u6 c.N,5)] ++ [(bitsN c.B 12,2)] ++ [(u6 c.C,1)] ++ fl c.R 12 2 ++ fl c.S 12 1=fl d.F 24 5 ++ [(u6 d.N,5)] ++ [(bitsN d.B 12,2)] ++ [(u6 d.C,1)] ++ fl d.R 12 2 ++ fl d.S 12 1;rw[Kf h.F,h.N,JO h.B,h.C,Kf h.R,Kf h.S]
theorem Wu.wrL{c d:Bn}(h:Wu c d):wrL c=wrL d:=by unfold Go.Proofs.YtmdpnpjacfedpaaGreat.AA.wrL;rw[h.nums]
theorem Wu.okc{c d:Bn}(h:Wu c d)(hc:Qp c):Qp d:=by
 unfold Qp at *
 rw[<-h.nums,<-h.C];exact hc
theorem Kg(f:Nat->Bool):∀n i,i<n->(bitsN f n).testBit i=f i
 | 0,i,h=>om
 | n+1,i,h=>by
  have e:bitsN f (n+1)=bitsN f n ||| (if f n then 2 ^ n else 0):=by
   rw[bitsN];cases f n with
   | false=>simp
   | true=>simp only[if_true];rw[Wp _ _ (Fe f n)]
  rw[e,Nat.testBit_or];by_cases hi:i<n
  ·rw[Kg f n i hi];cases f n with
   | false=>simp
   | true=>simp only[if_true];rw[Nat.testBit_two_pow_of_ne om];simp
  ·have:i=n:=om
   subst this;rw[Nat.testBit_lt_two_pow (Fe f i)];cases f i with
   | false=>simp
   | true=>simp only[if_true];rw[Nat.testBit_two_pow_self];simp
theorem Kh(v:Nat):∀n,bitsN (fun i=>v.testBit i) n=v % 2 ^ n
 | 0=>by simp[bitsN,Nat.mod_one]
 | n+1=>by
  rw[bitsN,Kh v n,Nat.pow_succ,Nat.mod_mul,Nat.testBit_eq_decide_div_mod_eq]
  by_cases h:v / 2 ^ n % 2=1
  ·
   rw[h];simp
  ·
   have:v / 2 ^ n % 2=0:=om
   rw[this];simp
structure lA (c:Bn):Prop where
 F:∀i,i<24->-9223372036854775808<=c.F i/\c.F i<=9223372036854775807
 N : -9223372036854775808<=c.N/\c.N<=9223372036854775807
 C : -9223372036854775808<=c.C/\c.C<=9223372036854775807
 R:∀i,i<12->-9223372036854775808<=c.R i/\c.R i<=9223372036854775807
 S:∀i,i<12->-9223372036854775808<=c.S i/\c.S i<=9223372036854775807
structure Zp (c:Bn):Prop where
 F:∀i,i<24->0<=c.F i/\c.F i<=1099511627775
 N:0<=c.N/\c.N<=1099511627775
 C:0<=c.C/\c.C<=95
 R:∀i,i<12->0<=c.R i/\c.R i<=65535
 S:∀i,i<12->0<=c.S i/\c.S i<=255
theorem SA(h:0<=z)(h2:z<18446744073709551616):((u6 z:Nat):Int)=z:=by
 rw[Wt,IntKind.wrap_u64];omega
theorem gX(h : -9223372036854775808<=z)(h2:z<0):9223372036854775808<=u6 z:=by
 have:=Wt z;rw[IntKind.wrap_u64] at this;omega
theorem gY(n:Nat)(h:n<18446744073709551616):u6 (n:Int)=n:=by
 have:=SA (z:=(n:Int)) om om;omega
theorem En{c:Bn}{p:Nat × Nat}:p ∈ nums c 6<->(∃i,i<24/\p=(u6 (c.F i),5))\/p=(u6 c.N,5)\/p=(bitsN c.B 12,2)\/p=(u6 c.C,1)\/(∃i,i<12/\p=(u6 (c.R i),2))\/∃i,i<12/\p=(u6 (c.S i),1):=by
 show p ∈ fl c.F 24 5 ++ [(u6 c.N,5)] ++ [(bitsN c.B 12,2)] ++ [(u6 c.C,1)] ++ fl c.R 12 2 ++ fl c.S 12 1<->_;have e:∀(f:Nat->Int) (n s:Nat),p ∈ fl f n s<->∃i,i<n/\p=(u6 (f i),s):=by
  intro f n s;simp only[fl,mem_map,mem_range];constructor
  ·rintro ⟨i,h1,h2⟩;exact⟨i,h1,h2.symm⟩
  ·rintro ⟨i,h1,h2⟩;exact⟨i,h1,h2.symm⟩
 simp only[Am,mem_singleton,e];simp only[or_assoc]
theorem Wv(c:Bn):Kd (nums c 6)<->(∀i,i<24->u6 (c.F i)<1099511627776)/\u6 c.N<1099511627776/\u6 c.C<256/\(∀i,i<12->u6 (c.R i)<65536)/\∀i,i<12->u6 (c.S i)<256:=by
 constructor
 ·intro h;exact⟨fun i hi=>h (_,5) (En.2 (AK ⟨i,hi,rfl⟩)),h (_,5) (En.2 (AL (AK rfl))),h (_,1) (En.2 (AL (AL (AL (AK rfl))))),fun i hi=>h (_,2) (En.2 (AL (AL (AL (AL (AK ⟨i,hi,rfl⟩)))))),fun i hi=>h (_,1) (En.2 (AL (AL (AL (AL (AL ⟨i,hi,rfl⟩))))))⟩
 ·rintro ⟨h1,h2,h3,h4,h5⟩ p hp;rcases En.1 hp with ⟨i,hi,rfl⟩ | rfl | rfl | rfl | ⟨i,hi,rfl⟩ | ⟨i,hi,rfl⟩
  ·exact h1 i hi
  ·exact h2
  ·have:=KZ c.B;show bitsN c.B 12<65536;omega
  ·exact h3
  ·exact h4 i hi
  ·exact h5 i hi
theorem DE(h : -9223372036854775808<=z/\z<=9223372036854775807)(m:Nat)(hm:m<=9223372036854775808):u6 z<m<->0<=z/\z<m:=by
 by_cases h0:0<=z
 ·have:=SA h0 om;omega
 ·have:=gX h.1 om;omega
theorem Mm(c:Bn)(hw:lA c):Qp c<->Zp c:=by
 unfold Qp;rw[Wv];constructor
 ·rintro ⟨h0,h1,h2,h3,h4,h5⟩;refine⟨fun i hi=>?_,?_,?_,fun i hi=>?_,fun i hi=>?_⟩
  ·have:=(DE (hw.F i hi) 1099511627776 dc).1 (h1 i hi);omega
  ·have:=(DE hw.N 1099511627776 dc).1 h2;omega
  ·have:=(DE hw.C 256 dc).1 h3;omega
  ·have:=(DE (hw.R i hi) 65536 dc).1 (h4 i hi);omega
  ·have:=(DE (hw.S i hi) 256 dc).1 (h5 i hi);omega
 ·intro h;refine⟨by have:=h.C;omega,fun i hi=>?_,?_,?_,fun i hi=>?_,fun i hi=>?_⟩
  ·exact(DE (hw.F i hi) 1099511627776 dc).2 (by have:=h.F i hi;omega)
  ·exact(DE hw.N 1099511627776 dc).2 (by have:=h.N;omega)
  ·exact(DE hw.C 256 dc).2 (by have:=h.C;omega)
  ·exact(DE (hw.R i hi) 65536 dc).2 (by have:=h.R i hi;omega)
  ·exact(DE (hw.S i hi) 256 dc).2 (by have:=h.S i hi;omega)
theorem Fg(c:Bn)(h:Zp c):Wu (rdC (wrL c)) c:=by
 have app:∀ {z:Int} {m:Nat},0<=z->z<m->m<=18446744073709551616->u6 z<m:=fun h1 h2 h3=>by
  have:=SA h1 om;omega
 have cst:∀ {z:Int},0<=z->z<18446744073709551616->((u6 z:Nat):Int)=z:=fun h1 h2=>SA h1 h2;refine⟨fun i hi=>?_,?_,fun i hi=>?_,?_,fun i hi=>?_,fun i hi=>?_⟩
 ·have hF:=h.F i hi;show ((fld (wrL c) (5*i) 5:Nat):Int)=_;rw[Il (v:=u6 (c.F i)) om (app hF.1 (m:=256 ^ 5) om dc) (fun k hk=>?_)]
  ·exact cst hF.1 om
  ·unfold wb;rw[AJ om,show (5*i+k) / 5=i by omega,show (5*i+k) % 5=k by omega]
 ·have hN:=h.N;show ((fld (wrL c) 120 5:Nat):Int)=_;rw[Il (v:=u6 c.N) om (app hN.1 (m:=256 ^ 5) om dc) (fun k hk=>?_)]
  ·exact cst hN.1 om
  ·unfold wb;rw[AI om,AJ om,show 120+k - 120=k by omega]
 ·show (fld (wrL c) 125 2).testBit i=c.B i;have hb:=KZ c.B;rw[Il (v:=bitsN c.B 12) om (by show _<65536;omega) (fun k hk=>?_)]
  ·exact Kg c.B 12 i hi
  ·unfold wb;rw[AI om,AI om,AJ om,show 125+k - 125=k by omega]
 ·have hC:=h.C;show ((fld (wrL c) 127 1:Nat):Int)=_;rw[Il (v:=u6 c.C) om (app hC.1 (m:=256 ^ 1) om dc) (fun k hk=>?_)]
  ·exact cst hC.1 om
  ·unfold wb;rw[AI om,AI om,AI om,AJ om,show 127+k - 127=k by omega]
 ·have hR:=h.R i hi;show ((fld (wrL c) (128+2*i) 2:Nat):Int)=_;rw[Il (v:=u6 (c.R i)) om (app hR.1 (m:=256 ^ 2) om dc) (fun k hk=>?_)]
  ·exact cst hR.1 om
  ·unfold wb;rw[AI om,AI om,AI om,AI om,AJ om,show (128+2*i+k - 128) / 2=i by omega,show (128+2*i+k - 128) % 2=k by omega]
 ·have hS:=h.S i hi;show ((fld (wrL c) (152+i) 1:Nat):Int)=_;rw[Il (v:=u6 (c.S i)) om (app hS.1 (m:=256 ^ 1) om dc) (fun k hk=>?_)]
  ·exact cst hS.1 om
  ·obtain rfl:k=0:=om
   unfold wb;rw[AI om,AI om,AI om,AI om,AI om,AJ om,show 152+i+0 - 152=i by omega]
theorem Wu.symm{c d:Bn}(h:Wu c d):Wu d c:=⟨fun i hi=>(h.F i hi).symm,h.N.symm,fun i hi=>(h.B i hi).symm,h.C.symm,fun i hi=>(h.R i hi).symm,fun i hi=>(h.S i hi).symm⟩
def gZ (l:List Nat):Prop:=l.getD 126 0<=15/\l.getD 127 0<=95/\∀i,164<=i->i<174->l.getD i 0=0
theorem bQ(l:List Nat)(hl:Bys l)(hL:l.length=174):lA (rdC l):=by
 refine⟨fun i hi=>?_,?_,?_,fun i hi=>?_,fun i hi=>?_⟩
 ·have:=bP hl (a:=5*i) om;show _<=((fld l (5*i) 5:Nat):Int)/\((fld l (5*i) 5:Nat):Int)<=_;omega
 ·have:=bP hl (a:=120) om;show _<=((fld l 120 5:Nat):Int)/\((fld l 120 5:Nat):Int)<=_;omega
 ·have:=Om hl (a:=127) om;show _<=((fld l 127 1:Nat):Int)/\((fld l 127 1:Nat):Int)<=_;omega
 ·have:=gW hl (a:=128+2*i) om;show _<=((fld l (128+2*i) 2:Nat):Int)/\((fld l (128+2*i) 2:Nat):Int)<=_;omega
 ·have:=Om hl (a:=152+i) om;show _<=((fld l (152+i) 1:Nat):Int)/\((fld l (152+i) 1:Nat):Int)<=_;omega
theorem Mn(hl:Bys l){a:Nat}(h:a+1<=l.length):fld l a 1=l.getD a 0:=by
 have e:=Cp hl (a:=a) (n:=1) (k:=0) dc h;have:=Om hl h;unfold byteAt at e;simp only[Nat.pow_zero,Nat.div_one,Nat.add_zero] at e;omega
theorem SB(l:List Nat)(hl:Bys l)(hL:l.length=174):nk l<->gZ l:=by
 have hw:=bQ l hl hL;have u:∀ {a n:Nat},a+n<=174->n<=8->u6 ((fld l a n:Nat):Int)=fld l a n:=fun {a n} h h8=>by
  apply gY;have h1:=DV hl (a:=a) (n:=n) om;have h2:256 ^ n<=256 ^ 8:=Nat.pow_le_pow_right dc h8;have h3:(256:Nat) ^ 8=18446744073709551616:=dc
  omega
 have e127:=Mn hl (a:=127) om;have hwb:∀j,j<164->j≠126->wb (rdC l) j=l.getD j 0:=by
  intro j hj h126;unfold wb;by_cases h1:j<120
  ·rw[AJ h1];show byteAt (u6 ((fld l (5*(j / 5)) 5:Nat):Int)) (j % 5)=_;rw[u om dc,Cp hl om om,show 5*(j / 5)+j % 5=j by omega]
  ·rw[AI h1];by_cases h2:j<125
   ·rw[AJ h2];show byteAt (u6 ((fld l 120 5:Nat):Int)) (j - 120)=_;rw[u om dc,Cp hl om om,show 120+(j - 120)=j by omega]
   ·rw[AI h2];by_cases h3:j<127
    ·obtain rfl:j=125:=om
     rw[AJ h3];show byteAt (bitsN (fun i=>(fld l 125 2).testBit i) 12) 0=_;rw[Kh,<-Cp hl (a:=125) (n:=2) (k:=0) dc om];unfold byteAt;simp only[Nat.pow_zero,Nat.div_one];omega
    ·rw[AI h3];by_cases h4:j<128
     ·obtain rfl:j=127:=om
      rw[AJ h4];show byteAt (u6 ((fld l 127 1:Nat):Int)) (127 - 127)=_;rw[u om dc,Cp hl om om]
     ·rw[AI h4];by_cases h5:j<152
      ·rw[AJ h5];show byteAt (u6 ((fld l (128+2*((j - 128) / 2)) 2:Nat):Int)) ((j - 128) % 2)=_;rw[u om dc,Cp hl om om,show 128+2*((j - 128) / 2)+(j - 128) % 2=j by omega]
      ·rw[AI h5,AJ hj];show byteAt (u6 ((fld l (152+(j - 152)) 1:Nat):Int)) 0=_;rw[u om dc,Cp hl om om,show 152+(j - 152)+0=j by omega]
 have h126:wb (rdC l) 126=l.getD 126 0 % 16:=by
  show byteAt (bitsN (fun i=>(fld l 125 2).testBit i) 12) 1=_;rw[Kh,<-Cp hl (a:=125) (n:=2) (k:=1) dc om];unfold byteAt;simp only[Nat.pow_one];omega
 have h0:∀j,164<=j->wb (rdC l) j=0:=by
  intro j hj;unfold wb;rw[AI om,AI om,AI om,AI om,AI om,AI om]
 constructor
 ·rintro ⟨h1,h2⟩;have hj:∀j,wb (rdC l) j=l.getD j 0:=fun j=>by rw[<-Qq,h2]
  refine⟨?_,?_,fun i hi _=>?_⟩
  ·have:=hj 126;rw[h126] at this;omega
  ·have:((fld l 127 1:Nat):Int)<96:=h1.1;omega
  ·rw[<-hj i,h0 i hi]
 ·rintro ⟨h1,h2,h3⟩;refine⟨(Mm _ hw).2 ⟨fun i hi=>?_,?_,?_,fun i hi=>?_,fun i hi=>?_⟩,?_⟩
  ·have:=bP hl (a:=5*i) om;show _<=((fld l (5*i) 5:Nat):Int)/\((fld l (5*i) 5:Nat):Int)<=_;omega
  ·have:=bP hl (a:=120) om;show _<=((fld l 120 5:Nat):Int)/\((fld l 120 5:Nat):Int)<=_;omega
  ·show _<=((fld l 127 1:Nat):Int)/\((fld l 127 1:Nat):Int)<=_;omega
  ·have:=gW hl (a:=128+2*i) om;show _<=((fld l (128+2*i) 2:Nat):Int)/\((fld l (128+2*i) 2:Nat):Int)<=_;omega
  ·have:=Om hl (a:=152+i) om;show _<=((fld l (152+i) 1:Nat):Int)/\((fld l (152+i) 1:Nat):Int)<=_;omega
  ·apply DG (by rw[CI,hL]);intro j hj;rw[CI] at hj;rw[Qq];by_cases hlt:j<164
   ·by_cases e:j=126
    ·subst e;rw[h126];omega
    ·exact hwb j hlt e
   ·rw[h0 j om,h3 j om hj]
theorem FC(w:Wd)(a:Option Addr)(n cap:Nat)(l:List Nat)(hn:n=l.length)(hl:Bys l)(h7:l.length<=7)(hr:Ca w (.slice a n cap) l) :Calls prog 126 #[.slice a n cap] w fun e w'=>e=.returned (.int .i64 (le l:Nat))/\Chg No w w':=by
 subst hn;have HR:=BE hr;clear hr;go_enter func126,ntmps126;go_wp2_with fail
 go_loopw [3,4] (fun v t wr=>∃k:Nat,k<=l.length/\t=.int .i64 ((k:Int) - 1)/\v=.int .i64 (le (l.drop k):Nat)/\Chg No w wr) (fun _ t _=>(intOf t+1).toNat)
 case atStart=>exact⟨l.length,AM _,rfl,by simp[le],Chg.refl _ _⟩
 case round=>
  obtain⟨k,hk,rfl,rfl,hG⟩:=hrel;by_cases h0:k=0
  ·subst h0;go_wp2;go_ret;exact⟨rfl,hG⟩
  ·obtain⟨j,rfl⟩:∃j,k=j+1:=⟨k - 1,om⟩;obtain⟨g,o,rfl,hx⟩:=HR.out.cellC hG j om;obtain⟨e1,-⟩:=OA l hl om j om;have e2:le (l.drop j)<72057594037927936:=Aj (N5 (Ee hl j)) (by
    rw[length_drop]
    exact Nat.pow_le_pow_right (by decide:0<256) (by omega:l.length - j<=7))
   have hj:(((j+1:Nat):Int) - 1)=(j:Int):=om;rw[hj];have hjl:(j:Int)<(l.length:Int):=om;have hj0:(0:Int)<=(j:Int):=om;have hge:¬ (j:Int)<0:=om;have HV:Hid ((256:Int)*((le (l.drop (j+1)):Nat):Int)+((l.getD j 0:Nat):Int)=((le (l.drop j):Nat):Int)):=BE (by rw[<-e1];push_cast;rfl);have hb:=hl.getD j;have hb2:(256:Int)*((le (l.drop (j+1)):Nat):Int)+((l.getD j 0:Nat):Int)<72057594037927936:=om;clear hj e1 e2;generalize le (l.drop (j+1))=x at *
   generalize l.getD j 0=y at *
   go_wp2;exact⟨⟨j,om,by go_num,by rw[<-HV.out],hG⟩,by simp[intOf]⟩
theorem CK(hgd:o.guard=none)(ho:o.op=.alloc 55)(N:Nat)(hN:w.heap.size=N)(h:wpList prog ops Q rest (a.put o.dst (.pointer (some ⟨N,0,none⟩))) (w.alloc (.cells (ckA ck0) 55))):wpList prog ops Q (o :: rest) a w:=
 Du hgd ho (by rw[hN];exact h)
def mY (w:Wd):World:=(w.alloc (.cells (ckA ck0) 55)).alloc (.cells (ckA ck0) 55)
theorem gb(w:Wd):Ck (mY w) (w.heap.size+1) ck0/\Ck (mY w) w.heap.size ck0/\Chg No w (mY w):=by
 have hN:=Ck.new (w.alloc (.cells (ckA ck0) 55)) ck0;have e1:(w.alloc (.cells (ckA ck0) 55)).heap.size=w.heap.size+1:=by simp
 rw[e1] at hN;exact⟨hN,(Ck.new w ck0).alloc _,((Chg.refl _ w).alloc _).alloc _⟩
theorem lB(x:Nat):(x:Int).tmod 2=((x % 2:Nat):Int):=by rw[Av om];omega
theorem lC(x:Nat):(x:Int).tdiv 2=((x / 2:Nat):Int):=by rw[Int.tdiv_eq_ediv_of_nonneg om];omega
structure Nb (w wr:Wd) (c:Bn):Prop where
 ck:Ck wr (w.heap.size+1) c
 z:Ck wr w.heap.size ck0
 chg:Chg No w wr
theorem Nb.pure{c:Bn}(h:Nb w wr c)(hc:Chg No wr w'):Nb w w' c:=
 ⟨h.ck.chg hc (fun e=>e),h.z.chg hc (fun e=>e),h.chg.trans hc⟩
theorem Nb.eq{c d:Bn}(h:Nb w wr c)(e:ckA c=ckA d):Nb w wr d:=⟨h.ck.eq e,h.z,h.chg⟩
theorem Nb.set{c d:Bn}(h:Nb w wr c)(i:Nat)(v:Value)(hk:Ck (wr.setCell ⟨w.heap.size+1,i,none⟩ v) (w.heap.size+1) d):Nb w (wr.setCell ⟨w.heap.size+1,i,none⟩ v) d:=
 ⟨hk,h.z.setOther om _ _,h.chg.setCell (AL om) _ _⟩
theorem UG(w:Wd)(c o cap:Nat)(l:List Nat)(hl:Bys l)(hL:l.length=174)(hcap:174<=cap)(hA:At w c o l)(hd:gZ l) :Calls prog 68 #[.slice (some ⟨c,o,none⟩) 174 cap] w fun e w'=>e=.returned (.tuple #[.agg (ckA (rdC l)),.int .i64 0])/\Chg No w w':=by
 obtain⟨K1,K0,G0⟩:=gb w;have HA:=BE hA;have HL:=BE hL;obtain⟨h1,h2,h3⟩:=hd;have HD:=BE h3;have x1:=hl.getD 126;have x2:=hl.getD 127;have HK1:Hid (Ck ((w.alloc (.cells (ckA ck0) 55)).alloc (.cells (ckA ck0) 55)) (w.heap.size+1) ck0):=BE K1;have HK0:=BE K0;have HG0:=BE G0;clear K1 K0 G0 hL hA h3;go_enter func68,ntmps68;go_wp2_with (first | refine CK rfl rfl w.heap.size rfl ?_ | refine CK rfl rfl (w.heap.size+1) (World.size_alloc _ _) ?_ | refine FK rfl rfl ?_ | refine Bv rfl (.tmp 4) (.tmp 10) rfl (w.heap.size+1) rfl rfl HK1.out ?_);intro w1 K1 G1;have HG1:Hid (Chg No w w1):=BE (HG0.out.trans' G1 (fun i hi hh=>om));have HS:Hid (Nb w w1 (rdK l 0 0 false 0 0 0)):=BE ⟨K1.eq (kw l).symm,HK0.out.chg G1 om,HG1.out⟩;have A1:=HA.out.chg HG1.out (fun e=>e);have k1:=A1.2 126 (by rw[HL.out];decide);have k2:=A1.2 127 (by rw[HL.out];decide);have HA1:=BE A1;clear K1 G1 HK1 HK0 HG0 A1;generalize l.getD 126 0=y1 at k1 h1 x1;generalize l.getD 127 0=y2 at k2 h2 x2;go_wp2_with fail;clear k1 k2
 go_loopw [5] (fun t wr=>∃k:Nat,k<=10/\t=.int .i64 (164+k:Nat)/\wr=w1) (fun t _=>174 - (intOf t).toNat)
 case atStart=>exact⟨0,dc,rfl,rfl⟩
 case round=>
  obtain⟨k,hk,rfl,rfl⟩:=hrel;by_cases hlt:k<10
  ·have hlt':((164+k:Nat):Int)<174:=om;have hkb:(0:Int)<=((164+k:Nat):Int):=om;have k1:=HA1.out.2 (164+k) (by rw[HL.out];omega);rw[HD.out (164+k) om om] at k1;generalize hq:164+k=q at *
   have HQ:=BE hq;clear hq;go_wp2;have hq:=HQ.out;refine⟨⟨k+1,om,?_,trivial⟩,by simp[intOf];omega⟩;rw[show ((164+(k+1):Nat):Int)=(q:Int)+1 by omega]
  ·have e:k=10:=om;subst e;go_wp2_with fail
   go_loopw [6] (fun t wr=>∃k:Nat,k<=24/\t=.int .i64 k/\Nb w wr (rdK l k 0 false 0 0 0)) (fun t _=>24 - (intOf t).toNat)
   case atStart=>exact⟨0,dc,rfl,HS.out⟩
   case round=>
    clear HS;obtain⟨k,hk,rfl,hS⟩:=hrel;by_cases hlt:k<24
    ·have hlt':(k:Int)<24:=om;have hkb:(0:Int)<=(k:Int):=om;have hAr:=HA.out.chg hS.chg (fun e=>e);have hcall:=FC wr (some ⟨c,o+5*k,none⟩) 5 (cap - 5*k) (FJ l (5*k) 5) (by rw[BJ (by rw[HL.out];omega)]) (Cs hl _ _) (by rw[BJ (by rw[HL.out];omega)];decide) (hAr.held (5*k) 5 _ (by rw[HL.out];omega));have HS:=BE hS;clear hS hAr;go_wp2_with fail;refine hcall.mono ?_;rintro e w2 ⟨rfl,G2⟩;have hS2:=HS.out.pure G2;have k1:=hS2.ck.F k hlt;have f1:=hS2.ck.frozen k;have HU:=BE (Ke l 0 5 k);rw[AW] at HU;have HS2:=BE hS2;clear hcall G2 HS hS2;rw[show le (FJ l (5*k) 5)=fld l (5*k) 5 from rfl];generalize fld l (5*k) 5=x at *
     go_wp2;refine⟨⟨_,_,_,_,_,_,_,_,_,_,_,_,_,_,_,_,?hi,rfl⟩,by simp[intOf];omega⟩;refine⟨k+1,om,by go_num,?_⟩;have e:rdK l (k+1) 0 false 0 0 0={ rdK l k 0 false 0 0 0 with F:=upd (part l 0 5 k) k (x:Int) }:=(by rw[HU.out];rfl);rw[e];exact HS2.out.set _ _ (HS2.out.ck.setF k hlt _)
    ·have e:k=24:=om;subst e;have hAr:=HA.out.chg hS.chg (fun e=>e);have hcall:=FC wr (some ⟨c,o+120,none⟩) 5 (cap - 120) (FJ l 120 5) (by rw[BJ (by rw[HL.out];omega)]) (Cs hl _ _) (by rw[BJ (by rw[HL.out];omega)];decide) (hAr.held 120 5 _ (by rw[HL.out];omega));have HS:=BE hS;clear hS hAr;go_wp2_with fail;refine hcall.mono ?_;rintro e w2 ⟨rfl,G2⟩;have hS2:=HS.out.pure G2;have k1:=hS2.ck.N;have f1:=hS2.ck.frozen 24;have hS3:Nb w (w2.setCell ⟨w.heap.size+1,24,none⟩ (.int .i64 (fld l 120 5:Nat))) (rdK l 24 1 false 0 0 0):=hS2.set _ _ (hS2.ck.setN _);have hAr:=HA.out.chg hS3.chg (fun e=>e);have hcall:=FC (w2.setCell ⟨w.heap.size+1,24,none⟩ (.int .i64 (fld l 120 5:Nat))) (some ⟨c,o+125,none⟩) 2 (cap - 125) (FJ l 125 2) (by rw[BJ (by rw[HL.out];omega)]) (Cs hl _ _) (by rw[BJ (by rw[HL.out];omega)];decide) (hAr.held 125 2 _ (by rw[HL.out];omega));have HS3:=BE hS3;clear G2 HS hS2 hS3 hAr;rw[show le (FJ l 120 5)=fld l 120 5 from rfl];go_wp2_with fail;generalize w2.setCell ⟨w.heap.size+1,24,none⟩ (.int .i64 (fld l 120 5:Nat))=w3 at *
     refine hcall.mono ?_;rintro e w4 ⟨rfl,G4⟩;have HS4:Hid (Nb w w4 { rdK l 24 1 false 0 0 0 with B:=gV (fld l 125 2) 0 }):=BE ((HS3.out.pure G4).eq (by apply El <;> intros <;> simp[rdK,gV]))
     have x3:=gW hl (a:=125) (by rw[HL.out];omega);clear hcall HS3 G4;rw[show le (FJ l 125 2)=fld l 125 2 from rfl];go_wp2_with fail
     go_loopw [7,8] (fun x t wr=>∃k:Nat,k<=12/\t=.int .i64 k/\x=.int .i64 ((fld l 125 2 / 2 ^ k:Nat):Int)/\Nb w wr { rdK l 24 1 false 0 0 0 with B:=gV (fld l 125 2) k }) (fun _ t _=>12 - (intOf t).toNat)
     case atStart=>exact⟨0,dc,rfl,by simp,HS4.out⟩
     case round=>
      clear HS4;obtain⟨k,hk,rfl,rfl,hS⟩:=hrel;by_cases hlt:k<12
      ·have hlt':(k:Int)<12:=om;have hkb:(0:Int)<=(k:Int):=om;have k1:=hS.ck.B k hlt;have f1:=hS.ck.frozen (25+k);have hdv:fld l 125 2 / 2 ^ k<=fld l 125 2:=Nat.div_le_self _ _;have t1:=lB (fld l 125 2 / 2 ^ k);have t2:=lC (fld l 125 2 / 2 ^ k);have HT:Hid (((((fld l 125 2 / 2 ^ k:Nat):Int) % 2) == 1)=(fld l 125 2).testBit k):=BE (by
        have e:((fld l 125 2 / 2 ^ k:Nat):Int) % 2=((fld l 125 2 / 2 ^ k % 2:Nat):Int):=om
        rw[Nat.testBit_eq_decide_div_mod_eq,e]
        by_cases h:fld l 125 2 / 2 ^ k % 2=1
        ·
         rw[h];rfl
        ·
         have:fld l 125 2 / 2 ^ k % 2=0:=om
         rw[this];rfl)
       have HV:Hid ((fld l 125 2 / 2 ^ (k+1):Nat)=fld l 125 2 / 2 ^ k / 2):=BE (by rw[Nat.pow_succ,Nat.div_div_eq_div_mul]);have HU:=BE (bN (fld l 125 2) k);have HS:=BE hS;clear hS;generalize fld l 125 2=v at *
       generalize v / 2 ^ k=x at *
       go_wp2;rw[HT.out];refine⟨⟨k+1,om,by go_num,by rw[HV.out];simp,?_⟩,by simp[intOf];omega⟩;rw[<-HU.out];exact HS.out.set _ _ (HS.out.ck.setB k hlt _)
      ·have e:k=12:=om;subst e;have hAr:=HA.out.chg hS.chg (fun e=>e);have k1:=hAr.2 127 (by rw[HL.out];decide);have k2:=hS.ck.C;have f2:=hS.ck.frozen 37;have x4:=hl.getD 127;have HC:=BE (Mn hl (a:=127) (by rw[HL.out];decide));have hS3:Nb w (wr.setCell ⟨w.heap.size+1,37,none⟩ (.int .i64 (l.getD 127 0:Nat))) (rdK l 24 1 true 1 0 0):=by
        rw[<-HC.out];refine(hS.set 37 _ (hS.ck.setC _)).eq ?_;apply El <;> intros <;> simp_all[rdK,gV]
       have HS3:=BE hS3;clear hS hS3 hAr HC;generalize l.getD 127 0=y at *
       go_wp2_with fail;generalize wr.setCell ⟨w.heap.size+1,37,none⟩ (.int .i64 (y:Nat))=w7 at *
       clear k1 k2 f2
       go_loopw [9] (fun t wr=>∃k:Nat,k<=12/\t=.int .i64 k/\Nb w wr (rdK l 24 1 true 1 k k)) (fun t _=>12 - (intOf t).toNat)
       case atStart=>exact⟨0,dc,rfl,HS3.out⟩
       case round=>
        clear HS3;obtain⟨k,hk,rfl,hS⟩:=hrel;by_cases hlt:k<12
        ·have hlt':(k:Int)<12:=om;have hkb:(0:Int)<=(k:Int):=om;have hAr:=HA.out.chg hS.chg (fun e=>e);have hcall:=FC wr (some ⟨c,o+(128+2*k),none⟩) (130+2*k - (128+2*k)) (cap - (128+2*k)) (FJ l (128+2*k) 2) (by rw[BJ (by rw[HL.out];omega)];omega) (Cs hl _ _) (by rw[BJ (by rw[HL.out];omega)];decide) (by rw[show 130+2*k - (128+2*k)=2 by omega];exact hAr.held (128+2*k) 2 _ (by rw[HL.out];omega));have HS:=BE hS;clear hS hAr;go_wp2_with fail;refine hcall.mono ?_;rintro e w2 ⟨rfl,G2⟩;have hS2:=HS.out.pure G2;have k1:=hS2.ck.R k hlt;have f1:=hS2.ck.frozen (38+k);have e1:rdK l 24 1 true 1 (k+1) k={ rdK l 24 1 true 1 k k with R:=upd (part l 128 2 k) k ((fld l (128+2*k) 2:Nat):Int) }:=(by rw[Ke];rfl);have e2:rdK l 24 1 true 1 (k+1) (k+1)={ rdK l 24 1 true 1 (k+1) k with S:=upd (part l 152 1 k) k ((fld l (152+1*k) 1:Nat):Int) }:=(by rw[Ke];rfl);rw[Nat.one_mul,Mn hl (a:=152+k) (by rw[HL.out];omega)] at e2;have hS3:Nb w (w2.setCell ⟨w.heap.size+1,38+k,none⟩ (.int .i64 (fld l (128+2*k) 2:Nat))) (rdK l 24 1 true 1 (k+1) k):=by
          rw[e1];exact hS2.set _ _ (hS2.ck.setR k hlt _)
         have hAr:=HA.out.chg hS3.chg (fun e=>e);have k3:=hAr.2 (152+k) (by rw[HL.out];omega);have k4:=hS3.ck.S k hlt;have f4:=hS3.ck.frozen (50+k);have x5:=hl.getD (152+k);have hS4:Nb w ((w2.setCell ⟨w.heap.size+1,38+k,none⟩ (.int .i64 (fld l (128+2*k) 2:Nat))).setCell ⟨w.heap.size+1,50+k,none⟩ (.int .i64 (l.getD (152+k) 0:Nat))) (rdK l 24 1 true 1 (k+1) (k+1)):=by
          rw[e2];exact hS3.set _ _ (hS3.ck.setS k hlt _)
         have HS4:=BE hS4;clear hcall G2 HS hS2 hS3 hAr hS4 e1 e2;rw[show le (FJ l (128+2*k) 2)=fld l (128+2*k) 2 from rfl];generalize fld l (128+2*k) 2=x at *
         generalize l.getD (152+k) 0=z at *
         go_wp2;exact⟨⟨k+1,om,by go_num,HS4.out⟩,by simp[intOf];omega⟩
        ·have e:k=12:=om;subst e;have hS5:=hS.eq (bO l);have HK1:=BE hS5.ck;have HK0:=BE hS5.z;have HG:=BE hS5.chg;clear hS hS5;go_wp2_with (first | refine Ba rfl (.tmp 4) rfl (w.heap.size+1) rfl HK1.out ?_ | refine Bv rfl (.tmp 2) (.tmp 101) rfl w.heap.size rfl rfl HK0.out ?_);intro w3 T3 G3;have HT3:=BE T3;have HG3:Hid (Chg No w w3):=BE (HG.out.trans' G3 (fun i hi ht=>om));clear T3 G3;go_wp2;refine AZ (KY rfl _ rfl HT3.out) rfl ?_;exact⟨rfl,HG3.out⟩
end
end Go.Proofs.YtmdpnpjacfedpaaGreat.AA
