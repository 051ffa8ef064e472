/-
  Lemmas.
-/
import Derived.Test.YtmdpnpjacfedpaaGreatP02
import Derived.Deep.Draws
import Derived.Deep.LoopGhost
import Derived.Sort.LotA
import Derived.Shelf.SlSortCmp.KitK
import Derived.Sort.WalkB2
import Derived.Sort.WalkB12
import Derived.Deep.CutRange
set_option maxRecDepth 1000000
set_option maxHeartbeats 16000000
set_option linter.unusedSimpArgs false
namespace Go.Proofs.YtmdpnpjacfedpaaGreat
open List
open Go.Proofs.Tryz
open Go.RowKit
section
variable {w:Wd}{L B:List Nat}{d m g p q b:Nat}{s:BM}{r:Int}
theorem BodR.good(h:BodR L B d 0):B.length=50/\Bys B:=by
 rcases h with ⟨_,_,_,e⟩ | ⟨_,_,_,_,e⟩ | ⟨_,r,hg,⟨_,_,_,e⟩ | ⟨_,rfl,_,_⟩⟩
 ·cases e
 ·cases e
 ·cases e
 ·exact⟨by rw[length_take,hg.2.1];decide,fun n hn=>hg.2.2.1 n (mem_of_mem_take hn)⟩
theorem DatR.good(h:DatR L B d 0):B.length=174/\Bys B:=by
 rcases h with ⟨_,_,_,e⟩ | ⟨_,_,_,_,e⟩ | ⟨_,r0,r1,r2,h0,h1,h2,rfl,_,_⟩
 ·cases e
 ·cases e
 ·refine⟨by rw[AV,AV,h0.2.1,h1.2.1,h2.2.1],fun n hn=>?_⟩;rcases mem_append.1 hn with hn | hn
  ·rcases mem_append.1 hn with hn | hn
   ·exact h0.2.2.1 n hn
   ·exact h1.2.2.1 n hn
  ·exact h2.2.2.1 n hn
def ko (L:List Nat) (a:Int) (e:Ending):Prop:=
 ∃(B:List Nat) (bd bc:Nat),BodR L B bd bc /\
  ((¬ KV B bc a/\e=.returned (.tuple #[.agg #[.int .i64 0,.int .i64 0,.int .i64 0,.int .i64 0,.bool false],.bool false])) \/
   (KV B bc a/\e=.returned (.tuple #[.agg #[.int .i64 (fld B 0 2:Nat),.int .i64 (fld B 2 1:Nat),.int .i64 (fld B 3 5:Nat),.int .i64 (fld B 8 1:Nat),.bool (FW B)],.bool true])))
theorem We(m g p q b:Nat)(r:Int)(w:Wd)(h:EO w m g p q b r)(a:Int)(c o cap:Nat)(L:List Nat)(hL:L.length=256)(bL:Bys L)(hcb:c≠b)(hcs:c<w.heap.size)(hcap:256<=cap)(hh:Ca w (.slice (some ⟨c,o,none⟩) 256 cap) L) :Calls prog 215 #[.pointer (some ⟨m,0,none⟩),.int .i64 a,.slice (some ⟨c,o,none⟩) 256 cap] w fun e w'=>ko L a e/\EO w' m g p q b r/\But b w w':=by
 have hb:=GF;have HT:=BE (Tg.new w 0 0 0 0 false);have G0:Chg No w (w.alloc (.cells #[.int .i64 0,.int .i64 0,.int .i64 0,.int .i64 0,.bool false] 130)):=(Chg.refl _ w).alloc _;have M0:=h.chg G0;have H0:=hh.chgF G0;have f2:=G0.size;obtain⟨hi,G3,f9,t7⟩:=h.lts;have no:=gJ p q b _ M0.2 c o 256 cap L hL.symm bL hcb om hcap H0;obtain⟨c0,c1,c2⟩:=M0.cells;have HM:=BE M0;have HG:=BE G0;have q1:=Bt;have q2:=E4;have q3:∀w:World,(binOp .neq 46 (.iface 57 (.int .i64 3)) .nilIface).run prog w=.ok (.bool true) w:=fun w=>kr
 clear G0 M0 H0 hL hh h f2;go_enter func215,ntmps215;go_wp2_with fail;refine no.mono ?_;rintro x w1 ⟨⟨ad,n,cp,B,bd,bc,rfl,hn,hB,hO⟩,G1,wr⟩;clear no;have it:=hB.code.1;have hx:=BE (HM.out.but G1 wr);have h2:=BE (show But b w w1 from HG.out.but.trans wr);have h6:=BE (HT.out.chg wr.chg (fun e=>om));clear c0 c1 c2 HM HT HG G1 wr;by_cases h0:bc=0
 ·subst h0;obtain⟨f1,bB⟩:=hB.good;have hd:=OH w1 ad n cp B bB hn (by obtain⟨g',f4,hv,-,-,f8,-⟩:=hO.lies om;injection hv;omega) hO.held;rw[If];have p2:=BE hB;have f7:=BE f1;clear it hB f1 hO hn;go_wp2_with fail;refine hd.mono ?_;rintro x w2 ⟨v,y,rfl,B',G2⟩;clear hd;have hc:=BE (hx.out.chg G2);have hg:=BE (h2.out.trans G2.but);have h1:=BE (h6.out.chg G2 (fun e=>e));clear hx h2 h6 G2;rcases B' with ⟨h5,-⟩ | ⟨-,f5,rfl,rfl⟩ | ⟨-,f3,rfl,rfl⟩
  ·exact absurd f7 h5
  ·have T3:=h1.out.alloc (.cells #[.int .i64 0,.int .i64 0,.int .i64 0,.int .i64 0,.bool false] 130);have hk:=BE (hc.out.chg ((Chg.refl _ w2).alloc (.cells #[.int .i64 0,.int .i64 0,.int .i64 0,.int .i64 0,.bool false] 130)));have Go:=BE (hg.out.alloc (.cells #[.int .i64 0,.int .i64 0,.int .i64 0,.int .i64 0,.bool false] 130));have kd:=BE T3;clear T3 hc hg h1;go_wp2_with (refine BO rfl (.tmp 6) (.tmp 38) rfl w.heap.size rfl rfl kd ?_);intro w4 T4 G4;have ar:=BE T4;have M4:=hk.out.far G4 om om om om;have B4:=Go.out.fresh G4 (AM _);have ha:=BE M4;have La:=BE B4;clear T4 G4 M4 B4 hk Go kd;go_wp2;refine AZ (Bf rfl _ rfl ar) rfl ?_;exact⟨⟨B,bd,0,p2.out,AK ⟨fun ht=>f5 ht.2.1,rfl⟩⟩,ha.out,La⟩
  ·have T3:=h1.out.alloc (.cells #[.int .i64 (fld B 0 2:Nat),.int .i64 (fld B 2 1:Nat),.int .i64 (fld B 3 5:Nat),.int .i64 (fld B 8 1:Nat),.bool (FW B)] 130);have V3:=Tg.new w2 (fld B 0 2:Nat) (fld B 2 1:Nat) (fld B 3 5:Nat) (fld B 8 1:Nat) (FW B);have hk:=BE (hc.out.chg ((Chg.refl _ w2).alloc (.cells #[.int .i64 (fld B 0 2:Nat),.int .i64 (fld B 2 1:Nat),.int .i64 (fld B 3 5:Nat),.int .i64 (fld B 8 1:Nat),.bool (FW B)] 130)));have Go:=BE (hg.out.alloc (.cells #[.int .i64 (fld B 0 2:Nat),.int .i64 (fld B 2 1:Nat),.int .i64 (fld B 3 5:Nat),.int .i64 (fld B 8 1:Nat),.bool (FW B)] 130));have kd:=BE T3;obtain⟨v0,v1,v2,v3,v4⟩:=V3.cells;clear T3 V3 hc hg h1;by_cases hp:((fld B 0 2:Nat):Int)=a
   ·have f6:(((fld B 0 2:Nat):Int) != a)=false:=(by simp[hp]);have HP:=BE hp;clear hp;go_wp2_with (refine BO rfl (.tmp 6) (.tmp 39) rfl w.heap.size rfl rfl kd ?_);intro w4 T4 G4;have ar:=BE T4;have M4:=hk.out.far G4 om om om om;have B4:=Go.out.fresh G4 (AM _);have ha:=BE M4;have La:=BE B4;clear T4 G4 M4 B4 hk Go kd v0 v1 v2 v3 v4;go_wp2;refine AZ (Bf rfl _ rfl ar) rfl ?_;exact⟨⟨B,bd,0,p2.out,AL ⟨⟨rfl,f3,HP⟩,rfl⟩⟩,ha.out,La⟩
   ·have f6:(((fld B 0 2:Nat):Int) != a)=true:=(by simp[hp]);have HP:=BE hp;clear hp;go_wp2_with (refine BO rfl (.tmp 6) (.tmp 38) rfl w.heap.size rfl rfl kd ?_);intro w4 T4 G4;have ar:=BE T4;have M4:=hk.out.far G4 om om om om;have B4:=Go.out.fresh G4 (AM _);have ha:=BE M4;have La:=BE B4;clear T4 G4 M4 B4 hk Go kd v0 v1 v2 v3 v4;go_wp2;refine AZ (Bf rfl _ rfl ar) rfl ?_;exact⟨⟨B,bd,0,p2.out,AK ⟨fun ht=>HP.out ht.2.2,rfl⟩⟩,ha.out,La⟩
 ·have q4:=Hq it h0;rw[Mi h0];clear it;go_wp2_with (refine BO rfl (.tmp 6) (.tmp 24) rfl w.heap.size rfl rfl h6 ?_);intro w4 T4 G4;have ar:=BE T4;have M4:=hx.out.far G4 om om om om;have B4:=h2.out.fresh G4 (AM _);have ha:=BE M4;have La:=BE B4;clear T4 G4 M4 B4 hx h2 h6;go_wp2;refine AZ (Bf rfl _ rfl ar) rfl ?_;exact⟨⟨B,bd,bc,hB,AK ⟨fun ht=>h0 ht.1,rfl⟩⟩,ha.out,La⟩
theorem bG(w:Wd)(d:Int):(Instr.build 132 #[(4,.int .i64 d)]).run prog w=.ok (.agg #[.bool false,.int .i64 0,.int .i64 0,.int .i64 0,.int .i64 0,.bool false,.bool false,.slice none 0 0,.int .i64 d]) w:=kr
theorem KW(w:Wd):(Instr.build 132 #[]).run prog w=.ok (.agg #[.bool false,.int .i64 0,.int .i64 0,.int .i64 0,.int .i64 0,.bool false,.bool false,.slice none 0 0,.int .i64 0]) w:=kr
theorem DR.one{base:Nat}{e:TypeId}{v:Value}{l:List Nat}(h:DR w base e v l):v.oneCell'=true:=by
 rcases h.form with ⟨rfl,_⟩ | ⟨g,it,rfl,_⟩ <;> rfl
theorem UD(m g p q b:Nat)(r:Int)(w:Wd)(h:EO w m g p q b r)(a:Int)(c o cap:Nat)(L:List Nat)(hL:L.length=256)(bL:Bys L)(hcb:c≠b)(hcs:c<w.heap.size)(hcap:256<=cap)(hh:Ca w (.slice (some ⟨c,o,none⟩) 256 cap) L) :Calls prog 178 #[.pointer (some ⟨m,0,none⟩),.int .i64 a,.slice (some ⟨c,o,none⟩) 256 cap] w fun e w'=>∃x v,e=.returned (Zo x v)/\ToldR L a x/\DR w' w.heap.size 5 v x.data/\EO w' m g p q b r/\But b w w':=by
 have w5:=bG;have HP:=BE (Pb.new w false 0 0 0 0 false false (.slice none 0 0) 0);have G0:Chg No w (w.alloc (.cells #[.bool false,.int .i64 0,.int .i64 0,.int .i64 0,.int .i64 0,.bool false,.bool false,.slice none 0 0,.int .i64 0] 132)):=(Chg.refl _ w).alloc _;have M0:=h.chg G0;have H0:=hh.chgF G0;have o0:=G0.size;obtain⟨K',C3,L3,C4⟩:=h.lts;have it:=Ob m g p q b r _ M0 c o cap L hL bL hcb om hcap H0;have HH:=BE hh;have HG:=BE G0;have HL:=BE hL;clear G0 M0 H0 hh h o0 hL;go_enter func178,ntmps178;go_wp2_with fail;refine it.mono ?_;rintro x w1 ⟨d,rfl,hD,M1,B1⟩;clear it;have f5:But b w w1:=HG.out.but.trans B1;have f9:=BE (HP.out.chg B1.chg (fun e=>om));have P2:=Pb.new w1 false 0 0 0 0 false false (.slice none 0 0) (d:Int);have G2:Chg No w1 (w1.alloc (.cells #[.bool false,.int .i64 0,.int .i64 0,.int .i64 0,.int .i64 0,.bool false,.bool false,.slice none 0 0,.int .i64 (d:Int)] 132)):=(Chg.refl _ w1).alloc _;have t7:=BE (f9.out.alloc (.cells #[.bool false,.int .i64 0,.int .i64 0,.int .i64 0,.int .i64 0,.bool false,.bool false,.slice none 0 0,.int .i64 (d:Int)] 132));have B':=BE (f5.trans G2.but);have o2:=f5.size;have o1:=f9.out.lt;have C5:=B'.out.size;have it:=We m g p q b r _ (M1.chg G2) a c o cap L HL bL hcb om hcap (HH.out.chg B'.out.chg (fun k _ he e=>hcb ((AR he).trans e)));have HK:=BE P2;have HD:=BE hD;clear hD M1 B1 f5 P2 G2 f9 HP HG;go_wp2_with fail;refine it.mono ?_;rintro x w3 ⟨⟨B,bd,bc,hB,hT⟩,M3,B3⟩;clear it;have w2:=BE (HK.out.chg B3.chg (fun e=>om));have h2:=BE (t7.out.chg B3.chg (fun e=>om));have h1:=BE (B'.out.trans B3);have G1:=BE M3;have f3:w1.heap.size≠w.heap.size:=om
 clear HK t7 B' M3 B3;rcases hT with ⟨x2,rfl⟩ | ⟨ha,rfl⟩
 ·go_wp2_with (refine Ek rfl (.tmp 22) (.tmp 20) rfl w1.heap.size rfl rfl w2 ?_);intro w4 P4 G4;obtain⟨k0,-⟩:=P4.cells;have kf:=P4.frozen 0;have hx:=BE (P4.set0 false);have G5:Chg (·=w1.heap.size) w3 (w4.setCell ⟨w1.heap.size,0,none⟩ (.bool false)):=G4.at _ 0 _;have h6:=BE (h2.out.chg G5 (fun e=>f3 e.symm));have kd:=BE (G1.out.far G5 om om om om);have La:=BE (h1.out.fresh G5 om);clear G4 G5 P4 w2 h2 h1 G1;go_wp2_with (first | (refine wpList_load_pg rfl (.tmp 7) rfl w1.heap.size rfl hx ?_) | (refine wpList_store_pg rfl (.tmp 6) (.tmp 27) rfl w.heap.size rfl rfl rfl h6 ?_));intro w6 P6 G6;have hg:=BE P6;have ar:=BE (kd.out.far G6 om om om om);have hv:=BE (La.out.fresh G6 om);clear P6 G6 kd La hx h6 k0 kf;go_wp2;refine AZ (Gl rfl _ rfl hg) rfl ?_;exact⟨⟨false,0,0,0,0,false,false,[],d⟩,_,rfl,⟨HD.out,B,bd,bc,hB,AK ⟨x2,rfl,rfl,rfl,rfl,rfl,rfl,rfl,rfl⟩⟩,CU _ _,ar.out,hv⟩
 ·go_wp2_with (refine Ek rfl (.tmp 22) (.tmp 20) rfl w1.heap.size rfl rfl w2 ?_);intro w4 P4 G4;obtain⟨k0,-⟩:=P4.cells;have kf:=P4.frozen 0;have P5:=P4.set0 true;have G5:Chg (·=w1.heap.size) w3 (w4.setCell ⟨w1.heap.size,0,none⟩ (.bool true)):=G4.at _ 0 _;have h6:=BE (h2.out.chg G5 (fun e=>f3 e.symm));have M5:=G1.out.far G5 om om om om;have La:=BE (h1.out.fresh G5 om);have oi:=La.out.size;obtain⟨-,c1,-⟩:=M5.cells;have it:=gI p q b _ M5.2 c o 256 cap L HL.out.symm bL hcb om hcap (HH.out.chg La.out.chg (fun k _ he e=>hcb ((AR he).trans e)));have K3:=P5.lt;have hx:=BE P5;have kd:=BE M5;clear G4 G5 P4 P5 M5 w2 h2 h1 G1;go_wp2_with fail;refine it.mono ?_;rintro x w6 ⟨⟨ad,n,cp,R,dd,dc,rfl,rfl,Go,hO⟩,x0,hc⟩;clear it;have no:=Go.code.1;have P6:=hx.out.chg hc.chg (fun e=>om);have p2:=BE (h6.out.chg hc.chg (fun e=>om));have ar:=BE (kd.out.but x0 hc);have hv:=BE (La.out.trans hc);have hg:=BE P6;have wr:=BE (show DR w6 (w1.heap.size+1) 5 (.slice ad R.length cp) R from hO.mono (fun k hk=>by have:=(hO.block hk).1;omega));clear k0 kf c1 hx kd La h6 x0 hc hO;by_cases h0:dc=0
  ·subst h0;have e0:=JH;rw[If];obtain⟨-,-,-,-,-,-,k6,k7,-⟩:=P6.cells;have f6:=P6.frozen 6;have f7:=P6.frozen 7;have oa:=BE ((P6.set6 true).set7 (.slice ad R.length cp));have G7:Chg (·=w1.heap.size) w6 ((w6.setCell ⟨w1.heap.size,6,none⟩ (.bool true)).setCell ⟨w1.heap.size,7,none⟩ (.slice ad R.length cp)):=((Chg.refl (·=w1.heap.size) w6).at _ 6 _).at _ 7 _;have qa:=BE (p2.out.chg G7 (fun e=>f3 e.symm));have x1:=BE (ar.out.far G7 om om om om);have G3:=BE (hv.out.fresh G7 om);have f2:=BE (wr.out.chg G7 (fun k _ hk e=>by have:=(wr.out.block hk).1;omega));clear P6 G7 p2 ar hv hg wr no;go_wp2_with (first | (refine wpList_load_pg rfl (.tmp 7) rfl w1.heap.size rfl oa ?_) | (refine wpList_store_pg rfl (.tmp 6) (.tmp 43) rfl w.heap.size rfl rfl rfl qa ?_));intro w8 P8 G8;have f1:=BE P8;have f4:=BE (x1.out.far G8 om om om om);have f8:=BE (G3.out.fresh G8 om);have hi:=BE (f2.out.chg G8 (fun k _ hk e=>by have:=(f2.out.block hk).1;omega));clear P8 G8 x1 G3 oa qa f2 k6 k7 f6 f7;go_wp2;refine AZ (Gl rfl _ rfl f1) rfl ?_;exact⟨⟨true,fld B 0 2,fld B 2 1,fld B 3 5,fld B 8 1,FW B,true,R,d⟩,_,rfl,⟨HD.out,B,bd,bc,hB,AL ⟨ha,rfl,rfl,rfl,rfl,rfl,rfl,R,dd,0,Go,AL ⟨rfl,rfl,rfl⟩⟩⟩,hi.out.mono (fun k hk=>by have:=(hi.out.block hk).1;omega),f4.out,f8⟩
  ·have e0:=Hs no h0;rw[Mi h0];clear P6 wr no;go_wp2_with (first | (refine wpList_load_pg rfl (.tmp 7) rfl w1.heap.size rfl hg ?_) | (refine wpList_store_pg rfl (.tmp 6) (.tmp 43) rfl w.heap.size rfl rfl rfl p2 ?_));intro w8 P8 G8;have f1:=BE P8;have f4:=BE (ar.out.far G8 om om om om);have f8:=BE (hv.out.fresh G8 om);clear P8 G8 ar hv hg p2;go_wp2;refine AZ (Gl rfl _ rfl f1) rfl ?_;exact⟨⟨true,fld B 0 2,fld B 2 1,fld B 3 5,fld B 8 1,FW B,false,[],d⟩,_,rfl,⟨HD.out,B,bd,bc,hB,AL ⟨ha,rfl,rfl,rfl,rfl,rfl,rfl,R,dd,dc,Go,AK ⟨h0,rfl,rfl⟩⟩⟩,CU _ _,f4.out,f8⟩
theorem Ig{c:Nat}(hc:nIsCode c)(h:c≠0):∃x,nerrV c=.iface 57 x/\∀w:World,(binOp .neq 46 (.iface 57 x) .nilIface).run prog w=.ok (.bool true) w:=by
 rcases hc with rfl | rfl | rfl | rfl | rfl
 ·exact absurd rfl h
 ·exact⟨_,rfl,Qc⟩
 ·exact⟨_,rfl,Qd⟩
 ·exact⟨_,rfl,Qe⟩
 ·exact⟨_,rfl,Qf⟩
theorem Qh(hs:s.Ok){a:Int}(h:(readV s a).2.2=0):(readV s a).2.1.length=256/\Bys (readV s a).2.1:=by
 unfold readV at h ⊢;split at h
 ·cases h
 ·split at h
  ·cases h
  ·rename_i h1 h2;rw[AI h1,AI h2];exact⟨DO hs _ _,WT hs _ _⟩
theorem EO.count(h:EO w m g p q b r)(r':Int):EO (w.setCell ⟨m,2,none⟩ (.int .i64 r')) m g p q b r':=by
 have hm:∀k,k≠m->(w.setCell ⟨m,2,none⟩ (.int .i64 r')).heap[k]?=w.heap[k]?:=fun k hk=>heap_setCell_other _ _ _ _ hk;refine⟨heap_setCell_same w m 2 _ 239 _ h.1,h.2.other (hm b h.mb.symm) (hm q ?_) (hm p ?_)⟩
 ·intro e;have h1:=h.2.1.2;rw[e,h.1] at h1;simp at h1
 ·intro e;have h1:w.heap[p]?=some (.cells #[.pointer (some ⟨q,0,none⟩)] 278):=h.2.2;rw[e,h.1] at h1;simp at h1
theorem EO.mg(h:EO w m g p q b r)(hC:BI w g s):m≠g/\p≠g/\q≠g/\b≠g:=by
 obtain⟨cs,hg,-,-⟩:=hC;refine⟨fun e=>?_,fun e=>?_,fun e=>?_,fun e=>?_⟩
 ·have h1:=h.1;rw[e,hg] at h1;simp at h1
 ·have h1:w.heap[p]?=some (.cells #[.pointer (some ⟨q,0,none⟩)] 278):=h.2.2;rw[e,hg] at h1;simp at h1
 ·have h1:=h.2.1.2;rw[e,hg] at h1;simp at h1
 ·obtain⟨c,z,hc,-⟩:=D8 h.2.1.1;rw[e,hg] at hc;simp at hc
theorem Lv(m g p q b:Nat)(r:Int)(s:BM)(hs:s.Ok)(w:Wd)(h:EO w m g p q b r)(hC:BI w g s)(a:Int) :Calls prog 134 #[.pointer (some ⟨m,0,none⟩),.int .i64 a] w fun e w'=>∃s' r' x c v,e=.returned (.tuple #[Zo x v,nerrV c])/\ReadR s r a s' r' x c/\DR w' w.heap.size 5 v x.data/\EO w' m g p q b r'/\BI w' g s'/\Chg (fun k=>k=m\/k=g\/k=b) w w':=by
 have ih:=KW;have HP:=BE (Pb.new w false 0 0 0 0 false false (.slice none 0 0) 0);have G0:Chg No w (w.alloc (.cells #[.bool false,.int .i64 0,.int .i64 0,.int .i64 0,.int .i64 0,.bool false,.bool false,.slice none 0 0,.int .i64 0] 132)):=(Chg.refl _ w).alloc _;have M0:=h.chg G0;have C0:=hC.chg G0 (fun f=>f);obtain⟨ho,be,K',xs⟩:=h.lts;obtain⟨nm,np,nq,nb⟩:=h.mg hC;have C5:=hC.lt;obtain⟨c0,-,-⟩:=M0.cells;have no:=Qg g s hs a _ C0;have p2:(w.alloc (.cells #[.bool false,.int .i64 0,.int .i64 0,.int .i64 0,.int .i64 0,.bool false,.bool false,.slice none 0 0,.int .i64 0] 132)).heap.size=w.heap.size+1:=by simp
 rw[p2] at no;have HG:=BE G0;have HM:=BE M0;have it:=KT s a;have q0:=Bt;have C4:=h.mb;clear G0 M0 C0 p2 h hC;go_enter func134,ntmps134;go_wp2_with fail;refine no.mono ?_;rintro x w1 ⟨ad,n,K3,rfl,hn,hO,C1,G1⟩;clear no c0;have C3:=HG.out.size;have M1:=HM.out.far G1 nm np nq nb;have ha:=BE (HP.out.chg G1 om);have h6:Chg (fun k=>k=m\/k=g\/k=b) w w1:=(HG.out.mono (T:=fun k=>k=m\/k=g\/k=b) (fun _ _ f=>f.elim)).trans' G1 (fun k _ e=>AL (AK e));by_cases hc:(readV s a).2.2=0
 ·obtain⟨ar,h2⟩:=Qh hs hc;have HC:=BE hc;rw[hc];obtain⟨g',x1,hv,rs,o1,w5,t7,-⟩:=hO.lies om;have hH:=hO.held;rw[show n=256 from om] at hH ⊢;rw[show n=256 from om,ar] at hv;injection hv with hv1 hv2 hv3;subst hv1 hv3;generalize f2:(readV s a).2.1=L at *
  have oi:=BE f2;clear f2 t7 hO hn it hc;obtain⟨-,-,c2⟩:=M1.cells;have M2:=M1.count (wrap64 (r+1));have G2:Chg (·=m) w1 (w1.setCell ⟨m,2,none⟩ (.int .i64 (wrap64 (r+1)))):=(Chg.refl (·=m) w1).at _ 2 _;have B':Chg (fun k=>k=m\/k=g\/k=b) w (w1.setCell ⟨m,2,none⟩ (.int .i64 (wrap64 (r+1)))):=h6.trans' G2 (fun k _ e=>AK e);have C2:=C1.chg G2 (fun e=>nm e.symm);have h0:=BE (ha.out.chg G2 om);have G3:=hH.chg G2 (fun k hk he e=>by have:=AR he;simp at this;omega);have o0:=G2.size;have oa:=ha.out.lt;have La:=UD m g p q b (wrap64 (r+1)) _ M2 a g' 0 K3 L ar h2 om om om G3;have kd:=Ry m 2 w1 c2 (by simp[World.frozen?,M1.1]);have wr:=BE M2;have hg:=BE C2;have hx:=BE B';clear M1 M2 C1 C2 G1 G2 B' h6 hH G3 ha;simp only[nerrV];go_wp2_with fail;refine kd.mono ?_;rintro x w2 ⟨rfl,rfl⟩;clear kd c2;go_wp2_with fail;refine La.mono ?_;rintro x w3 ⟨X,v,rfl,hT,qa,M3,B3⟩;clear La;have f1:=BE (h0.out.chg B3.chg (fun e=>om));have f9:=BE (hg.out.chg B3.chg (fun e=>nb e.symm));have f7:=BE (hx.out.trans' B3.chg (fun k _ e=>AL (AL e)));have f8:=BE M3;have h1:=BE qa;clear M3 B3 hg hx h0 wr;go_wp2_with (refine wpList_store_pg rfl (.tmp 4) (.tmp 28) rfl w.heap.size rfl rfl h1.out.one f1 ?_);intro w4 P4 G4;have x2:=BE P4;have L3:=BE (f8.out.far G4 om om om om);have o2:=BE (f9.out.chg G4 om);have hi:=BE (f7.out.trans' G4 (fun k hk e=>om));have f6:=BE (h1.out.chg G4 (fun k hk he e=>by have:=(h1.out.block he).1;simp at this;omega));clear P4 G4 f8 f9 f7 f1 h1;go_wp2;refine AZ (CO rfl _ rfl x2) rfl ?_;exact⟨(readV s a).1,wrap64 (r+1),X,0,v,rfl,⟨rfl,HC.out.symm,AL ⟨rfl,rfl,by rw[oi.out];exact hT⟩⟩,f6.out.mono (fun k hk=>by have:=(f6.out.block hk).1;simp at this;omega),L3.out,o2.out,hi⟩
 ·obtain⟨y,hy,q1⟩:=Ig it hc;have HY:=BE hy;rw[hy];have f3:=BE M1;have f4:=BE C1;have f5:=BE h6;clear M1 C1 G1 h6 hO hn it hy;go_wp2_with (refine wpList_store_pg rfl (.tmp 4) (.tmp 19) rfl w.heap.size rfl rfl rfl ha ?_);intro w2 P2 G2;have h0:=BE P2;have wr:=BE (f3.out.far G2 om om om om);have hg:=BE (f4.out.chg G2 om);have x0:=BE (f5.out.trans' G2 (fun k hk e=>om));clear P2 G2 f3 f4 f5 ha;go_wp2;refine AZ (CO rfl _ rfl h0) rfl ?_;refine⟨(readV s a).1,r,Pg.zero,(readV s a).2.2,_,?_,⟨rfl,rfl,AK ⟨hc,rfl,rfl⟩⟩,CU _ _,wr.out,hg.out,x0⟩;rw[HY.out];rfl
end
end Go.Proofs.YtmdpnpjacfedpaaGreat
namespace Go.Proofs.YtmdpnpjacfedpaaGreat
open List
open Go.Proofs.Tryz
open Go.RowKit Go.Shelf
section
variable {base g:Nat}{v:Value}{gs:List Nat}{X Y w:Wd}{ls:List (List Nat)}{α:Type}
attribute [local go_sem] Oper.semAt_some
def slc (g:Nat):Value:=.slice (some ⟨g,0,none⟩) 64 64
structure FO (W:Wd) (base:Nat) (v:Value) (gs:List Nat) (ls:List (List Nat)):Prop where
 row:W.ownsRow base 48 1 v gs.length (gs.map slc)
 len:ls.length=gs.length
 arr:∀j,j<gs.length->Arr W (gs.getD j 0) 5 (ls.getD j [])
 nd:gs.Nodup
 off:∀k,v.ownBlock=some k->k ∉ gs
 low:∀g ∈ gs,base<=g
theorem FO.mem_lt{W:Wd}(h:FO W base v gs ls)(hg:g ∈ gs):g<W.heap.size:=by
 obtain⟨j,hj,rfl⟩:=getElem_of_mem hg;have:=(h.arr j hj).lt
 rwa [AQ,AU hj] at this
theorem GV{e:TypeId}{z:Nat}{n:Nat}{xs:List Value}(h:X.ownsRow base e z v n xs)(hk:∀g c t,v.ownBlock=some g->X.heap[g]?=some (.cells c t)->Y.heap[g]?=X.heap[g]?):Y.ownsRow base e z v n xs:=by
 refine⟨h.1,?_⟩;rcases h.2 with h1 | ⟨g,it,no,rfl,hb,hh,r⟩
 ·exact AK h1
 ·exact AL ⟨g,it,no,rfl,hb,(hk _ _ _ rfl hh).trans hh,r⟩
theorem FO.keeps(h:FO X base v gs ls)(hk:JI X Y):FO Y base v gs ls:=
 ⟨GV h.row (fun g c t _ hh=>hk g c t hh),h.len,fun j hj=>(hk _ _ _ (h.arr j hj)).trans (h.arr j hj),h.nd,h.off,h.low⟩
theorem FO.chg{S:Nat->Prop}(h:FO X base v gs ls)(hc:Chg S X Y)(hS:∀k,S k->v.ownBlock≠some k/\k ∉ gs):FO Y base v gs ls:=
 ⟨GV h.row (fun g c t e hh=>hc.block g (Array.getElem?_eq_some_iff.1 hh).1 (fun s=>(hS g s).1 e)),h.len,fun j hj=>(h.arr j hj).chg hc (fun s=>(hS _ s).2 (by rw[AQ,AU hj];exact getElem_mem hj)),h.nd,h.off,h.low⟩
theorem kp(w:Wd):(Instr.makeSlice 294 (.int .i64 0) (.int .i64 4)).run prog w=.ok (.slice (some ⟨w.heap.size,0,none⟩) 0 4) (w.alloc (.cells #[.slice none 0 0,.slice none 0 0,.slice none 0 0,.slice none 0 0] 48)):=kr
theorem Qi:(prog.info? 48).map (fun i=>(i.zero,i.size,i.bytes))=some (some (.slice none 0 0),1,24):=kr
theorem Wg{fn:Func}{p1 p2:Tmp}(h:fn.results=#[.cell p1 294,.cell p2 46])(tmps:Array Value){r1 r2:Nat}{v1 v2:Value}(hp1:tmps.getD p1 undef=.pointer (some ⟨r1,0,none⟩))(hp2:tmps.getD p2 undef=.pointer (some ⟨r2,0,none⟩))(b1:Boxed w r1 294 v1)(b2:Boxed w r2 46 v2) :(results fn tmps).run prog w=.ok (.tuple #[v1,v2]) w:=by
 have c1:=b1.cell;have c2:=b2.cell;have it:tmps[p1]?.getD undef=.pointer (some ⟨r1,0,none⟩):=by simpa using hp1
 have no:tmps[p2]?.getD undef=.pointer (some ⟨r2,0,none⟩):=by simpa using hp2
 simp[results,h,it,no,go_sem,c1,c2]
theorem Wh(p:Nat)(w:Wd)(a:Option Addr)(n cap:Nat)(hn:n≠174)(bv:Value) :Calls prog 245 #[.pointer (some ⟨p,0,none⟩),.slice a n cap,bv] w fun e w'=>e=.returned (.tuple #[.slice none 0 0,.iface 57 (.int .i64 1)])/\Chg No w w':=by
 have it:((n:Int) != 174)=true:=by simp;omega
 refine(callsIn_wide (n:=3)).1 ?_;refine callsIn_of_wp_marks func245 rfl trivial ?_ rfl;simp only[ntmps245,size_toArray,An,length_nil,Nat.reduceAdd,Nat.reduceSub,Array.replicate_succ,Array.replicate_zero,push_toArray,append_toArray,A7,cons_append]
 gi_wp2;refine⟨.tuple #[.slice none 0 0,.iface 57 (.int .i64 1)],?_,rfl,((((Chg.refl _ _).alloc _).alloc _).alloc _)⟩;simp[results,f245,go_sem]
def LI (w W3 W:Wd) (p q b r Bx:Nat) (M:List Nat) (pre:List Ix):Prop:=
 ∃(v:Value) (gs:List Nat),FO W w.heap.size v gs (pre.map fun x=>JT (part 58 M x.1))/\Boxed W Bx 294 v/\(∀g,v.ownBlock=some g->g=r\/W3.heap.size<=g)/\(∀g ∈ gs,W3.heap.size<=g)/\Frm W p q b/\Chg (fun k=>k=b\/k=r\/k=Bx) W3 W
theorem LI.keep{W3:Wd}{p q b r Bx:Nat}{M:List Nat}{pre:List Ix}{row:Option Nat}(h:LI w W3 X p q b r Bx M pre)(hg:X.grownBy Y row)(hr:∀r,row=some r->W3.heap.size<=r/\∃o:Obj,X.heap[r]?=some o/\o.isCells=false):LI w W3 Y p q b r Bx M pre:=by
 obtain⟨v,gs,h1,h2,h3,h4,h5,h6⟩:=h;have hk:=kept hg hr;exact⟨v,gs,h1.keeps hk,BV h2 hk,h3,h4,h5.keep hk,h6.grown hg (fun k e=>AL (hr k e).1)⟩
theorem Qj(h:gs.Nodup)(hg:g ∉ gs):(gs ++ [g]).Nodup:=by
 rw[nodup_append];refine⟨h,by simp,fun a ha b hb=>?_⟩;simp at hb;subst hb;exact fun e=>hg (e ▸ ha)
theorem Ht(l:List α)(x d:α)(j:Nat)(h:j<l.length):(l ++ [x]).getD j d=l.getD j d:=by
 simp[AQ,Af h]
theorem Hu(l:List α)(x d:α):(l ++ [x]).getD l.length d=x:=by
 simp[AQ]
theorem FO.snoc{v':Value}{l:List Nat}(h:FO X base v gs ls)(hg:X.grownBy Y v.ownBlock)(ho:Y.ownsRow base 48 1 v' (gs.length+1) (gs.map slc ++ [slc g]))(no:v'.ownBlock=v.ownBlock\/v'.ownBlock=some X.heap.size)(hA:Arr X g 5 l)(hb:base<=g)(hn:g ∉ gs)(hv:v.ownBlock≠some g):FO Y base v' (gs ++ [g]) (ls ++ [l]):=by
 have hk:∀k,k<X.heap.size->v.ownBlock≠some k->Y.heap[k]?=X.heap[k]?:=fun k hk hv=>hg.block k hk (fun e=>hv e.symm);refine⟨by simpa using ho,by simp[h.len],fun j hj=>?_,Qj h.nd hn,fun k hk' hm=>?_,fun g' Go=>?_⟩
 ·by_cases it:j<gs.length
  ·rw[Ht _ _ _ _ it,Ht _ _ _ _ (by rw[h.len];exact it)];have hA:=h.arr j it;exact(hk _ hA.lt (fun e=>h.off _ e (by rw[AQ,AU it];exact getElem_mem it))).trans hA
  ·have e:j=gs.length:=(by simp at hj;omega);subst e;rw[Hu,<-h.len,Hu];exact(hk _ hA.lt hv).trans hA
 ·rcases mem_append.1 hm with h1 | h1
  ·rcases no with h2 | h2
   ·exact h.off k (by rw[<-h2];exact hk') h1
   ·have:=h.mem_lt h1;rw[h2] at hk';have:=AR hk';omega
  ·simp at h1;subst h1;rcases no with h2 | h2
   ·exact hv (by rw[<-h2];exact hk')
   ·rw[h2] at hk';have:=AR hk';have:=hA.lt;omega
 ·rcases mem_append.1 Go with h1 | h1
  ·exact h.low g' h1
  ·simp at h1;subst h1;exact hb
theorem Jl(p q b:Nat)(w:Wd)(h:Frm w p q b)(c o it:Nat)(Dt:List Nat)(hD:Dt.length=174)(bD:Bys Dt)(hcb:c≠b)(hcs:c<w.heap.size)(hcell:∀i,i<Dt.length->w.cell? ⟨c,o+i,none⟩=some (.int .u8 (Dt.getD i 0:Nat)))(c2 o2 cap2:Nat)(Bd:List Nat)(hB:Bd.length=50)(bB:Bys Bd)(hcs2:c2<w.heap.size)(hcell2:∀i,i<Bd.length->w.cell? ⟨c2,o2+i,none⟩=some (.int .u8 (Bd.getD i 0:Nat)))(MM:List Nat)(hMM:Dt ++ (Bd ++ mk)=MM) :Calls prog 245 #[.pointer (some ⟨p,0,none⟩),.slice (some ⟨c,o,none⟩) 174 it,.slice (some ⟨c2,o2,none⟩) 50 cap2] w fun e w'=>(∃r k gs,e=.returned (.tuple #[.slice (some ⟨r,0,none⟩) 4 k,.nilIface])/\FO w' w.heap.size (.slice (some ⟨r,0,none⟩) 4 k) gs ((List.range 4).map fun i=>JT (part 58 MM i)))/\Frm w' p q b/\But b w w':=by
 have HC:=BE hcell;have C5:=BE hcell2;have x7:=kp;have q1:=Bt;have hp:=h.lt;have h7:=h.1.1.lt;have O3:=h.1.lt;refine(callsIn_wide (n:=3)).1 ?_;refine callsIn_of_wp_marks func245 rfl trivial ?_ rfl;simp only[ntmps245,size_toArray,An,length_nil,Nat.reduceAdd,Nat.reduceSub,Array.replicate_succ,Array.replicate_zero,push_toArray,append_toArray,A7,cons_append]
 gi_wp2_with fail;have x0:Boxed (((w.alloc (.cells #[.pointer (some ⟨p,0,none⟩)] 236)).alloc (.cells #[.slice none 0 0] 294)).alloc (.cells #[.nilIface] 46)) w.heap.size 236 (.pointer (some ⟨p,0,none⟩)):=((Boxed.new' _ (by simp) _ _).alloc _).alloc _;have x1:Boxed (((w.alloc (.cells #[.pointer (some ⟨p,0,none⟩)] 236)).alloc (.cells #[.slice none 0 0] 294)).alloc (.cells #[.nilIface] 46)) (w.heap.size+1) 294 (.slice none 0 0):=(Boxed.new' _ (by simp) _ _).alloc _;have x2:Boxed (((w.alloc (.cells #[.pointer (some ⟨p,0,none⟩)] 236)).alloc (.cells #[.slice none 0 0] 294)).alloc (.cells #[.nilIface] 46)) (w.heap.size+1+1) 46 .nilIface:=Boxed.new' _ (by simp) _ _;have G0:Chg No w (((w.alloc (.cells #[.pointer (some ⟨p,0,none⟩)] 236)).alloc (.cells #[.slice none 0 0] 294)).alloc (.cells #[.nilIface] 46)):=(((Chg.refl _ _).alloc _).alloc _).alloc _;have O1:(((w.alloc (.cells #[.pointer (some ⟨p,0,none⟩)] 236)).alloc (.cells #[.slice none 0 0] 294)).alloc (.cells #[.nilIface] 46)).heap.size=w.heap.size+3:=by simp
 generalize ((w.alloc (.cells #[.pointer (some ⟨p,0,none⟩)] 236)).alloc (.cells #[.slice none 0 0] 294)).alloc (.cells #[.nilIface] 46)=W0 at *
 refine⟨trivial,(callsIn_wide.2 (Vz W0 c2 o2 cap2 Bd hB om (fun i hi=>(Ag (w:=w) (a:=⟨c2,o2+i,none⟩) (G0.block c2 hcs2 (fun e=>e))).trans (C5.out i hi)))).mono ?_⟩;rintro e W1 ⟨gS,rfl,x8,AS,G1⟩;have qa:=G0.trans G1;have y0:Boxed W1 w.heap.size 236 (.pointer (some ⟨p,0,none⟩)):=(G1.block _ x0.lt (fun e=>e)).trans x0;have y1:Boxed W1 (w.heap.size+1) 294 (.slice none 0 0):=(G1.block _ x1.lt (fun e=>e)).trans x1;have y2:Boxed W1 (w.heap.size+1+1) 46 .nilIface:=(G1.block _ x2.lt (fun e=>e)).trans x2;have r0:=G1.size
 gi_wp2_with fail;have be:∀i,i<Dt.length->(((W1.alloc (.cells #[.slice none 0 0,.slice none 0 0,.slice none 0 0,.slice none 0 0] 48)).alloc (.cells #[.slice (some ⟨W1.heap.size,0,none⟩) 0 4] 294)).alloc (.cells #[.slice (some ⟨c,o,none⟩) 174 it,.slice (some ⟨gS,0,none⟩) 58 58] 48)).cell? ⟨c,o+i,none⟩=some (.int .u8 (Dt.getD i 0:Nat)):=fun i hi=>
  (Ag (w:=w) (a:=⟨c,o+i,none⟩) (((((qa.alloc _).alloc _).alloc _)).block c hcs (fun e=>e))).trans (HC.out i hi)
 have A3:=((AS.alloc (.cells #[.slice none 0 0,.slice none 0 0,.slice none 0 0,.slice none 0 0] 48)).alloc (.cells #[.slice (some ⟨W1.heap.size,0,none⟩) 0 4] 294)).alloc (.cells #[.slice (some ⟨c,o,none⟩) 174 it,.slice (some ⟨gS,0,none⟩) 58 58] 48);have GA:=((qa.alloc (.cells #[.slice none 0 0,.slice none 0 0,.slice none 0 0,.slice none 0 0] 48)).alloc (.cells #[.slice (some ⟨W1.heap.size,0,none⟩) 0 4] 294)).alloc (.cells #[.slice (some ⟨c,o,none⟩) 174 it,.slice (some ⟨gS,0,none⟩) 58 58] 48);have u0:=((y0.alloc (.cells #[.slice none 0 0,.slice none 0 0,.slice none 0 0,.slice none 0 0] 48)).alloc (.cells #[.slice (some ⟨W1.heap.size,0,none⟩) 0 4] 294)).alloc (.cells #[.slice (some ⟨c,o,none⟩) 174 it,.slice (some ⟨gS,0,none⟩) 58 58] 48);have u1:=((y1.alloc (.cells #[.slice none 0 0,.slice none 0 0,.slice none 0 0,.slice none 0 0] 48)).alloc (.cells #[.slice (some ⟨W1.heap.size,0,none⟩) 0 4] 294)).alloc (.cells #[.slice (some ⟨c,o,none⟩) 174 it,.slice (some ⟨gS,0,none⟩) 58 58] 48);have u2:=((y2.alloc (.cells #[.slice none 0 0,.slice none 0 0,.slice none 0 0,.slice none 0 0] 48)).alloc (.cells #[.slice (some ⟨W1.heap.size,0,none⟩) 0 4] 294)).alloc (.cells #[.slice (some ⟨c,o,none⟩) 174 it,.slice (some ⟨gS,0,none⟩) 58 58] 48);have u3:Boxed (((W1.alloc (.cells #[.slice none 0 0,.slice none 0 0,.slice none 0 0,.slice none 0 0] 48)).alloc (.cells #[.slice (some ⟨W1.heap.size,0,none⟩) 0 4] 294)).alloc (.cells #[.slice (some ⟨c,o,none⟩) 174 it,.slice (some ⟨gS,0,none⟩) 58 58] 48)) (W1.heap.size+1) 294 (.slice (some ⟨W1.heap.size,0,none⟩) 0 4):=(Boxed.new' _ (by simp) _ _).alloc _;have u4:(((W1.alloc (.cells #[.slice none 0 0,.slice none 0 0,.slice none 0 0,.slice none 0 0] 48)).alloc (.cells #[.slice (some ⟨W1.heap.size,0,none⟩) 0 4] 294)).alloc (.cells #[.slice (some ⟨c,o,none⟩) 174 it,.slice (some ⟨gS,0,none⟩) 58 58] 48)).heap[W1.heap.size]?=some (.cells #[.slice none 0 0,.slice none 0 0,.slice none 0 0,.slice none 0 0] 48):=by
  rw[Below.heap_alloc _ _ _ (by simp;omega),Below.heap_alloc _ _ _ (by simp)];exact World.alloc_heap_new W1 _
 have u5:(((W1.alloc (.cells #[.slice none 0 0,.slice none 0 0,.slice none 0 0,.slice none 0 0] 48)).alloc (.cells #[.slice (some ⟨W1.heap.size,0,none⟩) 0 4] 294)).alloc (.cells #[.slice (some ⟨c,o,none⟩) 174 it,.slice (some ⟨gS,0,none⟩) 58 58] 48)).heap[W1.heap.size+1+1]?=some (.cells #[.slice (some ⟨c,o,none⟩) 174 it,.slice (some ⟨gS,0,none⟩) 58 58] 48):=by
  have:=World.alloc_heap_new ((W1.alloc (.cells #[.slice none 0 0,.slice none 0 0,.slice none 0 0,.slice none 0 0] 48)).alloc (.cells #[.slice (some ⟨W1.heap.size,0,none⟩) 0 4] 294)) (.cells #[.slice (some ⟨c,o,none⟩) 174 it,.slice (some ⟨gS,0,none⟩) 58 58] 48);simpa using this
 have pg:(((W1.alloc (.cells #[.slice none 0 0,.slice none 0 0,.slice none 0 0,.slice none 0 0] 48)).alloc (.cells #[.slice (some ⟨W1.heap.size,0,none⟩) 0 4] 294)).alloc (.cells #[.slice (some ⟨c,o,none⟩) 174 it,.slice (some ⟨gS,0,none⟩) 58 58] 48)).heap.size=W1.heap.size+3:=by simp
 generalize ((W1.alloc (.cells #[.slice none 0 0,.slice none 0 0,.slice none 0 0,.slice none 0 0] 48)).alloc (.cells #[.slice (some ⟨W1.heap.size,0,none⟩) 0 4] 294)).alloc (.cells #[.slice (some ⟨c,o,none⟩) 174 it,.slice (some ⟨gS,0,none⟩) 58 58] 48)=WA at *
 have oa:=AS.lt;have f9:(Bd ++ mk).length=58:=by rw[AV,hB,Dd]
 refine⟨trivial,(callsIn_wide.2 (QJ WA (W1.heap.size+1+1) c o it gS 0 58 Dt (Bd ++ mk) hD f9 u5 om om be A3.at0)).mono ?_⟩;rintro e W2 ⟨gM,kM,rfl,OM,G2⟩;have w3:=G2.size;have GB:=GA.trans G2;have v0:Boxed W2 w.heap.size 236 (.pointer (some ⟨p,0,none⟩)):=(G2.block _ u0.lt (fun e=>e)).trans u0;have v1:Boxed W2 (w.heap.size+1) 294 (.slice none 0 0):=(G2.block _ u1.lt (fun e=>e)).trans u1;have v2:Boxed W2 (w.heap.size+1+1) 46 .nilIface:=(G2.block _ u2.lt (fun e=>e)).trans u2;have v3:Boxed W2 (W1.heap.size+1) 294 (.slice (some ⟨W1.heap.size,0,none⟩) 0 4):=(G2.block _ u3.lt (fun e=>e)).trans u3;have v4:=(G2.block _ (show W1.heap.size<WA.heap.size by omega) (fun e=>e)).trans u4;have C3:MM.length=4*58:=by rw[<-hMM,AV,hD,f9]
 have bM:Bys MM:=by
  rw[<-hMM];intro x hx;rcases mem_append.1 hx with h1 | h1
  ·exact bD x h1
  ·rcases mem_append.1 h1 with h2 | h2
   ·exact bB x h2
   ·exact QI x h2
 rw[hMM] at OM;obtain⟨F1,r2,f8,r1,wr,rs,cM,-⟩:=OM.lies om;simp only[Value.slice.injEq,Option.some.injEq,Addr.mk.injEq] at f8;obtain⟨⟨rfl,-,-⟩,-,rfl⟩:=f8;have o1:=BE cM;have p2:=BE C3;have h4:=BE rs
 gi_wp2_with (refine⟨trivial,?_⟩;gi_at_call 238;refine(callsIn_wide.2 (IU _ _ _ _ 58)).mono ?_;rintro e w' ⟨rfl,rfl⟩);have x0:=(v0.alloc (.cells #[.slice (some ⟨gM,0,none⟩) 232 kM] 48)).alloc (.cells #[.int .i64 58] 3);have x1:=(v1.alloc (.cells #[.slice (some ⟨gM,0,none⟩) 232 kM] 48)).alloc (.cells #[.int .i64 58] 3);have x2:=(v2.alloc (.cells #[.slice (some ⟨gM,0,none⟩) 232 kM] 48)).alloc (.cells #[.int .i64 58] 3);have x3:=(v3.alloc (.cells #[.slice (some ⟨gM,0,none⟩) 232 kM] 48)).alloc (.cells #[.int .i64 58] 3);have x4:((W2.alloc (.cells #[.slice (some ⟨gM,0,none⟩) 232 kM] 48)).alloc (.cells #[.int .i64 58] 3)).heap[W1.heap.size]?=some (.cells #[.slice none 0 0,.slice none 0 0,.slice none 0 0,.slice none 0 0] 48):=by
  rw[Below.heap_alloc _ _ _ (by simp;omega),Below.heap_alloc _ _ _ om];exact v4
 have x5:Boxed ((W2.alloc (.cells #[.slice (some ⟨gM,0,none⟩) 232 kM] 48)).alloc (.cells #[.int .i64 58] 3)) W2.heap.size 48 (.slice (some ⟨gM,0,none⟩) 232 kM):=(Boxed.new' _ rfl _ _).alloc _;have x6:Boxed ((W2.alloc (.cells #[.slice (some ⟨gM,0,none⟩) 232 kM] 48)).alloc (.cells #[.int .i64 58] 3)) (W2.heap.size+1) 3 (.int .i64 58):=Boxed.new' _ (by simp) _ _;have G3:=(GB.alloc (.cells #[.slice (some ⟨gM,0,none⟩) 232 kM] 48)).alloc (.cells #[.int .i64 58] 3);have he:((W2.alloc (.cells #[.slice (some ⟨gM,0,none⟩) 232 kM] 48)).alloc (.cells #[.int .i64 58] 3)).heap.size=W2.heap.size+2:=by simp
 have ht:∀i,i<MM.length->((W2.alloc (.cells #[.slice (some ⟨gM,0,none⟩) 232 kM] 48)).alloc (.cells #[.int .i64 58] 3)).cell? ⟨gM,i,none⟩=some (.int .u8 (MM.getD i 0:Nat)):=fun i hi=>by
  rw[Au _ _ _ (by simp;omega),Au _ _ _ wr];exact o1 i hi
 generalize (W2.alloc (.cells #[.slice (some ⟨gM,0,none⟩) 232 kM] 48)).alloc (.cells #[.int .i64 58] 3)=W3 at *
 have F3:=h.chg G3;refine wpIn_rangeFunc_ownG rfl om (gf:=255) (lb:=#[.pointer (some ⟨W2.heap.size,0,none⟩),.pointer (some ⟨W2.heap.size+1,0,none⟩)]) rfl trivial (enters_of func255 kr rfl)
  (aQ Fence.wide _ trivial rfl om _ _ gM 0 kM (by have:=h4.out;have:=p2.out;omega) W3 om om x5.cell x6.cell) Kp.t (Kp.b om om) (Below.refl _ _) (fun _=>rfl)
  (fun pre W=>LI w W3 W p q b W1.heap.size (W1.heap.size+1) MM pre)
  (fun _ _ _=>False)
  (fun pre X Y row hs hg hr=>hs.keep hg hr)
  (fun _ _ _ _ _ hs _ _=>hs)
  ⟨_,[],⟨⟨rfl,AL ⟨_,4,_,rfl,om,x4,dc,dc,rfl,by simp⟩⟩,rfl,fun j hj=>by simp at hj,by simp,fun k _ hm=>by simp at hm,fun g hm=>by simp at hm⟩,x3,fun g e=>AK (AR e).symm,fun g hm=>by simp at hm,F3,Chg.refl _ _⟩
  (fun x=>{ tmps:=#[.pointer (some ⟨p,0,none⟩),.slice (some ⟨c,o,none⟩) 174 it,.slice (some ⟨c2,o2,none⟩) 50 cap2,.pointer (some ⟨w.heap.size,0,none⟩),undef,undef,.pointer (some ⟨w.heap.size+1,0,none⟩),.pointer (some ⟨w.heap.size+1+1,0,none⟩),.slice (some ⟨gS,0,none⟩) 58 58,.nilIface,.pointer (some ⟨W1.heap.size+1,0,none⟩),undef,.slice (some ⟨gM,x.1*58,none⟩) 58 (kM - x.1*58),undef,undef,.slice (some ⟨c,o,none⟩) 174 it,.int .i64 174,.bool false,undef,.tuple #[.slice (some ⟨gS,0,none⟩) 58 58,.nilIface],.slice (some ⟨c2,o2,none⟩) 50 cap2,.tuple #[.slice (some ⟨gS,0,none⟩) 58 58,.nilIface],.slice (some ⟨gS,0,none⟩) 58 58,.nilIface,.nilIface,.bool false,undef,.slice (some ⟨W1.heap.size,0,none⟩) 0 4,.slice (some ⟨c,o,none⟩) 174 it,.slice (some ⟨gS,0,none⟩) 58 58,.slice (some ⟨W1.heap.size+1+1,0,none⟩) 2 2,.slice (some ⟨gM,0,none⟩) 232 kM,.func (.func 255) #[] #[.pointer (some ⟨W2.heap.size,0,none⟩),.pointer (some ⟨W2.heap.size+1,0,none⟩)],.int .i64 (x.1:Int),.slice (some ⟨gM,x.1*58,none⟩) 58 (kM - x.1*58),undef,undef,undef,undef,undef,undef,undef,undef,undef,undef,undef,undef,undef,undef,undef,undef,undef],defers:=[] }) ?assign ?body ?done ?stop
 case assign=>
  intro l x W K hK;dsimp only[QG];simp only[AW]
  gi_wp2;exact hK
 case body=>
  rintro l pre x W ⟨v,gs,R,y3,hv,La,F,hG⟩ h8;have y0:Boxed W w.heap.size 236 (.pointer (some ⟨p,0,none⟩)):=(hG.block _ x0.lt om).trans x0;have g2:=hG.size;have z0:=y0.cell;have z2:W.cell? ⟨p,0,none⟩=some (.pointer (some ⟨q,0,none⟩)):=F.2.cell;have K3:∀o,W.heap[b]?=some o->o.isCells=true:=fun o ho=>by
   obtain⟨c,z,hc,-⟩:=D8 F.1.1;rw[hc] at ho;cases ho;rfl
  obtain⟨i,hi⟩:=x;dsimp only;have w2:=Cm p2 i hi;have L3:=Hh (z:=58) bM i;have w4:∀j,j<(part 58 MM i).length->W.cell? ⟨gM,i*58+j,none⟩=some (.int .u8 ((part 58 MM i).getD j 0:Nat)):=fun j hj=>by
   rw[IV 58 MM i j om];exact(Ag (w:=W3) (a:=⟨gM,i*58+j,none⟩) (hG.block gM om om)).trans (ht _ (by have:=p2.out;omega))
  have h6:=BE (QF q b W F.1 gM (i*58) (kM - i*58) (part 58 MM i) w2 L3 om om w4)
  gi_wp2_with fail;refine⟨trivial,(CallsIn.inRound l (callsIn_wide.2 h6)).mono ?_⟩;rintro e W4 ⟨g,rfl,hg,A4,C4,B4⟩;have F4:=F.but C4 B4;have a1:KeepsFrom W3.heap.size W W4:=B4.chg.keeps (fun k hk o ho=>K3 o (by rw[<-hk];exact ho)) _;have e':=B4.size;have R4:FO W4 w.heap.size v gs (pre.map fun x=>JT (part 58 MM x.1)):=R.chg B4.chg (fun k e=>by
   subst e
   exact⟨fun h1=>by have:=hv _ h1;omega,fun h1=>by have:=La _ h1;omega⟩)
  have y4:Boxed W4 (W1.heap.size+1) 294 v:=(B4.block _ y3.lt om).trans y3;have c4:=y4.cell;have q2:=Bt;have ha:gs.length=pre.length:=by have:=R.len;simpa using this.symm
  have A5:=A4.alloc (.cells #[.slice (some ⟨g,0,none⟩) 64 64] 48);have R5:=R4.chg ((Chg.refl No W4).alloc (.cells #[.slice (some ⟨g,0,none⟩) 64 64] 48)) (fun k e=>e.elim);have y5:=y4.alloc (.cells #[.slice (some ⟨g,0,none⟩) 64 64] 48);have F5:=F4.chg ((Chg.refl No W4).alloc (.cells #[.slice (some ⟨g,0,none⟩) 64 64] 48));have B':(W4.alloc (.cells #[.slice (some ⟨g,0,none⟩) 64 64] 48)).heap.size=W4.heap.size+1:=by simp
  have K':∀j u,[slc g][j]?=some u->(W4.alloc (.cells #[.slice (some ⟨g,0,none⟩) 64 64] 48)).cell? ((⟨W4.heap.size,0,none⟩:Addr).add j)=some u:=cell_one_new _ _ _;have a2:KeepsFrom W3.heap.size W (W4.alloc (.cells #[.slice (some ⟨g,0,none⟩) 64 64] 48)):=a1.trans (((Chg.refl No W4).alloc _).keeps (fun k e=>e.elim) _);have hn:∀k,k<W.heap.size->k≠b->(W4.alloc (.cells #[.slice (some ⟨g,0,none⟩) 64 64] 48)).heap[k]?=W.heap[k]?:=fun k hk hb=>(Below.heap_alloc _ _ _ om).trans (B4.block k hk hb);have G5:Chg (fun k=>k=b\/k=W1.heap.size\/k=W1.heap.size+1) W3 (W4.alloc (.cells #[.slice (some ⟨g,0,none⟩) 64 64] 48)):=(hG.trans' B4.chg (fun k _ e=>AK e)).alloc _;have xs:g ∉ gs:=fun hm=>by have:=R.mem_lt hm;omega
  have ih:v.ownBlock≠some g:=fun e=>by
   rcases R.row.2 with ⟨rfl,_⟩ | ⟨g',_,_,rfl,_,hh,_⟩
   ·cases e
   ·have e1:g'=g:=AR e;have:=(Array.getElem?_eq_some_iff.1 hh).1;omega
  obtain⟨i0,w5,l2,hu,oo⟩:=info_parts Qi;have HA:=BE A5;have HR:=BE R5;have HY:=BE y5;have HF:=BE F5;have HN:=BE K';have HB:Hid (w.heap.size<=(W4.alloc (.cells #[.slice (some ⟨g,0,none⟩) 64 64] 48)).heap.size):=BE om;have oi:Hid (gs.length+1<=maxLen):=BE (by unfold maxLen;omega);have h3:Hid ((gs.length+1)*24<=140737488355328):=BE om;have H5:=BE B'
  gi_wp2_with (gi_at_builtin;refine wpListIn_append_own_at _ rfl _ _ 294 rfl w.heap.size 48 i0 (.slice none 0 0) 1 24 underlying294 w5 l2 hu oo rfl dc v gs.length (gs.map slc) rfl HR.out.row ⟨W4.heap.size,0,none⟩ 1 1 [slc g] rfl rfl HN (by simp[slc,Value.oneCell']) oi h3 HB ?_);intro v' W6 O6 no _ t7;have B':=H5.out;obtain⟨g6,k6,f3⟩:=ownsRow_succ O6;have f7:∀k,v'.ownBlock=some k->k=W1.heap.size\/W3.heap.size<=k:=fun k hk=>by
   rcases t7 with h1 | h1
   ·exact hv k (by rw[<-h1];exact hk)
   ·rw[h1] at hk;have:=AR hk;omega
  have R6:=HR.out.snoc no (by first | exact O6 | (rw[ha] at O6 ⊢;exact O6) | (rw[ha];exact O6)) (by rw[B'];exact t7) HA om xs ih;have y6:Boxed W6 (W1.heap.size+1) 294 v:=HY.out.kept no (fun e=>by have:=hv _ e.symm;omega);have F6:Frm W6 p q b:=HF.out.other (no.block _ HF.out.1.1.lt (fun e=>by have:=hv _ e.symm;omega)) (no.block _ HF.out.1.lt (fun e=>by have:=hv _ e.symm;omega)) (no.block _ HF.out.lt (fun e=>by have:=hv _ e.symm;omega));have o0:∀k,v.ownBlock=some k->∀o,(W4.alloc (.cells #[.slice (some ⟨g,0,none⟩) 64 64] 48)).heap[k]?=some o->o.isCells=true:=fun k hk o ho=>by
   rcases HR.out.row.2 with ⟨rfl,_⟩ | ⟨g,it,g1,rfl,_,hh,_⟩
   ·cases hk
   ·have e:g=k:=AR hk;rw[<-e,hh] at ho;cases ho;rfl
  have a3:KeepsFrom W3.heap.size (W4.alloc (.cells #[.slice (some ⟨g,0,none⟩) 64 64] 48)) W6:=⟨no.size,fun k o _ h0 ho=>(no.block k (Array.getElem?_eq_some_iff.1 h0).1 (fun e=>by rw[o0 k e.symm o h0] at ho;cases ho)).trans h0⟩;have G6:Chg (fun k=>k=b\/k=W1.heap.size\/k=W1.heap.size+1) W3 W6:=G5.grown no (fun k e=>by have:=hv _ e;omega);have f5:∀k,k<W.heap.size->k≠b->v.ownBlock≠some k->W6.heap[k]?=W.heap[k]?:=fun k hk hb hvk=>(no.block k om (fun e=>hvk e.symm)).trans (hn k hk hb);have B3:=no.size;have fin:∀Y,W6.setCell ⟨W1.heap.size+1,0,none⟩ v'=Y->KeepsFrom W3.heap.size W Y/\Kp W2.heap.size (W2.heap.size+1) W Y/\LI w W3 Y p q b W1.heap.size (W1.heap.size+1) MM (pre ++ [⟨i,hi⟩]):=fun Y hY=>by
   have e5:Boxed Y (W1.heap.size+1) 294 v':=(by rw[<-hY];exact y6.set _);have K4:Chg (fun k=>k=W1.heap.size+1) W6 Y:=(by rw[<-hY];exact(Chg.refl (fun k=>k=W1.heap.size+1) W6).setCell (AK rfl) 0 _);have a4:KeepsFrom W3.heap.size W6 Y:=K4.keeps (fun k hk o ho=>by
    subst hk
    rw[show W6.heap[_]?=_ from y6] at ho;cases ho;rfl) _
   refine⟨(a2.trans a3).trans a4,⟨?_,?_⟩,v',gs ++ [g],?_,e5,f7,?_,?_,?_⟩
   ·exact(K4.block _ om om).trans (f5 _ om om (fun e=>by have:=hv _ e;omega))
   ·exact(K4.block _ om om).trans (f5 _ om om (fun e=>by have:=hv _ e;omega))
   ·rw[map_append];refine R6.chg K4 (fun k e=>?_);subst e;refine⟨fun h1=>by have:=f7 _ h1;omega,fun h1=>?_⟩;rcases mem_append.1 h1 with h2 | h2
    ·have:=La _ h2;omega
    ·simp at h2;omega
   ·intro g' hm;rcases mem_append.1 hm with h2 | h2
    ·exact La _ h2
    ·simp at h2;omega
   ·exact F6.other (K4.block _ F6.1.1.lt om) (K4.block _ F6.1.lt om) (K4.block _ F6.lt om)
   ·exact G6.trans' K4 (fun k hk e=>AL (AL e))
  have w1:=BE fin;have c6:=y6.cell;have f6:=y6.frozen;subst f3
  gi_wp2_with fail;exact w1 _ rfl
 case done=>
  rintro D ys W hD rfl ⟨v,gs,R,y3,hv,La,F,hG⟩ hK;have y1:Boxed W (w.heap.size+1) 294 (.slice none 0 0):=(hG.block _ x1.lt om).trans x1;have y2:Boxed W (w.heap.size+1+1) 46 .nilIface:=(hG.block _ x2.lt om).trans x2;have ha:gs.length=4:=by
   have:=R.len;rw[BA,Dm 4 om] at this;exact this.symm
  have ar:=R.row;rw[ha] at ar;obtain⟨g6,k6,f3⟩:=ownsRow_succ ar;subst f3;have h5:=hv g6 rfl;have e1:Boxed ((W.setCell ⟨w.heap.size+1,0,none⟩ (.slice (some ⟨g6,0,none⟩) 4 k6)).setCell ⟨w.heap.size+1+1,0,none⟩ .nilIface) (w.heap.size+1) 294 (.slice (some ⟨g6,0,none⟩) 4 k6):=(y1.set _).other om _;have e2:Boxed ((W.setCell ⟨w.heap.size+1,0,none⟩ (.slice (some ⟨g6,0,none⟩) 4 k6)).setCell ⟨w.heap.size+1+1,0,none⟩ .nilIface) (w.heap.size+1+1) 46 .nilIface:=(y2.other om _).set _;have K4:Chg (fun k=>k=w.heap.size+1\/k=w.heap.size+1+1) W ((W.setCell ⟨w.heap.size+1,0,none⟩ (.slice (some ⟨g6,0,none⟩) 4 k6)).setCell ⟨w.heap.size+1+1,0,none⟩ .nilIface):=((Chg.refl _ W).setCell (AK (AK rfl)) 0 _).setCell (AK (AL rfl)) 0 _;have HR:=BE R;have HF:=BE F;have HG:=BE hG;have c1:=y1.cell;have c2:=y2.cell;have c3:=y3.cell;have f1:=y1.frozen;have f2:=y2.frozen
  gi_wp2_with fail;generalize (W.setCell ⟨w.heap.size+1,0,none⟩ (.slice (some ⟨g6,0,none⟩) 4 k6)).setCell ⟨w.heap.size+1+1,0,none⟩ .nilIface=Y at *
  have f4:Y.heap[D]?=some (.deferred (some [])):=(K4.block D (Array.getElem?_eq_some_iff.1 hK).1 om).trans hK;have kd:=FU (.deferred none) f4 rfl;have F5:=HF.out.other (K4.block _ HF.out.1.1.lt om) (K4.block _ HF.out.1.lt om) (K4.block _ HF.out.lt om);have R5:=HR.out.chg K4 (fun k e=>⟨fun h1=>by have:g6=k:=AR h1;omega,fun h1=>by have:=La _ h1;omega⟩);have G5:Chg (·=b) w Y:=((G3.mono (T:=(·=b)) (fun _ _ e=>e.elim)).trans' HG (fun k hk e=>om)).trans' K4 (fun k hk e=>om);have G6:=G5.grown (grownBy_putObj' Y D (.deferred none)) (fun k e=>AL (by cases e;omega));refine⟨by simp,.inl ⟨_,_,rfl,run_takeDeferred f4,?_⟩⟩;refine⟨_,Wg rfl _ rfl rfl (BV e1 kd) (BV e2 kd),⟨g6,k6,gs,rfl,?_⟩,F5.keep kd,⟨G6.os,G6.tape,G6.output,G6.size,G6.block⟩⟩;have em:(upto 4).map (fun x=>JT (part 58 MM x.1))=(List.range 4).map fun i=>JT (part 58 MM i):=rfl;rw[<-em];exact R5.keeps kd
 case stop=>
  rintro D cc pre W _ _ h _;exact h.elim
end
end Go.Proofs.YtmdpnpjacfedpaaGreat
namespace Go.Proofs.YtmdpnpjacfedpaaGreat
open List
open Go.Proofs.Tryz
open Go.RowKit
section
variable {base n:Nat}(w:Wd)
theorem Wi(x y:Value)(g p:Nat)(hx:x=.pointer (some ⟨g,0,none⟩))(hy:y=.pointer (some ⟨p,0,none⟩)):(Instr.build 239 #[(0,x),(1,y)]).run prog w=.ok (.agg #[x,y,.int .i64 0]) w:=by
 subst hx hy;kernel_rfl
theorem Wj(g:Nat)(w:Wd):Calls prog 115 #[.pointer (some ⟨g,0,none⟩)] w fun e w'=>∃m p q b,e=.returned (.pointer (some ⟨m,0,none⟩))/\(w.heap.size<=m/\w.heap.size<=p/\w.heap.size<=q/\w.heap.size<=b)/\EO w' m g p q b 0/\Chg No w w':=by
 go_enter func115,ntmps115;go_wp2_with fail;refine(TU w).mono ?_;rintro x w1 ⟨p,q,b,rfl,hp,hq,hb,hF,G1⟩;have it:=fun w=>Wi w _ _ g p rfl rfl;have HF:=BE hF;have HG:=BE G1;clear hF G1;go_wp2;go_ret;have G2:Chg No w1 (w1.alloc (.cells #[.pointer (some ⟨g,0,none⟩),.pointer (some ⟨p,0,none⟩),.int .i64 0] 239)):=(Chg.refl _ w1).alloc _;have:=HG.out.size;refine⟨_,p,q,b,rfl,⟨om,hp,hq,hb⟩,⟨?_,HF.out.chg G2⟩,HG.out.trans G2⟩;show (w1.heap.push _)[w1.heap.size]?=_;simp
theorem E6(m g p q b:Nat)(r:Int)(w:Wd)(h:EO w m g p q b r):Calls prog 197 #[.pointer (some ⟨m,0,none⟩)] w fun e w'=>e=.returned (.int .i64 r)/\w'=w:=by
 obtain⟨-,-,c2⟩:=h.cells;have it:=ON m 2 w c2;clear h;go_enter func197,ntmps197;go_wp2_with fail;refine it.mono ?_;rintro x w1 ⟨rfl,rfl⟩;clear it;go_wp2;go_ret;exact⟨rfl,rfl⟩
theorem Qk(m g p q b:Nat)(r:Int)(s:BM)(hs:s.Ok)(w:Wd)(h:EO w m g p q b r)(hC:BI w g s)(k:Int):Calls prog 185 #[.pointer (some ⟨m,0,none⟩),.int .i64 k] w fun e w'=>e=.returned (nerrV (eraseR s k).2)/\BI w' g (eraseR s k).1/\Chg (·=g) w w':=by
 obtain⟨c0,-,-⟩:=h.cells;have it:=Tu g s hs k w hC;clear h hC;go_enter func185,ntmps185;go_wp2_with fail;refine it.mono ?_;rintro x w1 ⟨rfl,C1,G1⟩;clear it;have HC:=BE C1;have HG:=BE G1;clear C1 G1;go_wp2;go_ret;exact⟨rfl,HC.out,HG⟩
theorem Oc{w:Wd}{base':Nat}{e:TypeId}{z:Nat}{v:Value}{xs:List Value}(h:w.ownsRow base e z v n xs)(hb:base'<=base):w.ownsRow base' e z v n xs:=by
 refine⟨h.1,?_⟩;rcases h.2 with h1 | ⟨g,it,no,rfl,hg,r⟩
 ·exact AK h1
 ·exact AL ⟨g,it,no,rfl,AY hb hg,r⟩
theorem DY.nats{p o s c:Int}{l:Bool}(h:DY p o s c l):∃p' o' s' c':Nat,p=p'/\o=o'/\s=s'/\c=c':=by
 obtain⟨⟨h1,-⟩,⟨h2,-⟩,⟨h3,-⟩,h4,-⟩:=h.1;exact⟨p.toNat,o.toNat,s.toNat,c.toNat,om,om,om,om⟩
theorem Ql(m g p q b:Nat)(r:Int)(w:Wd)(h:EO w m g p q b r)(a tp x0 ts tc:Int)(tl:Bool)(ad:Option Addr)(n cap:Nat)(hno:¬ (DY tp x0 ts tc tl/\tp=a/\n=174)) :Calls prog 221 #[.pointer (some ⟨m,0,none⟩),.int .i64 a,.agg #[.int .i64 tp,.int .i64 x0,.int .i64 ts,.int .i64 tc,.bool tl],.slice ad n cap] w fun e w'=>e=.returned (.tuple #[.slice none 0 0,.iface 57 (.int .i64 1)])/\Chg No w w':=by
 have T0:=Tg.new w tp x0 ts tc tl;have G0:Chg No w (w.alloc (.cells #[.int .i64 tp,.int .i64 x0,.int .i64 ts,.int .i64 tc,.bool tl] 130)):=(Chg.refl _ w).alloc _;obtain⟨-,c1,-⟩:=(h.chg G0).cells;obtain⟨v0,v1,v2,v3,v4⟩:=T0.cells;have HT:=BE T0;have HM:=BE (h.chg G0);have HG:=BE G0;have q1:=EI;have q2:=Bt;clear T0 G0 h;by_cases hp:tp=a
 ·by_cases hm:DY tp x0 ts tc tl
  ·have hn:n≠174:=fun e=>hno ⟨hm,hp,e⟩;obtain⟨p',o',s',c',rfl,rfl,rfl,rfl⟩:=hm.nats;have Go:(((p':Nat):Int) != a)=false:=(by simp[hp]);have it:=fun w=>E5 w p' o' s' c' tl hm;clear hno hp;go_enter func221,ntmps221;go_wp2_with (first | refine Bu rfl (.tmp 6) rfl w.heap.size rfl HT ?_);refine(it _).mono ?_;rintro x w1 ⟨g1,rfl,-,-,G1⟩;clear it;have ar:w1.cell? ⟨m,1,none⟩=some (.pointer (some ⟨p,0,none⟩)):=(HM.out.chg G1).cells.2.1;have no:=BE (HG.out.trans G1);clear G1 c1 v0 v1 v2 v3 v4;go_wp2_with fail;refine(Wh p w1 ad n cap hn _).mono ?_;rintro x w2 ⟨rfl,G2⟩;have La:=BE (no.out.trans G2);clear G2 no;go_wp2;go_ret2;exact⟨rfl,La⟩
  ·have Go:(tp != a)=false:=(by simp[hp]);have it:=fun w=>Lr w tp x0 ts tc tl hm;clear hno hp hm;go_enter func221,ntmps221;go_wp2_with (first | refine Bu rfl (.tmp 6) rfl w.heap.size rfl HT ?_);refine(it _).mono ?_;rintro x w1 ⟨rfl,G1⟩;have no:=BE (HG.out.trans G1);clear it G1 c1 v0 v1 v2 v3 v4;go_wp2;go_ret2;exact⟨rfl,no⟩
 ·have Go:(tp != a)=true:=by simp[hp]
  clear hno hp;go_enter func221,ntmps221;go_wp2;go_ret2;exact⟨rfl,HG⟩
theorem Od(m g p q b:Nat)(r:Int)(w:Wd)(h:EO w m g p q b r)(tp x0 ts tc:Nat)(tl:Bool)(hm:DY tp x0 ts tc tl)(c o cap:Nat)(Dt:List Nat)(hD:Dt.length=174)(bD:Bys Dt)(hcb:c≠b)(hcs:c<w.heap.size)(hA:At w c o Dt) :Calls prog 221 #[.pointer (some ⟨m,0,none⟩),.int .i64 (tp:Nat),.agg #[.int .i64 (tp:Nat),.int .i64 (x0:Nat),.int .i64 (ts:Nat),.int .i64 (tc:Nat),.bool tl],.slice (some ⟨c,o,none⟩) 174 cap] w fun e w'=>∃rr k gs,e=.returned (.tuple #[.slice (some ⟨rr,0,none⟩) 4 k,.nilIface])/\FO w' w.heap.size (.slice (some ⟨rr,0,none⟩) 4 k) gs ((List.range 4).map (wordOf Dt (body tp x0 ts tc tl)))/\EO w' m g p q b r/\But b w w':=by
 have T0:=Tg.new w tp x0 ts tc tl;have G0:Chg No w (w.alloc (.cells #[.int .i64 (tp:Nat),.int .i64 (x0:Nat),.int .i64 (ts:Nat),.int .i64 (tc:Nat),.bool tl] 130)):=(Chg.refl _ w).alloc _;obtain⟨-,c1,-⟩:=(h.chg G0).cells;obtain⟨v0,v1,v2,v3,v4⟩:=T0.cells;have HT:=BE T0;have HM:=BE (h.chg G0);have HG:=BE G0;have HA:=BE hA;have q2:=Bt;have h0:(((tp:Nat):Int) != (tp:Nat))=false:=by simp
 have no:=fun w=>E5 w tp x0 ts tc tl hm;have ha:=h.lts.2.2.2;have hc:=G0.size;clear T0 G0 h hA;go_enter func221,ntmps221;go_wp2_with (first | refine Bu rfl (.tmp 6) rfl w.heap.size rfl HT ?_);refine(no _).mono ?_;rintro x w1 ⟨g1,rfl,h6,A1,G1⟩;clear no;have M1:=HM.out.chg G1;have hx:=M1.cells.2.1;have Go:=HG.out.trans G1;have ar:=Go.size;have it:=Jl p q b w1 M1.2 c o cap Dt hD bD hcb om (HA.out.chg Go (fun f=>f)).2 g1 0 50 (body tp x0 ts tc tl) (BS _ _ _ _ _) (Ce _ _ _ _ _) A1.lt A1.at_.2 (msgOf Dt (body tp x0 ts tc tl)) rfl;have hv:=BE M1;have La:=BE Go;clear G1 c1 v0 v1 v2 v3 v4 A1 M1 Go HM HG;go_wp2_with fail;refine it.mono ?_;rintro x w2 ⟨⟨rr,k,gs,rfl,hR⟩,hF,hB⟩;clear it;have HR:=BE hR;have kd:=BE (hv.out.but hF hB);have hk:=BE (La.out.but.trans hB);clear hR hF hB hv La;go_wp2;go_ret2;exact⟨rr,k,gs,rfl,⟨Oc HR.out.row ar,HR.out.len,HR.out.arr,HR.out.nd,HR.out.off,fun g hg=>AY ar (HR.out.low g hg)⟩,kd.out,hk⟩
theorem Wk{q g o c:Nat}(h:q≠g):(Value.slice (some ⟨q,o,none⟩) n c).ownBlock≠some g:=fun e=>h (AR e)
theorem Qm(W:Nat->List Nat)(i:Nat)(hi:i<4):((List.range 4).map W).getD i []=W i:=by
 rw[AQ,List.getElem?_map,List.getElem?_range hi];rfl
theorem FO.cell{W:Wd}{rr k:Nat}{gs:List Nat}{ls:List (List Nat)}(h:FO W base (.slice (some ⟨rr,0,none⟩) 4 k) gs ls)(i:Nat)(hi:i<4):gs.length=4/\4<=k/\W.cell? ⟨rr,i,none⟩=some (slc (gs.getD i 0)):=by
 rcases h.row.2 with ⟨e,_⟩ | ⟨g,Go,no,e,_,hh,hn,_,hz,ht⟩
 ·cases e
 ·injection e with e1 e2 e3;injection e1 with e1;injection e1 with e1;subst e1 e3;have it:gs.length=4:=e2.symm;refine⟨it,by rw[<-it];exact hn,?_⟩;have h2:(no.toList.take (gs.length*1))[i]?=(gs.map slc)[i]?:=by rw[ht]
  rw[List.getElem?_take_of_lt om,Array.getElem?_toList,List.getElem?_map,AU om] at h2;simp only[World.cell?,hh];rw[AQ,AU om];simpa using h2
theorem gT(p o s c p' o' s' c':Int)(l l':Bool):(Op.equalIn 10000 130 (.agg #[.int .i64 p,.int .i64 o,.int .i64 s,.int .i64 c,.bool l]) (.agg #[.int .i64 p',.int .i64 o',.int .i64 s',.int .i64 c',.bool l'])).run prog w=.ok (decide (p=p'/\o=o'/\s=s'/\c=c'/\l=l')) w:=by
 have u3:=underlying3;have a3:=isAgg3;have z3:=sizeOf3;have u2:=underlying2;have a2:=isAgg2;have z2:=sizeOf2;have u4:=underlying4;have a4:=isAgg4;have z4:=sizeOf4;rw[show (10000:Nat)=9999+1 from rfl,run_equalIn_agg w 9999 130 _ _ kr kr];simp only[Program.fieldsOf,underlying130];go_simp;by_cases h1:p=p' <;> by_cases h2:o=o' <;> by_cases h3:s=s' <;> by_cases h4:c=c' <;> by_cases h5:l=l' <;> simp[h1,h2,h3,h4,h5]
theorem bH(p o s c p' o' s' c':Int)(l l':Bool):(binOp .neq 130 (.agg #[.int .i64 p,.int .i64 o,.int .i64 s,.int .i64 c,.bool l]) (.agg #[.int .i64 p',.int .i64 o',.int .i64 s',.int .i64 c',.bool l'])).run prog w=.ok (.bool (!decide (p=p'/\o=o'/\s=s'/\c=c'/\l=l'))) w:=by
 rw[run_neq_struct,gT];rfl
theorem UE(op:BinOp)(x y:Operand)(xs ys:Array Value):(eqGuard op 130 x y (.agg xs) (.agg ys)).run prog w=.ok () w:=run_eqGuard_agg w op 130 x y xs ys kr
theorem ToldR.sound{L:List Nat}{n:Int}{g:Pg}(h:ToldR L n g)(hs:g.sound=true):g.tagged=true/\g.data.length=174/\Bys g.data:=by
 obtain⟨_,B,bd,bc,hB,hr⟩:=h;rcases hr with ⟨_,_,_,_,_,_,_,q7,_⟩ | ⟨_,q1,_,_,_,_,_,D,dd,dc,hD,⟨_,q7,_⟩ | ⟨rfl,_,q8⟩⟩
 ·rw[hs] at q7;cases q7
 ·rw[hs] at q7;cases q7
 ·rw[q8];exact⟨q1,hD.good⟩
def eT (s:BM) (r:Int) (a tp x0 ts tc:Nat) (tl:Bool) (Dt:List Nat) (w':Wd) (m g p q b:Nat) (e:Ending):Prop:=∃s' r' c,ProgR s r a tp x0 ts tc tl Dt s' r' c/\e=.returned (nerrV c)/\EO w' m g p q b r'/\BI w' g s'
theorem Qn(m g p q b:Nat)(r:Int)(s:BM)(hs:s.Ok)(w:Wd)(h:EO w m g p q b r)(hC:BI w g s)(tp x5 ts tc:Nat)(tl:Bool)(_hm:DY tp x5 ts tc tl)(c o cap:Nat)(Dt:List Nat)(hD:Dt.length=174)(bD:Bys Dt)(hcb:c≠b)(hcg:c≠g)(hcm:c≠m)(hA:At w c o Dt)(base rr k:Nat)(gs:List Nat)(hR:FO w base (.slice (some ⟨rr,0,none⟩) 4 k) gs ((List.range 4).map (wordOf Dt (body tp x5 ts tc tl))))(hbase:m<base/\g<base/\b<base) :Calls prog 222 #[.pointer (some ⟨m,0,none⟩),.int .i64 (tp:Nat),.slice (some ⟨rr,0,none⟩) 4 k,.agg #[.int .i64 (tp:Nat),.int .i64 (x5:Nat),.int .i64 (ts:Nat),.int .i64 (tc:Nat),.bool tl],.slice (some ⟨c,o,none⟩) 174 cap] w fun e w'=>eT s r tp tp x5 ts tc tl Dt w' m g p q b e/\Chg (fun k=>k=m\/k=g\/k=b) w w':=by
 have T0:=Tg.new w tp x5 ts tc tl;have G0:Chg No w (w.alloc (.cells #[.int .i64 (tp:Nat),.int .i64 (x5:Nat),.int .i64 (ts:Nat),.int .i64 (tc:Nat),.bool tl] 130)):=(Chg.refl _ w).alloc _;have r1:(w.alloc (.cells #[.int .i64 (tp:Nat),.int .i64 (x5:Nat),.int .i64 (ts:Nat),.int .i64 (tc:Nat),.bool tl] 130)).heap.size=w.heap.size+1:=by simp
 obtain⟨x3,hh,hb,hr⟩:=h.lts;obtain⟨nm,np,nq,nb⟩:=h.mg hC;have W1:=hC.lt;have r0:=h.mb;have hW:∀k,k<4->(wordOf Dt (body tp x5 ts tc tl) k).length=64/\Bys (wordOf Dt (body tp x5 ts tc tl) k):=fun k hk=>⟨EN hD bD (BS _ _ _ _ _) (Ce _ _ _ _ _) k hk,(EK hD bD (BS _ _ _ _ _) (Ce _ _ _ _ _) k hk).2.1⟩;have HT:=BE T0;have HM:=BE (h.chg G0);have HC:=BE (hC.chg G0 (fun f=>f));have HA:=BE (hA.chg G0 (fun f=>f));have HR:=BE (hR.chg G0 (fun _ f=>f.elim));have HG:=BE G0;have HW:=BE hW;have HD:=BE hD;have HS:=BE hs;have h4:=hA.1;have q0:=Bt;generalize oi:wordOf Dt (body tp x5 ts tc tl)=W at *
 have h1:=BE oi;generalize ih:w.alloc (.cells #[.int .i64 (tp:Nat),.int .i64 (x5:Nat),.int .i64 (ts:Nat),.int .i64 (tc:Nat),.bool tl] 130)=w0 at *
 clear T0 G0 h hC hA hR hW hD hs oi;go_enter func222,ntmps222;go_wp2_with fail;clear ih
 go_loopw [18] (fun t18 wr=>∃i:Nat,i<=4/\t18=.int .i64 i/\(wrN s (tp:Nat) W i).2=0/\BI wr g (wrN s (tp:Nat) W i).1/\Chg (·=g) w0 wr) (fun t18 _=>4 - (intOf t18).toNat)
 case atStart=>exact⟨0,om,rfl,rfl,HC.out,Chg.refl _ _⟩
 case round=>
  obtain⟨i,hi,rfl,hz,C1,G1⟩:=hrel;have f7:=HM.out.far G1 nm np nq nb;have f4:=HR.out.chg G1 (fun x hx=>by subst hx;exact⟨fun e=>by rcases HR.out.row.2 with ⟨e',_⟩ | ⟨g',_,_,e',v',_⟩;cases e';injection e' with e1;injection e1 with e1;injection e1 with e1;subst e1;have:=AR e;simp at this;omega,fun e=>by have:=HR.out.low _ e;omega⟩);by_cases t7:i<4
  ·have hj:(i:Int)<4:=om;obtain⟨hn,x4,hv⟩:=f4.cell i t7;have hg:=f4.arr i om;rw[Qm W i t7] at hg;have h7:base<=gs.getD i 0:=f4.low _ (by rw[AQ,AU om];exact getElem_mem _);obtain⟨K',h3⟩:=HW.out i t7;have f2:(wrN s (tp:Nat) W i).1.Ok:=Mh HS _ i (fun k hk=>(HW.out k om).2);have ha:Ca wr (slc (gs.getD i 0)) (W i):=by
    have:=hg.heldFull 64 64 K'.symm;exact this
   obtain⟨c0,-,-⟩:=f7.cells;have no:=Tw g _ f2 (tp:Nat) (i:Nat) (W i) (slc (gs.getD i 0)) wr ha (Wk om) C1;have La:wrN s (tp:Nat) W (i+1)=Bz (wrN s (tp:Nat) W i).1 (tp:Nat) i (W i):=by
    show (if (wrN s (tp:Nat) W i).2=0 then Bz (wrN s (tp:Nat) W i).1 (tp:Nat) i (W i) else wrN s (tp:Nat) W i)=_;rw[AJ hz]
   rw[<-La] at no;have it:=Wa s (tp:Nat) W (i+1);have f5:=BE G1;have L3:=BE f7;have r2:=BE La;unfold slc at hv no;clear f7 f4 hg ha C1 G1 La f2;generalize gs.getD i 0=gi at *
   go_wp2_with fail;refine no.mono ?_;rintro x w2 ⟨rfl,C2,G2⟩;clear no;have h6:=BE C2;have kd:=BE (f5.out.trans G2);have B':=BE (L3.out.far G2 nm np nq nb);clear C2 G2 f5 L3 hv c0;by_cases hc:(wrN s (tp:Nat) W (i+1)).2=0
   ·rw[hc];simp only[nerrV];have h2:=BE hc;clear hc it;go_wp2;exact⟨⟨i+1,om,by go_num,h2.out,h6.out,kd⟩,by simp[intOf];omega⟩
   ·obtain⟨y,hy,q1⟩:=Ig it hc;have HY:=BE hy;rw[hy];have h2:=BE hc;clear hc it hy;go_wp2;go_ret;have e4:wrN s (tp:Nat) W 4=wrN s (tp:Nat) W (i+1):=by
     have:=Wb h2 (4 - (i+1))
     rwa [show i+1+(4 - (i+1))=4 from om] at this
    refine⟨⟨(wrN s (tp:Nat) W (i+1)).1,r,(wrN s (tp:Nat) W (i+1)).2,AK ?_,by rw[HY.out];rfl,B'.out,h6⟩,?_⟩
    ·rw[h1.out,e4];exact⟨h2.out,rfl,rfl,rfl⟩
    ·exact(HG.out.mono (fun _ _ f=>f.elim)).trans' kd (fun k _ e=>AL (AK e))
  ·obtain rfl:i=4:=om
   have f2:(wrN s (tp:Nat) W 4).1.Ok:=Mh HS _ 4 (fun k hk=>(HW.out k om).2);have oo:=G1.size;have no:=Lv m g p q b r _ f2 wr f7 C1 (tp:Nat);have C4:=BE (HT.out.chg G1 om);have K3:=BE (HA.out.chg G1 (fun e=>hcg e));have f5:=BE G1;have HZ:=BE hz;clear f7 f4 C1 G1 f2 hz;go_wp2_with fail;refine no.mono ?_;rintro x w2 ⟨s',r',X,e,v,rfl,x0,hO,M2,C2,G2⟩;clear no;have o0:=BE (C4.out.chg G2 om);have oa:=BE (K3.out.chg G2 om);have B':=BE M2;have h6:=BE C2;have kd:=BE ((f5.out.mono (T:=fun k=>k=m\/k=g\/k=b) (fun k _ e=>AL (AK e))).trans G2);have f8:=BE x0;have HO:=BE hO;clear C4 K3 f5 M2 C2 G2 hO;unfold Zo;have it:nIsCode e:=(by rw[x0.2.1];exact KT _ _);have hm:∀k,v.ownBlock=some k->wr.heap.size<=k/\k<w2.heap.size:=fun k hk=>HO.out.block hk;have h8:=kd.out.size;have h5:=oo;have pg:=UE;by_cases hc:e=0
   ·subst hc;simp only[nerrV];obtain⟨-,ho,C5⟩:=x0;have ar:ToldR (readV (wrN s (tp:Nat) W 4).1 (tp:Nat)).2.1 (tp:Nat) X:=by
     rcases C5 with ⟨x,_⟩ | ⟨_,_,x⟩
     ·exact absurd rfl x
     ·exact x
    have f3:=BE ar;clear ho C5 it ar;go_wp2_with (refine wpList_store_pg rfl (.tmp 14) (.tmp 39) rfl w2.heap.size rfl rfl HO.out.one (Pb.new w2 false 0 0 0 0 false false (.slice none 0 0) 0) ?_);intro w3 P3 G3;have Go:Chg No w2 w3:=((Chg.refl No w2).alloc _).trans' G3 (fun k hk e=>om);have hu:=BE (o0.out.chg Go (fun f=>f));have w1:=BE (B'.out.chg Go);have f1:=BE (h6.out.chg Go (fun f=>f));have rs:=BE (oa.out.chg Go (fun f=>f));have p2:=BE (kd.out.trans' Go (fun _ _ f=>f.elim));have o1:=BE (HO.out.chg Go (fun _ _ _ f=>f));obtain⟨k0,k1,k2,k3,k4,k5,k6,k7,k8⟩:=P3.cells;obtain⟨v0,v1,v2,v3,v4⟩:=hu.out.cells;clear G3 Go P3 o0 B' h6 oa kd HO;obtain⟨xt,xp,xo,xs,xc,xl,l2,xd,xg⟩:=X;simp only at k0 k1 k2 k3 k4 k5 k6 k7 k8 o1 ⊢;cases l2
    ·go_wp2;go_ret;refine⟨⟨s',r',8,AL ?_,rfl,w1.out,f1⟩,(HG.out.mono (fun _ _ f=>f.elim)).trans p2⟩;rw[h1.out];exact⟨HZ.out,_,0,f8.out,AL (AL ⟨rfl,fun hi=>(by have:=hi.2.2.1;cases this),rfl⟩)⟩
    ·have qt:=fun w=>bH w xp xo xs xc tp x5 ts tc xl tl;obtain⟨C3,x1,w5⟩:=f3.out.sound rfl;simp only at C3 x1 w5;by_cases ht:((xp:Int)=tp/\(xo:Int)=x5/\(xs:Int)=ts/\(xc:Int)=tc/\xl=tl)
     ·rw[AO ht] at qt;obtain⟨g',qa,rfl,v',x2,-,o2,-⟩:=o1.out.lies om;have h0:=Ic w3 g' 0 xd.length qa c o 174 cap xd Dt rfl HD.out.symm w5 bD ⟨x2,fun i hi=>by rw[AW];exact o2 i hi⟩ rs;have f6:=BE ht;have be:=BE x1;clear ht o2 o1 x1;rw[be.out] at h0 k7 ⊢;by_cases f9:xd=Dt
      ·rw[AO f9] at h0;go_wp2_with fail;refine h0.mono ?_;rintro x w4 ⟨rfl,rfl⟩;clear h0;go_wp2;go_ret;refine⟨⟨s',r',0,AL ?_,rfl,w1.out,f1⟩,(HG.out.mono (fun _ _ f=>f.elim)).trans p2⟩;rw[h1.out];exact⟨HZ.out,_,0,f8.out,AL (AK ⟨rfl,⟨C3,⟨by show xp=tp;have:=f6.out.1;omega,by show xo=x5;have:=f6.out.2.1;omega,by show xs=ts;have:=f6.out.2.2.1;omega,by show xc=tc;have:=f6.out.2.2.2.1;omega,f6.out.2.2.2.2⟩,rfl,f9⟩,rfl⟩)⟩
      ·rw[AN f9] at h0;go_wp2_with fail;refine h0.mono ?_;rintro x w4 ⟨rfl,rfl⟩;clear h0;go_wp2;go_ret;refine⟨⟨s',r',8,AL ?_,rfl,w1.out,f1⟩,(HG.out.mono (fun _ _ f=>f.elim)).trans p2⟩;rw[h1.out];exact⟨HZ.out,_,0,f8.out,AL (AL ⟨rfl,fun hi=>f9 hi.2.2.2,rfl⟩)⟩
     ·rw[AN ht] at qt;go_wp2;go_ret;refine⟨⟨s',r',8,AL ?_,rfl,w1.out,f1⟩,(HG.out.mono (fun _ _ f=>f.elim)).trans p2⟩;rw[h1.out];exact⟨HZ.out,_,0,f8.out,AL (AL ⟨rfl,fun hi=>ht ⟨by have:=hi.2.1.1;simp only at this;omega,by have:=hi.2.1.2.1;simp only at this;omega,by have:=hi.2.1.2.2.1;simp only at this;omega,by have:=hi.2.1.2.2.2.1;simp only at this;omega,hi.2.1.2.2.2.2⟩,rfl⟩)⟩
   ·obtain⟨y,hy,q1⟩:=Ig it hc;have HY:=BE hy;rw[hy];have h2:=BE hc;clear hc it hy;go_wp2_with (refine wpList_store_pg rfl (.tmp 14) (.tmp 39) rfl w2.heap.size rfl rfl HO.out.one (Pb.new w2 false 0 0 0 0 false false (.slice none 0 0) 0) ?_);intro w3 P3 G3;have Go:Chg No w2 w3:=((Chg.refl No w2).alloc _).trans' G3 (fun k hk e=>om);have w1:=BE (B'.out.chg Go);have f1:=BE (h6.out.chg Go (fun f=>f));have p2:=BE (kd.out.trans' Go (fun _ _ f=>f.elim));clear G3 Go P3 o0 B' h6 oa kd HO;go_wp2;go_ret;refine⟨⟨s',r',e,AL ?_,by rw[HY.out];rfl,w1.out,f1⟩,(HG.out.mono (fun _ _ f=>f.elim)).trans p2⟩;rw[h1.out];exact⟨HZ.out,_,e,f8.out,AK ⟨h2.out,rfl⟩⟩
theorem Oe(m g p q b:Nat)(r:Int)(w:Wd)(h:EO w m g p q b r)(a tp x0 ts tc:Int)(tl:Bool)(ad:Option Addr)(n cap:Nat)(hno:¬ (DY tp x0 ts tc tl/\tp=a/\n=174)) :Calls prog 198 #[.pointer (some ⟨m,0,none⟩),.int .i64 a,.agg #[.int .i64 tp,.int .i64 x0,.int .i64 ts,.int .i64 tc,.bool tl],.slice ad n cap] w fun e w'=>e=.returned (.iface 57 (.int .i64 1))/\Chg No w w':=by
 have T0:=Tg.new w tp x0 ts tc tl;have G0:Chg No w (w.alloc (.cells #[.int .i64 tp,.int .i64 x0,.int .i64 ts,.int .i64 tc,.bool tl] 130)):=(Chg.refl _ w).alloc _;have it:=Ql m g p q b r _ (h.chg G0) a tp x0 ts tc tl ad n cap hno;have HT:=BE T0;have HG:=BE G0;have q1:=EI;clear T0 G0 h hno;go_enter func198,ntmps198;go_wp2_with (first | refine Bu rfl (.tmp 6) rfl w.heap.size rfl HT ?_);refine it.mono ?_;rintro x w1 ⟨rfl,G1⟩;have no:=BE (HG.out.trans G1);clear it G1;go_wp2;go_ret;exact⟨rfl,no⟩
theorem Mk(m g p q b:Nat)(r:Int)(s:BM)(hs:s.Ok)(w:Wd)(h:EO w m g p q b r)(hC:BI w g s)(tp x0 ts tc:Nat)(tl:Bool)(hm:DY tp x0 ts tc tl)(c o cap:Nat)(Dt:List Nat)(hD:Dt.length=174)(bD:Bys Dt)(hcb:c≠b)(hcg:c≠g)(hcm:c≠m)(hA:At w c o Dt) :Calls prog 198 #[.pointer (some ⟨m,0,none⟩),.int .i64 (tp:Nat),.agg #[.int .i64 (tp:Nat),.int .i64 (x0:Nat),.int .i64 (ts:Nat),.int .i64 (tc:Nat),.bool tl],.slice (some ⟨c,o,none⟩) 174 cap] w fun e w'=>eT s r tp tp x0 ts tc tl Dt w' m g p q b e/\Chg (fun k=>k=m\/k=g\/k=b) w w':=by
 have T0:=Tg.new w tp x0 ts tc tl;have G0:Chg No w (w.alloc (.cells #[.int .i64 (tp:Nat),.int .i64 (x0:Nat),.int .i64 (ts:Nat),.int .i64 (tc:Nat),.bool tl] 130)):=(Chg.refl _ w).alloc _;have ar:=G0.size;have it:=Od m g p q b r _ (h.chg G0) tp x0 ts tc tl hm c o cap Dt hD bD hcb (Aj hA.1 ar) (hA.chg G0 (fun f=>f));obtain⟨h0,hc,h6,hg⟩:=h.lts;obtain⟨nm,np,nq,nb⟩:=h.mg hC;have ha:=hC.lt;have hx:=hA.1;have HT:=BE T0;have HG:=BE G0;have HC:=BE hC;have HA:=BE hA;have HD:=BE hD;have HS:=BE hs;have q1:=Bt;clear T0 G0 h hC hA hD hs;go_enter func198,ntmps198;go_wp2_with (first | refine Bu rfl (.tmp 6) rfl w.heap.size rfl HT ?_);refine it.mono ?_;rintro x w1 ⟨rr,k,gs,rfl,hR,M1,B1⟩;clear it;have C1:=(HC.out.chg HG (fun f=>f)).chg B1.chg (fun e=>nb e.symm);have A1:=(HA.out.chg HG (fun f=>f)).chg B1.chg hcb;have no:=BE (HT.out.chg B1.chg om);have G1:Chg (fun k=>k=m\/k=g\/k=b) w w1:=(HG.out.mono (T:=fun k=>k=m\/k=g\/k=b) (fun _ _ f=>f.elim)).trans' B1.chg (fun k _ e=>AL (AL e));have it:=Qn m g p q b r s HS w1 M1 C1 tp x0 ts tc tl hm c o cap Dt HD bD hcb hcg hcm A1 _ rr k gs hR om;have hv:=BE G1;clear hR M1 B1 C1 A1 HC HA HG G1;go_wp2_with (first | refine Bu rfl (.tmp 6) rfl w.heap.size rfl no ?_);refine it.mono ?_;rintro x w2 ⟨⟨s',r',e,hP,rfl,M2,C2⟩,G2⟩;have HP:=BE hP;have La:=BE M2;have hk:=BE C2;have kd:=BE (hv.out.trans G2);clear it hP M2 C2 G2;go_wp2;go_ret;exact⟨⟨s',r',e,HP.out,rfl,La.out,hk⟩,kd⟩
end
theorem Chg.drewN{S:Nat->Prop}{u w:Wd}(h:Chg S u w)(n:Nat):Chg S u (w.drewN n):=by
 induction n with
 | zero=>exact h
 | succ n ih=>exact ih.drew
def i6 (z:Int):Value:=.int .i64 z
def upd {α:Type} (f:Nat->α) (i:Nat) (z:α):Nat->α:=fun j=>if j=i then z else f j
def ints (f:Nat->Int) (n:Nat):List Value:=(List.range n).map fun i=>i6 (f i)
theorem BF(f:Nat->Int)(n:Nat):(ints f n).length=n:=by simp[ints]
theorem BU(f:Nat->Int)(n i:Nat)(h:i<n):(ints f n)[i]?=some (i6 (f i)):=by simp[ints,h]
theorem Fd(f:Nat->Int)(n i:Nat)(z:Int):(ints f n).set i (i6 z)=ints (upd f i z) n:=by
 apply ext_getElem?;intro j;by_cases hj:j<n
 ·by_cases e:j=i
  ·subst e;rw[List.getElem?_set_self (by simpa[BF] using hj),BU _ _ _ hj];simp[upd]
  ·rw[List.getElem?_set_ne om,BU _ _ _ hj,BU _ _ _ hj];simp[upd,e]
 ·rw[Ae (by simp[BF];omega),Ae (by simp[BF];omega)]
theorem Cf(f:Nat->Int)(n:Nat):∀v ∈ ints f n,v.oneCell'=true:=by
 intro v hv;obtain⟨_,_,rfl⟩:=mem_map.1 hv;rfl
theorem Df{f g:Nat->Int}{n:Nat}(h:∀i,i<n->f i=g i):ints f n=ints g n:=by
 apply map_congr_left;intro i hi;rw[h i (mem_range.1 hi)]
def IB (w:Wd) (b:Nat) (t:TypeId) (n:Nat) (F:Nat->Int):Prop:=w.heap[b]?=some (.cells (ints F n).toArray t)
section
variable {w w':Wd}{b n:Nat}{t:TypeId}{F:Nat->Int}
theorem IB.lt(h:IB w b t n F):b<w.heap.size:=(Array.getElem?_eq_some_iff.1 (show w.heap[b]?=some _ from h)).1
theorem IB.chg{S:Nat->Prop}(h:IB w b t n F)(hc:Chg S w w')(hb:¬ S b):IB w' b t n F:=(hc.block b h.lt hb).trans h
theorem IB.new(w:Wd)(t:TypeId)(n:Nat)(F:Nat->Int):IB (w.alloc (.cells (ints F n).toArray t)) w.heap.size t n F:=by
 show (w.heap.push _)[w.heap.size]?=_;simp
theorem IB.set(h:IB w b t n F)(i:Nat)(z:Int):IB (w.setCell ⟨b,i,none⟩ (.int .i64 z)) b t n (upd F i z):=by
 have h':w.heap[b]?=some _:=h;show (w.setCell ⟨b,i,none⟩ _).heap[b]?=_;have e2:(ints F n).toArray.setIfInBounds i (.int .i64 z)=(ints (upd F i z) n).toArray:=by
  apply Array.ext';have:=Fd F n i z;simpa[i6] using this
 simp[World.setCell,Ai,h',e2]
theorem IB.cell(h:IB w b t n F)(i:Nat)(hi:i<n):w.cell? ⟨b,i,none⟩=some (.int .i64 (F i))/\w.frozen? ⟨b,i,none⟩=false:=by
 have h':w.heap[b]?=some _:=h;refine⟨?_,by simp[World.frozen?,h']⟩;simp only[World.cell?,h'];simpa[i6] using BU F n i hi
theorem IB.congr{G:Nat->Int}(h:IB w b t n F)(e:∀i,i<n->F i=G i):IB w b t n G:=by
 unfold IB at *
 rw[h,Df e]
theorem IB.row(h:IB w b t n F)(G:Nat->Int):IB (w.setRow b (ints G n).toArray) b t n G:=setRow_heap w b _ _ t _ h
end
def bools (f:Nat->Bool) (n:Nat):List Value:=(List.range n).map fun i=>.bool (f i)
theorem BP(f:Nat->Bool)(n:Nat):(bools f n).length=n:=by simp[bools]
theorem Do(f:Nat->Bool)(n i:Nat)(h:i<n):(bools f n)[i]?=some (.bool (f i)):=by simp[bools,h]
theorem Lw(f:Nat->Bool)(n i:Nat)(z:Bool):(bools f n).set i (.bool z)=bools (upd f i z) n:=by
 apply ext_getElem?;intro j;by_cases hj:j<n
 ·by_cases e:j=i
  ·subst e;rw[List.getElem?_set_self (by simpa[BP] using hj),Do _ _ _ hj];simp[upd]
  ·rw[List.getElem?_set_ne om,Do _ _ _ hj,Do _ _ _ hj];simp[upd,e]
 ·rw[Ae (by simp[BP];omega),Ae (by simp[BP];omega)]
theorem UF(f:Nat->Bool)(n:Nat):∀v ∈ bools f n,v.oneCell'=true:=by
 intro v hv;obtain⟨_,_,rfl⟩:=mem_map.1 hv;rfl
theorem Of{f g:Nat->Bool}{n:Nat}(h:∀i,i<n->f i=g i):bools f n=bools g n:=by
 apply map_congr_left;intro i hi;rw[h i (mem_range.1 hi)]
def BB (w:Wd) (b:Nat) (t:TypeId) (n:Nat) (F:Nat->Bool):Prop:=w.heap[b]?=some (.cells (bools F n).toArray t)
section
variable {w w':Wd}{b n:Nat}{t:TypeId}{F:Nat->Bool}
theorem BB.set(h:BB w b t n F)(i:Nat)(z:Bool):BB (w.setCell ⟨b,i,none⟩ (.bool z)) b t n (upd F i z):=by
 have h':w.heap[b]?=some _:=h;show (w.setCell ⟨b,i,none⟩ _).heap[b]?=_;have e2:(bools F n).toArray.setIfInBounds i (.bool z)=(bools (upd F i z) n).toArray:=by
  apply Array.ext';have:=Lw F n i z;simpa using this
 simp[World.setCell,Ai,h',e2]
theorem BB.cell(h:BB w b t n F)(i:Nat)(hi:i<n):w.cell? ⟨b,i,none⟩=some (.bool (F i))/\w.frozen? ⟨b,i,none⟩=false:=by
 have h':w.heap[b]?=some _:=h;refine⟨?_,by simp[World.frozen?,h']⟩;simp only[World.cell?,h'];simpa using Do F n i hi
end
theorem Dx(w:Wd)(g:Nat)(c:Array Value):Chg (·=g) w (w.setRow g c):=⟨rfl,rfl,rfl,by simp,fun k _ hk=>setRow_other _ _ _ _ hk⟩
theorem CV{ops:Array Oper}{rest:List Oper}{o:Oper}{a:Act}{w:Wd}{Q:Exit->Act->World->Prop}(hgd:o.guard=none)(t:TypeId)(ho:o.op=.alloc t)(N:Nat)(hN:w.heap.size=N){A:Array Value}(hz:∀w,(zeroValue t).run prog w=.ok (.agg A) w)(h:∀w',w'.heap[N]?=some (.cells A t)->Chg No w w'->w'.heap.size=N+1->wpList prog ops Q rest (a.put o.dst (.pointer (some ⟨N,0,none⟩))) w'):wpList prog ops Q (o :: rest) a w:=by
 refine wpList_plain hgd fun K hK=>?_;unfold Oper.wp;simp[execOp,ho,Instr.alloc,hz,newVar,Value.cells,newRow];rw[hN];refine hK _ _ (h _ ?_ ((Chg.refl _ w).alloc _) (by simp[hN]));rw[<-hN];show (w.heap.push _)[w.heap.size]?=_;simp
theorem IB.drewN{w:Wd}{b n:Nat}{t:TypeId}{F:Nat->Int}(h:IB w b t n F)(m:Nat):IB (w.drewN m) b t n F:=h
theorem Hv(w:Wd):(binOp .eql 46 .nilIface .nilIface).run prog w=.ok (.bool true) w:=kr
theorem Ct(w:Wd):(binOp .neq 46 .nilIface .nilIface).run prog w=.ok (.bool false) w:=kr
theorem Ih(w:Wd)(n:Int):(binOp .eql 46 (.iface 57 (.int .i64 n)) .nilIface).run prog w=.ok (.bool false) w:=kr
theorem Cu(w:Wd)(n:Int):(binOp .neq 46 (.iface 57 (.int .i64 n)) .nilIface).run prog w=.ok (.bool true) w:=kr
theorem KX(c:Nat):nerrV c=errV c:=by
 cases c with
 | zero=>rfl
 | succ n=>unfold errV;rw[AI om];rfl
theorem Ii(c:Nat)(w:Wd):(binOp .eql 46 (errV c) .nilIface).run prog w=.ok (.bool (decide (c=0))) w:=by
 unfold errV;by_cases h:c=0
 ·rw[AJ h,AO h];exact Hv w
 ·rw[AI h,AN h];exact Ih w _
theorem CA(c:Nat)(w:Wd):(binOp .neq 46 (errV c) .nilIface).run prog w=.ok (.bool (!decide (c=0))) w:=by
 unfold errV;by_cases h:c=0
 ·rw[AJ h,AO h];exact Ct w
 ·rw[AI h,AN h];exact Cu w _
theorem Dg(c:Nat)(x:Operand)(w:Wd):(eqGuard .eql 46 x (.const .nilIface) (errV c) .nilIface).run prog w=.ok () w:=by
 unfold errV;by_cases h:c=0
 ·rw[AJ h];cases x <;> rfl
 ·rw[AI h];rfl
theorem BQ(c:Nat)(x:Operand)(w:Wd):(eqGuard .neq 46 x (.const .nilIface) (errV c) .nilIface).run prog w=.ok () w:=by
 unfold errV;by_cases h:c=0
 ·rw[AJ h];cases x <;> rfl
 ·rw[AI h];rfl
end Go.Proofs.YtmdpnpjacfedpaaGreat
namespace Go.Proofs.YtmdpnpjacfedpaaGreat.AA
open List
open Go.Proofs.Tryz
open Go.RowKit
section
variable {w w' wr:Wd}{b g n k:Nat}{l:List Nat}{ops:Array Oper}{rest:List Oper}{o:Oper}{a:Act}{Q:Exit->Act->World->Prop}{e:Value}{f:Nat->Bool}{z:Int}{fn:Func}{q:Tmp}{ps:List (Nat × Nat)}
theorem gU(h:Bys l):bts (le l) l.length=l:=by
 induction l with
 | nil=>simp[bts]
 | cons x r ih=>
  have h2:=h x mem_cons_self;rw[An,N3,le];have e1:(x+256*le r) % 256=x:=om
  have e2:(x+256*le r) / 256=le r:=om
  rw[e1,e2,ih (fun n hn=>h n (mem_cons_of_mem _ hn))]
theorem Wl(w:Wd)(v n:Nat)(_hv:v<18446744073709551616)(h1:1<=n)(h8:n<=8)(hr:¬ v<256 ^ n) :Calls prog 223 #[.int .u64 (v:Int),.int .i64 (n:Int)] w fun e w'=>e=.returned (.tuple #[.slice none 0 0,.iface 57 (.int .i64 2)])/\w'=w:=by
 have no:¬ (n:Int)<1:=om
 have it:¬ (8:Int)<(n:Int):=om
 have Go:(0:Int)<=8*(n:Int):=om
 have hb:((v:Int) / 2 ^ (8*n) != 0)=true:=by
  rw[MW,bne_iff_ne];have:0<v / 256 ^ n:=Nat.div_pos om (Nat.pow_pos dc);omega
 go_enter func223,ntmps223;go_wp2;go_ret2;exact⟨rfl,rfl⟩
theorem Hw(w:Wd):(binOp .neq 46 (.iface 57 (.int .i64 2)) .nilIface).run prog w=.ok (.bool true) w:=kr
structure Bn where
 F:Nat->Int
 N:Int
 B:Nat->Bool
 C:Int
 R:Nat->Int
 S:Nat->Int
def ckL (c:Bn):List Value:=ints c.F 24 ++ ([i6 c.N] ++ (bools c.B 12 ++ ([i6 c.C] ++ (ints c.R 12 ++ ints c.S 12))))
def ckA (c:Bn):Array Value:=(ckL c).toArray
theorem Gm(c:Bn):(ckL c).length=62:=by simp[ckL,BF,BP]
theorem DC(c:Bn):(ckA c).size=62:=by simp[ckA,Gm]
theorem bI(c:Bn):∀v ∈ ckL c,v.oneCell'=true:=by
 intro v hv;unfold ckL at hv;simp only[Am,mem_singleton] at hv;rcases hv with h | h | h | h | h | h
 ·exact Cf _ _ v h
 ·subst h;rfl
 ·exact UF _ _ v h
 ·subst h;rfl
 ·exact Cf _ _ v h
 ·exact Cf _ _ v h
theorem R7(c:Bn):(ckA c).all (·.oneCell')=true:=all_oneCell_toArray (bI c)
theorem El{c d:Bn}(hF:∀i,i<24->c.F i=d.F i)(hN:c.N=d.N)(hB:∀i,i<12->c.B i=d.B i)(hC:c.C=d.C)(hR:∀i,i<12->c.R i=d.R i)(hS:∀i,i<12->c.S i=d.S i):ckA c=ckA d:=by
 unfold ckA ckL;rw[Df hF,hN,Of hB,hC,Df hR,Df hS]
def Ck (w:Wd) (b:Nat) (c:Bn):Prop:=w.heap[b]?=some (.cells (ckA c) 55)
theorem Ck.new(w:Wd)(c:Bn):Ck (w.alloc (.cells (ckA c) 55)) w.heap.size c:=by
 show (w.heap.push _)[w.heap.size]?=_;simp
theorem Ck.lt{c:Bn}(h:Ck w b c):b<w.heap.size:=(Array.getElem?_eq_some_iff.1 (show w.heap[b]?=some _ from h)).1
theorem Ck.other{c:Bn}(h:Ck w b c)(e:w'.heap[b]?=w.heap[b]?):Ck w' b c:=e.trans h
theorem Ck.chg{S:Nat->Prop}{c:Bn}(h:Ck w b c)(hc:Chg S w w')(hb:¬ S b):Ck w' b c:=(hc.block b h.lt hb).trans h
theorem Ck.alloc{c:Bn}(h:Ck w b c)(x:Obj):Ck (w.alloc x) b c:=(Below.heap_alloc _ _ _ h.lt).trans h
theorem Ck.setOther{c:Bn}(h:Ck w b c)(hg:k≠b)(i:Nat)(v:Value):Ck (w.setCell ⟨k,i,none⟩ v) b c:=
 h.other (Below.heap_setCell _ _ _ _ (by simp;omega))
theorem Ck.frozen{c:Bn}(h:Ck w b c)(i:Nat):w.frozen? ⟨b,i,none⟩=false:=by
 have h':w.heap[b]?=some _:=h;simp[World.frozen?,h']
theorem Ck.cell{c:Bn}(h:Ck w b c)(i:Nat){v:Value}(hv:(ckL c)[i]?=some v):w.cell? ⟨b,i,none⟩=some v:=by
 have h':w.heap[b]?=some _:=h;simp only[World.cell?,h',ckA];simpa using hv
theorem eU(c:Bn)(i:Nat)(hi:i<24):(ckL c)[i]?=some (i6 (c.F i)):=by
 rw[ckL,Af (by rw[BF];omega),BU _ _ _ hi]
theorem kq(c:Bn):(ckL c)[24]?=some (i6 c.N):=by
 rw[ckL,Aa (by rw[BF];omega),BF];rfl
theorem eV(c:Bn)(i:Nat)(hi:i<12):(ckL c)[25+i]?=some (.bool (c.B i)):=by
 rw[ckL,Aa (by rw[BF];omega),BF,Aa (by simp;omega),show 25+i - 24 - [i6 c.N].length=i by simp;omega,Af (by rw[BP];omega),Do _ _ _ hi]
theorem kt(c:Bn):(ckL c)[37]?=some (i6 c.C):=by
 rw[ckL,Aa (by rw[BF];omega),BF,Aa (by simp),Aa (by simp[BP]),BP];rfl
theorem Og(c:Bn)(i:Nat):(ckL c)[38+i]?=(ints c.R 12 ++ ints c.S 12)[i]?:=by
 rw[ckL,Aa (by rw[BF];omega),BF,Aa (by simp;omega),Aa (by simp[BP];omega),BP,Aa (by simp;omega)];congr 1;simp;omega
theorem eW(c:Bn)(i:Nat)(hi:i<12):(ckL c)[38+i]?=some (i6 (c.R i)):=by
 rw[Og,Af (by rw[BF];omega),BU _ _ _ hi]
theorem eX(c:Bn)(i:Nat)(hi:i<12):(ckL c)[50+i]?=some (i6 (c.S i)):=by
 rw[show 50+i=38+(12+i) by omega,Og,Aa (by rw[BF];omega),BF,show 12+i - 12=i by omega,BU _ _ _ hi]
theorem Ck.F{c:Bn}(h:Ck w b c)(i:Nat)(hi:i<24):w.cell? ⟨b,i,none⟩=some (.int .i64 (c.F i)):=h.cell i (eU c i hi)
theorem Ck.N{c:Bn}(h:Ck w b c):w.cell? ⟨b,24,none⟩=some (.int .i64 c.N):=h.cell 24 (kq c)
theorem Ck.B{c:Bn}(h:Ck w b c)(i:Nat)(hi:i<12):w.cell? ⟨b,25+i,none⟩=some (.bool (c.B i)):=h.cell (25+i) (eV c i hi)
theorem Ck.C{c:Bn}(h:Ck w b c):w.cell? ⟨b,37,none⟩=some (.int .i64 c.C):=h.cell 37 (kt c)
theorem Ck.R{c:Bn}(h:Ck w b c)(i:Nat)(hi:i<12):w.cell? ⟨b,38+i,none⟩=some (.int .i64 (c.R i)):=h.cell (38+i) (eW c i hi)
theorem Ck.S{c:Bn}(h:Ck w b c)(i:Nat)(hi:i<12):w.cell? ⟨b,50+i,none⟩=some (.int .i64 (c.S i)):=h.cell (50+i) (eX c i hi)
theorem Ck.set{c d:Bn}(h:Ck w b c)(i:Nat)(v:Value)(e:(ckL c).set i v=ckL d):Ck (w.setCell ⟨b,i,none⟩ v) b d:=by
 have h':w.heap[b]?=some _:=h;show (w.setCell ⟨b,i,none⟩ v).heap[b]?=_;have e2:(ckA c).setIfInBounds i v=ckA d:=by
  apply Array.ext';simp[ckA,e]
 simp[World.setCell,Ai,h',e2]
theorem Ck.setF{c:Bn}(h:Ck w b c)(i:Nat)(hi:i<24)(z:Int):Ck (w.setCell ⟨b,i,none⟩ (.int .i64 z)) b { c with F:=upd c.F i z }:=
 h.set i _ (by show (ckL c).set i (i6 z)=_;rw[ckL,set_append_left _ _ (by rw[BF];omega),Fd];rfl)
theorem Ck.setN{c:Bn}(h:Ck w b c)(z:Int):Ck (w.setCell ⟨b,24,none⟩ (.int .i64 z)) b { c with N:=z }:=
 h.set 24 _ (by rw[ckL,Ap _ _ (by rw[BF];omega),BF];rfl)
theorem Ck.setB{c:Bn}(h:Ck w b c)(i:Nat)(hi:i<12)(z:Bool):Ck (w.setCell ⟨b,25+i,none⟩ (.bool z)) b { c with B:=upd c.B i z }:=
 h.set (25+i) _ (by rw[ckL,Ap _ _ (by rw[BF];omega),BF,Ap _ _ (by simp;omega),show 25+i - 24 - [i6 c.N].length=i by simp;omega,set_append_left _ _ (by rw[BP];omega),Lw];rfl)
theorem Ck.setC{c:Bn}(h:Ck w b c)(z:Int):Ck (w.setCell ⟨b,37,none⟩ (.int .i64 z)) b { c with C:=z }:=
 h.set 37 _ (by rw[ckL,Ap _ _ (by rw[BF];omega),BF,Ap _ _ (by simp),Ap _ _ (by simp[BP]),BP];rfl)
theorem Ck.setR{c:Bn}(h:Ck w b c)(i:Nat)(hi:i<12)(z:Int):Ck (w.setCell ⟨b,38+i,none⟩ (.int .i64 z)) b { c with R:=upd c.R i z }:=
 h.set (38+i) _ (by show (ckL c).set (38+i) (i6 z)=_;rw[ckL,Ap _ _ (by rw[BF];omega),BF,Ap _ _ (by simp;omega),Ap _ _ (by simp[BP];omega),BP,Ap _ _ (by simp;omega),show 38+i - 24 - [i6 c.N].length - 12 - [i6 c.C].length=i by simp;omega,set_append_left _ _ (by rw[BF];omega),Fd];rfl)
theorem Ck.setS{c:Bn}(h:Ck w b c)(i:Nat)(hi:i<12)(z:Int):Ck (w.setCell ⟨b,50+i,none⟩ (.int .i64 z)) b { c with S:=upd c.S i z }:=
 h.set (50+i) _ (by show (ckL c).set (50+i) (i6 z)=_;rw[ckL,Ap _ _ (by rw[BF];omega),BF,Ap _ _ (by simp;omega),Ap _ _ (by simp[BP];omega),BP,Ap _ _ (by simp;omega),Ap _ _ (by simp[BF];omega),BF,show 50+i - 24 - [i6 c.N].length - 12 - [i6 c.C].length - 12=i by simp;omega,Fd];rfl)
theorem Ck.part{c:Bn}(h:Ck w b c)(o:Nat)(cs:List Value)(hs:∀j v,cs[j]?=some v->(ckL c)[o+j]?=some v):w.rangeAt b o cs:=fun j v hv=>h.cell (o+j) (hs j v hv)
theorem Ck.partF{c:Bn}(h:Ck w b c):w.rangeAt b 0 (ints c.F 24):=h.part 0 _ fun j v hv=>by
 have hj:j<24:=by have:=(List.getElem?_eq_some_iff.1 hv).1;rwa [BF] at this
 rw[AW,eU c j hj,<-BU c.F 24 j hj,hv]
theorem Ck.partB{c:Bn}(h:Ck w b c):w.rangeAt b 25 (bools c.B 12):=h.part 25 _ fun j v hv=>by
 have hj:j<12:=by have:=(List.getElem?_eq_some_iff.1 hv).1;rwa [BP] at this
 rw[eV c j hj,<-Do c.B 12 j hj,hv]
theorem Ck.partR{c:Bn}(h:Ck w b c):w.rangeAt b 38 (ints c.R 12):=h.part 38 _ fun j v hv=>by
 have hj:j<12:=by have:=(List.getElem?_eq_some_iff.1 hv).1;rwa [BF] at this
 rw[eW c j hj,<-BU c.R 12 j hj,hv]
theorem Ck.partS{c:Bn}(h:Ck w b c):w.rangeAt b 50 (ints c.S 12):=h.part 50 _ fun j v hv=>by
 have hj:j<12:=by have:=(List.getElem?_eq_some_iff.1 hv).1;rwa [BF] at this
 rw[eX c j hj,<-BU c.S 12 j hj,hv]
theorem E7:(prog.info? 55).map (·.size)=some 62:=kr
theorem Wm:(prog.info? 52).map (·.size)=some 24:=kr
theorem Gj:(prog.info? 53).map (·.size)=some 12:=kr
theorem Wn:(prog.info? 36).map (·.size)=some 12:=kr
theorem Ba(hgd:o.guard=none)(x:Operand)(ho:o.op=.load 55 x)(g:Nat)(hx:a.eval x=.pointer (some ⟨g,0,none⟩)){c:Bn}(hg:Ck w g c)(h:wpList prog ops Q rest (a.put o.dst (.agg (ckA c))) w):wpList prog ops Q (o :: rest) a w:=
 wpList_load_row hgd 55 x ho g hx 55 _ _ _ hg underlying55 rfl (by rw[DC];exact E7) h
def ck0:Bn:=⟨fun _=>0,0,fun _=>false,0,fun _=>0,fun _=>0⟩
theorem Bv(hgd:o.guard=none)(x y:Operand)(ho:o.op=.store 55 x y)(g:Nat)(hx:a.eval x=.pointer (some ⟨g,0,none⟩)){c:Bn}(hy:a.eval y=.agg (ckA c)){c':Bn}(hg:Ck w g c')(h:∀w',Ck w' g c->Chg (·=g) w w'->wpList prog ops Q rest (a.put o.dst undef) w'):wpList prog ops Q (o :: rest) a w:=
 wpList_store_row hgd 55 x y ho g _ hx hy 55 _ hg (by rw[DC];exact E7) (by rw[DC,DC]) (R7 c) (h _ (setRow_heap w g _ _ 55 _ hg) ⟨rfl,rfl,rfl,by simp,fun k _ hk=>setRow_other _ _ _ _ hk⟩)
theorem KY{u:Tmp}(h:fn.results=#[.cell q 55,.tmp u])(tmps:Array Value){c:Bn}(hp:tmps.getD q undef=.pointer (some ⟨g,0,none⟩))(hT:Ck w g c) :(results fn tmps).run prog w=.ok (.tuple #[.agg (ckA c),tmps.getD u undef]) w:=by
 rw[results_cell_tmp h,hp];simp[asAddr,run_loadVar_row w g 55 55 _ _ _ hT underlying55 rfl (by rw[DC];exact E7)]
theorem Oh(h:fn.results=#[.cell q 55])(tmps:Array Value){c:Bn}(hp:tmps.getD q undef=.pointer (some ⟨g,0,none⟩))(hT:Ck w g c) :(results fn tmps).run prog w=.ok (.agg (ckA c)) w:=
 results_cell_row h tmps w g 55 _ _ _ hp hT underlying55 rfl (by rw[DC];exact E7)
theorem Jm(w:Wd):(Instr.build 55 #[]).run prog w=.ok (.agg (ckA ck0)) w:=kr
theorem Wo(w:Wd):(zeroValue 55).run prog w=.ok (.agg (ckA ck0)) w:=kr
theorem Du(hgd:o.guard=none)(ho:o.op=.alloc 55)(h:wpList prog ops Q rest (a.put o.dst (.pointer (some ⟨w.heap.size,0,none⟩))) (w.alloc (.cells (ckA ck0) 55))):wpList prog ops Q (o :: rest) a w:=by
 refine wpList_plain hgd fun K hK=>?_;have hz:=Wo;unfold Oper.wp;simp[execOp,ho,Instr.alloc,hz,newVar,Value.cells,newRow];exact hK _ _ h
theorem FK(hgd:o.guard=none)(ho:o.op=.build 55 #[])(h:wpList prog ops Q rest (a.put o.dst (.agg (ckA ck0))) w):wpList prog ops Q (o :: rest) a w:=by
 refine wpList_plain hgd fun K hK=>?_;have hz:=Jm;unfold Oper.wp;simp[execOp,ho,hz];exact hK _ _ h
def bitsN (f:Nat->Bool):Nat->Nat
 | 0=>0
 | n+1=>bitsN f n+(if f n then 2 ^ n else 0)
theorem Fe(f:Nat->Bool):∀n,bitsN f n<2 ^ n
 | 0=>by simp[bitsN]
 | n+1=>by
  have:=Fe f n
  rw[bitsN,Nat.pow_succ]
  split <;> omega
theorem KZ(f:Nat->Bool):bitsN f 12<4096:=Fe f 12
theorem Wp(a k:Nat)(h:a<2 ^ k):a ||| 2 ^ k=a+2 ^ k:=by
 have:=Nat.two_pow_add_eq_or_of_lt h 1;rw[Nat.mul_one] at this;rw[Nat.or_comm,<-this,Nat.add_comm]
theorem bJ(f:Nat->Bool)(i:Nat)(hi:i<12)(w:Wd):(Instr.index 53 (.agg (bools f 12).toArray) (.int .i64 i)).run prog w=.ok (.bool (f i)) w:=by
 have h:=Do f 12 i hi;generalize bools f 12=L at *
 simp[Instr.index,run_underlying underlying53,asIntOf,go_sem,hi,h]
theorem bK(f:Nat->Int)(i:Nat)(hi:i<24)(w:Wd):(Instr.index 52 (.agg (ints f 24).toArray) (.int .i64 i)).run prog w=.ok (.int .i64 (f i)) w:=by
 have h:=BU f 24 i hi;generalize ints f 24=L at *
 simp[Instr.index,run_underlying underlying52,asIntOf,go_sem,hi,h,i6]
theorem Jn(f:Nat->Int)(i:Nat)(hi:i<12)(w:Wd):(Instr.index 36 (.agg (ints f 12).toArray) (.int .i64 i)).run prog w=.ok (.int .i64 (f i)) w:=by
 have h:=BU f 12 i hi;generalize ints f 12=L at *
 simp[Instr.index,run_underlying underlying36,asIntOf,go_sem,hi,h,i6]
def Bo (w:Wd) (b:Nat) (f:Nat->Bool):Prop:=w.heap[b]?=some (.cells (bools f 12).toArray 53)
theorem Bo.new(w:Wd)(f:Nat->Bool):Bo (w.alloc (.cells (bools f 12).toArray 53)) w.heap.size f:=by
 show (w.heap.push _)[w.heap.size]?=_;simp
theorem Bo.lt(h:Bo w b f):b<w.heap.size:=(Array.getElem?_eq_some_iff.1 (show w.heap[b]?=some _ from h)).1
theorem Bo.chg{S:Nat->Prop}(h:Bo w b f)(hc:Chg S w w')(hb:¬ S b):Bo w' b f:=(hc.block b h.lt hb).trans h
theorem Bo.cell(h:Bo w b f)(i:Nat)(hi:i<12):w.cell? ⟨b,i,none⟩=some (.bool (f i))/\w.frozen? ⟨b,i,none⟩=false:=by
 have h':w.heap[b]?=some _:=h;refine⟨?_,by simp[World.frozen?,h']⟩;simp only[World.cell?,h'];simpa using Do f 12 i hi
theorem Qo(f:Nat->Bool):((bools f 12).toArray).size=12:=by simp[BP]
theorem Kc(hgd:o.guard=none)(x:Operand)(ho:o.op=.load 53 x)(g:Nat)(hx:a.eval x=.pointer (some ⟨g,0,none⟩))(hg:Bo w g f)(h:wpList prog ops Q rest (a.put o.dst (.agg (bools f 12).toArray)) w):wpList prog ops Q (o :: rest) a w:=
 wpList_load_row hgd 53 x ho g hx 53 _ _ _ hg underlying53 rfl (by rw[Qo];exact Gj) h
theorem Wq(w:Wd)(f:Nat->Bool) :Calls prog 200 #[.agg (bools f 12).toArray] w fun e w'=>e=.returned (.int .u64 (bitsN f 12:Nat))/\Chg No w w':=by
 have HB:=BE (Bo.new w f);have HG:Hid (Chg No w (w.alloc (.cells (bools f 12).toArray 53))):=BE ((Chg.refl _ w).alloc _);go_enter func200,ntmps200;go_wp2_with (refine Kc rfl (.tmp 1) rfl w.heap.size rfl HB ?_)
 go_loopw [3,7] (fun v t wr=>∃k:Nat,k<=12/\t=.int .i64 k/\v=.int .u64 (bitsN f k:Nat)/\Chg No w wr) (fun _ t _=>12 - (intOf t).toNat)
 case atStart=>exact⟨0,dc,rfl,rfl,HG⟩
 case round=>
  obtain⟨k,hk,rfl,rfl,hG⟩:=hrel;by_cases no:k<12
  ·have Go:(k:Int)<12:=om;have La:(0:Int)<=(k:Int):=om;have it:=bJ f k no;have hb:=Fe f k;have hp:2 ^ k<=2 ^ 11:=Nat.pow_le_pow_right dc om;cases hf:f k with
   | false=>
    rw[hf] at it;have HE:Hid (bitsN f (k+1)=bitsN f k):=BE (by rw[bitsN,hf];rfl);go_wp2;exact⟨⟨k+1,om,by go_num,by rw[HE.out],hG⟩,by simp[intOf];omega⟩
   | true=>
    rw[hf] at it;have HE:Hid (bitsN f (k+1)=bitsN f k ||| 2 ^ k):=BE (by rw[bitsN,hf,Wp _ _ hb];rfl);have HO:Hid (bits .or .u64 (bitsN f k:Int) (IntKind.u64.wrap (2 ^ k))=(bitsN f k ||| 2 ^ k:Nat)):=by
     have e:(2 ^ k:Int)=((2 ^ k:Nat):Int):=(by push_cast;rfl);rw[e,D9 _ om,KI _ _ om om];rfl
    go_wp2;exact⟨⟨k+1,om,by go_num,by rw[HO.out,HE.out],hG⟩,by simp[intOf];omega⟩
  ·have e:k=12:=om;subst e;go_wp2;go_ret;exact⟨rfl,hG⟩
def gV (v k i:Nat):Bool:=if i<k then v.testBit i else false
theorem bN(v k:Nat):upd (gV v k) k (v.testBit k)=gV v (k+1):=by
 funext j;unfold upd gV;by_cases h:j=k
 ·subst h;simp
 ·by_cases h2:j<k
  ·rw[AI h,AJ h2,AJ om]
  ·rw[AI h,AI h2,AI om]
def cat:List (Nat × Nat)->List Nat
 | []=>[]
 | p :: r=>bts p.1 p.2 ++ cat r
def tot:List (Nat × Nat)->Nat
 | []=>0
 | p :: r=>p.2+tot r
def Kd (ps:List (Nat × Nat)):Prop:=∀p ∈ ps,p.1<256 ^ p.2
theorem CB:∀ps,(cat ps).length=tot ps
 | []=>rfl
 | p :: r=>by rw[cat,tot,AV,BG,CB r]
theorem E8:∀ps qs,cat (ps ++ qs)=cat ps ++ cat qs
 | [],_=>rfl
 | p :: r,qs=>by rw[cons_append,cat,cat,E8 r,Aq]
theorem EA:∀ps qs,tot (ps ++ qs)=tot ps+tot qs
 | [],_=>by simp[tot]
 | p :: r,qs=>by rw[cons_append,tot,tot,EA r,Nat.add_assoc]
theorem Ff(ps:List (Nat × Nat))(v z:Nat):cat (ps ++ [(v,z)])=cat ps ++ bts v z:=by rw[E8];simp[cat]
theorem Em(ps:List (Nat × Nat))(v z:Nat):tot (ps ++ [(v,z)])=tot ps+z:=by rw[EA];simp[tot]
theorem Ij(ps:List (Nat × Nat))(v z:Nat):Kd (ps ++ [(v,z)])<->Kd ps/\v<256 ^ z:=by
 constructor
 ·intro h;exact⟨fun p hp=>h p (by simp[hp]),h (v,z) (by simp)⟩
 ·rintro ⟨h1,h2⟩ p hp;rcases mem_append.1 hp with h | h
  ·exact h1 p h
  ·rw[mem_singleton] at h;subst h;exact h2
def Ik (ps:List (Nat × Nat)):List Nat:=cat ps ++ List.replicate (174 - tot ps) 0
theorem JN(ps:List (Nat × Nat))(h:tot ps<=174):(Ik ps).length=174:=by simp[Ik,CB];omega
theorem Ws(ps:List (Nat × Nat))(v z:Nat)(h:tot ps+z<=174):lay (Ik ps) (tot ps) (bts v z)=Ik (ps ++ [(v,z)]):=by
 unfold lay Ik;rw[BG,Ff,Em,take_append_of_le_length (by rw[CB];omega),As (by rw[CB];omega),drop_append,drop_of_length_le (by rw[CB];omega),A7,CB,drop_replicate,Aq];congr 3;omega
def Wr (w:Wd) (b g n:Nat) (e:Value):Prop:=
 w.heap[b]?=some (.cells #[.slice (some ⟨g,0,none⟩) n 174,e] 234)
theorem Wr.lt(h:Wr w b g n e):b<w.heap.size:=(Array.getElem?_eq_some_iff.1 (show w.heap[b]?=some _ from h)).1
theorem Wr.other(h:Wr w b g n e)(k:w'.heap[b]?=w.heap[b]?):Wr w' b g n e:=k.trans h
theorem Wr.chg{S:Nat->Prop}(h:Wr w b g n e)(hc:Chg S w w')(hb:¬ S b):Wr w' b g n e:=(hc.block b h.lt hb).trans h
theorem Wr.cells(h:Wr w b g n e):w.cell? ⟨b,0,none⟩=some (.slice (some ⟨g,0,none⟩) n 174)/\w.cell? ⟨b,1,none⟩=some e/\w.frozen? ⟨b,0,none⟩=false/\w.frozen? ⟨b,1,none⟩=false:=by
 have h':w.heap[b]?=some _:=h;refine⟨?_,?_,?_,?_⟩ <;> simp[World.cell?,World.frozen?,h']
theorem Wr.store(h:Wr w b g n e)(m:Nat):Wr (w.setCell ⟨b,0,none⟩ (.slice (some ⟨g,0,none⟩) m 174)) b g m e:=by
 have h':w.heap[b]?=some _:=h;show (w.setCell ⟨b,0,none⟩ _).heap[b]?=_;simp[World.setCell,Ai,h']
theorem Wr.err(h:Wr w b g n e)(e':Value):Wr (w.setCell ⟨b,1,none⟩ e') b g n e':=by
 have h':w.heap[b]?=some _:=h;show (w.setCell ⟨b,1,none⟩ _).heap[b]?=_;simp[World.setCell,Ai,h']
def Oi (w:Wd) (b g:Nat) (ps:List (Nat × Nat)):Prop:=
 b≠g/\((Kd ps/\Wr w b g (tot ps) .nilIface/\Arr w g 5 (Ik ps))\/(¬ Kd ps/\∃n,Wr w b g n (.iface 57 (.int .i64 2))))
theorem Oi.lt(h:Oi w b g ps):b<w.heap.size:=by
 rcases h.2 with ⟨_,h,_⟩ | ⟨_,n,h⟩ <;> exact h.lt
theorem Oi.chg{S:Nat->Prop}(h:Oi w b g ps)(hc:Chg S w w')(hb:¬ S b)(hg:¬ S g):Oi w' b g ps:=by
 refine⟨h.1,?_⟩;rcases h.2 with ⟨h1,h2,h3⟩ | ⟨h1,n,h2⟩
 ·exact AK ⟨h1,h2.chg hc hb,h3.chg hc hg⟩
 ·exact AL ⟨h1,n,h2.chg hc hb⟩
theorem Jl(w:Wd)(b g:Nat)(ps:List (Nat × Nat))(hW:Oi w b g ps)(v z:Nat)(hv:v<18446744073709551616)(hz1:1<=z)(hz8:z<=8)(hn:tot ps+z<=174) :Calls prog 199 #[.pointer (some ⟨b,0,none⟩),.int .u64 (v:Int),.int .i64 (z:Int)] w fun e w'=>e=.returned (.tuple #[])/\Oi w' b g (ps ++ [(v,z)])/\Chg (fun k=>k=b\/k=g) w w':=by
 obtain⟨no,hW⟩:=hW;have q1:=Bt;have q2:=Hw;rcases hW with ⟨hf,hR,hA⟩ | ⟨hf,n,hR⟩
 ·by_cases hr:v<256 ^ z
  ·have HW:=BE hR;have HA:=BE hA;have it:=N6 w v z hv hz1 hz8 hr;have HF:Hid (Kd (ps ++ [(v,z)])):=BE ((Ij _ _ _).2 ⟨hf,hr⟩);have HL:=BE (JN ps om);obtain⟨i0,i1,-,-⟩:=hR.cells;go_enter func199,ntmps199;go_wp2_with fail;refine it.mono ?_;rintro e w1 ⟨g1,rfl,ha,A1,G1⟩;have W1:=HW.out.chg G1 (fun e=>e);have B1:=HA.out.chg G1 (fun e=>e);obtain⟨k0,k1,-,-⟩:=W1.cells;have Go:Hid (∀j,j<(bts v z).length->w1.cell? ⟨g1,0+j,none⟩=some (.int .u8 ((bts v z).getD j 0:Nat))):=BE (fun j hj=>by
    rw[BG] at hj
    rw[AW,A1.cell j (by rw[BG];omega),DB _ _ _ hj,DB _ _ _ om])
   have hk:=BE B1;have W2:Wr (w1.setRow g (bcells (lay (Ik ps) (tot ps) (bts v z)))) b g (tot ps) .nilIface:=W1.other (setRow_other _ _ _ _ no);have A2:Arr (w1.setRow g (bcells (lay (Ik ps) (tot ps) (bts v z)))) g 5 (Ik (ps ++ [(v,z)])):=by
    have:=B1.row (lay (Ik ps) (tot ps) (bts v z))
    rwa [Ws ps v z hn] at this ⊢
   have G2:Chg (fun k=>k=b\/k=g) w (w1.setRow g (bcells (lay (Ik ps) (tot ps) (bts v z)))):=(G1.mono (fun _ _ f=>f.elim)).setRow (AK (AL rfl)) _;obtain⟨j0,-,f0,-⟩:=W2.cells;have La:=BE W2;have kd:=BE A2;have ar:=BE G2;have HT:=BE (Em ps v z);go_wp2_with (at_builtin;refine EL rfl (.tmp 29) (.tmp 30) rfl g (tot ps) 174 g1 0 z z rfl rfl hk (bts v z) (BG v z) Go hn (by rw[HL.out];exact hn) ?_);go_end0;refine⟨rfl,⟨no,AK ⟨HF.out,?_,kd.out.setOther no _ _⟩⟩,ar.out.setCell (AK (AK rfl)) _ _⟩;rw[HT.out];exact La.out.store _
  ·have HW:=BE hR;have it:=Wl w v z hv hz1 hz8 hr;have HF:Hid (¬ Kd (ps ++ [(v,z)])):=BE (fun h=>hr ((Ij _ _ _).1 h).2);obtain⟨i0,i1,i2,i3⟩:=hR.cells;go_enter func199,ntmps199;go_wp2_with fail;refine it.mono ?_;rintro e w1 ⟨rfl,rfl⟩;go_wp2;refine AZ (results_none rfl _ _ _) rfl ?_;exact⟨rfl,⟨no,AL ⟨HF.out,_,HW.out.err _⟩⟩,(Chg.refl _ _).setCell (AK (AK rfl)) _ _⟩
 ·have HW:=BE hR;have HF:Hid (¬ Kd (ps ++ [(v,z)])):=BE (fun h=>hf ((Ij _ _ _).1 h).1);obtain⟨i0,i1,i2,i3⟩:=hR.cells;go_enter func199,ntmps199;go_wp2;refine AZ (results_none rfl _ _ _) rfl ?_;exact⟨rfl,⟨no,AL ⟨HF.out,_,HW⟩⟩,Chg.refl _ _⟩
def u6 (z:Int):Nat:=(IntKind.u64.wrap z).toNat
theorem Wt(z:Int):((u6 z:Nat):Int)=IntKind.u64.wrap z:=by
 unfold u6;rw[IntKind.wrap_u64];omega
theorem ku(z:Int):u6 z<18446744073709551616:=by
 unfold u6;rw[IntKind.wrap_u64];omega
theorem Oj(w:Wd)(b g:Nat)(ps:List (Nat × Nat))(hW:Oi w b g ps)(z:Int)(s:Nat)(hz1:1<=s)(hz8:s<=8)(hn:tot ps+s<=174) :Calls prog 199 #[.pointer (some ⟨b,0,none⟩),.int .u64 (IntKind.u64.wrap z),.int .i64 (s:Int)] w fun e w'=>e=.returned (.tuple #[])/\Oi w' b g (ps ++ [(u6 z,s)])/\Chg (fun k=>k=b\/k=g) w w':=by
 have:=Jl w b g ps hW (u6 z) s (ku z) hz1 hz8 hn
 rwa [Wt] at this
def fl (f:Nat->Int) (n s:Nat):List (Nat × Nat):=(List.range n).map fun i=>(u6 (f i),s)
theorem Hx(f:Nat->Int)(n s:Nat):fl f (n+1) s=fl f n s ++ [(u6 (f n),s)]:=by simp[fl,range_succ]
theorem E9(f:Nat->Int)(s:Nat):∀n,tot (fl f n s)=n*s
 | 0=>by simp[fl,tot]
 | n+1=>by rw[Hx,Em,E9 f s n,Nat.add_mul,Nat.one_mul]
def nums (c:Bn):Nat->List (Nat × Nat)
 | 0=>[]
 | 1=>fl c.F 24 5
 | 2=>fl c.F 24 5 ++ [(u6 c.N,5)]
 | 3=>fl c.F 24 5 ++ [(u6 c.N,5)] ++ [(bitsN c.B 12,2)]
 | 4=>fl c.F 24 5 ++ [(u6 c.N,5)] ++ [(bitsN c.B 12,2)] ++ [(u6 c.C,1)]
 | 5=>fl c.F 24 5 ++ [(u6 c.N,5)] ++ [(bitsN c.B 12,2)] ++ [(u6 c.C,1)] ++ fl c.R 12 2
 | _=>fl c.F 24 5 ++ [(u6 c.N,5)] ++ [(bitsN c.B 12,2)] ++ [(u6 c.C,1)] ++ fl c.R 12 2 ++ fl c.S 12 1
theorem Hy(c:Bn):tot (nums c 1)=120/\tot (nums c 2)=125/\tot (nums c 3)=127/\tot (nums c 4)=128/\tot (nums c 5)=152/\tot (nums c 6)=164:=by
 refine⟨?_,?_,?_,?_,?_,?_⟩ <;> simp[nums,EA,E9,tot]
theorem Ol(w:Wd)(b g:Nat)(c:Bn)(hW:Oi w b g [])(hg:g<w.heap.size) :Calls prog 161 #[.pointer (some ⟨b,0,none⟩),.agg (ckA c)] w fun e w'=>e=.returned (.tuple #[])/\Oi w' b g (nums c 6)/\Chg (fun k=>k=b\/k=g) w w':=by
 have hb:=hW.lt;have hbs:¬ (w.heap.size=b\/w.heap.size=g):=om
 have HK:=BE (Ck.new w c);have HG:Hid (Chg (fun k=>k=b\/k=g) w (w.alloc (.cells (ckA c) 55))):=BE ((Chg.refl _ w).alloc _);have HW:Hid (Oi (w.alloc (.cells (ckA c) 55)) b g []):=BE (hW.chg (S:=fun _=>False) ((Chg.refl _ w).alloc _) (fun e=>e) (fun e=>e));have r1:=HK.out.partF;obtain⟨t1,t2,t3,t4,t5,t6⟩:=Hy c;have HT:=BE (And.intro t1 (And.intro t2 (And.intro t3 (And.intro t4 (And.intro t5 t6)))));have S22:Hid ((prog.info? 52).map (·.size)=some (ints c.F 24).length):=by rw[BF];exact Wm
 have S23:Hid ((prog.info? 53).map (·.size)=some (bools c.B 12).length):=by rw[BP];exact Gj
 have S24:Hid ((prog.info? 36).map (·.size)=some (ints c.R 12).length):=by rw[BF];exact Wn
 have S25:Hid ((prog.info? 36).map (·.size)=some (ints c.S 12).length):=by rw[BF];exact Wn
 go_enter func161,ntmps161;go_wp2_with (refine wpList_load_mid rfl 52 (.tmp 10) rfl w.heap.size 0 rfl _ _ r1 underlying52 rfl S22.out ?_)
 go_loopw [12] (fun t wr=>∃k:Nat,k<=24/\t=.int .i64 k/\Oi wr b g (fl c.F k 5)/\Ck wr w.heap.size c/\Chg (fun k=>k=b\/k=g) w wr) (fun t _=>24 - (intOf t).toNat)
 case atStart=>exact⟨0,dc,rfl,HW.out,HK.out,HG.out⟩
 case round=>
  obtain⟨k,hk,rfl,a1,a2,a3⟩:=hrel;by_cases hlt:k<24
  ·have hlt':(k:Int)<24:=om;have hkb:(0:Int)<=(k:Int):=om;have hix:=bK c.F k hlt;have hcall:=Oj wr b g _ a1 (c.F k) 5 dc dc (by rw[E9];omega);have HK:=BE a2;have HG:=BE a3;go_wp2_with fail;refine hcall.mono ?_;rintro e w2 ⟨rfl,W2,G2⟩;have HW2:=BE W2;have HK2:=BE (HK.out.chg G2 hbs);have HG2:=BE (HG.out.trans G2);go_wp2;exact⟨⟨k+1,om,by go_num,by rw[Hx];exact HW2.out,HK2.out,HG2.out⟩,by simp[intOf];omega⟩
  ·have e:k=24:=om;subst e;have hcall:=Oj wr b g _ a1 c.N 5 dc dc (by rw[E9];omega);have k1:=a2.N;have HK:=BE a2;have HG:=BE a3;go_wp2_with fail;refine hcall.mono ?_;rintro e w2 ⟨rfl,W2,G2⟩;have K2:=HK.out.chg G2 hbs;have HG2:=BE (HG.out.trans G2);have r2:=K2.partB;have HW2:=BE W2;have HK2:=BE K2;have hcall:=Wq w2 c.B;go_wp2_with (refine wpList_load_mid rfl 53 (.tmp 26) rfl w.heap.size 25 rfl _ _ r2 underlying53 rfl S23.out ?_);refine hcall.mono ?_;rintro e w3 ⟨rfl,G3⟩;have W3:=HW2.out.chg G3 (fun e=>e) (fun e=>e);have HK3:=BE (HK2.out.chg G3 (fun e=>e));have HG3:=BE (HG2.out.trans (G3.mono (fun _ _ f=>f.elim)));have hcall:=Jl w3 b g _ W3 (bitsN c.B 12) 2 (by have:=KZ c.B;omega) dc dc (by rw[Em,E9];omega);go_wp2_with fail;refine hcall.mono ?_;rintro e w4 ⟨rfl,W4,G4⟩;have K4:=HK3.out.chg G4 hbs;have HG4:=BE (HG3.out.trans G4);have k1:=K4.C;have hcall:=Oj w4 b g _ W4 c.C 1 dc dc (by rw[Em,Em,E9];omega);have HK4:=BE K4;go_wp2_with fail;refine hcall.mono ?_;rintro e w5 ⟨rfl,W5,G5⟩;have K5:=HK4.out.chg G5 hbs;have HG5:=BE (HG4.out.trans G5);have r3:=K5.partR;have HK5:=BE K5;have HW5:Hid (Oi w5 b g (nums c 4)):=BE W5;go_wp2_with (refine wpList_load_mid rfl 36 (.tmp 35) rfl w.heap.size 38 rfl _ _ r3 underlying36 rfl S24.out ?_)
   go_loopw [37] (fun t wr=>∃k:Nat,k<=12/\t=.int .i64 k/\Oi wr b g (nums c 4 ++ fl c.R k 2)/\Ck wr w.heap.size c/\Chg (fun k=>k=b\/k=g) w wr) (fun t _=>12 - (intOf t).toNat)
   case atStart=>exact⟨0,dc,rfl,by simpa[fl] using HW5.out,HK5.out,HG5.out⟩
   case round=>
    obtain⟨k,hk,rfl,a1,a2,a3⟩:=hrel;by_cases hlt:k<12
    ·have hlt':(k:Int)<12:=om;have hkb:(0:Int)<=(k:Int):=om;have hix:=Jn c.R k hlt;have hcall:=Oj _ b g _ a1 (c.R k) 2 dc dc (by rw[EA,E9,HT.out.2.2.2.1];omega);have HK:=BE a2;have HG:=BE a3;go_wp2_with fail;refine hcall.mono ?_;rintro e w2 ⟨rfl,W2,G2⟩;have HW2:=BE W2;have HK2:=BE (HK.out.chg G2 hbs);have HG2:=BE (HG.out.trans G2);go_wp2;exact⟨⟨k+1,om,by go_num,by rw[Hx,<-Aq];exact HW2.out,HK2.out,HG2.out⟩,by simp[intOf];omega⟩
    ·have e:k=12:=om;subst e;have r4:=a2.partS;have HK5:=BE a2;have HG5:=BE a3;have HW5:=BE a1;go_wp2_with (refine wpList_load_mid rfl 36 (.tmp 45) rfl w.heap.size 50 rfl _ _ r4 underlying36 rfl S25.out ?_)
     go_loopw [47] (fun t wr=>∃k:Nat,k<=12/\t=.int .i64 k/\Oi wr b g (nums c 5 ++ fl c.S k 1)/\Ck wr w.heap.size c/\Chg (fun k=>k=b\/k=g) w wr) (fun t _=>12 - (intOf t).toNat)
     case atStart=>exact⟨0,dc,rfl,by rw[show fl c.S 0 1=[] from rfl,append_nil];exact HW5.out,HK5.out,HG5.out⟩
     case round=>
      obtain⟨k,hk,rfl,a1,a2,a3⟩:=hrel;by_cases hlt:k<12
      ·have hlt':(k:Int)<12:=om;have hkb:(0:Int)<=(k:Int):=om;have hix:=Jn c.S k hlt;have hcall:=Oj _ b g _ a1 (c.S k) 1 dc dc (by rw[EA,E9,HT.out.2.2.2.2.1];omega);have HK:=BE a2;have HG:=BE a3;go_wp2_with fail;refine hcall.mono ?_;rintro e w2 ⟨rfl,W2,G2⟩;have HW2:=BE W2;have HK2:=BE (HK.out.chg G2 hbs);have HG2:=BE (HG.out.trans G2);go_wp2;exact⟨⟨k+1,om,by go_num,by rw[Hx,<-Aq];exact HW2.out,HK2.out,HG2.out⟩,by simp[intOf];omega⟩
      ·have e:k=12:=om;subst e;have HG5:=BE a3;have HW5:=BE a1;go_wp2;go_end0;exact⟨rfl,HW5.out,HG5.out⟩
def Qp (c:Bn):Prop:=c.C<96/\Kd (nums c 6)
def wrL (c:Bn):List Nat:=Ik (nums c 6)
theorem CI(c:Bn):(wrL c).length=174:=JN _ (by rw[(Hy c).2.2.2.2.2];decide)
def wst0 (w:Wd) (c:Bn):World:=((w.alloc (.cells (ckA c) 55)).alloc (.cells (bcells Ef) 5)).alloc (.cells #[.slice (some ⟨w.heap.size+1,0,none⟩) 0 174,.nilIface] 234)
theorem R8(w:Wd)(c:Bn):Oi (wst0 w c) (w.heap.size+1+1) (w.heap.size+1) []/\Chg No w (wst0 w c)/\w.heap.size+1<(wst0 w c).heap.size:=by
 have A0:=Arr.new (w.alloc (.cells (ckA c) 55)) 5 Ef;have e0:(w.alloc (.cells (ckA c) 55)).heap.size=w.heap.size+1:=by simp
 rw[e0] at A0;have hN:=heap_alloc_new ((w.alloc (.cells (ckA c) 55)).alloc (.cells (bcells Ef) 5)) (.cells #[.slice (some ⟨w.heap.size+1,0,none⟩) 0 174,.nilIface] 234);have e1:((w.alloc (.cells (ckA c) 55)).alloc (.cells (bcells Ef) 5)).heap.size=w.heap.size+1+1:=by simp
 rw[e1] at hN;refine⟨⟨om,AK ⟨(fun p hp=>absurd hp (by simp)),hN,?_⟩⟩,(((Chg.refl _ w).alloc _).alloc _).alloc _,by simp[wst0]⟩;exact A0.alloc _
theorem R9:∀ps,Bys (cat ps)
 | []=>fun n hn=>by cases hn
 | p :: r=>fun n hn=>(mem_append.1 hn).elim (CS _ _ n) (R9 r n)
theorem FA(c:Bn):Bys (wrL c):=fun n hn=>(mem_append.1 hn).elim (R9 _ n) (fun h=>by rw[(mem_replicate.1 h).2];decide)
theorem kv(w:Wd)(c:Bn)(h:¬ Qp c) :Calls prog 104 #[.agg (ckA c)] w fun e w'=>e=.returned (.tuple #[.slice none 0 0,.iface 57 (.int .i64 1)])/\Chg No w w':=by
 have K0:=Ck.new w c;have G0:Chg No w (w.alloc (.cells (ckA c) 55)):=(Chg.refl _ w).alloc _;have k1:=K0.C;by_cases hC:c.C<96
 ·have HF:Hid (¬ Kd (nums c 6)):=BE (fun e=>h ⟨hC,e⟩);have it:¬ (96:Int)<=c.C:=om
  have hm:=IX;have q1:=Hw;have HK:=BE K0;have HG:=BE G0;go_enter func104,ntmps104;go_wp2_with (refine Ba rfl (.tmp 1) rfl w.heap.size rfl ((HK.out.alloc _).alloc _) ?_);have hs:=R8 w c
  change Calls prog 161 _ (wst0 w c) _;generalize wst0 w c=w0 at *
  obtain⟨W0,G0,no⟩:=hs;refine(Ol w0 _ _ c W0 no).mono ?_;rintro e w1 ⟨rfl,W1,G1⟩;have Go:Hid (Chg No w w1):=BE (G0.trans' G1 (fun i hi hh=>om));obtain⟨n,hR⟩:∃n,Wr w1 (w.heap.size+1+1) (w.heap.size+1) n (.iface 57 (.int .i64 2)):=by
   rcases W1.2 with ⟨hf,_⟩ | ⟨_,hn⟩
   ·exact absurd hf HF
   ·exact hn
  obtain⟨j0,j1,-,-⟩:=hR.cells;go_wp2;go_ret2;exact⟨rfl,Go⟩
 ·have it:(96:Int)<=c.C:=om
  have HG:=BE G0;go_enter func104,ntmps104;go_wp2;go_ret2;exact⟨rfl,HG⟩
theorem Lx(w:Wd)(c:Bn)(h:Qp c) :Calls prog 104 #[.agg (ckA c)] w fun e w'=>∃g,e=.returned (.tuple #[.slice (some ⟨g,0,none⟩) 174 174,.nilIface])/\w.heap.size<=g/\Arr w' g 5 (wrL c)/\Chg No w w':=by
 have K0:=Ck.new w c;have k1:=K0.C;have Go:¬ (96:Int)<=c.C:=by have:=h.1;omega
 have HF:Hid (Kd (nums c 6)):=BE h.2;have hm:=IX;have q1:=Bt;have HK:=BE K0;go_enter func104,ntmps104;go_wp2_with (refine Ba rfl (.tmp 1) rfl w.heap.size rfl ((HK.out.alloc _).alloc _) ?_);have hs:=R8 w c
 change Calls prog 161 _ (wst0 w c) _;generalize wst0 w c=w0 at *
 obtain⟨W0,G0,it⟩:=hs;refine(Ol w0 _ _ c W0 it).mono ?_;rintro e w1 ⟨rfl,W1,G1⟩;have no:Hid (Chg No w w1):=BE (G0.trans' G1 (fun i hi hh=>om));obtain⟨hR,hA⟩:Wr w1 (w.heap.size+1+1) (w.heap.size+1) 164 .nilIface/\Arr w1 (w.heap.size+1) 5 (wrL c):=by
  rcases W1.2 with ⟨_,h1,h2⟩ | ⟨hf,_⟩
  ·rw[(Hy c).2.2.2.2.2] at h1;exact⟨h1,h2⟩
  ·exact absurd HF hf
 obtain⟨j0,j1,-,-⟩:=hR.cells;have HA:=BE hA;go_wp2;go_ret2;exact⟨_,rfl,om,HA.out,no⟩
def part (l:List Nat) (a z k i:Nat):Int:=if i<k then (fld l (a+z*i) z:Nat) else 0
theorem Ke(l:List Nat)(a z k:Nat):upd (part l a z k) k ((fld l (a+z*k) z:Nat):Int)=part l a z (k+1):=by
 funext j;unfold upd part;by_cases h:j=k
 ·subst h;simp
 ·by_cases h2:j<k
  ·rw[AI h,AJ h2,AJ om]
  ·rw[AI h,AI h2,AI om]
def rdK (l:List Nat) (f n:Nat) (bs:Bool) (c r s:Nat):Bn:=
 ⟨part l 0 5 f,if n=0 then 0 else (fld l 120 5:Nat),fun i=>bs && (fld l 125 2).testBit i,if c=0 then 0 else (fld l 127 1:Nat),part l 128 2 r,part l 152 1 s⟩
def rdC (l:List Nat):Bn:=⟨fun i=>(fld l (5*i) 5:Nat),(fld l 120 5:Nat),fun i=>(fld l 125 2).testBit i,(fld l 127 1:Nat),fun i=>(fld l (128+2*i) 2:Nat),fun i=>(fld l (152+i) 1:Nat)⟩
theorem kw(l:List Nat):ckA (rdK l 0 0 false 0 0 0)=ckA ck0:=by
 apply El <;> intros <;> simp[rdK,ck0,part]
theorem bO(l:List Nat):ckA (rdK l 24 1 true 1 12 12)=ckA (rdC l):=by
 apply El <;> intros <;> simp_all[rdK,rdC,part]
theorem Ck.eq{c d:Bn}(h:Ck w b c)(e:ckA c=ckA d):Ck w b d:=by
 unfold Ck at *
 rwa [<-e]
theorem bP(h:Bys l){a:Nat}(hn:a+5<=l.length):fld l a 5<1099511627776:=DV h hn
theorem gW(h:Bys l){a:Nat}(hn:a+2<=l.length):fld l a 2<65536:=DV h hn
theorem Om(h:Bys l){a:Nat}(hn:a+1<=l.length):fld l a 1<256:=DV h hn
def nk (l:List Nat):Prop:=Qp (rdC l)/\wrL (rdC l)=l
theorem EB(a b:List Nat)(j:Nat):(a ++ b).getD j 0=if j<a.length then a.getD j 0 else b.getD (j - a.length) 0:=by
 simp only[AQ];by_cases h:j<a.length
 ·rw[AJ h,Af h]
 ·rw[AI h,Aa om]
theorem Ml(f:Nat->Int)(s:Nat)(hs:0<s):∀n j,j<n*s->(cat (fl f n s)).getD j 0=byteAt (u6 (f (j / s))) (j % s)
 | 0,j,h=>om
 | n+1,j,h=>by
  rw[Hx,Ff,EB,CB,E9]
  by_cases h2:j<n*s
  ·
   rw[AJ h2,Ml f s hs n j h2]
  ·
   rw[Nat.add_mul,Nat.one_mul] at h
   rw[AI h2,DB _ _ _ om]
   have e1:j=(j - n*s)+s*n:=by rw[Nat.mul_comm s n];omega
   have e2:j / s=n:=by rw[e1,Nat.add_mul_div_left _ _ hs,Nat.div_eq_of_lt om,AW]
   have e3:j % s=j - n*s:=by
    conv=>lhs;rw[e1]
    rw[Nat.add_mul_mod_self_left,Az om]
   rw[e2,e3]
def wb (c:Bn) (j:Nat):Nat:=
 if j<120 then byteAt (u6 (c.F (j / 5))) (j % 5)
 else if j<125 then byteAt (u6 c.N) (j - 120)
 else if j<127 then byteAt (bitsN c.B 12) (j - 125)
 else if j<128 then byteAt (u6 c.C) (j - 127)
 else if j<152 then byteAt (u6 (c.R ((j - 128) / 2))) ((j - 128) % 2)
 else if j<164 then byteAt (u6 (c.S (j - 152))) 0
 else 0
theorem Qq(c:Bn)(j:Nat):(wrL c).getD j 0=wb c j:=by
 obtain⟨t1,t2,t3,t4,t5,t6⟩:=Hy c;have e6:cat (nums c 6)=cat (nums c 5) ++ cat (fl c.S 12 1):=by rw[<-E8];rfl
 have e5:cat (nums c 5)=cat (nums c 4) ++ cat (fl c.R 12 2):=by rw[<-E8];rfl
 have e4:cat (nums c 4)=cat (nums c 3) ++ bts (u6 c.C) 1:=by rw[<-Ff];rfl
 have e3:cat (nums c 3)=cat (nums c 2) ++ bts (bitsN c.B 12) 2:=by rw[<-Ff];rfl
 have e2:cat (nums c 2)=cat (nums c 1) ++ bts (u6 c.N) 5:=by rw[<-Ff];rfl
 have e1:cat (nums c 1)=cat (fl c.F 24 5):=rfl;unfold wrL Ik wb;rw[EB,CB,t6];by_cases h6:j<164
 ·rw[AJ h6,e6,EB,CB,t5];by_cases h5:j<152
  ·rw[AJ h5,e5,EB,CB,t4];by_cases h4:j<128
   ·rw[AJ h4,e4,EB,CB,t3];by_cases h3:j<127
    ·rw[AJ h3,e3,EB,CB,t2];by_cases h2:j<125
     ·rw[AJ h2,e2,EB,CB,t1];by_cases h1:j<120
      ·rw[AJ h1,AJ h1,e1,Ml _ _ dc _ _ om]
      ·rw[AI h1,AI h1,AJ h2,DB _ _ _ om]
     ·rw[AI h2,AI om,AI h2,AJ h3,DB _ _ _ om]
    ·rw[AI h3,AI om,AI om,AI h3,AJ h4,DB _ _ _ om]
   ·rw[AI h4,AI om,AI om,AI om,AI h4,AJ h5,Ml _ _ dc _ _ om]
  ·rw[AI h5,AI om,AI om,AI om,AI om,AI h5,AJ h6,Ml _ _ dc _ _ om,Nat.div_one,Nat.mod_one]
 ·rw[AI h6,AI om,AI om,AI om,AI om,AI om,AI h6];simp only[AQ,List.getElem?_replicate];split <;> rfl
theorem Il{c:Bn}{a v:Nat}(hn:a+n<=174)(hv:v<256 ^ n)(h:∀k,k<n->wb c (a+k)=byteAt v k):fld (wrL c) a n=v:=by
 have e:FJ (wrL c) a n=bts v n:=by
  apply DG
  ·rw[BJ (by rw[CI];omega),BG]
  ·intro i hi;rw[BJ (by rw[CI];omega)] at hi;rw[KK hi,Qq,h i hi,DB _ _ _ hi]
 unfold fld;rw[e,Ia,Az hv]
theorem Cp(hl:Bys l){a:Nat}(hk:k<n)(hn:a+n<=l.length):byteAt (fld l a n) k=l.getD (a+k) 0:=by
 have e:=gU (Cs hl a n);rw[BJ hn] at e;have:(bts (fld l a n) n).getD k 0=(FJ l a n).getD k 0:=congrArg (fun x=>x.getD k 0) e;rw[DB _ _ _ hk,KK hk] at this;exact this
structure Wu (c d:Bn):Prop where
 F:∀i,i<24->c.F i=d.F i
 N:c.N=d.N
 B:∀i,i<12->c.B i=d.B i
 C:c.C=d.C
 R:∀i,i<12->c.R i=d.R i
 S:∀i,i<12->c.S i=d.S i
theorem Kf{f g:Nat->Int}{s:Nat}(h:∀i,i<n->f i=g i):fl f n s=fl g n s:=by
 apply map_congr_left;intro i hi;rw[h i (mem_range.1 hi)]
theorem JO{g:Nat->Bool}:∀ {n:Nat},(∀i,i<n->f i=g i)->bitsN f n=bitsN g n
 | 0,_=>rfl
 | n+1,h=>by rw[bitsN,bitsN,JO (fun i hi=>h i om),h n om]
theorem Wu.nums{c d:Bn}(h:Wu c d):nums c 6=nums d 6:=by
 show fl c.F 24 5 ++ [(u6 c.N,5)] ++ [(bitsN c.B 12,2)] ++ [(u6 c.C,1)] ++ fl c.R 12 2 ++ fl c.S 12 1=fl d.F 24 5 ++ [(u6 d.N,5)] ++ [(bitsN d.B 12,2)] ++ [(u6 d.C,1)] ++ fl d.R 12 2 ++ fl d.S 12 1;rw[Kf h.F,h.N,JO h.B,h.C,Kf h.R,Kf h.S]
theorem Wu.wrL{c d:Bn}(h:Wu c d):wrL c=wrL d:=by unfold Go.Proofs.YtmdpnpjacfedpaaGreat.AA.wrL;rw[h.nums]
theorem Wu.okc{c d:Bn}(h:Wu c d)(hc:Qp c):Qp d:=by
 unfold Qp at *
 rw[<-h.nums,<-h.C];exact hc
theorem Kg(f:Nat->Bool):∀n i,i<n->(bitsN f n).testBit i=f i
 | 0,i,h=>om
 | n+1,i,h=>by
  have e:bitsN f (n+1)=bitsN f n ||| (if f n then 2 ^ n else 0):=by
   rw[bitsN];cases f n with
   | false=>simp
   | true=>simp only[if_true];rw[Wp _ _ (Fe f n)]
  rw[e,Nat.testBit_or];by_cases hi:i<n
  ·rw[Kg f n i hi];cases f n with
   | false=>simp
   | true=>simp only[if_true];rw[Nat.testBit_two_pow_of_ne om];simp
  ·have:i=n:=om
   subst this;rw[Nat.testBit_lt_two_pow (Fe f i)];cases f i with
   | false=>simp
   | true=>simp only[if_true];rw[Nat.testBit_two_pow_self];simp
theorem Kh(v:Nat):∀n,bitsN (fun i=>v.testBit i) n=v % 2 ^ n
 | 0=>by simp[bitsN,Nat.mod_one]
 | n+1=>by
  rw[bitsN,Kh v n,Nat.pow_succ,Nat.mod_mul,Nat.testBit_eq_decide_div_mod_eq]
  by_cases h:v / 2 ^ n % 2=1
  ·
   rw[h];simp
  ·
   have:v / 2 ^ n % 2=0:=om
   rw[this];simp
structure lA (c:Bn):Prop where
 F:∀i,i<24->-9223372036854775808<=c.F i/\c.F i<=9223372036854775807
 N : -9223372036854775808<=c.N/\c.N<=9223372036854775807
 C : -9223372036854775808<=c.C/\c.C<=9223372036854775807
 R:∀i,i<12->-9223372036854775808<=c.R i/\c.R i<=9223372036854775807
 S:∀i,i<12->-9223372036854775808<=c.S i/\c.S i<=9223372036854775807
structure Zp (c:Bn):Prop where
 F:∀i,i<24->0<=c.F i/\c.F i<=1099511627775
 N:0<=c.N/\c.N<=1099511627775
 C:0<=c.C/\c.C<=95
 R:∀i,i<12->0<=c.R i/\c.R i<=65535
 S:∀i,i<12->0<=c.S i/\c.S i<=255
theorem SA(h:0<=z)(h2:z<18446744073709551616):((u6 z:Nat):Int)=z:=by
 rw[Wt,IntKind.wrap_u64];omega
theorem gX(h : -9223372036854775808<=z)(h2:z<0):9223372036854775808<=u6 z:=by
 have:=Wt z;rw[IntKind.wrap_u64] at this;omega
theorem gY(n:Nat)(h:n<18446744073709551616):u6 (n:Int)=n:=by
 have:=SA (z:=(n:Int)) om om;omega
theorem En{c:Bn}{p:Nat × Nat}:p ∈ nums c 6<->(∃i,i<24/\p=(u6 (c.F i),5))\/p=(u6 c.N,5)\/p=(bitsN c.B 12,2)\/p=(u6 c.C,1)\/(∃i,i<12/\p=(u6 (c.R i),2))\/∃i,i<12/\p=(u6 (c.S i),1):=by
 show p ∈ fl c.F 24 5 ++ [(u6 c.N,5)] ++ [(bitsN c.B 12,2)] ++ [(u6 c.C,1)] ++ fl c.R 12 2 ++ fl c.S 12 1<->_;have e:∀(f:Nat->Int) (n s:Nat),p ∈ fl f n s<->∃i,i<n/\p=(u6 (f i),s):=by
  intro f n s;simp only[fl,mem_map,mem_range];constructor
  ·rintro ⟨i,h1,h2⟩;exact⟨i,h1,h2.symm⟩
  ·rintro ⟨i,h1,h2⟩;exact⟨i,h1,h2.symm⟩
 simp only[Am,mem_singleton,e];simp only[or_assoc]
theorem Wv(c:Bn):Kd (nums c 6)<->(∀i,i<24->u6 (c.F i)<1099511627776)/\u6 c.N<1099511627776/\u6 c.C<256/\(∀i,i<12->u6 (c.R i)<65536)/\∀i,i<12->u6 (c.S i)<256:=by
 constructor
 ·intro h;exact⟨fun i hi=>h (_,5) (En.2 (AK ⟨i,hi,rfl⟩)),h (_,5) (En.2 (AL (AK rfl))),h (_,1) (En.2 (AL (AL (AL (AK rfl))))),fun i hi=>h (_,2) (En.2 (AL (AL (AL (AL (AK ⟨i,hi,rfl⟩)))))),fun i hi=>h (_,1) (En.2 (AL (AL (AL (AL (AL ⟨i,hi,rfl⟩))))))⟩
 ·rintro ⟨h1,h2,h3,h4,h5⟩ p hp;rcases En.1 hp with ⟨i,hi,rfl⟩ | rfl | rfl | rfl | ⟨i,hi,rfl⟩ | ⟨i,hi,rfl⟩
  ·exact h1 i hi
  ·exact h2
  ·have:=KZ c.B;show bitsN c.B 12<65536;omega
  ·exact h3
  ·exact h4 i hi
  ·exact h5 i hi
theorem DE(h : -9223372036854775808<=z/\z<=9223372036854775807)(m:Nat)(hm:m<=9223372036854775808):u6 z<m<->0<=z/\z<m:=by
 by_cases h0:0<=z
 ·have:=SA h0 om;omega
 ·have:=gX h.1 om;omega
theorem Mm(c:Bn)(hw:lA c):Qp c<->Zp c:=by
 unfold Qp;rw[Wv];constructor
 ·rintro ⟨h0,h1,h2,h3,h4,h5⟩;refine⟨fun i hi=>?_,?_,?_,fun i hi=>?_,fun i hi=>?_⟩
  ·have:=(DE (hw.F i hi) 1099511627776 dc).1 (h1 i hi);omega
  ·have:=(DE hw.N 1099511627776 dc).1 h2;omega
  ·have:=(DE hw.C 256 dc).1 h3;omega
  ·have:=(DE (hw.R i hi) 65536 dc).1 (h4 i hi);omega
  ·have:=(DE (hw.S i hi) 256 dc).1 (h5 i hi);omega
 ·intro h;refine⟨by have:=h.C;omega,fun i hi=>?_,?_,?_,fun i hi=>?_,fun i hi=>?_⟩
  ·exact(DE (hw.F i hi) 1099511627776 dc).2 (by have:=h.F i hi;omega)
  ·exact(DE hw.N 1099511627776 dc).2 (by have:=h.N;omega)
  ·exact(DE hw.C 256 dc).2 (by have:=h.C;omega)
  ·exact(DE (hw.R i hi) 65536 dc).2 (by have:=h.R i hi;omega)
  ·exact(DE (hw.S i hi) 256 dc).2 (by have:=h.S i hi;omega)
theorem Fg(c:Bn)(h:Zp c):Wu (rdC (wrL c)) c:=by
 have app:∀ {z:Int} {m:Nat},0<=z->z<m->m<=18446744073709551616->u6 z<m:=fun h1 h2 h3=>by
  have:=SA h1 om;omega
 have it:∀ {z:Int},0<=z->z<18446744073709551616->((u6 z:Nat):Int)=z:=fun h1 h2=>SA h1 h2;refine⟨fun i hi=>?_,?_,fun i hi=>?_,?_,fun i hi=>?_,fun i hi=>?_⟩
 ·have hF:=h.F i hi;show ((fld (wrL c) (5*i) 5:Nat):Int)=_;rw[Il (v:=u6 (c.F i)) om (app hF.1 (m:=256 ^ 5) om dc) (fun k hk=>?_)]
  ·exact it hF.1 om
  ·unfold wb;rw[AJ om,show (5*i+k) / 5=i by omega,show (5*i+k) % 5=k by omega]
 ·have hN:=h.N;show ((fld (wrL c) 120 5:Nat):Int)=_;rw[Il (v:=u6 c.N) om (app hN.1 (m:=256 ^ 5) om dc) (fun k hk=>?_)]
  ·exact it hN.1 om
  ·unfold wb;rw[AI om,AJ om,show 120+k - 120=k by omega]
 ·show (fld (wrL c) 125 2).testBit i=c.B i;have hb:=KZ c.B;rw[Il (v:=bitsN c.B 12) om (by show _<65536;omega) (fun k hk=>?_)]
  ·exact Kg c.B 12 i hi
  ·unfold wb;rw[AI om,AI om,AJ om,show 125+k - 125=k by omega]
 ·have hC:=h.C;show ((fld (wrL c) 127 1:Nat):Int)=_;rw[Il (v:=u6 c.C) om (app hC.1 (m:=256 ^ 1) om dc) (fun k hk=>?_)]
  ·exact it hC.1 om
  ·unfold wb;rw[AI om,AI om,AI om,AJ om,show 127+k - 127=k by omega]
 ·have hR:=h.R i hi;show ((fld (wrL c) (128+2*i) 2:Nat):Int)=_;rw[Il (v:=u6 (c.R i)) om (app hR.1 (m:=256 ^ 2) om dc) (fun k hk=>?_)]
  ·exact it hR.1 om
  ·unfold wb;rw[AI om,AI om,AI om,AI om,AJ om,show (128+2*i+k - 128) / 2=i by omega,show (128+2*i+k - 128) % 2=k by omega]
 ·have hS:=h.S i hi;show ((fld (wrL c) (152+i) 1:Nat):Int)=_;rw[Il (v:=u6 (c.S i)) om (app hS.1 (m:=256 ^ 1) om dc) (fun k hk=>?_)]
  ·exact it hS.1 om
  ·obtain rfl:k=0:=om
   unfold wb;rw[AI om,AI om,AI om,AI om,AI om,AJ om,show 152+i+0 - 152=i by omega]
theorem Wu.symm{c d:Bn}(h:Wu c d):Wu d c:=⟨fun i hi=>(h.F i hi).symm,h.N.symm,fun i hi=>(h.B i hi).symm,h.C.symm,fun i hi=>(h.R i hi).symm,fun i hi=>(h.S i hi).symm⟩
def gZ (l:List Nat):Prop:=l.getD 126 0<=15/\l.getD 127 0<=95/\∀i,164<=i->i<174->l.getD i 0=0
theorem bQ(l:List Nat)(hl:Bys l)(hL:l.length=174):lA (rdC l):=by
 refine⟨fun i hi=>?_,?_,?_,fun i hi=>?_,fun i hi=>?_⟩
 ·have:=bP hl (a:=5*i) om;show _<=((fld l (5*i) 5:Nat):Int)/\((fld l (5*i) 5:Nat):Int)<=_;omega
 ·have:=bP hl (a:=120) om;show _<=((fld l 120 5:Nat):Int)/\((fld l 120 5:Nat):Int)<=_;omega
 ·have:=Om hl (a:=127) om;show _<=((fld l 127 1:Nat):Int)/\((fld l 127 1:Nat):Int)<=_;omega
 ·have:=gW hl (a:=128+2*i) om;show _<=((fld l (128+2*i) 2:Nat):Int)/\((fld l (128+2*i) 2:Nat):Int)<=_;omega
 ·have:=Om hl (a:=152+i) om;show _<=((fld l (152+i) 1:Nat):Int)/\((fld l (152+i) 1:Nat):Int)<=_;omega
theorem Mn(hl:Bys l){a:Nat}(h:a+1<=l.length):fld l a 1=l.getD a 0:=by
 have e:=Cp hl (a:=a) (n:=1) (k:=0) dc h;have:=Om hl h;unfold byteAt at e;simp only[Nat.pow_zero,Nat.div_one,Nat.add_zero] at e;omega
theorem SB(l:List Nat)(hl:Bys l)(hL:l.length=174):nk l<->gZ l:=by
 have hw:=bQ l hl hL;have u:∀ {a n:Nat},a+n<=174->n<=8->u6 ((fld l a n:Nat):Int)=fld l a n:=fun {a n} h h8=>by
  apply gY;have h1:=DV hl (a:=a) (n:=n) om;have h2:256 ^ n<=256 ^ 8:=Nat.pow_le_pow_right dc h8;have h3:(256:Nat) ^ 8=18446744073709551616:=dc
  omega
 have no:=Mn hl (a:=127) om;have Go:∀j,j<164->j≠126->wb (rdC l) j=l.getD j 0:=by
  intro j hj it;unfold wb;by_cases h1:j<120
  ·rw[AJ h1];show byteAt (u6 ((fld l (5*(j / 5)) 5:Nat):Int)) (j % 5)=_;rw[u om dc,Cp hl om om,show 5*(j / 5)+j % 5=j by omega]
  ·rw[AI h1];by_cases h2:j<125
   ·rw[AJ h2];show byteAt (u6 ((fld l 120 5:Nat):Int)) (j - 120)=_;rw[u om dc,Cp hl om om,show 120+(j - 120)=j by omega]
   ·rw[AI h2];by_cases h3:j<127
    ·obtain rfl:j=125:=om
     rw[AJ h3];show byteAt (bitsN (fun i=>(fld l 125 2).testBit i) 12) 0=_;rw[Kh,<-Cp hl (a:=125) (n:=2) (k:=0) dc om];unfold byteAt;simp only[Nat.pow_zero,Nat.div_one];omega
    ·rw[AI h3];by_cases h4:j<128
     ·obtain rfl:j=127:=om
      rw[AJ h4];show byteAt (u6 ((fld l 127 1:Nat):Int)) (127 - 127)=_;rw[u om dc,Cp hl om om]
     ·rw[AI h4];by_cases h5:j<152
      ·rw[AJ h5];show byteAt (u6 ((fld l (128+2*((j - 128) / 2)) 2:Nat):Int)) ((j - 128) % 2)=_;rw[u om dc,Cp hl om om,show 128+2*((j - 128) / 2)+(j - 128) % 2=j by omega]
      ·rw[AI h5,AJ hj];show byteAt (u6 ((fld l (152+(j - 152)) 1:Nat):Int)) 0=_;rw[u om dc,Cp hl om om,show 152+(j - 152)+0=j by omega]
 have it:wb (rdC l) 126=l.getD 126 0 % 16:=by
  show byteAt (bitsN (fun i=>(fld l 125 2).testBit i) 12) 1=_;rw[Kh,<-Cp hl (a:=125) (n:=2) (k:=1) dc om];unfold byteAt;simp only[Nat.pow_one];omega
 have h0:∀j,164<=j->wb (rdC l) j=0:=by
  intro j hj;unfold wb;rw[AI om,AI om,AI om,AI om,AI om,AI om]
 constructor
 ·rintro ⟨h1,h2⟩;have hj:∀j,wb (rdC l) j=l.getD j 0:=fun j=>by rw[<-Qq,h2]
  refine⟨?_,?_,fun i hi _=>?_⟩
  ·have:=hj 126;rw[it] at this;omega
  ·have:((fld l 127 1:Nat):Int)<96:=h1.1;omega
  ·rw[<-hj i,h0 i hi]
 ·rintro ⟨h1,h2,h3⟩;refine⟨(Mm _ hw).2 ⟨fun i hi=>?_,?_,?_,fun i hi=>?_,fun i hi=>?_⟩,?_⟩
  ·have:=bP hl (a:=5*i) om;show _<=((fld l (5*i) 5:Nat):Int)/\((fld l (5*i) 5:Nat):Int)<=_;omega
  ·have:=bP hl (a:=120) om;show _<=((fld l 120 5:Nat):Int)/\((fld l 120 5:Nat):Int)<=_;omega
  ·show _<=((fld l 127 1:Nat):Int)/\((fld l 127 1:Nat):Int)<=_;omega
  ·have:=gW hl (a:=128+2*i) om;show _<=((fld l (128+2*i) 2:Nat):Int)/\((fld l (128+2*i) 2:Nat):Int)<=_;omega
  ·have:=Om hl (a:=152+i) om;show _<=((fld l (152+i) 1:Nat):Int)/\((fld l (152+i) 1:Nat):Int)<=_;omega
  ·apply DG (by rw[CI,hL]);intro j hj;rw[CI] at hj;rw[Qq];by_cases La:j<164
   ·by_cases e:j=126
    ·subst e;rw[it];omega
    ·exact Go j La e
   ·rw[h0 j om,h3 j om hj]
theorem FC(w:Wd)(a:Option Addr)(n cap:Nat)(l:List Nat)(hn:n=l.length)(hl:Bys l)(h7:l.length<=7)(hr:Ca w (.slice a n cap) l) :Calls prog 126 #[.slice a n cap] w fun e w'=>e=.returned (.int .i64 (le l:Nat))/\Chg No w w':=by
 subst hn;have HR:=BE hr;go_enter func126,ntmps126;go_wp2_with fail
 go_loopw [3,4] (fun v t wr=>∃k:Nat,k<=l.length/\t=.int .i64 ((k:Int) - 1)/\v=.int .i64 (le (l.drop k):Nat)/\Chg No w wr) (fun _ t _=>(intOf t+1).toNat)
 case atStart=>exact⟨l.length,AM _,rfl,by simp[le],Chg.refl _ _⟩
 case round=>
  obtain⟨k,hk,rfl,rfl,hG⟩:=hrel;by_cases h0:k=0
  ·subst h0;go_wp2;go_ret;exact⟨rfl,hG⟩
  ·obtain⟨j,rfl⟩:∃j,k=j+1:=⟨k - 1,om⟩;obtain⟨g,o,rfl,hx⟩:=HR.out.cellC hG j om;obtain⟨e1,-⟩:=OA l hl om j om;have e2:le (l.drop j)<72057594037927936:=Aj (N5 (Ee hl j)) (by
    rw[length_drop]
    exact Nat.pow_le_pow_right (by decide:0<256) (by omega:l.length - j<=7))
   have hj:(((j+1:Nat):Int) - 1)=(j:Int):=om;rw[hj];have no:(j:Int)<(l.length:Int):=om;have Go:(0:Int)<=(j:Int):=om;have it:¬ (j:Int)<0:=om;have HV:Hid ((256:Int)*((le (l.drop (j+1)):Nat):Int)+((l.getD j 0:Nat):Int)=((le (l.drop j):Nat):Int)):=BE (by rw[<-e1];push_cast;rfl);have hb:=hl.getD j;have La:(256:Int)*((le (l.drop (j+1)):Nat):Int)+((l.getD j 0:Nat):Int)<72057594037927936:=om;generalize le (l.drop (j+1))=x at *
   generalize l.getD j 0=y at *
   go_wp2;exact⟨⟨j,om,by go_num,by rw[<-HV.out],hG⟩,by simp[intOf]⟩
theorem CK(hgd:o.guard=none)(ho:o.op=.alloc 55)(N:Nat)(hN:w.heap.size=N)(h:wpList prog ops Q rest (a.put o.dst (.pointer (some ⟨N,0,none⟩))) (w.alloc (.cells (ckA ck0) 55))):wpList prog ops Q (o :: rest) a w:=
 Du hgd ho (by rw[hN];exact h)
def mY (w:Wd):World:=(w.alloc (.cells (ckA ck0) 55)).alloc (.cells (ckA ck0) 55)
theorem gb(w:Wd):Ck (mY w) (w.heap.size+1) ck0/\Ck (mY w) w.heap.size ck0/\Chg No w (mY w):=by
 have hN:=Ck.new (w.alloc (.cells (ckA ck0) 55)) ck0;have e1:(w.alloc (.cells (ckA ck0) 55)).heap.size=w.heap.size+1:=by simp
 rw[e1] at hN;exact⟨hN,(Ck.new w ck0).alloc _,((Chg.refl _ w).alloc _).alloc _⟩
theorem lB(x:Nat):(x:Int).tmod 2=((x % 2:Nat):Int):=by rw[Av om];omega
theorem lC(x:Nat):(x:Int).tdiv 2=((x / 2:Nat):Int):=by rw[Int.tdiv_eq_ediv_of_nonneg om];omega
structure Nb (w wr:Wd) (c:Bn):Prop where
 ck:Ck wr (w.heap.size+1) c
 z:Ck wr w.heap.size ck0
 chg:Chg No w wr
theorem Nb.pure{c:Bn}(h:Nb w wr c)(hc:Chg No wr w'):Nb w w' c:=
 ⟨h.ck.chg hc (fun e=>e),h.z.chg hc (fun e=>e),h.chg.trans hc⟩
theorem Nb.eq{c d:Bn}(h:Nb w wr c)(e:ckA c=ckA d):Nb w wr d:=⟨h.ck.eq e,h.z,h.chg⟩
theorem Nb.set{c d:Bn}(h:Nb w wr c)(i:Nat)(v:Value)(hk:Ck (wr.setCell ⟨w.heap.size+1,i,none⟩ v) (w.heap.size+1) d):Nb w (wr.setCell ⟨w.heap.size+1,i,none⟩ v) d:=
 ⟨hk,h.z.setOther om _ _,h.chg.setCell (AL om) _ _⟩
theorem UG(w:Wd)(c o cap:Nat)(l:List Nat)(hl:Bys l)(hL:l.length=174)(hcap:174<=cap)(hA:At w c o l)(hd:gZ l) :Calls prog 68 #[.slice (some ⟨c,o,none⟩) 174 cap] w fun e w'=>e=.returned (.tuple #[.agg (ckA (rdC l)),.int .i64 0])/\Chg No w w':=by
 obtain⟨K1,K0,G0⟩:=gb w;have HA:=BE hA;have HL:=BE hL;obtain⟨h1,h2,h3⟩:=hd;have HD:=BE h3;have x1:=hl.getD 126;have x2:=hl.getD 127;have ha:Hid (Ck ((w.alloc (.cells (ckA ck0) 55)).alloc (.cells (ckA ck0) 55)) (w.heap.size+1) ck0):=BE K1;have h0:=BE K0;have f6:=BE G0;go_enter func68,ntmps68;go_wp2_with (first | refine CK rfl rfl w.heap.size rfl ?_ | refine CK rfl rfl (w.heap.size+1) (World.size_alloc _ _) ?_ | refine FK rfl rfl ?_ | refine Bv rfl (.tmp 4) (.tmp 10) rfl (w.heap.size+1) rfl rfl ha ?_);intro w1 K1 G1;have p2:Hid (Chg No w w1):=BE (f6.out.trans' G1 (fun i hi hh=>om));have HS:Hid (Nb w w1 (rdK l 0 0 false 0 0 0)):=BE ⟨K1.eq (kw l).symm,h0.out.chg G1 om,p2⟩;have A1:=HA.out.chg p2 (fun e=>e);have k1:=A1.2 126 (by rw[HL.out];decide);have k2:=A1.2 127 (by rw[HL.out];decide);have f8:=BE A1;generalize l.getD 126 0=y1 at k1 h1 x1;generalize l.getD 127 0=y2 at k2 h2 x2;go_wp2_with fail
 go_loopw [5] (fun t wr=>∃k:Nat,k<=10/\t=.int .i64 (164+k:Nat)/\wr=w1) (fun t _=>174 - (intOf t).toNat)
 case atStart=>exact⟨0,dc,rfl,rfl⟩
 case round=>
  obtain⟨k,hk,rfl,rfl⟩:=hrel;by_cases La:k<10
  ·have kd:((164+k:Nat):Int)<174:=om;have hc:(0:Int)<=((164+k:Nat):Int):=om;have k1:=f8.out.2 (164+k) (by rw[HL.out];omega);rw[HD.out (164+k) om om] at k1;generalize hq:164+k=q at *
   have HQ:=BE hq;go_wp2;have hq:=HQ.out;refine⟨⟨k+1,om,?_,trivial⟩,by simp[intOf];omega⟩;rw[show ((164+(k+1):Nat):Int)=(q:Int)+1 by omega]
  ·have e:k=10:=om;subst e;go_wp2_with fail
   go_loopw [6] (fun t wr=>∃k:Nat,k<=24/\t=.int .i64 k/\Nb w wr (rdK l k 0 false 0 0 0)) (fun t _=>24 - (intOf t).toNat)
   case atStart=>exact⟨0,dc,rfl,HS⟩
   case round=>
    obtain⟨k,hk,rfl,hS⟩:=hrel;by_cases La:k<24
    ·have kd:(k:Int)<24:=om;have hc:(0:Int)<=(k:Int):=om;have ar:=HA.out.chg hS.chg (fun e=>e);have it:=FC wr (some ⟨c,o+5*k,none⟩) 5 (cap - 5*k) (FJ l (5*k) 5) (by rw[BJ (by rw[HL.out];omega)]) (Cs hl _ _) (by rw[BJ (by rw[HL.out];omega)];decide) (ar.held (5*k) 5 _ (by rw[HL.out];omega));have HS:=BE hS;go_wp2_with fail;refine it.mono ?_;rintro e w2 ⟨rfl,G2⟩;have no:=HS.out.pure G2;have k1:=no.ck.F k La;have f1:=no.ck.frozen k;have HU:=BE (Ke l 0 5 k);rw[AW] at HU;have B':=BE no;rw[show le (FJ l (5*k) 5)=fld l (5*k) 5 from rfl];generalize fld l (5*k) 5=x at *
     go_wp2;refine⟨⟨_,_,_,_,_,_,_,_,_,_,_,_,_,_,_,_,?hi,rfl⟩,by simp[intOf];omega⟩;refine⟨k+1,om,by go_num,?_⟩;have e:rdK l (k+1) 0 false 0 0 0={ rdK l k 0 false 0 0 0 with F:=upd (part l 0 5 k) k (x:Int) }:=(by rw[HU.out];rfl);rw[e];exact B'.out.set _ _ (B'.out.ck.setF k La _)
    ·have e:k=24:=om;subst e;have ar:=HA.out.chg hS.chg (fun e=>e);have it:=FC wr (some ⟨c,o+120,none⟩) 5 (cap - 120) (FJ l 120 5) (by rw[BJ (by rw[HL.out];omega)]) (Cs hl _ _) (by rw[BJ (by rw[HL.out];omega)];decide) (ar.held 120 5 _ (by rw[HL.out];omega));have HS:=BE hS;go_wp2_with fail;refine it.mono ?_;rintro e w2 ⟨rfl,G2⟩;have no:=HS.out.pure G2;have k1:=no.ck.N;have f1:=no.ck.frozen 24;have hv:Nb w (w2.setCell ⟨w.heap.size+1,24,none⟩ (.int .i64 (fld l 120 5:Nat))) (rdK l 24 1 false 0 0 0):=no.set _ _ (no.ck.setN _);have ar:=HA.out.chg hv.chg (fun e=>e);have it:=FC (w2.setCell ⟨w.heap.size+1,24,none⟩ (.int .i64 (fld l 120 5:Nat))) (some ⟨c,o+125,none⟩) 2 (cap - 125) (FJ l 125 2) (by rw[BJ (by rw[HL.out];omega)]) (Cs hl _ _) (by rw[BJ (by rw[HL.out];omega)];decide) (ar.held 125 2 _ (by rw[HL.out];omega));have hg:=BE hv;rw[show le (FJ l 120 5)=fld l 120 5 from rfl];go_wp2_with fail;generalize w2.setCell ⟨w.heap.size+1,24,none⟩ (.int .i64 (fld l 120 5:Nat))=w3 at *
     refine it.mono ?_;rintro e w4 ⟨rfl,G4⟩;have hx:Hid (Nb w w4 { rdK l 24 1 false 0 0 0 with B:=gV (fld l 125 2) 0 }):=BE ((hg.out.pure G4).eq (by apply El <;> intros <;> simp[rdK,gV]))
     have x3:=gW hl (a:=125) (by rw[HL.out];omega);rw[show le (FJ l 125 2)=fld l 125 2 from rfl];go_wp2_with fail
     go_loopw [7,8] (fun x t wr=>∃k:Nat,k<=12/\t=.int .i64 k/\x=.int .i64 ((fld l 125 2 / 2 ^ k:Nat):Int)/\Nb w wr { rdK l 24 1 false 0 0 0 with B:=gV (fld l 125 2) k }) (fun _ t _=>12 - (intOf t).toNat)
     case atStart=>exact⟨0,dc,rfl,by simp,hx⟩
     case round=>
      obtain⟨k,hk,rfl,rfl,hS⟩:=hrel;by_cases La:k<12
      ·have kd:(k:Int)<12:=om;have hc:(0:Int)<=(k:Int):=om;have k1:=hS.ck.B k La;have f1:=hS.ck.frozen (25+k);have f9:fld l 125 2 / 2 ^ k<=fld l 125 2:=Nat.div_le_self _ _;have t1:=lB (fld l 125 2 / 2 ^ k);have t2:=lC (fld l 125 2 / 2 ^ k);have HT:Hid (((((fld l 125 2 / 2 ^ k:Nat):Int) % 2) == 1)=(fld l 125 2).testBit k):=BE (by
        have e:((fld l 125 2 / 2 ^ k:Nat):Int) % 2=((fld l 125 2 / 2 ^ k % 2:Nat):Int):=om
        rw[Nat.testBit_eq_decide_div_mod_eq,e]
        by_cases h:fld l 125 2 / 2 ^ k % 2=1
        ·
         rw[h];rfl
        ·
         have:fld l 125 2 / 2 ^ k % 2=0:=om
         rw[this];rfl)
       have HV:Hid ((fld l 125 2 / 2 ^ (k+1):Nat)=fld l 125 2 / 2 ^ k / 2):=BE (by rw[Nat.pow_succ,Nat.div_div_eq_div_mul]);have HU:=BE (bN (fld l 125 2) k);have HS:=BE hS;generalize fld l 125 2=v at *
       generalize v / 2 ^ k=x at *
       go_wp2;rw[HT.out];refine⟨⟨k+1,om,by go_num,by rw[HV.out];simp,?_⟩,by simp[intOf];omega⟩;rw[<-HU.out];exact HS.out.set _ _ (HS.out.ck.setB k La _)
      ·have e:k=12:=om;subst e;have ar:=HA.out.chg hS.chg (fun e=>e);have k1:=ar.2 127 (by rw[HL.out];decide);have k2:=hS.ck.C;have f2:=hS.ck.frozen 37;have x4:=hl.getD 127;have HC:=BE (Mn hl (a:=127) (by rw[HL.out];decide));have hv:Nb w (wr.setCell ⟨w.heap.size+1,37,none⟩ (.int .i64 (l.getD 127 0:Nat))) (rdK l 24 1 true 1 0 0):=by
        rw[<-HC.out];refine(hS.set 37 _ (hS.ck.setC _)).eq ?_;apply El <;> intros <;> simp_all[rdK,gV]
       have hg:=BE hv;generalize l.getD 127 0=y at *
       go_wp2_with fail;generalize wr.setCell ⟨w.heap.size+1,37,none⟩ (.int .i64 (y:Nat))=w7 at *
       go_loopw [9] (fun t wr=>∃k:Nat,k<=12/\t=.int .i64 k/\Nb w wr (rdK l 24 1 true 1 k k)) (fun t _=>12 - (intOf t).toNat)
       case atStart=>exact⟨0,dc,rfl,hg⟩
       case round=>
        obtain⟨k,hk,rfl,hS⟩:=hrel;by_cases La:k<12
        ·have kd:(k:Int)<12:=om;have hc:(0:Int)<=(k:Int):=om;have ar:=HA.out.chg hS.chg (fun e=>e);have it:=FC wr (some ⟨c,o+(128+2*k),none⟩) (130+2*k - (128+2*k)) (cap - (128+2*k)) (FJ l (128+2*k) 2) (by rw[BJ (by rw[HL.out];omega)];omega) (Cs hl _ _) (by rw[BJ (by rw[HL.out];omega)];decide) (by rw[show 130+2*k - (128+2*k)=2 by omega];exact ar.held (128+2*k) 2 _ (by rw[HL.out];omega));have HS:=BE hS;go_wp2_with fail;refine it.mono ?_;rintro e w2 ⟨rfl,G2⟩;have no:=HS.out.pure G2;have k1:=no.ck.R k La;have f1:=no.ck.frozen (38+k);have e1:rdK l 24 1 true 1 (k+1) k={ rdK l 24 1 true 1 k k with R:=upd (part l 128 2 k) k ((fld l (128+2*k) 2:Nat):Int) }:=(by rw[Ke];rfl);have e2:rdK l 24 1 true 1 (k+1) (k+1)={ rdK l 24 1 true 1 (k+1) k with S:=upd (part l 152 1 k) k ((fld l (152+1*k) 1:Nat):Int) }:=(by rw[Ke];rfl);rw[Nat.one_mul,Mn hl (a:=152+k) (by rw[HL.out];omega)] at e2;have hv:Nb w (w2.setCell ⟨w.heap.size+1,38+k,none⟩ (.int .i64 (fld l (128+2*k) 2:Nat))) (rdK l 24 1 true 1 (k+1) k):=by
          rw[e1];exact no.set _ _ (no.ck.setR k La _)
         have ar:=HA.out.chg hv.chg (fun e=>e);have k3:=ar.2 (152+k) (by rw[HL.out];omega);have k4:=hv.ck.S k La;have f4:=hv.ck.frozen (50+k);have x5:=hl.getD (152+k);have f3:Nb w ((w2.setCell ⟨w.heap.size+1,38+k,none⟩ (.int .i64 (fld l (128+2*k) 2:Nat))).setCell ⟨w.heap.size+1,50+k,none⟩ (.int .i64 (l.getD (152+k) 0:Nat))) (rdK l 24 1 true 1 (k+1) (k+1)):=by
          rw[e2];exact hv.set _ _ (hv.ck.setS k La _)
         have hx:=BE f3;rw[show le (FJ l (128+2*k) 2)=fld l (128+2*k) 2 from rfl];generalize fld l (128+2*k) 2=x at *
         generalize l.getD (152+k) 0=z at *
         go_wp2;exact⟨⟨k+1,om,by go_num,hx⟩,by simp[intOf];omega⟩
        ·have e:k=12:=om;subst e;have h6:=hS.eq (bO l);have ha:=BE h6.ck;have h0:=BE h6.z;have HG:=BE h6.chg;go_wp2_with (first | refine Ba rfl (.tmp 4) rfl (w.heap.size+1) rfl ha ?_ | refine Bv rfl (.tmp 2) (.tmp 101) rfl w.heap.size rfl rfl h0 ?_);intro w3 T3 G3;have f5:=BE T3;have f7:Hid (Chg No w w3):=BE (HG.out.trans' G3 (fun i hi ht=>om));go_wp2;refine AZ (KY rfl _ rfl f5) rfl ?_;exact⟨rfl,f7⟩
end
end Go.Proofs.YtmdpnpjacfedpaaGreat.AA
namespace Go.Proofs.YtmdpnpjacfedpaaGreat.AE
open List
open Go.Proofs.Tryz
open Go.Sort
set_option linter.unusedSectionVars false
variable {α:Type} [Inhabited α]
def sg (d:Array α) (a b:Nat):List α:=(List.range' a (b - a)).map fun i=>d[i]!
theorem DP(d:Array α)(a b:Nat):(sg d a b).length=b - a:=by simp[sg]
theorem Gn(d:Array α)(a b i:Nat)(h:i<b - a):(sg d a b)[i]?=some d[a+i]!:=by
 simp[sg,h]
theorem Mo{d e:Array α}{a b a' b':Nat}(hl:b - a=b' - a')(h:∀i,i<b - a->d[a+i]! = e[a'+i]!):sg d a b=sg e a' b':=by
 apply ext_getElem?;intro i;by_cases hi:i<b - a
 ·rw[Gn d a b i hi,Gn e a' b' i om,h i hi]
 ·rw[Ae (by rw[DP];omega),Ae (by rw[DP];omega)]
theorem D3(d:Array α)(a m b:Nat)(h1:a<=m)(h2:m<=b):sg d a b=sg d a m ++ sg d m b:=by
 apply ext_getElem?;intro i;by_cases hi:i<m - a
 ·rw[Gn d a b i om,Af (by rw[DP];omega),Gn d a m i hi]
 ·rw[Aa (by rw[DP];omega),DP];by_cases hb:i<b - a
  ·rw[Gn d a b i hb,Gn d m b (i - (m - a)) om,show m+(i - (m - a))=a+i by omega]
  ·rw[Ae (by rw[DP];omega),Ae (by rw[DP];omega)]
theorem Ww{d:Array α}{a b:Nat}{x:α}:x ∈ sg d a b<->∃i,a<=i/\i<b/\d[i]! = x:=by
 constructor
 ·intro h;obtain⟨i,hi,rfl⟩:=mem_map.1 h;rw[mem_range'_1] at hi;exact⟨i,hi.1,om,rfl⟩
 ·rintro ⟨i,h1,h2,rfl⟩;exact mem_map.2 ⟨i,by rw[mem_range'_1];omega,rfl⟩
theorem Wx(d:Array α):sg d 0 d.size=d.toList:=by
 apply ext_getElem?;intro i;by_cases hi:i<d.size
 ·rw[Gn d 0 d.size i om,AW,Array.getElem?_toList,Array.getElem?_eq_getElem hi,getElem!_pos d i hi]
 ·rw[Ae (by rw[DP];omega),Ae (by simp;omega)]
def eqv (lt:α->α->Bool) (x y:α):Bool:=!lt x y && !lt y x
variable {lt:α->α->Bool}
theorem Wy(h:SWO lt)(x:α):eqv lt x x=true:=by simp[eqv,h.irrefl]
theorem gj(h:SWO lt){x y z:α}(h1:eqv lt x y=true)(h2:eqv lt x z=true):lt y z=false:=by
 simp only[eqv,Ao,Bool.not_eq_true'] at h1 h2;exact h.ntrans _ _ _ h1.2 h2.1
structure Nc (lt:α->α->Bool) (a b:Nat) (d d':Array α):Prop where
 size:d'.size=d.size
 out:∀i,i<a\/b<=i->d'[i]! = d[i]!
 flt:∀x,(sg d' a b).filter (eqv lt x)=(sg d a b).filter (eqv lt x)
theorem Nc.refl(a b:Nat)(d:Array α):Nc lt a b d d:=⟨rfl,fun _ _=>rfl,fun _=>rfl⟩
theorem Nc.trans{a b:Nat}{d e f:Array α}(h:Nc lt a b d e)(k:Nc lt a b e f):Nc lt a b d f:=
 ⟨k.size.trans h.size,fun i hi=>(k.out i hi).trans (h.out i hi),fun x=>(k.flt x).trans (h.flt x)⟩
theorem Nc.mono{a b a' b':Nat}{d e:Array α}(h:Nc lt a b d e)(ha:a'<=a)(hb:b<=b')(hab:a<=b):Nc lt a' b' d e:=by
 refine⟨h.size,fun i hi=>h.out i om,fun x=>?_⟩;rw[D3 e a' a b' ha om,D3 e a b b' hab hb,D3 d a' a b' ha om,D3 d a b b' hab hb];simp only[filter_append];rw[h.flt x,Mo (d:=e) (e:=d) (a:=a') (b:=a) rfl (fun i hi=>h.out _ om),Mo (d:=e) (e:=d) (a:=b) (b:=b') rfl (fun i hi=>h.out _ om)]
def Zq (d:Array α) (a m b:Nat):Array α:=(Array.range d.size).map fun i=>if a<=i/\i<a+(b - m) then d[i+(m - a)]! else if a+(b - m)<=i/\i<b then d[i - (b - m)]! else d[i]!
theorem Hz(d:Array α)(a m b:Nat):(Zq d a m b).size=d.size:=by simp[Zq]
theorem Jo(d:Array α)(a m b i:Nat)(h:i<d.size):(Zq d a m b)[i]! = if a<=i/\i<a+(b - m) then d[i+(m - a)]! else if a+(b - m)<=i/\i<b then d[i - (b - m)]! else d[i]!:=by
 rw[getElem!_pos (Zq d a m b) i (by rw[Hz];exact h)];simp[Zq]
theorem Oo(d:Array α)(i:Nat)(h:d.size<=i):d[i]! = default:=by
 rw[getElem!_neg d i om]
theorem bR(d:Array α)(a m b i:Nat)(hm:m<=b)(ha:a<=m)(h:i<a\/b<=i):(Zq d a m b)[i]! = d[i]!:=by
 by_cases hi:i<d.size
 ·rw[Jo d a m b i hi,AI om,AI om]
 ·rw[Oo _ _ (by rw[Hz];omega),Oo _ _ om]
theorem mZ{d e:Array α}(hs:d.size=e.size)(h:∀i,i<d.size->d[i]! = e[i]!):d=e:=
 Array.ext hs fun t h1 h2=>by have:=h t h1;rwa [getElem!_pos d t h1,getElem!_pos e t h2] at this
theorem bS(d:Array α)(a m b:Nat)(h1:a<=m)(h2:m<=b)(hb:b<=d.size):sg (Zq d a m b) a (a+(b - m))=sg d m b:=by
 refine Mo om fun i hi=>?_;rw[Jo d a m b _ om,AJ om,show a+i+(m - a)=m+i by omega]
theorem bT(d:Array α)(a m b:Nat)(h1:a<=m)(h2:m<=b)(hb:b<=d.size):sg (Zq d a m b) (a+(b - m)) b=sg d a m:=by
 refine Mo om fun i hi=>?_;rw[Jo d a m b _ om,AI om,AJ om,show a+(b - m)+i - (b - m)=a+i by omega]
theorem bU(hS:SWO lt)(d:Array α)(a m b:Nat)(h1:a<=m)(h2:m<=b)(hb:b<=d.size)(h:∀x y,a<=x->x<m->m<=y->y<b->lt d[y]! d[x]! = true):Nc lt a b d (Zq d a m b):=by
 refine⟨Hz ..,fun i hi=>bR d a m b i h2 h1 hi,fun x=>?_⟩;rw[D3 _ a (a+(b - m)) b om om,bS d a m b h1 h2 hb,bT d a m b h1 h2 hb,D3 d a m b h1 h2];simp only[filter_append];by_cases hA:(sg d a m).filter (eqv lt x)=[]
 ·rw[hA];simp
 ·have hB:(sg d m b).filter (eqv lt x)=[]:=by
   rw[filter_eq_nil_iff];intro v hv hx;obtain⟨u,hu⟩:=exists_mem_of_ne_nil _ hA;obtain⟨it,no⟩:=mem_filter.1 hu;obtain⟨i,i1,i2,rfl⟩:=Ww.1 it;obtain⟨j,j1,j2,rfl⟩:=Ww.1 hv;have:=gj hS hx no;rw[h i j i1 i2 j1 j2] at this;cases this
  rw[hB];simp
theorem bV(d:Array α)(j:Nat)(h:j+1<d.size):swp d (j+1) j=Zq d j (j+1) (j+2):=by
 refine mZ (by rw[swp_size,Hz]) fun i hi=>?_;rw[swp_size] at hi;rw[swp_get d h om,Jo d _ _ _ i hi];by_cases h1:i=j
 ·subst h1;rw[AJ rfl,AJ om];congr 1;omega
 ·rw[AI h1];by_cases h2:i=j+1
  ·subst h2;rw[AJ rfl,AI om,AJ om];congr 1;omega
  ·rw[AI h2,AI om,AI om]
theorem H6(hS:SWO lt)(a i:Nat):∀(j:Nat) (d:Array α),j<=i->i<d.size->a<=i->Nc lt a (i+1) d (insInner lt a j d)
 | 0,d,_,_,_=>by rw[insInner];exact Nc.refl ..
 | j+1,d,hj,hi,ha=>by
  rw[insInner]
  by_cases h:(j+1 > a && lt d[j+1]! d[j]!)=true
  ·
   rw[AJ h]
   simp only[Ao,Al] at h
   have h1:Nc lt j (j+2) d (swp d (j+1) j):=by
    rw[bV d j om];refine bU hS d j (j+1) (j+2) om om om fun x y x1 x2 y1 y2=>?_;rw[show x=j by omega,show y=j+1 by omega];exact h.2
   exact(h1.mono om om om).trans (H6 hS a i j _ om (by rw[swp_size];exact hi) ha)
  ·rw[AI h];exact Nc.refl ..
theorem GW(lt:α->α->Bool)(a:Nat):∀(j:Nat) (d:Array α),(insInner lt a j d).size=d.size
 | 0,d=>by rw[insInner]
 | j+1,d=>by
  rw[insInner]
  split
  ·
   rw[GW lt a j,swp_size]
  ·
   rfl
theorem Mq(hS:SWO lt)(a b:Nat):∀(n i:Nat) (d:Array α),b - i=n->a<=i->b<=d.size->a<=b->Nc lt a b d (insOuter lt a b i d):=by
 intro n
 induction n with
 | zero=>intro i d h _ _ _;rw[insOuter,AI om];exact Nc.refl ..
 | succ n ih=>
  intro i d h ha hb it;rw[insOuter,AJ om];exact((H6 hS a i i d (AM _) om ha).mono (AM _) om om).trans (ih (i+1) _ om om (by rw[GW];exact hb) it)
theorem LY(hS:SWO lt)(d:Array α)(a b:Nat)(hab:a<=b)(hb:b<=d.size):Nc lt a b d (insertionSort lt d a b)/\SortedIn lt a b (insertionSort lt d a b):=
 ⟨Mq hS a b _ (a+1) d rfl om hb hab,(insertionSort_holds (lt:=lt) hS d a b hab hb).2⟩
end Go.Proofs.YtmdpnpjacfedpaaGreat.AE
namespace Go.Proofs.YtmdpnpjacfedpaaGreat.AE
open List
open Go.Proofs.Tryz
open AA
open Go.Shelf Go.RowKit Go.Lib Go.Sort
variable {P:Program}{α:Type} [Inhabited α]
structure nu (lt:α->α->Bool) (d d':Array α):Prop where
 stb:Nc lt 0 d.size d d'
 so:SortedIn lt 0 d.size d'
end Go.Proofs.YtmdpnpjacfedpaaGreat.AE
namespace Go.Proofs.YtmdpnpjacfedpaaGreat.AE
open List
open Go.Proofs.Tryz
open AA
open Go.Sort
abbrev Bc:=Int × Int × Int × Int × Int × Bool
abbrev Bc.P (f:Bc):Int:=f.1
abbrev Bc.T (f:Bc):Int:=f.2.1
abbrev Bc.O (f:Bc):Int:=f.2.2.1
abbrev Bc.S (f:Bc):Int:=f.2.2.2.1
abbrev Bc.C (f:Bc):Int:=f.2.2.2.2.1
abbrev Bc.L (f:Bc):Bool:=f.2.2.2.2.2
def f0:Bc:=⟨0,0,0,0,0,false⟩
def fL (f:Bc):List Value:=[.int .i64 f.P,.int .i64 f.T,.int .i64 f.O,.int .i64 f.S,.int .i64 f.C,.bool f.L]
def fA (f:Bc):Array Value:=(fL f).toArray
theorem Eo(f:Bc):(fL f).length=6:=rfl
theorem Wz(f:Bc):∀v ∈ fL f,v.oneCell'=true:=by
 intro v hv;simp only[fL,mem_cons,not_mem_nil,or_false] at hv;rcases hv with rfl | rfl | rfl | rfl | rfl | rfl <;> rfl
def snd (f:Bc):Bool:=decide (0<=f.P) && decide (f.P<96) && decide (0<=f.O) && decide (f.O<25) && decide (0<=f.S) && decide (f.S<1099511627776) && decide (0<=f.C) && decide (f.C<256)
theorem Cv(f:Bc):snd f=true<->0<=f.P/\f.P<96/\0<=f.O/\f.O<25/\0<=f.S/\f.S<1099511627776/\0<=f.C/\f.C<256:=by
 simp[snd,and_assoc]
def Gp (a b:Int):Bool:=decide (0<=a) && decide (a<256) && decide (0<=b) && decide (b<256) && decide (1<=(b - a) % 256) && decide ((b - a) % 256<=127)
def cnd (of ab:Int) (f:Bc):Bool:=snd f && decide (f.O=of) && decide (ab<f.S)
def mx (l:List Bc):Int:=l.foldl (fun t f=>if t<f.S then f.S else t) (-1)
def UH (l:List Bc) (of ab:Int):List Bc:=(l.filter (cnd of ab)).filter fun f=>decide (f.S=mx (l.filter (cnd of ab)))
def Jp (l:List Bc):List Bc:=(List.range 96).flatMap fun (p:Nat)=>l.filter fun f=>decide (f.P=(p:Int))
def lat (l:List Bc) (of ab:Int):List Bc:=Jp (UH l of ab)
def best (b:Bc) (r:List Bc):Bc:=r.foldl (fun b f=>if Gp f.C b.C then f else b) b
def pk:List Bc->Option Bc
 | []=>none
 | x :: r=>some (best x r)
def newest (l:List Bc) (of ab:Int):Option Bc:=pk (lat l of ab)
def bW (a b:Int):Int:=if a<b then -1 else if b<a then 1 else 0
def cf (x y:Bc):Int:=if bW y.S x.S≠0 then bW y.S x.S else bW x.P y.P
theorem W7(x y:Bc):ltOf cf x y=true<->y.S<x.S\/(y.S=x.S/\x.P<y.P):=by
 unfold ltOf cf bW;rw[decide_eq_true_iff]
 repeat' split
 all_goals omega
theorem Ep(x y:Bc):ltOf cf x y=false<->x.S<y.S\/(x.S=y.S/\y.P<=x.P):=by
 rw[<-Bool.not_eq_true,W7];omega
theorem nO:SWO (ltOf cf) where
 irrefl x:=by rw[Ep];omega
 trans x y z h1 h2:=by rw[W7] at *;omega
 ntrans x y z h1 h2:=by rw[Ep] at *;omega
theorem bX(x y:Bc):eqv (ltOf cf) x y=true<->x.S=y.S/\x.P=y.P:=by
 simp only[eqv,Ao,Bool.not_eq_true',Ep];omega
theorem Kj:∀(l k:List Bc),l.Pairwise (fun a b=>a.P<=b.P)->k.Pairwise (fun a b=>a.P<=b.P)->(∀p:Int,l.filter (fun f=>decide (f.P=p))=k.filter (fun f=>decide (f.P=p)))->l=k
 | [],[],_,_,_=>rfl
 | [],y :: s,_,_,h=>by have:=h y.P;simp at this
 | x :: r,[],_,_,h=>by have:=h x.P;simp at this
 | x :: r,y :: s,hl,hk,h=>by
  rw[pairwise_cons] at hl hk
  have e:x.P=y.P:=by
   have h1:x ∈ (y :: s).filter (fun f=>decide (f.P=x.P)):=(by rw[<-h x.P];simp);have h2:y ∈ (x :: r).filter (fun f=>decide (f.P=y.P)):=(by rw[h y.P];simp);have g1:y.P<=x.P:=by
    rcases mem_cons.1 (mem_filter.1 h1).1 with e | e
    ·rw[e];exact Int.le_refl _
    ·exact hk.1 _ e
   have g2:x.P<=y.P:=by
    rcases mem_cons.1 (mem_filter.1 h2).1 with e | e
    ·rw[e];exact Int.le_refl _
    ·exact hl.1 _ e
   omega
  have hx:=h x.P;rw[filter_cons_of_pos (by simp),filter_cons_of_pos (by simp[e])] at hx;simp only[List.cons.injEq] at hx;obtain⟨rfl,hx⟩:=hx;congr 1;refine Kj r s hl.2 hk.2 fun p=>?_;by_cases hp:x.P=p
  ·rw[<-hp];exact hx
  ·have:=h p
   rwa [filter_cons_of_neg (by simpa using hp),filter_cons_of_neg (by simpa using hp)] at this
theorem Qr(l:List Bc):(Jp l).Pairwise (fun a b=>a.P<=b.P):=by
 unfold Jp;rw[pairwise_flatMap];refine⟨fun p _=>?_,?_⟩
 ·rw[pairwise_iff_forall_sublist];intro a b h;have ha:=h.subset (mem_cons_self);have hb:=h.subset (mem_cons_of_mem _ mem_cons_self);have h1:=(mem_filter.1 ha).2;have h2:=(mem_filter.1 hb).2;simp only[Al] at h1 h2;omega
 ·refine pairwise_lt_range.imp fun {p q} hpq x hx y hy=>?_;have h1:=(mem_filter.1 hx).2;have h2:=(mem_filter.1 hy).2;simp only[Al] at h1 h2;omega
theorem Mr(l:List Bc)(p:Nat):∀n,((List.range n).flatMap fun (q:Nat)=>(l.filter fun f=>decide (f.P=(q:Int))).filter fun f=>decide (f.P=(p:Int)))=if p<n then l.filter (fun f=>decide (f.P=(p:Int))) else []:=by
 intro n
 induction n with
 | zero=>simp
 | succ n ih=>
  rw[range_succ,flatMap_append,ih];simp only[flatMap_cons,flatMap_nil,append_nil,filter_filter];by_cases h:p<n
  ·have e2:l.filter (fun a=>decide (a.P=(p:Int)) && decide (a.P=(n:Int)))=[]:=filter_eq_nil_iff.2 fun a _=>by
    simp only[Ao,Al];omega
   rw[AJ h,AJ om,e2,append_nil]
  ·rw[AI h,A7];by_cases e:p=n
   ·subst e;rw[AJ om];congr 1;funext f;simp
   ·rw[AI om,filter_eq_nil_iff.2];intro a _;simp only[Ao,Al];omega
theorem Qs(l:List Bc)(hl:∀f ∈ l,0<=f.P/\f.P<96)(p:Int):(Jp l).filter (fun f=>decide (f.P=p))=l.filter (fun f=>decide (f.P=p)):=by
 by_cases hp:0<=p/\p<96
 ·obtain⟨q,rfl⟩:∃q:Nat,p=q:=⟨p.toNat,om⟩;unfold Jp;rw[filter_flatMap,Mr,AJ om]
 ·rw[filter_eq_nil_iff.2,filter_eq_nil_iff.2]
  ·intro a ha;have:=hl a ha;simp only[Al];omega
  ·intro a ha;unfold Jp at ha;obtain⟨q,hq,h⟩:=mem_flatMap.1 ha;have:=hl a (mem_filter.1 h).1;simp only[Al];omega
theorem H7{l:List Bc}{f:Bc}:f ∈ Jp l<->f ∈ l/\0<=f.P/\f.P<96:=by
 unfold Jp;rw[mem_flatMap];constructor
 ·rintro ⟨q,hq,h⟩;have h1:=mem_filter.1 h;have h2:=h1.2;simp only[Al] at h2;rw[mem_range] at hq;exact⟨h1.1,om,om⟩
 ·rintro ⟨h,h1,h2⟩;exact⟨f.P.toNat,mem_range.2 om,mem_filter.2 ⟨h,by simp only[Al];omega⟩⟩
theorem W8(l:List Bc):∀t:Int,t<=l.foldl (fun t f=>if t<f.S then f.S else t) t/\(∀f ∈ l,f.S<=l.foldl (fun t f=>if t<f.S then f.S else t) t)/\(l.foldl (fun t f=>if t<f.S then f.S else t) t=t\/∃f ∈ l,f.S=l.foldl (fun t f=>if t<f.S then f.S else t) t):=by
 induction l with
 | nil=>intro t;exact⟨Int.le_refl _,by simp,AK rfl⟩
 | cons x r ih=>
  intro t;rw[foldl_cons];obtain⟨h1,h2,h3⟩:=ih (if t<x.S then x.S else t);have e:t<=(if t<x.S then x.S else t)/\x.S<=(if t<x.S then x.S else t):=by split <;> omega
  refine⟨om,?_,?_⟩
  ·intro f hf;rcases mem_cons.1 hf with rfl | hf
   ·omega
   ·exact h2 f hf
  ·rcases h3 with h3 | ⟨f,hf,h3⟩
   ·rw[h3];split
    ·exact AL ⟨x,by simp,rfl⟩
    ·exact AK rfl
   ·exact AL ⟨f,mem_cons_of_mem _ hf,h3⟩
theorem mx_le{l:List Bc}{f:Bc}(h:f ∈ l):f.S<=mx l:=(W8 l (-1)).2.1 f h
theorem Qt{l:List Bc}(h:l≠[])(h0:∀f ∈ l,0<=f.S):∃f ∈ l,f.S=mx l:=by
 rcases(W8 l (-1)).2.2 with e | e
 ·obtain⟨f,hf⟩:=exists_mem_of_ne_nil l h;have h1:=mx_le hf;have h2:=h0 f hf;have e':mx l = -1:=e;omega
 ·exact e
theorem eh{l:List Bc}{t:Int}(h1:∀f ∈ l,f.S<=t)(h2:∃f ∈ l,f.S=t)(h0:∀f ∈ l,0<=f.S):mx l=t:=by
 obtain⟨f,hf,e⟩:=h2;obtain⟨g,hg,e2⟩:=Qt (ne_nil_of_mem hf) h0;have:=mx_le hf;have:=h1 g hg;omega
theorem Jq{of ab:Int}{f:Bc}(h:cnd of ab f=true):snd f=true/\f.O=of/\ab<f.S:=by
 simpa[cnd,and_assoc] using h
theorem Er(t:Int):∀(l:List Bc),l.Pairwise (fun a b=>b.S<=a.S)->(∀f ∈ l,f.S<=t)->l.takeWhile (fun f=>!decide (f.S<t))=l.filter (fun f=>decide (f.S=t))
 | [],_,_=>rfl
 | x :: r,h,hl=>by
  rw[pairwise_cons] at h
  have hx:=hl x (by simp)
  by_cases e:x.S=t
  ·
   rw[takeWhile_cons_of_pos (by simp[e]),filter_cons_of_pos (by simp[e]),Er t r h.2 (fun f hf=>hl f (mem_cons_of_mem _ hf))]
  ·
   rw[takeWhile_cons_of_neg (by simp;omega),filter_eq_nil_iff.2]
   intro f hf
   have h1:f.S<=x.S:=by
    rcases mem_cons.1 hf with rfl | hf
    ·exact Int.le_refl _
    ·exact h.1 f hf
   simp only[Al];omega
theorem Gq{d:Array Bc}(h:SortedIn (ltOf cf) 0 d.size d):d.toList.Pairwise (fun a b=>ltOf cf b a=false):=by
 rw[pairwise_iff_getElem];intro i j hi hj no;have it:j<d.size:=by simpa using hj
 have:=h i j (Ac _) no it;rw[getElem!_pos d i om,getElem!_pos d j it] at this;simpa using this
theorem Qu(l:List Bc)(of ab:Int)(d':Array Bc)(h:nu (ltOf cf) (l.filter (cnd of ab)).toArray d'):d'.toList.takeWhile (fun f=>!decide (f.S<(d'[0]!).S))=lat l of ab:=by
 generalize hL:l.filter (cnd of ab)=L at h;have La:d'.size=L.length:=by simpa using h.stb.size
 have kd:SortedIn (ltOf cf) 0 d'.size d':=by have:=h.so;simpa[La] using this
 have hp:=Gq kd;have it:∀x,d'.toList.filter (eqv (ltOf cf) x)=L.filter (eqv (ltOf cf) x):=fun x=>by
  have:=h.stb.flt x;have e:L.toArray.size=d'.size:=by simp[La]
  rw[Wx L.toArray,e,Wx d'] at this;exact this
 have no:∀f,f ∈ d'.toList<->f ∈ L:=fun f=>by
  have:=it f;have e:eqv (ltOf cf) f f=true:=Wy nO f;constructor
  ·intro hf;have:f ∈ d'.toList.filter (eqv (ltOf cf) f):=mem_filter.2 ⟨hf,e⟩;rw[it] at this;exact(mem_filter.1 this).1
  ·intro hf;have:f ∈ L.filter (eqv (ltOf cf) f):=mem_filter.2 ⟨hf,e⟩;rw[<-it] at this;exact(mem_filter.1 this).1
 have hs:∀f ∈ L,snd f=true:=fun f hf=>by rw[<-hL] at hf;exact(Jq (mem_filter.1 hf).2).1
 unfold lat UH;rw[hL];by_cases h0:L=[]
 ·have:d'.toList=[]:=eq_nil_iff_forall_not_mem.2 fun f hf=>by rw[no,h0] at hf;simp at hf
  rw[this,h0];simp[Jp]
 ·have hv:0<d'.size:=by rw[La];exact length_pos_iff.2 h0
  have hS:d'.toList.Pairwise (fun a b=>b.S<=a.S):=hp.imp fun {a b} h=>by rw[Ep] at h;omega
  have hk:∀f ∈ d'.toList,f.S<=(d'[0]!).S:=by
   intro f hf;obtain⟨i,hi,e⟩:=mem_iff_getElem.1 hf;have ar:i<d'.size:=(by simpa using hi);by_cases h1:i=0
   ·subst h1;rw[getElem!_pos d' 0 hv,<-e];simp
   ·have:=kd 0 i (AM _) om ar;rw[Ep,getElem!_pos d' i ar] at this;have e':d'[i]=f:=(by simpa using e);rw[e'] at this;omega
  have hm:mx L=(d'[0]!).S:=by
   refine eh (fun f hf=>hk f ((no f).2 hf)) ⟨d'[0]!,(no _).1 ?_,rfl⟩ (fun f hf=>((Cv f).1 (hs f hf)).2.2.2.2.1);rw[getElem!_pos d' 0 hv];simp
  rw[Er _ _ hS hk,hm];generalize (d'[0]!).S=t;refine Kj _ _ ?_ (Qr _) fun p=>?_
  ·rw[pairwise_filter];refine hp.imp fun {a b} h h1 h2=>?_;simp only[Al] at h1 h2;rw[Ep] at h;omega
  ·rw[Qs _ (fun f hf=>by have:=(Cv f).1 (hs f (mem_filter.1 hf).1);exact⟨this.1,this.2.1⟩)];have e:=it ⟨p,0,0,t,0,false⟩;rw[filter_filter,filter_filter];have g:(fun f:Bc=>decide (f.P=p) && decide (f.S=t))=eqv (ltOf cf) ⟨p,0,0,t,0,false⟩:=by
    funext f;rw[Bool.eq_iff_iff,bX];show _<->t=f.S/\p=f.P;simp only[Ao,Al];omega
   rw[g];exact e
end Go.Proofs.YtmdpnpjacfedpaaGreat.AE
