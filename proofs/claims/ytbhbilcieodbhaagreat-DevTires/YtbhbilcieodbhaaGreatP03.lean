/-
  Lemmas.
-/
import Derived.Test.YtbhbilcieodbhaaGreatOm
import Derived.Test.YtbhbilcieodbhaaGreatP02
import Derived.Deep.Draws
import Derived.Deep.LoopGhost
set_option maxRecDepth 1000000
set_option maxHeartbeats 16000000
set_option linter.unusedSimpArgs false
namespace Go.Proofs.YtbhbilcieodbhaaGreat
open List
open Go.Proofs.Tryz
open Go.RowKit
section
variable {w:Wd}{L B:List Nat}{d m g p q b:Nat}{s:BG}{r:Int}
theorem BodR.good(h:BodR L B d 0):B.length=50/\Bys B:=by
 rcases h with ⟨_,_,_,e⟩ | ⟨_,_,_,_,e⟩ | ⟨_,r,hg,⟨_,_,_,e⟩ | ⟨_,rfl,_,_⟩⟩
 ·cases e
 ·cases e
 ·cases e
 ·exact⟨by rw[length_take,hg.2.1];decide,fun n hn=>hg.2.2.1 n (mem_of_mem_take hn)⟩
theorem DatR.good(h:DatR L B d 0):B.length=174/\Bys B:=by
 rcases h with ⟨_,_,_,e⟩ | ⟨_,_,_,_,e⟩ | ⟨_,r0,r1,r2,h0,h1,h2,rfl,_,_⟩
 ·cases e
 ·cases e
 ·refine⟨by rw[AV,AV,h0.2.1,h1.2.1,h2.2.1],fun n hn=>?_⟩;rcases mem_append.1 hn with hn | hn
  ·rcases mem_append.1 hn with hn | hn
   ·exact h0.2.2.1 n hn
   ·exact h1.2.2.1 n hn
  ·exact h2.2.2.1 n hn
def jm (L:List Nat) (a:Int) (e:Ending):Prop:=
 ∃(B:List Nat) (bd bc:Nat),BodR L B bd bc /\
  ((¬ JY B bc a/\e=.returned (.tuple #[.agg #[.int .i64 0,.int .i64 0,.int .i64 0,.int .i64 0,.bool false],.bool false])) \/
   (JY B bc a/\e=.returned (.tuple #[.agg #[.int .i64 (BS B 0 2:Nat),.int .i64 (BS B 2 1:Nat),.int .i64 (BS B 3 5:Nat),.int .i64 (BS B 8 1:Nat),.bool (II B)],.bool true])))
theorem Um(m g p q b:Nat)(r:Int)(w:Wd)(h:Do w m g p q b r)(a:Int)(c o cap:Nat)(L:List Nat)(hL:L.length=256)(bL:Bys L)(hcb:c≠b)(hcs:c<w.heap.size)(hcap:256<=cap)(hh:Cu w (.slice (some ⟨c,o,none⟩) 256 cap) L) :Calls prog 167 #[.pointer (some ⟨m,0,none⟩),.int .i64 a,.slice (some ⟨c,o,none⟩) 256 cap] w fun e w'=>jm L a e/\Do w' m g p q b r/\But b w w':=by
 have hb:=GV;have HT:=BB (Tg.new w 0 0 0 0 false);have G0:Chg No w (w.alloc (.cells #[.int .i64 0,.int .i64 0,.int .i64 0,.int .i64 0,.bool false] 127)):=(Chg.refl _ w).alloc _;have M0:=h.chg G0;have H0:=hh.chgF G0;have hs0:=G0.size;obtain⟨hms,hps,hqs,hbs⟩:=h.lts;have hcall:=dR p q b _ M0.2 c o 256 cap L hL.symm bL hcb om hcap H0;obtain⟨c0,c1,c2⟩:=M0.cells;have HM:=BB M0;have HG:=BB G0;have q1:=BJ;have q2:=EX;have q3:∀w:World,(binOp .neq 33 (.iface 56 (.int .i64 3)) .nilIface).run prog w=.ok (.bool true) w:=fun w=>kr
 clear G0 M0 H0 hL hh h hs0;go_enter func167,ntmps167;go_wp2_with fail;refine hcall.mono ?_;rintro x w1 ⟨⟨ad,n,cp,B,bd,bc,rfl,hn,hB,hO⟩,hF1,hB1⟩;clear hcall;have hcode:=hB.code.1;have HM1:=BB (HM.out.but hF1 hB1);have HB1:=BB (show But b w w1 from HG.out.but.trans hB1);have HT1:=BB (HT.out.chg hB1.chg (fun e=>om));clear c0 c1 c2 HM HT HG hF1 hB1;by_cases hbc:bc=0
 ·subst hbc;obtain⟨hlB,bB⟩:=hB.good;have hd:=Ml w1 ad n cp B bB hn (by obtain⟨g',cap',hv,-,-,hle,-⟩:=hO.lies om;injection hv;omega) hO.held;rw[Hj];have HBd:=BB hB;have HlB:=BB hlB;clear hcode hB hlB hO hn;go_wp2_with fail;refine hd.mono ?_;rintro x w2 ⟨v,y,rfl,hans,G2⟩;clear hd;have HM2:=BB (HM1.out.chg G2);have HB2:=BB (HB1.out.trans G2.but);have HT2:=BB (HT1.out.chg G2 (fun e=>e));clear HM1 HB1 HT1 G2;rcases hans with ⟨h5,-⟩ | ⟨-,hni,rfl,rfl⟩ | ⟨-,his,rfl,rfl⟩
  ·exact absurd HlB.out h5
  ·have T3:=HT2.out.alloc (.cells #[.int .i64 0,.int .i64 0,.int .i64 0,.int .i64 0,.bool false] 127);have HM3:=BB (HM2.out.chg ((Chg.refl _ w2).alloc (.cells #[.int .i64 0,.int .i64 0,.int .i64 0,.int .i64 0,.bool false] 127)));have HB3:=BB (HB2.out.alloc (.cells #[.int .i64 0,.int .i64 0,.int .i64 0,.int .i64 0,.bool false] 127));have HT3:=BB T3;clear T3 HM2 HB2 HT2;go_wp2_with (refine BK rfl (.tmp 6) (.tmp 38) rfl w.heap.size rfl rfl HT3.out ?_);intro w4 T4 G4;have HT4:=BB T4;have M4:=HM3.out.far G4 om om om om;have B4:=HB3.out.fresh G4 (AM _);have HM4:=BB M4;have HB4:=BB B4;clear T4 G4 M4 B4 HM3 HB3 HT3;go_wp2;refine AZ (Bg rfl _ rfl HT4.out) rfl ?_;exact⟨⟨B,bd,0,HBd.out,AK ⟨fun ht=>hni ht.2.1,rfl⟩⟩,HM4.out,HB4.out⟩
  ·have T3:=HT2.out.alloc (.cells #[.int .i64 (BS B 0 2:Nat),.int .i64 (BS B 2 1:Nat),.int .i64 (BS B 3 5:Nat),.int .i64 (BS B 8 1:Nat),.bool (II B)] 127);have V3:=Tg.new w2 (BS B 0 2:Nat) (BS B 2 1:Nat) (BS B 3 5:Nat) (BS B 8 1:Nat) (II B);have HM3:=BB (HM2.out.chg ((Chg.refl _ w2).alloc (.cells #[.int .i64 (BS B 0 2:Nat),.int .i64 (BS B 2 1:Nat),.int .i64 (BS B 3 5:Nat),.int .i64 (BS B 8 1:Nat),.bool (II B)] 127)));have HB3:=BB (HB2.out.alloc (.cells #[.int .i64 (BS B 0 2:Nat),.int .i64 (BS B 2 1:Nat),.int .i64 (BS B 3 5:Nat),.int .i64 (BS B 8 1:Nat),.bool (II B)] 127));have HT3:=BB T3;obtain⟨v0,v1,v2,v3,v4⟩:=V3.cells;clear T3 V3 HM2 HB2 HT2;by_cases hp:((BS B 0 2:Nat):Int)=a
   ·have hp':(((BS B 0 2:Nat):Int) != a)=false:=(by simp[hp]);have HP:=BB hp;clear hp;go_wp2_with (refine BK rfl (.tmp 6) (.tmp 39) rfl w.heap.size rfl rfl HT3.out ?_);intro w4 T4 G4;have HT4:=BB T4;have M4:=HM3.out.far G4 om om om om;have B4:=HB3.out.fresh G4 (AM _);have HM4:=BB M4;have HB4:=BB B4;clear T4 G4 M4 B4 HM3 HB3 HT3 v0 v1 v2 v3 v4;go_wp2;refine AZ (Bg rfl _ rfl HT4.out) rfl ?_;exact⟨⟨B,bd,0,HBd.out,AL ⟨⟨rfl,his,HP.out⟩,rfl⟩⟩,HM4.out,HB4.out⟩
   ·have hp':(((BS B 0 2:Nat):Int) != a)=true:=(by simp[hp]);have HP:=BB hp;clear hp;go_wp2_with (refine BK rfl (.tmp 6) (.tmp 38) rfl w.heap.size rfl rfl HT3.out ?_);intro w4 T4 G4;have HT4:=BB T4;have M4:=HM3.out.far G4 om om om om;have B4:=HB3.out.fresh G4 (AM _);have HM4:=BB M4;have HB4:=BB B4;clear T4 G4 M4 B4 HM3 HB3 HT3 v0 v1 v2 v3 v4;go_wp2;refine AZ (Bg rfl _ rfl HT4.out) rfl ?_;exact⟨⟨B,bd,0,HBd.out,AK ⟨fun ht=>HP.out ht.2.2,rfl⟩⟩,HM4.out,HB4.out⟩
 ·have q4:=Ga hcode hbc;rw[LW hbc];clear hcode;go_wp2_with (refine BK rfl (.tmp 6) (.tmp 24) rfl w.heap.size rfl rfl HT1.out ?_);intro w4 T4 G4;have HT4:=BB T4;have M4:=HM1.out.far G4 om om om om;have B4:=HB1.out.fresh G4 (AM _);have HM4:=BB M4;have HB4:=BB B4;clear T4 G4 M4 B4 HM1 HB1 HT1;go_wp2;refine AZ (Bg rfl _ rfl HT4.out) rfl ?_;exact⟨⟨B,bd,bc,hB,AK ⟨fun ht=>hbc ht.1,rfl⟩⟩,HM4.out,HB4.out⟩
theorem ZX(w:Wd)(d:Int):(Instr.build 129 #[(4,.int .i64 d)]).run prog w=.ok (.agg #[.bool false,.int .i64 0,.int .i64 0,.int .i64 0,.int .i64 0,.bool false,.bool false,.slice none 0 0,.int .i64 d]) w:=kr
theorem Ja(w:Wd):(Instr.build 129 #[]).run prog w=.ok (.agg #[.bool false,.int .i64 0,.int .i64 0,.int .i64 0,.int .i64 0,.bool false,.bool false,.slice none 0 0,.int .i64 0]) w:=kr
theorem Cr.one{base:Nat}{e:TypeId}{v:Value}{l:List Nat}(h:Cr w base e v l):v.oneCell'=true:=by
 rcases h.form with ⟨rfl,_⟩ | ⟨g,cap,rfl,_⟩ <;> rfl
theorem SF(m g p q b:Nat)(r:Int)(w:Wd)(h:Do w m g p q b r)(a:Int)(c o cap:Nat)(L:List Nat)(hL:L.length=256)(bL:Bys L)(hcb:c≠b)(hcs:c<w.heap.size)(hcap:256<=cap)(hh:Cu w (.slice (some ⟨c,o,none⟩) 256 cap) L) :Calls prog 134 #[.pointer (some ⟨m,0,none⟩),.int .i64 a,.slice (some ⟨c,o,none⟩) 256 cap] w fun e w'=>∃x v,e=.returned (SE x v)/\ToldR L a x/\Cr w' w.heap.size 5 v x.data/\Do w' m g p q b r/\But b w w':=by
 have hbd:=ZX;have HP:=BB (Pb.new w false 0 0 0 0 false false (.slice none 0 0) 0);have G0:Chg No w (w.alloc (.cells #[.bool false,.int .i64 0,.int .i64 0,.int .i64 0,.int .i64 0,.bool false,.bool false,.slice none 0 0,.int .i64 0] 129)):=(Chg.refl _ w).alloc _;have M0:=h.chg G0;have H0:=hh.chgF G0;have hs0:=G0.size;obtain⟨hms,hps,hqs,hbs⟩:=h.lts;have hcall:=M8 m g p q b r _ M0 c o cap L hL bL hcb om hcap H0;have HH:=BB hh;have HG:=BB G0;have HL:=BB hL;clear G0 M0 H0 hh h hs0 hL;go_enter func134,ntmps134;go_wp2_with fail;refine hcall.mono ?_;rintro x w1 ⟨d,rfl,hD,M1,B1⟩;clear hcall;have B1':But b w w1:=HG.out.but.trans B1;have HP1:=BB (HP.out.chg B1.chg (fun e=>om));have P2:=Pb.new w1 false 0 0 0 0 false false (.slice none 0 0) (d:Int);have G2:Chg No w1 (w1.alloc (.cells #[.bool false,.int .i64 0,.int .i64 0,.int .i64 0,.int .i64 0,.bool false,.bool false,.slice none 0 0,.int .i64 (d:Int)] 129)):=(Chg.refl _ w1).alloc _;have HP2:=BB (HP1.out.alloc (.cells #[.bool false,.int .i64 0,.int .i64 0,.int .i64 0,.int .i64 0,.bool false,.bool false,.slice none 0 0,.int .i64 (d:Int)] 129));have HB2:=BB (B1'.trans G2.but);have hs1:=B1'.size;have hs01:=HP1.out.lt;have hs2:=HB2.out.size;have hcall:=Um m g p q b r _ (M1.chg G2) a c o cap L HL.out bL hcb om hcap (HH.out.chg HB2.out.chg (fun k _ he e=>hcb ((AR he).trans e)));have HK:=BB P2;have HD:=BB hD;clear hD M1 B1 B1' P2 G2 HP1 HP HG;go_wp2_with fail;refine hcall.mono ?_;rintro x w3 ⟨⟨B,bd,bc,hB,hT⟩,M3,B3⟩;clear hcall;have HK3:=BB (HK.out.chg B3.chg (fun e=>om));have HP3:=BB (HP2.out.chg B3.chg (fun e=>om));have HB3:=BB (HB2.out.trans B3);have HM3:=BB M3;have hne:w1.heap.size≠w.heap.size:=om
 clear HK HP2 HB2 M3 B3;rcases hT with ⟨hno,rfl⟩ | ⟨hyes,rfl⟩
 ·go_wp2_with (refine EK rfl (.tmp 22) (.tmp 20) rfl w1.heap.size rfl rfl HK3.out ?_);intro w4 P4 G4;obtain⟨k0,-⟩:=P4.cells;have kf:=P4.frozen 0;have HP5:=BB (P4.set0 false);have G5:Chg (·=w1.heap.size) w3 (w4.setCell ⟨w1.heap.size,0,none⟩ (.bool false)):=G4.at _ 0 _;have HR5:=BB (HP3.out.chg G5 (fun e=>hne e.symm));have HM5:=BB (HM3.out.far G5 om om om om);have HB5:=BB (HB3.out.fresh G5 om);clear G4 G5 P4 HK3 HP3 HB3 HM3;go_wp2_with (first | (refine wpList_load_pg rfl (.tmp 7) rfl w1.heap.size rfl HP5.out ?_) | (refine wpList_store_pg rfl (.tmp 6) (.tmp 27) rfl w.heap.size rfl rfl rfl HR5.out ?_));intro w6 P6 G6;have HP6:=BB P6;have HM6:=BB (HM5.out.far G6 om om om om);have HB6:=BB (HB5.out.fresh G6 om);clear P6 G6 HM5 HB5 HP5 HR5 k0 kf;go_wp2;refine AZ (F7 rfl _ rfl HP6.out) rfl ?_;exact⟨⟨false,0,0,0,0,false,false,[],d⟩,_,rfl,⟨HD.out,B,bd,bc,hB,AK ⟨hno,rfl,rfl,rfl,rfl,rfl,rfl,rfl,rfl⟩⟩,CC _ _,HM6.out,HB6.out⟩
 ·go_wp2_with (refine EK rfl (.tmp 22) (.tmp 20) rfl w1.heap.size rfl rfl HK3.out ?_);intro w4 P4 G4;obtain⟨k0,-⟩:=P4.cells;have kf:=P4.frozen 0;have P5:=P4.set0 true;have G5:Chg (·=w1.heap.size) w3 (w4.setCell ⟨w1.heap.size,0,none⟩ (.bool true)):=G4.at _ 0 _;have HR5:=BB (HP3.out.chg G5 (fun e=>hne e.symm));have M5:=HM3.out.far G5 om om om om;have HB5:=BB (HB3.out.fresh G5 om);have hs5:=HB5.out.size;obtain⟨-,c1,-⟩:=M5.cells;have hcall:=dQ p q b _ M5.2 c o 256 cap L HL.out.symm bL hcb om hcap (HH.out.chg HB5.out.chg (fun k _ he e=>hcb ((AR he).trans e)));have hl5:=P5.lt;have HP5:=BB P5;have HM5:=BB M5;clear G4 G5 P4 P5 M5 HK3 HP3 HB3 HM3;go_wp2_with fail;refine hcall.mono ?_;rintro x w6 ⟨⟨ad,n,cp,R,dd,dc,rfl,rfl,hDat,hO⟩,hF6,hB6⟩;clear hcall;have hcode:=hDat.code.1;have P6:=HP5.out.chg hB6.chg (fun e=>om);have HR6:=BB (HR5.out.chg hB6.chg (fun e=>om));have HM6:=BB (HM5.out.but hF6 hB6);have HB6:=BB (HB5.out.trans hB6);have HP6:=BB P6;have HO6:=BB (show Cr w6 (w1.heap.size+1) 5 (.slice ad R.length cp) R from hO.mono (fun k hk=>by have:=(hO.block hk).1;omega));clear k0 kf c1 HP5 HM5 HB5 HR5 hF6 hB6 hO;by_cases hdc:dc=0
  ·subst hdc;have e0:=IE;rw[Hj];obtain⟨-,-,-,-,-,-,k6,k7,-⟩:=P6.cells;have f6:=P6.frozen 6;have f7:=P6.frozen 7;have HP7:=BB ((P6.set6 true).set7 (.slice ad R.length cp));have G7:Chg (·=w1.heap.size) w6 ((w6.setCell ⟨w1.heap.size,6,none⟩ (.bool true)).setCell ⟨w1.heap.size,7,none⟩ (.slice ad R.length cp)):=((Chg.refl (·=w1.heap.size) w6).at _ 6 _).at _ 7 _;have HR7:=BB (HR6.out.chg G7 (fun e=>hne e.symm));have HM7:=BB (HM6.out.far G7 om om om om);have HB7:=BB (HB6.out.fresh G7 om);have HO7:=BB (HO6.out.chg G7 (fun k _ hk e=>by have:=(HO6.out.block hk).1;omega));clear P6 G7 HR6 HM6 HB6 HP6 HO6 hcode;go_wp2_with (first | (refine wpList_load_pg rfl (.tmp 7) rfl w1.heap.size rfl HP7.out ?_) | (refine wpList_store_pg rfl (.tmp 6) (.tmp 43) rfl w.heap.size rfl rfl rfl HR7.out ?_));intro w8 P8 G8;have HP8:=BB P8;have HM8:=BB (HM7.out.far G8 om om om om);have HB8:=BB (HB7.out.fresh G8 om);have HO8:=BB (HO7.out.chg G8 (fun k _ hk e=>by have:=(HO7.out.block hk).1;omega));clear P8 G8 HM7 HB7 HP7 HR7 HO7 k6 k7 f6 f7;go_wp2;refine AZ (F7 rfl _ rfl HP8.out) rfl ?_;exact⟨⟨true,BS B 0 2,BS B 2 1,BS B 3 5,BS B 8 1,II B,true,R,d⟩,_,rfl,⟨HD.out,B,bd,bc,hB,AL ⟨hyes,rfl,rfl,rfl,rfl,rfl,rfl,R,dd,0,hDat,AL ⟨rfl,rfl,rfl⟩⟩⟩,HO8.out.mono (fun k hk=>by have:=(HO8.out.block hk).1;omega),HM8.out,HB8.out⟩
  ·have e0:=Gb hcode hdc;rw[LW hdc];clear P6 HO6 hcode;go_wp2_with (first | (refine wpList_load_pg rfl (.tmp 7) rfl w1.heap.size rfl HP6.out ?_) | (refine wpList_store_pg rfl (.tmp 6) (.tmp 43) rfl w.heap.size rfl rfl rfl HR6.out ?_));intro w8 P8 G8;have HP8:=BB P8;have HM8:=BB (HM6.out.far G8 om om om om);have HB8:=BB (HB6.out.fresh G8 om);clear P8 G8 HM6 HB6 HP6 HR6;go_wp2;refine AZ (F7 rfl _ rfl HP8.out) rfl ?_;exact⟨⟨true,BS B 0 2,BS B 2 1,BS B 3 5,BS B 8 1,II B,false,[],d⟩,_,rfl,⟨HD.out,B,bd,bc,hB,AL ⟨hyes,rfl,rfl,rfl,rfl,rfl,rfl,R,dd,dc,hDat,AK ⟨hdc,rfl,rfl⟩⟩⟩,CC _ _,HM8.out,HB8.out⟩
theorem Hk{c:Nat}(hc:nIsCode c)(h:c≠0):∃x,nerrV c=.iface 56 x/\∀w:World,(binOp .neq 33 (.iface 56 x) .nilIface).run prog w=.ok (.bool true) w:=by
 rcases hc with rfl | rfl | rfl | rfl | rfl
 ·exact absurd rfl h
 ·exact⟨_,rfl,Ou⟩
 ·exact⟨_,rfl,Ov⟩
 ·exact⟨_,rfl,Ox⟩
 ·exact⟨_,rfl,Oy⟩
theorem O0(hs:s.Ok){a:Int}(h:(readV s a).2.2=0):(readV s a).2.1.length=256/\Bys (readV s a).2.1:=by
 unfold readV at h ⊢;split at h
 ·cases h
 ·split at h
  ·cases h
  ·rename_i h1 h2;rw[AI h1,AI h2];exact⟨CD hs _ _,Ue hs _ _⟩
theorem Do.count(h:Do w m g p q b r)(r':Int):Do (w.setCell ⟨m,2,none⟩ (.int .i64 r')) m g p q b r':=by
 have hm:∀k,k≠m->(w.setCell ⟨m,2,none⟩ (.int .i64 r')).heap[k]?=w.heap[k]?:=fun k hk=>heap_setCell_other _ _ _ _ hk;refine⟨heap_setCell_same w m 2 _ 215 _ h.1,h.2.other (hm b h.mb.symm) (hm q ?_) (hm p ?_)⟩
 ·intro e;have h1:=h.2.1.2;rw[e,h.1] at h1;simp at h1
 ·intro e;have h1:w.heap[p]?=some (.cells #[.pointer (some ⟨q,0,none⟩)] 242):=h.2.2;rw[e,h.1] at h1;simp at h1
theorem Do.mg(h:Do w m g p q b r)(hC:BF w g s):m≠g/\p≠g/\q≠g/\b≠g:=by
 obtain⟨cs,hg,-,-⟩:=hC;refine⟨fun e=>?_,fun e=>?_,fun e=>?_,fun e=>?_⟩
 ·have h1:=h.1;rw[e,hg] at h1;simp at h1
 ·have h1:w.heap[p]?=some (.cells #[.pointer (some ⟨q,0,none⟩)] 242):=h.2.2;rw[e,hg] at h1;simp at h1
 ·have h1:=h.2.1.2;rw[e,hg] at h1;simp at h1
 ·obtain⟨c,z,hc,-⟩:=Df h.2.1.1;rw[e,hg] at hc;simp at hc
theorem Hl(m g p q b:Nat)(r:Int)(s:BG)(hs:s.Ok)(w:Wd)(h:Do w m g p q b r)(hC:BF w g s)(a:Int) :Calls prog 99 #[.pointer (some ⟨m,0,none⟩),.int .i64 a] w fun e w'=>∃s' r' x c v,e=.returned (.tuple #[SE x v,nerrV c])/\ReadR s r a s' r' x c/\Cr w' w.heap.size 5 v x.data/\Do w' m g p q b r'/\BF w' g s'/\Chg (fun k=>k=m\/k=g\/k=b) w w':=by
 have hbd:=Ja;have HP:=BB (Pb.new w false 0 0 0 0 false false (.slice none 0 0) 0);have G0:Chg No w (w.alloc (.cells #[.bool false,.int .i64 0,.int .i64 0,.int .i64 0,.int .i64 0,.bool false,.bool false,.slice none 0 0,.int .i64 0] 129)):=(Chg.refl _ w).alloc _;have M0:=h.chg G0;have C0:=hC.chg G0 (fun f=>f);obtain⟨hms,hps,hqs,hbs⟩:=h.lts;obtain⟨nm,np,nq,nb⟩:=h.mg hC;have hgs:=hC.lt;obtain⟨c0,-,-⟩:=M0.cells;have hcall:=Oz g s hs a _ C0;have hs0:(w.alloc (.cells #[.bool false,.int .i64 0,.int .i64 0,.int .i64 0,.int .i64 0,.bool false,.bool false,.slice none 0 0,.int .i64 0] 129)).heap.size=w.heap.size+1:=by simp
 rw[hs0] at hcall;have HG:=BB G0;have HM:=BB M0;have hcode:=JW s a;have q0:=BJ;have hmb:=h.mb;clear G0 M0 C0 hs0 h hC;go_enter func99,ntmps99;go_wp2_with fail;refine hcall.mono ?_;rintro x w1 ⟨ad,n,cap,rfl,hn,hO,C1,G1⟩;clear hcall c0;have hs1:=HG.out.size;have M1:=HM.out.far G1 nm np nq nb;have HP1:=BB (HP.out.chg G1 om);have G01:Chg (fun k=>k=m\/k=g\/k=b) w w1:=(HG.out.mono (T:=fun k=>k=m\/k=g\/k=b) (fun _ _ f=>f.elim)).trans' G1 (fun k _ e=>AL (AK e));by_cases hc:(readV s a).2.2=0
 ·obtain⟨hlen,hbys⟩:=O0 hs hc;have HC:=BB hc;rw[hc];obtain⟨g',cap',hv,hg',hg'',hle,hcl,-⟩:=hO.lies om;have hH:=hO.held;rw[show n=256 from om] at hH ⊢;rw[show n=256 from om,hlen] at hv;injection hv with hv1 hv2 hv3;subst hv1 hv3;generalize hLL:(readV s a).2.1=L at *
  have HLL:=BB hLL;clear hLL hcl hO hn hcode hc;obtain⟨-,-,c2⟩:=M1.cells;have M2:=M1.count (wrap64 (r+1));have G2:Chg (·=m) w1 (w1.setCell ⟨m,2,none⟩ (.int .i64 (wrap64 (r+1)))):=(Chg.refl (·=m) w1).at _ 2 _;have G02:Chg (fun k=>k=m\/k=g\/k=b) w (w1.setCell ⟨m,2,none⟩ (.int .i64 (wrap64 (r+1)))):=G01.trans' G2 (fun k _ e=>AK e);have C2:=C1.chg G2 (fun e=>nm e.symm);have HP2:=BB (HP1.out.chg G2 om);have hH2:=hH.chg G2 (fun k hk he e=>by have:=AR he;simp at this;omega);have hs12:=G2.size;have hs01:=HP1.out.lt;have hpage:=SF m g p q b (wrap64 (r+1)) _ M2 a g' 0 cap L hlen hbys om om om hH2;have hadd:=Qc m 2 w1 c2 (by simp[World.frozen?,M1.1]);have HM2:=BB M2;have HC2:=BB C2;have HG02:=BB G02;clear M1 M2 C1 C2 G1 G2 G02 G01 hH hH2 HP1;simp only[nerrV];go_wp2_with fail;refine hadd.mono ?_;rintro x w2 ⟨rfl,rfl⟩;clear hadd c2;go_wp2_with fail;refine hpage.mono ?_;rintro x w3 ⟨X,v,rfl,hT,hO3,M3,B3⟩;clear hpage;have HP3:=BB (HP2.out.chg B3.chg (fun e=>om));have HC3:=BB (HC2.out.chg B3.chg (fun e=>nb e.symm));have HG3:=BB (HG02.out.trans' B3.chg (fun k _ e=>AL (AL e)));have HM3:=BB M3;have HO3:=BB hO3;clear M3 B3 HC2 HG02 HP2 HM2;go_wp2_with (refine wpList_store_pg rfl (.tmp 4) (.tmp 28) rfl w.heap.size rfl rfl HO3.out.one HP3.out ?_);intro w4 P4 G4;have HP4:=BB P4;have HM4:=BB (HM3.out.far G4 om om om om);have HC4:=BB (HC3.out.chg G4 om);have HG4:=BB (HG3.out.trans' G4 (fun k hk e=>om));have HO4:=BB (HO3.out.chg G4 (fun k hk he e=>by have:=(HO3.out.block he).1;simp at this;omega));clear P4 G4 HM3 HC3 HG3 HP3 HO3;go_wp2;refine AZ (Bz rfl _ rfl HP4.out) rfl ?_;exact⟨(readV s a).1,wrap64 (r+1),X,0,v,rfl,⟨rfl,HC.out.symm,AL ⟨rfl,rfl,by rw[HLL.out];exact hT⟩⟩,HO4.out.mono (fun k hk=>by have:=(HO4.out.block hk).1;simp at this;omega),HM4.out,HC4.out,HG4.out⟩
 ·obtain⟨y,hy,q1⟩:=Hk hcode hc;have HY:=BB hy;rw[hy];have HM1:=BB M1;have HC1:=BB C1;have HG1:=BB G01;clear M1 C1 G1 G01 hO hn hcode hy;go_wp2_with (refine wpList_store_pg rfl (.tmp 4) (.tmp 19) rfl w.heap.size rfl rfl rfl HP1.out ?_);intro w2 P2 G2;have HP2:=BB P2;have HM2:=BB (HM1.out.far G2 om om om om);have HC2:=BB (HC1.out.chg G2 om);have HG2:=BB (HG1.out.trans' G2 (fun k hk e=>om));clear P2 G2 HM1 HC1 HG1 HP1;go_wp2;refine AZ (Bz rfl _ rfl HP2.out) rfl ?_;refine⟨(readV s a).1,r,Pg.zero,(readV s a).2.2,_,?_,⟨rfl,rfl,AK ⟨hc,rfl,rfl⟩⟩,CC _ _,HM2.out,HC2.out,HG2.out⟩;rw[HY.out];rfl
end
end Go.Proofs.YtbhbilcieodbhaaGreat
namespace Go.Proofs.YtbhbilcieodbhaaGreat
open List
open Go.Proofs.Tryz
open Go.RowKit Go.Shelf
section
variable {base g:Nat}{v:Value}{gs:List Nat}{X Y w:Wd}{ls:List (List Nat)}{α:Type}
attribute [local go_sem] Oper.semAt_some
def slc (g:Nat):Value:=.slice (some ⟨g,0,none⟩) 64 64
structure Ep (W:Wd) (base:Nat) (v:Value) (gs:List Nat) (ls:List (List Nat)):Prop where
 row:W.ownsRow base 35 1 v gs.length (gs.map slc)
 len:ls.length=gs.length
 arr:∀j,j<gs.length->Arr W (gs.getD j 0) 5 (ls.getD j [])
 nd:gs.Nodup
 off:∀k,v.ownBlock=some k->k ∉ gs
 low:∀g ∈ gs,base<=g
theorem Ep.mem_lt{W:Wd}(h:Ep W base v gs ls)(hg:g ∈ gs):g<W.heap.size:=by
 obtain⟨j,hj,rfl⟩:=getElem_of_mem hg;have:=(h.arr j hj).lt
 rwa [AQ,AU hj] at this
theorem Fr{e:TypeId}{z:Nat}{n:Nat}{xs:List Value}(h:X.ownsRow base e z v n xs)(hk:∀g c t,v.ownBlock=some g->X.heap[g]?=some (.cells c t)->Y.heap[g]?=X.heap[g]?):Y.ownsRow base e z v n xs:=by
 refine⟨h.1,?_⟩;rcases h.2 with h1 | ⟨g,cap,cur,rfl,hb,hh,r⟩
 ·exact AK h1
 ·exact AL ⟨g,cap,cur,rfl,hb,(hk _ _ _ rfl hh).trans hh,r⟩
theorem Ep.keeps(h:Ep X base v gs ls)(hk:IF X Y):Ep Y base v gs ls:=
 ⟨Fr h.row (fun g c t _ hh=>hk g c t hh),h.len,fun j hj=>(hk _ _ _ (h.arr j hj)).trans (h.arr j hj),h.nd,h.off,h.low⟩
theorem Ep.chg{S:Nat->Prop}(h:Ep X base v gs ls)(hc:Chg S X Y)(hS:∀k,S k->v.ownBlock≠some k/\k ∉ gs):Ep Y base v gs ls:=
 ⟨Fr h.row (fun g c t e hh=>hc.block g (Array.getElem?_eq_some_iff.1 hh).1 (fun s=>(hS g s).1 e)),h.len,fun j hj=>(h.arr j hj).chg hc (fun s=>(hS _ s).2 (by rw[AQ,AU hj];exact getElem_mem hj)),h.nd,h.off,h.low⟩
theorem jn(w:Wd):(Instr.makeSlice 265 (.int .i64 0) (.int .i64 4)).run prog w=.ok (.slice (some ⟨w.heap.size,0,none⟩) 0 4) (w.alloc (.cells #[.slice none 0 0,.slice none 0 0,.slice none 0 0,.slice none 0 0] 35)):=kr
theorem O7:(prog.info? 35).map (fun i=>(i.zero,i.size,i.bytes))=some (some (.slice none 0 0),1,24):=kr
theorem Uo{fn:Func}{p1 p2:Tmp}(h:fn.results=#[.cell p1 265,.cell p2 33])(tmps:Array Value){r1 r2:Nat}{v1 v2:Value}(hp1:tmps.getD p1 undef=.pointer (some ⟨r1,0,none⟩))(hp2:tmps.getD p2 undef=.pointer (some ⟨r2,0,none⟩))(b1:Boxed w r1 265 v1)(b2:Boxed w r2 33 v2) :(results fn tmps).run prog w=.ok (.tuple #[v1,v2]) w:=by
 have c1:=b1.cell;have c2:=b2.cell;have hp1':tmps[p1]?.getD undef=.pointer (some ⟨r1,0,none⟩):=by simpa using hp1
 have hp2':tmps[p2]?.getD undef=.pointer (some ⟨r2,0,none⟩):=by simpa using hp2
 simp[results,h,hp1',hp2',go_sem,c1,c2]
theorem Up(p:Nat)(w:Wd)(a:Option Addr)(n cap:Nat)(hn:n≠174)(bv:Value) :Calls prog 218 #[.pointer (some ⟨p,0,none⟩),.slice a n cap,bv] w fun e w'=>e=.returned (.tuple #[.slice none 0 0,.iface 56 (.int .i64 1)])/\Chg No w w':=by
 have hn':((n:Int) != 174)=true:=by simp;omega
 refine(callsIn_wide (n:=3)).1 ?_;refine callsIn_of_wp_marks func218 rfl trivial ?_ rfl;simp only[ntmps218,size_toArray,An,length_nil,Nat.reduceAdd,Nat.reduceSub,Array.replicate_succ,Array.replicate_zero,push_toArray,append_toArray,A6,cons_append]
 gi_wp2;refine⟨.tuple #[.slice none 0 0,.iface 56 (.int .i64 1)],?_,rfl,((((Chg.refl _ _).alloc _).alloc _).alloc _)⟩;simp[results,f218,go_sem]
def LI (w W3 W:Wd) (p q b r Bx:Nat) (M:List Nat) (pre:List Ix):Prop:=
 ∃(v:Value) (gs:List Nat),Ep W w.heap.size v gs (pre.map fun x=>IW (part 58 M x.1))/\Boxed W Bx 265 v/\(∀g,v.ownBlock=some g->g=r\/W3.heap.size<=g)/\(∀g ∈ gs,W3.heap.size<=g)/\Frm W p q b/\Chg (fun k=>k=b\/k=r\/k=Bx) W3 W
theorem LI.keep{W3:Wd}{p q b r Bx:Nat}{M:List Nat}{pre:List Ix}{row:Option Nat}(h:LI w W3 X p q b r Bx M pre)(hg:X.grownBy Y row)(hr:∀r,row=some r->W3.heap.size<=r/\∃o:Obj,X.heap[r]?=some o/\o.isCells=false):LI w W3 Y p q b r Bx M pre:=by
 obtain⟨v,gs,h1,h2,h3,h4,h5,h6⟩:=h;have hk:=kept hg hr;exact⟨v,gs,h1.keeps hk,BN h2 hk,h3,h4,h5.keep hk,h6.grown hg (fun k e=>AL (hr k e).1)⟩
theorem O8(h:gs.Nodup)(hg:g ∉ gs):(gs ++ [g]).Nodup:=by
 rw[nodup_append];refine⟨h,by simp,fun a ha b hb=>?_⟩;simp at hb;subst hb;exact fun e=>hg (e ▸ ha)
theorem Ge(l:List α)(x d:α)(j:Nat)(h:j<l.length):(l ++ [x]).getD j d=l.getD j d:=by
 simp[AQ,Af h]
theorem Gf(l:List α)(x d:α):(l ++ [x]).getD l.length d=x:=by
 simp[AQ]
theorem Ep.snoc{v':Value}{l:List Nat}(h:Ep X base v gs ls)(hg:X.grownBy Y v.ownBlock)(ho:Y.ownsRow base 35 1 v' (gs.length+1) (gs.map slc ++ [slc g]))(hat:v'.ownBlock=v.ownBlock\/v'.ownBlock=some X.heap.size)(hA:Arr X g 5 l)(hb:base<=g)(hn:g ∉ gs)(hv:v.ownBlock≠some g):Ep Y base v' (gs ++ [g]) (ls ++ [l]):=by
 have hk:∀k,k<X.heap.size->v.ownBlock≠some k->Y.heap[k]?=X.heap[k]?:=fun k hk hv=>hg.block k hk (fun e=>hv e.symm);refine⟨by simpa using ho,by simp[h.len],fun j hj=>?_,O8 h.nd hn,fun k hk' hm=>?_,fun g' hg'=>?_⟩
 ·by_cases hj':j<gs.length
  ·rw[Ge _ _ _ _ hj',Ge _ _ _ _ (by rw[h.len];exact hj')];have hA:=h.arr j hj';exact(hk _ hA.lt (fun e=>h.off _ e (by rw[AQ,AU hj'];exact getElem_mem hj'))).trans hA
  ·have e:j=gs.length:=(by simp at hj;omega);subst e;rw[Gf,<-h.len,Gf];exact(hk _ hA.lt hv).trans hA
 ·rcases mem_append.1 hm with h1 | h1
  ·rcases hat with h2 | h2
   ·exact h.off k (by rw[<-h2];exact hk') h1
   ·have:=h.mem_lt h1;rw[h2] at hk';have:=AR hk';omega
  ·simp at h1;subst h1;rcases hat with h2 | h2
   ·exact hv (by rw[<-h2];exact hk')
   ·rw[h2] at hk';have:=AR hk';have:=hA.lt;omega
 ·rcases mem_append.1 hg' with h1 | h1
  ·exact h.low g' h1
  ·simp at h1;subst h1;exact hb
theorem Il(p q b:Nat)(w:Wd)(h:Frm w p q b)(c o cap:Nat)(Dt:List Nat)(hD:Dt.length=174)(bD:Bys Dt)(hcb:c≠b)(hcs:c<w.heap.size)(hcell:∀i,i<Dt.length->w.cell? ⟨c,o+i,none⟩=some (.int .u8 (Dt.getD i 0:Nat)))(c2 o2 cap2:Nat)(Bd:List Nat)(hB:Bd.length=50)(bB:Bys Bd)(hcs2:c2<w.heap.size)(hcell2:∀i,i<Bd.length->w.cell? ⟨c2,o2+i,none⟩=some (.int .u8 (Bd.getD i 0:Nat)))(MM:List Nat)(hMM:Dt ++ (Bd ++ mk)=MM) :Calls prog 218 #[.pointer (some ⟨p,0,none⟩),.slice (some ⟨c,o,none⟩) 174 cap,.slice (some ⟨c2,o2,none⟩) 50 cap2] w fun e w'=>(∃r k gs,e=.returned (.tuple #[.slice (some ⟨r,0,none⟩) 4 k,.nilIface])/\Ep w' w.heap.size (.slice (some ⟨r,0,none⟩) 4 k) gs ((List.range 4).map fun i=>IW (part 58 MM i)))/\Frm w' p q b/\But b w w':=by
 have HC:=BB hcell;have HC2:=BB hcell2;clear hcell hcell2;have hmk:=jn;have q1:=BJ;have hp:=h.lt;have hbs:=h.1.1.lt;have hqs:=h.1.lt;refine(callsIn_wide (n:=3)).1 ?_;refine callsIn_of_wp_marks func218 rfl trivial ?_ rfl;simp only[ntmps218,size_toArray,An,length_nil,Nat.reduceAdd,Nat.reduceSub,Array.replicate_succ,Array.replicate_zero,push_toArray,append_toArray,A6,cons_append]
 gi_wp2_with fail;have x0:Boxed (((w.alloc (.cells #[.pointer (some ⟨p,0,none⟩)] 212)).alloc (.cells #[.slice none 0 0] 265)).alloc (.cells #[.nilIface] 33)) w.heap.size 212 (.pointer (some ⟨p,0,none⟩)):=((Boxed.new' _ (by simp) _ _).alloc _).alloc _;have x1:Boxed (((w.alloc (.cells #[.pointer (some ⟨p,0,none⟩)] 212)).alloc (.cells #[.slice none 0 0] 265)).alloc (.cells #[.nilIface] 33)) (w.heap.size+1) 265 (.slice none 0 0):=(Boxed.new' _ (by simp) _ _).alloc _;have x2:Boxed (((w.alloc (.cells #[.pointer (some ⟨p,0,none⟩)] 212)).alloc (.cells #[.slice none 0 0] 265)).alloc (.cells #[.nilIface] 33)) (w.heap.size+1+1) 33 .nilIface:=Boxed.new' _ (by simp) _ _;have G0:Chg No w (((w.alloc (.cells #[.pointer (some ⟨p,0,none⟩)] 212)).alloc (.cells #[.slice none 0 0] 265)).alloc (.cells #[.nilIface] 33)):=(((Chg.refl _ _).alloc _).alloc _).alloc _;have hs0:(((w.alloc (.cells #[.pointer (some ⟨p,0,none⟩)] 212)).alloc (.cells #[.slice none 0 0] 265)).alloc (.cells #[.nilIface] 33)).heap.size=w.heap.size+3:=by simp
 generalize ((w.alloc (.cells #[.pointer (some ⟨p,0,none⟩)] 212)).alloc (.cells #[.slice none 0 0] 265)).alloc (.cells #[.nilIface] 33)=W0 at *
 refine⟨trivial,(callsIn_wide.2 (UH W0 c2 o2 cap2 Bd hB om (fun i hi=>(Ag (w:=w) (a:=⟨c2,o2+i,none⟩) (G0.block c2 hcs2 (fun e=>e))).trans (HC2.out i hi)))).mono ?_⟩;rintro e W1 ⟨gS,rfl,hgS,AS,G1⟩;have GG1:=G0.trans G1;have y0:Boxed W1 w.heap.size 212 (.pointer (some ⟨p,0,none⟩)):=(G1.block _ x0.lt (fun e=>e)).trans x0;have y1:Boxed W1 (w.heap.size+1) 265 (.slice none 0 0):=(G1.block _ x1.lt (fun e=>e)).trans x1;have y2:Boxed W1 (w.heap.size+1+1) 33 .nilIface:=(G1.block _ x2.lt (fun e=>e)).trans x2;have hs1:=G1.size;clear x0 x1 x2 G0 G1
 gi_wp2_with fail;have hl0:∀i,i<Dt.length->(((W1.alloc (.cells #[.slice none 0 0,.slice none 0 0,.slice none 0 0,.slice none 0 0] 35)).alloc (.cells #[.slice (some ⟨W1.heap.size,0,none⟩) 0 4] 265)).alloc (.cells #[.slice (some ⟨c,o,none⟩) 174 cap,.slice (some ⟨gS,0,none⟩) 58 58] 35)).cell? ⟨c,o+i,none⟩=some (.int .u8 (Dt.getD i 0:Nat)):=fun i hi=>
  (Ag (w:=w) (a:=⟨c,o+i,none⟩) (((((GG1.alloc _).alloc _).alloc _)).block c hcs (fun e=>e))).trans (HC.out i hi)
 have A3:=((AS.alloc (.cells #[.slice none 0 0,.slice none 0 0,.slice none 0 0,.slice none 0 0] 35)).alloc (.cells #[.slice (some ⟨W1.heap.size,0,none⟩) 0 4] 265)).alloc (.cells #[.slice (some ⟨c,o,none⟩) 174 cap,.slice (some ⟨gS,0,none⟩) 58 58] 35);have GA:=((GG1.alloc (.cells #[.slice none 0 0,.slice none 0 0,.slice none 0 0,.slice none 0 0] 35)).alloc (.cells #[.slice (some ⟨W1.heap.size,0,none⟩) 0 4] 265)).alloc (.cells #[.slice (some ⟨c,o,none⟩) 174 cap,.slice (some ⟨gS,0,none⟩) 58 58] 35);have u0:=((y0.alloc (.cells #[.slice none 0 0,.slice none 0 0,.slice none 0 0,.slice none 0 0] 35)).alloc (.cells #[.slice (some ⟨W1.heap.size,0,none⟩) 0 4] 265)).alloc (.cells #[.slice (some ⟨c,o,none⟩) 174 cap,.slice (some ⟨gS,0,none⟩) 58 58] 35);have u1:=((y1.alloc (.cells #[.slice none 0 0,.slice none 0 0,.slice none 0 0,.slice none 0 0] 35)).alloc (.cells #[.slice (some ⟨W1.heap.size,0,none⟩) 0 4] 265)).alloc (.cells #[.slice (some ⟨c,o,none⟩) 174 cap,.slice (some ⟨gS,0,none⟩) 58 58] 35);have u2:=((y2.alloc (.cells #[.slice none 0 0,.slice none 0 0,.slice none 0 0,.slice none 0 0] 35)).alloc (.cells #[.slice (some ⟨W1.heap.size,0,none⟩) 0 4] 265)).alloc (.cells #[.slice (some ⟨c,o,none⟩) 174 cap,.slice (some ⟨gS,0,none⟩) 58 58] 35);have u3:Boxed (((W1.alloc (.cells #[.slice none 0 0,.slice none 0 0,.slice none 0 0,.slice none 0 0] 35)).alloc (.cells #[.slice (some ⟨W1.heap.size,0,none⟩) 0 4] 265)).alloc (.cells #[.slice (some ⟨c,o,none⟩) 174 cap,.slice (some ⟨gS,0,none⟩) 58 58] 35)) (W1.heap.size+1) 265 (.slice (some ⟨W1.heap.size,0,none⟩) 0 4):=(Boxed.new' _ (by simp) _ _).alloc _;have u4:(((W1.alloc (.cells #[.slice none 0 0,.slice none 0 0,.slice none 0 0,.slice none 0 0] 35)).alloc (.cells #[.slice (some ⟨W1.heap.size,0,none⟩) 0 4] 265)).alloc (.cells #[.slice (some ⟨c,o,none⟩) 174 cap,.slice (some ⟨gS,0,none⟩) 58 58] 35)).heap[W1.heap.size]?=some (.cells #[.slice none 0 0,.slice none 0 0,.slice none 0 0,.slice none 0 0] 35):=by
  rw[Below.heap_alloc _ _ _ (by simp;omega),Below.heap_alloc _ _ _ (by simp)];exact World.alloc_heap_new W1 _
 have u5:(((W1.alloc (.cells #[.slice none 0 0,.slice none 0 0,.slice none 0 0,.slice none 0 0] 35)).alloc (.cells #[.slice (some ⟨W1.heap.size,0,none⟩) 0 4] 265)).alloc (.cells #[.slice (some ⟨c,o,none⟩) 174 cap,.slice (some ⟨gS,0,none⟩) 58 58] 35)).heap[W1.heap.size+1+1]?=some (.cells #[.slice (some ⟨c,o,none⟩) 174 cap,.slice (some ⟨gS,0,none⟩) 58 58] 35):=by
  have:=World.alloc_heap_new ((W1.alloc (.cells #[.slice none 0 0,.slice none 0 0,.slice none 0 0,.slice none 0 0] 35)).alloc (.cells #[.slice (some ⟨W1.heap.size,0,none⟩) 0 4] 265)) (.cells #[.slice (some ⟨c,o,none⟩) 174 cap,.slice (some ⟨gS,0,none⟩) 58 58] 35);simpa using this
 have hsA:(((W1.alloc (.cells #[.slice none 0 0,.slice none 0 0,.slice none 0 0,.slice none 0 0] 35)).alloc (.cells #[.slice (some ⟨W1.heap.size,0,none⟩) 0 4] 265)).alloc (.cells #[.slice (some ⟨c,o,none⟩) 174 cap,.slice (some ⟨gS,0,none⟩) 58 58] 35)).heap.size=W1.heap.size+3:=by simp
 generalize ((W1.alloc (.cells #[.slice none 0 0,.slice none 0 0,.slice none 0 0,.slice none 0 0] 35)).alloc (.cells #[.slice (some ⟨W1.heap.size,0,none⟩) 0 4] 265)).alloc (.cells #[.slice (some ⟨c,o,none⟩) 174 cap,.slice (some ⟨gS,0,none⟩) 58 58] 35)=WA at *
 have hgSl:=AS.lt;have hSl:(Bd ++ mk).length=58:=by rw[AV,hB,FX]
 refine⟨trivial,(callsIn_wide.2 (OY WA (W1.heap.size+1+1) c o cap gS 0 58 Dt (Bd ++ mk) hD hSl u5 om om hl0 A3.at0)).mono ?_⟩;rintro e W2 ⟨gM,kM,rfl,OM,G2⟩;have hsz2:=G2.size;have GB:=GA.trans G2;have v0:Boxed W2 w.heap.size 212 (.pointer (some ⟨p,0,none⟩)):=(G2.block _ u0.lt (fun e=>e)).trans u0;have v1:Boxed W2 (w.heap.size+1) 265 (.slice none 0 0):=(G2.block _ u1.lt (fun e=>e)).trans u1;have v2:Boxed W2 (w.heap.size+1+1) 33 .nilIface:=(G2.block _ u2.lt (fun e=>e)).trans u2;have v3:Boxed W2 (W1.heap.size+1) 265 (.slice (some ⟨W1.heap.size,0,none⟩) 0 4):=(G2.block _ u3.lt (fun e=>e)).trans u3;have v4:=(G2.block _ (show W1.heap.size<WA.heap.size by omega) (fun e=>e)).trans u4;clear u0 u1 u2 u3 u4 u5 A3 hl0 AS y0 y1 y2 GA G2 GG1;have hMl:MM.length=4*58:=by rw[<-hMM,AV,hD,hSl]
 have bM:Bys MM:=by
  rw[<-hMM];intro x hx;rcases mem_append.1 hx with h1 | h1
  ·exact bD x h1
  ·rcases mem_append.1 h1 with h2 | h2
   ·exact bB x h2
   ·exact OX x h2
 rw[hMM] at OM;clear hMM;obtain⟨gM',kM',hvM,hgM,hgMs,hkM,cM,-⟩:=OM.lies om;simp only[Value.slice.injEq,Option.some.injEq,Addr.mk.injEq] at hvM;obtain⟨⟨rfl,-,-⟩,-,rfl⟩:=hvM;have HCM:=BB cM;have HML:=BB hMl;have HkM:=BB hkM;clear cM hMl hkM OM hSl
 gi_wp2_with (refine⟨trivial,?_⟩;gi_at_call 199;refine(callsIn_wide.2 (Hb _ _ _ _ 58)).mono ?_;rintro e w' ⟨rfl,rfl⟩);have x0:=(v0.alloc (.cells #[.slice (some ⟨gM,0,none⟩) 232 kM] 35)).alloc (.cells #[.int .i64 58] 3);have x1:=(v1.alloc (.cells #[.slice (some ⟨gM,0,none⟩) 232 kM] 35)).alloc (.cells #[.int .i64 58] 3);have x2:=(v2.alloc (.cells #[.slice (some ⟨gM,0,none⟩) 232 kM] 35)).alloc (.cells #[.int .i64 58] 3);have x3:=(v3.alloc (.cells #[.slice (some ⟨gM,0,none⟩) 232 kM] 35)).alloc (.cells #[.int .i64 58] 3);have x4:((W2.alloc (.cells #[.slice (some ⟨gM,0,none⟩) 232 kM] 35)).alloc (.cells #[.int .i64 58] 3)).heap[W1.heap.size]?=some (.cells #[.slice none 0 0,.slice none 0 0,.slice none 0 0,.slice none 0 0] 35):=by
  rw[Below.heap_alloc _ _ _ (by simp;omega),Below.heap_alloc _ _ _ om];exact v4
 have x5:Boxed ((W2.alloc (.cells #[.slice (some ⟨gM,0,none⟩) 232 kM] 35)).alloc (.cells #[.int .i64 58] 3)) W2.heap.size 35 (.slice (some ⟨gM,0,none⟩) 232 kM):=(Boxed.new' _ rfl _ _).alloc _;have x6:Boxed ((W2.alloc (.cells #[.slice (some ⟨gM,0,none⟩) 232 kM] 35)).alloc (.cells #[.int .i64 58] 3)) (W2.heap.size+1) 3 (.int .i64 58):=Boxed.new' _ (by simp) _ _;have G3:=(GB.alloc (.cells #[.slice (some ⟨gM,0,none⟩) 232 kM] 35)).alloc (.cells #[.int .i64 58] 3);have hs3:((W2.alloc (.cells #[.slice (some ⟨gM,0,none⟩) 232 kM] 35)).alloc (.cells #[.int .i64 58] 3)).heap.size=W2.heap.size+2:=by simp
 have hCM:∀i,i<MM.length->((W2.alloc (.cells #[.slice (some ⟨gM,0,none⟩) 232 kM] 35)).alloc (.cells #[.int .i64 58] 3)).cell? ⟨gM,i,none⟩=some (.int .u8 (MM.getD i 0:Nat)):=fun i hi=>by
  rw[Au _ _ _ (by simp;omega),Au _ _ _ hgMs];exact HCM.out i hi
 generalize (W2.alloc (.cells #[.slice (some ⟨gM,0,none⟩) 232 kM] 35)).alloc (.cells #[.int .i64 58] 3)=W3 at *
 have F3:=h.chg G3;refine wpIn_rangeFunc_ownG rfl om (gf:=228) (lb:=#[.pointer (some ⟨W2.heap.size,0,none⟩),.pointer (some ⟨W2.heap.size+1,0,none⟩)]) rfl trivial (enters_of func228 kr rfl)
  (Yz Fence.wide _ trivial rfl om _ _ gM 0 kM (by have:=HkM.out;have:=HML.out;omega) W3 om om x5.cell x6.cell) Kp.t (Kp.b om om) (Below.refl _ _) (fun _=>rfl)
  (fun pre W=>LI w W3 W p q b W1.heap.size (W1.heap.size+1) MM pre)
  (fun _ _ _=>False)
  (fun pre X Y row hs hg hr=>hs.keep hg hr)
  (fun _ _ _ _ _ hs _ _=>hs)
  ⟨_,[],⟨⟨rfl,AL ⟨_,4,_,rfl,om,x4,dc,dc,rfl,by simp⟩⟩,rfl,fun j hj=>by simp at hj,by simp,fun k _ hm=>by simp at hm,fun g hm=>by simp at hm⟩,x3,fun g e=>AK (AR e).symm,fun g hm=>by simp at hm,F3,Chg.refl _ _⟩
  (fun x=>{ tmps:=#[.pointer (some ⟨p,0,none⟩),.slice (some ⟨c,o,none⟩) 174 cap,.slice (some ⟨c2,o2,none⟩) 50 cap2,.pointer (some ⟨w.heap.size,0,none⟩),undef,undef,.pointer (some ⟨w.heap.size+1,0,none⟩),.pointer (some ⟨w.heap.size+1+1,0,none⟩),.slice (some ⟨gS,0,none⟩) 58 58,.nilIface,.pointer (some ⟨W1.heap.size+1,0,none⟩),undef,.slice (some ⟨gM,x.1*58,none⟩) 58 (kM - x.1*58),undef,undef,.slice (some ⟨c,o,none⟩) 174 cap,.int .i64 174,.bool false,undef,.tuple #[.slice (some ⟨gS,0,none⟩) 58 58,.nilIface],.slice (some ⟨c2,o2,none⟩) 50 cap2,.tuple #[.slice (some ⟨gS,0,none⟩) 58 58,.nilIface],.slice (some ⟨gS,0,none⟩) 58 58,.nilIface,.nilIface,.bool false,undef,.slice (some ⟨W1.heap.size,0,none⟩) 0 4,.slice (some ⟨c,o,none⟩) 174 cap,.slice (some ⟨gS,0,none⟩) 58 58,.slice (some ⟨W1.heap.size+1+1,0,none⟩) 2 2,.slice (some ⟨gM,0,none⟩) 232 kM,.func (.func 228) #[] #[.pointer (some ⟨W2.heap.size,0,none⟩),.pointer (some ⟨W2.heap.size+1,0,none⟩)],.int .i64 (x.1:Int),.slice (some ⟨gM,x.1*58,none⟩) 58 (kM - x.1*58),undef,undef,undef,undef,undef,undef,undef,undef,undef,undef,undef,undef,undef,undef,undef,undef,undef],defers:=[] }) ?assign ?body ?done ?stop
 case assign=>
  intro l x W K hK;dsimp only[OV];simp only[AW]
  gi_wp2;exact hK
 case body=>
  rintro l pre x W ⟨v,gs,R,y3,hv,hgs,F,hG⟩ hpl;have y0:Boxed W w.heap.size 212 (.pointer (some ⟨p,0,none⟩)):=(hG.block _ x0.lt om).trans x0;have hs2:=hG.size;have z0:=y0.cell;have z2:W.cell? ⟨p,0,none⟩=some (.pointer (some ⟨q,0,none⟩)):=F.2.cell;have hbc:∀o,W.heap[b]?=some o->o.isCells=true:=fun o ho=>by
   obtain⟨c,z,hc,-⟩:=Df F.1.1;rw[hc] at ho;cases ho;rfl
  obtain⟨i,hi⟩:=x;dsimp only;have hpl2:=DL HML.out i hi;have hpb:=GQ (z:=58) bM i;have hcc:∀j,j<(part 58 MM i).length->W.cell? ⟨gM,i*58+j,none⟩=some (.int .u8 ((part 58 MM i).getD j 0:Nat)):=fun j hj=>by
   rw[Hc 58 MM i j om];exact(Ag (w:=W3) (a:=⟨gM,i*58+j,none⟩) (hG.block gM om om)).trans (hCM _ (by have:=HML.out;omega))
  have HEnc:=BB (OU q b W F.1 gM (i*58) (kM - i*58) (part 58 MM i) hpl2 hpb om om hcc);clear hcc
  gi_wp2_with fail;refine⟨trivial,(CallsIn.inRound l (callsIn_wide.2 HEnc.out)).mono ?_⟩;rintro e W4 ⟨g,rfl,hg,A4,C4,B4⟩;clear HEnc;have F4:=F.but C4 B4;have a1:KeepsFrom W3.heap.size W W4:=B4.chg.keeps (fun k hk o ho=>hbc o (by rw[<-hk];exact ho)) _;have hs4:=B4.size;have R4:Ep W4 w.heap.size v gs (pre.map fun x=>IW (part 58 MM x.1)):=R.chg B4.chg (fun k e=>by
   subst e
   exact⟨fun h1=>by have:=hv _ h1;omega,fun h1=>by have:=hgs _ h1;omega⟩)
  have y4:Boxed W4 (W1.heap.size+1) 265 v:=(B4.block _ y3.lt om).trans y3;have c4:=y4.cell;have q2:=BJ;have hln:gs.length=pre.length:=by have:=R.len;simpa using this.symm
  have A5:=A4.alloc (.cells #[.slice (some ⟨g,0,none⟩) 64 64] 35);have R5:=R4.chg ((Chg.refl No W4).alloc (.cells #[.slice (some ⟨g,0,none⟩) 64 64] 35)) (fun k e=>e.elim);have y5:=y4.alloc (.cells #[.slice (some ⟨g,0,none⟩) 64 64] 35);have F5:=F4.chg ((Chg.refl No W4).alloc (.cells #[.slice (some ⟨g,0,none⟩) 64 64] 35));have hs5:(W4.alloc (.cells #[.slice (some ⟨g,0,none⟩) 64 64] 35)).heap.size=W4.heap.size+1:=by simp
  have hnw:∀j u,[slc g][j]?=some u->(W4.alloc (.cells #[.slice (some ⟨g,0,none⟩) 64 64] 35)).cell? ((⟨W4.heap.size,0,none⟩:Addr).add j)=some u:=cell_one_new _ _ _;have a2:KeepsFrom W3.heap.size W (W4.alloc (.cells #[.slice (some ⟨g,0,none⟩) 64 64] 35)):=a1.trans (((Chg.refl No W4).alloc _).keeps (fun k e=>e.elim) _);have hk5:∀k,k<W.heap.size->k≠b->(W4.alloc (.cells #[.slice (some ⟨g,0,none⟩) 64 64] 35)).heap[k]?=W.heap[k]?:=fun k hk hb=>(Below.heap_alloc _ _ _ om).trans (B4.block k hk hb);have G5:Chg (fun k=>k=b\/k=W1.heap.size\/k=W1.heap.size+1) W3 (W4.alloc (.cells #[.slice (some ⟨g,0,none⟩) 64 64] 35)):=(hG.trans' B4.chg (fun k _ e=>AK e)).alloc _;have hgn:g ∉ gs:=fun hm=>by have:=R.mem_lt hm;omega
  have hvn:v.ownBlock≠some g:=fun e=>by
   rcases R.row.2 with ⟨rfl,_⟩ | ⟨g',_,_,rfl,_,hh,_⟩
   ·cases e
   ·have e1:g'=g:=AR e;have:=(Array.getElem?_eq_some_iff.1 hh).1;omega
  obtain⟨i0,hi0,hz0,hz1,hz2⟩:=info_parts O7;have HA:=BB A5;have HR:=BB R5;have HY:=BB y5;have HF:=BB F5;have HN:=BB hnw;have HB:Hid (w.heap.size<=(W4.alloc (.cells #[.slice (some ⟨g,0,none⟩) 64 64] 35)).heap.size):=BB om;have HL1:Hid (gs.length+1<=maxLen):=BB (by unfold maxLen;omega);have HL2:Hid ((gs.length+1)*24<=140737488355328):=BB om;have H5:=BB hs5;clear hs5;clear R R4 A4 A5 R5 y5 F5 hnw y4 F4 hG F y3 B4 a1
  gi_wp2_with (gi_at_builtin;refine wpListIn_append_own_at _ rfl _ _ 265 rfl w.heap.size 35 i0 (.slice none 0 0) 1 24 underlying265 hi0 hz0 hz1 hz2 rfl dc v gs.length (gs.map slc) rfl HR.out.row ⟨W4.heap.size,0,none⟩ 1 1 [slc g] rfl rfl HN.out (by simp[slc,Value.oneCell']) HL1.out HL2.out HB.out ?_);intro v' W6 O6 hg6 _ hat;have hs5:=H5.out;obtain⟨g6,k6,hv6⟩:=ownsRow_succ O6;have hv':∀k,v'.ownBlock=some k->k=W1.heap.size\/W3.heap.size<=k:=fun k hk=>by
   rcases hat with h1 | h1
   ·exact hv k (by rw[<-h1];exact hk)
   ·rw[h1] at hk;have:=AR hk;omega
  have R6:=HR.out.snoc hg6 (by first | exact O6 | (rw[hln] at O6 ⊢;exact O6) | (rw[hln];exact O6)) (by rw[hs5];exact hat) HA.out om hgn hvn;have y6:Boxed W6 (W1.heap.size+1) 265 v:=HY.out.kept hg6 (fun e=>by have:=hv _ e.symm;omega);have F6:Frm W6 p q b:=HF.out.other (hg6.block _ HF.out.1.1.lt (fun e=>by have:=hv _ e.symm;omega)) (hg6.block _ HF.out.1.lt (fun e=>by have:=hv _ e.symm;omega)) (hg6.block _ HF.out.lt (fun e=>by have:=hv _ e.symm;omega));have hcv:∀k,v.ownBlock=some k->∀o,(W4.alloc (.cells #[.slice (some ⟨g,0,none⟩) 64 64] 35)).heap[k]?=some o->o.isCells=true:=fun k hk o ho=>by
   rcases HR.out.row.2 with ⟨rfl,_⟩ | ⟨g,cap,cur,rfl,_,hh,_⟩
   ·cases hk
   ·have e:g=k:=AR hk;rw[<-e,hh] at ho;cases ho;rfl
  have a3:KeepsFrom W3.heap.size (W4.alloc (.cells #[.slice (some ⟨g,0,none⟩) 64 64] 35)) W6:=⟨hg6.size,fun k o _ h0 ho=>(hg6.block k (Array.getElem?_eq_some_iff.1 h0).1 (fun e=>by rw[hcv k e.symm o h0] at ho;cases ho)).trans h0⟩;have G6:Chg (fun k=>k=b\/k=W1.heap.size\/k=W1.heap.size+1) W3 W6:=G5.grown hg6 (fun k e=>by have:=hv _ e;omega);have hk6:∀k,k<W.heap.size->k≠b->v.ownBlock≠some k->W6.heap[k]?=W.heap[k]?:=fun k hk hb hvk=>(hg6.block k om (fun e=>hvk e.symm)).trans (hk5 k hk hb);have hs6:=hg6.size;have fin:∀Y,W6.setCell ⟨W1.heap.size+1,0,none⟩ v'=Y->KeepsFrom W3.heap.size W Y/\Kp W2.heap.size (W2.heap.size+1) W Y/\LI w W3 Y p q b W1.heap.size (W1.heap.size+1) MM (pre ++ [⟨i,hi⟩]):=fun Y hY=>by
   have e5:Boxed Y (W1.heap.size+1) 265 v':=(by rw[<-hY];exact y6.set _);have K4:Chg (fun k=>k=W1.heap.size+1) W6 Y:=(by rw[<-hY];exact(Chg.refl (fun k=>k=W1.heap.size+1) W6).setCell (AK rfl) 0 _);have a4:KeepsFrom W3.heap.size W6 Y:=K4.keeps (fun k hk o ho=>by
    subst hk
    rw[show W6.heap[_]?=_ from y6] at ho;cases ho;rfl) _
   refine⟨(a2.trans a3).trans a4,⟨?_,?_⟩,v',gs ++ [g],?_,e5,hv',?_,?_,?_⟩
   ·exact(K4.block _ om om).trans (hk6 _ om om (fun e=>by have:=hv _ e;omega))
   ·exact(K4.block _ om om).trans (hk6 _ om om (fun e=>by have:=hv _ e;omega))
   ·rw[map_append];refine R6.chg K4 (fun k e=>?_);subst e;refine⟨fun h1=>by have:=hv' _ h1;omega,fun h1=>?_⟩;rcases mem_append.1 h1 with h2 | h2
    ·have:=hgs _ h2;omega
    ·simp at h2;omega
   ·intro g' hm;rcases mem_append.1 hm with h2 | h2
    ·exact hgs _ h2
    ·simp at h2;omega
   ·exact F6.other (K4.block _ F6.1.1.lt om) (K4.block _ F6.1.lt om) (K4.block _ F6.lt om)
   ·exact G6.trans' K4 (fun k hk e=>AL (AL e))
  have HFin:=BB fin;have c6:=y6.cell;have f6:=y6.frozen;subst hv6;clear fin R6 HR HA HY HF HN hg6 O6 a2 a3 G5 G6 hk5 hk6 hcv
  gi_wp2_with fail;exact HFin.out _ rfl
 case done=>
  rintro D ys W hD rfl ⟨v,gs,R,y3,hv,hgs,F,hG⟩ hK;have y1:Boxed W (w.heap.size+1) 265 (.slice none 0 0):=(hG.block _ x1.lt om).trans x1;have y2:Boxed W (w.heap.size+1+1) 33 .nilIface:=(hG.block _ x2.lt om).trans x2;have hln:gs.length=4:=by
   have:=R.len;rw[A7,DK 4 om] at this;exact this.symm
  have hrow:=R.row;rw[hln] at hrow;obtain⟨g6,k6,hv6⟩:=ownsRow_succ hrow;subst hv6;have hgv:=hv g6 rfl;have e1:Boxed ((W.setCell ⟨w.heap.size+1,0,none⟩ (.slice (some ⟨g6,0,none⟩) 4 k6)).setCell ⟨w.heap.size+1+1,0,none⟩ .nilIface) (w.heap.size+1) 265 (.slice (some ⟨g6,0,none⟩) 4 k6):=(y1.set _).other om _;have e2:Boxed ((W.setCell ⟨w.heap.size+1,0,none⟩ (.slice (some ⟨g6,0,none⟩) 4 k6)).setCell ⟨w.heap.size+1+1,0,none⟩ .nilIface) (w.heap.size+1+1) 33 .nilIface:=(y2.other om _).set _;have K4:Chg (fun k=>k=w.heap.size+1\/k=w.heap.size+1+1) W ((W.setCell ⟨w.heap.size+1,0,none⟩ (.slice (some ⟨g6,0,none⟩) 4 k6)).setCell ⟨w.heap.size+1+1,0,none⟩ .nilIface):=((Chg.refl _ W).setCell (AK (AK rfl)) 0 _).setCell (AK (AL rfl)) 0 _;have HR:=BB R;have HF:=BB F;have HG:=BB hG;have c1:=y1.cell;have c2:=y2.cell;have c3:=y3.cell;have f1:=y1.frozen;have f2:=y2.frozen;clear R F hG hrow
  gi_wp2_with fail;generalize (W.setCell ⟨w.heap.size+1,0,none⟩ (.slice (some ⟨g6,0,none⟩) 4 k6)).setCell ⟨w.heap.size+1+1,0,none⟩ .nilIface=Y at *
  have hK2:Y.heap[D]?=some (.deferred (some [])):=(K4.block D (Array.getElem?_eq_some_iff.1 hK).1 om).trans hK;have hkp:=Ev (.deferred none) hK2 rfl;have F5:=HF.out.other (K4.block _ HF.out.1.1.lt om) (K4.block _ HF.out.1.lt om) (K4.block _ HF.out.lt om);have R5:=HR.out.chg K4 (fun k e=>⟨fun h1=>by have:g6=k:=AR h1;omega,fun h1=>by have:=hgs _ h1;omega⟩);have G5:Chg (·=b) w Y:=((G3.mono (T:=(·=b)) (fun _ _ e=>e.elim)).trans' HG.out (fun k hk e=>om)).trans' K4 (fun k hk e=>om);have G6:=G5.grown (grownBy_putObj' Y D (.deferred none)) (fun k e=>AL (by cases e;omega));refine⟨by simp,.inl ⟨_,_,rfl,run_takeDeferred hK2,?_⟩⟩;refine⟨_,Uo rfl _ rfl rfl (BN e1 hkp) (BN e2 hkp),⟨g6,k6,gs,rfl,?_⟩,F5.keep hkp,⟨G6.os,G6.tape,G6.output,G6.size,G6.block⟩⟩;have em:(GP 4).map (fun x=>IW (part 58 MM x.1))=(List.range 4).map fun i=>IW (part 58 MM i):=rfl;rw[<-em];exact R5.keeps hkp
 case stop=>
  rintro D cc pre W _ _ h _;exact h.elim
end
end Go.Proofs.YtbhbilcieodbhaaGreat
namespace Go.Proofs.YtbhbilcieodbhaaGreat
open List
open Go.Proofs.Tryz
open Go.RowKit
section
variable {base n:Nat}(w:Wd)
theorem Uq(x y:Value)(g p:Nat)(hx:x=.pointer (some ⟨g,0,none⟩))(hy:y=.pointer (some ⟨p,0,none⟩)):(Instr.build 215 #[(0,x),(1,y)]).run prog w=.ok (.agg #[x,y,.int .i64 0]) w:=by
 subst hx hy;kernel_rfl
theorem M9(g:Nat)(w:Wd):Calls prog 98 #[.pointer (some ⟨g,0,none⟩)] w fun e w'=>∃m p q b,e=.returned (.pointer (some ⟨m,0,none⟩))/\(w.heap.size<=m/\w.heap.size<=p/\w.heap.size<=q/\w.heap.size<=b)/\Do w' m g p q b 0/\Chg No w w':=by
 go_enter func98,ntmps98;go_wp2_with fail;refine(RY w).mono ?_;rintro x w1 ⟨p,q,b,rfl,hp,hq,hb,hF,G1⟩;have hbd:=fun w=>Uq w _ _ g p rfl rfl;have HF:=BB hF;have HG:=BB G1;clear hF G1;go_wp2;go_ret;have G2:Chg No w1 (w1.alloc (.cells #[.pointer (some ⟨g,0,none⟩),.pointer (some ⟨p,0,none⟩),.int .i64 0] 215)):=(Chg.refl _ w1).alloc _;have:=HG.out.size;refine⟨_,p,q,b,rfl,⟨om,hp,hq,hb⟩,⟨?_,HF.out.chg G2⟩,HG.out.trans G2⟩;show (w1.heap.push _)[w1.heap.size]?=_;simp
theorem EZ(m g p q b:Nat)(r:Int)(w:Wd)(h:Do w m g p q b r):Calls prog 156 #[.pointer (some ⟨m,0,none⟩)] w fun e w'=>e=.returned (.int .i64 r)/\w'=w:=by
 obtain⟨-,-,c2⟩:=h.cells;have hcall:=Ms m 2 w c2;clear h;go_enter func156,ntmps156;go_wp2_with fail;refine hcall.mono ?_;rintro x w1 ⟨rfl,rfl⟩;clear hcall;go_wp2;go_ret;exact⟨rfl,rfl⟩
theorem O9(m g p q b:Nat)(r:Int)(s:BG)(hs:s.Ok)(w:Wd)(h:Do w m g p q b r)(hC:BF w g s)(k:Int):Calls prog 182 #[.pointer (some ⟨m,0,none⟩),.int .i64 k] w fun e w'=>e=.returned (nerrV (eraseR s k).2)/\BF w' g (eraseR s k).1/\Chg (·=g) w w':=by
 obtain⟨c0,-,-⟩:=h.cells;have hcall:=R7 g s hs k w hC;clear h hC;go_enter func182,ntmps182;go_wp2_with fail;refine hcall.mono ?_;rintro x w1 ⟨rfl,C1,G1⟩;clear hcall;have HC:=BB C1;have HG:=BB G1;clear C1 G1;go_wp2;go_ret;exact⟨rfl,HC.out,HG.out⟩
theorem NA{w:Wd}{base':Nat}{e:TypeId}{z:Nat}{v:Value}{xs:List Value}(h:w.ownsRow base e z v n xs)(hb:base'<=base):w.ownsRow base' e z v n xs:=by
 refine⟨h.1,?_⟩;rcases h.2 with h1 | ⟨g,cap,cur,rfl,hg,r⟩
 ·exact AK h1
 ·exact AL ⟨g,cap,cur,rfl,AY hb hg,r⟩
theorem DV.nats{p o s c:Int}{l:Bool}(h:DV p o s c l):∃p' o' s' c':Nat,p=p'/\o=o'/\s=s'/\c=c':=by
 obtain⟨⟨h1,-⟩,⟨h2,-⟩,⟨h3,-⟩,h4,-⟩:=h.1;exact⟨p.toNat,o.toNat,s.toNat,c.toNat,om,om,om,om⟩
theorem PA(m g p q b:Nat)(r:Int)(w:Wd)(h:Do w m g p q b r)(a tp to ts tc:Int)(tl:Bool)(ad:Option Addr)(n cap:Nat)(hno:¬ (DV tp to ts tc tl/\tp=a/\n=174)) :Calls prog 185 #[.pointer (some ⟨m,0,none⟩),.int .i64 a,.agg #[.int .i64 tp,.int .i64 to,.int .i64 ts,.int .i64 tc,.bool tl],.slice ad n cap] w fun e w'=>e=.returned (.tuple #[.slice none 0 0,.iface 56 (.int .i64 1)])/\Chg No w w':=by
 have T0:=Tg.new w tp to ts tc tl;have G0:Chg No w (w.alloc (.cells #[.int .i64 tp,.int .i64 to,.int .i64 ts,.int .i64 tc,.bool tl] 127)):=(Chg.refl _ w).alloc _;obtain⟨-,c1,-⟩:=(h.chg G0).cells;obtain⟨v0,v1,v2,v3,v4⟩:=T0.cells;have HT:=BB T0;have HM:=BB (h.chg G0);have HG:=BB G0;have q1:=Ds;have q2:=BJ;clear T0 G0 h;by_cases hp:tp=a
 ·by_cases hm:DV tp to ts tc tl
  ·have hn:n≠174:=fun e=>hno ⟨hm,hp,e⟩;obtain⟨p',o',s',c',rfl,rfl,rfl,rfl⟩:=hm.nats;have hp':(((p':Nat):Int) != a)=false:=(by simp[hp]);have henc:=fun w=>EY w p' o' s' c' tl hm;clear hno hp;go_enter func185,ntmps185;go_wp2_with (first | refine Bk rfl (.tmp 6) rfl w.heap.size rfl HT.out ?_);refine(henc _).mono ?_;rintro x w1 ⟨g1,rfl,-,-,G1⟩;clear henc;have c1':w1.cell? ⟨m,1,none⟩=some (.pointer (some ⟨p,0,none⟩)):=(HM.out.chg G1).cells.2.1;have HG1:=BB (HG.out.trans G1);clear G1 c1 v0 v1 v2 v3 v4;go_wp2_with fail;refine(Up p w1 ad n cap hn _).mono ?_;rintro x w2 ⟨rfl,G2⟩;have HG2:=BB (HG1.out.trans G2);clear G2 HG1;go_wp2;go_ret2;exact⟨rfl,HG2.out⟩
  ·have hp':(tp != a)=false:=(by simp[hp]);have henc:=fun w=>Ka w tp to ts tc tl hm;clear hno hp hm;go_enter func185,ntmps185;go_wp2_with (first | refine Bk rfl (.tmp 6) rfl w.heap.size rfl HT.out ?_);refine(henc _).mono ?_;rintro x w1 ⟨rfl,G1⟩;have HG1:=BB (HG.out.trans G1);clear henc G1 c1 v0 v1 v2 v3 v4;go_wp2;go_ret2;exact⟨rfl,HG1.out⟩
 ·have hp':(tp != a)=true:=by simp[hp]
  clear hno hp;go_enter func185,ntmps185;go_wp2;go_ret2;exact⟨rfl,HG.out⟩
theorem NB(m g p q b:Nat)(r:Int)(w:Wd)(h:Do w m g p q b r)(tp to ts tc:Nat)(tl:Bool)(hm:DV tp to ts tc tl)(c o cap:Nat)(Dt:List Nat)(hD:Dt.length=174)(bD:Bys Dt)(hcb:c≠b)(hcs:c<w.heap.size)(hA:At w c o Dt) :Calls prog 185 #[.pointer (some ⟨m,0,none⟩),.int .i64 (tp:Nat),.agg #[.int .i64 (tp:Nat),.int .i64 (to:Nat),.int .i64 (ts:Nat),.int .i64 (tc:Nat),.bool tl],.slice (some ⟨c,o,none⟩) 174 cap] w fun e w'=>∃rr k gs,e=.returned (.tuple #[.slice (some ⟨rr,0,none⟩) 4 k,.nilIface])/\Ep w' w.heap.size (.slice (some ⟨rr,0,none⟩) 4 k) gs ((List.range 4).map (wordOf Dt (body tp to ts tc tl)))/\Do w' m g p q b r/\But b w w':=by
 have T0:=Tg.new w tp to ts tc tl;have G0:Chg No w (w.alloc (.cells #[.int .i64 (tp:Nat),.int .i64 (to:Nat),.int .i64 (ts:Nat),.int .i64 (tc:Nat),.bool tl] 127)):=(Chg.refl _ w).alloc _;obtain⟨-,c1,-⟩:=(h.chg G0).cells;obtain⟨v0,v1,v2,v3,v4⟩:=T0.cells;have HT:=BB T0;have HM:=BB (h.chg G0);have HG:=BB G0;have HA:=BB hA;have q2:=BJ;have hp':(((tp:Nat):Int) != (tp:Nat))=false:=by simp
 have henc:=fun w=>EY w tp to ts tc tl hm;have hbs:=h.lts.2.2.2;have hsz:=G0.size;clear T0 G0 h hA;go_enter func185,ntmps185;go_wp2_with (first | refine Bk rfl (.tmp 6) rfl w.heap.size rfl HT.out ?_);refine(henc _).mono ?_;rintro x w1 ⟨g1,rfl,hg1,A1,G1⟩;clear henc;have M1:=HM.out.chg G1;have c1':=M1.cells.2.1;have G01:=HG.out.trans G1;have hs1:=G01.size;have hlay:=Il p q b w1 M1.2 c o cap Dt hD bD hcb om (HA.out.chg G01 (fun f=>f)).2 g1 0 50 (body tp to ts tc tl) (By _ _ _ _ _) (Ct _ _ _ _ _) A1.lt A1.at_.2 (msgOf Dt (body tp to ts tc tl)) rfl;have HM1:=BB M1;have HG1:=BB G01;clear G1 c1 v0 v1 v2 v3 v4 A1 M1 G01 HM HG;go_wp2_with fail;refine hlay.mono ?_;rintro x w2 ⟨⟨rr,k,gs,rfl,hR⟩,hF,hB⟩;clear hlay;have HR:=BB hR;have HM2:=BB (HM1.out.but hF hB);have HB2:=BB (HG1.out.but.trans hB);clear hR hF hB HM1 HG1;go_wp2;go_ret2;exact⟨rr,k,gs,rfl,⟨NA HR.out.row hs1,HR.out.len,HR.out.arr,HR.out.nd,HR.out.off,fun g hg=>AY hs1 (HR.out.low g hg)⟩,HM2.out,HB2.out⟩
theorem Ur{q g o c:Nat}(h:q≠g):(Value.slice (some ⟨q,o,none⟩) n c).ownBlock≠some g:=fun e=>h (AR e)
theorem PC(W:Nat->List Nat)(i:Nat)(hi:i<4):((List.range 4).map W).getD i []=W i:=by
 rw[AQ,List.getElem?_map,List.getElem?_range hi];rfl
theorem Ep.cell{W:Wd}{rr k:Nat}{gs:List Nat}{ls:List (List Nat)}(h:Ep W base (.slice (some ⟨rr,0,none⟩) 4 k) gs ls)(i:Nat)(hi:i<4):gs.length=4/\4<=k/\W.cell? ⟨rr,i,none⟩=some (slc (gs.getD i 0)):=by
 rcases h.row.2 with ⟨e,_⟩ | ⟨g,cap,cur,e,_,hh,hn,_,hz,ht⟩
 ·cases e
 ·injection e with e1 e2 e3;injection e1 with e1;injection e1 with e1;subst e1 e3;have hl4:gs.length=4:=e2.symm;refine⟨hl4,by rw[<-hl4];exact hn,?_⟩;have h2:(cur.toList.take (gs.length*1))[i]?=(gs.map slc)[i]?:=by rw[ht]
  rw[List.getElem?_take_of_lt om,Array.getElem?_toList,List.getElem?_map,AU om] at h2;simp only[World.cell?,hh];rw[AQ,AU om];simpa using h2
theorem dj(p o s c p' o' s' c':Int)(l l':Bool):(Op.equalIn 10000 127 (.agg #[.int .i64 p,.int .i64 o,.int .i64 s,.int .i64 c,.bool l]) (.agg #[.int .i64 p',.int .i64 o',.int .i64 s',.int .i64 c',.bool l'])).run prog w=.ok (decide (p=p'/\o=o'/\s=s'/\c=c'/\l=l')) w:=by
 have u3:=underlying3;have a3:=isAgg3;have z3:=sizeOf3;have u2:=underlying2;have a2:=isAgg2;have z2:=sizeOf2;have u4:=underlying4;have a4:=isAgg4;have z4:=sizeOf4;rw[show (10000:Nat)=9999+1 from rfl,run_equalIn_agg w 9999 127 _ _ kr kr];simp only[Program.fieldsOf,underlying127];go_simp;by_cases h1:p=p' <;> by_cases h2:o=o' <;> by_cases h3:s=s' <;> by_cases h4:c=c' <;> by_cases h5:l=l' <;> simp[h1,h2,h3,h4,h5]
theorem ZY(p o s c p' o' s' c':Int)(l l':Bool):(binOp .neq 127 (.agg #[.int .i64 p,.int .i64 o,.int .i64 s,.int .i64 c,.bool l]) (.agg #[.int .i64 p',.int .i64 o',.int .i64 s',.int .i64 c',.bool l'])).run prog w=.ok (.bool (!decide (p=p'/\o=o'/\s=s'/\c=c'/\l=l'))) w:=by
 rw[run_neq_struct,dj];rfl
theorem SG(op:BinOp)(x y:Operand)(xs ys:Array Value):(eqGuard op 127 x y (.agg xs) (.agg ys)).run prog w=.ok () w:=run_eqGuard_agg w op 127 x y xs ys kr
theorem ToldR.sound{L:List Nat}{n:Int}{g:Pg}(h:ToldR L n g)(hs:g.sound=true):g.tagged=true/\g.data.length=174/\Bys g.data:=by
 obtain⟨_,B,bd,bc,hB,hr⟩:=h;rcases hr with ⟨_,_,_,_,_,_,_,q7,_⟩ | ⟨_,q1,_,_,_,_,_,D,dd,dc,hD,⟨_,q7,_⟩ | ⟨rfl,_,q8⟩⟩
 ·rw[hs] at q7;cases q7
 ·rw[hs] at q7;cases q7
 ·rw[q8];exact⟨q1,hD.good⟩
def br (s:BG) (r:Int) (a tp to ts tc:Nat) (tl:Bool) (Dt:List Nat) (w':Wd) (m g p q b:Nat) (e:Ending):Prop:=∃s' r' c,ProgR s r a tp to ts tc tl Dt s' r' c/\e=.returned (nerrV c)/\Do w' m g p q b r'/\BF w' g s'
theorem PD(m g p q b:Nat)(r:Int)(s:BG)(hs:s.Ok)(w:Wd)(h:Do w m g p q b r)(hC:BF w g s)(tp to ts tc:Nat)(tl:Bool)(_hm:DV tp to ts tc tl)(c o cap:Nat)(Dt:List Nat)(hD:Dt.length=174)(bD:Bys Dt)(hcb:c≠b)(hcg:c≠g)(hcm:c≠m)(hA:At w c o Dt)(base rr k:Nat)(gs:List Nat)(hR:Ep w base (.slice (some ⟨rr,0,none⟩) 4 k) gs ((List.range 4).map (wordOf Dt (body tp to ts tc tl))))(hbase:m<base/\g<base/\b<base) :Calls prog 186 #[.pointer (some ⟨m,0,none⟩),.int .i64 (tp:Nat),.slice (some ⟨rr,0,none⟩) 4 k,.agg #[.int .i64 (tp:Nat),.int .i64 (to:Nat),.int .i64 (ts:Nat),.int .i64 (tc:Nat),.bool tl],.slice (some ⟨c,o,none⟩) 174 cap] w fun e w'=>br s r tp tp to ts tc tl Dt w' m g p q b e/\Chg (fun k=>k=m\/k=g\/k=b) w w':=by
 have T0:=Tg.new w tp to ts tc tl;have G0:Chg No w (w.alloc (.cells #[.int .i64 (tp:Nat),.int .i64 (to:Nat),.int .i64 (ts:Nat),.int .i64 (tc:Nat),.bool tl] 127)):=(Chg.refl _ w).alloc _;have hsz:(w.alloc (.cells #[.int .i64 (tp:Nat),.int .i64 (to:Nat),.int .i64 (ts:Nat),.int .i64 (tc:Nat),.bool tl] 127)).heap.size=w.heap.size+1:=by simp
 obtain⟨hms,hps,hqs,hbs⟩:=h.lts;obtain⟨nm,np,nq,nb⟩:=h.mg hC;have hgs:=hC.lt;have hmb:=h.mb;have hW:∀k,k<4->(wordOf Dt (body tp to ts tc tl) k).length=64/\Bys (wordOf Dt (body tp to ts tc tl) k):=fun k hk=>⟨IL hD bD (By _ _ _ _ _) (Ct _ _ _ _ _) k hk,(Dw hD bD (By _ _ _ _ _) (Ct _ _ _ _ _) k hk).2.1⟩;have HT:=BB T0;have HM:=BB (h.chg G0);have HC:=BB (hC.chg G0 (fun f=>f));have HA:=BB (hA.chg G0 (fun f=>f));have HR:=BB (hR.chg G0 (fun _ f=>f.elim));have HG:=BB G0;have HW:=BB hW;have HD:=BB hD;have HS:=BB hs;have hAc:=hA.1;have q0:=BJ;generalize hWW:wordOf Dt (body tp to ts tc tl)=W at *
 have HWW:=BB hWW;generalize hw0:w.alloc (.cells #[.int .i64 (tp:Nat),.int .i64 (to:Nat),.int .i64 (ts:Nat),.int .i64 (tc:Nat),.bool tl] 127)=w0 at *
 clear T0 G0 h hC hA hR hW hD hs hWW;go_enter func186,ntmps186;go_wp2_with fail;clear hw0
 go_loopw [18] (fun t18 wr=>∃i:Nat,i<=4/\t18=.int .i64 i/\(wrN s (tp:Nat) W i).2=0/\BF wr g (wrN s (tp:Nat) W i).1/\Chg (·=g) w0 wr) (fun t18 _=>4 - (intOf t18).toNat)
 case atStart=>exact⟨0,om,rfl,rfl,HC.out,Chg.refl _ _⟩
 case round=>
  obtain⟨i,hi,rfl,hz,C1,G1⟩:=hrel;have hM1:=HM.out.far G1 nm np nq nb;have hR1:=HR.out.chg G1 (fun x hx=>by subst hx;exact⟨fun e=>by rcases HR.out.row.2 with ⟨e',_⟩ | ⟨g',_,_,e',hg',_⟩;cases e';injection e' with e1;injection e1 with e1;injection e1 with e1;subst e1;have:=AR e;simp at this;omega,fun e=>by have:=HR.out.low _ e;omega⟩);by_cases hlt:i<4
  ·have hlt':(i:Int)<4:=om;obtain⟨hgl,hk4,hcell⟩:=hR1.cell i hlt;have harr:=hR1.arr i om;rw[PC W i hlt] at harr;have hge:base<=gs.getD i 0:=hR1.low _ (by rw[AQ,AU om];exact getElem_mem _);obtain⟨hwl,hwb⟩:=HW.out i hlt;have hok:(wrN s (tp:Nat) W i).1.Ok:=LV HS.out _ i (fun k hk=>(HW.out k om).2);have hheld:Cu wr (slc (gs.getD i 0)) (W i):=by
    have:=harr.heldFull 64 64 hwl.symm;exact this
   obtain⟨c0,-,-⟩:=hM1.cells;have hcall:=SA g _ hok (tp:Nat) (i:Nat) (W i) (slc (gs.getD i 0)) wr hheld (Ur om) C1;have hstep:wrN s (tp:Nat) W (i+1)=writeR (wrN s (tp:Nat) W i).1 (tp:Nat) i (W i):=by
    show (if (wrN s (tp:Nat) W i).2=0 then writeR (wrN s (tp:Nat) W i).1 (tp:Nat) i (W i) else wrN s (tp:Nat) W i)=_;rw[AJ hz]
   rw[<-hstep] at hcall;have hcode:=Uk s (tp:Nat) W (i+1);have HG1:=BB G1;have HM1:=BB hM1;have HST:=BB hstep;unfold slc at hcell hcall;clear hM1 hR1 harr hheld C1 G1 hstep hok;generalize gs.getD i 0=gi at *
   go_wp2_with fail;refine hcall.mono ?_;rintro x w2 ⟨rfl,C2,G2⟩;clear hcall;have HC2:=BB C2;have HG2:=BB (HG1.out.trans G2);have HM2:=BB (HM1.out.far G2 nm np nq nb);clear C2 G2 HG1 HM1 hcell c0;by_cases hc:(wrN s (tp:Nat) W (i+1)).2=0
   ·rw[hc];simp only[nerrV];have HCC:=BB hc;clear hc hcode;go_wp2;exact⟨⟨i+1,om,by go_num,HCC.out,HC2.out,HG2.out⟩,by simp[intOf];omega⟩
   ·obtain⟨y,hy,q1⟩:=Hk hcode hc;have HY:=BB hy;rw[hy];have HCC:=BB hc;clear hc hcode hy;go_wp2;go_ret;have e4:wrN s (tp:Nat) W 4=wrN s (tp:Nat) W (i+1):=by
     have:=Ul HCC.out (4 - (i+1))
     rwa [show i+1+(4 - (i+1))=4 from om] at this
    refine⟨⟨(wrN s (tp:Nat) W (i+1)).1,r,(wrN s (tp:Nat) W (i+1)).2,AK ?_,by rw[HY.out];rfl,HM2.out,HC2.out⟩,?_⟩
    ·rw[HWW.out,e4];exact⟨HCC.out,rfl,rfl,rfl⟩
    ·exact(HG.out.mono (fun _ _ f=>f.elim)).trans' HG2.out (fun k _ e=>AL (AK e))
  ·obtain rfl:i=4:=om
   have hok:(wrN s (tp:Nat) W 4).1.Ok:=LV HS.out _ 4 (fun k hk=>(HW.out k om).2);have hs1:=G1.size;have hcall:=Hl m g p q b r _ hok wr hM1 C1 (tp:Nat);have HT1:=BB (HT.out.chg G1 om);have HA1:=BB (HA.out.chg G1 (fun e=>hcg e));have HG1:=BB G1;have HZ:=BB hz;clear hM1 hR1 C1 G1 hok hz;go_wp2_with fail;refine hcall.mono ?_;rintro x w2 ⟨s',r',X,e,v,rfl,hRR,hO,M2,C2,G2⟩;clear hcall;have HT2:=BB (HT1.out.chg G2 om);have HA2:=BB (HA1.out.chg G2 om);have HM2:=BB M2;have HC2:=BB C2;have HG2:=BB ((HG1.out.mono (T:=fun k=>k=m\/k=g\/k=b) (fun k _ e=>AL (AK e))).trans G2);have HRR:=BB hRR;have HO:=BB hO;clear HT1 HA1 HG1 M2 C2 G2 hO;unfold SE;have hcode:nIsCode e:=(by rw[hRR.2.1];exact JW _ _);have hlow:∀k,v.ownBlock=some k->wr.heap.size<=k/\k<w2.heap.size:=fun k hk=>HO.out.block hk;have hs2:=HG2.out.size;have hwr:=hs1;have hgd:=SG;by_cases hc:e=0
   ·subst hc;simp only[nerrV];obtain⟨-,hRc,hRt⟩:=hRR;have hTold:ToldR (readV (wrN s (tp:Nat) W 4).1 (tp:Nat)).2.1 (tp:Nat) X:=by
     rcases hRt with ⟨x,_⟩ | ⟨_,_,x⟩
     ·exact absurd rfl x
     ·exact x
    have HTold:=BB hTold;clear hRc hRt hcode hTold;go_wp2_with (refine wpList_store_pg rfl (.tmp 14) (.tmp 39) rfl w2.heap.size rfl rfl HO.out.one (Pb.new w2 false 0 0 0 0 false false (.slice none 0 0) 0) ?_);intro w3 P3 G3;have G3':Chg No w2 w3:=((Chg.refl No w2).alloc _).trans' G3 (fun k hk e=>om);have HT3:=BB (HT2.out.chg G3' (fun f=>f));have HM3:=BB (HM2.out.chg G3');have HC3:=BB (HC2.out.chg G3' (fun f=>f));have HA3:=BB (HA2.out.chg G3' (fun f=>f));have HG3:=BB (HG2.out.trans' G3' (fun _ _ f=>f.elim));have HO3:=BB (HO.out.chg G3' (fun _ _ _ f=>f));obtain⟨k0,k1,k2,k3,k4,k5,k6,k7,k8⟩:=P3.cells;obtain⟨v0,v1,v2,v3,v4⟩:=HT3.out.cells;clear G3 G3' P3 HT2 HM2 HC2 HA2 HG2 HO;obtain⟨xt,xp,xo,xs,xc,xl,xsd,xd,xg⟩:=X;simp only at k0 k1 k2 k3 k4 k5 k6 k7 k8 HO3 ⊢;cases xsd
    ·go_wp2;go_ret;refine⟨⟨s',r',8,AL ?_,rfl,HM3.out,HC3.out⟩,(HG.out.mono (fun _ _ f=>f.elim)).trans HG3.out⟩;rw[HWW.out];exact⟨HZ.out,_,0,HRR.out,AL (AL ⟨rfl,fun hi=>(by have:=hi.2.2.1;cases this),rfl⟩)⟩
    ·have qt:=fun w=>ZY w xp xo xs xc tp to ts tc xl tl;obtain⟨ht0,hd0,bd0⟩:=HTold.out.sound rfl;simp only at ht0 hd0 bd0;by_cases ht:((xp:Int)=tp/\(xo:Int)=to/\(xs:Int)=ts/\(xc:Int)=tc/\xl=tl)
     ·rw[AO ht] at qt;obtain⟨g',cap',rfl,hg',hg'',-,hcl,-⟩:=HO3.out.lies om;have heq:=Hh w3 g' 0 xd.length cap' c o 174 cap xd Dt rfl HD.out.symm bd0 bD ⟨hg'',fun i hi=>by rw[AW];exact hcl i hi⟩ HA3.out;have HT0:=BB ht;have HD0:=BB hd0;clear ht hcl HO3 hd0;rw[HD0.out] at heq k7 ⊢;by_cases hdd:xd=Dt
      ·rw[AO hdd] at heq;go_wp2_with fail;refine heq.mono ?_;rintro x w4 ⟨rfl,rfl⟩;clear heq;go_wp2;go_ret;refine⟨⟨s',r',0,AL ?_,rfl,HM3.out,HC3.out⟩,(HG.out.mono (fun _ _ f=>f.elim)).trans HG3.out⟩;rw[HWW.out];exact⟨HZ.out,_,0,HRR.out,AL (AK ⟨rfl,⟨ht0,⟨by show xp=tp;have:=HT0.out.1;omega,by show xo=to;have:=HT0.out.2.1;omega,by show xs=ts;have:=HT0.out.2.2.1;omega,by show xc=tc;have:=HT0.out.2.2.2.1;omega,HT0.out.2.2.2.2⟩,rfl,hdd⟩,rfl⟩)⟩
      ·rw[AN hdd] at heq;go_wp2_with fail;refine heq.mono ?_;rintro x w4 ⟨rfl,rfl⟩;clear heq;go_wp2;go_ret;refine⟨⟨s',r',8,AL ?_,rfl,HM3.out,HC3.out⟩,(HG.out.mono (fun _ _ f=>f.elim)).trans HG3.out⟩;rw[HWW.out];exact⟨HZ.out,_,0,HRR.out,AL (AL ⟨rfl,fun hi=>hdd hi.2.2.2,rfl⟩)⟩
     ·rw[AN ht] at qt;go_wp2;go_ret;refine⟨⟨s',r',8,AL ?_,rfl,HM3.out,HC3.out⟩,(HG.out.mono (fun _ _ f=>f.elim)).trans HG3.out⟩;rw[HWW.out];exact⟨HZ.out,_,0,HRR.out,AL (AL ⟨rfl,fun hi=>ht ⟨by have:=hi.2.1.1;simp only at this;omega,by have:=hi.2.1.2.1;simp only at this;omega,by have:=hi.2.1.2.2.1;simp only at this;omega,by have:=hi.2.1.2.2.2.1;simp only at this;omega,hi.2.1.2.2.2.2⟩,rfl⟩)⟩
   ·obtain⟨y,hy,q1⟩:=Hk hcode hc;have HY:=BB hy;rw[hy];have HCC:=BB hc;clear hc hcode hy;go_wp2_with (refine wpList_store_pg rfl (.tmp 14) (.tmp 39) rfl w2.heap.size rfl rfl HO.out.one (Pb.new w2 false 0 0 0 0 false false (.slice none 0 0) 0) ?_);intro w3 P3 G3;have G3':Chg No w2 w3:=((Chg.refl No w2).alloc _).trans' G3 (fun k hk e=>om);have HM3:=BB (HM2.out.chg G3');have HC3:=BB (HC2.out.chg G3' (fun f=>f));have HG3:=BB (HG2.out.trans' G3' (fun _ _ f=>f.elim));clear G3 G3' P3 HT2 HM2 HC2 HA2 HG2 HO;go_wp2;go_ret;refine⟨⟨s',r',e,AL ?_,by rw[HY.out];rfl,HM3.out,HC3.out⟩,(HG.out.mono (fun _ _ f=>f.elim)).trans HG3.out⟩;rw[HWW.out];exact⟨HZ.out,_,e,HRR.out,AK ⟨HCC.out,rfl⟩⟩
theorem NC(m g p q b:Nat)(r:Int)(w:Wd)(h:Do w m g p q b r)(a tp to ts tc:Int)(tl:Bool)(ad:Option Addr)(n cap:Nat)(hno:¬ (DV tp to ts tc tl/\tp=a/\n=174)) :Calls prog 157 #[.pointer (some ⟨m,0,none⟩),.int .i64 a,.agg #[.int .i64 tp,.int .i64 to,.int .i64 ts,.int .i64 tc,.bool tl],.slice ad n cap] w fun e w'=>e=.returned (.iface 56 (.int .i64 1))/\Chg No w w':=by
 have T0:=Tg.new w tp to ts tc tl;have G0:Chg No w (w.alloc (.cells #[.int .i64 tp,.int .i64 to,.int .i64 ts,.int .i64 tc,.bool tl] 127)):=(Chg.refl _ w).alloc _;have hcall:=PA m g p q b r _ (h.chg G0) a tp to ts tc tl ad n cap hno;have HT:=BB T0;have HG:=BB G0;have q1:=Ds;clear T0 G0 h hno;go_enter func157,ntmps157;go_wp2_with (first | refine Bk rfl (.tmp 6) rfl w.heap.size rfl HT.out ?_);refine hcall.mono ?_;rintro x w1 ⟨rfl,G1⟩;have HG1:=BB (HG.out.trans G1);clear hcall G1;go_wp2;go_ret;exact⟨rfl,HG1.out⟩
theorem LY(m g p q b:Nat)(r:Int)(s:BG)(hs:s.Ok)(w:Wd)(h:Do w m g p q b r)(hC:BF w g s)(tp to ts tc:Nat)(tl:Bool)(hm:DV tp to ts tc tl)(c o cap:Nat)(Dt:List Nat)(hD:Dt.length=174)(bD:Bys Dt)(hcb:c≠b)(hcg:c≠g)(hcm:c≠m)(hA:At w c o Dt) :Calls prog 157 #[.pointer (some ⟨m,0,none⟩),.int .i64 (tp:Nat),.agg #[.int .i64 (tp:Nat),.int .i64 (to:Nat),.int .i64 (ts:Nat),.int .i64 (tc:Nat),.bool tl],.slice (some ⟨c,o,none⟩) 174 cap] w fun e w'=>br s r tp tp to ts tc tl Dt w' m g p q b e/\Chg (fun k=>k=m\/k=g\/k=b) w w':=by
 have T0:=Tg.new w tp to ts tc tl;have G0:Chg No w (w.alloc (.cells #[.int .i64 (tp:Nat),.int .i64 (to:Nat),.int .i64 (ts:Nat),.int .i64 (tc:Nat),.bool tl] 127)):=(Chg.refl _ w).alloc _;have hs0:=G0.size;have hcall:=NB m g p q b r _ (h.chg G0) tp to ts tc tl hm c o cap Dt hD bD hcb (Aj hA.1 hs0) (hA.chg G0 (fun f=>f));obtain⟨hms,hps,hqs,hbs⟩:=h.lts;obtain⟨nm,np,nq,nb⟩:=h.mg hC;have hgs:=hC.lt;have hAc:=hA.1;have HT:=BB T0;have HG:=BB G0;have HC:=BB hC;have HA:=BB hA;have HD:=BB hD;have HS:=BB hs;have q1:=BJ;clear T0 G0 h hC hA hD hs;go_enter func157,ntmps157;go_wp2_with (first | refine Bk rfl (.tmp 6) rfl w.heap.size rfl HT.out ?_);refine hcall.mono ?_;rintro x w1 ⟨rr,k,gs,rfl,hR,M1,B1⟩;clear hcall;have C1:=(HC.out.chg HG.out (fun f=>f)).chg B1.chg (fun e=>nb e.symm);have A1:=(HA.out.chg HG.out (fun f=>f)).chg B1.chg hcb;have HT1:=BB (HT.out.chg B1.chg om);have G1:Chg (fun k=>k=m\/k=g\/k=b) w w1:=(HG.out.mono (T:=fun k=>k=m\/k=g\/k=b) (fun _ _ f=>f.elim)).trans' B1.chg (fun k _ e=>AL (AL e));have hcall:=PD m g p q b r s HS.out w1 M1 C1 tp to ts tc tl hm c o cap Dt HD.out bD hcb hcg hcm A1 _ rr k gs hR om;have HG1:=BB G1;clear hR M1 B1 C1 A1 HC HA HG G1;go_wp2_with (first | refine Bk rfl (.tmp 6) rfl w.heap.size rfl HT1.out ?_);refine hcall.mono ?_;rintro x w2 ⟨⟨s',r',e,hP,rfl,M2,C2⟩,G2⟩;have HP:=BB hP;have HM2:=BB M2;have HC2:=BB C2;have HG2:=BB (HG1.out.trans G2);clear hcall hP M2 C2 G2;go_wp2;go_ret;exact⟨⟨s',r',e,HP.out,rfl,HM2.out,HC2.out⟩,HG2.out⟩
end
theorem Chg.below{S:Nat->Prop}{w w':Wd}(h:Chg S w w'){B:Nat}(hS:∀k,S k->B<=k)(hB:B<=w.heap.size):Below B w w':=
 ⟨h.os,h.tape,h.output,h.size,fun k hk=>h.block k om (fun hh=>by have:=hS k hh;omega)⟩
theorem Chg.drewN{S:Nat->Prop}{u w:Wd}(h:Chg S u w)(n:Nat):Chg S u (w.drewN n):=by
 induction n with
 | zero=>exact h
 | succ n ih=>exact ih.drew
def i6 (z:Int):Value:=.int .i64 z
def upd {α:Type} (f:Nat->α) (i:Nat) (z:α):Nat->α:=fun j=>if j=i then z else f j
def ints (f:Nat->Int) (n:Nat):List Value:=(List.range n).map fun i=>i6 (f i)
theorem BD(f:Nat->Int)(n:Nat):(ints f n).length=n:=by simp[ints]
theorem BM(f:Nat->Int)(n i:Nat)(h:i<n):(ints f n)[i]?=some (i6 (f i)):=by simp[ints,h]
theorem Jb(f:Nat->Int)(n i:Nat)(z:Int):(ints f n).set i (i6 z)=ints (upd f i z) n:=by
 apply ext_getElem?;intro j;by_cases hj:j<n
 ·by_cases e:j=i
  ·subst e;rw[List.getElem?_set_self (by simpa[BD] using hj),BM _ _ _ hj];simp[upd]
  ·rw[List.getElem?_set_ne om,BM _ _ _ hj,BM _ _ _ hj];simp[upd,e]
 ·rw[Ae (by simp[BD];omega),Ae (by simp[BD];omega)]
theorem CK(f:Nat->Int)(n:Nat):∀v ∈ ints f n,v.oneCell'=true:=by
 intro v hv;obtain⟨_,_,rfl⟩:=mem_map.1 hv;rfl
theorem Dh{f g:Nat->Int}{n:Nat}(h:∀i,i<n->f i=g i):ints f n=ints g n:=by
 apply map_congr_left;intro i hi;rw[h i (mem_range.1 hi)]
def IB (w:Wd) (b:Nat) (t:TypeId) (n:Nat) (F:Nat->Int):Prop:=w.heap[b]?=some (.cells (ints F n).toArray t)
section
variable {w w':Wd}{b n:Nat}{t:TypeId}{F:Nat->Int}
theorem IB.lt(h:IB w b t n F):b<w.heap.size:=(Array.getElem?_eq_some_iff.1 (show w.heap[b]?=some _ from h)).1
theorem IB.chg{S:Nat->Prop}(h:IB w b t n F)(hc:Chg S w w')(hb:¬ S b):IB w' b t n F:=(hc.block b h.lt hb).trans h
theorem IB.new(w:Wd)(t:TypeId)(n:Nat)(F:Nat->Int):IB (w.alloc (.cells (ints F n).toArray t)) w.heap.size t n F:=by
 show (w.heap.push _)[w.heap.size]?=_;simp
theorem IB.set(h:IB w b t n F)(i:Nat)(z:Int):IB (w.setCell ⟨b,i,none⟩ (.int .i64 z)) b t n (upd F i z):=by
 have h':w.heap[b]?=some _:=h;show (w.setCell ⟨b,i,none⟩ _).heap[b]?=_;have e2:(ints F n).toArray.setIfInBounds i (.int .i64 z)=(ints (upd F i z) n).toArray:=by
  apply Array.ext';have:=Jb F n i z;simpa[i6] using this
 simp[World.setCell,Ai,h',e2]
theorem IB.cell(h:IB w b t n F)(i:Nat)(hi:i<n):w.cell? ⟨b,i,none⟩=some (.int .i64 (F i))/\w.frozen? ⟨b,i,none⟩=false:=by
 have h':w.heap[b]?=some _:=h;refine⟨?_,by simp[World.frozen?,h']⟩;simp only[World.cell?,h'];simpa[i6] using BM F n i hi
theorem IB.congr{G:Nat->Int}(h:IB w b t n F)(e:∀i,i<n->F i=G i):IB w b t n G:=by
 unfold IB at *
 rw[h,Dh e]
theorem IB.row(h:IB w b t n F)(G:Nat->Int):IB (w.setRow b (ints G n).toArray) b t n G:=setRow_heap w b _ _ t _ h
end
def bools (f:Nat->Bool) (n:Nat):List Value:=(List.range n).map fun i=>.bool (f i)
theorem BT(f:Nat->Bool)(n:Nat):(bools f n).length=n:=by simp[bools]
theorem Di(f:Nat->Bool)(n i:Nat)(h:i<n):(bools f n)[i]?=some (.bool (f i)):=by simp[bools,h]
theorem SH(f:Nat->Bool)(n i:Nat)(z:Bool):(bools f n).set i (.bool z)=bools (upd f i z) n:=by
 apply ext_getElem?;intro j;by_cases hj:j<n
 ·by_cases e:j=i
  ·subst e;rw[List.getElem?_set_self (by simpa[BT] using hj),Di _ _ _ hj];simp[upd]
  ·rw[List.getElem?_set_ne om,Di _ _ _ hj,Di _ _ _ hj];simp[upd,e]
 ·rw[Ae (by simp[BT];omega),Ae (by simp[BT];omega)]
theorem SJ(f:Nat->Bool)(n:Nat):∀v ∈ bools f n,v.oneCell'=true:=by
 intro v hv;obtain⟨_,_,rfl⟩:=mem_map.1 hv;rfl
theorem ND{f g:Nat->Bool}{n:Nat}(h:∀i,i<n->f i=g i):bools f n=bools g n:=by
 apply map_congr_left;intro i hi;rw[h i (mem_range.1 hi)]
section
variable {w w':Wd}{b n:Nat}{t:TypeId}{F:Nat->Bool}
end
theorem DF(w:Wd)(g:Nat)(c:Array Value):Chg (·=g) w (w.setRow g c):=⟨rfl,rfl,rfl,by simp,fun k _ hk=>setRow_other _ _ _ _ hk⟩
theorem DB{ops:Array Oper}{rest:List Oper}{o:Oper}{a:Act}{w:Wd}{Q:Exit->Act->World->Prop}(hgd:o.guard=none)(t:TypeId)(ho:o.op=.alloc t)(N:Nat)(hN:w.heap.size=N){A:Array Value}(hz:∀w,(zeroValue t).run prog w=.ok (.agg A) w)(h:∀w',w'.heap[N]?=some (.cells A t)->Chg No w w'->w'.heap.size=N+1->wpList prog ops Q rest (a.put o.dst (.pointer (some ⟨N,0,none⟩))) w'):wpList prog ops Q (o :: rest) a w:=by
 refine wpList_plain hgd fun K hK=>?_;unfold Oper.wp;simp[execOp,ho,Instr.alloc,hz,newVar,Value.cells,newRow];rw[hN];refine hK _ _ (h _ ?_ ((Chg.refl _ w).alloc _) (by simp[hN]));rw[<-hN];show (w.heap.push _)[w.heap.size]?=_;simp
theorem Gg(w:Wd):(binOp .eql 33 .nilIface .nilIface).run prog w=.ok (.bool true) w:=kr
theorem CX(w:Wd):(binOp .neq 33 .nilIface .nilIface).run prog w=.ok (.bool false) w:=kr
theorem Hm(w:Wd)(n:Int):(binOp .eql 33 (.iface 56 (.int .i64 n)) .nilIface).run prog w=.ok (.bool false) w:=kr
theorem CY(w:Wd)(n:Int):(binOp .neq 33 (.iface 56 (.int .i64 n)) .nilIface).run prog w=.ok (.bool true) w:=kr
theorem Jc(c:Nat):nerrV c=errV c:=by
 cases c with
 | zero=>rfl
 | succ n=>unfold errV;rw[AI om];rfl
theorem Hn(c:Nat)(w:Wd):(binOp .eql 33 (errV c) .nilIface).run prog w=.ok (.bool (decide (c=0))) w:=by
 unfold errV;by_cases h:c=0
 ·rw[AJ h,AO h];exact Gg w
 ·rw[AI h,AN h];exact Hm w _
theorem Bn(c:Nat)(w:Wd):(binOp .neq 33 (errV c) .nilIface).run prog w=.ok (.bool (!decide (c=0))) w:=by
 unfold errV;by_cases h:c=0
 ·rw[AJ h,AO h];exact CX w
 ·rw[AI h,AN h];exact CY w _
theorem DC(c:Nat)(x:Operand)(w:Wd):(eqGuard .eql 33 x (.const .nilIface) (errV c) .nilIface).run prog w=.ok () w:=by
 unfold errV;by_cases h:c=0
 ·rw[AJ h];cases x <;> rfl
 ·rw[AI h];rfl
theorem BL(c:Nat)(x:Operand)(w:Wd):(eqGuard .neq 33 x (.const .nilIface) (errV c) .nilIface).run prog w=.ok () w:=by
 unfold errV;by_cases h:c=0
 ·rw[AJ h];cases x <;> rfl
 ·rw[AI h];rfl
end Go.Proofs.YtbhbilcieodbhaaGreat
namespace Go.Proofs.YtbhbilcieodbhaaGreat.AD
open List
open Go.Proofs.Tryz
open Go.RowKit
section
variable {w w':Wd}{b n:Nat}{t:TypeId}{F:Nat->Bool}
end
theorem zero48(w:Wd):(zeroValue 167).run prog w=.ok (.agg (ints (fun _=>0) 13).toArray) w:=kr
theorem make12(w:Wd):(Instr.makeSlice 22 (.int .i64 12) (.int .i64 12)).run prog w=.ok (.slice (some ⟨w.heap.size,0,none⟩) 12 12) (w.alloc (.cells (ints (fun _=>0) 12).toArray 3)):=kr
def cnt (F:Nat->Int) (s:Int):Nat->Nat
 | 0=>0
 | k+1=>cnt F s k+if F k=s then 1 else 0
theorem Ho(F:Nat->Int)(s:Int)(k:Nat):cnt F s k<=k:=by
 induction k with
 | zero=>exact AM _
 | succ k ih=>unfold cnt;split <;> omega
theorem block_yes(w:Wd)(n:Int)(h0:0<=n)(h1:n<12):Calls prog 215 #[.int .i64 n] w fun e w'=>e=.returned (.bool true)/\w'=w:=by
 go_enter func215,ntmps215;go_wp2;go_ret;exact⟨rfl,rfl⟩
theorem block_no(w:Wd)(n:Int)(h:n<0\/12<=n):Calls prog 215 #[.int .i64 n] w fun e w'=>e=.returned (.bool false)/\w'=w:=by
 by_cases h0:0<=n
 ·have h1:¬ n<12:=om
  clear h;go_enter func215,ntmps215;go_wp2;go_ret;exact⟨rfl,rfl⟩
 ·clear h;go_enter func215,ntmps215;go_wp2;go_ret;exact⟨rfl,rfl⟩
theorem Hp(w:Wd)(n:Int)(h0:0<=n)(h1:n<=3):Calls prog 216 #[.int .i64 n] w fun e w'=>e=.returned (.bool true)/\w'=w:=by
 go_enter func216,ntmps216;go_wp2;go_ret;exact⟨rfl,rfl⟩
theorem Us(w:Wd)(n:Int)(h:n<0\/3<n):Calls prog 216 #[.int .i64 n] w fun e w'=>e=.returned (.bool false)/\w'=w:=by
 by_cases h0:0<=n
 ·have h1:¬ n<=3:=om
  clear h;go_enter func216,ntmps216;go_wp2;go_ret;exact⟨rfl,rfl⟩
 ·clear h;go_enter func216,ntmps216;go_wp2;go_ret;exact⟨rfl,rfl⟩
theorem GK(w:Wd):Calls prog 176 #[] w fun e w'=>e=.returned (.pointer (some ⟨w.heap.size,0,none⟩))/\IB w' w.heap.size 167 13 (fun _=>0)/\Chg No w w':=by
 go_enter func176,ntmps176;go_wp2_with (refine DB rfl 167 rfl w.heap.size rfl zero48 ?_);intro w1 K1 G1 S1;have HK1:=BB (show IB w1 w.heap.size 167 13 (fun _=>0) from K1);have HG1:=BB G1;clear K1 G1 S1;generalize HB:w.heap.size=b at *
 have HB:=BB HB;go_wp2_with fail
 go_loopg [4] 12 (fun kx s4 wr=>∃i:Nat,s4=.int .i64 i/\i<=12/\12 - i<=kx/\Hid (IB wr b 167 13 (fun _=>0))/\Hid (Chg No w wr))
 case atStart=>exact⟨0,rfl,om,om,HK1,HG1⟩
 case round=>
 obtain⟨i,rfl,hin,hkx,HK,HG⟩:=hrel;clear HK1 HG1;by_cases hlt:i<12
 ·have hltz:(i:Int)<12:=om
  obtain⟨c,f⟩:=HK.out.cell i om;go_wp2
  go_roundg (12 - (i+1))
  case measure=>omega
  case rel=>
   refine⟨i+1,by simp,om,AM _,?_,?_⟩
   ·exact(HK.out.set i 0).congr fun j _=>by unfold upd;split <;> rfl
   ·exact HG.out.setCell (AL (by rw[HB.out];exact AM _)) _ _
 ·have hltz:¬ (i:Int)<12:=om
  go_wp2;go_ret;exact⟨rfl,HK.out,HG.out⟩
theorem ZZ(w:Wd)(b:Nat)(F:Nat->Int)(h:IB w b 167 13 F)(n:Nat)(hn:n<12):Calls prog 187 #[.pointer (some ⟨b,0,none⟩),.int .i64 n] w fun e w'=>e=.returned (.tuple #[.int .i64 (F n),.nilIface])/\w'=w:=by
 obtain⟨c,-⟩:=h.cell n om;have h1:(n:Int)<12:=om
 clear h;go_enter func187,ntmps187;go_wp2_with (go_at_call 215;refine(block_yes _ _ om h1).mono ?_;rintro e w1 ⟨rfl,rfl⟩);go_ret2;exact⟨rfl,rfl⟩
theorem dm(w:Wd)(b:Nat)(n:Int)(hn:n<0\/12<=n):Calls prog 187 #[.pointer (some ⟨b,0,none⟩),.int .i64 n] w fun e w'=>e=.returned (.tuple #[.int .i64 0,.iface 56 (.int .i64 1)])/\w'=w:=by
 go_enter func187,ntmps187;go_wp2_with (go_at_call 215;refine(block_no _ _ hn).mono ?_;rintro e w1 ⟨rfl,rfl⟩);go_ret2;exact⟨rfl,rfl⟩
theorem Fc(w:Wd)(b:Nat)(F:Nat->Int)(h:IB w b 167 13 F)(s:Int):Calls prog 148 #[.pointer (some ⟨b,0,none⟩),.int .i64 s] w fun e w'=>e=.returned (.int .i64 (cnt F s 12:Nat))/\w'=w:=by
 have HK:=BB h;clear h;go_enter func148,ntmps148;go_wp2_with fail
 go_loopg [5,7] 12 (fun kx s5 s7 wr=>∃i:Nat,s7=.int .i64 i/\s5=.int .i64 (cnt F s i:Nat)/\i<=12/\12 - i<=kx/\wr=w)
 case atStart=>exact⟨0,rfl,rfl,om,om,rfl⟩
 case round=>
 obtain⟨i,rfl,rfl,hin,hkx,rfl⟩:=hrel;by_cases hlt:i<12
 ·have hltz:(i:Int)<12:=om
  obtain⟨c,f⟩:=HK.out.cell i om;have hc:=Ho F s i;have HE:Hid (cnt F s (i+1)=cnt F s i+if F i=s then 1 else 0):=rfl;by_cases he:F i=s
  ·have hb:(F i == s)=true:=(by simp[he]);rw[AJ he] at HE;clear he;go_wp2
   go_roundg (12 - (i+1))
   case measure=>omega
   case rel=>exact⟨i+1,by simp,by rw[HE.out];simp,om,AM _,rfl⟩
  ·have hb:(F i == s)=false:=(by simp[he]);rw[AI he] at HE;clear he;go_wp2
   go_roundg (12 - (i+1))
   case measure=>omega
   case rel=>exact⟨i+1,by simp,by rw[HE.out];simp,om,AM _,rfl⟩
 ·have hltz:¬ (i:Int)<12:=om
  have h12:i=12:=om
  subst h12;go_wp2;go_ret;exact⟨rfl,rfl⟩
theorem size3:(prog.info? 3).map (·.size)=some 1:=kr
theorem addr_at(g o j:Nat):(⟨g,o,none⟩:Addr).add j=⟨g,o+j,none⟩:=by unfold Addr.add;split <;> simp_all
theorem PE(f i:Nat):((f:Int)+(i:Int)).tmod 12=(((f+i) % 12:Nat):Int):=by
 rw[Av om];omega
def Ut (F:Nat->Int):Int:=if 2<cnt F 3 12 then 0 else 1+2*(2 - (cnt F 3 12:Int))
theorem set_arg(w:Wd)(b:Nat)(n s:Int)(hn:(n<0\/12<=n)\/(s<0\/3<s)):Calls prog 184 #[.pointer (some ⟨b,0,none⟩),.int .i64 n,.int .i64 s] w fun e w'=>e=.returned (.iface 56 (.int .i64 1))/\w'=w:=by
 by_cases h1:n<0\/12<=n
 ·clear hn;go_enter func184,ntmps184;go_wp2_with (first | (go_at_call 215;refine(block_no _ _ h1).mono ?_;rintro e w1 ⟨rfl,rfl⟩));go_ret;exact⟨rfl,rfl⟩
 ·have h2:s<0\/3<s:=om
  have h3:0<=n:=om
  have h4:n<12:=om
  clear hn h1;go_enter func184,ntmps184;go_wp2_with (first | (go_at_call 215;refine(block_yes _ _ h3 h4).mono ?_;rintro e w1 ⟨rfl,rfl⟩) | (go_at_call 216;refine(Us _ _ h2).mono ?_;rintro e w1 ⟨rfl,rfl⟩));go_ret;exact⟨rfl,rfl⟩
theorem Za(w:Wd)(b:Nat)(F:Nat->Int)(h:IB w b 167 13 F)(n:Nat)(s:Int)(hn:n<12)(h0:0<=s)(h3:s<=3)(hF:F n=3)(hs:s≠3):Calls prog 184 #[.pointer (some ⟨b,0,none⟩),.int .i64 n,.int .i64 s] w fun e w'=>e=.returned (.iface 56 (.int .i64 12))/\w'=w:=by
 obtain⟨c,-⟩:=h.cell n om;rw[hF] at c;have h1:(n:Int)<12:=om
 have hb:(s == 3)=false:=by simp[hs]
 clear h hF hn;go_enter func184,ntmps184;go_wp2_with (first | (go_at_call 215;refine(block_yes _ _ om h1).mono ?_;rintro e w1 ⟨rfl,rfl⟩) | (go_at_call 216;refine(Hp _ _ h0 h3).mono ?_;rintro e w1 ⟨rfl,rfl⟩));go_ret;exact⟨rfl,rfl⟩
theorem set_yes(w:Wd)(b:Nat)(F:Nat->Int)(h:IB w b 167 13 F)(n:Nat)(s:Int)(hn:n<12)(h0:0<=s)(h3:s<=3)(hF:¬ (F n=3/\s≠3)):Calls prog 184 #[.pointer (some ⟨b,0,none⟩),.int .i64 n,.int .i64 s] w fun e w'=>e=.returned .nilIface/\IB w' b 167 13 (upd F n s)/\Chg (·=b) w w':=by
 obtain⟨c,f⟩:=h.cell n om;have h1:(n:Int)<12:=om
 have HK:=BB h;by_cases h2:F n=3
 ·rw[h2] at c;have hs:s=3:=by
   by_cases hs:s=3
   ·exact hs
   ·exact absurd ⟨h2,hs⟩ hF
  subst hs;clear h hF hn h2;go_enter func184,ntmps184;go_wp2_with (first | (go_at_call 215;refine(block_yes _ _ om h1).mono ?_;rintro e w1 ⟨rfl,rfl⟩) | (go_at_call 216;refine(Hp _ _ om om).mono ?_;rintro e w1 ⟨rfl,rfl⟩));go_ret;exact⟨rfl,HK.out.set _ _,(Chg.refl (·=b) _).setCell (AK rfl) _ _⟩
 ·have hb:(F n == 3)=false:=by simp[h2]
  clear h hF hn h2;go_enter func184,ntmps184;go_wp2_with (first | (go_at_call 215;refine(block_yes _ _ om h1).mono ?_;rintro e w1 ⟨rfl,rfl⟩) | (go_at_call 216;refine(Hp _ _ h0 h3).mono ?_;rintro e w1 ⟨rfl,rfl⟩));go_ret;exact⟨rfl,HK.out.set _ _,(Chg.refl (·=b) _).setCell (AK rfl) _ _⟩
theorem Dj(w:Wd)(b:Nat)(F:Nat->Int)(h:IB w b 167 13 F):Calls prog 53 #[.pointer (some ⟨b,0,none⟩)] w fun e w'=>e=.returned (.slice (some ⟨w.heap.size,0,none⟩) 12 12)/\IB w' w.heap.size 3 12 F/\Chg No w w':=by
 have hm:=make12;have HB:Hid (b<w.heap.size):=h.lt;have HK0:=BB (IB.new w 3 12 (fun _=>0));have HG0:Hid (Chg No w (w.alloc (.cells (ints (fun _=>0) 12).toArray 3))):=(Chg.refl _ w).alloc _;have HK:=BB (h.chg HG0.out (fun f=>f));clear h;go_enter func53,ntmps53;go_wp2_with (refine wpList_copy_own rfl (.tmp 5) (.tmp 9) 22 22 rfl 3 underlying22 size3 w.heap.size 0 12 12 ⟨b,0,none⟩ 12 12 rfl rfl (ints (fun _=>0) 12).toArray 3 HK0.out (ints F 12) (by rw[BD];rfl) (fun j v hv=>by rw[addr_at,AW,(HK.out.cell j (by have:=(List.getElem?_eq_some_iff.1 hv).1;rw[BD] at this;omega)).1,<-hv,BM _ _ _ (by have:=(List.getElem?_eq_some_iff.1 hv).1;rw[BD] at this;omega)];rfl) (by simp[BD]) (CK F 12) ?_);go_ret;have e1:(ints F 12 ++ List.drop (ints F 12).length (ints (fun _=>0) 12)).toArray=(ints F 12).toArray:=by
  rw[BD,drop_of_length_le (by simp[BD]),append_nil]
 rw[e1];exact⟨rfl,HK0.out.row F,HG0.out.trans' (DF _ _ _) (fun i hi e=>om)⟩
theorem Jd(w:Wd)(b:Nat)(F:Nat->Int)(h:IB w b 167 13 F):Calls prog 112 #[.pointer (some ⟨b,0,none⟩)] w fun e w'=>e=.returned (.bool (decide (2<cnt F 3 12)))/\w'=w:=by
 have hc:=Fc w b F h 3;have HD:Hid (decide (2<((cnt F 3 12:Nat):Int))=decide (2<cnt F 3 12)):=decide_eq_decide.2 om;clear h;go_enter func112,ntmps112;go_wp2_with (go_at_call 148;refine hc.mono ?_;rintro e w1 ⟨rfl,rfl⟩);go_ret;exact⟨by rw[<-HD.out];rfl,rfl⟩
theorem SK(w:Wd)(b:Nat)(F:Nat->Int)(h:IB w b 167 13 F):Calls prog 151 #[.pointer (some ⟨b,0,none⟩)] w fun e w'=>e=.returned (.int .i64 (Ut F))/\w'=w:=by
 have hc:=Fc w b F h 3;have hw:=Jd w b F h;have hl:=Ho F 3 12;clear h;by_cases hx:2<cnt F 3 12
 ·have HD:Hid (Ut F=0):=by show _=_;unfold Ut;rw[AJ hx]
  rw[AO hx] at hw;clear hx hc;go_enter func151,ntmps151;go_wp2_with (go_at_call 112;refine hw.mono ?_;rintro e w1 ⟨rfl,rfl⟩);go_ret;exact⟨by rw[HD.out];rfl,rfl⟩
 ·have HD:Hid (Ut F=1+2*(2 - (cnt F 3 12:Int))):=by show _=_;unfold Ut;rw[AI hx]
  rw[AN hx] at hw;clear hx;go_enter func151,ntmps151;go_wp2_with (first | (go_at_call 112;refine hw.mono ?_;rintro e w1 ⟨rfl,rfl⟩) | (go_at_call 148;refine hc.mono ?_;rintro e w1 ⟨rfl,rfl⟩));go_ret;exact⟨by rw[HD.out];rfl,rfl⟩
theorem SL(w:Wd)(b:Nat)(F:Nat->Int)(h:IB w b 167 13 F):Calls prog 115 #[.pointer (some ⟨b,0,none⟩)] w fun e w'=>e=.returned (.bool (decide (Ut F<(cnt F 0 12:Nat))))/\w'=w:=by
 have hc:=Fc w b F h 0;have hw:=SK w b F h;clear h;go_enter func115,ntmps115;go_wp2_with (first | (go_at_call 148;refine hc.mono ?_;rintro e w1 ⟨rfl,rfl⟩) | (go_at_call 151;refine hw.mono ?_;rintro e w1 ⟨rfl,rfl⟩));go_ret;exact⟨rfl,rfl⟩
theorem Uu(w:Wd)(b:Nat)(F:Nat->Int)(h:IB w b 167 13 F)(f:Nat)(hf:f<12)(h12:F 12=f)(j:Nat)(hj:j<12)(m:Nat)(hmj:m=(f+j) % 12)(hF:F m=0)(hno:∀i,i<j->F ((f+i) % 12)≠0):Calls prog 152 #[.pointer (some ⟨b,0,none⟩)] w fun e w'=>e=.returned (.tuple #[.int .i64 m,.nilIface])/\IB w' b 167 13 (upd (upd F m 1) 12 ((m+1) % 12:Nat))/\Chg (·=b) w w':=by
 have HK:=BB h;have HN:=BB hno;obtain⟨c12,f12⟩:=h.cell 12 om;rw[h12] at c12;have HM:=BB hmj;clear h hno h12 hmj;go_enter func152,ntmps152;go_wp2_with fail
 go_loopg [6] 12 (fun kx s6 wr=>∃i:Nat,s6=.int .i64 i/\i<=j/\12 - i<=kx/\wr=w)
 case atStart=>exact⟨0,rfl,om,om,rfl⟩
 case round=>
 obtain⟨i,rfl,hin,hkx,rfl⟩:=hrel;have hltz:(i:Int)<12:=om
 have hm:=PE f i;have hml:(f+i) % 12<12:=Nat.mod_lt _ om;obtain⟨c,fz⟩:=HK.out.cell ((f+i) % 12) om;by_cases hlt:i<j
 ·have hb:(F ((f+i) % 12) == 0)=false:=by simp[HN.out i hlt]
  go_wp2
  go_roundg (12 - (i+1))
  case measure=>omega
  case rel=>exact⟨i+1,by simp,om,AM _,rfl⟩
 ·have hij:i=j:=om
  subst hij;rw[<-HM.out] at c hm hml fz;rw[hF] at c;have hm2:=PE m 1;have hcast:((m:Int)+1).tmod 12=(((m+1) % 12:Nat):Int):=hm2;have hm3:(m:Int)<12:=om
  clear hm2 hlt hin;have HK1:=BB (HK.out.set m 1);obtain⟨-,g12⟩:=HK1.out.cell 12 om;go_wp2;go_ret2;refine⟨rfl,?_,?_⟩
  ·exact HK1.out.set 12 _
  ·exact((Chg.refl (·=b) _).setCell (AK rfl) _ _).setCell (AK rfl) _ _
theorem Zb(w:Wd)(b:Nat)(F:Nat->Int)(h:IB w b 167 13 F)(f:Nat)(hf:f<12)(h12:F 12=f)(hno:∀i,i<12->F i≠0):Calls prog 152 #[.pointer (some ⟨b,0,none⟩)] w fun e w'=>e=.returned (.tuple #[.int .i64 0,.iface 56 (.int .i64 10)])/\w'=w:=by
 have HK:=BB h;have HN:=BB hno;obtain⟨c12,f12⟩:=h.cell 12 om;rw[h12] at c12;clear h hno h12;go_enter func152,ntmps152;go_wp2_with fail
 go_loopg [6] 12 (fun kx s6 wr=>∃i:Nat,s6=.int .i64 i/\i<=12/\12 - i<=kx/\wr=w)
 case atStart=>exact⟨0,rfl,om,om,rfl⟩
 case round=>
 obtain⟨i,rfl,hin,hkx,rfl⟩:=hrel;by_cases hlt:i<12
 ·have hltz:(i:Int)<12:=om
  have hm:=PE f i;have hml:(f+i) % 12<12:=Nat.mod_lt _ om;obtain⟨c,fz⟩:=HK.out.cell ((f+i) % 12) om;have hb:(F ((f+i) % 12) == 0)=false:=by simp[HN.out _ hml]
  go_wp2
  go_roundg (12 - (i+1))
  case measure=>omega
  case rel=>exact⟨i+1,by simp,om,AM _,rfl⟩
 ·have hltz:¬ (i:Int)<12:=om
  go_wp2;go_ret2;exact⟨rfl,rfl⟩
def setC (F:Nat->Int) (n s:Int):Nat:=if (n<0\/12<=n)\/(s<0\/3<s) then 1 else if F n.toNat=3/\s≠3 then 12 else 0
def setF (F:Nat->Int) (n s:Int):Nat->Int:=if setC F n s=0 then upd F n.toNat s else F
theorem SM{F:Nat->Int}{n s:Int}(h:setC F n s=0):(0<=n/\n<12)/\(0<=s/\s<=3)/\¬ (F n.toNat=3/\s≠3):=by
 unfold setC at h;split at h
 ·omega
 ·rename_i h1;split at h
  ·omega
  ·rename_i h2;exact⟨om,om,h2⟩
theorem set_v(w:Wd)(b:Nat)(F:Nat->Int)(h:IB w b 167 13 F)(n s:Int):Calls prog 184 #[.pointer (some ⟨b,0,none⟩),.int .i64 n,.int .i64 s] w fun e w'=>e=.returned (errV (setC F n s))/\IB w' b 167 13 (setF F n s)/\Chg (·=b) w w':=by
 by_cases h1:(n<0\/12<=n)\/(s<0\/3<s)
 ·have e:setC F n s=1:=by unfold setC;rw[AJ h1]
  refine(set_arg w b n s h1).mono ?_;rintro x w' ⟨rfl,rfl⟩;rw[e];refine⟨rfl,?_,Chg.refl _ _⟩;unfold setF;rw[e];exact h
 ·obtain⟨m,rfl⟩:∃m:Nat,n=m:=⟨n.toNat,om⟩;by_cases h2:F m=3/\s≠3
  ·have e:setC F m s=12:=(by unfold setC;rw[AI h1,AP,AJ h2]);refine(Za w b F h m s om om om h2.1 h2.2).mono ?_;rintro x w' ⟨rfl,rfl⟩;rw[e];refine⟨rfl,?_,Chg.refl _ _⟩;unfold setF;rw[e];exact h
  ·have e:setC F m s=0:=(by unfold setC;rw[AI h1,AP,AI h2]);refine(set_yes w b F h m s om om om h2).mono ?_;rintro x w' ⟨rfl,h3,h4⟩;rw[e];refine⟨rfl,?_,h4⟩;unfold setF;rw[AJ e,AP];exact h3
def getC (n:Int):Nat:=if n<0\/12<=n then 1 else 0
def getV (F:Nat->Int) (n:Int):Int:=if n<0\/12<=n then 0 else F n.toNat
theorem jo(w:Wd)(b:Nat)(F:Nat->Int)(h:IB w b 167 13 F)(n:Int):Calls prog 187 #[.pointer (some ⟨b,0,none⟩),.int .i64 n] w fun e w'=>e=.returned (.tuple #[.int .i64 (getV F n),errV (getC n)])/\w'=w:=by
 by_cases h1:n<0\/12<=n
 ·unfold getV getC;rw[AJ h1,AJ h1];exact dm w b n h1
 ·obtain⟨m,rfl⟩:∃m:Nat,n=m:=⟨n.toNat,om⟩;unfold getV getC;rw[AI h1,AI h1,AP];exact ZZ w b F h m om
def lf (F:Nat->Int) (f c m:Nat):Prop:=(c=0/\∃j,j<12/\m=(f+j) % 12/\F m=0/\∀i,i<j->F ((f+i) % 12)≠0)\/(c=10/\m=0/\∀i,i<12->F i≠0)
theorem jp(P:Nat->Prop)[DecidablePred P](n:Nat):(∃j,j<n/\P j/\∀i,i<j->¬ P i)\/∀i,i<n->¬ P i:=by
 induction n with
 | zero=>exact AL fun i hi=>absurd hi (Nat.not_lt_zero _)
 | succ n ih=>
  rcases ih with ⟨j,h1,h2,h3⟩ | ih
  ·exact AK ⟨j,om,h2,h3⟩
  ·by_cases hn:P n
   ·exact AK ⟨n,om,hn,ih⟩
   ·refine AL fun i hi=>?_;by_cases e:i=n
    ·subst e;exact hn
    ·exact ih i om
def tkF (F:Nat->Int) (c m:Nat):Nat->Int:=if c=0 then upd (upd F m 1) 12 ((m+1) % 12:Nat) else F
theorem take_v(w:Wd)(b:Nat)(F:Nat->Int)(h:IB w b 167 13 F)(f:Nat)(hf:f<12)(h12:F 12=f){c m:Nat}(hN:lf F f c m):Calls prog 152 #[.pointer (some ⟨b,0,none⟩)] w fun e w'=>e=.returned (.tuple #[.int .i64 m,errV c])/\IB w' b 167 13 (tkF F c m)/\Chg (·=b) w w':=by
 rcases hN with ⟨rfl,j,hj,hm,hF,hno⟩ | ⟨rfl,rfl,hno⟩
 ·exact Uu w b F h f hf h12 j hj m hm hF hno
 ·refine(Zb w b F h f hf h12 hno).mono ?_;rintro x w' ⟨rfl,rfl⟩;exact⟨rfl,h,Chg.refl _ _⟩
theorem NE{F G:Nat->Int}(s:Int):∀(k:Nat),(∀i,i<k->G i=F i)->cnt G s k=cnt F s k
 | 0,_=>rfl
 | k+1,h=>by unfold cnt;rw[NE s k (fun i hi=>h i om),h k om]
def one (p:Prop) [Decidable p]:Nat:=if p then 1 else 0
theorem LZ(F:Nat->Int)(n:Nat)(s t:Int)(k:Nat)(h:k<=n):cnt (upd F n s) t k=cnt F t k:=
 NE t k fun i hi=>by unfold upd;rw[AI om]
theorem Qg(F:Nat->Int)(n:Nat)(s t:Int):∀k,n<k->cnt (upd F n s) t k+one (F n=t)=cnt F t k+one (s=t)
 | 0,h=>om
 | k+1,h=>by
  have e:∀G:Nat->Int,cnt G t (k+1)=cnt G t k+one (G k=t):=fun _=>rfl
  rw[e,e]
  by_cases hk:n=k
  ·
   subst hk
   have e3:upd F n s n=s:=by simp[upd]
   rw[LZ F n s t n (AM _),e3]
   omega
  ·
   have ih:=Qg F n s t k om
   have e3:upd F n s k=F k:=by unfold upd;rw[AI om]
   rw[e3]
   omega
theorem Im(F:Nat->Int):∀k,(∀i,i<k->0<=F i/\F i<=3)->cnt F 0 k+cnt F 1 k+cnt F 2 k+cnt F 3 k=k
 | 0,_=>rfl
 | k+1,h=>by
  have ih:=Im F k (fun i hi=>h i om)
  have e:∀t,cnt F t (k+1)=cnt F t k+one (F k=t):=fun _=>rfl
  rw[e,e,e,e]
  obtain⟨h0,h3⟩:=h k om
  have hc:F k=0\/F k=1\/F k=2\/F k=3:=om
  rcases hc with hc | hc | hc | hc <;> simp[one,hc] <;> omega
end Go.Proofs.YtbhbilcieodbhaaGreat.AD
namespace Go.Proofs.YtbhbilcieodbhaaGreat.AA
open List
open Go.Proofs.Tryz
open Go.RowKit
theorem zero48(w:Wd):(zeroValue 173).run prog w=.ok (.agg (ints (fun _=>0) 121).toArray) w:=kr
theorem make12(w:Wd):(Instr.makeSlice 22 (.int .i64 12) (.int .i64 12)).run prog w=.ok (.slice (some ⟨w.heap.size,0,none⟩) 12 12) (w.alloc (.cells (ints (fun _=>0) 12).toArray 3)):=kr
theorem dn:(prog.info? 171).map (·.size)=some 96:=kr
theorem BH(w:Wd)(n m:Int)(h:0<=n/\n<m):Calls prog 145 #[.int .i64 n,.int .i64 m] w fun e w'=>e=.returned (.bool true)/\w'=w:=by
 obtain⟨h0,h1⟩:=h;go_enter func145,ntmps145;go_wp2;go_ret;exact⟨rfl,rfl⟩
theorem CJ(w:Wd)(n m:Int)(h:n<0\/m<=n):Calls prog 145 #[.int .i64 n,.int .i64 m] w fun e w'=>e=.returned (.bool false)/\w'=w:=by
 by_cases h0:0<=n
 ·have h1:¬ n<m:=om
  clear h;go_enter func145,ntmps145;go_wp2;go_ret;exact⟨rfl,rfl⟩
 ·clear h;go_enter func145,ntmps145;go_wp2;go_ret;exact⟨rfl,rfl⟩
theorem place_in(w:Wd)(b i:Int)(hb:0<=b/\b<12)(hi:0<=i/\i<8):Calls prog 154 #[.int .i64 b,.int .i64 i] w fun e w'=>e=.returned (.tuple #[.int .i64 (b*8+i),.nilIface])/\w'=w:=by
 obtain⟨b0,b1⟩:=hb;obtain⟨i0,i1⟩:=hi;go_enter func154,ntmps154;go_wp2_with fail;refine(BH w b 12 ⟨b0,b1⟩).mono ?_;rintro e w1 ⟨rfl,rfl⟩;go_wp2_with fail;refine(BH w1 i 8 ⟨i0,i1⟩).mono ?_;rintro e w2 ⟨rfl,rfl⟩;go_wp2;go_ret2;exact⟨rfl,rfl⟩
theorem place_out(w:Wd)(b i:Int)(h:(b<0\/12<=b)\/(i<0\/8<=i)):Calls prog 154 #[.int .i64 b,.int .i64 i] w fun e w'=>e=.returned (.tuple #[.int .i64 0,.iface 56 (.int .i64 1)])/\w'=w:=by
 by_cases hb:0<=b/\b<12
 ·have hi:i<0\/8<=i:=om
  clear h;obtain⟨b0,b1⟩:=hb;go_enter func154,ntmps154;go_wp2_with fail;refine(BH w b 12 ⟨b0,b1⟩).mono ?_;rintro e w1 ⟨rfl,rfl⟩;go_wp2_with fail;refine(CJ w1 i 8 hi).mono ?_;rintro e w2 ⟨rfl,rfl⟩;go_wp2;go_ret2;exact⟨rfl,rfl⟩
 ·have hb':b<0\/12<=b:=om
  clear h hb;go_enter func154,ntmps154;go_wp2_with fail;refine(CJ w b 12 hb').mono ?_;rintro e w1 ⟨rfl,rfl⟩;go_wp2;go_ret2;exact⟨rfl,rfl⟩
theorem parts_in(w:Wd)(p:Int)(h:0<=p/\p<96):Calls prog 127 #[.int .i64 p] w fun e w'=>e=.returned (.tuple #[.int .i64 (p / 8),.int .i64 (p % 8),.nilIface])/\w'=w:=by
 obtain⟨h0,h1⟩:=h;go_enter func127,ntmps127;go_wp2_with fail;refine(BH w p 96 ⟨h0,h1⟩).mono ?_;rintro e w1 ⟨rfl,rfl⟩;go_wp2
 go_ret3
 exact⟨rfl,rfl⟩
theorem holds_in(w:Wd)(p o:Int)(h:0<=p/\p<96)(ho:0<=o/\o<25):Calls prog 155 #[.int .i64 p,.int .i64 o] w fun e w'=>e=.returned (.tuple #[.bool (decide (o=24\/p % 8<6)),.nilIface])/\w'=w:=by
 obtain⟨h0,h1⟩:=h;by_cases e1:o=24
 ·rw[show decide (o=24\/p % 8<6)=true from AO (AK e1)];have e2:(o == 24)=true:=by simp[e1]
  clear e1;go_enter func155,ntmps155;go_wp2_with fail;refine(BH w p 96 ⟨h0,h1⟩).mono ?_;rintro e w1 ⟨rfl,rfl⟩;go_wp2_with fail;refine(BH w1 o 25 ho).mono ?_;rintro e w2 ⟨rfl,rfl⟩;go_wp2;go_ret2;exact⟨rfl,rfl⟩
 ·rw[show decide (o=24\/p % 8<6)=decide (p % 8<6) from by simp[e1]];have e2:(o == 24)=false:=by simp[e1]
  clear e1;go_enter func155,ntmps155;go_wp2_with fail;refine(BH w p 96 ⟨h0,h1⟩).mono ?_;rintro e w1 ⟨rfl,rfl⟩;go_wp2_with fail;refine(BH w1 o 25 ho).mono ?_;rintro e w2 ⟨rfl,rfl⟩;go_wp2;go_ret2;exact⟨rfl,rfl⟩
theorem SN(w:Wd)(p o:Int)(h:(p<0\/96<=p)\/(o<0\/25<=o)):Calls prog 155 #[.int .i64 p,.int .i64 o] w fun e w'=>e=.returned (.tuple #[.bool false,.iface 56 (.int .i64 1)])/\w'=w:=by
 by_cases hp:0<=p/\p<96
 ·have ho:o<0\/25<=o:=om
  clear h;obtain⟨h0,h1⟩:=hp;go_enter func155,ntmps155;go_wp2_with fail;refine(BH w p 96 ⟨h0,h1⟩).mono ?_;rintro e w1 ⟨rfl,rfl⟩;go_wp2_with fail;refine(CJ w1 o 25 ho).mono ?_;rintro e w2 ⟨rfl,rfl⟩;go_wp2;go_ret2;exact⟨rfl,rfl⟩
 ·have hp':p<0\/96<=p:=om
  clear h hp;go_enter func155,ntmps155;go_wp2_with fail;refine(CJ w p 96 hp').mono ?_;rintro e w1 ⟨rfl,rfl⟩;go_wp2;go_ret2;exact⟨rfl,rfl⟩
def ownK (L:Nat->Int) (q:Int):Nat->Int
 | 0=>-1
 | k+1=>if 0<=ownK L q k then ownK L q k else if L k=q then (k:Int) else -1
def own (L:Nat->Int) (q:Int):Int:=ownK L q 25
theorem Hq(L:Nat->Int)(q:Int):∀k,(∃i,i<k/\ownK L q k=(i:Int)/\L i=q/\∀j,j<i->L j≠q)\/(ownK L q k = -1/\∀i,i<k->L i≠q)
 | 0=>AL ⟨rfl,fun i hi=>absurd hi (Nat.not_lt_zero _)⟩
 | k+1=>by
  unfold ownK
  rcases Hq L q k with ⟨i,h1,h2,h3,h4⟩ | ⟨h1,h2⟩
  ·
   left
   rw[AJ om]
   exact⟨i,om,h2,h3,h4⟩
  ·
   rw[AI om]
   by_cases e:L k=q
   ·
    left
    rw[AJ e]
    exact⟨k,om,rfl,e,h2⟩
   ·
    right
    rw[AI e]
    refine⟨rfl,fun i hi=>?_⟩
    by_cases e2:i=k
    ·
     subst e2;exact e
    ·
     exact h2 i om
theorem Cc(L:Nat->Int)(q:Int):(∃i:Nat,i<25/\own L q=(i:Int)/\L i=q/\∀j,j<i->L j≠q)\/(own L q = -1/\∀i,i<25->L i≠q):=Hq L q 25
theorem E7{L:Nat->Int}{q:Int}(h:∀i,i<25->L i≠q):own L q = -1:=by
 rcases Cc L q with ⟨i,h1,_,h3,_⟩ | ⟨h1,_⟩
 ·exact absurd h3 (h i h1)
 ·exact h1
structure Okl (L:Nat->Int):Prop where
 rng:∀i,i<25->L i = -1\/(0<=L i/\L i<96)
 may:∀i,i<24->L i = -1\/L i % 8<6
 inj:∀i j,i<25->j<25->L i=L j->L i≠-1->i=j
theorem PF{L:Nat->Int}(h:Okl L){i:Nat}(hi:i<25){q:Int}(hL:L i=q)(hq:q≠-1):own L q=i:=by
 rcases Cc L q with ⟨j,h1,h2,h3,_⟩ | ⟨_,h2⟩
 ·have e:=h.inj i j hi h1 (by rw[hL,h3]) (by rw[hL];exact hq);rw[h2,e]
 ·exact absurd hL (h2 i hi)
theorem Bq{α:Type}(f:Nat->α)(i:Nat)(z:α):upd f i z i=z:=by unfold upd;rw[AJ rfl]
theorem BR{α:Type}(f:Nat->α){i j:Nat}(z:α)(h:j≠i):upd f i z j=f j:=by unfold upd;rw[AI h]
theorem Qh{α:Type}(f:Nat->α)(i:Nat)(y z:α):upd (upd f i y) i z=upd f i z:=by
 funext j;unfold upd;split <;> rfl
theorem Gi{α:Type}(f:Nat->α)(i:Nat){z:α}(h:f i=z):upd f i z=f:=by
 funext j;unfold upd;split
 ·rename_i e;rw[e,h]
 ·rfl
theorem Okl.clear{L:Nat->Int}(h:Okl L)(n:Nat):Okl (upd L n (-1)):=by
 refine⟨fun i hi=>?_,fun i hi=>?_,fun i j hi hj e hn=>?_⟩
 ·unfold upd;split
  ·exact AK rfl
  ·exact h.rng i hi
 ·unfold upd;split
  ·exact AK rfl
  ·exact h.may i hi
 ·by_cases e1:i=n
  ·rw[e1,Bq] at hn;exact absurd rfl hn
  ·by_cases e2:j=n
   ·rw[e,e2,Bq] at hn;exact absurd rfl hn
   ·rw[BR _ _ e1,BR _ _ e2] at e;rw[BR _ _ e1] at hn;exact h.inj i j hi hj e hn
theorem Kg{L:Nat->Int}(h:Okl L){n:Nat}(hn:n<25){q:Int}(hq:0<=q):own (upd L n (-1)) q=if q=L n then -1 else own L q:=by
 by_cases e:q=L n
 ·rw[AJ e];refine E7 fun i hi=>?_;by_cases e1:i=n
  ·rw[e1,Bq];omega
  ·rw[BR _ _ e1];intro e2;exact e1 (h.inj i n hi hn (by rw[e2,e]) om)
 ·rw[AI e];rcases Cc L q with ⟨i,h1,h2,h3,_⟩ | ⟨h1,h2⟩
  ·have e1:i≠n:=(by intro e1;rw[e1] at h3;exact e h3.symm);rw[h2];exact PF (h.clear n) h1 (by rw[BR _ _ e1];exact h3) om
  ·rw[h1];refine E7 fun i hi=>?_;by_cases e1:i=n
   ·rw[e1,Bq];omega
   ·rw[BR _ _ e1];exact h2 i hi
theorem Okl.put{L:Nat->Int}(h:Okl L)(n:Nat){q:Int}(hq:0<=q/\q<96)(hm:n<24->q % 8<6)(hno:own L q = -1):Okl (upd L n q):=by
 have hno':∀i,i<25->L i≠q:=by
  rcases Cc L q with ⟨i,_,h2,_⟩ | ⟨_,h2⟩
  ·omega
  ·exact h2
 refine⟨fun i hi=>?_,fun i hi=>?_,fun i j hi hj e hn=>?_⟩
 ·unfold upd;split
  ·exact AL hq
  ·exact h.rng i hi
 ·unfold upd;split
  ·rename_i e;exact AL (hm om)
  ·exact h.may i hi
 ·by_cases e1:i=n
  ·by_cases e2:j=n
   ·omega
   ·rw[e1,Bq,BR _ _ e2] at e;exact absurd e.symm (hno' j hj)
  ·by_cases e2:j=n
   ·rw[e2,Bq,BR _ _ e1] at e;exact absurd e (hno' i hi)
   ·rw[BR _ _ e1,BR _ _ e2] at e;rw[BR _ _ e1] at hn;exact h.inj i j hi hj e hn
theorem Zc{L:Nat->Int}(h:Okl L){n:Nat}(hn:n<25){q:Int}(hq:0<=q/\q<96)(hm:n<24->q % 8<6)(hL:L n = -1)(hno:own L q = -1){p:Int}(hp:0<=p):own (upd L n q) p=if p=q then (n:Int) else own L p:=by
 have hk:=h.put n hq hm hno;by_cases e:p=q
 ·rw[AJ e,e];exact PF hk hn (Bq _ _ _) om
 ·rw[AI e];rcases Cc L p with ⟨i,h1,h2,h3,_⟩ | ⟨h1,h2⟩
  ·have e1:i≠n:=(by intro e1;rw[e1] at h3;omega);rw[h2];exact PF hk h1 (by rw[BR _ _ e1];exact h3) om
  ·rw[h1];refine E7 fun i hi=>?_;by_cases e1:i=n
   ·rw[e1,Bq];omega
   ·rw[BR _ _ e1];exact h2 i hi
def Qi (L:Nat->Int):Nat->Int:=fun k=>if k<25 then L k else own L ((k - 25:Nat):Int)
theorem Hs(L:Nat->Int){k:Nat}(h:k<25):Qi L k=L k:=by unfold Qi;rw[AJ h]
theorem Je(L:Nat->Int)(k:Nat):Qi L (25+k)=own L (k:Int):=by unfold Qi;rw[AI om,Nat.add_sub_cancel_left]
theorem Uv(k:Nat):Qi (fun _=>-1) k = -1:=by
 unfold Qi;split
 ·rfl
 ·exact E7 (fun _ _=>om)
theorem SO{L:Nat->Int}(h:Okl L){n:Nat}(hn:n<25){m:Nat}(hm:L n=m)(k:Nat):upd (upd (Qi L) (25+m) (-1)) n (-1) k=Qi (upd L n (-1)) k:=by
 by_cases hk:k<25
 ·rw[Hs _ hk];by_cases e:k=n
  ·subst e;rw[Bq,Bq]
  ·rw[BR _ _ e,BR _ _ e,BR _ _ om,Hs _ hk]
 ·obtain⟨j,rfl⟩:∃j,k=25+j:=⟨k - 25,om⟩;rw[Je,BR _ _ om,Kg h hn om,hm];by_cases e:j=m
  ·subst e;rw[Bq,AJ rfl]
  ·rw[BR _ _ om,AI om,Je]
theorem PG{L:Nat->Int}{n:Nat}(hn:n<25)(hm:L n = -1):upd (Qi L) n (-1)=Qi (upd L n (-1)):=by
 rw[Gi L n hm,Gi (Qi L) n (by rw[Hs _ hn,hm])]
theorem Zd{L:Nat->Int}(h:Okl L){n:Nat}(hn:n<25){m:Nat}(hq:m<96)(hm:n<24->m % 8<6)(hL:L n = -1)(hno:own L m = -1)(k:Nat):upd (upd (Qi L) n m) (25+m) n k=Qi (upd L n m) k:=by
 by_cases hk:k<25
 ·rw[Hs _ hk,BR _ _ om];by_cases e:k=n
  ·subst e;rw[Bq,Bq]
  ·rw[BR _ _ e,BR _ _ e,Hs _ hk]
 ·obtain⟨j,rfl⟩:∃j,k=25+j:=⟨k - 25,om⟩;rw[Je,Zc h hn om (fun h=>by have:=hm h;omega) hL hno om];by_cases e:j=m
  ·subst e;rw[Bq,AJ rfl]
  ·rw[BR _ _ om,AI om,BR _ _ om,Je]
def ofK (L:Nat->Int) (b:Nat):Nat->List Int
 | 0=>[]
 | k+1=>ofK L b k ++ if own L ((8*b+k:Nat):Int) = -1 then [] else [own L ((8*b+k:Nat):Int)]
def ofL (L:Nat->Int) (b:Nat):List Int:=ofK L b 8
theorem CT(L:Nat->Int)(b:Nat):∀k,(ofK L b k).length<=k
 | 0=>AM _
 | k+1=>by
  have:=CT L b k
  unfold ofK
  rw[AV]
  split <;> simp <;> omega
def lvK (L:Nat->Int):Nat->Nat->Nat
 | 0,_=>0
 | i+1,b=>lvK L i b+if i / 8=b/\own L (i:Int)≠-1 then 1 else 0
theorem PH(L:Nat->Int)(b:Nat):∀i,lvK L i b=(ofK L b (min 8 (i - 8*b))).length
 | 0=>by rw[Nat.zero_sub];rfl
 | i+1=>by
  unfold lvK
  rw[PH L b i]
  by_cases e:i / 8=b
  ·
   have e1:min 8 (i+1 - 8*b)=i - 8*b+1:=om
   have e2:min 8 (i - 8*b)=i - 8*b:=om
   have e3:8*b+(i - 8*b)=i:=om
   rw[e1,e2]
   show _=(ofK L b (i - 8*b) ++ if own L ((8*b+(i - 8*b):Nat):Int) = -1 then [] else [own L ((8*b+(i - 8*b):Nat):Int)]).length
   rw[AV,e3]
   by_cases e4:own L (i:Int) = -1
   ·
    rw[AI (by simp[e4]),AJ e4];rfl
   ·
    rw[AJ ⟨e,e4⟩,AI e4];rfl
  ·
   rw[AI (by intro h;exact e h.1),show min 8 (i+1 - 8*b)=min 8 (i - 8*b) by omega]
   rfl
theorem In(L:Nat->Int){b:Nat}(hb:b<12):lvK L 96 b=(ofL L b).length:=by
 rw[PH,show min 8 (96 - 8*b)=8 by omega];rfl
theorem dp(L:Nat->Int)(i b:Nat):lvK L i b<=8:=by
 rw[PH];exact AY (CT L b _) (Nat.min_le_left _ _)
def cO (L:Nat->Int) (k:Nat):Nat->Nat
 | 0=>0
 | m+1=>cO L k m+if ownK L (m:Int) k≠-1 then 1 else 0
def cL (L:Nat->Int):Nat->Nat
 | 0=>0
 | k+1=>cL L k+if L k≠-1 then 1 else 0
theorem Qj(L:Nat->Int):∀m,cO L 0 m=0
 | 0=>rfl
 | m+1=>by unfold cO;rw[Qj L m];rfl
theorem Qk{L:Nat->Int}(h:Okl L){k:Nat}(hk:k<25):∀m,cO L (k+1) m=cO L k m+if 0<=L k/\L k<(m:Int) then 1 else 0
 | 0=>by rw[AI om];rfl
 | m+1=>by
  unfold cO
  rw[Qk h hk m]
  have e:ownK L (m:Int) (k+1)=if 0<=ownK L (m:Int) k then ownK L (m:Int) k else if L k=(m:Int) then (k:Int) else -1:=rfl
  rcases Hq L (m:Int) k with ⟨i,h1,h2,h3,_⟩ | ⟨h1,h2⟩
  ·
   have hne:L k≠(m:Int):=by
    intro e1;have:=h.inj i k om hk (by rw[h3,e1]) om;omega
   have hv:ownK L (m:Int) (k+1)=i:=(by rw[e,h2,AJ om]);rw[hv,h2]
   repeat' split
   all_goals omega
  ·by_cases e1:L k=(m:Int)
   ·have hv:ownK L (m:Int) (k+1)=k:=(by rw[e,h1,AI om,AJ e1]);rw[hv,h1]
    repeat' split
    all_goals omega
   ·have hv:ownK L (m:Int) (k+1) = -1:=(by rw[e,h1,AI om,AI e1]);rw[hv,h1]
    repeat' split
    all_goals omega
theorem Uw{L:Nat->Int}(h:Okl L):∀k,k<=25->cO L k 96=cL L k
 | 0,_=>Qj L 96
 | k+1,hk=>by
  rw[Qk h om,Uw h k om]
  show _=cL L k+if L k≠-1 then 1 else 0
  have:=h.rng k om
  by_cases e:L k = -1
  ·
   rw[AI (show ¬ (0<=L k/\L k<((96:Nat):Int)) by omega),AI (by simp[e])]
  ·
   rw[AJ (show 0<=L k/\L k<((96:Nat):Int) by omega),AJ e]
def cP (L:Nat->Int) (m:Nat):Nat:=cO L 25 m
theorem dq{L:Nat->Int}(h:Okl L):cP L 96=cL L 25:=Uw h 25 (AM _)
theorem Ze(L:Nat->Int)(m:Nat):cP L (m+1)=cP L m+if own L (m:Int)≠-1 then 1 else 0:=rfl
theorem bt(L:Nat->Int)(b:Nat):∀k,cP L (8*b+k)=cP L (8*b)+(ofK L b k).length
 | 0=>rfl
 | k+1=>by
  rw[<-Nat.add_assoc,Ze,bt L b k]
  show _=_+(ofK L b k ++ if own L ((8*b+k:Nat):Int) = -1 then [] else [own L ((8*b+k:Nat):Int)]).length
  rw[AV]
  by_cases e:own L ((8*b+k:Nat):Int) = -1
  ·
   rw[AI (by simp only[ne_eq,e,not_true,not_false_eq_true]),AJ e];rfl
  ·
   rw[AJ e,AI e];simp only[length_singleton];omega
theorem Gg(w:Wd):(binOp .eql 33 .nilIface .nilIface).run prog w=.ok (.bool true) w:=kr
theorem CX(w:Wd):(binOp .neq 33 .nilIface .nilIface).run prog w=.ok (.bool false) w:=kr
theorem CY(w:Wd)(n:Int):(binOp .neq 33 (.iface 56 (.int .i64 n)) .nilIface).run prog w=.ok (.bool true) w:=kr
def Mp (w:Wd) (b:Nat) (L:Nat->Int):Prop:=IB w b 173 121 (Qi L)
section
variable {w w':Wd}{b:Nat}{L:Nat->Int}
theorem Mp.chg{S:Nat->Prop}(h:Mp w b L)(hc:Chg S w w')(hb:¬ S b):Mp w' b L:=IB.chg h hc hb
theorem Mp.drew(h:Mp w b L):Mp w.drew b L:=h
theorem Mp.place(h:Mp w b L){n:Nat}(hn:n<25):w.cell? ⟨b,n,none⟩=some (.int .i64 (L n))/\w.frozen? ⟨b,n,none⟩=false:=by
 have:=IB.cell h n om
 rwa [Hs _ hn] at this
theorem Mp.owner(h:Mp w b L){q:Nat}(hq:q<96):w.cell? ⟨b,25+q,none⟩=some (.int .i64 (own L q))/\w.frozen? ⟨b,25+q,none⟩=false:=by
 have:=IB.cell h (25+q) om
 rwa [Je] at this
end
theorem GK(w:Wd):Calls prog 177 #[] w fun e w'=>e=.returned (.pointer (some ⟨w.heap.size,0,none⟩))/\Mp w' w.heap.size (fun _=>-1)/\Chg No w w':=by
 go_enter func177,ntmps177;go_wp2_with (refine DB rfl 173 rfl w.heap.size rfl zero48 ?_);intro w1 K1 G1 S1;have HK1:=BB (show IB w1 w.heap.size 173 121 (fun _=>0) from K1);have HG1:=BB G1;clear K1 G1 S1;generalize HB:w.heap.size=b at *
 have HB:=BB HB;go_wp2_with fail
 go_loopg [5] 25 (fun kx s5 wr=>∃i:Nat,s5=.int .i64 i/\i<=25/\25 - i<=kx/\Hid (IB wr b 173 121 (fun j=>if j<i then -1 else 0))/\Hid (Chg No w wr))
 case atStart=>exact⟨0,rfl,om,om,HK1,HG1⟩
 case round=>
 obtain⟨i,rfl,hin,hkx,HK,HG⟩:=hrel;clear HK1 HG1;by_cases hlt:i<25
 ·have hltz:(i:Int)<25:=om
  obtain⟨c,f⟩:=HK.out.cell i om;go_wp2
  go_roundg (25 - (i+1))
  case measure=>omega
  case rel=>
   refine⟨i+1,by simp,om,AM _,?_,?_⟩
   ·refine(HK.out.set i (-1)).congr fun j _=>?_;simp only[upd]
    repeat' split
    all_goals first | rfl | omega
   ·exact HG.out.setCell (AL (by rw[HB.out];exact AM _)) _ _
 ·have hltz:¬ (i:Int)<25:=om
  have h25:i=25:=om
  subst h25;clear hlt hin hkx;go_wp2_with fail
  go_loopg [14] 96 (fun kx s14 wx=>∃i:Nat,s14=.int .i64 i/\i<=96/\96 - i<=kx/\Hid (IB wx b 173 121 (fun j=>if j<25+i then -1 else 0))/\Hid (Chg No w wx))
  case atStart=>exact⟨0,rfl,om,om,HK,HG⟩
  case round=>
  clear HK HG;obtain⟨i,rfl,hin,hkx,HK,HG⟩:=hrel;by_cases hlt:i<96
  ·have hltz:(i:Int)<96:=om;obtain⟨c,f⟩:=HK.out.cell (25+i) om;go_wp2
   go_roundg (96 - (i+1))
   case measure=>omega
   case rel=>
    refine⟨i+1,by simp,om,AM _,?_,?_⟩
    ·refine(HK.out.set (25+i) (-1)).congr fun j _=>?_;simp only[upd]
     repeat' split
     all_goals first | rfl | omega
    ·exact HG.out.setCell (AL (by rw[HB.out];exact AM _)) _ _
  ·have hltz:¬ (i:Int)<96:=om;have h96:i=96:=om;subst h96;go_wp2;go_ret;exact⟨rfl,HK.out.congr fun j hj=>by rw[Uv,AJ om],HG.out⟩
theorem NF(w:Wd)(n:Int)(hn:n≠-1):Calls prog 87 #[.int .i64 n] w fun e w'=>e=.returned (.tuple #[.int .i64 n,.nilIface])/\w'=w:=by
 have hb:(n == -1)=false:=by simp[hn]
 clear hn;go_enter func87,ntmps87;go_wp2;go_ret2;exact⟨rfl,rfl⟩
theorem Ql(w:Wd):Calls prog 87 #[.int .i64 (-1)] w fun e w'=>e=.returned (.tuple #[.int .i64 0,.iface 56 (.int .i64 11)])/\w'=w:=by
 go_enter func87,ntmps87;go_wp2;go_ret2;exact⟨rfl,rfl⟩
theorem PI(w:Wd)(b:Nat)(L:Nat->Int)(h:Mp w b L)(n:Nat)(hn:n<25)(hL:L n≠-1):Calls prog 56 #[.pointer (some ⟨b,0,none⟩),.int .i64 n] w fun e w'=>e=.returned (.tuple #[.int .i64 (L n),.nilIface])/\w'=w:=by
 obtain⟨c,-⟩:=h.place hn;have h1:¬ (n:Int) ≥ 25:=om
 have h0:¬ (n:Int)<0:=om
 have h2:(n:Int)<25:=om
 have ht:=NF w (L n) hL;clear h hn hL;go_enter func56,ntmps56;go_wp2_with (go_at_call 87;refine ht.mono ?_;rintro e w1 ⟨rfl,rfl⟩);go_ret2;exact⟨rfl,rfl⟩
theorem Lc(w:Wd)(b:Nat)(L:Nat->Int)(h:Mp w b L)(n:Nat)(hn:n<25)(hL:L n = -1):Calls prog 56 #[.pointer (some ⟨b,0,none⟩),.int .i64 n] w fun e w'=>e=.returned (.tuple #[.int .i64 0,.iface 56 (.int .i64 11)])/\w'=w:=by
 obtain⟨c,-⟩:=h.place hn;rw[hL] at c;have h1:¬ (n:Int) ≥ 25:=om
 have h0:¬ (n:Int)<0:=om
 have h2:(n:Int)<25:=om
 clear h hn hL;go_enter func56,ntmps56;go_wp2_with (go_at_call 87;refine(Ql _).mono ?_;rintro e w1 ⟨rfl,rfl⟩);go_ret2;exact⟨rfl,rfl⟩
theorem Ux(w:Wd)(b:Nat)(n:Int)(hn:n<0\/25<=n):Calls prog 56 #[.pointer (some ⟨b,0,none⟩),.int .i64 n] w fun e w'=>e=.returned (.tuple #[.int .i64 0,.iface 56 (.int .i64 1)])/\w'=w:=by
 by_cases h0:n<0
 ·clear hn;go_enter func56,ntmps56;go_wp2;go_ret2;exact⟨rfl,rfl⟩
 ·have h1:n ≥ 25:=om
  clear hn;go_enter func56,ntmps56;go_wp2;go_ret2;exact⟨rfl,rfl⟩
theorem SP(w:Wd)(b:Nat)(L:Nat->Int)(h:Mp w b L)(n:Nat)(hn:n<96)(hL:own L n≠-1):Calls prog 89 #[.pointer (some ⟨b,0,none⟩),.int .i64 n] w fun e w'=>e=.returned (.tuple #[.int .i64 (own L n),.nilIface])/\w'=w:=by
 obtain⟨c,-⟩:=h.owner hn;have h1:¬ (n:Int) ≥ 96:=om
 have h0:¬ (n:Int)<0:=om
 have h2:(n:Int)<96:=om
 have ht:=NF w (own L n) hL;clear h hn hL;go_enter func89,ntmps89;go_wp2_with (go_at_call 87;refine ht.mono ?_;rintro e w1 ⟨rfl,rfl⟩);go_ret2;exact⟨rfl,rfl⟩
theorem PJ(w:Wd)(b:Nat)(L:Nat->Int)(h:Mp w b L)(n:Nat)(hn:n<96)(hL:own L n = -1):Calls prog 89 #[.pointer (some ⟨b,0,none⟩),.int .i64 n] w fun e w'=>e=.returned (.tuple #[.int .i64 0,.iface 56 (.int .i64 11)])/\w'=w:=by
 obtain⟨c,-⟩:=h.owner hn;rw[hL] at c;have h1:¬ (n:Int) ≥ 96:=om
 have h0:¬ (n:Int)<0:=om
 have h2:(n:Int)<96:=om
 clear h hn hL;go_enter func89,ntmps89;go_wp2_with (go_at_call 87;refine(Ql _).mono ?_;rintro e w1 ⟨rfl,rfl⟩);go_ret2;exact⟨rfl,rfl⟩
theorem SQ(w:Wd)(b:Nat)(n:Int)(hn:n<0\/96<=n):Calls prog 89 #[.pointer (some ⟨b,0,none⟩),.int .i64 n] w fun e w'=>e=.returned (.tuple #[.int .i64 0,.iface 56 (.int .i64 1)])/\w'=w:=by
 by_cases h0:n<0
 ·clear hn;go_enter func89,ntmps89;go_wp2;go_ret2;exact⟨rfl,rfl⟩
 ·have h1:n ≥ 96:=om
  clear hn;go_enter func89,ntmps89;go_wp2;go_ret2;exact⟨rfl,rfl⟩
theorem NG(w:Wd)(b:Nat)(L:Nat->Int)(h:Mp w b L)(ok:Okl L)(n:Nat)(hn:n<25):Calls prog 97 #[.pointer (some ⟨b,0,none⟩),.int .i64 n] w fun e w'=>e=.returned (.tuple #[])/\Mp w' b (upd L n (-1))/\Chg (·=b) w w':=by
 obtain⟨c,f⟩:=h.place hn;have h2:(n:Int)<25:=om
 have HK:=BB h;have HO:=BB ok;rcases ok.rng n hn with e | ⟨e0,e1⟩
 ·rw[e] at c;have HE:=BB e;clear h ok e;go_enter func97,ntmps97;go_wp2;go_end0;refine⟨rfl,?_,(Chg.refl (·=b) _).setCell (AK rfl) _ _⟩;unfold Mp;rw[<-PG hn HE.out];exact IB.set HK.out n (-1)
 ·obtain⟨m,hm⟩:∃m:Nat,L n=m:=⟨(L n).toNat,om⟩;rw[hm] at c;have hm96:(m:Int)<96:=om
  have hm96':m<96:=om
  have hmb:((m:Int) == -1)=false:=by simp only[beq_eq_false_iff_ne];omega
  obtain⟨c2,f2⟩:=h.owner hm96';have HE:=BB hm;have HK1:=BB (IB.set h (25+m) (-1));obtain⟨c3,f3⟩:=HK1.out.cell n om;clear h ok e0 e1 hm;go_enter func97,ntmps97;go_wp2;go_end0;refine⟨rfl,?_,((Chg.refl (·=b) _).setCell (AK rfl) _ _).setCell (AK rfl) _ _⟩;exact(IB.set HK1.out n (-1)).congr fun k _=>SO HO.out hn HE.out k
theorem Uy(w:Wd)(b:Nat)(n:Int)(hn:n<0\/25<=n):Calls prog 64 #[.pointer (some ⟨b,0,none⟩),.int .i64 n] w fun e w'=>e=.returned (.iface 56 (.int .i64 1))/\w'=w:=by
 have q:=CY;go_enter func64,ntmps64;go_wp2_with (go_at_call 56;refine(Ux _ b n hn).mono ?_;rintro e w1 ⟨rfl,rfl⟩);go_ret;exact⟨rfl,rfl⟩
theorem SR(w:Wd)(b:Nat)(L:Nat->Int)(h:Mp w b L)(n:Nat)(hn:n<25)(hL:L n = -1):Calls prog 64 #[.pointer (some ⟨b,0,none⟩),.int .i64 n] w fun e w'=>e=.returned (.iface 56 (.int .i64 11))/\w'=w:=by
 have q:=CY;have ha:=Lc w b L h n hn hL;clear h hn hL;go_enter func64,ntmps64;go_wp2_with (go_at_call 56;refine ha.mono ?_;rintro e w1 ⟨rfl,rfl⟩);go_ret;exact⟨rfl,rfl⟩
theorem Uz(w:Wd)(b:Nat)(L:Nat->Int)(h:Mp w b L)(ok:Okl L)(n:Nat)(hn:n<25)(hL:L n≠-1):Calls prog 64 #[.pointer (some ⟨b,0,none⟩),.int .i64 n] w fun e w'=>e=.returned .nilIface/\Mp w' b (upd L n (-1))/\Chg (·=b) w w':=by
 have q:=CX;have ha:=PI w b L h n hn hL;have hl:=NG w b L h ok n hn;clear h hn hL ok;go_enter func64,ntmps64;go_wp2_with (first | (go_at_call 56;refine ha.mono ?_;rintro e w1 ⟨rfl,rfl⟩) | (go_at_call 97;refine hl.mono ?_;rintro e w2 ⟨rfl,K2,G2⟩;have HK:=BB K2;have HG:=BB G2;clear K2 G2));go_ret;exact⟨rfl,HK.out,HG.out⟩
abbrev DV (n q:Int):Prop:=(0<=q/\q<96)/\(0<=n/\n<25)/\(n=24\/q % 8<6)
theorem set_arg(w:Wd)(b:Nat)(n q:Int)(hn:¬ DV n q):Calls prog 123 #[.pointer (some ⟨b,0,none⟩),.int .i64 n,.int .i64 q] w fun e w'=>e=.returned (.iface 56 (.int .i64 1))/\w'=w:=by
 have q1:=CY;have q2:=CX;by_cases h1:(q<0\/96<=q)\/(n<0\/25<=n)
 ·have hh:=SN w q n h1;clear hn h1;go_enter func123,ntmps123;go_wp2_with (go_at_call 155;refine hh.mono ?_;rintro e w1 ⟨rfl,rfl⟩);go_ret;exact⟨rfl,rfl⟩
 ·have hh:=holds_in w q n om om;rw[show decide (n=24\/q % 8<6)=false from AN (fun h=>hn ⟨om,om,h⟩)] at hh;clear hn h1;go_enter func123,ntmps123;go_wp2_with (go_at_call 155;refine hh.mono ?_;rintro e w1 ⟨rfl,rfl⟩);go_ret;exact⟨rfl,rfl⟩
theorem ST(w:Wd)(b:Nat)(L:Nat->Int)(h:Mp w b L)(n m:Nat)(hn:DV n m)(ho:own L m≠-1/\own L m≠n):Calls prog 123 #[.pointer (some ⟨b,0,none⟩),.int .i64 n,.int .i64 m] w fun e w'=>e=.returned (.iface 56 (.int .i64 12))/\w'=w:=by
 have q2:=CX;obtain⟨c,-⟩:=h.owner (q:=m) (by have:=hn.1;omega);have hh:=holds_in w m n hn.1 hn.2.1;rw[show decide ((n:Int)=24\/(m:Int) % 8<6)=true from AO hn.2.2] at hh;have h96:(m:Int)<96:=hn.1.2;have hb0:=ho.1;have hb1:(own L m != -1)=true:=by simp[ho.1]
 have hb2:(own L m != (n:Int))=true:=by simp[ho.2]
 clear h hn ho;go_enter func123,ntmps123;go_wp2_with (go_at_call 155;refine hh.mono ?_;rintro e w1 ⟨rfl,rfl⟩);go_ret;exact⟨rfl,rfl⟩
theorem Qm{w w2:Wd}{b:Nat}{L:Nat->Int}{n m:Nat}(K:Mp w2 b (upd L n (-1)))(G:Chg (·=b) w w2)(ok:Okl (upd L n (-1)))(hn:n<25)(hm:m<96)(may:n<24->m % 8<6)(ho:own (upd L n (-1)) m = -1) :Ending.returned .nilIface=Ending.returned .nilIface/\Mp ((w2.setCell ⟨b,n,none⟩ (.int .i64 m)).setCell ⟨b,25+m,none⟩ (.int .i64 n)).drew b (upd L n m)/\Chg (·=b) w ((w2.setCell ⟨b,n,none⟩ (.int .i64 m)).setCell ⟨b,25+m,none⟩ (.int .i64 n)).drew/\Okl (upd L n m):=by
 refine⟨rfl,?_,((G.setCell (AK rfl) _ _).setCell (AK rfl) _ _).drew,?_⟩
 ·have h:=(IB.set (IB.set K n m) (25+m) n).congr fun k _=>Zd ok hn hm may (Bq _ _ _) ho k;rw[Qh] at h;exact h
 ·have h:=ok.put n (q:=m) om (fun h=>by have:=may h;omega) ho;rw[Qh] at h;exact h
theorem set_yes(w:Wd)(b:Nat)(L:Nat->Int)(h:Mp w b L)(ok:Okl L)(n m:Nat)(hn:DV n m)(ho:own L m = -1\/own L m=n):Calls prog 123 #[.pointer (some ⟨b,0,none⟩),.int .i64 n,.int .i64 m] w fun e w'=>e=.returned .nilIface/\Mp w' b (upd L n m)/\Chg (·=b) w w'/\Okl (upd L n m):=by
 have q2:=CX;obtain⟨c,-⟩:=h.owner (q:=m) (by have:=hn.1;omega);have hh:=holds_in w m n hn.1 hn.2.1;rw[show decide ((n:Int)=24\/(m:Int) % 8<6)=true from AO hn.2.2] at hh;have h96:(m:Int)<96:=hn.1.2;have h25:(n:Int)<25:=hn.2.1.2;have h25':n<25:=om
 have h96':m<96:=om
 have hl:=NG w b L h ok n h25';have HM:=BB hn.2.2;have hoc:own (upd L n (-1)) m = -1:=by
  rw[Kg ok h25' om];by_cases e:(m:Int)=L n
  ·rw[AJ e]
  ·rw[AI e];rcases ho with ho | ho
   ·exact ho
   ·rcases Cc L m with ⟨i,h1,h2,h3,_⟩ | ⟨h1,h2⟩
    ·have e1:i=n:=om;subst e1;exact absurd h3.symm e
    ·exact h1
 have HC:=BB hoc;have HOK:=BB (ok.clear n);have may':n<24->m % 8<6:=fun h=>by have:=HM.out;omega
 have HMY:=BB may';rcases ho with ho | ho
 ·rw[ho] at c;clear h hn ho ok hoc may' HM;go_enter func123,ntmps123;go_wp2_with (first | (go_at_call 155;refine hh.mono ?_;rintro e w1 ⟨rfl,rfl⟩) | (go_at_call 97;refine hl.mono ?_;rintro e w2 ⟨rfl,K2,G2⟩;have HK:=BB K2;have HG:=BB G2;obtain⟨d1,f1⟩:=K2.place h25';obtain⟨d2,f2⟩:=K2.owner h96';clear K2 G2));go_region;go_wp2;go_ret;exact Qm HK.out HG.out HOK.out h25' h96' HMY.out HC.out
 ·rw[ho] at c;have hnb:((n:Int) != -1)=true:=by simp only[bne_iff_ne,ne_eq];omega
  have hnn:((n:Int) == (n:Int))=true:=by simp
  clear h hn ho ok hoc may' HM;go_enter func123,ntmps123;go_wp2_with (first | (go_at_call 155;refine hh.mono ?_;rintro e w1 ⟨rfl,rfl⟩) | (go_at_call 97;refine hl.mono ?_;rintro e w2 ⟨rfl,K2,G2⟩;have HK:=BB K2;have HG:=BB G2;obtain⟨d1,f1⟩:=K2.place h25';obtain⟨d2,f2⟩:=K2.owner h96';clear K2 G2));go_region;go_wp2;go_ret;exact Qm HK.out HG.out HOK.out h25' h96' HMY.out HC.out
def Ow (w:Wd) (base:Nat) (v:Value) (l:List Int):Prop:=w.ownsRow base 3 1 v l.length (l.map i6)
theorem Ow.nil(w:Wd)(base:Nat):Ow w base (.slice none 0 0) []:=⟨rfl,AK ⟨rfl,rfl⟩⟩
theorem Ow.form{w:Wd}{base:Nat}{v:Value}{l:List Int}(h:Ow w base v l):∃a cap,v=.slice a l.length cap:=by
 rcases h.2 with ⟨h1,h2⟩ | ⟨g,cap,cur,hv,_⟩
 ·exact⟨none,0,by rw[h1,h2]⟩
 ·exact⟨_,_,hv⟩
theorem Ow.block{w:Wd}{base:Nat}{v:Value}{l:List Int}(h:Ow w base v l){k:Nat}(hk:v.ownBlock=some k):base<=k/\k<w.heap.size:=h.lt k hk
theorem Ow.chg{S:Nat->Prop}{w w':Wd}{base:Nat}{v:Value}{l:List Int}(h:Ow w base v l)(hc:Chg S w w')(hs:∀k,k<w.heap.size->v.ownBlock=some k->¬ S k):Ow w' base v l:=by
 refine⟨h.1,?_⟩;rcases h.2 with h1 | ⟨g,cap,cur,rfl,hb,hh,r⟩
 ·exact AK h1
 ·have hg:=(Array.getElem?_eq_some_iff.1 hh).1;exact AL ⟨g,cap,cur,rfl,hb,(hc.block g hg (hs g hg rfl)).trans hh,r⟩
theorem Ow.new{w w':Wd}{base:Nat}{v:Value}{l:List Int}(h:Ow w base v l)(hc:Chg No w w'):Ow w' base v l:=h.chg hc (fun _ _ _ f=>f)
theorem jq:∃i,prog.info? 3=some i/\i.zero=some (.int .i64 0)/\i.size=1/\i.bytes=8:=by
 have h:(prog.info? 3).map (fun i=>(i.zero,i.size,i.bytes))=some (some (.int .i64 0),1,8):=kr
 cases e:prog.info? 3 with
 | none=>rw[e] at h;cases h
 | some i=>
  rw[e] at h;simp only[Option.map_some,Option.some.injEq,Prod.mk.injEq] at h;exact⟨i,rfl,h.1,h.2.1,h.2.2⟩
theorem IY(w:Wd){ops:Array Oper}{rest:List Oper}{o:Oper}{a:Act}{Q:Exit->Act->World->Prop}(hgd:o.guard=none)(s x:Operand)(ho:o.op=.call { callee:=.builtin .append,args:=#[s,x],argTypes:=#[22,22] })(base:Nat)(v:Value)(l:List Int)(hs:a.eval s=v)(g:Nat)(z:Int)(hx:a.eval x=.slice (some ⟨g,0,none⟩) 1 1)(hown:Ow w base v l)(hA:w.cell? ⟨g,0,none⟩=some (.int .i64 z))(hl:l.length<100)(hbase:base<=w.heap.size)(h:∀v' w',Ow w' base v' (l ++ [z])->Chg (fun k=>v.ownBlock=some k) w w'->wpList prog ops Q rest (a.put o.dst v') w'):wpList prog ops Q (o :: rest) a w:=by
 obtain⟨i,hi1,hi2,hi3,hi4⟩:=jq;refine wpList_append_own_at w hgd s x 22 ho base 3 i (.int .i64 0) 1 8 underlying22 hi1 hi2 hi3 hi4 rfl dc v l.length (l.map i6) hs hown ⟨g,0,none⟩ 1 1 [i6 z] hx rfl ?_ (fun u hu=>by simp at hu;rw[hu];rfl) (by unfold maxLen;omega) om hbase ?_
 ·intro j u hj
  match j,hj with
  | 0,hj=>
   simp at hj;subst hj;rw[Addr.add_mid];exact hA
 ·intro v' w' h1 h2 _ _;refine h v' w' ?_ ⟨h2.os,h2.tape,h2.output,h2.size,fun k hk hs=>h2.block k hk (fun e=>hs e.symm)⟩;unfold Ow;rw[AV,map_append];exact h1
theorem Zf(w:Wd)(k:Nat)(hk:k<12)(p:Nat)(hp:p=8*k):Calls prog 154 #[.int .i64 k,.int .i64 0] w fun e w'=>e=.returned (.tuple #[.int .i64 p,.nilIface])/\w'=w:=by
 refine(place_in w k 0 om om).mono ?_;rintro e w' ⟨rfl,rfl⟩;refine⟨?_,rfl⟩;rw[show (k:Int)*8+0=(p:Int) by omega]
theorem bw:prog.arrayLen 171=96:=kr
theorem du(w:Wd):(sizeOf (prog.elem 171)).run prog w=.ok 1 w:=kr
theorem Zg(b p:Nat)(hp:p<=88)(w:Wd):(Instr.sliceAt 171 (.pointer (some ⟨b,25,none⟩)) (some (.int .i64 p)) (some (.int .i64 (p+8))) none).run prog w=.ok (.slice (some ⟨b,25+p,none⟩) 8 (96 - p)) w:=by
 rw[run_sliceAt_array_lh w 171 ⟨b,25,none⟩ underlying171 .i64 .i64 p (p+8) om om (by rw[bw];omega),du,bw];simp only[Result.andThen_ok,slicedAt];rw[AI om,Addr.add_mid];congr 2
 ·congr 2;omega
 ·omega
theorem dx(w:Wd)(b:Nat)(n:Int)(hn:n<0\/12<=n):Calls prog 146 #[.pointer (some ⟨b,0,none⟩),.int .i64 n] w fun e w'=>e=.returned (.tuple #[.slice none 0 0,.iface 56 (.int .i64 1)])/\w'=w:=by
 have q:=CY;go_enter func146,ntmps146;go_wp2_with (go_at_call 154;refine(place_out _ n 0 (AK hn)).mono ?_;rintro e w1 ⟨rfl,rfl⟩);go_ret2;exact⟨rfl,rfl⟩
theorem U0(w:Wd)(b:Nat)(L:Nat->Int)(h:Mp w b L)(k:Nat)(hk:k<12):Calls prog 146 #[.pointer (some ⟨b,0,none⟩),.int .i64 k] w fun e w'=>(∃a cap,e=.returned (.tuple #[.slice a (ofL L k).length cap,.nilIface])/\Ow w' w.heap.size (.slice a (ofL L k).length cap) (ofL L k))/\Chg No w w':=by
 have q:=CX;obtain⟨p,hp⟩:∃p,p=8*k:=⟨_,rfl⟩;have hpc:=Zf w k hk p hp;have HP:=BB hp;have HK:=BB h;have hp8:p<=88:=om
 have hp8z:(p:Int)<=88:=om
 have hsl:=Zg b p hp8;clear h hp;go_enter func146,ntmps146;go_wp2_with (go_at_call 154;refine hpc.mono ?_;rintro e w1 ⟨rfl,rfl⟩)
 go_loopg [8,27] 8 (fun kx s8 s27 wr=>∃i:Nat,s27=.int .i64 i/\i<=8/\8 - i<=kx/\Hid (Ow wr w1.heap.size s8 (ofK L k i))/\Hid (Chg No w1 wr))
 case atStart=>exact⟨0,rfl,om,om,Ow.nil _ _,Chg.refl _ _⟩
 case round=>
 obtain⟨i,rfl,hin,hkx,HO,HG⟩:=hrel;by_cases hlt:i<8
 ·have hltz:(i:Int)<8:=om
  obtain⟨c,-⟩:=(HK.out.chg HG.out (fun f=>f)).owner (q:=p+i) om;have HE:Hid (ofK L k (i+1)=ofK L k i ++ if own L ((8*k+i:Nat):Int) = -1 then [] else [own L ((8*k+i:Nat):Int)]):=rfl;rw[<-HP.out] at HE;rw[<-Nat.add_assoc] at c;generalize own L ((p+i:Nat):Int)=z at *
  by_cases hz:z = -1
  ·subst hz;rw[AJ rfl,append_nil] at HE;go_wp2
   go_roundg (8 - (i+1))
   case measure=>omega
   case rel=>exact⟨i+1,by simp,om,AM _,by show Ow _ _ _ _;rw[HE.out];exact HO.out,HG⟩
  ·rw[AI hz] at HE;have hzb:(z == -1)=false:=(by simp[hz]);have hlen:=CT L k i;have O1:=HO.out.new ((Chg.refl No wr).alloc (.cells #[.int .i64 z] 3));have HO1:=BB O1;have HB1:Hid (w1.heap.size<=(wr.alloc (.cells #[.int .i64 z] 3)).heap.size):=(by have:=HG.out.size;show _<=_;simp;omega);have HC1:Hid ((wr.alloc (.cells #[.int .i64 z] 3)).cell? ⟨wr.heap.size,0,none⟩=some (.int .i64 z)):=(by show _=_;simp);have HG1:=BB (HG.out.alloc (.cells #[.int .i64 z] 3));clear O1;go_wp2_with (first | (refine IY _ rfl (.tmp 33) (.tmp 35) rfl w1.heap.size _ (ofK L k i) rfl wr.heap.size z rfl ?_ ?_ om ?_ ?_;exact HO1.out;exact HC1.out;exact HB1.out));intro v' w2 O2 G2;have HO2:=BB O2;have HG2:Hid (Chg No w1 w2):=HG1.out.trans' G2 fun j hj e=>by have:=HO.out.block e;omega
   clear O2 G2 HO1 HB1 HC1 HG1;go_wp2
   go_roundg (8 - (i+1))
   case measure=>omega
   case rel=>exact⟨i+1,by simp,om,AM _,by show Ow _ _ _ _;rw[HE.out];exact HO2.out,HG2⟩
 ·have hltz:¬ (i:Int)<8:=om
  have h8:i=8:=om
  subst h8;obtain⟨a,cap,hv⟩:=HO.out.form;subst hv;have HO2:Hid (Ow wr w1.heap.size (.slice a (ofL L k).length cap) (ofL L k)):=HO.out;clear HO hlt hin;go_wp2;go_ret2;exact⟨⟨a,cap,rfl,HO2.out⟩,HG.out⟩
theorem Zh(f:Nat->Int)(i:Nat)(hi:i<96)(w:Wd):(Instr.index 171 (.agg (ints f 96).toArray) (.int .i64 i)).run prog w=.ok (.int .i64 (f i)) w:=by
 have h:=BM f 96 i hi;generalize ints f 96=L at *
 simp[Instr.index,run_underlying underlying171,asIntOf,go_sem,hi,h,i6]
theorem Zi(w:Wd)(i k j:Nat)(hi:i<96)(hk:k=i / 8)(hj:j=i % 8):Calls prog 127 #[.int .i64 i] w fun e w'=>e=.returned (.tuple #[.int .i64 k,.int .i64 j,.nilIface])/\w'=w:=by
 refine(parts_in w i om).mono ?_;rintro e w' ⟨rfl,rfl⟩;refine⟨?_,rfl⟩;rw[show (i:Int) / 8=(k:Int) by omega,show (i:Int) % 8=(j:Int) by omega]
theorem Gj(w:Wd)(b:Nat)(L:Nat->Int)(h:Mp w b L):Calls prog 107 #[.pointer (some ⟨b,0,none⟩)] w fun e w'=>e=.returned (.slice (some ⟨w.heap.size,0,none⟩) 12 12)/\IB w' w.heap.size 3 12 (fun k=>(lvK L 96 k:Nat))/\Chg No w w':=by
 have q:=Gg;have hm:=make12;have HK0:=BB (IB.new w 3 12 (fun _=>0));have HG0:Hid (Chg No w (w.alloc (.cells (ints (fun _=>0) 12).toArray 3))):=(Chg.refl _ w).alloc _;have HK:=BB (h.chg HG0.out (fun f=>f));have HR:Hid (World.rangeAt (w.alloc (.cells (ints (fun _=>0) 12).toArray 3)) b 25 (ints (fun q=>own L (q:Int)) 96)):=fun j v hv=>by
  have hj:j<96:=by have:=(List.getElem?_eq_some_iff.1 hv).1;rwa [BD] at this
  rw[(HK.out.owner hj).1,<-hv,BM _ _ _ hj];rfl
 clear h;go_enter func107,ntmps107;go_wp2_with (first | (refine wpList_load_mid rfl 171 (.tmp 12) rfl b 25 rfl (ints (fun q=>own L (q:Int)) 96) _ ?_ underlying171 rfl ?_ ?_;exact HR.out;rw[BD];exact dn));generalize HW:w.alloc (.cells (ints (fun _=>0) 12).toArray 3)=w0 at *
 generalize HB:w.heap.size=s at *
 have HB:=BB HB;clear HW hm
 go_loopg [14] 96 (fun kx s14 wr=>∃i:Nat,s14=.int .i64 i/\i<=96/\96 - i<=kx/\Hid (IB wr s 3 12 (fun k=>(lvK L i k:Nat)))/\Hid (Chg No w wr))
 case atStart=>exact⟨0,rfl,om,om,HK0,HG0⟩
 case round=>
 obtain⟨i,rfl,hin,hkx,HC,HG⟩:=hrel;clear HK0 HG0 HR HK;by_cases hlt:i<96
 ·have hltz:(i:Int)<96:=om
  have hix:∀w,(Instr.index 171 (.agg (ints (fun q=>own L (q:Int)) 96).toArray) (.int .i64 i)).run prog w=.ok (.int .i64 (own L (i:Int))) w:=Zh (fun q=>own L (q:Int)) i hlt;obtain⟨k,hk⟩:∃k,k=i / 8:=⟨_,rfl⟩;obtain⟨j,hj⟩:∃j,j=i % 8:=⟨_,rfl⟩;have hpt:=Zi wr i k j hlt hk hj;have hk12:k<12:=om
  have hkz:(k:Int)<12:=om
  obtain⟨c,f⟩:=HC.out.cell k hk12;have hle:=dp L i k;have HE:Hid (∀t,lvK L (i+1) t=lvK L i t+if i / 8=t/\own L (i:Int)≠-1 then 1 else 0):=fun _=>rfl;have HKk:=BB hk;clear hk hj;generalize own L (i:Int)=z at *
  by_cases hz:z = -1
  ·have HZ:=BB hz;rw[hz] at hix;clear hz;go_wp2_with (go_at_call 127;refine hpt.mono ?_;rintro e w1 ⟨rfl,rfl⟩)
   go_roundg (96 - (i+1))
   case measure=>omega
   case rel=>
    refine⟨i+1,by simp,om,AM _,?_,HG⟩;exact HC.out.congr fun t _=>by rw[HE.out t,AI (fun h=>h.2 HZ.out)];rfl
  ·have hzb:(z == -1)=false:=(by simp[hz]);have HZ:=BB hz;clear hz;go_wp2_with (go_at_call 127;refine hpt.mono ?_;rintro e w1 ⟨rfl,rfl⟩)
   go_roundg (96 - (i+1))
   case measure=>omega
   case rel=>
    refine⟨i+1,by simp,om,AM _,?_,?_⟩
    ·refine(HC.out.set k ((lvK L i k:Nat)+1)).congr fun t _=>?_;rw[HE.out t];by_cases e:t=k
     ·rw[e,Bq,AJ ⟨HKk.out.symm,HZ.out⟩];simp
     ·rw[BR _ _ e,AI (fun h=>e (by rw[HKk.out,h.1]))];rfl
    ·exact HG.out.setCell (AL (by rw[HB.out];exact AM _)) _ _
 ·have hltz:¬ (i:Int)<96:=om
  have h96:i=96:=om
  subst h96;go_wp2;go_ret;exact⟨rfl,HC.out,HG.out⟩
def setC (L:Nat->Int) (n q:Int):Nat:=if ¬ DV n q then 1 else if own L q≠-1/\own L q≠n then 12 else 0
def setL (L:Nat->Int) (n q:Int):Nat->Int:=if setC L n q=0 then upd L n.toNat q else L
theorem set_v(w:Wd)(b:Nat)(L:Nat->Int)(h:Mp w b L)(ok:Okl L)(n q:Int):Calls prog 123 #[.pointer (some ⟨b,0,none⟩),.int .i64 n,.int .i64 q] w fun e w'=>e=.returned (errV (setC L n q))/\Mp w' b (setL L n q)/\Chg (·=b) w w'/\Okl (setL L n q):=by
 by_cases h1:DV n q
 ·obtain⟨m,rfl⟩:∃m:Nat,n=m:=⟨n.toNat,by have:=h1.2.1;omega⟩;obtain⟨p,rfl⟩:∃p:Nat,q=p:=⟨q.toNat,by have:=h1.1;omega⟩;by_cases h2:own L p≠-1/\own L p≠m
  ·have e:setC L m p=12:=(by unfold setC;rw[AI (fun h=>h h1),AJ h2]);refine(ST w b L h m p h1 h2).mono ?_;rintro x w' ⟨rfl,rfl⟩;unfold setL;rw[e];exact⟨rfl,h,Chg.refl _ _,ok⟩
  ·have e:setC L m p=0:=(by unfold setC;rw[AI (fun h=>h h1),AI h2]);refine(set_yes w b L h ok m p h1 om).mono ?_;rintro x w' ⟨rfl,h3,h4,h5⟩;unfold setL;rw[e,AP];exact⟨rfl,h3,h4,h5⟩
 ·have e:setC L n q=1:=by unfold setC;rw[AJ h1]
  refine(set_arg w b n q h1).mono ?_;rintro x w' ⟨rfl,rfl⟩;unfold setL;rw[e];exact⟨rfl,h,Chg.refl _ _,ok⟩
def atC (L:Nat->Int) (n:Int):Nat:=if n<0\/25<=n then 1 else if L n.toNat = -1 then 11 else 0
def atV (L:Nat->Int) (n:Int):Int:=if atC L n=0 then L n.toNat else 0
def EL (L:Nat->Int) (n:Int):Nat->Int:=if atC L n=0 then upd L n.toNat (-1) else L
theorem NH(L:Nat->Int)(n:Int):((n<0\/25<=n)/\atC L n=1)\/∃m:Nat,n=m/\m<25/\((L m = -1/\atC L n=11)\/(L m≠-1/\atC L n=0)):=by
 unfold atC;by_cases h:n<0\/25<=n
 ·exact AK ⟨h,AJ h⟩
 ·refine AL ⟨n.toNat,om,om,?_⟩;rw[AI h];by_cases e:L n.toNat = -1
  ·exact AK ⟨e,AJ e⟩
  ·exact AL ⟨e,AI e⟩
theorem Zj(w:Wd)(b:Nat)(L:Nat->Int)(h:Mp w b L)(n:Int):Calls prog 56 #[.pointer (some ⟨b,0,none⟩),.int .i64 n] w fun e w'=>e=.returned (.tuple #[.int .i64 (atV L n),errV (atC L n)])/\w'=w:=by
 unfold atV;rcases NH L n with ⟨h1,e⟩ | ⟨m,rfl,hm,⟨h2,e⟩ | ⟨h2,e⟩⟩ <;> rw[e]
 ·exact Ux w b n h1
 ·exact Lc w b L h m hm h2
 ·exact PI w b L h m hm h2
theorem dy(w:Wd)(b:Nat)(L:Nat->Int)(h:Mp w b L)(ok:Okl L)(n:Int):Calls prog 64 #[.pointer (some ⟨b,0,none⟩),.int .i64 n] w fun e w'=>e=.returned (errV (atC L n))/\Mp w' b (EL L n)/\Chg (·=b) w w'/\Okl (EL L n):=by
 unfold EL;rcases NH L n with ⟨h1,e⟩ | ⟨m,rfl,hm,⟨h2,e⟩ | ⟨h2,e⟩⟩ <;> rw[e]
 ·refine(Uy w b n h1).mono ?_;rintro x w' ⟨rfl,rfl⟩;exact⟨rfl,h,Chg.refl _ _,ok⟩
 ·refine(SR w b L h m hm h2).mono ?_;rintro x w' ⟨rfl,rfl⟩;exact⟨rfl,h,Chg.refl _ _,ok⟩
 ·refine(Uz w b L h ok m hm h2).mono ?_;rintro x w' ⟨rfl,h3,h4⟩;exact⟨rfl,h3,h4,ok.clear m⟩
def YT (L:Nat->Int) (q:Int):Nat:=if q<0\/96<=q then 1 else if own L q = -1 then 11 else 0
def owV (L:Nat->Int) (q:Int):Int:=if YT L q=0 then own L q else 0
theorem U9(L:Nat->Int)(q:Int):((q<0\/96<=q)/\YT L q=1)\/∃m:Nat,q=m/\m<96/\((own L m = -1/\YT L q=11)\/(own L m≠-1/\YT L q=0)):=by
 unfold YT;by_cases h:q<0\/96<=q
 ·exact AK ⟨h,AJ h⟩
 ·obtain⟨m,rfl⟩:∃m:Nat,q=m:=⟨q.toNat,om⟩;refine AL ⟨m,rfl,om,?_⟩;rw[AI h];by_cases e:own L m = -1
  ·exact AK ⟨e,AJ e⟩
  ·exact AL ⟨e,AI e⟩
theorem Zk(w:Wd)(b:Nat)(L:Nat->Int)(h:Mp w b L)(q:Int):Calls prog 89 #[.pointer (some ⟨b,0,none⟩),.int .i64 q] w fun e w'=>e=.returned (.tuple #[.int .i64 (owV L q),errV (YT L q)])/\w'=w:=by
 unfold owV;rcases U9 L q with ⟨h1,e⟩ | ⟨m,rfl,hm,⟨h2,e⟩ | ⟨h2,e⟩⟩ <;> rw[e]
 ·exact SQ w b q h1
 ·exact PJ w b L h m hm h2
 ·exact SP w b L h m hm h2
def lE (n:Int):Nat:=if n<0\/12<=n then 1 else 0
def ofV (L:Nat->Int) (n:Int):List Int:=if n<0\/12<=n then [] else ofL L n.toNat
theorem PK(L:Nat->Int)(n:Int):(ofV L n).length<=8:=by
 unfold ofV;split
 ·simp
 ·exact CT L _ 8
def nA (w:Wd) (l:List Int) (er:Value) (e:Ending) (w':Wd):Prop:=(∃a cap,e=.returned (.tuple #[.slice a l.length cap,er])/\Ow w' w.heap.size (.slice a l.length cap) l)/\Chg No w w'
theorem lh(w:Wd)(b:Nat)(L:Nat->Int)(h:Mp w b L)(n:Int):Calls prog 146 #[.pointer (some ⟨b,0,none⟩),.int .i64 n] w fun e w'=>nA w (ofV L n) (errV (lE n)) e w':=by
 unfold ofV lE;by_cases h1:n<0\/12<=n
 ·rw[AJ h1,AJ h1];refine(dx w b n h1).mono ?_;rintro x w' ⟨rfl,rfl⟩;exact⟨⟨none,0,rfl,Ow.nil _ _⟩,Chg.refl _ _⟩
 ·obtain⟨m,rfl⟩:∃m:Nat,n=m:=⟨n.toNat,om⟩;rw[AI h1,AI h1,AP];exact U0 w b L h m om
end Go.Proofs.YtbhbilcieodbhaaGreat.AA
namespace Go.Proofs.YtbhbilcieodbhaaGreat.AC
open List
open Go.Proofs.Tryz
open Go.RowKit
theorem BH(w:Wd)(n m:Int)(h:0<=n/\n<m):Calls prog 145 #[.int .i64 n,.int .i64 m] w fun e w'=>e=.returned (.bool true)/\w'=w:=by
 obtain⟨h0,h1⟩:=h;go_enter func145,ntmps145;go_wp2;go_ret;exact⟨rfl,rfl⟩
theorem CJ(w:Wd)(n m:Int)(h:n<0\/m<=n):Calls prog 145 #[.int .i64 n,.int .i64 m] w fun e w'=>e=.returned (.bool false)/\w'=w:=by
 by_cases h0:0<=n
 ·have h1:¬ n<m:=om
  clear h;go_enter func145,ntmps145;go_wp2;go_ret;exact⟨rfl,rfl⟩
 ·clear h;go_enter func145,ntmps145;go_wp2;go_ret;exact⟨rfl,rfl⟩
theorem place_in(w:Wd)(b i:Int)(hb:0<=b/\b<12)(hi:0<=i/\i<8):Calls prog 154 #[.int .i64 b,.int .i64 i] w fun e w'=>e=.returned (.tuple #[.int .i64 (b*8+i),.nilIface])/\w'=w:=by
 obtain⟨b0,b1⟩:=hb;obtain⟨i0,i1⟩:=hi;go_enter func154,ntmps154;go_wp2_with fail;refine(BH w b 12 ⟨b0,b1⟩).mono ?_;rintro e w1 ⟨rfl,rfl⟩;go_wp2_with fail;refine(BH w1 i 8 ⟨i0,i1⟩).mono ?_;rintro e w2 ⟨rfl,rfl⟩;go_wp2;go_ret2;exact⟨rfl,rfl⟩
theorem place_out(w:Wd)(b i:Int)(h:(b<0\/12<=b)\/(i<0\/8<=i)):Calls prog 154 #[.int .i64 b,.int .i64 i] w fun e w'=>e=.returned (.tuple #[.int .i64 0,.iface 56 (.int .i64 1)])/\w'=w:=by
 by_cases hb:0<=b/\b<12
 ·have hi:i<0\/8<=i:=om
  clear h;obtain⟨b0,b1⟩:=hb;go_enter func154,ntmps154;go_wp2_with fail;refine(BH w b 12 ⟨b0,b1⟩).mono ?_;rintro e w1 ⟨rfl,rfl⟩;go_wp2_with fail;refine(CJ w1 i 8 hi).mono ?_;rintro e w2 ⟨rfl,rfl⟩;go_wp2;go_ret2;exact⟨rfl,rfl⟩
 ·have hb':b<0\/12<=b:=om
  clear h hb;go_enter func154,ntmps154;go_wp2_with fail;refine(CJ w b 12 hb').mono ?_;rintro e w1 ⟨rfl,rfl⟩;go_wp2;go_ret2;exact⟨rfl,rfl⟩
theorem holds_in(w:Wd)(p o:Int)(h:0<=p/\p<96)(ho:0<=o/\o<25):Calls prog 155 #[.int .i64 p,.int .i64 o] w fun e w'=>e=.returned (.tuple #[.bool (decide (o=24\/p % 8<6)),.nilIface])/\w'=w:=by
 obtain⟨h0,h1⟩:=h;by_cases e1:o=24
 ·rw[show decide (o=24\/p % 8<6)=true from AO (AK e1)];have e2:(o == 24)=true:=by simp[e1]
  clear e1;go_enter func155,ntmps155;go_wp2_with fail;refine(BH w p 96 ⟨h0,h1⟩).mono ?_;rintro e w1 ⟨rfl,rfl⟩;go_wp2_with fail;refine(BH w1 o 25 ho).mono ?_;rintro e w2 ⟨rfl,rfl⟩;go_wp2;go_ret2;exact⟨rfl,rfl⟩
 ·rw[show decide (o=24\/p % 8<6)=decide (p % 8<6) from by simp[e1]];have e2:(o == 24)=false:=by simp[e1]
  clear e1;go_enter func155,ntmps155;go_wp2_with fail;refine(BH w p 96 ⟨h0,h1⟩).mono ?_;rintro e w1 ⟨rfl,rfl⟩;go_wp2_with fail;refine(BH w1 o 25 ho).mono ?_;rintro e w2 ⟨rfl,rfl⟩;go_wp2;go_ret2;exact⟨rfl,rfl⟩
theorem Gg(w:Wd):(binOp .eql 33 .nilIface .nilIface).run prog w=.ok (.bool true) w:=kr
theorem CX(w:Wd):(binOp .neq 33 .nilIface .nilIface).run prog w=.ok (.bool false) w:=kr
theorem Hm(w:Wd)(n:Int):(binOp .eql 33 (.iface 56 (.int .i64 n)) .nilIface).run prog w=.ok (.bool false) w:=kr
theorem CY(w:Wd)(n:Int):(binOp .neq 33 (.iface 56 (.int .i64 n)) .nilIface).run prog w=.ok (.bool true) w:=kr
structure St where
 o:Bool
 k:Nat
 i:Nat
def stL (s:St):List Value:=[.bool s.o,.int .i64 s.k,.int .i64 s.i]
def FB (w:Wd) (b:Nat) (t:TypeId) (n:Nat) (f:Nat->Value) (o:Nat) (s:St):Prop:=Sto w b t n f/\o+3<=n/\f o=.bool s.o/\f (o+1)=.int .i64 s.k/\f (o+2)=.int .i64 s.i
section
variable {w w':Wd}{b:Nat}{t:TypeId}{n:Nat}{f:Nat->Value}{o:Nat}{s:St}
theorem FB.drewN(h:FB w b t n f o s)(m:Nat):FB (w.drewN m) b t n f o s:=h
theorem FB.c0(h:FB w b t n f o s):w.cell? ⟨b,o,none⟩=some (.bool s.o)/\w.frozen? ⟨b,o,none⟩=false:=by
 obtain⟨h1,h2,h3,h4,h5⟩:=h;exact⟨by rw[h1.cell o om,h3],h1.frozen _⟩
theorem FB.c1(h:FB w b t n f o s):w.cell? ⟨b,o+1,none⟩=some (.int .i64 s.k)/\w.frozen? ⟨b,o+1,none⟩=false:=by
 obtain⟨h1,h2,h3,h4,h5⟩:=h;exact⟨by rw[h1.cell (o+1) om,h4],h1.frozen _⟩
theorem FB.c2(h:FB w b t n f o s):w.cell? ⟨b,o+2,none⟩=some (.int .i64 s.i)/\w.frozen? ⟨b,o+2,none⟩=false:=by
 obtain⟨h1,h2,h3,h4,h5⟩:=h;exact⟨by rw[h1.cell (o+2) om,h5],h1.frozen _⟩
theorem F9(f:Nat->Value)(o:Nat)(s:St):upL f o (stL s) o=.bool s.o/\upL f o (stL s) (o+1)=.int .i64 s.k/\upL f o (stL s) (o+2)=.int .i64 s.i:=
 ⟨FZ f o (stL s) 0 _ rfl,FZ f o (stL s) 1 _ rfl,FZ f o (stL s) 2 _ rfl⟩
theorem FB.row(h:FB w b t n f o s)(s':St):FB (w.setCells b o (stL s')) b t n (upL f o (stL s')) o s':=
 ⟨Sto.setCells _ _ h.1,h.2.1,F9 f o s'⟩
theorem FB.same(h:FB w b t n f o s):FB w b t n (upL f o (stL s)) o s:=by
 obtain⟨h1,h2,h3,h4,h5⟩:=h;refine⟨h1.ext fun i hi=>?_,h2,F9 f o s⟩;obtain⟨u0,u1,u2⟩:=F9 f o s;by_cases e0:i=o
 ·subst e0;rw[u0,h3]
 ·by_cases e1:i=o+1
  ·subst e1;rw[u1,h4]
  ·by_cases e2:i=o+2
   ·subst e2;rw[u2,h5]
   ·unfold upL;rw[AI (by simp[stL];omega)]
theorem FB.set2(h:FB w b t n f o s)(i:Nat):FB (w.setCell ⟨b,o+2,none⟩ (.int .i64 i)) b t n (upL f o (stL { s with i:=i })) o { s with i:=i }:=by
 obtain⟨h1,h2,h3,h4,h5⟩:=h;refine⟨(h1.setCell (o+2) (.int .i64 i)).ext fun j hj=>?_,h2,F9 f o _⟩;obtain⟨u0,u1,u2⟩:=F9 f o { s with i:=i };rw[Bj];by_cases e2:j=o+2
 ·subst e2;rw[u2,AJ rfl]
 ·rw[AI e2];by_cases e0:j=o
  ·subst e0;rw[u0,h3]
  ·by_cases e1:j=o+1
   ·subst e1;rw[u1,h4]
   ·unfold upL;rw[AI (by simp[stL];omega)]
end
theorem build26(w:Wd):(Instr.build 118 #[]).run prog w=.ok (.agg (stL ⟨false,0,0⟩).toArray) w:=kr
theorem size26:(prog.info? 118).map (·.size)=some 3:=kr
theorem CF{ops:Array Oper}{rest:List Oper}{o:Oper}{a:Act}{w:Wd}{Q:Exit->Act->World->Prop}(hgd:o.guard=none)(x y:Operand)(ho:o.op=.store 118 x y)(g q:Nat)(hx:a.eval x=.pointer (some ⟨g,q,none⟩))(s:St)(hy:a.eval y=.agg (stL s).toArray){t:TypeId}{n:Nat}{f:Nat->Value}{s0:St}(hg:FB w g t n f q s0)(h:∀w',FB w' g t n (upL f q (stL s)) q s->Chg (·=g) w w'->wpList prog ops Q rest (a.put o.dst undef) w'):wpList prog ops Q (o :: rest) a w:=
 wpList_store_mid hgd 118 x y ho g q _ hx hy (hg.1.there q 3 hg.2.1) size26 (by simp[stL,Value.oneCell']) (h _ (FB.row hg s) (Chg.setCells (S:=(·=g)) (AK rfl) _ _ (Chg.refl _ w)))
def jr (x y:Int):Nat:=if x<0\/12<=x\/y<0\/9<=y then 1 else 0
def opS (s:St) (x y:Int):St:=if jr x y=0 then ⟨true,x.toNat,y.toNat⟩ else s
theorem NI(w:Wd)(b:Nat)(t:TypeId)(nn:Nat)(f:Nat->Value)(o:Nat)(s:St)(h:FB w b t nn f o s)(k i:Nat)(hk:k<12)(hi:i<9):Calls prog 153 #[.pointer (some ⟨b,o,none⟩),.int .i64 k,.int .i64 i] w fun e w'=>e=.returned .nilIface/\FB w' b t nn (upL f o (stL ⟨true,k,i⟩)) o ⟨true,k,i⟩/\Chg (·=b) w w':=by
 have h1:¬ (k:Int)<0:=om
 have h2:¬ (k:Int) ≥ 12:=om
 have h3:¬ (i:Int)<0:=om
 have h4:¬ (i:Int) > 8:=om
 have HK:=BB h;clear h hk hi;go_enter func153,ntmps153;go_wp2_with (refine CF rfl (.tmp 26) (.tmp 25) rfl b o rfl ⟨true,k,i⟩ rfl HK.out ?_);intro w1 K1 G1;have HK1:=BB K1;have HG1:=BB G1;clear K1 G1;go_wp2;go_ret;exact⟨rfl,HK1.out,HG1.out⟩
theorem VA(w:Wd)(b o:Nat)(x y:Int)(h:x<0\/12<=x\/y<0\/9<=y):Calls prog 153 #[.pointer (some ⟨b,o,none⟩),.int .i64 x,.int .i64 y] w fun e w'=>e=.returned (.iface 56 (.int .i64 1))/\w'=w:=by
 by_cases h1:x<0
 ·clear h;go_enter func153,ntmps153;go_wp2;go_ret;exact⟨rfl,rfl⟩
 ·by_cases h2:x ≥ 12
  ·clear h;go_enter func153,ntmps153;go_wp2;go_ret;exact⟨rfl,rfl⟩
  ·by_cases h3:y<0
   ·clear h;go_enter func153,ntmps153;go_wp2;go_ret;exact⟨rfl,rfl⟩
   ·have h4:y > 8:=om;clear h;go_enter func153,ntmps153;go_wp2;go_ret;exact⟨rfl,rfl⟩
theorem dz(w:Wd)(b:Nat)(t:TypeId)(nn:Nat)(f:Nat->Value)(o:Nat)(s:St)(h:FB w b t nn f o s)(x y:Int):Calls prog 153 #[.pointer (some ⟨b,o,none⟩),.int .i64 x,.int .i64 y] w fun e w'=>e=.returned (errV (jr x y))/\FB w' b t nn (upL f o (stL (opS s x y))) o (opS s x y)/\Chg (·=b) w w':=by
 unfold opS jr;by_cases c:x<0\/12<=x\/y<0\/9<=y
 ·rw[AJ c];refine(VA w b o x y c).mono ?_;rintro e w' ⟨rfl,rfl⟩;exact⟨rfl,h.same,Chg.refl _ _⟩
 ·rw[AI c];obtain⟨k,rfl⟩:∃k:Nat,x=k:=⟨x.toNat,om⟩;obtain⟨i,rfl⟩:∃i:Nat,y=i:=⟨y.toNat,om⟩;refine(NI w b t nn f o s h k i om om).mono ?_;rintro e w' ⟨rfl,h1,h2⟩;exact⟨rfl,h1,h2⟩
theorem SU(w:Wd)(b:Nat)(t:TypeId)(nn:Nat)(f:Nat->Value)(o:Nat)(s:St)(h:FB w b t nn f o s):Calls prog 149 #[.pointer (some ⟨b,o,none⟩)] w fun e w'=>e=.returned (.tuple #[])/\FB w' b t nn (upL f o (stL ⟨false,0,0⟩)) o ⟨false,0,0⟩/\Chg (·=b) w w':=by
 have HK:=BB h;have hb:=build26;clear h;go_enter func149,ntmps149;go_wp2_with (refine CF rfl (.tmp 4) (.tmp 3) rfl b o rfl ⟨false,0,0⟩ rfl HK.out ?_);intro w1 K1 G1;have HK1:=BB K1;have HG1:=BB G1;clear K1 G1;go_wp2;go_end0;exact⟨rfl,HK1.out,HG1.out⟩
def blV (s:St):Int:=if s.o then (s.k:Int) else -1
theorem Db(w:Wd)(b:Nat)(t:TypeId)(nn:Nat)(f:Nat->Value)(o:Nat)(s:St)(h:FB w b t nn f o s):Calls prog 85 #[.pointer (some ⟨b,o,none⟩)] w fun e w'=>e=.returned (.int .i64 (blV s))/\w'=w:=by
 obtain⟨c0,-⟩:=h.c0;obtain⟨c1,-⟩:=h.c1;obtain⟨oo,k,i⟩:=s;clear h;cases oo
 ·go_enter func85,ntmps85;go_wp2;go_ret;exact⟨rfl,rfl⟩
 ·go_enter func85,ntmps85;go_wp2;go_ret;exact⟨rfl,rfl⟩
def nxC (s:St) (n:Int):Nat:=if n<0\/25<=n then 1 else if s.o=false then 11 else if s.i<8/\(n=24\/s.i<6) then 0 else 10
def nxV (s:St) (n:Int):Int:=if nxC s n=0 then ((s.k*8+s.i:Nat):Int) else 0
def E9 (s:St):Prop:=s.k<12/\s.i<9
theorem VB(w:Wd)(b o:Nat)(n:Int)(h:n<0\/25<=n):Calls prog 118 #[.pointer (some ⟨b,o,none⟩),.int .i64 n] w fun e w'=>e=.returned (.tuple #[.int .i64 0,.iface 56 (.int .i64 1)])/\w'=w:=by
 by_cases h0:n<0
 ·clear h;go_enter func118,ntmps118;go_wp2;go_ret2;exact⟨rfl,rfl⟩
 ·have h1:n > 24:=om
  clear h;go_enter func118,ntmps118;go_wp2;go_ret2;exact⟨rfl,rfl⟩
theorem SV(w:Wd)(b:Nat)(t:TypeId)(nn:Nat)(f:Nat->Value)(o:Nat)(k i:Nat)(h:FB w b t nn f o ⟨false,k,i⟩)(n:Int)(hn:0<=n/\n<25):Calls prog 118 #[.pointer (some ⟨b,o,none⟩),.int .i64 n] w fun e w'=>e=.returned (.tuple #[.int .i64 0,.iface 56 (.int .i64 11)])/\w'=w:=by
 obtain⟨c0,-⟩:=h.c0;have h0:¬ n<0:=om
 have h1:¬ n > 24:=om
 clear h hn;go_enter func118,ntmps118;go_wp2;go_ret2;exact⟨rfl,rfl⟩
theorem VC(w:Wd)(b:Nat)(t:TypeId)(nn:Nat)(f:Nat->Value)(o:Nat)(k:Nat)(h:FB w b t nn f o ⟨true,k,8⟩)(n:Int)(hn:0<=n/\n<25):Calls prog 118 #[.pointer (some ⟨b,o,none⟩),.int .i64 n] w fun e w'=>e=.returned (.tuple #[.int .i64 0,.iface 56 (.int .i64 10)])/\∃m,w'=w.drewN m:=by
 obtain⟨c0,-⟩:=h.c0;obtain⟨c1,-⟩:=h.c1;obtain⟨c2,-⟩:=h.c2;have h0:¬ n<0:=om
 have h1:¬ n > 24:=om
 have q:=CY;clear h hn;go_enter func118,ntmps118;go_wp2_with fail
 go_quiet (first | (go_at_call 154;refine Calls.quiet_of_same (place_out _ k 8 (AL (AL dc)))))
 go_wp2;go_ret2;exact⟨rfl,_,rfl⟩
theorem Kh(w:Wd)(b:Nat)(t:TypeId)(nn:Nat)(f:Nat->Value)(o:Nat)(k i:Nat)(h:FB w b t nn f o ⟨true,k,i⟩)(hk:k<12)(hi:i<8)(n:Int)(hn:0<=n/\n<25):Calls prog 118 #[.pointer (some ⟨b,o,none⟩),.int .i64 n] w fun e w'=>e=.returned (if n=24\/i<6 then .tuple #[.int .i64 (k*8+i:Nat),.nilIface] else .tuple #[.int .i64 0,.iface 56 (.int .i64 10)])/\∃m,w'=w.drewN m:=by
 obtain⟨c0,-⟩:=h.c0;obtain⟨c1,-⟩:=h.c1;obtain⟨c2,-⟩:=h.c2;have h0:¬ n<0:=om
 have h1:¬ n > 24:=om
 have q:=CX;have hp:=fun w=>place_in w k i ⟨om,om⟩ ⟨om,om⟩;have hh:=fun w=>holds_in w ((k:Int)*8+i) n ⟨om,om⟩ hn;have hd:decide (n=24\/((k:Int)*8+i) % 8<6)=decide (n=24\/i<6):=by
  have:((k:Int)*8+i) % 8=i:=om
  rw[this];simp only[decide_eq_decide];omega
 rw[hd] at hh;have HV:Hid ((k:Int)*8+i=((k*8+i:Nat):Int)):=by show _=_;omega
 clear h hn hk hi hd;by_cases hb:n=24\/i<6
 ·rw[AJ hb,<-HV.out];simp only[hb,decide_true] at hh;clear hb HV;go_enter func118,ntmps118;go_wp2_with fail
  go_quiet (first | (go_at_call 154;refine Calls.quiet_of_same (hp _)))
  go_wp2_with fail;refine(hh _).mono ?_;rintro e w2 ⟨rfl,rfl⟩;go_wp2;go_ret2;exact⟨rfl,_,rfl⟩
 ·rw[AI hb];simp only[hb,decide_false] at hh;clear hb HV;go_enter func118,ntmps118;go_wp2_with fail
  go_quiet (first | (go_at_call 154;refine Calls.quiet_of_same (hp _)))
  go_wp2_with fail;refine(hh _).mono ?_;rintro e w2 ⟨rfl,rfl⟩;go_wp2;go_ret2;exact⟨rfl,_,rfl⟩
theorem li{s:St}{n:Int}(h:n<0\/25<=n):nxC s n=1:=by unfold nxC;rw[AJ h]
theorem bx{s:St}{n:Int}(h:¬ (n<0\/25<=n))(ho:s.o=false):nxC s n=11:=by unfold nxC;rw[AI h,AJ ho]
theorem lj{s:St}{n:Int}(h:¬ (n<0\/25<=n))(ho:¬ s.o=false)(hi:s.i<8/\(n=24\/s.i<6)):nxC s n=0:=by unfold nxC;rw[AI h,AI ho,AJ hi]
theorem bz{s:St}{n:Int}(h:¬ (n<0\/25<=n))(ho:¬ s.o=false)(hi:¬ (s.i<8/\(n=24\/s.i<6))):nxC s n=10:=by unfold nxC;rw[AI h,AI ho,AI hi]
theorem next_v(w:Wd)(b:Nat)(t:TypeId)(nn:Nat)(f:Nat->Value)(o:Nat)(s:St)(h:FB w b t nn f o s)(ok:E9 s)(n:Int):Calls prog 118 #[.pointer (some ⟨b,o,none⟩),.int .i64 n] w fun e w'=>e=.returned (.tuple #[.int .i64 (nxV s n),errV (nxC s n)])/\∃m,w'=w.drewN m:=by
 unfold nxV;by_cases h1:n<0\/25<=n
 ·rw[li h1];refine(VB w b o n h1).mono ?_;rintro e w' ⟨rfl,rfl⟩;exact⟨rfl,0,rfl⟩
 ·have hn:0<=n/\n<25:=om
  by_cases ho:s.o=false
  ·rw[bx h1 ho];obtain⟨oo,k,i⟩:=s;simp only at ho;subst ho;refine(SV w b t nn f o k i h n hn).mono ?_;rintro e w' ⟨rfl,rfl⟩;exact⟨rfl,0,rfl⟩
  ·by_cases h8:s.i<8
   ·by_cases hb:n=24\/s.i<6
    ·rw[lj h1 ho ⟨h8,hb⟩];obtain⟨oo,k,i⟩:=s;simp only[Bool.not_eq_false] at ho;subst ho;have:=Kh w b t nn f o k i h ok.1 h8 n hn;rw[AJ hb] at this;exact this
    ·rw[bz h1 ho (fun x=>hb x.2)];obtain⟨oo,k,i⟩:=s;simp only[Bool.not_eq_false] at ho;subst ho;have:=Kh w b t nn f o k i h ok.1 h8 n hn;rw[AI hb] at this;exact this
   ·rw[bz h1 ho (fun x=>h8 x.1)];obtain⟨oo,k,i⟩:=s;simp only[Bool.not_eq_false] at ho;subst ho;obtain rfl:i=8:=by have:=ok.2;simp only at this h8;omega
    exact VC w b t nn f o k h n hn
def rmV (s:St) (n:Int):Bool:=decide (nxC s n=0)
theorem Gb(c:Nat)(w:Wd):(binOp .eql 33 (errV c) .nilIface).run prog w=.ok (.bool (decide (c=0))) w:=by
 unfold errV;by_cases h:c=0
 ·rw[AJ h,AO h];exact Gg w
 ·rw[AI h,AN h];exact Hm w _
theorem Ga(c:Nat)(w:Wd):(binOp .neq 33 (errV c) .nilIface).run prog w=.ok (.bool (!decide (c=0))) w:=by
 unfold errV;by_cases h:c=0
 ·rw[AJ h,AO h];exact CX w
 ·rw[AI h,AN h];exact CY w _
theorem VD(w:Wd)(b:Nat)(t:TypeId)(nn:Nat)(f:Nat->Value)(o:Nat)(s:St)(h:FB w b t nn f o s)(ok:E9 s)(n:Int):Calls prog 113 #[.pointer (some ⟨b,o,none⟩),.int .i64 n] w fun e w'=>e=.returned (.bool (rmV s n))/\∃m,w'=w.drewN m:=by
 have hn:=next_v w b t nn f o s h ok n;have q:=Gb;have g:=DC;clear h ok;go_enter func113,ntmps113;go_wp2_with fail;refine hn.mono ?_;rintro e w1 ⟨rfl,m,rfl⟩;clear hn;go_wp2;go_ret;exact⟨rfl,m,rfl⟩
def tkS (s:St) (n:Int):St:=if nxC s n=0 then { s with i:=s.i+1 } else s
theorem take_v(w:Wd)(b:Nat)(t:TypeId)(nn:Nat)(f:Nat->Value)(o:Nat)(s:St)(h:FB w b t nn f o s)(ok:E9 s)(n:Int):Calls prog 81 #[.pointer (some ⟨b,o,none⟩),.int .i64 n] w fun e w'=>e=.returned (.tuple #[.int .i64 (nxV s n),errV (nxC s n)])/\FB w' b t nn (upL f o (stL (tkS s n))) o (tkS s n)/\Chg (·=b) w w':=by
 have hn:=next_v w b t nn f o s h ok n;obtain⟨c2,f2⟩:=h.c2;have HK:=BB h;have hi:s.i<9:=ok.2;have hiz:(s.i:Int)<=8:=om
 clear h ok hi;by_cases hc:nxC s n=0
 ·have HC:=BB hc;unfold tkS;rw[AJ hc];rw[hc] at hn ⊢;have g:=BL;have q:∀w,(binOp .neq 33 (errV 0) .nilIface).run prog w=.ok (.bool false) w:=Ga 0;clear hc;obtain⟨oo,k,i⟩:=s;simp only at c2 hiz;go_enter func81,ntmps81;go_wp2_with fail;refine hn.mono ?_;rintro e w1 ⟨rfl,m,rfl⟩;clear hn;go_wp2;go_ret2;exact⟨rfl,(HK.out.drewN m).set2 (i+1),((Chg.refl (·=b) _).drewN m).setCell (AK rfl) _ _⟩
 ·unfold tkS;rw[AI hc];have hv:nxV s n=0:=by unfold nxV;rw[AI hc]
  rw[hv] at hn ⊢;have g:=BL;have q:∀w,(binOp .neq 33 (errV (nxC s n)) .nilIface).run prog w=.ok (.bool true) w:=fun w=>by rw[Ga,AN hc];rfl
  clear hc hv;go_enter func81,ntmps81;go_wp2_with fail;refine hn.mono ?_;rintro e w1 ⟨rfl,m,rfl⟩;clear hn;go_wp2;go_ret2;exact⟨rfl,(HK.out.drewN m).same,(Chg.refl (·=b) _).drewN m⟩
theorem b8{s:St}{n:Int}(h:nxC s n=0):s.i<8:=by
 unfold nxC at h;split at h
 ·simp at h
 ·split at h
  ·simp at h
  ·split at h
   ·rename_i c;exact c.1
   ·simp at h
theorem E9.take{s:St}(h:E9 s)(n:Int):E9 (tkS s n):=by
 unfold tkS;split
 ·rename_i c;have:=b8 c;exact⟨h.1,by show s.i+1<9;omega⟩
 ·exact h
end Go.Proofs.YtbhbilcieodbhaaGreat.AC
