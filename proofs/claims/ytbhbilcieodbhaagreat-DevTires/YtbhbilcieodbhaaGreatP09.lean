/-
  Lemmas.
-/
import Derived.Test.YtbhbilcieodbhaaGreatOm
import Derived.Test.YtbhbilcieodbhaaGreatP08
set_option maxRecDepth 1000000
set_option maxHeartbeats 16000000
set_option linter.unusedSimpArgs false
namespace Go.Proofs.YtbhbilcieodbhaaGreat
open List
open Go.Proofs.Tryz
open Go.RowKit
section
variable (w:Wd)
def Bs (w2 wr:Wd) (v:Value) (L:List Nat):Prop:=Own wr w2.heap.size 5 v L/\Chg No w2 wr
theorem Bs.grown{w2 wr w':Wd}{v v':Value}{L L':List Nat}(h:Bs w2 wr v L)(h1:Own w' w2.heap.size 5 v' L')(h2:wr.grownBy w' v.ownBlock):Bs w2 w' v' L':=
 ⟨h1,h.2.grown h2 (fun _ hk=>AL (h.1.block hk).1)⟩
theorem Sx(a:Addr)(n cap:Nat)(w:Wd):(binOp .eql 35 (.slice (some a) n cap) (.slice none 0 0)).run prog w=.ok (.bool false) w:=kr
theorem Sy(g o n cap:Nat)(D:List Nat)(hn:D.length=n)(hn0:n<=1000)(hA:∀j,j<n->w.cell? ⟨g,o+j,none⟩=some (.int .u8 (D.getD j 0:Nat)))(hg:g<w.heap.size) :Calls prog 58 #[.slice (some ⟨g,o,none⟩) n cap] w fun e w'=>∃v,e=.returned v/\Own w' w.heap.size 5 v D/\Chg No w w':=by
 have hi5:=Fp;have hes:=Sx ⟨g,o,none⟩ n cap;have B0:Bs w (w.alloc (.cells (bcells (List.replicate 0 0)) 5)) (.slice (some ⟨w.heap.size,0,none⟩) 0 0) []:=⟨Own.new w 5 [] dc,(Chg.refl _ _).alloc _⟩;have HB0:=BB B0;have HA:=BB hA;have HN:=BB hn;have HN0:=BB hn0;have HG:=BB hg;clear B0 hA hn hn0 hg;go_enter func58,ntmps58;go_wp2_with (at_builtin;refine CZ _ rfl _ _ 35 rfl w.heap.size 5 underlying35 hi5 _ [] rfl HB0.out.1 (some ⟨g,o,none⟩) n cap D rfl HN.out ?h1 ?h2 ?h3 ?h4 (w.heap.size+1) ?h5 ?_)
 case h1=>exact fun e=>by cases e
 case h2=>
  intro ad had j hj;injection had with had;subst had;have:=HA.out j hj;rw[<-this];rw[Addr.add_mid];exact Au _ _ _ HG.out
 case h3=>have:=HN0.out;simp;omega
 case h4=>simp
 case h5=>simp
 intro v3 w3 O3 g3 _;have B3:Bs w w3 v3 D:=HB0.out.grown O3 g3;have HB3:=BB B3;clear O3 g3 B3;go_wp2;go_ret;exact⟨v3,rfl,HB3.out.1,HB3.out.2⟩
def geK (K:BC) (o:Nat):BC × List Nat × Nat:=
 if K.L o = -1 then (K,List.replicate 160 0,0) else
 let x:=inK K (K.L o).toNat
 if x.2.2≠0 then (x.1,[],x.2.2) else
 if x.2.1.sound=false\/x.2.1.l=true then (x.1,[],13) else (x.1,x.2.1.data.take 160,0)
theorem Sz{K:BC}(hK:Wf K){p:Nat}(h:(inK K p).2.1.sound=true):(inK K p).2.1.data.length=174/\Bys (inK K p).2.1.data:=by
 have key:=fun e=>Kn hK (p:=p) e;unfold inK at h ⊢;generalize rdK K p=x at *
 dsimp only at h ⊢;split at h
 ·cases h
 ·rename_i c;rw[AI c];split at h
  ·rename_i c2;rw[AJ c2];exact key h
  ·rename_i c2;rw[AI c2];split at h
   ·rename_i c3;rw[AJ c3];exact key h
   ·rename_i c3;rw[AI c3];exact key h
theorem aE:(Instr.makeSlice 35 (.int .i64 160) (.int .i64 160)).run prog w=.ok (.slice (some ⟨w.heap.size,0,none⟩) 160 160) (w.alloc (.cells (bcells (List.replicate 160 0)) 5)):=kr
theorem kN(A:Ad)(w:Wd)(K:BC)(h:CoreAt A w K)(o:Nat)(ho:o<24) :Calls prog 37 #[.pointer (some ⟨A.c,0,none⟩),.int .i64 (o:Nat)] w fun e w'=>∃v,e=.returned (.tuple #[v,errV (geK K o).2.2])/\Own w' w.heap.size 5 v (geK K o).2.1/\CoreAt A w' (geK K o).1/\Chg (Cor A) w w':=by
 have hs:=GG w (o:Nat) om;obtain⟨c2,-⟩:=h.cMap;have hat:=AA.Zj w A.ma K.L h.map (o:Nat);have q:=Bn;have g:=BL;by_cases hl:K.L o = -1
 ·have e1:AA.atC K.L (o:Nat)=11:=by unfold AA.atC;rw[AI om];simp[hl]
  rw[e1] at hat;have HE:Hid (geK K o=(K,List.replicate 160 0,0)):=by show geK K o=_;unfold geK;rw[AJ hl]
  replace q:∀w,(binOp .neq 33 (errV 11) .nilIface).run prog w=.ok (.bool true) w:=fun w=>q 11 w;have hm:=aE;have HO:=BB (Own.new w 5 (List.replicate 160 0) dc);have HG:Hid (Chg No w (w.alloc (.cells (bcells (List.replicate 160 0)) 5))):=(Chg.refl _ w).alloc _;have HK:=BB h;generalize AA.atV K.L (o:Nat)=av at *
  clear h hl e1 ho;go_enter func37,ntmps37;go_wp2_with (first | (go_at_call 48;refine hs.mono ?_;rintro e w ⟨rfl,rfl⟩) | (go_at_call 56;refine hat.mono ?_;rintro e w ⟨rfl,rfl⟩));go_ret2;rw[HE.out];exact⟨_,rfl,HO.out,HK.out.chg0 HG.out,HG.out.cor0⟩
 ·have e1:AA.atC K.L (o:Nat)=0:=by unfold AA.atC;rw[AI om];simp[hl]
  obtain⟨hp,hv,-⟩:=Vk h.wf (by omega:o<25) e1;rw[hv,e1] at hat;have hin:=Kq A w K h (K.L o).toNat hp;have HE:Hid (geK K o=if (inK K (K.L o).toNat).2.2≠0 then ((inK K (K.L o).toNat).1,[],(inK K (K.L o).toNat).2.2) else if (inK K (K.L o).toNat).2.1.sound=false\/(inK K (K.L o).toNat).2.1.l=true then ((inK K (K.L o).toNat).1,[],13) else ((inK K (K.L o).toNat).1,(inK K (K.L o).toNat).2.1.data.take 160,0)):=by
   show geK K o=_;unfold geK;rw[AI hl]
  have HSD:=BB (fun e=>Sz h.wf (p:=(K.L o).toNat) e);have HLOW:=BB h.low;have q0:∀w,(binOp .neq 33 (errV 0) .nilIface).run prog w=.ok (.bool false) w:=fun w=>q 0 w;generalize inK K (K.L o).toNat=Z at *
  generalize (K.L o).toNat=pp at *
  clear h hl e1 ho hv hp;go_enter func37,ntmps37;go_wp2_with (first | (go_at_call 48;refine hs.mono ?_;rintro e w ⟨rfl,rfl⟩) | (go_at_call 56;refine hat.mono ?_;rintro e w ⟨rfl,rfl⟩));refine hin.mono ?_;rintro e w1 ⟨v,rfl,hO,k1,g1⟩;have HO:=BB hO;have HK1:=BB k1;have HG1:=BB g1;have HP:=BB (Pb.new w1 false 0 0 0 0 false false (.slice none 0 0) 0);have HGN:Hid (Chg No w1 (w1.alloc (.cells #[.bool false,.int .i64 0,.int .i64 0,.int .i64 0,.int .i64 0,.bool false,.bool false,.slice none 0 0,.int .i64 0] 129))):=(Chg.refl _ w1).alloc _;have hs1:=g1.size;clear hat hin hO k1 g1 c2 hs;unfold SE;go_wp2_with (first | refine wpList_store_pg rfl (.tmp 8) (.tmp 29) rfl w1.heap.size rfl rfl HO.out.one HP.out ?_);intro w2 P2 G2;have HK2:=BB ((HK1.out.chg0 HGN.out).far HLOW.out om G2);have HO2:=BB ((HO.out.chg HGN.out (fun _ _ _ f=>f)).chg G2 (fun k hk he e=>by have:=HO.out.block he;omega));have HG2:=BB ((HG1.out.trans HGN.out.cor0).trans' G2 (fun k hk e=>om));have hz2:=P2.lt;obtain⟨p0,p1,p2,p3,p4,p5,p6,p7,p8⟩:=P2.cells;clear G2 P2 HO HK1 HG1 HGN HP p0 p1 p2 p3 p4 p8;by_cases hc:Z.2.2≠0
  ·have HE2:Hid (geK K o=(Z.1,[],Z.2.2)):=(by show geK K o=_;rw[HE.out,AJ hc]);replace q:∀w,(binOp .neq 33 (errV Z.2.2) .nilIface).run prog w=.ok (.bool true) w:=fun w=>by rw[q,AN hc];rfl
   clear hc HE HSD p5 p6 p7 q0;go_wp2;go_ret2;rw[HE2.out];exact⟨_,rfl,Own.nil _ _ _,HK2.out,HG2.out⟩
  ·have h0:Z.2.2=0:=(by simpa using hc);replace q:∀w,(binOp .neq 33 (errV Z.2.2) .nilIface).run prog w=.ok (.bool false) w:=fun w=>by rw[q,AO h0];rfl
   have HE1:Hid (geK K o=if Z.2.1.sound=false\/Z.2.1.l=true then (Z.1,[],13) else (Z.1,Z.2.1.data.take 160,0)):=(by show geK K o=_;rw[HE.out,AI hc]);clear hc HE h0 q0;cases hsd:Z.2.1.sound
   ·have HE2:Hid (geK K o=(Z.1,[],13)):=(by show geK K o=_;rw[HE1.out,AJ (AK hsd)]);rw[hsd] at p6;clear HE1 hsd HSD p5 p7;go_wp2;go_ret2;rw[HE2.out];exact⟨_,rfl,Own.nil _ _ _,HK2.out,HG2.out⟩
   ·rw[hsd] at p6;cases hll:Z.2.1.l
    ·have HE2:Hid (geK K o=(Z.1,Z.2.1.data.take 160,0)):=(by show geK K o=_;rw[HE1.out,AI (by rw[hsd,hll];simp)]);rw[hll] at p5;obtain⟨d1,d2⟩:=HSD.out hsd;obtain⟨gg,cap,hv,hb,hlt,hcc,hA,-⟩:=HO2.out.lies (by rw[d1];decide);rw[d1] at hv;subst hv;have hcl:=Sy w2 gg 0 160 cap (Z.2.1.data.take 160) (by rw[length_take,d1];decide) dc (fun j hj=>by
      rw[AW,hA j (by rw[d1];omega)]
      congr 2
      simp[AQ,hj]) hlt
     have HLE:Hid (w.heap.size<=w2.heap.size):=(show w.heap.size<=w2.heap.size by omega);have hcz:(160:Int)<=(cap:Int):=(by rw[d1] at hcc;omega);clear HE1 hsd hll HSD d1 d2 hA hb hlt HO2 hcc;go_wp2_with fail;refine hcl.mono ?_;rintro e w3 ⟨v3,rfl,O3,G3⟩;have HO3:=BB (O3.mono (base':=w.heap.size) (fun k hk=>by have:=(O3.block hk).1;have:=HLE.out;omega));have HK3:=BB (HK2.out.chg0 G3);have HG3:=BB (HG2.out.trans G3.cor0);clear hcl O3 G3;go_wp2;go_ret2;rw[HE2.out];exact⟨v3,rfl,HO3.out,HK3.out,HG3.out⟩
    ·have HE2:Hid (geK K o=(Z.1,[],13)):=(by show geK K o=_;rw[HE1.out,AJ (AL hll)]);rw[hll] at p5;clear HE1 hsd hll HSD p7;go_wp2;go_ret2;rw[HE2.out];exact⟨_,rfl,Own.nil _ _ _,HK2.out,HG2.out⟩
end
section
variable (A:Ad)(K:BC)
def tmH (o:Nat) (z:Int):Dp:=fun K q=>AB.Ir { ckK K q with F:=upd (ckK K q).F o z }
def tmK (n:Nat) (K:BC) (o:Nat):Option (BC × Nat):=
 if K.L o = -1 then some (K,0) else
 match anR n (tmH o (K.vs o:Nat)) K 24 with
 | none=>none
 | some y=>if y.2≠0 then some y else some ({ y.1 with fl:=upd y.1.fl o (K.vs o:Nat),L:=AA.EL y.1.L (o:Nat) },AA.atC y.1.L (o:Nat))
theorem fQ(o:Nat)(ho:o<24)(z:Int)(j:Nat)(_:j<101)(_:j<83\/83+13<=j):upL (kc A K) (53+o) [.int .i64 z] j=kc A { K with fl:=upd K.fl o z } j:=by
 rw[Bj];by_cases e:j=53+o
 ·subst e;rw[AJ rfl,cH A _ o ho];show _=Value.int .i64 (upd K.fl o z o);unfold upd;rw[AJ rfl]
 ·rw[AI e];unfold kc;by_cases h0:j=0
  ·simp only[AJ h0]
  by_cases h1:j=1
  ·simp only[AI h0,AJ h1]
  by_cases h2:j=2
  ·simp only[AI h0,AI h1,AJ h2]
  by_cases h3:j<53
  ·simp only[AI h0,AI h1,AI h2,AJ h3]
  by_cases h4:j<77
  ·simp only[AI h0,AI h1,AI h2,AI h3,AJ h4];unfold upd;rw[AI om]
  simp only[AI h0,AI h1,AI h2,AI h3,AI h4]
theorem Wf.fl'{K:BC}(h:Wf K){o:Nat}{z:Int}(hz:0<=z/\z<=1099511627775):Wf { K with fl:=upd K.fl o z }:=
 ⟨h.chip,h.rr,h.frm,h.map,h.vs,h.vp,h.vc,fun i hi=>by
  show 0<=upd K.fl o z i/\upd K.fl o z i<=1099511627775
  unfold upd
  split
  ·
   exact hz
  ·
   exact h.fl i hi,h.nx,h.fr,h.cu,h.qu,h.hea,h.tl⟩
theorem CoreAt.setFl{A:Ad}{w:Wd}{K:BC}(h:CoreAt A w K)(o:Nat)(ho:o<24)(z:Int)(hz:0<=z/\z<=1099511627775):CoreAt A (w.setCell ⟨A.c,53+o,none⟩ (.int .i64 z)) { K with fl:=upd K.fl o z }:=
 h.setCore { K with fl:=upd K.fl o z } ⟨rfl,rfl,rfl,rfl,rfl,rfl,rfl,rfl,rfl⟩ (QB.ext (QB.set h.core (53+o) (.int .i64 z) om) (fQ A K o ho z)) ((Chg.refl (·=A.c) w).setCell (AK rfl) _ _) (h.wf.fl' hz)
theorem fR(w:Wd)(K:BC)(h:CoreAt A w K)(o:Nat):Calls prog 64 #[.pointer (some ⟨A.ma,0,none⟩),.int .i64 (o:Nat)] w fun e w'=>e=.returned (errV (AA.atC K.L (o:Nat)))/\CoreAt A w' { K with L:=AA.EL K.L (o:Nat) }/\Chg (·=A.ma) w w':=by
 refine(AA.dy w A.ma K.L h.map h.wf.map (o:Nat)).mono ?_;rintro e w' ⟨rfl,hM,hc,hO⟩;refine⟨rfl,h.setMap hM hc (h.wf.map' hO fun i hi hLi=>h.wf.vp i hi fun e=>hLi ?_),hc⟩;unfold AA.EL;split
 ·unfold upd;split
  ·rfl
  ·exact e
 ·exact e
theorem fS(w:Wd)(K:BC)(h:CoreAt A w K)(o:Nat)(ho:o<24)(n:Nat)(Z:BC × Nat)(hZ:tmK n K o=some Z) :Calls prog 42 #[.pointer (some ⟨A.c,0,none⟩),.int .i64 (o:Nat)] w fun e w'=>e=.returned (errV Z.2)/\CoreAt A w' Z.1/\Chg (Cor A) w w':=by
 have GA:Chg No w (w.alloc (.cells #[.int .i64 (o:Nat)] 3)):=(Chg.refl _ w).alloc _;have hs:=fun w=>GG w (o:Nat) om;have K1:=h.chg0 GA;obtain⟨c2,-⟩:=(K1.drewN 1).cMap;have hB0:(w.alloc (.cells #[.int .i64 (o:Nat)] 3)).drew.cell? ⟨w.heap.size,0,none⟩=some (.int .i64 (o:Nat)):=by
  have h1:(w.alloc (.cells #[.int .i64 (o:Nat)] 3)).heap[w.heap.size]?=some (.cells #[.int .i64 (o:Nat)] 3):=(show (w.heap.push _)[w.heap.size]?=_ by simp);show (w.alloc (.cells #[.int .i64 (o:Nat)] 3)).cell? ⟨w.heap.size,0,none⟩=_;rw[cell_of_row _ _ _ _ _ _ h1];rfl
 have hat:=AA.Zj _ A.ma K.L (K1.drewN 1).map (o:Nat);have q:=Bn;have g:=BL;have HK1:=BB K1;have HG1:=BB (Chg.cor0 (A:=A) GA);unfold tmK at hZ;by_cases hl:K.L o = -1
 ·rw[AJ hl] at hZ;have HZ:Hid ((K,0)=Z):=AR hZ;have e1:AA.atC K.L (o:Nat)=11:=by unfold AA.atC;rw[AI om];simp[hl]
  rw[e1] at hat;replace q:∀w,(binOp .neq 33 (errV 11) .nilIface).run prog w=.ok (.bool true) w:=fun w=>q 11 w;generalize AA.atV K.L (o:Nat)=av at *
  clear h hl e1 hZ GA K1 ho;go_enter func42,ntmps42;go_wp2_with (go_at_call 48;refine(hs _).mono ?_;rintro e w1 ⟨rfl,rfl⟩)
  go_region_held3 (fun wx=>wx.cell? ⟨A.c,2,none⟩=some (.pointer (some ⟨A.ma,0,none⟩))/\wx.cell? ⟨w.heap.size,0,none⟩=some (.int .i64 (o:Nat)))
   (first | exact⟨c2,hB0⟩)
   (first | (go_at_call 56;refine hat.mono ?_;rintro e w2 ⟨rfl,rfl⟩))
  go_wp2;go_ret;rw[<-HZ.out];exact⟨rfl,HK1.out.drewN 1,HG1.out.drew⟩
 ·rw[AI hl] at hZ;obtain⟨y,hy,hyz⟩:∃y,anR n (tmH o (K.vs o:Nat)) K 24=some y/\(if y.2≠0 then some y else some ({ y.1 with fl:=upd y.1.fl o (K.vs o:Nat),L:=AA.EL y.1.L (o:Nat) },AA.atC y.1.L (o:Nat)))=some Z:=by
   cases ea:anR n (tmH o (K.vs o:Nat)) K 24 with
   | none=>rw[ea] at hZ;cases hZ
   | some y=>rw[ea] at hZ;exact⟨y,rfl,hZ⟩
  have e1:AA.atC K.L (o:Nat)=0:=by unfold AA.atC;rw[AI om];simp[hl]
  rw[e1] at hat;have q0:∀w,(binOp .neq 33 (errV 0) .nilIface).run prog w=.ok (.bool false) w:=fun w=>q 0 w;generalize AA.atV K.L (o:Nat)=av at *
  have HVS:Hid (0<=((K.vs o:Nat):Int)/\((K.vs o:Nat):Int)<=1099511627775):=(show 0<=((K.vs o:Nat):Int)/\((K.vs o:Nat):Int)<=1099511627775 by have:=h.wf.vs o om;omega);have HLOW:=BB h.low;have HO:=BB ho;have HY:=BB hy;have HYZ:=BB hyz;obtain⟨cv,-⟩:=K1.cVs o om;have hB1:(w.alloc (.cells #[.int .i64 (o:Nat)] 3)).cell? ⟨w.heap.size,0,none⟩=some (.int .i64 (o:Nat)):=hB0;have cva:∀X,(((w.alloc (.cells #[.int .i64 (o:Nat)] 3)).drewN 2).alloc X).cell? ⟨A.c,3+o*2,none⟩=some (.int .i64 (K.vs o:Nat)):=fun X=>by rw[Au _ _ _ (K1.drewN 2).lts.1];exact((K1.drewN 2).cVs o om).1
  have hoz:0<=((o:Nat):Int):=om
  have hoz2:((o:Nat):Int)<25:=om
  clear h hl e1 hZ GA K1 ho hy hyz;go_enter func42,ntmps42;go_wp2_with (go_at_call 48;refine(hs _).mono ?_;rintro e w1 ⟨rfl,rfl⟩)
  go_region_held3 (fun wx=>wx.cell? ⟨A.c,2,none⟩=some (.pointer (some ⟨A.ma,0,none⟩))/\wx.cell? ⟨w.heap.size,0,none⟩=some (.int .i64 (o:Nat)))
   (first | exact⟨c2,hB0⟩)
   (first | (go_at_call 56;refine hat.mono ?_;rintro e w2 ⟨rfl,rfl⟩))
  go_wp2_with fail;go_region;have G2:Chg No (w.alloc (.cells #[.int .i64 (o:Nat)] 3)) (((w.alloc (.cells #[.int .i64 (o:Nat)] 3)).drewN 2).alloc (.cells #[.int .i64 (K.vs o:Nat)] 2)):=((Chg.refl _ _).drewN 2).alloc _;have HK2:=BB (HK1.out.chg0 G2);have HG2:=BB (HG1.out.trans G2.cor0);have hsz:(w.alloc (.cells #[.int .i64 (o:Nat)] 3)).heap.size=w.heap.size+1:=by simp
  have hb2:(((w.alloc (.cells #[.int .i64 (o:Nat)] 3)).drewN 2).alloc (.cells #[.int .i64 (K.vs o:Nat)] 2)).cell? ⟨w.heap.size,0,none⟩=some (.int .i64 (o:Nat)):=(G2.cell (by rw[hsz];omega) (fun f=>f) 0).trans hB1;have hb3:(((w.alloc (.cells #[.int .i64 (o:Nat)] 3)).drewN 2).alloc (.cells #[.int .i64 (K.vs o:Nat)] 2)).cell? ⟨w.heap.size+1,0,none⟩=some (.int .i64 (K.vs o:Nat)):=by
   have hz2:((w.alloc (.cells #[.int .i64 (o:Nat)] 3)).drewN 2).heap.size=w.heap.size+1:=hsz;have h1:(((w.alloc (.cells #[.int .i64 (o:Nat)] 3)).drewN 2).alloc (.cells #[.int .i64 (K.vs o:Nat)] 2)).heap[w.heap.size+1]?=some (.cells #[.int .i64 (K.vs o:Nat)] 2):=by
    have key:∀(H:Array Obj) (x:Obj) (k:Nat),H.size=k->(H.push x)[k]?=some x:=fun H x k e=>by subst e;simp
    exact key _ _ _ hz2
   rw[cell_of_row _ _ _ _ _ _ h1];rfl
  have hsz2:(((w.alloc (.cells #[.int .i64 (o:Nat)] 3)).drewN 2).alloc (.cells #[.int .i64 (K.vs o:Nat)] 2)).heap.size=w.heap.size+2:=by
   have hz2:((w.alloc (.cells #[.int .i64 (o:Nat)] 3)).drewN 2).heap.size=w.heap.size+1:=hsz;simp
  clear cva cv hB0 hB1 c2 hat G2 HK1 HG1 hsz;generalize (((w.alloc (.cells #[.int .i64 (o:Nat)] 3)).drewN 2).alloc (.cells #[.int .i64 (K.vs o:Nat)] 2))=w2 at *
  have htl:=Fe w2 A.c 63 #[.pointer (some ⟨w.heap.size+1,0,none⟩),.pointer (some ⟨w.heap.size,0,none⟩)];have hmf:∀(fn:Fn) (first cap:Array Value) (w:Wd),(Instr.makeFunc fn first cap).run prog w=.ok (.func fn first cap) w:=fun _ _ _ _=>rfl;have HB2:=BB hb2;have HB3:=BB hb3;have HSZ2:=BB hsz2;clear hb2 hb3 hsz2;go_wp2_with fail;refine htl.mono ?_;rintro e w3 ⟨rfl,a1,a2,a3,g3⟩;have K3:=HK2.out.chg0 g3;have n0:¬ Cor A w.heap.size:=fun e=>by have:=HLOW.out _ (AK e);omega
  have n1:¬ Cor A (w.heap.size+1):=fun e=>by have:=HLOW.out _ (AK e);omega
  have z2:=HSZ2.out;have n2:¬ Cor A w2.heap.size:=fun e=>by have:=HLOW.out _ (AK e);omega
  have n3:¬ Cor A (w2.heap.size+1):=fun e=>by have:=HLOW.out _ (AK e);omega
  have b2:=(g3.cell om (fun f=>f) 0).trans HB2.out;have b3:=(g3.cell om (fun f=>f) 0).trans HB3.out;have hz3:=g3.size;have hH:=DY A w3 63 #[.pointer (some ⟨w.heap.size+1,0,none⟩),.pointer (some ⟨w.heap.size,0,none⟩)] _ (So A w3 (w.heap.size+1) w.heap.size o (K.vs o:Nat) b3 b2 HO.out n1 n0 om om) w2.heap.size (w2.heap.size+1) a1 a2 n2 n3 om om (Vi o _ HVS.out);have han:=GF A n w3 94 #[.pointer (some ⟨w2.heap.size,0,none⟩),.pointer (some ⟨w2.heap.size+1,0,none⟩)] (tmH o (K.vs o:Nat)) hH w3 K 24 y K3 (Chg.refl _ _) dc HY.out;replace han:Calls prog 49 #[.pointer (some ⟨A.c,0,none⟩),.int .i64 24,.func (.func 94) #[] #[.pointer (some ⟨w2.heap.size,0,none⟩),.pointer (some ⟨w2.heap.size+1,0,none⟩)]] w3 fun e w'=>e=.returned (errV y.2)/\CoreAt A w' y.1/\Chg (Cor A) w3 w':=han;have HG3:=BB (HG2.out.trans g3.cor0);have HBB:Hid (w3.cell? ⟨w.heap.size,0,none⟩=some (.int .i64 (o:Nat))/\w3.cell? ⟨w.heap.size+1,0,none⟩=some (.int .i64 (K.vs o:Nat))/\¬ Cor A w.heap.size/\¬ Cor A (w.heap.size+1)/\w.heap.size+1<w3.heap.size):=⟨b2,b3,n0,n1,om⟩;clear htl a1 a2 a3 g3 K3 hH b2 b3 n0 n1 n2 n3 z2 hz3 HB2 HB3 HSZ2;go_wp2_with fail;refine han.mono ?_;rintro e w4 ⟨rfl,k4,g4⟩;have HK4:=BB k4;have HG4:=BB (HG3.out.trans g4);obtain⟨bb1,bb2,bb3,bb4,bb5⟩:=HBB.out;have d1:=(g4.cell om bb3 0).trans bb1;have d2:=(g4.cell bb5 bb4 0).trans bb2;have HBB4:Hid (w4.cell? ⟨w.heap.size,0,none⟩=some (.int .i64 (o:Nat))/\w4.cell? ⟨w.heap.size+1,0,none⟩=some (.int .i64 (K.vs o:Nat))/\¬ Cor A w.heap.size/\¬ Cor A (w.heap.size+1)/\w.heap.size+1<w4.heap.size):=⟨d1,d2,bb3,bb4,Aj bb5 g4.size⟩;clear han k4 g4 bb1 bb2 bb3 bb4 bb5 HBB HG3 HK2 HG2;by_cases hy0:y.2=0
  ·have HYZ2:Hid (({ y.1 with fl:=upd y.1.fl o (K.vs o:Nat),L:=AA.EL y.1.L (o:Nat) },AA.atC y.1.L (o:Nat))=Z):=by
    have:=HYZ.out;rw[AI (by rw[hy0];simp)] at this;exact AR this
   replace q:∀w,(binOp .neq 33 (errV y.2) .nilIface).run prog w=.ok (.bool false) w:=fun w=>by rw[q,AO hy0];rfl
   have hoz24:((o:Nat):Int)<24:=(by have:=HO.out;omega);obtain⟨cf,ff⟩:=HK4.out.cFl o HO.out;clear hy0 HYZ;go_wp2_with fail;go_region;have G5:Chg (·=A.c) w4 (w4.setCell ⟨A.c,53+o,none⟩ (.int .i64 (K.vs o:Nat))).drew:=((Chg.refl (·=A.c) w4).setCell (AK rfl) _ _).drew;have K5:=((HK4.out.setFl o HO.out _ HVS.out).drewN 1);have hA5:¬ w.heap.size=A.c:=fun e=>HBB4.out.2.2.1 (AK e);have f1:=(G5.cell (by have:=HBB4.out.2.2.2.2;omega) hA5 0).trans d1;have HNM:Hid (¬ w.heap.size=A.ma):=fun e=>HBB4.out.2.2.1 (by unfold Cor;omega);have HSZ5:Hid (w.heap.size<(w4.setCell ⟨A.c,53+o,none⟩ (.int .i64 (K.vs o:Nat))).drew.drew.heap.size):=(show w.heap.size<(w4.setCell ⟨A.c,53+o,none⟩ (.int .i64 (K.vs o:Nat))).drew.drew.heap.size by have:=HBB4.out.2.2.2.2;have:=G5.size;show w.heap.size<(w4.setCell ⟨A.c,53+o,none⟩ (.int .i64 (K.vs o:Nat))).drew.heap.size;omega);have HK5:=BB K5;have HG5:=BB (HG4.out.trans G5.cor_c);obtain⟨c5,-⟩:=(K5.drewN 1).cMap;have hdr:=fR A _ _ (K5.drewN 1) o;clear HK4 HG4 cf ff K5 G5 d1 d2 HBB4 hA5;go_wp2_with fail
   go_region_held3 (fun wx=>wx.cell? ⟨A.c,2,none⟩=some (.pointer (some ⟨A.ma,0,none⟩))/\wx.cell? ⟨w.heap.size,0,none⟩=some (.int .i64 (o:Nat)))
    (first | exact⟨c5,f1⟩ | exact⟨x1,x2⟩)
    (first | (go_at_call 64;refine hdr.mono ?_;rintro e w6 ⟨rfl,k6,g6⟩;have HK6:=BB k6;have HG6:=BB (HG5.out.drew.trans g6.cor_ma);obtain⟨x1,-⟩:=k6.cMap;have x2:=(g6.cell HSZ5.out HNM.out 0).trans f1;clear k6 g6))
   go_wp2;go_ret;rw[<-HYZ2.out];exact⟨rfl,HK6.out,HG6.out⟩
  ·have HYZ2:Hid (y=Z):=by
    have:=HYZ.out;rw[AJ hy0] at this;exact AR this
   replace q:∀w,(binOp .neq 33 (errV y.2) .nilIface).run prog w=.ok (.bool true) w:=fun w=>by rw[q,AN hy0];rfl
   clear hy0 HYZ d1 d2;go_wp2;go_ret;rw[<-HYZ2.out];exact⟨rfl,HK4.out,HG4.out⟩
end
section
variable {K:BC}{w:Wd}(A:Ad)
def awQ (R L:Nat->Int):Nat->Nat->List Int->List Int
 | 0,_,q=>q
 | n+1,i,q=>awQ R L n (i+1) (if AF.much 512 R (i:Nat)=true/\0<AA.lvK L 96 i then AE.PL q (i:Nat) else q)
def awK (K:BC):BC:={ K with qu:=awQ K.hR K.L 12 0 K.qu }
theorem aF(w:Wd)(K:BC)(h:CoreAt A w K) :Calls prog 73 #[.pointer (some ⟨A.c,0,none⟩)] w fun e w'=>e=.returned (.tuple #[])/\CoreAt A w' (awK K)/\Chg (Cor A) w w':=by
 obtain⟨c2,-⟩:=h.cMap;have hlv:=AA.Gj w A.ma K.L h.map;have HK:=BB h;have q:=Hn;have g:=DC;obtain⟨X,HX⟩:∃X,Hid (awQ K.hR K.L 12 0 K.qu=X):=⟨_,rfl⟩;unfold awK;rw[HX.out];clear h;go_enter func73,ntmps73;go_wp2_with (go_at_call 107;refine hlv.mono ?_;rintro e w1 ⟨rfl,I1,G1⟩);have HI:=BB I1;have HK1:=BB (HK.out.chg0 G1);have HG1:=BB (Chg.cor0 (A:=A) G1);have HN:Hid (¬ Cor A w.heap.size):=HK.out.apart (AM _);have hs1:w.heap.size<w1.heap.size:=I1.lt;clear hlv c2 I1 G1
 go_loopg [12] 12 (fun kx s12 wr=>∃(i:Nat) (l:List Int),s12=.int .i64 i/\i<=12/\12 - i<=kx/\Hid (CoreAt A wr { K with qu:=l })/\Hid (Chg (Cor A) w wr)/\Hid (IB wr w.heap.size 3 12 (fun k=>(AA.lvK K.L 96 k:Nat)))/\Hid (awQ K.hR K.L (12 - i) i l=X))
 case atStart=>exact⟨0,K.qu,rfl,om,om,HK1.out,HG1.out,HI.out,HX.out⟩
 case round=>
  obtain⟨i,l,rfl,hi,hkx,HC,HG,HJ,HE⟩:=hrel;by_cases hlt:i<12
  ·have hltz:(i:Int)<12:=om;obtain⟨ci,-⟩:=HJ.out.cell i hlt;obtain⟨m,hm⟩:∃m,12 - i=m+1:=⟨11 - i,om⟩;have hm2:12 - (i+1)=m:=om;have HE2:Hid (awQ K.hR K.L m (i+1) (if AF.much 512 K.hR (i:Nat)=true/\0<AA.lvK K.L 96 i then AE.PL l (i:Nat) else l)=X):=by
    have:=HE.out;rw[hm,awQ] at this;exact this
   have htr:=AF.Zt wr A.h K.hR K.hN K.hS HC.out.hea HC.out.wf.hea (i:Nat);have hb8:AF.Io (i:Nat)=0:=(by unfold AF.Io;rw[AJ om]);rw[hb8] at htr;obtain⟨c96,-⟩:=HC.out.cHea;have had:=V1 A wr _ HC.out (i:Nat);have HM2:=BB hm2;replace q:∀w,(binOp .eql 33 (errV 0) .nilIface).run prog w=.ok (.bool true) w:=fun w=>q 0 w;clear hm hm2 HE hb8;generalize hmu:AF.much 512 K.hR (i:Nat)=mu at *
   generalize hlv:AA.lvK K.L 96 i=lv at *
   replace ci:wr.cell? ⟨w.heap.size,i,none⟩=some (.int .i64 (lv:Nat)):=ci;clear hmu hlv;cases mu
   ·have HE3:Hid (awQ K.hR K.L m (i+1) l=X):=by
     have:=HE2.out;rw[AI (by simp)] at this;exact this
    clear HE2 had;go_wp2_with (go_at_call 108;refine htr.mono ?_;rintro e wr ⟨rfl,rfl⟩)
    go_roundg (12 - (i+1))
    case measure=>omega
    case rel=>exact⟨i+1,l,by simp,om,AM _,HC.out,HG.out,HJ.out,by rw[HM2.out];exact HE3.out⟩
   ·by_cases h0:0<lv
    ·have h0z:(0:Int)<(lv:Nat):=om;have HE3:Hid (awQ K.hR K.L m (i+1) (AE.PL l (i:Nat))=X):=by
      have:=HE2.out;rw[AJ ⟨rfl,h0⟩] at this;exact this
     clear HE2 h0;go_wp2_with (go_at_call 108;refine htr.mono ?_;rintro e wr ⟨rfl,rfl⟩);refine had.mono ?_;rintro e w3 ⟨rfl,k3,g3⟩;have HK3:=BB k3;have HG3:=BB (HG.out.trans g3.cor_c);have HJ3:=BB (HJ.out.chg g3.cor_c HN.out);clear had k3 g3 HC HG HJ htr ci c96;go_wp2
     go_roundg (12 - (i+1))
     case measure=>omega
     case rel=>exact⟨i+1,_,by simp,om,AM _,HK3.out,HG3.out,HJ3.out,by rw[HM2.out];exact HE3.out⟩
    ·have h0z:¬ (0:Int)<(lv:Nat):=om;have HE3:Hid (awQ K.hR K.L m (i+1) l=X):=by
      have:=HE2.out;rw[AI (fun e=>h0 e.2)] at this;exact this
     clear HE2 had h0;go_wp2_with (go_at_call 108;refine htr.mono ?_;rintro e wr ⟨rfl,rfl⟩)
     go_roundg (12 - (i+1))
     case measure=>omega
     case rel=>exact⟨i+1,l,by simp,om,AM _,HC.out,HG.out,HJ.out,by rw[HM2.out];exact HE3.out⟩
  ·have hltz:¬ (i:Int)<12:=om;have e:i=12:=om;subst e;have HE3:Hid (l=X):=HE.out;go_wp2;go_end0;rw[<-HE3.out];exact⟨rfl,HC.out,HG.out⟩
def rfK (n:Nat) (K:BC) (b:Nat):Option (BC × Nat):=
 if AA.ofV K.L (b:Nat)=[] then some (K,0) else
 match movR n K (nwS b (AF.much 3 K.hS (b:Nat)) false) with
 | none=>none
 | some y=>if y.2.2≠0 then some (y.1,y.2.2) else some ({ y.1 with rp:=wrap64 (y.1.rp+1),md:=wrap64 (y.1.md+(AA.ofV K.L (b:Nat)).length) },0)
theorem Wf.rp'(h:Wf K)(z:Int):Wf { K with rp:=z }:=
 ⟨h.chip,h.rr,h.frm,h.map,h.vs,h.vp,h.vc,h.fl,h.nx,h.fr,h.cu,h.qu,h.hea,h.tl⟩
theorem Wf.md'(h:Wf K)(z:Int):Wf { K with md:=z }:=
 ⟨h.chip,h.rr,h.frm,h.map,h.vs,h.vp,h.vc,h.fl,h.nx,h.fr,h.cu,h.qu,h.hea,h.tl⟩
theorem kO(K:BC)(z:Int)(j:Nat)(_:j<101)(_:j<83\/83+13<=j):upL (kc A K) 98 [.int .i64 z] j=kc A { K with rp:=z } j:=by
 rw[Bj];by_cases e:j=98
 ·subst e;rfl
 ·rw[AI e];unfold kc;by_cases h0:j=0
  ·simp only[AJ h0]
  by_cases h1:j=1
  ·simp only[AI h0,AJ h1]
  by_cases h2:j=2
  ·simp only[AI h0,AI h1,AJ h2]
  by_cases h3:j<53
  ·simp only[AI h0,AI h1,AI h2,AJ h3]
  by_cases h4:j<77
  ·simp only[AI h0,AI h1,AI h2,AI h3,AJ h4]
  have:j=77\/j=78\/j=79\/j=80\/j=81\/j=82\/j=96\/j=97\/j=99\/j=100:=om
  rcases this with rfl | rfl | rfl | rfl | rfl | rfl | rfl | rfl | rfl | rfl <;> rfl
theorem kP(K:BC)(z:Int)(j:Nat)(_:j<101)(_:j<83\/83+13<=j):upL (kc A K) 99 [.int .i64 z] j=kc A { K with md:=z } j:=by
 rw[Bj];by_cases e:j=99
 ·subst e;rfl
 ·rw[AI e];unfold kc;by_cases h0:j=0
  ·simp only[AJ h0]
  by_cases h1:j=1
  ·simp only[AI h0,AJ h1]
  by_cases h2:j=2
  ·simp only[AI h0,AI h1,AJ h2]
  by_cases h3:j<53
  ·simp only[AI h0,AI h1,AI h2,AJ h3]
  by_cases h4:j<77
  ·simp only[AI h0,AI h1,AI h2,AI h3,AJ h4]
  have:j=77\/j=78\/j=79\/j=80\/j=81\/j=82\/j=96\/j=97\/j=98\/j=100:=om
  rcases this with rfl | rfl | rfl | rfl | rfl | rfl | rfl | rfl | rfl | rfl <;> rfl
theorem CoreAt.setRp{A:Ad}(h:CoreAt A w K)(z:Int):CoreAt A (w.setCell ⟨A.c,98,none⟩ (.int .i64 z)) { K with rp:=z }:=
 h.setCore { K with rp:=z } ⟨rfl,rfl,rfl,rfl,rfl,rfl,rfl,rfl,rfl⟩ (QB.ext (QB.set h.core 98 (.int .i64 z) om) (kO A K z)) ((Chg.refl (·=A.c) w).setCell (AK rfl) _ _) (h.wf.rp' z)
theorem CoreAt.setMd{A:Ad}(h:CoreAt A w K)(z:Int):CoreAt A (w.setCell ⟨A.c,99,none⟩ (.int .i64 z)) { K with md:=z }:=
 h.setCore { K with md:=z } ⟨rfl,rfl,rfl,rfl,rfl,rfl,rfl,rfl,rfl⟩ (QB.ext (QB.set h.core 99 (.int .i64 z) om) (kP A K z)) ((Chg.refl (·=A.c) w).setCell (AK rfl) _ _) (h.wf.md' z)
theorem S7(w:Wd)(K:BC)(h:CoreAt A w K)(b:Nat)(hb:b<12)(n:Nat)(Z:BC × Nat)(hZ:rfK n K b=some Z) :Calls prog 110 #[.pointer (some ⟨A.c,0,none⟩),.int .i64 (b:Nat)] w fun e w'=>e=.returned (errV Z.2)/\CoreAt A w' Z.1/\Chg (Cor A) w w':=by
 obtain⟨c2,-⟩:=h.cMap;have hof:=AA.lh w A.ma K.L h.map (b:Nat);have e1:AA.lE (b:Nat)=0:=by unfold AA.lE;rw[AI om]
 rw[e1] at hof;have hlen:=AA.PK K.L (b:Nat);have q:=Bn;have g:=BL;have HK:=BB h;have HB:=BB hb;have hbd:=Sv;have HZ:=BB hZ;have q0:∀w,(binOp .neq 33 (errV 0) .nilIface).run prog w=.ok (.bool false) w:=fun w=>q 0 w;clear h hb e1 hZ;have HZ2:Hid ((if AA.ofV K.L (b:Nat)=[] then some (K,0) else match movR n K (nwS b (AF.much 3 K.hS (b:Nat)) false) with | none=>none | some y=>if y.2.2≠0 then some (y.1,y.2.2) else some ({ y.1 with rp:=wrap64 (y.1.rp+1),md:=wrap64 (y.1.md+(AA.ofV K.L (b:Nat)).length) },0))=some Z):=HZ.out;clear HZ;generalize AA.ofV K.L (b:Nat)=l at *
 go_enter func110,ntmps110;go_wp2_with fail;refine hof.mono ?_;rintro e w1 ⟨⟨a,cap,rfl,O1⟩,G1⟩;have HK1:=BB (HK.out.chg0 G1);have HG1:=BB (Chg.cor0 (A:=A) G1);have hweak:=AF.eJ w1 A.h K.hR K.hN K.hS HK1.out.hea HK1.out.wf.hea (b:Nat);have hb8:AF.Io (b:Nat)=0:=by unfold AF.Io;rw[AJ (by have:=HB.out;omega)]
 rw[hb8] at hweak;obtain⟨c96,-⟩:=HK1.out.cHea;clear hof O1 G1 c2 hb8;by_cases hl:l=[]
 ·subst hl;have HZ3:Hid ((K,0)=Z):=by
   have:=HZ2.out;rw[AJ rfl] at this;exact AR this
  clear HZ2 hweak q hlen;go_wp2;go_ret;rw[<-HZ3.out];exact⟨rfl,HK1.out,HG1.out⟩
 ·have hlz:¬ ((l.length:Nat):Int)=0:=fun e=>hl (length_eq_zero_iff.1 om);have hlb:(((l.length:Nat):Int) == 0)=false:=by simpa using hl
  generalize AF.much 3 K.hS (b:Nat)=wk at *
  obtain⟨y,hy,hyz⟩:∃y,movR n K (nwS b wk false)=some y/\(if y.2.2≠0 then some (y.1,y.2.2) else some ({ y.1 with rp:=wrap64 (y.1.rp+1),md:=wrap64 (y.1.md+l.length) },0))=some Z:=by
   have:=HZ2.out;rw[AI hl] at this;cases e:movR n K (nwS b wk false) with
   | none=>rw[e] at this;cases this
   | some y=>rw[e] at this;exact⟨y,rfl,this⟩
  have GA:Chg No w1 (w1.alloc (.cells #[.int .i64 (b:Nat),.bool wk,.bool false,.bool false,.int .i64 0,.int .i64 0,.slice none 0 0] 163)):=(Chg.refl _ w1).alloc _;have hmv:=cJ A n (GF A n) _ K w1.heap.size (nwS b wk false) _ y (HK1.out.chg0 GA) (ShAt.new w1 b wk false) HB.out hy;have HG:=BB (HG1.out.trans (Chg.cor0 (A:=A) GA));have hsz1:=HG1.out.size;have HYZ:=BB hyz;clear HZ2 hl hyz hy GA hlz;generalize l.length=ln at *
  go_wp2_with (go_at_call 147;refine hweak.mono ?_;rintro e w1 ⟨rfl,rfl⟩);refine hmv.mono ?_;rintro e w6 ⟨v6,rfl,k6,s6,sm6,g6⟩;have HK6:=BB k6;have HG7:=BB (HG.out.trans' g6 (fun k hk e=>e.elim id (fun e=>om)));clear hmv s6 sm6 g6 hweak;by_cases hc:y.2.2=0
  ·replace q:∀w,(binOp .neq 33 (errV y.2.2) .nilIface).run prog w=.ok (.bool false) w:=fun w=>by rw[q,AO hc];rfl
   have HZ3:Hid (({ y.1 with rp:=wrap64 (y.1.rp+1),md:=wrap64 (y.1.md+(ln:Nat)) },0)=Z):=by
    have:=HYZ.out;rw[AI (by rw[hc];simp)] at this;exact AR this
   have w1r:IntKind.i64.wrap (y.1.rp+1)=wrap64 (y.1.rp+1):=(by rw[IntKind.wrap_i64];unfold wrap64;rfl);have w2r:IntKind.i64.wrap (y.1.md+(ln:Int))=wrap64 (y.1.md+(ln:Int)):=(by rw[IntKind.wrap_i64];unfold wrap64;rfl);obtain⟨c98,f98⟩:=k6.cRp;have k7:=k6.setRp (wrap64 (y.1.rp+1));obtain⟨c99,f99⟩:=k7.cMd;have HK8:=BB (k7.setMd (wrap64 (y.1.md+(ln:Int))));have HG8:Hid (Chg (Cor A) w ((w6.setCell ⟨A.c,98,none⟩ (.int .i64 (wrap64 (y.1.rp+1)))).setCell ⟨A.c,99,none⟩ (.int .i64 (wrap64 (y.1.md+(ln:Int)))))):=(HG7.out.setCell (AK (AK rfl)) _ _).setCell (AK (AK rfl)) _ _;clear k6 k7 hc HYZ HK6 HG7;generalize y.1.rp=r0 at *
   generalize y.1.md=d0 at *
   generalize wrap64 (r0+1)=zr at *
   generalize wrap64 (d0+(ln:Int))=zd at *
   go_wp2;go_ret;rw[<-HZ3.out];exact⟨rfl,HK8.out,HG8.out⟩
  ·replace q:∀w,(binOp .neq 33 (errV y.2.2) .nilIface).run prog w=.ok (.bool true) w:=fun w=>by rw[q,AN hc];rfl
   have HZ3:Hid ((y.1,y.2.2)=Z):=by
    have:=HYZ.out;rw[AJ hc] at this;exact AR this
   clear k6 hc HYZ;go_wp2;go_ret;rw[<-HZ3.out];exact⟨rfl,HK6.out,HG7.out⟩
end
def raK (m:Nat):Nat->BC->Option (BC × Nat)
 | 0,_=>none
 | n+1,K=>if CE K=true then some (K,14) else
  match K.qu with
  | []=>some (K,0)
  | b :: l=>match rfK m { K with qu:=l } b.toNat with
   | none=>none
   | some y=>if y.2≠0 then some y else raK m n y.1
theorem fT(A:Ad)(w:Wd)(K:BC)(h:CoreAt A w K):Calls prog 109 #[.pointer (some ⟨A.c,83,none⟩)] w fun e w'=>e=.returned (.tuple #[.int .i64 (K.qu.headD 0),.bool (AE.mc K.qu)])/\CoreAt A w' { K with qu:=K.qu.tail }/\Chg (·=A.c) w w':=by
 refine(AE.next_v w A.c 124 101 _ 83 K.qu h.core h.wf.qu).mono ?_;rintro e w' ⟨rfl,hQ,hc⟩;have ht:AE.Le K.qu.tail:=by
  have:=h.wf.qu;cases e:K.qu with
  | nil=>rw[e] at this;exact this
  | cons x l=>rw[e] at this;exact this.tail
 exact⟨rfl,h.setCore { K with qu:=K.qu.tail } ⟨rfl,rfl,rfl,rfl,rfl,rfl,rfl,rfl,rfl⟩ hQ hc (h.wf.qu' ht),hc⟩
theorem Ls(A:Ad)(w:Wd)(K:BC)(h:CoreAt A w K)(m n:Nat)(Z:BC × Nat)(hZ:raK m n K=some Z) :Calls prog 74 #[.pointer (some ⟨A.c,0,none⟩)] w fun e w'=>e=.returned (errV Z.2)/\CoreAt A w' Z.1/\Chg (Cor A) w w':=by
 have HK:=BB h;have HZ:=BB hZ;have q:=Bn;have g:=BL;clear h hZ;go_enter func74,ntmps74;go_wp2_with fail
 go_loopg [2] n (fun kx s2 wr=>∃k Ki,k<=kx/\Hid (CoreAt A wr Ki)/\Hid (Chg (Cor A) w wr)/\Hid (raK m k Ki=some Z))
 case atStart=>exact⟨n,K,AM _,HK.out,Chg.refl _ _,HZ.out⟩
 case round=>
  obtain⟨k,Ki,hk,HC,HG,HE⟩:=hrel;obtain _ | k:=k
  ·exact absurd HE.out (fun e=>by cases e)
  have hwn:=PQ A wr Ki HC.out;have HE2:Hid ((if CE Ki=true then some (Ki,14) else match Ki.qu with | []=>some (Ki,0) | b :: l=>match rfK m { Ki with qu:=l } b.toNat with | none=>none | some y=>if y.2≠0 then some y else raK m k y.1)=some Z):=HE.out;clear HE;cases h1:CE Ki
  ·rw[h1] at hwn;have hnx:=fT A wr Ki HC.out;have HE3:Hid ((match Ki.qu with | []=>some (Ki,0) | b :: l=>match rfK m { Ki with qu:=l } b.toNat with | none=>none | some y=>if y.2≠0 then some y else raK m k y.1)=some Z):=by
    have:=HE2.out;rw[AI (by rw[h1];simp)] at this;exact this
   clear HE2 h1;have hok:=HC.out.wf.qu;cases hq:Ki.qu with
   | nil=>
    rw[hq] at hnx;have HZ3:Hid ((Ki,0)=Z):=by
     have:=HE3.out;rw[hq] at this;exact AR this
    have hK0:{ Ki with qu:=([]:List Int) }=Ki:=(by rw[<-hq]);replace hnx:Calls prog 109 #[.pointer (some ⟨A.c,83,none⟩)] wr fun e w'=>e=.returned (.tuple #[.int .i64 0,.bool false])/\CoreAt A w' { Ki with qu:=[] }/\Chg (·=A.c) wr w':=hnx;rw[hK0] at hnx;clear HE3 hok hq hK0;go_wp2_with (go_at_call 79;refine hwn.mono ?_;rintro e wr ⟨rfl,rfl⟩);refine hnx.mono ?_;rintro e w2 ⟨rfl,k2,g2⟩;have HK2:=BB k2;have HG2:=BB (HG.out.trans g2.cor_c);clear hnx k2 g2 hwn;go_wp2;go_ret;rw[<-HZ3.out];exact⟨rfl,HK2.out,HG2.out⟩
   | cons b l=>
    rw[hq] at hnx hok;have hbb:=hok.2 b (by simp);obtain⟨y,hy,hyz⟩:∃y,rfK m { Ki with qu:=l } b.toNat=some y/\(if y.2≠0 then some y else raK m k y.1)=some Z:=by
     have:=HE3.out;rw[hq] at this;dsimp only at this;cases e:rfK m { Ki with qu:=l } b.toNat with
     | none=>rw[e] at this;cases this
     | some y=>rw[e] at this;exact⟨y,rfl,this⟩
    replace hnx:Calls prog 109 #[.pointer (some ⟨A.c,83,none⟩)] wr fun e w'=>e=.returned (.tuple #[.int .i64 ((b.toNat:Nat):Int),.bool true])/\CoreAt A w' { Ki with qu:=l }/\Chg (·=A.c) wr w':=by
     rw[show ((b.toNat:Nat):Int)=b by omega];exact hnx
    have HB:Hid (b.toNat<12):=(by show b.toNat<12;omega);have HYZ:=BB hyz;have HY:=BB hy;clear HE3 hok hq hbb hy hyz;generalize b.toNat=bn at *
    go_wp2_with (go_at_call 79;refine hwn.mono ?_;rintro e wr ⟨rfl,rfl⟩);refine hnx.mono ?_;rintro e w2 ⟨rfl,k2,g2⟩;have HG2:=BB (HG.out.trans g2.cor_c);have hrf:=S7 A w2 _ k2 bn HB.out m y HY.out;clear hnx k2 g2 hwn HC HG;go_wp2_with fail;refine hrf.mono ?_;rintro e w3 ⟨rfl,k3,g3⟩;have HK3:=BB k3;have HG3:=BB (HG2.out.trans g3);clear hrf k3 g3 HG2;by_cases hc:y.2=0
    ·replace q:∀w,(binOp .neq 33 (errV y.2) .nilIface).run prog w=.ok (.bool false) w:=fun w=>by rw[q,AO hc];rfl
     have HE4:Hid (raK m k y.1=some Z):=by
      have:=HYZ.out;rw[AI (by rw[hc];simp)] at this;exact this
     clear hc HYZ;go_wp2
     go_roundg k
     case measure=>omega
     case rel=>exact⟨k,y.1,AM _,HK3.out,HG3.out,HE4.out⟩
    ·replace q:∀w,(binOp .neq 33 (errV y.2) .nilIface).run prog w=.ok (.bool true) w:=fun w=>by rw[q,AN hc];rfl
     have HE4:Hid (y=Z):=by
      have:=HYZ.out;rw[AJ hc] at this;exact AR this
     clear hc HYZ;go_wp2;go_ret;rw[<-HE4.out];exact⟨rfl,HK3.out,HG3.out⟩
  ·rw[h1] at hwn;have HZ3:Hid ((Ki,14)=Z):=by
    have:=HE2.out;rw[AJ h1] at this;exact AR this
   clear HE2 h1;go_wp2_with (go_at_call 79;refine hwn.mono ?_;rintro e wr ⟨rfl,rfl⟩);go_ret;rw[<-HZ3.out];exact⟨rfl,HC.out,HG.out⟩
def V6 (V:Nat->Int):Nat->(Nat->Int)->Nat->Int
 | 0,R=>R
 | i+1,R=>CH (V6 V i R) (i:Nat) (min (V i) 65536)
theorem fU(A:Ad)(w:Wd)(K:BC)(h:CoreAt A w K)(d off cap:Nat)(V:Nat->Int)(hl:d<w.heap.size)(hV:∀i,i<12->w.cell? ⟨d,off+i,none⟩=some (.int .i64 (V i)))(nd:¬ Cor A d) :Calls prog 67 #[.pointer (some ⟨A.c,0,none⟩),.slice (some ⟨d,off,none⟩) 12 cap] w fun e w'=>e=.returned .nilIface/\CoreAt A w' { K with hR:=V6 V 12 K.hR }/\Chg (Cor A) w w':=by
 have HK:=BB h;have HV:=BB hV;have HND:=BB nd;have HL:=BB hl;clear h hV nd hl;go_enter func67,ntmps67;go_wp2_with fail
 go_loopg [13] 12 (fun kx s13 wr=>∃i:Nat,s13=.int .i64 i/\i<=12/\12 - i<=kx/\Hid (CoreAt A wr { K with hR:=V6 V i K.hR })/\Hid (Chg (Cor A) w wr))
 case atStart=>exact⟨0,rfl,om,om,HK.out,Chg.refl _ _⟩
 case round=>
  obtain⟨i,rfl,hi,hkx,HC,HG⟩:=hrel;by_cases hlt:i<12
  ·have hltz:(i:Int)<12:=om;have ci:=(HG.out.cell HL.out HND.out (off+i)).trans (HV.out i hlt);have hct:=Iu A wr _ HC.out i hlt (min (V i) 65536) om;have HEQ:Hid (V6 V (i+1) K.hR=CH (V6 V i K.hR) (i:Nat) (min (V i) 65536)):=rfl;generalize V i=vi at *
   have hm:(vi<65536/\vi<=65536/\min vi 65536=vi)\/(vi=65536/\65536<=vi/\min vi 65536=65536)\/(65536<vi/\¬ vi<=65536/\min vi 65536=65536):=om;rcases hm with ⟨hv,hv2,hm⟩ | ⟨rfl,hv2,hm⟩ | ⟨hv,hv2,hm⟩
   all_goals
    rw[hm] at hct HEQ;clear hm;go_wp2_with fail;refine hct.mono ?_;rintro e w1 ⟨rfl,k1,g1⟩;have HK1:Hid (CoreAt A w1 { K with hR:=V6 V (i+1) K.hR }):=by
     show CoreAt A w1 { K with hR:=V6 V (i+1) K.hR };rw[HEQ.out];exact k1
    have HG1:=BB (HG.out.trans g1);clear hct k1 g1 ci HC HG HEQ;go_wp2
    go_roundg (12 - (i+1))
    case measure=>omega
    case rel=>exact⟨i+1,by simp,om,AM _,HK1.out,HG1.out⟩
  ·have hltz:¬ (i:Int)<12:=om;have e:i=12:=om;subst e;go_wp2;go_ret;exact⟨rfl,HC.out,HG.out⟩
theorem kQ(V:Nat->Int)(hV:∀i,i<12->V i=8):V6 V 12 (fun _=>0)=fun b=>if b<12 then 8 else 0:=by
 have h:∀n,n<=12->V6 V n (fun _=>0)=fun b=>if b<n then 8 else 0:=by
  intro n
  induction n with
  | zero=>intro _;rfl
  | succ n ih=>
   intro hn;show CH (V6 V n fun _=>0) (n:Nat) (min (V n) 65536)=_;rw[ih om,hV n om];funext b;unfold CH;rw[AJ om,AP];unfold upd;by_cases e:b=n
   ·subst e;rw[AJ rfl,AJ om];show min ((if b<b then (8:Int) else 0)+max (min 8 65536) 0) 65535=8;rw[AI om];decide
   ·rw[AI e];show (if b<n then (8:Int) else 0)=if b<n+1 then 8 else 0;by_cases h:b<n
    ·rw[AJ h,AJ om]
    ·rw[AI h,AI om]
 exact h 12 (AM _)
def tdI (c:Nat):Nat->Nat->BC->BC × Nat
 | 0,_,K=>(K,0)
 | n+1,i,K=>if (inK K ((c+i) % 96)).2.2≠0 then ((inK K ((c+i) % 96)).1,(inK K ((c+i) % 96)).2.2) else tdI c n (i+1) (inK K ((c+i) % 96)).1
def OG (n m:Nat) (X:BC × Nat):Option (BC × Nat):=
 if X.2≠0 then some X else
 match raK n m (awK X.1) with
 | none=>none
 | some y=>if y.2≠0 then some (y.1,Kr y.2) else
  if 8<=y.1.ca\/AF.Sc y.1.hR y.1.hN=true then (anR n noH y.1 24).map fun z=>(z.1,Kr z.2) else some (y.1,0)
def tdK (n m:Nat) (K:BC):Option (BC × Nat):=OG n m (tdI K.cu 8 0 { K with cu:=(K.cu+8) % 96,ca:=K.ca+1 })
theorem Wf.pat'{K:BC}(h:Wf K){x:Nat}(hx:x<96)(y:Nat):Wf { K with cu:=x,ca:=y }:=
 ⟨h.chip,h.rr,h.frm,h.map,h.vs,h.vp,h.vc,h.fl,h.nx,h.fr,hx,h.qu,h.hea,h.tl⟩
theorem fV(A:Ad)(w:Wd)(K:BC)(h:CoreAt A w K)(hk:K.ca<9223372036854775807):Calls prog 72 #[.pointer (some ⟨A.pa,0,none⟩)] w fun e w'=>e=.returned (.slice (some ⟨w.heap.size,0,none⟩) 8 8)/\IB w' w.heap.size 3 8 (AE.eB K.cu)/\CoreAt A w' { K with cu:=(K.cu+8) % 96,ca:=K.ca+1 }/\Chg (·=A.pa) w w':=by
 refine(AE.eC w A.pa K.cu K.ca h.pat h.wf.cu hk _ rfl).mono ?_;rintro e w' ⟨rfl,hI,hP,hc⟩;exact⟨rfl,hI,h.setPat hP hc (h.wf.pat' om _),hc⟩
theorem fW(A:Ad)(w:Wd)(K:BC)(h:CoreAt A w K)(hca:K.ca<9223372036854775807)(n m:Nat)(Z:BC × Nat)(hZ:tdK n m K=some Z) :Calls prog 47 #[.pointer (some ⟨A.c,0,none⟩)] w fun e w'=>e=.returned (errV Z.2)/\CoreAt A w' Z.1/\Chg (Cor A) w w':=by
 obtain⟨c82,-⟩:=h.cPat;have hst:=fV A w K h hca;have HK:=BB h;have q:=Bn;have g:=BL;have HN:Hid (¬ Cor A w.heap.size):=h.apart (AM _);have HZ:Hid (OG n m (tdI K.cu 8 0 { K with cu:=(K.cu+8) % 96,ca:=K.ca+1 })=some Z):=hZ;have HLOW:=BB h.low;clear h hca hZ;go_enter func47,ntmps47;go_wp2_with fail;refine hst.mono ?_;rintro e w1 ⟨rfl,I1,k1,g1⟩;have HI:=BB I1;have HK1:=BB k1;have HG1:=BB g1.cor_pa;have hs1:w.heap.size<w1.heap.size:=I1.lt;clear hst c82 I1 k1 g1;go_wp2_with fail
 go_loopg [14] 8 (fun kx s14 wr=>∃(i:Nat) (Ki:BC),s14=.int .i64 i/\i<=8/\8 - i<=kx/\Hid (CoreAt A wr Ki)/\Hid (Chg (Cor A) w wr)/\Hid (IB wr w.heap.size 3 8 (AE.eB K.cu))/\Hid (OG n m (tdI K.cu (8 - i) i Ki)=some Z))
 case atStart=>exact⟨0,_,rfl,om,om,HK1.out,HG1.out,HI.out,HZ.out⟩
 case round=>
  obtain⟨i,Ki,rfl,hi,hkx,HC,HG,HJ,HE⟩:=hrel;by_cases hlt:i<8
  ·have hltz:(i:Int)<8:=om;obtain⟨ci,-⟩:=HJ.out.cell i hlt;replace ci:wr.cell? ⟨w.heap.size,i,none⟩=some (.int .i64 (((K.cu+i) % 96:Nat):Int)):=ci;obtain⟨j,hj⟩:∃j,8 - i=j+1:=⟨7 - i,om⟩;have hj2:8 - (i+1)=j:=om;have HE2:Hid (OG n m (if (inK Ki ((K.cu+i) % 96)).2.2≠0 then ((inK Ki ((K.cu+i) % 96)).1,(inK Ki ((K.cu+i) % 96)).2.2) else tdI K.cu j (i+1) (inK Ki ((K.cu+i) % 96)).1)=some Z):=by
    have:=HE.out;rw[hj,tdI] at this;exact this
   have hin:=Kq A wr Ki HC.out ((K.cu+i) % 96) om;have HJ2:=BB hj2;clear hj hj2 HE;generalize inK Ki ((K.cu+i) % 96)=X at *
   generalize (K.cu+i) % 96=p at *
   go_wp2_with fail;refine hin.mono ?_;rintro e w2 ⟨v,rfl,O2,k2,g2⟩;have HK2:=BB k2;have HG2:=BB (HG.out.trans g2);have HI2:=BB (HJ.out.chg g2 HN.out);have HO2:=BB O2;have HPN:=BB (Pb.new w2 false 0 0 0 0 false false (.slice none 0 0) 0);have HGN:Hid (Chg No w2 (w2.alloc (.cells #[.bool false,.int .i64 0,.int .i64 0,.int .i64 0,.int .i64 0,.bool false,.bool false,.slice none 0 0,.int .i64 0] 129))):=(Chg.refl _ w2).alloc _;have hz2:w.heap.size<w2.heap.size:=HI2.out.lt;clear hin O2 k2 g2 HC HG HJ ci;unfold SE;go_wp2_with (first | refine wpList_store_pg rfl (.tmp 5) (.tmp 22) rfl w2.heap.size rfl rfl HO2.out.one HPN.out ?_);intro w3 P3 G3;have HK3:=BB ((HK2.out.chg0 HGN.out).far HLOW.out om G3);have HG3:=BB ((HG2.out.trans HGN.out.cor0).trans' G3 (fun k hk e=>om));have HI3:=BB ((HI2.out.chg HGN.out (fun f=>f)).chg G3 om);clear P3 G3 HK2 HG2 HI2 HO2 HPN HGN;by_cases hc:X.2.2=0
   ·replace q:∀w,(binOp .neq 33 (errV X.2.2) .nilIface).run prog w=.ok (.bool false) w:=fun w=>by rw[q,AO hc];rfl
    have HE3:Hid (OG n m (tdI K.cu j (i+1) X.1)=some Z):=by
     have:=HE2.out;rw[AI (by rw[hc];simp)] at this;exact this
    clear hc HE2;go_wp2
    go_roundg (8 - (i+1))
    case measure=>omega
    case rel=>exact⟨i+1,X.1,by simp,om,AM _,HK3.out,HG3.out,HI3.out,by rw[HJ2.out];exact HE3.out⟩
   ·replace q:∀w,(binOp .neq 33 (errV X.2.2) .nilIface).run prog w=.ok (.bool true) w:=fun w=>by rw[q,AN hc];rfl
    have HE3:Hid ((X.1,X.2.2)=Z):=by
     have:=HE2.out;rw[AJ hc] at this;unfold OG at this;rw[AJ hc] at this;exact AR this
    clear hc HE2;go_wp2;go_ret;rw[<-HE3.out];exact⟨rfl,HK3.out,HG3.out⟩
  ·have hltz:¬ (i:Int)<8:=om;have e:i=8:=om;subst e;obtain⟨y,hy,hyz⟩:∃y,raK n m (awK Ki)=some y/\(if y.2≠0 then some (y.1,Kr y.2) else if 8<=y.1.ca\/AF.Sc y.1.hR y.1.hN=true then (anR n noH y.1 24).map fun z=>(z.1,Kr z.2) else some (y.1,0))=some Z:=by
    have:OG n m (Ki,0)=some Z:=HE.out;unfold OG at this;rw[AI (by simp)] at this;cases e:raK n m (awK Ki) with
    | none=>rw[e] at this;cases this
    | some y=>rw[e] at this;exact⟨y,rfl,this⟩
   have haw:=aF A wr Ki HC.out;have HY:=BB hy;have HYZ:=BB hyz;clear HE hy hyz HJ;go_wp2_with fail;refine haw.mono ?_;rintro e w2 ⟨rfl,k2,g2⟩;have HG2:=BB (HG.out.trans g2);have hra:=Ls A w2 _ k2 n m y HY.out;clear haw k2 g2 HC HG;go_wp2_with fail;refine hra.mono ?_;rintro e w3 ⟨rfl,k3,g3⟩;have HK3:=BB k3;have HG3:=BB (HG2.out.trans g3);clear hra k3 g3 HG2;by_cases hc:y.2=0
   ·replace q:∀w,(binOp .neq 33 (errV y.2) .nilIface).run prog w=.ok (.bool false) w:=fun w=>by rw[q,AO hc];rfl
    have HE3:Hid ((if 8<=y.1.ca\/AF.Sc y.1.hR y.1.hN=true then (anR n noH y.1 24).map fun z=>(z.1,Kr z.2) else some (y.1,0))=some Z):=by
     have:=HYZ.out;rw[AI (by rw[hc];simp)] at this;exact this
    obtain⟨d82,-⟩:=HK3.out.cPat;obtain⟨d96,-⟩:=HK3.out.cHea;have hdu:=AE.Zo w3 A.pa y.1.cu y.1.ca HK3.out.pat;have hdh:=AF.jx w3 A.h y.1.hR y.1.hN y.1.hS HK3.out.hea HK3.out.wf.hea;clear hc HYZ;by_cases h8:8<=y.1.ca
    ·rw[AO (show ((y.1.ca:Nat):Int) ≥ 8 by omega)] at hdu;obtain⟨z,hz,hzz⟩:∃z,anR n noH y.1 24=some z/\Z=(z.1,Kr z.2):=by
      have:=HE3.out;rw[AJ (AK h8)] at this;cases e:anR n noH y.1 24 with
      | none=>rw[e] at this;cases this
      | some z=>rw[e] at this;exact⟨z,rfl,(AR this).symm⟩
     have hnt:=Lr A n (GF A n) w3 y.1 HK3.out z hz;have HZZ:=BB hzz;clear HE3 hz hzz hdh h8;go_wp2_with (go_at_call 76;refine hdu.mono ?_;rintro e w3 ⟨rfl,rfl⟩);refine hnt.mono ?_;rintro e w4 ⟨rfl,k4,g4⟩;have HK4:=BB k4;have HG4:=BB (HG3.out.trans g4);have hun:=FG z.2 w4;clear hnt k4 g4 hdu d82 d96;go_wp2_with (go_at_call 75;refine hun.mono ?_;rintro e w4 ⟨rfl,rfl⟩);go_ret;rw[HZZ.out];exact⟨rfl,HK4.out,HG4.out⟩
    ·rw[AN (show ¬ ((y.1.ca:Nat):Int) ≥ 8 by omega)] at hdu;cases hb:AF.Sc y.1.hR y.1.hN
     ·rw[hb] at hdh;have HE4:Hid ((y.1,0)=Z):=by
       have:=HE3.out;rw[AI (fun e=>e.elim h8 (fun e=>by rw[hb] at e;cases e))] at this;exact AR this
      clear HE3 hb h8;go_wp2_with (go_at_call 76;refine hdu.mono ?_;rintro e w3 ⟨rfl,rfl⟩);refine hdh.mono ?_;rintro e w4 ⟨rfl,mm,rfl⟩;have HK4:=BB (HK3.out.drewN mm);have HG4:=BB (HG3.out.drewN mm);clear hdh hdu d82 d96;go_wp2;go_ret;rw[<-HE4.out];exact⟨rfl,HK4.out,HG4.out⟩
     ·rw[hb] at hdh;obtain⟨z,hz,hzz⟩:∃z,anR n noH y.1 24=some z/\Z=(z.1,Kr z.2):=by
       have:=HE3.out;rw[AJ (AL hb)] at this;cases e:anR n noH y.1 24 with
       | none=>rw[e] at this;cases this
       | some z=>rw[e] at this;exact⟨z,rfl,(AR this).symm⟩
      have HZZ:=BB hzz;have HZ4:=BB hz;clear HE3 hz hzz hb h8;go_wp2_with (go_at_call 76;refine hdu.mono ?_;rintro e w3 ⟨rfl,rfl⟩);refine hdh.mono ?_;rintro e w4 ⟨rfl,mm,rfl⟩;have HK4:=BB (HK3.out.drewN mm);have HG4:=BB (HG3.out.drewN mm);generalize w3.drewN mm=w4 at *
      have hnt:=Lr A n (GF A n) w4 y.1 HK4.out z HZ4.out;clear hdh hdu d82 d96 HK3 HG3;go_wp2_with fail;refine hnt.mono ?_;rintro e w5 ⟨rfl,k5,g5⟩;have HK5:=BB k5;have HG5:=BB (HG4.out.trans g5);have hun:=FG z.2 w5;clear hnt k5 g5;go_wp2_with (go_at_call 75;refine hun.mono ?_;rintro e w5 ⟨rfl,rfl⟩);go_ret;rw[HZZ.out];exact⟨rfl,HK5.out,HG5.out⟩
   ·replace q:∀w,(binOp .neq 33 (errV y.2) .nilIface).run prog w=.ok (.bool true) w:=fun w=>by rw[q,AN hc];rfl
    have HE3:Hid ((y.1,Kr y.2)=Z):=by
     have:=HYZ.out;rw[AJ hc] at this;exact AR this
    have hun:=FG y.2 w3;clear hc HYZ;go_wp2_with (go_at_call 75;refine hun.mono ?_;rintro e w3 ⟨rfl,rfl⟩);go_ret;rw[<-HE3.out];exact⟨rfl,HK3.out,HG3.out⟩
section
variable {te:FF}{mo:Ek}{n:Nat}{Z:BC × Nat}(K:BC)
theorem Hx(p:Nat):(rdK K p).1.ca=K.ca:=by
 unfold rdK;dsimp only;split <;> rfl
theorem V7(t:Bu)(D:List Nat):(prK K t D).1.ca=K.ca:=by
 unfold prK;dsimp only
theorem V8(t:Bu)(D:List Nat):(prM K t D).1.ca=K.ca:=by
 unfold prM;split
 ·rfl
 ·exact V7 K t D
theorem fX(b:Nat):(erK K b).1.ca=K.ca:=by
 unfold erK;dsimp only;split <;> rfl
theorem FH:(clK K).ca=K.ca:=by
 unfold clK;split <;> rfl
theorem Lt(b:Int):(lvK K b).ca=K.ca:=by
 unfold lvK;split
 ·exact FH K
 ·rfl
theorem PW(b s:Int):(stK K b s).ca=K.ca:=by
 unfold stK;dsimp only
theorem V9(b:Int):(spK K b).ca=K.ca:=by
 unfold spK;dsimp only;rw[PW,Lt]
theorem Lu:(opK K).1.ca=K.ca:=by
 unfold opK;split <;> rfl
theorem Iv(t:Bu):(layK K t).1.ca=K.ca:=by
 unfold layK;dsimp only
theorem fe:(sqK K).ca=K.ca:=by
 unfold sqK;dsimp only
theorem PX(H:Dp)(K:BC)(p o:Nat):(frK H K p o).1.ca<=K.ca:=by
 unfold frK;by_cases hs:K.sp=true
 ·rw[AJ hs];exact AM _
 ·rw[AI hs];dsimp only;have h1:(prK (sqK K) ⟨p,o,K.nx,0,false⟩ (H (sqK K) K.nx)).1.ca=K.ca:=(V7 _ _ _).trans (fe K);generalize prK (sqK K) ⟨p,o,K.nx,0,false⟩ (H (sqK K) K.nx)=x at *
  by_cases c:x.2≠0
  ·rw[AJ c];exact Ak h1
  ·rw[AI c];by_cases d:o=24
   ·rw[AJ d];exact Ac _
   ·rw[AI d];exact Ak h1
theorem aG(H:Dp)(K:BC)(p:Nat):(frK H K p 24).2.2=0->(frK H K p 24).1.ca=0:=by
 unfold frK;by_cases hs:K.sp=true
 ·rw[AJ hs];intro e;exact absurd e (show ¬ (14:Nat)=0 by decide)
 ·rw[AI hs];dsimp only;generalize prK (sqK K) ⟨p,24,K.nx,0,false⟩ (H (sqK K) K.nx)=x;by_cases c:x.2≠0
  ·rw[AJ c];intro e;exact absurd e c
  ·rw[AI c,AJ rfl];intro _;rfl
theorem Hy(S:BW)(o:Nat):(tiK K S o).1.ca=K.ca:=by
 unfold tiK;split
 ·rfl
 ·split <;> rfl
theorem Lv(o:Nat):(coK K o).1.ca=K.ca:=by
 unfold coK;split
 ·rfl
 ·dsimp only;split
  ·exact Hx _ _
  ·split
   ·exact Hx _ _
   ·split <;> exact Hx _ _
theorem fg(bd:Bool):∀(l:List Nat) (K:BC) (S:BW),(cpK bd l K S).1.ca=K.ca:=by
 intro l
 induction l with
 | nil=>intro K S;rfl
 | cons o l ih=>
  intro K S;unfold cpK;split
  ·exact ih K S
  ·dsimp only;split
   ·exact Lv K o
   ·split
    ·exact(Hy _ _ _).trans (Lv K o)
    ·split
     ·exact(V8 _ _ _).trans ((Hy _ _ _).trans (Lv K o))
     ·exact(ih _ _).trans ((V8 _ _ _).trans ((Hy _ _ _).trans (Lv K o)))
theorem WB:∀(l:List Bu) (K:BC),(cmL l K).1.ca=K.ca:=by
 intro l
 induction l with
 | nil=>intro K;rfl
 | cons t l ih=>
  intro K;unfold cmL;split
  ·exact Iv _ _
  ·exact(ih _).trans (Iv _ _)
theorem WC(S:BW)(st:Int):(cmK K S st).1.ca=K.ca:=by
 unfold cmK;dsimp only;by_cases c:(cmL S.ld K).2≠0
 ·rw[AJ c];exact WB _ _
 ·rw[AI c];have h1:(stK (lvK (cmL S.ld K).1 S.fm) S.fm st).ca=K.ca:=by rw[PW,Lt,WB]
  generalize stK (lvK (cmL S.ld K).1 S.fm) S.fm st=K1 at *
  by_cases d:S.tt.o=true
  ·rw[AJ d];dsimp only;rw[PW];exact(FH K1).trans h1
  ·rw[AI d];exact h1
theorem WD(S:BW):(cbK K S).1.ca<=K.ca:=by
 unfold cbK;dsimp only;split
 ·exact Ak (Hy _ _ _)
 ·split
  ·exact AY (PX _ _ _ _) (Ak (Hy _ _ _))
  ·exact AY (Ak (WC _ _ _)) (AY (PX _ _ _ _) (Ak (Hy _ _ _)))
theorem WE(S:BW):(tyK K S).1.ca<=K.ca:=by
 unfold tyK;dsimp only;have hx:=fg (S.fd || (S.rt && bearK K)) ((AA.ofL K.L S.fm).map Int.toNat) K { S with tt:=noF,ld:=[] };generalize cpK (S.fd || (S.rt && bearK K)) ((AA.ofL K.L S.fm).map Int.toNat) K { S with tt:=noF,ld:=[] }=x at *
 have he:=(fX x.1 S.fm).trans hx;have hb:=WD x.1 x.2.1;generalize erK x.1 S.fm=y at *
 have hc:=(WC y.1 x.2.1 0).trans he;have hl:=(Lt y.1 S.fm).trans he;generalize cmK y.1 x.2.1 0=c at *
 generalize lvK y.1 S.fm=u at *
 have hd:=WD u { x.2.1 with fd:=true };generalize cbK u { x.2.1 with fd:=true }=v at *
 generalize cbK x.1 x.2.1=v2 at *
 split
 ·exact AM _
 ·split
  ·exact Ak hx
  ·split
   ·exact AY hb (Ak hx)
   ·split
    ·exact Ak hc
    ·split
     ·exact Ak he
     ·split
      ·exact Ak hl
      ·exact AY hd (Ak hl)
def aH (te:FF):Prop:=∀K Z,te K=some Z->Z.1.ca<=K.ca
def MovL (mo:Ek):Prop:=∀K S Z,mo K S=some Z->Z.1.ca<=K.ca
theorem WF{an:FF}(h:aH an):aH (IN an):=by
 intro K Z e;unfold IN at e;split at e
 ·cases e;exact AM _
 ·split at e
  ·exact h _ _ e
  ·split at e
   ·cases e
    exact Ak ((Lu _).trans (FH _))
   ·exact AY (h _ _ e) (Ak ((Lu _).trans (FH _)))
theorem fh(h:aH te):∀n,MovL (trK te n):=by
 intro n
 induction n with
 | zero=>intro K S Z e;cases e
 | succ n ih=>
  intro K S Z e;unfold trK at e;split at e
  ·cases e;exact AM _
  ·dsimp only at e;split at e
   ·cases e;exact WE _ _
   ·cases hy:te (spK (tyK K S).1 (AC.blV (tyK K S).2.1.tt)) with
    | none=>rw[hy] at e;cases e
    | some y=>
     rw[hy] at e;dsimp only at e;have h1:=AY (h _ _ hy) (AY (Ak (V9 _ _)) (WE K S));split at e
     ·cases e;exact h1
     ·exact AY (ih _ _ _ e) h1
theorem WG(h:aH te)(n:Nat):MovL (moK te n):=by
 intro K S Z e;unfold moK at e;cases hy:trK te n (if S.fd then lvK K S.fm else K) S with
 | none=>rw[hy] at e;cases e
 | some x=>
  rw[hy] at e;dsimp only at e;have h1:x.1.ca<=K.ca:=AY (fh h n _ _ _ hy) (by
   split
   ·
    exact Ak (Lt _ _)
   ·
    exact AM _)
  split at e
  ·cases e
   exact AY (Ak (V9 _ _)) h1
  ·cases e;exact h1
theorem fj(h:MovL mo):∀n K o Z,mrK mo n K o=some Z->Z.1.ca<=K.ca:=by
 intro n
 induction n with
 | zero=>intro K o Z e;cases e
 | succ n ih=>
  intro K o Z e;unfold mrK at e;split at e
  ·cases e;exact AM _
  ·dsimp only at e;split at e
   ·split at e
    ·cases e
     exact Ak ((Lu _).trans (FH _))
    ·exact AY (ih _ _ _ e) (Ak ((Lu _).trans (FH _)))
   ·split at e
    ·cases e
     exact Ak (FH _)
    ·cases hy:mo (clK K) (nwS (AG.chV 12 12 (clK K).F (lvF (clK K))) false false) with
     | none=>rw[hy] at e;cases e
     | some y=>
      rw[hy] at e;dsimp only at e;have h1:=AY (h _ _ _ hy) (Ak (FH _));split at e
      ·cases e;exact h1
      ·exact AY (ih _ _ _ e) h1
theorem fp{mr:BC->Nat->Option (BC × Nat)}(hr:∀K o Z,mr K o=some Z->Z.1.ca<=K.ca)(h:MovL mo)(H:Dp):∀n K o Z,anK mr mo H n K o=some Z->Z.1.ca<=K.ca/\(o=24->Z.2=0->Z.1.ca=0):=by
 intro n
 induction n with
 | zero=>intro K o Z e;cases e
 | succ n ih=>
  intro K o Z e;unfold anK at e;split at e
  ·cases e;exact⟨AM _,fun _ e=>absurd e (show ¬ (14:Nat)=0 by decide)⟩
  ·cases hx:mr K o with
   | none=>rw[hx] at e;cases e
   | some x=>
    rw[hx] at e;dsimp only at e;have h1:=hr _ _ _ hx;split at e
    ·rename_i c;cases e;exact⟨h1,fun _ e=>absurd e c⟩
    ·split at e
     ·rename_i c;cases e;exact⟨h1,fun _ e=>absurd e c⟩
     ·have h2:=PX H { x.1 with fr:=AC.tkS x.1.fr o } (AC.nxV x.1.fr o).toNat o;have h0:o=24->(frK H { x.1 with fr:=AC.tkS x.1.fr o } (AC.nxV x.1.fr o).toNat o).2.2=0->(frK H { x.1 with fr:=AC.tkS x.1.fr o } (AC.nxV x.1.fr o).toNat o).1.ca=0:=by
       rintro rfl;exact aG _ _ _
      generalize frK H { x.1 with fr:=AC.tkS x.1.fr o } (AC.nxV x.1.fr o).toNat o=f at *
      have h3:f.1.ca<=K.ca:=AY h2 h1;split at e
      ·rename_i c;cases e
       exact⟨AY (Ak (Iv _ _)) h3,fun eo _=>(Iv _ _).trans (h0 eo c)⟩
      ·split at e
       ·rename_i c _;cases e;exact⟨h3,fun _ e=>absurd e c⟩
       ·cases hy:mo f.1 (nwS (AC.blV f.1.fr).toNat false true) with
        | none=>rw[hy] at e;cases e
        | some y=>
         rw[hy] at e;dsimp only at e;have h4:=AY (h _ _ _ hy) h3;split at e
         ·rename_i c;cases e;exact⟨h4,fun _ e=>absurd e c⟩
         ·obtain⟨i1,i2⟩:=ih _ _ _ e;exact⟨AY i1 h4,i2⟩
theorem Lx:∀n H K o Z,anR n H K o=some Z->Z.1.ca<=K.ca/\(o=24->Z.2=0->Z.1.ca=0):=by
 intro n
 induction n with
 | zero=>intro H K o Z e;cases e
 | succ n ih=>
  intro H K o Z e;have hm:MovL (moK (IN fun K=>anR n noH K 24) (n+1)):=WG (WF fun _ _ e=>(ih _ _ _ _ e).1) _;exact fp (mr:=mrK (moK (IN fun K=>anR n noH K 24) (n+1)) (n+1)) (fun K o Z e=>fj hm _ _ _ _ e) hm H (n+1) K o Z e
theorem aI(n:Nat):MovL (movR n):=WG (WF fun _ _ e=>(Lx n _ _ _ _ e).1) _
theorem WH(p:Nat):(inK K p).1.ca=K.ca:=by
 unfold inK;dsimp only;split
 ·exact Hx K p
 ·split
  ·exact Hx K p
  ·split <;> exact Hx K p
theorem fq(c:Nat):∀(n i:Nat) (K:BC),(tdI c n i K).1.ca=K.ca:=by
 intro n
 induction n with
 | zero=>intro i K;rfl
 | succ n ih=>
  intro i K;rw[tdI];split
  ·exact WH _ _
  ·exact(ih _ _).trans (WH _ _)
theorem fs{K:BC}{b:Nat}(e:rfK n K b=some Z):Z.1.ca<=K.ca:=by
 unfold rfK at e;split at e
 ·cases e;exact AM _
 ·cases hy:movR n K (nwS b (AF.much 3 K.hS (b:Nat)) false) with
  | none=>rw[hy] at e;cases e
  | some y=>
   rw[hy] at e;dsimp only at e;have h1:=aI n _ _ _ hy;split at e
   ·cases e;exact h1
   ·cases e;exact h1
theorem ft(m:Nat):∀(n:Nat) (K:BC) (Z:BC × Nat),raK m n K=some Z->Z.1.ca<=K.ca:=by
 intro n
 induction n with
 | zero=>intro K Z e;cases e
 | succ n ih=>
  intro K Z e;rw[raK] at e;split at e
  ·cases e;exact AM _
  ·split at e
   ·cases e;exact AM _
   ·rename_i b r _;cases hy:rfK m { K with qu:=r } b.toNat with
    | none=>rw[hy] at e;cases e
    | some y=>
     rw[hy] at e;dsimp only at e;have h1:=fs hy;dsimp only at h1;split at e
     ·cases e;exact h1
     ·exact AY (ih _ _ e) h1
theorem fu{m:Nat}{K:BC}(e:tdK n m K=some Z):Z.1.ca<=K.ca+1:=by
 unfold tdK at e;have h0:=fq K.cu 8 0 { K with cu:=(K.cu+8) % 96,ca:=K.ca+1 };generalize tdI K.cu 8 0 { K with cu:=(K.cu+8) % 96,ca:=K.ca+1 }=X at *
 unfold OG at e;split at e
 ·cases e;exact Ak h0
 ·cases hy:raK n m (awK X.1) with
  | none=>rw[hy] at e;cases e
  | some y=>
   rw[hy] at e;dsimp only at e;have h1:y.1.ca<=K.ca+1:=AY (ft _ _ _ _ hy) (Ak h0);split at e
   ·cases e;exact h1
   ·split at e
    ·cases hz:anR n noH y.1 24 with
     | none=>rw[hz] at e;cases e
     | some z=>
      rw[hz] at e;cases e
      exact AY (Lx _ _ _ _ _ hz).1 h1
    ·cases e;exact h1
end
section
variable {s:BG}{te:FF}{mo:Ek}{n:Nat}{Z:BC × Nat}(K:BC)
def Pw (s:BG):Prop:=s.on=true/\s.lim=false
theorem WI(h:Pw s)(a k:Int)(l:List Nat):Pw (writeR s a k l).1:=by
 unfold writeR;split
 ·exact h
 ·rw[AI (by rw[h.1];decide)];split
  ·exact h
  ·rw[AI (by rw[h.2];simp)];split <;> exact h
theorem WJ(h:Pw s)(b:Int):Pw (eraseR s b).1:=by
 unfold eraseR;split
 ·exact h
 ·rw[AI (by rw[h.1];decide),AI (by rw[h.2];simp)];split <;> exact h
theorem fw(h:Pw s)(a:Int)(W:Nat->List Nat):∀n,Pw (wrN s a W n).1:=by
 intro n
 induction n with
 | zero=>exact h
 | succ n ih=>
  rw[wrN];split
  ·exact WI ih _ _ _
  ·exact ih
theorem WK(h:Pw s)(a:Int):Pw (readV s a).1:=by
 unfold readV;split
 ·exact h
 ·split <;> exact h
theorem WL(tl:List Nat->Int->Pg)(h:Pw s)(r a:Int):Pw (rdF tl s r a).1:=by
 have:=WK h a;unfold rdF;split <;> exact this
theorem fy(tl:List Nat->Int->Pg)(h:Pw s)(r:Int)(t:Bu)(D:List Nat):Pw (prF tl s r t D).1:=by
 unfold prF;have h1:=fw h t.p (wordOf D (body t.p t.o t.q t.c t.l)) 4;generalize wrN s t.p (wordOf D (body t.p t.o t.q t.c t.l)) 4=X at *
 dsimp only;have h2:=WL tl h1 r t.p;generalize rdF tl X.1 r t.p=Y at *
 split
 ·exact h1
 ·split <;> exact h2
theorem WM(p:Nat)(h:Pw K.s):Pw (rdK K p).1.s:=by
 have:=WL K.tl h K.r p;unfold rdK;dsimp only;generalize rdF K.tl K.s K.r p=X at *
 split <;> exact this
theorem WN(t:Bu)(D:List Nat)(h:Pw K.s):Pw (prK K t D).1.s:=by
 have:=fy K.tl h K.r t D;unfold prK;dsimp only;exact this
theorem gA(t:Bu)(D:List Nat)(h:Pw K.s):Pw (prM K t D).1.s:=by
 unfold prM;split
 ·exact h
 ·exact WN K t D h
theorem gB(b:Nat)(h:Pw K.s):Pw (erK K b).1.s:=by
 have:=WJ h b;unfold erK;dsimp only;generalize eraseR K.s b=X at *
 split <;> exact this
theorem IQ:(clK K).s=K.s:=by
 unfold clK;split <;> rfl
theorem IS(b:Int):(lvK K b).s=K.s:=by
 unfold lvK;split
 ·exact IQ K
 ·rfl
theorem WO(b s:Int):(stK K b s).s=K.s:=by
 unfold stK;dsimp only
theorem Ks(b:Int):(spK K b).s=K.s:=by
 unfold spK;dsimp only;rw[WO,IS]
theorem Kt:(opK K).1.s=K.s:=by
 unfold opK;split <;> rfl
theorem Jq(t:Bu):(layK K t).1.s=K.s:=by
 unfold layK;dsimp only
theorem WP:(sqK K).s=K.s:=by
 unfold sqK;dsimp only
theorem WQ(H:Dp)(K:BC)(p o:Nat)(h:Pw K.s):Pw (frK H K p o).1.s:=by
 unfold frK;by_cases hs:K.sp=true
 ·rw[AJ hs];exact h
 ·rw[AI hs];dsimp only;have h1:=WN (sqK K) ⟨p,o,K.nx,0,false⟩ (H (sqK K) K.nx) (by rw[WP];exact h);generalize prK (sqK K) ⟨p,o,K.nx,0,false⟩ (H (sqK K) K.nx)=x at *
  by_cases c:x.2≠0
  ·rw[AJ c];exact h1
  ·rw[AI c];by_cases d:o=24
   ·rw[AJ d];exact h1
   ·rw[AI d];exact h1
theorem Ku(S:BW)(o:Nat):(tiK K S o).1.s=K.s:=by
 unfold tiK;split
 ·rfl
 ·split <;> rfl
theorem gC(o:Nat)(h:Pw K.s):Pw (coK K o).1.s:=by
 have h1:=WM K (K.L o).toNat h;unfold coK;split
 ·exact h
 ·dsimp only;generalize rdK K (K.L o).toNat=X at *
  split
  ·exact h1
  ·split
   ·exact h1
   ·split <;> exact h1
theorem gD(bd:Bool):∀(l:List Nat) (K:BC) (S:BW),Pw K.s->Pw (cpK bd l K S).1.s:=by
 intro l
 induction l with
 | nil=>intro K S h;exact h
 | cons o l ih=>
  intro K S h;unfold cpK;split
  ·exact ih K S h
  ·dsimp only;have h1:=gC K o h;generalize coK K o=c at *
   have h2:Pw (tiK c.1 S o).1.s:=(by rw[Ku];exact h1);generalize tiK c.1 S o=t at *
   have h3:=gA t.1 ⟨t.2.2.1,o,t.1.vs o,(t.1.vc o+1) % 256,c.2.2.1⟩ c.2.1 h2;generalize prM t.1 ⟨t.2.2.1,o,t.1.vs o,(t.1.vc o+1) % 256,c.2.2.1⟩ c.2.1=p at *
   split
   ·exact h1
   ·split
    ·exact h2
    ·split
     ·exact h3
     ·exact ih _ _ h3
theorem cK:∀(l:List Bu) (K:BC),(cmL l K).1.s=K.s:=by
 intro l
 induction l with
 | nil=>intro K;rfl
 | cons t l ih=>
  intro K;unfold cmL;split
  ·exact Jq _ _
  ·exact(ih _).trans (Jq _ _)
theorem IT(S:BW)(st:Int):(cmK K S st).1.s=K.s:=by
 unfold cmK;dsimp only;by_cases c:(cmL S.ld K).2≠0
 ·rw[AJ c];exact cK _ _
 ·rw[AI c];have h1:(stK (lvK (cmL S.ld K).1 S.fm) S.fm st).s=K.s:=by rw[WO,IS,cK]
  generalize stK (lvK (cmL S.ld K).1 S.fm) S.fm st=K1 at *
  by_cases d:S.tt.o=true
  ·rw[AJ d];dsimp only;rw[WO];exact(IQ K1).trans h1
  ·rw[AI d];exact h1
theorem WR(S:BW)(h:Pw K.s):Pw (cbK K S).1.s:=by
 unfold cbK;dsimp only;have h1:Pw (tiK K S 24).1.s:=by rw[Ku];exact h
 generalize tiK K S 24=t at *
 have h2:=WQ (bdH S.fm) t.1 t.2.2.1 24 h1;generalize frK (bdH S.fm) t.1 t.2.2.1 24=f at *
 split
 ·exact h1
 ·split
  ·exact h2
  ·rw[IT];exact h2
theorem gE(S:BW)(h:Pw K.s):Pw (tyK K S).1.s:=by
 unfold tyK;dsimp only;have hx:=gD (S.fd || (S.rt && bearK K)) ((AA.ofL K.L S.fm).map Int.toNat) K { S with tt:=noF,ld:=[] } h;generalize cpK (S.fd || (S.rt && bearK K)) ((AA.ofL K.L S.fm).map Int.toNat) K { S with tt:=noF,ld:=[] }=x at *
 have he:=gB x.1 S.fm hx;have hb:=WR x.1 x.2.1 hx;generalize erK x.1 S.fm=y at *
 have hc:Pw (cmK y.1 x.2.1 0).1.s:=by rw[IT];exact he
 have hl:Pw (lvK y.1 S.fm).s:=by rw[IS];exact he
 generalize cmK y.1 x.2.1 0=c at *
 generalize lvK y.1 S.fm=u at *
 have hd:=WR u { x.2.1 with fd:=true } hl;generalize cbK u { x.2.1 with fd:=true }=v at *
 generalize cbK x.1 x.2.1=v2 at *
 split
 ·exact h
 ·split
  ·exact hx
  ·split
   ·exact hb
   ·split
    ·exact hc
    ·split
     ·exact he
     ·split
      ·exact hl
      ·exact hd
def aJ (te:FF):Prop:=∀K Z,te K=some Z->Pw K.s->Pw Z.1.s
def MovP (mo:Ek):Prop:=∀K S Z,mo K S=some Z->Pw K.s->Pw Z.1.s
theorem WS{an:FF}(h:aJ an):aJ (IN an):=by
 intro K Z e hp;unfold IN at e;have h1:Pw (opK (clK K)).1.s:=by rw[Kt,IQ];exact hp
 split at e
 ·cases e;exact hp
 ·split at e
  ·exact h _ _ e hp
  ·split at e
   ·cases e
    exact h1
   ·exact h _ _ e h1
theorem gF(h:aJ te):∀n,MovP (trK te n):=by
 intro n
 induction n with
 | zero=>intro K S Z e;cases e
 | succ n ih=>
  intro K S Z e hp;unfold trK at e;have ht:=gE K S hp;split at e
  ·cases e;exact hp
  ·dsimp only at e;generalize tyK K S=x at *
   split at e
   ·cases e;exact ht
   ·cases hy:te (spK x.1 (AC.blV x.2.1.tt)) with
    | none=>rw[hy] at e;cases e
    | some y=>
     rw[hy] at e;dsimp only at e;have h1:=h _ _ hy (by rw[Ks];exact ht);split at e
     ·cases e;exact h1
     ·exact ih _ _ _ e h1
theorem WT(h:aJ te)(n:Nat):MovP (moK te n):=by
 intro K S Z e hp;unfold moK at e;cases hy:trK te n (if S.fd then lvK K S.fm else K) S with
 | none=>rw[hy] at e;cases e
 | some x=>
  rw[hy] at e;dsimp only at e;have h1:Pw x.1.s:=gF h n _ _ _ hy (by
   split
   ·
    rw[IS];exact hp
   ·
    exact hp)
  split at e
  ·cases e
   show Pw (spK x.1 x.2.1.fm).s;rw[Ks];exact h1
  ·cases e;exact h1
theorem gG(h:MovP mo):∀n K o Z,mrK mo n K o=some Z->Pw K.s->Pw Z.1.s:=by
 intro n
 induction n with
 | zero=>intro K o Z e;cases e
 | succ n ih=>
  intro K o Z e hp;unfold mrK at e;have h0:Pw (clK K).s:=by rw[IQ];exact hp
  split at e
  ·cases e;exact hp
  ·dsimp only at e;generalize clK K=K1 at *
   have h1:Pw (opK K1).1.s:=(by rw[Kt];exact h0);split at e
   ·split at e
    ·cases e
     exact h1
    ·exact ih _ _ _ e h1
   ·split at e
    ·cases e
     exact h0
    ·cases hy:mo K1 (nwS (AG.chV 12 12 K1.F (lvF K1)) false false) with
     | none=>rw[hy] at e;cases e
     | some y=>
      rw[hy] at e;dsimp only at e;have h2:=h _ _ _ hy h0;split at e
      ·cases e;exact h2
      ·exact ih _ _ _ e h2
theorem gH{mr:BC->Nat->Option (BC × Nat)}(hr:∀K o Z,mr K o=some Z->Pw K.s->Pw Z.1.s)(h:MovP mo)(H:Dp):∀n K o Z,anK mr mo H n K o=some Z->Pw K.s->Pw Z.1.s:=by
 intro n
 induction n with
 | zero=>intro K o Z e;cases e
 | succ n ih=>
  intro K o Z e hp;unfold anK at e;split at e
  ·cases e;exact hp
  ·cases hx:mr K o with
   | none=>rw[hx] at e;cases e
   | some x=>
    rw[hx] at e;dsimp only at e;have h1:=hr _ _ _ hx hp;split at e
    ·cases e;exact h1
    ·split at e
     ·cases e;exact h1
     ·have h2:=WQ H { x.1 with fr:=AC.tkS x.1.fr o } (AC.nxV x.1.fr o).toNat o h1;generalize frK H { x.1 with fr:=AC.tkS x.1.fr o } (AC.nxV x.1.fr o).toNat o=f at *
      split at e
      ·cases e
       rw[Jq];exact h2
      ·split at e
       ·cases e;exact h2
       ·cases hy:mo f.1 (nwS (AC.blV f.1.fr).toNat false true) with
        | none=>rw[hy] at e;cases e
        | some y=>
         rw[hy] at e;dsimp only at e;have h4:=h _ _ _ hy h2;split at e
         ·cases e;exact h4
         ·exact ih _ _ _ e h4
theorem PY:∀n H K o Z,anR n H K o=some Z->Pw K.s->Pw Z.1.s:=by
 intro n
 induction n with
 | zero=>intro H K o Z e;cases e
 | succ n ih=>
  intro H K o Z e;have hm:MovP (moK (IN fun K=>anR n noH K 24) (n+1)):=WT (WS fun _ _ e=>ih _ _ _ _ e) _;exact gH (mr:=mrK (moK (IN fun K=>anR n noH K 24) (n+1)) (n+1)) (fun K o Z e=>gG hm _ _ _ _ e) hm H (n+1) K o Z e
theorem aK(n:Nat):MovP (movR n):=WT (WS fun _ _ e=>PY n _ _ _ _ e) _
theorem PZ(p:Nat)(h:Pw K.s):Pw (inK K p).1.s:=by
 have h1:=WM K p h;unfold inK;dsimp only;generalize rdK K p=X at *
 split
 ·exact h1
 ·split
  ·exact h1
  ·split <;> exact h1
theorem gI(o:Nat)(h:Pw K.s):Pw (geK K o).1.s:=by
 have h1:=PZ K (K.L o).toNat h;unfold geK;split
 ·exact h
 ·dsimp only;generalize inK K (K.L o).toNat=X at *
  split
  ·exact h1
  ·split <;> exact h1
theorem gJ(c:Nat):∀(n i:Nat) (K:BC),Pw K.s->Pw (tdI c n i K).1.s:=by
 intro n
 induction n with
 | zero=>intro i K h;exact h
 | succ n ih=>
  intro i K h;rw[tdI];split
  ·exact PZ _ _ h
  ·exact ih _ _ (PZ _ _ h)
theorem gK{K:BC}{b:Nat}(e:rfK n K b=some Z)(hp:Pw K.s):Pw Z.1.s:=by
 unfold rfK at e;split at e
 ·cases e;exact hp
 ·cases hy:movR n K (nwS b (AF.much 3 K.hS (b:Nat)) false) with
  | none=>rw[hy] at e;cases e
  | some y=>
   rw[hy] at e;dsimp only at e;have h1:=aK n _ _ _ hy hp;split at e
   ·cases e;exact h1
   ·cases e;exact h1
theorem gL(m:Nat):∀(n:Nat) (K:BC) (Z:BC × Nat),raK m n K=some Z->Pw K.s->Pw Z.1.s:=by
 intro n
 induction n with
 | zero=>intro K Z e;cases e
 | succ n ih=>
  intro K Z e hp;rw[raK] at e;split at e
  ·cases e;exact hp
  ·split at e
   ·cases e;exact hp
   ·rename_i b r _;cases hy:rfK m { K with qu:=r } b.toNat with
    | none=>rw[hy] at e;cases e
    | some y=>
     rw[hy] at e;dsimp only at e;have h1:=gK hy hp;split at e
     ·cases e;exact h1
     ·exact ih _ _ e h1
theorem gN{m:Nat}{K:BC}(e:tdK n m K=some Z)(hp:Pw K.s):Pw Z.1.s:=by
 unfold tdK at e;have h0:=gJ K.cu 8 0 { K with cu:=(K.cu+8) % 96,ca:=K.ca+1 } hp;generalize tdI K.cu 8 0 { K with cu:=(K.cu+8) % 96,ca:=K.ca+1 }=X at *
 unfold OG at e;split at e
 ·cases e;exact h0
 ·cases hy:raK n m (awK X.1) with
  | none=>rw[hy] at e;cases e
  | some y=>
   rw[hy] at e;dsimp only at e;have h1:Pw y.1.s:=gL _ _ _ _ hy h0;split at e
   ·cases e;exact h1
   ·split at e
    ·cases hz:anR n noH y.1 24 with
     | none=>rw[hz] at e;cases e
     | some z=>
      rw[hz] at e;cases e
      have h9:=PY _ _ _ _ _ hz h1;exact h9
    ·cases e;exact h1
theorem Pw.not(h:Pw s):¬ s.on=false:=by rw[h.1];decide
end
section
variable {s s':BG}{p x b:Nat}{tl:List Nat->Int->Pg}{t:Bu}{D:List Nat}{r:Int}{W:Nat->List Nat}
abbrev KK:=Nat->Option (Bu × List Nat)
structure cQ (p:Nat) (t:Bu) (D:List Nat):Prop where
 pl:t.p=p
 may:DV t.p t.o t.q t.c t.l
 len:D.length=174
 bys:Bys D
structure Ly (s:BG) (T:KK):Prop where
 ent:∀p t D,T p=some (t,D)->p<96/\cQ p t D
 is:∀p t D,T p=some (t,D)->∀k,k<4->(s.ch (4*p+k)).is=true/\(s.ch (4*p+k)).tru=wordOf D (body t.p t.o t.q t.c t.l) k
 non:∀p,p<96->T p=none->(s.ch (4*p+3)).is=false
def Erd (s:BG) (p:Nat):Prop:=∀k,k<4->(s.ch (4*p+k)).is=false
def Gd (s:BG) (p:Nat):Prop:=∀k,k<4->dmg (s.ch (4*p+k))<=2
def Gh (s:BG) (p:Nat):Prop:=∀k,k<4->dmg (s.ch (4*p+k))<=4
def DE (T:KK) (p:Nat) (t:Bu) (D:List Nat):KK:=fun x=>if x=p then some (t,D) else T x
def clrT (T:KK) (b:Nat):KK:=fun x=>if x / 8=b then none else T x
theorem Gd.gh(h:Gd s p):Gh s p:=fun k hk=>AY (h k hk) dc
theorem Erd.tab{T:KK}(h:Ly s T)(hE:Erd s p):T p=none:=by
 cases e:T p with
 | none=>rfl
 | some x=>
  obtain⟨t,D⟩:=x;have:=(h.is p t D e 3 om).1;rw[hE 3 om] at this;cases this
def WU (s s':BG) (p:Nat):Prop:=∀j,¬ (4*p<=j/\j<4*p+4)->s'.ch j=s.ch j
theorem WU.erd(h:WU s s' p)(hx:x≠p)(hE:Erd s x):Erd s' x:=fun k hk=>by rw[h _ om];exact hE k hk
theorem WU.gd(h:WU s s' p)(hx:x≠p)(hE:Gd s x):Gd s' x:=fun k hk=>by rw[h _ om];exact hE k hk
theorem WU.gh(h:WU s s' p)(hx:x≠p)(hE:Gh s x):Gh s' x:=fun k hk=>by rw[h _ om];exact hE k hk
theorem Ly.ch{T:KK}(h:Ly s T)(e:s'.ch=s.ch):Ly s' T:=⟨h.ent,fun p t D hT k hk=>by rw[e];exact h.is p t D hT k hk,fun p hp hT=>by rw[e];exact h.non p hp hT⟩
theorem Erd.ch(h:Erd s p)(e:s'.ch=s.ch):Erd s' p:=fun k hk=>by rw[e];exact h k hk
theorem Gd.ch(h:Gd s p)(e:s'.ch=s.ch):Gd s' p:=fun k hk=>by rw[e];exact h k hk
theorem Gh.ch(h:Gh s p)(e:s'.ch=s.ch):Gh s' p:=fun k hk=>by rw[e];exact h k hk
theorem Pa(hp:p<96)(hon:s.on=true):rdF tl s r p=(TQ s p,wrap64 (r+1),tl (pgTo s p 4) p,0):=by
 unfold rdF;rw[E6 hp hon];rfl
theorem aL(hp:p<96)(hon:s.on=false):rdF tl s r p=(s,r,Pg.zero,7):=by
 have e:readV s p=(s,[],7):=by unfold readV;rw[AI om,AJ hon]
 unfold rdF;rw[e];rfl
theorem Lz(htl:∀L n,ToldR L n (tl L n))(hs:s.Ok){T:KK}(h:Ly s T)(hT:T p=some (t,D))(hg:Gh s p) :((tl (pgTo s p 4) p).sound=true<->Gd s p)/\((tl (pgTo s p 4) p).tagged=true<->dmg (s.ch (4*p+3))<=2)/\((tl (pgTo s p 4) p).tagged=true->(tl (pgTo s p 4) p).p=t.p/\(tl (pgTo s p 4) p).o=t.o/\(tl (pgTo s p 4) p).s=t.q/\(tl (pgTo s p 4) p).c=t.c/\(tl (pgTo s p 4) p).l=t.l)/\((tl (pgTo s p 4) p).sound=true->(tl (pgTo s p 4) p).tagged=true/\(tl (pgTo s p 4) p).data=D):=by
 obtain⟨hp,hE⟩:=h.ent p t D hT;have hd:∀k,k<4->hurt D (body t.p t.o t.q t.c t.l) (pgTo s p 4) k=dmg (s.ch (4*p+k)):=fun k hk=>JZ hs hk (h.is p t D hT k hk).2;have htd:=htl (pgTo s p 4) p;obtain⟨h1,h2,-,h3,h4,-⟩:=ToldR.told (Dt:=D) (X:=pgTo s p 4) (p:=t.p) (o:=t.o) (s:=t.q) (c:=t.c) (l:=t.l) (g:=tl (pgTo s p 4) p) hE.len hE.bys hE.may (CD hs p 4) (by rw[hE.pl];exact htd) (fun k hk=>by rw[hd k hk];exact hg k hk);rw[hd 3 om] at h1 h2;rw[hd 0 om,hd 1 om,hd 2 om] at h2;refine⟨⟨fun e k hk=>?_,fun e=>?_⟩,h1,h3,fun e=>⟨?_,h4 e⟩⟩
 ·obtain⟨a3,a0,a1,a2⟩:=h2.1 e;rcases(by omega:k=0\/k=1\/k=2\/k=3) with rfl | rfl | rfl | rfl
  ·exact a0
  ·exact a1
  ·exact a2
  ·exact a3
 ·exact h2.2 ⟨e 3 om,e 0 om,e 1 om,e 2 om⟩
 ·exact h1.2 (h2.1 e).1
structure Lay4 (s t:BG) (p n:Nat) (W:Nat->List Nat):Prop where
 ch:∀j,t.ch j=if 4*p<=j/\j<4*p+n then E4 (W (j - 4*p)) else s.ch j
 rd:∀b,(t.bl b).reads=(s.bl b).reads
theorem WV(hp:p<96)(hl:∀k,k<4->(W k).length=64)(hon:s.on=true)(hE:Erd s p):∀n,n<=4 ->((wrN s p W n).2=0/\(wrN s p W n).1.on=true/\Lay4 s (wrN s p W n).1 p n W) \/((wrN s p W n).2=8/\(wrN s p W n).1.on=true/\∃m,m<n/\Lay4 s (wrN s p W n).1 p m W) \/((wrN s p W n).2=7/\(wrN s p W n).1.on=false/\∃m,m<n/\Lay4 s (wrN s p W n).1 p m W):=by
 intro n
 induction n with
 | zero=>intro _;exact AK ⟨rfl,hon,⟨fun j=>by rw[AI om];rfl,fun _=>rfl⟩⟩
 | succ n ih=>
  intro hn;have e:wrN s p W (n+1)=if (wrN s p W n).2=0 then writeR (wrN s p W n).1 p n (W n) else wrN s p W n:=rfl;rw[e];generalize wrN s p W n=X at *
  rcases ih om with ⟨h0,ho,hL⟩ | ⟨h0,ho,m,hm,hL⟩ | ⟨h0,ho,m,hm,hL⟩
  ·rw[AJ h0];unfold writeR;have e1:((p:Int)).toNat=p:=AP p;have e2:((n:Int)).toNat=n:=AP n;rw[e1,e2,AI (by simp only[not_or,Decidable.not_not,ne_eq];exact⟨⟨om,om,om,om⟩,hl n om⟩),AI (by rw[ho];simp),AI (by rw[hL.ch,AI om,hE n om];simp)];split
   ·exact AL (AL ⟨rfl,rfl,n,om,⟨hL.ch,hL.rd⟩⟩)
   ·split
    ·refine AL (AK ⟨rfl,ho,n,om,⟨hL.ch,fun b=>?_⟩⟩);rw[<-hL.rd b];show (if b=p / 8 then failW (X.1.bl (p / 8)) else X.1.bl b).reads=_;split
     ·rename_i c;rw[c];rfl
     ·rfl
    ·refine AK ⟨rfl,ho,⟨fun j=>?_,fun b=>?_⟩⟩
     ·show (if j=4*p+n then E4 (W n) else X.1.ch j)=_;split
      ·rename_i c;rw[AJ om,c,show 4*p+n - 4*p=n by omega]
      ·rename_i c;rw[hL.ch];by_cases d:4*p<=j/\j<4*p+n
       ·rw[AJ d,AJ om]
       ·rw[AI d,AI om]
     ·rw[<-hL.rd b];show (if b=p / 8 then failW (X.1.bl (p / 8)) else X.1.bl b).reads=_;split
      ·rename_i c;rw[c];rfl
      ·rfl
  ·rw[AI (by rw[h0];decide)];exact AL (AK ⟨h0,ho,m,om,hL⟩)
  ·rw[AI (by rw[h0];decide)];exact AL (AL ⟨h0,ho,m,om,hL⟩)
theorem Lay4.oth{t:BG}{n:Nat}(h:Lay4 s t p n W)(hn:n<=4):WU s t p:=fun j hj=>by rw[h.ch,AI om]
theorem WU.rep{T:KK}(h:WU s s' p)(hR:Ly s T)(hT:T p=none)(h3:(s'.ch (4*p+3)).is=false):Ly s' T:=by
 refine⟨hR.ent,fun x t D hx k hk=>?_,fun x hx hn=>?_⟩
 ·have:x≠p:=by rintro rfl;rw[hT] at hx;cases hx
  rw[h _ om];exact hR.is x t D hx k hk
 ·by_cases e:x=p
  ·rw[e];exact h3
  ·rw[h _ om];exact hR.non x hx hn
theorem aM(l:List Nat):dmg (E4 l)=0:=by
 have:∀n,dmgTo l l n=0:=by
  intro n
  induction n with
  | zero=>rfl
  | succ n ih=>rw[dmgTo,ih,AJ rfl]
 exact this 64
theorem Lay4.full{T:KK}(h:Lay4 s s' p 4 (wordOf D (body t.p t.o t.q t.c t.l)))(hR:Ly s T)(hp:p<96)(hE:cQ p t D):Ly s' (DE T p t D)/\Gd s' p:=by
 have hin:∀k,k<4->s'.ch (4*p+k)=E4 (wordOf D (body t.p t.o t.q t.c t.l) k):=fun k hk=>by rw[h.ch,AJ om,show 4*p+k - 4*p=k by omega]
 refine⟨⟨fun x u C hx=>?_,fun x u C hx k hk=>?_,fun x hx hn=>?_⟩,fun k hk=>by rw[hin k hk,aM];decide⟩
 ·unfold DE at hx;split at hx
  ·rename_i e;injection hx with hx;injection hx with h1 h2;subst h1 h2 e;exact⟨hp,hE⟩
  ·exact hR.ent x u C hx
 ·unfold DE at hx;split at hx
  ·rename_i e;injection hx with hx;injection hx with h1 h2;subst h1 h2 e;rw[hin k hk];exact⟨rfl,rfl⟩
  ·rename_i e;rw[h.ch,AI om];exact hR.is x u C hx k hk
 ·unfold DE at hn;split at hn
  ·cases hn
  ·rename_i e;rw[h.ch,AI om];exact hR.non x hx hn
structure cR (s s':BG) (T:KK) (t:Bu) (D:List Nat):Prop where
 ok:s'.Ok
 on:s'.on=true
 rep:Ly s' (DE T t.p t D)
 gd:Gd s' t.p
 oth:WU s s' t.p
structure gO (s s':BG) (T:KK) (t:Bu) (on:Bool):Prop where
 ok:s'.Ok
 on:s'.on=on
 rep:Ly s' T
 oth:WU s s' t.p
theorem Ng(htl:∀L n,ToldR L n (tl L n))(hs:s.Ok){T:KK}(hR:Ly s T)(hp:t.p<96)(hE:cQ t.p t D)(hon:s.on=true)(hB:Erd s t.p)(r:Int) :((prF tl s r t D).2.2=0/\(prF tl s r t D).2.1=1/\cR s (prF tl s r t D).1 T t D) \/((prF tl s r t D).2.2=8/\(prF tl s r t D).2.1=0/\gO s (prF tl s r t D).1 T t true) \/((prF tl s r t D).2.2=7/\(prF tl s r t D).2.1=0/\gO s (prF tl s r t D).1 T t false):=by
 have hZ:=By t.p t.o t.q t.c t.l;have bZ:=Ct t.p t.o t.q t.c t.l;have hOk:=LV hs (t.p:Int) (W:=wordOf D (body t.p t.o t.q t.c t.l)) 4 (fun k hk=>(Dw hE.len hE.bys hZ bZ k hk).2.1);have hw:=WV (s:=s) (p:=t.p) (W:=wordOf D (body t.p t.o t.q t.c t.l)) hp (fun k hk=>IL hE.len hE.bys hZ bZ k hk) hon hB 4 (AM _);have hTn:=hB.tab hR;unfold prF;generalize wrN s t.p (wordOf D (body t.p t.o t.q t.c t.l)) 4=X at *
 dsimp only;rcases hw with ⟨h0,ho,hL⟩ | ⟨h0,ho,m,hm,hL⟩ | ⟨h0,ho,m,hm,hL⟩
 ·obtain⟨hR2,hG2⟩:=hL.full hR hp hE;have htd:=Lz htl hOk hR2 (show DE T t.p t D t.p=some (t,D) by unfold DE;rw[AJ rfl]) hG2.gh;have hsnd:=htd.1.2 hG2;obtain⟨htg,hda⟩:=htd.2.2.2 hsnd;rw[AI (by rw[h0];simp),Pa hp ho];dsimp only;rw[AI (by simp),AJ ⟨htg,htd.2.2.1 htg,hsnd,hda⟩];exact AK ⟨rfl,rfl,⟨LU hOk _,ho,hR2.ch rfl,hG2.ch rfl,hL.oth (AM _)⟩⟩
 ·rw[AJ (by rw[h0];decide)];refine AL (AK ⟨h0,rfl,⟨hOk,ho,?_,hL.oth om⟩⟩);exact(hL.oth om).rep hR hTn (by rw[hL.ch,AI om];exact hB 3 om)
 ·rw[AJ (by rw[h0];decide)];refine AL (AL ⟨h0,rfl,⟨hOk,ho,?_,hL.oth om⟩⟩);exact(hL.oth om).rep hR hTn (by rw[hL.ch,AI om];exact hB 3 om)
theorem FI(hs:s.Ok)(hb:b<12)(hon:s.on=true) :((eraseR s b).2=0/\(eraseR s b).1.on=true/\(eraseR s b).1.Ok/\∀j,(eraseR s b).1.ch j=if 32*b<=j/\j<32*b+32 then DW else s.ch j) \/((eraseR s b).2=8/\(eraseR s b).1.on=true/\(eraseR s b).1.Ok/\(eraseR s b).1.ch=s.ch) \/((eraseR s b).2=7/\(eraseR s b).1.on=false/\(eraseR s b).1.Ok/\(eraseR s b).1.ch=s.ch):=by
 have hOk:=Hi hs b;unfold eraseR at hOk ⊢;rw[AI om,AI (by rw[hon];simp)] at hOk ⊢;split at hOk
 ·rename_i c;rw[AJ c];exact AL (AL ⟨rfl,rfl,hOk,rfl⟩)
 ·rename_i c;rw[AI c];split at hOk
  ·rename_i d;rw[AJ d];exact AL (AK ⟨rfl,hon,hOk,rfl⟩)
  ·rename_i d;rw[AI d];exact AK ⟨rfl,hon,hOk,fun j=>rfl⟩
theorem Ly.erase{T:KK}(h:Ly s T)(e:∀j,s'.ch j=if 32*b<=j/\j<32*b+32 then DW else s.ch j):Ly s' (clrT T b):=by
 refine⟨fun x t D hx=>?_,fun x t D hx k hk=>?_,fun x hx hn=>?_⟩
 ·unfold clrT at hx;split at hx
  ·cases hx
  ·exact h.ent x t D hx
 ·unfold clrT at hx;split at hx
  ·cases hx
  ·rename_i c;rw[e,AI om];exact h.is x t D hx k hk
 ·unfold clrT at hn;rw[e];split at hn
  ·rename_i c;rw[AJ om];rfl
  ·rename_i c;rw[AI om];exact h.non x hx hn
end
section
variable {K K':BC}{o:Nat}{X:Nat->Prop}
structure BV where
 T:KK
 c:AB.Bp
 a:Nat->List Nat
 z:Nat->Prop
structure Lvs (K:BC) (G:BV) (o:Nat) (l:Bool) (D:List Nat):Prop where
 tab:G.T (K.L o).toNat=some (⟨(K.L o).toNat,o,K.vs o,K.vc o,l⟩,D)
 lost:l=true->G.z o
 data:l=false->D=if o=24 then AB.Ir G.c else G.a o
 gh:Gh K.s (K.L o).toNat
 gd:¬ G.z o->Gd K.s (K.L o).toNat
def lH (K:BC) (c:AB.Bp) (X:Nat->Prop) (p:Nat) (t:Bu):Prop:=
 K.L t.o≠-1/\(t.q<K.vs t.o\/t.q=K.vs t.o/\((p:Int)=K.L t.o\/t.c=(K.vc t.o+1) % 256/\c.B (p / 8)=false/\(K.F (p / 8)=3\/X (p / 8))))
structure Sit (K:BC) (G:BV) (X:Nat->Prop):Prop where
 wf:Wf K
 rep:Ly K.s G.T
 sts:∀b,b<12->0<=K.F b/\K.F b<=3
 frs:∀p,p<96->K.F (p / 8)=0->Erd K.s p
 opn:∀b,b<12->(K.F b=1<->K.fr.o=true/\K.fr.k=b)
 frn:K.fr.o=true->∀i,K.fr.i<=i->i<8->Erd K.s (8*K.fr.k+i)
 liv:∀o,o<25->K.L o≠-1->∃l D,Lvs K G o l D
 nul:∀o,o<24->K.L o = -1->G.a o=List.replicate 174 0
 blk:∀o,o<25->K.L o≠-1->K.F ((K.L o).toNat / 8)≠0/\(K.F ((K.L o).toNat / 8)=3->K.dd=true)
 flo:∀o,o<24->K.L o≠-1->K.fl o<K.vs o
 old:∀p t D,G.T p=some (t,D)->(t.o=24\/G.c.B (p / 8)=false/\K.fl t.o<t.q)->lH K G.c X p t
 seq:∀p t D,G.T p=some (t,D)->t.q<K.nx
 fls:∀o,o<24->K.fl o<K.nx
 sp:K.sp=false
 dds:K.dd=true<->2<bad3 K.F
 cb:∀b,b<12->G.c.B b=true->K.F b=3
 cf:∀o,o<24->G.c.F o=K.fl o
 cn:K.L 24≠-1->G.c.N=K.vs 24/\(G.c.C+8*K.ca) % 96=K.cu/\AB.Zx G.c
 nw:K.L 24 = -1->∀p,G.T p=none
 z24:¬ G.z 24
 lb:∀o,o<25->K.L o≠-1->G.c.B ((K.L o).toNat / 8)=false
theorem Wf.lt(h:Wf K)(ho:o<25)(hL:K.L o≠-1):(K.L o).toNat<96/\K.L o=((K.L o).toNat:Nat):=by
 rcases h.map.rng o ho with e | e
 ·exact absurd e hL
 ·omega
structure Nh (K K':BC):Prop where
 cu:K'.cu=K.cu
 qu:K'.qu=K.qu
 hS:K'.hS=K.hS
 rp:K'.rp=K.rp
 md:K'.md=K.md
 tl:K'.tl=K.tl
theorem Nh.refl(K:BC):Nh K K:=⟨rfl,rfl,rfl,rfl,rfl,rfl⟩
theorem Nh.trans{K'':BC}(h:Nh K K')(k:Nh K' K''):Nh K K'':=⟨k.cu.trans h.cu,k.qu.trans h.qu,k.hS.trans h.hS,k.rp.trans h.rp,k.md.trans h.md,k.tl.trans h.tl⟩
structure WW (K K':BC):Prop where
 ch:K'.s.ch=K.s.ch
 F:K'.F=K.F
 L:K'.L=K.L
 vs:K'.vs=K.vs
 vc:K'.vc=K.vc
 fl:K'.fl=K.fl
 nx:K'.nx=K.nx
 sp:K'.sp=K.sp
 fr:K'.fr=K.fr
 dd:K'.dd=K.dd
 cu:K'.cu=K.cu
 ca:K'.ca=K.ca
 fx:Nh K K'
theorem Lvs.alk{G:BV}{l:Bool}{D:List Nat}(h:Lvs K G o l D)(a:WW K K'):Lvs K' G o l D:=
 ⟨by rw[a.L,a.vs,a.vc];exact h.tab,h.lost,h.data,by rw[a.L];exact h.gh.ch a.ch,by rw[a.L];exact fun z=>(h.gd z).ch a.ch⟩
theorem Sit.alk{G:BV}(h:Sit K G X)(a:WW K K')(wf:Wf K'):Sit K' G X where
 wf:=wf
 rep:=h.rep.ch a.ch
 sts:=by rw[a.F];exact h.sts
 frs:=by rw[a.F];exact fun p hp e=>(h.frs p hp e).ch a.ch
 opn:=by rw[a.F,a.fr];exact h.opn
 frn:=by rw[a.fr];exact fun e i hi h8=>(h.frn e i hi h8).ch a.ch
 liv:=fun o ho hL=>by
  rw[a.L] at hL
  obtain⟨l,D,hl⟩:=h.liv o ho hL
  exact⟨l,D,hl.alk a⟩
 nul:=by rw[a.L];exact h.nul
 blk:=by rw[a.L,a.F,a.dd];exact h.blk
 flo:=by rw[a.L,a.fl,a.vs];exact h.flo
 old:=by unfold lH;rw[a.L,a.fl,a.vs,a.vc,a.F];exact h.old
 seq:=by rw[a.nx];exact h.seq
 fls:=by rw[a.nx,a.fl];exact h.fls
 sp:=by rw[a.sp];exact h.sp
 dds:=by rw[a.dd,a.F];exact h.dds
 cb:=by rw[a.F];exact h.cb
 cf:=by rw[a.fl];exact h.cf
 cn:=by rw[a.L,a.vs,a.cu,a.ca];exact h.cn
 nw:=by rw[a.L];exact h.nw
 z24:=h.z24
 lb:=by rw[a.L];exact h.lb
theorem Sit.mono{G:BV}{Y:Nat->Prop}(h:Sit K G X)(hXY:∀b,b<12->X b->K.F b=3\/Y b):Sit K G Y:=by
 have hold:∀p t D,G.T p=some (t,D)->(t.o=24\/G.c.B (p / 8)=false/\K.fl t.o<t.q)->lH K G.c Y p t:=by
  intro p t D hT hc;obtain⟨h1,h2⟩:=h.old p t D hT hc;have hp:=(h.rep.ent p t D hT).1;exact⟨h1,h2.imp id fun ⟨e,k⟩=>⟨e,k.imp id fun ⟨c,y,x⟩=>⟨c,y,x.elim AK (hXY _ om)⟩⟩⟩
 exact⟨h.wf,h.rep,h.sts,h.frs,h.opn,h.frn,h.liv,h.nul,h.blk,h.flo,hold,h.seq,h.fls,h.sp,h.dds,h.cb,h.cf,h.cn,h.nw,h.z24,h.lb⟩
end
theorem DG{F:Nat->Int}{b:Nat}{s:Int}(hb:b<12)(hs:0<=s/\s<=3)(h3:F b≠3\/s=3):AD.setF F b s=upd F b s:=by
 have e:AD.setC F b s=0:=by
  unfold AD.setC;rw[AP,AI om,AI om]
 unfold AD.setF;rw[AJ e,AP]
theorem Be(F:Nat->Int)(n:Nat)(s:Int):upd F n s n=s:=by unfold upd;rw[AJ rfl]
theorem BP(F:Nat->Int){n j:Nat}(s:Int)(h:j≠n):upd F n s j=F j:=by unfold upd;rw[AI h]
theorem BO(F:Nat->Int)(n j:Nat)(s:Int):(j=n/\upd F n s j=s)\/(j≠n/\upd F n s j=F j):=by
 by_cases h:j=n
 ·subst h;exact AK ⟨rfl,Be _ _ _⟩
 ·exact AL ⟨h,BP _ _ h⟩
theorem WX(F:Nat->Int){n:Nat}(hn:n<12)(s t:Int):AD.cnt (upd F n s) t 12+(if F n=t then 1 else 0)=AD.cnt F t 12+(if s=t then 1 else 0):=AD.Qg F n s t 12 hn
def fre (F:Nat->Int):Nat:=AD.cnt F 0 12
theorem FJ(F:Nat->Int){n:Nat}(hn:n<12)(s:Int):fre (upd F n s)+(if F n=0 then 1 else 0)=fre F+(if s=0 then 1 else 0):=WX F hn s 0
theorem FK(F:Nat->Int){n:Nat}(hn:n<12)(s:Int):bad3 (upd F n s)+(if F n=3 then 1 else 0)=bad3 F+(if s=3 then 1 else 0):=WX F hn s 3
theorem WY(F:Nat->Int)(s:Int):fre (upd F 12 s)=fre F:=AD.LZ F 12 s 0 12 (AM _)
theorem WZ(F:Nat->Int)(s:Int):bad3 (upd F 12 s)=bad3 F:=AD.LZ F 12 s 3 12 (AM _)
section
variable {K:BC}{G:BV}{X Y:Nat->Prop}
theorem Sit.reF(h:Sit K G X)(F':Nat->Int)(fr':AC.St)(dd':Bool)(wf:Wf { K with F:=F',fr:=fr',dd:=dd' })(sts:∀b,b<12->0<=F' b/\F' b<=3)(frs:∀p,p<96->F' (p / 8)=0->Erd K.s p)(opn:∀b,b<12->(F' b=1<->fr'.o=true/\fr'.k=b))(frn:fr'.o=true->∀i,fr'.i<=i->i<8->Erd K.s (8*fr'.k+i))(blk:∀o,o<25->K.L o≠-1->F' ((K.L o).toNat / 8)≠0/\(F' ((K.L o).toNat / 8)=3->dd'=true))(rv:∀b,b<12->K.F b=3->F' b=3)(xy:∀b,b<12->X b->F' b=3\/Y b)(dds:dd'=true<->2<bad3 F'):Sit { K with F:=F',fr:=fr',dd:=dd' } G Y where
 wf:=wf
 rep:=h.rep
 sts:=sts
 frs:=frs
 opn:=opn
 frn:=frn
 liv:=fun o ho hL=>by
  obtain⟨l,D,hl⟩:=h.liv o ho hL
  exact⟨l,D,⟨hl.tab,hl.lost,hl.data,hl.gh,hl.gd⟩⟩
 nul:=h.nul
 blk:=blk
 flo:=h.flo
 old:=fun p t D hT hc=>by
  obtain⟨h1,h2⟩:=h.old p t D hT hc
  have hp:=(h.rep.ent p t D hT).1
  exact⟨h1,h2.imp id fun ⟨e,k⟩=>⟨e,k.imp id fun ⟨c,y,x⟩=>⟨c,y,x.elim (fun x=>AK (rv _ om x)) (xy _ om)⟩⟩⟩
 seq:=h.seq
 fls:=h.fls
 sp:=h.sp
 dds:=dds
 cb:=fun b hb e=>rv b hb (h.cb b hb e)
 cf:=h.cf
 cn:=h.cn
 nw:=h.nw
 z24:=h.z24
 lb:=h.lb
theorem Sit.frk(h:Sit K G X)(ho:K.fr.o=true):K.fr.k<12/\K.F K.fr.k=1:=⟨h.wf.fr.1,(h.opn K.fr.k h.wf.fr.1).2 ⟨ho,rfl⟩⟩
theorem CM(h:K.fr.o=false):clK K=K:=by unfold clK;rw[h];rfl
theorem Sit.clK_eq(h:Sit K G X)(ho:K.fr.o=true):clK K={ K with F:=upd K.F K.fr.k 2,fr:=noF,dd:=K.dd }:=by
 obtain⟨h1,h2⟩:=h.frk ho;unfold clK;rw[ho,AJ rfl,DG h1 dc (AK (by rw[h2];decide))]
theorem gP:AC.E9 noF:=⟨(by decide:(0:Nat)<12),(by decide:(0:Nat)<9)⟩
theorem Sit.cl(h:Sit K G X):Sit (clK K) G X/\fre (clK K).F=fre K.F/\bad3 (clK K).F=bad3 K.F/\(clK K).fr.o=false/\(∀b,b<12->(K.F b=3<->(clK K).F b=3)):=by
 cases ho:K.fr.o
 ·rw[CM ho];exact⟨h,rfl,rfl,ho,fun b _=>Iff.rfl⟩
 ·obtain⟨h1,h2⟩:=h.frk ho;rw[h.clK_eq ho];have c0:=FJ K.F h1 2;have c3:=FK K.F h1 2;rw[h2] at c0 c3;simp at c0 c3;refine⟨h.reF _ _ _ ?_ ?_ ?_ ?_ ?_ ?_ ?_ ?_ ?_,c0,c3,rfl,fun b hb=>?_⟩
  ·have e:=(h.wf.fr' gP).st K.fr.k 2;unfold stK at e;rw[show ({ K with fr:=noF }:BC).F=K.F from rfl,DG h1 dc (AK (by rw[h2];decide))] at e;exact e
  ·intro b hb;rcases BO K.F K.fr.k b 2 with ⟨_,e⟩ | ⟨_,e⟩ <;> rw[e]
   ·decide
   ·exact h.sts b hb
  ·intro p hp e;rcases BO K.F K.fr.k (p / 8) 2 with ⟨_,e2⟩ | ⟨_,e2⟩ <;> rw[e2] at e
   ·exact absurd e dc
   ·exact h.frs p hp e
  ·intro b hb;refine⟨fun e=>?_,fun e=>absurd e.1 dc⟩;rcases BO K.F K.fr.k b 2 with ⟨_,e2⟩ | ⟨c,e2⟩ <;> rw[e2] at e
   ·exact absurd e dc
   ·exact absurd ((h.opn b hb).1 e).2.symm c
  ·exact fun e=>absurd e dc
  ·intro o hl hL;rcases BO K.F K.fr.k ((K.L o).toNat / 8) 2 with ⟨_,e2⟩ | ⟨_,e2⟩ <;> rw[e2]
   ·exact⟨dc,fun e=>absurd e dc⟩
   ·exact h.blk o hl hL
  ·intro b hb e;rw[BP]
   ·exact e
   ·rintro rfl;rw[h2] at e;exact absurd e dc
  ·exact fun b _ e=>AL e
  ·rw[c3];exact h.dds
  ·show K.F b=3<->upd K.F K.fr.k 2 b=3;rcases BO K.F K.fr.k b 2 with ⟨e,e2⟩ | ⟨_,e2⟩ <;> rw[e2]
   rw[e,h2];decide
theorem Sit.lv(h:Sit K G X)(b:Int):Sit (lvK K b) G X/\fre (lvK K b).F=fre K.F/\bad3 (lvK K b).F=bad3 K.F/\(∀b',b'<12->(K.F b'=3<->(lvK K b).F b'=3)):=by
 unfold lvK;split
 ·obtain⟨h1,h2,h3,_,h5⟩:=h.cl;exact⟨h1,h2,h3,h5⟩
 ·exact⟨h,rfl,rfl,fun _ _=>Iff.rfl⟩
theorem L1(K:BC)(b:Nat):(lvK K b).fr.o=true->(lvK K b).fr.k≠b:=by
 unfold lvK;split
 ·rename_i e;intro ho;unfold clK at ho;split at ho
  ·exact absurd (show (false:Bool)=true from ho) dc
  ·rename_i c;exact absurd ho c
 ·rename_i e;intro ho e2;apply e;unfold AC.blV;rw[ho,e2];rfl
theorem Hz(hw:0<=K.F 12/\K.F 12<12)(hf:1<=fre K.F):tkC K.F=0/\tkM K.F<12/\K.F (tkM K.F)=0:=by
 obtain⟨hN,hm⟩:=Jn K.F hw;rcases hN with ⟨h1,j,_,_,h4,_⟩ | ⟨_,_,h3⟩
 ·exact⟨h1,hm,h4⟩
 ·have:∀k,k<=12->AD.cnt K.F 0 k=0:=by
   intro k
   induction k with
   | zero=>intro _;rfl
   | succ k ih=>intro hk;unfold AD.cnt;rw[ih om,AI (h3 k om)]
  have:=this 12 (AM _);unfold fre at hf;omega
theorem Sit.free_none(h:Sit K G X){m:Nat}(hF:K.F m=0):∀o,o<25->K.L o≠-1->(K.L o).toNat / 8≠m:=fun o ho hL e=>(h.blk o ho hL).1 (by rw[e];exact hF)
theorem Jr(F:Nat->Int)(m:Nat):AD.tkF F 0 m=upd (upd F m 1) 12 ((m+1) % 12:Nat):=by unfold AD.tkF;rw[AJ rfl]
theorem D5(F:Nat->Int){m b:Nat}(hb:b<12):AD.tkF F 0 m b=upd F m 1 b:=by rw[Jr,BP _ _ om]
theorem Wf.F'{K:BC}(h:Wf K){F:Nat->Int}(hF:0<=F 12/\F 12<12){fr:AC.St}(hfr:AC.E9 fr)(d:Bool):Wf { K with F:=F,fr:=fr,dd:=d }:=
 ⟨h.chip,h.rr,hF,h.map,h.vs,h.vp,h.vc,h.fl,h.nx,hfr,h.cu,h.qu,h.hea,h.tl⟩
theorem Sit.op(h:Sit K G X)(ho:K.fr.o=false)(hf:1<=fre K.F) :(opK K).2=0/\Sit (opK K).1 G X/\fre (opK K).1.F+1=fre K.F/\bad3 (opK K).1.F=bad3 K.F/\(opK K).1.fr=⟨true,tkM K.F,0⟩/\(∀b,b<12->(K.F b=3<->(opK K).1.F b=3)) /\∃F',(opK K).1={ K with F:=F',fr:=⟨true,tkM K.F,0⟩,dd:=K.dd }:=by
 obtain⟨h1,h2,h3⟩:=Hz h.wf.frm hf;have e:opK K=({ K with F:=AD.tkF K.F 0 (tkM K.F),fr:=⟨true,tkM K.F,0⟩,dd:=K.dd },0):=by unfold opK;rw[AJ h1]
 rw[e];have c0:=FJ K.F h2 1;have c3:=FK K.F h2 1;rw[h3] at c0 c3;simp at c0 c3;have f0:fre (AD.tkF K.F 0 (tkM K.F))=fre (upd K.F (tkM K.F) 1):=by rw[Jr,WY]
 have f3:bad3 (AD.tkF K.F 0 (tkM K.F))=bad3 (upd K.F (tkM K.F) 1):=by rw[Jr,WZ]
 refine⟨rfl,h.reF _ _ _ ?_ ?_ ?_ ?_ ?_ ?_ ?_ ?_ ?_,by rw[f0];exact c0,by rw[f3,c3],rfl,fun b hb=>?_,_,rfl⟩
 ·refine h.wf.F' ?_ ⟨h2,(by decide:(0:Nat)<9)⟩ _;rw[Jr,Be];omega
 ·intro b hb;rw[D5 _ hb];rcases BO K.F (tkM K.F) b 1 with ⟨_,e⟩ | ⟨_,e⟩ <;> rw[e]
  ·decide
  ·exact h.sts b hb
 ·intro p hp e;rw[D5 _ om] at e;rcases BO K.F (tkM K.F) (p / 8) 1 with ⟨_,e2⟩ | ⟨_,e2⟩ <;> rw[e2] at e
  ·exact absurd e dc
  ·exact h.frs p hp e
 ·intro b hb;rw[D5 _ hb];refine⟨fun e=>⟨rfl,?_⟩,fun e=>?_⟩
  ·rcases BO K.F (tkM K.F) b 1 with ⟨e1,_⟩ | ⟨c,e2⟩
   ·exact e1.symm
   ·rw[e2] at e;have:=((h.opn b hb).1 e).1;rw[ho] at this;cases this
  ·rw[<-e.2];exact Be _ _ _
 ·intro _ i _ hi;exact h.frs _ (by show 8*tkM K.F+i<96;omega) (by show K.F ((8*tkM K.F+i) / 8)=0;rw[show (8*tkM K.F+i) / 8=tkM K.F by omega];exact h3)
 ·intro o hl hL;have hlt:=(h.wf.lt hl hL).1;rw[D5 _ om,BP _ _ (h.free_none h3 o hl hL)];exact h.blk o hl hL
 ·intro b hb e;rw[D5 _ hb,BP]
  ·exact e
  ·rintro rfl;rw[h3] at e;exact absurd e dc
 ·exact fun b _ e=>AL e
 ·rw[f3,c3];exact h.dds
 ·show K.F b=3<->AD.tkF K.F 0 (tkM K.F) b=3;rw[D5 _ hb];rcases BO K.F (tkM K.F) b 1 with ⟨e,e2⟩ | ⟨_,e2⟩ <;> rw[e2]
  rw[e,h3];decide
theorem Sit.spo(h:Sit K G X){b:Nat}(hb:b<12)(h3:K.F b≠3)(hl:(∀o,o<25->K.L o≠-1->(K.L o).toNat / 8≠b)\/2<=bad3 K.F)(hY:∀x,x<12->X x->x=b\/Y x) :Sit (spK K b) G Y/\bad3 (spK K b).F=bad3 K.F+1/\fre K.F<=fre (spK K b).F+(if K.F b=0 then 1 else 0)/\(∀x,x<12->((spK K b).F x=3<->K.F x=3\/x=b))/\((spK K b).dd=true<->2<=bad3 K.F)/\((spK K b).fr=K.fr\/(spK K b).fr=noF):=by
 obtain⟨s1,f1,b1,q1⟩:=h.lv (b:Nat);have hfar:=L1 K b;have hL:(lvK K b).L=K.L:=by unfold lvK clK;split <;> (try split) <;> rfl
 have hdd:(lvK K b).dd=K.dd:=by unfold lvK clK;split <;> (try split) <;> rfl
 have hsp:(lvK K b).sp=K.sp:=by unfold lvK clK;split <;> (try split) <;> rfl
 have hfr:(lvK K b).fr=K.fr\/(lvK K b).fr=noF:=by
  unfold lvK clK;split
  ·split
   ·exact AL rfl
   ·exact AK rfl
  ·exact AK rfl
 have hF0:K.F b=0<->(lvK K b).F b=0:=by
  unfold lvK;split
  ·rename_i e;unfold clK;split
   ·rename_i ho;have hkb:K.fr.k=b:=(by unfold AC.blV at e;rw[ho] at e;simp at e;omega);obtain⟨h1,h2⟩:=h.frk ho;show K.F b=0<->AD.setF K.F K.fr.k 2 b=0;rw[DG h1 dc (AK (by rw[h2];decide)),hkb,Be,<-hkb,h2];decide
   ·exact Iff.rfl
  ·exact Iff.rfl
 have h3':(lvK K b).F b≠3:=fun e=>h3 ((q1 b hb).2 e);unfold spK stK;generalize lvK K b=K1 at *
 dsimp only;rw[DG hb dc (AL rfl)];have c0:=FJ K1.F hb 3;have c3:=FK K1.F hb 3;rw[AI h3',AJ rfl] at c3;rw[AI (show ¬ (3:Int)=0 by decide)] at c0;have hd:(K1.dd || (decide (2<bad3 (upd K1.F b 3)) || K1.sp))=decide (2<bad3 (upd K1.F b 3)):=by
  rw[s1.sp,Bool.or_false];cases e:K1.dd
  ·rfl
  ·have:=s1.dds.1 e;rw[AO om];rfl
 rw[hd];refine⟨s1.reF _ _ _ ?_ ?_ ?_ ?_ ?_ ?_ ?_ ?_ ?_,om,?_,fun x hx=>?_,?_,hfr⟩
 ·refine s1.wf.F' ?_ s1.wf.fr _;rw[BP _ _ om];exact s1.wf.frm
 ·intro x hx;rcases BO K1.F b x 3 with ⟨_,e⟩ | ⟨_,e⟩ <;> rw[e]
  ·decide
  ·exact s1.sts x hx
 ·intro p hp e;rcases BO K1.F b (p / 8) 3 with ⟨_,e2⟩ | ⟨_,e2⟩ <;> rw[e2] at e
  ·exact absurd e dc
  ·exact s1.frs p hp e
 ·intro x hx;rcases BO K1.F b x 3 with ⟨e1,e2⟩ | ⟨_,e2⟩ <;> rw[e2]
  ·refine⟨fun e=>absurd e dc,fun e=>?_⟩;subst e1;exact absurd e.2 (hfar e.1)
  ·exact s1.opn x hx
 ·exact s1.frn
 ·intro o ho hLo;rw[hL] at hLo ⊢;rcases BO K1.F b ((K.L o).toNat / 8) 3 with ⟨e1,e2⟩ | ⟨_,e2⟩ <;> rw[e2]
  ·refine⟨dc,fun _=>?_⟩;rcases hl with hl | hl
   ·exact absurd e1 (hl o ho hLo)
   ·exact AO om
  ·have:=s1.blk o ho (by rw[hL];exact hLo);rw[hL] at this;refine⟨this.1,fun e=>AO ?_⟩;have:=s1.dds.1 (this.2 e);omega
 ·intro x hx e;rcases BO K1.F b x 3 with ⟨_,e2⟩ | ⟨_,e2⟩ <;> rw[e2]
  exact e
 ·intro x hx e;rcases hY x hx e with rfl | e
  ·exact AK (Be _ _ _)
  ·exact AL e
 ·exact decide_eq_true_iff
 ·show fre K.F<=fre (upd K1.F b 3)+_;by_cases e:K.F b=0
  ·rw[AJ (hF0.1 e)] at c0;rw[AJ e];omega
  ·rw[AI (fun e2=>e (hF0.2 e2))] at c0;rw[AI e];omega
 ·show upd K1.F b 3 x=3<->_;rcases BO K1.F b x 3 with ⟨e1,e2⟩ | ⟨e1,e2⟩ <;> rw[e2]
  ·simp[e1]
  ·rw[<-q1 x hx];simp[e1]
 ·show decide (2<bad3 (upd K1.F b 3))=true<->_;rw[decide_eq_true_iff];omega
end
section
variable {K K':BC}{N i j:Nat}
def Rdn (N:Nat) (K:BC):Prop:=∀b,b<12->0<=(K.s.bl b).reads/\(K.s.bl b).reads<=N/\K.hR b=min (K.s.bl b).reads 65535
def RdB (k:Nat) (K K':BC):Prop:=∀N,N+k<4611686018427387904->Rdn N K->Rdn (N+k) K'
theorem Rdn.mono{M:Nat}(h:Rdn N K)(e:N<=M):Rdn M K:=fun b hb=>by
 obtain⟨h1,h2,h3⟩:=h b hb
 exact⟨h1,om,h3⟩
theorem RdB.refl(K:BC):RdB 0 K K:=fun _ _ h=>h
theorem RdB.trans{K'':BC}(h:RdB i K K')(k:RdB j K' K''):RdB (i+j) K K'':=fun N hN hR=>by
 have:=k (N+i) om (h N om hR)
 rwa [Nat.add_assoc] at this
theorem RdB.mono(h:RdB i K K')(e:i<=j):RdB j K K':=fun N hN hR=>(h N om hR).mono om
theorem RdB.same(h1:∀b,(K'.s.bl b).reads=(K.s.bl b).reads)(h2:K'.hR=K.hR):RdB 0 K K':=fun N _ h b hb=>by
 rw[h1,h2]
 exact h b hb
theorem aN(R:Nat->Int){x n:Nat}(hx:x<12)(b:Nat):CH R (x:Nat) (n:Nat) b=if b=x then min (R x+(n:Int)) 65535 else R b:=by
 unfold CH;rw[AJ om,AP];unfold upd;split
 ·rw[show max (n:Int) 0=n by omega]
 ·rfl
theorem Kv(s:BG)(p b:Nat):((TQ s p).bl b).reads=if b=p / 8 then wrap64 ((s.bl b).reads+1) else (s.bl b).reads:=by
 show (if b=p / 8 then _ else s.bl b:JT).reads=_;split
 ·rename_i e;rw[e]
 ·rfl
theorem Rdn.one(h:Rdn N K)(hN:N+1<4611686018427387904){p:Nat}(hp:p<96)(h1:∀b,(K'.s.bl b).reads=if b=p / 8 then wrap64 ((K.s.bl b).reads+1) else (K.s.bl b).reads)(h2:K'.hR=CH K.hR (p / 8:Nat) (1:Nat)):Rdn (N+1) K':=fun b hb=>by
 obtain⟨a1,a2,a3⟩:=h b hb
 rw[h1 b,h2,aN K.hR om b]
 by_cases e:b=p / 8
 ·
  rw[AJ e,AJ e,<-e,a3]
  have:wrap64 ((K.s.bl b).reads+1)=(K.s.bl b).reads+1:=by unfold wrap64;omega
  rw[this]
  refine⟨om,om,om⟩
 ·
  rw[AI e,AI e]
  exact⟨a1,om,a3⟩
theorem Wa(K:BC)(p:Nat):RdB 1 K (rdK K p).1:=fun N hN h=>by
 unfold rdK rdF
 by_cases hp:p<96
 ·
  cases hon:K.s.on
  ·
   have e:readV K.s p=(K.s,[],7):=by unfold readV;rw[AI om,AJ hon]
   rw[e]
   exact(h.mono om:Rdn (N+1) K)
  ·
   rw[E6 hp hon]
   exact h.one hN hp (Kv K.s p) rfl
 ·
  have e:readV K.s p=(K.s,[],1):=by unfold readV;rw[AJ om]
  rw[e]
  exact(h.mono om:Rdn (N+1) K)
theorem TA(s:BG)(a:Int)(W:Nat->List Nat)(b:Nat):∀n,((wrN s a W n).1.bl b).reads=(s.bl b).reads:=by
 intro n
 induction n with
 | zero=>rfl
 | succ n ih=>
  have e:wrN s a W (n+1)=if (wrN s a W n).2=0 then writeR (wrN s a W n).1 a n (W n) else wrN s a W n:=rfl;rw[e];generalize wrN s a W n=X at *
  split
  ·rw[<-ih];unfold writeR;have key:∀x:Nat,((if b=x then failW (X.1.bl x) else X.1.bl b:JT)).reads=(X.1.bl b).reads:=fun x=>by
    split
    ·rename_i c;rw[c];rfl
    ·rfl
   split
   ·rfl
   ·split
    ·rfl
    ·split
     ·rfl
     ·split
      ·rfl
      ·split
       ·exact key _
       ·exact key _
  ·exact ih
theorem Wb(K:BC)(t:Bu)(D:List Nat):RdB 1 K (prK K t D).1:=fun N hN h=>by
 unfold prK
 show Rdn (N+1) { K with s:=(prF K.tl K.s K.r t D).1,r:=wrap64 (K.r+(prF K.tl K.s K.r t D).2.1),hR:=CH K.hR (t.p / 8:Nat) (prF K.tl K.s K.r t D).2.1 }
 have hw:=fun b=>TA K.s t.p (wordOf D (body t.p t.o t.q t.c t.l)) b 4
 have h0:∀(s:BG) (r:Int),(∀b,(s.bl b).reads=(K.s.bl b).reads)->Rdn (N+1) { K with s:=s,r:=r,hR:=CH K.hR (t.p / 8:Nat) (0:Nat) }:=fun s r hs b hb=>by
  obtain⟨a1,a2,a3⟩:=h b hb
  show 0<=(s.bl b).reads/\(s.bl b).reads<=_/\CH K.hR (t.p / 8:Nat) (0:Nat) b=min (s.bl b).reads 65535
  rw[hs b]
  refine⟨a1,om,?_⟩
  unfold CH
  split
  ·
   rename_i c
   rw[AP]
   unfold upd
   split
   ·
    rename_i e;rw[<-e,a3];omega
   ·
    exact a3
  ·
   exact a3
 unfold prF
 generalize wrN K.s t.p (wordOf D (body t.p t.o t.q t.c t.l)) 4=X at *
 dsimp only
 split
 ·
  exact h0 _ _ hw
 ·
  by_cases hp:t.p<96
  ·
   cases hon:X.1.on
   ·
    rw[aL hp hon]
    rw[AJ (show (7:Nat)≠0 by decide)]
    exact h0 _ _ hw
   ·
    rw[Pa hp hon]
    rw[AI (show ¬ (0:Nat)≠0 by decide)]
    refine h.one hN hp (fun b=>?_) rfl
    show ((TQ X.1 t.p).bl b).reads=_
    rw[Kv,hw b]
  ·
   have e:rdF K.tl X.1 K.r t.p=(X.1,K.r,Pg.zero,1):=by
    unfold rdF;have e:readV X.1 t.p=(X.1,[],1):=(by unfold readV;rw[AJ om]);rw[e];rfl
   rw[e,AJ (show (1:Nat)≠0 by decide)];exact h0 _ _ hw
theorem gQ(K:BC)(t:Bu)(D:List Nat):RdB 1 K (prM K t D).1:=by
 unfold prM;split
 ·exact(RdB.refl K).mono om
 ·exact Wb K t D
theorem Wc(K:BC)(b:Nat):RdB 0 K (erK K b).1:=fun N hN h=>by
 unfold erK
 have key:∀x,(eraseR K.s b).2≠0->((eraseR K.s b).1.bl x).reads=(K.s.bl x).reads:=fun x=>by
  unfold eraseR
  split
  ·
   exact fun _=>rfl
  ·
   split
   ·
    exact fun _=>rfl
   ·
    split
    ·
     exact fun _=>rfl
    ·
     split
     ·
      intro _
      show (if x=((b:Int)).toNat then failE (K.s.bl _) else K.s.bl x:JT).reads=_
      split
      ·
       rename_i c;rw[c];rfl
      ·
       rfl
     ·
      exact fun e=>absurd rfl e
 dsimp only
 split
 ·
  rename_i c
  intro x hx
  obtain⟨a1,a2,a3⟩:=h x hx
  have hr:((eraseR K.s b).1.bl x).reads=if x=b then 0 else (K.s.bl x).reads:=by
   revert c;unfold eraseR;split
   ·intro e;cases e
   ·split
    ·intro e;cases e
    ·split
     ·intro e;cases e
     ·split
      ·intro e;cases e
      ·intro _;rw[AP];show (if x=b then _ else (if x=b then _ else K.s.bl x:JT):JT).reads=_;split
       ·rfl
       ·rfl
  show 0<=((eraseR K.s b).1.bl x).reads/\((eraseR K.s b).1.bl x).reads<=_/\upd K.hR b 0 x=min ((eraseR K.s b).1.bl x).reads 65535;rw[hr];unfold upd;split
  ·exact⟨dc,om,dc⟩
  ·exact⟨a1,om,a3⟩
 ·rename_i c;intro x hx;show 0<=((eraseR K.s b).1.bl x).reads/\((eraseR K.s b).1.bl x).reads<=_/\K.hR x=min ((eraseR K.s b).1.bl x).reads 65535;rw[key x c];exact h x hx
end
theorem Wf.cnt{K:BC}(h:Wf K){s:BG}(hs:s.Ok)(r:Int)(b n:Int):Wf { K with s:=s,r:=wrap64 r,hR:=CH K.hR b n }:=
 ⟨hs,⟨Fa _,Fb _⟩,h.frm,h.map,h.vs,h.vp,h.vc,h.fl,h.nx,h.fr,h.cu,h.qu,Fk.cnt h.hea b n,h.tl⟩
theorem Pc{K:BC}(h:Wf K){p:Nat}(hp:p<96)(hon:K.s.on=true) :∃K',rdK K p=(K',K.tl (pgTo K.s p 4) p,0)/\WW K K'/\Wf K'/\K'={ K with s:=TQ K.s p,r:=wrap64 (K.r+1),hR:=CH K.hR (p / 8:Nat) 1 }:=by
 refine⟨{ K with s:=TQ K.s p,r:=wrap64 (K.r+1),hR:=CH K.hR (p / 8:Nat) 1 },?_,⟨rfl,rfl,rfl,rfl,rfl,rfl,rfl,rfl,rfl,rfl,rfl,rfl,⟨rfl,rfl,rfl,rfl,rfl,rfl⟩⟩,h.cnt (LU h.chip _) _ _ _,rfl⟩;unfold rdK;rw[Pa hp hon];rfl
theorem Ni{K:BC}(h:Wf K){T:KK}(hR:Ly K.s T){t:Bu}{D:List Nat}(hp:t.p<96)(hE:cQ t.p t D)(hon:K.s.on=true)(hB:Erd K.s t.p) :∃s' r' R',(prK K t D).1={ K with s:=s',r:=r',hR:=R' }/\Wf { K with s:=s',r:=r',hR:=R' } /\(((prK K t D).2=0/\cR K.s s' T t D)\/((prK K t D).2=8/\gO K.s s' T t true)\/((prK K t D).2=7/\gO K.s s' T t false)):=by
 have hx:=Ng h.tl h.chip hR hp hE hon hB K.r;unfold prK;generalize prF K.tl K.s K.r t D=P at *
 obtain⟨P1,P2,P3⟩:=P;dsimp only at hx ⊢;have hOk:P1.Ok:=by
  rcases hx with ⟨_,_,k⟩ | ⟨_,_,k⟩ | ⟨_,_,k⟩ <;> exact k.ok
 refine⟨P1,wrap64 (K.r+P2),CH K.hR (t.p / 8:Nat) P2,rfl,h.cnt hOk _ _ _,?_⟩;rcases hx with ⟨e,_,k⟩ | ⟨e,_,k⟩ | ⟨e,_,k⟩ <;> rw[e]
 ·exact AK ⟨rfl,k⟩
 ·exact AL (AK ⟨rfl,k⟩)
 ·exact AL (AL ⟨rfl,k⟩)
theorem We{K:BC}(h:Wf K){b:Nat}(hb:b<12)(hon:K.s.on=true) :((erK K b).2=0/\∃s' R' N',(erK K b).1={ K with s:=s',hR:=R',hN:=N' }/\Wf { K with s:=s',hR:=R',hN:=N' }/\s'.on=true/\∀j,s'.ch j=if 32*b<=j/\j<32*b+32 then DW else K.s.ch j) \/((erK K b).2=8/\∃s',(erK K b).1={ K with s:=s' }/\Wf { K with s:=s' }/\s'.on=true/\s'.ch=K.s.ch) \/((erK K b).2=7/\∃s',(erK K b).1={ K with s:=s' }/\Wf { K with s:=s' }/\s'.on=false/\s'.ch=K.s.ch):=by
 unfold erK;rcases FI h.chip hb hon with ⟨e,ho,hk,hc⟩ | ⟨e,ho,hk,hc⟩ | ⟨e,ho,hk,hc⟩
 ·refine AK ?_;dsimp only;rw[AJ e];refine⟨rfl,_,_,_,rfl,⟨hk,h.rr,h.frm,h.map,h.vs,h.vp,h.vc,h.fl,h.nx,h.fr,h.cu,h.qu,fun i hi=>?_,h.tl⟩,ho,hc⟩;obtain⟨h1,h2,h3⟩:=h.hea i hi;refine⟨?_,?_,h3⟩
  ·show 0<=upd K.hR b 0 i/\upd K.hR b 0 i<=65535;rcases BO K.hR b i 0 with ⟨_,e⟩ | ⟨_,e⟩ <;> rw[e]
   ·decide
   ·exact h1
  ·show 0<=upd K.hN b 0 i/\upd K.hN b 0 i<=65535;rcases BO K.hN b i 0 with ⟨_,e⟩ | ⟨_,e⟩ <;> rw[e]
   ·decide
   ·exact h2
 ·refine AL (AK ?_);dsimp only;rw[AI (by rw[e];decide),e];exact⟨rfl,_,rfl,h.chip' hk,ho,hc⟩
 ·refine AL (AL ?_);dsimp only;rw[AI (by rw[e];decide),e];exact⟨rfl,_,rfl,h.chip' hk,ho,hc⟩
theorem Js{K:BC}(h:Wf K)(hsp:K.sp=false)(hnx:K.nx<DX){T:KK}(hR:Ly K.s T)(hon:K.s.on=true){p o:Nat}(hp:p<96)(ho:o<25)(hf:o=24\/p % 8<6)(hB:Erd K.s p)(H:Dp){D:List Nat}(hD:H { K with nx:=K.nx+1 } K.nx=D)(hl:D.length=174)(hb:Bys D) :∃s' r' R',Wf { K with s:=s',r:=r',hR:=R',nx:=K.nx+1 } /\((frK H K p o=(if o=24 then ntK { K with s:=s',r:=r',hR:=R',nx:=K.nx+1 } else { K with s:=s',r:=r',hR:=R',nx:=K.nx+1 },⟨p,o,K.nx,0,false⟩,0)/\cR K.s s' T ⟨p,o,K.nx,0,false⟩ D) \/(frK H K p o=({ K with s:=s',r:=r',hR:=R',nx:=K.nx+1 },YU,8)/\gO K.s s' T ⟨p,o,K.nx,0,false⟩ true) \/(frK H K p o=({ K with s:=s',r:=r',hR:=R',nx:=K.nx+1 },YU,7)/\gO K.s s' T ⟨p,o,K.nx,0,false⟩ false)):=by
 have e:sqK K={ K with nx:=K.nx+1 }:=by
  unfold sqK;have e1:decide (K.nx=DX)=K.sp:=by rw[hsp];exact AN om
  have e2:min (K.nx+1) DX=K.nx+1:=om
  rw[e1,e2]
 have w1:Wf { K with nx:=K.nx+1 }:=by rw[<-e];exact h.sq
 have hn:=h.nx;have hM:DV (p:Nat) (o:Nat) (K.nx:Nat) ((0:Nat):Int) false:=by
  unfold DX at hnx;refine⟨⟨om,om,om,om⟩,?_⟩;by_cases e24:o=24
  ·exact AK ⟨om,rfl⟩
  ·have:=hf.resolve_left e24;exact AL ⟨om,om⟩
 have hE:cQ p ⟨p,o,K.nx,0,false⟩ D:=⟨rfl,hM,hl,hb⟩;obtain⟨s',r',R',h1,h2,h3⟩:=Ni (K:={ K with nx:=K.nx+1 }) w1 hR (t:=⟨p,o,K.nx,0,false⟩) hp hE hon hB;refine⟨s',r',R',h2,?_⟩;have e0:frK H K p o=if (prK (sqK K) ⟨p,o,K.nx,0,false⟩ (H (sqK K) K.nx)).2≠0 then ((prK (sqK K) ⟨p,o,K.nx,0,false⟩ (H (sqK K) K.nx)).1,YU,(prK (sqK K) ⟨p,o,K.nx,0,false⟩ (H (sqK K) K.nx)).2) else (if o=24 then ntK (prK (sqK K) ⟨p,o,K.nx,0,false⟩ (H (sqK K) K.nx)).1 else (prK (sqK K) ⟨p,o,K.nx,0,false⟩ (H (sqK K) K.nx)).1,⟨p,o,K.nx,0,false⟩,0):=by
  unfold frK;rw[AI (by rw[hsp];decide)]
 rw[e0,e,hD];clear e0;generalize prK { K with nx:=K.nx+1 } ⟨p,o,K.nx,0,false⟩ D=P at *
 obtain⟨P1,P2⟩:=P;dsimp only at h1 h3 ⊢;subst h1;rcases h3 with ⟨rfl,k⟩ | ⟨rfl,k⟩ | ⟨rfl,k⟩
 ·left;exact⟨by rw[AI dc],k⟩
 ·right;left;exact⟨by rw[AJ dc],k⟩
 ·right;right;exact⟨by rw[AJ dc],k⟩
theorem Bv{L:Nat->Int}{q:Int}(h:∀o,o<25->L o≠q):AA.own L q = -1:=AA.E7 h
section
variable {K:BC}{G:BV}{X:Nat->Prop}
structure Ic (K:BC) (p:Nat):Prop where
 lt:p<96
 F:K.F (p / 8)=1\/K.F (p / 8)=2
 fr:K.fr.o=true->K.fr.k=p / 8->p % 8<K.fr.i
 er:Erd K.s p
theorem Ic.free{p:Nat}(h:Ic K p)(hs:Sit K G X):∀o,o<25->K.L o≠(p:Int):=fun o ho e=>by
 have hL:K.L o≠-1:=by rw[e];omega
 obtain⟨l,D,hl⟩:=hs.liv o ho hL
 have h1:=hl.tab
 rw[e,AP,h.er.tab hs.rep] at h1
 cases h1
theorem Sit.pgn(h:Sit K G X){t:Bu}{s':BG}{on:Bool}(k:gO K.s s' G.T t on)(hS:Ic K t.p){r':Int}{R':Nat->Int}{nx':Nat}(hn:K.nx<=nx')(wf:Wf { K with s:=s',r:=r',hR:=R',nx:=nx' }) :Sit { K with s:=s',r:=r',hR:=R',nx:=nx' } G X where
 wf:=wf
 rep:=k.rep
 sts:=h.sts
 frs:=fun p hp e=>k.oth.erd (by rintro rfl;rcases hS.F with f | f <;> (rw[f] at e;exact absurd e dc)) (h.frs p hp e)
 opn:=h.opn
 frn:=fun e i hi h8=>k.oth.erd (fun e2=>by
  have e3:8*K.fr.k+i=t.p:=e2
  have h8':i<8:=h8
  have h1:K.fr.k=t.p / 8:=om
  have h2:=hS.fr e h1
  have h3:K.fr.i<=i:=hi
  omega) (h.frn e i hi h8)
 liv:=fun o ho hL=>by
  obtain⟨l,D,hl⟩:=h.liv o ho hL
  have hlt:=h.wf.lt ho hL
  have hne:(K.L o).toNat≠t.p:=fun e=>hS.free h o ho om
  exact⟨l,D,⟨hl.tab,hl.lost,hl.data,k.oth.gh hne hl.gh,fun z=>k.oth.gd hne (hl.gd z)⟩⟩
 nul:=h.nul
 blk:=h.blk
 flo:=h.flo
 old:=h.old
 seq:=fun p u D hT=>Aj (h.seq p u D hT) hn
 fls:=fun o ho=>Int.lt_of_lt_of_le (h.fls o ho) (by exact_mod_cast hn)
 sp:=h.sp
 dds:=h.dds
 cb:=h.cb
 cf:=h.cf
 cn:=h.cn
 nw:=h.nw
 z24:=h.z24
 lb:=h.lb
theorem Iw(T:KK)(p:Nat)(t:Bu)(D:List Nat):DE T p t D p=some (t,D):=by unfold DE;rw[AJ rfl]
theorem Ff(T:KK){p x:Nat}(t:Bu)(D:List Nat)(h:x≠p):DE T p t D x=T x:=by unfold DE;rw[AI h]
theorem DZ{T:KK}{p x:Nat}{t u:Bu}{D C:List Nat}(h:DE T p t D x=some (u,C)):(x=p/\u=t/\C=D)\/(x≠p/\T x=some (u,C)):=by
 unfold DE at h;split at h
 ·rename_i e;injection h with h;injection h with h1 h2;exact AK ⟨e,h1.symm,h2.symm⟩
 ·rename_i e;exact AL ⟨e,h⟩
def Dn {α:Type} (f:Nat->α) (n:Nat) (v:α):Nat->α:=fun j=>if j=n then v else f j
theorem Sit.put(h:Sit K G X){o p:Nat}{D:List Nat}(ho:o<24){s':BG}(k:cR K.s s' G.T ⟨p,o,K.nx,0,false⟩ D)(hS:Ic K p)(h6:p % 8<6)(h24:K.L 24≠-1){r':Int}{R':Nat->Int}(wf:Wf { K with s:=s',r:=r',hR:=R',nx:=K.nx+1 }) :Sit { K with s:=s',r:=r',hR:=R',nx:=K.nx+1,vs:=upd K.vs o K.nx,vc:=upd K.vc o 0,L:=upd K.L o p } { G with T:=DE G.T p ⟨p,o,K.nx,0,false⟩ D,a:=Dn G.a o D,z:=fun x=>x≠o/\G.z x } X:=by
 have hfree:=hS.free h;have hTn:=hS.er.tab h.rep;have hn1:=h.wf.nx;have hL:∀x,x≠o->upd K.L o p x=K.L x:=fun x hx=>by unfold upd;rw[AI hx]
 have hv:∀x,x≠o->upd K.vs o K.nx x=K.vs x:=fun x hx=>by unfold upd;rw[AI hx]
 have hc:∀x,x≠o->upd K.vc o 0 x=K.vc x:=fun x hx=>by unfold upd;rw[AI hx]
 have hLo:upd K.L o p o=(p:Int):=by unfold upd;rw[AJ rfl]
 have hvo:upd K.vs o K.nx o=K.nx:=by unfold upd;rw[AJ rfl]
 have hco:upd K.vc o 0 o=0:=by unfold upd;rw[AJ rfl]
 have hne:∀x,x<25->K.L x≠-1->(K.L x).toNat≠p:=fun x hx hL e=>hfree x hx (by have:=h.wf.lt hx hL;omega);exact {
  wf:=by
   have w1:=wf.ver (i:=o) (q:=K.nx) (c:=0) ⟨hn1.1,hn1.2⟩ dc
   refine w1.map' (h.wf.map.put o ⟨om,by have:=hS.lt;omega⟩ (fun _=>om) (Bv hfree)) fun i hi hLi=>?_
   show 1<=upd K.vs o K.nx i
   by_cases e:i=o
   ·
    rw[e,hvo];exact hn1.1
   ·
    rw[hv i e]
    rw[hL i e] at hLi
    exact h.wf.vp i hi hLi
  rep:=k.rep
  sts:=h.sts
  frs:=fun x hx e=>k.oth.erd (by rintro rfl;rcases hS.F with f | f <;> (rw[f] at e;exact absurd e dc)) (h.frs x hx e)
  opn:=h.opn
  frn:=fun e i hi h8=>k.oth.erd (fun e2=>by
   have e3:8*K.fr.k+i=p:=e2
   have h8':i<8:=h8
   have h1:K.fr.k=p / 8:=om
   have h2:=hS.fr e h1
   have h3:K.fr.i<=i:=hi
   omega) (h.frn e i hi h8)
  liv:=fun x hx hLx=>by
   by_cases e:x=o
   ·
    subst e
    refine⟨false,D,⟨?_,fun e=>(by cases e),fun _=>?_,?_,fun _=>?_⟩⟩
    ·
     show DE G.T p _ D (upd K.L x p x).toNat=some (⟨(upd K.L x p x).toNat,x,upd K.vs x K.nx x,upd K.vc x 0 x,false⟩,D)
     rw[hLo,hvo,hco,AP,Iw]
    ·
     show D=if x=24 then AB.Ir G.c else Dn G.a x D x
     rw[AI om]
     unfold Dn
     rw[AJ rfl]
    ·
     show Gh s' (upd K.L x p x).toNat
     rw[hLo,AP]
     exact k.gd.gh
    ·
     show Gd s' (upd K.L x p x).toNat
     rw[hLo,AP]
     exact k.gd
   ·
    have hLx':K.L x≠-1:=by rw[<-hL x e];exact hLx
    obtain⟨l,C,hl⟩:=h.liv x hx hLx'
    refine⟨l,C,⟨?_,fun z=>⟨e,hl.lost z⟩,fun z=>?_,?_,fun z=>?_⟩⟩
    ·
     show DE G.T p _ D (upd K.L o p x).toNat=some (⟨(upd K.L o p x).toNat,x,upd K.vs o K.nx x,upd K.vc o 0 x,l⟩,C)
     rw[hL x e,hv x e,hc x e,Ff _ _ _ (hne x hx hLx')]
     exact hl.tab
    ·
     show C=if x=24 then AB.Ir G.c else Dn G.a o D x
     unfold Dn
     rw[AI e]
     exact hl.data z
    ·
     show Gh s' (upd K.L o p x).toNat
     rw[hL x e]
     exact k.oth.gh (hne x hx hLx') hl.gh
    ·
     show Gd s' (upd K.L o p x).toNat
     rw[hL x e]
     exact k.oth.gd (hne x hx hLx') (hl.gd fun z2=>z ⟨e,z2⟩)
  nul:=fun x hx e=>by
   show Dn G.a o D x=_
   have hxo:x≠o:=by
    rintro rfl
    have e2:upd K.L x p x = -1:=e
    rw[hLo] at e2
    omega
   unfold Dn
   rw[AI hxo]
   have e2:upd K.L o p x = -1:=e
   rw[hL x hxo] at e2
   exact h.nul x hx e2
  blk:=fun x hx e=>by
   show K.F ((upd K.L o p x).toNat / 8)≠0/\(K.F ((upd K.L o p x).toNat / 8)=3->K.dd=true)
   by_cases ex:x=o
   ·
    subst ex
    rw[hLo,AP]
    rcases hS.F with f | f <;> rw[f] <;> exact⟨dc,fun e=>absurd e dc⟩
   ·
    rw[hL x ex]
    have e2:upd K.L o p x≠-1:=e
    rw[hL x ex] at e2
    exact h.blk x hx e2
  flo:=fun x hx e=>by
   show K.fl x<((upd K.vs o K.nx x:Nat):Int)
   by_cases ex:x=o
   ·
    subst ex
    rw[hvo]
    exact h.fls x hx
   ·
    rw[hv x ex]
    have e2:upd K.L o p x≠-1:=e
    rw[hL x ex] at e2
    exact h.flo x hx e2
  old:=fun x t C hT hcd=>by
   show upd K.L o p t.o≠-1/\(t.q<upd K.vs o K.nx t.o\/t.q=upd K.vs o K.nx t.o/\((x:Int)=upd K.L o p t.o\/t.c=(upd K.vc o 0 t.o+1) % 256/\G.c.B (x / 8)=false/\(K.F (x / 8)=3\/X (x / 8))))
   rcases DZ hT with ⟨rfl,rfl,rfl⟩ | ⟨hx,hT2⟩
   ·
    rw[hLo,hvo]
    exact⟨om,AL ⟨rfl,AK rfl⟩⟩
   ·
    by_cases e:t.o=o
    ·
     rw[e,hLo,hvo]
     exact⟨om,AK (h.seq x t C hT2)⟩
    ·
     rw[hL _ e,hv _ e,hc _ e]
     exact h.old x t C hT2 hcd
  seq:=fun x t C hT=>by
   show t.q<K.nx+1
   rcases DZ hT with ⟨rfl,rfl,rfl⟩ | ⟨hx,hT2⟩
   ·
    exact Nat.lt_succ_self _
   ·
    exact Nat.lt_succ_of_lt (h.seq x t C hT2)
  fls:=fun x hx=>by
   show K.fl x<((K.nx+1:Nat):Int)
   have:=h.fls x hx
   omega
  sp:=h.sp
  dds:=h.dds
  cb:=h.cb
  cf:=h.cf
  cn:=by
   show upd K.L o p 24≠-1->G.c.N=(upd K.vs o K.nx 24:Nat)/\_
   rw[hL 24 om,hv 24 om]
   exact h.cn
  nw:=fun e=>by
   have e2:upd K.L o p 24 = -1:=e
   rw[hL 24 om] at e2
   exact absurd e2 h24
  z24:=fun e=>h.z24 e.2
  lb:=fun x hx hLx=>by
   show G.c.B ((upd K.L o p x).toNat / 8)=false
   by_cases e:x=o
   ·
    rw[e,hLo,AP]
    cases e4:G.c.B (p / 8)
    ·
     rfl
    ·
     have:=h.cb (p / 8) (by have:=hS.lt;omega) e4
     rcases hS.F with f | f <;> (rw[f] at this;exact absurd this dc)
   ·
    rw[hL x e]
    exact h.lb x hx (by have h9:upd K.L o p x≠-1:=hLx;rw[hL x e] at h9;exact h9) }
end
section
variable {K:BC}{G:BV}{X:Nat->Prop}
theorem Sit.note(h:Sit K G X){p:Nat}{c:AB.Bp}{s':BG}(k:cR K.s s' G.T ⟨p,24,K.nx,0,false⟩ (AB.Ir c))(hS:Ic K p)(hdd:K.dd=false){r':Int}{R' N':Nat->Int}{fl' L':Nat->Int}{a':Nat->List Nat}(wf:Wf { K with s:=s',r:=r',hR:=R',hN:=N',ca:=0,nx:=K.nx+1,vs:=upd K.vs 24 K.nx,vc:=upd K.vc 24 0,L:=L',fl:=fl' })(hL24:L' 24=p)(hl:∀i,i<24->(L' i=K.L i/\fl' i=K.fl i/\a' i=G.a i)\/(L' i = -1/\K.L i≠-1/\fl' i=K.vs i/\a' i=List.replicate 174 0))(cB:∀b,b<12->(c.B b=true<->K.F b=3))(cF:∀i,i<24->c.F i=fl' i)(cN:c.N=K.nx)(cC:c.C=K.cu)(cT:AB.Zx c) :Sit { K with s:=s',r:=r',hR:=R',hN:=N',ca:=0,nx:=K.nx+1,vs:=upd K.vs 24 K.nx,vc:=upd K.vc 24 0,L:=L',fl:=fl' } { G with T:=DE G.T p ⟨p,24,K.nx,0,false⟩ (AB.Ir c),c:=c,a:=a' } X:=by
 have hfree:=hS.free h;have hTn:=hS.er.tab h.rep;have hv:∀x,x≠24->upd K.vs 24 K.nx x=K.vs x:=fun x hx=>by unfold upd;rw[AI hx]
 have hc:∀x,x≠24->upd K.vc 24 0 x=K.vc x:=fun x hx=>by unfold upd;rw[AI hx]
 have hvo:upd K.vs 24 K.nx 24=K.nx:=by unfold upd;rw[AJ rfl]
 have hco:upd K.vc 24 0 24=0:=by unfold upd;rw[AJ rfl]
 have hne:∀x,x<25->K.L x≠-1->(K.L x).toNat≠p:=fun x hx hL e=>hfree x hx (by have:=h.wf.lt hx hL;omega);have hlv:∀x,x<24->L' x≠-1->L' x=K.L x/\fl' x=K.fl x/\a' x=G.a x:=fun x hx e=>(hl x hx).elim id fun e2=>absurd e2.1 e;exact {
  wf:=wf
  rep:=k.rep
  sts:=h.sts
  frs:=fun x hx e=>k.oth.erd (by rintro rfl;rcases hS.F with f | f <;> (rw[f] at e;exact absurd e dc)) (h.frs x hx e)
  opn:=h.opn
  frn:=fun e i hi h8=>k.oth.erd (fun e2=>by
   have e3:8*K.fr.k+i=p:=e2
   have h8':i<8:=h8
   have h1:K.fr.k=p / 8:=om
   have h2:=hS.fr e h1
   have h3:K.fr.i<=i:=hi
   omega) (h.frn e i hi h8)
  liv:=fun x hx hLx=>by
   by_cases e:x=24
   ·
    subst e
    refine⟨false,AB.Ir c,⟨?_,fun e=>(by cases e),fun _=>rfl,?_,fun _=>?_⟩⟩
    ·
     show DE G.T p _ _ (L' 24).toNat=some (⟨(L' 24).toNat,24,upd K.vs 24 K.nx 24,upd K.vc 24 0 24,false⟩,_)
     rw[hL24,hvo,hco,AP,Iw]
    ·
     show Gh s' (L' 24).toNat
     rw[hL24,AP]
     exact k.gd.gh
    ·
     show Gd s' (L' 24).toNat
     rw[hL24,AP]
     exact k.gd
   ·
    obtain⟨e1,e2,e3⟩:=hlv x om hLx
    have hLx':K.L x≠-1:=by rw[<-e1];exact hLx
    obtain⟨l,C,hl⟩:=h.liv x hx hLx'
    refine⟨l,C,⟨?_,hl.lost,fun z=>?_,?_,fun z=>?_⟩⟩
    ·
     show DE G.T p _ _ (L' x).toNat=some (⟨(L' x).toNat,x,upd K.vs 24 K.nx x,upd K.vc 24 0 x,l⟩,C)
     rw[e1,hv x e,hc x e,Ff _ _ _ (hne x hx hLx')]
     exact hl.tab
    ·
     have:=hl.data z
     rw[AI e] at this
     show C=if x=24 then AB.Ir c else a' x
     rw[AI e,e3]
     exact this
    ·
     show Gh s' (L' x).toNat
     rw[e1]
     exact k.oth.gh (hne x hx hLx') hl.gh
    ·
     show Gd s' (L' x).toNat
     rw[e1]
     exact k.oth.gd (hne x hx hLx') (hl.gd z)
  nul:=fun x hx e=>by
   rcases hl x hx with ⟨e1,_,e3⟩ | ⟨_,_,_,e3⟩
   ·
    show a' x=_
    rw[e3]
    exact h.nul x hx (e1.symm.trans e)
   ·
    exact e3
  blk:=fun x hx e=>by
   show K.F ((L' x).toNat / 8)≠0/\(K.F ((L' x).toNat / 8)=3->K.dd=true)
   by_cases ex:x=24
   ·
    subst ex
    rw[hL24,AP]
    rcases hS.F with f | f <;> rw[f] <;> exact⟨dc,fun e=>absurd e dc⟩
   ·
    obtain⟨e1,_⟩:=hlv x om e
    rw[e1]
    exact h.blk x hx (by rw[<-e1];exact e)
  flo:=fun x hx e=>by
   show fl' x<((upd K.vs 24 K.nx x:Nat):Int)
   obtain⟨e1,e2,_⟩:=hlv x hx e
   rw[hv x om,e2]
   exact h.flo x hx (by rw[<-e1];exact e)
  old:=fun x t C hT hcd=>by
   show L' t.o≠-1/\(t.q<upd K.vs 24 K.nx t.o\/t.q=upd K.vs 24 K.nx t.o/\((x:Int)=L' t.o\/t.c=(upd K.vc 24 0 t.o+1) % 256/\c.B (x / 8)=false/\(K.F (x / 8)=3\/X (x / 8))))
   rcases DZ hT with ⟨rfl,rfl,rfl⟩ | ⟨hx,hT2⟩
   ·
    show L' 24≠-1/\_
    rw[hL24]
    exact⟨om,AL ⟨hvo.symm,AK rfl⟩⟩
   ·
    have hent:=h.rep.ent x t C hT2
    by_cases e:t.o=24
    ·
     rw[e,hL24,hvo]
     exact⟨om,AK (h.seq x t C hT2)⟩
    ·
     have ho24:t.o<24:=by
      have:=hent.2.may.1.2.1
      omega
     obtain⟨hcB,hfl⟩:=hcd.resolve_left e
     have hcB2:c.B (x / 8)=false:=hcB
     have hfl2:fl' t.o<t.q:=hfl
     have hF3:K.F (x / 8)≠3:=fun e3=>by
      rw[(cB (x / 8) om).2 e3] at hcB2
      cases hcB2
     have hGB:G.c.B (x / 8)=false:=by
      cases e4:G.c.B (x / 8)
      ·
       rfl
      ·
       exact absurd (h.cb (x / 8) om e4) hF3
     rcases hl t.o ho24 with ⟨e1,e2,_⟩ | ⟨e1,e2,e3,_⟩
     ·
      have:=h.old x t C hT2 (AL ⟨hGB,by rw[<-e2];exact hfl2⟩)
      rw[hv _ e,hc _ e,e1]
      exact⟨this.1,this.2.imp id fun ⟨u,v⟩=>⟨u,v.imp id fun ⟨v1,_,v3⟩=>⟨v1,hcB2,v3⟩⟩⟩
     ·
      have hflo:=h.flo t.o ho24 e2
      have:=h.old x t C hT2 (AL ⟨hGB,om⟩)
      rcases this.2 with h5 | h5 <;> omega
  seq:=fun x t C hT=>by
   show t.q<K.nx+1
   rcases DZ hT with ⟨rfl,rfl,rfl⟩ | ⟨hx,hT2⟩
   ·
    exact Nat.lt_succ_self _
   ·
    exact Nat.lt_succ_of_lt (h.seq x t C hT2)
  fls:=fun x hx=>by
   show fl' x<((K.nx+1:Nat):Int)
   rcases hl x hx with ⟨_,e2,_⟩ | ⟨_,e1,e2,_⟩
   ·
    rw[e2]
    have:=h.fls x hx
    omega
   ·
    rw[e2]
    obtain⟨l,D,hlv⟩:=h.liv x om e1
    have:=h.seq _ _ _ hlv.tab
    have h5:K.vs x<K.nx:=this
    omega
  sp:=h.sp
  dds:=h.dds
  cb:=fun b hb e=>(cB b hb).1 e
  cf:=cF
  cn:=fun _=>by
   show c.N=((upd K.vs 24 K.nx 24:Nat):Int)/\(c.C+8*((0:Nat):Int)) % 96=(K.cu:Int)/\AB.Zx c
   rw[hvo]
   have:=h.wf.cu
   exact⟨cN,by rw[cC];omega,cT⟩
  nw:=fun e=>by
   have e2:L' 24 = -1:=e
   rw[hL24] at e2
   omega
  z24:=h.z24
  lb:=fun x hx hLx=>by
   show c.B ((L' x).toNat / 8)=false
   by_cases e:x=24
   ·
    rw[e,hL24,AP]
    cases e4:c.B (p / 8)
    ·
     rfl
    ·
     have:=(cB (p / 8) (by have:=hS.lt;omega)).1 e4
     rcases hS.F with f | f <;> (rw[f] at this;exact absurd this dc)
   ·
    obtain⟨e1,_,_⟩:=hlv x om hLx
    rw[e1]
    have hLx':K.L x≠-1:=by rw[<-e1];exact hLx
    cases e4:c.B ((K.L x).toNat / 8)
    ·
     rfl
    ·
     have h7:=(h.wf.lt hx hLx').1
     have:=(h.blk x hx hLx').2 ((cB _ om).1 e4)
     rw[hdd] at this
     cases this }
end
theorem aO{L:Nat->Int}(h:AA.Okl L)(b:Nat):∀k,(∀o ∈ (AA.ofK L b k).map Int.toNat,o<25/\(8*b:Nat)<=L o/\L o<(8*b+k:Nat))/\((AA.ofK L b k).map Int.toNat).Pairwise (fun x y=>L x<L y)/\(∀o,o<25->(8*b:Nat)<=L o->L o<(8*b+k:Nat)->o ∈ (AA.ofK L b k).map Int.toNat):=by
 intro k
 induction k with
 | zero=>exact⟨fun o ho=>(by cases ho),List.Pairwise.nil,fun o _ h1 h2=>om⟩
 | succ k ih=>
  obtain⟨h1,h2,h3⟩:=ih;unfold AA.ofK;rw[map_append];rcases AA.Cc L ((8*b+k:Nat):Int) with ⟨i,hi,e,hL,_⟩ | ⟨e,hn⟩
  ·rw[AI (by rw[e];omega),e];have em:List.map Int.toNat [((i:Nat):Int)]=[i]:=(by simp);rw[em];refine⟨fun o ho=>?_,?_,fun o ho ha hb=>?_⟩
   ·rcases mem_append.1 ho with ho | ho
    ·obtain⟨a1,a2,a3⟩:=h1 o ho;exact⟨a1,a2,om⟩
    ·have:o=i:=by simpa using ho
     subst this;exact⟨hi,om,om⟩
   ·rw[pairwise_append];refine⟨h2,pairwise_singleton _ _,fun x hx y hy=>?_⟩;have:y=i:=by simpa using hy
    subst this;have:=(h1 x hx).2.2;omega
   ·by_cases e2:L o<(8*b+k:Nat)
    ·exact mem_append_left _ (h3 o ho ha e2)
    ·have:o=i:=h.inj o i ho hi om om;exact mem_append_right _ (by simp[this])
  ·rw[AJ e];simp only[map_nil,append_nil];refine⟨fun o ho=>?_,h2,fun o ho ha hb=>?_⟩
   ·obtain⟨a1,a2,a3⟩:=h1 o ho;exact⟨a1,a2,om⟩
   ·have:=hn o ho;exact h3 o ho ha om
theorem Ed{L:Nat->Int}(h:AA.Okl L)(b:Nat):(∀o ∈ (AA.ofL L b).map Int.toNat,o<25/\L o≠-1/\(L o).toNat / 8=b)/\((AA.ofL L b).map Int.toNat).Pairwise (fun x y=>L x<L y)/\(∀o,o<25->L o≠-1->(L o).toNat / 8=b->o ∈ (AA.ofL L b).map Int.toNat):=by
 obtain⟨h1,h2,h3⟩:=aO h b 8;refine⟨fun o ho=>?_,h2,fun o ho hL e=>?_⟩
 ·obtain⟨a1,a2,a3⟩:=h1 o ho;exact⟨a1,om,om⟩
 ·have:=(h.rng o ho).resolve_left hL;exact h3 o ho om om
structure OH (K K':BC):Prop where
 L:K'.L=K.L
 vs:K'.vs=K.vs
 vc:K'.vc=K.vc
 fl:K'.fl=K.fl
 nx:K'.nx=K.nx
 fr:K'.fr=K.fr
 dd:K'.dd=K.dd
 cu:K'.cu=K.cu
 ca:K'.ca=K.ca
 b3:∀b,b<12->(K.F b=3<->K'.F b=3)
 bd:bad3 K'.F=bad3 K.F
 fx:Nh K K'
 nf:∀b,b<12->(K.F b≠0->K'.F b≠0)/\(K.F b=2->K'.F b=2)
theorem OH.refl(K:BC):OH K K:=⟨rfl,rfl,rfl,rfl,rfl,rfl,rfl,rfl,rfl,fun _ _=>Iff.rfl,rfl,Nh.refl K,fun _ _=>⟨id,id⟩⟩
theorem OH.trans{K K' K'':BC}(h:OH K K')(k:OH K' K''):OH K K'':=⟨k.L.trans h.L,k.vs.trans h.vs,k.vc.trans h.vc,k.fl.trans h.fl,k.nx.trans h.nx,k.fr.trans h.fr,k.dd.trans h.dd,k.cu.trans h.cu,k.ca.trans h.ca,fun b hb=>(h.b3 b hb).trans (k.b3 b hb),k.bd.trans h.bd,h.fx.trans k.fx,fun b hb=>⟨fun e=>(k.nf b hb).1 ((h.nf b hb).1 e),fun e=>(k.nf b hb).2 ((h.nf b hb).2 e)⟩⟩
theorem WW.kee{K K':BC}(a:WW K K'):OH K K':=⟨a.L,a.vs,a.vc,a.fl,a.nx,a.fr,a.dd,a.cu,a.ca,fun b _=>by rw[a.F],by rw[a.F],a.fx,fun b _=>by rw[a.F];exact⟨id,id⟩⟩
def Xs (S:BW):Nat->Prop:=fun b=>S.tt.o=true/\b=S.tt.k
structure Iy (K:BC) (G:BV) (S:BW):Prop where
 fm:S.fm<12
 no:S.tt.o=false->S.ld=[]/\S.tt.i=0
 k12:S.tt.o=true->S.tt.k<12/\S.tt.k≠S.fm/\K.F S.tt.k=2/\S.tt.i<=8
 none:S.tt.o=true->∀o,o<25->K.L o≠-1->(K.L o).toNat / 8≠S.tt.k
 er:S.tt.o=true->∀i,S.tt.i<=i->i<8->Erd K.s (8*S.tt.k+i)
 all:S.tt.o=true->∀p t D,p / 8=S.tt.k->G.T p=some (t,D)->t ∈ S.ld
 ld:∀t ∈ S.ld,t.o<25/\K.L t.o≠-1/\(K.L t.o).toNat / 8=S.fm/\t.q=K.vs t.o/\t.c=(K.vc t.o+1) % 256/\t.p / 8=S.tt.k/\t.p<96/\(t.o=24\/t.p % 8<6)
 dt:∀t ∈ S.ld,∃D,G.T t.p=some (t,D)/\Gd K.s t.p/\(t.l=true->G.z t.o)/\(t.l=false->D=if t.o=24 then AB.Ir G.c else G.a t.o)
 ndo:(S.ld.map (·.o)).Nodup
 ndp:(S.ld.map (·.p)).Nodup
theorem Iy.alk{K K':BC}{G:BV}{S:BW}(h:Iy K G S)(a:WW K K'):Iy K' G S:=
 ⟨h.fm,h.no,by rw[a.F];exact h.k12,by rw[a.L];exact h.none,fun e i hi h8=>(h.er e i hi h8).ch a.ch,h.all,by rw[a.L,a.vs,a.vc];exact h.ld,fun t ht=>by
  obtain⟨D,h1,h2,h3⟩:=h.dt t ht
  exact⟨D,h1,h2.ch a.ch,h3⟩,h.ndo,h.ndp⟩
section
variable {K:BC}{G:BV}{X:Nat->Prop}
theorem Sit.copy(h:Sit K G X){t:Bu}{D:List Nat}{s':BG}(k:cR K.s s' G.T t D)(hS:Ic K t.p)(ho:t.o<25)(hL:K.L t.o≠-1)(hq:t.q=K.vs t.o)(hc:t.c=(K.vc t.o+1) % 256)(hX:X (t.p / 8)){r':Int}{R':Nat->Int}(wf:Wf { K with s:=s',r:=r',hR:=R' }) :Sit { K with s:=s',r:=r',hR:=R' } { G with T:=DE G.T t.p t D } X:=by
 have hne:∀x,x<25->K.L x≠-1->(K.L x).toNat≠t.p:=fun x hx hL e=>hS.free h x hx (by have:=h.wf.lt hx hL;omega);exact {
  wf:=wf
  rep:=k.rep
  sts:=h.sts
  frs:=fun p hp e=>k.oth.erd (by rintro rfl;rcases hS.F with f | f <;> (rw[f] at e;exact absurd e dc)) (h.frs p hp e)
  opn:=h.opn
  frn:=fun e i hi h8=>k.oth.erd (fun e2=>by
   have e3:8*K.fr.k+i=t.p:=e2
   have h8':i<8:=h8
   have h1:K.fr.k=t.p / 8:=om
   have h2:=hS.fr e h1
   have h3:K.fr.i<=i:=hi
   omega) (h.frn e i hi h8)
  liv:=fun o ho hL=>by
   obtain⟨l,C,hl⟩:=h.liv o ho hL
   refine⟨l,C,⟨?_,hl.lost,hl.data,k.oth.gh (hne o ho hL) hl.gh,fun z=>k.oth.gd (hne o ho hL) (hl.gd z)⟩⟩
   show DE G.T t.p t D (K.L o).toNat=_
   rw[Ff _ _ _ (hne o ho hL)]
   exact hl.tab
  nul:=h.nul
  blk:=h.blk
  flo:=h.flo
  old:=fun x u C hT hcd=>by
   rcases DZ hT with ⟨rfl,rfl,rfl⟩ | ⟨hx,hT2⟩
   ·
    refine⟨hL,AL ⟨hq,AL ⟨hc,?_,AL hX⟩⟩⟩
    cases e4:G.c.B (u.p / 8)
    ·
     rfl
    ·
     have:=h.cb (u.p / 8) (by have:=hS.lt;omega) e4
     rcases hS.F with f | f <;> (rw[f] at this;exact absurd this dc)
   ·
    exact h.old x u C hT2 hcd
  seq:=fun x u C hT=>by
   rcases DZ hT with ⟨rfl,rfl,rfl⟩ | ⟨hx,hT2⟩
   ·
    obtain⟨l,E,hl⟩:=h.liv u.o ho hL
    have:=h.seq _ _ _ hl.tab
    show u.q<K.nx
    rw[hq]
    exact this
   ·
    exact h.seq x u C hT2
  fls:=h.fls
  sp:=h.sp
  dds:=h.dds
  cb:=h.cb
  cf:=h.cf
  cn:=h.cn
  nw:=fun e=>by
   obtain⟨l,E,hl⟩:=h.liv t.o ho hL
   have:=h.nw e (K.L t.o).toNat
   rw[hl.tab] at this
   cases this
  z24:=h.z24
  lb:=h.lb }
theorem Wg(h:Sit K G X)(hon:K.s.on=true){o:Nat}(ho:o<25)(hL:K.L o≠-1) :∃K' D l,coK K o=(K',D,l,0)/\WW K K'/\Wf K'/\K'.s.on=true/\D.length=174/\Bys D/\(l=true->G.z o)/\(l=false->D=if o=24 then AB.Ir G.c else G.a o):=by
 obtain⟨hlt,hLe⟩:=h.wf.lt ho hL;obtain⟨l,D,hl⟩:=h.liv o ho hL;obtain⟨K',e,a,wf,hK'⟩:=Pc h.wf hlt hon;have hon':K'.s.on=true:=by rw[hK'];exact hon
 obtain⟨t1,t2,t3,t4⟩:=Lz h.wf.tl h.wf.chip h.rep hl.tab hl.gh;have hE:=(h.rep.ent _ _ _ hl.tab).2;have hat:AA.atC K.L o=0:=by
  unfold AA.atC;rw[AI om,AP,AI hL]
 unfold coK;rw[AI (by rw[hat];decide),e];dsimp only;rw[AI dc];cases hs:(K.tl (pgTo K.s (K.L o).toNat 4) (K.L o).toNat).sound
 ·rw[AI dc];have hng:¬ Gd K.s (K.L o).toNat:=fun g=>by rw[t1.2 g] at hs;cases hs
  have hz:G.z o:=Classical.byContradiction fun z=>hng (hl.gd z);have h24:o≠24:=by rintro rfl;exact h.z24 hz
  rw[AI h24];exact⟨K',_,true,rfl,a,wf,hon',by simp,fun n hn=>by rw[(mem_replicate.1 hn).2];decide,fun _=>hz,fun e=>by cases e⟩
 ·rw[AJ rfl];obtain⟨htg,hda⟩:=t4 hs;have hlo:=(t3 htg).2.2.2.2;rw[hda,hlo];exact⟨K',D,l,rfl,a,wf,hon',hE.len,hE.bys,hl.lost,hl.data⟩
theorem Sit.tkc(h:Sit K G X)(hX:∀b,b<12->¬ X b)(hf:1<=fre K.F) :tkC K.F=0/\tkM K.F<12/\K.F (tkM K.F)=0/\∃F',AD.setF (AD.tkF K.F 0 (tkM K.F)) (tkM K.F) 2=F'/\Sit { K with F:=F' } G (fun b=>b=tkM K.F)/\F' (tkM K.F)=2/\(∀b,b<12->b≠tkM K.F->F' b=K.F b)/\fre F'+1=fre K.F/\bad3 F'=bad3 K.F:=by
 obtain⟨h1,h2,h3⟩:=Hz h.wf.frm hf;refine⟨h1,h2,h3,_,rfl,?_⟩;have hat:∀b,b<12->AD.tkF K.F 0 (tkM K.F) b=upd K.F (tkM K.F) 1 b:=fun b hb=>D5 _ hb;have hm:AD.tkF K.F 0 (tkM K.F) (tkM K.F)≠3:=by rw[hat _ h2,Be];decide
 rw[DG h2 dc (AK hm)];have hF:∀b,b<12->b≠tkM K.F->upd (AD.tkF K.F 0 (tkM K.F)) (tkM K.F) 2 b=K.F b:=fun b hb hne=>by rw[BP _ _ hne,hat b hb,BP _ _ hne]
 have hFm:upd (AD.tkF K.F 0 (tkM K.F)) (tkM K.F) 2 (tkM K.F)=2:=Be _ _ _;have c0:=FJ K.F h2 1;have c3:=FK K.F h2 1;have d0:=FJ (AD.tkF K.F 0 (tkM K.F)) h2 2;have d3:=FK (AD.tkF K.F 0 (tkM K.F)) h2 2;have f0:fre (AD.tkF K.F 0 (tkM K.F))=fre (upd K.F (tkM K.F) 1):=by rw[Jr,WY]
 have f3:bad3 (AD.tkF K.F 0 (tkM K.F))=bad3 (upd K.F (tkM K.F) 1):=by rw[Jr,WZ]
 rw[h3] at c0 c3;rw[hat _ h2,Be] at d0 d3;simp at c0 c3 d0 d3;have b3:bad3 (upd (AD.tkF K.F 0 (tkM K.F)) (tkM K.F) 2)=bad3 K.F:=om
 refine⟨?_,hFm,hF,om,b3⟩;refine h.reF (Y:=fun b=>b=tkM K.F) _ K.fr K.dd ?_ ?_ ?_ ?_ ?_ ?_ ?_ ?_ ?_
 ·refine h.wf.F' ?_ h.wf.fr _;rw[BP _ _ om,Jr,Be];omega
 ·intro b hb;by_cases e:b=tkM K.F
  ·rw[e,hFm];decide
  ·rw[hF b hb e];exact h.sts b hb
 ·intro p hp e;by_cases e2:p / 8=tkM K.F
  ·rw[e2,hFm] at e;exact absurd e dc
  ·rw[hF _ om e2] at e;exact h.frs p hp e
 ·intro b hb;by_cases e:b=tkM K.F
  ·rw[e,hFm];refine⟨fun e=>absurd e dc,fun e2=>?_⟩;have:=(h.opn (tkM K.F) h2).2 e2;rw[h3] at this;exact absurd this dc
  ·rw[hF b hb e];exact h.opn b hb
 ·exact h.frn
 ·intro o ho hL;have hlt:=(h.wf.lt ho hL).1;rw[hF _ om (h.free_none h3 o ho hL)];exact h.blk o ho hL
 ·intro b hb e;rw[hF b hb]
  ·exact e
  ·rintro rfl;rw[h3] at e;exact absurd e dc
 ·exact fun b hb e=>absurd e (hX b hb)
 ·rw[b3];exact h.dds
structure YW (K:BC) (S:BW) (l:List Nat):Prop where
 mem:∀o ∈ l,o<25/\K.L o≠-1/\(K.L o).toNat / 8=S.fm/\S.tt.i<=(K.L o).toNat % 8
 ord:l.Pairwise (fun x y=>K.L x<K.L y)
 new:∀o ∈ l,∀t ∈ S.ld,t.o≠o
theorem L2{S:BW}(h:Sit K G (Xs S))(hC:Iy K G S)(hf:S.tt.o=false->1<=fre K.F)(hv:K.F S.fm≠0){o:Nat}(ho:o<25)(hi:S.tt.i<8/\(o=24\/S.tt.i<6)) :∃K' k,tiK K S o=(K',{ S with tt:=⟨true,k,S.tt.i+1⟩ },8*k+S.tt.i,0)/\OH K K'/\K'.s=K.s/\K'.tl=K.tl/\K'.sp=K.sp/\k<12/\k≠S.fm/\K'.F k=2/\(S.tt.o=true->k=S.tt.k)/\Sit K' G (fun b=>b=k)/\fre K'.F+(if S.tt.o=true then 0 else 1)=fre K.F /\(∀o,o<25->K'.L o≠-1->(K'.L o).toNat / 8≠k)/\(∀i,S.tt.i<=i->i<8->Erd K'.s (8*k+i))/\(∀p t D,p / 8=k->G.T p=some (t,D)->t ∈ S.ld)/\(∀t ∈ S.ld,t.p / 8=k)/\(∀b,b<12->b≠k->K'.F b=K.F b)/\(S.tt.o=false->K.F k=0):=by
 have hnx:∀k,AC.nxC ⟨true,k,S.tt.i⟩ o=0:=fun k=>by
  unfold AC.nxC;have h2:(o:Int)=24\/S.tt.i<6:=hi.2.imp (fun e=>om) id;rw[AI om,AI (show ¬ (true:Bool)=false by decide),AJ ⟨hi.1,h2⟩]
 have hts:∀k,AC.tkS ⟨true,k,S.tt.i⟩ o=⟨true,k,S.tt.i+1⟩:=fun k=>by unfold AC.tkS;rw[AJ (hnx k)]
 have hnv:∀k,(AC.nxV ⟨true,k,S.tt.i⟩ o).toNat=8*k+S.tt.i:=fun k=>by unfold AC.nxV;rw[AJ (hnx k)];show (k*8+S.tt.i:Int).toNat=_;omega
 cases e:S.tt.o
 ·obtain⟨hld,hi0⟩:=hC.no e;obtain⟨t1,t2,t3,F',hF',s1,f1,f2,f3,f4⟩:=h.tkc (fun b _ x=>by have:=x.1;rw[e] at this;cases this) (hf e);have hk:tkM K.F≠S.fm:=fun x=>hv (by rw[<-x];exact t3);refine⟨{ K with F:=F' },tkM K.F,?_,⟨rfl,rfl,rfl,rfl,rfl,rfl,rfl,rfl,rfl,fun b hb=>?_,f4,⟨rfl,rfl,rfl,rfl,rfl,rfl⟩,fun b hb=>?_⟩,rfl,rfl,rfl,t2,hk,f1,fun x=>(by cases x),s1,f3,h.free_none t3,fun i _ h8=>?_,fun p t D hp hT=>?_,fun t ht=>?_,f2,fun _=>t3⟩
  ·unfold tiK;rw[e,AI dc,AI (by rw[t1];decide),hF'];have hz:=hi0;have a1:=hts (tkM K.F);have a2:=hnx (tkM K.F);have a3:=hnv (tkM K.F);rw[hi0] at a1 a2 a3 ⊢;rw[a1,a2,a3]
  ·show K.F b=3<->F' b=3;by_cases x:b=tkM K.F
   ·rw[x,f1,t3];decide
   ·rw[f2 b hb x]
  ·show (K.F b≠0->F' b≠0)/\(K.F b=2->F' b=2);by_cases x:b=tkM K.F
   ·rw[x,f1,t3];decide
   ·rw[f2 b hb x];exact⟨id,id⟩
  ·exact h.frs _ om (by rw[show (8*tkM K.F+i) / 8=tkM K.F by omega];exact t3)
  ·have hp96:=(h.rep.ent p t D hT).1;have:=(h.frs p hp96 (by rw[hp];exact t3)).tab h.rep;rw[hT] at this;cases this
  ·rw[hld] at ht;cases ht
 ·obtain⟨k1,k2,k3,k4⟩:=hC.k12 e;have est:S.tt=⟨true,S.tt.k,S.tt.i⟩:=by
   generalize S.tt=st at *
   cases st
   simp_all
  refine⟨K,S.tt.k,?_,OH.refl K,rfl,rfl,rfl,k1,k2,k3,fun _=>rfl,h.mono (fun b _ x=>AL x.2),rfl,hC.none e,hC.er e,hC.all e,fun t ht=>(hC.ld t ht).2.2.2.2.2.1,fun _ _ _=>rfl,fun e2=>by cases e2⟩;unfold tiK;rw[AJ e];have a1:=hts S.tt.k;have a2:=hnx S.tt.k;have a3:=hnv S.tt.k;rw[<-est] at a1 a2 a3;rw[a1,a2,a3]
end
structure Cpb (K K':BC) (G G':BV) (S S':BW):Prop where
 sit:Sit K' G' (Xs S')
 kee:OH K K'
 gc:G'.c=G.c/\G'.a=G.a/\G'.z=G.z
 sh:S'.fm=S.fm/\S'.rt=S.rt/\S'.fd=S.fd
 fre:fre K'.F+(if S'.tt.o=true then 1 else 0)=fre K.F+(if S.tt.o=true then 1 else 0)
 fv:K'.F S.fm=K.F S.fm
 dk:S.tt.o=false->S'.tt.o=true->K.F S'.tt.k=0
 ds:S.tt.o=true->S'.tt.o=true/\S'.tt.k=S.tt.k
def cS (S:BW):Prop:=S.tt.i<=6\/((∃t ∈ S.ld,t.o=24)/\S.tt.i<=7)
structure mB (K:BC) (S:BW):Prop where
 o:S.tt.o=true
 k:S.tt.k<12
 ne:S.tt.k≠S.fm
 F:K.F S.tt.k=2
 none:∀o,o<25->K.L o≠-1->(K.L o).toNat / 8≠S.tt.k
def nG (bd:Bool) (l:List Nat) (K:BC) (G:BV) (S:BW) (Z:BC × BW × Nat):Prop:=
 ∃G',Cpb K Z.1 G G' S Z.2.1 /\
  ((Z.2.2=0/\Z.1.s.on=true/\Iy Z.1 G' Z.2.1/\cS Z.2.1/\Z.2.1.tt.i<=S.tt.i+l.length/\(∀o ∈ l,(bd=true/\o=24)\/∃t ∈ Z.2.1.ld,t.o=o)/\(∀t ∈ S.ld,t ∈ Z.2.1.ld)/\(∀t ∈ Z.2.1.ld,t ∈ S.ld\/(t.o ∈ l/\¬ (bd=true/\t.o=24)))) \/
   (Z.2.2=8/\Z.1.s.on=true/\mB Z.1 Z.2.1)\/(Z.2.2=7/\Z.1.s.on=false))
theorem Jt(bd:Bool):∀(l:List Nat) (K:BC) (G:BV) (S:BW),Sit K G (Xs S)->Iy K G S->YW K S l->cS S->K.s.on=true->(S.tt.o=false->1<=fre K.F)->K.F S.fm≠0->l.length+S.tt.i<=25->nG bd l K G S (cpK bd l K S):=by
 intro l
 induction l with
 | nil=>
  intro K G S h hC _ hB hon hf hv _;refine⟨G,⟨h,OH.refl K,⟨rfl,rfl,rfl⟩,⟨rfl,rfl,rfl⟩,rfl,rfl,fun e e2=>(by have e3:S.tt.o=true:=e2;rw[e] at e3;cases e3),fun e=>⟨e,rfl⟩⟩,AK ⟨rfl,hon,hC,hB,AM _,fun o ho=>(by cases ho),fun t ht=>ht,fun t ht=>AK ht⟩⟩
 | cons o l ih=>
  intro K G S h hC hD hB hon hf hv hl25;rw[An] at hl25;obtain⟨m1,m2,m3,m4⟩:=hD.mem o (mem_cons_self ..);have hord:=pairwise_cons.1 hD.ord;by_cases hsk:bd=true/\o=24
  ·have e:cpK bd (o :: l) K S=cpK bd l K S:=(by rw[cpK,AJ hsk]);rw[e];obtain⟨G',hb,hx⟩:=ih K G S h hC ⟨fun x hx=>hD.mem x (mem_cons_of_mem _ hx),hord.2,fun x hx=>hD.new x (mem_cons_of_mem _ hx)⟩ hB hon hf hv om;refine⟨G',hb,hx.imp (fun ⟨a1,a2,a3,a4,a5,a6,a7,a8⟩=>⟨a1,a2,a3,a4,by rw[An];omega,fun x hx=>?_,a7,fun t ht=>(a8 t ht).imp id fun ⟨c1,c2⟩=>⟨mem_cons_of_mem _ c1,c2⟩⟩) id⟩;rcases mem_cons.1 hx with rfl | hx
   ·exact AK hsk
   ·exact a6 x hx
  ·obtain⟨K1,D,lo,eco,a1,w1,on1,hDl,hDb,hz,hdt⟩:=Wg h hon m1 m2;have h1:Sit K1 G (Xs S):=h.alk a1 w1;have hC1:Iy K1 G S:=hC.alk a1;have hi6:S.tt.i<8/\(o=24\/S.tt.i<6):=by
    by_cases e24:o=24
    ·exact⟨om,AK e24⟩
    ·have:=(h.wf.map.may o om).resolve_left m2;have:=h.wf.lt m1 m2;exact⟨om,AL om⟩
   obtain⟨K2,k,eti,kee2,hs2,htl2,hsp2,k12,kne,kF,ktt,h2,f2,n2,er2,al2,ldk,Fo,kz⟩:=L2 h1 hC1 (by rw[a1.F];exact hf) (by rw[a1.F];exact hv) m1 hi6;have kee02:OH K K2:=a1.kee.trans kee2;have hp96:8*k+S.tt.i<96:=om;have hpk:(8*k+S.tt.i) / 8=k:=om;have hvs:=h.wf.vs o m1;have hvp:=h.wf.vp o m1 m2;have hl24:o=24->lo=false:=fun e=>by
    cases elo:lo
    ·rfl
    ·exact absurd (e ▸ hz elo) h.z24
   have hM:DV ((8*k+S.tt.i:Nat):Int) (o:Nat) (K2.vs o:Nat) (((K2.vc o+1) % 256:Nat):Int) lo:=by
    rw[kee02.vs];refine⟨⟨om,om,om,om⟩,?_⟩;by_cases e24:o=24
    ·exact AK ⟨om,hl24 e24⟩
    ·have:=hi6.2.resolve_left e24;exact AL ⟨om,om⟩
   have hE:cQ (8*k+S.tt.i) ⟨8*k+S.tt.i,o,K2.vs o,(K2.vc o+1) % 256,lo⟩ D:=⟨rfl,hM,hDl,hDb⟩;have hSp:Ic K2 (8*k+S.tt.i):=by
    refine⟨hp96,AL (by rw[hpk];exact kF),fun fo fk=>?_,er2 S.tt.i (AM _) hi6.1⟩;have:=(h2.opn k k12).2 ⟨fo,by rw[fk,hpk]⟩;rw[kF] at this;exact absurd this dc
   have hprm:prM K2 ⟨8*k+S.tt.i,o,K2.vs o,(K2.vc o+1) % 256,lo⟩ D=prK K2 ⟨8*k+S.tt.i,o,K2.vs o,(K2.vc o+1) % 256,lo⟩ D:=by
    unfold prM;rw[AI];rintro ⟨x,y⟩;have:=hl24 x;rw[this] at y;cases y
   obtain⟨s',r',R',ep,wf3,hp3⟩:=Ni (K:=K2) h2.wf h2.rep (t:=⟨8*k+S.tt.i,o,K2.vs o,(K2.vc o+1) % 256,lo⟩) hp96 hE (by rw[hs2];exact on1) hSp.er;have hLK2:K2.L o≠-1:=(by rw[kee02.L];exact m2);have eall:cpK bd (o :: l) K S=if (prK K2 ⟨8*k+S.tt.i,o,K2.vs o,(K2.vc o+1) % 256,lo⟩ D).2≠0 then ((prK K2 ⟨8*k+S.tt.i,o,K2.vs o,(K2.vc o+1) % 256,lo⟩ D).1,{ S with tt:=⟨true,k,S.tt.i+1⟩ },(prK K2 ⟨8*k+S.tt.i,o,K2.vs o,(K2.vc o+1) % 256,lo⟩ D).2) else cpK bd l (prK K2 ⟨8*k+S.tt.i,o,K2.vs o,(K2.vc o+1) % 256,lo⟩ D).1 { S with tt:=⟨true,k,S.tt.i+1⟩,ld:=S.ld ++ [⟨8*k+S.tt.i,o,K2.vs o,(K2.vc o+1) % 256,lo⟩] }:=by
    rw[cpK,AI hsk,eco];dsimp only;rw[AI dc,eti];dsimp only;rw[AI dc,hprm]
   rw[eall,ep];clear eall ep hprm;have hfr3:fre K2.F+1=fre K.F+(if S.tt.o=true then 1 else 0):=by
    rw[a1.F] at f2;split at f2 <;> rename_i c
    ·rw[AJ c];omega
    ·rw[AI c];omega
   have hFv:K2.F S.fm=K.F S.fm:=(by rw[Fo S.fm hC.fm (fun e=>kne e.symm),a1.F]);have hXs:∀(ld:List Bu),(fun b=>b=k)=Xs { S with tt:=⟨true,k,S.tt.i+1⟩,ld:=ld }:=fun ld=>by
    funext b;unfold Xs;simp
   rcases hp3 with ⟨ec,kd⟩ | ⟨ec,kn⟩ | ⟨ec,kn⟩
   ·rw[ec,AI dc];have h3:=h2.copy kd hSp m1 hLK2 rfl rfl hpk wf3;rw[hXs (S.ld ++ [⟨8*k+S.tt.i,o,K2.vs o,(K2.vc o+1) % 256,lo⟩])] at h3;have hTn:=hSp.er.tab h2.rep;have hnp:∀t ∈ S.ld,t.p≠8*k+S.tt.i:=fun t ht e=>by
     obtain⟨E,h5,_⟩:=hC.dt t ht;rw[e,hTn] at h5;cases h5
    have hno:∀t ∈ S.ld,t.o≠o:=hD.new o (mem_cons_self ..);have hC3:Iy { K2 with s:=s',r:=r',hR:=R' } { G with T:=DE G.T (8*k+S.tt.i) ⟨8*k+S.tt.i,o,K2.vs o,(K2.vc o+1) % 256,lo⟩ D } { S with tt:=⟨true,k,S.tt.i+1⟩,ld:=S.ld ++ [⟨8*k+S.tt.i,o,K2.vs o,(K2.vc o+1) % 256,lo⟩] }:=by
     refine⟨hC.fm,fun e=>(by cases e),fun _=>⟨k12,kne,kF,by show S.tt.i+1<=8;omega⟩,fun _=>n2,fun _ i hi h8=>?_,fun _ p t E hp hT=>?_,fun t ht=>?_,fun t ht=>?_,?_,?_⟩
     ·have hi':S.tt.i+1<=i:=hi;exact kd.oth.erd (by show 8*k+i≠8*k+S.tt.i;omega) (er2 i om h8)
     ·rcases DZ hT with ⟨_,e2,_⟩ | ⟨_,hT2⟩
      ·rw[e2];exact mem_append_right _ (mem_singleton.2 rfl)
      ·exact mem_append_left _ (al2 p t E hp hT2)
     ·rcases mem_append.1 ht with ht | ht
      ·obtain⟨b1,b2,b3,b4,b5,b6,b7⟩:=hC.ld t ht;refine⟨b1,by rw[show ({ K2 with s:=s',r:=r',hR:=R' }:BC).L=K.L from kee02.L];exact b2,by rw[show ({ K2 with s:=s',r:=r',hR:=R' }:BC).L=K.L from kee02.L];exact b3,?_,?_,ldk t ht,b7⟩
       ·show t.q=K2.vs t.o;rw[kee02.vs];exact b4
       ·show t.c=(K2.vc t.o+1) % 256;rw[kee02.vc];exact b5
      ·have:t=⟨8*k+S.tt.i,o,K2.vs o,(K2.vc o+1) % 256,lo⟩:=mem_singleton.1 ht;subst this;refine⟨m1,hLK2,?_,rfl,rfl,hpk,hp96,?_⟩
       ·show (K2.L o).toNat / 8=S.fm;rw[kee02.L];exact m3
       ·rcases hi6.2 with e | e
        ·exact AK e
        ·exact AL (by show (8*k+S.tt.i) % 8<6;omega)
     ·rcases mem_append.1 ht with ht | ht
      ·obtain⟨E,b1,b2,b3⟩:=hC1.dt t ht;refine⟨E,?_,kd.oth.gd (hnp t ht) (by rw[hs2];exact b2),b3⟩;show DE G.T _ _ D t.p=_;rw[Ff _ _ _ (hnp t ht)];exact b1
      ·have:t=⟨8*k+S.tt.i,o,K2.vs o,(K2.vc o+1) % 256,lo⟩:=mem_singleton.1 ht;subst this;exact⟨D,Iw _ _ _ _,kd.gd,hz,hdt⟩
     ·show ((S.ld ++ [(⟨8*k+S.tt.i,o,K2.vs o,(K2.vc o+1) % 256,lo⟩:Bu)]).map (fun t:Bu=>t.o)).Nodup;rw[map_append,nodup_append];refine⟨hC.ndo,(by simp),fun x hx y hy e=>?_⟩;obtain⟨t,ht,rfl⟩:=mem_map.1 hx;have:y=o:=by simpa using hy
      exact hno t ht (e.trans this)
     ·show ((S.ld ++ [(⟨8*k+S.tt.i,o,K2.vs o,(K2.vc o+1) % 256,lo⟩:Bu)]).map (fun t:Bu=>t.p)).Nodup;rw[map_append,nodup_append];refine⟨hC.ndp,(by simp),fun x hx y hy e=>?_⟩;obtain⟨t,ht,rfl⟩:=mem_map.1 hx;have:y=8*k+S.tt.i:=by simpa using hy
      exact hnp t ht (e.trans this)
    have hB3:cS { S with tt:=⟨true,k,S.tt.i+1⟩,ld:=S.ld ++ [⟨8*k+S.tt.i,o,K2.vs o,(K2.vc o+1) % 256,lo⟩] }:=by
     by_cases e24:o=24
     ·right;refine⟨⟨_,mem_append_right _ (mem_singleton.2 rfl),e24⟩,?_⟩;show S.tt.i+1<=7;rcases hB with b | ⟨⟨t,ht,b⟩,_⟩
      ·omega
      ·exact absurd (b.trans e24.symm) (hno t ht)
     ·left;show S.tt.i+1<=6;have:=hi6.2.resolve_left e24;omega
    have hDue:YW { K2 with s:=s',r:=r',hR:=R' } { S with tt:=⟨true,k,S.tt.i+1⟩,ld:=S.ld ++ [⟨8*k+S.tt.i,o,K2.vs o,(K2.vc o+1) % 256,lo⟩] } l:=by
     refine⟨fun x hx=>?_,?_,fun x hx t ht=>?_⟩
     ·obtain⟨b1,b2,b3,b4⟩:=hD.mem x (mem_cons_of_mem _ hx);have hlt:=hord.1 x hx;have hLx:K2.L=K.L:=kee02.L;refine⟨b1,by show K2.L x≠-1;rw[hLx];exact b2,by show (K2.L x).toNat / 8=S.fm;rw[hLx];exact b3,?_⟩;show S.tt.i+1<=(K2.L x).toNat % 8;rw[hLx];have:=h.wf.lt m1 m2;have:=h.wf.lt b1 b2;omega
     ·show l.Pairwise fun x y=>K2.L x<K2.L y;rw[kee02.L];exact hord.2
     ·rcases mem_append.1 ht with ht | ht
      ·exact hD.new x (mem_cons_of_mem _ hx) t ht
      ·have:t=⟨8*k+S.tt.i,o,K2.vs o,(K2.vc o+1) % 256,lo⟩:=mem_singleton.1 ht;subst this;rintro rfl;exact absurd (hord.1 _ hx) (Int.lt_irrefl _)
    obtain⟨G',hb,hx⟩:=ih _ _ _ h3 hC3 hDue hB3 kd.on (fun e=>by cases e) (by show K2.F S.fm≠0;rw[hFv];exact hv) (by show l.length+(S.tt.i+1)<=25;omega);refine⟨G',⟨hb.sit,kee02.trans ((show OH K2 { K2 with s:=s',r:=r',hR:=R' } from ⟨rfl,rfl,rfl,rfl,rfl,rfl,rfl,rfl,rfl,fun _ _=>Iff.rfl,rfl,⟨rfl,rfl,rfl,rfl,rfl,rfl⟩,fun _ _=>⟨id,id⟩⟩).trans hb.kee),hb.gc,hb.sh,?_,hb.fv.trans hFv,fun e _=>(by rw[(hb.ds rfl).2];have:=kz e;rw[a1.F] at this;exact this),fun e=>⟨(hb.ds rfl).1,(hb.ds rfl).2.trans (ktt e)⟩⟩,hx.imp (fun ⟨x1,x2,x3,x4,x5,x6,x7,x8⟩=>⟨x1,x2,x3,x4,?_,fun y hy=>?_,fun t ht=>x7 t (mem_append_left _ ht),fun t ht=>?_⟩) id⟩
    ·have:=hb.fre;rw[this];show fre K2.F+1=_;exact hfr3
    ·have x5':_<=(S.tt.i+1)+l.length:=x5;rw[An];omega
    ·rcases mem_cons.1 hy with rfl | hy
     ·exact AL ⟨_,x7 _ (mem_append_right _ (mem_singleton.2 rfl)),rfl⟩
     ·exact x6 y hy
    ·rcases x8 t ht with ht | ⟨c1,c2⟩
     ·rcases mem_append.1 ht with ht | ht
      ·exact AK ht
      ·have:t=⟨8*k+S.tt.i,o,K2.vs o,(K2.vc o+1) % 256,lo⟩:=mem_singleton.1 ht;subst this;exact AL ⟨mem_cons_self ..,hsk⟩
     ·exact AL ⟨mem_cons_of_mem _ c1,c2⟩
   ·rw[ec,AJ dc];have h3:=h2.pgn kn hSp (AM _) wf3;rw[hXs S.ld] at h3;refine⟨G,⟨h3,kee02.trans ⟨rfl,rfl,rfl,rfl,rfl,rfl,rfl,rfl,rfl,fun _ _=>Iff.rfl,rfl,⟨rfl,rfl,rfl,rfl,rfl,rfl⟩,fun _ _=>⟨id,id⟩⟩,⟨rfl,rfl,rfl⟩,⟨rfl,rfl,rfl⟩,hfr3,hFv,fun e _=>(by have:=kz e;rw[a1.F] at this;exact this),fun e=>⟨rfl,ktt e⟩⟩,AL (AK ⟨rfl,kn.on,⟨rfl,k12,kne,kF,n2⟩⟩)⟩
   ·rw[ec,AJ dc];have h3:=h2.pgn kn hSp (AM _) wf3;rw[hXs S.ld] at h3;refine⟨G,⟨h3,kee02.trans ⟨rfl,rfl,rfl,rfl,rfl,rfl,rfl,rfl,rfl,fun _ _=>Iff.rfl,rfl,⟨rfl,rfl,rfl,rfl,rfl,rfl⟩,fun _ _=>⟨id,id⟩⟩,⟨rfl,rfl,rfl⟩,⟨rfl,rfl,rfl⟩,hfr3,hFv,fun e _=>(by have:=kz e;rw[a1.F] at this;exact this),fun e=>⟨rfl,ktt e⟩⟩,AL (AL ⟨rfl,kn.on⟩)⟩
end Go.Proofs.YtbhbilcieodbhaaGreat
