/-
  Lemmas.
-/
import Derived.Test.YtmdpnpjacfedpaaGreatP08
set_option maxRecDepth 1000000
set_option maxHeartbeats 16000000
set_option linter.unusedSimpArgs false
namespace Go.Proofs.YtmdpnpjacfedpaaGreat
open List
open Go.Proofs.Tryz
open Go.RowKit
section
variable {w:Wd}{n base cap i x:Nat}{a:Option Addr}{l:List Int}{S:Bm}{v:Value}
theorem Up(w:Wd)(x y z u:Int)(l:Bool):(Instr.build 130 #[(0,.int .i64 x),(1,.int .i64 y),(2,.int .i64 z),(3,.int .i64 u),(4,.bool l)]).run prog w=.ok (.agg #[.int .i64 x,.int .i64 y,.int .i64 z,.int .i64 u,.bool l]) w:=kr
theorem im(w:Wd):(zeroValue 96).run prog w=.ok (.agg #[.int .i64 0,.int .i64 0]) w:=kr
theorem Uo.nil:Uo []:=fun _ h=>by cases h
theorem Ow.at_(h:AB.Ow w base (.slice a n cap) l){z:Int}(hi:l[i]?=some z):∃g,a=some ⟨g,0,none⟩/\w.cell? ⟨g,i,none⟩=some (.int .i64 z)/\base<=g:=by
 have no:=fun g hg=>World.ownsRow.cells (g:=g) h hg;have Go:=(List.getElem?_eq_some_iff.1 hi).1;rcases h.2 with ⟨_,e⟩ | ⟨g,it,La,hv,hg,_⟩
 ·omega
 ·have ea:a=some ⟨g,0,none⟩:=by
   simp only[Value.slice.injEq] at hv;exact hv.1
  refine⟨g,ea,?_,hg⟩;have:=no g (by rw[hv];rfl) i (.int .i64 z) (by rw[List.getElem?_map,hi];rfl);rw[Addr.add_mid,AW] at this;exact this
theorem Ow.len(h:AB.Ow w base (.slice a n cap) l)(hn:n=l.length):n<=cap:=by
 rcases h.2 with ⟨_,e⟩ | ⟨g,it,no,hv,hg,_,hc,_⟩
 ·omega
 ·simp only[Value.slice.injEq] at hv;omega
theorem ShAt.setLd(h:ShAt w x S v)(v':Value)(l:List CP):ShAt (w.setCell ⟨x,6,none⟩ v') x { S with ld:=l } v':=by
 refine Sto.ext (Sto.setCells [v'] 6 h) fun i hi=>?_;rw[Br];have:i=0\/i=1\/i=2\/i=3\/i=4\/i=5\/i=6:=om
 rcases this with rfl | rfl | rfl | rfl | rfl | rfl | rfl <;> rfl
def nP (bd:Bool) (r:List Nat) (Y:BH × List Nat × Bool × Nat) (t:BH × Bm × Nat × Nat) (o:Nat):BH × Bm × Nat:=
 if (prM t.1 ⟨t.2.2.1,o,t.1.vs o,(t.1.vc o+1) % 256,Y.2.2.1⟩ Y.2.1).2≠0 then ((prM t.1 ⟨t.2.2.1,o,t.1.vs o,(t.1.vc o+1) % 256,Y.2.2.1⟩ Y.2.1).1,t.2.1,(prM t.1 ⟨t.2.2.1,o,t.1.vs o,(t.1.vc o+1) % 256,Y.2.2.1⟩ Y.2.1).2) else cpK bd r (prM t.1 ⟨t.2.2.1,o,t.1.vs o,(t.1.vc o+1) % 256,Y.2.2.1⟩ Y.2.1).1 { t.2.1 with ld:=t.2.1.ld ++ [⟨t.2.2.1,o,t.1.vs o,(t.1.vc o+1) % 256,Y.2.2.1⟩] }
def my (bd:Bool) (r:List Nat) (Y:BH × List Nat × Bool × Nat) (S:Bm) (o:Nat):BH × Bm × Nat:=
 if (tiK Y.1 S o).2.2.2≠0 then ((tiK Y.1 S o).1,(tiK Y.1 S o).2.1,(tiK Y.1 S o).2.2.2) else nP bd r Y (tiK Y.1 S o) o
theorem X5(bd:Bool)(r:List Nat)(K:BH)(S:Bm)(o:Nat)(h:¬ (bd=true/\o=24)):cpK bd (o :: r) K S=if (coK K o).2.2.2≠0 then ((coK K o).1,S,(coK K o).2.2.2) else my bd r (coK K o) S o:=by
 rw[cpK,AI h];rfl
structure Cpi (A:Ad) (K:BH) (S:Bm) (x n:Nat) (bd:Bool) (r:List Nat) (Z:BH × Bm × Nat) (v0:Value) (l0:List Int) (w1 wr:Wd) (i:Nat) (Ki:BH) (Si:Bm) (v:Value):Prop where
 eq:cpK bd r Ki Si=Z
 core:CoreAt A wr Ki
 sh:ShAt wr x Si v
 lad:Lad wr w1.heap.size v Si.ld
 ok:AC.Fl Si.tt
 kep:NH K Ki
 sm:Sm S Si
 tgs:Uo Si.ld
 len:Si.ld.length<=i
 inn:AB.Ow wr n v0 l0
 chg:Chg (fun k=>Zu A x k\/w1.heap.size<=k) w1 wr
theorem Cpi.out{A:Ad}{K:BH}{bd:Bool}{r:List Nat}{Z:BH × Bm × Nat}{v0:Value}{l0:List Int}{w1 wr:Wd}{Ki:BH}{Si:Bm}(h:Cpi A K S x n bd r Z v0 l0 w1 wr i Ki Si v)(hw:Chg No w w1)(hi:i<=8)(hr:(Ki,Si)=(Z.1,Z.2.1)) :CoreAt A wr Z.1/\ShAt wr x Z.2.1 v/\Lad wr w.heap.size v Z.2.1.ld/\AC.Fl Z.2.1.tt/\Sm S Z.2.1/\Uo Z.2.1.ld/\Z.2.1.ld.length<=8/\NH K Z.1/\Chg (Zu A x) w wr:=by
 obtain⟨h1,h2⟩:=Prod.mk.inj hr;subst h1 h2;exact⟨h.core,h.sh,h.lad.lower hw.size,h.ok,h.sm,h.tgs,AY h.len hi,h.kep,(hw.mono (fun _ _ f=>f.elim)).trans' h.chg (fun k hk e=>e.elim id (fun e=>by have:=hw.size;omega))⟩
theorem NI(A:Ad)(w:Wd)(K:BH)(h:CoreAt A w K)(x:Nat)(S:Bm)(hS:ShAt w x S (.slice none 0 0))(ok:AC.Fl S.tt)(hfm:S.fm<12)(hld:S.ld=[])(bd:Bool)(Z:BH × Bm × Nat)(hZ:cpK bd ((AB.ofL K.L S.fm).map Int.toNat) K S=Z) :Calls prog 201 #[.pointer (some ⟨A.c,0,none⟩),.pointer (some ⟨x,0,none⟩),.bool bd] w fun e w'=>∃v,e=.returned (errV Z.2.2)/\CoreAt A w' Z.1/\ShAt w' x Z.2.1 v/\Lad w' w.heap.size v Z.2.1.ld/\AC.Fl Z.2.1.tt/\Sm S Z.2.1/\Uo Z.2.1.ld/\Z.2.1.ld.length<=8/\NH K Z.1/\Chg (Zu A x) w w':=by
 obtain⟨c2,-⟩:=h.cMap;obtain⟨d0,-⟩:=hS.cell 0 dc;replace d0:w.cell? ⟨x,0,none⟩=some (.int .i64 (S.fm:Nat)):=d0;have q:=CA;have g:=BQ;have HK:=BE h;have HS:=BE hS;have HOK:=BE ok;have HFM:=BE hfm;have HLD:=BE hld;have HZ:=BE hZ;have HLOW:=BE h.low;have hxl:=hS.lt;clear h hS ok hfm hld hZ;go_enter func201,ntmps201;go_wp2_with fail
 go_region_held3 (fun wx=>wx.cell? ⟨A.c,2,none⟩=some (.pointer (some ⟨A.ma,0,none⟩))/\wx.cell? ⟨x,0,none⟩=some (.int .i64 (S.fm:Nat)))
  (first | exact⟨c2,d0⟩ | exact⟨z2,y0⟩)
  (first | (go_at_call 189;refine(AB.XT _ A.ma K.L (HK.out.drewN 1).map S.fm HFM.out).mono ?_;rintro e w1 ⟨⟨a,cap,rfl,hO⟩,g1⟩;have K1:=(HK.out.drewN 1).chg0 g1;have S1:=(HS.out.chg (Chg.refl No w).drew (fun f=>f)).chg g1 (fun f=>f);obtain⟨z2,-⟩:=K1.cMap;have y0:w1.cell? ⟨x,0,none⟩=some (.int .i64 (S.fm:Nat)):=(S1.cell 0 dc).1;have HK1:=BE K1;have HS1:=BE S1;have HO1:=BE hO;have HG1:=BE ((Chg.refl No w).drew.trans g1);clear K1 S1 hO g1))
 all_goals
  have hs1:=HG1.out.size;have HO2:Hid (AB.Ow w1 w.heap.size (.slice a (AB.ofL K.L S.fm).length cap) (AB.ofL K.L S.fm)):=HO1.out;have HL8:Hid ((AB.ofL K.L S.fm).length<=8):=AB.Dh K.L S.fm 8;have HMEM:Hid (∀z ∈ AB.ofL K.L S.fm,∃o:Nat,o<25/\z=o/\K.L o≠-1):=fun z hz=>X0 hz;clear c2 d0 z2 y0 HO1 HK;obtain⟨n,HN⟩:∃n,Hid (n=(AB.ofL K.L S.fm).length):=⟨_,rfl⟩;generalize AB.ofL K.L S.fm=l at *
  rw[<-HN.out] at HO2 HL8 ⊢;have q0:∀w,(binOp .neq 46 (errV 0) .nilIface).run prog w=.ok (.bool false) w:=fun w=>q 0 w;have hn8:n<=8:=HL8.out;have HCAP:=BE (Ow.len HO2.out HN.out);go_wp2_with fail
  go_loopg [35] n (fun kx s35 wr=>∃i:Nat,s35=.int .i64 i/\i<=n/\n - i<=kx/\∃Ki Si v,Hid (Cpi A K S x w.heap.size bd ((l.map Int.toNat).drop i) Z (.slice a n cap) l w1 wr i Ki Si v))
  case atStart=>exact⟨0,rfl,om,om,K,S,_,⟨HZ.out,HK1.out,HS1.out,by rw[HLD.out];exact Lad.nil _ _,HOK.out,NH.refl K,⟨rfl,rfl,rfl⟩,by rw[HLD.out];exact Uo.nil,by rw[HLD.out];exact AM 0,HO2.out,Chg.refl _ _⟩⟩
  case round=>
   obtain⟨i,rfl,hin,hkx,Ki,Si,v,HI⟩:=hrel;by_cases hlt:i<n
   ·have hltz:(i:Int)<(n:Int):=om;obtain⟨z,hz⟩:∃z,l[i]?=some z:=⟨_,AU (by have:=HN.out;omega)⟩;obtain⟨o,ho,rfl,hlo⟩:=HMEM.out z (mem_of_getElem? hz);obtain⟨gi,rfl,ci,hgi⟩:=Ow.at_ HI.out.inn hz;have HDR:Hid ((l.map Int.toNat).drop i=o :: (l.map Int.toNat).drop (i+1)):=by
     show (l.map Int.toNat).drop i=o :: (l.map Int.toNat).drop (i+1);rw[drop_eq_getElem_cons (by rw[BA];have:=HN.out;omega)];congr 1;rw[getElem_map];have:=(List.getElem?_eq_some_iff.1 hz).2;rw[this];rfl
    have hHO:=BE ho;have HLO:=BE hlo;clear hz ho hlo;by_cases hsk:bd=true/\o=24
    ·obtain⟨rfl,rfl⟩:=hsk;have HI2:Hid (Cpi A K S x w.heap.size true ((l.map Int.toNat).drop (i+1)) Z (.slice (some ⟨gi,0,none⟩) n cap) l w1 wr (i+1) Ki Si v):=by
      have e:=HI.out.eq;rw[HDR.out,cpK,AJ ⟨rfl,rfl⟩] at e;exact⟨e,HI.out.core,HI.out.sh,HI.out.lad,HI.out.ok,HI.out.kep,HI.out.sm,HI.out.tgs,Nat.le_succ_of_le HI.out.len,HI.out.inn,HI.out.chg⟩
     clear HI HDR;go_wp2
     go_roundg (n - (i+1))
     case measure=>omega
     case rel=>exact⟨i+1,by simp,om,AM _,Ki,Si,v,HI2.out⟩
    ·have HEQ:Hid ((if (coK Ki o).2.2.2≠0 then ((coK Ki o).1,Si,(coK Ki o).2.2.2) else my bd ((l.map Int.toNat).drop (i+1)) (coK Ki o) Si o)=Z):=by
      have e:=HI.out.eq;rw[HDR.out,X5 _ _ _ _ _ hsk] at e;exact e
     have hs2:bd=false\/(bd=true/\(((o:Nat):Int) == 24)=false):=by
      cases bd
      ·exact AK rfl
      ·right;refine⟨rfl,?_⟩;have:¬ o=24:=fun e=>hsk ⟨rfl,e⟩;simp;omega
     have hco:=Un A wr Ki HI.out.core o hHO.out;have HYK:=BE (ij Ki o);generalize coK Ki o=Y at *
     clear hsk;rcases hs2 with rfl | ⟨rfl,hoz⟩
     all_goals
      go_wp2_with fail;refine hco.mono ?_;rintro e w2 ⟨vd,rfl,hD,k2,g2⟩;have HD:=BE hD;have HK2:=BE k2;have HS2:=BE (HI.out.sh.chg g2 (HI.out.core.apartSh HI.out.sh));have HL2:=BE (HI.out.lad.chg g2 (HI.out.lad.noCor HI.out.core));have HO3:=BE (HI.out.inn.chg g2 (fun k hk e f=>by have:=(HI.out.inn.block e).1;have:=HLOW.out _ (AK f);omega));have HG2:=BE (HI.out.chg.trans (g2.mono (fun _ _ e=>AK (AK e))));have HKP2:=BE (HI.out.kep.trans HYK.out);have hsr:=g2.size;clear hco hD k2 g2;by_cases hy:Y.2.2.2=0
      ·have HE2:=HEQ.out;rw[AI (by rw[hy];simp)] at HE2;unfold my at HE2;have HE3:=BE HE2;have HY:=BE hy;have hti:=PQ A w2 Y.1 HK2.out x Si v HS2.out HI.out.ok o;have HPL:=BE (MB Y.1 Si o HK2.out.wf HI.out.ok);have HTK:=BE (Xy Y.1 Si o);have HTS:=BE (Xz Y.1 Si o);generalize tiK Y.1 Si o=t at *
       rw[hy];clear hy HE2 HEQ;go_wp2_with fail;refine hti.mono ?_;rintro e w3 ⟨rfl,k3,s3,ok3,g3⟩;have HK3:=BE k3;have HS3:=BE s3;have HOK3:=BE ok3;have HL3:=BE (HL2.out.chg g3 (fun k hk e=>e.elim (HL2.out.noCor HK2.out k hk) (HL2.out.noSh HS2.out k hk)));have HO4:=BE (HO3.out.chg g3 (fun k hk e f=>by have:=(HI.out.inn.block e).1;exact f.elim (fun f=>by have:=HLOW.out _ (AK f);omega) (fun f=>om)));have HG3:=BE (HG2.out.trans (g3.mono (fun _ _ e=>AK e)));have HKP3:=BE (HKP2.out.trans HTK.out);have HM3:=BE g3;have hsr3:=g3.size;clear hti k3 s3 ok3 g3;by_cases ht:t.2.2.2=0
       ·have HE5:=HE3.out;rw[AI (by rw[ht];simp)] at HE5;unfold nP at HE5;have HE6:=BE HE5;have HPL2:=BE (HPL.out ht);obtain⟨gd,capd,rfl,hgd,hA,hDl,hDb⟩:=HD.out HY.out;obtain⟨cs,-⟩:=HK3.out.cVs o hHO.out;obtain⟨cc,-⟩:=HK3.out.cVc o hHO.out;have hvc:=HK3.out.wf.vc o hHO.out;have HTG:Hid (o<25/\(1<=t.1.vs o/\t.1.vs o<=1099511627775)/\(t.1.vc o+1) % 256<256):=⟨hHO.out,⟨HK3.out.wf.vp o hHO.out (by rw[HKP3.out.1];exact HLO.out),HK3.out.wf.vs o hHO.out⟩,Nat.mod_lt _ dc⟩;have hoz2:((o:Nat):Int)<25:=(by have:=hHO.out;omega);have hbt:=Up;have hzt:=IL;have hz89:=im;have hrem:IntKind.i64.wrap (((t.1.vc o:Nat):Int)+1)=((t.1.vc o+1:Nat):Int):=(by rw[IntKind.wrap_i64];omega);have hrem2:(((t.1.vc o+1:Nat):Int)).tmod 256=(((t.1.vc o+1) % 256:Nat):Int):=(by rw[Av om];omega);have HA:=BE hA;have HDL:=BE hDl;have HDB:=BE hDb;have HGD:=BE hgd;rw[ht];clear ht HE3 HE5 HD hA hDl hDb HPL hgd;generalize (t.1.vc o+1) % 256=cc1 at *
        generalize t.1.vc o+1=cc0 at *
        go_wp2_with fail;obtain⟨w4,hw4⟩:∃w4,w4=((w3.alloc (.cells #[.int .i64 (t.1.vs o:Nat),.int .i64 (t.1.vc o:Nat)] 96)).alloc (.cells #[.int .i64 (t.2.2.1:Nat),.int .i64 (o:Nat),.int .i64 (t.1.vs o:Nat),.int .i64 (cc1:Nat),.bool Y.2.2.1] 130)):=⟨_,rfl⟩;rw[<-hw4];have GA:Chg No w3 w4:=(by rw[hw4];exact((Chg.refl _ w3).alloc _).alloc _);have T4:Tg w4 (w3.heap.size+1) (t.2.2.1:Nat) (o:Nat) (t.1.vs o:Nat) (cc1:Nat) Y.2.2.1:=by
         rw[hw4];have e:=Tg.new (w3.alloc (.cells #[.int .i64 (t.1.vs o:Nat),.int .i64 (t.1.vc o:Nat)] 96)) (t.2.2.1:Nat) (o:Nat) (t.1.vs o:Nat) (cc1:Nat) Y.2.2.1;rw[show (w3.alloc (.cells #[.int .i64 (t.1.vs o:Nat),.int .i64 (t.1.vc o:Nat)] 96)).heap.size=w3.heap.size+1 by simp] at e;exact e
        have hsw:=HI.out.chg.size;have hnc:¬ Cor A gd:=fun e=>by have:=HLOW.out _ (AK e);have:=HGD.out;omega
        have hnx:¬ gd=x:=fun e=>by have:=HGD.out;omega
        have hnt:¬ Cor A (w3.heap.size+1):=fun e=>by have:=HLOW.out _ (AK e);omega
        have hpr:=ct A w4 t.1 (HK3.out.chg0 GA) ⟨t.2.2.1,o,t.1.vs o,cc1,Y.2.2.1⟩ HPL2.out.1 HPL2.out.2 HTG.out gd 0 capd Y.2.1 HDL.out HDB.out ((HA.out.chg HM3.out (fun e=>e.elim hnc hnx)).chg GA (fun f=>f)) hnc;have HPK:=BE (il t.1 ⟨t.2.2.1,o,t.1.vs o,cc1,Y.2.2.1⟩ Y.2.1);generalize prM t.1 ⟨t.2.2.1,o,t.1.vs o,cc1,Y.2.2.1⟩ Y.2.1=P at *
        refine hpr.mono ?_;rintro e w5 ⟨rfl,k5,g5⟩;have HK5:=BE k5;have HS5:=BE ((HS3.out.chg GA (fun f=>f)).chg g5 ((HK3.out.chg0 GA).apartSh (HS3.out.chg GA (fun f=>f))));have HL5:Hid (Lad w5 w1.heap.size v t.2.1.ld):=by
         show Lad w5 w1.heap.size v t.2.1.ld;rw[HTS.out.2];exact(HL3.out.new GA).chg g5 ((HL3.out.new GA).noCor (HK3.out.chg0 GA))
        have HO5:=BE ((HO4.out.new GA).chg g5 (fun k hk e f=>by have:=(HI.out.inn.block e).1;have:=HLOW.out _ (AK f);omega));have T5:=T4.chg g5 hnt;have HG5:=BE ((HG3.out.trans (GA.mono (fun _ _ f=>f.elim))).trans (g5.mono (fun _ _ e=>AK (AK e))));have HKP5:=BE (HKP3.out.trans HPK.out);have hsr4:=GA.size;have hsr5:=g5.size;clear hw4 hpr k5 g5 GA T4 cs cc hrem hrem2 hvc hnc hnx hnt hbt hzt hz89;by_cases hp:P.2=0
        ·have HE7:=HE6.out;rw[AI (by rw[hp];simp)] at HE7;have HE8:=BE HE7;obtain⟨d6,f6⟩:=HS5.out.cell 6 dc;replace d6:w5.cell? ⟨x,6,none⟩=some v:=d6;obtain⟨u0,u1,u2,u3,u4⟩:=T5.cells;have d6b:(w5.alloc (.cells #[.int .i64 (t.2.2.1:Nat),.int .i64 (o:Nat),.int .i64 (t.1.vs o:Nat),.int .i64 (cc1:Nat),.bool Y.2.2.1] 130)).cell? ⟨x,6,none⟩=some v:=(World.cell?_alloc_some _ _ _ (by rw[d6];rfl)).trans d6;have G6:Chg No w5 ((w5.alloc (.cells #[.int .i64 (t.2.2.1:Nat),.int .i64 (o:Nat),.int .i64 (t.1.vs o:Nat),.int .i64 (cc1:Nat),.bool Y.2.2.1] 130)).drew):=((Chg.refl No w5).alloc _).drew;have HL6:=BE (HL5.out.new G6);have HT6:Hid (Tg (w5.alloc (.cells #[.int .i64 (t.2.2.1:Nat),.int .i64 (o:Nat),.int .i64 (t.1.vs o:Nat),.int .i64 (cc1:Nat),.bool Y.2.2.1] 130)).drew w5.heap.size (t.2.2.1:Nat) (o:Nat) (t.1.vs o:Nat) (cc1:Nat) Y.2.2.1):=(Tg.new w5 (t.2.2.1:Nat) (o:Nat) (t.1.vs o:Nat) (cc1:Nat) Y.2.2.1);have HG6:=BE G6;have hlen:t.2.1.ld.length<=1048576:=(by rw[HTS.out.2];exact AY HI.out.len om);have HLEN:=BE hlen;have HBASE:Hid (w1.heap.size<=(w5.alloc (.cells #[.int .i64 (t.2.2.1:Nat),.int .i64 (o:Nat),.int .i64 (t.1.vs o:Nat),.int .i64 (cc1:Nat),.bool Y.2.2.1] 130)).drew.heap.size):=AY (show w1.heap.size<=w5.heap.size by omega) G6.size;have HVO:Hid (∀k,v.ownBlock=some k->¬ k=x):=HL5.out.noSh HS5.out;have HVC:Hid (∀k,v.ownBlock=some k->Ty w5 k 130/\w1.heap.size<=k/\k<w5.heap.size):=fun k hk=>HL5.out.ty hk;have HP:=BE hp;rw[hp];clear hp HE7 HE6 G6 hlen T5;generalize t.1.vs o=vs1 at *
         generalize t.2.2.1=pl at *
         generalize Y.2.2.1=lo at *
         go_wp2_with fail
         go_region_law (refine FL _ rfl (.tmp 91) (.tmp 93) rfl w1.heap.size v t.2.1.ld (by simp[Act.eval]) HL6.out w5.heap.size 1 ⟨pl,o,vs1,cc1,lo⟩ (by simp[Act.eval]) HT6.out HLEN.out HBASE.out ?_;intro g6 cap6 w6 hL hC;have S6:=(HS5.out.chg HG6.out (fun f=>f)).chg hC (fun e=>HVO.out _ e rfl);obtain⟨d7,f7⟩:=S6.cell 6 dc;have HL7:=BE hL;have HC7:=BE hC;have HS7:=BE S6;clear hL hC S6)
         all_goals
          have GX:Chg (·=x) w6 (w6.setCell ⟨x,6,none⟩ (.slice (some ⟨g6,0,none⟩) (t.2.1.ld.length+1) cap6)):=(Chg.refl (·=x) w6).setCell (AK rfl) _ _;have HX:=BE GX;have HI2:=BE (Cpi.mk (A:=A) (K:=K) (S:=S) (n:=w.heap.size) (v0:=.slice (some ⟨gi,0,none⟩) n cap) (l0:=l) (w1:=w1) (i:=i+1) HE8.out (((HK5.out.chg0 HG6.out).offTy (fun k _ e=>AL (HL6.out.ty e).1) HC7.out).offSh HS7.out HX.out) (HS7.out.setLd _ _) (HL7.out.chg HX.out (HL7.out.noSh HS7.out)) HOK3.out HKP5.out ⟨HTS.out.1.1.trans HI.out.sm.1,HTS.out.1.2.1.trans HI.out.sm.2.1,HTS.out.1.2.2.trans HI.out.sm.2.2⟩
           (by show Uo (t.2.1.ld ++ [_]);rw[HTS.out.2];exact HI.out.tgs.app HTG.out)
           (by show (t.2.1.ld ++ [_]).length<=i+1;rw[HTS.out.2,AV];exact Nat.succ_le_succ HI.out.len)
           (((HO5.out.new HG6.out).chg HC7.out (fun k hk e f=>by have:=(HO2.out.block e).2;have:=(HVC.out k f).2.1;omega)).chg HX.out (fun k hk e f=>by have:=(HO2.out.block e).1;omega))
           (((HG5.out.trans (HG6.out.mono (fun _ _ f=>f.elim))).trans (HC7.out.mono (fun k _ e=>AL (HVC.out k e).2.1))).trans (HX.out.mono (fun _ _ e=>AK (AL e)))))
          clear GX HX HE8 HK5 HL6 HC7 HS7 HL7 HI HO5 HG5 HG6;go_wp2
          go_roundg (n - (i+1))
          case measure=>omega
          case rel=>exact⟨i+1,by simp,om,AM _,_,_,_,HI2.out⟩
        ·replace q:∀w,(binOp .neq 46 (errV P.2) .nilIface).run prog w=.ok (.bool true) w:=fun w=>by rw[q,AN hp];rfl
         have HE9:=HE6.out;rw[AJ hp] at HE9;have HE4:=BE HE9;clear HE6 HE9 hp;generalize P.2=p2 at *
         go_wp2;go_ret;rw[<-HE4.out];exact⟨v,rfl,HK5.out,HS5.out,HL5.out.lower om,HOK3.out,⟨HTS.out.1.1.trans HI.out.sm.1,HTS.out.1.2.1.trans HI.out.sm.2.1,HTS.out.1.2.2.trans HI.out.sm.2.2⟩,by rw[HTS.out.2];exact HI.out.tgs,by rw[HTS.out.2];exact AY HI.out.len om,HKP5.out,(HG1.out.mono (fun _ _ f=>f.elim)).trans' HG5.out (fun k hk e=>e.elim id (fun e=>om))⟩
       ·replace q:∀w,(binOp .neq 46 (errV t.2.2.2) .nilIface).run prog w=.ok (.bool true) w:=fun w=>by rw[q,AN ht];rfl
        have HE4:Hid ((t.1,t.2.1,t.2.2.2)=Z):=by
         have e:=HE3.out;rw[AJ ht] at e;exact e
        clear HE3;generalize t.2.2.2=t2 at *
        go_wp2;go_ret;rw[<-HE4.out];exact⟨v,rfl,HK3.out,HS3.out,by rw[HTS.out.2];exact HL3.out.lower om,HOK3.out,⟨HTS.out.1.1.trans HI.out.sm.1,HTS.out.1.2.1.trans HI.out.sm.2.1,HTS.out.1.2.2.trans HI.out.sm.2.2⟩,by rw[HTS.out.2];exact HI.out.tgs,by rw[HTS.out.2];exact AY HI.out.len om,HKP3.out,(HG1.out.mono (fun _ _ f=>f.elim)).trans' HG3.out (fun k hk e=>e.elim id (fun e=>om))⟩
      ·replace q:∀w,(binOp .neq 46 (errV Y.2.2.2) .nilIface).run prog w=.ok (.bool true) w:=fun w=>by rw[q,AN hy];rfl
       have HE4:Hid ((Y.1,Si,Y.2.2.2)=Z):=by
        have e:=HEQ.out;rw[AJ hy] at e;exact e
       clear HEQ hy;generalize Y.2.2.2=y2 at *
       go_wp2;go_ret;rw[<-HE4.out];exact⟨v,rfl,HK2.out,HS2.out,HL2.out.lower om,HI.out.ok,HI.out.sm,HI.out.tgs,by exact AY HI.out.len om,HKP2.out,(HG1.out.mono (fun _ _ f=>f.elim)).trans' HG2.out (fun k hk e=>e.elim id (fun e=>om))⟩
   ·have hltz:¬ (i:Int)<(n:Int):=om;have e:cpK bd ((l.map Int.toNat).drop i) Ki Si=(Ki,Si,0):=by
     rw[Ax (by rw[BA];have:=HN.out;omega)];rfl
    have HE:Hid ((Ki,Si,0)=Z):=e.symm.trans HI.out.eq;clear e;go_wp2;go_ret;obtain⟨r1,r2⟩:=HI.out.out HG1.out om (by rw[<-HE.out]);exact⟨by rw[<-HE.out];rfl,r1,v,r2⟩
end
theorem X6(H:GS)(K:BH)(p o:Nat):frK H K p o=if K.sp then (K,Zt,14) else if (prK (sqK K) ⟨p,o,K.nx,0,false⟩ (H (sqK K) K.nx)).2≠0 then ((prK (sqK K) ⟨p,o,K.nx,0,false⟩ (H (sqK K) K.nx)).1,Zt,(prK (sqK K) ⟨p,o,K.nx,0,false⟩ (H (sqK K) K.nx)).2) else (if o=24 then Nd (prK (sqK K) ⟨p,o,K.nx,0,false⟩ (H (sqK K) K.nx)).1 else (prK (sqK K) ⟨p,o,K.nx,0,false⟩ (H (sqK K) K.nx)).1,⟨p,o,K.nx,0,false⟩,0):=rfl
theorem SY(H:GS)(K:BH)(p o:Nat)(h:(frK H K p o).2.2=0):(frK H K p o).2.1=⟨p,o,K.nx,0,false⟩:=by
 rw[X6] at h ⊢;generalize prK (sqK K) ⟨p,o,K.nx,0,false⟩ (H (sqK K) K.nx)=z at h ⊢;cases hs:K.sp
 ·rw[hs,AI dc] at h;rw[AI dc];by_cases hz:z.2=0
  ·rw[AI (by rw[hz];simp)]
  ·rw[AJ hz] at h;exact absurd h hz
 ·rw[hs,AJ rfl] at h;cases h
def nQ (t:BH × Bm × Nat × Nat) (fm:Nat):BH × Bm × Nat:=
 if (frK (bdH fm) t.1 t.2.2.1 24).2.2≠0 then ((frK (bdH fm) t.1 t.2.2.1 24).1,t.2.1,(frK (bdH fm) t.1 t.2.2.1 24).2.2) else
 ((cmK (frK (bdH fm) t.1 t.2.2.1 24).1 { t.2.1 with ld:=t.2.1.ld ++ [(frK (bdH fm) t.1 t.2.2.1 24).2.1] } 3).1,{ t.2.1 with ld:=t.2.1.ld ++ [(frK (bdH fm) t.1 t.2.2.1 24).2.1] },(cmK (frK (bdH fm) t.1 t.2.2.1 24).1 { t.2.1 with ld:=t.2.1.ld ++ [(frK (bdH fm) t.1 t.2.2.1 24).2.1] } 3).2)
theorem io(K:BH)(S:Bm):cbK K S=if (tiK K S 24).2.2.2≠0 then ((tiK K S 24).1,(tiK K S 24).2.1,(tiK K S 24).2.2.2) else nQ (tiK K S 24) S.fm:=rfl
theorem EP(A:Ad)(w:Wd)(K:BH)(h:CoreAt A w K)(x n:Nat)(S:Bm)(v:Value)(hS:ShAt w x S v)(hL:Lad w n v S.ld)(hn:n<=w.heap.size)(ok:AC.Fl S.tt)(hfm:S.fm<12)(hT:Uo S.ld)(hlen:S.ld.length<=1000)(Z:BH × Bm × Nat)(hZ:cbK K S=Z) :Calls prog 202 #[.pointer (some ⟨A.c,0,none⟩),.pointer (some ⟨x,0,none⟩)] w fun e w'=>∃v',e=.returned (errV Z.2.2)/\CoreAt A w' Z.1/\ShAt w' x Z.2.1 v'/\Lad w' n v' Z.2.1.ld/\AC.Fl Z.2.1.tt/\Sm S Z.2.1/\Chg (fun k=>Zu A x k\/n<=k) w w':=by
 have G0:Chg No w (w.alloc (.cells #[.pointer (some ⟨x,0,none⟩)] 141)):=(Chg.refl _ w).alloc _;have K0:=h.chg0 G0;have S0:=hS.chg G0 (fun f=>f);have L0:=hL.new G0;have hu:=PQ A _ K K0 x S v S0 ok 24;have hs:=BE (MB K S 24 h.wf ok);have x6:=BE (Xy K S 24);have it:=BE (Xz K S 24);have G2:=BE h.low;have lb:=hS.lt;have hm:(w.alloc (.cells #[.pointer (some ⟨x,0,none⟩)] 141)).cell? ⟨w.heap.size,0,none⟩=some (.pointer (some ⟨x,0,none⟩)):=by
  have h1:(w.alloc (.cells #[.pointer (some ⟨x,0,none⟩)] 141)).heap[w.heap.size]?=some (.cells #[.pointer (some ⟨x,0,none⟩)] 141):=(show (w.heap.push _)[w.heap.size]?=_ by simp);rw[cell_of_row _ _ _ _ _ _ h1];rfl
 have hg:=BE ((io K S).symm.trans hZ);have hr:=BE K0;have hb:=BE S0;have G3:=BE L0;have W1:=BE G0;have C4:Hid (∀k,v.ownBlock=some k->n<=k/\k<w.heap.size):=fun k hk=>(hL.ty hk).2;have HT:=BE hT;have ha:=BE hlen;have pg:=BE hfm;have HN:=BE hn;have q:=CA;have g:=BQ;have h5:(w.alloc (.cells #[.pointer (some ⟨x,0,none⟩)] 141)).heap.size=w.heap.size+1:=by simp
 clear h hS hL ok hfm hT hlen hZ G0 K0 S0 L0 hn;go_enter func202,ntmps202;go_wp2_with fail;generalize (w.alloc (.cells #[.pointer (some ⟨x,0,none⟩)] 141))=w0 at *
 generalize tiK K S 24=t at *
 refine hu.mono ?_;rintro e w3 ⟨rfl,k3,s3,o2,g3⟩;have B':¬ Cor A w.heap.size:=fun e=>by have:=G2.out _ (AK e);omega
 have B3:w3.cell? ⟨w.heap.size,0,none⟩=some (.pointer (some ⟨x,0,none⟩)):=(g3.cell om (fun e=>e.elim B' (fun e=>om)) 0).trans hm;have h4:=BE B';have o0:=BE k3;have oo:=BE s3;have no:=BE o2;have oi:=BE (G3.out.chg g3 (fun k hk e=>e.elim (G3.out.noCor hr k hk) (G3.out.noSh hb k hk)));have C5:=BE ((W1.out.mono (fun _ _ f=>f.elim)).trans g3);have gf:=g3.size;clear hu k3 s3 o2 g3 hm B';by_cases ht:t.2.2.2=0
 ·have h2:=hg.out;rw[AI (by rw[ht];simp)] at h2;unfold nQ at h2;have wr:=BE h2;have f4:=BE (hs.out ht);have l2:=GM w3 A.c 226 #[.pointer (some ⟨w.heap.size,0,none⟩)];have x8:∀(fn:Fn) (first cap:Array Value) (w:Wd),(Instr.makeFunc fn first cap).run prog w=.ok (.func fn first cap) w:=fun _ _ _ _=>rfl;rw[ht];clear ht hg h2 hs;go_wp2_with fail;refine l2.mono ?_;rintro e w4 ⟨rfl,a1,a2,a3,g4⟩;have K4:=o0.out.chg0 g4;have S4:=oo.out.chg g4 (fun f=>f);have B4:=(g4.cell (World.block_lt_of_cell? w3 ⟨w.heap.size,0,none⟩ B3) (fun f=>f) 0).trans B3;obtain⟨d0,-⟩:=S4.cell 0 dc;replace d0:w4.cell? ⟨x,0,none⟩=some (.int .i64 (S.fm:Nat)):=by rw[<-it.out.1.1];exact d0
  have qa:=o0.out.low;have K':=Xu A w4 w.heap.size x S.fm B4 d0 pg h4 (K4.apartSh S4) (World.block_lt_of_cell? w4 ⟨w.heap.size,0,none⟩ B4) S4.lt;have hH:=Dy A w4 226 #[.pointer (some ⟨w.heap.size,0,none⟩)] _ K' w3.heap.size (w3.heap.size+1) a1 a2 (fun e=>by have:=qa _ (AK e);omega) (fun e=>by have:=qa _ (AK e);omega) om om (cZ S.fm);have rs:=K4.wf.nx;have h6:=SW A w4 102 #[.pointer (some ⟨w3.heap.size,0,none⟩),.pointer (some ⟨w3.heap.size+1,0,none⟩)] _ hH w4 t.1 K4 (Chg.refl _ _) t.2.2.1 24 ⟨⟨by have:=f4.out.1;omega,om,om,om⟩,AK ⟨rfl,rfl⟩⟩;replace h6:Calls prog 93 #[.pointer (some ⟨A.c,0,none⟩),.int .i64 (t.2.2.1:Nat),.int .i64 ((24:Nat):Int),.func (.func 102) #[] #[.pointer (some ⟨w3.heap.size,0,none⟩),.pointer (some ⟨w3.heap.size+1,0,none⟩)]] w4 fun e w'=>e=.returned (.tuple #[.agg #[.int .i64 ((frK (bdH S.fm) t.1 t.2.2.1 24).2.1.p:Nat),.int .i64 ((frK (bdH S.fm) t.1 t.2.2.1 24).2.1.o:Nat),.int .i64 ((frK (bdH S.fm) t.1 t.2.2.1 24).2.1.q:Nat),.int .i64 ((frK (bdH S.fm) t.1 t.2.2.1 24).2.1.c:Nat),.bool (frK (bdH S.fm) t.1 t.2.2.1 24).2.1.l],errV (frK (bdH S.fm) t.1 t.2.2.1 24).2.2])/\CoreAt A w' (frK (bdH S.fm) t.1 t.2.2.1 24).1/\Chg (Cor A) w4 w':=h6;have hj:=BE (SY (bdH S.fm) t.1 t.2.2.1 24);have h7:=BE rs;generalize frK (bdH S.fm) t.1 t.2.2.1 24=P at *
  have hi:=BE K4;have w1:=BE S4;have x0:=BE (oi.out.new g4);have o1:=BE (C5.out.trans (g4.mono (fun _ _ f=>f.elim)));have F1:=g4.size;have G1:=BE B4;clear l2 a1 a2 a3 g4 K4 S4 B4 B3 d0 qa K' hH rs;go_wp2_with fail;refine h6.mono ?_;rintro e w5 ⟨rfl,k5,g5⟩;have r1:=g5.size;have GA:Chg No w5 (w5.alloc (.cells #[.int .i64 (P.2.1.p:Nat),.int .i64 (P.2.1.o:Nat),.int .i64 (P.2.1.q:Nat),.int .i64 (P.2.1.c:Nat),.bool P.2.1.l] 130)):=(Chg.refl _ w5).alloc _;have T6:=Tg.new w5 (P.2.1.p:Nat) (P.2.1.o:Nat) (P.2.1.q:Nat) (P.2.1.c:Nat) P.2.1.l;have ih:=BE (k5.chg0 GA);have h0:=BE ((w1.out.chg g5 (hi.out.apartSh w1)).chg GA (fun f=>f));have t7:=BE ((x0.out.chg g5 (x0.out.noCor hi)).new GA);have L3:=BE ((o1.out.trans g5.mvs).trans (GA.mono (fun _ _ f=>f.elim)));have B6:=(GA.cell (by have:=World.block_lt_of_cell? w4 ⟨w.heap.size,0,none⟩ G1;show w.heap.size<w5.heap.size;exact Aj this r1) (fun f=>f) 0).trans ((g5.cell (World.block_lt_of_cell? w4 ⟨w.heap.size,0,none⟩ G1) h4 0).trans G1);have x5:=IL;have O1:=GA.size;have h8:=BE T6;clear h6 k5 g5 GA hi w1 x0 o1;by_cases hp:P.2.2=0
  ·have x1:=wr.out;rw[AI (by rw[hp];simp)] at x1;have hh:=BE x1;have f9:=BE (hj.out hp);rw[hp];clear hp x1 wr hj;go_wp2_with fail;generalize (w5.alloc (.cells #[.int .i64 (P.2.1.p:Nat),.int .i64 (P.2.1.o:Nat),.int .i64 (P.2.1.q:Nat),.int .i64 (P.2.1.c:Nat),.bool P.2.1.l] 130))=w6 at *
   obtain⟨d6,f6⟩:=h0.out.cell 6 dc;replace d6:w6.cell? ⟨x,6,none⟩=some v:=d6;obtain⟨u0,u1,u2,u3,u4⟩:=h8.out.cells;have x3:(w6.alloc (.cells #[.int .i64 (P.2.1.p:Nat),.int .i64 (P.2.1.o:Nat),.int .i64 (P.2.1.q:Nat),.int .i64 (P.2.1.c:Nat),.bool P.2.1.l] 130)).cell? ⟨x,6,none⟩=some v:=(World.cell?_alloc_some _ _ _ (by rw[d6];rfl)).trans d6;have f3:(w6.alloc (.cells #[.int .i64 (P.2.1.p:Nat),.int .i64 (P.2.1.o:Nat),.int .i64 (P.2.1.q:Nat),.int .i64 (P.2.1.c:Nat),.bool P.2.1.l] 130)).cell? ⟨w.heap.size,0,none⟩=some (.pointer (some ⟨x,0,none⟩)):=(World.cell?_alloc_some _ _ _ (by rw[B6];rfl)).trans B6;have G7:Chg No w6 ((w6.alloc (.cells #[.int .i64 (P.2.1.p:Nat),.int .i64 (P.2.1.o:Nat),.int .i64 (P.2.1.q:Nat),.int .i64 (P.2.1.c:Nat),.bool P.2.1.l] 130)).drew):=((Chg.refl No w6).alloc _).drew;have C3:Hid (Lad ((w6.alloc (.cells #[.int .i64 (P.2.1.p:Nat),.int .i64 (P.2.1.o:Nat),.int .i64 (P.2.1.q:Nat),.int .i64 (P.2.1.c:Nat),.bool P.2.1.l] 130)).drew) n v t.2.1.ld):=by
    show Lad _ n v t.2.1.ld;rw[it.out.2];exact t7.out.new G7
   have r2:Hid (Tg (w6.alloc (.cells #[.int .i64 (P.2.1.p:Nat),.int .i64 (P.2.1.o:Nat),.int .i64 (P.2.1.q:Nat),.int .i64 (P.2.1.c:Nat),.bool P.2.1.l] 130)).drew w6.heap.size (P.2.1.p:Nat) (P.2.1.o:Nat) (P.2.1.q:Nat) (P.2.1.c:Nat) P.2.1.l):=Tg.new w6 (P.2.1.p:Nat) (P.2.1.o:Nat) (P.2.1.q:Nat) (P.2.1.c:Nat) P.2.1.l;have w2:=BE G7;have x4:Hid (t.2.1.ld.length<=1048576):=by
    show t.2.1.ld.length<=1048576;rw[it.out.2];exact AY ha dc
   have kd:Hid (n<=(w6.alloc (.cells #[.int .i64 (P.2.1.p:Nat),.int .i64 (P.2.1.o:Nat),.int .i64 (P.2.1.q:Nat),.int .i64 (P.2.1.c:Nat),.bool P.2.1.l] 130)).drew.heap.size):=AY (AY HN (show w.heap.size<=w6.heap.size by omega)) G7.size;have r0:Hid (∀k,v.ownBlock=some k->¬ k=x):=t7.out.noSh h0;clear G7
   go_region_law (refine FL _ rfl (.tmp 33) (.tmp 35) rfl n v t.2.1.ld (by simp[Act.eval]) C3 w6.heap.size 1 P.2.1 (by simp[Act.eval]) r2 x4 kd ?_;intro g8 ar w8 hL hC;have S8:=(h0.out.chg w2 (fun f=>f)).chg hC (fun e=>r0.out _ e rfl);obtain⟨d8,f8⟩:=S8.cell 6 dc;have B8:w8.cell? ⟨w.heap.size,0,none⟩=some (.pointer (some ⟨x,0,none⟩)):=(hC.cell (World.block_lt_of_cell? _ ⟨w.heap.size,0,none⟩ f3) (fun e=>Nat.lt_irrefl _ (C4.out _ e).2) 0).trans f3;have f1:=BE hL;have oa:=BE hC;have hx:=BE S8;clear hL hC S8)
   all_goals
    have GX:Chg (·=x) w8 (w8.setCell ⟨x,6,none⟩ (.slice (some ⟨g8,0,none⟩) (t.2.1.ld.length+1) ar)):=(Chg.refl (·=x) w8).setCell (AK rfl) _ _;have K9:=((ih.out.chg0 w2).offTy (fun k _ e=>AL (C3.out.ty e).1) oa).offSh hx GX;have S9:=hx.out.setLd (.slice (some ⟨g8,0,none⟩) (t.2.1.ld.length+1) ar) (t.2.1.ld ++ [P.2.1]);have L9:=f1.out.chg GX (f1.out.noSh hx);have h3:=BE (((L3.out.mono (fun k _ e=>AK e)).trans (w2.out.mono (fun _ _ f=>f.elim))).trans (oa.out.mono (fun k _ e=>AL (C4.out k e).1)) |>.trans (GX.mono (fun _ _ e=>AK (AL e))));have e1:=LD A _ P.1 K9 x n { t.2.1 with ld:=t.2.1.ld ++ [P.2.1] } _ S9 L9 no (by
     show Uo (t.2.1.ld ++ [P.2.1])
     rw[it.out.2,f9.out]
     exact HT.out.app ⟨(show 24<25 by decide),h7.out,(show 0<256 by decide)⟩) (by
     show (t.2.1.ld ++ [P.2.1]).length<=1048576
     rw[it.out.2,AV]
     have:=ha.out
     simp
     omega) 3
    have B9:=(GX.cell (World.block_lt_of_cell? _ ⟨w.heap.size,0,none⟩ B8) (fun e:w.heap.size=x=>om) 0).trans B8;have be:=BE K9;have xs:=BE S9;have K3:=BE L9;clear GX K9 S9 L9 d6 f6 x3 f3 B6 u0 u1 u2 u3 u4 d8 f8 B8 hx f1 oa;go_wp2_with fail;generalize (w8.setCell ⟨x,6,none⟩ (.slice (some ⟨g8,0,none⟩) (t.2.1.ld.length+1) ar))=w9 at *
    refine e1.mono ?_;rintro e x7 ⟨rfl,ho,hc⟩;have f5:=BE ho;have x2:=BE (xs.out.chg hc (be.out.apartSh xs));have f2:=BE (K3.out.chg hc (K3.out.noCor be));have p2:=BE (h3.out.trans (hc.mono (fun _ _ e=>AK (AK e))));clear e1 ho hc B9;go_wp2;go_ret;rw[<-hh.out];exact⟨_,rfl,f5.out,x2.out,f2.out,no.out,⟨it.out.1.1,it.out.1.2.1,it.out.1.2.2⟩,p2⟩
  ·replace q:∀w,(binOp .neq 46 (errV P.2.2) .nilIface).run prog w=.ok (.bool true) w:=fun w=>by rw[q,AN hp];rfl
   have La:=wr.out;rw[AJ hp] at La;have f7:=BE La;have e6:=t7.out;rw[<-it.out.2] at e6;have hv:=BE e6;clear e6;clear wr La hp;go_wp2;go_ret;rw[<-f7.out];exact⟨v,rfl,ih.out,h0.out,hv.out,no.out,it.out.1,L3.out.mono (fun _ _ e=>AK e)⟩
 ·replace q:∀w,(binOp .neq 46 (errV t.2.2.2) .nilIface).run prog w=.ok (.bool true) w:=fun w=>by rw[q,AN ht];rfl
  have La:=hg.out;rw[AJ ht] at La;have f7:=BE La;have hv:Hid (Lad w3 n v t.2.1.ld):=by
   have e:=oi.out;rw[<-it.out.2] at e;exact e
  clear hg La ht;go_wp2;go_ret;rw[<-f7.out];exact⟨v,rfl,o0.out,oo.out,hv.out,no.out,it.out.1,C5.out.mono (fun _ _ e=>AK e)⟩
section
variable {S:Bm}{K:BH}{X:BH × Bm × Nat}
theorem ShAt.setFd{w:Wd}{x:Nat}{v:Value}(h:ShAt w x S v)(d:Bool):ShAt (w.setCell ⟨x,2,none⟩ (.bool d)) x { S with fd:=d } v:=by
 refine Sto.ext (Sto.setCells [.bool d] 2 h) fun i hi=>?_;rw[Br];have:i=0\/i=1\/i=2\/i=3\/i=4\/i=5\/i=6:=om
 rcases this with rfl | rfl | rfl | rfl | rfl | rfl | rfl <;> rfl
def lW (X:BH × Bm × Nat) (fm:Nat):BH × Bm × Nat:=
 if (erK X.1 fm).2=0 then ((cmK (erK X.1 fm).1 X.2.1 0).1,X.2.1,(cmK (erK X.1 fm).1 X.2.1 0).2) else
 if (erK X.1 fm).2≠8 then ((erK X.1 fm).1,X.2.1,(erK X.1 fm).2) else
 if bearK (lvK (erK X.1 fm).1 fm)=false then (lvK (erK X.1 fm).1 fm,{ X.2.1 with fd:=true },14) else cbK (lvK (erK X.1 fm).1 fm) { X.2.1 with fd:=true }
def X7 (bd:Bool) (K:BH) (S:Bm):BH × Bm × Nat:=
 if (cpK bd ((AB.ofL K.L S.fm).map Int.toNat) K S).2.2≠0 then cpK bd ((AB.ofL K.L S.fm).map Int.toNat) K S else
 if bd=true then cbK (cpK bd ((AB.ofL K.L S.fm).map Int.toNat) K S).1 (cpK bd ((AB.ofL K.L S.fm).map Int.toNat) K S).2.1 else lW (cpK bd ((AB.ofL K.L S.fm).map Int.toNat) K S) S.fm
theorem X9(K:BH)(S:Bm):tyK K S=if S.fd=true/\bearK K=false then (K,{ S with tt:=noF,ld:=[] },14) else X7 (S.fd || (S.rt && bearK K)) K { S with tt:=noF,ld:=[] }:=by
 unfold tyK X7 lW;dsimp only
theorem YA(h1:S.fd=true)(h2:bearK K=false):tyK K S=(K,{ S with tt:=noF,ld:=[] },14):=by rw[X9,AJ ⟨h1,h2⟩]
theorem NJ{bd:Bool}(h1:¬ (S.fd=true/\bearK K=false))(h:(S.fd || (S.rt && bearK K))=bd):tyK K S=X7 bd K { S with tt:=noF,ld:=[] }:=by rw[X9,AI h1,h]
theorem YB(h:cpK false ((AB.ofL K.L S.fm).map Int.toNat) K S=X):X7 false K S=if X.2.2≠0 then X else lW X S.fm:=by
 unfold X7;rw[h,AI (show ¬ (false=true) by decide)]
theorem SZ(h:cpK true ((AB.ofL K.L S.fm).map Int.toNat) K S=X):X7 true K S=if X.2.2≠0 then X else cbK X.1 X.2.1:=by
 unfold X7;rw[h,AJ (show true=true from rfl)]
theorem YC{fm:Nat}{E:BH × Nat}(h:erK X.1 fm=E):lW X fm=if E.2=0 then ((cmK E.1 X.2.1 0).1,X.2.1,(cmK E.1 X.2.1 0).2) else if E.2≠8 then (E.1,X.2.1,E.2) else if bearK (lvK E.1 fm)=false then (lvK E.1 fm,{ X.2.1 with fd:=true },14) else cbK (lvK E.1 fm) { X.2.1 with fd:=true }:=by
 unfold lW;rw[h]
def oA (A:Ad) (x:Nat) (S:Bm) (w:Wd) (Z:BH × Bm × Nat) (e:Ending) (w':Wd):Prop:=∃v,e=.returned (errV Z.2.2)/\CoreAt A w' Z.1/\ShAt w' x Z.2.1 v/\AC.Fl Z.2.1.tt/\(Z.2.1.fm=S.fm/\Z.2.1.rt=S.rt)/\Chg (Zu A x) w w'
theorem lX(A:Ad)(w:Wd)(K:BH)(h:CoreAt A w K)(x:Nat)(S:Bm)(v:Value)(hS:ShAt w x S v)(hfm:S.fm<12)(Z:BH × Bm × Nat)(hZ:tyK K S=Z) :Calls prog 163 #[.pointer (some ⟨A.c,0,none⟩),.pointer (some ⟨x,0,none⟩)] w fun e w'=>oA A x S w Z e w':=by
 have hb:=AC.Jm;have HS:=BE hS;have HK:=BE h;have HFM:=BE hfm;have HLOW:=BE h.low;have hxl:=hS.lt;have HE:=BE hZ;have q:=CA;have g:=BQ;have qe:=Ii;have ge:=Dg;clear h hS hfm hZ;go_enter func163,ntmps163;go_wp2_with (refine AC.Cb rfl (.tmp 12) (.tmp 10) rfl x 3 rfl ⟨false,0,0⟩ rfl HS.out.front ?_);intro w1 F1 G1;have S1:=ShAt.setTo F1;obtain⟨d6,f6⟩:=S1.cell 6 dc;have S2:=S1.setLd (.slice none 0 0) [];have GX:Chg (·=x) w1 (w1.setCell ⟨x,6,none⟩ (.slice none 0 0)):=(Chg.refl (·=x) w1).setCell (AK rfl) _ _;have K2:=(HK.out.offSh HS.out G1).offSh S1 GX;have HG2:=BE (G1.trans GX);obtain⟨d2,f2⟩:=S2.cell 2 dc;obtain⟨d1,f1⟩:=S2.cell 1 dc;replace d2:(w1.setCell ⟨x,6,none⟩ (.slice none 0 0)).cell? ⟨x,2,none⟩=some (.bool S.fd):=d2;replace d1:(w1.setCell ⟨x,6,none⟩ (.slice none 0 0)).cell? ⟨x,1,none⟩=some (.bool S.rt):=d1;have hbe:=Js A _ K K2;have HK2:=BE K2;have HS2:Hid (ShAt (w1.setCell ⟨x,6,none⟩ (.slice none 0 0)) x { S with tt:=noF,ld:=[] } (.slice none 0 0)):=S2;have HSZ:=BE (AY G1.size GX.size);clear S1 S2 F1 G1 K2 HK HS GX f1 f2;cases hfd:S.fd
 ·rw[hfd] at d2;cases hrt:S.rt
  ·rw[hrt] at d1;have HE3:Hid (X7 false K { S with tt:=noF,ld:=[] }=Z):=(NJ (fun e=>by rw[hfd] at e;cases e.1) (by rw[hfd,hrt];rfl)).symm.trans HE.out;clear HE hfd hrt;obtain⟨X,HX⟩:∃X,Hid (cpK false ((AB.ofL K.L ({ S with tt:=noF,ld:=[] }:Bm).fm).map Int.toNat) K { S with tt:=noF,ld:=[] }=X):=⟨_,rfl⟩;have hcp:=NI A _ K HK2.out x _ HS2.out Fl.noF HFM.out rfl false X HX.out;have HE4:=BE ((YB HX.out).symm.trans HE3.out);clear HE3 HX;go_wp2_with (go_at_call 61;refine hbe.mono ?_;rintro e w9 ⟨rfl,rfl⟩);refine hcp.mono ?_;rintro e w3 ⟨v3,rfl,k3,s3,l3,ok3,sm3,tg3,ln3,kp3,g3⟩;have HK3:=BE k3;have HS3:=BE s3;have HL3:=BE l3;have HOK3:=BE ok3;have HSM:Hid (X.2.1.fm=S.fm/\X.2.1.rt=S.rt/\X.2.1.fd=S.fd):=sm3;have HTG:=BE tg3;have HLN:=BE ln3;have HG3:=BE ((HG2.out.mvx (A:=A)).trans g3);have hs3:=g3.size;have hs2:=HSZ.out;obtain⟨e0,-⟩:=s3.cell 0 dc;replace e0:w3.cell? ⟨x,0,none⟩=some (.int .i64 (S.fm:Nat)):=(by rw[<-sm3.1];exact e0);clear hcp k3 s3 l3 ok3 sm3 tg3 ln3 kp3 g3 d1 d2 d6 f6;by_cases hx:X.2.2=0
   ·have HE5:=HE4.out;rw[AI (by rw[hx];simp)] at HE5;have HE6:=BE HE5;rw[hx];clear hx HE5 HE4;obtain⟨n,hn⟩:∃n,n=(w1.setCell ⟨x,6,none⟩ (.slice none 0 0)).heap.size:=⟨_,rfl⟩;rw[<-hn] at HL3 hs3 hs2;have her:=NE A w3 X.1 HK3.out S.fm HFM.out;have HE7:=HE6.out;rw[YC rfl] at HE7;have HE8:Hid (_=Z):=HE7;generalize erK X.1 S.fm=E at *
    clear hn HE7 HE6;go_wp2_with fail;refine her.mono ?_;rintro e w4 ⟨rfl,k4,g4⟩;have HK4:=BE k4;have HS4:=BE (HS3.out.chg g4 (HK3.out.apartSh HS3.out));have HL4:=BE (HL3.out.chg g4 (HL3.out.noCor HK3.out));have HG4:=BE (HG3.out.trans g4.mvs);have hs4:=g4.size;obtain⟨e4,-⟩:=HS4.out.cell 0 dc;replace e4:w4.cell? ⟨x,0,none⟩=some (.int .i64 (S.fm:Nat)):=(by rw[<-HSM.out.1];exact e4);clear her k4 g4 e0;by_cases h0:E.2=0
    ·have HE9:=HE8.out;rw[AJ h0] at HE9;have HEA:=BE HE9;have hcm:=LD A w4 E.1 HK4.out x n X.2.1 v3 HS4.out HL4.out HOK3.out HTG.out (AY HLN.out dc) 0;replace qe:∀w,(binOp .eql 46 (errV E.2) .nilIface).run prog w=.ok (.bool true) w:=fun w=>by rw[qe,AO h0]
     clear HE8 HE9 h0;go_wp2_with fail;refine hcm.mono ?_;rintro e w5 ⟨rfl,k5,g5⟩;have HK5:=BE k5;have HS5:=BE (HS4.out.chg g5 (HK4.out.apartSh HS4.out));have HG5:=BE (HG4.out.trans g5.mvs);clear hcm k5 g5;go_wp2;go_ret;rw[<-HEA.out];exact⟨v3,rfl,HK5.out,HS5.out,HOK3.out,⟨HSM.out.1,HSM.out.2.1⟩,HG5.out⟩
    ·have HE9:=HE8.out;rw[AI h0] at HE9;replace qe:∀w,(binOp .eql 46 (errV E.2) .nilIface).run prog w=.ok (.bool false) w:=fun w=>by rw[qe,AN h0]
     have his:=Lc E.2 8 dc w4;by_cases h8:E.2=8
     ·rw[AI (by rw[h8];simp)] at HE9;rw[AO h8] at his;have HEA:=BE HE9;have S5:=HS4.out.setFd true;obtain⟨d2,f2⟩:=HS4.out.cell 2 dc;have G5:Chg (·=x) w4 (w4.setCell ⟨x,2,none⟩ (.bool true)):=(Chg.refl (·=x) w4).setCell (AK rfl) _ _;have K5:=HK4.out.offSh HS4.out G5;have L5:=HL4.out.chg G5 (HL4.out.noSh HS4.out);obtain⟨e5,-⟩:=S5.cell 0 dc;replace e5:(w4.setCell ⟨x,2,none⟩ (.bool true)).cell? ⟨x,0,none⟩=some (.int .i64 (S.fm:Nat)):=(by rw[<-HSM.out.1];exact e5);have hlv:=II A _ E.1 K5 (S.fm:Nat);have HK5:=BE K5;have HS5:=BE S5;have HL5:=BE L5;have HG5:=BE (HG4.out.trans (G5.mvx (A:=A)));have hs5:=G5.size;clear HE8 HE9 h0 h8 S5 K5 L5 G5;go_wp2_with (go_at_call 95;refine his.mono ?_;rintro e w9 ⟨rfl,rfl⟩);refine hlv.mono ?_;rintro e w6 ⟨rfl,k6,g6⟩;generalize lvK E.1 S.fm=K6 at *
      have hb6:=Js A w6 K6 k6;have HK6:=BE k6;have HS6:=BE (HS5.out.chg g6 (HK5.out.apartSh HS5.out));have HL6:=BE (HL5.out.chg g6 (HL5.out.noCor HK5.out));have HG6:=BE (HG5.out.trans g6.mvs);have hs6:=g6.size;clear hlv k6 g6 his e5 d2 f2 e4;cases hbb:bearK K6
      ·rw[hbb] at hb6;have HEB:=HEA.out;rw[AJ hbb] at HEB;have HEC:=BE HEB;clear HEA HEB hbb;go_wp2_with (go_at_call 61;refine hb6.mono ?_;rintro e w9 ⟨rfl,rfl⟩);go_ret;rw[<-HEC.out];exact⟨v3,rfl,HK6.out,HS6.out,HOK3.out,⟨HSM.out.1,HSM.out.2.1⟩,HG6.out⟩
      ·rw[hbb] at hb6;have HEB:=HEA.out;rw[AI (by rw[hbb];simp)] at HEB;have hcb:=EP A w6 K6 HK6.out x n { X.2.1 with fd:=true } v3 HS6.out HL6.out om HOK3.out (by show X.2.1.fm<12;rw[HSM.out.1];exact HFM.out) HTG.out (AY HLN.out dc) Z HEB;clear HEA HEB hbb;go_wp2_with (go_at_call 61;refine hb6.mono ?_;rintro e w9 ⟨rfl,rfl⟩);refine hcb.mono ?_;rintro e w7 ⟨v7,rfl,k7,s7,l7,ok7,sm7,g7⟩;have HK7:=BE k7;have HS7:=BE s7;have HOK7:=BE ok7;have HSM7:=BE sm7;have HG7:=BE (HG6.out.trans' g7 (fun k hk e=>e.elim id (fun e=>om)));clear hcb k7 s7 l7 ok7 sm7 g7;go_wp2;go_ret;exact⟨v7,rfl,HK7.out,HS7.out,HOK7.out,⟨HSM7.out.1.trans HSM.out.1,HSM7.out.2.1.trans HSM.out.2.1⟩,HG7.out⟩
     ·rw[AJ h8] at HE9;rw[AN h8] at his;have HEA:=BE HE9;clear HE8 HE9 h0 h8;go_wp2_with (go_at_call 95;refine his.mono ?_;rintro e w9 ⟨rfl,rfl⟩);go_ret;rw[<-HEA.out];exact⟨v3,rfl,HK4.out,HS4.out,HOK3.out,⟨HSM.out.1,HSM.out.2.1⟩,HG4.out⟩
   ·replace q:∀w,(binOp .neq 46 (errV X.2.2) .nilIface).run prog w=.ok (.bool true) w:=fun w=>by rw[q,AN hx];rfl
    have HE5:=HE4.out;rw[AJ hx] at HE5;have HE6:=BE HE5;clear hx HE5 HE4;go_wp2;go_ret;rw[<-HE6.out];exact⟨v3,rfl,HK3.out,HS3.out,HOK3.out,⟨HSM.out.1,HSM.out.2.1⟩,HG3.out⟩
  ·rw[hrt] at d1;cases hbk:bearK K
   ·rw[hbk] at hbe;have HE3:Hid (X7 false K { S with tt:=noF,ld:=[] }=Z):=(NJ (fun e=>by rw[hfd] at e;cases e.1) (by rw[hfd,hrt,hbk];rfl)).symm.trans HE.out;clear HE hfd hrt hbk;obtain⟨X,HX⟩:∃X,Hid (cpK false ((AB.ofL K.L ({ S with tt:=noF,ld:=[] }:Bm).fm).map Int.toNat) K { S with tt:=noF,ld:=[] }=X):=⟨_,rfl⟩;have hcp:=NI A _ K HK2.out x _ HS2.out Fl.noF HFM.out rfl false X HX.out;have HE4:=BE ((YB HX.out).symm.trans HE3.out);clear HE3 HX;go_wp2_with (go_at_call 61;refine hbe.mono ?_;rintro e w9 ⟨rfl,rfl⟩);refine hcp.mono ?_;rintro e w3 ⟨v3,rfl,k3,s3,l3,ok3,sm3,tg3,ln3,kp3,g3⟩;have HK3:=BE k3;have HS3:=BE s3;have HL3:=BE l3;have HOK3:=BE ok3;have HSM:Hid (X.2.1.fm=S.fm/\X.2.1.rt=S.rt/\X.2.1.fd=S.fd):=sm3;have HTG:=BE tg3;have HLN:=BE ln3;have HG3:=BE ((HG2.out.mvx (A:=A)).trans g3);have hs3:=g3.size;have hs2:=HSZ.out;obtain⟨e0,-⟩:=s3.cell 0 dc;replace e0:w3.cell? ⟨x,0,none⟩=some (.int .i64 (S.fm:Nat)):=(by rw[<-sm3.1];exact e0);clear hcp k3 s3 l3 ok3 sm3 tg3 ln3 kp3 g3 d1 d2 d6 f6;by_cases hx:X.2.2=0
    ·have HE5:=HE4.out;rw[AI (by rw[hx];simp)] at HE5;have HE6:=BE HE5;rw[hx];clear hx HE5 HE4;obtain⟨n,hn⟩:∃n,n=(w1.setCell ⟨x,6,none⟩ (.slice none 0 0)).heap.size:=⟨_,rfl⟩;rw[<-hn] at HL3 hs3 hs2;have her:=NE A w3 X.1 HK3.out S.fm HFM.out;have HE7:=HE6.out;rw[YC rfl] at HE7;have HE8:Hid (_=Z):=HE7;generalize erK X.1 S.fm=E at *
     clear hn HE7 HE6;go_wp2_with fail;refine her.mono ?_;rintro e w4 ⟨rfl,k4,g4⟩;have HK4:=BE k4;have HS4:=BE (HS3.out.chg g4 (HK3.out.apartSh HS3.out));have HL4:=BE (HL3.out.chg g4 (HL3.out.noCor HK3.out));have HG4:=BE (HG3.out.trans g4.mvs);have hs4:=g4.size;obtain⟨e4,-⟩:=HS4.out.cell 0 dc;replace e4:w4.cell? ⟨x,0,none⟩=some (.int .i64 (S.fm:Nat)):=(by rw[<-HSM.out.1];exact e4);clear her k4 g4 e0;by_cases h0:E.2=0
     ·have HE9:=HE8.out;rw[AJ h0] at HE9;have HEA:=BE HE9;have hcm:=LD A w4 E.1 HK4.out x n X.2.1 v3 HS4.out HL4.out HOK3.out HTG.out (AY HLN.out dc) 0;replace qe:∀w,(binOp .eql 46 (errV E.2) .nilIface).run prog w=.ok (.bool true) w:=fun w=>by rw[qe,AO h0]
      clear HE8 HE9 h0;go_wp2_with fail;refine hcm.mono ?_;rintro e w5 ⟨rfl,k5,g5⟩;have HK5:=BE k5;have HS5:=BE (HS4.out.chg g5 (HK4.out.apartSh HS4.out));have HG5:=BE (HG4.out.trans g5.mvs);clear hcm k5 g5;go_wp2;go_ret;rw[<-HEA.out];exact⟨v3,rfl,HK5.out,HS5.out,HOK3.out,⟨HSM.out.1,HSM.out.2.1⟩,HG5.out⟩
     ·have HE9:=HE8.out;rw[AI h0] at HE9;replace qe:∀w,(binOp .eql 46 (errV E.2) .nilIface).run prog w=.ok (.bool false) w:=fun w=>by rw[qe,AN h0]
      have his:=Lc E.2 8 dc w4;by_cases h8:E.2=8
      ·rw[AI (by rw[h8];simp)] at HE9;rw[AO h8] at his;have HEA:=BE HE9;have S5:=HS4.out.setFd true;obtain⟨d2,f2⟩:=HS4.out.cell 2 dc;have G5:Chg (·=x) w4 (w4.setCell ⟨x,2,none⟩ (.bool true)):=(Chg.refl (·=x) w4).setCell (AK rfl) _ _;have K5:=HK4.out.offSh HS4.out G5;have L5:=HL4.out.chg G5 (HL4.out.noSh HS4.out);obtain⟨e5,-⟩:=S5.cell 0 dc;replace e5:(w4.setCell ⟨x,2,none⟩ (.bool true)).cell? ⟨x,0,none⟩=some (.int .i64 (S.fm:Nat)):=(by rw[<-HSM.out.1];exact e5);have hlv:=II A _ E.1 K5 (S.fm:Nat);have HK5:=BE K5;have HS5:=BE S5;have HL5:=BE L5;have HG5:=BE (HG4.out.trans (G5.mvx (A:=A)));have hs5:=G5.size;clear HE8 HE9 h0 h8 S5 K5 L5 G5;go_wp2_with (go_at_call 95;refine his.mono ?_;rintro e w9 ⟨rfl,rfl⟩);refine hlv.mono ?_;rintro e w6 ⟨rfl,k6,g6⟩;generalize lvK E.1 S.fm=K6 at *
       have hb6:=Js A w6 K6 k6;have HK6:=BE k6;have HS6:=BE (HS5.out.chg g6 (HK5.out.apartSh HS5.out));have HL6:=BE (HL5.out.chg g6 (HL5.out.noCor HK5.out));have HG6:=BE (HG5.out.trans g6.mvs);have hs6:=g6.size;clear hlv k6 g6 his e5 d2 f2 e4;cases hbb:bearK K6
       ·rw[hbb] at hb6;have HEB:=HEA.out;rw[AJ hbb] at HEB;have HEC:=BE HEB;clear HEA HEB hbb;go_wp2_with (go_at_call 61;refine hb6.mono ?_;rintro e w9 ⟨rfl,rfl⟩);go_ret;rw[<-HEC.out];exact⟨v3,rfl,HK6.out,HS6.out,HOK3.out,⟨HSM.out.1,HSM.out.2.1⟩,HG6.out⟩
       ·rw[hbb] at hb6;have HEB:=HEA.out;rw[AI (by rw[hbb];simp)] at HEB;have hcb:=EP A w6 K6 HK6.out x n { X.2.1 with fd:=true } v3 HS6.out HL6.out om HOK3.out (by show X.2.1.fm<12;rw[HSM.out.1];exact HFM.out) HTG.out (AY HLN.out dc) Z HEB;clear HEA HEB hbb;go_wp2_with (go_at_call 61;refine hb6.mono ?_;rintro e w9 ⟨rfl,rfl⟩);refine hcb.mono ?_;rintro e w7 ⟨v7,rfl,k7,s7,l7,ok7,sm7,g7⟩;have HK7:=BE k7;have HS7:=BE s7;have HOK7:=BE ok7;have HSM7:=BE sm7;have HG7:=BE (HG6.out.trans' g7 (fun k hk e=>e.elim id (fun e=>om)));clear hcb k7 s7 l7 ok7 sm7 g7;go_wp2;go_ret;exact⟨v7,rfl,HK7.out,HS7.out,HOK7.out,⟨HSM7.out.1.trans HSM.out.1,HSM7.out.2.1.trans HSM.out.2.1⟩,HG7.out⟩
      ·rw[AJ h8] at HE9;rw[AN h8] at his;have HEA:=BE HE9;clear HE8 HE9 h0 h8;go_wp2_with (go_at_call 95;refine his.mono ?_;rintro e w9 ⟨rfl,rfl⟩);go_ret;rw[<-HEA.out];exact⟨v3,rfl,HK4.out,HS4.out,HOK3.out,⟨HSM.out.1,HSM.out.2.1⟩,HG4.out⟩
    ·replace q:∀w,(binOp .neq 46 (errV X.2.2) .nilIface).run prog w=.ok (.bool true) w:=fun w=>by rw[q,AN hx];rfl
     have HE5:=HE4.out;rw[AJ hx] at HE5;have HE6:=BE HE5;clear hx HE5 HE4;go_wp2;go_ret;rw[<-HE6.out];exact⟨v3,rfl,HK3.out,HS3.out,HOK3.out,⟨HSM.out.1,HSM.out.2.1⟩,HG3.out⟩
   ·rw[hbk] at hbe;have HE3:Hid (X7 true K { S with tt:=noF,ld:=[] }=Z):=(NJ (fun e=>by rw[hfd] at e;cases e.1) (by rw[hfd,hrt,hbk];rfl)).symm.trans HE.out;clear HE hfd hrt hbk;obtain⟨X,HX⟩:∃X,Hid (cpK true ((AB.ofL K.L ({ S with tt:=noF,ld:=[] }:Bm).fm).map Int.toNat) K { S with tt:=noF,ld:=[] }=X):=⟨_,rfl⟩;have hcp:=NI A _ K HK2.out x _ HS2.out Fl.noF HFM.out rfl true X HX.out;have HE4:=BE ((SZ HX.out).symm.trans HE3.out);clear HE3 HX;go_wp2_with (go_at_call 61;refine hbe.mono ?_;rintro e w9 ⟨rfl,rfl⟩);refine hcp.mono ?_;rintro e w3 ⟨v3,rfl,k3,s3,l3,ok3,sm3,tg3,ln3,kp3,g3⟩;have HK3:=BE k3;have HS3:=BE s3;have HL3:=BE l3;have HOK3:=BE ok3;have HSM:Hid (X.2.1.fm=S.fm/\X.2.1.rt=S.rt/\X.2.1.fd=S.fd):=sm3;have HTG:=BE tg3;have HLN:=BE ln3;have HG3:=BE ((HG2.out.mvx (A:=A)).trans g3);have hs3:=g3.size;have hs2:=HSZ.out;obtain⟨e0,-⟩:=s3.cell 0 dc;replace e0:w3.cell? ⟨x,0,none⟩=some (.int .i64 (S.fm:Nat)):=(by rw[<-sm3.1];exact e0);clear hcp k3 s3 l3 ok3 sm3 tg3 ln3 kp3 g3 d1 d2 d6 f6;by_cases hx:X.2.2=0
    ·have HE5:=HE4.out;rw[AI (by rw[hx];simp)] at HE5;have HE6:=BE HE5;rw[hx];clear hx HE5 HE4;obtain⟨n,hn⟩:∃n,n=(w1.setCell ⟨x,6,none⟩ (.slice none 0 0)).heap.size:=⟨_,rfl⟩;rw[<-hn] at HL3 hs3 hs2;have hcb:=EP A w3 X.1 HK3.out x n X.2.1 v3 HS3.out HL3.out hs3 HOK3.out (by rw[HSM.out.1];exact HFM.out) HTG.out (AY HLN.out dc) Z HE6.out;clear hn e0;go_wp2_with fail;refine hcb.mono ?_;rintro e w4 ⟨v4,rfl,k4,s4,l4,ok4,sm4,g4⟩;have HK4:=BE k4;have HS4:=BE s4;have HOK4:=BE ok4;have HSM4:=BE sm4;have HG4:=BE ((HG3.out).trans' g4 (fun k hk e=>e.elim id (fun e=>om)));clear hcb k4 s4 l4 ok4 sm4 g4;go_wp2;go_ret;exact⟨v4,rfl,HK4.out,HS4.out,HOK4.out,⟨HSM4.out.1.trans HSM.out.1,HSM4.out.2.1.trans HSM.out.2.1⟩,HG4.out⟩
    ·replace q:∀w,(binOp .neq 46 (errV X.2.2) .nilIface).run prog w=.ok (.bool true) w:=fun w=>by rw[q,AN hx];rfl
     have HE5:=HE4.out;rw[AJ hx] at HE5;have HE6:=BE HE5;clear hx HE5 HE4;go_wp2;go_ret;rw[<-HE6.out];exact⟨v3,rfl,HK3.out,HS3.out,HOK3.out,⟨HSM.out.1,HSM.out.2.1⟩,HG3.out⟩
 ·rw[hfd] at d2;cases hbk:bearK K
  ·rw[hbk] at hbe;have HE3:=BE ((YA hfd hbk).symm.trans HE.out);clear HE hfd hbk;go_wp2_with (go_at_call 61;refine hbe.mono ?_;rintro e w9 ⟨rfl,rfl⟩);go_ret;rw[<-HE3.out];exact⟨_,rfl,HK2.out,HS2.out,Fl.noF,⟨rfl,rfl⟩,HG2.out.mvx⟩
  ·rw[hbk] at hbe;have HE3:Hid (X7 true K { S with tt:=noF,ld:=[] }=Z):=(NJ (fun e=>by rw[hbk] at e;cases e.2) (by rw[hfd];rfl)).symm.trans HE.out;clear HE hfd hbk;obtain⟨X,HX⟩:∃X,Hid (cpK true ((AB.ofL K.L ({ S with tt:=noF,ld:=[] }:Bm).fm).map Int.toNat) K { S with tt:=noF,ld:=[] }=X):=⟨_,rfl⟩;have hcp:=NI A _ K HK2.out x _ HS2.out Fl.noF HFM.out rfl true X HX.out;have HE4:=BE ((SZ HX.out).symm.trans HE3.out);clear HE3 HX;go_wp2_with (go_at_call 61;refine hbe.mono ?_;rintro e w9 ⟨rfl,rfl⟩);refine hcp.mono ?_;rintro e w3 ⟨v3,rfl,k3,s3,l3,ok3,sm3,tg3,ln3,kp3,g3⟩;have HK3:=BE k3;have HS3:=BE s3;have HL3:=BE l3;have HOK3:=BE ok3;have HSM:Hid (X.2.1.fm=S.fm/\X.2.1.rt=S.rt/\X.2.1.fd=S.fd):=sm3;have HTG:=BE tg3;have HLN:=BE ln3;have HG3:=BE ((HG2.out.mvx (A:=A)).trans g3);have hs3:=g3.size;have hs2:=HSZ.out;obtain⟨e0,-⟩:=s3.cell 0 dc;replace e0:w3.cell? ⟨x,0,none⟩=some (.int .i64 (S.fm:Nat)):=(by rw[<-sm3.1];exact e0);clear hcp k3 s3 l3 ok3 sm3 tg3 ln3 kp3 g3 d1 d2 d6 f6;by_cases hx:X.2.2=0
   ·have HE5:=HE4.out;rw[AI (by rw[hx];simp)] at HE5;have HE6:=BE HE5;rw[hx];clear hx HE5 HE4;obtain⟨n,hn⟩:∃n,n=(w1.setCell ⟨x,6,none⟩ (.slice none 0 0)).heap.size:=⟨_,rfl⟩;rw[<-hn] at HL3 hs3 hs2;have hcb:=EP A w3 X.1 HK3.out x n X.2.1 v3 HS3.out HL3.out hs3 HOK3.out (by rw[HSM.out.1];exact HFM.out) HTG.out (AY HLN.out dc) Z HE6.out;clear hn e0;go_wp2_with fail;refine hcb.mono ?_;rintro e w4 ⟨v4,rfl,k4,s4,l4,ok4,sm4,g4⟩;have HK4:=BE k4;have HS4:=BE s4;have HOK4:=BE ok4;have HSM4:=BE sm4;have HG4:=BE ((HG3.out).trans' g4 (fun k hk e=>e.elim id (fun e=>om)));clear hcb k4 s4 l4 ok4 sm4 g4;go_wp2;go_ret;exact⟨v4,rfl,HK4.out,HS4.out,HOK4.out,⟨HSM4.out.1.trans HSM.out.1,HSM4.out.2.1.trans HSM.out.2.1⟩,HG4.out⟩
   ·replace q:∀w,(binOp .neq 46 (errV X.2.2) .nilIface).run prog w=.ok (.bool true) w:=fun w=>by rw[q,AN hx];rfl
    have HE5:=HE4.out;rw[AJ hx] at HE5;have HE6:=BE HE5;clear hx HE5 HE4;go_wp2;go_ret;rw[<-HE6.out];exact⟨v3,rfl,HK3.out,HS3.out,HOK3.out,⟨HSM.out.1,HSM.out.2.1⟩,HG3.out⟩
end
def ip (A:Ad) (te:Kz):Prop:=∀w K Z,CoreAt A w K->te K=some Z->Calls prog 164 #[.pointer (some ⟨A.c,0,none⟩)] w fun e w'=>e=.returned (errV Z.2)/\CoreAt A w' Z.1/\Chg (Cor A) w w'
theorem PS(te:Kz)(n:Nat)(K:BH)(S:Bm):trK te (n+1) K S=if PM K S.fm=true then some (K,S,0) else if (tyK K S).2.2≠8 then some (tyK K S) else match te (spK (tyK K S).1 (AC.blV (tyK K S).2.1.tt)) with
 | none=>none
 | some y=>if y.2≠0 then some (y.1,(tyK K S).2.1,y.2) else trK te n y.1 (tyK K S).2.1:=by
 rw[trK];dsimp only;generalize tyK K S=X;generalize te (spK X.1 (AC.blV X.2.1.tt))=Y;cases Y <;> rfl
theorem YD(te:Kz)(K:BH)(S:Bm):trK te 0 K S=none:=rfl
structure nR (A:Ad) (te:Kz) (x:Nat) (S:Bm) (Z:BH × Bm × Nat) (w wr:Wd) (k:Nat) (Ki:BH) (Si:Bm) (v:Value):Prop where
 eq:trK te k Ki Si=some Z
 core:CoreAt A wr Ki
 sh:ShAt wr x Si v
 sm:Si.fm=S.fm/\Si.rt=S.rt
 chg:Chg (Zu A x) w wr
def mz (A:Ad) (x:Nat) (S:Bm) (w:Wd) (Z:BH × Bm × Nat) (e:Ending) (w':Wd):Prop:=∃v,e=.returned (errV Z.2.2)/\CoreAt A w' Z.1/\ShAt w' x Z.2.1 v/\(Z.2.1.fm=S.fm/\Z.2.1.rt=S.rt)/\Chg (Zu A x) w w'
theorem Sb(A:Ad)(te:Kz)(hte:ip A te)(w:Wd)(K:BH)(h:CoreAt A w K)(x:Nat)(S:Bm)(v:Value)(hS:ShAt w x S v)(hfm:S.fm<12)(n:Nat)(Z:BH × Bm × Nat)(hZ:trK te n K S=some Z) :Calls prog 110 #[.pointer (some ⟨A.c,0,none⟩),.pointer (some ⟨x,0,none⟩)] w fun e w'=>mz A x S w Z e w':=by
 have HS:=BE hS;have HK:=BE h;have f2:=BE hfm;have f6:=BE hte;have HZ:=BE hZ;have q:=CA;have g:=BQ;clear h hS hfm hZ hte;go_enter func110,ntmps110;go_wp2_with fail
 go_loopg [4] n (fun kx s4 wr=>∃k Ki Si v,k<=kx/\Hid (nR A te x S Z w wr k Ki Si v))
 case atStart=>exact⟨n,K,S,v,AM _,⟨HZ.out,HK.out,HS.out,⟨rfl,rfl⟩,Chg.refl _ _⟩⟩
 case round=>
  obtain⟨k,Ki,Si,vi,hk,HI⟩:=hrel;obtain _ | k:=k
  ·exact absurd HI.out.eq (by rw[YD];exact fun e=>by cases e)
  obtain⟨d0,-⟩:=HI.out.sh.cell 0 dc;replace d0:wr.cell? ⟨x,0,none⟩=some (.int .i64 (Si.fm:Nat)):=d0;have ar:=lR A wr Ki HI.out.core (Si.fm:Nat);have HE:=HI.out.eq;rw[PS] at HE;cases hb:PM Ki Si.fm
  ·rw[hb] at ar;rw[AI (by rw[hb];simp)] at HE;obtain⟨X,HX⟩:∃X,Hid (tyK Ki Si=X):=⟨_,rfl⟩;rw[HX.out] at HE;have B':=lX A wr Ki HI.out.core x Si vi HI.out.sh (by rw[HI.out.sm.1];exact f2) X HX;have kd:=BE HE;clear hb HE HX;go_wp2_with (go_at_call 162;refine ar.mono ?_;rintro e w9 ⟨rfl,rfl⟩);refine B'.mono ?_;rintro e w2 ⟨v2,rfl,k2,s2,f1,h6,g2⟩;have ha:=BE k2;have hx:=BE s2;have Go:Hid (X.2.1.fm=S.fm/\X.2.1.rt=S.rt):=⟨h6.1.trans HI.out.sm.1,h6.2.trans HI.out.sm.2⟩;have G2:=BE (HI.out.chg.trans g2);have hv:=Lc X.2.2 8 dc w2;have h1:=AC.D4 w2 x 144 7 _ 3 X.2.1.tt s2.front;clear B' k2 s2 f1 h6 g2 d0 ar;by_cases h8:X.2.2=8
   ·rw[AO h8] at hv;have it:=kd.out;rw[AI (by rw[h8];simp)] at it;have w1:=Jt A w2 X.1 ha (AC.blV X.2.1.tt);cases hy:te (spK X.1 (AC.blV X.2.1.tt)) with
    | none=>rw[hy] at it;cases it
    | some y=>
     rw[hy] at it;have HY:=BE hy;have no:Hid ((if y.2≠0 then some (y.1,X.2.1,y.2) else trK te k y.1 X.2.1)=some Z):=it;clear h8 hy it kd;go_wp2_with (first | (go_at_call 95;refine hv.mono ?_;rintro e w9 ⟨rfl,rfl⟩) | (go_at_call 96;refine h1.mono ?_;rintro e w9 ⟨rfl,rfl⟩));refine w1.mono ?_;rintro e w3 ⟨rfl,k3,g3⟩;have hg:=f6.out w3 _ y k3 HY;have f7:=BE k3;have hc:=BE (hx.out.chg g3 (ha.out.apartSh hx));have f5:=BE (G2.out.trans g3.mvs);clear w1 k3 g3 hv h1 HY;go_wp2_with fail;refine hg.mono ?_;rintro e w4 ⟨rfl,k4,g4⟩;have G1:=BE k4;have p2:=BE (hc.out.chg g4 (f7.out.apartSh hc));have h2:=BE (f5.out.trans g4.mvs);clear hg k4 g4;by_cases h0:y.2=0
     ·have La:=no.out;rw[AI (by rw[h0];simp)] at La;have f3:Hid (nR A te x S Z w w4 k y.1 X.2.1 v2):=⟨La,G1.out,p2.out,Go.out,h2⟩;rw[h0];clear h0 La no;go_wp2
      go_roundg k
      case measure=>omega
      case rel=>exact⟨k,y.1,X.2.1,v2,AM _,f3⟩
     ·replace q:∀w,(binOp .neq 46 (errV y.2) .nilIface).run prog w=.ok (.bool true) w:=fun w=>by rw[q,AN h0];rfl
      have La:=no.out;rw[AJ h0] at La;have f4:Hid ((y.1,X.2.1,y.2)=Z):=AR La;clear h0 La no;go_wp2;go_ret;rw[<-f4.out];exact⟨v2,rfl,G1.out,p2.out,Go.out,h2⟩
   ·rw[AN h8] at hv;have it:=kd.out;rw[AJ h8] at it;have no:Hid (X=Z):=AR it;clear h8 it kd;go_wp2_with (go_at_call 95;refine hv.mono ?_;rintro e w9 ⟨rfl,rfl⟩);go_ret;rw[<-no.out];exact⟨v2,rfl,ha.out,hx.out,Go.out,G2⟩
  ·rw[hb] at ar;rw[AJ hb] at HE;have no:Hid ((Ki,Si,0)=Z):=AR HE;clear hb HE;go_wp2_with (go_at_call 162;refine ar.mono ?_;rintro e w9 ⟨rfl,rfl⟩);go_ret;rw[<-no.out];exact⟨vi,rfl,HI.out.core,HI.out.sh,HI.out.sm,HI.out.chg⟩
theorem iq(te:Kz)(n:Nat)(K:BH)(S:Bm)(Z:BH × Bm × Nat)(h:moK te n K S=some Z):∃X,trK te n (if S.fd then lvK K S.fm else K) S=some X/\(if X.2.1.fd=true/\X.2.2=14 then ({ spK X.1 X.2.1.fm with dd:=true },X.2.1,X.2.2) else X)=Z:=by
 unfold moK at h;generalize trK te n (if S.fd then lvK K S.fm else K) S=Y at h;cases Y with
 | none=>cases h
 | some X=>
  refine⟨X,rfl,?_⟩;dsimp only at h;by_cases c:X.2.1.fd=true/\X.2.2=14
  ·rw[AJ c] at h ⊢;exact AR h
  ·rw[AI c] at h ⊢;exact AR h
theorem ir(A:Ad)(te:Kz)(hte:ip A te)(w:Wd)(K:BH)(h:CoreAt A w K)(x:Nat)(S:Bm)(v:Value)(hS:ShAt w x S v)(hfm:S.fm<12)(n:Nat)(Z:BH × Bm × Nat)(hZ:moK te n K S=some Z) :Calls prog 62 #[.pointer (some ⟨A.c,0,none⟩),.pointer (some ⟨x,0,none⟩)] w fun e w'=>mz A x S w Z e w':=by
 obtain⟨X,hX,hE⟩:=iq te n K S Z hZ;obtain⟨d2,-⟩:=hS.cell 2 dc;obtain⟨d0,-⟩:=hS.cell 0 dc;replace d2:w.cell? ⟨x,2,none⟩=some (.bool S.fd):=d2;replace d0:w.cell? ⟨x,0,none⟩=some (.int .i64 (S.fm:Nat)):=d0;have HS:=BE hS;have HK:=BE h;have B':=BE hfm;have p2:=BE hte;have HE:=BE hE;have wr:=II A w K h (S.fm:Nat);clear hZ hE;cases hfd:S.fd
 ·rw[hfd] at d2;have HX:Hid (trK te n K S=some X):=by
   have e:=hX;rw[hfd] at e;exact e
  have hc:=Sb A te p2 w K HK x S v HS B' n X HX;clear h hS hfm hte hX hfd wr;go_enter func62,ntmps62;go_wp2_with fail;refine hc.mono ?_;rintro e w2 ⟨v2,rfl,k2,s2,hg,g2⟩;have kd:=BE k2;have hv:=BE s2;have hx:=BE hg;have hk:=BE g2;obtain⟨e2,-⟩:=s2.cell 2 dc;obtain⟨e0,-⟩:=s2.cell 0 dc;replace e2:w2.cell? ⟨x,2,none⟩=some (.bool X.2.1.fd):=e2;replace e0:w2.cell? ⟨x,0,none⟩=some (.int .i64 (X.2.1.fm:Nat)):=e0;have La:=Lc X.2.2 14 dc w2;have h6:=Jt A w2 X.1 k2 (X.2.1.fm:Nat);clear hc k2 s2 hg g2;cases hf:X.2.1.fd
  ·rw[hf] at e2;have it:=HE.out;rw[AI (by rw[hf];simp)] at it;have ar:=BE it;clear HE it hf;go_wp2;go_ret;rw[<-ar.out];exact⟨v2,rfl,kd.out,hv.out,hx.out,hk⟩
  ·rw[hf] at e2;by_cases no:X.2.2=14
   ·rw[AO no] at La;have it:=HE.out;rw[AJ ⟨hf,no⟩] at it;have ar:=BE it;clear HE it hf no;go_wp2_with (go_at_call 95;refine La.mono ?_;rintro e w9 ⟨rfl,rfl⟩);refine h6.mono ?_;rintro e w3 ⟨rfl,k3,g3⟩;generalize spK X.1 X.2.1.fm=K3 at *
    obtain⟨G1,G2⟩:=k3.cDd;have h2:=BE (k3.setDd true);have G4:Chg (·=A.c) w3 (w3.setCell ⟨A.c,97,none⟩ (.bool true)):=(Chg.refl (·=A.c) w3).setCell (AK rfl) _ _;have ha:=g3.trans (Chg.cor_c (A:=A) G4);have h1:=BE (hv.out.chg ha (kd.out.apartSh hv));have h0:=BE (hk.out.trans ha.mvs);clear h6 k3 g3 G4 ha e0 e2 La;go_wp2;go_ret;rw[<-ar.out];exact⟨v2,rfl,h2.out,h1.out,hx.out,h0⟩
   ·rw[AN no] at La;have it:=HE.out;rw[AI (fun e=>no e.2)] at it;have ar:=BE it;clear HE it hf no;go_wp2_with (go_at_call 95;refine La.mono ?_;rintro e w9 ⟨rfl,rfl⟩);go_ret;rw[<-ar.out];exact⟨v2,rfl,kd.out,hv.out,hx.out,hk⟩
 ·rw[hfd] at d2;have HX:Hid (trK te n (lvK K S.fm) S=some X):=by
   have e:=hX;rw[hfd] at e;exact e
  have f2:=BE (h.apartSh hS);clear h hS hfm hte hX hfd;go_enter func62,ntmps62;go_wp2_with fail;refine wr.mono ?_;rintro e w1 ⟨rfl,k1,g1⟩;have S1:=HS.out.chg g1 f2;have hc:=Sb A te p2 w1 _ k1 x S v S1 B' n X HX;have f1:=BE g1;clear wr k1 g1 S1 d0 d2;go_wp2_with fail;refine hc.mono ?_;rintro e w2 ⟨v2,rfl,k2,s2,hg,g2⟩;have kd:=BE k2;have hv:=BE s2;have hx:=BE hg;have hk:=BE (f1.out.mvs.trans g2);obtain⟨e2,-⟩:=s2.cell 2 dc;obtain⟨e0,-⟩:=s2.cell 0 dc;replace e2:w2.cell? ⟨x,2,none⟩=some (.bool X.2.1.fd):=e2;replace e0:w2.cell? ⟨x,0,none⟩=some (.int .i64 (X.2.1.fm:Nat)):=e0;have La:=Lc X.2.2 14 dc w2;have h6:=Jt A w2 X.1 k2 (X.2.1.fm:Nat);clear hc k2 s2 hg g2;cases hf:X.2.1.fd
  ·rw[hf] at e2;have it:=HE.out;rw[AI (by rw[hf];simp)] at it;have ar:=BE it;clear HE it hf;go_wp2;go_ret;rw[<-ar.out];exact⟨v2,rfl,kd.out,hv.out,hx.out,hk⟩
  ·rw[hf] at e2;by_cases no:X.2.2=14
   ·rw[AO no] at La;have it:=HE.out;rw[AJ ⟨hf,no⟩] at it;have ar:=BE it;clear HE it hf no;go_wp2_with (go_at_call 95;refine La.mono ?_;rintro e w9 ⟨rfl,rfl⟩);refine h6.mono ?_;rintro e w3 ⟨rfl,k3,g3⟩;generalize spK X.1 X.2.1.fm=K3 at *
    obtain⟨G1,G2⟩:=k3.cDd;have h2:=BE (k3.setDd true);have G4:Chg (·=A.c) w3 (w3.setCell ⟨A.c,97,none⟩ (.bool true)):=(Chg.refl (·=A.c) w3).setCell (AK rfl) _ _;have ha:=g3.trans (Chg.cor_c (A:=A) G4);have h1:=BE (hv.out.chg ha (kd.out.apartSh hv));have h0:=BE (hk.out.trans ha.mvs);clear h6 k3 g3 G4 ha e0 e2 La;go_wp2;go_ret;rw[<-ar.out];exact⟨v2,rfl,h2.out,h1.out,hx.out,h0⟩
   ·rw[AN no] at La;have it:=HE.out;rw[AI (fun e=>no e.2)] at it;have ar:=BE it;clear HE it hf no;go_wp2_with (go_at_call 95;refine La.mono ?_;rintro e w9 ⟨rfl,rfl⟩);go_ret;rw[<-ar.out];exact⟨v2,rfl,kd.out,hv.out,hx.out,hk⟩
def AnC (A:Ad) (n:Nat):Prop:=∀w0 f cp H,Hold A w0 f cp H->∀w K (o:Nat) Z,CoreAt A w K->Chg (Cor A) w0 w->o<25->anR n H K o=some Z ->
 Calls prog 52 #[.pointer (some ⟨A.c,0,none⟩),.int .i64 (o:Nat),.func (.func f) #[] cp] w fun e w'=>e=.returned (errV Z.2)/\CoreAt A w' Z.1/\Chg (Cor A) w w'
theorem LE(A:Ad)(n:Nat)(hA:AnC A n)(w:Wd)(K:BH)(h:CoreAt A w K)(Z:BH × Nat)(hZ:anR n noH K 24=some Z) :Calls prog 38 #[.pointer (some ⟨A.c,0,none⟩)] w fun e w'=>e=.returned (errV Z.2)/\CoreAt A w' Z.1/\Chg (Cor A) w w':=by
 have La:=GM w A.c 80 #[];have HK:=BE h;have HA:=BE hA;have HZ:=BE hZ;have kd:∀(fn:Fn) (first cap:Array Value) (w:Wd),(Instr.makeFunc fn first cap).run prog w=.ok (.func fn first cap) w:=fun _ _ _ _=>rfl;go_enter func38,ntmps38;go_wp2_with fail;refine La.mono ?_;rintro e w3 ⟨rfl,a1,a2,a3,g3⟩;have K3:=HK.out.chg0 g3;have no:=HK.out.low;have hH:=Dy A w3 80 #[] _ (L8 A w3) w.heap.size (w.heap.size+1) a1 a2 (fun e=>by have:=no _ (AK e);omega) (fun e=>by have:=no _ (AK e);omega) om om PP;have it:=HA.out w3 102 #[.pointer (some ⟨w.heap.size,0,none⟩),.pointer (some ⟨w.heap.size+1,0,none⟩)] noH hH w3 K 24 Z K3 (Chg.refl _ _) dc HZ;replace it:Calls prog 52 #[.pointer (some ⟨A.c,0,none⟩),.int .i64 24,.func (.func 102) #[] #[.pointer (some ⟨w.heap.size,0,none⟩),.pointer (some ⟨w.heap.size+1,0,none⟩)]] w3 fun e w'=>e=.returned (errV Z.2)/\CoreAt A w' Z.1/\Chg (Cor A) w3 w':=it;have hv:=BE (Chg.cor0 (A:=A) g3);go_wp2_with fail;refine it.mono ?_;rintro e w4 ⟨rfl,k4,g4⟩;have Go:=BE k4;have ar:=BE (hv.out.trans g4);go_wp2;go_ret;exact⟨rfl,Go.out,ar⟩
theorem iu(A:Ad)(n:Nat)(hA:AnC A n):ip A (PN n):=by
 intro w K Z h hZ;have h0:=fun w K Z h hZ=>LE A n hA w K h Z hZ;have hc:Hid (∀w K Z,CoreAt A w K->anR n noH K 24=some Z->Calls prog 38 #[.pointer (some ⟨A.c,0,none⟩)] w fun e w'=>e=.returned (errV Z.2)/\CoreAt A w' Z.1/\Chg (Cor A) w w'):=h0;have hw:=NC A w K h;obtain⟨h6,-⟩:=h.cSp;obtain⟨f,hf,-⟩:=QB.front h.core;have ar:=AC.XZ w A.c 105 101 f 79 K.fr hf h.wf.fr 24;have p2:=IH A w K h;have q:=CA;have g:=BQ;have HK:=BE h;have HZ:Hid (SV (fun K=>anR n noH K 24) K=some Z):=hZ;have it:=HZ.out;unfold SV at it;cases hwn:Cy K
 ·rw[hwn] at hw;cases hsp:K.sp
  ·rw[hsp] at h6;rw[AI (by rw[hwn,hsp];simp)] at it;cases hr:AC.rmV K.fr 24
   ·rw[hr] at ar;rw[AI (by rw[hr];simp)] at it;have no:=BE it;go_enter func164,ntmps164;go_wp2_with (first | (go_at_call 60;refine hw.mono ?_;rintro e w ⟨rfl,rfl⟩));refine ar.mono ?_;rintro e w1 ⟨rfl,m,rfl⟩;have hx:=IH A _ K (HK.out.drewN m);have ha:Hid (Chg (Cor A) w (w.drewN m)):=(Chg.refl _ w).drewN m;generalize w.drewN m=w1 at *
    go_wp2_with fail;refine hx.mono ?_;rintro e w2 ⟨rfl,k2,g2⟩;generalize clK K=K2 at *
    have h2:=Xg A w2 K2 k2;have h1:=BE (ha.out.trans g2);go_wp2_with fail;refine h2.mono ?_;rintro e w3 ⟨rfl,k3,g3⟩;have B':=BE k3;have hg:=BE (h1.out.trans g3);generalize opK K2=P at *
    by_cases hp:P.2=0
    ·have La:=no.out;rw[AI (by rw[hp];simp)] at La;have kd:=hc.out w3 P.1 Z k3 La;rw[hp];go_wp2_with fail;refine kd.mono ?_;rintro e w4 ⟨rfl,k4,g4⟩;have hk:=BE k4;have hv:=BE (hg.out.trans g4);go_wp2;go_ret;exact⟨rfl,hk.out,hv⟩
    ·replace q:∀w,(binOp .neq 46 (errV P.2) .nilIface).run prog w=.ok (.bool true) w:=fun w=>by rw[q,AN hp];rfl
     have La:=no.out;rw[AJ hp] at La;have wr:Hid (P=Z):=AR La;go_wp2;go_ret;rw[<-wr.out];exact⟨rfl,B'.out,hg⟩
   ·rw[hr] at ar;rw[AJ hr] at it;have no:=BE it;go_enter func164,ntmps164;go_wp2_with (first | (go_at_call 60;refine hw.mono ?_;rintro e w ⟨rfl,rfl⟩));refine ar.mono ?_;rintro e w1 ⟨rfl,m,rfl⟩;have kd:=hc.out (w.drewN m) K Z (HK.out.drewN m) no;have ha:Hid (Chg (Cor A) w (w.drewN m)):=(Chg.refl _ w).drewN m;generalize w.drewN m=w1 at *
    go_wp2_with fail;refine kd.mono ?_;rintro e w4 ⟨rfl,k4,g4⟩;have hk:=BE k4;have hv:=BE (ha.out.trans g4);go_wp2;go_ret;exact⟨rfl,hk.out,hv⟩
  ·rw[hsp] at h6;rw[AJ (AL hsp)] at it;have no:Hid ((K,14)=Z):=AR it;go_enter func164,ntmps164;go_wp2_with (go_at_call 60;refine hw.mono ?_;rintro e w ⟨rfl,rfl⟩);go_ret;rw[<-no.out];exact⟨rfl,HK.out,Chg.refl _ _⟩
 ·rw[hwn] at hw;rw[AJ (AK hwn)] at it;have no:Hid ((K,14)=Z):=AR it;go_enter func164,ntmps164;go_wp2_with (go_at_call 60;refine hw.mono ?_;rintro e w ⟨rfl,rfl⟩);go_ret;rw[<-no.out];exact⟨rfl,HK.out,Chg.refl _ _⟩
section
variable (w:Wd)
def iw (A:Ad) (mo:It):Prop:=∀w K x S v Z,CoreAt A w K->ShAt w x S v->S.fm<12->mo K S=some Z->Calls prog 62 #[.pointer (some ⟨A.c,0,none⟩),.pointer (some ⟨x,0,none⟩)] w fun e w'=>mz A x S w Z e w'
theorem YE(A:Ad)(n:Nat)(hA:AnC A n):iw A (movR n):=fun w K x S v Z h hS hf hZ=>ir A (PN n) (iu A n hA) w K h x S v hS hf (n+1) Z hZ
theorem IB.lies{w:Wd}{b n:Nat}{t:TypeId}{F:Nat->Int}(h:IB w b t n F):AH.Q5 w (some ⟨b,0,none⟩) n F:=AL ⟨b,0,rfl,h.lt,fun i hi=>by rw[AW];exact(h.cell i hi).1⟩
theorem YF(b:Int):(Instr.build 144 #[(0,.int .i64 b)]).run prog w=.ok (.agg #[.int .i64 b,.bool false,.bool false,.bool false,.int .i64 0,.int .i64 0,.slice none 0 0]) w:=kr
theorem Uq(b:Int):(Instr.build 144 #[(0,.int .i64 b),(2,.bool true)]).run prog w=.ok (.agg #[.int .i64 b,.bool false,.bool true,.bool false,.int .i64 0,.int .i64 0,.slice none 0 0]) w:=kr
theorem ShAt.new(b:Nat)(rt fd:Bool):ShAt (w.alloc (.cells #[.int .i64 (b:Nat),.bool rt,.bool fd,.bool false,.int .i64 0,.int .i64 0,.slice none 0 0] 144)) w.heap.size (nwS b rt fd) (.slice none 0 0):=by
 refine⟨_,(show (w.heap.push _)[w.heap.size]?=_ by simp;rfl),rfl,fun i hi=>?_⟩;have:i=0\/i=1\/i=2\/i=3\/i=4\/i=5\/i=6:=om
 rcases this with rfl | rfl | rfl | rfl | rfl | rfl | rfl <;> rfl
theorem YG(mo:It)(K:BH)(o:Nat):mrK mo 0 K o=none:=rfl
theorem YH(mo:It)(n:Nat)(K:BH)(o:Nat)(Z:BH × Nat)(h:mrK mo (n+1) K o=some Z) :(AC.rmV K.fr o=true/\(K,0)=Z)\/(AC.rmV K.fr o=false /\((LA (clK K)=true/\(if (opK (clK K)).2≠0 then some (opK (clK K)) else mrK mo n (opK (clK K)).1 o)=some Z) \/(LA (clK K)=false/\((AH.chC 12 12 (clK K).F (lvF (clK K))≠0/\(clK K,14)=Z) \/(AH.chC 12 12 (clK K).F (lvF (clK K))=0/\∃y,mo (clK K) (nwS (AH.chV 12 12 (clK K).F (lvF (clK K))) false false)=some y/\(if y.2.2≠0 then some (y.1,y.2.2) else mrK mo n y.1 o)=some Z))))):=by
 rw[mrK] at h;dsimp only at h;cases hr:AC.rmV K.fr o
 ·rw[AI (by rw[hr];simp)] at h;refine AL ⟨rfl,?_⟩;generalize clK K=K1 at h ⊢;cases hs:LA K1
  ·rw[AI (by rw[hs];simp)] at h;refine AL ⟨rfl,?_⟩;by_cases hc:AH.chC 12 12 K1.F (lvF K1)=0
   ·rw[AI (by rw[hc];simp)] at h;refine AL ⟨hc,?_⟩;generalize mo K1 (nwS (AH.chV 12 12 K1.F (lvF K1)) false false)=Y at h ⊢;cases Y with
    | none=>cases h
    | some y=>exact⟨y,rfl,h⟩
   ·rw[AJ hc] at h;exact AK ⟨hc,AR h⟩
  ·rw[AJ hs] at h;exact AK ⟨rfl,h⟩
 ·rw[AJ hr] at h;exact AK ⟨rfl,AR h⟩
structure m9 (A:Ad) (mo:It) (o:Nat) (Z:BH × Nat) (w wr:Wd) (k:Nat) (Ki:BH):Prop where
 eq:mrK mo k Ki o=some Z
 core:CoreAt A wr Ki
 chg:Chg (Cor A) w wr
theorem ix(A:Ad)(mo:It)(hmo:iw A mo)(w:Wd)(K:BH)(h:CoreAt A w K)(o:Nat)(n:Nat)(Z:BH × Nat)(hZ:mrK mo n K o=some Z) :Calls prog 91 #[.pointer (some ⟨A.c,0,none⟩),.int .i64 (o:Nat)] w fun e w'=>e=.returned (errV Z.2)/\CoreAt A w' Z.1/\Chg (Cor A) w w':=by
 have HK:=BE h;have HMO:=BE hmo;have HZ:=BE hZ;have q:=CA;have g:=BQ;have hbd:=YF;clear h hZ hmo;go_enter func91,ntmps91;go_wp2_with fail
 go_loopg [4] n (fun kx s4 wr=>∃k Ki,k<=kx/\Hid (m9 A mo o Z w wr k Ki))
 case atStart=>exact⟨n,K,AM _,⟨HZ.out,HK.out,Chg.refl _ _⟩⟩
 case round=>
  obtain⟨k,Ki,hk,HI⟩:=hrel;obtain _ | k:=k
  ·exact absurd HI.out.eq (by rw[YG];exact fun e=>by cases e)
  obtain⟨f,hf,-⟩:=QB.front HI.out.core.core;have hrm:=AC.XZ wr A.c 105 101 f 79 Ki.fr hf HI.out.core.wf.fr (o:Nat);clear hf;rcases YH mo k Ki o Z HI.out.eq with ⟨hr,hE⟩ | ⟨hr,hE⟩
  ·rw[hr] at hrm;have HE:=BE hE;clear hE hr;go_wp2_with fail;refine hrm.mono ?_;rintro e w1 ⟨rfl,m,rfl⟩;have HK1:=BE (HI.out.core.drewN m);have HG1:=BE (HI.out.chg.drewN m);clear hrm;generalize wr.drewN m=w1 at *
   go_wp2;go_ret;rw[<-HE.out];exact⟨rfl,HK1.out,HG1.out⟩
  ·rw[hr] at hrm;have HE:=BE hE;clear hE hr;go_wp2_with fail;refine hrm.mono ?_;rintro e w1 ⟨rfl,m,rfl⟩;have hcl:=IH A _ Ki (HI.out.core.drewN m);have HG1:=BE (HI.out.chg.drewN m);clear hrm HI;generalize wr.drewN m=w1 at *
   go_wp2_with fail;refine hcl.mono ?_;rintro e w2 ⟨rfl,k2,g2⟩;generalize clK Ki=K2 at *
   obtain⟨c1,-⟩:=k2.cPool;obtain⟨c2,-⟩:=k2.cMap;have hspr:=AD.UO w2 A.po K2.F k2.pool;have HK2:=BE k2;have HG2:=BE (HG1.out.trans g2);clear hcl k2 g2 HG1;rcases HE.out with ⟨hs,hE⟩ | ⟨hs,hE⟩
   ·have hs2:decide (AD.XM K2.F<(AD.cnt K2.F 0 12:Nat))=true:=hs;rw[hs2] at hspr;have hop:=Xg A w2 K2 HK2.out;generalize opK K2=P at *
    have HE2:=BE hE;clear hs hs2 hE HE;go_wp2_with (go_at_call 147;refine hspr.mono ?_;rintro e w9 ⟨rfl,rfl⟩);refine hop.mono ?_;rintro e w3 ⟨rfl,k3,g3⟩;have HK3:=BE k3;have HG3:=BE (HG2.out.trans g3);clear hop k3 g3 hspr c1 c2 HG2;by_cases hp:P.2=0
    ·have HE3:=HE2.out;rw[AI (by rw[hp];simp)] at HE3;have HI2:Hid (m9 A mo o Z w w3 k P.1):=⟨HE3,HK3.out,HG3.out⟩;rw[hp];clear hp HE3 HE2;go_wp2
     go_roundg k
     case measure=>omega
     case rel=>exact⟨k,P.1,AM _,HI2.out⟩
    ·replace q:∀w,(binOp .neq 46 (errV P.2) .nilIface).run prog w=.ok (.bool true) w:=fun w=>by rw[q,AN hp];rfl
     have HE3:=HE2.out;rw[AJ hp] at HE3;have HE4:Hid (P=Z):=AR HE3;clear hp HE3 HE2;go_wp2;go_ret;rw[<-HE4.out];exact⟨rfl,HK3.out,HG3.out⟩
   ·have hs2:decide (AD.XM K2.F<(AD.cnt K2.F 0 12:Nat))=false:=hs;rw[hs2] at hspr;have HE2:=BE hE;clear hs hs2 hE HE;go_wp2_with (go_at_call 147;refine hspr.mono ?_;rintro e w2 ⟨rfl,rfl⟩)
    go_region_held3 (fun wx=>wx.cell? ⟨A.c,1,none⟩=some (.pointer (some ⟨A.po,0,none⟩))/\wx.cell? ⟨A.c,2,none⟩=some (.pointer (some ⟨A.ma,0,none⟩)))
     (first | exact⟨c1,c2⟩ | exact⟨x1,x2⟩ | exact⟨z1,z2⟩)
     (first
      | (go_at_call 47;refine(AD.EC _ A.po K2.F (HK2.out.drewN 1).pool).mono ?_;rintro e w3 ⟨rfl,hI3,g3⟩;have HI3:=BE hI3;have HK3:=BE ((HK2.out.drewN 1).chg0 g3);obtain⟨x1,-⟩:=HK3.out.cPool;obtain⟨x2,-⟩:=HK3.out.cMap;have HG3:=BE (HG2.out.drew.trans (Chg.cor0 (A:=A) g3));clear hI3 g3)
      | (go_at_call 140;refine(AB.IC _ A.ma K2.L (HK2.out.drewN 1).map).mono ?_;rintro e w3 ⟨rfl,hL3,g3⟩;have HL3:=BE hL3;have HK3:=BE ((HK2.out.drewN 1).chg0 g3);obtain⟨x1,-⟩:=HK3.out.cPool;obtain⟨x2,-⟩:=HK3.out.cMap;have HG3:=BE (HG2.out.drew.trans (Chg.cor0 (A:=A) g3));clear hL3 g3)
      | (go_at_call 47;refine(AD.EC _ A.po K2.F HK3.out.pool).mono ?_;rintro e w4 ⟨rfl,hI4,g4⟩;have HI4:=BE hI4;have HL4:=BE (HL3.out.chg g4 (fun f=>f));have HK4:=BE (HK3.out.chg0 g4);obtain⟨z1,-⟩:=HK4.out.cPool;obtain⟨z2,-⟩:=HK4.out.cMap;have HG4:=BE (HG3.out.trans (Chg.cor0 (A:=A) g4));clear hI4 g4)
      | (go_at_call 140;refine(AB.IC _ A.ma K2.L HK3.out.map).mono ?_;rintro e w4 ⟨rfl,hL4,g4⟩;have HL4:=BE hL4;have HI4:=BE (HI3.out.chg g4 (fun f=>f));have HK4:=BE (HK3.out.chg0 g4);obtain⟨z1,-⟩:=HK4.out.cPool;obtain⟨z2,-⟩:=HK4.out.cMap;have HG4:=BE (HG3.out.trans (Chg.cor0 (A:=A) g4));clear hL4 g4)
      | (go_at_call 149;refine(AH.UZ _ _ _ 12 12 K2.F (lvF K2) HI4.out.lies HL4.out.lies).mono ?_;rintro e w5 ⟨rfl,m5,rfl⟩;have HK5:=BE (HK4.out.drewN m5);have HG5:=BE (HG4.out.drewN m5);obtain⟨z1,-⟩:=HK5.out.cPool;obtain⟨z2,-⟩:=HK5.out.cMap))
    all_goals
     generalize w4.drewN m5=w5 at *
     clear c1 c2 x1 x2 z1 z2 hspr;rcases HE2.out with ⟨hc,hE⟩ | ⟨hc,y,hy,hE⟩
     ·replace q:∀w,(binOp .neq 46 (errV (AH.chC 12 12 K2.F (lvF K2))) .nilIface).run prog w=.ok (.bool true) w:=fun w=>by rw[q,AN hc];rfl
      have HE3:=BE hE;clear hc hE HE2;generalize AH.chC 12 12 K2.F (lvF K2)=cc at *
      go_wp2;go_ret;rw[<-HE3.out];exact⟨rfl,HK5.out,HG5.out⟩
     ·have hch:=(AH.cH hc).2.2.1;have GA:Chg No w5 (w5.alloc (.cells #[.int .i64 (AH.chV 12 12 K2.F (lvF K2):Nat),.bool false,.bool false,.bool false,.int .i64 0,.int .i64 0,.slice none 0 0] 144)):=(Chg.refl _ w5).alloc _;have hmv:=HMO.out _ K2 w5.heap.size (nwS (AH.chV 12 12 K2.F (lvF K2)) false false) _ y (HK5.out.chg0 GA) (ShAt.new w5 (AH.chV 12 12 K2.F (lvF K2)) false false) hch hy;have HG6:=BE (HG5.out.trans (Chg.cor0 (A:=A) GA));have HSZ:=BE HG5.out.size;have HE3:=BE hE;rw[hc];clear hc hch hy hE HE2 GA HK5;go_wp2_with fail;refine hmv.mono ?_;rintro e w6 ⟨v6,rfl,k6,s6,sm6,g6⟩;have HK6:=BE k6;have HG7:=BE (HG6.out.trans' g6 (fun k hk e=>e.elim id (fun e=>by have:=HSZ.out;omega)));clear hmv k6 s6 sm6 g6 HG6;by_cases hp:y.2.2=0
      ·have HE4:=HE3.out;rw[AI (by rw[hp];simp)] at HE4;have HI2:Hid (m9 A mo o Z w w6 k y.1):=⟨HE4,HK6.out,HG7.out⟩;rw[hp];clear hp HE3 HE4;go_wp2
       go_roundg k
       case measure=>omega
       case rel=>exact⟨k,y.1,AM _,HI2.out⟩
      ·replace q:∀w,(binOp .neq 46 (errV y.2.2) .nilIface).run prog w=.ok (.bool true) w:=fun w=>by rw[q,AN hp];rfl
       have HE4:=HE3.out;rw[AJ hp] at HE4;have HE5:Hid ((y.1,y.2.2)=Z):=AR HE4;clear hp HE3 HE4;go_wp2;go_ret;rw[<-HE5.out];exact⟨rfl,HK6.out,HG7.out⟩
end
def lY (A:Ad) (mr:BH->Nat->Option (BH × Nat)):Prop:=∀w K (o:Nat) Z,CoreAt A w K->mr K o=some Z->Calls prog 91 #[.pointer (some ⟨A.c,0,none⟩),.int .i64 (o:Nat)] w fun e w'=>e=.returned (errV Z.2)/\CoreAt A w' Z.1/\Chg (Cor A) w w'
theorem iy(H:GS)(K:BH)(p o:Nat):(frK H K p o).1.fr=K.fr:=by
 have e:∀t D,(prK (sqK K) t D).1.fr=K.fr:=fun t D=>by
  unfold prK;generalize prF (sqK K).tl (sqK K).s (sqK K).r t D=z;rfl
 rw[X6];have e1:=e ⟨p,o,K.nx,0,false⟩ (H (sqK K) K.nx);generalize prK (sqK K) ⟨p,o,K.nx,0,false⟩ (H (sqK K) K.nx)=z at e1 ⊢;split
 ·rfl
 ·split
  ·exact e1
  ·show (if o=24 then Nd z.1 else z.1).fr=K.fr;split <;> exact e1
theorem YI(mr:BH->Nat->Option (BH × Nat))(mo:It)(H:GS)(K:BH)(o:Nat):anK mr mo H 0 K o=none:=rfl
theorem YJ(mr:BH->Nat->Option (BH × Nat))(mo:It)(H:GS)(n:Nat)(K:BH)(o:Nat)(Z:BH × Nat)(h:anK mr mo H (n+1) K o=some Z) :((Cy K=true\/K.sp=true)/\(K,14)=Z)\/((Cy K=false/\K.sp=false)/\∃x,mr K o=some x /\((x.2≠0/\x=Z)\/(x.2=0/\((AC.nxC x.1.fr o≠0/\(x.1,AC.nxC x.1.fr o)=Z)\/(AC.nxC x.1.fr o=0/\∃P,frK H { x.1 with fr:=AC.tkS x.1.fr o } (AC.nxV x.1.fr o).toNat o=P /\((P.2.2=0/\layK P.1 P.2.1=Z)\/(P.2.2≠0/\P.2.2≠8/\(P.1,P.2.2)=Z)\/(P.2.2=8/\∃y,mo P.1 (nwS (AC.blV P.1.fr).toNat false true)=some y/\(if y.2.2≠0 then some (y.1,y.2.2) else anK mr mo H n y.1 o)=some Z))))))):=by
 rw[anK] at h;by_cases hw:Cy K=true\/K.sp=true
 ·rw[AJ hw] at h;exact AK ⟨hw,AR h⟩
 ·rw[AI hw] at h;refine AL ⟨?_,?_⟩
  ·cases h1:Cy K
   ·cases h2:K.sp
    ·exact⟨rfl,rfl⟩
    ·exact absurd (AL h2) hw
   ·exact absurd (AK h1) hw
  ·cases hx:mr K o with
   | none=>rw[hx] at h;cases h
   | some x=>
    rw[hx] at h;dsimp only at h;refine⟨x,rfl,?_⟩;by_cases h0:x.2=0
    ·rw[AI (by rw[h0];simp)] at h;refine AL ⟨h0,?_⟩;by_cases hn:AC.nxC x.1.fr o=0
     ·rw[AI (by rw[hn];simp)] at h;refine AL ⟨hn,_,rfl,?_⟩;generalize frK H { x.1 with fr:=AC.tkS x.1.fr o } (AC.nxV x.1.fr o).toNat o=P at h ⊢;by_cases hp:P.2.2=0
      ·rw[AJ hp] at h;exact AK ⟨hp,AR h⟩
      ·rw[AI hp] at h;by_cases h8:P.2.2=8
       ·rw[AI (by rw[h8];simp)] at h;refine AL (AL ⟨h8,?_⟩);generalize mo P.1 (nwS (AC.blV P.1.fr).toNat false true)=Y at h ⊢;cases Y with
        | none=>cases h
        | some y=>exact⟨y,rfl,h⟩
       ·rw[AJ h8] at h;exact AL (AK ⟨hp,h8,AR h⟩)
     ·rw[AJ hn] at h;exact AK ⟨hn,AR h⟩
    ·rw[AJ h0] at h;exact AK ⟨h0,AR h⟩
structure nS (A:Ad) (mr:BH->Nat->Option (BH × Nat)) (mo:It) (H:GS) (o:Nat) (Z:BH × Nat) (w wr:Wd) (k:Nat) (Ki:BH):Prop where
 eq:anK mr mo H k Ki o=some Z
 core:CoreAt A wr Ki
 chg:Chg (Cor A) w wr
theorem cw(A:Ad)(mr:BH->Nat->Option (BH × Nat))(hmr:lY A mr)(mo:It)(hmo:iw A mo)(w0:Wd)(f:FuncId)(cp:Array Value)(H:GS)(hH:Hold A w0 f cp H)(w:Wd)(K:BH)(h:CoreAt A w K)(hw0:Chg (Cor A) w0 w)(o:Nat)(ho:o<25)(n:Nat)(Z:BH × Nat)(hZ:anK mr mo H n K o=some Z) :Calls prog 52 #[.pointer (some ⟨A.c,0,none⟩),.int .i64 (o:Nat),.func (.func f) #[] cp] w fun e w'=>e=.returned (errV Z.2)/\CoreAt A w' Z.1/\Chg (Cor A) w w':=by
 have HK:=BE h;have HMO:=BE hmo;have HMR:=BE hmr;have HH:=BE hH;have HW0:=BE hw0;have HO:=BE ho;have HZ:=BE hZ;have q:=CA;have g:=BQ;have qe:=Ii;have ge:=Dg;have hbd:=Uq;have hzt:=IL;clear h hZ hmo hmr hH hw0 ho;go_enter func52,ntmps52;go_wp2_with fail
 go_loopg [6] n (fun kx s6 wr=>∃k Ki,k<=kx/\Hid (nS A mr mo H o Z w wr k Ki))
 case atStart=>exact⟨n,K,AM _,⟨HZ.out,HK.out,Chg.refl _ _⟩⟩
 case round=>
  obtain⟨k,Ki,hk,HI⟩:=hrel;obtain _ | k:=k
  ·exact absurd HI.out.eq (by rw[YI];exact fun e=>by cases e)
  have hwn:=NC A wr Ki HI.out.core;obtain⟨c78,-⟩:=HI.out.core.cSp;rcases YJ mr mo H k Ki o Z HI.out.eq with ⟨hr,hE⟩ | ⟨⟨hr1,hr2⟩,X,hX,hE⟩
  ·have HE:=BE hE;cases h1:Cy Ki
   ·have h2:Ki.sp=true:=hr.resolve_left (by rw[h1];simp);rw[h1] at hwn;rw[h2] at c78;clear hr hE h1 h2;go_wp2_with (go_at_call 60;refine hwn.mono ?_;rintro e wr ⟨rfl,rfl⟩);go_ret;rw[<-HE.out];exact⟨rfl,HI.out.core,HI.out.chg⟩
   ·rw[h1] at hwn;clear hr hE h1;go_wp2_with (go_at_call 60;refine hwn.mono ?_;rintro e wr ⟨rfl,rfl⟩);go_ret;rw[<-HE.out];exact⟨rfl,HI.out.core,HI.out.chg⟩
  ·rw[hr1] at hwn;rw[hr2] at c78;have hrm:=HMR.out wr Ki o X HI.out.core hX;have HE:=BE hE;clear hr1 hr2 hX hE;go_wp2_with (go_at_call 60;refine hwn.mono ?_;rintro e wr ⟨rfl,rfl⟩);refine hrm.mono ?_;rintro e w1 ⟨rfl,k1,g1⟩;have HK1:=BE k1;have HG1:=BE (HI.out.chg.trans g1);clear hrm k1 g1 HI hwn c78;rcases HE.out with ⟨h0,hE⟩ | ⟨h0,hE⟩
   ·replace q:∀w,(binOp .neq 46 (errV X.2) .nilIface).run prog w=.ok (.bool true) w:=fun w=>by rw[q,AN h0];rfl
    have HE3:=BE hE;clear h0 hE HE;go_wp2;go_ret;rw[<-HE3.out];exact⟨rfl,HK1.out,HG1.out⟩
   ·have HE2:=BE hE;rw[h0];clear h0 hE HE;obtain⟨ff,hf,Fg⟩:=QB.front HK1.out.core;have htk:=AC.Ku w1 A.c 105 101 ff 79 X.1.fr hf HK1.out.wf.fr (o:Nat);have HBK:=BE Fg;clear hf Fg;go_wp2_with fail;refine htk.mono ?_;rintro e w2 ⟨rfl,F2,g2⟩;have HK2:=BE (HK1.out.setFr (HBK.out w2 _ F2) g2 (AC.Fl.take HK1.out.wf.fr (o:Nat)));have HG2:=BE (HG1.out.trans (Chg.cor_c (A:=A) g2));clear htk F2 g2;rcases HE2.out with ⟨hn,hE⟩ | ⟨hn,P,hP,hE⟩
    ·have HE3:=BE hE;have HEQ:Hid ({ X.1 with fr:=AC.tkS X.1.fr (o:Nat) }=X.1):=by
      show ({ X.1 with fr:=AC.tkS X.1.fr (o:Nat) }:BH)=X.1;unfold AC.tkS;rw[AI hn]
     rw[HEQ.out] at HK2;replace q:∀w,(binOp .neq 46 (errV (AC.nxC X.1.fr (o:Nat))) .nilIface).run prog w=.ok (.bool true) w:=fun w=>by rw[q,AN hn];rfl
     clear hn hE HE2 HEQ;generalize AC.nxC X.1.fr (o:Nat)=nn at *
     go_wp2;go_ret;rw[<-HE3.out];exact⟨rfl,HK2.out,HG2.out⟩
    ·have HPL:=BE (LC HK1.out.wf.fr hn);have HOP:Hid (AC.blV X.1.fr=(X.1.fr.k:Nat)/\X.1.fr.o=true):=by
      have e:X.1.fr.o=true:=by
       cases e:X.1.fr.o
       ·have:=AC.fG (s:=X.1.fr) (n:=(o:Nat)) (by have:=HO.out;omega) e;rw[hn] at this;cases this
       ·rfl
      exact⟨by unfold AC.blV;rw[e];rfl,e⟩
     have hfr:=SW A w0 f cp H HH.out w2 _ HK2.out (HW0.out.trans HG2.out) (AC.nxV X.1.fr (o:Nat)).toNat o ⟨⟨by have:=HPL.out.1;omega,by have:=HO.out;omega,by have:=HK2.out.wf.nx;omega,om⟩,by
      rcases HPL.out.2.1 with e | e
      ·
       exact AK ⟨om,rfl⟩
      ·
       by_cases e2:o=24
       ·
        exact AK ⟨om,rfl⟩
       ·
        exact AL ⟨om,om⟩⟩
     rw[hP] at hfr;have HFR:Hid (P.1.fr=AC.tkS X.1.fr (o:Nat)):=by
      rw[<-hP];exact iy _ _ _ _
     have HFT:Hid (P.2.2=0->P.2.1=⟨(AC.nxV X.1.fr (o:Nat)).toNat,o,X.1.nx,0,false⟩):=fun e=>by
      rw[<-hP] at e ⊢;exact SY _ _ _ _ e
     have HTK:Hid (AC.tkS X.1.fr (o:Nat)={ X.1.fr with i:=X.1.fr.i+1 }):=by
      show AC.tkS X.1.fr (o:Nat)=_;unfold AC.tkS;rw[AJ hn]
     have HNX:Hid (1<=X.1.nx/\X.1.nx<=1099511627775):=HK2.out.wf.nx;rw[NG] at hfr;rw[hn];have HE3:=BE hE;have HBL:Hid (AC.blV P.1.fr=(X.1.fr.k:Nat)):=by
      show AC.blV P.1.fr=_;rw[HFR.out,HTK.out];unfold AC.blV;rw[show ({ X.1.fr with i:=X.1.fr.i+1 }:AC.St).o=true from HOP.out.2];rfl
     have HKL:Hid (X.1.fr.k<12):=HK1.out.wf.fr.1;clear hn hE HE2 hP HBK;go_wp2_with fail;refine hfr.mono ?_;rintro e w3 ⟨rfl,k3,g3⟩;have GA:Chg No w3 (w3.alloc (.cells #[.int .i64 (P.2.1.p:Nat),.int .i64 (P.2.1.o:Nat),.int .i64 (P.2.1.q:Nat),.int .i64 (P.2.1.c:Nat),.bool P.2.1.l] 130)):=(Chg.refl _ w3).alloc _;have K4:=k3.chg0 GA;have HG4:=BE ((HG2.out.trans g3).trans (Chg.cor0 (A:=A) GA));have HK4:=BE K4;clear hfr k3 g3 GA;rcases HE3.out with ⟨hp,hE⟩ | ⟨hp,h8,hE⟩ | ⟨h8,y,hy,hE⟩
     ·have htg:=HFT.out hp;have hly:=fK A _ P.1 K4 P.2.1 (by rw[htg];exact HO.out) (by rw[htg];exact HNX.out) (by rw[htg];exact(show 0<256 by decide));have HE4:=BE hE;replace qe:∀w,(binOp .eql 46 (errV P.2.2) .nilIface).run prog w=.ok (.bool true) w:=fun w=>by rw[qe,AO hp]
      clear hp hE htg HE3 K4;go_wp2_with fail;refine hly.mono ?_;rintro e w5 ⟨rfl,k5,g5⟩;have HK5:=BE k5;have HG5:=BE (HG4.out.trans g5);clear hly k5 g5;go_wp2;go_ret;rw[<-HE4.out];exact⟨rfl,HK5.out,HG5.out⟩
     ·have his:=Lc P.2.2 8 dc (w3.alloc (.cells #[.int .i64 (P.2.1.p:Nat),.int .i64 (P.2.1.o:Nat),.int .i64 (P.2.1.q:Nat),.int .i64 (P.2.1.c:Nat),.bool P.2.1.l] 130));rw[AN h8] at his;have HE4:=BE hE;replace qe:∀w,(binOp .eql 46 (errV P.2.2) .nilIface).run prog w=.ok (.bool false) w:=fun w=>by rw[qe,AN hp]
      clear hp h8 hE HE3 K4;go_wp2_with fail;refine his.mono ?_;rintro e w5 ⟨rfl,rfl⟩;clear his;go_wp2;go_ret;rw[<-HE4.out];exact⟨rfl,HK4.out,HG4.out⟩
     ·have his:=Lc P.2.2 8 dc (w3.alloc (.cells #[.int .i64 (P.2.1.p:Nat),.int .i64 (P.2.1.o:Nat),.int .i64 (P.2.1.q:Nat),.int .i64 (P.2.1.c:Nat),.bool P.2.1.l] 130));rw[AO h8] at his;have HE4:=BE hE;replace qe:∀w,(binOp .eql 46 (errV P.2.2) .nilIface).run prog w=.ok (.bool false) w:=fun w=>by rw[qe,h8];rfl
      obtain⟨f4,hf4,-⟩:=QB.front K4.core;have hbl:=AC.D4 _ A.c 105 101 f4 79 P.1.fr hf4;rw[HBL.out] at hbl;have HY:Hid (mo P.1 (nwS X.1.fr.k false true)=some y):=by
       rw[HBL.out] at hy;exact hy
      clear h8 hy hE HE3 K4 hf4;go_wp2_with fail;generalize (w3.alloc (.cells #[.int .i64 (P.2.1.p:Nat),.int .i64 (P.2.1.o:Nat),.int .i64 (P.2.1.q:Nat),.int .i64 (P.2.1.c:Nat),.bool P.2.1.l] 130))=w4 at *
      have GB:Chg No w4 (w4.alloc (.cells #[.int .i64 (X.1.fr.k:Nat),.bool false,.bool true,.bool false,.int .i64 0,.int .i64 0,.slice none 0 0] 144)):=(Chg.refl _ w4).alloc _;have hmv:=HMO.out _ P.1 w4.heap.size (nwS X.1.fr.k false true) _ y (HK4.out.chg0 GB) (ShAt.new w4 X.1.fr.k false true) HKL.out HY.out;have HG6:=BE (HG4.out.trans (Chg.cor0 (A:=A) GB));have HSZ:=BE HG4.out.size;clear GB HK4;refine his.mono ?_;rintro e w4 ⟨rfl,rfl⟩;go_wp2_with (first | (go_at_call 95;refine his.mono ?_;rintro e w4 ⟨rfl,rfl⟩) | (go_at_call 96;refine hbl.mono ?_;rintro e w4 ⟨rfl,rfl⟩));refine hmv.mono ?_;rintro e w6 ⟨v6,rfl,k6,s6,sm6,g6⟩;have HK6:=BE k6;have HG7:=BE (HG6.out.trans' g6 (fun k hk e=>e.elim id (fun e=>by have:=HSZ.out;omega)));clear hmv k6 s6 sm6 g6 HG6 his hbl;by_cases hp:y.2.2=0
      ·have HE5:=HE4.out;rw[AI (by rw[hp];simp)] at HE5;have HI2:Hid (nS A mr mo H o Z w w6 k y.1):=⟨HE5,HK6.out,HG7.out⟩;rw[hp];clear hp HE4 HE5;go_wp2
       go_roundg k
       case measure=>omega
       case rel=>exact⟨k,y.1,AM _,HI2.out⟩
      ·replace q:∀w,(binOp .neq 46 (errV y.2.2) .nilIface).run prog w=.ok (.bool true) w:=fun w=>by rw[q,AN hp];rfl
       have HE5:=HE4.out;rw[AJ hp] at HE5;have HE6:Hid ((y.1,y.2.2)=Z):=AR HE5;clear hp HE4 HE5;go_wp2;go_ret;rw[<-HE6.out];exact⟨rfl,HK6.out,HG7.out⟩
theorem FF(A:Ad):∀n,AnC A n
 | 0=>fun _ _ _ _ _ _ _ _ _ _ _ _ h=>by cases h
 | n+1=>fun w0 f cp H hH w K o Z hC hW ho hZ=>by
  have hA:=FF A n
  have it:=YE A n hA
  have no:anK (mrK (movR n) (n+1)) (movR n) H (n+1) K o=some Z:=hZ
  exact cw A (mrK (movR n) (n+1)) (fun w K o Z hK hZ=>ix A (movR n) it w K hK o (n+1) Z hZ) (movR n) it w0 f cp H hH w K hC hW o ho (n+1) Z no
theorem Gw(w:Wd)(o:Int)(h:0<=o/\o<24):Calls prog 51 #[.int .i64 o] w fun e w'=>e=.returned (.bool true)/\w'=w:=by
 obtain⟨h1,h2⟩:=h;go_enter func51,ntmps51;go_wp2;go_ret;exact⟨rfl,rfl⟩
theorem fM(A:Ad)(w:Wd)(K:BH)(h:CoreAt A w K)(o:Nat)(ho:o<24)(d off cap:Nat)(D:List Nat)(hD:D.length=160)(bD:Bys D)(hd:At w d off D)(nd:¬ Cor A d)(n:Nat)(Z:BH × Nat)(hZ:anR n (fun _ _=>D ++ List.replicate 14 0) K o=some Z) :Calls prog 16 #[.pointer (some ⟨A.c,0,none⟩),.int .i64 (o:Nat),.slice (some ⟨d,off,none⟩) 160 cap] w fun e w'=>e=.returned (errV Z.2)/\CoreAt A w' Z.1/\Chg (Cor A) w w':=by
 have G0:Chg No w (w.alloc (.cells #[.slice (some ⟨d,off,none⟩) 160 cap] 48)):=(Chg.refl _ w).alloc _;have La:(w.alloc (.cells #[.slice (some ⟨d,off,none⟩) 160 cap] 48)).cell? ⟨w.heap.size,0,none⟩=some (.slice (some ⟨d,off,none⟩) 160 cap):=by
  have h1:(w.alloc (.cells #[.slice (some ⟨d,off,none⟩) 160 cap] 48)).heap[w.heap.size]?=some (.cells #[.slice (some ⟨d,off,none⟩) 160 cap] 48):=(show (w.heap.push _)[w.heap.size]?=_ by simp);rw[cell_of_row _ _ _ _ _ _ h1];rfl
 have hs:=fun w=>Gw w (o:Nat) om;have hH:=Xw A _ w.heap.size d off cap D hD bD La (hd.chg G0 (fun f=>f)) (h.apart (AM _)) nd (by simp);have ar:=FF A n _ 53 #[.pointer (some ⟨w.heap.size,0,none⟩)] _ hH _ K o Z (h.chg0 G0) (Chg.refl _ _) om hZ;have hv:∀(fn:Fn) (first cap:Array Value) (w:Wd),(Instr.makeFunc fn first cap).run prog w=.ok (.func fn first cap) w:=fun _ _ _ _=>rfl;have HG:=BE (Chg.cor0 (A:=A) G0);go_enter func16,ntmps16;go_wp2_with (go_at_call 51;refine(hs _).mono ?_;rintro e w1 ⟨rfl,rfl⟩);refine ar.mono ?_;rintro e w2 ⟨rfl,k2,g2⟩;have no:=BE k2;have it:=BE (HG.out.trans g2);go_wp2;go_ret;exact⟨rfl,no.out,it⟩
def vaK (n:Nat) (K:BH) (b:Nat) (rt:Bool):Option (BH × Nat):=
 if K.F b=0\/K.F b=3 then some (K,12) else
 if Cy K=true\/(rt=true/\bearK K=false) then some (K,14) else
 (movR n K (nwS b rt false)).map fun y=>(y.1,y.2.2)
theorem MC(w:Wd)(b:Int)(r:Bool):(Instr.build 144 #[(0,.int .i64 b),(1,.bool r)]).run prog w=.ok (.agg #[.int .i64 b,.bool r,.bool false,.bool false,.int .i64 0,.int .i64 0,.slice none 0 0]) w:=kr
theorem PT(A:Ad)(w:Wd)(K:BH)(h:CoreAt A w K)(b:Nat)(hb:b<12)(r:Bool)(n:Nat)(Z:BH × Nat)(hZ:vaK n K b r=some Z) :Calls prog 22 #[.pointer (some ⟨A.c,0,none⟩),.int .i64 (b:Nat),.bool r] w fun e w'=>e=.returned (errV Z.2)/\CoreAt A w' Z.1/\Chg (Cor A) w w':=by
 obtain⟨c1,-⟩:=h.cPool;have hw:=AD.ek w A.po K.F h.pool (b:Nat);have e1:AD.getC (b:Nat)=0:=by unfold AD.getC;rw[AI om]
 have e2:AD.getV K.F (b:Nat)=K.F b:=by
  unfold AD.getV;rw[AI om,AP]
 rw[e1,e2] at hw;have it:=NC A w K h;have no:=Js A w K h;have q:=CA;have g:=BQ;have HK:=BE h;have HB:=BE hb;have wr:=MC;unfold vaK at hZ;by_cases hv:K.F b=0\/K.F b=3
 ·rw[AJ hv] at hZ;have HZ:Hid ((K,12)=Z):=AR hZ;generalize K.F b=v at *
  by_cases h0:v=0
  ·subst h0;go_enter func22,ntmps22;go_wp2_with (go_at_call 59;refine hw.mono ?_;rintro e w ⟨rfl,rfl⟩);go_ret;rw[<-HZ.out];exact⟨rfl,HK.out,Chg.refl _ _⟩
  ·have h3:v=3:=hv.resolve_left h0;subst h3;go_enter func22,ntmps22;go_wp2_with (go_at_call 59;refine hw.mono ?_;rintro e w ⟨rfl,rfl⟩);go_ret;rw[<-HZ.out];exact⟨rfl,HK.out,Chg.refl _ _⟩
 ·rw[AI hv] at hZ;have h0:(K.F b == 0)=false:=by simp;exact fun e=>hv (AK e)
  have h3:(K.F b == 3)=false:=by simp;exact fun e=>hv (AL e)
  generalize K.F b=v at *
  cases h1:Cy K
  ·rw[h1] at it;have hc:(r=true/\bearK K=false)\/¬ (r=true/\bearK K=false):=Classical.em _;rcases hc with hk | hk
   ·rw[AJ (AL hk)] at hZ;have HZ:Hid ((K,14)=Z):=AR hZ;obtain⟨rfl,hx⟩:=hk;rw[hx] at no;go_enter func22,ntmps22;go_wp2_with (first | (go_at_call 59;refine hw.mono ?_;rintro e w ⟨rfl,rfl⟩) | (go_at_call 60;refine it.mono ?_;rintro e w ⟨rfl,rfl⟩) | (go_at_call 61;refine no.mono ?_;rintro e w ⟨rfl,rfl⟩));go_ret;rw[<-HZ.out];exact⟨rfl,HK.out,Chg.refl _ _⟩
   ·rw[AI (fun e=>e.elim (fun e=>by rw[h1] at e;cases e) hk)] at hZ;obtain⟨y,hy,ha⟩:∃y,movR n K (nwS b r false)=some y/\(y.1,y.2.2)=Z:=by
     cases e:movR n K (nwS b r false) with
     | none=>rw[e] at hZ;cases hZ
     | some y=>rw[e] at hZ;exact⟨y,rfl,AR hZ⟩
    have HZ:=BE ha;have GA:Chg No w (w.alloc (.cells #[.int .i64 (b:Nat),.bool r,.bool false,.bool false,.int .i64 0,.int .i64 0,.slice none 0 0] 144)):=(Chg.refl _ w).alloc _;have kd:=YE A n (FF A n) _ K w.heap.size (nwS b r false) _ y (HK.out.chg0 GA) (ShAt.new w b r false) HB hy;have HG:=BE (Chg.cor0 (A:=A) GA);have h6:r=false\/(r=true/\bearK K=true):=by
     cases r
     ·exact AK rfl
     ·right;refine⟨rfl,?_⟩;cases hh:bearK K
      ·exact absurd ⟨rfl,hh⟩ hk
      ·rfl
    rcases h6 with rfl | ⟨rfl,hg⟩
    ·go_enter func22,ntmps22;go_wp2_with (first | (go_at_call 59;refine hw.mono ?_;rintro e w ⟨rfl,rfl⟩) | (go_at_call 60;refine it.mono ?_;rintro e w ⟨rfl,rfl⟩));refine kd.mono ?_;rintro e w6 ⟨v6,rfl,k6,s6,h2,g6⟩;have La:=BE k6;have ar:=BE (HG.out.trans' g6 (fun k hk e=>e.elim id (fun e=>om)));go_wp2;go_ret;rw[<-HZ.out];exact⟨rfl,La.out,ar⟩
    ·rw[hg] at no;go_enter func22,ntmps22;go_wp2_with (first | (go_at_call 59;refine hw.mono ?_;rintro e w ⟨rfl,rfl⟩) | (go_at_call 60;refine it.mono ?_;rintro e w ⟨rfl,rfl⟩) | (go_at_call 61;refine no.mono ?_;rintro e w ⟨rfl,rfl⟩));refine kd.mono ?_;rintro e w6 ⟨v6,rfl,k6,s6,h2,g6⟩;have La:=BE k6;have ar:=BE (HG.out.trans' g6 (fun k hk e=>e.elim id (fun e=>om)));go_wp2;go_ret;rw[<-HZ.out];exact⟨rfl,La.out,ar⟩
  ·rw[h1] at it;rw[AJ (AK h1)] at hZ;have HZ:Hid ((K,14)=Z):=AR hZ;go_enter func22,ntmps22;go_wp2_with (first | (go_at_call 59;refine hw.mono ?_;rintro e w ⟨rfl,rfl⟩) | (go_at_call 60;refine it.mono ?_;rintro e w ⟨rfl,rfl⟩));go_ret;rw[<-HZ.out];exact⟨rfl,HK.out,Chg.refl _ _⟩
section
variable {k:Nat}{t l sd:Bool}{p o s c d:Int}{v:Value}(A:Ad)(w:Wd)(K:BH)
def inK (K:BH) (p:Nat):BH × Pg × Nat:=
 let x:=rdK K p
 if x.2.2≠0 then (x.1,Pg.zero,x.2.2) else
 if AB.own x.1.L p = -1 then (x.1,x.2.1,0) else
 if x.2.1.sound=true/\x.2.1.dmg<2 then (x.1,x.2.1,0) else
 ({ x.1 with hS:=AG.more 255 x.1.hS (p / 8:Nat),qu:=AF.Ub x.1.qu (p / 8:Nat) },x.2.1,0)
theorem Wf.qu'{K:BH}(h:Wf K){l:List Int}(hl:AF.NA l):Wf { K with qu:=l }:=
 ⟨h.chip,h.rr,h.frm,h.map,h.vs,h.vp,h.vc,h.fl,h.nx,h.fr,h.cu,hl,h.hea,h.tl⟩
theorem YK(h:CoreAt A w K)(x:Int):Calls prog 101 #[.pointer (some ⟨A.c,83,none⟩),.int .i64 x] w fun e w'=>e=.returned (errV (AF.iO x))/\CoreAt A w' { K with qu:=AF.Ub K.qu x }/\Chg (·=A.c) w w':=by
 refine(AF.lK w A.c 105 101 _ 83 K.qu h.core h.wf.qu x).mono ?_;rintro e w' ⟨rfl,hQ,hc⟩;exact⟨rfl,h.setCore { K with qu:=AF.Ub K.qu x } ⟨rfl,rfl,rfl,rfl,rfl,rfl,rfl,rfl,rfl⟩ hQ hc (h.wf.qu' (h.wf.qu.add x)),hc⟩
theorem YL(h:CoreAt A w K)(x:Int):Calls prog 100 #[.pointer (some ⟨A.h,0,none⟩),.int .i64 x] w fun e w'=>e=.returned (errV (AG.Jr x))/\CoreAt A w' { K with hS:=AG.more 255 K.hS x }/\Chg (·=A.h) w w':=by
 refine(AG.Xc w A.h _ _ _ h.hea h.wf.hea x).mono ?_;rintro e w' ⟨rfl,hH,hc⟩;exact⟨rfl,h.setHea hH hc (h.wf.hR' ((AG.GR.more3 h.wf.hea x))),hc⟩
theorem Pb.set8{w:Wd}(h:Pb w k t p o s c l sd v d)(d':Int):Pb (w.setCell ⟨k,8,none⟩ (.int .i64 d')) k t p o s c l sd v d':=heap_setCell_same w k 8 _ 132 _ h
theorem Pb.all{w:Wd}(h:Pb w k t p o s c l sd v d)(t':Bool)(p' o' s' c':Int)(l' sd':Bool)(v':Value)(d':Int) :Pb (((((((((w.setCell ⟨k,0,none⟩ (.bool t')).setCell ⟨k,1,none⟩ (.int .i64 p')).setCell ⟨k,2,none⟩ (.int .i64 o')).setCell ⟨k,3,none⟩ (.int .i64 s')).setCell ⟨k,4,none⟩ (.int .i64 c')).setCell ⟨k,5,none⟩ (.bool l')).setCell ⟨k,6,none⟩ (.bool sd')).setCell ⟨k,7,none⟩ (v')).setCell ⟨k,8,none⟩ (.int .i64 d')) k t' p' o' s' c' l' sd' v' d'/\Chg (·=k) w (((((((((w.setCell ⟨k,0,none⟩ (.bool t')).setCell ⟨k,1,none⟩ (.int .i64 p')).setCell ⟨k,2,none⟩ (.int .i64 o')).setCell ⟨k,3,none⟩ (.int .i64 s')).setCell ⟨k,4,none⟩ (.int .i64 c')).setCell ⟨k,5,none⟩ (.bool l')).setCell ⟨k,6,none⟩ (.bool sd')).setCell ⟨k,7,none⟩ (v')).setCell ⟨k,8,none⟩ (.int .i64 d')):=by
 refine⟨((((((((h.set0 t').set1 p').set2 o').set3 s').set4 c').set5 l').set6 sd').set7 v').set8 d',?_⟩;have g:=Chg.refl (·=k) w;exact((((((((g.setCell (AK rfl) _ _).setCell (AK rfl) _ _).setCell (AK rfl) _ _).setCell (AK rfl) _ _).setCell (AK rfl) _ _).setCell (AK rfl) _ _).setCell (AK rfl) _ _).setCell (AK rfl) _ _).setCell (AK rfl) _ _
theorem ME(h:CoreAt A w K)(p:Nat)(hp:p<96) :Calls prog 54 #[.pointer (some ⟨A.c,0,none⟩),.int .i64 (p:Nat)] w fun e w'=>∃v,e=.returned (.tuple #[Zo (inK K p).2.1 v,errV (inK K p).2.2])/\DR w' w.heap.size 5 v (inK K p).2.1.data/\CoreAt A w' (inK K p).1/\Chg (Cor A) w w':=by
 have hbd:=KW;have HP:=BE (Pb.new w false 0 0 0 0 false false (.slice none 0 0) 0);have G0:Chg No w (w.alloc (.cells #[.bool false,.int .i64 0,.int .i64 0,.int .i64 0,.int .i64 0,.bool false,.bool false,.slice none 0 0,.int .i64 0] 132)):=(Chg.refl _ w).alloc _;have hrd:=Xh A _ K (h.chg0 G0) p hp;have hs0:(w.alloc (.cells #[.bool false,.int .i64 0,.int .i64 0,.int .i64 0,.int .i64 0,.bool false,.bool false,.slice none 0 0,.int .i64 0] 132)).heap.size=w.heap.size+1:=by simp
 rw[hs0] at hrd;have HLOW:=BE h.low;have HG:=BE G0;have q:=CA;have g:=BQ;have hpz:0<=((p:Nat):Int)/\((p:Nat):Int)<96:=om
 have hbl:=fun w=>IG w (p:Nat) hpz;have HE:Hid (inK K p=if (rdK K p).2.2≠0 then ((rdK K p).1,Pg.zero,(rdK K p).2.2) else if AB.own (rdK K p).1.L p = -1 then ((rdK K p).1,(rdK K p).2.1,0) else if (rdK K p).2.1.sound=true/\(rdK K p).2.1.dmg<2 then ((rdK K p).1,(rdK K p).2.1,0) else ({ (rdK K p).1 with hS:=AG.more 255 (rdK K p).1.hS (p / 8:Nat),qu:=AF.Ub (rdK K p).1.qu (p / 8:Nat) },(rdK K p).2.1,0)):=rfl;generalize rdK K p=Z at *
 clear h G0 hs0;go_enter func54,ntmps54;go_wp2_with fail;refine hrd.mono ?_;rintro e w1 ⟨v,rfl,hO,K1,G1⟩;have n0:¬ Cor A w.heap.size:=fun e=>by have:=HLOW.out _ (AK e);omega
 have HP1:=BE (HP.out.chg G1 n0);have HG1:=BE ((Chg.cor0 (A:=A) HG.out).trans G1);have HO1:=BE hO;have HK1:=BE K1;have HPN:=BE (Pb.new w1 false 0 0 0 0 false false (.slice none 0 0) 0);have HGN:Hid (Chg No w1 (w1.alloc (.cells #[.bool false,.int .i64 0,.int .i64 0,.int .i64 0,.int .i64 0,.bool false,.bool false,.slice none 0 0,.int .i64 0] 132))):=(Chg.refl _ w1).alloc _;have hlt1:=HP1.out.lt;clear hrd hO K1 G1 HP HG n0;unfold Zo;go_wp2_with (first | refine wpList_store_pg rfl (.tmp 6) (.tmp 16) rfl w1.heap.size rfl rfl HO1.out.one HPN.out ?_);intro w2 P2 G2;have hz1:=HGN.out.size;have HK2:=BE ((HK1.out.chg0 HGN.out).far HLOW.out om G2);have HP2:=BE P2;have HQ2:=BE ((HP1.out.chg HGN.out (fun f=>f)).chg G2 om);have HO2:=BE ((HO1.out.chg HGN.out (fun _ _ _ f=>f)).chg G2 (fun k hk he e=>by have:=HO1.out.block he;omega));have HG2:=BE ((HG1.out.trans HGN.out.cor0).trans' G2 (fun k hk e=>om));have hz2:=P2.lt;have hwle:w.heap.size+1<=w1.heap.size:=om
 clear P2 G2 HK1 HO1 HP1 HG1 HPN HGN hz1;by_cases hc:Z.2.2=0
 ·replace q0:∀w,(binOp .neq 46 (errV Z.2.2) .nilIface).run prog w=.ok (.bool false) w:=fun w=>by rw[q,AO hc];rfl
  obtain⟨c2,-⟩:=HK2.out.cMap;obtain⟨c10,-⟩:=HK2.out.cHea;have how:=AB.cD w2 A.ma Z.1.L HK2.out.map (p:Nat);have HZ:=BE hc;by_cases ho:AB.own Z.1.L (p:Nat) = -1
  ·have HE2:Hid (inK K p=(Z.1,Z.2.1,0)):=(by show inK K p=_;rw[HE.out,AI (by rw[hc];simp),AJ ho]);have eo:AB.Zr Z.1.L (p:Nat)=11:=(by unfold AB.Zr;rw[AI om,AJ ho]);have q1:∀w,(binOp .neq 46 (errV 11) .nilIface).run prog w=.ok (.bool true) w:=fun w=>by rw[q];rfl
   rw[eo] at how;generalize AB.owV Z.1.L (p:Nat)=ov at *
   clear hc ho HE hbl eo q;go_wp2_with (first | (go_at_call 98;refine how.mono ?_;rintro e w9 ⟨rfl,rfl⟩) | refine wpList_load_pg rfl (.tmp 6) rfl w1.heap.size rfl HP2.out ?_ | refine wpList_store_pg rfl (.tmp 4) (.tmp 33) rfl w.heap.size rfl rfl HO2.out.one HQ2.out ?_);intro w3 P3 G3;have HP3:=BE P3;have HK3:=BE (HK2.out.far HLOW.out (AM _) G3);have HO3:=BE (HO2.out.chg G3 (fun k hk he e=>by have:=(HO2.out.block he).1;omega));have HG3:=BE (HG2.out.trans' G3 (fun k hk e=>om));clear P3 G3 HQ2 HK2 HG2 HP2 HO2;go_wp2;refine AZ (CO rfl _ rfl HP3.out) rfl ?_;rw[HE2.out];exact⟨v,rfl,HO3.out.mono (fun k hk=>by have:=(HO3.out.block hk).1;omega),HK3.out,HG3.out⟩
  ·have eo:AB.Zr Z.1.L (p:Nat)=0:=(by unfold AB.Zr;rw[AI om,AI ho]);rw[eo] at how;have q1:∀w,(binOp .neq 46 (errV 0) .nilIface).run prog w=.ok (.bool false) w:=fun w=>by rw[q];rfl
   clear q;obtain⟨p0,p1,p2,p3,p4,p5,p6,p7,p8⟩:=HP2.out.cells;generalize AB.owV Z.1.L (p:Nat)=ov at *
   by_cases hs:Z.2.1.sound=true/\Z.2.1.dmg<2
   ·have HE2:Hid (inK K p=(Z.1,Z.2.1,0)):=(by show inK K p=_;rw[HE.out,AI (by rw[hc];simp),AI ho,AJ hs]);obtain⟨hs1,hs2⟩:=hs;rw[hs1] at p6;have hs3:((Z.2.1.dmg:Nat):Int)<2:=om;clear hc ho HE hbl eo hs1 hs2 p0 p1 p2 p3 p4 p5 p7;go_wp2_with (first | (go_at_call 98;refine how.mono ?_;rintro e w9 ⟨rfl,rfl⟩) | refine wpList_load_pg rfl (.tmp 6) rfl w1.heap.size rfl HP2.out ?_ | refine wpList_store_pg rfl (.tmp 4) (.tmp 41) rfl w.heap.size rfl rfl HO2.out.one HQ2.out ?_);intro w3 P3 G3;have HP3:=BE P3;have HK3:=BE (HK2.out.far HLOW.out (AM _) G3);have HO3:=BE (HO2.out.chg G3 (fun k hk he e=>by have:=(HO2.out.block he).1;omega));have HG3:=BE (HG2.out.trans' G3 (fun k hk e=>om));clear P3 G3 HQ2 HK2 HG2 HP2 HO2;go_wp2;refine AZ (CO rfl _ rfl HP3.out) rfl ?_;rw[HE2.out];exact⟨v,rfl,HO3.out.mono (fun k hk=>by have:=(HO3.out.block hk).1;omega),HK3.out,HG3.out⟩
   ·have HE2:Hid (inK K p=({ Z.1 with hS:=AG.more 255 Z.1.hS (p / 8:Nat),qu:=AF.Ub Z.1.qu (p / 8:Nat) },Z.2.1,0)):=(by show inK K p=_;rw[HE.out,AI (by rw[hc];simp),AI ho,AI hs]);have hrp:=YL A w2 Z.1 HK2.out (p / 8:Nat);have hb8:AG.Jr (p / 8:Nat)=0:=(by unfold AG.Jr;rw[AJ om]);rw[hb8] at hrp;have hbl2:=hbl w2;rw[show ((p:Nat):Int) / 8=((p / 8:Nat):Int) by omega] at hbl2;have hsd:Z.2.1.sound=false\/(Z.2.1.sound=true/\¬ ((Z.2.1.dmg:Nat):Int)<2):=by
     cases e:Z.2.1.sound
     ·exact AK rfl
     ·exact AL ⟨rfl,fun x=>hs ⟨e,om⟩⟩
    clear hc ho HE hbl eo hs hb8 p0 p1 p2 p3 p4 p5 p7;obtain⟨va,vn,vk,rfl⟩:∃a n k,v=.slice a n k:=by
     rcases HO2.out.form with ⟨e,_⟩ | ⟨gg,cap,e,_⟩
     ·exact⟨_,_,_,e⟩
     ·exact⟨_,_,_,e⟩
    rcases hsd with hsd | ⟨hsd,hdm⟩
    ·rw[hsd] at p6;clear hsd;go_wp2_with (first | (go_at_call 98;refine how.mono ?_;rintro e w2 ⟨rfl,rfl⟩) | (go_at_call 99;refine hbl2.mono ?_;rintro e w2 ⟨rfl,rfl⟩));refine hrp.mono ?_;rintro e w3 ⟨rfl,K3,G3⟩;have HK3:=BE K3;have n1:¬ w1.heap.size=A.h:=fun e=>by have:=HLOW.out A.h (AK (by unfold Cor;omega));omega
     have n0:¬ w.heap.size=A.h:=fun e=>by have:=HLOW.out A.h (AK (by unfold Cor;omega));omega
     have HP3:=BE (HP2.out.chg G3 n1);have HQ3:=BE (HQ2.out.chg G3 n0);have HO3:=BE (HO2.out.chg G3 (fun k hk he e=>by have:=(HO2.out.block he).1;have:=HLOW.out A.h (AK (by unfold Cor;omega));omega));have HG3:=BE (HG2.out.trans G3.cor_h);have hz3:w2.heap.size<=w3.heap.size:=G3.size;obtain⟨r0,r1,r2,r3,r4,r5,r6,r7,r8⟩:=(HP3.out.chg ((Chg.refl No w3).drew) (fun f=>f)).cells;clear hrp K3 G3 HP2 HQ2 HO2 HG2 HK2 how hbl2 p6 p8 c2 c10 n0 n1;go_wp2_with fail
     go_region_held3 (fun wx=>wx.cell? ⟨w1.heap.size,0,none⟩=some (.bool Z.2.1.tagged)/\wx.cell? ⟨w1.heap.size,1,none⟩=some (.int .i64 (Z.2.1.p:Nat))/\wx.cell? ⟨w1.heap.size,2,none⟩=some (.int .i64 (Z.2.1.o:Nat))/\wx.cell? ⟨w1.heap.size,3,none⟩=some (.int .i64 (Z.2.1.s:Nat))/\wx.cell? ⟨w1.heap.size,4,none⟩=some (.int .i64 (Z.2.1.c:Nat))/\wx.cell? ⟨w1.heap.size,5,none⟩=some (.bool Z.2.1.l)/\wx.cell? ⟨w1.heap.size,6,none⟩=some (.bool Z.2.1.sound)/\wx.cell? ⟨w1.heap.size,7,none⟩=some (.slice va vn vk)/\wx.cell? ⟨w1.heap.size,8,none⟩=some (.int .i64 (Z.2.1.dmg:Nat)))
      (first | (with_reducible exact⟨u0,u1,u2,u3,u4,u5,u6,u7,u8⟩) | (with_reducible exact⟨x0,x1,x2,x3,x4,x5,x6,x7,x8⟩) | (with_reducible exact⟨r0,r1,r2,r3,r4,r5,r6,r7,r8⟩))
      (first
       | (go_at_call 101;refine(YK A _ _ (HK3.out.drewN 1) _).mono ?_;rintro e w4 ⟨rfl,k4,g4⟩;have nc1:¬ w1.heap.size=A.c:=(fun e=>by have:=HLOW.out A.c (AK (by unfold Cor;omega));omega);have nc0:¬ w.heap.size=A.c:=(fun e=>by have:=HLOW.out A.c (AK (by unfold Cor;omega));omega);have HK4:=BE k4;have HG4:=BE (HG3.out.drew.trans g4.cor_c);have HP4:=BE (HP3.out.chg ((Chg.refl (·=A.c) w3).drew.trans g4) nc1);have HQ4:=BE (HQ3.out.chg ((Chg.refl (·=A.c) w3).drew.trans g4) nc0);have HO4:=BE (HO3.out.chg ((Chg.refl (·=A.c) w3).drew.trans g4) (fun k hk he e=>by have:=(HO3.out.block he).1;have:=HLOW.out A.c (AK (by unfold Cor;omega));omega));obtain⟨x0,x1,x2,x3,x4,x5,x6,x7,x8⟩:=HP4.out.cells;obtain⟨y0,y1,y2,y3,y4,y5,y6,y7,y8⟩:=HQ4.out.cells;have z0:=HQ4.out.frozen 0;have z1:=HQ4.out.frozen 1;have z2:=HQ4.out.frozen 2;have z3:=HQ4.out.frozen 3;have z4:=HQ4.out.frozen 4;have z5:=HQ4.out.frozen 5;have z6:=HQ4.out.frozen 6;have z7:=HQ4.out.frozen 7;have z8:=HQ4.out.frozen 8;obtain⟨P5,G5⟩:=HQ4.out.all Z.2.1.tagged (Z.2.1.p:Nat) (Z.2.1.o:Nat) (Z.2.1.s:Nat) (Z.2.1.c:Nat) Z.2.1.l Z.2.1.sound (.slice va vn vk) (Z.2.1.dmg:Nat);obtain⟨u0,u1,u2,u3,u4,u5,u6,u7,u8⟩:=(HP4.out.chg G5 om).cells;have HP5:=BE P5;have HG5':=BE G5;clear P5 G5;clear k4 g4 nc1 nc0))
     have HK5:=BE (HK4.out.far HLOW.out (AM _) HG5'.out);have HO5:=BE (HO4.out.chg HG5'.out (fun k hk he e=>by have:=(HO4.out.block he).1;omega));have HG5:=BE (HG4.out.trans' HG5'.out (fun k hk e=>om));clear y0 y1 y2 y3 y4 y5 y6 y7 y8 z0 z1 z2 z3 z4 z5 z6 z7 z8 u0 u1 u2 u3 u4 u5 u6 u7 u8 x0 x1 x2 x3 x4 x5 x6 x7 x8;go_wp2;refine AZ (CO rfl _ rfl HP5.out) rfl ?_;rw[HE2.out];have ea:AF.iO ((p:Int) / 8)=0:=(by unfold AF.iO;rw[AI om]);have hk:=HK5.out;rw[show ((p:Nat):Int) / 8=((p / 8:Nat):Int) by omega] at hk;rw[ea];exact⟨_,rfl,HO5.out.mono (fun k hk=>by have:=(HO5.out.block hk).1;omega),hk,HG5.out⟩
    ·rw[hsd] at p6;clear hsd;go_wp2_with (first | (go_at_call 98;refine how.mono ?_;rintro e w2 ⟨rfl,rfl⟩) | (go_at_call 99;refine hbl2.mono ?_;rintro e w2 ⟨rfl,rfl⟩));refine hrp.mono ?_;rintro e w3 ⟨rfl,K3,G3⟩;have HK3:=BE K3;have n1:¬ w1.heap.size=A.h:=fun e=>by have:=HLOW.out A.h (AK (by unfold Cor;omega));omega
     have n0:¬ w.heap.size=A.h:=fun e=>by have:=HLOW.out A.h (AK (by unfold Cor;omega));omega
     have HP3:=BE (HP2.out.chg G3 n1);have HQ3:=BE (HQ2.out.chg G3 n0);have HO3:=BE (HO2.out.chg G3 (fun k hk he e=>by have:=(HO2.out.block he).1;have:=HLOW.out A.h (AK (by unfold Cor;omega));omega));have HG3:=BE (HG2.out.trans G3.cor_h);have hz3:w2.heap.size<=w3.heap.size:=G3.size;obtain⟨r0,r1,r2,r3,r4,r5,r6,r7,r8⟩:=(HP3.out.chg ((Chg.refl No w3).drew) (fun f=>f)).cells;clear hrp K3 G3 HP2 HQ2 HO2 HG2 HK2 how hbl2 p6 p8 c2 c10 n0 n1;go_wp2_with fail
     go_region_held3 (fun wx=>wx.cell? ⟨w1.heap.size,0,none⟩=some (.bool Z.2.1.tagged)/\wx.cell? ⟨w1.heap.size,1,none⟩=some (.int .i64 (Z.2.1.p:Nat))/\wx.cell? ⟨w1.heap.size,2,none⟩=some (.int .i64 (Z.2.1.o:Nat))/\wx.cell? ⟨w1.heap.size,3,none⟩=some (.int .i64 (Z.2.1.s:Nat))/\wx.cell? ⟨w1.heap.size,4,none⟩=some (.int .i64 (Z.2.1.c:Nat))/\wx.cell? ⟨w1.heap.size,5,none⟩=some (.bool Z.2.1.l)/\wx.cell? ⟨w1.heap.size,6,none⟩=some (.bool Z.2.1.sound)/\wx.cell? ⟨w1.heap.size,7,none⟩=some (.slice va vn vk)/\wx.cell? ⟨w1.heap.size,8,none⟩=some (.int .i64 (Z.2.1.dmg:Nat)))
      (first | (with_reducible exact⟨u0,u1,u2,u3,u4,u5,u6,u7,u8⟩) | (with_reducible exact⟨x0,x1,x2,x3,x4,x5,x6,x7,x8⟩) | (with_reducible exact⟨r0,r1,r2,r3,r4,r5,r6,r7,r8⟩))
      (first
       | (go_at_call 101;refine(YK A _ _ (HK3.out.drewN 1) _).mono ?_;rintro e w4 ⟨rfl,k4,g4⟩;have nc1:¬ w1.heap.size=A.c:=(fun e=>by have:=HLOW.out A.c (AK (by unfold Cor;omega));omega);have nc0:¬ w.heap.size=A.c:=(fun e=>by have:=HLOW.out A.c (AK (by unfold Cor;omega));omega);have HK4:=BE k4;have HG4:=BE (HG3.out.drew.trans g4.cor_c);have HP4:=BE (HP3.out.chg ((Chg.refl (·=A.c) w3).drew.trans g4) nc1);have HQ4:=BE (HQ3.out.chg ((Chg.refl (·=A.c) w3).drew.trans g4) nc0);have HO4:=BE (HO3.out.chg ((Chg.refl (·=A.c) w3).drew.trans g4) (fun k hk he e=>by have:=(HO3.out.block he).1;have:=HLOW.out A.c (AK (by unfold Cor;omega));omega));obtain⟨x0,x1,x2,x3,x4,x5,x6,x7,x8⟩:=HP4.out.cells;obtain⟨y0,y1,y2,y3,y4,y5,y6,y7,y8⟩:=HQ4.out.cells;have z0:=HQ4.out.frozen 0;have z1:=HQ4.out.frozen 1;have z2:=HQ4.out.frozen 2;have z3:=HQ4.out.frozen 3;have z4:=HQ4.out.frozen 4;have z5:=HQ4.out.frozen 5;have z6:=HQ4.out.frozen 6;have z7:=HQ4.out.frozen 7;have z8:=HQ4.out.frozen 8;obtain⟨P5,G5⟩:=HQ4.out.all Z.2.1.tagged (Z.2.1.p:Nat) (Z.2.1.o:Nat) (Z.2.1.s:Nat) (Z.2.1.c:Nat) Z.2.1.l Z.2.1.sound (.slice va vn vk) (Z.2.1.dmg:Nat);obtain⟨u0,u1,u2,u3,u4,u5,u6,u7,u8⟩:=(HP4.out.chg G5 om).cells;have HP5:=BE P5;have HG5':=BE G5;clear P5 G5;clear k4 g4 nc1 nc0))
     have HK5:=BE (HK4.out.far HLOW.out (AM _) HG5'.out);have HO5:=BE (HO4.out.chg HG5'.out (fun k hk he e=>by have:=(HO4.out.block he).1;omega));have HG5:=BE (HG4.out.trans' HG5'.out (fun k hk e=>om));clear y0 y1 y2 y3 y4 y5 y6 y7 y8 z0 z1 z2 z3 z4 z5 z6 z7 z8 u0 u1 u2 u3 u4 u5 u6 u7 u8 x0 x1 x2 x3 x4 x5 x6 x7 x8;go_wp2;refine AZ (CO rfl _ rfl HP5.out) rfl ?_;rw[HE2.out];have ea:AF.iO ((p:Int) / 8)=0:=(by unfold AF.iO;rw[AI om]);have hk:=HK5.out;rw[show ((p:Nat):Int) / 8=((p / 8:Nat):Int) by omega] at hk;rw[ea];exact⟨_,rfl,HO5.out.mono (fun k hk=>by have:=(HO5.out.block hk).1;omega),hk,HG5.out⟩
 ·have HE2:Hid (inK K p=(Z.1,Pg.zero,Z.2.2)):=by show inK K p=_;rw[HE.out,AJ hc]
  replace q:∀w,(binOp .neq 46 (errV Z.2.2) .nilIface).run prog w=.ok (.bool true) w:=fun w=>by rw[q,AN hc];rfl
  clear hc HE hbl;go_wp2_with (first | refine wpList_store_pg rfl (.tmp 4) (.tmp 20) rfl w.heap.size rfl rfl rfl HQ2.out ?_);intro w3 P3 G3;have HP3:=BE P3;have HK3:=BE (HK2.out.far HLOW.out (AM _) G3);have HG3:=BE (HG2.out.trans' G3 (fun k hk e=>om));clear P3 G3 HQ2 HK2 HG2 HP2 HO2;go_wp2;refine AZ (CO rfl _ rfl HP3.out) rfl ?_;rw[HE2.out];exact⟨.slice none 0 0,rfl,CU _ _,HK3.out,HG3.out⟩
end
def efK (S:Nat->Int):Nat->Nat->BH->Bool->BH × Bool × Nat
 | 0,_,K,b=>(K,b,0)
 | n+1,i,K,b=>if S i≠0 then efK S n (i+1) K b else
  if (erK K i).2=7 then ((erK K i).1,false,7) else
  if (erK K i).2≠0 then efK S n (i+1) (spK (erK K i).1 (i:Nat)) true else efK S n (i+1) (erK K i).1 b
def MF (c:Nat):Nat:=if c=14 then 0 else c
def cnK (n:Nat) (K:BH):Option (BH × Nat):=
 if K.dd=true then some (K,0) else
 if (efK K.F 12 0 K false).2.2≠0 then some ((efK K.F 12 0 K false).1,(efK K.F 12 0 K false).2.2) else
 if (efK K.F 12 0 K false).1.L 24≠-1/\(efK K.F 12 0 K false).2.1=false then some ((efK K.F 12 0 K false).1,0) else
 (anR n noH (efK K.F 12 0 K false).1 24).map fun y=>(y.1,MF y.2)
theorem Fp(c:Nat)(w:Wd):Calls prog 78 #[errV c] w fun e w'=>e=.returned (errV (MF c))/\w'=w:=by
 have it:=Lc c 14 dc w;unfold MF;by_cases h:c=14
 ·rw[AO h] at it;rw[AJ h];clear h;generalize errV c=x at *
  go_enter func78,ntmps78;go_wp2_with (go_at_call 95;refine it.mono ?_;rintro e w ⟨rfl,rfl⟩);go_ret;exact⟨rfl,rfl⟩
 ·rw[AN h] at it;rw[AI h];clear h;generalize errV c=x at *
  go_enter func78,ntmps78;go_wp2_with (go_at_call 95;refine it.mono ?_;rintro e w ⟨rfl,rfl⟩);go_ret;exact⟨rfl,rfl⟩
theorem YM(S:Nat->Int):∀n i K b,(efK S n i K b).2.2=0\/(efK S n i K b).2.2=7:=by
 intro n
 induction n with
 | zero=>intro i K b;exact AK rfl
 | succ n ih=>
  intro i K b;rw[efK];split
  ·exact ih _ _ _
  ·split
   ·exact AL rfl
   ·split <;> exact ih _ _ _
theorem Ur(c:Nat):IF c=0\/IF c=7\/IF c=8:=by
 unfold IF;split
 ·rename_i h;rcases h with h | h <;> rw[h] <;> simp
 ·simp
theorem PU(A:Ad)(w:Wd)(K:BH)(h:CoreAt A w K) :Calls prog 77 #[.pointer (some ⟨A.c,0,none⟩)] w fun e w'=>e=.returned (.tuple #[.bool (efK K.F 12 0 K false).2.1,errV (efK K.F 12 0 K false).2.2])/\CoreAt A w' (efK K.F 12 0 K false).1/\Chg (Cor A) w w':=by
 obtain⟨c1,-⟩:=h.cPool;have hst:=AD.EC w A.po K.F h.pool;have HK:=BE h;have q:=CA;have g:=BQ;obtain⟨X,HX⟩:∃X,Hid (efK K.F 12 0 K false=X):=⟨_,rfl⟩;rw[HX.out];clear h;go_enter func77,ntmps77;go_wp2_with (go_at_call 47;refine hst.mono ?_;rintro e w1 ⟨rfl,I1,G1⟩);have HI:=BE I1;have HK1:=BE (HK.out.chg0 G1);have HG1:=BE (Chg.cor0 (A:=A) G1);have HN:Hid (¬ Cor A w.heap.size):=HK.out.apart (AM _);have hs1:w.heap.size<w1.heap.size:=I1.lt;clear hst c1 I1 G1
 go_loopg [4,14] 12 (fun kx s4 s14 wr=>∃(i:Nat) (Ki:BH) (b:Bool),s14=.int .i64 i/\s4=.bool b/\i<=12/\12 - i<=kx/\Hid (CoreAt A wr Ki)/\Hid (Chg (Cor A) w wr)/\Hid (IB wr w.heap.size 3 12 K.F)/\Hid (efK K.F (12 - i) i Ki b=X))
 case atStart=>exact⟨0,K,false,rfl,rfl,om,om,HK1.out,HG1.out,HI.out,HX.out⟩
 case round=>
  obtain⟨i,Ki,b,rfl,rfl,hi,hkx,HC,HG,HJ,HE⟩:=hrel;by_cases hlt:i<12
  ·have hltz:(i:Int)<12:=om;obtain⟨ci,-⟩:=HJ.out.cell i hlt;obtain⟨m,hm⟩:∃m,12 - i=m+1:=⟨11 - i,om⟩;have hm2:12 - (i+1)=m:=om;have HE2:Hid ((if K.F i≠0 then efK K.F m (i+1) Ki b else if (erK Ki i).2=7 then ((erK Ki i).1,false,7) else if (erK Ki i).2≠0 then efK K.F m (i+1) (spK (erK Ki i).1 (i:Nat)) true else efK K.F m (i+1) (erK Ki i).1 b)=X):=by
    have:=HE.out;rw[hm,efK] at this;exact this
   have her:=NE A wr Ki HC.out i hlt;have HM2:=BE hm2;clear hm hm2 HE;generalize K.F i=fi at *
   by_cases h0:fi=0
   ·subst h0;have hcd:(erK Ki i).2=0\/(erK Ki i).2=7\/(erK Ki i).2=8:=by
     unfold erK;dsimp only;split
     ·exact AK rfl
     ·exact Ur _
    have HCD:=BE hcd;clear hcd;generalize erK Ki i=Y at *
    go_wp2_with fail;refine her.mono ?_;rintro e w2 ⟨rfl,k2,g2⟩;have HK2:=BE k2;have HG2:=BE (HG.out.trans g2);have HJ2:=BE (HJ.out.chg g2 HN.out);have his:=Lc Y.2 7 dc w2;have hsp:=Jt A w2 Y.1 k2 (i:Nat);clear her k2 g2 ci HC HG HJ;rcases HCD.out with e | e | e
    ·rw[AN (by rw[e];decide)] at his;have HE3:Hid (efK K.F m (i+1) Y.1 b=X):=by
      have:=HE2.out;rw[AI (by simp),AI (by rw[e];decide),AI (by rw[e];simp)] at this;exact this
     replace q:∀w,(binOp .neq 46 (errV Y.2) .nilIface).run prog w=.ok (.bool false) w:=fun w=>by rw[q,AO e];rfl
     clear HE2 HCD hsp e;go_wp2_with (go_at_call 95;refine his.mono ?_;rintro e w2 ⟨rfl,rfl⟩)
     go_roundg (12 - (i+1))
     case measure=>omega
     case rel=>exact⟨i+1,Y.1,b,by simp,rfl,om,AM _,HK2.out,HG2.out,HJ2.out,by rw[HM2.out];exact HE3.out⟩
    ·rw[AO e] at his;have HE3:Hid ((Y.1,false,7)=X):=by
      have:=HE2.out;rw[AI (by simp),AJ e] at this;exact this
     have HY:=BE e;clear HE2 HCD hsp e;go_wp2_with (go_at_call 95;refine his.mono ?_;rintro e w2 ⟨rfl,rfl⟩);go_ret2;rw[<-HE3.out,HY.out];exact⟨rfl,HK2.out,HG2.out⟩
    ·rw[AN (by rw[e];decide)] at his;have HE3:Hid (efK K.F m (i+1) (spK Y.1 (i:Nat)) true=X):=by
      have:=HE2.out;rw[AI (by simp),AI (by rw[e];decide),AJ (by rw[e];decide)] at this;exact this
     replace q:∀w,(binOp .neq 46 (errV Y.2) .nilIface).run prog w=.ok (.bool true) w:=fun w=>by rw[q,AN (by rw[e];decide)];rfl
     clear HE2 HCD e;go_wp2_with (go_at_call 95;refine his.mono ?_;rintro e w2 ⟨rfl,rfl⟩);refine hsp.mono ?_;rintro e w3 ⟨rfl,k3,g3⟩;have HK3:=BE k3;have HG3:=BE (HG2.out.trans g3);have HJ3:=BE (HJ2.out.chg g3 HN.out);clear hsp k3 g3 HK2 HG2 HJ2 his;go_wp2
     go_roundg (12 - (i+1))
     case measure=>omega
     case rel=>exact⟨i+1,_,true,by simp,rfl,om,AM _,HK3.out,HG3.out,HJ3.out,by rw[HM2.out];exact HE3.out⟩
   ·have h0b:(fi == 0)=false:=(by simp[h0]);have HE3:Hid (efK K.F m (i+1) Ki b=X):=by
     have:=HE2.out;rw[AJ h0] at this;exact this
    clear HE2 her h0;go_wp2
    go_roundg (12 - (i+1))
    case measure=>omega
    case rel=>exact⟨i+1,Ki,b,by simp,rfl,om,AM _,HC.out,HG.out,HJ.out,by rw[HM2.out];exact HE3.out⟩
  ·have hltz:¬ (i:Int)<12:=om;have e:i=12:=om;subst e;have HE3:Hid ((Ki,b,0)=X):=HE.out;go_wp2;go_ret2;rw[<-HE3.out];exact⟨rfl,HC.out,HG.out⟩
theorem cx(A:Ad)(w:Wd)(K:BH)(h:CoreAt A w K)(n:Nat)(Z:BH × Nat)(hZ:cnK n K=some Z) :Calls prog 35 #[.pointer (some ⟨A.c,0,none⟩)] w fun e w'=>e=.returned (errV Z.2)/\CoreAt A w' Z.1/\Chg (Cor A) w w':=by
 obtain⟨c97,-⟩:=h.cDd;have hef:=PU A w K h;have q:=CA;have g:=BQ;have HK:=BE h;unfold cnK at hZ;cases hd:K.dd
 ·rw[hd] at c97 hZ;rw[AI (by simp)] at hZ;have hcd:=YM K.F 12 0 K false;generalize efK K.F 12 0 K false=X at *
  clear h hd;by_cases h7:X.2.2≠0
  ·rw[AJ h7] at hZ;have HZ:Hid ((X.1,X.2.2)=Z):=AR hZ;replace q:∀w,(binOp .neq 46 (errV X.2.2) .nilIface).run prog w=.ok (.bool true) w:=fun w=>by rw[q,AN h7];rfl
   clear hZ h7 hcd;go_enter func35,ntmps35;go_wp2_with (go_at_call 77;refine hef.mono ?_;rintro e w1 ⟨rfl,k1,g1⟩;have HK1:=BE k1;have HG1:=BE g1;clear k1 g1);go_ret;rw[<-HZ.out];exact⟨rfl,HK1.out,HG1.out⟩
  ·rw[AI h7] at hZ;have h0:X.2.2=0:=(by simpa using h7);have HZ:=BE hZ;replace q0:∀w,(binOp .neq 46 (errV X.2.2) .nilIface).run prog w=.ok (.bool false) w:=fun w=>by rw[q,AO h0];rfl
   clear hZ h7 hcd h0;go_enter func35,ntmps35;go_wp2_with fail;refine hef.mono ?_;rintro e w1 ⟨rfl,k1,g1⟩;obtain⟨c2,-⟩:=k1.cMap;have hat:=AB.b9 w1 A.ma X.1.L k1.map (24:Nat);have HK1:=BE k1;have HG1:=BE g1;clear hef k1 g1 c97;have key:∀(y:BH × Nat),anR n noH X.1 24=some y->Z=(y.1,MF y.2)->Calls prog 38 #[.pointer (some ⟨A.c,0,none⟩)] w1 fun e w'=>e=.returned (errV y.2)/\CoreAt A w' y.1/\Chg (Cor A) w1 w':=fun y hy _=>LE A n (FF A n) w1 X.1 HK1.out y hy;by_cases hl:X.1.L 24 = -1
   ·have e24:AB.atC X.1.L (24:Nat)=11:=(by unfold AB.atC;rw[AI om];simp[hl]);rw[e24] at hat;have HZ2:=HZ.out;rw[AI (fun e=>e.1 hl)] at HZ2;obtain⟨y,hy,hyz⟩:∃y,anR n noH X.1 24=some y/\Z=(y.1,MF y.2):=by
     cases ea:anR n noH X.1 24 with
     | none=>rw[ea] at HZ2;cases HZ2
     | some y=>rw[ea] at HZ2;exact⟨y,rfl,(AR HZ2).symm⟩
    have hnt:=key y hy hyz;have HYZ:=BE hyz;have q1:∀w,(binOp .eql 46 (errV 11) .nilIface).run prog w=.ok (.bool false) w:=fun w=>Ii 11 w;have g1:=Dg;clear key HZ HZ2 hl hy hyz e24 q;generalize AB.atV X.1.L (24:Nat)=av at *
    go_wp2_with (go_at_call 50;refine hat.mono ?_;rintro e w1 ⟨rfl,rfl⟩);refine hnt.mono ?_;rintro e w2 ⟨rfl,k2,g2⟩;have HK2:=BE k2;have HG2:=BE (HG1.out.trans g2);have hun:=Fp y.2 w2;clear hnt k2 g2 hat;go_wp2_with (go_at_call 78;refine hun.mono ?_;rintro e w2 ⟨rfl,rfl⟩);go_ret;rw[HYZ.out];exact⟨rfl,HK2.out,HG2.out⟩
   ·have e24:AB.atC X.1.L (24:Nat)=0:=(by unfold AB.atC;rw[AI om];simp[hl]);rw[e24] at hat;have q1:∀w,(binOp .eql 46 (errV 0) .nilIface).run prog w=.ok (.bool true) w:=fun w=>Ii 0 w;have g1:=Dg;generalize AB.atV X.1.L (24:Nat)=av at *
    cases hb:X.2.1
    ·have HZ2:=HZ.out;rw[AJ ⟨hl,hb⟩] at HZ2;have HZ3:Hid ((X.1,0)=Z):=AR HZ2;clear key HZ HZ2 hl e24 q;clear hb;go_wp2_with (go_at_call 50;refine hat.mono ?_;rintro e w1 ⟨rfl,rfl⟩);go_ret;rw[<-HZ3.out];exact⟨rfl,HK1.out,HG1.out⟩
    ·have HZ2:=HZ.out;rw[AI (fun e=>by rw[hb] at e;exact absurd e.2 dc)] at HZ2;obtain⟨y,hy,hyz⟩:∃y,anR n noH X.1 24=some y/\Z=(y.1,MF y.2):=by
      cases ea:anR n noH X.1 24 with
      | none=>rw[ea] at HZ2;cases HZ2
      | some y=>rw[ea] at HZ2;exact⟨y,rfl,(AR HZ2).symm⟩
     have hnt:=key y hy hyz;have HYZ:=BE hyz;clear key HZ HZ2 hl hy hyz e24 q;clear hb;go_wp2_with (go_at_call 50;refine hat.mono ?_;rintro e w1 ⟨rfl,rfl⟩);refine hnt.mono ?_;rintro e w2 ⟨rfl,k2,g2⟩;have HK2:=BE k2;have HG2:=BE (HG1.out.trans g2);have hun:=Fp y.2 w2;clear hnt k2 g2 hat;go_wp2_with (go_at_call 78;refine hun.mono ?_;rintro e w2 ⟨rfl,rfl⟩);go_ret;rw[HYZ.out];exact⟨rfl,HK2.out,HG2.out⟩
 ·rw[hd] at c97 hZ;rw[AJ rfl] at hZ;have HZ:Hid ((K,0)=Z):=AR hZ;clear hef hZ h hd;go_enter func35,ntmps35;go_wp2;go_ret;rw[<-HZ.out];exact⟨rfl,HK.out,Chg.refl _ _⟩
section
variable {w2 wr:Wd}{v:Value}{L:List Nat}(w:Wd)
theorem Own.src{w:Wd}{base:Nat}{a:Option Addr}{n c:Nat}{l:List Nat}(h:Own w base 5 (.slice a n c) l)(hn:l.length≠0):(a=none->n=0/\c=0)/\∀ad,a=some ad->∀j,j<l.length->w.cell? (ad.add j)=some (.int .u8 (l.getD j 0:Nat)):=by
 obtain⟨g,it,hv,-,-,-,hc,-⟩:=h.lies hn;simp only[Value.slice.injEq] at hv;obtain⟨rfl,-,-⟩:=hv;refine⟨fun e=>(by cases e),fun ad had j hj=>?_⟩;have e:=AR had;subst e;rw[Addr.add_lit,AW];exact hc j hj
def Bs (w2 wr:Wd) (v:Value) (L:List Nat):Prop:=Own wr w2.heap.size 5 v L/\Chg No w2 wr
theorem Bs.alloc(h:Bs w2 wr v L)(x:Obj):Bs w2 (wr.alloc x) v L:=⟨h.1.keep (fun _ hk _=>Below.heap_alloc _ _ _ hk),h.2.alloc _⟩
theorem Bs.grown{w':Wd}{v':Value}{L':List Nat}(h:Bs w2 wr v L)(h1:Own w' w2.heap.size 5 v' L')(h2:wr.grownBy w' v.ownBlock):Bs w2 w' v' L':=
 ⟨h1,h.2.grown h2 (fun _ hk=>AL (h.1.block hk).1)⟩
theorem Bs.slice(h:Bs w2 wr v L):∃a c,v=.slice a L.length c:=h.1.slice
theorem Ld(x:Nat)(h:x<256):bts x 1=[x]:=by simp[bts,byteAt,Az h]
def cy:Value->Nat
 | .slice _ n _=>n
 | _=>0
theorem RA(p o s c:Nat)(h:DY p o s c true) :Calls prog 131 #[.agg #[.int .i64 p,.int .i64 o,.int .i64 s,.int .i64 c,.bool true]] w fun e w'=>∃a k,e=.returned (.slice a 50 k)/\Own w' w.heap.size 5 (.slice a 50 k) (body p o s c true)/\Chg No w w':=by
 have hp:=h.pl;have ho:=h.ol;have hs:=h.sl;have hc:=h.cl;have no:=EG;have oa:=fun w:World=>CZ w 0 0 rfl dc;have T0:=Tg.new w p o s c true;have G0:Chg No w (w.alloc (.cells #[.int .i64 p,.int .i64 o,.int .i64 s,.int .i64 c,.bool true] 130)):=(Chg.refl _ w).alloc _;go_enter func131,ntmps131;go_wp2_with fail;refine(Hk _ p 2 om dc).mono ?_;rintro e w1 ⟨s1,rfl,O1,G1⟩;have T1:=T0.chg G1 (fun e=>e);have hi:=G0.trans G1;obtain⟨a1,c1,ha⟩:=O1.slice;rw[BG] at ha;subst ha;obtain⟨-,-,k2,-,-⟩:=T1.cells;have La:=BE O1;have f9:=BE T1;have G3:=BE hi;go_wp2_with fail;refine(Hk w1 s 5 om dc).mono ?_;rintro e w2 ⟨s2,rfl,O2,G2⟩;have T2:=f9.out.chg G2 (fun e=>e);have f6:=La.out.chg G2 (fun _ _ _ e=>e);obtain⟨a2,c2,B'⟩:=O2.slice;rw[BG] at B';subst B';obtain⟨-,k1,-,k3,k4⟩:=T2.cells;have f3:=BE T2;have La:=BE f6;have h6:=BE O2;have hg:=BE (G3.out.trans G2);have B0:Bs w2 (w2.alloc (.cells (bcells (List.replicate 0 0)) 5)) (.slice (some ⟨w2.heap.size,0,none⟩) 0 0) []:=⟨Own.new w2 5 [] dc,(Chg.refl _ _).alloc _⟩;have f5:=BE B0;go_wp2_with (at_builtin;refine BK _ rfl _ _ 48 rfl w2.heap.size 5 underlying48 no _ [] rfl f5.out.1 a1 2 c1 (bts p 2) rfl (BG p 2) ?h1 ?h2 ?h3 ?h4 (w2.heap.size+1) ?h5 ?_)
 case h1=>exact(La.out.src (by rw[BG];decide)).1
 case h2=>exact fun ad it j hj=>((La.out.keep (fun k hk _=>Below.heap_alloc _ _ _ hk)).src (by rw[BG];decide)).2 ad it j (by rw[BG];exact hj)
 case h3=>simp
 case h4=>simp
 case h5=>simp
 intro v3 w3 O3 g3 _;have B3:Bs w2 w3 v3 (bts p 2):=f5.out.grown O3 g3;obtain⟨a3,c3,hx⟩:=B3.slice;rw[BG] at hx;subst hx;obtain⟨-,k1,-,k3,k4⟩:=(f3.out.chg B3.2 (fun e=>e)).cells;have ar:=BE B3;go_wp2_with (at_builtin;refine BK _ rfl _ _ 48 rfl w2.heap.size 5 underlying48 no _ (bts p 2) rfl (ar.out.alloc _).1 (some ⟨w3.heap.size,0,none⟩) 1 1 (bts o 1) rfl rfl (by simp) ?i2 ?i3 ?i4 (w3.heap.size+1) ?i5 ?_)
 case i2=>
  intro ad it j hj;have e:=AR it;subst e;have e:j=0:=om
  subst e;rw[Addr.add_lit];simp[Ld o ho]
 case i3=>rw[BG];omega
 case i4=>simp;exact Nat.le_succ_of_le ar.out.2.size
 case i5=>simp
 intro v4 w4 O4 g4 _;have B4:Bs w2 w4 v4 (bts p 2 ++ bts o 1):=(ar.out.alloc _).grown O4 g4;obtain⟨a4,c4,f2⟩:=B4.slice;rw[AV,BG,BG] at f2;subst f2;have Go:=BE B4;go_wp2_with (at_builtin;refine BK _ rfl _ _ 48 rfl w2.heap.size 5 underlying48 no _ (bts p 2 ++ bts o 1) rfl Go.out.1 a2 5 c2 (bts s 5) rfl (BG s 5) ?j1 ?j2 ?j3 ?j4 w4.heap.size rfl ?_)
 case j1=>exact(h6.out.src (by rw[BG];decide)).1
 case j2=>exact fun ad it j hj=>((h6.out.chg Go.out.2 (fun _ _ _ e=>e)).src (by rw[BG];decide)).2 ad it j (by rw[BG];exact hj)
 case j3=>rw[AV,BG,BG];omega
 case j4=>exact Go.out.2.size
 intro v5 w5 O5 g5 _;have B5:Bs w2 w5 v5 (bts p 2 ++ bts o 1 ++ bts s 5):=Go.out.grown O5 g5;obtain⟨a5,c5,f1⟩:=B5.slice;simp only[AV,BG] at f1;subst f1;obtain⟨-,-,-,k3,-⟩:=(f3.out.chg B5.2 (fun e=>e)).cells;have kd:=BE B5;go_wp2_with (at_builtin;refine BK _ rfl _ _ 48 rfl w2.heap.size 5 underlying48 no _ (bts p 2 ++ bts o 1 ++ bts s 5) rfl (kd.out.alloc _).1 (some ⟨w5.heap.size,0,none⟩) 2 2 (bts c 1 ++ bts 1 1) rfl rfl (by simp) ?l2 ?l3 ?l4 (w5.heap.size+1) ?l5 ?_)
 case l2=>
  intro ad it j hj;have e:=AR it;subst e;rw[Addr.add_lit];rcases(by omega:j=0\/j=1) with rfl | rfl
  ·simp[Ld c hc,Ld 1 dc]
  ·simp[Ld c hc,Ld 1 dc]
 case l3=>simp[BG]
 case l4=>simp;exact Nat.le_succ_of_le kd.out.2.size
 case l5=>simp
 intro v6 w6 O6 g6 _;have B6:Bs w2 w6 v6 (pre p o s c true 5):=by
  have:=(kd.out.alloc _).grown O6 g6;rw[<-Aq] at this;exact this
 have f4:(pre p o s c true 5).length=10:=by simp[pre,BG]
 obtain⟨a6,c6,h0⟩:=B6.slice;rw[f4] at h0;subst h0;have f8:Hid (Bs w2 w6 (.slice a6 10 c6) (pre p o s c true 5 ++ List.replicate 0 0)):=BE (by simpa using B6);have hv:=BE f4;go_wp2_with fail
 go_loopw [8] (fun v wr=>∃(k:Nat) (a:Option Addr) (cc:Nat),k<=40/\v=.slice a (10+k) cc/\Hid (Bs w2 wr (.slice a (10+k) cc) (pre p o s c true 5 ++ List.replicate k 0))) (fun v _=>50 - cy v)
 case atStart=>exact⟨0,a6,c6,dc,rfl,f8⟩
 case round=>
  obtain⟨k,a,cc,hk,rfl,HB⟩:=hrel;by_cases qa:k<40
  ·have t7:(10+(k:Int))<50:=om;go_wp2_with (at_builtin;refine BK _ rfl _ _ 48 rfl w2.heap.size 5 underlying48 no _ (pre p o s c true 5 ++ List.replicate k 0) rfl (HB.out.alloc _).1 (some ⟨wr.heap.size,0,none⟩) 1 1 [0] rfl rfl (by simp) ?m2 ?m3 ?m4 (wr.heap.size+1) ?m5 ?_)
   case m2=>
    intro ad it j hj;have e:=AR it;subst e;have e:j=0:=om;subst e;rw[Addr.add_lit];simp
   case m3=>rw[AV,hv.out,length_replicate];omega
   case m4=>simp;exact Nat.le_succ_of_le HB.out.2.size
   case m5=>simp
   intro v7 w7 O7 g7 _;have B7:Bs w2 w7 v7 (pre p o s c true 5 ++ List.replicate (k+1) 0):=by
    have:=(HB.out.alloc _).grown O7 g7;rw[replicate_succ',<-Aq];exact this
   obtain⟨a7,c7,p2⟩:=B7.slice;rw[AV,hv.out,length_replicate] at p2;subst p2;have f7:=BE B7;go_wp2;exact⟨⟨k+1,a7,c7,om,rfl,f7⟩,by simp[cy];omega⟩
  ·have e:k=40:=om;subst e;go_wp2;go_ret;have hb:pre p o s c true 5 ++ List.replicate 40 0=body p o s c true:=by
    show _=pre p o s c true 5 ++ List.replicate (50 - _) 0;rw[hv.out]
   refine⟨a,cc,rfl,?_,hg.out.trans HB.out.2⟩;rw[<-hb];exact HB.out.1.mono (fun k hk=>by have:=(HB.out.1.block hk).1;have:=hg.out.size;omega)
theorem PV(p o s c:Nat)(h:DY p o s c false) :Calls prog 131 #[.agg #[.int .i64 p,.int .i64 o,.int .i64 s,.int .i64 c,.bool false]] w fun e w'=>∃a k,e=.returned (.slice a 50 k)/\Own w' w.heap.size 5 (.slice a 50 k) (body p o s c false)/\Chg No w w':=by
 have hp:=h.pl;have ho:=h.ol;have hs:=h.sl;have hc:=h.cl;have no:=EG;have oa:=fun w:World=>CZ w 0 0 rfl dc;have T0:=Tg.new w p o s c false;have G0:Chg No w (w.alloc (.cells #[.int .i64 p,.int .i64 o,.int .i64 s,.int .i64 c,.bool false] 130)):=(Chg.refl _ w).alloc _;go_enter func131,ntmps131;go_wp2_with fail;refine(Hk _ p 2 om dc).mono ?_;rintro e w1 ⟨s1,rfl,O1,G1⟩;have T1:=T0.chg G1 (fun e=>e);have hi:=G0.trans G1;obtain⟨a1,c1,ha⟩:=O1.slice;rw[BG] at ha;subst ha;obtain⟨-,-,k2,-,-⟩:=T1.cells;have La:=BE O1;have f9:=BE T1;have G3:=BE hi;go_wp2_with fail;refine(Hk w1 s 5 om dc).mono ?_;rintro e w2 ⟨s2,rfl,O2,G2⟩;have T2:=f9.out.chg G2 (fun e=>e);have f6:=La.out.chg G2 (fun _ _ _ e=>e);obtain⟨a2,c2,B'⟩:=O2.slice;rw[BG] at B';subst B';obtain⟨-,k1,-,k3,k4⟩:=T2.cells;have f3:=BE T2;have La:=BE f6;have h6:=BE O2;have hg:=BE (G3.out.trans G2);have B0:Bs w2 (w2.alloc (.cells (bcells (List.replicate 0 0)) 5)) (.slice (some ⟨w2.heap.size,0,none⟩) 0 0) []:=⟨Own.new w2 5 [] dc,(Chg.refl _ _).alloc _⟩;have f5:=BE B0;go_wp2_with (at_builtin;refine BK _ rfl _ _ 48 rfl w2.heap.size 5 underlying48 no _ [] rfl f5.out.1 a1 2 c1 (bts p 2) rfl (BG p 2) ?h1 ?h2 ?h3 ?h4 (w2.heap.size+1) ?h5 ?_)
 case h1=>exact(La.out.src (by rw[BG];decide)).1
 case h2=>exact fun ad it j hj=>((La.out.keep (fun k hk _=>Below.heap_alloc _ _ _ hk)).src (by rw[BG];decide)).2 ad it j (by rw[BG];exact hj)
 case h3=>simp
 case h4=>simp
 case h5=>simp
 intro v3 w3 O3 g3 _;have B3:Bs w2 w3 v3 (bts p 2):=f5.out.grown O3 g3;obtain⟨a3,c3,hx⟩:=B3.slice;rw[BG] at hx;subst hx;obtain⟨-,k1,-,k3,k4⟩:=(f3.out.chg B3.2 (fun e=>e)).cells;have ar:=BE B3;go_wp2_with (at_builtin;refine BK _ rfl _ _ 48 rfl w2.heap.size 5 underlying48 no _ (bts p 2) rfl (ar.out.alloc _).1 (some ⟨w3.heap.size,0,none⟩) 1 1 (bts o 1) rfl rfl (by simp) ?i2 ?i3 ?i4 (w3.heap.size+1) ?i5 ?_)
 case i2=>
  intro ad it j hj;have e:=AR it;subst e;have e:j=0:=om
  subst e;rw[Addr.add_lit];simp[Ld o ho]
 case i3=>rw[BG];omega
 case i4=>simp;exact Nat.le_succ_of_le ar.out.2.size
 case i5=>simp
 intro v4 w4 O4 g4 _;have B4:Bs w2 w4 v4 (bts p 2 ++ bts o 1):=(ar.out.alloc _).grown O4 g4;obtain⟨a4,c4,f2⟩:=B4.slice;rw[AV,BG,BG] at f2;subst f2;have Go:=BE B4;go_wp2_with (at_builtin;refine BK _ rfl _ _ 48 rfl w2.heap.size 5 underlying48 no _ (bts p 2 ++ bts o 1) rfl Go.out.1 a2 5 c2 (bts s 5) rfl (BG s 5) ?j1 ?j2 ?j3 ?j4 w4.heap.size rfl ?_)
 case j1=>exact(h6.out.src (by rw[BG];decide)).1
 case j2=>exact fun ad it j hj=>((h6.out.chg Go.out.2 (fun _ _ _ e=>e)).src (by rw[BG];decide)).2 ad it j (by rw[BG];exact hj)
 case j3=>rw[AV,BG,BG];omega
 case j4=>exact Go.out.2.size
 intro v5 w5 O5 g5 _;have B5:Bs w2 w5 v5 (bts p 2 ++ bts o 1 ++ bts s 5):=Go.out.grown O5 g5;obtain⟨a5,c5,f1⟩:=B5.slice;simp only[AV,BG] at f1;subst f1;obtain⟨-,-,-,k3,-⟩:=(f3.out.chg B5.2 (fun e=>e)).cells;have kd:=BE B5;go_wp2_with (at_builtin;refine BK _ rfl _ _ 48 rfl w2.heap.size 5 underlying48 no _ (bts p 2 ++ bts o 1 ++ bts s 5) rfl (kd.out.alloc _).1 (some ⟨w5.heap.size,0,none⟩) 2 2 (bts c 1 ++ bts 0 1) rfl rfl (by simp) ?l2 ?l3 ?l4 (w5.heap.size+1) ?l5 ?_)
 case l2=>
  intro ad it j hj;have e:=AR it;subst e;rw[Addr.add_lit];rcases(by omega:j=0\/j=1) with rfl | rfl
  ·simp[Ld c hc,Ld 0 dc]
  ·simp[Ld c hc,Ld 0 dc]
 case l3=>simp[BG]
 case l4=>simp;exact Nat.le_succ_of_le kd.out.2.size
 case l5=>simp
 intro v6 w6 O6 g6 _;have B6:Bs w2 w6 v6 (pre p o s c false 5):=by
  have:=(kd.out.alloc _).grown O6 g6;rw[<-Aq] at this;exact this
 have f4:(pre p o s c false 5).length=10:=by simp[pre,BG]
 obtain⟨a6,c6,h0⟩:=B6.slice;rw[f4] at h0;subst h0;have f8:Hid (Bs w2 w6 (.slice a6 10 c6) (pre p o s c false 5 ++ List.replicate 0 0)):=BE (by simpa using B6);have hv:=BE f4;go_wp2_with fail
 go_loopw [8] (fun v wr=>∃(k:Nat) (a:Option Addr) (cc:Nat),k<=40/\v=.slice a (10+k) cc/\Hid (Bs w2 wr (.slice a (10+k) cc) (pre p o s c false 5 ++ List.replicate k 0))) (fun v _=>50 - cy v)
 case atStart=>exact⟨0,a6,c6,dc,rfl,f8⟩
 case round=>
  obtain⟨k,a,cc,hk,rfl,HB⟩:=hrel;by_cases qa:k<40
  ·have t7:(10+(k:Int))<50:=om;go_wp2_with (at_builtin;refine BK _ rfl _ _ 48 rfl w2.heap.size 5 underlying48 no _ (pre p o s c false 5 ++ List.replicate k 0) rfl (HB.out.alloc _).1 (some ⟨wr.heap.size,0,none⟩) 1 1 [0] rfl rfl (by simp) ?m2 ?m3 ?m4 (wr.heap.size+1) ?m5 ?_)
   case m2=>
    intro ad it j hj;have e:=AR it;subst e;have e:j=0:=om;subst e;rw[Addr.add_lit];simp
   case m3=>rw[AV,hv.out,length_replicate];omega
   case m4=>simp;exact Nat.le_succ_of_le HB.out.2.size
   case m5=>simp
   intro v7 w7 O7 g7 _;have B7:Bs w2 w7 v7 (pre p o s c false 5 ++ List.replicate (k+1) 0):=by
    have:=(HB.out.alloc _).grown O7 g7;rw[replicate_succ',<-Aq];exact this
   obtain⟨a7,c7,p2⟩:=B7.slice;rw[AV,hv.out,length_replicate] at p2;subst p2;have f7:=BE B7;go_wp2;exact⟨⟨k+1,a7,c7,om,rfl,f7⟩,by simp[cy];omega⟩
  ·have e:k=40:=om;subst e;go_wp2;go_ret;have hb:pre p o s c false 5 ++ List.replicate 40 0=body p o s c false:=by
    show _=pre p o s c false 5 ++ List.replicate (50 - _) 0;rw[hv.out]
   refine⟨a,cc,rfl,?_,hg.out.trans HB.out.2⟩;rw[<-hb];exact HB.out.1.mono (fun k hk=>by have:=(HB.out.1.block hk).1;have:=hg.out.size;omega)
theorem RB(p o s c:Nat)(l:Bool)(h:DY p o s c l) :Calls prog 131 #[.agg #[.int .i64 p,.int .i64 o,.int .i64 s,.int .i64 c,.bool l]] w fun e w'=>∃a k,e=.returned (.slice a 50 k)/\Own w' w.heap.size 5 (.slice a 50 k) (body p o s c l)/\Chg No w w':=by
 cases l with
 | true=>exact RA w p o s c h
 | false=>exact PV w p o s c h
end
section
variable {l:List Nat}
theorem Sc(w:Wd)(a:Option Addr)(n cap:Nat)(l:List Nat)(hn:n=l.length)(hl:Bys l)(h8:l.length<=8)(hr:Ca w (.slice a n cap) l) :Calls prog 128 #[.slice a n cap] w fun e w'=>e=.returned (.int .u64 (le l:Nat))/\w'=w:=by
 subst hn;have HR:=BE hr;go_enter func128,ntmps128;go_wp2_with fail
 go_loopw [3,4] (fun v t wr=>∃k:Nat,k<=l.length/\t=.int .i64 ((k:Int) - 1)/\v=.int .u64 (le (l.drop k):Nat)/\wr=w) (fun _ t _=>(intOf t+1).toNat)
 case atStart=>exact⟨l.length,AM _,rfl,by simp[le],rfl⟩
 case round=>
  obtain⟨k,hk,rfl,rfl,rfl⟩:=hrel;by_cases h0:k=0
  ·subst h0;go_wp2;go_ret;exact⟨rfl,rfl⟩
  ·obtain⟨j,rfl⟩:∃j,k=j+1:=⟨k - 1,om⟩;obtain⟨g,o,rfl,hx⟩:=HR.out.cellC (Chg.refl _ _) j om;obtain⟨e1,e2⟩:=OA l hl h8 j om;have hj:(((j+1:Nat):Int) - 1)=(j:Int):=om;rw[hj];have no:(j:Int)<(l.length:Int):=om;have Go:(0:Int)<=(j:Int):=om;have it:¬ (j:Int)<0:=om;have HV:Hid ((256:Int)*((le (l.drop (j+1)):Nat):Int)+((l.getD j 0:Nat):Int)=((le (l.drop j):Nat):Int)):=BE (by rw[<-e1];push_cast;rfl);have hb:=hl.getD j;have La:(256:Int)*((le (l.drop (j+1)):Nat):Int)+((l.getD j 0:Nat):Int)<18446744073709551616:=om;generalize le (l.drop (j+1))=x at *
   generalize l.getD j 0=y at *
   go_wp2;exact⟨⟨j,om,by go_num,by rw[<-HV.out],trivial⟩,by simp[intOf]⟩
theorem Om{a:Nat}(h:a<l.length):fld l a 1=l.getD a 0:=by
 have e:FJ l a 1=[l.getD a 0]:=by
  apply ext_getElem (by rw[BJ om];rfl);intro i h1 h2;have hi:i=0:=by simpa using h2
  subst hi;simp[FJ,AQ,h]
 simp[fld,e,le]
theorem cz{n:Nat}(h:l.length=n):FJ l 0 n=l:=by
 simp[FJ,As (show l.length<=n by omega)]
def YN (l:List Nat) (e:Ending):Prop:=
 (VD l/\e=.returned (.tuple #[.agg #[.int .i64 (fld l 0 2:Nat),.int .i64 (fld l 2 1:Nat),.int .i64 (fld l 3 5:Nat),.int .i64 (fld l 8 1:Nat),.bool (FW l)],.bool true])) \/
 (¬ VD l/\e=.returned (.tuple #[.agg #[.int .i64 0,.int .i64 0,.int .i64 0,.int .i64 0,.bool false],.bool false]))
theorem iz(l:List Nat):(((fld l 9 1:Nat):Int) == 1)=FW l:=rfl
theorem YO(w:Wd)(c o cap:Nat)(l:List Nat)(hl:Bys l)(hL:l.length=50)(hcap:50<=cap)(hA:At w c o l) :Calls prog 72 #[.slice (some ⟨c,o,none⟩) 50 cap] w fun e w'=>YN l e/\Chg No w w':=by
 have HA:=BE hA;have HL:=BE hL;have p2:¬ cap=3:=om
 have h0:=hA.1;have x2:w.cell? ⟨c,o+2,none⟩=some (.int .u8 (fld l 2 1:Nat)):=by rw[Om om];exact hA.2 2 om
 have x8:w.cell? ⟨c,o+8,none⟩=some (.int .u8 (fld l 8 1:Nat)):=by rw[Om om];exact hA.2 8 om
 have x9:w.cell? ⟨c,o+9,none⟩=some (.int .u8 (fld l 9 1:Nat)):=by rw[Om om];exact hA.2 9 om
 have y0:=DV hl (a:=0) (n:=2) om;have y1:=DV hl (a:=2) (n:=1) om;have y2:=DV hl (a:=3) (n:=5) om;have y3:=DV hl (a:=8) (n:=1) om;have y4:=DV hl (a:=9) (n:=1) om;simp only[Nat.reducePow] at y0 y1 y2 y3 y4;have R1:Hid (∀wx,At wx c o l->Calls prog 128 #[.slice (some ⟨c,o,none⟩) 2 cap] wx fun e w'=>e=.returned (.int .u64 (fld l 0 2:Nat))/\w'=wx):=BE (fun wx hx=>Sc wx _ 2 cap (FJ l 0 2) (by rw[BJ om]) (Cs hl 0 2) (by rw[BJ om];decide) (hx.held 0 2 cap om));have R2:Hid (∀wx,At wx c o l->Calls prog 128 #[.slice (some ⟨c,o+3,none⟩) 5 (cap - 3)] wx fun e w'=>e=.returned (.int .u64 (fld l 3 5:Nat))/\w'=wx):=BE (fun wx hx=>Sc wx _ 5 (cap - 3) (FJ l 3 5) (by rw[BJ om]) (Cs hl 3 5) (by rw[BJ om];decide) (hx.held 3 5 (cap - 3) om));have A0:=hA.chg ((Chg.refl No w).alloc (.cells #[.int .i64 0,.int .i64 0,.int .i64 0,.int .i64 0,.bool false] 130)) (fun e=>e);have A1:=fun X:Obj=>A0.chg ((Chg.refl No _).alloc X) (fun e=>e);have z2:(w.alloc (.cells #[.int .i64 0,.int .i64 0,.int .i64 0,.int .i64 0,.bool false] 130)).cell? ⟨c,o+2,none⟩=some (.int .u8 (fld l 2 1:Nat)):=(Au _ _ _ h0).trans x2;have z8:(w.alloc (.cells #[.int .i64 0,.int .i64 0,.int .i64 0,.int .i64 0,.bool false] 130)).cell? ⟨c,o+8,none⟩=some (.int .u8 (fld l 8 1:Nat)):=(Au _ _ _ h0).trans x8;have z9:(w.alloc (.cells #[.int .i64 0,.int .i64 0,.int .i64 0,.int .i64 0,.bool false] 130)).cell? ⟨c,o+9,none⟩=some (.int .u8 (fld l 9 1:Nat)):=(Au _ _ _ h0).trans x9;have u2:=fun X:Obj=>(Au (w:=w.alloc (.cells #[.int .i64 0,.int .i64 0,.int .i64 0,.int .i64 0,.bool false] 130)) X c (o+2) (by simp;omega)).trans z2;have u8:=fun X:Obj=>(Au (w:=w.alloc (.cells #[.int .i64 0,.int .i64 0,.int .i64 0,.int .i64 0,.bool false] 130)) X c (o+8) (by simp;omega)).trans z8;have u9:=fun X:Obj=>(Au (w:=w.alloc (.cells #[.int .i64 0,.int .i64 0,.int .i64 0,.int .i64 0,.bool false] 130)) X c (o+9) (by simp;omega)).trans z9;have ha:=BE A0;have kd:=BE A1;have it:True:=trivial;have r0:=CT (fld l 0 2) om;have r1:=CT (fld l 2 1) om;have r2:=CT (fld l 3 5) om;have r3:=CT (fld l 8 1) om;have hb:=GF;have i0:(0:Int)<=(cap:Int):=om
 have i2:(2:Int)<=(cap:Int):=om
 have i3:(3:Int)<=(cap:Int):=om
 have i8:(8:Int)<=(cap:Int):=om
 clear A0 A1 hA hL x2 x8 x9;go_enter func72,ntmps72;go_wp2_with fail
 go_region_held3 (fun wx=>wx.cell? ⟨c,o+2,none⟩=some (.int .u8 (fld l 2 1:Nat))/\wx.cell? ⟨c,o+8,none⟩=some (.int .u8 (fld l 8 1:Nat))/\wx.cell? ⟨c,o+9,none⟩=some (.int .u8 (fld l 9 1:Nat))/\At wx c o l) (first | exact⟨z2,z8,z9,ha⟩ | exact⟨u2 _,u8 _,u9 _,kd.out _⟩)
  (first | (go_at_call 128;clear it;refine(R1.out _ (by first | exact ha | exact kd _)).mono ?_;rintro e w' ⟨rfl,rfl⟩) | (go_at_call 128;refine(R2.out _ (by first | exact ha | exact kd _)).mono ?_;rintro e w' ⟨rfl,rfl⟩))
 all_goals
  try rw[r0,r1,r2,r3]
  rw[iz];clear r0 r1 r2 r3 u2 u8 u9 z2 z8 z9 R1 R2 kd ha;have T0:=(Tg.new w 0 0 0 0 false).alloc (.cells #[.int .i64 (fld l 0 2:Nat),.int .i64 (fld l 2 1:Nat),.int .i64 (fld l 3 5:Nat),.int .i64 (fld l 8 1:Nat),.bool (FW l)] 130);have V0:=Tg.new (w.alloc (.cells #[.int .i64 0,.int .i64 0,.int .i64 0,.int .i64 0,.bool false] 130)) (fld l 0 2:Nat) (fld l 2 1:Nat) (fld l 3 5:Nat) (fld l 8 1:Nat) (FW l);have G0:Chg No w ((w.alloc (.cells #[.int .i64 0,.int .i64 0,.int .i64 0,.int .i64 0,.bool false] 130)).alloc (.cells #[.int .i64 (fld l 0 2:Nat),.int .i64 (fld l 2 1:Nat),.int .i64 (fld l 3 5:Nat),.int .i64 (fld l 8 1:Nat),.bool (FW l)] 130)):=((Chg.refl _ w).alloc _).alloc _;rw[show (w.alloc (.cells #[.int .i64 0,.int .i64 0,.int .i64 0,.int .i64 0,.bool false] 130)).heap.size=w.heap.size+1 from by simp] at V0;have G1:=G0.drew;have T1:Tg ((w.alloc (.cells #[.int .i64 0,.int .i64 0,.int .i64 0,.int .i64 0,.bool false] 130)).alloc (.cells #[.int .i64 (fld l 0 2:Nat),.int .i64 (fld l 2 1:Nat),.int .i64 (fld l 3 5:Nat),.int .i64 (fld l 8 1:Nat),.bool (FW l)] 130)).drew w.heap.size 0 0 0 0 false:=T0;have V1:Tg ((w.alloc (.cells #[.int .i64 0,.int .i64 0,.int .i64 0,.int .i64 0,.bool false] 130)).alloc (.cells #[.int .i64 (fld l 0 2:Nat),.int .i64 (fld l 2 1:Nat),.int .i64 (fld l 3 5:Nat),.int .i64 (fld l 8 1:Nat),.bool (FW l)] 130)).drew (w.heap.size+1) (fld l 0 2:Nat) (fld l 2 1:Nat) (fld l 3 5:Nat) (fld l 8 1:Nat) (FW l):=V0;generalize ((w.alloc (.cells #[.int .i64 0,.int .i64 0,.int .i64 0,.int .i64 0,.bool false] 130)).alloc (.cells #[.int .i64 (fld l 0 2:Nat),.int .i64 (fld l 2 1:Nat),.int .i64 (fld l 3 5:Nat),.int .i64 (fld l 8 1:Nat),.bool (FW l)] 130)).drew=w0 at *
  clear T0 V0 G0;obtain⟨v0,v1,v2,v3,v4⟩:=V1.cells;have HT:=BE T1;have HV:=BE V1;have HG:=BE G1;clear T1 V1 G1;go_wp2_with fail;by_cases hm:QO l
  ·refine(WK w0 _ _ _ _ _ hm).mono ?_;rintro e w1 ⟨rfl,G1⟩;have V1:=HV.out.chg G1 (fun e=>e);obtain⟨v0,v1,v2,v3,v4⟩:=V1.cells;have hk:=BE (HT.out.chg G1 (fun e=>e));have h6:=BE (HG.out.trans G1);have B':=BE V1;clear G1 V1 HT HG HV;go_wp2_with fail;refine(RB w1 _ _ _ _ _ hm).mono ?_;rintro e w2 ⟨a,k,rfl,O2,G2⟩;have hg:=h6.out.trans G2;have hc:=BE (hk.out.chg G2 (fun e=>e));have h1:=BE (B'.out.chg G2 (fun e=>e));have hv:=BE hg;have hq:=gE w2 a (some ⟨c,o,none⟩) 50 50 k cap (Hm l) l (BS _ _ _ _ _).symm HL.out.symm O2.held (by have:=(HA.out.chg hg (fun e=>e)).held 0 50 cap (by rw[HL.out];decide);rw[cz HL.out] at this;exact this) (by rw[show (Hm l).length=50 from BS _ _ _ _ _];decide) (by rw[HL.out];decide);clear G2 O2 hg hk h6 B' v0 v1 v2 v3 v4;go_wp2_with fail;by_cases no:Hm l=l
   ·rw[AO no] at hq;refine hq.mono ?_;rintro e w3 ⟨rfl,G3⟩;obtain⟨v0,v1,v2,v3,v4⟩:=(h1.out.chg G3 (fun e=>e)).cells;have h2:=BE (hc.out.chg G3 (fun e=>e));have wr:=BE (hv.out.trans G3);have HI:Hid (VD l):=BE ⟨hm,no⟩;clear G3 hq hc hv h1 hm no;go_wp2_with (refine BO rfl (.tmp 2) (.tmp 40) rfl w.heap.size rfl rfl h2 ?_);intro w5 T5 G5;have La:=BE T5;have ar:Hid (Chg No w w5):=BE (wr.out.trans' G5 (fun i hi ht=>om));clear T5 G5;go_wp2;refine AZ (Bf rfl _ rfl La) rfl ?_;exact⟨AK ⟨HI.out,rfl⟩,ar⟩
   ·rw[AN no] at hq;refine hq.mono ?_;rintro e w3 ⟨rfl,G3⟩;have h2:=BE (hc.out.chg G3 (fun e=>e));have wr:=BE (hv.out.trans G3);have HI:Hid (¬ VD l):=BE (fun h=>no h.2);clear G3 hq hc hv h1 hm no;go_wp2_with (refine BO rfl (.tmp 2) (.tmp 39) rfl w.heap.size rfl rfl h2 ?_);intro w5 T5 G5;have La:=BE T5;have ar:Hid (Chg No w w5):=BE (wr.out.trans' G5 (fun i hi ht=>om));clear T5 G5;go_wp2;refine AZ (Bf rfl _ rfl La) rfl ?_;exact⟨AL ⟨HI.out,rfl⟩,ar⟩
  ·refine(ac w0 _ _ _ _ _ hm).mono ?_;rintro e w1 ⟨rfl,G1⟩;have hk:=BE (HT.out.chg G1 (fun e=>e));have h6:=BE (HG.out.trans G1);have HI:Hid (¬ VD l):=BE (fun h=>hm h.1);clear G1 HT HG HV hm v0 v1 v2 v3 v4;go_wp2_with (refine BO rfl (.tmp 2) (.tmp 32) rfl w.heap.size rfl rfl hk ?_);intro w5 T5 G5;have La:=BE T5;have ar:Hid (Chg No w w5):=BE (h6.out.trans' G5 (fun i hi ht=>om));clear T5 G5;go_wp2;refine AZ (Bf rfl _ rfl La) rfl ?_;exact⟨AL ⟨HI.out,rfl⟩,ar⟩
end
section
variable (w:Wd)
theorem Us(a:Addr)(n cap:Nat)(w:Wd):(binOp .eql 48 (.slice (some a) n cap) (.slice none 0 0)).run prog w=.ok (.bool false) w:=kr
theorem Ut(g o n cap:Nat)(D:List Nat)(hn:D.length=n)(hn0:n<=1000)(hA:∀j,j<n->w.cell? ⟨g,o+j,none⟩=some (.int .u8 (D.getD j 0:Nat)))(hg:g<w.heap.size) :Calls prog 55 #[.slice (some ⟨g,o,none⟩) n cap] w fun e w'=>∃v,e=.returned v/\Own w' w.heap.size 5 v D/\Chg No w w':=by
 have La:=EG;have hv:=Us ⟨g,o,none⟩ n cap;have B0:Bs w (w.alloc (.cells (bcells (List.replicate 0 0)) 5)) (.slice (some ⟨w.heap.size,0,none⟩) 0 0) []:=⟨Own.new w 5 [] dc,(Chg.refl _ _).alloc _⟩;have no:=BE B0;have HA:=BE hA;have HN:=BE hn;have ar:=BE hn0;have HG:=BE hg;go_enter func55,ntmps55;go_wp2_with (at_builtin;refine BK _ rfl _ _ 48 rfl w.heap.size 5 underlying48 La _ [] rfl no.out.1 (some ⟨g,o,none⟩) n cap D rfl HN ?h1 ?h2 ?h3 ?h4 (w.heap.size+1) ?h5 ?_)
 case h1=>exact fun e=>by cases e
 case h2=>
  intro ad it j hj;injection it with it;subst it;have:=HA.out j hj;rw[<-this];rw[Addr.add_mid];exact Au _ _ _ HG
 case h3=>have:=ar.out;simp;omega
 case h4=>simp
 case h5=>simp
 intro v3 w3 O3 g3 _;have B3:Bs w w3 v3 D:=no.out.grown O3 g3;have Go:=BE B3;go_wp2;go_ret;exact⟨v3,rfl,Go.out.1,Go.out.2⟩
def geK (K:BH) (o:Nat):BH × List Nat × Nat:=
 if K.L o = -1 then (K,List.replicate 160 0,0) else
 let x:=inK K (K.L o).toNat
 if x.2.2≠0 then (x.1,[],x.2.2) else
 if x.2.1.sound=false\/x.2.1.l=true then (x.1,[],13) else (x.1,x.2.1.data.take 160,0)
theorem Uu{K:BH}(hK:Wf K){p:Nat}(h:(inK K p).2.1.sound=true):(inK K p).2.1.data.length=174/\Bys (inK K p).2.1.data:=by
 have it:=fun e=>MA hK (p:=p) e;unfold inK at h ⊢;generalize rdK K p=x at *
 dsimp only at h ⊢;split at h
 ·cases h
 ·rename_i c;rw[AI c];split at h
  ·rename_i c2;rw[AJ c2];exact it h
  ·rename_i c2;rw[AI c2];split at h
   ·rename_i c3;rw[AJ c3];exact it h
   ·rename_i c3;rw[AI c3];exact it h
theorem dA:(Instr.makeSlice 48 (.int .i64 160) (.int .i64 160)).run prog w=.ok (.slice (some ⟨w.heap.size,0,none⟩) 160 160) (w.alloc (.cells (bcells (List.replicate 160 0)) 5)):=kr
theorem fN(A:Ad)(w:Wd)(K:BH)(h:CoreAt A w K)(o:Nat)(ho:o<24) :Calls prog 20 #[.pointer (some ⟨A.c,0,none⟩),.int .i64 (o:Nat)] w fun e w'=>∃v,e=.returned (.tuple #[v,errV (geK K o).2.2])/\Own w' w.heap.size 5 v (geK K o).2.1/\CoreAt A w' (geK K o).1/\Chg (Cor A) w w':=by
 have hs:=Gw w (o:Nat) om;obtain⟨c2,-⟩:=h.cMap;have hat:=AB.b9 w A.ma K.L h.map (o:Nat);have q:=CA;have g:=BQ;by_cases hl:K.L o = -1
 ·have e1:AB.atC K.L (o:Nat)=11:=by unfold AB.atC;rw[AI om];simp[hl]
  rw[e1] at hat;have HE:Hid (geK K o=(K,List.replicate 160 0,0)):=by show geK K o=_;unfold geK;rw[AJ hl]
  replace q:∀w,(binOp .neq 46 (errV 11) .nilIface).run prog w=.ok (.bool true) w:=fun w=>q 11 w;have hm:=dA;have HO:=BE (Own.new w 5 (List.replicate 160 0) dc);have HG:Hid (Chg No w (w.alloc (.cells (bcells (List.replicate 160 0)) 5))):=(Chg.refl _ w).alloc _;have HK:=BE h;generalize AB.atV K.L (o:Nat)=av at *
  go_enter func20,ntmps20;go_wp2_with (first | (go_at_call 51;refine hs.mono ?_;rintro e w ⟨rfl,rfl⟩) | (go_at_call 50;refine hat.mono ?_;rintro e w ⟨rfl,rfl⟩));go_ret2;rw[HE.out];exact⟨_,rfl,HO.out,HK.out.chg0 HG.out,HG.out.cor0⟩
 ·have e1:AB.atC K.L (o:Nat)=0:=by unfold AB.atC;rw[AI om];simp[hl]
  obtain⟨hp,hv,-⟩:=Xx h.wf (by omega:o<25) e1;rw[hv,e1] at hat;have hin:=ME A w K h (K.L o).toNat hp;have HE:Hid (geK K o=if (inK K (K.L o).toNat).2.2≠0 then ((inK K (K.L o).toNat).1,[],(inK K (K.L o).toNat).2.2) else if (inK K (K.L o).toNat).2.1.sound=false\/(inK K (K.L o).toNat).2.1.l=true then ((inK K (K.L o).toNat).1,[],13) else ((inK K (K.L o).toNat).1,(inK K (K.L o).toNat).2.1.data.take 160,0)):=by
   show geK K o=_;unfold geK;rw[AI hl]
  have HSD:=BE (fun e=>Uu h.wf (p:=(K.L o).toNat) e);have HLOW:=BE h.low;have q0:∀w,(binOp .neq 46 (errV 0) .nilIface).run prog w=.ok (.bool false) w:=fun w=>q 0 w;generalize inK K (K.L o).toNat=Z at *
  generalize (K.L o).toNat=pp at *
  go_enter func20,ntmps20;go_wp2_with (first | (go_at_call 51;refine hs.mono ?_;rintro e w ⟨rfl,rfl⟩) | (go_at_call 50;refine hat.mono ?_;rintro e w ⟨rfl,rfl⟩));refine hin.mono ?_;rintro e w1 ⟨v,rfl,hO,k1,g1⟩;have HO:=BE hO;have HK1:=BE k1;have HG1:=BE g1;have HP:=BE (Pb.new w1 false 0 0 0 0 false false (.slice none 0 0) 0);have HGN:Hid (Chg No w1 (w1.alloc (.cells #[.bool false,.int .i64 0,.int .i64 0,.int .i64 0,.int .i64 0,.bool false,.bool false,.slice none 0 0,.int .i64 0] 132))):=(Chg.refl _ w1).alloc _;have hs1:=g1.size;unfold Zo;go_wp2_with (first | refine wpList_store_pg rfl (.tmp 8) (.tmp 29) rfl w1.heap.size rfl rfl HO.out.one HP.out ?_);intro w2 P2 G2;have HK2:=BE ((HK1.out.chg0 HGN.out).far HLOW.out om G2);have HO2:=BE ((HO.out.chg HGN.out (fun _ _ _ f=>f)).chg G2 (fun k hk he e=>by have:=HO.out.block he;omega));have HG2:=BE ((HG1.out.trans HGN.out.cor0).trans' G2 (fun k hk e=>om));have hz2:=P2.lt;obtain⟨p0,p1,p2,p3,p4,p5,p6,p7,p8⟩:=P2.cells;by_cases hc:Z.2.2≠0
  ·have HE2:Hid (geK K o=(Z.1,[],Z.2.2)):=(by show geK K o=_;rw[HE.out,AJ hc]);replace q:∀w,(binOp .neq 46 (errV Z.2.2) .nilIface).run prog w=.ok (.bool true) w:=fun w=>by rw[q,AN hc];rfl
   go_wp2;go_ret2;rw[HE2.out];exact⟨_,rfl,Own.nil _ _ _,HK2.out,HG2.out⟩
  ·have h0:Z.2.2=0:=(by simpa using hc);replace q:∀w,(binOp .neq 46 (errV Z.2.2) .nilIface).run prog w=.ok (.bool false) w:=fun w=>by rw[q,AO h0];rfl
   have HE1:Hid (geK K o=if Z.2.1.sound=false\/Z.2.1.l=true then (Z.1,[],13) else (Z.1,Z.2.1.data.take 160,0)):=(by show geK K o=_;rw[HE.out,AI hc]);cases hsd:Z.2.1.sound
   ·have HE2:Hid (geK K o=(Z.1,[],13)):=(by show geK K o=_;rw[HE1.out,AJ (AK hsd)]);rw[hsd] at p6;go_wp2;go_ret2;rw[HE2.out];exact⟨_,rfl,Own.nil _ _ _,HK2.out,HG2.out⟩
   ·rw[hsd] at p6;cases hll:Z.2.1.l
    ·have HE2:Hid (geK K o=(Z.1,Z.2.1.data.take 160,0)):=(by show geK K o=_;rw[HE1.out,AI (by rw[hsd,hll];simp)]);rw[hll] at p5;obtain⟨d1,d2⟩:=HSD.out hsd;obtain⟨gg,cap,hv,hb,hlt,hcc,hA,-⟩:=HO2.out.lies (by rw[d1];decide);rw[d1] at hv;subst hv;have hcl:=Ut w2 gg 0 160 cap (Z.2.1.data.take 160) (by rw[length_take,d1];decide) dc (fun j hj=>by
      rw[AW,hA j (by rw[d1];omega)]
      congr 2
      simp[AQ,hj]) hlt
     have HLE:Hid (w.heap.size<=w2.heap.size):=(show w.heap.size<=w2.heap.size by omega);have hcz:(160:Int)<=(cap:Int):=(by rw[d1] at hcc;omega);go_wp2_with fail;refine hcl.mono ?_;rintro e w3 ⟨v3,rfl,O3,G3⟩;have HO3:=BE (O3.mono (base':=w.heap.size) (fun k hk=>by have:=(O3.block hk).1;have:=HLE.out;omega));have HK3:=BE (HK2.out.chg0 G3);have HG3:=BE (HG2.out.trans G3.cor0);go_wp2;go_ret2;rw[HE2.out];exact⟨v3,rfl,HO3.out,HK3.out,HG3.out⟩
    ·have HE2:Hid (geK K o=(Z.1,[],13)):=(by show geK K o=_;rw[HE1.out,AJ (AL hll)]);rw[hll] at p5;go_wp2;go_ret2;rw[HE2.out];exact⟨_,rfl,Own.nil _ _ _,HK2.out,HG2.out⟩
end
end Go.Proofs.YtmdpnpjacfedpaaGreat
