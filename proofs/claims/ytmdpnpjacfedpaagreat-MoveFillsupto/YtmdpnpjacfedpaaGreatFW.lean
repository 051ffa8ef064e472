/-
  Lemmas.
-/
import Derived.Test.YtmdpnpjacfedpaaGreatOm
import Derived.Test.YtmdpnpjacfedpaaGreatKFa
set_option maxRecDepth 1000000
set_option maxHeartbeats 16000000
set_option linter.unusedSimpArgs false
namespace Go.Proofs.YtmdpnpjacfedpaaGreat
open List
open Go.Proofs.Tryz
open Go.RowKit Go.Deep Go.ChangeShapes Go.WideShapes
section
variable {B:Nat}{K:BH}
def IsInts (w:Wd) (a:Option Addr) (len:Nat) (V:Nat->Int):Prop:=
 (∀i,i<len->LT (V i))/\(len=0\/∃g o,a=some ⟨g,o,none⟩/\g<w.heap.size/\∀i,i<len->w.cell? ⟨g,o+i,none⟩=some (.int .i64 (V i)))
theorem ints_in{H:Type}{enc:TypeId × Value->H}{W:Wd}{a:Option Addr}{len cap:Nat}{d:DataW H}{p:List MemPlace}(h:DataW.Trod enc prog W 0 (fun _=>true) true 43 (.slice a len cap) d p)(hb:Rows.uptoBulk d<=1048576):∃V,IsInts W a len V/\len<=1048576:=by
 have ce:prog.cellsOf 3=1:=kr
 obtain⟨fuel,hf⟩:=h;rcases open_slice underlying43 hf with ⟨hcs,_⟩ | ⟨x,l,c,m,n,D,Pl,hcs,_,hl,hm,hmm,hx,hel⟩
 ·simp[Value.cells] at hcs;obtain⟨rfl,rfl,rfl⟩:=hcs;exact⟨fun _=>0,⟨fun i hi=>absurd hi (Nat.not_lt_zero _),AK rfl⟩,dc⟩
 ·simp[Value.cells] at hcs;obtain⟨rfl,rfl,rfl⟩:=hcs;have hmc:m=cap:=by simpa using hmm
  subst hmc;have hlen:len<=1048576:=by
   simp only[Prod.mk.injEq] at hx;rw[hx.1] at hb;have:=Zl ((List.range len).map D);simp only[Rows.uptoBulk] at hb;rw[BA,length_range] at this;omega
  have each:∀i,i<len->∃z:Int,LT z/\W.cell? (x.add i)=some (.int .i64 z):=by
   intro i hi;obtain⟨cs',h1,h2⟩:=hel i om;rw[ce] at h1;obtain⟨_,hln,hcell⟩:=World.cells?_some h1
   match cs',hln with
   | [v0],_=>
    have e0:=hcell 0 om;rw[add_add] at e0;simp at e0;obtain⟨z0,f0,_,wz0⟩:=DataW.trod_int (k:=.i64) underlying3 h2;simp only[List.cons.injEq,and_true] at f0;exact⟨z0,bounds_i64 wz0,by rw[e0,f0]⟩
  obtain⟨O,hO⟩:=choose_lt each;refine⟨O,⟨fun i hi=>(hO i hi).1,?_⟩,hlen⟩;by_cases h0:len=0
  ·exact AK h0
  ·right;obtain⟨g,o,spot⟩:=x;have hspot:spot=none:=(by simpa[Addr.add] using World.cell?_spot (hO 0 om).2);subst hspot;have hadd:∀j,(⟨g,o,none⟩:Addr).add j=⟨g,o+j,none⟩:=H8 g o;have hlt:g<W.heap.size:=by
    have:=eG (hO 0 om).2;rw[hadd] at this;exact this
   refine⟨g,o,rfl,hlt,fun i hi=>?_⟩;have h0:=(hO i hi).2;rw[hadd] at h0;exact h0
theorem inv_putF{G:Bk}{La:Nat->Int}(h:Lnv B K G La)(hf:Fine K.s)(h3:Nq3 K)(hB:B<1073741824){o:Nat}(ho:o<24)(x:Int) :∃Z,anR 6 (fun _ _=>JA x ++ List.replicate 14 0) K o=some (Z,0)/\Fine Z.s/\Nq3 Z/\∃G',Lnv (B+1) Z G' (upd La o x):=by
 have hb0:=n3_bad h3;obtain⟨on,X,hs,hd⟩:=id h.iv;have hdd:K.dd=false:=by
  cases e:K.dd
  ·rfl
  ·have:=hs.dds.1 e;omega
 obtain⟨hX,hrm,hT⟩:=hd hdd;obtain⟨Z,e,fz,nz⟩:=an_all (H:=fun _ _=>JA x ++ List.replicate 14 0) (fun _ _=>⟨LQ x,TB x⟩) (hs.mono fun b _ e=>absurd e (hX b)) hf h3 hdd hrm hT (h.sq hB) (by omega:o<25) (n:=5) dc;obtain⟨Z2,e2,_,G',Lb,hv,hl,_⟩:=TD h hB ho x;have:Z2=(Z,0):=AR (e2.symm.trans e);subst this;exact⟨Z,e,fz,nz,G',by rw[<-hl rfl];exact hv⟩
theorem neq_nil46(w:Wd):(binOp .neq 46 .nilIface .nilIface).run prog w=.ok (.bool false) w:=kr
structure Fst (w:Wd) (A:Ad) (ar B:Nat) (wr:Wd):Prop where
 st:∃K G La,CoreAt A wr K/\IB wr ar 31 24 La/\Lnv B K G La/\Fine K.s/\Nq3 K
 nar:¬ Cor A ar
 far:∀k,Cor A k\/k=ar->w.heap.size<=k
 chg:Chg No w wr
theorem Fst.next{w:Wd}{A:Ad}{ar B':Nat}{wr w':Wd}(h:Fst w A ar B wr)(st:∃K G La,CoreAt A w' K/\IB w' ar 31 24 La/\Lnv B' K G La/\Fine K.s/\Nq3 K)(G:Chg (fun k=>Cor A k\/k=ar) wr w'):Fst w A ar B' w':=
 ⟨st,h.nar,h.far,h.chg.trans' G (fun k hk e=>by have:=h.far k e;omega)⟩
theorem Fine.geK(h:Fine K.s)(o:Nat):Fine (geK K o).1.s:=by
 have h1:Fine (inK K (K.L o).toNat).1.s:=by
  have:=Fine.rdK h (K.L o).toNat;unfold inK;dsimp only;split
  ·exact this
  ·split
   ·exact this
   ·split <;> exact this
 unfold Go.Proofs.YtmdpnpjacfedpaaGreat.geK;split
 ·exact h
 ·dsimp only;split
  ·exact h1
  ·split <;> exact h1
theorem fills_walk(a:Option Addr)(len cap:Nat)(V:Nat->Int)(w:Wd)(hO:IsInts w a len V)(hlen:len<=1048576) :Calls prog 4 #[.slice a len cap] w fun e w'=>e=.returned (.bool true)/\Below w.heap.size w w':=by
 have p2:=Eu;have HO:=BE hO;clear hO;go_enter func4,ntmps4;go_wp2_with fail;refine(kN w).mono ?_;rintro e w1 ⟨rfl,G1⟩;have HG1:=BE G1;clear G1;go_wp2_with fail;refine(Jz w1).mono ?_;rintro e w2 ⟨A,K,G,rfl,hF,hAg,hK,hB,G2⟩;have HA:Hid (∀k,Cor A k->w.heap.size<=k):=fun k hk=>by
  obtain⟨f0,f1,f2,f3,f4,f5,f6,f7,f8,f9⟩:=hF;have:=HG1.out.size;rcases hk with e | e | e | e | e | e | e | e <;> omega
 have G3:Chg No w2 (w2.alloc (.cells (ints (fun _=>0) 24).toArray 31)):=(Chg.refl _ _).alloc _;have HN3:Hid (Nq3 K):=fun b hb=>by rw[hB.F];exact n3_tkF (fun _ _=>dc) 0 b hb
 have HP:Hid (Fst w A w2.heap.size 0 (w2.alloc (.cells (ints (fun _=>0) 24).toArray 31))):=
  ⟨⟨K,G,fun _=>0,hK.chg0 G3,IB.new w2 31 24 (fun _=>0),hB.inv,hB.fine,HN3.out⟩,hK.apart (AM _),fun k hk=>by
   rcases hk with hk | rfl
   ·
    exact HA.out k hk
   ·
    exact(HG1.out.trans G2).size,(HG1.out.trans G2).trans G3⟩
 clear hF hAg hK hB G2 HA HG1 G3 HN3;go_wp2_with fail
 go_loopw [7] (fun t7 wr=>∃i:Nat,i<=len/\t7=.int .i64 i/\Fst w A w2.heap.size i wr) (fun t7 _=>len - (intOf t7).toNat)
 case atStart=>exact⟨0,om,rfl,HP.out⟩
 case round=>
  clear HP;obtain⟨ar,har⟩:∃n,w2.heap.size=n:=⟨_,rfl⟩;rw[har] at hrel ⊢;clear har;obtain⟨i,hi,rfl,hS⟩:=hrel;by_cases hlt:i<len
  ·have hl1:(i:Int)<(len:Int):=om;have hl0:(0:Int)<=(i:Int):=om;have hl2:(i:Int)<1048576:=om;obtain⟨hok,hc⟩:=HO.out;rcases hc with hc | ⟨qa,oa,rfl,hqa,hc⟩
   ·omega
   have x0:=(hS.chg.cell hqa (fun f=>f) _).trans (hc i hlt);obtain⟨o0,o1⟩:=hok i hlt;obtain⟨K,G,La,hK,hI,hv,hf,h3⟩:=hS.st;have hpk:=Cx (V i) o0 o1 24 dc dc;have hof:=I9 (V i) 24 dc;obtain⟨Z,hZ,fZ,nZ,GZ,vZ⟩:=inv_putF hv hf h3 om hof ((i:Int)+1);have HS:=BE hS;have HK:=BE hK;have HI:=BE hI;have HZ:=BE hZ;have HV:=BE vZ;have HFz:=BE fZ;have HNz:=BE nZ;have HOf:=BE hof;generalize pkN (V i) 24=of at *
   generalize V i=vi at *
   have hofz:(of:Int)<24:=om;have hofz0:(0:Int)<=of:=om;clear hok hc hS o0 o1 hK hI hv hf h3 hZ vZ fZ nZ hof;go_wp2_with fail;refine(hpk _).mono ?_;rintro e wr ⟨rfl,rfl⟩;clear hpk x0;have q46:=neq_nil46;go_wp2_with fail;refine(Jy ((i:Int)+1) wr).mono ?_;rintro e w3 ⟨rfl,hA1,G1⟩;have HK1:=BE (HK.out.chg0 G1);have HI1:=BE (HI.out.chg G1 (fun f=>f));have HA1:=BE hA1;have HNW:Hid (¬ Cor A wr.heap.size):=HK.out.apart (AM _);have HG1:Hid (Chg (fun k=>Cor A k\/k=ar) wr w3):=G1.mono (fun _ _ f=>f.elim);have hpk:=fM A w3 K HK1.out of HOf.out wr.heap.size 0 160 (JA ((i:Int)+1)) (CR _) (GP _) (HA1.out.at_) HNW.out 6 (Z,0) HZ.out;clear hA1 G1 HI HK HA1;go_wp2_with fail;refine hpk.mono ?_;rintro e w4 ⟨rfl,hK2,G2⟩;rw[show errV ((Z,0):BH × Nat).2=Value.nilIface from rfl];have HK2:=BE hK2;have HI2:=BE (HI1.out.chg G2 HS.out.nar);have HG2:Hid (Chg (fun k=>Cor A k\/k=ar) wr w4):=HG1.out.trans (G2.mono (fun _ _ f=>AK f));clear hK2 G2 hpk HK1 HI1 HG1 HZ HNW;obtain⟨hc0,hcf⟩:=HI2.out.cell of HOf.out;have HI3:=BE (HI2.out.set of ((i:Int)+1));have G3:Chg (·=ar) w4 (w4.setCell ⟨ar,of,none⟩ (.int .i64 ((i:Int)+1))):=(Chg.refl (·=ar) w4).setCell (AK rfl) _ _;have HK3:=BE (HK2.out.far2 G3 HI2.out.ty);have HS3:=BE (HS.out.next (B':=i+1) ⟨Z,GZ,upd La of ((i:Int)+1),HK3.out,HI3.out,HV.out,HFz.out,HNz.out⟩ (HG2.out.trans (G3.mono (fun _ _ f=>AL f))));clear G3 HI2 HK2 HG2 HK3 HI3 HS HV HFz HNz;go_wp2;exact⟨⟨i+1,om,by go_num,HS3.out⟩,by simp[intOf];omega⟩
  ·have hl1:¬ (i:Int)<(len:Int):=om;have HS:=BE hS;clear hS;go_wp2_with fail
   go_loopw [10] (fun t10 wr=>∃k:Nat,k<=24/\t10=.int .i64 k/\Fst w A ar (i+k) wr) (fun t10 _=>24 - (intOf t10).toNat)
   case atStart=>exact⟨0,om,rfl,HS.out⟩
   case round=>
    clear HS;obtain⟨k,hk,rfl,hS⟩:=hrel;by_cases hk2:k<24
    ·have hk1:(k:Int)<24:=om;obtain⟨K,G,La,hK,hI,hv,hf,h3⟩:=hS.st;obtain⟨K',hg,hv',ha⟩:=Na hv om hk2;have hge:=ZP A _ K hK ar La hI hS.nar k hk2 K' hg;have hf':=Fine.geK hf k;rw[hg] at hf';have HS:=BE hS;have HI:=BE hI;have HV:=BE hv';have HF:=BE hf';have H3:Hid (Nq3 K'):=fun b hb=>by rw[ha.F];exact h3 b hb
     clear hS hK hI hv hg hv' hf hf' h3 ha;go_wp2_with fail;refine hge.mono ?_;rintro x w3 ⟨rfl,hK3,C3⟩;have HS3:=BE (HS.out.next (B':=i+(k+1)) ⟨K',G,La,hK3,HI.out.chg C3 HS.out.nar,HV.out,HF.out,H3.out⟩ (Chg.corA C3));clear hge hK3 C3 HS HI HV HF H3;go_wp2;exact⟨⟨k+1,om,by go_num,HS3.out⟩,by simp[intOf];omega⟩
    ·have hk1:¬ (k:Int)<24:=om;obtain⟨K,G,La,hK,hI,hv,hf,h3⟩:=hS.st;have HS:=BE hS;have HK:=BE hK;have HV:=BE hv;have HB0:Hid (bdN (vwF K) 12=0):=(by show _=_;rw[JB];exact n3_bad h3);clear hS hK hI hv hf h3;go_wp2_with fail;refine(EW A wr K HK.out).mono ?_;rintro x w4 ⟨rfl,hK4,C4⟩;have HI4:=BE (IB.new w4 39 67 (fun _=>0));have HK4:=BE hK4;have HGp:=BE C4;clear hK4 C4 HK;go_wp2_with (first | refine Bw rfl rfl ?_ | refine By rfl (.tmp 12) (.tmp 64) rfl w4.heap.size rfl rfl HI4.out ?_);intro w5 I5 G5;have G45:Chg No w4 w5:=((Chg.refl No w4).alloc _).trans' G5 (fun k hk h=>om);have HG5:=BE (HS.out.chg.trans (HGp.out.trans G45));have hst:=Pr A.g K G HV.out.iv HV.out.l24 w5 (HK4.out.chg0 G45).chip;have HV5:=BE I5;clear G45 G5 I5 HGp HI4 HK4;go_wp2_with (first | refine Dv rfl (.tmp 12) rfl w4.heap.size rfl HV5.out ?_);refine hst.mono ?_;rintro x w6 ⟨rfl,C6⟩;have HV6:=BE (HV5.out.chg C6 (fun f=>f));have HG6:=BE (HG5.out.trans C6);clear hst C6 HV5 HG5;go_wp2_with (first | refine Bi 70 rfl (.tmp 12) rfl w4.heap.size rfl rfl HV6.out ?_);refine(JC (vwF K) w6).mono ?_;rintro x w7 ⟨rfl,C7⟩;rw[HB0.out];have HG7:=BE (HG6.out.trans C7);clear C7;go_wp2;go_ret;exact⟨rfl,GQ HG7.out (fun k f=>f.elim) (AM _)⟩
end
end Go.Proofs.YtmdpnpjacfedpaaGreat
