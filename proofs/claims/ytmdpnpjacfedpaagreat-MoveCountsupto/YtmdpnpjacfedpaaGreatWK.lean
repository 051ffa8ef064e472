/-
  Lemmas.
-/
import Derived.Test.YtmdpnpjacfedpaaGreatOm
import Derived.Test.YtmdpnpjacfedpaaGreatP13
set_option maxRecDepth 1000000
set_option maxHeartbeats 16000000
set_option linter.unusedSimpArgs false
namespace Go.Proofs.YtmdpnpjacfedpaaGreat
open Go.Proofs.Tryz
open Go.RowKit
theorem nL(K:BH){i:Nat}(h:i<12):vwF K (40+i)=K.hR i:=by unfold vwF;rw[AI om,AI om,AI om,AI om,AI om,AJ om,show 40+i - 40=i by omega]
theorem Zm(w:Wd):(binOp .neq 46 .nilIface .nilIface).run prog w=.ok (.bool false) w:=kr
theorem Pv(a:Option Addr)(len cap:Nat)(O:Nat->Zw)(w:Wd)(hO:IsOps w a len O)(hlen:len<=1048576) :Calls prog 6 #[.slice a len cap] w fun e w'=>e=.returned (.bool true)/\Below w.heap.size w w':=by
 have p2:=Eu;have q46:=Zm;have HO:=BE hO;clear hO;go_enter func6,ntmps6;go_wp2_with fail;refine(kN w).mono ?_;rintro e w1 ⟨rfl,G1⟩;have HG1:=BE G1;clear G1;go_wp2_with fail;refine(Jz w1).mono ?_;rintro e w2 ⟨A,K,G,rfl,hF,hAg,hK,hB,G2⟩;have HA:Hid (∀k,Cor A k->w.heap.size<=k):=fun k hk=>by
  obtain⟨f0,f1,f2,f3,f4,f5,f6,f7,f8,f9⟩:=hF;have:=HG1.out.size;rcases hk with e | e | e | e | e | e | e | e <;> omega
 have G3:Chg No w2 (w2.alloc (.cells (ints (fun _=>0) 24).toArray 31)):=(Chg.refl _ _).alloc _;have HP:Hid (VF w A w2.heap.size 0 (w2.alloc (.cells (ints (fun _=>0) 24).toArray 31))):=
  ⟨⟨K,G,fun _=>0,hK.chg0 G3,IB.new w2 31 24 (fun _=>0),hB.inv⟩,hK.apart (AM _),fun k hk=>by
   rcases hk with hk | rfl
   ·
    exact HA.out k hk
   ·
    exact(HG1.out.trans G2).size,(HG1.out.trans G2).trans G3⟩
 clear hF hAg hK hB G2 HA HG1 G3;go_wp2_with fail
 go_loopw [7] (fun t7 wr=>∃i:Nat,i<=len/\t7=.int .i64 i/\VF w A w2.heap.size i wr) (fun t7 _=>len - (intOf t7).toNat)
 case atStart=>exact⟨0,om,rfl,HP.out⟩
 case round=>
  clear HP;obtain⟨ar,har⟩:∃n,w2.heap.size=n:=⟨_,rfl⟩;rw[har] at hrel ⊢;clear har;obtain⟨i,hi,rfl,hS⟩:=hrel;by_cases hlt:i<len
  ·have hl1:(i:Int)<(len:Int):=om;have hl0:(0:Int)<=(i:Int):=om;obtain⟨hok,hc⟩:=HO.out;rcases hc with hc | ⟨qa,oa,rfl,hqa,hc⟩
   ·omega
   obtain⟨x0,x1,x2⟩:=(hc i hlt).chg hS.chg hqa;obtain⟨o0,o1,o2⟩:=hok i hlt;obtain⟨K,G,La,hK,hI,hv⟩:=hS.st;have hstep:=Rc A wr K G La i ar hK hI hS.nar hv om (O i).k (O i).a (O i).x o0 o1 o2;have HS:=BE hS;generalize O i=oi at *
   clear hok hc hS o0 o1 o2 hK hI hv;go_wp2_with fail;refine hstep.mono ?_;rintro x w3 ⟨rfl,K3,G3,L3,hK3,hI3,hv3,-,C3⟩;have HS3:=BE (HS.out.next ⟨K3,G3,L3,hK3,hI3,hv3⟩ C3);have HK3:=BE hK3;have HI3:=BE hI3;have HV3:=BE hv3;clear hstep x0 x1 x2 C3 HS hK3 hI3 hv3;go_wp2_with fail;refine(EW A w3 K3 HK3.out).mono ?_;rintro x w4 ⟨rfl,hK4,C4⟩;have HI4:=BE (IB.new w4 39 67 (fun _=>0));have HK4:=BE hK4;have HGp:=BE C4;clear hK4 C4 HK3;go_wp2_with (first | refine Bw rfl rfl ?_ | refine By rfl (.tmp 9) (.tmp 43) rfl w4.heap.size rfl rfl HI4.out ?_);intro w5 I5 G5;have G45:Chg No w4 w5:=((Chg.refl No w4).alloc _).trans' G5 (fun k hk h=>om);have G35:=HGp.out.trans G45;have HK5:=BE (HK4.out.chg0 G45);have HS5:=BE (HS3.out.next ⟨K3,G3,L3,HK5.out,HI3.out.chg G35 (fun f=>f),HV3.out⟩ (Chg.newA G35));have HB5:=BE (HI3.out.chg G35 (fun f=>f));have HVb:=BE I5;obtain⟨nb,hnb⟩:∃n,w4.heap.size=n:=⟨_,rfl⟩;rw[hnb] at HVb;rw[hnb];clear G45 G35 G5 I5 HGp HI4 HK4 HI3 HS3 hnb;have hrd:=HV3.out.rd;go_wp2_with fail
   go_loopw [10] (fun t10 wr=>∃k:Nat,k<=12/\t10=.int .i64 k/\CoreAt A wr K3/\IB wr nb 39 67 (vwF K3)/\IB wr ar 31 24 L3/\VF w A ar (i+1) wr) (fun t10 _=>12 - (intOf t10).toNat)
   case atStart=>exact⟨0,om,rfl,HK5.out,HVb.out,HB5.out,HS5.out⟩
   case round=>
    clear HK5 HVb HS5 HB5;obtain⟨k,hk,rfl,hK,hV,hB,hS⟩:=hrel;by_cases hk2:k<12
    ·have hk1:(k:Int)<12:=om;have hk0:(0:Int)<=(k:Int):=om;obtain⟨r0,-,r1⟩:=hrd k hk2;have hre:=UA A.g K3.s k hk2 _ hK.chip;have HK:=BE hK;have HV:=BE hV;have HS:=BE hS;have HB:=BE hB;clear hK hV hS hB;go_wp2_with fail;refine hre.mono ?_;rintro x w6 ⟨rfl,C6⟩;have HK6:=BE (HK.out.chg0 C6);have HV6:=BE (HV.out.chg C6 (fun f=>f));have HB6:=BE (HB.out.chg C6 (fun f=>f));have HS6:=BE (HS.out.next ⟨K3,G3,L3,HK6.out,HB6.out,HV3.out⟩ (Chg.newA C6));clear hre C6 HK HV HS HB;obtain⟨hcc,-⟩:=HV6.out.cell (40+k) om;rw[nL K3 hk2,r1] at hcc;generalize (K3.s.bl k).reads=rr at *
     by_cases hrr:rr<65535
     ·rw[show min rr 65535=rr by omega] at hcc;go_wp2;exact⟨⟨k+1,om,by go_num,HK6.out,HV6.out,HB6.out,HS6.out⟩,by simp[intOf];omega⟩
     ·clear hcc;go_wp2;exact⟨⟨k+1,om,by go_num,HK6.out,HV6.out,HB6.out,HS6.out⟩,by simp[intOf];omega⟩
    ·have hk1:¬ (k:Int)<12:=om;have HS:=BE hS;clear hS hK hV hB;go_wp2;exact⟨⟨i+1,om,by go_num,HS.out⟩,by simp[intOf];omega⟩
  ·have hl1:¬ (i:Int)<(len:Int):=om;have HS:=BE hS;clear hS;go_wp2;go_ret;exact⟨rfl,GQ HS.out.chg (fun k f=>f.elim) (AM _)⟩
end Go.Proofs.YtmdpnpjacfedpaaGreat
