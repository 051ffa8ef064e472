/-
  Lemmas.
-/
import Derived.Test.YtmdpnpjacfedpaaGreatOm
import Derived.Test.YtmdpnpjacfedpaaGreatP12
set_option maxRecDepth 1000000
set_option maxHeartbeats 16000000
set_option linter.unusedSimpArgs false
namespace Go.Proofs.YtmdpnpjacfedpaaGreat
open Go.Proofs.Tryz
open Go.RowKit
section
variable {a:Act}{o:Oper}{x y:Operand}{P:Program}{ops:Array Oper}{C:World->Prop}{K:Act->Prop}{u v:Value}{F:Nat->Int}{t:TypeId}(w:Wd)
theorem quiet_val(hw:Region.wanted o (yielded ops a.tmps)=true)(v:Value)(h:∀w,C w->(execOp a.eval o).run P w=.ok (.value v) w)(next:K (a.put o.dst v)):if Region.wanted o (yielded ops a.tmps) then o.quiet P a C K else K (a.put o.dst undef):=by
 rw[AJ hw];refine⟨v,fun w hc=>?_,next⟩;unfold Oper.quietAt;rw[h w hc];exact⟨rfl,rfl⟩
theorem quiet_call(hw:Region.wanted o (yielded ops a.tmps)=true)(v:Value)(f:FuncId)(args:Array Value)(h:∀w,C w->(execOp a.eval o).run P w=.ok (.enter f args) w)(hc:∀w,C w->Calls P f args w fun e w'=>e=.returned v/\C w')(next:K (a.put o.dst v)):if Region.wanted o (yielded ops a.tmps) then o.quiet P a C K else K (a.put o.dst undef):=by
 rw[AJ hw];refine⟨v,fun w hw'=>?_,next⟩;unfold Oper.quietAt;rw[h w hw'];exact⟨rfl,hc w hw'⟩
theorem enters13:∀args w,(callFunc 13 args).run prog w=.ok (.enter 13 args) w:=enters_of func13 kr rfl
theorem enters19:∀args w,(callFunc 19 args).run prog w=.ok (.enter 19 args) w:=enters_of func19 kr rfl
theorem exec_call1{w:Wd}{f:FuncId}{ts:Array TypeId}(he:∀args w,(callFunc f args).run prog w=.ok (.enter f args) w)(ho:o.op=.call { callee:=.value (.func f),args:=#[x],argTypes:=ts })(hx:a.eval x=u):(execOp a.eval o).run prog w=.ok (.enter f #[u]) w:=by
 subst hx;unfold execOp;simp[ho,resolve,invoke,Act.eval,he,go_sem]
theorem exec_load_vw{w:Wd}{g:Nat}(ho:o.op=.load 39 x)(hx:a.eval x=.pointer (some ⟨g,0,none⟩))(hg:IB w g 39 67 F):(execOp a.eval o).run prog w=.ok (.value (.agg (ints F 67).toArray)) w:=by
 unfold execOp;simp only[ho,hx,Instr.loadAt,Instr.sureAddr,Sem.run_bind,Sem.run_pure,Result.andThen_ok,run_loadVar_row w g 39 39 _ _ _ hg underlying39 rfl (jk F)]
theorem exec_load_int{w:Wd}{ad:Addr}(ho:o.op=.load 3 x)(hx:a.eval x=.pointer (some ad))(hg:w.cell? ad=some v):(execOp a.eval o).run prog w=.ok (.value v) w:=by
 unfold execOp;simp only[ho,hx];simp[hg,go_sem]
theorem exec_bin{w:Wd}{b:BinOp}{s:TypeId}{r:Value}(ho:o.op=.binOp b s x y t)(hx:a.eval x=u)(hy:a.eval y=v)(hg:∀w,(eqGuard b s x y u v).run prog w=.ok () w)(h:(binOp b s u v).run prog w=.ok r w):(execOp a.eval o).run prog w=.ok (.value r) w:=by
 unfold execOp;simp only[ho,hx,hy,Sem.run_bind,hg,h,Result.andThen_ok,Sem.run_pure]
theorem exec_eql_vw{w:Wd}(ho:o.op=.binOp .eql 39 x y t)(hx:a.eval x=.agg (ints F 67).toArray)(hy:a.eval y=.agg (ints F 67).toArray):(execOp a.eval o).run prog w=.ok (.value (.bool true)) w:=by
 unfold execOp;simp only[ho,hx,hy,Sem.run_bind,Zi,kL,Result.andThen_ok,Sem.run_pure]
theorem eql_nilp:(binOp .eql 25 (.pointer none) (.pointer none)).run prog w=.ok (.bool true) w:=kr
theorem eql_e1:(binOp .eql 46 (.iface 57 (.int .i64 1)) (.iface 57 (.int .i64 1))).run prog w=.ok (.bool true) w:=kr
theorem neq_e1:(binOp .neq 46 (.iface 57 (.int .i64 1)) (.iface 57 (.int .i64 1))).run prog w=.ok (.bool false) w:=kr
theorem neq_e12:(binOp .neq 46 (.iface 57 (.int .i64 12)) (.iface 57 (.int .i64 12))).run prog w=.ok (.bool false) w:=kr
theorem eql_nn:(binOp .eql 46 .nilIface .nilIface).run prog w=.ok (.bool true) w:=kr
theorem eql_int(z:Int):(binOp .eql 3 (.int .i64 z) (.int .i64 z)).run prog w=.ok (.bool true) w:=by
 simp[binOp,go_sem]
def Whn (b:Bool) (P:Prop):Prop:=b=true<->P
theorem free_no(A:Ad)(w:Wd)(K:BH)(h:CoreAt A w K)(b:Nat)(hb:b<12)(h0:K.F b=0):Calls prog 22 #[.pointer (some ⟨A.c,0,none⟩),.int .i64 (b:Nat),.bool true] w fun e w'=>e=.returned (errV 12)/\CoreAt A w' K/\Chg (Cor A) w w':=
 PT A w K h b hb true 6 (K,12) (by unfold vaK;rw[AJ (AK h0)])
theorem refuses_walk(of:Int)(da:Option Addr)(dn dq:Nat)(bk:Int)(ra:Option Addr)(rn rc:Nat)(c:AA.Bn)(w:Wd) :Calls prog 5 #[.int .i64 of,.slice da dn dq,.int .i64 bk,.slice ra rn rc,.agg (AA.ckA c)] w fun e w'=>e=.returned (.bool true)/\Below w.heap.size w w':=by
 have p2:=Eu;have HCK0:=BE (AA.Ck.new w c);have HG0:Hid (Chg No w (w.alloc (.cells (AA.ckA c) 55))):=(Chg.refl _ w).alloc _;go_enter func5,ntmps5;go_wp2_with fail;refine(kN _).mono ?_;rintro e w1 ⟨rfl,G1⟩;have HG1:=BE (HG0.out.trans G1);have HCK1:=BE (HCK0.out.chg G1 (fun f=>f));clear G1 HG0 HCK0;go_wp2_with fail;refine(Jz w1).mono ?_;rintro e w2 ⟨A,K,G,rfl,hF,hAg,hK,hB,G2⟩;have HA:Hid (∀k,Cor A k->w.heap.size<=k):=fun k hk=>by
  obtain⟨f0,f1,f2,f3,f4,f5,f6,f7,f8,f9⟩:=hF;have:=HG1.out.size;rcases hk with e | e | e | e | e | e | e | e <;> omega
 have HNA:Hid (¬ Cor A w.heap.size):=fun hk=>by
  obtain⟨f0,f1,f2,f3,f4,f5,f6,f7,f8,f9⟩:=hF;have:=HCK1.out.lt;rcases hk with e | e | e | e | e | e | e | e <;> omega
 have HCK2:=BE (HCK1.out.chg G2 (fun f=>f));have HG2:=BE (HG1.out.trans G2);have HK2:=BE hK;have HB:=BE hB;clear hF hAg hK hB G2 HG1 HCK1;go_wp2_with fail;refine(steps_any A.g K.s w2 HK2.out.chip).mono ?_;rintro e w2 ⟨rfl,rfl⟩;go_wp2_with fail;refine(EW A w2 K HK2.out).mono ?_;rintro e w4 ⟨rfl,hK4,C4⟩;have HI4:=BE (IB.new w4 39 67 (fun _=>0));have HK4:=BE hK4;have HGp:=BE C4;clear hK4 C4;go_wp2_with (first | refine Bw rfl rfl ?_ | refine By rfl (.tmp 15) (.tmp 41) rfl w4.heap.size rfl rfl HI4.out ?_);intro w5 I5 G5;have G45:Chg No w4 w5:=((Chg.refl No w4).alloc _).trans' G5 (fun k hk h=>om);have HK5:=BE (HK4.out.chg0 G45);have HG5:=BE (HG2.out.trans (HGp.out.trans G45));have HCK5:=BE (HCK2.out.chg (HGp.out.trans G45) (fun f=>f));have HV5:=BE I5;have HNV0:Hid (¬ Cor A w4.heap.size):=HK4.out.apart (AM _);obtain⟨nv,hnv⟩:∃n,w4.heap.size=n:=⟨_,rfl⟩;rw[hnv] at HNV0;rw[hnv] at HV5;rw[hnv];clear G45 G5 I5 HGp HI4 HK4 HK2 HG2 HCK2 hnv;have q1:=neq_e1;have q12:=neq_e12
 go_upto_region 7 with fail
 go_cut [52] from 42 to 51 (fun s52 wx=>(∃b:Bool,s52=.bool b/\Hid (Whn b ((of<0\/24<=of)\/dn≠160)))/\w5=wx)
 case first=>
  by_cases h1:of<0
  ·go_wp2_with fail
   go_meet
   case rel=>exact⟨⟨true,rfl,iff_of_true rfl (AK (AK h1))⟩,rfl⟩
  ·by_cases h2:of ≥ 24
   ·go_wp2_with fail
    go_meet
    case rel=>exact⟨⟨true,rfl,iff_of_true rfl (AK (AL h2))⟩,rfl⟩
   ·by_cases h3:dn=160
    ·have h3b:((dn:Int) != 160)=false:=(by simp;omega);have H3:Hid (Whn false ((of<0\/24<=of)\/dn≠160)):=iff_of_false dc om;clear h3;go_wp2_with fail
     go_meet
     case rel=>exact⟨⟨false,rfl,H3⟩,rfl⟩
    ·have h3b:((dn:Int) != 160)=true:=(by simp;omega);have H3:Hid (Whn true ((of<0\/24<=of)\/dn≠160)):=iff_of_true rfl (AL h3);clear h3;go_wp2_with fail
     go_meet
     case rel=>exact⟨⟨true,rfl,H3⟩,rfl⟩
 case rest=>
 obtain⟨⟨b1,rfl,HB1⟩,rfl⟩:=hcut
 go_upto_if 52 with fail
 go_cut [16] from 53 to 59 (fun _ wx=>Hid (Chg No w5 wx))
 case first=>
  cases b1
  ·go_wp2_with fail
   go_meet
   case rel=>exact Chg.refl _ _
  ·have H1:=BE (HB1.out.1 rfl);go_wp2_with (go_at_call 16;refine(put_arg _ A.c of da dn dq H1.out).mono ?_;rintro e w6 ⟨rfl,C6⟩;have HC6:=BE C6;rw[show errV 1=Value.iface 57 (.int .i64 1) from rfl];clear C6)
   go_meet
   case rel=>exact HC6
 case rest=>
 have HC6:=hcut;clear hcut;have HK6:=BE (HK5.out.chg0 HC6.out);have HG6:=BE (HG5.out.trans HC6.out);have HCK6:=BE (HCK5.out.chg HC6.out (fun f=>f));have HV6:=BE (HV5.out.chg HC6.out (fun f=>f));clear HC6 HK5 HG5 HCK5 HV5 HB1;generalize wc=w6 at *
 go_upto_region 11 with fail
 go_cut [65] from 60 to 64 (fun s65 wx=>(∃b:Bool,s65=.bool b/\Hid (Whn b (of<0\/24<=of)))/\w6=wx)
 case first=>
  by_cases h1:of<0
  ·go_wp2_with fail
   go_meet
   case rel=>exact⟨⟨true,rfl,iff_of_true rfl (AK h1)⟩,rfl⟩
  ·by_cases h2:of ≥ 24
   ·go_wp2_with fail
    go_meet
    case rel=>exact⟨⟨true,rfl,iff_of_true rfl (AL h2)⟩,rfl⟩
   ·have H3:Hid (Whn false (of<0\/24<=of)):=iff_of_false dc om;go_wp2_with fail
    go_meet
    case rel=>exact⟨⟨false,rfl,H3⟩,rfl⟩
 case rest=>
 obtain⟨⟨b2,rfl,HB2⟩,rfl⟩:=hcut
 go_upto_if 65 with fail
 go_cut [17,18,19] from 66 to 87 (fun _ _ _ wx=>Hid (Chg No w6 wx))
 case first=>
  cases b2
  ·go_wp2_with fail
   go_meet
   case rel=>exact Chg.refl _ _
  ·have H2:=BE (HB2.out.1 rfl);go_wp2_with (first | (go_at_call 20;refine(get_arg _ A.c of H2.out).mono ?_;rintro e w6 ⟨rfl,rfl⟩;rw[show errV 1=Value.iface 57 (.int .i64 1) from rfl]) | (go_at_call 21;refine(trim_arg _ A.c of H2.out).mono ?_;rintro e w7 ⟨rfl,C7⟩;have HC7:=BE C7;rw[show errV 1=Value.iface 57 (.int .i64 1) from rfl];clear C7))
   go_meet
   case rel=>exact HC7
 case rest=>
 have HC7:=hcut;clear hcut;have HK7:=BE (HK6.out.chg0 HC7.out);have HG7:=BE (HG6.out.trans HC7.out);have HCK7:=BE (HCK6.out.chg HC7.out (fun f=>f));have HV7:=BE (HV6.out.chg HC7.out (fun f=>f));clear HC7 HK6 HG6 HCK6 HV6 HB2;generalize wc=w7 at *
 go_upto_region 16 with fail
 go_cut [93] from 88 to 92 (fun s93 wx=>(∃b:Bool,s93=.bool b/\Hid (Whn b (bk<0\/12<=bk)))/\w7=wx)
 case first=>
  by_cases h1:bk<0
  ·go_wp2_with fail
   go_meet
   case rel=>exact⟨⟨true,rfl,iff_of_true rfl (AK h1)⟩,rfl⟩
  ·by_cases h2:bk ≥ 12
   ·go_wp2_with fail
    go_meet
    case rel=>exact⟨⟨true,rfl,iff_of_true rfl (AL h2)⟩,rfl⟩
   ·have H3:Hid (Whn false (bk<0\/12<=bk)):=iff_of_false dc om;go_wp2_with fail
    go_meet
    case rel=>exact⟨⟨false,rfl,H3⟩,rfl⟩
 case rest=>
 obtain⟨⟨b3,rfl,HB3⟩,rfl⟩:=hcut
 go_upto_if 93 with fail
 go_cut [20,21] from 94 to 110 (fun _ _ wx=>Hid (CoreAt A wx K)/\Hid (Chg (fun k=>Cor A k) w7 wx))
 case first=>
  cases b3
  ·have HX:Hid (0<=bk/\bk<12):=by
    have:=HB3.out;unfold Whn at this;simp at this;show _/\_;omega
   obtain⟨b,rfl⟩:∃b:Nat,bk=b:=⟨bk.toNat,by have:=HX.out;omega⟩;have hb12:(b:Int)<12:=HX.out.2;have hb0:(0:Int)<=b:=HX.out.1;have hbn:b<12:=om;obtain⟨hcv,-⟩:=HV7.out.cell b om;rw[Pp K hbn] at hcv;by_cases h0:K.F b=0
   ·rw[h0] at hcv;have H0:=BE h0;clear h0;go_wp2_with (go_at_call 22;refine(free_no A _ K HK7.out b om H0.out).mono ?_;rintro e w8 ⟨rfl,K8,C8⟩;have HK8:=BE K8;have HC8:=BE C8;rw[show errV 12=Value.iface 57 (.int .i64 12) from rfl];clear K8 C8)
    go_meet
    case rel=>exact⟨HK8,HC8⟩
   ·have h0b:(K.F b == 0)=false:=(by simpa using h0);clear h0;go_wp2_with fail
    go_meet
    case rel=>exact⟨HK7,Chg.refl _ _⟩
  ·have H3:=BE (HB3.out.1 rfl);go_wp2_with (go_at_call 22;refine(vacate_arg A _ K HK7.out bk false H3.out).mono ?_;rintro e w7 ⟨rfl,rfl⟩;rw[show errV 1=Value.iface 57 (.int .i64 1) from rfl])
   go_meet
   case rel=>exact⟨HK7,Chg.refl _ _⟩
 case rest=>
 obtain⟨HK8,HC8⟩:=hcut;have HNV:Hid (¬ Cor A nv):=HNV0;have HG8:=BE (HG7.out.trans' HC8.out (fun k hk e=>by have:=HA.out k e;omega));have HCK8:=BE (HCK7.out.chg HC8.out HNA.out);have HV8:=BE (HV7.out.chg HC8.out HNV.out);clear HC8 HK7 HG7 HCK7 HV7 HB3 HNA HNV;generalize wc=w8 at *
 go_upto_if 113 with fail
 go_cut [22] from 111 to 119 (fun _ wx=>Hid (wx=w8))
 case first=>
  by_cases h4:rn=12
  ·have h4b:((rn:Int) != 12)=false:=(by simp;omega);clear h4;go_wp2_with fail
   go_meet
   case rel=>exact rfl
  ·have h4b:((rn:Int) != 12)=true:=(by simp;omega);have H4:=BE h4;clear h4;go_wp2_with (go_at_call 23;refine(seen_arg _ A.c ra rn rc H4.out).mono ?_;rintro e w8 ⟨rfl,rfl⟩;rw[show errV 1=Value.iface 57 (.int .i64 1) from rfl])
   go_meet
   case rel=>exact rfl
 case rest=>
 obtain rfl:=hcut.out;go_wp2_with (first | refine AA.Ba rfl (.tmp 9) rfl w.heap.size rfl HCK8.out ?_);refine(new_nil _ c).mono ?_;rintro e w9 ⟨rfl,C9⟩;have HK9:=BE (HK8.out.chg0 C9);have HG9:=BE (HG8.out.trans C9);have HV9:=BE (HV8.out.chg C9 (fun f=>f));clear C9 HK8 HG8 HV8 HCK8;rw[show errV 1=Value.iface 57 (.int .i64 1) from rfl];go_wp2_with fail;refine(UA A.g K.s 0 dc w9 HK9.out.chip).mono ?_;rintro e wX ⟨rfl,CX⟩;have HK:=BE (HK9.out.chg0 CX);have HG:=BE (HG9.out.trans CX);have HV:=BE (HV9.out.chg CX (fun f=>f));have HR0:Hid (wX.cell? ⟨nv,40,none⟩=some (.int .i64 (K.s.bl 0).reads)):=by
  obtain⟨r0,r1,r2⟩:=HB.out.rd 0 dc;have:=(HV.out.cell 40 dc).1;rw[nL K (i:=0) dc,r2,show min (K.s.bl 0).reads 65535=(K.s.bl 0).reads by omega] at this;exact this
 clear CX HK9 HG9 HV9;go_wp2_with fail;refine wp_region_quiet (C:=fun W=>Chg No wX W) kr kr (Chg.refl _ wX).drew ?_;refine wpQuiet_step (fun K0 hK0=>?_);refine quiet_val rfl _ (fun _ _=>rfl) ?_;go_simp;refine hK0 _ ?_;clear hK0 K0;refine wpQuiet_step (fun K0 hK0=>?_);refine quiet_val rfl (.bool true) (fun W _=>exec_bin rfl rfl rfl (fun _=>rfl) (eql_nilp W)) ?_;go_simp;refine hK0 _ ?_;clear hK0 K0;refine wpQuiet_step (fun K0 hK0=>?_);refine quiet_val rfl _ (fun _ _=>rfl) ?_;go_simp;refine hK0 _ ?_;clear hK0 K0;refine wpQuiet_step (fun K0 hK0=>?_);refine quiet_val rfl _ (fun _ _=>rfl) ?_;go_simp;refine hK0 _ ?_;clear hK0 K0;refine wpQuiet_step (fun K0 hK0=>?_);refine quiet_val rfl _ (fun _ _=>rfl) ?_;go_simp;refine hK0 _ ?_;clear hK0 K0;refine wpQuiet_step (fun K0 hK0=>?_);refine quiet_val rfl (.bool true) (fun W _=>exec_bin rfl rfl rfl (fun _=>rfl) (eql_e1 W)) ?_;go_simp;refine hK0 _ ?_;clear hK0 K0;refine wpQuiet_step (fun K0 hK0=>?_);refine quiet_val rfl _ (fun _ _=>rfl) ?_;go_simp;refine hK0 _ ?_;clear hK0 K0;refine wpQuiet_step (fun K0 hK0=>?_);refine quiet_val rfl _ (fun _ _=>rfl) ?_;go_simp;refine hK0 _ ?_;clear hK0 K0;refine wpQuiet_step (fun K0 hK0=>?_);refine quiet_val rfl _ (fun _ _=>rfl) ?_;go_simp;refine hK0 _ ?_;clear hK0 K0;refine wpQuiet_step (fun K0 hK0=>?_);refine quiet_call rfl (.int .i64 K.s.steps) 19 #[.pointer (some ⟨A.g,0,none⟩)] (fun W hW=>exec_call1 enters19 rfl rfl) (fun W hW=>(steps_any A.g K.s W (HK.out.chg0 hW).chip).mono fun _ _ ⟨h1,h2⟩=>⟨h1,by rw[h2];exact hW⟩) ?_;go_simp;refine hK0 _ ?_;clear hK0 K0;refine wpQuiet_step (fun K0 hK0=>?_);refine quiet_val rfl _ (fun _ _=>rfl) ?_;go_simp;refine hK0 _ ?_;clear hK0 K0;refine wpQuiet_step (fun K0 hK0=>?_);refine quiet_val rfl (.bool true) (fun W _=>exec_bin rfl rfl rfl (fun _=>rfl) (eql_int W K.s.steps)) ?_;go_simp;refine hK0 _ ?_;clear hK0 K0;refine wpQuiet_step (fun K0 hK0=>?_);refine quiet_val rfl _ (fun _ _=>rfl) ?_;go_simp;refine hK0 _ ?_;clear hK0 K0;refine wpQuiet_step (fun K0 hK0=>?_);refine quiet_val rfl _ (fun _ _=>rfl) ?_;go_simp;refine hK0 _ ?_;clear hK0 K0;refine wpQuiet_step (fun K0 hK0=>?_);refine quiet_val rfl _ (fun _ _=>rfl) ?_;go_simp;refine hK0 _ ?_;clear hK0 K0;refine wpQuiet_step (fun K0 hK0=>?_);refine quiet_call rfl (.agg (ints (vwF K) 67).toArray) 13 #[.pointer (some ⟨A.c,0,none⟩)] (fun W hW=>exec_call1 enters13 rfl rfl) (fun W hW=>(EW A W K (HK.out.chg0 hW)).mono fun _ _ ⟨h1,_,h2⟩=>⟨h1,hW.trans h2⟩) ?_;go_simp;refine hK0 _ ?_;clear hK0 K0;refine wpQuiet_step (fun K0 hK0=>?_);refine quiet_val rfl (.agg (ints (vwF K) 67).toArray) (fun W hW=>exec_load_vw rfl rfl (HV.out.chg hW (fun f=>f))) ?_;go_simp;refine hK0 _ ?_;clear hK0 K0;refine wpQuiet_step (fun K0 hK0=>?_);refine quiet_val rfl (.bool true) (fun W _=>exec_eql_vw rfl rfl rfl) ?_;go_simp;refine hK0 _ ?_;clear hK0 K0;refine wpQuiet_step (fun K0 hK0=>?_);refine quiet_val rfl _ (fun _ _=>rfl) ?_;go_simp;refine hK0 _ ?_;clear hK0 K0;refine wpQuiet_step (fun K0 hK0=>?_);refine quiet_val rfl _ (fun _ _=>rfl) ?_;go_simp;refine hK0 _ ?_;clear hK0 K0;refine wpQuiet_step (fun K0 hK0=>?_);refine quiet_val rfl _ (fun _ _=>rfl) ?_;go_simp;refine hK0 _ ?_;clear hK0 K0;refine wpQuiet_step (fun K0 hK0=>?_);refine quiet_val rfl (.bool true) (fun W _=>exec_bin rfl rfl rfl (fun _=>rfl) (eql_nn W)) ?_;go_simp;refine hK0 _ ?_;clear hK0 K0;refine wpQuiet_step (fun K0 hK0=>?_);refine quiet_val rfl _ (fun _ _=>rfl) ?_;go_simp;refine hK0 _ ?_;clear hK0 K0;refine wpQuiet_step (fun K0 hK0=>?_);refine quiet_val rfl _ (fun _ _=>rfl) ?_;go_simp;refine hK0 _ ?_;clear hK0 K0;refine wpQuiet_step (fun K0 hK0=>?_);refine quiet_val rfl _ (fun _ _=>rfl) ?_;go_simp;refine hK0 _ ?_;clear hK0 K0;refine wpQuiet_step (fun K0 hK0=>?_);refine quiet_val rfl _ (fun _ _=>rfl) ?_;go_simp;refine hK0 _ ?_;clear hK0 K0;refine wpQuiet_step (fun K0 hK0=>?_);refine quiet_val rfl _ (fun _ _=>rfl) ?_;go_simp;refine hK0 _ ?_;clear hK0 K0;refine wpQuiet_step (fun K0 hK0=>?_);refine quiet_val rfl (.int .i64 (K.s.bl 0).reads) (fun W hW=>exec_load_int rfl rfl ((hW.cell HV.out.lt (fun f=>f) 40).trans HR0.out)) ?_;go_simp;refine hK0 _ ?_;clear hK0 K0;refine wpQuiet_step (fun K0 hK0=>?_);refine quiet_val rfl (.bool true) (fun W _=>exec_bin rfl rfl rfl (fun _=>rfl) (eql_int W (K.s.bl 0).reads)) ?_;go_simp;refine hK0 _ ?_;clear hK0 K0;refine wpQuiet_step (fun K0 hK0=>?_);refine quiet_val rfl _ (fun _ _=>rfl) ?_;go_simp;refine hK0 _ ?_;clear hK0 K0;refine wpQuiet_step (fun K0 hK0=>?_);refine quiet_val rfl _ (fun _ _=>rfl) ?_;go_simp;refine hK0 _ ?_;clear hK0 K0;refine wpQuiet_nil fun W hW=>?_;have HG3:=BE (HG.out.trans hW);clear hW;go_wp2;go_ret;exact⟨rfl,GQ HG3.out (fun k f=>f.elim) (AM _)⟩
end
end Go.Proofs.YtmdpnpjacfedpaaGreat
