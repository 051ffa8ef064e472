/-
  Lemmas.
-/
import Derived.Test.YtbhbilcieodbhaaGreatOm
import Derived.Test.YtbhbilcieodbhaaGreatP04
import Derived.Test.YtbhbilcieodbhaaGreatLPatrol
import Derived.Test.YtbhbilcieodbhaaGreatLHealth
import Derived.LaidEql
import Derived.Lib.IfaceEq
import Derived.Stop.Asserts
import Derived.RowKitTokens
set_option maxRecDepth 1000000
set_option maxHeartbeats 16000000
set_option linter.unusedSimpArgs false
namespace Go.Proofs.YtbhbilcieodbhaaGreat.AB
open List
open Go.Proofs.Tryz
open Go.RowKit
section
variable {w w':Wd}{b g n:Nat}{e:Value}{ops:Array Oper}{rest:List Oper}{o:Oper}{a:Act}{Q:Exit->Act->World->Prop}{f:Nat->Bool}{z:Int}{fn:Func}{q:Tmp}{ps:List (Nat × Nat)}
theorem VI(w:Wd)(v n:Nat)(_hv:v<18446744073709551616)(h1:1<=n)(h8:n<=8)(hr:¬ v<256 ^ n) :Calls prog 192 #[.int .u64 (v:Int),.int .i64 (n:Int)] w fun e w'=>e=.returned (.tuple #[.slice none 0 0,.iface 56 (.int .i64 2)])/\w'=w:=by
 have h1':¬ (n:Int)<1:=om
 have h8':¬ (8:Int)<(n:Int):=om
 have hsh:(0:Int)<=8*(n:Int):=om
 have hb:((v:Int) / 2 ^ (8*n) != 0)=true:=by
  rw[LN,bne_iff_ne];have:0<v / 256 ^ n:=Nat.div_pos om (Nat.pow_pos dc);omega
 clear hr;go_enter func192,ntmps192;go_wp2;go_ret2;exact⟨rfl,rfl⟩
theorem Gl(w:Wd):(binOp .neq 33 (.iface 56 (.int .i64 2)) .nilIface).run prog w=.ok (.bool true) w:=kr
structure Bp where
 F:Nat->Int
 N:Int
 B:Nat->Bool
 C:Int
 R:Nat->Int
 S:Nat->Int
def ckL (c:Bp):List Value:=ints c.F 24 ++ ([i6 c.N] ++ (bools c.B 12 ++ ([i6 c.C] ++ (ints c.R 12 ++ ints c.S 12))))
def ckA (c:Bp):Array Value:=(ckL c).toArray
theorem GC(c:Bp):(ckL c).length=62:=by simp[ckL,BD,BT]
theorem Cd(c:Bp):(ckA c).size=62:=by simp[ckA,GC]
theorem Zu(c:Bp):∀v ∈ ckL c,v.oneCell'=true:=by
 intro v hv;unfold ckL at hv;simp only[Am,mem_singleton] at hv;rcases hv with h | h | h | h | h | h
 ·exact CK _ _ v h
 ·subst h;rfl
 ·exact SJ _ _ v h
 ·subst h;rfl
 ·exact CK _ _ v h
 ·exact CK _ _ v h
theorem Qs(c:Bp):(ckA c).all (·.oneCell')=true:=all_oneCell_toArray (Zu c)
theorem Sd{c d:Bp}(hF:∀i,i<24->c.F i=d.F i)(hN:c.N=d.N)(hB:∀i,i<12->c.B i=d.B i)(hC:c.C=d.C)(hR:∀i,i<12->c.R i=d.R i)(hS:∀i,i<12->c.S i=d.S i):ckA c=ckA d:=by
 unfold ckA ckL;rw[Dh hF,hN,ND hB,hC,Dh hR,Dh hS]
def Ck (w:Wd) (b:Nat) (c:Bp):Prop:=w.heap[b]?=some (.cells (ckA c) 142)
theorem Ck.new(w:Wd)(c:Bp):Ck (w.alloc (.cells (ckA c) 142)) w.heap.size c:=by
 show (w.heap.push _)[w.heap.size]?=_;simp
theorem Ck.lt{c:Bp}(h:Ck w b c):b<w.heap.size:=(Array.getElem?_eq_some_iff.1 (show w.heap[b]?=some _ from h)).1
theorem Ck.chg{S:Nat->Prop}{c:Bp}(h:Ck w b c)(hc:Chg S w w')(hb:¬ S b):Ck w' b c:=(hc.block b h.lt hb).trans h
theorem Ck.alloc{c:Bp}(h:Ck w b c)(x:Obj):Ck (w.alloc x) b c:=(Below.heap_alloc _ _ _ h.lt).trans h
theorem Ck.frozen{c:Bp}(h:Ck w b c)(i:Nat):w.frozen? ⟨b,i,none⟩=false:=by
 have h':w.heap[b]?=some _:=h;simp[World.frozen?,h']
theorem Ck.cell{c:Bp}(h:Ck w b c)(i:Nat){v:Value}(hv:(ckL c)[i]?=some v):w.cell? ⟨b,i,none⟩=some v:=by
 have h':w.heap[b]?=some _:=h;simp only[World.cell?,h',ckA];simpa using hv
theorem b9(c:Bp)(i:Nat)(hi:i<24):(ckL c)[i]?=some (i6 (c.F i)):=by
 rw[ckL,Af (by rw[BD];omega),BM _ _ _ hi]
theorem jy(c:Bp):(ckL c)[24]?=some (i6 c.N):=by
 rw[ckL,Aa (by rw[BD];omega),BD];rfl
theorem cD(c:Bp)(i:Nat)(hi:i<12):(ckL c)[25+i]?=some (.bool (c.B i)):=by
 rw[ckL,Aa (by rw[BD];omega),BD,Aa (by simp;omega),show 25+i - 24 - [i6 c.N].length=i by simp;omega,Af (by rw[BT];omega),Di _ _ _ hi]
theorem jz(c:Bp):(ckL c)[37]?=some (i6 c.C):=by
 rw[ckL,Aa (by rw[BD];omega),BD,Aa (by simp),Aa (by simp[BT]),BT];rfl
theorem NS(c:Bp)(i:Nat):(ckL c)[38+i]?=(ints c.R 12 ++ ints c.S 12)[i]?:=by
 rw[ckL,Aa (by rw[BD];omega),BD,Aa (by simp;omega),Aa (by simp[BT];omega),BT,Aa (by simp;omega)];congr 1;simp;omega
theorem cE(c:Bp)(i:Nat)(hi:i<12):(ckL c)[38+i]?=some (i6 (c.R i)):=by
 rw[NS,Af (by rw[BD];omega),BM _ _ _ hi]
theorem cG(c:Bp)(i:Nat)(hi:i<12):(ckL c)[50+i]?=some (i6 (c.S i)):=by
 rw[show 50+i=38+(12+i) by omega,NS,Aa (by rw[BD];omega),BD,show 12+i - 12=i by omega,BM _ _ _ hi]
theorem Ck.F{c:Bp}(h:Ck w b c)(i:Nat)(hi:i<24):w.cell? ⟨b,i,none⟩=some (.int .i64 (c.F i)):=h.cell i (b9 c i hi)
theorem Ck.N{c:Bp}(h:Ck w b c):w.cell? ⟨b,24,none⟩=some (.int .i64 c.N):=h.cell 24 (jy c)
theorem Ck.B{c:Bp}(h:Ck w b c)(i:Nat)(hi:i<12):w.cell? ⟨b,25+i,none⟩=some (.bool (c.B i)):=h.cell (25+i) (cD c i hi)
theorem Ck.C{c:Bp}(h:Ck w b c):w.cell? ⟨b,37,none⟩=some (.int .i64 c.C):=h.cell 37 (jz c)
theorem Ck.R{c:Bp}(h:Ck w b c)(i:Nat)(hi:i<12):w.cell? ⟨b,38+i,none⟩=some (.int .i64 (c.R i)):=h.cell (38+i) (cE c i hi)
theorem Ck.S{c:Bp}(h:Ck w b c)(i:Nat)(hi:i<12):w.cell? ⟨b,50+i,none⟩=some (.int .i64 (c.S i)):=h.cell (50+i) (cG c i hi)
theorem Ck.set{c d:Bp}(h:Ck w b c)(i:Nat)(v:Value)(e:(ckL c).set i v=ckL d):Ck (w.setCell ⟨b,i,none⟩ v) b d:=by
 have h':w.heap[b]?=some _:=h;show (w.setCell ⟨b,i,none⟩ v).heap[b]?=_;have e2:(ckA c).setIfInBounds i v=ckA d:=by
  apply Array.ext';simp[ckA,e]
 simp[World.setCell,Ai,h',e2]
theorem Ck.setF{c:Bp}(h:Ck w b c)(i:Nat)(hi:i<24)(z:Int):Ck (w.setCell ⟨b,i,none⟩ (.int .i64 z)) b { c with F:=upd c.F i z }:=
 h.set i _ (by show (ckL c).set i (i6 z)=_;rw[ckL,set_append_left _ _ (by rw[BD];omega),Jb];rfl)
theorem Ck.setB{c:Bp}(h:Ck w b c)(i:Nat)(hi:i<12)(z:Bool):Ck (w.setCell ⟨b,25+i,none⟩ (.bool z)) b { c with B:=upd c.B i z }:=
 h.set (25+i) _ (by rw[ckL,Ap _ _ (by rw[BD];omega),BD,Ap _ _ (by simp;omega),show 25+i - 24 - [i6 c.N].length=i by simp;omega,set_append_left _ _ (by rw[BT];omega),SH];rfl)
theorem Ck.part{c:Bp}(h:Ck w b c)(o:Nat)(cs:List Value)(hs:∀j v,cs[j]?=some v->(ckL c)[o+j]?=some v):w.rangeAt b o cs:=fun j v hv=>h.cell (o+j) (hs j v hv)
theorem Ck.partF{c:Bp}(h:Ck w b c):w.rangeAt b 0 (ints c.F 24):=h.part 0 _ fun j v hv=>by
 have hj:j<24:=by have:=(List.getElem?_eq_some_iff.1 hv).1;rwa [BD] at this
 rw[AW,b9 c j hj,<-BM c.F 24 j hj,hv]
theorem Ck.partB{c:Bp}(h:Ck w b c):w.rangeAt b 25 (bools c.B 12):=h.part 25 _ fun j v hv=>by
 have hj:j<12:=by have:=(List.getElem?_eq_some_iff.1 hv).1;rwa [BT] at this
 rw[cD c j hj,<-Di c.B 12 j hj,hv]
theorem Ck.partR{c:Bp}(h:Ck w b c):w.rangeAt b 38 (ints c.R 12):=h.part 38 _ fun j v hv=>by
 have hj:j<12:=by have:=(List.getElem?_eq_some_iff.1 hv).1;rwa [BD] at this
 rw[cE c j hj,<-BM c.R 12 j hj,hv]
theorem Ck.partS{c:Bp}(h:Ck w b c):w.rangeAt b 50 (ints c.S 12):=h.part 50 _ fun j v hv=>by
 have hj:j<12:=by have:=(List.getElem?_eq_some_iff.1 hv).1;rwa [BD] at this
 rw[cG c j hj,<-BM c.S 12 j hj,hv]
theorem size26:(prog.info? 142).map (·.size)=some 62:=kr
theorem VJ:(prog.info? 116).map (·.size)=some 24:=kr
theorem Fy:(prog.info? 140).map (·.size)=some 12:=kr
theorem VK:(prog.info? 37).map (·.size)=some 12:=kr
theorem Bf(hgd:o.guard=none)(x:Operand)(ho:o.op=.load 142 x)(g:Nat)(hx:a.eval x=.pointer (some ⟨g,0,none⟩)){c:Bp}(hg:Ck w g c)(h:wpList prog ops Q rest (a.put o.dst (.agg (ckA c))) w):wpList prog ops Q (o :: rest) a w:=
 wpList_load_row hgd 142 x ho g hx 142 _ _ _ hg underlying142 rfl (by rw[Cd];exact size26) h
def ck0:Bp:=⟨fun _=>0,0,fun _=>false,0,fun _=>0,fun _=>0⟩
theorem Cf(hgd:o.guard=none)(x y:Operand)(ho:o.op=.store 142 x y)(g:Nat)(hx:a.eval x=.pointer (some ⟨g,0,none⟩)){c:Bp}(hy:a.eval y=.agg (ckA c)){c':Bp}(hg:Ck w g c')(h:∀w',Ck w' g c->Chg (·=g) w w'->wpList prog ops Q rest (a.put o.dst undef) w'):wpList prog ops Q (o :: rest) a w:=
 wpList_store_row hgd 142 x y ho g _ hx hy 142 _ hg (by rw[Cd];exact size26) (by rw[Cd,Cd]) (Qs c) (h _ (setRow_heap w g _ _ 142 _ hg) ⟨rfl,rfl,rfl,by simp,fun k _ hk=>setRow_other _ _ _ _ hk⟩)
theorem PN{u:Tmp}(h:fn.results=#[.cell q 142,.tmp u])(tmps:Array Value){c:Bp}(hp:tmps.getD q undef=.pointer (some ⟨g,0,none⟩))(hT:Ck w g c) :(results fn tmps).run prog w=.ok (.tuple #[.agg (ckA c),tmps.getD u undef]) w:=by
 rw[results_cell_tmp h,hp];simp[asAddr,run_loadVar_row w g 142 142 _ _ _ hT underlying142 rfl (by rw[Cd];exact size26)]
theorem NT(h:fn.results=#[.cell q 142])(tmps:Array Value){c:Bp}(hp:tmps.getD q undef=.pointer (some ⟨g,0,none⟩))(hT:Ck w g c) :(results fn tmps).run prog w=.ok (.agg (ckA c)) w:=
 results_cell_row h tmps w g 142 _ _ _ hp hT underlying142 rfl (by rw[Cd];exact size26)
theorem build26(w:Wd):(Instr.build 142 #[]).run prog w=.ok (.agg (ckA ck0)) w:=kr
theorem VL(w:Wd):(zeroValue 142).run prog w=.ok (.agg (ckA ck0)) w:=kr
theorem Cg(hgd:o.guard=none)(ho:o.op=.alloc 142)(h:wpList prog ops Q rest (a.put o.dst (.pointer (some ⟨w.heap.size,0,none⟩))) (w.alloc (.cells (ckA ck0) 142))):wpList prog ops Q (o :: rest) a w:=by
 refine wpList_plain hgd fun K hK=>?_;have hz:=VL;unfold Oper.wp;simp[execOp,ho,Instr.alloc,hz,newVar,Value.cells,newRow];exact hK _ _ h
theorem Ej(hgd:o.guard=none)(ho:o.op=.build 142 #[])(h:wpList prog ops Q rest (a.put o.dst (.agg (ckA ck0))) w):wpList prog ops Q (o :: rest) a w:=by
 refine wpList_plain hgd fun K hK=>?_;have hz:=build26;unfold Oper.wp;simp[execOp,ho,hz];exact hK _ _ h
def bitsN (f:Nat->Bool):Nat->Nat
 | 0=>0
 | n+1=>bitsN f n+(if f n then 2 ^ n else 0)
theorem Ji(f:Nat->Bool):∀n,bitsN f n<2 ^ n
 | 0=>by simp[bitsN]
 | n+1=>by
  have:=Ji f n
  rw[bitsN,Nat.pow_succ]
  split <;> omega
theorem NU(f:Nat->Bool):bitsN f 12<4096:=Ji f 12
theorem eP(a k:Nat)(h:a<2 ^ k):a ||| 2 ^ k=a+2 ^ k:=by
 have:=Nat.two_pow_add_eq_or_of_lt h 1;rw[Nat.mul_one] at this;rw[Nat.or_comm,<-this,Nat.add_comm]
theorem Zv(f:Nat->Bool)(i:Nat)(hi:i<12)(w:Wd):(Instr.index 140 (.agg (bools f 12).toArray) (.int .i64 i)).run prog w=.ok (.bool (f i)) w:=by
 have h:=Di f 12 i hi;generalize bools f 12=L at *
 simp[Instr.index,run_underlying underlying140,asIntOf,go_sem,hi,h]
theorem Zw(f:Nat->Int)(i:Nat)(hi:i<24)(w:Wd):(Instr.index 116 (.agg (ints f 24).toArray) (.int .i64 i)).run prog w=.ok (.int .i64 (f i)) w:=by
 have h:=BM f 24 i hi;generalize ints f 24=L at *
 simp[Instr.index,run_underlying underlying116,asIntOf,go_sem,hi,h,i6]
theorem Ip(f:Nat->Int)(i:Nat)(hi:i<12)(w:Wd):(Instr.index 37 (.agg (ints f 12).toArray) (.int .i64 i)).run prog w=.ok (.int .i64 (f i)) w:=by
 have h:=BM f 12 i hi;generalize ints f 12=L at *
 simp[Instr.index,run_underlying underlying37,asIntOf,go_sem,hi,h,i6]
def Bo (w:Wd) (b:Nat) (f:Nat->Bool):Prop:=w.heap[b]?=some (.cells (bools f 12).toArray 140)
theorem Bo.new(w:Wd)(f:Nat->Bool):Bo (w.alloc (.cells (bools f 12).toArray 140)) w.heap.size f:=by
 show (w.heap.push _)[w.heap.size]?=_;simp
theorem Bo.lt(h:Bo w b f):b<w.heap.size:=(Array.getElem?_eq_some_iff.1 (show w.heap[b]?=some _ from h)).1
theorem Bo.chg{S:Nat->Prop}(h:Bo w b f)(hc:Chg S w w')(hb:¬ S b):Bo w' b f:=(hc.block b h.lt hb).trans h
theorem Bo.cell(h:Bo w b f)(i:Nat)(hi:i<12):w.cell? ⟨b,i,none⟩=some (.bool (f i))/\w.frozen? ⟨b,i,none⟩=false:=by
 have h':w.heap[b]?=some _:=h;refine⟨?_,by simp[World.frozen?,h']⟩;simp only[World.cell?,h'];simpa using Di f 12 i hi
theorem PO(f:Nat->Bool):((bools f 12).toArray).size=12:=by simp[BT]
theorem Jj(hgd:o.guard=none)(x:Operand)(ho:o.op=.load 140 x)(g:Nat)(hx:a.eval x=.pointer (some ⟨g,0,none⟩))(hg:Bo w g f)(h:wpList prog ops Q rest (a.put o.dst (.agg (bools f 12).toArray)) w):wpList prog ops Q (o :: rest) a w:=
 wpList_load_row hgd 140 x ho g hx 140 _ _ _ hg underlying140 rfl (by rw[PO];exact Fy) h
theorem VM(w:Wd)(f:Nat->Bool) :Calls prog 163 #[.agg (bools f 12).toArray] w fun e w'=>e=.returned (.int .u64 (bitsN f 12:Nat))/\Chg No w w':=by
 have HB:=BB (Bo.new w f);have HG:Hid (Chg No w (w.alloc (.cells (bools f 12).toArray 140))):=BB ((Chg.refl _ w).alloc _);go_enter func163,ntmps163;go_wp2_with (refine Jj rfl (.tmp 1) rfl w.heap.size rfl HB.out ?_)
 go_loopw [3,7] (fun v t wr=>∃k:Nat,k<=12/\t=.int .i64 k/\v=.int .u64 (bitsN f k:Nat)/\Chg No w wr) (fun _ t _=>12 - (intOf t).toNat)
 case atStart=>exact⟨0,dc,rfl,rfl,HG.out⟩
 case round=>
  obtain⟨k,hk,rfl,rfl,hG⟩:=hrel;by_cases hlt:k<12
  ·have hlt':(k:Int)<12:=om;have hkb:(0:Int)<=(k:Int):=om;have hix:=Zv f k hlt;have hb:=Ji f k;have hp:2 ^ k<=2 ^ 11:=Nat.pow_le_pow_right dc om;cases hf:f k with
   | false=>
    rw[hf] at hix;have HE:Hid (bitsN f (k+1)=bitsN f k):=BB (by rw[bitsN,hf];rfl);go_wp2;exact⟨⟨k+1,om,by go_num,by rw[HE.out],hG⟩,by simp[intOf];omega⟩
   | true=>
    rw[hf] at hix;have HE:Hid (bitsN f (k+1)=bitsN f k ||| 2 ^ k):=BB (by rw[bitsN,hf,eP _ _ hb];rfl);have HO:Hid (bits .or .u64 (bitsN f k:Int) (IntKind.u64.wrap (2 ^ k))=(bitsN f k ||| 2 ^ k:Nat)):=by
     have e:(2 ^ k:Int)=((2 ^ k:Nat):Int):=(by push_cast;rfl);rw[e,Dg _ om,JN _ _ om om];rfl
    go_wp2;exact⟨⟨k+1,om,by go_num,by rw[HO.out,HE.out],hG⟩,by simp[intOf];omega⟩
  ·have e:k=12:=om;subst e;go_wp2;go_ret;exact⟨rfl,hG⟩
def cat:List (Nat × Nat)->List Nat
 | []=>[]
 | p :: r=>bts p.1 p.2 ++ cat r
def tot:List (Nat × Nat)->Nat
 | []=>0
 | p :: r=>p.2+tot r
def Jk (ps:List (Nat × Nat)):Prop:=∀p ∈ ps,p.1<256 ^ p.2
theorem DD:∀ps,(cat ps).length=tot ps
 | []=>rfl
 | p :: r=>by rw[cat,tot,AV,BE,DD r]
theorem Jl:∀ps qs,cat (ps ++ qs)=cat ps ++ cat qs
 | [],_=>rfl
 | p :: r,qs=>by rw[cons_append,cat,cat,Jl r,Aq]
theorem Dl:∀ps qs,tot (ps ++ qs)=tot ps+tot qs
 | [],_=>by simp[tot]
 | p :: r,qs=>by rw[cons_append,tot,tot,Dl r,Nat.add_assoc]
theorem VN(ps:List (Nat × Nat))(v z:Nat):cat (ps ++ [(v,z)])=cat ps ++ bts v z:=by rw[Jl];simp[cat]
theorem EN(ps:List (Nat × Nat))(v z:Nat):tot (ps ++ [(v,z)])=tot ps+z:=by rw[Dl];simp[tot]
theorem Hu(ps:List (Nat × Nat))(v z:Nat):Jk (ps ++ [(v,z)])<->Jk ps/\v<256 ^ z:=by
 constructor
 ·intro h;exact⟨fun p hp=>h p (by simp[hp]),h (v,z) (by simp)⟩
 ·rintro ⟨h1,h2⟩ p hp;rcases mem_append.1 hp with h | h
  ·exact h1 p h
  ·rw[mem_singleton] at h;subst h;exact h2
def Ia (ps:List (Nat × Nat)):List Nat:=cat ps ++ List.replicate (174 - tot ps) 0
theorem IM(ps:List (Nat × Nat))(h:tot ps<=174):(Ia ps).length=174:=by simp[Ia,DD];omega
theorem VO(ps:List (Nat × Nat))(v z:Nat)(h:tot ps+z<=174):lay (Ia ps) (tot ps) (bts v z)=Ia (ps ++ [(v,z)]):=by
 unfold lay Ia;rw[BE,VN,EN,take_append_of_le_length (by rw[DD];omega),As (by rw[DD];omega),drop_append,drop_of_length_le (by rw[DD];omega),A6,DD,drop_replicate,Aq];congr 3;omega
def Wr (w:Wd) (b g n:Nat) (e:Value):Prop:=
 w.heap[b]?=some (.cells #[.slice (some ⟨g,0,none⟩) n 174,e] 210)
theorem Wr.lt(h:Wr w b g n e):b<w.heap.size:=(Array.getElem?_eq_some_iff.1 (show w.heap[b]?=some _ from h)).1
theorem Wr.other(h:Wr w b g n e)(k:w'.heap[b]?=w.heap[b]?):Wr w' b g n e:=k.trans h
theorem Wr.chg{S:Nat->Prop}(h:Wr w b g n e)(hc:Chg S w w')(hb:¬ S b):Wr w' b g n e:=(hc.block b h.lt hb).trans h
theorem Wr.cells(h:Wr w b g n e):w.cell? ⟨b,0,none⟩=some (.slice (some ⟨g,0,none⟩) n 174)/\w.cell? ⟨b,1,none⟩=some e/\w.frozen? ⟨b,0,none⟩=false/\w.frozen? ⟨b,1,none⟩=false:=by
 have h':w.heap[b]?=some _:=h;refine⟨?_,?_,?_,?_⟩ <;> simp[World.cell?,World.frozen?,h']
theorem Wr.store(h:Wr w b g n e)(m:Nat):Wr (w.setCell ⟨b,0,none⟩ (.slice (some ⟨g,0,none⟩) m 174)) b g m e:=by
 have h':w.heap[b]?=some _:=h;show (w.setCell ⟨b,0,none⟩ _).heap[b]?=_;simp[World.setCell,Ai,h']
theorem Wr.err(h:Wr w b g n e)(e':Value):Wr (w.setCell ⟨b,1,none⟩ e') b g n e':=by
 have h':w.heap[b]?=some _:=h;show (w.setCell ⟨b,1,none⟩ _).heap[b]?=_;simp[World.setCell,Ai,h']
def NV (w:Wd) (b g:Nat) (ps:List (Nat × Nat)):Prop:=
 b≠g/\((Jk ps/\Wr w b g (tot ps) .nilIface/\Arr w g 5 (Ia ps))\/(¬ Jk ps/\∃n,Wr w b g n (.iface 56 (.int .i64 2))))
theorem NV.lt(h:NV w b g ps):b<w.heap.size:=by
 rcases h.2 with ⟨_,h,_⟩ | ⟨_,n,h⟩ <;> exact h.lt
theorem NV.chg{S:Nat->Prop}(h:NV w b g ps)(hc:Chg S w w')(hb:¬ S b)(hg:¬ S g):NV w' b g ps:=by
 refine⟨h.1,?_⟩;rcases h.2 with ⟨h1,h2,h3⟩ | ⟨h1,n,h2⟩
 ·exact AK ⟨h1,h2.chg hc hb,h3.chg hc hg⟩
 ·exact AL ⟨h1,n,h2.chg hc hb⟩
theorem Il(w:Wd)(b g:Nat)(ps:List (Nat × Nat))(hW:NV w b g ps)(v z:Nat)(hv:v<18446744073709551616)(hz1:1<=z)(hz8:z<=8)(hn:tot ps+z<=174) :Calls prog 162 #[.pointer (some ⟨b,0,none⟩),.int .u64 (v:Int),.int .i64 (z:Int)] w fun e w'=>e=.returned (.tuple #[])/\NV w' b g (ps ++ [(v,z)])/\Chg (fun k=>k=b\/k=g) w w':=by
 obtain⟨hbg,hW⟩:=hW;have q1:=BJ;have q2:=Gl;rcases hW with ⟨hf,hR,hA⟩ | ⟨hf,n,hR⟩
 ·by_cases hr:v<256 ^ z
  ·have HW:=BB hR;have HA:=BB hA;have hcall:=Me w v z hv hz1 hz8 hr;have HF:Hid (Jk (ps ++ [(v,z)])):=BB ((Hu _ _ _).2 ⟨hf,hr⟩);have HL:=BB (IM ps om);obtain⟨i0,i1,-,-⟩:=hR.cells;clear hR hA hr hf;go_enter func162,ntmps162;go_wp2_with fail;refine hcall.mono ?_;rintro e w1 ⟨g1,rfl,hg1,A1,G1⟩;clear hcall i0 i1;have W1:=HW.out.chg G1 (fun e=>e);have B1:=HA.out.chg G1 (fun e=>e);obtain⟨k0,k1,-,-⟩:=W1.cells;have hsrc:Hid (∀j,j<(bts v z).length->w1.cell? ⟨g1,0+j,none⟩=some (.int .u8 ((bts v z).getD j 0:Nat))):=BB (fun j hj=>by
    rw[BE] at hj
    rw[AW,A1.cell j (by rw[BE];omega),GT _ _ _ hj,GT _ _ _ om])
   have HB1:=BB B1;have W2:Wr (w1.setRow g (bcells (lay (Ia ps) (tot ps) (bts v z)))) b g (tot ps) .nilIface:=W1.other (setRow_other _ _ _ _ hbg);have A2:Arr (w1.setRow g (bcells (lay (Ia ps) (tot ps) (bts v z)))) g 5 (Ia (ps ++ [(v,z)])):=by
    have:=B1.row (lay (Ia ps) (tot ps) (bts v z))
    rwa [VO ps v z hn] at this ⊢
   have G2:Chg (fun k=>k=b\/k=g) w (w1.setRow g (bcells (lay (Ia ps) (tot ps) (bts v z)))):=(G1.mono (fun _ _ f=>f.elim)).setRow (AK (AL rfl)) _;obtain⟨j0,-,f0,-⟩:=W2.cells;have HW2:=BB W2;have HA2:=BB A2;have HG2:=BB G2;have HT:=BB (EN ps v z);clear W1 B1 A1 G1 W2 A2 G2;go_wp2_with (at_builtin;refine Dx rfl (.tmp 29) (.tmp 30) rfl g (tot ps) 174 g1 0 z z rfl rfl HB1.out (bts v z) (BE v z) hsrc.out hn (by rw[HL.out];exact hn) ?_);go_end0;refine⟨rfl,⟨hbg,AK ⟨HF.out,?_,HA2.out.setOther hbg _ _⟩⟩,HG2.out.setCell (AK (AK rfl)) _ _⟩;rw[HT.out];exact HW2.out.store _
  ·have HW:=BB hR;have hcall:=VI w v z hv hz1 hz8 hr;have HF:Hid (¬ Jk (ps ++ [(v,z)])):=BB (fun h=>hr ((Hu _ _ _).1 h).2);obtain⟨i0,i1,i2,i3⟩:=hR.cells;clear hR hA hr hf;go_enter func162,ntmps162;go_wp2_with fail;refine hcall.mono ?_;rintro e w1 ⟨rfl,rfl⟩;clear hcall;go_wp2;refine AZ (results_none rfl _ _ _) rfl ?_;exact⟨rfl,⟨hbg,AL ⟨HF.out,_,HW.out.err _⟩⟩,(Chg.refl _ _).setCell (AK (AK rfl)) _ _⟩
 ·have HW:=BB hR;have HF:Hid (¬ Jk (ps ++ [(v,z)])):=BB (fun h=>hf ((Hu _ _ _).1 h).1);obtain⟨i0,i1,i2,i3⟩:=hR.cells;clear hR hf;go_enter func162,ntmps162;go_wp2;refine AZ (results_none rfl _ _ _) rfl ?_;exact⟨rfl,⟨hbg,AL ⟨HF.out,_,HW.out⟩⟩,Chg.refl _ _⟩
def u6 (z:Int):Nat:=(IntKind.u64.wrap z).toNat
theorem VP(z:Int):((u6 z:Nat):Int)=IntKind.u64.wrap z:=by
 unfold u6;rw[IntKind.wrap_u64];omega
theorem j7(z:Int):u6 z<18446744073709551616:=by
 unfold u6;rw[IntKind.wrap_u64];omega
theorem NW(w:Wd)(b g:Nat)(ps:List (Nat × Nat))(hW:NV w b g ps)(z:Int)(s:Nat)(hz1:1<=s)(hz8:s<=8)(hn:tot ps+s<=174) :Calls prog 162 #[.pointer (some ⟨b,0,none⟩),.int .u64 (IntKind.u64.wrap z),.int .i64 (s:Int)] w fun e w'=>e=.returned (.tuple #[])/\NV w' b g (ps ++ [(u6 z,s)])/\Chg (fun k=>k=b\/k=g) w w':=by
 have:=Il w b g ps hW (u6 z) s (j7 z) hz1 hz8 hn
 rwa [VP] at this
def fl (f:Nat->Int) (n s:Nat):List (Nat × Nat):=(List.range n).map fun i=>(u6 (f i),s)
theorem Iq(f:Nat->Int)(n s:Nat):fl f (n+1) s=fl f n s ++ [(u6 (f n),s)]:=by simp[fl,range_succ]
theorem FC(f:Nat->Int)(s:Nat):∀n,tot (fl f n s)=n*s
 | 0=>by simp[fl,tot]
 | n+1=>by rw[Iq,EN,FC f s n,Nat.add_mul,Nat.one_mul]
def FD (c:Bp):Nat->List (Nat × Nat)
 | 0=>[]
 | 1=>fl c.F 24 5
 | 2=>fl c.F 24 5 ++ [(u6 c.N,5)]
 | 3=>fl c.F 24 5 ++ [(u6 c.N,5)] ++ [(bitsN c.B 12,2)]
 | 4=>fl c.F 24 5 ++ [(u6 c.N,5)] ++ [(bitsN c.B 12,2)] ++ [(u6 c.C,1)]
 | 5=>fl c.F 24 5 ++ [(u6 c.N,5)] ++ [(bitsN c.B 12,2)] ++ [(u6 c.C,1)] ++ fl c.R 12 2
 | _=>fl c.F 24 5 ++ [(u6 c.N,5)] ++ [(bitsN c.B 12,2)] ++ [(u6 c.C,1)] ++ fl c.R 12 2 ++ fl c.S 12 1
theorem Jm(c:Bp):tot (FD c 1)=120/\tot (FD c 2)=125/\tot (FD c 3)=127/\tot (FD c 4)=128/\tot (FD c 5)=152/\tot (FD c 6)=164:=by
 refine⟨?_,?_,?_,?_,?_,?_⟩ <;> simp[FD,Dl,FC,tot]
theorem NX(w:Wd)(b g:Nat)(c:Bp)(hW:NV w b g [])(hg:g<w.heap.size) :Calls prog 130 #[.pointer (some ⟨b,0,none⟩),.agg (ckA c)] w fun e w'=>e=.returned (.tuple #[])/\NV w' b g (FD c 6)/\Chg (fun k=>k=b\/k=g) w w':=by
 have hb:=hW.lt;have hbs:¬ (w.heap.size=b\/w.heap.size=g):=om
 have HK:=BB (Ck.new w c);have HG:Hid (Chg (fun k=>k=b\/k=g) w (w.alloc (.cells (ckA c) 142))):=BB ((Chg.refl _ w).alloc _);have HW:Hid (NV (w.alloc (.cells (ckA c) 142)) b g []):=BB (hW.chg (S:=fun _=>False) ((Chg.refl _ w).alloc _) (fun e=>e) (fun e=>e));have r1:=HK.out.partF;obtain⟨t1,t2,t3,t4,t5,t6⟩:=Jm c;have HT:=BB (And.intro t1 (And.intro t2 (And.intro t3 (And.intro t4 (And.intro t5 t6)))));have S22:Hid ((prog.info? 116).map (·.size)=some (ints c.F 24).length):=by rw[BD];exact VJ
 have S23:Hid ((prog.info? 140).map (·.size)=some (bools c.B 12).length):=by rw[BT];exact Fy
 have S24:Hid ((prog.info? 37).map (·.size)=some (ints c.R 12).length):=by rw[BD];exact VK
 have S25:Hid ((prog.info? 37).map (·.size)=some (ints c.S 12).length):=by rw[BD];exact VK
 clear hW t1 t2 t3 t4 t5 t6;go_enter func130,ntmps130;go_wp2_with (refine wpList_load_mid rfl 116 (.tmp 10) rfl w.heap.size 0 rfl _ _ r1 underlying116 rfl S22.out ?_);clear r1
 go_loopw [12] (fun t wr=>∃k:Nat,k<=24/\t=.int .i64 k/\NV wr b g (fl c.F k 5)/\Ck wr w.heap.size c/\Chg (fun k=>k=b\/k=g) w wr) (fun t _=>24 - (intOf t).toNat)
 case atStart=>exact⟨0,dc,rfl,HW.out,HK.out,HG.out⟩
 case round=>
  clear HW HK HG;obtain⟨k,hk,rfl,a1,a2,a3⟩:=hrel;by_cases hlt:k<24
  ·have hlt':(k:Int)<24:=om;have hkb:(0:Int)<=(k:Int):=om;have hix:=Zw c.F k hlt;have hcall:=NW wr b g _ a1 (c.F k) 5 dc dc (by rw[FC];omega);have HK:=BB a2;have HG:=BB a3;clear a1 a2 a3;go_wp2_with fail;refine hcall.mono ?_;rintro e w2 ⟨rfl,W2,G2⟩;have HW2:=BB W2;have HK2:=BB (HK.out.chg G2 hbs);have HG2:=BB (HG.out.trans G2);clear hcall W2 G2 HK HG;go_wp2;exact⟨⟨k+1,om,by go_num,by rw[Iq];exact HW2.out,HK2.out,HG2.out⟩,by simp[intOf];omega⟩
  ·have e:k=24:=om;subst e;have hcall:=NW wr b g _ a1 c.N 5 dc dc (by rw[FC];omega);have k1:=a2.N;have HK:=BB a2;have HG:=BB a3;clear a1 a2 a3;go_wp2_with fail;refine hcall.mono ?_;rintro e w2 ⟨rfl,W2,G2⟩;have K2:=HK.out.chg G2 hbs;have HG2:=BB (HG.out.trans G2);have r2:=K2.partB;have HW2:=BB W2;have HK2:=BB K2;have hcall:=VM w2 c.B;clear W2 G2 HK HG K2 k1;go_wp2_with (refine wpList_load_mid rfl 140 (.tmp 26) rfl w.heap.size 25 rfl _ _ r2 underlying140 rfl S23.out ?_);refine hcall.mono ?_;rintro e w3 ⟨rfl,G3⟩;have W3:=HW2.out.chg G3 (fun e=>e) (fun e=>e);have HK3:=BB (HK2.out.chg G3 (fun e=>e));have HG3:=BB (HG2.out.trans (G3.mono (fun _ _ f=>f.elim)));have hcall:=Il w3 b g _ W3 (bitsN c.B 12) 2 (by have:=NU c.B;omega) dc dc (by rw[EN,FC];omega);clear W3 G3 HK2 HG2 HW2 r2;go_wp2_with fail;refine hcall.mono ?_;rintro e w4 ⟨rfl,W4,G4⟩;have K4:=HK3.out.chg G4 hbs;have HG4:=BB (HG3.out.trans G4);have k1:=K4.C;have hcall:=NW w4 b g _ W4 c.C 1 dc dc (by rw[EN,EN,FC];omega);have HK4:=BB K4;clear W4 G4 HK3 HG3 K4;go_wp2_with fail;refine hcall.mono ?_;rintro e w5 ⟨rfl,W5,G5⟩;have K5:=HK4.out.chg G5 hbs;have HG5:=BB (HG4.out.trans G5);have r3:=K5.partR;have HK5:=BB K5;have HW5:Hid (NV w5 b g (FD c 4)):=BB W5;clear W5 G5 HK4 HG4 K5 hcall k1;go_wp2_with (refine wpList_load_mid rfl 37 (.tmp 35) rfl w.heap.size 38 rfl _ _ r3 underlying37 rfl S24.out ?_);clear r3
   go_loopw [37] (fun t wr=>∃k:Nat,k<=12/\t=.int .i64 k/\NV wr b g (FD c 4 ++ fl c.R k 2)/\Ck wr w.heap.size c/\Chg (fun k=>k=b\/k=g) w wr) (fun t _=>12 - (intOf t).toNat)
   case atStart=>exact⟨0,dc,rfl,by simpa[fl] using HW5.out,HK5.out,HG5.out⟩
   case round=>
    clear HW5 HK5 HG5;obtain⟨k,hk,rfl,a1,a2,a3⟩:=hrel;by_cases hlt:k<12
    ·have hlt':(k:Int)<12:=om;have hkb:(0:Int)<=(k:Int):=om;have hix:=Ip c.R k hlt;have hcall:=NW _ b g _ a1 (c.R k) 2 dc dc (by rw[Dl,FC,HT.out.2.2.2.1];omega);have HK:=BB a2;have HG:=BB a3;clear a1 a2 a3;go_wp2_with fail;refine hcall.mono ?_;rintro e w2 ⟨rfl,W2,G2⟩;have HW2:=BB W2;have HK2:=BB (HK.out.chg G2 hbs);have HG2:=BB (HG.out.trans G2);clear hcall W2 G2 HK HG;go_wp2;exact⟨⟨k+1,om,by go_num,by rw[Iq,<-Aq];exact HW2.out,HK2.out,HG2.out⟩,by simp[intOf];omega⟩
    ·have e:k=12:=om;subst e;have r4:=a2.partS;have HK5:=BB a2;have HG5:=BB a3;have HW5:=BB a1;clear a1 a2 a3;go_wp2_with (refine wpList_load_mid rfl 37 (.tmp 45) rfl w.heap.size 50 rfl _ _ r4 underlying37 rfl S25.out ?_);clear r4
     go_loopw [47] (fun t wr=>∃k:Nat,k<=12/\t=.int .i64 k/\NV wr b g (FD c 5 ++ fl c.S k 1)/\Ck wr w.heap.size c/\Chg (fun k=>k=b\/k=g) w wr) (fun t _=>12 - (intOf t).toNat)
     case atStart=>exact⟨0,dc,rfl,by rw[show fl c.S 0 1=[] from rfl,append_nil];exact HW5.out,HK5.out,HG5.out⟩
     case round=>
      clear HW5 HK5 HG5;obtain⟨k,hk,rfl,a1,a2,a3⟩:=hrel;by_cases hlt:k<12
      ·have hlt':(k:Int)<12:=om;have hkb:(0:Int)<=(k:Int):=om;have hix:=Ip c.S k hlt;have hcall:=NW _ b g _ a1 (c.S k) 1 dc dc (by rw[Dl,FC,HT.out.2.2.2.2.1];omega);have HK:=BB a2;have HG:=BB a3;clear a1 a2 a3;go_wp2_with fail;refine hcall.mono ?_;rintro e w2 ⟨rfl,W2,G2⟩;have HW2:=BB W2;have HK2:=BB (HK.out.chg G2 hbs);have HG2:=BB (HG.out.trans G2);clear hcall W2 G2 HK HG;go_wp2;exact⟨⟨k+1,om,by go_num,by rw[Iq,<-Aq];exact HW2.out,HK2.out,HG2.out⟩,by simp[intOf];omega⟩
      ·have e:k=12:=om;subst e;have HG5:=BB a3;have HW5:=BB a1;clear a1 a2 a3;go_wp2;go_end0;exact⟨rfl,HW5.out,HG5.out⟩
def VQ (c:Bp):Prop:=c.C<96/\Jk (FD c 6)
def Ir (c:Bp):List Nat:=Ia (FD c 6)
theorem Cn(c:Bp):(Ir c).length=174:=IM _ (by rw[(Jm c).2.2.2.2.2];decide)
def wst0 (w:Wd) (c:Bp):World:=((w.alloc (.cells (ckA c) 142)).alloc (.cells (bcells EF) 5)).alloc (.cells #[.slice (some ⟨w.heap.size+1,0,none⟩) 0 174,.nilIface] 210)
theorem Qu(w:Wd)(c:Bp):NV (wst0 w c) (w.heap.size+1+1) (w.heap.size+1) []/\Chg No w (wst0 w c)/\w.heap.size+1<(wst0 w c).heap.size:=by
 have A0:=Arr.new (w.alloc (.cells (ckA c) 142)) 5 EF;have e0:(w.alloc (.cells (ckA c) 142)).heap.size=w.heap.size+1:=by simp
 rw[e0] at A0;have hN:=heap_alloc_new ((w.alloc (.cells (ckA c) 142)).alloc (.cells (bcells EF) 5)) (.cells #[.slice (some ⟨w.heap.size+1,0,none⟩) 0 174,.nilIface] 210);have e1:((w.alloc (.cells (ckA c) 142)).alloc (.cells (bcells EF) 5)).heap.size=w.heap.size+1+1:=by simp
 rw[e1] at hN;refine⟨⟨om,AK ⟨(fun p hp=>absurd hp (by simp)),hN,?_⟩⟩,(((Chg.refl _ w).alloc _).alloc _).alloc _,by simp[wst0]⟩;exact A0.alloc _
theorem Qv:∀ps,Bys (cat ps)
 | []=>fun n hn=>by cases hn
 | p :: r=>fun n hn=>(mem_append.1 hn).elim (CB _ _ n) (Qv r n)
theorem Ec(c:Bp):Bys (Ir c):=fun n hn=>(mem_append.1 hn).elim (Qv _ n) (fun h=>by rw[(mem_replicate.1 h).2];decide)
theorem j8(w:Wd)(c:Bp)(h:¬ VQ c) :Calls prog 96 #[.agg (ckA c)] w fun e w'=>e=.returned (.tuple #[.slice none 0 0,.iface 56 (.int .i64 1)])/\Chg No w w':=by
 have K0:=Ck.new w c;have G0:Chg No w (w.alloc (.cells (ckA c) 142)):=(Chg.refl _ w).alloc _;have k1:=K0.C;by_cases hC:c.C<96
 ·have HF:Hid (¬ Jk (FD c 6)):=BB (fun e=>h ⟨hC,e⟩);have hC':¬ (96:Int)<=c.C:=om
  have hm:=He;have q1:=Gl;have HK:=BB K0;have HG:=BB G0;clear h hC K0 G0;go_enter func96,ntmps96;go_wp2_with (refine Bf rfl (.tmp 1) rfl w.heap.size rfl ((HK.out.alloc _).alloc _) ?_);have hs:=Qu w c
  change Calls prog 130 _ (wst0 w c) _;generalize wst0 w c=w0 at *
  obtain⟨W0,G0,hlt⟩:=hs;refine(NX w0 _ _ c W0 hlt).mono ?_;rintro e w1 ⟨rfl,W1,G1⟩;have HG1:Hid (Chg No w w1):=BB (G0.trans' G1 (fun i hi hh=>om));obtain⟨n,hR⟩:∃n,Wr w1 (w.heap.size+1+1) (w.heap.size+1) n (.iface 56 (.int .i64 2)):=by
   rcases W1.2 with ⟨hf,_⟩ | ⟨_,hn⟩
   ·exact absurd hf HF.out
   ·exact hn
  obtain⟨j0,j1,-,-⟩:=hR.cells;clear W0 G0 hlt W1 G1 hR HK HG k1;go_wp2;go_ret2;exact⟨rfl,HG1.out⟩
 ·have hC':(96:Int)<=c.C:=om
  have HG:=BB G0;clear h K0 G0 hC;go_enter func96,ntmps96;go_wp2;go_ret2;exact⟨rfl,HG.out⟩
theorem Kk(w:Wd)(c:Bp)(h:VQ c) :Calls prog 96 #[.agg (ckA c)] w fun e w'=>∃g,e=.returned (.tuple #[.slice (some ⟨g,0,none⟩) 174 174,.nilIface])/\w.heap.size<=g/\Arr w' g 5 (Ir c)/\Chg No w w':=by
 have K0:=Ck.new w c;have k1:=K0.C;have hC':¬ (96:Int)<=c.C:=by have:=h.1;omega
 have HF:Hid (Jk (FD c 6)):=BB h.2;have hm:=He;have q1:=BJ;have HK:=BB K0;clear h K0;go_enter func96,ntmps96;go_wp2_with (refine Bf rfl (.tmp 1) rfl w.heap.size rfl ((HK.out.alloc _).alloc _) ?_);have hs:=Qu w c
 change Calls prog 130 _ (wst0 w c) _;generalize wst0 w c=w0 at *
 obtain⟨W0,G0,hlt⟩:=hs;refine(NX w0 _ _ c W0 hlt).mono ?_;rintro e w1 ⟨rfl,W1,G1⟩;have HG1:Hid (Chg No w w1):=BB (G0.trans' G1 (fun i hi hh=>om));obtain⟨hR,hA⟩:Wr w1 (w.heap.size+1+1) (w.heap.size+1) 164 .nilIface/\Arr w1 (w.heap.size+1) 5 (Ir c):=by
  rcases W1.2 with ⟨_,h1,h2⟩ | ⟨hf,_⟩
  ·rw[(Jm c).2.2.2.2.2] at h1;exact⟨h1,h2⟩
  ·exact absurd HF.out hf
 obtain⟨j0,j1,-,-⟩:=hR.cells;have HA:=BB hA;clear W0 G0 hlt W1 G1 hR HK k1 hA;go_wp2;go_ret2;exact⟨_,rfl,om,HA.out,HG1.out⟩
def part (l:List Nat) (a z k i:Nat):Int:=if i<k then (BS l (a+z*i) z:Nat) else 0
structure lG (c:Bp):Prop where
 F:∀i,i<24->-9223372036854775808<=c.F i/\c.F i<=9223372036854775807
 N : -9223372036854775808<=c.N/\c.N<=9223372036854775807
 C : -9223372036854775808<=c.C/\c.C<=9223372036854775807
 R:∀i,i<12->-9223372036854775808<=c.R i/\c.R i<=9223372036854775807
 S:∀i,i<12->-9223372036854775808<=c.S i/\c.S i<=9223372036854775807
structure Zx (c:Bp):Prop where
 F:∀i,i<24->0<=c.F i/\c.F i<=1099511627775
 N:0<=c.N/\c.N<=1099511627775
 C:0<=c.C/\c.C<=95
 R:∀i,i<12->0<=c.R i/\c.R i<=65535
 S:∀i,i<12->0<=c.S i/\c.S i<=255
theorem j9(h:0<=z)(h2:z<18446744073709551616):((u6 z:Nat):Int)=z:=by
 rw[VP,IntKind.wrap_u64];omega
theorem eQ(h : -9223372036854775808<=z)(h2:z<0):9223372036854775808<=u6 z:=by
 have:=VP z;rw[IntKind.wrap_u64] at this;omega
theorem EO{c:Bp}{p:Nat × Nat}:p ∈ FD c 6<->(∃i,i<24/\p=(u6 (c.F i),5))\/p=(u6 c.N,5)\/p=(bitsN c.B 12,2)\/p=(u6 c.C,1)\/(∃i,i<12/\p=(u6 (c.R i),2))\/∃i,i<12/\p=(u6 (c.S i),1):=by
 show p ∈ fl c.F 24 5 ++ [(u6 c.N,5)] ++ [(bitsN c.B 12,2)] ++ [(u6 c.C,1)] ++ fl c.R 12 2 ++ fl c.S 12 1<->_;have e:∀(f:Nat->Int) (n s:Nat),p ∈ fl f n s<->∃i,i<n/\p=(u6 (f i),s):=by
  intro f n s;simp only[fl,mem_map,mem_range];constructor
  ·rintro ⟨i,h1,h2⟩;exact⟨i,h1,h2.symm⟩
  ·rintro ⟨i,h1,h2⟩;exact⟨i,h1,h2.symm⟩
 simp only[Am,mem_singleton,e];simp only[or_assoc]
theorem VR(c:Bp):Jk (FD c 6)<->(∀i,i<24->u6 (c.F i)<1099511627776)/\u6 c.N<1099511627776/\u6 c.C<256/\(∀i,i<12->u6 (c.R i)<65536)/\∀i,i<12->u6 (c.S i)<256:=by
 constructor
 ·intro h;exact⟨fun i hi=>h (_,5) (EO.2 (AK ⟨i,hi,rfl⟩)),h (_,5) (EO.2 (AL (AK rfl))),h (_,1) (EO.2 (AL (AL (AL (AK rfl))))),fun i hi=>h (_,2) (EO.2 (AL (AL (AL (AL (AK ⟨i,hi,rfl⟩)))))),fun i hi=>h (_,1) (EO.2 (AL (AL (AL (AL (AL ⟨i,hi,rfl⟩))))))⟩
 ·rintro ⟨h1,h2,h3,h4,h5⟩ p hp;rcases EO.1 hp with ⟨i,hi,rfl⟩ | rfl | rfl | rfl | ⟨i,hi,rfl⟩ | ⟨i,hi,rfl⟩
  ·exact h1 i hi
  ·exact h2
  ·have:=NU c.B;show bitsN c.B 12<65536;omega
  ·exact h3
  ·exact h4 i hi
  ·exact h5 i hi
theorem Ce(h : -9223372036854775808<=z/\z<=9223372036854775807)(m:Nat)(hm:m<=9223372036854775808):u6 z<m<->0<=z/\z<m:=by
 by_cases h0:0<=z
 ·have:=j9 h0 om;omega
 ·have:=eQ h.1 om;omega
theorem Qw(c:Bp)(hw:lG c):VQ c<->Zx c:=by
 unfold VQ;rw[VR];constructor
 ·rintro ⟨h0,h1,h2,h3,h4,h5⟩;refine⟨fun i hi=>?_,?_,?_,fun i hi=>?_,fun i hi=>?_⟩
  ·have:=(Ce (hw.F i hi) 1099511627776 dc).1 (h1 i hi);omega
  ·have:=(Ce hw.N 1099511627776 dc).1 h2;omega
  ·have:=(Ce hw.C 256 dc).1 h3;omega
  ·have:=(Ce (hw.R i hi) 65536 dc).1 (h4 i hi);omega
  ·have:=(Ce (hw.S i hi) 256 dc).1 (h5 i hi);omega
 ·intro h;refine⟨by have:=h.C;omega,fun i hi=>?_,?_,?_,fun i hi=>?_,fun i hi=>?_⟩
  ·exact(Ce (hw.F i hi) 1099511627776 dc).2 (by have:=h.F i hi;omega)
  ·exact(Ce hw.N 1099511627776 dc).2 (by have:=h.N;omega)
  ·exact(Ce hw.C 256 dc).2 (by have:=h.C;omega)
  ·exact(Ce (hw.R i hi) 65536 dc).2 (by have:=h.R i hi;omega)
  ·exact(Ce (hw.S i hi) 256 dc).2 (by have:=h.S i hi;omega)
end
end Go.Proofs.YtbhbilcieodbhaaGreat.AB
namespace Go.Proofs.YtbhbilcieodbhaaGreat
open List
open Go.Proofs.Tryz
open Go.RowKit
section
variable {tl:List Nat->Int->Pg}{s s':BG}{r r':Int}
structure BC where
 s:BG
 r:Int
 F:Nat->Int
 L:Nat->Int
 vs:Nat->Nat
 vc:Nat->Nat
 fl:Nat->Int
 nx:Nat
 sp:Bool
 fr:AC.St
 cu:Nat
 ca:Nat
 qu:List Int
 hR:Nat->Int
 hN:Nat->Int
 hS:Nat->Int
 dd:Bool
 rp:Int
 md:Int
 mv:Int
 tl:List Nat->Int->Pg
structure Bu where
 p:Nat
 o:Nat
 q:Nat
 c:Nat
 l:Bool
def DX:Nat:=1099511627775
def rdF (tl:List Nat->Int->Pg) (s:BG) (r:Int) (a:Int):BG × Int × Pg × Nat:=
 if (readV s a).2.2=0 then ((readV s a).1,wrap64 (r+1),tl (readV s a).2.1 a,0) else ((readV s a).1,r,Pg.zero,(readV s a).2.2)
theorem ReadR.eq{a:Int}{g:Pg}{c:Nat}(h:ReadR s r a s' r' g c)(htl:∀L n,ToldR L n (tl L n)):rdF tl s r a=(s',r',g,c):=by
 obtain⟨rfl,rfl,h | h⟩:=h
 ·obtain⟨h1,rfl,rfl⟩:=h;unfold rdF;rw[AI h1]
 ·obtain⟨h1,rfl,hT⟩:=h;unfold rdF;rw[AJ h1,h1];have:tl (readV s a).2.1 a=g:=(htl _ _).unique hT;rw[this]
def prF (tl:List Nat->Int->Pg) (s:BG) (r:Int) (t:Bu) (D:List Nat):BG × Nat × Nat:=
 let W:=wrN s t.p (wordOf D (body t.p t.o t.q t.c t.l)) 4
 if W.2≠0 then (W.1,0,W.2) else
 let R:=rdF tl W.1 r t.p
 if R.2.2.2≠0 then (R.1,0,R.2.2.2) else
 (R.1,1,if R.2.2.1.tagged=true/\(R.2.2.1.p=t.p/\R.2.2.1.o=t.o/\R.2.2.1.s=t.q/\R.2.2.1.c=t.c/\R.2.2.1.l=t.l)/\R.2.2.1.sound=true/\R.2.2.1.data=D then 0 else 8)
theorem ProgR.eq{t:Bu}{D:List Nat}{e:Nat}(h:ProgR s r t.p t.p t.o t.q t.c t.l D s' r' e)(htl:∀L n,ToldR L n (tl L n)) :∃n,prF tl s r t D=(s',n,e)/\((n=0/\r'=r)\/(n=1/\r'=wrap64 (r+1))):=by
 rcases h with ⟨h1,rfl,rfl,rfl⟩ | ⟨h1,g,x,hR,h2⟩
 ·exact⟨0,by unfold prF;simp only;rw[AJ h1],AK ⟨rfl,rfl⟩⟩
 ·have hE:=hR.eq htl;have hr:(x=0/\r'=wrap64 (r+1))\/(x≠0/\r'=r):=by
   rcases hR.2.2 with ⟨a,b,_⟩ | ⟨a,b,_⟩
   ·exact AL ⟨a,b⟩
   ·exact AK ⟨a,b⟩
  by_cases hx:x=0
  ·subst hx;refine⟨1,?_,AL ⟨rfl,hr.elim (fun h=>h.2) (fun h=>absurd rfl h.1)⟩⟩;unfold prF;simp only;rw[AI (by rw[h1];simp),hE];simp only[ne_eq,not_true_eq_false,if_false];rcases h2 with ⟨h3,_⟩ | ⟨_,h3,rfl⟩ | ⟨_,h3,rfl⟩
   ·exact absurd rfl h3
   ·unfold Pg.Is at h3;rw[AJ h3]
   ·unfold Pg.Is at h3;rw[AI h3]
  ·refine⟨0,?_,AK ⟨rfl,hr.elim (fun h=>absurd h.1 hx) (fun h=>h.2)⟩⟩;unfold prF;simp only;rw[AI (by rw[h1];simp),hE];simp only;rw[AJ hx];rcases h2 with ⟨_,rfl⟩ | ⟨h3,_⟩ | ⟨h3,_⟩
   ·rfl
   ·exact absurd h3 hx
   ·exact absurd h3 hx
def FE (c:Nat):Nat:=if c=0\/c=7 then c else 8
def CH (R:Nat->Int) (b n:Int):Nat->Int:=if 0<=b/\b<12 then upd R b.toNat (min (R b.toNat+max n 0) 65535) else R
def rdK (K:BC) (p:Nat):BC × Pg × Nat:=
 let x:=rdF K.tl K.s K.r p
 if x.2.2.2=0 then ({ K with s:=x.1,r:=x.2.1,hR:=CH K.hR (p / 8:Nat) 1 },x.2.2.1,0) else ({ K with s:=x.1 },Pg.zero,x.2.2.2)
def prK (K:BC) (t:Bu) (D:List Nat):BC × Nat:=
 let x:=prF K.tl K.s K.r t D
 ({ K with s:=x.1,r:=wrap64 (K.r+x.2.1),hR:=CH K.hR (t.p / 8:Nat) x.2.1 },FE x.2.2)
def prM (K:BC) (t:Bu) (D:List Nat):BC × Nat:=if t.o=24/\t.l=true then (K,8) else prK K t D
def erK (K:BC) (b:Nat):BC × Nat:=
 let x:=eraseR K.s b
 if x.2=0 then ({ K with s:=x.1,hR:=upd K.hR b 0,hN:=upd K.hN b 0 },0) else ({ K with s:=x.1 },FE x.2)
def bad3 (F:Nat->Int):Nat:=AD.cnt F 3 12
def CE (K:BC):Bool:=K.dd || decide (2<bad3 K.F)
def bearK (K:BC):Bool:=decide (bad3 K.F<2) && !K.sp
def stK (K:BC) (b s:Int):BC:={ K with F:=AD.setF K.F b s }
def noF:AC.St:=⟨false,0,0⟩
def clK (K:BC):BC:=if K.fr.o then { K with fr:=noF,F:=AD.setF K.F K.fr.k 2 } else K
def lvK (K:BC) (b:Int):BC:=if AC.blV K.fr=b then clK K else K
def spK (K:BC) (b:Int):BC:=
 let K1:=stK (lvK K b) b 3
 { K1 with dd:=K1.dd || (decide (2<bad3 K1.F) || K1.sp) }
def Lf (K:BC) (b:Int):Bool:=decide (AD.getC b≠0) || decide (AD.getV K.F b=3)
def lr (F:Nat->Int):Option Nat:=((List.range 12).find? fun j=>decide (F (((F 12).toNat+j) % 12)=0)).map fun j=>((F 12).toNat+j) % 12
def tkC (F:Nat->Int):Nat:=if (lr F).isSome then 0 else 10
def tkM (F:Nat->Int):Nat:=(lr F).getD 0
theorem eR(F:Nat->Int)(f:Nat)(h:F 12=f)(hf:f<12):AD.lf F f (tkC F) (tkM F):=by
 have ef:(F 12).toNat=f:=by rw[h];rfl
 unfold tkC tkM lr;rw[ef];cases hq:(List.range 12).find? fun j=>decide (F ((f+j) % 12)=0) with
 | none=>
  refine AL ⟨rfl,rfl,fun i hi=>?_⟩;have:=List.find?_eq_none.1 hq ((i+12 - f) % 12) (by simp;omega);simp only[Al] at this
  rwa [show (f+(i+12 - f) % 12) % 12=i by omega] at this
 | some j=>
  have h1:=List.find?_some hq;have h2:=mem_of_find?_eq_some hq;simp only[Al] at h1;refine AK ⟨rfl,j,by simpa using h2,rfl,h1,fun i hi=>?_⟩;rw[List.find?_eq_some_iff_getElem] at hq;obtain⟨_,k,hk,he,hall⟩:=hq;simp at he;subst he;have:=hall i hi;simpa using this
def opK (K:BC):BC × Nat:=if tkC K.F=0 then ({ K with F:=AD.tkF K.F 0 (tkM K.F),fr:=⟨true,tkM K.F,0⟩ },0) else (K,14)
def sqK (K:BC):BC:={ K with sp:=decide (K.nx=DX),nx:=min (K.nx+1) DX }
def layK (K:BC) (t:Bu):BC × Nat:=({ K with vs:=upd K.vs t.o t.q,vc:=upd K.vc t.o t.c,L:=AA.setL K.L t.o t.p },AA.setC K.L t.o t.p)
def ckK (K:BC) (q:Int):AB.Bp:=⟨K.fl,q,fun b=>decide (K.F b=3),K.cu,K.hR,K.hS⟩
abbrev Dp:=BC->Nat->List Nat
def YU:Bu:=⟨0,0,0,0,false⟩
def ntK (K:BC):BC:={ K with ca:=0,hN:=K.hR }
def frK (H:Dp) (K:BC) (p o:Nat):BC × Bu × Nat:=
 if K.sp then (K,YU,14) else
 let x:=prK (sqK K) ⟨p,o,K.nx,0,false⟩ (H (sqK K) K.nx)
 if x.2≠0 then (x.1,YU,x.2) else (if o=24 then ntK x.1 else x.1,⟨p,o,K.nx,0,false⟩,0)
structure BW where
 fm:Nat
 rt:Bool
 fd:Bool
 tt:AC.St
 ld:List Bu
def tiK (K:BC) (S:BW) (o:Nat):BC × BW × Nat × Nat:=
 if S.tt.o then (K,{ S with tt:=AC.tkS S.tt o },(AC.nxV S.tt o).toNat,AC.nxC S.tt o) else
 if tkC K.F≠0 then (K,S,0,14) else
 ({ K with F:=AD.setF (AD.tkF K.F 0 (tkM K.F)) (tkM K.F) 2 },{ S with tt:=AC.tkS ⟨true,tkM K.F,0⟩ o },(AC.nxV ⟨true,tkM K.F,0⟩ o).toNat,AC.nxC ⟨true,tkM K.F,0⟩ o)
def noH:Dp:=fun K q=>AB.Ir (ckK K q)
def coK (K:BC) (o:Nat):BC × List Nat × Bool × Nat:=
 if AA.atC K.L o≠0 then (K,[],false,AA.atC K.L o) else
 let x:=rdK K (K.L o).toNat
 if x.2.2≠0 then (x.1,[],false,x.2.2) else
 if x.2.1.sound=true then (x.1,x.2.1.data,x.2.1.l,0) else
 if o=24 then (x.1,noH x.1 (x.1.vs 24),false,0) else (x.1,List.replicate 174 0,true,0)
def cpK (bd:Bool):List Nat->BC->BW->BC × BW × Nat
 | [],K,S=>(K,S,0)
 | o :: l,K,S=>
  if bd=true/\o=24 then cpK bd l K S else
  let c:=coK K o
  if c.2.2.2≠0 then (c.1,S,c.2.2.2) else
  let t:=tiK c.1 S o
  if t.2.2.2≠0 then (t.1,t.2.1,t.2.2.2) else
  let g:Bu:=⟨t.2.2.1,o,t.1.vs o,(t.1.vc o+1) % 256,c.2.2.1⟩
  let p:=prM t.1 g c.2.1
  if p.2≠0 then (p.1,t.2.1,p.2) else cpK bd l p.1 { t.2.1 with ld:=t.2.1.ld ++ [g] }
def cmL:List Bu->BC->BC × Nat
 | [],K=>(K,0)
 | t :: l,K=>if (layK K t).2≠0 then layK K t else cmL l (layK K t).1
def cmK (K:BC) (S:BW) (st:Int):BC × Nat:=
 let x:=cmL S.ld K
 if x.2≠0 then x else
 let K1:=stK (lvK x.1 S.fm) S.fm st
 let K2:=if S.tt.o then stK { clK K1 with fr:=S.tt } S.tt.k 1 else K1
 ({ K2 with mv:=wrap64 (K2.mv+S.ld.length) },0)
def bdH (b:Nat):Dp:=fun K q=>AB.Ir { ckK K q with B:=upd (ckK K q).B b true }
def cbK (K:BC) (S:BW):BC × BW × Nat:=
 let t:=tiK K S 24
 if t.2.2.2≠0 then (t.1,t.2.1,t.2.2.2) else
 let f:=frK (bdH S.fm) t.1 t.2.2.1 24
 if f.2.2≠0 then (f.1,t.2.1,f.2.2) else
 let S2:={ t.2.1 with ld:=t.2.1.ld ++ [f.2.1] }
 ((cmK f.1 S2 3).1,S2,(cmK f.1 S2 3).2)
def tyK (K:BC) (S:BW):BC × BW × Nat:=
 let S1:={ S with tt:=noF,ld:=[] }
 if S.fd=true/\bearK K=false then (K,S1,14) else
 let bd:=S.fd || (S.rt && bearK K)
 let x:=cpK bd ((AA.ofL K.L S.fm).map Int.toNat) K S1
 if x.2.2≠0 then x else
 if bd=true then cbK x.1 x.2.1 else
 let e:=erK x.1 S.fm
 if e.2=0 then ((cmK e.1 x.2.1 0).1,x.2.1,(cmK e.1 x.2.1 0).2) else
 if e.2≠8 then (e.1,x.2.1,e.2) else
 let K2:=lvK e.1 S.fm
 let S2:={ x.2.1 with fd:=true }
 if bearK K2=false then (K2,S2,14) else cbK K2 S2
abbrev FF:=BC->Option (BC × Nat)
abbrev Ek:=BC->BW->Option (BC × BW × Nat)
def IN (an:FF):FF:=fun K=>
 if CE K=true\/K.sp=true then some (K,14) else
 if AC.rmV K.fr 24=true then an K else
 if (opK (clK K)).2≠0 then some (opK (clK K)) else an (opK (clK K)).1
def trK (te:FF):Nat->Ek
 | 0,_,_=>none
 | n+1,K,S=>
  if Lf K S.fm=true then some (K,S,0) else
  let x:=tyK K S
  if x.2.2≠8 then some x else
  match te (spK x.1 (AC.blV x.2.1.tt)) with
  | none=>none
  | some y=>if y.2≠0 then some (y.1,x.2.1,y.2) else trK te n y.1 x.2.1
def moK (te:FF) (n:Nat):Ek:=fun K S=>
 match trK te n (if S.fd then lvK K S.fm else K) S with
 | none=>none
 | some x=>if x.2.1.fd=true/\x.2.2=14 then some ({ spK x.1 x.2.1.fm with dd:=true },x.2.1,x.2.2) else some x
def lvF (K:BC):Nat->Int:=fun k=>(AA.lvK K.L 96 k:Nat)
def nwS (b:Nat) (rt fd:Bool):BW:=⟨b,rt,fd,noF,[]⟩
def GD (K:BC):Bool:=decide (AD.Ut K.F<(AD.cnt K.F 0 12:Nat))
def mrK (mo:Ek):Nat->BC->Nat->Option (BC × Nat)
 | 0,_,_=>none
 | n+1,K,o=>
  if AC.rmV K.fr o=true then some (K,0) else
  let K1:=clK K
  if GD K1=true then (if (opK K1).2≠0 then some (opK K1) else mrK mo n (opK K1).1 o) else
  if AG.chC 12 12 K1.F (lvF K1)≠0 then some (K1,14) else
  match mo K1 (nwS (AG.chV 12 12 K1.F (lvF K1)) false false) with
  | none=>none
  | some y=>if y.2.2≠0 then some (y.1,y.2.2) else mrK mo n y.1 o
def anK (mr:BC->Nat->Option (BC × Nat)) (mo:Ek) (H:Dp):Nat->BC->Nat->Option (BC × Nat)
 | 0,_,_=>none
 | n+1,K,o=>
  if CE K=true\/K.sp=true then some (K,14) else
  match mr K o with
  | none=>none
  | some x=>
   if x.2≠0 then some x else
   if AC.nxC x.1.fr o≠0 then some (x.1,AC.nxC x.1.fr o) else
   let f:=frK H { x.1 with fr:=AC.tkS x.1.fr o } (AC.nxV x.1.fr o).toNat o
   if f.2.2=0 then some (layK f.1 f.2.1) else
   if f.2.2≠8 then some (f.1,f.2.2) else
   match mo f.1 (nwS (AC.blV f.1.fr).toNat false true) with
   | none=>none
   | some y=>if y.2.2≠0 then some (y.1,y.2.2) else anK mr mo H n y.1 o
def anR:Nat->Dp->BC->Nat->Option (BC × Nat)
 | 0,_,_,_=>none
 | n+1,H,K,o=>
  let mo:=moK (IN fun K=>anR n noH K 24) (n+1)
  anK (mrK mo (n+1)) mo H (n+1) K o
def Lg (n:Nat):FF:=IN fun K=>anR n noH K 24
def movR (n:Nat):Ek:=moK (Lg n) (n+1)
end
structure Ad where
 c:Nat
 m:Nat
 g:Nat
 p:Nat
 q:Nat
 b:Nat
 po:Nat
 ma:Nat
 pa:Nat
 h:Nat
def ptr (b:Nat):Value:=.pointer (some ⟨b,0,none⟩)
def kc (A:Ad) (K:BC) (i:Nat):Value:=
 if i=0 then ptr A.m else if i=1 then ptr A.po else if i=2 then ptr A.ma else
 if i<53 then .int .i64 (if (i - 3) % 2=0 then ((K.vs ((i - 3) / 2):Nat):Int) else ((K.vc ((i - 3) / 2):Nat):Int)) else
 if i<77 then .int .i64 (K.fl (i - 53)) else
 if i=77 then .int .i64 (K.nx:Nat) else if i=78 then .bool K.sp else
 if i=79 then .bool K.fr.o else if i=80 then .int .i64 (K.fr.k:Nat) else if i=81 then .int .i64 (K.fr.i:Nat) else
 if i=82 then ptr A.pa else if i<96 then .int .i64 0 else if i=96 then ptr A.h else
 if i=97 then .bool K.dd else if i=98 then .int .i64 K.rp else if i=99 then .int .i64 K.md else .int .i64 K.mv
structure Wf (K:BC):Prop where
 chip:K.s.Ok
 rr : -9223372036854775808<=K.r/\K.r<9223372036854775808
 frm:0<=K.F 12/\K.F 12<12
 map:AA.Okl K.L
 vs:∀i,i<25->K.vs i<=1099511627775
 vp:∀i,i<25->K.L i≠-1->1<=K.vs i
 vc:∀i,i<25->K.vc i<256
 fl:∀i,i<24->0<=K.fl i/\K.fl i<=1099511627775
 nx:1<=K.nx/\K.nx<=1099511627775
 fr:AC.E9 K.fr
 cu:K.cu<96
 qu:AE.Le K.qu
 hea:AF.Fk K.hR K.hN K.hS
 tl:∀L n,ToldR L n (K.tl L n)
structure CoreAt (A:Ad) (w:Wd) (K:BC):Prop where
 core:AE.QB w A.c 124 101 (kc A K) 83 K.qu
 med:Do w A.m A.g A.p A.q A.b K.r
 chip:BF w A.g K.s
 pool:IB w A.po 167 13 K.F
 map:AA.Mp w A.ma K.L
 pat:AE.PB w A.pa 165 K.cu K.ca
 hea:AF.HB w A.h 170 K.hR K.hN K.hS
 wf:Wf K
def Cor (A:Ad) (k:Nat):Prop:=k=A.c\/k=A.m\/k=A.g\/k=A.b\/k=A.po\/k=A.ma\/k=A.pa\/k=A.h
def Ty (w:Wd) (x:Nat) (t:TypeId):Prop:=∃cs z,w.heap[x]?=some (.cells cs t z)
theorem Ty.ne{w:Wd}{x y:Nat}{t u:TypeId}(h:Ty w x t)(k:Ty w y u)(e:t≠u):x≠y:=by
 rintro rfl;obtain⟨cs,z,h⟩:=h;obtain⟨cs',z',k⟩:=k;rw[h] at k;simp at k;exact e k.2.1
theorem Sto.ty{w:Wd}{g:Nat}{t:TypeId}{n:Nat}{f:Nat->Value}(h:Sto w g t n f):Ty w g t:=by
 obtain⟨cs,h1,_⟩:=h;exact⟨cs,_,h1⟩
theorem IB.ty{w:Wd}{b n:Nat}{t:TypeId}{F:Nat->Int}(h:IB w b t n F):Ty w b t:=⟨_,_,h⟩
theorem QB.sto{w:Wd}{b:Nat}{t:TypeId}{n:Nat}{g:Nat->Value}{o:Nat}{l:List Int}(h:AE.QB w b t n g o l):∃F,Sto w b t n (upL g o (ints F 13)):=by
 obtain⟨F,h,_⟩:=h;exact⟨F,h.1⟩
theorem QB.lt{w:Wd}{b:Nat}{t:TypeId}{n:Nat}{g:Nat->Value}{o:Nat}{l:List Int}(h:AE.QB w b t n g o l):b<w.heap.size:=by
 obtain⟨F,h⟩:=QB.sto h;exact h.lt
theorem QB.chg{S:Nat->Prop}{w w':Wd}{b:Nat}{t:TypeId}{n:Nat}{g:Nat->Value}{o:Nat}{l:List Int}(h:AE.QB w b t n g o l)(hc:Chg S w w')(hb:¬ S b):AE.QB w' b t n g o l:=by
 obtain⟨F,h1,h2⟩:=h;exact⟨F,⟨h1.1.chg hc hb,h1.2⟩,h2⟩
theorem QB.ext{w:Wd}{b:Nat}{t:TypeId}{n:Nat}{g g':Nat->Value}{o:Nat}{l:List Int}(h:AE.QB w b t n g o l)(e:∀j,j<n->(j<o\/o+13<=j)->g j=g' j):AE.QB w b t n g' o l:=by
 obtain⟨F,h1,h2⟩:=h;refine⟨F,⟨h1.1.ext fun i hi=>?_,h1.2⟩,h2⟩;by_cases c:o<=i/\i<o+13
 ·obtain⟨k,rfl⟩:∃k,i=o+k:=⟨i - o,om⟩;rw[AE.Br _ _ _ _ _ om,AE.Br _ _ _ _ _ om]
 ·rw[AE.CG _ _ _ _ _ om,AE.CG _ _ _ _ _ om];exact e i hi om
theorem QB.out{w:Wd}{b:Nat}{t:TypeId}{n:Nat}{g:Nat->Value}{o:Nat}{l:List Int}(h:AE.QB w b t n g o l)(i:Nat)(hi:i<n)(ho:i<o\/o+13<=i):w.cell? ⟨b,i,none⟩=some (g i)/\w.frozen? ⟨b,i,none⟩=false:=by
 obtain⟨F,h1,h2⟩:=h;exact⟨by rw[h1.1.cell i hi,AE.CG _ _ _ _ _ ho],h1.1.frozen i⟩
theorem QB.sets{w:Wd}{b:Nat}{t:TypeId}{n:Nat}{g:Nat->Value}{o:Nat}{l:List Int}(h:AE.QB w b t n g o l)(i:Nat)(vs:List Value)(hi:i+vs.length<=o\/o+13<=i):AE.QB (w.setCells b i vs) b t n (upL g i vs) o l:=by
 obtain⟨F,h1,h2⟩:=h;refine⟨F,⟨(Sto.setCells vs i h1.1).ext fun j hj=>?_,h1.2⟩,h2⟩;by_cases c:o<=j/\j<o+13
 ·obtain⟨k,rfl⟩:∃k,j=o+k:=⟨j - o,om⟩;rw[AE.Br _ _ _ _ _ om];unfold upL;rw[AI om];exact AE.Br _ _ _ _ _ om
 ·rw[AE.CG _ _ _ _ _ om];unfold upL;by_cases d:i<=j/\j<i+vs.length
  ·rw[AJ d,AJ d]
  ·rw[AI d,AI d,AI (by rw[BD];omega)]
theorem QB.set{w:Wd}{b:Nat}{t:TypeId}{n:Nat}{g:Nat->Value}{o:Nat}{l:List Int}(h:AE.QB w b t n g o l)(i:Nat)(v:Value)(hi:i<o\/o+13<=i):AE.QB (w.setCell ⟨b,i,none⟩ v) b t n (upL g i [v]) o l:=QB.sets h i [v] (by simp;omega)
theorem QB.front{w:Wd}{A:Ad}{K:BC}(h:AE.QB w A.c 124 101 (kc A K) 83 K.qu):∃f,AC.FB w A.c 124 101 f 79 K.fr/\∀w' s',AC.FB w' A.c 124 101 (upL f 79 (AC.stL s')) 79 s'->AE.QB w' A.c 124 101 (kc A { K with fr:=s' }) 83 K.qu:=by
 obtain⟨F,⟨h1,h2⟩,h3⟩:=h;refine⟨_,⟨h1,om,?_,?_,?_⟩,fun w' s' hF=>⟨F,⟨hF.1.ext fun i hi=>?_,h2⟩,h3⟩⟩
 ·rw[AE.CG _ _ _ _ _ om];rfl
 ·rw[AE.CG _ _ _ _ _ om];rfl
 ·rw[AE.CG _ _ _ _ _ om];rfl
 ·by_cases c:83<=i/\i<96
  ·obtain⟨k,rfl⟩:∃k,i=83+k:=⟨i - 83,om⟩;rw[AE.Br _ _ _ _ _ om];unfold upL;rw[AI (by simp[AC.stL];omega)];exact AE.Br _ _ _ _ _ om
  ·rw[AE.CG _ _ _ _ i om];by_cases d:79<=i/\i<82
   ·obtain⟨u0,u1,u2⟩:=AC.F9 (upL (kc A K) 83 (ints F 13)) 79 s';have:i=79\/i=80\/i=81:=om
    rcases this with rfl | rfl | rfl
    ·rw[u0];rfl
    ·rw[u1];rfl
    ·rw[u2];rfl
   ·show upL _ 79 (AC.stL s') i=_;unfold upL;rw[AI (by simp[AC.stL];omega),AI (by rw[BD];omega)];have e0:¬ i=79:=om;have e1:¬ i=80:=om;have e2:¬ i=81:=om;unfold kc;simp only[AI e0,AI e1,AI e2]
section
variable {A:Ad}{w w':Wd}{K:BC}
theorem CoreAt.tys(h:CoreAt A w K):Ty w A.c 124/\Ty w A.m 215/\Ty w A.g 96/\Ty w A.p 242/\Ty w A.q 277/\Ty w A.b 316/\Ty w A.po 167/\Ty w A.ma 173/\Ty w A.pa 165/\Ty w A.h 170:=by
 obtain⟨F,h1⟩:=QB.sto h.core;obtain⟨m1,⟨m2,m3⟩,m4⟩:=h.med;obtain⟨c,z,m5,_⟩:=Df m2;exact⟨h1.ty,⟨_,_,m1⟩,Sto.ty h.chip,⟨_,_,m4⟩,⟨_,_,m3⟩,⟨c,z,m5⟩,h.pool.ty,IB.ty h.map,IB.ty h.pat,IB.ty h.hea⟩
theorem CoreAt.frame(h:CoreAt A w K){S:Nat->Prop}(hc:Chg S w w') :(¬ S A.c->AE.QB w' A.c 124 101 (kc A K) 83 K.qu)/\(¬ S A.m->¬ S A.p->¬ S A.q->¬ S A.b->Do w' A.m A.g A.p A.q A.b K.r)/\(¬ S A.g->BF w' A.g K.s)/\(¬ S A.po->IB w' A.po 167 13 K.F)/\(¬ S A.ma->AA.Mp w' A.ma K.L)/\(¬ S A.pa->AE.PB w' A.pa 165 K.cu K.ca)/\(¬ S A.h->AF.HB w' A.h 170 K.hR K.hN K.hS):=by
 obtain⟨lm,lp,lq,lb⟩:=h.med.lts;refine⟨fun k=>QB.chg h.core hc k,fun k1 k2 k3 k4=>⟨(hc.block A.m lm k1).trans h.med.1,h.med.2.other (hc.block A.b lb k4) (hc.block A.q lq k3) (hc.block A.p lp k2)⟩,fun k=>h.chip.chg hc k,fun k=>h.pool.chg hc k,fun k=>IB.chg h.map hc k,fun k=>IB.chg h.pat hc k,fun k=>IB.chg h.hea hc k⟩
theorem CoreAt.chg0(h:CoreAt A w K)(hc:Chg No w w'):CoreAt A w' K:=by
 obtain⟨f1,f2,f3,f4,f5,f6,f7⟩:=h.frame hc;exact⟨f1 (fun f=>f),f2 (fun f=>f) (fun f=>f) (fun f=>f) (fun f=>f),f3 (fun f=>f),f4 (fun f=>f),f5 (fun f=>f),f6 (fun f=>f),f7 (fun f=>f),h.wf⟩
theorem CoreAt.drewN(h:CoreAt A w K)(n:Nat):CoreAt A (w.drewN n) K:=h.chg0 ((Chg.refl _ w).drewN n)
theorem CoreAt.setPool(h:CoreAt A w K){F':Nat->Int}(hx:IB w' A.po 167 13 F')(hc:Chg (·=A.po) w w')(wf:Wf { K with F:=F' }):CoreAt A w' { K with F:=F' }:=by
 obtain⟨t0,t1,t2,t3,t4,t5,t6,t7,t8,t9⟩:=h.tys;obtain⟨f1,f2,f3,f4,f5,f6,f7⟩:=h.frame hc;exact⟨(f1 (t0.ne t6 dc)),(f2 (t1.ne t6 dc) (t3.ne t6 dc) (t4.ne t6 dc) (t5.ne t6 dc)),(f3 (t2.ne t6 dc)),hx,(f5 (t7.ne t6 dc)),(f6 (t8.ne t6 dc)),(f7 (t9.ne t6 dc)),wf⟩
theorem CoreAt.setMap(h:CoreAt A w K){L':Nat->Int}(hx:AA.Mp w' A.ma L')(hc:Chg (·=A.ma) w w')(wf:Wf { K with L:=L' }):CoreAt A w' { K with L:=L' }:=by
 obtain⟨t0,t1,t2,t3,t4,t5,t6,t7,t8,t9⟩:=h.tys;obtain⟨f1,f2,f3,f4,f5,f6,f7⟩:=h.frame hc;exact⟨(f1 (t0.ne t7 dc)),(f2 (t1.ne t7 dc) (t3.ne t7 dc) (t4.ne t7 dc) (t5.ne t7 dc)),(f3 (t2.ne t7 dc)),(f4 (t6.ne t7 dc)),hx,(f6 (t8.ne t7 dc)),(f7 (t9.ne t7 dc)),wf⟩
theorem CoreAt.setPat(h:CoreAt A w K){x y:Nat}(hx:AE.PB w' A.pa 165 x y)(hc:Chg (·=A.pa) w w')(wf:Wf { K with cu:=x,ca:=y }):CoreAt A w' { K with cu:=x,ca:=y }:=by
 obtain⟨t0,t1,t2,t3,t4,t5,t6,t7,t8,t9⟩:=h.tys;obtain⟨f1,f2,f3,f4,f5,f6,f7⟩:=h.frame hc;exact⟨(f1 (t0.ne t8 dc)),(f2 (t1.ne t8 dc) (t3.ne t8 dc) (t4.ne t8 dc) (t5.ne t8 dc)),(f3 (t2.ne t8 dc)),(f4 (t6.ne t8 dc)),(f5 (t7.ne t8 dc)),hx,(f7 (t9.ne t8 dc)),wf⟩
theorem CoreAt.setHea(h:CoreAt A w K){a b c:Nat->Int}(hx:AF.HB w' A.h 170 a b c)(hc:Chg (·=A.h) w w')(wf:Wf { K with hR:=a,hN:=b,hS:=c }):CoreAt A w' { K with hR:=a,hN:=b,hS:=c }:=by
 obtain⟨t0,t1,t2,t3,t4,t5,t6,t7,t8,t9⟩:=h.tys;obtain⟨f1,f2,f3,f4,f5,f6,f7⟩:=h.frame hc;exact⟨(f1 (t0.ne t9 dc)),(f2 (t1.ne t9 dc) (t3.ne t9 dc) (t4.ne t9 dc) (t5.ne t9 dc)),(f3 (t2.ne t9 dc)),(f4 (t6.ne t9 dc)),(f5 (t7.ne t9 dc)),(f6 (t8.ne t9 dc)),hx,wf⟩
theorem CoreAt.setChip(h:CoreAt A w K){s':BG}(hx:BF w' A.g s')(hc:Chg (·=A.g) w w')(wf:Wf { K with s:=s' }):CoreAt A w' { K with s:=s' }:=by
 obtain⟨t0,t1,t2,t3,t4,t5,t6,t7,t8,t9⟩:=h.tys;obtain⟨f1,f2,f3,f4,f5,f6,f7⟩:=h.frame hc;exact⟨(f1 (t0.ne t2 dc)),(f2 (t1.ne t2 dc) (t3.ne t2 dc) (t4.ne t2 dc) (t5.ne t2 dc)),hx,(f4 (t6.ne t2 dc)),(f5 (t7.ne t2 dc)),(f6 (t8.ne t2 dc)),(f7 (t9.ne t2 dc)),wf⟩
theorem CoreAt.setMed(h:CoreAt A w K){s':BG}{r':Int}(hm:Do w' A.m A.g A.p A.q A.b r')(hs:BF w' A.g s')(hc:Chg (fun k=>k=A.m\/k=A.g\/k=A.b) w w')(wf:Wf { K with s:=s',r:=r' }):CoreAt A w' { K with s:=s',r:=r' }:=by
 obtain⟨t0,t1,t2,t3,t4,t5,t6,t7,t8,t9⟩:=h.tys;obtain⟨f1,f2,f3,f4,f5,f6,f7⟩:=h.frame hc;exact⟨f1 (fun e=>e.elim (t0.ne t1 dc) (fun e=>e.elim (t0.ne t2 dc) (t0.ne t5 dc))),hm,hs,f4 (fun e=>e.elim (t6.ne t1 dc) (fun e=>e.elim (t6.ne t2 dc) (t6.ne t5 dc))),f5 (fun e=>e.elim (t7.ne t1 dc) (fun e=>e.elim (t7.ne t2 dc) (t7.ne t5 dc))),f6 (fun e=>e.elim (t8.ne t1 dc) (fun e=>e.elim (t8.ne t2 dc) (t8.ne t5 dc))),f7 (fun e=>e.elim (t9.ne t1 dc) (fun e=>e.elim (t9.ne t2 dc) (t9.ne t5 dc))),wf⟩
theorem CoreAt.setCore(h:CoreAt A w K)(K':BC)(e:K'.s=K.s/\K'.r=K.r/\K'.F=K.F/\K'.L=K.L/\K'.cu=K.cu/\K'.ca=K.ca/\K'.hR=K.hR/\K'.hN=K.hN/\K'.hS=K.hS)(hx:AE.QB w' A.c 124 101 (kc A K') 83 K'.qu)(hc:Chg (·=A.c) w w')(wf:Wf K'):CoreAt A w' K':=by
 obtain⟨t0,t1,t2,t3,t4,t5,t6,t7,t8,t9⟩:=h.tys;obtain⟨f1,f2,f3,f4,f5,f6,f7⟩:=h.frame hc;obtain⟨e1,e2,e3,e4,e5,e6,e7,e8,e9⟩:=e;refine⟨hx,by rw[e2];exact f2 (t1.ne t0 dc) (t3.ne t0 dc) (t4.ne t0 dc) (t5.ne t0 dc),by rw[e1];exact f3 (t2.ne t0 dc),by rw[e3];exact f4 (t6.ne t0 dc),by rw[e4];exact f5 (t7.ne t0 dc),by rw[e5,e6];exact f6 (t8.ne t0 dc),by rw[e7,e8,e9];exact f7 (t9.ne t0 dc),wf⟩
theorem CoreAt.cell(h:CoreAt A w K)(i:Nat)(hi:i<83\/(96<=i/\i<101)):w.cell? ⟨A.c,i,none⟩=some (kc A K i)/\w.frozen? ⟨A.c,i,none⟩=false:=QB.out h.core i om om
theorem CoreAt.lts(h:CoreAt A w K):A.c<w.heap.size/\A.m<w.heap.size/\A.g<w.heap.size/\A.b<w.heap.size/\A.po<w.heap.size/\A.ma<w.heap.size/\A.pa<w.heap.size/\A.h<w.heap.size:=by
 obtain⟨lm,lp,lq,lb⟩:=h.med.lts;exact⟨QB.lt h.core,lm,h.chip.lt,lb,h.pool.lt,IB.lt h.map,IB.lt h.pat,IB.lt h.hea⟩
theorem CoreAt.apart(h:CoreAt A w K){x:Nat}(hx:w.heap.size<=x):¬ Cor A x:=by
 obtain⟨l1,l2,l3,l4,l5,l6,l7,l8⟩:=h.lts;unfold Cor;omega
theorem Chg.cor_c{A:Ad}{w w':Wd}(h:Chg (·=A.c) w w'):Chg (Cor A) w w':=h.mono fun _ _ e=>AK e
theorem Chg.cor_g{A:Ad}{w w':Wd}(h:Chg (·=A.g) w w'):Chg (Cor A) w w':=h.mono fun _ _ e=>AL (AL (AK e))
theorem Chg.cor_po{A:Ad}{w w':Wd}(h:Chg (·=A.po) w w'):Chg (Cor A) w w':=h.mono fun _ _ e=>AL (AL (AL (AL (AK e))))
theorem Chg.cor_ma{A:Ad}{w w':Wd}(h:Chg (·=A.ma) w w'):Chg (Cor A) w w':=h.mono fun _ _ e=>AL (AL (AL (AL (AL (AK e)))))
theorem Chg.cor_pa{A:Ad}{w w':Wd}(h:Chg (·=A.pa) w w'):Chg (Cor A) w w':=h.mono fun _ _ e=>AL (AL (AL (AL (AL (AL (AK e))))))
theorem Chg.cor_h{A:Ad}{w w':Wd}(h:Chg (·=A.h) w w'):Chg (Cor A) w w':=h.mono fun _ _ e=>AL (AL (AL (AL (AL (AL (AL (e)))))))
theorem Chg.cor_med{A:Ad}{w w':Wd}(h:Chg (fun k=>k=A.m\/k=A.g\/k=A.b) w w'):Chg (Cor A) w w':=h.mono fun _ _ e=>e.elim (fun e=>AL (AK e)) fun e=>e.elim (fun e=>AL (AL (AK e))) fun e=>AL (AL (AL (AK e)))
theorem Chg.cor0{A:Ad}{w w':Wd}(h:Chg No w w'):Chg (Cor A) w w':=h.mono fun _ _ e=>e.elim
theorem CoreAt.cMed(h:CoreAt A w K):w.cell? ⟨A.c,0,none⟩=some (.pointer (some ⟨A.m,0,none⟩))/\w.frozen? ⟨A.c,0,none⟩=false:=h.cell 0 om
theorem CoreAt.cPool(h:CoreAt A w K):w.cell? ⟨A.c,1,none⟩=some (.pointer (some ⟨A.po,0,none⟩))/\w.frozen? ⟨A.c,1,none⟩=false:=h.cell 1 om
theorem CoreAt.cMap(h:CoreAt A w K):w.cell? ⟨A.c,2,none⟩=some (.pointer (some ⟨A.ma,0,none⟩))/\w.frozen? ⟨A.c,2,none⟩=false:=h.cell 2 om
theorem CoreAt.cNx(h:CoreAt A w K):w.cell? ⟨A.c,77,none⟩=some (.int .i64 (K.nx:Nat))/\w.frozen? ⟨A.c,77,none⟩=false:=h.cell 77 om
theorem CoreAt.cSp(h:CoreAt A w K):w.cell? ⟨A.c,78,none⟩=some (.bool K.sp)/\w.frozen? ⟨A.c,78,none⟩=false:=h.cell 78 om
theorem CoreAt.cPat(h:CoreAt A w K):w.cell? ⟨A.c,82,none⟩=some (.pointer (some ⟨A.pa,0,none⟩))/\w.frozen? ⟨A.c,82,none⟩=false:=h.cell 82 om
theorem CoreAt.cHea(h:CoreAt A w K):w.cell? ⟨A.c,96,none⟩=some (.pointer (some ⟨A.h,0,none⟩))/\w.frozen? ⟨A.c,96,none⟩=false:=h.cell 96 om
theorem CoreAt.cDd(h:CoreAt A w K):w.cell? ⟨A.c,97,none⟩=some (.bool K.dd)/\w.frozen? ⟨A.c,97,none⟩=false:=h.cell 97 om
theorem CoreAt.cRp(h:CoreAt A w K):w.cell? ⟨A.c,98,none⟩=some (.int .i64 K.rp)/\w.frozen? ⟨A.c,98,none⟩=false:=h.cell 98 om
theorem CoreAt.cMd(h:CoreAt A w K):w.cell? ⟨A.c,99,none⟩=some (.int .i64 K.md)/\w.frozen? ⟨A.c,99,none⟩=false:=h.cell 99 om
theorem CoreAt.cMv(h:CoreAt A w K):w.cell? ⟨A.c,100,none⟩=some (.int .i64 K.mv)/\w.frozen? ⟨A.c,100,none⟩=false:=h.cell 100 om
theorem IP(A:Ad)(K:BC)(i:Nat)(hi:i<25):kc A K (3+i*2)=.int .i64 (K.vs i:Nat)/\kc A K (3+i*2+1)=.int .i64 (K.vc i:Nat):=by
 unfold kc;refine⟨?_,?_⟩
 ·rw[AI om,AI om,AI om,AJ om,AJ om,show (3+i*2 - 3) / 2=i by omega]
 ·rw[AI om,AI om,AI om,AJ om,AI om,show (3+i*2+1 - 3) / 2=i by omega]
theorem cH(A:Ad)(K:BC)(i:Nat)(hi:i<24):kc A K (53+i)=.int .i64 (K.fl i):=by
 unfold kc;rw[AI om,AI om,AI om,AI om,AJ om,show 53+i - 53=i by omega]
theorem CoreAt.cVs(h:CoreAt A w K)(i:Nat)(hi:i<25):w.cell? ⟨A.c,3+i*2,none⟩=some (.int .i64 (K.vs i:Nat))/\w.frozen? ⟨A.c,3+i*2,none⟩=false:=by
 rw[<-(IP A K i hi).1];exact h.cell _ om
theorem CoreAt.cVc(h:CoreAt A w K)(i:Nat)(hi:i<25):w.cell? ⟨A.c,3+i*2+1,none⟩=some (.int .i64 (K.vc i:Nat))/\w.frozen? ⟨A.c,3+i*2+1,none⟩=false:=by
 rw[<-(IP A K i hi).2];exact h.cell _ om
theorem CoreAt.cFl(h:CoreAt A w K)(i:Nat)(hi:i<24):w.cell? ⟨A.c,53+i,none⟩=some (.int .i64 (K.fl i))/\w.frozen? ⟨A.c,53+i,none⟩=false:=by
 rw[<-cH A K i hi];exact h.cell _ om
end
end Go.Proofs.YtbhbilcieodbhaaGreat
namespace Go.Proofs.YtbhbilcieodbhaaGreat
open List
open Go.Proofs.Tryz
open Go.RowKit Go.Extern.Stop Go.Stop Go.Extern
theorem VS(v:Value)(w:Wd):(Extern.ReflectliteType.typeOf #[.iface 56 v]).run prog w=.ok (.iface 190 (.agg #[.pointer (some ⟨0,56,none⟩)])) w:=kr
theorem Lh(w:Wd):((Extern.ReflectliteType.method fun t=>do Extern.Rtype.noPackHeld "Comparable" t;Functor.map (fun a=>Value.bool a.comparable) (typeInfo t)) #[.agg #[.pointer (some ⟨0,56,none⟩)]]).run prog w=.ok (.bool true) w:=kr
theorem kA(v:Value)(xT:TypeId)(w:Wd):(Instr.typeAssert (.iface 56 v) xT 192 true).run prog w=.ok (.tuple #[.nilIface,.bool false]) w:=run_typeAssert_lacksB underlying192 kr kr v xT w
theorem Se(v:Value)(xT:TypeId)(w:Wd):(Instr.typeAssert (.iface 56 v) xT 195 true).run prog w=.ok (.tuple #[.nilIface,.bool false]) w:=run_typeAssert_lacksB underlying195 kr kr v xT w
theorem PP(v:Value)(xT:TypeId)(w:Wd):(Instr.typeAssert (.iface 56 v) xT 196 true).run prog w=.ok (.tuple #[.nilIface,.bool false]) w:=run_typeAssert_lacksB underlying196 kr kr v xT w
theorem GE(v:Value)(w:Wd):(Go.method 508 190 v "Comparable").run prog w=.ok (317,v) w:=kr
theorem Sf(x y:Int)(w:Wd):(binOp .eql 33 (.iface 56 (.int .i64 x)) (.iface 56 (.int .i64 y))).run prog w=.ok (.bool (decide (x=y))) w:=by
 rw[Lib.run_eql_iface_int w x y underlying33 kr underlying56];congr 2
theorem eS(k:Int)(w:Wd):Calls prog 46 #[.nilIface,.iface 56 (.int .i64 k)] w fun e w'=>e=.returned (.bool false)/\w'=w:=by
 have hn:=run_eql_iface_nil_left (P:=prog) w 56 (.int .i64 k) underlying33;go_enter func46,ntmps46;go_wp2;go_ret;exact⟨rfl,rfl⟩
theorem Zy(x k:Int)(w:Wd):Calls prog 46 #[.iface 56 (.int .i64 x),.iface 56 (.int .i64 k)] w fun e w'=>e=.returned (.bool (decide (x=k)))/\w'=w:=by
 have h8:=@run_callFunc_extern prog 70 _ Extern.ReflectliteType.typeOf func70 kr kr kr kr;have h32:=@run_callFunc_extern prog 317 _ (Extern.ReflectliteType.method fun t=>do Extern.Rtype.noPackHeld "Comparable" t;pure (.bool (<-typeInfo t).comparable)) func317 kr kr kr (by first | rfl | kernel_rfl);have tT:=VS;have cT:=Lh;have mR:=GE;have nE:=kA;have uE:=Se;have vE:=PP;have heq:=Sf x k;by_cases h:x=k
 ·subst h;simp only[decide_true] at heq ⊢;go_enter func46,ntmps46;go_wp2;refine wp_loop_rounds 1 ?_;rw[rounds_succ];go_wp2;go_ret;exact⟨rfl,rfl⟩
 ·simp only[h,decide_false] at heq ⊢;go_enter func46,ntmps46;go_wp2;refine wp_loop_rounds 1 ?_;rw[rounds_succ];go_wp2;go_ret;exact⟨rfl,rfl⟩
theorem Ib(c k:Nat)(hk:k≠0)(w:Wd):Calls prog 46 #[errV c,.iface 56 (.int .i64 k)] w fun e w'=>e=.returned (.bool (decide (c=k)))/\w'=w:=by
 unfold errV;by_cases h:c=0
 ·rw[AJ h,AN om];exact eS k w
 ·rw[AI h,show decide (c=k)=decide ((c:Int)=(k:Int)) from decide_eq_decide.2 om];exact Zy c k w
end Go.Proofs.YtbhbilcieodbhaaGreat
namespace Go.Proofs.YtbhbilcieodbhaaGreat
open List
open Go.Proofs.Tryz
open Go.RowKit
section
variable (A:Ad)(w:Wd)(K:BC)
theorem Gm(p:Int)(h:0<=p/\p<96):Calls prog 90 #[.int .i64 p] w fun e w'=>e=.returned (.int .i64 (p / 8))/\w'=w:=by
 have hp:=AE.parts_in w p h;clear h;go_enter func90,ntmps90;go_wp2_with (go_at_call 127;refine hp.mono ?_;rintro e w1 ⟨rfl,rfl⟩);go_ret;exact⟨rfl,rfl⟩
theorem PQ(h:CoreAt A w K):Calls prog 79 #[.pointer (some ⟨A.c,0,none⟩)] w fun e w'=>e=.returned (.bool (CE K))/\w'=w:=by
 obtain⟨c97,-⟩:=h.cDd;obtain⟨c1,-⟩:=h.cPool;have hw:=AD.Jd w A.po K.F h.pool;unfold CE bad3;clear h;generalize decide (2<AD.cnt K.F 3 12)=x at *
 cases hd:K.dd
 ·rw[hd] at c97;clear hd;go_enter func79,ntmps79;go_wp2_with (go_at_call 112;refine hw.mono ?_;rintro e w1 ⟨rfl,rfl⟩);go_ret;exact⟨rfl,rfl⟩
 ·rw[hd] at c97;clear hd;go_enter func79,ntmps79;go_wp2;go_ret;exact⟨rfl,rfl⟩
theorem Li(h:CoreAt A w K):Calls prog 188 #[.pointer (some ⟨A.c,0,none⟩)] w fun e w'=>e=.returned (.bool (bearK K))/\w'=w:=by
 obtain⟨c78,-⟩:=h.cSp;obtain⟨c1,-⟩:=h.cPool;have hw:=AD.Fc w A.po K.F h.pool 3;unfold bearK bad3;clear h;by_cases hb:AD.cnt K.F 3 12<2
 ·have hz:((AD.cnt K.F 3 12:Nat):Int)<2:=om
  rw[AO hb];clear hb;generalize AD.cnt K.F 3 12=x at *
  go_enter func188,ntmps188;go_wp2_with (go_at_call 148;refine hw.mono ?_;rintro e w1 ⟨rfl,rfl⟩);go_ret;exact⟨rfl,rfl⟩
 ·have hz:¬ ((AD.cnt K.F 3 12:Nat):Int)<2:=om
  rw[AN hb];clear hb;generalize AD.cnt K.F 3 12=x at *
  go_enter func188,ntmps188;go_wp2_with (go_at_call 148;refine hw.mono ?_;rintro e w1 ⟨rfl,rfl⟩);go_ret;exact⟨rfl,rfl⟩
theorem Zz(F:Nat->Int)(b s:Int):AD.setF F b s 12=F 12:=by
 unfold AD.setF;split
 ·rename_i c;obtain⟨c1,-⟩:=AD.SM c;unfold upd;rw[AI om]
 ·rfl
theorem Wf.st{K:BC}(h:Wf K)(b s:Int):Wf (stK K b s):=
 ⟨h.chip,h.rr,by show 0<=AD.setF K.F b s 12/\AD.setF K.F b s 12<12;rw[Zz];exact h.frm,h.map,h.vs,h.vp,h.vc,h.fl,h.nx,h.fr,h.cu,h.qu,h.hea,h.tl⟩
theorem NY(h:CoreAt A w K)(b s:Int):Calls prog 150 #[.pointer (some ⟨A.c,0,none⟩),.int .i64 b,.int .i64 s] w fun e w'=>e=.returned (.tuple #[])/\CoreAt A w' (stK K b s)/\Chg (Cor A) w w':=by
 obtain⟨c1,-⟩:=h.cPool;have hw:=AD.set_v w A.po K.F h.pool b s;have H:=BB h;clear h;go_enter func150,ntmps150;go_wp2_with (go_at_call 184;refine hw.mono ?_;rintro e w1 ⟨rfl,h1,g1⟩);go_end0;exact⟨rfl,H.out.setPool h1 g1 (H.out.wf.st b s),g1.cor_po⟩
theorem kC(h:CoreAt A w K)(b:Int):Calls prog 159 #[.pointer (some ⟨A.c,0,none⟩),.int .i64 b] w fun e w'=>e=.returned (.bool (Lf K b))/\w'=w:=by
 obtain⟨c1,-⟩:=h.cPool;have hw:=AD.jo w A.po K.F h.pool b;have q:=Bn;have g:=BL;unfold Lf;clear h;generalize AD.getV K.F b=v at *
 by_cases hc:AD.getC b=0
 ·have hd:decide (AD.getC b=0)=true:=AO hc;have hd2:decide (AD.getC b≠0)=false:=AN (fun x=>x hc);rw[hd2];clear hc hd2;generalize AD.getC b=k at *
  by_cases hv:v=3
  ·have hb:(v == 3)=true:=(by simp[hv]);rw[AO hv];clear hv;go_enter func159,ntmps159;go_wp2_with (go_at_call 187;refine hw.mono ?_;rintro e w1 ⟨rfl,rfl⟩);go_ret;exact⟨rfl,rfl⟩
  ·have hb:(v == 3)=false:=(by simp[hv]);rw[AN hv];clear hv;go_enter func159,ntmps159;go_wp2_with (go_at_call 187;refine hw.mono ?_;rintro e w1 ⟨rfl,rfl⟩);go_ret;exact⟨rfl,rfl⟩
 ·have hd:decide (AD.getC b=0)=false:=AN hc;have hd2:decide (AD.getC b≠0)=true:=AO hc;rw[hd2];clear hc hd2;generalize AD.getC b=k at *
  go_enter func159,ntmps159;go_wp2_with (go_at_call 187;refine hw.mono ?_;rintro e w1 ⟨rfl,rfl⟩);go_ret;exact⟨rfl,rfl⟩
theorem Wf.fr'{K:BC}(h:Wf K){s:AC.St}(hs:AC.E9 s):Wf { K with fr:=s }:=
 ⟨h.chip,h.rr,h.frm,h.map,h.vs,h.vp,h.vc,h.fl,h.nx,hs,h.cu,h.qu,h.hea,h.tl⟩
theorem CoreAt.setFr{A:Ad}{w w':Wd}{K:BC}(h:CoreAt A w K){s:AC.St}(hx:AE.QB w' A.c 124 101 (kc A { K with fr:=s }) 83 K.qu)(hc:Chg (·=A.c) w w')(hs:AC.E9 s):CoreAt A w' { K with fr:=s }:=
 h.setCore { K with fr:=s } ⟨rfl,rfl,rfl,rfl,rfl,rfl,rfl,rfl,rfl⟩ hx hc (h.wf.fr' hs)
theorem E9.noF:AC.E9 noF:=⟨dc,dc⟩
theorem Gn(h:CoreAt A w K):Calls prog 114 #[.pointer (some ⟨A.c,0,none⟩)] w fun e w'=>e=.returned (.tuple #[])/\CoreAt A w' (clK K)/\Chg (Cor A) w w':=by
 obtain⟨f,hf,back⟩:=QB.front h.core;have hb:=AC.Db w A.c 124 101 f 79 K.fr hf;unfold clK;unfold AC.blV at hb;cases ho:K.fr.o
 ·rw[ho] at hb;replace hb:Calls prog 85 #[.pointer (some ⟨A.c,79,none⟩)] w fun e w'=>e=.returned (.int .i64 (-1))/\w'=w:=hb;have H:=BB h;clear h hf back ho;go_enter func114,ntmps114;go_wp2_with (go_at_call 85;refine hb.mono ?_;rintro e w1 ⟨rfl,rfl⟩);refine AZ (results_none rfl _ _ _) rfl ?_;exact⟨rfl,H.out,Chg.refl _ _⟩
 ·rw[ho] at hb;replace hb:Calls prog 85 #[.pointer (some ⟨A.c,79,none⟩)] w fun e w'=>e=.returned (.int .i64 (K.fr.k:Nat))/\w'=w:=hb;have hcl:=AC.SU w A.c 124 101 f 79 K.fr hf;have hz:(((K.fr.k:Nat):Int) == -1)=false:=by simp
  have H:=BB h;have HB:=BB back;clear h hf back ho;go_enter func114,ntmps114;go_wp2_with (go_at_call 85;refine hb.mono ?_;rintro e w1 ⟨rfl,rfl⟩);refine hcl.mono ?_;rintro e w1 ⟨rfl,h1,g1⟩;have HC1:=BB (H.out.setFr (HB.out w1 _ h1) g1 E9.noF);have hst:=NY A w1 { K with fr:=noF } HC1.out (K.fr.k:Nat) 2;have HG1:=BB g1.cor_c;clear hcl h1 g1 hb HB H HC1;go_wp2_with (go_at_call 150;refine hst.mono ?_;rintro e w2 ⟨rfl,h2,g2⟩);go_end0;exact⟨rfl,h2,HG1.out.trans g2⟩
theorem Gp(h:CoreAt A w K)(b:Int):Calls prog 124 #[.pointer (some ⟨A.c,0,none⟩),.int .i64 b] w fun e w'=>e=.returned (.tuple #[])/\CoreAt A w' (lvK K b)/\Chg (Cor A) w w':=by
 obtain⟨f,hf,back⟩:=QB.front h.core;have hb:=AC.Db w A.c 124 101 f 79 K.fr hf;have hc:=Gn A w K h;unfold lvK;by_cases e:AC.blV K.fr=b
 ·rw[AJ e];have ez:(AC.blV K.fr == b)=true:=by simp[e]
  clear h hf back e;generalize AC.blV K.fr=x at *
  go_enter func124,ntmps124;go_wp2_with (go_at_call 85;refine hb.mono ?_;rintro e w1 ⟨rfl,rfl⟩);refine hc.mono ?_;rintro e w2 ⟨rfl,h2,g2⟩;have H2:=BB h2;have G2:=BB g2;clear h2 g2 hc hb;go_wp2;go_end0;exact⟨rfl,H2.out,G2.out⟩
 ·rw[AI e];have ez:(AC.blV K.fr == b)=false:=by simp[e]
  have H:=BB h;clear h hf back e hc;generalize AC.blV K.fr=x at *
  go_enter func124,ntmps124;go_wp2_with (go_at_call 85;refine hb.mono ?_;rintro e w1 ⟨rfl,rfl⟩);go_end0;exact⟨rfl,H.out,Chg.refl _ _⟩
theorem Wf.dd'{K:BC}(h:Wf K)(d:Bool):Wf { K with dd:=d }:=
 ⟨h.chip,h.rr,h.frm,h.map,h.vs,h.vp,h.vc,h.fl,h.nx,h.fr,h.cu,h.qu,h.hea,h.tl⟩
theorem kD(A:Ad)(K:BC)(d:Bool)(j:Nat)(_:j<101)(_:j<83\/83+13<=j):upL (kc A K) 97 [.bool d] j=kc A { K with dd:=d } j:=by
 rw[Bj];by_cases e:j=97
 ·subst e;rfl
 ·rw[AI e];unfold kc;simp only[AI e]
theorem CoreAt.setDd{A:Ad}{w:Wd}{K:BC}(h:CoreAt A w K)(d:Bool):CoreAt A (w.setCell ⟨A.c,97,none⟩ (.bool d)) { K with dd:=d }:=
 h.setCore { K with dd:=d } ⟨rfl,rfl,rfl,rfl,rfl,rfl,rfl,rfl,rfl⟩ (QB.ext (QB.set h.core 97 (.bool d) om) (kD A K d)) ((Chg.refl (·=A.c) w).setCell (AK rfl) _ _) (h.wf.dd' d)
theorem It(h:CoreAt A w K)(b:Int):Calls prog 126 #[.pointer (some ⟨A.c,0,none⟩),.int .i64 b] w fun e w'=>e=.returned (.tuple #[])/\CoreAt A w' (spK K b)/\Chg (Cor A) w w':=by
 have h1:=Gp A w K h b;have HF:Hid (spK K b={ stK (lvK K b) b 3 with dd:=(stK (lvK K b) b 3).dd || (decide (2<bad3 (stK (lvK K b) b 3).F) || (stK (lvK K b) b 3).sp) }):=rfl;clear h;go_enter func126,ntmps126;go_wp2_with fail;refine h1.mono ?_;rintro e w1 ⟨rfl,k1,g1⟩;have h2:=NY A w1 _ k1 b 3;have G1:=BB g1;clear h1 k1 g1;go_wp2_with fail;refine h2.mono ?_;rintro e w2 ⟨rfl,k2,g2⟩;generalize stK (lvK K b) b 3=K1 at *
 obtain⟨c97,f97⟩:=k2.cDd;obtain⟨c78,-⟩:=k2.cSp;obtain⟨c1,-⟩:=k2.cPool;have hw:=AD.Jd w2 A.po K1.F k2.pool;have G2:=BB (G1.out.trans g2);have HC:=BB k2;have HW:Hid (decide (2<AD.cnt K1.F 3 12)=decide (2<bad3 K1.F)):=rfl;rw[HW.out] at hw;clear h2 k2 g2 G1 HW;generalize decide (2<bad3 K1.F)=x at *
 cases hd:K1.dd
 ·have HD:=BB hd;rw[hd] at c97;clear hd;cases x
  ·go_wp2_with (go_at_call 112;refine hw.mono ?_;rintro e w3 ⟨rfl,rfl⟩);go_end0;refine⟨rfl,?_,G2.out.trans (Chg.cor_c ((Chg.refl (·=A.c) _).setCell (AK rfl) _ _))⟩;rw[HF.out,HD.out];exact HC.out.setDd _
  ·go_wp2_with (go_at_call 112;refine hw.mono ?_;rintro e w3 ⟨rfl,rfl⟩);go_end0;refine⟨rfl,?_,G2.out.trans (Chg.cor_c ((Chg.refl (·=A.c) _).setCell (AK rfl) _ _))⟩;rw[HF.out,HD.out];exact HC.out.setDd _
 ·have HD:=BB hd;rw[hd] at c97;clear hd;go_wp2;go_end0;refine⟨rfl,?_,G2.out.trans (Chg.cor_c ((Chg.refl (·=A.c) _).setCell (AK rfl) _ _))⟩;rw[HF.out,HD.out];exact HC.out.setDd _
theorem eT{F:Nat->Int}{m:Nat}:AD.tkF F 0 m 12=((m+1) % 12:Nat):=by
 unfold AD.tkF upd;rw[AJ rfl,AJ rfl]
theorem Jn(F:Nat->Int)(h:0<=F 12/\F 12<12):AD.lf F (F 12).toNat (tkC F) (tkM F)/\tkM F<12:=by
 have:=eR F (F 12).toNat om om;refine⟨this,?_⟩;rcases this with ⟨_,j,_,e,_⟩ | ⟨_,e,_⟩ <;> omega
theorem VT(h:CoreAt A w K):Calls prog 152 #[.pointer (some ⟨A.po,0,none⟩)] w fun e w'=>e=.returned (.tuple #[.int .i64 (tkM K.F:Nat),errV (tkC K.F)])/\CoreAt A w' { K with F:=AD.tkF K.F (tkC K.F) (tkM K.F) }/\Chg (Cor A) w w':=by
 obtain⟨hn,hm⟩:=Jn K.F h.wf.frm;refine(AD.take_v w A.po K.F h.pool (K.F 12).toNat (by have:=h.wf.frm;omega) (by have:=h.wf.frm;omega) hn).mono ?_;rintro e w1 ⟨rfl,k1,g1⟩;refine⟨rfl,h.setPool k1 g1 ⟨h.wf.chip,h.wf.rr,?_,h.wf.map,h.wf.vs,h.wf.vp,h.wf.vc,h.wf.fl,h.wf.nx,h.wf.fr,h.wf.cu,h.wf.qu,h.wf.hea,h.wf.tl⟩,g1.cor_po⟩;show 0<=AD.tkF K.F (tkC K.F) (tkM K.F) 12/\AD.tkF K.F (tkC K.F) (tkM K.F) 12<12;by_cases hc:tkC K.F=0
 ·rw[hc,eT];omega
 ·unfold AD.tkF;rw[AI hc];exact h.wf.frm
theorem VU(h:CoreAt A w K):Calls prog 116 #[.pointer (some ⟨A.c,0,none⟩)] w fun e w'=>e=.returned (errV (opK K).2)/\CoreAt A w' (opK K).1/\Chg (Cor A) w w':=by
 obtain⟨c1,-⟩:=h.cPool;have ht:=VT A w K h;have hm:=(Jn K.F h.wf.frm).2;have q:=Bn;have g:=BL;unfold opK;by_cases hc:tkC K.F=0
 ·rw[AJ hc];rw[hc] at ht;have H:=BB h;have HM:=BB hm;clear hc h hm;go_enter func116,ntmps116;go_wp2_with fail;refine ht.mono ?_;rintro e w1 ⟨rfl,k1,g1⟩;obtain⟨f,hf,back⟩:=QB.front k1.core;have ho:=AC.dz w1 A.c 124 101 f 79 K.fr hf (tkM K.F:Nat) 0;have e0:AC.jr (tkM K.F:Nat) 0=0:=by
   unfold AC.jr;rw[AI (by have:=HM.out;omega)]
  have e1:AC.opS K.fr (tkM K.F:Nat) 0=⟨true,tkM K.F,0⟩:=by
   unfold AC.opS;rw[AJ e0];rfl
  rw[e0,e1] at ho;have HB:=BB back;have H1:=BB k1;have G1:=BB g1;clear ht k1 g1 hf back H e0 e1;go_wp2_with (go_at_call 153;refine ho.mono ?_;rintro e w2 ⟨rfl,k2,g2⟩);go_ret;exact⟨rfl,H1.out.setFr (HB.out w2 _ k2) g2 ⟨HM.out,(by decide:0<9)⟩,G1.out.trans g2.cor_c⟩
 ·rw[AI hc];have hd:decide (tkC K.F=0)=false:=AN hc;have HF:Hid (AD.tkF K.F (tkC K.F) (tkM K.F)=K.F):=by show AD.tkF K.F (tkC K.F) (tkM K.F)=K.F;unfold AD.tkF;rw[AI hc]
  rw[HF.out] at ht;have H:=BB h;clear hc h hm HF;generalize tkC K.F=k at *
  generalize tkM K.F=m at *
  go_enter func116,ntmps116;go_wp2_with (go_at_call 152;refine ht.mono ?_;rintro e w1 ⟨rfl,k1,g1⟩);go_ret;exact⟨rfl,k1,g1⟩
end
section
variable (A:Ad)(w:Wd)(K:BC)
theorem Wf.sq{K:BC}(h:Wf K):Wf (sqK K):=
 ⟨h.chip,h.rr,h.frm,h.map,h.vs,h.vp,h.vc,h.fl,by have:=h.nx;show 1<=min (K.nx+1) DX/\min (K.nx+1) DX<=1099511627775;unfold DX;omega,h.fr,h.cu,h.qu,h.hea,h.tl⟩
theorem kE(A:Ad)(K:BC)(b:Bool)(n:Nat)(j:Nat)(_:j<101)(_:j<83\/83+13<=j):upL (upL (kc A K) 78 [.bool b]) 77 [.int .i64 (n:Nat)] j=kc A { K with sp:=b,nx:=n } j:=by
 rw[Bj,Bj];by_cases e:j=77
 ·subst e;rfl
 ·rw[AI e];by_cases e2:j=78
  ·subst e2;rfl
  ·rw[AI e2];unfold kc;simp only[AI e,AI e2]
theorem CoreAt.setSq{A:Ad}{w:Wd}{K:BC}(h:CoreAt A w K){b:Bool}{z:Int}(hb:b=decide (K.nx=DX))(hz:z=(min (K.nx+1) DX:Nat)):CoreAt A ((w.setCell ⟨A.c,78,none⟩ (.bool b)).setCell ⟨A.c,77,none⟩ (.int .i64 z)) (sqK K):=by
 subst hb hz;exact h.setCore (sqK K) ⟨rfl,rfl,rfl,rfl,rfl,rfl,rfl,rfl,rfl⟩ (QB.ext (QB.set (QB.set h.core 78 _ om) 77 _ om) (kE A K _ _)) (((Chg.refl (·=A.c) w).setCell (AK rfl) _ _).setCell (AK rfl) _ _) h.wf.sq
theorem kG(h:CoreAt A w K):Calls prog 119 #[.pointer (some ⟨A.c,0,none⟩)] w fun e w'=>e=.returned (.int .i64 (K.nx:Nat))/\CoreAt A w' (sqK K)/\Chg (Cor A) w w':=by
 obtain⟨c77,f77⟩:=h.cNx;obtain⟨c78,f78⟩:=h.cSp;have hn:=h.wf.nx;have H:=BB h;have hz:((K.nx:Nat):Int)<=1099511627775:=om
 have h0:(0:Int)<=((K.nx:Nat):Int):=om
 obtain⟨n,HN⟩:∃n:Int,Hid (n=((K.nx:Nat):Int)):=⟨_,rfl⟩;rw[<-HN.out] at c77 hz h0 ⊢;have HB:Hid ((n == 1099511627775)=decide (K.nx=DX)):=by
  show (n == 1099511627775)=decide (K.nx=DX);have:=HN.out;unfold DX;by_cases e:K.nx=1099511627775
  ·rw[AO e];simp;omega
  ·rw[AN e];simp;omega
 clear h hn;go_enter func119,ntmps119;go_wp2
 all_goals
  go_ret;exact⟨rfl,H.out.setSq HB.out (by have:=HN.out;unfold DX;omega),Chg.cor_c (((Chg.refl (·=A.c) w).setCell (AK rfl) _ _).setCell (AK rfl) _ _)⟩
theorem eU(A:Ad)(K:BC)(i q c:Nat)(hi:i<25)(j:Nat)(_:j<101)(_:j<83\/83+13<=j):upL (kc A K) (3+i*2) [.int .i64 (q:Nat),.int .i64 (c:Nat)] j=kc A { K with vs:=upd K.vs i q,vc:=upd K.vc i c } j:=by
 unfold upL;by_cases e:3+i*2<=j/\j<3+i*2+2
 ·rw[AJ (by simpa using e)];have:j=3+i*2\/j=3+i*2+1:=om
  rcases this with rfl | rfl
  ·rw[show 3+i*2 - (3+i*2)=0 by omega,(IP A _ i hi).1];simp[upd]
  ·rw[show 3+i*2+1 - (3+i*2)=1 by omega,(IP A _ i hi).2];simp[upd]
 ·rw[AI (by simpa using e)];by_cases h3:3<=j/\j<53
  ·obtain⟨k,hk,hj⟩:∃k,k<25/\(j=3+k*2\/j=3+k*2+1):=⟨(j - 3) / 2,om,om⟩;rcases hj with rfl | rfl
   ·rw[(IP A K k hk).1,(IP A _ k hk).1];show _=Value.int .i64 ((upd K.vs i q k:Nat):Int);unfold upd;rw[AI om]
   ·rw[(IP A K k hk).2,(IP A _ k hk).2];show _=Value.int .i64 ((upd K.vc i c k:Nat):Int);unfold upd;rw[AI om]
  ·by_cases h4:j<3
   ·have:j=0\/j=1\/j=2:=om
    rcases this with rfl | rfl | rfl <;> rfl
   ·unfold kc;simp only[AI (show ¬ j<53 by omega)]
theorem Wf.ver{K:BC}(h:Wf K){i q c:Nat}(hq:1<=q/\q<=1099511627775)(hc:c<256):Wf { K with vs:=upd K.vs i q,vc:=upd K.vc i c }:=by
 refine⟨h.chip,h.rr,h.frm,h.map,fun k hk=>?_,fun k hk hl=>?_,fun k hk=>?_,h.fl,h.nx,h.fr,h.cu,h.qu,h.hea,h.tl⟩
 ·show upd K.vs i q k<=_;unfold upd;split
  ·exact hq.2
  ·exact h.vs k hk
 ·show 1<=upd K.vs i q k;unfold upd;split
  ·exact hq.1
  ·exact h.vp k hk hl
 ·show upd K.vc i c k<256;unfold upd;split
  ·exact hc
  ·exact h.vc k hk
theorem CoreAt.setVer{A:Ad}{w:Wd}{K:BC}(h:CoreAt A w K){i q c:Nat}(hi:i<25)(hq:1<=q/\q<=1099511627775)(hc:c<256):CoreAt A (w.setCells A.c (3+i*2) [.int .i64 (q:Nat),.int .i64 (c:Nat)]) { K with vs:=upd K.vs i q,vc:=upd K.vc i c }:=
 h.setCore _ ⟨rfl,rfl,rfl,rfl,rfl,rfl,rfl,rfl,rfl⟩ (QB.ext (QB.sets h.core (3+i*2) _ (by simp;omega)) (eU A K i q c hi)) (Chg.setCells (S:=(·=A.c)) (AK rfl) _ _ (Chg.refl _ w)) (h.wf.ver hq hc)
theorem Wf.map'{K:BC}(h:Wf K){L:Nat->Int}(hl:AA.Okl L)(hv:∀i,i<25->L i≠-1->1<=K.vs i):Wf { K with L:=L }:=
 ⟨h.chip,h.rr,h.frm,hl,h.vs,hv,h.vc,h.fl,h.nx,h.fr,h.cu,h.qu,h.hea,h.tl⟩
theorem Z0(w:Wd)(x y:Int):(Instr.build 114 #[(0,.int .i64 x),(1,.int .i64 y)]).run prog w=.ok (.agg #[.int .i64 x,.int .i64 y]) w:=kr
theorem cI(h:CoreAt A w K)(t:Bu)(ho:t.o<25)(hq:1<=t.q/\t.q<=1099511627775)(hc:t.c<256):Calls prog 83 #[.pointer (some ⟨A.c,0,none⟩),.agg #[.int .i64 (t.p:Nat),.int .i64 (t.o:Nat),.int .i64 (t.q:Nat),.int .i64 (t.c:Nat),.bool t.l]] w fun e w'=>e=.returned (errV (layK K t).2)/\CoreAt A w' (layK K t).1/\Chg (Cor A) w w':=by
 have T0:=Tg.new w t.p t.o t.q t.c t.l;have G0:Chg No w (w.alloc (.cells #[.int .i64 (t.p:Nat),.int .i64 (t.o:Nat),.int .i64 (t.q:Nat),.int .i64 (t.c:Nat),.bool t.l] 127)):=(Chg.refl _ w).alloc _;have C0:=h.chg0 G0;obtain⟨x1,y1⟩:=C0.cVs t.o ho;obtain⟨x2,y2⟩:=C0.cVc t.o ho;have hz:((t.o:Nat):Int)<25:=om
 have hb:=Z0;have HL:Hid (A.c<w.heap.size):=h.lts.1;have HN:Hid (¬ w.heap.size=A.ma):=by have:=h.lts.2.2.2.2.2.1;show ¬ w.heap.size=A.ma;omega
 have HV:Hid (∀i,i<25->AA.setL K.L (t.o:Nat) (t.p:Nat) i≠-1->1<=upd K.vs t.o t.q i):=fun i hi hl=>by
  unfold upd;split
  ·exact hq.1
  ·rename_i e;refine h.wf.vp i hi ?_;unfold AA.setL at hl;split at hl
   ·unfold upd at hl;rw[AI (by simpa using e)] at hl;exact hl
   ·exact hl
 have H:=BB C0;have G:=BB G0;have HQ:=BB hq;have HC:=BB hc;have HO:=BB ho;clear h C0 G0 T0 hq hc ho;go_enter func83,ntmps83;go_wp2_with fail;go_region;have C1:CoreAt A (((w.alloc (.cells #[.int .i64 (t.p:Nat),.int .i64 (t.o:Nat),.int .i64 (t.q:Nat),.int .i64 (t.c:Nat),.bool t.l] 127)).setCell ⟨A.c,3+t.o*2,none⟩ (.int .i64 (t.q:Nat))).setCell ⟨A.c,3+t.o*2+1,none⟩ (.int .i64 (t.c:Nat))).drew { K with vs:=upd K.vs t.o t.q,vc:=upd K.vc t.o t.c }:=(H.out.setVer HO.out HQ.out HC.out).drewN 1;have T1:Tg (((w.alloc (.cells #[.int .i64 (t.p:Nat),.int .i64 (t.o:Nat),.int .i64 (t.q:Nat),.int .i64 (t.c:Nat),.bool t.l] 127)).setCell ⟨A.c,3+t.o*2,none⟩ (.int .i64 (t.q:Nat))).setCell ⟨A.c,3+t.o*2+1,none⟩ (.int .i64 (t.c:Nat))).drew w.heap.size t.p t.o t.q t.c t.l:=by
  have hl:=HL.out;refine Tg.chg (S:=(·=A.c)) (Tg.new w t.p t.o t.q t.c t.l) ?_ om;exact(((Chg.refl (·=A.c) _).setCell (AK rfl) _ _).setCell (AK rfl) _ _).drew
 have G1:Chg (Cor A) w (((w.alloc (.cells #[.int .i64 (t.p:Nat),.int .i64 (t.o:Nat),.int .i64 (t.q:Nat),.int .i64 (t.c:Nat),.bool t.l] 127)).setCell ⟨A.c,3+t.o*2,none⟩ (.int .i64 (t.q:Nat))).setCell ⟨A.c,3+t.o*2+1,none⟩ (.int .i64 (t.c:Nat))).drew:=(((Chg.cor0 G.out).setCell (AK (AK rfl)) _ _).setCell (AK (AK rfl)) _ _).drew;generalize (((w.alloc (.cells #[.int .i64 (t.p:Nat),.int .i64 (t.o:Nat),.int .i64 (t.q:Nat),.int .i64 (t.c:Nat),.bool t.l] 127)).setCell ⟨A.c,3+t.o*2,none⟩ (.int .i64 (t.q:Nat))).setCell ⟨A.c,3+t.o*2+1,none⟩ (.int .i64 (t.c:Nat))).drew=w1 at *
 obtain⟨c2,-⟩:=C1.cMap;have d0:w1.cell? ⟨w.heap.size,0,none⟩=some (.int .i64 (t.p:Nat)):=T1.cells.1;have d1:w1.cell? ⟨w.heap.size,1,none⟩=some (.int .i64 (t.o:Nat)):=T1.cells.2.1;have H1:=BB C1;have HG1:=BB G1;have HT1:=BB T1;clear C1 T1 G1 x1 y1 x2 y2 H G;go_wp2_with fail
 go_region_held3 (fun wx=>wx.cell? ⟨A.c,2,none⟩=some (.pointer (some ⟨A.ma,0,none⟩))/\wx.cell? ⟨w.heap.size,0,none⟩=some (.int .i64 (t.p:Nat))/\wx.cell? ⟨w.heap.size,1,none⟩=some (.int .i64 (t.o:Nat)))
  (first | exact⟨c2,d0,d1⟩ | exact⟨z2,z0,z1⟩)
  (first | (go_at_call 123;refine(AA.set_v _ A.ma K.L H1.out.map.drew H1.out.wf.map (t.o:Nat) (t.p:Nat)).mono ?_;rintro e w2 ⟨rfl,k2,g2,o2⟩;have C2:=(H1.out.drewN 1).setMap k2 g2 (H1.out.wf.map' o2 HV.out);have T2:=(HT1.out.chg (Chg.refl No w1).drew (fun f=>f)).chg g2 HN.out;have z0:=T2.cells.1;have z1:=T2.cells.2.1;obtain⟨z2,-⟩:=C2.cMap;have HC2:=BB C2;have HG2:=BB (HG1.out.drew.trans g2.cor_ma);clear k2 g2 o2 C2 T2))
 all_goals
  go_wp2;go_ret;exact⟨rfl,HC2.out,HG2.out⟩
end
section
variable {R N S:Nat->Int}{K:BC}{s:BG}(w:Wd)
theorem Hv(h:AF.Fk R N S)(b:Nat)(hb:b<12){n:Int}(hn:n<=0):CH R b n=R:=by
 unfold CH;rw[AJ om];funext j;unfold upd;split
 ·rename_i e;have:=(h b hb).1;rw[e,show ((b:Int)).toNat=b from rfl,Int.max_eq_right hn];omega
 ·rfl
theorem Sh(b:Nat)(hb:b<12)(i:Nat):AF.Fl 65535 (CH R b (i:Nat)) (b:Nat)=CH R b ((i+1:Nat):Int):=by
 rw[AF.Jh _ _ _ hb];unfold CH;rw[AJ om,AJ om];funext j;unfold upd;rw[show ((b:Int)).toNat=b from rfl,AJ rfl];split
 ·omega
 ·rfl
theorem Fk.cnt(h:AF.Fk R N S)(b n:Int):AF.Fk (CH R b n) N S:=fun i hi=>by
 refine⟨?_,(h i hi).2⟩
 have:=(h i hi).1
 unfold CH
 split
 ·
  unfold upd
  split
  ·
   rename_i e;rw[<-e];omega
  ·
   exact this
 ·
  exact this
theorem Wf.hR'(h:Wf K)(hk:AF.Fk R N S):Wf { K with hR:=R,hN:=N,hS:=S }:=
 ⟨h.chip,h.rr,h.frm,h.map,h.vs,h.vp,h.vc,h.fl,h.nx,h.fr,h.cu,h.qu,hk,h.tl⟩
theorem Iu(A:Ad)(w:Wd)(K:BC)(h:CoreAt A w K)(b:Nat)(hb:b<12)(n:Int)(hn6:n<=65536):Calls prog 103 #[.pointer (some ⟨A.c,0,none⟩),.int .i64 (b:Nat),.int .i64 n] w fun e w'=>e=.returned (.tuple #[])/\CoreAt A w' { K with hR:=CH K.hR (b:Nat) n }/\Chg (Cor A) w w':=by
 by_cases hn:n<=0
 ·have hz:¬ (0:Int)<n:=om
  rw[Hv h.wf.hea b hb hn];have H:=BB h;clear h hn hb hn6;go_enter func103,ntmps103;go_wp2
  go_loopg [7] 0 (fun kx s7 wr=>s7=.int .i64 0/\Hid (wr=w))
  case atStart=>exact⟨rfl,rfl⟩
  case round=>
   obtain⟨rfl,HW⟩:=hrel;obtain rfl:=HW.out;go_wp2;go_end0;exact⟨rfl,H.out,Chg.refl _ _⟩
 ·obtain⟨m,rfl⟩:∃m:Nat,n=m:=⟨n.toNat,om⟩;have q:=CX;have HK:=BB h;have HO:=BB h.wf.hea;have HB:=BB hb;have h0:(Hid (CH K.hR (b:Nat) ((0:Nat):Int)=K.hR)):=Hv h.wf.hea b hb om;clear h hn hb;go_enter func103,ntmps103;go_wp2
  go_loopg [7] m (fun kx s7 wr=>∃i:Nat,s7=.int .i64 i/\i<=m/\m - i<=kx/\Hid (CoreAt A wr { K with hR:=CH K.hR (b:Nat) (i:Nat) })/\Hid (Chg (Cor A) w wr))
  case atStart=>exact⟨0,rfl,om,om,by show CoreAt A w _;rw[h0.out];exact HK.out,Chg.refl _ _⟩
  case round=>
   obtain⟨i,rfl,him,hkx,HC,HG⟩:=hrel;by_cases hlt:i<m
   ·have hltz:(i:Int)<(m:Int):=om;obtain⟨c96,-⟩:=HC.out.cHea;have hr:=AF.Oz wr A.h (CH K.hR (b:Nat) (i:Nat)) K.hN K.hS HC.out.hea HC.out.wf.hea (b:Nat);rw[AF.Eb b HB.out,Sh b HB.out i] at hr;replace hr:Calls prog 141 #[.pointer (some ⟨A.h,0,none⟩),.int .i64 (b:Nat)] wr fun e w'=>e=.returned .nilIface/\AF.HB w' A.h 170 (CH K.hR (b:Nat) ((i+1:Nat):Int)) K.hN K.hS/\Chg (·=A.h) wr w':=hr;go_wp2_with fail;refine hr.mono ?_;rintro e w1 ⟨rfl,k1,g1⟩;have HC1:=BB (HC.out.setHea k1 g1 (HC.out.wf.hR' (Fk.cnt HO.out _ _)));have HG1:=BB (HG.out.trans g1.cor_h);clear hr k1 g1 c96 HC HG;go_wp2
    go_roundg (m - (i+1))
    case measure=>omega
    case rel=>exact⟨i+1,by simp,om,AM _,HC1.out,HG1.out⟩
   ·have hltz:¬ (i:Int)<(m:Int):=om;have e:i=m:=om;subst e;go_wp2;go_end0;exact⟨rfl,HC.out,HG.out⟩
theorem Hw(c:Nat):Calls prog 158 #[errV c] w fun e w'=>e=.returned (errV (FE c))/\w'=w:=by
 have q:=Hn;have g:=DC;have hi:=Ib c 7 dc w;unfold FE;by_cases h0:c=0
 ·subst h0;rw[AJ (AK rfl)];replace q:∀w,(binOp .eql 33 (errV 0) .nilIface).run prog w=.ok (.bool true) w:=fun w=>q 0 w;clear hi;go_enter func158,ntmps158;go_wp2;go_ret;exact⟨rfl,rfl⟩
 ·replace q:∀w,(binOp .eql 33 (errV c) .nilIface).run prog w=.ok (.bool false) w:=fun w=>by rw[q c w,AN h0]
  by_cases h7:c=7
  ·subst h7;rw[AJ (AL rfl)];replace hi:Calls prog 46 #[errV 7,.iface 56 (.int .i64 7)] w fun e w'=>e=.returned (.bool true)/\w'=w:=hi;clear h0;go_enter func158,ntmps158;go_wp2_with (go_at_call 46;refine hi.mono ?_;rintro e w1 ⟨rfl,rfl⟩);go_ret;exact⟨rfl,rfl⟩
  ·rw[AI om];rw[AN h7] at hi;replace hi:Calls prog 46 #[errV c,.iface 56 (.int .i64 7)] w fun e w'=>e=.returned (.bool false)/\w'=w:=hi;clear h0 h7;go_enter func158,ntmps158;go_wp2_with (go_at_call 46;refine hi.mono ?_;rintro e w1 ⟨rfl,rfl⟩);go_ret;exact⟨rfl,rfl⟩
theorem Wf.chip'(h:Wf K)(hs:s.Ok):Wf { K with s:=s }:=
 ⟨hs,h.rr,h.frm,h.map,h.vs,h.vp,h.vc,h.fl,h.nx,h.fr,h.cu,h.qu,h.hea,h.tl⟩
theorem Wf.med'(h:Wf K)(hs:s.Ok){r:Int}(hr : -9223372036854775808<=r/\r<9223372036854775808):Wf { K with s:=s,r:=r }:=
 ⟨hs,hr,h.frm,h.map,h.vs,h.vp,h.vc,h.fl,h.nx,h.fr,h.cu,h.qu,h.hea,h.tl⟩
theorem Lj(A:Ad)(w:Wd)(K:BC)(h:CoreAt A w K)(b:Nat)(hb:b<12):Calls prog 144 #[.pointer (some ⟨A.c,0,none⟩),.int .i64 (b:Nat)] w fun e w'=>e=.returned (errV (erK K b).2)/\CoreAt A w' (erK K b).1/\Chg (Cor A) w w':=by
 obtain⟨c0,-⟩:=h.cMed;have he:=O9 A.m A.g A.p A.q A.b K.r K.s h.wf.chip w h.med h.chip (b:Nat);rw[Jc] at he;have q:=Bn;have g:=BL;have HK:=BB h;have HB:=BB hb;have hok:=Hi h.wf.chip (b:Nat);unfold erK;simp only;by_cases hc:(eraseR K.s (b:Nat)).2=0
 ·rw[AJ hc];rw[hc] at he;generalize (eraseR K.s (b:Nat)).1=s1 at *
  have HS:=BB hok;clear h hb hc hok;go_enter func144,ntmps144;go_wp2_with fail;refine he.mono ?_;rintro e w1 ⟨rfl,k1,g1⟩;have C1:=HK.out.setChip k1 g1 (HK.out.wf.chip' HS.out);obtain⟨c96,-⟩:=C1.cHea;have hr:=AF.VH w1 A.h K.hR K.hN K.hS C1.hea C1.wf.hea (b:Nat);rw[AF.Eb b HB.out,AF.EM _ _ HB.out,AF.EM _ _ HB.out] at hr;have HC1:=BB C1;have HG1:=BB g1.cor_g;clear he k1 g1 C1;go_wp2_with fail;refine hr.mono ?_;rintro e w2 ⟨rfl,k2,g2⟩;have ho:=AF.Fk.none HC1.out.wf.hea (b:Nat);rw[AF.EM _ _ HB.out,AF.EM _ _ HB.out] at ho;have HC2:=BB (HC1.out.setHea k2 g2 (HC1.out.wf.hR' ho));have HG2:=BB (HG1.out.trans g2.cor_h);clear hr k2 g2 ho HC1 HG1;go_wp2;go_ret;exact⟨rfl,HC2.out,HG2.out⟩
 ·rw[AI hc];replace q:∀w,(binOp .neq 33 (errV (eraseR K.s (b:Nat)).2) .nilIface).run prog w=.ok (.bool true) w:=fun w=>by rw[q _ w,AN hc];rfl
  generalize (eraseR K.s (b:Nat)).1=s1 at *
  generalize (eraseR K.s (b:Nat)).2=c at *
  have HS:=BB hok;have hf:=Hw;clear h hb hc hok;go_enter func144,ntmps144;go_wp2_with fail;refine he.mono ?_;rintro e w1 ⟨rfl,k1,g1⟩;have HC1:=BB (HK.out.setChip k1 g1 (HK.out.wf.chip' HS.out));have HG1:=BB g1.cor_g;clear he k1 g1;go_wp2_with (go_at_call 158;refine(hf _ c).mono ?_;rintro e w2 ⟨rfl,rfl⟩);go_ret;exact⟨rfl,HC1.out,HG1.out⟩
end
section
variable {A:Ad}{w:Wd}{K:BC}
theorem CoreAt.far{w0:Wd}(h:CoreAt A w K)(h0:∀x,Cor A x\/x=A.p\/x=A.q->x<w0.heap.size){w':Wd}{g:Nat}(hg:w0.heap.size<=g)(hc:Chg (·=g) w w'):CoreAt A w' K:=by
 obtain⟨f1,f2,f3,f4,f5,f6,f7⟩:=h.frame hc;have n:∀x,Cor A x\/x=A.p\/x=A.q->¬ x=g:=fun x hx e=>by have:=h0 x hx;omega
 exact⟨f1 (n _ (AK (AK rfl))),f2 (n _ (AK (AL (AK rfl)))) (n _ (AL (AK rfl))) (n _ (AL (AL rfl))) (n _ (AK (AL (AL (AL (AK rfl)))))),f3 (n _ (AK (AL (AL (AK rfl))))),f4 (n _ (AK (AL (AL (AL (AL (AK rfl))))))),f5 (n _ (AK (AL (AL (AL (AL (AL (AK rfl)))))))),f6 (n _ (AK (AL (AL (AL (AL (AL (AL (AK rfl))))))))),f7 (n _ (AK (AL (AL (AL (AL (AL (AL (AL rfl))))))))),h.wf⟩
theorem CoreAt.low(h:CoreAt A w K):∀x,Cor A x\/x=A.p\/x=A.q->x<w.heap.size:=by
 obtain⟨l1,l2,l3,l4,l5,l6,l7,l8⟩:=h.lts;obtain⟨lm,lp,lq,lb⟩:=h.med.lts;unfold Cor;intro x hx;omega
theorem Lk(z:Int) : -9223372036854775808<=wrap64 z/\wrap64 z<9223372036854775808:=⟨Fa z,Fb z⟩
theorem eV{s:BG}{r a:Int}{s':BG}{r':Int}{g:Pg}{c:Nat}(h:ReadR s r a s' r' g c)(hr : -9223372036854775808<=r/\r<9223372036854775808) : -9223372036854775808<=r'/\r'<9223372036854775808:=by
 rcases h.2.2 with ⟨_,rfl,_⟩ | ⟨_,rfl,_⟩
 ·exact hr
 ·exact Lk _
theorem VV(A:Ad)(w:Wd)(K:BC)(h:CoreAt A w K)(p:Nat)(hp:p<96):Calls prog 88 #[.pointer (some ⟨A.c,0,none⟩),.int .i64 (p:Nat)] w fun e w'=>∃v,e=.returned (.tuple #[SE (rdK K p).2.1 v,errV (rdK K p).2.2])/\Cr w' w.heap.size 5 v (rdK K p).2.1.data/\CoreAt A w' (rdK K p).1/\Chg (Cor A) w w':=by
 have hbd:=Ja;have HP:=BB (Pb.new w false 0 0 0 0 false false (.slice none 0 0) 0);have G0:Chg No w (w.alloc (.cells #[.bool false,.int .i64 0,.int .i64 0,.int .i64 0,.int .i64 0,.bool false,.bool false,.slice none 0 0,.int .i64 0] 129)):=(Chg.refl _ w).alloc _;have C0:=h.chg0 G0;obtain⟨c0,-⟩:=C0.cMed;have hcall:=Hl A.m A.g A.p A.q A.b K.r K.s C0.wf.chip _ C0.med C0.chip (p:Nat);have hs0:(w.alloc (.cells #[.bool false,.int .i64 0,.int .i64 0,.int .i64 0,.int .i64 0,.bool false,.bool false,.slice none 0 0,.int .i64 0] 129)).heap.size=w.heap.size+1:=by simp
 rw[hs0] at hcall;have HLOW:=BB h.low;have HK:=BB C0;have HG:=BB G0;have q:=Bn;have g:=BL;have hpz:0<=((p:Nat):Int)/\((p:Nat):Int)<96:=om
 have hbl:=fun w=>Gm w (p:Nat) hpz;clear h C0 G0 hs0;go_enter func88,ntmps88;go_wp2_with fail;refine hcall.mono ?_;rintro x w1 ⟨s',r',X,c,v,rfl,hR,hO,M1,C1,G1⟩;clear hcall c0;have K1:=HK.out.setMed M1 C1 G1 (HK.out.wf.med' (hR.ok HK.out.wf.chip) (eV hR HK.out.wf.rr));have hs1:=HG.out.size;have n0:¬ (w.heap.size=A.m\/w.heap.size=A.g\/w.heap.size=A.b):=by
  rintro (e | e | e)
  ·have:=HLOW.out A.m (AK (AL (AK rfl)));omega
  ·have:=HLOW.out A.g (AK (AL (AL (AK rfl))));omega
  ·have:=HLOW.out A.b (AK (AL (AL (AL (AK rfl)))));omega
 have HP1:=BB (HP.out.chg G1 n0);have HG1:=BB ((Chg.cor0 (A:=A) HG.out).trans G1.cor_med);have HE:=BB (hR.eq HK.out.wf.tl);have HR:=BB hR;rw[Jc];have HK1:=BB K1;have HO1:=BB hO;clear M1 C1 G1 hR hO n0 hs1 K1 HK HP HG;have HPN:=BB (Pb.new w1 false 0 0 0 0 false false (.slice none 0 0) 0);have HGN:Hid (Chg No w1 (w1.alloc (.cells #[.bool false,.int .i64 0,.int .i64 0,.int .i64 0,.int .i64 0,.bool false,.bool false,.slice none 0 0,.int .i64 0] 129))):=(Chg.refl _ w1).alloc _;have hlt1:=HP1.out.lt;unfold SE;by_cases hc:c=0
 ·subst hc;replace q:∀w,(binOp .neq 33 (errV 0) .nilIface).run prog w=.ok (.bool false) w:=fun w=>q 0 w;go_wp2_with (first | refine wpList_store_pg rfl (.tmp 6) (.tmp 15) rfl w1.heap.size rfl rfl HO1.out.one HPN.out ?_);intro w2 P2 G2;have hz1:=HGN.out.size;have K2:=(HK1.out.chg0 HGN.out).far HLOW.out om G2;have HP2:=BB P2;have HQ2:=BB ((HP1.out.chg HGN.out (fun f=>f)).chg G2 om);have HO2:=BB ((HO1.out.chg HGN.out (fun _ _ _ f=>f)).chg G2 (fun k hk he e=>by have:=HO1.out.block he;omega));have HG2:=BB ((HG1.out.trans HGN.out.cor0).trans' G2 (fun k hk e=>om));have hcnt:=Iu A w2 _ K2 (p / 8) om 1 om;have hbl2:=hbl w2;rw[show ((p:Nat):Int) / 8=((p / 8:Nat):Int) by omega] at hbl2;have hz2:=P2.lt;clear K2 P2 G2 hbl HK1 HO1 HP1 HG1 HPN HGN hz1;go_wp2_with fail;refine hbl2.mono ?_;rintro e w3 ⟨rfl,rfl⟩;clear hbl2;go_wp2_with fail;refine hcnt.mono ?_;rintro e w4 ⟨rfl,K4,G4⟩;have n0:¬ Cor A w.heap.size:=fun e=>by have:=HLOW.out _ (AK e);omega
  have n1:¬ Cor A w1.heap.size:=fun e=>by have:=HLOW.out _ (AK e);omega
  have HP4:=BB (HP2.out.chg G4 n1);have HQ4:=BB (HQ2.out.chg G4 n0);have HO4:=BB (HO2.out.chg G4 (fun k hk he e=>by have:=(HO2.out.block he).1;have:=HLOW.out _ (AK e);omega));have HK4:=BB K4;have HG4:=BB (HG2.out.trans G4);clear hcnt K4 G4 HP2 HQ2 HO2 HG2 n0 n1;go_wp2_with (first | refine wpList_load_pg rfl (.tmp 6) rfl w1.heap.size rfl HP4.out ?_ | refine wpList_store_pg rfl (.tmp 4) (.tmp 25) rfl w.heap.size rfl rfl HO4.out.one HQ4.out ?_);intro w5 P5 G5;have HP5:=BB P5;have HK5:=BB (HK4.out.far HLOW.out (AM _) G5);have HO5:=BB (HO4.out.chg G5 (fun k hk he e=>by have:=(HO4.out.block he).1;omega));have HG5:=BB (HG4.out.trans' G5 (fun k hk e=>om));clear P5 G5 HP4 HQ4 HO4 HK4 HG4;go_wp2;refine AZ (Bz rfl _ rfl HP5.out) rfl ?_;have e1:rdK K p=({ K with s:=s',r:=r',hR:=CH K.hR (p / 8:Nat) 1 },X,0):=by
   unfold rdK;rw[HE.out];rfl
  rw[e1];exact⟨v,rfl,HO5.out.mono (fun k hk=>by have:=(HO5.out.block hk).1;omega),HK5.out,HG5.out⟩
 ·replace q:∀w,(binOp .neq 33 (errV c) .nilIface).run prog w=.ok (.bool true) w:=fun w=>by rw[q c w,AN hc];rfl
  have HC:=BB hc;clear hc;go_wp2_with (first | refine wpList_store_pg rfl (.tmp 6) (.tmp 15) rfl w1.heap.size rfl rfl HO1.out.one HPN.out ?_);intro w2 P2 G2;have hz1:=HGN.out.size;have HK2:=BB ((HK1.out.chg0 HGN.out).far HLOW.out om G2);have HQ2:=BB ((HP1.out.chg HGN.out (fun f=>f)).chg G2 om);have HG2:=BB ((HG1.out.trans HGN.out.cor0).trans' G2 (fun k hk e=>om));clear P2 G2 hbl HK1 HP1 HG1 HPN HGN hz1 HO1;go_wp2_with (first | refine wpList_store_pg rfl (.tmp 4) (.tmp 19) rfl w.heap.size rfl rfl rfl HQ2.out ?_);intro w3 P3 G3;have HP3:=BB P3;have HK3:=BB (HK2.out.far HLOW.out (AM _) G3);have HG3:=BB (HG2.out.trans' G3 (fun k hk e=>om));clear P3 G3 HQ2 HK2 HG2;go_wp2;refine AZ (Bz rfl _ rfl HP3.out) rfl ?_;have e1:rdK K p=({ K with s:=s' },Pg.zero,c):=by
   unfold rdK;rw[HE.out];simp only;rw[AI HC.out]
  have e2:r'=K.r:=by
   rcases HR.out.2.2 with ⟨_,e,_⟩ | ⟨e,_⟩
   ·exact e
   ·exact absurd e HC.out
  have HKK:=HK3.out;rw[e2] at HKK;rw[e1];exact⟨.slice none 0 0,rfl,CC _ _,HKK,HG3.out⟩
end
section
variable {r r':Int}
theorem eW{s:BG}(hs:s.Ok){t:Bu}{D:List Nat}{s':BG}{e:Nat}(h:ProgR s r t.p t.p t.o t.q t.c t.l D s' r' e)(hD:D.length=174)(bD:Bys D):s'.Ok:=by
 have hW:=LV hs t.p (W:=wordOf D (body t.p t.o t.q t.c t.l)) 4 (fun k hk=>(Dw hD bD (By _ _ _ _ _) (Ct _ _ _ _ _) k hk).2.1);rcases h with ⟨_,rfl,_⟩ | ⟨_,g,x,hR,_⟩
 ·exact hW
 ·exact hR.ok hW
theorem Kl(hr : -9223372036854775808<=r/\r<9223372036854775808){n:Nat}(h:(n=0/\r'=r)\/(n=1/\r'=wrap64 (r+1))):wrap64 (r' - r)=(n:Int)/\r'=wrap64 (r+n)/\(-9223372036854775808<=r'/\r'<9223372036854775808):=by
 rcases h with ⟨rfl,rfl⟩ | ⟨rfl,rfl⟩
 ·unfold wrap64;omega
 ·unfold wrap64;omega
theorem VW(A:Ad)(w:Wd)(K:BC)(h:CoreAt A w K)(t:Bu)(hm:DV t.p t.o t.q t.c t.l)(c o cap:Nat)(D:List Nat)(hD:D.length=174)(bD:Bys D)(hA:At w c o D)(hcn:¬ Cor A c) :Calls prog 120 #[.pointer (some ⟨A.c,0,none⟩),.agg #[.int .i64 (t.p:Nat),.int .i64 (t.o:Nat),.int .i64 (t.q:Nat),.int .i64 (t.c:Nat),.bool t.l],.slice (some ⟨c,o,none⟩) 174 cap] w fun e w'=>e=.returned (errV (prK K t D).2)/\CoreAt A w' (prK K t D).1/\Chg (Cor A) w w':=by
 have T0:=Tg.new w t.p t.o t.q t.c t.l;have G0:Chg No w (w.alloc (.cells #[.int .i64 (t.p:Nat),.int .i64 (t.o:Nat),.int .i64 (t.q:Nat),.int .i64 (t.c:Nat),.bool t.l] 127)):=(Chg.refl _ w).alloc _;have C0:=h.chg0 G0;have A0:=hA.chg G0 (fun f=>f);have hlow:=h.low;have hpl:=hm.place;have HLOW:=BB hlow;obtain⟨c0,-⟩:=C0.cMed;obtain⟨u0,u1,u2,u3,u4⟩:=T0.cells;have hrd:=EZ A.m A.g A.p A.q A.b K.r _ C0.med;have HT0:=BB T0;have HG0:=BB G0;have HC0:=BB C0;have HA0:=BB A0;have HCN:=BB hcn;have HM:=BB hm;have HD:=BB hD;have HPL:=BB hpl;clear h C0 G0 T0 A0 hA hcn hm hD hlow hpl;go_enter func120,ntmps120;go_wp2_with fail;refine hrd.mono ?_;rintro e w1 ⟨rfl,rfl⟩;clear hrd;generalize (w.alloc (.cells #[.int .i64 (t.p:Nat),.int .i64 (t.o:Nat),.int .i64 (t.q:Nat),.int .i64 (t.c:Nat),.bool t.l] 127))=w0 at *
 go_wp2_with fail
 go_region_held3 (fun wx=>wx.cell? ⟨A.c,0,none⟩=some (.pointer (some ⟨A.m,0,none⟩))/\wx.cell? ⟨w.heap.size,0,none⟩=some (.int .i64 (t.p:Nat))/\wx.cell? ⟨w.heap.size,1,none⟩=some (.int .i64 (t.o:Nat))/\wx.cell? ⟨w.heap.size,2,none⟩=some (.int .i64 (t.q:Nat))/\wx.cell? ⟨w.heap.size,3,none⟩=some (.int .i64 (t.c:Nat))/\wx.cell? ⟨w.heap.size,4,none⟩=some (.bool t.l))
  (first | exact⟨c0,u0,u1,u2,u3,u4⟩ | exact⟨z0,y0,y1,y2,y3,y4⟩)
  (first | (go_at_call 157;refine(LY A.m A.g A.p A.q A.b K.r K.s HC0.out.wf.chip _ (HC0.out.drewN 1).med (HC0.out.drewN 1).chip t.p t.o t.q t.c t.l HM.out c o cap D HD.out bD (fun e=>HCN.out (AL (AL (AL (AK e))))) (fun e=>HCN.out (AL (AL (AK e)))) (fun e=>HCN.out (AL (AK e))) (HA0.out.chg (Chg.refl No w0).drew (fun f=>f))).mono ?_;rintro e w2 ⟨⟨s',r',x,hP,rfl,M2,C2⟩,G2⟩;obtain⟨n,hE,hn⟩:=hP.eq HC0.out.wf.tl;have K2:=(HC0.out.drewN 1).setMed M2 C2 G2 ((HC0.out.drewN 1).wf.med' (eW HC0.out.wf.chip hP HD.out bD) (Kl HC0.out.wf.rr hn).2.2);have n0:¬ (w.heap.size=A.m\/w.heap.size=A.g\/w.heap.size=A.b):=(fun e=>by have:=HLOW.out w.heap.size (AK (e.elim (fun e=>AL (AK e)) fun e=>e.elim (fun e=>AL (AL (AK e))) fun e=>AL (AL (AL (AK e)))));omega);have T2:=(HT0.out.chg (Chg.refl No w0).drew (fun f=>f)).chg G2 n0;obtain⟨y0,y1,y2,y3,y4⟩:=T2.cells;obtain⟨z0,-⟩:=K2.cMed;have HK2:=BB K2;have HG2:=BB ((Chg.cor0 (A:=A) HG0.out).drew.trans G2.cor_med);have HT2:=BB T2;have HE:=BB hE;have HN:=BB hn;clear hP M2 C2 G2 K2 T2 n0 hE hn))
 all_goals
  obtain⟨hsub,hr2,-⟩:=Kl HC0.out.wf.rr HN.out;have hbl:=fun w=>Gm w (t.p:Nat) (by have:=HPL.out;omega);rw[show ((t.p:Nat):Int) / 8=((t.p / 8:Nat):Int) by omega] at hbl;have HR2:=BB hr2;have hn6:(n:Int)<=65536:=by rcases HN.out with ⟨e,_⟩ | ⟨e,_⟩ <;> omega
  have hi:IntKind.i64.wrap (r' - K.r)=(n:Int):=by rw[IntKind.wrap_i64];unfold wrap64 at hsub;exact hsub
  clear hr2 c0 u0 u1 u2 u3 u4 y1 y2 y3 y4;go_wp2_with fail
  go_region_held3 (fun wx=>wx.cell? ⟨A.c,0,none⟩=some (.pointer (some ⟨A.m,0,none⟩))/\wx.cell? ⟨w.heap.size,0,none⟩=some (.int .i64 (t.p:Nat)))
   (first | exact⟨z0,y0⟩ | exact⟨z4,y4⟩)
   (first
    | (go_at_call 90;refine(hbl _).mono ?_;rintro e w3 ⟨rfl,rfl⟩)
    | (go_at_call 156;refine(EZ A.m A.g A.p A.q A.b r' _ (HK2.out.drewN 1).med).mono ?_;rintro e w3 ⟨rfl,rfl⟩)
    | (go_at_call 103;refine(Iu A _ _ (HK2.out.drewN 1) (t.p / 8) (by have:=HPL.out;omega) (n:Int) hn6).mono ?_;rintro e w4 ⟨rfl,K4,G4⟩;have T4:=(HT2.out.chg (Chg.refl No w2).drew (fun f=>f)).chg G4 (fun e=>by have:=HLOW.out _ (AK e);omega);have y4:=T4.cells.1;obtain⟨z4,-⟩:=K4.cMed;have HK4:=BB K4;have HG4:=BB (HG2.out.drew.trans G4);clear K4 G4 T4))
  all_goals
   have hf:=Hw w4 x;rw[Jc];clear hsub hbl z0 y0 hi;go_wp2_with (go_at_call 158;refine hf.mono ?_;rintro e w5 ⟨rfl,rfl⟩);go_ret;have e1:prK K t D=({ K with s:=s',r:=r',hR:=CH K.hR (t.p / 8:Nat) (n:Nat) },FE x):=by
    unfold prK;rw[HE.out,HR2.out]
   rw[e1];exact⟨rfl,HK4.out,HG4.out⟩
end
section
variable {w:Wd}{a:Act}{o:Oper}{ops:Array Oper}{K:Act->World->Prop}{Q:Exit->Act->World->Prop}{E:Prop}
theorem Z1(w:Wd)(F:Nat->Int)(n c:Int):(Instr.build 142 #[(0,.agg (ints F 24).toArray),(1,.int .i64 n),(3,.int .i64 c)]).run prog w=.ok (.agg (AB.ckA ⟨F,n,fun _=>false,c,fun _=>0,fun _=>0⟩)) w:=kr
theorem Gq{x y z:Operand}{F:Nat->Int}{n c:Int}(ho:o.op=.build 142 #[(0,x),(1,y),(3,z)])(hx:a.eval x=.agg (ints F 24).toArray)(hy:a.eval y=.int .i64 n)(hz:a.eval z=.int .i64 c):(execOp a.eval o).run prog w=.ok (.value (.agg (AB.ckA ⟨F,n,fun _=>false,c,fun _=>0,fun _=>0⟩))) w:=by
 have hb:=Z1 w F n c;unfold execOp;rw[ho];simp only[map_toArray,map_cons,map_nil,hx,hy,hz];generalize Instr.build 142 #[(0,.agg (ints F 24).toArray),(1,.int .i64 n),(3,.int .i64 c)]=b at *
 simp[hb]
theorem Fs(hgd:o.guard=none)(ho:o.op=.alloc 142)(h:K (a.put o.dst (.pointer (some ⟨w.heap.size,0,none⟩))) (w.alloc (.cells (AB.ckA AB.ck0) 142))):if Region.wanted o (yielded ops a.tmps)=true then Oper.wp prog o a w K Q else E:=by
 rw[AJ (by simp[Region.wanted,hgd])];have hz:=AB.VL;unfold Oper.wp;simp[execOp,ho,Instr.alloc,hz,newVar,Value.cells,newRow];exact h
theorem Ft(hgd:o.guard=none)(x y:Operand)(ho:o.op=.store 142 x y)(g:Nat)(hx:a.eval x=.pointer (some ⟨g,0,none⟩))(c:AB.Bp)(hy:a.eval y=.agg (AB.ckA c)){c0:AB.Bp}(hg:AB.Ck w g c0)(h:∀w',AB.Ck w' g c->Chg (·=g) w w'->K (a.put o.dst undef) w'):if Region.wanted o (yielded ops a.tmps)=true then Oper.wp prog o a w K Q else E:=by
 rw[AJ (by simp[Region.wanted,hgd])];exact wp_store_row 142 x y ho g _ hx hy 142 _ hg (by rw[AB.Cd];exact AB.size26) (by rw[AB.Cd,AB.Cd]) (AB.Qs c) (h _ (setRow_heap w g _ _ 142 _ hg) (DF _ _ _))
theorem CoreAt.partFl{A:Ad}{K:BC}(h:CoreAt A w K):w.rangeAt A.c 53 (ints K.fl 24):=fun j v hv=>by
 have hj:j<24:=by have:=(List.getElem?_eq_some_iff.1 hv).1;rwa [BD] at this
 rw[BM _ _ _ hj] at hv
 rw[(h.cFl j hj).1,<-hv];rfl
theorem VX(a b m m':List Value)(h:m.length=m'.length):(a ++ (m ++ b)).take a.length ++ m' ++ (a ++ (m ++ b)).drop (a.length+m'.length)=a ++ (m' ++ b):=by
 rw[take_left' rfl,<-h,drop_append,Ax om,A6,show a.length+m.length - a.length=m.length by omega,drop_left' rfl,Aq]
theorem VY(c:AB.Bp)(R:Nat->Int):(AB.ckL c).take 38 ++ ints R 12 ++ (AB.ckL c).drop (38+(ints R 12).length)=AB.ckL { c with R:=R }:=by
 have e:∀X:Nat->Int,AB.ckL { c with R:=X }=(ints c.F 24 ++ ([i6 c.N] ++ (bools c.B 12 ++ [i6 c.C]))) ++ (ints X 12 ++ ints c.S 12):=fun X=>by simp[AB.ckL]
 have h:=VX (ints c.F 24 ++ ([i6 c.N] ++ (bools c.B 12 ++ [i6 c.C]))) (ints c.S 12) (ints c.R 12) (ints R 12) (by simp[BD]);have l:(ints c.F 24 ++ ([i6 c.N] ++ (bools c.B 12 ++ [i6 c.C]))).length=38:=by simp[BD,BT]
 rw[l,<-e,<-e] at h;exact h
theorem VZ(c:AB.Bp)(R:Nat->Int):(AB.ckL c).take 50 ++ ints R 12 ++ (AB.ckL c).drop (50+(ints R 12).length)=AB.ckL { c with S:=R }:=by
 have e:∀X:Nat->Int,AB.ckL { c with S:=X }=(ints c.F 24 ++ ([i6 c.N] ++ (bools c.B 12 ++ ([i6 c.C] ++ ints c.R 12)))) ++ (ints X 12 ++ []):=fun X=>by simp[AB.ckL]
 have h:=VX (ints c.F 24 ++ ([i6 c.N] ++ (bools c.B 12 ++ ([i6 c.C] ++ ints c.R 12)))) [] (ints c.S 12) (ints R 12) (by simp[BD]);have l:(ints c.F 24 ++ ([i6 c.N] ++ (bools c.B 12 ++ ([i6 c.C] ++ ints c.R 12)))).length=50:=by simp[BD,BT]
 rw[l,<-e,<-e] at h;exact h
theorem Gr{p:Oper}(hgd:p.guard=none)(d s:Operand)(ho:p.op=.call { callee:=.builtin .copy,args:=#[d,s],argTypes:=#[22,22] })(b o g:Nat)(hd:a.eval d=.slice (some ⟨b,o,none⟩) 12 12)(hs:a.eval s=.slice (some ⟨g,0,none⟩) 12 12){c c':AB.Bp}{R:Nat->Int}(hC:AB.Ck w b c)(hR:IB w g 3 12 R)(hn:o+12<=62)(he:(AB.ckL c).take o ++ ints R 12 ++ (AB.ckL c).drop (o+(ints R 12).length)=AB.ckL c')(h:∀w',AB.Ck w' b c'->Chg (·=b) w w'->K (a.put p.dst (goInt 12)) w') :if Region.wanted p (yielded ops a.tmps)=true then Oper.wp prog p a w K Q else E:=by
 have hw:Region.wanted p (yielded ops a.tmps)=true:=by simp[Region.wanted,hgd]
 rw[AJ hw];have hlen:(ints R 12).length=12:=BD _ _;have hrun:=run_copy_row (P:=prog) w 22 22 p.type 3 b o 12 12 ⟨g,0,none⟩ 12 12 (AB.ckA c) 142 (ints R 12) underlying22 AE.size3 hC (by rw[hlen];rfl) (fun j v hv=>by
  have hj:j<12:=by have:=(List.getElem?_eq_some_iff.1 hv).1;rwa [hlen] at this
  rw[Addr.add_mid,BM _ _ _ hj] at *
  rw[<-hv,AW,(hR.cell j hj).1];rfl) (by rw[hlen,AB.Cd];omega) (CK _ _)
 rw[show (AB.ckA c).toList=AB.ckL c from rfl,he,hlen] at hrun;unfold Oper.wp;simp[execOp,ho,resolve,invoke,builtin,hd,hs,hrun,Result.andThen];exact h _ (setRow_heap w b _ _ 142 _ hC) (DF _ _ _)
theorem Va(g:Nat->Bool)(i:Nat):upd (fun b=>if b<i then g b else false) i (g i)=fun b=>if b<i+1 then g b else false:=by
 funext j;unfold upd;by_cases e:j=i
 ·subst e;rw[AJ rfl,AJ om]
 ·rw[AI e];show (if j<i then g j else false)=_;by_cases e2:j<i
  ·rw[AJ e2,AJ om]
  ·rw[AI e2,AI om]
theorem lu(A:Ad)(w:Wd)(K:BC)(h:CoreAt A w K)(q:Int):Calls prog 95 #[.pointer (some ⟨A.c,0,none⟩),.int .i64 q] w fun e w'=>e=.returned (.agg (AB.ckA (ckK K q)))/\CoreAt A w' K/\Chg No w w':=by
 have hu:=underlying116;have hsz:=AB.VJ;have HK:=BB h;have HLOW0:=BB h.low;clear h;go_enter func95,ntmps95;go_wp2_with (refine AB.Cg rfl rfl ?_);have HK0:=BB (HK.out.chg0 ((Chg.refl No w).alloc (.cells (AB.ckA AB.ck0) 142)));have HR0:=BB (AB.Ck.new w AB.ck0);have HG0:Hid (Chg No w (w.alloc (.cells (AB.ckA AB.ck0) 142))):=(Chg.refl _ w).alloc _;have HLOW:Hid (∀x,Cor A x\/x=A.p\/x=A.q->x<w.heap.size):=HLOW0.out;generalize w.alloc (.cells (AB.ckA AB.ck0) 142)=w0 at *
 have HSS:Hid (∀u,CoreAt A u K->(u.cell? ⟨A.c,82,none⟩=some (.pointer (some ⟨A.pa,0,none⟩))/\u.rangeAt A.c 53 (ints K.fl 24))):=fun u hu=>⟨hu.cPat.1,hu.partFl⟩;refine wp_region_noPanic ?_;refine wp_region_held_drew (S:=fun wx=>wx.cell? ⟨A.c,82,none⟩=some (.pointer (some ⟨A.pa,0,none⟩))/\wx.rangeAt A.c 53 (ints K.fl 24)) kr (HSS.out _ (HK0.out.drewN 1)) (fun hHeld=>?_);refine Ab (i:=0) rfl kr kr kr (fun _ _ _ h=>h) (AK ⟨rfl,fun _ _=>rfl⟩) hHeld ?_;simp only[Act.put,getElem_toArray,getElem_cons_zero,setIfInBounds_toArray,set_cons_zero,set_cons_succ];refine Ab (i:=1) rfl kr kr kr (fun _ _ _ h=>h) (AK ⟨rfl,fun _ _=>rfl⟩) hHeld ?_;simp only[Act.put,bu];refine Ab (i:=2) rfl kr kr kr (fun _ _ _ h=>h) (AK ⟨rfl,fun _ _=>rfl⟩) hHeld ?_;simp only[Act.put,bu];refine Ab (i:=3) rfl kr kr kr (fun _ _ _ h=>h) (yieldsIf_load_mid rfl 116 _ rfl A.c 53 rfl (ints K.fl 24) _ (fun w hw=>hw.2) hu rfl (by rw[hsz];rw[BD])) hHeld ?_;simp only[Act.put,bu];refine Ab (i:=4) rfl kr kr kr (fun _ _ _ h=>h) (AK ⟨rfl,fun _ _=>rfl⟩) hHeld ?_;simp only[Act.put,bu];refine Ab (i:=5) rfl kr kr kr (fun _ _ _ h=>h) (AK ⟨rfl,fun _ _=>rfl⟩) hHeld ?_;simp only[Act.put,bu];refine Ab (i:=6) rfl kr kr kr (fun _ _ _ h=>h) (AK ⟨rfl,fun _ _=>rfl⟩) hHeld ?_;simp only[Act.put,bu];refine Ab (i:=7) rfl kr kr kr (fun _ _ _ h=>h) (AK ⟨rfl,fun _ _=>rfl⟩) hHeld ?_;simp only[Act.put,bu];refine Ab (i:=8) (v:=.pointer (some ⟨A.pa,0,none⟩)) rfl kr kr kr (fun _ _ _ h=>h) (AK ⟨rfl,fun w hw=>by obtain⟨s1,-⟩:=hw;go_simp⟩) hHeld ?_;simp only[Act.put,bu];refine wpAnyH_ready (rs:=[9,11]) kr (by simp) ?_;refine AllReadyH.cons rfl (fun K' hK=>?_) (AllReadyH.cons rfl (fun K' hK=>?_) AllReadyH.nil)
 case' refine_1=>
  go_simp;refine(AE.Ea _ A.pa K.cu K.ca (HK0.out.drewN 1).pat).mono ?_;rintro e w1 ⟨rfl,rfl⟩;refine hK.out _ _ (HSS.out _ (HK0.out.drewN 1)) (fun hHeld=>?_);clear hK K';refine Ab (i:=10) rfl kr kr kr (fun _ _ _ h=>h) (AK ⟨rfl,fun _ _=>Gq rfl rfl rfl rfl⟩) hHeld ?_;simp only[Act.put,bu];refine wpAnyH_ready (rs:=[11]) kr (by simp) ?_;refine AllReadyH.cons rfl (fun K' hK=>?_) AllReadyH.nil;refine Fs rfl rfl ?_;refine hK.out _ _ (HSS.out _ ((HK0.out.drewN 1).chg0 ((Chg.refl No w0.drew).alloc _))) (fun hHeld=>?_);clear hK K';simp only[Act.put,bu];refine wpAnyH_ready (rs:=[12]) kr (by simp) ?_;refine AllReadyH.cons rfl (fun K' hK=>?_) AllReadyH.nil;refine Ft rfl (.tmp 5) (.tmp 18) rfl w0.heap.size rfl ⟨K.fl,q,fun _=>false,K.cu,fun _=>0,fun _=>0⟩ rfl (AB.Ck.new w0.drew AB.ck0) ?_;intro w2 C2 G2;have K2:=((HK0.out.drewN 1).chg0 ((Chg.refl No w0.drew).alloc (.cells (AB.ckA AB.ck0) 142))).far HLOW.out (Nat.le_of_lt HR0.out.lt) G2;refine hK.out _ _ (HSS.out _ K2) (fun hHeld=>?_);clear hK K' hHeld;simp only[Act.put,getElem_toArray,getElem_cons_zero,getElem_cons_succ];refine wpAnyH_done kr ?_ _;refine NoPanic.normal ?_;have HR2:=BB ((HR0.out.chg ((Chg.refl No w0).drew.alloc (.cells (AB.ckA AB.ck0) 142)) (fun f=>f)).chg G2 (by have:=HR0.out.lt;omega));have HG2:=BB ((HG0.out.trans ((Chg.refl No w0).drew.alloc (.cells (AB.ckA AB.ck0) 142))).trans' G2 (fun k hk e=>by have:=HG0.out.size;omega));have HC2:=BB C2;have HK2:=BB K2;clear C2 G2 K2
 case' refine_2=>
  refine Fs rfl rfl ?_;refine hK.out _ _ (HSS.out _ ((HK0.out.drewN 1).chg0 ((Chg.refl No w0.drew).alloc _))) (fun hHeld=>?_);clear hK K';simp only[Act.put,bu];refine wpAnyH_ready (rs:=[9]) kr (by simp) ?_;refine AllReadyH.cons rfl (fun K' hK=>?_) AllReadyH.nil;go_simp;refine(AE.Ea _ A.pa K.cu K.ca ((HK0.out.drewN 1).chg0 ((Chg.refl No w0.drew).alloc (.cells (AB.ckA AB.ck0) 142))).pat).mono ?_;rintro e w1 ⟨rfl,rfl⟩;refine hK.out _ _ (HSS.out _ ((HK0.out.drewN 1).chg0 ((Chg.refl No w0.drew).alloc _))) (fun hHeld=>?_);clear hK K';refine Ab (i:=10) rfl kr kr kr (fun _ _ _ h=>h) (AK ⟨rfl,fun _ _=>Gq rfl rfl rfl rfl⟩) hHeld ?_;simp only[Act.put,bu];refine wpAnyH_ready (rs:=[12]) kr (by simp) ?_;refine AllReadyH.cons rfl (fun K' hK=>?_) AllReadyH.nil;refine Ft rfl (.tmp 5) (.tmp 18) rfl w0.heap.size rfl ⟨K.fl,q,fun _=>false,K.cu,fun _=>0,fun _=>0⟩ rfl (AB.Ck.new w0.drew AB.ck0) ?_;intro w2 C2 G2;have K2:=((HK0.out.drewN 1).chg0 ((Chg.refl No w0.drew).alloc (.cells (AB.ckA AB.ck0) 142))).far HLOW.out (Nat.le_of_lt HR0.out.lt) G2;refine hK.out _ _ (HSS.out _ K2) (fun hHeld=>?_);clear hK K' hHeld;simp only[Act.put,getElem_toArray,getElem_cons_zero,getElem_cons_succ];refine wpAnyH_done kr ?_ _;refine NoPanic.normal ?_;have HR2:=BB ((HR0.out.chg ((Chg.refl No w0).drew.alloc (.cells (AB.ckA AB.ck0) 142)) (fun f=>f)).chg G2 (by have:=HR0.out.lt;omega));have HG2:=BB ((HG0.out.trans ((Chg.refl No w0).drew.alloc (.cells (AB.ckA AB.ck0) 142))).trans' G2 (fun k hk e=>by have:=HG0.out.size;omega));have HC2:=BB C2;have HK2:=BB K2;clear C2 G2 K2
 all_goals
  have hN0:=HR0.out.lt;have hNG:=HC2.out.lt;obtain⟨N,HN⟩:∃N,Hid (N=w0.heap.size):=⟨_,rfl⟩;rw[<-HN.out] at HC2 hNG hN0
  try rw[show (w0.drewN 1).heap.size=N from HN.out.symm]
  try rw[show w0.drew.heap.size=N from HN.out.symm]
  try rw[show w0.heap.size=N from HN.out.symm]
  have hst:=AD.Dj w2 A.po K.F HK2.out.pool;obtain⟨c1,-⟩:=HK2.out.cPool;clear HK0 HK HG0 HR0 HSS hu hsz;go_wp2_with fail;refine hst.mono ?_;rintro e w3 ⟨rfl,I3,G3⟩;have HK3:=BB (HK2.out.chg0 G3);have HC3:=BB (HC2.out.chg G3 (fun f=>f));have HR3:=BB (HR2.out.chg G3 (fun f=>f));have HG3:=BB (HG2.out.trans G3);have HI3:=BB I3;have HW2:Hid (N<w2.heap.size):=hNG;obtain⟨M,HM⟩:∃M,Hid (M=w2.heap.size):=⟨_,rfl⟩;rw[<-HM.out] at HI3 ⊢;clear hst c1 I3 G3 HK2 HC2 HR2 HG2;go_wp2_with fail
  go_loopg [25] 12 (fun kx s25 wr=>∃i:Nat,s25=.int .i64 i/\i<=12/\12 - i<=kx/\Hid (AB.Ck wr N ⟨K.fl,q,fun b=>if b<i then decide (K.F b=3) else false,K.cu,fun _=>0,fun _=>0⟩)/\Hid (CoreAt A wr K)/\Hid (AB.Ck wr w.heap.size AB.ck0)/\Hid (IB wr M 3 12 K.F)/\Hid (Chg No w wr))
  case atStart=>exact⟨0,rfl,om,om,HC3.out,HK3.out,HR3.out,HI3.out,HG3.out⟩
  case round=>
   obtain⟨i,rfl,hi12,hkx,HC,HKr,HR,HI,HG⟩:=hrel;by_cases hlt:i<12
   ·have hltz:(i:Int)<12:=om;obtain⟨ci,-⟩:=HI.out.cell i hlt;have cb:=HC.out.B i hlt;have fb:=HC.out.frozen (25+i);have hne:¬ M=N:=(by have:=HM.out;have:=HW2.out;omega);have hne2:¬ w.heap.size=N:=om;have GN:Chg (·=N) wr (wr.setCell ⟨N,25+i,none⟩ (.bool (decide (K.F i=3)))):=(Chg.refl (·=N) wr).setCell (AK rfl) _ _;have HC4:Hid (AB.Ck (wr.setCell ⟨N,25+i,none⟩ (.bool (decide (K.F i=3)))) N ⟨K.fl,q,fun b=>if b<i+1 then decide (K.F b=3) else false,K.cu,fun _=>0,fun _=>0⟩):=by
     have:=HC.out.setB i hlt (decide (K.F i=3));have e:=Va (fun b=>decide (K.F b=3)) i;rw[show ({ (⟨K.fl,q,fun b=>if b<i then decide (K.F b=3) else false,K.cu,fun _=>0,fun _=>0⟩:AB.Bp) with B:=upd (fun b=>if b<i then decide (K.F b=3) else false) i (decide (K.F i=3)) }:AB.Bp)=⟨K.fl,q,fun b=>if b<i+1 then decide (K.F b=3) else false,K.cu,fun _=>0,fun _=>0⟩ by rw[e]] at this;exact this
    have HK4:=BB (HKr.out.far HLOW.out (Nat.le_of_lt hN0) GN);have HR4:=BB (HR.out.chg GN hne2);have HI4:=BB (HI.out.chg GN hne);have HG4:=BB (HG.out.trans' GN (fun k hk e=>om));have HEQ:Hid ((K.F i == 3)=decide (K.F i=3)):=by show (K.F i == 3)=decide (K.F i=3);by_cases e:K.F i=3 <;> simp[e]
    generalize decide (K.F i=3)=bb at *
    generalize K.F i=fi at *
    have heq:(fi == 3)=bb:=HEQ.out;clear HC HKr HR HI HG GN HEQ;go_wp2
    go_roundg (12 - (i+1))
    case measure=>omega
    case rel=>exact⟨i+1,by simp,om,AM _,HC4.out,HK4.out,HR4.out,HI4.out,HG4.out⟩
   ·have hltz:¬ (i:Int)<12:=om;have e12:i=12:=om;subst e12;have HC5:Hid (AB.Ck wr N ⟨K.fl,q,fun b=>decide (K.F b=3),K.cu,fun _=>0,fun _=>0⟩):=by
     have:=HC.out;refine Eq.trans (show wr.heap[N]?=_ from this) ?_;rw[show AB.ckA ⟨K.fl,q,fun b=>if b<12 then decide (K.F b=3) else false,K.cu,fun _=>0,fun _=>0⟩=AB.ckA ⟨K.fl,q,fun b=>decide (K.F b=3),K.cu,fun _=>0,fun _=>0⟩ from AB.Sd (fun _ _=>rfl) rfl (fun j hj=>AJ hj) rfl (fun _ _=>rfl) (fun _ _=>rfl)]
    clear HC HI;have hs1:=AE.Dc N 38;obtain⟨c96,-⟩:=HKr.out.cHea;have hne2:¬ w.heap.size=N:=om;go_wp2_with fail
    go_region_held3 (fun wx=>wx.cell? ⟨A.c,96,none⟩=some (.pointer (some ⟨A.h,0,none⟩)))
     (first | exact c96 | exact z96 | exact y96)
     (first
      | (refine Gr rfl (.tmp 37) (.tmp 42) rfl N 38 (wr.heap.size+1) rfl rfl HC6.out HI6.out om (VY _ _) ?_;intro w7 C7 G7;have HC7:=BB C7;have K7:=HK6.out.far HLOW.out (Nat.le_of_lt hN0) G7;obtain⟨y96,-⟩:=K7.cHea;have HK7:=BB K7;have HR7:=BB (HR6.out.chg G7 hne2);have HG7:=BB (HG6.out.trans' G7 (fun k hk e=>om));clear C7 G7 K7 HC6 HI6 HK6 HR6 HG6)
      | (go_at_call 54;refine(AF.Qp _ A.h K.hR K.hN K.hS (HKr.out.drewN 1).hea HKr.out.wf.hea).mono ?_;rintro e w6 ⟨rfl,I6,G6⟩;have K6:=(HKr.out.drewN 1).chg0 G6;obtain⟨z96,-⟩:=K6.cHea;have HI6:=BB I6;have HK6:=BB K6;have HC6:=BB ((HC5.out.chg (Chg.refl No wr).drew (fun f=>f)).chg G6 (fun f=>f));have HR6:=BB ((HR.out.chg (Chg.refl No wr).drew (fun f=>f)).chg G6 (fun f=>f));have HG6:=BB (HG.out.drew.trans G6);clear I6 G6 K6))
    all_goals
     have hs2:=AE.Dc N 50;obtain⟨c96,-⟩:=HK7.out.cHea;clear hs1;go_wp2_with fail
     go_region_held3 (fun wx=>wx.cell? ⟨A.c,96,none⟩=some (.pointer (some ⟨A.h,0,none⟩)))
      (first | exact c96 | exact z96 | exact y96)
      (first
       | (refine Gr rfl (.tmp 45) (.tmp 50) rfl N 50 (w7.heap.size+1) rfl rfl HC8.out HI8.out om (VZ _ _) ?_;intro w9 C9 G9;have HC9:=BB C9;have K9:=HK8.out.far HLOW.out (Nat.le_of_lt hN0) G9;obtain⟨y96,-⟩:=K9.cHea;have HK9:=BB K9;have HR9:=BB (HR8.out.chg G9 hne2);have HG9:=BB (HG8.out.trans' G9 (fun k hk e=>om));clear C9 G9 K9 HC8 HI8 HK8 HR8 HG8)
       | (go_at_call 55;refine(AF.NQ _ A.h K.hR K.hN K.hS (HK7.out.drewN 1).hea HK7.out.wf.hea).mono ?_;rintro e w8 ⟨rfl,I8,G8⟩;have K8:=(HK7.out.drewN 1).chg0 G8;obtain⟨z96,-⟩:=K8.cHea;have HI8:=BB I8;have HK8:=BB K8;have HC8:=BB ((HC7.out.chg (Chg.refl No w7).drew (fun f=>f)).chg G8 (fun f=>f));have HR8:=BB ((HR7.out.chg (Chg.refl No w7).drew (fun f=>f)).chg G8 (fun f=>f));have HG8:=BB (HG7.out.drew.trans G8);clear I8 G8 K8))
     all_goals
      clear c96 hs2;go_wp2_with (first | refine AB.Bf rfl (.tmp 5) rfl N rfl HC9.out ?_ | refine AB.Cf rfl (.tmp 4) (.tmp 52) rfl w.heap.size rfl rfl HR9.out ?_);intro w10 C10 G10;have HC10:=BB C10;have HK10:=BB (HK9.out.far HLOW.out (AM _) G10);have HG10:=BB (HG9.out.trans' G10 (fun k hk e=>om));clear C10 G10 HC9 HK9 HG9;go_wp2;refine AZ (AB.NT rfl _ rfl HC10.out) rfl ?_;exact⟨rfl,HK10.out,HG10.out⟩
end
section
variable (w:Wd)
structure Hold (A:Ad) (w0:Wd) (f:FuncId) (cp:Array Value) (H:Dp):Prop where
 ent:∀args w,(callFunc f args).run prog w=.ok (.enter f args) w
 len:∀K q,(H K q).length=174
 bys:∀K q,Bys (H K q)
 run:∀w K (q:Nat),CoreAt A w K->Chg (Cor A) w0 w->1<=q/\q<=1099511627775->Calls prog f (#[.int .i64 (q:Nat)] ++ cp) w fun e w'=>∃g,e=.returned (.slice (some ⟨g,0,none⟩) 174 174)/\w.heap.size<=g/\At w' g 0 (H K q)/\Chg No w w'
theorem Wf.nt{K:BC}(h:Wf K):Wf (ntK K):=⟨h.chip,h.rr,h.frm,h.map,h.vs,h.vp,h.vc,h.fl,h.nx,h.fr,h.cu,h.qu,AF.Fk.noted h.hea,h.tl⟩
theorem Gs:(zeroValue 127).run prog w=.ok (.agg #[.int .i64 0,.int .i64 0,.int .i64 0,.int .i64 0,.bool false]) w:=kr
theorem Vb(x y z:Int):(Instr.build 127 #[(0,.int .i64 x),(1,.int .i64 y),(2,.int .i64 z)]).run prog w=.ok (.agg #[.int .i64 x,.int .i64 y,.int .i64 z,.int .i64 0,.bool false]) w:=kr
theorem Sj:(Instr.build 127 #[]).run prog w=.ok (.agg #[.int .i64 0,.int .i64 0,.int .i64 0,.int .i64 0,.bool false]) w:=kr
theorem Qx(A:Ad)(w0:Wd)(f:FuncId)(cp:Array Value)(H:Dp)(hH:Hold A w0 f cp H)(w:Wd)(K:BC)(h:CoreAt A w K)(hw:Chg (Cor A) w0 w)(p o:Nat)(hm:DV p o K.nx 0 false) :Calls prog 82 #[.pointer (some ⟨A.c,0,none⟩),.int .i64 (p:Nat),.int .i64 (o:Nat),.func (.func f) #[] cp] w fun e w'=>e=.returned (.tuple #[.agg #[.int .i64 ((frK H K p o).2.1.p:Nat),.int .i64 ((frK H K p o).2.1.o:Nat),.int .i64 ((frK H K p o).2.1.q:Nat),.int .i64 ((frK H K p o).2.1.c:Nat),.bool (frK H K p o).2.1.l],errV (frK H K p o).2.2])/\CoreAt A w' (frK H K p o).1/\Chg (Cor A) w w':=by
 have hz:=Gs;have hb:=Vb;have hb0:=Sj;have T0:=Tg.new w 0 0 0 0 false;have G0:Chg No w (w.alloc (.cells #[.int .i64 0,.int .i64 0,.int .i64 0,.int .i64 0,.bool false] 127)):=(Chg.refl _ w).alloc _;have C0:=h.chg0 G0;obtain⟨c78,-⟩:=C0.cSp;have HLOW:=BB h.low;have HW:=BB hw;have HM:=BB hm;have HH:=BB hH;have HC0:=BB C0;have HT0:=BB T0;have HG0:=BB G0;cases hsp:K.sp
 ·rw[hsp] at c78;have HSP:=BB hsp;clear hsp;have hsq:=kG A _ K C0;clear h hw hm hH C0 T0 G0;go_enter func82,ntmps82;go_wp2_with fail;refine hsq.mono ?_;rintro e w1 ⟨rfl,k1,g1⟩;have hl1:=HT0.out.lt;have hs1:=g1.size;have n0:¬ Cor A w.heap.size:=fun e=>by have:=HLOW.out _ (AK e);omega
  have n1:¬ Cor A w1.heap.size:=fun e=>by have:=HLOW.out _ (AK e);omega
  have HT1:=BB ((HT0.out.chg g1 n0).alloc (.cells #[.int .i64 (p:Nat),.int .i64 (o:Nat),.int .i64 (K.nx:Nat),.int .i64 0,.bool false] 127));have HV1:=BB (Tg.new w1 (p:Nat) (o:Nat) (K.nx:Nat) 0 false);have GA:Chg No w1 (w1.alloc (.cells #[.int .i64 (p:Nat),.int .i64 (o:Nat),.int .i64 (K.nx:Nat),.int .i64 0,.bool false] 127)):=(Chg.refl _ w1).alloc _;have HK1:=BB (k1.chg0 GA);have HG1:=BB (((Chg.cor0 (A:=A) HG0.out).trans g1).trans GA.cor0);clear hsq k1 g1 GA c78 HT0 HG0 HC0;go_wp2_with fail;generalize (w1.alloc (.cells #[.int .i64 (p:Nat),.int .i64 (o:Nat),.int .i64 (K.nx:Nat),.int .i64 0,.bool false] 127))=w2 at *
  obtain⟨u0,u1,u2,u3,u4⟩:=HV1.out.cells;have hen:=HH.out.ent;have HN:=BB n1;have HN0:=BB n0;have HQ:Hid (1<=K.nx/\K.nx<=1099511627775):=by
   obtain⟨⟨_,_,h3,_⟩,_⟩:=HM.out;show 1<=K.nx/\K.nx<=1099511627775;omega
  have SS:∀u,Tg u w1.heap.size (p:Nat) (o:Nat) (K.nx:Nat) 0 false->(u.cell? ⟨w1.heap.size,0,none⟩=some (.int .i64 (p:Nat))/\u.cell? ⟨w1.heap.size,1,none⟩=some (.int .i64 (o:Nat))/\u.cell? ⟨w1.heap.size,2,none⟩=some (.int .i64 (K.nx:Nat))/\u.cell? ⟨w1.heap.size,3,none⟩=some (.int .i64 0)/\u.cell? ⟨w1.heap.size,4,none⟩=some (.bool false)):=fun u hu=>hu.cells;have HSS:=BB SS;clear n1 n0 SS hz hb
  go_region_held3 (fun wx=>wx.cell? ⟨w1.heap.size,0,none⟩=some (.int .i64 (p:Nat))/\wx.cell? ⟨w1.heap.size,1,none⟩=some (.int .i64 (o:Nat))/\wx.cell? ⟨w1.heap.size,2,none⟩=some (.int .i64 (K.nx:Nat))/\wx.cell? ⟨w1.heap.size,3,none⟩=some (.int .i64 0)/\wx.cell? ⟨w1.heap.size,4,none⟩=some (.bool false))
   (first | exact⟨u0,u1,u2,u3,u4⟩ | exact HSS.out _ HV3.out | exact HSS.out _ HV4.out)
   (first
    | (go_at_call 120;refine(VW A _ _ HK3.out ⟨p,o,K.nx,0,false⟩ HM.out g 0 174 (H (sqK K) K.nx) (HH.out.len _ _) (HH.out.bys _ _) HA3.out HGN.out).mono ?_;rintro e w4 ⟨rfl,k4,g4⟩;have HK4:=BB k4;have HV4:=BB (HV3.out.chg g4 HN.out);have HT4:=BB (HT3.out.chg g4 HN0.out);have HG4:=BB (HG3.out.trans g4);clear k4 g4)
    | (refine(HH.out.run _ (sqK K) K.nx (HK1.out.drewN 1) ((HW.out.trans HG1.out).drewN 1) HQ.out).mono ?_;rintro e w3 ⟨g,rfl,hgl,hA3,g3⟩;have HA3:=BB hA3;have HK3:=BB ((HK1.out.drewN 1).chg0 g3);have HV3:=BB ((HV1.out.chg (Chg.refl No w2).drew (fun f=>f)).chg g3 (fun f=>f));have HT3:=BB ((HT1.out.chg (Chg.refl No w2).drew (fun f=>f)).chg g3 (fun f=>f));have HGN:Hid (¬ Cor A g):=(fun e=>by have:=HLOW.out _ (AK e);have:=HT1.out.lt;have e2:(w2.drewN 1).heap.size=w2.heap.size:=rfl;omega);have HG3:=BB (HG1.out.drew.trans (Chg.cor0 (A:=A) g3));clear hA3 g3))
  all_goals
   have hne:¬ w1.heap.size=w.heap.size:=om;have HF:Hid (frK H K p o=if (prK (sqK K) ⟨p,o,K.nx,0,false⟩ (H (sqK K) K.nx)).2≠0 then ((prK (sqK K) ⟨p,o,K.nx,0,false⟩ (H (sqK K) K.nx)).1,YU,(prK (sqK K) ⟨p,o,K.nx,0,false⟩ (H (sqK K) K.nx)).2) else (if o=24 then ntK (prK (sqK K) ⟨p,o,K.nx,0,false⟩ (H (sqK K) K.nx)).1 else (prK (sqK K) ⟨p,o,K.nx,0,false⟩ (H (sqK K) K.nx)).1,⟨p,o,K.nx,0,false⟩,0)):=by
    show frK H K p o=_;unfold frK;rw[HSP.out];rfl
   generalize prK (sqK K) ⟨p,o,K.nx,0,false⟩ (H (sqK K) K.nx)=Z at *
   have q:=Bn;have gq:=BL;by_cases hz:Z.2=0
   ·have HF2:Hid (frK H K p o=(if o=24 then ntK Z.1 else Z.1,⟨p,o,K.nx,0,false⟩,0)):=(by show frK H K p o=_;rw[HF.out,AI (by rw[hz];simp)]);replace q:∀w,(binOp .neq 33 (errV Z.2) .nilIface).run prog w=.ok (.bool false) w:=fun w=>by rw[q,AO hz];rfl
    generalize Z.2=z2 at *
    generalize Z.1=K4 at *
    clear hz hen u0 u1 u2 u3 u4;by_cases h24:o=24
    ·subst h24;have hp:=AE.SX w4 A.pa K4.cu K4.ca HK4.out.pat;obtain⟨c82,-⟩:=HK4.out.cPat;go_wp2_with fail;refine hp.mono ?_;rintro e w5 ⟨rfl,k5,g5⟩;have K5:=HK4.out.setPat k5 g5 ⟨HK4.out.wf.chip,HK4.out.wf.rr,HK4.out.wf.frm,HK4.out.wf.map,HK4.out.wf.vs,HK4.out.wf.vp,HK4.out.wf.vc,HK4.out.wf.fl,HK4.out.wf.nx,HK4.out.wf.fr,HK4.out.wf.cu,HK4.out.wf.qu,HK4.out.wf.hea,HK4.out.wf.tl⟩;obtain⟨c96,-⟩:=K5.cHea;have hn:=AF.Qo w5 A.h K4.hR K4.hN K4.hS K5.hea K5.wf.hea;have HK5:=BB K5;have HV5:=BB (HV4.out.chg g5.cor_pa HN.out);have HT5:=BB (HT4.out.chg g5.cor_pa HN0.out);have HG5:=BB (HG4.out.trans g5.cor_pa);clear hp c82 k5 g5 K5;go_wp2_with fail;refine hn.mono ?_;rintro e w6 ⟨rfl,k6,g6⟩;have HK6:=BB (HK5.out.setHea k6 g6 (HK5.out.wf.hR' (AF.Fk.noted HK5.out.wf.hea)));have HV6:=BB (HV5.out.chg g6.cor_h HN.out);have HT6:=BB (HT5.out.chg g6.cor_h HN0.out);have HG6:=BB (HG5.out.trans g6.cor_h);clear hn c96 k6 g6;go_wp2_with (first | refine Bk rfl (.tmp 10) rfl w1.heap.size rfl HV6.out ?_ | refine BK rfl (.tmp 8) (.tmp 46) rfl w.heap.size rfl rfl HT6.out ?_);intro w7 T7 G7;have HT7:=BB T7;have HK7:=BB (HK6.out.far HLOW.out (AM _) G7);have HG7:=BB (HG6.out.trans' G7 (fun k hk e=>om));clear T7 G7;go_wp2;refine AZ (Bg rfl _ rfl HT7.out) rfl ?_;rw[HF2.out,AJ trivial];exact⟨rfl,HK7.out,HG7.out⟩
    ·have H24:=BB h24;have hoz:(((o:Nat):Int) == 24)=false:=(by simp;omega);go_wp2_with (first | refine Bk rfl (.tmp 10) rfl w1.heap.size rfl HV4.out ?_ | refine BK rfl (.tmp 8) (.tmp 46) rfl w.heap.size rfl rfl HT4.out ?_);intro w7 T7 G7;have HT7:=BB T7;have HK7:=BB (HK4.out.far HLOW.out (AM _) G7);have HG7:=BB (HG4.out.trans' G7 (fun k hk e=>om));clear T7 G7;go_wp2;refine AZ (Bg rfl _ rfl HT7.out) rfl ?_;rw[HF2.out,AI H24.out];exact⟨rfl,HK7.out,HG7.out⟩
   ·have HF2:Hid (frK H K p o=(Z.1,YU,Z.2)):=(by show frK H K p o=_;rw[HF.out,AJ hz]);replace q:∀w,(binOp .neq 33 (errV Z.2) .nilIface).run prog w=.ok (.bool true) w:=fun w=>by rw[q,AN hz];rfl
    generalize Z.2=z2 at *
    generalize Z.1=K4 at *
    clear hz hen u0 u1 u2 u3 u4;go_wp2_with (first | refine BK rfl (.tmp 8) (.tmp 32) rfl w.heap.size rfl rfl HT4.out ?_);intro w7 T7 G7;have HT7:=BB T7;have HK7:=BB (HK4.out.far HLOW.out (AM _) G7);have HG7:=BB (HG4.out.trans' G7 (fun k hk e=>om));clear T7 G7;go_wp2;refine AZ (Bg rfl _ rfl HT7.out) rfl ?_;rw[HF2.out];exact⟨rfl,HK7.out,HG7.out⟩
 ·rw[hsp] at c78;have HF2:Hid (frK H K p o=(K,YU,14)):=by show frK H K p o=_;unfold frK;rw[hsp];rfl
  clear h hw hm hH C0 T0 G0;go_enter func82,ntmps82;go_wp2_with (first | refine BK rfl (.tmp 8) (.tmp 16) rfl w.heap.size rfl rfl HT0.out ?_);intro w7 T7 G7;have HT7:=BB T7;have HK7:=BB (HC0.out.far HLOW.out (AM _) G7);have HG7:=BB ((Chg.cor0 (A:=A) HG0.out).trans' G7 (fun k hk e=>om));clear T7 G7;go_wp2;refine AZ (Bg rfl _ rfl HT7.out) rfl ?_;rw[HF2.out];exact⟨rfl,HK7.out,HG7.out⟩
end
section
variable (A:Ad)(w:Wd)
structure Vc (A:Ad) (w0:Wd) (f:FuncId) (cp:Array Value) (M:AB.Bp->AB.Bp):Prop where
 ent:∀args w,(callFunc f args).run prog w=.ok (.enter f args) w
 run:∀w N c,Chg (Cor A) w0 w->AB.Ck w N c->w0.heap.size<=N->Calls prog f (#[.pointer (some ⟨N,0,none⟩)] ++ cp) w fun e w'=>e=.returned (.tuple #[])/\AB.Ck w' N (M c)/\Chg (·=N) w w'
theorem Sk(N:Nat):Calls prog 111 #[.pointer (some ⟨N,0,none⟩)] w fun e w'=>e=.returned (.tuple #[])/\w'=w:=by
 go_enter func111,ntmps111;go_wp2;go_end0;exact⟨rfl,rfl⟩
theorem Z4(N:Nat)(c:AB.Bp)(h:AB.Ck w N c)(x y o:Nat)(z:Int)(hx:w.cell? ⟨x,0,none⟩=some (.int .i64 z))(hy:w.cell? ⟨y,0,none⟩=some (.int .i64 (o:Nat)))(ho:o<24):Calls prog 63 #[.pointer (some ⟨N,0,none⟩),.pointer (some ⟨x,0,none⟩),.pointer (some ⟨y,0,none⟩)] w fun e w'=>e=.returned (.tuple #[])/\AB.Ck w' N { c with F:=upd c.F o z }/\Chg (·=N) w w':=by
 have c1:=h.F o ho;have f1:=h.frozen o;have hoz:((o:Nat):Int)<24:=om
 have HC:=BB (h.setF o ho z);clear h ho;go_enter func63,ntmps63;go_wp2_with fail;go_region;go_end0;exact⟨rfl,HC.out,((Chg.refl (·=N) w).setCell (AK rfl) _ _).drew⟩
theorem eX(N:Nat)(c:AB.Bp)(h:AB.Ck w N c)(x s b:Nat)(hx:w.cell? ⟨x,0,none⟩=some (.pointer (some ⟨s,0,none⟩)))(hy:w.cell? ⟨s,0,none⟩=some (.int .i64 (b:Nat)))(hb:b<12):Calls prog 222 #[.pointer (some ⟨N,0,none⟩),.pointer (some ⟨x,0,none⟩)] w fun e w'=>e=.returned (.tuple #[])/\AB.Ck w' N { c with B:=upd c.B b true }/\Chg (·=N) w w':=by
 have c1:=h.B b hb;have f1:=h.frozen (25+b);have hoz:((b:Nat):Int)<12:=om
 have HC:=BB (h.setB b hb true);clear h hb;go_enter func222,ntmps222;go_wp2_with fail;go_region;go_end0;exact⟨rfl,HC.out,((Chg.refl (·=N) w).setCell (AK rfl) _ _).drew⟩
theorem Vd:∀args w,(callFunc 111 args).run prog w=.ok (.enter 111 args) w:=enters_of func111 kr rfl
theorem Ve:∀args w,(callFunc 63 args).run prog w=.ok (.enter 63 args) w:=enters_of func63 kr rfl
theorem Sn:∀args w,(callFunc 222 args).run prog w=.ok (.enter 222 args) w:=enters_of func222 kr rfl
theorem Vf:∀args w,(callFunc 94 args).run prog w=.ok (.enter 94 args) w:=enters_of func94 kr rfl
theorem Vg:∀args w,(callFunc 50 args).run prog w=.ok (.enter 50 args) w:=enters_of func50 kr rfl
theorem Km(w0:Wd):Vc A w0 111 #[] (fun c=>c):=⟨Vd,fun w N c _ h _=>(Sk w N).mono (by rintro e w' ⟨rfl,rfl⟩;exact⟨rfl,h,Chg.refl _ _⟩)⟩
theorem So(w0:Wd)(x y o:Nat)(z:Int)(hx:w0.cell? ⟨x,0,none⟩=some (.int .i64 z))(hy:w0.cell? ⟨y,0,none⟩=some (.int .i64 (o:Nat)))(ho:o<24)(nx:¬ Cor A x)(ny:¬ Cor A y)(lx:x<w0.heap.size)(ly:y<w0.heap.size):Vc A w0 63 #[.pointer (some ⟨x,0,none⟩),.pointer (some ⟨y,0,none⟩)] (fun c=>{ c with F:=upd c.F o z }):=
 ⟨Ve,fun w N c hc h _=>Z4 w N c h x y o z ((hc.cell lx nx 0).trans hx) ((hc.cell ly ny 0).trans hy) ho⟩
theorem Vh(w0:Wd)(x s b:Nat)(hx:w0.cell? ⟨x,0,none⟩=some (.pointer (some ⟨s,0,none⟩)))(hy:w0.cell? ⟨s,0,none⟩=some (.int .i64 (b:Nat)))(hb:b<12)(nx:¬ Cor A x)(ny:¬ Cor A s)(lx:x<w0.heap.size)(ly:s<w0.heap.size):Vc A w0 222 #[.pointer (some ⟨x,0,none⟩)] (fun c=>{ c with B:=upd c.B b true }):=
 ⟨Sn,fun w N c hc h _=>eX w N c h x s b ((hc.cell lx nx 0).trans hx) ((hc.cell ly ny 0).trans hy) hb⟩
theorem PR(w0:Wd)(f:FuncId)(cp:Array Value)(M:AB.Bp->AB.Bp)(hM:Vc A w0 f cp M)(b1 b2:Nat)(h1:w0.cell? ⟨b1,0,none⟩=some (.pointer (some ⟨A.c,0,none⟩)))(h2:w0.cell? ⟨b2,0,none⟩=some (.func (.func f) #[] cp))(n1:¬ Cor A b1)(n2:¬ Cor A b2)(l1:b1<w0.heap.size)(l2:b2<w0.heap.size)(w:Wd)(K:BC)(q:Nat)(h:CoreAt A w K)(hw:Chg (Cor A) w0 w)(hok:AB.VQ (M (ckK K q))) :Calls prog 94 #[.int .i64 (q:Nat),.pointer (some ⟨b1,0,none⟩),.pointer (some ⟨b2,0,none⟩)] w fun e w'=>∃g,e=.returned (.slice (some ⟨g,0,none⟩) 174 174)/\w.heap.size<=g/\At w' g 0 (AB.Ir (M (ckK K q)))/\Chg No w w':=by
 have c1:=(hw.cell l1 n1 0).trans h1;have hck:=lu A w K h (q:Nat);have hen:=hM.ent;have HW:=BB hw;have HMM:=BB hM;have HOK:=BB hok;have HX:Hid (∀u,Chg No w u->u.cell? ⟨b2,0,none⟩=some (.func (.func f) #[] cp)):=fun u hu=>(((hw.trans hu.cor0).cell l2 n2 0)).trans h2;have HS:=BB hw.size;clear h hw hM hok h1 h2;go_enter func94,ntmps94;go_wp2_with fail;refine hck.mono ?_;rintro e w1 ⟨rfl,k1,g1⟩;have HG1:=BB g1;have HZ1:=BB g1.size;clear hck k1 g1 c1;go_wp2_with (first | refine AB.Cg rfl rfl ?_ | refine AB.Cf rfl (.tmp 5) (.tmp 10) rfl w1.heap.size rfl rfl (AB.Ck.new w1 AB.ck0) ?_);intro w2 C2 G2;have G12:Chg No w w2:=(HG1.out.alloc (.cells (AB.ckA AB.ck0) 142)).trans' G2 (fun k hk e=>by have:=HG1.out.size;omega);have cf:=HX.out w2 G12;have hmo:=HMM.out.run w2 w1.heap.size _ (HW.out.trans G12.cor0) C2 (by have:=HG1.out.size;have:=HS.out;omega);have HG2:=BB G12;clear C2 G2 G12 HG1;go_wp2_with fail;refine hmo.mono ?_;rintro e w3 ⟨rfl,C3,G3⟩;have hwr:=AB.Kk w3 _ HOK.out;have HC3:=BB C3;have HG3:=BB (HG2.out.trans' G3 (fun k hk e=>by have:=HZ1.out;omega));clear hmo C3 G3 cf;go_wp2_with (first | refine AB.Bf rfl (.tmp 5) rfl w1.heap.size rfl HC3.out ?_);refine hwr.mono ?_;rintro e w4 ⟨g,rfl,hg,hA,g4⟩;have HA:=BB hA;have HG4:=BB (HG3.out.trans g4);have HLE:Hid (w.heap.size<=g):=AY HG3.out.size hg;clear hwr hA g4 hg;go_wp2;go_ret;exact⟨g,rfl,HLE.out,HA.out.at_,HG4.out⟩
theorem DY(w0:Wd)(f:FuncId)(cp:Array Value)(M:AB.Bp->AB.Bp)(hM:Vc A w0 f cp M)(b1 b2:Nat)(h1:w0.cell? ⟨b1,0,none⟩=some (.pointer (some ⟨A.c,0,none⟩)))(h2:w0.cell? ⟨b2,0,none⟩=some (.func (.func f) #[] cp))(n1:¬ Cor A b1)(n2:¬ Cor A b2)(l1:b1<w0.heap.size)(l2:b2<w0.heap.size)(hok:∀K (q:Nat),Wf K->1<=q/\q<=1099511627775->AB.VQ (M (ckK K q))):Hold A w0 94 #[.pointer (some ⟨b1,0,none⟩),.pointer (some ⟨b2,0,none⟩)] (fun K q=>AB.Ir (M (ckK K q))):=
 ⟨Vf,fun _ _=>AB.Cn _,fun _ _=>AB.Ec _,fun w K q hC hW hq=>PR A w0 f cp M hM b1 b2 h1 h2 n1 n2 l1 l2 w K q hC hW (hok K q hC.wf hq)⟩
theorem Dm{K:BC}(h:Wf K){q:Nat}(hq:1<=q/\q<=1099511627775):AB.Zx (ckK K q):=by
 refine⟨fun i hi=>h.fl i hi,?_,?_,fun i hi=>(h.hea i hi).1,fun i hi=>(h.hea i hi).2.2⟩
 ·show 0<=((q:Nat):Int)/\((q:Nat):Int)<=1099511627775;omega
 ·have:=h.cu;show 0<=((K.cu:Nat):Int)/\((K.cu:Nat):Int)<=95;omega
theorem Ll{c:AB.Bp}(h:AB.Zx c):AB.VQ c:=by
 refine(AB.Qw c ⟨fun i hi=>?_,?_,?_,fun i hi=>?_,fun i hi=>?_⟩).2 h
 ·have:=h.F i hi;omega
 ·have:=h.N;omega
 ·have:=h.C;omega
 ·have:=h.R i hi;omega
 ·have:=h.S i hi;omega
theorem NZ(K:BC)(q:Nat)(h:Wf K)(hq:1<=q/\q<=1099511627775):AB.VQ ((fun c:AB.Bp=>c) (ckK K q)):=Ll (Dm h hq)
theorem Z5(b:Nat)(K:BC)(q:Nat)(h:Wf K)(hq:1<=q/\q<=1099511627775):AB.VQ ((fun c:AB.Bp=>{ c with B:=upd c.B b true }) (ckK K q)):=
 Ll ⟨(Dm h hq).F,(Dm h hq).N,(Dm h hq).C,(Dm h hq).R,(Dm h hq).S⟩
theorem Vi(o:Nat)(z:Int)(hz:0<=z/\z<=1099511627775)(K:BC)(q:Nat)(h:Wf K)(hq:1<=q/\q<=1099511627775):AB.VQ ((fun c:AB.Bp=>{ c with F:=upd c.F o z }) (ckK K q)):=
 Ll ⟨fun i hi=>by
  show 0<=upd (ckK K q).F o z i/\upd (ckK K q).F o z i<=1099511627775
  unfold upd
  split
  ·
   exact hz
  ·
   exact(Dm h hq).F i hi,(Dm h hq).N,(Dm h hq).C,(Dm h hq).R,(Dm h hq).S⟩
theorem Fe(b:Nat)(f:FuncId)(cp:Array Value):Calls prog 62 #[.pointer (some ⟨b,0,none⟩),.func (.func f) #[] cp] w fun e w'=>e=.returned (.func (.func 94) #[] #[.pointer (some ⟨w.heap.size,0,none⟩),.pointer (some ⟨w.heap.size+1,0,none⟩)])/\w'.cell? ⟨w.heap.size,0,none⟩=some (.pointer (some ⟨b,0,none⟩))/\w'.cell? ⟨w.heap.size+1,0,none⟩=some (.func (.func f) #[] cp)/\w'.heap.size=w.heap.size+2/\Chg No w w':=by
 have hmf:∀(fn:Fn) (first cap:Array Value) (w:Wd),(Instr.makeFunc fn first cap).run prog w=.ok (.func fn first cap) w:=fun _ _ _ _=>rfl;go_enter func62,ntmps62;go_wp2;go_ret;refine⟨rfl,?_,?_,by simp,((Chg.refl _ w).alloc _).alloc _⟩
 ·have h1:((w.alloc (.cells #[.pointer (some ⟨b,0,none⟩)] 74)).alloc (.cells #[.func (.func f) #[] cp] 143)).heap[w.heap.size]?=some (.cells #[.pointer (some ⟨b,0,none⟩)] 74):=(Below.heap_alloc _ _ _ (by simp)).trans (show (w.heap.push _)[w.heap.size]?=_ by simp);rw[cell_of_row _ _ _ _ _ _ h1];rfl
 ·have e:(w.alloc (.cells #[.pointer (some ⟨b,0,none⟩)] 74)).heap.size=w.heap.size+1:=by simp
  have h1:((w.alloc (.cells #[.pointer (some ⟨b,0,none⟩)] 74)).alloc (.cells #[.func (.func f) #[] cp] 143)).heap[w.heap.size+1]?=some (.cells #[.func (.func f) #[] cp] 143):=by
   rw[<-e];show ((w.alloc (.cells #[.pointer (some ⟨b,0,none⟩)] 74)).heap.push _)[(w.alloc (.cells #[.pointer (some ⟨b,0,none⟩)] 74)).heap.size]?=_;generalize (w.alloc (.cells #[.pointer (some ⟨b,0,none⟩)] 74)).heap=hp;simp
  rw[cell_of_row _ _ _ _ _ _ h1];rfl
theorem Qy:(Instr.makeSlice 35 (.int .i64 174) (.int .i64 174)).run prog w=.ok (.slice (some ⟨w.heap.size,0,none⟩) 174 174) (w.alloc (.cells (bcells EF) 5)):=by
 obtain⟨i,h1,h2,h3,h4⟩:=Fp;have h:=run_make (P:=prog) w 35 5 i (.int .u8 0) underlying35 h1 h2 .i64 .i64 174 174 om om (by rw[h4];omega) om;rw[h,h3,EU];rfl
theorem ee(x d o cap:Nat)(D:List Nat)(hD:D.length=160)(hx:w.cell? ⟨x,0,none⟩=some (.slice (some ⟨d,o,none⟩) 160 cap))(hd:At w d o D)(q:Int) :Calls prog 50 #[.int .i64 q,.pointer (some ⟨x,0,none⟩)] w fun e w'=>∃g,e=.returned (.slice (some ⟨g,0,none⟩) 174 174)/\w.heap.size<=g/\At w' g 0 (D ++ List.replicate 14 0)/\Chg No w w':=by
 have hm:=Qy;have hxl:x<w.heap.size:=World.block_lt_of_cell? w ⟨x,0,none⟩ hx;have A0:=Arr.new w 5 EF;have G0:Chg No w (w.alloc (.cells (bcells EF) 5)):=(Chg.refl _ w).alloc _;have hx1:=(G0.cell hxl (fun f=>f) 0).trans hx;have D1:=hd.chg G0 (fun f=>f);have HA:=BB A0;have HG:=BB G0;have HD1:=BB D1;have HDL:=BB hD;have HE:Hid (lay EF 0 D=D ++ List.replicate 14 0):=by
  show lay EF 0 D=D ++ List.replicate 14 0;unfold lay EF;rw[hD];simp
 clear A0 G0 D1 hd hx hD;go_enter func50,ntmps50;go_wp2_with (first | refine CI rfl (.tmp 6) (.tmp 7) rfl w.heap.size 0 174 174 d o 160 cap rfl rfl HA.out D (by rw[HDL.out];rfl) HD1.out.2 (by rw[HDL.out];simp[EF]) ?_);have HR:=BB (HA.out.row (lay EF 0 D));have HGR:=BB (HG.out.trans' (DF _ w.heap.size (bcells (lay EF 0 D))) (fun k hk e=>om));clear HA HG HD1 hx1;go_wp2;go_ret;refine⟨w.heap.size,rfl,AM _,?_,HGR.out⟩;rw[<-HE.out];exact HR.out.at_
theorem Vj(w0:Wd)(x d o cap:Nat)(D:List Nat)(hD:D.length=160)(bD:Bys D)(hx:w0.cell? ⟨x,0,none⟩=some (.slice (some ⟨d,o,none⟩) 160 cap))(hd:At w0 d o D)(nx:¬ Cor A x)(nd:¬ Cor A d)(lx:x<w0.heap.size):Hold A w0 50 #[.pointer (some ⟨x,0,none⟩)] (fun _ _=>D ++ List.replicate 14 0):=
 ⟨Vg,fun _ _=>by simp[hD],fun _ _ n hn=>(mem_append.1 hn).elim (bD n) (fun h=>by rw[(mem_replicate.1 h).2];decide),fun w K q hC hW hq=>ee w x d o cap D hD ((hW.cell lx nx 0).trans hx) (hd.chg hW nd) (q:Nat)⟩
end
def sf (S:BW) (v:Value) (i:Nat):Value:=if i=0 then .int .i64 (S.fm:Nat) else if i=1 then .bool S.rt else if i=2 then .bool S.fd else if i=3 then .bool S.tt.o else if i=4 then .int .i64 (S.tt.k:Nat) else if i=5 then .int .i64 (S.tt.i:Nat) else v
def ShAt (w:Wd) (x:Nat) (S:BW) (v:Value):Prop:=Sto w x 163 7 (sf S v)
section
variable {w w':Wd}{x:Nat}{S:BW}{v:Value}
theorem ShAt.lt(h:ShAt w x S v):x<w.heap.size:=Sto.lt h
theorem ShAt.ty(h:ShAt w x S v):Ty w x 163:=Sto.ty h
theorem ShAt.chg{T:Nat->Prop}(h:ShAt w x S v)(hc:Chg T w w')(hb:¬ T x):ShAt w' x S v:=Sto.chg h hc hb
theorem ShAt.cell(h:ShAt w x S v)(i:Nat)(hi:i<7):w.cell? ⟨x,i,none⟩=some (sf S v i)/\w.frozen? ⟨x,i,none⟩=false:=⟨Sto.cell h i hi,Sto.frozen h i⟩
theorem ShAt.front(h:ShAt w x S v):AC.FB w x 163 7 (sf S v) 3 S.tt:=⟨h,om,rfl,rfl,rfl⟩
theorem ShAt.setTo{T:AC.St}(h:AC.FB w x 163 7 (upL (sf S v) 3 (AC.stL T)) 3 T):ShAt w x { S with tt:=T } v:=by
 refine Sto.ext h.1 fun i hi=>?_;obtain⟨u0,u1,u2⟩:=AC.F9 (sf S v) 3 T;have:i=0\/i=1\/i=2\/i=3\/i=4\/i=5\/i=6:=om
 rcases this with rfl | rfl | rfl | rfl | rfl | rfl | rfl
 ·rfl
 ·rfl
 ·rfl
 ·rw[u0];rfl
 ·rw[u1];rfl
 ·rw[u2];rfl
 ·rfl
theorem CoreAt.apartSh{A:Ad}{K:BC}(hC:CoreAt A w K)(h:ShAt w x S v):¬ Cor A x:=by
 obtain⟨t0,t1,t2,t3,t4,t5,t6,t7,t8,t9⟩:=hC.tys;have t:=h.ty;rintro (e | e | e | e | e | e | e | e)
 ·exact t.ne t0 dc e
 ·exact t.ne t1 dc e
 ·exact t.ne t2 dc e
 ·exact t.ne t5 dc e
 ·exact t.ne t6 dc e
 ·exact t.ne t7 dc e
 ·exact t.ne t8 dc e
 ·exact t.ne t9 dc e
theorem CoreAt.offTy{A:Ad}{K:BC}(hC:CoreAt A w K){T:Nat->Prop}(h:∀k,k<w.heap.size->T k->Ty w k 163\/Ty w k 127)(hc:Chg T w w'):CoreAt A w' K:=by
 obtain⟨t0,t1,t2,t3,t4,t5,t6,t7,t8,t9⟩:=hC.tys;have hn:∀ {k t},Ty w k t->t≠163->t≠127->¬ T k:=fun {k t} hk n1 n2 ht=>by
  have hl:k<w.heap.size:=by obtain⟨cs,z,e⟩:=hk;exact(Array.getElem?_eq_some_iff.1 e).1
  rcases h k hl ht with u | u
  ·exact hk.ne u n1 rfl
  ·exact hk.ne u n2 rfl
 obtain⟨f1,f2,f3,f4,f5,f6,f7⟩:=hC.frame hc;exact⟨f1 (hn t0 dc dc),f2 (hn t1 dc dc) (hn t3 dc dc) (hn t4 dc dc) (hn t5 dc dc),f3 (hn t2 dc dc),f4 (hn t6 dc dc),f5 (hn t7 dc dc),f6 (hn t8 dc dc),f7 (hn t9 dc dc),hC.wf⟩
theorem CoreAt.offSh{A:Ad}{K:BC}(hC:CoreAt A w K)(h:ShAt w x S v)(hc:Chg (·=x) w w'):CoreAt A w' K:=hC.offTy (fun k _ e=>AK (by rw[e];exact h.ty)) hc
end
def YV (A:Ad) (x:Nat) (k:Nat):Prop:=Cor A k\/k=x
theorem Chg.mvs{A:Ad}{x:Nat}{w w':Wd}(h:Chg (Cor A) w w'):Chg (YV A x) w w':=h.mono fun _ _ e=>AK e
theorem Chg.mvx{A:Ad}{x:Nat}{w w':Wd}(h:Chg (·=x) w w'):Chg (YV A x) w w':=h.mono fun _ _ e=>AL e
theorem Z6(K:BC)(S:BW)(o:Nat)(h:S.tt.o=true):tiK K S o=(K,{ S with tt:=AC.tkS S.tt o },(AC.nxV S.tt o).toNat,AC.nxC S.tt o):=by unfold tiK;rw[AJ h]
theorem Lm(s:AC.St)(n:Int):((AC.nxV s n).toNat:Int)=AC.nxV s n:=by
 unfold AC.nxV;split <;> omega
theorem Na(A:Ad)(w:Wd)(K:BC)(h:CoreAt A w K)(x:Nat)(S:BW)(v:Value)(hS:ShAt w x S v)(ok:AC.E9 S.tt)(o:Nat) :Calls prog 221 #[.pointer (some ⟨A.c,0,none⟩),.pointer (some ⟨x,0,none⟩),.int .i64 (o:Nat)] w fun e w'=>e=.returned (.tuple #[.int .i64 ((tiK K S o).2.2.1:Nat),errV (tiK K S o).2.2.2])/\CoreAt A w' (tiK K S o).1/\ShAt w' x (tiK K S o).2.1 v/\AC.E9 (tiK K S o).2.1.tt/\Chg (YV A x) w w':=by
 have hb:=AC.Db w x 163 7 _ 3 S.tt hS.front;have q:=Bn;have g:=BL;unfold AC.blV at hb;cases ho:S.tt.o
 ·rw[ho] at hb;replace hb:Calls prog 85 #[.pointer (some ⟨x,3,none⟩)] w fun e w'=>e=.returned (.int .i64 (-1))/\w'=w:=hb;obtain⟨c1,-⟩:=h.cPool;have ht:=VT A w K h;have hm:=(Jn K.F h.wf.frm).2;by_cases hc:tkC K.F=0
  ·have HF:Hid (tiK K S o=({ K with F:=AD.setF (AD.tkF K.F 0 (tkM K.F)) (tkM K.F) 2 },{ S with tt:=AC.tkS ⟨true,tkM K.F,0⟩ o },(AC.nxV ⟨true,tkM K.F,0⟩ o).toNat,AC.nxC ⟨true,tkM K.F,0⟩ o)):=by
    show tiK K S o=_;unfold tiK;rw[AI (by rw[ho];simp),AI (by rw[hc];simp)]
   rw[hc] at ht;have HS:=BB hS;have HNX:=BB (h.apartSh hS);have HM:=BB hm;clear h hS ho hc hm ok;go_enter func221,ntmps221;go_wp2_with (go_at_call 85;refine hb.mono ?_;rintro e w1 ⟨rfl,rfl⟩);refine ht.mono ?_;rintro e w1 ⟨rfl,k1,g1⟩;have hst:=NY A w1 _ k1 (tkM K.F:Nat) 2;have HS1:=BB (HS.out.chg g1 HNX.out);have HG1:=BB g1;clear ht k1 g1 hb c1;go_wp2_with fail;refine hst.mono ?_;rintro e w2 ⟨rfl,k2,g2⟩;have S2:=HS1.out.chg g2 HNX.out;have hop:=AC.NI w2 x 163 7 _ 3 S.tt S2.front (tkM K.F) 0 HM.out dc;have HK2:=BB k2;have HS2:=BB S2;have HG2:=BB (HG1.out.trans g2);clear hst k2 g2 S2 HS1 HG1;go_wp2_with fail;refine hop.mono ?_;rintro e w3 ⟨rfl,f3,g3⟩;have hok:AC.E9 ⟨true,tkM K.F,0⟩:=⟨HM.out,(by decide:0<9)⟩;have htk:=AC.take_v w3 x 163 7 _ 3 _ f3 hok (o:Nat);have HK3:=BB (HK2.out.offSh HS2.out g3);have HS3:=BB (ShAt.setTo f3);have HG3:=BB (HG2.out.mvs.trans g3.mvx);have HOK:=BB (AC.E9.take hok (o:Nat));clear hop f3 g3 hok;go_wp2_with fail;refine htk.mono ?_;rintro e w4 ⟨rfl,f4,g4⟩;have HK4:=BB (HK3.out.offSh HS3.out g4);have HS4:Hid (ShAt w4 x { S with tt:=AC.tkS ⟨true,tkM K.F,0⟩ o } v):=by
    obtain⟨y1,y2⟩:=f4;refine ShAt.setTo (S:=S) ⟨Sto.ext y1 fun i hi=>?_,y2.1,rfl,rfl,rfl⟩;have:i=0\/i=1\/i=2\/i=3\/i=4\/i=5\/i=6:=om
    rcases this with rfl | rfl | rfl | rfl | rfl | rfl | rfl <;> rfl
   have HG4:=BB (HG3.out.trans g4.mvx);clear htk f4 g4;go_wp2;go_ret2;rw[HF.out];show _/\_/\_/\_;rw[Lm];exact⟨rfl,HK4.out,HS4.out,HOK.out,HG4.out⟩
  ·have HF:Hid (tiK K S o=(K,S,0,14)):=by
    show tiK K S o=_;unfold tiK;rw[AI (by rw[ho];simp),AJ hc]
   have hd:decide (tkC K.F=0)=false:=AN hc;have e1:AD.tkF K.F (tkC K.F) (tkM K.F)=K.F:=(by unfold AD.tkF;rw[AI hc]);rw[e1] at ht;have HS:=BB hS;have HNX:=BB (h.apartSh hS);have HOK:=BB ok;clear h hS ho hc hm ok e1;generalize tkC K.F=k at *
   generalize tkM K.F=m at *
   go_enter func221,ntmps221;go_wp2_with (first | (go_at_call 85;refine hb.mono ?_;rintro e w1 ⟨rfl,rfl⟩) | (go_at_call 152;refine ht.mono ?_;rintro e w1 ⟨rfl,k1,g1⟩));go_ret2;rw[HF.out];exact⟨rfl,k1,HS.out.chg g1 HNX.out,HOK.out,g1.mvs⟩
 ·have HF:=BB (Z6 K S o ho);rw[ho] at hb;replace hb:Calls prog 85 #[.pointer (some ⟨x,3,none⟩)] w fun e w'=>e=.returned (.int .i64 (S.tt.k:Nat))/\w'=w:=hb;have hz:(((S.tt.k:Nat):Int) == -1)=false:=by simp
  have htk:=AC.take_v w x 163 7 _ 3 _ hS.front ok (o:Nat);have HS:=BB hS;have HC:=BB h;have HOK:=BB (AC.E9.take ok (o:Nat));clear h hS ho ok;go_enter func221,ntmps221;go_wp2_with (go_at_call 85;refine hb.mono ?_;rintro e w1 ⟨rfl,rfl⟩);refine htk.mono ?_;rintro e w4 ⟨rfl,f4,g4⟩;have HK4:=BB (HC.out.offSh HS.out g4);have HS4:=BB (ShAt.setTo f4);have HG4:=BB g4;clear htk f4 g4;go_wp2;go_ret2;rw[HF.out];show _/\_/\_/\_;rw[Lm];exact⟨rfl,HK4.out,HS4.out,HOK.out,HG4.out.mvx⟩
end Go.Proofs.YtbhbilcieodbhaaGreat
