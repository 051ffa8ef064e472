/-
  Lemmas.
-/
import Derived.Test.YtbhbilcieodbhaaGreatOm
import Derived.Test.YtbhbilcieodbhaaGreatP01
import Derived.Laws.ByValue
import Derived.Laws.Build
import Derived.Laws.ResultCell
import Derived.Laws.StructEq
import Derived.WideShapes
import Derived.ChangeArms
import Derived.ProofKit
import Derived.Laws.OwnMore
import Derived.Deep.MidRow
set_option maxRecDepth 1000000
set_option maxHeartbeats 16000000
set_option linter.unusedSimpArgs false
namespace Go.Proofs.YtbhbilcieodbhaaGreat
open List
open Go.Proofs.Tryz
open Go.RowKit
section
variable {p s c o:Int}{w:Wd}{l:Bool}{b:Nat}
def dU (p o s c:Int):Prop:=(0<=p/\p<96)/\(0<=o/\o<=24)/\(1<=s/\s<=1099511627775)/\0<=c/\c<=255
def dV (p o:Int) (l:Bool):Prop:=(o=24/\l=false)\/(o≠24/\p % 8<6)
def DV (p o s c:Int) (l:Bool):Prop:=dU p o s c/\dV p o l
def Tg (w:Wd) (b:Nat) (p o s c:Int) (l:Bool):Prop:=w.heap[b]?=some (.cells #[.int .i64 p,.int .i64 o,.int .i64 s,.int .i64 c,.bool l] 127)
theorem Tg.new(w:Wd)(p o s c:Int)(l:Bool):Tg (w.alloc (.cells #[.int .i64 p,.int .i64 o,.int .i64 s,.int .i64 c,.bool l] 127)) w.heap.size p o s c l:=by
 show (w.heap.push _)[w.heap.size]?=_;simp
theorem Tg.lt(h:Tg w b p o s c l):b<w.heap.size:=(Array.getElem?_eq_some_iff.1 (show w.heap[b]?=some _ from h)).1
theorem Tg.chg{S:Nat->Prop}{w':Wd}(h:Tg w b p o s c l)(hc:Chg S w w')(hb:¬ S b):Tg w' b p o s c l:=(hc.block b h.lt hb).trans h
theorem Tg.alloc(h:Tg w b p o s c l)(x:Obj):Tg (w.alloc x) b p o s c l:=(Below.heap_alloc _ _ _ h.lt).trans h
theorem Tg.cells(h:Tg w b p o s c l):w.cell? ⟨b,0,none⟩=some (.int .i64 p)/\w.cell? ⟨b,1,none⟩=some (.int .i64 o)/\w.cell? ⟨b,2,none⟩=some (.int .i64 s)/\w.cell? ⟨b,3,none⟩=some (.int .i64 c)/\w.cell? ⟨b,4,none⟩=some (.bool l):=by
 have h':w.heap[b]?=some _:=h;refine⟨?_,?_,?_,?_,?_⟩ <;> simp[World.cell?,h']
theorem Fy:(prog.info? 127).map (·.size)=some 5:=kr
theorem Bk{ops:Array Oper}{rest:List Oper}{o:Oper}{a:Act}{Q:Exit->Act->World->Prop}(hgd:o.guard=none)(x:Operand)(ho:o.op=.load 127 x)(g:Nat)(hx:a.eval x=.pointer (some ⟨g,0,none⟩)){of:Int}(hg:Tg w g p of s c l)(h:wpList prog ops Q rest (a.put o.dst (.agg #[.int .i64 p,.int .i64 of,.int .i64 s,.int .i64 c,.bool l])) w):wpList prog ops Q (o :: rest) a w:=
 wpList_load_row hgd 127 x ho g hx 127 _ _ _ hg underlying127 rfl Fy h
theorem Rj(p o s c:Int):dU p o s c\/p<0\/(0<=p/\96<=p)\/(0<=p/\p<96/\o<0)\/(0<=p/\p<96/\0<=o/\24<o)\/(0<=p/\p<96/\0<=o/\o<=24/\s<1)\/(0<=p/\p<96/\0<=o/\o<=24/\1<=s/\1099511627775<s)\/(0<=p/\p<96/\0<=o/\o<=24/\1<=s/\s<=1099511627775/\c<0)\/(0<=p/\p<96/\0<=o/\o<=24/\1<=s/\s<=1099511627775/\0<=c/\255<c):=by
 unfold dU;omega
theorem QY(w:Wd)(p o s c:Int)(l:Bool)(h:dU p o s c) :Calls prog 259 #[.agg #[.int .i64 p,.int .i64 o,.int .i64 s,.int .i64 c,.bool l]] w fun e w'=>e=.returned (.bool true)/\Chg No w w':=by
 obtain⟨⟨h1,h2⟩,⟨h3,h4⟩,⟨h5,h6⟩,h7,h8⟩:=h;go_enter func259,ntmps259;go_wp2;go_ret;exact⟨rfl,(Chg.refl _ _).alloc _⟩
theorem dW(w:Wd)(p o s c:Int)(l:Bool)(h:¬ dU p o s c) :Calls prog 259 #[.agg #[.int .i64 p,.int .i64 o,.int .i64 s,.int .i64 c,.bool l]] w fun e w'=>e=.returned (.bool false)/\Chg No w w':=by
 have hc:=(Rj p o s c).resolve_left h;clear h;rcases hc with h | h | h | h | h | h | h | h
 ·go_enter func259,ntmps259;go_wp2;go_ret;exact⟨rfl,(Chg.refl _ _).alloc _⟩
 ·obtain⟨h1,h2⟩:=h;go_enter func259,ntmps259;go_wp2;go_ret;exact⟨rfl,(Chg.refl _ _).alloc _⟩
 ·obtain⟨h1,h2,h3⟩:=h;go_enter func259,ntmps259;go_wp2;go_ret;exact⟨rfl,(Chg.refl _ _).alloc _⟩
 ·obtain⟨h1,h2,h3,h4⟩:=h;go_enter func259,ntmps259;go_wp2;go_ret;exact⟨rfl,(Chg.refl _ _).alloc _⟩
 ·obtain⟨h1,h2,h3,h4,h5⟩:=h;go_enter func259,ntmps259;go_wp2;go_ret;exact⟨rfl,(Chg.refl _ _).alloc _⟩
 ·obtain⟨h1,h2,h3,h4,h5,h6⟩:=h;go_enter func259,ntmps259;go_wp2;go_ret;exact⟨rfl,(Chg.refl _ _).alloc _⟩
 ·obtain⟨h1,h2,h3,h4,h5,h6,h7⟩:=h;go_enter func259,ntmps259;go_wp2;go_ret;exact⟨rfl,(Chg.refl _ _).alloc _⟩
 ·obtain⟨h1,h2,h3,h4,h5,h6,h7,h8⟩:=h;go_enter func259,ntmps259;go_wp2;go_ret;exact⟨by rw[show decide (c<=255)=false from AN om];rfl,(Chg.refl _ _).alloc _⟩
theorem jk(h:0<=p):p.tmod 8=p % 8:=Av h
theorem Hg(w:Wd)(p o s c:Int)(l:Bool)(h:dU p o s c) :∃b,(b=true<->dV p o l)/\Calls prog 260 #[.agg #[.int .i64 p,.int .i64 o,.int .i64 s,.int .i64 c,.bool l]] w fun e w'=>e=.returned (.bool b)/\Chg No w w':=by
 obtain⟨⟨h1,h2⟩,-,-,-⟩:=h;by_cases ho:o=24
 ·subst ho;refine⟨!l,by cases l <;> simp[dV],?_⟩
  go_enter func260,ntmps260;go_wp2;go_ret;exact⟨rfl,(Chg.refl _ _).alloc _⟩
 ·have hm:=jk h1;by_cases h6:p % 8<6
  ·refine⟨true,by simp[dV,ho,h6],?_⟩;go_enter func260,ntmps260;go_wp2;go_ret;exact⟨rfl,(Chg.refl _ _).alloc _⟩
  ·refine⟨false,by simp[dV,ho];omega,?_⟩;go_enter func260,ntmps260;go_wp2;go_ret;exact⟨rfl,(Chg.refl _ _).alloc _⟩
theorem KZ(w:Wd)(p o s c:Int)(l:Bool) :(DV p o s c l->Calls prog 240 #[.agg #[.int .i64 p,.int .i64 o,.int .i64 s,.int .i64 c,.bool l]] w fun e w'=>e=.returned (.nilIface)/\Chg No w w')/\(¬ DV p o s c l->Calls prog 240 #[.agg #[.int .i64 p,.int .i64 o,.int .i64 s,.int .i64 c,.bool l]] w fun e w'=>e=.returned (.iface 56 (.int .i64 1))/\Chg No w w'):=by
 have T0:=Tg.new w p o s c l;have G0:Chg No w (w.alloc (.cells #[.int .i64 p,.int .i64 o,.int .i64 s,.int .i64 c,.bool l] 127)):=(Chg.refl _ w).alloc _;by_cases h:dU p o s c
 ·obtain⟨b,hb,hc⟩:=Hg w p o s c l h;cases b with
  | true=>
   refine⟨fun _=>?_,fun hn=>absurd ⟨h,hb.1 rfl⟩ hn⟩;have HI:=BB h;have HF:Hid (dV p o l):=BB (hb.1 rfl);clear hc h hb;go_enter func240,ntmps240;go_wp2_with fail;refine(QY _ p o s c l HI.out).mono ?_;rintro e w1 ⟨rfl,G1⟩;have T1:=T0.chg G1 (fun e=>e);have G01:=G0.trans G1;have HT:=BB T1;obtain⟨b,hb',hc⟩:=Hg w1 p o s c l HI.out;obtain rfl:b=true:=hb'.2 HF.out;clear T1 G1 T0 G0 hb';obtain⟨k0,k1,k2,k3,k4⟩:=HT.out.cells;go_wp2_with fail;refine hc.mono ?_;rintro e w2 ⟨rfl,G2⟩;clear hc;go_wp2;go_ret;exact⟨rfl,G01.trans G2⟩
  | false=>
   refine⟨fun hy=>(by simp at hb;exact absurd hy.2 hb),fun _=>?_⟩;have HI:=BB h;have HF:Hid (¬ dV p o l):=BB (fun e=>by have:=hb.2 e;cases this);clear hc h hb;go_enter func240,ntmps240;go_wp2_with fail;refine(QY _ p o s c l HI.out).mono ?_;rintro e w1 ⟨rfl,G1⟩;have T1:=T0.chg G1 (fun e=>e);have G01:=G0.trans G1;have HT:=BB T1;obtain⟨b,hb',hc⟩:=Hg w1 p o s c l HI.out;obtain rfl:b=false:=by
    cases b with
    | false=>rfl
    | true=>exact absurd (hb'.1 rfl) HF.out
   clear T1 G1 T0 G0 hb';obtain⟨k0,k1,k2,k3,k4⟩:=HT.out.cells;go_wp2_with fail;refine hc.mono ?_;rintro e w2 ⟨rfl,G2⟩;clear hc;go_wp2;go_ret;exact⟨rfl,G01.trans G2⟩
 ·refine⟨fun hy=>absurd hy.1 h,fun _=>?_⟩;have HI:=BB h;clear h T0;go_enter func240,ntmps240;go_wp2_with fail;refine(dW _ p o s c l HI.out).mono ?_;rintro e w1 ⟨rfl,G1⟩;have G01:=G0.trans G1;clear G1 G0;go_wp2;go_ret;exact⟨rfl,G01⟩
end
end Go.Proofs.YtbhbilcieodbhaaGreat
namespace Go.Proofs.YtbhbilcieodbhaaGreat
open List
open Go.Proofs.Tryz
open Go.RowKit Go.ChangeShapes Go.WideShapes
end Go.Proofs.YtbhbilcieodbhaaGreat
namespace Go.Proofs.YtbhbilcieodbhaaGreat
open List
open Go.Proofs.Tryz
open Go.RowKit
section
variable {w w':Wd}{b g n:Nat}{p o s c:Int}{l:Bool}
theorem Dx{ops:Array Oper}{rest:List Oper}{o:Oper}{a:Act}{Q:Exit->Act->World->Prop}(hgd:o.guard=none)(s x:Operand)(ho:o.op=.call { callee:=.builtin .append,args:=#[s,x],argTypes:=#[35,35] })(g k cap c oo m cc:Nat)(hs:a.eval s=.slice (some ⟨g,0,none⟩) k cap)(hx:a.eval x=.slice (some ⟨c,oo,none⟩) m cc){cur:List Nat}(hg:Arr w g 5 cur)(src:List Nat)(hn:src.length=m)(hsrc:∀j,j<src.length->w.cell? ⟨c,oo+j,none⟩=some (.int .u8 (src.getD j 0:Nat)))(hroom:k+m<=cap)(hfit:k+m<=cur.length)(h:wpList prog ops Q rest (a.put o.dst (.slice (some ⟨g,0,none⟩) (k+m) cap)) (w.setRow g (bcells (lay cur k src)))):wpList prog ops Q (o :: rest) a w:=by
 obtain⟨i,h1,_,h3,_⟩:=Fp;refine wpList_plain hgd fun K hK=>?_;have hrun:=run_append_room (P:=prog) w 35 o.type 5 i underlying35 h1 g k cap (bcells cur) hg ⟨c,oo,none⟩ m cc (src.map fun (n:Nat)=>Value.int .u8 (n:Int)) (by rw[h3];simpa using hn) (ED hsrc) (FV src) hroom (by rw[h3,Ba];simp;omega);rw[h3,Nat.mul_one,Aq,Ii] at hrun;unfold Oper.wp;simp[execOp,ho,resolve,invoke,builtin,hs,hx,hrun,Result.andThen];exact hK _ _ h
def Wr (w:Wd) (b g n:Nat) (p o s c:Int) (l:Bool):Prop:=
 w.heap[b]?=some (.cells #[.int .i64 p,.int .i64 o,.int .i64 s,.int .i64 c,.bool l,.slice (some ⟨g,0,none⟩) n 50] 331)
theorem Wr.lt(h:Wr w b g n p o s c l):b<w.heap.size:=(Array.getElem?_eq_some_iff.1 (show w.heap[b]?=some _ from h)).1
theorem Wr.other(h:Wr w b g n p o s c l)(e:w'.heap[b]?=w.heap[b]?):Wr w' b g n p o s c l:=e.trans h
theorem Wr.chg{S:Nat->Prop}(h:Wr w b g n p o s c l)(hc:Chg S w w')(hb:¬ S b):Wr w' b g n p o s c l:=(hc.block b h.lt hb).trans h
theorem Wr.cells(h:Wr w b g n p o s c l):w.cell? ⟨b,0,none⟩=some (.int .i64 p)/\w.cell? ⟨b,1,none⟩=some (.int .i64 o)/\w.cell? ⟨b,2,none⟩=some (.int .i64 s)/\w.cell? ⟨b,3,none⟩=some (.int .i64 c)/\w.cell? ⟨b,4,none⟩=some (.bool l)/\w.cell? ⟨b,5,none⟩=some (.slice (some ⟨g,0,none⟩) n 50)/\w.frozen? ⟨b,5,none⟩=false:=by
 have h':w.heap[b]?=some _:=h;refine⟨?_,?_,?_,?_,?_,?_,?_⟩ <;> simp[World.cell?,World.frozen?,h']
theorem Wr.store(h:Wr w b g n p o s c l)(m:Nat):Wr (w.setCell ⟨b,5,none⟩ (.slice (some ⟨g,0,none⟩) m 50)) b g m p o s c l:=by
 have h':w.heap[b]?=some _:=h;show (w.setCell ⟨b,5,none⟩ _).heap[b]?=_;simp[World.setCell,Ai,h']
theorem EG(w:Wd)(b g n:Nat)(p o s c:Int)(l:Bool)(L:List Nat)(hW:Wr w b g n p o s c l)(hA:Arr w g 5 L)(hL:L.length=50)(hbg:b≠g)(v z:Nat)(hv:v<18446744073709551616)(hz1:1<=z)(hz8:z<=8)(hr:v<256 ^ z)(hn:n+z<=50) :Calls prog 261 #[.pointer (some ⟨b,0,none⟩),.int .u64 (v:Int),.int .i64 (z:Int)] w fun e w'=>e=.returned .nilIface/\Wr w' b g (n+z) p o s c l/\Arr w' g 5 (lay L n (bts v z))/\Chg (fun k=>k=b\/k=g) w w':=by
 have HW:=BB hW;have HA:=BB hA;have hcall:=Me w v z hv hz1 hz8 hr;have HL:=BB hL;clear hW hA hr hL;go_enter func261,ntmps261;go_wp2_with fail;refine hcall.mono ?_;rintro e w1 ⟨g1,rfl,hg1,A1,G1⟩;clear hcall;have W1:=HW.out.chg G1 (fun e=>e);have B1:=HA.out.chg G1 (fun e=>e);have hgl:=HA.out.lt;have hbl:=HW.out.lt;obtain⟨-,-,-,-,-,k5,-⟩:=W1.cells;have hsrc:Hid (∀j,j<(bts v z).length->w1.cell? ⟨g1,0+j,none⟩=some (.int .u8 ((bts v z).getD j 0:Nat))):=BB (fun j hj=>by
  rw[BE] at hj
  rw[AW,A1.cell j (by rw[BE];omega),GT _ _ _ hj,GT _ _ _ om])
 have HB1:=BB B1;have HW1:=BB W1;have W2:Wr (w1.setRow g (bcells (lay L n (bts v z)))) b g n p o s c l:=W1.other (setRow_other _ _ _ _ hbg);have A2:Arr (w1.setRow g (bcells (lay L n (bts v z)))) g 5 (lay L n (bts v z)):=B1.row _;have G2:Chg (fun k=>k=b\/k=g) w (w1.setRow g (bcells (lay L n (bts v z)))):=(G1.mono (fun _ _ f=>f.elim)).setRow (AK (AL rfl)) _;obtain⟨-,-,-,-,-,j5,f5⟩:=W2.cells;have HW2:=BB W2;have HA2:=BB A2;have HG2:=BB G2;clear W1 B1 A1 G1 W2 A2 G2;go_wp2_with (at_builtin;refine Dx rfl (.tmp 22) (.tmp 23) rfl g n 50 g1 0 z z rfl rfl HB1.out (bts v z) (BE v z) hsrc.out hn (by rw[HL.out];exact hn) ?_);go_ret;exact⟨rfl,HW2.out.store _,HA2.out.setOther hbg _ _,HG2.out.setCell (AK (AK rfl)) _ _⟩
end
section
variable (w:Wd)
theorem LO(b g n:Nat)(p:Nat)(o s c:Int)(l:Bool)(L:List Nat)(hW:Wr w b g n p o s c l)(hA:Arr w g 5 L)(hL:L.length=50)(hbg:b≠g)(hp:p<65536)(hn:n+2<=50) :Calls prog 241 #[.pointer (some ⟨b,0,none⟩)] w fun e w'=>e=.returned .nilIface/\Wr w' b g (n+2) p o s c l/\Arr w' g 5 (lay L n (bts p 2))/\Chg (fun k=>k=b\/k=g) w w':=by
 have hcall:=EG w b g n p o s c l L hW hA hL hbg p 2 om dc dc om hn;obtain⟨k0,k1,k2,k3,k4,-,-⟩:=hW.cells;clear hW hA hL hbg hn;go_enter func241,ntmps241;go_wp2_with fail;refine hcall.mono ?_;rintro e w1 ⟨rfl,h1,h2,h3⟩;have H:=BB (And.intro h1 (And.intro h2 h3));clear h1 h2 h3 hcall;go_wp2;go_ret;exact⟨rfl,H.out⟩
theorem Rk(b g n:Nat)(o:Nat)(p s c:Int)(l:Bool)(L:List Nat)(hW:Wr w b g n p o s c l)(hA:Arr w g 5 L)(hL:L.length=50)(hbg:b≠g)(hp:o<256)(hn:n+1<=50) :Calls prog 242 #[.pointer (some ⟨b,0,none⟩)] w fun e w'=>e=.returned .nilIface/\Wr w' b g (n+1) p o s c l/\Arr w' g 5 (lay L n (bts o 1))/\Chg (fun k=>k=b\/k=g) w w':=by
 have hcall:=EG w b g n p o s c l L hW hA hL hbg o 1 om dc dc om hn;obtain⟨k0,k1,k2,k3,k4,-,-⟩:=hW.cells;clear hW hA hL hbg hn;go_enter func242,ntmps242;go_wp2_with fail;refine hcall.mono ?_;rintro e w1 ⟨rfl,h1,h2,h3⟩;have H:=BB (And.intro h1 (And.intro h2 h3));clear h1 h2 h3 hcall;go_wp2;go_ret;exact⟨rfl,H.out⟩
theorem OZ(b g n:Nat)(s:Nat)(p o c:Int)(l:Bool)(L:List Nat)(hW:Wr w b g n p o s c l)(hA:Arr w g 5 L)(hL:L.length=50)(hbg:b≠g)(hp:s<1099511627776)(hn:n+5<=50) :Calls prog 243 #[.pointer (some ⟨b,0,none⟩)] w fun e w'=>e=.returned .nilIface/\Wr w' b g (n+5) p o s c l/\Arr w' g 5 (lay L n (bts s 5))/\Chg (fun k=>k=b\/k=g) w w':=by
 have hcall:=EG w b g n p o s c l L hW hA hL hbg s 5 om dc dc om hn;obtain⟨k0,k1,k2,k3,k4,-,-⟩:=hW.cells;clear hW hA hL hbg hn;go_enter func243,ntmps243;go_wp2_with fail;refine hcall.mono ?_;rintro e w1 ⟨rfl,h1,h2,h3⟩;have H:=BB (And.intro h1 (And.intro h2 h3));clear h1 h2 h3 hcall;go_wp2;go_ret;exact⟨rfl,H.out⟩
theorem Mg(b g n:Nat)(c:Nat)(p o s:Int)(l:Bool)(L:List Nat)(hW:Wr w b g n p o s c l)(hA:Arr w g 5 L)(hL:L.length=50)(hbg:b≠g)(hp:c<256)(hn:n+1<=50) :Calls prog 244 #[.pointer (some ⟨b,0,none⟩)] w fun e w'=>e=.returned .nilIface/\Wr w' b g (n+1) p o s c l/\Arr w' g 5 (lay L n (bts c 1))/\Chg (fun k=>k=b\/k=g) w w':=by
 have hcall:=EG w b g n p o s c l L hW hA hL hbg c 1 om dc dc om hn;obtain⟨k0,k1,k2,k3,k4,-,-⟩:=hW.cells;clear hW hA hL hbg hn;go_enter func244,ntmps244;go_wp2_with fail;refine hcall.mono ?_;rintro e w1 ⟨rfl,h1,h2,h3⟩;have H:=BB (And.intro h1 (And.intro h2 h3));clear h1 h2 h3 hcall;go_wp2;go_ret;exact⟨rfl,H.out⟩
theorem Mh(b g n:Nat)(p o s c:Int)(l:Bool)(L:List Nat)(hW:Wr w b g n p o s c l)(hA:Arr w g 5 L)(hL:L.length=50)(hbg:b≠g)(hn:n+1<=50) :Calls prog 245 #[.pointer (some ⟨b,0,none⟩)] w fun e w'=>e=.returned .nilIface/\Wr w' b g (n+1) p o s c l/\Arr w' g 5 (lay L n (bts l.toNat 1))/\Chg (fun k=>k=b\/k=g) w w':=by
 cases l with
 | true=>
  have hcall:=EG w b g n p o s c true L hW hA hL hbg 1 1 om dc dc om hn;obtain⟨k0,k1,k2,k3,k4,-,-⟩:=hW.cells;clear hW hA hL hbg hn;go_enter func245,ntmps245;go_wp2_with fail;refine hcall.mono ?_;rintro e w1 ⟨rfl,h1,h2,h3⟩;have H:=BB (And.intro h1 (And.intro h2 h3));clear h1 h2 h3 hcall;go_wp2;go_ret;exact⟨rfl,H.out⟩
 | false=>
  have hcall:=EG w b g n p o s c false L hW hA hL hbg 0 1 om dc dc om hn;obtain⟨k0,k1,k2,k3,k4,-,-⟩:=hW.cells;clear hW hA hL hbg hn;go_enter func245,ntmps245;go_wp2_with fail;refine hcall.mono ?_;rintro e w1 ⟨rfl,h1,h2,h3⟩;have H:=BB (And.intro h1 (And.intro h2 h3));clear h1 h2 h3 hcall;go_wp2;go_ret;exact⟨rfl,H.out⟩
end
section
variable {l:Bool}{w w':Wd}{f b:Nat}{o s c p:Int}
def pre (p o s c:Nat) (l:Bool):Nat->List Nat
 | 0=>[]
 | 1=>bts p 2
 | 2=>bts p 2 ++ bts o 1
 | 3=>bts p 2 ++ bts o 1 ++ bts s 5
 | 4=>bts p 2 ++ bts o 1 ++ bts s 5 ++ bts c 1
 | _=>bts p 2 ++ bts o 1 ++ bts s 5 ++ bts c 1 ++ bts l.toNat 1
def row (p o s c:Nat) (l:Bool) (k:Nat):List Nat:=pre p o s c l k ++ List.replicate (50 - (pre p o s c l k).length) 0
def body (p o s c:Nat) (l:Bool):List Nat:=row p o s c l 5
theorem DA(p o s c:Nat)(l:Bool)(k:Nat)(hk:k<=5):(row p o s c l k).length=50:=by
 have:(pre p o s c l k).length<=50:=by
  rcases(by omega:k=0\/k=1\/k=2\/k=3\/k=4\/k=5) with rfl | rfl | rfl | rfl | rfl | rfl <;> simp[pre,BE]
 simp[row];omega
theorem By(p o s c:Nat)(l:Bool):(body p o s c l).length=50:=DA p o s c l 5 dc
theorem Ew(q src:List Nat)(n k:Nat)(hn:n=q.length):lay (q ++ List.replicate (src.length+k) 0) n src=(q ++ src) ++ List.replicate k 0:=by
 subst hn;simp[lay,drop_append,Aq]
theorem Rl(p o s c:Nat)(l:Bool):lay (row p o s c l 0) 0 (bts p 2)=row p o s c l 1:=by
 have:=Ew [] (bts p 2) 0 48 rfl;simp only[BE] at this;simpa[row,pre,BE] using this
theorem Rn(p o s c:Nat)(l:Bool):lay (row p o s c l 1) 2 (bts o 1)=row p o s c l 2:=by
 have:=Ew (bts p 2) (bts o 1) 2 47 (by simp[BE]);simp only[BE] at this;simpa[row,pre,BE] using this
theorem Ro(p o s c:Nat)(l:Bool):lay (row p o s c l 2) 3 (bts s 5)=row p o s c l 3:=by
 have:=Ew (bts p 2 ++ bts o 1) (bts s 5) 3 42 (by simp[BE]);simp only[BE] at this;simpa[row,pre,BE] using this
theorem Rp(p o s c:Nat)(l:Bool):lay (row p o s c l 3) 8 (bts c 1)=row p o s c l 4:=by
 have:=Ew (bts p 2 ++ bts o 1 ++ bts s 5) (bts c 1) 8 41 (by simp[BE]);simp only[BE] at this;simpa[row,pre,BE] using this
theorem Rr(p o s c:Nat)(l:Bool):lay (row p o s c l 4) 9 (bts l.toNat 1)=row p o s c l 5:=by
 have:=Ew (bts p 2 ++ bts o 1 ++ bts s 5 ++ bts c 1) (bts l.toNat 1) 9 40 (by simp[BE]);simp only[BE] at this;simpa[row,pre,BE] using this
def GU:List Nat:=List.replicate 50 0
theorem Oa(w:Wd):(Instr.makeSlice 35 (.int .i64 0) (.int .i64 50)).run prog w=.ok (.slice (some ⟨w.heap.size,0,none⟩) 0 50) (w.alloc (.cells (bcells GU) 5)):=by
 obtain⟨i,h1,h2,h3,h4⟩:=Fp;have h:=run_make (P:=prog) w 35 5 i (.int .u8 0) underlying35 h1 h2 .i64 .i64 0 50 om om (by rw[h4];omega) om;rw[h,h3,EU];rfl
theorem ZE(p o s c:Int)(l:Bool)(g:Nat)(w:Wd):(Instr.build 331 #[(0,.agg #[.int .i64 p,.int .i64 o,.int .i64 s,.int .i64 c,.bool l]),(1,.slice (some ⟨g,0,none⟩) 0 50)]).run prog w=.ok (.agg #[.int .i64 p,.int .i64 o,.int .i64 s,.int .i64 c,.bool l,.slice (some ⟨g,0,none⟩) 0 50]) w:=kr
theorem Ka(w:Wd)(p o s c:Int)(l:Bool)(h:¬ DV p o s c l) :Calls prog 217 #[.agg #[.int .i64 p,.int .i64 o,.int .i64 s,.int .i64 c,.bool l]] w fun e w'=>e=.returned (.tuple #[.slice none 0 0,.iface 56 (.int .i64 1)])/\Chg No w w':=by
 have hcall:=fun w=>(KZ w p o s c l).2 h;have G0:Chg No w (w.alloc (.cells #[.int .i64 p,.int .i64 o,.int .i64 s,.int .i64 c,.bool l] 127)):=(Chg.refl _ w).alloc _;have q1:=EX;clear h;go_enter func217,ntmps217;go_wp2_with fail;refine(hcall _).mono ?_;rintro e w1 ⟨rfl,G1⟩;clear hcall;have G01:=G0.trans G1;clear G0 G1;go_wp2;go_ret2;exact⟨rfl,G01⟩
def bq (w:Wd) (f b:Nat):Prop:=w.heap[f]?=some (.cells #[.func (.func 241) #[.pointer (some ⟨b,0,none⟩)] #[],.func (.func 242) #[.pointer (some ⟨b,0,none⟩)] #[],.func (.func 243) #[.pointer (some ⟨b,0,none⟩)] #[],.func (.func 244) #[.pointer (some ⟨b,0,none⟩)] #[],.func (.func 245) #[.pointer (some ⟨b,0,none⟩)] #[]] 59)
theorem bq.lt(h:bq w f b):f<w.heap.size:=(Array.getElem?_eq_some_iff.1 (show w.heap[f]?=some _ from h)).1
theorem bq.chg{S:Nat->Prop}(h:bq w f b)(hc:Chg S w w')(hf:¬ S f):bq w' f b:=(hc.block f h.lt hf).trans h
theorem bq.cells(h:bq w f b):w.cell? ⟨f,0,none⟩=some (.func (.func 241) #[.pointer (some ⟨b,0,none⟩)] #[])/\w.cell? ⟨f,1,none⟩=some (.func (.func 242) #[.pointer (some ⟨b,0,none⟩)] #[])/\w.cell? ⟨f,2,none⟩=some (.func (.func 243) #[.pointer (some ⟨b,0,none⟩)] #[])/\w.cell? ⟨f,3,none⟩=some (.func (.func 244) #[.pointer (some ⟨b,0,none⟩)] #[])/\w.cell? ⟨f,4,none⟩=some (.func (.func 245) #[.pointer (some ⟨b,0,none⟩)] #[]):=by
 have h':w.heap[f]?=some _:=h;refine⟨?_,?_,?_,?_,?_⟩ <;> simp[World.cell?,h']
def OF (w wr:Wd) (g k p o s c:Nat) (l:Bool):Prop:=
 Wr wr (g+1) g (pre p o s c l k).length p o s c l/\Arr wr g 5 (row p o s c l k)/\bq wr (g+2) (g+1)/\Chg No w wr
theorem OF.next{wr:Wd}{g k p o s c m:Nat}(h:OF w wr g k p o s c l)(hg:w.heap.size<=g)(hm:m=(pre p o s c l (k+1)).length)(h1:Wr w' (g+1) g m p o s c l)(h2:Arr w' g 5 (row p o s c l (k+1)))(h3:Chg (fun k=>k=g+1\/k=g) wr w'):OF w w' g (k+1) p o s c l:=
 ⟨by rw[<-hm];exact h1,h2,h.2.2.1.chg h3 om,h.2.2.2.trans' h3 (fun i hi ht=>om)⟩
theorem DV.pl{p:Nat}(h:DV p o s c l):p<65536:=by
 have:=h.1.1;omega
theorem DV.ol{o:Nat}(h:DV p o s c l):o<256:=by
 have:=h.1.2.1;omega
theorem DV.sl{s:Nat}(h:DV p o s c l):s<1099511627776:=by
 have:=h.1.2.2.1;omega
theorem DV.cl{c:Nat}(h:DV p o s c l):c<256:=by
 have:=h.1.2.2.2;omega
theorem lR(p o s c:Nat)(l:Bool):row p o s c l 0=GU:=by simp[row,pre,GU]
theorem EY(w:Wd)(p o s c:Nat)(l:Bool)(h:DV p o s c l) :Calls prog 217 #[.agg #[.int .i64 p,.int .i64 o,.int .i64 s,.int .i64 c,.bool l]] w fun e w'=>∃g,e=.returned (.tuple #[.slice (some ⟨g,0,none⟩) 50 50,.nilIface])/\w.heap.size<=g/\Arr w' g 5 (body p o s c l)/\Chg No w w':=by
 have hcall:=fun w=>(KZ w p o s c l).1 h;have T0:=Tg.new w p o s c l;have G0:Chg No w (w.alloc (.cells #[.int .i64 p,.int .i64 o,.int .i64 s,.int .i64 c,.bool l] 127)):=(Chg.refl _ w).alloc _;have q1:=Cs;have hmk:=Oa;have hb:=ZE;have HM:=BB h;clear h;go_enter func217,ntmps217;go_wp2_with fail;refine(hcall _).mono ?_;rintro e w1 ⟨rfl,G1⟩;clear hcall;have G01:=G0.trans G1;have HT:=BB (T0.chg G1 (fun e=>e));obtain⟨k0,k1,k2,k3,k4⟩:=HT.out.cells;obtain⟨j0,j1,j2,j3,j4⟩:=(HT.out.alloc (.cells (bcells GU) 5)).cells;clear G0 G1 T0;go_wp2_with fail;go_region;clear j0 j1 j2 j3 j4 k0 k1 k2 k3 k4 hmk hb;go_wp2_with fail;have hg:=G01.size;generalize hG:w1.heap.size=g at *
 have S0:OF w (((w1.alloc (.cells (bcells GU) 5)).alloc (.cells #[.int .i64 p,.int .i64 o,.int .i64 s,.int .i64 c,.bool l,.slice (some ⟨g,0,none⟩) 0 50] 331)).drew.alloc (.cells #[.func (.func 241) #[.pointer (some ⟨g+1,0,none⟩)] #[],.func (.func 242) #[.pointer (some ⟨g+1,0,none⟩)] #[],.func (.func 243) #[.pointer (some ⟨g+1,0,none⟩)] #[],.func (.func 244) #[.pointer (some ⟨g+1,0,none⟩)] #[],.func (.func 245) #[.pointer (some ⟨g+1,0,none⟩)] #[]] 59)) g 0 p o s c l:=by
  subst hG;have W1:Wr ((w1.alloc (.cells (bcells GU) 5)).alloc (.cells #[.int .i64 p,.int .i64 o,.int .i64 s,.int .i64 c,.bool l,.slice (some ⟨w1.heap.size,0,none⟩) 0 50] 331)) (w1.heap.size+1) w1.heap.size 0 p o s c l:=by
   have:=heap_alloc_new (w1.alloc (.cells (bcells GU) 5)) (.cells #[.int .i64 p,.int .i64 o,.int .i64 s,.int .i64 c,.bool l,.slice (some ⟨w1.heap.size,0,none⟩) 0 50] 331);simpa[Wr] using this
  have A1:Arr ((w1.alloc (.cells (bcells GU) 5)).alloc (.cells #[.int .i64 p,.int .i64 o,.int .i64 s,.int .i64 c,.bool l,.slice (some ⟨w1.heap.size,0,none⟩) 0 50] 331)) w1.heap.size 5 GU:=(Arr.new w1 5 GU).alloc _;have hs2:((w1.alloc (.cells (bcells GU) 5)).alloc (.cells #[.int .i64 p,.int .i64 o,.int .i64 s,.int .i64 c,.bool l,.slice (some ⟨w1.heap.size,0,none⟩) 0 50] 331)).drew.heap.size=w1.heap.size+2:=by simp
  refine⟨Wr.other (w:=(w1.alloc (.cells (bcells GU) 5)).alloc (.cells #[.int .i64 p,.int .i64 o,.int .i64 s,.int .i64 c,.bool l,.slice (some ⟨w1.heap.size,0,none⟩) 0 50] 331)) W1 (Below.heap_alloc _ _ _ W1.lt),?_,?_,?_⟩
  ·rw[lR];exact Arr.alloc (w:=((w1.alloc (.cells (bcells GU) 5)).alloc (.cells #[.int .i64 p,.int .i64 o,.int .i64 s,.int .i64 c,.bool l,.slice (some ⟨w1.heap.size,0,none⟩) 0 50] 331)).drew) A1 _
  ·have:=heap_alloc_new ((w1.alloc (.cells (bcells GU) 5)).alloc (.cells #[.int .i64 p,.int .i64 o,.int .i64 s,.int .i64 c,.bool l,.slice (some ⟨w1.heap.size,0,none⟩) 0 50] 331)).drew (.cells #[.func (.func 241) #[.pointer (some ⟨w1.heap.size+1,0,none⟩)] #[],.func (.func 242) #[.pointer (some ⟨w1.heap.size+1,0,none⟩)] #[],.func (.func 243) #[.pointer (some ⟨w1.heap.size+1,0,none⟩)] #[],.func (.func 244) #[.pointer (some ⟨w1.heap.size+1,0,none⟩)] #[],.func (.func 245) #[.pointer (some ⟨w1.heap.size+1,0,none⟩)] #[]] 59);rw[hs2] at this;exact this
  ·exact(((G01.alloc _).alloc _).drew).alloc _
 go_loopw [30] (fun t wr=>∃k:Nat,k<=5/\t=.int .i64 k/\OF w wr g k p o s c l) (fun t _=>5 - (intOf t).toNat)
 case atStart=>exact⟨0,dc,rfl,S0⟩
 case round=>
  obtain⟨k,hk,rfl,hS⟩:=hrel;obtain⟨a1,a2,a3,a4⟩:=hS;obtain⟨f0,f1,f2,f3,f4⟩:=a3.cells;rcases(by omega:k=0\/k=1\/k=2\/k=3\/k=4\/k=5) with rfl | rfl | rfl | rfl | rfl | rfl
  ·have hcall:=LO wr (g+1) g 0 p o s c l (row p o s c l 0) (by simpa[pre,BE] using a1) a2 (DA p o s c l 0 dc) om HM.out.pl dc;have HS:=BB (show OF w wr g 0 p o s c l from ⟨a1,a2,a3,a4⟩);clear a1 a2 a3 a4 S0;go_wp2_with fail;refine hcall.mono ?_;rintro e w2 ⟨rfl,b1,b2,b3⟩;rw[Rl] at b2;have HN:Hid (OF w w2 g 1 p o s c l):=BB (HS.out.next hg (by simp[pre,BE]) b1 b2 b3);clear b1 b2 b3 hcall f0 f1 f2 f3 f4;go_wp2;exact⟨⟨1,dc,rfl,HN.out⟩,by simp[intOf]⟩
  ·have hcall:=Rk wr (g+1) g 2 o p s c l (row p o s c l 1) (by simpa[pre,BE] using a1) a2 (DA p o s c l 1 dc) om HM.out.ol dc;have HS:=BB (show OF w wr g 1 p o s c l from ⟨a1,a2,a3,a4⟩);clear a1 a2 a3 a4 S0;go_wp2_with fail;refine hcall.mono ?_;rintro e w2 ⟨rfl,b1,b2,b3⟩;rw[Rn] at b2;have HN:Hid (OF w w2 g 2 p o s c l):=BB (HS.out.next hg (by simp[pre,BE]) b1 b2 b3);clear b1 b2 b3 hcall f0 f1 f2 f3 f4;go_wp2;exact⟨⟨2,dc,rfl,HN.out⟩,by simp[intOf]⟩
  ·have hcall:=OZ wr (g+1) g 3 s p o c l (row p o s c l 2) (by simpa[pre,BE] using a1) a2 (DA p o s c l 2 dc) om HM.out.sl dc;have HS:=BB (show OF w wr g 2 p o s c l from ⟨a1,a2,a3,a4⟩);clear a1 a2 a3 a4 S0;go_wp2_with fail;refine hcall.mono ?_;rintro e w2 ⟨rfl,b1,b2,b3⟩;rw[Ro] at b2;have HN:Hid (OF w w2 g 3 p o s c l):=BB (HS.out.next hg (by simp[pre,BE]) b1 b2 b3);clear b1 b2 b3 hcall f0 f1 f2 f3 f4;go_wp2;exact⟨⟨3,dc,rfl,HN.out⟩,by simp[intOf]⟩
  ·have hcall:=Mg wr (g+1) g 8 c p o s l (row p o s c l 3) (by simpa[pre,BE] using a1) a2 (DA p o s c l 3 dc) om HM.out.cl dc;have HS:=BB (show OF w wr g 3 p o s c l from ⟨a1,a2,a3,a4⟩);clear a1 a2 a3 a4 S0;go_wp2_with fail;refine hcall.mono ?_;rintro e w2 ⟨rfl,b1,b2,b3⟩;rw[Rp] at b2;have HN:Hid (OF w w2 g 4 p o s c l):=BB (HS.out.next hg (by simp[pre,BE]) b1 b2 b3);clear b1 b2 b3 hcall f0 f1 f2 f3 f4;go_wp2;exact⟨⟨4,dc,rfl,HN.out⟩,by simp[intOf]⟩
  ·have hcall:=Mh wr (g+1) g 9 p o s c l (row p o s c l 4) (by simpa[pre,BE] using a1) a2 (DA p o s c l 4 dc) om dc;have HS:=BB (show OF w wr g 4 p o s c l from ⟨a1,a2,a3,a4⟩);clear a1 a2 a3 a4 S0;go_wp2_with fail;refine hcall.mono ?_;rintro e w2 ⟨rfl,b1,b2,b3⟩;rw[Rr] at b2;have HN:Hid (OF w w2 g 5 p o s c l):=BB (HS.out.next hg (by simp[pre,BE]) b1 b2 b3);clear b1 b2 b3 hcall f0 f1 f2 f3 f4;go_wp2;exact⟨⟨5,dc,rfl,HN.out⟩,by simp[intOf]⟩
  ·have HS:=BB (show OF w wr g 5 p o s c l from ⟨a1,a2,a3,a4⟩);have hpl:(pre p o s c l 5).length=10:=(by simp[pre,BE]);rw[hpl] at a1;obtain⟨-,-,-,-,-,k5,-⟩:=a1.cells;clear a1 a2 a3 a4 S0 f0 f1 f2 f3 f4 hpl;go_wp2;go_ret2;exact⟨g,rfl,om,HS.out.2.1,HS.out.2.2.2⟩
end
section
variable {w w':Wd}{b n0 n1 n2 n3 n4 a n o:Nat}{l:List Nat}{p s c:Int}{S:Nat->Prop}
theorem Mi(w:Wd)(a:Option Addr)(n cap:Nat)(l:List Nat)(hn:n=l.length)(hl:Bys l)(h1:1<=l.length)(h8:l.length<=8)(hr:Cu w (.slice a n cap) l) :Calls prog 234 #[.slice a n cap] w fun e w'=>e=.returned (.tuple #[.int .u64 (le l:Nat),.nilIface])/\Chg No w w':=by
 subst hn;exact ZB w a cap l hl h1 h8 hr
def KG (l:List Nat) (a n:Nat):List Nat:=(l.drop a).take n
theorem BX(h:a+n<=l.length):(KG l a n).length=n:=by simp[KG];omega
theorem UW{i:Nat}(h:i<n):(KG l a n).getD i 0=l.getD (a+i) 0:=by
 simp[KG,AQ,List.getElem?_take_of_lt h]
theorem FY(h:Bys l)(a n:Nat):Bys (KG l a n):=GM (GO h a) n
def BS (l:List Nat) (a n:Nat):Nat:=le (KG l a n)
theorem JP(h:Bys l)(hn:a+n<=l.length):BS l a n<256 ^ n:=by
 have:=UT (FY h a n)
 rwa [BX hn] at this
def At (w:Wd) (c o:Nat) (l:List Nat):Prop:=c<w.heap.size/\∀i,i<l.length->w.cell? ⟨c,o+i,none⟩=some (.int .u8 (l.getD i 0:Nat))
theorem At.chg{c:Nat}(h:At w c o l)(hc:Chg S w w')(hS:¬ S c):At w' c o l:=
 ⟨Aj h.1 hc.size,fun i hi=>(hc.cell h.1 hS _).trans (h.2 i hi)⟩
theorem At.held{c:Nat}(h:At w c o l)(a n cap:Nat)(hn:a+n<=l.length):Cu w (.slice (some ⟨c,o+a,none⟩) n cap) (KG l a n):=
 ⟨_,cap,by rw[BX hn],AL ⟨c,o+a,rfl,h.1,fun i hi=>by
  rw[BX hn] at hi
  rw[UW hi,Nat.add_assoc]
  exact h.2 (a+i) om⟩⟩
def CS (w:Wd) (b n0 n1 n2 n3 n4:Nat):Prop:=w.heap[b]?=some (.cells #[.int .u64 (n0:Nat),.int .u64 (n1:Nat),.int .u64 (n2:Nat),.int .u64 (n3:Nat),.int .u64 (n4:Nat)] 336)
theorem CS.lt(h:CS w b n0 n1 n2 n3 n4):b<w.heap.size:=(Array.getElem?_eq_some_iff.1 (show w.heap[b]?=some _ from h)).1
theorem CS.chg(h:CS w b n0 n1 n2 n3 n4)(hc:Chg S w w')(hb:¬ S b):CS w' b n0 n1 n2 n3 n4:=(hc.block b h.lt hb).trans h
theorem CS.cells(h:CS w b n0 n1 n2 n3 n4):(w.cell? ⟨b,0,none⟩=some (.int .u64 (n0:Nat))/\w.cell? ⟨b,1,none⟩=some (.int .u64 (n1:Nat))/\w.cell? ⟨b,2,none⟩=some (.int .u64 (n2:Nat))/\w.cell? ⟨b,3,none⟩=some (.int .u64 (n3:Nat))/\w.cell? ⟨b,4,none⟩=some (.int .u64 (n4:Nat)))/\∀i,w.frozen? ⟨b,i,none⟩=false:=by
 have h':w.heap[b]?=some _:=h;refine⟨⟨?_,?_,?_,?_,?_⟩,fun i=>?_⟩ <;> simp[World.cell?,World.frozen?,h']
theorem CS.set0(h:CS w b n0 n1 n2 n3 n4)(x:Nat):CS (w.setCell ⟨b,0,none⟩ (.int .u64 (x:Nat))) b x n1 n2 n3 n4:=by
 have h':w.heap[b]?=some _:=h;show (w.setCell ⟨b,0,none⟩ _).heap[b]?=_;simp[World.setCell,Ai,h']
theorem CS.set1(h:CS w b n0 n1 n2 n3 n4)(x:Nat):CS (w.setCell ⟨b,1,none⟩ (.int .u64 (x:Nat))) b n0 x n2 n3 n4:=by
 have h':w.heap[b]?=some _:=h;show (w.setCell ⟨b,1,none⟩ _).heap[b]?=_;simp[World.setCell,Ai,h']
theorem CS.set2(h:CS w b n0 n1 n2 n3 n4)(x:Nat):CS (w.setCell ⟨b,2,none⟩ (.int .u64 (x:Nat))) b n0 n1 x n3 n4:=by
 have h':w.heap[b]?=some _:=h;show (w.setCell ⟨b,2,none⟩ _).heap[b]?=_;simp[World.setCell,Ai,h']
theorem CS.set3(h:CS w b n0 n1 n2 n3 n4)(x:Nat):CS (w.setCell ⟨b,3,none⟩ (.int .u64 (x:Nat))) b n0 n1 n2 x n4:=by
 have h':w.heap[b]?=some _:=h;show (w.setCell ⟨b,3,none⟩ _).heap[b]?=_;simp[World.setCell,Ai,h']
theorem CS.set4(h:CS w b n0 n1 n2 n3 n4)(x:Nat):CS (w.setCell ⟨b,4,none⟩ (.int .u64 (x:Nat))) b n0 n1 n2 n3 x:=by
 have h':w.heap[b]?=some _:=h;show (w.setCell ⟨b,4,none⟩ _).heap[b]?=_;simp[World.setCell,Ai,h']
def Mj (l:List Nat) (k i a n:Nat):Nat:=if i<k then BS l a n else 0
def froms:Nat->Nat
 | 0=>0
 | 1=>2
 | 2=>3
 | 3=>8
 | 4=>9
 | _=>10
theorem BK{ops:Array Oper}{rest:List Oper}{o:Oper}{a:Act}{Q:Exit->Act->World->Prop}(hgd:o.guard=none)(x y:Operand)(ho:o.op=.store 127 x y)(g:Nat)(hx:a.eval x=.pointer (some ⟨g,0,none⟩)){of:Int}{l:Bool}(hy:a.eval y=.agg #[.int .i64 p,.int .i64 of,.int .i64 s,.int .i64 c,.bool l]){p' o' s' c':Int}{l':Bool}(hg:Tg w g p' o' s' c' l')(h:∀w',Tg w' g p of s c l->Chg (·=g) w w'->wpList prog ops Q rest (a.put o.dst undef) w'):wpList prog ops Q (o :: rest) a w:=
 wpList_store_row hgd 127 x y ho g _ hx hy 127 _ hg Fy rfl (by simp[Value.oneCell']) (h _ (setRow_heap w g _ _ 127 _ hg) ⟨rfl,rfl,rfl,by simp,fun k _ hk=>setRow_other _ _ _ _ hk⟩)
theorem Bg{fn:Func}{q u:Tmp}(h:fn.results=#[.cell q 127,.tmp u])(tmps:Array Value){g:Nat}{o:Int}{l:Bool}(hp:tmps.getD q undef=.pointer (some ⟨g,0,none⟩))(hT:Tg w g p o s c l) :(results fn tmps).run prog w=.ok (.tuple #[.agg #[.int .i64 p,.int .i64 o,.int .i64 s,.int .i64 c,.bool l],tmps.getD u undef]) w:=by
 rw[results_cell_tmp h,hp];simp[asAddr,run_loadVar_row w g 127 127 _ _ _ hT underlying127 rfl Fy]
theorem lS(w:Wd):(Instr.index 337 (.agg #[.int .i64 2,.int .i64 1,.int .i64 5,.int .i64 1,.int .i64 1]) (.int .i64 0)).run prog w=.ok (.int .i64 2) w:=kr
theorem lT(w:Wd):(Instr.index 337 (.agg #[.int .i64 2,.int .i64 1,.int .i64 5,.int .i64 1,.int .i64 1]) (.int .i64 1)).run prog w=.ok (.int .i64 1) w:=kr
theorem lU(w:Wd):(Instr.index 337 (.agg #[.int .i64 2,.int .i64 1,.int .i64 5,.int .i64 1,.int .i64 1]) (.int .i64 2)).run prog w=.ok (.int .i64 5) w:=kr
theorem lV(w:Wd):(Instr.index 337 (.agg #[.int .i64 2,.int .i64 1,.int .i64 5,.int .i64 1,.int .i64 1]) (.int .i64 3)).run prog w=.ok (.int .i64 1) w:=kr
theorem lW(w:Wd):(Instr.index 337 (.agg #[.int .i64 2,.int .i64 1,.int .i64 5,.int .i64 1,.int .i64 1]) (.int .i64 4)).run prog w=.ok (.int .i64 1) w:=kr
theorem Tg.setOther{o:Int}{l:Bool}(h:Tg w b p o s c l){k:Nat}(hg:k≠b)(i:Nat)(v:Value):Tg (w.setCell ⟨k,i,none⟩ v) b p o s c l:=
 (Below.heap_setCell _ _ _ _ (by simp;omega)).trans h
def mX (w wr:Wd) (l:List Nat) (k:Nat):Prop:=
 CS wr (w.heap.size+1) (Mj l k 0 0 2) (Mj l k 1 2 1) (Mj l k 2 3 5) (Mj l k 3 8 1) (Mj l k 4 9 1)/\Tg wr w.heap.size 0 0 0 0 false/\Chg No w wr
theorem Ob(w:Wd)(c o cap:Nat)(l:List Nat)(hl:Bys l)(hL:l.length=50)(hcap:50<=cap)(hA:At w c o l) :Calls prog 227 #[.slice (some ⟨c,o,none⟩) 50 cap] w fun e w'=>e=.returned (.tuple #[.agg #[.int .i64 (BS l 0 2:Nat),.int .i64 (BS l 2 1:Nat),.int .i64 (BS l 3 5:Nat),.int .i64 (BS l 8 1:Nat),.bool (((BS l 9 1:Nat):Int) == 1)],.nilIface])/\Chg No w w':=by
 have HA:=BB hA;have HL:=BB hL;have x0:=JP hl (a:=0) (n:=2) om;have x1:=JP hl (a:=2) (n:=1) om;have x2:=JP hl (a:=3) (n:=5) om;have x3:=JP hl (a:=8) (n:=1) om;have x4:=JP hl (a:=9) (n:=1) om;simp only[Nat.reducePow] at x0 x1 x2 x3 x4;clear hA hL;have q1:=Cs;have hcs:c<w.heap.size:=HA.out.1;go_enter func227,ntmps227;go_wp2_with fail;have S0:mX w ((w.alloc (.cells #[.int .i64 0,.int .i64 0,.int .i64 0,.int .i64 0,.bool false] 127)).alloc (.cells #[.int .u64 0,.int .u64 0,.int .u64 0,.int .u64 0,.int .u64 0] 336)) l 0:=by
  refine⟨?_,(Tg.new w 0 0 0 0 false).alloc _,((Chg.refl _ w).alloc _).alloc _⟩;have:=heap_alloc_new (w.alloc (.cells #[.int .i64 0,.int .i64 0,.int .i64 0,.int .i64 0,.bool false] 127)) (.cells #[.int .u64 0,.int .u64 0,.int .u64 0,.int .u64 0,.int .u64 0] 336);simpa[CS,Mj] using this
 go_loopw [5,11] (fun f t wr=>∃k:Nat,k<=5/\t=.int .i64 k/\f=.int .i64 (froms k:Nat)/\mX w wr l k) (fun _ t _=>5 - (intOf t).toNat)
 case atStart=>exact⟨0,dc,rfl,rfl,S0⟩
 case round=>
  clear S0;obtain⟨k,hk,rfl,rfl,a1,a2,a3⟩:=hrel;have hAr:=HA.out.chg a3 (fun e=>e);rcases(by omega:k=0\/k=1\/k=2\/k=3\/k=4\/k=5) with rfl | rfl | rfl | rfl | rfl | rfl
  ·have hc:¬ cap=0:=om;have hi:=lS;rw[show froms 0=0 from rfl];have hc2:((2:Nat):Int)<=(cap:Int):=om;have hcall:=Mi wr (some ⟨c,o,none⟩) 2 cap (KG l 0 2) (by rw[BX (by rw[HL.out];decide)]) (FY hl 0 2) (by rw[BX (by rw[HL.out];decide)];decide) (by rw[BX (by rw[HL.out];decide)];decide) (hAr.held 0 2 cap (by rw[HL.out];decide));have HN:Hid (CS wr (w.heap.size+1) 0 0 0 0 0):=BB (by simpa[Mj] using a1);have HT:=BB a2;have HG:=BB a3;clear hAr a1 a2 a3;go_wp2_with fail;refine hcall.mono ?_;rintro e w2 ⟨rfl,G2⟩;have N2:=HN.out.chg G2 (fun e=>e);obtain⟨⟨k0,k1,k2,k3,k4⟩,kf⟩:=N2.cells;have HN3:Hid (CS (w2.setCell ⟨w.heap.size+1,0,none⟩ (.int .u64 (BS l 0 2:Nat))) (w.heap.size+1) (BS l 0 2) 0 0 0 0):=BB (N2.set0 _);have HT3:Hid (Tg (w2.setCell ⟨w.heap.size+1,0,none⟩ (.int .u64 (BS l 0 2:Nat))) w.heap.size 0 0 0 0 false):=BB ((HT.out.chg G2 (fun e=>e)).setOther om _ _);have HG3:Hid (Chg No w (w2.setCell ⟨w.heap.size+1,0,none⟩ (.int .u64 (BS l 0 2:Nat)))):=BB ((HG.out.trans G2).setCell (AL om) _ _);have hf:=kf 0;clear hcall N2 G2 kf HN HT HG;rw[show le (KG l 0 2)=BS l 0 2 from rfl];go_wp2;exact⟨⟨1,dc,rfl,rfl,by simpa[Mj] using HN3.out,HT3.out,HG3.out⟩,by simp[intOf]⟩
  ·have hc:¬ cap=2:=om;have hi:=lT;rw[show froms 1=2 from rfl];have hc2:((3:Nat):Int)<=(cap:Int):=om;have hcall:=Mi wr (some ⟨c,o+2,none⟩) 1 (cap - 2) (KG l 2 1) (by rw[BX (by rw[HL.out];decide)]) (FY hl 2 1) (by rw[BX (by rw[HL.out];decide)];decide) (by rw[BX (by rw[HL.out];decide)];decide) (hAr.held 2 1 (cap - 2) (by rw[HL.out];decide));have HN:Hid (CS wr (w.heap.size+1) (BS l 0 2) 0 0 0 0):=BB (by simpa[Mj] using a1);have HT:=BB a2;have HG:=BB a3;clear hAr a1 a2 a3;go_wp2_with fail;refine hcall.mono ?_;rintro e w2 ⟨rfl,G2⟩;have N2:=HN.out.chg G2 (fun e=>e);obtain⟨⟨k0,k1,k2,k3,k4⟩,kf⟩:=N2.cells;have HN3:Hid (CS (w2.setCell ⟨w.heap.size+1,1,none⟩ (.int .u64 (BS l 2 1:Nat))) (w.heap.size+1) (BS l 0 2) (BS l 2 1) 0 0 0):=BB (N2.set1 _);have HT3:Hid (Tg (w2.setCell ⟨w.heap.size+1,1,none⟩ (.int .u64 (BS l 2 1:Nat))) w.heap.size 0 0 0 0 false):=BB ((HT.out.chg G2 (fun e=>e)).setOther om _ _);have HG3:Hid (Chg No w (w2.setCell ⟨w.heap.size+1,1,none⟩ (.int .u64 (BS l 2 1:Nat)))):=BB ((HG.out.trans G2).setCell (AL om) _ _);have hf:=kf 1;clear hcall N2 G2 kf HN HT HG;rw[show le (KG l 2 1)=BS l 2 1 from rfl];go_wp2;exact⟨⟨2,dc,rfl,rfl,by simpa[Mj] using HN3.out,HT3.out,HG3.out⟩,by simp[intOf]⟩
  ·have hc:¬ cap=3:=om;have hi:=lU;rw[show froms 2=3 from rfl];have hc2:((8:Nat):Int)<=(cap:Int):=om;have hcall:=Mi wr (some ⟨c,o+3,none⟩) 5 (cap - 3) (KG l 3 5) (by rw[BX (by rw[HL.out];decide)]) (FY hl 3 5) (by rw[BX (by rw[HL.out];decide)];decide) (by rw[BX (by rw[HL.out];decide)];decide) (hAr.held 3 5 (cap - 3) (by rw[HL.out];decide));have HN:Hid (CS wr (w.heap.size+1) (BS l 0 2) (BS l 2 1) 0 0 0):=BB (by simpa[Mj] using a1);have HT:=BB a2;have HG:=BB a3;clear hAr a1 a2 a3;go_wp2_with fail;refine hcall.mono ?_;rintro e w2 ⟨rfl,G2⟩;have N2:=HN.out.chg G2 (fun e=>e);obtain⟨⟨k0,k1,k2,k3,k4⟩,kf⟩:=N2.cells;have HN3:Hid (CS (w2.setCell ⟨w.heap.size+1,2,none⟩ (.int .u64 (BS l 3 5:Nat))) (w.heap.size+1) (BS l 0 2) (BS l 2 1) (BS l 3 5) 0 0):=BB (N2.set2 _);have HT3:Hid (Tg (w2.setCell ⟨w.heap.size+1,2,none⟩ (.int .u64 (BS l 3 5:Nat))) w.heap.size 0 0 0 0 false):=BB ((HT.out.chg G2 (fun e=>e)).setOther om _ _);have HG3:Hid (Chg No w (w2.setCell ⟨w.heap.size+1,2,none⟩ (.int .u64 (BS l 3 5:Nat)))):=BB ((HG.out.trans G2).setCell (AL om) _ _);have hf:=kf 2;clear hcall N2 G2 kf HN HT HG;rw[show le (KG l 3 5)=BS l 3 5 from rfl];go_wp2;exact⟨⟨3,dc,rfl,rfl,by simpa[Mj] using HN3.out,HT3.out,HG3.out⟩,by simp[intOf]⟩
  ·have hc:¬ cap=8:=om;have hi:=lV;rw[show froms 3=8 from rfl];have hc2:((9:Nat):Int)<=(cap:Int):=om;have hcall:=Mi wr (some ⟨c,o+8,none⟩) 1 (cap - 8) (KG l 8 1) (by rw[BX (by rw[HL.out];decide)]) (FY hl 8 1) (by rw[BX (by rw[HL.out];decide)];decide) (by rw[BX (by rw[HL.out];decide)];decide) (hAr.held 8 1 (cap - 8) (by rw[HL.out];decide));have HN:Hid (CS wr (w.heap.size+1) (BS l 0 2) (BS l 2 1) (BS l 3 5) 0 0):=BB (by simpa[Mj] using a1);have HT:=BB a2;have HG:=BB a3;clear hAr a1 a2 a3;go_wp2_with fail;refine hcall.mono ?_;rintro e w2 ⟨rfl,G2⟩;have N2:=HN.out.chg G2 (fun e=>e);obtain⟨⟨k0,k1,k2,k3,k4⟩,kf⟩:=N2.cells;have HN3:Hid (CS (w2.setCell ⟨w.heap.size+1,3,none⟩ (.int .u64 (BS l 8 1:Nat))) (w.heap.size+1) (BS l 0 2) (BS l 2 1) (BS l 3 5) (BS l 8 1) 0):=BB (N2.set3 _);have HT3:Hid (Tg (w2.setCell ⟨w.heap.size+1,3,none⟩ (.int .u64 (BS l 8 1:Nat))) w.heap.size 0 0 0 0 false):=BB ((HT.out.chg G2 (fun e=>e)).setOther om _ _);have HG3:Hid (Chg No w (w2.setCell ⟨w.heap.size+1,3,none⟩ (.int .u64 (BS l 8 1:Nat)))):=BB ((HG.out.trans G2).setCell (AL om) _ _);have hf:=kf 3;clear hcall N2 G2 kf HN HT HG;rw[show le (KG l 8 1)=BS l 8 1 from rfl];go_wp2;exact⟨⟨4,dc,rfl,rfl,by simpa[Mj] using HN3.out,HT3.out,HG3.out⟩,by simp[intOf]⟩
  ·have hc:¬ cap=9:=om;have hi:=lW;rw[show froms 4=9 from rfl];have hc2:((10:Nat):Int)<=(cap:Int):=om;have hcall:=Mi wr (some ⟨c,o+9,none⟩) 1 (cap - 9) (KG l 9 1) (by rw[BX (by rw[HL.out];decide)]) (FY hl 9 1) (by rw[BX (by rw[HL.out];decide)];decide) (by rw[BX (by rw[HL.out];decide)];decide) (hAr.held 9 1 (cap - 9) (by rw[HL.out];decide));have HN:Hid (CS wr (w.heap.size+1) (BS l 0 2) (BS l 2 1) (BS l 3 5) (BS l 8 1) 0):=BB (by simpa[Mj] using a1);have HT:=BB a2;have HG:=BB a3;clear hAr a1 a2 a3;go_wp2_with fail;refine hcall.mono ?_;rintro e w2 ⟨rfl,G2⟩;have N2:=HN.out.chg G2 (fun e=>e);obtain⟨⟨k0,k1,k2,k3,k4⟩,kf⟩:=N2.cells;have HN3:Hid (CS (w2.setCell ⟨w.heap.size+1,4,none⟩ (.int .u64 (BS l 9 1:Nat))) (w.heap.size+1) (BS l 0 2) (BS l 2 1) (BS l 3 5) (BS l 8 1) (BS l 9 1)):=BB (N2.set4 _);have HT3:Hid (Tg (w2.setCell ⟨w.heap.size+1,4,none⟩ (.int .u64 (BS l 9 1:Nat))) w.heap.size 0 0 0 0 false):=BB ((HT.out.chg G2 (fun e=>e)).setOther om _ _);have HG3:Hid (Chg No w (w2.setCell ⟨w.heap.size+1,4,none⟩ (.int .u64 (BS l 9 1:Nat)))):=BB ((HG.out.trans G2).setCell (AL om) _ _);have hf:=kf 4;clear hcall N2 G2 kf HN HT HG;rw[show le (KG l 9 1)=BS l 9 1 from rfl];go_wp2;exact⟨⟨5,dc,rfl,rfl,by simpa[Mj] using HN3.out,HT3.out,HG3.out⟩,by simp[intOf]⟩
  ·have HN:Hid (CS wr (w.heap.size+1) (BS l 0 2) (BS l 2 1) (BS l 3 5) (BS l 8 1) (BS l 9 1)):=BB (by simpa[Mj] using a1);obtain⟨⟨k0,k1,k2,k3,k4⟩,-⟩:=HN.out.cells;have HT:=BB a2;have HG:=BB a3;clear hAr a1 a2 a3;go_wp2_with (refine BK rfl (.tmp 2) (.tmp 51) rfl w.heap.size rfl rfl HT.out ?_);intro w3 T3 G3;have HT3:=BB T3;have HG3:Hid (Chg No w w3):=BB (HG.out.trans' G3 (fun i hi ht=>om));clear T3 G3;go_wp2;refine AZ (Bg rfl _ rfl HT3.out) rfl ?_;exact⟨rfl,HG3.out⟩
end
section
variable {l:List Nat}(w:Wd)
theorem ZF{T U:List Nat}(hT:Bys T)(hU:Bys U)(h:T.map UInt8.ofNat=U.map UInt8.ofNat):T=U:=by
 have e:∀L:List Nat,Bys L->(L.map UInt8.ofNat).map UInt8.toNat=L:=by
  intro L hL;rw[map_map];conv=>rhs;rw[<-map_id L]
  apply map_congr_left;intro n hn;simp only[Function.comp,id];rw[UInt8.toNat_ofNat'];exact Az (hL n hn)
 rw[<-e T hT,h,e U hU]
theorem UX(T U:List Nat)(hT:Bys T)(hU:Bys U):((strOfNums (T.map fun (n:Nat)=>(n:Int))).toList == (strOfNums (U.map fun (n:Nat)=>(n:Int))).toList)=decide (T=U):=by
 rw[ByteArray.toList_eq,ByteArray.toList_eq,strOfNums_data,strOfNums_data,map_map,map_map];have e1:∀T:List Nat,T.map ((fun (n:Int)=>UInt8.ofNat n.toNat) ∘ fun (n:Nat)=>(n:Int))=T.map UInt8.ofNat:=fun _=>rfl;rw[e1,e1];by_cases h:T=U
 ·rw[h];simp
 ·rw[AN h,beq_eq_false_iff_ne];exact fun e=>h (ZF hT hU e)
theorem At.ints{w:Wd}{c o:Nat}(h:At w c o l){n:Nat}(hn:n=l.length):∀i,i<n->w.cell? ⟨c,o+i,none⟩=some (.int .u8 ((l.map fun (n:Nat)=>(n:Int)).getD i 0)):=by
 intro i hi;rw[h.2 i om];simp[AQ];cases e:l[i]? <;> simp
theorem Hh(c1 o1 n1 cap1 c2 o2 n2 cap2:Nat)(l1 l2:List Nat)(e1:n1=l1.length)(e2:n2=l2.length)(b1:Bys l1)(b2:Bys l2)(h1:At w c1 o1 l1)(h2:At w c2 o2 l2) :Calls prog 172 #[.slice (some ⟨c1,o1,none⟩) n1 cap1,.slice (some ⟨c2,o2,none⟩) n2 cap2] w fun e w'=>e=.returned (.bool (decide (l1=l2)))/\w'=w:=by
 have k1:=run_convert_bytes_arg (P:=prog) w 35 5 underlying35 underlying5 c1 o1 n1 cap1 (l1.map fun (n:Nat)=>(n:Int)) (by simp[e1]) (h1.ints e1) 9 underlying9;have k2:=run_convert_bytes_arg (P:=prog) w 35 5 underlying35 underlying5 c2 o2 n2 cap2 (l2.map fun (n:Nat)=>(n:Int)) (by simp[e2]) (h2.ints e2) 9 underlying9;have hq:=UX l1 l2 b1 b2;generalize l1.map (fun (n:Nat)=>(n:Int))=x1 at *
 generalize l2.map (fun (n:Nat)=>(n:Int))=x2 at *
 have HQ:=BB hq;clear hq e1 e2 h1 h2;go_enter func172,ntmps172;go_wp2;go_ret;exact⟨by rw[<-HQ.out];rfl,rfl⟩
def II (l:List Nat):Bool:=((BS l 9 1:Nat):Int) == 1
theorem JQ(c o cap:Nat)(l:List Nat)(hl:Bys l)(hL:l.length=50)(hcap:50<=cap)(hA:At w c o l) :Calls prog 227 #[.slice (some ⟨c,o,none⟩) 50 cap] w fun e w'=>e=.returned (.tuple #[.agg #[.int .i64 (BS l 0 2:Nat),.int .i64 (BS l 2 1:Nat),.int .i64 (BS l 3 5:Nat),.int .i64 (BS l 8 1:Nat),.bool (II l)],.nilIface])/\Chg No w w':=
 Ob w c o cap l hl hL hcap hA
def Rs (l:List Nat):Prop:=DV (BS l 0 2:Nat) (BS l 2 1:Nat) (BS l 3 5:Nat) (BS l 8 1:Nat) (II l)
def Kb (l:List Nat):List Nat:=body (BS l 0 2) (BS l 2 1) (BS l 3 5) (BS l 8 1) (II l)
theorem ZG(p o s c:Nat)(l:Bool)(k:Nat):Bys (pre p o s c l k):=by
 have app:∀ {x y:List Nat},Bys x->Bys y->Bys (x ++ y):=fun hx hy n hn=>(mem_append.1 hn).elim (hx n) (hy n)
 match k with
 | 0=>exact fun n hn=>by cases hn
 | 1=>exact CB _ _
 | 2=>exact app (CB _ _) (CB _ _)
 | 3=>exact app (app (CB _ _) (CB _ _)) (CB _ _)
 | 4=>exact app (app (app (CB _ _) (CB _ _)) (CB _ _)) (CB _ _)
 | _+5=>exact app (app (app (app (CB _ _) (CB _ _)) (CB _ _)) (CB _ _)) (CB _ _)
theorem Ct(p o s c:Nat)(l:Bool):Bys (body p o s c l):=fun n hn=>(mem_append.1 hn).elim (ZG p o s c l 5 n) (fun h=>by rw[(mem_replicate.1 h).2];decide)
theorem Arr.at_{w:Wd}{g:Nat}(h:Arr w g 5 l):At w g 0 l:=⟨h.lt,fun i hi=>by rw[AW];exact h.cell i hi⟩
theorem GV:(Instr.build 127 #[]).run prog w=.ok (.agg #[.int .i64 0,.int .i64 0,.int .i64 0,.int .i64 0,.bool false]) w:=kr
theorem Mk(a:Option Addr)(n cap:Nat)(hn:n≠50) :Calls prog 198 #[.slice a n cap] w fun e w'=>e=.returned (.tuple #[.agg #[.int .i64 0,.int .i64 0,.int .i64 0,.int .i64 0,.bool false],.iface 56 (.int .i64 1)])/\Chg No w w':=by
 have hn':((n:Int) != 50)=true:=by simp only[bne_iff_ne,ne_eq];omega
 have hb:=GV;have HT:=BB (Tg.new w 0 0 0 0 false);have G0:Chg No w (w.alloc (.cells #[.int .i64 0,.int .i64 0,.int .i64 0,.int .i64 0,.bool false] 127)):=(Chg.refl _ w).alloc _;have HG:=BB G0;clear hn G0;go_enter func198,ntmps198;go_wp2_with (refine BK rfl (.tmp 2) (.tmp 11) rfl w.heap.size rfl rfl HT.out ?_);intro w3 T3 G3;have HT3:=BB T3;have HG3:Hid (Chg No w w3):=BB (HG.out.trans' G3 (fun i hi ht=>om));clear T3 G3;go_wp2;refine AZ (Bg rfl _ rfl HT3.out) rfl ?_;exact⟨rfl,HG3.out⟩
theorem Oc(c o cap:Nat)(l:List Nat)(hl:Bys l)(hL:l.length=50)(hcap:50<=cap)(hA:At w c o l)(hm:¬ Rs l) :Calls prog 198 #[.slice (some ⟨c,o,none⟩) 50 cap] w fun e w'=>e=.returned (.tuple #[.agg #[.int .i64 0,.int .i64 0,.int .i64 0,.int .i64 0,.bool false],.iface 56 (.int .i64 3)])/\Chg No w w':=by
 have hb:=GV;have HT:=BB (Tg.new w 0 0 0 0 false);have G0:Chg No w (w.alloc (.cells #[.int .i64 0,.int .i64 0,.int .i64 0,.int .i64 0,.bool false] 127)):=(Chg.refl _ w).alloc _;have A0:=hA.chg G0 (fun e=>e);have hf:=JQ _ c o cap l hl hL hcap A0;have he:=fun w=>Ka w _ _ _ _ _ hm;have q1:=Cs;have q2:=EX;have HG:=BB G0;clear hA hm G0 A0 hL;go_enter func198,ntmps198;go_wp2_with fail;refine hf.mono ?_;rintro e w1 ⟨rfl,G1⟩;clear hf;have HT1:=BB (HT.out.chg G1 (fun e=>e));have HG1:=BB (HG.out.trans G1);clear G1 HT HG;go_wp2_with fail;have T2:=HT1.out.alloc (.cells #[.int .i64 (BS l 0 2:Nat),.int .i64 (BS l 2 1:Nat),.int .i64 (BS l 3 5:Nat),.int .i64 (BS l 8 1:Nat),.bool (II l)] 127);have V2:=Tg.new w1 (BS l 0 2:Nat) (BS l 2 1:Nat) (BS l 3 5:Nat) (BS l 8 1:Nat) (II l);have G2:=HG1.out.alloc (.cells #[.int .i64 (BS l 0 2:Nat),.int .i64 (BS l 2 1:Nat),.int .i64 (BS l 3 5:Nat),.int .i64 (BS l 8 1:Nat),.bool (II l)] 127);have hsz:=HG1.out.size;refine(he _).mono ?_;rintro e w2 ⟨rfl,G3⟩;clear he;have HT2:=BB (T2.chg G3 (fun e=>e));have HG2:=BB (G2.trans G3);clear T2 V2 G2 G3 HT1 HG1;go_wp2_with (refine BK rfl (.tmp 2) (.tmp 35) rfl w.heap.size rfl rfl HT2.out ?_);intro w3 T3 G3;have HT3:=BB T3;have HG3:Hid (Chg No w w3):=BB (HG2.out.trans' G3 (fun i hi ht=>om));clear T3 G3;go_wp2;refine AZ (Bg rfl _ rfl HT3.out) rfl ?_;exact⟨rfl,HG3.out⟩
theorem LP(c o cap:Nat)(l:List Nat)(hl:Bys l)(hL:l.length=50)(hcap:50<=cap)(hA:At w c o l)(hm:Rs l)(hne:¬ Kb l=l) :Calls prog 198 #[.slice (some ⟨c,o,none⟩) 50 cap] w fun e w'=>e=.returned (.tuple #[.agg #[.int .i64 0,.int .i64 0,.int .i64 0,.int .i64 0,.bool false],.iface 56 (.int .i64 3)])/\Chg No w w':=by
 have hb:=GV;have HT:=BB (Tg.new w 0 0 0 0 false);have G0:Chg No w (w.alloc (.cells #[.int .i64 0,.int .i64 0,.int .i64 0,.int .i64 0,.bool false] 127)):=(Chg.refl _ w).alloc _;have A0:=hA.chg G0 (fun e=>e);have hf:=JQ _ c o cap l hl hL hcap A0;have he:=fun w=>EY w _ _ _ _ _ hm;have hd:=AN hne;have q1:=Cs;have HG:=BB G0;have HA:=BB hA;have HL:=BB hL;clear hA hm G0 A0 hL hne;go_enter func198,ntmps198;go_wp2_with fail;refine hf.mono ?_;rintro e w1 ⟨rfl,G1⟩;clear hf;have HT1:=BB (HT.out.chg G1 (fun e=>e));have HG1:=BB (HG.out.trans G1);clear G1 HT HG;go_wp2_with fail;have T2:=HT1.out.alloc (.cells #[.int .i64 (BS l 0 2:Nat),.int .i64 (BS l 2 1:Nat),.int .i64 (BS l 3 5:Nat),.int .i64 (BS l 8 1:Nat),.bool (II l)] 127);have V2:=Tg.new w1 (BS l 0 2:Nat) (BS l 2 1:Nat) (BS l 3 5:Nat) (BS l 8 1:Nat) (II l);have G2:=HG1.out.alloc (.cells #[.int .i64 (BS l 0 2:Nat),.int .i64 (BS l 2 1:Nat),.int .i64 (BS l 3 5:Nat),.int .i64 (BS l 8 1:Nat),.bool (II l)] 127);have hsz:=HG1.out.size;refine(he _).mono ?_;rintro e w2 ⟨g,rfl,hg,A3,G3⟩;clear he;have T3:=T2.chg G3 (fun e=>e);have V3:=V2.chg G3 (fun e=>e);have G03:=G2.trans G3;have hq:=Hh w2 g 0 50 50 c o 50 cap (Kb l) l (By _ _ _ _ _).symm HL.out.symm (Ct _ _ _ _ _) hl A3.at_ (HA.out.chg G03 (fun e=>e));rw[hd] at hq;have HT2:=BB T3;have HV2:=BB V3;have HG2:=BB G03;clear T2 V2 G2 G3 HT1 HG1 A3 T3 V3 G03;go_wp2_with fail;refine hq.mono ?_;rintro e w4 ⟨rfl,rfl⟩;clear hq;go_wp2_with (refine BK rfl (.tmp 2) (.tmp 35) rfl w.heap.size rfl rfl HT2.out ?_);intro w5 T5 G5;have HT3:=BB T5;have HG3:Hid (Chg No w w5):=BB (HG2.out.trans' G5 (fun i hi ht=>om));clear T5 G5;go_wp2;refine AZ (Bg rfl _ rfl HT3.out) rfl ?_;exact⟨rfl,HG3.out⟩
theorem Od(c o cap:Nat)(l:List Nat)(hl:Bys l)(hL:l.length=50)(hcap:50<=cap)(hA:At w c o l)(hm:Rs l)(hne:Kb l=l) :Calls prog 198 #[.slice (some ⟨c,o,none⟩) 50 cap] w fun e w'=>e=.returned (.tuple #[.agg #[.int .i64 (BS l 0 2:Nat),.int .i64 (BS l 2 1:Nat),.int .i64 (BS l 3 5:Nat),.int .i64 (BS l 8 1:Nat),.bool (II l)],.nilIface])/\Chg No w w':=by
 have hb:=GV;have HT:=BB (Tg.new w 0 0 0 0 false);have G0:Chg No w (w.alloc (.cells #[.int .i64 0,.int .i64 0,.int .i64 0,.int .i64 0,.bool false] 127)):=(Chg.refl _ w).alloc _;have A0:=hA.chg G0 (fun e=>e);have hf:=JQ _ c o cap l hl hL hcap A0;have he:=fun w=>EY w _ _ _ _ _ hm;have hd:=AO hne;have q1:=Cs;have HG:=BB G0;have HA:=BB hA;have HL:=BB hL;clear hA hm G0 A0 hL hne;go_enter func198,ntmps198;go_wp2_with fail;refine hf.mono ?_;rintro e w1 ⟨rfl,G1⟩;clear hf;have HT1:=BB (HT.out.chg G1 (fun e=>e));have HG1:=BB (HG.out.trans G1);clear G1 HT HG;go_wp2_with fail;have T2:=HT1.out.alloc (.cells #[.int .i64 (BS l 0 2:Nat),.int .i64 (BS l 2 1:Nat),.int .i64 (BS l 3 5:Nat),.int .i64 (BS l 8 1:Nat),.bool (II l)] 127);have V2:=Tg.new w1 (BS l 0 2:Nat) (BS l 2 1:Nat) (BS l 3 5:Nat) (BS l 8 1:Nat) (II l);have G2:=HG1.out.alloc (.cells #[.int .i64 (BS l 0 2:Nat),.int .i64 (BS l 2 1:Nat),.int .i64 (BS l 3 5:Nat),.int .i64 (BS l 8 1:Nat),.bool (II l)] 127);have hsz:=HG1.out.size;refine(he _).mono ?_;rintro e w2 ⟨g,rfl,hg,A3,G3⟩;clear he;have T3:=T2.chg G3 (fun e=>e);have V3:=V2.chg G3 (fun e=>e);have G03:=G2.trans G3;have hq:=Hh w2 g 0 50 50 c o 50 cap (Kb l) l (By _ _ _ _ _).symm HL.out.symm (Ct _ _ _ _ _) hl A3.at_ (HA.out.chg G03 (fun e=>e));rw[hd] at hq;have HT2:=BB T3;have HV2:=BB V3;have HG2:=BB G03;clear T2 V2 G2 G3 HT1 HG1 A3 T3 V3 G03;go_wp2_with fail;refine hq.mono ?_;rintro e w4 ⟨rfl,rfl⟩;clear hq;obtain⟨v0,v1,v2,v3,v4⟩:=HV2.out.cells;go_wp2_with (refine BK rfl (.tmp 2) (.tmp 37) rfl w.heap.size rfl rfl HT2.out ?_);intro w5 T5 G5;have HT3:=BB T5;have HG3:Hid (Chg No w w5):=BB (HG2.out.trans' G5 (fun i hi ht=>om));clear T5 G5;go_wp2;refine AZ (Bg rfl _ rfl HT3.out) rfl ?_;exact⟨rfl,HG3.out⟩
def dX (l:List Nat):Prop:=Rs l/\Kb l=l
theorem Rt(c o cap:Nat)(l:List Nat)(hl:Bys l)(hL:l.length=50)(hcap:50<=cap)(hA:At w c o l)(hn:¬ dX l) :Calls prog 198 #[.slice (some ⟨c,o,none⟩) 50 cap] w fun e w'=>e=.returned (.tuple #[.agg #[.int .i64 0,.int .i64 0,.int .i64 0,.int .i64 0,.bool false],.iface 56 (.int .i64 3)])/\Chg No w w':=by
 by_cases h:Rs l
 ·exact LP w c o cap l hl hL hcap hA h (fun e=>hn ⟨h,e⟩)
 ·exact Oc w c o cap l hl hL hcap hA h
end
def ZH (l:List Nat) (v:Value) (e:Value):Prop:=
 (l.length≠50/\v=.agg #[.int .i64 0,.int .i64 0,.int .i64 0,.int .i64 0,.bool false]/\e=.iface 56 (.int .i64 1)) \/
 (l.length=50/\¬ dX l/\v=.agg #[.int .i64 0,.int .i64 0,.int .i64 0,.int .i64 0,.bool false]/\e=.iface 56 (.int .i64 3)) \/
 (l.length=50/\dX l/\v=.agg #[.int .i64 (BS l 0 2:Nat),.int .i64 (BS l 2 1:Nat),.int .i64 (BS l 3 5:Nat),.int .i64 (BS l 8 1:Nat),.bool (II l)]/\e=.nilIface)
theorem Ml(w:Wd)(a:Option Addr)(n cap:Nat)(l:List Nat)(hl:Bys l)(hn:n=l.length)(hcap:n<=cap)(hH:Cu w (.slice a n cap) l) :Calls prog 198 #[.slice a n cap] w fun e w'=>∃v x,e=.returned (.tuple #[v,x])/\ZH l v x/\Chg No w w':=by
 by_cases h5:l.length=50
 ·obtain rfl:n=50:=om
  obtain⟨c,o,rfl,hc,hcc⟩:=hH.at_ om;by_cases hI:dX l
  ·refine(Od w c o cap l hl h5 hcap ⟨hc,hcc⟩ hI.1 hI.2).mono ?_;rintro e w' ⟨rfl,G⟩;exact⟨_,_,rfl,AL (AL ⟨h5,hI,rfl,rfl⟩),G⟩
  ·refine(Rt w c o cap l hl h5 hcap ⟨hc,hcc⟩ hI).mono ?_;rintro e w' ⟨rfl,G⟩;exact⟨_,_,rfl,AL (AK ⟨h5,hI,rfl,rfl⟩),G⟩
 ·refine(Mk w a n cap om).mono ?_;rintro e w' ⟨rfl,G⟩;exact⟨_,_,rfl,AK ⟨h5,rfl,rfl⟩,G⟩
theorem Ex(p o s c:Nat)(l:Bool):body p o s c l=bts p 2 ++ (bts o 1 ++ (bts s 5 ++ (bts c 1 ++ (bts l.toNat 1 ++ List.replicate 40 0)))):=by
 simp[body,row,pre,BE]
theorem GW(x y:List Nat)(a n:Nat):KG (x ++ y) (x.length+a) n=KG y a n:=by
 simp[KG,drop_append,Ax (show x.length<=x.length+a by omega)]
theorem Ey(x y:List Nat)(n:Nat)(h:n=x.length):KG (x ++ y) 0 n=x:=by
 subst h;simp[KG]
theorem JR(p o s c:Nat)(l:Bool)(h:DV p o s c l):BS (body p o s c l) 0 2=p/\BS (body p o s c l) 2 1=o/\BS (body p o s c l) 3 5=s/\BS (body p o s c l) 8 1=c/\II (body p o s c l)=l:=by
 have e0:=h.pl;have e1:=h.ol;have e2:=h.sl;have e3:=h.cl;have f0:BS (body p o s c l) 0 2=p:=by
  rw[BS,Ex,Ey _ _ _ (BE _ _).symm,JM];exact Az om
 have f1:BS (body p o s c l) 2 1=o:=by
  have:=GW (bts p 2) (bts o 1 ++ (bts s 5 ++ (bts c 1 ++ (bts l.toNat 1 ++ List.replicate 40 0)))) 0 1;rw[BE] at this;rw[BS,Ex,this,Ey _ _ _ (BE _ _).symm,JM];exact Az om
 have f2:BS (body p o s c l) 3 5=s:=by
  have:=GW (bts p 2 ++ bts o 1) (bts s 5 ++ (bts c 1 ++ (bts l.toNat 1 ++ List.replicate 40 0))) 0 5;rw[AV,BE,BE,Aq] at this;rw[BS,Ex,this,Ey _ _ _ (BE _ _).symm,JM];exact Az om
 have f3:BS (body p o s c l) 8 1=c:=by
  have:=GW (bts p 2 ++ (bts o 1 ++ bts s 5)) (bts c 1 ++ (bts l.toNat 1 ++ List.replicate 40 0)) 0 1;simp only[AV,BE,Aq] at this;rw[BS,Ex,this,Ey _ _ _ (BE _ _).symm,JM];exact Az om
 have f4:BS (body p o s c l) 9 1=l.toNat:=by
  have:=GW (bts p 2 ++ (bts o 1 ++ (bts s 5 ++ bts c 1))) (bts l.toNat 1 ++ List.replicate 40 0) 0 1;simp only[AV,BE,Aq] at this;rw[BS,Ex,this,Ey _ _ _ (BE _ _).symm,JM];exact Az (by cases l <;> decide)
 refine⟨f0,f1,f2,f3,?_⟩;rw[II,f4];cases l <;> rfl
theorem QZ(p o s c:Nat)(l:Bool)(h:DV p o s c l):dX (body p o s c l):=by
 obtain⟨f0,f1,f2,f3,f4⟩:=JR p o s c l h;unfold dX Rs Kb;rw[f0,f1,f2,f3,f4];exact⟨h,rfl⟩
section
variable {g n o:Nat}{t:TypeId}{f:Nat->Value}{w w':Wd}{vs us:List Value}{S:Nat->Prop}
def Sto (w:Wd) (g:Nat) (t:TypeId) (n:Nat) (f:Nat->Value):Prop:=
 ∃cs:Array Value,w.heap[g]?=some (.cells cs t)/\cs.size=n/\∀i,i<n->cs[i]?=some (f i)
def upL (f:Nat->Value) (o:Nat) (vs:List Value):Nat->Value:=fun i=>if o<=i/\i<o+vs.length then vs.getD (i - o) undef else f i
def Oe (f:Nat->Value) (o:Nat) (vs:List Value):Prop:=∀j v,vs[j]?=some v->f (o+j)=v
theorem Sto.lt(h:Sto w g t n f):g<w.heap.size:=by
 obtain⟨cs,h1,_⟩:=h;exact(Array.getElem?_eq_some_iff.1 h1).1
theorem Sto.cell(h:Sto w g t n f)(i:Nat)(hi:i<n):w.cell? ⟨g,i,none⟩=some (f i):=by
 obtain⟨cs,h1,h2,h3⟩:=h;rw[cell_of_row w g i _ _ _ h1];exact h3 i hi
theorem Sto.frozen(h:Sto w g t n f)(i:Nat):w.frozen? ⟨g,i,none⟩=false:=by
 obtain⟨cs,h1,h2,h3⟩:=h;exact frozen_of_row w g i _ _ h1
theorem Sto.other(h:Sto w g t n f)(e:w'.heap[g]?=w.heap[g]?):Sto w' g t n f:=by
 obtain⟨cs,h1,h2,h3⟩:=h;exact⟨cs,e.trans h1,h2,h3⟩
theorem Sto.chg(h:Sto w g t n f)(hc:Chg S w w')(hg:¬ S g):Sto w' g t n f:=h.other (hc.block g h.lt hg)
theorem Sto.alloc(h:Sto w g t n f)(o:Obj):Sto (w.alloc o) g t n f:=h.other (Below.heap_alloc _ _ _ h.lt)
theorem Sto.ext{f':Nat->Value}(h:Sto w g t n f)(e:∀i,i<n->f i=f' i):Sto w g t n f':=by
 obtain⟨cs,h1,h2,h3⟩:=h;exact⟨cs,h1,h2,fun i hi=>by rw[h3 i hi,e i hi]⟩
theorem Bj(f:Nat->Value)(o:Nat)(v:Value)(i:Nat):upL f o [v] i=if i=o then v else f i:=by
 unfold upL;by_cases h:i=o
 ·subst h;simp
 ·rw[AI (by simp;omega),AI h]
theorem Sto.setCell(h:Sto w g t n f)(o:Nat)(v:Value):Sto (w.setCell ⟨g,o,none⟩ v) g t n (upL f o [v]):=by
 obtain⟨cs,h1,h2,h3⟩:=h;refine⟨cs.setIfInBounds o v,by simp[World.setCell,Ai,h1],by simpa using h2,fun i hi=>?_⟩;rw[Bj];by_cases e:i=o
 ·subst e;rw[AJ rfl,Ay om]
 ·rw[AI e,Ah om,h3 i hi]
theorem Sto.setCells:∀(vs:List Value) (o:Nat) {w:Wd} {f:Nat->Value} (_:Sto w g t n f),Sto (w.setCells g o vs) g t n (upL f o vs)
 | [],o,w,f,h=>h.ext fun i _=>by unfold upL;rw[AI (by intro hh;simp at hh;omega)]
 | v :: r,o,w,f,h=>by
  rw[World.setCells]
  refine(Sto.setCells r (o+1) (h.setCell o v)).ext fun i _=>?_
  unfold upL
  by_cases e:i=o
  ·
   subst e;rw[AI om,AJ (by simp),AJ (by simp)];simp
  ·
   by_cases h2:o+1<=i/\i<o+1+r.length
   ·
    rw[AJ h2,AJ (by simp;omega),show i - o=(i - (o+1))+1 from om,getD_cons_succ]
   ·
    rw[AI h2,AI (by simp;omega),AI (by simp;omega)]
theorem Chg.setCells{u:Wd}(hg:S g\/u.heap.size<=g):∀(vs:List Value) (o:Nat) {w:Wd} (_:Chg S u w),Chg S u (w.setCells g o vs)
 | [],_,_,h=>h
 | v :: r,o,w,h=>by rw[World.setCells];exact Chg.setCells hg r (o+1) (h.setCell hg o v)
theorem Oe.range(h:Sto w g t n f)(hs:Oe f o vs)(ho:o+vs.length<=n):w.rangeAt g o vs:=fun j v hv=>by
 have hj:j<vs.length:=(List.getElem?_eq_some_iff.1 hv).1
 rw[h.cell _ om,hs j v hv]
theorem Sto.there(h:Sto w g t n f)(o m:Nat)(ho:o+m<=n):w.there g o m:=fun j hj=>⟨by rw[h.cell _ om];rfl,h.frozen _⟩
theorem FZ(f:Nat->Value)(o:Nat)(vs:List Value):Oe (upL f o vs) o vs:=fun j v hv=>by
 have hj:j<vs.length:=(List.getElem?_eq_some_iff.1 hv).1
 unfold upL
 rw[AJ om,show o+j - o=j from om,AQ,hv];rfl
theorem Oe.sub(h:Oe f o vs)(j:Nat)(hu:∀i v,us[i]?=some v->vs[j+i]?=some v):Oe f (o+j) us:=fun i v hv=>by
 have:=h (j+i) v (hu i v hv)
 rw[<-this];congr 1;omega
def JS (vs:List Value) (j:Nat) (us:List Value):List Value:=vs.take j ++ (us ++ vs.drop (j+us.length))
theorem Mm{j:Nat}(h:j+us.length<=vs.length):(JS vs j us).length=vs.length:=by simp[JS];omega
theorem Ij(f:Nat->Value)(o:Nat)(vs:List Value)(j:Nat)(us:List Value)(h:j+us.length<=vs.length):upL (upL f o vs) (o+j) us=upL f o (JS vs j us):=by
 funext i;have hl:=Mm h;unfold upL;rw[hl];by_cases h1:o+j<=i/\i<o+j+us.length
 ·rw[AJ h1,AJ om];simp only[AQ,JS];rw[Aa (by simp;omega),Af (by simp;omega)];congr 2;simp;omega
 ·rw[AI h1];by_cases h2:o<=i/\i<o+vs.length
  ·rw[AJ h2,AJ h2];simp only[AQ,JS];by_cases h3:i<o+j
   ·rw[Af (by simp;omega),List.getElem?_take_of_lt om]
   ·rw[Aa (by simp;omega),Aa (by simp;omega),List.getElem?_drop];congr 2;simp;omega
  ·rw[AI h2,AI h2]
end
section
variable {w w':Wd}{g:Nat}
structure GY where
 now:List Nat
 tru:List Nat
 is:Bool
 worst:Nat
structure JT where
 failed:Bool
 wf:Bool
 ahead:Nat
 ef:Bool
 reads:Int
structure BG where
 ch:Nat->GY
 bl:Nat->JT
 on:Bool
 lim:Bool
 bud:Nat
 steps:Int
structure GY.Ok (k:GY):Prop where
 now:k.now.length=64
 tru:k.tru.length=64
 nowB:Bys k.now
 truB:Bys k.tru
 worst:k.worst<=64
structure JT.Ok (b:JT):Prop where
 ahead:b.ahead<9223372036854775808
 none:b.wf=false->b.ahead=0
 lo : -9223372036854775808<=b.reads
 hi:b.reads<9223372036854775808
structure BG.Ok (s:BG):Prop where
 ch:∀c,(s.ch c).Ok
 bl:∀b,(s.bl b).Ok
 bud:s.bud<9223372036854775808
 lo : -9223372036854775808<=s.steps
 hi:s.steps<9223372036854775808
def ckc (k:GY):List Value:=k.now.map byt ++ (k.tru.map byt ++ [.bool k.is,.int .i64 k.worst])
theorem Cm{k:GY}(h1:k.now.length=64)(h2:k.tru.length=64):(ckc k).length=130:=by simp[ckc,h1,h2]
def Kc (b:JT):List Value:=[.bool b.failed,.bool b.wf,.int .i64 b.ahead,.bool b.ef]
def m9 (s:BG):List Value:=[.bool s.on,.bool s.lim,.int .i64 s.bud,.int .i64 s.steps]
def BZ (s:BG) (i:Nat):Value:=
 if i<49920 then (ckc (s.ch (i / 130))).getD (i % 130) undef else
 if i<49968 then (Kc (s.bl ((i - 49920) / 4))).getD ((i - 49920) % 4) undef else
 if i<49980 then .int .i64 (s.bl (i - 49968)).reads else (m9 s).getD (i - 49980) undef
def BG.setCh (s:BG) (c:Nat) (k:GY):BG:={ s with ch:=fun j=>if j=c then k else s.ch j }
def BG.setBl (s:BG) (b:Nat) (x:JT):BG:={ s with bl:=fun j=>if j=b then x else s.bl j }
def BF (w:Wd) (g:Nat) (s:BG):Prop:=Sto w g 96 49984 (BZ s)
theorem Mn(s:BG)(hs:s.Ok)(c:Nat)(hc:c<384):Oe (BZ s) (130*c) (ckc (s.ch c)):=fun j v hv=>by
 have hl:=Cm (hs.ch c).now (hs.ch c).tru
 have hj:j<130:=by have:=(List.getElem?_eq_some_iff.1 hv).1;omega
 unfold BZ
 rw[AJ om,show (130*c+j) / 130=c from om,show (130*c+j) % 130=j from om,AQ,hv];rfl
theorem Ez(s:BG)(b:Nat)(hb:b<12):Oe (BZ s) (49920+4*b) (Kc (s.bl b)):=fun j v hv=>by
 have hj:j<4:=by have:=(List.getElem?_eq_some_iff.1 hv).1;simpa[Kc] using this
 unfold BZ
 rw[AI om,AJ om,show (49920+4*b+j - 49920) / 4=b from om,show (49920+4*b+j - 49920) % 4=j from om,AQ,hv];rfl
theorem Dy(s:BG)(b:Nat)(hb:b<12):BZ s (49968+b)=.int .i64 (s.bl b).reads:=by
 unfold BZ;rw[AI om,AI om,AJ om,show 49968+b - 49968=b from om]
theorem Mo(s:BG)(c:Nat)(hc:c<384)(k:GY)(hk:(ckc k).length=130)(i:Nat):upL (BZ s) (130*c) (ckc k) i=BZ (s.setCh c k) i:=by
 unfold upL;rw[hk];by_cases h:130*c<=i/\i<130*c+130
 ·rw[AJ h];unfold BZ;rw[AJ om,show i / 130=c from om];simp only[BG.setCh,AJ];congr 1;omega
 ·rw[AI h];unfold BZ;by_cases h1:i<49920
  ·rw[AJ h1,AJ h1];simp only[BG.setCh];rw[AI om]
  ·rw[AI h1,AI h1];rfl
theorem Mq(s:BG)(b:Nat)(hb:b<12)(x:JT)(hx:x.reads=(s.bl b).reads)(i:Nat):upL (BZ s) (49920+4*b) (Kc x) i=BZ (s.setBl b x) i:=by
 unfold upL;rw[show (Kc x).length=4 from rfl];by_cases h:49920+4*b<=i/\i<49920+4*b+4
 ·rw[AJ h];unfold BZ;rw[AI om,AJ om,show (i - 49920) / 4=b from om];simp only[BG.setBl,AJ];rw[show (i - 49920) % 4=i - (49920+4*b) from om]
 ·rw[AI h];unfold BZ;by_cases h1:i<49920
  ·rw[AJ h1,AJ h1];rfl
  ·rw[AI h1,AI h1];by_cases h2:i<49968
   ·rw[AJ h2,AJ h2];simp only[BG.setBl];rw[AI om]
   ·rw[AI h2,AI h2];by_cases h3:i<49980
    ·rw[AJ h3,AJ h3];simp only[BG.setBl];by_cases h4:i - 49968=b
     ·rw[AJ h4,h4,hx]
     ·rw[AI h4]
    ·rw[AI h3,AI h3];rfl
theorem E3(s:BG)(b:Nat)(hb:b<12)(n:Int)(i:Nat):upL (BZ s) (49968+b) [.int .i64 n] i=BZ (s.setBl b { s.bl b with reads:=n }) i:=by
 rw[Bj];by_cases h:i=49968+b
 ·subst h;rw[AJ rfl,Dy _ _ hb];simp[BG.setBl]
 ·rw[AI h];unfold BZ;by_cases h1:i<49920
  ·rw[AJ h1,AJ h1];rfl
  ·rw[AI h1,AI h1];by_cases h2:i<49968
   ·rw[AJ h2,AJ h2];simp only[BG.setBl];by_cases h4:(i - 49920) / 4=b
    ·rw[AJ h4,h4];rfl
    ·rw[AI h4]
   ·rw[AI h2,AI h2];by_cases h3:i<49980
    ·rw[AJ h3,AJ h3];simp only[BG.setBl];rw[AI om]
    ·rw[AI h3,AI h3];rfl
theorem IJ(s:BG)(on lim:Bool)(bud:Nat)(i:Nat)(hi:i<49984):upL (BZ s) 49980 [.bool on,.bool lim,.int .i64 bud] i=BZ { s with on:=on,lim:=lim,bud:=bud } i:=by
 unfold upL;by_cases h:49980<=i/\i<49983
 ·rw[AJ (by simpa using h)];rcases(by omega:i=49980\/i=49981\/i=49982) with e | e | e <;> subst e <;> rfl
 ·rw[AI (by simpa using h)];by_cases h1:i<49980
  ·unfold BZ;by_cases h2:i<49920
   ·rw[AJ h2,AJ h2]
   ·rw[AI h2,AI h2];by_cases h3:i<49968
    ·rw[AJ h3,AJ h3]
    ·rw[AI h3,AI h3,AJ h1,AJ h1]
  ·have e:i=49983:=om;subst e;rfl
theorem LQ(s:BG)(bud:Nat)(i:Nat)(hi:i<49984):upL (BZ s) 49982 [.int .i64 bud] i=BZ { s with bud:=bud } i:=by
 rw[Bj,<-IJ s s.on s.lim bud i hi];unfold upL;by_cases h:i=49982
 ·subst h;rfl
 ·rw[AI h];by_cases h2:49980<=i/\i<49983
  ·rw[AJ (by simpa using h2)];rcases(by omega:i=49980\/i=49981) with e | e <;> subst e <;> rfl
  ·rw[AI (by simpa using h2)]
theorem JU(s:BG)(n:Int)(i:Nat)(hi:i<49984):upL (BZ s) 49983 [.int .i64 n] i=BZ { s with steps:=n } i:=by
 rw[Bj];by_cases h:i=49983
 ·subst h;rfl
 ·rw[AI h];unfold BZ;by_cases h2:i<49920
  ·rw[AJ h2,AJ h2]
  ·rw[AI h2,AI h2];by_cases h3:i<49968
   ·rw[AJ h3,AJ h3]
   ·rw[AI h3,AI h3];by_cases h4:i<49980
    ·rw[AJ h4,AJ h4]
    ·rw[AI h4,AI h4];rcases(by omega:i=49980\/i=49981\/i=49982) with e | e | e <;> subst e <;> rfl
theorem BF.lt{s:BG}(h:BF w g s):g<w.heap.size:=Sto.lt h
theorem BF.drew{s:BG}(h:BF w g s):BF w.drew g s:=h
theorem BF.chg{S:Nat->Prop}{s:BG}(h:BF w g s)(hc:Chg S w w')(hg:¬ S g):BF w' g s:=Sto.chg h hc hg
theorem BF.other{s:BG}(h:BF w g s)(e:w'.heap[g]?=w.heap[g]?):BF w' g s:=Sto.other h e
theorem BG.Ok.setCh{s:BG}(h:s.Ok)(c:Nat){k:GY}(hk:k.Ok):(s.setCh c k).Ok:=
 ⟨fun j=>by
  show (if j=c then k else s.ch j).Ok
  by_cases e:j=c
  ·
   rw[AJ e];exact hk
  ·
   rw[AI e];exact h.ch j,h.bl,h.bud,h.lo,h.hi⟩
theorem BG.Ok.setBl{s:BG}(h:s.Ok)(b:Nat){x:JT}(hx:x.Ok):(s.setBl b x).Ok:=
 ⟨h.ch,fun j=>by
  show (if j=b then x else s.bl j).Ok
  by_cases e:j=b
  ·
   rw[AJ e];exact hx
  ·
   rw[AI e];exact h.bl j,h.bud,h.lo,h.hi⟩
end
section
variable {k:GY}{f:Nat->Value}{o:Nat}{x:Int}
def ZI:GY:={ now:=List.replicate 64 0,tru:=List.replicate 64 0,is:=false,worst:=0 }
def DW:GY:={ now:=List.replicate 64 255,tru:=List.replicate 64 255,is:=false,worst:=0 }
theorem Kd:zeroCells81=(ckc ZI).toArray:=kr
theorem UY:(prog.info? 81).map (·.size)=some 130:=kr
theorem LR:(prog.info? 79).map (·.size)=some 64:=kr
theorem Qa(k:GY):∀v ∈ ckc k,v.oneCell'=true:=by
 intro v hv;simp only[ckc,Am,mem_map,mem_cons,not_mem_nil,or_false] at hv;rcases hv with ⟨n,_,rfl⟩ | ⟨n,_,rfl⟩ | rfl | rfl <;> rfl
theorem ZJ(hs:Oe f o (ckc k)):Oe f o (k.now.map byt):=fun j v hv=>by
 refine hs j v ?_
 rw[ckc,Af (by have:=(List.getElem?_eq_some_iff.1 hv).1;exact this)]
 exact hv
theorem Qb(h:k.now.length=64)(hs:Oe f o (ckc k)):Oe f (o+64) (k.tru.map byt):=by
 refine hs.sub 64 fun j v hv=>?_;have hj:=(List.getElem?_eq_some_iff.1 hv).1;rw[ckc,Aa (by simp[h]),Af (by simp[h] at hj ⊢;omega),A7,h,show 64+j - 64=j from om];exact hv
theorem da(h:k.now.length=64)(h2:k.tru.length=64)(hs:Oe f o (ckc k)):f (o+128)=.bool k.is:=by
 refine hs 128 _ ?_;rw[ckc,Aa (by simp[h]),Aa (by simp[h,h2])];simp[h,h2]
theorem Mr(k:GY)(l:List Nat)(h:k.now.length=64)(hl:l.length=64):JS (ckc k) 0 (l.map byt)=ckc { k with now:=l }:=by
 simp only[JS,ckc,take_zero,A6,A7,hl,AW];rw[drop_append_of_le_length (by simp[h]),Ax (by simp[h]),A6]
theorem UZ(k:GY)(l:List Nat)(h:k.now.length=64)(h2:k.tru.length=64)(hl:l.length=64):JS (ckc k) 64 (l.map byt)=ckc { k with tru:=l }:=by
 simp only[JS,ckc,A7,hl];rw[take_left' (by simp[h]),drop_append,Ax (by simp[h]),A6,A7,h,show 64+64 - 64=64 from rfl,drop_left' (by simp[h2])]
theorem Ru(k:GY)(i v:Nat)(h:k.now.length=64)(h2:k.tru.length=64)(hi:i<64):JS (ckc k) (64+i) [byt v]=ckc { k with tru:=k.tru.set i v }:=by
 have hn:(k.now.map byt).length=64:=by simp[h]
 simp only[JS,ckc,An,length_nil,AW];rw[take_append,As om,hn,drop_append,Ax om,hn,A6,show 64+i - 64=i from om,show 64+i+1 - 64=i+1 from om,Aq];congr 1;rw[take_append_of_le_length (by simp[h2];omega),drop_append_of_le_length (by simp[h2];omega),<-Aq,<-Aq];congr 1;rw[map_set,set_eq_take_append_cons_drop,AJ (by simp[h2];omega)];simp
def dmgTo (a b:List Nat):Nat->Nat
 | 0=>0
 | n+1=>dmgTo a b n+(if a.getD n 0=b.getD n 0 then 0 else 1)
def dmg (k:GY):Nat:=dmgTo k.now k.tru 64
theorem Ms(g o:Nat)(w:Wd)(hc:w.cell? ⟨g,o,none⟩=some (.int .i64 x)) :Calls prog 40 #[.pointer (some ⟨g,o,none⟩)] w fun e w'=>e=.returned (.int .i64 x)/\w'=w:=by
 have hl:=run_call_load (P:=prog) func59 kr kr kr .i64 kr hc;go_enter func40,ntmps40;go_wp2;go_ret;exact⟨rfl,rfl⟩
theorem Rv(g o:Nat)(w:Wd)(y:Int){u:Value}(hc:w.cell? ⟨g,o,none⟩=some u)(hz:w.frozen? ⟨g,o,none⟩=false) :Calls prog 61 #[.pointer (some ⟨g,o,none⟩),.int .i64 y] w fun e w'=>e=.returned (.tuple #[])/\w'=w.setCell ⟨g,o,none⟩ (.int .i64 y):=by
 have hl:=run_call_store (P:=prog) func93 kr kr kr kr (k:=.i64) (y:=y) hc hz;go_enter func61,ntmps61;go_wp2;go_end0;exact⟨rfl,rfl⟩
theorem Qc(g o:Nat)(w:Wd)(hc:w.cell? ⟨g,o,none⟩=some (.int .i64 x))(hz:w.frozen? ⟨g,o,none⟩=false) :Calls prog 133 #[.pointer (some ⟨g,o,none⟩),.int .i64 1] w fun e w'=>e=.returned (.int .i64 (wrap64 (x+1)))/\w'=w.setCell ⟨g,o,none⟩ (.int .i64 (wrap64 (x+1))):=by
 have hl:=run_call_add (P:=prog) func165 kr kr kr .i64 kr (y:=1) (s:=wrap64 (x+1)) hc hz (by simp[go_sem,wrap64,IntKind.wrap_i64]);go_enter func133,ntmps133;go_wp2;go_ret;exact⟨rfl,rfl⟩
def EH (i:Nat):GY:={ ZI with tru:=List.replicate i 255 ++ List.replicate (64 - i) 0 }
theorem DM(i:Nat)(h:i<=64):(EH i).tru.length=64:=by simp[EH];omega
theorem Ua(i:Nat)(h:i<64):{ EH i with tru:=(EH i).tru.set i 255 }=EH (i+1):=by
 simp only[EH,GY.mk.injEq,true_and,and_true,ZI];rw[Ap _ _ (by simp),length_replicate,Nat.sub_self,show 64 - i=(64 - (i+1))+1 from om,replicate_succ,set_cons_zero,replicate_succ',Aq];rfl
theorem JV:zeroCells81.size=130:=zeroCells81_size
theorem ZK:zeroCells81.all (·.oneCell')=true:=by rw[Kd];exact all_oneCell_toArray (Qa _)
theorem db:byt 255=Value.int .u8 255:=rfl
theorem Rw(g o:Nat)(t:TypeId)(n:Nat)(f:Nat->Value)(ho:o+130<=n)(w:Wd)(hB:Sto w g t n f) :Calls prog 60 #[.pointer (some ⟨g,o,none⟩)] w fun e w'=>e=.returned (.tuple #[])/\Sto w' g t n (upL f o (ckc DW))/\Chg (·=g) w w':=by
 have hth:=hB.there o 130 ho;go_enter func60,ntmps60;go_wp2_with (first | refine wpList_store_mid rfl 81 (.tmp 5) (.tmp 4) rfl g o _ rfl rfl (by rw[JV];exact hth) (by rw[JV];exact UY) ZK ?_);have hB1:Sto (w.setCells g o zeroCells81.toList) g t n (upL f o (ckc (EH 0))):=by
  rw[Kd];exact Sto.setCells _ _ hB
 have hG1:Chg (·=g) w (w.setCells g o zeroCells81.toList):=Chg.setCells (S:=(·=g)) (AK rfl) _ _ (Chg.refl _ _);generalize w.setCells g o zeroCells81.toList=w1 at *
 go_loopw [6] (fun t6 wr=>∃i:Nat,i<=64/\t6=.int .i64 i/\Sto wr g t n (upL f o (ckc (EH i)))/\Chg (·=g) w wr) (fun t6 _=>64 - (intOf t6).toNat)
 case atStart=>exact⟨0,om,rfl,hB1,hG1⟩
 case round=>
  clear hB1 hG1 hth;obtain⟨i,hi,rfl,hB,hG⟩:=hrel;by_cases hlt:i<64
  ·have hkb4:(0:Int)<=(i:Int):=om;have hkb5:(i:Int)<64:=om;have c1:=hB.cell (o+64+i) om;have f1:=hB.frozen (o+64+i);have hB2:=hB.setCell (o+64+i) (.int .u8 255);have e2:upL (upL f o (ckc (EH i))) (o+64+i) [.int .u8 255]=upL f o (ckc (EH (i+1))):=by
    rw[show o+64+i=o+(64+i) from om,Ij _ _ _ _ _ (by rw[Cm (k:=EH i) rfl (DM i om)];simp;omega),<-db,Ru _ _ _ rfl (DM i om) hlt,Ua i hlt]
   rw[e2] at hB2;clear e2;go_wp2;exact⟨⟨i+1,om,by go_num,hB2,hG.setCell (AK rfl) _ _⟩,by simp[intOf];omega⟩
  ·have e6:i=64:=om;subst e6;have hl:=Cm (k:=EH 64) rfl (DM 64 om);have r1:wr.rangeAt g (o+64) ((EH 64).tru.map byt):=Oe.range hB (Qb rfl (FZ _ _ _)) (by simp[DM];omega);have HS:Hid ((prog.info? 79).map (·.size)=some ((EH 64).tru.map byt).length):=(by rw[A7,DM 64 om];exact LR);have hth2:=hB.there o 64 om;have hs:(((EH 64).tru.map byt).toArray).size=64:=(by simp[DM]);have h1:=all_oneCell_toArray (FU (EH 64).tru);have hB2:=Sto.setCells ((EH 64).tru.map byt) o hB;have e2:=Ij f o (ckc (EH 64)) 0 ((EH 64).tru.map byt) (by rw[hl];simp[DM]);rw[Nat.add_zero,Mr _ _ rfl (DM 64 om)] at e2;rw[e2] at hB2;have hG2:Chg (·=g) w (wr.setCells g o ((EH 64).tru.map byt)):=Chg.setCells (S:=(·=g)) (AK rfl) _ _ hG;go_wp2_with (first | refine wpList_load_mid rfl 79 (.tmp 18) rfl g (o+64) rfl _ _ r1 underlying79 rfl HS.out ?_ | refine wpList_store_mid rfl 79 (.tmp 21) (.tmp 19) rfl g o _ rfl rfl (by rw[hs];exact hth2) (by rw[hs];exact LR) h1 ?_);go_end0;exact⟨rfl,hB2,hG2⟩
end
section
variable {w:Wd}{c:Nat}
def E4 (l:List Nat):GY:={ now:=l,tru:=l,is:=true,worst:=0 }
def Of:GY:={ ZI with is:=true }
theorem Ke:zeroCells81.setIfInBounds 128 (.bool true)=(ckc Of).toArray:=kr
theorem Mt:(zeroCells81.setIfInBounds 128 (.bool true)).size=130:=by rw[Array.size_setIfInBounds];exact JV
theorem ZL:(zeroCells81.setIfInBounds 128 (.bool true)).all (·.oneCell')=true:=by rw[Ke];exact all_oneCell_toArray (Qa _)
theorem Qd{oo:Nat}{l:List Nat}(h:∀i,i<l.length->w.cell? ⟨c,oo+i,none⟩=some (.int .u8 (l.getD i 0:Nat))):∀j v,(l.map byt)[j]?=some v->w.cell? ((⟨c,oo,none⟩:Addr).add j)=some v:=ED h
theorem Mu{g:Nat}(h:c≠g):∀(vs:List Value) (o i:Nat),(w.setCells g o vs).cell? ⟨c,i,none⟩=w.cell? ⟨c,i,none⟩:=fun vs o i=>
 World.cell?_setCells_out g vs o w ⟨c,i,none⟩ (fun e _=>absurd e h)
theorem Mv(g o:Nat)(t:TypeId)(n:Nat)(f:Nat->Value)(ho:o+130<=n)(c oo cap:Nat)(hc:c≠g)(l:List Nat)(hl:l.length=64)(w:Wd)(hB:Sto w g t n f)(hsrc:∀i,i<64->w.cell? ⟨c,oo+i,none⟩=some (.int .u8 (l.getD i 0:Nat))) :Calls prog 250 #[.pointer (some ⟨g,o,none⟩),.slice (some ⟨c,oo,none⟩) 64 cap] w fun e w'=>e=.returned (.tuple #[])/\Sto w' g t n (upL f o (ckc (E4 l)))/\Chg (·=g) w w':=by
 have hth:=hB.there o 130 ho;have hB1:Sto (w.setCells g o (zeroCells81.setIfInBounds 128 (.bool true)).toList) g t n (upL f o (ckc Of)):=by
  rw[Ke];exact Sto.setCells _ _ hB
 have hG1:Chg (·=g) w (w.setCells g o (zeroCells81.setIfInBounds 128 (.bool true)).toList):=Chg.setCells (S:=(·=g)) (AK rfl) _ _ (Chg.refl _ _);have hC1:=fun i (hi:i<l.length)=>(Mu (w:=w) hc (zeroCells81.setIfInBounds 128 (.bool true)).toList o (oo+i)).trans (hsrc i om);have hth1:=hB1.there (o+64) 64 om;have hcp:=run_copy_cells (P:=prog) (w.setCells g o (zeroCells81.setIfInBounds 128 (.bool true)).toList) 35 35 3 5 g (o+64) 64 64 ⟨c,oo,none⟩ 64 cap (l.map byt) underlying35 KW (by simp[hl]) (Qd hC1) (fun j hj=>(hth1 j (by simpa[hl] using hj)).1) (fun j hj=>(hth1 j (by simpa[hl] using hj)).2) (FU l);rw[A7,hl] at hcp;have hB2:=Sto.setCells (l.map byt) (o+64) hB1;rw[Ij _ _ _ _ _ (by rw[Cm (k:=Of) rfl rfl];simp[hl]),UZ Of l rfl rfl hl] at hB2;have hG2:=Chg.setCells (S:=(·=g)) (AK rfl) (l.map byt) (o+64) hG1;clear hC1 hth1 hG1 hB1 hsrc;generalize hw1:w.setCells g o (zeroCells81.setIfInBounds 128 (.bool true)).toList=w1 at *
 have HW1:=BB hw1;clear hw1;generalize hw2:w1.setCells g (o+64) (l.map byt)=w2 at *
 clear hw2;have r2:w2.rangeAt g (o+64) (l.map byt):=Oe.range hB2 (Qb (k:={ Of with tru:=l }) rfl (FZ _ _ _)) (by simp[hl];omega);have hth2:=hB2.there o 64 om;have HS:Hid ((prog.info? 79).map (·.size)=some (l.map byt).length):=by rw[A7,hl];exact LR
 have hs:((l.map byt).toArray).size=64:=by simp[hl]
 have h1:=all_oneCell_toArray (FU l);have hB3:=Sto.setCells (l.map byt) o hB2;have e2:=Ij f o (ckc { Of with tru:=l }) 0 (l.map byt) (by rw[Cm (k:={ Of with tru:=l }) rfl hl];simp[hl]);rw[Nat.add_zero,Mr _ _ rfl hl] at e2;rw[e2] at hB3;have hG3:=Chg.setCells (S:=(·=g)) (AK rfl) (l.map byt) o hG2;have HSZ:Hid ((prog.info? 79).map (·.size)=some ((l.map byt).toArray).size):=by rw[hs];exact LR
 have HTH:Hid (w2.there g o ((l.map byt).toArray).size):=by rw[hs];exact hth2
 have HO:=BB h1;clear e2 hB2 hG2 hl hs hth2 h1;go_enter func250,ntmps250;go_wp2_with (first | (refine wpList_store_mid rfl 81 (.tmp 6) (.tmp 5) rfl g o _ rfl rfl (by rw[Mt];exact hth) (by rw[Mt];exact UY) ZL ?_;rw[HW1.out]) | refine wpList_load_mid rfl 79 (.tmp 16) rfl g (o+64) rfl _ _ r2 underlying79 rfl HS.out ?_ | refine wpList_store_mid rfl 79 (.tmp 19) (.tmp 17) rfl g o _ rfl rfl HTH.out HSZ.out HO.out ?_);go_end0;exact⟨rfl,hB3,hG3⟩
end
section
variable {s:BG}{w:Wd}{g b:Nat}
theorem BH(n m:Int)(h0:0<=n)(h1:n<m)(w:Wd):Calls prog 35 #[.int .i64 n,.int .i64 m] w fun e w'=>e=.returned (.bool true)/\w'=w:=by
 go_enter func35,ntmps35;go_wp2;go_ret;exact⟨rfl,rfl⟩
theorem CJ(n m:Int)(h:n<0\/m<=n)(w:Wd):Calls prog 35 #[.int .i64 n,.int .i64 m] w fun e w'=>e=.returned (.bool false)/\w'=w:=by
 by_cases h0:n<0
 ·have h1:¬ 0<=n:=om
  go_enter func35,ntmps35;go_wp2;go_ret;exact⟨rfl,rfl⟩
 ·have h1:0<=n:=om
  have h2:¬ n<m:=om
  go_enter func35,ntmps35;go_wp2;go_ret;exact⟨rfl,rfl⟩
theorem Cq(a k:Int)(h0:0<=a)(h1:a<96)(h2:0<=k)(h3:k<4)(w:Wd):Calls prog 38 #[.int .i64 a,.int .i64 k] w fun e w'=>e=.returned (.bool true)/\w'=w:=by
 go_enter func38,ntmps38;go_wp2_with (first | (go_at_call_of 35 (Value.int IntKind.i64 a);refine(BH a 96 h0 h1 _).mono ?_;rintro e w' ⟨rfl,rfl⟩) | (go_at_call_of 35 (Value.int IntKind.i64 k);refine(BH k 4 h2 h3 _).mono ?_;rintro e w' ⟨rfl,rfl⟩));go_ret;exact⟨rfl,rfl⟩
theorem Og(a k:Int)(h:a<0\/96<=a\/k<0\/4<=k)(w:Wd):Calls prog 38 #[.int .i64 a,.int .i64 k] w fun e w'=>e=.returned (.bool false)/\w'=w:=by
 by_cases h0:a<0\/96<=a
 ·go_enter func38,ntmps38;go_wp2_with fail;refine(CJ a 96 h0 _).mono ?_;rintro e w' ⟨rfl,rfl⟩;go_wp2;go_ret;exact⟨rfl,rfl⟩
 ·have h1:0<=a:=om
  have h2:a<96:=om
  have h3:k<0\/4<=k:=om
  clear h h0;go_enter func38,ntmps38;go_wp2_with fail;refine(BH a 96 h1 h2 _).mono ?_;rintro e w' ⟨rfl,rfl⟩;go_wp2_with fail;refine(CJ k 4 h3 _).mono ?_;rintro e w' ⟨rfl,rfl⟩;go_wp2;go_ret;exact⟨rfl,rfl⟩
theorem BF.on(h:BF w g s):w.cell? ⟨g,49980,none⟩=some (.bool s.on):=Sto.cell h 49980 om
theorem BF.lim(h:BF w g s):w.cell? ⟨g,49981,none⟩=some (.bool s.lim):=Sto.cell h 49981 om
theorem BF.bud(h:BF w g s):w.cell? ⟨g,49982,none⟩=some (.int .i64 s.bud):=Sto.cell h 49982 om
theorem BF.steps(h:BF w g s):w.cell? ⟨g,49983,none⟩=some (.int .i64 s.steps):=Sto.cell h 49983 om
theorem BF.frozen(h:BF w g s)(i:Nat):w.frozen? ⟨g,i,none⟩=false:=Sto.frozen h i
theorem BF.setPw(h:BF w g s)(on lim:Bool)(bud:Nat) :BF (((w.setCell ⟨g,49980,none⟩ (.bool on)).setCell ⟨g,49981,none⟩ (.bool lim)).setCell ⟨g,49982,none⟩ (.int .i64 bud)) g { s with on:=on,lim:=lim,bud:=bud }:=
 Sto.ext (Sto.setCells [.bool on,.bool lim,.int .i64 bud] 49980 h) (fun i hi=>IJ s on lim bud i hi)
theorem BF.setBud(h:BF w g s)(bud:Nat):BF (w.setCell ⟨g,49982,none⟩ (.int .i64 bud)) g { s with bud:=bud }:=
 Sto.ext (Sto.setCell h 49982 _) (fun i hi=>LQ s bud i hi)
theorem BF.setSteps(h:BF w g s)(n:Int):BF (w.setCell ⟨g,49983,none⟩ (.int .i64 n)) g { s with steps:=n }:=
 Sto.ext (Sto.setCell h 49983 _) (fun i hi=>JU s n i hi)
theorem Chg.at(g:Nat){u:Wd}(h:Chg (·=g) u w)(o:Nat)(v:Value):Chg (·=g) u (w.setCell ⟨g,o,none⟩ v):=h.setCell (AK rfl) o v
def ZM (s:BG):BG:={ s with on:=false,lim:=false,bud:=0 }
def Ik (s:BG):BG:={ s with bud:=if s.lim then s.bud - 1 else s.bud,steps:=wrap64 (s.steps+1) }
theorem Mw(g:Nat)(s:BG)(w:Wd)(h:BF w g s)(hl:s.lim=true)(hb:s.bud=0):Calls prog 238 #[.pointer (some ⟨g,0,none⟩)] w fun e w'=>e=.returned (.bool false)/\BF w' g (ZM s)/\Chg (·=g) w w':=by
 have c1:=h.on;have c2:=h.lim;have c3:=h.bud;have f1:=h.frozen;rw[hl] at c2;rw[hb] at c3;have hC:=h.setPw false false 0;have hG:=(((Chg.refl (·=g) w).at g 49980 (.bool false)).at g 49981 (.bool false)).at g 49982 (.int .i64 0);clear hl hb;go_enter func238,ntmps238;go_wp2;go_ret;exact⟨rfl,hC,hG⟩
theorem Rx(g:Nat)(s:BG)(w:Wd)(h:BF w g s)(hl:s.lim=false):Calls prog 238 #[.pointer (some ⟨g,0,none⟩)] w fun e w'=>e=.returned (.bool true)/\BF w' g (Ik s)/\Chg (·=g) w w':=by
 have c2:=h.lim;have c3:=h.bud;have c4:=h.steps;have f1:=h.frozen;rw[hl] at c2;have hC:=h.setSteps (wrap64 (s.steps+1));have hG:=(Chg.refl (·=g) w).at g 49983 (.int .i64 (wrap64 (s.steps+1)));have e:Ik s={ s with steps:=wrap64 (s.steps+1) }:=by simp[Ik,hl]
 have HE:=BB e;clear hl e;go_enter func238,ntmps238;go_wp2;go_ret;rw[HE.out];exact⟨rfl,hC,hG⟩
theorem Ry(g:Nat)(s:BG)(w:Wd)(hs:s.Ok)(h:BF w g s)(hl:s.lim=true)(hb:s.bud≠0):Calls prog 238 #[.pointer (some ⟨g,0,none⟩)] w fun e w'=>e=.returned (.bool true)/\BF w' g (Ik s)/\Chg (·=g) w w':=by
 have c2:=h.lim;have c3:=h.bud;have c4:=h.steps;have f1:=h.frozen;rw[hl] at c2;have hC:=(h.setBud (s.bud - 1)).setSteps (wrap64 (s.steps+1));have hG:=((Chg.refl (·=g) w).at g 49982 (.int .i64 (s.bud - 1:Nat))).at g 49983 (.int .i64 (wrap64 (s.steps+1)));have e:Ik s={ s with bud:=s.bud - 1,steps:=wrap64 (s.steps+1) }:=by simp[Ik,hl]
 have HE:=BB e;have hbu:=hs.bud;have h0:((s.bud:Int) == 0)=false:=beq_eq_false_iff_ne.2 om;have HI:Hid ((s.bud:Int) - 1=((s.bud - 1:Nat):Int)):=by show _=_;omega
 clear hl e;go_enter func238,ntmps238;go_wp2;go_ret;rw[HE.out,HI.out];exact⟨rfl,hC,hG⟩
theorem jl(hb:b<12):BZ s (49920+4*b)=.bool (s.bl b).failed:=Ez s b hb 0 _ rfl
theorem lX(hb:b<12):BZ s (49920+4*b+1)=.bool (s.bl b).wf:=Ez s b hb 1 _ rfl
theorem la(hb:b<12):BZ s (49920+4*b+2)=.int .i64 (s.bl b).ahead:=Ez s b hb 2 _ rfl
theorem lc(hb:b<12):BZ s (49920+4*b+3)=.bool (s.bl b).ef:=Ez s b hb 3 _ rfl
theorem de(hb:b<12)(x:JT)(hr:x.reads=(s.bl b).reads)(j:Nat)(hj:j<4)(v:Value)(hv:(Kc (s.bl b)).set j v=Kc x)(i:Nat):upL (BZ s) (49920+4*b+j) [v] i=BZ (s.setBl b x) i:=by
 rw[<-Mq s b hb x hr i,<-hv,Bj];unfold upL;have hl:((Kc (s.bl b)).set j v).length=4:=by simp[Kc]
 rw[hl];by_cases e:i=49920+4*b+j
 ·subst e;rw[AJ rfl,AJ om,show 49920+4*b+j - (49920+4*b)=j from om,AQ,List.getElem?_set_self (by simp[Kc];exact hj)];rfl
 ·rw[AI e];by_cases h:49920+4*b<=i/\i<49920+4*b+4
  ·rw[AJ h,AQ,List.getElem?_set_ne om,AU (by simp[Kc];omega)];have:=Ez s b hb (i - (49920+4*b)) _ (AU (by simp[Kc];omega));rw[show 49920+4*b+(i - (49920+4*b))=i from om] at this;rw[this];rfl
  ·rw[AI h]
theorem Oh(s:BG)(b:Nat):s.setBl b (s.bl b)=s:=by
 cases s
 simp only[BG.setBl,BG.mk.injEq,and_true,true_and];funext j;by_cases e:j=b
 ·rw[AJ e,e]
 ·rw[AI e]
theorem BF.setBl1(h:BF w g s)(hb:b<12)(x:JT)(hr:x.reads=(s.bl b).reads)(j:Nat)(hj:j<4)(v:Value)(hv:(Kc (s.bl b)).set j v=Kc x) :BF (w.setCell ⟨g,49920+4*b+j,none⟩ v) g (s.setBl b x):=Sto.ext (Sto.setCell h _ v) (fun i _=>de hb x hr j hj v hv i)
def failW (x:JT):JT:={ x with failed:=x.failed || (x.wf && decide (x.ahead=0)),ahead:=x.ahead - 1 }
def failE (x:JT):JT:={ x with failed:=x.failed || x.ef }
theorem EI(g b:Nat)(hb:b<12)(s:BG)(hs:s.Ok)(w:Wd)(h:BF w g s) :Calls prog 249 #[.pointer (some ⟨g,49920+4*b,none⟩)] w fun e w'=>e=.returned (.bool (failW (s.bl b)).failed)/\BF w' g (s.setBl b (failW (s.bl b)))/\Chg (·=g) w w':=by
 have c0:=Sto.cell h (49920+4*b) om;have c1:=Sto.cell h (49920+4*b+1) om;have c2:=Sto.cell h (49920+4*b+2) om;rw[jl hb] at c0;rw[lX hb] at c1;rw[la hb] at c2;have f0:=Sto.frozen h (49920+4*b);have f2:=Sto.frozen h (49920+4*b+2);have hx:=hs.bl b;have hr0:=h.setBl1 hb { s.bl b with failed:=true } rfl 0 om (.bool true) (by simp[Kc]);have hr2:=h.setBl1 hb { s.bl b with ahead:=(s.bl b).ahead - 1 } rfl 2 om (.int .i64 ((s.bl b).ahead - 1:Nat)) (by simp[Kc]);have hw0:=Oh s b;rw[Nat.add_zero] at hr0;generalize hbl:s.bl b=x at *
 clear hbl;have HO:=BB hs;clear hs;have hG0:=(Chg.refl (·=g) w).at g (49920+4*b) (.bool true);have hG2:=(Chg.refl (·=g) w).at g (49920+4*b+2) (.int .i64 (x.ahead - 1:Nat));generalize 49920+4*b=o at *
 obtain⟨fa,wf,ah,ef,rd⟩:=x;simp only at *
 cases wf with
 | true=>
  by_cases h0:ah=0
  ·subst h0;have e:failW ⟨fa,true,0,ef,rd⟩=⟨true,true,0,ef,rd⟩:=(by simp[failW]);rw[e];clear e hr2 hw0 hG2 hx;go_enter func249,ntmps249;go_wp2;go_ret;exact⟨rfl,hr0,hG0⟩
  ·have e:failW ⟨fa,true,ah,ef,rd⟩=⟨fa,true,ah - 1,ef,rd⟩:=(by simp[failW,h0]);rw[e];have h1:((ah:Int) == 0)=false:=beq_eq_false_iff_ne.2 om;have hah:=hx.ahead;simp only at hah;have HI:Hid ((ah:Int) - 1=((ah - 1:Nat):Int)):=(by show _=_;omega);have h3:(0:Int)<(ah:Int):=om;clear e hr0 hw0 hG0 hx;go_enter func249,ntmps249;go_wp2;go_ret;rw[HI.out];exact⟨rfl,hr2,hG2⟩
 | false=>
  have h0:=hx.none rfl;simp only at h0;subst h0;have e:failW ⟨fa,false,0,ef,rd⟩=⟨fa,false,0,ef,rd⟩:=by simp[failW]
  rw[e,hw0];clear e hr0 hr2 hw0 hG0 hG2 hx;go_enter func249,ntmps249;go_wp2;go_ret;exact⟨rfl,h,Chg.refl _ _⟩
theorem EJ(g b:Nat)(hb:b<12)(s:BG)(w:Wd)(h:BF w g s) :Calls prog 239 #[.pointer (some ⟨g,49920+4*b,none⟩)] w fun e w'=>e=.returned (.bool (failE (s.bl b)).failed)/\BF w' g (s.setBl b (failE (s.bl b)))/\Chg (·=g) w w':=by
 have c0:=Sto.cell h (49920+4*b) om;have c3:=Sto.cell h (49920+4*b+3) om;rw[jl hb] at c0;rw[lc hb] at c3;have f0:=Sto.frozen h (49920+4*b);have hr0:=h.setBl1 hb (failE (s.bl b)) rfl 0 om (.bool (failE (s.bl b)).failed) (by simp[Kc,failE]);rw[Nat.add_zero] at hr0;have hG0:=(Chg.refl (·=g) w).at g (49920+4*b) (.bool (failE (s.bl b)).failed);have HF:Hid ((failE (s.bl b)).failed=((s.bl b).failed || (s.bl b).ef)):=rfl;generalize failE (s.bl b)=y at *
 rw[HF.out] at hr0 hG0 ⊢;generalize s.bl b=x at *
 generalize 49920+4*b=o at *
 obtain⟨fa,wf,ah,ef,rd⟩:=x;clear HF;simp only at *
 cases fa with
 | true=>
  go_enter func239,ntmps239;go_wp2;go_ret;exact⟨rfl,hr0,hG0⟩
 | false=>
  rw[Bool.false_or] at hr0 hG0 ⊢;go_enter func239,ntmps239;go_wp2;go_ret;exact⟨rfl,hr0,hG0⟩
end
def E5 (f:Nat->Value) (b m:Nat):Nat->Value:=fun i=>if 4160*b<=i/\i<4160*b+130*m then (ckc DW).getD (i % 130) undef else f i
theorem Mx:(ckc DW).length=130:=Cm rfl rfl
theorem Rz(f:Nat->Value)(b:Nat):E5 f b 0=f:=by
 funext i;unfold E5;rw[AI om]
theorem R0(f:Nat->Value)(b m:Nat):upL (E5 f b m) (4160*b+130*m) (ckc DW)=E5 f b (m+1):=by
 funext i;unfold upL E5;rw[Mx];by_cases h:4160*b+130*m<=i/\i<4160*b+130*m+130
 ·rw[AJ h,AJ om,show i - (4160*b+130*m)=i % 130 from om]
 ·rw[AI h];by_cases h2:4160*b<=i/\i<4160*b+130*m
  ·rw[AJ h2,AJ om]
  ·rw[AI h2,AI om]
theorem IK(g b:Nat)(hb:b<12)(f:Nat->Value)(w:Wd)(h:Sto w g 96 49984 f) :Calls prog 41 #[.pointer (some ⟨g,0,none⟩),.int .i64 b] w fun e w'=>e=.returned (.tuple #[])/\Sto w' g 96 49984 (upL (E5 f b 32) (49968+b) [.int .i64 0])/\Chg (·=g) w w':=by
 have hb0:(0:Int)<=(b:Int):=om
 have hb1:(b:Int)<12:=om
 go_enter func41,ntmps41;go_wp2_with fail
 go_loopw [4] (fun t4 wr=>∃r:Nat,r<=8/\t4=.int .i64 (8*b+r:Nat)/\Sto wr g 96 49984 (E5 f b (4*r))/\Chg (·=g) w wr) (fun t4 _=>(8*b+8) - (intOf t4).toNat)
 case atStart=>exact⟨0,om,by go_num;try omega,by rw[Rz];exact h,Chg.refl _ _⟩
 case round=>
  clear h;obtain⟨r,hr,rfl,hB,hG⟩:=hrel;by_cases hlt:r<8
  ·have hr0:((8*b+r:Nat):Int)<(b+1)*8:=om;have hr1:(0:Int)<=((8*b+r:Nat):Int):=om;have hr2:((8*b+r:Nat):Int)<96:=om;have HN:Hid (((8*b+r:Nat):Int).toNat=8*b+r):=(by show _=_;omega);generalize hn:8*b+r=n at *
   have HN2:=BB hn;clear hn;go_wp2_with fail
   go_loopw [15] (fun t15 wx=>∃i:Nat,i<=4/\t15=.int .i64 i/\Sto wx g 96 49984 (E5 f b (4*r+i))/\Chg (·=g) w wx) (fun t15 _=>4 - (intOf t15).toNat)
   case atStart=>exact⟨0,om,rfl,hB,hG⟩
   case round=>
    clear hB hG;obtain⟨i,hi,rfl,hB,hG⟩:=hrel;by_cases hli:i<4
    ·have hi0:(0:Int)<=(i:Int):=om;have hi1:(i:Int)<4:=om;go_wp2_with fail;have e1:=HN2.out;rw[show n*520+i*130=4160*b+130*(4*r+i) from om];refine(Rw g (4160*b+130*(4*r+i)) 96 49984 _ om _ hB).mono ?_;rintro e w1 ⟨rfl,hB1,hG1⟩;rw[R0] at hB1;have hG2:=hG.trans hG1;clear hB hG hG1 e1;go_wp2;exact⟨⟨i+1,om,by go_num,hB1,hG2⟩,by simp[intOf];omega⟩
    ·have e4:i=4:=om;subst e4;clear hli hi;go_wp2;exact⟨⟨r+1,om,by rw[<-HN2.out];go_num;try omega,hB,hG⟩,by simp[intOf];have:=HN2.out;omega⟩
  ·have e8:r=8:=om;subst e8;have hr0:¬ ((8*b+8:Nat):Int)<(b+1)*8:=om;generalize hn:8*b+8=n at *
   clear hn;have c1:=hB.cell (49968+b) om;have f1:=hB.frozen (49968+b);have hB2:=hB.setCell (49968+b) (.int .i64 0);have hG2:=hG.at g (49968+b) (.int .i64 0);clear hlt hr;go_wp2_with fail;refine(Rv g (49968+b) _ 0 c1 f1).mono ?_;rintro e w1 ⟨rfl,rfl⟩;go_wp2;go_end0;exact⟨rfl,hB2,hG2⟩
def ZN:JT:=⟨false,false,0,false,0⟩
def Fz:BG:={ ch:=fun _=>DW,bl:=fun _=>ZN,on:=true,lim:=false,bud:=0,steps:=0 }
theorem Qe(n v:Nat)(h:v<256):Bys (List.replicate n v):=fun m hm=>by rw[(mem_replicate.1 hm).2];exact h
theorem Qf:DW.Ok:=⟨rfl,rfl,Qe _ _ om,Qe _ _ om,dc⟩
def LS:List Value:=((List.range 12).flatMap fun _=>Kc ZN) ++ (List.replicate 12 (.int .i64 0) ++ [.bool false,.bool false,.int .i64 0,.int .i64 0])
theorem Kf:zeroCells96.toList.drop 49920=LS:=kr
theorem ZO:∀j:Fin 48,LS[j.val]?=some ((Kc ZN).getD (j.val % 4) undef):=by
 intro j
 match j with
 | ⟨j,hj⟩=>
  simp only;have:∀q r:Nat,q<12->r<4->LS[4*q+r]?=some ((Kc ZN).getD r undef):=by
   intro q r hq hr;rcases(by omega:q=0\/q=1\/q=2\/q=3\/q=4\/q=5\/q=6\/q=7\/q=8\/q=9\/q=10\/q=11) with e | e | e | e | e | e | e | e | e | e | e | e <;> subst e <;>
   rcases(by omega:r=0\/r=1\/r=2\/r=3) with e | e | e | e <;> subst e <;> rfl
  have h:=this (j / 4) (j % 4) om om;rw[show 4*(j / 4)+j % 4=j from om] at h;exact h
theorem ZP(i:Nat)(h1:49920<=i)(h2:i<49968):zeroCells96[i]?=some (BZ Fz i):=by
 have h:=ZO ⟨i - 49920,om⟩;rw[<-Kf,List.getElem?_drop,Array.getElem?_toList] at h;simp only at h;rw[show 49920+(i - 49920)=i from om] at h;rw[h];unfold BZ;rw[AI om,AJ h2];rfl
theorem Oi:zeroCells96[49983]?=some (.int .i64 0):=by
 have h:LS[63]?=some (.int .i64 0):=rfl;rw[<-Kf,List.getElem?_drop,Array.getElem?_toList] at h;exact h
def made73 (z:Array Value):Array Value:=((z.setIfInBounds 49980 (Value.bool true)).setIfInBounds 49981 (Value.bool false)).setIfInBounds 49982 (Value.int IntKind.i64 0)
theorem R1:(made73 zeroCells96).size=49984:=by unfold made73;rw[Array.size_setIfInBounds,Array.size_setIfInBounds,Array.size_setIfInBounds];exact zeroCells96_size
theorem ZQ(i:Nat)(h1:49920<=i)(h2:i<49968):(made73 zeroCells96)[i]?=some (BZ Fz i):=by
 unfold made73;rw[Ah om,Ah om,Ah om];exact ZP i h1 h2
theorem ZR(i:Nat)(h1:49980<=i)(h2:i<49984):(made73 zeroCells96)[i]?=some (BZ Fz i):=by
 have hs:=zeroCells96_size;unfold made73;rcases(by omega:i=49980\/i=49981\/i=49982\/i=49983) with e | e | e | e <;> subst e
 ·rw[Ah om,Ah om,Ay om];rfl
 ·rw[Ah om,Ay (by rw[Array.size_setIfInBounds];omega)];rfl
 ·rw[Ay (by rw[Array.size_setIfInBounds,Array.size_setIfInBounds];omega)];rfl
 ·rw[Ah om,Ah om,Ah om,Oi];rfl
theorem ZS(w:Wd)(cs:Array Value)(t:TypeId)(n:Nat)(h:cs.size=n):Sto (w.alloc (.cells cs t)) w.heap.size t n (fun i=>cs[i]?.getD undef):=
 ⟨cs,by show (w.heap.push _)[w.heap.size]?=_;simp,h,fun i hi=>by
  have e:cs[i]?=some cs[i]:=Array.getElem?_eq_getElem om
  simp only[e];rfl⟩
theorem Ub(i:Nat)(h:i<49920):BZ Fz i=(ckc DW).getD (i % 130) undef:=by unfold BZ;rw[AJ h];rfl
theorem Chg.fresh{u w w':Wd}{g:Nat}(h:Chg No u w)(h2:Chg (·=g) w w')(hg:u.heap.size<=g):Chg No u w':=h.trans' h2 (fun i hi e=>om)
theorem My(w:Wd) :Calls prog 20 #[] w fun e w'=>e=.returned (.pointer (some ⟨w.heap.size,0,none⟩))/\BF w' w.heap.size Fz/\Chg No w w':=by
 have hB0:=ZS w (made73 zeroCells96) 96 49984 R1;have hG0:Chg No w (w.alloc (.cells (made73 zeroCells96) 96)):=(Chg.refl _ _).alloc _;have HM:Hid (((zeroCells96.setIfInBounds 49980 (Value.bool true)).setIfInBounds 49981 (Value.bool false)).setIfInBounds 49982 (Value.int IntKind.i64 0)=(made73 zeroCells96)):=rfl;go_enter func20,ntmps20;go_wp2_with fail;rw[HM.out];clear HM;generalize hq:w.heap.size=q at *
 have hqs:=Ak hq;have HQ:=BB hq;clear hq;generalize w.alloc (.cells (made73 zeroCells96) 96)=w1 at *
 go_loopw [6] (fun t6 wr=>∃(b:Nat) (f:Nat->Value),b<=12/\t6=.int .i64 b/\Sto wr q 96 49984 f/\(∀i,49920<=i->i<49968->f i=BZ Fz i)/\(∀i,49980<=i->i<49984->f i=BZ Fz i)/\(∀i,i<4160*b->f i=BZ Fz i)/\(∀c,c<b->f (49968+c)=.int .i64 0)/\Chg No w wr) (fun t6 _=>12 - (intOf t6).toNat)
 case atStart=>exact⟨0,_,om,rfl,hB0,fun i h1 h2=>by rw[ZQ i h1 h2];rfl,fun i h1 h2=>by rw[ZR i h1 h2];rfl,fun i hi=>om,fun c hc=>om,hG0⟩
 case round=>
  clear hB0 hG0;obtain⟨b,f,hb,rfl,hB,h1,h2,h3,h4,hG⟩:=hrel;by_cases hlt:b<12
  ·have H1:=BB h1;have H2:=BB h2;have H3:=BB h3;have H4:=BB h4;clear h1 h2 h3 h4;go_wp2_with fail;refine(IK q b hlt f _ hB).mono ?_;rintro e w2 ⟨rfl,hB2,hG2⟩;have hG3:=hG.fresh hG2 hqs;clear hG hG2 hB;go_wp2;refine⟨⟨b+1,_,om,by go_num,hB2,fun i g1 g2=>?_,fun i g1 g2=>?_,fun i g1=>?_,fun c g1=>?_,hG3⟩,by simp[intOf];omega⟩
   ·rw[Bj,AI om];unfold E5;rw[AI om];exact H1.out i g1 g2
   ·rw[Bj,AI om];unfold E5;rw[AI om];exact H2.out i g1 g2
   ·rw[Bj,AI om];unfold E5;by_cases hc:4160*b<=i
    ·rw[AJ om,Ub i om]
    ·rw[AI om];exact H3.out i om
   ·rw[Bj];by_cases hc:c=b
    ·rw[AJ om]
    ·rw[AI om];unfold E5;rw[AI om];exact H4.out c om
  ·have e:b=12:=om;subst e;have hC:BF wr q Fz:=hB.ext fun i hi=>by
    by_cases g1:i<49920
    ·exact h3 i om
    ·by_cases g2:i<49968
     ·exact h1 i om g2
     ·by_cases g3:i<49980
      ·have:=h4 (i - 49968) om;rw[show 49968+(i - 49968)=i from om] at this;rw[this];have h5:=Dy Fz (i - 49968) om;rw[show 49968+(i - 49968)=i from om] at h5;rw[h5];rfl
      ·exact h2 i om hi
   clear h1 h2 h3 h4 hB;go_wp2;go_ret;rw[HQ.out];exact⟨rfl,hC,hG⟩
section
variable {s:BG}{x:JT}
def nerrV:Nat->Value
 | 0=>.nilIface
 | n+1=>.iface 56 (.int .i64 (n+1:Nat))
theorem BG.Ok.off(h:s.Ok):(ZM s).Ok:=⟨h.ch,h.bl,(by decide:0<9223372036854775808),h.lo,h.hi⟩
theorem Fa(n:Int) : -9223372036854775808<=wrap64 n:=by unfold wrap64;omega
theorem Fb(n:Int):wrap64 n<9223372036854775808:=by unfold wrap64;omega
theorem BG.Ok.go(h:s.Ok):(Ik s).Ok:=⟨h.ch,h.bl,by have:=h.bud;show (if s.lim then s.bud - 1 else s.bud)<_;split <;> omega,Fa _,Fb _⟩
theorem Mz(h:x.Ok):(failW x).Ok:=⟨by have:=h.ahead;show x.ahead - 1<_;omega,fun e=>by have:=h.none e;show x.ahead - 1=0;omega,h.lo,h.hi⟩
theorem M6(h:x.Ok):(failE x).Ok:=⟨h.ahead,h.none,h.lo,h.hi⟩
theorem ZT{l:List Nat}(h:l.length=64)(hb:Bys l):(E4 l).Ok:=⟨h,h,hb,hb,(by decide:0<=64)⟩
theorem GZ(g:Nat)(s:BG)(w:Wd)(hs:s.Ok)(h:BF w g s)(hn:¬ (s.lim=true/\s.bud=0)):Calls prog 238 #[.pointer (some ⟨g,0,none⟩)] w fun e w'=>e=.returned (.bool true)/\BF w' g (Ik s)/\Chg (·=g) w w':=by
 cases hl:s.lim with
 | false=>exact Rx g s w h hl
 | true=>exact Ry g s w hs h hl (fun e=>hn ⟨hl,e⟩)
def lD (s:BG) (b:Nat):BG:={ (s.setBl b { s.bl b with reads:=0 }) with ch:=fun j=>if 32*b<=j/\j<32*b+32 then DW else s.ch j }
theorem BG.Ok.er(h:s.Ok)(b:Nat):(lD s b).Ok:=by
 have h1:(s.setBl b { s.bl b with reads:=0 }).Ok:=h.setBl b ⟨(h.bl b).ahead,(h.bl b).none,(by decide:(-9223372036854775808:Int)<=0),(by decide:(0:Int)<9223372036854775808)⟩;refine⟨fun c=>?_,h1.bl,h1.bud,h1.lo,h1.hi⟩;show (if 32*b<=c/\c<32*b+32 then DW else s.ch c).Ok;split
 ·exact Qf
 ·exact h.ch c
theorem Uc(s:BG)(b:Nat)(hb:b<12)(i:Nat):upL (E5 (BZ s) b 32) (49968+b) [.int .i64 0] i=BZ (lD s b) i:=by
 by_cases h1:i<49920
 ·rw[Bj,AI om];unfold E5 BZ;rw[AJ h1,AJ h1];show _=(ckc (if 32*b<=i / 130/\i / 130<32*b+32 then DW else s.ch (i / 130))).getD (i % 130) undef;by_cases h:4160*b<=i/\i<4160*b+130*32
  ·rw[AJ h,AJ om]
  ·rw[AI h,AI om]
 ·have e1:E5 (BZ s) b 32 i=BZ s i:=by unfold E5;rw[AI om]
  have e2:upL (E5 (BZ s) b 32) (49968+b) [.int .i64 0] i=upL (BZ s) (49968+b) [.int .i64 0] i:=by rw[Bj,Bj,e1]
  rw[e2,E3 s b hb 0 i];unfold BZ;rw[AI h1,AI h1];rfl
theorem Oj(g b:Nat)(hb:b<12)(s:BG)(w:Wd)(h:BF w g s) :Calls prog 41 #[.pointer (some ⟨g,0,none⟩),.int .i64 b] w fun e w'=>e=.returned (.tuple #[])/\BF w' g (lD s b)/\Chg (·=g) w w':=by
 refine(IK g b hb _ w h).mono ?_;rintro e w' ⟨rfl,h1,h2⟩;exact⟨rfl,h1.ext fun i _=>Uc s b hb i,h2⟩
def eraseR (s:BG) (b:Int):BG × Nat:=
 if ¬ (0<=b/\b<12) then (s,1) else
 if s.on=false then (s,7) else
 if s.lim=true/\s.bud=0 then (ZM s,7) else
 if (failE (s.bl b.toNat)).failed=true then ((Ik s).setBl b.toNat (failE (s.bl b.toNat)),8) else
 (lD ((Ik s).setBl b.toNat (failE (s.bl b.toNat))) b.toNat,0)
theorem Hi(h:s.Ok)(b:Int):(eraseR s b).1.Ok:=by
 unfold eraseR;split
 ·exact h
 ·split
  ·exact h
  ·split
   ·exact h.off
   ·split
    ·exact h.go.setBl _ (M6 (h.bl _))
    ·exact(h.go.setBl _ (M6 (h.bl _))).er _
theorem R7(g:Nat)(s:BG)(hs:s.Ok)(b:Int)(w:Wd)(h:BF w g s) :Calls prog 214 #[.pointer (some ⟨g,0,none⟩),.int .i64 b] w fun e w'=>e=.returned (nerrV (eraseR s b).2)/\BF w' g (eraseR s b).1/\Chg (·=g) w w':=by
 unfold eraseR;by_cases hb:0<=b/\b<12
 ·rw[AI (by simpa using hb)];obtain⟨hb0,hb1⟩:=hb;have c1:=h.on;cases hon:s.on with
  | false=>
   rw[AJ rfl];rw[hon] at c1;clear hon;go_enter func214,ntmps214;go_wp2_with fail;refine(BH b 12 hb0 hb1 _).mono ?_;rintro e w' ⟨rfl,rfl⟩;go_wp2;go_ret;exact⟨rfl,h,Chg.refl _ _⟩
  | true=>
   rw[AI (by simp)];rw[hon] at c1;clear hon;by_cases hc:s.lim=true/\s.bud=0
   ·rw[AJ hc];obtain⟨hl,h0⟩:=hc;have HL:=BB hl;have H0:=BB h0;clear hl h0;go_enter func214,ntmps214;go_wp2_with fail;refine(BH b 12 hb0 hb1 _).mono ?_;rintro e w' ⟨rfl,rfl⟩;go_wp2_with fail;refine(Mw g s _ h HL.out H0.out).mono ?_;rintro e w' ⟨rfl,h1,hG⟩;go_wp2;go_ret;exact⟨rfl,h1,hG⟩
   ·rw[AI hc];obtain⟨n,rfl⟩:=Int.eq_ofNat_of_zero_le hb0;have hn:n<12:=om;rw[AP];have HS:=BB hs;have HC:=BB hc;clear hs hc;cases hf:(failE (s.bl n)).failed with
    | true=>
     rw[AJ rfl];have HF:=BB hf;clear hf;go_enter func214,ntmps214;go_wp2_with fail;refine(BH (n:Int) 12 hb0 hb1 _).mono ?_;rintro e w' ⟨rfl,rfl⟩;go_wp2_with fail;refine(GZ g s _ HS.out h HC.out).mono ?_;rintro e w1 ⟨rfl,h1,hG⟩;clear h c1;go_wp2_with fail;rw[show 49920+n*4=49920+4*n from om];refine(EJ g n hn (Ik s) _ h1).mono ?_;rintro e w2 ⟨rfl,h2,hG2⟩;rw[show (failE ((Ik s).bl n)).failed=true from HF.out];go_wp2;go_ret;exact⟨rfl,h2,hG.trans hG2⟩
    | false=>
     rw[AI (by simp)];have HF:=BB hf;clear hf;go_enter func214,ntmps214;go_wp2_with fail;refine(BH (n:Int) 12 hb0 hb1 _).mono ?_;rintro e w' ⟨rfl,rfl⟩;go_wp2_with fail;refine(GZ g s _ HS.out h HC.out).mono ?_;rintro e w1 ⟨rfl,h1,hG⟩;clear h c1;go_wp2_with fail;rw[show 49920+n*4=49920+4*n from om];refine(EJ g n hn (Ik s) _ h1).mono ?_;rintro e w2 ⟨rfl,h2,hG2⟩;rw[show (failE ((Ik s).bl n)).failed=false from HF.out];have hG3:=hG.trans hG2;clear hG hG2 h1;go_wp2_with fail;refine(Oj g n hn _ _ h2).mono ?_;rintro e w3 ⟨rfl,h3,hG4⟩;go_wp2;go_ret;exact⟨rfl,h3,hG3.trans hG4⟩
 ·rw[AJ (by simpa using hb)];go_enter func214,ntmps214;go_wp2_with fail;refine(CJ b 12 om _).mono ?_;rintro e w' ⟨rfl,rfl⟩;go_wp2;go_ret;exact⟨rfl,h,Chg.refl _ _⟩
end
section
variable {s:BG}
def writeR (s:BG) (a k:Int) (l:List Nat):BG × Nat:=
 if ¬ (0<=a/\a<96/\0<=k/\k<4)\/l.length≠64 then (s,1) else
 if s.on=false then (s,7) else
 if (s.ch (4*a.toNat+k.toNat)).is=true then (s,9) else
 if s.lim=true/\s.bud=0 then (ZM s,7) else
 if (failW (s.bl (a.toNat / 8))).failed=true then ((Ik s).setBl (a.toNat / 8) (failW (s.bl (a.toNat / 8))),8) else
 (((Ik s).setBl (a.toNat / 8) (failW (s.bl (a.toNat / 8)))).setCh (4*a.toNat+k.toNat) (E4 l),0)
theorem R9(h:s.Ok)(a k:Int){l:List Nat}(hl:Bys l):(writeR s a k l).1.Ok:=by
 unfold writeR;split
 ·exact h
 ·rename_i h1;split
  ·exact h
  ·split
   ·exact h
   ·split
    ·exact h.off
    ·split
     ·exact h.go.setBl _ (Mz (h.bl _))
     ·exact(h.go.setBl _ (Mz (h.bl _))).setCh _ (ZT om hl)
theorem BF.is{w:Wd}{g:Nat}(h:BF w g s)(hs:s.Ok)(c:Nat)(hc:c<384):w.cell? ⟨g,130*c+128,none⟩=some (.bool (s.ch c).is):=by
 rw[Sto.cell h _ om];congr 1;exact da (hs.ch c).now (hs.ch c).tru (Mn s hs c hc)
theorem LT(g:Nat)(s:BG)(c:Nat)(hc:c<384)(oo q cap:Nat)(hq:q≠g)(l:List Nat)(hl:l.length=64)(w:Wd)(h:BF w g s)(hsrc:∀i,i<64->w.cell? ⟨q,oo+i,none⟩=some (.int .u8 (l.getD i 0:Nat))) :Calls prog 250 #[.pointer (some ⟨g,130*c,none⟩),.slice (some ⟨q,oo,none⟩) 64 cap] w fun e w'=>e=.returned (.tuple #[])/\BF w' g (s.setCh c (E4 l))/\Chg (·=g) w w':=by
 refine(Mv g (130*c) 96 49984 _ om q oo cap hq l hl w h hsrc).mono ?_;rintro e w' ⟨rfl,h1,h2⟩;exact⟨rfl,h1.ext fun i _=>Mo s c hc _ (Cm hl hl) i,h2⟩
theorem Ol(g:Nat)(a k:Int)(h:a<0\/96<=a\/k<0\/4<=k)(v:Value)(w:Wd) :Calls prog 219 #[.pointer (some ⟨g,0,none⟩),.int .i64 a,.int .i64 k,v] w fun e w'=>e=.returned (nerrV 1)/\w'=w:=by
 go_enter func219,ntmps219;go_wp2_with fail;refine(Og a k h _).mono ?_;rintro e w' ⟨rfl,rfl⟩;go_wp2;go_ret;exact⟨rfl,rfl⟩
theorem Om(g:Nat)(a k:Int)(h0:0<=a)(h1:a<96)(h2:0<=k)(h3:k<4)(ad:Option Addr)(n cap:Nat)(hn:n≠64)(w:Wd) :Calls prog 219 #[.pointer (some ⟨g,0,none⟩),.int .i64 a,.int .i64 k,.slice ad n cap] w fun e w'=>e=.returned (nerrV 1)/\w'=w:=by
 have hne:((n:Int) != 64)=true:=by rw[bne_iff_ne];omega
 go_enter func219,ntmps219;go_wp2_with fail;refine(Cq a k h0 h1 h2 h3 _).mono ?_;rintro e w' ⟨rfl,rfl⟩;go_wp2;go_ret;exact⟨rfl,rfl⟩
theorem Oo(g:Nat)(s:BG)(hs:s.Ok)(a k:Nat)(ha:a<96)(hk:k<4)(l:List Nat)(hl:l.length=64)(q oo cap:Nat)(hq:q≠g)(w:Wd)(h:BF w g s)(hsrc:∀i,i<64->w.cell? ⟨q,oo+i,none⟩=some (.int .u8 (l.getD i 0:Nat)))(hqs:q<w.heap.size) :Calls prog 219 #[.pointer (some ⟨g,0,none⟩),.int .i64 a,.int .i64 k,.slice (some ⟨q,oo,none⟩) 64 cap] w fun e w'=>e=.returned (nerrV (writeR s a k l).2)/\BF w' g (writeR s a k l).1/\Chg (·=g) w w':=by
 unfold writeR;rw[AI om,AP,AP];have ha0:(0:Int)<=a:=om
 have ha1:(a:Int)<96:=om
 have hk0:(0:Int)<=k:=om
 have hk1:(k:Int)<4:=om
 have c1:=h.on;have c2:=h.is hs (4*a+k) om;have HSRC:=BB hsrc;have HL:=BB hl;have HS:=BB hs;clear hsrc hl hs;rw[show 130*(4*a+k)+128=a*520+k*130+128 from om] at c2;cases hon:s.on with
 | false=>
  rw[AJ rfl];rw[hon] at c1;clear hon;go_enter func219,ntmps219;go_wp2_with fail;refine(Cq a k ha0 ha1 hk0 hk1 _).mono ?_;rintro e w' ⟨rfl,rfl⟩;go_wp2;go_ret;exact⟨rfl,h,Chg.refl _ _⟩
 | true=>
  rw[AI (by simp)];rw[hon] at c1;clear hon;cases his:(s.ch (4*a+k)).is with
  | true=>
   rw[AJ rfl];rw[his] at c2;clear his;go_enter func219,ntmps219;go_wp2_with fail;refine(Cq a k ha0 ha1 hk0 hk1 _).mono ?_;rintro e w' ⟨rfl,rfl⟩;go_wp2;go_ret;exact⟨rfl,h,Chg.refl _ _⟩
  | false=>
   rw[AI (by simp)];rw[his] at c2;clear his;by_cases hc:s.lim=true/\s.bud=0
   ·rw[AJ hc];have HC:=BB hc;clear hc;go_enter func219,ntmps219;go_wp2_with fail;refine(Cq a k ha0 ha1 hk0 hk1 _).mono ?_;rintro e w' ⟨rfl,rfl⟩;go_wp2_with fail;refine(Mw g s _ h HC.out.1 HC.out.2).mono ?_;rintro e w' ⟨rfl,h1,hG⟩;go_wp2;go_ret;exact⟨rfl,h1,hG⟩
   ·rw[AI hc];have HC:=BB hc;clear hc;cases hf:(failW (s.bl (a / 8))).failed with
    | true=>
     rw[AJ rfl];have HF:=BB hf;clear hf;go_enter func219,ntmps219;go_wp2_with fail;refine(Cq a k ha0 ha1 hk0 hk1 _).mono ?_;rintro e w' ⟨rfl,rfl⟩;go_wp2_with fail;refine(GZ g s _ HS.out h HC.out).mono ?_;rintro e w1 ⟨rfl,h1,hG⟩;clear h c1 c2;go_wp2_with fail;rw[show 49920+a / 8*4=49920+4*(a / 8) from om];refine(EI g (a / 8) om (Ik s) HS.out.go _ h1).mono ?_;rintro e w2 ⟨rfl,h2,hG2⟩;rw[show (failW ((Ik s).bl (a / 8))).failed=true from HF.out];go_wp2;go_ret;exact⟨rfl,h2,hG.trans hG2⟩
    | false=>
     rw[AI (by simp)];have HF:=BB hf;clear hf;go_enter func219,ntmps219;go_wp2_with fail;refine(Cq a k ha0 ha1 hk0 hk1 _).mono ?_;rintro e w' ⟨rfl,rfl⟩;go_wp2_with fail;refine(GZ g s _ HS.out h HC.out).mono ?_;rintro e w1 ⟨rfl,h1,hG⟩;clear h c1 c2;go_wp2_with fail;rw[show 49920+a / 8*4=49920+4*(a / 8) from om];refine(EI g (a / 8) om (Ik s) HS.out.go _ h1).mono ?_;rintro e w2 ⟨rfl,h2,hG2⟩;rw[show (failW ((Ik s).bl (a / 8))).failed=false from HF.out];have hG3:=hG.trans hG2;have HSRC2:=BB fun i (hi:i<64)=>(Ag (a:=⟨q,oo+i,none⟩) (hG3.block q hqs hq)).trans (HSRC.out i hi);clear h1 hG hG2;go_wp2_with fail;rw[show a*520+k*130=130*(4*a+k) from om];refine(LT g _ (4*a+k) om oo q cap hq l HL.out _ h2 HSRC2.out).mono ?_;rintro e w3 ⟨rfl,h3,hG4⟩;have hG5:=hG3.trans hG4;clear hG3 hG4 h2 HSRC HSRC2;go_wp2;go_ret;exact⟨rfl,h3,hG5⟩
theorem SA(g:Nat)(s:BG)(hs:s.Ok)(a k:Int)(l:List Nat)(v:Value)(w:Wd)(hv:Cu w v l)(hq:v.ownBlock≠some g)(h:BF w g s) :Calls prog 219 #[.pointer (some ⟨g,0,none⟩),.int .i64 a,.int .i64 k,v] w fun e w'=>e=.returned (nerrV (writeR s a k l).2)/\BF w' g (writeR s a k l).1/\Chg (·=g) w w':=by
 by_cases hc:0<=a/\a<96/\0<=k/\k<4
 ·obtain⟨ad,cap,rfl,hx⟩:=hv;by_cases hl:l.length=64
  ·obtain⟨a,rfl⟩:=Int.eq_ofNat_of_zero_le hc.1;obtain⟨k,rfl⟩:=Int.eq_ofNat_of_zero_le hc.2.2.1;rcases hx with hx | ⟨q,oo,rfl,hqs,hx⟩
   ·omega
   ·rw[hl] at hx hq ⊢;exact Oo g s hs a k om om l hl q oo cap (fun e=>hq (by rw[e];rfl)) w h hx hqs
  ·have e:writeR s a k l=(s,1):=(by unfold writeR;rw[AJ (AL hl)]);rw[e];refine(Om g a k hc.1 hc.2.1 hc.2.2.1 hc.2.2.2 ad l.length cap hl w).mono ?_;rintro e w' ⟨rfl,rfl⟩;exact⟨rfl,h,Chg.refl _ _⟩
 ·have e:writeR s a k l=(s,1):=by unfold writeR;rw[AJ (AK hc)]
  rw[e];refine(Ol g a k om v w).mono ?_;rintro e w' ⟨rfl,rfl⟩;exact⟨rfl,h,Chg.refl _ _⟩
end
theorem SB(g:Nat)(s:BG)(b:Nat)(hb:b<12)(w:Wd)(h:BF w g s) :Calls prog 19 #[.pointer (some ⟨g,0,none⟩),.int .i64 b] w fun e w'=>e=.returned (.tuple #[.int .i64 (s.bl b).reads,.nilIface])/\Chg No w w':=by
 have hb0:(0:Int)<=(b:Int):=om
 have hb1:(b:Int)<12:=om
 have c1:=Sto.cell h (49968+b) om;rw[Dy s b hb] at c1;go_enter func19,ntmps19;go_wp2_with fail;refine(BH (b:Int) 12 hb0 hb1 _).mono ?_;rintro e w' ⟨rfl,rfl⟩;go_wp2_with fail;refine(Ms g (49968+b) _ c1).mono ?_;rintro e w' ⟨rfl,rfl⟩;go_wp2
 all_goals
  go_ret2;exact⟨rfl,(Chg.refl _ _)⟩
section
variable {s:BG}{w:Wd}{g:Nat}
def nz256:List Nat:=List.replicate 256 0
theorem Ud(w:Wd):(Instr.makeSlice 35 (.int .i64 256) (.int .i64 256)).run prog w=.ok (.slice (some ⟨w.heap.size,0,none⟩) 256 256) (w.alloc (.cells (bcells nz256) 5)):=Cx w 256 256 rfl dc
theorem Oq{l:List Nat}{i:Nat}(h:i<l.length):(l.map byt)[i]?=some (.int .u8 (l.getD i 0:Nat)):=by
 rw[List.getElem?_map,AU h];simp[byt,AQ,AU h]
theorem BF.now(h:BF w g s)(hs:s.Ok)(c:Nat)(hc:c<384)(j:Nat)(hj:j<64):w.cell? ⟨g,130*c+j,none⟩=some (.int .u8 ((s.ch c).now.getD j 0:Nat)):=by
 rw[Sto.cell h _ om];congr 1;exact ZJ (Mn s hs c hc) j _ (Oq (by rw[(hs.ch c).now];exact hj))
theorem BF.alloc(h:BF w g s)(o:Obj):BF (w.alloc o) g s:=Sto.alloc h o
def pgTo (s:BG) (a:Nat):Nat->List Nat
 | 0=>[]
 | n+1=>pgTo s a n ++ (s.ch (4*a+n)).now
theorem CD(hs:s.Ok)(a n:Nat):(pgTo s a n).length=64*n:=by
 induction n with
 | zero=>rfl
 | succ n ih=>rw[pgTo,AV,ih,(hs.ch _).now];omega
theorem Ue(hs:s.Ok)(a n:Nat):Bys (pgTo s a n):=by
 induction n with
 | zero=>intro m hm;cases hm
 | succ n ih=>intro m hm;rcases mem_append.1 hm with h | h;exact ih m h;exact(hs.ch _).nowB m h
def pgZ (s:BG) (a n:Nat):List Nat:=pgTo s a n ++ List.replicate (256 - 64*n) 0
theorem Ot(hs:s.Ok)(a n:Nat)(h:n<=4):(pgZ s a n).length=256:=by rw[pgZ,AV,CD hs,length_replicate];omega
theorem ZU(hs:s.Ok)(a n:Nat)(h:n<4):lay (pgZ s a n) (n*64) (s.ch (4*a+n)).now=pgZ s a (n+1):=by
 have h1:=CD hs a n;unfold lay pgZ;rw[take_left' om,drop_append,Ax (by rw[h1,(hs.ch _).now];omega),A6,pgTo,Aq,h1,(hs.ch _).now,drop_replicate];congr 3;omega
theorem ZV(a:Nat):pgZ s a 4=pgTo s a 4:=by simp[pgZ]
def TQ (s:BG) (a:Nat):BG:=s.setBl (a / 8) { s.bl (a / 8) with reads:=wrap64 ((s.bl (a / 8)).reads+1) }
theorem LU(h:s.Ok)(a:Nat):(TQ s a).Ok:=h.setBl _ ⟨(h.bl _).ahead,(h.bl _).none,Fa _,Fb _⟩
theorem ZW(g:Nat)(a:Int)(h:a<0\/96<=a)(w:Wd) :Calls prog 132 #[.pointer (some ⟨g,0,none⟩),.int .i64 a] w fun e w'=>e=.returned (.tuple #[.slice none 0 0,nerrV 1])/\Chg No w w':=by
 go_enter func132,ntmps132;go_wp2_with fail;refine(CJ a 96 h _).mono ?_;rintro e w' ⟨rfl,rfl⟩;go_wp2
 all_goals
  go_ret2;exact⟨rfl,(Chg.refl _ _)⟩
theorem Uf(g:Nat)(s:BG)(a:Int)(h0:0<=a)(h1:a<96)(w:Wd)(h:BF w g s)(hon:s.on=false) :Calls prog 132 #[.pointer (some ⟨g,0,none⟩),.int .i64 a] w fun e w'=>e=.returned (.tuple #[.slice none 0 0,nerrV 7])/\Chg No w w':=by
 have c1:=h.on;rw[hon] at c1;clear hon;go_enter func132,ntmps132;go_wp2_with fail;refine(BH a 96 h0 h1 _).mono ?_;rintro e w' ⟨rfl,rfl⟩;go_wp2
 all_goals
  go_ret2;exact⟨rfl,(Chg.refl _ _)⟩
theorem Ug(g:Nat)(s:BG)(hs:s.Ok)(a:Nat)(ha:a<96)(w:Wd)(h:BF w g s)(hon:s.on=true) :Calls prog 132 #[.pointer (some ⟨g,0,none⟩),.int .i64 a] w fun e w'=>e=.returned (.tuple #[.slice (some ⟨w.heap.size,0,none⟩) 256 256,.nilIface])/\Arr w' w.heap.size 5 (pgTo s a 4)/\BF w' g (TQ s a)/\Chg (·=g) w w':=by
 have ha0:(0:Int)<=a:=om
 have ha1:(a:Int)<96:=om
 have hmk:=Ud;have hgs:=h.lt;have c1:=h.on;rw[hon] at c1;clear hon;have hC1:=h.alloc (.cells (bcells nz256) 5);have hA1:Arr (w.alloc (.cells (bcells nz256) 5)) w.heap.size 5 nz256:=Arr.new w 5 _;have hG1:Chg (·=g) w (w.alloc (.cells (bcells nz256) 5)):=(Chg.refl _ _).alloc _;have HS:=BB hs;clear h hs;go_enter func132,ntmps132;go_wp2_with fail;refine(BH (a:Int) 96 ha0 ha1 _).mono ?_;rintro e w' ⟨rfl,rfl⟩;go_wp2_with fail;clear hmk c1;generalize hq:w'.heap.size=q at *
 have hqs:=Ak hq;have HQ:=BB hq;clear hq;have hqg:q≠g:=om
 generalize w'.alloc (.cells (bcells nz256) 5)=w1 at *
 go_loopw [20] (fun t20 wr=>∃i:Nat,i<=4/\t20=.int .i64 i/\Arr wr q 5 (pgZ s a i)/\BF wr g s/\Chg (·=g) w' wr) (fun t20 _=>4 - (intOf t20).toNat)
 case atStart=>exact⟨0,om,rfl,hA1,hC1,hG1⟩
 case round=>
  clear hA1 hC1 hG1;obtain⟨i,hi,rfl,hA,hC,hG⟩:=hrel;by_cases hlt:i<4
  ·have hi0:(0:Int)<=(i:Int):=om;have hi1:(i:Int)<4:=om;have hn:=(HS.out.ch (4*a+i)).now;have hsrc:=hC.now HS.out (4*a+i) om;rw[show 130*(4*a+i)=a*520+i*130 from om] at hsrc;have hz:=Ot HS.out a i om;have hcp:=run_copy_row (P:=prog) wr.drew 35 35 3 5 q (i*64) (256 - i*64) (256 - i*64) ⟨g,a*520+i*130,none⟩ 64 64 (bcells (pgZ s a i)) 5 ((s.ch (4*a+i)).now.map byt) underlying35 KW hA.drew (by rw[A7,hn];exact(Nat.min_eq_left om).symm) (Qd (by rw[hn];exact hsrc)) (by simp[hn,Ba,hz];omega) (FU _);rw[show ((bcells (pgZ s a i)).toList.take (i*64) ++ (s.ch (4*a+i)).now.map byt ++ (bcells (pgZ s a i)).toList.drop (i*64+((s.ch (4*a+i)).now.map byt).length)).toArray=bcells (pgZ s a (i+1)) from by
    rw[Aq,<-ZU HS.out a i hlt];exact Ii _ _ _,A7,hn] at hcp
   have hA2:=hA.drew.row (pgZ s a (i+1));have hG2:=hG.drew.setRow (g:=q) (AL om) (bcells (pgZ s a (i+1)));have hC2:BF (wr.drew.setRow q (bcells (pgZ s a (i+1)))) g s:=hC.drew.other (setRow_other _ _ _ _ (fun e=>hqg e.symm));clear hsrc hz hn hA hC hG;generalize wr.drew.setRow q (bcells (pgZ s a (i+1)))=w2 at *
   go_wp2_with fail;go_region
   all_goals
    go_wp2;exact⟨⟨i+1,om,by go_num,hA2,hC2,hG2⟩,by simp[intOf];omega⟩
  ·have e4:i=4:=om;subst e4;rw[ZV] at hA;have c2:=Sto.cell hC (49968+a / 8) om;rw[Dy s (a / 8) om] at c2;have f2:=Sto.frozen hC (49968+a / 8);have hC2:BF (wr.setCell ⟨g,49968+a / 8,none⟩ (.int .i64 (wrap64 ((s.bl (a / 8)).reads+1)))) g (TQ s a):=Sto.ext (Sto.setCell hC _ _) (fun i _=>E3 s (a / 8) om _ i);have hA2:=hA.setOther (k:=g) (fun e=>hqg e.symm) (49968+a / 8) (.int .i64 (wrap64 ((s.bl (a / 8)).reads+1)));have hG2:=hG.at g (49968+a / 8) (.int .i64 (wrap64 ((s.bl (a / 8)).reads+1)));go_wp2_with fail;refine(Qc g (49968+a / 8) _ c2 f2).mono ?_;rintro e w2 ⟨rfl,rfl⟩;clear hA hC hG c2 f2;go_wp2;go_ret2;rw[HQ.out];exact⟨rfl,hA2,hC2,hG2⟩
end
section
variable (w:Wd)
theorem Ou:(binOp .neq 33 (.iface 56 (.int .i64 1)) .nilIface).run prog w=.ok (.bool true) w:=kr
theorem Ov:(binOp .neq 33 (.iface 56 (.int .i64 7)) .nilIface).run prog w=.ok (.bool true) w:=kr
theorem Ox:(binOp .neq 33 (.iface 56 (.int .i64 8)) .nilIface).run prog w=.ok (.bool true) w:=kr
theorem Oy:(binOp .neq 33 (.iface 56 (.int .i64 9)) .nilIface).run prog w=.ok (.bool true) w:=kr
end
def nIsCode (c:Nat):Prop:=c=0\/c=1\/c=7\/c=8\/c=9
theorem M7(s:BG)(a k:Int)(l:List Nat):nIsCode (writeR s a k l).2:=by
 unfold writeR nIsCode;split
 ·simp
 ·split
  ·simp
  ·split
   ·simp
   ·split
    ·simp
    ·split <;> simp
def readV (s:BG) (a:Int):BG × List Nat × Nat:=if ¬ (0<=a/\a<96) then (s,[],1) else if s.on=false then (s,[],7) else (TQ s a.toNat,pgTo s a.toNat 4,0)
theorem JW(s:BG)(a:Int):nIsCode (readV s a).2.2:=by
 unfold readV nIsCode;split
 ·simp
 ·split <;> simp
theorem Uh{s:BG}(h:s.Ok)(a:Int):(readV s a).1.Ok:=by
 unfold readV;split
 ·exact h
 ·split
  ·exact h
  ·exact LU h _
theorem Oz(g:Nat)(s:BG)(hs:s.Ok)(a:Int)(w:Wd)(h:BF w g s) :Calls prog 132 #[.pointer (some ⟨g,0,none⟩),.int .i64 a] w fun e w'=>∃ad n cap,e=.returned (.tuple #[.slice ad n cap,nerrV (readV s a).2.2])/\n=(readV s a).2.1.length/\Cr w' w.heap.size 5 (.slice ad n cap) (readV s a).2.1/\BF w' g (readV s a).1/\Chg (·=g) w w':=by
 unfold readV;by_cases hc:0<=a/\a<96
 ·rw[AI (by simpa using hc)];cases hon:s.on with
  | false=>
   rw[AJ rfl];refine(Uf g s a hc.1 hc.2 w h hon).mono ?_;rintro e w' ⟨rfl,hG⟩;exact⟨_,_,_,rfl,rfl,AK (Own.nil _ _ _),h.chg hG (fun f=>f),hG.mono (fun _ _ f=>f.elim)⟩
  | true=>
   rw[AI (by simp)];obtain⟨a,rfl⟩:=Int.eq_ofNat_of_zero_le hc.1;refine(Ug g s hs a om w h hon).mono ?_;rintro e w' ⟨rfl,hA,hC,hG⟩;exact⟨_,_,_,rfl,(CD hs a 4).symm,hA.own (AM _) 256 (CD hs a 4).symm (by unfold maxLen;omega),hC,hG⟩
 ·rw[AJ (by simpa using hc)];refine(ZW g a om w).mono ?_;rintro e w' ⟨rfl,hG⟩;exact⟨_,_,_,rfl,rfl,AK (Own.nil _ _ _),h.chg hG (fun f=>f),hG.mono (fun _ _ f=>f.elim)⟩
section
variable {X Dt L:List Nat}{c p o s:Nat}{n:Int}{l:Bool}
theorem SC(s:BG)(a:Nat):∀n,pgTo s a n=flat (fun k=>(s.ch (4*a+k)).now) n:=by
 intro n
 induction n with
 | zero=>rfl
 | succ n ih=>rw[Hf,<-ih];rfl
theorem SD{s:BG}(hs:s.Ok)(a k:Nat)(hk:k<4):part 64 (pgTo s a 4) k=(s.ch (4*a+k)).now:=by
 rw[SC];exact Rc 4 (fun i _=>(hs.ch _).now) k hk
theorem Ui(a b:List Nat):∀n,dmgTo a b n=wt (df a b) n:=by
 intro n
 induction n with
 | zero=>rfl
 | succ n ih=>
  show dmgTo a b n+_=wt (df a b) n+_;rw[ih];congr 1;by_cases h:a.getD n 0=b.getD n 0
  ·rw[AJ h,AJ (ET.2 h)]
  ·rw[AI h,AI (fun e=>h (ET.1 e))]
theorem dh(k:GY):dmg k=ds k.now k.tru:=Ui _ _ 64
structure Pg where
 tagged:Bool
 p:Nat
 o:Nat
 s:Nat
 c:Nat
 l:Bool
 sound:Bool
 data:List Nat
 dmg:Nat
def dmgs (d c:Nat->Nat):Nat->Nat
 | 0=>0
 | k+1=>if c k=0 then max (dmgs d c k) (d k) else dmgs d c k
theorem JX{d c d' c':Nat->Nat}:∀n,(∀k,k<n->d k=d' k/\c k=c' k)->dmgs d c n=dmgs d' c' n:=by
 intro n
 induction n with
 | zero=>intro _;rfl
 | succ n ih=>
  intro h;obtain⟨h1,h2⟩:=h n om;show (if c n=0 then max (dmgs d c n) (d n) else dmgs d c n)=(if c' n=0 then max (dmgs d' c' n) (d' n) else dmgs d' c' n);rw[ih (fun k hk=>h k om),h1,h2]
def DmgR (L:List Nat) (m:Nat):Prop:=∃(R:Nat->List Nat) (d c:Nat->Nat),(∀k,k<4->MsgR L (k:Nat) (R k) (d k) (c k))/\m=dmgs d c 4
theorem DmgR.unique{m m':Nat}(h:DmgR L m)(h':DmgR L m'):m=m':=by
 obtain⟨R,d,c,h1,rfl⟩:=h;obtain⟨R',d',c',h2,rfl⟩:=h';exact JX 4 (fun k hk=>(h1 k hk).unique (h2 k hk) |>.2)
def JY (B:List Nat) (bc:Nat) (n:Int):Prop:=bc=0/\dX B/\((BS B 0 2:Nat):Int)=n
def ToldR (L:List Nat) (n:Int) (g:Pg):Prop:=
 DmgR L g.dmg/\∃(B:List Nat) (bd bc:Nat),BodR L B bd bc /\
  ((¬ JY B bc n/\g.tagged=false/\g.p=0/\g.o=0/\g.s=0/\g.c=0/\g.l=false/\g.sound=false/\g.data=[]) \/
   (JY B bc n/\g.tagged=true/\g.p=BS B 0 2/\g.o=BS B 2 1/\g.s=BS B 3 5/\g.c=BS B 8 1/\g.l=II B /\
    ∃(D:List Nat) (dd dc:Nat),DatR L D dd dc/\((dc≠0/\g.sound=false/\g.data=[])\/(dc=0/\g.sound=true/\g.data=D))))
theorem ToldR.unique{g g':Pg}(h:ToldR L n g)(h':ToldR L n g'):g=g':=by
 obtain⟨t1,p1,o1,s1,c1,l1,u1,e1,m1⟩:=g;obtain⟨t2,p2,o2,s2,c2,l2,u2,e2,m2⟩:=g';obtain⟨hm,B,bd,bc,hB,hr⟩:=h;obtain⟨hm',B',bd',bc',hB',hr'⟩:=h';obtain⟨rfl,rfl,rfl⟩:=hB.unique hB';obtain rfl:m1=m2:=hm.unique hm';rcases hr with ⟨hn,q1,q2,q3,q4,q5,q6,q7,q8⟩ | ⟨hy,q1,q2,q3,q4,q5,q6,D,dd,dc,hD,q7⟩ <;>
  rcases hr' with ⟨hn',r1,r2,r3,r4,r5,r6,r7,r8⟩ | ⟨hy',r1,r2,r3,r4,r5,r6,D',dd',dc',hD',r7⟩
 ·simp only at q1 q2 q3 q4 q5 q6 q7 q8 r1 r2 r3 r4 r5 r6 r7 r8;subst q1 q2 q3 q4 q5 q6 q7 q8 r1 r2 r3 r4 r5 r6 r7 r8;rfl
 ·exact absurd hy' hn
 ·exact absurd hy hn'
 ·obtain⟨rfl,rfl,rfl⟩:=hD.unique hD';simp only at q1 q2 q3 q4 q5 q6 q7 r1 r2 r3 r4 r5 r6 r7;rcases q7 with ⟨x1,x2,x3⟩ | ⟨x1,x2,x3⟩ <;> rcases r7 with ⟨y1,y2,y3⟩ | ⟨y1,y2,y3⟩
  ·subst q1 q2 q3 q4 q5 q6 r1 r2 r3 r4 r5 r6 x2 x3 y2 y3;rfl
  ·exact absurd y1 x1
  ·exact absurd x1 y1
  ·subst q1 q2 q3 q4 q5 q6 r1 r2 r3 r4 r5 r6 x2 x3 y2 y3;rfl
theorem Uj{Z R:List Nat}{k d:Nat}(hD:Dt.length=174)(bD:Bys Dt)(hZ:Z.length=50)(bZ:Bys Z)(hX:X.length=256)(hk:k<4)(h:MsgR X (k:Nat) R d c) :(hurt Dt Z X k<=2->d=hurt Dt Z X k/\c=0)/\(2<hurt Dt Z X k->hurt Dt Z X k<=4->c=5):=by
 rcases h with ⟨h,_⟩ | ⟨i,hi,e,_,⟨hn,rfl,rfl,rfl⟩ | ⟨hg,rfl⟩⟩
 ·exact absurd ⟨hX,om,om⟩ h
 ·obtain rfl:k=i:=om
  refine⟨fun h2=>?_,fun _ _=>rfl⟩;have:=Cp hD bD hZ bZ hi h2 hn;cases this
 ·obtain rfl:k=i:=om
  refine⟨fun h2=>?_,fun h2 h4=>?_⟩
  ·have:=AR (Cp hD bD hZ bZ hi h2 hg.1);exact⟨(Prod.mk.inj this).2,rfl⟩
  ·have:=JI hg.1 (Dw hD bD hZ bZ k hi) h2 h4;cases this
theorem ToldR.mends{g:Pg}(hD:Dt.length=174)(bD:Bys Dt)(hm:DV p o s c l)(hX:X.length=256)(h:ToldR X (p:Nat) g)(h2:∀k,k<4->hurt Dt (body p o s c l) X k<=2) :g.tagged=true/\g.p=p/\g.o=o/\g.s=s/\g.c=c/\g.l=l/\g.sound=true/\g.data=Dt /\g.dmg=max (max (max (hurt Dt (body p o s c l) X 0) (hurt Dt (body p o s c l) X 1)) (hurt Dt (body p o s c l) X 2)) (hurt Dt (body p o s c l) X 3):=by
 have hZ:=By p o s c l;have bZ:=Ct p o s c l;obtain⟨f0,f1,f2,f3,f4⟩:=JR p o s c l hm;have hI:=QZ p o s c l hm;obtain⟨⟨R,d,cc,hd,hdm⟩,B,bd,bc,hB,hr⟩:=h;obtain⟨rfl,-,rfl⟩:=JL hD bD hZ bZ hX hB (h2 3 om);have hT:JY (body p o s c l) 0 (p:Nat):=⟨rfl,hI,by rw[f0]⟩;rcases hr with ⟨hn,_⟩ | ⟨_,q1,q2,q3,q4,q5,q6,D,dd,dc,hDD,q7⟩
 ·exact absurd hT hn
 ·obtain⟨rfl,-,rfl⟩:=JK hD bD hZ bZ hX hDD (by have:=h2 0 om;have:=h2 1 om;have:=h2 2 om;omega);rw[f0] at q2;rw[f1] at q3;rw[f2] at q4;rw[f3] at q5;rw[f4] at q6;refine⟨q1,q2,q3,q4,q5,q6,?_,?_,?_⟩
  ·rcases q7 with ⟨x,_⟩ | ⟨_,x,_⟩
   ·exact absurd rfl x
   ·exact x
  ·rcases q7 with ⟨x,_⟩ | ⟨_,_,x⟩
   ·exact absurd rfl x
   ·exact x
  ·have e:∀k,k<4->d k=hurt D (body p o s c l) X k/\cc k=0:=fun k hk=>(Uj hD bD hZ bZ hX hk (hd k hk)).1 (h2 k hk);rw[hdm];simp only[dmgs,(e 0 om).1,(e 0 om).2,(e 1 om).1,(e 1 om).2,(e 2 om).1,(e 2 om).2,(e 3 om).1,(e 3 om).2,if_true];omega
theorem ToldR.told{g:Pg}(hD:Dt.length=174)(bD:Bys Dt)(hm:DV p o s c l)(hX:X.length=256)(h:ToldR X (p:Nat) g)(h4:∀k,k<4->hurt Dt (body p o s c l) X k<=4) :(g.tagged=true<->hurt Dt (body p o s c l) X 3<=2) /\(g.sound=true<->(hurt Dt (body p o s c l) X 3<=2/\hurt Dt (body p o s c l) X 0<=2/\hurt Dt (body p o s c l) X 1<=2/\hurt Dt (body p o s c l) X 2<=2)) /\g.dmg<=2/\(g.tagged=true->g.p=p/\g.o=o/\g.s=s/\g.c=c/\g.l=l)/\(g.sound=true->g.data=Dt)/\(g.sound=false->g.data=[]):=by
 have hZ:=By p o s c l;have bZ:=Ct p o s c l;obtain⟨f0,f1,f2,f3,f4⟩:=JR p o s c l hm;have hI:=QZ p o s c l hm;obtain⟨⟨R,d,cc,hd,hdm⟩,B,bd,bc,hB,hr⟩:=h;have hdmg:g.dmg<=2:=by
  rw[hdm];have e:∀k,k<4->d k<=2:=fun k hk=>(hd k hk).code.2.2;have:∀n,n<=4->dmgs d cc n<=2:=by
   intro n
   induction n with
   | zero=>intro _;exact Ac _
   | succ n ih=>
    intro hn;have h1:=ih om;have h2:=e n om;show (if cc n=0 then max (dmgs d cc n) (d n) else dmgs d cc n)<=2;split <;> omega
  exact this 4 om
 have a0:=h4 0 om;have a1:=h4 1 om;have a2:=h4 2 om;have a3:=h4 3 om;by_cases h3:hurt Dt (body p o s c l) X 3<=2
 ·obtain⟨rfl,-,rfl⟩:=JL hD bD hZ bZ hX hB h3;have hT:JY (body p o s c l) 0 (p:Nat):=⟨rfl,hI,by rw[f0]⟩;rcases hr with ⟨hn,_⟩ | ⟨_,q1,q2,q3,q4,q5,q6,D,dd,dc,hDD,q7⟩
  ·exact absurd hT hn
  ·rw[f0] at q2;rw[f1] at q3;rw[f2] at q4;rw[f3] at q5;rw[f4] at q6;by_cases hdat:max (max (hurt Dt (body p o s c l) X 0) (hurt Dt (body p o s c l) X 1)) (hurt Dt (body p o s c l) X 2)<=2
   ·obtain⟨rfl,-,rfl⟩:=JK hD bD hZ bZ hX hDD hdat;rcases q7 with ⟨x,_⟩ | ⟨_,x,y⟩
    ·exact absurd rfl x
    ·exact⟨⟨fun _=>h3,fun _=>q1⟩,⟨fun _=>⟨h3,om,om,om⟩,fun _=>x⟩,hdmg,fun _=>⟨q2,q3,q4,q5,q6⟩,fun _=>y,fun e=>(by rw[x] at e;cases e)⟩
   ·obtain⟨rfl,-,rfl⟩:=Rf hD bD hZ bZ hX hDD om om;rcases q7 with ⟨_,x,y⟩ | ⟨x,_⟩
    ·exact⟨⟨fun _=>h3,fun _=>q1⟩,⟨fun e=>(by rw[x] at e;cases e),fun e=>absurd om hdat⟩,hdmg,fun _=>⟨q2,q3,q4,q5,q6⟩,fun e=>(by rw[x] at e;cases e),fun _=>y⟩
    ·exact absurd x dc
 ·obtain⟨rfl,-,rfl⟩:=Rg hD bD hZ bZ hX hB om a3;rcases hr with ⟨_,q1,q2,q3,q4,q5,q6,q7,q8⟩ | ⟨⟨x,_⟩,_⟩
  ·exact⟨⟨fun e=>(by rw[q1] at e;cases e),fun e=>absurd e h3⟩,⟨fun e=>(by rw[q7] at e;cases e),fun e=>absurd e.1 h3⟩,hdmg,fun e=>(by rw[q1] at e;cases e),fun e=>(by rw[q7] at e;cases e),fun _=>q8⟩
  ·exact absurd x dc
theorem ToldR.blank{g:Pg}(h:ToldR X n g)(h4:ds (part 64 X 3) Fx<=4):g.tagged=false/\g.sound=false/\g.data=[]:=by
 obtain⟨_,B,bd,bc,hB,hr⟩:=h;rcases hr with ⟨_,q1,q2,q3,q4,q5,q6,q7,q8⟩ | ⟨⟨rfl,_⟩,_⟩
 ·exact⟨q1,q7,q8⟩
 ·exfalso;rcases hB with ⟨_,_,_,e⟩ | ⟨_,_,_,_,e⟩ | ⟨_,r,hg,⟨_,_,_,e⟩ | ⟨hmk,_⟩⟩
  ·cases e
  ·cases e
  ·cases e
  ·exact Y9 hg.1 h4 hmk
end
section
variable {s:BG}{a:Int}{W:Nat->List Nat}
def Pg.zero:Pg:=⟨false,0,0,0,0,false,false,[],0⟩
def ReadR (s:BG) (r:Int) (a:Int) (s':BG) (r':Int) (g:Pg) (c:Nat):Prop:=
 s'=(readV s a).1/\c=(readV s a).2.2/\((c≠0/\r'=r/\g=Pg.zero)\/(c=0/\r'=wrap64 (r+1)/\ToldR (readV s a).2.1 a g))
theorem ReadR.ok{r:Int}{s1:BG}{r1:Int}{g1:Pg}{c1:Nat}(h:ReadR s r a s1 r1 g1 c1)(hs:s.Ok):s1.Ok:=by
 rw[h.1];exact Uh hs a
def wrN (s:BG) (a:Int) (W:Nat->List Nat):Nat->BG × Nat
 | 0=>(s,0)
 | n+1=>if (wrN s a W n).2=0 then writeR (wrN s a W n).1 a n (W n) else wrN s a W n
theorem LV(hs:s.Ok)(a:Int):∀n,(∀k,k<n->Bys (W k))->(wrN s a W n).1.Ok:=by
 intro n
 induction n with
 | zero=>intro _;exact hs
 | succ n ih=>
  intro hW;have h1:=ih (fun k hk=>hW k om);show (if (wrN s a W n).2=0 then writeR (wrN s a W n).1 a n (W n) else wrN s a W n).1.Ok;split
  ·exact R9 h1 _ _ (hW n om)
  ·exact h1
theorem Uk(s:BG)(a:Int)(W:Nat->List Nat):∀n,nIsCode (wrN s a W n).2:=by
 intro n
 induction n with
 | zero=>exact AK rfl
 | succ n ih=>
  show nIsCode (if (wrN s a W n).2=0 then writeR (wrN s a W n).1 a n (W n) else wrN s a W n).2;split
  ·exact M7 _ _ _ _
  ·exact ih
def Pg.Is (g:Pg) (p o q c:Nat) (l:Bool) (Dt:List Nat):Prop:=g.tagged=true/\(g.p=p/\g.o=o/\g.s=q/\g.c=c/\g.l=l)/\g.sound=true/\g.data=Dt
def ProgR (s:BG) (r:Int) (a p o q c:Nat) (l:Bool) (Dt:List Nat) (s':BG) (r':Int) (e:Nat):Prop:=
 ((wrN s a (wordOf Dt (body p o q c l)) 4).2≠0/\s'=(wrN s a (wordOf Dt (body p o q c l)) 4).1/\r'=r/\e=(wrN s a (wordOf Dt (body p o q c l)) 4).2) \/
 ((wrN s a (wordOf Dt (body p o q c l)) 4).2=0/\∃g x,ReadR (wrN s a (wordOf Dt (body p o q c l)) 4).1 r a s' r' g x/\((x≠0/\e=x)\/(x=0/\g.Is p o q c l Dt/\e=0)\/(x=0/\¬ g.Is p o q c l Dt/\e=8)))
theorem Ul{n:Nat}(h:(wrN s a W n).2≠0):∀m,wrN s a W (n+m)=wrN s a W n:=by
 intro m
 induction m with
 | zero=>rfl
 | succ m ih=>
  show (if (wrN s a W (n+m)).2=0 then _ else wrN s a W (n+m))=_;rw[ih,AI h]
end
section
variable {a:Nat}{Dt Z:List Nat}
theorem JZ{t:BG}(ht:t.Ok){k:Nat}(hk:k<4)(h:(t.ch (4*a+k)).tru=wordOf Dt Z k):hurt Dt Z (pgTo t a 4) k=dmg (t.ch (4*a+k)):=by
 rw[hurt,SD ht a k hk,dh,h]
theorem IL(hD:Dt.length=174)(bD:Bys Dt)(hZ:Z.length=50)(bZ:Bys Z)(k:Nat)(hk:k<4):(wordOf Dt Z k).length=64:=(Dw hD bD hZ bZ k hk).1
theorem E6{s:BG}(ha:a<96)(hon:s.on=true):readV s a=(TQ s a,pgTo s a 4,0):=by
 unfold readV;rw[AI om,AI (by rw[hon];simp),AP]
theorem DV.place{p o q c:Nat}{l:Bool}(h:DV p o q c l):p<96:=by
 have:=h.1.1;omega
end
section
variable {w w' u:Wd}{t l sd l':Bool}{p s c d o r of p' o' s' c':Int}{v:Value}{k g b m q:Nat}{S:Nat->Prop}{ops:Array Oper}{rest:List Oper}{a:Act}{Q:Exit->Act->World->Prop}{fn:Func}
def Do (w:Wd) (m g p q b:Nat) (r:Int):Prop:=w.heap[m]?=some (.cells #[.pointer (some ⟨g,0,none⟩),.pointer (some ⟨p,0,none⟩),.int .i64 r] 215)/\Frm w p q b
theorem Do.lt{p:Nat}(h:Do w m g p q b r):m<w.heap.size:=(Array.getElem?_eq_some_iff.1 h.1).1
theorem Do.cells{p:Nat}(h:Do w m g p q b r):w.cell? ⟨m,0,none⟩=some (.pointer (some ⟨g,0,none⟩))/\w.cell? ⟨m,1,none⟩=some (.pointer (some ⟨p,0,none⟩))/\w.cell? ⟨m,2,none⟩=some (.int .i64 r):=by
 refine⟨?_,?_,?_⟩ <;> simp[World.cell?,h.1]
theorem Do.mb{p:Nat}(h:Do w m g p q b r):m≠b:=by
 intro e;obtain⟨c,z,hc,-⟩:=Df h.2.1.1;have h2:=h.1;rw[e,hc] at h2;simp at h2
theorem Do.but{p:Nat}(h:Do w m g p q b r)(hF:Frm w' p q b)(hB:But b w w'):Do w' m g p q b r:=⟨(hB.block m h.lt h.mb).trans h.1,hF⟩
theorem Do.chg{p:Nat}(h:Do w m g p q b r)(hc:Chg No w w'):Do w' m g p q b r:=⟨(hc.block m h.lt (fun f=>f)).trans h.1,h.2.chg hc⟩
theorem Do.lts{p:Nat}(h:Do w m g p q b r):m<w.heap.size/\p<w.heap.size/\q<w.heap.size/\b<w.heap.size:=⟨h.lt,h.2.lt,h.2.1.lt,h.2.1.1.lt⟩
theorem Do.far{p:Nat}(h:Do w m g p q b r)(hc:Chg S w w')(hm:¬ S m)(hp:¬ S p)(hq:¬ S q)(hb:¬ S b):Do w' m g p q b r:=
 ⟨(hc.block m h.lt hm).trans h.1,h.2.other (hc.block b h.2.1.1.lt hb) (hc.block q h.2.1.lt hq) (hc.block p h.2.lt hp)⟩
theorem But.fresh(h:But b u w)(hc:Chg (·=k) w w')(hk:u.heap.size<=k):But b u w':=
 ⟨hc.os.trans h.os,hc.tape.trans h.tape,hc.output.trans h.output,AY h.size hc.size,fun i hi hb=>(hc.block i (Aj hi h.size) om).trans (h.block i hi hb)⟩
theorem LW{c:Nat}(h:c≠0):errV c=.iface 56 (.int .i64 (c:Int)):=AI h
theorem Ga{c:Nat}(hc:Cj c)(h:c≠0)(w:Wd):(binOp .neq 33 (.iface 56 (.int .i64 (c:Int))) .nilIface).run prog w=.ok (.bool true) w:=by
 rcases hc with rfl | rfl | rfl | rfl
 ·exact absurd rfl h
 ·exact Ds w
 ·exact Eu w
 ·exact GS w
theorem Gb{c:Nat}(hc:Cj c)(h:c≠0)(w:Wd):(binOp .eql 33 (.iface 56 (.int .i64 (c:Int))) .nilIface).run prog w=.ok (.bool false) w:=by
 rcases hc with rfl | rfl | rfl | rfl
 ·exact absurd rfl h
 ·exact Ma w
 ·exact Mb w
 ·exact LK w
theorem Hj:errV 0=.nilIface:=rfl
def Pb (w:Wd) (k:Nat) (t:Bool) (p o s c:Int) (l sd:Bool) (v:Value) (d:Int):Prop:=w.heap[k]?=some (.cells #[.bool t,.int .i64 p,.int .i64 o,.int .i64 s,.int .i64 c,.bool l,.bool sd,v,.int .i64 d] 129)
theorem Pb.new(w:Wd)(t:Bool)(p o s c:Int)(l sd:Bool)(v:Value)(d:Int):Pb (w.alloc (.cells #[.bool t,.int .i64 p,.int .i64 o,.int .i64 s,.int .i64 c,.bool l,.bool sd,v,.int .i64 d] 129)) w.heap.size t p o s c l sd v d:=by
 show (w.heap.push _)[w.heap.size]?=_;simp
theorem Pb.lt(h:Pb w k t p o s c l sd v d):k<w.heap.size:=(Array.getElem?_eq_some_iff.1 (show w.heap[k]?=some _ from h)).1
theorem Pb.chg(h:Pb w k t p o s c l sd v d)(hc:Chg S w w')(hk:¬ S k):Pb w' k t p o s c l sd v d:=(hc.block k h.lt hk).trans h
theorem Pb.alloc(h:Pb w k t p o s c l sd v d)(x:Obj):Pb (w.alloc x) k t p o s c l sd v d:=(Below.heap_alloc _ _ _ h.lt).trans h
theorem Pb.cells(h:Pb w k t p o s c l sd v d) :w.cell? ⟨k,0,none⟩=some (.bool t)/\w.cell? ⟨k,1,none⟩=some (.int .i64 p)/\w.cell? ⟨k,2,none⟩=some (.int .i64 o)/\w.cell? ⟨k,3,none⟩=some (.int .i64 s)/\w.cell? ⟨k,4,none⟩=some (.int .i64 c)/\w.cell? ⟨k,5,none⟩=some (.bool l)/\w.cell? ⟨k,6,none⟩=some (.bool sd)/\w.cell? ⟨k,7,none⟩=some v/\w.cell? ⟨k,8,none⟩=some (.int .i64 d):=by
 have h':w.heap[k]?=some _:=h;refine⟨?_,?_,?_,?_,?_,?_,?_,?_,?_⟩ <;> simp[World.cell?,h']
theorem Pb.frozen(h:Pb w k t p o s c l sd v d)(i:Nat):w.frozen? ⟨k,i,none⟩=false:=by
 have h':w.heap[k]?=some _:=h;simp[World.frozen?,h']
theorem Pb.set0(h:Pb w k t p o s c l sd v d)(t':Bool):Pb (w.setCell ⟨k,0,none⟩ (.bool t')) k t' p o s c l sd v d:=heap_setCell_same w k 0 _ 129 _ h
theorem Pb.set1(h:Pb w k t p o s c l sd v d)(p':Int):Pb (w.setCell ⟨k,1,none⟩ (.int .i64 p')) k t p' o s c l sd v d:=heap_setCell_same w k 1 _ 129 _ h
theorem Pb.set2(h:Pb w k t p o s c l sd v d)(o':Int):Pb (w.setCell ⟨k,2,none⟩ (.int .i64 o')) k t p o' s c l sd v d:=heap_setCell_same w k 2 _ 129 _ h
theorem Pb.set3(h:Pb w k t p o s c l sd v d)(s':Int):Pb (w.setCell ⟨k,3,none⟩ (.int .i64 s')) k t p o s' c l sd v d:=heap_setCell_same w k 3 _ 129 _ h
theorem Pb.set4(h:Pb w k t p o s c l sd v d)(c':Int):Pb (w.setCell ⟨k,4,none⟩ (.int .i64 c')) k t p o s c' l sd v d:=heap_setCell_same w k 4 _ 129 _ h
theorem Pb.set5(h:Pb w k t p o s c l sd v d)(l':Bool):Pb (w.setCell ⟨k,5,none⟩ (.bool l')) k t p o s c l' sd v d:=heap_setCell_same w k 5 _ 129 _ h
theorem Pb.set6(h:Pb w k t p o s c l sd v d)(sd':Bool):Pb (w.setCell ⟨k,6,none⟩ (.bool sd')) k t p o s c l sd' v d:=heap_setCell_same w k 6 _ 129 _ h
theorem Pb.set7(h:Pb w k t p o s c l sd v d)(v':Value):Pb (w.setCell ⟨k,7,none⟩ v') k t p o s c l sd v' d:=heap_setCell_same w k 7 _ 129 _ h
theorem Pb.tag(h:Pb w k t p o s c l sd v d)(p' o' s' c':Int)(l':Bool):Pb (w.setCells k 1 [.int .i64 p',.int .i64 o',.int .i64 s',.int .i64 c',.bool l']) k t p' o' s' c' l' sd v d:=
 ((((h.set1 p').set2 o').set3 s').set4 c').set5 l'
theorem di(h:Chg S u w)(hk:S k\/u.heap.size<=k)(vs:List Value):Chg S u (w.setCells k 1 vs):=Chg.setCells hk vs 1 h
theorem LX:(prog.info? 129).map (·.size)=some 9:=kr
theorem wpList_load_pg{o:Oper}(hgd:o.guard=none)(x:Operand)(ho:o.op=.load 129 x)(g:Nat)(hx:a.eval x=.pointer (some ⟨g,0,none⟩))(hg:Pb w g t p of s c l sd v d)(h:wpList prog ops Q rest (a.put o.dst (.agg #[.bool t,.int .i64 p,.int .i64 of,.int .i64 s,.int .i64 c,.bool l,.bool sd,v,.int .i64 d])) w):wpList prog ops Q (o :: rest) a w:=
 wpList_load_row hgd 129 x ho g hx 129 _ _ _ hg underlying129 rfl LX h
theorem wpList_store_pg{o:Oper}(hgd:o.guard=none)(x y:Operand)(ho:o.op=.store 129 x y)(g:Nat)(hx:a.eval x=.pointer (some ⟨g,0,none⟩))(hy:a.eval y=.agg #[.bool t,.int .i64 p,.int .i64 of,.int .i64 s,.int .i64 c,.bool l,.bool sd,v,.int .i64 d])(hv:v.oneCell'=true){t':Bool}{sd':Bool}{v':Value}{d':Int}(hg:Pb w g t' p' o' s' c' l' sd' v' d')(h:∀w',Pb w' g t p of s c l sd v d->Chg (·=g) w w'->wpList prog ops Q rest (a.put o.dst undef) w'):wpList prog ops Q (o :: rest) a w:=
 wpList_store_row hgd 129 x y ho g _ hx hy 129 _ hg LX rfl (by simp[hv];simp[Value.oneCell']) (h _ (setRow_heap w g _ _ 129 _ hg) ⟨rfl,rfl,rfl,by simp,fun k _ hk=>setRow_other _ _ _ _ hk⟩)
theorem Pb.there(h:Pb w k t p o s c l sd v d):w.there k 1 5:=fun j hj=>by
 obtain⟨-,h1,h2,h3,h4,h5,-⟩:=h.cells
 refine⟨?_,h.frozen _⟩
 rcases(by omega:j=0\/j=1\/j=2\/j=3\/j=4) with rfl | rfl | rfl | rfl | rfl
 ·
  rw[h1];rfl
 ·
  rw[h2];rfl
 ·
  rw[h3];rfl
 ·
  rw[h4];rfl
 ·
  rw[h5];rfl
theorem EK{o:Oper}(hgd:o.guard=none)(x y:Operand)(ho:o.op=.store 127 x y)(g:Nat)(hx:a.eval x=.pointer (some ⟨g,1,none⟩))(hy:a.eval y=.agg #[.int .i64 p,.int .i64 of,.int .i64 s,.int .i64 c,.bool l])(hg:Pb w g t p' o' s' c' l' sd v d)(h:∀w',Pb w' g t p of s c l sd v d->Chg (·=g) w w'->wpList prog ops Q rest (a.put o.dst undef) w'):wpList prog ops Q (o :: rest) a w:=
 wpList_store_mid hgd 127 x y ho g 1 _ hx hy hg.there Fy (by simp[Value.oneCell']) (h _ (hg.tag p of s c l) (di (S:=(·=g)) (Chg.refl _ w) (AK rfl) _))
theorem F7{q:Tmp}(h:fn.results=#[.cell q 129])(tmps:Array Value)(hp:tmps.getD q undef=.pointer (some ⟨g,0,none⟩))(hT:Pb w g t p o s c l sd v d) :(results fn tmps).run prog w=.ok (.agg #[.bool t,.int .i64 p,.int .i64 o,.int .i64 s,.int .i64 c,.bool l,.bool sd,v,.int .i64 d]) w:=
 results_cell_row h tmps w g 129 _ _ _ hp hT underlying129 rfl LX
theorem Bz{q u:Tmp}(h:fn.results=#[.cell q 129,.tmp u])(tmps:Array Value)(hp:tmps.getD q undef=.pointer (some ⟨g,0,none⟩))(hT:Pb w g t p o s c l sd v d) :(results fn tmps).run prog w=.ok (.tuple #[.agg #[.bool t,.int .i64 p,.int .i64 o,.int .i64 s,.int .i64 c,.bool l,.bool sd,v,.int .i64 d],tmps.getD u undef]) w:=by
 rw[results_cell_tmp h,hp];simp[asAddr,run_loadVar_row w g 129 129 _ _ _ hT underlying129 rfl LX]
def SE (g:Pg) (v:Value):Value:=.agg #[.bool g.tagged,.int .i64 g.p,.int .i64 g.o,.int .i64 g.s,.int .i64 g.c,.bool g.l,.bool g.sound,v,.int .i64 g.dmg]
theorem M8(m g p q b:Nat)(r:Int)(w:Wd)(h:Do w m g p q b r)(c o cap:Nat)(L:List Nat)(hL:L.length=256)(bL:Bys L)(hcb:c≠b)(hcs:c<w.heap.size)(hcap:256<=cap)(hh:Cu w (.slice (some ⟨c,o,none⟩) 256 cap) L) :Calls prog 166 #[.pointer (some ⟨m,0,none⟩),.slice (some ⟨c,o,none⟩) 256 cap] w fun e w'=>∃d:Nat,e=.returned (.int .i64 d)/\DmgR L d/\Do w' m g p q b r/\But b w w':=by
 have HH:=BB hh;have HL:=BB hL;have HM:=BB h;clear hh hL h;go_enter func166,ntmps166;go_wp2_with fail
 go_loopw [5,10] (fun t5 t10 wr=>∃(k:Nat) (R:Nat->List Nat) (d e:Nat->Nat),k<=4/\t10=.int .i64 k/\t5=.int .i64 (dmgs d e k:Nat)/\(∀j,j<k->MsgR L (j:Nat) (R j) (d j) (e j))/\Do wr m g p q b r/\But b w wr) (fun _ t10 _=>4 - (intOf t10).toNat)
 case atStart=>exact⟨0,fun _=>[],fun _=>0,fun _=>0,om,rfl,rfl,fun j hj=>absurd hj om,HM.out,But.refl _ _⟩
 case round=>
  obtain⟨k,R,d,e,hk,rfl,rfl,hR,hM,hB⟩:=hrel;by_cases hlt:k<4
  ·have hlt':(k:Int)<4:=om;obtain⟨c0,c1,c2⟩:=hM.cells;have hHx:=HH.out.chg hB.chg (fun k _ he e=>hcb ((AR he).trans e));have hsx:=hB.size;have hcall:=Rb p q b wr hM.2 c o 256 cap L HL.out.symm bL hcb om hcap hHx (k:Nat);have HR:=BB hR;have HMx:=BB hM;have HBx:=BB hB;clear hR hM hB hHx;go_wp2_with fail;refine hcall.mono ?_;rintro x w2 ⟨⟨a,n,cp,R2,d2,e2,rfl,-,hm,-⟩,hF2,hB2⟩;clear hcall;have HM2:=BB (HMx.out.but hF2 hB2);have HB2:=BB (HBx.out.trans hB2);have hcode:=hm.code;have hR2:∀j,j<k+1->MsgR L (j:Nat) (if j=k then R2 else R j) (if j=k then d2 else d j) (if j=k then e2 else e j):=by
    intro j hj;by_cases ej:j=k
    ·subst ej;rw[AJ rfl,AJ rfl,AJ rfl];exact hm
    ·rw[AI ej,AI ej,AI ej];exact HR.out j om
   have hd0:dmgs (fun j=>if j=k then d2 else d j) (fun j=>if j=k then e2 else e j) k=dmgs d e k:=JX k (fun j hj=>⟨by rw[AI om],by rw[AI om]⟩);have hd1:dmgs (fun j=>if j=k then d2 else d j) (fun j=>if j=k then e2 else e j) (k+1)=if e2=0 then max (dmgs d e k) d2 else dmgs d e k:=by
    show (if (if k=k then e2 else e k)=0 then max (dmgs _ _ k) (if k=k then d2 else d k) else dmgs _ _ k)=_;rw[hd0,AJ rfl,AJ rfl]
   have HR2:=BB hR2;have HD1:=BB hd1;have q1:=IE;by_cases he:e2=0
   ·subst he;rw[AJ rfl] at HD1;clear hd1 hd0 hR2 hm hF2 hB2 HMx HBx hcode;rw[Hj];go_wp2;exact⟨⟨k+1,_,_,_,om,by go_num,by rw[HD1.out];go_num,HR2.out,HM2.out,HB2.out⟩,by simp[intOf];omega⟩
   ·have q2:=Gb hcode.1 he;rw[AI he] at HD1;rw[LW he];clear hd1 hd0 hR2 hm hF2 hB2 HMx HBx hcode;go_wp2;exact⟨⟨k+1,_,_,_,om,by go_num,by rw[HD1.out],HR2.out,HM2.out,HB2.out⟩,by simp[intOf];omega⟩
  ·obtain rfl:k=4:=om
   have HR:=BB hR;clear hR;go_wp2;go_ret;exact⟨_,rfl,⟨R,d,e,HR.out,rfl⟩,hM,hB⟩
end
end Go.Proofs.YtbhbilcieodbhaaGreat
