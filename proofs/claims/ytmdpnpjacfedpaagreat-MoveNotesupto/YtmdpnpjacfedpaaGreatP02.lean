/-
  Lemmas.
-/
import Derived.Test.YtmdpnpjacfedpaaGreatP01
import Derived.Laws.ByValue
import Derived.Laws.Build
import Derived.Laws.ResultCell
import Derived.Laws.StructEq
import Derived.WideShapes
import Derived.ChangeArms
import Derived.ProofKit
import Derived.Laws.OwnMore
import Derived.Deep.MidRow
set_option maxRecDepth 1000000
set_option maxHeartbeats 16000000
set_option linter.unusedSimpArgs false
namespace Go.Proofs.YtmdpnpjacfedpaaGreat
open List
open Go.Proofs.Tryz
open Go.RowKit
section
variable {p s c o:Int}{l:Bool}{b:Nat}(w:Wd)
def Zn (p o s c:Int):Prop:=(0<=p/\p<96)/\(0<=o/\o<=24)/\(1<=s/\s<=1099511627775)/\0<=c/\c<=255
def WI (p o:Int) (l:Bool):Prop:=(o=24/\l=false)\/(o≠24/\p % 8<6)
def DY (p o s c:Int) (l:Bool):Prop:=Zn p o s c/\WI p o l
def Tg (w:Wd) (b:Nat) (p o s c:Int) (l:Bool):Prop:=w.heap[b]?=some (.cells #[.int .i64 p,.int .i64 o,.int .i64 s,.int .i64 c,.bool l] 130)
theorem Tg.new(p o s c:Int)(l:Bool):Tg (w.alloc (.cells #[.int .i64 p,.int .i64 o,.int .i64 s,.int .i64 c,.bool l] 130)) w.heap.size p o s c l:=by
 show (w.heap.push _)[w.heap.size]?=_;simp
theorem Tg.lt{w:Wd}(h:Tg w b p o s c l):b<w.heap.size:=(Array.getElem?_eq_some_iff.1 (show w.heap[b]?=some _ from h)).1
theorem Tg.chg{S:Nat->Prop}{w w':Wd}(h:Tg w b p o s c l)(hc:Chg S w w')(hb:¬ S b):Tg w' b p o s c l:=(hc.block b h.lt hb).trans h
theorem Tg.alloc{w:Wd}(h:Tg w b p o s c l)(x:Obj):Tg (w.alloc x) b p o s c l:=(Below.heap_alloc _ _ _ h.lt).trans h
theorem Tg.cells{w:Wd}(h:Tg w b p o s c l):w.cell? ⟨b,0,none⟩=some (.int .i64 p)/\w.cell? ⟨b,1,none⟩=some (.int .i64 o)/\w.cell? ⟨b,2,none⟩=some (.int .i64 s)/\w.cell? ⟨b,3,none⟩=some (.int .i64 c)/\w.cell? ⟨b,4,none⟩=some (.bool l):=by
 have h':w.heap[b]?=some _:=h;refine⟨?_,?_,?_,?_,?_⟩ <;> simp[World.cell?,h']
theorem Gj:(prog.info? 130).map (·.size)=some 5:=kr
theorem Bu{ops:Array Oper}{rest:List Oper}{o:Oper}{a:Act}{w:Wd}{Q:Exit->Act->World->Prop}(hgd:o.guard=none)(x:Operand)(ho:o.op=.load 130 x)(g:Nat)(hx:a.eval x=.pointer (some ⟨g,0,none⟩)){of:Int}(hg:Tg w g p of s c l)(h:wpList prog ops Q rest (a.put o.dst (.agg #[.int .i64 p,.int .i64 of,.int .i64 s,.int .i64 c,.bool l])) w):wpList prog ops Q (o :: rest) a w:=
 wpList_load_row hgd 130 x ho g hx 130 _ _ _ hg underlying130 rfl Gj h
theorem Lp(p o s c:Int):Zn p o s c\/p<0\/(0<=p/\96<=p)\/(0<=p/\p<96/\o<0)\/(0<=p/\p<96/\0<=o/\24<o)\/(0<=p/\p<96/\0<=o/\o<=24/\s<1)\/(0<=p/\p<96/\0<=o/\o<=24/\1<=s/\1099511627775<s)\/(0<=p/\p<96/\0<=o/\o<=24/\1<=s/\s<=1099511627775/\c<0)\/(0<=p/\p<96/\0<=o/\o<=24/\1<=s/\s<=1099511627775/\0<=c/\255<c):=by
 unfold Zn;omega
theorem Rw(p o s c:Int)(l:Bool)(h:Zn p o s c) :Calls prog 277 #[.agg #[.int .i64 p,.int .i64 o,.int .i64 s,.int .i64 c,.bool l]] w fun e w'=>e=.returned (.bool true)/\Chg No w w':=by
 obtain⟨⟨h1,h2⟩,⟨h3,h4⟩,⟨h5,h6⟩,h7,h8⟩:=h;go_enter func277,ntmps277;go_wp2;go_ret;exact⟨rfl,(Chg.refl _ _).alloc _⟩
theorem gL(p o s c:Int)(l:Bool)(h:¬ Zn p o s c) :Calls prog 277 #[.agg #[.int .i64 p,.int .i64 o,.int .i64 s,.int .i64 c,.bool l]] w fun e w'=>e=.returned (.bool false)/\Chg No w w':=by
 have hc:=(Lp p o s c).resolve_left h;rcases hc with h | h | h | h | h | h | h | h
 ·go_enter func277,ntmps277;go_wp2;go_ret;exact⟨rfl,(Chg.refl _ _).alloc _⟩
 ·obtain⟨h1,h2⟩:=h;go_enter func277,ntmps277;go_wp2;go_ret;exact⟨rfl,(Chg.refl _ _).alloc _⟩
 ·obtain⟨h1,h2,h3⟩:=h;go_enter func277,ntmps277;go_wp2;go_ret;exact⟨rfl,(Chg.refl _ _).alloc _⟩
 ·obtain⟨h1,h2,h3,h4⟩:=h;go_enter func277,ntmps277;go_wp2;go_ret;exact⟨rfl,(Chg.refl _ _).alloc _⟩
 ·obtain⟨h1,h2,h3,h4,h5⟩:=h;go_enter func277,ntmps277;go_wp2;go_ret;exact⟨rfl,(Chg.refl _ _).alloc _⟩
 ·obtain⟨h1,h2,h3,h4,h5,h6⟩:=h;go_enter func277,ntmps277;go_wp2;go_ret;exact⟨rfl,(Chg.refl _ _).alloc _⟩
 ·obtain⟨h1,h2,h3,h4,h5,h6,h7⟩:=h;go_enter func277,ntmps277;go_wp2;go_ret;exact⟨rfl,(Chg.refl _ _).alloc _⟩
 ·obtain⟨h1,h2,h3,h4,h5,h6,h7,h8⟩:=h;go_enter func277,ntmps277;go_wp2;go_ret;exact⟨by rw[show decide (c<=255)=false from AN om];rfl,(Chg.refl _ _).alloc _⟩
theorem eR(h:0<=p):p.tmod 8=p % 8:=Av h
theorem Ib(p o s c:Int)(l:Bool)(h:Zn p o s c) :∃b,(b=true<->WI p o l)/\Calls prog 278 #[.agg #[.int .i64 p,.int .i64 o,.int .i64 s,.int .i64 c,.bool l]] w fun e w'=>e=.returned (.bool b)/\Chg No w w':=by
 obtain⟨⟨h1,h2⟩,-,-,-⟩:=h;by_cases ho:o=24
 ·subst ho;refine⟨!l,by cases l <;> simp[WI],?_⟩
  go_enter func278,ntmps278;go_wp2;go_ret;exact⟨rfl,(Chg.refl _ _).alloc _⟩
 ·have hm:=eR h1;by_cases h6:p % 8<6
  ·refine⟨true,by simp[WI,ho,h6],?_⟩;go_enter func278,ntmps278;go_wp2;go_ret;exact⟨rfl,(Chg.refl _ _).alloc _⟩
  ·refine⟨false,by simp[WI,ho];omega,?_⟩;go_enter func278,ntmps278;go_wp2;go_ret;exact⟨rfl,(Chg.refl _ _).alloc _⟩
theorem aa(p o s c:Int)(l:Bool)(h:Zn p o s c) :∃b,(b=true<->WI p o l)/\Calls prog 129 #[.agg #[.int .i64 p,.int .i64 o,.int .i64 s,.int .i64 c,.bool l]] w fun e w'=>e=.returned (.bool b)/\Chg No w w':=by
 obtain⟨⟨h1,h2⟩,⟨h3,h4⟩,⟨h5,h6⟩,h7,h8⟩:=h;by_cases ho:o=24
 ·subst ho;refine⟨!l,by cases l <;> simp[WI],?_⟩
  go_enter func129,ntmps129;go_wp2;go_ret;exact⟨rfl,(Chg.refl _ _).alloc _⟩
 ·have hm:=eR h1;by_cases h9:p % 8<6
  ·refine⟨true,by simp[WI,ho,h9],?_⟩;go_enter func129,ntmps129;go_wp2;go_ret;exact⟨rfl,(Chg.refl _ _).alloc _⟩
  ·refine⟨false,by simp[WI,ho];omega,?_⟩;go_enter func129,ntmps129;go_wp2;go_ret;exact⟨rfl,(Chg.refl _ _).alloc _⟩
theorem WJ(p o s c:Int)(l:Bool)(h:¬ Zn p o s c) :Calls prog 129 #[.agg #[.int .i64 p,.int .i64 o,.int .i64 s,.int .i64 c,.bool l]] w fun e w'=>e=.returned (.bool false)/\Chg No w w':=by
 have hc:=(Lp p o s c).resolve_left h;rcases hc with h | h | h | h | h | h | h | h
 ·go_enter func129,ntmps129;go_wp2;go_ret;exact⟨rfl,(Chg.refl _ _).alloc _⟩
 ·obtain⟨h1,h2⟩:=h;go_enter func129,ntmps129;go_wp2;go_ret;exact⟨rfl,(Chg.refl _ _).alloc _⟩
 ·obtain⟨h1,h2,h3⟩:=h;go_enter func129,ntmps129;go_wp2;go_ret;exact⟨rfl,(Chg.refl _ _).alloc _⟩
 ·obtain⟨h1,h2,h3,h4⟩:=h;go_enter func129,ntmps129;go_wp2;go_ret;exact⟨rfl,(Chg.refl _ _).alloc _⟩
 ·obtain⟨h1,h2,h3,h4,h5⟩:=h;go_enter func129,ntmps129;go_wp2;go_ret;exact⟨rfl,(Chg.refl _ _).alloc _⟩
 ·obtain⟨h1,h2,h3,h4,h5,h6⟩:=h;go_enter func129,ntmps129;go_wp2;go_ret;exact⟨rfl,(Chg.refl _ _).alloc _⟩
 ·obtain⟨h1,h2,h3,h4,h5,h6,h7⟩:=h;go_enter func129,ntmps129;go_wp2;go_ret;exact⟨rfl,(Chg.refl _ _).alloc _⟩
 ·obtain⟨h1,h2,h3,h4,h5,h6,h7,h8⟩:=h;go_enter func129,ntmps129;go_wp2;go_ret;exact⟨rfl,(Chg.refl _ _).alloc _⟩
theorem OB(p o s c:Int)(l:Bool):∃b,(b=true<->DY p o s c l)/\Calls prog 129 #[.agg #[.int .i64 p,.int .i64 o,.int .i64 s,.int .i64 c,.bool l]] w fun e w'=>e=.returned (.bool b)/\Chg No w w':=by
 by_cases h:Zn p o s c
 ·obtain⟨b,h1,h2⟩:=aa w p o s c l h;exact⟨b,by rw[h1];simp[DY,h],h2⟩
 ·exact⟨false,by simp[DY,h],WJ w p o s c l h⟩
theorem WK(p o s c:Int)(l:Bool)(h:DY p o s c l):Calls prog 129 #[.agg #[.int .i64 p,.int .i64 o,.int .i64 s,.int .i64 c,.bool l]] w fun e w'=>e=.returned (.bool true)/\Chg No w w':=by
 obtain⟨b,h1,h2⟩:=OB w p o s c l
 rwa [h1.2 h] at h2
theorem ac(p o s c:Int)(l:Bool)(h:¬ DY p o s c l):Calls prog 129 #[.agg #[.int .i64 p,.int .i64 o,.int .i64 s,.int .i64 c,.bool l]] w fun e w'=>e=.returned (.bool false)/\Chg No w w':=by
 obtain⟨b,h1,h2⟩:=OB w p o s c l;cases b with
 | false=>exact h2
 | true=>exact absurd (h1.1 rfl) h
theorem Lq(p o s c:Int)(l:Bool) :(DY p o s c l->Calls prog 258 #[.agg #[.int .i64 p,.int .i64 o,.int .i64 s,.int .i64 c,.bool l]] w fun e w'=>e=.returned (.nilIface)/\Chg No w w')/\(¬ DY p o s c l->Calls prog 258 #[.agg #[.int .i64 p,.int .i64 o,.int .i64 s,.int .i64 c,.bool l]] w fun e w'=>e=.returned (.iface 57 (.int .i64 1))/\Chg No w w'):=by
 have T0:=Tg.new w p o s c l;have G0:Chg No w (w.alloc (.cells #[.int .i64 p,.int .i64 o,.int .i64 s,.int .i64 c,.bool l] 130)):=(Chg.refl _ w).alloc _;by_cases h:Zn p o s c
 ·obtain⟨b,hb,hc⟩:=Ib w p o s c l h;cases b with
  | true=>
   refine⟨fun _=>?_,fun hn=>absurd ⟨h,hb.1 rfl⟩ hn⟩;have HI:=BE h;have HF:Hid (WI p o l):=BE (hb.1 rfl);go_enter func258,ntmps258;go_wp2_with fail;refine(Rw _ p o s c l HI).mono ?_;rintro e w1 ⟨rfl,G1⟩;have T1:=T0.chg G1 (fun e=>e);have it:=G0.trans G1;have HT:=BE T1;obtain⟨b,no,hc⟩:=Ib w1 p o s c l HI;obtain rfl:b=true:=no.2 HF;obtain⟨k0,k1,k2,k3,k4⟩:=HT.out.cells;go_wp2_with fail;refine hc.mono ?_;rintro e w2 ⟨rfl,G2⟩;go_wp2;go_ret;exact⟨rfl,it.trans G2⟩
  | false=>
   refine⟨fun hy=>(by simp at hb;exact absurd hy.2 hb),fun _=>?_⟩;have HI:=BE h;have HF:Hid (¬ WI p o l):=BE (fun e=>by have:=hb.2 e;cases this);go_enter func258,ntmps258;go_wp2_with fail;refine(Rw _ p o s c l HI).mono ?_;rintro e w1 ⟨rfl,G1⟩;have T1:=T0.chg G1 (fun e=>e);have it:=G0.trans G1;have HT:=BE T1;obtain⟨b,no,hc⟩:=Ib w1 p o s c l HI;obtain rfl:b=false:=by
    cases b with
    | false=>rfl
    | true=>exact absurd (no.1 rfl) HF
   obtain⟨k0,k1,k2,k3,k4⟩:=HT.out.cells;go_wp2_with fail;refine hc.mono ?_;rintro e w2 ⟨rfl,G2⟩;go_wp2;go_ret;exact⟨rfl,it.trans G2⟩
 ·refine⟨fun hy=>absurd hy.1 h,fun _=>?_⟩;have HI:=BE h;go_enter func258,ntmps258;go_wp2_with fail;refine(gL _ p o s c l HI).mono ?_;rintro e w1 ⟨rfl,G1⟩;have it:=G0.trans G1;go_wp2;go_ret;exact⟨rfl,it⟩
end
end Go.Proofs.YtmdpnpjacfedpaaGreat
namespace Go.Proofs.YtmdpnpjacfedpaaGreat
open List
open Go.Proofs.Tryz
open Go.RowKit Go.ChangeShapes Go.WideShapes
end Go.Proofs.YtmdpnpjacfedpaaGreat
namespace Go.Proofs.YtmdpnpjacfedpaaGreat
open List
open Go.Proofs.Tryz
open Go.RowKit
section
variable {w w':Wd}{b g n:Nat}{p o s c:Int}{l:Bool}
theorem EL{ops:Array Oper}{rest:List Oper}{o:Oper}{a:Act}{Q:Exit->Act->World->Prop}(hgd:o.guard=none)(s x:Operand)(ho:o.op=.call { callee:=.builtin .append,args:=#[s,x],argTypes:=#[48,48] })(g k cap c oo m cc:Nat)(hs:a.eval s=.slice (some ⟨g,0,none⟩) k cap)(hx:a.eval x=.slice (some ⟨c,oo,none⟩) m cc){cur:List Nat}(hg:Arr w g 5 cur)(src:List Nat)(hn:src.length=m)(hsrc:∀j,j<src.length->w.cell? ⟨c,oo+j,none⟩=some (.int .u8 (src.getD j 0:Nat)))(hroom:k+m<=cap)(hfit:k+m<=cur.length)(h:wpList prog ops Q rest (a.put o.dst (.slice (some ⟨g,0,none⟩) (k+m) cap)) (w.setRow g (bcells (lay cur k src)))):wpList prog ops Q (o :: rest) a w:=by
 obtain⟨i,h1,_,h3,_⟩:=EG;refine wpList_plain hgd fun K hK=>?_;have it:=run_append_room (P:=prog) w 48 o.type 5 i underlying48 h1 g k cap (bcells cur) hg ⟨c,oo,none⟩ m cc (src.map fun (n:Nat)=>Value.int .u8 (n:Int)) (by rw[h3];simpa using hn) (Ec hsrc) (GC src) hroom (by rw[h3,Be];simp;omega);rw[h3,Nat.mul_one,Aq,Jf] at it;unfold Oper.wp;simp[execOp,ho,resolve,invoke,builtin,hs,hx,it,Result.andThen];exact hK _ _ h
def Wr (w:Wd) (b g n:Nat) (p o s c:Int) (l:Bool):Prop:=
 w.heap[b]?=some (.cells #[.int .i64 p,.int .i64 o,.int .i64 s,.int .i64 c,.bool l,.slice (some ⟨g,0,none⟩) n 50] 350)
theorem Wr.lt(h:Wr w b g n p o s c l):b<w.heap.size:=(Array.getElem?_eq_some_iff.1 (show w.heap[b]?=some _ from h)).1
theorem Wr.other(h:Wr w b g n p o s c l)(e:w'.heap[b]?=w.heap[b]?):Wr w' b g n p o s c l:=e.trans h
theorem Wr.chg{S:Nat->Prop}(h:Wr w b g n p o s c l)(hc:Chg S w w')(hb:¬ S b):Wr w' b g n p o s c l:=(hc.block b h.lt hb).trans h
theorem Wr.cells(h:Wr w b g n p o s c l):w.cell? ⟨b,0,none⟩=some (.int .i64 p)/\w.cell? ⟨b,1,none⟩=some (.int .i64 o)/\w.cell? ⟨b,2,none⟩=some (.int .i64 s)/\w.cell? ⟨b,3,none⟩=some (.int .i64 c)/\w.cell? ⟨b,4,none⟩=some (.bool l)/\w.cell? ⟨b,5,none⟩=some (.slice (some ⟨g,0,none⟩) n 50)/\w.frozen? ⟨b,5,none⟩=false:=by
 have h':w.heap[b]?=some _:=h;refine⟨?_,?_,?_,?_,?_,?_,?_⟩ <;> simp[World.cell?,World.frozen?,h']
theorem Wr.store(h:Wr w b g n p o s c l)(m:Nat):Wr (w.setCell ⟨b,5,none⟩ (.slice (some ⟨g,0,none⟩) m 50)) b g m p o s c l:=by
 have h':w.heap[b]?=some _:=h;show (w.setCell ⟨b,5,none⟩ _).heap[b]?=_;simp[World.setCell,Ai,h']
theorem Eg(w:Wd)(b g n:Nat)(p o s c:Int)(l:Bool)(L:List Nat)(hW:Wr w b g n p o s c l)(hA:Arr w g 5 L)(hL:L.length=50)(hbg:b≠g)(v z:Nat)(hv:v<18446744073709551616)(hz1:1<=z)(hz8:z<=8)(hr:v<256 ^ z)(hn:n+z<=50) :Calls prog 279 #[.pointer (some ⟨b,0,none⟩),.int .u64 (v:Int),.int .i64 (z:Int)] w fun e w'=>e=.returned .nilIface/\Wr w' b g (n+z) p o s c l/\Arr w' g 5 (lay L n (bts v z))/\Chg (fun k=>k=b\/k=g) w w':=by
 have HW:=BE hW;have HA:=BE hA;have it:=N6 w v z hv hz1 hz8 hr;have HL:=BE hL;go_enter func279,ntmps279;go_wp2_with fail;refine it.mono ?_;rintro e w1 ⟨g1,rfl,ha,A1,G1⟩;have W1:=HW.out.chg G1 (fun e=>e);have B1:=HA.out.chg G1 (fun e=>e);have h6:=HA.out.lt;have hx:=HW.out.lt;obtain⟨-,-,-,-,-,k5,-⟩:=W1.cells;have no:Hid (∀j,j<(bts v z).length->w1.cell? ⟨g1,0+j,none⟩=some (.int .u8 ((bts v z).getD j 0:Nat))):=BE (fun j hj=>by
  rw[BG] at hj
  rw[AW,A1.cell j (by rw[BG];omega),DB _ _ _ hj,DB _ _ _ om])
 have kd:=BE B1;have hc:=BE W1;have W2:Wr (w1.setRow g (bcells (lay L n (bts v z)))) b g n p o s c l:=W1.other (setRow_other _ _ _ _ hbg);have A2:Arr (w1.setRow g (bcells (lay L n (bts v z)))) g 5 (lay L n (bts v z)):=B1.row _;have G2:Chg (fun k=>k=b\/k=g) w (w1.setRow g (bcells (lay L n (bts v z)))):=(G1.mono (fun _ _ f=>f.elim)).setRow (AK (AL rfl)) _;obtain⟨-,-,-,-,-,j5,f5⟩:=W2.cells;have hk:=BE W2;have ar:=BE A2;have La:=BE G2;go_wp2_with (at_builtin;refine EL rfl (.tmp 22) (.tmp 23) rfl g n 50 g1 0 z z rfl rfl kd (bts v z) (BG v z) no hn (by rw[HL.out];exact hn) ?_);go_ret;exact⟨rfl,hk.out.store _,ar.out.setOther hbg _ _,La.out.setCell (AK (AK rfl)) _ _⟩
end
section
variable (w:Wd)
theorem MX(b g n:Nat)(p:Nat)(o s c:Int)(l:Bool)(L:List Nat)(hW:Wr w b g n p o s c l)(hA:Arr w g 5 L)(hL:L.length=50)(hbg:b≠g)(hp:p<65536)(hn:n+2<=50) :Calls prog 259 #[.pointer (some ⟨b,0,none⟩)] w fun e w'=>e=.returned .nilIface/\Wr w' b g (n+2) p o s c l/\Arr w' g 5 (lay L n (bts p 2))/\Chg (fun k=>k=b\/k=g) w w':=by
 have hcall:=Eg w b g n p o s c l L hW hA hL hbg p 2 om dc dc om hn;obtain⟨k0,k1,k2,k3,k4,-,-⟩:=hW.cells;go_enter func259,ntmps259;go_wp2_with fail;refine hcall.mono ?_;rintro e w1 ⟨rfl,h1,h2,h3⟩;have H:=BE (And.intro h1 (And.intro h2 h3));go_wp2;go_ret;exact⟨rfl,H.out⟩
theorem Te(b g n:Nat)(o:Nat)(p s c:Int)(l:Bool)(L:List Nat)(hW:Wr w b g n p o s c l)(hA:Arr w g 5 L)(hL:L.length=50)(hbg:b≠g)(hp:o<256)(hn:n+1<=50) :Calls prog 260 #[.pointer (some ⟨b,0,none⟩)] w fun e w'=>e=.returned .nilIface/\Wr w' b g (n+1) p o s c l/\Arr w' g 5 (lay L n (bts o 1))/\Chg (fun k=>k=b\/k=g) w w':=by
 have hcall:=Eg w b g n p o s c l L hW hA hL hbg o 1 om dc dc om hn;obtain⟨k0,k1,k2,k3,k4,-,-⟩:=hW.cells;go_enter func260,ntmps260;go_wp2_with fail;refine hcall.mono ?_;rintro e w1 ⟨rfl,h1,h2,h3⟩;have H:=BE (And.intro h1 (And.intro h2 h3));go_wp2;go_ret;exact⟨rfl,H.out⟩
theorem QL(b g n:Nat)(s:Nat)(p o c:Int)(l:Bool)(L:List Nat)(hW:Wr w b g n p o s c l)(hA:Arr w g 5 L)(hL:L.length=50)(hbg:b≠g)(hp:s<1099511627776)(hn:n+5<=50) :Calls prog 261 #[.pointer (some ⟨b,0,none⟩)] w fun e w'=>e=.returned .nilIface/\Wr w' b g (n+5) p o s c l/\Arr w' g 5 (lay L n (bts s 5))/\Chg (fun k=>k=b\/k=g) w w':=by
 have hcall:=Eg w b g n p o s c l L hW hA hL hbg s 5 om dc dc om hn;obtain⟨k0,k1,k2,k3,k4,-,-⟩:=hW.cells;go_enter func261,ntmps261;go_wp2_with fail;refine hcall.mono ?_;rintro e w1 ⟨rfl,h1,h2,h3⟩;have H:=BE (And.intro h1 (And.intro h2 h3));go_wp2;go_ret;exact⟨rfl,H.out⟩
theorem OC(b g n:Nat)(c:Nat)(p o s:Int)(l:Bool)(L:List Nat)(hW:Wr w b g n p o s c l)(hA:Arr w g 5 L)(hL:L.length=50)(hbg:b≠g)(hp:c<256)(hn:n+1<=50) :Calls prog 262 #[.pointer (some ⟨b,0,none⟩)] w fun e w'=>e=.returned .nilIface/\Wr w' b g (n+1) p o s c l/\Arr w' g 5 (lay L n (bts c 1))/\Chg (fun k=>k=b\/k=g) w w':=by
 have hcall:=Eg w b g n p o s c l L hW hA hL hbg c 1 om dc dc om hn;obtain⟨k0,k1,k2,k3,k4,-,-⟩:=hW.cells;go_enter func262,ntmps262;go_wp2_with fail;refine hcall.mono ?_;rintro e w1 ⟨rfl,h1,h2,h3⟩;have H:=BE (And.intro h1 (And.intro h2 h3));go_wp2;go_ret;exact⟨rfl,H.out⟩
theorem OD(b g n:Nat)(p o s c:Int)(l:Bool)(L:List Nat)(hW:Wr w b g n p o s c l)(hA:Arr w g 5 L)(hL:L.length=50)(hbg:b≠g)(hn:n+1<=50) :Calls prog 263 #[.pointer (some ⟨b,0,none⟩)] w fun e w'=>e=.returned .nilIface/\Wr w' b g (n+1) p o s c l/\Arr w' g 5 (lay L n (bts l.toNat 1))/\Chg (fun k=>k=b\/k=g) w w':=by
 cases l with
 | true=>
  have hcall:=Eg w b g n p o s c true L hW hA hL hbg 1 1 om dc dc om hn;obtain⟨k0,k1,k2,k3,k4,-,-⟩:=hW.cells;go_enter func263,ntmps263;go_wp2_with fail;refine hcall.mono ?_;rintro e w1 ⟨rfl,h1,h2,h3⟩;have H:=BE (And.intro h1 (And.intro h2 h3));go_wp2;go_ret;exact⟨rfl,H.out⟩
 | false=>
  have hcall:=Eg w b g n p o s c false L hW hA hL hbg 0 1 om dc dc om hn;obtain⟨k0,k1,k2,k3,k4,-,-⟩:=hW.cells;go_enter func263,ntmps263;go_wp2_with fail;refine hcall.mono ?_;rintro e w1 ⟨rfl,h1,h2,h3⟩;have H:=BE (And.intro h1 (And.intro h2 h3));go_wp2;go_ret;exact⟨rfl,H.out⟩
end
section
variable {l:Bool}{w w':Wd}{f b:Nat}{o s c p:Int}
def pre (p o s c:Nat) (l:Bool):Nat->List Nat
 | 0=>[]
 | 1=>bts p 2
 | 2=>bts p 2 ++ bts o 1
 | 3=>bts p 2 ++ bts o 1 ++ bts s 5
 | 4=>bts p 2 ++ bts o 1 ++ bts s 5 ++ bts c 1
 | _=>bts p 2 ++ bts o 1 ++ bts s 5 ++ bts c 1 ++ bts l.toNat 1
def row (p o s c:Nat) (l:Bool) (k:Nat):List Nat:=pre p o s c l k ++ List.replicate (50 - (pre p o s c l k).length) 0
def body (p o s c:Nat) (l:Bool):List Nat:=row p o s c l 5
theorem De(p o s c:Nat)(l:Bool)(k:Nat)(hk:k<=5):(row p o s c l k).length=50:=by
 have:(pre p o s c l k).length<=50:=by
  rcases(by omega:k=0\/k=1\/k=2\/k=3\/k=4\/k=5) with rfl | rfl | rfl | rfl | rfl | rfl <;> simp[pre,BG]
 simp[row];omega
theorem BS(p o s c:Nat)(l:Bool):(body p o s c l).length=50:=De p o s c l 5 dc
theorem FV(q src:List Nat)(n k:Nat)(hn:n=q.length):lay (q ++ List.replicate (src.length+k) 0) n src=(q ++ src) ++ List.replicate k 0:=by
 subst hn;simp[lay,drop_append,Aq]
theorem Tf(p o s c:Nat)(l:Bool):lay (row p o s c l 0) 0 (bts p 2)=row p o s c l 1:=by
 have:=FV [] (bts p 2) 0 48 rfl;simp only[BG] at this;simpa[row,pre,BG] using this
theorem Th(p o s c:Nat)(l:Bool):lay (row p o s c l 1) 2 (bts o 1)=row p o s c l 2:=by
 have:=FV (bts p 2) (bts o 1) 2 47 (by simp[BG]);simp only[BG] at this;simpa[row,pre,BG] using this
theorem Ti(p o s c:Nat)(l:Bool):lay (row p o s c l 2) 3 (bts s 5)=row p o s c l 3:=by
 have:=FV (bts p 2 ++ bts o 1) (bts s 5) 3 42 (by simp[BG]);simp only[BG] at this;simpa[row,pre,BG] using this
theorem Tj(p o s c:Nat)(l:Bool):lay (row p o s c l 3) 8 (bts c 1)=row p o s c l 4:=by
 have:=FV (bts p 2 ++ bts o 1 ++ bts s 5) (bts c 1) 8 41 (by simp[BG]);simp only[BG] at this;simpa[row,pre,BG] using this
theorem Tk(p o s c:Nat)(l:Bool):lay (row p o s c l 4) 9 (bts l.toNat 1)=row p o s c l 5:=by
 have:=FV (bts p 2 ++ bts o 1 ++ bts s 5 ++ bts c 1) (bts l.toNat 1) 9 40 (by simp[BG]);simp only[BG] at this;simpa[row,pre,BG] using this
def Hl:List Nat:=List.replicate 50 0
theorem QM(w:Wd):(Instr.makeSlice 48 (.int .i64 0) (.int .i64 50)).run prog w=.ok (.slice (some ⟨w.heap.size,0,none⟩) 0 50) (w.alloc (.cells (bcells Hl) 5)):=by
 obtain⟨i,h1,h2,h3,h4⟩:=EG;have h:=run_make (P:=prog) w 48 5 i (.int .u8 0) underlying48 h1 h2 .i64 .i64 0 50 om om (by rw[h4];omega) om;rw[h,h3,Ex];rfl
theorem ae(p o s c:Int)(l:Bool)(g:Nat)(w:Wd):(Instr.build 350 #[(0,.agg #[.int .i64 p,.int .i64 o,.int .i64 s,.int .i64 c,.bool l]),(1,.slice (some ⟨g,0,none⟩) 0 50)]).run prog w=.ok (.agg #[.int .i64 p,.int .i64 o,.int .i64 s,.int .i64 c,.bool l,.slice (some ⟨g,0,none⟩) 0 50]) w:=kr
theorem Lr(w:Wd)(p o s c:Int)(l:Bool)(h:¬ DY p o s c l) :Calls prog 244 #[.agg #[.int .i64 p,.int .i64 o,.int .i64 s,.int .i64 c,.bool l]] w fun e w'=>e=.returned (.tuple #[.slice none 0 0,.iface 57 (.int .i64 1)])/\Chg No w w':=by
 have it:=fun w=>(Lq w p o s c l).2 h;have G0:Chg No w (w.alloc (.cells #[.int .i64 p,.int .i64 o,.int .i64 s,.int .i64 c,.bool l] 130)):=(Chg.refl _ w).alloc _;have q1:=E4;go_enter func244,ntmps244;go_wp2_with fail;refine(it _).mono ?_;rintro e w1 ⟨rfl,G1⟩;have no:=G0.trans G1;go_wp2;go_ret2;exact⟨rfl,no⟩
def eS (w:Wd) (f b:Nat):Prop:=w.heap[f]?=some (.cells #[.func (.func 259) #[.pointer (some ⟨b,0,none⟩)] #[],.func (.func 260) #[.pointer (some ⟨b,0,none⟩)] #[],.func (.func 261) #[.pointer (some ⟨b,0,none⟩)] #[],.func (.func 262) #[.pointer (some ⟨b,0,none⟩)] #[],.func (.func 263) #[.pointer (some ⟨b,0,none⟩)] #[]] 81)
theorem eS.lt(h:eS w f b):f<w.heap.size:=(Array.getElem?_eq_some_iff.1 (show w.heap[f]?=some _ from h)).1
theorem eS.chg{S:Nat->Prop}(h:eS w f b)(hc:Chg S w w')(hf:¬ S f):eS w' f b:=(hc.block f h.lt hf).trans h
theorem eS.cells(h:eS w f b):w.cell? ⟨f,0,none⟩=some (.func (.func 259) #[.pointer (some ⟨b,0,none⟩)] #[])/\w.cell? ⟨f,1,none⟩=some (.func (.func 260) #[.pointer (some ⟨b,0,none⟩)] #[])/\w.cell? ⟨f,2,none⟩=some (.func (.func 261) #[.pointer (some ⟨b,0,none⟩)] #[])/\w.cell? ⟨f,3,none⟩=some (.func (.func 262) #[.pointer (some ⟨b,0,none⟩)] #[])/\w.cell? ⟨f,4,none⟩=some (.func (.func 263) #[.pointer (some ⟨b,0,none⟩)] #[]):=by
 have h':w.heap[f]?=some _:=h;refine⟨?_,?_,?_,?_,?_⟩ <;> simp[World.cell?,h']
def Py (w wr:Wd) (g k p o s c:Nat) (l:Bool):Prop:=
 Wr wr (g+1) g (pre p o s c l k).length p o s c l/\Arr wr g 5 (row p o s c l k)/\eS wr (g+2) (g+1)/\Chg No w wr
theorem Py.next{wr:Wd}{g k p o s c m:Nat}(h:Py w wr g k p o s c l)(hg:w.heap.size<=g)(hm:m=(pre p o s c l (k+1)).length)(h1:Wr w' (g+1) g m p o s c l)(h2:Arr w' g 5 (row p o s c l (k+1)))(h3:Chg (fun k=>k=g+1\/k=g) wr w'):Py w w' g (k+1) p o s c l:=
 ⟨by rw[<-hm];exact h1,h2,h.2.2.1.chg h3 om,h.2.2.2.trans' h3 (fun i hi ht=>om)⟩
theorem DY.pl{p:Nat}(h:DY p o s c l):p<65536:=by
 have:=h.1.1;omega
theorem DY.ol{o:Nat}(h:DY p o s c l):o<256:=by
 have:=h.1.2.1;omega
theorem DY.sl{s:Nat}(h:DY p o s c l):s<1099511627776:=by
 have:=h.1.2.2.1;omega
theorem DY.cl{c:Nat}(h:DY p o s c l):c<256:=by
 have:=h.1.2.2.2;omega
theorem mO(p o s c:Nat)(l:Bool):row p o s c l 0=Hl:=by simp[row,pre,Hl]
theorem E5(w:Wd)(p o s c:Nat)(l:Bool)(h:DY p o s c l) :Calls prog 244 #[.agg #[.int .i64 p,.int .i64 o,.int .i64 s,.int .i64 c,.bool l]] w fun e w'=>∃g,e=.returned (.tuple #[.slice (some ⟨g,0,none⟩) 50 50,.nilIface])/\w.heap.size<=g/\Arr w' g 5 (body p o s c l)/\Chg No w w':=by
 have it:=fun w=>(Lq w p o s c l).1 h;have T0:=Tg.new w p o s c l;have G0:Chg No w (w.alloc (.cells #[.int .i64 p,.int .i64 o,.int .i64 s,.int .i64 c,.bool l] 130)):=(Chg.refl _ w).alloc _;have q1:=DU;have hv:=QM;have hb:=ae;have HM:=BE h;go_enter func244,ntmps244;go_wp2_with fail;refine(it _).mono ?_;rintro e w1 ⟨rfl,G1⟩;have no:=G0.trans G1;have HT:=BE (T0.chg G1 (fun e=>e));obtain⟨k0,k1,k2,k3,k4⟩:=HT.out.cells;obtain⟨j0,j1,j2,j3,j4⟩:=(HT.out.alloc (.cells (bcells Hl) 5)).cells;go_wp2_with fail;go_region;go_wp2_with fail;have hg:=no.size;generalize hG:w1.heap.size=g at *
 have S0:Py w (((w1.alloc (.cells (bcells Hl) 5)).alloc (.cells #[.int .i64 p,.int .i64 o,.int .i64 s,.int .i64 c,.bool l,.slice (some ⟨g,0,none⟩) 0 50] 350)).drew.alloc (.cells #[.func (.func 259) #[.pointer (some ⟨g+1,0,none⟩)] #[],.func (.func 260) #[.pointer (some ⟨g+1,0,none⟩)] #[],.func (.func 261) #[.pointer (some ⟨g+1,0,none⟩)] #[],.func (.func 262) #[.pointer (some ⟨g+1,0,none⟩)] #[],.func (.func 263) #[.pointer (some ⟨g+1,0,none⟩)] #[]] 81)) g 0 p o s c l:=by
  subst hG;have W1:Wr ((w1.alloc (.cells (bcells Hl) 5)).alloc (.cells #[.int .i64 p,.int .i64 o,.int .i64 s,.int .i64 c,.bool l,.slice (some ⟨w1.heap.size,0,none⟩) 0 50] 350)) (w1.heap.size+1) w1.heap.size 0 p o s c l:=by
   have:=heap_alloc_new (w1.alloc (.cells (bcells Hl) 5)) (.cells #[.int .i64 p,.int .i64 o,.int .i64 s,.int .i64 c,.bool l,.slice (some ⟨w1.heap.size,0,none⟩) 0 50] 350);simpa[Wr] using this
  have A1:Arr ((w1.alloc (.cells (bcells Hl) 5)).alloc (.cells #[.int .i64 p,.int .i64 o,.int .i64 s,.int .i64 c,.bool l,.slice (some ⟨w1.heap.size,0,none⟩) 0 50] 350)) w1.heap.size 5 Hl:=(Arr.new w1 5 Hl).alloc _;have ar:((w1.alloc (.cells (bcells Hl) 5)).alloc (.cells #[.int .i64 p,.int .i64 o,.int .i64 s,.int .i64 c,.bool l,.slice (some ⟨w1.heap.size,0,none⟩) 0 50] 350)).drew.heap.size=w1.heap.size+2:=by simp
  refine⟨Wr.other (w:=(w1.alloc (.cells (bcells Hl) 5)).alloc (.cells #[.int .i64 p,.int .i64 o,.int .i64 s,.int .i64 c,.bool l,.slice (some ⟨w1.heap.size,0,none⟩) 0 50] 350)) W1 (Below.heap_alloc _ _ _ W1.lt),?_,?_,?_⟩
  ·rw[mO];exact Arr.alloc (w:=((w1.alloc (.cells (bcells Hl) 5)).alloc (.cells #[.int .i64 p,.int .i64 o,.int .i64 s,.int .i64 c,.bool l,.slice (some ⟨w1.heap.size,0,none⟩) 0 50] 350)).drew) A1 _
  ·have:=heap_alloc_new ((w1.alloc (.cells (bcells Hl) 5)).alloc (.cells #[.int .i64 p,.int .i64 o,.int .i64 s,.int .i64 c,.bool l,.slice (some ⟨w1.heap.size,0,none⟩) 0 50] 350)).drew (.cells #[.func (.func 259) #[.pointer (some ⟨w1.heap.size+1,0,none⟩)] #[],.func (.func 260) #[.pointer (some ⟨w1.heap.size+1,0,none⟩)] #[],.func (.func 261) #[.pointer (some ⟨w1.heap.size+1,0,none⟩)] #[],.func (.func 262) #[.pointer (some ⟨w1.heap.size+1,0,none⟩)] #[],.func (.func 263) #[.pointer (some ⟨w1.heap.size+1,0,none⟩)] #[]] 81);rw[ar] at this;exact this
  ·exact(((no.alloc _).alloc _).drew).alloc _
 go_loopw [30] (fun t wr=>∃k:Nat,k<=5/\t=.int .i64 k/\Py w wr g k p o s c l) (fun t _=>5 - (intOf t).toNat)
 case atStart=>exact⟨0,dc,rfl,S0⟩
 case round=>
  obtain⟨k,hk,rfl,hS⟩:=hrel;obtain⟨a1,a2,a3,a4⟩:=hS;obtain⟨f0,f1,f2,f3,f4⟩:=a3.cells;rcases(by omega:k=0\/k=1\/k=2\/k=3\/k=4\/k=5) with rfl | rfl | rfl | rfl | rfl | rfl
  ·have it:=MX wr (g+1) g 0 p o s c l (row p o s c l 0) (by simpa[pre,BG] using a1) a2 (De p o s c l 0 dc) om HM.out.pl dc;have HS:=BE (show Py w wr g 0 p o s c l from ⟨a1,a2,a3,a4⟩);go_wp2_with fail;refine it.mono ?_;rintro e w2 ⟨rfl,b1,b2,b3⟩;rw[Tf] at b2;have HN:Hid (Py w w2 g 1 p o s c l):=BE (HS.out.next hg (by simp[pre,BG]) b1 b2 b3);go_wp2;exact⟨⟨1,dc,rfl,HN⟩,by simp[intOf]⟩
  ·have it:=Te wr (g+1) g 2 o p s c l (row p o s c l 1) (by simpa[pre,BG] using a1) a2 (De p o s c l 1 dc) om HM.out.ol dc;have HS:=BE (show Py w wr g 1 p o s c l from ⟨a1,a2,a3,a4⟩);go_wp2_with fail;refine it.mono ?_;rintro e w2 ⟨rfl,b1,b2,b3⟩;rw[Th] at b2;have HN:Hid (Py w w2 g 2 p o s c l):=BE (HS.out.next hg (by simp[pre,BG]) b1 b2 b3);go_wp2;exact⟨⟨2,dc,rfl,HN⟩,by simp[intOf]⟩
  ·have it:=QL wr (g+1) g 3 s p o c l (row p o s c l 2) (by simpa[pre,BG] using a1) a2 (De p o s c l 2 dc) om HM.out.sl dc;have HS:=BE (show Py w wr g 2 p o s c l from ⟨a1,a2,a3,a4⟩);go_wp2_with fail;refine it.mono ?_;rintro e w2 ⟨rfl,b1,b2,b3⟩;rw[Ti] at b2;have HN:Hid (Py w w2 g 3 p o s c l):=BE (HS.out.next hg (by simp[pre,BG]) b1 b2 b3);go_wp2;exact⟨⟨3,dc,rfl,HN⟩,by simp[intOf]⟩
  ·have it:=OC wr (g+1) g 8 c p o s l (row p o s c l 3) (by simpa[pre,BG] using a1) a2 (De p o s c l 3 dc) om HM.out.cl dc;have HS:=BE (show Py w wr g 3 p o s c l from ⟨a1,a2,a3,a4⟩);go_wp2_with fail;refine it.mono ?_;rintro e w2 ⟨rfl,b1,b2,b3⟩;rw[Tj] at b2;have HN:Hid (Py w w2 g 4 p o s c l):=BE (HS.out.next hg (by simp[pre,BG]) b1 b2 b3);go_wp2;exact⟨⟨4,dc,rfl,HN⟩,by simp[intOf]⟩
  ·have it:=OD wr (g+1) g 9 p o s c l (row p o s c l 4) (by simpa[pre,BG] using a1) a2 (De p o s c l 4 dc) om dc;have HS:=BE (show Py w wr g 4 p o s c l from ⟨a1,a2,a3,a4⟩);go_wp2_with fail;refine it.mono ?_;rintro e w2 ⟨rfl,b1,b2,b3⟩;rw[Tk] at b2;have HN:Hid (Py w w2 g 5 p o s c l):=BE (HS.out.next hg (by simp[pre,BG]) b1 b2 b3);go_wp2;exact⟨⟨5,dc,rfl,HN⟩,by simp[intOf]⟩
  ·have HS:=BE (show Py w wr g 5 p o s c l from ⟨a1,a2,a3,a4⟩);have La:(pre p o s c l 5).length=10:=(by simp[pre,BG]);rw[La] at a1;obtain⟨-,-,-,-,-,k5,-⟩:=a1.cells;go_wp2;go_ret2;exact⟨g,rfl,om,HS.out.2.1,HS.out.2.2.2⟩
end
section
variable {w w':Wd}{b n0 n1 n2 n3 n4 a n o:Nat}{l:List Nat}{p s c:Int}{S:Nat->Prop}
theorem OE(w:Wd)(a:Option Addr)(n cap:Nat)(l:List Nat)(hn:n=l.length)(hl:Bys l)(h1:1<=l.length)(h8:l.length<=8)(hr:Ca w (.slice a n cap) l) :Calls prog 257 #[.slice a n cap] w fun e w'=>e=.returned (.tuple #[.int .u64 (le l:Nat),.nilIface])/\Chg No w w':=by
 subst hn;exact aX w a cap l hl h1 h8 hr
def FJ (l:List Nat) (a n:Nat):List Nat:=(l.drop a).take n
theorem BJ(h:a+n<=l.length):(FJ l a n).length=n:=by simp[FJ];omega
theorem KK{i:Nat}(h:i<n):(FJ l a n).getD i 0=l.getD (a+i) 0:=by
 simp[FJ,AQ,List.getElem?_take_of_lt h]
theorem Cs(h:Bys l)(a n:Nat):Bys (FJ l a n):=Hg (Ee h a) n
def fld (l:List Nat) (a n:Nat):Nat:=le (FJ l a n)
theorem DV(h:Bys l)(hn:a+n<=l.length):fld l a n<256 ^ n:=by
 have:=N5 (Cs h a n)
 rwa [BJ hn] at this
def At (w:Wd) (c o:Nat) (l:List Nat):Prop:=c<w.heap.size/\∀i,i<l.length->w.cell? ⟨c,o+i,none⟩=some (.int .u8 (l.getD i 0:Nat))
theorem At.chg{c:Nat}(h:At w c o l)(hc:Chg S w w')(hS:¬ S c):At w' c o l:=
 ⟨Aj h.1 hc.size,fun i hi=>(hc.cell h.1 hS _).trans (h.2 i hi)⟩
theorem At.held{c:Nat}(h:At w c o l)(a n cap:Nat)(hn:a+n<=l.length):Ca w (.slice (some ⟨c,o+a,none⟩) n cap) (FJ l a n):=
 ⟨_,cap,by rw[BJ hn],AL ⟨c,o+a,rfl,h.1,fun i hi=>by
  rw[BJ hn] at hi
  rw[KK hi,Nat.add_assoc]
  exact h.2 (a+i) om⟩⟩
def Cn (w:Wd) (b n0 n1 n2 n3 n4:Nat):Prop:=w.heap[b]?=some (.cells #[.int .u64 (n0:Nat),.int .u64 (n1:Nat),.int .u64 (n2:Nat),.int .u64 (n3:Nat),.int .u64 (n4:Nat)] 357)
theorem Cn.lt(h:Cn w b n0 n1 n2 n3 n4):b<w.heap.size:=(Array.getElem?_eq_some_iff.1 (show w.heap[b]?=some _ from h)).1
theorem Cn.chg(h:Cn w b n0 n1 n2 n3 n4)(hc:Chg S w w')(hb:¬ S b):Cn w' b n0 n1 n2 n3 n4:=(hc.block b h.lt hb).trans h
theorem Cn.cells(h:Cn w b n0 n1 n2 n3 n4):(w.cell? ⟨b,0,none⟩=some (.int .u64 (n0:Nat))/\w.cell? ⟨b,1,none⟩=some (.int .u64 (n1:Nat))/\w.cell? ⟨b,2,none⟩=some (.int .u64 (n2:Nat))/\w.cell? ⟨b,3,none⟩=some (.int .u64 (n3:Nat))/\w.cell? ⟨b,4,none⟩=some (.int .u64 (n4:Nat)))/\∀i,w.frozen? ⟨b,i,none⟩=false:=by
 have h':w.heap[b]?=some _:=h;refine⟨⟨?_,?_,?_,?_,?_⟩,fun i=>?_⟩ <;> simp[World.cell?,World.frozen?,h']
theorem Cn.set0(h:Cn w b n0 n1 n2 n3 n4)(x:Nat):Cn (w.setCell ⟨b,0,none⟩ (.int .u64 (x:Nat))) b x n1 n2 n3 n4:=by
 have h':w.heap[b]?=some _:=h;show (w.setCell ⟨b,0,none⟩ _).heap[b]?=_;simp[World.setCell,Ai,h']
theorem Cn.set1(h:Cn w b n0 n1 n2 n3 n4)(x:Nat):Cn (w.setCell ⟨b,1,none⟩ (.int .u64 (x:Nat))) b n0 x n2 n3 n4:=by
 have h':w.heap[b]?=some _:=h;show (w.setCell ⟨b,1,none⟩ _).heap[b]?=_;simp[World.setCell,Ai,h']
theorem Cn.set2(h:Cn w b n0 n1 n2 n3 n4)(x:Nat):Cn (w.setCell ⟨b,2,none⟩ (.int .u64 (x:Nat))) b n0 n1 x n3 n4:=by
 have h':w.heap[b]?=some _:=h;show (w.setCell ⟨b,2,none⟩ _).heap[b]?=_;simp[World.setCell,Ai,h']
theorem Cn.set3(h:Cn w b n0 n1 n2 n3 n4)(x:Nat):Cn (w.setCell ⟨b,3,none⟩ (.int .u64 (x:Nat))) b n0 n1 n2 x n4:=by
 have h':w.heap[b]?=some _:=h;show (w.setCell ⟨b,3,none⟩ _).heap[b]?=_;simp[World.setCell,Ai,h']
theorem Cn.set4(h:Cn w b n0 n1 n2 n3 n4)(x:Nat):Cn (w.setCell ⟨b,4,none⟩ (.int .u64 (x:Nat))) b n0 n1 n2 n3 x:=by
 have h':w.heap[b]?=some _:=h;show (w.setCell ⟨b,4,none⟩ _).heap[b]?=_;simp[World.setCell,Ai,h']
def OF (l:List Nat) (k i a n:Nat):Nat:=if i<k then fld l a n else 0
def froms:Nat->Nat
 | 0=>0
 | 1=>2
 | 2=>3
 | 3=>8
 | 4=>9
 | _=>10
theorem BO{ops:Array Oper}{rest:List Oper}{o:Oper}{a:Act}{Q:Exit->Act->World->Prop}(hgd:o.guard=none)(x y:Operand)(ho:o.op=.store 130 x y)(g:Nat)(hx:a.eval x=.pointer (some ⟨g,0,none⟩)){of:Int}{l:Bool}(hy:a.eval y=.agg #[.int .i64 p,.int .i64 of,.int .i64 s,.int .i64 c,.bool l]){p' o' s' c':Int}{l':Bool}(hg:Tg w g p' o' s' c' l')(h:∀w',Tg w' g p of s c l->Chg (·=g) w w'->wpList prog ops Q rest (a.put o.dst undef) w'):wpList prog ops Q (o :: rest) a w:=
 wpList_store_row hgd 130 x y ho g _ hx hy 130 _ hg Gj rfl (by simp[Value.oneCell']) (h _ (setRow_heap w g _ _ 130 _ hg) ⟨rfl,rfl,rfl,by simp,fun k _ hk=>setRow_other _ _ _ _ hk⟩)
theorem Bf{fn:Func}{q u:Tmp}(h:fn.results=#[.cell q 130,.tmp u])(tmps:Array Value){g:Nat}{o:Int}{l:Bool}(hp:tmps.getD q undef=.pointer (some ⟨g,0,none⟩))(hT:Tg w g p o s c l) :(results fn tmps).run prog w=.ok (.tuple #[.agg #[.int .i64 p,.int .i64 o,.int .i64 s,.int .i64 c,.bool l],tmps.getD u undef]) w:=by
 rw[results_cell_tmp h,hp];simp[asAddr,run_loadVar_row w g 130 130 _ _ _ hT underlying130 rfl Gj]
theorem mP(w:Wd):(Instr.index 358 (.agg #[.int .i64 2,.int .i64 1,.int .i64 5,.int .i64 1,.int .i64 1]) (.int .i64 0)).run prog w=.ok (.int .i64 2) w:=kr
theorem mQ(w:Wd):(Instr.index 358 (.agg #[.int .i64 2,.int .i64 1,.int .i64 5,.int .i64 1,.int .i64 1]) (.int .i64 1)).run prog w=.ok (.int .i64 1) w:=kr
theorem mS(w:Wd):(Instr.index 358 (.agg #[.int .i64 2,.int .i64 1,.int .i64 5,.int .i64 1,.int .i64 1]) (.int .i64 2)).run prog w=.ok (.int .i64 5) w:=kr
theorem mT(w:Wd):(Instr.index 358 (.agg #[.int .i64 2,.int .i64 1,.int .i64 5,.int .i64 1,.int .i64 1]) (.int .i64 3)).run prog w=.ok (.int .i64 1) w:=kr
theorem mU(w:Wd):(Instr.index 358 (.agg #[.int .i64 2,.int .i64 1,.int .i64 5,.int .i64 1,.int .i64 1]) (.int .i64 4)).run prog w=.ok (.int .i64 1) w:=kr
theorem Tg.setOther{o:Int}{l:Bool}(h:Tg w b p o s c l){k:Nat}(hg:k≠b)(i:Nat)(v:Value):Tg (w.setCell ⟨k,i,none⟩ v) b p o s c l:=
 (Below.heap_setCell _ _ _ _ (by simp;omega)).trans h
def nN (w wr:Wd) (l:List Nat) (k:Nat):Prop:=
 Cn wr (w.heap.size+1) (OF l k 0 0 2) (OF l k 1 2 1) (OF l k 2 3 5) (OF l k 3 8 1) (OF l k 4 9 1)/\Tg wr w.heap.size 0 0 0 0 false/\Chg No w wr
theorem QN(w:Wd)(c o cap:Nat)(l:List Nat)(hl:Bys l)(hL:l.length=50)(hcap:50<=cap)(hA:At w c o l) :Calls prog 254 #[.slice (some ⟨c,o,none⟩) 50 cap] w fun e w'=>e=.returned (.tuple #[.agg #[.int .i64 (fld l 0 2:Nat),.int .i64 (fld l 2 1:Nat),.int .i64 (fld l 3 5:Nat),.int .i64 (fld l 8 1:Nat),.bool (((fld l 9 1:Nat):Int) == 1)],.nilIface])/\Chg No w w':=by
 have HA:=BE hA;have HL:=BE hL;have x0:=DV hl (a:=0) (n:=2) om;have x1:=DV hl (a:=2) (n:=1) om;have x2:=DV hl (a:=3) (n:=5) om;have x3:=DV hl (a:=8) (n:=1) om;have x4:=DV hl (a:=9) (n:=1) om;simp only[Nat.reducePow] at x0 x1 x2 x3 x4;have q1:=DU;have ha:c<w.heap.size:=HA.out.1;go_enter func254,ntmps254;go_wp2_with fail;have S0:nN w ((w.alloc (.cells #[.int .i64 0,.int .i64 0,.int .i64 0,.int .i64 0,.bool false] 130)).alloc (.cells #[.int .u64 0,.int .u64 0,.int .u64 0,.int .u64 0,.int .u64 0] 357)) l 0:=by
  refine⟨?_,(Tg.new w 0 0 0 0 false).alloc _,((Chg.refl _ w).alloc _).alloc _⟩;have:=heap_alloc_new (w.alloc (.cells #[.int .i64 0,.int .i64 0,.int .i64 0,.int .i64 0,.bool false] 130)) (.cells #[.int .u64 0,.int .u64 0,.int .u64 0,.int .u64 0,.int .u64 0] 357);simpa[Cn,OF] using this
 go_loopw [5,11] (fun f t wr=>∃k:Nat,k<=5/\t=.int .i64 k/\f=.int .i64 (froms k:Nat)/\nN w wr l k) (fun _ t _=>5 - (intOf t).toNat)
 case atStart=>exact⟨0,dc,rfl,rfl,S0⟩
 case round=>
  obtain⟨k,hk,rfl,rfl,a1,a2,a3⟩:=hrel;have hv:=HA.out.chg a3 (fun e=>e);rcases(by omega:k=0\/k=1\/k=2\/k=3\/k=4\/k=5) with rfl | rfl | rfl | rfl | rfl | rfl
  ·have hc:¬ cap=0:=om;have hi:=mP;rw[show froms 0=0 from rfl];have kd:((2:Nat):Int)<=(cap:Int):=om;have it:=OE wr (some ⟨c,o,none⟩) 2 cap (FJ l 0 2) (by rw[BJ (by rw[HL.out];decide)]) (Cs hl 0 2) (by rw[BJ (by rw[HL.out];decide)];decide) (by rw[BJ (by rw[HL.out];decide)];decide) (hv.held 0 2 cap (by rw[HL.out];decide));have HN:Hid (Cn wr (w.heap.size+1) 0 0 0 0 0):=BE (by simpa[OF] using a1);have HT:=BE a2;have HG:=BE a3;go_wp2_with fail;refine it.mono ?_;rintro e w2 ⟨rfl,G2⟩;have N2:=HN.out.chg G2 (fun e=>e);obtain⟨⟨k0,k1,k2,k3,k4⟩,kf⟩:=N2.cells;have ar:Hid (Cn (w2.setCell ⟨w.heap.size+1,0,none⟩ (.int .u64 (fld l 0 2:Nat))) (w.heap.size+1) (fld l 0 2) 0 0 0 0):=BE (N2.set0 _);have no:Hid (Tg (w2.setCell ⟨w.heap.size+1,0,none⟩ (.int .u64 (fld l 0 2:Nat))) w.heap.size 0 0 0 0 false):=BE ((HT.out.chg G2 (fun e=>e)).setOther om _ _);have La:Hid (Chg No w (w2.setCell ⟨w.heap.size+1,0,none⟩ (.int .u64 (fld l 0 2:Nat)))):=BE ((HG.out.trans G2).setCell (AL om) _ _);have hf:=kf 0;rw[show le (FJ l 0 2)=fld l 0 2 from rfl];go_wp2;exact⟨⟨1,dc,rfl,rfl,by simpa[OF] using ar.out,no.out,La⟩,by simp[intOf]⟩
  ·have hc:¬ cap=2:=om;have hi:=mQ;rw[show froms 1=2 from rfl];have kd:((3:Nat):Int)<=(cap:Int):=om;have it:=OE wr (some ⟨c,o+2,none⟩) 1 (cap - 2) (FJ l 2 1) (by rw[BJ (by rw[HL.out];decide)]) (Cs hl 2 1) (by rw[BJ (by rw[HL.out];decide)];decide) (by rw[BJ (by rw[HL.out];decide)];decide) (hv.held 2 1 (cap - 2) (by rw[HL.out];decide));have HN:Hid (Cn wr (w.heap.size+1) (fld l 0 2) 0 0 0 0):=BE (by simpa[OF] using a1);have HT:=BE a2;have HG:=BE a3;go_wp2_with fail;refine it.mono ?_;rintro e w2 ⟨rfl,G2⟩;have N2:=HN.out.chg G2 (fun e=>e);obtain⟨⟨k0,k1,k2,k3,k4⟩,kf⟩:=N2.cells;have ar:Hid (Cn (w2.setCell ⟨w.heap.size+1,1,none⟩ (.int .u64 (fld l 2 1:Nat))) (w.heap.size+1) (fld l 0 2) (fld l 2 1) 0 0 0):=BE (N2.set1 _);have no:Hid (Tg (w2.setCell ⟨w.heap.size+1,1,none⟩ (.int .u64 (fld l 2 1:Nat))) w.heap.size 0 0 0 0 false):=BE ((HT.out.chg G2 (fun e=>e)).setOther om _ _);have La:Hid (Chg No w (w2.setCell ⟨w.heap.size+1,1,none⟩ (.int .u64 (fld l 2 1:Nat)))):=BE ((HG.out.trans G2).setCell (AL om) _ _);have hf:=kf 1;rw[show le (FJ l 2 1)=fld l 2 1 from rfl];go_wp2;exact⟨⟨2,dc,rfl,rfl,by simpa[OF] using ar.out,no.out,La⟩,by simp[intOf]⟩
  ·have hc:¬ cap=3:=om;have hi:=mS;rw[show froms 2=3 from rfl];have kd:((8:Nat):Int)<=(cap:Int):=om;have it:=OE wr (some ⟨c,o+3,none⟩) 5 (cap - 3) (FJ l 3 5) (by rw[BJ (by rw[HL.out];decide)]) (Cs hl 3 5) (by rw[BJ (by rw[HL.out];decide)];decide) (by rw[BJ (by rw[HL.out];decide)];decide) (hv.held 3 5 (cap - 3) (by rw[HL.out];decide));have HN:Hid (Cn wr (w.heap.size+1) (fld l 0 2) (fld l 2 1) 0 0 0):=BE (by simpa[OF] using a1);have HT:=BE a2;have HG:=BE a3;go_wp2_with fail;refine it.mono ?_;rintro e w2 ⟨rfl,G2⟩;have N2:=HN.out.chg G2 (fun e=>e);obtain⟨⟨k0,k1,k2,k3,k4⟩,kf⟩:=N2.cells;have ar:Hid (Cn (w2.setCell ⟨w.heap.size+1,2,none⟩ (.int .u64 (fld l 3 5:Nat))) (w.heap.size+1) (fld l 0 2) (fld l 2 1) (fld l 3 5) 0 0):=BE (N2.set2 _);have no:Hid (Tg (w2.setCell ⟨w.heap.size+1,2,none⟩ (.int .u64 (fld l 3 5:Nat))) w.heap.size 0 0 0 0 false):=BE ((HT.out.chg G2 (fun e=>e)).setOther om _ _);have La:Hid (Chg No w (w2.setCell ⟨w.heap.size+1,2,none⟩ (.int .u64 (fld l 3 5:Nat)))):=BE ((HG.out.trans G2).setCell (AL om) _ _);have hf:=kf 2;rw[show le (FJ l 3 5)=fld l 3 5 from rfl];go_wp2;exact⟨⟨3,dc,rfl,rfl,by simpa[OF] using ar.out,no.out,La⟩,by simp[intOf]⟩
  ·have hc:¬ cap=8:=om;have hi:=mT;rw[show froms 3=8 from rfl];have kd:((9:Nat):Int)<=(cap:Int):=om;have it:=OE wr (some ⟨c,o+8,none⟩) 1 (cap - 8) (FJ l 8 1) (by rw[BJ (by rw[HL.out];decide)]) (Cs hl 8 1) (by rw[BJ (by rw[HL.out];decide)];decide) (by rw[BJ (by rw[HL.out];decide)];decide) (hv.held 8 1 (cap - 8) (by rw[HL.out];decide));have HN:Hid (Cn wr (w.heap.size+1) (fld l 0 2) (fld l 2 1) (fld l 3 5) 0 0):=BE (by simpa[OF] using a1);have HT:=BE a2;have HG:=BE a3;go_wp2_with fail;refine it.mono ?_;rintro e w2 ⟨rfl,G2⟩;have N2:=HN.out.chg G2 (fun e=>e);obtain⟨⟨k0,k1,k2,k3,k4⟩,kf⟩:=N2.cells;have ar:Hid (Cn (w2.setCell ⟨w.heap.size+1,3,none⟩ (.int .u64 (fld l 8 1:Nat))) (w.heap.size+1) (fld l 0 2) (fld l 2 1) (fld l 3 5) (fld l 8 1) 0):=BE (N2.set3 _);have no:Hid (Tg (w2.setCell ⟨w.heap.size+1,3,none⟩ (.int .u64 (fld l 8 1:Nat))) w.heap.size 0 0 0 0 false):=BE ((HT.out.chg G2 (fun e=>e)).setOther om _ _);have La:Hid (Chg No w (w2.setCell ⟨w.heap.size+1,3,none⟩ (.int .u64 (fld l 8 1:Nat)))):=BE ((HG.out.trans G2).setCell (AL om) _ _);have hf:=kf 3;rw[show le (FJ l 8 1)=fld l 8 1 from rfl];go_wp2;exact⟨⟨4,dc,rfl,rfl,by simpa[OF] using ar.out,no.out,La⟩,by simp[intOf]⟩
  ·have hc:¬ cap=9:=om;have hi:=mU;rw[show froms 4=9 from rfl];have kd:((10:Nat):Int)<=(cap:Int):=om;have it:=OE wr (some ⟨c,o+9,none⟩) 1 (cap - 9) (FJ l 9 1) (by rw[BJ (by rw[HL.out];decide)]) (Cs hl 9 1) (by rw[BJ (by rw[HL.out];decide)];decide) (by rw[BJ (by rw[HL.out];decide)];decide) (hv.held 9 1 (cap - 9) (by rw[HL.out];decide));have HN:Hid (Cn wr (w.heap.size+1) (fld l 0 2) (fld l 2 1) (fld l 3 5) (fld l 8 1) 0):=BE (by simpa[OF] using a1);have HT:=BE a2;have HG:=BE a3;go_wp2_with fail;refine it.mono ?_;rintro e w2 ⟨rfl,G2⟩;have N2:=HN.out.chg G2 (fun e=>e);obtain⟨⟨k0,k1,k2,k3,k4⟩,kf⟩:=N2.cells;have ar:Hid (Cn (w2.setCell ⟨w.heap.size+1,4,none⟩ (.int .u64 (fld l 9 1:Nat))) (w.heap.size+1) (fld l 0 2) (fld l 2 1) (fld l 3 5) (fld l 8 1) (fld l 9 1)):=BE (N2.set4 _);have no:Hid (Tg (w2.setCell ⟨w.heap.size+1,4,none⟩ (.int .u64 (fld l 9 1:Nat))) w.heap.size 0 0 0 0 false):=BE ((HT.out.chg G2 (fun e=>e)).setOther om _ _);have La:Hid (Chg No w (w2.setCell ⟨w.heap.size+1,4,none⟩ (.int .u64 (fld l 9 1:Nat)))):=BE ((HG.out.trans G2).setCell (AL om) _ _);have hf:=kf 4;rw[show le (FJ l 9 1)=fld l 9 1 from rfl];go_wp2;exact⟨⟨5,dc,rfl,rfl,by simpa[OF] using ar.out,no.out,La⟩,by simp[intOf]⟩
  ·have HN:Hid (Cn wr (w.heap.size+1) (fld l 0 2) (fld l 2 1) (fld l 3 5) (fld l 8 1) (fld l 9 1)):=BE (by simpa[OF] using a1);obtain⟨⟨k0,k1,k2,k3,k4⟩,-⟩:=HN.out.cells;have HT:=BE a2;have HG:=BE a3;go_wp2_with (refine BO rfl (.tmp 2) (.tmp 51) rfl w.heap.size rfl rfl HT ?_);intro w3 T3 G3;have no:=BE T3;have La:Hid (Chg No w w3):=BE (HG.out.trans' G3 (fun i hi ht=>om));go_wp2;refine AZ (Bf rfl _ rfl no) rfl ?_;exact⟨rfl,La⟩
end
section
variable {l:List Nat}(w:Wd)
theorem af{T U:List Nat}(hT:Bys T)(hU:Bys U)(h:T.map UInt8.ofNat=U.map UInt8.ofNat):T=U:=by
 have e:∀L:List Nat,Bys L->(L.map UInt8.ofNat).map UInt8.toNat=L:=by
  intro L hL;rw[map_map];conv=>rhs;rw[<-map_id L]
  apply map_congr_left;intro n hn;simp only[Function.comp,id];rw[UInt8.toNat_ofNat'];exact Az (hL n hn)
 rw[<-e T hT,h,e U hU]
theorem WL(T U:List Nat)(hT:Bys T)(hU:Bys U):((strOfNums (T.map fun (n:Nat)=>(n:Int))).toList == (strOfNums (U.map fun (n:Nat)=>(n:Int))).toList)=decide (T=U):=by
 rw[ByteArray.toList_eq,ByteArray.toList_eq,strOfNums_data,strOfNums_data,map_map,map_map];have e1:∀T:List Nat,T.map ((fun (n:Int)=>UInt8.ofNat n.toNat) ∘ fun (n:Nat)=>(n:Int))=T.map UInt8.ofNat:=fun _=>rfl;rw[e1,e1];by_cases h:T=U
 ·rw[h];simp
 ·rw[AN h,beq_eq_false_iff_ne];exact fun e=>h (af hT hU e)
theorem At.ints{w:Wd}{c o:Nat}(h:At w c o l){n:Nat}(hn:n=l.length):∀i,i<n->w.cell? ⟨c,o+i,none⟩=some (.int .u8 ((l.map fun (n:Nat)=>(n:Int)).getD i 0)):=by
 intro i hi;rw[h.2 i om];simp[AQ];cases e:l[i]? <;> simp
theorem Ic(c1 o1 n1 cap1 c2 o2 n2 cap2:Nat)(l1 l2:List Nat)(e1:n1=l1.length)(e2:n2=l2.length)(b1:Bys l1)(b2:Bys l2)(h1:At w c1 o1 l1)(h2:At w c2 o2 l2) :Calls prog 218 #[.slice (some ⟨c1,o1,none⟩) n1 cap1,.slice (some ⟨c2,o2,none⟩) n2 cap2] w fun e w'=>e=.returned (.bool (decide (l1=l2)))/\w'=w:=by
 have k1:=run_convert_bytes_arg (P:=prog) w 48 5 underlying48 underlying5 c1 o1 n1 cap1 (l1.map fun (n:Nat)=>(n:Int)) (by simp[e1]) (h1.ints e1) 9 underlying9;have k2:=run_convert_bytes_arg (P:=prog) w 48 5 underlying48 underlying5 c2 o2 n2 cap2 (l2.map fun (n:Nat)=>(n:Int)) (by simp[e2]) (h2.ints e2) 9 underlying9;have hq:=WL l1 l2 b1 b2;generalize l1.map (fun (n:Nat)=>(n:Int))=x1 at *
 generalize l2.map (fun (n:Nat)=>(n:Int))=x2 at *
 have HQ:=BE hq;clear hq e1 e2 h1 h2;go_enter func218,ntmps218;go_wp2;go_ret;exact⟨by rw[<-HQ.out];rfl,rfl⟩
def FW (l:List Nat):Bool:=((fld l 9 1:Nat):Int) == 1
theorem KL(c o cap:Nat)(l:List Nat)(hl:Bys l)(hL:l.length=50)(hcap:50<=cap)(hA:At w c o l) :Calls prog 254 #[.slice (some ⟨c,o,none⟩) 50 cap] w fun e w'=>e=.returned (.tuple #[.agg #[.int .i64 (fld l 0 2:Nat),.int .i64 (fld l 2 1:Nat),.int .i64 (fld l 3 5:Nat),.int .i64 (fld l 8 1:Nat),.bool (FW l)],.nilIface])/\Chg No w w':=
 QN w c o cap l hl hL hcap hA
def QO (l:List Nat):Prop:=DY (fld l 0 2:Nat) (fld l 2 1:Nat) (fld l 3 5:Nat) (fld l 8 1:Nat) (FW l)
def Hm (l:List Nat):List Nat:=body (fld l 0 2) (fld l 2 1) (fld l 3 5) (fld l 8 1) (FW l)
theorem ag(p o s c:Nat)(l:Bool)(k:Nat):Bys (pre p o s c l k):=by
 have app:∀ {x y:List Nat},Bys x->Bys y->Bys (x ++ y):=fun hx hy n hn=>(mem_append.1 hn).elim (hx n) (hy n)
 match k with
 | 0=>exact fun n hn=>by cases hn
 | 1=>exact CS _ _
 | 2=>exact app (CS _ _) (CS _ _)
 | 3=>exact app (app (CS _ _) (CS _ _)) (CS _ _)
 | 4=>exact app (app (app (CS _ _) (CS _ _)) (CS _ _)) (CS _ _)
 | _+5=>exact app (app (app (app (CS _ _) (CS _ _)) (CS _ _)) (CS _ _)) (CS _ _)
theorem Ce(p o s c:Nat)(l:Bool):Bys (body p o s c l):=fun n hn=>(mem_append.1 hn).elim (ag p o s c l 5 n) (fun h=>by rw[(mem_replicate.1 h).2];decide)
theorem Arr.at_{w:Wd}{g:Nat}(h:Arr w g 5 l):At w g 0 l:=⟨h.lt,fun i hi=>by rw[AW];exact h.cell i hi⟩
theorem GF:(Instr.build 130 #[]).run prog w=.ok (.agg #[.int .i64 0,.int .i64 0,.int .i64 0,.int .i64 0,.bool false]) w:=kr
theorem OG(a:Option Addr)(n cap:Nat)(hn:n≠50) :Calls prog 237 #[.slice a n cap] w fun e w'=>e=.returned (.tuple #[.agg #[.int .i64 0,.int .i64 0,.int .i64 0,.int .i64 0,.bool false],.iface 57 (.int .i64 1)])/\Chg No w w':=by
 have Go:((n:Int) != 50)=true:=by simp only[bne_iff_ne,ne_eq];omega
 have hb:=GF;have HT:=BE (Tg.new w 0 0 0 0 false);have G0:Chg No w (w.alloc (.cells #[.int .i64 0,.int .i64 0,.int .i64 0,.int .i64 0,.bool false] 130)):=(Chg.refl _ w).alloc _;have HG:=BE G0;go_enter func237,ntmps237;go_wp2_with (refine BO rfl (.tmp 2) (.tmp 11) rfl w.heap.size rfl rfl HT ?_);intro w3 T3 G3;have no:=BE T3;have it:Hid (Chg No w w3):=BE (HG.out.trans' G3 (fun i hi ht=>om));go_wp2;refine AZ (Bf rfl _ rfl no) rfl ?_;exact⟨rfl,it⟩
theorem QP(c o cap:Nat)(l:List Nat)(hl:Bys l)(hL:l.length=50)(hcap:50<=cap)(hA:At w c o l)(hm:¬ QO l) :Calls prog 237 #[.slice (some ⟨c,o,none⟩) 50 cap] w fun e w'=>e=.returned (.tuple #[.agg #[.int .i64 0,.int .i64 0,.int .i64 0,.int .i64 0,.bool false],.iface 57 (.int .i64 3)])/\Chg No w w':=by
 have hb:=GF;have HT:=BE (Tg.new w 0 0 0 0 false);have G0:Chg No w (w.alloc (.cells #[.int .i64 0,.int .i64 0,.int .i64 0,.int .i64 0,.bool false] 130)):=(Chg.refl _ w).alloc _;have A0:=hA.chg G0 (fun e=>e);have hf:=KL _ c o cap l hl hL hcap A0;have he:=fun w=>Lr w _ _ _ _ _ hm;have q1:=DU;have q2:=E4;have HG:=BE G0;go_enter func237,ntmps237;go_wp2_with fail;refine hf.mono ?_;rintro e w1 ⟨rfl,G1⟩;have no:=BE (HT.out.chg G1 (fun e=>e));have it:=BE (HG.out.trans G1);go_wp2_with fail;have T2:=no.out.alloc (.cells #[.int .i64 (fld l 0 2:Nat),.int .i64 (fld l 2 1:Nat),.int .i64 (fld l 3 5:Nat),.int .i64 (fld l 8 1:Nat),.bool (FW l)] 130);have V2:=Tg.new w1 (fld l 0 2:Nat) (fld l 2 1:Nat) (fld l 3 5:Nat) (fld l 8 1:Nat) (FW l);have G2:=it.out.alloc (.cells #[.int .i64 (fld l 0 2:Nat),.int .i64 (fld l 2 1:Nat),.int .i64 (fld l 3 5:Nat),.int .i64 (fld l 8 1:Nat),.bool (FW l)] 130);have kd:=it.out.size;refine(he _).mono ?_;rintro e w2 ⟨rfl,G3⟩;have La:=BE (T2.chg G3 (fun e=>e));have ar:=BE (G2.trans G3);go_wp2_with (refine BO rfl (.tmp 2) (.tmp 35) rfl w.heap.size rfl rfl La ?_);intro w3 T3 G3;have Go:=BE T3;have hv:Hid (Chg No w w3):=BE (ar.out.trans' G3 (fun i hi ht=>om));go_wp2;refine AZ (Bf rfl _ rfl Go) rfl ?_;exact⟨rfl,hv⟩
theorem MY(c o cap:Nat)(l:List Nat)(hl:Bys l)(hL:l.length=50)(hcap:50<=cap)(hA:At w c o l)(hm:QO l)(hne:¬ Hm l=l) :Calls prog 237 #[.slice (some ⟨c,o,none⟩) 50 cap] w fun e w'=>e=.returned (.tuple #[.agg #[.int .i64 0,.int .i64 0,.int .i64 0,.int .i64 0,.bool false],.iface 57 (.int .i64 3)])/\Chg No w w':=by
 have hb:=GF;have HT:=BE (Tg.new w 0 0 0 0 false);have G0:Chg No w (w.alloc (.cells #[.int .i64 0,.int .i64 0,.int .i64 0,.int .i64 0,.bool false] 130)):=(Chg.refl _ w).alloc _;have A0:=hA.chg G0 (fun e=>e);have hf:=KL _ c o cap l hl hL hcap A0;have he:=fun w=>E5 w _ _ _ _ _ hm;have hd:=AN hne;have q1:=DU;have HG:=BE G0;have HA:=BE hA;have HL:=BE hL;go_enter func237,ntmps237;go_wp2_with fail;refine hf.mono ?_;rintro e w1 ⟨rfl,G1⟩;have Go:=BE (HT.out.chg G1 (fun e=>e));have it:=BE (HG.out.trans G1);go_wp2_with fail;have T2:=Go.out.alloc (.cells #[.int .i64 (fld l 0 2:Nat),.int .i64 (fld l 2 1:Nat),.int .i64 (fld l 3 5:Nat),.int .i64 (fld l 8 1:Nat),.bool (FW l)] 130);have V2:=Tg.new w1 (fld l 0 2:Nat) (fld l 2 1:Nat) (fld l 3 5:Nat) (fld l 8 1:Nat) (FW l);have G2:=it.out.alloc (.cells #[.int .i64 (fld l 0 2:Nat),.int .i64 (fld l 2 1:Nat),.int .i64 (fld l 3 5:Nat),.int .i64 (fld l 8 1:Nat),.bool (FW l)] 130);have ha:=it.out.size;refine(he _).mono ?_;rintro e w2 ⟨g,rfl,hg,A3,G3⟩;have T3:=T2.chg G3 (fun e=>e);have V3:=V2.chg G3 (fun e=>e);have no:=G2.trans G3;have hq:=Ic w2 g 0 50 50 c o 50 cap (Hm l) l (BS _ _ _ _ _).symm HL.out.symm (Ce _ _ _ _ _) hl A3.at_ (HA.out.chg no (fun e=>e));rw[hd] at hq;have ar:=BE T3;have hk:=BE V3;have hv:=BE no;go_wp2_with fail;refine hq.mono ?_;rintro e w4 ⟨rfl,rfl⟩;go_wp2_with (refine BO rfl (.tmp 2) (.tmp 35) rfl w.heap.size rfl rfl ar ?_);intro w5 T5 G5;have La:=BE T5;have kd:Hid (Chg No w w5):=BE (hv.out.trans' G5 (fun i hi ht=>om));go_wp2;refine AZ (Bf rfl _ rfl La) rfl ?_;exact⟨rfl,kd⟩
theorem QQ(c o cap:Nat)(l:List Nat)(hl:Bys l)(hL:l.length=50)(hcap:50<=cap)(hA:At w c o l)(hm:QO l)(hne:Hm l=l) :Calls prog 237 #[.slice (some ⟨c,o,none⟩) 50 cap] w fun e w'=>e=.returned (.tuple #[.agg #[.int .i64 (fld l 0 2:Nat),.int .i64 (fld l 2 1:Nat),.int .i64 (fld l 3 5:Nat),.int .i64 (fld l 8 1:Nat),.bool (FW l)],.nilIface])/\Chg No w w':=by
 have hb:=GF;have HT:=BE (Tg.new w 0 0 0 0 false);have G0:Chg No w (w.alloc (.cells #[.int .i64 0,.int .i64 0,.int .i64 0,.int .i64 0,.bool false] 130)):=(Chg.refl _ w).alloc _;have A0:=hA.chg G0 (fun e=>e);have hf:=KL _ c o cap l hl hL hcap A0;have he:=fun w=>E5 w _ _ _ _ _ hm;have hd:=AO hne;have q1:=DU;have HG:=BE G0;have HA:=BE hA;have HL:=BE hL;go_enter func237,ntmps237;go_wp2_with fail;refine hf.mono ?_;rintro e w1 ⟨rfl,G1⟩;have Go:=BE (HT.out.chg G1 (fun e=>e));have it:=BE (HG.out.trans G1);go_wp2_with fail;have T2:=Go.out.alloc (.cells #[.int .i64 (fld l 0 2:Nat),.int .i64 (fld l 2 1:Nat),.int .i64 (fld l 3 5:Nat),.int .i64 (fld l 8 1:Nat),.bool (FW l)] 130);have V2:=Tg.new w1 (fld l 0 2:Nat) (fld l 2 1:Nat) (fld l 3 5:Nat) (fld l 8 1:Nat) (FW l);have G2:=it.out.alloc (.cells #[.int .i64 (fld l 0 2:Nat),.int .i64 (fld l 2 1:Nat),.int .i64 (fld l 3 5:Nat),.int .i64 (fld l 8 1:Nat),.bool (FW l)] 130);have ha:=it.out.size;refine(he _).mono ?_;rintro e w2 ⟨g,rfl,hg,A3,G3⟩;have T3:=T2.chg G3 (fun e=>e);have V3:=V2.chg G3 (fun e=>e);have no:=G2.trans G3;have hq:=Ic w2 g 0 50 50 c o 50 cap (Hm l) l (BS _ _ _ _ _).symm HL.out.symm (Ce _ _ _ _ _) hl A3.at_ (HA.out.chg no (fun e=>e));rw[hd] at hq;have hv:=BE T3;have La:=BE V3;have kd:=BE no;go_wp2_with fail;refine hq.mono ?_;rintro e w4 ⟨rfl,rfl⟩;obtain⟨v0,v1,v2,v3,v4⟩:=La.out.cells;go_wp2_with (refine BO rfl (.tmp 2) (.tmp 37) rfl w.heap.size rfl rfl hv ?_);intro w5 T5 G5;have ar:=BE T5;have hk:Hid (Chg No w w5):=BE (kd.out.trans' G5 (fun i hi ht=>om));go_wp2;refine AZ (Bf rfl _ rfl ar) rfl ?_;exact⟨rfl,hk⟩
def VD (l:List Nat):Prop:=QO l/\Hm l=l
theorem Tl(c o cap:Nat)(l:List Nat)(hl:Bys l)(hL:l.length=50)(hcap:50<=cap)(hA:At w c o l)(hn:¬ VD l) :Calls prog 237 #[.slice (some ⟨c,o,none⟩) 50 cap] w fun e w'=>e=.returned (.tuple #[.agg #[.int .i64 0,.int .i64 0,.int .i64 0,.int .i64 0,.bool false],.iface 57 (.int .i64 3)])/\Chg No w w':=by
 by_cases h:QO l
 ·exact MY w c o cap l hl hL hcap hA h (fun e=>hn ⟨h,e⟩)
 ·exact QP w c o cap l hl hL hcap hA h
end
def ai (l:List Nat) (v:Value) (e:Value):Prop:=
 (l.length≠50/\v=.agg #[.int .i64 0,.int .i64 0,.int .i64 0,.int .i64 0,.bool false]/\e=.iface 57 (.int .i64 1)) \/
 (l.length=50/\¬ VD l/\v=.agg #[.int .i64 0,.int .i64 0,.int .i64 0,.int .i64 0,.bool false]/\e=.iface 57 (.int .i64 3)) \/
 (l.length=50/\VD l/\v=.agg #[.int .i64 (fld l 0 2:Nat),.int .i64 (fld l 2 1:Nat),.int .i64 (fld l 3 5:Nat),.int .i64 (fld l 8 1:Nat),.bool (FW l)]/\e=.nilIface)
theorem OH(w:Wd)(a:Option Addr)(n cap:Nat)(l:List Nat)(hl:Bys l)(hn:n=l.length)(hcap:n<=cap)(hH:Ca w (.slice a n cap) l) :Calls prog 237 #[.slice a n cap] w fun e w'=>∃v x,e=.returned (.tuple #[v,x])/\ai l v x/\Chg No w w':=by
 by_cases h5:l.length=50
 ·obtain rfl:n=50:=om
  obtain⟨c,o,rfl,hc,it⟩:=hH.at_ om;by_cases hI:VD l
  ·refine(QQ w c o cap l hl h5 hcap ⟨hc,it⟩ hI.1 hI.2).mono ?_;rintro e w' ⟨rfl,G⟩;exact⟨_,_,rfl,AL (AL ⟨h5,hI,rfl,rfl⟩),G⟩
  ·refine(Tl w c o cap l hl h5 hcap ⟨hc,it⟩ hI).mono ?_;rintro e w' ⟨rfl,G⟩;exact⟨_,_,rfl,AL (AK ⟨h5,hI,rfl,rfl⟩),G⟩
 ·refine(OG w a n cap om).mono ?_;rintro e w' ⟨rfl,G⟩;exact⟨_,_,rfl,AK ⟨h5,rfl,rfl⟩,G⟩
theorem FX(p o s c:Nat)(l:Bool):body p o s c l=bts p 2 ++ (bts o 1 ++ (bts s 5 ++ (bts c 1 ++ (bts l.toNat 1 ++ List.replicate 40 0)))):=by
 simp[body,row,pre,BG]
theorem Hn(x y:List Nat)(a n:Nat):FJ (x ++ y) (x.length+a) n=FJ y a n:=by
 simp[FJ,drop_append,Ax (show x.length<=x.length+a by omega)]
theorem FY(x y:List Nat)(n:Nat)(h:n=x.length):FJ (x ++ y) 0 n=x:=by
 subst h;simp[FJ]
theorem Ho(p o s c:Nat)(l:Bool)(h:DY p o s c l):fld (body p o s c l) 0 2=p/\fld (body p o s c l) 2 1=o/\fld (body p o s c l) 3 5=s/\fld (body p o s c l) 8 1=c/\FW (body p o s c l)=l:=by
 have e0:=h.pl;have e1:=h.ol;have e2:=h.sl;have e3:=h.cl;have f0:fld (body p o s c l) 0 2=p:=by
  rw[fld,FX,FY _ _ _ (BG _ _).symm,Ia];exact Az om
 have f1:fld (body p o s c l) 2 1=o:=by
  have:=Hn (bts p 2) (bts o 1 ++ (bts s 5 ++ (bts c 1 ++ (bts l.toNat 1 ++ List.replicate 40 0)))) 0 1;rw[BG] at this;rw[fld,FX,this,FY _ _ _ (BG _ _).symm,Ia];exact Az om
 have f2:fld (body p o s c l) 3 5=s:=by
  have:=Hn (bts p 2 ++ bts o 1) (bts s 5 ++ (bts c 1 ++ (bts l.toNat 1 ++ List.replicate 40 0))) 0 5;rw[AV,BG,BG,Aq] at this;rw[fld,FX,this,FY _ _ _ (BG _ _).symm,Ia];exact Az om
 have f3:fld (body p o s c l) 8 1=c:=by
  have:=Hn (bts p 2 ++ (bts o 1 ++ bts s 5)) (bts c 1 ++ (bts l.toNat 1 ++ List.replicate 40 0)) 0 1;simp only[AV,BG,Aq] at this;rw[fld,FX,this,FY _ _ _ (BG _ _).symm,Ia];exact Az om
 have f4:fld (body p o s c l) 9 1=l.toNat:=by
  have:=Hn (bts p 2 ++ (bts o 1 ++ (bts s 5 ++ bts c 1))) (bts l.toNat 1 ++ List.replicate 40 0) 0 1;simp only[AV,BG,Aq] at this;rw[fld,FX,this,FY _ _ _ (BG _ _).symm,Ia];exact Az (by cases l <;> decide)
 refine⟨f0,f1,f2,f3,?_⟩;rw[FW,f4];cases l <;> rfl
theorem MZ(p o s c:Nat)(l:Bool)(h:DY p o s c l):VD (body p o s c l):=by
 obtain⟨f0,f1,f2,f3,f4⟩:=Ho p o s c l h;unfold VD QO Hm;rw[f0,f1,f2,f3,f4];exact⟨h,rfl⟩
section
variable {g n o:Nat}{t:TypeId}{f:Nat->Value}{w w':Wd}{vs us:List Value}{S:Nat->Prop}
def Sto (w:Wd) (g:Nat) (t:TypeId) (n:Nat) (f:Nat->Value):Prop:=
 ∃cs:Array Value,w.heap[g]?=some (.cells cs t)/\cs.size=n/\∀i,i<n->cs[i]?=some (f i)
def upL (f:Nat->Value) (o:Nat) (vs:List Value):Nat->Value:=fun i=>if o<=i/\i<o+vs.length then vs.getD (i - o) undef else f i
def QR (f:Nat->Value) (o:Nat) (vs:List Value):Prop:=∀j v,vs[j]?=some v->f (o+j)=v
theorem Sto.lt(h:Sto w g t n f):g<w.heap.size:=by
 obtain⟨cs,h1,_⟩:=h;exact(Array.getElem?_eq_some_iff.1 h1).1
theorem Sto.cell(h:Sto w g t n f)(i:Nat)(hi:i<n):w.cell? ⟨g,i,none⟩=some (f i):=by
 obtain⟨cs,h1,h2,h3⟩:=h;rw[cell_of_row w g i _ _ _ h1];exact h3 i hi
theorem Sto.frozen(h:Sto w g t n f)(i:Nat):w.frozen? ⟨g,i,none⟩=false:=by
 obtain⟨cs,h1,h2,h3⟩:=h;exact frozen_of_row w g i _ _ h1
theorem Sto.other(h:Sto w g t n f)(e:w'.heap[g]?=w.heap[g]?):Sto w' g t n f:=by
 obtain⟨cs,h1,h2,h3⟩:=h;exact⟨cs,e.trans h1,h2,h3⟩
theorem Sto.chg(h:Sto w g t n f)(hc:Chg S w w')(hg:¬ S g):Sto w' g t n f:=h.other (hc.block g h.lt hg)
theorem Sto.alloc(h:Sto w g t n f)(o:Obj):Sto (w.alloc o) g t n f:=h.other (Below.heap_alloc _ _ _ h.lt)
theorem Sto.ext{f':Nat->Value}(h:Sto w g t n f)(e:∀i,i<n->f i=f' i):Sto w g t n f':=by
 obtain⟨cs,h1,h2,h3⟩:=h;exact⟨cs,h1,h2,fun i hi=>by rw[h3 i hi,e i hi]⟩
theorem Br(f:Nat->Value)(o:Nat)(v:Value)(i:Nat):upL f o [v] i=if i=o then v else f i:=by
 unfold upL;by_cases h:i=o
 ·subst h;simp
 ·rw[AI (by simp;omega),AI h]
theorem Sto.setCell(h:Sto w g t n f)(o:Nat)(v:Value):Sto (w.setCell ⟨g,o,none⟩ v) g t n (upL f o [v]):=by
 obtain⟨cs,h1,h2,h3⟩:=h;refine⟨cs.setIfInBounds o v,by simp[World.setCell,Ai,h1],by simpa using h2,fun i hi=>?_⟩;rw[Br];by_cases e:i=o
 ·subst e;rw[AJ rfl,Ay om]
 ·rw[AI e,Ah om,h3 i hi]
theorem Sto.setCells:∀(vs:List Value) (o:Nat) {w:Wd} {f:Nat->Value} (_:Sto w g t n f),Sto (w.setCells g o vs) g t n (upL f o vs)
 | [],o,w,f,h=>h.ext fun i _=>by unfold upL;rw[AI (by intro hh;simp at hh;omega)]
 | v :: r,o,w,f,h=>by
  rw[World.setCells]
  refine(Sto.setCells r (o+1) (h.setCell o v)).ext fun i _=>?_
  unfold upL
  by_cases e:i=o
  ·
   subst e;rw[AI om,AJ (by simp),AJ (by simp)];simp
  ·
   by_cases h2:o+1<=i/\i<o+1+r.length
   ·
    rw[AJ h2,AJ (by simp;omega),show i - o=(i - (o+1))+1 from om,getD_cons_succ]
   ·
    rw[AI h2,AI (by simp;omega),AI (by simp;omega)]
theorem Chg.setCells{u:Wd}(hg:S g\/u.heap.size<=g):∀(vs:List Value) (o:Nat) {w:Wd} (_:Chg S u w),Chg S u (w.setCells g o vs)
 | [],_,_,h=>h
 | v :: r,o,w,h=>by rw[World.setCells];exact Chg.setCells hg r (o+1) (h.setCell hg o v)
theorem QR.range(h:Sto w g t n f)(hs:QR f o vs)(ho:o+vs.length<=n):w.rangeAt g o vs:=fun j v hv=>by
 have hj:j<vs.length:=(List.getElem?_eq_some_iff.1 hv).1
 rw[h.cell _ om,hs j v hv]
theorem Sto.there(h:Sto w g t n f)(o m:Nat)(ho:o+m<=n):w.there g o m:=fun j hj=>⟨by rw[h.cell _ om];rfl,h.frozen _⟩
theorem GG(f:Nat->Value)(o:Nat)(vs:List Value):QR (upL f o vs) o vs:=fun j v hv=>by
 have hj:j<vs.length:=(List.getElem?_eq_some_iff.1 hv).1
 unfold upL
 rw[AJ om,show o+j - o=j from om,AQ,hv];rfl
theorem QR.sub(h:QR f o vs)(j:Nat)(hu:∀i v,us[i]?=some v->vs[j+i]?=some v):QR f (o+j) us:=fun i v hv=>by
 have:=h (j+i) v (hu i v hv)
 rw[<-this];congr 1;omega
def KM (vs:List Value) (j:Nat) (us:List Value):List Value:=vs.take j ++ (us ++ vs.drop (j+us.length))
theorem OI{j:Nat}(h:j+us.length<=vs.length):(KM vs j us).length=vs.length:=by simp[KM];omega
theorem Jh(f:Nat->Value)(o:Nat)(vs:List Value)(j:Nat)(us:List Value)(h:j+us.length<=vs.length):upL (upL f o vs) (o+j) us=upL f o (KM vs j us):=by
 funext i;have hl:=OI h;unfold upL;rw[hl];by_cases h1:o+j<=i/\i<o+j+us.length
 ·rw[AJ h1,AJ om];simp only[AQ,KM];rw[Aa (by simp;omega),Af (by simp;omega)];congr 2;simp;omega
 ·rw[AI h1];by_cases h2:o<=i/\i<o+vs.length
  ·rw[AJ h2,AJ h2];simp only[AQ,KM];by_cases h3:i<o+j
   ·rw[Af (by simp;omega),List.getElem?_take_of_lt om]
   ·rw[Aa (by simp;omega),Aa (by simp;omega),List.getElem?_drop];congr 2;simp;omega
  ·rw[AI h2,AI h2]
end
section
variable {w w':Wd}{g:Nat}
structure Ji where
 now:List Nat
 tru:List Nat
 is:Bool
 worst:Nat
structure Jj where
 failed:Bool
 wf:Bool
 ahead:Nat
 ef:Bool
 reads:Int
structure BM where
 ch:Nat->Ji
 bl:Nat->Jj
 on:Bool
 lim:Bool
 bud:Nat
 steps:Int
structure Ji.Ok (k:Ji):Prop where
 now:k.now.length=64
 tru:k.tru.length=64
 nowB:Bys k.now
 truB:Bys k.tru
 worst:k.worst<=64
structure Jj.Ok (b:Jj):Prop where
 ahead:b.ahead<9223372036854775808
 none:b.wf=false->b.ahead=0
 lo : -9223372036854775808<=b.reads
 hi:b.reads<9223372036854775808
structure BM.Ok (s:BM):Prop where
 ch:∀c,(s.ch c).Ok
 bl:∀b,(s.bl b).Ok
 bud:s.bud<9223372036854775808
 lo : -9223372036854775808<=s.steps
 hi:s.steps<9223372036854775808
def ckc (k:Ji):List Value:=k.now.map byt ++ (k.tru.map byt ++ [.bool k.is,.int .i64 k.worst])
theorem DL{k:Ji}(h1:k.now.length=64)(h2:k.tru.length=64):(ckc k).length=130:=by simp[ckc,h1,h2]
def KN (b:Jj):List Value:=[.bool b.failed,.bool b.wf,.int .i64 b.ahead,.bool b.ef]
def nj (s:BM):List Value:=[.bool s.on,.bool s.lim,.int .i64 s.bud,.int .i64 s.steps]
def Bg (s:BM) (i:Nat):Value:=
 if i<49920 then (ckc (s.ch (i / 130))).getD (i % 130) undef else
 if i<49968 then (KN (s.bl ((i - 49920) / 4))).getD ((i - 49920) % 4) undef else
 if i<49980 then .int .i64 (s.bl (i - 49968)).reads else (nj s).getD (i - 49980) undef
def BM.setCh (s:BM) (c:Nat) (k:Ji):BM:={ s with ch:=fun j=>if j=c then k else s.ch j }
def BM.setBl (s:BM) (b:Nat) (x:Jj):BM:={ s with bl:=fun j=>if j=b then x else s.bl j }
def BI (w:Wd) (g:Nat) (s:BM):Prop:=Sto w g 128 49984 (Bg s)
theorem KP(s:BM)(hs:s.Ok)(c:Nat)(hc:c<384):QR (Bg s) (130*c) (ckc (s.ch c)):=fun j v hv=>by
 have hl:=DL (hs.ch c).now (hs.ch c).tru
 have hj:j<130:=by have:=(List.getElem?_eq_some_iff.1 hv).1;omega
 unfold Bg
 rw[AJ om,show (130*c+j) / 130=c from om,show (130*c+j) % 130=j from om,AQ,hv];rfl
theorem FZ(s:BM)(b:Nat)(hb:b<12):QR (Bg s) (49920+4*b) (KN (s.bl b)):=fun j v hv=>by
 have hj:j<4:=by have:=(List.getElem?_eq_some_iff.1 hv).1;simpa[KN] using this
 unfold Bg
 rw[AI om,AJ om,show (49920+4*b+j - 49920) / 4=b from om,show (49920+4*b+j - 49920) % 4=j from om,AQ,hv];rfl
theorem EM(s:BM)(b:Nat)(hb:b<12):Bg s (49968+b)=.int .i64 (s.bl b).reads:=by
 unfold Bg;rw[AI om,AI om,AJ om,show 49968+b - 49968=b from om]
theorem OJ(s:BM)(c:Nat)(hc:c<384)(k:Ji)(hk:(ckc k).length=130)(i:Nat):upL (Bg s) (130*c) (ckc k) i=Bg (s.setCh c k) i:=by
 unfold upL;rw[hk];by_cases h:130*c<=i/\i<130*c+130
 ·rw[AJ h];unfold Bg;rw[AJ om,show i / 130=c from om];simp only[BM.setCh,AJ];congr 1;omega
 ·rw[AI h];unfold Bg;by_cases h1:i<49920
  ·rw[AJ h1,AJ h1];simp only[BM.setCh];rw[AI om]
  ·rw[AI h1,AI h1];rfl
theorem OK(s:BM)(b:Nat)(hb:b<12)(x:Jj)(hx:x.reads=(s.bl b).reads)(i:Nat):upL (Bg s) (49920+4*b) (KN x) i=Bg (s.setBl b x) i:=by
 unfold upL;rw[show (KN x).length=4 from rfl];by_cases h:49920+4*b<=i/\i<49920+4*b+4
 ·rw[AJ h];unfold Bg;rw[AI om,AJ om,show (i - 49920) / 4=b from om];simp only[BM.setBl,AJ];rw[show (i - 49920) % 4=i - (49920+4*b) from om]
 ·rw[AI h];unfold Bg;by_cases h1:i<49920
  ·rw[AJ h1,AJ h1];rfl
  ·rw[AI h1,AI h1];by_cases h2:i<49968
   ·rw[AJ h2,AJ h2];simp only[BM.setBl];rw[AI om]
   ·rw[AI h2,AI h2];by_cases h3:i<49980
    ·rw[AJ h3,AJ h3];simp only[BM.setBl];by_cases h4:i - 49968=b
     ·rw[AJ h4,h4,hx]
     ·rw[AI h4]
    ·rw[AI h3,AI h3];rfl
theorem Fa(s:BM)(b:Nat)(hb:b<12)(n:Int)(i:Nat):upL (Bg s) (49968+b) [.int .i64 n] i=Bg (s.setBl b { s.bl b with reads:=n }) i:=by
 rw[Br];by_cases h:i=49968+b
 ·subst h;rw[AJ rfl,EM _ _ hb];simp[BM.setBl]
 ·rw[AI h];unfold Bg;by_cases h1:i<49920
  ·rw[AJ h1,AJ h1];rfl
  ·rw[AI h1,AI h1];by_cases h2:i<49968
   ·rw[AJ h2,AJ h2];simp only[BM.setBl];by_cases h4:(i - 49920) / 4=b
    ·rw[AJ h4,h4];rfl
    ·rw[AI h4]
   ·rw[AI h2,AI h2];by_cases h3:i<49980
    ·rw[AJ h3,AJ h3];simp only[BM.setBl];rw[AI om]
    ·rw[AI h3,AI h3];rfl
theorem JL(s:BM)(on lim:Bool)(bud:Nat)(i:Nat)(hi:i<49984):upL (Bg s) 49980 [.bool on,.bool lim,.int .i64 bud] i=Bg { s with on:=on,lim:=lim,bud:=bud } i:=by
 unfold upL;by_cases h:49980<=i/\i<49983
 ·rw[AJ (by simpa using h)];rcases(by omega:i=49980\/i=49981\/i=49982) with e | e | e <;> subst e <;> rfl
 ·rw[AI (by simpa using h)];by_cases h1:i<49980
  ·unfold Bg;by_cases h2:i<49920
   ·rw[AJ h2,AJ h2]
   ·rw[AI h2,AI h2];by_cases h3:i<49968
    ·rw[AJ h3,AJ h3]
    ·rw[AI h3,AI h3,AJ h1,AJ h1]
  ·have e:i=49983:=om;subst e;rfl
theorem Ma(s:BM)(bud:Nat)(i:Nat)(hi:i<49984):upL (Bg s) 49982 [.int .i64 bud] i=Bg { s with bud:=bud } i:=by
 rw[Br,<-JL s s.on s.lim bud i hi];unfold upL;by_cases h:i=49982
 ·subst h;rfl
 ·rw[AI h];by_cases h2:49980<=i/\i<49983
  ·rw[AJ (by simpa using h2)];rcases(by omega:i=49980\/i=49981) with e | e <;> subst e <;> rfl
  ·rw[AI (by simpa using h2)]
theorem KQ(s:BM)(n:Int)(i:Nat)(hi:i<49984):upL (Bg s) 49983 [.int .i64 n] i=Bg { s with steps:=n } i:=by
 rw[Br];by_cases h:i=49983
 ·subst h;rfl
 ·rw[AI h];unfold Bg;by_cases h2:i<49920
  ·rw[AJ h2,AJ h2]
  ·rw[AI h2,AI h2];by_cases h3:i<49968
   ·rw[AJ h3,AJ h3]
   ·rw[AI h3,AI h3];by_cases h4:i<49980
    ·rw[AJ h4,AJ h4]
    ·rw[AI h4,AI h4];rcases(by omega:i=49980\/i=49981\/i=49982) with e | e | e <;> subst e <;> rfl
theorem BI.lt{s:BM}(h:BI w g s):g<w.heap.size:=Sto.lt h
theorem BI.drew{s:BM}(h:BI w g s):BI w.drew g s:=h
theorem BI.chg{S:Nat->Prop}{s:BM}(h:BI w g s)(hc:Chg S w w')(hg:¬ S g):BI w' g s:=Sto.chg h hc hg
theorem BI.other{s:BM}(h:BI w g s)(e:w'.heap[g]?=w.heap[g]?):BI w' g s:=Sto.other h e
theorem BM.Ok.setCh{s:BM}(h:s.Ok)(c:Nat){k:Ji}(hk:k.Ok):(s.setCh c k).Ok:=
 ⟨fun j=>by
  show (if j=c then k else s.ch j).Ok
  by_cases e:j=c
  ·
   rw[AJ e];exact hk
  ·
   rw[AI e];exact h.ch j,h.bl,h.bud,h.lo,h.hi⟩
theorem BM.Ok.setBl{s:BM}(h:s.Ok)(b:Nat){x:Jj}(hx:x.Ok):(s.setBl b x).Ok:=
 ⟨h.ch,fun j=>by
  show (if j=b then x else s.bl j).Ok
  by_cases e:j=b
  ·
   rw[AJ e];exact hx
  ·
   rw[AI e];exact h.bl j,h.bud,h.lo,h.hi⟩
end
section
variable {k:Ji}{f:Nat->Value}{o:Nat}{x:Int}
def aj:Ji:={ now:=List.replicate 64 0,tru:=List.replicate 64 0,is:=false,worst:=0 }
def Gk:Ji:={ now:=List.replicate 64 255,tru:=List.replicate 64 255,is:=false,worst:=0 }
theorem Ls:zeroCells113=(ckc aj).toArray:=kr
theorem WM:(prog.info? 113).map (·.size)=some 130:=kr
theorem Mb:(prog.info? 111).map (·.size)=some 64:=kr
theorem Rx(k:Ji):∀v ∈ ckc k,v.oneCell'=true:=by
 intro v hv;simp only[ckc,Am,mem_map,mem_cons,not_mem_nil,or_false] at hv;rcases hv with ⟨n,_,rfl⟩ | ⟨n,_,rfl⟩ | rfl | rfl <;> rfl
theorem ak(hs:QR f o (ckc k)):QR f o (k.now.map byt):=fun j v hv=>by
 refine hs j v ?_
 rw[ckc,Af (by have:=(List.getElem?_eq_some_iff.1 hv).1;exact this)]
 exact hv
theorem Mc(h:k.now.length=64)(hs:QR f o (ckc k)):QR f (o+64) (k.tru.map byt):=by
 refine hs.sub 64 fun j v hv=>?_;have hj:=(List.getElem?_eq_some_iff.1 hv).1;rw[ckc,Aa (by simp[h]),Af (by simp[h] at hj ⊢;omega),BA,h,show 64+j - 64=j from om];exact hv
theorem gN(h:k.now.length=64)(h2:k.tru.length=64)(hs:QR f o (ckc k)):f (o+128)=.bool k.is:=by
 refine hs 128 _ ?_;rw[ckc,Aa (by simp[h]),Aa (by simp[h,h2])];simp[h,h2]
theorem OL(k:Ji)(l:List Nat)(h:k.now.length=64)(hl:l.length=64):KM (ckc k) 0 (l.map byt)=ckc { k with now:=l }:=by
 simp only[KM,ckc,take_zero,A7,BA,hl,AW];rw[drop_append_of_le_length (by simp[h]),Ax (by simp[h]),A7]
theorem WN(k:Ji)(l:List Nat)(h:k.now.length=64)(h2:k.tru.length=64)(hl:l.length=64):KM (ckc k) 64 (l.map byt)=ckc { k with tru:=l }:=by
 simp only[KM,ckc,BA,hl];rw[take_left' (by simp[h]),drop_append,Ax (by simp[h]),A7,BA,h,show 64+64 - 64=64 from rfl,drop_left' (by simp[h2])]
theorem Tm(k:Ji)(i v:Nat)(h:k.now.length=64)(h2:k.tru.length=64)(hi:i<64):KM (ckc k) (64+i) [byt v]=ckc { k with tru:=k.tru.set i v }:=by
 have hn:(k.now.map byt).length=64:=by simp[h]
 simp only[KM,ckc,An,length_nil,AW];rw[take_append,As om,hn,drop_append,Ax om,hn,A7,show 64+i - 64=i from om,show 64+i+1 - 64=i+1 from om,Aq];congr 1;rw[take_append_of_le_length (by simp[h2];omega),drop_append_of_le_length (by simp[h2];omega),<-Aq,<-Aq];congr 1;rw[map_set,set_eq_take_append_cons_drop,AJ (by simp[h2];omega)];simp
def dmgTo (a b:List Nat):Nat->Nat
 | 0=>0
 | n+1=>dmgTo a b n+(if a.getD n 0=b.getD n 0 then 0 else 1)
def dmg (k:Ji):Nat:=dmgTo k.now k.tru 64
theorem ON(g o:Nat)(w:Wd)(hc:w.cell? ⟨g,o,none⟩=some (.int .i64 x)) :Calls prog 66 #[.pointer (some ⟨g,o,none⟩)] w fun e w'=>e=.returned (.int .i64 x)/\w'=w:=by
 have hl:=run_call_load (P:=prog) func122 kr kr kr .i64 kr hc;go_enter func66,ntmps66;go_wp2;go_ret;exact⟨rfl,rfl⟩
theorem Tn(g o:Nat)(w:Wd)(y:Int){u:Value}(hc:w.cell? ⟨g,o,none⟩=some u)(hz:w.frozen? ⟨g,o,none⟩=false) :Calls prog 133 #[.pointer (some ⟨g,o,none⟩),.int .i64 y] w fun e w'=>e=.returned (.tuple #[])/\w'=w.setCell ⟨g,o,none⟩ (.int .i64 y):=by
 have hl:=run_call_store (P:=prog) func175 kr kr kr kr (k:=.i64) (y:=y) hc hz;go_enter func133,ntmps133;go_wp2;go_end0;exact⟨rfl,rfl⟩
theorem Ry(g o:Nat)(w:Wd)(hc:w.cell? ⟨g,o,none⟩=some (.int .i64 x))(hz:w.frozen? ⟨g,o,none⟩=false) :Calls prog 177 #[.pointer (some ⟨g,o,none⟩),.int .i64 1] w fun e w'=>e=.returned (.int .i64 (wrap64 (x+1)))/\w'=w.setCell ⟨g,o,none⟩ (.int .i64 (wrap64 (x+1))):=by
 have hl:=run_call_add (P:=prog) func213 kr kr kr .i64 kr (y:=1) (s:=wrap64 (x+1)) hc hz (by simp[go_sem,wrap64,IntKind.wrap_i64]);go_enter func177,ntmps177;go_wp2;go_ret;exact⟨rfl,rfl⟩
def Eh (i:Nat):Ji:={ aj with tru:=List.replicate i 255 ++ List.replicate (64 - i) 0 }
theorem Dn(i:Nat)(h:i<=64):(Eh i).tru.length=64:=by simp[Eh];omega
theorem WO(i:Nat)(h:i<64):{ Eh i with tru:=(Eh i).tru.set i 255 }=Eh (i+1):=by
 simp only[Eh,Ji.mk.injEq,true_and,and_true,aj];rw[Ap _ _ (by simp),length_replicate,Nat.sub_self,show 64 - i=(64 - (i+1))+1 from om,replicate_succ,set_cons_zero,replicate_succ',Aq];rfl
theorem KR:zeroCells113.size=130:=zeroCells113_size
theorem al:zeroCells113.all (·.oneCell')=true:=by rw[Ls];exact all_oneCell_toArray (Rx _)
theorem gO:byt 255=Value.int .u8 255:=rfl
theorem To(g o:Nat)(t:TypeId)(n:Nat)(f:Nat->Value)(ho:o+130<=n)(w:Wd)(hB:Sto w g t n f) :Calls prog 132 #[.pointer (some ⟨g,o,none⟩)] w fun e w'=>e=.returned (.tuple #[])/\Sto w' g t n (upL f o (ckc Gk))/\Chg (·=g) w w':=by
 have kd:=hB.there o 130 ho;go_enter func132,ntmps132;go_wp2_with (first | refine wpList_store_mid rfl 113 (.tmp 5) (.tmp 4) rfl g o _ rfl rfl (by rw[KR];exact kd) (by rw[KR];exact WM) al ?_);have ha:Sto (w.setCells g o zeroCells113.toList) g t n (upL f o (ckc (Eh 0))):=by
  rw[Ls];exact Sto.setCells _ _ hB
 have hx:Chg (·=g) w (w.setCells g o zeroCells113.toList):=Chg.setCells (S:=(·=g)) (AK rfl) _ _ (Chg.refl _ _);generalize w.setCells g o zeroCells113.toList=w1 at *
 go_loopw [6] (fun t6 wr=>∃i:Nat,i<=64/\t6=.int .i64 i/\Sto wr g t n (upL f o (ckc (Eh i)))/\Chg (·=g) w wr) (fun t6 _=>64 - (intOf t6).toNat)
 case atStart=>exact⟨0,om,rfl,ha,hx⟩
 case round=>
  obtain⟨i,hi,rfl,hB,hG⟩:=hrel;by_cases La:i<64
  ·have hv:(0:Int)<=(i:Int):=om;have ar:(i:Int)<64:=om;have c1:=hB.cell (o+64+i) om;have f1:=hB.frozen (o+64+i);have it:=hB.setCell (o+64+i) (.int .u8 255);have e2:upL (upL f o (ckc (Eh i))) (o+64+i) [.int .u8 255]=upL f o (ckc (Eh (i+1))):=by
    rw[show o+64+i=o+(64+i) from om,Jh _ _ _ _ _ (by rw[DL (k:=Eh i) rfl (Dn i om)];simp;omega),<-gO,Tm _ _ _ rfl (Dn i om) La,WO i La]
   rw[e2] at it;go_wp2;exact⟨⟨i+1,om,by go_num,it,hG.setCell (AK rfl) _ _⟩,by simp[intOf];omega⟩
  ·have e6:i=64:=om;subst e6;have hl:=DL (k:=Eh 64) rfl (Dn 64 om);have r1:wr.rangeAt g (o+64) ((Eh 64).tru.map byt):=QR.range hB (Mc rfl (GG _ _ _)) (by simp[Dn];omega);have HS:Hid ((prog.info? 111).map (·.size)=some ((Eh 64).tru.map byt).length):=(by rw[BA,Dn 64 om];exact Mb);have no:=hB.there o 64 om;have hs:(((Eh 64).tru.map byt).toArray).size=64:=(by simp[Dn]);have h1:=all_oneCell_toArray (Ey (Eh 64).tru);have it:=Sto.setCells ((Eh 64).tru.map byt) o hB;have e2:=Jh f o (ckc (Eh 64)) 0 ((Eh 64).tru.map byt) (by rw[hl];simp[Dn]);rw[Nat.add_zero,OL _ _ rfl (Dn 64 om)] at e2;rw[e2] at it;have hk:Chg (·=g) w (wr.setCells g o ((Eh 64).tru.map byt)):=Chg.setCells (S:=(·=g)) (AK rfl) _ _ hG;go_wp2_with (first | refine wpList_load_mid rfl 111 (.tmp 18) rfl g (o+64) rfl _ _ r1 underlying111 rfl HS ?_ | refine wpList_store_mid rfl 111 (.tmp 21) (.tmp 19) rfl g o _ rfl rfl (by rw[hs];exact no) (by rw[hs];exact Mb) h1 ?_);go_end0;exact⟨rfl,it,hk⟩
end
section
variable {w:Wd}{c:Nat}
def OO (l:List Nat):Ji:={ now:=l,tru:=l,is:=true,worst:=0 }
def QS:Ji:={ aj with is:=true }
theorem Lt:zeroCells113.setIfInBounds 128 (.bool true)=(ckc QS).toArray:=kr
theorem OP:(zeroCells113.setIfInBounds 128 (.bool true)).size=130:=by rw[Array.size_setIfInBounds];exact KR
theorem am:(zeroCells113.setIfInBounds 128 (.bool true)).all (·.oneCell')=true:=by rw[Lt];exact all_oneCell_toArray (Rx _)
theorem Md{oo:Nat}{l:List Nat}(h:∀i,i<l.length->w.cell? ⟨c,oo+i,none⟩=some (.int .u8 (l.getD i 0:Nat))):∀j v,(l.map byt)[j]?=some v->w.cell? ((⟨c,oo,none⟩:Addr).add j)=some v:=Ec h
theorem OQ{g:Nat}(h:c≠g):∀(vs:List Value) (o i:Nat),(w.setCells g o vs).cell? ⟨c,i,none⟩=w.cell? ⟨c,i,none⟩:=fun vs o i=>
 World.cell?_setCells_out g vs o w ⟨c,i,none⟩ (fun e _=>absurd e h)
theorem OR(g o:Nat)(t:TypeId)(n:Nat)(f:Nat->Value)(ho:o+130<=n)(c oo cap:Nat)(hc:c≠g)(l:List Nat)(hl:l.length=64)(w:Wd)(hB:Sto w g t n f)(hsrc:∀i,i<64->w.cell? ⟨c,oo+i,none⟩=some (.int .u8 (l.getD i 0:Nat))) :Calls prog 268 #[.pointer (some ⟨g,o,none⟩),.slice (some ⟨c,oo,none⟩) 64 cap] w fun e w'=>e=.returned (.tuple #[])/\Sto w' g t n (upL f o (ckc (OO l)))/\Chg (·=g) w w':=by
 have hth:=hB.there o 130 ho;have hB1:Sto (w.setCells g o (zeroCells113.setIfInBounds 128 (.bool true)).toList) g t n (upL f o (ckc QS)):=by
  rw[Lt];exact Sto.setCells _ _ hB
 have hG1:Chg (·=g) w (w.setCells g o (zeroCells113.setIfInBounds 128 (.bool true)).toList):=Chg.setCells (S:=(·=g)) (AK rfl) _ _ (Chg.refl _ _);have hC1:=fun i (hi:i<l.length)=>(OQ (w:=w) hc (zeroCells113.setIfInBounds 128 (.bool true)).toList o (oo+i)).trans (hsrc i om);have hth1:=hB1.there (o+64) 64 om;have hcp:=run_copy_cells (P:=prog) (w.setCells g o (zeroCells113.setIfInBounds 128 (.bool true)).toList) 48 48 3 5 g (o+64) 64 64 ⟨c,oo,none⟩ 64 cap (l.map byt) underlying48 J6 (by simp[hl]) (Md hC1) (fun j hj=>(hth1 j (by simpa[hl] using hj)).1) (fun j hj=>(hth1 j (by simpa[hl] using hj)).2) (Ey l);rw[BA,hl] at hcp;have hB2:=Sto.setCells (l.map byt) (o+64) hB1;rw[Jh _ _ _ _ _ (by rw[DL (k:=QS) rfl rfl];simp[hl]),WN QS l rfl rfl hl] at hB2;have hG2:=Chg.setCells (S:=(·=g)) (AK rfl) (l.map byt) (o+64) hG1;generalize hw1:w.setCells g o (zeroCells113.setIfInBounds 128 (.bool true)).toList=w1 at *
 have HW1:=BE hw1;generalize hw2:w1.setCells g (o+64) (l.map byt)=w2 at *
 have r2:w2.rangeAt g (o+64) (l.map byt):=QR.range hB2 (Mc (k:={ QS with tru:=l }) rfl (GG _ _ _)) (by simp[hl];omega);have hth2:=hB2.there o 64 om;have HS:Hid ((prog.info? 111).map (·.size)=some (l.map byt).length):=by rw[BA,hl];exact Mb
 have hs:((l.map byt).toArray).size=64:=by simp[hl]
 have h1:=all_oneCell_toArray (Ey l);have hB3:=Sto.setCells (l.map byt) o hB2;have e2:=Jh f o (ckc { QS with tru:=l }) 0 (l.map byt) (by rw[DL (k:={ QS with tru:=l }) rfl hl];simp[hl]);rw[Nat.add_zero,OL _ _ rfl hl] at e2;rw[e2] at hB3;have hG3:=Chg.setCells (S:=(·=g)) (AK rfl) (l.map byt) o hG2;have HSZ:Hid ((prog.info? 111).map (·.size)=some ((l.map byt).toArray).size):=by rw[hs];exact Mb
 have HTH:Hid (w2.there g o ((l.map byt).toArray).size):=by rw[hs];exact hth2
 have HO:=BE h1;go_enter func268,ntmps268;go_wp2_with (first | (refine wpList_store_mid rfl 113 (.tmp 6) (.tmp 5) rfl g o _ rfl rfl (by rw[OP];exact hth) (by rw[OP];exact WM) am ?_;rw[HW1.out]) | refine wpList_load_mid rfl 111 (.tmp 16) rfl g (o+64) rfl _ _ r2 underlying111 rfl HS.out ?_ | refine wpList_store_mid rfl 111 (.tmp 19) (.tmp 17) rfl g o _ rfl rfl HTH.out HSZ.out HO.out ?_);go_end0;exact⟨rfl,hB3,hG3⟩
end
section
variable {s:BM}{w:Wd}{g b:Nat}
theorem BN(n m:Int)(h0:0<=n)(h1:n<m)(w:Wd):Calls prog 65 #[.int .i64 n,.int .i64 m] w fun e w'=>e=.returned (.bool true)/\w'=w:=by
 go_enter func65,ntmps65;go_wp2;go_ret;exact⟨rfl,rfl⟩
theorem CN(n m:Int)(h:n<0\/m<=n)(w:Wd):Calls prog 65 #[.int .i64 n,.int .i64 m] w fun e w'=>e=.returned (.bool false)/\w'=w:=by
 by_cases h0:n<0
 ·have h1:¬ 0<=n:=om
  go_enter func65,ntmps65;go_wp2;go_ret;exact⟨rfl,rfl⟩
 ·have h1:0<=n:=om
  have h2:¬ n<m:=om
  go_enter func65,ntmps65;go_wp2;go_ret;exact⟨rfl,rfl⟩
theorem Co(a k:Int)(h0:0<=a)(h1:a<96)(h2:0<=k)(h3:k<4)(w:Wd):Calls prog 144 #[.int .i64 a,.int .i64 k] w fun e w'=>e=.returned (.bool true)/\w'=w:=by
 go_enter func144,ntmps144;go_wp2_with (first | (go_at_call_of 65 (Value.int IntKind.i64 a);refine(BN a 96 h0 h1 _).mono ?_;rintro e w' ⟨rfl,rfl⟩) | (go_at_call_of 65 (Value.int IntKind.i64 k);refine(BN k 4 h2 h3 _).mono ?_;rintro e w' ⟨rfl,rfl⟩));go_ret;exact⟨rfl,rfl⟩
theorem QT(a k:Int)(h:a<0\/96<=a\/k<0\/4<=k)(w:Wd):Calls prog 144 #[.int .i64 a,.int .i64 k] w fun e w'=>e=.returned (.bool false)/\w'=w:=by
 by_cases h0:a<0\/96<=a
 ·go_enter func144,ntmps144;go_wp2_with fail;refine(CN a 96 h0 _).mono ?_;rintro e w' ⟨rfl,rfl⟩;go_wp2;go_ret;exact⟨rfl,rfl⟩
 ·have h1:0<=a:=om
  have h2:a<96:=om
  have h3:k<0\/4<=k:=om
  go_enter func144,ntmps144;go_wp2_with fail;refine(BN a 96 h1 h2 _).mono ?_;rintro e w' ⟨rfl,rfl⟩;go_wp2_with fail;refine(CN k 4 h3 _).mono ?_;rintro e w' ⟨rfl,rfl⟩;go_wp2;go_ret;exact⟨rfl,rfl⟩
theorem BI.on(h:BI w g s):w.cell? ⟨g,49980,none⟩=some (.bool s.on):=Sto.cell h 49980 om
theorem BI.lim(h:BI w g s):w.cell? ⟨g,49981,none⟩=some (.bool s.lim):=Sto.cell h 49981 om
theorem BI.bud(h:BI w g s):w.cell? ⟨g,49982,none⟩=some (.int .i64 s.bud):=Sto.cell h 49982 om
theorem BI.steps(h:BI w g s):w.cell? ⟨g,49983,none⟩=some (.int .i64 s.steps):=Sto.cell h 49983 om
theorem BI.frozen(h:BI w g s)(i:Nat):w.frozen? ⟨g,i,none⟩=false:=Sto.frozen h i
theorem BI.setPw(h:BI w g s)(on lim:Bool)(bud:Nat) :BI (((w.setCell ⟨g,49980,none⟩ (.bool on)).setCell ⟨g,49981,none⟩ (.bool lim)).setCell ⟨g,49982,none⟩ (.int .i64 bud)) g { s with on:=on,lim:=lim,bud:=bud }:=
 Sto.ext (Sto.setCells [.bool on,.bool lim,.int .i64 bud] 49980 h) (fun i hi=>JL s on lim bud i hi)
theorem BI.setBud(h:BI w g s)(bud:Nat):BI (w.setCell ⟨g,49982,none⟩ (.int .i64 bud)) g { s with bud:=bud }:=
 Sto.ext (Sto.setCell h 49982 _) (fun i hi=>Ma s bud i hi)
theorem BI.setSteps(h:BI w g s)(n:Int):BI (w.setCell ⟨g,49983,none⟩ (.int .i64 n)) g { s with steps:=n }:=
 Sto.ext (Sto.setCell h 49983 _) (fun i hi=>KQ s n i hi)
theorem Chg.at(g:Nat){u:Wd}(h:Chg (·=g) u w)(o:Nat)(v:Value):Chg (·=g) u (w.setCell ⟨g,o,none⟩ v):=h.setCell (AK rfl) o v
def ap (s:BM):BM:={ s with on:=false,lim:=false,bud:=0 }
def Jk (s:BM):BM:={ s with bud:=if s.lim then s.bud - 1 else s.bud,steps:=wrap64 (s.steps+1) }
theorem OT(g:Nat)(s:BM)(w:Wd)(h:BI w g s)(hl:s.lim=true)(hb:s.bud=0):Calls prog 242 #[.pointer (some ⟨g,0,none⟩)] w fun e w'=>e=.returned (.bool false)/\BI w' g (ap s)/\Chg (·=g) w w':=by
 have c1:=h.on;have c2:=h.lim;have c3:=h.bud;have f1:=h.frozen;rw[hl] at c2;rw[hb] at c3;have hC:=h.setPw false false 0;have hG:=(((Chg.refl (·=g) w).at g 49980 (.bool false)).at g 49981 (.bool false)).at g 49982 (.int .i64 0);go_enter func242,ntmps242;go_wp2;go_ret;exact⟨rfl,hC,hG⟩
theorem Tp(g:Nat)(s:BM)(w:Wd)(h:BI w g s)(hl:s.lim=false):Calls prog 242 #[.pointer (some ⟨g,0,none⟩)] w fun e w'=>e=.returned (.bool true)/\BI w' g (Jk s)/\Chg (·=g) w w':=by
 have c2:=h.lim;have c3:=h.bud;have c4:=h.steps;have f1:=h.frozen;rw[hl] at c2;have hC:=h.setSteps (wrap64 (s.steps+1));have hG:=(Chg.refl (·=g) w).at g 49983 (.int .i64 (wrap64 (s.steps+1)));have e:Jk s={ s with steps:=wrap64 (s.steps+1) }:=by simp[Jk,hl]
 have HE:=BE e;go_enter func242,ntmps242;go_wp2;go_ret;rw[HE.out];exact⟨rfl,hC,hG⟩
theorem Tq(g:Nat)(s:BM)(w:Wd)(hs:s.Ok)(h:BI w g s)(hl:s.lim=true)(hb:s.bud≠0):Calls prog 242 #[.pointer (some ⟨g,0,none⟩)] w fun e w'=>e=.returned (.bool true)/\BI w' g (Jk s)/\Chg (·=g) w w':=by
 have c2:=h.lim;have c3:=h.bud;have c4:=h.steps;have f1:=h.frozen;rw[hl] at c2;have hC:=(h.setBud (s.bud - 1)).setSteps (wrap64 (s.steps+1));have hG:=((Chg.refl (·=g) w).at g 49982 (.int .i64 (s.bud - 1:Nat))).at g 49983 (.int .i64 (wrap64 (s.steps+1)));have e:Jk s={ s with bud:=s.bud - 1,steps:=wrap64 (s.steps+1) }:=by simp[Jk,hl]
 have HE:=BE e;have hbu:=hs.bud;have h0:((s.bud:Int) == 0)=false:=beq_eq_false_iff_ne.2 om;have HI:Hid ((s.bud:Int) - 1=((s.bud - 1:Nat):Int)):=by show _=_;omega
 clear hl e;go_enter func242,ntmps242;go_wp2;go_ret;rw[HE.out,HI.out];exact⟨rfl,hC,hG⟩
theorem km(hb:b<12):Bg s (49920+4*b)=.bool (s.bl b).failed:=FZ s b hb 0 _ rfl
theorem mV(hb:b<12):Bg s (49920+4*b+1)=.bool (s.bl b).wf:=FZ s b hb 1 _ rfl
theorem mW(hb:b<12):Bg s (49920+4*b+2)=.int .i64 (s.bl b).ahead:=FZ s b hb 2 _ rfl
theorem mX(hb:b<12):Bg s (49920+4*b+3)=.bool (s.bl b).ef:=FZ s b hb 3 _ rfl
theorem gP(hb:b<12)(x:Jj)(hr:x.reads=(s.bl b).reads)(j:Nat)(hj:j<4)(v:Value)(hv:(KN (s.bl b)).set j v=KN x)(i:Nat):upL (Bg s) (49920+4*b+j) [v] i=Bg (s.setBl b x) i:=by
 rw[<-OK s b hb x hr i,<-hv,Br];unfold upL;have hl:((KN (s.bl b)).set j v).length=4:=by simp[KN]
 rw[hl];by_cases e:i=49920+4*b+j
 ·subst e;rw[AJ rfl,AJ om,show 49920+4*b+j - (49920+4*b)=j from om,AQ,List.getElem?_set_self (by simp[KN];exact hj)];rfl
 ·rw[AI e];by_cases h:49920+4*b<=i/\i<49920+4*b+4
  ·rw[AJ h,AQ,List.getElem?_set_ne om,AU (by simp[KN];omega)];have:=FZ s b hb (i - (49920+4*b)) _ (AU (by simp[KN];omega));rw[show 49920+4*b+(i - (49920+4*b))=i from om] at this;rw[this];rfl
  ·rw[AI h]
theorem QU(s:BM)(b:Nat):s.setBl b (s.bl b)=s:=by
 cases s
 simp only[BM.setBl,BM.mk.injEq,and_true,true_and];funext j;by_cases e:j=b
 ·rw[AJ e,e]
 ·rw[AI e]
theorem BI.setBl1(h:BI w g s)(hb:b<12)(x:Jj)(hr:x.reads=(s.bl b).reads)(j:Nat)(hj:j<4)(v:Value)(hv:(KN (s.bl b)).set j v=KN x) :BI (w.setCell ⟨g,49920+4*b+j,none⟩ v) g (s.setBl b x):=Sto.ext (Sto.setCell h _ v) (fun i _=>gP hb x hr j hj v hv i)
theorem OU(s:BM)(b:Nat)(x y:Jj):(s.setBl b x).setBl b y=s.setBl b y:=by
 simp only[BM.setBl,BM.mk.injEq,and_true,true_and];funext j;by_cases e:j=b
 ·rw[AJ e,AJ e]
 ·rw[AI e,AI e,AI e]
theorem OV(s:BM)(b:Nat)(x:Jj):(s.setBl b x).bl b=x:=by simp[BM.setBl]
def failW (x:Jj):Jj:={ x with failed:=x.failed || (x.wf && decide (x.ahead=0)),ahead:=x.ahead - 1 }
def failE (x:Jj):Jj:={ x with failed:=x.failed || x.ef }
theorem Ei(g b:Nat)(hb:b<12)(s:BM)(hs:s.Ok)(w:Wd)(h:BI w g s) :Calls prog 267 #[.pointer (some ⟨g,49920+4*b,none⟩)] w fun e w'=>e=.returned (.bool (failW (s.bl b)).failed)/\BI w' g (s.setBl b (failW (s.bl b)))/\Chg (·=g) w w':=by
 have c0:=Sto.cell h (49920+4*b) om;have c1:=Sto.cell h (49920+4*b+1) om;have c2:=Sto.cell h (49920+4*b+2) om;rw[km hb] at c0;rw[mV hb] at c1;rw[mW hb] at c2;have f0:=Sto.frozen h (49920+4*b);have f2:=Sto.frozen h (49920+4*b+2);have hx:=hs.bl b;have hr0:=h.setBl1 hb { s.bl b with failed:=true } rfl 0 om (.bool true) (by simp[KN]);have hr2:=h.setBl1 hb { s.bl b with ahead:=(s.bl b).ahead - 1 } rfl 2 om (.int .i64 ((s.bl b).ahead - 1:Nat)) (by simp[KN]);have hw0:=QU s b;rw[Nat.add_zero] at hr0;generalize hbl:s.bl b=x at *
 have HO:=BE hs;have hG0:=(Chg.refl (·=g) w).at g (49920+4*b) (.bool true);have hG2:=(Chg.refl (·=g) w).at g (49920+4*b+2) (.int .i64 (x.ahead - 1:Nat));generalize 49920+4*b=o at *
 obtain⟨fa,wf,ah,ef,rd⟩:=x;simp only at *
 cases wf with
 | true=>
  by_cases h0:ah=0
  ·subst h0;have e:failW ⟨fa,true,0,ef,rd⟩=⟨true,true,0,ef,rd⟩:=(by simp[failW]);rw[e];go_enter func267,ntmps267;go_wp2;go_ret;exact⟨rfl,hr0,hG0⟩
  ·have e:failW ⟨fa,true,ah,ef,rd⟩=⟨fa,true,ah - 1,ef,rd⟩:=(by simp[failW,h0]);rw[e];have h1:((ah:Int) == 0)=false:=beq_eq_false_iff_ne.2 om;have hah:=hx.ahead;simp only at hah;have HI:Hid ((ah:Int) - 1=((ah - 1:Nat):Int)):=(by show _=_;omega);have h3:(0:Int)<(ah:Int):=om;go_enter func267,ntmps267;go_wp2;go_ret;rw[HI.out];exact⟨rfl,hr2,hG2⟩
 | false=>
  have h0:=hx.none rfl;simp only at h0;subst h0;have e:failW ⟨fa,false,0,ef,rd⟩=⟨fa,false,0,ef,rd⟩:=by simp[failW]
  rw[e,hw0];go_enter func267,ntmps267;go_wp2;go_ret;exact⟨rfl,h,Chg.refl _ _⟩
theorem Ej(g b:Nat)(hb:b<12)(s:BM)(w:Wd)(h:BI w g s) :Calls prog 243 #[.pointer (some ⟨g,49920+4*b,none⟩)] w fun e w'=>e=.returned (.bool (failE (s.bl b)).failed)/\BI w' g (s.setBl b (failE (s.bl b)))/\Chg (·=g) w w':=by
 have c0:=Sto.cell h (49920+4*b) om;have c3:=Sto.cell h (49920+4*b+3) om;rw[km hb] at c0;rw[mX hb] at c3;have f0:=Sto.frozen h (49920+4*b);have hr0:=h.setBl1 hb (failE (s.bl b)) rfl 0 om (.bool (failE (s.bl b)).failed) (by simp[KN,failE]);rw[Nat.add_zero] at hr0;have hG0:=(Chg.refl (·=g) w).at g (49920+4*b) (.bool (failE (s.bl b)).failed);have HF:Hid ((failE (s.bl b)).failed=((s.bl b).failed || (s.bl b).ef)):=rfl;generalize failE (s.bl b)=y at *
 rw[HF.out] at hr0 hG0 ⊢;generalize s.bl b=x at *
 generalize 49920+4*b=o at *
 obtain⟨fa,wf,ah,ef,rd⟩:=x;simp only at *
 cases fa with
 | true=>
  go_enter func243,ntmps243;go_wp2;go_ret;exact⟨rfl,hr0,hG0⟩
 | false=>
  rw[Bool.false_or] at hr0 hG0 ⊢;go_enter func243,ntmps243;go_wp2;go_ret;exact⟨rfl,hr0,hG0⟩
end
def Fb (f:Nat->Value) (b m:Nat):Nat->Value:=fun i=>if 4160*b<=i/\i<4160*b+130*m then (ckc Gk).getD (i % 130) undef else f i
theorem OW:(ckc Gk).length=130:=DL rfl rfl
theorem Tr(f:Nat->Value)(b:Nat):Fb f b 0=f:=by
 funext i;unfold Fb;rw[AI om]
theorem Ts(f:Nat->Value)(b m:Nat):upL (Fb f b m) (4160*b+130*m) (ckc Gk)=Fb f b (m+1):=by
 funext i;unfold upL Fb;rw[OW];by_cases h:4160*b+130*m<=i/\i<4160*b+130*m+130
 ·rw[AJ h,AJ om,show i - (4160*b+130*m)=i % 130 from om]
 ·rw[AI h];by_cases h2:4160*b<=i/\i<4160*b+130*m
  ·rw[AJ h2,AJ om]
  ·rw[AI h2,AI om]
theorem JM(g b:Nat)(hb:b<12)(f:Nat->Value)(w:Wd)(h:Sto w g 128 49984 f) :Calls prog 73 #[.pointer (some ⟨g,0,none⟩),.int .i64 b] w fun e w'=>e=.returned (.tuple #[])/\Sto w' g 128 49984 (upL (Fb f b 32) (49968+b) [.int .i64 0])/\Chg (·=g) w w':=by
 have hb0:(0:Int)<=(b:Int):=om
 have hb1:(b:Int)<12:=om
 go_enter func73,ntmps73;go_wp2_with fail
 go_loopw [4] (fun t4 wr=>∃r:Nat,r<=8/\t4=.int .i64 (8*b+r:Nat)/\Sto wr g 128 49984 (Fb f b (4*r))/\Chg (·=g) w wr) (fun t4 _=>(8*b+8) - (intOf t4).toNat)
 case atStart=>exact⟨0,om,by go_num;try omega,by rw[Tr];exact h,Chg.refl _ _⟩
 case round=>
  obtain⟨r,hr,rfl,hB,hG⟩:=hrel;by_cases hlt:r<8
  ·have hr0:((8*b+r:Nat):Int)<(b+1)*8:=om;have hr1:(0:Int)<=((8*b+r:Nat):Int):=om;have hr2:((8*b+r:Nat):Int)<96:=om;have HN:Hid (((8*b+r:Nat):Int).toNat=8*b+r):=(by show _=_;omega);generalize hn:8*b+r=n at *
   have HN2:=BE hn;go_wp2_with fail
   go_loopw [15] (fun t15 wx=>∃i:Nat,i<=4/\t15=.int .i64 i/\Sto wx g 128 49984 (Fb f b (4*r+i))/\Chg (·=g) w wx) (fun t15 _=>4 - (intOf t15).toNat)
   case atStart=>exact⟨0,om,rfl,hB,hG⟩
   case round=>
    obtain⟨i,hi,rfl,hB,hG⟩:=hrel;by_cases hli:i<4
    ·have hi0:(0:Int)<=(i:Int):=om;have hi1:(i:Int)<4:=om;go_wp2_with fail;have e1:=HN2.out;rw[show n*520+i*130=4160*b+130*(4*r+i) from om];refine(To g (4160*b+130*(4*r+i)) 128 49984 _ om _ hB).mono ?_;rintro e w1 ⟨rfl,hB1,hG1⟩;rw[Ts] at hB1;have hG2:=hG.trans hG1;go_wp2;exact⟨⟨i+1,om,by go_num,hB1,hG2⟩,by simp[intOf];omega⟩
    ·have e4:i=4:=om;subst e4;go_wp2;exact⟨⟨r+1,om,by rw[<-HN2.out];go_num;try omega,hB,hG⟩,by simp[intOf];have:=HN2.out;omega⟩
  ·have e8:r=8:=om;subst e8;have hr0:¬ ((8*b+8:Nat):Int)<(b+1)*8:=om;generalize hn:8*b+8=n at *
   have c1:=hB.cell (49968+b) om;have f1:=hB.frozen (49968+b);have hB2:=hB.setCell (49968+b) (.int .i64 0);have hG2:=hG.at g (49968+b) (.int .i64 0);go_wp2_with fail;refine(Tn g (49968+b) _ 0 c1 f1).mono ?_;rintro e w1 ⟨rfl,rfl⟩;go_wp2;go_end0;exact⟨rfl,hB2,hG2⟩
def aq:Jj:=⟨false,false,0,false,0⟩
def newS:BM:={ ch:=fun _=>Gk,bl:=fun _=>aq,on:=true,lim:=false,bud:=0,steps:=0 }
theorem Rz(n v:Nat)(h:v<256):Bys (List.replicate n v):=fun m hm=>by rw[(mem_replicate.1 hm).2];exact h
theorem R0:Gk.Ok:=⟨rfl,rfl,Rz _ _ om,Rz _ _ om,dc⟩
def Me:List Value:=((List.range 12).flatMap fun _=>KN aq) ++ (List.replicate 12 (.int .i64 0) ++ [.bool false,.bool false,.int .i64 0,.int .i64 0])
theorem Lu:zeroCells128.toList.drop 49920=Me:=kr
theorem au:∀j:Fin 48,Me[j.val]?=some ((KN aq).getD (j.val % 4) undef):=by
 intro j
 match j with
 | ⟨j,hj⟩=>
  simp only;have:∀q r:Nat,q<12->r<4->Me[4*q+r]?=some ((KN aq).getD r undef):=by
   intro q r hq hr;rcases(by omega:q=0\/q=1\/q=2\/q=3\/q=4\/q=5\/q=6\/q=7\/q=8\/q=9\/q=10\/q=11) with e | e | e | e | e | e | e | e | e | e | e | e <;> subst e <;>
   rcases(by omega:r=0\/r=1\/r=2\/r=3) with e | e | e | e <;> subst e <;> rfl
  have h:=this (j / 4) (j % 4) om om;rw[show 4*(j / 4)+j % 4=j from om] at h;exact h
theorem aw(i:Nat)(h1:49920<=i)(h2:i<49968):zeroCells128[i]?=some (Bg newS i):=by
 have h:=au ⟨i - 49920,om⟩;rw[<-Lu,List.getElem?_drop,Array.getElem?_toList] at h;simp only at h;rw[show 49920+(i - 49920)=i from om] at h;rw[h];unfold Bg;rw[AI om,AJ h2];rfl
theorem QV:zeroCells128[49983]?=some (.int .i64 0):=by
 have h:Me[63]?=some (.int .i64 0):=rfl;rw[<-Lu,List.getElem?_drop,Array.getElem?_toList] at h;exact h
def made73 (z:Array Value):Array Value:=((z.setIfInBounds 49980 (Value.bool true)).setIfInBounds 49981 (Value.bool false)).setIfInBounds 49982 (Value.int IntKind.i64 0)
theorem Tt:(made73 zeroCells128).size=49984:=by unfold made73;rw[Array.size_setIfInBounds,Array.size_setIfInBounds,Array.size_setIfInBounds];exact zeroCells128_size
theorem ax(i:Nat)(h1:49920<=i)(h2:i<49968):(made73 zeroCells128)[i]?=some (Bg newS i):=by
 unfold made73;rw[Ah om,Ah om,Ah om];exact aw i h1 h2
theorem ay(i:Nat)(h1:49980<=i)(h2:i<49984):(made73 zeroCells128)[i]?=some (Bg newS i):=by
 have hs:=zeroCells128_size;unfold made73;rcases(by omega:i=49980\/i=49981\/i=49982\/i=49983) with e | e | e | e <;> subst e
 ·rw[Ah om,Ah om,Ay om];rfl
 ·rw[Ah om,Ay (by rw[Array.size_setIfInBounds];omega)];rfl
 ·rw[Ay (by rw[Array.size_setIfInBounds,Array.size_setIfInBounds];omega)];rfl
 ·rw[Ah om,Ah om,Ah om,QV];rfl
theorem az(w:Wd)(cs:Array Value)(t:TypeId)(n:Nat)(h:cs.size=n):Sto (w.alloc (.cells cs t)) w.heap.size t n (fun i=>cs[i]?.getD undef):=
 ⟨cs,by show (w.heap.push _)[w.heap.size]?=_;simp,h,fun i hi=>by
  have e:cs[i]?=some cs[i]:=Array.getElem?_eq_getElem om
  simp only[e];rfl⟩
theorem WP(i:Nat)(h:i<49920):Bg newS i=(ckc Gk).getD (i % 130) undef:=by unfold Bg;rw[AJ h];rfl
theorem Chg.fresh{u w w':Wd}{g:Nat}(h:Chg No u w)(h2:Chg (·=g) w w')(hg:u.heap.size<=g):Chg No u w':=h.trans' h2 (fun i hi e=>om)
theorem WQ(w:Wd) :Calls prog 29 #[] w fun e w'=>e=.returned (.pointer (some ⟨w.heap.size,0,none⟩))/\BI w' w.heap.size newS/\Chg No w w':=by
 have it:=az w (made73 zeroCells128) 128 49984 Tt;have La:Chg No w (w.alloc (.cells (made73 zeroCells128) 128)):=(Chg.refl _ _).alloc _;have HM:Hid (((zeroCells128.setIfInBounds 49980 (Value.bool true)).setIfInBounds 49981 (Value.bool false)).setIfInBounds 49982 (Value.int IntKind.i64 0)=(made73 zeroCells128)):=rfl;go_enter func29,ntmps29;go_wp2_with fail;rw[HM.out];generalize hq:w.heap.size=q at *
 have no:=Ak hq;have HQ:=BE hq;generalize w.alloc (.cells (made73 zeroCells128) 128)=w1 at *
 go_loopw [6] (fun t6 wr=>∃(b:Nat) (f:Nat->Value),b<=12/\t6=.int .i64 b/\Sto wr q 128 49984 f/\(∀i,49920<=i->i<49968->f i=Bg newS i)/\(∀i,49980<=i->i<49984->f i=Bg newS i)/\(∀i,i<4160*b->f i=Bg newS i)/\(∀c,c<b->f (49968+c)=.int .i64 0)/\Chg No w wr) (fun t6 _=>12 - (intOf t6).toNat)
 case atStart=>exact⟨0,_,om,rfl,it,fun i h1 h2=>by rw[ax i h1 h2];rfl,fun i h1 h2=>by rw[ay i h1 h2];rfl,fun i hi=>om,fun c hc=>om,La⟩
 case round=>
  obtain⟨b,f,hb,rfl,hB,h1,h2,h3,h4,hG⟩:=hrel;by_cases ar:b<12
  ·have H1:=BE h1;have H2:=BE h2;have H3:=BE h3;have H4:=BE h4;go_wp2_with fail;refine(JM q b ar f _ hB).mono ?_;rintro e w2 ⟨rfl,hv,hk⟩;have kd:=hG.fresh hk no;go_wp2;refine⟨⟨b+1,_,om,by go_num,hv,fun i g1 g2=>?_,fun i g1 g2=>?_,fun i g1=>?_,fun c g1=>?_,kd⟩,by simp[intOf];omega⟩
   ·rw[Br,AI om];unfold Fb;rw[AI om];exact H1 i g1 g2
   ·rw[Br,AI om];unfold Fb;rw[AI om];exact H2 i g1 g2
   ·rw[Br,AI om];unfold Fb;by_cases hc:4160*b<=i
    ·rw[AJ om,WP i om]
    ·rw[AI om];exact H3 i om
   ·rw[Br];by_cases hc:c=b
    ·rw[AJ om]
    ·rw[AI om];unfold Fb;rw[AI om];exact H4 c om
  ·have e:b=12:=om;subst e;have hC:BI wr q newS:=hB.ext fun i hi=>by
    by_cases g1:i<49920
    ·exact h3 i om
    ·by_cases g2:i<49968
     ·exact h1 i om g2
     ·by_cases g3:i<49980
      ·have:=h4 (i - 49968) om;rw[show 49968+(i - 49968)=i from om] at this;rw[this];have h5:=EM newS (i - 49968) om;rw[show 49968+(i - 49968)=i from om] at h5;rw[h5];rfl
      ·exact h2 i om hi
   go_wp2;go_ret;rw[HQ.out];exact⟨rfl,hC,hG⟩
section
variable {s:BM}{x:Jj}
def nerrV:Nat->Value
 | 0=>.nilIface
 | n+1=>.iface 57 (.int .i64 (n+1:Nat))
theorem BM.Ok.off(h:s.Ok):(ap s).Ok:=⟨h.ch,h.bl,(by decide:0<9223372036854775808),h.lo,h.hi⟩
theorem GH(n:Int) : -9223372036854775808<=wrap64 n:=by unfold wrap64;omega
theorem GI(n:Int):wrap64 n<9223372036854775808:=by unfold wrap64;omega
theorem BM.Ok.go(h:s.Ok):(Jk s).Ok:=⟨h.ch,h.bl,by have:=h.bud;show (if s.lim then s.bud - 1 else s.bud)<_;split <;> omega,GH _,GI _⟩
theorem OX(h:x.Ok):(failW x).Ok:=⟨by have:=h.ahead;show x.ahead - 1<_;omega,fun e=>by have:=h.none e;show x.ahead - 1=0;omega,h.lo,h.hi⟩
theorem OY(h:x.Ok):(failE x).Ok:=⟨h.ahead,h.none,h.lo,h.hi⟩
theorem a9{l:List Nat}(h:l.length=64)(hb:Bys l):(OO l).Ok:=⟨h,h,hb,hb,(by decide:0<=64)⟩
theorem Hp(g:Nat)(s:BM)(w:Wd)(hs:s.Ok)(h:BI w g s)(hn:¬ (s.lim=true/\s.bud=0)):Calls prog 242 #[.pointer (some ⟨g,0,none⟩)] w fun e w'=>e=.returned (.bool true)/\BI w' g (Jk s)/\Chg (·=g) w w':=by
 cases hl:s.lim with
 | false=>exact Tp g s w h hl
 | true=>exact Tq g s w hs h hl (fun e=>hn ⟨hl,e⟩)
def mF (s:BM) (b:Nat):BM:={ (s.setBl b { s.bl b with reads:=0 }) with ch:=fun j=>if 32*b<=j/\j<32*b+32 then Gk else s.ch j }
theorem BM.Ok.er(h:s.Ok)(b:Nat):(mF s b).Ok:=by
 have h1:(s.setBl b { s.bl b with reads:=0 }).Ok:=h.setBl b ⟨(h.bl b).ahead,(h.bl b).none,(by decide:(-9223372036854775808:Int)<=0),(by decide:(0:Int)<9223372036854775808)⟩;refine⟨fun c=>?_,h1.bl,h1.bud,h1.lo,h1.hi⟩;show (if 32*b<=c/\c<32*b+32 then Gk else s.ch c).Ok;split
 ·exact R0
 ·exact h.ch c
theorem WR(s:BM)(b:Nat)(hb:b<12)(i:Nat):upL (Fb (Bg s) b 32) (49968+b) [.int .i64 0] i=Bg (mF s b) i:=by
 by_cases h1:i<49920
 ·rw[Br,AI om];unfold Fb Bg;rw[AJ h1,AJ h1];show _=(ckc (if 32*b<=i / 130/\i / 130<32*b+32 then Gk else s.ch (i / 130))).getD (i % 130) undef;by_cases h:4160*b<=i/\i<4160*b+130*32
  ·rw[AJ h,AJ om]
  ·rw[AI h,AI om]
 ·have e1:Fb (Bg s) b 32 i=Bg s i:=by unfold Fb;rw[AI om]
  have e2:upL (Fb (Bg s) b 32) (49968+b) [.int .i64 0] i=upL (Bg s) (49968+b) [.int .i64 0] i:=by rw[Br,Br,e1]
  rw[e2,Fa s b hb 0 i];unfold Bg;rw[AI h1,AI h1];rfl
theorem QW(g b:Nat)(hb:b<12)(s:BM)(w:Wd)(h:BI w g s) :Calls prog 73 #[.pointer (some ⟨g,0,none⟩),.int .i64 b] w fun e w'=>e=.returned (.tuple #[])/\BI w' g (mF s b)/\Chg (·=g) w w':=by
 refine(JM g b hb _ w h).mono ?_;rintro e w' ⟨rfl,h1,h2⟩;exact⟨rfl,h1.ext fun i _=>WR s b hb i,h2⟩
def eraseR (s:BM) (b:Int):BM × Nat:=
 if ¬ (0<=b/\b<12) then (s,1) else
 if s.on=false then (s,7) else
 if s.lim=true/\s.bud=0 then (ap s,7) else
 if (failE (s.bl b.toNat)).failed=true then ((Jk s).setBl b.toNat (failE (s.bl b.toNat)),8) else
 (mF ((Jk s).setBl b.toNat (failE (s.bl b.toNat))) b.toNat,0)
theorem Id(h:s.Ok)(b:Int):(eraseR s b).1.Ok:=by
 unfold eraseR;split
 ·exact h
 ·split
  ·exact h
  ·split
   ·exact h.off
   ·split
    ·exact h.go.setBl _ (OY (h.bl _))
    ·exact(h.go.setBl _ (OY (h.bl _))).er _
theorem Tu(g:Nat)(s:BM)(hs:s.Ok)(b:Int)(w:Wd)(h:BI w g s) :Calls prog 220 #[.pointer (some ⟨g,0,none⟩),.int .i64 b] w fun e w'=>e=.returned (nerrV (eraseR s b).2)/\BI w' g (eraseR s b).1/\Chg (·=g) w w':=by
 unfold eraseR;by_cases hb:0<=b/\b<12
 ·rw[AI (by simpa using hb)];obtain⟨it,no⟩:=hb;have c1:=h.on;cases hon:s.on with
  | false=>
   rw[AJ rfl];rw[hon] at c1;go_enter func220,ntmps220;go_wp2_with fail;refine(BN b 12 it no _).mono ?_;rintro e w' ⟨rfl,rfl⟩;go_wp2;go_ret;exact⟨rfl,h,Chg.refl _ _⟩
  | true=>
   rw[AI (by simp)];rw[hon] at c1;by_cases hc:s.lim=true/\s.bud=0
   ·rw[AJ hc];obtain⟨hl,h0⟩:=hc;have HL:=BE hl;have H0:=BE h0;go_enter func220,ntmps220;go_wp2_with fail;refine(BN b 12 it no _).mono ?_;rintro e w' ⟨rfl,rfl⟩;go_wp2_with fail;refine(OT g s _ h HL H0).mono ?_;rintro e w' ⟨rfl,h1,hG⟩;go_wp2;go_ret;exact⟨rfl,h1,hG⟩
   ·rw[AI hc];obtain⟨n,rfl⟩:=Int.eq_ofNat_of_zero_le it;have hn:n<12:=om;rw[AP];have HS:=BE hs;have HC:=BE hc;cases hf:(failE (s.bl n)).failed with
    | true=>
     rw[AJ rfl];have HF:=BE hf;go_enter func220,ntmps220;go_wp2_with fail;refine(BN (n:Int) 12 it no _).mono ?_;rintro e w' ⟨rfl,rfl⟩;go_wp2_with fail;refine(Hp g s _ HS h HC).mono ?_;rintro e w1 ⟨rfl,h1,hG⟩;go_wp2_with fail;rw[show 49920+n*4=49920+4*n from om];refine(Ej g n hn (Jk s) _ h1).mono ?_;rintro e w2 ⟨rfl,h2,La⟩;rw[show (failE ((Jk s).bl n)).failed=true from HF.out];go_wp2;go_ret;exact⟨rfl,h2,hG.trans La⟩
    | false=>
     rw[AI (by simp)];have HF:=BE hf;go_enter func220,ntmps220;go_wp2_with fail;refine(BN (n:Int) 12 it no _).mono ?_;rintro e w' ⟨rfl,rfl⟩;go_wp2_with fail;refine(Hp g s _ HS h HC).mono ?_;rintro e w1 ⟨rfl,h1,hG⟩;go_wp2_with fail;rw[show 49920+n*4=49920+4*n from om];refine(Ej g n hn (Jk s) _ h1).mono ?_;rintro e w2 ⟨rfl,h2,La⟩;rw[show (failE ((Jk s).bl n)).failed=false from HF.out];have hv:=hG.trans La;go_wp2_with fail;refine(QW g n hn _ _ h2).mono ?_;rintro e w3 ⟨rfl,h3,ar⟩;go_wp2;go_ret;exact⟨rfl,h3,hv.trans ar⟩
 ·rw[AJ (by simpa using hb)];go_enter func220,ntmps220;go_wp2_with fail;refine(CN b 12 om _).mono ?_;rintro e w' ⟨rfl,rfl⟩;go_wp2;go_ret;exact⟨rfl,h,Chg.refl _ _⟩
end
section
variable {s:BM}
def Bz (s:BM) (a k:Int) (l:List Nat):BM × Nat:=
 if ¬ (0<=a/\a<96/\0<=k/\k<4)\/l.length≠64 then (s,1) else
 if s.on=false then (s,7) else
 if (s.ch (4*a.toNat+k.toNat)).is=true then (s,9) else
 if s.lim=true/\s.bud=0 then (ap s,7) else
 if (failW (s.bl (a.toNat / 8))).failed=true then ((Jk s).setBl (a.toNat / 8) (failW (s.bl (a.toNat / 8))),8) else
 (((Jk s).setBl (a.toNat / 8) (failW (s.bl (a.toNat / 8)))).setCh (4*a.toNat+k.toNat) (OO l),0)
theorem Tv(h:s.Ok)(a k:Int){l:List Nat}(hl:Bys l):(Bz s a k l).1.Ok:=by
 unfold Bz;split
 ·exact h
 ·rename_i h1;split
  ·exact h
  ·split
   ·exact h
   ·split
    ·exact h.off
    ·split
     ·exact h.go.setBl _ (OX (h.bl _))
     ·exact(h.go.setBl _ (OX (h.bl _))).setCh _ (a9 om hl)
theorem BI.is{w:Wd}{g:Nat}(h:BI w g s)(hs:s.Ok)(c:Nat)(hc:c<384):w.cell? ⟨g,130*c+128,none⟩=some (.bool (s.ch c).is):=by
 rw[Sto.cell h _ om];congr 1;exact gN (hs.ch c).now (hs.ch c).tru (KP s hs c hc)
theorem Mg(g:Nat)(s:BM)(c:Nat)(hc:c<384)(oo q cap:Nat)(hq:q≠g)(l:List Nat)(hl:l.length=64)(w:Wd)(h:BI w g s)(hsrc:∀i,i<64->w.cell? ⟨q,oo+i,none⟩=some (.int .u8 (l.getD i 0:Nat))) :Calls prog 268 #[.pointer (some ⟨g,130*c,none⟩),.slice (some ⟨q,oo,none⟩) 64 cap] w fun e w'=>e=.returned (.tuple #[])/\BI w' g (s.setCh c (OO l))/\Chg (·=g) w w':=by
 refine(OR g (130*c) 128 49984 _ om q oo cap hq l hl w h hsrc).mono ?_;rintro e w' ⟨rfl,h1,h2⟩;exact⟨rfl,h1.ext fun i _=>OJ s c hc _ (DL hl hl) i,h2⟩
theorem QX(g:Nat)(a k:Int)(h:a<0\/96<=a\/k<0\/4<=k)(v:Value)(w:Wd) :Calls prog 246 #[.pointer (some ⟨g,0,none⟩),.int .i64 a,.int .i64 k,v] w fun e w'=>e=.returned (nerrV 1)/\w'=w:=by
 go_enter func246,ntmps246;go_wp2_with fail;refine(QT a k h _).mono ?_;rintro e w' ⟨rfl,rfl⟩;go_wp2;go_ret;exact⟨rfl,rfl⟩
theorem QY(g:Nat)(a k:Int)(h0:0<=a)(h1:a<96)(h2:0<=k)(h3:k<4)(ad:Option Addr)(n cap:Nat)(hn:n≠64)(w:Wd) :Calls prog 246 #[.pointer (some ⟨g,0,none⟩),.int .i64 a,.int .i64 k,.slice ad n cap] w fun e w'=>e=.returned (nerrV 1)/\w'=w:=by
 have it:((n:Int) != 64)=true:=by rw[bne_iff_ne];omega
 go_enter func246,ntmps246;go_wp2_with fail;refine(Co a k h0 h1 h2 h3 _).mono ?_;rintro e w' ⟨rfl,rfl⟩;go_wp2;go_ret;exact⟨rfl,rfl⟩
theorem QZ(g:Nat)(s:BM)(hs:s.Ok)(a k:Nat)(ha:a<96)(hk:k<4)(l:List Nat)(hl:l.length=64)(q oo cap:Nat)(hq:q≠g)(w:Wd)(h:BI w g s)(hsrc:∀i,i<64->w.cell? ⟨q,oo+i,none⟩=some (.int .u8 (l.getD i 0:Nat)))(hqs:q<w.heap.size) :Calls prog 246 #[.pointer (some ⟨g,0,none⟩),.int .i64 a,.int .i64 k,.slice (some ⟨q,oo,none⟩) 64 cap] w fun e w'=>e=.returned (nerrV (Bz s a k l).2)/\BI w' g (Bz s a k l).1/\Chg (·=g) w w':=by
 unfold Bz;rw[AI om,AP,AP];have it:(0:Int)<=a:=om
 have Go:(a:Int)<96:=om
 have ar:(0:Int)<=k:=om
 have no:(k:Int)<4:=om
 have c1:=h.on;have c2:=h.is hs (4*a+k) om;have hv:=BE hsrc;have HL:=BE hl;have HS:=BE hs;rw[show 130*(4*a+k)+128=a*520+k*130+128 from om] at c2;cases hon:s.on with
 | false=>
  rw[AJ rfl];rw[hon] at c1;go_enter func246,ntmps246;go_wp2_with fail;refine(Co a k it Go ar no _).mono ?_;rintro e w' ⟨rfl,rfl⟩;go_wp2;go_ret;exact⟨rfl,h,Chg.refl _ _⟩
 | true=>
  rw[AI (by simp)];rw[hon] at c1;cases his:(s.ch (4*a+k)).is with
  | true=>
   rw[AJ rfl];rw[his] at c2;go_enter func246,ntmps246;go_wp2_with fail;refine(Co a k it Go ar no _).mono ?_;rintro e w' ⟨rfl,rfl⟩;go_wp2;go_ret;exact⟨rfl,h,Chg.refl _ _⟩
  | false=>
   rw[AI (by simp)];rw[his] at c2;by_cases hc:s.lim=true/\s.bud=0
   ·rw[AJ hc];have HC:=BE hc;go_enter func246,ntmps246;go_wp2_with fail;refine(Co a k it Go ar no _).mono ?_;rintro e w' ⟨rfl,rfl⟩;go_wp2_with fail;refine(OT g s _ h HC.out.1 HC.out.2).mono ?_;rintro e w' ⟨rfl,h1,hG⟩;go_wp2;go_ret;exact⟨rfl,h1,hG⟩
   ·rw[AI hc];have HC:=BE hc;cases hf:(failW (s.bl (a / 8))).failed with
    | true=>
     rw[AJ rfl];have HF:=BE hf;go_enter func246,ntmps246;go_wp2_with fail;refine(Co a k it Go ar no _).mono ?_;rintro e w' ⟨rfl,rfl⟩;go_wp2_with fail;refine(Hp g s _ HS h HC).mono ?_;rintro e w1 ⟨rfl,h1,hG⟩;go_wp2_with fail;rw[show 49920+a / 8*4=49920+4*(a / 8) from om];refine(Ei g (a / 8) om (Jk s) HS.out.go _ h1).mono ?_;rintro e w2 ⟨rfl,h2,kd⟩;rw[show (failW ((Jk s).bl (a / 8))).failed=true from HF.out];go_wp2;go_ret;exact⟨rfl,h2,hG.trans kd⟩
    | false=>
     rw[AI (by simp)];have HF:=BE hf;go_enter func246,ntmps246;go_wp2_with fail;refine(Co a k it Go ar no _).mono ?_;rintro e w' ⟨rfl,rfl⟩;go_wp2_with fail;refine(Hp g s _ HS h HC).mono ?_;rintro e w1 ⟨rfl,h1,hG⟩;go_wp2_with fail;rw[show 49920+a / 8*4=49920+4*(a / 8) from om];refine(Ei g (a / 8) om (Jk s) HS.out.go _ h1).mono ?_;rintro e w2 ⟨rfl,h2,kd⟩;rw[show (failW ((Jk s).bl (a / 8))).failed=false from HF.out];have hx:=hG.trans kd;have La:=BE fun i (hi:i<64)=>(Ag (a:=⟨q,oo+i,none⟩) (hx.block q hqs hq)).trans (hv.out i hi);go_wp2_with fail;rw[show a*520+k*130=130*(4*a+k) from om];refine(Mg g _ (4*a+k) om oo q cap hq l HL _ h2 La).mono ?_;rintro e w3 ⟨rfl,h3,hg⟩;have h6:=hx.trans hg;go_wp2;go_ret;exact⟨rfl,h3,h6⟩
theorem Tw(g:Nat)(s:BM)(hs:s.Ok)(a k:Int)(l:List Nat)(v:Value)(w:Wd)(hv:Ca w v l)(hq:v.ownBlock≠some g)(h:BI w g s) :Calls prog 246 #[.pointer (some ⟨g,0,none⟩),.int .i64 a,.int .i64 k,v] w fun e w'=>e=.returned (nerrV (Bz s a k l).2)/\BI w' g (Bz s a k l).1/\Chg (·=g) w w':=by
 by_cases hc:0<=a/\a<96/\0<=k/\k<4
 ·obtain⟨ad,it,rfl,hx⟩:=hv;by_cases hl:l.length=64
  ·obtain⟨a,rfl⟩:=Int.eq_ofNat_of_zero_le hc.1;obtain⟨k,rfl⟩:=Int.eq_ofNat_of_zero_le hc.2.2.1;rcases hx with hx | ⟨q,oo,rfl,no,hx⟩
   ·omega
   ·rw[hl] at hx hq ⊢;exact QZ g s hs a k om om l hl q oo it (fun e=>hq (by rw[e];rfl)) w h hx no
  ·have e:Bz s a k l=(s,1):=(by unfold Bz;rw[AJ (AL hl)]);rw[e];refine(QY g a k hc.1 hc.2.1 hc.2.2.1 hc.2.2.2 ad l.length it hl w).mono ?_;rintro e w' ⟨rfl,rfl⟩;exact⟨rfl,h,Chg.refl _ _⟩
 ·have e:Bz s a k l=(s,1):=by unfold Bz;rw[AJ (AK hc)]
  rw[e];refine(QX g a k om v w).mono ?_;rintro e w' ⟨rfl,rfl⟩;exact⟨rfl,h,Chg.refl _ _⟩
end
section
variable {s:BM}
def ER (s:BM) (b n:Int):BM × Nat:=if ¬ (0<=b/\b<12/\0<=n) then (s,1) else (s.setBl b.toNat { s.bl b.toNat with wf:=true,ahead:=n.toNat },0)
theorem Tx(h:s.Ok)(b n:Int)(hn:n<9223372036854775808):(ER s b n).1.Ok:=by
 unfold ER;split
 ·exact h
 ·exact h.setBl _ ⟨by show n.toNat<_;omega,fun e=>absurd e (by simp),(h.bl _).lo,(h.bl _).hi⟩
theorem Tz(g:Nat)(s:BM)(b n:Int)(w:Wd)(h:BI w g s) :Calls prog 40 #[.pointer (some ⟨g,0,none⟩),.int .i64 b,.int .i64 n] w fun e w'=>e=.returned (nerrV (ER s b n).2)/\BI w' g (ER s b n).1/\Chg (·=g) w w':=by
 unfold ER;by_cases hb:0<=b/\b<12
 ·obtain⟨hb0,hb1⟩:=hb;by_cases hn:n<0
  ·rw[AJ om];go_enter func40,ntmps40;go_wp2_with fail;refine(BN b 12 hb0 hb1 _).mono ?_;rintro e w' ⟨rfl,rfl⟩;go_wp2;go_ret;exact⟨rfl,h,Chg.refl _ _⟩
  ·rw[AI om];obtain⟨b,rfl⟩:=Int.eq_ofNat_of_zero_le hb0;rw[AP];have hb2:b<12:=om;have hr1:=h.setBl1 hb2 { s.bl b with wf:=true } rfl 1 om (.bool true) (by simp[KN]);have hr2:=hr1.setBl1 hb2 { s.bl b with wf:=true,ahead:=n.toNat } (by rw[OV]) 2 om (.int .i64 (n.toNat:Nat)) (by rw[OV];simp[KN]);rw[OU] at hr2;have hG:=((Chg.refl (·=g) w).at g (49920+4*b+1) (.bool true)).at g (49920+4*b+2) (.int .i64 (n.toNat:Nat));have c1:=Sto.cell h (49920+4*b+1) om;have c2:=Sto.cell h (49920+4*b+2) om;have f1:=Sto.frozen h (49920+4*b+1);have f2:=Sto.frozen h (49920+4*b+2);rw[show ((n.toNat:Nat):Int)=n from om] at hr2 hG;rw[show 49920+4*b=49920+b*4 from om] at *
   clear hr1;go_enter func40,ntmps40;go_wp2_with fail;refine(BN (b:Int) 12 hb0 hb1 _).mono ?_;rintro e w' ⟨rfl,rfl⟩;go_wp2;go_ret;exact⟨rfl,hr2,hG⟩
 ·rw[AJ om];go_enter func40,ntmps40;go_wp2_with fail;refine(CN b 12 om _).mono ?_;rintro e w' ⟨rfl,rfl⟩;go_wp2;go_ret;exact⟨rfl,h,Chg.refl _ _⟩
def ES (s:BM) (b:Int):BM × Nat:=if ¬ (0<=b/\b<12) then (s,1) else (s.setBl b.toNat { s.bl b.toNat with ef:=true },0)
theorem T8(h:s.Ok)(b:Int):(ES s b).1.Ok:=by
 unfold ES;split
 ·exact h
 ·exact h.setBl _ ⟨(h.bl _).ahead,(h.bl _).none,(h.bl _).lo,(h.bl _).hi⟩
theorem T9(g:Nat)(s:BM)(b:Int)(w:Wd)(h:BI w g s) :Calls prog 41 #[.pointer (some ⟨g,0,none⟩),.int .i64 b] w fun e w'=>e=.returned (nerrV (ES s b).2)/\BI w' g (ES s b).1/\Chg (·=g) w w':=by
 unfold ES;by_cases hb:0<=b/\b<12
 ·obtain⟨hb0,hb1⟩:=hb;rw[AI om];obtain⟨b,rfl⟩:=Int.eq_ofNat_of_zero_le hb0;rw[AP];have hb2:b<12:=om
  have hr1:=h.setBl1 hb2 { s.bl b with ef:=true } rfl 3 om (.bool true) (by simp[KN]);have hG:=(Chg.refl (·=g) w).at g (49920+4*b+3) (.bool true);have c1:=Sto.cell h (49920+4*b+3) om;have f1:=Sto.frozen h (49920+4*b+3);rw[show 49920+4*b=49920+b*4 from om] at *
  go_enter func41,ntmps41;go_wp2_with fail;refine(BN (b:Int) 12 hb0 hb1 _).mono ?_;rintro e w' ⟨rfl,rfl⟩;go_wp2;go_ret;exact⟨rfl,hr1,hG⟩
 ·rw[AJ om];go_enter func41,ntmps41;go_wp2_with fail;refine(CN b 12 om _).mono ?_;rintro e w' ⟨rfl,rfl⟩;go_wp2;go_ret;exact⟨rfl,h,Chg.refl _ _⟩
end
theorem UA(g:Nat)(s:BM)(b:Nat)(hb:b<12)(w:Wd)(h:BI w g s) :Calls prog 25 #[.pointer (some ⟨g,0,none⟩),.int .i64 b] w fun e w'=>e=.returned (.tuple #[.int .i64 (s.bl b).reads,.nilIface])/\Chg No w w':=by
 have hb0:(0:Int)<=(b:Int):=om
 have hb1:(b:Int)<12:=om
 have c1:=Sto.cell h (49968+b) om;rw[EM s b hb] at c1;go_enter func25,ntmps25;go_wp2_with fail;refine(BN (b:Int) 12 hb0 hb1 _).mono ?_;rintro e w' ⟨rfl,rfl⟩;go_wp2_with fail;refine(ON g (49968+b) _ c1).mono ?_;rintro e w' ⟨rfl,rfl⟩;go_wp2
 all_goals
  go_ret2;exact⟨rfl,(Chg.refl _ _)⟩
section
variable {s:BM}{w:Wd}{g:Nat}
def nz64:List Nat:=List.replicate 64 0
def nz256:List Nat:=List.replicate 256 0
theorem Fc:nz64.length=64:=by simp[nz64]
theorem bA(w:Wd):(Instr.makeSlice 48 (.int .i64 64) (.int .i64 64)).run prog w=.ok (.slice (some ⟨w.heap.size,0,none⟩) 64 64) (w.alloc (.cells (bcells nz64) 5)):=CZ w 64 64 rfl dc
theorem WS(w:Wd):(Instr.makeSlice 48 (.int .i64 256) (.int .i64 256)).run prog w=.ok (.slice (some ⟨w.heap.size,0,none⟩) 256 256) (w.alloc (.cells (bcells nz256) 5)):=CZ w 256 256 rfl dc
theorem KS{l:List Nat}{i:Nat}(h:i<l.length):(l.map byt)[i]?=some (.int .u8 (l.getD i 0:Nat)):=by
 rw[List.getElem?_map,AU h];simp[byt,AQ,AU h]
theorem BI.tru(h:BI w g s)(hs:s.Ok)(c:Nat)(hc:c<384)(j:Nat)(hj:j<64):w.cell? ⟨g,130*c+64+j,none⟩=some (.int .u8 ((s.ch c).tru.getD j 0:Nat)):=by
 rw[Sto.cell h _ om];congr 1;exact Mc (hs.ch c).now (KP s hs c hc) j _ (KS (by rw[(hs.ch c).tru];exact hj))
theorem BI.now(h:BI w g s)(hs:s.Ok)(c:Nat)(hc:c<384)(j:Nat)(hj:j<64):w.cell? ⟨g,130*c+j,none⟩=some (.int .u8 ((s.ch c).now.getD j 0:Nat)):=by
 rw[Sto.cell h _ om];congr 1;exact ak (KP s hs c hc) j _ (KS (by rw[(hs.ch c).now];exact hj))
theorem BI.alloc(h:BI w g s)(o:Obj):BI (w.alloc o) g s:=Sto.alloc h o
theorem Ie(g:Nat)(s:BM)(hs:s.Ok)(a k:Nat)(ha:a<96)(hk:k<4)(w:Wd)(h:BI w g s) :Calls prog 86 #[.pointer (some ⟨g,0,none⟩),.int .i64 a,.int .i64 k] w fun e w'=>e=.returned (.tuple #[.slice (some ⟨w.heap.size,0,none⟩) 64 64,.bool (s.ch (4*a+k)).is,.nilIface])/\Arr w' w.heap.size 5 (s.ch (4*a+k)).tru/\Chg No w w':=by
 have ha0:(0:Int)<=a:=om
 have ha1:(a:Int)<96:=om
 have hk0:(0:Int)<=k:=om
 have hk1:(k:Int)<4:=om
 have hmk:=bA;have hgs:=h.lt;have hC1:=h.alloc (.cells (bcells nz64) 5);have hA1:Arr (w.alloc (.cells (bcells nz64) 5)) w.heap.size 5 nz64:=Arr.new w 5 _;have HT:=BE (hC1.tru hs (4*a+k) om);have hl:=(hs.ch (4*a+k)).tru;have hA2:=hA1.row (lay nz64 0 (s.ch (4*a+k)).tru);rw[Jg _ _ (by rw[hl,Fc])] at hA2;have hG:Chg No w ((w.alloc (.cells (bcells nz64) 5)).setRow w.heap.size (bcells (s.ch (4*a+k)).tru)):=
  ⟨rfl,rfl,rfl,by simp,fun i hi _=>(setRow_other _ _ _ _ om).trans (Below.heap_alloc _ _ _ hi)⟩
 have hC2:BI ((w.alloc (.cells (bcells nz64) 5)).setRow w.heap.size (bcells (s.ch (4*a+k)).tru)) g s:=h.chg hG (fun f=>f);have c1:=hC2.is hs (4*a+k) om;rw[show 130*(4*a+k)=a*520+k*130 from om] at c1 HT;generalize s.ch (4*a+k)=x at *
 have hcp:=run_copy_row (P:=prog) (w.alloc (.cells (bcells nz64) 5)) 48 48 3 5 w.heap.size 0 64 64 ⟨g,a*520+k*130+64,none⟩ 64 64 (bcells nz64) 5 (x.tru.map byt) underlying48 J6 hA1 (by simp[hl]) (Md (by rw[hl];exact HT.out)) (by simp[hl,Be,Fc]) (Ey _);have e1:(List.take 0 (bcells nz64).toList ++ List.map byt x.tru ++ List.drop (0+(List.map byt x.tru).length) (bcells nz64).toList).toArray=bcells x.tru:=by
  rw[take_zero,A7,Ax (by simp[hl,bcells,Fc]),append_nil];rfl
 rw[e1,BA,hl] at hcp;clear e1 hC1 hA1 HT hC2 h;generalize (w.alloc (.cells (bcells nz64) 5)).setRow w.heap.size (bcells x.tru)=w2 at *
 go_enter func86,ntmps86;go_wp2_with fail;refine(Co a k ha0 ha1 hk0 hk1 _).mono ?_;rintro e w' ⟨rfl,rfl⟩;go_wp2_with fail;go_region
 all_goals
  go_wp2
  go_ret3
  exact⟨rfl,hA2.drew,hG.drew⟩
def pgTo (s:BM) (a:Nat):Nat->List Nat
 | 0=>[]
 | n+1=>pgTo s a n ++ (s.ch (4*a+n)).now
theorem DO(hs:s.Ok)(a n:Nat):(pgTo s a n).length=64*n:=by
 induction n with
 | zero=>rfl
 | succ n ih=>rw[pgTo,AV,ih,(hs.ch _).now];omega
theorem WT(hs:s.Ok)(a n:Nat):Bys (pgTo s a n):=by
 induction n with
 | zero=>intro m hm;cases hm
 | succ n ih=>intro m hm;rcases mem_append.1 hm with h | h;exact ih m h;exact(hs.ch _).nowB m h
def pgZ (s:BM) (a n:Nat):List Nat:=pgTo s a n ++ List.replicate (256 - 64*n) 0
theorem Qa(hs:s.Ok)(a n:Nat)(h:n<=4):(pgZ s a n).length=256:=by rw[pgZ,AV,DO hs,length_replicate];omega
theorem bC(hs:s.Ok)(a n:Nat)(h:n<4):lay (pgZ s a n) (n*64) (s.ch (4*a+n)).now=pgZ s a (n+1):=by
 have h1:=DO hs a n;unfold lay pgZ;rw[take_left' om,drop_append,Ax (by rw[h1,(hs.ch _).now];omega),A7,pgTo,Aq,h1,(hs.ch _).now,drop_replicate];congr 3;omega
theorem bE(a:Nat):pgZ s a 4=pgTo s a 4:=by simp[pgZ]
def WU (s:BM) (a:Nat):BM:=s.setBl (a / 8) { s.bl (a / 8) with reads:=wrap64 ((s.bl (a / 8)).reads+1) }
theorem Qb(h:s.Ok)(a:Nat):(WU s a).Ok:=h.setBl _ ⟨(h.bl _).ahead,(h.bl _).none,GH _,GI _⟩
theorem bF(g:Nat)(a:Int)(h:a<0\/96<=a)(w:Wd) :Calls prog 176 #[.pointer (some ⟨g,0,none⟩),.int .i64 a] w fun e w'=>e=.returned (.tuple #[.slice none 0 0,nerrV 1])/\Chg No w w':=by
 go_enter func176,ntmps176;go_wp2_with fail;refine(CN a 96 h _).mono ?_;rintro e w' ⟨rfl,rfl⟩;go_wp2
 all_goals
  go_ret2;exact⟨rfl,(Chg.refl _ _)⟩
theorem WV(g:Nat)(s:BM)(a:Int)(h0:0<=a)(h1:a<96)(w:Wd)(h:BI w g s)(hon:s.on=false) :Calls prog 176 #[.pointer (some ⟨g,0,none⟩),.int .i64 a] w fun e w'=>e=.returned (.tuple #[.slice none 0 0,nerrV 7])/\Chg No w w':=by
 have c1:=h.on;rw[hon] at c1;clear hon;go_enter func176,ntmps176;go_wp2_with fail;refine(BN a 96 h0 h1 _).mono ?_;rintro e w' ⟨rfl,rfl⟩;go_wp2
 all_goals
  go_ret2;exact⟨rfl,(Chg.refl _ _)⟩
theorem WW(g:Nat)(s:BM)(hs:s.Ok)(a:Nat)(ha:a<96)(w:Wd)(h:BI w g s)(hon:s.on=true) :Calls prog 176 #[.pointer (some ⟨g,0,none⟩),.int .i64 a] w fun e w'=>e=.returned (.tuple #[.slice (some ⟨w.heap.size,0,none⟩) 256 256,.nilIface])/\Arr w' w.heap.size 5 (pgTo s a 4)/\BI w' g (WU s a)/\Chg (·=g) w w':=by
 have ha0:(0:Int)<=a:=om
 have ha1:(a:Int)<96:=om
 have hmk:=WS;have hgs:=h.lt;have c1:=h.on;rw[hon] at c1;clear hon;have hC1:=h.alloc (.cells (bcells nz256) 5);have hA1:Arr (w.alloc (.cells (bcells nz256) 5)) w.heap.size 5 nz256:=Arr.new w 5 _;have hG1:Chg (·=g) w (w.alloc (.cells (bcells nz256) 5)):=(Chg.refl _ _).alloc _;have HS:=BE hs;clear h hs;go_enter func176,ntmps176;go_wp2_with fail;refine(BN (a:Int) 96 ha0 ha1 _).mono ?_;rintro e w' ⟨rfl,rfl⟩;go_wp2_with fail;clear hmk c1;generalize hq:w'.heap.size=q at *
 have hqs:=Ak hq;have HQ:=BE hq;clear hq;have hqg:q≠g:=om
 generalize w'.alloc (.cells (bcells nz256) 5)=w1 at *
 go_loopw [20] (fun t20 wr=>∃i:Nat,i<=4/\t20=.int .i64 i/\Arr wr q 5 (pgZ s a i)/\BI wr g s/\Chg (·=g) w' wr) (fun t20 _=>4 - (intOf t20).toNat)
 case atStart=>exact⟨0,om,rfl,hA1,hC1,hG1⟩
 case round=>
  clear hA1 hC1 hG1;obtain⟨i,hi,rfl,hA,hC,hG⟩:=hrel;by_cases hlt:i<4
  ·have hi0:(0:Int)<=(i:Int):=om;have hi1:(i:Int)<4:=om;have hn:=(HS.out.ch (4*a+i)).now;have hsrc:=hC.now HS.out (4*a+i) om;rw[show 130*(4*a+i)=a*520+i*130 from om] at hsrc;have hz:=Qa HS.out a i om;have hcp:=run_copy_row (P:=prog) wr.drew 48 48 3 5 q (i*64) (256 - i*64) (256 - i*64) ⟨g,a*520+i*130,none⟩ 64 64 (bcells (pgZ s a i)) 5 ((s.ch (4*a+i)).now.map byt) underlying48 J6 hA.drew (by rw[BA,hn];exact(Nat.min_eq_left om).symm) (Md (by rw[hn];exact hsrc)) (by simp[hn,Be,hz];omega) (Ey _);rw[show ((bcells (pgZ s a i)).toList.take (i*64) ++ (s.ch (4*a+i)).now.map byt ++ (bcells (pgZ s a i)).toList.drop (i*64+((s.ch (4*a+i)).now.map byt).length)).toArray=bcells (pgZ s a (i+1)) from by
    rw[Aq,<-bC HS.out a i hlt];exact Jf _ _ _,BA,hn] at hcp
   have hA2:=hA.drew.row (pgZ s a (i+1));have hG2:=hG.drew.setRow (g:=q) (AL om) (bcells (pgZ s a (i+1)));have hC2:BI (wr.drew.setRow q (bcells (pgZ s a (i+1)))) g s:=hC.drew.other (setRow_other _ _ _ _ (fun e=>hqg e.symm));clear hsrc hz hn hA hC hG;generalize wr.drew.setRow q (bcells (pgZ s a (i+1)))=w2 at *
   go_wp2_with fail;go_region
   all_goals
    go_wp2;exact⟨⟨i+1,om,by go_num,hA2,hC2,hG2⟩,by simp[intOf];omega⟩
  ·have e4:i=4:=om;subst e4;rw[bE] at hA;have c2:=Sto.cell hC (49968+a / 8) om;rw[EM s (a / 8) om] at c2;have f2:=Sto.frozen hC (49968+a / 8);have hC2:BI (wr.setCell ⟨g,49968+a / 8,none⟩ (.int .i64 (wrap64 ((s.bl (a / 8)).reads+1)))) g (WU s a):=Sto.ext (Sto.setCell hC _ _) (fun i _=>Fa s (a / 8) om _ i);have hA2:=hA.setOther (k:=g) (fun e=>hqg e.symm) (49968+a / 8) (.int .i64 (wrap64 ((s.bl (a / 8)).reads+1)));have hG2:=hG.at g (49968+a / 8) (.int .i64 (wrap64 ((s.bl (a / 8)).reads+1)));go_wp2_with fail;refine(Ry g (49968+a / 8) _ c2 f2).mono ?_;rintro e w2 ⟨rfl,rfl⟩;clear hA hC hG c2 f2;go_wp2;go_ret2;rw[HQ.out];exact⟨rfl,hA2,hC2,hG2⟩
end
section
variable (w:Wd)
theorem Qc:(binOp .neq 46 (.iface 57 (.int .i64 1)) .nilIface).run prog w=.ok (.bool true) w:=kr
theorem Qd:(binOp .neq 46 (.iface 57 (.int .i64 7)) .nilIface).run prog w=.ok (.bool true) w:=kr
theorem Qe:(binOp .neq 46 (.iface 57 (.int .i64 8)) .nilIface).run prog w=.ok (.bool true) w:=kr
theorem Qf:(binOp .neq 46 (.iface 57 (.int .i64 9)) .nilIface).run prog w=.ok (.bool true) w:=kr
end
def nIsCode (c:Nat):Prop:=c=0\/c=1\/c=7\/c=8\/c=9
theorem OZ(s:BM)(a k:Int)(l:List Nat):nIsCode (Bz s a k l).2:=by
 unfold Bz nIsCode;split
 ·simp
 ·split
  ·simp
  ·split
   ·simp
   ·split
    ·simp
    ·split <;> simp
def readV (s:BM) (a:Int):BM × List Nat × Nat:=if ¬ (0<=a/\a<96) then (s,[],1) else if s.on=false then (s,[],7) else (WU s a.toNat,pgTo s a.toNat 4,0)
theorem KT(s:BM)(a:Int):nIsCode (readV s a).2.2:=by
 unfold readV nIsCode;split
 ·simp
 ·split <;> simp
theorem WX{s:BM}(h:s.Ok)(a:Int):(readV s a).1.Ok:=by
 unfold readV;split
 ·exact h
 ·split
  ·exact h
  ·exact Qb h _
theorem Qg(g:Nat)(s:BM)(hs:s.Ok)(a:Int)(w:Wd)(h:BI w g s) :Calls prog 176 #[.pointer (some ⟨g,0,none⟩),.int .i64 a] w fun e w'=>∃ad n cap,e=.returned (.tuple #[.slice ad n cap,nerrV (readV s a).2.2])/\n=(readV s a).2.1.length/\DR w' w.heap.size 5 (.slice ad n cap) (readV s a).2.1/\BI w' g (readV s a).1/\Chg (·=g) w w':=by
 unfold readV;by_cases hc:0<=a/\a<96
 ·rw[AI (by simpa using hc)];cases hon:s.on with
  | false=>
   rw[AJ rfl];refine(WV g s a hc.1 hc.2 w h hon).mono ?_;rintro e w' ⟨rfl,hG⟩;exact⟨_,_,_,rfl,rfl,AK (Own.nil _ _ _),h.chg hG (fun f=>f),hG.mono (fun _ _ f=>f.elim)⟩
  | true=>
   rw[AI (by simp)];obtain⟨a,rfl⟩:=Int.eq_ofNat_of_zero_le hc.1;refine(WW g s hs a om w h hon).mono ?_;rintro e w' ⟨rfl,hA,hC,hG⟩;exact⟨_,_,_,rfl,(DO hs a 4).symm,hA.own (AM _) 256 (DO hs a 4).symm (by unfold maxLen;omega),hC,hG⟩
 ·rw[AJ (by simpa using hc)];refine(bF g a om w).mono ?_;rintro e w' ⟨rfl,hG⟩;exact⟨_,_,_,rfl,rfl,AK (Own.nil _ _ _),h.chg hG (fun f=>f),hG.mono (fun _ _ f=>f.elim)⟩
section
variable {Dt X L:List Nat}{c p o s:Nat}{l:Bool}
theorem UB(s:BM)(a:Nat):∀n,pgTo s a n=flat (fun k=>(s.ch (4*a+k)).now) n:=by
 intro n
 induction n with
 | zero=>rfl
 | succ n ih=>rw[IY,<-ih];rfl
theorem UC{s:BM}(hs:s.Ok)(a k:Nat)(hk:k<4):part 64 (pgTo s a 4) k=(s.ch (4*a+k)).now:=by
 rw[UB];exact TZ 4 (fun i _=>(hs.ch _).now) k hk
theorem WY(a b:List Nat):∀n,dmgTo a b n=wt (df a b) n:=by
 intro n
 induction n with
 | zero=>rfl
 | succ n ih=>
  show dmgTo a b n+_=wt (df a b) n+_;rw[ih];congr 1;by_cases h:a.getD n 0=b.getD n 0
  ·rw[AJ h,AJ (Fw.2 h)]
  ·rw[AI h,AI (fun e=>h (Fw.1 e))]
theorem gQ(k:Ji):dmg k=ds k.now k.tru:=WY _ _ 64
structure Pg where
 tagged:Bool
 p:Nat
 o:Nat
 s:Nat
 c:Nat
 l:Bool
 sound:Bool
 data:List Nat
 dmg:Nat
def dmgs (d c:Nat->Nat):Nat->Nat
 | 0=>0
 | k+1=>if c k=0 then max (dmgs d c k) (d k) else dmgs d c k
theorem KU{d c d' c':Nat->Nat}:∀n,(∀k,k<n->d k=d' k/\c k=c' k)->dmgs d c n=dmgs d' c' n:=by
 intro n
 induction n with
 | zero=>intro _;rfl
 | succ n ih=>
  intro h;obtain⟨h1,h2⟩:=h n om;show (if c n=0 then max (dmgs d c n) (d n) else dmgs d c n)=(if c' n=0 then max (dmgs d' c' n) (d' n) else dmgs d' c' n);rw[ih (fun k hk=>h k om),h1,h2]
def DmgR (L:List Nat) (m:Nat):Prop:=∃(R:Nat->List Nat) (d c:Nat->Nat),(∀k,k<4->MsgR L (k:Nat) (R k) (d k) (c k))/\m=dmgs d c 4
theorem DmgR.unique{m m':Nat}(h:DmgR L m)(h':DmgR L m'):m=m':=by
 obtain⟨R,d,c,h1,rfl⟩:=h;obtain⟨R',d',c',h2,rfl⟩:=h';exact KU 4 (fun k hk=>(h1 k hk).unique (h2 k hk) |>.2)
def KV (B:List Nat) (bc:Nat) (n:Int):Prop:=bc=0/\VD B/\((fld B 0 2:Nat):Int)=n
def ToldR (L:List Nat) (n:Int) (g:Pg):Prop:=
 DmgR L g.dmg/\∃(B:List Nat) (bd bc:Nat),BodR L B bd bc /\
  ((¬ KV B bc n/\g.tagged=false/\g.p=0/\g.o=0/\g.s=0/\g.c=0/\g.l=false/\g.sound=false/\g.data=[]) \/
   (KV B bc n/\g.tagged=true/\g.p=fld B 0 2/\g.o=fld B 2 1/\g.s=fld B 3 5/\g.c=fld B 8 1/\g.l=FW B /\
    ∃(D:List Nat) (dd dc:Nat),DatR L D dd dc/\((dc≠0/\g.sound=false/\g.data=[])\/(dc=0/\g.sound=true/\g.data=D))))
theorem ToldR.unique{n:Int}{g g':Pg}(h:ToldR L n g)(h':ToldR L n g'):g=g':=by
 obtain⟨t1,p1,o1,s1,c1,l1,u1,e1,m1⟩:=g;obtain⟨t2,p2,o2,s2,c2,l2,u2,e2,m2⟩:=g';obtain⟨hm,B,bd,bc,hB,hr⟩:=h;obtain⟨it,B',kd,hk,Go,ar⟩:=h';obtain⟨rfl,rfl,rfl⟩:=hB.unique Go;obtain rfl:m1=m2:=hm.unique it;rcases hr with ⟨hn,q1,q2,q3,q4,q5,q6,q7,q8⟩ | ⟨hy,q1,q2,q3,q4,q5,q6,D,dd,dc,hD,q7⟩ <;>
  rcases ar with ⟨no,r1,r2,r3,r4,r5,r6,r7,r8⟩ | ⟨hv,r1,r2,r3,r4,r5,r6,D',dd',ha,La,r7⟩
 ·simp only at q1 q2 q3 q4 q5 q6 q7 q8 r1 r2 r3 r4 r5 r6 r7 r8;subst q1 q2 q3 q4 q5 q6 q7 q8 r1 r2 r3 r4 r5 r6 r7 r8;rfl
 ·exact absurd hv hn
 ·exact absurd hy no
 ·obtain⟨rfl,rfl,rfl⟩:=hD.unique La;simp only at q1 q2 q3 q4 q5 q6 q7 r1 r2 r3 r4 r5 r6 r7;rcases q7 with ⟨x1,x2,x3⟩ | ⟨x1,x2,x3⟩ <;> rcases r7 with ⟨y1,y2,y3⟩ | ⟨y1,y2,y3⟩
  ·subst q1 q2 q3 q4 q5 q6 r1 r2 r3 r4 r5 r6 x2 x3 y2 y3;rfl
  ·exact absurd y1 x1
  ·exact absurd x1 y1
  ·subst q1 q2 q3 q4 q5 q6 r1 r2 r3 r4 r5 r6 x2 x3 y2 y3;rfl
theorem WZ{Z R:List Nat}{k d:Nat}(hD:Dt.length=174)(bD:Bys Dt)(hZ:Z.length=50)(bZ:Bys Z)(hX:X.length=256)(hk:k<4)(h:MsgR X (k:Nat) R d c) :(hurt Dt Z X k<=2->d=hurt Dt Z X k/\c=0)/\(2<hurt Dt Z X k->hurt Dt Z X k<=4->c=5):=by
 rcases h with ⟨h,_⟩ | ⟨i,hi,e,_,⟨hn,rfl,rfl,rfl⟩ | ⟨hg,rfl⟩⟩
 ·exact absurd ⟨hX,om,om⟩ h
 ·obtain rfl:k=i:=om
  refine⟨fun h2=>?_,fun _ _=>rfl⟩;have:=DN hD bD hZ bZ hi h2 hn;cases this
 ·obtain rfl:k=i:=om
  refine⟨fun h2=>?_,fun h2 h4=>?_⟩
  ·have:=AR (DN hD bD hZ bZ hi h2 hg.1);exact⟨(Prod.mk.inj this).2,rfl⟩
  ·have:=KF hg.1 (EK hD bD hZ bZ k hi) h2 h4;cases this
theorem ToldR.mends{g:Pg}(hD:Dt.length=174)(bD:Bys Dt)(hm:DY p o s c l)(hX:X.length=256)(h:ToldR X (p:Nat) g)(h2:∀k,k<4->hurt Dt (body p o s c l) X k<=2) :g.tagged=true/\g.p=p/\g.o=o/\g.s=s/\g.c=c/\g.l=l/\g.sound=true/\g.data=Dt /\g.dmg=max (max (max (hurt Dt (body p o s c l) X 0) (hurt Dt (body p o s c l) X 1)) (hurt Dt (body p o s c l) X 2)) (hurt Dt (body p o s c l) X 3):=by
 have hZ:=BS p o s c l;have bZ:=Ce p o s c l;obtain⟨f0,f1,f2,f3,f4⟩:=Ho p o s c l hm;have hI:=MZ p o s c l hm;obtain⟨⟨R,d,cc,hd,it⟩,B,bd,bc,hB,hr⟩:=h;obtain⟨rfl,-,rfl⟩:=KH hD bD hZ bZ hX hB (h2 3 om);have hT:KV (body p o s c l) 0 (p:Nat):=⟨rfl,hI,by rw[f0]⟩;rcases hr with ⟨hn,_⟩ | ⟨_,q1,q2,q3,q4,q5,q6,D,dd,dc,no,q7⟩
 ·exact absurd hT hn
 ·obtain⟨rfl,-,rfl⟩:=KG hD bD hZ bZ hX no (by have:=h2 0 om;have:=h2 1 om;have:=h2 2 om;omega);rw[f0] at q2;rw[f1] at q3;rw[f2] at q4;rw[f3] at q5;rw[f4] at q6;refine⟨q1,q2,q3,q4,q5,q6,?_,?_,?_⟩
  ·rcases q7 with ⟨x,_⟩ | ⟨_,x,_⟩
   ·exact absurd rfl x
   ·exact x
  ·rcases q7 with ⟨x,_⟩ | ⟨_,_,x⟩
   ·exact absurd rfl x
   ·exact x
  ·have e:∀k,k<4->d k=hurt D (body p o s c l) X k/\cc k=0:=fun k hk=>(WZ hD bD hZ bZ hX hk (hd k hk)).1 (h2 k hk);rw[it];simp only[dmgs,(e 0 om).1,(e 0 om).2,(e 1 om).1,(e 1 om).2,(e 2 om).1,(e 2 om).2,(e 3 om).1,(e 3 om).2,if_true];omega
theorem ToldR.told{g:Pg}(hD:Dt.length=174)(bD:Bys Dt)(hm:DY p o s c l)(hX:X.length=256)(h:ToldR X (p:Nat) g)(h4:∀k,k<4->hurt Dt (body p o s c l) X k<=4) :(g.tagged=true<->hurt Dt (body p o s c l) X 3<=2) /\(g.sound=true<->(hurt Dt (body p o s c l) X 3<=2/\hurt Dt (body p o s c l) X 0<=2/\hurt Dt (body p o s c l) X 1<=2/\hurt Dt (body p o s c l) X 2<=2)) /\g.dmg<=2/\(g.tagged=true->g.p=p/\g.o=o/\g.s=s/\g.c=c/\g.l=l)/\(g.sound=true->g.data=Dt)/\(g.sound=false->g.data=[]):=by
 have hZ:=BS p o s c l;have bZ:=Ce p o s c l;obtain⟨f0,f1,f2,f3,f4⟩:=Ho p o s c l hm;have hI:=MZ p o s c l hm;obtain⟨⟨R,d,cc,hd,ar⟩,B,bd,bc,hB,hr⟩:=h;have it:g.dmg<=2:=by
  rw[ar];have e:∀k,k<4->d k<=2:=fun k hk=>(hd k hk).code.2.2;have:∀n,n<=4->dmgs d cc n<=2:=by
   intro n
   induction n with
   | zero=>intro _;exact Ac _
   | succ n ih=>
    intro hn;have h1:=ih om;have h2:=e n om;show (if cc n=0 then max (dmgs d cc n) (d n) else dmgs d cc n)<=2;split <;> omega
  exact this 4 om
 have a0:=h4 0 om;have a1:=h4 1 om;have a2:=h4 2 om;have a3:=h4 3 om;by_cases h3:hurt Dt (body p o s c l) X 3<=2
 ·obtain⟨rfl,-,rfl⟩:=KH hD bD hZ bZ hX hB h3;have hT:KV (body p o s c l) 0 (p:Nat):=⟨rfl,hI,by rw[f0]⟩;rcases hr with ⟨hn,_⟩ | ⟨_,q1,q2,q3,q4,q5,q6,D,dd,dc,La,q7⟩
  ·exact absurd hT hn
  ·rw[f0] at q2;rw[f1] at q3;rw[f2] at q4;rw[f3] at q5;rw[f4] at q6;by_cases no:max (max (hurt Dt (body p o s c l) X 0) (hurt Dt (body p o s c l) X 1)) (hurt Dt (body p o s c l) X 2)<=2
   ·obtain⟨rfl,-,rfl⟩:=KG hD bD hZ bZ hX La no;rcases q7 with ⟨x,_⟩ | ⟨_,x,y⟩
    ·exact absurd rfl x
    ·exact⟨⟨fun _=>h3,fun _=>q1⟩,⟨fun _=>⟨h3,om,om,om⟩,fun _=>x⟩,it,fun _=>⟨q2,q3,q4,q5,q6⟩,fun _=>y,fun e=>(by rw[x] at e;cases e)⟩
   ·obtain⟨rfl,-,rfl⟩:=Ta hD bD hZ bZ hX La om om;rcases q7 with ⟨_,x,y⟩ | ⟨x,_⟩
    ·exact⟨⟨fun _=>h3,fun _=>q1⟩,⟨fun e=>(by rw[x] at e;cases e),fun e=>absurd om no⟩,it,fun _=>⟨q2,q3,q4,q5,q6⟩,fun e=>(by rw[x] at e;cases e),fun _=>y⟩
    ·exact absurd x dc
 ·obtain⟨rfl,-,rfl⟩:=Tb hD bD hZ bZ hX hB om a3;rcases hr with ⟨_,q1,q2,q3,q4,q5,q6,q7,q8⟩ | ⟨⟨x,_⟩,_⟩
  ·exact⟨⟨fun e=>(by rw[q1] at e;cases e),fun e=>absurd e h3⟩,⟨fun e=>(by rw[q7] at e;cases e),fun e=>absurd e.1 h3⟩,it,fun e=>(by rw[q1] at e;cases e),fun e=>(by rw[q7] at e;cases e),fun _=>q8⟩
  ·exact absurd x dc
end
section
variable {s:BM}{a:Int}{W:Nat->List Nat}
def Pg.zero:Pg:=⟨false,0,0,0,0,false,false,[],0⟩
def ReadR (s:BM) (r:Int) (a:Int) (s':BM) (r':Int) (g:Pg) (c:Nat):Prop:=
 s'=(readV s a).1/\c=(readV s a).2.2/\((c≠0/\r'=r/\g=Pg.zero)\/(c=0/\r'=wrap64 (r+1)/\ToldR (readV s a).2.1 a g))
theorem ReadR.ok{r:Int}{s1:BM}{r1:Int}{g1:Pg}{c1:Nat}(h:ReadR s r a s1 r1 g1 c1)(hs:s.Ok):s1.Ok:=by
 rw[h.1];exact WX hs a
def wrN (s:BM) (a:Int) (W:Nat->List Nat):Nat->BM × Nat
 | 0=>(s,0)
 | n+1=>if (wrN s a W n).2=0 then Bz (wrN s a W n).1 a n (W n) else wrN s a W n
theorem Mh(hs:s.Ok)(a:Int):∀n,(∀k,k<n->Bys (W k))->(wrN s a W n).1.Ok:=by
 intro n
 induction n with
 | zero=>intro _;exact hs
 | succ n ih=>
  intro hW;have h1:=ih (fun k hk=>hW k om);show (if (wrN s a W n).2=0 then Bz (wrN s a W n).1 a n (W n) else wrN s a W n).1.Ok;split
  ·exact Tv h1 _ _ (hW n om)
  ·exact h1
theorem Wa(s:BM)(a:Int)(W:Nat->List Nat):∀n,nIsCode (wrN s a W n).2:=by
 intro n
 induction n with
 | zero=>exact AK rfl
 | succ n ih=>
  show nIsCode (if (wrN s a W n).2=0 then Bz (wrN s a W n).1 a n (W n) else wrN s a W n).2;split
  ·exact OZ _ _ _ _
  ·exact ih
def Pg.Is (g:Pg) (p o q c:Nat) (l:Bool) (Dt:List Nat):Prop:=g.tagged=true/\(g.p=p/\g.o=o/\g.s=q/\g.c=c/\g.l=l)/\g.sound=true/\g.data=Dt
def ProgR (s:BM) (r:Int) (a p o q c:Nat) (l:Bool) (Dt:List Nat) (s':BM) (r':Int) (e:Nat):Prop:=
 ((wrN s a (wordOf Dt (body p o q c l)) 4).2≠0/\s'=(wrN s a (wordOf Dt (body p o q c l)) 4).1/\r'=r/\e=(wrN s a (wordOf Dt (body p o q c l)) 4).2) \/
 ((wrN s a (wordOf Dt (body p o q c l)) 4).2=0/\∃g x,ReadR (wrN s a (wordOf Dt (body p o q c l)) 4).1 r a s' r' g x/\((x≠0/\e=x)\/(x=0/\g.Is p o q c l Dt/\e=0)\/(x=0/\¬ g.Is p o q c l Dt/\e=8)))
theorem Wb{n:Nat}(h:(wrN s a W n).2≠0):∀m,wrN s a W (n+m)=wrN s a W n:=by
 intro m
 induction m with
 | zero=>rfl
 | succ m ih=>
  show (if (wrN s a W (n+m)).2=0 then _ else wrN s a W (n+m))=_;rw[ih,AI h]
end
section
variable {a:Nat}{Dt Z:List Nat}
theorem Wc{t:BM}(ht:t.Ok){k:Nat}(hk:k<4)(h:(t.ch (4*a+k)).tru=wordOf Dt Z k):hurt Dt Z (pgTo t a 4) k=dmg (t.ch (4*a+k)):=by
 rw[hurt,UC ht a k hk,gQ,h]
theorem EN(hD:Dt.length=174)(bD:Bys Dt)(hZ:Z.length=50)(bZ:Bys Z)(k:Nat)(hk:k<4):(wordOf Dt Z k).length=64:=(EK hD bD hZ bZ k hk).1
theorem Oa{s:BM}(ha:a<96)(hon:s.on=true):readV s a=(WU s a,pgTo s a 4,0):=by
 unfold readV;rw[AI om,AI (by rw[hon];simp),AP]
theorem DY.place{p o q c:Nat}{l:Bool}(h:DY p o q c l):p<96:=by
 have:=h.1.1;omega
end
section
variable {w w' u:Wd}{t l sd l':Bool}{p s c d o r of p' o' s' c':Int}{v:Value}{k g b m q:Nat}{S:Nat->Prop}{ops:Array Oper}{rest:List Oper}{a:Act}{Q:Exit->Act->World->Prop}{fn:Func}
def EO (w:Wd) (m g p q b:Nat) (r:Int):Prop:=w.heap[m]?=some (.cells #[.pointer (some ⟨g,0,none⟩),.pointer (some ⟨p,0,none⟩),.int .i64 r] 239)/\Frm w p q b
theorem EO.lt{p:Nat}(h:EO w m g p q b r):m<w.heap.size:=(Array.getElem?_eq_some_iff.1 h.1).1
theorem EO.cells{p:Nat}(h:EO w m g p q b r):w.cell? ⟨m,0,none⟩=some (.pointer (some ⟨g,0,none⟩))/\w.cell? ⟨m,1,none⟩=some (.pointer (some ⟨p,0,none⟩))/\w.cell? ⟨m,2,none⟩=some (.int .i64 r):=by
 refine⟨?_,?_,?_⟩ <;> simp[World.cell?,h.1]
theorem EO.mb{p:Nat}(h:EO w m g p q b r):m≠b:=by
 intro e;obtain⟨c,z,hc,-⟩:=D8 h.2.1.1;have h2:=h.1;rw[e,hc] at h2;simp at h2
theorem EO.but{p:Nat}(h:EO w m g p q b r)(hF:Frm w' p q b)(hB:But b w w'):EO w' m g p q b r:=⟨(hB.block m h.lt h.mb).trans h.1,hF⟩
theorem EO.chg{p:Nat}(h:EO w m g p q b r)(hc:Chg No w w'):EO w' m g p q b r:=⟨(hc.block m h.lt (fun f=>f)).trans h.1,h.2.chg hc⟩
theorem EO.lts{p:Nat}(h:EO w m g p q b r):m<w.heap.size/\p<w.heap.size/\q<w.heap.size/\b<w.heap.size:=⟨h.lt,h.2.lt,h.2.1.lt,h.2.1.1.lt⟩
theorem EO.far{p:Nat}(h:EO w m g p q b r)(hc:Chg S w w')(hm:¬ S m)(hp:¬ S p)(hq:¬ S q)(hb:¬ S b):EO w' m g p q b r:=
 ⟨(hc.block m h.lt hm).trans h.1,h.2.other (hc.block b h.2.1.1.lt hb) (hc.block q h.2.1.lt hq) (hc.block p h.2.lt hp)⟩
theorem But.fresh(h:But b u w)(hc:Chg (·=k) w w')(hk:u.heap.size<=k):But b u w':=
 ⟨hc.os.trans h.os,hc.tape.trans h.tape,hc.output.trans h.output,AY h.size hc.size,fun i hi hb=>(hc.block i (Aj hi h.size) om).trans (h.block i hi hb)⟩
theorem Mi{c:Nat}(h:c≠0):errV c=.iface 57 (.int .i64 (c:Int)):=AI h
theorem Hq{c:Nat}(hc:DK c)(h:c≠0)(w:Wd):(binOp .neq 46 (.iface 57 (.int .i64 (c:Int))) .nilIface).run prog w=.ok (.bool true) w:=by
 rcases hc with rfl | rfl | rfl | rfl
 ·exact absurd rfl h
 ·exact EI w
 ·exact FT w
 ·exact Hj w
theorem Hs{c:Nat}(hc:DK c)(h:c≠0)(w:Wd):(binOp .eql 46 (.iface 57 (.int .i64 (c:Int))) .nilIface).run prog w=.ok (.bool false) w:=by
 rcases hc with rfl | rfl | rfl | rfl
 ·exact absurd rfl h
 ·exact Nv w
 ·exact Nw w
 ·exact MT w
theorem If:errV 0=.nilIface:=rfl
def Pb (w:Wd) (k:Nat) (t:Bool) (p o s c:Int) (l sd:Bool) (v:Value) (d:Int):Prop:=w.heap[k]?=some (.cells #[.bool t,.int .i64 p,.int .i64 o,.int .i64 s,.int .i64 c,.bool l,.bool sd,v,.int .i64 d] 132)
theorem Pb.new(w:Wd)(t:Bool)(p o s c:Int)(l sd:Bool)(v:Value)(d:Int):Pb (w.alloc (.cells #[.bool t,.int .i64 p,.int .i64 o,.int .i64 s,.int .i64 c,.bool l,.bool sd,v,.int .i64 d] 132)) w.heap.size t p o s c l sd v d:=by
 show (w.heap.push _)[w.heap.size]?=_;simp
theorem Pb.lt(h:Pb w k t p o s c l sd v d):k<w.heap.size:=(Array.getElem?_eq_some_iff.1 (show w.heap[k]?=some _ from h)).1
theorem Pb.chg(h:Pb w k t p o s c l sd v d)(hc:Chg S w w')(hk:¬ S k):Pb w' k t p o s c l sd v d:=(hc.block k h.lt hk).trans h
theorem Pb.alloc(h:Pb w k t p o s c l sd v d)(x:Obj):Pb (w.alloc x) k t p o s c l sd v d:=(Below.heap_alloc _ _ _ h.lt).trans h
theorem Pb.cells(h:Pb w k t p o s c l sd v d) :w.cell? ⟨k,0,none⟩=some (.bool t)/\w.cell? ⟨k,1,none⟩=some (.int .i64 p)/\w.cell? ⟨k,2,none⟩=some (.int .i64 o)/\w.cell? ⟨k,3,none⟩=some (.int .i64 s)/\w.cell? ⟨k,4,none⟩=some (.int .i64 c)/\w.cell? ⟨k,5,none⟩=some (.bool l)/\w.cell? ⟨k,6,none⟩=some (.bool sd)/\w.cell? ⟨k,7,none⟩=some v/\w.cell? ⟨k,8,none⟩=some (.int .i64 d):=by
 have h':w.heap[k]?=some _:=h;refine⟨?_,?_,?_,?_,?_,?_,?_,?_,?_⟩ <;> simp[World.cell?,h']
theorem Pb.frozen(h:Pb w k t p o s c l sd v d)(i:Nat):w.frozen? ⟨k,i,none⟩=false:=by
 have h':w.heap[k]?=some _:=h;simp[World.frozen?,h']
theorem Pb.set0(h:Pb w k t p o s c l sd v d)(t':Bool):Pb (w.setCell ⟨k,0,none⟩ (.bool t')) k t' p o s c l sd v d:=heap_setCell_same w k 0 _ 132 _ h
theorem Pb.set1(h:Pb w k t p o s c l sd v d)(p':Int):Pb (w.setCell ⟨k,1,none⟩ (.int .i64 p')) k t p' o s c l sd v d:=heap_setCell_same w k 1 _ 132 _ h
theorem Pb.set2(h:Pb w k t p o s c l sd v d)(o':Int):Pb (w.setCell ⟨k,2,none⟩ (.int .i64 o')) k t p o' s c l sd v d:=heap_setCell_same w k 2 _ 132 _ h
theorem Pb.set3(h:Pb w k t p o s c l sd v d)(s':Int):Pb (w.setCell ⟨k,3,none⟩ (.int .i64 s')) k t p o s' c l sd v d:=heap_setCell_same w k 3 _ 132 _ h
theorem Pb.set4(h:Pb w k t p o s c l sd v d)(c':Int):Pb (w.setCell ⟨k,4,none⟩ (.int .i64 c')) k t p o s c' l sd v d:=heap_setCell_same w k 4 _ 132 _ h
theorem Pb.set5(h:Pb w k t p o s c l sd v d)(l':Bool):Pb (w.setCell ⟨k,5,none⟩ (.bool l')) k t p o s c l' sd v d:=heap_setCell_same w k 5 _ 132 _ h
theorem Pb.set6(h:Pb w k t p o s c l sd v d)(sd':Bool):Pb (w.setCell ⟨k,6,none⟩ (.bool sd')) k t p o s c l sd' v d:=heap_setCell_same w k 6 _ 132 _ h
theorem Pb.set7(h:Pb w k t p o s c l sd v d)(v':Value):Pb (w.setCell ⟨k,7,none⟩ v') k t p o s c l sd v' d:=heap_setCell_same w k 7 _ 132 _ h
theorem Pb.tag(h:Pb w k t p o s c l sd v d)(p' o' s' c':Int)(l':Bool):Pb (w.setCells k 1 [.int .i64 p',.int .i64 o',.int .i64 s',.int .i64 c',.bool l']) k t p' o' s' c' l' sd v d:=
 ((((h.set1 p').set2 o').set3 s').set4 c').set5 l'
theorem gR(h:Chg S u w)(hk:S k\/u.heap.size<=k)(vs:List Value):Chg S u (w.setCells k 1 vs):=Chg.setCells hk vs 1 h
theorem Mj:(prog.info? 132).map (·.size)=some 9:=kr
theorem wpList_load_pg{o:Oper}(hgd:o.guard=none)(x:Operand)(ho:o.op=.load 132 x)(g:Nat)(hx:a.eval x=.pointer (some ⟨g,0,none⟩))(hg:Pb w g t p of s c l sd v d)(h:wpList prog ops Q rest (a.put o.dst (.agg #[.bool t,.int .i64 p,.int .i64 of,.int .i64 s,.int .i64 c,.bool l,.bool sd,v,.int .i64 d])) w):wpList prog ops Q (o :: rest) a w:=
 wpList_load_row hgd 132 x ho g hx 132 _ _ _ hg underlying132 rfl Mj h
theorem wpList_store_pg{o:Oper}(hgd:o.guard=none)(x y:Operand)(ho:o.op=.store 132 x y)(g:Nat)(hx:a.eval x=.pointer (some ⟨g,0,none⟩))(hy:a.eval y=.agg #[.bool t,.int .i64 p,.int .i64 of,.int .i64 s,.int .i64 c,.bool l,.bool sd,v,.int .i64 d])(hv:v.oneCell'=true){t':Bool}{sd':Bool}{v':Value}{d':Int}(hg:Pb w g t' p' o' s' c' l' sd' v' d')(h:∀w',Pb w' g t p of s c l sd v d->Chg (·=g) w w'->wpList prog ops Q rest (a.put o.dst undef) w'):wpList prog ops Q (o :: rest) a w:=
 wpList_store_row hgd 132 x y ho g _ hx hy 132 _ hg Mj rfl (by simp[hv];simp[Value.oneCell']) (h _ (setRow_heap w g _ _ 132 _ hg) ⟨rfl,rfl,rfl,by simp,fun k _ hk=>setRow_other _ _ _ _ hk⟩)
theorem Pb.there(h:Pb w k t p o s c l sd v d):w.there k 1 5:=fun j hj=>by
 obtain⟨-,h1,h2,h3,h4,h5,-⟩:=h.cells
 refine⟨?_,h.frozen _⟩
 rcases(by omega:j=0\/j=1\/j=2\/j=3\/j=4) with rfl | rfl | rfl | rfl | rfl
 ·
  rw[h1];rfl
 ·
  rw[h2];rfl
 ·
  rw[h3];rfl
 ·
  rw[h4];rfl
 ·
  rw[h5];rfl
theorem Ek{o:Oper}(hgd:o.guard=none)(x y:Operand)(ho:o.op=.store 130 x y)(g:Nat)(hx:a.eval x=.pointer (some ⟨g,1,none⟩))(hy:a.eval y=.agg #[.int .i64 p,.int .i64 of,.int .i64 s,.int .i64 c,.bool l])(hg:Pb w g t p' o' s' c' l' sd v d)(h:∀w',Pb w' g t p of s c l sd v d->Chg (·=g) w w'->wpList prog ops Q rest (a.put o.dst undef) w'):wpList prog ops Q (o :: rest) a w:=
 wpList_store_mid hgd 130 x y ho g 1 _ hx hy hg.there Gj (by simp[Value.oneCell']) (h _ (hg.tag p of s c l) (gR (S:=(·=g)) (Chg.refl _ w) (AK rfl) _))
theorem Gl{q:Tmp}(h:fn.results=#[.cell q 132])(tmps:Array Value)(hp:tmps.getD q undef=.pointer (some ⟨g,0,none⟩))(hT:Pb w g t p o s c l sd v d) :(results fn tmps).run prog w=.ok (.agg #[.bool t,.int .i64 p,.int .i64 o,.int .i64 s,.int .i64 c,.bool l,.bool sd,v,.int .i64 d]) w:=
 results_cell_row h tmps w g 132 _ _ _ hp hT underlying132 rfl Mj
theorem CO{q u:Tmp}(h:fn.results=#[.cell q 132,.tmp u])(tmps:Array Value)(hp:tmps.getD q undef=.pointer (some ⟨g,0,none⟩))(hT:Pb w g t p o s c l sd v d) :(results fn tmps).run prog w=.ok (.tuple #[.agg #[.bool t,.int .i64 p,.int .i64 o,.int .i64 s,.int .i64 c,.bool l,.bool sd,v,.int .i64 d],tmps.getD u undef]) w:=by
 rw[results_cell_tmp h,hp];simp[asAddr,run_loadVar_row w g 132 132 _ _ _ hT underlying132 rfl Mj]
def Zo (g:Pg) (v:Value):Value:=.agg #[.bool g.tagged,.int .i64 g.p,.int .i64 g.o,.int .i64 g.s,.int .i64 g.c,.bool g.l,.bool g.sound,v,.int .i64 g.dmg]
theorem Ob(m g p q b:Nat)(r:Int)(w:Wd)(h:EO w m g p q b r)(c o cap:Nat)(L:List Nat)(hL:L.length=256)(bL:Bys L)(hcb:c≠b)(hcs:c<w.heap.size)(hcap:256<=cap)(hh:Ca w (.slice (some ⟨c,o,none⟩) 256 cap) L) :Calls prog 214 #[.pointer (some ⟨m,0,none⟩),.slice (some ⟨c,o,none⟩) 256 cap] w fun e w'=>∃d:Nat,e=.returned (.int .i64 d)/\DmgR L d/\EO w' m g p q b r/\But b w w':=by
 have HH:=BE hh;have HL:=BE hL;have HM:=BE h;go_enter func214,ntmps214;go_wp2_with fail
 go_loopw [5,10] (fun t5 t10 wr=>∃(k:Nat) (R:Nat->List Nat) (d e:Nat->Nat),k<=4/\t10=.int .i64 k/\t5=.int .i64 (dmgs d e k:Nat)/\(∀j,j<k->MsgR L (j:Nat) (R j) (d j) (e j))/\EO wr m g p q b r/\But b w wr) (fun _ t10 _=>4 - (intOf t10).toNat)
 case atStart=>exact⟨0,fun _=>[],fun _=>0,fun _=>0,om,rfl,rfl,fun j hj=>absurd hj om,HM.out,But.refl _ _⟩
 case round=>
  obtain⟨k,R,d,e,hk,rfl,rfl,hR,hM,hB⟩:=hrel;by_cases p2:k<4
  ·have B':(k:Int)<4:=om;obtain⟨c0,c1,c2⟩:=hM.cells;have h2:=HH.out.chg hB.chg (fun k _ he e=>hcb ((AR he).trans e));have w1:=hB.size;have no:=TY p q b wr hM.2 c o 256 cap L HL.out.symm bL hcb om hcap h2 (k:Nat);have HR:=BE hR;have h6:=BE hM;have hc:=BE hB;go_wp2_with fail;refine no.mono ?_;rintro x w2 ⟨⟨a,n,cp,R2,d2,e2,rfl,-,hm,-⟩,h1,ha⟩;have hv:=BE (h6.out.but h1 ha);have kd:=BE (hc.out.trans ha);have it:=hm.code;have hg:∀j,j<k+1->MsgR L (j:Nat) (if j=k then R2 else R j) (if j=k then d2 else d j) (if j=k then e2 else e j):=by
    intro j hj;by_cases ej:j=k
    ·subst ej;rw[AJ rfl,AJ rfl,AJ rfl];exact hm
    ·rw[AI ej,AI ej,AI ej];exact HR j om
   have hx:dmgs (fun j=>if j=k then d2 else d j) (fun j=>if j=k then e2 else e j) k=dmgs d e k:=KU k (fun j hj=>⟨by rw[AI om],by rw[AI om]⟩);have h0:dmgs (fun j=>if j=k then d2 else d j) (fun j=>if j=k then e2 else e j) (k+1)=if e2=0 then max (dmgs d e k) d2 else dmgs d e k:=by
    show (if (if k=k then e2 else e k)=0 then max (dmgs _ _ k) (if k=k then d2 else d k) else dmgs _ _ k)=_;rw[hx,AJ rfl,AJ rfl]
   have ar:=BE hg;have La:=BE h0;have q1:=JH;by_cases he:e2=0
   ·subst he;rw[AJ rfl] at La;rw[If];go_wp2;exact⟨⟨k+1,_,_,_,om,by go_num,by rw[La.out];go_num,ar.out,hv.out,kd⟩,by simp[intOf];omega⟩
   ·have q2:=Hs it.1 he;rw[AI he] at La;rw[Mi he];go_wp2;exact⟨⟨k+1,_,_,_,om,by go_num,by rw[La.out],ar.out,hv.out,kd⟩,by simp[intOf];omega⟩
  ·obtain rfl:k=4:=om
   have HR:=BE hR;go_wp2;go_ret;exact⟨_,rfl,⟨R,d,e,HR.out,rfl⟩,hM,hB⟩
end
end Go.Proofs.YtmdpnpjacfedpaaGreat
