/-
  Lemmas.
-/
import Derived.Test.YtbhbilcieodbhaaGreatOm
import Derived.Test.YtbhbilcieodbhaaGreatP00
import Derived.Laws.CopyOwn
import Derived.Deep.RegionLaw
import Derived.RangeFuncNested
import Derived.RangeFuncBound
import Derived.RangeFuncCalls
import Derived.RangeFuncLeaves
import Derived.Shelf.Abstract
import Derived.Shelf.RegionOpen
import Derived.OwnWalkIn
import Derived.TacticsInMore
import Derived.LoopNIn
import Derived.LoopIn
import Derived.Laws.BytesArg
import Derived.Lib.BufferWrite
import Derived.Lib.SlBytesConst
import Derived.Lib.AppendZeros
import Derived.Maps.OwnIn
import Derived.Deep.AppendLies
set_option maxRecDepth 1000000
set_option maxHeartbeats 16000000
set_option linter.unusedSimpArgs false
namespace Go.Proofs.YtbhbilcieodbhaaGreat
open List
open Go.Proofs.Tryz
open Go.RowKit
section
variable {w:Wd}{cur src:List Nat}{t:TypeId}
def lay (cur:List Nat) (off:Nat) (src:List Nat):List Nat:=cur.take off ++ (src ++ cur.drop (off+src.length))
theorem EV{off:Nat}(h:off+src.length<=cur.length):(lay cur off src).length=cur.length:=by simp[lay];omega
theorem Ii(cur:List Nat)(off:Nat)(src:List Nat) :((bcells cur).toList.take off ++ ((src.map fun (n:Nat)=>Value.int .u8 (n:Int)) ++ (bcells cur).toList.drop (off+(src.map fun (n:Nat)=>Value.int .u8 (n:Int)).length))).toArray=bcells (lay cur off src):=by
 simp[bcells,lay,map_take,map_drop]
theorem ED{c o:Nat}(h:∀j,j<src.length->w.cell? ⟨c,o+j,none⟩=some (.int .u8 (src.getD j 0:Nat))) :∀j v,(src.map fun (n:Nat)=>Value.int .u8 (n:Int))[j]?=some v->w.cell? ((⟨c,o,none⟩:Addr).add j)=some v:=by
 intro j v hv;have hadd:(⟨c,o,none⟩:Addr).add j=⟨c,o+j,none⟩:=by unfold Addr.add;split <;> simp_all
 rw[hadd];by_cases hj:j<src.length
 ·rw[h j hj,<-hv];simp[AQ,AU hj]
 ·rw[Ae (by simp;omega)] at hv;cases hv
theorem FV(src:List Nat):∀v ∈ src.map (fun (n:Nat)=>Value.int .u8 (n:Int)),v.oneCell'=true:=by
 intro v hv;obtain⟨n,_,rfl⟩:=mem_map.1 hv;rfl
theorem KW:(prog.info? 5).map (·.size)=some 1:=kr
theorem CI{ops:Array Oper}{rest:List Oper}{o:Oper}{a:Act}{Q:Exit->Act->World->Prop}(hgd:o.guard=none)(d s:Operand)(ho:o.op=.call { callee:=.builtin .copy,args:=#[d,s],argTypes:=#[35,35] })(g off dLen dCap c oo sLen sCap:Nat)(hd:a.eval d=.slice (some ⟨g,off,none⟩) dLen dCap)(hs:a.eval s=.slice (some ⟨c,oo,none⟩) sLen sCap)(hg:Arr w g t cur)(src:List Nat)(hn:src.length=Nat.min sLen dLen)(hsrc:∀j,j<src.length->w.cell? ⟨c,oo+j,none⟩=some (.int .u8 (src.getD j 0:Nat)))(hfit:off+src.length<=cur.length)(h:wpList prog ops Q rest (a.put o.dst (goInt src.length)) (w.setRow g (bcells (lay cur off src)))):wpList prog ops Q (o :: rest) a w:=by
 refine wpList_copy_own hgd d s 35 35 ho 5 underlying35 KW g off dLen dCap ⟨c,oo,none⟩ sLen sCap hd hs (bcells cur) t hg (src.map fun (n:Nat)=>Value.int .u8 (n:Int)) (by simpa using hn) (ED hsrc) (by simpa[Ba] using hfit) (FV src) ?_;rw[Ii,A7];exact h
theorem DU{fn:Func}{p u v:Tmp}{ty:TypeId}(h:fn.results=#[.cell p ty,.tmp u,.tmp v])(tmps:Array Value){g:Nat}{l:List Nat}(hg:Arr w g t l)(hp:tmps.getD p undef=.pointer (some ⟨g,0,none⟩)){m:Nat}{el:TypeId}(hu:prog.underlying ty=some (.array m el)){n:Nat}(hi:(prog.info? ty).map (·.size)=some n)(hn:l.length=n) :(results fn tmps).run prog w=.ok (.tuple #[.agg (bcells l),tmps.getD u undef,tmps.getD v undef]) w:=by
 have hp':tmps[p]?.getD undef=.pointer (some ⟨g,0,none⟩):=by simpa using hp
 have hl:=run_loadVar_row (P:=prog) w g t ty (bcells l) _ _ hg hu rfl (by rw[Ba,hn];exact hi);simp[results,h,hp',asAddr,hl]
def z64:List Nat:=List.replicate 64 0
theorem Bc:z64.length=64:=by simp[z64]
theorem QV(w:Wd):(zeroValue 275).run prog w=.ok (.agg (bcells z64)) w:=dG w
theorem LJ(cur src:List Nat)(h:cur.length=src.length):lay cur 0 src=src:=by
 simp[lay,h]
end
section
variable {w w':Wd}{g b:Nat}{t:TypeId}{l:List Nat}
structure One (g:Nat) (w w':Wd):Prop where
 os:w'.os=w.os
 tape:w'.tape=w.tape
 output:w'.output=w.output
 size:w'.heap.size=w.heap.size
 block:∀k,k≠g->w'.heap[k]?=w.heap[k]?
theorem One.row(w:Wd)(g:Nat)(c:Array Value):One g w (w.setRow g c):=⟨rfl,rfl,rfl,by simp,fun k hk=>setRow_other _ _ _ _ hk⟩
theorem One.arr{k:Nat}(h:One g w w')(hk:k≠g)(ha:Arr w k t l):Arr w' k t l:=(h.block k hk).trans ha
theorem One.cod{q:Nat}(h:One g w w')(hq:q≠g)(hb:b≠g)(hc:Cod w q b):Cod w' q b:=hc.other (h.block b hb) (h.block q hq)
theorem One.but{u:Wd}(h:One g w w')(hg:u.heap.size<=g)(hB:But b u w):But b u w':=
 ⟨h.os.trans hB.os,h.tape.trans hB.tape,h.output.trans hB.output,by rw[h.size];exact hB.size,fun k hk hb=>(h.block k om).trans (hB.block k hk hb)⟩
theorem Bb{ops:Array Oper}{rest:List Oper}{o:Oper}{a:Act}{Q:Exit->Act->World->Prop}(hgd:o.guard=none)(ty:TypeId)(x y:Operand)(ho:o.op=.store ty x y)(g:Nat)(l':List Nat)(hx:a.eval x=.pointer (some ⟨g,0,none⟩))(hy:a.eval y=.agg (bcells l'))(hg:Arr w g t l){n:Nat}(hi:(prog.info? ty).map (·.size)=some n)(hn:l.length=n)(hn':l'.length=n)(h:∀w',Arr w' g t l'->One g w w'->wpList prog ops Q rest (a.put o.dst undef) w'):wpList prog ops Q (o :: rest) a w:=
 wpList_store_arr hgd ty x y ho g l' hx hy hg hi hn hn' (h _ (hg.row l') (One.row w g _))
def Nr (l M:List Nat) (d:Nat) (t:Bool):Prop:=M.length=64/\Bys M/\d<=2/\((t=true/\IsDec l (some (M.take 58,d)))\/(t=false/\IsDec l none))
theorem MY(q b:Nat)(w:Wd)(h:Cod w q b)(c o cap:Nat)(l:List Nat)(hl:l.length=64)(hb:Bys l)(hcb:c≠b)(hcs:c<w.heap.size)(hcell:∀i,i<l.length->w.cell? ⟨c,o+i,none⟩=some (.int .u8 (l.getD i 0:Nat))) :Calls prog 229 #[.pointer (some ⟨q,0,none⟩),.slice (some ⟨c,o,none⟩) 64 cap] w fun e w'=>∃(M:List Nat) (d:Nat) (t:Bool),e=.returned (.tuple #[.agg (bcells M),.int .i64 d,.bool t])/\Nr l M d t/\Cod w' q b/\But b w w':=by
 have hz:=QV;have hz2:=Tm;have hne:=h.ne;have hq:=h.lt;have hbb:=h.1.lt;have HC:=BB hcell;clear hcell;have A0:Arr (w.alloc (.cells (bcells z64) 275)) w.heap.size 275 z64:=Arr.new _ _ _;have A1:Arr ((w.alloc (.cells (bcells z64) 275)).alloc (.cells (bcells z64) 275)) (w.heap.size+1) 275 z64:=by
  have:=Arr.new (w.alloc (.cells (bcells z64) 275)) 275 z64;simpa using this
 have B1:But b w ((w.alloc (.cells (bcells z64) 275)).alloc (.cells (bcells z64) 275)):=((But.refl _ _).alloc _).alloc _;have HB1:=BB B1;have C1:=(h.alloc (.cells (bcells z64) 275)).alloc (.cells (bcells z64) 275);have src:∀j,j<l.length->((w.alloc (.cells (bcells z64) 275)).alloc (.cells (bcells z64) 275)).cell? ⟨c,o+j,none⟩=some (.int .u8 (l.getD j 0:Nat)):=fun j hj=>(B1.cell hcs hcb _).trans (HC.out j hj);have HS:=BB src;clear src B1;go_enter func229,ntmps229;go_wp2_with (first | (refine CI rfl (.tmp 16) (.tmp 17) rfl (w.heap.size+1) 0 64 64 c o 64 cap rfl rfl A1 l (by rw[hl];rfl) HS.out (by rw[hl,Bc];omega) ?_));have A0':Arr (((w.alloc (.cells (bcells z64) 275)).alloc (.cells (bcells z64) 275)).setRow (w.heap.size+1) (bcells (lay z64 0 l))) w.heap.size 275 z64:=(A0.alloc _).rowOther om _;have A1':Arr (((w.alloc (.cells (bcells z64) 275)).alloc (.cells (bcells z64) 275)).setRow (w.heap.size+1) (bcells (lay z64 0 l))) (w.heap.size+1) 275 l:=by
  have:=A1.row (lay z64 0 l)
  rwa [LJ z64 l (by rw[Bc,hl])] at this ⊢
 have C1':Cod (((w.alloc (.cells (bcells z64) 275)).alloc (.cells (bcells z64) 275)).setRow (w.heap.size+1) (bcells (lay z64 0 l))) q b:=C1.setRow om om _;have B1':But b w (((w.alloc (.cells (bcells z64) 275)).alloc (.cells (bcells z64) 275)).setRow (w.heap.size+1) (bcells (lay z64 0 l))):=HB1.out.setRow om _;generalize ((w.alloc (.cells (bcells z64) 275)).alloc (.cells (bcells z64) 275)).setRow (w.heap.size+1) (bcells (lay z64 0 l))=w2 at *
 clear A0 A1 C1 HS HB1;have hRd:Rd w2 b (some ⟨c,o,none⟩) l:=⟨hb,AL ⟨c,o,rfl,hcb,Aj hcs B1'.size,fun i hi=>(B1'.cell hcs hcb _).trans (HC.out i hi)⟩⟩;have hsl:=CQ l 6;have hsb:=QS hb 6;refine(KH q b w2 C1' (some ⟨c,o,none⟩) 64 cap l hl.symm om hRd).mono ?_;rintro e w3 ⟨rfl,C3,B3⟩;have A03:Arr w3 w.heap.size 275 z64:=A0'.but B3 om;have A13:Arr w3 (w.heap.size+1) 275 l:=A1'.but B3 om;have B13:But b w w3:=B1'.trans B3;clear A0' A1' C1' B1' B3 hRd;by_cases h0:syL l 6=[0,0,0,0,0,0]
 ·have heq:∀w,(Op.equalIn 10000 338 (.agg (bcells (syL l 6))) (.agg (bcells [0,0,0,0,0,0]))).run prog w=.ok true w:=fun w=>by
   rw[LH 9998 w 338 6 underlying338 (syL l 6) [0,0,0,0,0,0] hsl rfl,AO h0]
  have HD:=BB (Tb hl hb (KV.1 h0));have H0:=BB h0;clear h0;go_wp2_with (first | (refine Bb rfl 338 (.tmp 8) (.tmp 21) rfl _ _ rfl rfl (Arr.new w3 338 [0,0,0,0,0,0]) Cy rfl hsl ?_;intro w4 hS4 hO4;have A04:Arr w4 w.heap.size 275 z64:=(hO4.arr (by have:=A03.lt;omega) (A03.alloc _));have A14:Arr w4 (w.heap.size+1) 275 l:=(hO4.arr (by have:=A13.lt;omega) (A13.alloc _));have C4:Cod w4 q b:=(hO4.cod (by have:=C3.lt;omega) (by have:=C3.1.lt;omega) (C3.alloc _));have B4:But b w w4:=(hO4.but B13.size (B13.alloc _));clear hO4) | (refine BI rfl 338 (.tmp 8) rfl _ rfl hS4 underlying338 Cy hsl ?_) | (refine BI rfl 275 (.tmp 7) rfl _ rfl A14 underlying275 Cz hl ?_) | (refine Bb rfl 275 (.tmp 4) (.tmp 25) rfl _ _ rfl rfl A04 Cz Bc hl ?_;intro w5 hS5 hO5));refine AZ (DU rfl _ hS5 rfl underlying275 Cz hl) rfl ⟨l,0,true,rfl,⟨hl,hb,om,AK ⟨rfl,HD.out⟩⟩,hO5.cod om om C4,hO5.but om B4⟩
 ·have heq:∀w,(Op.equalIn 10000 338 (.agg (bcells (syL l 6))) (.agg (bcells [0,0,0,0,0,0]))).run prog w=.ok false w:=fun w=>by
   rw[LH 9998 w 338 6 underlying338 (syL l 6) [0,0,0,0,0,0] hsl rfl,AN h0]
  have H0:=BB h0;clear h0;go_wp2_with (first | (refine Bb rfl 338 (.tmp 8) (.tmp 21) rfl _ _ rfl rfl (Arr.new w3 338 [0,0,0,0,0,0]) Cy rfl hsl ?_;intro w4 hS4 hO4;have A04:Arr w4 w.heap.size 275 z64:=(hO4.arr (by have:=A03.lt;omega) (A03.alloc _));have A14:Arr w4 (w.heap.size+1) 275 l:=(hO4.arr (by have:=A13.lt;omega) (A13.alloc _));have C4:Cod w4 q b:=(hO4.cod (by have:=C3.lt;omega) (by have:=C3.1.lt;omega) (C3.alloc _));have B4:But b w w4:=(hO4.but B13.size (B13.alloc _));clear hO4) | (refine BI rfl 338 (.tmp 8) rfl _ rfl hS4 underlying338 Cy hsl ?_));have hg3:w.heap.size+1<w3.heap.size:=A13.lt;have hbg3:b<w3.heap.size:=C3.1.lt;clear A03 A13 B13 C3;generalize w3.heap.size=g3 at *
  refine(Yn q b _ C4 (syL l 6) hsl hsb).mono ?_;rintro e w5 ⟨h1,C5,B5⟩;have A05:Arr w5 w.heap.size 275 z64:=A04.but B5 om;have A15:Arr w5 (w.heap.size+1) 275 l:=A14.but B5 om;have S5:Arr w5 g3 338 (syL l 6):=hS4.but B5 om;have B15:But b w w5:=B4.trans B5;clear A04 A14 hS4 B4 B5 C4;rcases h1 with ⟨i,hi,rfl,hOn⟩ | ⟨rfl,hNo⟩
  ·have HD:=BB (Ts hl hb H0.out hi hOn);clear hOn;have c1:=A15.cell i om;have c2:=S5.cell 0 om;have d1:=hb.getD i;have d2:=hsb.getD 0;have hkb6:(0:Int)<=(i:Int):=om;have hkb7:(i:Int)<64:=om;have f1:=A15.frozen i;have HA:Hid (addAt l i ((syL l 6).getD 0 0)=l.set i (l.getD i 0 ^^^ (syL l 6).getD 0 0)):=rfl;have hml:(addAt l i ((syL l 6).getD 0 0)).length=64:=(by rw[Bi];exact hl);have hmb:Bys (addAt l i ((syL l 6).getD 0 0)):=CV hb i _ d2;generalize hM:addAt l i ((syL l 6).getD 0 0)=M at *
   have HM:=BB hM;clear hM;generalize l.getD i 0=x at *
   generalize (syL l 6).getD 0 0=y at *
   have e1:=u8_xor_nat x y d1 d2;go_wp2_with fail;go_region;have A16:Arr ((w5.setCell ⟨w.heap.size+1,i,none⟩ (.int .u8 ((x ^^^ y:Nat):Int))).drew) (w.heap.size+1) 275 M:=by
    rw[HA.out];exact(A15.store i _).drew
   have A06:Arr ((w5.setCell ⟨w.heap.size+1,i,none⟩ (.int .u8 ((x ^^^ y:Nat):Int))).drew) w.heap.size 275 z64:=(A05.setOther om _ _).drew;have C6:Cod ((w5.setCell ⟨w.heap.size+1,i,none⟩ (.int .u8 ((x ^^^ y:Nat):Int))).drew) q b:=(C5.setNew om om _ _).drew;have B6:But b w ((w5.setCell ⟨w.heap.size+1,i,none⟩ (.int .u8 ((x ^^^ y:Nat):Int))).drew):=(B15.setNew om _ _).drew;generalize (w5.setCell ⟨w.heap.size+1,i,none⟩ (.int .u8 ((x ^^^ y:Nat):Int))).drew=w6 at *
   clear A15 A05 C5 B15 c1 c2 f1 S5;go_wp2_with (first | (refine BI rfl 275 (.tmp 7) rfl _ rfl A16 underlying275 Cz hml ?_) | (refine Bb rfl 275 (.tmp 4) (.tmp 40) rfl _ _ rfl rfl A06 Cz Bc hml ?_;intro w7 hS7 hO7));refine AZ (DU rfl _ hS7 rfl underlying275 Cz hml) rfl ⟨M,1,true,rfl,⟨hml,hmb,om,AK ⟨rfl,HD.out⟩⟩,hO7.cod om om C6,hO7.but om B6⟩
  ·have HNo:=BB hNo;clear hNo;go_wp2_with (refine BI rfl 338 (.tmp 8) rfl _ rfl S5 underlying338 Cy hsl ?_);refine(Yo q b _ C5 (syL l 6) hsl hsb).mono ?_;rintro e w6 ⟨h2,C6,B6⟩;have A06:Arr w6 w.heap.size 275 z64:=A05.but B6 om;have A16:Arr w6 (w.heap.size+1) 275 l:=A15.but B6 om;have S6:Arr w6 g3 338 (syL l 6):=S5.but B6 om;have B16:But b w w6:=B15.trans B6;clear A05 A15 S5 B15 B6 C5;rcases h2 with ⟨i,j,hi,hj,rfl,hFo⟩ | ⟨rfl,hNf⟩
   ·have HD:=BB (Tt hl hb HNo.out hi hj hFo);clear hFo;go_wp2_with (refine BI rfl 338 (.tmp 8) rfl _ rfl S6 underlying338 Cy hsl ?_);refine(OT q b _ C6 (syL l 6) hsl hsb i j hi om om).mono ?_;rintro e w7 ⟨rfl,C7,B7⟩;have A07:Arr w7 w.heap.size 275 z64:=A06.but B7 om;have A17:Arr w7 (w.heap.size+1) 275 l:=A16.but B7 om;have B17:But b w w7:=B16.trans B7;clear A06 A16 S6 B16 B7 C6;have hya:(syL l 6).getD 0 0 ^^^ atJ (syL l 6) i j<256:=CO _ _ (hsb.getD 0) (Bh _ _);have hyb:atJ (syL l 6) i j<256:=Bh _ _;generalize (syL l 6).getD 0 0 ^^^ atJ (syL l 6) i j=ya at *
    generalize atJ (syL l 6) i j=yb at *
    have hm1:(addAt l i ya).length=64:=(by rw[Bi];exact hl);have hmb1:Bys (addAt l i ya):=CV hb i _ hya;have hm2:(addAt (addAt l i ya) j yb).length=64:=(by rw[Bi];exact hm1);have hmb2:Bys (addAt (addAt l i ya) j yb):=CV hmb1 j _ hyb;have c1:=A17.cell i om;have f1:=A17.frozen i;have d1:=hb.getD i;have e1:=u8_xor_nat (l.getD i 0) ya d1 hya;have A18:Arr (w7.setCell ⟨w.heap.size+1,i,none⟩ (.int .u8 ((l.getD i 0 ^^^ ya:Nat):Int))) (w.heap.size+1) 275 (addAt l i ya):=A17.store i _;have c2:=A18.cell j om;have f2:=A18.frozen j;have d2:=hmb1.getD j;have e2:=u8_xor_nat ((addAt l i ya).getD j 0) yb d2 hyb;have A19:Arr ((w7.setCell ⟨w.heap.size+1,i,none⟩ (.int .u8 ((l.getD i 0 ^^^ ya:Nat):Int))).setCell ⟨w.heap.size+1,j,none⟩ (.int .u8 (((addAt l i ya).getD j 0 ^^^ yb:Nat):Int))) (w.heap.size+1) 275 (addAt (addAt l i ya) j yb):=A18.store j _;have A09:=(A07.setOther (show w.heap.size+1≠w.heap.size by omega) i (.int .u8 ((l.getD i 0 ^^^ ya:Nat):Int))).setOther (show w.heap.size+1≠w.heap.size by omega) j (.int .u8 (((addAt l i ya).getD j 0 ^^^ yb:Nat):Int));have C9:=(C7.setNew (show w.heap.size+1≠q by omega) (show w.heap.size+1≠b by omega) i (.int .u8 ((l.getD i 0 ^^^ ya:Nat):Int))).setNew (show w.heap.size+1≠q by omega) (show w.heap.size+1≠b by omega) j (.int .u8 (((addAt l i ya).getD j 0 ^^^ yb:Nat):Int));have B9:=(B17.setNew (show w.heap.size<=w.heap.size+1 by omega) i (.int .u8 ((l.getD i 0 ^^^ ya:Nat):Int))).setNew (show w.heap.size<=w.heap.size+1 by omega) j (.int .u8 (((addAt l i ya).getD j 0 ^^^ yb:Nat):Int));have HA19:=BB A19;have HA09:=BB A09;have HC9:=BB C9;have HB9:=BB B9;clear A19 A09 C9 B9 A18;generalize hM:addAt (addAt l i ya) j yb=M at *
    have HM:=BB hM;clear hM;generalize (addAt l i ya).getD j 0=x2 at *
    generalize l.getD i 0=x1 at *
    have hkb6:(0:Int)<=(i:Int):=om;have hkb7:(i:Int)<64:=om;have hkb8:(0:Int)<=(j:Int):=om;have hkb9:(j:Int)<64:=om;go_wp2_with (first | (refine BI rfl 275 (.tmp 7) rfl _ rfl HA19.out underlying275 Cz hm2 ?_) | (refine Bb rfl 275 (.tmp 4) (.tmp 69) rfl _ _ rfl rfl HA09.out Cz Bc hm2 ?_;intro w10 hS10 hO10));refine AZ (DU rfl _ hS10 rfl underlying275 Cz hm2) rfl ⟨M,2,true,rfl,⟨hm2,hmb2,om,AK ⟨rfl,HD.out⟩⟩,hO10.cod om om HC9.out,hO10.but om HB9.out⟩
   ·have HD:=BB (RS hl hb H0.out HNo.out hNf);clear hNf;have hbys:Bys z64:=(by intro n hn;have:=eq_of_mem_replicate hn;omega);go_wp2_with (refine Bb rfl 275 (.tmp 4) (.tmp 70) rfl _ _ rfl rfl A06 Cz Bc Bc ?_;intro w10 hS10 hO10);refine AZ (DU rfl _ hS10 rfl underlying275 Cz Bc) rfl ⟨z64,0,false,rfl,⟨Bc,hbys,om,AL ⟨rfl,HD.out⟩⟩,hO10.cod om om C6,hO10.but om B16⟩
end
def z58:List Nat:=List.replicate 58 0
theorem JF:z58.length=58:=by simp[z58]
theorem Tu(w:Wd):(Instr.makeSlice 35 (.int .i64 58) (.int .i64 58)).run prog w=.ok (.slice (some ⟨w.heap.size,0,none⟩) 58 58) (w.alloc (.cells (bcells z58) 5)):=Cx w 58 58 rfl om
theorem dJ(w:Wd):(Instr.makeSlice 35 (.int .i64 64) (.int .i64 64)).run prog w=.ok (.slice (some ⟨w.heap.size,0,none⟩) 64 64) (w.alloc (.cells (bcells z64) 5)):=Cx w 64 64 rfl om
def z6:List Nat:=List.replicate 6 0
theorem Ei{w:Wd}{ops:Array Oper}{rest:List Oper}{o:Oper}{a:Act}{Q:Exit->Act->World->Prop}(hgd:o.guard=none)(d s:Operand)(ho:o.op=.call { callee:=.builtin .copy,args:=#[d,s],argTypes:=#[35,35] })(g off dLen dCap c oo sLen sCap:Nat)(hd:a.eval d=.slice (some ⟨g,off,none⟩) dLen dCap)(hs:a.eval s=.slice (some ⟨c,oo,none⟩) sLen sCap){t:TypeId}{cur:List Nat}(hg:Arr w g t cur)(src:List Nat)(hn:src.length=Nat.min sLen dLen)(hsrc:∀j,j<src.length->w.cell? ⟨c,oo+j,none⟩=some (.int .u8 (src.getD j 0:Nat)))(hfit:off+src.length<=cur.length)(h:∀w',Arr w' g t (lay cur off src)->One g w w'->wpList prog ops Q rest (a.put o.dst (goInt src.length)) w'):wpList prog ops Q (o :: rest) a w:=
 CI hgd d s ho g off dLen dCap c oo sLen sCap hd hs hg src hn hsrc hfit (h _ (hg.row _) (One.row w g _))
theorem RT(l:List Nat)(n j:Nat)(h:j<n):(l.take n).getD j 0=l.getD j 0:=by
 simp[AQ,h]
def De (w w':Wd) (l:List Nat) (e:Ending):Prop:=
 (IsDec l none/\e=.returned (.tuple #[.slice none 0 0,.int .i64 0,.iface 56 (.int .i64 5)])) \/
 (∃(m:List Nat) (d g:Nat),IsDec l (some (m,d))/\d<=2/\m.length=58/\Bys m/\e=.returned (.tuple #[.slice (some ⟨g,0,none⟩) 58 58,.int .i64 d,.nilIface])/\w.heap.size<=g/\Arr w' g 5 m)
theorem Bys.take{l:List Nat}(h:Bys l)(n:Nat):Bys (l.take n):=fun x hx=>h x (mem_of_mem_take hx)
theorem JG(q b:Nat)(w:Wd)(h:Cod w q b)(c o cap:Nat)(l:List Nat)(hl:l.length=64)(hb:Bys l)(hcb:c≠b)(hcs:c<w.heap.size)(hcell:∀i,i<l.length->w.cell? ⟨c,o+i,none⟩=some (.int .u8 (l.getD i 0:Nat))) :Calls prog 200 #[.pointer (some ⟨q,0,none⟩),.slice (some ⟨c,o,none⟩) 64 cap] w fun e w'=>De w w' l e/\Cod w' q b/\But b w w':=by
 have hz:=QV;have hmk:=Tu;have hne:=h.ne;have hq:=h.lt;have hbb:=h.1.lt;have HC:=BB hcell;clear hcell;go_enter func200,ntmps200;go_wp2_with fail;refine(MY q b w h c o cap l hl hb hcb hcs HC.out).mono ?_;rintro e w3 ⟨M,d,t,rfl,⟨hMl,hMb,hd,hNr⟩,C3,B3⟩;have HNr:=BB hNr;clear hNr;have hM58:(M.take 58).length=58:=by rw[length_take,hMl];omega
 cases t with
 | false=>
  have HD:Hid (IsDec l none):=BB (by
   rcases HNr.out with ⟨h1,_⟩ | ⟨_,h2⟩
   ·
    cases h1
   ·
    exact h2)
  go_wp2_with (first | (refine Bb rfl 275 (.tmp 7) (.tmp 19) rfl _ _ rfl rfl (Arr.new w3 275 z64) Cz Bc hMl ?_;intro w4 hS4 hO4;have C4:Cod w4 q b:=(hO4.cod (by have:=C3.lt;omega) (by have:=C3.1.lt;omega) (C3.alloc _));have B4:But b w w4:=(hO4.but B3.size (B3.alloc _));clear hO4))
  go_ret3
  exact⟨AK ⟨HD.out,rfl⟩,C4,B4⟩
 | true=>
  have HD:Hid (IsDec l (some (M.take 58,d))):=BB (by
   rcases HNr.out with ⟨_,h1⟩ | ⟨h2,_⟩
   ·
    exact h1
   ·
    cases h2)
  go_wp2_with (first | (refine Bb rfl 275 (.tmp 7) (.tmp 19) rfl _ _ rfl rfl (Arr.new w3 275 z64) Cz Bc hMl ?_;intro w4 hS4 hO4;have C4:Cod w4 q b:=(hO4.cod (by have:=C3.lt;omega) (by have:=C3.1.lt;omega) (C3.alloc _));have B4:But b w w4:=(hO4.but B3.size (B3.alloc _));have HZ4:Hid (w4.heap.size=w3.heap.size+1):=(BB (by rw[hO4.size];simp));clear hO4) | (refine Ei rfl (.tmp 26) (.tmp 27) rfl w4.heap.size 0 58 58 w3.heap.size 0 64 64 rfl rfl (Arr.new w4 5 z58) (M.take 58) (by rw[hM58];rfl) (fun j hj=>by rw[AW,RT _ _ _ om];exact(hS4.alloc _).cell j om) (by rw[hM58,JF];omega) ?_;intro w5 hS5 hO5))
  go_ret3
  have hz4:=HZ4.out;rw[LJ z58 (M.take 58) (by rw[JF,hM58])] at hS5;exact⟨AL ⟨M.take 58,d,w4.heap.size,HD.out,hd,hM58,hMb.take 58,rfl,B4.size,hS5⟩,hO5.cod (by have:=C4.lt;omega) (by have:=C4.1.lt;omega) (C4.alloc _),hO5.but B4.size (B4.alloc _)⟩
end Go.Proofs.YtbhbilcieodbhaaGreat
namespace Go.Proofs.YtbhbilcieodbhaaGreat
open List
open Go.Proofs.Tryz
section
variable {l:List Nat}
theorem Yq(x:Nat)(_hx:x<256)(b:List Nat)(hb:Bys b)(s:Nat)(hs:s<256):b.foldl (fun s c=>gm s x ^^^ c) s=gm s (xp x b.length) ^^^ ev x b:=by
 induction b generalizing s with
 | nil=>show s=gm s 1 ^^^ 0;rw[Cv s hs,Aw]
 | cons c t ih=>
  have hc:c<256:=hb c (by simp);have ht:Bys t:=fun n hn=>hb n (by simp[hn]);show t.foldl _ (gm s x ^^^ c)=gm s (gm (xp x t.length) x) ^^^ t.foldl _ (gm 0 x ^^^ c);rw[ih ht _ (CO _ _ (Bh _ _) hc),ih ht _ (CO _ _ (Bh _ _) hc),BQ,Nat.zero_xor,DP _ _ _ (Fm _ _) (Bh _ _) hc,BU,Bl x,A9]
theorem KX(x:Nat)(hx:x<256)(a b:List Nat)(ha:Bys a)(hb:Bys b):ev x (a ++ b)=gm (ev x a) (xp x b.length) ^^^ ev x b:=by
 unfold ev;rw[foldl_append];exact Yq x hx b hb _ (QM x a ha)
def rem (l:List Nat):Nat->List Nat
 | 0=>[0,0,0,0,0,0]
 | i+1=>inner (l.getD i 0 ^^^ (rem l i).getD 0 0) gl 0 ((rem l i).drop 1 ++ [0]) 6
theorem CR(l:List Nat)(i:Nat):(rem l i).length=6:=by
 induction i with
 | zero=>rfl
 | succ i ih=>show (inner _ _ _ _ _).length=6;rw[CW];simp[ih]
theorem EW{r:List Nat}(h:Bys r):Bys (r.drop 1 ++ [0]):=by
 intro n hn;rcases mem_append.1 hn with hn | hn
 ·exact h n (mem_of_mem_drop hn)
 ·simp at hn;omega
theorem GL(l:List Nat)(i:Nat):Bys (rem l i):=by
 induction i with
 | zero=>intro n hn;simp[rem] at hn;omega
 | succ i ih=>exact D9 _ _ _ _ (EW ih) _
theorem Tv:LA 6 (fun k=>ev (ex k) gl == xp (ex k) 6)=true:=by decide +kernel
theorem Yr(k:Nat)(h:k<6):ev (ex k) gl=xp (ex k) 6:=by simpa using Dq Tv k h
theorem Ys(x:Nat)(hx:x<256)(c:Nat)(t:List Nat)(hc:c<256)(ht:Bys t):ev x (c :: t)=gm c (xp x t.length) ^^^ ev x t:=by
 have h:=KX x hx [c] t (by intro n hn;simp at hn;omega) ht;rw[show [c] ++ t=c :: t from rfl] at h;rw[h];congr 2;show gm 0 x ^^^ c=c;rw[BQ,Nat.zero_xor]
theorem dK(l:List Nat)(hl:Bys l)(k:Nat)(hk:k<6)(i:Nat)(hi:i<=l.length):gm (ev (ex k) (l.take i)) (xp (ex k) 6)=ev (ex k) (rem l i):=by
 have hx:=D8 k
 induction i with
 | zero=>
  show gm 0 _=ev (ex k) [0,0,0,0,0,0];rw[BQ];exact(TZ (ex k) 6).symm
 | succ i ih=>
  have ih:=ih om;have hr:=GL l i;have hrl:=CR l i;rw[If _ l i om];show _=ev (ex k) (inner (l.getD i 0 ^^^ (rem l i).getD 0 0) gl 0 ((rem l i).drop 1 ++ [0]) 6);have hin:=TY (ex k) hx (l.getD i 0 ^^^ (rem l i).getD 0 0) gl 0 1 ((rem l i).drop 1 ++ [0]) (EW hr) om (by simp[hrl];rfl) 6 (AM _);have hgp:pv (ex k) gl 6=xp (ex k) 6:=by rw[<-Yr k hk];exact(QN (ex k) hx gl Tj).symm
  rw[hin,hgp];obtain⟨r0,t,hrt⟩:∃r0 t,rem l i=r0 :: t:=by
   cases h:rem l i with
   | nil=>rw[h] at hrl;cases hrl
   | cons a t=>exact⟨a,t,rfl⟩
  rw[hrt] at ih hr hrl ⊢;have h0:r0<256:=hr r0 (by simp);have ht:Bys t:=fun n hn=>hr n (by simp[hn]);have htl:t.length=5:=by simpa using hrl
  rw[Ys _ hx r0 t h0 ht,htl] at ih;show gm (gm (ev (ex k) (l.take i)) (ex k) ^^^ l.getD i 0) (xp (ex k) 6)=ev (ex k) (t ++ [0]) ^^^ gm (gm (l.getD i 0 ^^^ r0) 1) (xp (ex k) 6);have hd:=hl.getD i;rw[Cv _ (CO _ _ hd h0),LC,Aw,DP _ _ _ (Fm _ _) (Bh _ _) hd,DP _ _ _ (Fm _ _) hd h0];have e1:gm (gm (ev (ex k) (l.take i)) (ex k)) (xp (ex k) 6)=gm (gm (ev (ex k) (l.take i)) (xp (ex k) 6)) (ex k):=by rw[BU,Bl (ex k),<-BU]
  rw[e1,ih,DP _ _ _ hx (Bh _ _) (QM _ _ ht)];have e2:gm (gm r0 (xp (ex k) 5)) (ex k)=gm r0 (xp (ex k) 6):=by rw[BU];rfl
  rw[e2]
  ac_rfl
def IW (l:List Nat):List Nat:=l ++ rem l 58
theorem Yu(hl:l.length=58)(hb:Bys l):Cw (IW l):=by
 refine⟨by simp[IW,hl,CR],?_,?_⟩
 ·intro n hn;rcases mem_append.1 hn with h | h
  ·exact hb n h
  ·exact GL l 58 n h
 ·intro k hk;unfold IW;rw[KX _ (D8 k) l _ hb (GL l 58),CR];have:=dK l hb k hk 58 om;rw[As om] at this;rw[this,BA]
theorem RU(hl:l.length=58):(IW l).take 58=l:=by
 unfold IW;rw[take_append_of_le_length om,As om]
end
end Go.Proofs.YtbhbilcieodbhaaGreat
namespace Go.Proofs.YtbhbilcieodbhaaGreat
open List
open Go.Proofs.Tryz
open Go.RowKit
section
variable (w:Wd)
theorem Fq{ops:Array Oper}{o:Oper}{a:Act}{w:Wd}{K:Act->World->Prop}{Q:Exit->Act->World->Prop}{E:Prop}(hgd:o.guard=none)(d s:Operand)(ho:o.op=.call { callee:=.builtin .copy,args:=#[d,s],argTypes:=#[35,35] })(g off dLen dCap c oo sLen sCap:Nat)(hd:a.eval d=.slice (some ⟨g,off,none⟩) dLen dCap)(hs:a.eval s=.slice (some ⟨c,oo,none⟩) sLen sCap){t:TypeId}{cur:List Nat}(hg:Arr w g t cur)(src:List Nat)(hn:src.length=Nat.min sLen dLen)(hsrc:∀j,j<src.length->w.cell? ⟨c,oo+j,none⟩=some (.int .u8 (src.getD j 0:Nat)))(hfit:off+src.length<=cur.length)(h:∀w',Arr w' g t (lay cur off src)->One g w w'->K (a.put o.dst (goInt src.length)) w') :if Region.wanted o (yielded ops a.tmps)=true then Oper.wp prog o a w K Q else E:=by
 have hw:Region.wanted o (yielded ops a.tmps)=true:=by simp[Region.wanted,hgd]
 rw[AJ hw];have hrun:=run_copy_row (P:=prog) w 35 35 o.type 5 g off dLen dCap ⟨c,oo,none⟩ sLen sCap (bcells cur) t (src.map fun (n:Nat)=>Value.int .u8 (n:Int)) underlying35 KW hg (by simpa using hn) (ED hsrc) (by simpa[Ba] using hfit) (FV src);rw[Aq,Ii,A7] at hrun;unfold Oper.wp;simp[execOp,ho,resolve,invoke,builtin,hd,hs,hrun,Result.andThen];exact h _ (hg.row _) (One.row w g _)
theorem Cod.gens{w:Wd}{q b:Nat}(h:Cod w q b):w.cell? ⟨q,1,none⟩=some (.int .u8 63)/\w.cell? ⟨q,2,none⟩=some (.int .u8 1)/\w.cell? ⟨q,3,none⟩=some (.int .u8 218)/\w.cell? ⟨q,4,none⟩=some (.int .u8 32)/\w.cell? ⟨q,5,none⟩=some (.int .u8 227)/\w.cell? ⟨q,6,none⟩=some (.int .u8 38):=
 ⟨h.gen 0 om,h.gen 1 om,h.gen 2 om,h.gen 3 om,h.gen 4 om,h.gen 5 om⟩
theorem RV{r:List Nat}(h:r.length=6):(lay r 0 (r.drop 1)).set 5 0=r.drop 1 ++ [0]:=by
 obtain⟨a,b,c,d,e,f,rfl⟩:∃a b c d e f,r=[a,b,c,d,e,f]:=by
  match r,h with
  | [a,b,c,d,e,f],_=>exact⟨a,b,c,d,e,f,rfl⟩
 rfl
theorem RW(r:List Nat)(j:Nat):(r.drop 1).getD j 0=r.getD (1+j) 0:=by
 simp[AQ,Nat.add_comm]
theorem Tw:(Instr.index 274 (.agg #[Value.int .u8 63,.int .u8 1,.int .u8 218,.int .u8 32,.int .u8 227,.int .u8 38]) (.int .i64 0)).run prog w=.ok (.int .u8 63) w:=kr
theorem Tx:(Instr.index 274 (.agg #[Value.int .u8 63,.int .u8 1,.int .u8 218,.int .u8 32,.int .u8 227,.int .u8 38]) (.int .i64 1)).run prog w=.ok (.int .u8 1) w:=kr
theorem Tz:(Instr.index 274 (.agg #[Value.int .u8 63,.int .u8 1,.int .u8 218,.int .u8 32,.int .u8 227,.int .u8 38]) (.int .i64 2)).run prog w=.ok (.int .u8 218) w:=kr
theorem T8:(Instr.index 274 (.agg #[Value.int .u8 63,.int .u8 1,.int .u8 218,.int .u8 32,.int .u8 227,.int .u8 38]) (.int .i64 3)).run prog w=.ok (.int .u8 32) w:=kr
theorem T9:(Instr.index 274 (.agg #[Value.int .u8 63,.int .u8 1,.int .u8 218,.int .u8 32,.int .u8 227,.int .u8 38]) (.int .i64 4)).run prog w=.ok (.int .u8 227) w:=kr
theorem UA:(Instr.index 274 (.agg #[Value.int .u8 63,.int .u8 1,.int .u8 218,.int .u8 32,.int .u8 227,.int .u8 38]) (.int .i64 5)).run prog w=.ok (.int .u8 38) w:=kr
theorem dL(k:Nat)(h:k<6)(w:Wd):(Instr.index 274 (.agg #[Value.int .u8 63,.int .u8 1,.int .u8 218,.int .u8 32,.int .u8 227,.int .u8 38]) (.int .i64 (k:Int))).run prog w=.ok (.int .u8 (gl.getD k 0:Nat)) w:=by
 rcases(by omega:k=0\/k=1\/k=2\/k=3\/k=4\/k=5) with e | e | e | e | e | e <;> subst e
 ·exact Tw w
 ·exact Tx w
 ·exact Tz w
 ·exact T8 w
 ·exact T9 w
 ·exact UA w
theorem KI(q b:Nat)(w:Wd)(h:Cod w q b)(c o cap:Nat)(l:List Nat)(hl:l.length=58)(hb:Bys l)(hcb:c≠b)(hcs:c<w.heap.size)(hcell:∀i,i<l.length->w.cell? ⟨c,o+i,none⟩=some (.int .u8 (l.getD i 0:Nat))) :Calls prog 263 #[.pointer (some ⟨q,0,none⟩),.slice (some ⟨c,o,none⟩) 58 cap] w fun e w'=>e=.returned (.agg (bcells (rem l 58)))/\Cod w' q b/\But b w w':=by
 have hz:=Tn;have hne:=h.ne;have hq:=h.lt;have hbb:=h.1.lt;have HC:=BB hcell;clear hcell;go_enter func263,ntmps263;go_wp2_with fail
 go_loopw [13] (fun t wr=>∃i:Nat,i<=58/\t=.int .i64 i/\Arr wr w.heap.size 274 [0,0,0,0,0,0]/\Arr wr (w.heap.size+1) 274 (rem l i)/\Cod wr q b/\But b w wr) (fun t _=>58 - (intOf t).toNat)
 case atStart=>
  have h1:=Arr.new w 274 [0,0,0,0,0,0];have h2:=Arr.new (w.alloc (.cells (bcells [0,0,0,0,0,0]) 274)) 274 [0,0,0,0,0,0];refine⟨0,om,rfl,h1.alloc _,?_,(h.alloc _).alloc _,((But.refl _ _).alloc _).alloc _⟩;have h3:Arr ((w.alloc (.cells (bcells [0,0,0,0,0,0]) 274)).alloc (.cells (bcells [0,0,0,0,0,0]) 274)) (w.heap.size+1) 274 [0,0,0,0,0,0]:=by simpa using h2
  exact h3
 case round=>
  obtain⟨i,hi,rfl,hR,hO,hC,hB⟩:=hrel;by_cases hlt:i<58
  ·have c1:wr.cell? ⟨c,o+i,none⟩=some (.int .u8 (l.getD i 0:Nat)):=(hB.cell hcs hcb _).trans (HC.out i om);have hrl:=CR l i;have hrb:=GL l i;have HR:Hid (rem l (i+1)=inner (l.getD i 0 ^^^ (rem l i).getD 0 0) gl 0 ((rem l i).drop 1 ++ [0]) 6):=rfl;have c2:=hO.cell 0 om;have d1:=hb.getD i;have d2:=hrb.getD 0;have e1:=u8_xor_nat (l.getD i 0) ((rem l i).getD 0 0) d1 d2;have hfl:=CO _ _ d1 d2;have hkb6:(0:Int)<=(i:Int):=om;have hkb7:(i:Int)<58:=om;generalize l.getD i 0=x at *
   generalize hr:rem l i=r at *
   have Hr:=BB hr;clear hr;generalize r.getD 0 0=y at *
   generalize x ^^^ y=f at *
   go_wp2_with fail;have hdl:(r.drop 1).length=5:=(by simp[hrl]);have HRL:=BB hrl;have hsrc:∀j,j<(r.drop 1).length->wr.drew.cell? ⟨w.heap.size+1,1+j,none⟩=some (.int .u8 ((r.drop 1).getD j 0:Nat)):=fun j hj=>by
    rw[RW];exact hO.drew.cell (1+j) om
   have HSRC:=BB hsrc;have HDL:=BB hdl;clear hsrc hdl hrl
   go_region_law (refine Fq rfl (.tmp 21) (.tmp 22) rfl (w.heap.size+1) 0 6 6 (w.heap.size+1) 1 5 5 rfl rfl hO.drew (r.drop 1) (by rw[HDL.out];rfl) HSRC.out (by rw[HDL.out,HRL.out];omega) ?_;intro w2 hO2 hX2)
   have hR2:Arr w2 w.heap.size 274 [0,0,0,0,0,0]:=hX2.arr om hR.drew;have hC2:Cod w2 q b:=hX2.cod om om hC.drew;have hB2:But b w w2:=hX2.but om hB.drew;clear hR hC hB hX2 hO c1 c2;have hO3:Arr (w2.setCell ⟨w.heap.size+1,5,none⟩ (.int .u8 0)) (w.heap.size+1) 274 (r.drop 1 ++ [0]):=by
    rw[<-RV HRL.out];exact hO2.store 5 0
   have c5:=hO2.cell 5 (by rw[EV (by rw[HDL.out,HRL.out];omega),HRL.out];omega);have f5:=hO2.frozen 5;have hR3:Arr (w2.setCell ⟨w.heap.size+1,5,none⟩ (.int .u8 0)) w.heap.size 274 [0,0,0,0,0,0]:=hR2.setOther om _ _;have hC3:Cod (w2.setCell ⟨w.heap.size+1,5,none⟩ (.int .u8 0)) q b:=hC2.setNew om om _ _;have hB3:But b w (w2.setCell ⟨w.heap.size+1,5,none⟩ (.int .u8 0)):=hB2.setNew om _ _;obtain⟨g1,g2,g3,g4,g5,g6⟩:=hC3.gens;have HO3:=BB hO3;have HR3:=BB hR3;have HC3:=BB hC3;have HB3:=BB hB3;clear hO3 hR3 hC3 hB3 hR2 hC2 hB2 hO2;go_wp2_with fail;generalize w2.setCell ⟨w.heap.size+1,5,none⟩ (.int .u8 0)=w3 at *
   clear g1 g2 g3 g4 g5 g6 c5 f5 HSRC;generalize hbs:r.drop 1 ++ [0]=bs at *
   have hbl:bs.length=6:=(by rw[<-hbs];simp[HRL.out]);have hbb2:Bys bs:=(by rw[<-hbs];exact EW (by rw[<-Hr.out];exact GL l i));have HBL:=BB hbl;clear hbs hbl
   go_loopw [29] (fun t wx=>∃k:Nat,k<=6/\t=.int .i64 k/\Arr wx w.heap.size 274 [0,0,0,0,0,0]/\Arr wx (w.heap.size+1) 274 (inner f gl 0 bs k)/\Cod wx q b/\But b w wx) (fun t _=>6 - (intOf t).toNat)
   case atStart=>exact⟨0,om,rfl,HR3.out,HO3.out,HC3.out,HB3.out⟩
   case round=>
    clear HR3 HO3 HC3 HB3;obtain⟨k,hk,rfl,hR,hO,hC,hB⟩:=hrel;by_cases hlt2:k<6
    ·have hIl:(inner f gl 0 bs k).length=6:=(by rw[CW,HBL.out]);have hIb:=D9 f gl 0 bs hbb2 k;have HS:Hid (inner f gl 0 bs (k+1)=(inner f gl 0 bs k).set k ((inner f gl 0 bs k).getD k 0 ^^^ gm f (gl.getD k 0))):=BB (by
      show addAt _ (0+k) _=_
      rw[AW];rfl)
     have hidx:=dL k hlt2;have c1:=hO.cell k om;have f1:=hO.frozen k;have c3:=hC.ptr;have dg:=Tj.getD k;have dI:=hIb.getD k;have hkb6:(0:Int)<=(k:Int):=om;have hkb7:(k:Int)<6:=om;generalize inner f gl 0 bs k=I at *
     generalize hIk:I.getD k 0=z at *
     have HIK:=BB hIk;clear hIk;generalize gl.getD k 0=g at *
     have e2:=u8_xor_nat z (gm f g) dI (Bh _ _);have HIL:=BB hIl;clear hIl;have n1:q≠w.heap.size+1:=om;go_wp2_with fail
     go_region_with
      (first | (go_at_call 224;refine(FR b _ ?_ f g hfl dg).mono ?_;(exact hC.1.drew);rintro e w' ⟨rfl,hF',hB'⟩;have hR':Arr w' w.heap.size 274 [0,0,0,0,0,0]:=(hR.drew.but hB' om);have hO':Arr w' (w.heap.size+1) 274 I:=(hO.drew.but hB' om);have hC':Cod w' q b:=(hC.drew.but hF' hB');have c4:=hC'.ptr;have c1':w'.cell? ⟨w.heap.size+1,k,none⟩=some (.int .u8 (z:Nat)):=((hB'.cell hO.lt om _).trans c1);have f1':=hO'.frozen k))
     all_goals
      have hO2:Arr (w'.setCell ⟨w.heap.size+1,k,none⟩ (.int .u8 ((z ^^^ gm f g:Nat):Int))) (w.heap.size+1) 274 (inner f gl 0 bs (k+1)):=by
       rw[HS.out];exact hO'.store k _
      clear c1 f1 c3 c4 c1' f1';go_wp2;exact⟨⟨k+1,om,by go_num,hR'.setOther om _ _,hO2,hC'.setNew om om _ _,((hB.drew.trans hB').setNew om _ _)⟩,by simp[intOf];omega⟩
    ·have hO5:Arr wr (w.heap.size+1) 274 (rem l (i+1)):=by
      have e:k=6:=om;rw[e] at hO;rw[HR.out];exact hO
     clear hO;go_wp2;exact⟨⟨i+1,om,by go_num,hR,hO5,hC,hB⟩,by simp[intOf];omega⟩
  ·have hO5:Arr wr (w.heap.size+1) 274 (rem l 58):=by
    have e:i=58:=om;rw[e] at hO;exact hO
   have hR2:=hR.row (rem l 58);have hC2:Cod (wr.setRow w.heap.size (bcells (rem l 58))) q b:=hC.setRow om om _;have hB2:But b w (wr.setRow w.heap.size (bcells (rem l 58))):=hB.setRow om _;clear hO;go_wp2_with (first | (refine BI rfl 274 (.tmp 5) rfl _ rfl hO5 underlying274 LG (CR _ _) ?_) | (refine wpList_store_arr rfl 274 (.tmp 4) (.tmp 47) rfl _ _ rfl rfl hR LG rfl (CR _ _) ?_) | go_in);refine AZ (Et rfl _ hR2 rfl underlying274 LG (CR _ _)) rfl ⟨rfl,hC2,hB2⟩
end
theorem Yv{l r:List Nat}(hl:l.length=58)(hr:r.length=6):lay (lay z64 0 l) 58 r=l ++ r:=by
 have h1:(lay z64 0 l).length=64:=by rw[EV (by rw[hl,Bc];omega),Bc]
 show (lay z64 0 l).take 58 ++ (r ++ (lay z64 0 l).drop (58+r.length))=l ++ r;rw[hr,Ax om,append_nil];congr 1;show ((z64.take 0) ++ (l ++ z64.drop (0+l.length))).take 58=l;rw[take_zero,A6,take_append_of_le_length om,As om]
theorem OU(q b:Nat)(w:Wd)(h:Cod w q b)(c o cap:Nat)(l:List Nat)(hl:l.length=58)(hb:Bys l)(hcb:c≠b)(hcs:c<w.heap.size)(hcell:∀i,i<l.length->w.cell? ⟨c,o+i,none⟩=some (.int .u8 (l.getD i 0:Nat))) :Calls prog 248 #[.pointer (some ⟨q,0,none⟩),.slice (some ⟨c,o,none⟩) 58 cap] w fun e w'=>∃g,e=.returned (.tuple #[.slice (some ⟨g,0,none⟩) 64 64,.nilIface])/\w.heap.size<=g/\Arr w' g 5 (IW l)/\Cod w' q b/\But b w w':=by
 have hz:=Tn;have hmk:=dJ;have hne:=h.ne;have hq:=h.lt;have hbb:=h.1.lt;have HC:=BB hcell;clear hcell;have hrl:=CR l 58;go_enter func248,ntmps248;go_wp2_with (first | (refine Ei rfl (.tmp 13) (.tmp 14) rfl w.heap.size 0 64 64 c o 58 cap rfl rfl (Arr.new w 5 z64) l (by rw[hl];rfl) (fun j hj=>(((But.refl b w).alloc (.cells (bcells z64) 5)).cell hcs hcb _).trans (HC.out j hj)) (by rw[hl,Bc];omega) ?_;intro w2 hA2 hX2;have C2:Cod w2 q b:=(hX2.cod om om (h.alloc _));have B2:But b w w2:=(hX2.but om ((But.refl b w).alloc _));clear hX2) | (go_at_call 263;refine(KI q b _ C2 c o cap l hl hb hcb (Aj hcs B2.size) (fun i hi=>(B2.cell hcs hcb _).trans (HC.out i hi))).mono ?_;rintro e w3 ⟨rfl,C3,B3⟩;have A3:Arr w3 w.heap.size 5 (lay z64 0 l):=(hA2.but B3 om);have B13:But b w w3:=(B2.trans B3);clear hA2 C2 B2 B3) | (refine Bb rfl 274 (.tmp 7) (.tmp 18) rfl _ _ rfl rfl (Arr.new w3 274 [0,0,0,0,0,0]) LG rfl hrl ?_;intro w4 hS4 hO4;have A4:Arr w4 w.heap.size 5 (lay z64 0 l):=(hO4.arr (by have:=A3.lt;omega) (A3.alloc _));have C4:Cod w4 q b:=(hO4.cod (by have:=C3.lt;omega) (by have:=C3.1.lt;omega) (C3.alloc _));have B4:But b w w4:=(hO4.but B13.size (B13.alloc _));have hlt3:w.heap.size<w3.heap.size:=A3.lt;clear hO4 A3 C3 B13));generalize w3.heap.size=g3 at *
 have h64:(lay z64 0 l).length=64:=by rw[EV (by rw[hl,Bc];omega),Bc]
 have HL:=BB (Yv hl hrl);have H64:=BB h64;clear h64
 go_region_law (refine Fq rfl (.tmp 20) (.tmp 21) rfl w.heap.size 58 6 6 g3 0 6 6 rfl rfl A4.drew (rem l 58) (by rw[hrl];rfl) (fun j hj=>by rw[AW];exact hS4.drew.cell j hj) (by rw[hrl,H64.out];omega) ?_;intro w5 hA5 hX5)
 rw[HL.out] at hA5;have C5:Cod w5 q b:=hX5.cod om om C4.drew;have B5:But b w w5:=hX5.but om B4.drew;clear hX5 A4 C4 B4 hS4;go_wp2;go_ret2;exact⟨w.heap.size,rfl,om,hA5,C5,B5⟩
section
variable {w:Wd}{b q:Nat}{G R:List Nat}
def EE (b:Nat) (G R:List Nat):Array Value:=(Value.pointer (some ⟨b,0,none⟩) :: ((G ++ R).map fun (n:Nat)=>Value.int .u8 (n:Int))).toArray
def Crw (w:Wd) (q b:Nat) (G R:List Nat):Prop:=w.heap[q]?=some (.cells (EE b G R) 277)
theorem Crw.lt(h:Crw w q b G R):q<w.heap.size:=(Array.getElem?_eq_some_iff.1 h).1
theorem Crw.ptr(h:Crw w q b G R):w.cell? ⟨q,0,none⟩=some (.pointer (some ⟨b,0,none⟩)):=by
 rw[cell_of_row w q 0 _ _ _ h];simp[EE]
theorem Crw.frozen(h:Crw w q b G R)(i:Nat):w.frozen? ⟨q,i,none⟩=false:=frozen_of_row w q i _ _ h
theorem Crw.but{w':Wd}(h:Crw w q b G R)(hB:But b w w')(hq:q≠b):Crw w' q b G R:=(hB.block q h.lt hq).trans h
theorem Crw.alloc(h:Crw w q b G R)(o:Obj):Crw (w.alloc o) q b G R:=(Below.heap_alloc _ _ _ h.lt).trans h
theorem Crw.drew(h:Crw w q b G R):Crw w.drew q b G R:=h
theorem Crw.root(h:Crw w q b G R)(hG:G.length=6)(i:Nat)(hi:i<R.length):w.cell? ⟨q,7+i,none⟩=some (.int .u8 (R.getD i 0:Nat)):=by
 rw[cell_of_row w q _ _ _ _ h,show 7+i=(6+i)+1 from om];simp only[EE,map_append,List.getElem?_toArray,List.getElem?_cons_succ];rw[Aa (by simp[hG]),A7,hG,show 6+i - 6=i from om];simp[AQ,AU hi]
theorem Crw.store(h:Crw w q b G R)(hG:G.length=6)(i v:Nat):Crw (w.setCell ⟨q,7+i,none⟩ (.int .u8 (v:Int))) q b G (R.set i v):=by
 have h':w.heap[q]?=some (.cells (EE b G R) 277):=h;show (w.setCell ⟨q,7+i,none⟩ (.int .u8 (v:Int))).heap[q]?=_;have e:(EE b G R).setIfInBounds (7+i) (.int .u8 (v:Int))=EE b G (R.set i v):=by
  apply Array.ext';rw[Array.toList_setIfInBounds];simp only[EE];rw[show 7+i=(6+i)+1 from om,set_cons_succ,map_append,map_append,Ap _ _ (by simp[hG]),A7,hG,show 6+i - 6=i from om,map_set]
 simp[World.setCell,Ai,h',e]
theorem Crw.cod(h:Crw w q b gl rl)(hF:Da w b):Cod w q b:=⟨hF,h⟩
theorem Yw(b:Nat)(w:Wd):(Instr.build 277 #[(0,.pointer (some ⟨b,0,none⟩))]).run prog w=.ok (.agg (EE b z6 z64)) w:=kr
def prod:Nat->List Nat
 | 0=>[1]
 | k+1=>tm (prod k) [1,ex k]
theorem MZ(k:Nat):(prod k).length=k+1:=by
 induction k with
 | zero=>rfl
 | succ k ih=>show (tm _ _).length=_;rw[Ha _ _ om (by simp),ih];rfl
theorem UB(k:Nat):Bys (prod k):=by
 cases k with
 | zero=>intro n hn;simp[prod] at hn;omega
 | succ k=>exact dB _ _
theorem UC:prod 6=1 :: gl:=by decide +kernel
def OE (k:Nat):List Nat:=(List.range 64).map fun i=>if i<k then rt i else 0
theorem JH(k:Nat):(OE k).length=64:=by simp[OE]
theorem UD:OE 0=z64:=by simp[OE];rfl
theorem Yx:OE 64=rl:=by
 apply map_congr_left;intro i hi;rw[AJ (mem_range.1 hi)]
theorem Yy(n:Nat):(OE n).set n (rt n)=OE (n+1):=by
 apply ext_getElem?;intro k;by_cases h:n=k
 ·subst h;by_cases h5:n<64
  ·rw[List.getElem?_set_self (by rw[JH];exact h5)];simp[OE,h5]
  ·rw[Ae (by simp[OE];omega),Ae (by simp[OE];omega)]
 ·rw[List.getElem?_set_ne h];by_cases h5:k<64
  ·simp only[OE,List.getElem?_map,List.getElem?_range h5,Option.map_some];congr 1;by_cases h6:k<n
   ·rw[AJ h6,AJ om]
   ·rw[AI h6,AI om]
  ·rw[Ae (by simp[OE];omega),Ae (by simp[OE];omega)]
theorem KJ{ops:Array Oper}{o:Oper}{a:Act}{K:Act->World->Prop}{Q:Exit->Act->World->Prop}{E:Prop}(hgd:o.guard=none)(d s:Operand)(ho:o.op=.call { callee:=.builtin .copy,args:=#[d,s],argTypes:=#[35,35] })(g c oo sLen sCap:Nat)(hd:a.eval d=.slice (some ⟨g,1,none⟩) 6 6)(hs:a.eval s=.slice (some ⟨c,oo,none⟩) sLen sCap)(hg:Crw w g b G R)(hG:G.length=6)(src:List Nat)(h6:src.length=6)(hn:6=Nat.min sLen 6)(hsrc:∀j,j<src.length->w.cell? ⟨c,oo+j,none⟩=some (.int .u8 (src.getD j 0:Nat)))(h:∀w',Crw w' g b src R->One g w w'->K (a.put o.dst (goInt src.length)) w') :if Region.wanted o (yielded ops a.tmps)=true then Oper.wp prog o a w K Q else E:=by
 have hw:Region.wanted o (yielded ops a.tmps)=true:=by simp[Region.wanted,hgd]
 rw[AJ hw];have hrun:=run_copy_row (P:=prog) w 35 35 o.type 5 g 1 6 6 ⟨c,oo,none⟩ sLen sCap (EE b G R) 277 (src.map fun (n:Nat)=>Value.int .u8 (n:Int)) underlying35 KW hg (by rw[A7,h6];exact hn) (ED hsrc) (by simp[EE,hG,h6]) (FV src);have e:((EE b G R).toList.take 1 ++ (src.map fun (n:Nat)=>Value.int .u8 (n:Int)) ++ (EE b G R).toList.drop (1+(src.map fun (n:Nat)=>Value.int .u8 (n:Int)).length)).toArray=EE b src R:=by
  simp only[EE,A7,h6];congr 1;simp only[map_append,take_succ_cons,take_zero,cons_append,A6,show 1+6=6+1 from rfl,drop_succ_cons];rw[drop_append_of_le_length (by simp[hG]),Ax (by simp[hG]),A6]
 rw[e,A7] at hrun;unfold Oper.wp;simp[execOp,ho,resolve,invoke,builtin,hd,hs,hrun,Result.andThen];exact h _ (setRow_heap w g _ _ 277 _ hg) (One.row w g _)
theorem dM(i:Nat)(h:i<64):exZ (63 - (i:Int))=rt i:=by
 unfold exZ rt;congr 1;omega
theorem RX(w:Wd) :Calls prog 164 #[] w fun e w'=>∃q b,e=.returned (.pointer (some ⟨q,0,none⟩))/\w.heap.size<=q/\w.heap.size<=b/\Cod w' q b/\Chg No w w':=by
 have hbd:=Yw;go_enter func164,ntmps164;go_wp2_with (first | (go_at_call 193;refine(GK _).mono ?_;rintro e w' ⟨rfl,rfl⟩));clear hbd
 go_loopw [2,9] (fun p t wr=>∃k g:Nat,k<=6/\t=.int .i64 k/\p=.slice (some ⟨g,0,none⟩) (k+1) (k+1)/\FT wr g (prod k)/\g≠w.heap.size/\Crw wr (w.heap.size+1) w.heap.size z6 z64/\Da wr w.heap.size/\Chg No w wr) (fun _ t _=>6 - (intOf t).toNat)
 case atStart=>
  have ez:zeroCells277.setIfInBounds 0 (.pointer (some ⟨w.heap.size,0,none⟩))=EE w.heap.size z6 z64:=kr
  rw[ez];have c1:Crw ((w.alloc (.cells (Bm 0 0 0) 316)).alloc (.cells (EE w.heap.size z6 z64) 277)) (w.heap.size+1) w.heap.size z6 z64:=by
   have h1:=heap_alloc_new (w.alloc (.cells (Bm 0 0 0) 316)) (.cells (EE w.heap.size z6 z64) 277);rw[show (w.alloc (.cells (Bm 0 0 0) 316)).heap.size=w.heap.size+1 from by simp] at h1;exact h1
  have f1:=((Da.new w).alloc (.cells (EE w.heap.size z6 z64) 277)).alloc (.cells (bcells [1]) 5);have p1:=FT.new ((w.alloc (.cells (Bm 0 0 0) 316)).alloc (.cells (EE w.heap.size z6 z64) 277)) [1];rw[show ((w.alloc (.cells (Bm 0 0 0) 316)).alloc (.cells (EE w.heap.size z6 z64) 277)).heap.size=w.heap.size+1+1 from by simp] at p1;exact⟨0,w.heap.size+1+1,om,rfl,rfl,p1,om,c1.alloc _,f1,(((Chg.refl _ _).alloc _).alloc _).alloc _⟩
 case round=>
  obtain⟨k,g,hk,rfl,rfl,hP,hgb,hQ,hF,hG⟩:=hrel;have hpl:=MZ k;have hpb:=UB k;have hqb:w.heap.size+1≠w.heap.size:=om
  by_cases hlt:k<6
  ·have c3:=hQ.ptr;have hkb4:(0:Int)<=(k:Int):=om;have hkb5:(k:Int)<6:=om;have HE:=BB (QT k om);have HPr:Hid (prod (k+1)=tm (prod k) [1,ex k]):=rfl;have HPL:=BB hpl;clear hpl;have hxk:=D8 k;generalize ex k=y at *
   generalize prod k=pk at *
   have hqs:=hQ.lt;have hgs:=hP.lt;have h2b:Bys [1,y]:=(by intro n hn;simp at hn;omega);go_wp2_with fail
   go_region_held3 (fun wx=>wx.cell? ⟨w.heap.size+1,0,none⟩=some (.pointer (some ⟨w.heap.size,0,none⟩)))
    (first | exact c3 | exact c4 | exact c5 | exact c6)
    (first | (go_at_call 195;refine(Ig w.heap.size _ ?_ _).mono ?_;(exact hF.drew);rintro e w1 ⟨rfl,hF1,hB1⟩;rw[HE.out];have hQ1:Crw w1 (w.heap.size+1) w.heap.size z6 z64:=(hQ.drew.but hB1 hqb);have c4:=hQ1.ptr;have c5:=(hQ1.alloc (.cells (bcells [1,y]) 5)).ptr;have hP1:FT w1 g pk:=(hP.drew.but hB1 hgb)) | (go_at_call 194;refine(RR w.heap.size _ (hF1.alloc _) (some ⟨g,0,none⟩) (some ⟨w1.heap.size,0,none⟩) (k+1) (k+1) 2 2 pk [1,y] HPL.out.symm rfl ?_ ?_ ?_ ?_).mono ?_;(have:=HPL.out;omega);(simp);(exact(hP1.rd hpb hgb).but ((But.refl _ _).alloc _));(exact(FT.new w1 [1,y]).rd h2b (by have:=hF1.lt;omega));rintro e w2 ⟨at_,m,rfl,hm,hor,hF2,hB2⟩;have hQ2:Crw w2 (w.heap.size+1) w.heap.size z6 z64:=((hQ1.alloc _).but hB2 hqb);have c6:=hQ2.ptr))
   all_goals
    rcases hor with ⟨h0,-⟩ | ⟨-,-,rfl,hP2⟩
    ·omega
    ·have htl:(tm pk [1,y]).length=k+2:=(by rw[Ha _ _ (by have:=HPL.out;omega) (by simp),HPL.out];rfl);have hG2:Chg No w w2:=((hG.drew.trans' hB1.chg (fun i hi e=>om)).alloc _).trans' hB2.chg (fun i hi e=>om);have hgs2:w1.heap.size+1≠w.heap.size:=(by have:=hF1.lt;omega);rw[<-HPr.out] at hP2;rw[htl];go_wp2;exact⟨⟨k+1,_,om,by go_num,rfl,hP2,by simpa using hgs2,hQ2,hF2,hG2⟩,by simp[intOf];omega⟩
  ·have e6:k=6:=om;subst e6;have hP6:FT wr g (1 :: gl):=(by rw[<-UC];exact hP);clear hP hpl hpb hlt hk;have hsrc:∀j,j<gl.length->wr.drew.cell? ⟨g,1+j,none⟩=some (.int .u8 (gl.getD j 0:Nat)):=fun j hj=>by
    have h1:=hP6.drew.cell (1+j) (by simp;omega);rw[Nat.add_comm 1 j] at h1 ⊢;exact h1
   have HSRC:=BB hsrc;have hgs:=hP6.lt;clear hsrc hP6;go_wp2_with fail;simp only[Nat.reduceAdd];generalize zeroCells277.setIfInBounds 0 (Value.pointer (some ⟨w.heap.size,0,none⟩))=zz
   go_region_law (refine KJ (g:=w.heap.size+1) (c:=g) (oo:=1) (sLen:=6) (sCap:=6) (src:=gl) (b:=w.heap.size) (G:=z6) (R:=z64) rfl (.tmp 29) (.tmp 31) rfl (by simp[Act.eval,Act.put]) (by simp[Act.eval,Act.put]) hQ.drew rfl rfl rfl HSRC.out ?_;intro w2 hQ2 hX2)
   have hF2:Da w2 w.heap.size:=hF.drew.other (hX2.block _ om);have hG2:Chg No w w2:=⟨hX2.os.trans hG.os,hX2.tape.trans hG.tape,hX2.output.trans hG.output,by rw[hX2.size];exact hG.size,fun i hi hs=>(hX2.block i om).trans (hG.block i hi hs)⟩;clear hX2 hQ hF hG HSRC;go_wp2_with fail
   go_loopw [33] (fun t wx=>∃i:Nat,i<=64/\t=.int .i64 i/\Crw wx (w.heap.size+1) w.heap.size gl (OE i)/\Da wx w.heap.size/\Chg No w wx) (fun t _=>64 - (intOf t).toNat)
   case atStart=>exact⟨0,om,rfl,by rw[UD];exact hQ2,hF2,hG2⟩
   case round=>
    clear hQ2 hF2 hG2;obtain⟨i,hi,rfl,hQ,hF,hG⟩:=hrel;by_cases hlt:i<64
    ·have c3:=hQ.ptr;have hkb4:(0:Int)<=(i:Int):=om;have hkb5:(i:Int)<64:=om;have HE:=BB (dM i hlt);have HS:=BB (Yy i);go_wp2_with fail;have hwr:IntKind.i64.wrap (63 - (i:Int))=63 - (i:Int):=by rw[IntKind.wrap_i64];omega
     go_region_held3 (fun wx=>wx.cell? ⟨w.heap.size+1,0,none⟩=some (.pointer (some ⟨w.heap.size,0,none⟩)))
      (first | exact c3 | exact c4 | exact c5)
      (first | (go_at_call 195;refine(Ig w.heap.size _ ?_ (63 - (i:Int))).mono ?_;(exact hF.drew);rintro e w1 ⟨rfl,hF1,hB1⟩;rw[HE.out];have hQ1:Crw w1 (w.heap.size+1) w.heap.size gl (OE i):=(hQ.drew.but hB1 hqb);have c4:=hQ1.ptr;have r1:=hQ1.root rfl i (by rw[JH];omega);have f1:=hQ1.frozen (7+i);have hQ2:Crw (w1.setCell ⟨w.heap.size+1,7+i,none⟩ (.int .u8 (rt i:Nat))) (w.heap.size+1) w.heap.size gl (OE (i+1)):=(by rw[<-HS.out];exact hQ1.store rfl i (rt i));have c5:=hQ2.ptr))
     all_goals
      have hG1:Chg No w w1:=hG.drew.trans' hB1.chg (fun i hi e=>om);clear c3 c4 c5 r1 f1 hwr;go_wp2;exact⟨⟨i+1,om,by go_num,hQ2,hF1.setOther om _ _,hG1.setCell (AL om) _ _⟩,by simp[intOf];omega⟩
    ·have hQ6:Crw wr (w.heap.size+1) w.heap.size gl rl:=by
      have e:i=64:=om;rw[e,Yx] at hQ;exact hQ
     clear hQ;go_wp2;go_ret;exact⟨w.heap.size+1,w.heap.size,rfl,om,om,hQ6.cod hF,hG⟩
end
section
variable {g:Nat}{t:TypeId}{l:List Nat}{w':Wd}(w:Wd)
theorem Arr.held{w:Wd}(h:Arr w g t l)(off n cap:Nat)(l':List Nat)(hn:n=l'.length)(ho:off+l'.length<=l.length)(he:∀i,i<l'.length->l.getD (off+i) 0=l'.getD i 0):Cu w (.slice (some ⟨g,off,none⟩) n cap) l':=by
 subst hn;exact⟨_,cap,rfl,AL ⟨g,off,rfl,h.lt,fun i hi=>by rw[h.cell _ om,he i hi]⟩⟩
theorem Arr.chg{S:Nat->Prop}{w:Wd}(h:Arr w g t l)(hc:Chg S w w')(hg:¬ S g):Arr w' g t l:=(hc.block g h.lt hg).trans h
theorem Cod.chg{w:Wd}{q b:Nat}(h:Cod w q b)(hc:Chg No w w'):Cod w' q b:=h.other (hc.block b h.1.lt (fun e=>e)) (hc.block q h.lt (fun e=>e))
theorem Ma:(binOp .eql 33 (.iface 56 (.int .i64 1)) .nilIface).run prog w=.ok (.bool false) w:=kr
theorem Mb:(binOp .eql 33 (.iface 56 (.int .i64 5)) .nilIface).run prog w=.ok (.bool false) w:=kr
theorem IE:(binOp .eql 33 .nilIface .nilIface).run prog w=.ok (.bool true) w:=kr
theorem Ds:(binOp .neq 33 (.iface 56 (.int .i64 1)) .nilIface).run prog w=.ok (.bool true) w:=kr
theorem Eu:(binOp .neq 33 (.iface 56 (.int .i64 5)) .nilIface).run prog w=.ok (.bool true) w:=kr
theorem BJ:(binOp .neq 33 .nilIface .nilIface).run prog w=.ok (.bool false) w:=kr
end
theorem Cu.chgF{w w':Wd}{v:Value}{l:List Nat}(h:Cu w v l)(hc:Chg No w w'):Cu w' v l:=h.chg hc (fun _ _ _ e=>e)
theorem Arr.at0{w:Wd}{g:Nat}{t:TypeId}{l:List Nat}(h:Arr w g t l):∀i,i<l.length->w.cell? ⟨g,0+i,none⟩=some (.int .u8 (l.getD i 0:Nat)):=fun i hi=>by
 rw[AW];exact h.cell i hi
theorem Fw{w:Wd}{f o n cap:Nat}{l:List Nat}(h:Cu w (.slice (some ⟨f,o,none⟩) n cap) l)(h0:l.length≠0):f<w.heap.size/\∀i,i<l.length->w.cell? ⟨f,o+i,none⟩=some (.int .u8 (l.getD i 0:Nat)):=by
 obtain⟨a',c',hv,h | ⟨g',o',ha,hg',hc⟩⟩:=h
 ·omega
 ·simp only[Value.slice.injEq] at hv;have e:=hv.1.trans ha;simp only[Option.some.injEq,Addr.mk.injEq] at e;obtain⟨rfl,rfl,-⟩:=e;exact⟨hg',hc⟩
end Go.Proofs.YtbhbilcieodbhaaGreat
namespace Go.Proofs.YtbhbilcieodbhaaGreat
open List
open Go.Proofs.Tryz
section
variable {l:List Nat}
theorem GM(h:Bys l)(k:Nat):Bys (l.take k):=fun n hn=>h n (mem_of_mem_take hn)
theorem GO(h:Bys l)(k:Nat):Bys (l.drop k):=fun n hn=>h n (mem_of_mem_drop hn)
end
end Go.Proofs.YtbhbilcieodbhaaGreat
namespace Go.Proofs.YtbhbilcieodbhaaGreat
open List
open Go.Proofs.Tryz
open Go.RowKit
theorem Chg.setRow{S:Nat->Prop}{u w:Wd}(h:Chg S u w){g:Nat}(hg:S g\/u.heap.size<=g)(c:Array Value):Chg S u (w.setRow g c):=
 ⟨h.os,h.tape,h.output,by simp;exact h.size,fun k hk hs=>(setRow_other _ _ _ _ (by
  rcases hg with hg | hg
  ·
   intro e;exact hs (by rw[e];exact hg)
  ·
   omega)).trans (h.block k hk hs)⟩
section
variable {w w':Wd}{base g:Nat}{e:TypeId}{v:Value}{l L:List Nat}
def jh (w:Wd) (base:Nat) (e:TypeId) (v:Value) (l:List Nat):Prop:=
 ∃g cur fz,v=.slice (some ⟨g,0,none⟩) l.length l.length/\base<=g/\w.heap[g]?=some (.cells cur e fz)/\(∀i,i<l.length->¬ (fz.1<=i/\i<fz.2))/\l.length<=maxLen/\l.length<=cur.size/\cur.toList.take l.length=l.map byt
def Cr (w:Wd) (base:Nat) (e:TypeId) (v:Value) (l:List Nat):Prop:=Own w base e v l\/jh w base e v l
theorem Own.t(h:Own w base e v l):Cr w base e v l:=AK h
theorem Cr.lies(h:Cr w base e v l)(h0:l.length≠0) :∃g cap,v=.slice (some ⟨g,0,none⟩) l.length cap/\base<=g/\g<w.heap.size/\l.length<=cap/\(∀i,i<l.length->w.cell? ⟨g,i,none⟩=some (.int .u8 (l.getD i 0:Nat)))/\∀i,i<l.length->w.frozen? ⟨g,i,none⟩=false:=by
 rcases h with h | ⟨g,cur,fz,hv,hg,hh,hz,hm,hs,ht⟩
 ·obtain⟨g,cap,h1,h2,h3,h4,h5,h6⟩:=h.lies h0;exact⟨g,cap,h1,h2,h3,h4,h5,fun i _=>h6 i⟩
 ·refine⟨g,l.length,hv,hg,(Array.getElem?_eq_some_iff.1 hh).1,AM _,fun i hi=>?_,fun i hi=>?_⟩
  rotate_left
  ·have:=hz i hi;simp only[World.frozen?,hh];simp only[Bool.and_eq_false_iff,decide_eq_false_iff_not];omega
  have e1:cur[i]?=some (byt (l.getD i 0)):=by
   have h2:(cur.toList.take l.length)[i]?=(l.map byt)[i]?:=(by rw[ht]);rw[List.getElem?_take_of_lt hi,List.getElem?_map,AU hi,Array.getElem?_toList] at h2;rw[h2,AQ,AU hi];rfl
  simp only[World.cell?,hh];simpa[byt] using e1
theorem Cr.form(h:Cr w base e v l):(v=.slice none 0 0/\l=[])\/∃g cap,v=.slice (some ⟨g,0,none⟩) l.length cap/\base<=g/\g<w.heap.size:=by
 rcases h with h | ⟨g,cur,fz,hv,hg,hh,_⟩
 ·rcases h.2 with ⟨rfl,h1⟩ | ⟨g,cap,cur,rfl,hb,hh,_⟩
  ·exact AK ⟨rfl,length_eq_zero_iff.1 h1⟩
  ·exact AL ⟨g,cap,rfl,hb,(Array.getElem?_eq_some_iff.1 hh).1⟩
 ·exact AL ⟨g,l.length,hv,hg,(Array.getElem?_eq_some_iff.1 hh).1⟩
theorem Cr.held(h:Cr w base e v l):Cu w v l:=by
 by_cases h0:l.length=0
 ·rcases h.form with ⟨rfl,_⟩ | ⟨g,cap,rfl,_⟩
  ·exact⟨none,0,by rw[h0],AK h0⟩
  ·exact⟨_,cap,rfl,AK h0⟩
 ·obtain⟨g,cap,rfl,hg,hs,_,hc,_⟩:=h.lies h0;exact⟨_,cap,rfl,AL ⟨g,0,rfl,hs,fun i hi=>by rw[AW];exact hc i hi⟩⟩
theorem Cr.block(h:Cr w base e v l){k:Nat}(hk:v.ownBlock=some k):base<=k/\k<w.heap.size:=by
 rcases h.form with ⟨rfl,_⟩ | ⟨g,cap,rfl,hb,hh⟩
 ·cases hk
 ·have e:g=k:=AR hk;subst e;exact⟨hb,hh⟩
theorem Cr.keep(h:Cr w base e v l)(hk:∀k,k<w.heap.size->v.ownBlock=some k->w'.heap[k]?=w.heap[k]?):Cr w' base e v l:=by
 rcases h with h | ⟨g,cur,fz,rfl,hb,hh,r⟩
 ·exact AK (h.keep hk)
 ·exact AL ⟨g,cur,fz,rfl,hb,(hk g (Array.getElem?_eq_some_iff.1 hh).1 rfl).trans hh,r⟩
theorem Cr.chg{S:Nat->Prop}(h:Cr w base e v l)(hc:Chg S w w')(hs:∀k,k<w.heap.size->v.ownBlock=some k->¬ S k):Cr w' base e v l:=
 h.keep (fun k hk he=>hc.block k hk (hs k hk he))
theorem Cr.mono{base':Nat}(h:Cr w base e v l)(hb:∀k,v.ownBlock=some k->base'<=k):Cr w base' e v l:=by
 rcases h with h | ⟨g,cur,fz,rfl,_,r⟩
 ·exact AK (h.mono hb)
 ·exact AL ⟨g,cur,fz,rfl,hb g rfl,r⟩
theorem Arr.tight(h:Arr w g 5 L)(hb:base<=g)(n:Nat)(hn:n<=L.length)(hm:n<=maxLen):Cr w base 5 (.slice (some ⟨g,0,none⟩) n n) (L.take n):=by
 have e:(L.take n).length=n:=by rw[length_take];omega
 refine AL ⟨g,bcells L,(0,0),by rw[e],hb,h,fun i _ h=>by simp at h,om,by rw[Ba];omega,?_⟩;rw[e];show (L.map _).take n=_;rw[<-map_take];rfl
theorem Arr.own(h:Arr w g 5 L)(hb:base<=g)(n:Nat)(hn:n=L.length)(hm:n<=maxLen):Cr w base 5 (.slice (some ⟨g,0,none⟩) n n) L:=by
 have:=h.tight hb n om hm
 rwa [As om] at this
end
end Go.Proofs.YtbhbilcieodbhaaGreat
namespace Go.Proofs.YtbhbilcieodbhaaGreat
open List
open Go.Proofs.Tryz
open Go.RowKit Go.Shelf
section
variable {B1 B2:Nat}
attribute [local go_sem] Oper.semAt_some
abbrev Ix:={ i:Nat // i<4 }
def GP (k:Nat):List Ix:=(List.range k).filterMap fun i=>if h:i<4 then some ⟨i,h⟩ else none
theorem C8(k:Nat)(h:k<4):GP (k+1)=GP k ++ [⟨k,h⟩]:=by
 simp[GP,range_succ,h]
theorem DK(k:Nat)(h:k<=4):(GP k).length=k:=by
 induction k with
 | zero=>rfl
 | succ k ih=>rw[C8 k om,AV,ih om];rfl
def OV (g o cap z:Nat) (x:Ix):Array Value:=#[.int .i64 (x.1:Int),.slice (some ⟨g,o+x.1*z,none⟩) z (cap - x.1*z)]
def Kp (B1 B2:Nat) (W W':Wd):Prop:=W'.heap[B1]?=W.heap[B1]?/\W'.heap[B2]?=W.heap[B2]?
theorem Kp.t{A B C:Wd}(h:Kp B1 B2 A B)(k:Kp B1 B2 B C):Kp B1 B2 A C:=⟨k.1.trans h.1,k.2.trans h.2⟩
theorem Kp.b{w:Wd}(h1:B1<w.heap.size)(h2:B2<w.heap.size)(W:Wd)(l:Nat)(_o o':Obj)(hl:w.heap.size<=l)(_:W.heap[l]?=some _o)(_:_o.isCells=false)(_:_o.isWalk=false):Kp B1 B2 W (W.putObj l o'):=
 ⟨World.putObj_heap_other om,World.putObj_heap_other om⟩
theorem Hb(w:Wd)(a:Option Addr)(n cap z:Nat) :Calls prog 199 #[.slice a n cap,.int .i64 (z:Int)] w fun e w'=>e=.returned (.func (.func 228) #[] #[.pointer (some ⟨w.heap.size,0,none⟩),.pointer (some ⟨w.heap.size+1,0,none⟩)])/\w'=(w.alloc (.cells #[.slice a n cap] 35)).alloc (.cells #[.int .i64 (z:Int)] 3):=by
 go_enter func199,ntmps199;go_wp2;go_ret;exact⟨by simp,rfl⟩
theorem QW(F:Fence)(n:Nat)(h42:F.fn 228)(hro:F.round=none)(hn:1<=n)(B1 B2 g o cap:Nat)(hcap:256<=cap)(w:Wd)(b1:B1<w.heap.size)(b2:B2<w.heap.size)(c1:w.cell? ⟨B1,0,none⟩=some (.slice (some ⟨g,o,none⟩) 256 cap))(c2:w.cell? ⟨B2,0,none⟩=some (.int .i64 64)) :SeqStopsK F n prog 228 #[.pointer (some ⟨B1,0,none⟩),.pointer (some ⟨B2,0,none⟩)] (OV g o cap 64) (Kp B1 B2) (fun ys=>ys=GP 4) (fun pre=>∃k,k<=4/\pre=GP k) 4 w:=fun l J Jx W hW _ _ hY h0=>by
 have d1:=(hW.cell (p:=⟨B1,0,none⟩) b1).trans c1
 have d2:=(hW.cell (p:=⟨B2,0,none⟩) b2).trans c2
 refine callsIn_of_wp func228 rfl h42 ?_ hro
 simp only[ntmps228,size_toArray,An,length_nil,Nat.reduceAdd,Nat.reduceSub,Array.replicate_succ,Array.replicate_zero,push_toArray,append_toArray,A6,cons_append]
 gi_wp2
 gi_loopw [9] (fun i wr=>∃k:Nat,k<=4/\i=.int .i64 k/\J (GP k) wr/\Kp B1 B2 W wr) (fun i _=>4 - (intOf i).toNat)
 case atStart=>exact⟨0,Ac _,rfl,h0,rfl,rfl⟩
 case round=>
  obtain⟨k,hk,rfl,hJs,hk1,hk2⟩:=hrel
  have e1:wr.cell? ⟨B1,0,none⟩=some (.slice (some ⟨g,o,none⟩) 256 cap):=(Ag (w:=W) (a:=⟨B1,0,none⟩) hk1).trans d1
  have e2:wr.cell? ⟨B2,0,none⟩=some (.int .i64 64):=(Ag (w:=W) (a:=⟨B2,0,none⟩) hk2).trans d2
  by_cases hlt:k<4
  ·
   obtain⟨fn,tmps,assign,body,hy,hR⟩:=hY _ ⟨k,hlt⟩ wr hJs (by rw[DK k hk];exact hlt)
   have hlt':(k:Int)<4:=om
   have hk0:(0:Int)<=(k:Int):=om
   dsimp only[OV] at hy
   have e64:(k+1)*64 - k*64=64:=om
   gi_wp2
   rw[e64]
   gi_wp2
   refine hR.mono ?_
   rintro e W3 (⟨rfl,hJ3,hk3⟩ | ⟨rfl,hJx3⟩)
   ·
    gi_wp2
    go_roundw
    case rel=>exact⟨k+1,om,by simp,by rw[C8 k hlt];exact hJ3,hk3.1.trans hk1,hk3.2.trans hk2⟩
    case measure=>simp[intOf];omega
   ·
    gi_wp2
    refine AZ (results_none rfl _ _ _) rfl ?_
    exact⟨⟨_,rfl⟩,.inr ⟨_,⟨k+1,om,(C8 k hlt).symm⟩,hJx3⟩⟩
  ·
   obtain rfl:k=4:=om
   gi_wp2
   go_end0
   exact⟨⟨_,rfl⟩,.inl ⟨_,rfl,hJs⟩⟩
theorem Yz(F:Fence)(n:Nat)(h42:F.fn 228)(hro:F.round=none)(hn:1<=n)(B1 B2 g o cap:Nat)(hcap:232<=cap)(w:Wd)(b1:B1<w.heap.size)(b2:B2<w.heap.size)(c1:w.cell? ⟨B1,0,none⟩=some (.slice (some ⟨g,o,none⟩) 232 cap))(c2:w.cell? ⟨B2,0,none⟩=some (.int .i64 58)) :SeqStopsK F n prog 228 #[.pointer (some ⟨B1,0,none⟩),.pointer (some ⟨B2,0,none⟩)] (OV g o cap 58) (Kp B1 B2) (fun ys=>ys=GP 4) (fun pre=>∃k,k<=4/\pre=GP k) 4 w:=fun l J Jx W hW _ _ hY h0=>by
 have d1:=(hW.cell (p:=⟨B1,0,none⟩) b1).trans c1
 have d2:=(hW.cell (p:=⟨B2,0,none⟩) b2).trans c2
 refine callsIn_of_wp func228 rfl h42 ?_ hro
 simp only[ntmps228,size_toArray,An,length_nil,Nat.reduceAdd,Nat.reduceSub,Array.replicate_succ,Array.replicate_zero,push_toArray,append_toArray,A6,cons_append]
 gi_wp2
 gi_loopw [9] (fun i wr=>∃k:Nat,k<=4/\i=.int .i64 k/\J (GP k) wr/\Kp B1 B2 W wr) (fun i _=>4 - (intOf i).toNat)
 case atStart=>exact⟨0,Ac _,rfl,h0,rfl,rfl⟩
 case round=>
  obtain⟨k,hk,rfl,hJs,hk1,hk2⟩:=hrel
  have e1:wr.cell? ⟨B1,0,none⟩=some (.slice (some ⟨g,o,none⟩) 232 cap):=(Ag (w:=W) (a:=⟨B1,0,none⟩) hk1).trans d1
  have e2:wr.cell? ⟨B2,0,none⟩=some (.int .i64 58):=(Ag (w:=W) (a:=⟨B2,0,none⟩) hk2).trans d2
  by_cases hlt:k<4
  ·
   obtain⟨fn,tmps,assign,body,hy,hR⟩:=hY _ ⟨k,hlt⟩ wr hJs (by rw[DK k hk];exact hlt)
   have hlt':(k:Int)<4:=om
   have hk0:(0:Int)<=(k:Int):=om
   dsimp only[OV] at hy
   have e58:(k+1)*58 - k*58=58:=om
   gi_wp2
   rw[e58]
   gi_wp2
   refine hR.mono ?_
   rintro e W3 (⟨rfl,hJ3,hk3⟩ | ⟨rfl,hJx3⟩)
   ·
    gi_wp2
    go_roundw
    case rel=>exact⟨k+1,om,by simp,by rw[C8 k hlt];exact hJ3,hk3.1.trans hk1,hk3.2.trans hk2⟩
    case measure=>simp[intOf];omega
   ·
    gi_wp2
    refine AZ (results_none rfl _ _ _) rfl ?_
    exact⟨⟨_,rfl⟩,.inr ⟨_,⟨k+1,om,(C8 k hlt).symm⟩,hJx3⟩⟩
  ·
   obtain rfl:k=4:=om
   gi_wp2
   go_end0
   exact⟨⟨_,rfl⟩,.inl ⟨_,rfl,hJs⟩⟩
end
section
variable {b p q:Nat}{w w' W:Wd}{S:Nat->Prop}{c:Array Value}{t:TypeId}{z:Nat × Nat}
def Frm (w:Wd) (p q b:Nat):Prop:=Cod w q b/\Boxed w p 242 (.pointer (some ⟨q,0,none⟩))
theorem Frm.lt(h:Frm w p q b):p<w.heap.size:=h.2.lt
theorem Df(h:Da w b):∃c z,w.heap[b]?=some (.cells c 316 z)/\500<c.size:=by
 rcases h with h | h <;> exact⟨_,_,h,by simp[Bm]⟩
theorem Frm.pb(h:Frm w p q b):p≠b:=by
 intro e;obtain⟨c,z,hc,-⟩:=Df h.1.1;have h2:w.heap[p]?=some (.cells #[.pointer (some ⟨q,0,none⟩)] 242):=h.2;rw[e,hc] at h2;simp at h2
theorem Frm.other(h:Frm w p q b)(hb:w'.heap[b]?=w.heap[b]?)(hq:w'.heap[q]?=w.heap[q]?)(hp:w'.heap[p]?=w.heap[p]?):Frm w' p q b:=
 ⟨h.1.other hb hq,hp.trans h.2⟩
theorem Frm.chg(h:Frm w p q b)(hc:Chg No w w'):Frm w' p q b:=
 ⟨h.1.chg hc,(hc.block p h.lt (fun e=>e)).trans h.2⟩
theorem Frm.but(h:Frm w p q b)(hC:Cod w' q b)(hB:But b w w'):Frm w' p q b:=⟨hC,(hB.block p h.lt h.pb).trans h.2⟩
theorem dN(q:Nat)(w:Wd):(Instr.build 242 #[(0,.pointer (some ⟨q,0,none⟩))]).run prog w=.ok (.agg #[.pointer (some ⟨q,0,none⟩)]) w:=kr
theorem RY(w:Wd) :Calls prog 131 #[] w fun e w'=>∃p q b,e=.returned (.pointer (some ⟨p,0,none⟩))/\w.heap.size<=p/\w.heap.size<=q/\w.heap.size<=b/\Frm w' p q b/\Chg No w w':=by
 have hbF:=dN;go_enter func131,ntmps131;go_wp2_with fail;refine(RX w).mono ?_;rintro e w1 ⟨q,b,rfl,hq,hb,C1,G1⟩;have hs:=G1.size;go_wp2;go_ret;exact⟨w1.heap.size,q,b,rfl,om,hq,hb,⟨C1.alloc _,Boxed.new _ _ _⟩,G1.alloc _⟩
theorem Chg.keeps{W':Wd}(h:Chg S W W')(hS:∀k,S k->∀o,W.heap[k]?=some o->o.isCells=true)(B:Nat):KeepsFrom B W W':=
 ⟨h.size,fun k o _ h0 ho=>(h.block k (Array.getElem?_eq_some_iff.1 h0).1 (fun s=>by rw[hS k s o h0] at ho;cases ho)).trans h0⟩
theorem Mc{β:Type}:OwnFrom w.heap.size (fun (_:β) W=>Chg S w W):=
 fun _ _ _ _ hs hg hr=>hs.grown hg (fun k e=>AL (hr k e).1)
theorem UE{r:Nat}(h:W.heap[b]?=some (.cells c t z))(hr:∃o:Obj,W.heap[r]?=some o/\o.isCells=false):b≠r:=by
 rintro rfl;obtain⟨o,h1,h2⟩:=hr;rw[h] at h1;cases h1
 cases h2
theorem OW{X Y:Wd}{row:Option Nat}(h:X.heap[b]?=some (.cells c t z))(hg:X.grownBy Y row)(hr:∀r,row=some r->∃o:Obj,X.heap[r]?=some o/\o.isCells=false):Y.heap[b]?=X.heap[b]?:=
 hg.block b (Array.getElem?_eq_some_iff.1 h).1 (fun e=>UE h (hr b e.symm) rfl)
end
section
variable {X Y w W:Wd}{z B r1 r2 r3:Nat}{L l:List Nat}{e:Ending}
attribute [local go_sem] Oper.semAt_some
def part (z:Nat) (L:List Nat) (i:Nat):List Nat:=(L.drop (i*z)).take z
theorem DL(hL:L.length=4*z)(i:Nat)(hi:i<4):(part z L i).length=z:=by
 have:(i+1)*z<=4*z:=Nat.mul_le_mul_right z hi;rw[Nat.add_mul,Nat.one_mul] at this;simp[part];omega
theorem GQ(h:Bys L)(i:Nat):Bys (part z L i):=GM (GO h _) _
theorem Hc(z:Nat)(L:List Nat)(i j:Nat)(hj:j<z):(part z L i).getD j 0=L.getD (i*z+j) 0:=by
 simp[part,AQ,hj]
def IF (X Y:Wd):Prop:=∀(g:Nat) (c:Array Value) (t:TypeId),X.heap[g]?=some (.cells c t)->Y.heap[g]?=X.heap[g]?
theorem De.keep(h:De w X l e)(hk:IF X Y):De w Y l e:=by
 rcases h with h | ⟨m,d,g,h1,h2,h3,h4,h5,h6,h7⟩
 ·exact AK h
 ·exact AL ⟨m,d,g,h1,h2,h3,h4,h5,h6,(hk g _ _ h7).trans h7⟩
theorem BN{t:TypeId}{v:Value}(h:Boxed X B t v)(hk:IF X Y):Boxed Y B t v:=(hk B _ _ h).trans h
theorem kept{row:Option Nat}(hg:X.grownBy Y row)(hr:∀r,row=some r->B<=r/\∃o:Obj,X.heap[r]?=some o/\o.isCells=false):IF X Y:=
 fun _ _ _ h=>OW h hg (fun r e=>(hr r e).2)
theorem Ev{D:Nat}{o:Obj}(o':Obj)(h:X.heap[D]?=some o)(ho:o.isCells=false):IF X (X.putObj D o'):=
 fun g _ _ hg=>World.putObj_heap_other (fun e=>by rw[<-e,hg] at h;cases h;cases ho)
theorem Frm.keep{p q b:Nat}(h:Frm X p q b)(hk:IF X Y):Frm Y p q b:=by
 refine h.other ?_ (hk _ _ _ h.1.2) (hk _ _ _ h.2);rcases h.1.1 with h1 | h1 <;> exact hk _ _ _ h1
theorem IG(p:Nat)(w:Wd)(a:Option Addr)(n cap:Nat)(k:Int)(hn:n≠256) :Calls prog 196 #[.pointer (some ⟨p,0,none⟩),.slice a n cap,.int .i64 k] w fun e w'=>e=.returned (.tuple #[.slice none 0 0,.int .i64 0,.iface 56 (.int .i64 1)])/\Chg No w w':=by
 have hn':((n:Int) != 256)=true:=by simp;omega
 refine(callsIn_wide (n:=3)).1 ?_;refine callsIn_of_wp_marks func196 rfl trivial ?_ rfl;simp only[ntmps196,size_toArray,An,length_nil,Nat.reduceAdd,Nat.reduceSub,Array.replicate_succ,Array.replicate_zero,push_toArray,append_toArray,A6,cons_append]
 gi_wp2;refine⟨.tuple #[.slice none 0 0,.int .i64 0,.iface 56 (.int .i64 1)],?_,rfl,((((((Chg.refl _ _).alloc _).alloc _).alloc _).alloc _).alloc _)⟩;simp[results,f196,go_sem]
theorem De.chg{S:Nat->Prop}(h:De W X l e)(hc:Chg S X Y)(hS:∀k,S k->k<W.heap.size)(hw:w.heap.size<=W.heap.size):De w Y l e:=by
 rcases h with h | ⟨m,d,g,h1,h2,h3,h4,h5,h6,h7⟩
 ·exact AK h
 ·exact AL ⟨m,d,g,h1,h2,h3,h4,h5,om,h7.chg hc (fun s=>by have:=hS _ s;omega)⟩
def st3 (W:Wd) (r1 r2 r3:Nat) (v1 v2 v3:Value):World:=((W.setCell ⟨r1,0,none⟩ v1).setCell ⟨r2,0,none⟩ v2).setCell ⟨r3,0,none⟩ v3
theorem FW{t1 t2 t3:TypeId}{u1 u2 u3:Value}(b1:Boxed W r1 t1 u1)(b2:Boxed W r2 t2 u2)(b3:Boxed W r3 t3 u3)(v1 v2 v3:Value)(n12:r1≠r2)(n13:r1≠r3)(n23:r2≠r3) :Boxed (st3 W r1 r2 r3 v1 v2 v3) r1 t1 v1/\Boxed (st3 W r1 r2 r3 v1 v2 v3) r2 t2 v2/\Boxed (st3 W r1 r2 r3 v1 v2 v3) r3 t3 v3/\Chg (fun k=>k=r1\/k=r2\/k=r3) W (st3 W r1 r2 r3 v1 v2 v3):=
 ⟨((b1.set v1).other n12 _).other n13 _,((b2.other (Ne.symm n12) _).set v2).other n23 _,(((b3.other (Ne.symm n13) _).other (Ne.symm n23) _).set v3),
  (((Chg.refl _ W).setCell (AK (AK rfl)) 0 v1).setCell (AK (AL (AK rfl))) 0 v2).setCell (AK (AL (AL rfl))) 0 v3⟩
theorem GR{fn:Func}{p1 p2 p3:Tmp}(h:fn.results=#[.cell p1 35,.cell p2 3,.cell p3 33])(tmps:Array Value){v1 v2 v3:Value}(hp1:tmps.getD p1 undef=.pointer (some ⟨r1,0,none⟩))(hp2:tmps.getD p2 undef=.pointer (some ⟨r2,0,none⟩))(hp3:tmps.getD p3 undef=.pointer (some ⟨r3,0,none⟩))(b1:Boxed w r1 35 v1)(b2:Boxed w r2 3 v2)(b3:Boxed w r3 33 v3) :(results fn tmps).run prog w=.ok (.tuple #[v1,v2,v3]) w:=by
 have c1:=b1.cell;have c2:=b2.cell;have c3:=b3.cell;have hp1':tmps[p1]?.getD undef=.pointer (some ⟨r1,0,none⟩):=by simpa using hp1
 have hp2':tmps[p2]?.getD undef=.pointer (some ⟨r2,0,none⟩):=by simpa using hp2
 have hp3':tmps[p3]?.getD undef=.pointer (some ⟨r3,0,none⟩):=by simpa using hp3
 simp[results,h,hp1',hp2',hp3',go_sem,c1,c2,c3]
theorem Boxed.new'(w:Wd){n:Nat}(h:w.heap.size=n)(t:TypeId)(v:Value):Boxed (w.alloc (.cells #[v] t)) n t v:=by
 subst h;exact Boxed.new w t v
def mw (w:Wd) (p:Nat) (k:Int) (pg:Value):World:=((((((w.alloc (.cells #[.pointer (some ⟨p,0,none⟩)] 212)).alloc (.cells #[.int .i64 k] 3)).alloc (.cells #[.slice none 0 0] 35)).alloc (.cells #[.int .i64 0] 3)).alloc (.cells #[.nilIface] 33)).alloc (.cells #[pg] 35)).alloc (.cells #[.int .i64 64] 3)
theorem UF(w:Wd)(p:Nat)(k:Int)(pg:Value):Chg No w (mw w p k pg)/\(mw w p k pg).heap.size=w.heap.size+7/\Boxed (mw w p k pg) w.heap.size 212 (.pointer (some ⟨p,0,none⟩))/\Boxed (mw w p k pg) (w.heap.size+1) 3 (.int .i64 k)/\Boxed (mw w p k pg) (w.heap.size+1+1) 35 (.slice none 0 0) /\Boxed (mw w p k pg) (w.heap.size+1+1+1) 3 (.int .i64 0)/\Boxed (mw w p k pg) (w.heap.size+1+1+1+1) 33 .nilIface/\Boxed (mw w p k pg) (w.heap.size+1+1+1+1+1) 35 pg/\Boxed (mw w p k pg) (w.heap.size+1+1+1+1+1+1) 3 (.int .i64 64):=by
 refine⟨((((((((Chg.refl _ _).alloc _).alloc _).alloc _).alloc _).alloc _).alloc _).alloc _),by simp[mw],?_,?_,?_,?_,?_,?_,?_⟩
 ·exact((((((Boxed.new' _ (by simp) _ _).alloc _).alloc _).alloc _).alloc _).alloc _).alloc _
 ·exact(((((Boxed.new' _ (by simp) _ _).alloc _).alloc _).alloc _).alloc _).alloc _
 ·exact((((Boxed.new' _ (by simp) _ _).alloc _).alloc _).alloc _).alloc _
 ·exact(((Boxed.new' _ (by simp) _ _).alloc _).alloc _).alloc _
 ·exact((Boxed.new' _ (by simp) _ _).alloc _).alloc _
 ·exact(Boxed.new' _ (by simp) _ _).alloc _
 ·exact Boxed.new' _ (by simp) _ _
theorem IH(p q b:Nat)(w:Wd)(h:Frm w p q b)(c o cap:Nat)(L:List Nat)(hL:L.length=256)(bL:Bys L)(hcb:c≠b)(hcs:c<w.heap.size)(hcap:256<=cap)(hcell:∀i,i<256->w.cell? ⟨c,o+i,none⟩=some (.int .u8 (L.getD i 0:Nat)))(k:Int) :Calls prog 196 #[.pointer (some ⟨p,0,none⟩),.slice (some ⟨c,o,none⟩) 256 cap,.int .i64 k] w fun e w'=>((∃i:Nat,i<4/\k=i/\De w w' (part 64 L i) e)\/(¬ (0<=k/\k<=3)/\e=.returned (.tuple #[.slice none 0 0,.int .i64 0,.iface 56 (.int .i64 1)])))/\Frm w' p q b/\But b w w':=by
 have HC:=BB hcell;clear hcell;refine(callsIn_wide (n:=3)).1 ?_;refine callsIn_of_wp_marks func196 rfl trivial ?_ rfl;simp only[ntmps196,size_toArray,An,length_nil,Nat.reduceAdd,Nat.reduceSub,Array.replicate_succ,Array.replicate_zero,push_toArray,append_toArray,A6,cons_append]
 gi_wp2_with (refine⟨trivial,?_⟩;gi_at_call 199;refine(callsIn_wide.2 (Hb _ _ _ _ 64)).mono ?_;rintro e w' ⟨rfl,rfl⟩);obtain⟨G1,hs1,x0,x1,x2,x3,x4,x5,x6⟩:=UF w p k (.slice (some ⟨c,o,none⟩) 256 cap);obtain⟨W1,hW1⟩:∃W1,mw w p k (.slice (some ⟨c,o,none⟩) 256 cap)=W1:=⟨_,rfl⟩;rw[hW1] at G1 hs1 x0 x1 x2 x3 x4 x5 x6;unfold mw at hW1;rw[hW1];clear hW1;have F1:=h.chg G1;have hp:=h.lt;have hbs:=h.1.1.lt;have hqs:=h.1.lt;have HL:Hid (L.length=4*64):=BB hL;refine wpIn_rangeFunc_ownG rfl om (gf:=228) (lb:=#[.pointer (some ⟨w.heap.size+1+1+1+1+1,0,none⟩),.pointer (some ⟨w.heap.size+1+1+1+1+1+1,0,none⟩)]) rfl trivial (enters_of func228 kr rfl)
  (QW Fence.wide _ trivial rfl om _ _ c o cap hcap W1 om om x5.cell x6.cell) Kp.t (Kp.b om om) (Below.refl _ _) (fun _=>rfl)
  (fun pre W=>(∀x ∈ pre,(x.1:Int)≠k)/\Chg No W1 W)
  (fun cc _ W=>cc=.ret/\∃(i:Nat) (v0 v1 v2:Value),i<4/\k=i/\De w W (part 64 L i) (.returned (.tuple #[v0,v1,v2]))/\Boxed W (w.heap.size+1+1) 35 v0/\Boxed W (w.heap.size+1+1+1) 3 v1/\Boxed W (w.heap.size+1+1+1+1) 33 v2/\Frm W p q b/\Chg (·=b) w W)
  (OwnFrom.and (ownFrom_pure _ _) Mc)
  (fun cc s X Y row hs hg hr=>by
   obtain⟨rfl,i,v0,v1,v2,y1,y2,y3,y4,y5,y6,y7,y8⟩:=hs
   have hk:=kept hg hr
   exact⟨rfl,i,v0,v1,v2,y1,y2,y3.keep hk,BN y4 hk,BN y5 hk,BN y6 hk,y7.keep hk,y8.grown hg (fun k e=>AL (by have:=(hr k e).1;omega))⟩)
  ⟨by simp,Chg.refl _ _⟩
  (fun x=>{ tmps:=#[.pointer (some ⟨p,0,none⟩),.slice (some ⟨c,o,none⟩) 256 cap,.int .i64 k,.pointer (some ⟨w.heap.size,0,none⟩),undef,.pointer (some ⟨w.heap.size+1,0,none⟩),.pointer (some ⟨w.heap.size+1+1,0,none⟩),.pointer (some ⟨w.heap.size+1+1+1,0,none⟩),.pointer (some ⟨w.heap.size+1+1+1+1,0,none⟩),.int .i64 (x.1:Int),.slice (some ⟨c,o+x.1*64,none⟩) 64 (cap - x.1*64),.slice (some ⟨c,o,none⟩) 256 cap,.int .i64 256,.bool false,undef,.slice (some ⟨c,o,none⟩) 256 cap,.func (.func 228) #[] #[.pointer (some ⟨w.heap.size+1+1+1+1+1,0,none⟩),.pointer (some ⟨w.heap.size+1+1+1+1+1+1,0,none⟩)],.int .i64 (x.1:Int),.slice (some ⟨c,o+x.1*64,none⟩) 64 (cap - x.1*64),undef,undef,undef,undef,undef,undef,undef,undef,undef,undef,undef,undef,undef],defers:=[] }) ?assign ?body ?done ?stop
 case assign=>
  intro l x W K hK;dsimp only[OV]
  gi_wp2;exact hK
 case body=>
  rintro l pre x W ⟨hne,hG⟩ _;have F:=F1.chg hG;have y0:Boxed W w.heap.size 212 (.pointer (some ⟨p,0,none⟩)):=(hG.block _ x0.lt (fun e=>e)).trans x0;have y1:Boxed W (w.heap.size+1) 3 (.int .i64 k):=(hG.block _ x1.lt (fun e=>e)).trans x1;have y2:Boxed W (w.heap.size+1+1) 35 (.slice none 0 0):=(hG.block _ x2.lt (fun e=>e)).trans x2;have y3:Boxed W (w.heap.size+1+1+1) 3 (.int .i64 0):=(hG.block _ x3.lt (fun e=>e)).trans x3;have y4:Boxed W (w.heap.size+1+1+1+1) 33 .nilIface:=(hG.block _ x4.lt (fun e=>e)).trans x4;have G2:=G1.trans hG;have hs2:=hG.size;have z0:=y0.cell;have z1:=y1.cell;have z2:W.cell? ⟨p,0,none⟩=some (.pointer (some ⟨q,0,none⟩)):=F.2.cell;obtain⟨i,hi⟩:=x;dsimp only;by_cases hx:(i:Int)=k
  ·subst hx;have hpl:=DL HL.out i hi;have hpb:=GQ (z:=64) bL i;have hcc:∀j,j<(part 64 L i).length->W.cell? ⟨c,o+i*64+j,none⟩=some (.int .u8 ((part 64 L i).getD j 0:Nat)):=fun j hj=>by
    rw[Hc 64 L i j om,Nat.add_assoc];exact(Ag (w:=w) (a:=⟨c,o+(i*64+j),none⟩) (G2.block c hcs (fun e=>e))).trans (HC.out _ om)
   have hdec:=JG q b W F.1 c (o+i*64) (cap - i*64) (part 64 L i) hpl hpb hcb om hcc;have HDec:=BB hdec;clear hdec hcc;have f2:=y2.frozen
   gi_wp2_with fail;refine⟨trivial,(CallsIn.inRound l (callsIn_wide.2 HDec.out)).mono ?_⟩;rintro e W3 ⟨hD,C3,B3⟩;have F3:=F.but C3 B3;have u2:Boxed W3 (w.heap.size+1+1) 35 (.slice none 0 0):=(B3.block _ y2.lt om).trans y2;have u3:Boxed W3 (w.heap.size+1+1+1) 3 (.int .i64 0):=(B3.block _ y3.lt om).trans y3;have u4:Boxed W3 (w.heap.size+1+1+1+1) 33 .nilIface:=(B3.block _ y4.lt om).trans y4;have hbc:∀o,W.heap[b]?=some o->o.isCells=true:=fun o ho=>by
    obtain⟨c,z,hc,-⟩:=Df F.1.1;rw[hc] at ho;cases ho;rfl
   have g2:=u2.cell;have g3:=u3.cell;have g4:=u4.cell;have j2:=u2.frozen;have j3:=u3.frozen;have j4:=u4.frozen;have fin:∀v0 v1 v2:Value,De W W3 (part 64 L i) (.returned (.tuple #[v0,v1,v2]))->∀Y,st3 W3 (w.heap.size+1+1) (w.heap.size+1+1+1) (w.heap.size+1+1+1+1) v0 v1 v2=Y ->
    KeepsFrom W1.heap.size W Y/\De w Y (part 64 L i) (.returned (.tuple #[v0,v1,v2]))/\Boxed Y (w.heap.size+1+1) 35 v0/\Boxed Y (w.heap.size+1+1+1) 3 v1/\Boxed Y (w.heap.size+1+1+1+1) 33 v2/\Frm Y p q b/\Chg (·=b) w Y:=fun v0 v1 v2 hD Y hY=>by
    obtain⟨k1,k2,k3,k4⟩:=FW u2 u3 u4 v0 v1 v2 om om om;rw[hY] at k1 k2 k3 k4;have hrc:∀k,(k=w.heap.size+1+1\/k=w.heap.size+1+1+1\/k=w.heap.size+1+1+1+1)->∀o,W3.heap[k]?=some o->o.isCells=true:=fun k hk o ho=>by
     rcases hk with rfl | rfl | rfl
     ·rw[show W3.heap[_]?=_ from u2] at ho;cases ho;rfl
     ·rw[show W3.heap[_]?=_ from u3] at ho;cases ho;rfl
     ·rw[show W3.heap[_]?=_ from u4] at ho;cases ho;rfl
    have a1:KeepsFrom W1.heap.size W W3:=B3.chg.keeps (fun k hk o ho=>hbc o (by rw[<-hk];exact ho)) _;have a2:KeepsFrom W1.heap.size W3 Y:=k4.keeps hrc _;have n1:¬ (b=w.heap.size+1+1\/b=w.heap.size+1+1+1\/b=w.heap.size+1+1+1+1):=om;have n2:¬ (q=w.heap.size+1+1\/q=w.heap.size+1+1+1\/q=w.heap.size+1+1+1+1):=om;have n3:¬ (p=w.heap.size+1+1\/p=w.heap.size+1+1+1\/p=w.heap.size+1+1+1+1):=om;exact⟨a1.trans a2,hD.chg k4 (fun k e=>om) om,k1,k2,k3,F3.other (k4.block _ F3.1.1.lt n1) (k4.block _ F3.1.lt n2) (k4.block _ F3.lt n3),((G2.mono (fun _ _ e=>e.elim)).trans B3.chg).trans' k4 (fun i hi e=>om)⟩
   have HF:=BB fin;clear fin;rcases hD with ⟨h1,rfl⟩ | ⟨m,d,g,h1,h2,h3,h4,rfl,h6,h7⟩
   ·have HD:=BB (HF.out _ _ _ (AK ⟨h1,rfl⟩) _ rfl);clear HF
    gi_wp2_with fail;obtain⟨k1,k2⟩:=HD.out;exact⟨k1,rfl,i,_,_,_,hi,rfl,k2⟩
   ·have HD:=BB (HF.out _ _ _ (AL ⟨m,d,g,h1,h2,h3,h4,rfl,h6,h7⟩) _ rfl);clear HF h1 h2 h3 h4 h6 h7
    gi_wp2_with fail;obtain⟨k1,k2⟩:=HD.out;exact⟨k1,rfl,i,_,_,_,hi,rfl,k2⟩
  ·gi_wp2_with fail;refine⟨KeepsFrom.refl _ _,⟨rfl,rfl⟩,fun x hx'=>?_,hG⟩;rcases mem_append.1 hx' with h1 | h1
   ·exact hne x h1
   ·simp at h1;subst h1;exact hx
 case done=>
  rintro D ys W hD rfl ⟨hne,hG⟩ hK;have y2:Boxed W (w.heap.size+1+1) 35 (.slice none 0 0):=(hG.block _ x2.lt (fun e=>e)).trans x2;have y3:Boxed W (w.heap.size+1+1+1) 3 (.int .i64 0):=(hG.block _ x3.lt (fun e=>e)).trans x3;have y4:Boxed W (w.heap.size+1+1+1+1) 33 .nilIface:=(hG.block _ x4.lt (fun e=>e)).trans x4;have c2:=y2.cell;have c3:=y3.cell;have c4:=y4.cell;have f2:=y2.frozen;have f3:=y3.frozen;have f4:=y4.frozen;obtain⟨k1,k2,k3,k4⟩:=FW y2 y3 y4 (.slice none 0 0) (.int .i64 0) (.iface 56 (.int .i64 1)) om om om;have hK2:(st3 W (w.heap.size+1+1) (w.heap.size+1+1+1) (w.heap.size+1+1+1+1) (.slice none 0 0) (.int .i64 0) (.iface 56 (.int .i64 1))).heap[D]?=some (.deferred (some [])):=(k4.block D (Array.getElem?_eq_some_iff.1 hK).1 om).trans hK;have G2:=G1.trans hG;have F3:=h.chg G2;have n1:¬ (b=w.heap.size+1+1\/b=w.heap.size+1+1+1\/b=w.heap.size+1+1+1+1):=om
  have n2:¬ (q=w.heap.size+1+1\/q=w.heap.size+1+1+1\/q=w.heap.size+1+1+1+1):=om
  have n3:¬ (p=w.heap.size+1+1\/p=w.heap.size+1+1+1\/p=w.heap.size+1+1+1+1):=om
  have F4:=F3.other (k4.block _ F3.1.1.lt n1) (k4.block _ F3.1.lt n2) (k4.block _ F3.lt n3);have G4:Chg No w (st3 W (w.heap.size+1+1) (w.heap.size+1+1+1) (w.heap.size+1+1+1+1) (.slice none 0 0) (.int .i64 0) (.iface 56 (.int .i64 1))):=G2.trans' k4 (fun i hi e=>om)
  gi_wp2_with fail;rw[show ((W.setCell ⟨w.heap.size+1+1,0,none⟩ (.slice none 0 0)).setCell ⟨w.heap.size+1+1+1,0,none⟩ (.int .i64 0)).setCell ⟨w.heap.size+1+1+1+1,0,none⟩ (.iface 56 (.int .i64 1))=st3 W (w.heap.size+1+1) (w.heap.size+1+1+1) (w.heap.size+1+1+1+1) (.slice none 0 0) (.int .i64 0) (.iface 56 (.int .i64 1)) from rfl];generalize st3 W (w.heap.size+1+1) (w.heap.size+1+1+1) (w.heap.size+1+1+1+1) (.slice none 0 0) (.int .i64 0) (.iface 56 (.int .i64 1))=Y at *
  refine⟨by simp,.inl ⟨_,_,rfl,run_takeDeferred hK2,?_⟩⟩;have hkp:=Ev (.deferred none) hK2 rfl;refine⟨_,GR rfl _ rfl rfl rfl (BN k1 hkp) (BN k2 hkp) (BN k3 hkp),AL ⟨fun hk=>?_,rfl⟩,F4.keep hkp,(G4.grown (grownBy_putObj' Y D (.deferred none)) (fun k e=>AL (by cases e;omega))).but⟩;obtain⟨i,hi⟩:∃i:Nat,k=i:=⟨k.toNat,om⟩;have hi4:i<4:=om
  refine hne ⟨i,hi4⟩ ?_ hi.symm;have:∀j (hj:j<4),(⟨j,hj⟩:Ix) ∈ GP 4:=dc
  exact this i hi4
 case stop=>
  rintro D cc pre W hD ⟨kk,hkk,rfl⟩ ⟨rfl,i,v0,v1,v2,y1,y2,y3,y4,y5,y6,y7,y8⟩ hK
  gi_wp2;refine⟨by simp,.inl ⟨_,_,rfl,run_takeDeferred hK,?_⟩⟩;have hkp:=Ev (.deferred none) hK rfl;have G5:=y8.grown (grownBy_putObj' W D (.deferred none)) (fun k e=>AL (by cases e;omega));exact⟨_,GR rfl _ rfl rfl rfl (BN y4 hkp) (BN y5 hkp) (BN y6 hkp),AK ⟨i,y1,y2,y3.keep hkp⟩,y7.keep hkp,⟨G5.os,G5.tape,G5.output,G5.size,G5.block⟩⟩
end
end Go.Proofs.YtbhbilcieodbhaaGreat
namespace Go.Proofs.YtbhbilcieodbhaaGreat
open List
open Go.Proofs.Tryz
open Go.RowKit
theorem QX(w:Wd)(c o cap n:Nat)(l:List Nat)(hlen:l.length<=4096)(hn:n<=l.length)(hcs:c<w.heap.size)(hc:∀i,i<l.length->w.cell? ⟨c,o+i,none⟩=some (.int .u8 (l.getD i 0:Nat))) :Calls prog 223 #[.slice (some ⟨c,o,none⟩) l.length cap,.int .i64 (n:Int)] w fun e w'=>∃g,e=.returned (.slice (some ⟨g,0,none⟩) n n)/\w.heap.size<=g/\Arr w' g 5 l/\Chg No w w':=by
 have hmk:=fun w:World=>Cx w (l.length:Int) l.length rfl om;have HC:=BB hc;clear hc;have hN:(n:Int)<=(l.length:Int):=om
 have hN0:(0:Int)<=(n:Int):=om
 have A1:Arr (w.alloc (.cells (bcells (List.replicate l.length 0)) 5)) w.heap.size 5 (List.replicate l.length 0):=Arr.new _ _ _;have hsz:(w.alloc (.cells (bcells (List.replicate l.length 0)) 5)).heap.size=w.heap.size+1:=by simp
 have G1:Chg No w (w.alloc (.cells (bcells (List.replicate l.length 0)) 5)):=(Chg.refl _ _).alloc _;have HC1:∀j,j<l.length->(w.alloc (.cells (bcells (List.replicate l.length 0)) 5)).cell? ⟨c,o+j,none⟩=some (.int .u8 (l.getD j 0:Nat)):=fun j hj=>by
  rw[Au _ _ _ hcs];exact HC.out j hj
 have HA:=BB A1;have HG:=BB G1;have HC1:=BB HC1;clear A1 G1 hsz;go_enter func223,ntmps223;go_wp2_with (refine CI rfl (.tmp 9) (.tmp 10) rfl w.heap.size 0 l.length l.length c o l.length cap rfl rfl HA.out l (by simp) HC1.out (by simp) ?_);have A2:=HA.out.row (lay (List.replicate l.length 0) 0 l);rw[LJ _ _ (by simp)] at A2 ⊢;have G2:Chg No w ((w.alloc (.cells (bcells (List.replicate l.length 0)) 5)).setRow w.heap.size (bcells l)):=HG.out.setRow (AL (AM _)) _;go_ret;exact⟨_,rfl,AM _,A2,G2⟩
section
variable {l:List Nat}(w:Wd)
def mk:List Nat:=[112,97,116,105,110,97,48,49]
theorem OX:Bys mk:=by intro n hn;simp[mk] at hn;omega
theorem FX:mk.length=8:=rfl
def jT:ByteArray:=⟨#[112,97,116,105,110,97,48,49]⟩
theorem Y0(cur:List Nat)(off:Nat) :((bcells cur).toList.take off ++ Lib.byteCells jT.data.toList ++ (bcells cur).toList.drop (off+jT.size)).toArray=bcells (lay cur off mk):=by
 have e:Lib.byteCells jT.data.toList=mk.map fun (n:Nat)=>Value.int .u8 (n:Int):=rfl;have e2:jT.size=mk.length:=rfl;rw[e,e2];simp[bcells,lay,map_take,map_drop]
theorem Hd{w:Wd}{ops:Array Oper}{rest:List Oper}{o:Oper}{a:Act}{Q:Exit->Act->World->Prop}(hgd:o.guard=none)(d s:Operand)(ho:o.op=.call { callee:=.builtin .copy,args:=#[d,s],argTypes:=#[35,9] })(g off dLen dCap:Nat)(hd:a.eval d=.slice (some ⟨g,off,none⟩) dLen dCap)(hs:a.eval s=.string jT){t:TypeId}{cur:List Nat}(hg:Arr w g t cur)(hl:8<=dLen)(hfit:off+8<=cur.length)(h:wpList prog ops Q rest (a.put o.dst (goInt 8)) (w.setRow g (bcells (lay cur off mk)))):wpList prog ops Q (o :: rest) a w:=by
 refine wpList_plain hgd fun K hK=>?_;have hrun:=Lib.run_copy_row_string (P:=prog) w 35 9 o.type 5 g off dLen dCap jT (bcells cur) t underlying35 KW hg hl (by rw[Ba];exact hfit);rw[Y0] at hrun;unfold Oper.wp;simp[execOp,ho,resolve,invoke,builtin,hd,hs,hrun,Result.andThen];exact hK _ _ h
theorem UG(h:l.length=50):lay (lay z58 0 l) 50 mk=l ++ mk:=by
 have e:lay z58 0 l=l ++ List.replicate 8 0:=by simp[lay,z58,h]
 rw[e];simp only[lay,FX];rw[take_append_of_le_length om,As om,Ax (by simp[h])];simp
theorem UH(c o cap:Nat)(l:List Nat)(hl:l.length=50)(hcs:c<w.heap.size)(hc:∀i,i<l.length->w.cell? ⟨c,o+i,none⟩=some (.int .u8 (l.getD i 0:Nat))) :Calls prog 246 #[.slice (some ⟨c,o,none⟩) 50 cap] w fun e w'=>∃g,e=.returned (.tuple #[.slice (some ⟨g,0,none⟩) 58 58,.nilIface])/\w.heap.size<=g/\Arr w' g 5 (l ++ mk)/\Chg No w w':=by
 have hmk:=Tu;have HC1:∀j,j<l.length->(w.alloc (.cells (bcells z58) 5)).cell? ⟨c,o+j,none⟩=some (.int .u8 (l.getD j 0:Nat)):=fun j hj=>by
  rw[Au _ _ _ hcs];exact hc j hj
 have HA:=BB (Arr.new w 5 z58);have HB:=BB ((Arr.new w 5 z58).row (lay z58 0 l));have HG:=BB ((Chg.refl No w).alloc (.cells (bcells z58) 5));have HC1:=BB HC1;have HL:=BB hl;have hz:(lay z58 0 l).length=58:=by rw[EV (by simp[z58,hl])];rfl
 have HZ:=BB hz;clear hc hl hz;go_enter func246,ntmps246;go_wp2_with (first
  | (refine CI rfl (.tmp 10) (.tmp 11) rfl w.heap.size 0 58 58 c o 50 cap rfl rfl HA.out l HL.out HC1.out (by rw[HL.out];decide) ?_)
  | (refine Hd rfl (.tmp 14) _ rfl w.heap.size 50 8 8 rfl rfl HB.out dc (by rw[HZ.out];decide) ?_))
 have A2:=HB.out.row (lay (lay z58 0 l) 50 mk);rw[UG HL.out] at A2 ⊢;have G2:=(HG.out.setRow (AL (AM _)) (bcells (lay z58 0 l))).setRow (AL (AM _)) (bcells (l ++ mk));go_ret2;exact⟨_,rfl,AM _,A2,G2⟩
theorem dO{T U:List Nat}(hT:Bys T)(hU:Bys U)(h:T.map UInt8.ofNat=U.map UInt8.ofNat):T=U:=by
 have e:∀L:List Nat,Bys L->(L.map UInt8.ofNat).map UInt8.toNat=L:=by
  intro L hL;rw[map_map];conv=>rhs;rw[<-map_id L]
  apply map_congr_left;intro n hn;simp only[Function.comp,id];rw[UInt8.toNat_ofNat'];exact Az (hL n hn)
 rw[<-e T hT,h,e U hU]
theorem bp(T:List Nat)(hT:Bys T):((strOfNums (T.map fun (n:Nat)=>(n:Int))).toList == [112,97,116,105,110,97,48,49])=decide (T=mk):=by
 rw[ByteArray.toList_eq,strOfNums_data,map_map];have e1:T.map ((fun (n:Int)=>UInt8.ofNat n.toNat) ∘ fun (n:Nat)=>(n:Int))=T.map UInt8.ofNat:=rfl;have e2:([112,97,116,105,110,97,48,49]:List UInt8)=mk.map UInt8.ofNat:=rfl;rw[e1,e2];by_cases h:T=mk
 ·rw[h];simp
 ·rw[AN h,beq_eq_false_iff_ne];exact fun e=>h (dO hT OX e)
theorem Md{w:Wd}{c o:Nat}(hl:l.length=58)(hc:∀i,i<l.length->w.cell? ⟨c,o+i,none⟩=some (.int .u8 (l.getD i 0:Nat))) :∀i,i<8->w.cell? ⟨c,(o+50)+i,none⟩=some (.int .u8 (((l.drop 50).map fun (n:Nat)=>(n:Int)).getD i 0)):=by
 intro i hi;rw[Nat.add_assoc,hc (50+i) om];simp[AQ,List.getElem?_drop];cases e:l[50+i]? <;> simp
theorem RZ(c o cap:Nat)(hcap:58<=cap)(l:List Nat)(hl:l.length=58)(hb:Bys l)(hcs:c<w.heap.size)(hc:∀i,i<l.length->w.cell? ⟨c,o+i,none⟩=some (.int .u8 (l.getD i 0:Nat)))(hm:l.drop 50=mk) :Calls prog 226 #[.slice (some ⟨c,o,none⟩) 58 cap] w fun e w'=>∃g,e=.returned (.tuple #[.slice (some ⟨g,0,none⟩) 50 50,.nilIface])/\w.heap.size<=g/\Arr w' g 5 l/\Chg No w w':=by
 have kc:=run_convert_bytes_arg (P:=prog) w 35 5 underlying35 underlying5 c (o+50) 8 (cap - 50) ((l.drop 50).map fun (n:Nat)=>(n:Int)) (by simp[hl]) (Md hl hc) 9 underlying9;have hq:=bp _ (GO hb 50);rw[AO hm] at hq;have HL:=BB hl;have HC:=BB hc;have hcut:Calls prog 223 #[.slice (some ⟨c,o,none⟩) 58 cap,.int .i64 50] w fun e w'=>∃g,e=.returned (.slice (some ⟨g,0,none⟩) 50 50)/\w.heap.size<=g/\Arr w' g 5 l/\Chg No w w':=by
  have:=QX w c o cap 50 l om om hcs hc;rw[hl] at this;exact this
 clear hl hc hm;generalize (l.drop 50).map (fun (n:Nat)=>(n:Int))=xs at *
 go_enter func226,ntmps226;go_wp2_with fail;refine hcut.mono ?_;rintro e w' ⟨g,rfl,hg,hA',hG'⟩;clear hcut;go_wp2;go_ret2;exact⟨g,rfl,hg,hA',hG'⟩
theorem Ra(c o cap:Nat)(hcap:58<=cap)(l:List Nat)(hl:l.length=58)(hb:Bys l)(hc:∀i,i<l.length->w.cell? ⟨c,o+i,none⟩=some (.int .u8 (l.getD i 0:Nat)))(hm:l.drop 50≠mk) :Calls prog 226 #[.slice (some ⟨c,o,none⟩) 58 cap] w fun e w'=>e=.returned (.tuple #[.slice none 0 0,.iface 56 (.int .i64 6)])/\w'=w:=by
 have kc:=run_convert_bytes_arg (P:=prog) w 35 5 underlying35 underlying5 c (o+50) 8 (cap - 50) ((l.drop 50).map fun (n:Nat)=>(n:Int)) (by simp[hl]) (Md hl hc) 9 underlying9;have hq:=bp _ (GO hb 50);rw[AN hm] at hq;clear hl hc hm;generalize (l.drop 50).map (fun (n:Nat)=>(n:Int))=xs at *
 go_enter func226,ntmps226;go_wp2;go_ret2;exact⟨rfl,rfl⟩
end
section
variable (w:Wd)
theorem Own.zeros(i:TypeInfo)(_hi:i.size=1):∃cap,Own (w.drew.alloc (.cells (Builtin.zeroCells (Value.int .u8 0).cells 232 ++ Builtin.zeroCells (Value.int .u8 0).cells (grownCap w 232 0 5 - 232)) 5)) w.heap.size 5 (.slice (some ⟨w.heap.size,0,none⟩) 0 cap) []/\cap=grownCap w 232 0 5:=by
 have h1:=grownCap_ge w 232 0 5;have h2:=grownCap_le_maxLen w 232 0 5 dc;refine⟨_,⟨rfl,AL ⟨w.heap.size,grownCap w 232 0 5,Builtin.zeroCells (Value.int .u8 0).cells 232 ++ Builtin.zeroCells (Value.int .u8 0).cells (grownCap w 232 0 5 - 232),rfl,AM _,?_,by simp,h2,?_,by simp⟩⟩,rfl⟩
 ·show (w.heap.push _)[w.heap.size]?=_;simp
 ·rw[Array.size_append,size_zeroCells,size_zeroCells];simp[Value.cells];omega
theorem UI:Calls prog 262 #[.slice none 0 0,.int .i64 232] w fun e w'=>∃cap,e=.returned (.slice (some ⟨w.heap.size,0,none⟩) 0 cap)/\Own w' w.heap.size 5 (.slice (some ⟨w.heap.size,0,none⟩) 0 cap) []/\Chg No w w':=by
 obtain⟨i,h1,h2,h3,h4⟩:=Fp;have hrun:=fun ty=>Lib.run_append_nil_zeros (P:=prog) w 35 3 ty 5 i (.int .u8 0) .i64 .i64 underlying35 underlying3 h1 h2 232 om om om (by rw[h4];omega);have hge:=grownCap_ge w 232 0 5;obtain⟨cap,hO,hcap⟩:=Own.zeros w i h3;have HO:=BB hO;have HC:=BB hcap;clear hO hcap;go_enter func262,ntmps262;go_wp2_with (at_builtin;refine Lib.wpList_append_run _ rfl _ _ _ _ rfl _ _ rfl rfl _ _ (hrun _) ?_);go_ret;have hc:=HC.out;subst hc;exact⟨_,rfl,HO.out,((Chg.refl _ _).alloc _).drew⟩
def m8 (l0 l1:List Nat):Nat->List Nat
 | 0=>[]
 | 1=>l0
 | _=>l0 ++ l1
theorem OY(r c0 o0 k0 c1 o1 k1:Nat)(l0 l1:List Nat)(hl0:l0.length=174)(hl1:l1.length=58)(hr:w.heap[r]?=some (.cells #[.slice (some ⟨c0,o0,none⟩) 174 k0,.slice (some ⟨c1,o1,none⟩) 58 k1] 35))(hs0:c0<w.heap.size)(hs1:c1<w.heap.size)(hc0:∀i,i<l0.length->w.cell? ⟨c0,o0+i,none⟩=some (.int .u8 (l0.getD i 0:Nat)))(hc1:∀i,i<l1.length->w.cell? ⟨c1,o1+i,none⟩=some (.int .u8 (l1.getD i 0:Nat))) :Calls prog 247 #[.slice (some ⟨r,0,none⟩) 2 2] w fun e w'=>∃g cap,e=.returned (.slice (some ⟨g,0,none⟩) 232 cap)/\Own w' w.heap.size 5 (.slice (some ⟨g,0,none⟩) 232 cap) (l0 ++ l1)/\Chg No w w':=by
 have H0:=BB hc0;have H1:=BB hc1;clear hc0 hc1;have hrl:r<w.heap.size:=(Array.getElem?_eq_some_iff.1 hr).1;go_enter func247,ntmps247;go_wp2_with fail
 go_loopw [3,11] (fun t3 t11 wr=>∃k:Nat,k<=2/\t11=.int .i64 k/\t3=.int .i64 (if k=0 then 0 else if k=1 then 174 else 232)/\wr=w) (fun _ t _=>2 - (intOf t).toNat)
 case atStart=>exact⟨0,om,rfl,rfl,rfl⟩
 case round=>
  obtain⟨k,hk,rfl,rfl,rfl⟩:=hrel;have d0:wr.cell? ⟨r,0,none⟩=some (.slice (some ⟨c0,o0,none⟩) 174 k0):=by simp[World.cell?,hr]
  have d1:wr.cell? ⟨r,1,none⟩=some (.slice (some ⟨c1,o1,none⟩) 58 k1):=by simp[World.cell?,hr]
  have h3:k=0\/k=1\/k=2:=om
  rcases h3 with rfl | rfl | rfl
  ·go_wp2;exact⟨⟨1,om,rfl,rfl,trivial⟩,by simp[intOf]⟩
  ·go_wp2;exact⟨⟨2,om,rfl,rfl,trivial⟩,by simp[intOf]⟩
  ·go_wp2_with fail;refine(UI wr).mono ?_;rintro e w1 ⟨cap,rfl,O1,G1⟩;obtain⟨w0,hw0⟩:∃w0,w0=wr:=⟨_,rfl⟩;subst hw0;have hi5:=Fp;have HL0:=BB hl0;have HL1:=BB hl1;clear d0 d1 hl0 hl1;go_wp2_with fail
   go_loopw [6,27] (fun t6 t27 wx=>∃(k:Nat) (v:Value),k<=2/\v=t6/\t27=.int .i64 k/\Own wx w0.heap.size 5 v (m8 l0 l1 k)/\Chg No w0 wx) (fun _ t _=>2 - (intOf t).toNat)
   case atStart=>exact⟨0,_,om,rfl,rfl,O1,G1⟩
   case round=>
    clear O1 G1;obtain⟨k,v,hk,rfl,rfl,O,G⟩:=hrel;have hr2:wr.heap[r]?=some (.cells #[.slice (some ⟨c0,o0,none⟩) 174 k0,.slice (some ⟨c1,o1,none⟩) 58 k1] 35):=(G.block r hrl (fun e=>e)).trans hr;have d0:wr.cell? ⟨r,0,none⟩=some (.slice (some ⟨c0,o0,none⟩) 174 k0):=(by simp[World.cell?,hr2]);have d1:wr.cell? ⟨r,1,none⟩=some (.slice (some ⟨c1,o1,none⟩) 58 k1):=(by simp[World.cell?,hr2]);have hsz:=G.size;have h3:k=0\/k=1\/k=2:=om;have e0:∀j,j<l0.length->wr.cell? ⟨c0,o0+j,none⟩=some (.int .u8 (l0.getD j 0:Nat)):=fun j hj=>(Ag (w:=w0) (a:=⟨c0,o0+j,none⟩) (G.block c0 hs0 (fun e=>e))).trans (H0.out j hj);have e1:∀j,j<l1.length->wr.cell? ⟨c1,o1+j,none⟩=some (.int .u8 (l1.getD j 0:Nat)):=fun j hj=>(Ag (w:=w0) (a:=⟨c1,o1+j,none⟩) (G.block c1 hs1 (fun e=>e))).trans (H1.out j hj);have E0:=BB e0;have E1:=BB e1;clear e0 e1;have hll:=HL0.out;have hlr:=HL1.out;rcases h3 with rfl | rfl | rfl
    ·have O':Own wr w0.heap.size 5 v []:=O;clear hll hlr O;go_wp2_with (at_builtin;refine CZ _ rfl _ _ 35 rfl w0.heap.size 5 underlying35 hi5 v [] rfl O' (some ⟨c0,o0,none⟩) 174 k0 l0 rfl HL0.out (fun e=>by cases e) (fun ad had j hj=>by have e:=AR had;subst e;rw[Addr.add_lit];exact E0.out j (by rw[HL0.out];exact hj)) (by simp) hsz wr.heap.size rfl ?_);intro v2 w2 O2 hg2 _;have G2:Chg No w0 w2:=G.grown hg2 (fun k hk=>AL (O'.block hk).1);replace O2:Own w2 w0.heap.size 5 v2 l0:=(by simpa using O2);clear hg2 O';go_wp2;exact⟨⟨1,_,om,rfl,rfl,O2,G2⟩,by simp[intOf]⟩
    ·have O':Own wr w0.heap.size 5 v l0:=O;clear hll hlr O;go_wp2_with (at_builtin;refine CZ _ rfl _ _ 35 rfl w0.heap.size 5 underlying35 hi5 v l0 rfl O' (some ⟨c1,o1,none⟩) 58 k1 l1 rfl HL1.out (fun e=>by cases e) (fun ad had j hj=>by have e:=AR had;subst e;rw[Addr.add_lit];exact E1.out j (by rw[HL1.out];exact hj)) (by rw[HL0.out];decide) hsz wr.heap.size rfl ?_);intro v2 w2 O2 hg2 _;have G2:Chg No w0 w2:=G.grown hg2 (fun k hk=>AL (O'.block hk).1);clear hg2 O';go_wp2;exact⟨⟨2,_,om,rfl,rfl,O2,G2⟩,by simp[intOf]⟩
    ·have O':Own wr w0.heap.size 5 v (l0 ++ l1):=O;obtain⟨g,cap2,hv,-⟩:=O'.lies (by rw[AV];omega);rw[AV,hll,hlr] at hv;subst hv;clear hll hlr O;go_wp2;go_ret;exact⟨g,cap2,rfl,O',G⟩
end
end Go.Proofs.YtbhbilcieodbhaaGreat
namespace Go.Proofs.YtbhbilcieodbhaaGreat
open List
open Go.Proofs.Tryz
open Go.RowKit Go.Shelf
section
variable {L:List Nat}{X Y:Wd}(w:Wd)
attribute [local go_sem] Oper.semAt_some
def Good (L:List Nat) (i:Nat) (r:List Nat × Nat):Prop:=IsDec (part 64 L i) (some r)/\r.1.length=58/\Bys r.1/\r.2<=2
def IX (L:List Nat):List Ix->List (List Nat × Nat)->Prop
 | [],[]=>True
 | x :: xs,r :: rs=>Good L x.1 r/\IX L xs rs
 | _,_=>False
theorem IX.snoc:∀ {xs:List Ix} {rs:List (List Nat × Nat)} {x:Ix} {r:List Nat × Nat},IX L xs rs->Good L x.1 r->IX L (xs ++ [x]) (rs ++ [r])
 | [],[],_,_,_,h=>⟨h,trivial⟩
 | _ :: _,_ :: _,_,_,h,k=>⟨h.1,h.2.snoc k⟩
 | [],_ :: _,_,_,h,_=>h.elim
 | _ :: _,[],_,_,h,_=>h.elim
theorem IX.length:∀ {xs:List Ix} {rs:List (List Nat × Nat)},IX L xs rs->rs.length=xs.length
 | [],[],_=>rfl
 | _ :: _,_ :: _,h=>by simp[h.2.length]
 | [],_ :: _,h=>h.elim
 | _ :: _,[],h=>h.elim
def UJ (rs:List (List Nat × Nat)):List Nat:=rs.flatMap (·.1)
def mx (rs:List (List Nat × Nat)):Nat:=rs.foldl (fun a r=>max a r.2) 0
theorem UK(rs:List (List Nat × Nat))(r:List Nat × Nat):UJ (rs ++ [r])=UJ rs ++ r.1:=by simp[UJ]
theorem Y1(rs:List (List Nat × Nat))(r:List Nat × Nat):mx (rs ++ [r])=max (mx rs) r.2:=by simp[mx]
theorem IX.dat_length:∀ {xs:List Ix} {rs:List (List Nat × Nat)},IX L xs rs->(UJ rs).length=58*xs.length
 | [],[],_=>rfl
 | _ :: xs,r :: rs,h=>by
  have:=h.2.dat_length
  have h1:=h.1.2.1
  simp only[UJ,flatMap_cons,AV,An] at this ⊢
  omega
 | [],_ :: _,h=>h.elim
 | _ :: _,[],h=>h.elim
theorem IX.mx_le{xs:List Ix}{rs:List (List Nat × Nat)}(h:IX L xs rs):mx rs<=2:=by
 have:∀(xs:List Ix) (rs:List (List Nat × Nat)) (a:Nat),a<=2->IX L xs rs->rs.foldl (fun a r=>max a r.2) a<=2:=by
  intro xs
  induction xs with
  | nil=>
   intro rs a ha h;cases rs with
   | nil=>exact ha
   | cons=>exact h.elim
  | cons x xs ih=>
   intro rs a ha h;cases rs with
   | nil=>exact h.elim
   | cons r rs=>exact ih rs _ (by have:=h.1.2.2.2;simp;omega) h.2
 exact this xs rs 0 om h
theorem Eo{F:Fence}{nF:Nat}{P:Program}{ops:Array Oper}{rest:List Oper}{o:Oper}{a:Act}{Q:Exit->Act->World->Prop}(hgd:o.guard=none)(s x:Operand)(t:TypeId)(ho:o.op=.call { callee:=.builtin .append,args:=#[s,x],argTypes:=#[t,t] })(base:Nat)(e:TypeId)(ht:P.underlying t=some (.slice e))(hi:∃i,P.info? e=some i/\i.zero=some (.int .u8 0)/\i.size=1/\i.bytes=1)(v:Value)(l:List Nat)(hs:a.eval s=v)(hown:Own w base e v l)(c oo m cap:Nat)(l2:List Nat)(hx:a.eval x=.slice (some ⟨c,oo,none⟩) m cap)(hm:l2.length=m)(hc:∀j,j<m->w.cell? ⟨c,oo+j,none⟩=some (.int .u8 (l2.getD j 0:Nat)))(hbytes:l.length+m<=140737488355328)(hbase:base<=w.heap.size)(h:∀v' w',Own w' base e v' (l ++ l2)->w.grownBy w' v.ownBlock->(v'.ownBlock=v.ownBlock\/v'.ownBlock=some w.heap.size)->wpListIn F nF P ops Q rest (a.put o.dst v') w'):wpListIn F nF P ops Q (o :: rest) a w:=by
 obtain⟨i,hi1,hi2,hi3,hi4⟩:=hi;refine wpListIn_append_own_at w hgd s x t ho base e i (.int .u8 0) 1 1 ht hi1 hi2 hi3 hi4 rfl dc v l.length (l.map byt) hs hown ⟨c,oo,none⟩ m cap (l2.map byt) hx (by simp[hm]) ?_ (FU l2) (by unfold maxLen;omega) om hbase ?_
 ·intro j u hu;have hj:j<l2.length:=by
   have:=(List.getElem?_eq_some_iff.1 hu).1;simpa using this
  rw[List.getElem?_map,AU hj] at hu;have e1:=hc j om;rw[AQ,AU hj] at e1;rw[Addr.add_lit,e1];exact hu
 ·intro v' w' h1 h2 _ h4;refine h v' w' ?_ h2 h4;unfold Own;rw[AV,hm,map_append];exact h1
def EF:List Nat:=List.replicate 174 0
theorem He:(Instr.makeSlice 35 (.int .i64 0) (.int .i64 174)).run prog w=.ok (.slice (some ⟨w.heap.size,0,none⟩) 0 174) (w.alloc (.cells (bcells EF) 5)):=by
 obtain⟨i,h1,h2,h3,h4⟩:=Fp;have h:=run_make (P:=prog) w 35 5 i (.int .u8 0) underlying35 h1 h2 .i64 .i64 0 174 om om (by rw[h4];omega) om;rw[h,h3,EU];rfl
theorem UL(p:Nat)(w:Wd)(a:Option Addr)(n cap:Nat)(hn:n≠256) :Calls prog 168 #[.pointer (some ⟨p,0,none⟩),.slice a n cap] w fun e w'=>e=.returned (.tuple #[.slice none 0 0,.int .i64 0,.iface 56 (.int .i64 1)])/\Chg No w w':=by
 have hn':((n:Int) != 256)=true:=by simp;omega
 refine(callsIn_wide (n:=3)).1 ?_;refine callsIn_of_wp_marks func168 rfl trivial ?_ rfl;simp only[ntmps168,size_toArray,An,length_nil,Nat.reduceAdd,Nat.reduceSub,Array.replicate_succ,Array.replicate_zero,push_toArray,append_toArray,A6,cons_append]
 gi_wp2;refine⟨.tuple #[.slice none 0 0,.int .i64 0,.iface 56 (.int .i64 1)],?_,rfl,(((((Chg.refl _ _).alloc _).alloc _).alloc _).alloc _)⟩;simp[results,f168,go_sem]
def dw (w:Wd) (p:Nat) (pg:Value):World:=((((((((w.alloc (.cells #[.pointer (some ⟨p,0,none⟩)] 212)).alloc (.cells #[.slice none 0 0] 35)).alloc (.cells #[.int .i64 0] 3)).alloc (.cells #[.nilIface] 33)).alloc (.cells (bcells EF) 5)).alloc (.cells #[.slice (some ⟨w.heap.size+1+1+1+1,0,none⟩) 0 174] 35)).alloc (.cells #[.int .i64 0] 3)).alloc (.cells #[pg] 35)).alloc (.cells #[.int .i64 64] 3)
theorem UM(p:Nat)(pg:Value):Chg No w (dw w p pg)/\(dw w p pg).heap.size=w.heap.size+9/\Boxed (dw w p pg) w.heap.size 212 (.pointer (some ⟨p,0,none⟩))/\Boxed (dw w p pg) (w.heap.size+1) 35 (.slice none 0 0) /\Boxed (dw w p pg) (w.heap.size+1+1) 3 (.int .i64 0)/\Boxed (dw w p pg) (w.heap.size+1+1+1) 33 .nilIface/\Arr (dw w p pg) (w.heap.size+1+1+1+1) 5 EF/\Boxed (dw w p pg) (w.heap.size+1+1+1+1+1) 35 (.slice (some ⟨w.heap.size+1+1+1+1,0,none⟩) 0 174) /\Boxed (dw w p pg) (w.heap.size+1+1+1+1+1+1) 3 (.int .i64 0)/\Boxed (dw w p pg) (w.heap.size+1+1+1+1+1+1+1) 35 pg/\Boxed (dw w p pg) (w.heap.size+1+1+1+1+1+1+1+1) 3 (.int .i64 64):=by
 refine⟨((((((((((Chg.refl _ _).alloc _).alloc _).alloc _).alloc _).alloc _).alloc _).alloc _).alloc _).alloc _),by simp[dw],?_,?_,?_,?_,?_,?_,?_,?_,?_⟩
 ·exact((((((((Boxed.new' _ (by simp) _ _).alloc _).alloc _).alloc _).alloc _).alloc _).alloc _).alloc _).alloc _
 ·exact(((((((Boxed.new' _ (by simp) _ _).alloc _).alloc _).alloc _).alloc _).alloc _).alloc _).alloc _
 ·exact((((((Boxed.new' _ (by simp) _ _).alloc _).alloc _).alloc _).alloc _).alloc _).alloc _
 ·exact(((((Boxed.new' _ (by simp) _ _).alloc _).alloc _).alloc _).alloc _).alloc _
 ·have:=Arr.new ((((w.alloc (.cells #[.pointer (some ⟨p,0,none⟩)] 212)).alloc (.cells #[.slice none 0 0] 35)).alloc (.cells #[.int .i64 0] 3)).alloc (.cells #[.nilIface] 33)) 5 EF;simp only[World.size_alloc] at this;exact((((this.alloc _).alloc _).alloc _).alloc _)
 ·exact(((Boxed.new' _ (by simp) _ _).alloc _).alloc _).alloc _
 ·exact((Boxed.new' _ (by simp) _ _).alloc _).alloc _
 ·exact(Boxed.new' _ (by simp) _ _).alloc _
 ·exact Boxed.new' _ (by simp) _ _
def Y3 (w w':Wd) (L:List Nat) (e:Ending):Prop:=
 (∃i,i<3/\IsDec (part 64 L i) none/\e=.returned (.tuple #[.slice none 0 0,.int .i64 0,.iface 56 (.int .i64 5)])) \/
 (∃(r0 r1 r2:List Nat × Nat) (a:Option Addr) (cap:Nat),Good L 0 r0/\Good L 1 r1/\Good L 2 r2/\e=.returned (.tuple #[.slice a 174 cap,.int .i64 ((max (max r0.2 r1.2) r2.2:Nat):Int),.nilIface])/\Own w' w.heap.size 5 (.slice a 174 cap) (r0.1 ++ r1.1 ++ r2.1))
def DS (w:Wd) (b:Nat) (k:Nat):Prop:=k=b\/(w.heap.size+1<=k/\k<=w.heap.size+6)
def DT (w:Wd) (b:Nat) (k:Nat):Prop:=k=b\/(w.heap.size+4<=k/\k<=w.heap.size+6)
def mW:Ix:=⟨3,dc⟩
def DI (w W1 W:Wd) (p q b:Nat) (L:List Nat) (pre:List Ix):Prop:=
 (∀x ∈ pre,x.1≠3)/\∃(v:Value) (rs:List (List Nat × Nat)),IX L pre rs/\Boxed W (w.heap.size+1+1+1+1+1) 35 v/\Own W w.heap.size 5 v (UJ rs)/\(∀g,v.ownBlock=some g->g=w.heap.size+1+1+1+1\/W1.heap.size<=g) /\
  Boxed W (w.heap.size+1+1+1+1+1+1) 3 (.int .i64 (mx rs))/\Frm W p q b/\Chg (DT w b) W1 W
theorem Own.keeps{base:Nat}{e:TypeId}{v:Value}{l:List Nat}(h:Own X base e v l)(hk:IF X Y):Own Y base e v l:=by
 refine⟨h.1,?_⟩;rcases h.2 with h1 | ⟨g,cap,cur,rfl,hb,hh,r⟩
 ·exact AK h1
 ·exact AL ⟨g,cap,cur,rfl,hb,(hk _ _ _ hh).trans hh,r⟩
theorem DI.keep{w W1:Wd}{p q b:Nat}{pre:List Ix}{row:Option Nat}(h:DI w W1 X p q b L pre)(hg:X.grownBy Y row)(hr:∀r,row=some r->W1.heap.size<=r/\∃o:Obj,X.heap[r]?=some o/\o.isCells=false):DI w W1 Y p q b L pre:=by
 obtain⟨h1,v,rs,h2,h3,h4,h5,h6,h7,h8⟩:=h;have hk:=kept hg hr;exact⟨h1,v,rs,h2,BN h3 hk,h4.keeps hk,h5,BN h6 hk,h7.keep hk,h8.grown hg (fun k e=>AL (hr k e).1)⟩
theorem UN(p q b:Nat)(w:Wd)(h:Frm w p q b)(c o cap:Nat)(L:List Nat)(hL:L.length=256)(bL:Bys L)(hcb:c≠b)(hcs:c<w.heap.size)(hcap:256<=cap)(hcell:∀i,i<256->w.cell? ⟨c,o+i,none⟩=some (.int .u8 (L.getD i 0:Nat))) :Calls prog 168 #[.pointer (some ⟨p,0,none⟩),.slice (some ⟨c,o,none⟩) 256 cap] w fun e w'=>Y3 w w' L e/\Frm w' p q b/\But b w w':=by
 have HC:=BB hcell;clear hcell;have hmk:=He;refine(callsIn_wide (n:=3)).1 ?_;refine callsIn_of_wp_marks func168 rfl trivial ?_ rfl;simp only[ntmps168,size_toArray,An,length_nil,Nat.reduceAdd,Nat.reduceSub,Array.replicate_succ,Array.replicate_zero,push_toArray,append_toArray,A6,cons_append]
 gi_wp2_with (refine⟨trivial,?_⟩;gi_at_call 199;refine(callsIn_wide.2 (Hb _ _ _ _ 64)).mono ?_;rintro e w' ⟨rfl,rfl⟩);obtain⟨G1,hs1,x0,x1,x2,x3,x4,x5,x6,x7,x8⟩:=UM w p (.slice (some ⟨c,o,none⟩) 256 cap);obtain⟨W1,hW1⟩:∃W1,dw w p (.slice (some ⟨c,o,none⟩) 256 cap)=W1:=⟨_,rfl⟩;rw[hW1] at G1 hs1 x0 x1 x2 x3 x4 x5 x6 x7 x8;unfold dw at hW1;rw[hW1];clear hW1;have F1:=h.chg G1;have hp:=h.lt;have hbs:=h.1.1.lt;have hqs:=h.1.lt;have HL:Hid (L.length=4*64):=BB hL;have O1:Own W1 w.heap.size 5 (.slice (some ⟨w.heap.size+1+1+1+1,0,none⟩) 0 174) []:=⟨rfl,AL ⟨_,174,bcells EF,rfl,om,x4,dc,dc,by rw[Ba];rfl,by simp⟩⟩;refine wpIn_rangeFunc_ownG rfl om (gf:=228) (lb:=#[.pointer (some ⟨w.heap.size+1+1+1+1+1+1+1,0,none⟩),.pointer (some ⟨w.heap.size+1+1+1+1+1+1+1+1,0,none⟩)]) rfl trivial (enters_of func228 kr rfl)
  (QW Fence.wide _ trivial rfl om _ _ c o cap hcap W1 om om x7.cell x8.cell) Kp.t (Kp.b om om) (Below.refl _ _) (fun _=>rfl)
  (fun pre W=>DI w W1 W p q b L pre)
  (fun cc pre W=>(cc=.exit 0/\∃pr,pre=pr ++ [mW]/\DI w W1 W p q b L pr)\/(cc=.ret/\∃i,i<3/\IsDec (part 64 L i) none/\Boxed W (w.heap.size+1) 35 (.slice none 0 0)/\Boxed W (w.heap.size+1+1) 3 (.int .i64 0)/\Boxed W (w.heap.size+1+1+1) 33 (.iface 56 (.int .i64 5))/\Frm W p q b/\Chg (DS w b) W1 W))
  (fun pre X Y row hs hg hr=>hs.keep hg hr)
  (fun cc pre X Y row hs hg hr=>by
   rcases hs with ⟨rfl,pr,h1,h2⟩ | ⟨rfl,i,h1,h2,h3,h4,h5,h6,h7⟩
   ·
    exact AK ⟨rfl,pr,h1,h2.keep hg hr⟩
   ·
    have hk:=kept hg hr
    exact AL ⟨rfl,i,h1,h2,BN h3 hk,BN h4 hk,BN h5 hk,h6.keep hk,h7.grown hg (fun k e=>AL (hr k e).1)⟩)
  ⟨by simp,_,[],trivial,x5,O1,(fun g e=>by have e':w.heap.size+1+1+1+1=g:=AR e;left;exact e'.symm),x6,F1,Chg.refl _ _⟩
  (fun x=>{ tmps:=#[.pointer (some ⟨p,0,none⟩),.slice (some ⟨c,o,none⟩) 256 cap,.pointer (some ⟨w.heap.size,0,none⟩),undef,.pointer (some ⟨w.heap.size+1,0,none⟩),.pointer (some ⟨w.heap.size+1+1,0,none⟩),.pointer (some ⟨w.heap.size+1+1+1,0,none⟩),.pointer (some ⟨w.heap.size+1+1+1+1+1,0,none⟩),.pointer (some ⟨w.heap.size+1+1+1+1+1+1,0,none⟩),.int .i64 (x.1:Int),.slice (some ⟨c,o+x.1*64,none⟩) 64 (cap - x.1*64),undef,undef,undef,.slice (some ⟨c,o,none⟩) 256 cap,.int .i64 256,.bool false,undef,.slice (some ⟨w.heap.size+1+1+1+1,0,none⟩) 0 174,.slice (some ⟨c,o,none⟩) 256 cap,.func (.func 228) #[] #[.pointer (some ⟨w.heap.size+1+1+1+1+1+1+1,0,none⟩),.pointer (some ⟨w.heap.size+1+1+1+1+1+1+1+1,0,none⟩)],.int .i64 (x.1:Int),.slice (some ⟨c,o+x.1*64,none⟩) 64 (cap - x.1*64),undef,undef,undef,undef,undef,undef,undef,undef,undef,undef,undef,undef,undef,undef,undef,undef,undef,undef,undef,undef,undef,undef,undef],defers:=[] }) ?assign ?body ?done ?stop
 case assign=>
  intro l x W K hK;dsimp only[OV]
  gi_wp2;exact hK
 case body=>
  rintro l pre x W ⟨hne,v,rs,hA,y5,O,hv,y6,F,hG⟩ hpl;have y0:Boxed W w.heap.size 212 (.pointer (some ⟨p,0,none⟩)):=(hG.block _ x0.lt (by unfold DT;omega)).trans x0;have y1:Boxed W (w.heap.size+1) 35 (.slice none 0 0):=(hG.block _ x1.lt (by unfold DT;omega)).trans x1;have y2:Boxed W (w.heap.size+1+1) 3 (.int .i64 0):=(hG.block _ x2.lt (by unfold DT;omega)).trans x2;have y3:Boxed W (w.heap.size+1+1+1) 33 .nilIface:=(hG.block _ x3.lt (by unfold DT;omega)).trans x3;have hs2:=hG.size;have z0:=y0.cell;have z2:W.cell? ⟨p,0,none⟩=some (.pointer (some ⟨q,0,none⟩)):=F.2.cell;have hbc:∀o,W.heap[b]?=some o->o.isCells=true:=fun o ho=>by
   obtain⟨c,z,hc,-⟩:=Df F.1.1;rw[hc] at ho;cases ho;rfl
  obtain⟨i,hi⟩:=x;dsimp only;by_cases hx:i=3
  ·subst hx
   gi_wp2_with fail;exact⟨KeepsFrom.refl _ _,AK ⟨rfl,pre,rfl,hne,v,rs,hA,y5,O,hv,y6,F,hG⟩⟩
  ·have hx3:=hx;have hx':((i:Int) == 3)=false:=(by simp;omega);have hpl:=DL HL.out i hi;have hpb:=GQ (z:=64) bL i;have hcc:∀j,j<(part 64 L i).length->W.cell? ⟨c,o+i*64+j,none⟩=some (.int .u8 ((part 64 L i).getD j 0:Nat)):=fun j hj=>by
    rw[Hc 64 L i j om,Nat.add_assoc];exact(Ag (w:=W1) (a:=⟨c,o+(i*64+j),none⟩) (hG.block c om (by unfold DT;omega))).trans ((Ag (w:=w) (a:=⟨c,o+(i*64+j),none⟩) (G1.block c hcs (fun e=>e))).trans (HC.out _ om))
   have HDec:=BB (JG q b W F.1 c (o+i*64) (cap - i*64) (part 64 L i) hpl hpb hcb om hcc);clear hcc
   gi_wp2_with fail;refine⟨trivial,(CallsIn.inRound l (callsIn_wide.2 HDec.out)).mono ?_⟩;rintro e W3 ⟨hD,C3,B3⟩;clear HDec;have F3:=F.but C3 B3;have a1:KeepsFrom W1.heap.size W W3:=B3.chg.keeps (fun k hk o ho=>hbc o (by rw[<-hk];exact ho)) _;have hs3:=B3.size;have G3:Chg (DT w b) W1 W3:=hG.trans' B3.chg (fun k _ e=>AK e);have u1:Boxed W3 (w.heap.size+1) 35 (.slice none 0 0):=(B3.block _ y1.lt om).trans y1;have u2:Boxed W3 (w.heap.size+1+1) 3 (.int .i64 0):=(B3.block _ y2.lt om).trans y2;have u3:Boxed W3 (w.heap.size+1+1+1) 33 .nilIface:=(B3.block _ y3.lt om).trans y3;have u5:Boxed W3 (w.heap.size+1+1+1+1+1) 35 v:=(B3.block _ y5.lt om).trans y5;have u6:Boxed W3 (w.heap.size+1+1+1+1+1+1) 3 (.int .i64 (mx rs)):=(B3.block _ y6.lt om).trans y6;have O3:Own W3 w.heap.size 5 v (UJ rs):=O.chg B3.chg (fun k hk he hb=>by have:=hv k he;omega);have g1:=u1.cell;have g2:=u2.cell;have g3:=u3.cell;have g5:=u5.cell;have g6:=u6.cell;have j1:=u1.frozen;have j2:=u2.frozen;have j3:=u3.frozen;have j5:=u5.frozen;have j6:=u6.frozen;have q1:=Eu;have q2:=BJ;rcases hD with ⟨h1,rfl⟩ | ⟨m,d,g,h1,h2,h3,h4,rfl,h6,h7⟩
   ·obtain⟨k1,k2,k3,k4⟩:=FW u1 u2 u3 (.slice none 0 0) (.int .i64 0) (.iface 56 (.int .i64 5)) om om om;have hrc:∀k,(k=(w.heap.size+1)\/k=(w.heap.size+1+1)\/k=(w.heap.size+1+1+1))->∀o,W3.heap[k]?=some o->o.isCells=true:=fun k hk o ho=>by
     rcases hk with rfl | rfl | rfl
     ·rw[show W3.heap[_]?=_ from u1] at ho;cases ho;rfl
     ·rw[show W3.heap[_]?=_ from u2] at ho;cases ho;rfl
     ·rw[show W3.heap[_]?=_ from u3] at ho;cases ho;rfl
    have a2:=k4.keeps hrc W1.heap.size;have n1:¬ (b=(w.heap.size+1)\/b=(w.heap.size+1+1)\/b=(w.heap.size+1+1+1)):=om;have n2:¬ (q=(w.heap.size+1)\/q=(w.heap.size+1+1)\/q=(w.heap.size+1+1+1)):=om;have n3:¬ (p=(w.heap.size+1)\/p=(w.heap.size+1+1)\/p=(w.heap.size+1+1+1)):=om;have F4:=F3.other (k4.block _ F3.1.1.lt n1) (k4.block _ F3.1.lt n2) (k4.block _ F3.lt n3);have G4:Chg (DS w b) W1 _:=(G3.mono (T:=DS w b) (fun k _ e=>by unfold DT at e;unfold DS;omega)).trans' k4 (fun i hi e=>by show DS w b i;unfold DS;omega)
    gi_wp2_with fail;exact⟨a1.trans a2,AL ⟨rfl,i,om,h1,k1,k2,k3,F4,G4⟩⟩
   ·have hA2:=hA.snoc (x:=⟨i,hi⟩) (r:=(m,d)) ⟨h1,h3,h4,h2⟩;have hdl:=hA.dat_length;have hml:=hA.mx_le;have hi5:=Fp
    gi_wp2_with (gi_at_builtin;refine Eo _ rfl _ _ 35 rfl w.heap.size 5 underlying35 hi5 v (UJ rs) rfl O3 g 0 58 58 m rfl h3 (fun j hj=>by rw[AW];exact h7.cell j om) om om ?_);intro v' w4 O4 hg4 hat;obtain⟨g4,c4,hv4,hgb4,hgs4,-⟩:=O4.lies (by rw[AV];omega);have hnb:∀k,v.ownBlock=some k->k=w.heap.size+1+1+1+1\/W1.heap.size<=k:=hv;have hv':g4=w.heap.size+1+1+1+1\/W1.heap.size<=g4:=by
     have e4:v'.ownBlock=some g4:=(by rw[hv4];rfl);rcases hat with h | h
     ·exact hv g4 (by rw[<-h];exact e4)
     ·rw[e4] at h;have:=AR h;omega
    subst hv4;rw[show (UJ rs ++ m).length=58*pre.length+58 from by rw[AV];omega] at O4;have t5:Boxed w4 (w.heap.size+1+1+1+1+1) 35 v:=u5.kept hg4 (fun e=>by have:=hv _ e.symm;omega);have t6:Boxed w4 (w.heap.size+1+1+1+1+1+1) 3 (.int .i64 (mx rs)):=u6.kept hg4 (fun e=>by have:=hv _ e.symm;omega);have F4:Frm w4 p q b:=F3.other (hg4.block _ F3.1.1.lt (fun e=>by have:=hv _ e.symm;omega)) (hg4.block _ F3.1.lt (fun e=>by have:=hv _ e.symm;omega)) (hg4.block _ F3.lt (fun e=>by have:=hv _ e.symm;omega));have hcv:∀k,v.ownBlock=some k->∀o,W3.heap[k]?=some o->o.isCells=true:=fun k hk o ho=>by
     rcases O3.2 with ⟨rfl,_⟩ | ⟨g,cap,cur,rfl,_,hh,_⟩
     ·cases hk
     ·have e:g=k:=AR hk;rw[<-e,hh] at ho;cases ho;rfl
    have a3:KeepsFrom W1.heap.size W3 w4:=⟨hg4.size,fun k o _ h0 ho=>(hg4.block k (Array.getElem?_eq_some_iff.1 h0).1 (fun e=>by rw[hcv k e.symm o h0] at ho;cases ho)).trans h0⟩;have G4:Chg (DT w b) W1 w4:=G3.grown hg4 (fun k e=>by have:=hv _ e;unfold DT;omega);have g5:=t5.cell;have g6:=t6.cell;have j5:=t5.frozen;have j6:=t6.frozen;have hs4:=hg4.size;have hk1:∀k,k<W.heap.size->k≠b->v.ownBlock≠some k->w4.heap[k]?=W.heap[k]?:=fun k hk hb hv=>(hg4.block k om (fun e=>hv e.symm)).trans (B3.block k hk hb);have fin:∀x:Nat,x=max (mx rs) d->∀Y,(w4.setCell ⟨w.heap.size+1+1+1+1+1,0,none⟩ (.slice (some ⟨g4,0,none⟩) (58*pre.length+58) c4)).setCell ⟨w.heap.size+1+1+1+1+1+1,0,none⟩ (.int .i64 (x:Int))=Y->KeepsFrom (w.heap.size+9) W Y/\Kp (w.heap.size+1+1+1+1+1+1+1) (w.heap.size+1+1+1+1+1+1+1+1) W Y/\DI w W1 Y p q b L (pre ++ [⟨i,hi⟩]):=fun x hx Y hY=>by
     have e5:Boxed Y (w.heap.size+1+1+1+1+1) 35 (.slice (some ⟨g4,0,none⟩) (58*pre.length+58) c4):=(by rw[<-hY];exact(t5.set _).other om _);have e6:Boxed Y (w.heap.size+1+1+1+1+1+1) 3 (.int .i64 (x:Int)):=(by rw[<-hY];exact(t6.other om _).set _);have K4:Chg (fun k=>k=(w.heap.size+1+1+1+1+1)\/k=(w.heap.size+1+1+1+1+1+1)) w4 Y:=(by rw[<-hY];exact((Chg.refl _ w4).setCell (AK (AK rfl)) 0 _).setCell (AK (AL rfl)) 0 _);have hrc:∀k,(k=(w.heap.size+1+1+1+1+1)\/k=(w.heap.size+1+1+1+1+1+1))->∀o,w4.heap[k]?=some o->o.isCells=true:=fun k hk o ho=>by
      rcases hk with rfl | rfl
      ·rw[show w4.heap[_]?=_ from t5] at ho;cases ho;rfl
      ·rw[show w4.heap[_]?=_ from t6] at ho;cases ho;rfl
     have a4:=K4.keeps hrc W1.heap.size;rw[<-hs1];refine⟨(a1.trans a3).trans a4,⟨?_,?_⟩,?_,_,rs ++ [(m,d)],hA2,e5,?_,?_,by rw[Y1,<-hx];exact e6,?_,?_⟩
     ·exact(K4.block _ om om).trans (hk1 _ om om (fun e=>by have:=hv _ e;omega))
     ·exact(K4.block _ om om).trans (hk1 _ om om (fun e=>by have:=hv _ e;omega))
     ·intro z hz;rcases mem_append.1 hz with h1 | h1
      ·exact hne z h1
      ·simp at h1;subst h1;simpa using hx3
     ·rw[UK];refine O4.chg K4 (fun k hk he=>?_);have:g4=k:=AR he;omega
     ·intro k he;have:g4=k:=AR he;omega
     ·exact F4.other (K4.block _ F4.1.1.lt om) (K4.block _ F4.1.lt om) (K4.block _ F4.lt om)
     ·exact G4.trans' K4 (fun k hk e=>by show DT w b k;unfold DT;omega)
    have HF:=BB fin;clear O3 O4 O hg4 hat fin hk1
    gi_wp2_with fail
    ·exact HF.out _ om _ rfl
    ·exact HF.out _ om _ rfl
 case done=>
  rintro D ys W hD rfl ⟨hne,-⟩ hK;have h3:(⟨3,dc⟩:Ix) ∈ GP 4:=dc
  exact absurd rfl (hne _ h3)
 case stop=>
  rintro D cc pre W hD ⟨kk,hkk,rfl⟩ (⟨rfl,pr,e1,hne,v,rs,hA,y5,O,hv,y6,F,hG⟩ | ⟨rfl,i,h1,h2,h3,h4,h5,h6,h7⟩) hK
  ·have hpr:pr=GP 3/\kk=4:=by
    have hl:kk=pr.length+1:=by
     have:=congrArg List.length e1;rw[DK kk hkk,AV] at this;exact this
    have h2:kk=4:=by
     obtain⟨k',rfl⟩:∃k',kk=k'+1:=⟨pr.length,hl⟩;rw[C8 k' om] at e1;have e5:=(append_inj' e1 rfl).2;have e6:(⟨k',om⟩:Ix)=mW:=(by simpa using e5);have:k'=3:=congrArg Subtype.val e6;omega
    subst h2;rw[C8 3 om] at e1;exact⟨((append_inj' e1 rfl).1).symm,rfl⟩
   obtain⟨rfl,rfl⟩:=hpr;have hrl:=hA.length;have hdl:=hA.dat_length;rw[DK 3 om] at hrl hdl
   match rs,hrl,hA with
   | [r0,r1,r2],_,hA=>
    obtain⟨t0,t1,t2,-⟩:Good L 0 r0/\Good L 1 r1/\Good L 2 r2/\True:=⟨hA.1,hA.2.1,hA.2.2.1,trivial⟩;have ed:UJ [r0,r1,r2]=r0.1 ++ r1.1 ++ r2.1:=(by simp[UJ]);have em:mx [r0,r1,r2]=max (max r0.2 r1.2) r2.2:=(by simp[mx]);rw[ed] at O hdl;rw[em] at y6;obtain⟨g4,c4,hv4,-⟩:=O.lies om;rw[hdl] at hv4;subst hv4;have y1:Boxed W (w.heap.size+1) 35 (.slice none 0 0):=(hG.block _ x1.lt (by unfold DT;omega)).trans x1;have y2:Boxed W (w.heap.size+1+1) 3 (.int .i64 0):=(hG.block _ x2.lt (by unfold DT;omega)).trans x2;have y3:Boxed W (w.heap.size+1+1+1) 33 .nilIface:=(hG.block _ x3.lt (by unfold DT;omega)).trans x3;obtain⟨k1,k2,k3,k4⟩:=FW y1 y2 y3 (.slice (some ⟨g4,0,none⟩) 174 c4) (.int .i64 ((max (max r0.2 r1.2) r2.2:Nat):Int)) .nilIface om om om;have c1:=y1.cell;have c2:=y2.cell;have c3:=y3.cell;have c5:=y5.cell;have c6:=y6.cell;have f1:=y1.frozen;have f2:=y2.frozen;have f3:=y3.frozen;have hgv:=hv g4 rfl;have HO:=BB O;have HF:=BB F;have HG:=BB hG;obtain⟨M,hM⟩:∃M,max (max r0.2 r1.2) r2.2=M:=⟨_,rfl⟩;rw[hM] at k1 k2 k3 k4 c6 y6;have HM:=BB hM;clear hM;clear O F hG hA
    gi_wp2_with fail
    gi_region;have hY:((W.setCell ⟨w.heap.size+1,0,none⟩ (.slice (some ⟨g4,0,none⟩) 174 c4)).setCell ⟨w.heap.size+1+1,0,none⟩ (.int .i64 (M:Int))).setCell ⟨w.heap.size+1+1+1,0,none⟩ .nilIface=st3 W (w.heap.size+1) (w.heap.size+1+1) (w.heap.size+1+1+1) (.slice (some ⟨g4,0,none⟩) 174 c4) (.int .i64 (M:Int)) .nilIface:=rfl;rw[hY];clear hY;have hK2:(st3 W (w.heap.size+1) (w.heap.size+1+1) (w.heap.size+1+1+1) (.slice (some ⟨g4,0,none⟩) 174 c4) (.int .i64 (M:Int)) .nilIface).heap[D]?=some (.deferred (some [])):=(k4.block D (Array.getElem?_eq_some_iff.1 hK).1 om).trans hK;have F5:=HF.out.other (k4.block _ HF.out.1.1.lt om) (k4.block _ HF.out.1.lt om) (k4.block _ HF.out.lt om);have O5:=HO.out.chg k4 (fun k hk he=>by have:g4=k:=AR he;omega);have G5:Chg (·=b) w (st3 W (w.heap.size+1) (w.heap.size+1+1) (w.heap.size+1+1+1) (.slice (some ⟨g4,0,none⟩) 174 c4) (.int .i64 (M:Int)) .nilIface):=((G1.mono (T:=(·=b)) (fun _ _ e=>e.elim)).trans' HG.out (fun k hk e=>by unfold DT at e;omega)).trans' k4 (fun k hk e=>om);generalize st3 W (w.heap.size+1) (w.heap.size+1+1) (w.heap.size+1+1+1) (.slice (some ⟨g4,0,none⟩) 174 c4) (.int .i64 (M:Int)) .nilIface=Y at *
    gi_wp2_with fail;refine⟨by simp,.inl ⟨_,_,rfl,run_takeDeferred (w:=Y.drew) hK2,?_⟩⟩;have hkp:IF Y (Y.drew.putObj D (.deferred none)):=Ev (X:=Y.drew) (.deferred none) hK2 rfl;have G6:=G5.drew.grown (grownBy_putObj' Y.drew D (.deferred none)) (fun k e=>AL (by cases e;omega));exact⟨_,GR rfl _ rfl rfl rfl (BN k1 hkp) (BN k2 hkp) (BN k3 hkp),AL ⟨r0,r1,r2,_,c4,t0,t1,t2,by rw[HM.out],O5.keeps hkp⟩,F5.keep hkp,⟨G6.os,G6.tape,G6.output,G6.size,G6.block⟩⟩
  ·gi_wp2;refine⟨by simp,.inl ⟨_,_,rfl,run_takeDeferred hK,?_⟩⟩;have hkp:=Ev (.deferred none) hK rfl;have G5:=((G1.mono (T:=(·=b)) (fun _ _ e=>e.elim)).trans' h7 (fun k hk e=>by unfold DS at e;omega)).grown (grownBy_putObj' W D (.deferred none)) (fun k e=>AL (by cases e;omega));exact⟨_,GR rfl _ rfl rfl rfl (BN h3 hkp) (BN h4 hkp) (BN h5 hkp),AK ⟨i,h1,h2,rfl⟩,h6.keep hkp,⟨G5.os,G5.tape,G5.output,G5.size,G5.block⟩⟩
end
theorem LK(w:Wd):(binOp .eql 33 (.iface 56 (.int .i64 6)) .nilIface).run prog w=.ok (.bool false) w:=kr
theorem GS(w:Wd):(binOp .neq 33 (.iface 56 (.int .i64 6)) .nilIface).run prog w=.ok (.bool true) w:=kr
theorem UO(p:Nat)(w:Wd)(a:Option Addr)(n cap:Nat)(hn:n≠256) :Calls prog 197 #[.pointer (some ⟨p,0,none⟩),.slice a n cap] w fun e w'=>e=.returned (.tuple #[.slice none 0 0,.int .i64 0,.iface 56 (.int .i64 1)])/\Chg No w w':=by
 have q1:=Ds;go_enter func197,ntmps197;go_wp2_with fail;refine(IG p w a n cap 3 hn).mono ?_;rintro e w1 ⟨rfl,G1⟩;go_wp2
 go_ret3
 exact⟨rfl,G1⟩
def Y5 (w w':Wd) (L:List Nat) (e:Ending):Prop:=
 (IsDec (part 64 L 3) none/\e=.returned (.tuple #[.slice none 0 0,.int .i64 0,.iface 56 (.int .i64 5)])) \/
 (∃r:List Nat × Nat,Good L 3 r/\r.1.drop 50≠mk/\e=.returned (.tuple #[.slice none 0 0,.int .i64 0,.iface 56 (.int .i64 6)])) \/
 (∃(r:List Nat × Nat) (g:Nat),Good L 3 r/\r.1.drop 50=mk/\e=.returned (.tuple #[.slice (some ⟨g,0,none⟩) 50 50,.int .i64 (r.2:Int),.nilIface])/\w.heap.size<=g/\Arr w' g 5 r.1)
theorem UP(p q b:Nat)(w:Wd)(h:Frm w p q b)(c o cap:Nat)(L:List Nat)(hL:L.length=256)(bL:Bys L)(hcb:c≠b)(hcs:c<w.heap.size)(hcap:256<=cap)(hcell:∀i,i<256->w.cell? ⟨c,o+i,none⟩=some (.int .u8 (L.getD i 0:Nat))) :Calls prog 197 #[.pointer (some ⟨p,0,none⟩),.slice (some ⟨c,o,none⟩) 256 cap] w fun e w'=>Y5 w w' L e/\Frm w' p q b/\But b w w':=by
 have HM:=BB (IH p q b w h c o cap L hL bL hcb hcs hcap hcell 3);clear hcell;have q1:=Eu;have q2:=BJ;have q3:=GS;go_enter func197,ntmps197;go_wp2_with fail;refine HM.out.mono ?_;rintro e w1 ⟨hD,F1,B1⟩;clear HM;have hs1:=B1.size;rcases hD with ⟨i,hi,e3,hD⟩ | ⟨hD,-⟩
 ·have:i=3:=om
  subst this;rcases hD with ⟨hN,rfl⟩ | ⟨m,d,g,h1,h2,h3,h4,rfl,h6,h7⟩
  ·go_wp2
   go_ret3
   exact⟨AK ⟨hN,rfl⟩,F1,B1⟩
  ·have hgood:Good L 3 (m,d):=⟨h1,h3,h4,h2⟩;by_cases hm:m.drop 50=mk
   ·have HO:=BB (RZ w1 g 0 58 om m h3 h4 h7.lt h7.at0 hm);go_wp2_with fail;refine HO.out.mono ?_;rintro e w2 ⟨g2,rfl,hg2,A2,G2⟩;go_wp2
    go_ret3
    exact⟨AL (AL ⟨(m,d),g2,hgood,hm,rfl,om,A2⟩),F1.chg G2,B1.trans G2.but⟩
   ·have HO:=BB (Ra w1 g 0 58 om m h3 h4 h7.at0 hm);go_wp2_with fail;refine HO.out.mono ?_;rintro e w2 ⟨rfl,rfl⟩;go_wp2
    go_ret3
    exact⟨AL (AK ⟨(m,d),hgood,hm,rfl⟩),F1,B1⟩
 ·omega
end Go.Proofs.YtbhbilcieodbhaaGreat
namespace Go.Proofs.YtbhbilcieodbhaaGreat
open List
open Go.Proofs.Tryz
open Go.RowKit
def errV (c:Nat):Value:=if c=0 then .nilIface else .iface 56 (.int .i64 (c:Int))
section
variable {L R R':List Nat}{d c d' c' i:Nat}{r:List Nat × Nat}{k:Int}
def MsgR (L:List Nat) (k:Int) (R:List Nat) (d c:Nat):Prop:=
 (¬ (L.length=256/\0<=k/\k<=3)/\R=[]/\d=0/\c=1) \/
 (∃i:Nat,i<4/\k=i/\L.length=256/\((IsDec (part 64 L i) none/\R=[]/\d=0/\c=5)\/(Good L i (R,d)/\c=0)))
def DatR (L:List Nat) (R:List Nat) (d c:Nat):Prop:=
 (L.length≠256/\R=[]/\d=0/\c=1) \/
 (L.length=256/\(∃i,i<3/\IsDec (part 64 L i) none)/\R=[]/\d=0/\c=5) \/
 (L.length=256/\∃r0 r1 r2:List Nat × Nat,Good L 0 r0/\Good L 1 r1/\Good L 2 r2/\R=r0.1 ++ r1.1 ++ r2.1/\d=max (max r0.2 r1.2) r2.2/\c=0)
def BodR (L:List Nat) (R:List Nat) (d c:Nat):Prop:=
 (L.length≠256/\R=[]/\d=0/\c=1) \/
 (L.length=256/\IsDec (part 64 L 3) none/\R=[]/\d=0/\c=5) \/
 (L.length=256/\∃r:List Nat × Nat,Good L 3 r/\((r.1.drop 50≠mk/\R=[]/\d=0/\c=6)\/(r.1.drop 50=mk/\R=r.1.take 50/\d=r.2/\c=0)))
theorem Good.unique{r':List Nat × Nat}(h:Good L i r)(h':Good L i r'):r=r':=AR (h.1.unique h'.1)
theorem Good.not_none(h:Good L i r)(h':IsDec (part 64 L i) none):False:=by
 have:=h.1.unique h';cases this
theorem MsgR.unique(h:MsgR L k R d c)(h':MsgR L k R' d' c'):R=R'/\d=d'/\c=c':=by
 rcases h with ⟨h1,rfl,rfl,rfl⟩ | ⟨i,hi,hk,hl,h⟩
 ·rcases h' with ⟨_,rfl,rfl,rfl⟩ | ⟨i,hi,hk,hl,_⟩
  ·exact⟨rfl,rfl,rfl⟩
  ·exact(h1 ⟨hl,om,om⟩).elim
 ·rcases h' with ⟨h1,_⟩ | ⟨i',hi',hk',hl',h'⟩
  ·exact(h1 ⟨hl,om,om⟩).elim
  ·have e:i'=i:=om;subst e;rcases h with ⟨h1,rfl,rfl,rfl⟩ | ⟨h1,rfl⟩ <;> rcases h' with ⟨h2,rfl,rfl,rfl⟩ | ⟨h2,rfl⟩
   ·exact⟨rfl,rfl,rfl⟩
   ·exact(h2.not_none h1).elim
   ·exact(h1.not_none h2).elim
   ·have e:=h1.unique h2;simp only[Prod.mk.injEq] at e;exact⟨e.1,e.2,rfl⟩
theorem DatR.unique(h:DatR L R d c)(h':DatR L R' d' c'):R=R'/\d=d'/\c=c':=by
 have nn:∀ {r0 r1 r2:List Nat × Nat} {i:Nat},Good L 0 r0->Good L 1 r1->Good L 2 r2->i<3->IsDec (part 64 L i) none->False:=fun {r0 r1 r2 i} g0 g1 g2 hi hn=>by
  have:i=0\/i=1\/i=2:=om
  rcases this with rfl | rfl | rfl
  ·exact g0.not_none hn
  ·exact g1.not_none hn
  ·exact g2.not_none hn
 rcases h with ⟨h1,rfl,rfl,rfl⟩ | ⟨h1,⟨i,hi,hn⟩,rfl,rfl,rfl⟩ | ⟨h1,r0,r1,r2,g0,g1,g2,rfl,rfl,rfl⟩ <;> rcases h' with ⟨h2,rfl,rfl,rfl⟩ | ⟨h2,⟨i',hi',hn'⟩,rfl,rfl,rfl⟩ | ⟨h2,r0',r1',r2',g0',g1',g2',rfl,rfl,rfl⟩
 ·exact⟨rfl,rfl,rfl⟩
 ·exact(h1 h2).elim
 ·exact(h1 h2).elim
 ·exact(h2 h1).elim
 ·exact⟨rfl,rfl,rfl⟩
 ·exact(nn g0' g1' g2' hi hn).elim
 ·exact(h2 h1).elim
 ·exact(nn g0 g1 g2 hi' hn').elim
 ·have e0:=g0.unique g0';have e1:=g1.unique g1';have e2:=g2.unique g2';subst e0 e1 e2;exact⟨rfl,rfl,rfl⟩
theorem BodR.unique(h:BodR L R d c)(h':BodR L R' d' c'):R=R'/\d=d'/\c=c':=by
 rcases h with ⟨h1,rfl,rfl,rfl⟩ | ⟨h1,hn,rfl,rfl,rfl⟩ | ⟨h1,r,g,h⟩ <;> rcases h' with ⟨h2,rfl,rfl,rfl⟩ | ⟨h2,hn',rfl,rfl,rfl⟩ | ⟨h2,r',g',h'⟩
 ·exact⟨rfl,rfl,rfl⟩
 ·exact(h1 h2).elim
 ·exact(h1 h2).elim
 ·exact(h2 h1).elim
 ·exact⟨rfl,rfl,rfl⟩
 ·exact(g'.not_none hn).elim
 ·exact(h2 h1).elim
 ·exact(g.not_none hn').elim
 ·have e:=g.unique g';subst e;rcases h with ⟨h3,rfl,rfl,rfl⟩ | ⟨h3,rfl,rfl,rfl⟩ <;> rcases h' with ⟨h4,rfl,rfl,rfl⟩ | ⟨h4,rfl,rfl,rfl⟩
  ·exact⟨rfl,rfl,rfl⟩
  ·exact(h3 h4).elim
  ·exact(h4 h3).elim
  ·exact⟨rfl,rfl,rfl⟩
def Cj (c:Nat):Prop:=c=0\/c=1\/c=5\/c=6
theorem MsgR.code(h:MsgR L k R d c):Cj c/\R.length<=58/\d<=2:=by
 rcases h with ⟨_,rfl,rfl,rfl⟩ | ⟨i,_,_,_,⟨_,rfl,rfl,rfl⟩ | ⟨h,rfl⟩⟩
 ·exact⟨by simp[Cj],by simp,om⟩
 ·exact⟨by simp[Cj],by simp,om⟩
 ·exact⟨by simp[Cj],Ak h.2.1,h.2.2.2⟩
theorem DatR.code(h:DatR L R d c):Cj c/\R.length<=174/\d<=2:=by
 rcases h with ⟨_,rfl,rfl,rfl⟩ | ⟨_,_,rfl,rfl,rfl⟩ | ⟨_,r0,r1,r2,g0,g1,g2,rfl,rfl,rfl⟩
 ·exact⟨by simp[Cj],by simp,om⟩
 ·exact⟨by simp[Cj],by simp,om⟩
 ·have h0:=g0.2.1;have h1:=g1.2.1;have h2:=g2.2.1;have k0:=g0.2.2.2;have k1:=g1.2.2.2;have k2:=g2.2.2.2;exact⟨by simp[Cj],by simp only[AV];omega,om⟩
theorem BodR.code(h:BodR L R d c):Cj c/\R.length<=50/\d<=2:=by
 rcases h with ⟨_,rfl,rfl,rfl⟩ | ⟨_,_,rfl,rfl,rfl⟩ | ⟨_,r,g,⟨_,rfl,rfl,rfl⟩ | ⟨_,rfl,rfl,rfl⟩⟩
 ·exact⟨by simp[Cj],by simp,om⟩
 ·exact⟨by simp[Cj],by simp,om⟩
 ·exact⟨by simp[Cj],by simp,om⟩
 ·exact⟨by simp[Cj],by simp;omega,g.2.2.2⟩
def dP (w':Wd) (base:Nat) (Q:List Nat->Nat->Nat->Prop) (e:Ending):Prop:=
 ∃(a:Option Addr) (n cap:Nat) (R:List Nat) (d c:Nat),e=.returned (.tuple #[.slice a n cap,.int .i64 (d:Int),errV c])/\n=R.length/\Q R d c/\Cr w' base 5 (.slice a n cap) R
theorem CC(w:Wd)(base:Nat):Cr w base 5 (.slice none 0 0) []:=AK (Own.nil w base 5)
theorem Rb(p q b:Nat)(w:Wd)(h:Frm w p q b)(c o n cap:Nat)(L:List Nat)(hn:n=L.length)(bL:Bys L)(hcb:c≠b)(hcs:c<w.heap.size)(hcap:n<=cap)(hh:Cu w (.slice (some ⟨c,o,none⟩) n cap) L)(k:Int) :Calls prog 196 #[.pointer (some ⟨p,0,none⟩),.slice (some ⟨c,o,none⟩) n cap,.int .i64 k] w fun e w'=>dP w' w.heap.size (MsgR L k) e/\Frm w' p q b/\But b w w':=by
 by_cases h256:L.length=256
 ·have e:n=256:=om
  subst e;have hcell:=(Fw hh om).2;refine(IH p q b w h c o cap L h256 bL hcb hcs om (fun i hi=>hcell i om) k).mono ?_;rintro e w' ⟨hA,F,B⟩;refine⟨?_,F,B⟩;rcases hA with ⟨i,hi,hk,⟨hN,rfl⟩ | ⟨m,d,g,h1,h2,h3,h4,rfl,h6,h7⟩⟩ | ⟨hk,rfl⟩
  ·exact⟨none,0,0,[],0,5,rfl,rfl,AL ⟨i,hi,hk,h256,AK ⟨hN,rfl,rfl,rfl⟩⟩,CC _ _⟩
  ·exact⟨_,58,58,m,d,0,rfl,h3.symm,AL ⟨i,hi,hk,h256,AL ⟨⟨h1,h3,h4,h2⟩,rfl⟩⟩,h7.own h6 58 h3.symm dc⟩
  ·exact⟨none,0,0,[],0,1,rfl,rfl,AK ⟨fun h=>hk h.2,rfl,rfl,rfl⟩,CC _ _⟩
 ·refine(IG p w _ n cap k om).mono ?_;rintro e w' ⟨rfl,G⟩;exact⟨⟨none,0,0,[],0,1,rfl,rfl,AK ⟨fun h=>h256 h.1,rfl,rfl,rfl⟩,CC _ _⟩,h.chg G,G.but⟩
theorem dQ(p q b:Nat)(w:Wd)(h:Frm w p q b)(c o n cap:Nat)(L:List Nat)(hn:n=L.length)(bL:Bys L)(hcb:c≠b)(hcs:c<w.heap.size)(hcap:n<=cap)(hh:Cu w (.slice (some ⟨c,o,none⟩) n cap) L) :Calls prog 168 #[.pointer (some ⟨p,0,none⟩),.slice (some ⟨c,o,none⟩) n cap] w fun e w'=>dP w' w.heap.size (DatR L) e/\Frm w' p q b/\But b w w':=by
 by_cases h256:L.length=256
 ·have e:n=256:=om
  subst e;have hcell:=(Fw hh om).2;refine(UN p q b w h c o cap L h256 bL hcb hcs om (fun i hi=>hcell i om)).mono ?_;rintro e w' ⟨hA,F,B⟩;refine⟨?_,F,B⟩;rcases hA with ⟨i,hi,hN,rfl⟩ | ⟨r0,r1,r2,a,cap',g0,g1,g2,rfl,O⟩
  ·exact⟨none,0,0,[],0,5,rfl,rfl,AL (AK ⟨h256,⟨i,hi,hN⟩,rfl,rfl,rfl⟩),CC _ _⟩
  ·have hl:(r0.1 ++ r1.1 ++ r2.1).length=174:=by
    have h0:=g0.2.1;have h1:=g1.2.1;have h2:=g2.2.1;simp only[AV];omega
   exact⟨a,174,cap',_,_,0,rfl,hl.symm,AL (AL ⟨h256,r0,r1,r2,g0,g1,g2,rfl,rfl,rfl⟩),O.t⟩
 ·refine(UL p w _ n cap om).mono ?_;rintro e w' ⟨rfl,G⟩;exact⟨⟨none,0,0,[],0,1,rfl,rfl,AK ⟨h256,rfl,rfl,rfl⟩,CC _ _⟩,h.chg G,G.but⟩
theorem dR(p q b:Nat)(w:Wd)(h:Frm w p q b)(c o n cap:Nat)(L:List Nat)(hn:n=L.length)(bL:Bys L)(hcb:c≠b)(hcs:c<w.heap.size)(hcap:n<=cap)(hh:Cu w (.slice (some ⟨c,o,none⟩) n cap) L) :Calls prog 197 #[.pointer (some ⟨p,0,none⟩),.slice (some ⟨c,o,none⟩) n cap] w fun e w'=>dP w' w.heap.size (BodR L) e/\Frm w' p q b/\But b w w':=by
 by_cases h256:L.length=256
 ·have e:n=256:=om
  subst e;have hcell:=(Fw hh om).2;refine(UP p q b w h c o cap L h256 bL hcb hcs om (fun i hi=>hcell i om)).mono ?_;rintro e w' ⟨hA,F,B⟩;refine⟨?_,F,B⟩;rcases hA with ⟨hN,rfl⟩ | ⟨r,g,hm,rfl⟩ | ⟨r,gg,g,hm,rfl,hg,A⟩
  ·exact⟨none,0,0,[],0,5,rfl,rfl,AL (AK ⟨h256,hN,rfl,rfl,rfl⟩),CC _ _⟩
  ·exact⟨none,0,0,[],0,6,rfl,rfl,AL (AL ⟨h256,r,g,AK ⟨hm,rfl,rfl,rfl⟩⟩),CC _ _⟩
  ·have hrl:=g.2.1;exact⟨_,50,50,r.1.take 50,r.2,0,rfl,by rw[length_take,hrl];rfl,AL (AL ⟨h256,r,g,AL ⟨hm,rfl,rfl,rfl⟩⟩),A.tight hg 50 om dc⟩
 ·refine(UO p w _ n cap om).mono ?_;rintro e w' ⟨rfl,G⟩;exact⟨⟨none,0,0,[],0,1,rfl,rfl,AK ⟨h256,rfl,rfl,rfl⟩,CC _ _⟩,h.chg G,G.but⟩
end
section
variable {Dt Z X R:List Nat}{d c z:Nat}{r:Option (List Nat × Nat)}{F:Nat->List Nat}
theorem JI{x c:List Nat}(h:IsDec x r)(hc:Cw c)(h2:2<ds x c)(h4:ds x c<=4):r=none:=by
 rcases h with ⟨h,-⟩ | ⟨c',hc',he,hd⟩
 ·exact h
 ·exfalso;have h1:ds c' c<=6:=by
   have:=OO c' x c;rw[LD c' x] at this;omega
  have e:=KS hc' hc h1;rw[e] at hd;omega
def flat (F:Nat->List Nat) (k:Nat):List Nat:=((List.range k).map F).flatten
theorem Hf(F:Nat->List Nat)(k:Nat):flat F (k+1)=flat F k ++ F k:=by simp[flat,range_succ]
theorem Du:∀k,(∀i,i<k->(F i).length=z)->(flat F k).length=k*z:=by
 intro k
 induction k with
 | zero=>intro _;simp[flat]
 | succ k ih=>
  intro h;rw[Hf,AV,ih (fun i hi=>h i om),h k om,Nat.add_mul,Nat.one_mul]
theorem Rc:∀k,(∀i,i<k->(F i).length=z)->∀i,i<k->part z (flat F k) i=F i:=by
 intro k
 induction k with
 | zero=>intro _ i hi;omega
 | succ k ih=>
  intro h i hi;have hl:=Du k (fun i hi=>h i om);rw[Hf];by_cases hk:i<k
  ·rw[<-ih (fun i hi=>h i om) i hk];have h1:(i+1)*z<=k*z:=Nat.mul_le_mul_right z hk;rw[Nat.add_mul,Nat.one_mul] at h1;simp only[part];rw[drop_append_of_le_length om,take_append_of_le_length (by rw[length_drop];omega)]
  ·have e:i=k:=om;subst e;simp only[part];rw[drop_append,Ax om,hl,Nat.sub_self,drop_zero,A6,As (by rw[h i om];exact AM _)]
def msgOf (Dt Z:List Nat):List Nat:=Dt ++ (Z ++ mk)
theorem JJ(hD:Dt.length=174)(hZ:Z.length=50):(msgOf Dt Z).length=4*58:=by
 simp[msgOf,hD,hZ,FX]
theorem Y6(hD:Bys Dt)(hZ:Bys Z):Bys (msgOf Dt Z):=by
 intro x hx;rcases mem_append.1 hx with h1 | h1
 ·exact hD x h1
 ·rcases mem_append.1 h1 with h2 | h2
  ·exact hZ x h2
  ·exact OX x h2
theorem UQ(hD:Dt.length=174):part 58 (msgOf Dt Z) 0 ++ part 58 (msgOf Dt Z) 1 ++ part 58 (msgOf Dt Z) 2=Dt:=by
 have e:∀i,i<3->part 58 (msgOf Dt Z) i=(Dt.drop (i*58)).take 58:=fun i hi=>by
  simp only[part,msgOf];rw[drop_append_of_le_length om,take_append_of_le_length (by simp;omega)]
 rw[e 0 om,e 1 om,e 2 om];simp only[Nat.zero_mul,drop_zero,Nat.one_mul];have h1:Dt=Dt.take 58 ++ Dt.drop 58:=(take_append_drop 58 Dt).symm;have h2:Dt.drop 58=(Dt.drop 58).take 58 ++ (Dt.drop 58).drop 58:=(take_append_drop 58 _).symm;rw[drop_drop] at h2;have h3:(Dt.drop (2*58)).take 58=Dt.drop (58+58):=by rw[As (by simp;omega)]
 rw[h3,Aq,<-h2,<-h1]
theorem UR(hD:Dt.length=174)(hZ:Z.length=50):part 58 (msgOf Dt Z) 3=Z ++ mk:=by
 simp only[part,msgOf];rw[drop_append,Ax om,hD,A6,show 3*58 - 174=0 from rfl,drop_zero,As (by rw[AV,hZ,FX];omega)]
def wordOf (Dt Z:List Nat) (i:Nat):List Nat:=IW (part 58 (msgOf Dt Z) i)
theorem Dw(hD:Dt.length=174)(bD:Bys Dt)(hZ:Z.length=50)(bZ:Bys Z)(i:Nat)(hi:i<4):Cw (wordOf Dt Z i):=
 Yu (DL (JJ hD hZ) i hi) (GQ (Y6 bD bZ) i)
theorem Re(hD:Dt.length=174)(hZ:Z.length=50)(i:Nat)(hi:i<4):(wordOf Dt Z i).take 58=part 58 (msgOf Dt Z) i:=
 RU (DL (JJ hD hZ) i hi)
def hurt (Dt Z X:List Nat) (i:Nat):Nat:=ds (part 64 X i) (wordOf Dt Z i)
theorem Cp(hD:Dt.length=174)(bD:Bys Dt)(hZ:Z.length=50)(bZ:Bys Z){i:Nat}(hi:i<4)(h2:hurt Dt Z X i<=2)(h:IsDec (part 64 X i) r):r=some (part 58 (msgOf Dt Z) i,hurt Dt Z X i):=by
 have:=h.of (Dw hD bD hZ bZ i hi) h2
 rwa [Re hD hZ i hi] at this
theorem JK(hD:Dt.length=174)(bD:Bys Dt)(hZ:Z.length=50)(bZ:Bys Z)(hX:X.length=256)(h:DatR X R d c)(h2:max (max (hurt Dt Z X 0) (hurt Dt Z X 1)) (hurt Dt Z X 2)<=2):R=Dt/\d=max (max (hurt Dt Z X 0) (hurt Dt Z X 1)) (hurt Dt Z X 2)/\c=0:=by
 rcases h with ⟨h,_⟩ | ⟨_,⟨i,hi,hn⟩,_⟩ | ⟨_,r0,r1,r2,g0,g1,g2,rfl,rfl,rfl⟩
 ·exact(h hX).elim
 ·have h3:hurt Dt Z X i<=2:=by
   have:i=0\/i=1\/i=2:=om
   rcases this with rfl | rfl | rfl <;> omega
  have:=Cp hD bD hZ bZ om h3 hn;cases this
 ·have e0:=AR (Cp hD bD hZ bZ om (show hurt Dt Z X 0<=2 by omega) g0.1);have e1:=AR (Cp hD bD hZ bZ om (show hurt Dt Z X 1<=2 by omega) g1.1);have e2:=AR (Cp hD bD hZ bZ om (show hurt Dt Z X 2<=2 by omega) g2.1);subst e0 e1 e2;exact⟨UQ hD,rfl,rfl⟩
theorem Rf(hD:Dt.length=174)(bD:Bys Dt)(hZ:Z.length=50)(bZ:Bys Z)(hX:X.length=256)(h:DatR X R d c)(h2:2<max (max (hurt Dt Z X 0) (hurt Dt Z X 1)) (hurt Dt Z X 2))(h4:max (max (hurt Dt Z X 0) (hurt Dt Z X 1)) (hurt Dt Z X 2)<=4):R=[]/\d=0/\c=5:=by
 rcases h with ⟨h,_⟩ | ⟨_,_,rfl,rfl,rfl⟩ | ⟨_,r0,r1,r2,g0,g1,g2,_⟩
 ·exact(h hX).elim
 ·exact⟨rfl,rfl,rfl⟩
 ·exfalso;have t:∀i (r:List Nat × Nat),i<3->Good X i r->¬ (2<hurt Dt Z X i/\hurt Dt Z X i<=4):=fun i r hi g hh=>by
   have:=JI g.1 (Dw hD bD hZ bZ i om) hh.1 hh.2;cases this
  have t0:=t 0 r0 om g0;have t1:=t 1 r1 om g1;have t2:=t 2 r2 om g2;omega
theorem JL(hD:Dt.length=174)(bD:Bys Dt)(hZ:Z.length=50)(bZ:Bys Z)(hX:X.length=256)(h:BodR X R d c)(h2:hurt Dt Z X 3<=2):R=Z/\d=hurt Dt Z X 3/\c=0:=by
 rcases h with ⟨h,_⟩ | ⟨_,hn,_⟩ | ⟨_,r,g,h⟩
 ·exact(h hX).elim
 ·have:=Cp hD bD hZ bZ om h2 hn;cases this
 ·have e:=AR (Cp hD bD hZ bZ om h2 g.1);subst e;have em:=UR hD hZ;rcases h with ⟨h1,_⟩ | ⟨_,rfl,rfl,rfl⟩
  ·refine(h1 ?_).elim;show (part 58 (msgOf Dt Z) 3).drop 50=mk;rw[em,drop_append,Ax om,hZ];rfl
  ·refine⟨?_,rfl,rfl⟩;show (part 58 (msgOf Dt Z) 3).take 50=Z;rw[em,take_append_of_le_length om,As om]
theorem Rg(hD:Dt.length=174)(bD:Bys Dt)(hZ:Z.length=50)(bZ:Bys Z)(hX:X.length=256)(h:BodR X R d c)(h2:2<hurt Dt Z X 3)(h4:hurt Dt Z X 3<=4):R=[]/\d=0/\c=5:=by
 rcases h with ⟨h,_⟩ | ⟨_,hn,rfl,rfl,rfl⟩ | ⟨_,r,g,h⟩
 ·exact(h hX).elim
 ·exact⟨rfl,rfl,rfl⟩
 ·have:=JI g.1 (Dw hD bD hZ bZ 3 om) h2 h4;cases this
end
section
variable {f:Nat->Nat}{a:Nat}
def Fx:List Nat:=List.replicate 64 255
theorem Y7(i:Nat)(h:i<64):Fx.getD i 0=255:=by
 rw[Fx,AQ,List.getElem?_replicate,AJ h];rfl
theorem ji:∀n,(∀i,a<=i->i<a+n->f i≠0)->wt f a+n<=wt f (a+n):=by
 intro n
 induction n with
 | zero=>intro _;exact AM _
 | succ n ih=>
  intro h;have h1:=ih (fun i h1 h2=>h i h1 om);have h2:=h (a+n) om om;show _<=wt f (a+n)+(if f (a+n)=0 then 0 else 1);rw[AI h2];omega
theorem Y8:∀n,wt f a<=wt f (a+n):=by
 intro n
 induction n with
 | zero=>exact AM _
 | succ n ih=>exact AY ih (Nat.le_add_right _ _)
theorem jj(i:Nat)(h:i<8):mk.getD i 0≠255:=by
 have:∀i,i<8->mk.getD i 0≠255:=dc
 exact this i h
theorem dS{c:List Nat}(h:(c.take 58).drop 50=mk):8<=ds c Fx:=by
 have hc:∀i,50<=i->i<50+8->df c Fx i≠0:=fun i h1 h2=>by
  rw[Ne,ET,Y7 i om];have e:c.getD i 0=mk.getD (i - 50) 0:=by
   rw[<-h];simp[AQ,List.getElem?_drop,List.getElem?_take];rw[AJ om];congr 2;omega
  rw[e];exact jj _ om
 have h1:wt (df c Fx) 50+8<=wt (df c Fx) 58:=ji (f:=df c Fx) (a:=50) 8 hc;have h2:wt (df c Fx) 58<=wt (df c Fx) 64:=Y8 (f:=df c Fx) (a:=58) 6;show 8<=wt (df c Fx) 64;omega
theorem Y9{x:List Nat}{r:List Nat × Nat}(h:IsDec x (some r))(hx:ds x Fx<=4)(hm:r.1.drop 50=mk):False:=by
 rcases h with ⟨h,-⟩ | ⟨c,hc,he,hd⟩
 ·cases h
 ·have e:=AR he;subst e;have h1:=dS hm;have h2:=OO c x Fx;rw[LD c x] at h2;omega
end
end Go.Proofs.YtbhbilcieodbhaaGreat
namespace Go.Proofs.YtbhbilcieodbhaaGreat
open List
open Go.Proofs.Tryz
def le:List Nat->Nat
 | []=>0
 | x :: r=>x+256*le r
def byteAt (v i:Nat):Nat:=v / 256 ^ i % 256
def bts (v n:Nat):List Nat:=(List.range n).map (byteAt v)
theorem BE(v n:Nat):(bts v n).length=n:=by simp[bts]
theorem Rh(v i:Nat):byteAt v i<256:=Nat.mod_lt _ dc
theorem CB(v n:Nat):Bys (bts v n):=by
 intro x hx;simp only[bts,mem_map,mem_range] at hx;obtain⟨k,_,rfl⟩:=hx;exact Rh v k
theorem GT(v n i:Nat)(h:i<n):(bts v n).getD i 0=byteAt v i:=by
 simp[bts,AQ,h]
theorem US(v n:Nat):bts v (n+1)=v % 256 :: bts (v / 256) n:=by
 simp only[bts,range_succ_eq_map,map_cons,map_map];congr 1
 ·simp[byteAt]
 ·apply map_congr_left;intro i _;simp only[Function.comp,byteAt,Nat.succ_eq_add_one];rw[Nat.pow_succ,Nat.mul_comm,Nat.div_div_eq_div_mul]
theorem JM(n:Nat):∀v,le (bts v n)=v % 256 ^ n:=by
 induction n with
 | zero=>intro v;simp[bts,le,Nat.mod_one]
 | succ n ih=>
  intro v;rw[US,le,ih,Nat.pow_succ,Nat.mul_comm (256 ^ n),Nat.mod_mul]
theorem UT{l:List Nat}(h:Bys l):le l<256 ^ l.length:=by
 induction l with
 | nil=>simp[le]
 | cons x r ih=>
  have h1:=ih (fun n hn=>h n (mem_cons_of_mem _ hn));have h2:=h x mem_cons_self;rw[le,An,Nat.pow_succ];omega
theorem Ri(l:List Nat)(x:Nat):le (l ++ [x])=le l+256 ^ l.length*x:=by
 induction l with
 | nil=>simp[le]
 | cons y r ih=>
  rw[cons_append,le,ih,le,An,Nat.pow_succ,Nat.mul_add];have:256*(256 ^ r.length*x)=256 ^ r.length*256*x:=by rw[<-Nat.mul_assoc,Nat.mul_comm 256]
  omega
theorem LL(l:List Nat)(k:Nat)(h:k<l.length):le (l.take (k+1))=le (l.take k)+256 ^ k*l.getD k 0:=by
 rw[take_add_one,AU h,Option.toList,Ri,length_take,Nat.min_eq_left om,AQ,AU h];rfl
end Go.Proofs.YtbhbilcieodbhaaGreat
namespace Go.Proofs.YtbhbilcieodbhaaGreat
open List
open Go.Proofs.Tryz
open Go.RowKit
section
variable {l:List Nat}
theorem LM(k:Nat):2 ^ (8*k)=256 ^ k:=by rw[Nat.pow_mul]
theorem Dg(n:Nat)(h:n<18446744073709551616):IntKind.u64.wrap (n:Int)=n:=by
 simp[IntKind.wrap,IntKind.bits,IntKind.signed];omega
theorem KY(a:Nat)(ha:a<18446744073709551616):(BitVec.ofInt 64 (a:Int)).toNat=a:=by
 rw[BitVec.ofInt_natCast,BitVec.toNat_ofNat];exact Az om
theorem JN(a b:Nat)(ha:a<18446744073709551616)(hb:b<18446744073709551616):bits .or .u64 (a:Int) (b:Int)=((a ||| b:Nat):Int):=by
 have hx:a ||| b<2 ^ 64:=Nat.or_lt_two_pow om om;show IntKind.u64.wrap ((BitVec.ofInt 64 (a:Int) ||| BitVec.ofInt 64 (b:Int)).toNat:Int)=_;rw[BitVec.toNat_or,KY a ha,KY b hb];exact Dg _ om
theorem ZA(hl:Bys l)(k:Nat)(hk:k<l.length)(h8:l.length<=8) :bits .or .u64 ((le (l.take k):Nat):Int) (IntKind.u64.wrap (((l.getD k 0:Nat):Int)*2 ^ (8*k)))=((le (l.take (k+1)):Nat):Int):=by
 have h1:=UT (GM hl k);rw[length_take,Nat.min_eq_left om] at h1;have h2:=UT (GM hl (k+1));rw[length_take,Nat.min_eq_left om] at h2;have h3:256 ^ (k+1)<=256 ^ 8:=Nat.pow_le_pow_right dc om;have h4:(256:Nat) ^ 8=18446744073709551616:=dc
 rw[LL l k hk] at h2 ⊢;have h5:256 ^ k*l.getD k 0<18446744073709551616:=om
 have e1:((l.getD k 0:Nat):Int)*2 ^ (8*k)=((256 ^ k*l.getD k 0:Nat):Int):=by
  rw[<-LM];push_cast;exact Int.mul_comm _ _
 rw[e1,Dg _ h5,JN _ _ om h5,<-LM];rw[<-LM] at h1;rw[Nat.or_comm,<-Nat.two_pow_add_eq_or_of_lt h1,Nat.add_comm]
theorem ZB(w:Wd)(a:Option Addr)(cap:Nat)(l:List Nat)(hl:Bys l)(h1:1<=l.length)(h8:l.length<=8)(hr:Cu w (.slice a l.length cap) l) :Calls prog 234 #[.slice a l.length cap] w fun e w'=>e=.returned (.tuple #[.int .u64 (le l:Nat),.nilIface])/\Chg No w w':=by
 obtain⟨a',c',hv,hr⟩:=hr;simp only[Value.slice.injEq] at hv;obtain⟨rfl,-,-⟩:=hv;obtain⟨g,o,rfl,hg,hc⟩:=hr.resolve_left om;have HC:=BB hc;clear hc hr;go_enter func234,ntmps234;go_wp2_with fail
 go_loopw [4,18] (fun v t wr=>∃k:Nat,k<=l.length/\t=.int .i64 k/\v=.int .u64 (le (l.take k):Nat)/\Chg No w wr) (fun _ t _=>l.length - (intOf t).toNat)
 case atStart=>exact⟨0,Ac _,rfl,rfl,Chg.refl _ _⟩
 case round=>
  obtain⟨k,hk,rfl,rfl,hG⟩:=hrel;by_cases hlt:k<l.length
  ·have hlt':(k:Int)<(l.length:Int):=om;have hkb:(0:Int)<=(k:Int):=om;have k1:wr.cell? ⟨g,o+k,none⟩=some (.int .u8 (l.getD k 0:Nat)):=(Ag (w:=w) (a:=⟨g,o+k,none⟩) (hG.block g hg (fun e=>e))).trans (HC.out k hlt);have d1:=hl.getD k;have HV:=BB (ZA hl k hlt h8);generalize l.getD k 0=xx at *
   go_wp2;exact⟨⟨k+1,om,by go_num,by rw[HV.out],hG⟩,by simp[intOf];omega⟩
  ·have hlt':¬ (k:Int)<(l.length:Int):=om;have HK:Hid (l.take k=l):=BB (As om);go_wp2;go_ret2;exact⟨by rw[HK.out];rfl,hG⟩
theorem Cu.at_{w:Wd}{a:Option Addr}{n cap:Nat}(h:Cu w (.slice a n cap) l)(h0:l.length≠0):∃g o,a=some ⟨g,o,none⟩/\g<w.heap.size/\∀i,i<l.length->w.cell? ⟨g,o+i,none⟩=some (.int .u8 (l.getD i 0:Nat)):=by
 obtain⟨a',c',hv,h⟩:=h;simp only[Value.slice.injEq] at hv;obtain⟨rfl,-,-⟩:=hv;exact h.resolve_left h0
end
theorem dT(w:Wd):(zeroValue 302).run prog w=.ok (.agg (bcells (List.replicate 8 0))) w:=kr
def bto (v k:Nat):List Nat:=(List.range 8).map fun i=>if i<k then byteAt v i else 0
theorem JO(v k:Nat):(bto v k).length=8:=by simp[bto]
theorem UU(v:Nat):bto v 0=List.replicate 8 0:=by simp[bto];rfl
theorem ZC(v:Nat):bto v 8=bts v 8:=by
 apply map_congr_left;intro i hi;rw[AJ (mem_range.1 hi)]
theorem ZD(v k:Nat)(_hk:k<8):(bto v k).set k (byteAt v k)=bto v (k+1):=by
 apply ext_getElem?;intro j;by_cases h:k=j
 ·subst h;rw[List.getElem?_set_self (by rw[JO];exact _hk)];simp[bto,_hk]
 ·rw[List.getElem?_set_ne h];by_cases h5:j<8
  ·simp only[bto,List.getElem?_map,List.getElem?_range h5,Option.map_some];congr 1;by_cases h6:j<k
   ·rw[AJ h6,AJ om]
   ·rw[AI h6,AI om]
  ·rw[Ae (by simp[bto];omega),Ae (by simp[bto];omega)]
theorem LN(v k:Nat):((v:Int) / 2 ^ (8*k))=((v / 256 ^ k:Nat):Int):=by rw[<-LM];push_cast;rfl
theorem UV(v k:Nat):((v:Int) / 2 ^ (8*k)) % 256=((byteAt v k:Nat):Int):=by rw[LN];unfold byteAt;push_cast;rfl
theorem Me(w:Wd)(v n:Nat)(_hv:v<18446744073709551616)(h1:1<=n)(h8:n<=8)(hr:v<256 ^ n) :Calls prog 192 #[.int .u64 (v:Int),.int .i64 (n:Int)] w fun e w'=>∃g,e=.returned (.tuple #[.slice (some ⟨g,0,none⟩) n n,.nilIface])/\w.heap.size<=g/\Arr w' g 5 (bts v 8)/\Chg No w w':=by
 have hz:=dT;have h1':¬ (n:Int)<1:=om
 have h8':¬ (8:Int)<(n:Int):=om
 have hsh:(0:Int)<=8*(n:Int):=om
 have hb:((v:Int) / 2 ^ (8*n) != 0)=false:=by rw[LN,Nat.div_eq_of_lt hr];rfl
 clear hr;go_enter func192,ntmps192;go_wp2_with fail;clear hb hsh
 go_loopw [21] (fun t wr=>∃k:Nat,k<=8/\t=.int .i64 k/\Arr wr w.heap.size 302 (bto v k)/\Chg No w wr) (fun t _=>8 - (intOf t).toNat)
 case atStart=>exact⟨0,Ac _,rfl,by rw[UU];exact Arr.new _ _ _,(Chg.refl _ _).alloc _⟩
 case round=>
  obtain⟨k,hk,rfl,hA,hG⟩:=hrel;by_cases hlt:k<8
  ·have hlt':(k:Int)<8:=om;have hkb:(0:Int)<=(k:Int):=om;have hsh:(0:Int)<=8*(k:Int):=om;have hx:=hA.cell k (by rw[JO];exact hlt);have hf:=hA.frozen k;have hA2:Arr (wr.setCell ⟨w.heap.size,k,none⟩ (.int .u8 ((v:Int) / 2 ^ (8*k) % 256))) w.heap.size 302 (bto v (k+1)):=by
    rw[<-ZD v k hlt,UV];exact hA.store k _
   have HA2:=BB hA2;clear hA2 hA;generalize (bto v k).getD k 0=old at hx;go_wp2;exact⟨⟨k+1,om,by go_num,HA2.out,hG.setCell (AL (AM _)) _ _⟩,by simp[intOf];omega⟩
  ·have hlt':¬ (k:Int)<8:=om;have e:k=8:=om;subst e;rw[ZC] at hA;go_wp2_with fail;refine(QX wr w.heap.size 0 8 n (bts v 8) (by rw[BE];omega) (by rw[BE];exact h8) hA.lt (fun i hi=>by rw[AW];exact hA.cell i hi)).mono ?_;rintro e w' ⟨g,rfl,hg,hA',hG'⟩;have hs:=hG.size;go_wp2;go_ret2;exact⟨g,rfl,om,hA',hG.trans hG'⟩
section
variable {w:Wd}{g:Nat}{t:TypeId}{l:List Nat}
theorem EX(w:Wd):(binOp .neq 33 (.iface 56 (.int .i64 1)) .nilIface).run prog w=.ok (.bool true) w:=kr
theorem Cs(w:Wd):(binOp .neq 33 .nilIface .nilIface).run prog w=.ok (.bool false) w:=kr
theorem Arr.heldAll(h:Arr w g t l)(n cap:Nat)(hn:n<=l.length):Cu w (.slice (some ⟨g,0,none⟩) n cap) (l.take n):=
 h.held 0 n cap (l.take n) (by rw[length_take];omega) (by rw[length_take];omega) (fun i hi=>by
  rw[length_take] at hi
  rw[AW,AQ,AQ,List.getElem?_take_of_lt om])
theorem Arr.heldFull(h:Arr w g t l)(n cap:Nat)(hn:n=l.length):Cu w (.slice (some ⟨g,0,none⟩) n cap) l:=by
 have:=h.heldAll n cap om
 rwa [As om] at this
end
end Go.Proofs.YtbhbilcieodbhaaGreat
