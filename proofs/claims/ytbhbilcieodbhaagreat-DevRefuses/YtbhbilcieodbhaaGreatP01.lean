/-
  Bytes that are copied into an array in memory; results of which the first lies in memory. Condition: the bytes can be read, the array has room. The codeword near a word, as an array, and its distance. Condition: the block holds a Codec that New gave; the word's bytes can be read. (*Codec).Syndromes and (*Codec).Decode. Condition: the block holds a Codec that New gave; the bytes can be read. What a message, moved up, leaves when it is divided by the generator: with it behind the message the word is a codeword. No condition: plain mathematics. (*Codec).remainder and (*Codec).Encode. Condition: the block holds a Codec that New gave; the message's bytes can be read. (*Codec).Encode. Condition: the block holds a Codec that New gave; the message's bytes can be read. rs.New: a Codec. No condition.
-/
import Derived.Test.YtbhbilcieodbhaaGreatP00
import Derived.Laws.CopyOwn
import Derived.Deep.RegionLaw
import Derived.Deep.RegionWith
import Derived.RangeFuncNested
import Derived.RangeFuncBound
import Derived.RangeFuncCalls
import Derived.RangeFuncLeaves
import Derived.Shelf.Abstract
import Derived.Shelf.RegionOpen
import Derived.WalkKit
import Derived.OwnWalkIn
import Derived.TacticsInMore
import Derived.LoopNIn
import Derived.LoopIn
import Derived.Laws.BytesArg
import Derived.Lib.BufferWrite
import Derived.Lib.SlBytesConst
import Derived.Lib.AppendZeros
import Derived.Maps.OwnIn
namespace Go.Proofs.YtbhbilcieodbhaaGreat
open Go.RowKit
set_option maxRecDepth 100000
def lay (cur:List Nat) (off:Nat) (src:List Nat):List Nat:=cur.take off ++ (src ++ cur.drop (off+src.length))
theorem lay_length {cur:List Nat} {off:Nat} {src:List Nat} (h:off+src.length<=cur.length):(lay cur off src).length=cur.length:=by simp[lay];omega
theorem lay_row (cur:List Nat) (off:Nat) (src:List Nat) :
 ((bcells cur).toList.take off ++ ((src.map fun (n:Nat)=>Value.int .u8 (n:Int)) ++ (bcells cur).toList.drop (off+(src.map fun (n:Nat)=>Value.int .u8 (n:Int)).length))).toArray=bcells (lay cur off src):=by
 simp[bcells,lay,List.map_take,List.map_drop]
theorem src_cells {w:World} {c o:Nat} {src:List Nat} (h:∀ j,j<src.length->w.cell? ⟨c,o+j,none⟩=some (.int .u8 (src.getD j 0:Nat))) :
 ∀ j v,(src.map fun (n:Nat)=>Value.int .u8 (n:Int))[j]?=some v->w.cell? ((⟨c,o,none⟩:Addr).add j)=some v:=by
 intro j v hv
 have hadd:(⟨c,o,none⟩:Addr).add j=⟨c,o+j,none⟩:=by unfold Addr.add;split <;> simp_all
 rw[hadd]
 by_cases hj:j<src.length
 ·
  rw[h j hj,<-hv]
  simp[List.getD_eq_getElem?_getD,List.getElem?_eq_getElem hj]
 ·
  rw[List.getElem?_eq_none (by simp;omega)] at hv;cases hv
theorem one_cells (src:List Nat):∀ v ∈ src.map (fun (n:Nat)=>Value.int .u8 (n:Int)),v.oneCell'=true:=by
 intro v hv
 obtain⟨n,_,rfl⟩:=List.mem_map.1 hv
 rfl
theorem size5:(Tryz.prog.info? 5).map (·.size)=some 1:=by kernel_rfl
theorem wpList_copy_arr {w:World} {ops:Array Oper} {rest:List Oper} {o:Oper} {a:Act} {Q:Exit->Act->World->Prop} (hgd:o.guard=none) (d s:Operand)
 (ho:o.op=.call { callee:=.builtin .copy,args:=#[d,s],argTypes:=#[35,35] }) (g off dLen dCap c oo sLen sCap:Nat) (hd:a.eval d=.slice (some ⟨g,off,none⟩) dLen dCap) (hs:a.eval s=.slice (some ⟨c,oo,none⟩) sLen sCap)
 {t:TypeId} {cur:List Nat} (hg:Arr w g t cur) (src:List Nat) (hn:src.length=Nat.min sLen dLen) (hsrc:∀ j,j<src.length->w.cell? ⟨c,oo+j,none⟩=some (.int .u8 (src.getD j 0:Nat))) (hfit:off+src.length<=cur.length)
 (h:wpList Tryz.prog ops Q rest (a.put o.dst (goInt src.length)) (w.setRow g (bcells (lay cur off src)))):wpList Tryz.prog ops Q (o :: rest) a w:=by
 refine wpList_copy_own hgd d s 35 35 ho 5 Tryz.underlying35 size5 g off dLen dCap ⟨c,oo,none⟩ sLen sCap hd hs (bcells cur) t hg (src.map fun (n:Nat)=>Value.int .u8 (n:Int)) (by simpa using hn) (src_cells hsrc) (by simpa[bcells_size] using hfit) (one_cells src) ?_
 rw[lay_row,List.length_map]
 exact h
theorem results_arr3 {fn:Func} {p u v:Tmp} {ty:TypeId} (h:fn.results=#[.cell p ty,.tmp u,.tmp v]) (tmps:Array Value) {w:World} {g:Nat} {t:TypeId} {l:List Nat} (hg:Arr w g t l) (hp:tmps.getD p undef=.pointer (some ⟨g,0,none⟩)) {m:Nat} {el:TypeId}
 (hu:Tryz.prog.underlying ty=some (.array m el)) {n:Nat} (hi:(Tryz.prog.info? ty).map (·.size)=some n) (hn:l.length=n) :
 (results fn tmps).run Tryz.prog w=.ok (.tuple #[.agg (bcells l),tmps.getD u undef,tmps.getD v undef]) w:=by
 have hp':tmps[p]?.getD undef=.pointer (some ⟨g,0,none⟩):=by simpa using hp
 have hl:=run_loadVar_row (P:=Tryz.prog) w g t ty (bcells l) _ _ hg hu rfl (by rw[bcells_size,hn];exact hi)
 simp[results,h,hp',asAddr,hl]
def z64:List Nat:=List.replicate 64 0
theorem z64_length:z64.length=64:=by simp[z64]
theorem zero55' (w:World):(zeroValue 275).run Tryz.prog w=.ok (.agg (bcells z64)) w:=zero55 w
theorem lay_all (cur src:List Nat) (h:cur.length=src.length):lay cur 0 src=src:=by
 simp[lay,h]
end Go.Proofs.YtbhbilcieodbhaaGreat
namespace Go.Proofs.YtbhbilcieodbhaaGreat
open Go.RowKit
set_option maxRecDepth 100000
structure One (g:Nat) (w w':World):Prop where
 os:w'.os=w.os
 tape:w'.tape=w.tape
 output:w'.output=w.output
 size:w'.heap.size=w.heap.size
 block:∀ k,k≠g->w'.heap[k]?=w.heap[k]?
theorem One.row (w:World) (g:Nat) (c:Array Value):One g w (w.setRow g c):=⟨rfl,rfl,rfl,by simp,fun k hk=>setRow_other _ _ _ _ hk⟩
theorem One.arr {g k:Nat} {w w':World} {t:TypeId} {l:List Nat} (h:One g w w') (hk:k≠g) (ha:Arr w k t l):Arr w' k t l:=(h.block k hk).trans ha
theorem One.cod {g q b:Nat} {w w':World} (h:One g w w') (hq:q≠g) (hb:b≠g) (hc:Cod w q b):Cod w' q b:=hc.other (h.block b hb) (h.block q hq)
theorem One.but {g b:Nat} {u w w':World} (h:One g w w') (hg:u.heap.size<=g) (hB:But b u w):But b u w':=
 ⟨h.os.trans hB.os,h.tape.trans hB.tape,h.output.trans hB.output,by rw[h.size];exact hB.size,fun k hk hb=>(h.block k (by omega)).trans (hB.block k hk hb)⟩
theorem wpList_store_one {ops:Array Oper} {rest:List Oper} {o:Oper} {a:Act} {w:World} {Q:Exit->Act->World->Prop} (hgd:o.guard=none) (ty:TypeId) (x y:Operand) (ho:o.op=.store ty x y)
 (g:Nat) (l':List Nat) (hx:a.eval x=.pointer (some ⟨g,0,none⟩)) (hy:a.eval y=.agg (bcells l')) {t:TypeId} {l:List Nat} (hg:Arr w g t l) {n:Nat} (hi:(Tryz.prog.info? ty).map (·.size)=some n) (hn:l.length=n) (hn':l'.length=n)
 (h:∀ w',Arr w' g t l'->One g w w'->wpList Tryz.prog ops Q rest (a.put o.dst undef) w'):wpList Tryz.prog ops Q (o :: rest) a w:=
 wpList_store_arr hgd ty x y ho g l' hx hy hg hi hn hn' (h _ (hg.row l') (One.row w g _))
def Nr (l M:List Nat) (d:Nat) (t:Bool):Prop:=M.length=64/\Bys M/\d<=2/\((t=true/\IsDec l (some (M.take 58,d)))\/(t=false/\IsDec l none))
set_option maxHeartbeats 4000000 in
theorem nearest_any (q b:Nat) (w:World) (h:Cod w q b) (c o cap:Nat) (l:List Nat) (hl:l.length=64) (hb:Bys l) (hcb:c≠b) (hcs:c<w.heap.size)
 (hcell:∀ i,i<l.length->w.cell? ⟨c,o+i,none⟩=some (.int .u8 (l.getD i 0:Nat))) :
 Calls Tryz.prog 229 #[.pointer (some ⟨q,0,none⟩),.slice (some ⟨c,o,none⟩) 64 cap] w fun e w'=>∃ (M:List Nat) (d:Nat) (t:Bool),e=.returned (.tuple #[.agg (bcells M),.int .i64 d,.bool t])/\Nr l M d t/\Cod w' q b/\But b w w':=by
 have hz:=zero55'
 have hz2:=zero63
 have hne:=h.ne
 have hq:=h.lt
 have hbb:=h.1.lt
 have HC:=hyd hcell
 clear hcell
 have A0:Arr (w.alloc (.cells (bcells z64) 275)) w.heap.size 275 z64:=Arr.new _ _ _
 have A1:Arr ((w.alloc (.cells (bcells z64) 275)).alloc (.cells (bcells z64) 275)) (w.heap.size+1) 275 z64:=by
  have:=Arr.new (w.alloc (.cells (bcells z64) 275)) 275 z64
  simpa using this
 have B1:But b w ((w.alloc (.cells (bcells z64) 275)).alloc (.cells (bcells z64) 275)):=((But.refl _ _).alloc _).alloc _
 have HB1:=hyd B1
 have C1:=(h.alloc (.cells (bcells z64) 275)).alloc (.cells (bcells z64) 275)
 have src:∀ j,j<l.length->((w.alloc (.cells (bcells z64) 275)).alloc (.cells (bcells z64) 275)).cell? ⟨c,o+j,none⟩=some (.int .u8 (l.getD j 0:Nat)):=fun j hj=>(B1.cell hcs hcb _).trans (HC.out j hj)
 have HS:=hyd src
 clear src B1
 go_enter Tryz.func229,Tryz.ntmps229
 go_wp2_with (first | (refine wpList_copy_arr rfl (.tmp 16) (.tmp 17) rfl (w.heap.size+1) 0 64 64 c o 64 cap rfl rfl A1 l (by rw[hl];rfl) HS.out (by rw[hl,z64_length];omega) ?_))
 have A0':Arr (((w.alloc (.cells (bcells z64) 275)).alloc (.cells (bcells z64) 275)).setRow (w.heap.size+1) (bcells (lay z64 0 l))) w.heap.size 275 z64:=(A0.alloc _).rowOther (by omega) _
 have A1':Arr (((w.alloc (.cells (bcells z64) 275)).alloc (.cells (bcells z64) 275)).setRow (w.heap.size+1) (bcells (lay z64 0 l))) (w.heap.size+1) 275 l:=by
  have:=A1.row (lay z64 0 l)
  rwa [lay_all z64 l (by rw[z64_length,hl])] at this ⊢
 have C1':Cod (((w.alloc (.cells (bcells z64) 275)).alloc (.cells (bcells z64) 275)).setRow (w.heap.size+1) (bcells (lay z64 0 l))) q b:=C1.setRow (by omega) (by omega) _
 have B1':But b w (((w.alloc (.cells (bcells z64) 275)).alloc (.cells (bcells z64) 275)).setRow (w.heap.size+1) (bcells (lay z64 0 l))):=HB1.out.setRow (by omega) _
 generalize ((w.alloc (.cells (bcells z64) 275)).alloc (.cells (bcells z64) 275)).setRow (w.heap.size+1) (bcells (lay z64 0 l))=w2 at *
 clear A0 A1 C1 HS HB1
 have hRd:Rd w2 b (some ⟨c,o,none⟩) l:=⟨hb,Or.inr ⟨c,o,rfl,hcb,Nat.lt_of_lt_of_le hcs B1'.size,fun i hi=>(B1'.cell hcs hcb _).trans (HC.out i hi)⟩⟩
 have hsl:=syL_length l 6
 have hsb:=syL_bys hb 6
 refine(syndromes_any q b w2 C1' (some ⟨c,o,none⟩) 64 cap l hl.symm (by omega) hRd).mono ?_
 rintro e w3 ⟨rfl,C3,B3⟩
 have A03:Arr w3 w.heap.size 275 z64:=A0'.but B3 (by omega)
 have A13:Arr w3 (w.heap.size+1) 275 l:=A1'.but B3 (by omega)
 have B13:But b w w3:=B1'.trans B3
 clear A0' A1' C1' B1' B3 hRd
 by_cases h0:syL l 6=[0,0,0,0,0,0]
 ·
  have heq:∀ w,(Op.equalIn 10000 338 (.agg (bcells (syL l 6))) (.agg (bcells [0,0,0,0,0,0]))).run Tryz.prog w=.ok true w:=fun w=>by
   rw[eq_arr 9998 w 338 6 Tryz.underlying338 (syL l 6) [0,0,0,0,0,0] hsl rfl,decide_eq_true h0]
  have HD:=hyd (dec_zero hl hb (syL_zeros.1 h0))
  have H0:=hyd h0
  clear h0
  go_wp2_with (first | (refine wpList_store_one rfl 338 (.tmp 8) (.tmp 21) rfl _ _ rfl rfl (Arr.new w3 338 [0,0,0,0,0,0]) size63 rfl hsl ?_;intro w4 hS4 hO4;have A04:Arr w4 w.heap.size 275 z64:=(hO4.arr (by have:=A03.lt;omega) (A03.alloc _));have A14:Arr w4 (w.heap.size+1) 275 l:=(hO4.arr (by have:=A13.lt;omega) (A13.alloc _));have C4:Cod w4 q b:=(hO4.cod (by have:=C3.lt;omega) (by have:=C3.1.lt;omega) (C3.alloc _));have B4:But b w w4:=(hO4.but B13.size (B13.alloc _));clear hO4) | (refine wpList_load_arr rfl 338 (.tmp 8) rfl _ rfl hS4 Tryz.underlying338 size63 hsl ?_) | (refine wpList_load_arr rfl 275 (.tmp 7) rfl _ rfl A14 Tryz.underlying275 size55 hl ?_) | (refine wpList_store_one rfl 275 (.tmp 4) (.tmp 25) rfl _ _ rfl rfl A04 size55 z64_length hl ?_;intro w5 hS5 hO5))
  refine bodyPost_ret (results_arr3 rfl _ hS5 rfl Tryz.underlying275 size55 hl) rfl ⟨l,0,true,rfl,⟨hl,hb,by omega,Or.inl ⟨rfl,HD.out⟩⟩,hO5.cod (by omega) (by omega) C4,hO5.but (by omega) B4⟩
 ·
  have heq:∀ w,(Op.equalIn 10000 338 (.agg (bcells (syL l 6))) (.agg (bcells [0,0,0,0,0,0]))).run Tryz.prog w=.ok false w:=fun w=>by
   rw[eq_arr 9998 w 338 6 Tryz.underlying338 (syL l 6) [0,0,0,0,0,0] hsl rfl,decide_eq_false h0]
  have H0:=hyd h0
  clear h0
  go_wp2_with (first | (refine wpList_store_one rfl 338 (.tmp 8) (.tmp 21) rfl _ _ rfl rfl (Arr.new w3 338 [0,0,0,0,0,0]) size63 rfl hsl ?_;intro w4 hS4 hO4;have A04:Arr w4 w.heap.size 275 z64:=(hO4.arr (by have:=A03.lt;omega) (A03.alloc _));have A14:Arr w4 (w.heap.size+1) 275 l:=(hO4.arr (by have:=A13.lt;omega) (A13.alloc _));have C4:Cod w4 q b:=(hO4.cod (by have:=C3.lt;omega) (by have:=C3.1.lt;omega) (C3.alloc _));have B4:But b w w4:=(hO4.but B13.size (B13.alloc _));clear hO4) | (refine wpList_load_arr rfl 338 (.tmp 8) rfl _ rfl hS4 Tryz.underlying338 size63 hsl ?_))
  have hg3:w.heap.size+1<w3.heap.size:=A13.lt
  have hbg3:b<w3.heap.size:=C3.1.lt
  clear A03 A13 B13 C3
  generalize w3.heap.size=g3 at *
  refine(one_any q b _ C4 (syL l 6) hsl hsb).mono ?_
  rintro e w5 ⟨h1,C5,B5⟩
  have A05:Arr w5 w.heap.size 275 z64:=A04.but B5 (by omega)
  have A15:Arr w5 (w.heap.size+1) 275 l:=A14.but B5 (by omega)
  have S5:Arr w5 g3 338 (syL l 6):=hS4.but B5 (by omega)
  have B15:But b w w5:=B4.trans B5
  clear A04 A14 hS4 B4 B5 C4
  rcases h1 with ⟨i,hi,rfl,hOn⟩ | ⟨rfl,hNo⟩
  ·
   have HD:=hyd (near_one hl hb H0.out hi hOn)
   clear hOn
   have c1:=A15.cell i (by omega)
   have c2:=S5.cell 0 (by omega)
   have d1:=hb.getD i
   have d2:=hsb.getD 0
   have hkb6:(0:Int)<=(i:Int):=by omega
   have hkb7:(i:Int)<64:=by omega
   have f1:=A15.frozen i
   have HA:Hid (addAt l i ((syL l 6).getD 0 0)=l.set i (l.getD i 0 ^^^ (syL l 6).getD 0 0)):=rfl
   have hml:(addAt l i ((syL l 6).getD 0 0)).length=64:=by rw[addAt_length];exact hl
   have hmb:Bys (addAt l i ((syL l 6).getD 0 0)):=addAt_bys hb i _ d2
   generalize hM:addAt l i ((syL l 6).getD 0 0)=M at *
   have HM:=hyd hM
   clear hM
   generalize l.getD i 0=x at *
   generalize (syL l 6).getD 0 0=y at *
   have e1:=u8_xor_nat x y d1 d2
   go_wp2_with fail
   go_region
   have A16:Arr ((w5.setCell ⟨w.heap.size+1,i,none⟩ (.int .u8 ((x ^^^ y:Nat):Int))).drew) (w.heap.size+1) 275 M:=by
    rw[HA.out];exact(A15.store i _).drew
   have A06:Arr ((w5.setCell ⟨w.heap.size+1,i,none⟩ (.int .u8 ((x ^^^ y:Nat):Int))).drew) w.heap.size 275 z64:=(A05.setOther (by omega) _ _).drew
   have C6:Cod ((w5.setCell ⟨w.heap.size+1,i,none⟩ (.int .u8 ((x ^^^ y:Nat):Int))).drew) q b:=(C5.setNew (by omega) (by omega) _ _).drew
   have B6:But b w ((w5.setCell ⟨w.heap.size+1,i,none⟩ (.int .u8 ((x ^^^ y:Nat):Int))).drew):=(B15.setNew (by omega) _ _).drew
   generalize (w5.setCell ⟨w.heap.size+1,i,none⟩ (.int .u8 ((x ^^^ y:Nat):Int))).drew=w6 at *
   clear A15 A05 C5 B15 c1 c2 f1 S5
   go_wp2_with (first | (refine wpList_load_arr rfl 275 (.tmp 7) rfl _ rfl A16 Tryz.underlying275 size55 hml ?_) | (refine wpList_store_one rfl 275 (.tmp 4) (.tmp 40) rfl _ _ rfl rfl A06 size55 z64_length hml ?_;intro w7 hS7 hO7))
   refine bodyPost_ret (results_arr3 rfl _ hS7 rfl Tryz.underlying275 size55 hml) rfl ⟨M,1,true,rfl,⟨hml,hmb,by omega,Or.inl ⟨rfl,HD.out⟩⟩,hO7.cod (by omega) (by omega) C6,hO7.but (by omega) B6⟩
  ·
   have HNo:=hyd hNo
   clear hNo
   go_wp2_with (refine wpList_load_arr rfl 338 (.tmp 8) rfl _ rfl S5 Tryz.underlying338 size63 hsl ?_)
   refine(two_any q b _ C5 (syL l 6) hsl hsb).mono ?_
   rintro e w6 ⟨h2,C6,B6⟩
   have A06:Arr w6 w.heap.size 275 z64:=A05.but B6 (by omega)
   have A16:Arr w6 (w.heap.size+1) 275 l:=A15.but B6 (by omega)
   have S6:Arr w6 g3 338 (syL l 6):=S5.but B6 (by omega)
   have B16:But b w w6:=B15.trans B6
   clear A05 A15 S5 B15 B6 C5
   rcases h2 with ⟨i,j,hi,hj,rfl,hFo⟩ | ⟨rfl,hNf⟩
   ·
    have HD:=hyd (near_two hl hb HNo.out hi hj hFo)
    clear hFo
    go_wp2_with (refine wpList_load_arr rfl 338 (.tmp 8) rfl _ rfl S6 Tryz.underlying338 size63 hsl ?_)
    refine(turned_any q b _ C6 (syL l 6) hsl hsb i j hi (by omega) (by omega)).mono ?_
    rintro e w7 ⟨rfl,C7,B7⟩
    have A07:Arr w7 w.heap.size 275 z64:=A06.but B7 (by omega)
    have A17:Arr w7 (w.heap.size+1) 275 l:=A16.but B7 (by omega)
    have B17:But b w w7:=B16.trans B7
    clear A06 A16 S6 B16 B7 C6
    have hya:(syL l 6).getD 0 0 ^^^ atJ (syL l 6) i j<256:=xor_lt _ _ (hsb.getD 0) (gm_lt _ _)
    have hyb:atJ (syL l 6) i j<256:=gm_lt _ _
    generalize (syL l 6).getD 0 0 ^^^ atJ (syL l 6) i j=ya at *
    generalize atJ (syL l 6) i j=yb at *
    have hm1:(addAt l i ya).length=64:=by rw[addAt_length];exact hl
    have hmb1:Bys (addAt l i ya):=addAt_bys hb i _ hya
    have hm2:(addAt (addAt l i ya) j yb).length=64:=by rw[addAt_length];exact hm1
    have hmb2:Bys (addAt (addAt l i ya) j yb):=addAt_bys hmb1 j _ hyb
    have c1:=A17.cell i (by omega)
    have f1:=A17.frozen i
    have d1:=hb.getD i
    have e1:=u8_xor_nat (l.getD i 0) ya d1 hya
    have A18:Arr (w7.setCell ⟨w.heap.size+1,i,none⟩ (.int .u8 ((l.getD i 0 ^^^ ya:Nat):Int))) (w.heap.size+1) 275 (addAt l i ya):=A17.store i _
    have c2:=A18.cell j (by omega)
    have f2:=A18.frozen j
    have d2:=hmb1.getD j
    have e2:=u8_xor_nat ((addAt l i ya).getD j 0) yb d2 hyb
    have A19:Arr ((w7.setCell ⟨w.heap.size+1,i,none⟩ (.int .u8 ((l.getD i 0 ^^^ ya:Nat):Int))).setCell ⟨w.heap.size+1,j,none⟩ (.int .u8 (((addAt l i ya).getD j 0 ^^^ yb:Nat):Int))) (w.heap.size+1) 275 (addAt (addAt l i ya) j yb):=A18.store j _
    have A09:=(A07.setOther (show w.heap.size+1≠w.heap.size by omega) i (.int .u8 ((l.getD i 0 ^^^ ya:Nat):Int))).setOther (show w.heap.size+1≠w.heap.size by omega) j (.int .u8 (((addAt l i ya).getD j 0 ^^^ yb:Nat):Int))
    have C9:=(C7.setNew (show w.heap.size+1≠q by omega) (show w.heap.size+1≠b by omega) i (.int .u8 ((l.getD i 0 ^^^ ya:Nat):Int))).setNew (show w.heap.size+1≠q by omega) (show w.heap.size+1≠b by omega) j (.int .u8 (((addAt l i ya).getD j 0 ^^^ yb:Nat):Int))
    have B9:=(B17.setNew (show w.heap.size<=w.heap.size+1 by omega) i (.int .u8 ((l.getD i 0 ^^^ ya:Nat):Int))).setNew (show w.heap.size<=w.heap.size+1 by omega) j (.int .u8 (((addAt l i ya).getD j 0 ^^^ yb:Nat):Int))
    have HA19:=hyd A19
    have HA09:=hyd A09
    have HC9:=hyd C9
    have HB9:=hyd B9
    clear A19 A09 C9 B9 A18
    generalize hM:addAt (addAt l i ya) j yb=M at *
    have HM:=hyd hM
    clear hM
    generalize (addAt l i ya).getD j 0=x2 at *
    generalize l.getD i 0=x1 at *
    have hkb6:(0:Int)<=(i:Int):=by omega
    have hkb7:(i:Int)<64:=by omega
    have hkb8:(0:Int)<=(j:Int):=by omega
    have hkb9:(j:Int)<64:=by omega
    go_wp2_with (first | (refine wpList_load_arr rfl 275 (.tmp 7) rfl _ rfl HA19.out Tryz.underlying275 size55 hm2 ?_) | (refine wpList_store_one rfl 275 (.tmp 4) (.tmp 69) rfl _ _ rfl rfl HA09.out size55 z64_length hm2 ?_;intro w10 hS10 hO10))
    refine bodyPost_ret (results_arr3 rfl _ hS10 rfl Tryz.underlying275 size55 hm2) rfl ⟨M,2,true,rfl,⟨hm2,hmb2,by omega,Or.inl ⟨rfl,HD.out⟩⟩,hO10.cod (by omega) (by omega) HC9.out,hO10.but (by omega) HB9.out⟩
   ·
    have HD:=hyd (near_none hl hb H0.out HNo.out hNf)
    clear hNf
    have hbys:Bys z64:=by intro n hn;have:=List.eq_of_mem_replicate hn;omega
    go_wp2_with (refine wpList_store_one rfl 275 (.tmp 4) (.tmp 70) rfl _ _ rfl rfl A06 size55 z64_length z64_length ?_;intro w10 hS10 hO10)
    refine bodyPost_ret (results_arr3 rfl _ hS10 rfl Tryz.underlying275 size55 z64_length) rfl ⟨z64,0,false,rfl,⟨z64_length,hbys,by omega,Or.inr ⟨rfl,HD.out⟩⟩,hO10.cod (by omega) (by omega) C6,hO10.but (by omega) B16⟩
end Go.Proofs.YtbhbilcieodbhaaGreat
namespace Go.Proofs.YtbhbilcieodbhaaGreat
open Go.RowKit
set_option maxRecDepth 100000
def z58:List Nat:=List.replicate 58 0
theorem z58_length:z58.length=58:=by simp[z58]
theorem make58 (w:World):(Instr.makeSlice 35 (.int .i64 58) (.int .i64 58)).run Tryz.prog w=.ok (.slice (some ⟨w.heap.size,0,none⟩) 58 58) (w.alloc (.cells (bcells z58) 5)):=make_bytes w 58 58 rfl (by omega)
theorem make64 (w:World):(Instr.makeSlice 35 (.int .i64 64) (.int .i64 64)).run Tryz.prog w=.ok (.slice (some ⟨w.heap.size,0,none⟩) 64 64) (w.alloc (.cells (bcells z64) 5)):=make_bytes w 64 64 rfl (by omega)
def z6:List Nat:=List.replicate 6 0
theorem wpList_copy_one {w:World} {ops:Array Oper} {rest:List Oper} {o:Oper} {a:Act} {Q:Exit->Act->World->Prop} (hgd:o.guard=none) (d s:Operand)
 (ho:o.op=.call { callee:=.builtin .copy,args:=#[d,s],argTypes:=#[35,35] }) (g off dLen dCap c oo sLen sCap:Nat) (hd:a.eval d=.slice (some ⟨g,off,none⟩) dLen dCap) (hs:a.eval s=.slice (some ⟨c,oo,none⟩) sLen sCap)
 {t:TypeId} {cur:List Nat} (hg:Arr w g t cur) (src:List Nat) (hn:src.length=Nat.min sLen dLen) (hsrc:∀ j,j<src.length->w.cell? ⟨c,oo+j,none⟩=some (.int .u8 (src.getD j 0:Nat))) (hfit:off+src.length<=cur.length)
 (h:∀ w',Arr w' g t (lay cur off src)->One g w w'->wpList Tryz.prog ops Q rest (a.put o.dst (goInt src.length)) w'):wpList Tryz.prog ops Q (o :: rest) a w:=
 wpList_copy_arr hgd d s ho g off dLen dCap c oo sLen sCap hd hs hg src hn hsrc hfit (h _ (hg.row _) (One.row w g _))
theorem getD_take (l:List Nat) (n j:Nat) (h:j<n):(l.take n).getD j 0=l.getD j 0:=by
 simp[List.getD_eq_getElem?_getD,h]
def DecAns (w w':World) (l:List Nat) (e:Ending):Prop:=
 (IsDec l none/\e=.returned (.tuple #[.slice none 0 0,.int .i64 0,.iface 56 (.int .i64 5)])) \/
 (∃ (m:List Nat) (d g:Nat),IsDec l (some (m,d))/\d<=2/\m.length=58/\Bys m/\e=.returned (.tuple #[.slice (some ⟨g,0,none⟩) 58 58,.int .i64 d,.nilIface])/\w.heap.size<=g/\Arr w' g 5 m)
theorem Bys.take {l:List Nat} (h:Bys l) (n:Nat):Bys (l.take n):=fun x hx=>h x (List.mem_of_mem_take hx)
set_option maxHeartbeats 4000000 in
theorem decode_any (q b:Nat) (w:World) (h:Cod w q b) (c o cap:Nat) (l:List Nat) (hl:l.length=64) (hb:Bys l) (hcb:c≠b) (hcs:c<w.heap.size)
 (hcell:∀ i,i<l.length->w.cell? ⟨c,o+i,none⟩=some (.int .u8 (l.getD i 0:Nat))) :
 Calls Tryz.prog 200 #[.pointer (some ⟨q,0,none⟩),.slice (some ⟨c,o,none⟩) 64 cap] w fun e w'=>DecAns w w' l e/\Cod w' q b/\But b w w':=by
 have hz:=zero55'
 have hmk:=make58
 have hne:=h.ne
 have hq:=h.lt
 have hbb:=h.1.lt
 have HC:=hyd hcell
 clear hcell
 go_enter Tryz.func200,Tryz.ntmps200
 go_wp2_with fail
 refine(nearest_any q b w h c o cap l hl hb hcb hcs HC.out).mono ?_
 rintro e w3 ⟨M,d,t,rfl,⟨hMl,hMb,hd,hNr⟩,C3,B3⟩
 have HNr:=hyd hNr
 clear hNr
 have hM58:(M.take 58).length=58:=by rw[List.length_take,hMl];omega
 cases t with
 | false=>
  have HD:Hid (IsDec l none):=hyd (by
   rcases HNr.out with ⟨h1,_⟩ | ⟨_,h2⟩
   ·
    cases h1
   ·
    exact h2)
  go_wp2_with (first | (refine wpList_store_one rfl 275 (.tmp 7) (.tmp 19) rfl _ _ rfl rfl (Arr.new w3 275 z64) size55 z64_length hMl ?_;intro w4 hS4 hO4;have C4:Cod w4 q b:=(hO4.cod (by have:=C3.lt;omega) (by have:=C3.1.lt;omega) (C3.alloc _));have B4:But b w w4:=(hO4.but B3.size (B3.alloc _));clear hO4))
  go_ret3
  exact⟨Or.inl ⟨HD.out,rfl⟩,C4,B4⟩
 | true=>
  have HD:Hid (IsDec l (some (M.take 58,d))):=hyd (by
   rcases HNr.out with ⟨_,h1⟩ | ⟨h2,_⟩
   ·
    exact h1
   ·
    cases h2)
  go_wp2_with (first | (refine wpList_store_one rfl 275 (.tmp 7) (.tmp 19) rfl _ _ rfl rfl (Arr.new w3 275 z64) size55 z64_length hMl ?_;intro w4 hS4 hO4;have C4:Cod w4 q b:=(hO4.cod (by have:=C3.lt;omega) (by have:=C3.1.lt;omega) (C3.alloc _));have B4:But b w w4:=(hO4.but B3.size (B3.alloc _));have HZ4:Hid (w4.heap.size=w3.heap.size+1):=(hyd (by rw[hO4.size];simp));clear hO4) | (refine wpList_copy_one rfl (.tmp 26) (.tmp 27) rfl w4.heap.size 0 58 58 w3.heap.size 0 64 64 rfl rfl (Arr.new w4 5 z58) (M.take 58) (by rw[hM58];rfl) (fun j hj=>by rw[Nat.zero_add,getD_take _ _ _ (by omega)];exact(hS4.alloc _).cell j (by omega)) (by rw[hM58,z58_length];omega) ?_;intro w5 hS5 hO5))
  go_ret3
  have hz4:=HZ4.out
  rw[lay_all z58 (M.take 58) (by rw[z58_length,hM58])] at hS5
  exact⟨Or.inr ⟨M.take 58,d,w4.heap.size,HD.out,hd,hM58,hMb.take 58,rfl,B4.size,hS5⟩,hO5.cod (by have:=C4.lt;omega) (by have:=C4.1.lt;omega) (C4.alloc _),hO5.but B4.size (B4.alloc _)⟩
end Go.Proofs.YtbhbilcieodbhaaGreat
namespace Go.Proofs.YtbhbilcieodbhaaGreat
theorem fold_ev (x:Nat) (_hx:x<256) (b:List Nat) (hb:Bys b) (s:Nat) (hs:s<256):b.foldl (fun s c=>gm s x ^^^ c) s=gm s (xp x b.length) ^^^ ev x b:=by
 induction b generalizing s with
 | nil=>show s=gm s 1 ^^^ 0;rw[gm_one s hs,Nat.xor_zero]
 | cons c t ih=>
  have hc:c<256:=hb c (by simp)
  have ht:Bys t:=fun n hn=>hb n (by simp[hn])
  show t.foldl _ (gm s x ^^^ c)=gm s (gm (xp x t.length) x) ^^^ t.foldl _ (gm 0 x ^^^ c)
  rw[ih ht _ (xor_lt _ _ (gm_lt _ _) hc),ih ht _ (xor_lt _ _ (gm_lt _ _) hc),gm_zero_left,Nat.zero_xor,xor_gm _ _ _ (xp_lt _ _) (gm_lt _ _) hc,gm_assoc,gm_comm x,Nat.xor_assoc]
theorem ev_append (x:Nat) (hx:x<256) (a b:List Nat) (ha:Bys a) (hb:Bys b):ev x (a ++ b)=gm (ev x a) (xp x b.length) ^^^ ev x b:=by
 unfold ev
 rw[List.foldl_append]
 exact fold_ev x hx b hb _ (ev_lt x a ha)
def rem (l:List Nat):Nat->List Nat
 | 0=>[0,0,0,0,0,0]
 | i+1=>inner (l.getD i 0 ^^^ (rem l i).getD 0 0) gl 0 ((rem l i).drop 1 ++ [0]) 6
theorem rem_length (l:List Nat) (i:Nat):(rem l i).length=6:=by
 induction i with
 | zero=>rfl
 | succ i ih=>show (inner _ _ _ _ _).length=6;rw[inner_length];simp[ih]
theorem rem_base_bys {r:List Nat} (h:Bys r):Bys (r.drop 1 ++ [0]):=by
 intro n hn
 rcases List.mem_append.1 hn with hn | hn
 ·
  exact h n (List.mem_of_mem_drop hn)
 ·
  simp at hn;omega
theorem rem_bys (l:List Nat) (i:Nat):Bys (rem l i):=by
 induction i with
 | zero=>intro n hn;simp[rem] at hn;omega
 | succ i ih=>exact inner_bys _ _ _ _ (rem_base_bys ih) _
theorem gl_roots:allB 6 (fun k=>ev (ex k) gl == xp (ex k) 6)=true:=by decide +kernel
theorem gl_root (k:Nat) (h:k<6):ev (ex k) gl=xp (ex k) 6:=by simpa using allB_at gl_roots k h
theorem ev_cons (x:Nat) (hx:x<256) (c:Nat) (t:List Nat) (hc:c<256) (ht:Bys t):ev x (c :: t)=gm c (xp x t.length) ^^^ ev x t:=by
 have h:=ev_append x hx [c] t (by intro n hn;simp at hn;omega) ht
 rw[show [c] ++ t=c :: t from rfl] at h
 rw[h]
 congr 2
 show gm 0 x ^^^ c=c
 rw[gm_zero_left,Nat.zero_xor]
theorem rem_ev (l:List Nat) (hl:Bys l) (k:Nat) (hk:k<6) (i:Nat) (hi:i<=l.length):gm (ev (ex k) (l.take i)) (xp (ex k) 6)=ev (ex k) (rem l i):=by
 have hx:=ex_lt k
 induction i with
 | zero=>
  show gm 0 _=ev (ex k) [0,0,0,0,0,0]
  rw[gm_zero_left]
  exact(ev_zeros (ex k) 6).symm
 | succ i ih=>
  have ih:=ih (by omega)
  have hr:=rem_bys l i
  have hrl:=rem_length l i
  rw[ev_take _ l i (by omega)]
  show _=ev (ex k) (inner (l.getD i 0 ^^^ (rem l i).getD 0 0) gl 0 ((rem l i).drop 1 ++ [0]) 6)
  have hin:=ev_inner (ex k) hx (l.getD i 0 ^^^ (rem l i).getD 0 0) gl 0 1 ((rem l i).drop 1 ++ [0]) (rem_base_bys hr) (by omega) (by simp[hrl];rfl) 6 (Nat.le_refl _)
  have hgp:pv (ex k) gl 6=xp (ex k) 6:=by rw[<-gl_root k hk];exact(ev_pv (ex k) hx gl gl_bys).symm
  rw[hin,hgp]
  obtain⟨r0,t,hrt⟩:∃ r0 t,rem l i=r0 :: t:=by
   cases h:rem l i with
   | nil=>rw[h] at hrl;cases hrl
   | cons a t=>exact⟨a,t,rfl⟩
  rw[hrt] at ih hr hrl ⊢
  have h0:r0<256:=hr r0 (by simp)
  have ht:Bys t:=fun n hn=>hr n (by simp[hn])
  have htl:t.length=5:=by simpa using hrl
  rw[ev_cons _ hx r0 t h0 ht,htl] at ih
  show gm (gm (ev (ex k) (l.take i)) (ex k) ^^^ l.getD i 0) (xp (ex k) 6)=ev (ex k) (t ++ [0]) ^^^ gm (gm (l.getD i 0 ^^^ r0) 1) (xp (ex k) 6)
  have hd:=hl.getD i
  rw[gm_one _ (xor_lt _ _ hd h0),ev_snoc,Nat.xor_zero,xor_gm _ _ _ (xp_lt _ _) (gm_lt _ _) hd,xor_gm _ _ _ (xp_lt _ _) hd h0]
  have e1:gm (gm (ev (ex k) (l.take i)) (ex k)) (xp (ex k) 6)=gm (gm (ev (ex k) (l.take i)) (xp (ex k) 6)) (ex k):=by rw[gm_assoc,gm_comm (ex k),<-gm_assoc]
  rw[e1,ih,xor_gm _ _ _ hx (gm_lt _ _) (ev_lt _ _ ht)]
  have e2:gm (gm r0 (xp (ex k) 5)) (ex k)=gm r0 (xp (ex k) 6):=by rw[gm_assoc];rfl
  rw[e2]
  ac_rfl
def encL (l:List Nat):List Nat:=l ++ rem l 58
theorem encL_cw {l:List Nat} (hl:l.length=58) (hb:Bys l):Cw (encL l):=by
 refine⟨by simp[encL,hl,rem_length],?_,?_⟩
 ·
  intro n hn
  rcases List.mem_append.1 hn with h | h
  ·
   exact hb n h
  ·
   exact rem_bys l 58 n h
 ·
  intro k hk
  unfold encL
  rw[ev_append _ (ex_lt k) l _ hb (rem_bys l 58),rem_length]
  have:=rem_ev l hb k hk 58 (by omega)
  rw[List.take_of_length_le (by omega)] at this
  rw[this,Nat.xor_self]
theorem encL_take {l:List Nat} (hl:l.length=58):(encL l).take 58=l:=by
 unfold encL
 rw[List.take_append_of_le_length (by omega),List.take_of_length_le (by omega)]
end Go.Proofs.YtbhbilcieodbhaaGreat
namespace Go.Proofs.YtbhbilcieodbhaaGreat
open Go.RowKit
set_option maxRecDepth 100000
theorem step_copy_one {ops:Array Oper} {o:Oper} {a:Act} {w:World} {K:Act->World->Prop} {Q:Exit->Act->World->Prop} {E:Prop} (hgd:o.guard=none) (d s:Operand)
 (ho:o.op=.call { callee:=.builtin .copy,args:=#[d,s],argTypes:=#[35,35] }) (g off dLen dCap c oo sLen sCap:Nat) (hd:a.eval d=.slice (some ⟨g,off,none⟩) dLen dCap) (hs:a.eval s=.slice (some ⟨c,oo,none⟩) sLen sCap)
 {t:TypeId} {cur:List Nat} (hg:Arr w g t cur) (src:List Nat) (hn:src.length=Nat.min sLen dLen) (hsrc:∀ j,j<src.length->w.cell? ⟨c,oo+j,none⟩=some (.int .u8 (src.getD j 0:Nat))) (hfit:off+src.length<=cur.length)
 (h:∀ w',Arr w' g t (lay cur off src)->One g w w'->K (a.put o.dst (goInt src.length)) w') :
 if Region.wanted o (yielded ops a.tmps)=true then Oper.wp Tryz.prog o a w K Q else E:=by
 have hw:Region.wanted o (yielded ops a.tmps)=true:=by simp[Region.wanted,hgd]
 rw[if_pos hw]
 have hrun:=run_copy_row (P:=Tryz.prog) w 35 35 o.type 5 g off dLen dCap ⟨c,oo,none⟩ sLen sCap (bcells cur) t (src.map fun (n:Nat)=>Value.int .u8 (n:Int)) Tryz.underlying35 size5 hg (by simpa using hn) (src_cells hsrc) (by simpa[bcells_size] using hfit) (one_cells src)
 rw[List.append_assoc,lay_row,List.length_map] at hrun
 unfold Oper.wp
 simp[execOp,ho,resolve,invoke,builtin,hd,hs,hrun,Result.andThen]
 exact h _ (hg.row _) (One.row w g _)
theorem Cod.gens {w:World} {q b:Nat} (h:Cod w q b):w.cell? ⟨q,1,none⟩=some (.int .u8 63)/\w.cell? ⟨q,2,none⟩=some (.int .u8 1)/\w.cell? ⟨q,3,none⟩=some (.int .u8 218)/\w.cell? ⟨q,4,none⟩=some (.int .u8 32)/\w.cell? ⟨q,5,none⟩=some (.int .u8 227)/\w.cell? ⟨q,6,none⟩=some (.int .u8 38):=
 ⟨h.gen 0 (by omega),h.gen 1 (by omega),h.gen 2 (by omega),h.gen 3 (by omega),h.gen 4 (by omega),h.gen 5 (by omega)⟩
theorem lay_shift {r:List Nat} (h:r.length=6):(lay r 0 (r.drop 1)).set 5 0=r.drop 1 ++ [0]:=by
 obtain⟨a,b,c,d,e,f,rfl⟩:∃ a b c d e f,r=[a,b,c,d,e,f]:=by
  match r,h with
  | [a,b,c,d,e,f],_=>exact⟨a,b,c,d,e,f,rfl⟩
 rfl
theorem drop_getD (r:List Nat) (j:Nat):(r.drop 1).getD j 0=r.getD (1+j) 0:=by
 simp[List.getD_eq_getElem?_getD,Nat.add_comm]
theorem index6_0 (w:World):(Instr.index 274 (.agg #[Value.int .u8 63,.int .u8 1,.int .u8 218,.int .u8 32,.int .u8 227,.int .u8 38]) (.int .i64 0)).run Tryz.prog w=.ok (.int .u8 63) w:=by kernel_rfl
theorem index6_1 (w:World):(Instr.index 274 (.agg #[Value.int .u8 63,.int .u8 1,.int .u8 218,.int .u8 32,.int .u8 227,.int .u8 38]) (.int .i64 1)).run Tryz.prog w=.ok (.int .u8 1) w:=by kernel_rfl
theorem index6_2 (w:World):(Instr.index 274 (.agg #[Value.int .u8 63,.int .u8 1,.int .u8 218,.int .u8 32,.int .u8 227,.int .u8 38]) (.int .i64 2)).run Tryz.prog w=.ok (.int .u8 218) w:=by kernel_rfl
theorem index6_3 (w:World):(Instr.index 274 (.agg #[Value.int .u8 63,.int .u8 1,.int .u8 218,.int .u8 32,.int .u8 227,.int .u8 38]) (.int .i64 3)).run Tryz.prog w=.ok (.int .u8 32) w:=by kernel_rfl
theorem index6_4 (w:World):(Instr.index 274 (.agg #[Value.int .u8 63,.int .u8 1,.int .u8 218,.int .u8 32,.int .u8 227,.int .u8 38]) (.int .i64 4)).run Tryz.prog w=.ok (.int .u8 227) w:=by kernel_rfl
theorem index6_5 (w:World):(Instr.index 274 (.agg #[Value.int .u8 63,.int .u8 1,.int .u8 218,.int .u8 32,.int .u8 227,.int .u8 38]) (.int .i64 5)).run Tryz.prog w=.ok (.int .u8 38) w:=by kernel_rfl
theorem index6 (k:Nat) (h:k<6) (w:World):(Instr.index 274 (.agg #[Value.int .u8 63,.int .u8 1,.int .u8 218,.int .u8 32,.int .u8 227,.int .u8 38]) (.int .i64 (k:Int))).run Tryz.prog w=.ok (.int .u8 (gl.getD k 0:Nat)) w:=by
 rcases(by omega:k=0\/k=1\/k=2\/k=3\/k=4\/k=5) with e | e | e | e | e | e <;> subst e
 ·
  exact index6_0 w
 ·
  exact index6_1 w
 ·
  exact index6_2 w
 ·
  exact index6_3 w
 ·
  exact index6_4 w
 ·
  exact index6_5 w
set_option maxHeartbeats 4000000 in
theorem remainder_any (q b:Nat) (w:World) (h:Cod w q b) (c o cap:Nat) (l:List Nat) (hl:l.length=58) (hb:Bys l) (hcb:c≠b) (hcs:c<w.heap.size)
 (hcell:∀ i,i<l.length->w.cell? ⟨c,o+i,none⟩=some (.int .u8 (l.getD i 0:Nat))) :
 Calls Tryz.prog 263 #[.pointer (some ⟨q,0,none⟩),.slice (some ⟨c,o,none⟩) 58 cap] w fun e w'=>e=.returned (.agg (bcells (rem l 58)))/\Cod w' q b/\But b w w':=by
 have hz:=zero53
 have hne:=h.ne
 have hq:=h.lt
 have hbb:=h.1.lt
 have HC:=hyd hcell
 clear hcell
 go_enter Tryz.func263,Tryz.ntmps263
 go_wp2_with fail
 go_loopw [13] (fun t wr=>∃ i:Nat,i<=58/\t=.int .i64 i/\Arr wr w.heap.size 274 [0,0,0,0,0,0]/\Arr wr (w.heap.size+1) 274 (rem l i)/\Cod wr q b/\But b w wr) (fun t _=>58 - (intOf t).toNat)
 case atStart=>
  have h1:=Arr.new w 274 [0,0,0,0,0,0]
  have h2:=Arr.new (w.alloc (.cells (bcells [0,0,0,0,0,0]) 274)) 274 [0,0,0,0,0,0]
  refine⟨0,by omega,rfl,h1.alloc _,?_,(h.alloc _).alloc _,((But.refl _ _).alloc _).alloc _⟩
  have h3:Arr ((w.alloc (.cells (bcells [0,0,0,0,0,0]) 274)).alloc (.cells (bcells [0,0,0,0,0,0]) 274)) (w.heap.size+1) 274 [0,0,0,0,0,0]:=by simpa using h2
  exact h3
 case round=>
  obtain⟨i,hi,rfl,hR,hO,hC,hB⟩:=hrel
  by_cases hlt:i<58
  ·
   have c1:wr.cell? ⟨c,o+i,none⟩=some (.int .u8 (l.getD i 0:Nat)):=(hB.cell hcs hcb _).trans (HC.out i (by omega))
   have hrl:=rem_length l i
   have hrb:=rem_bys l i
   have HR:Hid (rem l (i+1)=inner (l.getD i 0 ^^^ (rem l i).getD 0 0) gl 0 ((rem l i).drop 1 ++ [0]) 6):=rfl
   have c2:=hO.cell 0 (by omega)
   have d1:=hb.getD i
   have d2:=hrb.getD 0
   have e1:=u8_xor_nat (l.getD i 0) ((rem l i).getD 0 0) d1 d2
   have hfl:=xor_lt _ _ d1 d2
   have hkb6:(0:Int)<=(i:Int):=by omega
   have hkb7:(i:Int)<58:=by omega
   generalize l.getD i 0=x at *
   generalize hr:rem l i=r at *
   have Hr:=hyd hr
   clear hr
   generalize r.getD 0 0=y at *
   generalize x ^^^ y=f at *
   go_wp2_with fail
   have hdl:(r.drop 1).length=5:=by simp[hrl]
   have HRL:=hyd hrl
   have hsrc:∀ j,j<(r.drop 1).length->wr.drew.cell? ⟨w.heap.size+1,1+j,none⟩=some (.int .u8 ((r.drop 1).getD j 0:Nat)):=fun j hj=>by
    rw[drop_getD];exact hO.drew.cell (1+j) (by omega)
   have HSRC:=hyd hsrc
   have HDL:=hyd hdl
   clear hsrc hdl hrl
   go_region_law (refine step_copy_one rfl (.tmp 21) (.tmp 22) rfl (w.heap.size+1) 0 6 6 (w.heap.size+1) 1 5 5 rfl rfl hO.drew (r.drop 1) (by rw[HDL.out];rfl) HSRC.out (by rw[HDL.out,HRL.out];omega) ?_;intro w2 hO2 hX2)
   have hR2:Arr w2 w.heap.size 274 [0,0,0,0,0,0]:=hX2.arr (by omega) hR.drew
   have hC2:Cod w2 q b:=hX2.cod (by omega) (by omega) hC.drew
   have hB2:But b w w2:=hX2.but (by omega) hB.drew
   clear hR hC hB hX2 hO c1 c2
   have hO3:Arr (w2.setCell ⟨w.heap.size+1,5,none⟩ (.int .u8 0)) (w.heap.size+1) 274 (r.drop 1 ++ [0]):=by
    rw[<-lay_shift HRL.out];exact hO2.store 5 0
   have c5:=hO2.cell 5 (by rw[lay_length (by rw[HDL.out,HRL.out];omega),HRL.out];omega)
   have f5:=hO2.frozen 5
   have hR3:Arr (w2.setCell ⟨w.heap.size+1,5,none⟩ (.int .u8 0)) w.heap.size 274 [0,0,0,0,0,0]:=hR2.setOther (by omega) _ _
   have hC3:Cod (w2.setCell ⟨w.heap.size+1,5,none⟩ (.int .u8 0)) q b:=hC2.setNew (by omega) (by omega) _ _
   have hB3:But b w (w2.setCell ⟨w.heap.size+1,5,none⟩ (.int .u8 0)):=hB2.setNew (by omega) _ _
   obtain⟨g1,g2,g3,g4,g5,g6⟩:=hC3.gens
   have HO3:=hyd hO3
   have HR3:=hyd hR3
   have HC3:=hyd hC3
   have HB3:=hyd hB3
   clear hO3 hR3 hC3 hB3 hR2 hC2 hB2 hO2
   go_wp2_with fail
   generalize w2.setCell ⟨w.heap.size+1,5,none⟩ (.int .u8 0)=w3 at *
   clear g1 g2 g3 g4 g5 g6 c5 f5 HSRC
   generalize hbs:r.drop 1 ++ [0]=bs at *
   have hbl:bs.length=6:=by rw[<-hbs];simp[HRL.out]
   have hbb2:Bys bs:=by rw[<-hbs];exact rem_base_bys (by rw[<-Hr.out];exact rem_bys l i)
   have HBL:=hyd hbl
   clear hbs hbl
   go_loopw [29] (fun t wx=>∃ k:Nat,k<=6/\t=.int .i64 k/\Arr wx w.heap.size 274 [0,0,0,0,0,0]/\Arr wx (w.heap.size+1) 274 (inner f gl 0 bs k)/\Cod wx q b/\But b w wx) (fun t _=>6 - (intOf t).toNat)
   case atStart=>exact⟨0,by omega,rfl,HR3.out,HO3.out,HC3.out,HB3.out⟩
   case round=>
    clear HR3 HO3 HC3 HB3
    obtain⟨k,hk,rfl,hR,hO,hC,hB⟩:=hrel
    by_cases hlt2:k<6
    ·
     have hIl:(inner f gl 0 bs k).length=6:=by rw[inner_length,HBL.out]
     have hIb:=inner_bys f gl 0 bs hbb2 k
     have HS:Hid (inner f gl 0 bs (k+1)=(inner f gl 0 bs k).set k ((inner f gl 0 bs k).getD k 0 ^^^ gm f (gl.getD k 0))):=hyd (by
      show addAt _ (0+k) _=_
      rw[Nat.zero_add];rfl)
     have hidx:=index6 k hlt2
     have c1:=hO.cell k (by omega)
     have f1:=hO.frozen k
     have c3:=hC.ptr
     have dg:=gl_bys.getD k
     have dI:=hIb.getD k
     have hkb6:(0:Int)<=(k:Int):=by omega
     have hkb7:(k:Int)<6:=by omega
     generalize inner f gl 0 bs k=I at *
     generalize hIk:I.getD k 0=z at *
     have HIK:=hyd hIk
     clear hIk
     generalize gl.getD k 0=g at *
     have e2:=u8_xor_nat z (gm f g) dI (gm_lt _ _)
     have HIL:=hyd hIl
     clear hIl
     have n1:q≠w.heap.size+1:=by omega
     go_wp2_with fail
     go_region_with
      (first | (go_at_call 224;refine(mul_nat b _ ?_ f g hfl dg).mono ?_;(exact hC.1.drew);rintro e w' ⟨rfl,hF',hB'⟩;have hR':Arr w' w.heap.size 274 [0,0,0,0,0,0]:=(hR.drew.but hB' (by omega));have hO':Arr w' (w.heap.size+1) 274 I:=(hO.drew.but hB' (by omega));have hC':Cod w' q b:=(hC.drew.but hF' hB');have c4:=hC'.ptr;have c1':w'.cell? ⟨w.heap.size+1,k,none⟩=some (.int .u8 (z:Nat)):=((hB'.cell hO.lt (by omega) _).trans c1);have f1':=hO'.frozen k))
     all_goals
      have hO2:Arr (w'.setCell ⟨w.heap.size+1,k,none⟩ (.int .u8 ((z ^^^ gm f g:Nat):Int))) (w.heap.size+1) 274 (inner f gl 0 bs (k+1)):=by
       rw[HS.out];exact hO'.store k _
      clear c1 f1 c3 c4 c1' f1'
      go_wp2
      exact⟨⟨k+1,by omega,by go_num,hR'.setOther (by omega) _ _,hO2,hC'.setNew (by omega) (by omega) _ _,((hB.drew.trans hB').setNew (by omega) _ _)⟩,by simp[intOf];omega⟩
    ·
     have hO5:Arr wr (w.heap.size+1) 274 (rem l (i+1)):=by
      have e:k=6:=by omega
      rw[e] at hO;rw[HR.out];exact hO
     clear hO
     go_wp2
     exact⟨⟨i+1,by omega,by go_num,hR,hO5,hC,hB⟩,by simp[intOf];omega⟩
  ·
   have hO5:Arr wr (w.heap.size+1) 274 (rem l 58):=by
    have e:i=58:=by omega
    rw[e] at hO;exact hO
   have hR2:=hR.row (rem l 58)
   have hC2:Cod (wr.setRow w.heap.size (bcells (rem l 58))) q b:=hC.setRow (by omega) (by omega) _
   have hB2:But b w (wr.setRow w.heap.size (bcells (rem l 58))):=hB.setRow (by omega) _
   clear hO
   go_wp2_with (first | (refine wpList_load_arr rfl 274 (.tmp 5) rfl _ rfl hO5 Tryz.underlying274 size53 (rem_length _ _) ?_) | (refine wpList_store_arr rfl 274 (.tmp 4) (.tmp 47) rfl _ _ rfl rfl hR size53 rfl (rem_length _ _) ?_) | go_in)
   refine bodyPost_ret (results_arr rfl _ hR2 rfl Tryz.underlying274 size53 (rem_length _ _)) rfl ⟨rfl,hC2,hB2⟩
end Go.Proofs.YtbhbilcieodbhaaGreat
namespace Go.Proofs.YtbhbilcieodbhaaGreat
open Go.RowKit
set_option maxRecDepth 100000
theorem lay_enc {l r:List Nat} (hl:l.length=58) (hr:r.length=6):lay (lay z64 0 l) 58 r=l ++ r:=by
 have h1:(lay z64 0 l).length=64:=by rw[lay_length (by rw[hl,z64_length];omega),z64_length]
 show (lay z64 0 l).take 58 ++ (r ++ (lay z64 0 l).drop (58+r.length))=l ++ r
 rw[hr,List.drop_eq_nil_of_le (by omega),List.append_nil]
 congr 1
 show ((z64.take 0) ++ (l ++ z64.drop (0+l.length))).take 58=l
 rw[List.take_zero,List.nil_append,List.take_append_of_le_length (by omega),List.take_of_length_le (by omega)]
set_option maxHeartbeats 4000000 in
theorem encode_any (q b:Nat) (w:World) (h:Cod w q b) (c o cap:Nat) (l:List Nat) (hl:l.length=58) (hb:Bys l) (hcb:c≠b) (hcs:c<w.heap.size)
 (hcell:∀ i,i<l.length->w.cell? ⟨c,o+i,none⟩=some (.int .u8 (l.getD i 0:Nat))) :
 Calls Tryz.prog 248 #[.pointer (some ⟨q,0,none⟩),.slice (some ⟨c,o,none⟩) 58 cap] w fun e w'=>∃ g,e=.returned (.tuple #[.slice (some ⟨g,0,none⟩) 64 64,.nilIface])/\w.heap.size<=g/\Arr w' g 5 (encL l)/\Cod w' q b/\But b w w':=by
 have hz:=zero53
 have hmk:=make64
 have hne:=h.ne
 have hq:=h.lt
 have hbb:=h.1.lt
 have HC:=hyd hcell
 clear hcell
 have hrl:=rem_length l 58
 go_enter Tryz.func248,Tryz.ntmps248
 go_wp2_with (first | (refine wpList_copy_one rfl (.tmp 13) (.tmp 14) rfl w.heap.size 0 64 64 c o 58 cap rfl rfl (Arr.new w 5 z64) l (by rw[hl];rfl) (fun j hj=>(((But.refl b w).alloc (.cells (bcells z64) 5)).cell hcs hcb _).trans (HC.out j hj)) (by rw[hl,z64_length];omega) ?_;intro w2 hA2 hX2;have C2:Cod w2 q b:=(hX2.cod (by omega) (by omega) (h.alloc _));have B2:But b w w2:=(hX2.but (by omega) ((But.refl b w).alloc _));clear hX2) | (go_at_call 263;refine(remainder_any q b _ C2 c o cap l hl hb hcb (Nat.lt_of_lt_of_le hcs B2.size) (fun i hi=>(B2.cell hcs hcb _).trans (HC.out i hi))).mono ?_;rintro e w3 ⟨rfl,C3,B3⟩;have A3:Arr w3 w.heap.size 5 (lay z64 0 l):=(hA2.but B3 (by omega));have B13:But b w w3:=(B2.trans B3);clear hA2 C2 B2 B3) | (refine wpList_store_one rfl 274 (.tmp 7) (.tmp 18) rfl _ _ rfl rfl (Arr.new w3 274 [0,0,0,0,0,0]) size53 rfl hrl ?_;intro w4 hS4 hO4;have A4:Arr w4 w.heap.size 5 (lay z64 0 l):=(hO4.arr (by have:=A3.lt;omega) (A3.alloc _));have C4:Cod w4 q b:=(hO4.cod (by have:=C3.lt;omega) (by have:=C3.1.lt;omega) (C3.alloc _));have B4:But b w w4:=(hO4.but B13.size (B13.alloc _));have hlt3:w.heap.size<w3.heap.size:=A3.lt;clear hO4 A3 C3 B13))
 generalize w3.heap.size=g3 at *
 have h64:(lay z64 0 l).length=64:=by rw[lay_length (by rw[hl,z64_length];omega),z64_length]
 have HL:=hyd (lay_enc hl hrl)
 have H64:=hyd h64
 clear h64
 go_region_law (refine step_copy_one rfl (.tmp 20) (.tmp 21) rfl w.heap.size 58 6 6 g3 0 6 6 rfl rfl A4.drew (rem l 58) (by rw[hrl];rfl) (fun j hj=>by rw[Nat.zero_add];exact hS4.drew.cell j hj) (by rw[hrl,H64.out];omega) ?_;intro w5 hA5 hX5)
 rw[HL.out] at hA5
 have C5:Cod w5 q b:=hX5.cod (by omega) (by omega) C4.drew
 have B5:But b w w5:=hX5.but (by omega) B4.drew
 clear hX5 A4 C4 B4 hS4
 go_wp2
 go_ret2
 exact⟨w.heap.size,rfl,by omega,hA5,C5,B5⟩
end Go.Proofs.YtbhbilcieodbhaaGreat
namespace Go.Proofs.YtbhbilcieodbhaaGreat
open Go.RowKit
set_option maxRecDepth 100000
def crow (b:Nat) (G R:List Nat):Array Value:=(Value.pointer (some ⟨b,0,none⟩) :: ((G ++ R).map fun (n:Nat)=>Value.int .u8 (n:Int))).toArray
def Crw (w:World) (q b:Nat) (G R:List Nat):Prop:=w.heap[q]?=some (.cells (crow b G R) 277)
theorem Crw.lt {w:World} {q b:Nat} {G R:List Nat} (h:Crw w q b G R):q<w.heap.size:=(Array.getElem?_eq_some_iff.1 h).1
theorem Crw.ptr {w:World} {q b:Nat} {G R:List Nat} (h:Crw w q b G R):w.cell? ⟨q,0,none⟩=some (.pointer (some ⟨b,0,none⟩)):=by
 rw[cell_of_row w q 0 _ _ _ h];simp[crow]
theorem Crw.frozen {w:World} {q b:Nat} {G R:List Nat} (h:Crw w q b G R) (i:Nat):w.frozen? ⟨q,i,none⟩=false:=frozen_of_row w q i _ _ h
theorem Crw.but {w w':World} {q b:Nat} {G R:List Nat} (h:Crw w q b G R) (hB:But b w w') (hq:q≠b):Crw w' q b G R:=(hB.block q h.lt hq).trans h
theorem Crw.alloc {w:World} {q b:Nat} {G R:List Nat} (h:Crw w q b G R) (o:Obj):Crw (w.alloc o) q b G R:=(Below.heap_alloc _ _ _ h.lt).trans h
theorem Crw.drew {w:World} {q b:Nat} {G R:List Nat} (h:Crw w q b G R):Crw w.drew q b G R:=h
theorem Crw.root {w:World} {q b:Nat} {G R:List Nat} (h:Crw w q b G R) (hG:G.length=6) (i:Nat) (hi:i<R.length):w.cell? ⟨q,7+i,none⟩=some (.int .u8 (R.getD i 0:Nat)):=by
 rw[cell_of_row w q _ _ _ _ h,show 7+i=(6+i)+1 from by omega]
 simp only[crow,List.map_append,List.getElem?_toArray,List.getElem?_cons_succ]
 rw[List.getElem?_append_right (by simp[hG]),List.length_map,hG,show 6+i - 6=i from by omega]
 simp[List.getD_eq_getElem?_getD,List.getElem?_eq_getElem hi]
theorem Crw.store {w:World} {q b:Nat} {G R:List Nat} (h:Crw w q b G R) (hG:G.length=6) (i v:Nat):Crw (w.setCell ⟨q,7+i,none⟩ (.int .u8 (v:Int))) q b G (R.set i v):=by
 have h':w.heap[q]?=some (.cells (crow b G R) 277):=h
 show (w.setCell ⟨q,7+i,none⟩ (.int .u8 (v:Int))).heap[q]?=_
 have e:(crow b G R).setIfInBounds (7+i) (.int .u8 (v:Int))=crow b G (R.set i v):=by
  apply Array.ext'
  rw[Array.toList_setIfInBounds]
  simp only[crow]
  rw[show 7+i=(6+i)+1 from by omega,List.set_cons_succ,List.map_append,List.map_append,List.set_append_right _ _ (by simp[hG]),List.length_map,hG,show 6+i - 6=i from by omega,List.map_set]
 simp[World.setCell,Array.getElem?_modify,h',e]
theorem Crw.cod {w:World} {q b:Nat} (h:Crw w q b gl rl) (hF:Fld w b):Cod w q b:=⟨hF,h⟩
theorem build57 (b:Nat) (w:World):(Instr.build 277 #[(0,.pointer (some ⟨b,0,none⟩))]).run Tryz.prog w=.ok (.agg (crow b z6 z64)) w:=by kernel_rfl
def prod:Nat->List Nat
 | 0=>[1]
 | k+1=>tm (prod k) [1,ex k]
theorem prod_length (k:Nat):(prod k).length=k+1:=by
 induction k with
 | zero=>rfl
 | succ k ih=>show (tm _ _).length=_;rw[tm_length _ _ (by omega) (by simp),ih];rfl
theorem prod_bys (k:Nat):Bys (prod k):=by
 cases k with
 | zero=>intro n hn;simp[prod] at hn;omega
 | succ k=>exact tm_bys _ _
theorem prod_six:prod 6=1 :: gl:=by decide +kernel
def rts (k:Nat):List Nat:=(List.range 64).map fun i=>if i<k then rt i else 0
theorem rts_length (k:Nat):(rts k).length=64:=by simp[rts]
theorem rts_zero:rts 0=z64:=by simp[rts];rfl
theorem rts_all:rts 64=rl:=by
 apply List.map_congr_left
 intro i hi
 rw[if_pos (List.mem_range.1 hi)]
theorem rts_set (n:Nat):(rts n).set n (rt n)=rts (n+1):=by
 apply List.ext_getElem?
 intro k
 by_cases h:n=k
 ·
  subst h
  by_cases h5:n<64
  ·
   rw[List.getElem?_set_self (by rw[rts_length];exact h5)]
   simp[rts,h5]
  ·
   rw[List.getElem?_eq_none (by simp[rts];omega),List.getElem?_eq_none (by simp[rts];omega)]
 ·
  rw[List.getElem?_set_ne h]
  by_cases h5:k<64
  ·
   simp only[rts,List.getElem?_map,List.getElem?_range h5,Option.map_some]
   congr 1
   by_cases h6:k<n
   ·
    rw[if_pos h6,if_pos (by omega)]
   ·
    rw[if_neg h6,if_neg (by omega)]
  ·
   rw[List.getElem?_eq_none (by simp[rts];omega),List.getElem?_eq_none (by simp[rts];omega)]
theorem step_copy_crw {ops:Array Oper} {o:Oper} {a:Act} {w:World} {K:Act->World->Prop} {Q:Exit->Act->World->Prop} {E:Prop} (hgd:o.guard=none) (d s:Operand)
 (ho:o.op=.call { callee:=.builtin .copy,args:=#[d,s],argTypes:=#[35,35] }) (g c oo sLen sCap:Nat) (hd:a.eval d=.slice (some ⟨g,1,none⟩) 6 6) (hs:a.eval s=.slice (some ⟨c,oo,none⟩) sLen sCap)
 {b:Nat} {G R:List Nat} (hg:Crw w g b G R) (hG:G.length=6) (src:List Nat) (h6:src.length=6) (hn:6=Nat.min sLen 6) (hsrc:∀ j,j<src.length->w.cell? ⟨c,oo+j,none⟩=some (.int .u8 (src.getD j 0:Nat)))
 (h:∀ w',Crw w' g b src R->One g w w'->K (a.put o.dst (goInt src.length)) w') :
 if Region.wanted o (yielded ops a.tmps)=true then Oper.wp Tryz.prog o a w K Q else E:=by
 have hw:Region.wanted o (yielded ops a.tmps)=true:=by simp[Region.wanted,hgd]
 rw[if_pos hw]
 have hrun:=run_copy_row (P:=Tryz.prog) w 35 35 o.type 5 g 1 6 6 ⟨c,oo,none⟩ sLen sCap (crow b G R) 277 (src.map fun (n:Nat)=>Value.int .u8 (n:Int)) Tryz.underlying35 size5 hg (by rw[List.length_map,h6];exact hn) (src_cells hsrc) (by simp[crow,hG,h6]) (one_cells src)
 have e:((crow b G R).toList.take 1 ++ (src.map fun (n:Nat)=>Value.int .u8 (n:Int)) ++ (crow b G R).toList.drop (1+(src.map fun (n:Nat)=>Value.int .u8 (n:Int)).length)).toArray=crow b src R:=by
  simp only[crow,List.length_map,h6]
  congr 1
  simp only[List.map_append,List.take_succ_cons,List.take_zero,List.cons_append,List.nil_append,show 1+6=6+1 from rfl,List.drop_succ_cons]
  rw[List.drop_append_of_le_length (by simp[hG]),List.drop_eq_nil_of_le (by simp[hG]),List.nil_append]
 rw[e,List.length_map] at hrun
 unfold Oper.wp
 simp[execOp,ho,resolve,invoke,builtin,hd,hs,hrun,Result.andThen]
 exact h _ (setRow_heap w g _ _ 277 _ hg) (One.row w g _)
theorem exZ_rt (i:Nat) (h:i<64):exZ (63 - (i:Int))=rt i:=by
 unfold exZ rt
 congr 1
 omega
set_option maxHeartbeats 4000000 in
theorem codec_new (w:World) :
 Calls Tryz.prog 164 #[] w fun e w'=>∃ q b,e=.returned (.pointer (some ⟨q,0,none⟩))/\w.heap.size<=q/\w.heap.size<=b/\Cod w' q b/\Chg (fun _=>False) w w':=by
 have hbd:=build57
 go_enter Tryz.func164,Tryz.ntmps164
 go_wp2_with (first | (go_at_call 193;refine(new_any _).mono ?_;rintro e w' ⟨rfl,rfl⟩))
 clear hbd
 go_loopw [2,9] (fun p t wr=>∃ k g:Nat,k<=6/\t=.int .i64 k/\p=.slice (some ⟨g,0,none⟩) (k+1) (k+1)/\Bat wr g (prod k)/\g≠w.heap.size/\Crw wr (w.heap.size+1) w.heap.size z6 z64/\Fld wr w.heap.size/\Chg (fun _=>False) w wr) (fun _ t _=>6 - (intOf t).toNat)
 case atStart=>
  have ez:Tryz.zeroCells277.setIfInBounds 0 (.pointer (some ⟨w.heap.size,0,none⟩))=crow w.heap.size z6 z64:=by kernel_rfl
  rw[ez]
  have c1:Crw ((w.alloc (.cells (fcells 0 0 0) 316)).alloc (.cells (crow w.heap.size z6 z64) 277)) (w.heap.size+1) w.heap.size z6 z64:=by
   have h1:=heap_alloc_new (w.alloc (.cells (fcells 0 0 0) 316)) (.cells (crow w.heap.size z6 z64) 277)
   rw[show (w.alloc (.cells (fcells 0 0 0) 316)).heap.size=w.heap.size+1 from by simp] at h1
   exact h1
  have f1:=((Fld.new w).alloc (.cells (crow w.heap.size z6 z64) 277)).alloc (.cells (bcells [1]) 5)
  have p1:=Bat.new ((w.alloc (.cells (fcells 0 0 0) 316)).alloc (.cells (crow w.heap.size z6 z64) 277)) [1]
  rw[show ((w.alloc (.cells (fcells 0 0 0) 316)).alloc (.cells (crow w.heap.size z6 z64) 277)).heap.size=w.heap.size+1+1 from by simp] at p1
  exact⟨0,w.heap.size+1+1,by omega,rfl,rfl,p1,by omega,c1.alloc _,f1,(((Chg.refl _ _).alloc _).alloc _).alloc _⟩
 case round=>
  obtain⟨k,g,hk,rfl,rfl,hP,hgb,hQ,hF,hG⟩:=hrel
  have hpl:=prod_length k
  have hpb:=prod_bys k
  have hqb:w.heap.size+1≠w.heap.size:=by omega
  by_cases hlt:k<6
  ·
   have c3:=hQ.ptr
   have hkb4:(0:Int)<=(k:Int):=by omega
   have hkb5:(k:Int)<6:=by omega
   have HE:=hyd (exZ_nat k (by omega))
   have HPr:Hid (prod (k+1)=tm (prod k) [1,ex k]):=rfl
   have HPL:=hyd hpl
   clear hpl
   have hxk:=ex_lt k
   generalize ex k=y at *
   generalize prod k=pk at *
   have hqs:=hQ.lt
   have hgs:=hP.lt
   have h2b:Bys [1,y]:=by intro n hn;simp at hn;omega
   go_wp2_with fail
   go_region_held3 (fun wx=>wx.cell? ⟨w.heap.size+1,0,none⟩=some (.pointer (some ⟨w.heap.size,0,none⟩)))
    (first | exact c3 | exact c4 | exact c5 | exact c6)
    (first | (go_at_call 195;refine(exp_any w.heap.size _ ?_ _).mono ?_;(exact hF.drew);rintro e w1 ⟨rfl,hF1,hB1⟩;rw[HE.out];have hQ1:Crw w1 (w.heap.size+1) w.heap.size z6 z64:=(hQ.drew.but hB1 hqb);have c4:=hQ1.ptr;have c5:=(hQ1.alloc (.cells (bcells [1,y]) 5)).ptr;have hP1:Bat w1 g pk:=(hP.drew.but hB1 hgb)) | (go_at_call 194;refine(times_any w.heap.size _ (hF1.alloc _) (some ⟨g,0,none⟩) (some ⟨w1.heap.size,0,none⟩) (k+1) (k+1) 2 2 pk [1,y] HPL.out.symm rfl ?_ ?_ ?_ ?_).mono ?_;(have:=HPL.out;omega);(simp);(exact(hP1.rd hpb hgb).but ((But.refl _ _).alloc _));(exact(Bat.new w1 [1,y]).rd h2b (by have:=hF1.lt;omega));rintro e w2 ⟨at_,m,rfl,hm,hor,hF2,hB2⟩;have hQ2:Crw w2 (w.heap.size+1) w.heap.size z6 z64:=((hQ1.alloc _).but hB2 hqb);have c6:=hQ2.ptr))
   all_goals
    rcases hor with ⟨h0,-⟩ | ⟨-,-,rfl,hP2⟩
    ·
     omega
    ·
     have htl:(tm pk [1,y]).length=k+2:=by rw[tm_length _ _ (by have:=HPL.out;omega) (by simp),HPL.out];rfl
     have hG2:Chg (fun _=>False) w w2:=((hG.drew.trans' hB1.chg (fun i hi e=>by omega)).alloc _).trans' hB2.chg (fun i hi e=>by omega)
     have hgs2:w1.heap.size+1≠w.heap.size:=by have:=hF1.lt;omega
     rw[<-HPr.out] at hP2
     rw[htl]
     go_wp2
     exact⟨⟨k+1,_,by omega,by go_num,rfl,hP2,by simpa using hgs2,hQ2,hF2,hG2⟩,by simp[intOf];omega⟩
  ·
   have e6:k=6:=by omega
   subst e6
   have hP6:Bat wr g (1 :: gl):=by rw[<-prod_six];exact hP
   clear hP hpl hpb hlt hk
   have hsrc:∀ j,j<gl.length->wr.drew.cell? ⟨g,1+j,none⟩=some (.int .u8 (gl.getD j 0:Nat)):=fun j hj=>by
    have h1:=hP6.drew.cell (1+j) (by simp;omega)
    rw[Nat.add_comm 1 j] at h1 ⊢
    exact h1
   have HSRC:=hyd hsrc
   have hgs:=hP6.lt
   clear hsrc hP6
   go_wp2_with fail
   simp only[Nat.reduceAdd]
   generalize Tryz.zeroCells277.setIfInBounds 0 (Value.pointer (some ⟨w.heap.size,0,none⟩))=zz
   go_region_law (refine step_copy_crw (g:=w.heap.size+1) (c:=g) (oo:=1) (sLen:=6) (sCap:=6) (src:=gl) (b:=w.heap.size) (G:=z6) (R:=z64) rfl (.tmp 29) (.tmp 31) rfl (by simp[Act.eval,Act.put]) (by simp[Act.eval,Act.put]) hQ.drew rfl rfl rfl HSRC.out ?_;intro w2 hQ2 hX2)
   have hF2:Fld w2 w.heap.size:=hF.drew.other (hX2.block _ (by omega))
   have hG2:Chg (fun _=>False) w w2:=⟨hX2.os.trans hG.os,hX2.tape.trans hG.tape,hX2.output.trans hG.output,by rw[hX2.size];exact hG.size,fun i hi hs=>(hX2.block i (by omega)).trans (hG.block i hi hs)⟩
   clear hX2 hQ hF hG HSRC
   go_wp2_with fail
   go_loopw [33] (fun t wx=>∃ i:Nat,i<=64/\t=.int .i64 i/\Crw wx (w.heap.size+1) w.heap.size gl (rts i)/\Fld wx w.heap.size/\Chg (fun _=>False) w wx) (fun t _=>64 - (intOf t).toNat)
   case atStart=>exact⟨0,by omega,rfl,by rw[rts_zero];exact hQ2,hF2,hG2⟩
   case round=>
    clear hQ2 hF2 hG2
    obtain⟨i,hi,rfl,hQ,hF,hG⟩:=hrel
    by_cases hlt:i<64
    ·
     have c3:=hQ.ptr
     have hkb4:(0:Int)<=(i:Int):=by omega
     have hkb5:(i:Int)<64:=by omega
     have HE:=hyd (exZ_rt i hlt)
     have HS:=hyd (rts_set i)
     go_wp2_with fail
     have hwr:IntKind.i64.wrap (63 - (i:Int))=63 - (i:Int):=by rw[IntKind.wrap_i64];omega
     go_region_held3 (fun wx=>wx.cell? ⟨w.heap.size+1,0,none⟩=some (.pointer (some ⟨w.heap.size,0,none⟩)))
      (first | exact c3 | exact c4 | exact c5)
      (first | (go_at_call 195;refine(exp_any w.heap.size _ ?_ (63 - (i:Int))).mono ?_;(exact hF.drew);rintro e w1 ⟨rfl,hF1,hB1⟩;rw[HE.out];have hQ1:Crw w1 (w.heap.size+1) w.heap.size gl (rts i):=(hQ.drew.but hB1 hqb);have c4:=hQ1.ptr;have r1:=hQ1.root rfl i (by rw[rts_length];omega);have f1:=hQ1.frozen (7+i);have hQ2:Crw (w1.setCell ⟨w.heap.size+1,7+i,none⟩ (.int .u8 (rt i:Nat))) (w.heap.size+1) w.heap.size gl (rts (i+1)):=(by rw[<-HS.out];exact hQ1.store rfl i (rt i));have c5:=hQ2.ptr))
     all_goals
      have hG1:Chg (fun _=>False) w w1:=hG.drew.trans' hB1.chg (fun i hi e=>by omega)
      clear c3 c4 c5 r1 f1 hwr
      go_wp2
      exact⟨⟨i+1,by omega,by go_num,hQ2,hF1.setOther (by omega) _ _,hG1.setCell (Or.inr (by omega)) _ _⟩,by simp[intOf];omega⟩
    ·
     have hQ6:Crw wr (w.heap.size+1) w.heap.size gl rl:=by
      have e:i=64:=by omega
      rw[e,rts_all] at hQ;exact hQ
     clear hQ
     go_wp2
     go_ret
     exact⟨w.heap.size+1,w.heap.size,rfl,by omega,by omega,hQ6.cod hF,hG⟩
end Go.Proofs.YtbhbilcieodbhaaGreat
/-
  The rows of the document's examples hold (patinalaw02.shown answers true). No condition. RsSyndromes, walked: whatever the bytes, Syndromes answers as the document says. Condition: the bytes came in as a slice does. The document's answer for the syndromes: patinaref02.Syndromes. Condition: the bytes can be read. The statements' own helper message, and the document's answer for the distance of two words (patinaref02.Apart). Condition: the bytes can be read. RsNear, walked: what Decode answers of any word is a codeword at the distance that it tells; what it refuses is near no codeword that is tried. Condition: the bytes came in as slices do. RsEncodes, walked: whatever the bytes, Encode answers as the document says, leaves what it was lent as it was, and what it answers is its owner's. Condition: the bytes came in as a slice does. RsDecodes, walked: whatever the bytes, Decode answers as the document says, leaves what it was lent as it was, and what it answers is its owner's. Condition: the bytes came in as a slice does. Numbers as bytes, the lowest first. No condition: lemmas on numbers and lists. wire's cut, Get and Apart, walked. Conditions: the bytes can be read. Slices of bytes that a call itself has made, also such whose room ends ahead of the block's (a slice of three indices). No condition: lemmas on worlds.
-/
namespace Go.Proofs.YtbhbilcieodbhaaGreat
open Go.RowKit
set_option maxRecDepth 100000
theorem Arr.held {w:World} {g:Nat} {t:TypeId} {l:List Nat} (h:Arr w g t l) (off n cap:Nat) (l':List Nat) (hn:n=l'.length) (ho:off+l'.length<=l.length) (he:∀ i,i<l'.length->l.getD (off+i) 0=l'.getD i 0):Held w (.slice (some ⟨g,off,none⟩) n cap) l':=by
 subst hn
 exact⟨_,cap,rfl,Or.inr ⟨g,off,rfl,h.lt,fun i hi=>by rw[h.cell _ (by omega),he i hi]⟩⟩
theorem Arr.chg {S:Nat->Prop} {w w':World} {g:Nat} {t:TypeId} {l:List Nat} (h:Arr w g t l) (hc:Chg S w w') (hg:¬ S g):Arr w' g t l:=(hc.block g h.lt hg).trans h
theorem Cod.chg {w w':World} {q b:Nat} (h:Cod w q b) (hc:Chg (fun _=>False) w w'):Cod w' q b:=h.other (hc.block b h.1.lt (fun e=>e)) (hc.block q h.lt (fun e=>e))
theorem eql_arg_nil (w:World):(binOp .eql 33 (.iface 56 (.int .i64 1)) .nilIface).run Tryz.prog w=.ok (.bool false) w:=by kernel_rfl
theorem eql_dec_nil (w:World):(binOp .eql 33 (.iface 56 (.int .i64 5)) .nilIface).run Tryz.prog w=.ok (.bool false) w:=by kernel_rfl
theorem eql_nil_nil (w:World):(binOp .eql 33 .nilIface .nilIface).run Tryz.prog w=.ok (.bool true) w:=by kernel_rfl
theorem neq_arg_nil (w:World):(binOp .neq 33 (.iface 56 (.int .i64 1)) .nilIface).run Tryz.prog w=.ok (.bool true) w:=by kernel_rfl
theorem neq_dec_nil (w:World):(binOp .neq 33 (.iface 56 (.int .i64 5)) .nilIface).run Tryz.prog w=.ok (.bool true) w:=by kernel_rfl
theorem neq_nil_nil (w:World):(binOp .neq 33 .nilIface .nilIface).run Tryz.prog w=.ok (.bool false) w:=by kernel_rfl
end Go.Proofs.YtbhbilcieodbhaaGreat
namespace Go.Proofs.YtbhbilcieodbhaaGreat
open Go.RowKit
set_option maxRecDepth 100000
end Go.Proofs.YtbhbilcieodbhaaGreat
namespace Go.Proofs.YtbhbilcieodbhaaGreat
open Go.RowKit
set_option maxRecDepth 100000
theorem Held.chgF {w w':World} {v:Value} {l:List Nat} (h:Held w v l) (hc:Chg (fun _=>False) w w'):Held w' v l:=h.chg hc (fun _ _ _ e=>e)
end Go.Proofs.YtbhbilcieodbhaaGreat
namespace Go.Proofs.YtbhbilcieodbhaaGreat
open Go.RowKit
set_option maxRecDepth 100000
end Go.Proofs.YtbhbilcieodbhaaGreat
namespace Go.Proofs.YtbhbilcieodbhaaGreat
open Go.RowKit
set_option maxRecDepth 100000
theorem Arr.at0 {w:World} {g:Nat} {t:TypeId} {l:List Nat} (h:Arr w g t l):∀ i,i<l.length->w.cell? ⟨g,0+i,none⟩=some (.int .u8 (l.getD i 0:Nat)):=fun i hi=>by
 rw[Nat.zero_add];exact h.cell i hi
end Go.Proofs.YtbhbilcieodbhaaGreat
namespace Go.Proofs.YtbhbilcieodbhaaGreat
open Go.RowKit
set_option maxRecDepth 100000
theorem held_cells {w:World} {f o n cap:Nat} {l:List Nat} (h:Held w (.slice (some ⟨f,o,none⟩) n cap) l) (h0:l.length≠0):f<w.heap.size/\∀ i,i<l.length->w.cell? ⟨f,o+i,none⟩=some (.int .u8 (l.getD i 0:Nat)):=by
 obtain⟨a',c',hv,h | ⟨g',o',ha,hg',hc⟩⟩:=h
 ·
  omega
 ·
  simp only[Value.slice.injEq] at hv
  have e:=hv.1.trans ha
  simp only[Option.some.injEq,Addr.mk.injEq] at e
  obtain⟨rfl,rfl,-⟩:=e
  exact⟨hg',hc⟩
end Go.Proofs.YtbhbilcieodbhaaGreat
namespace Go.Proofs.YtbhbilcieodbhaaGreat
open Go.RowKit
set_option maxRecDepth 100000
end Go.Proofs.YtbhbilcieodbhaaGreat
namespace Go.Proofs.YtbhbilcieodbhaaGreat
theorem bys_take {l:List Nat} (h:Bys l) (k:Nat):Bys (l.take k):=fun n hn=>h n (List.mem_of_mem_take hn)
theorem bys_drop {l:List Nat} (h:Bys l) (k:Nat):Bys (l.drop k):=fun n hn=>h n (List.mem_of_mem_drop hn)
end Go.Proofs.YtbhbilcieodbhaaGreat
namespace Go.Proofs.YtbhbilcieodbhaaGreat
open Go.RowKit
set_option maxRecDepth 100000
theorem Chg.setRow {S:Nat->Prop} {u w:World} (h:Chg S u w) {g:Nat} (hg:S g\/u.heap.size<=g) (c:Array Value):Chg S u (w.setRow g c):=
 ⟨h.os,h.tape,h.output,by simp;exact h.size,fun k hk hs=>(setRow_other _ _ _ _ (by
  rcases hg with hg | hg
  ·
   intro e;exact hs (by rw[e];exact hg)
  ·
   omega)).trans (h.block k hk hs)⟩
end Go.Proofs.YtbhbilcieodbhaaGreat
namespace Go.Proofs.YtbhbilcieodbhaaGreat
set_option maxRecDepth 100000
open Go.RowKit
def Tight (w:World) (base:Nat) (e:TypeId) (v:Value) (l:List Nat):Prop:=
 ∃ g cur fz,v=.slice (some ⟨g,0,none⟩) l.length l.length/\base<=g/\w.heap[g]?=some (.cells cur e fz)/\(∀ i,i<l.length->¬ (fz.1<=i/\i<fz.2))/\l.length<=maxLen/\l.length<=cur.size/\cur.toList.take l.length=l.map byt
def OwnT (w:World) (base:Nat) (e:TypeId) (v:Value) (l:List Nat):Prop:=Own w base e v l\/Tight w base e v l
theorem Own.t {w:World} {base:Nat} {e:TypeId} {v:Value} {l:List Nat} (h:Own w base e v l):OwnT w base e v l:=Or.inl h
theorem OwnT.lies {w:World} {base:Nat} {e:TypeId} {v:Value} {l:List Nat} (h:OwnT w base e v l) (h0:l.length≠0) :
 ∃ g cap,v=.slice (some ⟨g,0,none⟩) l.length cap/\base<=g/\g<w.heap.size/\l.length<=cap/\(∀ i,i<l.length->w.cell? ⟨g,i,none⟩=some (.int .u8 (l.getD i 0:Nat)))/\∀ i,i<l.length->w.frozen? ⟨g,i,none⟩=false:=by
 rcases h with h | ⟨g,cur,fz,hv,hg,hh,hz,hm,hs,ht⟩
 ·
  obtain⟨g,cap,h1,h2,h3,h4,h5,h6⟩:=h.lies h0
  exact⟨g,cap,h1,h2,h3,h4,h5,fun i _=>h6 i⟩
 ·
  refine⟨g,l.length,hv,hg,(Array.getElem?_eq_some_iff.1 hh).1,Nat.le_refl _,fun i hi=>?_,fun i hi=>?_⟩
  rotate_left
  ·
   have:=hz i hi
   simp only[World.frozen?,hh]
   simp only[Bool.and_eq_false_iff,decide_eq_false_iff_not]
   omega
  have e1:cur[i]?=some (byt (l.getD i 0)):=by
   have h2:(cur.toList.take l.length)[i]?=(l.map byt)[i]?:=by rw[ht]
   rw[List.getElem?_take_of_lt hi,List.getElem?_map,List.getElem?_eq_getElem hi,Array.getElem?_toList] at h2
   rw[h2,List.getD_eq_getElem?_getD,List.getElem?_eq_getElem hi];rfl
  simp only[World.cell?,hh]
  simpa[byt] using e1
theorem OwnT.form {w:World} {base:Nat} {e:TypeId} {v:Value} {l:List Nat} (h:OwnT w base e v l):(v=.slice none 0 0/\l=[])\/∃ g cap,v=.slice (some ⟨g,0,none⟩) l.length cap/\base<=g/\g<w.heap.size:=by
 rcases h with h | ⟨g,cur,fz,hv,hg,hh,_⟩
 ·
  rcases h.2 with ⟨rfl,h1⟩ | ⟨g,cap,cur,rfl,hb,hh,_⟩
  ·
   exact Or.inl ⟨rfl,List.length_eq_zero_iff.1 h1⟩
  ·
   exact Or.inr ⟨g,cap,rfl,hb,(Array.getElem?_eq_some_iff.1 hh).1⟩
 ·
  exact Or.inr ⟨g,l.length,hv,hg,(Array.getElem?_eq_some_iff.1 hh).1⟩
theorem OwnT.held {w:World} {base:Nat} {e:TypeId} {v:Value} {l:List Nat} (h:OwnT w base e v l):Held w v l:=by
 by_cases h0:l.length=0
 ·
  rcases h.form with ⟨rfl,_⟩ | ⟨g,cap,rfl,_⟩
  ·
   exact⟨none,0,by rw[h0],Or.inl h0⟩
  ·
   exact⟨_,cap,rfl,Or.inl h0⟩
 ·
  obtain⟨g,cap,rfl,hg,hs,_,hc,_⟩:=h.lies h0
  exact⟨_,cap,rfl,Or.inr ⟨g,0,rfl,hs,fun i hi=>by rw[Nat.zero_add];exact hc i hi⟩⟩
theorem OwnT.block {w:World} {base:Nat} {e:TypeId} {v:Value} {l:List Nat} (h:OwnT w base e v l) {k:Nat} (hk:v.ownBlock=some k):base<=k/\k<w.heap.size:=by
 rcases h.form with ⟨rfl,_⟩ | ⟨g,cap,rfl,hb,hh⟩
 ·
  cases hk
 ·
  have e:g=k:=Option.some.inj hk
  subst e
  exact⟨hb,hh⟩
theorem OwnT.keep {w w':World} {base:Nat} {e:TypeId} {v:Value} {l:List Nat} (h:OwnT w base e v l) (hk:∀ k,k<w.heap.size->v.ownBlock=some k->w'.heap[k]?=w.heap[k]?):OwnT w' base e v l:=by
 rcases h with h | ⟨g,cur,fz,rfl,hb,hh,r⟩
 ·
  exact Or.inl (h.keep hk)
 ·
  exact Or.inr ⟨g,cur,fz,rfl,hb,(hk g (Array.getElem?_eq_some_iff.1 hh).1 rfl).trans hh,r⟩
theorem OwnT.chg {S:Nat->Prop} {w w':World} {base:Nat} {e:TypeId} {v:Value} {l:List Nat} (h:OwnT w base e v l) (hc:Chg S w w') (hs:∀ k,k<w.heap.size->v.ownBlock=some k->¬ S k):OwnT w' base e v l:=
 h.keep (fun k hk he=>hc.block k hk (hs k hk he))
theorem OwnT.mono {w:World} {base base':Nat} {e:TypeId} {v:Value} {l:List Nat} (h:OwnT w base e v l) (hb:∀ k,v.ownBlock=some k->base'<=k):OwnT w base' e v l:=by
 rcases h with h | ⟨g,cur,fz,rfl,_,r⟩
 ·
  exact Or.inl (h.mono hb)
 ·
  exact Or.inr ⟨g,cur,fz,rfl,hb g rfl,r⟩
theorem Arr.tight {w:World} {g base:Nat} {L:List Nat} (h:Arr w g 5 L) (hb:base<=g) (n:Nat) (hn:n<=L.length) (hm:n<=maxLen):OwnT w base 5 (.slice (some ⟨g,0,none⟩) n n) (L.take n):=by
 have e:(L.take n).length=n:=by rw[List.length_take];omega
 refine Or.inr ⟨g,bcells L,(0,0),by rw[e],hb,h,fun i _ h=>by simp at h,by omega,by rw[bcells_size];omega,?_⟩
 rw[e]
 show (L.map _).take n=_
 rw[<-List.map_take];rfl
theorem Arr.own {w:World} {g base:Nat} {L:List Nat} (h:Arr w g 5 L) (hb:base<=g) (n:Nat) (hn:n=L.length) (hm:n<=maxLen):OwnT w base 5 (.slice (some ⟨g,0,none⟩) n n) L:=by
 have:=h.tight hb n (by omega) hm
 rwa [List.take_of_length_le (by omega)] at this
end Go.Proofs.YtbhbilcieodbhaaGreat
/-
  The parts of a row of bytes, told by a function that is ranged over (frame.parts). Condition: the row has four parts. A frame in memory; what ranging over parts leaves as it was; frame.New. No condition. (*Frame).Message. Condition: the block holds a Frame that New gave; the page's bytes can be read.
-/
namespace Go.Proofs.YtbhbilcieodbhaaGreat
open Go.RowKit Go.Shelf
set_option maxRecDepth 100000
attribute [local go_sem] Oper.semAt_some
abbrev Ix:={ i:Nat // i<4 }
def upto (k:Nat):List Ix:=(List.range k).filterMap fun i=>if h:i<4 then some ⟨i,h⟩ else none
theorem upto_succ (k:Nat) (h:k<4):upto (k+1)=upto k ++ [⟨k,h⟩]:=by
 simp[upto,List.range_succ,h]
theorem upto_length (k:Nat) (h:k<=4):(upto k).length=k:=by
 induction k with
 | zero=>rfl
 | succ k ih=>rw[upto_succ k (by omega),List.length_append,ih (by omega)];rfl
def encP (g o cap z:Nat) (x:Ix):Array Value:=#[.int .i64 (x.1:Int),.slice (some ⟨g,o+x.1*z,none⟩) z (cap - x.1*z)]
def Kp (B1 B2:Nat) (W W':World):Prop:=W'.heap[B1]?=W.heap[B1]?/\W'.heap[B2]?=W.heap[B2]?
theorem Kp.t {B1 B2:Nat} {A B C:World} (h:Kp B1 B2 A B) (k:Kp B1 B2 B C):Kp B1 B2 A C:=⟨k.1.trans h.1,k.2.trans h.2⟩
theorem Kp.b {B1 B2:Nat} {w:World} (h1:B1<w.heap.size) (h2:B2<w.heap.size) (W:World) (l:Nat) (_o o':Obj) (hl:w.heap.size<=l) (_:W.heap[l]?=some _o) (_:_o.isCells=false) (_:_o.isWalk=false):Kp B1 B2 W (W.putObj l o'):=
 ⟨World.putObj_heap_other (by omega),World.putObj_heap_other (by omega)⟩
set_option maxHeartbeats 1000000 in
theorem parts_any (w:World) (a:Option Addr) (n cap z:Nat) :
 Calls Tryz.prog 199 #[.slice a n cap,.int .i64 (z:Int)] w fun e w'=>e=.returned (.func (.func 228) #[] #[.pointer (some ⟨w.heap.size,0,none⟩),.pointer (some ⟨w.heap.size+1,0,none⟩)])/\w'=(w.alloc (.cells #[.slice a n cap] 35)).alloc (.cells #[.int .i64 (z:Int)] 3):=by
 go_enter Tryz.func199,Tryz.ntmps199
 go_wp2
 go_ret
 exact⟨by simp,rfl⟩
set_option maxHeartbeats 2000000 in
theorem parts64 (F:Fence) (n:Nat) (h42:F.fn 228) (hro:F.round=none) (hn:1<=n) (B1 B2 g o cap:Nat) (hcap:256<=cap) (w:World) (b1:B1<w.heap.size) (b2:B2<w.heap.size)
 (c1:w.cell? ⟨B1,0,none⟩=some (.slice (some ⟨g,o,none⟩) 256 cap)) (c2:w.cell? ⟨B2,0,none⟩=some (.int .i64 64)) :
 SeqStopsK F n Tryz.prog 228 #[.pointer (some ⟨B1,0,none⟩),.pointer (some ⟨B2,0,none⟩)] (encP g o cap 64) (Kp B1 B2) (fun ys=>ys=upto 4) (fun pre=>∃ k,k<=4/\pre=upto k) 4 w:=fun l J Jx W hW _ _ hY h0=>by
 have d1:=(hW.cell (p:=⟨B1,0,none⟩) b1).trans c1
 have d2:=(hW.cell (p:=⟨B2,0,none⟩) b2).trans c2
 refine callsIn_of_wp Tryz.func228 rfl h42 ?_ hro
 simp only[Tryz.ntmps228,List.size_toArray,List.length_cons,List.length_nil,Nat.reduceAdd,Nat.reduceSub,Array.replicate_succ,Array.replicate_zero,List.push_toArray,List.append_toArray,List.nil_append,List.cons_append]
 gi_wp2
 gi_loopw [9] (fun i wr=>∃ k:Nat,k<=4/\i=.int .i64 k/\J (upto k) wr/\Kp B1 B2 W wr) (fun i _=>4 - (intOf i).toNat)
 case atStart=>exact⟨0,Nat.zero_le _,rfl,h0,rfl,rfl⟩
 case round=>
  obtain⟨k,hk,rfl,hJs,hk1,hk2⟩:=hrel
  have e1:wr.cell? ⟨B1,0,none⟩=some (.slice (some ⟨g,o,none⟩) 256 cap):=(World.cell?_of_block (w:=W) (a:=⟨B1,0,none⟩) hk1).trans d1
  have e2:wr.cell? ⟨B2,0,none⟩=some (.int .i64 64):=(World.cell?_of_block (w:=W) (a:=⟨B2,0,none⟩) hk2).trans d2
  by_cases hlt:k<4
  ·
   obtain⟨fn,tmps,assign,body,hy,hR⟩:=hY _ ⟨k,hlt⟩ wr hJs (by rw[upto_length k hk];exact hlt)
   have hlt':(k:Int)<4:=by omega
   have hk0:(0:Int)<=(k:Int):=by omega
   dsimp only[encP] at hy
   have e64:(k+1)*64 - k*64=64:=by omega
   gi_wp2
   rw[e64]
   gi_wp2
   refine hR.mono ?_
   rintro e W3 (⟨rfl,hJ3,hk3⟩ | ⟨rfl,hJx3⟩)
   ·
    gi_wp2
    go_roundw
    case rel=>exact⟨k+1,by omega,by simp,by rw[upto_succ k hlt];exact hJ3,hk3.1.trans hk1,hk3.2.trans hk2⟩
    case measure=>simp[intOf];omega
   ·
    gi_wp2
    refine bodyPost_ret (results_none rfl _ _ _) rfl ?_
    exact⟨⟨_,rfl⟩,.inr ⟨_,⟨k+1,by omega,(upto_succ k hlt).symm⟩,hJx3⟩⟩
  ·
   obtain rfl:k=4:=by omega
   gi_wp2
   go_end0
   exact⟨⟨_,rfl⟩,.inl ⟨_,rfl,hJs⟩⟩
set_option maxHeartbeats 2000000 in
theorem parts58 (F:Fence) (n:Nat) (h42:F.fn 228) (hro:F.round=none) (hn:1<=n) (B1 B2 g o cap:Nat) (hcap:232<=cap) (w:World) (b1:B1<w.heap.size) (b2:B2<w.heap.size)
 (c1:w.cell? ⟨B1,0,none⟩=some (.slice (some ⟨g,o,none⟩) 232 cap)) (c2:w.cell? ⟨B2,0,none⟩=some (.int .i64 58)) :
 SeqStopsK F n Tryz.prog 228 #[.pointer (some ⟨B1,0,none⟩),.pointer (some ⟨B2,0,none⟩)] (encP g o cap 58) (Kp B1 B2) (fun ys=>ys=upto 4) (fun pre=>∃ k,k<=4/\pre=upto k) 4 w:=fun l J Jx W hW _ _ hY h0=>by
 have d1:=(hW.cell (p:=⟨B1,0,none⟩) b1).trans c1
 have d2:=(hW.cell (p:=⟨B2,0,none⟩) b2).trans c2
 refine callsIn_of_wp Tryz.func228 rfl h42 ?_ hro
 simp only[Tryz.ntmps228,List.size_toArray,List.length_cons,List.length_nil,Nat.reduceAdd,Nat.reduceSub,Array.replicate_succ,Array.replicate_zero,List.push_toArray,List.append_toArray,List.nil_append,List.cons_append]
 gi_wp2
 gi_loopw [9] (fun i wr=>∃ k:Nat,k<=4/\i=.int .i64 k/\J (upto k) wr/\Kp B1 B2 W wr) (fun i _=>4 - (intOf i).toNat)
 case atStart=>exact⟨0,Nat.zero_le _,rfl,h0,rfl,rfl⟩
 case round=>
  obtain⟨k,hk,rfl,hJs,hk1,hk2⟩:=hrel
  have e1:wr.cell? ⟨B1,0,none⟩=some (.slice (some ⟨g,o,none⟩) 232 cap):=(World.cell?_of_block (w:=W) (a:=⟨B1,0,none⟩) hk1).trans d1
  have e2:wr.cell? ⟨B2,0,none⟩=some (.int .i64 58):=(World.cell?_of_block (w:=W) (a:=⟨B2,0,none⟩) hk2).trans d2
  by_cases hlt:k<4
  ·
   obtain⟨fn,tmps,assign,body,hy,hR⟩:=hY _ ⟨k,hlt⟩ wr hJs (by rw[upto_length k hk];exact hlt)
   have hlt':(k:Int)<4:=by omega
   have hk0:(0:Int)<=(k:Int):=by omega
   dsimp only[encP] at hy
   have e58:(k+1)*58 - k*58=58:=by omega
   gi_wp2
   rw[e58]
   gi_wp2
   refine hR.mono ?_
   rintro e W3 (⟨rfl,hJ3,hk3⟩ | ⟨rfl,hJx3⟩)
   ·
    gi_wp2
    go_roundw
    case rel=>exact⟨k+1,by omega,by simp,by rw[upto_succ k hlt];exact hJ3,hk3.1.trans hk1,hk3.2.trans hk2⟩
    case measure=>simp[intOf];omega
   ·
    gi_wp2
    refine bodyPost_ret (results_none rfl _ _ _) rfl ?_
    exact⟨⟨_,rfl⟩,.inr ⟨_,⟨k+1,by omega,(upto_succ k hlt).symm⟩,hJx3⟩⟩
  ·
   obtain rfl:k=4:=by omega
   gi_wp2
   go_end0
   exact⟨⟨_,rfl⟩,.inl ⟨_,rfl,hJs⟩⟩
end Go.Proofs.YtbhbilcieodbhaaGreat
namespace Go.Proofs.YtbhbilcieodbhaaGreat
open Go.RowKit Go.Shelf
set_option maxRecDepth 100000
def Frm (w:World) (p q b:Nat):Prop:=Cod w q b/\Boxed w p 242 (.pointer (some ⟨q,0,none⟩))
theorem Frm.lt {w:World} {p q b:Nat} (h:Frm w p q b):p<w.heap.size:=h.2.lt
theorem fld_heap {w:World} {b:Nat} (h:Fld w b):∃ c z,w.heap[b]?=some (.cells c 316 z)/\500<c.size:=by
 rcases h with h | h <;> exact⟨_,_,h,by simp[fcells]⟩
theorem Frm.pb {w:World} {p q b:Nat} (h:Frm w p q b):p≠b:=by
 intro e
 obtain⟨c,z,hc,-⟩:=fld_heap h.1.1
 have h2:w.heap[p]?=some (.cells #[.pointer (some ⟨q,0,none⟩)] 242):=h.2
 rw[e,hc] at h2
 simp at h2
theorem Frm.other {w w':World} {p q b:Nat} (h:Frm w p q b) (hb:w'.heap[b]?=w.heap[b]?) (hq:w'.heap[q]?=w.heap[q]?) (hp:w'.heap[p]?=w.heap[p]?):Frm w' p q b:=
 ⟨h.1.other hb hq,hp.trans h.2⟩
theorem Frm.chg {w w':World} {p q b:Nat} (h:Frm w p q b) (hc:Chg (fun _=>False) w w'):Frm w' p q b:=
 ⟨h.1.chg hc,(hc.block p h.lt (fun e=>e)).trans h.2⟩
theorem Frm.but {w w':World} {p q b:Nat} (h:Frm w p q b) (hC:Cod w' q b) (hB:But b w w'):Frm w' p q b:=⟨hC,(hB.block p h.lt h.pb).trans h.2⟩
theorem buildF (q:Nat) (w:World):(Instr.build 242 #[(0,.pointer (some ⟨q,0,none⟩))]).run Tryz.prog w=.ok (.agg #[.pointer (some ⟨q,0,none⟩)]) w:=by kernel_rfl
set_option maxHeartbeats 1000000 in
theorem frame_new (w:World) :
 Calls Tryz.prog 131 #[] w fun e w'=>∃ p q b,e=.returned (.pointer (some ⟨p,0,none⟩))/\w.heap.size<=p/\w.heap.size<=q/\w.heap.size<=b/\Frm w' p q b/\Chg (fun _=>False) w w':=by
 have hbF:=buildF
 go_enter Tryz.func131,Tryz.ntmps131
 go_wp2_with fail
 refine(codec_new w).mono ?_
 rintro e w1 ⟨q,b,rfl,hq,hb,C1,G1⟩
 have hs:=G1.size
 go_wp2
 go_ret
 exact⟨w1.heap.size,q,b,rfl,by omega,hq,hb,⟨C1.alloc _,Boxed.new _ _ _⟩,G1.alloc _⟩
theorem Chg.keeps {S:Nat->Prop} {W W':World} (h:Chg S W W') (hS:∀ k,S k->∀ o,W.heap[k]?=some o->o.isCells=true) (B:Nat):KeepsFrom B W W':=
 ⟨h.size,fun k o _ h0 ho=>(h.block k (Array.getElem?_eq_some_iff.1 h0).1 (fun s=>by rw[hS k s o h0] at ho;cases ho)).trans h0⟩
theorem ownFrom_chg {β:Type} {S:Nat->Prop} {w:World}:OwnFrom w.heap.size (fun (_:β) W=>Chg S w W):=
 fun _ _ _ _ hs hg hr=>hs.grown hg (fun k e=>Or.inr (hr k e).1)
theorem notcells {W:World} {b r:Nat} {c:Array Value} {t:TypeId} {z:Nat × Nat} (h:W.heap[b]?=some (.cells c t z)) (hr:∃ o:Obj,W.heap[r]?=some o/\o.isCells=false):b≠r:=by
 rintro rfl
 obtain⟨o,h1,h2⟩:=hr
 rw[h] at h1
 cases h1
 cases h2
theorem cells_kept {X Y:World} {row:Option Nat} {b:Nat} {c:Array Value} {t:TypeId} {z:Nat × Nat} (h:X.heap[b]?=some (.cells c t z)) (hg:X.grownBy Y row) (hr:∀ r,row=some r->∃ o:Obj,X.heap[r]?=some o/\o.isCells=false):Y.heap[b]?=X.heap[b]?:=
 hg.block b (Array.getElem?_eq_some_iff.1 h).1 (fun e=>notcells h (hr b e.symm) rfl)
end Go.Proofs.YtbhbilcieodbhaaGreat
namespace Go.Proofs.YtbhbilcieodbhaaGreat
open Go.RowKit Go.Shelf
set_option maxRecDepth 100000
attribute [local go_sem] Oper.semAt_some
def part (z:Nat) (L:List Nat) (i:Nat):List Nat:=(L.drop (i*z)).take z
theorem part_length {z:Nat} {L:List Nat} (hL:L.length=4*z) (i:Nat) (hi:i<4):(part z L i).length=z:=by
 have:(i+1)*z<=4*z:=Nat.mul_le_mul_right z hi
 rw[Nat.add_mul,Nat.one_mul] at this
 simp[part];omega
theorem part_bys {z:Nat} {L:List Nat} (h:Bys L) (i:Nat):Bys (part z L i):=bys_take (bys_drop h _) _
theorem part_getD (z:Nat) (L:List Nat) (i j:Nat) (hj:j<z):(part z L i).getD j 0=L.getD (i*z+j) 0:=by
 simp[part,List.getD_eq_getElem?_getD,hj]
def Keeps (X Y:World):Prop:=∀ (g:Nat) (c:Array Value) (t:TypeId),X.heap[g]?=some (.cells c t)->Y.heap[g]?=X.heap[g]?
theorem DecAns.keep {w X Y:World} {l:List Nat} {e:Ending} (h:DecAns w X l e) (hk:Keeps X Y):DecAns w Y l e:=by
 rcases h with h | ⟨m,d,g,h1,h2,h3,h4,h5,h6,h7⟩
 ·
  exact Or.inl h
 ·
  exact Or.inr ⟨m,d,g,h1,h2,h3,h4,h5,h6,(hk g _ _ h7).trans h7⟩
theorem boxed_keep {X Y:World} {B:Nat} {t:TypeId} {v:Value} (h:Boxed X B t v) (hk:Keeps X Y):Boxed Y B t v:=(hk B _ _ h).trans h
theorem kept {X Y:World} {row:Option Nat} {B:Nat} (hg:X.grownBy Y row) (hr:∀ r,row=some r->B<=r/\∃ o:Obj,X.heap[r]?=some o/\o.isCells=false):Keeps X Y:=
 fun _ _ _ h=>cells_kept h hg (fun r e=>(hr r e).2)
theorem put_kept {X:World} {D:Nat} {o:Obj} (o':Obj) (h:X.heap[D]?=some o) (ho:o.isCells=false):Keeps X (X.putObj D o'):=
 fun g _ _ hg=>World.putObj_heap_other (fun e=>by rw[<-e,hg] at h;cases h;cases ho)
theorem Frm.keep {X Y:World} {p q b:Nat} (h:Frm X p q b) (hk:Keeps X Y):Frm Y p q b:=by
 refine h.other ?_ (hk _ _ _ h.1.2) (hk _ _ _ h.2)
 rcases h.1.1 with h1 | h1 <;> exact hk _ _ _ h1
set_option maxHeartbeats 1000000 in
theorem message_arg (p:Nat) (w:World) (a:Option Addr) (n cap:Nat) (k:Int) (hn:n≠256) :
 Calls Tryz.prog 196 #[.pointer (some ⟨p,0,none⟩),.slice a n cap,.int .i64 k] w fun e w'=>e=.returned (.tuple #[.slice none 0 0,.int .i64 0,.iface 56 (.int .i64 1)])/\Chg (fun _=>False) w w':=by
 have hn':((n:Int) != 256)=true:=by simp;omega
 refine(callsIn_wide (n:=3)).1 ?_
 refine callsIn_of_wp_marks Tryz.func196 rfl trivial ?_ rfl
 simp only[Tryz.ntmps196,List.size_toArray,List.length_cons,List.length_nil,Nat.reduceAdd,Nat.reduceSub,Array.replicate_succ,Array.replicate_zero,List.push_toArray,List.append_toArray,List.nil_append,List.cons_append]
 gi_wp2
 refine⟨.tuple #[.slice none 0 0,.int .i64 0,.iface 56 (.int .i64 1)],?_,rfl,((((((Chg.refl _ _).alloc _).alloc _).alloc _).alloc _).alloc _)⟩
 simp[results,Tryz.f196,go_sem]
theorem DecAns.chg {S:Nat->Prop} {w W X Y:World} {l:List Nat} {e:Ending} (h:DecAns W X l e) (hc:Chg S X Y) (hS:∀ k,S k->k<W.heap.size) (hw:w.heap.size<=W.heap.size):DecAns w Y l e:=by
 rcases h with h | ⟨m,d,g,h1,h2,h3,h4,h5,h6,h7⟩
 ·
  exact Or.inl h
 ·
  exact Or.inr ⟨m,d,g,h1,h2,h3,h4,h5,by omega,h7.chg hc (fun s=>by have:=hS _ s;omega)⟩
def st3 (W:World) (r1 r2 r3:Nat) (v1 v2 v3:Value):World:=((W.setCell ⟨r1,0,none⟩ v1).setCell ⟨r2,0,none⟩ v2).setCell ⟨r3,0,none⟩ v3
theorem st3_facts {W:World} {r1 r2 r3:Nat} {t1 t2 t3:TypeId} {u1 u2 u3:Value} (b1:Boxed W r1 t1 u1) (b2:Boxed W r2 t2 u2) (b3:Boxed W r3 t3 u3) (v1 v2 v3:Value) (n12:r1≠r2) (n13:r1≠r3) (n23:r2≠r3) :
 Boxed (st3 W r1 r2 r3 v1 v2 v3) r1 t1 v1/\Boxed (st3 W r1 r2 r3 v1 v2 v3) r2 t2 v2/\Boxed (st3 W r1 r2 r3 v1 v2 v3) r3 t3 v3/\Chg (fun k=>k=r1\/k=r2\/k=r3) W (st3 W r1 r2 r3 v1 v2 v3):=
 ⟨((b1.set v1).other n12 _).other n13 _,((b2.other (Ne.symm n12) _).set v2).other n23 _,(((b3.other (Ne.symm n13) _).other (Ne.symm n23) _).set v3),
  (((Chg.refl _ W).setCell (Or.inl (Or.inl rfl)) 0 v1).setCell (Or.inl (Or.inr (Or.inl rfl))) 0 v2).setCell (Or.inl (Or.inr (Or.inr rfl))) 0 v3⟩
theorem results3 {fn:Func} {p1 p2 p3:Tmp} (h:fn.results=#[.cell p1 35,.cell p2 3,.cell p3 33]) (tmps:Array Value) {w:World} {r1 r2 r3:Nat} {v1 v2 v3:Value} (hp1:tmps.getD p1 undef=.pointer (some ⟨r1,0,none⟩)) (hp2:tmps.getD p2 undef=.pointer (some ⟨r2,0,none⟩)) (hp3:tmps.getD p3 undef=.pointer (some ⟨r3,0,none⟩))
 (b1:Boxed w r1 35 v1) (b2:Boxed w r2 3 v2) (b3:Boxed w r3 33 v3) :
 (results fn tmps).run Tryz.prog w=.ok (.tuple #[v1,v2,v3]) w:=by
 have c1:=b1.cell
 have c2:=b2.cell
 have c3:=b3.cell
 have hp1':tmps[p1]?.getD undef=.pointer (some ⟨r1,0,none⟩):=by simpa using hp1
 have hp2':tmps[p2]?.getD undef=.pointer (some ⟨r2,0,none⟩):=by simpa using hp2
 have hp3':tmps[p3]?.getD undef=.pointer (some ⟨r3,0,none⟩):=by simpa using hp3
 simp[results,h,hp1',hp2',hp3',go_sem,c1,c2,c3]
theorem Boxed.new' (w:World) {n:Nat} (h:w.heap.size=n) (t:TypeId) (v:Value):Boxed (w.alloc (.cells #[v] t)) n t v:=by
 subst h
 exact Boxed.new w t v
def mw (w:World) (p:Nat) (k:Int) (pg:Value):World:=((((((w.alloc (.cells #[.pointer (some ⟨p,0,none⟩)] 212)).alloc (.cells #[.int .i64 k] 3)).alloc (.cells #[.slice none 0 0] 35)).alloc (.cells #[.int .i64 0] 3)).alloc (.cells #[.nilIface] 33)).alloc (.cells #[pg] 35)).alloc (.cells #[.int .i64 64] 3)
theorem mw_facts (w:World) (p:Nat) (k:Int) (pg:Value):Chg (fun _=>False) w (mw w p k pg)/\(mw w p k pg).heap.size=w.heap.size+7/\Boxed (mw w p k pg) w.heap.size 212 (.pointer (some ⟨p,0,none⟩))/\Boxed (mw w p k pg) (w.heap.size+1) 3 (.int .i64 k)/\Boxed (mw w p k pg) (w.heap.size+1+1) 35 (.slice none 0 0) /\
 Boxed (mw w p k pg) (w.heap.size+1+1+1) 3 (.int .i64 0)/\Boxed (mw w p k pg) (w.heap.size+1+1+1+1) 33 .nilIface/\Boxed (mw w p k pg) (w.heap.size+1+1+1+1+1) 35 pg/\Boxed (mw w p k pg) (w.heap.size+1+1+1+1+1+1) 3 (.int .i64 64):=by
 refine⟨((((((((Chg.refl _ _).alloc _).alloc _).alloc _).alloc _).alloc _).alloc _).alloc _),by simp[mw],?_,?_,?_,?_,?_,?_,?_⟩
 ·
  exact((((((Boxed.new' _ (by simp) _ _).alloc _).alloc _).alloc _).alloc _).alloc _).alloc _
 ·
  exact(((((Boxed.new' _ (by simp) _ _).alloc _).alloc _).alloc _).alloc _).alloc _
 ·
  exact((((Boxed.new' _ (by simp) _ _).alloc _).alloc _).alloc _).alloc _
 ·
  exact(((Boxed.new' _ (by simp) _ _).alloc _).alloc _).alloc _
 ·
  exact((Boxed.new' _ (by simp) _ _).alloc _).alloc _
 ·
  exact(Boxed.new' _ (by simp) _ _).alloc _
 ·
  exact Boxed.new' _ (by simp) _ _
set_option maxHeartbeats 4000000 in
theorem message_any (p q b:Nat) (w:World) (h:Frm w p q b) (c o cap:Nat) (L:List Nat) (hL:L.length=256) (bL:Bys L) (hcb:c≠b) (hcs:c<w.heap.size) (hcap:256<=cap)
 (hcell:∀ i,i<256->w.cell? ⟨c,o+i,none⟩=some (.int .u8 (L.getD i 0:Nat))) (k:Int) :
 Calls Tryz.prog 196 #[.pointer (some ⟨p,0,none⟩),.slice (some ⟨c,o,none⟩) 256 cap,.int .i64 k] w fun e w'=>((∃ i:Nat,i<4/\k=i/\DecAns w w' (part 64 L i) e)\/(¬ (0<=k/\k<=3)/\e=.returned (.tuple #[.slice none 0 0,.int .i64 0,.iface 56 (.int .i64 1)])))/\Frm w' p q b/\But b w w':=by
 have HC:=hyd hcell
 clear hcell
 refine(callsIn_wide (n:=3)).1 ?_
 refine callsIn_of_wp_marks Tryz.func196 rfl trivial ?_ rfl
 simp only[Tryz.ntmps196,List.size_toArray,List.length_cons,List.length_nil,Nat.reduceAdd,Nat.reduceSub,Array.replicate_succ,Array.replicate_zero,List.push_toArray,List.append_toArray,List.nil_append,List.cons_append]
 gi_wp2_with (refine⟨trivial,?_⟩;gi_at_call 199;refine(callsIn_wide.2 (parts_any _ _ _ _ 64)).mono ?_;rintro e w' ⟨rfl,rfl⟩)
 obtain⟨G1,hs1,x0,x1,x2,x3,x4,x5,x6⟩:=mw_facts w p k (.slice (some ⟨c,o,none⟩) 256 cap)
 obtain⟨W1,hW1⟩:∃ W1,mw w p k (.slice (some ⟨c,o,none⟩) 256 cap)=W1:=⟨_,rfl⟩
 rw[hW1] at G1 hs1 x0 x1 x2 x3 x4 x5 x6
 unfold mw at hW1
 rw[hW1]
 clear hW1
 have F1:=h.chg G1
 have hp:=h.lt
 have hbs:=h.1.1.lt
 have hqs:=h.1.lt
 have HL:Hid (L.length=4*64):=hyd hL
 refine wpIn_rangeFunc_ownG rfl (by omega) (gf:=228) (lb:=#[.pointer (some ⟨w.heap.size+1+1+1+1+1,0,none⟩),.pointer (some ⟨w.heap.size+1+1+1+1+1+1,0,none⟩)]) rfl trivial (enters_of Tryz.func228 (by kernel_rfl) rfl)
  (parts64 Fence.wide _ trivial rfl (by omega) _ _ c o cap hcap W1 (by omega) (by omega) x5.cell x6.cell) Kp.t (Kp.b (by omega) (by omega)) (Below.refl _ _) (fun _=>rfl)
  (fun pre W=>(∀ x ∈ pre,(x.1:Int)≠k)/\Chg (fun _=>False) W1 W)
  (fun cc _ W=>cc=.ret/\∃ (i:Nat) (v0 v1 v2:Value),i<4/\k=i/\DecAns w W (part 64 L i) (.returned (.tuple #[v0,v1,v2]))/\Boxed W (w.heap.size+1+1) 35 v0/\Boxed W (w.heap.size+1+1+1) 3 v1/\Boxed W (w.heap.size+1+1+1+1) 33 v2/\Frm W p q b/\Chg (·=b) w W)
  (OwnFrom.and (ownFrom_pure _ _) ownFrom_chg)
  (fun cc s X Y row hs hg hr=>by
   obtain⟨rfl,i,v0,v1,v2,y1,y2,y3,y4,y5,y6,y7,y8⟩:=hs
   have hk:=kept hg hr
   exact⟨rfl,i,v0,v1,v2,y1,y2,y3.keep hk,boxed_keep y4 hk,boxed_keep y5 hk,boxed_keep y6 hk,y7.keep hk,y8.grown hg (fun k e=>Or.inr (by have:=(hr k e).1;omega))⟩)
  ⟨by simp,Chg.refl _ _⟩
  (fun x=>{ tmps:=#[.pointer (some ⟨p,0,none⟩),.slice (some ⟨c,o,none⟩) 256 cap,.int .i64 k,.pointer (some ⟨w.heap.size,0,none⟩),undef,.pointer (some ⟨w.heap.size+1,0,none⟩),.pointer (some ⟨w.heap.size+1+1,0,none⟩),.pointer (some ⟨w.heap.size+1+1+1,0,none⟩),.pointer (some ⟨w.heap.size+1+1+1+1,0,none⟩),.int .i64 (x.1:Int),.slice (some ⟨c,o+x.1*64,none⟩) 64 (cap - x.1*64),.slice (some ⟨c,o,none⟩) 256 cap,.int .i64 256,.bool false,undef,.slice (some ⟨c,o,none⟩) 256 cap,.func (.func 228) #[] #[.pointer (some ⟨w.heap.size+1+1+1+1+1,0,none⟩),.pointer (some ⟨w.heap.size+1+1+1+1+1+1,0,none⟩)],.int .i64 (x.1:Int),.slice (some ⟨c,o+x.1*64,none⟩) 64 (cap - x.1*64),undef,undef,undef,undef,undef,undef,undef,undef,undef,undef,undef,undef,undef],defers:=[] }) ?assign ?body ?done ?stop
 case assign=>
  intro l x W K hK
  dsimp only[encP]
  gi_wp2
  exact hK
 case body=>
  rintro l pre x W ⟨hne,hG⟩ _
  have F:=F1.chg hG
  have y0:Boxed W w.heap.size 212 (.pointer (some ⟨p,0,none⟩)):=(hG.block _ x0.lt (fun e=>e)).trans x0
  have y1:Boxed W (w.heap.size+1) 3 (.int .i64 k):=(hG.block _ x1.lt (fun e=>e)).trans x1
  have y2:Boxed W (w.heap.size+1+1) 35 (.slice none 0 0):=(hG.block _ x2.lt (fun e=>e)).trans x2
  have y3:Boxed W (w.heap.size+1+1+1) 3 (.int .i64 0):=(hG.block _ x3.lt (fun e=>e)).trans x3
  have y4:Boxed W (w.heap.size+1+1+1+1) 33 .nilIface:=(hG.block _ x4.lt (fun e=>e)).trans x4
  have G2:=G1.trans hG
  have hs2:=hG.size
  have z0:=y0.cell
  have z1:=y1.cell
  have z2:W.cell? ⟨p,0,none⟩=some (.pointer (some ⟨q,0,none⟩)):=F.2.cell
  obtain⟨i,hi⟩:=x
  dsimp only
  by_cases hx:(i:Int)=k
  ·
   subst hx
   have hpl:=part_length HL.out i hi
   have hpb:=part_bys (z:=64) bL i
   have hcc:∀ j,j<(part 64 L i).length->W.cell? ⟨c,o+i*64+j,none⟩=some (.int .u8 ((part 64 L i).getD j 0:Nat)):=fun j hj=>by
    rw[part_getD 64 L i j (by omega),Nat.add_assoc]
    exact(World.cell?_of_block (w:=w) (a:=⟨c,o+(i*64+j),none⟩) (G2.block c hcs (fun e=>e))).trans (HC.out _ (by omega))
   have hdec:=decode_any q b W F.1 c (o+i*64) (cap - i*64) (part 64 L i) hpl hpb hcb (by omega) hcc
   have HDec:=hyd hdec
   clear hdec hcc
   have f2:=y2.frozen
   gi_wp2_with fail
   refine⟨trivial,(CallsIn.inRound l (callsIn_wide.2 HDec.out)).mono ?_⟩
   rintro e W3 ⟨hD,C3,B3⟩
   have F3:=F.but C3 B3
   have u2:Boxed W3 (w.heap.size+1+1) 35 (.slice none 0 0):=(B3.block _ y2.lt (by omega)).trans y2
   have u3:Boxed W3 (w.heap.size+1+1+1) 3 (.int .i64 0):=(B3.block _ y3.lt (by omega)).trans y3
   have u4:Boxed W3 (w.heap.size+1+1+1+1) 33 .nilIface:=(B3.block _ y4.lt (by omega)).trans y4
   have hbc:∀ o,W.heap[b]?=some o->o.isCells=true:=fun o ho=>by
    obtain⟨c,z,hc,-⟩:=fld_heap F.1.1
    rw[hc] at ho;cases ho;rfl
   have g2:=u2.cell
   have g3:=u3.cell
   have g4:=u4.cell
   have j2:=u2.frozen
   have j3:=u3.frozen
   have j4:=u4.frozen
   have fin:∀ v0 v1 v2:Value,DecAns W W3 (part 64 L i) (.returned (.tuple #[v0,v1,v2]))->∀ Y,st3 W3 (w.heap.size+1+1) (w.heap.size+1+1+1) (w.heap.size+1+1+1+1) v0 v1 v2=Y ->
    KeepsFrom W1.heap.size W Y/\DecAns w Y (part 64 L i) (.returned (.tuple #[v0,v1,v2]))/\Boxed Y (w.heap.size+1+1) 35 v0/\Boxed Y (w.heap.size+1+1+1) 3 v1/\Boxed Y (w.heap.size+1+1+1+1) 33 v2/\Frm Y p q b/\Chg (·=b) w Y:=fun v0 v1 v2 hD Y hY=>by
    obtain⟨k1,k2,k3,k4⟩:=st3_facts u2 u3 u4 v0 v1 v2 (by omega) (by omega) (by omega)
    rw[hY] at k1 k2 k3 k4
    have hrc:∀ k,(k=w.heap.size+1+1\/k=w.heap.size+1+1+1\/k=w.heap.size+1+1+1+1)->∀ o,W3.heap[k]?=some o->o.isCells=true:=fun k hk o ho=>by
     rcases hk with rfl | rfl | rfl
     ·
      rw[show W3.heap[_]?=_ from u2] at ho;cases ho;rfl
     ·
      rw[show W3.heap[_]?=_ from u3] at ho;cases ho;rfl
     ·
      rw[show W3.heap[_]?=_ from u4] at ho;cases ho;rfl
    have a1:KeepsFrom W1.heap.size W W3:=B3.chg.keeps (fun k hk o ho=>hbc o (by rw[<-hk];exact ho)) _
    have a2:KeepsFrom W1.heap.size W3 Y:=k4.keeps hrc _
    have n1:¬ (b=w.heap.size+1+1\/b=w.heap.size+1+1+1\/b=w.heap.size+1+1+1+1):=by omega
    have n2:¬ (q=w.heap.size+1+1\/q=w.heap.size+1+1+1\/q=w.heap.size+1+1+1+1):=by omega
    have n3:¬ (p=w.heap.size+1+1\/p=w.heap.size+1+1+1\/p=w.heap.size+1+1+1+1):=by omega
    exact⟨a1.trans a2,hD.chg k4 (fun k e=>by omega) (by omega),k1,k2,k3,F3.other (k4.block _ F3.1.1.lt n1) (k4.block _ F3.1.lt n2) (k4.block _ F3.lt n3),((G2.mono (fun _ _ e=>e.elim)).trans B3.chg).trans' k4 (fun i hi e=>by omega)⟩
   have HF:=hyd fin
   clear fin
   rcases hD with ⟨h1,rfl⟩ | ⟨m,d,g,h1,h2,h3,h4,rfl,h6,h7⟩
   ·
    have HD:=hyd (HF.out _ _ _ (Or.inl ⟨h1,rfl⟩) _ rfl)
    clear HF
    gi_wp2_with fail
    obtain⟨k1,k2⟩:=HD.out
    exact⟨k1,rfl,i,_,_,_,hi,rfl,k2⟩
   ·
    have HD:=hyd (HF.out _ _ _ (Or.inr ⟨m,d,g,h1,h2,h3,h4,rfl,h6,h7⟩) _ rfl)
    clear HF h1 h2 h3 h4 h6 h7
    gi_wp2_with fail
    obtain⟨k1,k2⟩:=HD.out
    exact⟨k1,rfl,i,_,_,_,hi,rfl,k2⟩
  ·
   gi_wp2_with fail
   refine⟨KeepsFrom.refl _ _,⟨rfl,rfl⟩,fun x hx'=>?_,hG⟩
   rcases List.mem_append.1 hx' with h1 | h1
   ·
    exact hne x h1
   ·
    simp at h1;subst h1;exact hx
 case done=>
  rintro D ys W hD rfl ⟨hne,hG⟩ hK
  have y2:Boxed W (w.heap.size+1+1) 35 (.slice none 0 0):=(hG.block _ x2.lt (fun e=>e)).trans x2
  have y3:Boxed W (w.heap.size+1+1+1) 3 (.int .i64 0):=(hG.block _ x3.lt (fun e=>e)).trans x3
  have y4:Boxed W (w.heap.size+1+1+1+1) 33 .nilIface:=(hG.block _ x4.lt (fun e=>e)).trans x4
  have c2:=y2.cell
  have c3:=y3.cell
  have c4:=y4.cell
  have f2:=y2.frozen
  have f3:=y3.frozen
  have f4:=y4.frozen
  obtain⟨k1,k2,k3,k4⟩:=st3_facts y2 y3 y4 (.slice none 0 0) (.int .i64 0) (.iface 56 (.int .i64 1)) (by omega) (by omega) (by omega)
  have hK2:(st3 W (w.heap.size+1+1) (w.heap.size+1+1+1) (w.heap.size+1+1+1+1) (.slice none 0 0) (.int .i64 0) (.iface 56 (.int .i64 1))).heap[D]?=some (.deferred (some [])):=(k4.block D (Array.getElem?_eq_some_iff.1 hK).1 (by omega)).trans hK
  have G2:=G1.trans hG
  have F3:=h.chg G2
  have n1:¬ (b=w.heap.size+1+1\/b=w.heap.size+1+1+1\/b=w.heap.size+1+1+1+1):=by omega
  have n2:¬ (q=w.heap.size+1+1\/q=w.heap.size+1+1+1\/q=w.heap.size+1+1+1+1):=by omega
  have n3:¬ (p=w.heap.size+1+1\/p=w.heap.size+1+1+1\/p=w.heap.size+1+1+1+1):=by omega
  have F4:=F3.other (k4.block _ F3.1.1.lt n1) (k4.block _ F3.1.lt n2) (k4.block _ F3.lt n3)
  have G4:Chg (fun _=>False) w (st3 W (w.heap.size+1+1) (w.heap.size+1+1+1) (w.heap.size+1+1+1+1) (.slice none 0 0) (.int .i64 0) (.iface 56 (.int .i64 1))):=G2.trans' k4 (fun i hi e=>by omega)
  gi_wp2_with fail
  rw[show ((W.setCell ⟨w.heap.size+1+1,0,none⟩ (.slice none 0 0)).setCell ⟨w.heap.size+1+1+1,0,none⟩ (.int .i64 0)).setCell ⟨w.heap.size+1+1+1+1,0,none⟩ (.iface 56 (.int .i64 1))=st3 W (w.heap.size+1+1) (w.heap.size+1+1+1) (w.heap.size+1+1+1+1) (.slice none 0 0) (.int .i64 0) (.iface 56 (.int .i64 1)) from rfl]
  generalize st3 W (w.heap.size+1+1) (w.heap.size+1+1+1) (w.heap.size+1+1+1+1) (.slice none 0 0) (.int .i64 0) (.iface 56 (.int .i64 1))=Y at *
  refine⟨by simp,.inl ⟨_,_,rfl,run_takeDeferred hK2,?_⟩⟩
  have hkp:=put_kept (.deferred none) hK2 rfl
  refine⟨_,results3 rfl _ rfl rfl rfl (boxed_keep k1 hkp) (boxed_keep k2 hkp) (boxed_keep k3 hkp),Or.inr ⟨fun hk=>?_,rfl⟩,F4.keep hkp,(G4.grown (grownBy_putObj' Y D (.deferred none)) (fun k e=>Or.inr (by cases e;omega))).but⟩
  obtain⟨i,hi⟩:∃ i:Nat,k=i:=⟨k.toNat,by omega⟩
  have hi4:i<4:=by omega
  refine hne ⟨i,hi4⟩ ?_ hi.symm
  have:∀ j (hj:j<4),(⟨j,hj⟩:Ix) ∈ upto 4:=by decide
  exact this i hi4
 case stop=>
  rintro D cc pre W hD ⟨kk,hkk,rfl⟩ ⟨rfl,i,v0,v1,v2,y1,y2,y3,y4,y5,y6,y7,y8⟩ hK
  gi_wp2
  refine⟨by simp,.inl ⟨_,_,rfl,run_takeDeferred hK,?_⟩⟩
  have hkp:=put_kept (.deferred none) hK rfl
  have G5:=y8.grown (grownBy_putObj' W D (.deferred none)) (fun k e=>Or.inr (by cases e;omega))
  exact⟨_,results3 rfl _ rfl rfl rfl (boxed_keep y4 hkp) (boxed_keep y5 hkp) (boxed_keep y6 hkp),Or.inl ⟨i,y1,y2,y3.keep hkp⟩,y7.keep hkp,⟨G5.os,G5.tape,G5.output,G5.size,G5.block⟩⟩
end Go.Proofs.YtbhbilcieodbhaaGreat
/-
  wire's cut, Get and Apart, walked. Conditions: the bytes can be read. wire's Mark, Seal and Open, and the document's. Condition: the bytes can be read. The document's Sealed and Marked (patinaref03). Condition: the bytes can be read. slices.Grow and slices.Concat at bytes, as Lay calls them. Condition: the bytes can be read.
-/
namespace Go.Proofs.YtbhbilcieodbhaaGreat
open Go.RowKit
set_option maxRecDepth 100000
set_option maxHeartbeats 1000000 in
theorem cut_any (w:World) (c o cap n:Nat) (l:List Nat) (hlen:l.length<=4096) (hn:n<=l.length) (hcs:c<w.heap.size)
 (hc:∀ i,i<l.length->w.cell? ⟨c,o+i,none⟩=some (.int .u8 (l.getD i 0:Nat))) :
 Calls Tryz.prog 223 #[.slice (some ⟨c,o,none⟩) l.length cap,.int .i64 (n:Int)] w fun e w'=>∃ g,e=.returned (.slice (some ⟨g,0,none⟩) n n)/\w.heap.size<=g/\Arr w' g 5 l/\Chg (fun _=>False) w w':=by
 have hmk:=fun w:World=>make_bytes w (l.length:Int) l.length rfl (by omega)
 have HC:=hyd hc
 clear hc
 have hN:(n:Int)<=(l.length:Int):=by omega
 have hN0:(0:Int)<=(n:Int):=by omega
 have A1:Arr (w.alloc (.cells (bcells (List.replicate l.length 0)) 5)) w.heap.size 5 (List.replicate l.length 0):=Arr.new _ _ _
 have hsz:(w.alloc (.cells (bcells (List.replicate l.length 0)) 5)).heap.size=w.heap.size+1:=by simp
 have G1:Chg (fun _=>False) w (w.alloc (.cells (bcells (List.replicate l.length 0)) 5)):=(Chg.refl _ _).alloc _
 have HC1:∀ j,j<l.length->(w.alloc (.cells (bcells (List.replicate l.length 0)) 5)).cell? ⟨c,o+j,none⟩=some (.int .u8 (l.getD j 0:Nat)):=fun j hj=>by
  rw[World.cell?_alloc_past _ _ _ hcs];exact HC.out j hj
 have HA:=hyd A1
 have HG:=hyd G1
 have HC1:=hyd HC1
 clear A1 G1 hsz
 go_enter Tryz.func223,Tryz.ntmps223
 go_wp2_with (refine wpList_copy_arr rfl (.tmp 9) (.tmp 10) rfl w.heap.size 0 l.length l.length c o l.length cap rfl rfl HA.out l (by simp) HC1.out (by simp) ?_)
 have A2:=HA.out.row (lay (List.replicate l.length 0) 0 l)
 rw[lay_all _ _ (by simp)] at A2 ⊢
 have G2:Chg (fun _=>False) w ((w.alloc (.cells (bcells (List.replicate l.length 0)) 5)).setRow w.heap.size (bcells l)):=HG.out.setRow (Or.inr (Nat.le_refl _)) _
 go_ret
 exact⟨_,rfl,Nat.le_refl _,A2,G2⟩
end Go.Proofs.YtbhbilcieodbhaaGreat
namespace Go.Proofs.YtbhbilcieodbhaaGreat
open Go.RowKit
set_option maxRecDepth 100000
def mk:List Nat:=[112,97,116,105,110,97,48,49]
theorem mk_bys:Bys mk:=by intro n hn;simp[mk] at hn;omega
theorem mk_length:mk.length=8:=rfl
def mks:ByteArray:=⟨#[112,97,116,105,110,97,48,49]⟩
theorem mks_row (cur:List Nat) (off:Nat) :
 ((bcells cur).toList.take off ++ Lib.byteCells mks.data.toList ++ (bcells cur).toList.drop (off+mks.size)).toArray=bcells (lay cur off mk):=by
 have e:Lib.byteCells mks.data.toList=mk.map fun (n:Nat)=>Value.int .u8 (n:Int):=rfl
 have e2:mks.size=mk.length:=rfl
 rw[e,e2]
 simp[bcells,lay,List.map_take,List.map_drop]
theorem wpList_copy_mark {w:World} {ops:Array Oper} {rest:List Oper} {o:Oper} {a:Act} {Q:Exit->Act->World->Prop} (hgd:o.guard=none) (d s:Operand)
 (ho:o.op=.call { callee:=.builtin .copy,args:=#[d,s],argTypes:=#[35,9] }) (g off dLen dCap:Nat) (hd:a.eval d=.slice (some ⟨g,off,none⟩) dLen dCap) (hs:a.eval s=.string mks)
 {t:TypeId} {cur:List Nat} (hg:Arr w g t cur) (hl:8<=dLen) (hfit:off+8<=cur.length)
 (h:wpList Tryz.prog ops Q rest (a.put o.dst (goInt 8)) (w.setRow g (bcells (lay cur off mk)))):wpList Tryz.prog ops Q (o :: rest) a w:=by
 refine wpList_plain hgd fun K hK=>?_
 have hrun:=Lib.run_copy_row_string (P:=Tryz.prog) w 35 9 o.type 5 g off dLen dCap mks (bcells cur) t Tryz.underlying35 size5 hg hl (by rw[bcells_size];exact hfit)
 rw[mks_row] at hrun
 unfold Oper.wp
 simp[execOp,ho,resolve,invoke,builtin,hd,hs,hrun,Result.andThen]
 exact hK _ _ h
theorem lay_seal {l:List Nat} (h:l.length=50):lay (lay z58 0 l) 50 mk=l ++ mk:=by
 have e:lay z58 0 l=l ++ List.replicate 8 0:=by simp[lay,z58,h]
 rw[e]
 simp only[lay,mk_length]
 rw[List.take_append_of_le_length (by omega),List.take_of_length_le (by omega),List.drop_eq_nil_of_le (by simp[h])]
 simp
set_option maxHeartbeats 1000000 in
theorem seal_any (w:World) (c o cap:Nat) (l:List Nat) (hl:l.length=50) (hcs:c<w.heap.size) (hc:∀ i,i<l.length->w.cell? ⟨c,o+i,none⟩=some (.int .u8 (l.getD i 0:Nat))) :
 Calls Tryz.prog 246 #[.slice (some ⟨c,o,none⟩) 50 cap] w fun e w'=>∃ g,e=.returned (.tuple #[.slice (some ⟨g,0,none⟩) 58 58,.nilIface])/\w.heap.size<=g/\Arr w' g 5 (l ++ mk)/\Chg (fun _=>False) w w':=by
 have hmk:=make58
 have HC1:∀ j,j<l.length->(w.alloc (.cells (bcells z58) 5)).cell? ⟨c,o+j,none⟩=some (.int .u8 (l.getD j 0:Nat)):=fun j hj=>by
  rw[World.cell?_alloc_past _ _ _ hcs];exact hc j hj
 have HA:=hyd (Arr.new w 5 z58)
 have HB:=hyd ((Arr.new w 5 z58).row (lay z58 0 l))
 have HG:=hyd ((Chg.refl (fun _=>False) w).alloc (.cells (bcells z58) 5))
 have HC1:=hyd HC1
 have HL:=hyd hl
 have hz:(lay z58 0 l).length=58:=by rw[lay_length (by simp[z58,hl])];rfl
 have HZ:=hyd hz
 clear hc hl hz
 go_enter Tryz.func246,Tryz.ntmps246
 go_wp2_with (first
  | (refine wpList_copy_arr rfl (.tmp 10) (.tmp 11) rfl w.heap.size 0 58 58 c o 50 cap rfl rfl HA.out l HL.out HC1.out (by rw[HL.out];decide) ?_)
  | (refine wpList_copy_mark rfl (.tmp 14) _ rfl w.heap.size 50 8 8 rfl rfl HB.out (by decide) (by rw[HZ.out];decide) ?_))
 have A2:=HB.out.row (lay (lay z58 0 l) 50 mk)
 rw[lay_seal HL.out] at A2 ⊢
 have G2:=(HG.out.setRow (Or.inr (Nat.le_refl _)) (bcells (lay z58 0 l))).setRow (Or.inr (Nat.le_refl _)) (bcells (l ++ mk))
 go_ret2
 exact⟨_,rfl,Nat.le_refl _,A2,G2⟩
theorem u8_inj {T U:List Nat} (hT:Bys T) (hU:Bys U) (h:T.map UInt8.ofNat=U.map UInt8.ofNat):T=U:=by
 have e:∀ L:List Nat,Bys L->(L.map UInt8.ofNat).map UInt8.toNat=L:=by
  intro L hL
  rw[List.map_map]
  conv=>rhs;rw[<-List.map_id L]
  apply List.map_congr_left
  intro n hn
  simp only[Function.comp,id]
  rw[UInt8.toNat_ofNat']
  exact Nat.mod_eq_of_lt (hL n hn)
 rw[<-e T hT,h,e U hU]
theorem mk_eq (T:List Nat) (hT:Bys T):((strOfNums (T.map fun (n:Nat)=>(n:Int))).toList == [112,97,116,105,110,97,48,49])=decide (T=mk):=by
 rw[ByteArray.toList_eq,strOfNums_data,List.map_map]
 have e1:T.map ((fun (n:Int)=>UInt8.ofNat n.toNat) ∘ fun (n:Nat)=>(n:Int))=T.map UInt8.ofNat:=rfl
 have e2:([112,97,116,105,110,97,48,49]:List UInt8)=mk.map UInt8.ofNat:=rfl
 rw[e1,e2]
 by_cases h:T=mk
 ·
  rw[h];simp
 ·
  rw[decide_eq_false h,beq_eq_false_iff_ne]
  exact fun e=>h (u8_inj hT mk_bys e)
theorem tail_int {w:World} {c o:Nat} {l:List Nat} (hl:l.length=58) (hc:∀ i,i<l.length->w.cell? ⟨c,o+i,none⟩=some (.int .u8 (l.getD i 0:Nat))) :
 ∀ i,i<8->w.cell? ⟨c,(o+50)+i,none⟩=some (.int .u8 (((l.drop 50).map fun (n:Nat)=>(n:Int)).getD i 0)):=by
 intro i hi
 rw[Nat.add_assoc,hc (50+i) (by omega)]
 simp[List.getD_eq_getElem?_getD,List.getElem?_drop]
 cases e:l[50+i]? <;> simp
set_option maxHeartbeats 1000000 in
theorem open_mark (w:World) (c o cap:Nat) (hcap:58<=cap) (l:List Nat) (hl:l.length=58) (hb:Bys l) (hcs:c<w.heap.size) (hc:∀ i,i<l.length->w.cell? ⟨c,o+i,none⟩=some (.int .u8 (l.getD i 0:Nat))) (hm:l.drop 50=mk) :
 Calls Tryz.prog 226 #[.slice (some ⟨c,o,none⟩) 58 cap] w fun e w'=>∃ g,e=.returned (.tuple #[.slice (some ⟨g,0,none⟩) 50 50,.nilIface])/\w.heap.size<=g/\Arr w' g 5 l/\Chg (fun _=>False) w w':=by
 have kc:=run_convert_bytes_arg (P:=Tryz.prog) w 35 5 Tryz.underlying35 Tryz.underlying5 c (o+50) 8 (cap - 50) ((l.drop 50).map fun (n:Nat)=>(n:Int)) (by simp[hl]) (tail_int hl hc) 9 Tryz.underlying9
 have hq:=mk_eq _ (bys_drop hb 50)
 rw[decide_eq_true hm] at hq
 have HL:=hyd hl
 have HC:=hyd hc
 have hcut:Calls Tryz.prog 223 #[.slice (some ⟨c,o,none⟩) 58 cap,.int .i64 50] w fun e w'=>∃ g,e=.returned (.slice (some ⟨g,0,none⟩) 50 50)/\w.heap.size<=g/\Arr w' g 5 l/\Chg (fun _=>False) w w':=by
  have:=cut_any w c o cap 50 l (by omega) (by omega) hcs hc
  rw[hl] at this
  exact this
 clear hl hc hm
 generalize (l.drop 50).map (fun (n:Nat)=>(n:Int))=xs at *
 go_enter Tryz.func226,Tryz.ntmps226
 go_wp2_with fail
 refine hcut.mono ?_
 rintro e w' ⟨g,rfl,hg,hA',hG'⟩
 clear hcut
 go_wp2
 go_ret2
 exact⟨g,rfl,hg,hA',hG'⟩
set_option maxHeartbeats 1000000 in
theorem open_none (w:World) (c o cap:Nat) (hcap:58<=cap) (l:List Nat) (hl:l.length=58) (hb:Bys l) (hc:∀ i,i<l.length->w.cell? ⟨c,o+i,none⟩=some (.int .u8 (l.getD i 0:Nat))) (hm:l.drop 50≠mk) :
 Calls Tryz.prog 226 #[.slice (some ⟨c,o,none⟩) 58 cap] w fun e w'=>e=.returned (.tuple #[.slice none 0 0,.iface 56 (.int .i64 6)])/\w'=w:=by
 have kc:=run_convert_bytes_arg (P:=Tryz.prog) w 35 5 Tryz.underlying35 Tryz.underlying5 c (o+50) 8 (cap - 50) ((l.drop 50).map fun (n:Nat)=>(n:Int)) (by simp[hl]) (tail_int hl hc) 9 Tryz.underlying9
 have hq:=mk_eq _ (bys_drop hb 50)
 rw[decide_eq_false hm] at hq
 clear hl hc hm
 generalize (l.drop 50).map (fun (n:Nat)=>(n:Int))=xs at *
 go_enter Tryz.func226,Tryz.ntmps226
 go_wp2
 go_ret2
 exact⟨rfl,rfl⟩
end Go.Proofs.YtbhbilcieodbhaaGreat
namespace Go.Proofs.YtbhbilcieodbhaaGreat
open Go.RowKit
set_option maxRecDepth 100000
end Go.Proofs.YtbhbilcieodbhaaGreat
namespace Go.Proofs.YtbhbilcieodbhaaGreat
open Go.RowKit
set_option maxRecDepth 100000
theorem Own.zeros (w:World) (i:TypeInfo) (_hi:i.size=1):∃ cap,Own (w.drew.alloc (.cells (Builtin.zeroCells (Value.int .u8 0).cells 232 ++ Builtin.zeroCells (Value.int .u8 0).cells (grownCap w 232 0 5 - 232)) 5)) w.heap.size 5 (.slice (some ⟨w.heap.size,0,none⟩) 0 cap) []/\cap=grownCap w 232 0 5:=by
 have h1:=grownCap_ge w 232 0 5
 have h2:=grownCap_le_maxLen w 232 0 5 (by decide)
 refine⟨_,⟨rfl,Or.inr ⟨w.heap.size,grownCap w 232 0 5,Builtin.zeroCells (Value.int .u8 0).cells 232 ++ Builtin.zeroCells (Value.int .u8 0).cells (grownCap w 232 0 5 - 232),rfl,Nat.le_refl _,?_,by simp,h2,?_,by simp⟩⟩,rfl⟩
 ·
  show (w.heap.push _)[w.heap.size]?=_
  simp
 ·
  rw[Array.size_append,size_zeroCells,size_zeroCells]
  simp[Value.cells]
  omega
set_option maxHeartbeats 1000000 in
theorem grow_any (w:World):Calls Tryz.prog 262 #[.slice none 0 0,.int .i64 232] w fun e w'=>∃ cap,e=.returned (.slice (some ⟨w.heap.size,0,none⟩) 0 cap)/\Own w' w.heap.size 5 (.slice (some ⟨w.heap.size,0,none⟩) 0 cap) []/\Chg (fun _=>False) w w':=by
 obtain⟨i,h1,h2,h3,h4⟩:=info5
 have hrun:=fun ty=>Lib.run_append_nil_zeros (P:=Tryz.prog) w 35 3 ty 5 i (.int .u8 0) .i64 .i64 Tryz.underlying35 Tryz.underlying3 h1 h2 232 (by omega) (by omega) (by omega) (by rw[h4];omega)
 have hge:=grownCap_ge w 232 0 5
 obtain⟨cap,hO,hcap⟩:=Own.zeros w i h3
 have HO:=hyd hO
 have HC:=hyd hcap
 clear hO hcap
 go_enter Tryz.func262,Tryz.ntmps262
 go_wp2_with (at_builtin;refine Lib.wpList_append_run _ rfl _ _ _ _ rfl _ _ rfl rfl _ _ (hrun _) ?_)
 go_ret
 have hc:=HC.out
 subst hc
 exact⟨_,rfl,HO.out,((Chg.refl _ _).alloc _).drew⟩
def acc (l0 l1:List Nat):Nat->List Nat
 | 0=>[]
 | 1=>l0
 | _=>l0 ++ l1
set_option maxHeartbeats 1000000 in
theorem concat_any (w:World) (r c0 o0 k0 c1 o1 k1:Nat) (l0 l1:List Nat) (hl0:l0.length=174) (hl1:l1.length=58) (hr:w.heap[r]?=some (.cells #[.slice (some ⟨c0,o0,none⟩) 174 k0,.slice (some ⟨c1,o1,none⟩) 58 k1] 35)) (hs0:c0<w.heap.size) (hs1:c1<w.heap.size)
 (hc0:∀ i,i<l0.length->w.cell? ⟨c0,o0+i,none⟩=some (.int .u8 (l0.getD i 0:Nat))) (hc1:∀ i,i<l1.length->w.cell? ⟨c1,o1+i,none⟩=some (.int .u8 (l1.getD i 0:Nat))) :
 Calls Tryz.prog 247 #[.slice (some ⟨r,0,none⟩) 2 2] w fun e w'=>∃ g cap,e=.returned (.slice (some ⟨g,0,none⟩) 232 cap)/\Own w' w.heap.size 5 (.slice (some ⟨g,0,none⟩) 232 cap) (l0 ++ l1)/\Chg (fun _=>False) w w':=by
 have H0:=hyd hc0
 have H1:=hyd hc1
 clear hc0 hc1
 have hrl:r<w.heap.size:=(Array.getElem?_eq_some_iff.1 hr).1
 go_enter Tryz.func247,Tryz.ntmps247
 go_wp2_with fail
 go_loopw [3,11] (fun t3 t11 wr=>∃ k:Nat,k<=2/\t11=.int .i64 k/\t3=.int .i64 (if k=0 then 0 else if k=1 then 174 else 232)/\wr=w) (fun _ t _=>2 - (intOf t).toNat)
 case atStart=>exact⟨0,by omega,rfl,rfl,rfl⟩
 case round=>
  obtain⟨k,hk,rfl,rfl,rfl⟩:=hrel
  have d0:wr.cell? ⟨r,0,none⟩=some (.slice (some ⟨c0,o0,none⟩) 174 k0):=by simp[World.cell?,hr]
  have d1:wr.cell? ⟨r,1,none⟩=some (.slice (some ⟨c1,o1,none⟩) 58 k1):=by simp[World.cell?,hr]
  have h3:k=0\/k=1\/k=2:=by omega
  rcases h3 with rfl | rfl | rfl
  ·
   go_wp2
   exact⟨⟨1,by omega,rfl,rfl,trivial⟩,by simp[intOf]⟩
  ·
   go_wp2
   exact⟨⟨2,by omega,rfl,rfl,trivial⟩,by simp[intOf]⟩
  ·
   go_wp2_with fail
   refine(grow_any wr).mono ?_
   rintro e w1 ⟨cap,rfl,O1,G1⟩
   obtain⟨w0,hw0⟩:∃ w0,w0=wr:=⟨_,rfl⟩
   subst hw0
   have hi5:=info5
   have HL0:=hyd hl0
   have HL1:=hyd hl1
   clear d0 d1 hl0 hl1
   go_wp2_with fail
   go_loopw [6,27] (fun t6 t27 wx=>∃ (k:Nat) (v:Value),k<=2/\v=t6/\t27=.int .i64 k/\Own wx w0.heap.size 5 v (acc l0 l1 k)/\Chg (fun _=>False) w0 wx) (fun _ t _=>2 - (intOf t).toNat)
   case atStart=>exact⟨0,_,by omega,rfl,rfl,O1,G1⟩
   case round=>
    clear O1 G1
    obtain⟨k,v,hk,rfl,rfl,O,G⟩:=hrel
    have hr2:wr.heap[r]?=some (.cells #[.slice (some ⟨c0,o0,none⟩) 174 k0,.slice (some ⟨c1,o1,none⟩) 58 k1] 35):=(G.block r hrl (fun e=>e)).trans hr
    have d0:wr.cell? ⟨r,0,none⟩=some (.slice (some ⟨c0,o0,none⟩) 174 k0):=by simp[World.cell?,hr2]
    have d1:wr.cell? ⟨r,1,none⟩=some (.slice (some ⟨c1,o1,none⟩) 58 k1):=by simp[World.cell?,hr2]
    have hsz:=G.size
    have h3:k=0\/k=1\/k=2:=by omega
    have e0:∀ j,j<l0.length->wr.cell? ⟨c0,o0+j,none⟩=some (.int .u8 (l0.getD j 0:Nat)):=fun j hj=>(World.cell?_of_block (w:=w0) (a:=⟨c0,o0+j,none⟩) (G.block c0 hs0 (fun e=>e))).trans (H0.out j hj)
    have e1:∀ j,j<l1.length->wr.cell? ⟨c1,o1+j,none⟩=some (.int .u8 (l1.getD j 0:Nat)):=fun j hj=>(World.cell?_of_block (w:=w0) (a:=⟨c1,o1+j,none⟩) (G.block c1 hs1 (fun e=>e))).trans (H1.out j hj)
    have E0:=hyd e0
    have E1:=hyd e1
    clear e0 e1
    have hll:=HL0.out
    have hlr:=HL1.out
    rcases h3 with rfl | rfl | rfl
    ·
     have O':Own wr w0.heap.size 5 v []:=O
     clear hll hlr O
     go_wp2_with (at_builtin;refine wpList_append_bytes _ rfl _ _ 35 rfl w0.heap.size 5 Tryz.underlying35 hi5 v [] rfl O' (some ⟨c0,o0,none⟩) 174 k0 l0 rfl HL0.out (fun e=>by cases e) (fun ad had j hj=>by have e:=Option.some.inj had;subst e;rw[Addr.add_lit];exact E0.out j (by rw[HL0.out];exact hj)) (by simp) hsz wr.heap.size rfl ?_)
     intro v2 w2 O2 hg2 _
     have G2:Chg (fun _=>False) w0 w2:=G.grown hg2 (fun k hk=>Or.inr (O'.block hk).1)
     replace O2:Own w2 w0.heap.size 5 v2 l0:=by simpa using O2
     clear hg2 O'
     go_wp2
     exact⟨⟨1,_,by omega,rfl,rfl,O2,G2⟩,by simp[intOf]⟩
    ·
     have O':Own wr w0.heap.size 5 v l0:=O
     clear hll hlr O
     go_wp2_with (at_builtin;refine wpList_append_bytes _ rfl _ _ 35 rfl w0.heap.size 5 Tryz.underlying35 hi5 v l0 rfl O' (some ⟨c1,o1,none⟩) 58 k1 l1 rfl HL1.out (fun e=>by cases e) (fun ad had j hj=>by have e:=Option.some.inj had;subst e;rw[Addr.add_lit];exact E1.out j (by rw[HL1.out];exact hj)) (by rw[HL0.out];decide) hsz wr.heap.size rfl ?_)
     intro v2 w2 O2 hg2 _
     have G2:Chg (fun _=>False) w0 w2:=G.grown hg2 (fun k hk=>Or.inr (O'.block hk).1)
     clear hg2 O'
     go_wp2
     exact⟨⟨2,_,by omega,rfl,rfl,O2,G2⟩,by simp[intOf]⟩
    ·
     have O':Own wr w0.heap.size 5 v (l0 ++ l1):=O
     obtain⟨g,cap2,hv,-⟩:=O'.lies (by rw[List.length_append];omega)
     rw[List.length_append,hll,hlr] at hv
     subst hv
     clear hll hlr O
     go_wp2
     go_ret
     exact⟨g,cap2,rfl,O',G⟩
end Go.Proofs.YtbhbilcieodbhaaGreat
/-
  (*Frame).Data. Condition: the block holds a Frame that New gave; the page's bytes can be read. (*Frame).Body. Condition: the block holds a Frame that New gave; the page's bytes can be read.
-/
namespace Go.Proofs.YtbhbilcieodbhaaGreat
open Go.RowKit Go.Shelf
set_option maxRecDepth 100000
attribute [local go_sem] Oper.semAt_some
def Good (L:List Nat) (i:Nat) (r:List Nat × Nat):Prop:=IsDec (part 64 L i) (some r)/\r.1.length=58/\Bys r.1/\r.2<=2
def All2 (L:List Nat):List Ix->List (List Nat × Nat)->Prop
 | [],[]=>True
 | x :: xs,r :: rs=>Good L x.1 r/\All2 L xs rs
 | _,_=>False
theorem All2.snoc {L:List Nat}:∀ {xs:List Ix} {rs:List (List Nat × Nat)} {x:Ix} {r:List Nat × Nat},All2 L xs rs->Good L x.1 r->All2 L (xs ++ [x]) (rs ++ [r])
 | [],[],_,_,_,h=>⟨h,trivial⟩
 | _ :: _,_ :: _,_,_,h,k=>⟨h.1,h.2.snoc k⟩
 | [],_ :: _,_,_,h,_=>h.elim
 | _ :: _,[],_,_,h,_=>h.elim
theorem All2.length {L:List Nat}:∀ {xs:List Ix} {rs:List (List Nat × Nat)},All2 L xs rs->rs.length=xs.length
 | [],[],_=>rfl
 | _ :: _,_ :: _,h=>by simp[h.2.length]
 | [],_ :: _,h=>h.elim
 | _ :: _,[],h=>h.elim
def dat (rs:List (List Nat × Nat)):List Nat:=rs.flatMap (·.1)
def mx (rs:List (List Nat × Nat)):Nat:=rs.foldl (fun a r=>max a r.2) 0
theorem dat_snoc (rs:List (List Nat × Nat)) (r:List Nat × Nat):dat (rs ++ [r])=dat rs ++ r.1:=by simp[dat]
theorem mx_snoc (rs:List (List Nat × Nat)) (r:List Nat × Nat):mx (rs ++ [r])=max (mx rs) r.2:=by simp[mx]
theorem All2.dat_length {L:List Nat}:∀ {xs:List Ix} {rs:List (List Nat × Nat)},All2 L xs rs->(dat rs).length=58*xs.length
 | [],[],_=>rfl
 | _ :: xs,r :: rs,h=>by
  have:=h.2.dat_length
  have h1:=h.1.2.1
  simp only[dat,List.flatMap_cons,List.length_append,List.length_cons] at this ⊢
  omega
 | [],_ :: _,h=>h.elim
 | _ :: _,[],h=>h.elim
theorem All2.mx_le {L:List Nat} {xs:List Ix} {rs:List (List Nat × Nat)} (h:All2 L xs rs):mx rs<=2:=by
 have:∀ (xs:List Ix) (rs:List (List Nat × Nat)) (a:Nat),a<=2->All2 L xs rs->rs.foldl (fun a r=>max a r.2) a<=2:=by
  intro xs
  induction xs with
  | nil=>
   intro rs a ha h
   cases rs with
   | nil=>exact ha
   | cons=>exact h.elim
  | cons x xs ih=>
   intro rs a ha h
   cases rs with
   | nil=>exact h.elim
   | cons r rs=>exact ih rs _ (by have:=h.1.2.2.2;simp;omega) h.2
 exact this xs rs 0 (by omega) h
theorem wpListIn_append_bytes {F:Fence} {nF:Nat} {P:Program} (w:World) {ops:Array Oper} {rest:List Oper} {o:Oper} {a:Act} {Q:Exit->Act->World->Prop} (hgd:o.guard=none) (s x:Operand) (t:TypeId)
 (ho:o.op=.call { callee:=.builtin .append,args:=#[s,x],argTypes:=#[t,t] })
 (base:Nat) (e:TypeId) (ht:P.underlying t=some (.slice e)) (hi:∃ i,P.info? e=some i/\i.zero=some (.int .u8 0)/\i.size=1/\i.bytes=1)
 (v:Value) (l:List Nat) (hs:a.eval s=v) (hown:Own w base e v l)
 (c oo m cap:Nat) (l2:List Nat) (hx:a.eval x=.slice (some ⟨c,oo,none⟩) m cap) (hm:l2.length=m)
 (hc:∀ j,j<m->w.cell? ⟨c,oo+j,none⟩=some (.int .u8 (l2.getD j 0:Nat)))
 (hbytes:l.length+m<=140737488355328) (hbase:base<=w.heap.size)
 (h:∀ v' w',Own w' base e v' (l ++ l2)->w.grownBy w' v.ownBlock->(v'.ownBlock=v.ownBlock\/v'.ownBlock=some w.heap.size)->wpListIn F nF P ops Q rest (a.put o.dst v') w'):wpListIn F nF P ops Q (o :: rest) a w:=by
 obtain⟨i,hi1,hi2,hi3,hi4⟩:=hi
 refine wpListIn_append_own_at w hgd s x t ho base e i (.int .u8 0) 1 1 ht hi1 hi2 hi3 hi4 rfl (by decide) v l.length (l.map byt) hs hown ⟨c,oo,none⟩ m cap (l2.map byt) hx (by simp[hm]) ?_ (byt_one l2) (by unfold maxLen;omega) (by omega) hbase ?_
 ·
  intro j u hu
  have hj:j<l2.length:=by
   have:=(List.getElem?_eq_some_iff.1 hu).1
   simpa using this
  rw[List.getElem?_map,List.getElem?_eq_getElem hj] at hu
  have e1:=hc j (by omega)
  rw[List.getD_eq_getElem?_getD,List.getElem?_eq_getElem hj] at e1
  rw[Addr.add_lit,e1]
  exact hu
 ·
  intro v' w' h1 h2 _ h4
  refine h v' w' ?_ h2 h4
  unfold Own
  rw[List.length_append,hm,List.map_append]
  exact h1
def z174:List Nat:=List.replicate 174 0
theorem make_room (w:World):(Instr.makeSlice 35 (.int .i64 0) (.int .i64 174)).run Tryz.prog w=.ok (.slice (some ⟨w.heap.size,0,none⟩) 0 174) (w.alloc (.cells (bcells z174) 5)):=by
 obtain⟨i,h1,h2,h3,h4⟩:=info5
 have h:=run_make (P:=Tryz.prog) w 35 5 i (.int .u8 0) Tryz.underlying35 h1 h2 .i64 .i64 0 174 (by omega) (by omega) (by rw[h4];omega) (by omega)
 rw[h,h3,made_bytes];rfl
set_option maxHeartbeats 1000000 in
theorem data_arg (p:Nat) (w:World) (a:Option Addr) (n cap:Nat) (hn:n≠256) :
 Calls Tryz.prog 168 #[.pointer (some ⟨p,0,none⟩),.slice a n cap] w fun e w'=>e=.returned (.tuple #[.slice none 0 0,.int .i64 0,.iface 56 (.int .i64 1)])/\Chg (fun _=>False) w w':=by
 have hn':((n:Int) != 256)=true:=by simp;omega
 refine(callsIn_wide (n:=3)).1 ?_
 refine callsIn_of_wp_marks Tryz.func168 rfl trivial ?_ rfl
 simp only[Tryz.ntmps168,List.size_toArray,List.length_cons,List.length_nil,Nat.reduceAdd,Nat.reduceSub,Array.replicate_succ,Array.replicate_zero,List.push_toArray,List.append_toArray,List.nil_append,List.cons_append]
 gi_wp2
 refine⟨.tuple #[.slice none 0 0,.int .i64 0,.iface 56 (.int .i64 1)],?_,rfl,(((((Chg.refl _ _).alloc _).alloc _).alloc _).alloc _)⟩
 simp[results,Tryz.f168,go_sem]
def dw (w:World) (p:Nat) (pg:Value):World:=((((((((w.alloc (.cells #[.pointer (some ⟨p,0,none⟩)] 212)).alloc (.cells #[.slice none 0 0] 35)).alloc (.cells #[.int .i64 0] 3)).alloc (.cells #[.nilIface] 33)).alloc (.cells (bcells z174) 5)).alloc (.cells #[.slice (some ⟨w.heap.size+1+1+1+1,0,none⟩) 0 174] 35)).alloc (.cells #[.int .i64 0] 3)).alloc (.cells #[pg] 35)).alloc (.cells #[.int .i64 64] 3)
theorem dw_facts (w:World) (p:Nat) (pg:Value):Chg (fun _=>False) w (dw w p pg)/\(dw w p pg).heap.size=w.heap.size+9/\Boxed (dw w p pg) w.heap.size 212 (.pointer (some ⟨p,0,none⟩))/\Boxed (dw w p pg) (w.heap.size+1) 35 (.slice none 0 0) /\
 Boxed (dw w p pg) (w.heap.size+1+1) 3 (.int .i64 0)/\Boxed (dw w p pg) (w.heap.size+1+1+1) 33 .nilIface/\Arr (dw w p pg) (w.heap.size+1+1+1+1) 5 z174/\Boxed (dw w p pg) (w.heap.size+1+1+1+1+1) 35 (.slice (some ⟨w.heap.size+1+1+1+1,0,none⟩) 0 174) /\
 Boxed (dw w p pg) (w.heap.size+1+1+1+1+1+1) 3 (.int .i64 0)/\Boxed (dw w p pg) (w.heap.size+1+1+1+1+1+1+1) 35 pg/\Boxed (dw w p pg) (w.heap.size+1+1+1+1+1+1+1+1) 3 (.int .i64 64):=by
 refine⟨((((((((((Chg.refl _ _).alloc _).alloc _).alloc _).alloc _).alloc _).alloc _).alloc _).alloc _).alloc _),by simp[dw],?_,?_,?_,?_,?_,?_,?_,?_,?_⟩
 ·
  exact((((((((Boxed.new' _ (by simp) _ _).alloc _).alloc _).alloc _).alloc _).alloc _).alloc _).alloc _).alloc _
 ·
  exact(((((((Boxed.new' _ (by simp) _ _).alloc _).alloc _).alloc _).alloc _).alloc _).alloc _).alloc _
 ·
  exact((((((Boxed.new' _ (by simp) _ _).alloc _).alloc _).alloc _).alloc _).alloc _).alloc _
 ·
  exact(((((Boxed.new' _ (by simp) _ _).alloc _).alloc _).alloc _).alloc _).alloc _
 ·
  have:=Arr.new ((((w.alloc (.cells #[.pointer (some ⟨p,0,none⟩)] 212)).alloc (.cells #[.slice none 0 0] 35)).alloc (.cells #[.int .i64 0] 3)).alloc (.cells #[.nilIface] 33)) 5 z174
  simp only[World.size_alloc] at this
  exact((((this.alloc _).alloc _).alloc _).alloc _)
 ·
  exact(((Boxed.new' _ (by simp) _ _).alloc _).alloc _).alloc _
 ·
  exact((Boxed.new' _ (by simp) _ _).alloc _).alloc _
 ·
  exact(Boxed.new' _ (by simp) _ _).alloc _
 ·
  exact Boxed.new' _ (by simp) _ _
def DataAns (w w':World) (L:List Nat) (e:Ending):Prop:=
 (∃ i,i<3/\IsDec (part 64 L i) none/\e=.returned (.tuple #[.slice none 0 0,.int .i64 0,.iface 56 (.int .i64 5)])) \/
 (∃ (r0 r1 r2:List Nat × Nat) (a:Option Addr) (cap:Nat),Good L 0 r0/\Good L 1 r1/\Good L 2 r2/\e=.returned (.tuple #[.slice a 174 cap,.int .i64 ((max (max r0.2 r1.2) r2.2:Nat):Int),.nilIface])/\Own w' w.heap.size 5 (.slice a 174 cap) (r0.1 ++ r1.1 ++ r2.1))
def DS (w:World) (b:Nat) (k:Nat):Prop:=k=b\/(w.heap.size+1<=k/\k<=w.heap.size+6)
def DT (w:World) (b:Nat) (k:Nat):Prop:=k=b\/(w.heap.size+4<=k/\k<=w.heap.size+6)
def ix3:Ix:=⟨3,by decide⟩
def DI (w W1 W:World) (p q b:Nat) (L:List Nat) (pre:List Ix):Prop:=
 (∀ x ∈ pre,x.1≠3)/\∃ (v:Value) (rs:List (List Nat × Nat)),All2 L pre rs/\Boxed W (w.heap.size+1+1+1+1+1) 35 v/\Own W w.heap.size 5 v (dat rs)/\(∀ g,v.ownBlock=some g->g=w.heap.size+1+1+1+1\/W1.heap.size<=g) /\
  Boxed W (w.heap.size+1+1+1+1+1+1) 3 (.int .i64 (mx rs))/\Frm W p q b/\Chg (DT w b) W1 W
theorem Own.keeps {X Y:World} {base:Nat} {e:TypeId} {v:Value} {l:List Nat} (h:Own X base e v l) (hk:Keeps X Y):Own Y base e v l:=by
 refine⟨h.1,?_⟩
 rcases h.2 with h1 | ⟨g,cap,cur,rfl,hb,hh,r⟩
 ·
  exact Or.inl h1
 ·
  exact Or.inr ⟨g,cap,cur,rfl,hb,(hk _ _ _ hh).trans hh,r⟩
theorem DI.keep {w W1 X Y:World} {p q b:Nat} {L:List Nat} {pre:List Ix} {row:Option Nat} (h:DI w W1 X p q b L pre) (hg:X.grownBy Y row) (hr:∀ r,row=some r->W1.heap.size<=r/\∃ o:Obj,X.heap[r]?=some o/\o.isCells=false):DI w W1 Y p q b L pre:=by
 obtain⟨h1,v,rs,h2,h3,h4,h5,h6,h7,h8⟩:=h
 have hk:=kept hg hr
 exact⟨h1,v,rs,h2,boxed_keep h3 hk,h4.keeps hk,h5,boxed_keep h6 hk,h7.keep hk,h8.grown hg (fun k e=>Or.inr (hr k e).1)⟩
set_option maxHeartbeats 4000000 in
theorem data_any (p q b:Nat) (w:World) (h:Frm w p q b) (c o cap:Nat) (L:List Nat) (hL:L.length=256) (bL:Bys L) (hcb:c≠b) (hcs:c<w.heap.size) (hcap:256<=cap)
 (hcell:∀ i,i<256->w.cell? ⟨c,o+i,none⟩=some (.int .u8 (L.getD i 0:Nat))) :
 Calls Tryz.prog 168 #[.pointer (some ⟨p,0,none⟩),.slice (some ⟨c,o,none⟩) 256 cap] w fun e w'=>DataAns w w' L e/\Frm w' p q b/\But b w w':=by
 have HC:=hyd hcell
 clear hcell
 have hmk:=make_room
 refine(callsIn_wide (n:=3)).1 ?_
 refine callsIn_of_wp_marks Tryz.func168 rfl trivial ?_ rfl
 simp only[Tryz.ntmps168,List.size_toArray,List.length_cons,List.length_nil,Nat.reduceAdd,Nat.reduceSub,Array.replicate_succ,Array.replicate_zero,List.push_toArray,List.append_toArray,List.nil_append,List.cons_append]
 gi_wp2_with (refine⟨trivial,?_⟩;gi_at_call 199;refine(callsIn_wide.2 (parts_any _ _ _ _ 64)).mono ?_;rintro e w' ⟨rfl,rfl⟩)
 obtain⟨G1,hs1,x0,x1,x2,x3,x4,x5,x6,x7,x8⟩:=dw_facts w p (.slice (some ⟨c,o,none⟩) 256 cap)
 obtain⟨W1,hW1⟩:∃ W1,dw w p (.slice (some ⟨c,o,none⟩) 256 cap)=W1:=⟨_,rfl⟩
 rw[hW1] at G1 hs1 x0 x1 x2 x3 x4 x5 x6 x7 x8
 unfold dw at hW1
 rw[hW1]
 clear hW1
 have F1:=h.chg G1
 have hp:=h.lt
 have hbs:=h.1.1.lt
 have hqs:=h.1.lt
 have HL:Hid (L.length=4*64):=hyd hL
 have O1:Own W1 w.heap.size 5 (.slice (some ⟨w.heap.size+1+1+1+1,0,none⟩) 0 174) []:=⟨rfl,Or.inr ⟨_,174,bcells z174,rfl,by omega,x4,by decide,by decide,by rw[bcells_size];rfl,by simp⟩⟩
 refine wpIn_rangeFunc_ownG rfl (by omega) (gf:=228) (lb:=#[.pointer (some ⟨w.heap.size+1+1+1+1+1+1+1,0,none⟩),.pointer (some ⟨w.heap.size+1+1+1+1+1+1+1+1,0,none⟩)]) rfl trivial (enters_of Tryz.func228 (by kernel_rfl) rfl)
  (parts64 Fence.wide _ trivial rfl (by omega) _ _ c o cap hcap W1 (by omega) (by omega) x7.cell x8.cell) Kp.t (Kp.b (by omega) (by omega)) (Below.refl _ _) (fun _=>rfl)
  (fun pre W=>DI w W1 W p q b L pre)
  (fun cc pre W=>(cc=.exit 0/\∃ pr,pre=pr ++ [ix3]/\DI w W1 W p q b L pr)\/(cc=.ret/\∃ i,i<3/\IsDec (part 64 L i) none/\Boxed W (w.heap.size+1) 35 (.slice none 0 0)/\Boxed W (w.heap.size+1+1) 3 (.int .i64 0)/\Boxed W (w.heap.size+1+1+1) 33 (.iface 56 (.int .i64 5))/\Frm W p q b/\Chg (DS w b) W1 W))
  (fun pre X Y row hs hg hr=>hs.keep hg hr)
  (fun cc pre X Y row hs hg hr=>by
   rcases hs with ⟨rfl,pr,h1,h2⟩ | ⟨rfl,i,h1,h2,h3,h4,h5,h6,h7⟩
   ·
    exact Or.inl ⟨rfl,pr,h1,h2.keep hg hr⟩
   ·
    have hk:=kept hg hr
    exact Or.inr ⟨rfl,i,h1,h2,boxed_keep h3 hk,boxed_keep h4 hk,boxed_keep h5 hk,h6.keep hk,h7.grown hg (fun k e=>Or.inr (hr k e).1)⟩)
  ⟨by simp,_,[],trivial,x5,O1,(fun g e=>by have e':w.heap.size+1+1+1+1=g:=Option.some.inj e;left;exact e'.symm),x6,F1,Chg.refl _ _⟩
  (fun x=>{ tmps:=#[.pointer (some ⟨p,0,none⟩),.slice (some ⟨c,o,none⟩) 256 cap,.pointer (some ⟨w.heap.size,0,none⟩),undef,.pointer (some ⟨w.heap.size+1,0,none⟩),.pointer (some ⟨w.heap.size+1+1,0,none⟩),.pointer (some ⟨w.heap.size+1+1+1,0,none⟩),.pointer (some ⟨w.heap.size+1+1+1+1+1,0,none⟩),.pointer (some ⟨w.heap.size+1+1+1+1+1+1,0,none⟩),.int .i64 (x.1:Int),.slice (some ⟨c,o+x.1*64,none⟩) 64 (cap - x.1*64),undef,undef,undef,.slice (some ⟨c,o,none⟩) 256 cap,.int .i64 256,.bool false,undef,.slice (some ⟨w.heap.size+1+1+1+1,0,none⟩) 0 174,.slice (some ⟨c,o,none⟩) 256 cap,.func (.func 228) #[] #[.pointer (some ⟨w.heap.size+1+1+1+1+1+1+1,0,none⟩),.pointer (some ⟨w.heap.size+1+1+1+1+1+1+1+1,0,none⟩)],.int .i64 (x.1:Int),.slice (some ⟨c,o+x.1*64,none⟩) 64 (cap - x.1*64),undef,undef,undef,undef,undef,undef,undef,undef,undef,undef,undef,undef,undef,undef,undef,undef,undef,undef,undef,undef,undef,undef,undef],defers:=[] }) ?assign ?body ?done ?stop
 case assign=>
  intro l x W K hK
  dsimp only[encP]
  gi_wp2
  exact hK
 case body=>
  rintro l pre x W ⟨hne,v,rs,hA,y5,O,hv,y6,F,hG⟩ hpl
  have y0:Boxed W w.heap.size 212 (.pointer (some ⟨p,0,none⟩)):=(hG.block _ x0.lt (by unfold DT;omega)).trans x0
  have y1:Boxed W (w.heap.size+1) 35 (.slice none 0 0):=(hG.block _ x1.lt (by unfold DT;omega)).trans x1
  have y2:Boxed W (w.heap.size+1+1) 3 (.int .i64 0):=(hG.block _ x2.lt (by unfold DT;omega)).trans x2
  have y3:Boxed W (w.heap.size+1+1+1) 33 .nilIface:=(hG.block _ x3.lt (by unfold DT;omega)).trans x3
  have hs2:=hG.size
  have z0:=y0.cell
  have z2:W.cell? ⟨p,0,none⟩=some (.pointer (some ⟨q,0,none⟩)):=F.2.cell
  have hbc:∀ o,W.heap[b]?=some o->o.isCells=true:=fun o ho=>by
   obtain⟨c,z,hc,-⟩:=fld_heap F.1.1
   rw[hc] at ho;cases ho;rfl
  obtain⟨i,hi⟩:=x
  dsimp only
  by_cases hx:i=3
  ·
   subst hx
   gi_wp2_with fail
   exact⟨KeepsFrom.refl _ _,Or.inl ⟨rfl,pre,rfl,hne,v,rs,hA,y5,O,hv,y6,F,hG⟩⟩
  ·
   have hx3:=hx
   have hx':((i:Int) == 3)=false:=by simp;omega
   have hpl:=part_length HL.out i hi
   have hpb:=part_bys (z:=64) bL i
   have hcc:∀ j,j<(part 64 L i).length->W.cell? ⟨c,o+i*64+j,none⟩=some (.int .u8 ((part 64 L i).getD j 0:Nat)):=fun j hj=>by
    rw[part_getD 64 L i j (by omega),Nat.add_assoc]
    exact(World.cell?_of_block (w:=W1) (a:=⟨c,o+(i*64+j),none⟩) (hG.block c (by omega) (by unfold DT;omega))).trans ((World.cell?_of_block (w:=w) (a:=⟨c,o+(i*64+j),none⟩) (G1.block c hcs (fun e=>e))).trans (HC.out _ (by omega)))
   have HDec:=hyd (decode_any q b W F.1 c (o+i*64) (cap - i*64) (part 64 L i) hpl hpb hcb (by omega) hcc)
   clear hcc
   gi_wp2_with fail
   refine⟨trivial,(CallsIn.inRound l (callsIn_wide.2 HDec.out)).mono ?_⟩
   rintro e W3 ⟨hD,C3,B3⟩
   clear HDec
   have F3:=F.but C3 B3
   have a1:KeepsFrom W1.heap.size W W3:=B3.chg.keeps (fun k hk o ho=>hbc o (by rw[<-hk];exact ho)) _
   have hs3:=B3.size
   have G3:Chg (DT w b) W1 W3:=hG.trans' B3.chg (fun k _ e=>Or.inl e)
   have u1:Boxed W3 (w.heap.size+1) 35 (.slice none 0 0):=(B3.block _ y1.lt (by omega)).trans y1
   have u2:Boxed W3 (w.heap.size+1+1) 3 (.int .i64 0):=(B3.block _ y2.lt (by omega)).trans y2
   have u3:Boxed W3 (w.heap.size+1+1+1) 33 .nilIface:=(B3.block _ y3.lt (by omega)).trans y3
   have u5:Boxed W3 (w.heap.size+1+1+1+1+1) 35 v:=(B3.block _ y5.lt (by omega)).trans y5
   have u6:Boxed W3 (w.heap.size+1+1+1+1+1+1) 3 (.int .i64 (mx rs)):=(B3.block _ y6.lt (by omega)).trans y6
   have O3:Own W3 w.heap.size 5 v (dat rs):=O.chg B3.chg (fun k hk he hb=>by have:=hv k he;omega)
   have g1:=u1.cell
   have g2:=u2.cell
   have g3:=u3.cell
   have g5:=u5.cell
   have g6:=u6.cell
   have j1:=u1.frozen
   have j2:=u2.frozen
   have j3:=u3.frozen
   have j5:=u5.frozen
   have j6:=u6.frozen
   have q1:=neq_dec_nil
   have q2:=neq_nil_nil
   rcases hD with ⟨h1,rfl⟩ | ⟨m,d,g,h1,h2,h3,h4,rfl,h6,h7⟩
   ·
    obtain⟨k1,k2,k3,k4⟩:=st3_facts u1 u2 u3 (.slice none 0 0) (.int .i64 0) (.iface 56 (.int .i64 5)) (by omega) (by omega) (by omega)
    have hrc:∀ k,(k=(w.heap.size+1)\/k=(w.heap.size+1+1)\/k=(w.heap.size+1+1+1))->∀ o,W3.heap[k]?=some o->o.isCells=true:=fun k hk o ho=>by
     rcases hk with rfl | rfl | rfl
     ·
      rw[show W3.heap[_]?=_ from u1] at ho;cases ho;rfl
     ·
      rw[show W3.heap[_]?=_ from u2] at ho;cases ho;rfl
     ·
      rw[show W3.heap[_]?=_ from u3] at ho;cases ho;rfl
    have a2:=k4.keeps hrc W1.heap.size
    have n1:¬ (b=(w.heap.size+1)\/b=(w.heap.size+1+1)\/b=(w.heap.size+1+1+1)):=by omega
    have n2:¬ (q=(w.heap.size+1)\/q=(w.heap.size+1+1)\/q=(w.heap.size+1+1+1)):=by omega
    have n3:¬ (p=(w.heap.size+1)\/p=(w.heap.size+1+1)\/p=(w.heap.size+1+1+1)):=by omega
    have F4:=F3.other (k4.block _ F3.1.1.lt n1) (k4.block _ F3.1.lt n2) (k4.block _ F3.lt n3)
    have G4:Chg (DS w b) W1 _:=(G3.mono (T:=DS w b) (fun k _ e=>by unfold DT at e;unfold DS;omega)).trans' k4 (fun i hi e=>by show DS w b i;unfold DS;omega)
    gi_wp2_with fail
    exact⟨a1.trans a2,Or.inr ⟨rfl,i,by omega,h1,k1,k2,k3,F4,G4⟩⟩
   ·
    have hA2:=hA.snoc (x:=⟨i,hi⟩) (r:=(m,d)) ⟨h1,h3,h4,h2⟩
    have hdl:=hA.dat_length
    have hml:=hA.mx_le
    have hi5:=info5
    gi_wp2_with (gi_at_builtin;refine wpListIn_append_bytes _ rfl _ _ 35 rfl w.heap.size 5 Tryz.underlying35 hi5 v (dat rs) rfl O3 g 0 58 58 m rfl h3 (fun j hj=>by rw[Nat.zero_add];exact h7.cell j (by omega)) (by omega) (by omega) ?_)
    intro v' w4 O4 hg4 hat
    obtain⟨g4,c4,hv4,hgb4,hgs4,-⟩:=O4.lies (by rw[List.length_append];omega)
    have hnb:∀ k,v.ownBlock=some k->k=w.heap.size+1+1+1+1\/W1.heap.size<=k:=hv
    have hv':g4=w.heap.size+1+1+1+1\/W1.heap.size<=g4:=by
     have e4:v'.ownBlock=some g4:=by rw[hv4];rfl
     rcases hat with h | h
     ·
      exact hv g4 (by rw[<-h];exact e4)
     ·
      rw[e4] at h
      have:=Option.some.inj h
      omega
    subst hv4
    rw[show (dat rs ++ m).length=58*pre.length+58 from by rw[List.length_append];omega] at O4
    have t5:Boxed w4 (w.heap.size+1+1+1+1+1) 35 v:=u5.kept hg4 (fun e=>by have:=hv _ e.symm;omega)
    have t6:Boxed w4 (w.heap.size+1+1+1+1+1+1) 3 (.int .i64 (mx rs)):=u6.kept hg4 (fun e=>by have:=hv _ e.symm;omega)
    have F4:Frm w4 p q b:=F3.other (hg4.block _ F3.1.1.lt (fun e=>by have:=hv _ e.symm;omega)) (hg4.block _ F3.1.lt (fun e=>by have:=hv _ e.symm;omega)) (hg4.block _ F3.lt (fun e=>by have:=hv _ e.symm;omega))
    have hcv:∀ k,v.ownBlock=some k->∀ o,W3.heap[k]?=some o->o.isCells=true:=fun k hk o ho=>by
     rcases O3.2 with ⟨rfl,_⟩ | ⟨g,cap,cur,rfl,_,hh,_⟩
     ·
      cases hk
     ·
      have e:g=k:=Option.some.inj hk
      rw[<-e,hh] at ho;cases ho;rfl
    have a3:KeepsFrom W1.heap.size W3 w4:=⟨hg4.size,fun k o _ h0 ho=>(hg4.block k (Array.getElem?_eq_some_iff.1 h0).1 (fun e=>by rw[hcv k e.symm o h0] at ho;cases ho)).trans h0⟩
    have G4:Chg (DT w b) W1 w4:=G3.grown hg4 (fun k e=>by have:=hv _ e;unfold DT;omega)
    have g5:=t5.cell
    have g6:=t6.cell
    have j5:=t5.frozen
    have j6:=t6.frozen
    have hs4:=hg4.size
    have hk1:∀ k,k<W.heap.size->k≠b->v.ownBlock≠some k->w4.heap[k]?=W.heap[k]?:=fun k hk hb hv=>(hg4.block k (by omega) (fun e=>hv e.symm)).trans (B3.block k hk hb)
    have fin:∀ x:Nat,x=max (mx rs) d->∀ Y,(w4.setCell ⟨w.heap.size+1+1+1+1+1,0,none⟩ (.slice (some ⟨g4,0,none⟩) (58*pre.length+58) c4)).setCell ⟨w.heap.size+1+1+1+1+1+1,0,none⟩ (.int .i64 (x:Int))=Y->KeepsFrom (w.heap.size+9) W Y/\Kp (w.heap.size+1+1+1+1+1+1+1) (w.heap.size+1+1+1+1+1+1+1+1) W Y/\DI w W1 Y p q b L (pre ++ [⟨i,hi⟩]):=fun x hx Y hY=>by
     have e5:Boxed Y (w.heap.size+1+1+1+1+1) 35 (.slice (some ⟨g4,0,none⟩) (58*pre.length+58) c4):=by rw[<-hY];exact(t5.set _).other (by omega) _
     have e6:Boxed Y (w.heap.size+1+1+1+1+1+1) 3 (.int .i64 (x:Int)):=by rw[<-hY];exact(t6.other (by omega) _).set _
     have K4:Chg (fun k=>k=(w.heap.size+1+1+1+1+1)\/k=(w.heap.size+1+1+1+1+1+1)) w4 Y:=by rw[<-hY];exact((Chg.refl _ w4).setCell (Or.inl (Or.inl rfl)) 0 _).setCell (Or.inl (Or.inr rfl)) 0 _
     have hrc:∀ k,(k=(w.heap.size+1+1+1+1+1)\/k=(w.heap.size+1+1+1+1+1+1))->∀ o,w4.heap[k]?=some o->o.isCells=true:=fun k hk o ho=>by
      rcases hk with rfl | rfl
      ·
       rw[show w4.heap[_]?=_ from t5] at ho;cases ho;rfl
      ·
       rw[show w4.heap[_]?=_ from t6] at ho;cases ho;rfl
     have a4:=K4.keeps hrc W1.heap.size
     rw[<-hs1]
     refine⟨(a1.trans a3).trans a4,⟨?_,?_⟩,?_,_,rs ++ [(m,d)],hA2,e5,?_,?_,by rw[mx_snoc,<-hx];exact e6,?_,?_⟩
     ·
      exact(K4.block _ (by omega) (by omega)).trans (hk1 _ (by omega) (by omega) (fun e=>by have:=hv _ e;omega))
     ·
      exact(K4.block _ (by omega) (by omega)).trans (hk1 _ (by omega) (by omega) (fun e=>by have:=hv _ e;omega))
     ·
      intro z hz
      rcases List.mem_append.1 hz with h1 | h1
      ·
       exact hne z h1
      ·
       simp at h1;subst h1;simpa using hx3
     ·
      rw[dat_snoc]
      refine O4.chg K4 (fun k hk he=>?_)
      have:g4=k:=Option.some.inj he
      omega
     ·
      intro k he
      have:g4=k:=Option.some.inj he
      omega
     ·
      exact F4.other (K4.block _ F4.1.1.lt (by omega)) (K4.block _ F4.1.lt (by omega)) (K4.block _ F4.lt (by omega))
     ·
      exact G4.trans' K4 (fun k hk e=>by show DT w b k;unfold DT;omega)
    have HF:=hyd fin
    clear O3 O4 O hg4 hat fin hk1
    gi_wp2_with fail
    ·
     exact HF.out _ (by omega) _ rfl
    ·
     exact HF.out _ (by omega) _ rfl
 case done=>
  rintro D ys W hD rfl ⟨hne,-⟩ hK
  have h3:(⟨3,by decide⟩:Ix) ∈ upto 4:=by decide
  exact absurd rfl (hne _ h3)
 case stop=>
  rintro D cc pre W hD ⟨kk,hkk,rfl⟩ (⟨rfl,pr,e1,hne,v,rs,hA,y5,O,hv,y6,F,hG⟩ | ⟨rfl,i,h1,h2,h3,h4,h5,h6,h7⟩) hK
  ·
   have hpr:pr=upto 3/\kk=4:=by
    have hl:kk=pr.length+1:=by
     have:=congrArg List.length e1
     rw[upto_length kk hkk,List.length_append] at this
     exact this
    have h2:kk=4:=by
     obtain⟨k',rfl⟩:∃ k',kk=k'+1:=⟨pr.length,hl⟩
     rw[upto_succ k' (by omega)] at e1
     have e5:=(List.append_inj' e1 rfl).2
     have e6:(⟨k',by omega⟩:Ix)=ix3:=by simpa using e5
     have:k'=3:=congrArg Subtype.val e6
     omega
    subst h2
    rw[upto_succ 3 (by omega)] at e1
    exact⟨((List.append_inj' e1 rfl).1).symm,rfl⟩
   obtain⟨rfl,rfl⟩:=hpr
   have hrl:=hA.length
   have hdl:=hA.dat_length
   rw[upto_length 3 (by omega)] at hrl hdl
   match rs,hrl,hA with
   | [r0,r1,r2],_,hA=>
    obtain⟨t0,t1,t2,-⟩:Good L 0 r0/\Good L 1 r1/\Good L 2 r2/\True:=⟨hA.1,hA.2.1,hA.2.2.1,trivial⟩
    have ed:dat [r0,r1,r2]=r0.1 ++ r1.1 ++ r2.1:=by simp[dat]
    have em:mx [r0,r1,r2]=max (max r0.2 r1.2) r2.2:=by simp[mx]
    rw[ed] at O hdl
    rw[em] at y6
    obtain⟨g4,c4,hv4,-⟩:=O.lies (by omega)
    rw[hdl] at hv4
    subst hv4
    have y1:Boxed W (w.heap.size+1) 35 (.slice none 0 0):=(hG.block _ x1.lt (by unfold DT;omega)).trans x1
    have y2:Boxed W (w.heap.size+1+1) 3 (.int .i64 0):=(hG.block _ x2.lt (by unfold DT;omega)).trans x2
    have y3:Boxed W (w.heap.size+1+1+1) 33 .nilIface:=(hG.block _ x3.lt (by unfold DT;omega)).trans x3
    obtain⟨k1,k2,k3,k4⟩:=st3_facts y1 y2 y3 (.slice (some ⟨g4,0,none⟩) 174 c4) (.int .i64 ((max (max r0.2 r1.2) r2.2:Nat):Int)) .nilIface (by omega) (by omega) (by omega)
    have c1:=y1.cell
    have c2:=y2.cell
    have c3:=y3.cell
    have c5:=y5.cell
    have c6:=y6.cell
    have f1:=y1.frozen
    have f2:=y2.frozen
    have f3:=y3.frozen
    have hgv:=hv g4 rfl
    have HO:=hyd O
    have HF:=hyd F
    have HG:=hyd hG
    obtain⟨M,hM⟩:∃ M,max (max r0.2 r1.2) r2.2=M:=⟨_,rfl⟩
    rw[hM] at k1 k2 k3 k4 c6 y6
    have HM:=hyd hM
    clear hM
    clear O F hG hA
    gi_wp2_with fail
    gi_region
    have hY:((W.setCell ⟨w.heap.size+1,0,none⟩ (.slice (some ⟨g4,0,none⟩) 174 c4)).setCell ⟨w.heap.size+1+1,0,none⟩ (.int .i64 (M:Int))).setCell ⟨w.heap.size+1+1+1,0,none⟩ .nilIface=st3 W (w.heap.size+1) (w.heap.size+1+1) (w.heap.size+1+1+1) (.slice (some ⟨g4,0,none⟩) 174 c4) (.int .i64 (M:Int)) .nilIface:=rfl
    rw[hY]
    clear hY
    have hK2:(st3 W (w.heap.size+1) (w.heap.size+1+1) (w.heap.size+1+1+1) (.slice (some ⟨g4,0,none⟩) 174 c4) (.int .i64 (M:Int)) .nilIface).heap[D]?=some (.deferred (some [])):=(k4.block D (Array.getElem?_eq_some_iff.1 hK).1 (by omega)).trans hK
    have F5:=HF.out.other (k4.block _ HF.out.1.1.lt (by omega)) (k4.block _ HF.out.1.lt (by omega)) (k4.block _ HF.out.lt (by omega))
    have O5:=HO.out.chg k4 (fun k hk he=>by have:g4=k:=Option.some.inj he;omega)
    have G5:Chg (·=b) w (st3 W (w.heap.size+1) (w.heap.size+1+1) (w.heap.size+1+1+1) (.slice (some ⟨g4,0,none⟩) 174 c4) (.int .i64 (M:Int)) .nilIface):=((G1.mono (T:=(·=b)) (fun _ _ e=>e.elim)).trans' HG.out (fun k hk e=>by unfold DT at e;omega)).trans' k4 (fun k hk e=>by omega)
    generalize st3 W (w.heap.size+1) (w.heap.size+1+1) (w.heap.size+1+1+1) (.slice (some ⟨g4,0,none⟩) 174 c4) (.int .i64 (M:Int)) .nilIface=Y at *
    gi_wp2_with fail
    refine⟨by simp,.inl ⟨_,_,rfl,run_takeDeferred (w:=Y.drew) hK2,?_⟩⟩
    have hkp:Keeps Y (Y.drew.putObj D (.deferred none)):=put_kept (X:=Y.drew) (.deferred none) hK2 rfl
    have G6:=G5.drew.grown (grownBy_putObj' Y.drew D (.deferred none)) (fun k e=>Or.inr (by cases e;omega))
    exact⟨_,results3 rfl _ rfl rfl rfl (boxed_keep k1 hkp) (boxed_keep k2 hkp) (boxed_keep k3 hkp),Or.inr ⟨r0,r1,r2,_,c4,t0,t1,t2,by rw[HM.out],O5.keeps hkp⟩,F5.keep hkp,⟨G6.os,G6.tape,G6.output,G6.size,G6.block⟩⟩
  ·
   gi_wp2
   refine⟨by simp,.inl ⟨_,_,rfl,run_takeDeferred hK,?_⟩⟩
   have hkp:=put_kept (.deferred none) hK rfl
   have G5:=((G1.mono (T:=(·=b)) (fun _ _ e=>e.elim)).trans' h7 (fun k hk e=>by unfold DS at e;omega)).grown (grownBy_putObj' W D (.deferred none)) (fun k e=>Or.inr (by cases e;omega))
   exact⟨_,results3 rfl _ rfl rfl rfl (boxed_keep h3 hkp) (boxed_keep h4 hkp) (boxed_keep h5 hkp),Or.inl ⟨i,h1,h2,rfl⟩,h6.keep hkp,⟨G5.os,G5.tape,G5.output,G5.size,G5.block⟩⟩
end Go.Proofs.YtbhbilcieodbhaaGreat
namespace Go.Proofs.YtbhbilcieodbhaaGreat
open Go.RowKit Go.Shelf
set_option maxRecDepth 100000
theorem eql_mark_nil (w:World):(binOp .eql 33 (.iface 56 (.int .i64 6)) .nilIface).run Tryz.prog w=.ok (.bool false) w:=by kernel_rfl
theorem neq_mark_nil (w:World):(binOp .neq 33 (.iface 56 (.int .i64 6)) .nilIface).run Tryz.prog w=.ok (.bool true) w:=by kernel_rfl
set_option maxHeartbeats 1000000 in
theorem body_arg (p:Nat) (w:World) (a:Option Addr) (n cap:Nat) (hn:n≠256) :
 Calls Tryz.prog 197 #[.pointer (some ⟨p,0,none⟩),.slice a n cap] w fun e w'=>e=.returned (.tuple #[.slice none 0 0,.int .i64 0,.iface 56 (.int .i64 1)])/\Chg (fun _=>False) w w':=by
 have q1:=neq_arg_nil
 go_enter Tryz.func197,Tryz.ntmps197
 go_wp2_with fail
 refine(message_arg p w a n cap 3 hn).mono ?_
 rintro e w1 ⟨rfl,G1⟩
 go_wp2
 go_ret3
 exact⟨rfl,G1⟩
def BodyAns (w w':World) (L:List Nat) (e:Ending):Prop:=
 (IsDec (part 64 L 3) none/\e=.returned (.tuple #[.slice none 0 0,.int .i64 0,.iface 56 (.int .i64 5)])) \/
 (∃ r:List Nat × Nat,Good L 3 r/\r.1.drop 50≠mk/\e=.returned (.tuple #[.slice none 0 0,.int .i64 0,.iface 56 (.int .i64 6)])) \/
 (∃ (r:List Nat × Nat) (g:Nat),Good L 3 r/\r.1.drop 50=mk/\e=.returned (.tuple #[.slice (some ⟨g,0,none⟩) 50 50,.int .i64 (r.2:Int),.nilIface])/\w.heap.size<=g/\Arr w' g 5 r.1)
set_option maxHeartbeats 2000000 in
theorem body_any (p q b:Nat) (w:World) (h:Frm w p q b) (c o cap:Nat) (L:List Nat) (hL:L.length=256) (bL:Bys L) (hcb:c≠b) (hcs:c<w.heap.size) (hcap:256<=cap)
 (hcell:∀ i,i<256->w.cell? ⟨c,o+i,none⟩=some (.int .u8 (L.getD i 0:Nat))) :
 Calls Tryz.prog 197 #[.pointer (some ⟨p,0,none⟩),.slice (some ⟨c,o,none⟩) 256 cap] w fun e w'=>BodyAns w w' L e/\Frm w' p q b/\But b w w':=by
 have HM:=hyd (message_any p q b w h c o cap L hL bL hcb hcs hcap hcell 3)
 clear hcell
 have q1:=neq_dec_nil
 have q2:=neq_nil_nil
 have q3:=neq_mark_nil
 go_enter Tryz.func197,Tryz.ntmps197
 go_wp2_with fail
 refine HM.out.mono ?_
 rintro e w1 ⟨hD,F1,B1⟩
 clear HM
 have hs1:=B1.size
 rcases hD with ⟨i,hi,e3,hD⟩ | ⟨hD,-⟩
 ·
  have:i=3:=by omega
  subst this
  rcases hD with ⟨hN,rfl⟩ | ⟨m,d,g,h1,h2,h3,h4,rfl,h6,h7⟩
  ·
   go_wp2
   go_ret3
   exact⟨Or.inl ⟨hN,rfl⟩,F1,B1⟩
  ·
   have hgood:Good L 3 (m,d):=⟨h1,h3,h4,h2⟩
   by_cases hm:m.drop 50=mk
   ·
    have HO:=hyd (open_mark w1 g 0 58 (by omega) m h3 h4 h7.lt h7.at0 hm)
    go_wp2_with fail
    refine HO.out.mono ?_
    rintro e w2 ⟨g2,rfl,hg2,A2,G2⟩
    go_wp2
    go_ret3
    exact⟨Or.inr (Or.inr ⟨(m,d),g2,hgood,hm,rfl,by omega,A2⟩),F1.chg G2,B1.trans G2.but⟩
   ·
    have HO:=hyd (open_none w1 g 0 58 (by omega) m h3 h4 h7.at0 hm)
    go_wp2_with fail
    refine HO.out.mono ?_
    rintro e w2 ⟨rfl,rfl⟩
    go_wp2
    go_ret3
    exact⟨Or.inr (Or.inl ⟨(m,d),hgood,hm,rfl⟩),F1,B1⟩
 ·
  omega
end Go.Proofs.YtbhbilcieodbhaaGreat
