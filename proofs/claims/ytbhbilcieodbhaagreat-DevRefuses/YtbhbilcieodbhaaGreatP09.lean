/-
  Worlds that differ in some blocks alone; blocks and slices that hold founds; append. Condition of append: there is room (at most 2^47 bytes).
-/
import Derived.Test.YtbhbilcieodbhaaGreatP05
import Derived.Test.YtbhbilcieodbhaaGreatP08
import Derived.WalkKit
import Derived.Deep.RegionWith
import Derived.Deep.Draws
import Derived.BigQuiet
import Derived.ChangeAlike
import Derived.Deep.QuietTactic
import Derived.Outline
import Derived.RegionCalls
import Derived.RegionTactic
import Derived.WalkLawsBesides
import Derived.WalkSpells
import Derived.Maps.AppendAt
import Derived.Deep.MidRow
import Derived.Deep.RegionHeld3
import Derived.ChangeKeysEq
import Derived.Laws.StructEq
import Derived.Test.YtbhbilcieodbhaaGreatP03
import Derived.Carry
import Derived.Deep.LoopGhost
import Derived.Test.YtbhbilcieodbhaaGreatP04
import Derived.Test.YtbhbilcieodbhaaGreatP07
namespace Go.Proofs.YtbhbilcieodbhaaGreat.Claim
set_option maxRecDepth 100000
open Go.RowKit
open Point
open Go.RowKit Go.Sort
theorem fA_one (f:Fnd):(fA f).all (·.oneCell')=true:=all_oneCell_toArray (fL_one f)
def Fo (w:World) (b:Nat) (f:Fnd):Prop:=w.heap[b]?=some (.cells (fA f) 219)
theorem Fo.new (w:World) (f:Fnd):Fo (w.alloc (.cells (fA f) 219)) w.heap.size f:=by
 show (w.heap.push _)[w.heap.size]?=_
 simp
theorem Fo.lt {w:World} {b:Nat} {f:Fnd} (h:Fo w b f):b<w.heap.size:=(Array.getElem?_eq_some_iff.1 (show w.heap[b]?=some _ from h)).1
theorem Fo.chg {S:Nat->Prop} {w w':World} {b:Nat} {f:Fnd} (h:Fo w b f) (hc:Chg S w w') (hb:¬ S b):Fo w' b f:=(hc.block b h.lt hb).trans h
theorem Fo.cell {w:World} {b:Nat} {f:Fnd} (h:Fo w b f) (i:Nat) {v:Value} (hv:(fL f)[i]?=some v):w.cell? ⟨b,i,none⟩=some v:=by
 have h':w.heap[b]?=some _:=h
 simp only[World.cell?,h',fA]
 simpa using hv
theorem Fo.cells {w:World} {b:Nat} {f:Fnd} (h:Fo w b f):w.cell? ⟨b,0,none⟩=some (.int .i64 f.P)/\w.cell? ⟨b,1,none⟩=some (.int .i64 f.T)/\w.cell? ⟨b,2,none⟩=some (.int .i64 f.O)/\w.cell? ⟨b,3,none⟩=some (.int .i64 f.S)/\w.cell? ⟨b,4,none⟩=some (.int .i64 f.C)/\w.cell? ⟨b,5,none⟩=some (.bool f.L):=
 ⟨h.cell 0 rfl,h.cell 1 rfl,h.cell 2 rfl,h.cell 3 rfl,h.cell 4 rfl,h.cell 5 rfl⟩
theorem size28:(Tryz.prog.info? 219).map (·.size)=some 6:=by kernel_rfl
theorem wpList_load_fo {ops:Array Oper} {rest:List Oper} {o:Oper} {a:Act} {w:World} {Q:Exit->Act->World->Prop} (hgd:o.guard=none) (x:Operand) (ho:o.op=.load 219 x)
 (g:Nat) (hx:a.eval x=.pointer (some ⟨g,0,none⟩)) {f:Fnd} (hg:Fo w g f)
 (h:wpList Tryz.prog ops Q rest (a.put o.dst (.agg (fA f))) w):wpList Tryz.prog ops Q (o :: rest) a w:=
 wpList_load_row hgd 219 x ho g hx 219 _ _ _ hg Tryz.underlying219 rfl size28 h
theorem wpList_load_at {ops:Array Oper} {rest:List Oper} {o:Oper} {a:Act} {w:World} {Q:Exit->Act->World->Prop} (hgd:o.guard=none) (x:Operand) (ho:o.op=.load 219 x)
 (g q:Nat) (hx:a.eval x=.pointer (some ⟨g,q,none⟩)) {f:Fnd} (hg:w.rangeAt g q (fL f))
 (h:wpList Tryz.prog ops Q rest (a.put o.dst (.agg (fA f))) w):wpList Tryz.prog ops Q (o :: rest) a w:=
 wpList_load_mid hgd 219 x ho g q hx (fL f) _ hg Tryz.underlying219 rfl size28 h
theorem wpList_store_fo {ops:Array Oper} {rest:List Oper} {o:Oper} {a:Act} {w:World} {Q:Exit->Act->World->Prop} (hgd:o.guard=none) (x y:Operand) (ho:o.op=.store 219 x y)
 (g:Nat) (hx:a.eval x=.pointer (some ⟨g,0,none⟩)) {f:Fnd} (hy:a.eval y=.agg (fA f)) {f':Fnd} (hg:Fo w g f')
 (h:∀ w',Fo w' g f->Chg (·=g) w w'->wpList Tryz.prog ops Q rest (a.put o.dst undef) w'):wpList Tryz.prog ops Q (o :: rest) a w:=
 wpList_store_row hgd 219 x y ho g _ hx hy 219 _ hg size28 rfl (fA_one f) (h _ (setRow_heap w g _ _ 219 _ hg) ⟨rfl,rfl,rfl,by simp,fun k _ hk=>setRow_other _ _ _ _ hk⟩)
theorem zero28 (w:World):(zeroValue 219).run Tryz.prog w=.ok (.agg (fA f0)) w:=by kernel_rfl
theorem build28 (w:World):(Instr.build 219 #[]).run Tryz.prog w=.ok (.agg (fA f0)) w:=by kernel_rfl
theorem wpList_alloc_fo {ops:Array Oper} {rest:List Oper} {o:Oper} {a:Act} {w:World} {Q:Exit->Act->World->Prop} (hgd:o.guard=none) (ho:o.op=.alloc 219) (N:Nat) (hN:w.heap.size=N)
 (h:∀ w',Fo w' N f0->Chg (fun _=>False) w w'->w'.heap.size=N+1->wpList Tryz.prog ops Q rest (a.put o.dst (.pointer (some ⟨N,0,none⟩))) w'):wpList Tryz.prog ops Q (o :: rest) a w:=by
 refine wpList_plain hgd fun K hK=>?_
 have hz:=zero28
 unfold Oper.wp
 simp[execOp,ho,Instr.alloc,hz,newVar,Value.cells,newRow]
 rw[hN]
 exact hK _ _ (h _ (by rw[<-hN];exact Fo.new w f0) ((Chg.refl _ w).alloc _) (by simp[hN]))
theorem wpList_build_fo {ops:Array Oper} {rest:List Oper} {o:Oper} {a:Act} {w:World} {Q:Exit->Act->World->Prop} (hgd:o.guard=none) (ho:o.op=.build 219 #[])
 (h:wpList Tryz.prog ops Q rest (a.put o.dst (.agg (fA f0))) w):wpList Tryz.prog ops Q (o :: rest) a w:=by
 refine wpList_plain hgd fun K hK=>?_
 have hz:=build28
 unfold Oper.wp
 simp[execOp,ho,hz]
 exact hK _ _ h
def At6 (w:World) (g o:Nat) (l:List Fnd):Prop:=g<w.heap.size/\∀ i f,l[i]?=some f->w.rangeAt g (o+i*6) (fL f)
def Sl (w:World) (v:Value) (l:List Fnd):Prop:=∃ a cap,v=.slice a l.length cap/\l.length<=cap/\(l.length=0\/∃ g o,a=some ⟨g,o,none⟩/\At6 w g o l)
theorem rangeAt_chg {S:Nat->Prop} {w w':World} {g o:Nat} {cs:List Value} (h:w.rangeAt g o cs) (hc:Chg S w w') (hg:g<w.heap.size) (hs:¬ S g):w'.rangeAt g o cs:=fun j v hv=>(hc.cell hg hs _).trans (h j v hv)
theorem At6.chg {S:Nat->Prop} {w w':World} {g o:Nat} {l:List Fnd} (h:At6 w g o l) (hc:Chg S w w') (hs:¬ S g):At6 w' g o l:=
 ⟨Nat.lt_of_lt_of_le h.1 hc.size,fun i f hi=>rangeAt_chg (h.2 i f hi) hc h.1 hs⟩
theorem Sl.new {w w':World} {v:Value} {l:List Fnd} (h:Sl w v l) (hc:Chg (fun _=>False) w w'):Sl w' v l:=by
 obtain⟨a,cap,rfl,hcap,h⟩:=h
 refine⟨a,cap,rfl,hcap,?_⟩
 rcases h with h | ⟨g,o,rfl,h⟩
 ·
  exact Or.inl h
 ·
  exact Or.inr ⟨g,o,rfl,h.chg hc (fun f=>f)⟩
def Ow (w:World) (base:Nat) (v:Value) (l:List Fnd):Prop:=w.ownsRow base 219 6 v l.length (l.flatMap fL)
theorem flat_get:∀ (l:List Fnd) (i:Nat) (f:Fnd) (j:Nat),l[i]?=some f->j<6->(l.flatMap fL)[i*6+j]?=(fL f)[j]?
 | [],i,f,j,h,_=>by simp at h
 | x :: r,0,f,j,h,hj=>by
  have e:x=f:=by simpa using h
  subst e
  rw[List.flatMap_cons,Nat.zero_mul,Nat.zero_add,List.getElem?_append_left (by rw[fL_length];exact hj)]
 | x :: r,i+1,f,j,h,hj=>by
  have h':r[i]?=some f:=by simpa using h
  rw[List.flatMap_cons,List.getElem?_append_right (by rw[fL_length];omega),fL_length,show (i+1)*6+j - 6=i*6+j by omega,flat_get r i f j h' hj]
theorem flat_length (l:List Fnd):(l.flatMap fL).length=l.length*6:=by
 induction l with
 | nil=>rfl
 | cons x r ih=>rw[List.flatMap_cons,List.length_append,ih,fL_length,List.length_cons];omega
theorem flat_one (l:List Fnd):∀ v ∈ l.flatMap fL,v.oneCell'=true:=by
 intro v hv
 obtain⟨f,_,h⟩:=List.mem_flatMap.1 hv
 exact fL_one f v h
theorem Ow.nil (w:World) (base:Nat):Ow w base (.slice none 0 0) []:=⟨rfl,Or.inl ⟨rfl,rfl⟩⟩
theorem Ow.lies {w:World} {base:Nat} {v:Value} {l:List Fnd} (h:Ow w base v l) (h0:l.length≠0) :
 ∃ g cap,v=.slice (some ⟨g,0,none⟩) l.length cap/\l.length<=cap/\base<=g/\At6 w g 0 l/\(∀ i,w.frozen? ⟨g,i,none⟩=false)/\∀ j u,(l.flatMap fL)[j]?=some u->w.cell? ⟨g,j,none⟩=some u:=by
 have hcl:=fun g hg=>World.ownsRow.cells (g:=g) h hg
 rcases h.2 with ⟨_,h1⟩ | ⟨g,cap,cur,hv,hg,hh,hn,hm,hs,ht⟩
 ·
  exact absurd h1 h0
 ·
  have hc:∀ j u,(l.flatMap fL)[j]?=some u->w.cell? ⟨g,j,none⟩=some u:=fun j u hu=>by
   have:=hcl g (by rw[hv];rfl) j u hu
   rw[Addr.add_mid,Nat.zero_add] at this
   exact this
  refine⟨g,cap,hv,hn,hg,⟨(Array.getElem?_eq_some_iff.1 hh).1,fun i f hi j u hu=>?_⟩,fun i=>by simp[World.frozen?,hh],hc⟩
  have hj:j<6:=by have:=(List.getElem?_eq_some_iff.1 hu).1;rwa [fL_length] at this
  rw[Nat.zero_add]
  exact hc _ _ ((flat_get l i f j hi hj).trans hu)
theorem Ow.sl {w:World} {base:Nat} {v:Value} {l:List Fnd} (h:Ow w base v l):Sl w v l:=by
 by_cases h0:l.length=0
 ·
  rcases h.2 with ⟨rfl,_⟩ | ⟨g,cap,cur,rfl,_⟩
  ·
   exact⟨none,0,by rw[h0],by omega,Or.inl h0⟩
  ·
   exact⟨_,cap,rfl,by omega,Or.inl h0⟩
 ·
  obtain⟨g,cap,rfl,hcap,_,hA,_⟩:=h.lies h0
  exact⟨_,cap,rfl,hcap,Or.inr ⟨g,0,rfl,hA⟩⟩
theorem Ow.keep {w w':World} {base:Nat} {v:Value} {l:List Fnd} (h:Ow w base v l) (hk:∀ k,k<w.heap.size->v.ownBlock=some k->w'.heap[k]?=w.heap[k]?):Ow w' base v l:=by
 refine⟨h.1,?_⟩
 rcases h.2 with h1 | ⟨g,cap,cur,rfl,hb,hh,r⟩
 ·
  exact Or.inl h1
 ·
  exact Or.inr ⟨g,cap,cur,rfl,hb,(hk g (Array.getElem?_eq_some_iff.1 hh).1 rfl).trans hh,r⟩
theorem Ow.chg {S:Nat->Prop} {w w':World} {base:Nat} {v:Value} {l:List Fnd} (h:Ow w base v l) (hc:Chg S w w') (hs:∀ k,k<w.heap.size->v.ownBlock=some k->¬ S k):Ow w' base v l:=
 h.keep (fun k hk he=>hc.block k hk (hs k hk he))
theorem Ow.new {w w':World} {base:Nat} {v:Value} {l:List Fnd} (h:Ow w base v l) (hc:Chg (fun _=>False) w w'):Ow w' base v l:=h.chg hc (fun _ _ _ f=>f)
theorem Ow.block {w:World} {base:Nat} {v:Value} {l:List Fnd} (h:Ow w base v l) {k:Nat} (hk:v.ownBlock=some k):base<=k/\k<w.heap.size:=h.lt k hk
theorem info28:∃ i,Tryz.prog.info? 219=some i/\i.zero=some (.agg (fA f0))/\i.size=6/\i.bytes=48:=by
 have h:(Tryz.prog.info? 219).map (fun i=>(i.zero,i.size,i.bytes))=some (some (.agg (fA f0)),6,48):=by kernel_rfl
 cases e:Tryz.prog.info? 219 with
 | none=>rw[e] at h;cases h
 | some i=>
  rw[e] at h
  simp only[Option.map_some,Option.some.injEq,Prod.mk.injEq] at h
  exact⟨i,rfl,h.1,h.2.1,h.2.2⟩
theorem wpList_append_fo (w:World) {ops:Array Oper} {rest:List Oper} {o:Oper} {a:Act} {Q:Exit->Act->World->Prop} (hgd:o.guard=none) (s x:Operand)
 (ho:o.op=.call { callee:=.builtin .append,args:=#[s,x],argTypes:=#[144,144] })
 (base:Nat) (v:Value) (l:List Fnd) (hs:a.eval s=v) (hown:Ow w base v l)
 (g q m c:Nat) (l2:List Fnd) (hx:a.eval x=.slice (some ⟨g,q,none⟩) m c) (hm:l2.length=m) (hA:At6 w g q l2)
 (hbytes:l.length+m<=2932031007402) (hbase:base<=w.heap.size)
 (h:∀ v' w',Ow w' base v' (l ++ l2)->Chg (fun k=>v.ownBlock=some k) w w'->wpList Tryz.prog ops Q rest (a.put o.dst v') w'):wpList Tryz.prog ops Q (o :: rest) a w:=by
 obtain⟨i,hi1,hi2,hi3,hi4⟩:=info28
 refine wpList_append_own_at w hgd s x 144 ho base 219 i (.agg (fA f0)) 6 48 Tryz.underlying144 hi1 hi2 hi3 hi4 rfl (by decide) v l.length (l.flatMap fL) hs hown ⟨g,q,none⟩ m c (l2.flatMap fL) hx (by rw[flat_length,hm]) ?_ (flat_one l2) (by unfold maxLen;omega) (by omega) hbase ?_
 ·
  intro j u hu
  have hj:j<l2.length*6:=by rw[<-flat_length];exact(List.getElem?_eq_some_iff.1 hu).1
  have e:l2[j / 6]?=some (l2[j / 6]'(by omega)):=List.getElem?_eq_getElem _
  have hf:=flat_get l2 (j / 6) _ (j % 6) e (Nat.mod_lt _ (by decide))
  rw[show j / 6*6+j % 6=j by omega,hu] at hf
  have:=hA.2 (j / 6) _ e (j % 6) u hf.symm
  rw[show q+j / 6*6+j % 6=q+j by omega] at this
  rw[Addr.add_mid]
  exact this
 ·
  intro v' w' h1 h2 _ _
  refine h v' w' ?_ ⟨h2.os,h2.tape,h2.output,h2.size,fun k hk hs=>h2.block k hk (fun e=>hs e.symm)⟩
  unfold Ow
  rw[List.length_append,hm,List.flatMap_append]
  exact h1
theorem At6.one {w:World} {g:Nat} {f:Fnd} (h:Fo w g f):At6 w g 0 [f]:=⟨h.lt,fun i f' hi=>by
 match i,hi with
 | 0,hi=>
  have e:f=f':=by simpa using hi
  subst e
  intro j v hv
  rw[Nat.zero_mul,Nat.zero_add]
  exact h.cell j hv⟩
end Go.Proofs.YtbhbilcieodbhaaGreat.Claim
/-
  Checkpoints: their 62 cells, a block that holds them, loads and stores. No condition: lemmas.
-/
namespace Go.Proofs.YtbhbilcieodbhaaGreat.Claim
set_option maxRecDepth 100000
open Go.RowKit
open Point
theorem size32:(Tryz.prog.info? 116).map (·.size)=some 24:=by kernel_rfl
theorem size33:(Tryz.prog.info? 140).map (·.size)=some 12:=by kernel_rfl
theorem index32 (f:Nat->Int) (i:Nat) (hi:i<24) (w:World):(Instr.index 116 (.agg (ints f 24).toArray) (.int .i64 i)).run Tryz.prog w=.ok (.int .i64 (f i)) w:=by
 have h:=ints_at f 24 i hi
 generalize ints f 24=L at *
 simp[Instr.index,run_underlying Tryz.underlying116,asIntOf,go_sem,hi,h,i6]
end Go.Proofs.YtbhbilcieodbhaaGreat.Claim
/-
  The small functions: below, sound, Ahead, cmp.Compare, cmp.Or, and the function that the sort is handed. No condition: lemmas.
-/
namespace Go.Proofs.YtbhbilcieodbhaaGreat.Claim
set_option maxRecDepth 100000
open Go.RowKit
open Point
open Go.RowKit Go.Sort
def blw (a n:Int):Bool:=decide (0<=a) && decide (a<n)
theorem blw_true {a n:Int} (h:blw a n=true):0<=a/\a<n:=by simpa[blw] using h
theorem blw_false {a n:Int} (h:blw a n=false):a<0\/n<=a:=by
 simp only[blw,Bool.and_eq_false_iff,decide_eq_false_iff_not] at h
 omega
theorem blw_yes {a n:Int} (h1:0<=a) (h2:a<n):blw a n=true:=by simp[blw,h1,h2]
theorem blw_no {a n:Int} (h:a<0\/n<=a):blw a n=false:=by
 simp only[blw,Bool.and_eq_false_iff,decide_eq_false_iff_not]
 omega
theorem snd_blw (f:Fnd):snd f=(blw f.P 96 && (blw f.O 25 && (blw f.S 1099511627776 && blw f.C 256))):=by
 simp only[snd,blw,Bool.and_assoc]
set_option maxHeartbeats 1000000 in
theorem below_any (a n:Int) (w:World):Calls Tryz.prog 207 #[.int .i64 a,.int .i64 n] w fun e w'=>e=.returned (.bool (blw a n))/\w'=w:=by
 by_cases h1:0<=a
 ·
  by_cases h2:a<n
  ·
   have hb:=blw_yes h1 h2
   go_enter Tryz.func207,Tryz.ntmps207
   go_wp2
   go_ret
   exact⟨by rw[hb];rfl,rfl⟩
  ·
   have hb:Hid (blw a n=false):=blw_no (by omega)
   go_enter Tryz.func207,Tryz.ntmps207
   go_wp2
   go_ret
   exact⟨by rw[hb.out];rfl,rfl⟩
 ·
  have hb:Hid (blw a n=false):=blw_no (by omega)
  go_enter Tryz.func207,Tryz.ntmps207
  go_wp2
  go_ret
  exact⟨by rw[hb.out];rfl,rfl⟩
set_option maxHeartbeats 1000000 in
theorem below64_any (a n:Int) (w:World):Calls Tryz.prog 230 #[.int .i64 a,.int .i64 n] w fun e w'=>e=.returned (.bool (blw a n))/\w'=w:=by
 by_cases h1:0<=a
 ·
  by_cases h2:a<n
  ·
   have hb:=blw_yes h1 h2
   go_enter Tryz.func230,Tryz.ntmps230
   go_wp2
   go_ret
   exact⟨by rw[hb];rfl,rfl⟩
  ·
   have hb:Hid (blw a n=false):=blw_no (by omega)
   go_enter Tryz.func230,Tryz.ntmps230
   go_wp2
   go_ret
   exact⟨by rw[hb.out];rfl,rfl⟩
 ·
  have hb:Hid (blw a n=false):=blw_no (by omega)
  go_enter Tryz.func230,Tryz.ntmps230
  go_wp2
  go_ret
  exact⟨by rw[hb.out];rfl,rfl⟩
set_option maxHeartbeats 2000000 in
theorem sound_any (f:Fnd) (w:World):Calls Tryz.prog 201 #[.agg (fA f)] w fun e w'=>e=.returned (.bool (snd f))/\Chg (fun _=>False) w w':=by
 obtain⟨c0,c1,c2,c3,c4,c5⟩:=(Fo.new w f).cells
 have HG:Hid (Chg (fun _=>False) w (w.alloc (.cells (fA f) 219))):=(Chg.refl _ w).alloc _
 have HB:=hyd (snd_blw f)
 cases h1:blw f.P 96 with
 | false=>
  go_enter Tryz.func201,Tryz.ntmps201
  go_wp2_with (first | (go_at_call 207;refine(below_any _ _ _).mono ?_;rintro e w' ⟨rfl,rfl⟩) | (go_at_call 230;refine(below64_any _ _ _).mono ?_;rintro e w' ⟨rfl,rfl⟩))
  go_ret
  exact⟨by rw[HB.out];simp[h1],HG.out⟩
 | true=>
  cases h2:blw f.O 25 with
  | false=>
   go_enter Tryz.func201,Tryz.ntmps201
   go_wp2_with (first | (go_at_call 207;refine(below_any _ _ _).mono ?_;rintro e w' ⟨rfl,rfl⟩) | (go_at_call 230;refine(below64_any _ _ _).mono ?_;rintro e w' ⟨rfl,rfl⟩))
   go_ret
   exact⟨by rw[HB.out];simp[h1,h2],HG.out⟩
  | true=>
   cases h3:blw f.S 1099511627776 with
   | false=>
    go_enter Tryz.func201,Tryz.ntmps201
    go_wp2_with (first | (go_at_call 207;refine(below_any _ _ _).mono ?_;rintro e w' ⟨rfl,rfl⟩) | (go_at_call 230;refine(below64_any _ _ _).mono ?_;rintro e w' ⟨rfl,rfl⟩))
    go_ret
    exact⟨by rw[HB.out];simp[h1,h2,h3],HG.out⟩
   | true=>
    cases h4:blw f.C 256 with
    | false=>
     go_enter Tryz.func201,Tryz.ntmps201
     go_wp2_with (first | (go_at_call 207;refine(below_any _ _ _).mono ?_;rintro e w' ⟨rfl,rfl⟩) | (go_at_call 230;refine(below64_any _ _ _).mono ?_;rintro e w' ⟨rfl,rfl⟩))
     go_ret
     exact⟨by rw[HB.out];simp[h1,h2,h3,h4],HG.out⟩
    | true=>
     go_enter Tryz.func201,Tryz.ntmps201
     go_wp2_with (first | (go_at_call 207;refine(below_any _ _ _).mono ?_;rintro e w' ⟨rfl,rfl⟩) | (go_at_call 230;refine(below64_any _ _ _).mono ?_;rintro e w' ⟨rfl,rfl⟩))
     go_ret
     exact⟨by rw[HB.out];simp[h1,h2,h3,h4],HG.out⟩
end Go.Proofs.YtbhbilcieodbhaaGreat.Claim
/-
  cmp.Or of two ints, and the function that the sort is handed: what it says of two founds, wherever the sort stands. No condition: lemmas.
-/
namespace Go.Proofs.YtbhbilcieodbhaaGreat.Claim
set_option maxRecDepth 100000
open Go.RowKit
open Point
open Go.RowKit Go.Sort
def orI (a b:Int):Int:=if a≠0 then a else b
set_option maxHeartbeats 2000000 in
theorem or_any (a b:Int) (g:Nat) (w:World) (h1:w.cell? ⟨g,0,none⟩=some (.int .i64 a)) (h2:w.cell? ⟨g,1,none⟩=some (.int .i64 b)) :
 Calls Tryz.prog 204 #[.slice (some ⟨g,0,none⟩) 2 2] w fun e w'=>e=.returned (.int .i64 (orI a b))/\w'=w:=by
 by_cases ha:a=0
 ·
  have HN:Hid (orI a b=b):=by show _=_;simp[orI,ha]
  subst ha
  by_cases hb:b=0
  ·
   subst hb
   go_enter Tryz.func204,Tryz.ntmps204
   go_wp2
   refine wp_loop_rounds 3 ?_
   rw[rounds_succ]
   go_wp2
   rw[rounds_succ]
   go_wp2
   rw[rounds_succ]
   go_wp2
   go_ret
   exact⟨by rw[HN.out];rfl,rfl⟩
  ·
   have hb':(b != 0)=true:=by simpa using hb
   go_enter Tryz.func204,Tryz.ntmps204
   go_wp2
   refine wp_loop_rounds 2 ?_
   rw[rounds_succ]
   go_wp2
   rw[rounds_succ]
   go_wp2
   go_ret
   exact⟨by rw[HN.out];rfl,rfl⟩
 ·
  have HN:Hid (orI a b=a):=by show _=_;simp[orI,ha]
  have ha':(a != 0)=true:=by simpa using ha
  go_enter Tryz.func204,Tryz.ntmps204
  go_wp2
  refine wp_loop_rounds 1 ?_
  rw[rounds_succ]
  go_wp2
  go_ret
  exact⟨by rw[HN.out];rfl,rfl⟩
set_option maxHeartbeats 2000000 in
theorem ins_nil (w:World) (fv:Value):Calls Tryz.prog 257 #[.slice none 0 0,.int .i64 0,.int .i64 0,fv] w fun e w'=>e=.returned (.tuple #[])/\w'=w:=by
 go_enter Tryz.func257,Tryz.ntmps257
 go_wp2
 refine wp_loop_rounds 1 ?_
 rw[rounds_succ]
 go_wp2
 go_end0
 exact⟨rfl,rfl⟩
set_option maxHeartbeats 2000000 in
theorem stable_nil (w:World) (fv:Value):Calls Tryz.prog 231 #[.slice none 0 0,.int .i64 0,fv] w fun e w'=>e=.returned (.tuple #[])/\w'=w:=by
 go_enter Tryz.func231,Tryz.ntmps231
 go_wp2
 refine wp_loop_rounds 1 ?_
 rw[rounds_succ]
 go_wp2_with (go_at_call 257;refine(ins_nil _ _).mono ?_;rintro e w' ⟨rfl,rfl⟩)
 refine wp_loop_rounds 1 ?_
 rw[rounds_succ]
 go_wp2
 go_end0
 exact⟨rfl,rfl⟩
set_option maxHeartbeats 2000000 in
theorem sort_nil (w:World) (fv:Value):Calls Tryz.prog 202 #[.slice none 0 0,fv] w fun e w'=>e=.returned (.tuple #[])/\w'=w:=by
 go_enter Tryz.func202,Tryz.ntmps202
 go_wp2_with (go_at_call 231;refine(stable_nil _ _).mono ?_;rintro e w' ⟨rfl,rfl⟩)
 go_end0
 exact⟨rfl,rfl⟩
end Go.Proofs.YtbhbilcieodbhaaGreat.Claim
/-
  latest: those of a number's founds that have its greatest seq, by rising place. Condition: at most 2932031007402 founds (2^47 bytes).
-/
namespace Go.Proofs.YtbhbilcieodbhaaGreat.Claim
set_option maxRecDepth 100000
open Go.RowKit
open Point
open Go.RowKit Go.Sort
theorem filter_take_succ {p:Fnd->Bool} {l:List Fnd} {i:Nat} {f:Fnd} (h:l[i]?=some f):(l.take (i+1)).filter p=(l.take i).filter p ++ (if p f then [f] else []):=by
 rw[List.take_add_one,h,List.filter_append]
 congr 1
 by_cases e:p f <;> simp[e]
theorem wpList_row_fo {ops:Array Oper} {rest:List Oper} {o:Oper} {a:Act} {w:World} {Q:Exit->Act->World->Prop} (hgd:o.guard=none) (x:Operand) (ho:o.op=.buildSlice 144 1 #[(0,x)]) {f:Fnd} (hx:a.eval x=.agg (fA f)) (N:Nat) (hN:w.heap.size=N)
 (h:∀ w',Fo w' N f->Chg (fun _=>False) w w'->wpList Tryz.prog ops Q rest (a.put o.dst (.slice (some ⟨N,0,none⟩) 1 1)) w'):wpList Tryz.prog ops Q (o :: rest) a w:=by
 refine wpList_plain hgd fun K hK=>?_
 have hr:(Instr.buildSlice 144 1 #[(0,.agg (fA f))]).run Tryz.prog w=.ok (.slice (some ⟨w.heap.size,0,none⟩) 1 1) (w.alloc (.cells (fA f) 219)):=by
  unfold fA fL
  simp[Instr.buildSlice]
  go_simp
 unfold Oper.wp
 simp[execOp,ho,hx,hr]
 rw[hN]
 exact hK _ _ (h _ (by rw[<-hN];exact Fo.new w f) ((Chg.refl _ w).alloc _))
end Go.Proofs.YtbhbilcieodbhaaGreat.Claim
/-
  Newest: which of a list of founds counts for a number. Condition: at most 2932031007402 founds (2^47 bytes).
-/
namespace Go.Proofs.YtbhbilcieodbhaaGreat.Claim
set_option maxRecDepth 100000
open Go.RowKit
open Point
open Go.RowKit Go.Sort
theorem results_fo {fn:Func} {q u:Tmp} (h:fn.results=#[.cell q 219,.tmp u]) (tmps:Array Value) {w:World} {g:Nat} {f:Fnd} (hp:tmps.getD q undef=.pointer (some ⟨g,0,none⟩)) (hT:Fo w g f) :
 (results fn tmps).run Tryz.prog w=.ok (.tuple #[.agg (fA f),tmps.getD u undef]) w:=by
 rw[results_cell_tmp h,hp]
 simp[asAddr,run_loadVar_row w g 219 219 _ _ _ hT Tryz.underlying219 rfl size28]
def NewV:Option Fnd->Value
 | none=>.tuple #[.agg (fA f0),.bool false]
 | some f=>.tuple #[.agg (fA f),.bool true]
def NewR (w:World) (l:List Fnd) (of ab:Int) (e:Ending) (w':World):Prop:=e=.returned (NewV (newest l of ab))/\Chg (fun _=>False) w w'
end Go.Proofs.YtbhbilcieodbhaaGreat.Claim
/-
  Next, of the program and of the document. Condition: the checkpoint's numbers are int64s.
-/
namespace Go.Proofs.YtbhbilcieodbhaaGreat.Claim
set_option maxRecDepth 100000
open Go.RowKit
open Point
open Go.RowKit Go.Sort
def mxi (a b:Int):Int:=if a<b then b else a
theorem mxi_eq (a b:Int):mxi a b=max a b:=by unfold mxi;split <;> omega
def flr (c:Ckp):Nat->Int
 | 0=>if 0<c.N then c.N - 1 else -1
 | i+1=>mxi (flr c i) (c.F i)
def tpl (t:Int) (l:List Fnd):Int:=l.foldl (fun t f=>if snd f then mxi t f.S else t) t
def grt (l:List Fnd) (c:Ckp):Int:=tpl (flr c 24) l
def nxt (l:List Fnd) (c:Ckp):Int:=if 1099511627775<=grt l c then 1099511627775 else grt l c+1
theorem tpl_take (t:Int) {l:List Fnd} {i:Nat} {f:Fnd} (h:l[i]?=some f):tpl t (l.take (i+1))=if snd f then mxi (tpl t (l.take i)) f.S else tpl t (l.take i):=by
 unfold tpl
 rw[List.take_add_one,h,List.foldl_append]
 rfl
theorem flr_ge (c:Ckp):∀ i,-1<=flr c i
 | 0=>by unfold flr;split <;> omega
 | i+1=>by
  have:=flr_ge c i
  rw[flr];unfold mxi;split <;> omega
theorem tpl_ge (t:Int):∀ (l:List Fnd) ,t<=tpl t l/\∀ f ∈ l,snd f=true->f.S<=tpl t l:=by
 intro l
 induction l generalizing t with
 | nil=>exact⟨Int.le_refl _,by simp⟩
 | cons x r ih=>
  have e:tpl t (x :: r)=tpl (if snd x then mxi t x.S else t) r:=rfl
  rw[e]
  obtain⟨h1,h2⟩:=ih (if snd x then mxi t x.S else t)
  have g:t<=(if snd x then mxi t x.S else t)/\(snd x=true->x.S<=(if snd x then mxi t x.S else t)):=by
   cases hx:snd x
   ·
    simp
   ·
    simp only[if_true];unfold mxi
    constructor
    ·
     split <;> omega
    ·
     intro _;split <;> omega
  refine⟨by omega,fun f hf hs=>?_⟩
  rcases List.mem_cons.1 hf with rfl | hf
  ·
   have:=g.2 hs;omega
  ·
   exact h2 f hf hs
structure Wfc (c:Ckp):Prop where
 f:∀ i,i<24->-9223372036854775808<=c.F i/\c.F i<=9223372036854775807
 n : -9223372036854775808<=c.N/\c.N<=9223372036854775807
set_option maxHeartbeats 8000000 in
theorem next_any (w:World) (a:Option Addr) (cap:Nat) (l:List Fnd) (n:Nat) (hnl:n=l.length) (hs:Sl w (.slice a n cap) l) (hn:n<2932031007402) (c:Ckp) (hw:Wfc c) :
 Calls Tryz.prog 178 #[.slice a n cap,.agg (ckA c)] w fun e w'=>e=.returned (.int .i64 (nxt l c))/\Chg (fun _=>False) w w':=by
 have HS:=hyd hs
 have HN:=hyd hnl
 have HW:=hyd hw
 have hN1:=hw.n.1
 have hN2:=hw.n.2
 have K0:=Ck.new w c
 have HK:=hyd K0
 have HG0:Hid (Chg (fun _=>False) w (w.alloc (.cells (ckA c) 142))):=(Chg.refl _ w).alloc _
 have k24:=K0.N
 have r0:=K0.partF
 have HR0:=hyd r0
 have S32:Hid ((Tryz.prog.info? 116).map (·.size)=some (ints c.F 24).length):=by show _=_;rw[ints_length];exact size32
 have hmax:max c.N 0 - 1=flr c 0:=by
  unfold flr;split <;> omega
 have HL:=hyd HS.out
 clear hs hnl hw K0 r0
 go_enter Tryz.func178,Tryz.ntmps178
 go_wp2_with (refine wpList_load_mid rfl 116 (.tmp 14) rfl w.heap.size 0 rfl _ _ HR0.out Tryz.underlying116 rfl S32.out ?_)
 generalize w.alloc (.cells (ckA c) 142)=w1 at *
 clear hmax hN1 hN2 HR0 S32 k24 HK
 go_loopg [5,16] 24 (fun kx s5 s16 wr=>∃ i:Nat,s16=.int .i64 i/\s5=.int .i64 (flr c i)/\i<=24/\24 - i<=kx/\wr=w1)
 case atStart=>exact⟨0,rfl,rfl,by omega,by omega,rfl⟩
 case round=>
 obtain⟨i,rfl,rfl,hin,hkx,rfl⟩:=hrel
 by_cases hlt:i<24
 ·
  have hltz:(i:Int)<24:=by omega
  have hix:=index32 c.F i hlt
  have HT:Hid (flr c (i+1)=max (flr c i) (c.F i)):=by show _=_;rw[flr,mxi_eq]
  obtain⟨t,ht⟩:∃ t,flr c i=t:=⟨_,rfl⟩
  rw[ht] at HT
  rw[ht]
  clear ht
  go_wp2
  go_roundg (24 - (i+1))
  case measure=>omega
  case rel=>exact⟨i+1,by simp,by rw[HT.out],by omega,Nat.le_refl _,rfl⟩
 ·
  have hltz:¬ (i:Int)<24:=by omega
  rw[show i=24 by omega]
  have hltz:¬ ((24:Nat):Int)<24:=by omega
  have HS1:=hyd (HS.out.new HG0.out)
  obtain⟨w2,rfl⟩:∃ x,x=wr:=⟨_,rfl⟩
  go_wp2
  go_loopg [5,25] n (fun kx s5 s25 wx=>∃ i:Nat,s25=.int .i64 i/\s5=.int .i64 (tpl (flr c 24) (l.take i))/\i<=n/\n - i<=kx/\Hid (Chg (fun _=>False) w2 wx))
  case atStart=>exact⟨0,rfl,by simp[tpl],by omega,by omega,Chg.refl _ _⟩
  case round=>
  obtain⟨i,rfl,rfl,hin,hkx,HGr⟩:=hrel
  by_cases hlt:i<n
  ·
   have hltz:(i:Int)<(n:Int):=by omega
   obtain⟨f,hf⟩:∃ f,l[i]?=some f:=⟨_,List.getElem?_eq_getElem (by rw[<-HN.out];exact hlt)⟩
   have HF:=hyd hf
   obtain⟨g,o,ha,hA⟩:∃ g o,a=some ⟨g,o,none⟩/\At6 w2 g o l:=by
    obtain⟨a',c',e,_,h⟩:=HS1.out
    simp only[Value.slice.injEq] at e
    obtain⟨rfl,-,-⟩:=e
    rcases h with h | ⟨g,o,rfl,hA⟩
    ·
     have:=HN.out;omega
    ·
     exact⟨g,o,rfl,hA⟩
   subst ha
   have HR:=hyd ((hA.chg HGr.out (fun h=>h)).2 i f hf)
   have HT:=hyd (tpl_take (flr c 24) HF.out)
   obtain⟨t,ht⟩:∃ t,tpl (flr c 24) (l.take i)=t:=⟨_,rfl⟩
   rw[ht] at HT
   rw[ht]
   clear hf hA ht
   go_wp2_with (first | (refine wpList_load_at (f:=f) rfl (.tmp 27) rfl g (o+i*6) rfl ?_ ?_;exact HR.out) | (refine wpList_alloc_fo rfl rfl wr.heap.size rfl ?_))
   intro w3 K3 G3 S3
   have HK3:=hyd K3
   clear K3
   go_wp2_with (refine wpList_store_fo rfl (.tmp 9) (.tmp 28) rfl wr.heap.size rfl rfl HK3.out ?_)
   intro w4 K4 G4
   have G34:=G3.trans' G4 (fun k hk h=>by omega)
   have HG4:=hyd (HGr.out.trans G34)
   have HK4:=hyd K4
   clear K4 G4 G3 G34 HK3 S3 HR
   cases hsn:snd f with
   | false=>
    go_wp2_with (first | (refine wpList_load_fo (f:=f) rfl (.tmp 9) rfl wr.heap.size rfl ?_ ?_;exact HK4.out) | (go_at_call 201;refine(sound_any f _).mono ?_;rintro e w5 ⟨rfl,G5⟩;have HG5:=hyd (HG4.out.trans G5);clear G5))
    go_roundg (n - (i+1))
    case measure=>omega
    case rel=>
     refine⟨i+1,by simp,?_,by omega,Nat.le_refl _,HG5.out⟩
     rw[HT.out,hsn];rfl
   | true=>
    go_wp2_with (first | (refine wpList_load_fo (f:=f) rfl (.tmp 9) rfl wr.heap.size rfl ?_ ?_;exact HK4.out) | (go_at_call 201;refine(sound_any f _).mono ?_;rintro e w5 ⟨rfl,G5⟩;have K5:=HK4.out.chg G5 (fun h=>h);obtain⟨-,-,-,k3,-,-⟩:=K5.cells;have HG5:=hyd (HG4.out.trans G5);clear G5 K5))
    go_roundg (n - (i+1))
    case measure=>omega
    case rel=>
     refine⟨i+1,by simp,?_,by omega,Nat.le_refl _,HG5.out⟩
     rw[HT.out,hsn,if_pos rfl,mxi_eq]
  ·
   have hltz:¬ (i:Int)<(n:Int):=by omega
   have HE:Hid (nxt l c=min (tpl (flr c 24) (l.take i)) 1099511627774+1):=by
    show _=_
    rw[show i=l.length by have:=HN.out;omega,List.take_length]
    unfold nxt grt
    split <;> omega
   have hge : -1<=tpl (flr c 24) (l.take i):=Int.le_trans (flr_ge c 24) (tpl_ge _ _).1
   obtain⟨t,ht⟩:∃ t,tpl (flr c 24) (l.take i)=t:=⟨_,rfl⟩
   rw[ht] at HE hge
   rw[ht]
   clear ht
   have h1 : -1<=min t 1099511627774:=by omega
   have h2:min t 1099511627774<=1099511627774:=by omega
   go_wp2
   go_ret
   exact⟨by rw[HE.out];rfl,HG0.out.trans HGr.out⟩
end Go.Proofs.YtbhbilcieodbhaaGreat.Claim
/-
  outside, floorOf and Live. Conditions: at most 2932031007402 founds (2^47 bytes).
-/
namespace Go.Proofs.YtbhbilcieodbhaaGreat.Claim
set_option maxRecDepth 100000
open Go.RowKit
open Point
open Go.RowKit Go.Sort
def gd (c:Ckp) (f:Fnd):Bool:=snd f && !c.B (f.P / 8).toNat
def flo (c:Ckp) (of:Nat):Int:=if of=24 then -1 else c.F of
def lv (l:List Fnd) (c:Ckp) (of:Nat):Int:=match newest (l.filter (gd c)) of (flo c of) with
 | some f=>f.P
 | none=>-1
def A25 (w:World) (g:Nat) (F:Nat->Int):Prop:=w.heap[g]?=some (.cells (ints F 25).toArray 38)
theorem A25.lt {w:World} {b:Nat} {f:Nat->Int} (h:A25 w b f):b<w.heap.size:=(Array.getElem?_eq_some_iff.1 (show w.heap[b]?=some _ from h)).1
theorem A25.chg {S:Nat->Prop} {w w':World} {b:Nat} {f:Nat->Int} (h:A25 w b f) (hc:Chg S w w') (hb:¬ S b):A25 w' b f:=(hc.block b h.lt hb).trans h
theorem A25.set {w:World} {b:Nat} {f:Nat->Int} (h:A25 w b f) (i:Nat) (z:Int):A25 (w.setCell ⟨b,i,none⟩ (.int .i64 z)) b (upd f i z):=by
 have h':w.heap[b]?=some _:=h
 show (w.setCell ⟨b,i,none⟩ _).heap[b]?=_
 have e2:(ints f 25).toArray.setIfInBounds i (.int .i64 z)=(ints (upd f i z) 25).toArray:=by
  apply Array.ext'
  have:=ints_set f 25 i z
  simpa[i6] using this
 simp[World.setCell,Array.getElem?_modify,h',e2]
theorem A25.cell {w:World} {b:Nat} {f:Nat->Int} (h:A25 w b f) (i:Nat) (hi:i<25):w.cell? ⟨b,i,none⟩=some (.int .i64 (f i))/\w.frozen? ⟨b,i,none⟩=false:=by
 have h':w.heap[b]?=some _:=h
 refine⟨?_,by simp[World.frozen?,h']⟩
 simp only[World.cell?,h']
 simpa[i6] using ints_at f 25 i hi
theorem A25.congr {w:World} {b:Nat} {f g:Nat->Int} (h:A25 w b f) (e:∀ i,i<25->f i=g i):A25 w b g:=by
 unfold A25 at *
 rw[h,ints_congr e]
theorem ints25_size (f:Nat->Int):(ints f 25).toArray.size=25:=by simp[ints_length]
theorem size37:(Tryz.prog.info? 38).map (·.size)=some 25:=by kernel_rfl
theorem zero37 (w:World):(zeroValue 38).run Tryz.prog w=.ok (.agg (ints (fun _=>0) 25).toArray) w:=by kernel_rfl
theorem wpList_alloc_25 {ops:Array Oper} {rest:List Oper} {o:Oper} {a:Act} {w:World} {Q:Exit->Act->World->Prop} (hgd:o.guard=none) (ho:o.op=.alloc 38) (N:Nat) (hN:w.heap.size=N)
 (h:∀ w',A25 w' N (fun _=>0)->Chg (fun _=>False) w w'->w'.heap.size=N+1->wpList Tryz.prog ops Q rest (a.put o.dst (.pointer (some ⟨N,0,none⟩))) w'):wpList Tryz.prog ops Q (o :: rest) a w:=by
 refine wpList_plain hgd fun K hK=>?_
 have hz:=zero37
 unfold Oper.wp
 simp[execOp,ho,Instr.alloc,hz,newVar,Value.cells,newRow]
 rw[hN]
 refine hK _ _ (h _ ?_ ((Chg.refl _ w).alloc _) (by simp[hN]))
 rw[<-hN]
 show (w.heap.push _)[w.heap.size]?=_
 simp
theorem wpList_load_25 {ops:Array Oper} {rest:List Oper} {o:Oper} {a:Act} {w:World} {Q:Exit->Act->World->Prop} (hgd:o.guard=none) (x:Operand) (ho:o.op=.load 38 x)
 (g:Nat) (hx:a.eval x=.pointer (some ⟨g,0,none⟩)) {F:Nat->Int} (hg:A25 w g F)
 (h:wpList Tryz.prog ops Q rest (a.put o.dst (.agg (ints F 25).toArray)) w):wpList Tryz.prog ops Q (o :: rest) a w:=
 wpList_load_row hgd 38 x ho g hx 38 _ _ _ hg Tryz.underlying38 rfl (by rw[ints25_size];exact size37) h
theorem wpList_store_25 {ops:Array Oper} {rest:List Oper} {o:Oper} {a:Act} {w:World} {Q:Exit->Act->World->Prop} (hgd:o.guard=none) (x y:Operand) (ho:o.op=.store 38 x y)
 (g:Nat) (hx:a.eval x=.pointer (some ⟨g,0,none⟩)) {F:Nat->Int} (hy:a.eval y=.agg (ints F 25).toArray) {F':Nat->Int} (hg:A25 w g F')
 (h:∀ w',A25 w' g F->Chg (·=g) w w'->wpList Tryz.prog ops Q rest (a.put o.dst undef) w'):wpList Tryz.prog ops Q (o :: rest) a w:=
 wpList_store_row hgd 38 x y ho g _ hx hy 38 _ hg (by rw[ints25_size];exact size37) (by rw[ints25_size,ints25_size]) (all_oneCell_toArray (ints_one F 25)) (h _ (setRow_heap w g _ _ 38 _ hg) ⟨rfl,rfl,rfl,by simp,fun k _ hk=>setRow_other _ _ _ _ hk⟩)
theorem results_25 {fn:Func} {q:Tmp} (h:fn.results=#[.cell q 38]) (tmps:Array Value) {w:World} {g:Nat} {F:Nat->Int} (hp:tmps.getD q undef=.pointer (some ⟨g,0,none⟩)) (hT:A25 w g F) :
 (results fn tmps).run Tryz.prog w=.ok (.agg (ints F 25).toArray) w:=
 results_cell_row h tmps w g 38 _ _ _ hp hT Tryz.underlying38 rfl (by rw[ints25_size];exact size37)
set_option maxHeartbeats 4000000 in
theorem floor_any (c:Ckp) (of:Nat) (ho:of<25) (w:World):Calls Tryz.prog 237 #[.agg (ckA c),.int .i64 of] w fun e w'=>e=.returned (.int .i64 (flo c of))/\Chg (fun _=>False) w w':=by
 have K0:=Ck.new w c
 have HG0:Hid (Chg (fun _=>False) w (w.alloc (.cells (ckA c) 142))):=(Chg.refl _ w).alloc _
 by_cases h24:of=24
 ·
  subst h24
  clear K0
  go_enter Tryz.func237,Tryz.ntmps237
  go_wp2
  go_ret
  exact⟨by simp[flo],HG0.out⟩
 ·
  have kF:=K0.F of (by omega)
  have hz:(of:Int)<24:=by omega
  have hb:((of:Int) == 24)=false:=by simp only[beq_eq_false_iff_ne];omega
  have HF:Hid (flo c of=c.F of):=by show _=_;simp[flo,h24]
  clear K0
  go_enter Tryz.func237,Tryz.ntmps237
  go_wp2
  go_ret
  exact⟨by rw[HF.out];rfl,HG0.out⟩
theorem Sl.at6 {w:World} {a:Option Addr} {n cap:Nat} {l:List Fnd} (h:Sl w (.slice a n cap) l) (h0:l.length≠0):∃ g o,a=some ⟨g,o,none⟩/\At6 w g o l:=by
 obtain⟨a',c',e,_,h⟩:=h
 simp only[Value.slice.injEq] at e
 obtain⟨rfl,-,-⟩:=e
 rcases h with h | ⟨g,o,rfl,hA⟩
 ·
  omega
 ·
  exact⟨g,o,rfl,hA⟩
def OutR (w:World) (l:List Fnd) (c:Ckp) (e:Ending) (w':World):Prop:=∃ v',e=.returned v'/\Sl w' v' (l.filter (gd c))/\Chg (fun _=>False) w w'
set_option maxHeartbeats 8000000 in
theorem outside_any (w:World) (a:Option Addr) (cap:Nat) (l:List Fnd) (n:Nat) (hnl:n=l.length) (c:Ckp) (hs:Sl w (.slice a n cap) l) (hn:n<2932031007402) :
 Calls Tryz.prog 236 #[.slice a n cap,.agg (bools c.B 12).toArray] w (OutR w l c):=by
 have HN:=hyd hnl
 have HB:=hyd (Bo.new w c.B)
 have HG0:Hid (Chg (fun _=>False) w (w.alloc (.cells (bools c.B 12).toArray 140))):=(Chg.refl _ w).alloc _
 have HS:=hyd (hs.new HG0.out)
 clear hs hnl
 go_enter Tryz.func236,Tryz.ntmps236
 go_wp2
 generalize w.alloc (.cells (bools c.B 12).toArray 140)=w1 at *
 obtain⟨B,HBB⟩:∃ B,Hid (B=w.heap.size):=⟨_,rfl⟩
 rw[<-HBB.out] at HB
 rw[<-HBB.out]
 go_loopg [5,10] n (fun kx s5 s10 wr=>∃ i:Nat,s10=.int .i64 i/\i<=n/\n - i<=kx/\Hid (Ow wr w1.heap.size s5 ((l.take i).filter (gd c)))/\Hid (Chg (fun _=>False) w1 wr))
 case atStart=>exact⟨0,rfl,by omega,by omega,Ow.nil _ _,Chg.refl _ _⟩
 case round=>
 obtain⟨i,rfl,hin,hkx,HO,HG⟩:=hrel
 by_cases hlt:i<n
 ·
  have hltz:(i:Int)<(n:Int):=by omega
  obtain⟨f,hf⟩:∃ f,l[i]?=some f:=⟨_,List.getElem?_eq_getElem (by rw[<-HN.out];exact hlt)⟩
  have HF:=hyd hf
  obtain⟨g,o,ha,hA⟩:=HS.out.at6 (by rw[<-HN.out];omega)
  subst ha
  have HR:=hyd ((hA.chg HG.out (fun h=>h)).2 i f hf)
  clear hf hA
  have HT:=hyd (filter_take_succ (p:=gd c) HF.out)
  go_wp2_with (first | (refine wpList_load_at (f:=f) rfl (.tmp 12) rfl g (o+i*6) rfl ?_ ?_;exact HR.out) | (refine wpList_alloc_fo rfl rfl wr.heap.size rfl ?_))
  intro w2 K2 G2 S2
  have HK2:=hyd K2
  clear K2
  go_wp2_with (refine wpList_store_fo rfl (.tmp 7) (.tmp 13) rfl wr.heap.size rfl rfl HK2.out ?_)
  intro w3 K3 G3
  have G23:=G2.trans' G3 (fun k hk h=>by omega)
  have HG3:=hyd (HG.out.trans G23)
  have HK3:=hyd K3
  have HO3:=hyd (HO.out.new G23)
  have HB3:=hyd (HB.out.chg HG3.out (fun h=>h))
  clear K3 G3 G2 G23 HK2 S2 HR
  cases hsn:snd f with
  | false=>
   have HC:Hid (gd c f=false):=by show _=_;simp[gd,hsn]
   go_wp2_with (first | (refine wpList_load_fo (f:=f) rfl (.tmp 7) rfl wr.heap.size rfl ?_ ?_;exact HK3.out) | (go_at_call 201;refine(sound_any f _).mono ?_;rintro e w4 ⟨rfl,G4⟩;have HG4:=hyd (HG3.out.trans G4);have HO4:=hyd (HO3.out.new G4);clear G4))
   go_roundg (n - (i+1))
   case measure=>omega
   case rel=>
    refine⟨i+1,by simp,by omega,Nat.le_refl _,?_,HG4.out⟩
    show Ow _ _ _ _
    rw[HT.out,HC.out];simpa using HO4.out
  | true=>
   have hP:=(snd_iff f).1 hsn
   have hP0:=hP.1
   have hP1:=hP.2.1
   clear hP
   obtain⟨q,hq⟩:∃ q:Nat,f.P / 8=(q:Int):=⟨(f.P / 8).toNat,by omega⟩
   have hqt:f.P.tdiv 8=(q:Int):=by rw[Int.tdiv_eq_ediv_of_nonneg hP0];exact hq
   have hql:q<12:=by omega
   have hqz:(q:Int)<12:=by omega
   have HGd:Hid (gd c f=!c.B q):=by
    show _=_
    unfold gd
    rw[hsn,hq]
    simp
   cases hbq:c.B q with
   | true=>
    rw[hbq] at HGd
    go_wp2_with (first | (refine wpList_load_fo (f:=f) rfl (.tmp 7) rfl wr.heap.size rfl ?_ ?_;exact HK3.out) | (go_at_call 201;refine(sound_any f _).mono ?_;rintro e w4 ⟨rfl,G4⟩;have K4:=HK3.out.chg G4 (fun h=>h);obtain⟨k0,-,-,-,-,-⟩:=K4.cells;have kB:=((HB3.out.chg G4 (fun h=>h)).cell q hql).1;rw[hbq] at kB;have HG4:=hyd (HG3.out.trans G4);have HO4:=hyd (HO3.out.new G4);clear G4 K4))
    go_roundg (n - (i+1))
    case measure=>omega
    case rel=>
     refine⟨i+1,by simp,by omega,Nat.le_refl _,?_,HG4.out⟩
     show Ow _ _ _ _
     rw[HT.out,HGd.out];simpa using HO4.out
   | false=>
    rw[hbq] at HGd
    have hle:((l.take i).filter (gd c)).length+1<=2932031007402:=by
     have:=Nat.le_trans (List.length_filter_le (gd c) (l.take i)) (by rw[List.length_take];exact Nat.min_le_left _ _)
     omega
    go_wp2_with (first | (refine wpList_load_fo (f:=f) rfl (.tmp 7) rfl wr.heap.size rfl ?_ ?_;first | exact HK3.out | exact HK4.out) | (go_at_call 201;refine(sound_any f _).mono ?_;rintro e w4 ⟨rfl,G4⟩;have K4:=HK3.out.chg G4 (fun h=>h);have HK4:=hyd K4;obtain⟨k0,-,-,-,-,-⟩:=K4.cells;have kB:=((HB3.out.chg G4 (fun h=>h)).cell q hql).1;rw[hbq] at kB;have HG4:=hyd (HG3.out.trans G4);have HO4:=hyd (HO3.out.new G4);clear G4 K4) | (refine wpList_row_fo (f:=f) rfl (.tmp 25) rfl rfl w4.heap.size rfl ?_))
    intro w5 K5 G5
    have HO5:=hyd (HO4.out.new G5)
    have HG5:=hyd (HG4.out.trans G5)
    have HA5:=hyd (At6.one K5)
    have hb5:w1.heap.size<=w5.heap.size:=HG5.out.size
    clear K5 G5 HO4 HG4 HK4 k0 kB
    go_wp2_with (refine wpList_append_fo w5 rfl (.tmp 24) (.tmp 26) rfl w1.heap.size u5 _ rfl HO5.out w4.heap.size 0 1 1 [f] rfl rfl HA5.out hle hb5 ?_)
    intro v' w6 O6 G6
    have HO6:=hyd O6
    have HG6:Hid (Chg (fun _=>False) w1 w6):=hyd (HG5.out.trans' G6 fun k hk h=>by
     have:=HO5.out.block h
     omega)
    clear O6 G6
    go_wp2
    go_roundg (n - (i+1))
    case measure=>omega
    case rel=>
     refine⟨i+1,by simp,by omega,Nat.le_refl _,?_,HG6.out⟩
     show Ow _ _ _ _
     rw[HT.out,HGd.out];simpa using HO6.out
 ·
  have hltz:¬ (i:Int)<(n:Int):=by omega
  go_wp2
  go_ret
  refine⟨_,rfl,?_,HG0.out.trans HG.out⟩
  have:=HO.out.sl
  rw[show i=l.length by have:=HN.out;omega,List.take_length] at this
  exact this
end Go.Proofs.YtbhbilcieodbhaaGreat.Claim
/-
  Live. Condition: at most 2932031007402 founds (2^47 bytes).
-/
namespace Go.Proofs.YtbhbilcieodbhaaGreat.Claim
set_option maxRecDepth 100000
open Go.RowKit
open Point
open Go.RowKit Go.Sort
theorem outside_n (w:World) (a:Option Addr) (cap:Nat) (l:List Fnd) (n:Nat) (hnl:n=l.length) (c:Ckp) (hs:Sl w (.slice a n cap) l) (hn:n<2932031007402) (m:Nat) (hm:(l.filter (gd c)).length=m) :
 Calls Tryz.prog 236 #[.slice a n cap,.agg (bools c.B 12).toArray] w fun e w'=>∃ a' cap',e=.returned (.slice a' m cap')/\Sl w' (.slice a' m cap') (l.filter (gd c))/\Chg (fun _=>False) w w':=by
 refine(outside_any w a cap l n hnl c hs hn).mono ?_
 rintro e w' ⟨v,rfl,hS,h3⟩
 obtain⟨a',cap',rfl,_⟩:=id hS
 rw[hm] at hS
 exact⟨a',cap',by rw[hm],hS,h3⟩
theorem Sl.apart {w:World} {a:Option Addr} {n cap:Nat} {l:List Fnd} (h:Sl w (.slice a n cap) l):l.length≠0->∀ k,(Value.slice a n cap).ownBlock=some k->¬ k=w.heap.size:=by
 intro h0 k hk e
 obtain⟨g,o,rfl,hA⟩:=h.at6 h0
 have hk':g=k:=Option.some.inj hk
 have:=hA.1
 omega
theorem Sl.chg {S:Nat->Prop} {w w':World} {a:Option Addr} {n cap:Nat} {l:List Fnd} (h:Sl w (.slice a n cap) l) (hc:Chg S w w') (hs:l.length≠0->∀ k,(Value.slice a n cap).ownBlock=some k->¬ S k):Sl w' (.slice a n cap) l:=by
 obtain⟨a',cap',e,hcap,h⟩:=h
 simp only[Value.slice.injEq] at e
 obtain⟨rfl,rfl,rfl⟩:=e
 refine⟨a,cap,rfl,hcap,?_⟩
 rcases h with h | ⟨g,o,rfl,h⟩
 ·
  exact Or.inl h
 ·
  by_cases h0:l.length=0
  ·
   exact Or.inl h0
  ·
   exact Or.inr ⟨g,o,rfl,h.chg hc (hs h0 g rfl)⟩
theorem lv_none {l:List Fnd} {c:Ckp} {i:Nat} (h:newest (l.filter (gd c)) i (flo c i)=none):lv l c i = -1:=by unfold lv;rw[h]
end Go.Proofs.YtbhbilcieodbhaaGreat.Claim
/-
  The laws' own small functions: pick, number, Bytes, Same, bads; views and places compared. No condition but that what is handed in lies in memory.
-/
namespace Go.Proofs.YtbhbilcieodbhaaGreat
set_option maxRecDepth 100000
open Go.RowKit
def lcN (x:Int):Nat->Nat
 | 0=>(IntKind.u64.wrap x).toNat
 | i+1=>(lcN x i*6364136223846793005+1442695040888963407) % 18446744073709551616
def bytL (x:Int):Nat->List Nat
 | 0=>[]
 | n+1=>bytL x n ++ [lcN x (n+1) / 1099511627776 % 256]
def byL (x:Int):List Nat:=if x=0 then List.replicate 160 0 else bytL x 160
theorem bytL_length (x:Int):∀ n,(bytL x n).length=n:=by
 intro n
 induction n with
 | zero=>rfl
 | succ n ih=>rw[bytL,List.length_append,ih];rfl
theorem bytL_bys (x:Int):∀ n,Bys (bytL x n):=by
 intro n
 induction n with
 | zero=>intro m hm;cases hm
 | succ n ih=>
  intro m hm
  rw[bytL] at hm
  rcases List.mem_append.1 hm with h | h
  ·
   exact ih m h
  ·
   rw[List.mem_singleton.1 h];exact Nat.mod_lt _ (by decide)
theorem byL_length (x:Int):(byL x).length=160:=by
 unfold byL
 split
 ·
  simp
 ·
  exact bytL_length x 160
theorem byL_bys (x:Int):Bys (byL x):=by
 unfold byL
 split
 ·
  intro m hm;rw[(List.mem_replicate.1 hm).2];decide
 ·
  exact bytL_bys x 160
def byP (x:Int) (i:Nat):List Nat:=bytL x i ++ List.replicate (160 - i) 0
theorem byP_next (x:Int) (i:Nat) (hi:i<160):(byP x i).set i (lcN x (i+1) / 1099511627776 % 256)=byP x (i+1):=by
 unfold byP
 rw[bytL,List.append_assoc,List.set_append_right _ _ (by rw[bytL_length];exact Nat.le_refl _),bytL_length,Nat.sub_self,show 160 - i=(160 - (i+1))+1 by omega,List.replicate_succ]
 rfl
theorem byP_length (x:Int) (i:Nat) (hi:i<=160):(byP x i).length=160:=by
 unfold byP
 rw[List.length_append,bytL_length,List.length_replicate]
 omega
theorem make160' (w:World):(Instr.makeSlice 35 (.int .i64 160) (.int .i64 160)).run Tryz.prog w=.ok (.slice (some ⟨w.heap.size,0,none⟩) 160 160) (w.alloc (.cells (bcells (List.replicate 160 0)) 5)):=make_bytes w 160 160 rfl (by decide)
def z160:List Nat:=List.replicate 160 0
theorem make160z (w:World):(Instr.makeSlice 35 (.int .i64 160) (.int .i64 160)).run Tryz.prog w=.ok (.slice (some ⟨w.heap.size,0,none⟩) 160 160) (w.alloc (.cells (bcells z160) 5)):=make160' w
theorem lc_step (v:Nat) (_:v<18446744073709551616):IntKind.u64.wrap (IntKind.u64.wrap ((v:Int)*6364136223846793005)+1442695040888963407)=(((v*6364136223846793005+1442695040888963407) % 18446744073709551616:Nat):Int):=by
 rw[IntKind.wrap_u64,IntKind.wrap_u64]
 omega
theorem lcN_lt (x:Int) (i:Nat):lcN x i<18446744073709551616:=by
 cases i with
 | zero=>
  unfold lcN
  rw[IntKind.wrap_u64]
  omega
 | succ i=>exact Nat.mod_lt _ (by decide)
theorem lcN_zero (x:Int):IntKind.u64.wrap x=((lcN x 0:Nat):Int):=by
 unfold lcN
 rw[IntKind.wrap_u64]
 omega
set_option maxHeartbeats 2000000 in
theorem bytes17 (x:Int) (w:World):Calls Tryz.prog 13 #[.int .i64 x] w fun e w'=>e=.returned (.slice (some ⟨w.heap.size,0,none⟩) 160 160)/\Arr w' w.heap.size 5 (byL x)/\Chg (fun _=>False) w w':=by
 have hmk:=make160z
 have A0:Arr (w.alloc (.cells (bcells z160) 5)) w.heap.size 5 z160:=Arr.new w 5 _
 have G0:Chg (fun _=>False) w (w.alloc (.cells (bcells z160) 5)):=(Chg.refl _ _).alloc _
 have HA0:=hyd A0
 have HG0:=hyd G0
 clear A0 G0
 by_cases hx:x=0
 ·
  subst hx
  go_enter Tryz.func13,Tryz.ntmps13
  go_wp2
  go_ret
  exact⟨rfl,HA0.out,HG0.out⟩
 ·
  have hxb:(x == 0)=false:=by simpa using hx
  have HB:Hid (byL x=bytL x 160):=by show byL x=_;unfold byL;rw[if_neg hx]
  have hw0:=lcN_zero x
  have HZ:Hid (z160=byP x 0):=by show z160=_;unfold byP bytL z160;simp
  go_enter Tryz.func13,Tryz.ntmps13
  go_wp2
  go_loopg [4,5] 160 (fun kx s4 s5 wr=>∃ i:Nat,s5=.int .i64 i/\s4=.int .u64 (lcN x i:Nat)/\i<=160/\160 - i<=kx/\Hid (Arr wr w.heap.size 5 (byP x i))/\Hid (Chg (fun _=>False) w wr))
  case atStart=>exact⟨0,rfl,rfl,by omega,by omega,by rw[<-HZ.out];exact HA0.out,HG0.out⟩
  case round=>
   obtain⟨i,rfl,rfl,hi,hkx,HA,HG⟩:=hrel
   by_cases hlt:i<160
   ·
    have hltz:(i:Int)<160:=by omega
    have h0:(0:Int)<=i:=by omega
    have hf:=HA.out.frozen i
    have hc:=HA.out.cell i (by rw[byP_length x i hi];exact hlt)
    have e1:=lc_step (lcN x i) (lcN_lt x i)
    have hE:lcN x (i+1)=(lcN x i*6364136223846793005+1442695040888963407) % 18446744073709551616:=rfl
    rw[<-hE] at e1
    clear hE
    have hN:=byP_next x i hlt
    obtain⟨v1,hv1⟩:∃ v,lcN x (i+1)=v:=⟨_,rfl⟩
    rw[hv1] at e1 hN
    have HV1:=hyd hv1
    clear hv1
    generalize lcN x i=v0 at *
    have e2:((v1:Nat):Int).tdiv 1099511627776=((v1 / 1099511627776:Nat):Int):=by rw[Int.tdiv_eq_ediv_of_nonneg (by omega)];omega
    have e3:IntKind.u8.wrap ((v1 / 1099511627776:Nat):Int)=((v1 / 1099511627776 % 256:Nat):Int):=by rw[IntKind.wrap_u8];omega
    have e4:IntKind.u64.wrap ((v1 / 1099511627776:Nat):Int) % 256=((v1 / 1099511627776 % 256:Nat):Int):=by rw[IntKind.wrap_u64];omega
    have HA2:=hyd (HA.out.store i (v1 / 1099511627776 % 256))
    rw[hN] at HA2
    have HG2:=hyd (HG.out.setCell (S:=fun _=>False) (g:=w.heap.size) (Or.inr (Nat.le_refl _)) i (.int .u8 ((v1 / 1099511627776 % 256:Nat):Int)))
    generalize v1 / 1099511627776 % 256=b1 at *
    generalize v1 / 1099511627776=d1 at *
    clear hN
    go_wp2
    go_roundg (160 - (i+1))
    case measure=>omega
    case rel=>exact⟨i+1,by simp,by rw[HV1.out],by omega,Nat.le_refl _,HA2.out,HG2.out⟩
   ·
    have hltz:¬ (i:Int)<160:=by omega
    have e:i=160:=by omega
    subst e
    go_wp2
    go_ret
    refine⟨rfl,?_,HG.out⟩
    have:=HA.out
    rw[HB.out]
    unfold byP at this
    simpa using this
set_option maxHeartbeats 1000000 in
theorem same17 (w:World) (c1 o1 n1 cap1 c2 o2 n2 cap2:Nat) (l1 l2:List Nat) (e1:n1=l1.length) (e2:n2=l2.length) (b1:Bys l1) (b2:Bys l2) (h1:At w c1 o1 l1) (h2:At w c2 o2 l2) :
 Calls Tryz.prog 17 #[.slice (some ⟨c1,o1,none⟩) n1 cap1,.slice (some ⟨c2,o2,none⟩) n2 cap2] w fun e w'=>e=.returned (.bool (decide (l1=l2)))/\w'=w:=by
 have k1:=run_convert_bytes_arg (P:=Tryz.prog) w 35 5 Tryz.underlying35 Tryz.underlying5 c1 o1 n1 cap1 (l1.map fun (n:Nat)=>(n:Int)) (by simp[e1]) (h1.ints e1) 9 Tryz.underlying9
 have k2:=run_convert_bytes_arg (P:=Tryz.prog) w 35 5 Tryz.underlying35 Tryz.underlying5 c2 o2 n2 cap2 (l2.map fun (n:Nat)=>(n:Int)) (by simp[e2]) (h2.ints e2) 9 Tryz.underlying9
 have hq:=str_eq l1 l2 b1 b2
 generalize l1.map (fun (n:Nat)=>(n:Int))=x1 at *
 generalize l2.map (fun (n:Nat)=>(n:Int))=x2 at *
 have HQ:=hyd hq
 clear hq e1 e2 h1 h2
 go_enter Tryz.func17,Tryz.ntmps17
 go_wp2
 go_ret
 exact⟨by rw[<-HQ.out];rfl,rfl⟩
end Go.Proofs.YtbhbilcieodbhaaGreat
/-
  A core on a chip where nothing is to fail, and of which no block is bad: a block is moved, room is made, a page is programmed anew. No condition: lemmas.
-/
namespace Go.Proofs.YtbhbilcieodbhaaGreat
set_option maxRecDepth 100000
open Go.RowKit
def N3 (K:Kor):Prop:=∀ b,b<12->K.F b≠3
theorem n3_upd {F:Nat->Int} (h:∀ b,b<12->F b≠3) (n:Nat) (s:Int) (hs:s≠3):∀ b,b<12->upd F n s b≠3:=fun b hb=>by
 rcases upd_or F n b s with ⟨_,e⟩ | ⟨_,e⟩ <;> rw[e]
 ·
  exact hs
 ·
  exact h b hb
theorem n3_tkF {F:Nat->Int} (h:∀ b,b<12->F b≠3) (m:Nat):∀ b,b<12->Pool.tkF F 0 m b≠3:=fun b hb=>by
 rw[tkF_at _ hb]
 exact n3_upd h m 1 (by decide) b hb
end Go.Proofs.YtbhbilcieodbhaaGreat
/-
  Tend where nothing is due: pages are read, nothing else. No condition: lemmas.
-/
namespace Go.Proofs.YtbhbilcieodbhaaGreat
set_option maxRecDepth 100000
open Go.RowKit
theorem pgTo_ch {s s':Chp} (h:s'.ch=s.ch) (a:Nat):∀ n,pgTo s' a n=pgTo s a n
 | 0=>rfl
 | n+1=>by
  show pgTo s' a n ++ (s'.ch (4*a+n)).now=pgTo s a n ++ (s.ch (4*a+n)).now
  rw[pgTo_ch h a n,h]
def Cln (K:Kor):Prop:=∀ p:Nat,p<96->Pmap.own K.L p≠-1->(K.tl (pgTo K.s p 4) p).sound=true/\(K.tl (pgTo K.s p 4) p).dmg<2
structure Qt (K K':Kor):Prop where
 eqv:Eqv K K'
 qu:K'.qu=K.qu
 hN:K'.hN=K.hN
 hS:K'.hS=K.hS
 tl:K'.tl=K.tl
 md:K'.md=K.md
 mv:K'.mv=K.mv
 rp:K'.rp=K.rp
 fine:Fine K.s->Fine K'.s
 steps:K'.s.steps=K.s.steps
theorem Qt.refl (K:Kor):Qt K K:=⟨Eqv.refl K,rfl,rfl,rfl,rfl,rfl,rfl,rfl,id,rfl⟩
theorem Qt.trans {K K' K'':Kor} (h:Qt K K') (k:Qt K' K''):Qt K K'':=⟨h.eqv.trans k.eqv,k.qu.trans h.qu,k.hN.trans h.hN,k.hS.trans h.hS,k.tl.trans h.tl,k.md.trans h.md,k.mv.trans h.mv,k.rp.trans h.rp,fun f=>k.fine (h.fine f),k.steps.trans h.steps⟩
theorem Cln.qt {K K':Kor} (h:Cln K) (q:Qt K K'):Cln K':=fun p hp hn=>by
 rw[q.tl,pgTo_ch q.eqv.ch]
 exact h p hp (by rw[<-q.eqv.L];exact hn)
theorem in_quiet {K:Kor} (h:Wf K) {p:Nat} (hp:p<96) (hon:K.s.on=true) (hc:Cln K):(inK K p).2.2=0/\Qt K (inK K p).1:=by
 obtain⟨K',e,ha,hw,hK⟩:=rdK_on h hp hon
 have hq:Qt K K':=by
  subst hK
  refine⟨ha.eqv,rfl,rfl,rfl,rfl,rfl,rfl,rfl,fun f=>?_,rfl⟩
  have:=(f.readV (p:Int)).1
  rwa [readV_on hp f.on] at this
 unfold inK
 rw[e]
 dsimp only
 rw[if_neg (by simp)]
 by_cases h1:Pmap.own K'.L p = -1
 ·
  rw[if_pos h1]
  exact⟨rfl,hq⟩
 ·
  rw[if_neg h1,if_pos (hc p hp (by rw[<-hq.eqv.L];exact h1))]
  exact⟨rfl,hq⟩
theorem tdI_quiet (c:Nat):∀ (n i:Nat) (K:Kor),Wf K->K.s.on=true->Cln K->Qt K (tdI c n i K).1:=by
 intro n
 induction n with
 | zero=>intro i K _ _ _;exact Qt.refl K
 | succ n ih=>
  intro i K h hon hc
  obtain⟨e,on,-,wf,-⟩:=in_ends h (p:=(c+i) % 96) (by omega) hon
  have hq:=(in_quiet h (p:=(c+i) % 96) (by omega) hon hc).2
  rw[tdI,if_neg (by rw[e];simp)]
  exact hq.trans (ih (i+1) _ wf on (hc.qt hq))
theorem awQ_none {R L:Nat->Int} (h:∀ b,b<12->R b<512):∀ (n i:Nat) (q:List Int),i+n=12->awQ R L n i q=q:=by
 intro n
 induction n with
 | zero=>intro i q _;rfl
 | succ n ih=>
  intro i q hi
  have:¬ (Health.much 512 R (i:Nat)=true/\0<Pmap.lvK L 96 i):=fun e=>by
   have e1:=e.1
   unfold Health.much at e1
   rw[if_pos (by omega),Int.toNat_natCast] at e1
   have:=h i (by omega)
   have:=of_decide_eq_true e1
   omega
  rw[awQ,if_neg this]
  exact ih (i+1) q (by omega)
theorem td_quiet {K:Kor} (h:Wf K) (hon:K.s.on=true) (hc:Cln K) (hq:K.qu=[]) (hw:wornK K=false) {N:Nat} (hR:Rdn N K) (hN:N+8<64) (hca:K.ca+1<8) (n m:Nat) :
 ∃ K',tdK n (m+1) K=some (K',0)/\Qt { K with cu:=(K.cu+8) % 96,ca:=K.ca+1 } K'/\Wf K'/\K'.s.on=true/\Rdn (N+8) K':=by
 have hwf:Wf { K with cu:=(K.cu+8) % 96,ca:=K.ca+1 }:=h.pat' (by omega) _
 have hcl:Cln { K with cu:=(K.cu+8) % 96,ca:=K.ca+1 }:=hc
 obtain⟨e1,on1,-,wf1,-,rd1⟩:=tdI_ends K.cu 8 0 _ hwf hon
 have q1:=tdI_quiet K.cu 8 0 _ hwf hon hcl
 have hR1:=rd1 N (by omega) (show Rdn N { K with cu:=(K.cu+8) % 96,ca:=K.ca+1 } from hR)
 generalize hX:tdI K.cu 8 0 { K with cu:=(K.cu+8) % 96,ca:=K.ca+1 }=X at *
 have hlt:∀ b,b<12->X.1.hR b<64:=fun b hb=>by
  obtain⟨a1,a2,a3⟩:=hR1 b hb
  omega
 have haw:awK X.1=X.1:=by
  unfold awK
  rw[awQ_none (fun b hb=>by have:=hlt b hb;omega) 12 0 _ rfl]
 have hwn:wornK X.1=false:=by
  unfold wornK at hw ⊢
  rw[q1.eqv.F,q1.eqv.dd]
  exact hw
 refine⟨X.1,?_,q1,wf1,on1,hR1⟩
 unfold tdK
 rw[hX]
 unfold tdB
 rw[if_neg (by rw[e1];simp),haw]
 have hra:raK n (m+1) X.1=some (X.1,0):=by
  rw[raK,if_neg (by rw[hwn];simp),q1.qu,hq]
 rw[hra]
 dsimp only
 rw[if_neg (by simp),if_neg ?_]
 intro e
 rcases e with e | e
 ·
  rw[q1.eqv.ca] at e
  dsimp only at e
  omega
 ·
  unfold Health.duB at e
  rw[List.any_eq_true] at e
  obtain⟨b,hb,hd⟩:=e
  have hb':=List.mem_range.1 hb
  have:=of_decide_eq_true hd
  have h3:=hlt b hb'
  have h4:=((wf1.hea b hb').2.1).1
  omega
end Go.Proofs.YtbhbilcieodbhaaGreat
/-
  On a chip that was not damaged all that counts is read well: nothing that Tend does there but reads, where nothing is due. No condition: lemmas.
-/
namespace Go.Proofs.YtbhbilcieodbhaaGreat
set_option maxRecDepth 100000
open Go.RowKit
theorem dmgTo_self (a:List Nat):∀ n,dmgTo a a n=0
 | 0=>rfl
 | n+1=>by
  show dmgTo a a n+(if a.getD n 0=a.getD n 0 then 0 else 1)=0
  rw[dmgTo_self a n,if_pos rfl]
theorem dmg_same {k:Chk} (h:k.now=k.tru):dmg k=0:=by
 unfold dmg
 rw[h]
 exact dmgTo_self _ _
theorem Sit.cln {K:Kor} {G:Gho} {X:Nat->Prop} (h:Sit K G X) (hu:Un K.s):Cln K:=by
 intro p hp hn
 rcases Pmap.own_spec K.L (p:Int) with ⟨o,ho,-,hL,-⟩ | ⟨e,-⟩
 ·
  obtain⟨l,D,lv⟩:=h.liv o ho (by rw[hL];omega)
  have ht:=lv.tab
  rw[hL,Int.toNat_natCast] at ht
  obtain⟨-,hE⟩:=h.rep.ent p _ D ht
  have hd:∀ k,k<4->hurt D (body p o (K.vs o) (K.vc o) l) (pgTo K.s p 4) k=0:=fun k hk=>by
   rw[hurt_dmg h.wf.chip hk (h.rep.is p _ D ht k hk).2]
   exact dmg_same (hu.2 _)
  have hm:=ToldR.mends (Dt:=D) (X:=pgTo K.s p 4) (p:=p) (o:=o) (s:=K.vs o) (c:=K.vc o) (l:=l) (g:=K.tl (pgTo K.s p 4) p) hE.len hE.bys hE.may (pgTo_length h.wf.chip p 4) (h.wf.tl _ _) (fun k hk=>by rw[hd k hk];decide)
  obtain⟨-,-,-,-,-,-,hs,-,hg⟩:=hm
  refine⟨hs,?_⟩
  rw[hg,hd 0 (by omega),hd 1 (by omega),hd 2 (by omega),hd 3 (by omega)]
  decide
 ·
  exact absurd e hn
theorem FrL_qu (K1:Kor) (o p:Nat) (s':Chp) (r':Int) (R':Nat->Int):(FrL K1 o p s' r' R').1.qu=K1.qu:=by
 unfold FrL layK ntK
 dsimp only
 split <;> rfl
structure Lit (N:Nat) (K:Kor) (G:Gho):Prop where
 sit:Sit K G (fun _=>False)
 told:Told K G
 rm:Rm 0 K
 n3:N3 K
 un:Un K.s
 dd:K.dd=false
 qu:K.qu=[]
 rd:Rdn N K
 z:∀ o,¬ G.z o
theorem Lit.worn {N:Nat} {K:Kor} {G:Gho} (h:Lit N K G):wornK K=false:=by
 rw[worn_is h.sit]
 exact h.dd
theorem Lit.qt {N M:Nat} {K K':Kor} {G:Gho} (h:Lit N K G) (q:Qt K K') (wf:Wf K') (un:Un K'.s) (rd:Rdn M K'):Lit M K' G where
 sit:=h.sit.eqv q.eqv wf
 told:=fun b hb e=>h.told b hb (by rw[<-q.eqv.F];exact e)
 rm:=by
  have:=h.rm
  unfold Rm at this ⊢
  rw[q.eqv.F]
  exact this
 n3:=fun b hb=>by rw[q.eqv.F];exact h.n3 b hb
 un:=un
 dd:=q.eqv.dd.trans h.dd
 qu:=q.qu.trans h.qu
 rd:=rd
 z:=h.z
theorem Lit.tend {N:Nat} {K:Kor} {G:Gho} (h:Lit N K G) (hN:N+8<64) (hca:K.ca+1<8) (n m:Nat) :
 ∃ K',tdK n (m+1) K=some (K',0)/\Lit (N+8) K' G/\K'.ca=K.ca+1/\K'.L=K.L/\K'.fr=K.fr/\K'.F=K.F/\K'.nx=K.nx:=by
 obtain⟨K',e,q,wf,on,rd⟩:=td_quiet h.sit.wf h.un.1.on (h.sit.cln h.un) h.qu h.worn h.rd hN hca n m
 have h0:Lit N { K with cu:=(K.cu+8) % 96,ca:=K.ca+1 } G:=⟨h.sit.pstep,h.told,h.rm,h.n3,h.un,h.dd,h.qu,h.rd,h.z⟩
 exact⟨K',e,h0.qt q wf (un_tdK e h.un) rd,q.eqv.ca,q.eqv.L,q.eqv.fr,q.eqv.F,q.eqv.nx⟩
end Go.Proofs.YtbhbilcieodbhaaGreat
/-
  Put, Get and Trim on a core that was begun and to which little was done. No condition: lemmas.
-/
namespace Go.Proofs.YtbhbilcieodbhaaGreat
set_option maxRecDepth 100000
open Go.RowKit
theorem FrL_ca {o:Nat} (ho:o<24) (K1:Kor) (p:Nat) (s':Chp) (r':Int) (R':Nat->Int):(FrL K1 o p s' r' R').1.ca=K1.ca:=by
 unfold FrL layK ntK
 dsimp only
 rw[if_neg (by omega)]
theorem Rm.ofF {K K':Kor} (h:Rm 0 K) (e:K'.F=K.F):Rm 0 K':=by
 unfold Rm at h ⊢
 rw[e]
 exact h
theorem Lit.put {N:Nat} {K:Kor} {G:Gho} (h:Lit N K G) {o:Nat} (ho:o<24) {D:List Nat} (hD:D.length=174) (bD:Bys D) (hr:Front.rmV K.fr o=true) (hnx:K.nx<mxS) (h24:K.L 24≠-1) (hN:N+1<4611686018427387904) (n:Nat) :
 ∃ K' T,anR (n+1) (fun _ _=>D) K o=some (K',0)/\Lit (N+1) K' { G with T:=T,a:=updN G.a o D,z:=fun x=>x≠o/\G.z x }/\K'.ca=K.ca/\K'.L=upd K.L o ((8*K.fr.k+K.fr.i:Nat):Int)/\K'.fr=⟨true,K.fr.k,K.fr.i+1⟩/\K'.F=K.F/\K'.nx=K.nx+1:=by
 obtain⟨K1,s',r',R',fD,fi,rd,e1⟩:=an_fine (H:=fun _ _=>D) (fun _ _=>⟨hD,bD⟩) h.sit h.un.1 h.dd (o:=o) (by omega) hr hnx n
 have hl:=frL_is (by omega) fD
 obtain⟨-,-,-,-,-,-,-,T,sB⟩:=put_fin ho fD h24 rfl
 have hun:=un_anR _ _ _ _ _ e1 h.un
 have hqu:=FrL_qu K1 o (8*K.fr.k+K.fr.i) s' r' R'
 have hca:=FrL_ca ho K1 (8*K.fr.k+K.fr.i) s' r' R'
 have hK1:=fD.e
 have hrd:=rd N hN h.rd
 generalize FrL K1 o (8*K.fr.k+K.fr.i) s' r' R'=Z at *
 obtain⟨l0,lL,ls,lF,lfr,lnx,lmv,ldd,ltl⟩:=hl
 obtain⟨K',c⟩:=Z
 dsimp only at l0 lL ls lF lfr lnx lmv ldd ltl sB hun hqu hca hrd
 subst l0
 subst hK1
 refine⟨K',T,e1,⟨sB,fun b hb e=>h.told b hb (by rw[<-lF];exact e),h.rm.ofF lF,fun b hb=>by rw[lF];exact h.n3 b hb,hun,ldd.trans h.dd,hqu.trans h.qu,hrd,fun x e=>h.z x e.2⟩,hca,lL,lfr,lF,lnx⟩
theorem Lit.get {N:Nat} {K:Kor} {G:Gho} (h:Lit N K G) (hN:N+1<4611686018427387904) {o:Nat} (ho:o<24) :
 ∃ K',geK K o=(K',(G.a o).take 160,0)/\Lit (N+1) K' G/\Eqv K K':=by
 have hiv:Ivk K G:=⟨h.un.1.on,_,h.sit,fun _=>⟨fun _=>id,h.rm,h.told⟩⟩
 obtain⟨K',iv,ev,tl,rd,hg⟩:=ge_ends hiv ho
 rcases hg with hg | ⟨hz,_⟩
 ·
  have hun:=un_geK K o h.un
  rw[hg] at hun
  have hq:Qt K K':=by
   have e:K'=(geK K o).1:=by rw[hg]
   unfold geK at e
   by_cases hL:K.L o = -1
   ·
    rw[if_pos hL] at e
    dsimp only at e
    subst e
    exact Qt.refl _
   ·
    rw[if_neg hL] at e
    dsimp only at e
    have hp:=h.sit.wf.map
    have hlt:(K.L o).toNat<96:=by
     obtain⟨l,D,lv⟩:=h.sit.liv o (by omega) hL
     exact(h.sit.rep.ent _ _ D lv.tab).1
    obtain⟨q0,q1⟩:=in_quiet h.sit.wf hlt h.un.1.on (h.sit.cln h.un)
    rw[if_neg (by rw[q0];simp)] at e
    have e2:K'=(inK K (K.L o).toNat).1:=by
     split at e <;> exact e
    subst e2
    exact q1
  obtain⟨X,hs,-⟩:=iv.sit
  exact⟨K',hg,h.qt hq hs.wf hun (rd N hN h.rd),ev⟩
 ·
  exact absurd hz (h.z o)
end Go.Proofs.YtbhbilcieodbhaaGreat
/-
  Trim on a core that was begun and to which little was done. No condition: lemmas.
-/
namespace Go.Proofs.YtbhbilcieodbhaaGreat
set_option maxRecDepth 100000
open Go.RowKit
theorem FrL_ca0 (K1:Kor) (p:Nat) (s':Chp) (r':Int) (R':Nat->Int):(FrL K1 24 p s' r' R').1.ca=0:=by
 unfold FrL layK ntK
 rfl
theorem Lit.trim {N:Nat} {K:Kor} {G:Gho} (h:Lit N K G) {o:Nat} (ho:o<24) (hL:K.L o≠-1) (hr:Front.rmV K.fr ((24:Nat):Int)=true) (hnx:K.nx<mxS) (hN:N+1<4611686018427387904) (n:Nat) :
 ∃ K' G',tmK (n+1) K o=some (K',0)/\Lit (N+1) K' G'/\G'.a=updN G.a o (List.replicate 174 0)/\K'.ca=0/\K'.fr=⟨true,K.fr.k,K.fr.i+1⟩/\K'.F=K.F/\K'.nx=K.nx+1:=by
 obtain⟨K1,s',r',R',fD,fi,rd,e1⟩:=an_fine (H:=tmH o (K.vs o:Nat)) (fun _ _=>⟨Point.wrL_length _,Point.wrL_bys _⟩) h.sit h.un.1 h.dd (o:=24) (by decide) hr hnx n
 have hl:=frL_is (by decide) fD
 obtain⟨n1,n2,n3,n4,n5,n6,n7,n8,n9,G',g1,g2,s2,t2⟩:=trim_fin ho fD hL h.dd
 have hun:=un_anR _ _ _ _ _ e1 h.un
 have hqu:=FrL_qu K1 24 (8*K.fr.k+K.fr.i) s' r' R'
 have hca:=FrL_ca0 K1 (8*K.fr.k+K.fr.i) s' r' R'
 have hK1:=fD.e
 have hrd:=rd N hN h.rd
 generalize FrL K1 24 (8*K.fr.k+K.fr.i) s' r' R'=Z at *
 obtain⟨l0,lL,ls,lF,lfr,lnx,lmv,ldd,ltl⟩:=hl
 subst hK1
 refine⟨{ Z.1 with fl:=upd Z.1.fl o (K.vs o:Nat),L:=Pmap.dropL Z.1.L (o:Nat) },G',?_,⟨s2,fun b hb e=>t2 b hb (by rw[<-lF];exact e),h.rm.ofF lF,fun b hb=>?_,hun,ldd.trans h.dd,hqu.trans h.qu,hrd,fun x e=>?_⟩,g1,hca,lfr,lF,lnx⟩
 ·
  unfold tmK
  rw[if_neg hL,e1]
  dsimp only
  rw[if_neg (by rw[n1];simp),n8]
 ·
  show Z.1.F b≠3
  rw[lF]
  exact h.n3 b hb
 ·
  rw[g2] at e
  exact h.z x e.2
theorem Bgn.lit {K:Kor} {G:Gho} (h:Bgn K G) (hu:Un K.s) (hq:K.qu=[]):Lit 1 K G where
 sit:=h.sit
 told:=h.told
 rm:=h.rm
 n3:=by
  have:=n3_tkF (F:=fun _=>0) (fun _ _=>by decide) 0
  intro b hb
  rw[h.F]
  exact this b hb
 un:=hu
 dd:=h.dd
 qu:=hq
 rd:=h.rd
 z:=fun o e=>by rw[h.z] at e;exact e
end Go.Proofs.YtbhbilcieodbhaaGreat
/-
  A chip on which nothing was programmed: read through it stays so, no page of it bears a tag; a core of nothing on it that is cleaned stands as a new one. No condition: lemmas.
-/
namespace Go.Proofs.YtbhbilcieodbhaaGreat
set_option maxRecDepth 100000
open Go.RowKit
structure Blank (s:Chp):Prop where
 ok:s.Ok
 fine:Fine s
 ch:∀ j,s.ch j=newK
 hi:∀ b,12<=b->(s.bl b).reads=0
theorem Blank.new:Blank newS:=⟨newS_ok,newS_fine,fun _=>rfl,fun _ _=>rfl⟩
theorem Blank.is {s:Chp} (h:Blank s) (j:Nat):(s.ch j).is=false:=by rw[h.ch];rfl
theorem Blank.un {s:Chp} (h:Blank s):Un s:=⟨h.fine,fun j=>by rw[h.ch];rfl⟩
theorem Blank.page {s:Chp} (h:Blank s) (a:Nat):pgTo s a 4=List.replicate 256 255:=by
 show ((([] ++ (s.ch (4*a+0)).now) ++ (s.ch (4*a+1)).now) ++ (s.ch (4*a+2)).now) ++ (s.ch (4*a+3)).now=_
 rw[h.ch,h.ch,h.ch,h.ch]
 decide
theorem Blank.rd {s:Chp} (h:Blank s) {a:Nat} (ha:a<96):Blank (rdS s a):=by
 refine⟨rdS_ok h.ok a,?_,h.ch,fun b hb=>?_⟩
 ·
  have:=(h.fine.readV (a:Int)).1
  rwa [readV_on ha h.fine.on] at this
 ·
  show (if b=a / 8 then ({ s.bl (a / 8) with reads:=wrap64 ((s.bl (a / 8)).reads+1) }:Blo) else s.bl b).reads=0
  rw[if_neg (by omega)]
  exact h.hi b hb
theorem Blank.read {s s':Chp} (h:Blank s) {a:Nat} (ha:a<96) {r r':Int} {x:Pg} {c:Nat} (hr:ReadR s r (a:Nat) s' r' x c):Blank s'/\c=0/\x.tagged=false/\s'.steps=s.steps:=by
 obtain⟨e1,e2,h3⟩:=hr
 rw[readV_on ha h.fine.on] at e1 e2 h3
 dsimp only at e1 e2 h3
 subst e1
 refine⟨h.rd ha,e2,?_,rfl⟩
 rcases h3 with ⟨n,_⟩ | ⟨_,_,ht⟩
 ·
  exact absurd e2 n
 ·
  rw[h.page] at ht
  refine(ht.blank ?_).1
  have:ds (part 64 (List.replicate 256 255) 3) ff64=0:=by decide
  omega
def R8 (n:Nat):Nat->Int:=fun b=>if b<n then 8 else 0
theorem ef_fineR {tl:List Nat->Int->Pg} (htl:∀ L n,ToldR L n (tl L n)):∀ (n i:Nat) (s:Chp) (R:Nat->Int),i+n=12->Blank s->(∀ b,b<i\/12<=b->R b=0/\(s.bl b).reads=0)->(∀ b,0<=R b/\R b<=65535) ->
 ∃ s',efK (fun _=>0) n i { K0 s tl with hR:=R } false=(K0 s' tl,false,0)/\Blank s'/\(∀ b,(s'.bl b).reads=0):=by
 intro n
 induction n with
 | zero=>
  intro i s R hi hB hr _
  have hz:R=fun _=>0:=by
   funext b
   exact(hr b (by omega)).1
  subst hz
  exact⟨s,rfl,hB,fun b=>(hr b (by omega)).2⟩
 | succ n ih=>
  intro i s R hi hB hr hR
  have hwf:Wf { K0 s tl with hR:=R }:={ wf0 hB.ok htl with hea:=fun b hb=>⟨hR b,((wf0 hB.ok htl).hea b hb).2⟩ }
  have hf:=hB.fine
  obtain⟨e1,e2⟩:=er_fine (K:={ K0 s tl with hR:=R }) hwf (b:=i) (by omega) hf
  have h1:=hf.erase i
  have h2:=eraseR_ends hB.ok (show i<12 by omega) hf.on
  have h0:(eraseR s i).2=0:=by
   rcases h2 with ⟨a,_⟩ | ⟨a,_⟩ | ⟨a,_⟩
   ·
    exact a
   ·
    exact absurd a h1.2.2
   ·
    exact absurd a h1.2.1
  have eK:erK { K0 s tl with hR:=R } i=({ K0 (eraseR s i).1 tl with hR:=upd R i 0 },0):=by
   unfold erK
   dsimp only
   have h0':(eraseR (K0 s tl).s i).2=0:=h0
   rw[if_pos h0']
   show (({ K0 s tl with s:=(eraseR s i).1,hR:=upd R i 0,hN:=upd (fun _=>(0:Int)) i 0 }:Kor),0)=_
   rw[upd0]
   rfl
  have hch:∀ j,(eraseR s i).1.ch j=newK:=by
   rcases h2 with ⟨_,_,_,a⟩ | ⟨a,_⟩ | ⟨a,_⟩
   ·
    intro j
    rw[a]
    split
    ·
     rfl
    ·
     exact hB.ch j
   ·
    rw[h0] at a;cases a
   ·
    rw[h0] at a;cases a
  have hok:(eraseR s i).1.Ok:=eraseR_ok hB.ok i
  have hrd:∀ b,((eraseR s i).1.bl b).reads=if b=i then 0 else (s.bl b).reads:=by
   intro b
   unfold eraseR
   rw[if_neg (by omega),if_neg (by rw[hf.on];decide),if_neg (by rw[hf.lim];simp),if_neg (by rw[(hf.failE _).1];decide)]
   show (if b=(i:Int).toNat then { ((goS s).setBl (i:Int).toNat (failE (s.bl (i:Int).toNat))).bl (i:Int).toNat with reads:=0 } else ((goS s).setBl (i:Int).toNat (failE (s.bl (i:Int).toNat))).bl b).reads=_
   rw[Int.toNat_natCast]
   by_cases c:b=i
   ·
    rw[if_pos c,if_pos c]
   ·
    rw[if_neg c,if_neg c]
    show (if b=i then failE (s.bl i) else s.bl b).reads=_
    rw[if_neg c]
  have hB1:Blank (eraseR s i).1:=⟨hok,h1.1,hch,fun b hb=>by rw[hrd,if_neg (by omega)];exact hB.hi b hb⟩
  obtain⟨s',q⟩:=ih (i+1) (eraseR s i).1 (upd R i 0) (by omega) hB1 (fun b hb=>by
   rw[hrd]
   unfold upd
   by_cases c:b=i
   ·
    rw[if_pos c,if_pos c];exact⟨rfl,rfl⟩
   ·
    rw[if_neg c,if_neg c];exact hr b (by omega)) (fun b=>by
   unfold upd
   split
   ·
    decide
   ·
    exact hR b)
  refine⟨s',?_,q.2⟩
  rw[efK,if_neg (by simp),eK]
  dsimp only
  rw[if_neg (by decide),if_neg (by decide)]
  exact q.1
theorem cn_blank {tl:List Nat->Int->Pg} (htl:∀ L n,ToldR L n (tl L n)) {s:Chp} (hB:Blank s) (n:Nat):∃ K G,cnK (n+2) { K0 s tl with hR:=R8 12 }=some (K,0)/\(Bgn K G/\Lit 1 K G)/\K.tl=tl:=by
 obtain⟨s',e1,hB',r1⟩:=ef_fineR htl 12 0 s (R8 12) rfl hB (fun b hb=>⟨by unfold R8;rw[if_neg (by omega)],hB.hi b (by omega)⟩) (fun b=>by unfold R8;split <;> decide)
 have o1:=hB'.ok
 have f1:=hB'.fine
 have h0:=sit0 o1 hB'.is htl
 have eF:efK ({ K0 s tl with hR:=R8 12 }:Kor).F 12 0 { K0 s tl with hR:=R8 12 } false=(K0 s' tl,false,0):=e1
 have hop:=h0.op (by rfl) (by show 1<=fre (fun _=>0);decide)
 have hspr:sprK (K0 s' tl)=true:=by
  show decide (Pool.bnd (fun _=>0)<((Pool.cnt (fun _=>0) 0 12:Nat):Int))=true
  decide
 have hKO:∃ KO:Kor,opK (K0 s' tl)=(KO,0)/\KO.s=s'/\KO.F=Pool.tkF (fun _=>0) 0 0/\KO.fr=⟨true,0,0⟩/\KO.L=(fun _=>-1)/\KO.nx=1/\KO.dd=false/\KO.mv=0/\KO.tl=tl/\KO.hR=(fun _=>0)/\KO.qu=[]/\Un KO.s:=by
  have:=tk0
  have t1:tkC (K0 s' tl).F=0:=this.1
  have t2:tkM (K0 s' tl).F=0:=this.2
  refine⟨{ K0 s' tl with F:=Pool.tkF (fun _=>0) 0 0,fr:=⟨true,0,0⟩ },?_,rfl,rfl,rfl,rfl,rfl,rfl,rfl,rfl,rfl,rfl,hB'.un⟩
  unfold opK
  rw[if_pos t1,t2]
  rfl
 obtain⟨KO,eO,k1,k2,k3,k4,k5,k6,k7,k8,k9,k10,k11⟩:=hKO
 rw[eO] at hop
 obtain⟨_,s2,fr2,b2,_,q2,_⟩:=hop
 dsimp only at s2 fr2 b2 q2
 have hr:Front.rmV KO.fr ((24:Nat):Int)=true:=by rw[k3];decide
 obtain⟨c,K1,s3,r3,R3,fD,f3,rd3,fz,fl⟩:=fr_fine noH_ok s2 (by rw[k1];exact f1) (by decide:(24:Nat)<25) hr (by rw[k5];decide)
 have ean:=an_open (H:=noH) (K:=K0 s' tl) (o:=24) (by rw[worn_is h0];rfl) rfl (by show ¬ Front.rmV noF ((24:Nat):Int)=true;decide) rfl hspr eO hr c fz n
 rw[fl] at ean
 have hu:=un_anR _ _ _ _ _ ean hB'.un
 have hq:=(FrL_qu K1 24 (8*KO.fr.k+KO.fr.i) s3 r3 R3).trans ((congrArg (·.qu) fD.e).trans k10)
 have hl:=frL_is (by decide) fD
 obtain⟨n1,n2,n3,n4,n5,n6,n7,G',g1,g2,g3⟩:=note_str fD k6
 rw[k3] at ean hl n1 n2 n3 n4 n5 n6 n7 g1 g2 g3 rd3 hu hq
 generalize FrL K1 24 (8*(⟨true,0,0⟩:Front.St).k+(⟨true,0,0⟩:Front.St).i) s3 r3 R3=Z at *
 refine(fun (x:_/\(Bgn Z.1 G')/\_)=>⟨Z.1,G',x.1,⟨x.2.1,x.2.1.lit hu hq⟩,x.2.2⟩) ⟨?_,⟨g1,g2,?_,?_,?_,?_,?_,?_,?_,?_,?_,?_,?_,?_⟩,?_⟩
 ·
  unfold cnK
  rw[if_neg (by show ¬ false=true;decide),eF,if_neg (by simp)]
  dsimp only
  rw[if_neg (by show ¬ ((-1:Int)≠-1/\_);simp),ean]
  show some (Z.1,unw Z.2)=_
  rw[hl.1]
  rfl
 ·
  unfold Rm
  rw[hl.2.2.2.1,k2]
  decide
 ·
  rw[hl.2.2.1];exact f3
 ·
  rw[hl.2.2.2.2.2.2.2.1];exact k6
 ·
  rw[g3.a];rfl
 ·
  rw[g3.z];rfl
 ·
  rw[hl.2.1,k4];rfl
 ·
  rw[hl.2.2.2.1,k2]
 ·
  rw[hl.2.2.2.2.1]
 ·
  rw[hl.2.2.2.2.2.1,k5]
 ·
  exact n7
 ·
  rw[hl.2.2.2.2.2.2.1,k7]
 ·
  have h00:Rdn 0 KO:=fun b _=>by
   rw[k1,k9,r1 b]
   show 0<=(0:Int)/\(0:Int)<=((0:Nat):Int)/\(0:Int)=min 0 65535
   decide
  exact rd3 0 (by decide) h00
 ·
  rw[hl.2.2.2.2.2.2.2.2,k8]
end Go.Proofs.YtbhbilcieodbhaaGreat
/-
  mount's look at a chip on which nothing was programmed. No condition: lemmas.
-/
namespace Go.Proofs.YtbhbilcieodbhaaGreat
set_option maxRecDepth 100000
open Go.RowKit
theorem add_blank (B:Nat) (a:Int) (x:Pg) (v:Value) (hx:x.tagged=false) (w:World) :
 Calls Tryz.prog 100 #[.pointer (some ⟨B,0,none⟩),.int .i64 a,pgV x v] w fun e w'=>e=.returned (.tuple #[])/\Chg (fun _=>False) w w':=by
 unfold pgV
 rw[hx]
 have c0:=(Pb.new w false x.p x.o x.s x.c x.l x.sound v x.dmg).cells.1
 have G0:=hyd ((Chg.refl (fun _=>False) w).alloc (.cells #[.bool false,.int .i64 x.p,.int .i64 x.o,.int .i64 x.s,.int .i64 x.c,.bool x.l,.bool x.sound,v,.int .i64 x.dmg] 129))
 go_enter Tryz.func100,Tryz.ntmps100
 go_wp2
 refine bodyPost_ret (results_none rfl _ _ _) rfl ?_
 exact⟨rfl,G0.out⟩
def Sg (w:World) (b:Nat) (v:Value):Prop:=w.heap[b]?=some (.cells #[.slice none 0 0,v] 147)
theorem Sg.new (w:World) (v:Value):Sg (w.alloc (.cells #[.slice none 0 0,v] 147)) w.heap.size v:=by
 show (w.heap.push _)[w.heap.size]?=_
 simp
theorem Sg.lt {w:World} {b:Nat} {v:Value} (h:Sg w b v):b<w.heap.size:=(Array.getElem?_eq_some_iff.1 (show w.heap[b]?=some _ from h)).1
theorem Sg.chg {S:Nat->Prop} {w w':World} {b:Nat} {v:Value} (h:Sg w b v) (hc:Chg S w w') (hb:¬ S b):Sg w' b v:=(hc.block b h.lt hb).trans h
theorem Sg.cells {w:World} {b:Nat} {v:Value} (h:Sg w b v):w.cell? ⟨b,0,none⟩=some (.slice none 0 0)/\w.cell? ⟨b,1,none⟩=some v:=by
 have h':w.heap[b]?=some _:=h
 refine⟨?_,?_⟩ <;> simp[World.cell?,h']
theorem sizeSg:(Tryz.prog.info? 147).map (·.size)=some 2:=by kernel_rfl
theorem wpList_load_sg {ops:Array Oper} {rest:List Oper} {o:Oper} {a:Act} {w:World} {Q:Exit->Act->World->Prop} (hgd:o.guard=none) (x:Operand) (ho:o.op=.load 147 x)
 (g:Nat) (hx:a.eval x=.pointer (some ⟨g,0,none⟩)) {v:Value} (hg:Sg w g v)
 (h:wpList Tryz.prog ops Q rest (a.put o.dst (.agg #[.slice none 0 0,v])) w):wpList Tryz.prog ops Q (o :: rest) a w:=
 wpList_load_row hgd 147 x ho g hx 147 _ _ _ hg Tryz.underlying147 rfl sizeSg h
theorem wpList_store_sg {ops:Array Oper} {rest:List Oper} {o:Oper} {a:Act} {w:World} {Q:Exit->Act->World->Prop} (hgd:o.guard=none) (x y:Operand) (ho:o.op=.store 147 x y)
 (g:Nat) (hx:a.eval x=.pointer (some ⟨g,0,none⟩)) {v:Option Nat} (hy:a.eval y=.agg #[.slice none 0 0,.map v]) {v':Value} (hg:Sg w g v')
 (h:∀ w',Sg w' g (.map v)->Chg (·=g) w w'->wpList Tryz.prog ops Q rest (a.put o.dst undef) w'):wpList Tryz.prog ops Q (o :: rest) a w:=
 wpList_store_row hgd 147 x y ho g _ hx hy 147 _ hg sizeSg rfl (by simp[Value.oneCell']) (h _ (setRow_heap w g _ _ 147 _ hg) ⟨rfl,rfl,rfl,by simp,fun k _ hk=>setRow_other _ _ _ _ hk⟩)
theorem zeroSg (w:World):(zeroValue 147).run Tryz.prog w=.ok (.agg #[.slice none 0 0,.map none]) w:=by kernel_rfl
theorem buildSg (n:Nat) (w:World):(Instr.build 147 #[(1,.map (some n))]).run Tryz.prog w=.ok (.agg #[.slice none 0 0,.map (some n)]) w:=by kernel_rfl
theorem wpList_alloc_sg {ops:Array Oper} {rest:List Oper} {o:Oper} {a:Act} {w:World} {Q:Exit->Act->World->Prop} (hgd:o.guard=none) (ho:o.op=.alloc 147) (N:Nat) (hN:w.heap.size=N)
 (h:∀ w',Sg w' N (.map none)->Chg (fun _=>False) w w'->w'.heap.size=N+1->wpList Tryz.prog ops Q rest (a.put o.dst (.pointer (some ⟨N,0,none⟩))) w'):wpList Tryz.prog ops Q (o :: rest) a w:=by
 refine wpList_plain hgd fun K hK=>?_
 have hz:=zeroSg
 unfold Oper.wp
 simp[execOp,ho,Instr.alloc,hz,newVar,Value.cells,newRow]
 rw[hN]
 exact hK _ _ (h _ (by rw[<-hN];exact Sg.new w _) ((Chg.refl _ w).alloc _) (by simp[hN]))
theorem results_sg {fn:Func} {q u:Tmp} (h:fn.results=#[.cell q 147,.tmp u]) (tmps:Array Value) {w:World} {g:Nat} {v:Value} (hp:tmps.getD q undef=.pointer (some ⟨g,0,none⟩)) (hT:Sg w g v) :
 (results fn tmps).run Tryz.prog w=.ok (.tuple #[.agg #[.slice none 0 0,v],tmps.getD u undef]) w:=by
 rw[results_cell_tmp h,hp]
 simp[asAddr,run_loadVar_row w g 147 147 _ _ _ hT Tryz.underlying147 rfl sizeSg]
set_option maxHeartbeats 4000000 in
theorem look_blank (g:Nat) (s:Chp) (hB:Blank s) (w:World) (h:ChipAt w g s) :
 Calls Tryz.prog 65 #[.pointer (some ⟨g,0,none⟩)] w fun e w'=>∃ s' mp,e=.returned (.tuple #[.agg #[.slice none 0 0,.map (some mp)],.nilIface])/\Blank s'/\s'.steps=s.steps/\ChipAt w' g s'/\Chg (·=g) w w':=by
 have HB:=hyd hB
 have HC:=hyd h
 have HL:=hyd h.lt
 have hmm:=@run_makeMap Tryz.prog
 have hbs:=buildSg
 have q0:=neq_nil_nil
 clear hB h
 go_enter Tryz.func65,Tryz.ntmps65
 go_wp2_with (refine wpList_alloc_sg rfl rfl w.heap.size rfl ?_)
 intro w1 K1 G1 S1
 have HK1:=hyd K1
 have HG1:=hyd G1
 have HS1:=hyd S1
 clear K1 G1 S1
 go_wp2_with (refine wpList_alloc_sg rfl rfl _ rfl ?_)
 intro w2 K2 G2 S2
 have HK2:=hyd K2
 have HG2:=hyd (((HG1.out.alloc (.map #[] 0)).trans G2))
 have HR2:=hyd ((HK1.out.chg ((Chg.refl (fun _=>False) w1).alloc (.map #[] 0)) (fun f=>f)).chg G2 (fun f=>f))
 have hN2:(w1.alloc (.map #[] 0)).heap.size=w1.heap.size+1:=by simp
 have hs1:=HS1.out
 clear K2 G2
 go_wp2_with (refine wpList_store_sg rfl (.tmp 4) (.tmp 14) rfl _ rfl rfl HK2.out ?_)
 intro w3 K3 G3
 have HK3:=hyd K3
 have HG3:=hyd (HG2.out.trans' G3 (fun k hk e=>by omega))
 have HR3:=hyd (HR2.out.chg G3 (fun e=>by omega))
 have HC3:=hyd (HC.out.chg HG3.out (fun f=>f))
 clear K3 G3 HK2 HR2 HG2 hN2 S2 hs1 HS1 HK1 HG1
 have hcall:=mnew_any g w3
 go_wp2_with fail
 refine hcall.mono ?_
 rintro x w4 ⟨m,p,q,b,rfl,hge,M4,G4⟩
 have HM:=hyd M4
 have HC:=hyd (HC3.out.chg G4 (fun f=>f))
 have HK:=hyd (HK3.out.chg G4 (fun f=>f))
 have HR:=hyd (HR3.out.chg G4 (fun f=>f))
 have HG:=hyd ((HG3.out.trans G4).mono (T:=(·=g)) (fun _ _ f=>f.elim))
 have HGE:=hyd hge
 have HS:=hyd HG3.out.size
 have HL3:Hid (w.heap.size+1+1<w3.heap.size):=HK3.out.lt
 clear hcall M4 G4 hge HC3 HK3 HR3 HG3
 go_wp2
 go_loopg [17] 96 (fun kx s17 wr=>∃ (i:Nat) (s':Chp) (r:Int),s17=.int .i64 i/\i<=96/\96 - i<=kx/\Hid (Med wr m g p q b r)/\Hid (ChipAt wr g s')/\Hid (Blank s')/\Hid (s'.steps=s.steps)/\Hid (Sg wr (w.heap.size+1+1) (.map (some (w.heap.size+1))))/\Hid (Sg wr w.heap.size (.map none))/\Hid (Chg (·=g) w wr))
 case atStart=>exact⟨0,s,0,rfl,by omega,by omega,HM.out,HC.out,HB.out,rfl,HK.out,HR.out,HG.out⟩
 case round=>
  clear HM HC HK HR HG HB
  obtain⟨i,s',r,rfl,hi,hkx,HM,HC,HB,HS',HK,HR,HG⟩:=hrel
  by_cases hlt:i<96
  ·
   have hltz:(i:Int)<96:=by omega
   have hcall:=mread_any m g p q b r s' HB.out.ok wr HM.out HC.out (i:Nat)
   go_wp2_with fail
   refine hcall.mono ?_
   rintro e w5 ⟨s2,r2,x,c,v,rfl,hR,hO,M5,C5,G5⟩
   obtain⟨B5,rfl,ht,hst⟩:=HB.out.read hlt hR
   have hadd:=fun (B:Nat) (u:World)=>add_blank B (i:Nat) x v ht u
   have hone:=hO.one
   have HM5:=hyd M5
   have HC5:=hyd C5
   have HB5:=hyd B5
   have HS5:Hid (s2.steps=s.steps):=hst.trans HS'.out
   obtain⟨g1,g2,g3,g4⟩:=HGE.out
   have nf:∀ k,k<w.heap.size+1+1+1->¬ k=g->¬ (k=m\/k=g\/k=b):=fun k hk hn e=>by
    have:=HL3.out
    omega
   have HK5:=hyd (HK.out.chg G5 (nf _ (by omega) (by have:=HL.out;omega)))
   have HR5:=hyd (HR.out.chg G5 (nf _ (by omega) (by have:=HL.out;omega)))
   have HG5:=hyd (HG.out.trans' G5 (fun k hk e=>by have:=HL3.out;omega))
   have HP5:=hyd (Pb.new w5 false 0 0 0 0 false false (.slice none 0 0) 0)
   have HA5:Hid (Chg (fun _=>False) w5 (w5.alloc (.cells #[.bool false,.int .i64 0,.int .i64 0,.int .i64 0,.int .i64 0,.bool false,.bool false,.slice none 0 0,.int .i64 0] 129))):=(Chg.refl _ w5).alloc _
   have HL5:Hid (w.heap.size<=w5.heap.size):=HG5.out.size
   have HLT:=hyd HC5.out.lt
   clear hcall hR hO M5 C5 G5 B5 hst ht HM HC HB HS' HK HR HG nf g1 g2 g3 g4
   unfold pgV
   rw[show nerrV 0=.nilIface from rfl]
   go_wp2_with (refine wpList_store_pg rfl (.tmp 7) (.tmp 24) rfl _ rfl rfl hone HP5.out ?_)
   intro w6 P6 G6
   have HP6:=hyd P6
   have HZ:Hid (Chg (fun _=>False) w5 w6):=HA5.out.trans' G6 (fun k hk e=>by subst e;omega)
   have HM6:=hyd (HM5.out.chg HZ.out)
   have HC6:=hyd (HC5.out.chg HZ.out (fun f=>f))
   have HK6:=hyd (HK5.out.chg HZ.out (fun f=>f))
   have HR6:=hyd (HR5.out.chg HZ.out (fun f=>f))
   have HG6:=hyd (HG5.out.trans' HZ.out (fun _ _ f=>f.elim))
   clear P6 G6 HP5 HA5 HM5 HC5 HK5 HR5 HG5 HZ
   go_wp2_with (refine wpList_load_pg rfl (.tmp 7) rfl _ rfl HP6.out ?_)
   refine(hadd _ _).mono ?_
   rintro e w7 ⟨rfl,Z7⟩
   have HM7:=hyd (HM6.out.chg Z7)
   have HC7:=hyd (HC6.out.chg Z7 (fun f=>f))
   have HK7:=hyd (HK6.out.chg Z7 (fun f=>f))
   have HR7:=hyd (HR6.out.chg Z7 (fun f=>f))
   have HG7:=hyd (HG6.out.trans' Z7 (fun _ _ f=>f.elim))
   clear HM6 HC6 HK6 HR6 HG6 Z7 hadd hone HP6
   go_wp2
   go_roundg (96 - (i+1))
   case measure=>omega
   case rel=>exact⟨i+1,s2,r2,by simp,by omega,Nat.le_refl _,HM7.out,HC7.out,HB5.out,HS5.out,HK7.out,HR7.out,HG7.out⟩
  ·
   have hltz:¬ (i:Int)<96:=by omega
   go_wp2_with (first | (refine wpList_load_sg rfl (.tmp 4) rfl _ rfl HK.out ?_) | (refine wpList_store_sg rfl (.tmp 2) (.tmp 34) rfl _ rfl rfl HR.out ?_))
   intro w6 K6 G6
   have HL0:=HL.out
   have HG6:=hyd (HG.out.trans' G6 (fun k hk e=>by omega))
   have HC6:=hyd (HC.out.chg G6 (fun e=>by omega))
   go_wp2
   refine bodyPost_ret (results_sg rfl _ rfl K6) rfl ?_
   exact⟨s',_,rfl,HB.out,HS'.out,HC6.out,HG6.out⟩
end Go.Proofs.YtbhbilcieodbhaaGreat
/-
  Is there no seq any more? Condition: what was found lies in memory.
-/
namespace Go.Proofs.YtbhbilcieodbhaaGreat
set_option maxRecDepth 100000
open Go.RowKit
theorem len52:Tryz.prog.arrayLen 116=24:=by kernel_rfl
theorem elem52 (w:World):(sizeOf (Tryz.prog.elem 116)).run Tryz.prog w=.ok 1 w:=by kernel_rfl
theorem slice52_a (b o:Nat) (w:World):(Instr.sliceAt 116 (.pointer (some ⟨b,o,none⟩)) none none none).run Tryz.prog w=.ok (.slice (some ⟨b,o,none⟩) 24 24) w:=by
 rw[run_sliceAt_array_all w 116 ⟨b,o,none⟩ Tryz.underlying116,elem52,len52]
 simp[slicedAt,Addr.add_mid]
set_option maxHeartbeats 1000000 in
theorem index24 (w:World) (g:Nat) (c:Point.Ckp) (h:Point.Ck w g c) (z:Int):Calls Tryz.prog 235 #[.slice (some ⟨g,0,none⟩) 24 24,.int .i64 z] w fun e w'=>∃ x:Int,e=.returned (.int .i64 x)/\(0<=x<->∃ i,i<24/\c.F i=z)/\w'=w:=by
 have HK:=hyd h
 clear h
 go_enter Tryz.func235,Tryz.ntmps235
 go_wp2_with fail
 go_loopg [8] 24 (fun kx s8 wr=>∃ i:Nat,s8=.int .i64 i/\i<=24/\24 - i<=kx/\Hid (wr=w)/\Hid (∀ j,j<i->c.F j≠z))
 case atStart=>exact⟨0,rfl,by omega,by omega,rfl,fun j hj=>by omega⟩
 case round=>
  obtain⟨i,rfl,hi,hkx,HW,HE⟩:=hrel
  have ew:wr=w:=HW.out
  subst ew
  by_cases hlt:i<24
  ·
   have hltz:(i:Int)<24:=by omega
   have ci:=HK.out.F i hlt
   by_cases hz:c.F i=z
   ·
    have HX:Hid (∃ i,i<24/\c.F i=z):=⟨i,hlt,hz⟩
    rw[hz] at ci
    clear hz HE
    go_wp2
    go_ret
    exact⟨(i:Nat),rfl,⟨fun _=>HX.out,fun _=>by omega⟩,rfl⟩
   ·
    have hzb:(z == c.F i)=false:=by simp;exact fun e=>hz e.symm
    have HE2:Hid (∀ j,j<i+1->c.F j≠z):=fun j hj=>by
     by_cases e:j=i
     ·
      rw[e];exact hz
     ·
      exact HE.out j (by omega)
    generalize c.F i=fi at *
    clear HE hz
    go_wp2
    go_roundg (24 - (i+1))
    case measure=>omega
    case rel=>exact⟨i+1,by simp,by omega,Nat.le_refl _,rfl,HE2.out⟩
  ·
   have hltz:¬ (i:Int)<24:=by omega
   have e:i=24:=by omega
   subst e
   go_wp2
   go_ret
   exact⟨-1,rfl,⟨fun e=>by omega,fun ⟨j,hj,e⟩=>absurd e (HE.out j hj)⟩,rfl⟩
theorem contains24 (w:World) (g:Nat) (c:Point.Ckp) (h:Point.Ck w g c) (z:Int) {b:Bool} (hb:b=true<->∃ i,i<24/\c.F i=z):Calls Tryz.prog 211 #[.slice (some ⟨g,0,none⟩) 24 24,.int .i64 z] w fun e w'=>e=.returned (.bool b)/\w'=w:=by
 have hix:=index24 w g c h z
 have HB:=hyd hb
 clear h hb
 go_enter Tryz.func211,Tryz.ntmps211
 go_wp2_with fail
 refine hix.mono ?_
 rintro e w ⟨x,rfl,hx,rfl⟩
 have HX:=hyd hx
 clear hix hx
 by_cases h0:0<=x
 ·
  have hge:x ≥ 0:=h0
  have eb:b=true:=HB.out.2 (HX.out.1 h0)
  subst eb
  clear h0
  go_wp2
  go_ret
  exact⟨rfl,rfl⟩
 ·
  have eb:b=false:=by
   cases b
   ·
    rfl
   ·
    exact absurd (HX.out.2 (HB.out.1 rfl)) h0
  subst eb
  go_wp2
  go_ret
  exact⟨by simp[h0],rfl⟩
def Spn (l:List Claim.Fnd) (c:Point.Ckp):Prop:=(∃ o,o<25/\Claim.newest l (o:Nat) 1099511627774≠none)\/∃ i,i<24/\c.F i=1099511627775
end Go.Proofs.YtbhbilcieodbhaaGreat
/-
  Newest of an empty list: the sort of no founds. No condition.
-/
namespace Go.Proofs.YtbhbilcieodbhaaGreat.Claim
set_option maxRecDepth 100000
open Go.RowKit
open Point
theorem latest_e (w:World) (a:Option Addr) (cap:Nat) (of ab:Int):Calls Tryz.prog 169 #[.slice a 0 cap,.int .i64 of,.int .i64 ab] w fun e w'=>e=.returned (.slice none 0 0)/\w'=w:=by
 go_enter Tryz.func169,Tryz.ntmps169
 go_wp2
 refine wp_loop_rounds 1 ?_
 rw[rounds_succ]
 go_wp2_with (go_at_call 202;refine(sort_nil _ _).mono ?_;rintro e w' ⟨rfl,rfl⟩)
 refine wp_loop_rounds 1 ?_
 rw[rounds_succ]
 go_wp2
 go_ret
 exact⟨rfl,rfl⟩
theorem newest_e (w:World) (a:Option Addr) (cap:Nat) (of ab:Int):Calls Tryz.prog 136 #[.slice a 0 cap,.int .i64 of,.int .i64 ab] w (NewR w [] of ab):=by
 go_enter Tryz.func136,Tryz.ntmps136
 go_wp2_with (refine wpList_alloc_fo rfl rfl w.heap.size rfl ?_)
 intro w1 K1 G1 S1
 have HK1:=hyd K1
 have HG1:=hyd G1
 clear K1 G1 S1
 go_wp2_with (first | (go_at_call 169;refine(latest_e _ a cap of ab).mono ?_;rintro e w2 ⟨rfl,rfl⟩) | (refine wpList_build_fo rfl rfl ?_) | (refine wpList_store_fo rfl (.tmp 6) (.tmp 19) rfl w.heap.size rfl rfl HK1.out ?_))
 intro w3 K3 G3
 have HK3:=hyd K3
 have HG3:=hyd (HG1.out.trans' G3 fun k hk h=>by omega)
 clear K3 G3
 go_wp2
 refine bodyPost_ret (results_fo rfl _ rfl HK3.out) rfl ?_
 exact⟨rfl,HG3.out⟩
end Go.Proofs.YtbhbilcieodbhaaGreat.Claim
/-
  Live of an empty list. No condition.
-/
namespace Go.Proofs.YtbhbilcieodbhaaGreat.Claim
set_option maxRecDepth 100000
open Go.RowKit
open Point
theorem newest_t (w:World) (a:Option Addr) (cap:Nat) (of ab:Int):Calls Tryz.prog 136 #[.slice a 0 cap,.int .i64 of,.int .i64 ab] w fun e w'=>e=.returned (.tuple #[.agg (fA f0),.bool false])/\Chg (fun _=>False) w w':=newest_e w a cap of ab
set_option maxHeartbeats 8000000 in
theorem live_e (w:World) (c:Ckp) :
 Calls Tryz.prog 212 #[.slice none 0 0,.agg (ckA c)] w fun e w'=>e=.returned (.agg (ints (lv [] c) 25).toArray)/\Chg (fun _=>False) w w':=by
 have hs:Sl w (.slice none 0 0) ([]:List Fnd):=(Ow.nil w 0).sl
 have K0:=Ck.new w c
 have HK0:=hyd K0
 have HG0:Hid (Chg (fun _=>False) w (w.alloc (.cells (ckA c) 142))):=(Chg.refl _ w).alloc _
 have HS:=hyd (hs.new HG0.out)
 have S33:Hid ((Tryz.prog.info? 140).map (·.size)=some (bools c.B 12).length):=by show _=_;rw[bools_length];exact size33
 obtain⟨B,HBB⟩:∃ B,Hid (B=w.heap.size):=⟨_,rfl⟩
 clear hs K0
 go_enter Tryz.func212,Tryz.ntmps212
 go_wp2_with (refine wpList_alloc_25 rfl rfl (w.heap.size+1) (World.size_alloc _ _) ?_)
 intro w1 A1 G1 S1
 have HK1:=hyd (HK0.out.chg G1 (fun h=>h))
 have HS1:=hyd (HS.out.new G1)
 have HG1:=hyd (HG0.out.trans G1)
 have HA1:=hyd A1
 have HP1:=hyd (HK1.out.partB)
 have c23:=outside_n w1 none 0 [] 0 rfl c HS1.out (by decide) 0 rfl
 clear A1 G1 HK0 HG0 HS
 rw[<-HBB.out] at HK1 HA1 HP1 S1
 rw[<-HBB.out]
 go_wp2_with (first | (refine wpList_load_mid rfl 140 (.tmp 11) rfl B 25 rfl _ _ HP1.out Tryz.underlying140 rfl S33.out ?_) | (go_at_call 236;refine c23.mono ?_;rintro e w2 ⟨a',cap',rfl,hS2,G2⟩;have HS2:=hyd hS2;have HSb0:=hyd (hS2.apart);have HK2:=hyd (HK1.out.chg G2 (fun h=>h));have HA2:=hyd (HA1.out.chg G2 (fun h=>h));have HG2:=hyd (HG1.out.trans G2);have hs2:=G2.size;clear G2 hS2 c23) | (refine wpList_alloc_25 rfl rfl w2.heap.size rfl ?_))
 intro w3 A3 G3 S3
 have HK3:=hyd (HK2.out.chg G3 (fun h=>h))
 have HA3:=hyd (HA2.out.chg G3 (fun h=>h))
 have HS3:=hyd (HS2.out.new G3)
 have HG3:=hyd (HG2.out.trans G3)
 have HD3:=hyd A3
 clear A3 G3 HK1 HA1 HP1 HG1 HS1 HK2 HA2 HG2 HS2 S33
 obtain⟨D,HDD⟩:∃ D,Hid (D=w2.heap.size):=⟨_,rfl⟩
 rw[<-HDD.out] at HD3 S3 hs2 HSb0
 rw[<-HDD.out]
 have hDw:w.heap.size+2<=D:=by have:=HBB.out;omega
 have hBD:B+1<D:=by have:=HBB.out;omega
 have hDs:D<w3.heap.size:=by omega
 have HSb:Hid ((([]:List Fnd).filter (gd c)).length≠0->∀ k,(Value.slice a' 0 cap').ownBlock=some k->¬ k=D):=hyd HSb0.out
 have C24:Aside _:=fun (i:Nat) (h:i<25) (W:World)=>floor_any c i h W
 go_wp2_with fail
 go_loopg [14] 25 (fun kx s14 wr=>∃ (i:Nat) (F:Nat->Int),s14=.int .i64 i/\i<=25/\25 - i<=kx/\Hid (A25 wr D F)/\Hid (∀ j,j<i->F j=lv [] c j)/\Hid (Chg (·=D) w3 wr))
 case atStart=>exact⟨0,fun _=>0,rfl,by omega,by omega,HD3.out,fun j hj=>absurd hj (Nat.not_lt_zero _),Chg.refl _ _⟩
 case round=>
 obtain⟨i,F,rfl,hin,hkx,HDr,HF,HGr⟩:=hrel
 by_cases hlt:i<25
 ·
  have hltz:(i:Int)<25:=by omega
  obtain⟨d1,d2⟩:=HDr.out.cell i hlt
  have HD1:=hyd (HDr.out.set i (-1))
  have HG1:Hid (Chg (·=D) w3 (wr.setCell ⟨D,i,none⟩ (.int .i64 (-1)))):=hyd (HGr.out.setCell (Or.inl rfl) i _)
  have c24:=C24.out i hlt
  have HKr:=hyd (HK3.out.chg HG1.out (by omega))
  have hsr:(wr.setCell ⟨D,i,none⟩ (.int .i64 (-1))).heap.size=wr.heap.size:=by simp[World.setCell]
  go_upto_region 7 with fail
  generalize wr.setCell ⟨D,i,none⟩ (.int .i64 (-1))=wa at *
  have ho:newest (([]:List Fnd).filter (gd c)) i (flo c i)=none:=rfl
  have HLv:=hyd (lv_none ho)
  have C11:Aside _:=fun W=>newest_t W a' cap' i (flo c i)
  go_wp2_with (first | (refine wpList_load_ck rfl (.tmp 3) rfl B rfl HKr.out ?_) | (go_at_call 237;refine(c24 _).mono ?_;rintro e w4 ⟨rfl,G4⟩;have HG4:=hyd (HG1.out.trans' G4 (fun _ _ h=>h.elim));have HD4:=hyd (HD1.out.chg G4 (fun h=>h));have HS4:=hyd ((HS3.out.chg HG4.out HSb.out));clear G4) | (go_at_call 136;refine(C11.out _).mono ?_;rintro e w5 ⟨rfl,G5⟩;have HG5:=hyd (HG4.out.trans' G5 (fun _ _ h=>h.elim));have HD5:=hyd (HD4.out.chg G5 (fun h=>h));clear G5) | (refine wpList_alloc_fo rfl rfl w5.heap.size rfl ?_))
  intro w6 K6 G6 S6
  have HK6:=hyd K6
  clear K6
  go_wp2_with (refine wpList_store_fo rfl (.tmp 8) (.tmp 26) rfl w5.heap.size rfl rfl HK6.out ?_)
  intro w7 K7 G7
  have hD5:=HD5.out.lt
  have G67:=G6.trans' G7 (fun k hk h=>by omega)
  have HG7:=hyd (HG5.out.trans' G67 (fun _ _ h=>h.elim))
  have HD7:=hyd (HD5.out.chg G67 (fun h=>h))
  clear K7 G6 G7 G67 HK6 S6
  go_wp2
  go_roundg (25 - (i+1))
  case measure=>omega
  case rel=>
   refine⟨i+1,_,by simp,by omega,Nat.le_refl _,HD7.out,fun j hj=>?_,HG7.out⟩
   by_cases e:j=i
   ·
    subst e;simp[upd,HLv.out]
   ·
    simp[upd,e];exact HF.out j (by omega)
 ·
  have hltz:¬ (i:Int)<25:=by omega
  have HDl:=hyd (HDr.out.congr (g:=lv [] c) (fun j hj=>HF.out j (by omega)))
  have HAr:=hyd (HA3.out.chg HGr.out (by omega))
  go_wp2_with (first | (refine wpList_load_25 rfl (.tmp 6) rfl D rfl HDl.out ?_) | (refine wpList_store_25 rfl (.tmp 4) (.tmp 34) rfl (B+1) rfl rfl HAr.out ?_))
  intro w8 A8 G8
  have HA8:=hyd A8
  have HG8:=hyd ((HG3.out.trans' HGr.out fun k hk h=>by omega).trans' G8 fun k hk h=>by have:=HBB.out;omega)
  clear A8 G8
  go_wp2
  refine bodyPost_ret (results_25 rfl _ rfl HA8.out) rfl ?_
  exact⟨rfl,HG8.out⟩
end Go.Proofs.YtbhbilcieodbhaaGreat.Claim
/-
  Whether no seq is left, where nothing was found. No condition.
-/
namespace Go.Proofs.YtbhbilcieodbhaaGreat
set_option maxRecDepth 100000
open Go.RowKit
set_option maxHeartbeats 2000000 in
theorem isSpent_e (w:World) (c:Point.Ckp) {b:Bool} (hb:b=true<->Spn [] c) :
 Calls Tryz.prog 179 #[.slice none 0 0,.agg (Point.ckA c)] w fun e w'=>e=.returned (.bool b)/\Chg (fun _=>False) w w':=by
 have G0:Chg (fun _=>False) w (w.alloc (.cells (Point.ckA c) 142)):=(Chg.refl _ w).alloc _
 have HG0:=hyd G0
 have HB0:=hyd (Point.Ck.new w c)
 have HB:=hyd hb
 clear hb G0
 go_enter Tryz.func179,Tryz.ntmps179
 go_wp2_with fail
 generalize w.alloc (.cells (Point.ckA c) 142)=w0 at *
 go_loopg [8] 25 (fun kx s8 wr=>∃ i:Nat,s8=.int .i64 i/\i<=25/\25 - i<=kx/\Hid (Chg (fun _=>False) w wr)/\Hid (Point.Ck wr w.heap.size c))
 case atStart=>exact⟨0,rfl,by omega,by omega,HG0.out,HB0.out⟩
 case round=>
  obtain⟨i,rfl,hi,hkx,HG,HC⟩:=hrel
  by_cases hlt:i<25
  ·
   have hltz:(i:Int)<25:=by omega
   have hnw:=Claim.newest_t wr none 0 (i:Nat) 1099511627774
   have hlw:=HC.out.lt
   go_wp2_with fail
   refine hnw.mono ?_
   rintro e w2 ⟨rfl,g2⟩
   have HG2:=hyd (HG.out.trans g2)
   have HC2:=hyd (HC.out.chg g2 (fun f=>f))
   have hz2:w.heap.size<w2.heap.size:=HC2.out.lt
   clear hnw g2 HG HC
   go_wp2_with (refine Claim.wpList_alloc_fo rfl rfl w2.heap.size rfl ?_)
   intro w3 F3 g3 z3
   have HF3:=hyd F3
   have HG3:=hyd (HG2.out.trans g3)
   have HC3:=hyd (HC2.out.chg g3 (fun f=>f))
   clear F3 g3 HG2 HC2
   go_wp2_with (refine Claim.wpList_store_fo rfl (.tmp 6) (.tmp 15) rfl w2.heap.size rfl rfl HF3.out ?_)
   intro w4 F4 g4
   have HG4:=hyd (HG3.out.trans' g4 (fun k hk e=>by omega))
   have HC4:=hyd (HC3.out.chg g4 (by omega))
   clear F4 g4 HG3 HC3 HF3
   go_wp2
   go_roundg (25 - (i+1))
   case measure=>omega
   case rel=>exact⟨i+1,by simp,by omega,Nat.le_refl _,HG4.out,HC4.out⟩
  ·
   have hltz:¬ (i:Int)<25:=by omega
   have e:i=25:=by omega
   subst e
   have hs2:=slice52_a w.heap.size 0
   have hct:=contains24 wr w.heap.size c HC.out 1099511627775 (b:=b) ⟨fun e=>(HB.out.1 e).elim (fun ⟨_,_,x⟩=>absurd rfl x) id,fun e=>HB.out.2 (Or.inr e)⟩
   go_wp2_with fail
   refine hct.mono ?_
   rintro e wr ⟨rfl,rfl⟩
   clear hct
   go_wp2
   go_ret
   exact⟨rfl,HG.out⟩
end Go.Proofs.YtbhbilcieodbhaaGreat
/-
  The blocks of a new core: what a checkpoint and the pages that count say of them. Condition: the core lies in memory, and no block has a state yet.
-/
namespace Go.Proofs.YtbhbilcieodbhaaGreat
set_option maxRecDepth 100000
open Go.RowKit
def sbS (B:Nat->Bool) (L:Nat->Int) (b:Nat):Int:=if B b=true then 3 else if 0<Pmap.lvK L 96 b then 2 else 0
def sbF (S:Nat->Int):Nat->Nat->(Nat->Int)->(Nat->Int)
 | 0,_,F=>F
 | n+1,i,F=>sbF S n (i+1) (Pool.setF F (i:Nat) (S i))
theorem sbS_rng (B:Nat->Bool) (L:Nat->Int) (b:Nat):0<=sbS B L b/\sbS B L b<=3:=by
 unfold sbS
 split
 ·
  omega
 ·
  split <;> omega
set_option maxHeartbeats 2000000 in
theorem setBlocks_k (A:Ad) (w:World) (K:Kor) (h:CoreAt A w K) (c:Point.Ckp) (hF:∀ b,b<12->K.F b=0) :
 Calls Tryz.prog 181 #[.pointer (some ⟨A.c,0,none⟩),.agg (Point.ckA c)] w fun e w'=>e=.returned (errV 0)/\CoreAt A w' { K with F:=sbF (sbS c.B K.L) 12 0 K.F }/\Chg (Cor A) w w':=by
 have HG0:Hid (Chg (fun _=>False) w (w.alloc (.cells (Point.ckA c) 142))):=(Chg.refl _ w).alloc _
 have HB0:=hyd (Point.Ck.new w c)
 have HK0:=hyd (h.chg0 HG0.out)
 have HNA:Hid (¬ Cor A w.heap.size):=h.apart (Nat.le_refl _)
 have q:=neq_er
 have g:=guard_neq
 have HF:=hyd hF
 obtain⟨X,HX⟩:∃ X,Hid (sbF (sbS c.B K.L) 12 0 K.F=X):=⟨_,rfl⟩
 rw[HX.out]
 obtain⟨c2,-⟩:=HK0.out.cMap
 have hlv:=Pmap.live_any _ A.ma K.L HK0.out.map
 have hz0:=HB0.out.lt
 clear h hF
 go_enter Tryz.func181,Tryz.ntmps181
 go_wp2_with fail
 generalize w.alloc (.cells (Point.ckA c) 142)=w0 at *
 refine hlv.mono ?_
 rintro e w1 ⟨rfl,I1,G1⟩
 have HI:=hyd I1
 have HK1:=hyd (HK0.out.chg0 G1)
 have HG1:=hyd ((Chg.cor0 (A:=A) HG0.out).trans (Chg.cor0 (A:=A) G1))
 have HB1:=hyd (HB0.out.chg G1 (fun f=>f))
 have HN:Hid (¬ Cor A w0.heap.size):=HK0.out.apart (Nat.le_refl _)
 clear hlv c2 I1 G1 HG0 HB0 HK0
 go_wp2_with fail
 go_loopg [15] 12 (fun kx s15 wr=>∃ (i:Nat) (F:Nat->Int),s15=.int .i64 i/\i<=12/\12 - i<=kx/\Hid (CoreAt A wr { K with F:=F })/\Hid (Chg (Cor A) w wr)/\Hid (IB wr w0.heap.size 3 12 (fun k=>(Pmap.lvK K.L 96 k:Nat)))/\Hid (Point.Ck wr w.heap.size c)/\Hid (∀ b,i<=b->b<12->F b=0)/\Hid (sbF (sbS c.B K.L) (12 - i) i F=X))
 case atStart=>exact⟨0,K.F,rfl,by omega,by omega,HK1.out,HG1.out,HI.out,HB1.out,fun b _ hb=>HF.out b hb,HX.out⟩
 case round=>
  obtain⟨i,F,rfl,hi,hkx,HC,HG,HJ,HB,HZ,HE⟩:=hrel
  by_cases hlt:i<12
  ·
   have hltz:(i:Int)<12:=by omega
   obtain⟨ci,-⟩:=HJ.out.cell i hlt
   have cb:=HB.out.B i hlt
   obtain⟨m,hm⟩:∃ m,12 - i=m+1:=⟨11 - i,by omega⟩
   have hm2:12 - (i+1)=m:=by omega
   have HE2:Hid (sbF (sbS c.B K.L) m (i+1) (Pool.setF F (i:Nat) (sbS c.B K.L i))=X):=by
    have:=HE.out
    rw[hm,sbF] at this
    exact this
   have hst:=Pool.set_v wr A.po F HC.out.pool (i:Nat) (sbS c.B K.L i)
   have hr:=sbS_rng c.B K.L i
   have hsc:Pool.setC F (i:Nat) (sbS c.B K.L i)=0:=by
    unfold Pool.setC
    have:=HZ.out i (Nat.le_refl _) hlt
    rw[if_neg (by omega),Int.toNat_natCast,this,if_neg (by simp)]
   rw[hsc] at hst
   have hwf:=HC.out.wf.st (i:Nat) (sbS c.B K.L i)
   have HWF:Hid (Wf { K with F:=Pool.setF F (i:Nat) (sbS c.B K.L i) }):=hwf
   have HM2:=hyd hm2
   have HZ2:Hid (∀ b,i+1<=b->b<12->Pool.setF F (i:Nat) (sbS c.B K.L i) b=0):=by
    intro b hb hb2
    unfold Pool.setF
    rw[if_pos hsc,Int.toNat_natCast]
    unfold upd
    rw[if_neg (by omega)]
    exact HZ.out b (by omega) hb2
   obtain⟨d1,-⟩:=HC.out.cPool
   have q0:∀ w,(binOp .neq 33 (errV 0) .nilIface).run Tryz.prog w=.ok (.bool false) w:=fun w=>q 0 w
   replace ci:wr.cell? ⟨w0.heap.size,i,none⟩=some (.int .i64 ((Pmap.lvK K.L 96 i:Nat):Int)):=ci
   have hsv:sbS c.B K.L i=if c.B i=true then 3 else if 0<Pmap.lvK K.L 96 i then 2 else 0:=rfl
   clear hm hm2 HE hr hsc hwf q HZ
   generalize Pool.setF F (i:Nat) (sbS c.B K.L i)=F2 at *
   generalize sbS c.B K.L i=sv at *
   generalize Pmap.lvK K.L 96 i=lv at *
   generalize c.B i=bb at *
   have fin:∀ w3:World,IB w3 A.po 167 13 F2->Chg (·=A.po) wr w3->CoreAt A w3 { K with F:=F2 }/\Chg (Cor A) w w3/\IB w3 w0.heap.size 3 12 (fun k=>(Pmap.lvK K.L 96 k:Nat))/\Point.Ck w3 w.heap.size c:=fun _ h3 g3=>
    ⟨HC.out.setPool h3 g3 HWF.out,HG.out.trans g3.cor_po,HJ.out.chg g3.cor_po HN.out,HB.out.chg g3.cor_po HNA.out⟩
   have HFI:=hyd fin
   clear fin
   cases bb
   ·
    by_cases h0:0<lv
    ·
     have h0z:(0:Int)<(lv:Nat):=by omega
     rw[if_neg (by simp),if_pos h0] at hsv
     subst hsv
     clear h0
     go_wp2_with fail
     refine hst.mono ?_
     rintro e w3 ⟨rfl,h3,g3⟩
     obtain⟨k3,e3,i3,b3⟩:=HFI.out w3 h3 g3
     have HK3:=hyd k3;have HG3:=hyd e3;have HI3:=hyd i3;have HB3:=hyd b3
     clear hst h3 g3 k3 e3 i3 b3 HC HG HJ HB HFI
     go_wp2
     go_roundg (12 - (i+1))
     case measure=>omega
     case rel=>exact⟨i+1,F2,by simp,by omega,Nat.le_refl _,HK3.out,HG3.out,HI3.out,HB3.out,HZ2.out,by rw[HM2.out];exact HE2.out⟩
    ·
     have h0z:¬ (0:Int)<(lv:Nat):=by omega
     rw[if_neg (by simp),if_neg h0] at hsv
     subst hsv
     clear h0
     go_wp2_with fail
     refine hst.mono ?_
     rintro e w3 ⟨rfl,h3,g3⟩
     obtain⟨k3,e3,i3,b3⟩:=HFI.out w3 h3 g3
     have HK3:=hyd k3;have HG3:=hyd e3;have HI3:=hyd i3;have HB3:=hyd b3
     clear hst h3 g3 k3 e3 i3 b3 HC HG HJ HB HFI
     go_wp2
     go_roundg (12 - (i+1))
     case measure=>omega
     case rel=>exact⟨i+1,F2,by simp,by omega,Nat.le_refl _,HK3.out,HG3.out,HI3.out,HB3.out,HZ2.out,by rw[HM2.out];exact HE2.out⟩
   ·
    rw[if_pos rfl] at hsv
    subst hsv
    by_cases h0:0<lv
    ·
     have h0z:(0:Int)<(lv:Nat):=by omega
     clear h0
     go_wp2_with fail
     refine hst.mono ?_
     rintro e w3 ⟨rfl,h3,g3⟩
     obtain⟨k3,e3,i3,b3⟩:=HFI.out w3 h3 g3
     have HK3:=hyd k3;have HG3:=hyd e3;have HI3:=hyd i3;have HB3:=hyd b3
     clear hst h3 g3 k3 e3 i3 b3 HC HG HJ HB HFI
     go_wp2
     go_roundg (12 - (i+1))
     case measure=>omega
     case rel=>exact⟨i+1,F2,by simp,by omega,Nat.le_refl _,HK3.out,HG3.out,HI3.out,HB3.out,HZ2.out,by rw[HM2.out];exact HE2.out⟩
    ·
     have h0z:¬ (0:Int)<(lv:Nat):=by omega
     clear h0
     go_wp2_with fail
     refine hst.mono ?_
     rintro e w3 ⟨rfl,h3,g3⟩
     obtain⟨k3,e3,i3,b3⟩:=HFI.out w3 h3 g3
     have HK3:=hyd k3;have HG3:=hyd e3;have HI3:=hyd i3;have HB3:=hyd b3
     clear hst h3 g3 k3 e3 i3 b3 HC HG HJ HB HFI
     go_wp2
     go_roundg (12 - (i+1))
     case measure=>omega
     case rel=>exact⟨i+1,F2,by simp,by omega,Nat.le_refl _,HK3.out,HG3.out,HI3.out,HB3.out,HZ2.out,by rw[HM2.out];exact HE2.out⟩
  ·
   have hltz:¬ (i:Int)<12:=by omega
   have e:i=12:=by omega
   subst e
   have HE3:Hid (F=X):=HE.out
   go_wp2
   go_ret
   rw[<-HE3.out]
   exact⟨rfl,HC.out,HG.out⟩
end Go.Proofs.YtbhbilcieodbhaaGreat
/-
  A core is begun on a chip of which nothing is known. Condition: the chip lies in memory.
-/
namespace Go.Proofs.YtbhbilcieodbhaaGreat
set_option maxRecDepth 100000
open Go.RowKit
theorem neq_nn' (w:World):(binOp .neq 33 .nilIface .nilIface).run Tryz.prog w=.ok (.bool false) w:=by kernel_rfl
theorem newest_nil (of ab:Int):Claim.newest [] of ab=none:=by
 have e2:Claim.lat [] of ab=[]:=List.eq_nil_iff_forall_not_mem.2 fun f hf=>by cases (Claim.mem_byP.1 hf).1
 unfold Claim.newest
 rw[e2]
 rfl
theorem lv_nil (c:Point.Ckp):Claim.lv [] c=fun _=>-1:=by
 funext i
 unfold Claim.lv
 rw[show List.filter (Claim.gd c) []=[] from rfl,newest_nil]
theorem nxt0:Claim.nxt [] Point.ck0=1:=by decide
theorem spn0:false=true<->Spn [] Point.ck0:=by
 constructor
 ·
  intro e;cases e
 ·
  rintro (⟨o,_,h⟩ | ⟨i,_,h⟩)
  ·
   exact absurd (newest_nil _ _) h
  ·
   exact absurd (show (0:Int)=1099511627775 from h) (by decide)
theorem wfc0:Claim.Wfc Point.ck0:=⟨fun _ _=>by show _<=(0:Int)/\(0:Int)<=_;decide,by show _<=(0:Int)/\(0:Int)<=_;decide⟩
theorem okc0:Point.Okc Point.ck0:=(Point.okc_iff Point.ck0 ⟨fun _ _=>by show _<=(0:Int)/\(0:Int)<=_;decide,by show _<=(0:Int)/\(0:Int)<=_;decide,by show _<=(0:Int)/\(0:Int)<=_;decide,fun _ _=>by show _<=(0:Int)/\(0:Int)<=_;decide,fun _ _=>by show _<=(0:Int)/\(0:Int)<=_;decide⟩).2 ⟨fun _ _=>by show 0<=(0:Int)/\(0:Int)<=_;decide,by show 0<=(0:Int)/\(0:Int)<=_;decide,by show 0<=(0:Int)/\(0:Int)<=_;decide,fun _ _=>by show 0<=(0:Int)/\(0:Int)<=_;decide,fun _ _=>by show 0<=(0:Int)/\(0:Int)<=_;decide⟩
theorem index37 (f:Nat->Int) (i:Nat) (hi:i<25) (w:World):(Instr.index 38 (.agg (ints f 25).toArray) (.int .i64 i)).run Tryz.prog w=.ok (.int .i64 (f i)) w:=by
 have h:=ints_at f 25 i hi
 generalize ints f 25=L at *
 simp[Instr.index,run_underlying Tryz.underlying38,asIntOf,go_sem,hi,h,i6]
set_option maxHeartbeats 2000000 in
theorem layFound_nil (A:Ad) (w:World) (K:Kor) (h:CoreAt A w K):Calls Tryz.prog 180 #[.pointer (some ⟨A.c,0,none⟩),.slice none 0 0,.agg (Point.ckA Point.ck0)] w fun e w'=>e=.returned .nilIface/\CoreAt A w' K/\Chg (fun _=>False) w w':=by
 have HB0:=hyd (Point.Ck.new w Point.ck0)
 have HG0:Hid (Chg (fun _=>False) w (w.alloc (.cells (Point.ckA Point.ck0) 142))):=(Chg.refl _ w).alloc _
 have HK0:=hyd (h.chg0 HG0.out)
 clear h
 have hix:=index37 (fun _=>-1)
 go_enter Tryz.func180,Tryz.ntmps180
 go_wp2_with (refine Point.wpList_load_ck rfl (.tmp 5) rfl w.heap.size rfl HB0.out ?_)
 generalize w.alloc (.cells (Point.ckA Point.ck0) 142)=w0 at *
 have hlv:=Claim.live_e w0 Point.ck0
 rw[lv_nil] at hlv
 refine hlv.mono ?_
 rintro e w1 ⟨rfl,G1⟩
 have HG1:=hyd (HG0.out.trans G1)
 have HK1:=hyd (HK0.out.chg0 G1)
 clear G1 hlv HG0 HK0
 go_wp2_with fail
 go_loopg [15] 25 (fun kx s15 wr=>∃ i:Nat,s15=.int .i64 i/\i<=25/\25 - i<=kx/\wr=w1)
 case atStart=>exact⟨0,rfl,by omega,by omega,rfl⟩
 case round=>
  obtain⟨i,rfl,hi,hkx,rfl⟩:=hrel
  by_cases hlt:i<25
  ·
   have hltz:(i:Int)<25:=by omega
   have hi0:(0:Int)<=i:=by omega
   have hx:=hix i hlt
   go_wp2
   go_roundg (25 - (i+1))
   case measure=>omega
   case rel=>exact⟨i+1,by simp,by omega,Nat.le_refl _,rfl⟩
  ·
   have hltz:¬ (i:Int)<25:=by omega
   go_wp2
   go_ret
   exact⟨rfl,HK1.out,HG1.out⟩
theorem size52:(Tryz.prog.info? 116).map (·.size)=some 24:=by kernel_rfl
theorem part52 {w:World} {b:Nat} (h:w.rangeAt b 0 (Point.ckL Point.ck0)):w.rangeAt b 0 (ints Point.ck0.F 24):=fun j v hv=>h j v (by
 have hj:=(List.getElem?_eq_some_iff.1 hv).1
 unfold Point.ckL
 rw[List.getElem?_append_left hj]
 exact hv)
theorem Ck.part {w:World} {b:Nat} {c:Point.Ckp} (h:Point.Ck w b c):w.rangeAt b 0 (Point.ckL c):=fun j v hv=>by
 rw[Nat.zero_add]
 exact h.cell j hv
def corL (A:Ad) (K:Kor):List Value:=(List.range 101).map (kc A K)
theorem corL_length (A:Ad) (K:Kor):(corL A K).length=101:=by simp[corL]
theorem build105 (w:World) (A:Ad) (s:Chp) (tl:List Nat->Int->Pg):(Instr.build 124 #[(0,.pointer (some ⟨A.m,0,none⟩)),(1,.pointer (some ⟨A.po,0,none⟩)),(2,.pointer (some ⟨A.ma,0,none⟩)),(4,.agg (ints Point.ck0.F 24).toArray),(5,.int .i64 1),(6,.bool false),(8,.pointer (some ⟨A.pa,0,none⟩)),(10,.pointer (some ⟨A.h,0,none⟩))]).run Tryz.prog w=.ok (.agg (corL A (K0 s tl)).toArray) w:=by kernel_rfl
theorem exec_build105 {o:Oper} {a:Act} {w:World} {x1 x2 x3 x4 x5 x6 x7 x8:Operand} {A:Ad} {s:Chp} {tl:List Nat->Int->Pg} (ho:o.op=.build 124 #[(0,x1),(1,x2),(2,x3),(4,x4),(5,x5),(6,x6),(8,x7),(10,x8)]) (h1:a.eval x1=.pointer (some ⟨A.m,0,none⟩)) (h2:a.eval x2=.pointer (some ⟨A.po,0,none⟩)) (h3:a.eval x3=.pointer (some ⟨A.ma,0,none⟩)) (h4:a.eval x4=.agg (ints Point.ck0.F 24).toArray) (h5:a.eval x5=.int .i64 1) (h6:a.eval x6=.bool false) (h7:a.eval x7=.pointer (some ⟨A.pa,0,none⟩)) (h8:a.eval x8=.pointer (some ⟨A.h,0,none⟩)):(execOp a.eval o).run Tryz.prog w=.ok (.value (.agg (corL A (K0 s tl)).toArray)) w:=by
 have hb:=build105 w A s tl
 unfold execOp
 rw[ho]
 simp only[List.map_toArray,List.map_cons,List.map_nil,h1,h2,h3,h4,h5,h6,h7,h8]
 generalize Instr.build 124 #[(0,.pointer (some ⟨A.m,0,none⟩)),(1,.pointer (some ⟨A.po,0,none⟩)),(2,.pointer (some ⟨A.ma,0,none⟩)),(4,.agg (ints Point.ck0.F 24).toArray),(5,.int .i64 1),(6,.bool false),(8,.pointer (some ⟨A.pa,0,none⟩)),(10,.pointer (some ⟨A.h,0,none⟩))]=b at *
 simp[hb]
theorem step_box105 {ops:Array Oper} {o:Oper} {a:Act} {w:World} {K:Act->World->Prop} {Q:Exit->Act->World->Prop} {E:Prop} (hgd:o.guard=none) (x:Operand) (ho:o.op=.box 124 x) {C:Array Value} (hx:a.eval x=.agg C)
 (h:K (a.put o.dst (.pointer (some ⟨w.heap.size,0,none⟩))) (w.alloc (.cells C 124))):if Region.wanted o (yielded ops a.tmps)=true then Oper.wp Tryz.prog o a w K Q else E:=by
 rw[if_pos (by simp[Region.wanted,hgd])]
 unfold Oper.wp
 simp[execOp,ho,hx,Instr.box,newVar,Value.cells,newRow]
 exact h
theorem sto_cor (w:World) (A:Ad) (K:Kor) (hA:A.c=w.heap.size) (hq:K.qu=[]):Patrol.QB (w.alloc (.cells (corL A K).toArray 124)) A.c 124 101 (kc A K) 83 K.qu:=by
 rw[hq,hA]
 refine⟨fun _=>0,⟨⟨(corL A K).toArray,by show (w.heap.push _)[w.heap.size]?=_;simp,by simp[corL_length],fun i hi=>?_⟩,by decide⟩,rfl,fun i hi=>by cases hi⟩
 have e:(corL A K).toArray[i]?=some (kc A K i):=by simp[corL,hi]
 rw[e]
 by_cases c:83<=i/\i<96
 ·
  obtain⟨k,rfl⟩:∃ k,i=83+k:=⟨i - 83,by omega⟩
  rw[Patrol.upL_ints _ _ _ _ _ (by omega)]
  unfold kc
  rw[if_neg (by omega),if_neg (by omega),if_neg (by omega),if_neg (by omega),if_neg (by omega),if_neg (by omega),if_neg (by omega),if_neg (by omega),if_neg (by omega),if_neg (by omega),if_neg (by omega),if_pos (by omega)]
 ·
  rw[Patrol.upL_out _ _ _ _ _ (by omega)]
theorem sb0:sbF (sbS Point.ck0.B (fun _=>-1)) 12 0 (fun _=>0)=fun _=>0:=by
 have hS:∀ b,b<12->sbS Point.ck0.B (fun _=>-1) b=0:=fun b hb=>by
  unfold sbS
  rw[if_neg (by show ¬ false=true;decide),if_neg]
  rw[Pmap.lvK_all _ hb]
  have:=of_ord okl_none b
  intro e
  cases hl:Pmap.ofL (fun _=>-1) b with
  | nil=>rw[hl] at e;exact absurd e (by decide)
  | cons x l=>
   have h2:=(this.1 x.toNat (by rw[hl];simp)).2.1
   exact h2 rfl
 have:∀ n i,i+n<=12->sbF (sbS Point.ck0.B (fun _=>-1)) n i (fun _=>0)=fun _=>0:=by
  intro n
  induction n with
  | zero=>intro i _;rfl
  | succ n ih=>
   intro i hi
   rw[sbF,hS i (by omega)]
   have e:Pool.setF (fun _=>0) (i:Nat) 0=fun _=>0:=by
    unfold Pool.setF
    split
    ·
     exact upd0 _
    ·
     rfl
   rw[e]
   exact ih (i+1) (by omega)
 exact this 12 0 (Nat.le_refl _)
def Far (A:Ad) (g n:Nat):Prop:=A.g=g/\n<=A.c/\n<=A.m/\n<=A.p/\n<=A.q/\n<=A.b/\n<=A.po/\n<=A.ma/\n<=A.pa/\n<=A.h
set_option maxHeartbeats 4000000 in
theorem begin_new (g:Nat) (s:Chp) (hs:s.Ok) (tl:List Nat->Int->Pg) (htl:∀ L n,ToldR L n (tl L n)) (w:World) (h:ChipAt w g s) :
 Calls Tryz.prog 140 #[.pointer (some ⟨g,0,none⟩),.agg (Point.ckA Point.ck0),.slice none 0 0] w fun e w'=>∃ A,Far A g w.heap.size/\e=.returned (.tuple #[.pointer (some ⟨A.c,0,none⟩),errV 0])/\CoreAt A w' (K0 s tl)/\Chg (·=g) w w':=by
 have HC:=hyd h
 have HWF:=hyd (wf0 hs htl)
 have HB0:=hyd (Point.Ck.new w Point.ck0)
 have HG0:Hid (Chg (fun _=>False) w (w.alloc (.cells (Point.ckA Point.ck0) 142))):=(Chg.refl _ w).alloc _
 have q:=neq_nn'
 clear h hs htl
 go_enter Tryz.func140,Tryz.ntmps140
 go_wp2_with (refine Point.wpList_load_ck rfl (.tmp 4) rfl w.heap.size rfl HB0.out ?_)
 generalize w.alloc (.cells (Point.ckA Point.ck0) 142)=w0 at *
 refine(Point.write_yes w0 Point.ck0 okc0).mono ?_
 rintro e w1 ⟨gp,rfl,-,-,G1⟩
 have HG1:=hyd (HG0.out.trans G1)
 have HB1:=hyd (HB0.out.chg G1 (fun f=>f))
 have k37:w1.cell? ⟨w.heap.size,37,none⟩=some (.int .i64 0):=HB1.out.C
 clear G1 HG0 HB0
 go_wp2_with fail
 refine(Patrol.new_yes w1 0 (by decide)).mono ?_
 rintro e w2 ⟨rfl,P2,G2⟩
 have HP2:=hyd P2
 have HG2:=hyd (HG1.out.trans G2)
 have HB2:=hyd (HB1.out.chg G2 (fun f=>f))
 have hz2:w.heap.size<=w1.heap.size:=HG1.out.size
 have hw2:w1.heap.size<w2.heap.size:=HP2.out.lt
 clear P2 G2 HG1 HB1 k37
 have HNW:Hid (∀ u,Point.Ck u w.heap.size Point.ck0->Calls Tryz.prog 175 #[.slice (some ⟨w.heap.size,38,none⟩) 12 12,.slice (some ⟨w.heap.size,50,none⟩) 12 12] u fun e w'=>e=.returned (.tuple #[.pointer (some ⟨u.heap.size,0,none⟩),.nilIface])/\Health.HB w' u.heap.size 170 (Health.lim 65535 (fun _=>0)) (Health.lim 65535 (fun _=>0)) (Health.lim 255 (fun _=>0))/\Chg (fun _=>False) u w'):=fun u hu=>
  Health.new_yes u (some ⟨w.heap.size,38,none⟩) (some ⟨w.heap.size,50,none⟩) 12 12 12 12 (fun _=>0) (fun _=>0) (Or.inr ⟨_,_,rfl,hu.lt,fun i hi=>hu.R i hi⟩) (Or.inr ⟨_,_,rfl,hu.lt,fun i hi=>hu.S i hi⟩) ((Health.okL_iff _ _).2 ⟨rfl,fun _ _=>Int.le_refl _⟩) ((Health.okL_iff _ _).2 ⟨rfl,fun _ _=>Int.le_refl _⟩)
 have k38:w2.drew.cell? ⟨w.heap.size,38,none⟩=some (.int .i64 0):=HB2.out.R 0 (by decide)
 go_wp2_with fail
 go_region_held3 (fun wx=>wx.cell? ⟨w.heap.size,38,none⟩=some (.int .i64 0))
  (first | exact k38 | exact k38')
  (first | (go_at_call 175;refine(HNW.out _ (HB2.out.chg ((Chg.refl (fun _=>False) w2).drewN 1) (fun f=>f))).mono ?_;rintro e w3 ⟨rfl,H3,G3⟩;have k38':=(HB2.out.chg (((Chg.refl (fun _=>False) w2).drewN 1).trans G3) (fun f=>f)).R 0 (by decide);have HH3:=hyd H3;have HG3:=hyd (((Chg.refl (fun _=>False) w2).drewN 1).trans G3)))
 have HB3:=hyd (HB2.out.chg HG3.out (fun f=>f))
 have HP3:=hyd (HP2.out.chg HG3.out (fun f=>f))
 have HGa:=hyd (HG2.out.trans HG3.out)
 have hh3:w2.heap.size<w3.heap.size:=HH3.out.lt
 go_wp2_with fail
 have HBD:Hid (Point.Ck w3.drew w.heap.size Point.ck0):=HB3.out
 have HGD:Hid (Chg (fun _=>False) w w3.drew):=HGa.out.drew
 refine wp_region_noPanic ?_
 refine wp_region_held_drew (S:=fun wx=>wx.rangeAt w.heap.size 0 (Point.ckL Point.ck0)) (by kernel_rfl) (Ck.part HBD.out) (fun hHeld=>?_)
 refine wpAnyH_take (i:=0) rfl (by kernel_rfl) (by kernel_rfl) (by kernel_rfl) (fun _ _ _ h=>h) (Or.inl ⟨rfl,fun _ _=>rfl⟩) hHeld ?_
 simp only[Act.put,List.getElem_toArray,List.getElem_cons_zero,List.setIfInBounds_toArray,List.set_cons_zero,List.set_cons_succ]
 refine wpAnyH_take (i:=4) rfl (by kernel_rfl) (by kernel_rfl) (by kernel_rfl) (fun _ _ _ h=>h) (Or.inl ⟨rfl,fun _ _=>rfl⟩) hHeld ?_
 try simp only[Act.put,List.getElem_toArray,List.getElem_cons_zero,List.getElem_cons_succ,List.setIfInBounds_toArray,List.set_cons_zero,List.set_cons_succ]
 refine wpAnyH_take (i:=5) rfl (by kernel_rfl) (by kernel_rfl) (by kernel_rfl) (fun _ _ _ h=>h) (yieldsIf_load_mid rfl 116 _ rfl w.heap.size 0 rfl (ints Point.ck0.F 24) _ (fun w hw=>part52 hw) Tryz.underlying116 rfl (by rw[ints_length];exact size52)) hHeld ?_
 try simp only[Act.put,List.getElem_toArray,List.getElem_cons_zero,List.getElem_cons_succ,List.setIfInBounds_toArray,List.set_cons_zero,List.set_cons_succ]
 refine wpAnyH_take (i:=6) rfl (by kernel_rfl) (by kernel_rfl) (by kernel_rfl) (fun _ _ _ h=>h) (Or.inl ⟨rfl,fun _ _=>rfl⟩) hHeld ?_
 try simp only[Act.put,List.getElem_toArray,List.getElem_cons_zero,List.getElem_cons_succ,List.setIfInBounds_toArray,List.set_cons_zero,List.set_cons_succ]
 refine wpAnyH_take (i:=7) rfl (by kernel_rfl) (by kernel_rfl) (by kernel_rfl) (fun _ _ _ h=>h) (yieldsIf_load_mid rfl 142 _ rfl w.heap.size 0 rfl (Point.ckL Point.ck0) _ (fun w hw=>hw) Tryz.underlying142 rfl (by rw[Point.ckL_length];exact Point.size26)) hHeld ?_
 try simp only[Act.put,List.getElem_toArray,List.getElem_cons_zero,List.getElem_cons_succ,List.setIfInBounds_toArray,List.set_cons_zero,List.set_cons_succ]
 refine wpAnyH_take (i:=9) rfl (by kernel_rfl) (by kernel_rfl) (by kernel_rfl) (fun _ _ _ h=>h) (Or.inl ⟨rfl,fun _ _=>rfl⟩) hHeld ?_
 try simp only[Act.put,List.getElem_toArray,List.getElem_cons_zero,List.getElem_cons_succ,List.setIfInBounds_toArray,List.set_cons_zero,List.set_cons_succ]
 refine wpAnyH_take (i:=10) rfl (by kernel_rfl) (by kernel_rfl) (by kernel_rfl) (fun _ _ _ h=>h) (yieldsIf_load_mid rfl 142 _ rfl w.heap.size 0 rfl (Point.ckL Point.ck0) _ (fun w hw=>hw) Tryz.underlying142 rfl (by rw[Point.ckL_length];exact Point.size26)) hHeld ?_
 try simp only[Act.put,List.getElem_toArray,List.getElem_cons_zero,List.getElem_cons_succ,List.setIfInBounds_toArray,List.set_cons_zero,List.set_cons_succ]
 refine wpAnyH_take (i:=12) rfl (by kernel_rfl) (by kernel_rfl) (by kernel_rfl) (fun _ _ _ h=>h) (Or.inl ⟨rfl,fun _ _=>rfl⟩) hHeld ?_
 try simp only[Act.put,List.getElem_toArray,List.getElem_cons_zero,List.getElem_cons_succ,List.setIfInBounds_toArray,List.set_cons_zero,List.set_cons_succ]
 refine wpAnyH_take (i:=13) rfl (by kernel_rfl) (by kernel_rfl) (by kernel_rfl) (fun _ _ _ h=>h) (Or.inl ⟨rfl,fun _ _=>rfl⟩) hHeld ?_
 try simp only[Act.put,List.getElem_toArray,List.getElem_cons_zero,List.getElem_cons_succ,List.setIfInBounds_toArray,List.set_cons_zero,List.set_cons_succ]
 refine wpAnyH_ready (rs:=[1]) (by kernel_rfl) (by simp) ?_
 refine AllReadyH.cons rfl (fun K' hK=>?_) AllReadyH.nil
 go_simp
 refine(mnew_any g _).mono ?_
 rintro e w5 ⟨m,p,q,b,rfl,hlt5,hM5,G5⟩
 have HM5:=hyd hM5
 have HG5:=hyd (HGD.out.trans G5)
 have HL5:=hyd hlt5
 have hz35:w3.heap.size<=w5.heap.size:=G5.size
 have G35:Hid (Chg (fun _=>False) w3 w5):=((Chg.refl (fun _=>False) w3).drewN 1).trans G5
 refine hK.out _ _ (Ck.part (HBD.out.chg G5 (fun f=>f))) (fun hHeld=>?_)
 have HB5:=hyd (HBD.out.chg G5 (fun f=>f))
 clear hK K' hM5 hlt5 G5
 try simp only[Act.put,List.getElem_toArray,List.getElem_cons_zero,List.getElem_cons_succ,List.setIfInBounds_toArray,List.set_cons_zero,List.set_cons_succ]
 refine wpAnyH_ready (rs:=[2]) (by kernel_rfl) (by simp) ?_
 refine AllReadyH.cons rfl (fun K' hK=>?_) AllReadyH.nil
 go_simp
 refine(Pool.new_any _).mono ?_
 rintro e w6 ⟨rfl,hP6,G6⟩
 have HP6:=hyd hP6
 have HG6:=hyd G6
 refine hK.out _ _ (Ck.part (HB5.out.chg G6 (fun f=>f))) (fun hHeld=>?_)
 have HB6:=hyd (HB5.out.chg G6 (fun f=>f))
 clear hK K' hP6 G6
 try simp only[Act.put,List.getElem_toArray,List.getElem_cons_zero,List.getElem_cons_succ,List.setIfInBounds_toArray,List.set_cons_zero,List.set_cons_succ]
 refine wpAnyH_ready (rs:=[3]) (by kernel_rfl) (by simp) ?_
 refine AllReadyH.cons rfl (fun K' hK=>?_) AllReadyH.nil
 go_simp
 refine(Pmap.new_any _).mono ?_
 rintro e w7 ⟨rfl,hQ7,G7⟩
 have HQ7:=hyd hQ7
 have HG7:=hyd G7
 refine hK.out _ _ (Ck.part (HB6.out.chg G7 (fun f=>f))) (fun hHeld=>?_)
 have HB7:=hyd (HB6.out.chg G7 (fun f=>f))
 clear hK K' hQ7 G7
 try simp only[Act.put,List.getElem_toArray,List.getElem_cons_zero,List.getElem_cons_succ,List.setIfInBounds_toArray,List.set_cons_zero,List.set_cons_succ]
 refine wpAnyH_ready (rs:=[8]) (by kernel_rfl) (by simp) ?_
 refine AllReadyH.cons rfl (fun K' hK=>?_) AllReadyH.nil
 go_simp
 refine(Claim.next_any w7 none 0 [] 0 rfl (Claim.Ow.nil w7 0).sl (by decide) Point.ck0 wfc0).mono ?_
 rintro e w8 ⟨rfl,G8⟩
 have HG8:=hyd G8
 refine hK.out _ _ (Ck.part (HB7.out.chg G8 (fun f=>f))) (fun hHeld=>?_)
 have HB8:=hyd (HB7.out.chg G8 (fun f=>f))
 clear hK K' G8
 rw[nxt0]
 try simp only[Act.put,List.getElem_toArray,List.getElem_cons_zero,List.getElem_cons_succ,List.setIfInBounds_toArray,List.set_cons_zero,List.set_cons_succ]
 refine wpAnyH_ready (rs:=[11]) (by kernel_rfl) (by simp) ?_
 refine AllReadyH.cons rfl (fun K' hK=>?_) AllReadyH.nil
 go_simp
 refine(isSpent_e w8 Point.ck0 (b:=false) spn0).mono ?_
 rintro e w9 ⟨rfl,G9⟩
 have HG9:=hyd G9
 refine hK.out _ _ (Ck.part (HB8.out.chg G9 (fun f=>f))) (fun hHeld=>?_)
 have HB9:=hyd (HB8.out.chg G9 (fun f=>f))
 clear hK K' G9
 try simp only[Act.put,List.getElem_toArray,List.getElem_cons_zero,List.getElem_cons_succ,List.setIfInBounds_toArray,List.set_cons_zero,List.set_cons_succ]
 refine wpAnyH_take (i:=14) rfl (by kernel_rfl) (by kernel_rfl) (by kernel_rfl) (fun _ _ _ h=>h) (Or.inl ⟨rfl,fun _ _=>exec_build105 (A:=⟨w9.heap.size,m,g,p,q,b,w5.heap.size,w6.heap.size,w1.heap.size,w2.heap.size⟩) (s:=s) (tl:=tl) rfl rfl rfl rfl rfl rfl rfl rfl rfl⟩) hHeld ?_
 try simp only[Act.put,List.getElem_toArray,List.getElem_cons_zero,List.getElem_cons_succ,List.setIfInBounds_toArray,List.set_cons_zero,List.set_cons_succ]
 refine wpAnyH_ready (rs:=[15]) (by kernel_rfl) (by simp) ?_
 refine AllReadyH.cons rfl (fun K' hK=>?_) AllReadyH.nil
 refine step_box105 rfl (.tmp 57) rfl rfl ?_
 refine hK.out _ _ (Ck.part (HB9.out.alloc _)) (fun hHeld=>?_)
 clear hK K'
 try simp only[Act.put,List.getElem_toArray,List.getElem_cons_zero,List.getElem_cons_succ,List.setIfInBounds_toArray,List.set_cons_zero,List.set_cons_succ]
 refine wpAnyH_take (i:=16) rfl (by kernel_rfl) (by kernel_rfl) (by kernel_rfl) (fun _ _ _ h=>h) (Or.inl ⟨rfl,fun _ _=>rfl⟩) hHeld ?_
 try simp only[Act.put,List.getElem_toArray,List.getElem_cons_zero,List.getElem_cons_succ,List.setIfInBounds_toArray,List.set_cons_zero,List.set_cons_succ]
 clear hHeld
 refine wpAnyH_done (by kernel_rfl) ?_ _
 refine NoPanic.normal ?_
 have G510:Chg (fun _=>False) w5 (w9.alloc (.cells (corL ⟨w9.heap.size,m,g,p,q,b,w5.heap.size,w6.heap.size,w1.heap.size,w2.heap.size⟩ (K0 s tl)).toArray 124)):=(((HG6.out.trans HG7.out).trans HG8.out).trans HG9.out).alloc _
 have hsz5:w3.heap.size<=w5.heap.size/\w.heap.size<=w3.heap.size:=⟨hz35,HGa.out.size⟩
 have hsz9:w5.heap.size<=w9.heap.size/\w5.heap.size<=w6.heap.size:=⟨(((HG6.out.trans HG7.out).trans HG8.out).trans HG9.out).size,HG6.out.size⟩
 have HK:Hid (CoreAt ⟨w9.heap.size,m,g,p,q,b,w5.heap.size,w6.heap.size,w1.heap.size,w2.heap.size⟩ (w9.alloc (.cells (corL ⟨w9.heap.size,m,g,p,q,b,w5.heap.size,w6.heap.size,w1.heap.size,w2.heap.size⟩ (K0 s tl)).toArray 124)) (K0 s tl)):=by
  obtain⟨lm,lp,lq,lb⟩:=HM5.out.lts
  have el:Health.lim 65535 (fun _=>0)=fun _=>0:=by funext i;show min (0:Int) 65535=0;decide
  have el2:Health.lim 255 (fun _=>0)=fun _=>0:=by funext i;show min (0:Int) 255=0;decide
  have hH:=HH3.out
  rw[el,el2] at hH
  refine⟨sto_cor w9 _ _ rfl rfl,⟨(G510.block m lm (fun f=>f)).trans HM5.out.1,HM5.out.2.other (G510.block b lb (fun f=>f)) (G510.block q lq (fun f=>f)) (G510.block p lp (fun f=>f))⟩,HC.out.chg (HG5.out.trans G510) (fun f=>f),HP6.out.chg (((HG7.out.trans HG8.out).trans HG9.out).alloc _) (fun f=>f),IB.chg HQ7.out ((HG8.out.trans HG9.out).alloc _) (fun f=>f),IB.chg HP3.out ((G35.out.trans G510)) (fun f=>f),IB.chg hH ((G35.out.trans G510)) (fun f=>f),HWF.out⟩
 have HB10:=hyd (HB9.out.alloc (.cells (corL ⟨w9.heap.size,m,g,p,q,b,w5.heap.size,w6.heap.size,w1.heap.size,w2.heap.size⟩ (K0 s tl)).toArray 124))
 have HG10:=hyd (HG5.out.trans G510)
 have HFAR:Hid (Far ⟨w9.heap.size,m,g,p,q,b,w5.heap.size,w6.heap.size,w1.heap.size,w2.heap.size⟩ g w.heap.size):=by
  obtain⟨l1,l2,l3,l4⟩:=HL5.out
  have l1':w3.heap.size<=m:=l1
  have l2':w3.heap.size<=p:=l2
  have l3':w3.heap.size<=q:=l3
  have l4':w3.heap.size<=b:=l4
  exact⟨rfl,by show w.heap.size<=w9.heap.size;omega,by show w.heap.size<=m;omega,by show w.heap.size<=p;omega,by show w.heap.size<=q;omega,by show w.heap.size<=b;omega,by show w.heap.size<=w5.heap.size;omega,by show w.heap.size<=w6.heap.size;omega,by show w.heap.size<=w1.heap.size;omega,by show w.heap.size<=w2.heap.size;omega⟩
 generalize w9.alloc (.cells (corL ⟨w9.heap.size,m,g,p,q,b,w5.heap.size,w6.heap.size,w1.heap.size,w2.heap.size⟩ (K0 s tl)).toArray 124)=w10 at *
 clear HM5 HP6 HQ7 HG6 HG7 HG8 HG9 HB5 HB6 HB7 HB8 HB9 HG5 HL5 HBD HGD HH3 HG3 HB3 HP3 HGa HB2 HP2 HG2 HNW HC HWF G510 G35
 go_wp2_with (refine Point.wpList_load_ck rfl (.tmp 4) rfl w.heap.size rfl HB10.out ?_)
 refine(layFound_nil _ w10 _ HK.out).mono ?_
 rintro e w11 ⟨rfl,K11,G11⟩
 have HK11:=hyd K11
 have HG11:=hyd (HG10.out.trans G11)
 have HB11:=hyd (HB10.out.chg G11 (fun f=>f))
 clear K11 G11 HK HG10 HB10
 go_wp2_with (refine Point.wpList_load_ck rfl (.tmp 4) rfl w.heap.size rfl HB11.out ?_)
 refine(setBlocks_k _ w11 _ HK11.out Point.ck0 (fun _ _=>rfl)).mono ?_
 rintro e w12 ⟨rfl,K12,G12⟩
 have HK12:=hyd K12
 have HG12:Hid (Chg (·=g) w w12):=(HG11.out.mono (fun _ _ f=>f.elim)).trans' G12 (fun k hk e=>by
  obtain⟨f0,f1,f2,f3,f4,f5,f6,f7,f8,f9⟩:=HFAR.out
  rcases e with e | e | e | e | e | e | e | e
  ·
   omega
  ·
   omega
  ·
   exact e
  ·
   omega
  ·
   omega
  ·
   omega
  ·
   omega
  ·
   omega)
 clear K12 G12
 go_wp2
 go_ret2
 refine⟨_,HFAR.out,rfl,?_,HG12.out⟩
 have:=HK12.out
 have e5:({ K0 s tl with F:=sbF (sbS Point.ck0.B (K0 s tl).L) 12 0 (K0 s tl).F }:Kor)=K0 s tl:=by
  show ({ K0 s tl with F:=sbF (sbS Point.ck0.B (fun _=>-1)) 12 0 (fun _=>0) }:Kor)=K0 s tl
  rw[sb0]
  rfl
 rw[e5] at this
 exact this
theorem eql_ptr (g:Nat) (w:World):(binOp .eql 24 (.pointer (some ⟨g,0,none⟩)) (.pointer none)).run Tryz.prog w=.ok (.bool false) w:=by kernel_rfl
set_option maxHeartbeats 2000000 in
theorem new_new (g:Nat) (s:Chp) (hs:s.Ok) (tl:List Nat->Int->Pg) (htl:∀ L n,ToldR L n (tl L n)) (w:World) (h:ChipAt w g s) :
 Calls Tryz.prog 102 #[.pointer (some ⟨g,0,none⟩),.agg (Point.ckA Point.ck0),.slice none 0 0] w fun e w'=>∃ A,Far A g w.heap.size/\e=.returned (.tuple #[.pointer (some ⟨A.c,0,none⟩),.nilIface])/\CoreAt A w' (K0 s tl)/\Chg (·=g) w w':=by
 have HB0:=hyd (Point.Ck.new w Point.ck0)
 have HG0:Hid (Chg (fun _=>False) w (w.alloc (.cells (Point.ckA Point.ck0) 142))):=(Chg.refl _ w).alloc _
 have hsz:(w.alloc (.cells (Point.ckA Point.ck0) 142)).heap.size=w.heap.size+1:=World.size_alloc _ _
 have hbg:=begin_new g s hs tl htl (w.alloc (.cells (Point.ckA Point.ck0) 142)) (h.chg HG0.out (fun f=>f))
 have q:=neq_er
 have q0:∀ w,(binOp .neq 33 (errV 0) .nilIface).run Tryz.prog w=.ok (.bool false) w:=fun w=>q 0 w
 have gq:=guard_neq
 have HS:=hyd hsz
 clear h hs htl hsz q
 go_enter Tryz.func102,Tryz.ntmps102
 go_wp2_with (refine Point.wpList_load_ck rfl (.tmp 4) rfl w.heap.size rfl HB0.out ?_)
 refine hbg.mono ?_
 rintro e w1 ⟨A,hF,rfl,hK,hG⟩
 have HK:=hyd hK
 have HG:=hyd ((HG0.out.mono (T:=(·=g)) (fun _ _ f=>f.elim)).trans hG)
 have HF:Hid (Far A g w.heap.size):=by
  obtain⟨f0,f1,f2,f3,f4,f5,f6,f7,f8,f9⟩:=hF
  have:=HS.out
  exact⟨f0,by omega,by omega,by omega,by omega,by omega,by omega,by omega,by omega,by omega⟩
 clear hbg hK hG hF
 go_wp2
 go_ret2
 exact⟨A,HF.out,rfl,HK.out,HG.out⟩
end Go.Proofs.YtbhbilcieodbhaaGreat
/-
  mount's core of a chip on which nothing was programmed. No condition: lemmas.
-/
namespace Go.Proofs.YtbhbilcieodbhaaGreat
set_option maxRecDepth 100000
open Go.RowKit
theorem clone_f (w:World):Calls Tryz.prog 135 #[.slice none 0 0] w fun e w'=>e=.returned (.slice none 0 0)/\w'=w:=by
 have q:∀ w:World,(binOp .eql 144 (.slice none 0 0) (.slice none 0 0)).run Tryz.prog w=.ok (.bool true) w:=fun w=>by kernel_rfl
 go_enter Tryz.func135,Tryz.ntmps135
 go_wp2
 go_ret
 exact⟨rfl,rfl⟩
set_option maxHeartbeats 2000000 in
theorem point_blank (B:Nat) (v:Value) (w:World) (h:Sg w B v) :
 Calls Tryz.prog 101 #[.pointer (some ⟨B,0,none⟩)] w fun e w'=>e=.returned (.tuple #[.agg (Point.ckA Point.ck0),.bool false])/\Chg (fun _=>False) w w':=by
 have H1:=hyd (Point.Ck.new w Point.ck0)
 have G1:Hid (Chg (fun _=>False) w (w.alloc (.cells (Point.ckA Point.ck0) 142))):=(Chg.refl _ w).alloc _
 have c0:=(h.chg G1.out (fun f=>f)).cells.1
 clear h
 go_enter Tryz.func101,Tryz.ntmps101
 go_wp2_with (first | refine Point.wpList_alloc_ck rfl rfl ?_)
 generalize w.alloc (.cells (Point.ckA Point.ck0) 142)=w1 at *
 have hcl:=clone_f w1
 go_wp2_with fail
 refine hcl.mono ?_
 rintro e w2 ⟨rfl,rfl⟩
 clear hcl
 go_wp2
 go_loopg [4] 0 (fun kx s4 wr=>s4=.slice none 0 0/\Hid (wr=w2))
 case atStart=>exact⟨rfl,rfl⟩
 case round=>
  obtain⟨rfl,HW⟩:=hrel
  obtain rfl:=HW.out
  have hcall:=Claim.newest_t wr none 0 24 (-1)
  go_wp2_with fail
  refine hcall.mono ?_
  rintro e w3 ⟨rfl,G3⟩
  have H3:=hyd (H1.out.chg G3 (fun f=>f))
  have G3':=hyd (G1.out.trans G3)
  clear hcall c0 G3
  go_wp2_with (refine Claim.wpList_alloc_fo rfl rfl _ rfl ?_)
  intro w4 K4 G4 S4
  have HK4:=hyd K4
  have H4:=hyd (H3.out.chg G4 (fun f=>f))
  have HG4:=hyd (G3'.out.trans G4)
  have HS4:=hyd S4
  have HLE:=hyd G3'.out.size
  have HB3:=hyd H3.out.lt
  clear K4 G4 S4
  go_wp2_with (refine Claim.wpList_store_fo rfl (.tmp 5) (.tmp 17) rfl _ rfl rfl HK4.out ?_)
  intro w5 K5 G5
  have H5:=hyd (H4.out.chg G5 (fun e=>by have:=HB3.out;omega))
  have HG5:=hyd (HG4.out.trans' G5 (fun k hk e=>by have:=HLE.out;omega))
  clear K5 G5 HK4
  go_wp2_with (first | (refine Point.wpList_build_ck rfl rfl ?_) | (refine Point.wpList_store_ck rfl (.tmp 2) (.tmp 21) rfl _ rfl rfl H5.out ?_))
  intro w6 K6 G6
  have HG6:=hyd (HG5.out.trans' G6 (fun k hk e=>by omega))
  go_wp2
  refine bodyPost_ret (Point.results_ck rfl _ rfl K6) rfl ?_
  exact⟨rfl,HG6.out⟩
theorem far_mono {A:Ad} {g n m:Nat} (h:Far A g n) (hm:m<=n):Far A g m:=by
 obtain⟨a,b,c,d,e,f,i,j,k,l⟩:=h
 exact⟨a,by omega,by omega,by omega,by omega,by omega,by omega,by omega,by omega,by omega⟩
set_option maxHeartbeats 2000000 in
theorem core_blank (B g:Nat) (v:Value) (s:Chp) (hs:s.Ok) (tl:List Nat->Int->Pg) (htl:∀ L n,ToldR L n (tl L n)) (w:World) (h:Sg w B v) (hc:ChipAt w g s) :
 Calls Tryz.prog 66 #[.pointer (some ⟨B,0,none⟩),.pointer (some ⟨g,0,none⟩)] w fun e w'=>∃ A,Far A g w.heap.size/\e=.returned (.tuple #[.pointer (some ⟨A.c,0,none⟩),.nilIface])/\CoreAt A w' (K0 s tl)/\Chg (·=g) w w':=by
 have hcall:=point_blank B v w h
 have HC:=hyd hc
 have hb:=Point.build26
 clear h hc
 go_enter Tryz.func66,Tryz.ntmps66
 go_wp2_with fail
 refine hcall.mono ?_
 rintro e w1 ⟨rfl,G1⟩
 have HC1:=hyd (HC.out.chg G1 (fun f=>f))
 have HG1:=hyd G1
 clear hcall G1
 have H2:=hyd (Point.Ck.new w1 Point.ck0)
 have G2:Hid (Chg (fun _=>False) w1 (w1.alloc (.cells (Point.ckA Point.ck0) 142))):=(Chg.refl _ w1).alloc _
 go_wp2_with (first | (refine Point.wpList_alloc_ck rfl rfl ?_) | (refine Point.wpList_store_ck rfl (.tmp 6) (.tmp 11) rfl _ rfl rfl H2.out ?_))
 intro w3 K3 G3
 have HL1:=hyd HG1.out.size
 have HC3:=hyd ((HC1.out.chg G2.out (fun f=>f)).chg G3 (fun e=>by have:=HC1.out.lt;omega))
 have HG3:=hyd ((HG1.out.trans G2.out).trans' G3 (fun k hk e=>by have:=HL1.out;omega))
 clear K3 G3 H2 G2 HC1
 have hnew:=new_new g s hs tl htl w3 HC3.out
 go_wp2_with (refine Point.wpList_build_ck rfl rfl ?_)
 refine hnew.mono ?_
 rintro e w4 ⟨A,hF,rfl,hK,G4⟩
 have HF:=hyd hF
 have HK:=hyd hK
 have HG4:=hyd ((HG3.out.mono (T:=(·=g)) (fun _ _ f=>f.elim)).trans G4)
 have HS:=hyd HG3.out.size
 clear hnew hF hK G4
 go_wp2
 go_ret2
 exact⟨A,far_mono HF.out HS.out,rfl,HK.out,HG4.out⟩
end Go.Proofs.YtbhbilcieodbhaaGreat
/-
  slices.Repeat of one number, twelve times; no condition but that the number lies there.
-/
namespace Go.Proofs.YtbhbilcieodbhaaGreat
set_option maxRecDepth 100000
open Go.RowKit
theorem mul64_c (w:World):Calls Tryz.prog 143 #[.int .u64 1,.int .u64 12] w fun e w'=>e=.returned (.tuple #[.int .u64 0,.int .u64 12])/\w'=w:=by
 go_enter Tryz.func143,Tryz.ntmps143
 go_wp2
 go_ret2
 exact⟨rfl,rfl⟩
theorem mul_c (w:World):Calls Tryz.prog 104 #[.int .u64 1,.int .u64 12] w fun e w'=>e=.returned (.tuple #[.int .u64 0,.int .u64 12])/\w'=w:=by
 have hc:=mul64_c w
 go_enter Tryz.func104,Tryz.ntmps104
 go_wp2_with fail
 refine hc.mono ?_
 rintro e w1 ⟨rfl,rfl⟩
 go_wp2
 go_ret2
 exact⟨rfl,rfl⟩
theorem make12' (w:World):(Instr.makeSlice 22 (.int .i64 12) (.int .i64 12)).run Tryz.prog w=.ok (.slice (some ⟨w.heap.size,0,none⟩) 12 12) (w.alloc (.cells (ints (fun _=>0) 12).toArray 3)):=by kernel_rfl
def E8 (n:Nat):Nat->Int:=fun b=>if b<n then 8 else 0
theorem e8_copy (n k:Nat) (h:n+k<=12):(ints (E8 n) 12).take n ++ List.replicate k (.int .i64 8) ++ (ints (E8 n) 12).drop (n+(List.replicate k (Value.int .i64 8)).length)=ints (E8 (n+k)) 12:=by
 rw[List.length_replicate]
 apply List.ext_getElem?
 intro i
 have l1:((ints (E8 n) 12).take n).length=n:=by rw[List.length_take,ints_length];omega
 by_cases h1:i<n
 ·
  rw[List.append_assoc,List.getElem?_append_left (by omega),List.getElem?_take,if_pos h1,ints_at _ _ _ (by omega),ints_at _ _ _ (by omega)]
  unfold E8
  rw[if_pos h1,if_pos (by omega)]
 ·
  by_cases h2:i<n+k
  ·
   rw[List.append_assoc,List.getElem?_append_right (by omega),l1,List.getElem?_append_left (by rw[List.length_replicate];omega),List.getElem?_replicate,if_pos (by omega),ints_at _ _ _ (by omega)]
   unfold E8
   rw[if_pos h2]
   rfl
  ·
   rw[List.append_assoc,List.getElem?_append_right (by omega),l1,List.getElem?_append_right (by rw[List.length_replicate];omega),List.length_replicate,List.getElem?_drop,show n+k+(i - n - k)=i by omega]
   by_cases h3:i<12
   ·
    rw[ints_at _ _ _ h3,ints_at _ _ _ h3]
    unfold E8
    rw[if_neg h1,if_neg h2]
   ·
    rw[List.getElem?_eq_none (by rw[ints_length];omega),List.getElem?_eq_none (by rw[ints_length];omega)]
theorem copy_run (w:World) (ty:TypeId) (b n k g dl dc sl sc:Nat) (hI:IB w b 3 12 (E8 n)) (hk:Nat.min sl dl=k) (hn:n+k<=12) (hsrc:∀ j,j<k->w.cell? ⟨g,j,none⟩=some (.int .i64 8)) :
 (Builtin.copy_ #[22,22] ty #[.slice (some ⟨b,n,none⟩) dl dc,.slice (some ⟨g,0,none⟩) sl sc]).run Tryz.prog w=.ok (goInt k) (w.setRow b (ints (E8 (n+k)) 12).toArray):=by
 have hlen:(List.replicate k (Value.int .i64 8)).length=k:=List.length_replicate
 have hrun:=run_copy_row (P:=Tryz.prog) w 22 22 ty 3 b n dl dc ⟨g,0,none⟩ sl sc (ints (E8 n) 12).toArray 3 (List.replicate k (.int .i64 8)) Tryz.underlying22 Patrol.size3 hI (by rw[hlen,hk]) (fun j v hv=>by
  have hj:j<k:=by have:=(List.getElem?_eq_some_iff.1 hv).1;rwa [hlen] at this
  rw[List.getElem?_replicate,if_pos hj] at hv
  injection hv with hv
  subst hv
  rw[Addr.add_mid,Nat.zero_add]
  exact hsrc j hj) (by rw[hlen,List.size_toArray,ints_length];omega) (fun v hv=>by rw[(List.mem_replicate.1 hv).2];rfl)
 rw[show (ints (E8 n) 12).toArray.toList=ints (E8 n) 12 from rfl,e8_copy n k hn,hlen] at hrun
 exact hrun
theorem copied {w:World} {b n m:Nat} (hI:IB w b 3 12 (E8 n)):IB (w.setRow b (ints (E8 m) 12).toArray) b 3 12 (E8 m)/\Chg (·=b) w (w.setRow b (ints (E8 m) 12).toArray):=
 ⟨setRow_heap w b _ _ 3 _ hI,chg_row _ _ _⟩
theorem E8.cell {w:World} {b n:Nat} (hI:IB w b 3 12 (E8 n)) {j:Nat} (hj:j<n) (hn:n<=12):w.cell? ⟨b,j,none⟩=some (.int .i64 8):=by
 rw[(hI.cell j (by omega)).1]
 unfold E8
 rw[if_pos hj]
set_option maxHeartbeats 4000000 in
theorem repeat_8 (g:Nat) (w:World) (hc:w.cell? ⟨g,0,none⟩=some (.int .i64 8)) (hg:g<w.heap.size) :
 Calls Tryz.prog 68 #[.slice (some ⟨g,0,none⟩) 1 1,.int .i64 12] w fun e w'=>∃ d,e=.returned (.slice (some ⟨d,0,none⟩) 12 12)/\w.heap.size<=d/\IB w' d 3 12 (E8 12)/\Chg (fun _=>False) w w':=by
 have hm:=make12' w
 have HG:=hyd hg
 have HC:=hyd hc
 have hmul:=mul_c w
 clear hc hg
 go_enter Tryz.func68,Tryz.ntmps68
 go_wp2_with fail
 refine hmul.mono ?_
 rintro e w1 ⟨rfl,rfl⟩
 clear hmul
 have hI0:IB (w1.alloc (.cells (ints (fun _=>0) 12).toArray 3)) w1.heap.size 3 12 (E8 0):=by
  show (w1.heap.push _)[w1.heap.size]?=_
  simp
  rfl
 have G0:Chg (fun _=>False) w1 (w1.alloc (.cells (ints (fun _=>0) 12).toArray 3)):=(Chg.refl _ w1).alloc _
 have hcp:=copy_run _ 3 w1.heap.size 0 1 g 12 12 1 1 hI0 rfl (by omega) (fun j hj=>by
  obtain rfl:j=0:=by omega
  exact(G0.cell HG.out (fun f=>f) 0).trans HC.out)
 obtain⟨K1,G1⟩:=copied (m:=1) hI0
 have HK:=hyd K1
 have HG1:=hyd (G0.trans' G1 (fun k hk e=>by omega))
 obtain⟨N,hN⟩:∃ N,w1.heap.size=N:=⟨_,rfl⟩
 have HN:=hyd hN
 clear K1 G1 G0 HC HG
 rw[hN] at hm hcp HK HG1
 go_wp2
 generalize ((w1.alloc (.cells (ints (fun _=>0) 12).toArray 3)).setRow N (ints (E8 (0+1)) 12).toArray)=w2 at *
 go_loopg [8] 12 (fun kx s8 wr=>∃ n:Nat,s8=.int .i64 n/\(n=1\/n=2\/n=4\/n=8\/n=12)/\12 - n<=kx/\Hid (IB wr N 3 12 (E8 n))/\Hid (Chg (fun _=>False) w1 wr))
 case atStart=>exact⟨1,rfl,Or.inl rfl,by omega,HK.out,HG1.out⟩
 case round=>
  clear HK HG1 hcp hm
  obtain⟨n,rfl,hn,hkx,HI,HG⟩:=hrel
  have HID:Hid (IB wr.drew N 3 12 (E8 n)):=HI.out
  have hcp:=fun k (h:Nat.min n (12 - n)=k) (h2:n+k<=12)=>copy_run wr.drew 3 N n k N (12 - n) (12 - n) n 12 HID.out h h2 (fun j hj=>E8.cell HID.out (by have:k<=n:=h ▸ Nat.min_le_left _ _;omega) (by omega))
  have HGD:∀ m,Hid (IB (wr.drew.setRow N (ints (E8 m) 12).toArray) N 3 12 (E8 m))/\Hid (Chg (fun _=>False) w1 (wr.drew.setRow N (ints (E8 m) 12).toArray)):=fun m=>
   ⟨(copied (m:=m) HID.out).1,(HG.out.drew).trans' (copied (m:=m) HID.out).2 (fun k hk e=>by have:=HN.out;omega)⟩
  have HGD:=hyd HGD
  rcases hn with rfl | rfl | rfl | rfl | rfl
  ·
   have hcp:=hcp 1 rfl (by omega)
   go_wp2
   go_region
   go_wp2
   go_roundg 10
   case measure=>omega
   case rel=>exact⟨2,rfl,by omega,Nat.le_refl _,(HGD.out 2).1.out,(HGD.out 2).2.out⟩
  ·
   have hcp:=hcp 2 rfl (by omega)
   go_wp2
   go_region
   go_wp2
   go_roundg 8
   case measure=>omega
   case rel=>exact⟨4,rfl,by omega,Nat.le_refl _,(HGD.out 4).1.out,(HGD.out 4).2.out⟩
  ·
   have hcp:=hcp 4 rfl (by omega)
   go_wp2
   go_region
   go_wp2
   go_roundg 4
   case measure=>omega
   case rel=>exact⟨8,rfl,by omega,Nat.le_refl _,(HGD.out 8).1.out,(HGD.out 8).2.out⟩
  ·
   have hcp:=hcp 4 rfl (by omega)
   go_wp2
   go_region
   go_wp2
   go_roundg 0
   case measure=>omega
   case rel=>exact⟨12,rfl,by omega,Nat.le_refl _,(HGD.out 12).1.out,(HGD.out 12).2.out⟩
  ·
   clear hcp
   go_wp2
   go_ret
   exact⟨N,rfl,by rw[<-HN.out];exact Nat.le_refl _,HI.out,HG.out⟩
end Go.Proofs.YtbhbilcieodbhaaGreat
/-
  Mount of a chip on which nothing was programmed. No condition but that the chip lies in memory and is fine.
-/
namespace Go.Proofs.YtbhbilcieodbhaaGreat
set_option maxRecDepth 100000
open Go.RowKit
theorem one8 (w:World):(w.alloc (.cells #[.int .i64 8] 3)).cell? ⟨w.heap.size,0,none⟩=some (.int .i64 8):=by
 have h:(w.alloc (.cells #[.int .i64 8] 3)).heap[w.heap.size]?=some (.cells #[.int .i64 8] 3):=by
  show (w.heap.push _)[w.heap.size]?=_
  simp
 simp only[World.cell?,h]
 rfl
set_option maxHeartbeats 4000000 in
theorem mount_blank (g:Nat) (s:Chp) (hB:Blank s) (tl:List Nat->Int->Pg) (htl:∀ L n,ToldR L n (tl L n)) (w:World) (h:ChipAt w g s) :
 Calls Tryz.prog 43 #[.pointer (some ⟨g,0,none⟩)] w fun e w'=>∃ A K G,Far A g w.heap.size/\e=.returned (.tuple #[.pointer (some ⟨A.c,0,none⟩),.nilIface])/\CoreAt A w' K/\(Bgn K G/\Lit 1 K G)/\K.tl=tl/\Chg (·=g) w w':=by
 have hcall:=look_blank g s hB w h
 have HL:=hyd h.lt
 have q0:=neq_nil_nil
 clear h hB
 go_enter Tryz.func43,Tryz.ntmps43
 go_wp2_with fail
 refine hcall.mono ?_
 rintro e w1 ⟨s1,mp,rfl,B1,-,C1,G1⟩
 have HB1:=hyd B1
 have HC1:=hyd C1
 have HG1:=hyd G1
 clear hcall B1 C1 G1
 go_wp2_with (first | (refine wpList_alloc_sg rfl rfl w1.heap.size rfl ?_))
 intro w2 K2 G2 S2
 have HK2:=hyd K2
 have HC2:=hyd (HC1.out.chg G2 (fun f=>f))
 have HG2:=hyd (HG1.out.trans' G2 (fun _ _ f=>f.elim))
 have HS1:=hyd HG1.out.size
 have HL1:=hyd HC1.out.lt
 clear K2 G2 S2 HC1 HG1
 go_wp2_with (refine wpList_store_sg rfl (.tmp 4) (.tmp 12) rfl _ rfl rfl HK2.out ?_)
 intro w3 K3 G3
 have HK3:=hyd K3
 have HC3:=hyd (HC2.out.chg G3 (fun e=>by have:=HL1.out;omega))
 have HG3:=hyd (HG2.out.trans' G3 (fun k hk e=>by have:=HS1.out;omega))
 have HLK:=hyd HG3.out.size
 clear K3 G3 HK2 HC2 HG2
 have hcore:=core_blank w1.heap.size g _ s1 HB1.out.ok tl htl w3 HK3.out HC3.out
 go_wp2_with fail
 refine hcore.mono ?_
 rintro e w4 ⟨A,hF,rfl,hK,G4⟩
 have HF:=hyd (far_mono hF HLK.out)
 have HK:=hyd hK
 have HG4:=hyd (HG3.out.trans G4)
 clear hcore hF hK G4 HK3 HC3 HG3
 have HLOW:Hid (∀ k,Cor A k->k<w4.heap.size):=fun k hk=>HK.out.low k (Or.inl hk)
 have G5:Chg (fun _=>False) w4 (w4.alloc (.cells #[.int .i64 8] 3)):=(Chg.refl _ w4).alloc _
 have c5:(w4.alloc (.cells #[.int .i64 8] 3)).cell? ⟨w4.heap.size,0,none⟩=some (.int .i64 8):=one8 w4
 have hrep:=repeat_8 w4.heap.size _ c5 (by rw[World.size_alloc];omega)
 have HZ5:Hid ((w4.alloc (.cells #[.int .i64 8] 3)).heap.size=w4.heap.size+1):=World.size_alloc _ _
 have HG5:=hyd G5
 clear G5 c5
 go_wp2_with fail
 refine hrep.mono ?_
 rintro e w6 ⟨d,rfl,hd,hI,G6⟩
 have HI:=hyd hI
 have HG6:=hyd (HG5.out.trans G6)
 have HD:Hid (w4.heap.size+1<=d):=by have:=HZ5.out;show _<=_;omega
 clear hrep hd hI G6 HG5 HZ5
 have HK6:=hyd (HK.out.chg0 HG6.out)
 have hseen:=seen_k A w6 _ HK6.out d 0 12 (E8 12) HI.out.lt (fun i hi=>by rw[Nat.zero_add];exact(HI.out.cell i hi).1) (fun e=>by have:=HLOW.out _ e;have:=HD.out;omega)
 rw[show seF (E8 12) 12 (K0 s1 tl).hR=R8 12 from seF_8 _ (fun i hi=>by unfold E8;rw[if_pos hi])] at hseen
 clear HK HI
 go_wp2_with fail
 refine hseen.mono ?_
 rintro e w7 ⟨rfl,hK7,G7⟩
 have HK7:=hyd hK7
 have HG7:=hyd G7
 clear hseen hK7 G7 HK6
 obtain⟨K,G,eK,hBg,etl⟩:=cn_blank htl HB1.out 1
 have hcl:=clean_k A w7 _ HK7.out _ _ eK
 go_wp2_with fail
 refine hcl.mono ?_
 rintro e w8 ⟨rfl,hK8,G8⟩
 have HK8:=hyd hK8
 have HBG:=hyd hBg
 have HE:=hyd etl
 have HG8:=hyd G8
 clear hcl hK8 hBg etl G8 HK7
 rw[show errV 0=.nilIface from rfl]
 go_wp2
 go_ret2
 refine⟨A,K,G,HF.out,rfl,HK8.out,HBG.out,HE.out,?_⟩
 have nf:∀ k,k<w.heap.size->Cor A k->k=g:=fun k hk e=>by
  obtain⟨a,b,c,d,e',f,i,j,l,n⟩:=HF.out
  rcases e with e | e | e | e | e | e | e | e <;> omega
 exact((HG4.out.trans' HG6.out (fun _ _ f=>f.elim)).trans' HG7.out nf).trans' HG8.out nf
end Go.Proofs.YtbhbilcieodbhaaGreat
