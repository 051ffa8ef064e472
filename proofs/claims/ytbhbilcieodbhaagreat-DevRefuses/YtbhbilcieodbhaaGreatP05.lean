/-
  Worlds that differ in some blocks alone; blocks that hold ints. No condition: lemmas. The law's own pick and Code. No condition: lemmas. Lists of ints that came in, with their reach. No condition: lemmas. Three rows of twelve ints in one block. No condition: lemmas. What the functions of health answer. No condition: lemmas. What health.New answers. Condition: the lists lie in memory.
-/
import Derived.Test.YtbhbilcieodbhaaGreatP03
import Derived.WalkKit
import Derived.Deep.RegionWith
import Derived.Deep.Draws
import Derived.BigQuiet
import Derived.ChangeAlike
import Derived.Deep.QuietTactic
import Derived.Outline
import Derived.RegionCalls
import Derived.RegionTactic
import Derived.WalkLawsBesides
import Derived.WalkSpells
import Derived.Deep.MidRow
import Derived.Deep.LoopGhost
import Derived.Laws.Rows
import Derived.Laws.Tables
import Derived.Laws.CopyOwn
import Derived.Deep.SlicePairs
import Derived.SizedLaws
import Derived.OpenShut
import Derived.Maps.AppendAt
import Derived.Laws.ByValue
import Derived.Laws.Build
import Derived.Laws.ResultCell
import Derived.Laws.StructEq
import Derived.Laws.OwnMore
import Derived.Laws.BytesArg
import Derived.Lib.AppendZeros
import Derived.Test.YtbhbilcieodbhaaGreatP04
import Derived.LaidEql
import Derived.Lib.IfaceEq
import Derived.Stop.Asserts
import Derived.RowKitTokens
namespace Go.Proofs.YtbhbilcieodbhaaGreat.Health
set_option maxRecDepth 100000
open Go.RowKit
section
variable {w w':World} {b n:Nat} {t:TypeId} {F:Nat->Bool}
end
theorem addr_at (g o j:Nat):(⟨g,o,none⟩:Addr).add j=⟨g,o+j,none⟩:=Addr.add_mid g o j
def Lies (w:World) (a:Option Addr) (n:Nat) (V:Nat->Int):Prop:=n=0\/∃ g o,a=some ⟨g,o,none⟩/\g<w.heap.size/\∀ i,i<n->w.cell? ⟨g,o+i,none⟩=some (.int .i64 (V i))
def cel (A B C:Nat->Int):Nat->Int:=fun i=>if i<12 then A i else if i<24 then B (i - 12) else C (i - 24)
theorem cel_a {A B C:Nat->Int} {i:Nat} (h:i<12):cel A B C i=A i:=by unfold cel;rw[if_pos h]
theorem cel_b {A B C:Nat->Int} {i:Nat} (h:i<12):cel A B C (12+i)=B i:=by
 unfold cel;rw[if_neg (by omega),if_pos (by omega),show 12+i - 12=i by omega]
theorem cel_c {A B C:Nat->Int} {i:Nat}:cel A B C (24+i)=C i:=by
 unfold cel;rw[if_neg (by omega),if_neg (by omega),show 24+i - 24=i by omega]
def HB (w:World) (b:Nat) (t:TypeId) (A B C:Nat->Int):Prop:=IB w b t 36 (cel A B C)
section
variable {w w':World} {b:Nat} {t:TypeId} {A B C:Nat->Int}
theorem HB.drew (h:HB w b t A B C):HB w.drew b t A B C:=h
theorem HB.ca (h:HB w b t A B C) (i:Nat) (hi:i<12):w.cell? ⟨b,i,none⟩=some (.int .i64 (A i))/\w.frozen? ⟨b,i,none⟩=false:=by
 have:=IB.cell h i (by omega)
 rw[cel_a hi] at this
 exact this
theorem HB.cb (h:HB w b t A B C) (i:Nat) (hi:i<12):w.cell? ⟨b,12+i,none⟩=some (.int .i64 (B i))/\w.frozen? ⟨b,12+i,none⟩=false:=by
 have:=IB.cell h (12+i) (by omega)
 rw[cel_b hi] at this
 exact this
theorem HB.cc (h:HB w b t A B C) (i:Nat) (hi:i<12):w.cell? ⟨b,24+i,none⟩=some (.int .i64 (C i))/\w.frozen? ⟨b,24+i,none⟩=false:=by
 have:=IB.cell h (24+i) (by omega)
 rw[cel_c] at this
 exact this
theorem HB.congr {A' B' C':Nat->Int} (h:HB w b t A B C) (ea:∀ i,i<12->A i=A' i) (eb:∀ i,i<12->B i=B' i) (ec:∀ i,i<12->C i=C' i):HB w b t A' B' C':=
 IB.congr h fun i hi=>by
  unfold cel
  split
  ·
   exact ea i (by omega)
  ·
   split
   ·
    exact eb _ (by omega)
   ·
    exact ec _ (by omega)
theorem HB.setA (h:HB w b t A B C) (i:Nat) (hi:i<12) (z:Int):HB (w.setCell ⟨b,i,none⟩ (.int .i64 z)) b t (upd A i z) B C:=
 (IB.set h i z).congr fun j hj=>by
  simp only[cel,upd]
  by_cases e:j=i
  ·
   rw[if_pos e,if_pos (by omega),if_pos e]
  ·
   rw[if_neg e]
   split
   ·
    rfl
   ·
    rfl
theorem HB.setB (h:HB w b t A B C) (i:Nat) (hi:i<12) (z:Int):HB (w.setCell ⟨b,12+i,none⟩ (.int .i64 z)) b t A (upd B i z) C:=
 (IB.set h (12+i) z).congr fun j hj=>by
  simp only[cel,upd]
  by_cases e:j=12+i
  ·
   rw[if_pos e,if_neg (by omega),if_pos (by omega),if_pos (by omega)]
  ·
   rw[if_neg e]
   split
   ·
    rfl
   ·
    split
    ·
     rw[if_neg (by omega)]
    ·
     rfl
theorem HB.setC (h:HB w b t A B C) (i:Nat) (hi:i<12) (z:Int):HB (w.setCell ⟨b,24+i,none⟩ (.int .i64 z)) b t A B (upd C i z):=
 (IB.set h (24+i) z).congr fun j hj=>by
  simp only[cel,upd]
  by_cases e:j=24+i
  ·
   rw[if_pos e,if_neg (by omega),if_neg (by omega),if_pos (by omega)]
  ·
   rw[if_neg e]
   split
   ·
    rfl
   ·
    split
    ·
     rfl
    ·
     rw[if_neg (by omega)]
theorem HB.partA (h:HB w b t A B C):w.rangeAt b 0 (ints A 12):=fun j v hv=>by
 have hj:j<12:=by have:=(List.getElem?_eq_some_iff.1 hv).1;rwa [ints_length] at this
 rw[Nat.zero_add,(h.ca j hj).1,<-hv,ints_at A 12 j hj];rfl
theorem HB.partC (h:HB w b t A B C):w.rangeAt b 24 (ints C 12):=fun j v hv=>by
 have hj:j<12:=by have:=(List.getElem?_eq_some_iff.1 hv).1;rwa [ints_length] at this
 rw[(h.cc j hj).1,<-hv,ints_at C 12 j hj];rfl
theorem IB.there {n:Nat} {F:Nat->Int} (h:IB w b t n F) (o m:Nat) (hn:o+m<=n):w.there b o m:=fun j hj=>by
 obtain⟨c,f⟩:=h.cell (o+j) (by omega)
 exact⟨by rw[c];rfl,f⟩
def updL (F:Nat->Int) (o:Nat) (l:List Int):Nat->Int:=fun j=>if o<=j/\j<o+l.length then l.getD (j - o) 0 else F j
end
theorem IB.setL {b n:Nat} {t:TypeId}:∀ (l:List Int) (o:Nat) {w:World} {F:Nat->Int} (_:IB w b t n F),IB (w.setCells b o (l.map i6)) b t n (updL F o l)
 | [],o,w,F,h=>by
  have e:updL F o []=F:=by
   funext j
   unfold updL
   rw[if_neg (by simp)]
  rw[e];simpa[World.setCells] using h
 | x :: r,o,w,F,h=>by
  simp only[List.map_cons,World.setCells]
  refine(IB.setL r (o+1) (h.set o x)).congr fun j _=>?_
  unfold updL upd
  simp only[List.length_cons]
  by_cases e:j=o
  ·
   rw[if_neg (by omega),if_pos e,if_pos (by omega),show j - o=0 by omega];rfl
  ·
   by_cases h2:o+1<=j/\j<o+1+r.length
   ·
    rw[if_pos h2,if_pos (by omega),show j - o=(j - (o+1))+1 by omega];rfl
   ·
    rw[if_neg h2,if_neg e,if_neg (by omega)]
theorem IB.setI {w:World} {b n:Nat} {t:TypeId} {F:Nat->Int} (h:IB w b t n F) (o m:Nat) (G:Nat->Int):IB (w.setCells b o (ints G m)) b t n (fun j=>if o<=j/\j<o+m then G (j - o) else F j):=by
 have h1:=IB.setL ((List.range m).map G) o h
 have e:((List.range m).map G).map i6=ints G m:=by simp[ints]
 rw[e] at h1
 refine h1.congr fun j _=>?_
 unfold updL
 simp only[List.length_map,List.length_range]
 split
 ·
  rename_i hh
  rw[List.getD_eq_getElem?_getD,List.getElem?_map,List.getElem?_range (by omega)];rfl
 ·
  rfl
section
variable {w w':World} {b:Nat} {t:TypeId} {A B C:Nat->Int}
theorem HB.rowB (h:HB w b t A B C) (G:Nat->Int):HB (w.setCells b 12 (ints G 12)) b t A G C:=
 (IB.setI h 12 12 G).congr fun j hj=>by
  unfold cel
  by_cases h1:j<12
  ·
   rw[if_neg (by omega),if_pos h1,if_pos h1]
  ·
   by_cases h2:j<24
   ·
    rw[if_pos (by omega),if_neg h1,if_pos h2]
   ·
    rw[if_neg (by omega),if_neg h1,if_neg h2,if_neg h1,if_neg h2]
theorem Chg.setCells {S:Nat->Prop} {u:World} {g:Nat} (hg:S g\/u.heap.size<=g):∀ (vs:List Value) (o:Nat) {w:World} (_:Chg S u w),Chg S u (w.setCells g o vs)
 | [],_,_,h=>h
 | v :: vs,o,_,h=>Chg.setCells hg vs (o+1) (h.setCell hg o v)
end
theorem size39:(Tryz.prog.info? 37).map (·.size)=some 12:=by kernel_rfl
theorem size3:(Tryz.prog.info? 3).map (·.size)=some 1:=by kernel_rfl
theorem wpList_load_12 {ops:Array Oper} {rest:List Oper} {op:Oper} {a:Act} {w:World} {Q:Exit->Act->World->Prop} (hgd:op.guard=none) (x:Operand) (ho:op.op=.load 37 x) (b o:Nat) (hx:a.eval x=.pointer (some ⟨b,o,none⟩)) (F:Nat->Int) (hc:w.rangeAt b o (ints F 12))
 (h:wpList Tryz.prog ops Q rest (a.put op.dst (.agg (ints F 12).toArray)) w):wpList Tryz.prog ops Q (op :: rest) a w:=by
 refine wpList_load_mid hgd 37 x ho b o hx (ints F 12) _ hc Tryz.underlying37 rfl (by rw[ints_length];exact size39) h
theorem wpList_store_12 {ops:Array Oper} {rest:List Oper} {op:Oper} {a:Act} {w:World} {Q:Exit->Act->World->Prop} (hgd:op.guard=none) (x y:Operand) (ho:op.op=.store 37 x y) (b o:Nat) (F:Nat->Int) (hx:a.eval x=.pointer (some ⟨b,o,none⟩)) (hy:a.eval y=.agg (ints F 12).toArray) (ht:w.there b o 12)
 (h:wpList Tryz.prog ops Q rest (a.put op.dst undef) (w.setCells b o (ints F 12))):wpList Tryz.prog ops Q (op :: rest) a w:=by
 refine wpList_store_mid hgd 37 x y ho b o (ints F 12).toArray hx hy (by simpa[ints_length] using ht) (by simpa[ints_length] using size39) (all_oneCell_toArray (ints_one F 12)) ?_
 simpa using h
def Okh (R N S:Nat->Int):Prop:=∀ i,i<12->(0<=R i/\R i<=65535)/\(0<=N i/\N i<=65535)/\(0<=S i/\S i<=255)
def blC (z:Int):Nat:=if 0<=z/\z<12 then 0 else 1
def more (m:Int) (F:Nat->Int) (z:Int):Nat->Int:=if 0<=z/\z<12 then upd F z.toNat (min (F z.toNat+1) m) else F
def none0 (F:Nat->Int) (z:Int):Nat->Int:=if 0<=z/\z<12 then upd F z.toNat 0 else F
def much (k:Int) (F:Nat->Int) (z:Int):Bool:=if 0<=z/\z<12 then decide (F z.toNat ≥ k) else false
theorem nat_of (z:Int) (h:0<=z/\z<12):∃ n:Nat,n<12/\z=n:=⟨z.toNat,by omega,by omega⟩
theorem more_yes (m:Int) (F:Nat->Int) (n:Nat) (h:n<12):more m F n=upd F n (min (F n+1) m):=by
 unfold more;rw[if_pos (by omega),Int.toNat_natCast]
theorem none_yes (F:Nat->Int) (n:Nat) (h:n<12):none0 F n=upd F n 0:=by
 unfold none0;rw[if_pos (by omega),Int.toNat_natCast]
theorem much_yes (k:Int) (F:Nat->Int) (n:Nat) (h:n<12):much k F n=decide (F n ≥ k):=by
 unfold much;rw[if_pos (by omega),Int.toNat_natCast]
theorem blC_yes (n:Nat) (h:n<12):blC n=0:=by unfold blC;rw[if_pos (by omega)]
theorem Okh.more3 {R N S:Nat->Int} (h:Okh R N S) (z:Int):Okh R N (more 255 S z):=fun i hi=>by
 have hh:=h i hi
 refine⟨hh.1,hh.2.1,?_⟩
 unfold more
 split
 ·
  unfold upd
  split
  ·
   rename_i e;rw[<-e];omega
  ·
   exact hh.2.2
 ·
  exact hh.2.2
theorem Okh.none {R N S:Nat->Int} (h:Okh R N S) (z:Int):Okh (none0 R z) (none0 N z) S:=fun i hi=>by
 have hh:=h i hi
 unfold none0
 split
 ·
  unfold upd
  split
  ·
   exact⟨by omega,by omega,hh.2.2⟩
  ·
   exact hh
 ·
  exact hh
theorem Okh.noted {R N S:Nat->Int} (h:Okh R N S):Okh R R S:=fun i hi=>⟨(h i hi).1,(h i hi).1,(h i hi).2.2⟩
theorem block_yes (w:World) (n:Nat) (h1:n<12):Calls Tryz.prog 128 #[.int .i64 n] w fun e w'=>e=.returned (.bool true)/\w'=w:=by
 have h2:(n:Int)<12:=by omega
 go_enter Tryz.func128,Tryz.ntmps128
 go_wp2
 go_ret
 exact⟨rfl,rfl⟩
theorem block_no (w:World) (n:Int) (h:¬ (0<=n/\n<12)):Calls Tryz.prog 128 #[.int .i64 n] w fun e w'=>e=.returned (.bool false)/\w'=w:=by
 by_cases h0:0<=n
 ·
  have h1:¬ n<12:=by omega
  clear h
  go_enter Tryz.func128,Tryz.ntmps128
  go_wp2
  go_ret
  exact⟨rfl,rfl⟩
 ·
  clear h
  go_enter Tryz.func128,Tryz.ntmps128
  go_wp2
  go_ret
  exact⟨rfl,rfl⟩
def duB (R N:Nat->Int):Bool:=(List.range 12).any fun i=>decide (64<=R i - N i)
theorem duB_yes {R N:Nat->Int} {i:Nat} (hi:i<12) (h:64<=R i - N i):duB R N=true:=by
 unfold duB
 rw[List.any_eq_true]
 exact⟨i,List.mem_range.2 hi,decide_eq_true h⟩
theorem duB_no {R N:Nat->Int} (h:∀ j,j<12->¬ 64<=R j - N j):duB R N=false:=by
 unfold duB
 rw[List.any_eq_false]
 intro i hi
 simpa using h i (List.mem_range.1 hi)
theorem make12 (w:World):(Instr.makeSlice 22 (.int .i64 12) (.int .i64 12)).run Tryz.prog w=.ok (.slice (some ⟨w.heap.size,0,none⟩) 12 12) (w.alloc (.cells (ints (fun _=>0) 12).toArray 3)):=by kernel_rfl
theorem told_any (w:World) (F:Nat->Int):Calls Tryz.prog 86 #[.agg (ints F 12).toArray] w fun e w'=>e=.returned (.slice (some ⟨w.heap.size+1,0,none⟩) 12 12)/\IB w' (w.heap.size+1) 3 12 F/\Chg (fun _=>False) w w':=by
 have hm:=make12
 have HA:=hyd (IB.new w 37 12 F)
 have HG0:Hid (Chg (fun _=>False) w (w.alloc (.cells (ints F 12).toArray 37))):=(Chg.refl _ w).alloc _
 have es:(w.alloc (.cells (ints F 12).toArray 37)).heap.size=w.heap.size+1:=by simp
 have HK0:=hyd (IB.new (w.alloc (.cells (ints F 12).toArray 37)) 3 12 (fun _=>0))
 have HG1:Hid (Chg (fun _=>False) (w.alloc (.cells (ints F 12).toArray 37)) ((w.alloc (.cells (ints F 12).toArray 37)).alloc (.cells (ints (fun _=>0) 12).toArray 3))):=(Chg.refl _ _).alloc _
 rw[es] at HK0
 have HK:=hyd (HA.out.chg HG1.out (fun f=>f))
 clear HA
 go_enter Tryz.func86,Tryz.ntmps86
 go_wp2_with (refine wpList_copy_own rfl (.tmp 5) (.tmp 6) 22 22 rfl 3 Tryz.underlying22 size3 (w.heap.size+1) 0 12 12 ⟨w.heap.size,0,none⟩ 12 12 rfl rfl (ints (fun _=>0) 12).toArray 3 HK0.out (ints F 12) (by rw[ints_length];rfl) (fun j v hv=>by rw[addr_at,Nat.zero_add,(HK.out.cell j (by have:=(List.getElem?_eq_some_iff.1 hv).1;rw[ints_length] at this;omega)).1,<-hv,ints_at _ _ _ (by have:=(List.getElem?_eq_some_iff.1 hv).1;rw[ints_length] at this;omega)];rfl) (by simp[ints_length]) (ints_one F 12) ?_)
 go_ret
 have e1:(ints F 12 ++ List.drop (ints F 12).length (ints (fun _=>0) 12)).toArray=(ints F 12).toArray:=by
  rw[ints_length,List.drop_of_length_le (by simp[ints_length]),List.append_nil]
 rw[e1]
 exact⟨rfl,HK0.out.row F,(HG0.out.trans HG1.out).trans' (chg_row _ _ _) (fun i hi e=>by omega)⟩
theorem read_v (w:World) (p:Nat) (R N S:Nat->Int) (h:HB w p 170 R N S) (ok:Okh R N S) (z:Int):Calls Tryz.prog 141 #[.pointer (some ⟨p,0,none⟩),.int .i64 z] w fun e w'=>e=.returned (errV (blC z))/\HB w' p 170 (more 65535 R z) N S/\Chg (·=p) w w':=by
 by_cases hz:0<=z/\z<12
 ·
  obtain⟨n,hn,rfl⟩:=nat_of z hz
  rw[more_yes _ _ _ hn,blC_yes n hn]
  obtain⟨c,f⟩:=h.ca n hn
  have hb:=(ok n hn).1
  have hb1:=hb.1
  have hb2:=hb.2
  have hnz:(n:Int)<12:=by omega
  have HK:=hyd h
  have HN:=hyd hn
  clear h hz hb ok
  by_cases hm:R n+1<=65535
  ·
   rw[show min (R n+1) 65535=R n+1 by omega]
   generalize R n=u at *
   go_enter Tryz.func141,Tryz.ntmps141
   go_wp2_with (go_at_call 128;refine(block_yes _ _ hn).mono ?_;rintro e w1 ⟨rfl,rfl⟩)
   go_region
   go_wp2
   go_ret
   exact⟨rfl,HK.out.setA n HN.out _,((Chg.refl (·=p) _).drew).setCell (Or.inl rfl) _ _⟩
  ·
   rw[show min (R n+1) 65535=65535 by omega]
   generalize R n=u at *
   go_enter Tryz.func141,Tryz.ntmps141
   go_wp2_with (go_at_call 128;refine(block_yes _ _ hn).mono ?_;rintro e w1 ⟨rfl,rfl⟩)
   go_region
   go_wp2
   go_ret
   exact⟨rfl,HK.out.setA n HN.out _,((Chg.refl (·=p) _).drew).setCell (Or.inl rfl) _ _⟩
 ·
  have HE:Hid (more 65535 R z=R/\blC z=1):=⟨by unfold more;rw[if_neg hz],by unfold blC;rw[if_neg hz]⟩
  have HK:=hyd h
  clear h ok
  rw[HE.out.1,HE.out.2]
  go_enter Tryz.func141,Tryz.ntmps141
  go_wp2_with (go_at_call 128;refine(block_no _ _ hz).mono ?_;rintro e w1 ⟨rfl,rfl⟩)
  go_ret
  exact⟨rfl,HK.out,Chg.refl _ _⟩
theorem report_v (w:World) (p:Nat) (R N S:Nat->Int) (h:HB w p 170 R N S) (ok:Okh R N S) (z:Int):Calls Tryz.prog 91 #[.pointer (some ⟨p,0,none⟩),.int .i64 z] w fun e w'=>e=.returned (errV (blC z))/\HB w' p 170 R N (more 255 S z)/\Chg (·=p) w w':=by
 by_cases hz:0<=z/\z<12
 ·
  obtain⟨n,hn,rfl⟩:=nat_of z hz
  rw[more_yes _ _ _ hn,blC_yes n hn]
  obtain⟨c,f⟩:=h.cc n hn
  have hb:=(ok n hn).2.2
  have hb1:=hb.1
  have hb2:=hb.2
  have hnz:(n:Int)<12:=by omega
  have HK:=hyd h
  have HN:=hyd hn
  clear h hz hb ok
  by_cases hm:S n+1<=255
  ·
   rw[show min (S n+1) 255=S n+1 by omega]
   generalize S n=u at *
   go_enter Tryz.func91,Tryz.ntmps91
   go_wp2_with (go_at_call 128;refine(block_yes _ _ hn).mono ?_;rintro e w1 ⟨rfl,rfl⟩)
   go_region
   go_wp2
   go_ret
   exact⟨rfl,HK.out.setC n HN.out _,((Chg.refl (·=p) _).drew).setCell (Or.inl rfl) _ _⟩
  ·
   rw[show min (S n+1) 255=255 by omega]
   generalize S n=u at *
   go_enter Tryz.func91,Tryz.ntmps91
   go_wp2_with (go_at_call 128;refine(block_yes _ _ hn).mono ?_;rintro e w1 ⟨rfl,rfl⟩)
   go_region
   go_wp2
   go_ret
   exact⟨rfl,HK.out.setC n HN.out _,((Chg.refl (·=p) _).drew).setCell (Or.inl rfl) _ _⟩
 ·
  have HE:Hid (more 255 S z=S/\blC z=1):=⟨by unfold more;rw[if_neg hz],by unfold blC;rw[if_neg hz]⟩
  have HK:=hyd h
  clear h ok
  rw[HE.out.1,HE.out.2]
  go_enter Tryz.func91,Tryz.ntmps91
  go_wp2_with (go_at_call 128;refine(block_no _ _ hz).mono ?_;rintro e w1 ⟨rfl,rfl⟩)
  go_ret
  exact⟨rfl,HK.out,Chg.refl _ _⟩
theorem erased_v (w:World) (p:Nat) (R N S:Nat->Int) (h:HB w p 170 R N S) (_:Okh R N S) (z:Int):Calls Tryz.prog 183 #[.pointer (some ⟨p,0,none⟩),.int .i64 z] w fun e w'=>e=.returned (errV (blC z))/\HB w' p 170 (none0 R z) (none0 N z) S/\Chg (·=p) w w':=by
 by_cases hz:0<=z/\z<12
 ·
  obtain⟨n,hn,rfl⟩:=nat_of z hz
  rw[none_yes _ _ hn,none_yes _ _ hn,blC_yes n hn]
  obtain⟨c,f⟩:=h.ca n hn
  have HK1:=hyd (h.setA n hn 0)
  obtain⟨c',f'⟩:=HK1.out.cb n hn
  have hnz:(n:Int)<12:=by omega
  have HN:=hyd hn
  clear h hz
  go_enter Tryz.func183,Tryz.ntmps183
  go_wp2_with (go_at_call 128;refine(block_yes _ _ hn).mono ?_;rintro e w1 ⟨rfl,rfl⟩)
  go_region
  go_wp2
  go_ret
  exact⟨rfl,HK1.out.setB n HN.out _,(((Chg.refl (·=p) _).drew).setCell (Or.inl rfl) _ _).setCell (Or.inl rfl) _ _⟩
 ·
  have HE:Hid (none0 R z=R/\none0 N z=N/\blC z=1):=⟨by unfold none0;rw[if_neg hz],by unfold none0;rw[if_neg hz],by unfold blC;rw[if_neg hz]⟩
  have HK:=hyd h
  clear h
  rw[HE.out.1,HE.out.2.1,HE.out.2.2]
  go_enter Tryz.func183,Tryz.ntmps183
  go_wp2_with (go_at_call 128;refine(block_no _ _ hz).mono ?_;rintro e w1 ⟨rfl,rfl⟩)
  go_ret
  exact⟨rfl,HK.out,Chg.refl _ _⟩
theorem tired_v (w:World) (p:Nat) (R N S:Nat->Int) (h:HB w p 170 R N S) (_:Okh R N S) (z:Int):Calls Tryz.prog 108 #[.pointer (some ⟨p,0,none⟩),.int .i64 z] w fun e w'=>e=.returned (.tuple #[.bool (much 512 R z),errV (blC z)])/\w'=w:=by
 by_cases hz:0<=z/\z<12
 ·
  obtain⟨n,hn,rfl⟩:=nat_of z hz
  rw[much_yes _ _ _ hn,blC_yes n hn]
  obtain⟨c,-⟩:=h.ca n hn
  have hnz:(n:Int)<12:=by omega
  clear h hz
  generalize R n=u at *
  go_enter Tryz.func108,Tryz.ntmps108
  go_wp2_with (go_at_call 128;refine(block_yes _ _ hn).mono ?_;rintro e w1 ⟨rfl,rfl⟩)
  go_ret2
  exact⟨rfl,rfl⟩
 ·
  have HE:Hid (much 512 R z=false/\blC z=1):=⟨by unfold much;rw[if_neg hz],by unfold blC;rw[if_neg hz]⟩
  clear h
  rw[HE.out.1,HE.out.2]
  go_enter Tryz.func108,Tryz.ntmps108
  go_wp2_with (go_at_call 128;refine(block_no _ _ hz).mono ?_;rintro e w1 ⟨rfl,rfl⟩)
  go_ret2
  exact⟨rfl,rfl⟩
theorem weak_v (w:World) (p:Nat) (R N S:Nat->Int) (h:HB w p 170 R N S) (_:Okh R N S) (z:Int):Calls Tryz.prog 147 #[.pointer (some ⟨p,0,none⟩),.int .i64 z] w fun e w'=>e=.returned (.tuple #[.bool (much 3 S z),errV (blC z)])/\w'=w:=by
 by_cases hz:0<=z/\z<12
 ·
  obtain⟨n,hn,rfl⟩:=nat_of z hz
  rw[much_yes _ _ _ hn,blC_yes n hn]
  obtain⟨c,-⟩:=h.cc n hn
  have hnz:(n:Int)<12:=by omega
  clear h hz
  generalize S n=u at *
  go_enter Tryz.func147,Tryz.ntmps147
  go_wp2_with (go_at_call 128;refine(block_yes _ _ hn).mono ?_;rintro e w1 ⟨rfl,rfl⟩)
  go_ret2
  exact⟨rfl,rfl⟩
 ·
  have HE:Hid (much 3 S z=false/\blC z=1):=⟨by unfold much;rw[if_neg hz],by unfold blC;rw[if_neg hz]⟩
  clear h
  rw[HE.out.1,HE.out.2]
  go_enter Tryz.func147,Tryz.ntmps147
  go_wp2_with (go_at_call 128;refine(block_no _ _ hz).mono ?_;rintro e w1 ⟨rfl,rfl⟩)
  go_ret2
  exact⟨rfl,rfl⟩
theorem noted_v (w:World) (p:Nat) (R N S:Nat->Int) (h:HB w p 170 R N S) (_:Okh R N S):Calls Tryz.prog 122 #[.pointer (some ⟨p,0,none⟩)] w fun e w'=>e=.returned (.tuple #[])/\HB w' p 170 R R S/\Chg (·=p) w w':=by
 have HK:=hyd h
 clear h
 go_enter Tryz.func122,Tryz.ntmps122
 go_wp2_with (first | (refine wpList_load_12 rfl (.tmp 5) rfl p 0 rfl R HK.out.partA ?_) | (refine wpList_store_12 rfl (.tmp 8) (.tmp 6) rfl p 12 R rfl rfl (IB.there HK.out 12 12 (by omega)) ?_))
 go_end0
 exact⟨rfl,HK.out.rowB R,Chg.setCells (S:=(·=p)) (Or.inl rfl) _ _ (Chg.refl _ _)⟩
theorem due_v (w:World) (p:Nat) (R N S:Nat->Int) (h:HB w p 170 R N S) (ok:Okh R N S):Calls Tryz.prog 77 #[.pointer (some ⟨p,0,none⟩)] w fun e w'=>e=.returned (.bool (duB R N))/\∃ m,w'=w.drewN m:=by
 have HK:=hyd h
 have HO:=hyd ok
 clear h ok
 go_enter Tryz.func77,Tryz.ntmps77
 go_wp2_with fail
 go_loopg [4] 12 (fun kx s4 wr=>∃ (i m:Nat),s4=.int .i64 i/\i<=12/\12 - i<=kx/\Hid (∀ j,j<i->¬ 64<=R j - N j)/\Hid (wr=w.drewN m))
 case atStart=>exact⟨0,0,rfl,by omega,by omega,fun j hj=>absurd hj (Nat.not_lt_zero _),rfl⟩
 case round=>
 obtain⟨i,m,rfl,hin,hkx,HI,HM⟩:=hrel
 obtain rfl:=HM.out
 clear HM
 by_cases hlt:i<12
 ·
  have hltz:(i:Int)<12:=by omega
  obtain⟨c,-⟩:=HK.out.ca i hlt
  obtain⟨c',-⟩:=HK.out.cb i hlt
  have hb:=HO.out i hlt
  have hb1:=hb.1.1
  have hb2:=hb.1.2
  have hb3:=hb.2.1.1
  have hb4:=hb.2.1.2
  clear hb
  by_cases hd:64<=R i - N i
  ·
   have HD:=hyd (duB_yes hlt hd)
   generalize R i=u at *
   generalize N i=v at *
   go_wp2_with fail
   go_quiet (fail)
   go_wp2
   go_ret
   exact⟨by rw[HD.out];rfl,_,World.drewN_drewN _ _ _⟩
  ·
   have HI':Hid (∀ j,j<i+1->¬ 64<=R j - N j):=fun j hj=>by
    by_cases e:j=i
    ·
     rw[e];exact hd
    ·
     exact HI.out j (by omega)
   generalize R i=u at *
   generalize N i=v at *
   go_wp2_with fail
   go_quiet (fail)
   go_wp2
   go_roundg (12 - (i+1))
   case measure=>omega
   case rel=>exact⟨i+1,_,by simp,by omega,Nat.le_refl _,HI',rfl⟩
 ·
  have hltz:¬ (i:Int)<12:=by omega
  obtain rfl:i=12:=by omega
  have HD:=hyd (duB_no HI.out)
  go_wp2
  go_ret
  exact⟨by rw[HD.out];rfl,_,rfl⟩
theorem reads_v (w:World) (p:Nat) (R N S:Nat->Int) (h:HB w p 170 R N S) (_:Okh R N S):Calls Tryz.prog 54 #[.pointer (some ⟨p,0,none⟩)] w fun e w'=>e=.returned (.slice (some ⟨w.heap.size+1,0,none⟩) 12 12)/\IB w' (w.heap.size+1) 3 12 R/\Chg (fun _=>False) w w':=by
 have HK:=hyd h
 clear h
 go_enter Tryz.func54,Tryz.ntmps54
 go_wp2_with (first | (refine wpList_load_12 rfl (.tmp 5) rfl p 0 rfl R HK.out.partA ?_) | (go_at_call 86;refine(told_any w R).mono ?_;rintro e w1 ⟨rfl,K1,G1⟩))
 go_ret
 exact⟨rfl,K1,G1⟩
theorem scores_v (w:World) (p:Nat) (R N S:Nat->Int) (h:HB w p 170 R N S) (_:Okh R N S):Calls Tryz.prog 55 #[.pointer (some ⟨p,0,none⟩)] w fun e w'=>e=.returned (.slice (some ⟨w.heap.size+1,0,none⟩) 12 12)/\IB w' (w.heap.size+1) 3 12 S/\Chg (fun _=>False) w w':=by
 have HK:=hyd h
 clear h
 go_enter Tryz.func55,Tryz.ntmps55
 go_wp2_with (first | (refine wpList_load_12 rfl (.tmp 5) rfl p 24 rfl S HK.out.partC ?_) | (go_at_call 86;refine(told_any w S).mono ?_;rintro e w1 ⟨rfl,K1,G1⟩))
 go_ret
 exact⟨rfl,K1,G1⟩
def okL (n:Nat) (V:Nat->Int):Bool:=decide (n=12) && (List.range 12).all fun i=>decide (0<=V i)
theorem okL_iff (n:Nat) (V:Nat->Int):okL n V=true<->n=12/\∀ i,i<12->0<=V i:=by
 unfold okL
 simp[List.all_eq_true]
theorem okL_not {n:Nat} {V:Nat->Int} (h:¬ (n=12/\∀ i,i<12->0<=V i)):okL n V=false:=by
 cases e:okL n V with
 | false=>rfl
 | true=>exact absurd ((okL_iff n V).1 e) h
theorem counts_v (w:World) (a:Option Addr) (n c:Nat) (V:Nat->Int) (hl:Lies w a n V):Calls Tryz.prog 210 #[.slice a n c] w fun e w'=>e=.returned (.bool (okL n V))/\w'=w:=by
 by_cases hn:n=12
 ·
  subst hn
  rcases hl with hl | ⟨g,o,rfl,hg,hl⟩
  ·
   omega
  have HL:=hyd hl
  clear hl hg
  go_enter Tryz.func210,Tryz.ntmps210
  go_wp2_with fail
  go_loopg [10] 12 (fun kx s10 wr=>∃ i:Nat,s10=.int .i64 i/\i<=12/\12 - i<=kx/\Hid (∀ j,j<i->0<=V j)/\wr=w)
  case atStart=>exact⟨0,rfl,by omega,by omega,fun j hj=>absurd hj (Nat.not_lt_zero _),rfl⟩
  case round=>
  obtain⟨i,rfl,hin,hkx,HI,rfl⟩:=hrel
  by_cases hlt:i<12
  ·
   have hltz:(i:Int)<12:=by omega
   have x0:=HL.out i hlt
   by_cases hv:V i<0
   ·
    have HD:=hyd (okL_not (n:=12) (V:=V) fun h=>by have:=h.2 i hlt;omega)
    generalize V i=u at *
    go_wp2
    go_ret
    exact⟨by rw[HD.out];rfl,rfl⟩
   ·
    have HI':Hid (∀ j,j<i+1->0<=V j):=fun j hj=>by
     by_cases e:j=i
     ·
      rw[e];omega
     ·
      exact HI.out j (by omega)
    generalize V i=u at *
    go_wp2
    go_roundg (12 - (i+1))
    case measure=>omega
    case rel=>exact⟨i+1,by simp,by omega,Nat.le_refl _,HI',rfl⟩
  ·
   have hltz:¬ (i:Int)<12:=by omega
   obtain rfl:i=12:=by omega
   have HD:=hyd ((okL_iff 12 V).2 ⟨rfl,HI.out⟩)
   clear HI HL
   go_wp2
   go_ret
   exact⟨by rw[HD.out];rfl,rfl⟩
 ·
  have HD:=hyd (okL_not (V:=V) (fun h=>hn h.1))
  have h2:((n:Int) != 12)=true:=by simp only[bne_iff_ne];omega
  clear hn hl
  go_enter Tryz.func210,Tryz.ntmps210
  go_wp2
  go_ret
  exact⟨by rw[HD.out];rfl,rfl⟩
def lim (m:Int) (V:Nat->Int):Nat->Int:=fun i=>min (V i) m
def pre (k:Nat) (F:Nat->Int):Nat->Int:=fun j=>if j<k then F j else 0
theorem pre_upd (k:Nat) (F:Nat->Int):upd (pre k F) k (F k)=pre (k+1) F:=by
 funext j
 unfold upd pre
 by_cases e:j=k
 ·
  subst e;rw[if_pos rfl,if_pos (by omega)]
 ·
  rw[if_neg e]
  by_cases h:j<k
  ·
   rw[if_pos h,if_pos (by omega)]
  ·
   rw[if_neg h,if_neg (by omega)]
theorem pre_updz (k:Nat) (F:Nat->Int) (z:Int) (h:z=F k):upd (pre k F) k z=pre (k+1) F:=by rw[h,pre_upd]
theorem zero48 (w:World):(zeroValue 170).run Tryz.prog w=.ok (.agg (ints (cel (fun _=>0) (fun _=>0) (fun _=>0)) 36).toArray) w:=by kernel_rfl
set_option maxHeartbeats 4000000 in
theorem new_yes (w:World) (pr ps:Option Addr) (nr ns cr cs:Nat) (V U:Nat->Int) (hr:Lies w pr nr V) (hs:Lies w ps ns U) (h1:okL nr V=true) (h2:okL ns U=true):Calls Tryz.prog 175 #[.slice pr nr cr,.slice ps ns cs] w fun e w'=>e=.returned (.tuple #[.pointer (some ⟨w.heap.size,0,none⟩),.nilIface])/\HB w' w.heap.size 170 (lim 65535 V) (lim 65535 V) (lim 255 U)/\Chg (fun _=>False) w w':=by
 have c1:=counts_v w pr nr cr V hr
 have c2:=counts_v w ps ns cs U hs
 obtain⟨rfl,hV⟩:=(okL_iff _ _).1 h1
 obtain⟨rfl,hU⟩:=(okL_iff _ _).1 h2
 rw[h1] at c1
 rw[h2] at c2
 rcases hr with hr | ⟨gr,or_,rfl,hgr,hr⟩
 ·
  omega
 rcases hs with hs | ⟨gs,os,rfl,hgs,hs⟩
 ·
  omega
 have HR:=hyd hr
 have HS:=hyd hs
 have HGL:=hyd (And.intro hgr hgs)
 have HN:=hyd (And.intro hV hU)
 clear hr hs hgr hgs hV hU h1 h2
 go_enter Tryz.func175,Tryz.ntmps175
 go_wp2_with fail
 refine c1.mono ?_
 rintro e w1 ⟨rfl,rfl⟩
 go_wp2_with fail
 refine c2.mono ?_
 rintro e w1 ⟨rfl,rfl⟩
 clear c1 c2
 go_wp2_with (refine wpList_alloc_row rfl 170 rfl w1.heap.size rfl zero48 ?_)
 intro w2 K1 G1 S1
 have HK1:=hyd (show HB w2 w1.heap.size 170 (fun _=>0) (fun _=>0) (fun _=>0) from K1)
 have HG1:=hyd G1
 clear K1 G1 S1
 generalize HB0:w1.heap.size=b at *
 have HB0:=hyd HB0
 go_wp2_with fail
 go_loopg [18] 12 (fun kx s18 wr=>∃ i:Nat,s18=.int .i64 i/\i<=12/\12 - i<=kx/\Hid (HB wr b 170 (pre i (lim 65535 V)) (fun _=>0) (pre i (lim 255 U)))/\Hid (Chg (fun _=>False) w1 wr))
 case atStart=>exact⟨0,rfl,by omega,by omega,HK1,HG1⟩
 case round=>
 obtain⟨i,rfl,hin,hkx,HK,HG⟩:=hrel
 clear HK1 HG1
 by_cases hlt:i<12
 ·
  have hltz:(i:Int)<12:=by omega
  have x0:=(HG.out.cell (by rw[HB0.out];exact HGL.out.1) (fun f=>f) _).trans (HR.out i hlt)
  have y0:=HK.out.ca i hlt
  obtain⟨y0,z0⟩:=y0
  have KA:∀ z,z=min (V i) 65535->HB (wr.setCell ⟨b,i,none⟩ (.int .i64 z)).drew b 170 (pre (i+1) (lim 65535 V)) (fun _=>0) (pre i (lim 255 U)):=fun z e=>by
   have:=(HK.out.setA i hlt z).drew
   rw[e,show min (V i) 65535=lim 65535 V i from rfl,pre_upd] at this
   rw[e];exact this
  have GA:∀ z:Int,Chg (fun _=>False) w1 (wr.setCell ⟨b,i,none⟩ (.int .i64 z)).drew:=fun z=>(HG.out.setCell (Or.inr (by rw[HB0.out];exact Nat.le_refl _)) _ _).drew
  have HKA:=hyd KA
  have HGA:=hyd GA
  clear KA GA HK HG
  generalize HVV:V i=u at *
  have HVV:=hyd HVV
  by_cases h1:u<=65535
  ·
   have HK5:=hyd (HKA.out u (by omega))
   have HG5:=hyd (HGA.out u)
   clear HKA HGA
   go_wp2_with fail
   go_region
   obtain⟨w5,HW5⟩:∃ w5,Hid (w5=(wr.setCell ⟨b,i,none⟩ (.int .i64 u)).drew):=⟨_,rfl⟩
   rw[<-HW5.out] at HK5 HG5
   go_wp2_with fail
   rw[<-HW5.out]
   clear HW5 x0 y0 z0
   have x1:=(HG5.out.cell (by rw[HB0.out];exact HGL.out.2) (fun f=>f) _).trans (HS.out i hlt)
   obtain⟨y1,z1⟩:=HK5.out.cc i hlt
   have HL2:Hid (lim 255 U i=min (U i) 255):=rfl
   generalize U i=v at *
   by_cases h2:v<=255
   ·
    go_region
    go_wp2
    go_roundg (12 - (i+1))
    case measure=>omega
    case rel=>
     refine⟨i+1,by simp,by omega,Nat.le_refl _,?_,?_⟩
     ·
      have k:=HK5.out.drew.setC i hlt v
      rw[pre_updz i (lim 255 U) v (by rw[HL2.out];omega)] at k
      exact k
     ·
      exact HG5.out.drew.setCell (Or.inr (by rw[HB0.out];exact Nat.le_refl _)) _ _
   ·
    go_region
    go_wp2
    go_roundg (12 - (i+1))
    case measure=>omega
    case rel=>
     refine⟨i+1,by simp,by omega,Nat.le_refl _,?_,?_⟩
     ·
      have k:=HK5.out.drew.setC i hlt 255
      rw[pre_updz i (lim 255 U) 255 (by rw[HL2.out];omega)] at k
      exact k
     ·
      exact HG5.out.drew.setCell (Or.inr (by rw[HB0.out];exact Nat.le_refl _)) _ _
  ·
   have HK5:=hyd (HKA.out 65535 (by omega))
   have HG5:=hyd (HGA.out 65535)
   clear HKA HGA
   go_wp2_with fail
   go_region
   obtain⟨w5,HW5⟩:∃ w5,Hid (w5=(wr.setCell ⟨b,i,none⟩ (.int .i64 65535)).drew):=⟨_,rfl⟩
   rw[<-HW5.out] at HK5 HG5
   go_wp2_with fail
   rw[<-HW5.out]
   clear HW5 x0 y0 z0
   have x1:=(HG5.out.cell (by rw[HB0.out];exact HGL.out.2) (fun f=>f) _).trans (HS.out i hlt)
   obtain⟨y1,z1⟩:=HK5.out.cc i hlt
   have HL2:Hid (lim 255 U i=min (U i) 255):=rfl
   generalize U i=v at *
   by_cases h2:v<=255
   ·
    go_region
    go_wp2
    go_roundg (12 - (i+1))
    case measure=>omega
    case rel=>
     refine⟨i+1,by simp,by omega,Nat.le_refl _,?_,?_⟩
     ·
      have k:=HK5.out.drew.setC i hlt v
      rw[pre_updz i (lim 255 U) v (by rw[HL2.out];omega)] at k
      exact k
     ·
      exact HG5.out.drew.setCell (Or.inr (by rw[HB0.out];exact Nat.le_refl _)) _ _
   ·
    go_region
    go_wp2
    go_roundg (12 - (i+1))
    case measure=>omega
    case rel=>
     refine⟨i+1,by simp,by omega,Nat.le_refl _,?_,?_⟩
     ·
      have k:=HK5.out.drew.setC i hlt 255
      rw[pre_updz i (lim 255 U) 255 (by rw[HL2.out];omega)] at k
      exact k
     ·
      exact HG5.out.drew.setCell (Or.inr (by rw[HB0.out];exact Nat.le_refl _)) _ _
 ·
  have hltz:¬ (i:Int)<12:=by omega
  obtain rfl:i=12:=by omega
  have HK2:=hyd (HK.out.congr (A':=lim 65535 V) (B':=fun _=>0) (C':=lim 255 U) (fun j hj=>by unfold pre;rw[if_pos hj]) (fun _ _=>rfl) (fun j hj=>by unfold pre;rw[if_pos hj]))
  have HOK:Hid (Okh (lim 65535 V) (fun _=>0) (lim 255 U)):=fun j hj=>by
   have a1:=HN.out.1 j hj
   have a2:=HN.out.2 j hj
   simp only[lim]
   omega
  clear HK
  go_wp2_with fail
  refine(noted_v wr b _ _ _ HK2.out HOK.out).mono ?_
  rintro e w3 ⟨rfl,K3,G3⟩
  have HG3:=hyd (HG.out.trans' G3 (fun k hk e=>by have:=HB0.out;omega))
  have HK3:=hyd K3
  clear K3 G3 HG HK2 HOK HR HS
  go_wp2
  go_ret2
  rw[HB0.out]
  exact⟨rfl,HK3.out,HG3.out⟩
end Go.Proofs.YtbhbilcieodbhaaGreat.Health
/-
  Worlds that differ in one block; bytes in memory; a new row of bytes. No condition: lemmas. Slices of bytes that a call itself has made: what append does to them, whatever is appended (nothing, a nil slice, bytes that came in). Conditions: the bytes lie there; there is room (at most 2^47 bytes). Worlds that differ in some blocks alone; slices of bytes that can be read, or written, in them. No condition: lemmas. Arrays of bytes in memory. No condition: lemmas. Slices of bytes that a call itself has made, also such whose room ends ahead of the block's (a slice of three indices). No condition: lemmas on worlds. Numbers as bytes, the lowest first. No condition: lemmas on numbers and lists. Lists and cells: small lemmas. No condition. wire's cut, Get and Apart, walked. Conditions: the bytes can be read. wire's Put, and the document's Put and Get. Conditions: none beside that the number is a uint64, and that the bytes can be read. The rows of the document's examples hold (patinalaw03.shown answers true). No condition. Bytes that lie somewhere, their parts as numbers; bytes.Equal; an append within the room of a block. Conditions: the bytes can be read. Checkpoints: their 62 cells, a block
-/
namespace Go.Proofs.YtbhbilcieodbhaaGreat.Point
set_option maxRecDepth 100000
open Go.RowKit
set_option maxHeartbeats 1000000 in
theorem put_long (w:World) (v n:Nat) (_hv:v<18446744073709551616) (h1:1<=n) (h8:n<=8) (hr:¬ v<256 ^ n) :
 Calls Tryz.prog 192 #[.int .u64 (v:Int),.int .i64 (n:Int)] w fun e w'=>e=.returned (.tuple #[.slice none 0 0,.iface 56 (.int .i64 2)])/\w'=w:=by
 have h1':¬ (n:Int)<1:=by omega
 have h8':¬ (8:Int)<(n:Int):=by omega
 have hsh:(0:Int)<=8*(n:Int):=by omega
 have hb:((v:Int) / 2 ^ (8*n) != 0)=true:=by
  rw[shr_nat,bne_iff_ne]
  have:0<v / 256 ^ n:=Nat.div_pos (by omega) (Nat.pow_pos (by decide))
  omega
 clear hr
 go_enter Tryz.func192,Tryz.ntmps192
 go_wp2
 go_ret2
 exact⟨rfl,rfl⟩
theorem neq_long_nil (w:World):(binOp .neq 33 (.iface 56 (.int .i64 2)) .nilIface).run Tryz.prog w=.ok (.bool true) w:=by kernel_rfl
structure Ckp where
 F:Nat->Int
 N:Int
 B:Nat->Bool
 C:Int
 R:Nat->Int
 S:Nat->Int
def ckL (c:Ckp):List Value:=ints c.F 24 ++ ([i6 c.N] ++ (bools c.B 12 ++ ([i6 c.C] ++ (ints c.R 12 ++ ints c.S 12))))
def ckA (c:Ckp):Array Value:=(ckL c).toArray
theorem ckL_length (c:Ckp):(ckL c).length=62:=by simp[ckL,ints_length,bools_length]
theorem ckA_size (c:Ckp):(ckA c).size=62:=by simp[ckA,ckL_length]
theorem ckL_one (c:Ckp):∀ v ∈ ckL c,v.oneCell'=true:=by
 intro v hv
 unfold ckL at hv
 simp only[List.mem_append,List.mem_singleton] at hv
 rcases hv with h | h | h | h | h | h
 ·
  exact ints_one _ _ v h
 ·
  subst h;rfl
 ·
  exact bools_one _ _ v h
 ·
  subst h;rfl
 ·
  exact ints_one _ _ v h
 ·
  exact ints_one _ _ v h
theorem ckA_one (c:Ckp):(ckA c).all (·.oneCell')=true:=all_oneCell_toArray (ckL_one c)
theorem ckA_congr {c d:Ckp} (hF:∀ i,i<24->c.F i=d.F i) (hN:c.N=d.N) (hB:∀ i,i<12->c.B i=d.B i) (hC:c.C=d.C) (hR:∀ i,i<12->c.R i=d.R i) (hS:∀ i,i<12->c.S i=d.S i):ckA c=ckA d:=by
 unfold ckA ckL
 rw[ints_congr hF,hN,bools_congr hB,hC,ints_congr hR,ints_congr hS]
def Ck (w:World) (b:Nat) (c:Ckp):Prop:=w.heap[b]?=some (.cells (ckA c) 142)
theorem Ck.new (w:World) (c:Ckp):Ck (w.alloc (.cells (ckA c) 142)) w.heap.size c:=by
 show (w.heap.push _)[w.heap.size]?=_
 simp
theorem Ck.lt {w:World} {b:Nat} {c:Ckp} (h:Ck w b c):b<w.heap.size:=(Array.getElem?_eq_some_iff.1 (show w.heap[b]?=some _ from h)).1
theorem Ck.chg {S:Nat->Prop} {w w':World} {b:Nat} {c:Ckp} (h:Ck w b c) (hc:Chg S w w') (hb:¬ S b):Ck w' b c:=(hc.block b h.lt hb).trans h
theorem Ck.alloc {w:World} {b:Nat} {c:Ckp} (h:Ck w b c) (x:Obj):Ck (w.alloc x) b c:=(Below.heap_alloc _ _ _ h.lt).trans h
theorem Ck.frozen {w:World} {b:Nat} {c:Ckp} (h:Ck w b c) (i:Nat):w.frozen? ⟨b,i,none⟩=false:=by
 have h':w.heap[b]?=some _:=h
 simp[World.frozen?,h']
theorem Ck.cell {w:World} {b:Nat} {c:Ckp} (h:Ck w b c) (i:Nat) {v:Value} (hv:(ckL c)[i]?=some v):w.cell? ⟨b,i,none⟩=some v:=by
 have h':w.heap[b]?=some _:=h
 simp only[World.cell?,h',ckA]
 simpa using hv
theorem ckL_F (c:Ckp) (i:Nat) (hi:i<24):(ckL c)[i]?=some (i6 (c.F i)):=by
 rw[ckL,List.getElem?_append_left (by rw[ints_length];omega),ints_at _ _ _ hi]
theorem ckL_N (c:Ckp):(ckL c)[24]?=some (i6 c.N):=by
 rw[ckL,List.getElem?_append_right (by rw[ints_length];omega),ints_length];rfl
theorem ckL_B (c:Ckp) (i:Nat) (hi:i<12):(ckL c)[25+i]?=some (.bool (c.B i)):=by
 rw[ckL,List.getElem?_append_right (by rw[ints_length];omega),ints_length,List.getElem?_append_right (by simp;omega),show 25+i - 24 - [i6 c.N].length=i by simp;omega,List.getElem?_append_left (by rw[bools_length];omega),bools_at _ _ _ hi]
theorem ckL_C (c:Ckp):(ckL c)[37]?=some (i6 c.C):=by
 rw[ckL,List.getElem?_append_right (by rw[ints_length];omega),ints_length,List.getElem?_append_right (by simp),List.getElem?_append_right (by simp[bools_length]),bools_length];rfl
theorem ckL_tail (c:Ckp) (i:Nat):(ckL c)[38+i]?=(ints c.R 12 ++ ints c.S 12)[i]?:=by
 rw[ckL,List.getElem?_append_right (by rw[ints_length];omega),ints_length,List.getElem?_append_right (by simp;omega),List.getElem?_append_right (by simp[bools_length];omega),bools_length,List.getElem?_append_right (by simp;omega)]
 congr 1
 simp;omega
theorem ckL_R (c:Ckp) (i:Nat) (hi:i<12):(ckL c)[38+i]?=some (i6 (c.R i)):=by
 rw[ckL_tail,List.getElem?_append_left (by rw[ints_length];omega),ints_at _ _ _ hi]
theorem ckL_S (c:Ckp) (i:Nat) (hi:i<12):(ckL c)[50+i]?=some (i6 (c.S i)):=by
 rw[show 50+i=38+(12+i) by omega,ckL_tail,List.getElem?_append_right (by rw[ints_length];omega),ints_length,show 12+i - 12=i by omega,ints_at _ _ _ hi]
theorem Ck.F {w:World} {b:Nat} {c:Ckp} (h:Ck w b c) (i:Nat) (hi:i<24):w.cell? ⟨b,i,none⟩=some (.int .i64 (c.F i)):=h.cell i (ckL_F c i hi)
theorem Ck.N {w:World} {b:Nat} {c:Ckp} (h:Ck w b c):w.cell? ⟨b,24,none⟩=some (.int .i64 c.N):=h.cell 24 (ckL_N c)
theorem Ck.B {w:World} {b:Nat} {c:Ckp} (h:Ck w b c) (i:Nat) (hi:i<12):w.cell? ⟨b,25+i,none⟩=some (.bool (c.B i)):=h.cell (25+i) (ckL_B c i hi)
theorem Ck.C {w:World} {b:Nat} {c:Ckp} (h:Ck w b c):w.cell? ⟨b,37,none⟩=some (.int .i64 c.C):=h.cell 37 (ckL_C c)
theorem Ck.R {w:World} {b:Nat} {c:Ckp} (h:Ck w b c) (i:Nat) (hi:i<12):w.cell? ⟨b,38+i,none⟩=some (.int .i64 (c.R i)):=h.cell (38+i) (ckL_R c i hi)
theorem Ck.S {w:World} {b:Nat} {c:Ckp} (h:Ck w b c) (i:Nat) (hi:i<12):w.cell? ⟨b,50+i,none⟩=some (.int .i64 (c.S i)):=h.cell (50+i) (ckL_S c i hi)
theorem Ck.set {w:World} {b:Nat} {c d:Ckp} (h:Ck w b c) (i:Nat) (v:Value) (e:(ckL c).set i v=ckL d):Ck (w.setCell ⟨b,i,none⟩ v) b d:=by
 have h':w.heap[b]?=some _:=h
 show (w.setCell ⟨b,i,none⟩ v).heap[b]?=_
 have e2:(ckA c).setIfInBounds i v=ckA d:=by
  apply Array.ext'
  simp[ckA,e]
 simp[World.setCell,Array.getElem?_modify,h',e2]
theorem Ck.setF {w:World} {b:Nat} {c:Ckp} (h:Ck w b c) (i:Nat) (hi:i<24) (z:Int):Ck (w.setCell ⟨b,i,none⟩ (.int .i64 z)) b { c with F:=upd c.F i z }:=
 h.set i _ (by show (ckL c).set i (i6 z)=_;rw[ckL,List.set_append_left _ _ (by rw[ints_length];omega),ints_set];rfl)
theorem Ck.setB {w:World} {b:Nat} {c:Ckp} (h:Ck w b c) (i:Nat) (hi:i<12) (z:Bool):Ck (w.setCell ⟨b,25+i,none⟩ (.bool z)) b { c with B:=upd c.B i z }:=
 h.set (25+i) _ (by rw[ckL,List.set_append_right _ _ (by rw[ints_length];omega),ints_length,List.set_append_right _ _ (by simp;omega),show 25+i - 24 - [i6 c.N].length=i by simp;omega,List.set_append_left _ _ (by rw[bools_length];omega),bools_set];rfl)
theorem Ck.part {w:World} {b:Nat} {c:Ckp} (h:Ck w b c) (o:Nat) (cs:List Value) (hs:∀ j v,cs[j]?=some v->(ckL c)[o+j]?=some v):w.rangeAt b o cs:=fun j v hv=>h.cell (o+j) (hs j v hv)
theorem Ck.partF {w:World} {b:Nat} {c:Ckp} (h:Ck w b c):w.rangeAt b 0 (ints c.F 24):=h.part 0 _ fun j v hv=>by
 have hj:j<24:=by have:=(List.getElem?_eq_some_iff.1 hv).1;rwa [ints_length] at this
 rw[Nat.zero_add,ckL_F c j hj,<-ints_at c.F 24 j hj,hv]
theorem Ck.partB {w:World} {b:Nat} {c:Ckp} (h:Ck w b c):w.rangeAt b 25 (bools c.B 12):=h.part 25 _ fun j v hv=>by
 have hj:j<12:=by have:=(List.getElem?_eq_some_iff.1 hv).1;rwa [bools_length] at this
 rw[ckL_B c j hj,<-bools_at c.B 12 j hj,hv]
theorem Ck.partR {w:World} {b:Nat} {c:Ckp} (h:Ck w b c):w.rangeAt b 38 (ints c.R 12):=h.part 38 _ fun j v hv=>by
 have hj:j<12:=by have:=(List.getElem?_eq_some_iff.1 hv).1;rwa [ints_length] at this
 rw[ckL_R c j hj,<-ints_at c.R 12 j hj,hv]
theorem Ck.partS {w:World} {b:Nat} {c:Ckp} (h:Ck w b c):w.rangeAt b 50 (ints c.S 12):=h.part 50 _ fun j v hv=>by
 have hj:j<12:=by have:=(List.getElem?_eq_some_iff.1 hv).1;rwa [ints_length] at this
 rw[ckL_S c j hj,<-ints_at c.S 12 j hj,hv]
theorem size26:(Tryz.prog.info? 142).map (·.size)=some 62:=by kernel_rfl
theorem size22:(Tryz.prog.info? 116).map (·.size)=some 24:=by kernel_rfl
theorem size23:(Tryz.prog.info? 140).map (·.size)=some 12:=by kernel_rfl
theorem size24:(Tryz.prog.info? 37).map (·.size)=some 12:=by kernel_rfl
theorem wpList_load_ck {ops:Array Oper} {rest:List Oper} {o:Oper} {a:Act} {w:World} {Q:Exit->Act->World->Prop} (hgd:o.guard=none) (x:Operand) (ho:o.op=.load 142 x)
 (g:Nat) (hx:a.eval x=.pointer (some ⟨g,0,none⟩)) {c:Ckp} (hg:Ck w g c)
 (h:wpList Tryz.prog ops Q rest (a.put o.dst (.agg (ckA c))) w):wpList Tryz.prog ops Q (o :: rest) a w:=
 wpList_load_row hgd 142 x ho g hx 142 _ _ _ hg Tryz.underlying142 rfl (by rw[ckA_size];exact size26) h
def ck0:Ckp:=⟨fun _=>0,0,fun _=>false,0,fun _=>0,fun _=>0⟩
theorem wpList_store_ck {ops:Array Oper} {rest:List Oper} {o:Oper} {a:Act} {w:World} {Q:Exit->Act->World->Prop} (hgd:o.guard=none) (x y:Operand) (ho:o.op=.store 142 x y)
 (g:Nat) (hx:a.eval x=.pointer (some ⟨g,0,none⟩)) {c:Ckp} (hy:a.eval y=.agg (ckA c)) {c':Ckp} (hg:Ck w g c')
 (h:∀ w',Ck w' g c->Chg (·=g) w w'->wpList Tryz.prog ops Q rest (a.put o.dst undef) w'):wpList Tryz.prog ops Q (o :: rest) a w:=
 wpList_store_row hgd 142 x y ho g _ hx hy 142 _ hg (by rw[ckA_size];exact size26) (by rw[ckA_size,ckA_size]) (ckA_one c) (h _ (setRow_heap w g _ _ 142 _ hg) ⟨rfl,rfl,rfl,by simp,fun k _ hk=>setRow_other _ _ _ _ hk⟩)
theorem results_ck {fn:Func} {q u:Tmp} (h:fn.results=#[.cell q 142,.tmp u]) (tmps:Array Value) {w:World} {g:Nat} {c:Ckp} (hp:tmps.getD q undef=.pointer (some ⟨g,0,none⟩)) (hT:Ck w g c) :
 (results fn tmps).run Tryz.prog w=.ok (.tuple #[.agg (ckA c),tmps.getD u undef]) w:=by
 rw[results_cell_tmp h,hp]
 simp[asAddr,run_loadVar_row w g 142 142 _ _ _ hT Tryz.underlying142 rfl (by rw[ckA_size];exact size26)]
theorem results_ck1 {fn:Func} {q:Tmp} (h:fn.results=#[.cell q 142]) (tmps:Array Value) {w:World} {g:Nat} {c:Ckp} (hp:tmps.getD q undef=.pointer (some ⟨g,0,none⟩)) (hT:Ck w g c) :
 (results fn tmps).run Tryz.prog w=.ok (.agg (ckA c)) w:=
 results_cell_row h tmps w g 142 _ _ _ hp hT Tryz.underlying142 rfl (by rw[ckA_size];exact size26)
theorem build26 (w:World):(Instr.build 142 #[]).run Tryz.prog w=.ok (.agg (ckA ck0)) w:=by kernel_rfl
theorem zero26 (w:World):(zeroValue 142).run Tryz.prog w=.ok (.agg (ckA ck0)) w:=by kernel_rfl
theorem wpList_alloc_ck {ops:Array Oper} {rest:List Oper} {o:Oper} {a:Act} {w:World} {Q:Exit->Act->World->Prop} (hgd:o.guard=none) (ho:o.op=.alloc 142)
 (h:wpList Tryz.prog ops Q rest (a.put o.dst (.pointer (some ⟨w.heap.size,0,none⟩))) (w.alloc (.cells (ckA ck0) 142))):wpList Tryz.prog ops Q (o :: rest) a w:=by
 refine wpList_plain hgd fun K hK=>?_
 have hz:=zero26
 unfold Oper.wp
 simp[execOp,ho,Instr.alloc,hz,newVar,Value.cells,newRow]
 exact hK _ _ h
theorem wpList_build_ck {ops:Array Oper} {rest:List Oper} {o:Oper} {a:Act} {w:World} {Q:Exit->Act->World->Prop} (hgd:o.guard=none) (ho:o.op=.build 142 #[])
 (h:wpList Tryz.prog ops Q rest (a.put o.dst (.agg (ckA ck0))) w):wpList Tryz.prog ops Q (o :: rest) a w:=by
 refine wpList_plain hgd fun K hK=>?_
 have hz:=build26
 unfold Oper.wp
 simp[execOp,ho,hz]
 exact hK _ _ h
def bitsN (f:Nat->Bool):Nat->Nat
 | 0=>0
 | n+1=>bitsN f n+(if f n then 2 ^ n else 0)
theorem bitsN_lt (f:Nat->Bool):∀ n,bitsN f n<2 ^ n
 | 0=>by simp[bitsN]
 | n+1=>by
  have:=bitsN_lt f n
  rw[bitsN,Nat.pow_succ]
  split <;> omega
theorem bitsN_12 (f:Nat->Bool):bitsN f 12<4096:=bitsN_lt f 12
theorem or_pow (a k:Nat) (h:a<2 ^ k):a ||| 2 ^ k=a+2 ^ k:=by
 have:=Nat.two_pow_add_eq_or_of_lt h 1
 rw[Nat.mul_one] at this
 rw[Nat.or_comm,<-this,Nat.add_comm]
theorem index23 (f:Nat->Bool) (i:Nat) (hi:i<12) (w:World):(Instr.index 140 (.agg (bools f 12).toArray) (.int .i64 i)).run Tryz.prog w=.ok (.bool (f i)) w:=by
 have h:=bools_at f 12 i hi
 generalize bools f 12=L at *
 simp[Instr.index,run_underlying Tryz.underlying140,asIntOf,go_sem,hi,h]
theorem index22 (f:Nat->Int) (i:Nat) (hi:i<24) (w:World):(Instr.index 116 (.agg (ints f 24).toArray) (.int .i64 i)).run Tryz.prog w=.ok (.int .i64 (f i)) w:=by
 have h:=ints_at f 24 i hi
 generalize ints f 24=L at *
 simp[Instr.index,run_underlying Tryz.underlying116,asIntOf,go_sem,hi,h,i6]
theorem index24 (f:Nat->Int) (i:Nat) (hi:i<12) (w:World):(Instr.index 37 (.agg (ints f 12).toArray) (.int .i64 i)).run Tryz.prog w=.ok (.int .i64 (f i)) w:=by
 have h:=ints_at f 12 i hi
 generalize ints f 12=L at *
 simp[Instr.index,run_underlying Tryz.underlying37,asIntOf,go_sem,hi,h,i6]
def Bo (w:World) (b:Nat) (f:Nat->Bool):Prop:=w.heap[b]?=some (.cells (bools f 12).toArray 140)
theorem Bo.new (w:World) (f:Nat->Bool):Bo (w.alloc (.cells (bools f 12).toArray 140)) w.heap.size f:=by
 show (w.heap.push _)[w.heap.size]?=_
 simp
theorem Bo.lt {w:World} {b:Nat} {f:Nat->Bool} (h:Bo w b f):b<w.heap.size:=(Array.getElem?_eq_some_iff.1 (show w.heap[b]?=some _ from h)).1
theorem Bo.chg {S:Nat->Prop} {w w':World} {b:Nat} {f:Nat->Bool} (h:Bo w b f) (hc:Chg S w w') (hb:¬ S b):Bo w' b f:=(hc.block b h.lt hb).trans h
theorem Bo.cell {w:World} {b:Nat} {f:Nat->Bool} (h:Bo w b f) (i:Nat) (hi:i<12):w.cell? ⟨b,i,none⟩=some (.bool (f i))/\w.frozen? ⟨b,i,none⟩=false:=by
 have h':w.heap[b]?=some _:=h
 refine⟨?_,by simp[World.frozen?,h']⟩
 simp only[World.cell?,h']
 simpa using bools_at f 12 i hi
theorem bools_size (f:Nat->Bool):((bools f 12).toArray).size=12:=by simp[bools_length]
theorem wpList_load_bo {ops:Array Oper} {rest:List Oper} {o:Oper} {a:Act} {w:World} {Q:Exit->Act->World->Prop} (hgd:o.guard=none) (x:Operand) (ho:o.op=.load 140 x)
 (g:Nat) (hx:a.eval x=.pointer (some ⟨g,0,none⟩)) {f:Nat->Bool} (hg:Bo w g f)
 (h:wpList Tryz.prog ops Q rest (a.put o.dst (.agg (bools f 12).toArray)) w):wpList Tryz.prog ops Q (o :: rest) a w:=
 wpList_load_row hgd 140 x ho g hx 140 _ _ _ hg Tryz.underlying140 rfl (by rw[bools_size];exact size23) h
set_option maxHeartbeats 2000000 in
theorem bits_any (w:World) (f:Nat->Bool) :
 Calls Tryz.prog 163 #[.agg (bools f 12).toArray] w fun e w'=>e=.returned (.int .u64 (bitsN f 12:Nat))/\Chg (fun _=>False) w w':=by
 have HB:=hyd (Bo.new w f)
 have HG:Hid (Chg (fun _=>False) w (w.alloc (.cells (bools f 12).toArray 140))):=hyd ((Chg.refl _ w).alloc _)
 go_enter Tryz.func163,Tryz.ntmps163
 go_wp2_with (refine wpList_load_bo rfl (.tmp 1) rfl w.heap.size rfl HB.out ?_)
 go_loopw [3,7] (fun v t wr=>∃ k:Nat,k<=12/\t=.int .i64 k/\v=.int .u64 (bitsN f k:Nat)/\Chg (fun _=>False) w wr) (fun _ t _=>12 - (intOf t).toNat)
 case atStart=>exact⟨0,by decide,rfl,rfl,HG.out⟩
 case round=>
  obtain⟨k,hk,rfl,rfl,hG⟩:=hrel
  by_cases hlt:k<12
  ·
   have hlt':(k:Int)<12:=by omega
   have hkb:(0:Int)<=(k:Int):=by omega
   have hix:=index23 f k hlt
   have hb:=bitsN_lt f k
   have hp:2 ^ k<=2 ^ 11:=Nat.pow_le_pow_right (by decide) (by omega)
   cases hf:f k with
   | false=>
    rw[hf] at hix
    have HE:Hid (bitsN f (k+1)=bitsN f k):=hyd (by rw[bitsN,hf];rfl)
    go_wp2
    exact⟨⟨k+1,by omega,by go_num,by rw[HE.out],hG⟩,by simp[intOf];omega⟩
   | true=>
    rw[hf] at hix
    have HE:Hid (bitsN f (k+1)=bitsN f k ||| 2 ^ k):=hyd (by rw[bitsN,hf,or_pow _ _ hb];rfl)
    have HO:Hid (bits .or .u64 (bitsN f k:Int) (IntKind.u64.wrap (2 ^ k))=(bitsN f k ||| 2 ^ k:Nat)):=by
     have e:(2 ^ k:Int)=((2 ^ k:Nat):Int):=by push_cast;rfl
     rw[e,wrap_u64_small _ (by omega),u64_or_nat _ _ (by omega) (by omega)]
     rfl
    go_wp2
    exact⟨⟨k+1,by omega,by go_num,by rw[HO.out,HE.out],hG⟩,by simp[intOf];omega⟩
  ·
   have e:k=12:=by omega
   subst e
   go_wp2
   go_ret
   exact⟨rfl,hG⟩
def cat:List (Nat × Nat)->List Nat
 | []=>[]
 | p :: r=>bts p.1 p.2 ++ cat r
def tot:List (Nat × Nat)->Nat
 | []=>0
 | p :: r=>p.2+tot r
def Fits (ps:List (Nat × Nat)):Prop:=∀ p ∈ ps,p.1<256 ^ p.2
theorem cat_length:∀ ps,(cat ps).length=tot ps
 | []=>rfl
 | p :: r=>by rw[cat,tot,List.length_append,bts_length,cat_length r]
theorem cat_append:∀ ps qs,cat (ps ++ qs)=cat ps ++ cat qs
 | [],_=>rfl
 | p :: r,qs=>by rw[List.cons_append,cat,cat,cat_append r,List.append_assoc]
theorem tot_append:∀ ps qs,tot (ps ++ qs)=tot ps+tot qs
 | [],_=>by simp[tot]
 | p :: r,qs=>by rw[List.cons_append,tot,tot,tot_append r,Nat.add_assoc]
theorem cat_snoc (ps:List (Nat × Nat)) (v z:Nat):cat (ps ++ [(v,z)])=cat ps ++ bts v z:=by rw[cat_append];simp[cat]
theorem tot_snoc (ps:List (Nat × Nat)) (v z:Nat):tot (ps ++ [(v,z)])=tot ps+z:=by rw[tot_append];simp[tot]
theorem fits_snoc (ps:List (Nat × Nat)) (v z:Nat):Fits (ps ++ [(v,z)])<->Fits ps/\v<256 ^ z:=by
 constructor
 ·
  intro h
  exact⟨fun p hp=>h p (by simp[hp]),h (v,z) (by simp)⟩
 ·
  rintro ⟨h1,h2⟩ p hp
  rcases List.mem_append.1 hp with h | h
  ·
   exact h1 p h
  ·
   rw[List.mem_singleton] at h;subst h;exact h2
def rowZ (ps:List (Nat × Nat)):List Nat:=cat ps ++ List.replicate (174 - tot ps) 0
theorem rowZ_length (ps:List (Nat × Nat)) (h:tot ps<=174):(rowZ ps).length=174:=by simp[rowZ,cat_length];omega
theorem rowZ_lay (ps:List (Nat × Nat)) (v z:Nat) (h:tot ps+z<=174):lay (rowZ ps) (tot ps) (bts v z)=rowZ (ps ++ [(v,z)]):=by
 unfold lay rowZ
 rw[bts_length,cat_snoc,tot_snoc,List.take_append_of_le_length (by rw[cat_length];omega),List.take_of_length_le (by rw[cat_length];omega),List.drop_append,List.drop_of_length_le (by rw[cat_length];omega),List.nil_append,cat_length,List.drop_replicate,List.append_assoc]
 congr 3
 omega
def Wr (w:World) (b g n:Nat) (e:Value):Prop:=
 w.heap[b]?=some (.cells #[.slice (some ⟨g,0,none⟩) n 174,e] 210)
theorem Wr.lt {w:World} {b g n:Nat} {e:Value} (h:Wr w b g n e):b<w.heap.size:=(Array.getElem?_eq_some_iff.1 (show w.heap[b]?=some _ from h)).1
theorem Wr.other {w w':World} {b g n:Nat} {e:Value} (h:Wr w b g n e) (k:w'.heap[b]?=w.heap[b]?):Wr w' b g n e:=k.trans h
theorem Wr.chg {S:Nat->Prop} {w w':World} {b g n:Nat} {e:Value} (h:Wr w b g n e) (hc:Chg S w w') (hb:¬ S b):Wr w' b g n e:=(hc.block b h.lt hb).trans h
theorem Wr.cells {w:World} {b g n:Nat} {e:Value} (h:Wr w b g n e):w.cell? ⟨b,0,none⟩=some (.slice (some ⟨g,0,none⟩) n 174)/\w.cell? ⟨b,1,none⟩=some e/\w.frozen? ⟨b,0,none⟩=false/\w.frozen? ⟨b,1,none⟩=false:=by
 have h':w.heap[b]?=some _:=h
 refine⟨?_,?_,?_,?_⟩ <;> simp[World.cell?,World.frozen?,h']
theorem Wr.store {w:World} {b g n:Nat} {e:Value} (h:Wr w b g n e) (m:Nat):Wr (w.setCell ⟨b,0,none⟩ (.slice (some ⟨g,0,none⟩) m 174)) b g m e:=by
 have h':w.heap[b]?=some _:=h
 show (w.setCell ⟨b,0,none⟩ _).heap[b]?=_
 simp[World.setCell,Array.getElem?_modify,h']
theorem Wr.err {w:World} {b g n:Nat} {e:Value} (h:Wr w b g n e) (e':Value):Wr (w.setCell ⟨b,1,none⟩ e') b g n e':=by
 have h':w.heap[b]?=some _:=h
 show (w.setCell ⟨b,1,none⟩ _).heap[b]?=_
 simp[World.setCell,Array.getElem?_modify,h']
def Wst (w:World) (b g:Nat) (ps:List (Nat × Nat)):Prop:=
 b≠g/\((Fits ps/\Wr w b g (tot ps) .nilIface/\Arr w g 5 (rowZ ps))\/(¬ Fits ps/\∃ n,Wr w b g n (.iface 56 (.int .i64 2))))
theorem Wst.lt {w:World} {b g:Nat} {ps:List (Nat × Nat)} (h:Wst w b g ps):b<w.heap.size:=by
 rcases h.2 with ⟨_,h,_⟩ | ⟨_,n,h⟩ <;> exact h.lt
theorem Wst.chg {S:Nat->Prop} {w w':World} {b g:Nat} {ps:List (Nat × Nat)} (h:Wst w b g ps) (hc:Chg S w w') (hb:¬ S b) (hg:¬ S g):Wst w' b g ps:=by
 refine⟨h.1,?_⟩
 rcases h.2 with ⟨h1,h2,h3⟩ | ⟨h1,n,h2⟩
 ·
  exact Or.inl ⟨h1,h2.chg hc hb,h3.chg hc hg⟩
 ·
  exact Or.inr ⟨h1,n,h2.chg hc hb⟩
set_option maxHeartbeats 2000000 in
theorem lay_any (w:World) (b g:Nat) (ps:List (Nat × Nat)) (hW:Wst w b g ps) (v z:Nat) (hv:v<18446744073709551616) (hz1:1<=z) (hz8:z<=8) (hn:tot ps+z<=174) :
 Calls Tryz.prog 162 #[.pointer (some ⟨b,0,none⟩),.int .u64 (v:Int),.int .i64 (z:Int)] w fun e w'=>e=.returned (.tuple #[])/\Wst w' b g (ps ++ [(v,z)])/\Chg (fun k=>k=b\/k=g) w w':=by
 obtain⟨hbg,hW⟩:=hW
 have q1:=neq_nil_nil
 have q2:=neq_long_nil
 rcases hW with ⟨hf,hR,hA⟩ | ⟨hf,n,hR⟩
 ·
  by_cases hr:v<256 ^ z
  ·
   have HW:=hyd hR
   have HA:=hyd hA
   have hcall:=put_room w v z hv hz1 hz8 hr
   have HF:Hid (Fits (ps ++ [(v,z)])):=hyd ((fits_snoc _ _ _).2 ⟨hf,hr⟩)
   have HL:=hyd (rowZ_length ps (by omega))
   obtain⟨i0,i1,-,-⟩:=hR.cells
   clear hR hA hr hf
   go_enter Tryz.func162,Tryz.ntmps162
   go_wp2_with fail
   refine hcall.mono ?_
   rintro e w1 ⟨g1,rfl,hg1,A1,G1⟩
   clear hcall i0 i1
   have W1:=HW.out.chg G1 (fun e=>e)
   have B1:=HA.out.chg G1 (fun e=>e)
   obtain⟨k0,k1,-,-⟩:=W1.cells
   have hsrc:Hid (∀ j,j<(bts v z).length->w1.cell? ⟨g1,0+j,none⟩=some (.int .u8 ((bts v z).getD j 0:Nat))):=hyd (fun j hj=>by
    rw[bts_length] at hj
    rw[Nat.zero_add,A1.cell j (by rw[bts_length];omega),bts_getD _ _ _ hj,bts_getD _ _ _ (by omega)])
   have HB1:=hyd B1
   have W2:Wr (w1.setRow g (bcells (lay (rowZ ps) (tot ps) (bts v z)))) b g (tot ps) .nilIface:=W1.other (setRow_other _ _ _ _ hbg)
   have A2:Arr (w1.setRow g (bcells (lay (rowZ ps) (tot ps) (bts v z)))) g 5 (rowZ (ps ++ [(v,z)])):=by
    have:=B1.row (lay (rowZ ps) (tot ps) (bts v z))
    rwa [rowZ_lay ps v z hn] at this ⊢
   have G2:Chg (fun k=>k=b\/k=g) w (w1.setRow g (bcells (lay (rowZ ps) (tot ps) (bts v z)))):=(G1.mono (fun _ _ f=>f.elim)).setRow (Or.inl (Or.inr rfl)) _
   obtain⟨j0,-,f0,-⟩:=W2.cells
   have HW2:=hyd W2
   have HA2:=hyd A2
   have HG2:=hyd G2
   have HT:=hyd (tot_snoc ps v z)
   clear W1 B1 A1 G1 W2 A2 G2
   go_wp2_with (at_builtin;refine wpList_append_arr rfl (.tmp 29) (.tmp 30) rfl g (tot ps) 174 g1 0 z z rfl rfl HB1.out (bts v z) (bts_length v z) hsrc.out hn (by rw[HL.out];exact hn) ?_)
   go_end0
   refine⟨rfl,⟨hbg,Or.inl ⟨HF.out,?_,HA2.out.setOther hbg _ _⟩⟩,HG2.out.setCell (Or.inl (Or.inl rfl)) _ _⟩
   rw[HT.out];exact HW2.out.store _
  ·
   have HW:=hyd hR
   have hcall:=put_long w v z hv hz1 hz8 hr
   have HF:Hid (¬ Fits (ps ++ [(v,z)])):=hyd (fun h=>hr ((fits_snoc _ _ _).1 h).2)
   obtain⟨i0,i1,i2,i3⟩:=hR.cells
   clear hR hA hr hf
   go_enter Tryz.func162,Tryz.ntmps162
   go_wp2_with fail
   refine hcall.mono ?_
   rintro e w1 ⟨rfl,rfl⟩
   clear hcall
   go_wp2
   refine bodyPost_ret (results_none rfl _ _ _) rfl ?_
   exact⟨rfl,⟨hbg,Or.inr ⟨HF.out,_,HW.out.err _⟩⟩,(Chg.refl _ _).setCell (Or.inl (Or.inl rfl)) _ _⟩
 ·
  have HW:=hyd hR
  have HF:Hid (¬ Fits (ps ++ [(v,z)])):=hyd (fun h=>hf ((fits_snoc _ _ _).1 h).1)
  obtain⟨i0,i1,i2,i3⟩:=hR.cells
  clear hR hf
  go_enter Tryz.func162,Tryz.ntmps162
  go_wp2
  refine bodyPost_ret (results_none rfl _ _ _) rfl ?_
  exact⟨rfl,⟨hbg,Or.inr ⟨HF.out,_,HW.out⟩⟩,Chg.refl _ _⟩
def u6 (z:Int):Nat:=(IntKind.u64.wrap z).toNat
theorem u6_eq (z:Int):((u6 z:Nat):Int)=IntKind.u64.wrap z:=by
 unfold u6
 rw[IntKind.wrap_u64];omega
theorem u6_lt (z:Int):u6 z<18446744073709551616:=by
 unfold u6
 rw[IntKind.wrap_u64];omega
theorem lay_z (w:World) (b g:Nat) (ps:List (Nat × Nat)) (hW:Wst w b g ps) (z:Int) (s:Nat) (hz1:1<=s) (hz8:s<=8) (hn:tot ps+s<=174) :
 Calls Tryz.prog 162 #[.pointer (some ⟨b,0,none⟩),.int .u64 (IntKind.u64.wrap z),.int .i64 (s:Int)] w fun e w'=>e=.returned (.tuple #[])/\Wst w' b g (ps ++ [(u6 z,s)])/\Chg (fun k=>k=b\/k=g) w w':=by
 have:=lay_any w b g ps hW (u6 z) s (u6_lt z) hz1 hz8 hn
 rwa [u6_eq] at this
def fl (f:Nat->Int) (n s:Nat):List (Nat × Nat):=(List.range n).map fun i=>(u6 (f i),s)
theorem fl_succ (f:Nat->Int) (n s:Nat):fl f (n+1) s=fl f n s ++ [(u6 (f n),s)]:=by simp[fl,List.range_succ]
theorem tot_fl (f:Nat->Int) (s:Nat):∀ n,tot (fl f n s)=n*s
 | 0=>by simp[fl,tot]
 | n+1=>by rw[fl_succ,tot_snoc,tot_fl f s n,Nat.add_mul,Nat.one_mul]
def nums (c:Ckp):Nat->List (Nat × Nat)
 | 0=>[]
 | 1=>fl c.F 24 5
 | 2=>fl c.F 24 5 ++ [(u6 c.N,5)]
 | 3=>fl c.F 24 5 ++ [(u6 c.N,5)] ++ [(bitsN c.B 12,2)]
 | 4=>fl c.F 24 5 ++ [(u6 c.N,5)] ++ [(bitsN c.B 12,2)] ++ [(u6 c.C,1)]
 | 5=>fl c.F 24 5 ++ [(u6 c.N,5)] ++ [(bitsN c.B 12,2)] ++ [(u6 c.C,1)] ++ fl c.R 12 2
 | _=>fl c.F 24 5 ++ [(u6 c.N,5)] ++ [(bitsN c.B 12,2)] ++ [(u6 c.C,1)] ++ fl c.R 12 2 ++ fl c.S 12 1
theorem tot_nums (c:Ckp):tot (nums c 1)=120/\tot (nums c 2)=125/\tot (nums c 3)=127/\tot (nums c 4)=128/\tot (nums c 5)=152/\tot (nums c 6)=164:=by
 refine⟨?_,?_,?_,?_,?_,?_⟩ <;> simp[nums,tot_append,tot_fl,tot]
set_option maxHeartbeats 4000000 in
theorem layC_any (w:World) (b g:Nat) (c:Ckp) (hW:Wst w b g []) (hg:g<w.heap.size) :
 Calls Tryz.prog 130 #[.pointer (some ⟨b,0,none⟩),.agg (ckA c)] w fun e w'=>e=.returned (.tuple #[])/\Wst w' b g (nums c 6)/\Chg (fun k=>k=b\/k=g) w w':=by
 have hb:=hW.lt
 have hbs:¬ (w.heap.size=b\/w.heap.size=g):=by omega
 have HK:=hyd (Ck.new w c)
 have HG:Hid (Chg (fun k=>k=b\/k=g) w (w.alloc (.cells (ckA c) 142))):=hyd ((Chg.refl _ w).alloc _)
 have HW:Hid (Wst (w.alloc (.cells (ckA c) 142)) b g []):=hyd (hW.chg (S:=fun _=>False) ((Chg.refl _ w).alloc _) (fun e=>e) (fun e=>e))
 have r1:=HK.out.partF
 obtain⟨t1,t2,t3,t4,t5,t6⟩:=tot_nums c
 have HT:=hyd (And.intro t1 (And.intro t2 (And.intro t3 (And.intro t4 (And.intro t5 t6)))))
 have S22:Hid ((Tryz.prog.info? 116).map (·.size)=some (ints c.F 24).length):=by rw[ints_length];exact size22
 have S23:Hid ((Tryz.prog.info? 140).map (·.size)=some (bools c.B 12).length):=by rw[bools_length];exact size23
 have S24:Hid ((Tryz.prog.info? 37).map (·.size)=some (ints c.R 12).length):=by rw[ints_length];exact size24
 have S25:Hid ((Tryz.prog.info? 37).map (·.size)=some (ints c.S 12).length):=by rw[ints_length];exact size24
 clear hW t1 t2 t3 t4 t5 t6
 go_enter Tryz.func130,Tryz.ntmps130
 go_wp2_with (refine wpList_load_mid rfl 116 (.tmp 10) rfl w.heap.size 0 rfl _ _ r1 Tryz.underlying116 rfl S22.out ?_)
 clear r1
 go_loopw [12] (fun t wr=>∃ k:Nat,k<=24/\t=.int .i64 k/\Wst wr b g (fl c.F k 5)/\Ck wr w.heap.size c/\Chg (fun k=>k=b\/k=g) w wr) (fun t _=>24 - (intOf t).toNat)
 case atStart=>exact⟨0,by decide,rfl,HW.out,HK.out,HG.out⟩
 case round=>
  clear HW HK HG
  obtain⟨k,hk,rfl,a1,a2,a3⟩:=hrel
  by_cases hlt:k<24
  ·
   have hlt':(k:Int)<24:=by omega
   have hkb:(0:Int)<=(k:Int):=by omega
   have hix:=index22 c.F k hlt
   have hcall:=lay_z wr b g _ a1 (c.F k) 5 (by decide) (by decide) (by rw[tot_fl];omega)
   have HK:=hyd a2
   have HG:=hyd a3
   clear a1 a2 a3
   go_wp2_with fail
   refine hcall.mono ?_
   rintro e w2 ⟨rfl,W2,G2⟩
   have HW2:=hyd W2
   have HK2:=hyd (HK.out.chg G2 hbs)
   have HG2:=hyd (HG.out.trans G2)
   clear hcall W2 G2 HK HG
   go_wp2
   exact⟨⟨k+1,by omega,by go_num,by rw[fl_succ];exact HW2.out,HK2.out,HG2.out⟩,by simp[intOf];omega⟩
  ·
   have e:k=24:=by omega
   subst e
   have hcall:=lay_z wr b g _ a1 c.N 5 (by decide) (by decide) (by rw[tot_fl];omega)
   have k1:=a2.N
   have HK:=hyd a2
   have HG:=hyd a3
   clear a1 a2 a3
   go_wp2_with fail
   refine hcall.mono ?_
   rintro e w2 ⟨rfl,W2,G2⟩
   have K2:=HK.out.chg G2 hbs
   have HG2:=hyd (HG.out.trans G2)
   have r2:=K2.partB
   have HW2:=hyd W2
   have HK2:=hyd K2
   have hcall:=bits_any w2 c.B
   clear W2 G2 HK HG K2 k1
   go_wp2_with (refine wpList_load_mid rfl 140 (.tmp 26) rfl w.heap.size 25 rfl _ _ r2 Tryz.underlying140 rfl S23.out ?_)
   refine hcall.mono ?_
   rintro e w3 ⟨rfl,G3⟩
   have W3:=HW2.out.chg G3 (fun e=>e) (fun e=>e)
   have HK3:=hyd (HK2.out.chg G3 (fun e=>e))
   have HG3:=hyd (HG2.out.trans (G3.mono (fun _ _ f=>f.elim)))
   have hcall:=lay_any w3 b g _ W3 (bitsN c.B 12) 2 (by have:=bitsN_12 c.B;omega) (by decide) (by decide) (by rw[tot_snoc,tot_fl];omega)
   clear W3 G3 HK2 HG2 HW2 r2
   go_wp2_with fail
   refine hcall.mono ?_
   rintro e w4 ⟨rfl,W4,G4⟩
   have K4:=HK3.out.chg G4 hbs
   have HG4:=hyd (HG3.out.trans G4)
   have k1:=K4.C
   have hcall:=lay_z w4 b g _ W4 c.C 1 (by decide) (by decide) (by rw[tot_snoc,tot_snoc,tot_fl];omega)
   have HK4:=hyd K4
   clear W4 G4 HK3 HG3 K4
   go_wp2_with fail
   refine hcall.mono ?_
   rintro e w5 ⟨rfl,W5,G5⟩
   have K5:=HK4.out.chg G5 hbs
   have HG5:=hyd (HG4.out.trans G5)
   have r3:=K5.partR
   have HK5:=hyd K5
   have HW5:Hid (Wst w5 b g (nums c 4)):=hyd W5
   clear W5 G5 HK4 HG4 K5 hcall k1
   go_wp2_with (refine wpList_load_mid rfl 37 (.tmp 35) rfl w.heap.size 38 rfl _ _ r3 Tryz.underlying37 rfl S24.out ?_)
   clear r3
   go_loopw [37] (fun t wr=>∃ k:Nat,k<=12/\t=.int .i64 k/\Wst wr b g (nums c 4 ++ fl c.R k 2)/\Ck wr w.heap.size c/\Chg (fun k=>k=b\/k=g) w wr) (fun t _=>12 - (intOf t).toNat)
   case atStart=>exact⟨0,by decide,rfl,by simpa[fl] using HW5.out,HK5.out,HG5.out⟩
   case round=>
    clear HW5 HK5 HG5
    obtain⟨k,hk,rfl,a1,a2,a3⟩:=hrel
    by_cases hlt:k<12
    ·
     have hlt':(k:Int)<12:=by omega
     have hkb:(0:Int)<=(k:Int):=by omega
     have hix:=index24 c.R k hlt
     have hcall:=lay_z _ b g _ a1 (c.R k) 2 (by decide) (by decide) (by rw[tot_append,tot_fl,HT.out.2.2.2.1];omega)
     have HK:=hyd a2
     have HG:=hyd a3
     clear a1 a2 a3
     go_wp2_with fail
     refine hcall.mono ?_
     rintro e w2 ⟨rfl,W2,G2⟩
     have HW2:=hyd W2
     have HK2:=hyd (HK.out.chg G2 hbs)
     have HG2:=hyd (HG.out.trans G2)
     clear hcall W2 G2 HK HG
     go_wp2
     exact⟨⟨k+1,by omega,by go_num,by rw[fl_succ,<-List.append_assoc];exact HW2.out,HK2.out,HG2.out⟩,by simp[intOf];omega⟩
    ·
     have e:k=12:=by omega
     subst e
     have r4:=a2.partS
     have HK5:=hyd a2
     have HG5:=hyd a3
     have HW5:=hyd a1
     clear a1 a2 a3
     go_wp2_with (refine wpList_load_mid rfl 37 (.tmp 45) rfl w.heap.size 50 rfl _ _ r4 Tryz.underlying37 rfl S25.out ?_)
     clear r4
     go_loopw [47] (fun t wr=>∃ k:Nat,k<=12/\t=.int .i64 k/\Wst wr b g (nums c 5 ++ fl c.S k 1)/\Ck wr w.heap.size c/\Chg (fun k=>k=b\/k=g) w wr) (fun t _=>12 - (intOf t).toNat)
     case atStart=>exact⟨0,by decide,rfl,by rw[show fl c.S 0 1=[] from rfl,List.append_nil];exact HW5.out,HK5.out,HG5.out⟩
     case round=>
      clear HW5 HK5 HG5
      obtain⟨k,hk,rfl,a1,a2,a3⟩:=hrel
      by_cases hlt:k<12
      ·
       have hlt':(k:Int)<12:=by omega
       have hkb:(0:Int)<=(k:Int):=by omega
       have hix:=index24 c.S k hlt
       have hcall:=lay_z _ b g _ a1 (c.S k) 1 (by decide) (by decide) (by rw[tot_append,tot_fl,HT.out.2.2.2.2.1];omega)
       have HK:=hyd a2
       have HG:=hyd a3
       clear a1 a2 a3
       go_wp2_with fail
       refine hcall.mono ?_
       rintro e w2 ⟨rfl,W2,G2⟩
       have HW2:=hyd W2
       have HK2:=hyd (HK.out.chg G2 hbs)
       have HG2:=hyd (HG.out.trans G2)
       clear hcall W2 G2 HK HG
       go_wp2
       exact⟨⟨k+1,by omega,by go_num,by rw[fl_succ,<-List.append_assoc];exact HW2.out,HK2.out,HG2.out⟩,by simp[intOf];omega⟩
      ·
       have e:k=12:=by omega
       subst e
       have HG5:=hyd a3
       have HW5:=hyd a1
       clear a1 a2 a3
       go_wp2
       go_end0
       exact⟨rfl,HW5.out,HG5.out⟩
def Okc (c:Ckp):Prop:=c.C<96/\Fits (nums c 6)
def wrL (c:Ckp):List Nat:=rowZ (nums c 6)
theorem wrL_length (c:Ckp):(wrL c).length=174:=rowZ_length _ (by rw[(tot_nums c).2.2.2.2.2];decide)
def wst0 (w:World) (c:Ckp):World:=((w.alloc (.cells (ckA c) 142)).alloc (.cells (bcells z174) 5)).alloc (.cells #[.slice (some ⟨w.heap.size+1,0,none⟩) 0 174,.nilIface] 210)
theorem wst0_is (w:World) (c:Ckp):Wst (wst0 w c) (w.heap.size+1+1) (w.heap.size+1) []/\Chg (fun _=>False) w (wst0 w c)/\w.heap.size+1<(wst0 w c).heap.size:=by
 have A0:=Arr.new (w.alloc (.cells (ckA c) 142)) 5 z174
 have e0:(w.alloc (.cells (ckA c) 142)).heap.size=w.heap.size+1:=by simp
 rw[e0] at A0
 have hN:=heap_alloc_new ((w.alloc (.cells (ckA c) 142)).alloc (.cells (bcells z174) 5)) (.cells #[.slice (some ⟨w.heap.size+1,0,none⟩) 0 174,.nilIface] 210)
 have e1:((w.alloc (.cells (ckA c) 142)).alloc (.cells (bcells z174) 5)).heap.size=w.heap.size+1+1:=by simp
 rw[e1] at hN
 refine⟨⟨by omega,Or.inl ⟨(fun p hp=>absurd hp (by simp)),hN,?_⟩⟩,(((Chg.refl _ w).alloc _).alloc _).alloc _,by simp[wst0]⟩
 exact A0.alloc _
theorem cat_bys:∀ ps,Bys (cat ps)
 | []=>fun n hn=>by cases hn
 | p :: r=>fun n hn=>(List.mem_append.1 hn).elim (bts_bys _ _ n) (cat_bys r n)
theorem wrL_bys (c:Ckp):Bys (wrL c):=fun n hn=>(List.mem_append.1 hn).elim (cat_bys _ n) (fun h=>by rw[(List.mem_replicate.1 h).2];decide)
set_option maxHeartbeats 2000000 in
theorem write_no (w:World) (c:Ckp) (h:¬ Okc c) :
 Calls Tryz.prog 96 #[.agg (ckA c)] w fun e w'=>e=.returned (.tuple #[.slice none 0 0,.iface 56 (.int .i64 1)])/\Chg (fun _=>False) w w':=by
 have K0:=Ck.new w c
 have G0:Chg (fun _=>False) w (w.alloc (.cells (ckA c) 142)):=(Chg.refl _ w).alloc _
 have k1:=K0.C
 by_cases hC:c.C<96
 ·
  have HF:Hid (¬ Fits (nums c 6)):=hyd (fun e=>h ⟨hC,e⟩)
  have hC':¬ (96:Int)<=c.C:=by omega
  have hm:=make_room
  have q1:=neq_long_nil
  have HK:=hyd K0
  have HG:=hyd G0
  clear h hC K0 G0
  go_enter Tryz.func96,Tryz.ntmps96
  go_wp2_with (refine wpList_load_ck rfl (.tmp 1) rfl w.heap.size rfl ((HK.out.alloc _).alloc _) ?_)
  have hs:=wst0_is w c
  change Calls Tryz.prog 130 _ (wst0 w c) _
  generalize wst0 w c=w0 at *
  obtain⟨W0,G0,hlt⟩:=hs
  refine(layC_any w0 _ _ c W0 hlt).mono ?_
  rintro e w1 ⟨rfl,W1,G1⟩
  have HG1:Hid (Chg (fun _=>False) w w1):=hyd (G0.trans' G1 (fun i hi hh=>by omega))
  obtain⟨n,hR⟩:∃ n,Wr w1 (w.heap.size+1+1) (w.heap.size+1) n (.iface 56 (.int .i64 2)):=by
   rcases W1.2 with ⟨hf,_⟩ | ⟨_,hn⟩
   ·
    exact absurd hf HF.out
   ·
    exact hn
  obtain⟨j0,j1,-,-⟩:=hR.cells
  clear W0 G0 hlt W1 G1 hR HK HG k1
  go_wp2
  go_ret2
  exact⟨rfl,HG1.out⟩
 ·
  have hC':(96:Int)<=c.C:=by omega
  have HG:=hyd G0
  clear h K0 G0 hC
  go_enter Tryz.func96,Tryz.ntmps96
  go_wp2
  go_ret2
  exact⟨rfl,HG.out⟩
set_option maxHeartbeats 2000000 in
theorem write_yes (w:World) (c:Ckp) (h:Okc c) :
 Calls Tryz.prog 96 #[.agg (ckA c)] w fun e w'=>∃ g,e=.returned (.tuple #[.slice (some ⟨g,0,none⟩) 174 174,.nilIface])/\w.heap.size<=g/\Arr w' g 5 (wrL c)/\Chg (fun _=>False) w w':=by
 have K0:=Ck.new w c
 have k1:=K0.C
 have hC':¬ (96:Int)<=c.C:=by have:=h.1;omega
 have HF:Hid (Fits (nums c 6)):=hyd h.2
 have hm:=make_room
 have q1:=neq_nil_nil
 have HK:=hyd K0
 clear h K0
 go_enter Tryz.func96,Tryz.ntmps96
 go_wp2_with (refine wpList_load_ck rfl (.tmp 1) rfl w.heap.size rfl ((HK.out.alloc _).alloc _) ?_)
 have hs:=wst0_is w c
 change Calls Tryz.prog 130 _ (wst0 w c) _
 generalize wst0 w c=w0 at *
 obtain⟨W0,G0,hlt⟩:=hs
 refine(layC_any w0 _ _ c W0 hlt).mono ?_
 rintro e w1 ⟨rfl,W1,G1⟩
 have HG1:Hid (Chg (fun _=>False) w w1):=hyd (G0.trans' G1 (fun i hi hh=>by omega))
 obtain⟨hR,hA⟩:Wr w1 (w.heap.size+1+1) (w.heap.size+1) 164 .nilIface/\Arr w1 (w.heap.size+1) 5 (wrL c):=by
  rcases W1.2 with ⟨_,h1,h2⟩ | ⟨hf,_⟩
  ·
   rw[(tot_nums c).2.2.2.2.2] at h1
   exact⟨h1,h2⟩
  ·
   exact absurd HF.out hf
 obtain⟨j0,j1,-,-⟩:=hR.cells
 have HA:=hyd hA
 clear W0 G0 hlt W1 G1 hR HK k1 hA
 go_wp2
 go_ret2
 exact⟨_,rfl,by omega,HA.out,HG1.out⟩
def part (l:List Nat) (a z k i:Nat):Int:=if i<k then (fld l (a+z*i) z:Nat) else 0
structure Wfc (c:Ckp):Prop where
 F:∀ i,i<24->-9223372036854775808<=c.F i/\c.F i<=9223372036854775807
 N : -9223372036854775808<=c.N/\c.N<=9223372036854775807
 C : -9223372036854775808<=c.C/\c.C<=9223372036854775807
 R:∀ i,i<12->-9223372036854775808<=c.R i/\c.R i<=9223372036854775807
 S:∀ i,i<12->-9223372036854775808<=c.S i/\c.S i<=9223372036854775807
structure Tld (c:Ckp):Prop where
 F:∀ i,i<24->0<=c.F i/\c.F i<=1099511627775
 N:0<=c.N/\c.N<=1099511627775
 C:0<=c.C/\c.C<=95
 R:∀ i,i<12->0<=c.R i/\c.R i<=65535
 S:∀ i,i<12->0<=c.S i/\c.S i<=255
theorem u6_of {z:Int} (h:0<=z) (h2:z<18446744073709551616):((u6 z:Nat):Int)=z:=by
 rw[u6_eq,IntKind.wrap_u64];omega
theorem u6_big {z:Int} (h : -9223372036854775808<=z) (h2:z<0):9223372036854775808<=u6 z:=by
 have:=u6_eq z
 rw[IntKind.wrap_u64] at this
 omega
theorem mem_nums {c:Ckp} {p:Nat × Nat}:p ∈ nums c 6<->(∃ i,i<24/\p=(u6 (c.F i),5))\/p=(u6 c.N,5)\/p=(bitsN c.B 12,2)\/p=(u6 c.C,1)\/(∃ i,i<12/\p=(u6 (c.R i),2))\/∃ i,i<12/\p=(u6 (c.S i),1):=by
 show p ∈ fl c.F 24 5 ++ [(u6 c.N,5)] ++ [(bitsN c.B 12,2)] ++ [(u6 c.C,1)] ++ fl c.R 12 2 ++ fl c.S 12 1<->_
 have e:∀ (f:Nat->Int) (n s:Nat),p ∈ fl f n s<->∃ i,i<n/\p=(u6 (f i),s):=by
  intro f n s
  simp only[fl,List.mem_map,List.mem_range]
  constructor
  ·
   rintro ⟨i,h1,h2⟩;exact⟨i,h1,h2.symm⟩
  ·
   rintro ⟨i,h1,h2⟩;exact⟨i,h1,h2.symm⟩
 simp only[List.mem_append,List.mem_singleton,e]
 simp only[or_assoc]
theorem fits_iff (c:Ckp):Fits (nums c 6)<->(∀ i,i<24->u6 (c.F i)<1099511627776)/\u6 c.N<1099511627776/\u6 c.C<256/\(∀ i,i<12->u6 (c.R i)<65536)/\∀ i,i<12->u6 (c.S i)<256:=by
 constructor
 ·
  intro h
  exact⟨fun i hi=>h (_,5) (mem_nums.2 (Or.inl ⟨i,hi,rfl⟩)),h (_,5) (mem_nums.2 (Or.inr (Or.inl rfl))),h (_,1) (mem_nums.2 (Or.inr (Or.inr (Or.inr (Or.inl rfl))))),fun i hi=>h (_,2) (mem_nums.2 (Or.inr (Or.inr (Or.inr (Or.inr (Or.inl ⟨i,hi,rfl⟩)))))),fun i hi=>h (_,1) (mem_nums.2 (Or.inr (Or.inr (Or.inr (Or.inr (Or.inr ⟨i,hi,rfl⟩))))))⟩
 ·
  rintro ⟨h1,h2,h3,h4,h5⟩ p hp
  rcases mem_nums.1 hp with ⟨i,hi,rfl⟩ | rfl | rfl | rfl | ⟨i,hi,rfl⟩ | ⟨i,hi,rfl⟩
  ·
   exact h1 i hi
  ·
   exact h2
  ·
   have:=bitsN_12 c.B
   show bitsN c.B 12<65536
   omega
  ·
   exact h3
  ·
   exact h4 i hi
  ·
   exact h5 i hi
theorem room_iff {z:Int} (h : -9223372036854775808<=z/\z<=9223372036854775807) (m:Nat) (hm:m<=9223372036854775808):u6 z<m<->0<=z/\z<m:=by
 by_cases h0:0<=z
 ·
  have:=u6_of h0 (by omega)
  omega
 ·
  have:=u6_big h.1 (by omega)
  omega
theorem okc_iff (c:Ckp) (hw:Wfc c):Okc c<->Tld c:=by
 unfold Okc
 rw[fits_iff]
 constructor
 ·
  rintro ⟨h0,h1,h2,h3,h4,h5⟩
  refine⟨fun i hi=>?_,?_,?_,fun i hi=>?_,fun i hi=>?_⟩
  ·
   have:=(room_iff (hw.F i hi) 1099511627776 (by decide)).1 (h1 i hi);omega
  ·
   have:=(room_iff hw.N 1099511627776 (by decide)).1 h2;omega
  ·
   have:=(room_iff hw.C 256 (by decide)).1 h3;omega
  ·
   have:=(room_iff (hw.R i hi) 65536 (by decide)).1 (h4 i hi);omega
  ·
   have:=(room_iff (hw.S i hi) 256 (by decide)).1 (h5 i hi);omega
 ·
  intro h
  refine⟨by have:=h.C;omega,fun i hi=>?_,?_,?_,fun i hi=>?_,fun i hi=>?_⟩
  ·
   exact(room_iff (hw.F i hi) 1099511627776 (by decide)).2 (by have:=h.F i hi;omega)
  ·
   exact(room_iff hw.N 1099511627776 (by decide)).2 (by have:=h.N;omega)
  ·
   exact(room_iff hw.C 256 (by decide)).2 (by have:=h.C;omega)
  ·
   exact(room_iff (hw.R i hi) 65536 (by decide)).2 (by have:=h.R i hi;omega)
  ·
   exact(room_iff (hw.S i hi) 256 (by decide)).2 (by have:=h.S i hi;omega)
end Go.Proofs.YtbhbilcieodbhaaGreat.Point
/-
  What the core's functions do, as functions on what a core is in memory and on its chip. No condition: definitions.
-/
namespace Go.Proofs.YtbhbilcieodbhaaGreat
set_option maxRecDepth 100000
open Go.RowKit
structure Kor where
 s:Chp
 r:Int
 F:Nat->Int
 L:Nat->Int
 vs:Nat->Nat
 vc:Nat->Nat
 fl:Nat->Int
 nx:Nat
 sp:Bool
 fr:Front.St
 cu:Nat
 ca:Nat
 qu:List Int
 hR:Nat->Int
 hN:Nat->Int
 hS:Nat->Int
 dd:Bool
 rp:Int
 md:Int
 mv:Int
 tl:List Nat->Int->Pg
structure Tgg where
 p:Nat
 o:Nat
 q:Nat
 c:Nat
 l:Bool
def mxS:Nat:=1099511627775
def rdF (tl:List Nat->Int->Pg) (s:Chp) (r:Int) (a:Int):Chp × Int × Pg × Nat:=
 if (readV s a).2.2=0 then ((readV s a).1,wrap64 (r+1),tl (readV s a).2.1 a,0) else ((readV s a).1,r,Pg.zero,(readV s a).2.2)
theorem ReadR.eq {tl:List Nat->Int->Pg} {s:Chp} {r a:Int} {s':Chp} {r':Int} {g:Pg} {c:Nat} (h:ReadR s r a s' r' g c) (htl:∀ L n,ToldR L n (tl L n)):rdF tl s r a=(s',r',g,c):=by
 obtain⟨rfl,rfl,h | h⟩:=h
 ·
  obtain⟨h1,rfl,rfl⟩:=h
  unfold rdF
  rw[if_neg h1]
 ·
  obtain⟨h1,rfl,hT⟩:=h
  unfold rdF
  rw[if_pos h1,h1]
  have:tl (readV s a).2.1 a=g:=(htl _ _).unique hT
  rw[this]
def prF (tl:List Nat->Int->Pg) (s:Chp) (r:Int) (t:Tgg) (D:List Nat):Chp × Nat × Nat:=
 let W:=wrN s t.p (wordOf D (body t.p t.o t.q t.c t.l)) 4
 if W.2≠0 then (W.1,0,W.2) else
 let R:=rdF tl W.1 r t.p
 if R.2.2.2≠0 then (R.1,0,R.2.2.2) else
 (R.1,1,if R.2.2.1.tagged=true/\(R.2.2.1.p=t.p/\R.2.2.1.o=t.o/\R.2.2.1.s=t.q/\R.2.2.1.c=t.c/\R.2.2.1.l=t.l)/\R.2.2.1.sound=true/\R.2.2.1.data=D then 0 else 8)
theorem ProgR.eq {tl:List Nat->Int->Pg} {s:Chp} {r:Int} {t:Tgg} {D:List Nat} {s':Chp} {r':Int} {e:Nat} (h:ProgR s r t.p t.p t.o t.q t.c t.l D s' r' e) (htl:∀ L n,ToldR L n (tl L n)) :
 ∃ n,prF tl s r t D=(s',n,e)/\((n=0/\r'=r)\/(n=1/\r'=wrap64 (r+1))):=by
 rcases h with ⟨h1,rfl,rfl,rfl⟩ | ⟨h1,g,x,hR,h2⟩
 ·
  exact⟨0,by unfold prF;simp only;rw[if_pos h1],Or.inl ⟨rfl,rfl⟩⟩
 ·
  have hE:=hR.eq htl
  have hr:(x=0/\r'=wrap64 (r+1))\/(x≠0/\r'=r):=by
   rcases hR.2.2 with ⟨a,b,_⟩ | ⟨a,b,_⟩
   ·
    exact Or.inr ⟨a,b⟩
   ·
    exact Or.inl ⟨a,b⟩
  by_cases hx:x=0
  ·
   subst hx
   refine⟨1,?_,Or.inr ⟨rfl,hr.elim (fun h=>h.2) (fun h=>absurd rfl h.1)⟩⟩
   unfold prF
   simp only
   rw[if_neg (by rw[h1];simp),hE]
   simp only[ne_eq,not_true_eq_false,if_false]
   rcases h2 with ⟨h3,_⟩ | ⟨_,h3,rfl⟩ | ⟨_,h3,rfl⟩
   ·
    exact absurd rfl h3
   ·
    unfold Pg.Is at h3
    rw[if_pos h3]
   ·
    unfold Pg.Is at h3
    rw[if_neg h3]
  ·
   refine⟨0,?_,Or.inl ⟨rfl,hr.elim (fun h=>absurd h.1 hx) (fun h=>h.2)⟩⟩
   unfold prF
   simp only
   rw[if_neg (by rw[h1];simp),hE]
   simp only
   rw[if_pos hx]
   rcases h2 with ⟨_,rfl⟩ | ⟨h3,_⟩ | ⟨h3,_⟩
   ·
    rfl
   ·
    exact absurd h3 hx
   ·
    exact absurd h3 hx
def failC (c:Nat):Nat:=if c=0\/c=7 then c else 8
def cntF (R:Nat->Int) (b n:Int):Nat->Int:=if 0<=b/\b<12 then upd R b.toNat (min (R b.toNat+max n 0) 65535) else R
def rdK (K:Kor) (p:Nat):Kor × Pg × Nat:=
 let x:=rdF K.tl K.s K.r p
 if x.2.2.2=0 then ({ K with s:=x.1,r:=x.2.1,hR:=cntF K.hR (p / 8:Nat) 1 },x.2.2.1,0) else ({ K with s:=x.1 },Pg.zero,x.2.2.2)
def prK (K:Kor) (t:Tgg) (D:List Nat):Kor × Nat:=
 let x:=prF K.tl K.s K.r t D
 ({ K with s:=x.1,r:=wrap64 (K.r+x.2.1),hR:=cntF K.hR (t.p / 8:Nat) x.2.1 },failC x.2.2)
def prM (K:Kor) (t:Tgg) (D:List Nat):Kor × Nat:=if t.o=24/\t.l=true then (K,8) else prK K t D
def erK (K:Kor) (b:Nat):Kor × Nat:=
 let x:=eraseR K.s b
 if x.2=0 then ({ K with s:=x.1,hR:=upd K.hR b 0,hN:=upd K.hN b 0 },0) else ({ K with s:=x.1 },failC x.2)
def bad3 (F:Nat->Int):Nat:=Pool.cnt F 3 12
def wornK (K:Kor):Bool:=K.dd || decide (2<bad3 K.F)
def bearK (K:Kor):Bool:=decide (bad3 K.F<2) && !K.sp
def stK (K:Kor) (b s:Int):Kor:={ K with F:=Pool.setF K.F b s }
def noF:Front.St:=⟨false,0,0⟩
def clK (K:Kor):Kor:=if K.fr.o then { K with fr:=noF,F:=Pool.setF K.F K.fr.k 2 } else K
def lvK (K:Kor) (b:Int):Kor:=if Front.blV K.fr=b then clK K else K
def spK (K:Kor) (b:Int):Kor:=
 let K1:=stK (lvK K b) b 3
 { K1 with dd:=K1.dd || (decide (2<bad3 K1.F) || K1.sp) }
def isbK (K:Kor) (b:Int):Bool:=decide (Pool.getC b≠0) || decide (Pool.getV K.F b=3)
def nxF (F:Nat->Int):Option Nat:=((List.range 12).find? fun j=>decide (F (((F 12).toNat+j) % 12)=0)).map fun j=>((F 12).toNat+j) % 12
def tkC (F:Nat->Int):Nat:=if (nxF F).isSome then 0 else 10
def tkM (F:Nat->Int):Nat:=(nxF F).getD 0
theorem nxF_is (F:Nat->Int) (f:Nat) (h:F 12=f) (hf:f<12):Pool.Nxt F f (tkC F) (tkM F):=by
 have ef:(F 12).toNat=f:=by rw[h];rfl
 unfold tkC tkM nxF
 rw[ef]
 cases hq:(List.range 12).find? fun j=>decide (F ((f+j) % 12)=0) with
 | none=>
  refine Or.inr ⟨rfl,rfl,fun i hi=>?_⟩
  have:=List.find?_eq_none.1 hq ((i+12 - f) % 12) (by simp;omega)
  simp only[decide_eq_true_eq] at this
  rwa [show (f+(i+12 - f) % 12) % 12=i by omega] at this
 | some j=>
  have h1:=List.find?_some hq
  have h2:=List.mem_of_find?_eq_some hq
  simp only[decide_eq_true_eq] at h1
  refine Or.inl ⟨rfl,j,by simpa using h2,rfl,h1,fun i hi=>?_⟩
  rw[List.find?_eq_some_iff_getElem] at hq
  obtain⟨_,k,hk,he,hall⟩:=hq
  simp at he
  subst he
  have:=hall i hi
  simpa using this
def opK (K:Kor):Kor × Nat:=if tkC K.F=0 then ({ K with F:=Pool.tkF K.F 0 (tkM K.F),fr:=⟨true,tkM K.F,0⟩ },0) else (K,14)
def sqK (K:Kor):Kor:={ K with sp:=decide (K.nx=mxS),nx:=min (K.nx+1) mxS }
def layK (K:Kor) (t:Tgg):Kor × Nat:=({ K with vs:=upd K.vs t.o t.q,vc:=upd K.vc t.o t.c,L:=Pmap.setL K.L t.o t.p },Pmap.setC K.L t.o t.p)
def ckK (K:Kor) (q:Int):Point.Ckp:=⟨K.fl,q,fun b=>decide (K.F b=3),K.cu,K.hR,K.hS⟩
abbrev Hol:=Kor->Nat->List Nat
def tg0:Tgg:=⟨0,0,0,0,false⟩
def ntK (K:Kor):Kor:={ K with ca:=0,hN:=K.hR }
def frK (H:Hol) (K:Kor) (p o:Nat):Kor × Tgg × Nat:=
 if K.sp then (K,tg0,14) else
 let x:=prK (sqK K) ⟨p,o,K.nx,0,false⟩ (H (sqK K) K.nx)
 if x.2≠0 then (x.1,tg0,x.2) else (if o=24 then ntK x.1 else x.1,⟨p,o,K.nx,0,false⟩,0)
structure Shf where
 fm:Nat
 rt:Bool
 fd:Bool
 tt:Front.St
 ld:List Tgg
def tiK (K:Kor) (S:Shf) (o:Nat):Kor × Shf × Nat × Nat:=
 if S.tt.o then (K,{ S with tt:=Front.tkS S.tt o },(Front.nxV S.tt o).toNat,Front.nxC S.tt o) else
 if tkC K.F≠0 then (K,S,0,14) else
 ({ K with F:=Pool.setF (Pool.tkF K.F 0 (tkM K.F)) (tkM K.F) 2 },{ S with tt:=Front.tkS ⟨true,tkM K.F,0⟩ o },(Front.nxV ⟨true,tkM K.F,0⟩ o).toNat,Front.nxC ⟨true,tkM K.F,0⟩ o)
def noH:Hol:=fun K q=>Point.wrL (ckK K q)
def coK (K:Kor) (o:Nat):Kor × List Nat × Bool × Nat:=
 if Pmap.atC K.L o≠0 then (K,[],false,Pmap.atC K.L o) else
 let x:=rdK K (K.L o).toNat
 if x.2.2≠0 then (x.1,[],false,x.2.2) else
 if x.2.1.sound=true then (x.1,x.2.1.data,x.2.1.l,0) else
 if o=24 then (x.1,noH x.1 (x.1.vs 24),false,0) else (x.1,List.replicate 174 0,true,0)
def cpK (bd:Bool):List Nat->Kor->Shf->Kor × Shf × Nat
 | [],K,S=>(K,S,0)
 | o :: l,K,S=>
  if bd=true/\o=24 then cpK bd l K S else
  let c:=coK K o
  if c.2.2.2≠0 then (c.1,S,c.2.2.2) else
  let t:=tiK c.1 S o
  if t.2.2.2≠0 then (t.1,t.2.1,t.2.2.2) else
  let g:Tgg:=⟨t.2.2.1,o,t.1.vs o,(t.1.vc o+1) % 256,c.2.2.1⟩
  let p:=prM t.1 g c.2.1
  if p.2≠0 then (p.1,t.2.1,p.2) else cpK bd l p.1 { t.2.1 with ld:=t.2.1.ld ++ [g] }
def cmL:List Tgg->Kor->Kor × Nat
 | [],K=>(K,0)
 | t :: l,K=>if (layK K t).2≠0 then layK K t else cmL l (layK K t).1
def cmK (K:Kor) (S:Shf) (st:Int):Kor × Nat:=
 let x:=cmL S.ld K
 if x.2≠0 then x else
 let K1:=stK (lvK x.1 S.fm) S.fm st
 let K2:=if S.tt.o then stK { clK K1 with fr:=S.tt } S.tt.k 1 else K1
 ({ K2 with mv:=wrap64 (K2.mv+S.ld.length) },0)
def bdH (b:Nat):Hol:=fun K q=>Point.wrL { ckK K q with B:=upd (ckK K q).B b true }
def cbK (K:Kor) (S:Shf):Kor × Shf × Nat:=
 let t:=tiK K S 24
 if t.2.2.2≠0 then (t.1,t.2.1,t.2.2.2) else
 let f:=frK (bdH S.fm) t.1 t.2.2.1 24
 if f.2.2≠0 then (f.1,t.2.1,f.2.2) else
 let S2:={ t.2.1 with ld:=t.2.1.ld ++ [f.2.1] }
 ((cmK f.1 S2 3).1,S2,(cmK f.1 S2 3).2)
def tyK (K:Kor) (S:Shf):Kor × Shf × Nat:=
 let S1:={ S with tt:=noF,ld:=[] }
 if S.fd=true/\bearK K=false then (K,S1,14) else
 let bd:=S.fd || (S.rt && bearK K)
 let x:=cpK bd ((Pmap.ofL K.L S.fm).map Int.toNat) K S1
 if x.2.2≠0 then x else
 if bd=true then cbK x.1 x.2.1 else
 let e:=erK x.1 S.fm
 if e.2=0 then ((cmK e.1 x.2.1 0).1,x.2.1,(cmK e.1 x.2.1 0).2) else
 if e.2≠8 then (e.1,x.2.1,e.2) else
 let K2:=lvK e.1 S.fm
 let S2:={ x.2.1 with fd:=true }
 if bearK K2=false then (K2,S2,14) else cbK K2 S2
abbrev Tel:=Kor->Option (Kor × Nat)
abbrev Mov:=Kor->Shf->Option (Kor × Shf × Nat)
def teK (an:Tel):Tel:=fun K=>
 if wornK K=true\/K.sp=true then some (K,14) else
 if Front.rmV K.fr 24=true then an K else
 if (opK (clK K)).2≠0 then some (opK (clK K)) else an (opK (clK K)).1
def trK (te:Tel):Nat->Mov
 | 0,_,_=>none
 | n+1,K,S=>
  if isbK K S.fm=true then some (K,S,0) else
  let x:=tyK K S
  if x.2.2≠8 then some x else
  match te (spK x.1 (Front.blV x.2.1.tt)) with
  | none=>none
  | some y=>if y.2≠0 then some (y.1,x.2.1,y.2) else trK te n y.1 x.2.1
def moK (te:Tel) (n:Nat):Mov:=fun K S=>
 match trK te n (if S.fd then lvK K S.fm else K) S with
 | none=>none
 | some x=>if x.2.1.fd=true/\x.2.2=14 then some ({ spK x.1 x.2.1.fm with dd:=true },x.2.1,x.2.2) else some x
def lvF (K:Kor):Nat->Int:=fun k=>(Pmap.lvK K.L 96 k:Nat)
def nwS (b:Nat) (rt fd:Bool):Shf:=⟨b,rt,fd,noF,[]⟩
def sprK (K:Kor):Bool:=decide (Pool.bnd K.F<(Pool.cnt K.F 0 12:Nat))
def mrK (mo:Mov):Nat->Kor->Nat->Option (Kor × Nat)
 | 0,_,_=>none
 | n+1,K,o=>
  if Front.rmV K.fr o=true then some (K,0) else
  let K1:=clK K
  if sprK K1=true then (if (opK K1).2≠0 then some (opK K1) else mrK mo n (opK K1).1 o) else
  if Gc.chC 12 12 K1.F (lvF K1)≠0 then some (K1,14) else
  match mo K1 (nwS (Gc.chV 12 12 K1.F (lvF K1)) false false) with
  | none=>none
  | some y=>if y.2.2≠0 then some (y.1,y.2.2) else mrK mo n y.1 o
def anK (mr:Kor->Nat->Option (Kor × Nat)) (mo:Mov) (H:Hol):Nat->Kor->Nat->Option (Kor × Nat)
 | 0,_,_=>none
 | n+1,K,o=>
  if wornK K=true\/K.sp=true then some (K,14) else
  match mr K o with
  | none=>none
  | some x=>
   if x.2≠0 then some x else
   if Front.nxC x.1.fr o≠0 then some (x.1,Front.nxC x.1.fr o) else
   let f:=frK H { x.1 with fr:=Front.tkS x.1.fr o } (Front.nxV x.1.fr o).toNat o
   if f.2.2=0 then some (layK f.1 f.2.1) else
   if f.2.2≠8 then some (f.1,f.2.2) else
   match mo f.1 (nwS (Front.blV f.1.fr).toNat false true) with
   | none=>none
   | some y=>if y.2.2≠0 then some (y.1,y.2.2) else anK mr mo H n y.1 o
def anR:Nat->Hol->Kor->Nat->Option (Kor × Nat)
 | 0,_,_,_=>none
 | n+1,H,K,o=>
  let mo:=moK (teK fun K=>anR n noH K 24) (n+1)
  anK (mrK mo (n+1)) mo H (n+1) K o
def telR (n:Nat):Tel:=teK fun K=>anR n noH K 24
def movR (n:Nat):Mov:=moK (telR n) (n+1)
end Go.Proofs.YtbhbilcieodbhaaGreat
/-
  How a core lies in memory; what becomes of it where one of its parts is changed. No condition: lemmas.
-/
namespace Go.Proofs.YtbhbilcieodbhaaGreat
set_option maxRecDepth 100000
open Go.RowKit
structure Ad where
 c:Nat
 m:Nat
 g:Nat
 p:Nat
 q:Nat
 b:Nat
 po:Nat
 ma:Nat
 pa:Nat
 h:Nat
def ptr (b:Nat):Value:=.pointer (some ⟨b,0,none⟩)
def kc (A:Ad) (K:Kor) (i:Nat):Value:=
 if i=0 then ptr A.m else if i=1 then ptr A.po else if i=2 then ptr A.ma else
 if i<53 then .int .i64 (if (i - 3) % 2=0 then ((K.vs ((i - 3) / 2):Nat):Int) else ((K.vc ((i - 3) / 2):Nat):Int)) else
 if i<77 then .int .i64 (K.fl (i - 53)) else
 if i=77 then .int .i64 (K.nx:Nat) else if i=78 then .bool K.sp else
 if i=79 then .bool K.fr.o else if i=80 then .int .i64 (K.fr.k:Nat) else if i=81 then .int .i64 (K.fr.i:Nat) else
 if i=82 then ptr A.pa else if i<96 then .int .i64 0 else if i=96 then ptr A.h else
 if i=97 then .bool K.dd else if i=98 then .int .i64 K.rp else if i=99 then .int .i64 K.md else .int .i64 K.mv
structure Wf (K:Kor):Prop where
 chip:K.s.Ok
 rr : -9223372036854775808<=K.r/\K.r<9223372036854775808
 frm:0<=K.F 12/\K.F 12<12
 map:Pmap.Okl K.L
 vs:∀ i,i<25->K.vs i<=1099511627775
 vp:∀ i,i<25->K.L i≠-1->1<=K.vs i
 vc:∀ i,i<25->K.vc i<256
 fl:∀ i,i<24->0<=K.fl i/\K.fl i<=1099511627775
 nx:1<=K.nx/\K.nx<=1099511627775
 fr:Front.Okf K.fr
 cu:K.cu<96
 qu:Patrol.Okq K.qu
 hea:Health.Okh K.hR K.hN K.hS
 tl:∀ L n,ToldR L n (K.tl L n)
structure CoreAt (A:Ad) (w:World) (K:Kor):Prop where
 core:Patrol.QB w A.c 124 101 (kc A K) 83 K.qu
 med:Med w A.m A.g A.p A.q A.b K.r
 chip:ChipAt w A.g K.s
 pool:IB w A.po 167 13 K.F
 map:Pmap.Mp w A.ma K.L
 pat:Patrol.PB w A.pa 165 K.cu K.ca
 hea:Health.HB w A.h 170 K.hR K.hN K.hS
 wf:Wf K
def Cor (A:Ad) (k:Nat):Prop:=k=A.c\/k=A.m\/k=A.g\/k=A.b\/k=A.po\/k=A.ma\/k=A.pa\/k=A.h
def Ty (w:World) (x:Nat) (t:TypeId):Prop:=∃ cs z,w.heap[x]?=some (.cells cs t z)
theorem Ty.ne {w:World} {x y:Nat} {t u:TypeId} (h:Ty w x t) (k:Ty w y u) (e:t≠u):x≠y:=by
 rintro rfl
 obtain⟨cs,z,h⟩:=h
 obtain⟨cs',z',k⟩:=k
 rw[h] at k
 simp at k
 exact e k.2.1
theorem Sto.ty {w:World} {g:Nat} {t:TypeId} {n:Nat} {f:Nat->Value} (h:Sto w g t n f):Ty w g t:=by
 obtain⟨cs,h1,_⟩:=h
 exact⟨cs,_,h1⟩
theorem IB.ty {w:World} {b n:Nat} {t:TypeId} {F:Nat->Int} (h:IB w b t n F):Ty w b t:=⟨_,_,h⟩
theorem QB.sto {w:World} {b:Nat} {t:TypeId} {n:Nat} {g:Nat->Value} {o:Nat} {l:List Int} (h:Patrol.QB w b t n g o l):∃ F,Sto w b t n (upL g o (ints F 13)):=by
 obtain⟨F,h,_⟩:=h
 exact⟨F,h.1⟩
theorem QB.lt {w:World} {b:Nat} {t:TypeId} {n:Nat} {g:Nat->Value} {o:Nat} {l:List Int} (h:Patrol.QB w b t n g o l):b<w.heap.size:=by
 obtain⟨F,h⟩:=QB.sto h
 exact h.lt
theorem QB.chg {S:Nat->Prop} {w w':World} {b:Nat} {t:TypeId} {n:Nat} {g:Nat->Value} {o:Nat} {l:List Int} (h:Patrol.QB w b t n g o l) (hc:Chg S w w') (hb:¬ S b):Patrol.QB w' b t n g o l:=by
 obtain⟨F,h1,h2⟩:=h
 exact⟨F,⟨h1.1.chg hc hb,h1.2⟩,h2⟩
theorem QB.ext {w:World} {b:Nat} {t:TypeId} {n:Nat} {g g':Nat->Value} {o:Nat} {l:List Int} (h:Patrol.QB w b t n g o l) (e:∀ j,j<n->(j<o\/o+13<=j)->g j=g' j):Patrol.QB w b t n g' o l:=by
 obtain⟨F,h1,h2⟩:=h
 refine⟨F,⟨h1.1.ext fun i hi=>?_,h1.2⟩,h2⟩
 by_cases c:o<=i/\i<o+13
 ·
  obtain⟨k,rfl⟩:∃ k,i=o+k:=⟨i - o,by omega⟩
  rw[Patrol.upL_ints _ _ _ _ _ (by omega),Patrol.upL_ints _ _ _ _ _ (by omega)]
 ·
  rw[Patrol.upL_out _ _ _ _ _ (by omega),Patrol.upL_out _ _ _ _ _ (by omega)]
  exact e i hi (by omega)
theorem QB.out {w:World} {b:Nat} {t:TypeId} {n:Nat} {g:Nat->Value} {o:Nat} {l:List Int} (h:Patrol.QB w b t n g o l) (i:Nat) (hi:i<n) (ho:i<o\/o+13<=i):w.cell? ⟨b,i,none⟩=some (g i)/\w.frozen? ⟨b,i,none⟩=false:=by
 obtain⟨F,h1,h2⟩:=h
 exact⟨by rw[h1.1.cell i hi,Patrol.upL_out _ _ _ _ _ ho],h1.1.frozen i⟩
theorem QB.sets {w:World} {b:Nat} {t:TypeId} {n:Nat} {g:Nat->Value} {o:Nat} {l:List Int} (h:Patrol.QB w b t n g o l) (i:Nat) (vs:List Value) (hi:i+vs.length<=o\/o+13<=i):Patrol.QB (w.setCells b i vs) b t n (upL g i vs) o l:=by
 obtain⟨F,h1,h2⟩:=h
 refine⟨F,⟨(Sto.setCells vs i h1.1).ext fun j hj=>?_,h1.2⟩,h2⟩
 by_cases c:o<=j/\j<o+13
 ·
  obtain⟨k,rfl⟩:∃ k,j=o+k:=⟨j - o,by omega⟩
  rw[Patrol.upL_ints _ _ _ _ _ (by omega)]
  unfold upL
  rw[if_neg (by omega)]
  exact Patrol.upL_ints _ _ _ _ _ (by omega)
 ·
  rw[Patrol.upL_out _ _ _ _ _ (by omega)]
  unfold upL
  by_cases d:i<=j/\j<i+vs.length
  ·
   rw[if_pos d,if_pos d]
  ·
   rw[if_neg d,if_neg d,if_neg (by rw[ints_length];omega)]
theorem QB.set {w:World} {b:Nat} {t:TypeId} {n:Nat} {g:Nat->Value} {o:Nat} {l:List Int} (h:Patrol.QB w b t n g o l) (i:Nat) (v:Value) (hi:i<o\/o+13<=i):Patrol.QB (w.setCell ⟨b,i,none⟩ v) b t n (upL g i [v]) o l:=QB.sets h i [v] (by simp;omega)
theorem QB.front {w:World} {A:Ad} {K:Kor} (h:Patrol.QB w A.c 124 101 (kc A K) 83 K.qu):∃ f,Front.FB w A.c 124 101 f 79 K.fr/\∀ w' s',Front.FB w' A.c 124 101 (upL f 79 (Front.stL s')) 79 s'->Patrol.QB w' A.c 124 101 (kc A { K with fr:=s' }) 83 K.qu:=by
 obtain⟨F,⟨h1,h2⟩,h3⟩:=h
 refine⟨_,⟨h1,by omega,?_,?_,?_⟩,fun w' s' hF=>⟨F,⟨hF.1.ext fun i hi=>?_,h2⟩,h3⟩⟩
 ·
  rw[Patrol.upL_out _ _ _ _ _ (by omega)];rfl
 ·
  rw[Patrol.upL_out _ _ _ _ _ (by omega)];rfl
 ·
  rw[Patrol.upL_out _ _ _ _ _ (by omega)];rfl
 ·
  by_cases c:83<=i/\i<96
  ·
   obtain⟨k,rfl⟩:∃ k,i=83+k:=⟨i - 83,by omega⟩
   rw[Patrol.upL_ints _ _ _ _ _ (by omega)]
   unfold upL
   rw[if_neg (by simp[Front.stL];omega)]
   exact Patrol.upL_ints _ _ _ _ _ (by omega)
  ·
   rw[Patrol.upL_out _ _ _ _ i (by omega)]
   by_cases d:79<=i/\i<82
   ·
    obtain⟨u0,u1,u2⟩:=Front.upL_st (upL (kc A K) 83 (ints F 13)) 79 s'
    have:i=79\/i=80\/i=81:=by omega
    rcases this with rfl | rfl | rfl
    ·
     rw[u0];rfl
    ·
     rw[u1];rfl
    ·
     rw[u2];rfl
   ·
    show upL _ 79 (Front.stL s') i=_
    unfold upL
    rw[if_neg (by simp[Front.stL];omega),if_neg (by rw[ints_length];omega)]
    have e0:¬ i=79:=by omega
    have e1:¬ i=80:=by omega
    have e2:¬ i=81:=by omega
    unfold kc
    simp only[if_neg e0,if_neg e1,if_neg e2]
section
variable {A:Ad} {w w':World} {K:Kor}
theorem CoreAt.tys (h:CoreAt A w K):Ty w A.c 124/\Ty w A.m 215/\Ty w A.g 96/\Ty w A.p 242/\Ty w A.q 277/\Ty w A.b 316/\Ty w A.po 167/\Ty w A.ma 173/\Ty w A.pa 165/\Ty w A.h 170:=by
 obtain⟨F,h1⟩:=QB.sto h.core
 obtain⟨m1,⟨m2,m3⟩,m4⟩:=h.med
 obtain⟨c,z,m5,_⟩:=fld_heap m2
 exact⟨h1.ty,⟨_,_,m1⟩,Sto.ty h.chip,⟨_,_,m4⟩,⟨_,_,m3⟩,⟨c,z,m5⟩,h.pool.ty,IB.ty h.map,IB.ty h.pat,IB.ty h.hea⟩
theorem CoreAt.frame (h:CoreAt A w K) {S:Nat->Prop} (hc:Chg S w w') :
 (¬ S A.c->Patrol.QB w' A.c 124 101 (kc A K) 83 K.qu)/\(¬ S A.m->¬ S A.p->¬ S A.q->¬ S A.b->Med w' A.m A.g A.p A.q A.b K.r)/\(¬ S A.g->ChipAt w' A.g K.s)/\(¬ S A.po->IB w' A.po 167 13 K.F)/\(¬ S A.ma->Pmap.Mp w' A.ma K.L)/\(¬ S A.pa->Patrol.PB w' A.pa 165 K.cu K.ca)/\(¬ S A.h->Health.HB w' A.h 170 K.hR K.hN K.hS):=by
 obtain⟨lm,lp,lq,lb⟩:=h.med.lts
 refine⟨fun k=>QB.chg h.core hc k,fun k1 k2 k3 k4=>⟨(hc.block A.m lm k1).trans h.med.1,h.med.2.other (hc.block A.b lb k4) (hc.block A.q lq k3) (hc.block A.p lp k2)⟩,fun k=>h.chip.chg hc k,fun k=>h.pool.chg hc k,fun k=>IB.chg h.map hc k,fun k=>IB.chg h.pat hc k,fun k=>IB.chg h.hea hc k⟩
theorem CoreAt.chg0 (h:CoreAt A w K) (hc:Chg (fun _=>False) w w'):CoreAt A w' K:=by
 obtain⟨f1,f2,f3,f4,f5,f6,f7⟩:=h.frame hc
 exact⟨f1 (fun f=>f),f2 (fun f=>f) (fun f=>f) (fun f=>f) (fun f=>f),f3 (fun f=>f),f4 (fun f=>f),f5 (fun f=>f),f6 (fun f=>f),f7 (fun f=>f),h.wf⟩
theorem CoreAt.drewN (h:CoreAt A w K) (n:Nat):CoreAt A (w.drewN n) K:=h.chg0 ((Chg.refl _ w).drewN n)
theorem CoreAt.setPool (h:CoreAt A w K) {F':Nat->Int} (hx:IB w' A.po 167 13 F') (hc:Chg (·=A.po) w w') (wf:Wf { K with F:=F' }):CoreAt A w' { K with F:=F' }:=by
 obtain⟨t0,t1,t2,t3,t4,t5,t6,t7,t8,t9⟩:=h.tys
 obtain⟨f1,f2,f3,f4,f5,f6,f7⟩:=h.frame hc
 exact⟨(f1 (t0.ne t6 (by decide))),(f2 (t1.ne t6 (by decide)) (t3.ne t6 (by decide)) (t4.ne t6 (by decide)) (t5.ne t6 (by decide))),(f3 (t2.ne t6 (by decide))),hx,(f5 (t7.ne t6 (by decide))),(f6 (t8.ne t6 (by decide))),(f7 (t9.ne t6 (by decide))),wf⟩
theorem CoreAt.setMap (h:CoreAt A w K) {L':Nat->Int} (hx:Pmap.Mp w' A.ma L') (hc:Chg (·=A.ma) w w') (wf:Wf { K with L:=L' }):CoreAt A w' { K with L:=L' }:=by
 obtain⟨t0,t1,t2,t3,t4,t5,t6,t7,t8,t9⟩:=h.tys
 obtain⟨f1,f2,f3,f4,f5,f6,f7⟩:=h.frame hc
 exact⟨(f1 (t0.ne t7 (by decide))),(f2 (t1.ne t7 (by decide)) (t3.ne t7 (by decide)) (t4.ne t7 (by decide)) (t5.ne t7 (by decide))),(f3 (t2.ne t7 (by decide))),(f4 (t6.ne t7 (by decide))),hx,(f6 (t8.ne t7 (by decide))),(f7 (t9.ne t7 (by decide))),wf⟩
theorem CoreAt.setPat (h:CoreAt A w K) {x y:Nat} (hx:Patrol.PB w' A.pa 165 x y) (hc:Chg (·=A.pa) w w') (wf:Wf { K with cu:=x,ca:=y }):CoreAt A w' { K with cu:=x,ca:=y }:=by
 obtain⟨t0,t1,t2,t3,t4,t5,t6,t7,t8,t9⟩:=h.tys
 obtain⟨f1,f2,f3,f4,f5,f6,f7⟩:=h.frame hc
 exact⟨(f1 (t0.ne t8 (by decide))),(f2 (t1.ne t8 (by decide)) (t3.ne t8 (by decide)) (t4.ne t8 (by decide)) (t5.ne t8 (by decide))),(f3 (t2.ne t8 (by decide))),(f4 (t6.ne t8 (by decide))),(f5 (t7.ne t8 (by decide))),hx,(f7 (t9.ne t8 (by decide))),wf⟩
theorem CoreAt.setHea (h:CoreAt A w K) {a b c:Nat->Int} (hx:Health.HB w' A.h 170 a b c) (hc:Chg (·=A.h) w w') (wf:Wf { K with hR:=a,hN:=b,hS:=c }):CoreAt A w' { K with hR:=a,hN:=b,hS:=c }:=by
 obtain⟨t0,t1,t2,t3,t4,t5,t6,t7,t8,t9⟩:=h.tys
 obtain⟨f1,f2,f3,f4,f5,f6,f7⟩:=h.frame hc
 exact⟨(f1 (t0.ne t9 (by decide))),(f2 (t1.ne t9 (by decide)) (t3.ne t9 (by decide)) (t4.ne t9 (by decide)) (t5.ne t9 (by decide))),(f3 (t2.ne t9 (by decide))),(f4 (t6.ne t9 (by decide))),(f5 (t7.ne t9 (by decide))),(f6 (t8.ne t9 (by decide))),hx,wf⟩
theorem CoreAt.setChip (h:CoreAt A w K) {s':Chp} (hx:ChipAt w' A.g s') (hc:Chg (·=A.g) w w') (wf:Wf { K with s:=s' }):CoreAt A w' { K with s:=s' }:=by
 obtain⟨t0,t1,t2,t3,t4,t5,t6,t7,t8,t9⟩:=h.tys
 obtain⟨f1,f2,f3,f4,f5,f6,f7⟩:=h.frame hc
 exact⟨(f1 (t0.ne t2 (by decide))),(f2 (t1.ne t2 (by decide)) (t3.ne t2 (by decide)) (t4.ne t2 (by decide)) (t5.ne t2 (by decide))),hx,(f4 (t6.ne t2 (by decide))),(f5 (t7.ne t2 (by decide))),(f6 (t8.ne t2 (by decide))),(f7 (t9.ne t2 (by decide))),wf⟩
theorem CoreAt.setMed (h:CoreAt A w K) {s':Chp} {r':Int} (hm:Med w' A.m A.g A.p A.q A.b r') (hs:ChipAt w' A.g s') (hc:Chg (fun k=>k=A.m\/k=A.g\/k=A.b) w w') (wf:Wf { K with s:=s',r:=r' }):CoreAt A w' { K with s:=s',r:=r' }:=by
 obtain⟨t0,t1,t2,t3,t4,t5,t6,t7,t8,t9⟩:=h.tys
 obtain⟨f1,f2,f3,f4,f5,f6,f7⟩:=h.frame hc
 exact⟨f1 (fun e=>e.elim (t0.ne t1 (by decide)) (fun e=>e.elim (t0.ne t2 (by decide)) (t0.ne t5 (by decide)))),hm,hs,f4 (fun e=>e.elim (t6.ne t1 (by decide)) (fun e=>e.elim (t6.ne t2 (by decide)) (t6.ne t5 (by decide)))),f5 (fun e=>e.elim (t7.ne t1 (by decide)) (fun e=>e.elim (t7.ne t2 (by decide)) (t7.ne t5 (by decide)))),f6 (fun e=>e.elim (t8.ne t1 (by decide)) (fun e=>e.elim (t8.ne t2 (by decide)) (t8.ne t5 (by decide)))),f7 (fun e=>e.elim (t9.ne t1 (by decide)) (fun e=>e.elim (t9.ne t2 (by decide)) (t9.ne t5 (by decide)))),wf⟩
theorem CoreAt.setCore (h:CoreAt A w K) (K':Kor) (e:K'.s=K.s/\K'.r=K.r/\K'.F=K.F/\K'.L=K.L/\K'.cu=K.cu/\K'.ca=K.ca/\K'.hR=K.hR/\K'.hN=K.hN/\K'.hS=K.hS) (hx:Patrol.QB w' A.c 124 101 (kc A K') 83 K'.qu) (hc:Chg (·=A.c) w w') (wf:Wf K'):CoreAt A w' K':=by
 obtain⟨t0,t1,t2,t3,t4,t5,t6,t7,t8,t9⟩:=h.tys
 obtain⟨f1,f2,f3,f4,f5,f6,f7⟩:=h.frame hc
 obtain⟨e1,e2,e3,e4,e5,e6,e7,e8,e9⟩:=e
 refine⟨hx,by rw[e2];exact f2 (t1.ne t0 (by decide)) (t3.ne t0 (by decide)) (t4.ne t0 (by decide)) (t5.ne t0 (by decide)),by rw[e1];exact f3 (t2.ne t0 (by decide)),by rw[e3];exact f4 (t6.ne t0 (by decide)),by rw[e4];exact f5 (t7.ne t0 (by decide)),by rw[e5,e6];exact f6 (t8.ne t0 (by decide)),by rw[e7,e8,e9];exact f7 (t9.ne t0 (by decide)),wf⟩
theorem CoreAt.cell (h:CoreAt A w K) (i:Nat) (hi:i<83\/(96<=i/\i<101)):w.cell? ⟨A.c,i,none⟩=some (kc A K i)/\w.frozen? ⟨A.c,i,none⟩=false:=QB.out h.core i (by omega) (by omega)
theorem CoreAt.lts (h:CoreAt A w K):A.c<w.heap.size/\A.m<w.heap.size/\A.g<w.heap.size/\A.b<w.heap.size/\A.po<w.heap.size/\A.ma<w.heap.size/\A.pa<w.heap.size/\A.h<w.heap.size:=by
 obtain⟨lm,lp,lq,lb⟩:=h.med.lts
 exact⟨QB.lt h.core,lm,h.chip.lt,lb,h.pool.lt,IB.lt h.map,IB.lt h.pat,IB.lt h.hea⟩
theorem CoreAt.apart (h:CoreAt A w K) {x:Nat} (hx:w.heap.size<=x):¬ Cor A x:=by
 obtain⟨l1,l2,l3,l4,l5,l6,l7,l8⟩:=h.lts
 unfold Cor
 omega
theorem Chg.cor_c {A:Ad} {w w':World} (h:Chg (·=A.c) w w'):Chg (Cor A) w w':=h.mono fun _ _ e=>Or.inl e
theorem Chg.cor_g {A:Ad} {w w':World} (h:Chg (·=A.g) w w'):Chg (Cor A) w w':=h.mono fun _ _ e=>Or.inr (Or.inr (Or.inl e))
theorem Chg.cor_po {A:Ad} {w w':World} (h:Chg (·=A.po) w w'):Chg (Cor A) w w':=h.mono fun _ _ e=>Or.inr (Or.inr (Or.inr (Or.inr (Or.inl e))))
theorem Chg.cor_ma {A:Ad} {w w':World} (h:Chg (·=A.ma) w w'):Chg (Cor A) w w':=h.mono fun _ _ e=>Or.inr (Or.inr (Or.inr (Or.inr (Or.inr (Or.inl e)))))
theorem Chg.cor_pa {A:Ad} {w w':World} (h:Chg (·=A.pa) w w'):Chg (Cor A) w w':=h.mono fun _ _ e=>Or.inr (Or.inr (Or.inr (Or.inr (Or.inr (Or.inr (Or.inl e))))))
theorem Chg.cor_h {A:Ad} {w w':World} (h:Chg (·=A.h) w w'):Chg (Cor A) w w':=h.mono fun _ _ e=>Or.inr (Or.inr (Or.inr (Or.inr (Or.inr (Or.inr (Or.inr (e)))))))
theorem Chg.cor_med {A:Ad} {w w':World} (h:Chg (fun k=>k=A.m\/k=A.g\/k=A.b) w w'):Chg (Cor A) w w':=h.mono fun _ _ e=>e.elim (fun e=>Or.inr (Or.inl e)) fun e=>e.elim (fun e=>Or.inr (Or.inr (Or.inl e))) fun e=>Or.inr (Or.inr (Or.inr (Or.inl e)))
theorem Chg.cor0 {A:Ad} {w w':World} (h:Chg (fun _=>False) w w'):Chg (Cor A) w w':=h.mono fun _ _ e=>e.elim
theorem CoreAt.cMed (h:CoreAt A w K):w.cell? ⟨A.c,0,none⟩=some (.pointer (some ⟨A.m,0,none⟩))/\w.frozen? ⟨A.c,0,none⟩=false:=h.cell 0 (by omega)
theorem CoreAt.cPool (h:CoreAt A w K):w.cell? ⟨A.c,1,none⟩=some (.pointer (some ⟨A.po,0,none⟩))/\w.frozen? ⟨A.c,1,none⟩=false:=h.cell 1 (by omega)
theorem CoreAt.cMap (h:CoreAt A w K):w.cell? ⟨A.c,2,none⟩=some (.pointer (some ⟨A.ma,0,none⟩))/\w.frozen? ⟨A.c,2,none⟩=false:=h.cell 2 (by omega)
theorem CoreAt.cNx (h:CoreAt A w K):w.cell? ⟨A.c,77,none⟩=some (.int .i64 (K.nx:Nat))/\w.frozen? ⟨A.c,77,none⟩=false:=h.cell 77 (by omega)
theorem CoreAt.cSp (h:CoreAt A w K):w.cell? ⟨A.c,78,none⟩=some (.bool K.sp)/\w.frozen? ⟨A.c,78,none⟩=false:=h.cell 78 (by omega)
theorem CoreAt.cPat (h:CoreAt A w K):w.cell? ⟨A.c,82,none⟩=some (.pointer (some ⟨A.pa,0,none⟩))/\w.frozen? ⟨A.c,82,none⟩=false:=h.cell 82 (by omega)
theorem CoreAt.cHea (h:CoreAt A w K):w.cell? ⟨A.c,96,none⟩=some (.pointer (some ⟨A.h,0,none⟩))/\w.frozen? ⟨A.c,96,none⟩=false:=h.cell 96 (by omega)
theorem CoreAt.cDd (h:CoreAt A w K):w.cell? ⟨A.c,97,none⟩=some (.bool K.dd)/\w.frozen? ⟨A.c,97,none⟩=false:=h.cell 97 (by omega)
theorem CoreAt.cRp (h:CoreAt A w K):w.cell? ⟨A.c,98,none⟩=some (.int .i64 K.rp)/\w.frozen? ⟨A.c,98,none⟩=false:=h.cell 98 (by omega)
theorem CoreAt.cMd (h:CoreAt A w K):w.cell? ⟨A.c,99,none⟩=some (.int .i64 K.md)/\w.frozen? ⟨A.c,99,none⟩=false:=h.cell 99 (by omega)
theorem CoreAt.cMv (h:CoreAt A w K):w.cell? ⟨A.c,100,none⟩=some (.int .i64 K.mv)/\w.frozen? ⟨A.c,100,none⟩=false:=h.cell 100 (by omega)
theorem kc_vs (A:Ad) (K:Kor) (i:Nat) (hi:i<25):kc A K (3+i*2)=.int .i64 (K.vs i:Nat)/\kc A K (3+i*2+1)=.int .i64 (K.vc i:Nat):=by
 unfold kc
 refine⟨?_,?_⟩
 ·
  rw[if_neg (by omega),if_neg (by omega),if_neg (by omega),if_pos (by omega),if_pos (by omega),show (3+i*2 - 3) / 2=i by omega]
 ·
  rw[if_neg (by omega),if_neg (by omega),if_neg (by omega),if_pos (by omega),if_neg (by omega),show (3+i*2+1 - 3) / 2=i by omega]
theorem kc_fl (A:Ad) (K:Kor) (i:Nat) (hi:i<24):kc A K (53+i)=.int .i64 (K.fl i):=by
 unfold kc
 rw[if_neg (by omega),if_neg (by omega),if_neg (by omega),if_neg (by omega),if_pos (by omega),show 53+i - 53=i by omega]
theorem CoreAt.cVs (h:CoreAt A w K) (i:Nat) (hi:i<25):w.cell? ⟨A.c,3+i*2,none⟩=some (.int .i64 (K.vs i:Nat))/\w.frozen? ⟨A.c,3+i*2,none⟩=false:=by
 rw[<-(kc_vs A K i hi).1]
 exact h.cell _ (by omega)
theorem CoreAt.cVc (h:CoreAt A w K) (i:Nat) (hi:i<25):w.cell? ⟨A.c,3+i*2+1,none⟩=some (.int .i64 (K.vc i:Nat))/\w.frozen? ⟨A.c,3+i*2+1,none⟩=false:=by
 rw[<-(kc_vs A K i hi).2]
 exact h.cell _ (by omega)
theorem CoreAt.cFl (h:CoreAt A w K) (i:Nat) (hi:i<24):w.cell? ⟨A.c,53+i,none⟩=some (.int .i64 (K.fl i))/\w.frozen? ⟨A.c,53+i,none⟩=false:=by
 rw[<-kc_fl A K i hi]
 exact h.cell _ (by omega)
end
end Go.Proofs.YtbhbilcieodbhaaGreat
/-
  errors.Is, asked of an error that is nil or a number of api.Code: whether it is that number. No condition.
-/
namespace Go.Proofs.YtbhbilcieodbhaaGreat
set_option maxRecDepth 100000
open Go.RowKit Go.Extern.Stop Go.Stop Go.Extern
theorem isTypeOf (v:Value) (w:World):(Extern.ReflectliteType.typeOf #[.iface 56 v]).run Tryz.prog w=.ok (.iface 190 (.agg #[.pointer (some ⟨0,56,none⟩)])) w:=by kernel_rfl
theorem isComparable (w:World):((Extern.ReflectliteType.method fun t=>do Extern.Rtype.noPackHeld "Comparable" t;Functor.map (fun a=>Value.bool a.comparable) (typeInfo t)) #[.agg #[.pointer (some ⟨0,56,none⟩)]]).run Tryz.prog w=.ok (.bool true) w:=by kernel_rfl
theorem noIsC (v:Value) (xT:TypeId) (w:World):(Instr.typeAssert (.iface 56 v) xT 192 true).run Tryz.prog w=.ok (.tuple #[.nilIface,.bool false]) w:=run_typeAssert_lacksB Tryz.underlying192 (by kernel_rfl) (by kernel_rfl) v xT w
theorem noUnwrapC (v:Value) (xT:TypeId) (w:World):(Instr.typeAssert (.iface 56 v) xT 195 true).run Tryz.prog w=.ok (.tuple #[.nilIface,.bool false]) w:=run_typeAssert_lacksB Tryz.underlying195 (by kernel_rfl) (by kernel_rfl) v xT w
theorem noUnwrapsC (v:Value) (xT:TypeId) (w:World):(Instr.typeAssert (.iface 56 v) xT 196 true).run Tryz.prog w=.ok (.tuple #[.nilIface,.bool false]) w:=run_typeAssert_lacksB Tryz.underlying196 (by kernel_rfl) (by kernel_rfl) v xT w
theorem isMethodComparable (v:Value) (w:World):(Go.method 508 190 v "Comparable").run Tryz.prog w=.ok (317,v) w:=by kernel_rfl
theorem eql_codes (x y:Int) (w:World):(binOp .eql 33 (.iface 56 (.int .i64 x)) (.iface 56 (.int .i64 y))).run Tryz.prog w=.ok (.bool (decide (x=y))) w:=by
 rw[Lib.run_eql_iface_int w x y Tryz.underlying33 (by kernel_rfl) Tryz.underlying56]
 congr 2
theorem is_nil (k:Int) (w:World):Calls Tryz.prog 46 #[.nilIface,.iface 56 (.int .i64 k)] w fun e w'=>e=.returned (.bool false)/\w'=w:=by
 have hn:=run_eql_iface_nil_left (P:=Tryz.prog) w 56 (.int .i64 k) Tryz.underlying33
 go_enter Tryz.func46,Tryz.ntmps46
 go_wp2
 go_ret
 exact⟨rfl,rfl⟩
set_option maxHeartbeats 2000000 in
theorem is_code (x k:Int) (w:World):Calls Tryz.prog 46 #[.iface 56 (.int .i64 x),.iface 56 (.int .i64 k)] w fun e w'=>e=.returned (.bool (decide (x=k)))/\w'=w:=by
 have h8:=@run_callFunc_extern Tryz.prog 70 _ Extern.ReflectliteType.typeOf Tryz.func70 (by kernel_rfl) (by kernel_rfl) (by kernel_rfl) (by kernel_rfl)
 have h32:=@run_callFunc_extern Tryz.prog 317 _ (Extern.ReflectliteType.method fun t=>do Extern.Rtype.noPackHeld "Comparable" t;pure (.bool (<-typeInfo t).comparable)) Tryz.func317 (by kernel_rfl) (by kernel_rfl) (by kernel_rfl) (by first | rfl | kernel_rfl)
 have tT:=isTypeOf
 have cT:=isComparable
 have mR:=isMethodComparable
 have nE:=noIsC
 have uE:=noUnwrapC
 have vE:=noUnwrapsC
 have heq:=eql_codes x k
 by_cases h:x=k
 ·
  subst h
  simp only[decide_true] at heq ⊢
  go_enter Tryz.func46,Tryz.ntmps46
  go_wp2
  refine wp_loop_rounds 1 ?_
  rw[rounds_succ]
  go_wp2
  go_ret
  exact⟨rfl,rfl⟩
 ·
  simp only[h,decide_false] at heq ⊢
  go_enter Tryz.func46,Tryz.ntmps46
  go_wp2
  refine wp_loop_rounds 1 ?_
  rw[rounds_succ]
  go_wp2
  go_ret
  exact⟨rfl,rfl⟩
theorem is_v (c k:Nat) (hk:k≠0) (w:World):Calls Tryz.prog 46 #[errV c,.iface 56 (.int .i64 k)] w fun e w'=>e=.returned (.bool (decide (c=k)))/\w'=w:=by
 unfold errV
 by_cases h:c=0
 ·
  rw[if_pos h,decide_eq_false (by omega)]
  exact is_nil k w
 ·
  rw[if_neg h,show decide (c=k)=decide ((c:Int)=(k:Int)) from decide_eq_decide.2 (by omega)]
  exact is_code c k w
end Go.Proofs.YtbhbilcieodbhaaGreat
/-
  The core's small functions: the block of a page, whether it is worn out, what it can bear, states, the frontier ended and begun, blocks that are spoilt. Condition: the core lies in memory.
-/
namespace Go.Proofs.YtbhbilcieodbhaaGreat
set_option maxRecDepth 100000
open Go.RowKit
section
variable (A:Ad) (w:World) (K:Kor)
theorem block_of (p:Int) (h:0<=p/\p<96):Calls Tryz.prog 90 #[.int .i64 p] w fun e w'=>e=.returned (.int .i64 (p / 8))/\w'=w:=by
 have hp:=Patrol.parts_in w p h
 clear h
 go_enter Tryz.func90,Tryz.ntmps90
 go_wp2_with (go_at_call 127;refine hp.mono ?_;rintro e w1 ⟨rfl,rfl⟩)
 go_ret
 exact⟨rfl,rfl⟩
theorem worn_k (h:CoreAt A w K):Calls Tryz.prog 79 #[.pointer (some ⟨A.c,0,none⟩)] w fun e w'=>e=.returned (.bool (wornK K))/\w'=w:=by
 obtain⟨c97,-⟩:=h.cDd
 obtain⟨c1,-⟩:=h.cPool
 have hw:=Pool.worn_any w A.po K.F h.pool
 unfold wornK bad3
 clear h
 generalize decide (2<Pool.cnt K.F 3 12)=x at *
 cases hd:K.dd
 ·
  rw[hd] at c97
  clear hd
  go_enter Tryz.func79,Tryz.ntmps79
  go_wp2_with (go_at_call 112;refine hw.mono ?_;rintro e w1 ⟨rfl,rfl⟩)
  go_ret
  exact⟨rfl,rfl⟩
 ·
  rw[hd] at c97
  clear hd
  go_enter Tryz.func79,Tryz.ntmps79
  go_wp2
  go_ret
  exact⟨rfl,rfl⟩
theorem bears_k (h:CoreAt A w K):Calls Tryz.prog 188 #[.pointer (some ⟨A.c,0,none⟩)] w fun e w'=>e=.returned (.bool (bearK K))/\w'=w:=by
 obtain⟨c78,-⟩:=h.cSp
 obtain⟨c1,-⟩:=h.cPool
 have hw:=Pool.count_any w A.po K.F h.pool 3
 unfold bearK bad3
 clear h
 by_cases hb:Pool.cnt K.F 3 12<2
 ·
  have hz:((Pool.cnt K.F 3 12:Nat):Int)<2:=by omega
  rw[decide_eq_true hb]
  clear hb
  generalize Pool.cnt K.F 3 12=x at *
  go_enter Tryz.func188,Tryz.ntmps188
  go_wp2_with (go_at_call 148;refine hw.mono ?_;rintro e w1 ⟨rfl,rfl⟩)
  go_ret
  exact⟨rfl,rfl⟩
 ·
  have hz:¬ ((Pool.cnt K.F 3 12:Nat):Int)<2:=by omega
  rw[decide_eq_false hb]
  clear hb
  generalize Pool.cnt K.F 3 12=x at *
  go_enter Tryz.func188,Tryz.ntmps188
  go_wp2_with (go_at_call 148;refine hw.mono ?_;rintro e w1 ⟨rfl,rfl⟩)
  go_ret
  exact⟨rfl,rfl⟩
theorem setF_12 (F:Nat->Int) (b s:Int):Pool.setF F b s 12=F 12:=by
 unfold Pool.setF
 split
 ·
  rename_i c
  obtain⟨c1,-⟩:=Pool.setC_zero c
  unfold upd
  rw[if_neg (by omega)]
 ·
  rfl
theorem Wf.st {K:Kor} (h:Wf K) (b s:Int):Wf (stK K b s):=
 ⟨h.chip,h.rr,by show 0<=Pool.setF K.F b s 12/\Pool.setF K.F b s 12<12;rw[setF_12];exact h.frm,h.map,h.vs,h.vp,h.vc,h.fl,h.nx,h.fr,h.cu,h.qu,h.hea,h.tl⟩
theorem set_k (h:CoreAt A w K) (b s:Int):Calls Tryz.prog 150 #[.pointer (some ⟨A.c,0,none⟩),.int .i64 b,.int .i64 s] w fun e w'=>e=.returned (.tuple #[])/\CoreAt A w' (stK K b s)/\Chg (Cor A) w w':=by
 obtain⟨c1,-⟩:=h.cPool
 have hw:=Pool.set_v w A.po K.F h.pool b s
 have H:=hyd h
 clear h
 go_enter Tryz.func150,Tryz.ntmps150
 go_wp2_with (go_at_call 184;refine hw.mono ?_;rintro e w1 ⟨rfl,h1,g1⟩)
 go_end0
 exact⟨rfl,H.out.setPool h1 g1 (H.out.wf.st b s),g1.cor_po⟩
theorem bad_k (h:CoreAt A w K) (b:Int):Calls Tryz.prog 159 #[.pointer (some ⟨A.c,0,none⟩),.int .i64 b] w fun e w'=>e=.returned (.bool (isbK K b))/\w'=w:=by
 obtain⟨c1,-⟩:=h.cPool
 have hw:=Pool.get_v w A.po K.F h.pool b
 have q:=neq_er
 have g:=guard_neq
 unfold isbK
 clear h
 generalize Pool.getV K.F b=v at *
 by_cases hc:Pool.getC b=0
 ·
  have hd:decide (Pool.getC b=0)=true:=decide_eq_true hc
  have hd2:decide (Pool.getC b≠0)=false:=decide_eq_false (fun x=>x hc)
  rw[hd2]
  clear hc hd2
  generalize Pool.getC b=k at *
  by_cases hv:v=3
  ·
   have hb:(v == 3)=true:=by simp[hv]
   rw[decide_eq_true hv]
   clear hv
   go_enter Tryz.func159,Tryz.ntmps159
   go_wp2_with (go_at_call 187;refine hw.mono ?_;rintro e w1 ⟨rfl,rfl⟩)
   go_ret
   exact⟨rfl,rfl⟩
  ·
   have hb:(v == 3)=false:=by simp[hv]
   rw[decide_eq_false hv]
   clear hv
   go_enter Tryz.func159,Tryz.ntmps159
   go_wp2_with (go_at_call 187;refine hw.mono ?_;rintro e w1 ⟨rfl,rfl⟩)
   go_ret
   exact⟨rfl,rfl⟩
 ·
  have hd:decide (Pool.getC b=0)=false:=decide_eq_false hc
  have hd2:decide (Pool.getC b≠0)=true:=decide_eq_true hc
  rw[hd2]
  clear hc hd2
  generalize Pool.getC b=k at *
  go_enter Tryz.func159,Tryz.ntmps159
  go_wp2_with (go_at_call 187;refine hw.mono ?_;rintro e w1 ⟨rfl,rfl⟩)
  go_ret
  exact⟨rfl,rfl⟩
theorem Wf.fr' {K:Kor} (h:Wf K) {s:Front.St} (hs:Front.Okf s):Wf { K with fr:=s }:=
 ⟨h.chip,h.rr,h.frm,h.map,h.vs,h.vp,h.vc,h.fl,h.nx,hs,h.cu,h.qu,h.hea,h.tl⟩
theorem CoreAt.setFr {A:Ad} {w w':World} {K:Kor} (h:CoreAt A w K) {s:Front.St} (hx:Patrol.QB w' A.c 124 101 (kc A { K with fr:=s }) 83 K.qu) (hc:Chg (·=A.c) w w') (hs:Front.Okf s):CoreAt A w' { K with fr:=s }:=
 h.setCore { K with fr:=s } ⟨rfl,rfl,rfl,rfl,rfl,rfl,rfl,rfl,rfl⟩ hx hc (h.wf.fr' hs)
theorem Okf.noF:Front.Okf noF:=⟨by decide,by decide⟩
theorem close_k (h:CoreAt A w K):Calls Tryz.prog 114 #[.pointer (some ⟨A.c,0,none⟩)] w fun e w'=>e=.returned (.tuple #[])/\CoreAt A w' (clK K)/\Chg (Cor A) w w':=by
 obtain⟨f,hf,back⟩:=QB.front h.core
 have hb:=Front.block_any w A.c 124 101 f 79 K.fr hf
 unfold clK
 unfold Front.blV at hb
 cases ho:K.fr.o
 ·
  rw[ho] at hb
  replace hb:Calls Tryz.prog 85 #[.pointer (some ⟨A.c,79,none⟩)] w fun e w'=>e=.returned (.int .i64 (-1))/\w'=w:=hb
  have H:=hyd h
  clear h hf back ho
  go_enter Tryz.func114,Tryz.ntmps114
  go_wp2_with (go_at_call 85;refine hb.mono ?_;rintro e w1 ⟨rfl,rfl⟩)
  refine bodyPost_ret (results_none rfl _ _ _) rfl ?_
  exact⟨rfl,H.out,Chg.refl _ _⟩
 ·
  rw[ho] at hb
  replace hb:Calls Tryz.prog 85 #[.pointer (some ⟨A.c,79,none⟩)] w fun e w'=>e=.returned (.int .i64 (K.fr.k:Nat))/\w'=w:=hb
  have hcl:=Front.close_any w A.c 124 101 f 79 K.fr hf
  have hz:(((K.fr.k:Nat):Int) == -1)=false:=by simp
  have H:=hyd h
  have HB:=hyd back
  clear h hf back ho
  go_enter Tryz.func114,Tryz.ntmps114
  go_wp2_with (go_at_call 85;refine hb.mono ?_;rintro e w1 ⟨rfl,rfl⟩)
  refine hcl.mono ?_
  rintro e w1 ⟨rfl,h1,g1⟩
  have HC1:=hyd (H.out.setFr (HB.out w1 _ h1) g1 Okf.noF)
  have hst:=set_k A w1 { K with fr:=noF } HC1.out (K.fr.k:Nat) 2
  have HG1:=hyd g1.cor_c
  clear hcl h1 g1 hb HB H HC1
  go_wp2_with (go_at_call 150;refine hst.mono ?_;rintro e w2 ⟨rfl,h2,g2⟩)
  go_end0
  exact⟨rfl,h2,HG1.out.trans g2⟩
theorem leave_k (h:CoreAt A w K) (b:Int):Calls Tryz.prog 124 #[.pointer (some ⟨A.c,0,none⟩),.int .i64 b] w fun e w'=>e=.returned (.tuple #[])/\CoreAt A w' (lvK K b)/\Chg (Cor A) w w':=by
 obtain⟨f,hf,back⟩:=QB.front h.core
 have hb:=Front.block_any w A.c 124 101 f 79 K.fr hf
 have hc:=close_k A w K h
 unfold lvK
 by_cases e:Front.blV K.fr=b
 ·
  rw[if_pos e]
  have ez:(Front.blV K.fr == b)=true:=by simp[e]
  clear h hf back e
  generalize Front.blV K.fr=x at *
  go_enter Tryz.func124,Tryz.ntmps124
  go_wp2_with (go_at_call 85;refine hb.mono ?_;rintro e w1 ⟨rfl,rfl⟩)
  refine hc.mono ?_
  rintro e w2 ⟨rfl,h2,g2⟩
  have H2:=hyd h2
  have G2:=hyd g2
  clear h2 g2 hc hb
  go_wp2
  go_end0
  exact⟨rfl,H2.out,G2.out⟩
 ·
  rw[if_neg e]
  have ez:(Front.blV K.fr == b)=false:=by simp[e]
  have H:=hyd h
  clear h hf back e hc
  generalize Front.blV K.fr=x at *
  go_enter Tryz.func124,Tryz.ntmps124
  go_wp2_with (go_at_call 85;refine hb.mono ?_;rintro e w1 ⟨rfl,rfl⟩)
  go_end0
  exact⟨rfl,H.out,Chg.refl _ _⟩
theorem Wf.dd' {K:Kor} (h:Wf K) (d:Bool):Wf { K with dd:=d }:=
 ⟨h.chip,h.rr,h.frm,h.map,h.vs,h.vp,h.vc,h.fl,h.nx,h.fr,h.cu,h.qu,h.hea,h.tl⟩
theorem kc_dd (A:Ad) (K:Kor) (d:Bool) (j:Nat) (_:j<101) (_:j<83\/83+13<=j):upL (kc A K) 97 [.bool d] j=kc A { K with dd:=d } j:=by
 rw[upL_one]
 by_cases e:j=97
 ·
  subst e;rfl
 ·
  rw[if_neg e]
  unfold kc
  simp only[if_neg e]
theorem CoreAt.setDd {A:Ad} {w:World} {K:Kor} (h:CoreAt A w K) (d:Bool):CoreAt A (w.setCell ⟨A.c,97,none⟩ (.bool d)) { K with dd:=d }:=
 h.setCore { K with dd:=d } ⟨rfl,rfl,rfl,rfl,rfl,rfl,rfl,rfl,rfl⟩ (QB.ext (QB.set h.core 97 (.bool d) (by omega)) (kc_dd A K d)) ((Chg.refl (·=A.c) w).setCell (Or.inl rfl) _ _) (h.wf.dd' d)
theorem spoil_k (h:CoreAt A w K) (b:Int):Calls Tryz.prog 126 #[.pointer (some ⟨A.c,0,none⟩),.int .i64 b] w fun e w'=>e=.returned (.tuple #[])/\CoreAt A w' (spK K b)/\Chg (Cor A) w w':=by
 have h1:=leave_k A w K h b
 have HF:Hid (spK K b={ stK (lvK K b) b 3 with dd:=(stK (lvK K b) b 3).dd || (decide (2<bad3 (stK (lvK K b) b 3).F) || (stK (lvK K b) b 3).sp) }):=rfl
 clear h
 go_enter Tryz.func126,Tryz.ntmps126
 go_wp2_with fail
 refine h1.mono ?_
 rintro e w1 ⟨rfl,k1,g1⟩
 have h2:=set_k A w1 _ k1 b 3
 have G1:=hyd g1
 clear h1 k1 g1
 go_wp2_with fail
 refine h2.mono ?_
 rintro e w2 ⟨rfl,k2,g2⟩
 generalize stK (lvK K b) b 3=K1 at *
 obtain⟨c97,f97⟩:=k2.cDd
 obtain⟨c78,-⟩:=k2.cSp
 obtain⟨c1,-⟩:=k2.cPool
 have hw:=Pool.worn_any w2 A.po K1.F k2.pool
 have G2:=hyd (G1.out.trans g2)
 have HC:=hyd k2
 have HW:Hid (decide (2<Pool.cnt K1.F 3 12)=decide (2<bad3 K1.F)):=rfl
 rw[HW.out] at hw
 clear h2 k2 g2 G1 HW
 generalize decide (2<bad3 K1.F)=x at *
 cases hd:K1.dd
 ·
  have HD:=hyd hd
  rw[hd] at c97
  clear hd
  cases x
  ·
   go_wp2_with (go_at_call 112;refine hw.mono ?_;rintro e w3 ⟨rfl,rfl⟩)
   go_end0
   refine⟨rfl,?_,G2.out.trans (Chg.cor_c ((Chg.refl (·=A.c) _).setCell (Or.inl rfl) _ _))⟩
   rw[HF.out,HD.out]
   exact HC.out.setDd _
  ·
   go_wp2_with (go_at_call 112;refine hw.mono ?_;rintro e w3 ⟨rfl,rfl⟩)
   go_end0
   refine⟨rfl,?_,G2.out.trans (Chg.cor_c ((Chg.refl (·=A.c) _).setCell (Or.inl rfl) _ _))⟩
   rw[HF.out,HD.out]
   exact HC.out.setDd _
 ·
  have HD:=hyd hd
  rw[hd] at c97
  clear hd
  go_wp2
  go_end0
  refine⟨rfl,?_,G2.out.trans (Chg.cor_c ((Chg.refl (·=A.c) _).setCell (Or.inl rfl) _ _))⟩
  rw[HF.out,HD.out]
  exact HC.out.setDd _
theorem tkF_12 {F:Nat->Int} {m:Nat}:Pool.tkF F 0 m 12=((m+1) % 12:Nat):=by
 unfold Pool.tkF upd
 rw[if_pos rfl,if_pos rfl]
theorem tkM_lt (F:Nat->Int) (h:0<=F 12/\F 12<12):Pool.Nxt F (F 12).toNat (tkC F) (tkM F)/\tkM F<12:=by
 have:=nxF_is F (F 12).toNat (by omega) (by omega)
 refine⟨this,?_⟩
 rcases this with ⟨_,j,_,e,_⟩ | ⟨_,e,_⟩ <;> omega
theorem take_k (h:CoreAt A w K):Calls Tryz.prog 152 #[.pointer (some ⟨A.po,0,none⟩)] w fun e w'=>e=.returned (.tuple #[.int .i64 (tkM K.F:Nat),errV (tkC K.F)])/\CoreAt A w' { K with F:=Pool.tkF K.F (tkC K.F) (tkM K.F) }/\Chg (Cor A) w w':=by
 obtain⟨hn,hm⟩:=tkM_lt K.F h.wf.frm
 refine(Pool.take_v w A.po K.F h.pool (K.F 12).toNat (by have:=h.wf.frm;omega) (by have:=h.wf.frm;omega) hn).mono ?_
 rintro e w1 ⟨rfl,k1,g1⟩
 refine⟨rfl,h.setPool k1 g1 ⟨h.wf.chip,h.wf.rr,?_,h.wf.map,h.wf.vs,h.wf.vp,h.wf.vc,h.wf.fl,h.wf.nx,h.wf.fr,h.wf.cu,h.wf.qu,h.wf.hea,h.wf.tl⟩,g1.cor_po⟩
 show 0<=Pool.tkF K.F (tkC K.F) (tkM K.F) 12/\Pool.tkF K.F (tkC K.F) (tkM K.F) 12<12
 by_cases hc:tkC K.F=0
 ·
  rw[hc,tkF_12];omega
 ·
  unfold Pool.tkF
  rw[if_neg hc]
  exact h.wf.frm
theorem open_k (h:CoreAt A w K):Calls Tryz.prog 116 #[.pointer (some ⟨A.c,0,none⟩)] w fun e w'=>e=.returned (errV (opK K).2)/\CoreAt A w' (opK K).1/\Chg (Cor A) w w':=by
 obtain⟨c1,-⟩:=h.cPool
 have ht:=take_k A w K h
 have hm:=(tkM_lt K.F h.wf.frm).2
 have q:=neq_er
 have g:=guard_neq
 unfold opK
 by_cases hc:tkC K.F=0
 ·
  rw[if_pos hc]
  rw[hc] at ht
  have H:=hyd h
  have HM:=hyd hm
  clear hc h hm
  go_enter Tryz.func116,Tryz.ntmps116
  go_wp2_with fail
  refine ht.mono ?_
  rintro e w1 ⟨rfl,k1,g1⟩
  obtain⟨f,hf,back⟩:=QB.front k1.core
  have ho:=Front.open_v w1 A.c 124 101 f 79 K.fr hf (tkM K.F:Nat) 0
  have e0:Front.opC (tkM K.F:Nat) 0=0:=by
   unfold Front.opC
   rw[if_neg (by have:=HM.out;omega)]
  have e1:Front.opS K.fr (tkM K.F:Nat) 0=⟨true,tkM K.F,0⟩:=by
   unfold Front.opS
   rw[if_pos e0]
   rfl
  rw[e0,e1] at ho
  have HB:=hyd back
  have H1:=hyd k1
  have G1:=hyd g1
  clear ht k1 g1 hf back H e0 e1
  go_wp2_with (go_at_call 153;refine ho.mono ?_;rintro e w2 ⟨rfl,k2,g2⟩)
  go_ret
  exact⟨rfl,H1.out.setFr (HB.out w2 _ k2) g2 ⟨HM.out,(by decide:0<9)⟩,G1.out.trans g2.cor_c⟩
 ·
  rw[if_neg hc]
  have hd:decide (tkC K.F=0)=false:=decide_eq_false hc
  have HF:Hid (Pool.tkF K.F (tkC K.F) (tkM K.F)=K.F):=by show Pool.tkF K.F (tkC K.F) (tkM K.F)=K.F;unfold Pool.tkF;rw[if_neg hc]
  rw[HF.out] at ht
  have H:=hyd h
  clear hc h hm HF
  generalize tkC K.F=k at *
  generalize tkM K.F=m at *
  go_enter Tryz.func116,Tryz.ntmps116
  go_wp2_with (go_at_call 152;refine ht.mono ?_;rintro e w1 ⟨rfl,k1,g1⟩)
  go_ret
  exact⟨rfl,k1,g1⟩
end
end Go.Proofs.YtbhbilcieodbhaaGreat
/-
  The next seq is taken; a page is laid. Condition: the core lies in memory.
-/
namespace Go.Proofs.YtbhbilcieodbhaaGreat
set_option maxRecDepth 100000
open Go.RowKit
section
variable (A:Ad) (w:World) (K:Kor)
theorem Wf.sq {K:Kor} (h:Wf K):Wf (sqK K):=
 ⟨h.chip,h.rr,h.frm,h.map,h.vs,h.vp,h.vc,h.fl,by have:=h.nx;show 1<=min (K.nx+1) mxS/\min (K.nx+1) mxS<=1099511627775;unfold mxS;omega,h.fr,h.cu,h.qu,h.hea,h.tl⟩
theorem kc_sq (A:Ad) (K:Kor) (b:Bool) (n:Nat) (j:Nat) (_:j<101) (_:j<83\/83+13<=j):upL (upL (kc A K) 78 [.bool b]) 77 [.int .i64 (n:Nat)] j=kc A { K with sp:=b,nx:=n } j:=by
 rw[upL_one,upL_one]
 by_cases e:j=77
 ·
  subst e;rfl
 ·
  rw[if_neg e]
  by_cases e2:j=78
  ·
   subst e2;rfl
  ·
   rw[if_neg e2]
   unfold kc
   simp only[if_neg e,if_neg e2]
theorem CoreAt.setSq {A:Ad} {w:World} {K:Kor} (h:CoreAt A w K) {b:Bool} {z:Int} (hb:b=decide (K.nx=mxS)) (hz:z=(min (K.nx+1) mxS:Nat)):CoreAt A ((w.setCell ⟨A.c,78,none⟩ (.bool b)).setCell ⟨A.c,77,none⟩ (.int .i64 z)) (sqK K):=by
 subst hb hz
 exact h.setCore (sqK K) ⟨rfl,rfl,rfl,rfl,rfl,rfl,rfl,rfl,rfl⟩ (QB.ext (QB.set (QB.set h.core 78 _ (by omega)) 77 _ (by omega)) (kc_sq A K _ _)) (((Chg.refl (·=A.c) w).setCell (Or.inl rfl) _ _).setCell (Or.inl rfl) _ _) h.wf.sq
theorem seq_k (h:CoreAt A w K):Calls Tryz.prog 119 #[.pointer (some ⟨A.c,0,none⟩)] w fun e w'=>e=.returned (.int .i64 (K.nx:Nat))/\CoreAt A w' (sqK K)/\Chg (Cor A) w w':=by
 obtain⟨c77,f77⟩:=h.cNx
 obtain⟨c78,f78⟩:=h.cSp
 have hn:=h.wf.nx
 have H:=hyd h
 have hz:((K.nx:Nat):Int)<=1099511627775:=by omega
 have h0:(0:Int)<=((K.nx:Nat):Int):=by omega
 obtain⟨n,HN⟩:∃ n:Int,Hid (n=((K.nx:Nat):Int)):=⟨_,rfl⟩
 rw[<-HN.out] at c77 hz h0 ⊢
 have HB:Hid ((n == 1099511627775)=decide (K.nx=mxS)):=by
  show (n == 1099511627775)=decide (K.nx=mxS)
  have:=HN.out
  unfold mxS
  by_cases e:K.nx=1099511627775
  ·
   rw[decide_eq_true e];simp;omega
  ·
   rw[decide_eq_false e];simp;omega
 clear h hn
 go_enter Tryz.func119,Tryz.ntmps119
 go_wp2
 all_goals
  go_ret
  exact⟨rfl,H.out.setSq HB.out (by have:=HN.out;unfold mxS;omega),Chg.cor_c (((Chg.refl (·=A.c) w).setCell (Or.inl rfl) _ _).setCell (Or.inl rfl) _ _)⟩
theorem kc_ver (A:Ad) (K:Kor) (i q c:Nat) (hi:i<25) (j:Nat) (_:j<101) (_:j<83\/83+13<=j):upL (kc A K) (3+i*2) [.int .i64 (q:Nat),.int .i64 (c:Nat)] j=kc A { K with vs:=upd K.vs i q,vc:=upd K.vc i c } j:=by
 unfold upL
 by_cases e:3+i*2<=j/\j<3+i*2+2
 ·
  rw[if_pos (by simpa using e)]
  have:j=3+i*2\/j=3+i*2+1:=by omega
  rcases this with rfl | rfl
  ·
   rw[show 3+i*2 - (3+i*2)=0 by omega,(kc_vs A _ i hi).1]
   simp[upd]
  ·
   rw[show 3+i*2+1 - (3+i*2)=1 by omega,(kc_vs A _ i hi).2]
   simp[upd]
 ·
  rw[if_neg (by simpa using e)]
  by_cases h3:3<=j/\j<53
  ·
   obtain⟨k,hk,hj⟩:∃ k,k<25/\(j=3+k*2\/j=3+k*2+1):=⟨(j - 3) / 2,by omega,by omega⟩
   rcases hj with rfl | rfl
   ·
    rw[(kc_vs A K k hk).1,(kc_vs A _ k hk).1]
    show _=Value.int .i64 ((upd K.vs i q k:Nat):Int)
    unfold upd
    rw[if_neg (by omega)]
   ·
    rw[(kc_vs A K k hk).2,(kc_vs A _ k hk).2]
    show _=Value.int .i64 ((upd K.vc i c k:Nat):Int)
    unfold upd
    rw[if_neg (by omega)]
  ·
   by_cases h4:j<3
   ·
    have:j=0\/j=1\/j=2:=by omega
    rcases this with rfl | rfl | rfl <;> rfl
   ·
    unfold kc
    simp only[if_neg (show ¬ j<53 by omega)]
theorem Wf.ver {K:Kor} (h:Wf K) {i q c:Nat} (hq:1<=q/\q<=1099511627775) (hc:c<256):Wf { K with vs:=upd K.vs i q,vc:=upd K.vc i c }:=by
 refine⟨h.chip,h.rr,h.frm,h.map,fun k hk=>?_,fun k hk hl=>?_,fun k hk=>?_,h.fl,h.nx,h.fr,h.cu,h.qu,h.hea,h.tl⟩
 ·
  show upd K.vs i q k<=_
  unfold upd
  split
  ·
   exact hq.2
  ·
   exact h.vs k hk
 ·
  show 1<=upd K.vs i q k
  unfold upd
  split
  ·
   exact hq.1
  ·
   exact h.vp k hk hl
 ·
  show upd K.vc i c k<256
  unfold upd
  split
  ·
   exact hc
  ·
   exact h.vc k hk
theorem CoreAt.setVer {A:Ad} {w:World} {K:Kor} (h:CoreAt A w K) {i q c:Nat} (hi:i<25) (hq:1<=q/\q<=1099511627775) (hc:c<256):CoreAt A (w.setCells A.c (3+i*2) [.int .i64 (q:Nat),.int .i64 (c:Nat)]) { K with vs:=upd K.vs i q,vc:=upd K.vc i c }:=
 h.setCore _ ⟨rfl,rfl,rfl,rfl,rfl,rfl,rfl,rfl,rfl⟩ (QB.ext (QB.sets h.core (3+i*2) _ (by simp;omega)) (kc_ver A K i q c hi)) (Chg.setCells (S:=(·=A.c)) (Or.inl rfl) _ _ (Chg.refl _ w)) (h.wf.ver hq hc)
theorem Wf.map' {K:Kor} (h:Wf K) {L:Nat->Int} (hl:Pmap.Okl L) (hv:∀ i,i<25->L i≠-1->1<=K.vs i):Wf { K with L:=L }:=
 ⟨h.chip,h.rr,h.frm,hl,h.vs,hv,h.vc,h.fl,h.nx,h.fr,h.cu,h.qu,h.hea,h.tl⟩
theorem build89 (w:World) (x y:Int):(Instr.build 114 #[(0,.int .i64 x),(1,.int .i64 y)]).run Tryz.prog w=.ok (.agg #[.int .i64 x,.int .i64 y]) w:=by kernel_rfl
theorem lay_k (h:CoreAt A w K) (t:Tgg) (ho:t.o<25) (hq:1<=t.q/\t.q<=1099511627775) (hc:t.c<256):Calls Tryz.prog 83 #[.pointer (some ⟨A.c,0,none⟩),.agg #[.int .i64 (t.p:Nat),.int .i64 (t.o:Nat),.int .i64 (t.q:Nat),.int .i64 (t.c:Nat),.bool t.l]] w fun e w'=>e=.returned (errV (layK K t).2)/\CoreAt A w' (layK K t).1/\Chg (Cor A) w w':=by
 have T0:=Tg.new w t.p t.o t.q t.c t.l
 have G0:Chg (fun _=>False) w (w.alloc (.cells #[.int .i64 (t.p:Nat),.int .i64 (t.o:Nat),.int .i64 (t.q:Nat),.int .i64 (t.c:Nat),.bool t.l] 127)):=(Chg.refl _ w).alloc _
 have C0:=h.chg0 G0
 obtain⟨x1,y1⟩:=C0.cVs t.o ho
 obtain⟨x2,y2⟩:=C0.cVc t.o ho
 have hz:((t.o:Nat):Int)<25:=by omega
 have hb:=build89
 have HL:Hid (A.c<w.heap.size):=h.lts.1
 have HN:Hid (¬ w.heap.size=A.ma):=by have:=h.lts.2.2.2.2.2.1;show ¬ w.heap.size=A.ma;omega
 have HV:Hid (∀ i,i<25->Pmap.setL K.L (t.o:Nat) (t.p:Nat) i≠-1->1<=upd K.vs t.o t.q i):=fun i hi hl=>by
  unfold upd
  split
  ·
   exact hq.1
  ·
   rename_i e
   refine h.wf.vp i hi ?_
   unfold Pmap.setL at hl
   split at hl
   ·
    unfold upd at hl
    rw[if_neg (by simpa using e)] at hl
    exact hl
   ·
    exact hl
 have H:=hyd C0
 have G:=hyd G0
 have HQ:=hyd hq
 have HC:=hyd hc
 have HO:=hyd ho
 clear h C0 G0 T0 hq hc ho
 go_enter Tryz.func83,Tryz.ntmps83
 go_wp2_with fail
 go_region
 have C1:CoreAt A (((w.alloc (.cells #[.int .i64 (t.p:Nat),.int .i64 (t.o:Nat),.int .i64 (t.q:Nat),.int .i64 (t.c:Nat),.bool t.l] 127)).setCell ⟨A.c,3+t.o*2,none⟩ (.int .i64 (t.q:Nat))).setCell ⟨A.c,3+t.o*2+1,none⟩ (.int .i64 (t.c:Nat))).drew { K with vs:=upd K.vs t.o t.q,vc:=upd K.vc t.o t.c }:=(H.out.setVer HO.out HQ.out HC.out).drewN 1
 have T1:Tg (((w.alloc (.cells #[.int .i64 (t.p:Nat),.int .i64 (t.o:Nat),.int .i64 (t.q:Nat),.int .i64 (t.c:Nat),.bool t.l] 127)).setCell ⟨A.c,3+t.o*2,none⟩ (.int .i64 (t.q:Nat))).setCell ⟨A.c,3+t.o*2+1,none⟩ (.int .i64 (t.c:Nat))).drew w.heap.size t.p t.o t.q t.c t.l:=by
  have hl:=HL.out
  refine Tg.chg (S:=(·=A.c)) (Tg.new w t.p t.o t.q t.c t.l) ?_ (by omega)
  exact(((Chg.refl (·=A.c) _).setCell (Or.inl rfl) _ _).setCell (Or.inl rfl) _ _).drew
 have G1:Chg (Cor A) w (((w.alloc (.cells #[.int .i64 (t.p:Nat),.int .i64 (t.o:Nat),.int .i64 (t.q:Nat),.int .i64 (t.c:Nat),.bool t.l] 127)).setCell ⟨A.c,3+t.o*2,none⟩ (.int .i64 (t.q:Nat))).setCell ⟨A.c,3+t.o*2+1,none⟩ (.int .i64 (t.c:Nat))).drew:=(((Chg.cor0 G.out).setCell (Or.inl (Or.inl rfl)) _ _).setCell (Or.inl (Or.inl rfl)) _ _).drew
 generalize (((w.alloc (.cells #[.int .i64 (t.p:Nat),.int .i64 (t.o:Nat),.int .i64 (t.q:Nat),.int .i64 (t.c:Nat),.bool t.l] 127)).setCell ⟨A.c,3+t.o*2,none⟩ (.int .i64 (t.q:Nat))).setCell ⟨A.c,3+t.o*2+1,none⟩ (.int .i64 (t.c:Nat))).drew=w1 at *
 obtain⟨c2,-⟩:=C1.cMap
 have d0:w1.cell? ⟨w.heap.size,0,none⟩=some (.int .i64 (t.p:Nat)):=T1.cells.1
 have d1:w1.cell? ⟨w.heap.size,1,none⟩=some (.int .i64 (t.o:Nat)):=T1.cells.2.1
 have H1:=hyd C1
 have HG1:=hyd G1
 have HT1:=hyd T1
 clear C1 T1 G1 x1 y1 x2 y2 H G
 go_wp2_with fail
 go_region_held3 (fun wx=>wx.cell? ⟨A.c,2,none⟩=some (.pointer (some ⟨A.ma,0,none⟩))/\wx.cell? ⟨w.heap.size,0,none⟩=some (.int .i64 (t.p:Nat))/\wx.cell? ⟨w.heap.size,1,none⟩=some (.int .i64 (t.o:Nat)))
  (first | exact⟨c2,d0,d1⟩ | exact⟨z2,z0,z1⟩)
  (first | (go_at_call 123;refine(Pmap.set_v _ A.ma K.L H1.out.map.drew H1.out.wf.map (t.o:Nat) (t.p:Nat)).mono ?_;rintro e w2 ⟨rfl,k2,g2,o2⟩;have C2:=(H1.out.drewN 1).setMap k2 g2 (H1.out.wf.map' o2 HV.out);have T2:=(HT1.out.chg (Chg.refl (fun _=>False) w1).drew (fun f=>f)).chg g2 HN.out;have z0:=T2.cells.1;have z1:=T2.cells.2.1;obtain⟨z2,-⟩:=C2.cMap;have HC2:=hyd C2;have HG2:=hyd (HG1.out.drew.trans g2.cor_ma);clear k2 g2 o2 C2 T2))
 all_goals
  go_wp2
  go_ret
  exact⟨rfl,HC2.out,HG2.out⟩
end
end Go.Proofs.YtbhbilcieodbhaaGreat
/-
  Reads are counted; what a failure is told as; a block is erased. Condition: the core lies in memory.
-/
namespace Go.Proofs.YtbhbilcieodbhaaGreat
set_option maxRecDepth 100000
open Go.RowKit
theorem cntF_none {R N S:Nat->Int} (h:Health.Okh R N S) (b:Nat) (hb:b<12) {n:Int} (hn:n<=0):cntF R b n=R:=by
 unfold cntF
 rw[if_pos (by omega)]
 funext j
 unfold upd
 split
 ·
  rename_i e
  have:=(h b hb).1
  rw[e,show ((b:Int)).toNat=b from rfl,Int.max_eq_right hn]
  omega
 ·
  rfl
theorem cntF_more {R:Nat->Int} (b:Nat) (hb:b<12) (i:Nat):Health.more 65535 (cntF R b (i:Nat)) (b:Nat)=cntF R b ((i+1:Nat):Int):=by
 rw[Health.more_yes _ _ _ hb]
 unfold cntF
 rw[if_pos (by omega),if_pos (by omega)]
 funext j
 unfold upd
 rw[show ((b:Int)).toNat=b from rfl,if_pos rfl]
 split
 ·
  omega
 ·
  rfl
theorem Okh.cnt {R N S:Nat->Int} (h:Health.Okh R N S) (b n:Int):Health.Okh (cntF R b n) N S:=fun i hi=>by
 refine⟨?_,(h i hi).2⟩
 have:=(h i hi).1
 unfold cntF
 split
 ·
  unfold upd
  split
  ·
   rename_i e;rw[<-e];omega
  ·
   exact this
 ·
  exact this
theorem Wf.hR' {K:Kor} (h:Wf K) {R N S:Nat->Int} (hk:Health.Okh R N S):Wf { K with hR:=R,hN:=N,hS:=S }:=
 ⟨h.chip,h.rr,h.frm,h.map,h.vs,h.vp,h.vc,h.fl,h.nx,h.fr,h.cu,h.qu,hk,h.tl⟩
theorem count_k (A:Ad) (w:World) (K:Kor) (h:CoreAt A w K) (b:Nat) (hb:b<12) (n:Int) (hn6:n<=65536):Calls Tryz.prog 103 #[.pointer (some ⟨A.c,0,none⟩),.int .i64 (b:Nat),.int .i64 n] w fun e w'=>e=.returned (.tuple #[])/\CoreAt A w' { K with hR:=cntF K.hR (b:Nat) n }/\Chg (Cor A) w w':=by
 by_cases hn:n<=0
 ·
  have hz:¬ (0:Int)<n:=by omega
  rw[cntF_none h.wf.hea b hb hn]
  have H:=hyd h
  clear h hn hb hn6
  go_enter Tryz.func103,Tryz.ntmps103
  go_wp2
  go_loopg [7] 0 (fun kx s7 wr=>s7=.int .i64 0/\Hid (wr=w))
  case atStart=>exact⟨rfl,rfl⟩
  case round=>
   obtain⟨rfl,HW⟩:=hrel
   obtain rfl:=HW.out
   go_wp2
   go_end0
   exact⟨rfl,H.out,Chg.refl _ _⟩
 ·
  obtain⟨m,rfl⟩:∃ m:Nat,n=m:=⟨n.toNat,by omega⟩
  have q:=neq_nil
  have HK:=hyd h
  have HO:=hyd h.wf.hea
  have HB:=hyd hb
  have h0:(Hid (cntF K.hR (b:Nat) ((0:Nat):Int)=K.hR)):=cntF_none h.wf.hea b hb (by omega)
  clear h hn hb
  go_enter Tryz.func103,Tryz.ntmps103
  go_wp2
  go_loopg [7] m (fun kx s7 wr=>∃ i:Nat,s7=.int .i64 i/\i<=m/\m - i<=kx/\Hid (CoreAt A wr { K with hR:=cntF K.hR (b:Nat) (i:Nat) })/\Hid (Chg (Cor A) w wr))
  case atStart=>exact⟨0,rfl,by omega,by omega,by show CoreAt A w _;rw[h0.out];exact HK.out,Chg.refl _ _⟩
  case round=>
   obtain⟨i,rfl,him,hkx,HC,HG⟩:=hrel
   by_cases hlt:i<m
   ·
    have hltz:(i:Int)<(m:Int):=by omega
    obtain⟨c96,-⟩:=HC.out.cHea
    have hr:=Health.read_v wr A.h (cntF K.hR (b:Nat) (i:Nat)) K.hN K.hS HC.out.hea HC.out.wf.hea (b:Nat)
    rw[Health.blC_yes b HB.out,cntF_more b HB.out i] at hr
    replace hr:Calls Tryz.prog 141 #[.pointer (some ⟨A.h,0,none⟩),.int .i64 (b:Nat)] wr fun e w'=>e=.returned .nilIface/\Health.HB w' A.h 170 (cntF K.hR (b:Nat) ((i+1:Nat):Int)) K.hN K.hS/\Chg (·=A.h) wr w':=hr
    go_wp2_with fail
    refine hr.mono ?_
    rintro e w1 ⟨rfl,k1,g1⟩
    have HC1:=hyd (HC.out.setHea k1 g1 (HC.out.wf.hR' (Okh.cnt HO.out _ _)))
    have HG1:=hyd (HG.out.trans g1.cor_h)
    clear hr k1 g1 c96 HC HG
    go_wp2
    go_roundg (m - (i+1))
    case measure=>omega
    case rel=>exact⟨i+1,by simp,by omega,Nat.le_refl _,HC1.out,HG1.out⟩
   ·
    have hltz:¬ (i:Int)<(m:Int):=by omega
    have e:i=m:=by omega
    subst e
    go_wp2
    go_end0
    exact⟨rfl,HC.out,HG.out⟩
theorem failure_k (w:World) (c:Nat):Calls Tryz.prog 158 #[errV c] w fun e w'=>e=.returned (errV (failC c))/\w'=w:=by
 have q:=eql_er
 have g:=guard_eql
 have hi:=is_v c 7 (by decide) w
 unfold failC
 by_cases h0:c=0
 ·
  subst h0
  rw[if_pos (Or.inl rfl)]
  replace q:∀ w,(binOp .eql 33 (errV 0) .nilIface).run Tryz.prog w=.ok (.bool true) w:=fun w=>q 0 w
  clear hi
  go_enter Tryz.func158,Tryz.ntmps158
  go_wp2
  go_ret
  exact⟨rfl,rfl⟩
 ·
  replace q:∀ w,(binOp .eql 33 (errV c) .nilIface).run Tryz.prog w=.ok (.bool false) w:=fun w=>by rw[q c w,decide_eq_false h0]
  by_cases h7:c=7
  ·
   subst h7
   rw[if_pos (Or.inr rfl)]
   replace hi:Calls Tryz.prog 46 #[errV 7,.iface 56 (.int .i64 7)] w fun e w'=>e=.returned (.bool true)/\w'=w:=hi
   clear h0
   go_enter Tryz.func158,Tryz.ntmps158
   go_wp2_with (go_at_call 46;refine hi.mono ?_;rintro e w1 ⟨rfl,rfl⟩)
   go_ret
   exact⟨rfl,rfl⟩
  ·
   rw[if_neg (by omega)]
   rw[decide_eq_false h7] at hi
   replace hi:Calls Tryz.prog 46 #[errV c,.iface 56 (.int .i64 7)] w fun e w'=>e=.returned (.bool false)/\w'=w:=hi
   clear h0 h7
   go_enter Tryz.func158,Tryz.ntmps158
   go_wp2_with (go_at_call 46;refine hi.mono ?_;rintro e w1 ⟨rfl,rfl⟩)
   go_ret
   exact⟨rfl,rfl⟩
theorem Wf.chip' {K:Kor} (h:Wf K) {s:Chp} (hs:s.Ok):Wf { K with s:=s }:=
 ⟨hs,h.rr,h.frm,h.map,h.vs,h.vp,h.vc,h.fl,h.nx,h.fr,h.cu,h.qu,h.hea,h.tl⟩
theorem Wf.med' {K:Kor} (h:Wf K) {s:Chp} (hs:s.Ok) {r:Int} (hr : -9223372036854775808<=r/\r<9223372036854775808):Wf { K with s:=s,r:=r }:=
 ⟨hs,hr,h.frm,h.map,h.vs,h.vp,h.vc,h.fl,h.nx,h.fr,h.cu,h.qu,h.hea,h.tl⟩
theorem erase_k (A:Ad) (w:World) (K:Kor) (h:CoreAt A w K) (b:Nat) (hb:b<12):Calls Tryz.prog 144 #[.pointer (some ⟨A.c,0,none⟩),.int .i64 (b:Nat)] w fun e w'=>e=.returned (errV (erK K b).2)/\CoreAt A w' (erK K b).1/\Chg (Cor A) w w':=by
 obtain⟨c0,-⟩:=h.cMed
 have he:=merase_any A.m A.g A.p A.q A.b K.r K.s h.wf.chip w h.med h.chip (b:Nat)
 rw[nerr_err] at he
 have q:=neq_er
 have g:=guard_neq
 have HK:=hyd h
 have HB:=hyd hb
 have hok:=eraseR_ok h.wf.chip (b:Nat)
 unfold erK
 simp only
 by_cases hc:(eraseR K.s (b:Nat)).2=0
 ·
  rw[if_pos hc]
  rw[hc] at he
  generalize (eraseR K.s (b:Nat)).1=s1 at *
  have HS:=hyd hok
  clear h hb hc hok
  go_enter Tryz.func144,Tryz.ntmps144
  go_wp2_with fail
  refine he.mono ?_
  rintro e w1 ⟨rfl,k1,g1⟩
  have C1:=HK.out.setChip k1 g1 (HK.out.wf.chip' HS.out)
  obtain⟨c96,-⟩:=C1.cHea
  have hr:=Health.erased_v w1 A.h K.hR K.hN K.hS C1.hea C1.wf.hea (b:Nat)
  rw[Health.blC_yes b HB.out,Health.none_yes _ _ HB.out,Health.none_yes _ _ HB.out] at hr
  have HC1:=hyd C1
  have HG1:=hyd g1.cor_g
  clear he k1 g1 C1
  go_wp2_with fail
  refine hr.mono ?_
  rintro e w2 ⟨rfl,k2,g2⟩
  have ho:=Health.Okh.none HC1.out.wf.hea (b:Nat)
  rw[Health.none_yes _ _ HB.out,Health.none_yes _ _ HB.out] at ho
  have HC2:=hyd (HC1.out.setHea k2 g2 (HC1.out.wf.hR' ho))
  have HG2:=hyd (HG1.out.trans g2.cor_h)
  clear hr k2 g2 ho HC1 HG1
  go_wp2
  go_ret
  exact⟨rfl,HC2.out,HG2.out⟩
 ·
  rw[if_neg hc]
  replace q:∀ w,(binOp .neq 33 (errV (eraseR K.s (b:Nat)).2) .nilIface).run Tryz.prog w=.ok (.bool true) w:=fun w=>by rw[q _ w,decide_eq_false hc];rfl
  generalize (eraseR K.s (b:Nat)).1=s1 at *
  generalize (eraseR K.s (b:Nat)).2=c at *
  have HS:=hyd hok
  have hf:=failure_k
  clear h hb hc hok
  go_enter Tryz.func144,Tryz.ntmps144
  go_wp2_with fail
  refine he.mono ?_
  rintro e w1 ⟨rfl,k1,g1⟩
  have HC1:=hyd (HK.out.setChip k1 g1 (HK.out.wf.chip' HS.out))
  have HG1:=hyd g1.cor_g
  clear he k1 g1
  go_wp2_with (go_at_call 158;refine(hf _ c).mono ?_;rintro e w2 ⟨rfl,rfl⟩)
  go_ret
  exact⟨rfl,HC1.out,HG1.out⟩
end Go.Proofs.YtbhbilcieodbhaaGreat
/-
  A page is read. Condition: the core lies in memory, and there is such a page.
-/
namespace Go.Proofs.YtbhbilcieodbhaaGreat
set_option maxRecDepth 100000
open Go.RowKit
theorem CoreAt.far {A:Ad} {w w0:World} {K:Kor} (h:CoreAt A w K) (h0:∀ x,Cor A x\/x=A.p\/x=A.q->x<w0.heap.size) {w':World} {g:Nat} (hg:w0.heap.size<=g) (hc:Chg (·=g) w w'):CoreAt A w' K:=by
 obtain⟨f1,f2,f3,f4,f5,f6,f7⟩:=h.frame hc
 have n:∀ x,Cor A x\/x=A.p\/x=A.q->¬ x=g:=fun x hx e=>by have:=h0 x hx;omega
 exact⟨f1 (n _ (Or.inl (Or.inl rfl))),f2 (n _ (Or.inl (Or.inr (Or.inl rfl)))) (n _ (Or.inr (Or.inl rfl))) (n _ (Or.inr (Or.inr rfl))) (n _ (Or.inl (Or.inr (Or.inr (Or.inr (Or.inl rfl)))))),f3 (n _ (Or.inl (Or.inr (Or.inr (Or.inl rfl))))),f4 (n _ (Or.inl (Or.inr (Or.inr (Or.inr (Or.inr (Or.inl rfl))))))),f5 (n _ (Or.inl (Or.inr (Or.inr (Or.inr (Or.inr (Or.inr (Or.inl rfl)))))))),f6 (n _ (Or.inl (Or.inr (Or.inr (Or.inr (Or.inr (Or.inr (Or.inr (Or.inl rfl))))))))),f7 (n _ (Or.inl (Or.inr (Or.inr (Or.inr (Or.inr (Or.inr (Or.inr (Or.inr rfl))))))))),h.wf⟩
theorem CoreAt.low {A:Ad} {w:World} {K:Kor} (h:CoreAt A w K):∀ x,Cor A x\/x=A.p\/x=A.q->x<w.heap.size:=by
 obtain⟨l1,l2,l3,l4,l5,l6,l7,l8⟩:=h.lts
 obtain⟨lm,lp,lq,lb⟩:=h.med.lts
 unfold Cor
 intro x hx
 omega
theorem wrap64_range (z:Int) : -9223372036854775808<=wrap64 z/\wrap64 z<9223372036854775808:=⟨wrap64_lo z,wrap64_hi z⟩
theorem rd_out {s:Chp} {r a:Int} {s':Chp} {r':Int} {g:Pg} {c:Nat} (h:ReadR s r a s' r' g c) (hr : -9223372036854775808<=r/\r<9223372036854775808) : -9223372036854775808<=r'/\r'<9223372036854775808:=by
 rcases h.2.2 with ⟨_,rfl,_⟩ | ⟨_,rfl,_⟩
 ·
  exact hr
 ·
  exact wrap64_range _
set_option maxHeartbeats 1000000 in
theorem read_k (A:Ad) (w:World) (K:Kor) (h:CoreAt A w K) (p:Nat) (hp:p<96):Calls Tryz.prog 88 #[.pointer (some ⟨A.c,0,none⟩),.int .i64 (p:Nat)] w fun e w'=>∃ v,e=.returned (.tuple #[pgV (rdK K p).2.1 v,errV (rdK K p).2.2])/\OwnT w' w.heap.size 5 v (rdK K p).2.1.data/\CoreAt A w' (rdK K p).1/\Chg (Cor A) w w':=by
 have hbd:=build65z
 have HP:=hyd (Pb.new w false 0 0 0 0 false false (.slice none 0 0) 0)
 have G0:Chg (fun _=>False) w (w.alloc (.cells #[.bool false,.int .i64 0,.int .i64 0,.int .i64 0,.int .i64 0,.bool false,.bool false,.slice none 0 0,.int .i64 0] 129)):=(Chg.refl _ w).alloc _
 have C0:=h.chg0 G0
 obtain⟨c0,-⟩:=C0.cMed
 have hcall:=mread_any A.m A.g A.p A.q A.b K.r K.s C0.wf.chip _ C0.med C0.chip (p:Nat)
 have hs0:(w.alloc (.cells #[.bool false,.int .i64 0,.int .i64 0,.int .i64 0,.int .i64 0,.bool false,.bool false,.slice none 0 0,.int .i64 0] 129)).heap.size=w.heap.size+1:=by simp
 rw[hs0] at hcall
 have HLOW:=hyd h.low
 have HK:=hyd C0
 have HG:=hyd G0
 have q:=neq_er
 have g:=guard_neq
 have hpz:0<=((p:Nat):Int)/\((p:Nat):Int)<96:=by omega
 have hbl:=fun w=>block_of w (p:Nat) hpz
 clear h C0 G0 hs0
 go_enter Tryz.func88,Tryz.ntmps88
 go_wp2_with fail
 refine hcall.mono ?_
 rintro x w1 ⟨s',r',X,c,v,rfl,hR,hO,M1,C1,G1⟩
 clear hcall c0
 have K1:=HK.out.setMed M1 C1 G1 (HK.out.wf.med' (hR.ok HK.out.wf.chip) (rd_out hR HK.out.wf.rr))
 have hs1:=HG.out.size
 have n0:¬ (w.heap.size=A.m\/w.heap.size=A.g\/w.heap.size=A.b):=by
  rintro (e | e | e)
  ·
   have:=HLOW.out A.m (Or.inl (Or.inr (Or.inl rfl)));omega
  ·
   have:=HLOW.out A.g (Or.inl (Or.inr (Or.inr (Or.inl rfl))));omega
  ·
   have:=HLOW.out A.b (Or.inl (Or.inr (Or.inr (Or.inr (Or.inl rfl)))));omega
 have HP1:=hyd (HP.out.chg G1 n0)
 have HG1:=hyd ((Chg.cor0 (A:=A) HG.out).trans G1.cor_med)
 have HE:=hyd (hR.eq HK.out.wf.tl)
 have HR:=hyd hR
 rw[nerr_err]
 have HK1:=hyd K1
 have HO1:=hyd hO
 clear M1 C1 G1 hR hO n0 hs1 K1 HK HP HG
 have HPN:=hyd (Pb.new w1 false 0 0 0 0 false false (.slice none 0 0) 0)
 have HGN:Hid (Chg (fun _=>False) w1 (w1.alloc (.cells #[.bool false,.int .i64 0,.int .i64 0,.int .i64 0,.int .i64 0,.bool false,.bool false,.slice none 0 0,.int .i64 0] 129))):=(Chg.refl _ w1).alloc _
 have hlt1:=HP1.out.lt
 unfold pgV
 by_cases hc:c=0
 ·
  subst hc
  replace q:∀ w,(binOp .neq 33 (errV 0) .nilIface).run Tryz.prog w=.ok (.bool false) w:=fun w=>q 0 w
  go_wp2_with (first | refine wpList_store_pg rfl (.tmp 6) (.tmp 15) rfl w1.heap.size rfl rfl HO1.out.one HPN.out ?_)
  intro w2 P2 G2
  have hz1:=HGN.out.size
  have K2:=(HK1.out.chg0 HGN.out).far HLOW.out (by omega) G2
  have HP2:=hyd P2
  have HQ2:=hyd ((HP1.out.chg HGN.out (fun f=>f)).chg G2 (by omega))
  have HO2:=hyd ((HO1.out.chg HGN.out (fun _ _ _ f=>f)).chg G2 (fun k hk he e=>by have:=HO1.out.block he;omega))
  have HG2:=hyd ((HG1.out.trans HGN.out.cor0).trans' G2 (fun k hk e=>by omega))
  have hcnt:=count_k A w2 _ K2 (p / 8) (by omega) 1 (by omega)
  have hbl2:=hbl w2
  rw[show ((p:Nat):Int) / 8=((p / 8:Nat):Int) by omega] at hbl2
  have hz2:=P2.lt
  clear K2 P2 G2 hbl HK1 HO1 HP1 HG1 HPN HGN hz1
  go_wp2_with fail
  refine hbl2.mono ?_
  rintro e w3 ⟨rfl,rfl⟩
  clear hbl2
  go_wp2_with fail
  refine hcnt.mono ?_
  rintro e w4 ⟨rfl,K4,G4⟩
  have n0:¬ Cor A w.heap.size:=fun e=>by have:=HLOW.out _ (Or.inl e);omega
  have n1:¬ Cor A w1.heap.size:=fun e=>by have:=HLOW.out _ (Or.inl e);omega
  have HP4:=hyd (HP2.out.chg G4 n1)
  have HQ4:=hyd (HQ2.out.chg G4 n0)
  have HO4:=hyd (HO2.out.chg G4 (fun k hk he e=>by have:=(HO2.out.block he).1;have:=HLOW.out _ (Or.inl e);omega))
  have HK4:=hyd K4
  have HG4:=hyd (HG2.out.trans G4)
  clear hcnt K4 G4 HP2 HQ2 HO2 HG2 n0 n1
  go_wp2_with (first | refine wpList_load_pg rfl (.tmp 6) rfl w1.heap.size rfl HP4.out ?_ | refine wpList_store_pg rfl (.tmp 4) (.tmp 25) rfl w.heap.size rfl rfl HO4.out.one HQ4.out ?_)
  intro w5 P5 G5
  have HP5:=hyd P5
  have HK5:=hyd (HK4.out.far HLOW.out (Nat.le_refl _) G5)
  have HO5:=hyd (HO4.out.chg G5 (fun k hk he e=>by have:=(HO4.out.block he).1;omega))
  have HG5:=hyd (HG4.out.trans' G5 (fun k hk e=>by omega))
  clear P5 G5 HP4 HQ4 HO4 HK4 HG4
  go_wp2
  refine bodyPost_ret (results_pg2 rfl _ rfl HP5.out) rfl ?_
  have e1:rdK K p=({ K with s:=s',r:=r',hR:=cntF K.hR (p / 8:Nat) 1 },X,0):=by
   unfold rdK
   rw[HE.out]
   rfl
  rw[e1]
  exact⟨v,rfl,HO5.out.mono (fun k hk=>by have:=(HO5.out.block hk).1;omega),HK5.out,HG5.out⟩
 ·
  replace q:∀ w,(binOp .neq 33 (errV c) .nilIface).run Tryz.prog w=.ok (.bool true) w:=fun w=>by rw[q c w,decide_eq_false hc];rfl
  have HC:=hyd hc
  clear hc
  go_wp2_with (first | refine wpList_store_pg rfl (.tmp 6) (.tmp 15) rfl w1.heap.size rfl rfl HO1.out.one HPN.out ?_)
  intro w2 P2 G2
  have hz1:=HGN.out.size
  have HK2:=hyd ((HK1.out.chg0 HGN.out).far HLOW.out (by omega) G2)
  have HQ2:=hyd ((HP1.out.chg HGN.out (fun f=>f)).chg G2 (by omega))
  have HG2:=hyd ((HG1.out.trans HGN.out.cor0).trans' G2 (fun k hk e=>by omega))
  clear P2 G2 hbl HK1 HP1 HG1 HPN HGN hz1 HO1
  go_wp2_with (first | refine wpList_store_pg rfl (.tmp 4) (.tmp 19) rfl w.heap.size rfl rfl rfl HQ2.out ?_)
  intro w3 P3 G3
  have HP3:=hyd P3
  have HK3:=hyd (HK2.out.far HLOW.out (Nat.le_refl _) G3)
  have HG3:=hyd (HG2.out.trans' G3 (fun k hk e=>by omega))
  clear P3 G3 HQ2 HK2 HG2
  go_wp2
  refine bodyPost_ret (results_pg2 rfl _ rfl HP3.out) rfl ?_
  have e1:rdK K p=({ K with s:=s' },Pg.zero,c):=by
   unfold rdK
   rw[HE.out]
   simp only
   rw[if_neg HC.out]
  have e2:r'=K.r:=by
   rcases HR.out.2.2 with ⟨_,e,_⟩ | ⟨e,_⟩
   ·
    exact e
   ·
    exact absurd e HC.out
  have HKK:=HK3.out
  rw[e2] at HKK
  rw[e1]
  exact⟨.slice none 0 0,rfl,ownT_nil _ _,HKK,HG3.out⟩
end Go.Proofs.YtbhbilcieodbhaaGreat
