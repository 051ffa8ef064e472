/-
  Lemmas.
-/
import Derived.Test.YtbhbilcieodbhaaGreatOm
import Derived.Test.YtbhbilcieodbhaaGreatP03
import Derived.Deep.SlicePairs
import Derived.SizedLaws
set_option maxRecDepth 1000000
set_option maxHeartbeats 16000000
set_option linter.unusedSimpArgs false
namespace Go.Proofs.YtbhbilcieodbhaaGreat.AF
open List
open Go.Proofs.Tryz
open Go.RowKit
section
variable {w w':Wd}{b n:Nat}{t:TypeId}{F:Nat->Bool}
end
theorem addr_at(g o j:Nat):(⟨g,o,none⟩:Addr).add j=⟨g,o+j,none⟩:=Addr.add_mid g o j
def Lies (w:Wd) (a:Option Addr) (n:Nat) (V:Nat->Int):Prop:=n=0\/∃g o,a=some ⟨g,o,none⟩/\g<w.heap.size/\∀i,i<n->w.cell? ⟨g,o+i,none⟩=some (.int .i64 (V i))
def Sb (A B C:Nat->Int):Nat->Int:=fun i=>if i<12 then A i else if i<24 then B (i - 12) else C (i - 24)
theorem ju{A B C:Nat->Int}{i:Nat}(h:i<12):Sb A B C i=A i:=by unfold Sb;rw[AJ h]
theorem jv{A B C:Nat->Int}{i:Nat}(h:i<12):Sb A B C (12+i)=B i:=by
 unfold Sb;rw[AI om,AJ om,show 12+i - 12=i by omega]
theorem jw{A B C:Nat->Int}{i:Nat}:Sb A B C (24+i)=C i:=by
 unfold Sb;rw[AI om,AI om,show 24+i - 24=i by omega]
def HB (w:Wd) (b:Nat) (t:TypeId) (A B C:Nat->Int):Prop:=IB w b t 36 (Sb A B C)
section
variable {w w':Wd}{b:Nat}{t:TypeId}{A B C:Nat->Int}
theorem HB.drew(h:HB w b t A B C):HB w.drew b t A B C:=h
theorem HB.ca(h:HB w b t A B C)(i:Nat)(hi:i<12):w.cell? ⟨b,i,none⟩=some (.int .i64 (A i))/\w.frozen? ⟨b,i,none⟩=false:=by
 have:=IB.cell h i om;rw[ju hi] at this;exact this
theorem HB.cb(h:HB w b t A B C)(i:Nat)(hi:i<12):w.cell? ⟨b,12+i,none⟩=some (.int .i64 (B i))/\w.frozen? ⟨b,12+i,none⟩=false:=by
 have:=IB.cell h (12+i) om;rw[jv hi] at this;exact this
theorem HB.cc(h:HB w b t A B C)(i:Nat)(hi:i<12):w.cell? ⟨b,24+i,none⟩=some (.int .i64 (C i))/\w.frozen? ⟨b,24+i,none⟩=false:=by
 have:=IB.cell h (24+i) om;rw[jw] at this;exact this
theorem HB.congr{A' B' C':Nat->Int}(h:HB w b t A B C)(ea:∀i,i<12->A i=A' i)(eb:∀i,i<12->B i=B' i)(ec:∀i,i<12->C i=C' i):HB w b t A' B' C':=
 IB.congr h fun i hi=>by
  unfold Sb
  split
  ·
   exact ea i om
  ·
   split
   ·
    exact eb _ om
   ·
    exact ec _ om
theorem HB.setA(h:HB w b t A B C)(i:Nat)(hi:i<12)(z:Int):HB (w.setCell ⟨b,i,none⟩ (.int .i64 z)) b t (upd A i z) B C:=
 (IB.set h i z).congr fun j hj=>by
  simp only[Sb,upd]
  by_cases e:j=i
  ·
   rw[AJ e,AJ om,AJ e]
  ·
   rw[AI e]
   split
   ·
    rfl
   ·
    rfl
theorem HB.setB(h:HB w b t A B C)(i:Nat)(hi:i<12)(z:Int):HB (w.setCell ⟨b,12+i,none⟩ (.int .i64 z)) b t A (upd B i z) C:=
 (IB.set h (12+i) z).congr fun j hj=>by
  simp only[Sb,upd]
  by_cases e:j=12+i
  ·
   rw[AJ e,AI om,AJ om,AJ om]
  ·
   rw[AI e]
   split
   ·
    rfl
   ·
    split
    ·
     rw[AI om]
    ·
     rfl
theorem HB.setC(h:HB w b t A B C)(i:Nat)(hi:i<12)(z:Int):HB (w.setCell ⟨b,24+i,none⟩ (.int .i64 z)) b t A B (upd C i z):=
 (IB.set h (24+i) z).congr fun j hj=>by
  simp only[Sb,upd]
  by_cases e:j=24+i
  ·
   rw[AJ e,AI om,AI om,AJ om]
  ·
   rw[AI e]
   split
   ·
    rfl
   ·
    split
    ·
     rfl
    ·
     rw[AI om]
theorem HB.partA(h:HB w b t A B C):w.rangeAt b 0 (ints A 12):=fun j v hv=>by
 have hj:j<12:=by have:=(List.getElem?_eq_some_iff.1 hv).1;rwa [BD] at this
 rw[AW,(h.ca j hj).1,<-hv,BM A 12 j hj];rfl
theorem HB.partC(h:HB w b t A B C):w.rangeAt b 24 (ints C 12):=fun j v hv=>by
 have hj:j<12:=by have:=(List.getElem?_eq_some_iff.1 hv).1;rwa [BD] at this
 rw[(h.cc j hj).1,<-hv,BM C 12 j hj];rfl
theorem IB.there{n:Nat}{F:Nat->Int}(h:IB w b t n F)(o m:Nat)(hn:o+m<=n):w.there b o m:=fun j hj=>by
 obtain⟨c,f⟩:=h.cell (o+j) om
 exact⟨by rw[c];rfl,f⟩
def VF (F:Nat->Int) (o:Nat) (l:List Int):Nat->Int:=fun j=>if o<=j/\j<o+l.length then l.getD (j - o) 0 else F j
end
theorem IB.setL{b n:Nat}{t:TypeId}:∀(l:List Int) (o:Nat) {w:Wd} {F:Nat->Int} (_:IB w b t n F),IB (w.setCells b o (l.map i6)) b t n (VF F o l)
 | [],o,w,F,h=>by
  have e:VF F o []=F:=by
   funext j;unfold VF;rw[AI (by simp)]
  rw[e];simpa[World.setCells] using h
 | x :: r,o,w,F,h=>by
  simp only[map_cons,World.setCells];refine(IB.setL r (o+1) (h.set o x)).congr fun j _=>?_;unfold VF upd;simp only[An];by_cases e:j=o
  ·rw[AI om,AJ e,AJ om,show j - o=0 by omega];rfl
  ·by_cases h2:o+1<=j/\j<o+1+r.length
   ·rw[AJ h2,AJ om,show j - o=(j - (o+1))+1 by omega];rfl
   ·rw[AI h2,AI e,AI om]
theorem IB.setI{w:Wd}{b n:Nat}{t:TypeId}{F:Nat->Int}(h:IB w b t n F)(o m:Nat)(G:Nat->Int):IB (w.setCells b o (ints G m)) b t n (fun j=>if o<=j/\j<o+m then G (j - o) else F j):=by
 have h1:=IB.setL ((List.range m).map G) o h;have e:((List.range m).map G).map i6=ints G m:=by simp[ints]
 rw[e] at h1;refine h1.congr fun j _=>?_;unfold VF;simp only[A7,length_range];split
 ·rename_i hh;rw[AQ,List.getElem?_map,List.getElem?_range om];rfl
 ·rfl
section
variable {w w':Wd}{b:Nat}{t:TypeId}{A B C:Nat->Int}
theorem HB.rowB(h:HB w b t A B C)(G:Nat->Int):HB (w.setCells b 12 (ints G 12)) b t A G C:=
 (IB.setI h 12 12 G).congr fun j hj=>by
  unfold Sb
  by_cases h1:j<12
  ·
   rw[AI om,AJ h1,AJ h1]
  ·
   by_cases h2:j<24
   ·
    rw[AJ om,AI h1,AJ h2]
   ·
    rw[AI om,AI h1,AI h2,AI h1,AI h2]
theorem Chg.setCells{S:Nat->Prop}{u:Wd}{g:Nat}(hg:S g\/u.heap.size<=g):∀(vs:List Value) (o:Nat) {w:Wd} (_:Chg S u w),Chg S u (w.setCells g o vs)
 | [],_,_,h=>h
 | v :: vs,o,_,h=>Chg.setCells hg vs (o+1) (h.setCell hg o v)
end
theorem Jf:(prog.info? 37).map (·.size)=some 12:=kr
theorem size3:(prog.info? 3).map (·.size)=some 1:=kr
theorem Dk{ops:Array Oper}{rest:List Oper}{op:Oper}{a:Act}{w:Wd}{Q:Exit->Act->World->Prop}(hgd:op.guard=none)(x:Operand)(ho:op.op=.load 37 x)(b o:Nat)(hx:a.eval x=.pointer (some ⟨b,o,none⟩))(F:Nat->Int)(hc:w.rangeAt b o (ints F 12))(h:wpList prog ops Q rest (a.put op.dst (.agg (ints F 12).toArray)) w):wpList prog ops Q (op :: rest) a w:=by
 refine wpList_load_mid hgd 37 x ho b o hx (ints F 12) _ hc underlying37 rfl (by rw[BD];exact Jf) h
theorem IZ{ops:Array Oper}{rest:List Oper}{op:Oper}{a:Act}{w:Wd}{Q:Exit->Act->World->Prop}(hgd:op.guard=none)(x y:Operand)(ho:op.op=.store 37 x y)(b o:Nat)(F:Nat->Int)(hx:a.eval x=.pointer (some ⟨b,o,none⟩))(hy:a.eval y=.agg (ints F 12).toArray)(ht:w.there b o 12)(h:wpList prog ops Q rest (a.put op.dst undef) (w.setCells b o (ints F 12))):wpList prog ops Q (op :: rest) a w:=by
 refine wpList_store_mid hgd 37 x y ho b o (ints F 12).toArray hx hy (by simpa[BD] using ht) (by simpa[BD] using Jf) (all_oneCell_toArray (CK F 12)) ?_;simpa using h
def Fk (R N S:Nat->Int):Prop:=∀i,i<12->(0<=R i/\R i<=65535)/\(0<=N i/\N i<=65535)/\(0<=S i/\S i<=255)
def Io (z:Int):Nat:=if 0<=z/\z<12 then 0 else 1
def Fl (m:Int) (F:Nat->Int) (z:Int):Nat->Int:=if 0<=z/\z<12 then upd F z.toNat (min (F z.toNat+1) m) else F
def FA (F:Nat->Int) (z:Int):Nat->Int:=if 0<=z/\z<12 then upd F z.toNat 0 else F
def much (k:Int) (F:Nat->Int) (z:Int):Bool:=if 0<=z/\z<12 then decide (F z.toNat ≥ k) else false
theorem Jg(z:Int)(h:0<=z/\z<12):∃n:Nat,n<12/\z=n:=⟨z.toNat,om,om⟩
theorem Jh(m:Int)(F:Nat->Int)(n:Nat)(h:n<12):Fl m F n=upd F n (min (F n+1) m):=by
 unfold Fl;rw[AJ om,AP]
theorem EM(F:Nat->Int)(n:Nat)(h:n<12):FA F n=upd F n 0:=by
 unfold FA;rw[AJ om,AP]
theorem NO(k:Int)(F:Nat->Int)(n:Nat)(h:n<12):much k F n=decide (F n ≥ k):=by
 unfold much;rw[AJ om,AP]
theorem Eb(n:Nat)(h:n<12):Io n=0:=by unfold Io;rw[AJ om]
theorem Fk.more3{R N S:Nat->Int}(h:Fk R N S)(z:Int):Fk R N (Fl 255 S z):=fun i hi=>by
 have hh:=h i hi
 refine⟨hh.1,hh.2.1,?_⟩
 unfold Fl
 split
 ·
  unfold upd
  split
  ·
   rename_i e;rw[<-e];omega
  ·
   exact hh.2.2
 ·
  exact hh.2.2
theorem Fk.none{R N S:Nat->Int}(h:Fk R N S)(z:Int):Fk (FA R z) (FA N z) S:=fun i hi=>by
 have hh:=h i hi
 unfold FA
 split
 ·
  unfold upd
  split
  ·
   exact⟨om,om,hh.2.2⟩
  ·
   exact hh
 ·
  exact hh
theorem Fk.noted{R N S:Nat->Int}(h:Fk R N S):Fk R R S:=fun i hi=>⟨(h i hi).1,(h i hi).1,(h i hi).2.2⟩
theorem block_yes(w:Wd)(n:Nat)(h1:n<12):Calls prog 128 #[.int .i64 n] w fun e w'=>e=.returned (.bool true)/\w'=w:=by
 have h2:(n:Int)<12:=om
 go_enter func128,ntmps128;go_wp2;go_ret;exact⟨rfl,rfl⟩
theorem block_no(w:Wd)(n:Int)(h:¬ (0<=n/\n<12)):Calls prog 128 #[.int .i64 n] w fun e w'=>e=.returned (.bool false)/\w'=w:=by
 by_cases h0:0<=n
 ·have h1:¬ n<12:=om
  clear h;go_enter func128,ntmps128;go_wp2;go_ret;exact⟨rfl,rfl⟩
 ·clear h;go_enter func128,ntmps128;go_wp2;go_ret;exact⟨rfl,rfl⟩
def Sc (R N:Nat->Int):Bool:=(List.range 12).any fun i=>decide (64<=R i - N i)
theorem Zs{R N:Nat->Int}{i:Nat}(hi:i<12)(h:64<=R i - N i):Sc R N=true:=by
 unfold Sc;rw[any_eq_true];exact⟨i,mem_range.2 hi,AO h⟩
theorem eI{R N:Nat->Int}(h:∀j,j<12->¬ 64<=R j - N j):Sc R N=false:=by
 unfold Sc;rw[any_eq_false];intro i hi;simpa using h i (mem_range.1 hi)
theorem make12(w:Wd):(Instr.makeSlice 22 (.int .i64 12) (.int .i64 12)).run prog w=.ok (.slice (some ⟨w.heap.size,0,none⟩) 12 12) (w.alloc (.cells (ints (fun _=>0) 12).toArray 3)):=kr
theorem NP(w:Wd)(F:Nat->Int):Calls prog 86 #[.agg (ints F 12).toArray] w fun e w'=>e=.returned (.slice (some ⟨w.heap.size+1,0,none⟩) 12 12)/\IB w' (w.heap.size+1) 3 12 F/\Chg No w w':=by
 have hm:=make12;have HA:=BB (IB.new w 37 12 F);have HG0:Hid (Chg No w (w.alloc (.cells (ints F 12).toArray 37))):=(Chg.refl _ w).alloc _;have es:(w.alloc (.cells (ints F 12).toArray 37)).heap.size=w.heap.size+1:=by simp
 have HK0:=BB (IB.new (w.alloc (.cells (ints F 12).toArray 37)) 3 12 (fun _=>0));have HG1:Hid (Chg No (w.alloc (.cells (ints F 12).toArray 37)) ((w.alloc (.cells (ints F 12).toArray 37)).alloc (.cells (ints (fun _=>0) 12).toArray 3))):=(Chg.refl _ _).alloc _;rw[es] at HK0;have HK:=BB (HA.out.chg HG1.out (fun f=>f));clear HA;go_enter func86,ntmps86;go_wp2_with (refine wpList_copy_own rfl (.tmp 5) (.tmp 6) 22 22 rfl 3 underlying22 size3 (w.heap.size+1) 0 12 12 ⟨w.heap.size,0,none⟩ 12 12 rfl rfl (ints (fun _=>0) 12).toArray 3 HK0.out (ints F 12) (by rw[BD];rfl) (fun j v hv=>by rw[addr_at,AW,(HK.out.cell j (by have:=(List.getElem?_eq_some_iff.1 hv).1;rw[BD] at this;omega)).1,<-hv,BM _ _ _ (by have:=(List.getElem?_eq_some_iff.1 hv).1;rw[BD] at this;omega)];rfl) (by simp[BD]) (CK F 12) ?_);go_ret;have e1:(ints F 12 ++ List.drop (ints F 12).length (ints (fun _=>0) 12)).toArray=(ints F 12).toArray:=by
  rw[BD,drop_of_length_le (by simp[BD]),append_nil]
 rw[e1];exact⟨rfl,HK0.out.row F,(HG0.out.trans HG1.out).trans' (DF _ _ _) (fun i hi e=>om)⟩
theorem Oz(w:Wd)(p:Nat)(R N S:Nat->Int)(h:HB w p 170 R N S)(ok:Fk R N S)(z:Int):Calls prog 141 #[.pointer (some ⟨p,0,none⟩),.int .i64 z] w fun e w'=>e=.returned (errV (Io z))/\HB w' p 170 (Fl 65535 R z) N S/\Chg (·=p) w w':=by
 by_cases hz:0<=z/\z<12
 ·obtain⟨n,hn,rfl⟩:=Jg z hz;rw[Jh _ _ _ hn,Eb n hn];obtain⟨c,f⟩:=h.ca n hn;have hb:=(ok n hn).1;have hb1:=hb.1;have hb2:=hb.2;have hnz:(n:Int)<12:=om
  have HK:=BB h;have HN:=BB hn;clear h hz hb ok;by_cases hm:R n+1<=65535
  ·rw[show min (R n+1) 65535=R n+1 by omega];generalize R n=u at *
   go_enter func141,ntmps141;go_wp2_with (go_at_call 128;refine(block_yes _ _ hn).mono ?_;rintro e w1 ⟨rfl,rfl⟩);go_region;go_wp2;go_ret;try rw[show min (u+1) 65535=u+1 by omega]
   exact⟨rfl,HK.out.setA n HN.out _,((Chg.refl (·=p) _).drew).setCell (AK rfl) _ _⟩
  ·rw[show min (R n+1) 65535=65535 by omega];generalize R n=u at *
   go_enter func141,ntmps141;go_wp2_with (go_at_call 128;refine(block_yes _ _ hn).mono ?_;rintro e w1 ⟨rfl,rfl⟩);go_region;go_wp2;go_ret;try rw[show min (u+1) 65535=65535 by omega]
   exact⟨rfl,HK.out.setA n HN.out _,((Chg.refl (·=p) _).drew).setCell (AK rfl) _ _⟩
 ·have HE:Hid (Fl 65535 R z=R/\Io z=1):=⟨by unfold Fl;rw[AI hz],by unfold Io;rw[AI hz]⟩;have HK:=BB h;clear h ok;rw[HE.out.1,HE.out.2];go_enter func141,ntmps141;go_wp2_with (go_at_call 128;refine(block_no _ _ hz).mono ?_;rintro e w1 ⟨rfl,rfl⟩);go_ret;exact⟨rfl,HK.out,Chg.refl _ _⟩
theorem VG(w:Wd)(p:Nat)(R N S:Nat->Int)(h:HB w p 170 R N S)(ok:Fk R N S)(z:Int):Calls prog 91 #[.pointer (some ⟨p,0,none⟩),.int .i64 z] w fun e w'=>e=.returned (errV (Io z))/\HB w' p 170 R N (Fl 255 S z)/\Chg (·=p) w w':=by
 by_cases hz:0<=z/\z<12
 ·obtain⟨n,hn,rfl⟩:=Jg z hz;rw[Jh _ _ _ hn,Eb n hn];obtain⟨c,f⟩:=h.cc n hn;have hb:=(ok n hn).2.2;have hb1:=hb.1;have hb2:=hb.2;have hnz:(n:Int)<12:=om
  have HK:=BB h;have HN:=BB hn;clear h hz hb ok;by_cases hm:S n+1<=255
  ·rw[show min (S n+1) 255=S n+1 by omega];generalize S n=u at *
   go_enter func91,ntmps91;go_wp2_with (go_at_call 128;refine(block_yes _ _ hn).mono ?_;rintro e w1 ⟨rfl,rfl⟩);go_region;go_wp2;go_ret;try rw[show min (u+1) 255=u+1 by omega]
   exact⟨rfl,HK.out.setC n HN.out _,((Chg.refl (·=p) _).drew).setCell (AK rfl) _ _⟩
  ·rw[show min (S n+1) 255=255 by omega];generalize S n=u at *
   go_enter func91,ntmps91;go_wp2_with (go_at_call 128;refine(block_yes _ _ hn).mono ?_;rintro e w1 ⟨rfl,rfl⟩);go_region;go_wp2;go_ret;try rw[show min (u+1) 255=255 by omega]
   exact⟨rfl,HK.out.setC n HN.out _,((Chg.refl (·=p) _).drew).setCell (AK rfl) _ _⟩
 ·have HE:Hid (Fl 255 S z=S/\Io z=1):=⟨by unfold Fl;rw[AI hz],by unfold Io;rw[AI hz]⟩;have HK:=BB h;clear h ok;rw[HE.out.1,HE.out.2];go_enter func91,ntmps91;go_wp2_with (go_at_call 128;refine(block_no _ _ hz).mono ?_;rintro e w1 ⟨rfl,rfl⟩);go_ret;exact⟨rfl,HK.out,Chg.refl _ _⟩
theorem VH(w:Wd)(p:Nat)(R N S:Nat->Int)(h:HB w p 170 R N S)(_:Fk R N S)(z:Int):Calls prog 183 #[.pointer (some ⟨p,0,none⟩),.int .i64 z] w fun e w'=>e=.returned (errV (Io z))/\HB w' p 170 (FA R z) (FA N z) S/\Chg (·=p) w w':=by
 by_cases hz:0<=z/\z<12
 ·obtain⟨n,hn,rfl⟩:=Jg z hz;rw[EM _ _ hn,EM _ _ hn,Eb n hn];obtain⟨c,f⟩:=h.ca n hn;have HK1:=BB (h.setA n hn 0);obtain⟨c',f'⟩:=HK1.out.cb n hn;have hnz:(n:Int)<12:=om
  have HN:=BB hn;clear h hz;go_enter func183,ntmps183;go_wp2_with (go_at_call 128;refine(block_yes _ _ hn).mono ?_;rintro e w1 ⟨rfl,rfl⟩);go_region;go_wp2;go_ret;exact⟨rfl,HK1.out.setB n HN.out _,(((Chg.refl (·=p) _).drew).setCell (AK rfl) _ _).setCell (AK rfl) _ _⟩
 ·have HE:Hid (FA R z=R/\FA N z=N/\Io z=1):=⟨by unfold FA;rw[AI hz],by unfold FA;rw[AI hz],by unfold Io;rw[AI hz]⟩;have HK:=BB h;clear h;rw[HE.out.1,HE.out.2.1,HE.out.2.2];go_enter func183,ntmps183;go_wp2_with (go_at_call 128;refine(block_no _ _ hz).mono ?_;rintro e w1 ⟨rfl,rfl⟩);go_ret;exact⟨rfl,HK.out,Chg.refl _ _⟩
theorem Zt(w:Wd)(p:Nat)(R N S:Nat->Int)(h:HB w p 170 R N S)(_:Fk R N S)(z:Int):Calls prog 108 #[.pointer (some ⟨p,0,none⟩),.int .i64 z] w fun e w'=>e=.returned (.tuple #[.bool (much 512 R z),errV (Io z)])/\w'=w:=by
 by_cases hz:0<=z/\z<12
 ·obtain⟨n,hn,rfl⟩:=Jg z hz;rw[NO _ _ _ hn,Eb n hn];obtain⟨c,-⟩:=h.ca n hn;have hnz:(n:Int)<12:=om
  clear h hz;generalize R n=u at *
  go_enter func108,ntmps108;go_wp2_with (go_at_call 128;refine(block_yes _ _ hn).mono ?_;rintro e w1 ⟨rfl,rfl⟩);go_ret2;exact⟨rfl,rfl⟩
 ·have HE:Hid (much 512 R z=false/\Io z=1):=⟨by unfold much;rw[AI hz],by unfold Io;rw[AI hz]⟩;clear h;rw[HE.out.1,HE.out.2];go_enter func108,ntmps108;go_wp2_with (go_at_call 128;refine(block_no _ _ hz).mono ?_;rintro e w1 ⟨rfl,rfl⟩);go_ret2;exact⟨rfl,rfl⟩
theorem eJ(w:Wd)(p:Nat)(R N S:Nat->Int)(h:HB w p 170 R N S)(_:Fk R N S)(z:Int):Calls prog 147 #[.pointer (some ⟨p,0,none⟩),.int .i64 z] w fun e w'=>e=.returned (.tuple #[.bool (much 3 S z),errV (Io z)])/\w'=w:=by
 by_cases hz:0<=z/\z<12
 ·obtain⟨n,hn,rfl⟩:=Jg z hz;rw[NO _ _ _ hn,Eb n hn];obtain⟨c,-⟩:=h.cc n hn;have hnz:(n:Int)<12:=om
  clear h hz;generalize S n=u at *
  go_enter func147,ntmps147;go_wp2_with (go_at_call 128;refine(block_yes _ _ hn).mono ?_;rintro e w1 ⟨rfl,rfl⟩);go_ret2;exact⟨rfl,rfl⟩
 ·have HE:Hid (much 3 S z=false/\Io z=1):=⟨by unfold much;rw[AI hz],by unfold Io;rw[AI hz]⟩;clear h;rw[HE.out.1,HE.out.2];go_enter func147,ntmps147;go_wp2_with (go_at_call 128;refine(block_no _ _ hz).mono ?_;rintro e w1 ⟨rfl,rfl⟩);go_ret2;exact⟨rfl,rfl⟩
theorem Qo(w:Wd)(p:Nat)(R N S:Nat->Int)(h:HB w p 170 R N S)(_:Fk R N S):Calls prog 122 #[.pointer (some ⟨p,0,none⟩)] w fun e w'=>e=.returned (.tuple #[])/\HB w' p 170 R R S/\Chg (·=p) w w':=by
 have HK:=BB h;clear h;go_enter func122,ntmps122;go_wp2_with (first | (refine Dk rfl (.tmp 5) rfl p 0 rfl R HK.out.partA ?_) | (refine IZ rfl (.tmp 8) (.tmp 6) rfl p 12 R rfl rfl (IB.there HK.out 12 12 om) ?_));go_end0;exact⟨rfl,HK.out.rowB R,Chg.setCells (S:=(·=p)) (AK rfl) _ _ (Chg.refl _ _)⟩
theorem jx(w:Wd)(p:Nat)(R N S:Nat->Int)(h:HB w p 170 R N S)(ok:Fk R N S):Calls prog 77 #[.pointer (some ⟨p,0,none⟩)] w fun e w'=>e=.returned (.bool (Sc R N))/\∃m,w'=w.drewN m:=by
 have HK:=BB h;have HO:=BB ok;clear h ok;go_enter func77,ntmps77;go_wp2_with fail
 go_loopg [4] 12 (fun kx s4 wr=>∃(i m:Nat),s4=.int .i64 i/\i<=12/\12 - i<=kx/\Hid (∀j,j<i->¬ 64<=R j - N j)/\Hid (wr=w.drewN m))
 case atStart=>exact⟨0,0,rfl,om,om,fun j hj=>absurd hj (Nat.not_lt_zero _),rfl⟩
 case round=>
 obtain⟨i,m,rfl,hin,hkx,HI,HM⟩:=hrel;obtain rfl:=HM.out;clear HM;by_cases hlt:i<12
 ·have hltz:(i:Int)<12:=om
  obtain⟨c,-⟩:=HK.out.ca i hlt;obtain⟨c',-⟩:=HK.out.cb i hlt;have hb:=HO.out i hlt;have hb1:=hb.1.1;have hb2:=hb.1.2;have hb3:=hb.2.1.1;have hb4:=hb.2.1.2;clear hb;by_cases hd:64<=R i - N i
  ·have HD:=BB (Zs hlt hd);generalize R i=u at *
   generalize N i=v at *
   go_wp2_with fail
   go_quiet (fail)
   go_wp2;go_ret;exact⟨by rw[HD.out];rfl,_,World.drewN_drewN _ _ _⟩
  ·have HI':Hid (∀j,j<i+1->¬ 64<=R j - N j):=fun j hj=>by
    by_cases e:j=i
    ·rw[e];exact hd
    ·exact HI.out j om
   generalize R i=u at *
   generalize N i=v at *
   go_wp2_with fail
   go_quiet (fail)
   go_wp2
   go_roundg (12 - (i+1))
   case measure=>omega
   case rel=>exact⟨i+1,_,by simp,om,AM _,HI',rfl⟩
 ·have hltz:¬ (i:Int)<12:=om
  obtain rfl:i=12:=om
  have HD:=BB (eI HI.out);go_wp2;go_ret;exact⟨by rw[HD.out];rfl,_,rfl⟩
theorem Qp(w:Wd)(p:Nat)(R N S:Nat->Int)(h:HB w p 170 R N S)(_:Fk R N S):Calls prog 54 #[.pointer (some ⟨p,0,none⟩)] w fun e w'=>e=.returned (.slice (some ⟨w.heap.size+1,0,none⟩) 12 12)/\IB w' (w.heap.size+1) 3 12 R/\Chg No w w':=by
 have HK:=BB h;clear h;go_enter func54,ntmps54;go_wp2_with (first | (refine Dk rfl (.tmp 5) rfl p 0 rfl R HK.out.partA ?_) | (go_at_call 86;refine(NP w R).mono ?_;rintro e w1 ⟨rfl,K1,G1⟩));go_ret;exact⟨rfl,K1,G1⟩
theorem NQ(w:Wd)(p:Nat)(R N S:Nat->Int)(h:HB w p 170 R N S)(_:Fk R N S):Calls prog 55 #[.pointer (some ⟨p,0,none⟩)] w fun e w'=>e=.returned (.slice (some ⟨w.heap.size+1,0,none⟩) 12 12)/\IB w' (w.heap.size+1) 3 12 S/\Chg No w w':=by
 have HK:=BB h;clear h;go_enter func55,ntmps55;go_wp2_with (first | (refine Dk rfl (.tmp 5) rfl p 24 rfl S HK.out.partC ?_) | (go_at_call 86;refine(NP w S).mono ?_;rintro e w1 ⟨rfl,K1,G1⟩));go_ret;exact⟨rfl,K1,G1⟩
def eM (n:Nat) (V:Nat->Int):Bool:=decide (n=12) && (List.range 12).all fun i=>decide (0<=V i)
theorem Fd(n:Nat)(V:Nat->Int):eM n V=true<->n=12/\∀i,i<12->0<=V i:=by
 unfold eM;simp[all_eq_true]
theorem Qq{n:Nat}{V:Nat->Int}(h:¬ (n=12/\∀i,i<12->0<=V i)):eM n V=false:=by
 cases e:eM n V with
 | false=>rfl
 | true=>exact absurd ((Fd n V).1 e) h
theorem NR(w:Wd)(a:Option Addr)(n c:Nat)(V:Nat->Int)(hl:Lies w a n V):Calls prog 210 #[.slice a n c] w fun e w'=>e=.returned (.bool (eM n V))/\w'=w:=by
 by_cases hn:n=12
 ·subst hn;rcases hl with hl | ⟨g,o,rfl,hg,hl⟩
  ·omega
  have HL:=BB hl;clear hl hg;go_enter func210,ntmps210;go_wp2_with fail
  go_loopg [10] 12 (fun kx s10 wr=>∃i:Nat,s10=.int .i64 i/\i<=12/\12 - i<=kx/\Hid (∀j,j<i->0<=V j)/\wr=w)
  case atStart=>exact⟨0,rfl,om,om,fun j hj=>absurd hj (Nat.not_lt_zero _),rfl⟩
  case round=>
  obtain⟨i,rfl,hin,hkx,HI,rfl⟩:=hrel;by_cases hlt:i<12
  ·have hltz:(i:Int)<12:=om;have x0:=HL.out i hlt;by_cases hv:V i<0
   ·have HD:=BB (Qq (n:=12) (V:=V) fun h=>by have:=h.2 i hlt;omega);generalize V i=u at *
    go_wp2;go_ret;exact⟨by rw[HD.out];rfl,rfl⟩
   ·have HI':Hid (∀j,j<i+1->0<=V j):=fun j hj=>by
     by_cases e:j=i
     ·rw[e];omega
     ·exact HI.out j om
    generalize V i=u at *
    go_wp2
    go_roundg (12 - (i+1))
    case measure=>omega
    case rel=>exact⟨i+1,by simp,om,AM _,HI',rfl⟩
  ·have hltz:¬ (i:Int)<12:=om;obtain rfl:i=12:=om
   have HD:=BB ((Fd 12 V).2 ⟨rfl,HI.out⟩);clear HI HL;go_wp2;go_ret;exact⟨by rw[HD.out];rfl,rfl⟩
 ·have HD:=BB (Qq (V:=V) (fun h=>hn h.1));have h2:((n:Int) != 12)=true:=by simp only[bne_iff_ne];omega
  clear hn hl;go_enter func210,ntmps210;go_wp2;go_ret;exact⟨by rw[HD.out];rfl,rfl⟩
def lim (m:Int) (V:Nat->Int):Nat->Int:=fun i=>min (V i) m
def pre (k:Nat) (F:Nat->Int):Nat->Int:=fun j=>if j<k then F j else 0
theorem Qr(k:Nat)(F:Nat->Int):upd (pre k F) k (F k)=pre (k+1) F:=by
 funext j;unfold upd pre;by_cases e:j=k
 ·subst e;rw[AJ rfl,AJ om]
 ·rw[AI e];by_cases h:j<k
  ·rw[AJ h,AJ om]
  ·rw[AI h,AI om]
theorem Gk(k:Nat)(F:Nat->Int)(z:Int)(h:z=F k):upd (pre k F) k z=pre (k+1) F:=by rw[h,Qr]
theorem zero48(w:Wd):(zeroValue 170).run prog w=.ok (.agg (ints (Sb (fun _=>0) (fun _=>0) (fun _=>0)) 36).toArray) w:=kr
theorem new_yes(w:Wd)(pr ps:Option Addr)(nr ns cr cs:Nat)(V U:Nat->Int)(hr:Lies w pr nr V)(hs:Lies w ps ns U)(h1:eM nr V=true)(h2:eM ns U=true):Calls prog 175 #[.slice pr nr cr,.slice ps ns cs] w fun e w'=>e=.returned (.tuple #[.pointer (some ⟨w.heap.size,0,none⟩),.nilIface])/\HB w' w.heap.size 170 (lim 65535 V) (lim 65535 V) (lim 255 U)/\Chg No w w':=by
 have c1:=NR w pr nr cr V hr;have c2:=NR w ps ns cs U hs;obtain⟨rfl,hV⟩:=(Fd _ _).1 h1;obtain⟨rfl,hU⟩:=(Fd _ _).1 h2;rw[h1] at c1;rw[h2] at c2;rcases hr with hr | ⟨gr,or_,rfl,hgr,hr⟩
 ·omega
 rcases hs with hs | ⟨gs,os,rfl,hgs,hs⟩
 ·omega
 have HR:=BB hr;have HS:=BB hs;have HGL:=BB (And.intro hgr hgs);have HN:=BB (And.intro hV hU);clear hr hs hgr hgs hV hU h1 h2;go_enter func175,ntmps175;go_wp2_with fail;refine c1.mono ?_;rintro e w1 ⟨rfl,rfl⟩;go_wp2_with fail;refine c2.mono ?_;rintro e w1 ⟨rfl,rfl⟩;clear c1 c2;go_wp2_with (refine DB rfl 170 rfl w1.heap.size rfl zero48 ?_);intro w2 K1 G1 S1;have HK1:=BB (show HB w2 w1.heap.size 170 (fun _=>0) (fun _=>0) (fun _=>0) from K1);have HG1:=BB G1;clear K1 G1 S1;generalize HB0:w1.heap.size=b at *
 have HB0:=BB HB0;go_wp2_with fail
 go_loopg [18] 12 (fun kx s18 wr=>∃i:Nat,s18=.int .i64 i/\i<=12/\12 - i<=kx/\Hid (HB wr b 170 (pre i (lim 65535 V)) (fun _=>0) (pre i (lim 255 U)))/\Hid (Chg No w1 wr))
 case atStart=>exact⟨0,rfl,om,om,HK1,HG1⟩
 case round=>
 obtain⟨i,rfl,hin,hkx,HK,HG⟩:=hrel;clear HK1 HG1;by_cases hlt:i<12
 ·have hltz:(i:Int)<12:=om
  have x0:=(HG.out.cell (by rw[HB0.out];exact HGL.out.1) (fun f=>f) _).trans (HR.out i hlt);have y0:=HK.out.ca i hlt;obtain⟨y0,z0⟩:=y0;have KA:∀z,z=min (V i) 65535->HB (wr.setCell ⟨b,i,none⟩ (.int .i64 z)).drew b 170 (pre (i+1) (lim 65535 V)) (fun _=>0) (pre i (lim 255 U)):=fun z e=>by
   have:=(HK.out.setA i hlt z).drew;rw[e,show min (V i) 65535=lim 65535 V i from rfl,Qr] at this;rw[e];exact this
  have GA:∀z:Int,Chg No w1 (wr.setCell ⟨b,i,none⟩ (.int .i64 z)).drew:=fun z=>(HG.out.setCell (AL (by rw[HB0.out];exact AM _)) _ _).drew;have HKA:=BB KA;have HGA:=BB GA;clear KA GA HK HG;generalize HVV:V i=u at *
  have HVV:=BB HVV;by_cases h1:u<=65535
  ·have HK5:=BB (HKA.out u om);have HG5:=BB (HGA.out u);clear HKA HGA;go_wp2_with fail;go_region;obtain⟨w5,HW5⟩:∃w5,Hid (w5=(wr.setCell ⟨b,i,none⟩ (.int .i64 u)).drew):=⟨_,rfl⟩;rw[<-HW5.out] at HK5 HG5;go_wp2_with fail;rw[<-HW5.out];clear HW5 x0 y0 z0;have x1:=(HG5.out.cell (by rw[HB0.out];exact HGL.out.2) (fun f=>f) _).trans (HS.out i hlt);obtain⟨y1,z1⟩:=HK5.out.cc i hlt;have HL2:Hid (lim 255 U i=min (U i) 255):=rfl;generalize U i=v at *
   by_cases h2:v<=255
   ·go_region;go_wp2
    go_roundg (12 - (i+1))
    case measure=>omega
    case rel=>
     refine⟨i+1,by simp,om,AM _,?_,?_⟩
     ·have k:=HK5.out.drew.setC i hlt v;rw[Gk i (lim 255 U) v (by rw[HL2.out];omega)] at k;exact k
     ·exact HG5.out.drew.setCell (AL (by rw[HB0.out];exact AM _)) _ _
   ·go_region;go_wp2
    go_roundg (12 - (i+1))
    case measure=>omega
    case rel=>
     refine⟨i+1,by simp,om,AM _,?_,?_⟩
     ·have k:=HK5.out.drew.setC i hlt 255;rw[Gk i (lim 255 U) 255 (by rw[HL2.out];omega)] at k;exact k
     ·exact HG5.out.drew.setCell (AL (by rw[HB0.out];exact AM _)) _ _
  ·have HK5:=BB (HKA.out 65535 om);have HG5:=BB (HGA.out 65535);clear HKA HGA;go_wp2_with fail;go_region;obtain⟨w5,HW5⟩:∃w5,Hid (w5=(wr.setCell ⟨b,i,none⟩ (.int .i64 65535)).drew):=⟨_,rfl⟩;rw[<-HW5.out] at HK5 HG5;go_wp2_with fail;rw[<-HW5.out];clear HW5 x0 y0 z0;have x1:=(HG5.out.cell (by rw[HB0.out];exact HGL.out.2) (fun f=>f) _).trans (HS.out i hlt);obtain⟨y1,z1⟩:=HK5.out.cc i hlt;have HL2:Hid (lim 255 U i=min (U i) 255):=rfl;generalize U i=v at *
   by_cases h2:v<=255
   ·go_region;go_wp2
    go_roundg (12 - (i+1))
    case measure=>omega
    case rel=>
     refine⟨i+1,by simp,om,AM _,?_,?_⟩
     ·have k:=HK5.out.drew.setC i hlt v;rw[Gk i (lim 255 U) v (by rw[HL2.out];omega)] at k;exact k
     ·exact HG5.out.drew.setCell (AL (by rw[HB0.out];exact AM _)) _ _
   ·go_region;go_wp2
    go_roundg (12 - (i+1))
    case measure=>omega
    case rel=>
     refine⟨i+1,by simp,om,AM _,?_,?_⟩
     ·have k:=HK5.out.drew.setC i hlt 255;rw[Gk i (lim 255 U) 255 (by rw[HL2.out];omega)] at k;exact k
     ·exact HG5.out.drew.setCell (AL (by rw[HB0.out];exact AM _)) _ _
 ·have hltz:¬ (i:Int)<12:=om
  obtain rfl:i=12:=om
  have HK2:=BB (HK.out.congr (A':=lim 65535 V) (B':=fun _=>0) (C':=lim 255 U) (fun j hj=>by unfold pre;rw[AJ hj]) (fun _ _=>rfl) (fun j hj=>by unfold pre;rw[AJ hj]));have HOK:Hid (Fk (lim 65535 V) (fun _=>0) (lim 255 U)):=fun j hj=>by
   have a1:=HN.out.1 j hj;have a2:=HN.out.2 j hj;simp only[lim];omega
  clear HK;go_wp2_with fail;refine(Qo wr b _ _ _ HK2.out HOK.out).mono ?_;rintro e w3 ⟨rfl,K3,G3⟩;have HG3:=BB (HG.out.trans' G3 (fun k hk e=>by have:=HB0.out;omega));have HK3:=BB K3;clear K3 G3 HG HK2 HOK HR HS;go_wp2;go_ret2;rw[HB0.out];exact⟨rfl,HK3.out,HG3.out⟩
end Go.Proofs.YtbhbilcieodbhaaGreat.AF
