/-
  Lemmas.
-/
import Derived.Test.YtmdpnpjacfedpaaGreatP03
import Derived.Deep.SlicePairs
import Derived.SizedLaws
set_option maxRecDepth 1000000
set_option maxHeartbeats 16000000
set_option linter.unusedSimpArgs false
namespace Go.Proofs.YtmdpnpjacfedpaaGreat.AG
open List
open Go.Proofs.Tryz
open Go.RowKit
section
variable {w w':Wd}{b n:Nat}{t:TypeId}{F:Nat->Bool}
end
theorem H8(g o j:Nat):(⟨g,o,none⟩:Addr).add j=⟨g,o+j,none⟩:=Addr.add_mid g o j
def Q5 (w:Wd) (a:Option Addr) (n:Nat) (V:Nat->Int):Prop:=n=0\/∃g o,a=some ⟨g,o,none⟩/\g<w.heap.size/\∀i,i<n->w.cell? ⟨g,o+i,none⟩=some (.int .i64 (V i))
def Uf (A B C:Nat->Int):Nat->Int:=fun i=>if i<12 then A i else if i<24 then B (i - 12) else C (i - 24)
theorem lM{A B C:Nat->Int}{i:Nat}(h:i<12):Uf A B C i=A i:=by unfold Uf;rw[AJ h]
theorem lN{A B C:Nat->Int}{i:Nat}(h:i<12):Uf A B C (12+i)=B i:=by
 unfold Uf;rw[AI om,AJ om,show 12+i - 12=i by omega]
theorem lO{A B C:Nat->Int}{i:Nat}:Uf A B C (24+i)=C i:=by
 unfold Uf;rw[AI om,AI om,show 24+i - 24=i by omega]
def HB (w:Wd) (b:Nat) (t:TypeId) (A B C:Nat->Int):Prop:=IB w b t 36 (Uf A B C)
section
variable {w w':Wd}{b:Nat}{t:TypeId}{A B C:Nat->Int}
theorem HB.drew(h:HB w b t A B C):HB w.drew b t A B C:=h
theorem HB.ca(h:HB w b t A B C)(i:Nat)(hi:i<12):w.cell? ⟨b,i,none⟩=some (.int .i64 (A i))/\w.frozen? ⟨b,i,none⟩=false:=by
 have:=IB.cell h i om;rw[lM hi] at this;exact this
theorem HB.cb(h:HB w b t A B C)(i:Nat)(hi:i<12):w.cell? ⟨b,12+i,none⟩=some (.int .i64 (B i))/\w.frozen? ⟨b,12+i,none⟩=false:=by
 have:=IB.cell h (12+i) om;rw[lN hi] at this;exact this
theorem HB.cc(h:HB w b t A B C)(i:Nat)(hi:i<12):w.cell? ⟨b,24+i,none⟩=some (.int .i64 (C i))/\w.frozen? ⟨b,24+i,none⟩=false:=by
 have:=IB.cell h (24+i) om;rw[lO] at this;exact this
theorem HB.congr{A' B' C':Nat->Int}(h:HB w b t A B C)(ea:∀i,i<12->A i=A' i)(eb:∀i,i<12->B i=B' i)(ec:∀i,i<12->C i=C' i):HB w b t A' B' C':=
 IB.congr h fun i hi=>by
  unfold Uf
  split
  ·
   exact ea i om
  ·
   split
   ·
    exact eb _ om
   ·
    exact ec _ om
theorem HB.setA(h:HB w b t A B C)(i:Nat)(hi:i<12)(z:Int):HB (w.setCell ⟨b,i,none⟩ (.int .i64 z)) b t (upd A i z) B C:=
 (IB.set h i z).congr fun j hj=>by
  simp only[Uf,upd]
  by_cases e:j=i
  ·
   rw[AJ e,AJ om,AJ e]
  ·
   rw[AI e]
   split
   ·
    rfl
   ·
    rfl
theorem HB.setB(h:HB w b t A B C)(i:Nat)(hi:i<12)(z:Int):HB (w.setCell ⟨b,12+i,none⟩ (.int .i64 z)) b t A (upd B i z) C:=
 (IB.set h (12+i) z).congr fun j hj=>by
  simp only[Uf,upd]
  by_cases e:j=12+i
  ·
   rw[AJ e,AI om,AJ om,AJ om]
  ·
   rw[AI e]
   split
   ·
    rfl
   ·
    split
    ·
     rw[AI om]
    ·
     rfl
theorem HB.setC(h:HB w b t A B C)(i:Nat)(hi:i<12)(z:Int):HB (w.setCell ⟨b,24+i,none⟩ (.int .i64 z)) b t A B (upd C i z):=
 (IB.set h (24+i) z).congr fun j hj=>by
  simp only[Uf,upd]
  by_cases e:j=24+i
  ·
   rw[AJ e,AI om,AI om,AJ om]
  ·
   rw[AI e]
   split
   ·
    rfl
   ·
    split
    ·
     rfl
    ·
     rw[AI om]
theorem HB.partA(h:HB w b t A B C):w.rangeAt b 0 (ints A 12):=fun j v hv=>by
 have hj:j<12:=by have:=(List.getElem?_eq_some_iff.1 hv).1;rwa [BF] at this
 rw[AW,(h.ca j hj).1,<-hv,BU A 12 j hj];rfl
theorem HB.partC(h:HB w b t A B C):w.rangeAt b 24 (ints C 12):=fun j v hv=>by
 have hj:j<12:=by have:=(List.getElem?_eq_some_iff.1 hv).1;rwa [BF] at this
 rw[(h.cc j hj).1,<-hv,BU C 12 j hj];rfl
theorem IB.there{n:Nat}{F:Nat->Int}(h:IB w b t n F)(o m:Nat)(hn:o+m<=n):w.there b o m:=fun j hj=>by
 obtain⟨c,f⟩:=h.cell (o+j) om
 exact⟨by rw[c];rfl,f⟩
def Xb (F:Nat->Int) (o:Nat) (l:List Int):Nat->Int:=fun j=>if o<=j/\j<o+l.length then l.getD (j - o) 0 else F j
end
theorem IB.setL{b n:Nat}{t:TypeId}:∀(l:List Int) (o:Nat) {w:Wd} {F:Nat->Int} (_:IB w b t n F),IB (w.setCells b o (l.map i6)) b t n (Xb F o l)
 | [],o,w,F,h=>by
  have e:Xb F o []=F:=by
   funext j;unfold Xb;rw[AI (by simp)]
  rw[e];simpa[World.setCells] using h
 | x :: r,o,w,F,h=>by
  simp only[map_cons,World.setCells];refine(IB.setL r (o+1) (h.set o x)).congr fun j _=>?_;unfold Xb upd;simp only[An];by_cases e:j=o
  ·rw[AI om,AJ e,AJ om,show j - o=0 by omega];rfl
  ·by_cases h2:o+1<=j/\j<o+1+r.length
   ·rw[AJ h2,AJ om,show j - o=(j - (o+1))+1 by omega];rfl
   ·rw[AI h2,AI e,AI om]
theorem IB.setI{w:Wd}{b n:Nat}{t:TypeId}{F:Nat->Int}(h:IB w b t n F)(o m:Nat)(G:Nat->Int):IB (w.setCells b o (ints G m)) b t n (fun j=>if o<=j/\j<o+m then G (j - o) else F j):=by
 have h1:=IB.setL ((List.range m).map G) o h;have e:((List.range m).map G).map i6=ints G m:=by simp[ints]
 rw[e] at h1;refine h1.congr fun j _=>?_;unfold Xb;simp only[BA,length_range];split
 ·rename_i hh;rw[AQ,List.getElem?_map,List.getElem?_range om];rfl
 ·rfl
section
variable {w w':Wd}{b:Nat}{t:TypeId}{A B C:Nat->Int}
theorem HB.rowB(h:HB w b t A B C)(G:Nat->Int):HB (w.setCells b 12 (ints G 12)) b t A G C:=
 (IB.setI h 12 12 G).congr fun j hj=>by
  unfold Uf
  by_cases h1:j<12
  ·
   rw[AI om,AJ h1,AJ h1]
  ·
   by_cases h2:j<24
   ·
    rw[AJ om,AI h1,AJ h2]
   ·
    rw[AI om,AI h1,AI h2,AI h1,AI h2]
theorem Chg.setCells{S:Nat->Prop}{u:Wd}{g:Nat}(hg:S g\/u.heap.size<=g):∀(vs:List Value) (o:Nat) {w:Wd} (_:Chg S u w),Chg S u (w.setCells g o vs)
 | [],_,_,h=>h
 | v :: vs,o,_,h=>Chg.setCells hg vs (o+1) (h.setCell hg o v)
end
theorem Gu:(prog.info? 36).map (·.size)=some 12:=kr
theorem Ks:(prog.info? 3).map (·.size)=some 1:=kr
theorem ED{ops:Array Oper}{rest:List Oper}{op:Oper}{a:Act}{w:Wd}{Q:Exit->Act->World->Prop}(hgd:op.guard=none)(x:Operand)(ho:op.op=.load 36 x)(b o:Nat)(hx:a.eval x=.pointer (some ⟨b,o,none⟩))(F:Nat->Int)(hc:w.rangeAt b o (ints F 12))(h:wpList prog ops Q rest (a.put op.dst (.agg (ints F 12).toArray)) w):wpList prog ops Q (op :: rest) a w:=by
 refine wpList_load_mid hgd 36 x ho b o hx (ints F 12) _ hc underlying36 rfl (by rw[BF];exact Gu) h
theorem JX{ops:Array Oper}{rest:List Oper}{op:Oper}{a:Act}{w:Wd}{Q:Exit->Act->World->Prop}(hgd:op.guard=none)(x y:Operand)(ho:op.op=.store 36 x y)(b o:Nat)(F:Nat->Int)(hx:a.eval x=.pointer (some ⟨b,o,none⟩))(hy:a.eval y=.agg (ints F 12).toArray)(ht:w.there b o 12)(h:wpList prog ops Q rest (a.put op.dst undef) (w.setCells b o (ints F 12))):wpList prog ops Q (op :: rest) a w:=by
 refine wpList_store_mid hgd 36 x y ho b o (ints F 12).toArray hx hy (by simpa[BF] using ht) (by simpa[BF] using Gu) (all_oneCell_toArray (Cf F 12)) ?_;simpa using h
def GR (R N S:Nat->Int):Prop:=∀i,i<12->(0<=R i/\R i<=65535)/\(0<=N i/\N i<=65535)/\(0<=S i/\S i<=255)
def Jr (z:Int):Nat:=if 0<=z/\z<12 then 0 else 1
def more (m:Int) (F:Nat->Int) (z:Int):Nat->Int:=if 0<=z/\z<12 then upd F z.toNat (min (F z.toNat+1) m) else F
def Fm (F:Nat->Int) (z:Int):Nat->Int:=if 0<=z/\z<12 then upd F z.toNat 0 else F
def much (k:Int) (F:Nat->Int) (z:Int):Bool:=if 0<=z/\z<12 then decide (F z.toNat ≥ k) else false
theorem Kx(z:Int)(h:0<=z/\z<12):∃n:Nat,n<12/\z=n:=⟨z.toNat,om,om⟩
theorem Ky(m:Int)(F:Nat->Int)(n:Nat)(h:n<12):more m F n=upd F n (min (F n+1) m):=by
 unfold more;rw[AJ om,AP]
theorem Et(F:Nat->Int)(n:Nat)(h:n<12):Fm F n=upd F n 0:=by
 unfold Fm;rw[AJ om,AP]
theorem PI(k:Int)(F:Nat->Int)(n:Nat)(h:n<12):much k F n=decide (F n ≥ k):=by
 unfold much;rw[AJ om,AP]
theorem FE(n:Nat)(h:n<12):Jr n=0:=by unfold Jr;rw[AJ om]
theorem GR.more3{R N S:Nat->Int}(h:GR R N S)(z:Int):GR R N (more 255 S z):=fun i hi=>by
 have hh:=h i hi
 refine⟨hh.1,hh.2.1,?_⟩
 unfold more
 split
 ·
  unfold upd
  split
  ·
   rename_i e;rw[<-e];omega
  ·
   exact hh.2.2
 ·
  exact hh.2.2
theorem GR.none{R N S:Nat->Int}(h:GR R N S)(z:Int):GR (Fm R z) (Fm N z) S:=fun i hi=>by
 have hh:=h i hi
 unfold Fm
 split
 ·
  unfold upd
  split
  ·
   exact⟨om,om,hh.2.2⟩
  ·
   exact hh
 ·
  exact hh
theorem GR.noted{R N S:Nat->Int}(h:GR R N S):GR R R S:=fun i hi=>⟨(h i hi).1,(h i hi).1,(h i hi).2.2⟩
theorem CH(w:Wd)(n:Nat)(h1:n<12):Calls prog 159 #[.int .i64 n] w fun e w'=>e=.returned (.bool true)/\w'=w:=by
 have h2:(n:Int)<12:=om
 go_enter func159,ntmps159;go_wp2;go_ret;exact⟨rfl,rfl⟩
theorem Dq(w:Wd)(n:Int)(h:¬ (0<=n/\n<12)):Calls prog 159 #[.int .i64 n] w fun e w'=>e=.returned (.bool false)/\w'=w:=by
 by_cases h0:0<=n
 ·have h1:¬ n<12:=om
  go_enter func159,ntmps159;go_wp2;go_ret;exact⟨rfl,rfl⟩
 ·go_enter func159,ntmps159;go_wp2;go_ret;exact⟨rfl,rfl⟩
def Zs (R N:Nat->Int):Bool:=(List.range 12).any fun i=>decide (64<=R i - N i)
theorem cR{R N:Nat->Int}{i:Nat}(hi:i<12)(h:64<=R i - N i):Zs R N=true:=by
 unfold Zs;rw[any_eq_true];exact⟨i,mem_range.2 hi,AO h⟩
theorem iP{R N:Nat->Int}(h:∀j,j<12->¬ 64<=R j - N j):Zs R N=false:=by
 unfold Zs;rw[any_eq_false];intro i hi;simpa using h i (mem_range.1 hi)
theorem Kr(w:Wd):(Instr.makeSlice 43 (.int .i64 12) (.int .i64 12)).run prog w=.ok (.slice (some ⟨w.heap.size,0,none⟩) 12 12) (w.alloc (.cells (ints (fun _=>0) 12).toArray 3)):=kr
theorem PJ(w:Wd)(F:Nat->Int):Calls prog 89 #[.agg (ints F 12).toArray] w fun e w'=>e=.returned (.slice (some ⟨w.heap.size+1,0,none⟩) 12 12)/\IB w' (w.heap.size+1) 3 12 F/\Chg No w w':=by
 have hm:=Kr;have HA:=BE (IB.new w 36 12 F);have Go:Hid (Chg No w (w.alloc (.cells (ints F 12).toArray 36))):=(Chg.refl _ w).alloc _;have es:(w.alloc (.cells (ints F 12).toArray 36)).heap.size=w.heap.size+1:=by simp
 have it:=BE (IB.new (w.alloc (.cells (ints F 12).toArray 36)) 3 12 (fun _=>0));have no:Hid (Chg No (w.alloc (.cells (ints F 12).toArray 36)) ((w.alloc (.cells (ints F 12).toArray 36)).alloc (.cells (ints (fun _=>0) 12).toArray 3))):=(Chg.refl _ _).alloc _;rw[es] at it;have HK:=BE (HA.out.chg no (fun f=>f));go_enter func89,ntmps89;go_wp2_with (refine wpList_copy_own rfl (.tmp 5) (.tmp 6) 43 43 rfl 3 underlying43 Ks (w.heap.size+1) 0 12 12 ⟨w.heap.size,0,none⟩ 12 12 rfl rfl (ints (fun _=>0) 12).toArray 3 it (ints F 12) (by rw[BF];rfl) (fun j v hv=>by rw[H8,AW,(HK.out.cell j (by have:=(List.getElem?_eq_some_iff.1 hv).1;rw[BF] at this;omega)).1,<-hv,BU _ _ _ (by have:=(List.getElem?_eq_some_iff.1 hv).1;rw[BF] at this;omega)];rfl) (by simp[BF]) (Cf F 12) ?_);go_ret;have e1:(ints F 12 ++ List.drop (ints F 12).length (ints (fun _=>0) 12)).toArray=(ints F 12).toArray:=by
  rw[BF,drop_of_length_le (by simp[BF]),append_nil]
 rw[e1];exact⟨rfl,it.out.row F,(Go.out.trans no).trans' (Dx _ _ _) (fun i hi e=>om)⟩
theorem Qg(w:Wd)(p:Nat)(R N S:Nat->Int)(h:HB w p 180 R N S)(ok:GR R N S)(z:Int):Calls prog 112 #[.pointer (some ⟨p,0,none⟩),.int .i64 z] w fun e w'=>e=.returned (errV (Jr z))/\HB w' p 180 (more 65535 R z) N S/\Chg (·=p) w w':=by
 by_cases hz:0<=z/\z<12
 ·obtain⟨n,hn,rfl⟩:=Kx z hz;rw[Ky _ _ _ hn,FE n hn];obtain⟨c,f⟩:=h.ca n hn;have hb:=(ok n hn).1;have no:=hb.1;have Go:=hb.2;have it:(n:Int)<12:=om
  have HK:=BE h;have HN:=BE hn;by_cases hm:R n+1<=65535
  ·rw[show min (R n+1) 65535=R n+1 by omega];generalize R n=u at *
   go_enter func112,ntmps112;go_wp2_with (go_at_call 159;refine(CH _ _ hn).mono ?_;rintro e w1 ⟨rfl,rfl⟩);go_region;go_wp2;go_ret;rw[show min (u+1) 65535=u+1 by omega];exact⟨rfl,HK.out.setA n HN _,((Chg.refl (·=p) _).drew).setCell (AK rfl) _ _⟩
  ·rw[show min (R n+1) 65535=65535 by omega];generalize R n=u at *
   go_enter func112,ntmps112;go_wp2_with (go_at_call 159;refine(CH _ _ hn).mono ?_;rintro e w1 ⟨rfl,rfl⟩);go_region;go_wp2;go_ret;rw[show min (u+1) 65535=65535 by omega];exact⟨rfl,HK.out.setA n HN _,((Chg.refl (·=p) _).drew).setCell (AK rfl) _ _⟩
 ·have HE:Hid (more 65535 R z=R/\Jr z=1):=⟨by unfold more;rw[AI hz],by unfold Jr;rw[AI hz]⟩;have HK:=BE h;rw[HE.out.1,HE.out.2];go_enter func112,ntmps112;go_wp2_with (go_at_call 159;refine(Dq _ _ hz).mono ?_;rintro e w1 ⟨rfl,rfl⟩);go_ret;exact⟨rfl,HK.out,Chg.refl _ _⟩
theorem Xc(w:Wd)(p:Nat)(R N S:Nat->Int)(h:HB w p 180 R N S)(ok:GR R N S)(z:Int):Calls prog 100 #[.pointer (some ⟨p,0,none⟩),.int .i64 z] w fun e w'=>e=.returned (errV (Jr z))/\HB w' p 180 R N (more 255 S z)/\Chg (·=p) w w':=by
 by_cases hz:0<=z/\z<12
 ·obtain⟨n,hn,rfl⟩:=Kx z hz;rw[Ky _ _ _ hn,FE n hn];obtain⟨c,f⟩:=h.cc n hn;have hb:=(ok n hn).2.2;have no:=hb.1;have Go:=hb.2;have it:(n:Int)<12:=om
  have HK:=BE h;have HN:=BE hn;by_cases hm:S n+1<=255
  ·rw[show min (S n+1) 255=S n+1 by omega];generalize S n=u at *
   go_enter func100,ntmps100;go_wp2_with (go_at_call 159;refine(CH _ _ hn).mono ?_;rintro e w1 ⟨rfl,rfl⟩);go_region;go_wp2;go_ret;rw[show min (u+1) 255=u+1 by omega];exact⟨rfl,HK.out.setC n HN _,((Chg.refl (·=p) _).drew).setCell (AK rfl) _ _⟩
  ·rw[show min (S n+1) 255=255 by omega];generalize S n=u at *
   go_enter func100,ntmps100;go_wp2_with (go_at_call 159;refine(CH _ _ hn).mono ?_;rintro e w1 ⟨rfl,rfl⟩);go_region;go_wp2;go_ret;rw[show min (u+1) 255=255 by omega];exact⟨rfl,HK.out.setC n HN _,((Chg.refl (·=p) _).drew).setCell (AK rfl) _ _⟩
 ·have HE:Hid (more 255 S z=S/\Jr z=1):=⟨by unfold more;rw[AI hz],by unfold Jr;rw[AI hz]⟩;have HK:=BE h;rw[HE.out.1,HE.out.2];go_enter func100,ntmps100;go_wp2_with (go_at_call 159;refine(Dq _ _ hz).mono ?_;rintro e w1 ⟨rfl,rfl⟩);go_ret;exact⟨rfl,HK.out,Chg.refl _ _⟩
theorem Xd(w:Wd)(p:Nat)(R N S:Nat->Int)(h:HB w p 180 R N S)(_:GR R N S)(z:Int):Calls prog 187 #[.pointer (some ⟨p,0,none⟩),.int .i64 z] w fun e w'=>e=.returned (errV (Jr z))/\HB w' p 180 (Fm R z) (Fm N z) S/\Chg (·=p) w w':=by
 by_cases hz:0<=z/\z<12
 ·obtain⟨n,hn,rfl⟩:=Kx z hz;rw[Et _ _ hn,Et _ _ hn,FE n hn];obtain⟨c,f⟩:=h.ca n hn;have it:=BE (h.setA n hn 0);obtain⟨c',f'⟩:=it.out.cb n hn;have no:(n:Int)<12:=om
  have HN:=BE hn;go_enter func187,ntmps187;go_wp2_with (go_at_call 159;refine(CH _ _ hn).mono ?_;rintro e w1 ⟨rfl,rfl⟩);go_region;go_wp2;go_ret;exact⟨rfl,it.out.setB n HN _,(((Chg.refl (·=p) _).drew).setCell (AK rfl) _ _).setCell (AK rfl) _ _⟩
 ·have HE:Hid (Fm R z=R/\Fm N z=N/\Jr z=1):=⟨by unfold Fm;rw[AI hz],by unfold Fm;rw[AI hz],by unfold Jr;rw[AI hz]⟩;have HK:=BE h;rw[HE.out.1,HE.out.2.1,HE.out.2.2];go_enter func187,ntmps187;go_wp2_with (go_at_call 159;refine(Dq _ _ hz).mono ?_;rintro e w1 ⟨rfl,rfl⟩);go_ret;exact⟨rfl,HK.out,Chg.refl _ _⟩
theorem cS(w:Wd)(p:Nat)(R N S:Nat->Int)(h:HB w p 180 R N S)(_:GR R N S)(z:Int):Calls prog 141 #[.pointer (some ⟨p,0,none⟩),.int .i64 z] w fun e w'=>e=.returned (.tuple #[.bool (much 512 R z),errV (Jr z)])/\w'=w:=by
 by_cases hz:0<=z/\z<12
 ·obtain⟨n,hn,rfl⟩:=Kx z hz;rw[PI _ _ _ hn,FE n hn];obtain⟨c,-⟩:=h.ca n hn;have it:(n:Int)<12:=om
  generalize R n=u at *
  go_enter func141,ntmps141;go_wp2_with (go_at_call 159;refine(CH _ _ hn).mono ?_;rintro e w1 ⟨rfl,rfl⟩);go_ret2;exact⟨rfl,rfl⟩
 ·have HE:Hid (much 512 R z=false/\Jr z=1):=⟨by unfold much;rw[AI hz],by unfold Jr;rw[AI hz]⟩;rw[HE.out.1,HE.out.2];go_enter func141,ntmps141;go_wp2_with (go_at_call 159;refine(Dq _ _ hz).mono ?_;rintro e w1 ⟨rfl,rfl⟩);go_ret2;exact⟨rfl,rfl⟩
theorem iQ(w:Wd)(p:Nat)(R N S:Nat->Int)(h:HB w p 180 R N S)(_:GR R N S)(z:Int):Calls prog 190 #[.pointer (some ⟨p,0,none⟩),.int .i64 z] w fun e w'=>e=.returned (.tuple #[.bool (much 3 S z),errV (Jr z)])/\w'=w:=by
 by_cases hz:0<=z/\z<12
 ·obtain⟨n,hn,rfl⟩:=Kx z hz;rw[PI _ _ _ hn,FE n hn];obtain⟨c,-⟩:=h.cc n hn;have it:(n:Int)<12:=om
  generalize S n=u at *
  go_enter func190,ntmps190;go_wp2_with (go_at_call 159;refine(CH _ _ hn).mono ?_;rintro e w1 ⟨rfl,rfl⟩);go_ret2;exact⟨rfl,rfl⟩
 ·have HE:Hid (much 3 S z=false/\Jr z=1):=⟨by unfold much;rw[AI hz],by unfold Jr;rw[AI hz]⟩;rw[HE.out.1,HE.out.2];go_enter func190,ntmps190;go_wp2_with (go_at_call 159;refine(Dq _ _ hz).mono ?_;rintro e w1 ⟨rfl,rfl⟩);go_ret2;exact⟨rfl,rfl⟩
theorem SQ(w:Wd)(p:Nat)(R N S:Nat->Int)(h:HB w p 180 R N S)(_:GR R N S):Calls prog 154 #[.pointer (some ⟨p,0,none⟩)] w fun e w'=>e=.returned (.tuple #[])/\HB w' p 180 R R S/\Chg (·=p) w w':=by
 have HK:=BE h;go_enter func154,ntmps154;go_wp2_with (first | (refine ED rfl (.tmp 5) rfl p 0 rfl R HK.out.partA ?_) | (refine JX rfl (.tmp 8) (.tmp 6) rfl p 12 R rfl rfl (IB.there HK 12 12 om) ?_));go_end0;exact⟨rfl,HK.out.rowB R,Chg.setCells (S:=(·=p)) (AK rfl) _ _ (Chg.refl _ _)⟩
theorem lP(w:Wd)(p:Nat)(R N S:Nat->Int)(h:HB w p 180 R N S)(ok:GR R N S):Calls prog 85 #[.pointer (some ⟨p,0,none⟩)] w fun e w'=>e=.returned (.bool (Zs R N))/\∃m,w'=w.drewN m:=by
 have HK:=BE h;have HO:=BE ok;go_enter func85,ntmps85;go_wp2_with fail
 go_loopg [4] 12 (fun kx s4 wr=>∃(i m:Nat),s4=.int .i64 i/\i<=12/\12 - i<=kx/\Hid (∀j,j<i->¬ 64<=R j - N j)/\Hid (wr=w.drewN m))
 case atStart=>exact⟨0,0,rfl,om,om,fun j hj=>absurd hj (Nat.not_lt_zero _),rfl⟩
 case round=>
 obtain⟨i,m,rfl,La,kd,HI,HM⟩:=hrel;obtain rfl:=HM.out;by_cases it:i<12
 ·have no:(i:Int)<12:=om
  obtain⟨c,-⟩:=HK.out.ca i it;obtain⟨c',-⟩:=HK.out.cb i it;have hb:=HO.out i it;have hv:=hb.1.1;have hk:=hb.1.2;have ar:=hb.2.1.1;have ha:=hb.2.1.2;by_cases hd:64<=R i - N i
  ·have HD:=BE (cR it hd);generalize R i=u at *
   generalize N i=v at *
   go_wp2_with fail
   go_quiet (fail)
   go_wp2;go_ret;exact⟨by rw[HD.out];rfl,_,World.drewN_drewN _ _ _⟩
  ·have Go:Hid (∀j,j<i+1->¬ 64<=R j - N j):=fun j hj=>by
    by_cases e:j=i
    ·rw[e];exact hd
    ·exact HI j om
   generalize R i=u at *
   generalize N i=v at *
   go_wp2_with fail
   go_quiet (fail)
   go_wp2
   go_roundg (12 - (i+1))
   case measure=>omega
   case rel=>exact⟨i+1,_,by simp,om,AM _,Go,rfl⟩
 ·have no:¬ (i:Int)<12:=om
  obtain rfl:i=12:=om
  have HD:=BE (iP HI);go_wp2;go_ret;exact⟨by rw[HD.out];rfl,_,rfl⟩
theorem SR(w:Wd)(p:Nat)(R N S:Nat->Int)(h:HB w p 180 R N S)(_:GR R N S):Calls prog 48 #[.pointer (some ⟨p,0,none⟩)] w fun e w'=>e=.returned (.slice (some ⟨w.heap.size+1,0,none⟩) 12 12)/\IB w' (w.heap.size+1) 3 12 R/\Chg No w w':=by
 have HK:=BE h;go_enter func48,ntmps48;go_wp2_with (first | (refine ED rfl (.tmp 5) rfl p 0 rfl R HK.out.partA ?_) | (go_at_call 89;refine(PJ w R).mono ?_;rintro e w1 ⟨rfl,K1,G1⟩));go_ret;exact⟨rfl,K1,G1⟩
theorem PK(w:Wd)(p:Nat)(R N S:Nat->Int)(h:HB w p 180 R N S)(_:GR R N S):Calls prog 49 #[.pointer (some ⟨p,0,none⟩)] w fun e w'=>e=.returned (.slice (some ⟨w.heap.size+1,0,none⟩) 12 12)/\IB w' (w.heap.size+1) 3 12 S/\Chg No w w':=by
 have HK:=BE h;go_enter func49,ntmps49;go_wp2_with (first | (refine ED rfl (.tmp 5) rfl p 24 rfl S HK.out.partC ?_) | (go_at_call 89;refine(PJ w S).mono ?_;rintro e w1 ⟨rfl,K1,G1⟩));go_ret;exact⟨rfl,K1,G1⟩
def iR (n:Nat) (V:Nat->Int):Bool:=decide (n=12) && (List.range 12).all fun i=>decide (0<=V i)
theorem GL(n:Nat)(V:Nat->Int):iR n V=true<->n=12/\∀i,i<12->0<=V i:=by
 unfold iR;simp[all_eq_true]
theorem ST{n:Nat}{V:Nat->Int}(h:¬ (n=12/\∀i,i<12->0<=V i)):iR n V=false:=by
 cases e:iR n V with
 | false=>rfl
 | true=>exact absurd ((GL n V).1 e) h
theorem PL(w:Wd)(a:Option Addr)(n c:Nat)(V:Nat->Int)(hl:Q5 w a n V):Calls prog 166 #[.slice a n c] w fun e w'=>e=.returned (.bool (iR n V))/\w'=w:=by
 by_cases hn:n=12
 ·subst hn;rcases hl with hl | ⟨g,o,rfl,hg,hl⟩
  ·omega
  have HL:=BE hl;clear hl hg;go_enter func166,ntmps166;go_wp2_with fail
  go_loopg [10] 12 (fun kx s10 wr=>∃i:Nat,s10=.int .i64 i/\i<=12/\12 - i<=kx/\Hid (∀j,j<i->0<=V j)/\wr=w)
  case atStart=>exact⟨0,rfl,om,om,fun j hj=>absurd hj (Nat.not_lt_zero _),rfl⟩
  case round=>
  obtain⟨i,rfl,La,ar,HI,rfl⟩:=hrel;by_cases no:i<12
  ·have it:(i:Int)<12:=om;have x0:=HL.out i no;by_cases hv:V i<0
   ·have HD:=BE (ST (n:=12) (V:=V) fun h=>by have:=h.2 i no;omega);generalize V i=u at *
    go_wp2;go_ret;exact⟨by rw[HD.out];rfl,rfl⟩
   ·have Go:Hid (∀j,j<i+1->0<=V j):=fun j hj=>by
     by_cases e:j=i
     ·rw[e];omega
     ·exact HI j om
    generalize V i=u at *
    go_wp2
    go_roundg (12 - (i+1))
    case measure=>omega
    case rel=>exact⟨i+1,by simp,om,AM _,Go,rfl⟩
  ·have it:¬ (i:Int)<12:=om;obtain rfl:i=12:=om
   have HD:=BE ((GL 12 V).2 ⟨rfl,HI⟩);clear HI HL;go_wp2;go_ret;exact⟨by rw[HD.out];rfl,rfl⟩
 ·have HD:=BE (ST (V:=V) (fun h=>hn h.1));have h2:((n:Int) != 12)=true:=by simp only[bne_iff_ne];omega
  clear hn hl;go_enter func166,ntmps166;go_wp2;go_ret;exact⟨by rw[HD.out];rfl,rfl⟩
def lim (m:Int) (V:Nat->Int):Nat->Int:=fun i=>min (V i) m
def pre (k:Nat) (F:Nat->Int):Nat->Int:=fun j=>if j<k then F j else 0
theorem SU(k:Nat)(F:Nat->Int):upd (pre k F) k (F k)=pre (k+1) F:=by
 funext j;unfold upd pre;by_cases e:j=k
 ·subst e;rw[AJ rfl,AJ om]
 ·rw[AI e];by_cases h:j<k
  ·rw[AJ h,AJ om]
  ·rw[AI h,AI om]
theorem ID(k:Nat)(F:Nat->Int)(z:Int)(h:z=F k):upd (pre k F) k z=pre (k+1) F:=by rw[h,SU]
theorem Kq(w:Wd):(zeroValue 180).run prog w=.ok (.agg (ints (Uf (fun _=>0) (fun _=>0) (fun _=>0)) 36).toArray) w:=kr
theorem M9(w:Wd)(pr ps:Option Addr)(nr ns cr cs:Nat)(V U:Nat->Int)(hr:Q5 w pr nr V)(hs:Q5 w ps ns U)(h1:iR nr V=true)(h2:iR ns U=true):Calls prog 114 #[.slice pr nr cr,.slice ps ns cs] w fun e w'=>e=.returned (.tuple #[.pointer (some ⟨w.heap.size,0,none⟩),.nilIface])/\HB w' w.heap.size 180 (lim 65535 V) (lim 65535 V) (lim 255 U)/\Chg No w w':=by
 have c1:=PL w pr nr cr V hr;have c2:=PL w ps ns cs U hs;obtain⟨rfl,hV⟩:=(GL _ _).1 h1;obtain⟨rfl,hU⟩:=(GL _ _).1 h2;rw[h1] at c1;rw[h2] at c2;rcases hr with hr | ⟨gr,f7,rfl,f1,hr⟩
 ·omega
 rcases hs with hs | ⟨gs,os,rfl,h0,hs⟩
 ·omega
 have HR:=BE hr;have HS:=BE hs;have ha:=BE (And.intro f1 h0);have HN:=BE (And.intro hV hU);go_enter func114,ntmps114;go_wp2_with fail;refine c1.mono ?_;rintro e w1 ⟨rfl,rfl⟩;go_wp2_with fail;refine c2.mono ?_;rintro e w1 ⟨rfl,rfl⟩;go_wp2_with (refine CV rfl 180 rfl w1.heap.size rfl Kq ?_);intro w2 K1 G1 S1;have p2:=BE (show HB w2 w1.heap.size 180 (fun _=>0) (fun _=>0) (fun _=>0) from K1);have f3:=BE G1;generalize it:w1.heap.size=b at *
 have it:=BE it;go_wp2_with fail
 go_loopg [18] 12 (fun kx s18 wr=>∃i:Nat,s18=.int .i64 i/\i<=12/\12 - i<=kx/\Hid (HB wr b 180 (pre i (lim 65535 V)) (fun _=>0) (pre i (lim 255 U)))/\Hid (Chg No w1 wr))
 case atStart=>exact⟨0,rfl,om,om,p2,f3⟩
 case round=>
 obtain⟨i,rfl,f6,f8,HK,HG⟩:=hrel;by_cases no:i<12
 ·have hx:(i:Int)<12:=om
  have x0:=(HG.out.cell (by rw[it.out];exact ha.out.1) (fun f=>f) _).trans (HR.out i no);have y0:=HK.out.ca i no;obtain⟨y0,z0⟩:=y0;have KA:∀z,z=min (V i) 65535->HB (wr.setCell ⟨b,i,none⟩ (.int .i64 z)).drew b 180 (pre (i+1) (lim 65535 V)) (fun _=>0) (pre i (lim 255 U)):=fun z e=>by
   have:=(HK.out.setA i no z).drew;rw[e,show min (V i) 65535=lim 65535 V i from rfl,SU] at this;rw[e];exact this
  have GA:∀z:Int,Chg No w1 (wr.setCell ⟨b,i,none⟩ (.int .i64 z)).drew:=fun z=>(HG.out.setCell (AL (by rw[it.out];exact AM _)) _ _).drew;have h6:=BE KA;have hg:=BE GA;generalize hc:V i=u at *
  have hc:=BE hc;by_cases h1:u<=65535
  ·have La:=BE (h6.out u om);have ar:=BE (hg.out u);go_wp2_with fail;go_region;rw[show min u 65535=u by omega];obtain⟨w5,hv⟩:∃w5,Hid (w5=(wr.setCell ⟨b,i,none⟩ (.int .i64 u)).drew):=⟨_,rfl⟩;rw[<-hv.out] at La ar;go_wp2_with fail;rw[<-hv.out];have x1:=(ar.out.cell (by rw[it.out];exact ha.out.2) (fun f=>f) _).trans (HS.out i no);obtain⟨y1,z1⟩:=La.out.cc i no;have kd:Hid (lim 255 U i=min (U i) 255):=rfl;generalize U i=v at *
   by_cases h2:v<=255
   ·go_region;go_wp2
    go_roundg (12 - (i+1))
    case measure=>omega
    case rel=>
     refine⟨i+1,by simp,om,AM _,?_,?_⟩
     ·have k:=La.out.drew.setC i no v;rw[ID i (lim 255 U) v (by rw[kd.out];omega)] at k;rw[show min v 255=v by omega];exact k
     ·exact ar.out.drew.setCell (AL (by rw[it.out];exact AM _)) _ _
   ·go_region;go_wp2
    go_roundg (12 - (i+1))
    case measure=>omega
    case rel=>
     refine⟨i+1,by simp,om,AM _,?_,?_⟩
     ·have k:=La.out.drew.setC i no 255;rw[ID i (lim 255 U) 255 (by rw[kd.out];omega)] at k;rw[show min v 255=255 by omega];exact k
     ·exact ar.out.drew.setCell (AL (by rw[it.out];exact AM _)) _ _
  ·have La:=BE (h6.out 65535 om);have ar:=BE (hg.out 65535);go_wp2_with fail;go_region;rw[show min u 65535=65535 by omega];obtain⟨w5,hv⟩:∃w5,Hid (w5=(wr.setCell ⟨b,i,none⟩ (.int .i64 65535)).drew):=⟨_,rfl⟩;rw[<-hv.out] at La ar;go_wp2_with fail;rw[<-hv.out];have x1:=(ar.out.cell (by rw[it.out];exact ha.out.2) (fun f=>f) _).trans (HS.out i no);obtain⟨y1,z1⟩:=La.out.cc i no;have kd:Hid (lim 255 U i=min (U i) 255):=rfl;generalize U i=v at *
   by_cases h2:v<=255
   ·go_region;go_wp2
    go_roundg (12 - (i+1))
    case measure=>omega
    case rel=>
     refine⟨i+1,by simp,om,AM _,?_,?_⟩
     ·have k:=La.out.drew.setC i no v;rw[ID i (lim 255 U) v (by rw[kd.out];omega)] at k;rw[show min v 255=v by omega];exact k
     ·exact ar.out.drew.setCell (AL (by rw[it.out];exact AM _)) _ _
   ·go_region;go_wp2
    go_roundg (12 - (i+1))
    case measure=>omega
    case rel=>
     refine⟨i+1,by simp,om,AM _,?_,?_⟩
     ·have k:=La.out.drew.setC i no 255;rw[ID i (lim 255 U) 255 (by rw[kd.out];omega)] at k;rw[show min v 255=255 by omega];exact k
     ·exact ar.out.drew.setCell (AL (by rw[it.out];exact AM _)) _ _
 ·have hx:¬ (i:Int)<12:=om
  obtain rfl:i=12:=om
  have G2:=BE (HK.out.congr (A':=lim 65535 V) (B':=fun _=>0) (C':=lim 255 U) (fun j hj=>by unfold pre;rw[AJ hj]) (fun _ _=>rfl) (fun j hj=>by unfold pre;rw[AJ hj]));have f2:Hid (GR (lim 65535 V) (fun _=>0) (lim 255 U)):=fun j hj=>by
   have a1:=HN.out.1 j hj;have a2:=HN.out.2 j hj;simp only[lim];omega
  go_wp2_with fail;refine(SQ wr b _ _ _ G2 f2).mono ?_;rintro e w3 ⟨rfl,K3,G3⟩;have f4:=BE (HG.out.trans' G3 (fun k hk e=>by have:=it.out;omega));have f5:=BE K3;go_wp2;go_ret2;rw[it.out];exact⟨rfl,f5.out,f4⟩
end Go.Proofs.YtmdpnpjacfedpaaGreat.AG
