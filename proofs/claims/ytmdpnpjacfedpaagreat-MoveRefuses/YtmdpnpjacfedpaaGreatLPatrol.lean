/-
  Lemmas.
-/
import Derived.Test.YtmdpnpjacfedpaaGreatOm
import Derived.Test.YtmdpnpjacfedpaaGreatP03
set_option maxRecDepth 1000000
set_option maxHeartbeats 16000000
set_option linter.unusedSimpArgs false
namespace Go.Proofs.YtmdpnpjacfedpaaGreat.AF
open List
open Go.Proofs.Tryz
open Go.RowKit
section
variable {w w':Wd}{b n:Nat}{t:TypeId}{F:Nat->Bool}
end
theorem Ct(w:Wd):(binOp .neq 46 .nilIface .nilIface).run prog w=.ok (.bool false) w:=kr
theorem BN(w:Wd)(n m:Int)(h:0<=n/\n<m):Calls prog 188 #[.int .i64 n,.int .i64 m] w fun e w'=>e=.returned (.bool true)/\w'=w:=by
 obtain⟨h0,h1⟩:=h;go_enter func188,ntmps188;go_wp2;go_ret;exact⟨rfl,rfl⟩
theorem H9(w:Wd)(p:Int)(h:0<=p/\p<96):Calls prog 158 #[.int .i64 p] w fun e w'=>e=.returned (.tuple #[.int .i64 (p / 8),.int .i64 (p % 8),.nilIface])/\w'=w:=by
 obtain⟨h0,h1⟩:=h;go_enter func158,ntmps158;go_wp2_with fail;refine(BN w p 96 ⟨h0,h1⟩).mono ?_;rintro e w1 ⟨rfl,rfl⟩;go_wp2
 go_ret3
 exact⟨rfl,rfl⟩
def pr (c k:Nat):Nat->Int:=fun i=>if i=0 then (c:Int) else (k:Int)
def PB (w:Wd) (b:Nat) (t:TypeId) (c k:Nat):Prop:=IB w b t 2 (pr c k)
section
variable {w w':Wd}{b c k:Nat}{t:TypeId}
theorem PB.lt(h:PB w b t c k):b<w.heap.size:=IB.lt h
theorem PB.chg{S:Nat->Prop}(h:PB w b t c k)(hc:Chg S w w')(hb:¬ S b):PB w' b t c k:=IB.chg h hc hb
theorem PB.c0(h:PB w b t c k):w.cell? ⟨b,0,none⟩=some (.int .i64 c)/\w.frozen? ⟨b,0,none⟩=false:=IB.cell h 0 om
theorem PB.c1(h:PB w b t c k):w.cell? ⟨b,1,none⟩=some (.int .i64 k)/\w.frozen? ⟨b,1,none⟩=false:=IB.cell h 1 om
theorem PB.set1(h:PB w b t c k)(d:Nat):PB (w.setCell ⟨b,1,none⟩ (.int .i64 d)) b t c d:=by
 refine(IB.set h 1 (d:Int)).congr fun i hi=>?_;unfold upd pr;by_cases e:i=0
 ·subst e;rfl
 ·rw[AI e,AJ om,AI e]
theorem PB.new(w:Wd)(t:TypeId)(c k:Nat):PB (w.alloc (.cells #[.int .i64 c,.int .i64 k] t)) w.heap.size t c k:=IB.new w t 2 (pr c k)
end
theorem M9(w:Wd)(c:Nat)(hc:c<96):Calls prog 113 #[.int .i64 c] w fun e w'=>e=.returned (.tuple #[.pointer (some ⟨w.heap.size,0,none⟩),.nilIface])/\PB w' w.heap.size 175 c 0/\Chg No w w':=by
 have hp:=H9 w c om;have q:=Ct;have HK:=BE (PB.new w 175 c 0);have HG:Hid (Chg No w (w.alloc (.cells #[.int .i64 c,.int .i64 (0:Nat)] 175))):=(Chg.refl _ w).alloc _;go_enter func113,ntmps113;go_wp2_with fail;refine hp.mono ?_;rintro e w1 ⟨rfl,rfl⟩;clear hp hc;go_wp2;go_ret2;exact⟨rfl,HK.out,HG.out⟩
theorem FD(w:Wd)(b c k:Nat)(h:PB w b 175 c k):Calls prog 45 #[.pointer (some ⟨b,0,none⟩)] w fun e w'=>e=.returned (.int .i64 c)/\w'=w:=by
 obtain⟨c0,-⟩:=h.c0;clear h;go_enter func45,ntmps45;go_wp2;go_ret;exact⟨rfl,rfl⟩
theorem Ir(w:Wd)(b c k:Nat)(h:PB w b 175 c k):Calls prog 46 #[.pointer (some ⟨b,0,none⟩)] w fun e w'=>e=.returned (.int .i64 k)/\w'=w:=by
 obtain⟨c1,-⟩:=h.c1;clear h;go_enter func46,ntmps46;go_wp2;go_ret;exact⟨rfl,rfl⟩
theorem Ua(w:Wd)(b c k:Nat)(h:PB w b 175 c k):Calls prog 153 #[.pointer (some ⟨b,0,none⟩)] w fun e w'=>e=.returned (.tuple #[])/\PB w' b 175 c 0/\Chg (·=b) w w':=by
 obtain⟨c1,f1⟩:=h.c1;have HK:=BE (h.set1 0);have HG:Hid (Chg (·=b) w (w.setCell ⟨b,1,none⟩ (.int .i64 0))):=(Chg.refl (·=b) w).setCell (AK rfl) _ _;clear h;go_enter func153,ntmps153;go_wp2;go_end0;exact⟨rfl,HK.out,HG.out⟩
def NA (l:List Int):Prop:=l.Nodup/\∀x ∈ l,0<=x/\x<12
theorem iN:∀(n:Nat) (l:List Int),l.Nodup->(∀x ∈ l,0<=x/\x<(n:Int))->l.length<=n
 | 0,l,_,h=>by
  match l with
  | []=>exact AM _
  | x :: _=>have:=h x (by simp);omega
 | n+1,l,hd,h=>by
  by_cases hm:(n:Int) ∈ l
  ·
   have e:=length_erase_of_mem hm
   have:=iN n (l.erase (n:Int)) (hd.erase _) (fun x hx=>by
    have h1:=hd.mem_erase_iff.1 hx
    have h2:=h x h1.2
    have h3:=h1.1
    omega)
   have hp:0<l.length:=length_pos_of_mem hm
   omega
  ·
   have:=iN n l hd (fun x hx=>by
    have h2:=h x hx
    have h3:x≠(n:Int):=fun e=>hm (e ▸ hx)
    omega)
   omega
theorem NA.len{l:List Int}(h:NA l):l.length<=12:=iN 12 l h.1 h.2
theorem NA.snoc{x:Int}{l:List Int}(h:NA l)(hx:¬ (x<0\/12<=x))(hm:x ∉ l):NA (l ++ [x]):=by
 refine⟨nodup_append.2 ⟨h.1,by simp,fun a ha b hb=>?_⟩,fun y hy=>?_⟩
 ·simp at hb;subst hb;exact fun e=>hm (e ▸ ha)
 ·rcases mem_append.1 hy with hy | hy
  ·exact h.2 y hy
  ·simp at hy;subst hy;omega
def iO (x:Int):Nat:=if x<0\/12<=x then 1 else 0
def Ub (l:List Int) (x:Int):List Int:=if (x<0\/12<=x)\/x ∈ l then l else l ++ [x]
theorem NA.add{l:List Int}(h:NA l)(x:Int):NA (Ub l x):=by
 unfold Ub;split
 ·exact h
 ·rename_i c;exact h.snoc (fun e=>c (AK e)) (fun e=>c (AL e))
def SI (w:Wd) (b:Nat) (t:TypeId) (n:Nat) (g:Nat->Value) (o:Nat) (F:Nat->Int):Prop:=Sto w b t n (upL g o (ints F 13))/\o+13<=n
section
variable {w w':Wd}{b:Nat}{t:TypeId}{n:Nat}{g:Nat->Value}{o:Nat}{F:Nat->Int}
theorem CJ(g:Nat->Value)(o m:Nat)(F:Nat->Int)(j:Nat)(hj:j<m):upL g o (ints F m) (o+j)=.int .i64 (F j):=GG g o (ints F m) j _ (BU F m j hj)
theorem Cc(g:Nat->Value)(o m:Nat)(F:Nat->Int)(i:Nat)(h:i<o\/o+m<=i):upL g o (ints F m) i=g i:=by
 unfold upL;rw[AI (by rw[BF];omega)]
theorem SI.cell(h:SI w b t n g o F)(j:Nat)(hj:j<13):w.cell? ⟨b,o+j,none⟩=some (.int .i64 (F j))/\w.frozen? ⟨b,o+j,none⟩=false:=by
 obtain⟨h1,h2⟩:=h;exact⟨by rw[h1.cell (o+j) om,CJ g o 13 F j hj],h1.frozen _⟩
theorem SI.set(h:SI w b t n g o F)(j:Nat)(hj:j<13)(z:Int):SI (w.setCell ⟨b,o+j,none⟩ (.int .i64 z)) b t n g o (upd F j z):=by
 obtain⟨h1,h2⟩:=h;refine⟨(h1.setCell (o+j) (.int .i64 z)).ext fun i hi=>?_,h2⟩;rw[Br];by_cases e:i=o+j
 ·subst e;rw[AJ rfl,CJ _ _ _ _ _ hj];unfold upd;rw[AJ rfl]
 ·rw[AI e];by_cases c:o<=i/\i<o+13
  ·obtain⟨k,rfl⟩:∃k,i=o+k:=⟨i - o,om⟩;rw[CJ _ _ _ _ _ om,CJ _ _ _ _ _ om];unfold upd;rw[AI om]
  ·rw[Cc _ _ _ _ _ om,Cc _ _ _ _ _ om]
end
def QB (w:Wd) (b:Nat) (t:TypeId) (n:Nat) (g:Nat->Value) (o:Nat) (l:List Int):Prop:=∃F,SI w b t n g o F/\F 12=(l.length:Int)/\∀i,i<l.length->F i=l.getD i 0
section
variable {w w':Wd}{b:Nat}{t:TypeId}{n:Nat}{g:Nat->Value}{o:Nat}{l:List Int}
theorem QB.drewN(h:QB w b t n g o l)(m:Nat):QB (w.drewN m) b t n g o l:=h
theorem QB.many(h:QB w b t n g o l):w.cell? ⟨b,o+12,none⟩=some (.int .i64 (l.length:Int))/\w.frozen? ⟨b,o+12,none⟩=false:=by
 obtain⟨F,h1,h2,-⟩:=h;rw[<-h2];exact h1.cell 12 om
theorem QB.cell(h:QB w b t n g o l)(hl:l.length<=12)(i:Nat)(hi:i<l.length):w.cell? ⟨b,o+i,none⟩=some (.int .i64 (l.getD i 0))/\w.frozen? ⟨b,o+i,none⟩=false:=by
 obtain⟨F,h1,-,h3⟩:=h;rw[<-h3 i hi];exact h1.cell i om
end
theorem PG:prog.arrayLen 36=12:=kr
theorem Q6(w:Wd):(sizeOf (prog.elem 36)).run prog w=.ok 1 w:=kr
theorem Uc(b o n:Nat)(hn:n<=12)(w:Wd):(Instr.sliceAt 36 (.pointer (some ⟨b,o,none⟩)) none (some (.int .i64 n)) none).run prog w=.ok (.slice (some ⟨b,o,none⟩) n 12) w:=by
 rw[run_sliceAt_array_h w 36 ⟨b,o,none⟩ underlying36 .i64 n om (by rw[PG];omega),Q6,PG];simp[slicedAt,Addr.add_mid]
theorem D5(b o:Nat)(w:Wd):(Instr.sliceAt 36 (.pointer (some ⟨b,o,none⟩)) none none none).run prog w=.ok (.slice (some ⟨b,o,none⟩) 12 12) w:=by
 rw[run_sliceAt_array_all w 36 ⟨b,o,none⟩ underlying36,Q6,PG];simp[slicedAt,Addr.add_mid]
theorem SP(w:Wd)(b:Nat)(t:TypeId)(nn:Nat)(g:Nat->Value)(o:Nat)(l:List Int)(h:QB w b t nn g o l)(hl:l.length<=12)(x:Int):Calls prog 160 #[.pointer (some ⟨b,o,none⟩),.int .i64 x] w fun e w'=>e=.returned (.bool (decide (x ∈ l)))/\∃m,w'=w.drewN m:=by
 obtain⟨bb,HB⟩:∃bb,Hid (bb=decide (x ∈ l)):=⟨_,rfl⟩;rw[<-HB.out];obtain⟨c,-⟩:=h.many;have HK:=BE h;obtain⟨n,hn⟩:∃n,n=l.length:=⟨_,rfl⟩;rw[<-hn] at c hl;have HN:=BE hn;have hs:=Uc b o n hl;have HL:=BE hl;have hnz:(n:Int)<=12:=om
 clear h hn hl;go_enter func160,ntmps160;go_wp2_with fail
 go_quiet (fail)
 clear hs c;go_wp2_with fail
 go_loopg [16] n (fun kx s16 wr=>∃i:Nat,s16=.int .i64 i/\i<=n/\n - i<=kx/\Hid (∀j,j<i->l.getD j 0≠x)/\Hid (wr=w.drewN nq))
 case atStart=>exact⟨0,rfl,om,om,fun j hj=>absurd hj (Nat.not_lt_zero _),rfl⟩
 case round=>
 obtain⟨i,rfl,hin,hkx,HI,HW⟩:=hrel;obtain rfl:=HW.out;by_cases hlt:i<n
 ·have hltz:(i:Int)<(n:Int):=om
  obtain⟨ci,-⟩:=(HK.out.drewN nq).cell (by rw[<-HN.out];exact HL.out) i (by rw[<-HN.out];exact hlt);generalize HZ:l.getD i 0=z at *
  have HZ:=BE HZ;by_cases e:z=x
  ·have HE:=BE e;have hb:(z == x)=true:=(by simp[e]);clear e;go_wp2;go_ret;have:bb=true:=by
    rw[HB.out];refine AO ?_;rw[<-HE.out,<-HZ.out,AQ,AU (by rw[<-HN.out];exact hlt)];exact getElem_mem _
   rw[this];exact⟨rfl,_,rfl⟩
  ·have HE:=BE e;have hb:(z == x)=false:=(by simp[e]);clear e;go_wp2
   go_roundg (n - (i+1))
   case measure=>omega
   case rel=>
    refine⟨i+1,by simp,om,AM _,fun j hj=>?_,rfl⟩;by_cases e:j=i
    ·rw[e,HZ.out];exact HE.out
    ·exact HI.out j om
 ·have hltz:¬ (i:Int)<(n:Int):=om
  go_wp2;go_ret;have:bb=false:=by
   rw[HB.out];refine AN fun hm=>?_;obtain⟨j,hj,he⟩:=getElem_of_mem hm;refine HI.out j (by have:=HN.out;omega) ?_;rw[AQ,AU hj];exact he
  rw[this];exact⟨rfl,_,rfl⟩
theorem Ks:(prog.info? 3).map (·.size)=some 1:=kr
theorem cJ(w:Wd)(b o:Nat)(x:Int)(h:x<0\/12<=x):Calls prog 101 #[.pointer (some ⟨b,o,none⟩),.int .i64 x] w fun e w'=>e=.returned (.iface 57 (.int .i64 1))/\w'=w:=by
 by_cases h0:x<0
 ·clear h;go_enter func101,ntmps101;go_wp2;go_ret;exact⟨rfl,rfl⟩
 ·have h1:x ≥ 12:=om
  clear h;go_enter func101,ntmps101;go_wp2;go_ret;exact⟨rfl,rfl⟩
theorem cK(w:Wd)(b:Nat)(t:TypeId)(nn:Nat)(g:Nat->Value)(o:Nat)(l:List Int)(h:QB w b t nn g o l)(hl:l.length<=12)(x:Int)(hx:¬ (x<0\/12<=x))(hm:x ∈ l):Calls prog 101 #[.pointer (some ⟨b,o,none⟩),.int .i64 x] w fun e w'=>e=.returned .nilIface/\∃m,w'=w.drewN m:=by
 have hw:=SP w b t nn g o l h hl x;rw[AO hm] at hw;have h0:¬ x<0:=om
 have h1:¬ x ≥ 12:=om
 clear h hl hm hx;go_enter func101,ntmps101;go_wp2_with fail;refine hw.mono ?_;rintro e w1 ⟨rfl,m,rfl⟩;clear hw;go_wp2;go_ret;exact⟨rfl,_,rfl⟩
theorem cQ(w:Wd)(b:Nat)(t:TypeId)(nn:Nat)(g:Nat->Value)(o:Nat)(l:List Int)(h:QB w b t nn g o l)(hl:l.length<12)(x:Int)(hx:¬ (x<0\/12<=x))(hm:x ∉ l):Calls prog 101 #[.pointer (some ⟨b,o,none⟩),.int .i64 x] w fun e w'=>e=.returned .nilIface/\QB w' b t nn g o (l ++ [x])/\Chg (·=b) w w':=by
 have hw:=SP w b t nn g o l h om x;rw[AN hm] at hw;have h0:¬ x<0:=om
 have h1:¬ x ≥ 12:=om
 obtain⟨F,hI,k1,k2⟩:=h;obtain⟨n,hn⟩:∃n,n=l.length:=⟨_,rfl⟩;rw[<-hn] at hl k1 k2;have HI:=BE hI;have H1:=BE k1;have H2:=BE k2;have HN:=BE hn;have HL:=BE hl;have hnz:(n:Int)<12:=om
 clear hI k1 k2 hn hl hm hx;go_enter func101,ntmps101;go_wp2_with fail;refine hw.mono ?_;rintro e w1 ⟨rfl,m,rfl⟩;clear hw;have I1:SI (w.drewN m) b t nn g o F:=HI.out;have HG1:Hid (Chg (·=b) w (w.drewN m)):=(Chg.refl _ _).drewN m;generalize w.drewN m=w1 at *
 obtain⟨c12,f12⟩:=I1.cell 12 om;rw[H1.out] at c12;obtain⟨cn,fn⟩:=I1.cell n (by have:=HL.out;omega);have HI1:=BE I1;clear I1 HI;go_wp2_with fail;go_region;have I2:SI ((w1.setCell ⟨b,o+n,none⟩ (.int .i64 x)).drew) b t nn g o (upd F n x):=HI1.out.set n (by have:=HL.out;omega) x;have HG2:Hid (Chg (·=b) w ((w1.setCell ⟨b,o+n,none⟩ (.int .i64 x)).drew)):=(HG1.out.setCell (AK rfl) _ _).drew;clear HI1 HG1 c12 f12 cn fn;generalize (w1.setCell ⟨b,o+n,none⟩ (.int .i64 x)).drew=w2 at *
 obtain⟨d12,g12⟩:=I2.cell 12 om;rw[show upd F n x 12=(n:Int) by unfold upd;rw[AI (by have:=HL.out;omega)];exact H1.out] at d12;have HQ:Hid (QB (w2.setCell ⟨b,o+12,none⟩ (.int .i64 ((n+1:Nat):Int))) b t nn g o (l ++ [x])):=⟨_,I2.set 12 om _,by rw[AV,<-HN.out];rfl,fun i hi=>by
  rw[AV,<-HN.out,length_singleton] at hi
  have hl:=HL.out
  show (if i=12 then ((n+1:Nat):Int) else if i=n then x else F i)=_
  rw[AI om]
  by_cases e:i=n
  ·
   rw[AJ e,e,HN.out];simp
  ·
   rw[AI e,H2.out i om,AQ,AQ,Af (by rw[<-HN.out];omega)]⟩
 have HG3:Hid (Chg (·=b) w (w2.setCell ⟨b,o+12,none⟩ (.int .i64 ((n+1:Nat):Int)))):=HG2.out.setCell (AK rfl) _ _;clear I2 HG2;go_wp2;go_ret;exact⟨rfl,HQ.out,HG3.out⟩
theorem lK(w:Wd)(b:Nat)(t:TypeId)(nn:Nat)(g:Nat->Value)(o:Nat)(l:List Int)(h:QB w b t nn g o l)(ok:NA l)(x:Int):Calls prog 101 #[.pointer (some ⟨b,o,none⟩),.int .i64 x] w fun e w'=>e=.returned (errV (iO x))/\QB w' b t nn g o (Ub l x)/\Chg (·=b) w w':=by
 unfold iO Ub;by_cases c:x<0\/12<=x
 ·rw[AJ c,AJ (AK c)];refine(cJ w b o x c).mono ?_;rintro e w' ⟨rfl,rfl⟩;exact⟨rfl,h,Chg.refl _ _⟩
 ·rw[AI c];by_cases hm:x ∈ l
  ·rw[AJ (AL hm)];refine(cK w b t nn g o l h ok.len x c hm).mono ?_;rintro e w' ⟨rfl,m,rfl⟩;exact⟨rfl,h.drewN m,(Chg.refl _ _).drewN m⟩
  ·rw[AI (fun e=>e.elim c hm)];have:=(ok.snoc c hm).len;refine(cQ w b t nn g o l h (by simp at this;omega) x c hm).mono ?_;rintro e w' ⟨rfl,h1,h2⟩;exact⟨rfl,h1,h2⟩
end Go.Proofs.YtmdpnpjacfedpaaGreat.AF
