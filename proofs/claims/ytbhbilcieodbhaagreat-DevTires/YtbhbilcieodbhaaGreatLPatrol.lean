/-
  Lemmas.
-/
import Derived.Test.YtbhbilcieodbhaaGreatOm
import Derived.Test.YtbhbilcieodbhaaGreatP03
set_option maxRecDepth 1000000
set_option maxHeartbeats 16000000
set_option linter.unusedSimpArgs false
namespace Go.Proofs.YtbhbilcieodbhaaGreat.AE
open List
open Go.Proofs.Tryz
open Go.RowKit
section
variable {w w':Wd}{b n:Nat}{t:TypeId}{F:Nat->Bool}
end
theorem CX(w:Wd):(binOp .neq 33 .nilIface .nilIface).run prog w=.ok (.bool false) w:=kr
theorem BH(w:Wd)(n m:Int)(h:0<=n/\n<m):Calls prog 145 #[.int .i64 n,.int .i64 m] w fun e w'=>e=.returned (.bool true)/\w'=w:=by
 obtain⟨h0,h1⟩:=h;go_enter func145,ntmps145;go_wp2;go_ret;exact⟨rfl,rfl⟩
theorem parts_in(w:Wd)(p:Int)(h:0<=p/\p<96):Calls prog 127 #[.int .i64 p] w fun e w'=>e=.returned (.tuple #[.int .i64 (p / 8),.int .i64 (p % 8),.nilIface])/\w'=w:=by
 obtain⟨h0,h1⟩:=h;go_enter func127,ntmps127;go_wp2_with fail;refine(BH w p 96 ⟨h0,h1⟩).mono ?_;rintro e w1 ⟨rfl,rfl⟩;go_wp2
 go_ret3
 exact⟨rfl,rfl⟩
theorem ll(w:Wd)(c d:Nat)(h:c<96)(hd:d=(c+1) % 96):Calls prog 106 #[.int .i64 c,.int .i64 1] w fun e w'=>e=.returned (.tuple #[.int .i64 d,.nilIface])/\w'=w:=by
 have h0:(0:Int)<=c:=om
 have h1:(c:Int)<96:=om
 have HD:Hid (((c:Int)+1+96) % 96=(d:Int)):=by show _=_;omega
 clear h hd;go_enter func106,ntmps106;go_wp2_with fail;refine(BH w c 96 ⟨h0,h1⟩).mono ?_;rintro e w1 ⟨rfl,rfl⟩;go_wp2;go_ret2;rw[<-HD.out];exact⟨rfl,rfl⟩
def pr (c k:Nat):Nat->Int:=fun i=>if i=0 then (c:Int) else (k:Int)
def PB (w:Wd) (b:Nat) (t:TypeId) (c k:Nat):Prop:=IB w b t 2 (pr c k)
section
variable {w w':Wd}{b c k:Nat}{t:TypeId}
theorem PB.lt(h:PB w b t c k):b<w.heap.size:=IB.lt h
theorem PB.chg{S:Nat->Prop}(h:PB w b t c k)(hc:Chg S w w')(hb:¬ S b):PB w' b t c k:=IB.chg h hc hb
theorem PB.c0(h:PB w b t c k):w.cell? ⟨b,0,none⟩=some (.int .i64 c)/\w.frozen? ⟨b,0,none⟩=false:=IB.cell h 0 om
theorem PB.c1(h:PB w b t c k):w.cell? ⟨b,1,none⟩=some (.int .i64 k)/\w.frozen? ⟨b,1,none⟩=false:=IB.cell h 1 om
theorem PB.set0(h:PB w b t c k)(d:Nat):PB (w.setCell ⟨b,0,none⟩ (.int .i64 d)) b t d k:=by
 refine(IB.set h 0 (d:Int)).congr fun i _=>?_;unfold upd pr;split <;> rfl
theorem PB.set1(h:PB w b t c k)(d:Nat):PB (w.setCell ⟨b,1,none⟩ (.int .i64 d)) b t c d:=by
 refine(IB.set h 1 (d:Int)).congr fun i hi=>?_;unfold upd pr;by_cases e:i=0
 ·subst e;rfl
 ·rw[AI e,AJ om,AI e]
theorem PB.new(w:Wd)(t:TypeId)(c k:Nat):PB (w.alloc (.cells #[.int .i64 c,.int .i64 k] t)) w.heap.size t c k:=IB.new w t 2 (pr c k)
end
theorem new_yes(w:Wd)(c:Nat)(hc:c<96):Calls prog 174 #[.int .i64 c] w fun e w'=>e=.returned (.tuple #[.pointer (some ⟨w.heap.size,0,none⟩),.nilIface])/\PB w' w.heap.size 165 c 0/\Chg No w w':=by
 have hp:=parts_in w c om;have q:=CX;have HK:=BB (PB.new w 165 c 0);have HG:Hid (Chg No w (w.alloc (.cells #[.int .i64 c,.int .i64 (0:Nat)] 165))):=(Chg.refl _ w).alloc _;go_enter func174,ntmps174;go_wp2_with fail;refine hp.mono ?_;rintro e w1 ⟨rfl,rfl⟩;clear hp hc;go_wp2;go_ret2;exact⟨rfl,HK.out,HG.out⟩
theorem Ea(w:Wd)(b c k:Nat)(h:PB w b 165 c k):Calls prog 51 #[.pointer (some ⟨b,0,none⟩)] w fun e w'=>e=.returned (.int .i64 c)/\w'=w:=by
 obtain⟨c0,-⟩:=h.c0;clear h;go_enter func51,ntmps51;go_wp2;go_ret;exact⟨rfl,rfl⟩
theorem Ht(w:Wd)(b c k:Nat)(h:PB w b 165 c k):Calls prog 52 #[.pointer (some ⟨b,0,none⟩)] w fun e w'=>e=.returned (.int .i64 k)/\w'=w:=by
 obtain⟨c1,-⟩:=h.c1;clear h;go_enter func52,ntmps52;go_wp2;go_ret;exact⟨rfl,rfl⟩
theorem Zo(w:Wd)(b c k:Nat)(h:PB w b 165 c k):Calls prog 76 #[.pointer (some ⟨b,0,none⟩)] w fun e w'=>e=.returned (.bool (decide ((k:Int) ≥ 8)))/\w'=w:=by
 obtain⟨c1,-⟩:=h.c1;clear h;go_enter func76,ntmps76;go_wp2;go_ret;exact⟨rfl,rfl⟩
theorem SX(w:Wd)(b c k:Nat)(h:PB w b 165 c k):Calls prog 121 #[.pointer (some ⟨b,0,none⟩)] w fun e w'=>e=.returned (.tuple #[])/\PB w' b 165 c 0/\Chg (·=b) w w':=by
 obtain⟨c1,f1⟩:=h.c1;have HK:=BB (h.set1 0);have HG:Hid (Chg (·=b) w (w.setCell ⟨b,1,none⟩ (.int .i64 0))):=(Chg.refl (·=b) w).setCell (AK rfl) _ _;clear h;go_enter func121,ntmps121;go_wp2;go_end0;exact⟨rfl,HK.out,HG.out⟩
def eB (c:Nat):Nat->Int:=fun j=>((c+j) % 96:Nat)
theorem js(w:Wd):(Instr.makeSlice 22 (.int .i64 8) (.int .i64 8)).run prog w=.ok (.slice (some ⟨w.heap.size,0,none⟩) 8 8) (w.alloc (.cells (ints (fun _=>0) 8).toArray 3)):=kr
theorem eC(w:Wd)(b c k:Nat)(h:PB w b 165 c k)(hc:c<96)(hk:k<9223372036854775807)(d:Nat)(hd:d=(c+8) % 96):Calls prog 72 #[.pointer (some ⟨b,0,none⟩)] w fun e w'=>e=.returned (.slice (some ⟨w.heap.size,0,none⟩) 8 8)/\IB w' w.heap.size 3 8 (eB c)/\PB w' b 165 d (k+1)/\Chg (·=b) w w':=by
 have hm:=js;have hkz:(k:Int)<9223372036854775807:=om
 have HC:=BB hc;have HD:=BB hd;have HK0:=BB (IB.new w 3 8 (fun _=>0));have HG0:Hid (Chg (·=b) w (w.alloc (.cells (ints (fun _=>0) 8).toArray 3))):=(Chg.refl _ w).alloc _;have HP0:=BB (h.chg ((Chg.refl No w).alloc (.cells (ints (fun _=>0) 8).toArray 3)) (fun f=>f));have hne:b≠w.heap.size:=Nat.ne_of_lt h.lt;clear h hc hd hk;go_enter func72,ntmps72;go_wp2_with fail;generalize w.alloc (.cells (ints (fun _=>0) 8).toArray 3)=w0 at *
 generalize HB:w.heap.size=s at *
 have HB:=BB HB;clear hm
 go_loopg [8] 8 (fun kx s8 wr=>∃i:Nat,s8=.int .i64 i/\i<=8/\8 - i<=kx/\Hid (IB wr s 3 8 (fun j=>if j<i then eB c j else 0))/\Hid (PB wr b 165 ((c+i) % 96) k)/\Hid (Chg (·=b) w wr))
 case atStart=>exact⟨0,rfl,om,om,HK0.out.congr fun j _=>by rw[AI om],by show PB _ _ _ _ _;rw[Nat.add_zero,Az HC.out];exact HP0.out,HG0⟩
 case round=>
 obtain⟨i,rfl,hin,hkx,HI,HP,HG⟩:=hrel;clear HK0 HG0 HP0;by_cases hlt:i<8
 ·have hltz:(i:Int)<8:=om
  obtain⟨ci,fi⟩:=HI.out.cell i hlt;obtain⟨c0,f0⟩:=HP.out.c0;have P1:=HP.out.chg ((Chg.refl (·=s) wr).setCell (AK rfl) i (.int .i64 (((c+i) % 96:Nat):Int))) hne;obtain⟨d0,g0⟩:=P1.c0;have HI1:=BB (HI.out.set i (((c+i) % 96:Nat):Int));have HP1:=BB P1;have HG1:Hid (Chg (·=b) w (wr.setCell ⟨s,i,none⟩ (.int .i64 (((c+i) % 96:Nat):Int)))):=HG.out.setCell (AL (by rw[HB.out];exact AM _)) _ _;have hon:=fun wx=>ll wx ((c+i) % 96) ((c+(i+1)) % 96) (Nat.mod_lt _ dc) om;have HE:Hid (eB c i=(((c+i) % 96:Nat):Int)):=rfl;clear P1 HI HP HG;generalize (c+i) % 96=m at *
  generalize HM:(c+(i+1)) % 96=m' at *
  have HM:=BB HM;go_wp2_with fail;refine(hon _).mono ?_;rintro e w1 ⟨rfl,rfl⟩;have HI2:=BB (HI1.out.chg ((Chg.refl (·=b) _).setCell (AK rfl) 0 (.int .i64 m')) hne.symm);have HP2:=BB (HP1.out.set0 m');have HG2:=BB (HG1.out.setCell (AK rfl) 0 (.int .i64 m'));clear HI1 HP1 HG1 hon;go_wp2
  go_roundg (8 - (i+1))
  case measure=>omega
  case rel=>
   refine⟨i+1,by simp,om,AM _,?_,by show PB _ _ _ _ _;rw[HM.out];exact HP2.out,HG2⟩;refine HI2.out.congr fun j _=>?_;unfold upd;by_cases e:j=i
   ·subst e;rw[AJ rfl,AJ om,HE.out]
   ·rw[AI e];show (if j<i then eB c j else 0)=_;by_cases e2:j<i
    ·rw[AJ e2,AJ om]
    ·rw[AI e2,AI om]
 ·have hltz:¬ (i:Int)<8:=om
  have h8:i=8:=om
  subst h8;have HI2:Hid (IB wr s 3 8 (eB c)):=HI.out.congr fun j hj=>by rw[AJ hj]
  have P2:=HP.out;rw[<-HD.out] at P2;obtain⟨c1,f1⟩:=P2.c1;have HI3:=BB (HI2.out.chg ((Chg.refl (·=b) _).setCell (AK rfl) 1 (.int .i64 (k+1))) hne.symm);have HP3:=BB (P2.set1 (k+1));have HG3:=BB (HG.out.setCell (AK rfl) 1 (.int .i64 (k+1)));clear P2 HI HP HG HI2 HD;go_wp2;go_ret;exact⟨rfl,HI3.out,HP3.out,HG3.out⟩
def Le (l:List Int):Prop:=l.Nodup/\∀x ∈ l,0<=x/\x<12
theorem eG:∀(n:Nat) (l:List Int),l.Nodup->(∀x ∈ l,0<=x/\x<(n:Int))->l.length<=n
 | 0,l,_,h=>by
  match l with
  | []=>exact AM _
  | x :: _=>have:=h x (by simp);omega
 | n+1,l,hd,h=>by
  by_cases hm:(n:Int) ∈ l
  ·
   have e:=length_erase_of_mem hm
   have:=eG n (l.erase (n:Int)) (hd.erase _) (fun x hx=>by
    have h1:=hd.mem_erase_iff.1 hx
    have h2:=h x h1.2
    have h3:=h1.1
    omega)
   have hp:0<l.length:=length_pos_of_mem hm
   omega
  ·
   have:=eG n l hd (fun x hx=>by
    have h2:=h x hx
    have h3:x≠(n:Int):=fun e=>hm (e ▸ hx)
    omega)
   omega
theorem Le.len{l:List Int}(h:Le l):l.length<=12:=eG 12 l h.1 h.2
theorem Le.tail{x:Int}{l:List Int}(h:Le (x :: l)):Le l:=⟨(nodup_cons.1 h.1).2,fun y hy=>h.2 y (by simp[hy])⟩
theorem Le.snoc{x:Int}{l:List Int}(h:Le l)(hx:¬ (x<0\/12<=x))(hm:x ∉ l):Le (l ++ [x]):=by
 refine⟨nodup_append.2 ⟨h.1,by simp,fun a ha b hb=>?_⟩,fun y hy=>?_⟩
 ·simp at hb;subst hb;exact fun e=>hm (e ▸ ha)
 ·rcases mem_append.1 hy with hy | hy
  ·exact h.2 y hy
  ·simp at hy;subst hy;omega
def eH (x:Int):Nat:=if x<0\/12<=x then 1 else 0
def PL (l:List Int) (x:Int):List Int:=if (x<0\/12<=x)\/x ∈ l then l else l ++ [x]
theorem Le.add{l:List Int}(h:Le l)(x:Int):Le (PL l x):=by
 unfold PL;split
 ·exact h
 ·rename_i c;exact h.snoc (fun e=>c (AK e)) (fun e=>c (AL e))
def SI (w:Wd) (b:Nat) (t:TypeId) (n:Nat) (g:Nat->Value) (o:Nat) (F:Nat->Int):Prop:=Sto w b t n (upL g o (ints F 13))/\o+13<=n
section
variable {w w':Wd}{b:Nat}{t:TypeId}{n:Nat}{g:Nat->Value}{o:Nat}{F:Nat->Int}
theorem Br(g:Nat->Value)(o m:Nat)(F:Nat->Int)(j:Nat)(hj:j<m):upL g o (ints F m) (o+j)=.int .i64 (F j):=FZ g o (ints F m) j _ (BM F m j hj)
theorem CG(g:Nat->Value)(o m:Nat)(F:Nat->Int)(i:Nat)(h:i<o\/o+m<=i):upL g o (ints F m) i=g i:=by
 unfold upL;rw[AI (by rw[BD];omega)]
theorem SI.cell(h:SI w b t n g o F)(j:Nat)(hj:j<13):w.cell? ⟨b,o+j,none⟩=some (.int .i64 (F j))/\w.frozen? ⟨b,o+j,none⟩=false:=by
 obtain⟨h1,h2⟩:=h;exact⟨by rw[h1.cell (o+j) om,Br g o 13 F j hj],h1.frozen _⟩
theorem SI.set(h:SI w b t n g o F)(j:Nat)(hj:j<13)(z:Int):SI (w.setCell ⟨b,o+j,none⟩ (.int .i64 z)) b t n g o (upd F j z):=by
 obtain⟨h1,h2⟩:=h;refine⟨(h1.setCell (o+j) (.int .i64 z)).ext fun i hi=>?_,h2⟩;rw[Bj];by_cases e:i=o+j
 ·subst e;rw[AJ rfl,Br _ _ _ _ _ hj];unfold upd;rw[AJ rfl]
 ·rw[AI e];by_cases c:o<=i/\i<o+13
  ·obtain⟨k,rfl⟩:∃k,i=o+k:=⟨i - o,om⟩;rw[Br _ _ _ _ _ om,Br _ _ _ _ _ om];unfold upd;rw[AI om]
  ·rw[CG _ _ _ _ _ om,CG _ _ _ _ _ om]
end
def QB (w:Wd) (b:Nat) (t:TypeId) (n:Nat) (g:Nat->Value) (o:Nat) (l:List Int):Prop:=∃F,SI w b t n g o F/\F 12=(l.length:Int)/\∀i,i<l.length->F i=l.getD i 0
section
variable {w w':Wd}{b:Nat}{t:TypeId}{n:Nat}{g:Nat->Value}{o:Nat}{l:List Int}
theorem QB.drewN(h:QB w b t n g o l)(m:Nat):QB (w.drewN m) b t n g o l:=h
theorem QB.many(h:QB w b t n g o l):w.cell? ⟨b,o+12,none⟩=some (.int .i64 (l.length:Int))/\w.frozen? ⟨b,o+12,none⟩=false:=by
 obtain⟨F,h1,h2,-⟩:=h;rw[<-h2];exact h1.cell 12 om
theorem QB.cell(h:QB w b t n g o l)(hl:l.length<=12)(i:Nat)(hi:i<l.length):w.cell? ⟨b,o+i,none⟩=some (.int .i64 (l.getD i 0))/\w.frozen? ⟨b,o+i,none⟩=false:=by
 obtain⟨F,h1,-,h3⟩:=h;rw[<-h3 i hi];exact h1.cell i om
end
theorem NM:prog.arrayLen 37=12:=kr
theorem PM(w:Wd):(sizeOf (prog.elem 37)).run prog w=.ok 1 w:=kr
theorem SY(b o n:Nat)(hn:n<=12)(w:Wd):(Instr.sliceAt 37 (.pointer (some ⟨b,o,none⟩)) none (some (.int .i64 n)) none).run prog w=.ok (.slice (some ⟨b,o,none⟩) n 12) w:=by
 rw[run_sliceAt_array_h w 37 ⟨b,o,none⟩ underlying37 .i64 n om (by rw[NM];omega),PM,NM];simp[slicedAt,Addr.add_mid]
theorem Dc(b o:Nat)(w:Wd):(Instr.sliceAt 37 (.pointer (some ⟨b,o,none⟩)) none none none).run prog w=.ok (.slice (some ⟨b,o,none⟩) 12 12) w:=by
 rw[run_sliceAt_array_all w 37 ⟨b,o,none⟩ underlying37,PM,NM];simp[slicedAt,Addr.add_mid]
theorem SZ(b o n:Nat)(hn:n<=11)(w:Wd):(Instr.sliceAt 37 (.pointer (some ⟨b,o,none⟩)) (some (.int .i64 1)) (some (.int .i64 (n+1))) none).run prog w=.ok (.slice (some ⟨b,o+1,none⟩) n 11) w:=by
 rw[run_sliceAt_array_lh w 37 ⟨b,o,none⟩ underlying37 .i64 .i64 1 (n+1) om om (by rw[NM];omega),PM,NM];simp only[Result.andThen_ok,slicedAt];rw[AI om,Addr.add_mid];congr 2
theorem Qn(w:Wd)(b:Nat)(t:TypeId)(nn:Nat)(g:Nat->Value)(o:Nat)(l:List Int)(h:QB w b t nn g o l)(hl:l.length<=12)(x:Int):Calls prog 129 #[.pointer (some ⟨b,o,none⟩),.int .i64 x] w fun e w'=>e=.returned (.bool (decide (x ∈ l)))/\∃m,w'=w.drewN m:=by
 obtain⟨bb,HB⟩:∃bb,Hid (bb=decide (x ∈ l)):=⟨_,rfl⟩;rw[<-HB.out];obtain⟨c,-⟩:=h.many;have HK:=BB h;obtain⟨n,hn⟩:∃n,n=l.length:=⟨_,rfl⟩;rw[<-hn] at c hl;have HN:=BB hn;have hs:=SY b o n hl;have HL:=BB hl;have hnz:(n:Int)<=12:=om
 clear h hn hl;go_enter func129,ntmps129;go_wp2_with fail
 go_quiet (fail)
 clear hs c;go_wp2_with fail
 go_loopg [16] n (fun kx s16 wr=>∃i:Nat,s16=.int .i64 i/\i<=n/\n - i<=kx/\Hid (∀j,j<i->l.getD j 0≠x)/\Hid (wr=w.drewN nq))
 case atStart=>exact⟨0,rfl,om,om,fun j hj=>absurd hj (Nat.not_lt_zero _),rfl⟩
 case round=>
 obtain⟨i,rfl,hin,hkx,HI,HW⟩:=hrel;obtain rfl:=HW.out;by_cases hlt:i<n
 ·have hltz:(i:Int)<(n:Int):=om
  obtain⟨ci,-⟩:=(HK.out.drewN nq).cell (by rw[<-HN.out];exact HL.out) i (by rw[<-HN.out];exact hlt);generalize HZ:l.getD i 0=z at *
  have HZ:=BB HZ;by_cases e:z=x
  ·have HE:=BB e;have hb:(z == x)=true:=(by simp[e]);clear e;go_wp2;go_ret;have:bb=true:=by
    rw[HB.out];refine AO ?_;rw[<-HE.out,<-HZ.out,AQ,AU (by rw[<-HN.out];exact hlt)];exact getElem_mem _
   rw[this];exact⟨rfl,_,rfl⟩
  ·have HE:=BB e;have hb:(z == x)=false:=(by simp[e]);clear e;go_wp2
   go_roundg (n - (i+1))
   case measure=>omega
   case rel=>
    refine⟨i+1,by simp,om,AM _,fun j hj=>?_,rfl⟩;by_cases e:j=i
    ·rw[e,HZ.out];exact HE.out
    ·exact HI.out j om
 ·have hltz:¬ (i:Int)<(n:Int):=om
  go_wp2;go_ret;have:bb=false:=by
   rw[HB.out];refine AN fun hm=>?_;obtain⟨j,hj,he⟩:=getElem_of_mem hm;refine HI.out j (by have:=HN.out;omega) ?_;rw[AQ,AU hj];exact he
  rw[this];exact⟨rfl,_,rfl⟩
theorem size3:(prog.info? 3).map (·.size)=some 1:=kr
theorem NN{ops:Array Oper}{p:Oper}{a:Act}{w:Wd}{K:Act->World->Prop}{Q:Exit->Act->World->Prop}{E:Prop}(hgd:p.guard=none)(d s:Operand)(ho:p.op=.call { callee:=.builtin .copy,args:=#[d,s],argTypes:=#[22,22] })(b t nn:Nat)(g:Nat->Value)(o n:Nat)(hd:a.eval d=.slice (some ⟨b,o,none⟩) 12 12)(hs:a.eval s=.slice (some ⟨b,o+1,none⟩) n 11)(hn:n<=11){F:Nat->Int}(hI:SI w b t nn g o F)(h:∀w',SI w' b t nn g o (fun j=>if j<n then F (j+1) else F j)->Chg (·=b) w w'->K (a.put p.dst (goInt n)) w') :if Region.wanted p (yielded ops a.tmps)=true then Oper.wp prog p a w K Q else E:=by
 have hw:Region.wanted p (yielded ops a.tmps)=true:=by simp[Region.wanted,hgd]
 rw[AJ hw];have hlen:(ints (fun j=>F (j+1)) n).length=n:=BD _ _;obtain⟨⟨cs,k1,k2,k3⟩,k4⟩:=hI;have hrun:=run_copy_row (P:=prog) w 22 22 p.type 3 b o 12 12 ⟨b,o+1,none⟩ n 11 cs t (ints (fun j=>F (j+1)) n) underlying22 size3 k1 (by rw[hlen];exact(Nat.min_eq_left om).symm) (fun j v hv=>by
  have hj:j<n:=by have:=(List.getElem?_eq_some_iff.1 hv).1;rwa [hlen] at this
  rw[Addr.add_mid,BM _ _ _ hj] at *
  rw[<-hv,cell_of_row w b _ _ _ _ k1,k3 _ om,show o+1+j=o+(j+1) by omega,Br _ _ _ _ _ om];rfl) (by rw[hlen];omega) (CK _ _)
 rw[hlen] at hrun;unfold Oper.wp;simp[execOp,ho,resolve,invoke,builtin,hd,hs,hrun,Result.andThen];refine h _ ⟨⟨_,setRow_heap w b _ _ t _ k1,?_,fun i hi=>?_⟩,k4⟩ (DF _ _ _)
 ·have:=BD (fun j=>F (j+1)) n;simp[this];omega
 ·have lt:(List.take o cs.toList).length=o:=by simp;omega
  rw[List.getElem?_toArray];by_cases h1:i<o
  ·rw[Af (by rw[lt];exact h1),List.getElem?_take_of_lt h1,Array.getElem?_toList,k3 i hi,CG _ _ _ _ _ om,CG _ _ _ _ _ om]
  ·rw[Aa (by rw[lt];omega),lt];by_cases h2:i<o+n
   ·rw[Af (by rw[hlen];omega)];obtain⟨j,rfl⟩:∃j,i=o+j:=⟨i - o,om⟩;rw[show o+j - o=j by omega,BM _ _ _ om,Br _ _ _ _ _ om,AJ om];rfl
   ·rw[Aa (by rw[hlen];omega),List.getElem?_drop,hlen,show o+n+(i - o - n)=i by omega,Array.getElem?_toList,k3 i hi];by_cases h3:i<o+13
    ·obtain⟨j,rfl⟩:∃j,i=o+j:=⟨i - o,om⟩;rw[Br _ _ _ _ _ om,Br _ _ _ _ _ om,AI om]
    ·rw[CG _ _ _ _ _ om,CG _ _ _ _ _ om]
theorem VE(w:Wd)(b:Nat)(t:TypeId)(nn:Nat)(g:Nat->Value)(o:Nat)(h:QB w b t nn g o []):Calls prog 109 #[.pointer (some ⟨b,o,none⟩)] w fun e w'=>e=.returned (.tuple #[.int .i64 0,.bool false])/\w'=w:=by
 obtain⟨c,-⟩:=h.many;replace c:w.cell? ⟨b,o+12,none⟩=some (.int .i64 0):=c;clear h;go_enter func109,ntmps109;go_wp2;go_ret2;exact⟨rfl,rfl⟩
theorem Sa(w:Wd)(b:Nat)(t:TypeId)(nn:Nat)(g:Nat->Value)(o:Nat)(x:Int)(l:List Int)(h:QB w b t nn g o (x :: l))(hl:l.length<=11):Calls prog 109 #[.pointer (some ⟨b,o,none⟩)] w fun e w'=>e=.returned (.tuple #[.int .i64 x,.bool true])/\QB w' b t nn g o l/\Chg (·=b) w w':=by
 obtain⟨c,-⟩:=h.many;obtain⟨c0,-⟩:=h.cell (by simp;omega) 0 (by simp);replace c0:w.cell? ⟨b,o,none⟩=some (.int .i64 x):=c0;obtain⟨F,hI,h1,h2⟩:=h;obtain⟨n,hn⟩:∃n,n=l.length:=⟨_,rfl⟩;rw[An,<-hn] at c h1 h2;rw[<-hn] at hl;have hnb:(((n+1:Nat):Int) == 0)=false:=by simp;omega
 have hnz:(n:Int)<=11:=om
 have hs1:=Dc b o;have hs2:=SZ b o n hl;have HI:=BB hI;have H1:=BB h1;have H2:=BB h2;have HN:=BB hn;have HL:=BB hl;clear hI h1 h2 hn hl
 push_cast at c hnb;go_enter func109,ntmps109;go_wp2_with fail
 go_region_law (refine NN rfl (.tmp 18) (.tmp 26) rfl b t nn g o n rfl rfl HL.out HI.out ?_;intro w2 I2 G2)
 all_goals
  have cm:=I2.cell 12 om;rw[AI (by have:=HL.out;omega),H1.out] at cm;obtain⟨c12,f12⟩:=cm
  push_cast at c12;have HQ:Hid (QB (w2.setCell ⟨b,o+12,none⟩ (.int .i64 n)) b t nn g o l):=⟨_,I2.set 12 om n,by rw[<-HN.out];rfl,fun i hi=>by
   have:=HN.out
   have:=HL.out
   show (if i=12 then (n:Int) else if i<n then F (i+1) else F i)=_
   rw[AI om,AJ om,H2.out (i+1) om,getD_cons_succ]⟩
  have HG:Hid (Chg (·=b) w (w2.setCell ⟨b,o+12,none⟩ (.int .i64 n))):=(((Chg.refl (·=b) w).drew).trans G2).setCell (AK rfl) _ _;clear I2 G2 c c0 hs1 hs2 HI H1 H2 hnb;go_wp2;go_ret2;exact⟨rfl,HQ.out,HG.out⟩
theorem Zp(w:Wd)(b o:Nat)(x:Int)(h:x<0\/12<=x):Calls prog 92 #[.pointer (some ⟨b,o,none⟩),.int .i64 x] w fun e w'=>e=.returned (.iface 56 (.int .i64 1))/\w'=w:=by
 by_cases h0:x<0
 ·clear h;go_enter func92,ntmps92;go_wp2;go_ret;exact⟨rfl,rfl⟩
 ·have h1:x ≥ 12:=om
  clear h;go_enter func92,ntmps92;go_wp2;go_ret;exact⟨rfl,rfl⟩
theorem Zq(w:Wd)(b:Nat)(t:TypeId)(nn:Nat)(g:Nat->Value)(o:Nat)(l:List Int)(h:QB w b t nn g o l)(hl:l.length<=12)(x:Int)(hx:¬ (x<0\/12<=x))(hm:x ∈ l):Calls prog 92 #[.pointer (some ⟨b,o,none⟩),.int .i64 x] w fun e w'=>e=.returned .nilIface/\∃m,w'=w.drewN m:=by
 have hw:=Qn w b t nn g o l h hl x;rw[AO hm] at hw;have h0:¬ x<0:=om
 have h1:¬ x ≥ 12:=om
 clear h hl hm hx;go_enter func92,ntmps92;go_wp2_with fail;refine hw.mono ?_;rintro e w1 ⟨rfl,m,rfl⟩;clear hw;go_wp2;go_ret;exact⟨rfl,_,rfl⟩
theorem Zr(w:Wd)(b:Nat)(t:TypeId)(nn:Nat)(g:Nat->Value)(o:Nat)(l:List Int)(h:QB w b t nn g o l)(hl:l.length<12)(x:Int)(hx:¬ (x<0\/12<=x))(hm:x ∉ l):Calls prog 92 #[.pointer (some ⟨b,o,none⟩),.int .i64 x] w fun e w'=>e=.returned .nilIface/\QB w' b t nn g o (l ++ [x])/\Chg (·=b) w w':=by
 have hw:=Qn w b t nn g o l h om x;rw[AN hm] at hw;have h0:¬ x<0:=om
 have h1:¬ x ≥ 12:=om
 obtain⟨F,hI,k1,k2⟩:=h;obtain⟨n,hn⟩:∃n,n=l.length:=⟨_,rfl⟩;rw[<-hn] at hl k1 k2;have HI:=BB hI;have H1:=BB k1;have H2:=BB k2;have HN:=BB hn;have HL:=BB hl;have hnz:(n:Int)<12:=om
 clear hI k1 k2 hn hl hm hx;go_enter func92,ntmps92;go_wp2_with fail;refine hw.mono ?_;rintro e w1 ⟨rfl,m,rfl⟩;clear hw;have I1:SI (w.drewN m) b t nn g o F:=HI.out;have HG1:Hid (Chg (·=b) w (w.drewN m)):=(Chg.refl _ _).drewN m;generalize w.drewN m=w1 at *
 obtain⟨c12,f12⟩:=I1.cell 12 om;rw[H1.out] at c12;obtain⟨cn,fn⟩:=I1.cell n (by have:=HL.out;omega);have HI1:=BB I1;clear I1 HI;go_wp2_with fail;go_region;have I2:SI ((w1.setCell ⟨b,o+n,none⟩ (.int .i64 x)).drew) b t nn g o (upd F n x):=HI1.out.set n (by have:=HL.out;omega) x;have HG2:Hid (Chg (·=b) w ((w1.setCell ⟨b,o+n,none⟩ (.int .i64 x)).drew)):=(HG1.out.setCell (AK rfl) _ _).drew;clear HI1 HG1 c12 f12 cn fn;generalize (w1.setCell ⟨b,o+n,none⟩ (.int .i64 x)).drew=w2 at *
 obtain⟨d12,g12⟩:=I2.cell 12 om;rw[show upd F n x 12=(n:Int) by unfold upd;rw[AI (by have:=HL.out;omega)];exact H1.out] at d12;have HQ:Hid (QB (w2.setCell ⟨b,o+12,none⟩ (.int .i64 ((n+1:Nat):Int))) b t nn g o (l ++ [x])):=⟨_,I2.set 12 om _,by rw[AV,<-HN.out];rfl,fun i hi=>by
  rw[AV,<-HN.out,length_singleton] at hi
  have hl:=HL.out
  show (if i=12 then ((n+1:Nat):Int) else if i=n then x else F i)=_
  rw[AI om]
  by_cases e:i=n
  ·
   rw[AJ e,e,HN.out];simp
  ·
   rw[AI e,H2.out i om,AQ,AQ,Af (by rw[<-HN.out];omega)]⟩
 have HG3:Hid (Chg (·=b) w (w2.setCell ⟨b,o+12,none⟩ (.int .i64 ((n+1:Nat):Int)))):=HG2.out.setCell (AK rfl) _ _;clear I2 HG2;go_wp2;go_ret;exact⟨rfl,HQ.out,HG3.out⟩
theorem jt(w:Wd)(b:Nat)(t:TypeId)(nn:Nat)(g:Nat->Value)(o:Nat)(l:List Int)(h:QB w b t nn g o l)(ok:Le l)(x:Int):Calls prog 92 #[.pointer (some ⟨b,o,none⟩),.int .i64 x] w fun e w'=>e=.returned (errV (eH x))/\QB w' b t nn g o (PL l x)/\Chg (·=b) w w':=by
 unfold eH PL;by_cases c:x<0\/12<=x
 ·rw[AJ c,AJ (AK c)];refine(Zp w b o x c).mono ?_;rintro e w' ⟨rfl,rfl⟩;exact⟨rfl,h,Chg.refl _ _⟩
 ·rw[AI c];by_cases hm:x ∈ l
  ·rw[AJ (AL hm)];refine(Zq w b t nn g o l h ok.len x c hm).mono ?_;rintro e w' ⟨rfl,m,rfl⟩;exact⟨rfl,h.drewN m,(Chg.refl _ _).drewN m⟩
  ·rw[AI (fun e=>e.elim c hm)];have:=(ok.snoc c hm).len;refine(Zr w b t nn g o l h (by simp at this;omega) x c hm).mono ?_;rintro e w' ⟨rfl,h1,h2⟩;exact⟨rfl,h1,h2⟩
def mc (l:List Int):Bool:=match l with | []=>false | _ :: _=>true
theorem next_v(w:Wd)(b:Nat)(t:TypeId)(nn:Nat)(g:Nat->Value)(o:Nat)(l:List Int)(h:QB w b t nn g o l)(ok:Le l):Calls prog 109 #[.pointer (some ⟨b,o,none⟩)] w fun e w'=>e=.returned (.tuple #[.int .i64 (l.headD 0),.bool (mc l)])/\QB w' b t nn g o l.tail/\Chg (·=b) w w':=by
 match l,h,ok with
 | [],h,_=>
  refine(VE w b t nn g o h).mono ?_;rintro e w' ⟨rfl,rfl⟩;exact⟨rfl,h,Chg.refl _ _⟩
 | x :: l,h,ok=>
  have:=ok.len;exact Sa w b t nn g o x l h (by simp at this;omega)
end Go.Proofs.YtbhbilcieodbhaaGreat.AE
