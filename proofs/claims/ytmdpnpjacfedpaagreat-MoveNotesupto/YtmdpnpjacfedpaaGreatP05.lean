/-
  Lemmas.
-/
import Derived.Test.YtmdpnpjacfedpaaGreatP03
import Derived.Deep.SlicePairs
import Derived.SizedLaws
set_option maxRecDepth 1000000
set_option maxHeartbeats 16000000
set_option linter.unusedSimpArgs false
namespace Go.Proofs.YtmdpnpjacfedpaaGreat.AC
open Go.Proofs.Tryz
open Go.RowKit
theorem BN(w:Wd)(n m:Int)(h:0<=n/\n<m):Calls prog 188 #[.int .i64 n,.int .i64 m] w fun e w'=>e=.returned (.bool true)/\w'=w:=by
 obtain⟨h0,h1⟩:=h;go_enter func188,ntmps188;go_wp2;go_ret;exact⟨rfl,rfl⟩
theorem CN(w:Wd)(n m:Int)(h:n<0\/m<=n):Calls prog 188 #[.int .i64 n,.int .i64 m] w fun e w'=>e=.returned (.bool false)/\w'=w:=by
 by_cases h0:0<=n
 ·have h1:¬ n<m:=om
  clear h;go_enter func188,ntmps188;go_wp2;go_ret;exact⟨rfl,rfl⟩
 ·clear h;go_enter func188,ntmps188;go_wp2;go_ret;exact⟨rfl,rfl⟩
theorem XV(w:Wd)(n:Int)(h:0<=n/\n<96):Calls prog 87 #[.int .i64 n] w fun e w'=>e=.returned (.bool true)/\w'=w:=by
 have h0:n ≥ 0:=h.1;have h1:n<=95:=om
 clear h;go_enter func87,ntmps87;go_wp2;go_ret;exact⟨rfl,rfl⟩
theorem Kv(w:Wd)(b i:Int)(hb:0<=b/\b<12)(hi:0<=i/\i<8):Calls prog 195 #[.int .i64 b,.int .i64 i] w fun e w'=>e=.returned (.tuple #[.int .i64 (b*8+i),.nilIface])/\w'=w:=by
 obtain⟨b0,b1⟩:=hb;obtain⟨i0,i1⟩:=hi;go_enter func195,ntmps195;go_wp2_with fail;refine(BN w b 12 ⟨b0,b1⟩).mono ?_;rintro e w1 ⟨rfl,rfl⟩;go_wp2_with fail;refine(BN w1 i 8 ⟨i0,i1⟩).mono ?_;rintro e w2 ⟨rfl,rfl⟩;go_wp2;go_ret2;exact⟨rfl,rfl⟩
theorem Io(w:Wd)(b i:Int)(h:(b<0\/12<=b)\/(i<0\/8<=i)):Calls prog 195 #[.int .i64 b,.int .i64 i] w fun e w'=>e=.returned (.tuple #[.int .i64 0,.iface 57 (.int .i64 1)])/\w'=w:=by
 by_cases hb:0<=b/\b<12
 ·have hi:i<0\/8<=i:=om
  clear h;obtain⟨b0,b1⟩:=hb;go_enter func195,ntmps195;go_wp2_with fail;refine(BN w b 12 ⟨b0,b1⟩).mono ?_;rintro e w1 ⟨rfl,rfl⟩;go_wp2_with fail;refine(CN w1 i 8 hi).mono ?_;rintro e w2 ⟨rfl,rfl⟩;go_wp2;go_ret2;exact⟨rfl,rfl⟩
 ·have it:b<0\/12<=b:=om
  clear h hb;go_enter func195,ntmps195;go_wp2_with fail;refine(CN w b 12 it).mono ?_;rintro e w1 ⟨rfl,rfl⟩;go_wp2;go_ret2;exact⟨rfl,rfl⟩
theorem Fj(w:Wd)(p o:Int)(h:0<=p/\p<96)(ho:0<=o/\o<25):Calls prog 196 #[.int .i64 p,.int .i64 o] w fun e w'=>e=.returned (.tuple #[.bool (decide (o=24\/p % 8<6)),.nilIface])/\w'=w:=by
 obtain⟨h0,h1⟩:=h;by_cases e1:o=24
 ·rw[show decide (o=24\/p % 8<6)=true from AO (AK e1)];have e2:(o == 24)=true:=by simp[e1]
  clear e1;go_enter func196,ntmps196;go_wp2_with fail;refine(BN w p 96 ⟨h0,h1⟩).mono ?_;rintro e w1 ⟨rfl,rfl⟩;go_wp2_with fail;refine(BN w1 o 25 ho).mono ?_;rintro e w2 ⟨rfl,rfl⟩;go_wp2;go_ret2;exact⟨rfl,rfl⟩
 ·rw[show decide (o=24\/p % 8<6)=decide (p % 8<6) from by simp[e1]];have e2:(o == 24)=false:=by simp[e1]
  clear e1;go_enter func196,ntmps196;go_wp2_with fail;refine(BN w p 96 ⟨h0,h1⟩).mono ?_;rintro e w1 ⟨rfl,rfl⟩;go_wp2_with fail;refine(BN w1 o 25 ho).mono ?_;rintro e w2 ⟨rfl,rfl⟩;go_wp2;go_ret2;exact⟨rfl,rfl⟩
theorem UW(w:Wd)(p o:Int)(h:0<=p/\p<96)(ho:0<=o/\o<25):Calls prog 43 #[.int .i64 p,.int .i64 o] w fun e w'=>e=.returned (.tuple #[.bool (decide (o=24\/p % 8<6)),.int .i64 0])/\w'=w:=by
 obtain⟨h0,h1⟩:=h;have o0:¬ o<0:=om
 have o1:¬ 24<o:=om
 by_cases e1:o=24
 ·rw[show decide (o=24\/p % 8<6)=true from AO (AK e1)];have e2:(o == 24)=true:=by simp[e1]
  clear e1;go_enter func43,ntmps43;go_wp2_with fail;refine(XV w p ⟨h0,h1⟩).mono ?_;rintro e w1 ⟨rfl,rfl⟩;go_wp2;go_ret2;exact⟨rfl,rfl⟩
 ·rw[show decide (o=24\/p % 8<6)=decide (p % 8<6) from by simp[e1]];have e2:(o == 24)=false:=by simp[e1]
  clear e1;go_enter func43,ntmps43;go_wp2_with fail;refine(XV w p ⟨h0,h1⟩).mono ?_;rintro e w1 ⟨rfl,rfl⟩;go_wp2;go_ret2;exact⟨rfl,rfl⟩
theorem Hv(w:Wd):(binOp .eql 46 .nilIface .nilIface).run prog w=.ok (.bool true) w:=kr
theorem Ct(w:Wd):(binOp .neq 46 .nilIface .nilIface).run prog w=.ok (.bool false) w:=kr
theorem Ih(w:Wd)(n:Int):(binOp .eql 46 (.iface 57 (.int .i64 n)) .nilIface).run prog w=.ok (.bool false) w:=kr
theorem Cu(w:Wd)(n:Int):(binOp .neq 46 (.iface 57 (.int .i64 n)) .nilIface).run prog w=.ok (.bool true) w:=kr
structure St where
 o:Bool
 k:Nat
 i:Nat
def stL (s:St):List Value:=[.bool s.o,.int .i64 s.k,.int .i64 s.i]
def FB (w:Wd) (b:Nat) (t:TypeId) (n:Nat) (f:Nat->Value) (o:Nat) (s:St):Prop:=Sto w b t n f/\o+3<=n/\f o=.bool s.o/\f (o+1)=.int .i64 s.k/\f (o+2)=.int .i64 s.i
section
variable {w w':Wd}{b:Nat}{t:TypeId}{n:Nat}{f:Nat->Value}{o:Nat}{s:St}
theorem FB.drewN(h:FB w b t n f o s)(m:Nat):FB (w.drewN m) b t n f o s:=h
theorem FB.c0(h:FB w b t n f o s):w.cell? ⟨b,o,none⟩=some (.bool s.o)/\w.frozen? ⟨b,o,none⟩=false:=by
 obtain⟨h1,h2,h3,h4,h5⟩:=h;exact⟨by rw[h1.cell o om,h3],h1.frozen _⟩
theorem FB.c1(h:FB w b t n f o s):w.cell? ⟨b,o+1,none⟩=some (.int .i64 s.k)/\w.frozen? ⟨b,o+1,none⟩=false:=by
 obtain⟨h1,h2,h3,h4,h5⟩:=h;exact⟨by rw[h1.cell (o+1) om,h4],h1.frozen _⟩
theorem FB.c2(h:FB w b t n f o s):w.cell? ⟨b,o+2,none⟩=some (.int .i64 s.i)/\w.frozen? ⟨b,o+2,none⟩=false:=by
 obtain⟨h1,h2,h3,h4,h5⟩:=h;exact⟨by rw[h1.cell (o+2) om,h5],h1.frozen _⟩
theorem Gt(f:Nat->Value)(o:Nat)(s:St):upL f o (stL s) o=.bool s.o/\upL f o (stL s) (o+1)=.int .i64 s.k/\upL f o (stL s) (o+2)=.int .i64 s.i:=
 ⟨GG f o (stL s) 0 _ rfl,GG f o (stL s) 1 _ rfl,GG f o (stL s) 2 _ rfl⟩
theorem FB.row(h:FB w b t n f o s)(s':St):FB (w.setCells b o (stL s')) b t n (upL f o (stL s')) o s':=
 ⟨Sto.setCells _ _ h.1,h.2.1,Gt f o s'⟩
theorem FB.same(h:FB w b t n f o s):FB w b t n (upL f o (stL s)) o s:=by
 obtain⟨h1,h2,h3,h4,h5⟩:=h;refine⟨h1.ext fun i hi=>?_,h2,Gt f o s⟩;obtain⟨u0,u1,u2⟩:=Gt f o s;by_cases e0:i=o
 ·subst e0;rw[u0,h3]
 ·by_cases e1:i=o+1
  ·subst e1;rw[u1,h4]
  ·by_cases e2:i=o+2
   ·subst e2;rw[u2,h5]
   ·unfold upL;rw[AI (by simp[stL];omega)]
theorem FB.set2(h:FB w b t n f o s)(i:Nat):FB (w.setCell ⟨b,o+2,none⟩ (.int .i64 i)) b t n (upL f o (stL { s with i:=i })) o { s with i:=i }:=by
 obtain⟨h1,h2,h3,h4,h5⟩:=h;refine⟨(h1.setCell (o+2) (.int .i64 i)).ext fun j hj=>?_,h2,Gt f o _⟩;obtain⟨u0,u1,u2⟩:=Gt f o { s with i:=i };rw[Br];by_cases e2:j=o+2
 ·subst e2;rw[u2,AJ rfl]
 ·rw[AI e2];by_cases e0:j=o
  ·subst e0;rw[u0,h3]
  ·by_cases e1:j=o+1
   ·subst e1;rw[u1,h4]
   ·unfold upL;rw[AI (by simp[stL];omega)]
end
theorem Jm(w:Wd):(Instr.build 99 #[]).run prog w=.ok (.agg (stL ⟨false,0,0⟩).toArray) w:=kr
theorem E7:(prog.info? 99).map (·.size)=some 3:=kr
theorem Cb{ops:Array Oper}{rest:List Oper}{o:Oper}{a:Act}{w:Wd}{Q:Exit->Act->World->Prop}(hgd:o.guard=none)(x y:Operand)(ho:o.op=.store 99 x y)(g q:Nat)(hx:a.eval x=.pointer (some ⟨g,q,none⟩))(s:St)(hy:a.eval y=.agg (stL s).toArray){t:TypeId}{n:Nat}{f:Nat->Value}{s0:St}(hg:FB w g t n f q s0)(h:∀w',FB w' g t n (upL f q (stL s)) q s->Chg (·=g) w w'->wpList prog ops Q rest (a.put o.dst undef) w'):wpList prog ops Q (o :: rest) a w:=
 wpList_store_mid hgd 99 x y ho g q _ hx hy (hg.1.there q 3 hg.2.1) E7 (by simp[stL,Value.oneCell']) (h _ (FB.row hg s) (Chg.setCells (S:=(·=g)) (AK rfl) _ _ (Chg.refl _ w)))
def lI (x y:Int):Nat:=if x<0\/12<=x\/y<0\/9<=y then 1 else 0
def opS (s:St) (x y:Int):St:=if lI x y=0 then ⟨true,x.toNat,y.toNat⟩ else s
theorem PC(w:Wd)(b:Nat)(t:TypeId)(nn:Nat)(f:Nat->Value)(o:Nat)(s:St)(h:FB w b t nn f o s)(k i:Nat)(hk:k<12)(hi:i<9):Calls prog 194 #[.pointer (some ⟨b,o,none⟩),.int .i64 k,.int .i64 i] w fun e w'=>e=.returned .nilIface/\FB w' b t nn (upL f o (stL ⟨true,k,i⟩)) o ⟨true,k,i⟩/\Chg (·=b) w w':=by
 have h1:¬ (k:Int)<0:=om
 have h2:¬ (k:Int) ≥ 12:=om
 have h3:¬ (i:Int)<0:=om
 have h4:¬ (i:Int) > 8:=om
 have HK:=BE h;clear h hk hi;go_enter func194,ntmps194;go_wp2_with (refine Cb rfl (.tmp 26) (.tmp 25) rfl b o rfl ⟨true,k,i⟩ rfl HK ?_);intro w1 K1 G1;have it:=BE K1;have no:=BE G1;clear K1 G1;go_wp2;go_ret;exact⟨rfl,it.out,no⟩
theorem XW(w:Wd)(b o:Nat)(x y:Int)(h:x<0\/12<=x\/y<0\/9<=y):Calls prog 194 #[.pointer (some ⟨b,o,none⟩),.int .i64 x,.int .i64 y] w fun e w'=>e=.returned (.iface 57 (.int .i64 1))/\w'=w:=by
 by_cases h1:x<0
 ·clear h;go_enter func194,ntmps194;go_wp2;go_ret;exact⟨rfl,rfl⟩
 ·by_cases h2:x ≥ 12
  ·clear h;go_enter func194,ntmps194;go_wp2;go_ret;exact⟨rfl,rfl⟩
  ·by_cases h3:y<0
   ·clear h;go_enter func194,ntmps194;go_wp2;go_ret;exact⟨rfl,rfl⟩
   ·have h4:y > 8:=om;clear h;go_enter func194,ntmps194;go_wp2;go_ret;exact⟨rfl,rfl⟩
theorem iJ(w:Wd)(b:Nat)(t:TypeId)(nn:Nat)(f:Nat->Value)(o:Nat)(s:St)(h:FB w b t nn f o s)(x y:Int):Calls prog 194 #[.pointer (some ⟨b,o,none⟩),.int .i64 x,.int .i64 y] w fun e w'=>e=.returned (errV (lI x y))/\FB w' b t nn (upL f o (stL (opS s x y))) o (opS s x y)/\Chg (·=b) w w':=by
 unfold opS lI;by_cases c:x<0\/12<=x\/y<0\/9<=y
 ·rw[AJ c];refine(XW w b o x y c).mono ?_;rintro e w' ⟨rfl,rfl⟩;exact⟨rfl,h.same,Chg.refl _ _⟩
 ·rw[AI c];obtain⟨k,rfl⟩:∃k:Nat,x=k:=⟨x.toNat,om⟩;obtain⟨i,rfl⟩:∃i:Nat,y=i:=⟨y.toNat,om⟩;refine(PC w b t nn f o s h k i om om).mono ?_;rintro e w' ⟨rfl,h1,h2⟩;exact⟨rfl,h1,h2⟩
theorem UX(w:Wd)(b:Nat)(t:TypeId)(nn:Nat)(f:Nat->Value)(o:Nat)(s:St)(h:FB w b t nn f o s):Calls prog 191 #[.pointer (some ⟨b,o,none⟩)] w fun e w'=>e=.returned (.tuple #[])/\FB w' b t nn (upL f o (stL ⟨false,0,0⟩)) o ⟨false,0,0⟩/\Chg (·=b) w w':=by
 have HK:=BE h;have hb:=Jm;clear h;go_enter func191,ntmps191;go_wp2_with (refine Cb rfl (.tmp 4) (.tmp 3) rfl b o rfl ⟨false,0,0⟩ rfl HK ?_);intro w1 K1 G1;have it:=BE K1;have no:=BE G1;clear K1 G1;go_wp2;go_end0;exact⟨rfl,it.out,no⟩
def blV (s:St):Int:=if s.o then (s.k:Int) else -1
theorem D4(w:Wd)(b:Nat)(t:TypeId)(nn:Nat)(f:Nat->Value)(o:Nat)(s:St)(h:FB w b t nn f o s):Calls prog 96 #[.pointer (some ⟨b,o,none⟩)] w fun e w'=>e=.returned (.int .i64 (blV s))/\w'=w:=by
 obtain⟨c0,-⟩:=h.c0;obtain⟨c1,-⟩:=h.c1;obtain⟨oo,k,i⟩:=s;clear h;cases oo
 ·go_enter func96,ntmps96;go_wp2;go_ret;exact⟨rfl,rfl⟩
 ·go_enter func96,ntmps96;go_wp2;go_ret;exact⟨rfl,rfl⟩
def nxC (s:St) (n:Int):Nat:=if n<0\/25<=n then 1 else if s.o=false then 11 else if s.i<8/\(n=24\/s.i<6) then 0 else 10
def nxV (s:St) (n:Int):Int:=if nxC s n=0 then ((s.k*8+s.i:Nat):Int) else 0
def Fl (s:St):Prop:=s.k<12/\s.i<9
theorem XX(w:Wd)(b o:Nat)(n:Int)(h:n<0\/25<=n):Calls prog 150 #[.pointer (some ⟨b,o,none⟩),.int .i64 n] w fun e w'=>e=.returned (.tuple #[.int .i64 0,.iface 57 (.int .i64 1)])/\w'=w:=by
 by_cases h0:n<0
 ·clear h;go_enter func150,ntmps150;go_wp2;go_ret2;exact⟨rfl,rfl⟩
 ·have h1:n > 24:=om
  clear h;go_enter func150,ntmps150;go_wp2;go_ret2;exact⟨rfl,rfl⟩
theorem UY(w:Wd)(b:Nat)(t:TypeId)(nn:Nat)(f:Nat->Value)(o:Nat)(k i:Nat)(h:FB w b t nn f o ⟨false,k,i⟩)(n:Int)(hn:0<=n/\n<25):Calls prog 150 #[.pointer (some ⟨b,o,none⟩),.int .i64 n] w fun e w'=>e=.returned (.tuple #[.int .i64 0,.iface 57 (.int .i64 11)])/\w'=w:=by
 obtain⟨c0,-⟩:=h.c0;have h0:¬ n<0:=om
 have h1:¬ n > 24:=om
 clear h hn;go_enter func150,ntmps150;go_wp2;go_ret2;exact⟨rfl,rfl⟩
theorem XY(w:Wd)(b:Nat)(t:TypeId)(nn:Nat)(f:Nat->Value)(o:Nat)(k:Nat)(h:FB w b t nn f o ⟨true,k,8⟩)(n:Int)(hn:0<=n/\n<25):Calls prog 150 #[.pointer (some ⟨b,o,none⟩),.int .i64 n] w fun e w'=>e=.returned (.tuple #[.int .i64 0,.iface 57 (.int .i64 10)])/\∃m,w'=w.drewN m:=by
 obtain⟨c0,-⟩:=h.c0;obtain⟨c1,-⟩:=h.c1;obtain⟨c2,-⟩:=h.c2;have h0:¬ n<0:=om
 have h1:¬ n > 24:=om
 have q:=Cu;clear h hn;go_enter func150,ntmps150;go_wp2_with fail
 go_quiet (first | (go_at_call 195;refine Calls.quiet_of_same (Io _ k 8 (AL (AL dc)))))
 go_wp2;go_ret2;exact⟨rfl,_,rfl⟩
theorem L4(w:Wd)(b:Nat)(t:TypeId)(nn:Nat)(f:Nat->Value)(o:Nat)(k i:Nat)(h:FB w b t nn f o ⟨true,k,i⟩)(hk:k<12)(hi:i<8)(n:Int)(hn:0<=n/\n<25):Calls prog 150 #[.pointer (some ⟨b,o,none⟩),.int .i64 n] w fun e w'=>e=.returned (if n=24\/i<6 then .tuple #[.int .i64 (k*8+i:Nat),.nilIface] else .tuple #[.int .i64 0,.iface 57 (.int .i64 10)])/\∃m,w'=w.drewN m:=by
 obtain⟨c0,-⟩:=h.c0;obtain⟨c1,-⟩:=h.c1;obtain⟨c2,-⟩:=h.c2;have h0:¬ n<0:=om
 have h1:¬ n > 24:=om
 have q:=Ct;have hp:=fun w=>Kv w k i ⟨om,om⟩ ⟨om,om⟩;have hh:=fun w=>Fj w ((k:Int)*8+i) n ⟨om,om⟩ hn;have hd:decide (n=24\/((k:Int)*8+i) % 8<6)=decide (n=24\/i<6):=by
  have:((k:Int)*8+i) % 8=i:=om
  rw[this];simp only[decide_eq_decide];omega
 rw[hd] at hh;have HV:Hid ((k:Int)*8+i=((k*8+i:Nat):Int)):=by show _=_;omega
 clear h hn hk hi hd;by_cases hb:n=24\/i<6
 ·rw[AJ hb,<-HV.out];simp only[hb,decide_true] at hh;clear hb HV;go_enter func150,ntmps150;go_wp2_with fail
  go_quiet (first | (go_at_call 195;refine Calls.quiet_of_same (hp _)))
  go_wp2_with fail;refine(hh _).mono ?_;rintro e w2 ⟨rfl,rfl⟩;go_wp2;go_ret2;exact⟨rfl,_,rfl⟩
 ·rw[AI hb];simp only[hb,decide_false] at hh;clear hb HV;go_enter func150,ntmps150;go_wp2_with fail
  go_quiet (first | (go_at_call 195;refine Calls.quiet_of_same (hp _)))
  go_wp2_with fail;refine(hh _).mono ?_;rintro e w2 ⟨rfl,rfl⟩;go_wp2;go_ret2;exact⟨rfl,_,rfl⟩
theorem mn{s:St}{n:Int}(h:n<0\/25<=n):nxC s n=1:=by unfold nxC;rw[AJ h]
theorem fG{s:St}{n:Int}(h:¬ (n<0\/25<=n))(ho:s.o=false):nxC s n=11:=by unfold nxC;rw[AI h,AJ ho]
theorem mp{s:St}{n:Int}(h:¬ (n<0\/25<=n))(ho:¬ s.o=false)(hi:s.i<8/\(n=24\/s.i<6)):nxC s n=0:=by unfold nxC;rw[AI h,AI ho,AJ hi]
theorem fH{s:St}{n:Int}(h:¬ (n<0\/25<=n))(ho:¬ s.o=false)(hi:¬ (s.i<8/\(n=24\/s.i<6))):nxC s n=10:=by unfold nxC;rw[AI h,AI ho,AI hi]
theorem M7(w:Wd)(b:Nat)(t:TypeId)(nn:Nat)(f:Nat->Value)(o:Nat)(s:St)(h:FB w b t nn f o s)(ok:Fl s)(n:Int):Calls prog 150 #[.pointer (some ⟨b,o,none⟩),.int .i64 n] w fun e w'=>e=.returned (.tuple #[.int .i64 (nxV s n),errV (nxC s n)])/\∃m,w'=w.drewN m:=by
 unfold nxV;by_cases h1:n<0\/25<=n
 ·rw[mn h1];refine(XX w b o n h1).mono ?_;rintro e w' ⟨rfl,rfl⟩;exact⟨rfl,0,rfl⟩
 ·have hn:0<=n/\n<25:=om
  by_cases ho:s.o=false
  ·rw[fG h1 ho];obtain⟨oo,k,i⟩:=s;simp only at ho;subst ho;refine(UY w b t nn f o k i h n hn).mono ?_;rintro e w' ⟨rfl,rfl⟩;exact⟨rfl,0,rfl⟩
  ·by_cases h8:s.i<8
   ·by_cases hb:n=24\/s.i<6
    ·rw[mp h1 ho ⟨h8,hb⟩];obtain⟨oo,k,i⟩:=s;simp only[Bool.not_eq_false] at ho;subst ho;have:=L4 w b t nn f o k i h ok.1 h8 n hn;rw[AJ hb] at this;exact this
    ·rw[fH h1 ho (fun x=>hb x.2)];obtain⟨oo,k,i⟩:=s;simp only[Bool.not_eq_false] at ho;subst ho;have:=L4 w b t nn f o k i h ok.1 h8 n hn;rw[AI hb] at this;exact this
   ·rw[fH h1 ho (fun x=>h8 x.1)];obtain⟨oo,k,i⟩:=s;simp only[Bool.not_eq_false] at ho;subst ho;obtain rfl:i=8:=by have:=ok.2;simp only at this h8;omega
    exact XY w b t nn f o k h n hn
def rmV (s:St) (n:Int):Bool:=decide (nxC s n=0)
theorem Hs(c:Nat)(w:Wd):(binOp .eql 46 (errV c) .nilIface).run prog w=.ok (.bool (decide (c=0))) w:=by
 unfold errV;by_cases h:c=0
 ·rw[AJ h,AO h];exact Hv w
 ·rw[AI h,AN h];exact Ih w _
theorem Hq(c:Nat)(w:Wd):(binOp .neq 46 (errV c) .nilIface).run prog w=.ok (.bool (!decide (c=0))) w:=by
 unfold errV;by_cases h:c=0
 ·rw[AJ h,AO h];exact Ct w
 ·rw[AI h,AN h];exact Cu w _
theorem XZ(w:Wd)(b:Nat)(t:TypeId)(nn:Nat)(f:Nat->Value)(o:Nat)(s:St)(h:FB w b t nn f o s)(ok:Fl s)(n:Int):Calls prog 145 #[.pointer (some ⟨b,o,none⟩),.int .i64 n] w fun e w'=>e=.returned (.bool (rmV s n))/\∃m,w'=w.drewN m:=by
 have hn:=M7 w b t nn f o s h ok n;have q:=Hs;have g:=Dg;clear h ok;go_enter func145,ntmps145;go_wp2_with fail;refine hn.mono ?_;rintro e w1 ⟨rfl,m,rfl⟩;clear hn;go_wp2;go_ret;exact⟨rfl,m,rfl⟩
def tkS (s:St) (n:Int):St:=if nxC s n=0 then { s with i:=s.i+1 } else s
theorem Ku(w:Wd)(b:Nat)(t:TypeId)(nn:Nat)(f:Nat->Value)(o:Nat)(s:St)(h:FB w b t nn f o s)(ok:Fl s)(n:Int):Calls prog 92 #[.pointer (some ⟨b,o,none⟩),.int .i64 n] w fun e w'=>e=.returned (.tuple #[.int .i64 (nxV s n),errV (nxC s n)])/\FB w' b t nn (upL f o (stL (tkS s n))) o (tkS s n)/\Chg (·=b) w w':=by
 have hn:=M7 w b t nn f o s h ok n;obtain⟨c2,f2⟩:=h.c2;have HK:=BE h;have hi:s.i<9:=ok.2;have it:(s.i:Int)<=8:=om
 clear h ok hi;by_cases hc:nxC s n=0
 ·have HC:=BE hc;unfold tkS;rw[AJ hc];rw[hc] at hn ⊢;have g:=BQ;have q:∀w,(binOp .neq 46 (errV 0) .nilIface).run prog w=.ok (.bool false) w:=Hq 0;clear hc;obtain⟨oo,k,i⟩:=s;simp only at c2 it;go_enter func92,ntmps92;go_wp2_with fail;refine hn.mono ?_;rintro e w1 ⟨rfl,m,rfl⟩;clear hn;go_wp2;go_ret2;exact⟨rfl,(HK.out.drewN m).set2 (i+1),((Chg.refl (·=b) _).drewN m).setCell (AK rfl) _ _⟩
 ·unfold tkS;rw[AI hc];have hv:nxV s n=0:=by unfold nxV;rw[AI hc]
  rw[hv] at hn ⊢;have g:=BQ;have q:∀w,(binOp .neq 46 (errV (nxC s n)) .nilIface).run prog w=.ok (.bool true) w:=fun w=>by rw[Hq,AN hc];rfl
  clear hc hv;go_enter func92,ntmps92;go_wp2_with fail;refine hn.mono ?_;rintro e w1 ⟨rfl,m,rfl⟩;clear hn;go_wp2;go_ret2;exact⟨rfl,(HK.out.drewN m).same,(Chg.refl (·=b) _).drewN m⟩
theorem fI{s:St}{n:Int}(h:nxC s n=0):s.i<8:=by
 unfold nxC at h;split at h
 ·simp at h
 ·split at h
  ·simp at h
  ·split at h
   ·rename_i c;exact c.1
   ·simp at h
theorem Fl.take{s:St}(h:Fl s)(n:Int):Fl (tkS s n):=by
 unfold tkS;split
 ·rename_i c;have:=fI c;exact⟨h.1,by show s.i+1<9;omega⟩
 ·exact h
end Go.Proofs.YtmdpnpjacfedpaaGreat.AC
namespace Go.Proofs.YtmdpnpjacfedpaaGreat.AH
open Go.Proofs.Tryz
open Go.RowKit
def bst (S L:Nat->Int):Nat->Option Nat
 | 0=>none
 | k+1=>match bst S L k with
  | none=>if S k=2 then some k else none
  | some b=>if S k=2/\L k<L b then some k else some b
section
variable {S L:Nat->Int}{k b:Nat}
theorem PD(h:S k≠2):bst S L (k+1)=bst S L k:=by
 cases e:bst S L k with
 | none=>simp[bst,e,h]
 | some b=>simp[bst,e,h]
theorem L6(h:S k=2)(e:bst S L k=none):bst S L (k+1)=some k:=by
 unfold bst;rw[e];simp[h]
theorem PE(h:S k=2)(e:bst S L k=some b)(hl:L k<L b):bst S L (k+1)=some k:=by
 unfold bst;rw[e];simp[h,hl]
theorem PF(e:bst S L k=some b)(hl:¬ L k<L b):bst S L (k+1)=some b:=by
 unfold bst;rw[e];simp[hl]
end
def Is (S L:Nat->Int) (lo hi:Nat):Option Nat->Prop
 | none=>∀i,lo<=i->i<hi->S i≠2
 | some b=>lo<=b/\b<hi/\S b=2/\(∀i,lo<=i->i<hi->S i=2->L b<=L i)/\∀i,lo<=i->i<b->S i=2->L b<L i
theorem M8(S L:Nat->Int):∀n,Is S L 0 n (bst S L n)
 | 0=>fun i _ h=>absurd h (Nat.not_lt_zero _)
 | n+1=>by
  have ih:=M8 S L n
  by_cases h:S n=2
  ·
   cases e:bst S L n with
   | none=>
    rw[L6 h e]
    rw[e] at ih
    refine⟨Ac _,om,h,fun i _ hi hs=>?_,fun i _ hi hs=>absurd hs (ih i (Ac _) hi)⟩
    by_cases hn:i=n
    ·
     subst hn;omega
    ·
     exact absurd hs (ih i (Ac _) om)
   | some b=>
    rw[e] at ih
    obtain⟨_,hb,hs,h1,h2⟩:=ih
    by_cases hl:L n<L b
    ·
     rw[PE h e hl]
     refine⟨Ac _,om,h,fun i _ hi hs'=>?_,fun i _ hi hs'=>?_⟩
     ·
      by_cases hn:i=n
      ·
       subst hn;omega
      ·
       have:=h1 i (Ac _) om hs';omega
     ·
      have:=h1 i (Ac _) hi hs';omega
    ·
     rw[PF e hl]
     refine⟨Ac _,om,hs,fun i _ hi hs'=>?_,fun i _ hi hs'=>h2 i (Ac _) hi hs'⟩
     by_cases hn:i=n
     ·
      subst hn;omega
     ·
      exact h1 i (Ac _) om hs'
  ·
   rw[PD h]
   cases e:bst S L n with
   | none=>
    rw[e] at ih
    intro i _ hi
    by_cases hn:i=n
    ·
     subst hn;exact h
    ·
     exact ih i (Ac _) om
   | some b=>
    rw[e] at ih
    obtain⟨_,hb,hs,h1,h2⟩:=ih
    refine⟨Ac _,om,hs,fun i _ hi hs'=>?_,fun i _ hi hs'=>h2 i (Ac _) hi hs'⟩
    by_cases hn:i=n
    ·
     subst hn;exact absurd hs' h
    ·
     exact h1 i (Ac _) om hs'
def cE (S L:Nat->Int):Option Nat:=bst S L 12
def chC (ns nl:Nat) (S L:Nat->Int):Nat:=if ns=12/\nl=12 then (if cE S L=none then 11 else 0) else 1
def chV (ns nl:Nat) (S L:Nat->Int):Nat:=if ns=12/\nl=12 then (cE S L).getD 0 else 0
theorem cG{ns nl:Nat}(S L:Nat->Int)(h:¬ (ns=12/\nl=12)):chC ns nl S L=1:=AI h
theorem chC_none{S L:Nat->Int}(h:cE S L=none):chC 12 12 S L=11:=by simp[chC,h]
theorem chV_none{S L:Nat->Int}(h:cE S L=none):chV 12 12 S L=0:=by simp[chV,h]
theorem chC_some{S L:Nat->Int}{b:Nat}(h:cE S L=some b):chC 12 12 S L=0:=by simp[chC,h]
theorem chV_some{S L:Nat->Int}{b:Nat}(h:cE S L=some b):chV 12 12 S L=b:=by simp[chV,h]
theorem cH{ns nl:Nat}{S L:Nat->Int}(h:chC ns nl S L=0):ns=12/\nl=12/\chV ns nl S L<12/\cE S L=some (chV ns nl S L):=by
 by_cases hc:ns=12/\nl=12
 ·obtain⟨rfl,rfl⟩:=hc;cases e:cE S L with
  | none=>rw[chC_none e] at h;simp at h
  | some b=>
   have:=M8 S L 12;rw[show bst S L 12=some b from e] at this;rw[chV_some e];exact⟨rfl,rfl,this.2.1,rfl⟩
 ·rw[cG S L hc] at h;simp at h
def Q5 (w:Wd) (a:Option Addr) (n:Nat) (V:Nat->Int):Prop:=n=0\/∃g o,a=some ⟨g,o,none⟩/\g<w.heap.size/\∀i,i<n->w.cell? ⟨g,o+i,none⟩=some (.int .i64 (V i))
theorem iK(w:Wd)(ps pl:Option Addr)(ns nl cs cl:Nat)(h:¬ (ns=12/\nl=12)):Calls prog 149 #[.slice ps ns cs,.slice pl nl cl] w fun e w'=>e=.returned (.tuple #[.int .i64 0,errV 1])/\w'=w:=by
 by_cases h1:ns=12
 ·have h2:((nl:Int) != 12)=true:=by simp only[bne_iff_ne];omega
  subst h1;go_enter func149,ntmps149;go_wp2;go_ret2;exact⟨rfl,rfl⟩
 ·have h2:((ns:Int) != 12)=true:=by simp only[bne_iff_ne];omega
  go_enter func149,ntmps149;go_wp2;go_ret2;exact⟨rfl,rfl⟩
theorem UZ(w:Wd)(ps pl:Option Addr)(cs cl:Nat)(S L:Nat->Int)(hS:Q5 w ps 12 S)(hL:Q5 w pl 12 L):Calls prog 149 #[.slice ps 12 cs,.slice pl 12 cl] w fun e w'=>e=.returned (.tuple #[.int .i64 (chV 12 12 S L:Nat),errV (chC 12 12 S L)])/\∃m,w'=w.drewN m:=by
 rcases hS with hS | ⟨gs,os,rfl,ar,hS⟩
 ·simp at hS
 rcases hL with hL | ⟨gl,ol,rfl,no,hL⟩
 ·simp at hL
 have HS:=BE hS;have HL:=BE hL;have HG:=BE (And.intro ar no);clear hS hL ar no;go_enter func149,ntmps149;go_wp2_with fail
 go_loopg [6,7,21] 12 (fun kx s6 s7 s21 wr=>∃(i m:Nat),s21=.int .i64 i/\s6=.int .i64 ((bst S L i).getD 0:Nat)/\s7=.bool (bst S L i).isSome/\i<=12/\12 - i<=kx/\Hid (wr=w.drewN m))
 case atStart=>exact⟨0,0,rfl,rfl,rfl,om,om,rfl⟩
 case round=>
 obtain⟨i,m,rfl,rfl,rfl,hv,kd,HM⟩:=hrel;obtain rfl:=HM.out;clear HM;by_cases La:i<12
 ·have it:(i:Int)<12:=om
  have x0:=(((Chg.refl No w).drewN m).cell HG.out.1 (fun f=>f) _).trans (HS.out i La);by_cases h2:S i=2
  ·rw[h2] at x0;cases e:bst S L i with
   | none=>
    have HE:=BE (L6 h2 e);simp only[Option.getD_none,Option.isSome_none];clear h2 e;go_wp2_with fail
    go_quiet (fail)
    go_wp2
    go_roundg (12 - (i+1))
    case measure=>omega
    case rel=>exact⟨i+1,_,by simp,by rw[HE.out];rfl,by rw[HE.out];rfl,om,AM _,rfl⟩
   | some b=>
    have hb:b<i:=(by have:=M8 S L i;rw[e] at this;exact this.2.1);have x1:=HL.out i La;have x2:=HL.out b om;have hk:(b:Int)<12:=om;simp only[Option.getD_some,Option.isSome_some];by_cases hl:L i<L b
    ·have HE:=BE (PE h2 e hl);clear h2 e hb;generalize L i=u at *
     generalize L b=v at *
     go_wp2_with fail
     go_quiet (fail)
     go_wp2
     go_roundg (12 - (i+1))
     case measure=>omega
     case rel=>exact⟨i+1,_,by simp,by rw[HE.out];rfl,by rw[HE.out];rfl,om,AM _,rfl⟩
    ·have HE:=BE (PF e hl);clear h2 e hb;generalize L i=u at *
     generalize L b=v at *
     go_wp2_with fail
     go_quiet (fail)
     go_wp2
     go_roundg (12 - (i+1))
     case measure=>omega
     case rel=>exact⟨i+1,_,by simp,by rw[HE.out];rfl,by rw[HE.out];rfl,om,AM _,rfl⟩
  ·have HE:=BE (PD (L:=L) h2);have hn:(S i != 2)=true:=(by simp only[bne_iff_ne];exact h2);clear h2;generalize S i=u at *
   go_wp2
   go_roundg (12 - (i+1))
   case measure=>omega
   case rel=>exact⟨i+1,m,by simp,by rw[HE.out],by rw[HE.out],om,AM _,rfl⟩
 ·have it:¬ (i:Int)<12:=om
  obtain rfl:i=12:=om
  cases e:bst S L 12 with
  | none=>
   have HE:=BE (And.intro (chV_none e) (chC_none e));clear HS HL HG e;simp only[Option.getD_none,Option.isSome_none];go_wp2;go_ret2;rw[HE.out.1,HE.out.2];exact⟨rfl,_,rfl⟩
  | some b=>
   have HE:=BE (And.intro (chV_some e) (chC_some e));clear HS HL HG e;simp only[Option.getD_some,Option.isSome_some];go_wp2;go_ret2;rw[HE.out.1,HE.out.2];exact⟨rfl,_,rfl⟩
end Go.Proofs.YtmdpnpjacfedpaaGreat.AH
