/-
  Lemmas.
-/
import Derived.Test.YtbhbilcieodbhaaGreatOm
import Derived.Test.YtbhbilcieodbhaaGreatP03
import Derived.Deep.SlicePairs
import Derived.SizedLaws
set_option maxRecDepth 1000000
set_option maxHeartbeats 16000000
set_option linter.unusedSimpArgs false
namespace Go.Proofs.YtbhbilcieodbhaaGreat.AG
open Go.Proofs.Tryz
open Go.RowKit
def bst (S L:Nat->Int):Nat->Option Nat
 | 0=>none
 | k+1=>match bst S L k with
  | none=>if S k=2 then some k else none
  | some b=>if S k=2/\L k<L b then some k else some b
section
variable {S L:Nat->Int}{k b:Nat}
theorem NJ(h:S k≠2):bst S L (k+1)=bst S L k:=by
 cases e:bst S L k with
 | none=>simp[bst,e,h]
 | some b=>simp[bst,e,h]
theorem Kj(h:S k=2)(e:bst S L k=none):bst S L (k+1)=some k:=by
 unfold bst;rw[e];simp[h]
theorem NK(h:S k=2)(e:bst S L k=some b)(hl:L k<L b):bst S L (k+1)=some k:=by
 unfold bst;rw[e];simp[h,hl]
theorem NL(e:bst S L k=some b)(hl:¬ L k<L b):bst S L (k+1)=some b:=by
 unfold bst;rw[e];simp[hl]
end
def Is (S L:Nat->Int) (lo hi:Nat):Option Nat->Prop
 | none=>∀i,lo<=i->i<hi->S i≠2
 | some b=>lo<=b/\b<hi/\S b=2/\(∀i,lo<=i->i<hi->S i=2->L b<=L i)/\∀i,lo<=i->i<b->S i=2->L b<L i
theorem Ld(S L:Nat->Int):∀n,Is S L 0 n (bst S L n)
 | 0=>fun i _ h=>absurd h (Nat.not_lt_zero _)
 | n+1=>by
  have ih:=Ld S L n
  by_cases h:S n=2
  ·
   cases e:bst S L n with
   | none=>
    rw[Kj h e]
    rw[e] at ih
    refine⟨Ac _,om,h,fun i _ hi hs=>?_,fun i _ hi hs=>absurd hs (ih i (Ac _) hi)⟩
    by_cases hn:i=n
    ·
     subst hn;omega
    ·
     exact absurd hs (ih i (Ac _) om)
   | some b=>
    rw[e] at ih
    obtain⟨_,hb,hs,h1,h2⟩:=ih
    by_cases hl:L n<L b
    ·
     rw[NK h e hl]
     refine⟨Ac _,om,h,fun i _ hi hs'=>?_,fun i _ hi hs'=>?_⟩
     ·
      by_cases hn:i=n
      ·
       subst hn;omega
      ·
       have:=h1 i (Ac _) om hs';omega
     ·
      have:=h1 i (Ac _) hi hs';omega
    ·
     rw[NL e hl]
     refine⟨Ac _,om,hs,fun i _ hi hs'=>?_,fun i _ hi hs'=>h2 i (Ac _) hi hs'⟩
     by_cases hn:i=n
     ·
      subst hn;omega
     ·
      exact h1 i (Ac _) om hs'
  ·
   rw[NJ h]
   cases e:bst S L n with
   | none=>
    rw[e] at ih
    intro i _ hi
    by_cases hn:i=n
    ·
     subst hn;exact h
    ·
     exact ih i (Ac _) om
   | some b=>
    rw[e] at ih
    obtain⟨_,hb,hs,h1,h2⟩:=ih
    refine⟨Ac _,om,hs,fun i _ hi hs'=>?_,fun i _ hi hs'=>h2 i (Ac _) hi hs'⟩
    by_cases hn:i=n
    ·
     subst hn;exact absurd hs' h
    ·
     exact h1 i (Ac _) om hs'
def Zl (S L:Nat->Int):Option Nat:=bst S L 12
def chC (ns nl:Nat) (S L:Nat->Int):Nat:=if ns=12/\nl=12 then (if Zl S L=none then 11 else 0) else 1
def chV (ns nl:Nat) (S L:Nat->Int):Nat:=if ns=12/\nl=12 then (Zl S L).getD 0 else 0
theorem Zm{ns nl:Nat}(S L:Nat->Int)(h:¬ (ns=12/\nl=12)):chC ns nl S L=1:=AI h
theorem chC_none{S L:Nat->Int}(h:Zl S L=none):chC 12 12 S L=11:=by simp[chC,h]
theorem chV_none{S L:Nat->Int}(h:Zl S L=none):chV 12 12 S L=0:=by simp[chV,h]
theorem chC_some{S L:Nat->Int}{b:Nat}(h:Zl S L=some b):chC 12 12 S L=0:=by simp[chC,h]
theorem chV_some{S L:Nat->Int}{b:Nat}(h:Zl S L=some b):chV 12 12 S L=b:=by simp[chV,h]
theorem Zn{ns nl:Nat}{S L:Nat->Int}(h:chC ns nl S L=0):ns=12/\nl=12/\chV ns nl S L<12/\Zl S L=some (chV ns nl S L):=by
 by_cases hc:ns=12/\nl=12
 ·obtain⟨rfl,rfl⟩:=hc;cases e:Zl S L with
  | none=>rw[chC_none e] at h;simp at h
  | some b=>
   have:=Ld S L 12;rw[show bst S L 12=some b from e] at this;rw[chV_some e];exact⟨rfl,rfl,this.2.1,rfl⟩
 ·rw[Zm S L hc] at h;simp at h
def Lies (w:Wd) (a:Option Addr) (n:Nat) (V:Nat->Int):Prop:=n=0\/∃g o,a=some ⟨g,o,none⟩/\g<w.heap.size/\∀i,i<n->w.cell? ⟨g,o+i,none⟩=some (.int .i64 (V i))
theorem eA(w:Wd)(ps pl:Option Addr)(ns nl cs cl:Nat)(h:¬ (ns=12/\nl=12)):Calls prog 117 #[.slice ps ns cs,.slice pl nl cl] w fun e w'=>e=.returned (.tuple #[.int .i64 0,errV 1])/\w'=w:=by
 by_cases h1:ns=12
 ·have h2:((nl:Int) != 12)=true:=by simp only[bne_iff_ne];omega
  subst h1;clear h;go_enter func117,ntmps117;go_wp2;go_ret2;exact⟨rfl,rfl⟩
 ·have h2:((ns:Int) != 12)=true:=by simp only[bne_iff_ne];omega
  clear h h1;go_enter func117,ntmps117;go_wp2;go_ret2;exact⟨rfl,rfl⟩
theorem SW(w:Wd)(ps pl:Option Addr)(cs cl:Nat)(S L:Nat->Int)(hS:Lies w ps 12 S)(hL:Lies w pl 12 L):Calls prog 117 #[.slice ps 12 cs,.slice pl 12 cl] w fun e w'=>e=.returned (.tuple #[.int .i64 (chV 12 12 S L:Nat),errV (chC 12 12 S L)])/\∃m,w'=w.drewN m:=by
 rcases hS with hS | ⟨gs,os,rfl,hgs,hS⟩
 ·simp at hS
 rcases hL with hL | ⟨gl,ol,rfl,hgl,hL⟩
 ·simp at hL
 have HS:=BB hS;have HL:=BB hL;have HG:=BB (And.intro hgs hgl);clear hS hL hgs hgl;go_enter func117,ntmps117;go_wp2_with fail
 go_loopg [6,7,21] 12 (fun kx s6 s7 s21 wr=>∃(i m:Nat),s21=.int .i64 i/\s6=.int .i64 ((bst S L i).getD 0:Nat)/\s7=.bool (bst S L i).isSome/\i<=12/\12 - i<=kx/\Hid (wr=w.drewN m))
 case atStart=>exact⟨0,0,rfl,rfl,rfl,om,om,rfl⟩
 case round=>
 obtain⟨i,m,rfl,rfl,rfl,hin,hkx,HM⟩:=hrel;obtain rfl:=HM.out;clear HM;by_cases hlt:i<12
 ·have hltz:(i:Int)<12:=om
  have x0:=(((Chg.refl No w).drewN m).cell HG.out.1 (fun f=>f) _).trans (HS.out i hlt);by_cases h2:S i=2
  ·rw[h2] at x0;cases e:bst S L i with
   | none=>
    have HE:=BB (Kj h2 e);simp only[Option.getD_none,Option.isSome_none];clear h2 e;go_wp2_with fail
    go_quiet (fail)
    go_wp2
    go_roundg (12 - (i+1))
    case measure=>omega
    case rel=>exact⟨i+1,_,by simp,by rw[HE.out];rfl,by rw[HE.out];rfl,om,AM _,rfl⟩
   | some b=>
    have hb:b<i:=(by have:=Ld S L i;rw[e] at this;exact this.2.1);have x1:=HL.out i hlt;have x2:=HL.out b om;have hbz:(b:Int)<12:=om;simp only[Option.getD_some,Option.isSome_some];by_cases hl:L i<L b
    ·have HE:=BB (NK h2 e hl);clear h2 e hb;generalize L i=u at *
     generalize L b=v at *
     go_wp2_with fail
     go_quiet (fail)
     go_wp2
     go_roundg (12 - (i+1))
     case measure=>omega
     case rel=>exact⟨i+1,_,by simp,by rw[HE.out];rfl,by rw[HE.out];rfl,om,AM _,rfl⟩
    ·have HE:=BB (NL e hl);clear h2 e hb;generalize L i=u at *
     generalize L b=v at *
     go_wp2_with fail
     go_quiet (fail)
     go_wp2
     go_roundg (12 - (i+1))
     case measure=>omega
     case rel=>exact⟨i+1,_,by simp,by rw[HE.out];rfl,by rw[HE.out];rfl,om,AM _,rfl⟩
  ·have HE:=BB (NJ (L:=L) h2);have hn:(S i != 2)=true:=(by simp only[bne_iff_ne];exact h2);clear h2;generalize S i=u at *
   go_wp2
   go_roundg (12 - (i+1))
   case measure=>omega
   case rel=>exact⟨i+1,m,by simp,by rw[HE.out],by rw[HE.out],om,AM _,rfl⟩
 ·have hltz:¬ (i:Int)<12:=om
  obtain rfl:i=12:=om
  cases e:bst S L 12 with
  | none=>
   have HE:=BB (And.intro (chV_none e) (chC_none e));clear HS HL HG e;simp only[Option.getD_none,Option.isSome_none];go_wp2;go_ret2;rw[HE.out.1,HE.out.2];exact⟨rfl,_,rfl⟩
  | some b=>
   have HE:=BB (And.intro (chV_some e) (chC_some e));clear HS HL HG e;simp only[Option.getD_some,Option.isSome_some];go_wp2;go_ret2;rw[HE.out.1,HE.out.2];exact⟨rfl,_,rfl⟩
end Go.Proofs.YtbhbilcieodbhaaGreat.AG
