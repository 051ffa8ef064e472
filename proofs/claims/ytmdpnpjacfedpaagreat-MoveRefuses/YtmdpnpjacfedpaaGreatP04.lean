/-
  Lemmas.
-/
import Derived.Test.YtmdpnpjacfedpaaGreatOm
import Derived.Sort.LotA
import Derived.Test.YtmdpnpjacfedpaaGreatP03
import Derived.Shelf.SlSortCmp.KitK
import Derived.Sort.WalkB2
import Derived.Sort.WalkB12
import Derived.Deep.CutRange
set_option maxRecDepth 1000000
set_option maxHeartbeats 16000000
set_option linter.unusedSimpArgs false
namespace Go.Proofs.YtmdpnpjacfedpaaGreat.AE
open List
open Go.Proofs.Tryz
open Go.Sort
set_option linter.unusedSectionVars false
variable {α:Type} [Inhabited α]
def sg (d:Array α) (a b:Nat):List α:=(List.range' a (b - a)).map fun i=>d[i]!
theorem DP(d:Array α)(a b:Nat):(sg d a b).length=b - a:=by simp[sg]
theorem Gn(d:Array α)(a b i:Nat)(h:i<b - a):(sg d a b)[i]?=some d[a+i]!:=by
 simp[sg,h]
theorem Mo{d e:Array α}{a b a' b':Nat}(hl:b - a=b' - a')(h:∀i,i<b - a->d[a+i]! = e[a'+i]!):sg d a b=sg e a' b':=by
 apply ext_getElem?;intro i;by_cases hi:i<b - a
 ·rw[Gn d a b i hi,Gn e a' b' i om,h i hi]
 ·rw[Ae (by rw[DP];omega),Ae (by rw[DP];omega)]
theorem D3(d:Array α)(a m b:Nat)(h1:a<=m)(h2:m<=b):sg d a b=sg d a m ++ sg d m b:=by
 apply ext_getElem?;intro i;by_cases hi:i<m - a
 ·rw[Gn d a b i om,Af (by rw[DP];omega),Gn d a m i hi]
 ·rw[Aa (by rw[DP];omega),DP];by_cases hb:i<b - a
  ·rw[Gn d a b i hb,Gn d m b (i - (m - a)) om,show m+(i - (m - a))=a+i by omega]
  ·rw[Ae (by rw[DP];omega),Ae (by rw[DP];omega)]
theorem Ww{d:Array α}{a b:Nat}{x:α}:x ∈ sg d a b<->∃i,a<=i/\i<b/\d[i]! = x:=by
 constructor
 ·intro h;obtain⟨i,hi,rfl⟩:=mem_map.1 h;rw[mem_range'_1] at hi;exact⟨i,hi.1,om,rfl⟩
 ·rintro ⟨i,h1,h2,rfl⟩;exact mem_map.2 ⟨i,by rw[mem_range'_1];omega,rfl⟩
theorem Wx(d:Array α):sg d 0 d.size=d.toList:=by
 apply ext_getElem?;intro i;by_cases hi:i<d.size
 ·rw[Gn d 0 d.size i om,AW,Array.getElem?_toList,Array.getElem?_eq_getElem hi,getElem!_pos d i hi]
 ·rw[Ae (by rw[DP];omega),Ae (by simp;omega)]
def eqv (lt:α->α->Bool) (x y:α):Bool:=!lt x y && !lt y x
variable {lt:α->α->Bool}
theorem Wy(h:SWO lt)(x:α):eqv lt x x=true:=by simp[eqv,h.irrefl]
theorem gj(h:SWO lt){x y z:α}(h1:eqv lt x y=true)(h2:eqv lt x z=true):lt y z=false:=by
 simp only[eqv,Ao,Bool.not_eq_true'] at h1 h2;exact h.ntrans _ _ _ h1.2 h2.1
structure Nc (lt:α->α->Bool) (a b:Nat) (d d':Array α):Prop where
 size:d'.size=d.size
 out:∀i,i<a\/b<=i->d'[i]! = d[i]!
 flt:∀x,(sg d' a b).filter (eqv lt x)=(sg d a b).filter (eqv lt x)
theorem Nc.refl(a b:Nat)(d:Array α):Nc lt a b d d:=⟨rfl,fun _ _=>rfl,fun _=>rfl⟩
theorem Nc.trans{a b:Nat}{d e f:Array α}(h:Nc lt a b d e)(k:Nc lt a b e f):Nc lt a b d f:=
 ⟨k.size.trans h.size,fun i hi=>(k.out i hi).trans (h.out i hi),fun x=>(k.flt x).trans (h.flt x)⟩
theorem Nc.mono{a b a' b':Nat}{d e:Array α}(h:Nc lt a b d e)(ha:a'<=a)(hb:b<=b')(hab:a<=b):Nc lt a' b' d e:=by
 refine⟨h.size,fun i hi=>h.out i om,fun x=>?_⟩;rw[D3 e a' a b' ha om,D3 e a b b' hab hb,D3 d a' a b' ha om,D3 d a b b' hab hb];simp only[filter_append];rw[h.flt x,Mo (d:=e) (e:=d) (a:=a') (b:=a) rfl (fun i hi=>h.out _ om),Mo (d:=e) (e:=d) (a:=b) (b:=b') rfl (fun i hi=>h.out _ om)]
def Zq (d:Array α) (a m b:Nat):Array α:=(Array.range d.size).map fun i=>if a<=i/\i<a+(b - m) then d[i+(m - a)]! else if a+(b - m)<=i/\i<b then d[i - (b - m)]! else d[i]!
theorem Hz(d:Array α)(a m b:Nat):(Zq d a m b).size=d.size:=by simp[Zq]
theorem Jo(d:Array α)(a m b i:Nat)(h:i<d.size):(Zq d a m b)[i]! = if a<=i/\i<a+(b - m) then d[i+(m - a)]! else if a+(b - m)<=i/\i<b then d[i - (b - m)]! else d[i]!:=by
 rw[getElem!_pos (Zq d a m b) i (by rw[Hz];exact h)];simp[Zq]
theorem Oo(d:Array α)(i:Nat)(h:d.size<=i):d[i]! = default:=by
 rw[getElem!_neg d i om]
theorem bR(d:Array α)(a m b i:Nat)(hm:m<=b)(ha:a<=m)(h:i<a\/b<=i):(Zq d a m b)[i]! = d[i]!:=by
 by_cases hi:i<d.size
 ·rw[Jo d a m b i hi,AI om,AI om]
 ·rw[Oo _ _ (by rw[Hz];omega),Oo _ _ om]
theorem mZ{d e:Array α}(hs:d.size=e.size)(h:∀i,i<d.size->d[i]! = e[i]!):d=e:=
 Array.ext hs fun t h1 h2=>by have:=h t h1;rwa [getElem!_pos d t h1,getElem!_pos e t h2] at this
theorem bS(d:Array α)(a m b:Nat)(h1:a<=m)(h2:m<=b)(hb:b<=d.size):sg (Zq d a m b) a (a+(b - m))=sg d m b:=by
 refine Mo om fun i hi=>?_;rw[Jo d a m b _ om,AJ om,show a+i+(m - a)=m+i by omega]
theorem bT(d:Array α)(a m b:Nat)(h1:a<=m)(h2:m<=b)(hb:b<=d.size):sg (Zq d a m b) (a+(b - m)) b=sg d a m:=by
 refine Mo om fun i hi=>?_;rw[Jo d a m b _ om,AI om,AJ om,show a+(b - m)+i - (b - m)=a+i by omega]
theorem bU(hS:SWO lt)(d:Array α)(a m b:Nat)(h1:a<=m)(h2:m<=b)(hb:b<=d.size)(h:∀x y,a<=x->x<m->m<=y->y<b->lt d[y]! d[x]! = true):Nc lt a b d (Zq d a m b):=by
 refine⟨Hz ..,fun i hi=>bR d a m b i h2 h1 hi,fun x=>?_⟩;rw[D3 _ a (a+(b - m)) b om om,bS d a m b h1 h2 hb,bT d a m b h1 h2 hb,D3 d a m b h1 h2];simp only[filter_append];by_cases hA:(sg d a m).filter (eqv lt x)=[]
 ·rw[hA];simp
 ·have hB:(sg d m b).filter (eqv lt x)=[]:=by
   rw[filter_eq_nil_iff];intro v hv hx;obtain⟨u,hu⟩:=exists_mem_of_ne_nil _ hA;obtain⟨hu1,hu2⟩:=mem_filter.1 hu;obtain⟨i,i1,i2,rfl⟩:=Ww.1 hu1;obtain⟨j,j1,j2,rfl⟩:=Ww.1 hv;have:=gj hS hx hu2;rw[h i j i1 i2 j1 j2] at this;cases this
  rw[hB];simp
theorem bV(d:Array α)(j:Nat)(h:j+1<d.size):swp d (j+1) j=Zq d j (j+1) (j+2):=by
 refine mZ (by rw[swp_size,Hz]) fun i hi=>?_;rw[swp_size] at hi;rw[swp_get d h om,Jo d _ _ _ i hi];by_cases h1:i=j
 ·subst h1;rw[AJ rfl,AJ om];congr 1;omega
 ·rw[AI h1];by_cases h2:i=j+1
  ·subst h2;rw[AJ rfl,AI om,AJ om];congr 1;omega
  ·rw[AI h2,AI om,AI om]
theorem H6(hS:SWO lt)(a i:Nat):∀(j:Nat) (d:Array α),j<=i->i<d.size->a<=i->Nc lt a (i+1) d (insInner lt a j d)
 | 0,d,_,_,_=>by rw[insInner];exact Nc.refl ..
 | j+1,d,hj,hi,ha=>by
  rw[insInner]
  by_cases h:(j+1 > a && lt d[j+1]! d[j]!)=true
  ·
   rw[AJ h]
   simp only[Ao,Al] at h
   have h1:Nc lt j (j+2) d (swp d (j+1) j):=by
    rw[bV d j om];refine bU hS d j (j+1) (j+2) om om om fun x y x1 x2 y1 y2=>?_;rw[show x=j by omega,show y=j+1 by omega];exact h.2
   exact(h1.mono om om om).trans (H6 hS a i j _ om (by rw[swp_size];exact hi) ha)
  ·rw[AI h];exact Nc.refl ..
theorem GW(lt:α->α->Bool)(a:Nat):∀(j:Nat) (d:Array α),(insInner lt a j d).size=d.size
 | 0,d=>by rw[insInner]
 | j+1,d=>by
  rw[insInner]
  split
  ·
   rw[GW lt a j,swp_size]
  ·
   rfl
theorem Mq(hS:SWO lt)(a b:Nat):∀(n i:Nat) (d:Array α),b - i=n->a<=i->b<=d.size->a<=b->Nc lt a b d (insOuter lt a b i d):=by
 intro n
 induction n with
 | zero=>intro i d h _ _ _;rw[insOuter,AI om];exact Nc.refl ..
 | succ n ih=>
  intro i d h ha hb hab;rw[insOuter,AJ om];exact((H6 hS a i i d (AM _) om ha).mono (AM _) om om).trans (ih (i+1) _ om om (by rw[GW];exact hb) hab)
theorem LY(hS:SWO lt)(d:Array α)(a b:Nat)(hab:a<=b)(hb:b<=d.size):Nc lt a b d (insertionSort lt d a b)/\SortedIn lt a b (insertionSort lt d a b):=
 ⟨Mq hS a b _ (a+1) d rfl om hb hab,(insertionSort_holds (lt:=lt) hS d a b hab hb).2⟩
end Go.Proofs.YtmdpnpjacfedpaaGreat.AE
namespace Go.Proofs.YtmdpnpjacfedpaaGreat.AE
open List
open Go.Proofs.Tryz
open AA
open Go.Shelf Go.RowKit Go.Lib Go.Sort
variable {P:Program}{α:Type} [Inhabited α]
structure nu (lt:α->α->Bool) (d d':Array α):Prop where
 stb:Nc lt 0 d.size d d'
 so:SortedIn lt 0 d.size d'
end Go.Proofs.YtmdpnpjacfedpaaGreat.AE
namespace Go.Proofs.YtmdpnpjacfedpaaGreat.AE
open List
open Go.Proofs.Tryz
open AA
open Go.Sort
abbrev Bc:=Int × Int × Int × Int × Int × Bool
abbrev Bc.P (f:Bc):Int:=f.1
abbrev Bc.T (f:Bc):Int:=f.2.1
abbrev Bc.O (f:Bc):Int:=f.2.2.1
abbrev Bc.S (f:Bc):Int:=f.2.2.2.1
abbrev Bc.C (f:Bc):Int:=f.2.2.2.2.1
abbrev Bc.L (f:Bc):Bool:=f.2.2.2.2.2
def f0:Bc:=⟨0,0,0,0,0,false⟩
def fL (f:Bc):List Value:=[.int .i64 f.P,.int .i64 f.T,.int .i64 f.O,.int .i64 f.S,.int .i64 f.C,.bool f.L]
def fA (f:Bc):Array Value:=(fL f).toArray
theorem Eo(f:Bc):(fL f).length=6:=rfl
theorem Wz(f:Bc):∀v ∈ fL f,v.oneCell'=true:=by
 intro v hv;simp only[fL,mem_cons,not_mem_nil,or_false] at hv;rcases hv with rfl | rfl | rfl | rfl | rfl | rfl <;> rfl
def snd (f:Bc):Bool:=decide (0<=f.P) && decide (f.P<96) && decide (0<=f.O) && decide (f.O<25) && decide (0<=f.S) && decide (f.S<1099511627776) && decide (0<=f.C) && decide (f.C<256)
theorem Cv(f:Bc):snd f=true<->0<=f.P/\f.P<96/\0<=f.O/\f.O<25/\0<=f.S/\f.S<1099511627776/\0<=f.C/\f.C<256:=by
 simp[snd,and_assoc]
def Gp (a b:Int):Bool:=decide (0<=a) && decide (a<256) && decide (0<=b) && decide (b<256) && decide (1<=(b - a) % 256) && decide ((b - a) % 256<=127)
def cnd (of ab:Int) (f:Bc):Bool:=snd f && decide (f.O=of) && decide (ab<f.S)
def mx (l:List Bc):Int:=l.foldl (fun t f=>if t<f.S then f.S else t) (-1)
def UH (l:List Bc) (of ab:Int):List Bc:=(l.filter (cnd of ab)).filter fun f=>decide (f.S=mx (l.filter (cnd of ab)))
def Jp (l:List Bc):List Bc:=(List.range 96).flatMap fun (p:Nat)=>l.filter fun f=>decide (f.P=(p:Int))
def lat (l:List Bc) (of ab:Int):List Bc:=Jp (UH l of ab)
def best (b:Bc) (r:List Bc):Bc:=r.foldl (fun b f=>if Gp f.C b.C then f else b) b
def pk:List Bc->Option Bc
 | []=>none
 | x :: r=>some (best x r)
def newest (l:List Bc) (of ab:Int):Option Bc:=pk (lat l of ab)
def bW (a b:Int):Int:=if a<b then -1 else if b<a then 1 else 0
def cf (x y:Bc):Int:=if bW y.S x.S≠0 then bW y.S x.S else bW x.P y.P
theorem W7(x y:Bc):ltOf cf x y=true<->y.S<x.S\/(y.S=x.S/\x.P<y.P):=by
 unfold ltOf cf bW;rw[decide_eq_true_iff]
 repeat' split
 all_goals omega
theorem Ep(x y:Bc):ltOf cf x y=false<->x.S<y.S\/(x.S=y.S/\y.P<=x.P):=by
 rw[<-Bool.not_eq_true,W7];omega
theorem nO:SWO (ltOf cf) where
 irrefl x:=by rw[Ep];omega
 trans x y z h1 h2:=by rw[W7] at *;omega
 ntrans x y z h1 h2:=by rw[Ep] at *;omega
theorem bX(x y:Bc):eqv (ltOf cf) x y=true<->x.S=y.S/\x.P=y.P:=by
 simp only[eqv,Ao,Bool.not_eq_true',Ep];omega
theorem Kj:∀(l k:List Bc),l.Pairwise (fun a b=>a.P<=b.P)->k.Pairwise (fun a b=>a.P<=b.P)->(∀p:Int,l.filter (fun f=>decide (f.P=p))=k.filter (fun f=>decide (f.P=p)))->l=k
 | [],[],_,_,_=>rfl
 | [],y :: s,_,_,h=>by have:=h y.P;simp at this
 | x :: r,[],_,_,h=>by have:=h x.P;simp at this
 | x :: r,y :: s,hl,hk,h=>by
  rw[pairwise_cons] at hl hk
  have e:x.P=y.P:=by
   have h1:x ∈ (y :: s).filter (fun f=>decide (f.P=x.P)):=(by rw[<-h x.P];simp);have h2:y ∈ (x :: r).filter (fun f=>decide (f.P=y.P)):=(by rw[h y.P];simp);have g1:y.P<=x.P:=by
    rcases mem_cons.1 (mem_filter.1 h1).1 with e | e
    ·rw[e];exact Int.le_refl _
    ·exact hk.1 _ e
   have g2:x.P<=y.P:=by
    rcases mem_cons.1 (mem_filter.1 h2).1 with e | e
    ·rw[e];exact Int.le_refl _
    ·exact hl.1 _ e
   omega
  have hx:=h x.P;rw[filter_cons_of_pos (by simp),filter_cons_of_pos (by simp[e])] at hx;simp only[List.cons.injEq] at hx;obtain⟨rfl,hx⟩:=hx;congr 1;refine Kj r s hl.2 hk.2 fun p=>?_;by_cases hp:x.P=p
  ·rw[<-hp];exact hx
  ·have:=h p
   rwa [filter_cons_of_neg (by simpa using hp),filter_cons_of_neg (by simpa using hp)] at this
theorem Qr(l:List Bc):(Jp l).Pairwise (fun a b=>a.P<=b.P):=by
 unfold Jp;rw[pairwise_flatMap];refine⟨fun p _=>?_,?_⟩
 ·rw[pairwise_iff_forall_sublist];intro a b h;have ha:=h.subset (mem_cons_self);have hb:=h.subset (mem_cons_of_mem _ mem_cons_self);have h1:=(mem_filter.1 ha).2;have h2:=(mem_filter.1 hb).2;simp only[Al] at h1 h2;omega
 ·refine pairwise_lt_range.imp fun {p q} hpq x hx y hy=>?_;have h1:=(mem_filter.1 hx).2;have h2:=(mem_filter.1 hy).2;simp only[Al] at h1 h2;omega
theorem Mr(l:List Bc)(p:Nat):∀n,((List.range n).flatMap fun (q:Nat)=>(l.filter fun f=>decide (f.P=(q:Int))).filter fun f=>decide (f.P=(p:Int)))=if p<n then l.filter (fun f=>decide (f.P=(p:Int))) else []:=by
 intro n
 induction n with
 | zero=>simp
 | succ n ih=>
  rw[range_succ,flatMap_append,ih];simp only[flatMap_cons,flatMap_nil,append_nil,filter_filter];by_cases h:p<n
  ·have e2:l.filter (fun a=>decide (a.P=(p:Int)) && decide (a.P=(n:Int)))=[]:=filter_eq_nil_iff.2 fun a _=>by
    simp only[Ao,Al];omega
   rw[AJ h,AJ om,e2,append_nil]
  ·rw[AI h,A7];by_cases e:p=n
   ·subst e;rw[AJ om];congr 1;funext f;simp
   ·rw[AI om,filter_eq_nil_iff.2];intro a _;simp only[Ao,Al];omega
theorem Qs(l:List Bc)(hl:∀f ∈ l,0<=f.P/\f.P<96)(p:Int):(Jp l).filter (fun f=>decide (f.P=p))=l.filter (fun f=>decide (f.P=p)):=by
 by_cases hp:0<=p/\p<96
 ·obtain⟨q,rfl⟩:∃q:Nat,p=q:=⟨p.toNat,om⟩;unfold Jp;rw[filter_flatMap,Mr,AJ om]
 ·rw[filter_eq_nil_iff.2,filter_eq_nil_iff.2]
  ·intro a ha;have:=hl a ha;simp only[Al];omega
  ·intro a ha;unfold Jp at ha;obtain⟨q,hq,h⟩:=mem_flatMap.1 ha;have:=hl a (mem_filter.1 h).1;simp only[Al];omega
theorem H7{l:List Bc}{f:Bc}:f ∈ Jp l<->f ∈ l/\0<=f.P/\f.P<96:=by
 unfold Jp;rw[mem_flatMap];constructor
 ·rintro ⟨q,hq,h⟩;have h1:=mem_filter.1 h;have h2:=h1.2;simp only[Al] at h2;rw[mem_range] at hq;exact⟨h1.1,om,om⟩
 ·rintro ⟨h,h1,h2⟩;exact⟨f.P.toNat,mem_range.2 om,mem_filter.2 ⟨h,by simp only[Al];omega⟩⟩
theorem W8(l:List Bc):∀t:Int,t<=l.foldl (fun t f=>if t<f.S then f.S else t) t/\(∀f ∈ l,f.S<=l.foldl (fun t f=>if t<f.S then f.S else t) t)/\(l.foldl (fun t f=>if t<f.S then f.S else t) t=t\/∃f ∈ l,f.S=l.foldl (fun t f=>if t<f.S then f.S else t) t):=by
 induction l with
 | nil=>intro t;exact⟨Int.le_refl _,by simp,AK rfl⟩
 | cons x r ih=>
  intro t;rw[foldl_cons];obtain⟨h1,h2,h3⟩:=ih (if t<x.S then x.S else t);have e:t<=(if t<x.S then x.S else t)/\x.S<=(if t<x.S then x.S else t):=by split <;> omega
  refine⟨om,?_,?_⟩
  ·intro f hf;rcases mem_cons.1 hf with rfl | hf
   ·omega
   ·exact h2 f hf
  ·rcases h3 with h3 | ⟨f,hf,h3⟩
   ·rw[h3];split
    ·exact AL ⟨x,by simp,rfl⟩
    ·exact AK rfl
   ·exact AL ⟨f,mem_cons_of_mem _ hf,h3⟩
theorem mx_le{l:List Bc}{f:Bc}(h:f ∈ l):f.S<=mx l:=(W8 l (-1)).2.1 f h
theorem Qt{l:List Bc}(h:l≠[])(h0:∀f ∈ l,0<=f.S):∃f ∈ l,f.S=mx l:=by
 rcases(W8 l (-1)).2.2 with e | e
 ·obtain⟨f,hf⟩:=exists_mem_of_ne_nil l h;have h1:=mx_le hf;have h2:=h0 f hf;have e':mx l = -1:=e;omega
 ·exact e
theorem eh{l:List Bc}{t:Int}(h1:∀f ∈ l,f.S<=t)(h2:∃f ∈ l,f.S=t)(h0:∀f ∈ l,0<=f.S):mx l=t:=by
 obtain⟨f,hf,e⟩:=h2;obtain⟨g,hg,e2⟩:=Qt (ne_nil_of_mem hf) h0;have:=mx_le hf;have:=h1 g hg;omega
theorem Jq{of ab:Int}{f:Bc}(h:cnd of ab f=true):snd f=true/\f.O=of/\ab<f.S:=by
 simpa[cnd,and_assoc] using h
theorem Er(t:Int):∀(l:List Bc),l.Pairwise (fun a b=>b.S<=a.S)->(∀f ∈ l,f.S<=t)->l.takeWhile (fun f=>!decide (f.S<t))=l.filter (fun f=>decide (f.S=t))
 | [],_,_=>rfl
 | x :: r,h,hl=>by
  rw[pairwise_cons] at h
  have hx:=hl x (by simp)
  by_cases e:x.S=t
  ·
   rw[takeWhile_cons_of_pos (by simp[e]),filter_cons_of_pos (by simp[e]),Er t r h.2 (fun f hf=>hl f (mem_cons_of_mem _ hf))]
  ·
   rw[takeWhile_cons_of_neg (by simp;omega),filter_eq_nil_iff.2]
   intro f hf
   have h1:f.S<=x.S:=by
    rcases mem_cons.1 hf with rfl | hf
    ·exact Int.le_refl _
    ·exact h.1 f hf
   simp only[Al];omega
theorem Gq{d:Array Bc}(h:SortedIn (ltOf cf) 0 d.size d):d.toList.Pairwise (fun a b=>ltOf cf b a=false):=by
 rw[pairwise_iff_getElem];intro i j hi hj hij;have hj':j<d.size:=by simpa using hj
 have:=h i j (Ac _) hij hj';rw[getElem!_pos d i om,getElem!_pos d j hj'] at this;simpa using this
theorem Qu(l:List Bc)(of ab:Int)(d':Array Bc)(h:nu (ltOf cf) (l.filter (cnd of ab)).toArray d'):d'.toList.takeWhile (fun f=>!decide (f.S<(d'[0]!).S))=lat l of ab:=by
 generalize hL:l.filter (cnd of ab)=L at h;have hsz:d'.size=L.length:=by simpa using h.stb.size
 have hso:SortedIn (ltOf cf) 0 d'.size d':=by have:=h.so;simpa[hsz] using this
 have hp:=Gq hso;have hflt:∀x,d'.toList.filter (eqv (ltOf cf) x)=L.filter (eqv (ltOf cf) x):=fun x=>by
  have:=h.stb.flt x;have e:L.toArray.size=d'.size:=by simp[hsz]
  rw[Wx L.toArray,e,Wx d'] at this;exact this
 have hmem:∀f,f ∈ d'.toList<->f ∈ L:=fun f=>by
  have:=hflt f;have e:eqv (ltOf cf) f f=true:=Wy nO f;constructor
  ·intro hf;have:f ∈ d'.toList.filter (eqv (ltOf cf) f):=mem_filter.2 ⟨hf,e⟩;rw[hflt] at this;exact(mem_filter.1 this).1
  ·intro hf;have:f ∈ L.filter (eqv (ltOf cf) f):=mem_filter.2 ⟨hf,e⟩;rw[<-hflt] at this;exact(mem_filter.1 this).1
 have hs:∀f ∈ L,snd f=true:=fun f hf=>by rw[<-hL] at hf;exact(Jq (mem_filter.1 hf).2).1
 unfold lat UH;rw[hL];by_cases h0:L=[]
 ·have:d'.toList=[]:=eq_nil_iff_forall_not_mem.2 fun f hf=>by rw[hmem,h0] at hf;simp at hf
  rw[this,h0];simp[Jp]
 ·have hd0:0<d'.size:=by rw[hsz];exact length_pos_iff.2 h0
  have hS:d'.toList.Pairwise (fun a b=>b.S<=a.S):=hp.imp fun {a b} h=>by rw[Ep] at h;omega
  have hle:∀f ∈ d'.toList,f.S<=(d'[0]!).S:=by
   intro f hf;obtain⟨i,hi,e⟩:=mem_iff_getElem.1 hf;have hi':i<d'.size:=(by simpa using hi);by_cases h1:i=0
   ·subst h1;rw[getElem!_pos d' 0 hd0,<-e];simp
   ·have:=hso 0 i (AM _) om hi';rw[Ep,getElem!_pos d' i hi'] at this;have e':d'[i]=f:=(by simpa using e);rw[e'] at this;omega
  have hm:mx L=(d'[0]!).S:=by
   refine eh (fun f hf=>hle f ((hmem f).2 hf)) ⟨d'[0]!,(hmem _).1 ?_,rfl⟩ (fun f hf=>((Cv f).1 (hs f hf)).2.2.2.2.1);rw[getElem!_pos d' 0 hd0];simp
  rw[Er _ _ hS hle,hm];generalize (d'[0]!).S=t;refine Kj _ _ ?_ (Qr _) fun p=>?_
  ·rw[pairwise_filter];refine hp.imp fun {a b} h h1 h2=>?_;simp only[Al] at h1 h2;rw[Ep] at h;omega
  ·rw[Qs _ (fun f hf=>by have:=(Cv f).1 (hs f (mem_filter.1 hf).1);exact⟨this.1,this.2.1⟩)];have e:=hflt ⟨p,0,0,t,0,false⟩;rw[filter_filter,filter_filter];have g:(fun f:Bc=>decide (f.P=p) && decide (f.S=t))=eqv (ltOf cf) ⟨p,0,0,t,0,false⟩:=by
    funext f;rw[Bool.eq_iff_iff,bX];show _<->t=f.S/\p=f.P;simp only[Ao,Al];omega
   rw[g];exact e
end Go.Proofs.YtmdpnpjacfedpaaGreat.AE
namespace Go.Proofs.YtmdpnpjacfedpaaGreat.AE
open List
open Go.Proofs.Tryz
open Go.RowKit
open AA
open Go.RowKit Go.Sort
section
variable {w w':Wd}{f:Bc}{v:Value}{l:List Bc}{ops:Array Oper}{rest:List Oper}{o:Oper}{a:Act}{Q:Exit->Act->World->Prop}{base b g:Nat}{S:Nat->Prop}
theorem gk(f:Bc):(fA f).all (·.oneCell')=true:=all_oneCell_toArray (Wz f)
def Fo (w:Wd) (b:Nat) (f:Bc):Prop:=w.heap[b]?=some (.cells (fA f) 149)
theorem Fo.new(w:Wd)(f:Bc):Fo (w.alloc (.cells (fA f) 149)) w.heap.size f:=by
 show (w.heap.push _)[w.heap.size]?=_;simp
theorem Fo.lt(h:Fo w b f):b<w.heap.size:=(Array.getElem?_eq_some_iff.1 (show w.heap[b]?=some _ from h)).1
theorem Fo.chg(h:Fo w b f)(hc:Chg S w w')(hb:¬ S b):Fo w' b f:=(hc.block b h.lt hb).trans h
theorem Fo.drew(h:Fo w b f):Fo w.drew b f:=h
theorem Fo.cell(h:Fo w b f)(i:Nat)(hv:(fL f)[i]?=some v):w.cell? ⟨b,i,none⟩=some v:=by
 have h':w.heap[b]?=some _:=h;simp only[World.cell?,h',fA];simpa using hv
theorem Fo.cells(h:Fo w b f):w.cell? ⟨b,0,none⟩=some (.int .i64 f.P)/\w.cell? ⟨b,1,none⟩=some (.int .i64 f.T)/\w.cell? ⟨b,2,none⟩=some (.int .i64 f.O)/\w.cell? ⟨b,3,none⟩=some (.int .i64 f.S)/\w.cell? ⟨b,4,none⟩=some (.int .i64 f.C)/\w.cell? ⟨b,5,none⟩=some (.bool f.L):=
 ⟨h.cell 0 rfl,h.cell 1 rfl,h.cell 2 rfl,h.cell 3 rfl,h.cell 4 rfl,h.cell 5 rfl⟩
theorem Ms:(prog.info? 149).map (·.size)=some 6:=kr
theorem CW(hgd:o.guard=none)(x:Operand)(ho:o.op=.load 149 x)(g:Nat)(hx:a.eval x=.pointer (some ⟨g,0,none⟩))(hg:Fo w g f)(h:wpList prog ops Q rest (a.put o.dst (.agg (fA f))) w):wpList prog ops Q (o :: rest) a w:=
 wpList_load_row hgd 149 x ho g hx 149 _ _ _ hg underlying149 rfl Ms h
theorem BL(hgd:o.guard=none)(x:Operand)(ho:o.op=.load 149 x)(g q:Nat)(hx:a.eval x=.pointer (some ⟨g,q,none⟩))(hg:w.rangeAt g q (fL f))(h:wpList prog ops Q rest (a.put o.dst (.agg (fA f))) w):wpList prog ops Q (o :: rest) a w:=
 wpList_load_mid hgd 149 x ho g q hx (fL f) _ hg underlying149 rfl Ms h
theorem wpList_store_fo(hgd:o.guard=none)(x y:Operand)(ho:o.op=.store 149 x y)(g:Nat)(hx:a.eval x=.pointer (some ⟨g,0,none⟩))(hy:a.eval y=.agg (fA f)){f':Bc}(hg:Fo w g f')(h:∀w',Fo w' g f->Chg (·=g) w w'->wpList prog ops Q rest (a.put o.dst undef) w'):wpList prog ops Q (o :: rest) a w:=
 wpList_store_row hgd 149 x y ho g _ hx hy 149 _ hg Ms rfl (gk f) (h _ (setRow_heap w g _ _ 149 _ hg) ⟨rfl,rfl,rfl,by simp,fun k _ hk=>setRow_other _ _ _ _ hk⟩)
theorem gn(w:Wd):(zeroValue 149).run prog w=.ok (.agg (fA f0)) w:=kr
theorem bY(w:Wd):(Instr.build 149 #[]).run prog w=.ok (.agg (fA f0)) w:=kr
theorem Bh(hgd:o.guard=none)(ho:o.op=.alloc 149)(N:Nat)(hN:w.heap.size=N)(h:∀w',Fo w' N f0->Chg No w w'->w'.heap.size=N+1->wpList prog ops Q rest (a.put o.dst (.pointer (some ⟨N,0,none⟩))) w'):wpList prog ops Q (o :: rest) a w:=by
 refine wpList_plain hgd fun K hK=>?_;have hz:=gn;unfold Oper.wp;simp[execOp,ho,Instr.alloc,hz,newVar,Value.cells,newRow];rw[hN];exact hK _ _ (h _ (by rw[<-hN];exact Fo.new w f0) ((Chg.refl _ w).alloc _) (by simp[hN]))
theorem wpList_build_fo(hgd:o.guard=none)(ho:o.op=.build 149 #[])(h:wpList prog ops Q rest (a.put o.dst (.agg (fA f0))) w):wpList prog ops Q (o :: rest) a w:=by
 refine wpList_plain hgd fun K hK=>?_;have hz:=bY;unfold Oper.wp;simp[execOp,ho,hz];exact hK _ _ h
def LZ (w:Wd) (g o:Nat) (l:List Bc):Prop:=g<w.heap.size/\∀i f,l[i]?=some f->w.rangeAt g (o+i*6) (fL f)
def Sl (w:Wd) (v:Value) (l:List Bc):Prop:=∃a cap,v=.slice a l.length cap/\l.length<=cap/\(l.length=0\/∃g o,a=some ⟨g,o,none⟩/\LZ w g o l)
theorem Oq{o:Nat}{cs:List Value}(h:w.rangeAt g o cs)(hc:Chg S w w')(hg:g<w.heap.size)(hs:¬ S g):w'.rangeAt g o cs:=fun j v hv=>(hc.cell hg hs _).trans (h j v hv)
theorem LZ.chg{o:Nat}(h:LZ w g o l)(hc:Chg S w w')(hs:¬ S g):LZ w' g o l:=
 ⟨Aj h.1 hc.size,fun i f hi=>Oq (h.2 i f hi) hc h.1 hs⟩
theorem Sl.new(h:Sl w v l)(hc:Chg No w w'):Sl w' v l:=by
 obtain⟨a,cap,rfl,hcap,h⟩:=h;refine⟨a,cap,rfl,hcap,?_⟩;rcases h with h | ⟨g,o,rfl,h⟩
 ·exact AK h
 ·exact AL ⟨g,o,rfl,h.chg hc (fun f=>f)⟩
def Ow (w:Wd) (base:Nat) (v:Value) (l:List Bc):Prop:=w.ownsRow base 149 6 v l.length (l.flatMap fL)
theorem Kk:∀(l:List Bc) (i:Nat) (f:Bc) (j:Nat),l[i]?=some f->j<6->(l.flatMap fL)[i*6+j]?=(fL f)[j]?
 | [],i,f,j,h,_=>by simp at h
 | x :: r,0,f,j,h,hj=>by
  have e:x=f:=by simpa using h
  subst e
  rw[flatMap_cons,Nat.zero_mul,AW,Af (by rw[Eo];exact hj)]
 | x :: r,i+1,f,j,h,hj=>by
  have h':r[i]?=some f:=by simpa using h
  rw[flatMap_cons,Aa (by rw[Eo];omega),Eo,show (i+1)*6+j - 6=i*6+j by omega,Kk r i f j h' hj]
theorem EJ(l:List Bc):(l.flatMap fL).length=l.length*6:=by
 induction l with
 | nil=>rfl
 | cons x r ih=>rw[flatMap_cons,AV,ih,Eo,An];omega
theorem W9(l:List Bc):∀v ∈ l.flatMap fL,v.oneCell'=true:=by
 intro v hv;obtain⟨f,_,h⟩:=mem_flatMap.1 hv;exact Wz f v h
theorem Ow.nil(w:Wd)(base:Nat):Ow w base (.slice none 0 0) []:=⟨rfl,AK ⟨rfl,rfl⟩⟩
theorem Ow.lies(h:Ow w base v l)(h0:l.length≠0) :∃g cap,v=.slice (some ⟨g,0,none⟩) l.length cap/\l.length<=cap/\base<=g/\LZ w g 0 l/\(∀i,w.frozen? ⟨g,i,none⟩=false)/\∀j u,(l.flatMap fL)[j]?=some u->w.cell? ⟨g,j,none⟩=some u:=by
 have hcl:=fun g hg=>World.ownsRow.cells (g:=g) h hg;rcases h.2 with ⟨_,h1⟩ | ⟨g,cap,cur,hv,hg,hh,hn,hm,hs,ht⟩
 ·exact absurd h1 h0
 ·have hc:∀j u,(l.flatMap fL)[j]?=some u->w.cell? ⟨g,j,none⟩=some u:=fun j u hu=>by
   have:=hcl g (by rw[hv];rfl) j u hu;rw[Addr.add_mid,AW] at this;exact this
  refine⟨g,cap,hv,hn,hg,⟨(Array.getElem?_eq_some_iff.1 hh).1,fun i f hi j u hu=>?_⟩,fun i=>by simp[World.frozen?,hh],hc⟩;have hj:j<6:=by have:=(List.getElem?_eq_some_iff.1 hu).1;rwa [Eo] at this
  rw[AW];exact hc _ _ ((Kk l i f j hi hj).trans hu)
theorem Ow.sl(h:Ow w base v l):Sl w v l:=by
 by_cases h0:l.length=0
 ·rcases h.2 with ⟨rfl,_⟩ | ⟨g,cap,cur,rfl,_⟩
  ·exact⟨none,0,by rw[h0],om,AK h0⟩
  ·exact⟨_,cap,rfl,om,AK h0⟩
 ·obtain⟨g,cap,rfl,hcap,_,hA,_⟩:=h.lies h0;exact⟨_,cap,rfl,hcap,AL ⟨g,0,rfl,hA⟩⟩
theorem Ow.keep(h:Ow w base v l)(hk:∀k,k<w.heap.size->v.ownBlock=some k->w'.heap[k]?=w.heap[k]?):Ow w' base v l:=by
 refine⟨h.1,?_⟩;rcases h.2 with h1 | ⟨g,cap,cur,rfl,hb,hh,r⟩
 ·exact AK h1
 ·exact AL ⟨g,cap,cur,rfl,hb,(hk g (Array.getElem?_eq_some_iff.1 hh).1 rfl).trans hh,r⟩
theorem Ow.chg(h:Ow w base v l)(hc:Chg S w w')(hs:∀k,k<w.heap.size->v.ownBlock=some k->¬ S k):Ow w' base v l:=
 h.keep (fun k hk he=>hc.block k hk (hs k hk he))
theorem Ow.new(h:Ow w base v l)(hc:Chg No w w'):Ow w' base v l:=h.chg hc (fun _ _ _ f=>f)
theorem Ow.block(h:Ow w base v l){k:Nat}(hk:v.ownBlock=some k):base<=k/\k<w.heap.size:=h.lt k hk
theorem gt:∃i,prog.info? 149=some i/\i.zero=some (.agg (fA f0))/\i.size=6/\i.bytes=48:=by
 have h:(prog.info? 149).map (fun i=>(i.zero,i.size,i.bytes))=some (some (.agg (fA f0)),6,48):=kr
 cases e:prog.info? 149 with
 | none=>rw[e] at h;cases h
 | some i=>
  rw[e] at h;simp only[Option.map_some,Option.some.injEq,Prod.mk.injEq] at h;exact⟨i,rfl,h.1,h.2.1,h.2.2⟩
theorem CX(w:Wd)(hgd:o.guard=none)(s x:Operand)(ho:o.op=.call { callee:=.builtin .append,args:=#[s,x],argTypes:=#[70,70] })(base:Nat)(v:Value)(l:List Bc)(hs:a.eval s=v)(hown:Ow w base v l)(g q m c:Nat)(l2:List Bc)(hx:a.eval x=.slice (some ⟨g,q,none⟩) m c)(hm:l2.length=m)(hA:LZ w g q l2)(hbytes:l.length+m<=2932031007402)(hbase:base<=w.heap.size)(h:∀v' w',Ow w' base v' (l ++ l2)->Chg (fun k=>v.ownBlock=some k) w w'->wpList prog ops Q rest (a.put o.dst v') w'):wpList prog ops Q (o :: rest) a w:=by
 obtain⟨i,hi1,hi2,hi3,hi4⟩:=gt;refine wpList_append_own_at w hgd s x 70 ho base 149 i (.agg (fA f0)) 6 48 underlying70 hi1 hi2 hi3 hi4 rfl dc v l.length (l.flatMap fL) hs hown ⟨g,q,none⟩ m c (l2.flatMap fL) hx (by rw[EJ,hm]) ?_ (W9 l2) (by unfold maxLen;omega) om hbase ?_
 ·intro j u hu;have hj:j<l2.length*6:=by rw[<-EJ];exact(List.getElem?_eq_some_iff.1 hu).1
  have e:l2[j / 6]?=some (l2[j / 6]'om):=AU _;have hf:=Kk l2 (j / 6) _ (j % 6) e (Nat.mod_lt _ dc);rw[show j / 6*6+j % 6=j by omega,hu] at hf;have:=hA.2 (j / 6) _ e (j % 6) u hf.symm;rw[show q+j / 6*6+j % 6=q+j by omega] at this;rw[Addr.add_mid];exact this
 ·intro v' w' h1 h2 _ _;refine h v' w' ?_ ⟨h2.os,h2.tape,h2.output,h2.size,fun k hk hs=>h2.block k hk (fun e=>hs e.symm)⟩;unfold Ow;rw[AV,hm,flatMap_append];exact h1
theorem LZ.one(h:Fo w g f):LZ w g 0 [f]:=⟨h.lt,fun i f' hi=>by
 match i,hi with
 | 0,hi=>
  have e:f=f':=by simpa using hi
  subst e
  intro j v hv
  rw[Nat.zero_mul,AW]
  exact h.cell j hv⟩
end
end Go.Proofs.YtmdpnpjacfedpaaGreat.AE
namespace Go.Proofs.YtmdpnpjacfedpaaGreat.AE
open List
open Go.Proofs.Tryz
open Go.RowKit
open AA
theorem gu:(prog.info? 52).map (·.size)=some 24:=kr
theorem gw:(prog.info? 53).map (·.size)=some 12:=kr
theorem bf(f:Nat->Int)(i:Nat)(hi:i<24)(w:Wd):(Instr.index 52 (.agg (ints f 24).toArray) (.int .i64 i)).run prog w=.ok (.int .i64 (f i)) w:=by
 have h:=BU f 24 i hi;generalize ints f 24=L at *
 simp[Instr.index,run_underlying underlying52,asIntOf,go_sem,hi,h,i6]
end Go.Proofs.YtmdpnpjacfedpaaGreat.AE
namespace Go.Proofs.YtmdpnpjacfedpaaGreat.AE
open List
open Go.Proofs.Tryz
open Go.RowKit
open AA
open Go.RowKit Go.Sort
section
variable {a n:Int}
def JV (a n:Int):Bool:=decide (0<=a) && decide (a<n)
theorem Ot(h:JV a n=true):0<=a/\a<n:=by simpa[JV] using h
theorem Ly(h:JV a n=false):a<0\/n<=a:=by
 simp only[JV,Bool.and_eq_false_iff,decide_eq_false_iff_not] at h;omega
theorem SC(h1:0<=a)(h2:a<n):JV a n=true:=by simp[JV,h1,h2]
theorem Mt(h:a<0\/n<=a):JV a n=false:=by
 simp only[JV,Bool.and_eq_false_iff,decide_eq_false_iff_not];omega
theorem bg(f:Bc):snd f=(JV f.P 96 && (JV f.O 25 && (JV f.S 1099511627776 && JV f.C 256))):=by
 simp only[snd,JV,Bool.and_assoc]
theorem Fh{f:Bc}(h:¬ (0<=f.P/\f.P<96/\0<=f.O/\f.O<25/\0<=f.S/\f.S<1099511627776/\0<=f.C/\f.C<256)):snd f=false:=by
 rw[<-Bool.not_eq_true,Cv];exact h
theorem Mu(a b:Int):Gp a b=true<->0<=a/\a<256/\0<=b/\b<256/\1<=(b - a) % 256/\(b - a) % 256<=127:=by
 simp[Gp,and_assoc]
theorem Im{b:Int}(h:¬ (0<=a/\a<256/\0<=b/\b<256/\1<=(b - a) % 256/\(b - a) % 256<=127)):Gp a b=false:=by
 rw[<-Bool.not_eq_true,Mu];exact h
theorem Cg(a n:Int)(w:Wd):Calls prog 205 #[.int .i64 a,.int .i64 n] w fun e w'=>e=.returned (.bool (JV a n))/\w'=w:=by
 by_cases h1:0<=a
 ·by_cases h2:a<n
  ·have hb:=SC h1 h2;go_enter func205,ntmps205;go_wp2;go_ret;exact⟨by rw[hb];rfl,rfl⟩
  ·have hb:Hid (JV a n=false):=Mt om;go_enter func205,ntmps205;go_wp2;go_ret;exact⟨by rw[hb.out];rfl,rfl⟩
 ·have hb:Hid (JV a n=false):=Mt om;go_enter func205,ntmps205;go_wp2;go_ret;exact⟨by rw[hb.out];rfl,rfl⟩
theorem Dp(a n:Int)(w:Wd):Calls prog 206 #[.int .i64 a,.int .i64 n] w fun e w'=>e=.returned (.bool (JV a n))/\w'=w:=by
 by_cases h1:0<=a
 ·by_cases h2:a<n
  ·have hb:=SC h1 h2;go_enter func206,ntmps206;go_wp2;go_ret;exact⟨by rw[hb];rfl,rfl⟩
  ·have hb:Hid (JV a n=false):=Mt om;go_enter func206,ntmps206;go_wp2;go_ret;exact⟨by rw[hb.out];rfl,rfl⟩
 ·have hb:Hid (JV a n=false):=Mt om;go_enter func206,ntmps206;go_wp2;go_ret;exact⟨by rw[hb.out];rfl,rfl⟩
theorem Es(f:Bc)(w:Wd):Calls prog 168 #[.agg (fA f)] w fun e w'=>e=.returned (.bool (snd f))/\Chg No w w':=by
 obtain⟨c0,c1,c2,c3,c4,c5⟩:=(Fo.new w f).cells;have HG:Hid (Chg No w (w.alloc (.cells (fA f) 149))):=(Chg.refl _ w).alloc _;have HB:=BE (bg f);cases h1:JV f.P 96 with
 | false=>
  go_enter func168,ntmps168;go_wp2_with (first | (go_at_call 205;refine(Cg _ _ _).mono ?_;rintro e w' ⟨rfl,rfl⟩) | (go_at_call 206;refine(Dp _ _ _).mono ?_;rintro e w' ⟨rfl,rfl⟩));go_ret;exact⟨by rw[HB.out];simp[h1],HG.out⟩
 | true=>
  cases h2:JV f.O 25 with
  | false=>
   go_enter func168,ntmps168;go_wp2_with (first | (go_at_call 205;refine(Cg _ _ _).mono ?_;rintro e w' ⟨rfl,rfl⟩) | (go_at_call 206;refine(Dp _ _ _).mono ?_;rintro e w' ⟨rfl,rfl⟩));go_ret;exact⟨by rw[HB.out];simp[h1,h2],HG.out⟩
  | true=>
   cases h3:JV f.S 1099511627776 with
   | false=>
    go_enter func168,ntmps168;go_wp2_with (first | (go_at_call 205;refine(Cg _ _ _).mono ?_;rintro e w' ⟨rfl,rfl⟩) | (go_at_call 206;refine(Dp _ _ _).mono ?_;rintro e w' ⟨rfl,rfl⟩));go_ret;exact⟨by rw[HB.out];simp[h1,h2,h3],HG.out⟩
   | true=>
    cases h4:JV f.C 256 with
    | false=>
     go_enter func168,ntmps168;go_wp2_with (first | (go_at_call 205;refine(Cg _ _ _).mono ?_;rintro e w' ⟨rfl,rfl⟩) | (go_at_call 206;refine(Dp _ _ _).mono ?_;rintro e w' ⟨rfl,rfl⟩));go_ret;exact⟨by rw[HB.out];simp[h1,h2,h3,h4],HG.out⟩
    | true=>
     go_enter func168,ntmps168;go_wp2_with (first | (go_at_call 205;refine(Cg _ _ _).mono ?_;rintro e w' ⟨rfl,rfl⟩) | (go_at_call 206;refine(Dp _ _ _).mono ?_;rintro e w' ⟨rfl,rfl⟩));go_ret;exact⟨by rw[HB.out];simp[h1,h2,h3,h4],HG.out⟩
theorem CF(f:Bc)(w:Wd):Calls prog 123 #[.agg (fA f)] w fun e w'=>e=.returned (.bool (snd f))/\Chg No w w':=by
 obtain⟨c0,c1,c2,c3,c4,c5⟩:=(Fo.new w f).cells;have HG:Hid (Chg No w (w.alloc (.cells (fA f) 149))):=(Chg.refl _ w).alloc _;by_cases h0:0<=f.P
 case neg=>
  have HN:Hid (snd f=false):=Fh om;go_enter func123,ntmps123;go_wp2;go_ret;exact⟨by rw[HN.out];rfl,HG.out⟩
 by_cases h1:f.P<=95
 case neg=>
  have HN:Hid (snd f=false):=Fh om;go_enter func123,ntmps123;go_wp2;go_ret;exact⟨by rw[HN.out];rfl,HG.out⟩
 by_cases h2:0<=f.O
 case neg=>
  have HN:Hid (snd f=false):=Fh om;go_enter func123,ntmps123;go_wp2;go_ret;exact⟨by rw[HN.out];rfl,HG.out⟩
 by_cases h3:f.O<=24
 case neg=>
  have HN:Hid (snd f=false):=Fh om;go_enter func123,ntmps123;go_wp2;go_ret;exact⟨by rw[HN.out];rfl,HG.out⟩
 by_cases h4:0<=f.S
 case neg=>
  have HN:Hid (snd f=false):=Fh om;go_enter func123,ntmps123;go_wp2;go_ret;exact⟨by rw[HN.out];rfl,HG.out⟩
 by_cases h5:f.S<=1099511627775
 case neg=>
  have HN:Hid (snd f=false):=Fh om;go_enter func123,ntmps123;go_wp2;go_ret;exact⟨by rw[HN.out];rfl,HG.out⟩
 by_cases h6:0<=f.C
 case neg=>
  have HN:Hid (snd f=false):=Fh om;go_enter func123,ntmps123;go_wp2;go_ret;exact⟨by rw[HN.out];rfl,HG.out⟩
 by_cases h7:f.C<=255
 case neg=>
  have HN:Hid (snd f=false):=Fh om;go_enter func123,ntmps123;go_wp2;go_ret;exact⟨by rw[HN.out];rfl,HG.out⟩
 have HN:Hid (snd f=true):=(Cv f).2 om;go_enter func123,ntmps123;go_wp2;go_ret;exact⟨by rw[HN.out];rfl,HG.out⟩
theorem SD(a b:Int)(h1:0<=a)(h2:a<256)(h3:0<=b)(h4:b<256):(b - a+256).tmod 256=(b - a) % 256:=by
 rw[Av om];omega
theorem kP(a b:Int)(w:Wd):Calls prog 208 #[.int .i64 a,.int .i64 b] w fun e w'=>e=.returned (.bool (Gp a b))/\w'=w:=by
 cases h1:JV a 256 with
 | false=>
  have HN:Hid (Gp a b=false):=Im (by have:=Ly h1;omega);go_enter func208,ntmps208;go_wp2_with (go_at_call 205;refine(Cg _ _ _).mono ?_;rintro e w' ⟨rfl,rfl⟩);go_ret;exact⟨by rw[HN.out];rfl,rfl⟩
 | true=>
 cases h2:JV b 256 with
 | false=>
  have HN:Hid (Gp a b=false):=Im (by have:=Ly h2;omega);go_enter func208,ntmps208;go_wp2_with (go_at_call 205;refine(Cg _ _ _).mono ?_;rintro e w' ⟨rfl,rfl⟩);go_ret;exact⟨by rw[HN.out];rfl,rfl⟩
 | true=>
 obtain⟨a1,a2⟩:=Ot h1;obtain⟨b1,b2⟩:=Ot h2;have hr:=SD a b a1 a2 b1 b2;have hi:=Mu a b;obtain⟨r,hrr⟩:∃r,(b - a) % 256=r:=⟨_,rfl⟩;have r1:0<=r:=om
 have r2:r<256:=om
 rw[hrr] at hr hi;have HI:=BE hi;clear hi hrr;by_cases c1:1<=r
 ·by_cases c2:r<=127
  ·have c3:decide (r<128)=true:=AO om;go_enter func208,ntmps208;go_wp2_with (go_at_call 205;refine(Cg _ _ _).mono ?_;rintro e w' ⟨rfl,rfl⟩);go_ret;exact⟨by rw[HI.out.2 ⟨a1,a2,b1,b2,c1,c2⟩];rfl,rfl⟩
  ·have c3:decide (r<128)=false:=AN om;have HN:Hid (Gp a b=false):=(by show _=_;rw[<-Bool.not_eq_true,HI.out];omega);go_enter func208,ntmps208;go_wp2_with (go_at_call 205;refine(Cg _ _ _).mono ?_;rintro e w' ⟨rfl,rfl⟩);go_ret;exact⟨by rw[HN.out];rfl,rfl⟩
 ·have HN:Hid (Gp a b=false):=by show _=_;rw[<-Bool.not_eq_true,HI.out];omega
  go_enter func208,ntmps208;go_wp2_with (go_at_call 205;refine(Cg _ _ _).mono ?_;rintro e w' ⟨rfl,rfl⟩);go_ret;exact⟨by rw[HN.out];rfl,rfl⟩
theorem Kl(a b:Int)(w:Wd):Calls prog 125 #[.int .i64 a,.int .i64 b] w fun e w'=>e=.returned (.bool (Gp a b))/\w'=w:=by
 by_cases a1:0<=a
 case neg=>
  have HN:Hid (Gp a b=false):=Im om;go_enter func125,ntmps125;go_wp2;go_ret;exact⟨by rw[HN.out];rfl,rfl⟩
 by_cases a2:a<256
 case neg=>
  have HN:Hid (Gp a b=false):=Im om;go_enter func125,ntmps125;go_wp2;go_ret;exact⟨by rw[HN.out];rfl,rfl⟩
 by_cases b1:0<=b
 case neg=>
  have HN:Hid (Gp a b=false):=Im om;go_enter func125,ntmps125;go_wp2;go_ret;exact⟨by rw[HN.out];rfl,rfl⟩
 by_cases b2:b<256
 case neg=>
  have HN:Hid (Gp a b=false):=Im om;go_enter func125,ntmps125;go_wp2;go_ret;exact⟨by rw[HN.out];rfl,rfl⟩
 have hr:=SD a b a1 a2 b1 b2;have hi:=Mu a b;obtain⟨r,hrr⟩:∃r,(b - a) % 256=r:=⟨_,rfl⟩;have r1:0<=r:=om
 have r2:r<256:=om
 rw[hrr] at hr hi;have HI:=BE hi;clear hi hrr;by_cases c1:1<=r
 ·by_cases c2:r<=127
  ·have c3:decide (r<128)=true:=AO om;go_enter func125,ntmps125;go_wp2;go_ret;exact⟨by rw[HI.out.2 ⟨a1,a2,b1,b2,c1,c2⟩];rfl,rfl⟩
  ·have c3:decide (r<128)=false:=AN om;have HN:Hid (Gp a b=false):=(by show _=_;rw[<-Bool.not_eq_true,HI.out];omega);go_enter func125,ntmps125;go_wp2;go_ret;exact⟨by rw[HN.out];rfl,rfl⟩
 ·have HN:Hid (Gp a b=false):=by show _=_;rw[<-Bool.not_eq_true,HI.out];omega
  go_enter func125,ntmps125;go_wp2;go_ret;exact⟨by rw[HN.out];rfl,rfl⟩
end
section
variable (w:Wd)
def lD (a b:Int):Int:=if a≠0 then a else b
theorem mc(a b:Int)(g:Nat)(w:Wd)(h1:w.cell? ⟨g,0,none⟩=some (.int .i64 a))(h2:w.cell? ⟨g,1,none⟩=some (.int .i64 b)) :Calls prog 232 #[.slice (some ⟨g,0,none⟩) 2 2] w fun e w'=>e=.returned (.int .i64 (lD a b))/\w'=w:=by
 by_cases ha:a=0
 ·have HN:Hid (lD a b=b):=by show _=_;simp[lD,ha]
  subst ha;by_cases hb:b=0
  ·subst hb;go_enter func232,ntmps232;go_wp2;refine wp_loop_rounds 3 ?_;rw[rounds_succ];go_wp2;rw[rounds_succ];go_wp2;rw[rounds_succ];go_wp2;go_ret;exact⟨by rw[HN.out];rfl,rfl⟩
  ·have hb':(b != 0)=true:=(by simpa using hb);go_enter func232,ntmps232;go_wp2;refine wp_loop_rounds 2 ?_;rw[rounds_succ];go_wp2;rw[rounds_succ];go_wp2;go_ret;exact⟨by rw[HN.out];rfl,rfl⟩
 ·have HN:Hid (lD a b=a):=by show _=_;simp[lD,ha]
  have ha':(a != 0)=true:=by simpa using ha
  go_enter func232,ntmps232;go_wp2;refine wp_loop_rounds 1 ?_;rw[rounds_succ];go_wp2;go_ret;exact⟨by rw[HN.out];rfl,rfl⟩
theorem bi(fv:Value):Calls prog 271 #[.slice none 0 0,.int .i64 0,.int .i64 0,fv] w fun e w'=>e=.returned (.tuple #[])/\w'=w:=by
 go_enter func271,ntmps271;go_wp2;refine wp_loop_rounds 1 ?_;rw[rounds_succ];go_wp2;go_end0;exact⟨rfl,rfl⟩
theorem Qv(fv:Value):Calls prog 250 #[.slice none 0 0,.int .i64 0,fv] w fun e w'=>e=.returned (.tuple #[])/\w'=w:=by
 go_enter func250,ntmps250;go_wp2;refine wp_loop_rounds 1 ?_;rw[rounds_succ];go_wp2_with (go_at_call 271;refine(bi _ _).mono ?_;rintro e w' ⟨rfl,rfl⟩);refine wp_loop_rounds 1 ?_;rw[rounds_succ];go_wp2;go_end0;exact⟨rfl,rfl⟩
theorem XA(fv:Value):Calls prog 230 #[.slice none 0 0,fv] w fun e w'=>e=.returned (.tuple #[])/\w'=w:=by
 go_enter func230,ntmps230;go_wp2_with (go_at_call 250;refine(Qv _ _).mono ?_;rintro e w' ⟨rfl,rfl⟩);go_end0;exact⟨rfl,rfl⟩
end
section
variable {f:Bc}
theorem CY{p:Bc->Bool}{l:List Bc}{i:Nat}(h:l[i]?=some f):(l.take (i+1)).filter p=(l.take i).filter p ++ (if p f then [f] else []):=by
 rw[take_add_one,h,filter_append];congr 1;by_cases e:p f <;> simp[e]
theorem DF{ops:Array Oper}{rest:List Oper}{o:Oper}{a:Act}{w:Wd}{Q:Exit->Act->World->Prop}(hgd:o.guard=none)(x:Operand)(ho:o.op=.buildSlice 70 1 #[(0,x)])(hx:a.eval x=.agg (fA f))(N:Nat)(hN:w.heap.size=N)(h:∀w',Fo w' N f->Chg No w w'->wpList prog ops Q rest (a.put o.dst (.slice (some ⟨N,0,none⟩) 1 1)) w'):wpList prog ops Q (o :: rest) a w:=by
 refine wpList_plain hgd fun K hK=>?_;have hr:(Instr.buildSlice 70 1 #[(0,.agg (fA f))]).run prog w=.ok (.slice (some ⟨w.heap.size,0,none⟩) 1 1) (w.alloc (.cells (fA f) 149)):=by
  unfold fA fL;simp[Instr.buildSlice];go_simp
 unfold Oper.wp;simp[execOp,ho,hx,hr];rw[hN];exact hK _ _ (h _ (by rw[<-hN];exact Fo.new w f) ((Chg.refl _ w).alloc _))
end
section
variable {f:Bc}{w:Wd}{g i:Nat}
theorem Gr{fn:Func}{q u:Tmp}(h:fn.results=#[.cell q 149,.tmp u])(tmps:Array Value)(hp:tmps.getD q undef=.pointer (some ⟨g,0,none⟩))(hT:Fo w g f) :(results fn tmps).run prog w=.ok (.tuple #[.agg (fA f),tmps.getD u undef]) w:=by
 rw[results_cell_tmp h,hp];simp[asAddr,run_loadVar_row w g 149 149 _ _ _ hT underlying149 rfl Ms]
def XB:Option Bc->Value
 | none=>.tuple #[.agg (fA f0),.bool false]
 | some f=>.tuple #[.agg (fA f),.bool true]
def lE (w:Wd) (l:List Bc) (of ab:Int) (e:Ending) (w':Wd):Prop:=e=.returned (XB (newest l of ab))/\Chg No w w'
theorem LZ.fields{o:Nat}{l:List Bc}(h:LZ w g o l)(hi:l[i]?=some f) :w.cell? ⟨g,o+i*6,none⟩=some (.int .i64 f.P)/\w.cell? ⟨g,o+i*6+2,none⟩=some (.int .i64 f.O)/\w.cell? ⟨g,o+i*6+3,none⟩=some (.int .i64 f.S)/\w.cell? ⟨g,o+i*6+4,none⟩=some (.int .i64 f.C):=by
 have r:=h.2 i f hi;exact⟨r 0 _ rfl,r 2 _ rfl,r 3 _ rfl,r 4 _ rfl⟩
theorem UI{x:Bc}{r:List Bc}(h:r[i]?=some f):best x (r.take (i+1))=if Gp f.C (best x (r.take i)).C then f else best x (r.take i):=by
 unfold best;rw[take_add_one,h,foldl_append];rfl
theorem Qw(l:List Bc)(of ab:Int):(lat l of ab).length<=l.length:=by
 have h:=LY nO (l.filter (cnd of ab)).toArray 0 (l.filter (cnd of ab)).toArray.size (Ac _) (AM _);rw[<-Qu l of ab _ ⟨h.1,h.2⟩];refine AY (takeWhile_sublist _).length_le ?_;have:=h.1.size;rw[Array.length_toList,this];simpa using length_filter_le _ _
end
def byN (n:Nat) (l:List Bc):List Bc:=(List.range n).flatMap fun (p:Nat)=>l.filter fun f=>decide (f.P=(p:Int))
theorem bj(l:List Bc):byN 96 l=Jp l:=rfl
theorem Km(n:Nat)(l:List Bc):byN (n+1) l=byN n l ++ l.filter fun f=>decide (f.P=(n:Int)):=by
 unfold byN;rw[range_succ,flatMap_append];simp
theorem Mv(n:Nat)(l:List Bc):(l.filter fun f=>decide (0<=f.P) && decide (f.P<(n:Int))).length+(l.filter fun f=>decide (f.P=(n:Int))).length=(l.filter fun f=>decide (0<=f.P) && decide (f.P<((n+1:Nat):Int))).length:=by
 induction l with
 | nil=>rfl
 | cons x r ih=>
  rw[filter_cons,filter_cons,filter_cons];by_cases h1:0<=x.P/\x.P<(n:Int)
  ·rw[AJ (by simpa using h1),AI (by simp;omega),AJ (by simp;omega),An,An];omega
  ·rw[AI (by simpa using h1)];by_cases h2:x.P=(n:Int)
   ·rw[AJ (by simpa using h2),AJ (by simp;omega),An,An];omega
   ·rw[AI (by simpa using h2),AI (by simp;omega)];exact ih
theorem Qx(l:List Bc):∀n,(byN n l).length=(l.filter fun f=>decide (0<=f.P) && decide (f.P<(n:Int))).length:=by
 intro n
 induction n with
 | zero=>
  rw[filter_eq_nil_iff.2]
  ·rfl
  ·intro a _;simp
 | succ n ih=>rw[Km,AV,ih,Mv]
theorem gx(n:Nat)(l:List Bc):(byN n l).length<=l.length:=by rw[Qx];exact length_filter_le _ _
def me (w:Wd) (l:List Bc) (e:Ending) (w':Wd):Prop:=∃v',e=.returned v'/\Sl w' v' (Jp l)/\Chg No w w'
theorem Ou(w:Wd)(a:Option Addr)(cap:Nat)(l:List Bc)(n:Nat)(hnl:n=l.length)(hs:Sl w (.slice a n cap) l)(hn:n<2932031007402) :Calls prog 124 #[.slice a n cap] w (me w l):=by
 have HS:=BE hs;have HN:=BE hnl;clear hs hnl;go_enter func124,ntmps124;go_wp2
 go_loopg [3,4] 96 (fun kx s3 s4 wr=>∃p:Nat,s4=.int .i64 p/\p<=96/\96 - p<=kx/\Hid (Ow wr w.heap.size s3 (byN p l))/\Hid (Chg No w wr))
 case atStart=>exact⟨0,rfl,om,om,Ow.nil w _,Chg.refl _ w⟩
 case round=>
 obtain⟨p,rfl,hp,hkx,HO,HG⟩:=hrel;by_cases hlt:p<96
 ·have hltz:(p:Int)<96:=om
  go_wp2
  go_loopg [3,5] n (fun kx s3 s5 wr=>∃i:Nat,s5=.int .i64 i/\i<=n/\n - i<=kx/\Hid (Ow wr w.heap.size s3 (byN p l ++ (l.take i).filter fun f=>decide (f.P=(p:Int))))/\Hid (Chg No w wr))
  case atStart=>exact⟨0,rfl,om,om,by simpa using HO,HG⟩
  case round=>
  clear HO HG;obtain⟨i,rfl,hin,hkx2,HO,HG⟩:=hrel;by_cases hi:i<n
  ·have hiz:(i:Int)<(n:Int):=om;obtain⟨f,hf⟩:∃f,l[i]?=some f:=⟨_,AU (by rw[<-HN.out];exact hi)⟩;have HF:=BE hf;obtain⟨g,o,ha,hA⟩:∃g o,a=some ⟨g,o,none⟩/\LZ w g o l:=by
    obtain⟨a',c',e,_,h⟩:=HS.out;simp only[Value.slice.injEq] at e;obtain⟨rfl,-,-⟩:=e;rcases h with h | ⟨g,o,rfl,hA⟩
    ·have:=HN.out;omega
    ·exact⟨g,o,rfl,hA⟩
   subst ha;have hA2:=hA.chg HG.out (fun h=>h);obtain⟨c0,-,-,-⟩:=hA2.fields hf;have HR:=BE (hA2.2 i f hf);clear hf hA hA2;have HT:=BE (CY (p:=fun f=>decide (f.P=(p:Int))) HF.out);by_cases hc:f.P=(p:Int)
   ·have hcb:(f.P == (p:Int))=true:=(by simpa using hc);have HC:=BE hc;have hle:(byN p l ++ (l.take i).filter fun f=>decide (f.P=(p:Int))).length+1<=2932031007402:=by
     have h1:=gx (p+1) l;rw[Km,AV] at h1;have h2:((l.take i).filter fun f=>decide (f.P=(p:Int))).length<=(l.filter fun f=>decide (f.P=(p:Int))).length:=((take_sublist i l).filter _).length_le;have h3:=HN.out;rw[AV];omega
    clear hc;go_wp2_with (first | (refine BL (f:=f) rfl (.tmp 26) rfl g (o+i*6) rfl ?_ ?_;exact HR.out) | (refine DF (f:=f) rfl (.tmp 27) rfl rfl wr.heap.size rfl ?_));intro w4 K4 G4;have HO4:=BE (HO.out.new G4);have HG4:=BE (HG.out.trans G4);have HA4:=BE (LZ.one K4);have hb4:w.heap.size<=w4.heap.size:=HG4.out.size;clear K4 G4;go_wp2_with (refine CX w4 rfl (.tmp 23) (.tmp 28) rfl w.heap.size u3 _ rfl HO4.out wr.heap.size 0 1 1 [f] rfl rfl HA4.out hle hb4 ?_);intro v' w5 O5 G5;have HO5:=BE O5;have HG5:Hid (Chg No w w5):=BE (HG4.out.trans' G5 fun k hk h=>by
     have:=HO4.out.block h
     omega)
    clear O5 G5;go_wp2
    go_roundg (n - (i+1))
    case measure=>omega
    case rel=>
     refine⟨i+1,by simp,om,AM _,?_,HG5.out⟩;show Ow _ _ _ _;rw[HT.out,HC.out,<-Aq];simpa using HO5.out
   ·have hcb:(f.P == (p:Int))=false:=(by simpa using hc);go_wp2
    go_roundg (n - (i+1))
    case measure=>omega
    case rel=>
     refine⟨i+1,by simp,om,AM _,?_,HG.out⟩;show Ow _ _ _ _;rw[HT.out];simpa[hc] using HO.out
  ·have hiz:¬ (i:Int)<(n:Int):=om;go_wp2
   go_roundg (96 - (p+1))
   case measure=>omega
   case rel=>
    refine⟨p+1,by simp,om,AM _,?_,HG.out⟩;show Ow _ _ _ _;have:=HO.out;rw[show i=l.length by have:=HN.out;omega,take_length,<-Km] at this;exact this
 ·have hltz:¬ (p:Int)<96:=om
  go_wp2;go_ret;refine⟨_,rfl,?_,HG.out⟩;have:=HO.out.sl;rw[show p=96 by omega,bj] at this;exact this
section
variable {l:List Bc}{of ab:Int}
def s2 (of t:Int) (f:Bc):Bool:=snd f && decide (f.O=of) && decide (f.S=t)
theorem MS(l:List Bc)(f:Bc):mx (l ++ [f])=if mx l<f.S then f.S else mx l:=by
 unfold mx;rw[foldl_append];rfl
theorem XC(h:l.filter (cnd of ab)≠[]):0<=mx (l.filter (cnd of ab))/\ab<mx (l.filter (cnd of ab)):=by
 have h0:∀f ∈ l.filter (cnd of ab),0<=f.S:=fun f hf=>((Cv f).1 (Jq (mem_filter.1 hf).2).1).2.2.2.2.1;obtain⟨f,hf,e⟩:=Qt h h0;have h1:=Jq (mem_filter.1 hf).2;exact⟨by rw[<-e];exact h0 f hf,by rw[<-e];exact h1.2.2⟩
theorem gy(h:l.filter (cnd of ab)≠[]):UH l of ab=l.filter (s2 of (mx (l.filter (cnd of ab)))):=by
 have hp:=(XC h).2;unfold UH;generalize mx (l.filter (cnd of ab))=t at hp ⊢;rw[filter_filter];congr 1;funext f;rw[Bool.eq_iff_iff];simp only[cnd,s2,Ao,Al];constructor
 ·rintro ⟨h1,h2,h3⟩;exact⟨h2,h1⟩
 ·rintro ⟨h1,h2⟩;exact⟨h2,h1,om⟩
theorem g9(h:l.filter (cnd of ab)≠[]):lat l of ab≠[]:=by
 have h0:∀f ∈ l.filter (cnd of ab),snd f=true:=fun f hf=>(Jq (mem_filter.1 hf).2).1;obtain⟨f,hf,e⟩:=Qt h (fun f hf=>((Cv f).1 (h0 f hf)).2.2.2.2.1);have hp:=(Cv f).1 (h0 f hf);refine ne_nil_of_mem (a:=f) (H7.2 ⟨mem_filter.2 ⟨hf,by simpa using e⟩,hp.1,hp.2.1⟩)
theorem Sl.at6{w:Wd}{a:Option Addr}{n cap:Nat}(h:Sl w (.slice a n cap) l)(h0:l.length≠0):∃g o,a=some ⟨g,o,none⟩/\LZ w g o l:=by
 obtain⟨a',c',e,_,h⟩:=h;simp only[Value.slice.injEq] at e;obtain⟨rfl,-,-⟩:=e;rcases h with h | ⟨g,o,rfl,hA⟩
 ·omega
 ·exact⟨g,o,rfl,hA⟩
theorem UJ(w:Wd)(a:Option Addr)(cap:Nat)(l:List Bc)(n:Nat)(hnl:n=l.length)(hs:Sl w (.slice a n cap) l)(hn:n<2932031007402)(L:List Bc)(hL:Jp l=L)(m:Nat)(hm:L.length=m)(h0:m≠0) :Calls prog 124 #[.slice a n cap] w fun e w'=>∃g o cap',e=.returned (.slice (some ⟨g,o,none⟩) m cap')/\LZ w' g o L/\Chg No w w':=by
 refine(Ou w a cap l n hnl hs hn).mono ?_;rintro e w' ⟨v,rfl,⟨a',cap',rfl,_,h2⟩,h3⟩;rw[hL,hm] at h2;rw[hL,hm];rcases h2 with h2 | ⟨g,o,rfl,h2⟩
 ·exact absurd h2 h0
 ·exact⟨g,o,cap',rfl,h2,h3⟩
theorem Ov(w:Wd)(a:Option Addr)(cap:Nat)(l:List Bc)(n:Nat)(hnl:n=l.length)(of ab:Int)(hs:Sl w (.slice a n cap) l)(hn:n<2932031007402) :Calls prog 67 #[.slice a n cap,.int .i64 of,.int .i64 ab] w (lE w l of ab):=by
 have HS:=BE hs;have HN:=BE hnl;have HB:Hid (newest l of ab=pk (lat l of ab)):=rfl;clear hs hnl;go_enter func67,ntmps67;go_wp2_with (refine Bh rfl rfl w.heap.size rfl ?_);intro w1 K1 G1 S1;have HS1:=BE (HS.out.new G1);have HK1:=BE K1;have HG1:=BE G1;clear K1 G1 HS;go_wp2_with fail
 go_loopg [8,9] n (fun kx s8 s9 wr=>∃i:Nat,s9=.int .i64 i/\s8=.int .i64 (mx ((l.take i).filter (cnd of ab)))/\i<=n/\n - i<=kx/\Hid (Chg No w1 wr))
 case atStart=>exact⟨0,rfl,by simp[mx],om,om,Chg.refl _ _⟩
 case round=>
 obtain⟨i,rfl,rfl,hin,hkx,HGr⟩:=hrel;by_cases hlt:i<n
 ·have hltz:(i:Int)<(n:Int):=om
  obtain⟨f,hf⟩:∃f,l[i]?=some f:=⟨_,AU (by rw[<-HN.out];exact hlt)⟩;have HF:=BE hf;obtain⟨g,o,ha,hA⟩:=HS1.out.at6 (by rw[<-HN.out];omega);subst ha;have hA2:=hA.chg HGr.out (fun h=>h);have HR:=BE (hA2.2 i f hf);have HA2:=BE hA2;clear hf hA hA2;have HT:=BE (CY (p:=cnd of ab) HF.out);have HM:=BE (MS ((l.take i).filter (cnd of ab)) f);obtain⟨t,ht⟩:∃t,mx ((l.take i).filter (cnd of ab))=t:=⟨_,rfl⟩;rw[ht] at HM;rw[ht];have HTT:=BE ht;clear ht;cases hsn:snd f with
  | false=>
   have HC:Hid (cnd of ab f=false):=(by show _=_;simp[cnd,hsn]);go_wp2_with (first | (refine BL (f:=f) rfl (.tmp 25) rfl g (o+i*6) rfl ?_ ?_;exact HR.out) | (go_at_call 123;refine(CF f _).mono ?_;rintro e w3 ⟨rfl,G3⟩;have A3:=HA2.out.chg G3 (fun h=>h);obtain⟨-,k2,k3,-⟩:=A3.fields HF.out;have HG3:=BE (HGr.out.trans G3);clear A3 G3))
   go_roundg (n - (i+1))
   case measure=>omega
   case rel=>
    refine⟨i+1,by simp,?_,om,AM _,HG3.out⟩;rw[HT.out,HC.out];simp[HTT.out]
  | true=>
  by_cases hof:f.O=of
  case neg=>
   have HC:Hid (cnd of ab f=false):=(by show _=_;simp[cnd,hof]);have hofb:(f.O == of)=false:=(by simpa using hof);go_wp2_with (first | (refine BL (f:=f) rfl (.tmp 25) rfl g (o+i*6) rfl ?_ ?_;exact HR.out) | (go_at_call 123;refine(CF f _).mono ?_;rintro e w3 ⟨rfl,G3⟩;have A3:=HA2.out.chg G3 (fun h=>h);obtain⟨-,k2,k3,-⟩:=A3.fields HF.out;have HG3:=BE (HGr.out.trans G3);clear A3 G3))
   go_roundg (n - (i+1))
   case measure=>omega
   case rel=>
    refine⟨i+1,by simp,?_,om,AM _,HG3.out⟩;rw[HT.out,HC.out];simp[HTT.out]
  have hofb:(f.O == of)=true:=by simpa using hof
  by_cases hab:ab<f.S
  case neg=>
   have HC:Hid (cnd of ab f=false):=(by show _=_;simp[cnd,hab]);have habb:decide (ab<f.S)=false:=AN hab;clear hof;go_wp2_with (first | (refine BL (f:=f) rfl (.tmp 25) rfl g (o+i*6) rfl ?_ ?_;exact HR.out) | (go_at_call 123;refine(CF f _).mono ?_;rintro e w3 ⟨rfl,G3⟩;have A3:=HA2.out.chg G3 (fun h=>h);obtain⟨-,k2,k3,-⟩:=A3.fields HF.out;have HG3:=BE (HGr.out.trans G3);clear A3 G3))
   go_roundg (n - (i+1))
   case measure=>omega
   case rel=>
    refine⟨i+1,by simp,?_,om,AM _,HG3.out⟩;rw[HT.out,HC.out];simp[HTT.out]
  have HC:Hid (cnd of ab f=true):=by show _=_;simp[cnd,hsn,hof,hab]
  have habb:decide (ab<f.S)=true:=AO hab;clear hof;by_cases htt:t<f.S
  ·have htb:decide (t<f.S)=true:=AO htt;go_wp2_with (first | (refine BL (f:=f) rfl (.tmp 25) rfl g (o+i*6) rfl ?_ ?_;exact HR.out) | (go_at_call 123;refine(CF f _).mono ?_;rintro e w3 ⟨rfl,G3⟩;have A3:=HA2.out.chg G3 (fun h=>h);obtain⟨-,k2,k3,-⟩:=A3.fields HF.out;have HG3:=BE (HGr.out.trans G3);clear A3 G3))
   go_roundg (n - (i+1))
   case measure=>omega
   case rel=>
    refine⟨i+1,by simp,?_,om,AM _,HG3.out⟩;rw[HT.out,HC.out,AJ rfl,HM.out,AJ htt]
  ·have htb:decide (t<f.S)=false:=AN htt;go_wp2_with (first | (refine BL (f:=f) rfl (.tmp 25) rfl g (o+i*6) rfl ?_ ?_;exact HR.out) | (go_at_call 123;refine(CF f _).mono ?_;rintro e w3 ⟨rfl,G3⟩;have A3:=HA2.out.chg G3 (fun h=>h);obtain⟨-,k2,k3,-⟩:=A3.fields HF.out;have HG3:=BE (HGr.out.trans G3);clear A3 G3))
   go_roundg (n - (i+1))
   case measure=>omega
   case rel=>
    refine⟨i+1,by simp,?_,om,AM _,HG3.out⟩;rw[HT.out,HC.out,AJ rfl,HM.out,AI om]
 ·have hltz:¬ (i:Int)<(n:Int):=om
  rw[show i=l.length by have:=HN.out;omega,take_length];have HG2:=BE (HG1.out.trans HGr.out);have HK2:=BE (HK1.out.chg HGr.out (fun h=>h));have HS2:=BE (HS1.out.new HGr.out);have hs2:w.heap.size+1<=wr.heap.size:=by have:=HGr.out.size;omega
  have hltz:¬ ((l.length:Nat):Int)<(n:Int):=by have:=HN.out;omega
  clear HGr HG1 HK1 HS1;by_cases h0:l.filter (cnd of ab)=[]
  ·have HZ:Hid (lat l of ab=[]):=by
    show _=_;unfold lat UH;rw[h0];simp[Jp]
   rw[h0];have hm:mx [] = -1:=rfl;rw[hm];clear h0;go_wp2_with (first | refine wpList_build_fo rfl rfl ?_ | refine wpList_store_fo rfl (.tmp 6) (.tmp 67) rfl w.heap.size rfl rfl HK2.out ?_);intro w3 K3 G3;have HK3:=BE K3;have HG3:=BE (HG2.out.trans' G3 fun k hk h=>om);clear K3 G3;go_wp2;refine AZ (Gr rfl _ rfl HK3.out) rfl ?_;refine⟨?_,HG3.out⟩;rw[HB.out,HZ.out];rfl
  ·have hp:=XC h0;have HSE:=BE (gy h0);have HNE:=BE (g9 h0);obtain⟨t,ht⟩:∃t,mx (l.filter (cnd of ab))=t:=⟨_,rfl⟩;rw[ht] at HSE hp;rw[ht];obtain⟨hp1,hp2⟩:=hp;have hp3:¬ t<0:=om;have hp3b:decide (t<0)=false:=AN hp3;have HT0:=BE ht;clear ht h0;obtain⟨w2,rfl⟩:∃x,x=wr:=⟨_,rfl⟩;go_wp2_with fail
   go_loopg [11,12] n (fun kx s11 s12 wx=>∃i:Nat,s12=.int .i64 i/\i<=n/\n - i<=kx/\Hid (Ow wx w2.heap.size s11 ((l.take i).filter (s2 of t)))/\Hid (Chg No w2 wx))
   case atStart=>exact⟨0,rfl,om,om,Ow.nil _ _,Chg.refl _ _⟩
   case round=>
   obtain⟨i,rfl,hin,hkx,HO,HGr⟩:=hrel;by_cases hlt:i<n
   ·have hltz:(i:Int)<(n:Int):=om;obtain⟨f,hf⟩:∃f,l[i]?=some f:=⟨_,AU (by rw[<-HN.out];exact hlt)⟩;have HF:=BE hf;obtain⟨g,o,ha,hA⟩:=HS2.out.at6 (by rw[<-HN.out];omega);subst ha;have hA2:=hA.chg HGr.out (fun h=>h);have HR:=BE (hA2.2 i f hf);have HA2:=BE hA2;clear hf hA hA2;have HT:=BE (CY (p:=s2 of t) HF.out);cases hsn:snd f with
    | false=>
     have HC:Hid (s2 of t f=false):=(by show _=_;simp[s2,hsn]);go_wp2_with (first | (refine BL (f:=f) rfl (.tmp 76) rfl g (o+i*6) rfl ?_ ?_;exact HR.out) | (go_at_call 123;refine(CF f _).mono ?_;rintro e w3 ⟨rfl,G3⟩;have A3:=HA2.out.chg G3 (fun h=>h);obtain⟨-,k2,k3,-⟩:=A3.fields HF.out;have HG3:=BE (HGr.out.trans G3);have HO3:=BE (HO.out.new G3);clear A3 G3))
     go_roundg (n - (i+1))
     case measure=>omega
     case rel=>
      refine⟨i+1,by simp,om,AM _,?_,HG3.out⟩;show Ow _ _ _ _;rw[HT.out,HC.out];simpa using HO3.out
    | true=>
    by_cases hof:f.O=of
    case neg=>
     have HC:Hid (s2 of t f=false):=(by show _=_;simp[s2,hof]);have hofb:(f.O == of)=false:=(by simpa using hof);go_wp2_with (first | (refine BL (f:=f) rfl (.tmp 76) rfl g (o+i*6) rfl ?_ ?_;exact HR.out) | (go_at_call 123;refine(CF f _).mono ?_;rintro e w3 ⟨rfl,G3⟩;have A3:=HA2.out.chg G3 (fun h=>h);obtain⟨-,k2,k3,-⟩:=A3.fields HF.out;have HG3:=BE (HGr.out.trans G3);have HO3:=BE (HO.out.new G3);clear A3 G3))
     go_roundg (n - (i+1))
     case measure=>omega
     case rel=>
      refine⟨i+1,by simp,om,AM _,?_,HG3.out⟩;show Ow _ _ _ _;rw[HT.out,HC.out];simpa using HO3.out
    have hofb:(f.O == of)=true:=(by simpa using hof);by_cases hst:f.S=t
    case neg=>
     have HC:Hid (s2 of t f=false):=(by show _=_;simp[s2,hst]);have hstb:(f.S == t)=false:=(by simpa using hst);clear hof;go_wp2_with (first | (refine BL (f:=f) rfl (.tmp 76) rfl g (o+i*6) rfl ?_ ?_;exact HR.out) | (go_at_call 123;refine(CF f _).mono ?_;rintro e w3 ⟨rfl,G3⟩;have A3:=HA2.out.chg G3 (fun h=>h);obtain⟨-,k2,k3,-⟩:=A3.fields HF.out;have HG3:=BE (HGr.out.trans G3);have HO3:=BE (HO.out.new G3);clear A3 G3))
     go_roundg (n - (i+1))
     case measure=>omega
     case rel=>
      refine⟨i+1,by simp,om,AM _,?_,HG3.out⟩;show Ow _ _ _ _;rw[HT.out,HC.out];simpa using HO3.out
    have HC:Hid (s2 of t f=true):=(by show _=_;simp[s2,hsn,hof,hst]);have hstb:(f.S == t)=true:=(by simpa using hst);clear hof hst;have hle:((l.take i).filter (s2 of t)).length+1<=2932031007402:=by
     have:=AY (length_filter_le (s2 of t) (l.take i)) (by rw[length_take];exact Nat.min_le_left _ _);omega
    go_wp2_with (first | (refine BL (f:=f) rfl (.tmp 77) rfl g (o+i*6) rfl ?_ ?_;exact HR.out) | (refine BL (f:=f) rfl (.tmp 76) rfl g (o+i*6) rfl ?_ ?_;exact HR.out) | (go_at_call 123;refine(CF f _).mono ?_;rintro e w3 ⟨rfl,G3⟩;have A3:=HA2.out.chg G3 (fun h=>h);obtain⟨-,k2,k3,-⟩:=A3.fields HF.out;have HR3:=BE (A3.2 i f HF.out);have HG3:=BE (HGr.out.trans G3);have HO3:=BE (HO.out.new G3);clear A3 G3) | (refine BL (f:=f) rfl (.tmp 103) rfl g (o+i*6) rfl ?_ ?_;exact HR3.out) | (refine DF (f:=f) rfl (.tmp 104) rfl rfl w3.heap.size rfl ?_));intro w4 K4 G4;have HO4:=BE (HO3.out.new G4);have HG4:=BE (HG3.out.trans G4);have HA4:=BE (LZ.one K4);have hb4:w2.heap.size<=w4.heap.size:=HG4.out.size;clear K4 G4 HO3 HG3 HR3;go_wp2_with (refine CX w4 rfl (.tmp 100) (.tmp 105) rfl w2.heap.size u11 _ rfl HO4.out w3.heap.size 0 1 1 [f] rfl rfl HA4.out hle hb4 ?_);intro v' w5 O5 G5;have HO5:=BE O5;have HG5:Hid (Chg No w2 w5):=BE (HG4.out.trans' G5 fun k hk h=>by
     have:=HO4.out.block h
     omega)
    clear O5 G5;go_wp2
    go_roundg (n - (i+1))
    case measure=>omega
    case rel=>
     refine⟨i+1,by simp,om,AM _,?_,HG5.out⟩;show Ow _ _ _ _;rw[HT.out,HC.out];simpa using HO5.out
   ·have hltz:¬ (i:Int)<(n:Int):=om;have HSL:Hid (Sl wr u11 (UH l of ab)):=by
     have:=HO.out.sl;rw[show i=l.length by have:=HN.out;omega,take_length,<-HSE.out] at this;exact this
    have HG3:=BE (HG2.out.trans HGr.out);have HK3:=BE (HK2.out.chg HGr.out (fun h=>h));have hs3:w.heap.size+1<=wr.heap.size:=(by have:=HGr.out.size;omega);obtain⟨L,hL⟩:∃L,lat l of ab=L:=⟨_,rfl⟩;have hlen:=Qw l of ab;rw[hL] at HB HNE hlen;obtain⟨x,r,rfl⟩:=exists_cons_of_ne_nil HNE.out;obtain⟨k,hk⟩:∃k,r.length=k:=⟨_,rfl⟩;obtain⟨m,hm⟩:∃m,m=k+1:=⟨_,rfl⟩;have hkb:(m:Int)<=2932031007402:=(by have:=HN.out;rw[An,hk] at hlen;omega);have hm0:0<m:=om;obtain⟨a2,cap2,rfl,hcap2,hA0⟩:=HSL.out;have hsl:(UH l of ab).length<=n:=(by rw[HSE.out,HN.out];exact length_filter_le _ _);have c22:=UJ wr a2 cap2 (UH l of ab) _ rfl HSL.out om (x :: r) hL m (by rw[An,hk,hm]) om;have HKk:Hid (r.length+1=m):=(by show _=_;omega);clear hm hk hlen hL hA0 HSL HO HGr HNE HSE HK2 HG2 HS2;have h0z:(0:Int)<(m:Int):=om;go_wp2_with (first | (go_at_call 124;refine c22.mono ?_;rintro e w4 ⟨g,o,cap',rfl,hA4,G4⟩;have HA4:=BE hA4;have HG4:=BE (HG3.out.trans G4);have HK4:=BE (HK3.out.chg G4 (fun h=>h));have hs4:=G4.size;clear hA4 G4 c22) | (refine BL (f:=x) rfl (.tmp 110) rfl g o rfl ?_ ?_;exact HA4.out.2 0 x rfl) | (refine Bh rfl rfl w4.heap.size rfl ?_));intro w5 K5 G5 S5;have HK5:=BE K5;have hgs:g<w4.heap.size:=HA4.out.1;clear K5;go_wp2_with (refine wpList_store_fo rfl (.tmp 14) (.tmp 111) rfl w4.heap.size rfl rfl HK5.out ?_);intro w6 K6 G6;have G56:=G5.trans' G6 (fun k hk h=>om);have HG6:=BE (HG4.out.trans G56);have HA6:=BE (HA4.out.chg G56 (fun h=>h));have HR6:=BE (HK4.out.chg G56 (fun h=>h));have HK6:=BE K6;have hs6:w4.heap.size+1<=w6.heap.size:=(by have:=K6.lt;omega);clear K6 G6 G5 G56 HK5 S5 HA4 HG4 HK4 HG3 HK3;obtain⟨B,HBB⟩:∃B,Hid (B=w4.heap.size):=⟨_,rfl⟩;rw[<-HBB.out];rw[<-HBB.out] at HK6 hs6 hgs hs4;go_wp2_with fail
    go_loopg [15] m (fun kx s15 wx=>∃i:Nat,s15=.int .i64 i/\1<=i/\i<=m/\m - i<=kx/\Hid (Fo wx B (best x (r.take (i - 1))))/\Hid (Chg (·=B) w6 wx))
    case atStart=>exact⟨1,rfl,om,om,om,HK6.out,Chg.refl _ _⟩
    case round=>
    obtain⟨i,rfl,hi1,hik,hkx,HKr,HGr⟩:=hrel;have HBl:=BE HKr.out.lt;by_cases hlt:i<m
    ·have hltz:(i:Int)<(m:Int):=om;obtain⟨f,hf⟩:∃f,r[i - 1]?=some f:=⟨_,AU (by have:=HKk.out;omega)⟩;have HF:=BE hf;have hA7:=HA6.out.chg HGr.out om;have hf1:(x :: r)[i]?=some f:=by
      obtain⟨q,rfl⟩:∃q,i=q+1:=⟨i - 1,om⟩;simpa using hf
     have hR:=hA7.2 i f hf1;obtain⟨-,-,-,y4⟩:=hA7.fields hf1;have HR:=BE hR;obtain⟨-,-,-,-,z4,-⟩:=HKr.out.cells;clear hf hR hA7 hf1;have HT:=BE (UI (x:=x) HF.out);rw[show i - 1+1=i by omega] at HT;obtain⟨b,hb⟩:∃b,best x (r.take (i - 1))=b:=⟨_,rfl⟩;rw[hb] at z4 HT HKr;clear hb;cases ha:Gp f.C b.C with
     | true=>
      go_wp2_with fail
      go_region_held3 (fun wx=>wx.cell? ⟨g,o+i*6+4,none⟩=some (.int .i64 f.C)/\wx.cell? ⟨B,4,none⟩=some (.int .i64 b.C)) (first | exact⟨y4,z4⟩) (first | (go_at_call 125;refine(Kl _ _ _).mono ?_;rintro e w' ⟨rfl,rfl⟩))
      have HK8:=BE HKr.out.drew;have HR8:Hid (wr.drew.rangeAt g (o+i*6) (fL f)):=HR.out;go_wp2_with (first | (refine BL (f:=f) rfl (.tmp 131) rfl g (o+i*6) rfl ?_ ?_;exact HR8.out) | (refine wpList_store_fo (f':=b) rfl (.tmp 14) (.tmp 132) rfl B rfl rfl HK8.out ?_));intro w7 K7 G7;have HK7:=BE K7;have HG7:=BE (HGr.out.drew.trans G7);clear K7 G7;go_wp2
      go_roundg (m - (i+1))
      case measure=>omega
      case rel=>
       refine⟨i+1,by simp,om,om,AM _,?_,HG7.out⟩;show Fo _ _ _;rw[Nat.add_sub_cancel];rw[HT.out,AJ ha];exact HK7.out
     | false=>
      go_wp2_with fail
      go_region_held3 (fun wx=>wx.cell? ⟨g,o+i*6+4,none⟩=some (.int .i64 f.C)/\wx.cell? ⟨B,4,none⟩=some (.int .i64 b.C)) (first | exact⟨y4,z4⟩) (first | (go_at_call 125;refine(Kl _ _ _).mono ?_;rintro e w' ⟨rfl,rfl⟩))
      go_wp2
      go_roundg (m - (i+1))
      case measure=>omega
      case rel=>
       refine⟨i+1,by simp,om,om,AM _,?_,HGr.out.drew⟩;show Fo _ _ _;rw[Nat.add_sub_cancel];rw[HT.out,AI (by rw[ha];simp)];exact HKr.out
    ·have hltz:¬ (i:Int)<(m:Int):=om;have HR5:=BE (HR6.out.chg HGr.out om);go_wp2_with (first | (refine CW rfl (.tmp 14) rfl B rfl HKr.out ?_) | (refine wpList_store_fo rfl (.tmp 6) (.tmp 133) rfl w.heap.size rfl rfl HR5.out ?_));intro w9 K9 G9;have HK9:=BE K9;have HG9:=BE ((HG6.out.trans' HGr.out fun k hk h=>om).trans' G9 fun k hk h=>om);clear K9 G9;go_wp2;refine AZ (Gr rfl _ rfl HK9.out) rfl ?_;refine⟨?_,HG9.out⟩;rw[HB.out,show i - 1=r.length by have:=HKk.out;omega,take_length];rfl
end
def XD (a b:Int):Int:=if a<b then b else a
theorem XE(a b:Int):XD a b=max a b:=by unfold XD;split <;> omega
def flr (c:Bn):Nat->Int
 | 0=>if 0<c.N then c.N - 1 else -1
 | i+1=>XD (flr c i) (c.F i)
def tpl (t:Int) (l:List Bc):Int:=l.foldl (fun t f=>if snd f then XD t f.S else t) t
def mh (l:List Bc) (c:Bn):Int:=tpl (flr c 24) l
def mG (l:List Bc) (c:Bn):Int:=if 1099511627775<=mh l c then 1099511627775 else mh l c+1
theorem XF(t:Int){l:List Bc}{i:Nat}{f:Bc}(h:l[i]?=some f):tpl t (l.take (i+1))=if snd f then XD (tpl t (l.take i)) f.S else tpl t (l.take i):=by
 unfold tpl;rw[take_add_one,h,foldl_append];rfl
theorem XG(c:Bn):∀i,-1<=flr c i
 | 0=>by unfold flr;split <;> omega
 | i+1=>by
  have:=XG c i
  rw[flr];unfold XD;split <;> omega
theorem hJ(t:Int):∀(l:List Bc) ,t<=tpl t l/\∀f ∈ l,snd f=true->f.S<=tpl t l:=by
 intro l
 induction l generalizing t with
 | nil=>exact⟨Int.le_refl _,by simp⟩
 | cons x r ih=>
  have e:tpl t (x :: r)=tpl (if snd x then XD t x.S else t) r:=rfl;rw[e];obtain⟨h1,h2⟩:=ih (if snd x then XD t x.S else t);have g:t<=(if snd x then XD t x.S else t)/\(snd x=true->x.S<=(if snd x then XD t x.S else t)):=by
   cases hx:snd x
   ·simp
   ·simp only[if_true];unfold XD;constructor
    ·split <;> omega
    ·intro _;split <;> omega
  refine⟨om,fun f hf hs=>?_⟩;rcases mem_cons.1 hf with rfl | hf
  ·have:=g.2 hs;omega
  ·exact h2 f hf hs
structure lA (c:Bn):Prop where
 f:∀i,i<24->-9223372036854775808<=c.F i/\c.F i<=9223372036854775807
 n : -9223372036854775808<=c.N/\c.N<=9223372036854775807
theorem XH(w:Wd)(a:Option Addr)(cap:Nat)(l:List Bc)(n:Nat)(hnl:n=l.length)(hs:Sl w (.slice a n cap) l)(hn:n<2932031007402)(c:Bn)(hw:lA c) :Calls prog 118 #[.slice a n cap,.agg (ckA c)] w fun e w'=>e=.returned (.int .i64 (mG l c))/\Chg No w w':=by
 have HS:=BE hs;have HN:=BE hnl;have HW:=BE hw;have hN1:=hw.n.1;have hN2:=hw.n.2;have K0:=Ck.new w c;have HK:=BE K0;have HG0:Hid (Chg No w (w.alloc (.cells (ckA c) 55))):=(Chg.refl _ w).alloc _;have k24:=K0.N;have r0:=K0.partF;have HR0:=BE r0;have S32:Hid ((prog.info? 52).map (·.size)=some (ints c.F 24).length):=by show _=_;rw[BF];exact gu
 have hmax:max c.N 0 - 1=flr c 0:=by
  unfold flr;split <;> omega
 have HL:=BE HS.out;clear hs hnl hw K0 r0;go_enter func118,ntmps118;go_wp2_with (refine wpList_load_mid rfl 52 (.tmp 14) rfl w.heap.size 0 rfl _ _ HR0.out underlying52 rfl S32.out ?_);generalize w.alloc (.cells (ckA c) 55)=w1 at *
 clear hmax hN1 hN2 HR0 S32 k24 HK
 go_loopg [5,16] 24 (fun kx s5 s16 wr=>∃i:Nat,s16=.int .i64 i/\s5=.int .i64 (flr c i)/\i<=24/\24 - i<=kx/\wr=w1)
 case atStart=>exact⟨0,rfl,rfl,om,om,rfl⟩
 case round=>
 obtain⟨i,rfl,rfl,hin,hkx,rfl⟩:=hrel;by_cases hlt:i<24
 ·have hltz:(i:Int)<24:=om
  have hix:=bf c.F i hlt;have HT:Hid (flr c (i+1)=max (flr c i) (c.F i)):=by show _=_;rw[flr,XE]
  obtain⟨t,ht⟩:∃t,flr c i=t:=⟨_,rfl⟩;rw[ht] at HT;rw[ht];clear ht;go_wp2
  go_roundg (24 - (i+1))
  case measure=>omega
  case rel=>exact⟨i+1,by simp,by rw[HT.out],om,AM _,rfl⟩
 ·have hltz:¬ (i:Int)<24:=om
  rw[show i=24 by omega];have hltz:¬ ((24:Nat):Int)<24:=om
  have HS1:=BE (HS.out.new HG0.out);obtain⟨w2,rfl⟩:∃x,x=wr:=⟨_,rfl⟩;go_wp2
  go_loopg [5,25] n (fun kx s5 s25 wx=>∃i:Nat,s25=.int .i64 i/\s5=.int .i64 (tpl (flr c 24) (l.take i))/\i<=n/\n - i<=kx/\Hid (Chg No w2 wx))
  case atStart=>exact⟨0,rfl,by simp[tpl],om,om,Chg.refl _ _⟩
  case round=>
  obtain⟨i,rfl,rfl,hin,hkx,HGr⟩:=hrel;by_cases hlt:i<n
  ·have hltz:(i:Int)<(n:Int):=om;obtain⟨f,hf⟩:∃f,l[i]?=some f:=⟨_,AU (by rw[<-HN.out];exact hlt)⟩;have HF:=BE hf;obtain⟨g,o,ha,hA⟩:∃g o,a=some ⟨g,o,none⟩/\LZ w2 g o l:=by
    obtain⟨a',c',e,_,h⟩:=HS1.out;simp only[Value.slice.injEq] at e;obtain⟨rfl,-,-⟩:=e;rcases h with h | ⟨g,o,rfl,hA⟩
    ·have:=HN.out;omega
    ·exact⟨g,o,rfl,hA⟩
   subst ha;have HR:=BE ((hA.chg HGr.out (fun h=>h)).2 i f hf);have HT:=BE (XF (flr c 24) HF.out);obtain⟨t,ht⟩:∃t,tpl (flr c 24) (l.take i)=t:=⟨_,rfl⟩;rw[ht] at HT;rw[ht];clear hf hA ht;go_wp2_with (first | (refine BL (f:=f) rfl (.tmp 27) rfl g (o+i*6) rfl ?_ ?_;exact HR.out) | (refine Bh rfl rfl wr.heap.size rfl ?_));intro w3 K3 G3 S3;have HK3:=BE K3;clear K3;go_wp2_with (refine wpList_store_fo rfl (.tmp 9) (.tmp 28) rfl wr.heap.size rfl rfl HK3.out ?_);intro w4 K4 G4;have G34:=G3.trans' G4 (fun k hk h=>om);have HG4:=BE (HGr.out.trans G34);have HK4:=BE K4;clear K4 G4 G3 G34 HK3 S3 HR;cases hsn:snd f with
   | false=>
    go_wp2_with (first | (refine CW (f:=f) rfl (.tmp 9) rfl wr.heap.size rfl ?_ ?_;exact HK4.out) | (go_at_call 168;refine(Es f _).mono ?_;rintro e w5 ⟨rfl,G5⟩;have HG5:=BE (HG4.out.trans G5);clear G5))
    go_roundg (n - (i+1))
    case measure=>omega
    case rel=>
     refine⟨i+1,by simp,?_,om,AM _,HG5.out⟩;rw[HT.out,hsn];rfl
   | true=>
    go_wp2_with (first | (refine CW (f:=f) rfl (.tmp 9) rfl wr.heap.size rfl ?_ ?_;exact HK4.out) | (go_at_call 168;refine(Es f _).mono ?_;rintro e w5 ⟨rfl,G5⟩;have K5:=HK4.out.chg G5 (fun h=>h);obtain⟨-,-,-,k3,-,-⟩:=K5.cells;have HG5:=BE (HG4.out.trans G5);clear G5 K5))
    go_roundg (n - (i+1))
    case measure=>omega
    case rel=>
     refine⟨i+1,by simp,?_,om,AM _,HG5.out⟩;rw[HT.out,hsn,AJ rfl,XE]
  ·have hltz:¬ (i:Int)<(n:Int):=om;have HE:Hid (mG l c=min (tpl (flr c 24) (l.take i)) 1099511627774+1):=by
    show _=_;rw[show i=l.length by have:=HN.out;omega,take_length];unfold mG mh;split <;> omega
   have hge : -1<=tpl (flr c 24) (l.take i):=Int.le_trans (XG c 24) (hJ _ _).1;obtain⟨t,ht⟩:∃t,tpl (flr c 24) (l.take i)=t:=⟨_,rfl⟩;rw[ht] at HE hge;rw[ht];clear ht;have h1 : -1<=min t 1099511627774:=om;have h2:min t 1099511627774<=1099511627774:=om;go_wp2;go_ret;exact⟨by rw[HE.out];rfl,HG0.out.trans HGr.out⟩
section
variable {f:Bc}{b:Bool}
theorem Gs(w:Wd)(a:Option Addr)(cap:Nat)(l:List Bc)(n:Nat)(hnl:n=l.length)(of ab:Int)(hs:Sl w (.slice a n cap) l)(hn:n<2932031007402)(h:XB (newest l of ab)=.tuple #[.agg (fA f),.bool b]) :Calls prog 67 #[.slice a n cap,.int .i64 of,.int .i64 ab] w fun e w'=>e=.returned (.tuple #[.agg (fA f),.bool b])/\Chg No w w':=
 (Ov w a cap l n hnl of ab hs hn).mono fun _ _ ⟨h1,h2⟩=>⟨by rw[h1,h],h2⟩
end
section
variable {w:Wd}{b:Nat}{f F:Nat->Int}{ops:Array Oper}{rest:List Oper}{o:Oper}{a:Act}{Q:Exit->Act->World->Prop}
def gd (c:Bn) (f:Bc):Bool:=snd f && !c.B (f.P / 8).toNat
def flo (c:Bn) (of:Nat):Int:=if of=24 then -1 else c.F of
def lv (l:List Bc) (c:Bn) (of:Nat):Int:=match newest (l.filter (gd c)) of (flo c of) with
 | some f=>f.P
 | none=>-1
def A25 (w:Wd) (g:Nat) (F:Nat->Int):Prop:=w.heap[g]?=some (.cells (ints F 25).toArray 37)
theorem A25.lt(h:A25 w b f):b<w.heap.size:=(Array.getElem?_eq_some_iff.1 (show w.heap[b]?=some _ from h)).1
theorem A25.chg{S:Nat->Prop}{w':Wd}(h:A25 w b f)(hc:Chg S w w')(hb:¬ S b):A25 w' b f:=(hc.block b h.lt hb).trans h
theorem A25.set(h:A25 w b f)(i:Nat)(z:Int):A25 (w.setCell ⟨b,i,none⟩ (.int .i64 z)) b (upd f i z):=by
 have h':w.heap[b]?=some _:=h;show (w.setCell ⟨b,i,none⟩ _).heap[b]?=_;have e2:(ints f 25).toArray.setIfInBounds i (.int .i64 z)=(ints (upd f i z) 25).toArray:=by
  apply Array.ext';have:=Fd f 25 i z;simpa[i6] using this
 simp[World.setCell,Ai,h',e2]
theorem A25.cell(h:A25 w b f)(i:Nat)(hi:i<25):w.cell? ⟨b,i,none⟩=some (.int .i64 (f i))/\w.frozen? ⟨b,i,none⟩=false:=by
 have h':w.heap[b]?=some _:=h;refine⟨?_,by simp[World.frozen?,h']⟩;simp only[World.cell?,h'];simpa[i6] using BU f 25 i hi
theorem A25.congr{g:Nat->Int}(h:A25 w b f)(e:∀i,i<25->f i=g i):A25 w b g:=by
 unfold A25 at *
 rw[h,Df e]
theorem DQ(f:Nat->Int):(ints f 25).toArray.size=25:=by simp[BF]
theorem Kn:(prog.info? 37).map (·.size)=some 25:=kr
theorem iA(w:Wd):(zeroValue 37).run prog w=.ok (.agg (ints (fun _=>0) 25).toArray) w:=kr
theorem CL(hgd:o.guard=none)(ho:o.op=.alloc 37)(N:Nat)(hN:w.heap.size=N)(h:∀w',A25 w' N (fun _=>0)->Chg No w w'->w'.heap.size=N+1->wpList prog ops Q rest (a.put o.dst (.pointer (some ⟨N,0,none⟩))) w'):wpList prog ops Q (o :: rest) a w:=by
 refine wpList_plain hgd fun K hK=>?_;have hz:=iA;unfold Oper.wp;simp[execOp,ho,Instr.alloc,hz,newVar,Value.cells,newRow];rw[hN];refine hK _ _ (h _ ?_ ((Chg.refl _ w).alloc _) (by simp[hN]));rw[<-hN];show (w.heap.push _)[w.heap.size]?=_;simp
theorem Fi(hgd:o.guard=none)(x:Operand)(ho:o.op=.load 37 x)(g:Nat)(hx:a.eval x=.pointer (some ⟨g,0,none⟩))(hg:A25 w g F)(h:wpList prog ops Q rest (a.put o.dst (.agg (ints F 25).toArray)) w):wpList prog ops Q (o :: rest) a w:=
 wpList_load_row hgd 37 x ho g hx 37 _ _ _ hg underlying37 rfl (by rw[DQ];exact Kn) h
theorem DH(hgd:o.guard=none)(x y:Operand)(ho:o.op=.store 37 x y)(g:Nat)(hx:a.eval x=.pointer (some ⟨g,0,none⟩))(hy:a.eval y=.agg (ints F 25).toArray){F':Nat->Int}(hg:A25 w g F')(h:∀w',A25 w' g F->Chg (·=g) w w'->wpList prog ops Q rest (a.put o.dst undef) w'):wpList prog ops Q (o :: rest) a w:=
 wpList_store_row hgd 37 x y ho g _ hx hy 37 _ hg (by rw[DQ];exact Kn) (by rw[DQ,DQ]) (all_oneCell_toArray (Cf F 25)) (h _ (setRow_heap w g _ _ 37 _ hg) ⟨rfl,rfl,rfl,by simp,fun k _ hk=>setRow_other _ _ _ _ hk⟩)
theorem Ko{fn:Func}{q:Tmp}(h:fn.results=#[.cell q 37])(tmps:Array Value){g:Nat}(hp:tmps.getD q undef=.pointer (some ⟨g,0,none⟩))(hT:A25 w g F) :(results fn tmps).run prog w=.ok (.agg (ints F 25).toArray) w:=
 results_cell_row h tmps w g 37 _ _ _ hp hT underlying37 rfl (by rw[DQ];exact Kn)
theorem UK(c:Bn)(of:Nat)(ho:of<25)(w:Wd):Calls prog 211 #[.agg (ckA c),.int .i64 of] w fun e w'=>e=.returned (.int .i64 (flo c of))/\Chg No w w':=by
 have K0:=Ck.new w c;have HG0:Hid (Chg No w (w.alloc (.cells (ckA c) 55))):=(Chg.refl _ w).alloc _;by_cases h24:of=24
 ·subst h24;clear K0;go_enter func211,ntmps211;go_wp2;go_ret;exact⟨by simp[flo],HG0.out⟩
 ·have kF:=K0.F of om;have hz:(of:Int)<24:=om
  have hb:((of:Int) == 24)=false:=by simp only[beq_eq_false_iff_ne];omega
  have HF:Hid (flo c of=c.F of):=by show _=_;simp[flo,h24]
  clear K0;go_enter func211,ntmps211;go_wp2;go_ret;exact⟨by rw[HF.out];rfl,HG0.out⟩
def mi (w:Wd) (l:List Bc) (c:Bn) (e:Ending) (w':Wd):Prop:=∃v',e=.returned v'/\Sl w' v' (l.filter (gd c))/\Chg No w w'
theorem Ox(w:Wd)(a:Option Addr)(cap:Nat)(l:List Bc)(n:Nat)(hnl:n=l.length)(c:Bn)(hs:Sl w (.slice a n cap) l)(hn:n<2932031007402) :Calls prog 210 #[.slice a n cap,.agg (bools c.B 12).toArray] w (mi w l c):=by
 have HN:=BE hnl;have HB:=BE (Bo.new w c.B);have HG0:Hid (Chg No w (w.alloc (.cells (bools c.B 12).toArray 53))):=(Chg.refl _ w).alloc _;have HS:=BE (hs.new HG0.out);clear hs hnl;go_enter func210,ntmps210;go_wp2;generalize w.alloc (.cells (bools c.B 12).toArray 53)=w1 at *
 obtain⟨B,HBB⟩:∃B,Hid (B=w.heap.size):=⟨_,rfl⟩;rw[<-HBB.out] at HB;rw[<-HBB.out]
 go_loopg [5,10] n (fun kx s5 s10 wr=>∃i:Nat,s10=.int .i64 i/\i<=n/\n - i<=kx/\Hid (Ow wr w1.heap.size s5 ((l.take i).filter (gd c)))/\Hid (Chg No w1 wr))
 case atStart=>exact⟨0,rfl,om,om,Ow.nil _ _,Chg.refl _ _⟩
 case round=>
 obtain⟨i,rfl,hin,hkx,HO,HG⟩:=hrel;by_cases hlt:i<n
 ·have hltz:(i:Int)<(n:Int):=om
  obtain⟨f,hf⟩:∃f,l[i]?=some f:=⟨_,AU (by rw[<-HN.out];exact hlt)⟩;have HF:=BE hf;obtain⟨g,o,ha,hA⟩:=HS.out.at6 (by rw[<-HN.out];omega);subst ha;have HR:=BE ((hA.chg HG.out (fun h=>h)).2 i f hf);clear hf hA;have HT:=BE (CY (p:=gd c) HF.out);go_wp2_with (first | (refine BL (f:=f) rfl (.tmp 12) rfl g (o+i*6) rfl ?_ ?_;exact HR.out) | (refine Bh rfl rfl wr.heap.size rfl ?_));intro w2 K2 G2 S2;have HK2:=BE K2;clear K2;go_wp2_with (refine wpList_store_fo rfl (.tmp 7) (.tmp 13) rfl wr.heap.size rfl rfl HK2.out ?_);intro w3 K3 G3;have G23:=G2.trans' G3 (fun k hk h=>om);have HG3:=BE (HG.out.trans G23);have HK3:=BE K3;have HO3:=BE (HO.out.new G23);have HB3:=BE (HB.out.chg HG3.out (fun h=>h));clear K3 G3 G2 G23 HK2 S2 HR;cases hsn:snd f with
  | false=>
   have HC:Hid (gd c f=false):=(by show _=_;simp[gd,hsn]);go_wp2_with (first | (refine CW (f:=f) rfl (.tmp 7) rfl wr.heap.size rfl ?_ ?_;exact HK3.out) | (go_at_call 168;refine(Es f _).mono ?_;rintro e w4 ⟨rfl,G4⟩;have HG4:=BE (HG3.out.trans G4);have HO4:=BE (HO3.out.new G4);clear G4))
   go_roundg (n - (i+1))
   case measure=>omega
   case rel=>
    refine⟨i+1,by simp,om,AM _,?_,HG4.out⟩;show Ow _ _ _ _;rw[HT.out,HC.out];simpa using HO4.out
  | true=>
   have hP:=(Cv f).1 hsn;have hP0:=hP.1;have hP1:=hP.2.1;clear hP;obtain⟨q,hq⟩:∃q:Nat,f.P / 8=(q:Int):=⟨(f.P / 8).toNat,om⟩;have hqt:f.P.tdiv 8=(q:Int):=(by rw[Int.tdiv_eq_ediv_of_nonneg hP0];exact hq);have hql:q<12:=om;have hqz:(q:Int)<12:=om;have HGd:Hid (gd c f=!c.B q):=by
    show _=_;unfold gd;rw[hsn,hq];simp
   cases hbq:c.B q with
   | true=>
    rw[hbq] at HGd;go_wp2_with (first | (refine CW (f:=f) rfl (.tmp 7) rfl wr.heap.size rfl ?_ ?_;exact HK3.out) | (go_at_call 168;refine(Es f _).mono ?_;rintro e w4 ⟨rfl,G4⟩;have K4:=HK3.out.chg G4 (fun h=>h);obtain⟨k0,-,-,-,-,-⟩:=K4.cells;have kB:=((HB3.out.chg G4 (fun h=>h)).cell q hql).1;rw[hbq] at kB;have HG4:=BE (HG3.out.trans G4);have HO4:=BE (HO3.out.new G4);clear G4 K4))
    go_roundg (n - (i+1))
    case measure=>omega
    case rel=>
     refine⟨i+1,by simp,om,AM _,?_,HG4.out⟩;show Ow _ _ _ _;rw[HT.out,HGd.out];simpa using HO4.out
   | false=>
    rw[hbq] at HGd;have hle:((l.take i).filter (gd c)).length+1<=2932031007402:=by
     have:=AY (length_filter_le (gd c) (l.take i)) (by rw[length_take];exact Nat.min_le_left _ _);omega
    go_wp2_with (first | (refine CW (f:=f) rfl (.tmp 7) rfl wr.heap.size rfl ?_ ?_;first | exact HK3.out | exact HK4.out) | (go_at_call 168;refine(Es f _).mono ?_;rintro e w4 ⟨rfl,G4⟩;have K4:=HK3.out.chg G4 (fun h=>h);have HK4:=BE K4;obtain⟨k0,-,-,-,-,-⟩:=K4.cells;have kB:=((HB3.out.chg G4 (fun h=>h)).cell q hql).1;rw[hbq] at kB;have HG4:=BE (HG3.out.trans G4);have HO4:=BE (HO3.out.new G4);clear G4 K4) | (refine DF (f:=f) rfl (.tmp 25) rfl rfl w4.heap.size rfl ?_));intro w5 K5 G5;have HO5:=BE (HO4.out.new G5);have HG5:=BE (HG4.out.trans G5);have HA5:=BE (LZ.one K5);have hb5:w1.heap.size<=w5.heap.size:=HG5.out.size;clear K5 G5 HO4 HG4 HK4 k0 kB;go_wp2_with (refine CX w5 rfl (.tmp 24) (.tmp 26) rfl w1.heap.size u5 _ rfl HO5.out w4.heap.size 0 1 1 [f] rfl rfl HA5.out hle hb5 ?_);intro v' w6 O6 G6;have HO6:=BE O6;have HG6:Hid (Chg No w1 w6):=BE (HG5.out.trans' G6 fun k hk h=>by
     have:=HO5.out.block h
     omega)
    clear O6 G6;go_wp2
    go_roundg (n - (i+1))
    case measure=>omega
    case rel=>
     refine⟨i+1,by simp,om,AM _,?_,HG6.out⟩;show Ow _ _ _ _;rw[HT.out,HGd.out];simpa using HO6.out
 ·have hltz:¬ (i:Int)<(n:Int):=om
  go_wp2;go_ret;refine⟨_,rfl,?_,HG0.out.trans HG.out⟩;have:=HO.out.sl;rw[show i=l.length by have:=HN.out;omega,take_length] at this;exact this
end
section
variable {l:List Bc}{w:Wd}{a:Option Addr}{n cap i:Nat}{c:Bn}
theorem UL(w:Wd)(a:Option Addr)(cap:Nat)(l:List Bc)(n:Nat)(hnl:n=l.length)(c:Bn)(hs:Sl w (.slice a n cap) l)(hn:n<2932031007402)(m:Nat)(hm:(l.filter (gd c)).length=m) :Calls prog 210 #[.slice a n cap,.agg (bools c.B 12).toArray] w fun e w'=>∃a' cap',e=.returned (.slice a' m cap')/\Sl w' (.slice a' m cap') (l.filter (gd c))/\Chg No w w':=by
 refine(Ox w a cap l n hnl c hs hn).mono ?_;rintro e w' ⟨v,rfl,hS,h3⟩;obtain⟨a',cap',rfl,_⟩:=id hS;rw[hm] at hS;exact⟨a',cap',by rw[hm],hS,h3⟩
theorem Sl.apart(h:Sl w (.slice a n cap) l):l.length≠0->∀k,(Value.slice a n cap).ownBlock=some k->¬ k=w.heap.size:=by
 intro h0 k hk e;obtain⟨g,o,rfl,hA⟩:=h.at6 h0;have hk':g=k:=AR hk;have:=hA.1;omega
theorem Sl.chg{S:Nat->Prop}{w':Wd}(h:Sl w (.slice a n cap) l)(hc:Chg S w w')(hs:l.length≠0->∀k,(Value.slice a n cap).ownBlock=some k->¬ S k):Sl w' (.slice a n cap) l:=by
 obtain⟨a',cap',e,hcap,h⟩:=h;simp only[Value.slice.injEq] at e;obtain⟨rfl,rfl,rfl⟩:=e;refine⟨a,cap,rfl,hcap,?_⟩;rcases h with h | ⟨g,o,rfl,h⟩
 ·exact AK h
 ·by_cases h0:l.length=0
  ·exact AK h0
  ·exact AL ⟨g,o,rfl,h.chg hc (hs h0 g rfl)⟩
theorem SE(h:newest (l.filter (gd c)) i (flo c i)=none):lv l c i = -1:=by unfold lv;rw[h]
theorem bk{f:Bc}(h:newest (l.filter (gd c)) i (flo c i)=some f):lv l c i=f.P:=by unfold lv;rw[h]
end
end Go.Proofs.YtmdpnpjacfedpaaGreat.AE
namespace Go.Proofs.YtmdpnpjacfedpaaGreat.AE
open List
open Go.Proofs.Tryz
open Go.RowKit
open AA
theorem XI(w:Wd)(a:Option Addr)(cap:Nat)(of ab:Int):Calls prog 207 #[.slice a 0 cap,.int .i64 of,.int .i64 ab] w fun e w'=>e=.returned (.slice none 0 0)/\w'=w:=by
 go_enter func207,ntmps207;go_wp2;refine wp_loop_rounds 1 ?_;rw[rounds_succ];go_wp2_with (go_at_call 230;refine(XA _ _).mono ?_;rintro e w' ⟨rfl,rfl⟩);refine wp_loop_rounds 1 ?_;rw[rounds_succ];go_wp2;go_ret;exact⟨rfl,rfl⟩
theorem XJ(w:Wd)(a:Option Addr)(cap:Nat)(of ab:Int):Calls prog 169 #[.slice a 0 cap,.int .i64 of,.int .i64 ab] w (lE w [] of ab):=by
 go_enter func169,ntmps169;go_wp2_with (refine Bh rfl rfl w.heap.size rfl ?_);intro w1 K1 G1 S1;have HK1:=BE K1;have HG1:=BE G1;clear K1 G1 S1;go_wp2_with (first | (go_at_call 207;refine(XI _ a cap of ab).mono ?_;rintro e w2 ⟨rfl,rfl⟩) | (refine wpList_build_fo rfl rfl ?_) | (refine wpList_store_fo rfl (.tmp 6) (.tmp 19) rfl w.heap.size rfl rfl HK1.out ?_));intro w3 K3 G3;have HK3:=BE K3;have HG3:=BE (HG1.out.trans' G3 fun k hk h=>om);clear K3 G3;go_wp2;refine AZ (Gr rfl _ rfl HK3.out) rfl ?_;exact⟨rfl,HG3.out⟩
theorem Oy(w:Wd)(a:Option Addr)(cap:Nat)(of ab:Int):Calls prog 169 #[.slice a 0 cap,.int .i64 of,.int .i64 ab] w fun e w'=>e=.returned (.tuple #[.agg (fA f0),.bool false])/\Chg No w w':=XJ w a cap of ab
theorem iB(w:Wd)(c:Bn) :Calls prog 171 #[.slice none 0 0,.agg (ckA c)] w fun e w'=>e=.returned (.agg (ints (lv [] c) 25).toArray)/\Chg No w w':=by
 have hs:Sl w (.slice none 0 0) ([]:List Bc):=(Ow.nil w 0).sl;have K0:=Ck.new w c;have HK0:=BE K0;have HG0:Hid (Chg No w (w.alloc (.cells (ckA c) 55))):=(Chg.refl _ w).alloc _;have HS:=BE (hs.new HG0.out);have S33:Hid ((prog.info? 53).map (·.size)=some (bools c.B 12).length):=by show _=_;rw[BP];exact gw
 obtain⟨B,HBB⟩:∃B,Hid (B=w.heap.size):=⟨_,rfl⟩;clear hs K0;go_enter func171,ntmps171;go_wp2_with (refine CL rfl rfl (w.heap.size+1) (World.size_alloc _ _) ?_);intro w1 A1 G1 S1;have HK1:=BE (HK0.out.chg G1 (fun h=>h));have HS1:=BE (HS.out.new G1);have HG1:=BE (HG0.out.trans G1);have HA1:=BE A1;have HP1:=BE (HK1.out.partB);have c23:=UL w1 none 0 [] 0 rfl c HS1.out dc 0 rfl;clear A1 G1 HK0 HG0 HS;rw[<-HBB.out] at HK1 HA1 HP1 S1;rw[<-HBB.out];go_wp2_with (first | (refine wpList_load_mid rfl 53 (.tmp 11) rfl B 25 rfl _ _ HP1.out underlying53 rfl S33.out ?_) | (go_at_call 210;refine c23.mono ?_;rintro e w2 ⟨a',cap',rfl,hS2,G2⟩;have HS2:=BE hS2;have HSb0:=BE (hS2.apart);have HK2:=BE (HK1.out.chg G2 (fun h=>h));have HA2:=BE (HA1.out.chg G2 (fun h=>h));have HG2:=BE (HG1.out.trans G2);have hs2:=G2.size;clear G2 hS2 c23) | (refine CL rfl rfl w2.heap.size rfl ?_));intro w3 A3 G3 S3;have HK3:=BE (HK2.out.chg G3 (fun h=>h));have HA3:=BE (HA2.out.chg G3 (fun h=>h));have HS3:=BE (HS2.out.new G3);have HG3:=BE (HG2.out.trans G3);have HD3:=BE A3;clear A3 G3 HK1 HA1 HP1 HG1 HS1 HK2 HA2 HG2 HS2 S33;obtain⟨D,HDD⟩:∃D,Hid (D=w2.heap.size):=⟨_,rfl⟩;rw[<-HDD.out] at HD3 S3 hs2 HSb0;rw[<-HDD.out];have hDw:w.heap.size+2<=D:=by have:=HBB.out;omega
 have hBD:B+1<D:=by have:=HBB.out;omega
 have hDs:D<w3.heap.size:=om
 have HSb:Hid ((([]:List Bc).filter (gd c)).length≠0->∀k,(Value.slice a' 0 cap').ownBlock=some k->¬ k=D):=BE HSb0.out;have C24:Aside _:=fun (i:Nat) (h:i<25) (W:Wd)=>UK c i h W;go_wp2_with fail
 go_loopg [14] 25 (fun kx s14 wr=>∃(i:Nat) (F:Nat->Int),s14=.int .i64 i/\i<=25/\25 - i<=kx/\Hid (A25 wr D F)/\Hid (∀j,j<i->F j=lv [] c j)/\Hid (Chg (·=D) w3 wr))
 case atStart=>exact⟨0,fun _=>0,rfl,om,om,HD3.out,fun j hj=>absurd hj (Nat.not_lt_zero _),Chg.refl _ _⟩
 case round=>
 obtain⟨i,F,rfl,hin,hkx,HDr,HF,HGr⟩:=hrel;by_cases hlt:i<25
 ·have hltz:(i:Int)<25:=om
  obtain⟨d1,d2⟩:=HDr.out.cell i hlt;have HD1:=BE (HDr.out.set i (-1));have HG1:Hid (Chg (·=D) w3 (wr.setCell ⟨D,i,none⟩ (.int .i64 (-1)))):=BE (HGr.out.setCell (AK rfl) i _);have c24:=C24.out i hlt;have HKr:=BE (HK3.out.chg HG1.out om);have hsr:(wr.setCell ⟨D,i,none⟩ (.int .i64 (-1))).heap.size=wr.heap.size:=by simp[World.setCell]
  go_upto_region 7 with fail
  generalize wr.setCell ⟨D,i,none⟩ (.int .i64 (-1))=wa at *
  have ho:newest (([]:List Bc).filter (gd c)) i (flo c i)=none:=rfl;have HLv:=BE (SE ho);have C11:Aside _:=fun W=>Oy W a' cap' i (flo c i);go_wp2_with (first | (refine Ba rfl (.tmp 3) rfl B rfl HKr.out ?_) | (go_at_call 211;refine(c24 _).mono ?_;rintro e w4 ⟨rfl,G4⟩;have HG4:=BE (HG1.out.trans' G4 (fun _ _ h=>h.elim));have HD4:=BE (HD1.out.chg G4 (fun h=>h));have HS4:=BE ((HS3.out.chg HG4.out HSb.out));clear G4) | (go_at_call 169;refine(C11.out _).mono ?_;rintro e w5 ⟨rfl,G5⟩;have HG5:=BE (HG4.out.trans' G5 (fun _ _ h=>h.elim));have HD5:=BE (HD4.out.chg G5 (fun h=>h));clear G5) | (refine Bh rfl rfl w5.heap.size rfl ?_));intro w6 K6 G6 S6;have HK6:=BE K6;clear K6;go_wp2_with (refine wpList_store_fo rfl (.tmp 8) (.tmp 26) rfl w5.heap.size rfl rfl HK6.out ?_);intro w7 K7 G7;have hD5:=HD5.out.lt;have G67:=G6.trans' G7 (fun k hk h=>om);have HG7:=BE (HG5.out.trans' G67 (fun _ _ h=>h.elim));have HD7:=BE (HD5.out.chg G67 (fun h=>h));clear K7 G6 G7 G67 HK6 S6;go_wp2
  go_roundg (25 - (i+1))
  case measure=>omega
  case rel=>
   refine⟨i+1,_,by simp,om,AM _,HD7.out,fun j hj=>?_,HG7.out⟩;by_cases e:j=i
   ·subst e;simp[upd,HLv.out]
   ·simp[upd,e];exact HF.out j om
 ·have hltz:¬ (i:Int)<25:=om
  have HDl:=BE (HDr.out.congr (g:=lv [] c) (fun j hj=>HF.out j om));have HAr:=BE (HA3.out.chg HGr.out om);go_wp2_with (first | (refine Fi rfl (.tmp 6) rfl D rfl HDl.out ?_) | (refine DH rfl (.tmp 4) (.tmp 34) rfl (B+1) rfl rfl HAr.out ?_));intro w8 A8 G8;have HA8:=BE A8;have HG8:=BE ((HG3.out.trans' HGr.out fun k hk h=>om).trans' G8 fun k hk h=>by have:=HBB.out;omega);clear A8 G8;go_wp2;refine AZ (Ko rfl _ rfl HA8.out) rfl ?_;exact⟨rfl,HG8.out⟩
end Go.Proofs.YtmdpnpjacfedpaaGreat.AE
namespace Go.Proofs.YtmdpnpjacfedpaaGreat.AE
open List
open Go.Proofs.Tryz
open Go.RowKit
open AA
open Go.RowKit Go.Sort
theorem UM(w:Wd)(a:Option Addr)(cap:Nat)(l:List Bc)(n:Nat)(hnl:n=l.length)(c:Bn)(hs:Sl w (.slice a n cap) l)(hn:n<2932031007402) :Calls prog 88 #[.slice a n cap,.agg (ckA c)] w fun e w'=>e=.returned (.agg (ints (lv l c) 25).toArray)/\Chg No w w':=by
 have HN:=BE hnl;have K0:=Ck.new w c;have HK0:=BE K0;have HG0:Hid (Chg No w (w.alloc (.cells (ckA c) 55))):=(Chg.refl _ w).alloc _;have HS:=BE (hs.new HG0.out);obtain⟨m,hm⟩:∃m,(l.filter (gd c)).length=m:=⟨_,rfl⟩;have hmn:m<=n:=by rw[<-hm,hnl];exact length_filter_le _ _
 have HM:=BE hm;obtain⟨B,HBB⟩:∃B,Hid (B=w.heap.size):=⟨_,rfl⟩;clear hs hnl K0 hm;go_enter func88,ntmps88;go_wp2_with (refine CL rfl rfl (w.heap.size+1) (World.size_alloc _ _) ?_);intro w1 A1 G1 S1;have HK1:=BE (HK0.out.chg G1 (fun h=>h));have HS1:=BE (HS.out.new G1);have HG1:=BE (HG0.out.trans G1);have HA1:=BE A1;clear A1 G1 HK0 HG0 HS;rw[<-HBB.out] at HK1 HA1 S1;rw[<-HBB.out];have HSz:=BE S1;clear S1;go_wp2_with fail
 go_loopg [5,6] n (fun kx s5 s6 wr=>∃i:Nat,s6=.int .i64 i/\i<=n/\n - i<=kx/\Hid (Ow wr w1.heap.size s5 ((l.take i).filter (gd c)))/\Hid (Chg No w1 wr))
 case atStart=>exact⟨0,rfl,om,om,Ow.nil _ _,Chg.refl _ _⟩
 case round=>
 obtain⟨i,rfl,hin,hkx,HO,HGr⟩:=hrel;by_cases hlt:i<n
 ·have hltz:(i:Int)<(n:Int):=om
  obtain⟨f,hf⟩:∃f,l[i]?=some f:=⟨_,AU (by rw[<-HN.out];exact hlt)⟩;have HF:=BE hf;obtain⟨g,o,ha,hA⟩:=HS1.out.at6 (by rw[<-HN.out];omega);subst ha;have hA2:=hA.chg HGr.out (fun h=>h);have HR:=BE (hA2.2 i f hf);have HA2:=BE hA2;clear hf hA hA2;have HT:=BE (CY (p:=gd c) HF.out);cases hsn:snd f with
  | false=>
   have HC:Hid (gd c f=false):=(by show _=_;simp[gd,hsn]);go_wp2_with (first | (refine BL (f:=f) rfl (.tmp 21) rfl g (o+i*6) rfl ?_ ?_;exact HR.out) | (go_at_call 123;refine(CF f _).mono ?_;rintro e w3 ⟨rfl,G3⟩;have A3:=HA2.out.chg G3 (fun h=>h);have HG3:=BE (HGr.out.trans G3);have HO3:=BE (HO.out.new G3);clear A3 G3))
   go_roundg (n - (i+1))
   case measure=>omega
   case rel=>
    refine⟨i+1,by simp,om,AM _,?_,HG3.out⟩;show Ow _ _ _ _;rw[HT.out,HC.out];simpa using HO3.out
  | true=>
   have hP:=(Cv f).1 hsn;have hP0:=hP.1;have hP1:=hP.2.1;clear hP;obtain⟨q,hq⟩:∃q:Nat,f.P / 8=(q:Int):=⟨(f.P / 8).toNat,om⟩;have hqt:f.P.tdiv 8=(q:Int):=(by rw[Int.tdiv_eq_ediv_of_nonneg hP0];exact hq);have hql:q<12:=om;have hqz:(q:Int)<12:=om;have HGd:Hid (gd c f=!c.B q):=by
    show _=_;unfold gd;rw[hsn,hq];simp
   cases hbq:c.B q with
   | true=>
    rw[hbq] at HGd;go_wp2_with (first | (refine BL (f:=f) rfl (.tmp 21) rfl g (o+i*6) rfl ?_ ?_;exact HR.out) | (go_at_call 123;refine(CF f _).mono ?_;rintro e w3 ⟨rfl,G3⟩;have A3:=HA2.out.chg G3 (fun h=>h);obtain⟨k0,-,-,-⟩:=A3.fields HF.out;have kB:=(HK1.out.chg (HGr.out.trans G3) (fun h=>h)).B q hql;rw[hbq] at kB;have HG3:=BE (HGr.out.trans G3);have HO3:=BE (HO.out.new G3);clear A3 G3))
    go_roundg (n - (i+1))
    case measure=>omega
    case rel=>
     refine⟨i+1,by simp,om,AM _,?_,HG3.out⟩;show Ow _ _ _ _;rw[HT.out,HGd.out];simpa using HO3.out
   | false=>
    rw[hbq] at HGd;have hle:((l.take i).filter (gd c)).length+1<=2932031007402:=by
     have:=AY (length_filter_le (gd c) (l.take i)) (by rw[length_take];exact Nat.min_le_left _ _);omega
    go_wp2_with (first | (refine BL (f:=f) rfl (.tmp 21) rfl g (o+i*6) rfl ?_ ?_;exact HR.out) | (go_at_call 123;refine(CF f _).mono ?_;rintro e w3 ⟨rfl,G3⟩;have A3:=HA2.out.chg G3 (fun h=>h);obtain⟨k0,-,-,-⟩:=A3.fields HF.out;have kB:=(HK1.out.chg (HGr.out.trans G3) (fun h=>h)).B q hql;rw[hbq] at kB;have HR3:=BE (A3.2 i f HF.out);have HG3:=BE (HGr.out.trans G3);have HO3:=BE (HO.out.new G3);clear A3 G3) | (refine BL (f:=f) rfl (.tmp 40) rfl g (o+i*6) rfl ?_ ?_;exact HR3.out) | (refine DF (f:=f) rfl (.tmp 41) rfl rfl w3.heap.size rfl ?_));intro w5 K5 G5;have HO5:=BE (HO3.out.new G5);have HG5:=BE (HG3.out.trans G5);have HA5:=BE (LZ.one K5);have hb5:w1.heap.size<=w5.heap.size:=HG5.out.size;clear K5 G5 HO3 HG3 k0 kB;go_wp2_with (refine CX w5 rfl (.tmp 37) (.tmp 42) rfl w1.heap.size u5 _ rfl HO5.out w3.heap.size 0 1 1 [f] rfl rfl HA5.out hle hb5 ?_);intro v' w6 O6 G6;have HO6:=BE O6;have HG6:Hid (Chg No w1 w6):=BE (HG5.out.trans' G6 fun k hk h=>by
     have:=HO5.out.block h
     omega)
    clear O6 G6;go_wp2
    go_roundg (n - (i+1))
    case measure=>omega
    case rel=>
     refine⟨i+1,by simp,om,AM _,?_,HG6.out⟩;show Ow _ _ _ _;rw[HT.out,HGd.out];simpa using HO6.out
 ·have hltz:¬ (i:Int)<(n:Int):=om
  have hSl:Sl wr u5 (l.filter (gd c)):=by
   have:=HO.out.sl;rw[show i=l.length by have:=HN.out;omega,take_length] at this;exact this
  obtain⟨a',cap',e',-⟩:=id hSl;rw[HM.out] at e';subst e';have HSl:=BE hSl;have HSb0:=BE hSl.apart;have HK2:=BE (HK1.out.chg HGr.out (fun h=>h));have HA2:=BE (HA1.out.chg HGr.out (fun h=>h));have HG2:=BE (HG1.out.trans HGr.out);have hs2:=HGr.out.size;clear hSl HO HK1 HA1 HG1 HS1;obtain⟨w2,rfl⟩:∃x,x=wr:=⟨_,rfl⟩;clear HGr;go_wp2_with (refine CL rfl rfl w2.heap.size rfl ?_);intro w3 A3 G3 S3;have HK3:=BE (HK2.out.chg G3 (fun h=>h));have HA3:=BE (HA2.out.chg G3 (fun h=>h));have HS3:=BE (HSl.out.new G3);have HG3:=BE (HG2.out.trans G3);have HD3:=BE A3;clear A3 G3 HK2 HA2 HG2 HSl;obtain⟨D,HDD⟩:∃D,Hid (D=w2.heap.size):=⟨_,rfl⟩;rw[<-HDD.out] at HD3 S3 hs2 HSb0;rw[<-HDD.out];have hDw:w.heap.size+2<=D:=by have:=HBB.out;have:=HSz.out;omega
  have hBD:B+1<D:=by have:=HBB.out;have:=HSz.out;omega
  have hDs:D<w3.heap.size:=om
  go_wp2_with fail
  go_loopg [9] 25 (fun kx s14 wr=>∃(i:Nat) (F:Nat->Int),s14=.int .i64 i/\i<=25/\25 - i<=kx/\Hid (A25 wr D F)/\Hid (∀j,j<i->F j=lv l c j)/\Hid (Chg (·=D) w3 wr))
  case atStart=>exact⟨0,fun _=>0,rfl,om,om,HD3.out,fun j hj=>absurd hj (Nat.not_lt_zero _),Chg.refl _ _⟩
  case round=>
  obtain⟨i,F,rfl,hin,hkx,HDr,HF,HGr⟩:=hrel;by_cases hlt:i<25
  ·have hltz:(i:Int)<=24:=om;have hltz':(i:Int)<25:=om;obtain⟨d1,d2⟩:=HDr.out.cell i hlt;have HD1:=BE (HDr.out.set i (-1));have HG1:Hid (Chg (·=D) w3 (wr.setCell ⟨D,i,none⟩ (.int .i64 (-1)))):=BE (HGr.out.setCell (AK rfl) i _);have HSr:=BE (HS3.out.chg HG1.out HSb0.out);have HDD2:=BE HD1.out.lt
   go_upto_if 49 with fail
   go_cut [10] from 48 to 53 (fun s10 wx=>s10=.int .i64 (flo c i)/\wr=wx)
   case first=>
    by_cases h24:i<24
    ·have h24z:(i:Int)<24:=om;have kF:=(HK3.out.chg HGr.out om).F i h24;have HFl:Hid (flo c i=c.F i):=(by show _=_;unfold flo;rw[AI om]);go_wp2_with fail
     go_meet
     case rel=>exact⟨by rw[HFl.out],rfl⟩
    ·have h24z:¬ (i:Int)<24:=om;have HFl:Hid (flo c i = -1):=(by show _=_;unfold flo;rw[AJ om]);go_wp2_with fail
     go_meet
     case rel=>exact⟨by rw[HFl.out],rfl⟩
   case rest=>
   obtain⟨rfl,rfl⟩:=hcut
   go_upto_region 16 with fail
   generalize wr.setCell ⟨D,i,none⟩ (.int .i64 (-1))=wa at *
   clear d1 d2;cases ho:newest (l.filter (gd c)) i (flo c i) with
   | none=>
    have HLv:=BE (SE ho);have c12:=Gs wa a' cap' (l.filter (gd c)) m HM.out.symm i (flo c i) HSr.out om (f:=f0) (b:=false) (by rw[ho];rfl);go_wp2_with (first | (go_at_call 67;refine c12.mono ?_;rintro e w5 ⟨rfl,G5⟩;have HG5:=BE (HG1.out.trans' G5 (fun _ _ h=>h.elim));have HD5:=BE (HD1.out.chg G5 (fun h=>h));clear G5) | (refine Bh rfl rfl w5.heap.size rfl ?_));intro w6 K6 G6 S6;have HK6:=BE K6;clear K6;go_wp2_with (refine wpList_store_fo rfl (.tmp 11) (.tmp 61) rfl w5.heap.size rfl rfl HK6.out ?_);intro w7 K7 G7;have hD5:=HD5.out.lt;have G67:=G6.trans' G7 (fun k hk h=>om);have HG7:=BE (HG5.out.trans' G67 (fun _ _ h=>h.elim));have HD7:=BE (HD5.out.chg G67 (fun h=>h));clear K7 G6 G7 G67 HK6 S6;go_wp2
    go_roundg (25 - (i+1))
    case measure=>omega
    case rel=>
     refine⟨i+1,_,by simp,om,AM _,HD7.out,fun j hj=>?_,HG7.out⟩;by_cases e:j=i
     ·subst e;simp[upd,HLv.out]
     ·simp[upd,e];exact HF.out j om
   | some f=>
    have HLv:=BE (bk ho);have c12:=Gs wa a' cap' (l.filter (gd c)) m HM.out.symm i (flo c i) HSr.out om (f:=f) (b:=true) (by rw[ho];rfl);go_wp2_with (first | (go_at_call 67;refine c12.mono ?_;rintro e w5 ⟨rfl,G5⟩;have HG5:=BE (HG1.out.trans' G5 (fun _ _ h=>h.elim));have HD5:=BE (HD1.out.chg G5 (fun h=>h));clear G5) | (refine Bh rfl rfl w5.heap.size rfl ?_));intro w6 K6 G6 S6;have HK6:=BE K6;clear K6;go_wp2_with (refine wpList_store_fo rfl (.tmp 11) (.tmp 61) rfl w5.heap.size rfl rfl HK6.out ?_);intro w7 K7 G7;have hD5:=HD5.out.lt;have G67:=G6.trans' G7 (fun k hk h=>om);have HG7:=BE (HG5.out.trans' G67 (fun _ _ h=>h.elim));have HD7:=BE (HD5.out.chg G67 (fun h=>h));obtain⟨k0,-,-,-,-,-⟩:=K7.cells;obtain⟨e1,e2⟩:=HD7.out.cell i hlt;have HD8:=BE (HD7.out.set i f.P);have HG8:Hid (Chg (·=D) w3 (w7.setCell ⟨D,i,none⟩ (.int .i64 f.P))):=BE (HG7.out.setCell (AK rfl) i _);clear K7 G6 G7 G67 HK6 S6;go_wp2
    go_roundg (25 - (i+1))
    case measure=>omega
    case rel=>
     refine⟨i+1,_,by simp,om,AM _,HD8.out,fun j hj=>?_,HG8.out⟩;by_cases e:j=i
     ·subst e;simp[upd,HLv.out]
     ·simp[upd,e];exact HF.out j om
  ·have hltz:¬ (i:Int)<=24:=om;have hltz':¬ (i:Int)<25:=om;have HDl:=BE (HDr.out.congr (g:=lv l c) (fun j hj=>HF.out j om));have HAr:=BE (HA3.out.chg HGr.out om);go_wp2_with (first | (refine Fi rfl (.tmp 8) rfl D rfl HDl.out ?_) | (refine DH rfl (.tmp 4) (.tmp 68) rfl (B+1) rfl rfl HAr.out ?_));intro w8 A8 G8;have HA8:=BE A8;have HG8:=BE ((HG3.out.trans' HGr.out fun k hk h=>om).trans' G8 fun k hk h=>by have:=HBB.out;omega);clear A8 G8;go_wp2;refine AZ (Ko rfl _ rfl HA8.out) rfl ?_;exact⟨rfl,HG8.out⟩
end Go.Proofs.YtmdpnpjacfedpaaGreat.AE
namespace Go.Proofs.YtmdpnpjacfedpaaGreat.AD
open List
open Go.Proofs.Tryz
open Go.RowKit
section
variable {w w':Wd}{b n:Nat}{t:TypeId}{F:Nat->Bool}
end
theorem Kq(w:Wd):(zeroValue 177).run prog w=.ok (.agg (ints (fun _=>0) 13).toArray) w:=kr
theorem Kr(w:Wd):(Instr.makeSlice 43 (.int .i64 12) (.int .i64 12)).run prog w=.ok (.slice (some ⟨w.heap.size,0,none⟩) 12 12) (w.alloc (.cells (ints (fun _=>0) 12).toArray 3)):=kr
def cnt (F:Nat->Int) (s:Int):Nat->Nat
 | 0=>0
 | k+1=>cnt F s k+if F k=s then 1 else 0
theorem XK(F:Nat->Int)(s:Int)(k:Nat):cnt F s k<=k:=by
 induction k with
 | zero=>exact AM _
 | succ k ih=>unfold cnt;split <;> omega
theorem CH(w:Wd)(n:Int)(h0:0<=n)(h1:n<12):Calls prog 106 #[.int .i64 n] w fun e w'=>e=.returned (.bool true)/\w'=w:=by
 go_enter func106,ntmps106;go_wp2;go_ret;exact⟨rfl,rfl⟩
theorem Dq(w:Wd)(n:Int)(h:n<0\/12<=n):Calls prog 106 #[.int .i64 n] w fun e w'=>e=.returned (.bool false)/\w'=w:=by
 by_cases h0:0<=n
 ·have h1:¬ n<12:=om
  clear h;go_enter func106,ntmps106;go_wp2;go_ret;exact⟨rfl,rfl⟩
 ·clear h;go_enter func106,ntmps106;go_wp2;go_ret;exact⟨rfl,rfl⟩
theorem In(w:Wd)(n:Int)(h0:0<=n)(h1:n<=3):Calls prog 212 #[.int .i64 n] w fun e w'=>e=.returned (.bool true)/\w'=w:=by
 go_enter func212,ntmps212;go_wp2;go_ret;exact⟨rfl,rfl⟩
theorem XL(w:Wd)(n:Int)(h:n<0\/3<n):Calls prog 212 #[.int .i64 n] w fun e w'=>e=.returned (.bool false)/\w'=w:=by
 by_cases h0:0<=n
 ·have h1:¬ n<=3:=om
  clear h;go_enter func212,ntmps212;go_wp2;go_ret;exact⟨rfl,rfl⟩
 ·clear h;go_enter func212,ntmps212;go_wp2;go_ret;exact⟨rfl,rfl⟩
theorem He(w:Wd):Calls prog 116 #[] w fun e w'=>e=.returned (.pointer (some ⟨w.heap.size,0,none⟩))/\IB w' w.heap.size 177 13 (fun _=>0)/\Chg No w w':=by
 go_enter func116,ntmps116;go_wp2_with (refine CV rfl 177 rfl w.heap.size rfl Kq ?_);intro w1 K1 G1 S1;have HK1:=BE (show IB w1 w.heap.size 177 13 (fun _=>0) from K1);have HG1:=BE G1;clear K1 G1 S1;generalize HB:w.heap.size=b at *
 have HB:=BE HB;go_wp2_with fail
 go_loopg [4] 12 (fun kx s4 wr=>∃i:Nat,s4=.int .i64 i/\i<=12/\12 - i<=kx/\Hid (IB wr b 177 13 (fun _=>0))/\Hid (Chg No w wr))
 case atStart=>exact⟨0,rfl,om,om,HK1,HG1⟩
 case round=>
 obtain⟨i,rfl,hin,hkx,HK,HG⟩:=hrel;clear HK1 HG1;by_cases hlt:i<12
 ·have hltz:(i:Int)<12:=om
  obtain⟨c,f⟩:=HK.out.cell i om;go_wp2
  go_roundg (12 - (i+1))
  case measure=>omega
  case rel=>
   refine⟨i+1,by simp,om,AM _,?_,?_⟩
   ·exact(HK.out.set i 0).congr fun j _=>by unfold upd;split <;> rfl
   ·exact HG.out.setCell (AL (by rw[HB.out];exact AM _)) _ _
 ·have hltz:¬ (i:Int)<12:=om
  go_wp2;go_ret;exact⟨rfl,HK.out,HG.out⟩
theorem bm(w:Wd)(b:Nat)(F:Nat->Int)(h:IB w b 177 13 F)(n:Nat)(hn:n<12):Calls prog 59 #[.pointer (some ⟨b,0,none⟩),.int .i64 n] w fun e w'=>e=.returned (.tuple #[.int .i64 (F n),.nilIface])/\w'=w:=by
 obtain⟨c,-⟩:=h.cell n om;have h1:(n:Int)<12:=om
 clear h;go_enter func59,ntmps59;go_wp2_with (go_at_call 106;refine(CH _ _ om h1).mono ?_;rintro e w1 ⟨rfl,rfl⟩);go_ret2;exact⟨rfl,rfl⟩
theorem iC(w:Wd)(b:Nat)(n:Int)(hn:n<0\/12<=n):Calls prog 59 #[.pointer (some ⟨b,0,none⟩),.int .i64 n] w fun e w'=>e=.returned (.tuple #[.int .i64 0,.iface 57 (.int .i64 1)])/\w'=w:=by
 go_enter func59,ntmps59;go_wp2_with (go_at_call 106;refine(Dq _ _ hn).mono ?_;rintro e w1 ⟨rfl,rfl⟩);go_ret2;exact⟨rfl,rfl⟩
theorem GJ(w:Wd)(b:Nat)(F:Nat->Int)(h:IB w b 177 13 F)(s:Int):Calls prog 108 #[.pointer (some ⟨b,0,none⟩),.int .i64 s] w fun e w'=>e=.returned (.int .i64 (cnt F s 12:Nat))/\w'=w:=by
 have HK:=BE h;clear h;go_enter func108,ntmps108;go_wp2_with fail
 go_loopg [5,7] 12 (fun kx s5 s7 wr=>∃i:Nat,s7=.int .i64 i/\s5=.int .i64 (cnt F s i:Nat)/\i<=12/\12 - i<=kx/\wr=w)
 case atStart=>exact⟨0,rfl,rfl,om,om,rfl⟩
 case round=>
 obtain⟨i,rfl,rfl,hin,hkx,rfl⟩:=hrel;by_cases hlt:i<12
 ·have hltz:(i:Int)<12:=om
  obtain⟨c,f⟩:=HK.out.cell i om;have hc:=XK F s i;have HE:Hid (cnt F s (i+1)=cnt F s i+if F i=s then 1 else 0):=rfl;by_cases he:F i=s
  ·have hb:(F i == s)=true:=(by simp[he]);rw[AJ he] at HE;clear he;go_wp2
   go_roundg (12 - (i+1))
   case measure=>omega
   case rel=>exact⟨i+1,by simp,by rw[HE.out];simp,om,AM _,rfl⟩
  ·have hb:(F i == s)=false:=(by simp[he]);rw[AI he] at HE;clear he;go_wp2
   go_roundg (12 - (i+1))
   case measure=>omega
   case rel=>exact⟨i+1,by simp,by rw[HE.out];simp,om,AM _,rfl⟩
 ·have hltz:¬ (i:Int)<12:=om
  have h12:i=12:=om
  subst h12;go_wp2;go_ret;exact⟨rfl,rfl⟩
theorem Ks:(prog.info? 3).map (·.size)=some 1:=kr
theorem H8(g o j:Nat):(⟨g,o,none⟩:Addr).add j=⟨g,o+j,none⟩:=by unfold Addr.add;split <;> simp_all
theorem Qy(f i:Nat):((f:Int)+(i:Int)).tmod 12=(((f+i) % 12:Nat):Int):=by
 rw[Av om];omega
def XM (F:Nat->Int):Int:=if 2<cnt F 3 12 then 0 else 1+2*(2 - (cnt F 3 12:Int))
theorem Mw(w:Wd)(b:Nat)(n s:Int)(hn:(n<0\/12<=n)\/(s<0\/3<s)):Calls prog 173 #[.pointer (some ⟨b,0,none⟩),.int .i64 n,.int .i64 s] w fun e w'=>e=.returned (.iface 57 (.int .i64 1))/\w'=w:=by
 by_cases h1:n<0\/12<=n
 ·clear hn;go_enter func173,ntmps173;go_wp2_with (first | (go_at_call 106;refine(Dq _ _ h1).mono ?_;rintro e w1 ⟨rfl,rfl⟩));go_ret;exact⟨rfl,rfl⟩
 ·have h2:s<0\/3<s:=om
  have h3:0<=n:=om
  have h4:n<12:=om
  clear hn h1;go_enter func173,ntmps173;go_wp2_with (first | (go_at_call 106;refine(CH _ _ h3 h4).mono ?_;rintro e w1 ⟨rfl,rfl⟩) | (go_at_call 212;refine(XL _ _ h2).mono ?_;rintro e w1 ⟨rfl,rfl⟩));go_ret;exact⟨rfl,rfl⟩
theorem bo(w:Wd)(b:Nat)(F:Nat->Int)(h:IB w b 177 13 F)(n:Nat)(s:Int)(hn:n<12)(h0:0<=s)(h3:s<=3)(hF:F n=3)(hs:s≠3):Calls prog 173 #[.pointer (some ⟨b,0,none⟩),.int .i64 n,.int .i64 s] w fun e w'=>e=.returned (.iface 57 (.int .i64 12))/\w'=w:=by
 obtain⟨c,-⟩:=h.cell n om;rw[hF] at c;have h1:(n:Int)<12:=om
 have hb:(s == 3)=false:=by simp[hs]
 clear h hF hn;go_enter func173,ntmps173;go_wp2_with (first | (go_at_call 106;refine(CH _ _ om h1).mono ?_;rintro e w1 ⟨rfl,rfl⟩) | (go_at_call 212;refine(In _ _ h0 h3).mono ?_;rintro e w1 ⟨rfl,rfl⟩));go_ret;exact⟨rfl,rfl⟩
theorem Mx(w:Wd)(b:Nat)(F:Nat->Int)(h:IB w b 177 13 F)(n:Nat)(s:Int)(hn:n<12)(h0:0<=s)(h3:s<=3)(hF:¬ (F n=3/\s≠3)):Calls prog 173 #[.pointer (some ⟨b,0,none⟩),.int .i64 n,.int .i64 s] w fun e w'=>e=.returned .nilIface/\IB w' b 177 13 (upd F n s)/\Chg (·=b) w w':=by
 obtain⟨c,f⟩:=h.cell n om;have h1:(n:Int)<12:=om
 have HK:=BE h;by_cases h2:F n=3
 ·rw[h2] at c;have hs:s=3:=by
   by_cases hs:s=3
   ·exact hs
   ·exact absurd ⟨h2,hs⟩ hF
  subst hs;clear h hF hn h2;go_enter func173,ntmps173;go_wp2_with (first | (go_at_call 106;refine(CH _ _ om h1).mono ?_;rintro e w1 ⟨rfl,rfl⟩) | (go_at_call 212;refine(In _ _ om om).mono ?_;rintro e w1 ⟨rfl,rfl⟩));go_ret;exact⟨rfl,HK.out.set _ _,(Chg.refl (·=b) _).setCell (AK rfl) _ _⟩
 ·have hb:(F n == 3)=false:=by simp[h2]
  clear h hF hn h2;go_enter func173,ntmps173;go_wp2_with (first | (go_at_call 106;refine(CH _ _ om h1).mono ?_;rintro e w1 ⟨rfl,rfl⟩) | (go_at_call 212;refine(In _ _ h0 h3).mono ?_;rintro e w1 ⟨rfl,rfl⟩));go_ret;exact⟨rfl,HK.out.set _ _,(Chg.refl (·=b) _).setCell (AK rfl) _ _⟩
theorem EC(w:Wd)(b:Nat)(F:Nat->Int)(h:IB w b 177 13 F):Calls prog 47 #[.pointer (some ⟨b,0,none⟩)] w fun e w'=>e=.returned (.slice (some ⟨w.heap.size,0,none⟩) 12 12)/\IB w' w.heap.size 3 12 F/\Chg No w w':=by
 have hm:=Kr;have HB:Hid (b<w.heap.size):=h.lt;have HK0:=BE (IB.new w 3 12 (fun _=>0));have HG0:Hid (Chg No w (w.alloc (.cells (ints (fun _=>0) 12).toArray 3))):=(Chg.refl _ w).alloc _;have HK:=BE (h.chg HG0.out (fun f=>f));clear h;go_enter func47,ntmps47;go_wp2_with (refine wpList_copy_own rfl (.tmp 5) (.tmp 9) 43 43 rfl 3 underlying43 Ks w.heap.size 0 12 12 ⟨b,0,none⟩ 12 12 rfl rfl (ints (fun _=>0) 12).toArray 3 HK0.out (ints F 12) (by rw[BF];rfl) (fun j v hv=>by rw[H8,AW,(HK.out.cell j (by have:=(List.getElem?_eq_some_iff.1 hv).1;rw[BF] at this;omega)).1,<-hv,BU _ _ _ (by have:=(List.getElem?_eq_some_iff.1 hv).1;rw[BF] at this;omega)];rfl) (by simp[BF]) (Cf F 12) ?_);go_ret;have e1:(ints F 12 ++ List.drop (ints F 12).length (ints (fun _=>0) 12)).toArray=(ints F 12).toArray:=by
  rw[BF,drop_of_length_le (by simp[BF]),append_nil]
 rw[e1];exact⟨rfl,HK0.out.row F,HG0.out.trans' (Dx _ _ _) (fun i hi e=>om)⟩
theorem Kt(w:Wd)(b:Nat)(F:Nat->Int)(h:IB w b 177 13 F):Calls prog 107 #[.pointer (some ⟨b,0,none⟩)] w fun e w'=>e=.returned (.bool (decide (2<cnt F 3 12)))/\w'=w:=by
 have hc:=GJ w b F h 3;have HD:Hid (decide (2<((cnt F 3 12:Nat):Int))=decide (2<cnt F 3 12)):=decide_eq_decide.2 om;clear h;go_enter func107,ntmps107;go_wp2_with (go_at_call 108;refine hc.mono ?_;rintro e w1 ⟨rfl,rfl⟩);go_ret;exact⟨by rw[<-HD.out];rfl,rfl⟩
theorem UN(w:Wd)(b:Nat)(F:Nat->Int)(h:IB w b 177 13 F):Calls prog 192 #[.pointer (some ⟨b,0,none⟩)] w fun e w'=>e=.returned (.int .i64 (XM F))/\w'=w:=by
 have hc:=GJ w b F h 3;have hw:=Kt w b F h;have hl:=XK F 3 12;clear h;by_cases hx:2<cnt F 3 12
 ·have HD:Hid (XM F=0):=by show _=_;unfold XM;rw[AJ hx]
  rw[AO hx] at hw;clear hx hc;go_enter func192,ntmps192;go_wp2_with (go_at_call 107;refine hw.mono ?_;rintro e w1 ⟨rfl,rfl⟩);go_ret;exact⟨by rw[HD.out];rfl,rfl⟩
 ·have HD:Hid (XM F=1+2*(2 - (cnt F 3 12:Int))):=by show _=_;unfold XM;rw[AI hx]
  rw[AN hx] at hw;clear hx;go_enter func192,ntmps192;go_wp2_with (first | (go_at_call 107;refine hw.mono ?_;rintro e w1 ⟨rfl,rfl⟩) | (go_at_call 108;refine hc.mono ?_;rintro e w1 ⟨rfl,rfl⟩));go_ret;exact⟨by rw[HD.out];rfl,rfl⟩
theorem UO(w:Wd)(b:Nat)(F:Nat->Int)(h:IB w b 177 13 F):Calls prog 147 #[.pointer (some ⟨b,0,none⟩)] w fun e w'=>e=.returned (.bool (decide (XM F<(cnt F 0 12:Nat))))/\w'=w:=by
 have hc:=GJ w b F h 0;have hw:=UN w b F h;clear h;go_enter func147,ntmps147;go_wp2_with (first | (go_at_call 108;refine hc.mono ?_;rintro e w1 ⟨rfl,rfl⟩) | (go_at_call 192;refine hw.mono ?_;rintro e w1 ⟨rfl,rfl⟩));go_ret;exact⟨rfl,rfl⟩
theorem XN(w:Wd)(b:Nat)(F:Nat->Int)(h:IB w b 177 13 F)(f:Nat)(hf:f<12)(h12:F 12=f)(j:Nat)(hj:j<12)(m:Nat)(hmj:m=(f+j) % 12)(hF:F m=0)(hno:∀i,i<j->F ((f+i) % 12)≠0):Calls prog 193 #[.pointer (some ⟨b,0,none⟩)] w fun e w'=>e=.returned (.tuple #[.int .i64 m,.nilIface])/\IB w' b 177 13 (upd (upd F m 1) 12 ((m+1) % 12:Nat))/\Chg (·=b) w w':=by
 have HK:=BE h;have HN:=BE hno;obtain⟨c12,f12⟩:=h.cell 12 om;rw[h12] at c12;have HM:=BE hmj;clear h hno h12 hmj;go_enter func193,ntmps193;go_wp2_with fail
 go_loopg [6] 12 (fun kx s6 wr=>∃i:Nat,s6=.int .i64 i/\i<=j/\12 - i<=kx/\wr=w)
 case atStart=>exact⟨0,rfl,om,om,rfl⟩
 case round=>
 obtain⟨i,rfl,hin,hkx,rfl⟩:=hrel;have hltz:(i:Int)<12:=om
 have hm:=Qy f i;have hml:(f+i) % 12<12:=Nat.mod_lt _ om;obtain⟨c,fz⟩:=HK.out.cell ((f+i) % 12) om;by_cases hlt:i<j
 ·have hb:(F ((f+i) % 12) == 0)=false:=by simp[HN.out i hlt]
  go_wp2
  go_roundg (12 - (i+1))
  case measure=>omega
  case rel=>exact⟨i+1,by simp,om,AM _,rfl⟩
 ·have hij:i=j:=om
  subst hij;rw[<-HM.out] at c hm hml fz;rw[hF] at c;have hm2:=Qy m 1;have hcast:((m:Int)+1).tmod 12=(((m+1) % 12:Nat):Int):=hm2;have hm3:(m:Int)<12:=om
  clear hm2 hlt hin;have HK1:=BE (HK.out.set m 1);obtain⟨-,g12⟩:=HK1.out.cell 12 om;go_wp2;go_ret2;refine⟨rfl,?_,?_⟩
  ·exact HK1.out.set 12 _
  ·exact((Chg.refl (·=b) _).setCell (AK rfl) _ _).setCell (AK rfl) _ _
theorem bp(w:Wd)(b:Nat)(F:Nat->Int)(h:IB w b 177 13 F)(f:Nat)(hf:f<12)(h12:F 12=f)(hno:∀i,i<12->F i≠0):Calls prog 193 #[.pointer (some ⟨b,0,none⟩)] w fun e w'=>e=.returned (.tuple #[.int .i64 0,.iface 57 (.int .i64 10)])/\w'=w:=by
 have HK:=BE h;have HN:=BE hno;obtain⟨c12,f12⟩:=h.cell 12 om;rw[h12] at c12;clear h hno h12;go_enter func193,ntmps193;go_wp2_with fail
 go_loopg [6] 12 (fun kx s6 wr=>∃i:Nat,s6=.int .i64 i/\i<=12/\12 - i<=kx/\wr=w)
 case atStart=>exact⟨0,rfl,om,om,rfl⟩
 case round=>
 obtain⟨i,rfl,hin,hkx,rfl⟩:=hrel;by_cases hlt:i<12
 ·have hltz:(i:Int)<12:=om
  have hm:=Qy f i;have hml:(f+i) % 12<12:=Nat.mod_lt _ om;obtain⟨c,fz⟩:=HK.out.cell ((f+i) % 12) om;have hb:(F ((f+i) % 12) == 0)=false:=by simp[HN.out _ hml]
  go_wp2
  go_roundg (12 - (i+1))
  case measure=>omega
  case rel=>exact⟨i+1,by simp,om,AM _,rfl⟩
 ·have hltz:¬ (i:Int)<12:=om
  go_wp2;go_ret2;exact⟨rfl,rfl⟩
def setC (F:Nat->Int) (n s:Int):Nat:=if (n<0\/12<=n)\/(s<0\/3<s) then 1 else if F n.toNat=3/\s≠3 then 12 else 0
def setF (F:Nat->Int) (n s:Int):Nat->Int:=if setC F n s=0 then upd F n.toNat s else F
theorem UP{F:Nat->Int}{n s:Int}(h:setC F n s=0):(0<=n/\n<12)/\(0<=s/\s<=3)/\¬ (F n.toNat=3/\s≠3):=by
 unfold setC at h;split at h
 ·omega
 ·rename_i h1;split at h
  ·omega
  ·rename_i h2;exact⟨om,om,h2⟩
theorem SF(w:Wd)(b:Nat)(F:Nat->Int)(h:IB w b 177 13 F)(n s:Int):Calls prog 173 #[.pointer (some ⟨b,0,none⟩),.int .i64 n,.int .i64 s] w fun e w'=>e=.returned (errV (setC F n s))/\IB w' b 177 13 (setF F n s)/\Chg (·=b) w w':=by
 by_cases h1:(n<0\/12<=n)\/(s<0\/3<s)
 ·have e:setC F n s=1:=by unfold setC;rw[AJ h1]
  refine(Mw w b n s h1).mono ?_;rintro x w' ⟨rfl,rfl⟩;rw[e];refine⟨rfl,?_,Chg.refl _ _⟩;unfold setF;rw[e];exact h
 ·obtain⟨m,rfl⟩:∃m:Nat,n=m:=⟨n.toNat,om⟩;by_cases h2:F m=3/\s≠3
  ·have e:setC F m s=12:=(by unfold setC;rw[AI h1,AP,AJ h2]);refine(bo w b F h m s om om om h2.1 h2.2).mono ?_;rintro x w' ⟨rfl,rfl⟩;rw[e];refine⟨rfl,?_,Chg.refl _ _⟩;unfold setF;rw[e];exact h
  ·have e:setC F m s=0:=(by unfold setC;rw[AI h1,AP,AI h2]);refine(Mx w b F h m s om om om h2).mono ?_;rintro x w' ⟨rfl,h3,h4⟩;rw[e];refine⟨rfl,?_,h4⟩;unfold setF;rw[AJ e,AP];exact h3
def getC (n:Int):Nat:=if n<0\/12<=n then 1 else 0
def getV (F:Nat->Int) (n:Int):Int:=if n<0\/12<=n then 0 else F n.toNat
theorem ek(w:Wd)(b:Nat)(F:Nat->Int)(h:IB w b 177 13 F)(n:Int):Calls prog 59 #[.pointer (some ⟨b,0,none⟩),.int .i64 n] w fun e w'=>e=.returned (.tuple #[.int .i64 (getV F n),errV (getC n)])/\w'=w:=by
 by_cases h1:n<0\/12<=n
 ·unfold getV getC;rw[AJ h1,AJ h1];exact iC w b n h1
 ·obtain⟨m,rfl⟩:∃m:Nat,n=m:=⟨n.toNat,om⟩;unfold getV getC;rw[AI h1,AI h1,AP];exact bm w b F h m om
def mj (F:Nat->Int) (f c m:Nat):Prop:=(c=0/\∃j,j<12/\m=(f+j) % 12/\F m=0/\∀i,i<j->F ((f+i) % 12)≠0)\/(c=10/\m=0/\∀i,i<12->F i≠0)
theorem lG(P:Nat->Prop)[DecidablePred P](n:Nat):(∃j,j<n/\P j/\∀i,i<j->¬ P i)\/∀i,i<n->¬ P i:=by
 induction n with
 | zero=>exact AL fun i hi=>absurd hi (Nat.not_lt_zero _)
 | succ n ih=>
  rcases ih with ⟨j,h1,h2,h3⟩ | ih
  ·exact AK ⟨j,om,h2,h3⟩
  ·by_cases hn:P n
   ·exact AK ⟨n,om,hn,ih⟩
   ·refine AL fun i hi=>?_;by_cases e:i=n
    ·subst e;exact hn
    ·exact ih i om
def tkF (F:Nat->Int) (c m:Nat):Nat->Int:=if c=0 then upd (upd F m 1) 12 ((m+1) % 12:Nat) else F
theorem Ku(w:Wd)(b:Nat)(F:Nat->Int)(h:IB w b 177 13 F)(f:Nat)(hf:f<12)(h12:F 12=f){c m:Nat}(hN:mj F f c m):Calls prog 193 #[.pointer (some ⟨b,0,none⟩)] w fun e w'=>e=.returned (.tuple #[.int .i64 m,errV c])/\IB w' b 177 13 (tkF F c m)/\Chg (·=b) w w':=by
 rcases hN with ⟨rfl,j,hj,hm,hF,hno⟩ | ⟨rfl,rfl,hno⟩
 ·exact XN w b F h f hf h12 j hj m hm hF hno
 ·refine(bp w b F h f hf h12 hno).mono ?_;rintro x w' ⟨rfl,rfl⟩;exact⟨rfl,h,Chg.refl _ _⟩
theorem Oz{F G:Nat->Int}(s:Int):∀(k:Nat),(∀i,i<k->G i=F i)->cnt G s k=cnt F s k
 | 0,_=>rfl
 | k+1,h=>by unfold cnt;rw[Oz s k (fun i hi=>h i om),h k om]
def one (p:Prop) [Decidable p]:Nat:=if p then 1 else 0
theorem My(F:Nat->Int)(n:Nat)(s t:Int)(k:Nat)(h:k<=n):cnt (upd F n s) t k=cnt F t k:=
 Oz t k fun i hi=>by unfold upd;rw[AI om]
theorem SG(F:Nat->Int)(n:Nat)(s t:Int):∀k,n<k->cnt (upd F n s) t k+one (F n=t)=cnt F t k+one (s=t)
 | 0,h=>om
 | k+1,h=>by
  have e:∀G:Nat->Int,cnt G t (k+1)=cnt G t k+one (G k=t):=fun _=>rfl
  rw[e,e]
  by_cases hk:n=k
  ·
   subst hk
   have e3:upd F n s n=s:=by simp[upd]
   rw[My F n s t n (AM _),e3]
   omega
  ·
   have ih:=SG F n s t k om
   have e3:upd F n s k=F k:=by unfold upd;rw[AI om]
   rw[e3]
   omega
theorem SH(F:Nat->Int):∀k,(∀i,i<k->0<=F i/\F i<=3)->cnt F 0 k+cnt F 1 k+cnt F 2 k+cnt F 3 k=k
 | 0,_=>rfl
 | k+1,h=>by
  have ih:=SH F k (fun i hi=>h i om)
  have e:∀t,cnt F t (k+1)=cnt F t k+one (F k=t):=fun _=>rfl
  rw[e,e,e,e]
  obtain⟨h0,h3⟩:=h k om
  have hc:F k=0\/F k=1\/F k=2\/F k=3:=om
  rcases hc with hc | hc | hc | hc <;> simp[one,hc] <;> omega
end Go.Proofs.YtmdpnpjacfedpaaGreat.AD
