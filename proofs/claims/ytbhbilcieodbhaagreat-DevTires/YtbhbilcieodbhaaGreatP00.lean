/-
  Lemmas.
-/
import Derived.Test.YtbhbilcieodbhaaGreatOm
import Derived.WalkKit
import Derived.Test.YtbhbilcieodbhaaGreatRows
import Derived.WalkLawsBesides
import Derived.WalkSpells
import Derived.Outline
import Derived.Defers
import Derived.Laws.LoneSync
import Derived.RegionTactic
import Derived.RegionCalls
import Derived.ChangeAlike
import Derived.Deep.QuietTactic
import Derived.BigQuiet
import Derived.Deep.RegionWith
import Derived.OpenShut
import Derived.Maps.AppendAt
import Derived.Laws.Rows
import Derived.Laws.Tables
import Derived.Deep.RegionHeld3
import Derived.ChangeKeysEq
import Derived.OwnWalk
set_option maxRecDepth 1000000
set_option maxHeartbeats 16000000
set_option linter.unusedSimpArgs false
namespace Go.Proofs.YtbhbilcieodbhaaGreat
open List
open Go.Proofs.Tryz
section
variable {a b:Nat}
def lN:Nat:=70160881166704368827218703435136616750530459438269794890424969378298545675077208731798828898087927652446353395360628748027273188182808436399538186061104243134188885576122562338679313492324190829158544377810568631194580132524405266702234305646236648896994794467054525044798919765581988418950285252905306116225263236585714808161311289784028762024137133735135393922581566890382566480334369299400480864790538739986285574563168380416343369614948461817839620668187777978661530364712890858126432457562886306102556561631759900551331094983229723298224611133722330829711659991602983068895685602467964643306841827719562658305
def lO:Nat:=22135253156888987530748098150270024343632497605293634117281264061560962248099620766229961468867162294233796152347975563017024165690400661622462404646302566225833645086064538892198543335321514950294300187779610338557442029018619797274438901674641748676613670242915365385819254959901651105240253464034662486586186382979728982817772067067513442677601938078891989292316012868233806586592927239821351197800766822366321181463280924672822998103315976779850880337712374790938628529953751181886374687897611504386983350015558142994211516619836411558782076806704747441947939324473761869443721989389604670425385080942269787340800
def ex (k:Nat):Nat:=(lN >>> (8*k)) % 256
def lg (a:Nat):Nat:=(lO >>> (8*a)) % 256
def gm (a b:Nat):Nat:=if a=0 then 0 else if b=0 then 0 else ex ((lg a+lg b) % 255)
def iv (a:Nat):Nat:=ex ((255 - lg a) % 255)
def xt (x:Nat):Nat:=if 256<=x*2 then (x*2) ^^^ 285 else x*2
def s1 (a b:Nat):Nat->Nat
 | 0=>0
 | i+1=>if (b >>> i) % 2=1 then s1 a b i ^^^ (a <<< i) else s1 a b i
def LA:Nat->(Nat->Bool)->Bool
 | 0,_=>true
 | n+1,f=>f n && LA n f
theorem Dq{n:Nat}{f:Nat->Bool}(h:LA n f=true)(k:Nat)(hk:k<n):f k=true:=by
 induction n with
 | zero=>omega
 | succ n ih=>
  simp only[LA,Ao] at h;by_cases e:k=n
  ·rw[e];exact h.1
  ·exact ih h.2 om
theorem D8(k:Nat):ex k<256:=Nat.mod_lt _ dc
theorem Ie:ex 0=1:=by decide +kernel
theorem MN:LA 254 (fun k=>ex (k+1) == xt (ex k))=true:=by decide +kernel
theorem QL(k:Nat)(h:k<254):ex (k+1)=xt (ex k):=by simpa using Dq MN k h
theorem YY:xt (ex 254)=1:=by decide +kernel
theorem KN:LA 255 (fun k=>lg (ex k) == k && !(ex k == 0))=true:=by decide +kernel
theorem IC(k:Nat)(h:k<255):lg (ex k)=k:=by
 have:=Dq KN k h;simp only[Ao,beq_iff_eq] at this;exact this.1
theorem MO(k:Nat)(h:k<255):ex k≠0:=by
 have:=Dq KN k h;simp only[Ao,Bool.not_eq_true',beq_eq_false_iff_ne] at this;exact this.2
theorem TR:LA 256 (fun a=>a == 0 || (ex (lg a) == a && decide (lg a<255)))=true:=by decide +kernel
theorem TS(a:Nat)(h:a<256)(h0:a≠0):ex (lg a)=a:=by
 have:=Dq TR a h;simp only[Bool.or_eq_true,Ao,beq_iff_eq,Al] at this;rcases this with h1 | h1
 ·exact absurd h1 h0
 ·exact h1.1
theorem ID(a:Nat)(h:a<256):lg a<255:=by
 have:=Dq TR a h;simp only[Bool.or_eq_true,Ao,beq_iff_eq,Al] at this;rcases this with h1 | h1
 ·subst h1;decide +kernel
 ·exact h1.2
theorem YZ:lg 0=0:=by decide +kernel
theorem Bh(a b:Nat):gm a b<256:=by
 unfold gm;split
 ·decide
 ·split
  ·decide
  ·exact D8 _
theorem BQ(b:Nat):gm 0 b=0:=by simp[gm]
theorem CA(a:Nat):gm a 0=0:=by simp[gm]
theorem Ca(ha:a≠0)(hb:b≠0):gm a b=ex ((lg a+lg b) % 255):=by simp[gm,ha,hb]
theorem TT(ha:a≠0)(hb:b≠0):gm a b≠0:=by
 rw[Ca ha hb];exact MO _ (Nat.mod_lt _ dc)
theorem Bl(a b:Nat):gm a b=gm b a:=by
 by_cases ha:a=0
 ·subst ha;rw[BQ,CA]
 by_cases hb:b=0
 ·subst hb;rw[BQ,CA]
 rw[Ca ha hb,Ca hb ha,Nat.add_comm]
theorem bi(ha:a≠0)(hb:b≠0):lg (gm a b)=(lg a+lg b) % 255:=by
 rw[Ca ha hb,IC _ (Nat.mod_lt _ dc)]
theorem BU(a b c:Nat):gm (gm a b) c=gm a (gm b c):=by
 by_cases ha:a=0
 ·subst ha;simp only[BQ]
 by_cases hb:b=0
 ·subst hb;simp only[BQ,CA]
 by_cases hc:c=0
 ·subst hc;simp only[CA]
 rw[Ca (TT ha hb) hc,Ca ha (TT hb hc),bi ha hb,bi hb hc];congr 1;omega
theorem Cv(a:Nat)(h:a<256):gm a 1=a:=by
 by_cases ha:a=0
 ·subst ha;rw[BQ]
 have l1:lg 1=0:=by decide +kernel
 rw[Ca ha dc,l1,Nat.add_zero,Az (ID a h)];exact TS a h ha
theorem OK:LA 256 (fun a=>gm a 2 == xt a)=true:=by decide +kernel
theorem TU(a:Nat)(h:a<256):gm a 2=xt a:=by simpa using Dq OK a h
theorem jW(a:Nat):iv a<256:=D8 _
theorem jX(a:Nat):iv a≠0:=MO _ (Nat.mod_lt _ dc)
theorem jY(a:Nat)(h:a<256)(h0:a≠0):gm a (iv a)=1:=by
 have:=ID a h;rw[Ca h0 (jX a)];unfold iv;rw[IC _ (Nat.mod_lt _ dc),show (lg a+(255 - lg a) % 255) % 255=0 from om,Ie]
theorem LB(b i:Nat):((b >>> i) % 2=1)<->(b.testBit i=true):=by
 rw[Nat.testBit_eq_decide_div_mod_eq,Al,Nat.shiftRight_eq_div_pow]
theorem Ya(b c i:Nat):((b ^^^ c) >>> i) % 2=((b >>> i) % 2+(c >>> i) % 2) % 2:=by
 have h:=Nat.testBit_xor b c i;have h0:=LB (b ^^^ c) i;have h1:=LB b i;have h2:=LB c i;rw[h] at h0;cases e1:b.testBit i <;> cases e2:c.testBit i <;> simp[e1,e2] at h0 h1 h2 <;> omega
theorem CO(a b:Nat)(ha:a<256)(hb:b<256):a ^^^ b<256:=Nat.xor_lt_two_pow (n:=8) ha hb
def pk (t c:Nat):Nat:=if t % 2=1 then c else 0
theorem cx(t u c:Nat):pk ((t+u) % 2) c=pk t c ^^^ pk u c:=by
 unfold pk;have h1:t % 2=0\/t % 2=1:=om
 have h2:u % 2=0\/u % 2=1:=om
 rcases h1 with h1 | h1 <;> rcases h2 with h2 | h2
 ·rw[AI om,AI om,AI om];rfl
 ·rw[AJ om,AI om,AJ om,Nat.zero_xor]
 ·rw[AJ om,AJ om,AI om,Aw]
 ·rw[AI om,AJ om,AJ om,BA]
theorem I7(t c:Nat):pk (t % 2) c=pk t c:=by unfold pk;rw[Nat.mod_mod]
theorem cy(b d i c:Nat):pk ((b ^^^ d) >>> i) c=pk (b >>> i) c ^^^ pk (d >>> i) c:=by
 rw[<-I7,Ya,I7,<-I7,cx,I7,I7]
theorem jZ(a b c d:Nat):(a ^^^ b) ^^^ (c ^^^ d)=(a ^^^ c) ^^^ (b ^^^ d):=by ac_rfl
theorem RL:LA 256 (fun x=>xt x == ((x <<< 1) ^^^ pk (x >>> 7) 285))=true:=by decide +kernel
theorem TV(x:Nat)(h:x<256):xt x=(x <<< 1) ^^^ pk (x >>> 7) 285:=by simpa using Dq RL x h
theorem cz(x y:Nat)(hx:x<256)(hy:y<256):xt (x ^^^ y)=xt x ^^^ xt y:=by
 rw[TV x hx,TV y hy,TV _ (CO x y hx hy),cy,Nat.shiftLeft_xor_distrib,jZ]
theorem Fu(k b:Nat)(hk:k<254):gm (ex (k+1)) b=xt (gm (ex k) b):=by
 rw[QL k hk,<-TU _ (D8 k),Bl (ex k) 2,BU,Bl 2,TU _ (Bh _ _)]
theorem RM(k b c:Nat)(hk:k<255)(hb:b<256)(hc:c<256):gm (ex k) (b ^^^ c)=gm (ex k) b ^^^ gm (ex k) c:=by
 induction k with
 | zero=>rw[Ie,Bl 1,Bl 1,Bl 1,Cv _ hb,Cv _ hc,Cv _ (CO b c hb hc)]
 | succ k ih=>
  rw[Fu k _ om,Fu k _ om,Fu k _ om,ih om,cz _ _ (Bh _ _) (Bh _ _)]
theorem HU(a b c:Nat)(ha:a<256)(hb:b<256)(hc:c<256):gm a (b ^^^ c)=gm a b ^^^ gm a c:=by
 by_cases h0:a=0
 ·subst h0;simp only[BQ];rfl
 ·have:=RM (lg a) b c (ID a ha) hb hc
  rwa [TS a ha h0] at this
theorem DP(a b c:Nat)(ha:a<256)(hb:b<256)(hc:c<256):gm (b ^^^ c) a=gm b a ^^^ gm c a:=by
 rw[Bl _ a,HU a b c ha hb hc,Bl a b,Bl a c]
end
section
variable {l:List Nat}
def Bys (l:List Nat):Prop:=∀n ∈ l,n<256
theorem Bys.getD(h:Bys l)(i:Nat):l.getD i 0<256:=by
 by_cases hi:i<l.length
 ·rw[AQ,AU hi];exact h _ (getElem_mem hi)
 ·rw[AQ,Ae om];decide
def ev (x:Nat) (l:List Nat):Nat:=l.foldl (fun s c=>gm s x ^^^ c) 0
theorem LC(x:Nat)(l:List Nat)(c:Nat):ev x (l ++ [c])=gm (ev x l) x ^^^ c:=by simp[ev]
theorem RN(l:List Nat)(k:Nat)(h:k<l.length):l.take (k+1)=l.take k ++ [l.getD k 0]:=by
 rw[take_succ_eq_append_getElem h,AQ,AU h];rfl
theorem If(x:Nat)(l:List Nat)(k:Nat)(h:k<l.length):ev x (l.take (k+1))=gm (ev x (l.take k)) x ^^^ l.getD k 0:=by
 rw[RN l k h,LC]
theorem I9(x:Nat)(l:List Nat)(hl:Bys l)(k:Nat)(h:k<=l.length):ev x (l.take k)<256:=by
 induction k with
 | zero=>simp[ev]
 | succ k ih=>rw[If x l k om];exact CO _ _ (Bh _ _) (hl.getD k)
theorem QM(x:Nat)(l:List Nat)(hl:Bys l):ev x l<256:=by
 have:=I9 x l hl l.length (AM _)
 rwa [take_length] at this
def xp (x:Nat):Nat->Nat
 | 0=>1
 | k+1=>gm (xp x k) x
theorem Fm(x k:Nat):xp x k<256:=by
 cases k with
 | zero=>show 1<256;decide
 | succ k=>exact Bh _ _
theorem dA(x:Nat)(j k:Nat):xp x (j+k)=gm (xp x j) (xp x k):=by
 induction k with
 | zero=>show xp x j=gm (xp x j) 1;rw[Cv _ (Fm x j)]
 | succ k ih=>show gm (xp x (j+k)) x=gm (xp x j) (gm (xp x k) x);rw[ih,BU]
def pv (x:Nat) (l:List Nat):Nat->Nat
 | 0=>0
 | k+1=>pv x l k ^^^ gm (l.getD k 0) (xp x (l.length - 1 - k))
theorem ja(x:Nat)(l:List Nat)(k:Nat):pv x l k<256:=by
 induction k with
 | zero=>show 0<256;decide
 | succ k ih=>exact CO _ _ ih (Bh _ _)
theorem TW(x:Nat)(_hx:x<256)(l:List Nat)(hl:Bys l)(k:Nat)(hk:k<=l.length):gm (ev x (l.take k)) (xp x (l.length - k))=pv x l k:=by
 induction k with
 | zero=>show gm 0 _=0;rw[BQ]
 | succ k ih=>
  rw[If x l k om];show gm (gm (ev x (l.take k)) x ^^^ l.getD k 0) (xp x (l.length - (k+1)))=pv x l k ^^^ gm (l.getD k 0) (xp x (l.length - 1 - k));have e:l.length - (k+1)=l.length - 1 - k:=om
  have e2:l.length - k=(l.length - 1 - k)+1:=om
  rw[e,DP _ _ _ (Fm _ _) (Bh _ _) (hl.getD k),<-ih om,e2];show gm (gm _ x) _ ^^^ _=gm _ (gm (xp x _) x) ^^^ _;rw[BU,Bl x]
theorem QN(x:Nat)(hx:x<256)(l:List Nat)(hl:Bys l):ev x l=pv x l l.length:=by
 have h:=TW x hx l hl l.length (AM _);rw[take_length,Nat.sub_self] at h;rw[<-h];show _=gm _ 1;rw[Cv _ (QM x l hl)]
def addAt (l:List Nat) (i v:Nat):List Nat:=l.set i (l.getD i 0 ^^^ v)
theorem Bi(l:List Nat)(i v:Nat):(addAt l i v).length=l.length:=by simp[addAt]
theorem ES(l:List Nat)(i v k:Nat)(hi:i<l.length):(addAt l i v).getD k 0=l.getD k 0 ^^^ (if k=i then v else 0):=by
 unfold addAt;by_cases e:k=i
 ·subst e;rw[AJ rfl,AQ,List.getElem?_set_self hi];rfl
 ·rw[AI e,Aw,AQ,List.getElem?_set_ne om,<-AQ]
theorem CV(hl:Bys l)(i v:Nat)(hv:v<256):Bys (addAt l i v):=by
 intro n hn;unfold addAt at hn;rcases mem_or_eq_of_mem_set hn with h | h
 ·exact hl n h
 ·rw[h];exact CO _ _ (hl.getD i) hv
theorem TX(x:Nat)(l:List Nat)(hl:Bys l)(i v:Nat)(hi:i<l.length)(hv:v<256)(k:Nat) :pv x (addAt l i v) k=pv x l k ^^^ (if i<k then gm v (xp x (l.length - 1 - i)) else 0):=by
 induction k with
 | zero=>simp[pv]
 | succ k ih=>
  show pv x (addAt l i v) k ^^^ gm ((addAt l i v).getD k 0) (xp x ((addAt l i v).length - 1 - k))=(pv x l k ^^^ gm (l.getD k 0) (xp x (l.length - 1 - k))) ^^^ _;rw[ih,Bi,ES l i v k hi];by_cases e:k=i
  ·subst e;rw[AJ rfl,AI om,AJ om,DP _ _ _ (Fm _ _) (hl.getD k) hv,Aw,A9]
  ·rw[AI e,Aw];by_cases h:i<k
   ·rw[AJ h,AJ om,A9,Nat.xor_comm (gm v _),<-A9]
   ·rw[AI h,AI om,Aw,Aw]
theorem MP(x:Nat)(hx:x<256)(l:List Nat)(hl:Bys l)(i v:Nat)(hi:i<l.length)(hv:v<256) :ev x (addAt l i v)=ev x l ^^^ gm v (xp x (l.length - 1 - i)):=by
 rw[QN x hx _ (CV hl i v hv),QN x hx l hl,Bi,TX x l hl i v hi hv,AJ hi]
def inner (a:Nat) (q:List Nat) (i:Nat) (l:List Nat):Nat->List Nat
 | 0=>l
 | j+1=>addAt (inner a q i l j) (i+j) (gm a (q.getD j 0))
def DJ (p q:List Nat):Nat->List Nat
 | 0=>List.replicate (p.length+q.length - 1) 0
 | i+1=>inner (p.getD i 0) q i (DJ p q i) q.length
def tm (p q:List Nat):List Nat:=if p.length=0\/q.length=0 then [] else DJ p q p.length
theorem CW(a:Nat)(q:List Nat)(i:Nat)(l:List Nat)(j:Nat):(inner a q i l j).length=l.length:=by
 induction j with
 | zero=>rfl
 | succ j ih=>show (addAt _ _ _).length=_;rw[Bi,ih]
theorem GH(p q:List Nat)(i:Nat):(DJ p q i).length=p.length+q.length - 1:=by
 induction i with
 | zero=>simp[DJ]
 | succ i ih=>show (inner _ _ _ _ _).length=_;rw[CW,ih]
theorem D9(a:Nat)(q:List Nat)(i:Nat)(l:List Nat)(hl:Bys l)(j:Nat):Bys (inner a q i l j):=by
 induction j with
 | zero=>exact hl
 | succ j ih=>exact CV ih _ _ (Bh _ _)
theorem KP(p q:List Nat)(i:Nat):Bys (DJ p q i):=by
 induction i with
 | zero=>intro n hn;have:=eq_of_mem_replicate hn;omega
 | succ i ih=>exact D9 _ _ _ _ ih _
theorem TY(x:Nat)(hx:x<256)(a:Nat)(q:List Nat)(i P:Nat)(l:List Nat)(hl:Bys l)(hi:i<P)(hlen:l.length=P+q.length - 1)(j:Nat)(hj:j<=q.length) :ev x (inner a q i l j)=ev x l ^^^ gm (gm a (xp x (P - 1 - i))) (pv x q j):=by
 induction j with
 | zero=>show ev x l=ev x l ^^^ gm _ 0;rw[CA,Aw]
 | succ j ih=>
  show ev x (addAt (inner a q i l j) (i+j) (gm a (q.getD j 0)))=ev x l ^^^ gm (gm a (xp x (P - 1 - i))) (pv x q j ^^^ gm (q.getD j 0) (xp x (q.length - 1 - j)));rw[MP x hx _ (D9 a q i l hl j) _ _ (by rw[CW,hlen];omega) (Bh _ _),CW,hlen,ih om,HU _ _ _ (Bh _ _) (ja _ _ _) (Bh _ _),A9];congr 2;rw[show P+q.length - 1 - 1 - (i+j)=(P - 1 - i)+(q.length - 1 - j) from om,dA];rw[BU,BU];congr 1;rw[<-BU,Bl (q.getD j 0),BU]
theorem TZ(x:Nat)(n:Nat):ev x (List.replicate n 0)=0:=by
 induction n with
 | zero=>rfl
 | succ n ih=>rw[replicate_succ',LC,ih,BQ];rfl
theorem Ha(p q:List Nat)(hp:p.length≠0)(hq:q.length≠0):(tm p q).length=p.length+q.length - 1:=by
 unfold tm;rw[AI om,GH]
theorem dB(p q:List Nat):Bys (tm p q):=by
 unfold tm;split
 ·intro n hn;cases hn
 ·exact KP p q _
end
section
variable {l a b:List Nat}{f g:Nat->Nat}{n i:Nat}{r:Option (List Nat × Nat)}
theorem CP{a b:Nat}(h:a ^^^ b=0):a=b:=by
 have:a ^^^ b ^^^ b=0 ^^^ b:=by rw[h]
 rwa [A9,BA,Aw,Nat.zero_xor] at this
theorem OL{a b:Nat}(h:gm a b=0):a=0\/b=0:=by
 by_cases ha:a=0
 ·exact AK ha
 by_cases hb:b=0
 ·exact AL hb
 exact absurd h (TT ha hb)
def sm:List (Nat × Nat)->Nat->Nat
 | [],_=>0
 | p :: t,k=>gm p.1 (xp p.2 k) ^^^ sm t k
theorem jb(l:List (Nat × Nat))(k:Nat):sm l k<256:=by
 induction l with
 | nil=>show 0<256;decide
 | cons p t ih=>exact CO _ _ (Bh _ _) ih
theorem Ta(x0:Nat)(h0:x0<256)(t:List (Nat × Nat))(hb:∀p ∈ t,p.1<256/\p.2<256)(k:Nat) :sm (t.map fun p=>(gm p.1 (p.2 ^^^ x0),p.2)) k=sm t (k+1) ^^^ gm x0 (sm t k):=by
 induction t with
 | nil=>show 0=0 ^^^ gm x0 0;rw[CA];rfl
 | cons p t ih=>
  obtain⟨h1,h2⟩:=hb p (by simp);show gm (gm p.1 (p.2 ^^^ x0)) (xp p.2 k) ^^^ sm (t.map _) k=(gm p.1 (gm (xp p.2 k) p.2) ^^^ sm t (k+1)) ^^^ gm x0 (gm p.1 (xp p.2 k) ^^^ sm t k);rw[ih (fun q hq=>hb q (by simp[hq])),HU x0 _ _ h0 (Bh _ _) (jb _ _),HU p.1 _ _ h1 h2 h0,DP _ _ _ (Fm _ _) (Bh _ _) (Bh _ _)];have e1:gm (gm p.1 p.2) (xp p.2 k)=gm p.1 (gm (xp p.2 k) p.2):=by rw[BU,Bl p.2]
  have e2:gm (gm p.1 x0) (xp p.2 k)=gm x0 (gm p.1 (xp p.2 k)):=by rw[Bl p.1 x0,BU]
  rw[e1,e2]
  ac_rfl
theorem lP(n:Nat):∀ps:List (Nat × Nat),ps.length<=n->(∀p ∈ ps,p.1<256/\p.2<256)->(ps.map Prod.snd).Pairwise (·≠·)->(∀k,k<n->sm ps k=0)->∀p ∈ ps,p.1=0:=by
 induction n with
 | zero=>
  intro ps hl _ _ _ p hp;have:ps=[]:=length_eq_zero_iff.1 om;subst this;cases hp
 | succ n ih=>
  intro ps hl hb hd hz;cases ps with
  | nil=>intro p hp;cases hp
  | cons q t=>
   obtain⟨q1,q2⟩:=hb q (by simp);have hbt:∀p ∈ t,p.1<256/\p.2<256:=fun p hp=>hb p (by simp[hp]);simp only[map_cons,pairwise_cons] at hd;have key:∀p ∈ t,p.1=0:=by
    intro p hp;have h:=ih (t.map fun p=>(gm p.1 (p.2 ^^^ q.2),p.2)) (by simp at hl ⊢;omega)
     (by intro r hr;obtain⟨u,hu,rfl⟩:=mem_map.1 hr;exact⟨Bh _ _,(hbt u hu).2⟩)
     (by rw[map_map];exact hd.2)
     (by
      intro k hk
      rw[Ta q.2 q2 t hbt k]
      have z1:=hz (k+1) om
      have z0:=hz k om
      have z1':gm q.1 (gm (xp q.2 k) q.2) ^^^ sm t (k+1)=0:=z1
      have z0':gm q.1 (xp q.2 k) ^^^ sm t k=0:=z0
      rw[<-CP z1',<-CP z0',Bl q.2,BU,BA])
     (gm p.1 (p.2 ^^^ q.2),p.2) (mem_map.2 ⟨p,hp,rfl⟩)
    rcases OL h with h | h
    ·exact h
    ·exact absurd (CP h).symm (hd.1 p.2 (mem_map.2 ⟨p,hp,rfl⟩))
   have st:∀k,sm t k=0:=by
    intro k;clear ih hl hb hz hd
    induction t with
    | nil=>rfl
    | cons p t iht=>
     show gm p.1 _ ^^^ sm t k=0;rw[key p (by simp),BQ,iht (fun r hr=>hbt r (by simp[hr])) (fun r hr=>key r (by simp[hr]))];rfl
   intro p hp;rcases mem_cons.1 hp with rfl | hp
   ·have z0:gm p.1 1 ^^^ sm t 0=0:=hz 0 om
    rwa [st,Aw,Cv _ q1] at z0
   ·exact key p hp
def rt (i:Nat):Nat:=ex (63 - i)
theorem EA(i:Nat):rt i<256:=D8 _
theorem ON{j:Nat}(hi:i<64)(hj:j<64)(h:rt i=rt j):i=j:=by
 have h':lg (rt i)=lg (rt j):=by rw[h]
 unfold rt at h';rw[IC _ om,IC _ om] at h';omega
theorem bj(k:Nat)(hk:k<255)(j:Nat):xp (ex k) j=ex (k*j % 255):=by
 induction j with
 | zero=>show 1=ex (k*0 % 255);rw[Nat.mul_zero];exact Ie.symm
 | succ j ih=>
  show gm (xp (ex k) j) (ex k)=_;rw[ih,Ca (MO _ (Nat.mod_lt _ dc)) (MO _ hk),IC _ (Nat.mod_lt _ dc),IC _ hk,Nat.mul_succ];congr 1;omega
theorem bk(k i:Nat)(hk:k<255):xp (ex k) (63 - i)=xp (rt i) k:=by
 unfold rt;rw[bj k hk,bj _ om,Nat.mul_comm]
def fv (f:Nat->Nat) (k:Nat):Nat->Nat
 | 0=>0
 | n+1=>fv f k n ^^^ gm (f n) (xp (rt n) k)
theorem bm(l:List Nat)(hl:l.length=64)(hb:Bys l)(k:Nat)(hk:k<255):ev (ex k) l=fv (fun i=>l.getD i 0) k 64:=by
 rw[QN _ (D8 k) l hb,hl];have:∀n,pv (ex k) l n=fv (fun i=>l.getD i 0) k n:=by
  intro n
  induction n with
  | zero=>rfl
  | succ n ih=>
   show pv (ex k) l n ^^^ gm (l.getD n 0) (xp (ex k) (l.length - 1 - n))=fv _ k n ^^^ gm (l.getD n 0) (xp (rt n) k);rw[ih,hl,bk k n hk]
 exact this 64
theorem dC(f g:Nat->Nat)(hf:∀i,f i<256)(hg:∀i,g i<256)(k n:Nat):fv (fun i=>f i ^^^ g i) k n=fv f k n ^^^ fv g k n:=by
 induction n with
 | zero=>simp[fv]
 | succ n ih=>
  show fv _ k n ^^^ gm (f n ^^^ g n) _=(fv f k n ^^^ gm (f n) _) ^^^ (fv g k n ^^^ gm (g n) _);rw[ih,DP _ _ _ (Fm _ _) (hf n) (hg n),jZ]
def errs (f:Nat->Nat):Nat->List (Nat × Nat)
 | 0=>[]
 | n+1=>if f n=0 then errs f n else (f n,rt n) :: errs f n
def wt (f:Nat->Nat):Nat->Nat
 | 0=>0
 | n+1=>wt f n+(if f n=0 then 0 else 1)
theorem Er(f:Nat->Nat)(n:Nat):(errs f n).length=wt f n:=by
 induction n with
 | zero=>rfl
 | succ n ih=>
  by_cases h:f n=0
  ·simp[errs,wt,h,ih]
  ·simp[errs,wt,h,ih]
theorem QO(f:Nat->Nat)(k n:Nat):sm (errs f n) k=fv f k n:=by
 induction n with
 | zero=>rfl
 | succ n ih=>
  by_cases h:f n=0
  ·simp only[errs,fv,h,if_true,BQ,Aw,ih]
  ·simp only[errs,fv,h,if_false];show gm (f n) _ ^^^ sm (errs f n) k=_;rw[ih,Nat.xor_comm]
theorem GI{p:Nat × Nat}(h:p ∈ errs f n):∃i,i<n/\p=(f i,rt i)/\f i≠0:=by
 induction n with
 | zero=>cases h
 | succ n ih=>
  by_cases h0:f n=0
  ·simp only[errs,h0,if_true] at h;obtain⟨i,hi,e⟩:=ih h;exact⟨i,om,e⟩
  ·simp only[errs,h0,if_false] at h;rcases mem_cons.1 h with rfl | h
   ·exact⟨n,om,rfl,h0⟩
   ·obtain⟨i,hi,e⟩:=ih h;exact⟨i,om,e⟩
theorem KQ(f:Nat->Nat)(n:Nat)(hn:n<=64):((errs f n).map Prod.snd).Pairwise (·≠·):=by
 induction n with
 | zero=>exact List.Pairwise.nil
 | succ n ih=>
  by_cases h0:f n=0
  ·simp only[errs,h0,if_true];exact ih om
  ·simp only[errs,h0,if_false,map_cons,pairwise_cons];refine⟨?_,ih om⟩;intro x hx e;obtain⟨p,hp,rfl⟩:=mem_map.1 hx;obtain⟨i,hi,rfl,_⟩:=GI hp;have:=ON om om e;omega
theorem Yb(h:wt f n=0)(i:Nat)(hi:i<n):f i=0:=by
 induction n with
 | zero=>omega
 | succ n ih=>
  simp only[wt] at h;by_cases e:i=n
  ·subst e;by_cases h0:f i=0
   ·exact h0
   ·rw[AI h0] at h;omega
  ·exact ih om om
theorem dD(h:∀i,i<n->(f i=0<->g i=0)):wt f n=wt g n:=by
 induction n with
 | zero=>rfl
 | succ n ih=>
  simp only[wt];rw[ih (fun i hi=>h i om)];have:=h n om;by_cases h0:f n=0
  ·rw[AJ h0,AJ (this.1 h0)]
  ·rw[AI h0,AI (fun e=>h0 (this.2 e))]
theorem dE{h:Nat->Nat}(hz:∀i,i<n->f i=0->g i=0->h i=0):wt h n<=wt f n+wt g n:=by
 induction n with
 | zero=>simp[wt]
 | succ n ih=>
  have:=ih (fun i hi=>hz i om);simp only[wt];have hn:=hz n om;by_cases h1:f n=0
  ·by_cases h2:g n=0
   ·rw[AJ (hn h1 h2)];omega
   ·rw[AI h2];split <;> omega
  ·rw[AI h1];split <;> omega
theorem m7(hf:∀i,f i<256)(hw:wt f 64<=6)(hz:∀k,k<6->fv f k 64=0):wt f 64=0:=by
 have h:=lP 6 (errs f 64) (by rw[Er];exact hw)
  (by intro p hp;obtain⟨i,_,rfl,_⟩:=GI hp;exact⟨hf i,EA i⟩) (KQ f 64 (AM _))
  (by intro k hk;rw[QO];exact hz k hk)
 rw[<-Er];cases he:errs f 64 with
 | nil=>rfl
 | cons p t=>
  have hp:p ∈ errs f 64:=by rw[he];simp
  obtain⟨i,_,rfl,h0⟩:=GI hp;exact absurd (h _ hp) h0
def Cw (l:List Nat):Prop:=l.length=64/\Bys l/\∀k,k<6->ev (ex k) l=0
def df (a b:List Nat) (i:Nat):Nat:=a.getD i 0 ^^^ b.getD i 0
def ds (a b:List Nat):Nat:=wt (df a b) 64
theorem KR(ha:Bys a)(hb:Bys b)(i:Nat):df a b i<256:=CO _ _ (ha.getD i) (hb.getD i)
theorem ET:df a b i=0<->a.getD i 0=b.getD i 0:=by
 constructor
 ·exact CP
 ·intro h;unfold df;rw[h,BA]
theorem LD(a b:List Nat):ds a b=ds b a:=dD (fun i _=>by rw[ET,ET];exact eq_comm)
theorem OO(a b c:List Nat):ds a c<=ds a b+ds b c:=
 dE (fun i _ h1 h2=>by rw[ET] at *;rw[h1,h2])
theorem GJ(h:a.length=b.length)(he:∀i,i<a.length->a.getD i 0=b.getD i 0):a=b:=by
 apply ext_getElem h;intro i h1 h2;have:=he i h1
 rwa [AQ,AQ,AU h1,AU h2] at this
theorem Yc(ha:a.length=64)(hb:b.length=64)(h:ds a b=0):a=b:=
 GJ om (fun i hi=>ET.1 (Yb h i om))
theorem QP(a:List Nat):ds a a=0:=by
 have:∀n,wt (df a a) n=0:=by
  intro n
  induction n with
  | zero=>rfl
  | succ n ih=>simp only[wt,ih,df,BA,if_true]
 exact this 64
theorem bo(ha:a.length=64)(hb:b.length=64)(ba:Bys a)(bb:Bys b)(k:Nat)(hk:k<6):fv (df a b) k 64=ev (ex k) a ^^^ ev (ex k) b:=by
 rw[bm a ha ba k om,bm b hb bb k om];exact dC _ _ (fun i=>ba.getD i) (fun i=>bb.getD i) k 64
theorem KS(ha:Cw a)(hb:Cw b)(h:ds a b<=6):a=b:=by
 apply Yc ha.1 hb.1;exact m7 (KR ha.2.1 hb.2.1) h (fun k hk=>by rw[bo ha.1 hb.1 ha.2.1 hb.2.1 k hk,ha.2.2 k hk,hb.2.2 k hk];rfl)
def E1 (s:Nat->Nat) (i a:Nat):Prop:=∀k,k<6->s k=gm a (xp (rt i) k)
def E2 (s:Nat->Nat) (i j a b:Nat):Prop:=∀k,k<6->s k=gm a (xp (rt i) k) ^^^ gm b (xp (rt j) k)
def sy (l:List Nat) (k:Nat):Nat:=ev (ex k) l
theorem MQ(hb:Bys l)(k:Nat):sy l k<256:=QM _ _ hb
theorem JA(hl:l.length=64)(hb:Bys l)(i v:Nat)(hi:i<64)(hv:v<256)(k:Nat)(hk:k<6):sy (addAt l i v) k=sy l k ^^^ gm v (xp (rt i) k):=by
 unfold sy;rw[MP _ (D8 k) l hb i v om hv,hl,bk k i om]
theorem MR(hl:l.length=64)(i v:Nat)(hi:i<64)(h0:v≠0):ds l (addAt l i v)=1:=by
 have h:∀t,df l (addAt l i v) t=if t=i then v else 0:=by
  intro t;unfold df;rw[ES l i v t om,<-A9,BA,Nat.zero_xor]
 have:∀n,wt (df l (addAt l i v)) n=if i<n then 1 else 0:=by
  intro n
  induction n with
  | zero=>rfl
  | succ n ih=>
   simp only[wt,ih,h];by_cases e:n=i
   ·subst e;rw[AI om,AJ rfl,AI h0,AJ om]
   ·rw[AI e];by_cases e2:i<n
    ·rw[AJ e2,AJ rfl,AJ om]
    ·rw[AI e2,AJ rfl,AI om]
 unfold ds;rw[this 64,AJ hi]
theorem KT(hl:l.length=64)(i j a b:Nat)(hi:i<64)(hj:j<64)(hij:i≠j)(ha:a≠0)(hb:b≠0):ds l (addAt (addAt l i a) j b)=2:=by
 have h:∀t,df l (addAt (addAt l i a) j b) t=if t=i then a else if t=j then b else 0:=by
  intro t;unfold df;rw[ES _ j b t (by rw[Bi];omega),ES l i a t om];by_cases e:t=i
  ·rw[AJ e,AJ e,AI om,Aw,<-A9,BA,Nat.zero_xor]
  ·rw[AI e,AI e,Aw,<-A9,BA,Nat.zero_xor]
 have:∀n,wt (df l (addAt (addAt l i a) j b)) n=(if i<n then 1 else 0)+(if j<n then 1 else 0):=by
  intro n
  induction n with
  | zero=>rfl
  | succ n ih=>
   simp only[wt,ih,h];by_cases e:n=i
   ·subst e;rw[AJ rfl,AI ha,AI (Nat.lt_irrefl n),AJ (Nat.lt_succ_self n)];by_cases e2:j<n
    ·rw[AJ e2,AJ om]
    ·rw[AI e2,AI om]
   ·rw[AI e];by_cases e1:n=j
    ·subst e1;rw[AJ rfl,AI hb,AI (Nat.lt_irrefl n),AJ (Nat.lt_succ_self n)];by_cases e2:i<n
     ·rw[AJ e2,AJ om]
     ·rw[AI e2,AI om]
    ·rw[AI e1,AJ rfl];by_cases e2:i<n <;> by_cases e3:j<n
     ·rw[AJ e2,AJ e3,AJ om,AJ om]
     ·rw[AJ e2,AI e3,AJ om,AI om]
     ·rw[AI e2,AJ e3,AI om,AJ om]
     ·rw[AI e2,AI e3,AI om,AI om]
 unfold ds;rw[this 64,AJ hi,AJ hj]
def IsDec (l:List Nat) (r:Option (List Nat × Nat)):Prop:=
 (r=none/\∀c,Cw c->2<ds l c)\/(∃c,Cw c/\r=some (c.take 58,ds l c)/\ds l c<=2)
theorem IsDec.of{c:List Nat}(h:IsDec l r)(hc:Cw c)(hd:ds l c<=2):r=some (c.take 58,ds l c):=by
 rcases h with ⟨_,h⟩ | ⟨c',h',rfl,hd'⟩
 ·have:=h c hc;omega
 ·have e:c'=c:=KS h' hc (by have:=OO c' l c;rw[LD c' l] at this;omega);rw[e]
theorem IsDec.unique{r':Option (List Nat × Nat)}(h:IsDec l r)(h':IsDec l r'):r=r':=by
 rcases h' with ⟨rfl,hn⟩ | ⟨c,hc,rfl,hd⟩
 ·rcases h with ⟨rfl,_⟩ | ⟨c,hc,rfl,hd⟩
  ·rfl
  ·have:=hn c hc;omega
 ·exact h.of hc hd
theorem Tb(hl:l.length=64)(hb:Bys l)(h:∀k,k<6->sy l k=0):IsDec l (some (l.take 58,0)):=by
 right;exact⟨l,⟨hl,hb,h⟩,by rw[QP],by rw[QP];omega⟩
theorem Yd(hl:l.length=64)(hb:Bys l)(h:∃k,k<6/\sy l k≠0)(i a:Nat)(hi:i<64)(ha:a<256)(he:E1 (sy l) i a):IsDec l (some ((addAt l i a).take 58,1)):=by
 have a0:a≠0:=by
  intro e;obtain⟨k,hk,hs⟩:=h;apply hs;rw[he k hk,e,BQ]
 right;refine⟨addAt l i a,⟨by rw[Bi];exact hl,CV hb _ _ ha,?_⟩,?_,?_⟩
 ·intro k hk;have:=JA hl hb i a hi ha k hk;rw[he k hk,BA] at this;exact this
 ·rw[MR hl i a hi a0]
 ·rw[MR hl i a hi a0];omega
theorem Ye(hl:l.length=64)(hb:Bys l)(i j a b:Nat)(hi:i<64)(hj:j<64)(hij:i≠j)(ha:a<256)(hb':b<256)(a0:a≠0)(b0:b≠0)(he:E2 (sy l) i j a b) :IsDec l (some ((addAt (addAt l i a) j b).take 58,2)):=by
 right;refine⟨addAt (addAt l i a) j b,⟨by rw[Bi,Bi];exact hl,CV (CV hb _ _ ha) _ _ hb',?_⟩,?_,?_⟩
 ·intro k hk;have h1:=JA (l:=addAt l i a) (by rw[Bi];exact hl) (CV hb _ _ ha) j b hj hb' k hk;rw[JA hl hb i a hi ha k hk,he k hk] at h1;have h2:sy (addAt (addAt l i a) j b) k=0:=by
   rw[h1];have:∀x y:Nat,x ^^^ y ^^^ x ^^^ y=0:=by intro x y;rw[Nat.xor_comm x y,A9 y,BA,Aw,BA]
   exact this _ _
  exact h2
 ·rw[KT hl i j a b hi hj hij a0 b0]
 ·rw[KT hl i j a b hi hj hij a0 b0];omega
theorem Tc(hl:l.length=64)(hb:Bys l)(h0:∃k,k<6/\sy l k≠0)(h1:∀i a,i<64->a<256->¬ E1 (sy l) i a)(h2:∀i j a b,i<64->j<i->a<256->b<256->a≠0->b≠0->¬ E2 (sy l) i j a b):IsDec l none:=by
 left;refine⟨rfl,?_⟩;intro c hc;by_cases hd:2<ds l c
 ·exact hd
 exfalso;have hs:∀k,k<6->sy l k=sm (errs (df l c) 64) k:=by
  intro k hk;rw[QO,bo hl hc.1 hb hc.2.1 k hk,hc.2.2 k hk,Aw];rfl
 have hlen:=Er (df l c) 64;have hp:=KQ (df l c) 64 (AM _);have hm:∀p ∈ errs (df l c) 64,∃i,i<64/\p=(df l c i,rt i)/\df l c i≠0:=fun p hp=>GI hp
 change _=ds l c at hlen;generalize errs (df l c) 64=L at *
 match L,hs,hlen,hp,hm with
 | [],hs,_,_,_=>
  obtain⟨k,hk,hs0⟩:=h0;exact hs0 (hs k hk)
 | [p],hs,_,_,hm=>
  obtain⟨i,hi,rfl,hne⟩:=hm p (by simp);refine h1 i (df l c i) hi (KR hb hc.2.1 i) ?_;intro k hk;rw[hs k hk];show gm _ _ ^^^ 0=_;rw[Aw]
 | [p,q],hs,_,hp,hm=>
  obtain⟨i,hi,rfl,hne⟩:=hm p (by simp);obtain⟨j,hj,rfl,hne2⟩:=hm q (by simp);have hij:rt i≠rt j:=by
   simp only[map_cons,pairwise_cons] at hp;exact hp.1 _ (by simp)
  have hij':i≠j:=fun e=>hij (by rw[e]);have hE:E2 (sy l) i j (df l c i) (df l c j):=by
   intro k hk;rw[hs k hk];show gm _ _ ^^^ (gm _ _ ^^^ 0)=_;rw[Aw]
  by_cases hlt:j<i
  ·exact h2 i j _ _ hi hlt (KR hb hc.2.1 i) (KR hb hc.2.1 j) hne hne2 hE
  ·refine h2 j i _ _ hj om (KR hb hc.2.1 j) (KR hb hc.2.1 i) hne2 hne ?_;intro k hk;rw[hE k hk,Nat.xor_comm]
 | p :: q :: r :: t,_,hlen,_,_=>simp at hlen;omega
end
end Go.Proofs.YtbhbilcieodbhaaGreat
namespace Go.Proofs.YtbhbilcieodbhaaGreat
open List
open Go.Proofs.Tryz
open Go.RowKit
section
variable {b k k':Nat}{w u:Wd}{d m d' m':Int}
theorem JB(n:Nat)(h:n<9223372036854775808):IntKind.i64.wrap (n:Int)=n:=by
 simp[IntKind.wrap,IntKind.bits,IntKind.signed];omega
theorem KU(a:Nat)(ha:a<9223372036854775808):(BitVec.ofInt 64 (a:Int)).toNat=a:=by
 rw[BitVec.ofInt_natCast,BitVec.toNat_ofNat];exact Az om
theorem MS(a b:Nat)(ha:a<9223372036854775808)(hb:b<9223372036854775808):bits .xor .i64 (a:Int) (b:Int)=((a ^^^ b:Nat):Int):=by
 have hx:a ^^^ b<2 ^ 63:=Nat.xor_lt_two_pow om om;show IntKind.i64.wrap ((BitVec.ofInt 64 (a:Int) ^^^ BitVec.ofInt 64 (b:Int)).toNat:Int)=_;rw[BitVec.toNat_xor,KU a ha,KU b hb];exact JB _ om
def fcell (d m:Int) (k i:Nat):Value:=
 if i=0 then .int .u32 d else if i=1 then .int .i32 m else if i=2 then .int .u32 0 else
 if i<258 then .int .u8 (if i - 3<k then (ex (i - 3):Int) else 0) else
 .int .i64 (if i - 258≠0/\lg (i - 258)<k then (lg (i - 258):Int) else 0)
def Bm (d m:Int) (k:Nat):Array Value:=Array.ofFn (n:=514) fun i=>fcell d m k i.val
theorem Co(d m:Int)(k:Nat):(Bm d m k).size=514:=by simp[Bm]
theorem FN(d m:Int)(k i:Nat)(h:i<514):(Bm d m k)[i]?=some (fcell d m k i):=by
 simp[Bm,h]
theorem JC{a:Array Value}(hs:a.size=514)(h:∀i,i<514->a[i]?=some (fcell d m k i)):a=Bm d m k:=by
 apply Array.ext_getElem?;intro i;by_cases hi:i<514
 ·rw[h i hi,FN _ _ _ _ hi]
 ·rw[Array.getElem?_eq_none om,Array.getElem?_eq_none (by rw[Co];omega)]
def Cb (w:Wd) (b:Nat) (d m:Int) (k:Nat):Prop:=w.heap[b]?=some (.cells (Bm d m k) 316)
def Da (w:Wd) (b:Nat):Prop:=Cb w b 0 0 0\/Cb w b 1 0 255
def Fv (w:Wd) (b:Nat):Prop:=Cb w b 1 0 255
structure But (b:Nat) (w w':Wd):Prop where
 os:w'.os=w.os
 tape:w'.tape=w.tape
 output:w'.output=w.output
 size:w.heap.size<=w'.heap.size
 block:∀k,k<w.heap.size->k≠b->w'.heap[k]?=w.heap[k]?
theorem But.refl(b:Nat)(w:Wd):But b w w:=⟨rfl,rfl,rfl,AM _,fun _ _ _=>rfl⟩
theorem But.trans{v:Wd}(h:But b u v)(k:But b v w):But b u w:=
 ⟨k.os.trans h.os,k.tape.trans h.tape,k.output.trans h.output,AY h.size k.size,fun i hi hb=>(k.block i (Aj hi h.size) hb).trans (h.block i hi hb)⟩
theorem But.drew(h:But b u w):But b u w.drew:=⟨h.os,h.tape,h.output,h.size,h.block⟩
theorem But.setCell(h:But b u w)(o:Nat)(v:Value):But b u (w.setCell ⟨b,o,none⟩ v):=
 h.trans ⟨rfl,rfl,rfl,by simp[World.setCell],fun k _ hb=>Below.heap_setCell _ _ _ _ (by simpa using hb)⟩
theorem Cb.cell(h:Cb w b d m k)(i:Nat)(hi:i<514):w.cell? ⟨b,i,none⟩=some (fcell d m k i):=by
 have h':w.heap[b]?=some (.cells (Bm d m k) 316):=h;simp[World.cell?,h',FN _ _ _ _ hi]
theorem Cb.frozen(h:Cb w b d m k)(i:Nat):w.frozen? ⟨b,i,none⟩=false:=by
 have h':w.heap[b]?=some (.cells (Bm d m k) 316):=h;simp[World.frozen?,h']
theorem Cb.lt(h:Cb w b d m k):b<w.heap.size:=by
 have h':w.heap[b]?=some (.cells (Bm d m k) 316):=h;exact(Array.getElem?_eq_some_iff.1 h').1
theorem Cb.drew(h:Cb w b d m k):Cb w.drew b d m k:=h
theorem Cb.store(h:Cb w b d m k)(i:Nat)(v:Value)(hv:v=fcell d' m' k' i)(hi:i<514)(ho:∀j,j<514->j≠i->fcell d m k j=fcell d' m' k' j):Cb (w.setCell ⟨b,i,none⟩ v) b d' m' k':=by
 have h':w.heap[b]?=some (.cells (Bm d m k) 316):=h;have e:(Bm d m k).setIfInBounds i v=Bm d' m' k':=by
  apply JC
  ·simp[Co]
  ·intro j hj;by_cases hji:j=i
   ·subst hji;rw[Ay (by rw[Co];exact hj),hv]
   ·rw[Ah om,FN _ _ _ _ hj,ho j hj hji]
 show (w.setCell ⟨b,i,none⟩ v).heap[b]?=_;simp[World.setCell,Ai,h',e]
theorem Cb.store2(h:Cb w b d m k)(i i2:Nat)(v v2:Value)(hv:v=fcell d' m' k' i)(hv2:v2=fcell d' m' k' i2)(hi:i<514)(hi2:i2<514)(hne:i≠i2)(ho:∀j,j<514->j≠i->j≠i2->fcell d m k j=fcell d' m' k' j):Cb ((w.setCell ⟨b,i,none⟩ v).setCell ⟨b,i2,none⟩ v2) b d' m' k':=by
 have h':w.heap[b]?=some (.cells (Bm d m k) 316):=h;have e:((Bm d m k).setIfInBounds i v).setIfInBounds i2 v2=Bm d' m' k':=by
  apply JC
  ·simp[Co]
  ·intro j hj;by_cases hj2:j=i2
   ·subst hj2;rw[Ay (by simp[Co];exact hj),hv2]
   ·rw[Ah om];by_cases hji:j=i
    ·subst hji;rw[Ay (by rw[Co];exact hj),hv]
    ·rw[Ah om,FN _ _ _ _ hj,ho j hj hji hj2]
 show ((w.setCell ⟨b,i,none⟩ v).setCell ⟨b,i2,none⟩ v2).heap[b]?=_;simp[World.setCell,Ai,h',e]
theorem FO(d m:Int)(k i:Nat)(h:i<255):fcell d m k (3+i)=.int .u8 (if i<k then (ex i:Int) else 0):=by
 unfold fcell;rw[AI om,AI om,AI om,AJ om,show 3+i - 3=i from om]
theorem FP(d m:Int)(k a:Nat):fcell d m k (258+a)=.int .i64 (if a≠0/\lg a<k then (lg a:Int) else 0):=by
 unfold fcell;rw[AI om,AI om,AI om,AI om,show 258+a - 258=a from om]
theorem MT(d m:Int)(k:Nat)(hk:k<255)(j:Nat)(hj:j<514)(h1:j≠3+k)(h2:j≠258+ex k):fcell d m k j=fcell d m (k+1) j:=by
 by_cases e0:j<3
 ·rcases(by omega:j=0\/j=1\/j=2) with e | e | e <;> subst e <;> rfl
 by_cases e1:j<258
 ·obtain⟨i,rfl⟩:∃i,j=3+i:=⟨j - 3,om⟩;rw[FO _ _ _ _ om,FO _ _ _ _ om];by_cases h:i<k
  ·rw[AJ h,AJ om]
  ·rw[AI h,AI om]
 ·obtain⟨a,rfl⟩:∃a,j=258+a:=⟨j - 258,om⟩;rw[FP,FP];by_cases h:a≠0/\lg a<k
  ·rw[AJ h,AJ ⟨h.1,om⟩]
  ·rw[AI h,AI];rintro ⟨ha,hl⟩;have hlk:lg a=k:=by
    have:¬ lg a<k:=fun hh=>h ⟨ha,hh⟩;omega
   have:=TS a om ha;rw[hlk] at this;omega
theorem Fv.pow(h:Fv w b)(i:Nat)(hi:i<255):w.cell? ⟨b,3+i,none⟩=some (.int .u8 (ex i:Int)):=by
 rw[Cb.cell h _ om,FO _ _ _ _ hi,AJ hi]
theorem Fv.log(h:Fv w b)(a:Nat)(ha:a<256):w.cell? ⟨b,258+a,none⟩=some (.int .i64 (lg a:Int)):=by
 rw[Cb.cell h _ om,FP];by_cases h0:a=0
 ·subst h0;rw[AI (by simp),YZ];rfl
 ·rw[AJ ⟨h0,ID a ha⟩]
end
def pw (k:Nat):Nat:=if k<255 then ex k else 1
theorem QQ(k:Nat)(h:k<255):pw (k+1)=xt (ex k):=by
 unfold pw;by_cases e:k+1<255
 ·rw[AJ e,QL k om]
 ·have:k=254:=om
  subst this;rw[AI e,YY]
theorem jc(k:Nat)(h:k<255)(hh:256<=(ex k:Int)*2):Value.int IntKind.i64 (bits BinOp.xor IntKind.i64 (↑(ex k)*2) 285)=Value.int IntKind.i64 ↑(pw (k+1)):=by
 have hx:=D8 k;have e:bits BinOp.xor IntKind.i64 ((ex k:Int)*2) 285=((ex k*2 ^^^ 285:Nat):Int):=MS (ex k*2) 285 om om;rw[e,QQ k h];unfold xt;rw[AJ om]
theorem jd(k:Nat)(h:k<255)(hh:(ex k:Int)*2<256):Value.int IntKind.i64 (↑(ex k)*2)=Value.int IntKind.i64 ↑(pw (k+1)):=by
 rw[QQ k h];unfold xt;rw[AI om];congr 1
theorem Cb.round{wr:Wd}{b k:Nat}(hf:Cb wr b 0 1 k)(h:k<255) :Cb ((wr.setCell { block:=b,off:=3+k } (Value.int IntKind.u8 ↑(ex k))).setCell { block:=b,off:=258+ex k } (Value.int IntKind.i64 ↑k)) b 0 1 (k+1):=by
 have hx:=D8 k;refine Cb.store2 hf (3+k) (258+ex k) _ _ ?_ ?_ om om om (fun j hj h1 h2=>MT 0 1 k h j hj h1 h2)
 ·rw[FO _ _ _ _ h,AJ om]
 ·rw[FP,AJ ⟨MO k h,by rw[IC k h];omega⟩,IC k h]
theorem Td(b:Nat)(w:Wd)(h:Cb w b 0 1 0) :Calls prog 252 #[.pointer (some ⟨b,0,none⟩)] w fun e w'=>e=.returned (.tuple #[])/\Cb w' b 0 1 255/\But b w w':=by
 go_enter func252,ntmps252;go_wp2
 go_loopw [2,4] (fun p i wr=>∃k:Nat,k<=255/\i=.int .i64 k/\p=.int .i64 (pw k)/\Cb wr b 0 1 k/\But b w wr) (fun _ i _=>255 - (intOf i).toNat)
 case atStart=>exact⟨0,om,rfl,by simp[pw,Ie],h,But.refl _ _⟩
 case round=>
  obtain⟨k,hk,rfl,rfl,hf,hb⟩:=hrel;by_cases hlt:k<255
  ·have hp:pw k=ex k:=(by simp[pw,hlt]);rw[hp];have hx:=D8 k;have c1:=Cb.cell hf (3+k) om;have c2:=Cb.cell hf (258+ex k) om;have z1:=Cb.frozen hf (3+k);have z2:=Cb.frozen hf (258+ex k);generalize fcell 0 1 k (3+k)=v1 at c1;generalize fcell 0 1 k (258+ex k)=v2 at c2;clear hp;go_wp2
   ·exact⟨⟨k+1,om,by go_num,jc k hlt ‹_›,Cb.round hf hlt,(hb.setCell _ _).setCell _ _⟩,by simp[intOf];omega⟩
   ·exact⟨⟨k+1,om,by go_num,jd k hlt ‹_›,Cb.round hf hlt,(hb.setCell _ _).setCell _ _⟩,by simp[intOf];omega⟩
  ·have e:k=255:=om;subst e;go_wp2;go_end0;exact⟨rfl,hf,hb⟩
section
variable {w:Wd}{b k:Nat}{m d:Int}
theorem disable(w:Wd):(callFunc 282 #[]).run prog w=.ok (.value (.tuple #[])) w:=run_call_mark0 func282 kr kr kr .disable kr w
theorem enable(w:Wd):(callFunc 284 #[]).run prog w=.ok (.value (.tuple #[])) w:=run_call_mark0 func284 kr kr kr .enable kr w
theorem acquire(a:Addr)(w:Wd):(callFunc 285 #[.pointer (some a)]).run prog w=.ok (.value (.tuple #[])) w:=run_call_marked func285 kr kr kr .acquire kr a w
theorem releaseMerge(a:Addr)(w:Wd):(callFunc 287 #[.pointer (some a)]).run prog w=.ok (.value (.tuple #[])) w:=run_call_marked func287 kr kr kr .releaseMerge kr a w
theorem JD(a:Addr)(x:Value)(u:FrameMode)(w:Wd)(hc:w.cell? a=some x)(hz:w.frozen? a=false) :CallsD prog 274 #[.pointer (some a),.bool true] u w fun e u' w'=>u'=u/\(e=.returned (.tuple #[])/\w'=w.drew.setCell a (.int .u32 1)):=by
 have hc':w.drew.cell? a=some x:=by go_simp
 have hz':w.drew.frozen? a=false:=by go_simp
 have hst:=run_call_store (P:=prog) func279 kr kr kr kr (k:=.u32) (y:=1) hc' hz'
 go_enter_d func274,ntmps274;go_wp2
 go_region_calls
 all_goals (go_end0;exact⟨rfl,rfl⟩)
theorem IV(a:Addr)(u:FrameMode)(w:Wd)(hc:w.cell? a=some (.int .i32 1))(hz:w.frozen? a=false) :CallsD prog 273 #[.pointer (some a)] u w fun e u' w'=>u'=u/\(e=.returned (.tuple #[])/\w'=w.setCell a (.int .i32 0)):=by
 have hd:=disable;have he:=enable;have hr:=releaseMerge;have hadd:=run_call_add (P:=prog) func288 kr kr kr .i32 kr (y:=-1) (s:=0) hc hz (by simp[go_sem];rfl);have hcv:=run_convert_to_unsafe (P:=prog) (src:=368) (dst:=372) underlying368 underlying372 kr hc
 go_enter_d func273,ntmps273;go_wp2;go_end0;go_wp2;go_end0;exact⟨rfl,rfl⟩
theorem RO(a:Addr)(w:Wd)(hc:w.cell? a=some (.int .i32 0))(hz:w.frozen? a=false) :Calls prog 272 #[.pointer (some a)] w fun e w'=>e=.returned (.tuple #[])/\w'=w.setCell a (.int .i32 1):=by
 have hd:=disable;have he:=enable;have ha:=acquire;have hcas:=run_call_cas_hit (P:=prog) func283 kr kr kr .i32 kr (y:=1) hc hz;have hc':(w.setCell a (.int .i32 1)).cell? a=some (.int .i32 1):=World.cell?_setCell_same w a _ hc;have hcv:=run_convert_to_unsafe (P:=prog) (src:=368) (dst:=372) underlying368 underlying372 kr hc';go_enter func272,ntmps272;go_wp2
 first | go_end0 | (simp only[Exit.inBlock,Exit.then];refine AZ (results_none rfl _ _ _) rfl ?_) | refine AZ (results_none rfl _ _ _) rfl ?_
 go_wp2;go_end0;exact⟨rfl,rfl⟩
theorem Cb.locked(h:Cb w b d 0 k):Cb (w.setCell ⟨b,1,none⟩ (.int .i32 m)) b d m k:=by
 refine Cb.store h 1 _ (by simp[fcell]) om (fun j hj h1=>?_);simp[fcell,h1]
theorem Cb.unlocked(h:Cb w b d m k):Cb (w.setCell ⟨b,1,none⟩ (.int .i32 0)) b d 0 k:=by
 refine Cb.store h 1 _ (by simp[fcell]) om (fun j hj h1=>?_);simp[fcell,h1]
theorem Cb.done(h:Cb w b 0 m k):Cb (w.setCell ⟨b,0,none⟩ (.int .u32 1)) b 1 m k:=by
 refine Cb.store h 0 _ (by simp[fcell]) om (fun j hj h1=>?_);simp[fcell,h1]
end
theorem Te(b:Nat)(w:Wd)(h:Cb w b 0 0 0) :Calls prog 265 #[.pointer (some ⟨b,0,none⟩),.func (.func 252) #[.pointer (some ⟨b,0,none⟩)] #[]] w fun e w'=>e=.returned (.tuple #[])/\Fv w' b/\But b w w':=by
 have h1:=Cb.cell h 1 om;rw[show fcell 0 0 0 1=.int .i32 0 from rfl] at h1;have f1:=Cb.frozen h 1;have hL:=Cb.locked (m:=1) h;have h0L:=Cb.cell hL 0 om;rw[show fcell 0 1 0 0=.int .u32 0 from rfl] at h0L;have hl:=run_call_load (P:=prog) func271 kr kr kr .u32 kr (w:=w.setCell ⟨b,1,none⟩ (.int .i32 1)) (a:=⟨b,0,none⟩) (x:=0) h0L;have hnot:∀(x:Bool) (w:Wd),(Op.unary .not (.bool x)).run prog w=.ok (.bool (!x)) w:=fun _ _=>rfl;clear h0L
 go_enter_defers func265,ntmps265;go_wp2_with (first | (go_at_call 272;refine(RO ⟨b,1,none⟩ _ h1 f1).mono ?_;rintro e w' ⟨rfl,rfl⟩) | (go_at_call 264;go_in) | (go_at_call 252;refine(Td b _ hL).mono ?_;rintro e w' ⟨rfl,hF,hB⟩));have k0:=Cb.cell hF 0 om;have z0:=Cb.frozen hF 0;rw[show fcell 0 1 255 0=.int .u32 0 from rfl] at k0;have hD:Cb (w'.drew.setCell ⟨b,0,none⟩ (.int .u32 1)) b 1 1 255:=Cb.done (w:=w'.drew) hF;have k1:=Cb.cell hD 1 om;have z1:=Cb.frozen hD 1;rw[show fcell 1 1 255 1=.int .i32 1 from rfl] at k1;have hE:Fv ((w'.drew.setCell ⟨b,0,none⟩ (.int .u32 1)).setCell ⟨b,1,none⟩ (.int .i32 0)) b:=Cb.unlocked hD;have hG:But b w ((w'.drew.setCell ⟨b,0,none⟩ (.int .u32 1)).setCell ⟨b,1,none⟩ (.int .i32 0)):=((((But.refl b w).setCell 1 _).trans hB).drew.setCell 0 _).setCell 1 _;refine leaves_cons (f:=274) (args:=#[.pointer (some ⟨b,0,none⟩),.bool true]) (by simp) (by simp[go_sem]) ?_;refine(JD ⟨b,0,none⟩ (.int .u32 0) .returning _ k0 z0).mono ?_;rintro e u' w'' ⟨rfl,rfl,rfl⟩;refine leaves_cons (f:=273) (args:=#[.pointer (some ⟨b,1,none⟩)]) (by simp[settle]) (by simp[go_sem]) ?_;refine(IV ⟨b,1,none⟩ _ _ k1 z1).mono ?_;rintro e u' w'' ⟨rfl,rfl,rfl⟩;simp[Leaves,settle,results,results265];exact⟨hE,hG⟩
theorem Tf(b:Nat)(w:Wd)(h:Cb w b 0 0 0) :Calls prog 251 #[.pointer (some ⟨b,0,none⟩),.func (.func 252) #[.pointer (some ⟨b,0,none⟩)] #[]] w fun e w'=>e=.returned (.tuple #[])/\Fv w' b/\But b w w':=by
 have h0:=Cb.cell h 0 om;rw[show fcell 0 0 0 0=.int .u32 0 from rfl] at h0;have hl:=run_call_load (P:=prog) func271 kr kr kr .u32 kr h0;have hnot:∀(x:Bool) (w:Wd),(Op.unary .not (.bool x)).run prog w=.ok (.bool (!x)) w:=fun _ _=>rfl;go_enter func251,ntmps251;go_wp2_with (first | (go_at_call 265;refine(Te b _ h).mono ?_;rintro e w' ⟨rfl,hF,hB⟩) | (go_at_call 264;go_in));go_end0;exact⟨rfl,hF,hB⟩
theorem Yf(b:Nat)(fv:Value)(w:Wd)(h:Fv w b) :Calls prog 251 #[.pointer (some ⟨b,0,none⟩),fv] w fun e w'=>e=.returned (.tuple #[])/\w'=w:=by
 have h0:=Cb.cell h 0 om;rw[show fcell 1 0 255 0=.int .u32 1 from rfl] at h0;have hl:=run_call_load (P:=prog) func271 kr kr kr .u32 kr h0;have hnot:∀(x:Bool) (w:Wd),(Op.unary .not (.bool x)).run prog w=.ok (.bool (!x)) w:=fun _ _=>rfl;go_enter func251,ntmps251;go_wp2;go_end0;exact⟨rfl,rfl⟩
theorem FQ(b:Nat)(w:Wd)(h:Da w b) :Calls prog 225 #[.pointer (some ⟨b,0,none⟩)] w fun e w'=>e=.returned (.tuple #[])/\Fv w' b/\But b w w':=by
 have hmf:∀(fn:Fn) (first cap:Array Value) (w:Wd),(Instr.makeFunc fn first cap).run prog w=.ok (.func fn first cap) w:=fun _ _ _ _=>rfl;rcases h with h | h
 ·have c0:=Cb.cell h 0 om;go_enter func225,ntmps225;go_wp2_with (go_at_call 251;refine(Tf b _ h).mono ?_;rintro e w' ⟨rfl,hF,hB⟩);go_end0;exact⟨rfl,hF,hB⟩
 ·have c0:=Cb.cell h 0 om;go_enter func225,ntmps225;go_wp2_with (go_at_call 251;refine(Yf b _ _ h).mono ?_;rintro e w' ⟨rfl,rfl⟩);go_end0;exact⟨rfl,h,But.refl _ _⟩
section
variable (w:Wd)
theorem OP:(zeroValue 316).run prog w=.ok (.agg (Bm 0 0 0)) w:=kr
theorem GK :Calls prog 193 #[] w fun e w'=>e=.returned (.pointer (some ⟨w.heap.size,0,none⟩))/\w'=w.alloc (.cells (Bm 0 0 0) 316):=by
 have hb:=OP;go_enter func193,ntmps193;go_wp2;go_ret;exact⟨rfl,rfl⟩
theorem Da.new:Da (w.alloc (.cells (Bm 0 0 0) 316)) w.heap.size:=by
 left;show (w.heap.push _)[w.heap.size]?=_;simp
theorem FR(b:Nat)(w:Wd)(h:Da w b)(x y:Nat)(hx:x<256)(hy:y<256) :Calls prog 224 #[.pointer (some ⟨b,0,none⟩),.int .u8 (x:Int),.int .u8 (y:Int)] w fun e w'=>e=.returned (.int .u8 (gm x y:Nat))/\Da w' b/\But b w w':=by
 by_cases x0:x=0
 ·subst x0;go_enter func224,ntmps224;go_wp2;go_ret;exact⟨by rw[BQ];rfl,h,But.refl _ _⟩
 by_cases y0:y=0
 ·subst y0;have hx0:((x:Int) == 0)=false:=by simp;omega
  go_enter func224,ntmps224;go_wp2;go_ret;exact⟨by rw[CA];rfl,h,But.refl _ _⟩
 have hx0:((x:Int) == 0)=false:=by simp;omega
 have hy0:((y:Int) == 0)=false:=by simp;omega
 have lx:=ID x hx;have ly:=ID y hy;have hg:=Ca x0 y0;have HG:Hid (gm x y=ex ((lg x+lg y) % 255)):=hg;clear hg;go_enter func224,ntmps224;go_wp2_with (go_at_call 225;refine(FQ b _ h).mono ?_;rintro e w' ⟨rfl,hF,hB⟩);have c1:=Fv.log hF x hx;have c2:=Fv.log hF y hy;have c3:=Fv.pow hF ((lg x+lg y) % 255) (Nat.mod_lt _ dc);go_region;go_wp2;go_ret;exact⟨by rw[HG.out];rfl,AL hF.drew,hB.drew⟩
def exZ (k:Int):Nat:=ex (k % 255).toNat
theorem MU(k:Int)(h:0<=k):k.tmod 255=k % 255:=Av h
theorem MV(k:Int)(h:k<0):k.tmod 255 = - ((-k) % 255):=by
 rw[<-Av om,Int.neg_tmod,Int.neg_neg]
theorem Yg(k:Int)(h:k.tmod 255<0):((k.tmod 255+255).toNat)=(k % 255).toNat/\-255<k.tmod 255:=by
 have h0:k<0:=by
  by_cases e:0<=k
  ·rw[MU k e] at h;omega
  ·omega
 rw[MV k h0] at h ⊢;omega
theorem Yh(k:Int)(h:0<=k.tmod 255):((k.tmod 255).toNat)=(k % 255).toNat/\k.tmod 255<255:=by
 by_cases e:0<=k
 ·rw[MU k e] at h ⊢;omega
 ·rw[MV k om] at h ⊢;omega
theorem Ig(b:Nat)(w:Wd)(h:Da w b)(k:Int) :Calls prog 195 #[.pointer (some ⟨b,0,none⟩),.int .i64 k] w fun e w'=>e=.returned (.int .u8 (exZ k:Nat))/\Da w' b/\But b w w':=by
 by_cases hn:k.tmod 255<0
 ·obtain⟨e1,e2⟩:=Yg k hn;have E1:Hid ((k.tmod 255+255).toNat=(k % 255).toNat):=e1;clear e1;go_enter func195,ntmps195;go_wp2_with (go_at_call 225;refine(FQ b _ h).mono ?_;rintro e w' ⟨rfl,hF,hB⟩;have c1:w'.cell? ⟨b,3+(k.tmod 255+255).toNat,none⟩=some (.int .u8 (exZ k:Nat)):=(by rw[E1.out];exact Fv.pow hF _ om));go_ret;exact⟨rfl,AL hF,hB⟩
 ·obtain⟨e1,e2⟩:=Yh k om;have E1:Hid ((k.tmod 255).toNat=(k % 255).toNat):=e1;have hn':0<=k.tmod 255:=om
  clear e1;go_enter func195,ntmps195;go_wp2_with (go_at_call 225;refine(FQ b _ h).mono ?_;rintro e w' ⟨rfl,hF,hB⟩;have c1:w'.cell? ⟨b,3+(k.tmod 255).toNat,none⟩=some (.int .u8 (exZ k:Nat)):=(by rw[E1.out];exact Fv.pow hF _ om));go_ret;exact⟨rfl,AL hF,hB⟩
theorem Yi(b:Nat)(w:Wd)(h:Da w b)(x:Nat)(hx:x<256)(x0:x≠0) :Calls prog 281 #[.pointer (some ⟨b,0,none⟩),.int .u8 (x:Int)] w fun e w'=>e=.returned (.tuple #[.int .i64 (lg x:Nat),.nilIface])/\Da w' b/\But b w w':=by
 have hx0:((x:Int) == 0)=false:=by simp;omega
 go_enter func281,ntmps281;go_wp2_with (go_at_call 225;refine(FQ b _ h).mono ?_;rintro e w' ⟨rfl,hF,hB⟩;have c1:=Fv.log hF x hx);go_ret2;exact⟨rfl,AL hF,hB⟩
theorem dF(x:Nat)(hx:x<256):exZ (-(lg x:Int))=iv x:=by
 unfold exZ iv;have:=ID x hx;congr 1;omega
theorem Yj(b:Nat)(w:Wd)(h:Da w b)(x:Nat)(hx:x<256)(x0:x≠0) :Calls prog 275 #[.pointer (some ⟨b,0,none⟩),.int .u8 (x:Int)] w fun e w'=>e=.returned (.tuple #[.int .u8 (iv x:Nat),.nilIface])/\Da w' b/\But b w w':=by
 have lx:=ID x hx;have HE:Hid (exZ (-(lg x:Int))=iv x):=dF x hx;go_enter func275,ntmps275;go_wp2_with (first | (go_at_call 281;refine(Yi b _ h x hx x0).mono ?_;rintro e w' ⟨rfl,hF,hB⟩) | (go_at_call 195;refine(Ig b _ hF _).mono ?_;rintro e w'' ⟨rfl,hF',hB'⟩));go_ret2;exact⟨by rw[HE.out];rfl,hF',hB.trans hB'⟩
theorem Yk(b:Nat)(w:Wd)(h:Da w b)(x y:Nat)(hx:x<256)(hy:y<256)(y0:y≠0) :Calls prog 269 #[.pointer (some ⟨b,0,none⟩),.int .u8 (x:Int),.int .u8 (y:Int)] w fun e w'=>e=.returned (.tuple #[.int .u8 (gm x (iv y):Nat),.nilIface])/\Da w' b/\But b w w':=by
 have ly:=jW y;go_enter func269,ntmps269;go_wp2_with (first | (go_at_call 275;refine(Yj b _ h y hy y0).mono ?_;rintro e w' ⟨rfl,hF,hB⟩) | (go_at_call 224;refine(FR b _ hF x (iv y) hx ly).mono ?_;rintro e w'' ⟨rfl,hF',hB'⟩));go_ret2;exact⟨rfl,hF',hB.trans hB'⟩
end
section
variable {b:Nat}{w w':Wd}
def Rd (w:Wd) (b:Nat) (a:Option Addr) (l:List Nat):Prop:=
 Bys l/\(l=[]\/∃c o,a=some ⟨c,o,none⟩/\c≠b/\c<w.heap.size/\∀i,i<l.length->w.cell? ⟨c,o+i,none⟩=some (.int .u8 (l.getD i 0:Nat)))
theorem But.cell(h:But b w w'){c:Nat}(hc:c<w.heap.size)(hb:c≠b)(o:Nat):w'.cell? ⟨c,o,none⟩=w.cell? ⟨c,o,none⟩:=
 Ag (w:=w) (h.block c hc hb)
theorem Rd.but{a:Option Addr}{l:List Nat}(h:Rd w b a l)(hB:But b w w'):Rd w' b a l:=by
 refine⟨h.1,?_⟩;rcases h.2 with h | ⟨c,o,ha,hc,hs,hcell⟩
 ·exact AK h
 ·exact AL ⟨c,o,ha,hc,Aj hs hB.size,fun i hi=>(hB.cell hs hc _).trans (hcell i hi)⟩
theorem Th(b:Nat)(w:Wd)(h:Da w b)(a:Option Addr)(cap:Nat)(x:Int) :Calls prog 266 #[.pointer (some ⟨b,0,none⟩),.slice a 0 cap,.int .u8 x] w fun e w'=>e=.returned (.int .u8 0)/\Da w' b/\But b w w':=by
 go_enter func266,ntmps266;go_wp2
 go_loop [7,12] (fun s i=>s=.int .u8 0/\i=.int .i64 0) (fun _ _=>0)
 case atStart=>exact⟨rfl,rfl⟩
 case round=>
  obtain⟨rfl,rfl⟩:=hrel;go_wp2;go_ret;exact⟨rfl,h,But.refl _ _⟩
theorem RP(b:Nat)(w:Wd)(h:Da w b)(c o cap:Nat)(l:List Nat)(x:Nat)(hx:x<256)(hl:Bys l)(hc:c≠b)(hs:c<w.heap.size)(hlen:l.length<=9223372036854775807)(hcell:∀i,i<l.length->w.cell? ⟨c,o+i,none⟩=some (.int .u8 (l.getD i 0:Nat))) :Calls prog 266 #[.pointer (some ⟨b,0,none⟩),.slice (some ⟨c,o,none⟩) l.length cap,.int .u8 (x:Int)] w fun e w'=>e=.returned (.int .u8 (ev x l:Nat))/\Da w' b/\But b w w':=by
 have HC:Hid (∀i,i<l.length->w.cell? ⟨c,o+i,none⟩=some (.int .u8 (l.getD i 0:Nat))):=hcell;clear hcell;go_enter func266,ntmps266;go_wp2
 go_loopw [7,12] (fun s i wr=>∃k:Nat,k<=l.length/\i=.int .i64 k/\s=.int .u8 (ev x (l.take k):Nat)/\Da wr b/\But b w wr) (fun _ i _=>l.length - (intOf i).toNat)
 case atStart=>exact⟨0,om,rfl,rfl,h,But.refl _ _⟩
 case round=>
  obtain⟨k,hk,rfl,rfl,hF,hB⟩:=hrel;by_cases hlt:k<l.length
  ·have hc1:wr.cell? ⟨c,o+k,none⟩=some (.int .u8 (l.getD k 0:Nat)):=(hB.cell hs hc _).trans (HC.out k hlt);have he:=I9 x l hl k hk;have hd:=hl.getD k;have e1:=u8_xor_nat (gm (ev x (l.take k)) x) (l.getD k 0) (Bh _ _) hd;have HE:Hid (ev x (l.take (k+1))=gm (ev x (l.take k)) x ^^^ l.getD k 0):=If x l k hlt;generalize l.getD k 0=d at *
   generalize ev x (l.take k)=s at *
   go_wp2_with (go_at_call 224;refine(FR b _ hF s x he hx).mono ?_;rintro e w' ⟨rfl,hF',hB'⟩);exact⟨⟨k+1,om,by go_num,by rw[HE.out],hF',hB.trans hB'⟩,by simp[intOf];omega⟩
  ·have e:k=l.length:=om;have HK:Hid (k=l.length):=e;clear e;go_wp2_with fail;go_ret;exact⟨by rw[HK.out,take_length];rfl,hF,hB⟩
theorem Ti(b:Nat)(w:Wd)(h:Da w b)(a:Option Addr)(n cap:Nat)(l:List Nat)(hn:n=l.length)(hlen:l.length<=9223372036854775807)(x:Nat)(hx:x<256)(hr:Rd w b a l) :Calls prog 266 #[.pointer (some ⟨b,0,none⟩),.slice a n cap,.int .u8 (x:Int)] w fun e w'=>e=.returned (.int .u8 (ev x l:Nat))/\Da w' b/\But b w w':=by
 subst hn;obtain⟨hl,h0 | ⟨c,o,rfl,hc,hs,hcell⟩⟩:=hr
 ·subst h0;exact Th b w h a cap x
 ·exact RP b w h c o cap l x hx hl hc hs hlen hcell
end
section
variable {w w' u:Wd}{b g:Nat}{l:List Nat}
def bcells (l:List Nat):Array Value:=(l.map fun (n:Nat)=>Value.int .u8 (n:Int)).toArray
theorem Ba(l:List Nat):(bcells l).size=l.length:=by simp[bcells]
theorem EB(l:List Nat)(i:Nat)(h:i<l.length):(bcells l)[i]?=some (.int .u8 (l.getD i 0:Nat)):=by
 simp[bcells,AQ,AU h]
theorem JE(l:List Nat)(i v:Nat):(bcells l).setIfInBounds i (.int .u8 (v:Int))=bcells (l.set i v):=by
 apply Array.ext';simp[bcells,map_set]
def FT (w:Wd) (g:Nat) (l:List Nat):Prop:=w.heap[g]?=some (.cells (bcells l) 5)
theorem FT.cell(h:FT w g l)(i:Nat)(hi:i<l.length):w.cell? ⟨g,i,none⟩=some (.int .u8 (l.getD i 0:Nat)):=by
 have h':w.heap[g]?=some (.cells (bcells l) 5):=h;simp only[World.cell?,h',EB l i hi];simp
theorem FT.frozen(h:FT w g l)(i:Nat):w.frozen? ⟨g,i,none⟩=false:=by
 have h':w.heap[g]?=some (.cells (bcells l) 5):=h;simp[World.frozen?,h']
theorem FT.lt(h:FT w g l):g<w.heap.size:=by
 have h':w.heap[g]?=some (.cells (bcells l) 5):=h;exact(Array.getElem?_eq_some_iff.1 h').1
theorem FT.store(h:FT w g l)(i v:Nat):FT (w.setCell ⟨g,i,none⟩ (.int .u8 (v:Int))) g (l.set i v):=by
 have h':w.heap[g]?=some (.cells (bcells l) 5):=h;show (w.setCell ⟨g,i,none⟩ (.int .u8 (v:Int))).heap[g]?=_;simp[World.setCell,Ai,h',JE]
theorem FT.but(h:FT w g l)(hB:But b w w')(hg:g≠b):FT w' g l:=(hB.block g h.lt hg).trans h
theorem FT.drew(h:FT w g l):FT w.drew g l:=h
theorem FT.rd(h:FT w g l)(hl:Bys l)(hg:g≠b):Rd w b (some ⟨g,0,none⟩) l:=
 ⟨hl,AL ⟨g,0,rfl,hg,h.lt,fun i hi=>by rw[AW];exact h.cell i hi⟩⟩
theorem Da.drew(h:Da w b):Da w.drew b:=h
theorem Da.lt(h:Da w b):b<w.heap.size:=by
 rcases h with h | h
 ·exact h.lt
 ·exact h.lt
theorem Cb.other{d m:Int}{k:Nat}(h:Cb w b d m k)(e:w'.heap[b]?=w.heap[b]?):Cb w' b d m k:=e.trans h
theorem Da.other(h:Da w b)(e:w'.heap[b]?=w.heap[b]?):Da w' b:=by
 rcases h with h | h
 ·exact AK (h.other e)
 ·exact AL (h.other e)
theorem But.alloc(h:But b u w)(o:Obj):But b u (w.alloc o):=
 h.trans ⟨rfl,rfl,rfl,by simp,fun k hk _=>Below.heap_alloc _ _ _ hk⟩
theorem But.setNew(h:But b u w)(hg:u.heap.size<=g)(o:Nat)(v:Value):But b u (w.setCell ⟨g,o,none⟩ v):=
 ⟨h.os,h.tape,h.output,by simp[World.setCell];exact h.size,fun k hk hb=>(Below.heap_setCell _ _ _ _ (by simp;omega)).trans (h.block k hk hb)⟩
theorem FT.new(w:Wd)(l:List Nat):FT (w.alloc (.cells (bcells l) 5)) w.heap.size l:=by
 show (w.heap.push _)[w.heap.size]?=_;simp
theorem Da.alloc(h:Da w b)(o:Obj):Da (w.alloc o) b:=h.other (Below.heap_alloc _ _ _ h.lt)
theorem Da.setOther(h:Da w b)(hg:g≠b)(o:Nat)(v:Value):Da (w.setCell ⟨g,o,none⟩ v) b:=
 h.other (Below.heap_setCell _ _ _ _ (by simp;omega))
theorem RQ:(prog.info? 5).map (fun i=>(i.zero,i.size,i.bytes))=some (some (.int .u8 0),1,1):=kr
theorem Fp:∃i,prog.info? 5=some i/\i.zero=some (.int .u8 0)/\i.size=1/\i.bytes=1:=by
 have h:=RQ;cases e:prog.info? 5 with
 | none=>rw[e] at h;cases h
 | some i=>
  rw[e] at h;simp only[Option.map_some,Option.some.injEq,Prod.mk.injEq] at h;exact⟨i,rfl,h.1,h.2.1,h.2.2⟩
theorem EU(n:Nat):madeCells (Value.int .u8 0).cells n=bcells (List.replicate n 0):=by
 apply Array.ext_getElem?;intro i;by_cases h:i<n
 ·rw[EB _ _ (by simpa using h)];simp[madeCells,Value.cells,h,Nat.mod_one]
 ·rw[Array.getElem?_eq_none (by rw[size_madeCells];omega),Array.getElem?_eq_none (by rw[Ba];simp;omega)]
theorem Cx(w:Wd)(L:Int)(n:Nat)(hL:L=n)(hn:n<=281474976710656) :(Instr.makeSlice 35 (.int .i64 L) (.int .i64 L)).run prog w=.ok (.slice (some ⟨w.heap.size,0,none⟩) n n) (w.alloc (.cells (bcells (List.replicate n 0)) 5)):=by
 obtain⟨i,h1,h2,h3,h4⟩:=Fp;have h:=run_make (P:=prog) w 35 5 i (.int .u8 0) underlying35 h1 h2 .i64 .i64 L L om om (by rw[h4];omega) om;rw[h,hL,h3,AP,Nat.mul_one,EU]
theorem OQ(b:Nat)(w:Wd)(h:Da w b)(c o cap c2 o2 cap2:Nat)(p q:List Nat)(hp:Bys p)(hq:Bys q)(hc:c≠b)(hs:c<w.heap.size)(hc2:c2≠b)(hs2:c2<w.heap.size)(p0:p.length≠0)(q0:q.length≠0)(n:Nat)(hn:n=p.length+q.length - 1)(hlen:p.length<=140737488351232)(hlen2:q.length<=140737488351232)(hcell:∀i,i<p.length->w.cell? ⟨c,o+i,none⟩=some (.int .u8 (p.getD i 0:Nat)))(hcell2:∀i,i<q.length->w.cell? ⟨c2,o2+i,none⟩=some (.int .u8 (q.getD i 0:Nat))) :Calls prog 194 #[.pointer (some ⟨b,0,none⟩),.slice (some ⟨c,o,none⟩) p.length cap,.slice (some ⟨c2,o2,none⟩) q.length cap2] w fun e w'=>e=.returned (.slice (some ⟨w.heap.size,0,none⟩) n n)/\FT w' w.heap.size (tm p q)/\Da w' b/\But b w w':=by
 have HC:Hid (∀i,i<p.length->w.cell? ⟨c,o+i,none⟩=some (.int .u8 (p.getD i 0:Nat))):=hcell;have HC2:Hid (∀i,i<q.length->w.cell? ⟨c2,o2+i,none⟩=some (.int .u8 (q.getD i 0:Nat))):=hcell2;clear hcell hcell2;have hb:=h.lt;have hgb:w.heap.size≠b:=om
 have hp0:((p.length:Int) == 0)=false:=by rw[beq_eq_false_iff_ne];omega
 have hq0:((q.length:Int) == 0)=false:=by rw[beq_eq_false_iff_ne];omega
 have hmk:=Cx w ((p.length:Int)+q.length - 1) n om om;have hB0:But b w (w.alloc (.cells (bcells (List.replicate n 0)) 5)):=(But.refl _ _).alloc _;have hF0:=h.alloc (.cells (bcells (List.replicate n 0)) 5);have hP0:FT (w.alloc (.cells (bcells (List.replicate n 0)) 5)) w.heap.size (DJ p q 0):=by rw[hn];exact FT.new w _
 have HT:Hid (tm p q=DJ p q p.length):=by unfold tm;rw[AI om];exact rfl
 have HN:Hid (n=p.length+q.length - 1):=hn;clear hn;go_enter func194,ntmps194;go_wp2
 go_loopw [29] (fun t wr=>∃i:Nat,i<=p.length/\t=.int .i64 i/\FT wr w.heap.size (DJ p q i)/\Da wr b/\But b w wr) (fun t _=>p.length - (intOf t).toNat)
 case atStart=>exact⟨0,om,rfl,hP0,hF0,hB0⟩
 case round=>
  clear hmk hB0 hF0 hP0;obtain⟨i,hi,rfl,hP,hF,hB⟩:=hrel;by_cases hlt:i<p.length
  ·have hc1:wr.cell? ⟨c,o+i,none⟩=some (.int .u8 (p.getD i 0:Nat)):=(hB.cell hs hc _).trans (HC.out i hlt);have hd:=hp.getD i;have HO:Hid (DJ p q (i+1)=inner (p.getD i 0) q i (DJ p q i) q.length):=rfl;generalize p.getD i 0=d at *
   go_wp2
   go_loopw [36] (fun t wx=>∃j:Nat,j<=q.length/\t=.int .i64 j/\FT wx w.heap.size (inner d q i (DJ p q i) j)/\Da wx b/\But b w wx) (fun t _=>q.length - (intOf t).toNat)
   case atStart=>exact⟨0,om,rfl,hP,hF,hB⟩
   case round=>
    clear hc1 hP hF hB;obtain⟨j,hj,rfl,hP,hF,hB⟩:=hrel;by_cases hlt2:j<q.length
    ·have hc1:wr.cell? ⟨c2,o2+j,none⟩=some (.int .u8 (q.getD j 0:Nat)):=(hB.cell hs2 hc2 _).trans (HC2.out j hlt2);have hd2:=hq.getD j;have HJ:Hid (inner d q i (DJ p q i) (j+1)=addAt (inner d q i (DJ p q i) j) (i+j) (gm d (q.getD j 0))):=rfl;generalize q.getD j 0=d2 at *
     generalize hIL:inner d q i (DJ p q i) j=L at *
     have hLlen:L.length=n:=(by rw[<-hIL,CW,GH,HN.out]);have hLb:Bys L:=(by rw[<-hIL];exact D9 _ _ _ _ (KP p q i) j);have HIL:Hid (inner d q i (DJ p q i) (j+1)=addAt L (i+j) (gm d d2)):=HJ.out;clear hIL HJ;have hij:i+j<L.length:=(by have:=HN.out;omega);have hb1:(0:Int)<=(i:Int)+(j:Int):=om;have hb2:(i:Int)+(j:Int)<(n:Int):=om;have hm:=hLb.getD (i+j);have hcn:=hP.cell (i+j) hij;have hfn:=hP.frozen (i+j);have HAD:Hid (addAt L (i+j) (gm d d2)=L.set (i+j) (L.getD (i+j) 0 ^^^ gm d d2)):=rfl;generalize hM:L.getD (i+j) 0=m at *
     have HM:Hid (L.getD (i+j) 0=m):=hM;clear hM;have e1:=u8_xor_nat m (gm d d2) hm (Bh _ _);have HLL:Hid (L.length=n):=hLlen;clear hLlen hLb;go_wp2_with fail;have hwr:IntKind.i64.wrap ((i:Int)+(j:Int))=(i:Int)+(j:Int):=(by rw[IntKind.wrap_i64];omega);have hwt:((i:Int)+(j:Int)).toNat=i+j:=om
     go_region_with (go_at_call 224;refine(FR b _ ?_ d d2 hd hd2).mono ?_;(exact hF.drew);rintro e w' ⟨rfl,hF',hB'⟩;have hP':FT w' w.heap.size L:=(hP.drew.but hB' hgb);have hcn':w'.cell? ⟨w.heap.size,i+j,none⟩=some (.int .u8 (m:Nat)):=((hP'.cell (i+j) hij).trans (by rw[HM.out]));have hfn':=hP'.frozen (i+j))
     all_goals
      clear hwr hwt hcn hfn;have hP2:FT (w'.setCell ⟨w.heap.size,i+j,none⟩ (.int .u8 ((m ^^^ gm d d2:Nat):Int))) w.heap.size (inner d q i (DJ p q i) (j+1)):=by
       rw[HIL.out,HAD.out];exact hP'.store (i+j) _
      go_wp2;exact⟨⟨j+1,om,by go_num,hP2,hF'.setOther hgb _ _,((hB.drew.trans hB').setNew (AM _) _ _)⟩,by simp[intOf];omega⟩
    ·have e:j=q.length:=om;have hP2:FT wr w.heap.size (DJ p q (i+1)):=(by rw[HO.out,<-e];exact hP);clear e hP;go_wp2;exact⟨⟨i+1,om,by go_num,hP2,hF,hB⟩,by simp[intOf];omega⟩
  ·have e:i=p.length:=om;have hP2:FT wr w.heap.size (tm p q):=(by rw[HT.out,<-e];exact hP);clear e hP;go_wp2;go_ret;exact⟨rfl,hP2,hF,hB⟩
theorem LE(b:Nat)(w:Wd)(a a2:Option Addr)(cap n2 cap2:Nat) :Calls prog 194 #[.pointer (some ⟨b,0,none⟩),.slice a 0 cap,.slice a2 n2 cap2] w fun e w'=>e=.returned (.slice none 0 0)/\w'=w:=by
 go_enter func194,ntmps194;go_wp2;go_ret;exact⟨rfl,rfl⟩
theorem LF(b:Nat)(w:Wd)(a a2:Option Addr)(n cap cap2:Nat)(hn:n≠0) :Calls prog 194 #[.pointer (some ⟨b,0,none⟩),.slice a n cap,.slice a2 0 cap2] w fun e w'=>e=.returned (.slice none 0 0)/\w'=w:=by
 have hp0:((n:Int) == 0)=false:=by rw[beq_eq_false_iff_ne];omega
 go_enter func194,ntmps194;go_wp2;go_ret;exact⟨rfl,rfl⟩
theorem RR(b:Nat)(w:Wd)(h:Da w b)(a a2:Option Addr)(n cap n2 cap2:Nat)(p q:List Nat)(hn:n=p.length)(hn2:n2=q.length)(hlen:p.length<=140737488351232)(hlen2:q.length<=140737488351232)(hp:Rd w b a p)(hq:Rd w b a2 q) :Calls prog 194 #[.pointer (some ⟨b,0,none⟩),.slice a n cap,.slice a2 n2 cap2] w fun e w'=>∃(at_:Option Addr) (m:Nat),e=.returned (.slice at_ m m)/\m=(tm p q).length/\(((n=0\/n2=0)/\at_=none)\/(n≠0/\n2≠0/\at_=some ⟨w.heap.size,0,none⟩/\FT w' w.heap.size (tm p q)))/\Da w' b/\But b w w':=by
 subst hn hn2;by_cases p0:p.length=0
 ·rw[p0];refine(LE b w a a2 cap _ cap2).mono ?_;rintro e w' ⟨rfl,rfl⟩;exact⟨none,0,rfl,by unfold tm;rw[AJ (AK p0)];rfl,AK ⟨AK rfl,rfl⟩,h,But.refl _ _⟩
 by_cases q0:q.length=0
 ·rw[q0];refine(LF b w a a2 _ cap cap2 p0).mono ?_;rintro e w' ⟨rfl,rfl⟩;exact⟨none,0,rfl,by unfold tm;rw[AJ (AL q0)];rfl,AK ⟨AL rfl,rfl⟩,h,But.refl _ _⟩
 obtain⟨hpb,hp1 | ⟨c,o,rfl,hc,hs,hcell⟩⟩:=hp
 ·rw[hp1] at p0;exact absurd rfl p0
 obtain⟨hqb,hq1 | ⟨c2,o2,rfl,hc2,hs2,hcell2⟩⟩:=hq
 ·rw[hq1] at q0;exact absurd rfl q0
 refine(OQ b w h c o cap c2 o2 cap2 p q hpb hqb hc hs hc2 hs2 p0 q0 _ rfl hlen hlen2 hcell hcell2).mono ?_;rintro e w' ⟨rfl,hP,hF,hB⟩;exact⟨_,_,rfl,(Ha p q p0 q0).symm,AL ⟨p0,q0,rfl,hP⟩,hF,hB⟩
end
def byt (n:Nat):Value:=.int .u8 (n:Int)
def Own (w:Wd) (base:Nat) (e:TypeId) (v:Value) (l:List Nat):Prop:=w.ownsRow base e 1 v l.length (l.map byt)
theorem FU(l:List Nat):∀u ∈ l.map byt,u.oneCell'=true:=by
 intro u hu;obtain⟨n,_,rfl⟩:=mem_map.1 hu;rfl
theorem Own.nil(w:Wd)(base:Nat)(e:TypeId):Own w base e (.slice none 0 0) []:=⟨rfl,AK ⟨rfl,rfl⟩⟩
theorem Own.lies{w:Wd}{base:Nat}{e:TypeId}{v:Value}{l:List Nat}(h:Own w base e v l)(h0:l.length≠0) :∃g cap,v=.slice (some ⟨g,0,none⟩) l.length cap/\base<=g/\g<w.heap.size/\l.length<=cap/\(∀i,i<l.length->w.cell? ⟨g,i,none⟩=some (.int .u8 (l.getD i 0:Nat)))/\∀i,w.frozen? ⟨g,i,none⟩=false:=by
 rcases h.2 with ⟨_,h1⟩ | ⟨g,cap,cur,hv,hg,hh,hn,hm,hs,ht⟩
 ·exact absurd h1 h0
 ·refine⟨g,cap,hv,hg,(Array.getElem?_eq_some_iff.1 hh).1,hn,fun i hi=>?_,fun i=>by simp[World.frozen?,hh]⟩;have e1:cur[i]?=some (byt (l.getD i 0)):=by
   have h2:(cur.toList.take (l.length*1))[i]?=(l.map byt)[i]?:=(by rw[ht]);rw[List.getElem?_take_of_lt om,List.getElem?_map,AU hi,Array.getElem?_toList] at h2;rw[h2,AQ,AU hi];rfl
  simp only[World.cell?,hh];simpa[byt] using e1
theorem CZ{P:Program}(w:Wd){ops:Array Oper}{rest:List Oper}{o:Oper}{a:Act}{Q:Exit->Act->World->Prop}(hgd:o.guard=none)(s x:Operand)(t:TypeId)(ho:o.op=.call { callee:=.builtin .append,args:=#[s,x],argTypes:=#[t,t] })(base:Nat)(e:TypeId)(ht:P.underlying t=some (.slice e))(hi:∃i,P.info? e=some i/\i.zero=some (.int .u8 0)/\i.size=1/\i.bytes=1)(v:Value)(l:List Nat)(hs:a.eval s=v)(hown:Own w base e v l)(ao:Option Addr)(m c:Nat)(l2:List Nat)(hx:a.eval x=.slice ao m c)(hm:l2.length=m)(hnone:ao=none->m=0/\c=0)(hc:∀ad,ao=some ad->∀j,j<m->w.cell? (ad.add j)=some (.int .u8 (l2.getD j 0:Nat)))(hbytes:l.length+m<=140737488355328)(hbase:base<=w.heap.size)(H:Nat)(hH:w.heap.size=H)(h:∀v' w',Own w' base e v' (l ++ l2)->w.grownBy w' v.ownBlock->(v'.ownBlock=v.ownBlock\/v'.ownBlock=some H)->wpList P ops Q rest (a.put o.dst v') w'):wpList P ops Q (o :: rest) a w:=by
 obtain⟨i,hi1,hi2,hi3,hi4⟩:=hi;cases ao with
 | some ad=>
  refine wpList_append_own_at w hgd s x t ho base e i (.int .u8 0) 1 1 ht hi1 hi2 hi3 hi4 rfl dc v l.length (l.map byt) hs hown ad m c (l2.map byt) hx (by simp[hm]) ?_ (FU l2) (by unfold maxLen;omega) om hbase ?_
  ·intro j u hu;have hj:j<l2.length:=by
    have:=(List.getElem?_eq_some_iff.1 hu).1;simpa using this
   rw[List.getElem?_map,AU hj] at hu;have e1:=hc ad rfl j om;rw[AQ,AU hj] at e1;rw[e1];exact hu
  ·intro v' w' h1 h2 _ h4;refine h v' w' ?_ h2 (by rw[<-hH];exact h4);unfold Own;rw[AV,hm,map_append];exact h1
 | none=>
  obtain⟨rfl,rfl⟩:=hnone rfl;have hl2:l2=[]:=length_eq_zero_iff.1 hm;subst hl2;refine wpList_plain hgd fun K hK=>?_;have hrun:=run_append_owned_none (P:=P) w base t o.type e i 1 ht hi1 v l.length (l.map byt) hown;unfold Oper.wp;simp[execOp,ho,resolve,invoke,builtin,hs,hx,hrun,Result.andThen];refine hK _ _ (h v w ?_ ⟨rfl,rfl,rfl,AM _,fun _ _ _=>rfl⟩ (AK rfl));rw[append_nil];exact hown
section
variable {w u w':Wd}{S T:Nat->Prop}{v:Value}{l:List Nat}{base b:Nat}{e:TypeId}
structure Chg (S:Nat->Prop) (w w':Wd):Prop where
 os:w'.os=w.os
 tape:w'.tape=w.tape
 output:w'.output=w.output
 size:w.heap.size<=w'.heap.size
 block:∀k,k<w.heap.size->¬ S k->w'.heap[k]?=w.heap[k]?
theorem Chg.refl(S:Nat->Prop)(w:Wd):Chg S w w:=⟨rfl,rfl,rfl,AM _,fun _ _ _=>rfl⟩
theorem Chg.trans{v:Wd}(h:Chg S u v)(k:Chg S v w):Chg S u w:=
 ⟨k.os.trans h.os,k.tape.trans h.tape,k.output.trans h.output,AY h.size k.size,fun i hi hs=>(k.block i (Aj hi h.size) hs).trans (h.block i hi hs)⟩
theorem Chg.trans'{v:Wd}(h:Chg S u v)(k:Chg T v w)(hT:∀i,i<u.heap.size->T i->S i):Chg S u w:=
 ⟨k.os.trans h.os,k.tape.trans h.tape,k.output.trans h.output,AY h.size k.size,fun i hi hs=>(k.block i (Aj hi h.size) (fun ht=>hs (hT i hi ht))).trans (h.block i hi hs)⟩
theorem Chg.mono{v:Wd}(h:Chg S u v)(hT:∀i,i<u.heap.size->S i->T i):Chg T u v:=
 ⟨h.os,h.tape,h.output,h.size,fun i hi hs=>h.block i hi (fun hh=>hs (hT i hi hh))⟩
theorem Chg.drew(h:Chg S u w):Chg S u w.drew:=⟨h.os,h.tape,h.output,h.size,h.block⟩
theorem Chg.alloc(h:Chg S u w)(o:Obj):Chg S u (w.alloc o):=
 h.trans ⟨rfl,rfl,rfl,by simp,fun k hk _=>Below.heap_alloc _ _ _ hk⟩
theorem Chg.setCell(h:Chg S u w){g:Nat}(hg:S g\/u.heap.size<=g)(o:Nat)(v:Value):Chg S u (w.setCell ⟨g,o,none⟩ v):=
 ⟨h.os,h.tape,h.output,by simp[World.setCell];exact h.size,fun k hk hs=>(Below.heap_setCell _ _ _ _ (by
  rcases hg with hg | hg
  ·
   intro e;exact hs (by rw[e];exact hg)
  ·
   simp;omega)).trans (h.block k hk hs)⟩
theorem Chg.grown{row:Option Nat}(h:Chg S u w)(hg:w.grownBy w' row)(hr:∀k,row=some k->S k\/u.heap.size<=k):Chg S u w':=
 ⟨hg.os.trans h.os,hg.tape.trans h.tape,hg.output.trans h.output,AY h.size hg.size,fun k hk hs=>(hg.block k (Aj hk h.size) (fun e=>by
  rcases hr k e.symm with h1 | h1
  ·
   exact hs h1
  ·
   omega)).trans (h.block k hk hs)⟩
theorem But.chg(h:But b w w'):Chg (·=b) w w':=⟨h.os,h.tape,h.output,h.size,h.block⟩
theorem Chg.but(h:Chg No w w'):But b w w':=⟨h.os,h.tape,h.output,h.size,fun k hk _=>h.block k hk (fun f=>f)⟩
def Cu (w:Wd) (v:Value) (l:List Nat):Prop:=
 ∃a cap,v=.slice a l.length cap/\(l.length=0\/∃g o,a=some ⟨g,o,none⟩/\g<w.heap.size/\∀i,i<l.length->w.cell? ⟨g,o+i,none⟩=some (.int .u8 (l.getD i 0:Nat)))
theorem Cu.keep(h:Cu w v l)(hs:w.heap.size<=w'.heap.size)(hk:∀k,k<w.heap.size->v.ownBlock=some k->w'.heap[k]?=w.heap[k]?):Cu w' v l:=by
 obtain⟨a,cap,rfl,h⟩:=h;refine⟨a,cap,rfl,?_⟩;rcases h with h | ⟨g,o,rfl,hg,hc⟩
 ·exact AK h
 ·exact AL ⟨g,o,rfl,Aj hg hs,fun i hi=>(Ag (w:=w) (a:=⟨g,o+i,none⟩) (hk g hg rfl)).trans (hc i hi)⟩
theorem Cu.chg(h:Cu w v l)(hc:Chg S w w')(hs:∀k,k<w.heap.size->v.ownBlock=some k->¬ S k):Cu w' v l:=
 h.keep hc.size (fun k hk he=>hc.block k hk (hs k hk he))
theorem Own.block(h:Own w base e v l){k:Nat}(hk:v.ownBlock=some k):base<=k/\k<w.heap.size:=by
 rcases h.2 with ⟨rfl,_⟩ | ⟨g,cap,cur,rfl,hb,hh,_⟩
 ·cases hk
 ·have e:g=k:=AR hk;subst e;exact⟨hb,(Array.getElem?_eq_some_iff.1 hh).1⟩
theorem Own.keep(h:Own w base e v l)(hk:∀k,k<w.heap.size->v.ownBlock=some k->w'.heap[k]?=w.heap[k]?):Own w' base e v l:=by
 refine⟨h.1,?_⟩;rcases h.2 with h1 | ⟨g,cap,cur,rfl,hb,hh,r⟩
 ·exact AK h1
 ·exact AL ⟨g,cap,cur,rfl,hb,(hk g (Array.getElem?_eq_some_iff.1 hh).1 rfl).trans hh,r⟩
theorem Own.chg(h:Own w base e v l)(hc:Chg S w w')(hs:∀k,k<w.heap.size->v.ownBlock=some k->¬ S k):Own w' base e v l:=
 h.keep (fun k hk he=>hc.block k hk (hs k hk he))
theorem Own.mono{base':Nat}(h:Own w base e v l)(hb:∀k,v.ownBlock=some k->base'<=k):Own w base' e v l:=by
 refine⟨h.1,?_⟩;rcases h.2 with h1 | ⟨g,cap,cur,rfl,_,r⟩
 ·exact AK h1
 ·exact AL ⟨g,cap,cur,rfl,hb g rfl,r⟩
theorem Own.new(w:Wd)(e:TypeId)(l:List Nat)(hl:l.length<=maxLen):Own (w.alloc (.cells (bcells l) e)) w.heap.size e (.slice (some ⟨w.heap.size,0,none⟩) l.length l.length) l:=by
 refine⟨by simp,AL ⟨w.heap.size,l.length,bcells l,rfl,AM _,?_,AM _,hl,by rw[Ba,Nat.mul_one],?_⟩⟩
 ·show (w.heap.push _)[w.heap.size]?=_;simp
 ·rw[Nat.mul_one];show (l.map _).take _=_;rw[As (by simp)];rfl
end
theorem Chg.cell{S:Nat->Prop}{w w':Wd}(h:Chg S w w'){c:Nat}(hc:c<w.heap.size)(hs:¬ S c)(o:Nat):w'.cell? ⟨c,o,none⟩=w.cell? ⟨c,o,none⟩:=
 Ag (w:=w) (h.block c hc hs)
section
variable {w w':Wd}{g b q n k m:Nat}{t el:TypeId}{l s:List Nat}{ops:Array Oper}{rest:List Oper}{o:Oper}{a:Act}{Q:Exit->Act->World->Prop}
def Arr (w:Wd) (g:Nat) (t:TypeId) (l:List Nat):Prop:=w.heap[g]?=some (.cells (bcells l) t)
theorem Arr.cell(h:Arr w g t l)(i:Nat)(hi:i<l.length):w.cell? ⟨g,i,none⟩=some (.int .u8 (l.getD i 0:Nat)):=by
 have h':w.heap[g]?=some (.cells (bcells l) t):=h;simp only[World.cell?,h',EB l i hi];simp
theorem Arr.frozen(h:Arr w g t l)(i:Nat):w.frozen? ⟨g,i,none⟩=false:=by
 have h':w.heap[g]?=some (.cells (bcells l) t):=h;simp[World.frozen?,h']
theorem Arr.lt(h:Arr w g t l):g<w.heap.size:=by
 have h':w.heap[g]?=some (.cells (bcells l) t):=h;exact(Array.getElem?_eq_some_iff.1 h').1
theorem Arr.store(h:Arr w g t l)(i v:Nat):Arr (w.setCell ⟨g,i,none⟩ (.int .u8 (v:Int))) g t (l.set i v):=by
 have h':w.heap[g]?=some (.cells (bcells l) t):=h;show (w.setCell ⟨g,i,none⟩ (.int .u8 (v:Int))).heap[g]?=_;simp[World.setCell,Ai,h',JE]
theorem Arr.other(h:Arr w g t l)(e:w'.heap[g]?=w.heap[g]?):Arr w' g t l:=e.trans h
theorem Arr.but(h:Arr w g t l)(hB:But b w w')(hg:g≠b):Arr w' g t l:=(hB.block g h.lt hg).trans h
theorem Arr.drew(h:Arr w g t l):Arr w.drew g t l:=h
theorem Arr.new(w:Wd)(t:TypeId)(l:List Nat):Arr (w.alloc (.cells (bcells l) t)) w.heap.size t l:=by
 show (w.heap.push _)[w.heap.size]?=_;simp
theorem Arr.alloc(h:Arr w g t l)(o:Obj):Arr (w.alloc o) g t l:=h.other (Below.heap_alloc _ _ _ h.lt)
theorem Arr.setOther(h:Arr w g t l)(hg:k≠g)(o:Nat)(v:Value):Arr (w.setCell ⟨k,o,none⟩ v) g t l:=
 h.other (Below.heap_setCell _ _ _ _ (by simp;omega))
theorem Arr.row(h:Arr w g t l)(l':List Nat):Arr (w.setRow g (bcells l')) g t l':=setRow_heap w g _ _ t _ h
theorem Arr.rowOther(h:Arr w g t l)(hg:k≠g)(c:Array Value):Arr (w.setRow k c) g t l:=h.other (setRow_other _ _ _ _ (fun e=>hg e.symm))
theorem But.setRow{u:Wd}(h:But b u w)(hg:u.heap.size<=g)(c:Array Value):But b u (w.setRow g c):=
 ⟨h.os,h.tape,h.output,by simp;exact h.size,fun k hk hb=>(setRow_other _ _ _ _ om).trans (h.block k hk hb)⟩
theorem OR(l:List Nat):(bcells l).all (·.oneCell')=true:=by
 rw[Array.all_eq_true_iff_forall_mem];intro v hv;simp only[bcells,mem_toArray,mem_map] at hv;obtain⟨n,_,rfl⟩:=hv;rfl
def gl:List Nat:=[63,1,218,32,227,38]
def rl:List Nat:=(List.range 64).map rt
theorem Tj:Bys gl:=by intro n hn;simp[gl] at hn;omega
def QR (b:Nat):List Value:=.pointer (some ⟨b,0,none⟩) :: ((gl ++ rl).map fun (n:Nat)=>Value.int .u8 (n:Int))
def Cod (w:Wd) (q b:Nat):Prop:=Da w b/\w.heap[q]?=some (.cells (QR b).toArray 277)
theorem Cod.lt(h:Cod w q b):q<w.heap.size:=(Array.getElem?_eq_some_iff.1 h.2).1
theorem Cod.ne(h:Cod w q b):q≠b:=by
 intro e;obtain⟨h1,h2⟩:=h;subst e;rcases h1 with h1 | h1 <;>
 ·have h1':w.heap[q]?=some (.cells (Bm _ _ _) 316):=h1;rw[h2] at h1';simp at h1'
theorem Cod.ptr(h:Cod w q b):w.cell? ⟨q,0,none⟩=some (.pointer (some ⟨b,0,none⟩)):=by
 rw[cell_of_row w q 0 _ _ _ h.2];simp[QR]
theorem Cod.gen(h:Cod w q b)(i:Nat)(hi:i<6):w.cell? ⟨q,1+i,none⟩=some (.int .u8 (gl.getD i 0:Nat)):=by
 rw[cell_of_row w q _ _ _ _ h.2,Nat.add_comm 1 i];have hg:(gl.map fun (n:Nat)=>Value.int .u8 (n:Int)).length=6:=rfl;have hg2:i<gl.length:=hi;simp only[QR,map_append,List.getElem?_toArray,List.getElem?_cons_succ];rw[Af om];simp[AQ,AU hg2]
theorem Cod.root(h:Cod w q b)(i:Nat)(hi:i<64):w.cell? ⟨q,7+i,none⟩=some (.int .u8 (rt i:Nat)):=by
 rw[cell_of_row w q _ _ _ _ h.2,show 7+i=(6+i)+1 from om];have hg:(gl.map fun (n:Nat)=>Value.int .u8 (n:Int)).length=6:=rfl;simp only[QR,map_append,List.getElem?_toArray,List.getElem?_cons_succ];rw[Aa om,hg,show 6+i - 6=i from om];simp[rl,hi]
theorem Cod.other(h:Cod w q b)(e1:w'.heap[b]?=w.heap[b]?)(e2:w'.heap[q]?=w.heap[q]?):Cod w' q b:=⟨h.1.other e1,e2.trans h.2⟩
theorem Cod.drew(h:Cod w q b):Cod w.drew q b:=h
theorem Cod.alloc(h:Cod w q b)(o:Obj):Cod (w.alloc o) q b:=h.other (Below.heap_alloc _ _ _ h.1.lt) (Below.heap_alloc _ _ _ h.lt)
theorem Cod.but(h:Cod w q b)(hF:Da w' b)(hB:But b w w'):Cod w' q b:=⟨hF,(hB.block q h.lt h.ne).trans h.2⟩
theorem Cod.setNew(h:Cod w q b)(h1:g≠q)(h2:g≠b)(o:Nat)(v:Value):Cod (w.setCell ⟨g,o,none⟩ v) q b:=
 h.other (Below.heap_setCell _ _ _ _ (by simp;omega)) (Below.heap_setCell _ _ _ _ (by simp;omega))
theorem Cod.setRow(h:Cod w q b)(h1:g≠q)(h2:g≠b)(c:Array Value):Cod (w.setRow g c) q b:=
 h.other (setRow_other _ _ _ _ om) (setRow_other _ _ _ _ om)
def wo (s:List Nat) (i k:Nat):Nat:=s.getD (k+1) 0 ^^^ gm (s.getD k 0) (rt i)
def woL (s:List Nat) (i n:Nat):List Nat:=(List.range 5).map fun k=>if k<n then wo s i k else 0
theorem woL_length(s:List Nat)(i n:Nat):(woL s i n).length=5:=by simp[woL]
theorem Tk(s:List Nat)(i:Nat):woL s i 0=List.replicate 5 0:=by simp[woL];rfl
theorem Yl(s:List Nat)(i n:Nat):(woL s i n).set n (wo s i n)=woL s i (n+1):=by
 apply ext_getElem?;intro k;by_cases h:n=k
 ·subst h;by_cases h5:n<5
  ·rw[List.getElem?_set_self (by rw[woL_length];exact h5)];simp[woL,h5]
  ·rw[Ae (by simp[woL];omega),Ae (by simp[woL];omega)]
 ·rw[List.getElem?_set_ne h];by_cases h5:k<5
  ·simp only[woL,List.getElem?_map,List.getElem?_range h5,Option.map_some];congr 1;by_cases h6:k<n
   ·rw[AJ h6,AJ om]
   ·rw[AI h6,AI om]
  ·rw[Ae (by simp[woL];omega),Ae (by simp[woL];omega)]
theorem Tl(hs:Bys s)(i k:Nat):wo s i k<256:=CO _ _ (hs.getD _) (Bh _ _)
theorem Dd(s:List Nat)(i k:Nat)(h:k<5):(woL s i 5).getD k 0=wo s i k:=by
 simp[woL,AQ,h]
theorem Ym(hs:Bys s)(i n:Nat):Bys (woL s i n):=by
 intro x hx;simp only[woL,mem_map,mem_range] at hx;obtain⟨k,_,rfl⟩:=hx;split
 ·exact Tl hs i k
 ·decide
theorem Es(w:Wd)(g o k i:Nat)(v:Value)(h:k≠g):(w.setCell ⟨g,o,none⟩ v).cell? ⟨k,i,none⟩=w.cell? ⟨k,i,none⟩:=Ag (Below.heap_setCell _ _ _ _ (by simpa using h))
theorem BI(hgd:o.guard=none)(ty:TypeId)(x:Operand)(ho:o.op=.load ty x)(g:Nat)(hx:a.eval x=.pointer (some ⟨g,0,none⟩))(hg:Arr w g t l)(hu:prog.underlying ty=some (.array m el))(hi:(prog.info? ty).map (·.size)=some n)(hn:l.length=n)(h:wpList prog ops Q rest (a.put o.dst (.agg (bcells l))) w):wpList prog ops Q (o :: rest) a w:=
 wpList_load_row hgd ty x ho g hx t _ _ _ hg hu rfl (by rw[Ba,hn];exact hi) h
theorem wpList_store_arr(hgd:o.guard=none)(ty:TypeId)(x y:Operand)(ho:o.op=.store ty x y)(g:Nat)(l':List Nat)(hx:a.eval x=.pointer (some ⟨g,0,none⟩))(hy:a.eval y=.agg (bcells l'))(hg:Arr w g t l)(hi:(prog.info? ty).map (·.size)=some n)(hn:l.length=n)(hn':l'.length=n)(h:wpList prog ops Q rest (a.put o.dst undef) (w.setRow g (bcells l'))):wpList prog ops Q (o :: rest) a w:=
 wpList_store_row hgd ty x y ho g _ hx hy t _ hg (by rw[Ba,hn'];exact hi) (by rw[Ba,Ba,hn,hn']) (OR l') h
theorem Et{fn:Func}{p:Tmp}{ty:TypeId}(h:fn.results=#[.cell p ty])(tmps:Array Value)(hg:Arr w g t l)(hp:tmps.getD p undef=.pointer (some ⟨g,0,none⟩))(hu:prog.underlying ty=some (.array m el))(hi:(prog.info? ty).map (·.size)=some n)(hn:l.length=n) :(results fn tmps).run prog w=.ok (.agg (bcells l)) w:=
 results_cell_row h tmps w g t _ _ _ hp hg hu rfl (by rw[Ba,hn];exact hi)
theorem Ih(w:Wd):(zeroValue 354).run prog w=.ok (.agg (bcells (List.replicate 5 0))) w:=kr
theorem Tm(w:Wd):(zeroValue 338).run prog w=.ok (.agg (bcells (List.replicate 6 0))) w:=kr
theorem Tn(w:Wd):(zeroValue 274).run prog w=.ok (.agg (bcells (List.replicate 6 0))) w:=kr
theorem dG(w:Wd):(zeroValue 275).run prog w=.ok (.agg (bcells (List.replicate 64 0))) w:=kr
theorem size100:(prog.info? 354).map (·.size)=some 5:=kr
theorem Cy:(prog.info? 338).map (·.size)=some 6:=kr
theorem LG:(prog.info? 274).map (·.size)=some 6:=kr
theorem Cz:(prog.info? 275).map (·.size)=some 64:=kr
theorem Dr(q b:Nat)(w:Wd)(h:Cod w q b)(s:List Nat)(hs:s.length=6)(hb:Bys s)(i:Nat)(hi:i<64) :Calls prog 267 #[.pointer (some ⟨q,0,none⟩),.agg (bcells s),.int .i64 i] w fun e w'=>e=.returned (.agg (bcells (woL s i 5)))/\Cod w' q b/\But b w w':=by
 have hz:=Ih;go_enter func267,ntmps267;go_wp2_with fail
 go_loopw [9] (fun t wr=>∃k:Nat,k<=5/\t=.int .i64 k/\Arr wr w.heap.size 338 s/\Arr wr (w.heap.size+1) 354 (List.replicate 5 0)/\Arr wr (w.heap.size+1+1) 354 (woL s i k)/\Cod wr q b/\But b w wr) (fun t _=>5 - (intOf t).toNat)
 case atStart=>
  have h1:=Arr.new w 338 s;have h2:=Arr.new (w.alloc (.cells (bcells s) 338)) 354 (List.replicate 5 0);have h3:=Arr.new ((w.alloc (.cells (bcells s) 338)).alloc (.cells (bcells (List.replicate 5 0)) 354)) 354 (List.replicate 5 0);refine⟨0,om,rfl,(h1.alloc _).alloc _,?_,?_,((h.alloc _).alloc _).alloc _,(((But.refl _ _).alloc _).alloc _).alloc _⟩
  ·simpa using h2.alloc (.cells (bcells (List.replicate 5 0)) 354)
  ·rw[Tk];simpa using h3
 case round=>
  obtain⟨k,hk,rfl,hA,hR,hO,hC,hB⟩:=hrel;have hne:=hC.ne;have hq:=h.lt;have hbb:=h.1.lt;by_cases hlt:k<5
  ·have c1:=hA.cell k om;have c2:=hA.cell (k+1) om;have c3:=hC.ptr;have c4:=hC.root i hi;have d1:=hb.getD k;have d2:=hb.getD (k+1);have HW:Hid (wo s i k=s.getD (k+1) 0 ^^^ gm (s.getD k 0) (rt i)):=rfl;generalize s.getD k 0=x at *
   generalize s.getD (k+1) 0=y at *
   have hr:=EA i;generalize rt i=r at *
   have e1:=u8_xor_nat y (gm x r) d2 (Bh _ _);have hf:=hO.frozen k;have ho:=hO.cell k (by rw[woL_length];omega);have hkb1:(k:Int)<5:=om;have hkb2:(k:Int)+1<6:=om;have hkb3:(0:Int)<=(k:Int)+1:=om;have hkb4:(0:Int)<=(k:Int):=om;have hkb5:(k:Int)<6:=om;have hkb6:(0:Int)<=(i:Int):=om;have hkb7:(i:Int)<64:=om;have hgb:w.heap.size+1+1≠b:=om;go_wp2_with fail;have hwr:IntKind.i64.wrap ((k:Int)+1)=(k:Int)+1:=(by rw[IntKind.wrap_i64];omega);have hwt:((k:Int)+1).toNat=k+1:=om;have HWL:=Yl s i k;have HWL':Hid ((woL s i k).set k (wo s i k)=woL s i (k+1)):=HWL;clear HWL;have n1:w.heap.size≠w.heap.size+1+1:=om;have n2:q≠w.heap.size+1+1:=om
   go_region_held3 (fun wx=>wx.cell? ⟨w.heap.size,k,none⟩=some (.int .u8 (x:Nat))/\wx.cell? ⟨w.heap.size,k+1,none⟩=some (.int .u8 (y:Nat))/\wx.cell? ⟨q,0,none⟩=some (.pointer (some ⟨b,0,none⟩))/\wx.cell? ⟨q,7+i,none⟩=some (.int .u8 (r:Nat)))
    (first | exact⟨c1,c2,c3,c4⟩ | exact⟨c1',c2',c3',c4'⟩ | exact⟨(Es _ _ _ _ _ _ n1).trans c1',(Es _ _ _ _ _ _ n1).trans c2',(Es _ _ _ _ _ _ n2).trans c3',(Es _ _ _ _ _ _ n2).trans c4'⟩)
    (first | (go_at_call 224;refine(FR b _ ?_ x r d1 hr).mono ?_;(exact hC.1.drew);rintro e w' ⟨rfl,hF',hB'⟩;have hA':Arr w' w.heap.size 338 s:=(hA.drew.but hB' om);have hR':Arr w' (w.heap.size+1) 354 (List.replicate 5 0):=(hR.drew.but hB' om);have hO':Arr w' (w.heap.size+1+1) 354 (woL s i k):=(hO.drew.but hB' om);have hC':Cod w' q b:=(hC.drew.but hF' hB');have c1':w'.cell? ⟨w.heap.size,k,none⟩=some (.int .u8 (x:Nat)):=((hB'.cell hA.lt om _).trans c1);have c2':w'.cell? ⟨w.heap.size,k+1,none⟩=some (.int .u8 (y:Nat)):=((hB'.cell hA.lt om _).trans c2);have c3':=hC'.ptr;have c4':w'.cell? ⟨q,7+i,none⟩=some (.int .u8 (r:Nat)):=((hB'.cell hC.lt hne _).trans c4);have hf':=hO'.frozen k;have ho':=hO'.cell k (by rw[woL_length];omega)))
   all_goals
    clear hwr hwt c1 c2 c3 c4 hf ho;have hO2:Arr (w'.setCell ⟨w.heap.size+1+1,k,none⟩ (.int .u8 ((y ^^^ gm x r:Nat):Int))) (w.heap.size+1+1) 354 (woL s i (k+1)):=by
     rw[<-HWL'.out,HW.out];exact hO'.store k _
    go_wp2;exact⟨⟨k+1,om,by go_num,hA'.setOther om _ _,hR'.setOther om _ _,hO2,hC'.setNew om om _ _,((hB.drew.trans hB').setNew om _ _)⟩,by simp[intOf];omega⟩
  ·have hO5:Arr wr (w.heap.size+1+1) 354 (woL s i 5):=by
    have e:k=5:=om;rw[e] at hO;exact hO
   clear hO;have hR2:=hR.row (woL s i 5);have hC2:Cod (wr.setRow (w.heap.size+1) (bcells (woL s i 5))) q b:=hC.setRow om om _;have hB2:But b w (wr.setRow (w.heap.size+1) (bcells (woL s i 5))):=hB.setRow om _;clear hA hC hB;go_wp2_with (first | (refine BI rfl 354 (.tmp 7) rfl _ rfl hO5 underlying354 size100 (woL_length _ _ _) ?_) | (refine wpList_store_arr rfl 354 (.tmp 6) (.tmp 34) rfl _ _ rfl rfl hR size100 rfl (woL_length _ _ _) ?_) | go_in);refine AZ (Et rfl _ hR2 rfl underlying354 size100 (woL_length _ _ _)) rfl ⟨rfl,hC2,hB2⟩
end
theorem BB{p:Prop}(h:p):Hid p:=h
def Fo (r:List Nat) (j n:Nat):Prop:=∀k,1<=k->k<n->r.getD k 0=gm (r.getD (k - 1) 0) (rt j)
theorem Fo.succ{r:List Nat}{j k:Nat}(h:Fo r j k)(e:r.getD k 0=gm (r.getD (k - 1) 0) (rt j)):Fo r j (k+1):=by
 intro m h1 h2;by_cases hm:m=k
 ·subst hm;exact e
 ·exact h m h1 om
theorem MW(q b:Nat)(w:Wd)(h:Cod w q b)(r:List Nat)(hs:r.length=5)(hb:Bys r)(j:Nat)(hj:j<64) :Calls prog 268 #[.pointer (some ⟨q,0,none⟩),.agg (bcells r),.int .i64 j] w fun e w'=>∃t:Bool,e=.returned (.bool t)/\(t=true<->Fo r j 5)/\Cod w' q b/\But b w w':=by
 go_enter func268,ntmps268;go_wp2_with fail
 go_loopw [7] (fun t wr=>∃k:Nat,1<=k/\k<=5/\t=.int .i64 k/\Fo r j k/\Arr wr w.heap.size 354 r/\Cod wr q b/\But b w wr) (fun t _=>5 - (intOf t).toNat)
 case atStart=>
  exact⟨1,om,om,rfl,fun k h1 h2=>om,Arr.new w 354 r,h.alloc _,(But.refl _ _).alloc _⟩
 case round=>
  obtain⟨k,hk1,hk,rfl,hFo,hA,hC,hB⟩:=hrel;have hne:=hC.ne;have hq:=h.lt;have hbb:=h.1.lt;by_cases hlt:k<5
  ·have c1:=hA.cell k om;have c2:=hA.cell (k - 1) om;have c3:=hC.ptr;have c4:=hC.root j hj;have d1:=hb.getD k;have d2:=hb.getD (k - 1);have HFo:Hid (Fo r j k):=BB hFo;have HS:Hid (r.getD k 0=gm (r.getD (k - 1) 0) (rt j)->Fo r j (k+1)):=BB (fun e=>hFo.succ e);have HN:Hid (Fo r j 5->r.getD k 0=gm (r.getD (k - 1) 0) (rt j)):=BB (fun e=>e k hk1 hlt);clear hFo;generalize r.getD k 0=x at *
   generalize r.getD (k - 1) 0=y at *
   have hr:=EA j;generalize rt j=z at *
   have hkb1:(k:Int)<5:=om;have hkb3:(0:Int)<=(k:Int) - 1:=om;have hkb4:(0:Int)<=(k:Int):=om;have hkb5:(k:Int) - 1<5:=om;have hkb8:(1:Int)<=(k:Int):=om;have hkb9:(k:Int)<5+1:=om;have hkb6:(0:Int)<=(j:Int):=om;have hkb7:(j:Int)<64:=om;go_wp2_with fail;have hwr:IntKind.i64.wrap ((k:Int) - 1)=(k:Int) - 1:=(by rw[IntKind.wrap_i64];omega);have hwt:((k:Int) - 1).toNat=k - 1:=om
   go_region_held3 (fun wx=>wx.cell? ⟨w.heap.size,k,none⟩=some (.int .u8 (x:Nat))/\wx.cell? ⟨w.heap.size,k - 1,none⟩=some (.int .u8 (y:Nat))/\wx.cell? ⟨q,0,none⟩=some (.pointer (some ⟨b,0,none⟩))/\wx.cell? ⟨q,7+j,none⟩=some (.int .u8 (z:Nat)))
    (first | exact⟨c1,c2,c3,c4⟩ | exact⟨c1',c2',c3',c4'⟩)
    (first | (go_at_call 224;refine(FR b _ ?_ y z d2 hr).mono ?_;(exact hC.1.drew);rintro e w' ⟨rfl,hF',hB'⟩;have hA':Arr w' w.heap.size 354 r:=(hA.drew.but hB' om);have hC':Cod w' q b:=(hC.drew.but hF' hB');have c1':w'.cell? ⟨w.heap.size,k,none⟩=some (.int .u8 (x:Nat)):=((hB'.cell hA.lt om _).trans c1);have c2':w'.cell? ⟨w.heap.size,k - 1,none⟩=some (.int .u8 (y:Nat)):=((hB'.cell hA.lt om _).trans c2);have c3':=hC'.ptr;have c4':w'.cell? ⟨q,7+j,none⟩=some (.int .u8 (z:Nat)):=((hB'.cell hC.lt hne _).trans c4)))
   all_goals
    clear hwr hwt c1 c2 c3 c4;by_cases he:x=gm y z
    ·have hbe:((x:Int) != (gm y z:Nat))=false:=(by simp[he]);have HS':=BB (HS.out he);clear he;go_wp2;exact⟨⟨k+1,om,om,by go_num,HS'.out,hA',hC',hB.drew.trans hB'⟩,by simp[intOf];omega⟩
    ·have hbe:((x:Int) != (gm y z:Nat))=true:=(by simp;omega);have HN':Hid (¬ Fo r j 5):=BB (fun e=>he (HN.out e));clear he;go_wp2;go_ret;exact⟨false,rfl,⟨fun e=>by simp at e,fun e=>absurd e HN'.out⟩,hC',hB.drew.trans hB'⟩
  ·have hge:Fo r j 5:=by
    have e:k=5:=om;rw[e] at hFo;exact hFo
   have HG:=BB hge;clear hge hFo;go_wp2;go_ret;exact⟨true,rfl,⟨fun _=>HG.out,fun _=>rfl⟩,hC,hB⟩
def atJ (s:List Nat) (i j:Nat):Nat:=gm (wo s i 0) (iv (rt i ^^^ rt j))
theorem OT(q b:Nat)(w:Wd)(h:Cod w q b)(s:List Nat)(hs:s.length=6)(hb:Bys s)(i j:Nat)(hi:i<64)(hj:j<64)(hij:i≠j) :Calls prog 256 #[.pointer (some ⟨q,0,none⟩),.agg (bcells s),.int .i64 i,.int .i64 j] w fun e w'=>e=.returned (.tuple #[.int .u8 (s.getD 0 0 ^^^ atJ s i j:Nat),.int .u8 (atJ s i j:Nat)])/\Cod w' q b/\But b w w':=by
 have hz:=Ih;have hne:=h.ne;have hq:=h.lt;have hbb:=h.1.lt;go_enter func256,ntmps256;go_wp2_with (first | (refine BI rfl 338 (.tmp 5) rfl _ rfl (Arr.new w 338 s) underlying338 Cy hs ?_) | (go_at_call 267;refine(Dr q b _ (h.alloc _) s hs hb i hi).mono ?_;rintro e w2 ⟨rfl,hC2,hB2⟩) | (refine wpList_store_arr rfl 354 (.tmp 10) (.tmp 16) rfl _ _ rfl rfl (Arr.new w2 354 [0,0,0,0,0]) size100 rfl (woL_length _ _ _) ?_));have hA3:Arr ((w2.alloc (.cells (bcells [0,0,0,0,0]) 354)).setRow w2.heap.size (bcells (woL s i 5))) w.heap.size 338 s:=
  (((Arr.new w 338 s).but hB2 om).alloc _).rowOther (by have:=hB2.size;simp at this;omega) _
 have hR3:Arr ((w2.alloc (.cells (bcells [0,0,0,0,0]) 354)).setRow w2.heap.size (bcells (woL s i 5))) w2.heap.size 354 (woL s i 5):=(Arr.new w2 354 [0,0,0,0,0]).row _;have hC3:Cod ((w2.alloc (.cells (bcells [0,0,0,0,0]) 354)).setRow w2.heap.size (bcells (woL s i 5))) q b:=
  (hC2.alloc _).setRow (by have:=hC2.lt;omega) (by have:=hC2.1.lt;omega) _
 have hB3:But b w ((w2.alloc (.cells (bcells [0,0,0,0,0]) 354)).setRow w2.heap.size (bcells (woL s i 5))):=
  ((((But.refl b w).alloc _).trans hB2).alloc _).setRow (by have:=hB2.size;simp at this;omega) _
 have hg2:b<w2.heap.size:=hC2.1.lt;generalize (w2.alloc (.cells (bcells [0,0,0,0,0]) 354)).setRow w2.heap.size (bcells (woL s i 5))=w3 at *
 clear hC2 hB2 h;generalize w2.heap.size=g2 at *
 have c1:=hC3.ptr;have c2:=hR3.cell 0 (by rw[woL_length];omega);have c3:=hC3.root i hi;have c4:=hC3.root j hj;have e0:(woL s i 5).getD 0 0=wo s i 0:=Dd s i 0 om;rw[e0] at c2;have d0:=Tl hb i 0;have dr:=EA i;have dr2:=EA j;have hx0:rt i ^^^ rt j≠0:=fun e=>hij (ON hi hj (CP e));have hxl:=CO _ _ dr dr2;have ex1:=u8_xor_nat (rt i) (rt j) dr dr2;have HJ:Hid (atJ s i j=gm (wo s i 0) (iv (rt i ^^^ rt j))):=rfl;have hkb6:(0:Int)<=(i:Int):=om
 have hkb7:(i:Int)<64:=om
 have hkb8:(0:Int)<=(j:Int):=om
 have hkb9:(j:Int)<64:=om
 have cA:=hA3.cell 0 om;have d5:=hb.getD 0;generalize hs0:s.getD 0 0=s0 at *
 have HS0:=BB hs0;clear hs0;generalize wo s i 0=x at *
 generalize rt i=ri at *
 generalize rt j=rj at *
 generalize ri ^^^ rj=y at *
 have ex2:=u8_xor_nat s0 (gm x (iv y)) d5 (Bh _ _)
 go_region_held3 (fun wx=>wx.cell? ⟨q,0,none⟩=some (.pointer (some ⟨b,0,none⟩))/\wx.cell? ⟨g2,0,none⟩=some (.int .u8 (x:Nat))/\wx.cell? ⟨q,7+i,none⟩=some (.int .u8 (ri:Nat))/\wx.cell? ⟨q,7+j,none⟩=some (.int .u8 (rj:Nat)))
  (first | exact⟨c1,c2,c3,c4⟩ | exact⟨c1',c2',c3',c4'⟩)
  (first | (go_at_call 269;refine(Yk b _ ?_ x y d0 hxl hx0).mono ?_;(exact hC3.1.drew);rintro e w' ⟨rfl,hF',hB'⟩;have hC':Cod w' q b:=(hC3.drew.but hF' hB');have c1':=hC'.ptr;have c2':w'.cell? ⟨g2,0,none⟩=some (.int .u8 (x:Nat)):=((hB'.cell hR3.lt om _).trans c2);have c3':w'.cell? ⟨q,7+i,none⟩=some (.int .u8 (ri:Nat)):=((hB'.cell hC3.lt hne _).trans c3);have c4':w'.cell? ⟨q,7+j,none⟩=some (.int .u8 (rj:Nat)):=((hB'.cell hC3.lt hne _).trans c4);have cA':w'.cell? ⟨w.heap.size,0,none⟩=some (.int .u8 (s0:Nat)):=((hB'.cell hA3.lt om _).trans cA)))
 all_goals
  clear c1 c2 c3 c4 cA c1' c2' c3' c4';go_wp2;go_ret2;exact⟨by rw[HJ.out,HS0.out];rfl,hC',hB3.drew.trans hB'⟩
theorem To:prog.plainKey 5=true:=kr
theorem dH:prog.cellsOf 5=1:=kr
theorem Tp(d:Nat)(l l':List Nat)(w:Wd)(is:List Nat)(hin:∀i ∈ is,i<l.length/\i<l'.length) :∃r:Bool,(Op.eqItems (d+1) 5 1 (bcells l) (bcells l') is).run prog w=.ok r w/\(r=true<->∀i ∈ is,l.getD i 0=l'.getD i 0):=by
 induction is with
 | nil=>exact⟨true,by simp[Op.eqItems],by simp⟩
 | cons i is ih=>
  obtain⟨r,hr,hiff⟩:=ih (fun j hj=>hin j (by simp[hj]));obtain⟨h1,h2⟩:=hin i (by simp);have p1:=run_part_plain (P:=prog) w To (xs:=bcells l) (off:=i*1) (by rw[Nat.mul_one];exact EB l i h1);have p2:=run_part_plain (P:=prog) w To (xs:=bcells l') (off:=i*1) (by rw[Nat.mul_one];exact EB l' i h2);have p3:=run_equalIn_int (P:=prog) w d 5 .u8 .u8 (l.getD i 0:Nat) (l'.getD i 0:Nat) underlying5;simp only[Op.eqItems,Sem.run_bind,p1,p2,p3,Result.andThen_ok];by_cases e:l.getD i 0=l'.getD i 0
  ·have e2:(((l.getD i 0:Nat):Int) == (l'.getD i 0:Nat))=true:=(by rw[e];exact beq_self_eq_true _);refine⟨r,by simp only[e2];simpa using hr,?_⟩;rw[hiff];simp only[mem_cons,forall_eq_or_imp];exact⟨fun h=>⟨e,h⟩,fun h=>h.2⟩
  ·have e':((l.getD i 0:Nat):Int)≠(l'.getD i 0:Nat):=om;refine⟨false,by simp only[beq_eq_false_iff_ne.2 e'];simp,?_⟩;simp only[mem_cons,forall_eq_or_imp];exact⟨fun h=>by simp at h,fun h=>absurd h.1 e⟩
theorem LH(d:Nat)(w:Wd)(t:TypeId)(n:Nat)(hu:prog.underlying t=some (.array n 5))(l l':List Nat)(h1:l.length=n)(h2:l'.length=n) :(Op.equalIn (d+2) t (.agg (bcells l)) (.agg (bcells l'))).run prog w=.ok (decide (l=l')) w:=by
 obtain⟨i5,hi5,_⟩:=Fp;rw[run_equalIn_array w (d+1) _ _ hu hi5,dH];obtain⟨r,hr,hiff⟩:=Tp d l l' w (List.range n) (fun i hi=>by rw[mem_range] at hi;omega);rw[hr];congr 1;rw[Bool.eq_iff_iff,hiff,decide_eq_true_iff];constructor
 ·intro h;exact GJ om (fun i hi=>h i (by rw[mem_range];omega))
 ·rintro rfl i _;rfl
def On (s:List Nat) (i:Nat):Prop:=∀k,k<5->wo s i k=0
theorem On.iff(s:List Nat)(i:Nat):On s i<->woL s i 5=[0,0,0,0,0]:=by
 constructor
 ·intro h;apply GJ (by rw[woL_length];rfl);intro k hk;rw[woL_length] at hk;rw[Dd s i k hk,h k hk];rcases(by omega:k=0\/k=1\/k=2\/k=3\/k=4) with e | e | e | e | e <;> subst e <;> rfl
 ·intro h k hk;rw[<-Dd s i k hk,h];rcases(by omega:k=0\/k=1\/k=2\/k=3\/k=4) with e | e | e | e | e <;> subst e <;> rfl
theorem Yn(q b:Nat)(w:Wd)(h:Cod w q b)(s:List Nat)(hs:s.length=6)(hb:Bys s) :Calls prog 254 #[.pointer (some ⟨q,0,none⟩),.agg (bcells s)] w fun e w'=>((∃i:Nat,i<64/\e=.returned (.tuple #[.int .i64 i,.bool true])/\On s i)\/(e=.returned (.tuple #[.int .i64 0,.bool false])/\∀i,i<64->¬ On s i))/\Cod w' q b/\But b w w':=by
 have hz:=Ih;have hne:=h.ne;have hq:=h.lt;have hbb:=h.1.lt;go_enter func254,ntmps254;go_wp2_with fail
 go_loopw [7] (fun t wr=>∃i:Nat,i<=64/\t=.int .i64 i/\(∀m,m<i->¬ On s m)/\Arr wr w.heap.size 338 s/\Cod wr q b/\But b w wr) (fun t _=>64 - (intOf t).toNat)
 case atStart=>
  exact⟨0,om,rfl,fun m hm=>om,Arr.new w 338 s,h.alloc _,(But.refl _ _).alloc _⟩
 case round=>
  obtain⟨i,hi,rfl,hNo,hA,hC,hB⟩:=hrel;by_cases hlt:i<64
  ·have HNo:=BB hNo;clear hNo;have hlt':(i:Int)<64:=om;by_cases hOn:On s i
   ·have heq:∀w,(Op.equalIn 10000 354 (.agg (bcells (woL s i 5))) (.agg (bcells [0,0,0,0,0]))).run prog w=.ok true w:=fun w=>by
     rw[LH 9998 w 354 5 underlying354 (woL s i 5) [0,0,0,0,0] (woL_length _ _ _) rfl,AO ((On.iff s i).1 hOn)]
    have HO:=BB hOn;clear hOn;go_wp2_with (first | (refine BI rfl 338 (.tmp 3) rfl _ rfl hA underlying338 Cy hs ?_) | (go_at_call 267;refine(Dr q b _ hC s hs hb i hlt).mono ?_;rintro e w2 ⟨rfl,hC2,hB2⟩));go_ret2;exact⟨AK ⟨i,hlt,rfl,HO.out⟩,hC2,hB.trans hB2⟩
   ·have heq:∀w,(Op.equalIn 10000 354 (.agg (bcells (woL s i 5))) (.agg (bcells [0,0,0,0,0]))).run prog w=.ok false w:=fun w=>by
     rw[LH 9998 w 354 5 underlying354 (woL s i 5) [0,0,0,0,0] (woL_length _ _ _) rfl,AN (fun e=>hOn ((On.iff s i).2 e))]
    have HO:=BB hOn;clear hOn;go_wp2_with (first | (refine BI rfl 338 (.tmp 3) rfl _ rfl hA underlying338 Cy hs ?_) | (go_at_call 267;refine(Dr q b _ hC s hs hb i hlt).mono ?_;rintro e w2 ⟨rfl,hC2,hB2⟩));exact⟨⟨i+1,om,by go_num,fun m hm=>by
     by_cases e:m=i
     ·
      rw[e];exact HO.out
     ·
      exact HNo.out m om,hA.but hB2 om,hC2,hB.trans hB2⟩,by simp[intOf];omega⟩
  ·have HNo:=BB hNo;clear hNo;go_wp2;go_ret2;exact⟨AL ⟨rfl,fun m hm=>HNo.out m om⟩,hC,hB⟩
theorem Yo(q b:Nat)(w:Wd)(h:Cod w q b)(s:List Nat)(hs:s.length=6)(hb:Bys s) :Calls prog 255 #[.pointer (some ⟨q,0,none⟩),.agg (bcells s)] w fun e w'=>((∃i j:Nat,i<64/\j<i/\e=.returned (.tuple #[.int .i64 i,.int .i64 j,.bool true])/\Fo (woL s i 5) j 5) \/(e=.returned (.tuple #[.int .i64 0,.int .i64 0,.bool false])/\∀i j,i<64->j<i->¬ Fo (woL s i 5) j 5))/\Cod w' q b/\But b w w':=by
 have hz:=Ih;have hne:=h.ne;have hq:=h.lt;have hbb:=h.1.lt;go_enter func255,ntmps255;go_wp2_with fail
 go_step3
 go_wp2_with fail
 go_step3
 go_wp2_with fail
 go_loopw [7,8,9,13] (fun a1 a2 a3 t wr=>a1=.int .i64 0/\a2=.int .i64 0/\a3=.bool false/\∃i:Nat,i<=64/\t=.int .i64 i/\(∀m j,m<i->j<m->¬ Fo (woL s m 5) j 5)/\Arr wr w.heap.size 338 s/\Cod wr q b/\But b w wr) (fun _ _ _ t _=>64 - (intOf t).toNat)
 case atStart=>
  exact⟨rfl,rfl,rfl,0,om,rfl,fun m j hm=>om,Arr.new w 338 s,h.alloc _,(But.refl _ _).alloc _⟩
 case round=>
  obtain⟨rfl,rfl,rfl,i,hi,rfl,hNo,hA,hC,hB⟩:=hrel;have HNo:=BB hNo;clear hNo;by_cases hlt:i<64
  ·have hlt':(i:Int)<64:=om;go_wp2_with (first | (refine BI rfl 338 (.tmp 3) rfl _ rfl hA underlying338 Cy hs ?_) | (go_at_call 267;refine(Dr q b _ hC s hs hb i hlt).mono ?_;rintro e w2 ⟨rfl,hC2,hB2⟩) | (refine wpList_store_arr rfl 354 (.tmp 11) (.tmp 19) rfl _ _ rfl rfl (Arr.new w2 354 [0,0,0,0,0]) size100 rfl (woL_length _ _ _) ?_));have hA3:Arr ((w2.alloc (.cells (bcells [0,0,0,0,0]) 354)).setRow w2.heap.size (bcells (woL s i 5))) w.heap.size 338 s:=
    ((hA.but hB2 om).alloc _).rowOther (by have:=(hA.but hB2 om).lt;omega) _
   have hR3:Arr ((w2.alloc (.cells (bcells [0,0,0,0,0]) 354)).setRow w2.heap.size (bcells (woL s i 5))) w2.heap.size 354 (woL s i 5):=(Arr.new w2 354 [0,0,0,0,0]).row _;have hC3:Cod ((w2.alloc (.cells (bcells [0,0,0,0,0]) 354)).setRow w2.heap.size (bcells (woL s i 5))) q b:=
    (hC2.alloc _).setRow (by have:=hC2.lt;omega) (by have:=hC2.1.lt;omega) _
   have hB3:But b w ((w2.alloc (.cells (bcells [0,0,0,0,0]) 354)).setRow w2.heap.size (bcells (woL s i 5))):=
    (((hB.trans hB2)).alloc _).setRow (by have:=(hB.trans hB2).size;omega) _
   have hg2:b<w2.heap.size:=hC2.1.lt;have hg3:w.heap.size≠w2.heap.size:=(by have:=(hA.but hB2 om).lt;omega);generalize (w2.alloc (.cells (bcells [0,0,0,0,0]) 354)).setRow w2.heap.size (bcells (woL s i 5))=w3 at *
   clear hC2 hB2 hA hC hB;generalize w2.heap.size=g2 at *
   go_loopw [7,8,9,21] (fun a1 a2 a3 t wx=>a1=.int .i64 0/\a2=.int .i64 0/\a3=.bool false/\∃j:Nat,j<=i/\t=.int .i64 j/\(∀m,m<j->¬ Fo (woL s i 5) m 5)/\Arr wx w.heap.size 338 s/\Arr wx g2 354 (woL s i 5)/\Cod wx q b/\But b w wx) (fun _ _ _ t _=>i - (intOf t).toNat)
   case atStart=>exact⟨rfl,rfl,rfl,0,om,rfl,fun m hm=>om,hA3,hR3,hC3,hB3⟩
   case round=>
    clear hA3 hR3 hC3 hB3;obtain⟨rfl,rfl,rfl,j,hj,rfl,hNj,hA,hR,hC,hB⟩:=hrel;have HNj:=BB hNj;clear hNj;by_cases hlt2:j<i
    ·have hlt2':(j:Int)<(i:Int):=om;go_wp2_with (first | (refine BI rfl 354 (.tmp 11) rfl _ rfl hR underlying354 size100 (woL_length _ _ _) ?_) | (go_at_call 268;refine(MW q b _ hC (woL s i 5) (woL_length _ _ _) (Ym hb i 5) j om).mono ?_;rintro e w4 ⟨t,rfl,ht,hC4,hB4⟩;have HT:=BB ht;clear ht;cases t))
     ·have hnF:¬ Fo (woL s i 5) j 5:=fun e=>by have:=HT.out.2 e;simp at this
      have HnF:=BB hnF;exact⟨⟨rfl,rfl,rfl,j+1,om,by go_num,fun m hm=>by
       by_cases e:m=j
       ·
        rw[e];exact HnF.out
       ·
        exact HNj.out m om,hA.but hB4 om,hR.but hB4 om,hC4,hB.trans hB4⟩,by simp[intOf];omega⟩
     ·rw[Exit.noGoto_ret]
      go_ret3
      exact⟨AK ⟨i,j,hlt,hlt2,rfl,HT.out.1 trivial⟩,hC4,hB.trans hB4⟩
    ·go_wp2;exact⟨⟨rfl,rfl,rfl,i+1,om,by go_num,fun m n hm hn=>by
      by_cases e:m=i
      ·
       rw[e];rw[e] at hn;exact HNj.out n om
      ·
       exact HNo.out m n om hn,hA,hC,hB⟩,by simp[intOf];omega⟩
  ·go_wp2;rw[Exit.noGoto_ret]
   go_ret3
   exact⟨AL ⟨rfl,fun m n hm hn=>HNo.out m n om hn⟩,hC,hB⟩
def syL (l:List Nat) (n:Nat):List Nat:=(List.range 6).map fun k=>if k<n then sy l k else 0
theorem CQ(l:List Nat)(n:Nat):(syL l n).length=6:=by simp[syL]
theorem Tq(l:List Nat):syL l 0=List.replicate 6 0:=by simp[syL];rfl
theorem Yp(l:List Nat)(n:Nat):(syL l n).set n (sy l n)=syL l (n+1):=by
 apply ext_getElem?;intro k;by_cases h:n=k
 ·subst h;by_cases h5:n<6
  ·rw[List.getElem?_set_self (by rw[CQ];exact h5)];simp[syL,h5]
  ·rw[Ae (by simp[syL];omega),Ae (by simp[syL];omega)]
 ·rw[List.getElem?_set_ne h];by_cases h5:k<6
  ·simp only[syL,List.getElem?_map,List.getElem?_range h5,Option.map_some];congr 1;by_cases h6:k<n
   ·rw[AJ h6,AJ om]
   ·rw[AI h6,AI om]
  ·rw[Ae (by simp[syL];omega),Ae (by simp[syL];omega)]
theorem EC(l:List Nat)(k:Nat)(h:k<6):(syL l 6).getD k 0=sy l k:=by
 simp[syL,AQ,h]
theorem QS{l:List Nat}(hs:Bys l)(n:Nat):Bys (syL l n):=by
 intro x hx;simp only[syL,mem_map,mem_range] at hx;obtain⟨k,_,rfl⟩:=hx;split
 ·exact MQ hs k
 ·decide
theorem lQ{p:Prop}(h:p):Hid p:=h
theorem QT(k:Nat)(h:k<255):exZ (k:Int)=ex k:=by
 unfold exZ;congr 1;omega
theorem KH(q b:Nat)(w:Wd)(h:Cod w q b)(a:Option Addr)(n cap:Nat)(l:List Nat)(hn:n=l.length)(hlen:l.length<=9223372036854775807)(hr:Rd w b a l) :Calls prog 253 #[.pointer (some ⟨q,0,none⟩),.slice a n cap] w fun e w'=>e=.returned (.agg (bcells (syL l 6)))/\Cod w' q b/\But b w w':=by
 subst hn;have hz:=Tm;have hne:=h.ne;have hq:=h.lt;have hbb:=h.1.lt;go_enter func253,ntmps253;go_wp2_with fail
 go_loopw [7] (fun t wr=>∃k:Nat,k<=6/\t=.int .i64 k/\Arr wr w.heap.size 338 [0,0,0,0,0,0]/\Arr wr (w.heap.size+1) 338 (syL l k)/\Cod wr q b/\But b w wr) (fun t _=>6 - (intOf t).toNat)
 case atStart=>
  have h1:=Arr.new w 338 [0,0,0,0,0,0];have h2:=Arr.new (w.alloc (.cells (bcells [0,0,0,0,0,0]) 338)) 338 [0,0,0,0,0,0];refine⟨0,om,rfl,h1.alloc _,?_,(h.alloc _).alloc _,((But.refl _ _).alloc _).alloc _⟩;rw[Tq];simpa using h2
 case round=>
  obtain⟨k,hk,rfl,hR,hO,hC,hB⟩:=hrel;by_cases hlt:k<6
  ·have c3:=hC.ptr;have hrr:=hr.but hB;have hrr1:Rd wr.drew b a l:=hrr;clear hrr;have hkb4:(0:Int)<=(k:Int):=om;have hkb5:(k:Int)<6:=om;have HW:Hid ((syL l k).set k (ev (ex k) l)=syL l (k+1)):=Yp l k;have hxk:=D8 k;have hE:exZ (k:Int)=ex k:=QT k om;have HE:=lQ hE;clear hE;generalize ex k=y at *
   have n1:q≠w.heap.size+1:=om;go_wp2_with fail
   go_region_held3 (fun wx=>wx.cell? ⟨q,0,none⟩=some (.pointer (some ⟨b,0,none⟩)))
    (first | exact c3 | exact c4 | exact c5 | exact(Es _ _ _ _ _ _ n1).trans c5)
    (first | (go_at_call 195;refine(Ig b _ ?_ _).mono ?_;(exact hC.1.drew);rintro e w1 ⟨rfl,hF1,hB1⟩;rw[HE.out];have hC1:Cod w1 q b:=(hC.drew.but hF1 hB1);have c4:=hC1.ptr) | (go_at_call 266;refine(Ti b _ hF1 a l.length cap l rfl hlen y hxk (hrr1.but hB1)).mono ?_;rintro e w2 ⟨rfl,hF2,hB2⟩;have hC2:Cod w2 q b:=(hC1.but hF2 hB2);have c5:=hC2.ptr;have hR':Arr w2 w.heap.size 338 [0,0,0,0,0,0]:=((hR.drew.but hB1 om).but hB2 om);have hO':Arr w2 (w.heap.size+1) 338 (syL l k):=((hO.drew.but hB1 om).but hB2 om);have hf':=hO'.frozen k;have ho':=hO'.cell k (by rw[CQ];omega)))
   all_goals
    have hO2:Arr (w2.setCell ⟨w.heap.size+1,k,none⟩ (.int .u8 ((ev y l:Nat):Int))) (w.heap.size+1) 338 (syL l (k+1)):=by
     rw[<-HW.out];exact hO'.store k _
    clear c3 c4 c5 hf' ho';go_wp2;exact⟨⟨k+1,om,by go_num,hR'.setOther om _ _,hO2,hC2.setNew om om _ _,((hB.drew.trans (hB1.trans hB2)).setNew om _ _)⟩,by simp[intOf];omega⟩
  ·have hO5:Arr wr (w.heap.size+1) 338 (syL l 6):=by
    have e:k=6:=om;rw[e] at hO;exact hO
   have hR2:=hR.row (syL l 6);have hC2:Cod (wr.setRow w.heap.size (bcells (syL l 6))) q b:=hC.setRow om om _;have hB2:But b w (wr.setRow w.heap.size (bcells (syL l 6))):=hB.setRow om _;clear hO;go_wp2_with (first | (refine BI rfl 338 (.tmp 5) rfl _ rfl hO5 underlying338 Cy (CQ _ _) ?_) | (refine wpList_store_arr rfl 338 (.tmp 4) (.tmp 25) rfl _ _ rfl rfl hR Cy rfl (CQ _ _) ?_) | go_in);refine AZ (Et rfl _ hR2 rfl underlying338 Cy (CQ _ _)) rfl ⟨rfl,hC2,hB2⟩
end Go.Proofs.YtbhbilcieodbhaaGreat
namespace Go.Proofs.YtbhbilcieodbhaaGreat
open List
open Go.Proofs.Tryz
section
variable {l:List Nat}{i j a:Nat}
theorem QU(l:List Nat)(i k:Nat)(hk:k<5):wo (syL l 6) i k=sy l (k+1) ^^^ gm (sy l k) (rt i):=by
 unfold wo;rw[EC l (k+1) om,EC l k om]
theorem je(hb:Bys l)(h:On (syL l 6) i):E1 (sy l) i (sy l 0):=by
 intro k hk
 induction k with
 | zero=>show _=gm _ 1;rw[Cv _ (MQ hb 0)]
 | succ k ih=>
  have h1:=h k om;rw[QU l i k om] at h1;rw[CP h1,ih om];show gm (gm _ (xp (rt i) k)) (rt i)=gm _ (gm (xp (rt i) k) (rt i));rw[BU]
theorem Tr(h:E1 (sy l) i a):On (syL l 6) i:=by
 intro k hk;rw[QU l i k hk,h (k+1) om,h k om];show gm a (gm (xp (rt i) k) (rt i)) ^^^ gm (gm a (xp (rt i) k)) (rt i)=0;rw[BU,BA]
theorem jf{b:Nat}(_ha:a<256)(hb:b<256)(h:E2 (sy l) i j a b):Fo (woL (syL l 6) i 5) j 5:=by
 have hw:∀k,k<5->wo (syL l 6) i k=gm (gm b (rt j ^^^ rt i)) (xp (rt j) k):=by
  intro k hk;rw[QU l i k hk,h (k+1) om,h k om,DP _ _ _ (EA i) (Bh _ _) (Bh _ _),HU _ _ _ hb (EA j) (EA i),DP _ _ _ (Fm _ _) (Bh _ _) (Bh _ _)];show (gm a (gm (xp (rt i) k) (rt i)) ^^^ gm b (gm (xp (rt j) k) (rt j))) ^^^ (gm (gm a (xp (rt i) k)) (rt i) ^^^ gm (gm b (xp (rt j) k)) (rt i))=_;have e1:gm (gm a (xp (rt i) k)) (rt i)=gm a (gm (xp (rt i) k) (rt i)):=BU _ _ _;have e2:gm (gm b (rt j)) (xp (rt j) k)=gm b (gm (xp (rt j) k) (rt j)):=by rw[BU,Bl (rt j)]
  have e3:gm (gm b (rt i)) (xp (rt j) k)=gm (gm b (xp (rt j) k)) (rt i):=by rw[BU,BU,Bl (rt i)]
  rw[e1,e2,e3];have:∀x y z:Nat,(x ^^^ y) ^^^ (x ^^^ z)=y ^^^ z:=by
   intro x y z;rw[Nat.xor_comm x y,A9,<-A9 x x z,BA,Nat.zero_xor]
  exact this _ _ _
 intro k h1 h2;rw[Dd _ _ _ h2,Dd _ _ _ om,hw k h2,hw (k - 1) om];obtain⟨m,rfl⟩:∃m,k=m+1:=⟨k - 1,om⟩;show gm _ (gm (xp (rt j) m) (rt j))=gm (gm _ (xp (rt j) m)) (rt j);rw[BU _ (xp (rt j) m)]
theorem jg(hb:Bys l)(hi:i<64)(hj:j<64)(hij:i≠j)(h:Fo (woL (syL l 6) i 5) j 5):E2 (sy l) i j (sy l 0 ^^^ atJ (syL l 6) i j) (atJ (syL l 6) i j):=by
 have hs6:=QS hb 6;have h0:=Tl hs6 i 0;have hw:∀k,k<5->wo (syL l 6) i k=gm (wo (syL l 6) i 0) (xp (rt j) k):=by
  intro k
  induction k with
  | zero=>intro _;show _=gm _ 1;rw[Cv _ h0]
  | succ k ih=>
   intro hk;have:=h (k+1) om hk;rw[Dd _ _ _ hk,Dd _ _ _ om,show k+1 - 1=k from om,ih om] at this;rw[this];show gm (gm _ (xp (rt j) k)) (rt j)=gm _ (gm (xp (rt j) k) (rt j));rw[BU]
 have hx0:rt i ^^^ rt j≠0:=fun e=>hij (ON hi hj (CP e));have hxl:=CO _ _ (EA i) (EA j);have hB:gm (atJ (syL l 6) i j) (rt i ^^^ rt j)=wo (syL l 6) i 0:=by
  unfold atJ;rw[BU,Bl (iv _),jY _ hxl hx0,Cv _ h0]
 have hBl:atJ (syL l 6) i j<256:=Bh _ _;generalize atJ (syL l 6) i j=B at *
 intro k
 induction k with
 | zero=>
  intro _;show sy l 0=gm (sy l 0 ^^^ B) 1 ^^^ gm B 1;rw[Cv _ (CO _ _ (MQ hb 0) hBl),Cv _ hBl,A9,BA,Aw]
 | succ k ih=>
  intro hk;have h1:=hw k om;rw[QU l i k om,<-hB] at h1;have h2:sy l (k+1)=gm (gm B (rt i ^^^ rt j)) (xp (rt j) k) ^^^ gm (sy l k) (rt i):=by
   rw[<-h1,A9,BA,Aw]
  rw[h2,ih om,HU B _ _ hBl (EA i) (EA j),DP _ _ _ (Fm _ _) (Bh _ _) (Bh _ _),DP _ _ _ (EA i) (Bh _ _) (Bh _ _)];show _=gm _ (gm (xp (rt i) k) (rt i)) ^^^ gm B (gm (xp (rt j) k) (rt j));have e1:gm (gm (sy l 0 ^^^ B) (xp (rt i) k)) (rt i)=gm (sy l 0 ^^^ B) (gm (xp (rt i) k) (rt i)):=BU _ _ _;have e2:gm (gm B (rt j)) (xp (rt j) k)=gm B (gm (xp (rt j) k) (rt j)):=by rw[BU,Bl (rt j)]
  have e3:gm (gm B (rt i)) (xp (rt j) k)=gm (gm B (xp (rt j) k)) (rt i):=by rw[BU,BU,Bl (rt i)]
  rw[e1,e2,e3];have:∀x y z:Nat,(z ^^^ y) ^^^ (x ^^^ z)=x ^^^ y:=by
   intro x y z;rw[Nat.xor_comm x z,Nat.xor_comm z y,A9,<-A9 z z x,BA,Nat.zero_xor,Nat.xor_comm]
  exact this _ _ _
theorem KV:syL l 6=[0,0,0,0,0,0]<->∀k,k<6->sy l k=0:=by
 constructor
 ·intro h k hk;rw[<-EC l k hk,h];rcases(by omega:k=0\/k=1\/k=2\/k=3\/k=4\/k=5) with e | e | e | e | e | e <;> subst e <;> rfl
 ·intro h;apply GJ (by rw[CQ];rfl);intro k hk;rw[CQ] at hk;rw[EC l k hk,h k hk];rcases(by omega:k=0\/k=1\/k=2\/k=3\/k=4\/k=5) with e | e | e | e | e | e <;> subst e <;> rfl
theorem MX(h:¬ syL l 6=[0,0,0,0,0,0]):∃k,k<6/\sy l k≠0:=by
 by_cases h':∃k,k<6/\sy l k≠0
 ·exact h'
 ·exact absurd (KV.2 (fun k hk=>by
   by_cases e:sy l k=0
   ·
    exact e
   ·
    exact absurd ⟨k,hk,e⟩ h')) h
theorem Ts(hl:l.length=64)(hb:Bys l)(h0:¬ syL l 6=[0,0,0,0,0,0])(hi:i<64)(h:On (syL l 6) i):IsDec l (some ((addAt l i ((syL l 6).getD 0 0)).take 58,1)):=by
 rw[EC l 0 om];exact Yd hl hb (MX h0) i _ hi (MQ hb 0) (je hb h)
theorem Tt(hl:l.length=64)(hb:Bys l)(h1:∀i,i<64->¬ On (syL l 6) i)(hi:i<64)(hj:j<i)(h:Fo (woL (syL l 6) i 5) j 5) :IsDec l (some ((addAt (addAt l i ((syL l 6).getD 0 0 ^^^ atJ (syL l 6) i j)) j (atJ (syL l 6) i j)).take 58,2)):=by
 rw[EC l 0 om];have hE:=jg hb hi om om h;refine Ye hl hb i j _ _ hi om om (CO _ _ (MQ hb 0) (Bh _ _)) (Bh _ _) ?_ ?_ hE
 ·intro e;refine h1 j om (Tr (a:=atJ (syL l 6) i j) ?_);intro k hk;rw[hE k hk,e,BQ,Nat.zero_xor]
 ·intro e;refine h1 i hi (Tr (a:=sy l 0 ^^^ atJ (syL l 6) i j) ?_);intro k hk;rw[hE k hk,e,BQ,Aw]
theorem RS(hl:l.length=64)(hb:Bys l)(h0:¬ syL l 6=[0,0,0,0,0,0])(h1:∀i,i<64->¬ On (syL l 6) i)(h2:∀i j,i<64->j<i->¬ Fo (woL (syL l 6) i 5) j 5):IsDec l none:=
 Tc hl hb (MX h0) (fun i _ hi _ h=>h1 i hi (Tr h)) (fun i j _ _ hi hj ha hb' _ _ h=>h2 i j hi hj (jf ha hb' h))
end
end Go.Proofs.YtbhbilcieodbhaaGreat
