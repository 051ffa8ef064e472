/-
  Lemmas.
-/
import Derived.Test.YtmdpnpjacfedpaaGreatP04
import Derived.Test.YtmdpnpjacfedpaaGreatP05
import Derived.Test.YtmdpnpjacfedpaaGreatLPatrol
import Derived.Test.YtmdpnpjacfedpaaGreatLHealth
import Derived.LaidEql
import Derived.Lib.IfaceEq
import Derived.Stop.Asserts
import Derived.RowKitTokens
set_option maxRecDepth 1000000
set_option maxHeartbeats 16000000
set_option linter.unusedSimpArgs false
namespace Go.Proofs.YtmdpnpjacfedpaaGreat
open List
open Go.Proofs.Tryz
open Go.RowKit
section
variable {tl:List Nat->Int->Pg}{s s':BM}{r r':Int}
structure BH where
 s:BM
 r:Int
 F:Nat->Int
 L:Nat->Int
 vs:Nat->Nat
 vc:Nat->Nat
 fl:Nat->Int
 nx:Nat
 sp:Bool
 fr:AC.St
 cu:Nat
 ca:Nat
 qu:List Int
 hR:Nat->Int
 hN:Nat->Int
 hS:Nat->Int
 dd:Bool
 rp:Int
 md:Int
 mv:Int
 tl:List Nat->Int->Pg
structure CP where
 p:Nat
 o:Nat
 q:Nat
 c:Nat
 l:Bool
def IE:Nat:=1099511627775
def rdF (tl:List Nat->Int->Pg) (s:BM) (r:Int) (a:Int):BM × Int × Pg × Nat:=
 if (readV s a).2.2=0 then ((readV s a).1,wrap64 (r+1),tl (readV s a).2.1 a,0) else ((readV s a).1,r,Pg.zero,(readV s a).2.2)
theorem ReadR.eq{a:Int}{g:Pg}{c:Nat}(h:ReadR s r a s' r' g c)(htl:∀L n,ToldR L n (tl L n)):rdF tl s r a=(s',r',g,c):=by
 obtain⟨rfl,rfl,h | h⟩:=h
 ·obtain⟨h1,rfl,rfl⟩:=h;unfold rdF;rw[AI h1]
 ·obtain⟨h1,rfl,hT⟩:=h;unfold rdF;rw[AJ h1,h1];have:tl (readV s a).2.1 a=g:=(htl _ _).unique hT;rw[this]
def prF (tl:List Nat->Int->Pg) (s:BM) (r:Int) (t:CP) (D:List Nat):BM × Nat × Nat:=
 let W:=wrN s t.p (wordOf D (body t.p t.o t.q t.c t.l)) 4
 if W.2≠0 then (W.1,0,W.2) else
 let R:=rdF tl W.1 r t.p
 if R.2.2.2≠0 then (R.1,0,R.2.2.2) else
 (R.1,1,if R.2.2.1.tagged=true/\(R.2.2.1.p=t.p/\R.2.2.1.o=t.o/\R.2.2.1.s=t.q/\R.2.2.1.c=t.c/\R.2.2.1.l=t.l)/\R.2.2.1.sound=true/\R.2.2.1.data=D then 0 else 8)
theorem ProgR.eq{t:CP}{D:List Nat}{e:Nat}(h:ProgR s r t.p t.p t.o t.q t.c t.l D s' r' e)(htl:∀L n,ToldR L n (tl L n)) :∃n,prF tl s r t D=(s',n,e)/\((n=0/\r'=r)\/(n=1/\r'=wrap64 (r+1))):=by
 rcases h with ⟨h1,rfl,rfl,rfl⟩ | ⟨h1,g,x,hR,h2⟩
 ·exact⟨0,by unfold prF;simp only;rw[AJ h1],AK ⟨rfl,rfl⟩⟩
 ·have hE:=hR.eq htl;have hr:(x=0/\r'=wrap64 (r+1))\/(x≠0/\r'=r):=by
   rcases hR.2.2 with ⟨a,b,_⟩ | ⟨a,b,_⟩
   ·exact AL ⟨a,b⟩
   ·exact AK ⟨a,b⟩
  by_cases hx:x=0
  ·subst hx;refine⟨1,?_,AL ⟨rfl,hr.elim (fun h=>h.2) (fun h=>absurd rfl h.1)⟩⟩;unfold prF;simp only;rw[AI (by rw[h1];simp),hE];simp only[ne_eq,not_true_eq_false,if_false];rcases h2 with ⟨h3,_⟩ | ⟨_,h3,rfl⟩ | ⟨_,h3,rfl⟩
   ·exact absurd rfl h3
   ·unfold Pg.Is at h3;rw[AJ h3]
   ·unfold Pg.Is at h3;rw[AI h3]
  ·refine⟨0,?_,AK ⟨rfl,hr.elim (fun h=>absurd h.1 hx) (fun h=>h.2)⟩⟩;unfold prF;simp only;rw[AI (by rw[h1];simp),hE];simp only;rw[AJ hx];rcases h2 with ⟨_,rfl⟩ | ⟨h3,_⟩ | ⟨h3,_⟩
   ·rfl
   ·exact absurd h3 hx
   ·exact absurd h3 hx
def IF (c:Nat):Nat:=if c=0\/c=7 then c else 8
def Di (R:Nat->Int) (b n:Int):Nat->Int:=if 0<=b/\b<12 then upd R b.toNat (min (R b.toNat+max n 0) 65535) else R
def rdK (K:BH) (p:Nat):BH × Pg × Nat:=
 let x:=rdF K.tl K.s K.r p
 if x.2.2.2=0 then ({ K with s:=x.1,r:=x.2.1,hR:=Di K.hR (p / 8:Nat) 1 },x.2.2.1,0) else ({ K with s:=x.1 },Pg.zero,x.2.2.2)
def prK (K:BH) (t:CP) (D:List Nat):BH × Nat:=
 let x:=prF K.tl K.s K.r t D
 ({ K with s:=x.1,r:=wrap64 (K.r+x.2.1),hR:=Di K.hR (t.p / 8:Nat) x.2.1 },IF x.2.2)
def prM (K:BH) (t:CP) (D:List Nat):BH × Nat:=if t.o=24/\t.l=true then (K,8) else prK K t D
def erK (K:BH) (b:Nat):BH × Nat:=
 let x:=eraseR K.s b
 if x.2=0 then ({ K with s:=x.1,hR:=upd K.hR b 0,hN:=upd K.hN b 0 },0) else ({ K with s:=x.1 },IF x.2)
def bad3 (F:Nat->Int):Nat:=AD.cnt F 3 12
def Cy (K:BH):Bool:=K.dd || decide (2<bad3 K.F)
def bearK (K:BH):Bool:=decide (bad3 K.F<2) && !K.sp
def stK (K:BH) (b s:Int):BH:={ K with F:=AD.setF K.F b s }
def noF:AC.St:=⟨false,0,0⟩
def clK (K:BH):BH:=if K.fr.o then { K with fr:=noF,F:=AD.setF K.F K.fr.k 2 } else K
def lvK (K:BH) (b:Int):BH:=if AC.blV K.fr=b then clK K else K
def spK (K:BH) (b:Int):BH:=
 let K1:=stK (lvK K b) b 3
 { K1 with dd:=K1.dd || (decide (2<bad3 K1.F) || K1.sp) }
def PM (K:BH) (b:Int):Bool:=decide (AD.getC b≠0) || decide (AD.getV K.F b=3)
def ms (F:Nat->Int):Option Nat:=((List.range 12).find? fun j=>decide (F (((F 12).toNat+j) % 12)=0)).map fun j=>((F 12).toNat+j) % 12
def tkC (F:Nat->Int):Nat:=if (ms F).isSome then 0 else 10
def tkM (F:Nat->Int):Nat:=(ms F).getD 0
theorem iS(F:Nat->Int)(f:Nat)(h:F 12=f)(hf:f<12):AD.mj F f (tkC F) (tkM F):=by
 have ef:(F 12).toNat=f:=by rw[h];rfl
 unfold tkC tkM ms;rw[ef];cases hq:(List.range 12).find? fun j=>decide (F ((f+j) % 12)=0) with
 | none=>
  refine AL ⟨rfl,rfl,fun i hi=>?_⟩;have:=List.find?_eq_none.1 hq ((i+12 - f) % 12) (by simp;omega);simp only[Al] at this
  rwa [show (f+(i+12 - f) % 12) % 12=i by omega] at this
 | some j=>
  have h1:=List.find?_some hq;have h2:=mem_of_find?_eq_some hq;simp only[Al] at h1;refine AK ⟨rfl,j,by simpa using h2,rfl,h1,fun i hi=>?_⟩;rw[List.find?_eq_some_iff_getElem] at hq;obtain⟨_,k,hk,he,it⟩:=hq;simp at he;subst he;have:=it i hi;simpa using this
def opK (K:BH):BH × Nat:=if tkC K.F=0 then ({ K with F:=AD.tkF K.F 0 (tkM K.F),fr:=⟨true,tkM K.F,0⟩ },0) else (K,14)
def sqK (K:BH):BH:={ K with sp:=decide (K.nx=IE),nx:=min (K.nx+1) IE }
def layK (K:BH) (t:CP):BH × Nat:=({ K with vs:=upd K.vs t.o t.q,vc:=upd K.vc t.o t.c,L:=AB.setL K.L t.o t.p },AB.setC K.L t.o t.p)
def ckK (K:BH) (q:Int):AA.Bn:=⟨K.fl,q,fun b=>decide (K.F b=3),K.cu,K.hR,K.hS⟩
abbrev GS:=BH->Nat->List Nat
def Zt:CP:=⟨0,0,0,0,false⟩
def Nd (K:BH):BH:={ K with ca:=0,hN:=K.hR }
def frK (H:GS) (K:BH) (p o:Nat):BH × CP × Nat:=
 if K.sp then (K,Zt,14) else
 let x:=prK (sqK K) ⟨p,o,K.nx,0,false⟩ (H (sqK K) K.nx)
 if x.2≠0 then (x.1,Zt,x.2) else (if o=24 then Nd x.1 else x.1,⟨p,o,K.nx,0,false⟩,0)
structure Bm where
 fm:Nat
 rt:Bool
 fd:Bool
 tt:AC.St
 ld:List CP
def tiK (K:BH) (S:Bm) (o:Nat):BH × Bm × Nat × Nat:=
 if S.tt.o then (K,{ S with tt:=AC.tkS S.tt o },(AC.nxV S.tt o).toNat,AC.nxC S.tt o) else
 if tkC K.F≠0 then (K,S,0,14) else
 ({ K with F:=AD.setF (AD.tkF K.F 0 (tkM K.F)) (tkM K.F) 2 },{ S with tt:=AC.tkS ⟨true,tkM K.F,0⟩ o },(AC.nxV ⟨true,tkM K.F,0⟩ o).toNat,AC.nxC ⟨true,tkM K.F,0⟩ o)
def noH:GS:=fun K q=>AA.wrL (ckK K q)
def coK (K:BH) (o:Nat):BH × List Nat × Bool × Nat:=
 if AB.atC K.L o≠0 then (K,[],false,AB.atC K.L o) else
 let x:=rdK K (K.L o).toNat
 if x.2.2≠0 then (x.1,[],false,x.2.2) else
 if x.2.1.sound=true then (x.1,x.2.1.data,x.2.1.l,0) else
 if o=24 then (x.1,noH x.1 (x.1.vs 24),false,0) else (x.1,List.replicate 174 0,true,0)
def cpK (bd:Bool):List Nat->BH->Bm->BH × Bm × Nat
 | [],K,S=>(K,S,0)
 | o :: l,K,S=>
  if bd=true/\o=24 then cpK bd l K S else
  let c:=coK K o
  if c.2.2.2≠0 then (c.1,S,c.2.2.2) else
  let t:=tiK c.1 S o
  if t.2.2.2≠0 then (t.1,t.2.1,t.2.2.2) else
  let g:CP:=⟨t.2.2.1,o,t.1.vs o,(t.1.vc o+1) % 256,c.2.2.1⟩
  let p:=prM t.1 g c.2.1
  if p.2≠0 then (p.1,t.2.1,p.2) else cpK bd l p.1 { t.2.1 with ld:=t.2.1.ld ++ [g] }
def cmL:List CP->BH->BH × Nat
 | [],K=>(K,0)
 | t :: l,K=>if (layK K t).2≠0 then layK K t else cmL l (layK K t).1
def cmK (K:BH) (S:Bm) (st:Int):BH × Nat:=
 let x:=cmL S.ld K
 if x.2≠0 then x else
 let K1:=stK (lvK x.1 S.fm) S.fm st
 let K2:=if S.tt.o then stK { clK K1 with fr:=S.tt } S.tt.k 1 else K1
 ({ K2 with mv:=wrap64 (K2.mv+S.ld.length) },0)
def bdH (b:Nat):GS:=fun K q=>AA.wrL { ckK K q with B:=upd (ckK K q).B b true }
def cbK (K:BH) (S:Bm):BH × Bm × Nat:=
 let t:=tiK K S 24
 if t.2.2.2≠0 then (t.1,t.2.1,t.2.2.2) else
 let f:=frK (bdH S.fm) t.1 t.2.2.1 24
 if f.2.2≠0 then (f.1,t.2.1,f.2.2) else
 let S2:={ t.2.1 with ld:=t.2.1.ld ++ [f.2.1] }
 ((cmK f.1 S2 3).1,S2,(cmK f.1 S2 3).2)
def tyK (K:BH) (S:Bm):BH × Bm × Nat:=
 let S1:={ S with tt:=noF,ld:=[] }
 if S.fd=true/\bearK K=false then (K,S1,14) else
 let bd:=S.fd || (S.rt && bearK K)
 let x:=cpK bd ((AB.ofL K.L S.fm).map Int.toNat) K S1
 if x.2.2≠0 then x else
 if bd=true then cbK x.1 x.2.1 else
 let e:=erK x.1 S.fm
 if e.2=0 then ((cmK e.1 x.2.1 0).1,x.2.1,(cmK e.1 x.2.1 0).2) else
 if e.2≠8 then (e.1,x.2.1,e.2) else
 let K2:=lvK e.1 S.fm
 let S2:={ x.2.1 with fd:=true }
 if bearK K2=false then (K2,S2,14) else cbK K2 S2
abbrev Kz:=BH->Option (BH × Nat)
abbrev It:=BH->Bm->Option (BH × Bm × Nat)
def SV (an:Kz):Kz:=fun K=>
 if Cy K=true\/K.sp=true then some (K,14) else
 if AC.rmV K.fr 24=true then an K else
 if (opK (clK K)).2≠0 then some (opK (clK K)) else an (opK (clK K)).1
def trK (te:Kz):Nat->It
 | 0,_,_=>none
 | n+1,K,S=>
  if PM K S.fm=true then some (K,S,0) else
  let x:=tyK K S
  if x.2.2≠8 then some x else
  match te (spK x.1 (AC.blV x.2.1.tt)) with
  | none=>none
  | some y=>if y.2≠0 then some (y.1,x.2.1,y.2) else trK te n y.1 x.2.1
def moK (te:Kz) (n:Nat):It:=fun K S=>
 match trK te n (if S.fd then lvK K S.fm else K) S with
 | none=>none
 | some x=>if x.2.1.fd=true/\x.2.2=14 then some ({ spK x.1 x.2.1.fm with dd:=true },x.2.1,x.2.2) else some x
def lvF (K:BH):Nat->Int:=fun k=>(AB.lvK K.L 96 k:Nat)
def nwS (b:Nat) (rt fd:Bool):Bm:=⟨b,rt,fd,noF,[]⟩
def LA (K:BH):Bool:=decide (AD.XM K.F<(AD.cnt K.F 0 12:Nat))
def mrK (mo:It):Nat->BH->Nat->Option (BH × Nat)
 | 0,_,_=>none
 | n+1,K,o=>
  if AC.rmV K.fr o=true then some (K,0) else
  let K1:=clK K
  if LA K1=true then (if (opK K1).2≠0 then some (opK K1) else mrK mo n (opK K1).1 o) else
  if AH.chC 12 12 K1.F (lvF K1)≠0 then some (K1,14) else
  match mo K1 (nwS (AH.chV 12 12 K1.F (lvF K1)) false false) with
  | none=>none
  | some y=>if y.2.2≠0 then some (y.1,y.2.2) else mrK mo n y.1 o
def anK (mr:BH->Nat->Option (BH × Nat)) (mo:It) (H:GS):Nat->BH->Nat->Option (BH × Nat)
 | 0,_,_=>none
 | n+1,K,o=>
  if Cy K=true\/K.sp=true then some (K,14) else
  match mr K o with
  | none=>none
  | some x=>
   if x.2≠0 then some x else
   if AC.nxC x.1.fr o≠0 then some (x.1,AC.nxC x.1.fr o) else
   let f:=frK H { x.1 with fr:=AC.tkS x.1.fr o } (AC.nxV x.1.fr o).toNat o
   if f.2.2=0 then some (layK f.1 f.2.1) else
   if f.2.2≠8 then some (f.1,f.2.2) else
   match mo f.1 (nwS (AC.blV f.1.fr).toNat false true) with
   | none=>none
   | some y=>if y.2.2≠0 then some (y.1,y.2.2) else anK mr mo H n y.1 o
def anR:Nat->GS->BH->Nat->Option (BH × Nat)
 | 0,_,_,_=>none
 | n+1,H,K,o=>
  let mo:=moK (SV fun K=>anR n noH K 24) (n+1)
  anK (mrK mo (n+1)) mo H (n+1) K o
def PN (n:Nat):Kz:=SV fun K=>anR n noH K 24
def movR (n:Nat):It:=moK (PN n) (n+1)
end
structure Ad where
 c:Nat
 m:Nat
 g:Nat
 p:Nat
 q:Nat
 b:Nat
 po:Nat
 ma:Nat
 pa:Nat
 h:Nat
def ptr (b:Nat):Value:=.pointer (some ⟨b,0,none⟩)
def kc (A:Ad) (K:BH) (i:Nat):Value:=
 if i=0 then ptr A.m else if i=1 then ptr A.po else if i=2 then ptr A.ma else
 if i<53 then .int .i64 (if (i - 3) % 2=0 then ((K.vs ((i - 3) / 2):Nat):Int) else ((K.vc ((i - 3) / 2):Nat):Int)) else
 if i<77 then .int .i64 (K.fl (i - 53)) else
 if i=77 then .int .i64 (K.nx:Nat) else if i=78 then .bool K.sp else
 if i=79 then .bool K.fr.o else if i=80 then .int .i64 (K.fr.k:Nat) else if i=81 then .int .i64 (K.fr.i:Nat) else
 if i=82 then ptr A.pa else if i<96 then .int .i64 0 else if i=96 then ptr A.h else
 if i=97 then .bool K.dd else if i=98 then .int .i64 K.rp else if i=99 then .int .i64 K.md else .int .i64 K.mv
structure Wf (K:BH):Prop where
 chip:K.s.Ok
 rr : -9223372036854775808<=K.r/\K.r<9223372036854775808
 frm:0<=K.F 12/\K.F 12<12
 map:AB.GK K.L
 vs:∀i,i<25->K.vs i<=1099511627775
 vp:∀i,i<25->K.L i≠-1->1<=K.vs i
 vc:∀i,i<25->K.vc i<256
 fl:∀i,i<24->0<=K.fl i/\K.fl i<=1099511627775
 nx:1<=K.nx/\K.nx<=1099511627775
 fr:AC.Fl K.fr
 cu:K.cu<96
 qu:AF.NA K.qu
 hea:AG.GR K.hR K.hN K.hS
 tl:∀L n,ToldR L n (K.tl L n)
structure CoreAt (A:Ad) (w:Wd) (K:BH):Prop where
 core:AF.QB w A.c 105 101 (kc A K) 83 K.qu
 med:EO w A.m A.g A.p A.q A.b K.r
 chip:BI w A.g K.s
 pool:IB w A.po 177 13 K.F
 map:AB.Mp w A.ma K.L
 pat:AF.PB w A.pa 175 K.cu K.ca
 hea:AG.HB w A.h 180 K.hR K.hN K.hS
 wf:Wf K
def Cor (A:Ad) (k:Nat):Prop:=k=A.c\/k=A.m\/k=A.g\/k=A.b\/k=A.po\/k=A.ma\/k=A.pa\/k=A.h
def Ty (w:Wd) (x:Nat) (t:TypeId):Prop:=∃cs z,w.heap[x]?=some (.cells cs t z)
theorem Ty.ne{w:Wd}{x y:Nat}{t u:TypeId}(h:Ty w x t)(k:Ty w y u)(e:t≠u):x≠y:=by
 rintro rfl;obtain⟨cs,z,h⟩:=h;obtain⟨cs',z',k⟩:=k;rw[h] at k;simp at k;exact e k.2.1
theorem Sto.ty{w:Wd}{g:Nat}{t:TypeId}{n:Nat}{f:Nat->Value}(h:Sto w g t n f):Ty w g t:=by
 obtain⟨cs,h1,_⟩:=h;exact⟨cs,_,h1⟩
theorem IB.ty{w:Wd}{b n:Nat}{t:TypeId}{F:Nat->Int}(h:IB w b t n F):Ty w b t:=⟨_,_,h⟩
theorem QB.sto{w:Wd}{b:Nat}{t:TypeId}{n:Nat}{g:Nat->Value}{o:Nat}{l:List Int}(h:AF.QB w b t n g o l):∃F,Sto w b t n (upL g o (ints F 13)):=by
 obtain⟨F,h,_⟩:=h;exact⟨F,h.1⟩
theorem QB.lt{w:Wd}{b:Nat}{t:TypeId}{n:Nat}{g:Nat->Value}{o:Nat}{l:List Int}(h:AF.QB w b t n g o l):b<w.heap.size:=by
 obtain⟨F,h⟩:=QB.sto h;exact h.lt
theorem QB.chg{S:Nat->Prop}{w w':Wd}{b:Nat}{t:TypeId}{n:Nat}{g:Nat->Value}{o:Nat}{l:List Int}(h:AF.QB w b t n g o l)(hc:Chg S w w')(hb:¬ S b):AF.QB w' b t n g o l:=by
 obtain⟨F,h1,h2⟩:=h;exact⟨F,⟨h1.1.chg hc hb,h1.2⟩,h2⟩
theorem QB.ext{w:Wd}{b:Nat}{t:TypeId}{n:Nat}{g g':Nat->Value}{o:Nat}{l:List Int}(h:AF.QB w b t n g o l)(e:∀j,j<n->(j<o\/o+13<=j)->g j=g' j):AF.QB w b t n g' o l:=by
 obtain⟨F,h1,h2⟩:=h;refine⟨F,⟨h1.1.ext fun i hi=>?_,h1.2⟩,h2⟩;by_cases c:o<=i/\i<o+13
 ·obtain⟨k,rfl⟩:∃k,i=o+k:=⟨i - o,om⟩;rw[AF.CJ _ _ _ _ _ om,AF.CJ _ _ _ _ _ om]
 ·rw[AF.Cc _ _ _ _ _ om,AF.Cc _ _ _ _ _ om];exact e i hi om
theorem QB.out{w:Wd}{b:Nat}{t:TypeId}{n:Nat}{g:Nat->Value}{o:Nat}{l:List Int}(h:AF.QB w b t n g o l)(i:Nat)(hi:i<n)(ho:i<o\/o+13<=i):w.cell? ⟨b,i,none⟩=some (g i)/\w.frozen? ⟨b,i,none⟩=false:=by
 obtain⟨F,h1,h2⟩:=h;exact⟨by rw[h1.1.cell i hi,AF.Cc _ _ _ _ _ ho],h1.1.frozen i⟩
theorem QB.sets{w:Wd}{b:Nat}{t:TypeId}{n:Nat}{g:Nat->Value}{o:Nat}{l:List Int}(h:AF.QB w b t n g o l)(i:Nat)(vs:List Value)(hi:i+vs.length<=o\/o+13<=i):AF.QB (w.setCells b i vs) b t n (upL g i vs) o l:=by
 obtain⟨F,h1,h2⟩:=h;refine⟨F,⟨(Sto.setCells vs i h1.1).ext fun j hj=>?_,h1.2⟩,h2⟩;by_cases c:o<=j/\j<o+13
 ·obtain⟨k,rfl⟩:∃k,j=o+k:=⟨j - o,om⟩;rw[AF.CJ _ _ _ _ _ om];unfold upL;rw[AI om];exact AF.CJ _ _ _ _ _ om
 ·rw[AF.Cc _ _ _ _ _ om];unfold upL;by_cases d:i<=j/\j<i+vs.length
  ·rw[AJ d,AJ d]
  ·rw[AI d,AI d,AI (by rw[BF];omega)]
theorem QB.set{w:Wd}{b:Nat}{t:TypeId}{n:Nat}{g:Nat->Value}{o:Nat}{l:List Int}(h:AF.QB w b t n g o l)(i:Nat)(v:Value)(hi:i<o\/o+13<=i):AF.QB (w.setCell ⟨b,i,none⟩ v) b t n (upL g i [v]) o l:=QB.sets h i [v] (by simp;omega)
theorem QB.front{w:Wd}{A:Ad}{K:BH}(h:AF.QB w A.c 105 101 (kc A K) 83 K.qu):∃f,AC.FB w A.c 105 101 f 79 K.fr/\∀w' s',AC.FB w' A.c 105 101 (upL f 79 (AC.stL s')) 79 s'->AF.QB w' A.c 105 101 (kc A { K with fr:=s' }) 83 K.qu:=by
 obtain⟨F,⟨h1,h2⟩,h3⟩:=h;refine⟨_,⟨h1,om,?_,?_,?_⟩,fun w' s' hF=>⟨F,⟨hF.1.ext fun i hi=>?_,h2⟩,h3⟩⟩
 ·rw[AF.Cc _ _ _ _ _ om];rfl
 ·rw[AF.Cc _ _ _ _ _ om];rfl
 ·rw[AF.Cc _ _ _ _ _ om];rfl
 ·by_cases c:83<=i/\i<96
  ·obtain⟨k,rfl⟩:∃k,i=83+k:=⟨i - 83,om⟩;rw[AF.CJ _ _ _ _ _ om];unfold upL;rw[AI (by simp[AC.stL];omega)];exact AF.CJ _ _ _ _ _ om
  ·rw[AF.Cc _ _ _ _ i om];by_cases d:79<=i/\i<82
   ·obtain⟨u0,u1,u2⟩:=AC.Gt (upL (kc A K) 83 (ints F 13)) 79 s';have:i=79\/i=80\/i=81:=om
    rcases this with rfl | rfl | rfl
    ·rw[u0];rfl
    ·rw[u1];rfl
    ·rw[u2];rfl
   ·show upL _ 79 (AC.stL s') i=_;unfold upL;rw[AI (by simp[AC.stL];omega),AI (by rw[BF];omega)];have e0:¬ i=79:=om;have e1:¬ i=80:=om;have e2:¬ i=81:=om;unfold kc;simp only[AI e0,AI e1,AI e2]
section
variable {A:Ad}{w w':Wd}{K:BH}
theorem CoreAt.tys(h:CoreAt A w K):Ty w A.c 105/\Ty w A.m 239/\Ty w A.g 128/\Ty w A.p 278/\Ty w A.q 306/\Ty w A.b 337/\Ty w A.po 177/\Ty w A.ma 183/\Ty w A.pa 175/\Ty w A.h 180:=by
 obtain⟨F,h1⟩:=QB.sto h.core;obtain⟨m1,⟨m2,m3⟩,m4⟩:=h.med;obtain⟨c,z,m5,_⟩:=D8 m2;exact⟨h1.ty,⟨_,_,m1⟩,Sto.ty h.chip,⟨_,_,m4⟩,⟨_,_,m3⟩,⟨c,z,m5⟩,h.pool.ty,IB.ty h.map,IB.ty h.pat,IB.ty h.hea⟩
theorem CoreAt.frame(h:CoreAt A w K){S:Nat->Prop}(hc:Chg S w w') :(¬ S A.c->AF.QB w' A.c 105 101 (kc A K) 83 K.qu)/\(¬ S A.m->¬ S A.p->¬ S A.q->¬ S A.b->EO w' A.m A.g A.p A.q A.b K.r)/\(¬ S A.g->BI w' A.g K.s)/\(¬ S A.po->IB w' A.po 177 13 K.F)/\(¬ S A.ma->AB.Mp w' A.ma K.L)/\(¬ S A.pa->AF.PB w' A.pa 175 K.cu K.ca)/\(¬ S A.h->AG.HB w' A.h 180 K.hR K.hN K.hS):=by
 obtain⟨lm,lp,lq,lb⟩:=h.med.lts;refine⟨fun k=>QB.chg h.core hc k,fun k1 k2 k3 k4=>⟨(hc.block A.m lm k1).trans h.med.1,h.med.2.other (hc.block A.b lb k4) (hc.block A.q lq k3) (hc.block A.p lp k2)⟩,fun k=>h.chip.chg hc k,fun k=>h.pool.chg hc k,fun k=>IB.chg h.map hc k,fun k=>IB.chg h.pat hc k,fun k=>IB.chg h.hea hc k⟩
theorem CoreAt.chg0(h:CoreAt A w K)(hc:Chg No w w'):CoreAt A w' K:=by
 obtain⟨f1,f2,f3,f4,f5,f6,f7⟩:=h.frame hc;exact⟨f1 (fun f=>f),f2 (fun f=>f) (fun f=>f) (fun f=>f) (fun f=>f),f3 (fun f=>f),f4 (fun f=>f),f5 (fun f=>f),f6 (fun f=>f),f7 (fun f=>f),h.wf⟩
theorem CoreAt.drewN(h:CoreAt A w K)(n:Nat):CoreAt A (w.drewN n) K:=h.chg0 ((Chg.refl _ w).drewN n)
theorem CoreAt.setPool(h:CoreAt A w K){F':Nat->Int}(hx:IB w' A.po 177 13 F')(hc:Chg (·=A.po) w w')(wf:Wf { K with F:=F' }):CoreAt A w' { K with F:=F' }:=by
 obtain⟨t0,t1,t2,t3,t4,t5,t6,t7,t8,t9⟩:=h.tys;obtain⟨f1,f2,f3,f4,f5,f6,f7⟩:=h.frame hc;exact⟨(f1 (t0.ne t6 dc)),(f2 (t1.ne t6 dc) (t3.ne t6 dc) (t4.ne t6 dc) (t5.ne t6 dc)),(f3 (t2.ne t6 dc)),hx,(f5 (t7.ne t6 dc)),(f6 (t8.ne t6 dc)),(f7 (t9.ne t6 dc)),wf⟩
theorem CoreAt.setMap(h:CoreAt A w K){L':Nat->Int}(hx:AB.Mp w' A.ma L')(hc:Chg (·=A.ma) w w')(wf:Wf { K with L:=L' }):CoreAt A w' { K with L:=L' }:=by
 obtain⟨t0,t1,t2,t3,t4,t5,t6,t7,t8,t9⟩:=h.tys;obtain⟨f1,f2,f3,f4,f5,f6,f7⟩:=h.frame hc;exact⟨(f1 (t0.ne t7 dc)),(f2 (t1.ne t7 dc) (t3.ne t7 dc) (t4.ne t7 dc) (t5.ne t7 dc)),(f3 (t2.ne t7 dc)),(f4 (t6.ne t7 dc)),hx,(f6 (t8.ne t7 dc)),(f7 (t9.ne t7 dc)),wf⟩
theorem CoreAt.setPat(h:CoreAt A w K){x y:Nat}(hx:AF.PB w' A.pa 175 x y)(hc:Chg (·=A.pa) w w')(wf:Wf { K with cu:=x,ca:=y }):CoreAt A w' { K with cu:=x,ca:=y }:=by
 obtain⟨t0,t1,t2,t3,t4,t5,t6,t7,t8,t9⟩:=h.tys;obtain⟨f1,f2,f3,f4,f5,f6,f7⟩:=h.frame hc;exact⟨(f1 (t0.ne t8 dc)),(f2 (t1.ne t8 dc) (t3.ne t8 dc) (t4.ne t8 dc) (t5.ne t8 dc)),(f3 (t2.ne t8 dc)),(f4 (t6.ne t8 dc)),(f5 (t7.ne t8 dc)),hx,(f7 (t9.ne t8 dc)),wf⟩
theorem CoreAt.setHea(h:CoreAt A w K){a b c:Nat->Int}(hx:AG.HB w' A.h 180 a b c)(hc:Chg (·=A.h) w w')(wf:Wf { K with hR:=a,hN:=b,hS:=c }):CoreAt A w' { K with hR:=a,hN:=b,hS:=c }:=by
 obtain⟨t0,t1,t2,t3,t4,t5,t6,t7,t8,t9⟩:=h.tys;obtain⟨f1,f2,f3,f4,f5,f6,f7⟩:=h.frame hc;exact⟨(f1 (t0.ne t9 dc)),(f2 (t1.ne t9 dc) (t3.ne t9 dc) (t4.ne t9 dc) (t5.ne t9 dc)),(f3 (t2.ne t9 dc)),(f4 (t6.ne t9 dc)),(f5 (t7.ne t9 dc)),(f6 (t8.ne t9 dc)),hx,wf⟩
theorem CoreAt.setChip(h:CoreAt A w K){s':BM}(hx:BI w' A.g s')(hc:Chg (·=A.g) w w')(wf:Wf { K with s:=s' }):CoreAt A w' { K with s:=s' }:=by
 obtain⟨t0,t1,t2,t3,t4,t5,t6,t7,t8,t9⟩:=h.tys;obtain⟨f1,f2,f3,f4,f5,f6,f7⟩:=h.frame hc;exact⟨(f1 (t0.ne t2 dc)),(f2 (t1.ne t2 dc) (t3.ne t2 dc) (t4.ne t2 dc) (t5.ne t2 dc)),hx,(f4 (t6.ne t2 dc)),(f5 (t7.ne t2 dc)),(f6 (t8.ne t2 dc)),(f7 (t9.ne t2 dc)),wf⟩
theorem CoreAt.setMed(h:CoreAt A w K){s':BM}{r':Int}(hm:EO w' A.m A.g A.p A.q A.b r')(hs:BI w' A.g s')(hc:Chg (fun k=>k=A.m\/k=A.g\/k=A.b) w w')(wf:Wf { K with s:=s',r:=r' }):CoreAt A w' { K with s:=s',r:=r' }:=by
 obtain⟨t0,t1,t2,t3,t4,t5,t6,t7,t8,t9⟩:=h.tys;obtain⟨f1,f2,f3,f4,f5,f6,f7⟩:=h.frame hc;exact⟨f1 (fun e=>e.elim (t0.ne t1 dc) (fun e=>e.elim (t0.ne t2 dc) (t0.ne t5 dc))),hm,hs,f4 (fun e=>e.elim (t6.ne t1 dc) (fun e=>e.elim (t6.ne t2 dc) (t6.ne t5 dc))),f5 (fun e=>e.elim (t7.ne t1 dc) (fun e=>e.elim (t7.ne t2 dc) (t7.ne t5 dc))),f6 (fun e=>e.elim (t8.ne t1 dc) (fun e=>e.elim (t8.ne t2 dc) (t8.ne t5 dc))),f7 (fun e=>e.elim (t9.ne t1 dc) (fun e=>e.elim (t9.ne t2 dc) (t9.ne t5 dc))),wf⟩
theorem CoreAt.setCore(h:CoreAt A w K)(K':BH)(e:K'.s=K.s/\K'.r=K.r/\K'.F=K.F/\K'.L=K.L/\K'.cu=K.cu/\K'.ca=K.ca/\K'.hR=K.hR/\K'.hN=K.hN/\K'.hS=K.hS)(hx:AF.QB w' A.c 105 101 (kc A K') 83 K'.qu)(hc:Chg (·=A.c) w w')(wf:Wf K'):CoreAt A w' K':=by
 obtain⟨t0,t1,t2,t3,t4,t5,t6,t7,t8,t9⟩:=h.tys;obtain⟨f1,f2,f3,f4,f5,f6,f7⟩:=h.frame hc;obtain⟨e1,e2,e3,e4,e5,e6,e7,e8,e9⟩:=e;refine⟨hx,by rw[e2];exact f2 (t1.ne t0 dc) (t3.ne t0 dc) (t4.ne t0 dc) (t5.ne t0 dc),by rw[e1];exact f3 (t2.ne t0 dc),by rw[e3];exact f4 (t6.ne t0 dc),by rw[e4];exact f5 (t7.ne t0 dc),by rw[e5,e6];exact f6 (t8.ne t0 dc),by rw[e7,e8,e9];exact f7 (t9.ne t0 dc),wf⟩
theorem CoreAt.cell(h:CoreAt A w K)(i:Nat)(hi:i<83\/(96<=i/\i<101)):w.cell? ⟨A.c,i,none⟩=some (kc A K i)/\w.frozen? ⟨A.c,i,none⟩=false:=QB.out h.core i om om
theorem CoreAt.lts(h:CoreAt A w K):A.c<w.heap.size/\A.m<w.heap.size/\A.g<w.heap.size/\A.b<w.heap.size/\A.po<w.heap.size/\A.ma<w.heap.size/\A.pa<w.heap.size/\A.h<w.heap.size:=by
 obtain⟨lm,lp,lq,lb⟩:=h.med.lts;exact⟨QB.lt h.core,lm,h.chip.lt,lb,h.pool.lt,IB.lt h.map,IB.lt h.pat,IB.lt h.hea⟩
theorem CoreAt.apart(h:CoreAt A w K){x:Nat}(hx:w.heap.size<=x):¬ Cor A x:=by
 obtain⟨l1,l2,l3,l4,l5,l6,l7,l8⟩:=h.lts;unfold Cor;omega
theorem Chg.cor_c{A:Ad}{w w':Wd}(h:Chg (·=A.c) w w'):Chg (Cor A) w w':=h.mono fun _ _ e=>AK e
theorem Chg.cor_g{A:Ad}{w w':Wd}(h:Chg (·=A.g) w w'):Chg (Cor A) w w':=h.mono fun _ _ e=>AL (AL (AK e))
theorem Chg.cor_po{A:Ad}{w w':Wd}(h:Chg (·=A.po) w w'):Chg (Cor A) w w':=h.mono fun _ _ e=>AL (AL (AL (AL (AK e))))
theorem Chg.cor_ma{A:Ad}{w w':Wd}(h:Chg (·=A.ma) w w'):Chg (Cor A) w w':=h.mono fun _ _ e=>AL (AL (AL (AL (AL (AK e)))))
theorem Chg.cor_pa{A:Ad}{w w':Wd}(h:Chg (·=A.pa) w w'):Chg (Cor A) w w':=h.mono fun _ _ e=>AL (AL (AL (AL (AL (AL (AK e))))))
theorem Chg.cor_h{A:Ad}{w w':Wd}(h:Chg (·=A.h) w w'):Chg (Cor A) w w':=h.mono fun _ _ e=>AL (AL (AL (AL (AL (AL (AL (e)))))))
theorem Chg.cor_med{A:Ad}{w w':Wd}(h:Chg (fun k=>k=A.m\/k=A.g\/k=A.b) w w'):Chg (Cor A) w w':=h.mono fun _ _ e=>e.elim (fun e=>AL (AK e)) fun e=>e.elim (fun e=>AL (AL (AK e))) fun e=>AL (AL (AL (AK e)))
theorem Chg.cor0{A:Ad}{w w':Wd}(h:Chg No w w'):Chg (Cor A) w w':=h.mono fun _ _ e=>e.elim
theorem CoreAt.cMed(h:CoreAt A w K):w.cell? ⟨A.c,0,none⟩=some (.pointer (some ⟨A.m,0,none⟩))/\w.frozen? ⟨A.c,0,none⟩=false:=h.cell 0 om
theorem CoreAt.cPool(h:CoreAt A w K):w.cell? ⟨A.c,1,none⟩=some (.pointer (some ⟨A.po,0,none⟩))/\w.frozen? ⟨A.c,1,none⟩=false:=h.cell 1 om
theorem CoreAt.cMap(h:CoreAt A w K):w.cell? ⟨A.c,2,none⟩=some (.pointer (some ⟨A.ma,0,none⟩))/\w.frozen? ⟨A.c,2,none⟩=false:=h.cell 2 om
theorem CoreAt.cNx(h:CoreAt A w K):w.cell? ⟨A.c,77,none⟩=some (.int .i64 (K.nx:Nat))/\w.frozen? ⟨A.c,77,none⟩=false:=h.cell 77 om
theorem CoreAt.cSp(h:CoreAt A w K):w.cell? ⟨A.c,78,none⟩=some (.bool K.sp)/\w.frozen? ⟨A.c,78,none⟩=false:=h.cell 78 om
theorem CoreAt.cPat(h:CoreAt A w K):w.cell? ⟨A.c,82,none⟩=some (.pointer (some ⟨A.pa,0,none⟩))/\w.frozen? ⟨A.c,82,none⟩=false:=h.cell 82 om
theorem CoreAt.cHea(h:CoreAt A w K):w.cell? ⟨A.c,96,none⟩=some (.pointer (some ⟨A.h,0,none⟩))/\w.frozen? ⟨A.c,96,none⟩=false:=h.cell 96 om
theorem CoreAt.cDd(h:CoreAt A w K):w.cell? ⟨A.c,97,none⟩=some (.bool K.dd)/\w.frozen? ⟨A.c,97,none⟩=false:=h.cell 97 om
theorem CoreAt.cRp(h:CoreAt A w K):w.cell? ⟨A.c,98,none⟩=some (.int .i64 K.rp)/\w.frozen? ⟨A.c,98,none⟩=false:=h.cell 98 om
theorem CoreAt.cMd(h:CoreAt A w K):w.cell? ⟨A.c,99,none⟩=some (.int .i64 K.md)/\w.frozen? ⟨A.c,99,none⟩=false:=h.cell 99 om
theorem CoreAt.cMv(h:CoreAt A w K):w.cell? ⟨A.c,100,none⟩=some (.int .i64 K.mv)/\w.frozen? ⟨A.c,100,none⟩=false:=h.cell 100 om
theorem JP(A:Ad)(K:BH)(i:Nat)(hi:i<25):kc A K (3+i*2)=.int .i64 (K.vs i:Nat)/\kc A K (3+i*2+1)=.int .i64 (K.vc i:Nat):=by
 unfold kc;refine⟨?_,?_⟩
 ·rw[AI om,AI om,AI om,AJ om,AJ om,show (3+i*2 - 3) / 2=i by omega]
 ·rw[AI om,AI om,AI om,AJ om,AI om,show (3+i*2+1 - 3) / 2=i by omega]
theorem fJ(A:Ad)(K:BH)(i:Nat)(hi:i<24):kc A K (53+i)=.int .i64 (K.fl i):=by
 unfold kc;rw[AI om,AI om,AI om,AI om,AJ om,show 53+i - 53=i by omega]
theorem CoreAt.cVs(h:CoreAt A w K)(i:Nat)(hi:i<25):w.cell? ⟨A.c,3+i*2,none⟩=some (.int .i64 (K.vs i:Nat))/\w.frozen? ⟨A.c,3+i*2,none⟩=false:=by
 rw[<-(JP A K i hi).1];exact h.cell _ om
theorem CoreAt.cVc(h:CoreAt A w K)(i:Nat)(hi:i<25):w.cell? ⟨A.c,3+i*2+1,none⟩=some (.int .i64 (K.vc i:Nat))/\w.frozen? ⟨A.c,3+i*2+1,none⟩=false:=by
 rw[<-(JP A K i hi).2];exact h.cell _ om
theorem CoreAt.cFl(h:CoreAt A w K)(i:Nat)(hi:i<24):w.cell? ⟨A.c,53+i,none⟩=some (.int .i64 (K.fl i))/\w.frozen? ⟨A.c,53+i,none⟩=false:=by
 rw[<-fJ A K i hi];exact h.cell _ om
end
end Go.Proofs.YtmdpnpjacfedpaaGreat
namespace Go.Proofs.YtmdpnpjacfedpaaGreat
open List
open Go.Proofs.Tryz
open Go.RowKit Go.Extern.Stop Go.Stop Go.Extern
theorem Xe(v:Value)(w:Wd):(Extern.ReflectliteType.typeOf #[.iface 57 v]).run prog w=.ok (.iface 262 (.agg #[.pointer (some ⟨0,57,none⟩)])) w:=kr
theorem NB(w:Wd):((Extern.ReflectliteType.method fun t=>do Extern.Rtype.noPackHeld "Comparable" t;Functor.map (fun a=>Value.bool a.comparable) (typeInfo t)) #[.agg #[.pointer (some ⟨0,57,none⟩)]]).run prog w=.ok (.bool true) w:=kr
theorem lQ(v:Value)(xT:TypeId)(w:Wd):(Instr.typeAssert (.iface 57 v) xT 264 true).run prog w=.ok (.tuple #[.nilIface,.bool false]) w:=run_typeAssert_lacksB underlying264 kr kr v xT w
theorem Ug(v:Value)(xT:TypeId)(w:Wd):(Instr.typeAssert (.iface 57 v) xT 267 true).run prog w=.ok (.tuple #[.nilIface,.bool false]) w:=run_typeAssert_lacksB underlying267 kr kr v xT w
theorem Q7(v:Value)(xT:TypeId)(w:Wd):(Instr.typeAssert (.iface 57 v) xT 268 true).run prog w=.ok (.tuple #[.nilIface,.bool false]) w:=run_typeAssert_lacksB underlying268 kr kr v xT w
theorem Gv(v:Value)(w:Wd):(Go.method 525 262 v "Comparable").run prog w=.ok (336,v) w:=kr
theorem Uh(x y:Int)(w:Wd):(binOp .eql 46 (.iface 57 (.int .i64 x)) (.iface 57 (.int .i64 y))).run prog w=.ok (.bool (decide (x=y))) w:=by
 rw[Lib.run_eql_iface_int w x y underlying46 kr underlying57];congr 2
theorem iT(k:Int)(w:Wd):Calls prog 95 #[.nilIface,.iface 57 (.int .i64 k)] w fun e w'=>e=.returned (.bool false)/\w'=w:=by
 have hn:=run_eql_iface_nil_left (P:=prog) w 57 (.int .i64 k) underlying46;go_enter func95,ntmps95;go_wp2;go_ret;exact⟨rfl,rfl⟩
theorem cU(x k:Int)(w:Wd):Calls prog 95 #[.iface 57 (.int .i64 x),.iface 57 (.int .i64 k)] w fun e w'=>e=.returned (.bool (decide (x=k)))/\w'=w:=by
 have h8:=@run_callFunc_extern prog 156 _ Extern.ReflectliteType.typeOf func156 kr kr kr kr;have no:=@run_callFunc_extern prog 336 _ (Extern.ReflectliteType.method fun t=>do Extern.Rtype.noPackHeld "Comparable" t;pure (.bool (<-typeInfo t).comparable)) func336 kr kr kr (by first | rfl | kernel_rfl);have tT:=Xe;have cT:=NB;have mR:=Gv;have nE:=lQ;have uE:=Ug;have vE:=Q7;have it:=Uh x k;by_cases h:x=k
 ·subst h;simp only[decide_true] at it ⊢;go_enter func95,ntmps95;go_wp2;refine wp_loop_rounds 1 ?_;rw[rounds_succ];go_wp2;go_ret;exact⟨rfl,rfl⟩
 ·simp only[h,decide_false] at it ⊢;go_enter func95,ntmps95;go_wp2;refine wp_loop_rounds 1 ?_;rw[rounds_succ];go_wp2;go_ret;exact⟨rfl,rfl⟩
theorem Lc(c k:Nat)(hk:k≠0)(w:Wd):Calls prog 95 #[errV c,.iface 57 (.int .i64 k)] w fun e w'=>e=.returned (.bool (decide (c=k)))/\w'=w:=by
 unfold errV;by_cases h:c=0
 ·rw[AJ h,AN om];exact iT k w
 ·rw[AI h,show decide (c=k)=decide ((c:Int)=(k:Int)) from decide_eq_decide.2 om];exact cU c k w
end Go.Proofs.YtmdpnpjacfedpaaGreat
namespace Go.Proofs.YtmdpnpjacfedpaaGreat
open List
open Go.Proofs.Tryz
open Go.RowKit
section
variable (A:Ad)(w:Wd)(K:BH)
theorem IG(p:Int)(h:0<=p/\p<96):Calls prog 99 #[.int .i64 p] w fun e w'=>e=.returned (.int .i64 (p / 8))/\w'=w:=by
 have hp:=AF.H9 w p h;go_enter func99,ntmps99;go_wp2_with (go_at_call 158;refine hp.mono ?_;rintro e w1 ⟨rfl,rfl⟩);go_ret;exact⟨rfl,rfl⟩
theorem NC(h:CoreAt A w K):Calls prog 60 #[.pointer (some ⟨A.c,0,none⟩)] w fun e w'=>e=.returned (.bool (Cy K))/\w'=w:=by
 obtain⟨it,-⟩:=h.cDd;obtain⟨c1,-⟩:=h.cPool;have hw:=AD.Kt w A.po K.F h.pool;unfold Cy bad3;generalize decide (2<AD.cnt K.F 3 12)=x at *
 cases hd:K.dd
 ·rw[hd] at it;go_enter func60,ntmps60;go_wp2_with (go_at_call 107;refine hw.mono ?_;rintro e w1 ⟨rfl,rfl⟩);go_ret;exact⟨rfl,rfl⟩
 ·rw[hd] at it;go_enter func60,ntmps60;go_wp2;go_ret;exact⟨rfl,rfl⟩
theorem Js(h:CoreAt A w K):Calls prog 61 #[.pointer (some ⟨A.c,0,none⟩)] w fun e w'=>e=.returned (.bool (bearK K))/\w'=w:=by
 obtain⟨c78,-⟩:=h.cSp;obtain⟨c1,-⟩:=h.cPool;have hw:=AD.GJ w A.po K.F h.pool 3;unfold bearK bad3;by_cases hb:AD.cnt K.F 3 12<2
 ·have hz:((AD.cnt K.F 3 12:Nat):Int)<2:=om
  rw[AO hb];generalize AD.cnt K.F 3 12=x at *
  go_enter func61,ntmps61;go_wp2_with (go_at_call 108;refine hw.mono ?_;rintro e w1 ⟨rfl,rfl⟩);go_ret;exact⟨rfl,rfl⟩
 ·have hz:¬ ((AD.cnt K.F 3 12:Nat):Int)<2:=om
  rw[AN hb];generalize AD.cnt K.F 3 12=x at *
  go_enter func61,ntmps61;go_wp2_with (go_at_call 108;refine hw.mono ?_;rintro e w1 ⟨rfl,rfl⟩);go_ret;exact⟨rfl,rfl⟩
theorem cV(F:Nat->Int)(b s:Int):AD.setF F b s 12=F 12:=by
 unfold AD.setF;split
 ·rename_i c;obtain⟨c1,-⟩:=AD.UP c;unfold upd;rw[AI om]
 ·rfl
theorem Wf.st{K:BH}(h:Wf K)(b s:Int):Wf (stK K b s):=
 ⟨h.chip,h.rr,by show 0<=AD.setF K.F b s 12/\AD.setF K.F b s 12<12;rw[cV];exact h.frm,h.map,h.vs,h.vp,h.vc,h.fl,h.nx,h.fr,h.cu,h.qu,h.hea,h.tl⟩
theorem PO(h:CoreAt A w K)(b s:Int):Calls prog 165 #[.pointer (some ⟨A.c,0,none⟩),.int .i64 b,.int .i64 s] w fun e w'=>e=.returned (.tuple #[])/\CoreAt A w' (stK K b s)/\Chg (Cor A) w w':=by
 obtain⟨c1,-⟩:=h.cPool;have hw:=AD.SF w A.po K.F h.pool b s;have H:=BE h;go_enter func165,ntmps165;go_wp2_with (go_at_call 173;refine hw.mono ?_;rintro e w1 ⟨rfl,h1,g1⟩);go_end0;exact⟨rfl,H.out.setPool h1 g1 (H.out.wf.st b s),g1.cor_po⟩
theorem lR(h:CoreAt A w K)(b:Int):Calls prog 162 #[.pointer (some ⟨A.c,0,none⟩),.int .i64 b] w fun e w'=>e=.returned (.bool (PM K b))/\w'=w:=by
 obtain⟨c1,-⟩:=h.cPool;have hw:=AD.ek w A.po K.F h.pool b;have q:=CA;have g:=BQ;unfold PM;generalize AD.getV K.F b=v at *
 by_cases hc:AD.getC b=0
 ·have hd:decide (AD.getC b=0)=true:=AO hc;have hd2:decide (AD.getC b≠0)=false:=AN (fun x=>x hc);rw[hd2];generalize AD.getC b=k at *
  by_cases hv:v=3
  ·have hb:(v == 3)=true:=(by simp[hv]);rw[AO hv];go_enter func162,ntmps162;go_wp2_with (go_at_call 59;refine hw.mono ?_;rintro e w1 ⟨rfl,rfl⟩);go_ret;exact⟨rfl,rfl⟩
  ·have hb:(v == 3)=false:=(by simp[hv]);rw[AN hv];go_enter func162,ntmps162;go_wp2_with (go_at_call 59;refine hw.mono ?_;rintro e w1 ⟨rfl,rfl⟩);go_ret;exact⟨rfl,rfl⟩
 ·have hd:decide (AD.getC b=0)=false:=AN hc;have hd2:decide (AD.getC b≠0)=true:=AO hc;rw[hd2];generalize AD.getC b=k at *
  go_enter func162,ntmps162;go_wp2_with (go_at_call 59;refine hw.mono ?_;rintro e w1 ⟨rfl,rfl⟩);go_ret;exact⟨rfl,rfl⟩
theorem Wf.fr'{K:BH}(h:Wf K){s:AC.St}(hs:AC.Fl s):Wf { K with fr:=s }:=
 ⟨h.chip,h.rr,h.frm,h.map,h.vs,h.vp,h.vc,h.fl,h.nx,hs,h.cu,h.qu,h.hea,h.tl⟩
theorem CoreAt.setFr{A:Ad}{w w':Wd}{K:BH}(h:CoreAt A w K){s:AC.St}(hx:AF.QB w' A.c 105 101 (kc A { K with fr:=s }) 83 K.qu)(hc:Chg (·=A.c) w w')(hs:AC.Fl s):CoreAt A w' { K with fr:=s }:=
 h.setCore { K with fr:=s } ⟨rfl,rfl,rfl,rfl,rfl,rfl,rfl,rfl,rfl⟩ hx hc (h.wf.fr' hs)
theorem Fl.noF:AC.Fl noF:=⟨dc,dc⟩
theorem IH(h:CoreAt A w K):Calls prog 146 #[.pointer (some ⟨A.c,0,none⟩)] w fun e w'=>e=.returned (.tuple #[])/\CoreAt A w' (clK K)/\Chg (Cor A) w w':=by
 obtain⟨f,hf,Fg⟩:=QB.front h.core;have hb:=AC.D4 w A.c 105 101 f 79 K.fr hf;unfold clK;unfold AC.blV at hb;cases ho:K.fr.o
 ·rw[ho] at hb;replace hb:Calls prog 96 #[.pointer (some ⟨A.c,79,none⟩)] w fun e w'=>e=.returned (.int .i64 (-1))/\w'=w:=hb;have H:=BE h;go_enter func146,ntmps146;go_wp2_with (go_at_call 96;refine hb.mono ?_;rintro e w1 ⟨rfl,rfl⟩);refine AZ (results_none rfl _ _ _) rfl ?_;exact⟨rfl,H.out,Chg.refl _ _⟩
 ·rw[ho] at hb;replace hb:Calls prog 96 #[.pointer (some ⟨A.c,79,none⟩)] w fun e w'=>e=.returned (.int .i64 (K.fr.k:Nat))/\w'=w:=hb;have no:=AC.UX w A.c 105 101 f 79 K.fr hf;have hz:(((K.fr.k:Nat):Int) == -1)=false:=by simp
  have H:=BE h;have HB:=BE Fg;go_enter func146,ntmps146;go_wp2_with (go_at_call 96;refine hb.mono ?_;rintro e w1 ⟨rfl,rfl⟩);refine no.mono ?_;rintro e w1 ⟨rfl,h1,g1⟩;have Go:=BE (H.out.setFr (HB.out w1 _ h1) g1 Fl.noF);have it:=PO A w1 { K with fr:=noF } Go.out (K.fr.k:Nat) 2;have La:=BE g1.cor_c;go_wp2_with (go_at_call 165;refine it.mono ?_;rintro e w2 ⟨rfl,h2,g2⟩);go_end0;exact⟨rfl,h2,La.out.trans g2⟩
theorem II(h:CoreAt A w K)(b:Int):Calls prog 109 #[.pointer (some ⟨A.c,0,none⟩),.int .i64 b] w fun e w'=>e=.returned (.tuple #[])/\CoreAt A w' (lvK K b)/\Chg (Cor A) w w':=by
 obtain⟨f,hf,Fg⟩:=QB.front h.core;have hb:=AC.D4 w A.c 105 101 f 79 K.fr hf;have hc:=IH A w K h;unfold lvK;by_cases e:AC.blV K.fr=b
 ·rw[AJ e];have ez:(AC.blV K.fr == b)=true:=by simp[e]
  generalize AC.blV K.fr=x at *
  go_enter func109,ntmps109;go_wp2_with (go_at_call 96;refine hb.mono ?_;rintro e w1 ⟨rfl,rfl⟩);refine hc.mono ?_;rintro e w2 ⟨rfl,h2,g2⟩;have H2:=BE h2;have G2:=BE g2;go_wp2;go_end0;exact⟨rfl,H2.out,G2.out⟩
 ·rw[AI e];have ez:(AC.blV K.fr == b)=false:=by simp[e]
  have H:=BE h;generalize AC.blV K.fr=x at *
  go_enter func109,ntmps109;go_wp2_with (go_at_call 96;refine hb.mono ?_;rintro e w1 ⟨rfl,rfl⟩);go_end0;exact⟨rfl,H.out,Chg.refl _ _⟩
theorem Wf.dd'{K:BH}(h:Wf K)(d:Bool):Wf { K with dd:=d }:=
 ⟨h.chip,h.rr,h.frm,h.map,h.vs,h.vp,h.vc,h.fl,h.nx,h.fr,h.cu,h.qu,h.hea,h.tl⟩
theorem lS(A:Ad)(K:BH)(d:Bool)(j:Nat)(_:j<101)(_:j<83\/83+13<=j):upL (kc A K) 97 [.bool d] j=kc A { K with dd:=d } j:=by
 rw[Br];by_cases e:j=97
 ·subst e;rfl
 ·rw[AI e];unfold kc;simp only[AI e]
theorem CoreAt.setDd{A:Ad}{w:Wd}{K:BH}(h:CoreAt A w K)(d:Bool):CoreAt A (w.setCell ⟨A.c,97,none⟩ (.bool d)) { K with dd:=d }:=
 h.setCore { K with dd:=d } ⟨rfl,rfl,rfl,rfl,rfl,rfl,rfl,rfl,rfl⟩ (QB.ext (QB.set h.core 97 (.bool d) om) (lS A K d)) ((Chg.refl (·=A.c) w).setCell (AK rfl) _ _) (h.wf.dd' d)
theorem Jt(h:CoreAt A w K)(b:Int):Calls prog 111 #[.pointer (some ⟨A.c,0,none⟩),.int .i64 b] w fun e w'=>e=.returned (.tuple #[])/\CoreAt A w' (spK K b)/\Chg (Cor A) w w':=by
 have h1:=II A w K h b;have HF:Hid (spK K b={ stK (lvK K b) b 3 with dd:=(stK (lvK K b) b 3).dd || (decide (2<bad3 (stK (lvK K b) b 3).F) || (stK (lvK K b) b 3).sp) }):=rfl;go_enter func111,ntmps111;go_wp2_with fail;refine h1.mono ?_;rintro e w1 ⟨rfl,k1,g1⟩;have h2:=PO A w1 _ k1 b 3;have G1:=BE g1;go_wp2_with fail;refine h2.mono ?_;rintro e w2 ⟨rfl,k2,g2⟩;generalize stK (lvK K b) b 3=K1 at *
 obtain⟨it,Go⟩:=k2.cDd;obtain⟨no,-⟩:=k2.cSp;obtain⟨c1,-⟩:=k2.cPool;have hw:=AD.Kt w2 A.po K1.F k2.pool;have G2:=BE (G1.out.trans g2);have HC:=BE k2;have HW:Hid (decide (2<AD.cnt K1.F 3 12)=decide (2<bad3 K1.F)):=rfl;rw[HW.out] at hw;generalize decide (2<bad3 K1.F)=x at *
 cases hd:K1.dd
 ·have HD:=BE hd;rw[hd] at it;cases x
  ·go_wp2_with (go_at_call 107;refine hw.mono ?_;rintro e w3 ⟨rfl,rfl⟩);go_end0;refine⟨rfl,?_,G2.out.trans (Chg.cor_c ((Chg.refl (·=A.c) _).setCell (AK rfl) _ _))⟩;rw[HF.out,HD.out];exact HC.out.setDd _
  ·go_wp2_with (go_at_call 107;refine hw.mono ?_;rintro e w3 ⟨rfl,rfl⟩);go_end0;refine⟨rfl,?_,G2.out.trans (Chg.cor_c ((Chg.refl (·=A.c) _).setCell (AK rfl) _ _))⟩;rw[HF.out,HD.out];exact HC.out.setDd _
 ·have HD:=BE hd;rw[hd] at it;go_wp2;go_end0;refine⟨rfl,?_,G2.out.trans (Chg.cor_c ((Chg.refl (·=A.c) _).setCell (AK rfl) _ _))⟩;rw[HF.out,HD.out];exact HC.out.setDd _
theorem iU{F:Nat->Int}{m:Nat}:AD.tkF F 0 m 12=((m+1) % 12:Nat):=by
 unfold AD.tkF upd;rw[AJ rfl,AJ rfl]
theorem LB(F:Nat->Int)(h:0<=F 12/\F 12<12):AD.mj F (F 12).toNat (tkC F) (tkM F)/\tkM F<12:=by
 have:=iS F (F 12).toNat om om;refine⟨this,?_⟩;rcases this with ⟨_,j,_,e,_⟩ | ⟨_,e,_⟩ <;> omega
theorem Xf(h:CoreAt A w K):Calls prog 193 #[.pointer (some ⟨A.po,0,none⟩)] w fun e w'=>e=.returned (.tuple #[.int .i64 (tkM K.F:Nat),errV (tkC K.F)])/\CoreAt A w' { K with F:=AD.tkF K.F (tkC K.F) (tkM K.F) }/\Chg (Cor A) w w':=by
 obtain⟨hn,hm⟩:=LB K.F h.wf.frm;refine(AD.Ku w A.po K.F h.pool (K.F 12).toNat (by have:=h.wf.frm;omega) (by have:=h.wf.frm;omega) hn).mono ?_;rintro e w1 ⟨rfl,k1,g1⟩;refine⟨rfl,h.setPool k1 g1 ⟨h.wf.chip,h.wf.rr,?_,h.wf.map,h.wf.vs,h.wf.vp,h.wf.vc,h.wf.fl,h.wf.nx,h.wf.fr,h.wf.cu,h.wf.qu,h.wf.hea,h.wf.tl⟩,g1.cor_po⟩;show 0<=AD.tkF K.F (tkC K.F) (tkM K.F) 12/\AD.tkF K.F (tkC K.F) (tkM K.F) 12<12;by_cases hc:tkC K.F=0
 ·rw[hc,iU];omega
 ·unfold AD.tkF;rw[AI hc];exact h.wf.frm
theorem Xg(h:CoreAt A w K):Calls prog 148 #[.pointer (some ⟨A.c,0,none⟩)] w fun e w'=>e=.returned (errV (opK K).2)/\CoreAt A w' (opK K).1/\Chg (Cor A) w w':=by
 obtain⟨c1,-⟩:=h.cPool;have ht:=Xf A w K h;have hm:=(LB K.F h.wf.frm).2;have q:=CA;have g:=BQ;unfold opK;by_cases hc:tkC K.F=0
 ·rw[AJ hc];rw[hc] at ht;have H:=BE h;have HM:=BE hm;go_enter func148,ntmps148;go_wp2_with fail;refine ht.mono ?_;rintro e w1 ⟨rfl,k1,g1⟩;obtain⟨f,hf,Fg⟩:=QB.front k1.core;have ho:=AC.iJ w1 A.c 105 101 f 79 K.fr hf (tkM K.F:Nat) 0;have e0:AC.lI (tkM K.F:Nat) 0=0:=by
   unfold AC.lI;rw[AI (by have:=HM.out;omega)]
  have e1:AC.opS K.fr (tkM K.F:Nat) 0=⟨true,tkM K.F,0⟩:=by
   unfold AC.opS;rw[AJ e0];rfl
  rw[e0,e1] at ho;have HB:=BE Fg;have H1:=BE k1;have G1:=BE g1;go_wp2_with (go_at_call 194;refine ho.mono ?_;rintro e w2 ⟨rfl,k2,g2⟩);go_ret;exact⟨rfl,H1.out.setFr (HB.out w2 _ k2) g2 ⟨HM.out,(by decide:0<9)⟩,G1.out.trans g2.cor_c⟩
 ·rw[AI hc];have hd:decide (tkC K.F=0)=false:=AN hc;have HF:Hid (AD.tkF K.F (tkC K.F) (tkM K.F)=K.F):=by show AD.tkF K.F (tkC K.F) (tkM K.F)=K.F;unfold AD.tkF;rw[AI hc]
  rw[HF.out] at ht;have H:=BE h;generalize tkC K.F=k at *
  generalize tkM K.F=m at *
  go_enter func148,ntmps148;go_wp2_with (go_at_call 193;refine ht.mono ?_;rintro e w1 ⟨rfl,k1,g1⟩);go_ret;exact⟨rfl,k1,g1⟩
end
section
variable (A:Ad)(w:Wd)(K:BH)
theorem Wf.sq{K:BH}(h:Wf K):Wf (sqK K):=
 ⟨h.chip,h.rr,h.frm,h.map,h.vs,h.vp,h.vc,h.fl,by have:=h.nx;show 1<=min (K.nx+1) IE/\min (K.nx+1) IE<=1099511627775;unfold IE;omega,h.fr,h.cu,h.qu,h.hea,h.tl⟩
theorem lT(A:Ad)(K:BH)(b:Bool)(n:Nat)(j:Nat)(_:j<101)(_:j<83\/83+13<=j):upL (upL (kc A K) 78 [.bool b]) 77 [.int .i64 (n:Nat)] j=kc A { K with sp:=b,nx:=n } j:=by
 rw[Br,Br];by_cases e:j=77
 ·subst e;rfl
 ·rw[AI e];by_cases e2:j=78
  ·subst e2;rfl
  ·rw[AI e2];unfold kc;simp only[AI e,AI e2]
theorem CoreAt.setSq{A:Ad}{w:Wd}{K:BH}(h:CoreAt A w K){b:Bool}{z:Int}(hb:b=decide (K.nx=IE))(hz:z=(min (K.nx+1) IE:Nat)):CoreAt A ((w.setCell ⟨A.c,78,none⟩ (.bool b)).setCell ⟨A.c,77,none⟩ (.int .i64 z)) (sqK K):=by
 subst hb hz;exact h.setCore (sqK K) ⟨rfl,rfl,rfl,rfl,rfl,rfl,rfl,rfl,rfl⟩ (QB.ext (QB.set (QB.set h.core 78 _ om) 77 _ om) (lT A K _ _)) (((Chg.refl (·=A.c) w).setCell (AK rfl) _ _).setCell (AK rfl) _ _) h.wf.sq
theorem lU(h:CoreAt A w K):Calls prog 151 #[.pointer (some ⟨A.c,0,none⟩)] w fun e w'=>e=.returned (.int .i64 (K.nx:Nat))/\CoreAt A w' (sqK K)/\Chg (Cor A) w w':=by
 obtain⟨it,La⟩:=h.cNx;obtain⟨Go,no⟩:=h.cSp;have hn:=h.wf.nx;have H:=BE h;have hz:((K.nx:Nat):Int)<=1099511627775:=om
 have h0:(0:Int)<=((K.nx:Nat):Int):=om
 obtain⟨n,HN⟩:∃n:Int,Hid (n=((K.nx:Nat):Int)):=⟨_,rfl⟩;rw[<-HN.out] at it hz h0 ⊢;have HB:Hid ((n == 1099511627775)=decide (K.nx=IE)):=by
  show (n == 1099511627775)=decide (K.nx=IE);have:=HN.out;unfold IE;by_cases e:K.nx=1099511627775
  ·rw[AO e];simp;omega
  ·rw[AN e];simp;omega
 go_enter func151,ntmps151;go_wp2
 all_goals
  go_ret;exact⟨rfl,H.out.setSq HB (by have:=HN.out;unfold IE;omega),Chg.cor_c (((Chg.refl (·=A.c) w).setCell (AK rfl) _ _).setCell (AK rfl) _ _)⟩
theorem iV(A:Ad)(K:BH)(i q c:Nat)(hi:i<25)(j:Nat)(_:j<101)(_:j<83\/83+13<=j):upL (kc A K) (3+i*2) [.int .i64 (q:Nat),.int .i64 (c:Nat)] j=kc A { K with vs:=upd K.vs i q,vc:=upd K.vc i c } j:=by
 unfold upL;by_cases e:3+i*2<=j/\j<3+i*2+2
 ·rw[AJ (by simpa using e)];have:j=3+i*2\/j=3+i*2+1:=om
  rcases this with rfl | rfl
  ·rw[show 3+i*2 - (3+i*2)=0 by omega,(JP A _ i hi).1];simp[upd]
  ·rw[show 3+i*2+1 - (3+i*2)=1 by omega,(JP A _ i hi).2];simp[upd]
 ·rw[AI (by simpa using e)];by_cases h3:3<=j/\j<53
  ·obtain⟨k,hk,hj⟩:∃k,k<25/\(j=3+k*2\/j=3+k*2+1):=⟨(j - 3) / 2,om,om⟩;rcases hj with rfl | rfl
   ·rw[(JP A K k hk).1,(JP A _ k hk).1];show _=Value.int .i64 ((upd K.vs i q k:Nat):Int);unfold upd;rw[AI om]
   ·rw[(JP A K k hk).2,(JP A _ k hk).2];show _=Value.int .i64 ((upd K.vc i c k:Nat):Int);unfold upd;rw[AI om]
  ·by_cases h4:j<3
   ·have:j=0\/j=1\/j=2:=om
    rcases this with rfl | rfl | rfl <;> rfl
   ·unfold kc;simp only[AI (show ¬ j<53 by omega)]
theorem Wf.ver{K:BH}(h:Wf K){i q c:Nat}(hq:1<=q/\q<=1099511627775)(hc:c<256):Wf { K with vs:=upd K.vs i q,vc:=upd K.vc i c }:=by
 refine⟨h.chip,h.rr,h.frm,h.map,fun k hk=>?_,fun k hk hl=>?_,fun k hk=>?_,h.fl,h.nx,h.fr,h.cu,h.qu,h.hea,h.tl⟩
 ·show upd K.vs i q k<=_;unfold upd;split
  ·exact hq.2
  ·exact h.vs k hk
 ·show 1<=upd K.vs i q k;unfold upd;split
  ·exact hq.1
  ·exact h.vp k hk hl
 ·show upd K.vc i c k<256;unfold upd;split
  ·exact hc
  ·exact h.vc k hk
theorem CoreAt.setVer{A:Ad}{w:Wd}{K:BH}(h:CoreAt A w K){i q c:Nat}(hi:i<25)(hq:1<=q/\q<=1099511627775)(hc:c<256):CoreAt A (w.setCells A.c (3+i*2) [.int .i64 (q:Nat),.int .i64 (c:Nat)]) { K with vs:=upd K.vs i q,vc:=upd K.vc i c }:=
 h.setCore _ ⟨rfl,rfl,rfl,rfl,rfl,rfl,rfl,rfl,rfl⟩ (QB.ext (QB.sets h.core (3+i*2) _ (by simp;omega)) (iV A K i q c hi)) (Chg.setCells (S:=(·=A.c)) (AK rfl) _ _ (Chg.refl _ w)) (h.wf.ver hq hc)
theorem Wf.map'{K:BH}(h:Wf K){L:Nat->Int}(hl:AB.GK L)(hv:∀i,i<25->L i≠-1->1<=K.vs i):Wf { K with L:=L }:=
 ⟨h.chip,h.rr,h.frm,hl,h.vs,hv,h.vc,h.fl,h.nx,h.fr,h.cu,h.qu,h.hea,h.tl⟩
theorem cW(w:Wd)(x y:Int):(Instr.build 96 #[(0,.int .i64 x),(1,.int .i64 y)]).run prog w=.ok (.agg #[.int .i64 x,.int .i64 y]) w:=kr
theorem fK(h:CoreAt A w K)(t:CP)(ho:t.o<25)(hq:1<=t.q/\t.q<=1099511627775)(hc:t.c<256):Calls prog 94 #[.pointer (some ⟨A.c,0,none⟩),.agg #[.int .i64 (t.p:Nat),.int .i64 (t.o:Nat),.int .i64 (t.q:Nat),.int .i64 (t.c:Nat),.bool t.l]] w fun e w'=>e=.returned (errV (layK K t).2)/\CoreAt A w' (layK K t).1/\Chg (Cor A) w w':=by
 have T0:=Tg.new w t.p t.o t.q t.c t.l;have G0:Chg No w (w.alloc (.cells #[.int .i64 (t.p:Nat),.int .i64 (t.o:Nat),.int .i64 (t.q:Nat),.int .i64 (t.c:Nat),.bool t.l] 130)):=(Chg.refl _ w).alloc _;have C0:=h.chg0 G0;obtain⟨x1,y1⟩:=C0.cVs t.o ho;obtain⟨x2,y2⟩:=C0.cVc t.o ho;have hz:((t.o:Nat):Int)<25:=om
 have hb:=cW;have HL:Hid (A.c<w.heap.size):=h.lts.1;have HN:Hid (¬ w.heap.size=A.ma):=by have:=h.lts.2.2.2.2.2.1;show ¬ w.heap.size=A.ma;omega
 have HV:Hid (∀i,i<25->AB.setL K.L (t.o:Nat) (t.p:Nat) i≠-1->1<=upd K.vs t.o t.q i):=fun i hi hl=>by
  unfold upd;split
  ·exact hq.1
  ·rename_i e;refine h.wf.vp i hi ?_;unfold AB.setL at hl;split at hl
   ·unfold upd at hl;rw[AI (by simpa using e)] at hl;exact hl
   ·exact hl
 have H:=BE C0;have G:=BE G0;have HQ:=BE hq;have HC:=BE hc;have HO:=BE ho;clear h C0 G0 T0 hq hc ho;go_enter func94,ntmps94;go_wp2_with fail;go_region;have C1:CoreAt A (((w.alloc (.cells #[.int .i64 (t.p:Nat),.int .i64 (t.o:Nat),.int .i64 (t.q:Nat),.int .i64 (t.c:Nat),.bool t.l] 130)).setCell ⟨A.c,3+t.o*2,none⟩ (.int .i64 (t.q:Nat))).setCell ⟨A.c,3+t.o*2+1,none⟩ (.int .i64 (t.c:Nat))).drew { K with vs:=upd K.vs t.o t.q,vc:=upd K.vc t.o t.c }:=(H.out.setVer HO HQ HC).drewN 1;have T1:Tg (((w.alloc (.cells #[.int .i64 (t.p:Nat),.int .i64 (t.o:Nat),.int .i64 (t.q:Nat),.int .i64 (t.c:Nat),.bool t.l] 130)).setCell ⟨A.c,3+t.o*2,none⟩ (.int .i64 (t.q:Nat))).setCell ⟨A.c,3+t.o*2+1,none⟩ (.int .i64 (t.c:Nat))).drew w.heap.size t.p t.o t.q t.c t.l:=by
  have hl:=HL.out;refine Tg.chg (S:=(·=A.c)) (Tg.new w t.p t.o t.q t.c t.l) ?_ om;exact(((Chg.refl (·=A.c) _).setCell (AK rfl) _ _).setCell (AK rfl) _ _).drew
 have G1:Chg (Cor A) w (((w.alloc (.cells #[.int .i64 (t.p:Nat),.int .i64 (t.o:Nat),.int .i64 (t.q:Nat),.int .i64 (t.c:Nat),.bool t.l] 130)).setCell ⟨A.c,3+t.o*2,none⟩ (.int .i64 (t.q:Nat))).setCell ⟨A.c,3+t.o*2+1,none⟩ (.int .i64 (t.c:Nat))).drew:=(((Chg.cor0 G).setCell (AK (AK rfl)) _ _).setCell (AK (AK rfl)) _ _).drew;generalize (((w.alloc (.cells #[.int .i64 (t.p:Nat),.int .i64 (t.o:Nat),.int .i64 (t.q:Nat),.int .i64 (t.c:Nat),.bool t.l] 130)).setCell ⟨A.c,3+t.o*2,none⟩ (.int .i64 (t.q:Nat))).setCell ⟨A.c,3+t.o*2+1,none⟩ (.int .i64 (t.c:Nat))).drew=w1 at *
 obtain⟨c2,-⟩:=C1.cMap;have d0:w1.cell? ⟨w.heap.size,0,none⟩=some (.int .i64 (t.p:Nat)):=T1.cells.1;have d1:w1.cell? ⟨w.heap.size,1,none⟩=some (.int .i64 (t.o:Nat)):=T1.cells.2.1;have H1:=BE C1;have no:=BE G1;have it:=BE T1;clear C1 T1 G1 x1 y1 x2 y2 H G;go_wp2_with fail
 go_region_held3 (fun wx=>wx.cell? ⟨A.c,2,none⟩=some (.pointer (some ⟨A.ma,0,none⟩))/\wx.cell? ⟨w.heap.size,0,none⟩=some (.int .i64 (t.p:Nat))/\wx.cell? ⟨w.heap.size,1,none⟩=some (.int .i64 (t.o:Nat)))
  (first | exact⟨c2,d0,d1⟩ | exact⟨z2,z0,z1⟩)
  (first | (go_at_call 155;refine(AB.SF _ A.ma K.L H1.out.map.drew H1.out.wf.map (t.o:Nat) (t.p:Nat)).mono ?_;rintro e w2 ⟨rfl,k2,g2,o2⟩;have C2:=(H1.out.drewN 1).setMap k2 g2 (H1.out.wf.map' o2 HV);have T2:=(it.out.chg (Chg.refl No w1).drew (fun f=>f)).chg g2 HN;have z0:=T2.cells.1;have z1:=T2.cells.2.1;obtain⟨z2,-⟩:=C2.cMap;have ar:=BE C2;have La:=BE (no.out.drew.trans g2.cor_ma);clear k2 g2 o2 C2 T2))
 all_goals
  go_wp2;go_ret;exact⟨rfl,ar.out,La⟩
end
section
variable {R N S:Nat->Int}{K:BH}{s:BM}(w:Wd)
theorem Iu(h:AG.GR R N S)(b:Nat)(hb:b<12){n:Int}(hn:n<=0):Di R b n=R:=by
 unfold Di;rw[AJ om];funext j;unfold upd;split
 ·rename_i e;have:=(h b hb).1;rw[e,show ((b:Int)).toNat=b from rfl,Int.max_eq_right hn];omega
 ·rfl
theorem Ui(b:Nat)(hb:b<12)(i:Nat):AG.more 65535 (Di R b (i:Nat)) (b:Nat)=Di R b ((i+1:Nat):Int):=by
 rw[AG.Ky _ _ _ hb];unfold Di;rw[AJ om,AJ om];funext j;unfold upd;rw[show ((b:Int)).toNat=b from rfl,AJ rfl];split
 ·omega
 ·rfl
theorem GR.cnt(h:AG.GR R N S)(b n:Int):AG.GR (Di R b n) N S:=fun i hi=>by
 refine⟨?_,(h i hi).2⟩
 have:=(h i hi).1
 unfold Di
 split
 ·
  unfold upd
  split
  ·
   rename_i e;rw[<-e];omega
  ·
   exact this
 ·
  exact this
theorem Wf.hR'(h:Wf K)(hk:AG.GR R N S):Wf { K with hR:=R,hN:=N,hS:=S }:=
 ⟨h.chip,h.rr,h.frm,h.map,h.vs,h.vp,h.vc,h.fl,h.nx,h.fr,h.cu,h.qu,hk,h.tl⟩
theorem ND(A:Ad)(w:Wd)(K:BH)(h:CoreAt A w K)(b:Nat)(hb:b<12)(n:Int)(hn6:n<=65536):Calls prog 63 #[.pointer (some ⟨A.c,0,none⟩),.int .i64 (b:Nat),.int .i64 n] w fun e w'=>e=.returned (.tuple #[])/\CoreAt A w' { K with hR:=Di K.hR (b:Nat) n }/\Chg (Cor A) w w':=by
 by_cases hn:n<=0
 ·have hz:¬ (0:Int)<n:=om
  rw[Iu h.wf.hea b hb hn];have H:=BE h;go_enter func63,ntmps63;go_wp2
  go_loopg [7] 0 (fun kx s7 wr=>s7=.int .i64 0/\Hid (wr=w))
  case atStart=>exact⟨rfl,rfl⟩
  case round=>
   obtain⟨rfl,HW⟩:=hrel;obtain rfl:=HW.out;go_wp2;go_end0;exact⟨rfl,H.out,Chg.refl _ _⟩
 ·obtain⟨m,rfl⟩:∃m:Nat,n=m:=⟨n.toNat,om⟩;have q:=Ct;have HK:=BE h;have HO:=BE h.wf.hea;have HB:=BE hb;have h0:(Hid (Di K.hR (b:Nat) ((0:Nat):Int)=K.hR)):=Iu h.wf.hea b hb om;go_enter func63,ntmps63;go_wp2
  go_loopg [7] m (fun kx s7 wr=>∃i:Nat,s7=.int .i64 i/\i<=m/\m - i<=kx/\Hid (CoreAt A wr { K with hR:=Di K.hR (b:Nat) (i:Nat) })/\Hid (Chg (Cor A) w wr))
  case atStart=>exact⟨0,rfl,om,om,by show CoreAt A w _;rw[h0.out];exact HK.out,Chg.refl _ _⟩
  case round=>
   obtain⟨i,rfl,kd,La,HC,HG⟩:=hrel;by_cases hv:i<m
   ·have it:(i:Int)<(m:Int):=om;obtain⟨ar,-⟩:=HC.out.cHea;have hr:=AG.Qg wr A.h (Di K.hR (b:Nat) (i:Nat)) K.hN K.hS HC.out.hea HC.out.wf.hea (b:Nat);rw[AG.FE b HB.out,Ui b HB i] at hr;replace hr:Calls prog 112 #[.pointer (some ⟨A.h,0,none⟩),.int .i64 (b:Nat)] wr fun e w'=>e=.returned .nilIface/\AG.HB w' A.h 180 (Di K.hR (b:Nat) ((i+1:Nat):Int)) K.hN K.hS/\Chg (·=A.h) wr w':=hr;go_wp2_with fail;refine hr.mono ?_;rintro e w1 ⟨rfl,k1,g1⟩;have no:=BE (HC.out.setHea k1 g1 (HC.out.wf.hR' (GR.cnt HO _ _)));have Go:=BE (HG.out.trans g1.cor_h);go_wp2
    go_roundg (m - (i+1))
    case measure=>omega
    case rel=>exact⟨i+1,by simp,om,AM _,no.out,Go⟩
   ·have it:¬ (i:Int)<(m:Int):=om;have e:i=m:=om;subst e;go_wp2;go_end0;exact⟨rfl,HC.out,HG⟩
theorem Iv(c:Nat):Calls prog 186 #[errV c] w fun e w'=>e=.returned (errV (IF c))/\w'=w:=by
 have q:=Ii;have g:=Dg;have hi:=Lc c 7 dc w;unfold IF;by_cases h0:c=0
 ·subst h0;rw[AJ (AK rfl)];replace q:∀w,(binOp .eql 46 (errV 0) .nilIface).run prog w=.ok (.bool true) w:=fun w=>q 0 w;go_enter func186,ntmps186;go_wp2;go_ret;exact⟨rfl,rfl⟩
 ·replace q:∀w,(binOp .eql 46 (errV c) .nilIface).run prog w=.ok (.bool false) w:=fun w=>by rw[q c w,AN h0]
  by_cases h7:c=7
  ·subst h7;rw[AJ (AL rfl)];replace hi:Calls prog 95 #[errV 7,.iface 57 (.int .i64 7)] w fun e w'=>e=.returned (.bool true)/\w'=w:=hi;go_enter func186,ntmps186;go_wp2_with (go_at_call 95;refine hi.mono ?_;rintro e w1 ⟨rfl,rfl⟩);go_ret;exact⟨rfl,rfl⟩
  ·rw[AI om];rw[AN h7] at hi;replace hi:Calls prog 95 #[errV c,.iface 57 (.int .i64 7)] w fun e w'=>e=.returned (.bool false)/\w'=w:=hi;go_enter func186,ntmps186;go_wp2_with (go_at_call 95;refine hi.mono ?_;rintro e w1 ⟨rfl,rfl⟩);go_ret;exact⟨rfl,rfl⟩
theorem Wf.chip'(h:Wf K)(hs:s.Ok):Wf { K with s:=s }:=
 ⟨hs,h.rr,h.frm,h.map,h.vs,h.vp,h.vc,h.fl,h.nx,h.fr,h.cu,h.qu,h.hea,h.tl⟩
theorem Wf.med'(h:Wf K)(hs:s.Ok){r:Int}(hr : -9223372036854775808<=r/\r<9223372036854775808):Wf { K with s:=s,r:=r }:=
 ⟨hs,hr,h.frm,h.map,h.vs,h.vp,h.vc,h.fl,h.nx,h.fr,h.cu,h.qu,h.hea,h.tl⟩
theorem NE(A:Ad)(w:Wd)(K:BH)(h:CoreAt A w K)(b:Nat)(hb:b<12):Calls prog 138 #[.pointer (some ⟨A.c,0,none⟩),.int .i64 (b:Nat)] w fun e w'=>e=.returned (errV (erK K b).2)/\CoreAt A w' (erK K b).1/\Chg (Cor A) w w':=by
 obtain⟨c0,-⟩:=h.cMed;have he:=Qk A.m A.g A.p A.q A.b K.r K.s h.wf.chip w h.med h.chip (b:Nat);rw[KX] at he;have q:=CA;have g:=BQ;have HK:=BE h;have HB:=BE hb;have La:=Id h.wf.chip (b:Nat);unfold erK;simp only;by_cases hc:(eraseR K.s (b:Nat)).2=0
 ·rw[AJ hc];rw[hc] at he;generalize (eraseR K.s (b:Nat)).1=s1 at *
  have HS:=BE La;go_enter func138,ntmps138;go_wp2_with fail;refine he.mono ?_;rintro e w1 ⟨rfl,k1,g1⟩;have C1:=HK.out.setChip k1 g1 (HK.out.wf.chip' HS);obtain⟨kd,-⟩:=C1.cHea;have hr:=AG.Xd w1 A.h K.hR K.hN K.hS C1.hea C1.wf.hea (b:Nat);rw[AG.FE b HB.out,AG.Et _ _ HB.out,AG.Et _ _ HB.out] at hr;have it:=BE C1;have no:=BE g1.cor_g;go_wp2_with fail;refine hr.mono ?_;rintro e w2 ⟨rfl,k2,g2⟩;have ho:=AG.GR.none it.out.wf.hea (b:Nat);rw[AG.Et _ _ HB.out,AG.Et _ _ HB.out] at ho;have hv:=BE (it.out.setHea k2 g2 (it.out.wf.hR' ho));have ar:=BE (no.out.trans g2.cor_h);go_wp2;go_ret;exact⟨rfl,hv.out,ar⟩
 ·rw[AI hc];replace q:∀w,(binOp .neq 46 (errV (eraseR K.s (b:Nat)).2) .nilIface).run prog w=.ok (.bool true) w:=fun w=>by rw[q _ w,AN hc];rfl
  generalize (eraseR K.s (b:Nat)).1=s1 at *
  generalize (eraseR K.s (b:Nat)).2=c at *
  have HS:=BE La;have hf:=Iv;go_enter func138,ntmps138;go_wp2_with fail;refine he.mono ?_;rintro e w1 ⟨rfl,k1,g1⟩;have it:=BE (HK.out.setChip k1 g1 (HK.out.wf.chip' HS));have no:=BE g1.cor_g;go_wp2_with (go_at_call 186;refine(hf _ c).mono ?_;rintro e w2 ⟨rfl,rfl⟩);go_ret;exact⟨rfl,it.out,no⟩
end
section
variable {A:Ad}{w:Wd}{K:BH}
theorem CoreAt.far{w0:Wd}(h:CoreAt A w K)(h0:∀x,Cor A x\/x=A.p\/x=A.q->x<w0.heap.size){w':Wd}{g:Nat}(hg:w0.heap.size<=g)(hc:Chg (·=g) w w'):CoreAt A w' K:=by
 obtain⟨f1,f2,f3,f4,f5,f6,f7⟩:=h.frame hc;have n:∀x,Cor A x\/x=A.p\/x=A.q->¬ x=g:=fun x hx e=>by have:=h0 x hx;omega
 exact⟨f1 (n _ (AK (AK rfl))),f2 (n _ (AK (AL (AK rfl)))) (n _ (AL (AK rfl))) (n _ (AL (AL rfl))) (n _ (AK (AL (AL (AL (AK rfl)))))),f3 (n _ (AK (AL (AL (AK rfl))))),f4 (n _ (AK (AL (AL (AL (AL (AK rfl))))))),f5 (n _ (AK (AL (AL (AL (AL (AL (AK rfl)))))))),f6 (n _ (AK (AL (AL (AL (AL (AL (AL (AK rfl))))))))),f7 (n _ (AK (AL (AL (AL (AL (AL (AL (AL rfl))))))))),h.wf⟩
theorem CoreAt.low(h:CoreAt A w K):∀x,Cor A x\/x=A.p\/x=A.q->x<w.heap.size:=by
 obtain⟨l1,l2,l3,l4,l5,l6,l7,l8⟩:=h.lts;obtain⟨lm,lp,lq,lb⟩:=h.med.lts;unfold Cor;intro x hx;omega
theorem NF(z:Int) : -9223372036854775808<=wrap64 z/\wrap64 z<9223372036854775808:=⟨GH z,GI z⟩
theorem iW{s:BM}{r a:Int}{s':BM}{r':Int}{g:Pg}{c:Nat}(h:ReadR s r a s' r' g c)(hr : -9223372036854775808<=r/\r<9223372036854775808) : -9223372036854775808<=r'/\r'<9223372036854775808:=by
 rcases h.2.2 with ⟨_,rfl,_⟩ | ⟨_,rfl,_⟩
 ·exact hr
 ·exact NF _
theorem Xh(A:Ad)(w:Wd)(K:BH)(h:CoreAt A w K)(p:Nat)(hp:p<96):Calls prog 97 #[.pointer (some ⟨A.c,0,none⟩),.int .i64 (p:Nat)] w fun e w'=>∃v,e=.returned (.tuple #[Zo (rdK K p).2.1 v,errV (rdK K p).2.2])/\DR w' w.heap.size 5 v (rdK K p).2.1.data/\CoreAt A w' (rdK K p).1/\Chg (Cor A) w w':=by
 have oi:=KW;have HP:=BE (Pb.new w false 0 0 0 0 false false (.slice none 0 0) 0);have G0:Chg No w (w.alloc (.cells #[.bool false,.int .i64 0,.int .i64 0,.int .i64 0,.int .i64 0,.bool false,.bool false,.slice none 0 0,.int .i64 0] 132)):=(Chg.refl _ w).alloc _;have C0:=h.chg0 G0;obtain⟨c0,-⟩:=C0.cMed;have La:=Lv A.m A.g A.p A.q A.b K.r K.s C0.wf.chip _ C0.med C0.chip (p:Nat);have f2:(w.alloc (.cells #[.bool false,.int .i64 0,.int .i64 0,.int .i64 0,.int .i64 0,.bool false,.bool false,.slice none 0 0,.int .i64 0] 132)).heap.size=w.heap.size+1:=by simp
 rw[f2] at La;have it:=BE h.low;have HK:=BE C0;have HG:=BE G0;have q:=CA;have g:=BQ;have x2:0<=((p:Nat):Int)/\((p:Nat):Int)<96:=om
 have hi:=fun w=>IG w (p:Nat) x2;go_enter func97,ntmps97;go_wp2_with fail;refine La.mono ?_;rintro x w1 ⟨s',r',X,c,v,rfl,hR,hO,M1,C1,G1⟩;have K1:=HK.out.setMed M1 C1 G1 (HK.out.wf.med' (hR.ok HK.out.wf.chip) (iW hR HK.out.wf.rr));have o1:=HG.out.size;have n0:¬ (w.heap.size=A.m\/w.heap.size=A.g\/w.heap.size=A.b):=by
  rintro (e | e | e)
  ·have:=it.out A.m (AK (AL (AK rfl)));omega
  ·have:=it.out A.g (AK (AL (AL (AK rfl))));omega
  ·have:=it.out A.b (AK (AL (AL (AL (AK rfl)))));omega
 have hg:=BE (HP.out.chg G1 n0);have p2:=BE ((Chg.cor0 (A:=A) HG).trans G1.cor_med);have HE:=BE (hR.eq HK.out.wf.tl);have HR:=BE hR;rw[KX];have h0:=BE K1;have hv:=BE hO;have B':=BE (Pb.new w1 false 0 0 0 0 false false (.slice none 0 0) 0);have no:Hid (Chg No w1 (w1.alloc (.cells #[.bool false,.int .i64 0,.int .i64 0,.int .i64 0,.int .i64 0,.bool false,.bool false,.slice none 0 0,.int .i64 0] 132))):=(Chg.refl _ w1).alloc _;have t7:=hg.out.lt;unfold Zo;by_cases hc:c=0
 ·subst hc;replace q:∀w,(binOp .neq 46 (errV 0) .nilIface).run prog w=.ok (.bool false) w:=fun w=>q 0 w;go_wp2_with (first | refine wpList_store_pg rfl (.tmp 6) (.tmp 15) rfl w1.heap.size rfl rfl hv.out.one B' ?_);intro w2 P2 G2;have qa:=no.out.size;have K2:=(h0.out.chg0 no).far it om G2;have f8:=BE P2;have ha:=BE ((hg.out.chg no (fun f=>f)).chg G2 om);have h1:=BE ((hv.out.chg no (fun _ _ _ f=>f)).chg G2 (fun k hk he e=>by have:=hv.out.block he;omega));have kd:=BE ((p2.out.trans no.out.cor0).trans' G2 (fun k hk e=>om));have hx:=ND A w2 _ K2 (p / 8) om 1 om;have ar:=hi w2;rw[show ((p:Nat):Int) / 8=((p / 8:Nat):Int) by omega] at ar;have o2:=P2.lt;go_wp2_with fail;refine ar.mono ?_;rintro e w3 ⟨rfl,rfl⟩;go_wp2_with fail;refine hx.mono ?_;rintro e w4 ⟨rfl,K4,G4⟩;have n0:¬ Cor A w.heap.size:=fun e=>by have:=it.out _ (AK e);omega
  have n1:¬ Cor A w1.heap.size:=fun e=>by have:=it.out _ (AK e);omega
  have f9:=BE (f8.out.chg G4 n1);have f4:=BE (ha.out.chg G4 n0);have h6:=BE (h1.out.chg G4 (fun k hk he e=>by have:=(h1.out.block he).1;have:=it.out _ (AK e);omega));have f5:=BE K4;have f3:=BE (kd.out.trans G4);go_wp2_with (first | refine wpList_load_pg rfl (.tmp 6) rfl w1.heap.size rfl f9 ?_ | refine wpList_store_pg rfl (.tmp 4) (.tmp 25) rfl w.heap.size rfl rfl h6.out.one f4 ?_);intro w5 P5 G5;have f6:=BE P5;have oa:=BE (f5.out.far it (AM _) G5);have wr:=BE (h6.out.chg G5 (fun k hk he e=>by have:=(h6.out.block he).1;omega));have x0:=BE (f3.out.trans' G5 (fun k hk e=>om));go_wp2;refine AZ (CO rfl _ rfl f6) rfl ?_;have e1:rdK K p=({ K with s:=s',r:=r',hR:=Di K.hR (p / 8:Nat) 1 },X,0):=by
   unfold rdK;rw[HE.out];rfl
  rw[e1];exact⟨v,rfl,wr.out.mono (fun k hk=>by have:=(wr.out.block hk).1;omega),oa.out,x0⟩
 ·replace q:∀w,(binOp .neq 46 (errV c) .nilIface).run prog w=.ok (.bool true) w:=fun w=>by rw[q c w,AN hc];rfl
  have HC:=BE hc;go_wp2_with (first | refine wpList_store_pg rfl (.tmp 6) (.tmp 15) rfl w1.heap.size rfl rfl hv.out.one B' ?_);intro w2 P2 G2;have qa:=no.out.size;have f1:=BE ((h0.out.chg0 no).far it om G2);have ha:=BE ((hg.out.chg no (fun f=>f)).chg G2 om);have kd:=BE ((p2.out.trans no.out.cor0).trans' G2 (fun k hk e=>om));go_wp2_with (first | refine wpList_store_pg rfl (.tmp 4) (.tmp 19) rfl w.heap.size rfl rfl rfl ha ?_);intro w3 P3 G3;have f7:=BE P3;have o0:=BE (f1.out.far it (AM _) G3);have x1:=BE (kd.out.trans' G3 (fun k hk e=>om));go_wp2;refine AZ (CO rfl _ rfl f7) rfl ?_;have e1:rdK K p=({ K with s:=s' },Pg.zero,c):=by
   unfold rdK;rw[HE.out];simp only;rw[AI HC.out]
  have e2:r'=K.r:=by
   rcases HR.out.2.2 with ⟨_,e,_⟩ | ⟨e,_⟩
   ·exact e
   ·exact absurd e HC
  have h2:=o0.out;rw[e2] at h2;rw[e1];exact⟨.slice none 0 0,rfl,CU _ _,h2,x1⟩
end
section
variable {r r':Int}
theorem iX{s:BM}(hs:s.Ok){t:CP}{D:List Nat}{s':BM}{e:Nat}(h:ProgR s r t.p t.p t.o t.q t.c t.l D s' r' e)(hD:D.length=174)(bD:Bys D):s'.Ok:=by
 have hW:=Mh hs t.p (W:=wordOf D (body t.p t.o t.q t.c t.l)) 4 (fun k hk=>(EK hD bD (BS _ _ _ _ _) (Ce _ _ _ _ _) k hk).2.1);rcases h with ⟨_,rfl,_⟩ | ⟨_,g,x,hR,_⟩
 ·exact hW
 ·exact hR.ok hW
theorem L7(hr : -9223372036854775808<=r/\r<9223372036854775808){n:Nat}(h:(n=0/\r'=r)\/(n=1/\r'=wrap64 (r+1))):wrap64 (r' - r)=(n:Int)/\r'=wrap64 (r+n)/\(-9223372036854775808<=r'/\r'<9223372036854775808):=by
 rcases h with ⟨rfl,rfl⟩ | ⟨rfl,rfl⟩
 ·unfold wrap64;omega
 ·unfold wrap64;omega
theorem Xi(A:Ad)(w:Wd)(K:BH)(h:CoreAt A w K)(t:CP)(hm:DY t.p t.o t.q t.c t.l)(c o cap:Nat)(D:List Nat)(hD:D.length=174)(bD:Bys D)(hA:At w c o D)(hcn:¬ Cor A c) :Calls prog 152 #[.pointer (some ⟨A.c,0,none⟩),.agg #[.int .i64 (t.p:Nat),.int .i64 (t.o:Nat),.int .i64 (t.q:Nat),.int .i64 (t.c:Nat),.bool t.l],.slice (some ⟨c,o,none⟩) 174 cap] w fun e w'=>e=.returned (errV (prK K t D).2)/\CoreAt A w' (prK K t D).1/\Chg (Cor A) w w':=by
 have T0:=Tg.new w t.p t.o t.q t.c t.l;have G0:Chg No w (w.alloc (.cells #[.int .i64 (t.p:Nat),.int .i64 (t.o:Nat),.int .i64 (t.q:Nat),.int .i64 (t.c:Nat),.bool t.l] 130)):=(Chg.refl _ w).alloc _;have C0:=h.chg0 G0;have A0:=hA.chg G0 (fun f=>f);have ar:=h.low;have h6:=hm.place;have La:=BE ar;obtain⟨c0,-⟩:=C0.cMed;obtain⟨u0,u1,u2,u3,u4⟩:=T0.cells;have hx:=E6 A.m A.g A.p A.q A.b K.r _ C0.med;have B':=BE T0;have f1:=BE G0;have it:=BE C0;have h1:=BE A0;have hv:=BE hcn;have HM:=BE hm;have HD:=BE hD;have hc:=BE h6;clear h C0 G0 T0 A0 hA hcn hm hD ar h6;go_enter func152,ntmps152;go_wp2_with fail;refine hx.mono ?_;rintro e w1 ⟨rfl,rfl⟩;clear hx;generalize (w.alloc (.cells #[.int .i64 (t.p:Nat),.int .i64 (t.o:Nat),.int .i64 (t.q:Nat),.int .i64 (t.c:Nat),.bool t.l] 130))=w0 at *
 go_wp2_with fail
 go_region_held3 (fun wx=>wx.cell? ⟨A.c,0,none⟩=some (.pointer (some ⟨A.m,0,none⟩))/\wx.cell? ⟨w.heap.size,0,none⟩=some (.int .i64 (t.p:Nat))/\wx.cell? ⟨w.heap.size,1,none⟩=some (.int .i64 (t.o:Nat))/\wx.cell? ⟨w.heap.size,2,none⟩=some (.int .i64 (t.q:Nat))/\wx.cell? ⟨w.heap.size,3,none⟩=some (.int .i64 (t.c:Nat))/\wx.cell? ⟨w.heap.size,4,none⟩=some (.bool t.l))
  (first | exact⟨c0,u0,u1,u2,u3,u4⟩ | exact⟨z0,y0,y1,y2,y3,y4⟩)
  (first | (go_at_call 198;refine(Mk A.m A.g A.p A.q A.b K.r K.s it.out.wf.chip _ (it.out.drewN 1).med (it.out.drewN 1).chip t.p t.o t.q t.c t.l HM c o cap D HD bD (fun e=>hv.out (AL (AL (AL (AK e))))) (fun e=>hv.out (AL (AL (AK e)))) (fun e=>hv.out (AL (AK e))) (h1.out.chg (Chg.refl No w0).drew (fun f=>f))).mono ?_;rintro e w2 ⟨⟨s',r',x,hP,rfl,M2,C2⟩,G2⟩;obtain⟨n,hE,hn⟩:=hP.eq it.out.wf.tl;have K2:=(it.out.drewN 1).setMed M2 C2 G2 ((it.out.drewN 1).wf.med' (iX it.out.wf.chip hP HD bD) (L7 it.out.wf.rr hn).2.2);have n0:¬ (w.heap.size=A.m\/w.heap.size=A.g\/w.heap.size=A.b):=(fun e=>by have:=La.out w.heap.size (AK (e.elim (fun e=>AL (AK e)) fun e=>e.elim (fun e=>AL (AL (AK e))) fun e=>AL (AL (AL (AK e)))));omega);have T2:=(B'.out.chg (Chg.refl No w0).drew (fun f=>f)).chg G2 n0;obtain⟨y0,y1,y2,y3,y4⟩:=T2.cells;obtain⟨z0,-⟩:=K2.cMed;have hk:=BE K2;have p2:=BE ((Chg.cor0 (A:=A) f1).drew.trans G2.cor_med);have G1:=BE T2;have HE:=BE hE;have HN:=BE hn;clear hP M2 C2 G2 K2 T2 n0 hE hn))
 all_goals
  obtain⟨no,ha,-⟩:=L7 it.out.wf.rr HN;have kd:=fun w=>IG w (t.p:Nat) (by have:=hc.out;omega);rw[show ((t.p:Nat):Int) / 8=((t.p / 8:Nat):Int) by omega] at kd;have hg:=BE ha;have h2:(n:Int)<=65536:=by rcases HN with ⟨e,_⟩ | ⟨e,_⟩ <;> omega
  have hi:IntKind.i64.wrap (r' - K.r)=(n:Int):=by rw[IntKind.wrap_i64];unfold wrap64 at no;exact no
  clear ha c0 u0 u1 u2 u3 u4 y1 y2 y3 y4;go_wp2_with fail
  go_region_held3 (fun wx=>wx.cell? ⟨A.c,0,none⟩=some (.pointer (some ⟨A.m,0,none⟩))/\wx.cell? ⟨w.heap.size,0,none⟩=some (.int .i64 (t.p:Nat)))
   (first | exact⟨z0,y0⟩ | exact⟨z4,y4⟩)
   (first
    | (go_at_call 99;refine(kd _).mono ?_;rintro e w3 ⟨rfl,rfl⟩)
    | (go_at_call 197;refine(E6 A.m A.g A.p A.q A.b r' _ (hk.out.drewN 1).med).mono ?_;rintro e w3 ⟨rfl,rfl⟩)
    | (go_at_call 63;refine(ND A _ _ (hk.out.drewN 1) (t.p / 8) (by have:=hc.out;omega) (n:Int) h2).mono ?_;rintro e w4 ⟨rfl,K4,G4⟩;have T4:=(G1.out.chg (Chg.refl No w2).drew (fun f=>f)).chg G4 (fun e=>by have:=La.out _ (AK e);omega);have y4:=T4.cells.1;obtain⟨z4,-⟩:=K4.cMed;have wr:=BE K4;have h0:=BE (p2.out.drew.trans G4);clear K4 G4 T4))
  all_goals
   have hf:=Iv w4 x;rw[KX];clear no kd z0 y0 hi;go_wp2_with (go_at_call 186;refine hf.mono ?_;rintro e w5 ⟨rfl,rfl⟩);go_ret;have e1:prK K t D=({ K with s:=s',r:=r',hR:=Di K.hR (t.p / 8:Nat) (n:Nat) },IF x):=by
    unfold prK;rw[HE.out,hg.out]
   rw[e1];exact⟨rfl,wr.out,h0⟩
end
section
variable {w:Wd}{a:Act}{o:Oper}{ops:Array Oper}{K:Act->World->Prop}{Q:Exit->Act->World->Prop}{E:Prop}
theorem cX(w:Wd)(F:Nat->Int)(n c:Int):(Instr.build 55 #[(0,.agg (ints F 24).toArray),(1,.int .i64 n),(3,.int .i64 c)]).run prog w=.ok (.agg (AA.ckA ⟨F,n,fun _=>false,c,fun _=>0,fun _=>0⟩)) w:=kr
theorem IJ{x y z:Operand}{F:Nat->Int}{n c:Int}(ho:o.op=.build 55 #[(0,x),(1,y),(3,z)])(hx:a.eval x=.agg (ints F 24).toArray)(hy:a.eval y=.int .i64 n)(hz:a.eval z=.int .i64 c):(execOp a.eval o).run prog w=.ok (.value (.agg (AA.ckA ⟨F,n,fun _=>false,c,fun _=>0,fun _=>0⟩))) w:=by
 have hb:=cX w F n c;unfold execOp;rw[ho];simp only[map_toArray,map_cons,map_nil,hx,hy,hz];generalize Instr.build 55 #[(0,.agg (ints F 24).toArray),(1,.int .i64 n),(3,.int .i64 c)]=b at *
 simp[hb]
theorem GY(hgd:o.guard=none)(ho:o.op=.alloc 55)(h:K (a.put o.dst (.pointer (some ⟨w.heap.size,0,none⟩))) (w.alloc (.cells (AA.ckA AA.ck0) 55))):if Region.wanted o (yielded ops a.tmps)=true then Oper.wp prog o a w K Q else E:=by
 rw[AJ (by simp[Region.wanted,hgd])];have hz:=AA.Wo;unfold Oper.wp;simp[execOp,ho,Instr.alloc,hz,newVar,Value.cells,newRow];exact h
theorem GZ(hgd:o.guard=none)(x y:Operand)(ho:o.op=.store 55 x y)(g:Nat)(hx:a.eval x=.pointer (some ⟨g,0,none⟩))(c:AA.Bn)(hy:a.eval y=.agg (AA.ckA c)){c0:AA.Bn}(hg:AA.Ck w g c0)(h:∀w',AA.Ck w' g c->Chg (·=g) w w'->K (a.put o.dst undef) w'):if Region.wanted o (yielded ops a.tmps)=true then Oper.wp prog o a w K Q else E:=by
 rw[AJ (by simp[Region.wanted,hgd])];exact wp_store_row 55 x y ho g _ hx hy 55 _ hg (by rw[AA.DC];exact AA.E7) (by rw[AA.DC,AA.DC]) (AA.R7 c) (h _ (setRow_heap w g _ _ 55 _ hg) (Dx _ _ _))
theorem CoreAt.partFl{A:Ad}{K:BH}(h:CoreAt A w K):w.rangeAt A.c 53 (ints K.fl 24):=fun j v hv=>by
 have hj:j<24:=by have:=(List.getElem?_eq_some_iff.1 hv).1;rwa [BF] at this
 rw[BU _ _ _ hj] at hv
 rw[(h.cFl j hj).1,<-hv];rfl
theorem Xj(a b m m':List Value)(h:m.length=m'.length):(a ++ (m ++ b)).take a.length ++ m' ++ (a ++ (m ++ b)).drop (a.length+m'.length)=a ++ (m' ++ b):=by
 rw[take_left' rfl,<-h,drop_append,Ax om,A7,show a.length+m.length - a.length=m.length by omega,drop_left' rfl,Aq]
theorem Xk(c:AA.Bn)(R:Nat->Int):(AA.ckL c).take 38 ++ ints R 12 ++ (AA.ckL c).drop (38+(ints R 12).length)=AA.ckL { c with R:=R }:=by
 have e:∀X:Nat->Int,AA.ckL { c with R:=X }=(ints c.F 24 ++ ([i6 c.N] ++ (bools c.B 12 ++ [i6 c.C]))) ++ (ints X 12 ++ ints c.S 12):=fun X=>by simp[AA.ckL]
 have h:=Xj (ints c.F 24 ++ ([i6 c.N] ++ (bools c.B 12 ++ [i6 c.C]))) (ints c.S 12) (ints c.R 12) (ints R 12) (by simp[BF]);have l:(ints c.F 24 ++ ([i6 c.N] ++ (bools c.B 12 ++ [i6 c.C]))).length=38:=by simp[BF,BP]
 rw[l,<-e,<-e] at h;exact h
theorem Xl(c:AA.Bn)(R:Nat->Int):(AA.ckL c).take 50 ++ ints R 12 ++ (AA.ckL c).drop (50+(ints R 12).length)=AA.ckL { c with S:=R }:=by
 have e:∀X:Nat->Int,AA.ckL { c with S:=X }=(ints c.F 24 ++ ([i6 c.N] ++ (bools c.B 12 ++ ([i6 c.C] ++ ints c.R 12)))) ++ (ints X 12 ++ []):=fun X=>by simp[AA.ckL]
 have h:=Xj (ints c.F 24 ++ ([i6 c.N] ++ (bools c.B 12 ++ ([i6 c.C] ++ ints c.R 12)))) [] (ints c.S 12) (ints R 12) (by simp[BF]);have l:(ints c.F 24 ++ ([i6 c.N] ++ (bools c.B 12 ++ ([i6 c.C] ++ ints c.R 12)))).length=50:=by simp[BF,BP]
 rw[l,<-e,<-e] at h;exact h
theorem IK{p:Oper}(hgd:p.guard=none)(d s:Operand)(ho:p.op=.call { callee:=.builtin .copy,args:=#[d,s],argTypes:=#[43,43] })(b o g:Nat)(hd:a.eval d=.slice (some ⟨b,o,none⟩) 12 12)(hs:a.eval s=.slice (some ⟨g,0,none⟩) 12 12){c c':AA.Bn}{R:Nat->Int}(hC:AA.Ck w b c)(hR:IB w g 3 12 R)(hn:o+12<=62)(he:(AA.ckL c).take o ++ ints R 12 ++ (AA.ckL c).drop (o+(ints R 12).length)=AA.ckL c')(h:∀w',AA.Ck w' b c'->Chg (·=b) w w'->K (a.put p.dst (goInt 12)) w') :if Region.wanted p (yielded ops a.tmps)=true then Oper.wp prog p a w K Q else E:=by
 have hw:Region.wanted p (yielded ops a.tmps)=true:=by simp[Region.wanted,hgd]
 rw[AJ hw];have it:(ints R 12).length=12:=BF _ _;have no:=run_copy_row (P:=prog) w 43 43 p.type 3 b o 12 12 ⟨g,0,none⟩ 12 12 (AA.ckA c) 55 (ints R 12) underlying43 AF.Ks hC (by rw[it];rfl) (fun j v hv=>by
  have hj:j<12:=by have:=(List.getElem?_eq_some_iff.1 hv).1;rwa [it] at this
  rw[Addr.add_mid,BU _ _ _ hj] at *
  rw[<-hv,AW,(hR.cell j hj).1];rfl) (by rw[it,AA.DC];omega) (Cf _ _)
 rw[show (AA.ckA c).toList=AA.ckL c from rfl,he,it] at no;unfold Oper.wp;simp[execOp,ho,resolve,invoke,builtin,hd,hs,no,Result.andThen];exact h _ (setRow_heap w b _ _ 55 _ hC) (Dx _ _ _)
theorem Xm(g:Nat->Bool)(i:Nat):upd (fun b=>if b<i then g b else false) i (g i)=fun b=>if b<i+1 then g b else false:=by
 funext j;unfold upd;by_cases e:j=i
 ·subst e;rw[AJ rfl,AJ om]
 ·rw[AI e];show (if j<i then g j else false)=_;by_cases e2:j<i
  ·rw[AJ e2,AJ om]
  ·rw[AI e2,AI om]
theorem mt(A:Ad)(w:Wd)(K:BH)(h:CoreAt A w K)(q:Int):Calls prog 103 #[.pointer (some ⟨A.c,0,none⟩),.int .i64 q] w fun e w'=>e=.returned (.agg (AA.ckA (ckK K q)))/\CoreAt A w' K/\Chg No w w':=by
 have hu:=underlying52;have oa:=AA.Wm;have HK:=BE h;have hx:=BE h.low;clear h;go_enter func103,ntmps103;go_wp2_with (refine AA.Du rfl rfl ?_);have no:=BE (HK.out.chg0 ((Chg.refl No w).alloc (.cells (AA.ckA AA.ck0) 55)));have hv:=BE (AA.Ck.new w AA.ck0);have hc:Hid (Chg No w (w.alloc (.cells (AA.ckA AA.ck0) 55))):=(Chg.refl _ w).alloc _;have it:Hid (∀x,Cor A x\/x=A.p\/x=A.q->x<w.heap.size):=hx.out;generalize w.alloc (.cells (AA.ckA AA.ck0) 55)=w0 at *
 have ar:Hid (∀u,CoreAt A u K->(u.cell? ⟨A.c,82,none⟩=some (.pointer (some ⟨A.pa,0,none⟩))/\u.rangeAt A.c 53 (ints K.fl 24))):=fun u hu=>⟨hu.cPat.1,hu.partFl⟩;refine wp_region_noPanic ?_;refine wp_region_held_drew (S:=fun wx=>wx.cell? ⟨A.c,82,none⟩=some (.pointer (some ⟨A.pa,0,none⟩))/\wx.rangeAt A.c 53 (ints K.fl 24)) kr (ar.out _ (no.out.drewN 1)) (fun hHeld=>?_);refine Ab (i:=0) rfl kr kr kr (fun _ _ _ h=>h) (AK ⟨rfl,fun _ _=>rfl⟩) hHeld ?_;simp only[Act.put,getElem_toArray,getElem_cons_zero,setIfInBounds_toArray,set_cons_zero,set_cons_succ];refine Ab (i:=1) rfl kr kr kr (fun _ _ _ h=>h) (AK ⟨rfl,fun _ _=>rfl⟩) hHeld ?_;simp only[Act.put,bu];refine Ab (i:=2) rfl kr kr kr (fun _ _ _ h=>h) (AK ⟨rfl,fun _ _=>rfl⟩) hHeld ?_;simp only[Act.put,bu];refine Ab (i:=3) rfl kr kr kr (fun _ _ _ h=>h) (yieldsIf_load_mid rfl 52 _ rfl A.c 53 rfl (ints K.fl 24) _ (fun w hw=>hw.2) hu rfl (by rw[oa];rw[BF])) hHeld ?_;simp only[Act.put,bu];refine Ab (i:=4) rfl kr kr kr (fun _ _ _ h=>h) (AK ⟨rfl,fun _ _=>rfl⟩) hHeld ?_;simp only[Act.put,bu];refine Ab (i:=5) rfl kr kr kr (fun _ _ _ h=>h) (AK ⟨rfl,fun _ _=>rfl⟩) hHeld ?_;simp only[Act.put,bu];refine Ab (i:=6) rfl kr kr kr (fun _ _ _ h=>h) (AK ⟨rfl,fun _ _=>rfl⟩) hHeld ?_;simp only[Act.put,bu];refine Ab (i:=7) rfl kr kr kr (fun _ _ _ h=>h) (AK ⟨rfl,fun _ _=>rfl⟩) hHeld ?_;simp only[Act.put,bu];refine Ab (i:=8) (v:=.pointer (some ⟨A.pa,0,none⟩)) rfl kr kr kr (fun _ _ _ h=>h) (AK ⟨rfl,fun w hw=>by obtain⟨s1,-⟩:=hw;go_simp⟩) hHeld ?_;simp only[Act.put,bu];refine wpAnyH_ready (rs:=[9,11]) kr (by simp) ?_;refine AllReadyH.cons rfl (fun K' hK=>?_) (AllReadyH.cons rfl (fun K' hK=>?_) AllReadyH.nil)
 case' refine_1=>
  go_simp;refine(AF.FD _ A.pa K.cu K.ca (no.out.drewN 1).pat).mono ?_;rintro e w1 ⟨rfl,rfl⟩;refine hK _ _ (ar.out _ (no.out.drewN 1)) (fun hHeld=>?_);clear hK K';refine Ab (i:=10) rfl kr kr kr (fun _ _ _ h=>h) (AK ⟨rfl,fun _ _=>IJ rfl rfl rfl rfl⟩) hHeld ?_;simp only[Act.put,bu];refine wpAnyH_ready (rs:=[11]) kr (by simp) ?_;refine AllReadyH.cons rfl (fun K' hK=>?_) AllReadyH.nil;refine GY rfl rfl ?_;refine hK _ _ (ar.out _ ((no.out.drewN 1).chg0 ((Chg.refl No w0.drew).alloc _))) (fun hHeld=>?_);clear hK K';simp only[Act.put,bu];refine wpAnyH_ready (rs:=[12]) kr (by simp) ?_;refine AllReadyH.cons rfl (fun K' hK=>?_) AllReadyH.nil;refine GZ rfl (.tmp 5) (.tmp 18) rfl w0.heap.size rfl ⟨K.fl,q,fun _=>false,K.cu,fun _=>0,fun _=>0⟩ rfl (AA.Ck.new w0.drew AA.ck0) ?_;intro w2 C2 G2;have K2:=((no.out.drewN 1).chg0 ((Chg.refl No w0.drew).alloc (.cells (AA.ckA AA.ck0) 55))).far it (Nat.le_of_lt hv.out.lt) G2;refine hK _ _ (ar.out _ K2) (fun hHeld=>?_);clear hK K' hHeld;simp only[Act.put,getElem_toArray,getElem_cons_zero,getElem_cons_succ];refine wpAnyH_done kr ?_ _;refine NoPanic.normal ?_;have h2:=BE ((hv.out.chg ((Chg.refl No w0).drew.alloc (.cells (AA.ckA AA.ck0) 55)) (fun f=>f)).chg G2 (by have:=hv.out.lt;omega));have f1:=BE ((hc.out.trans ((Chg.refl No w0).drew.alloc (.cells (AA.ckA AA.ck0) 55))).trans' G2 (fun k hk e=>by have:=hc.out.size;omega));have h6:=BE C2;have ha:=BE K2;clear C2 G2 K2
 case' refine_2=>
  refine GY rfl rfl ?_;refine hK _ _ (ar.out _ ((no.out.drewN 1).chg0 ((Chg.refl No w0.drew).alloc _))) (fun hHeld=>?_);clear hK K';simp only[Act.put,bu];refine wpAnyH_ready (rs:=[9]) kr (by simp) ?_;refine AllReadyH.cons rfl (fun K' hK=>?_) AllReadyH.nil;go_simp;refine(AF.FD _ A.pa K.cu K.ca ((no.out.drewN 1).chg0 ((Chg.refl No w0.drew).alloc (.cells (AA.ckA AA.ck0) 55))).pat).mono ?_;rintro e w1 ⟨rfl,rfl⟩;refine hK _ _ (ar.out _ ((no.out.drewN 1).chg0 ((Chg.refl No w0.drew).alloc _))) (fun hHeld=>?_);clear hK K';refine Ab (i:=10) rfl kr kr kr (fun _ _ _ h=>h) (AK ⟨rfl,fun _ _=>IJ rfl rfl rfl rfl⟩) hHeld ?_;simp only[Act.put,bu];refine wpAnyH_ready (rs:=[12]) kr (by simp) ?_;refine AllReadyH.cons rfl (fun K' hK=>?_) AllReadyH.nil;refine GZ rfl (.tmp 5) (.tmp 18) rfl w0.heap.size rfl ⟨K.fl,q,fun _=>false,K.cu,fun _=>0,fun _=>0⟩ rfl (AA.Ck.new w0.drew AA.ck0) ?_;intro w2 C2 G2;have K2:=((no.out.drewN 1).chg0 ((Chg.refl No w0.drew).alloc (.cells (AA.ckA AA.ck0) 55))).far it (Nat.le_of_lt hv.out.lt) G2;refine hK _ _ (ar.out _ K2) (fun hHeld=>?_);clear hK K' hHeld;simp only[Act.put,getElem_toArray,getElem_cons_zero,getElem_cons_succ];refine wpAnyH_done kr ?_ _;refine NoPanic.normal ?_;have h2:=BE ((hv.out.chg ((Chg.refl No w0).drew.alloc (.cells (AA.ckA AA.ck0) 55)) (fun f=>f)).chg G2 (by have:=hv.out.lt;omega));have f1:=BE ((hc.out.trans ((Chg.refl No w0).drew.alloc (.cells (AA.ckA AA.ck0) 55))).trans' G2 (fun k hk e=>by have:=hc.out.size;omega));have h6:=BE C2;have ha:=BE K2;clear C2 G2 K2
 all_goals
  have h1:=hv.out.lt;have o0:=h6.out.lt;obtain⟨N,HN⟩:∃N,Hid (N=w0.heap.size):=⟨_,rfl⟩;rw[<-HN.out] at h6 o0 h1
  try rw[show (w0.drewN 1).heap.size=N from HN.out.symm]
  try rw[show w0.drew.heap.size=N from HN.out.symm]
  try rw[show w0.heap.size=N from HN.out.symm]
  have w4:=AD.EC w2 A.po K.F ha.out.pool;obtain⟨c1,-⟩:=ha.out.cPool;clear no HK hc hv ar hu oa;go_wp2_with fail;refine w4.mono ?_;rintro e w3 ⟨rfl,I3,G3⟩;have r2:=BE (ha.out.chg0 G3);have r0:=BE (h6.out.chg G3 (fun f=>f));have xs:=BE (h2.out.chg G3 (fun f=>f));have hn:=BE (f1.out.trans G3);have t7:=BE I3;have w5:Hid (N<w2.heap.size):=o0;obtain⟨M,HM⟩:∃M,Hid (M=w2.heap.size):=⟨_,rfl⟩;rw[<-HM.out] at t7 ⊢;clear w4 c1 I3 G3 ha h6 h2 f1;go_wp2_with fail
  go_loopg [25] 12 (fun kx s25 wr=>∃i:Nat,s25=.int .i64 i/\i<=12/\12 - i<=kx/\Hid (AA.Ck wr N ⟨K.fl,q,fun b=>if b<i then decide (K.F b=3) else false,K.cu,fun _=>0,fun _=>0⟩)/\Hid (CoreAt A wr K)/\Hid (AA.Ck wr w.heap.size AA.ck0)/\Hid (IB wr M 3 12 K.F)/\Hid (Chg No w wr))
  case atStart=>exact⟨0,rfl,om,om,r0.out,r2.out,xs.out,t7.out,hn⟩
  case round=>
   obtain⟨i,rfl,hs,hh,HC,kd,HR,HI,HG⟩:=hrel;by_cases p2:i<12
   ·have f4:(i:Int)<12:=om;obtain⟨ci,-⟩:=HI.out.cell i p2;have cb:=HC.out.B i p2;have fb:=HC.out.frozen (25+i);have l2:¬ M=N:=(by have:=HM.out;have:=w5.out;omega);have La:¬ w.heap.size=N:=om;have GN:Chg (·=N) wr (wr.setCell ⟨N,25+i,none⟩ (.bool (decide (K.F i=3)))):=(Chg.refl (·=N) wr).setCell (AK rfl) _ _;have h4:Hid (AA.Ck (wr.setCell ⟨N,25+i,none⟩ (.bool (decide (K.F i=3)))) N ⟨K.fl,q,fun b=>if b<i+1 then decide (K.F b=3) else false,K.cu,fun _=>0,fun _=>0⟩):=by
     have:=HC.out.setB i p2 (decide (K.F i=3));have e:=Xm (fun b=>decide (K.F b=3)) i;rw[show ({ (⟨K.fl,q,fun b=>if b<i then decide (K.F b=3) else false,K.cu,fun _=>0,fun _=>0⟩:AA.Bn) with B:=upd (fun b=>if b<i then decide (K.F b=3) else false) i (decide (K.F i=3)) }:AA.Bn)=⟨K.fl,q,fun b=>if b<i+1 then decide (K.F b=3) else false,K.cu,fun _=>0,fun _=>0⟩ by rw[e]] at this;exact this
    have ho:=BE (kd.out.far it (Nat.le_of_lt h1) GN);have be:=BE (HR.out.chg GN La);have r1:=BE (HI.out.chg GN l2);have C5:=BE (HG.out.trans' GN (fun k hk e=>om));have oi:Hid ((K.F i == 3)=decide (K.F i=3)):=by show (K.F i == 3)=decide (K.F i=3);by_cases e:K.F i=3 <;> simp[e]
    generalize decide (K.F i=3)=bb at *
    generalize K.F i=fi at *
    have hb:(fi == 3)=bb:=oi.out;clear HC kd HR HI HG GN oi;go_wp2
    go_roundg (12 - (i+1))
    case measure=>omega
    case rel=>exact⟨i+1,by simp,om,AM _,h4.out,ho.out,be.out,r1.out,C5⟩
   ·have f4:¬ (i:Int)<12:=om;have h3:i=12:=om;subst h3;have v':Hid (AA.Ck wr N ⟨K.fl,q,fun b=>decide (K.F b=3),K.cu,fun _=>0,fun _=>0⟩):=by
     have:=HC.out;refine Eq.trans (show wr.heap[N]?=_ from this) ?_;rw[show AA.ckA ⟨K.fl,q,fun b=>if b<12 then decide (K.F b=3) else false,K.cu,fun _=>0,fun _=>0⟩=AA.ckA ⟨K.fl,q,fun b=>decide (K.F b=3),K.cu,fun _=>0,fun _=>0⟩ from AA.El (fun _ _=>rfl) rfl (fun j hj=>AJ hj) rfl (fun _ _=>rfl) (fun _ _=>rfl)]
    clear HC HI;have ih:=AF.D5 N 38;obtain⟨hg,-⟩:=kd.out.cHea;have La:¬ w.heap.size=N:=om;go_wp2_with fail
    go_region_held3 (fun wx=>wx.cell? ⟨A.c,96,none⟩=some (.pointer (some ⟨A.h,0,none⟩)))
     (first | exact hg | exact f3 | exact G1)
     (first
      | (refine IK rfl (.tmp 37) (.tmp 42) rfl N 38 (wr.heap.size+1) rfl rfl C3 x0 om (Xk _ _) ?_;intro w7 C7 G7;have ht:=BE C7;have K7:=hi.out.far it (Nat.le_of_lt h1) G7;obtain⟨G1,-⟩:=K7.cHea;have h0:=BE K7;have e1:=BE (C4.out.chg G7 La);have oo:=BE (x2.out.trans' G7 (fun k hk e=>om));clear C7 G7 K7 C3 x0 hi C4 x2)
      | (go_at_call 48;refine(AG.SR _ A.h K.hR K.hN K.hS (kd.out.drewN 1).hea kd.out.wf.hea).mono ?_;rintro e w6 ⟨rfl,I6,G6⟩;have K6:=(kd.out.drewN 1).chg0 G6;obtain⟨f3,-⟩:=K6.cHea;have x0:=BE I6;have hi:=BE K6;have C3:=BE ((v'.out.chg (Chg.refl No wr).drew (fun f=>f)).chg G6 (fun f=>f));have C4:=BE ((HR.out.chg (Chg.refl No wr).drew (fun f=>f)).chg G6 (fun f=>f));have x2:=BE (HG.out.drew.trans G6);clear I6 G6 K6))
    all_goals
     have pg:=AF.D5 N 50;obtain⟨hg,-⟩:=h0.out.cHea;clear ih;go_wp2_with fail
     go_region_held3 (fun wx=>wx.cell? ⟨A.c,96,none⟩=some (.pointer (some ⟨A.h,0,none⟩)))
      (first | exact hg | exact f3 | exact G1)
      (first
       | (refine IK rfl (.tmp 45) (.tmp 50) rfl N 50 (w7.heap.size+1) rfl rfl K3 o2 om (Xl _ _) ?_;intro w9 C9 G9;have o1:=BE C9;have K9:=qa.out.far it (Nat.le_of_lt h1) G9;obtain⟨G1,-⟩:=K9.cHea;have f9:=BE K9;have hm:=BE (f8.out.chg G9 La);have f7:=BE (L3.out.trans' G9 (fun k hk e=>om));clear C9 G9 K9 K3 o2 qa f8 L3)
       | (go_at_call 49;refine(AG.PK _ A.h K.hR K.hN K.hS (h0.out.drewN 1).hea h0.out.wf.hea).mono ?_;rintro e w8 ⟨rfl,I8,G8⟩;have K8:=(h0.out.drewN 1).chg0 G8;obtain⟨f3,-⟩:=K8.cHea;have o2:=BE I8;have qa:=BE K8;have K3:=BE ((ht.out.chg (Chg.refl No w7).drew (fun f=>f)).chg G8 (fun f=>f));have f8:=BE ((e1.out.chg (Chg.refl No w7).drew (fun f=>f)).chg G8 (fun f=>f));have L3:=BE (oo.out.drew.trans G8);clear I8 G8 K8))
     all_goals
      clear hg pg;go_wp2_with (first | refine AA.Ba rfl (.tmp 5) rfl N rfl o1 ?_ | refine AA.Bv rfl (.tmp 4) (.tmp 52) rfl w.heap.size rfl rfl hm ?_);intro W1 x1 f2;have f5:=BE x1;have f6:=BE (f9.out.far it (AM _) f2);have B':=BE (f7.out.trans' f2 (fun k hk e=>om));clear x1 f2 o1 f9 f7;go_wp2;refine AZ (AA.Oh rfl _ rfl f5) rfl ?_;exact⟨rfl,f6.out,B'⟩
end
section
variable (w:Wd)
structure Hold (A:Ad) (w0:Wd) (f:FuncId) (cp:Array Value) (H:GS):Prop where
 ent:∀args w,(callFunc f args).run prog w=.ok (.enter f args) w
 len:∀K q,(H K q).length=174
 bys:∀K q,Bys (H K q)
 run:∀w K (q:Nat),CoreAt A w K->Chg (Cor A) w0 w->1<=q/\q<=1099511627775->Calls prog f (#[.int .i64 (q:Nat)] ++ cp) w fun e w'=>∃g,e=.returned (.slice (some ⟨g,0,none⟩) 174 174)/\w.heap.size<=g/\At w' g 0 (H K q)/\Chg No w w'
theorem Wf.nt{K:BH}(h:Wf K):Wf (Nd K):=⟨h.chip,h.rr,h.frm,h.map,h.vs,h.vp,h.vc,h.fl,h.nx,h.fr,h.cu,h.qu,AG.GR.noted h.hea,h.tl⟩
theorem IL:(zeroValue 130).run prog w=.ok (.agg #[.int .i64 0,.int .i64 0,.int .i64 0,.int .i64 0,.bool false]) w:=kr
theorem Xn(x y z:Int):(Instr.build 130 #[(0,.int .i64 x),(1,.int .i64 y),(2,.int .i64 z)]).run prog w=.ok (.agg #[.int .i64 x,.int .i64 y,.int .i64 z,.int .i64 0,.bool false]) w:=kr
theorem Uj:(Instr.build 130 #[]).run prog w=.ok (.agg #[.int .i64 0,.int .i64 0,.int .i64 0,.int .i64 0,.bool false]) w:=kr
theorem SW(A:Ad)(w0:Wd)(f:FuncId)(cp:Array Value)(H:GS)(hH:Hold A w0 f cp H)(w:Wd)(K:BH)(h:CoreAt A w K)(hw:Chg (Cor A) w0 w)(p o:Nat)(hm:DY p o K.nx 0 false) :Calls prog 93 #[.pointer (some ⟨A.c,0,none⟩),.int .i64 (p:Nat),.int .i64 (o:Nat),.func (.func f) #[] cp] w fun e w'=>e=.returned (.tuple #[.agg #[.int .i64 ((frK H K p o).2.1.p:Nat),.int .i64 ((frK H K p o).2.1.o:Nat),.int .i64 ((frK H K p o).2.1.q:Nat),.int .i64 ((frK H K p o).2.1.c:Nat),.bool (frK H K p o).2.1.l],errV (frK H K p o).2.2])/\CoreAt A w' (frK H K p o).1/\Chg (Cor A) w w':=by
 have hz:=IL;have hb:=Xn;have be:=Uj;have T0:=Tg.new w 0 0 0 0 false;have G0:Chg No w (w.alloc (.cells #[.int .i64 0,.int .i64 0,.int .i64 0,.int .i64 0,.bool false] 130)):=(Chg.refl _ w).alloc _;have C0:=h.chg0 G0;obtain⟨hg,-⟩:=C0.cSp;have no:=BE h.low;have HW:=BE hw;have HM:=BE hm;have HH:=BE hH;have wr:=BE C0;have ha:=BE T0;have h2:=BE G0;cases hsp:K.sp
 ·rw[hsp] at hg;have hi:=BE hsp;clear hsp;have f4:=lU A _ K C0;clear h hw hm hH C0 T0 G0;go_enter func93,ntmps93;go_wp2_with fail;refine f4.mono ?_;rintro e w1 ⟨rfl,k1,g1⟩;have K':=ha.out.lt;have C3:=g1.size;have n0:¬ Cor A w.heap.size:=fun e=>by have:=no.out _ (AK e);omega
  have n1:¬ Cor A w1.heap.size:=fun e=>by have:=no.out _ (AK e);omega
  have f2:=BE ((ha.out.chg g1 n0).alloc (.cells #[.int .i64 (p:Nat),.int .i64 (o:Nat),.int .i64 (K.nx:Nat),.int .i64 0,.bool false] 130));have G1:=BE (Tg.new w1 (p:Nat) (o:Nat) (K.nx:Nat) 0 false);have GA:Chg No w1 (w1.alloc (.cells #[.int .i64 (p:Nat),.int .i64 (o:Nat),.int .i64 (K.nx:Nat),.int .i64 0,.bool false] 130)):=(Chg.refl _ w1).alloc _;have p2:=BE (k1.chg0 GA);have f6:=BE (((Chg.cor0 (A:=A) h2).trans g1).trans GA.cor0);clear f4 k1 g1 GA hg ha h2 wr;go_wp2_with fail;generalize (w1.alloc (.cells #[.int .i64 (p:Nat),.int .i64 (o:Nat),.int .i64 (K.nx:Nat),.int .i64 0,.bool false] 130))=w2 at *
  obtain⟨u0,u1,u2,u3,u4⟩:=G1.out.cells;have f3:=HH.out.ent;have HN:=BE n1;have h6:=BE n0;have HQ:Hid (1<=K.nx/\K.nx<=1099511627775):=by
   obtain⟨⟨_,_,h3,_⟩,_⟩:=HM.out;show 1<=K.nx/\K.nx<=1099511627775;omega
  have SS:∀u,Tg u w1.heap.size (p:Nat) (o:Nat) (K.nx:Nat) 0 false->(u.cell? ⟨w1.heap.size,0,none⟩=some (.int .i64 (p:Nat))/\u.cell? ⟨w1.heap.size,1,none⟩=some (.int .i64 (o:Nat))/\u.cell? ⟨w1.heap.size,2,none⟩=some (.int .i64 (K.nx:Nat))/\u.cell? ⟨w1.heap.size,3,none⟩=some (.int .i64 0)/\u.cell? ⟨w1.heap.size,4,none⟩=some (.bool false)):=fun u hu=>hu.cells;have B':=BE SS;clear n1 n0 SS hz hb
  go_region_held3 (fun wx=>wx.cell? ⟨w1.heap.size,0,none⟩=some (.int .i64 (p:Nat))/\wx.cell? ⟨w1.heap.size,1,none⟩=some (.int .i64 (o:Nat))/\wx.cell? ⟨w1.heap.size,2,none⟩=some (.int .i64 (K.nx:Nat))/\wx.cell? ⟨w1.heap.size,3,none⟩=some (.int .i64 0)/\wx.cell? ⟨w1.heap.size,4,none⟩=some (.bool false))
   (first | exact⟨u0,u1,u2,u3,u4⟩ | exact B' _ f5 | exact B' _ h0)
   (first
    | (go_at_call 152;refine(Xi A _ _ K3 ⟨p,o,K.nx,0,false⟩ HM g 0 174 (H (sqK K) K.nx) (HH.out.len _ _) (HH.out.bys _ _) f7 o2).mono ?_;rintro e w4 ⟨rfl,k4,g4⟩;have it:=BE k4;have h0:=BE (f5.out.chg g4 HN);have hc:=BE (x1.out.chg g4 h6);have hx:=BE (o1.out.trans g4);clear k4 g4)
    | (refine(HH.out.run _ (sqK K) K.nx (p2.out.drewN 1) ((HW.out.trans f6).drewN 1) HQ).mono ?_;rintro e w3 ⟨g,rfl,L3,f1,g3⟩;have f7:=BE f1;have K3:=BE ((p2.out.drewN 1).chg0 g3);have f5:=BE ((G1.out.chg (Chg.refl No w2).drew (fun f=>f)).chg g3 (fun f=>f));have x1:=BE ((f2.out.chg (Chg.refl No w2).drew (fun f=>f)).chg g3 (fun f=>f));have o2:Hid (¬ Cor A g):=(fun e=>by have:=no.out _ (AK e);have:=f2.out.lt;have e2:(w2.drewN 1).heap.size=w2.heap.size:=rfl;omega);have o1:=BE (f6.out.drew.trans (Chg.cor0 (A:=A) g3));clear f1 g3))
  all_goals
   have C5:¬ w1.heap.size=w.heap.size:=om;have HF:Hid (frK H K p o=if (prK (sqK K) ⟨p,o,K.nx,0,false⟩ (H (sqK K) K.nx)).2≠0 then ((prK (sqK K) ⟨p,o,K.nx,0,false⟩ (H (sqK K) K.nx)).1,Zt,(prK (sqK K) ⟨p,o,K.nx,0,false⟩ (H (sqK K) K.nx)).2) else (if o=24 then Nd (prK (sqK K) ⟨p,o,K.nx,0,false⟩ (H (sqK K) K.nx)).1 else (prK (sqK K) ⟨p,o,K.nx,0,false⟩ (H (sqK K) K.nx)).1,⟨p,o,K.nx,0,false⟩,0)):=by
    show frK H K p o=_;unfold frK;rw[hi.out];rfl
   generalize prK (sqK K) ⟨p,o,K.nx,0,false⟩ (H (sqK K) K.nx)=Z at *
   have q:=CA;have gq:=BQ;by_cases hz:Z.2=0
   ·have kd:Hid (frK H K p o=(if o=24 then Nd Z.1 else Z.1,⟨p,o,K.nx,0,false⟩,0)):=(by show frK H K p o=_;rw[HF.out,AI (by rw[hz];simp)]);replace q:∀w,(binOp .neq 46 (errV Z.2) .nilIface).run prog w=.ok (.bool false) w:=fun w=>by rw[q,AO hz];rfl
    generalize Z.2=z2 at *
    generalize Z.1=K4 at *
    clear hz f3 u0 u1 u2 u3 u4;by_cases G2:o=24
    ·subst G2;have hp:=AF.Ua w4 A.pa K4.cu K4.ca it.out.pat;obtain⟨qa,-⟩:=it.out.cPat;go_wp2_with fail;refine hp.mono ?_;rintro e w5 ⟨rfl,k5,g5⟩;have K5:=it.out.setPat k5 g5 ⟨it.out.wf.chip,it.out.wf.rr,it.out.wf.frm,it.out.wf.map,it.out.wf.vs,it.out.wf.vp,it.out.wf.vc,it.out.wf.fl,it.out.wf.nx,it.out.wf.fr,it.out.wf.cu,it.out.wf.qu,it.out.wf.hea,it.out.wf.tl⟩;obtain⟨f8,-⟩:=K5.cHea;have hn:=AG.SQ w5 A.h K4.hR K4.hN K4.hS K5.hea K5.wf.hea;have h1:=BE K5;have x0:=BE (h0.out.chg g5.cor_pa HN);have f9:=BE (hc.out.chg g5.cor_pa h6);have o0:=BE (hx.out.trans g5.cor_pa);clear hp qa k5 g5 K5;go_wp2_with fail;refine hn.mono ?_;rintro e w6 ⟨rfl,k6,g6⟩;have G3:=BE (h1.out.setHea k6 g6 (h1.out.wf.hR' (AG.GR.noted h1.out.wf.hea)));have x2:=BE (x0.out.chg g6.cor_h HN);have oa:=BE (f9.out.chg g6.cor_h h6);have t7:=BE (o0.out.trans g6.cor_h);clear hn f8 k6 g6;go_wp2_with (first | refine Bu rfl (.tmp 10) rfl w1.heap.size rfl x2 ?_ | refine BO rfl (.tmp 8) (.tmp 46) rfl w.heap.size rfl rfl oa ?_);intro w7 T7 G7;have hv:=BE T7;have ar:=BE (G3.out.far no (AM _) G7);have La:=BE (t7.out.trans' G7 (fun k hk e=>om));clear T7 G7;go_wp2;refine AZ (Bf rfl _ rfl hv) rfl ?_;rw[kd.out,AJ trivial];exact⟨rfl,ar.out,La⟩
    ·have oi:=BE G2;have C4:(((o:Nat):Int) == 24)=false:=(by simp;omega);go_wp2_with (first | refine Bu rfl (.tmp 10) rfl w1.heap.size rfl h0 ?_ | refine BO rfl (.tmp 8) (.tmp 46) rfl w.heap.size rfl rfl hc ?_);intro w7 T7 G7;have hv:=BE T7;have ar:=BE (it.out.far no (AM _) G7);have La:=BE (hx.out.trans' G7 (fun k hk e=>om));clear T7 G7;go_wp2;refine AZ (Bf rfl _ rfl hv) rfl ?_;rw[kd.out,AI oi.out];exact⟨rfl,ar.out,La⟩
   ·have kd:Hid (frK H K p o=(Z.1,Zt,Z.2)):=(by show frK H K p o=_;rw[HF.out,AJ hz]);replace q:∀w,(binOp .neq 46 (errV Z.2) .nilIface).run prog w=.ok (.bool true) w:=fun w=>by rw[q,AN hz];rfl
    generalize Z.2=z2 at *
    generalize Z.1=K4 at *
    clear hz f3 u0 u1 u2 u3 u4;go_wp2_with (first | refine BO rfl (.tmp 8) (.tmp 32) rfl w.heap.size rfl rfl hc ?_);intro w7 T7 G7;have hv:=BE T7;have ar:=BE (it.out.far no (AM _) G7);have La:=BE (hx.out.trans' G7 (fun k hk e=>om));clear T7 G7;go_wp2;refine AZ (Bf rfl _ rfl hv) rfl ?_;rw[kd.out];exact⟨rfl,ar.out,La⟩
 ·rw[hsp] at hg;have kd:Hid (frK H K p o=(K,Zt,14)):=by show frK H K p o=_;unfold frK;rw[hsp];rfl
  clear h hw hm hH C0 T0 G0;go_enter func93,ntmps93;go_wp2_with (first | refine BO rfl (.tmp 8) (.tmp 16) rfl w.heap.size rfl rfl ha ?_);intro w7 T7 G7;have hv:=BE T7;have ar:=BE (wr.out.far no (AM _) G7);have La:=BE ((Chg.cor0 (A:=A) h2).trans' G7 (fun k hk e=>om));clear T7 G7;go_wp2;refine AZ (Bf rfl _ rfl hv) rfl ?_;rw[kd.out];exact⟨rfl,ar.out,La⟩
end
section
variable (A:Ad)(w:Wd)
structure Xo (A:Ad) (w0:Wd) (f:FuncId) (cp:Array Value) (M:AA.Bn->AA.Bn):Prop where
 ent:∀args w,(callFunc f args).run prog w=.ok (.enter f args) w
 run:∀w N c,Chg (Cor A) w0 w->AA.Ck w N c->w0.heap.size<=N->Calls prog f (#[.pointer (some ⟨N,0,none⟩)] ++ cp) w fun e w'=>e=.returned (.tuple #[])/\AA.Ck w' N (M c)/\Chg (·=N) w w'
theorem Uk(N:Nat):Calls prog 80 #[.pointer (some ⟨N,0,none⟩)] w fun e w'=>e=.returned (.tuple #[])/\w'=w:=by
 go_enter func80,ntmps80;go_wp2;go_end0;exact⟨rfl,rfl⟩
theorem cY(N:Nat)(c:AA.Bn)(h:AA.Ck w N c)(x y o:Nat)(z:Int)(hx:w.cell? ⟨x,0,none⟩=some (.int .i64 z))(hy:w.cell? ⟨y,0,none⟩=some (.int .i64 (o:Nat)))(ho:o<24):Calls prog 57 #[.pointer (some ⟨N,0,none⟩),.pointer (some ⟨x,0,none⟩),.pointer (some ⟨y,0,none⟩)] w fun e w'=>e=.returned (.tuple #[])/\AA.Ck w' N { c with F:=upd c.F o z }/\Chg (·=N) w w':=by
 have c1:=h.F o ho;have f1:=h.frozen o;have it:((o:Nat):Int)<24:=om
 have HC:=BE (h.setF o ho z);go_enter func57,ntmps57;go_wp2_with fail;go_region;go_end0;exact⟨rfl,HC.out,((Chg.refl (·=N) w).setCell (AK rfl) _ _).drew⟩
theorem iY(N:Nat)(c:AA.Bn)(h:AA.Ck w N c)(x s b:Nat)(hx:w.cell? ⟨x,0,none⟩=some (.pointer (some ⟨s,0,none⟩)))(hy:w.cell? ⟨s,0,none⟩=some (.int .i64 (b:Nat)))(hb:b<12):Calls prog 226 #[.pointer (some ⟨N,0,none⟩),.pointer (some ⟨x,0,none⟩)] w fun e w'=>e=.returned (.tuple #[])/\AA.Ck w' N { c with B:=upd c.B b true }/\Chg (·=N) w w':=by
 have c1:=h.B b hb;have f1:=h.frozen (25+b);have it:((b:Nat):Int)<12:=om
 have HC:=BE (h.setB b hb true);go_enter func226,ntmps226;go_wp2_with fail;go_region;go_end0;exact⟨rfl,HC.out,((Chg.refl (·=N) w).setCell (AK rfl) _ _).drew⟩
theorem Xp:∀args w,(callFunc 80 args).run prog w=.ok (.enter 80 args) w:=enters_of func80 kr rfl
theorem Xq:∀args w,(callFunc 57 args).run prog w=.ok (.enter 57 args) w:=enters_of func57 kr rfl
theorem Ul:∀args w,(callFunc 226 args).run prog w=.ok (.enter 226 args) w:=enters_of func226 kr rfl
theorem Xr:∀args w,(callFunc 102 args).run prog w=.ok (.enter 102 args) w:=enters_of func102 kr rfl
theorem Xt:∀args w,(callFunc 53 args).run prog w=.ok (.enter 53 args) w:=enters_of func53 kr rfl
theorem L8(w0:Wd):Xo A w0 80 #[] (fun c=>c):=⟨Xp,fun w N c _ h _=>(Uk w N).mono (by rintro e w' ⟨rfl,rfl⟩;exact⟨rfl,h,Chg.refl _ _⟩)⟩
theorem Um(w0:Wd)(x y o:Nat)(z:Int)(hx:w0.cell? ⟨x,0,none⟩=some (.int .i64 z))(hy:w0.cell? ⟨y,0,none⟩=some (.int .i64 (o:Nat)))(ho:o<24)(nx:¬ Cor A x)(ny:¬ Cor A y)(lx:x<w0.heap.size)(ly:y<w0.heap.size):Xo A w0 57 #[.pointer (some ⟨x,0,none⟩),.pointer (some ⟨y,0,none⟩)] (fun c=>{ c with F:=upd c.F o z }):=
 ⟨Xq,fun w N c hc h _=>cY w N c h x y o z ((hc.cell lx nx 0).trans hx) ((hc.cell ly ny 0).trans hy) ho⟩
theorem Xu(w0:Wd)(x s b:Nat)(hx:w0.cell? ⟨x,0,none⟩=some (.pointer (some ⟨s,0,none⟩)))(hy:w0.cell? ⟨s,0,none⟩=some (.int .i64 (b:Nat)))(hb:b<12)(nx:¬ Cor A x)(ny:¬ Cor A s)(lx:x<w0.heap.size)(ly:s<w0.heap.size):Xo A w0 226 #[.pointer (some ⟨x,0,none⟩)] (fun c=>{ c with B:=upd c.B b true }):=
 ⟨Ul,fun w N c hc h _=>iY w N c h x s b ((hc.cell lx nx 0).trans hx) ((hc.cell ly ny 0).trans hy) hb⟩
theorem Q8(w0:Wd)(f:FuncId)(cp:Array Value)(M:AA.Bn->AA.Bn)(hM:Xo A w0 f cp M)(b1 b2:Nat)(h1:w0.cell? ⟨b1,0,none⟩=some (.pointer (some ⟨A.c,0,none⟩)))(h2:w0.cell? ⟨b2,0,none⟩=some (.func (.func f) #[] cp))(n1:¬ Cor A b1)(n2:¬ Cor A b2)(l1:b1<w0.heap.size)(l2:b2<w0.heap.size)(w:Wd)(K:BH)(q:Nat)(h:CoreAt A w K)(hw:Chg (Cor A) w0 w)(hok:AA.Qp (M (ckK K q))) :Calls prog 102 #[.int .i64 (q:Nat),.pointer (some ⟨b1,0,none⟩),.pointer (some ⟨b2,0,none⟩)] w fun e w'=>∃g,e=.returned (.slice (some ⟨g,0,none⟩) 174 174)/\w.heap.size<=g/\At w' g 0 (AA.wrL (M (ckK K q)))/\Chg No w w':=by
 have c1:=(hw.cell l1 n1 0).trans h1;have La:=mt A w K h (q:Nat);have B':=hM.ent;have HW:=BE hw;have hx:=BE hM;have hv:=BE hok;have HX:Hid (∀u,Chg No w u->u.cell? ⟨b2,0,none⟩=some (.func (.func f) #[] cp)):=fun u hu=>(((hw.trans hu.cor0).cell l2 n2 0)).trans h2;have HS:=BE hw.size;go_enter func102,ntmps102;go_wp2_with fail;refine La.mono ?_;rintro e w1 ⟨rfl,k1,g1⟩;have no:=BE g1;have hc:=BE g1.size;go_wp2_with (first | refine AA.Du rfl rfl ?_ | refine AA.Bv rfl (.tmp 5) (.tmp 10) rfl w1.heap.size rfl rfl (AA.Ck.new w1 AA.ck0) ?_);intro w2 C2 G2;have it:Chg No w w2:=(no.out.alloc (.cells (AA.ckA AA.ck0) 55)).trans' G2 (fun k hk e=>by have:=no.out.size;omega);have cf:=HX.out w2 it;have h6:=hx.out.run w2 w1.heap.size _ (HW.out.trans it.cor0) C2 (by have:=no.out.size;have:=HS.out;omega);have ha:=BE it;go_wp2_with fail;refine h6.mono ?_;rintro e w3 ⟨rfl,C3,G3⟩;have kd:=AA.Lx w3 _ hv;have h0:=BE C3;have Go:=BE (ha.out.trans' G3 (fun k hk e=>by have:=hc.out;omega));go_wp2_with (first | refine AA.Ba rfl (.tmp 5) rfl w1.heap.size rfl h0 ?_);refine kd.mono ?_;rintro e w4 ⟨g,rfl,hg,hA,g4⟩;have HA:=BE hA;have ar:=BE (Go.out.trans g4);have wr:Hid (w.heap.size<=g):=AY Go.out.size hg;go_wp2;go_ret;exact⟨g,rfl,wr.out,HA.out.at_,ar⟩
theorem Dy(w0:Wd)(f:FuncId)(cp:Array Value)(M:AA.Bn->AA.Bn)(hM:Xo A w0 f cp M)(b1 b2:Nat)(h1:w0.cell? ⟨b1,0,none⟩=some (.pointer (some ⟨A.c,0,none⟩)))(h2:w0.cell? ⟨b2,0,none⟩=some (.func (.func f) #[] cp))(n1:¬ Cor A b1)(n2:¬ Cor A b2)(l1:b1<w0.heap.size)(l2:b2<w0.heap.size)(hok:∀K (q:Nat),Wf K->1<=q/\q<=1099511627775->AA.Qp (M (ckK K q))):Hold A w0 102 #[.pointer (some ⟨b1,0,none⟩),.pointer (some ⟨b2,0,none⟩)] (fun K q=>AA.wrL (M (ckK K q))):=
 ⟨Xr,fun _ _=>AA.CI _,fun _ _=>AA.FA _,fun w K q hC hW hq=>Q8 A w0 f cp M hM b1 b2 h1 h2 n1 n2 l1 l2 w K q hC hW (hok K q hC.wf hq)⟩
theorem EE{K:BH}(h:Wf K){q:Nat}(hq:1<=q/\q<=1099511627775):AA.Zp (ckK K q):=by
 refine⟨fun i hi=>h.fl i hi,?_,?_,fun i hi=>(h.hea i hi).1,fun i hi=>(h.hea i hi).2.2⟩
 ·show 0<=((q:Nat):Int)/\((q:Nat):Int)<=1099511627775;omega
 ·have:=h.cu;show 0<=((K.cu:Nat):Int)/\((K.cu:Nat):Int)<=95;omega
theorem IM{c:AA.Bn}(h:AA.Zp c):AA.Qp c:=by
 refine(AA.Mm c ⟨fun i hi=>?_,?_,?_,fun i hi=>?_,fun i hi=>?_⟩).2 h
 ·have:=h.F i hi;omega
 ·have:=h.N;omega
 ·have:=h.C;omega
 ·have:=h.R i hi;omega
 ·have:=h.S i hi;omega
theorem PP(K:BH)(q:Nat)(h:Wf K)(hq:1<=q/\q<=1099511627775):AA.Qp ((fun c:AA.Bn=>c) (ckK K q)):=IM (EE h hq)
theorem cZ(b:Nat)(K:BH)(q:Nat)(h:Wf K)(hq:1<=q/\q<=1099511627775):AA.Qp ((fun c:AA.Bn=>{ c with B:=upd c.B b true }) (ckK K q)):=
 IM ⟨(EE h hq).F,(EE h hq).N,(EE h hq).C,(EE h hq).R,(EE h hq).S⟩
theorem Xv(o:Nat)(z:Int)(hz:0<=z/\z<=1099511627775)(K:BH)(q:Nat)(h:Wf K)(hq:1<=q/\q<=1099511627775):AA.Qp ((fun c:AA.Bn=>{ c with F:=upd c.F o z }) (ckK K q)):=
 IM ⟨fun i hi=>by
  show 0<=upd (ckK K q).F o z i/\upd (ckK K q).F o z i<=1099511627775
  unfold upd
  split
  ·
   exact hz
  ·
   exact(EE h hq).F i hi,(EE h hq).N,(EE h hq).C,(EE h hq).R,(EE h hq).S⟩
theorem GM(b:Nat)(f:FuncId)(cp:Array Value):Calls prog 56 #[.pointer (some ⟨b,0,none⟩),.func (.func f) #[] cp] w fun e w'=>e=.returned (.func (.func 102) #[] #[.pointer (some ⟨w.heap.size,0,none⟩),.pointer (some ⟨w.heap.size+1,0,none⟩)])/\w'.cell? ⟨w.heap.size,0,none⟩=some (.pointer (some ⟨b,0,none⟩))/\w'.cell? ⟨w.heap.size+1,0,none⟩=some (.func (.func f) #[] cp)/\w'.heap.size=w.heap.size+2/\Chg No w w':=by
 have it:∀(fn:Fn) (first cap:Array Value) (w:Wd),(Instr.makeFunc fn first cap).run prog w=.ok (.func fn first cap) w:=fun _ _ _ _=>rfl;go_enter func56,ntmps56;go_wp2;go_ret;refine⟨rfl,?_,?_,by simp,((Chg.refl _ w).alloc _).alloc _⟩
 ·have h1:((w.alloc (.cells #[.pointer (some ⟨b,0,none⟩)] 25)).alloc (.cells #[.func (.func f) #[] cp] 139)).heap[w.heap.size]?=some (.cells #[.pointer (some ⟨b,0,none⟩)] 25):=(Below.heap_alloc _ _ _ (by simp)).trans (show (w.heap.push _)[w.heap.size]?=_ by simp);rw[cell_of_row _ _ _ _ _ _ h1];rfl
 ·have e:(w.alloc (.cells #[.pointer (some ⟨b,0,none⟩)] 25)).heap.size=w.heap.size+1:=by simp
  have h1:((w.alloc (.cells #[.pointer (some ⟨b,0,none⟩)] 25)).alloc (.cells #[.func (.func f) #[] cp] 139)).heap[w.heap.size+1]?=some (.cells #[.func (.func f) #[] cp] 139):=by
   rw[<-e];show ((w.alloc (.cells #[.pointer (some ⟨b,0,none⟩)] 25)).heap.push _)[(w.alloc (.cells #[.pointer (some ⟨b,0,none⟩)] 25)).heap.size]?=_;generalize (w.alloc (.cells #[.pointer (some ⟨b,0,none⟩)] 25)).heap=hp;simp
  rw[cell_of_row _ _ _ _ _ _ h1];rfl
theorem SX:(Instr.makeSlice 48 (.int .i64 174) (.int .i64 174)).run prog w=.ok (.slice (some ⟨w.heap.size,0,none⟩) 174 174) (w.alloc (.cells (bcells Ef) 5)):=by
 obtain⟨i,h1,h2,h3,h4⟩:=EG;have h:=run_make (P:=prog) w 48 5 i (.int .u8 0) underlying48 h1 h2 .i64 .i64 174 174 om om (by rw[h4];omega) om;rw[h,h3,Ex];rfl
theorem iZ(x d o cap:Nat)(D:List Nat)(hD:D.length=160)(hx:w.cell? ⟨x,0,none⟩=some (.slice (some ⟨d,o,none⟩) 160 cap))(hd:At w d o D)(q:Int) :Calls prog 53 #[.int .i64 q,.pointer (some ⟨x,0,none⟩)] w fun e w'=>∃g,e=.returned (.slice (some ⟨g,0,none⟩) 174 174)/\w.heap.size<=g/\At w' g 0 (D ++ List.replicate 14 0)/\Chg No w w':=by
 have hm:=SX;have no:x<w.heap.size:=World.block_lt_of_cell? w ⟨x,0,none⟩ hx;have A0:=Arr.new w 5 Ef;have G0:Chg No w (w.alloc (.cells (bcells Ef) 5)):=(Chg.refl _ w).alloc _;have ar:=(G0.cell no (fun f=>f) 0).trans hx;have D1:=hd.chg G0 (fun f=>f);have HA:=BE A0;have HG:=BE G0;have Go:=BE D1;have it:=BE hD;have HE:Hid (lay Ef 0 D=D ++ List.replicate 14 0):=by
  show lay Ef 0 D=D ++ List.replicate 14 0;unfold lay Ef;rw[hD];simp
 go_enter func53,ntmps53;go_wp2_with (first | refine Cd rfl (.tmp 6) (.tmp 7) rfl w.heap.size 0 174 174 d o 160 cap rfl rfl HA D (by rw[it.out];rfl) Go.out.2 (by rw[it.out];simp[Ef]) ?_);have HR:=BE (HA.out.row (lay Ef 0 D));have La:=BE (HG.out.trans' (Dx _ w.heap.size (bcells (lay Ef 0 D))) (fun k hk e=>om));go_wp2;go_ret;refine⟨w.heap.size,rfl,AM _,?_,La⟩;rw[<-HE.out];exact HR.out.at_
theorem Xw(w0:Wd)(x d o cap:Nat)(D:List Nat)(hD:D.length=160)(bD:Bys D)(hx:w0.cell? ⟨x,0,none⟩=some (.slice (some ⟨d,o,none⟩) 160 cap))(hd:At w0 d o D)(nx:¬ Cor A x)(nd:¬ Cor A d)(lx:x<w0.heap.size):Hold A w0 53 #[.pointer (some ⟨x,0,none⟩)] (fun _ _=>D ++ List.replicate 14 0):=
 ⟨Xt,fun _ _=>by simp[hD],fun _ _ n hn=>(mem_append.1 hn).elim (bD n) (fun h=>by rw[(mem_replicate.1 h).2];decide),fun w K q hC hW hq=>iZ w x d o cap D hD ((hW.cell lx nx 0).trans hx) (hd.chg hW nd) (q:Nat)⟩
end
def sf (S:Bm) (v:Value) (i:Nat):Value:=if i=0 then .int .i64 (S.fm:Nat) else if i=1 then .bool S.rt else if i=2 then .bool S.fd else if i=3 then .bool S.tt.o else if i=4 then .int .i64 (S.tt.k:Nat) else if i=5 then .int .i64 (S.tt.i:Nat) else v
def ShAt (w:Wd) (x:Nat) (S:Bm) (v:Value):Prop:=Sto w x 144 7 (sf S v)
section
variable {w w':Wd}{x:Nat}{S:Bm}{v:Value}
theorem ShAt.lt(h:ShAt w x S v):x<w.heap.size:=Sto.lt h
theorem ShAt.ty(h:ShAt w x S v):Ty w x 144:=Sto.ty h
theorem ShAt.chg{T:Nat->Prop}(h:ShAt w x S v)(hc:Chg T w w')(hb:¬ T x):ShAt w' x S v:=Sto.chg h hc hb
theorem ShAt.cell(h:ShAt w x S v)(i:Nat)(hi:i<7):w.cell? ⟨x,i,none⟩=some (sf S v i)/\w.frozen? ⟨x,i,none⟩=false:=⟨Sto.cell h i hi,Sto.frozen h i⟩
theorem ShAt.front(h:ShAt w x S v):AC.FB w x 144 7 (sf S v) 3 S.tt:=⟨h,om,rfl,rfl,rfl⟩
theorem ShAt.setTo{T:AC.St}(h:AC.FB w x 144 7 (upL (sf S v) 3 (AC.stL T)) 3 T):ShAt w x { S with tt:=T } v:=by
 refine Sto.ext h.1 fun i hi=>?_;obtain⟨u0,u1,u2⟩:=AC.Gt (sf S v) 3 T;have:i=0\/i=1\/i=2\/i=3\/i=4\/i=5\/i=6:=om
 rcases this with rfl | rfl | rfl | rfl | rfl | rfl | rfl
 ·rfl
 ·rfl
 ·rfl
 ·rw[u0];rfl
 ·rw[u1];rfl
 ·rw[u2];rfl
 ·rfl
theorem CoreAt.apartSh{A:Ad}{K:BH}(hC:CoreAt A w K)(h:ShAt w x S v):¬ Cor A x:=by
 obtain⟨t0,t1,t2,t3,t4,t5,t6,t7,t8,t9⟩:=hC.tys;have t:=h.ty;rintro (e | e | e | e | e | e | e | e)
 ·exact t.ne t0 dc e
 ·exact t.ne t1 dc e
 ·exact t.ne t2 dc e
 ·exact t.ne t5 dc e
 ·exact t.ne t6 dc e
 ·exact t.ne t7 dc e
 ·exact t.ne t8 dc e
 ·exact t.ne t9 dc e
theorem CoreAt.offTy{A:Ad}{K:BH}(hC:CoreAt A w K){T:Nat->Prop}(h:∀k,k<w.heap.size->T k->Ty w k 144\/Ty w k 130)(hc:Chg T w w'):CoreAt A w' K:=by
 obtain⟨t0,t1,t2,t3,t4,t5,t6,t7,t8,t9⟩:=hC.tys;have hn:∀ {k t},Ty w k t->t≠144->t≠130->¬ T k:=fun {k t} hk n1 n2 ht=>by
  have hl:k<w.heap.size:=by obtain⟨cs,z,e⟩:=hk;exact(Array.getElem?_eq_some_iff.1 e).1
  rcases h k hl ht with u | u
  ·exact hk.ne u n1 rfl
  ·exact hk.ne u n2 rfl
 obtain⟨f1,f2,f3,f4,f5,f6,f7⟩:=hC.frame hc;exact⟨f1 (hn t0 dc dc),f2 (hn t1 dc dc) (hn t3 dc dc) (hn t4 dc dc) (hn t5 dc dc),f3 (hn t2 dc dc),f4 (hn t6 dc dc),f5 (hn t7 dc dc),f6 (hn t8 dc dc),f7 (hn t9 dc dc),hC.wf⟩
theorem CoreAt.offSh{A:Ad}{K:BH}(hC:CoreAt A w K)(h:ShAt w x S v)(hc:Chg (·=x) w w'):CoreAt A w' K:=hC.offTy (fun k _ e=>AK (by rw[e];exact h.ty)) hc
end
def Zu (A:Ad) (x:Nat) (k:Nat):Prop:=Cor A k\/k=x
theorem Chg.mvs{A:Ad}{x:Nat}{w w':Wd}(h:Chg (Cor A) w w'):Chg (Zu A x) w w':=h.mono fun _ _ e=>AK e
theorem Chg.mvx{A:Ad}{x:Nat}{w w':Wd}(h:Chg (·=x) w w'):Chg (Zu A x) w w':=h.mono fun _ _ e=>AL e
theorem cg(K:BH)(S:Bm)(o:Nat)(h:S.tt.o=true):tiK K S o=(K,{ S with tt:=AC.tkS S.tt o },(AC.nxV S.tt o).toNat,AC.nxC S.tt o):=by unfold tiK;rw[AJ h]
theorem NG(s:AC.St)(n:Int):((AC.nxV s n).toNat:Int)=AC.nxV s n:=by
 unfold AC.nxV;split <;> omega
theorem PQ(A:Ad)(w:Wd)(K:BH)(h:CoreAt A w K)(x:Nat)(S:Bm)(v:Value)(hS:ShAt w x S v)(ok:AC.Fl S.tt)(o:Nat) :Calls prog 225 #[.pointer (some ⟨A.c,0,none⟩),.pointer (some ⟨x,0,none⟩),.int .i64 (o:Nat)] w fun e w'=>e=.returned (.tuple #[.int .i64 ((tiK K S o).2.2.1:Nat),errV (tiK K S o).2.2.2])/\CoreAt A w' (tiK K S o).1/\ShAt w' x (tiK K S o).2.1 v/\AC.Fl (tiK K S o).2.1.tt/\Chg (Zu A x) w w':=by
 have hb:=AC.D4 w x 144 7 _ 3 S.tt hS.front;have q:=CA;have g:=BQ;unfold AC.blV at hb;cases ho:S.tt.o
 ·rw[ho] at hb;replace hb:Calls prog 96 #[.pointer (some ⟨x,3,none⟩)] w fun e w'=>e=.returned (.int .i64 (-1))/\w'=w:=hb;obtain⟨c1,-⟩:=h.cPool;have ht:=Xf A w K h;have hm:=(LB K.F h.wf.frm).2;by_cases hc:tkC K.F=0
  ·have HF:Hid (tiK K S o=({ K with F:=AD.setF (AD.tkF K.F 0 (tkM K.F)) (tkM K.F) 2 },{ S with tt:=AC.tkS ⟨true,tkM K.F,0⟩ o },(AC.nxV ⟨true,tkM K.F,0⟩ o).toNat,AC.nxC ⟨true,tkM K.F,0⟩ o)):=by
    show tiK K S o=_;unfold tiK;rw[AI (by rw[ho];simp),AI (by rw[hc];simp)]
   rw[hc] at ht;have HS:=BE hS;have no:=BE (h.apartSh hS);have HM:=BE hm;go_enter func225,ntmps225;go_wp2_with (go_at_call 96;refine hb.mono ?_;rintro e w1 ⟨rfl,rfl⟩);refine ht.mono ?_;rintro e w1 ⟨rfl,k1,g1⟩;have wr:=PO A w1 _ k1 (tkM K.F:Nat) 2;have hg:=BE (HS.out.chg g1 no);have h0:=BE g1;go_wp2_with fail;refine wr.mono ?_;rintro e w2 ⟨rfl,k2,g2⟩;have S2:=hg.out.chg g2 no;have h2:=AC.PC w2 x 144 7 _ 3 S.tt S2.front (tkM K.F) 0 HM dc;have hx:=BE k2;have h6:=BE S2;have h1:=BE (h0.out.trans g2);go_wp2_with fail;refine h2.mono ?_;rintro e w3 ⟨rfl,f3,g3⟩;have hk:AC.Fl ⟨true,tkM K.F,0⟩:=⟨HM.out,(by decide:0<9)⟩;have kd:=AC.Ku w3 x 144 7 _ 3 _ f3 hk (o:Nat);have p2:=BE (hx.out.offSh h6 g3);have ha:=BE (ShAt.setTo f3);have B':=BE (h1.out.mvs.trans g3.mvx);have it:=BE (AC.Fl.take hk (o:Nat));go_wp2_with fail;refine kd.mono ?_;rintro e w4 ⟨rfl,f4,g4⟩;have hv:=BE (p2.out.offSh ha g4);have ar:Hid (ShAt w4 x { S with tt:=AC.tkS ⟨true,tkM K.F,0⟩ o } v):=by
    obtain⟨y1,y2⟩:=f4;refine ShAt.setTo (S:=S) ⟨Sto.ext y1 fun i hi=>?_,y2.1,rfl,rfl,rfl⟩;have:i=0\/i=1\/i=2\/i=3\/i=4\/i=5\/i=6:=om
    rcases this with rfl | rfl | rfl | rfl | rfl | rfl | rfl <;> rfl
   have La:=BE (B'.out.trans g4.mvx);go_wp2;go_ret2;rw[HF.out];show _/\_/\_/\_;rw[NG];exact⟨rfl,hv.out,ar.out,it.out,La⟩
  ·have HF:Hid (tiK K S o=(K,S,0,14)):=by
    show tiK K S o=_;unfold tiK;rw[AI (by rw[ho];simp),AJ hc]
   have hd:decide (tkC K.F=0)=false:=AN hc;have e1:AD.tkF K.F (tkC K.F) (tkM K.F)=K.F:=(by unfold AD.tkF;rw[AI hc]);rw[e1] at ht;have HS:=BE hS;have no:=BE (h.apartSh hS);have it:=BE ok;generalize tkC K.F=k at *
   generalize tkM K.F=m at *
   go_enter func225,ntmps225;go_wp2_with (first | (go_at_call 96;refine hb.mono ?_;rintro e w1 ⟨rfl,rfl⟩) | (go_at_call 193;refine ht.mono ?_;rintro e w1 ⟨rfl,k1,g1⟩));go_ret2;rw[HF.out];exact⟨rfl,k1,HS.out.chg g1 no.out,it.out,g1.mvs⟩
 ·have HF:=BE (cg K S o ho);rw[ho] at hb;replace hb:Calls prog 96 #[.pointer (some ⟨x,3,none⟩)] w fun e w'=>e=.returned (.int .i64 (S.tt.k:Nat))/\w'=w:=hb;have hz:(((S.tt.k:Nat):Int) == -1)=false:=by simp
  have kd:=AC.Ku w x 144 7 _ 3 _ hS.front ok (o:Nat);have HS:=BE hS;have HC:=BE h;have it:=BE (AC.Fl.take ok (o:Nat));go_enter func225,ntmps225;go_wp2_with (go_at_call 96;refine hb.mono ?_;rintro e w1 ⟨rfl,rfl⟩);refine kd.mono ?_;rintro e w4 ⟨rfl,f4,g4⟩;have hv:=BE (HC.out.offSh HS g4);have ar:=BE (ShAt.setTo f4);have La:=BE g4;go_wp2;go_ret2;rw[HF.out];show _/\_/\_/\_;rw[NG];exact⟨rfl,hv.out,ar.out,it.out,La.out.mvx⟩
theorem cj(A:Ad)(w:Wd)(K:BH)(h:CoreAt A w K)(t:CP)(hpl:t.p<96)(hm:¬ DY t.p t.o t.q t.c t.l)(c o cap:Nat) :Calls prog 152 #[.pointer (some ⟨A.c,0,none⟩),.agg #[.int .i64 (t.p:Nat),.int .i64 (t.o:Nat),.int .i64 (t.q:Nat),.int .i64 (t.c:Nat),.bool t.l],.slice (some ⟨c,o,none⟩) 174 cap] w fun e w'=>e=.returned (errV 8)/\CoreAt A w' K/\Chg (Cor A) w w':=by
 have T0:=Tg.new w t.p t.o t.q t.c t.l;have G0:Chg No w (w.alloc (.cells #[.int .i64 (t.p:Nat),.int .i64 (t.o:Nat),.int .i64 (t.q:Nat),.int .i64 (t.c:Nat),.bool t.l] 130)):=(Chg.refl _ w).alloc _;have C0:=h.chg0 G0;have La:=BE h.low;obtain⟨c0,-⟩:=C0.cMed;obtain⟨u0,u1,u2,u3,u4⟩:=T0.cells;have hv:=E6 A.m A.g A.p A.q A.b K.r _ C0.med;have ha:=BE T0;have hc:=BE G0;have it:=BE C0;have HM:=BE hm;have Go:=BE hpl;clear h C0 G0 T0 hm hpl;go_enter func152,ntmps152;go_wp2_with fail;refine hv.mono ?_;rintro e w1 ⟨rfl,rfl⟩;clear hv;generalize (w.alloc (.cells #[.int .i64 (t.p:Nat),.int .i64 (t.o:Nat),.int .i64 (t.q:Nat),.int .i64 (t.c:Nat),.bool t.l] 130))=w0 at *
 go_wp2_with fail
 go_region_held3 (fun wx=>wx.cell? ⟨A.c,0,none⟩=some (.pointer (some ⟨A.m,0,none⟩))/\wx.cell? ⟨w.heap.size,0,none⟩=some (.int .i64 (t.p:Nat))/\wx.cell? ⟨w.heap.size,1,none⟩=some (.int .i64 (t.o:Nat))/\wx.cell? ⟨w.heap.size,2,none⟩=some (.int .i64 (t.q:Nat))/\wx.cell? ⟨w.heap.size,3,none⟩=some (.int .i64 (t.c:Nat))/\wx.cell? ⟨w.heap.size,4,none⟩=some (.bool t.l))
  (first | exact⟨c0,u0,u1,u2,u3,u4⟩ | exact⟨z0,y0,y1,y2,y3,y4⟩)
  (first | (go_at_call 198;refine(Oe A.m A.g A.p A.q A.b K.r _ (it.out.drewN 1).med (t.p:Nat) (t.p:Nat) (t.o:Nat) (t.q:Nat) (t.c:Nat) t.l (some ⟨c,o,none⟩) 174 cap (fun e=>HM.out e.1)).mono ?_;rintro e w2 ⟨rfl,G2⟩;have K2:=(it.out.drewN 1).chg0 G2;have T2:=(ha.out.chg (Chg.refl No w0).drew (fun f=>f)).chg G2 (fun f=>f);obtain⟨y0,y1,y2,y3,y4⟩:=T2.cells;obtain⟨z0,-⟩:=K2.cMed;have ar:=BE K2;have hx:=BE ((Chg.cor0 (A:=A) hc).drew.trans G2.cor0);have h6:=BE T2;clear G2 K2 T2))
 all_goals
  have no:=fun w=>IG w (t.p:Nat) (by have:=Go.out;omega);rw[show ((t.p:Nat):Int) / 8=((t.p / 8:Nat):Int) by omega] at no;have hi:IntKind.i64.wrap (K.r - K.r)=(0:Int):=by rw[Int.sub_self];rfl
  clear c0 u0 u1 u2 u3 u4 y1 y2 y3 y4;go_wp2_with fail
  go_region_held3 (fun wx=>wx.cell? ⟨A.c,0,none⟩=some (.pointer (some ⟨A.m,0,none⟩))/\wx.cell? ⟨w.heap.size,0,none⟩=some (.int .i64 (t.p:Nat)))
   (first | exact⟨z0,y0⟩ | exact⟨z4,y4⟩)
   (first
    | (go_at_call 99;refine(no _).mono ?_;rintro e w3 ⟨rfl,rfl⟩)
    | (go_at_call 197;refine(E6 A.m A.g A.p A.q A.b K.r _ (ar.out.drewN 1).med).mono ?_;rintro e w3 ⟨rfl,rfl⟩)
    | (go_at_call 63;refine(ND A _ _ (ar.out.drewN 1) (t.p / 8) (by have:=Go.out;omega) 0 dc).mono ?_;rintro e w4 ⟨rfl,K4,G4⟩;have T4:=(h6.out.chg (Chg.refl No w2).drew (fun f=>f)).chg G4 (fun e=>by have:=La.out _ (AK e);omega);have y4:=T4.cells.1;obtain⟨z4,-⟩:=K4.cMed;have hk:=BE K4;have kd:=BE (hx.out.drew.trans G4);clear K4 G4 T4))
  all_goals
   have hf:=Iv w4 1;have HE:=BE (Iu it.out.wf.hea (t.p / 8) (by have:=Go.out;omega) (Int.le_refl 0));clear no z0 y0 hi;go_wp2_with (go_at_call 186;refine hf.mono ?_;rintro e w5 ⟨rfl,rfl⟩);go_ret;refine⟨rfl,?_,kd⟩;have:=hk.out;rw[HE.out] at this;exact this
def tL (t:CP):List Value:=[.int .i64 (t.p:Nat),.int .i64 (t.o:Nat),.int .i64 (t.q:Nat),.int .i64 (t.c:Nat),.bool t.l]
theorem ia(t:CP):∀v ∈ tL t,v.oneCell'=true:=by
 intro v hv;simp[tL] at hv;rcases hv with rfl | rfl | rfl | rfl | rfl <;> rfl
def Lad (w:Wd) (base:Nat) (v:Value) (l:List CP):Prop:=w.ownsRow base 130 5 v l.length (l.flatMap tL)
theorem PR:∀(l:List CP) (i:Nat) (f:CP) (j:Nat),l[i]?=some f->j<5->(l.flatMap tL)[i*5+j]?=(tL f)[j]?
 | [],i,f,j,h,_=>by simp at h
 | x :: r,0,f,j,h,hj=>by
  have e:x=f:=by simpa using h
  subst e
  rw[flatMap_cons,Nat.zero_mul,AW,Af (by simpa[tL] using hj)]
 | x :: r,i+1,f,j,h,hj=>by
  have h':r[i]?=some f:=by simpa using h
  rw[flatMap_cons,Aa (by simp[tL];omega),show (i+1)*5+j - (tL x).length=i*5+j by simp[tL];omega,PR r i f j h' hj]
section
variable {w w':Wd}{base:Nat}{v:Value}{l:List CP}
theorem Lad.nil(w:Wd)(base:Nat):Lad w base (.slice none 0 0) []:=⟨rfl,AK ⟨rfl,rfl⟩⟩
theorem Lad.keep(h:Lad w base v l)(hk:∀k,k<w.heap.size->v.ownBlock=some k->w'.heap[k]?=w.heap[k]?):Lad w' base v l:=by
 refine⟨h.1,?_⟩;rcases h.2 with h1 | ⟨g,it,no,rfl,hb,hh,r⟩
 ·exact AK h1
 ·exact AL ⟨g,it,no,rfl,hb,(hk g (Array.getElem?_eq_some_iff.1 hh).1 rfl).trans hh,r⟩
theorem Lad.ty(h:Lad w base v l){k:Nat}(hk:v.ownBlock=some k):Ty w k 130/\base<=k/\k<w.heap.size:=by
 rcases h.2 with ⟨rfl,_⟩ | ⟨g,it,no,rfl,hb,hh,_⟩
 ·cases hk
 ·have e:g=k:=by simpa[Value.ownBlock] using hk
  subst e;exact⟨⟨_,_,hh⟩,hb,(Array.getElem?_eq_some_iff.1 hh).1⟩
theorem Lad.chg{T:Nat->Prop}(h:Lad w base v l)(hc:Chg T w w')(hs:∀k,v.ownBlock=some k->¬ T k):Lad w' base v l:=h.keep fun k hk e=>hc.block k hk (hs k e)
theorem Lad.new(h:Lad w base v l)(hc:Chg No w w'):Lad w' base v l:=h.chg hc fun _ _ f=>f
theorem Lad.lower(h:Lad w base v l){b:Nat}(hb:b<=base):Lad w b v l:=by
 refine⟨h.1,?_⟩;rcases h.2 with h1 | ⟨g,it,no,rfl,hg,r⟩
 ·exact AK h1
 ·exact AL ⟨g,it,no,rfl,AY hb hg,r⟩
theorem Lad.noCor{A:Ad}{K:BH}(h:Lad w base v l)(hC:CoreAt A w K):∀k,v.ownBlock=some k->¬ Cor A k:=by
 intro k hk;have t:=(h.ty hk).1;obtain⟨t0,t1,t2,t3,t4,t5,t6,t7,t8,t9⟩:=hC.tys;rintro (e | e | e | e | e | e | e | e)
 ·exact t.ne t0 dc e
 ·exact t.ne t1 dc e
 ·exact t.ne t2 dc e
 ·exact t.ne t5 dc e
 ·exact t.ne t6 dc e
 ·exact t.ne t7 dc e
 ·exact t.ne t8 dc e
 ·exact t.ne t9 dc e
theorem Lad.noSh{x:Nat}{S:Bm}{u:Value}(h:Lad w base v l)(hS:ShAt w x S u):∀k,v.ownBlock=some k->¬ k=x:=fun _ hk=>(h.ty hk).1.ne hS.ty dc
theorem Lad.one(h:Lad w base v l):∃a it,v=.slice a l.length it:=by
 rcases h.2 with ⟨rfl,e⟩ | ⟨g,it,no,rfl,_⟩
 ·exact⟨none,0,by rw[e]⟩
 ·exact⟨_,it,rfl⟩
theorem Lad.at_(h:Lad w base v l){i:Nat}{t:CP}(hi:l[i]?=some t):∃g it,v=.slice (some ⟨g,0,none⟩) l.length it/\l.length<=it/\w.rangeAt g (i*5) (tL t):=by
 have no:=fun g hg=>World.ownsRow.cells (g:=g) h hg;rcases h.2 with ⟨rfl,e⟩ | ⟨g,it,Go,hv,hg,hh,hn,_⟩
 ·have:=(List.getElem?_eq_some_iff.1 hi).1;omega
 ·refine⟨g,it,hv,hn,fun j u hu=>?_⟩;have hj:j<5:=by have:=(List.getElem?_eq_some_iff.1 hu).1;simpa[tL] using this
  have:=no g (by rw[hv];rfl) (i*5+j) u ((PR l i t j hi hj).trans hu);rw[Addr.add_mid,AW] at this;exact this
end
theorem co:∃i,prog.info? 130=some i/\i.zero=some (.agg #[.int .i64 0,.int .i64 0,.int .i64 0,.int .i64 0,.bool false])/\i.size=5/\i.bytes=40:=by
 have h:(prog.info? 130).map (fun i=>(i.zero,i.size,i.bytes))=some (some (.agg #[.int .i64 0,.int .i64 0,.int .i64 0,.int .i64 0,.bool false]),5,40):=kr
 cases e:prog.info? 130 with
 | none=>rw[e] at h;cases h
 | some i=>
  rw[e] at h;simp only[Option.map_some,Option.some.injEq,Prod.mk.injEq] at h;exact⟨i,rfl,h.1,h.2.1,h.2.2⟩
theorem FL(w:Wd){ops:Array Oper}{o:Oper}{a:Act}{K:Act->World->Prop}{Q:Exit->Act->World->Prop}{E:Prop}(hgd:o.guard=none)(s x:Operand)(ho:o.op=.call { callee:=.builtin .append,args:=#[s,x],argTypes:=#[142,142] })(base:Nat)(v:Value)(l:List CP)(hs:a.eval s=v)(hown:Lad w base v l)(B c:Nat)(t:CP)(hx:a.eval x=.slice (some ⟨B,0,none⟩) 1 c)(hB:Tg w B t.p t.o t.q t.c t.l)(hlen:l.length<=1048576)(hbase:base<=w.heap.size)(h:∀g it w',Lad w' base (.slice (some ⟨g,0,none⟩) (l.length+1) it) (l ++ [t])->Chg (fun k=>v.ownBlock=some k) w w'->K (a.put o.dst (.slice (some ⟨g,0,none⟩) (l.length+1) it)) w') :if Region.wanted o (yielded ops a.tmps)=true then Oper.wp prog o a w K Q else E:=by
 obtain⟨i,no,hv,La,ar⟩:=co;refine step_append_lies w hgd s x 142 ho base 130 i _ 5 40 underlying142 no hv La ar rfl dc v l.length (l.flatMap tL) hs hown ⟨B,0,none⟩ 1 c (tL t) hx rfl (World.news_of_block hB) (ia t) dc (by unfold maxLen;omega) om hbase _ rfl ?_;intro g it w' h1 h2 _ _;refine h g it w' ?_ ⟨h2.os,h2.tape,h2.output,h2.size,fun k hk hs=>h2.block k hk (fun e=>hs e.symm)⟩;unfold Lad;rw[AV,flatMap_append];simpa using h1
theorem ib(l:List Nat):∃r,IsDec l r:=by
 by_cases h:∃c,Cw c/\ds l c<=2
 ·obtain⟨c,hc,hd⟩:=h;exact⟨_,AL ⟨c,hc,rfl,hd⟩⟩
 ·exact⟨none,AK ⟨rfl,fun c hc=>by
   by_cases hd:ds l c<=2
   ·
    exact absurd ⟨c,hc,hd⟩ h
   ·
    omega⟩⟩
theorem IN(L:List Nat)(i:Nat):IsDec (part 64 L i) none\/∃r,Good L i r:=by
 obtain⟨r,h⟩:=ib (part 64 L i);rcases h with ⟨rfl,h⟩ | ⟨c,hc,rfl,hd⟩
 ·exact AK (AK ⟨rfl,h⟩)
 ·refine AL ⟨_,AL ⟨c,hc,rfl,hd⟩,?_,?_,hd⟩
  ·have:=hc.1;simp[this]
  ·intro n hn;exact hc.2.1 n (mem_of_mem_take hn)
theorem ic(L:List Nat)(k:Int):∃R d c,MsgR L k R d c:=by
 by_cases h:L.length=256/\0<=k/\k<=3
 ·rcases IN L k.toNat with g | ⟨r,g⟩
  ·exact⟨[],0,5,AL ⟨k.toNat,om,om,h.1,AK ⟨g,rfl,rfl,rfl⟩⟩⟩
  ·exact⟨r.1,r.2,0,AL ⟨k.toNat,om,om,h.1,AL ⟨g,rfl⟩⟩⟩
 ·exact⟨[],0,1,AK ⟨h,rfl,rfl,rfl⟩⟩
theorem ie(L:List Nat):∃m,DmgR L m:=by
 have h:=fun k:Nat=>ic L (k:Int);exact⟨_,fun k=>(h k).choose,fun k=>(h k).choose_spec.choose,fun k=>(h k).choose_spec.choose_spec.choose,fun k _=>(h k).choose_spec.choose_spec.choose_spec,rfl⟩
theorem ig(L:List Nat):∃R d c,DatR L R d c:=by
 by_cases h:L.length=256
 ·rcases IN L 0 with g0 | ⟨r0,g0⟩
  ·exact⟨[],0,5,AL (AK ⟨h,⟨0,dc,g0⟩,rfl,rfl,rfl⟩)⟩
  ·rcases IN L 1 with g1 | ⟨r1,g1⟩
   ·exact⟨[],0,5,AL (AK ⟨h,⟨1,dc,g1⟩,rfl,rfl,rfl⟩)⟩
   ·rcases IN L 2 with g2 | ⟨r2,g2⟩
    ·exact⟨[],0,5,AL (AK ⟨h,⟨2,dc,g2⟩,rfl,rfl,rfl⟩)⟩
    ·exact⟨_,_,0,AL (AL ⟨h,r0,r1,r2,g0,g1,g2,rfl,rfl,rfl⟩)⟩
 ·exact⟨[],0,1,AK ⟨h,rfl,rfl,rfl⟩⟩
theorem ii(L:List Nat):∃R d c,BodR L R d c:=by
 by_cases h:L.length=256
 ·rcases IN L 3 with g0 | ⟨r0,g0⟩
  ·exact⟨[],0,5,AL (AK ⟨h,g0,rfl,rfl,rfl⟩)⟩
  ·by_cases e:r0.1.drop 50=mk
   ·exact⟨_,_,0,AL (AL ⟨h,r0,g0,AL ⟨e,rfl,rfl,rfl⟩⟩)⟩
   ·exact⟨[],0,6,AL (AL ⟨h,r0,g0,AK ⟨e,rfl,rfl,rfl⟩⟩)⟩
 ·exact⟨[],0,1,AK ⟨h,rfl,rfl,rfl⟩⟩
theorem cq(L:List Nat)(n:Int):∃g,ToldR L n g:=by
 obtain⟨m,hm⟩:=ie L;obtain⟨B,bd,bc,hB⟩:=ii L;obtain⟨D,dd,dc,hD⟩:=ig L;by_cases ht:KV B bc n
 ·by_cases hd:dc=0
  ·exact⟨⟨true,fld B 0 2,fld B 2 1,fld B 3 5,fld B 8 1,FW B,true,D,m⟩,hm,B,bd,bc,hB,AL ⟨ht,rfl,rfl,rfl,rfl,rfl,rfl,D,dd,dc,hD,AL ⟨hd,rfl,rfl⟩⟩⟩
  ·exact⟨⟨true,fld B 0 2,fld B 2 1,fld B 3 5,fld B 8 1,FW B,false,[],m⟩,hm,B,bd,bc,hB,AL ⟨ht,rfl,rfl,rfl,rfl,rfl,rfl,D,dd,dc,hD,AK ⟨hd,rfl,rfl⟩⟩⟩
 ·exact⟨⟨false,0,0,0,0,false,false,[],m⟩,hm,B,bd,bc,hB,AK ⟨ht,rfl,rfl,rfl,rfl,rfl,rfl,rfl,rfl⟩⟩
theorem MA{K:BH}(hK:Wf K){p:Nat}(h:(rdK K p).2.1.sound=true):(rdK K p).2.1.data.length=174/\Bys (rdK K p).2.1.data:=by
 unfold rdK at h ⊢;simp only at h ⊢;by_cases e:(readV K.s p).2.2=0
 ·have e2:rdF K.tl K.s K.r p=((readV K.s p).1,wrap64 (K.r+1),K.tl (readV K.s p).2.1 p,0):=by unfold rdF;rw[AJ e]
  rw[e2] at h ⊢;exact(ToldR.sound (hK.tl _ _) h).2
 ·have e2:rdF K.tl K.s K.r p=((readV K.s p).1,K.r,Pg.zero,(readV K.s p).2.2):=by unfold rdF;rw[AI e]
  rw[e2] at h ⊢;simp only[AI e] at h;cases h
def nz (w':Wd) (n:Nat) (v:Value) (D:List Nat):Prop:=∃g cap,v=.slice (some ⟨g,0,none⟩) 174 cap/\n<=g/\At w' g 0 D/\D.length=174/\Bys D
theorem Xx{K:BH}(h:Wf K){o:Nat}(ho:o<25)(hc:AB.atC K.L o=0):(K.L o).toNat<96/\AB.atV K.L o=((K.L o).toNat:Nat)/\K.L o≠-1:=by
 have e:K.L o≠-1:=by
  intro e;unfold AB.atC at hc;rw[AI om,AJ (by simpa using e)] at hc;cases hc
 have:=h.map.1 o ho;refine⟨om,?_,e⟩;unfold AB.atV;rw[AJ hc];simp;omega
theorem Un(A:Ad)(w:Wd)(K:BH)(h:CoreAt A w K)(o:Nat)(ho:o<25) :Calls prog 224 #[.pointer (some ⟨A.c,0,none⟩),.int .i64 (o:Nat)] w fun e w'=>∃v,e=.returned (.tuple #[v,.bool (coK K o).2.2.1,errV (coK K o).2.2.2])/\((coK K o).2.2.2=0->nz w' w.heap.size v (coK K o).2.1)/\CoreAt A w' (coK K o).1/\Chg (Cor A) w w':=by
 obtain⟨c2,-⟩:=h.cMap;have hat:=AB.b9 w A.ma K.L h.map (o:Nat);have q:=CA;have g:=BQ;by_cases hc:AB.atC K.L o=0
 ·obtain⟨hp,hv,hl⟩:=Xx h.wf ho hc;rw[hv,hc] at hat;have hrd:=Xh A w K h (K.L o).toNat hp;have HF:Hid (coK K o=if (rdK K (K.L o).toNat).2.2≠0 then ((rdK K (K.L o).toNat).1,[],false,(rdK K (K.L o).toNat).2.2) else if (rdK K (K.L o).toNat).2.1.sound=true then ((rdK K (K.L o).toNat).1,(rdK K (K.L o).toNat).2.1.data,(rdK K (K.L o).toNat).2.1.l,0) else if o=24 then ((rdK K (K.L o).toNat).1,noH (rdK K (K.L o).toNat).1 ((rdK K (K.L o).toNat).1.vs 24),false,0) else ((rdK K (K.L o).toNat).1,List.replicate 174 0,true,0)):=by
   show coK K o=_;unfold coK;rw[AI (by rw[hc];simp)]
  have HSD:Hid ((rdK K (K.L o).toNat).2.1.sound=true->(rdK K (K.L o).toNat).2.1.data.length=174/\Bys (rdK K (K.L o).toNat).2.1.data):=fun x=>MA h.wf x;have HL:=BE hl;have HVS:Hid ((rdK K (K.L o).toNat).1.vs=K.vs/\(rdK K (K.L o).toNat).1.L=K.L):=by
   show _/\_;unfold rdK;simp only;split <;> exact⟨rfl,rfl⟩
  generalize rdK K (K.L o).toNat=Z at *
  have HLOW:=BE h.low;clear h hc hl hp hv;generalize (K.L o).toNat=pp at *
  go_enter func224,ntmps224;go_wp2_with (go_at_call 50;refine hat.mono ?_;rintro e w ⟨rfl,rfl⟩);refine hrd.mono ?_;rintro e w1 ⟨v,rfl,hO,k1,g1⟩;have HO:=BE hO;have HK1:=BE k1;have HG1:=BE g1;have HP:=BE (Pb.new w1 false 0 0 0 0 false false (.slice none 0 0) 0);have HGN:Hid (Chg No w1 (w1.alloc (.cells #[.bool false,.int .i64 0,.int .i64 0,.int .i64 0,.int .i64 0,.bool false,.bool false,.slice none 0 0,.int .i64 0] 132))):=(Chg.refl _ w1).alloc _;have hs1:=g1.size;clear hat hrd hO k1 g1 c2;unfold Zo;go_wp2_with (first | refine wpList_store_pg rfl (.tmp 9) (.tmp 27) rfl w1.heap.size rfl rfl HO.out.one HP.out ?_);intro w2 P2 G2;have HK2:=BE ((HK1.out.chg0 HGN.out).far HLOW.out om G2);have HO2:=BE ((HO.out.chg HGN.out (fun _ _ _ f=>f)).chg G2 (fun k hk he e=>by have:=HO.out.block he;omega));have HG2:=BE ((HG1.out.trans HGN.out.cor0).trans' G2 (fun k hk e=>om));have hz2:=P2.lt;obtain⟨p0,p1,p2,p3,p4,p5,p6,p7,p8⟩:=P2.cells;clear G2 P2 HO HK1 HG1 HGN HP;by_cases hz:Z.2.2=0
  ·replace q:∀w,(binOp .neq 46 (errV Z.2.2) .nilIface).run prog w=.ok (.bool false) w:=fun w=>by rw[q,AO hz];rfl
   cases hsd:Z.2.1.sound
   ·rw[hsd] at p6;by_cases h24:o=24
    ·subst h24;have HF2:Hid (coK K 24=(Z.1,noH Z.1 (Z.1.vs 24),false,0)):=(by show coK K 24=_;rw[HF.out,AI (by rw[hz];simp),AI (by rw[hsd];simp),AJ rfl]);have htl:=GM w2 A.c 80 #[];clear hz hsd HSD HF p0 p1 p2 p3 p4 p5 p7 p8;go_wp2_with fail;refine htl.mono ?_;rintro e w3 ⟨rfl,a1,a2,a3,g3⟩;have K3:=HK2.out.chg0 g3;obtain⟨cv,-⟩:=K3.cVs 24 dc;have hq:1<=Z.1.vs 24/\Z.1.vs 24<=1099511627775:=⟨K3.wf.vp 24 dc (by rw[HVS.out.2];exact HL.out),K3.wf.vs 24 dc⟩;have hlo:=HK2.out.low;have hH:=Dy A w3 80 #[] _ (L8 A w3) w2.heap.size (w2.heap.size+1) a1 a2 (fun e=>by have:=hlo _ (AK e);omega) (fun e=>by have:=hlo _ (AK e);omega) om om PP;have hcl:=hH.run w3 Z.1 (Z.1.vs 24) K3 (Chg.refl _ _) hq;have hen:=hH.ent;have hmf:∀(fn:Fn) (first cap:Array Value) (w:Wd),(Instr.makeFunc fn first cap).run prog w=.ok (.func fn first cap) w:=fun _ _ _ _=>rfl;have HB:=BE (hH.bys Z.1 (Z.1.vs 24));have HLN:=BE (hH.len Z.1 (Z.1.vs 24));have HK3:=BE K3;have HG3:=BE (HG2.out.trans g3.cor0);have hz3:w2.heap.size<=w3.heap.size:=g3.size;clear htl a1 a2 a3 g3 K3 hlo hH hq p6;go_wp2_with fail;refine hcl.mono ?_;rintro e w4 ⟨gg,rfl,hg,hA,g4⟩;have HA:=BE hA;have HK4:=BE (HK3.out.chg0 g4);have HG4:=BE (HG3.out.trans g4.cor0);have HLE:Hid (w.heap.size<=gg):=(show w.heap.size<=gg by omega);clear hcl hA g4 hg;go_wp2
     go_ret3
     rw[HF2.out];exact⟨_,rfl,fun _=>⟨gg,174,rfl,HLE.out,HA.out,HLN.out,HB.out⟩,HK4.out,HG4.out⟩
    ·have HF2:Hid (coK K o=(Z.1,List.replicate 174 0,true,0)):=(by show coK K o=_;rw[HF.out,AI (by rw[hz];simp),AI (by rw[hsd];simp),AI h24]);have hoz:(((o:Nat):Int) == 24)=false:=(by simp;omega);have hm:=SX;have HA:=BE (Arr.new w2 5 Ef);have HGA:Hid (Chg No w2 (w2.alloc (.cells (bcells Ef) 5))):=(Chg.refl _ w2).alloc _;clear hz hsd HSD HF p0 p1 p2 p3 p4 p5 p7 p8 h24;go_wp2
     go_ret3
     rw[HF2.out];exact⟨_,rfl,fun _=>⟨w2.heap.size,174,rfl,om,HA.out.at_,by simp,fun n hn=>by rw[(mem_replicate.1 hn).2];decide⟩,HK2.out.chg0 HGA.out,HG2.out.trans HGA.out.cor0⟩
   ·rw[hsd] at p6;have HF2:Hid (coK K o=(Z.1,Z.2.1.data,Z.2.1.l,0)):=(by show coK K o=_;rw[HF.out,AI (by rw[hz];simp),AJ hsd]);have HSD2:=BE (HSD.out hsd);clear hz hsd HSD HF p0 p1 p2 p3 p4 p8;go_wp2_with fail;go_region;go_wp2
    go_ret3
    rw[HF2.out];refine⟨v,rfl,fun _=>?_,HK2.out.drewN 1,HG2.out.drewN 1⟩;obtain⟨gg,cap,rfl,hb,hl,-,hA,-⟩:=HO2.out.lies (by rw[HSD2.out.1];decide);refine⟨gg,cap,by rw[HSD2.out.1],hb,⟨hl,fun i hi=>?_⟩,HSD2.out.1,HSD2.out.2⟩;rw[AW];exact hA i hi
  ·have HF2:Hid (coK K o=(Z.1,[],false,Z.2.2)):=(by show coK K o=_;rw[HF.out,AJ hz]);have HZ:=BE hz;replace q:∀w,(binOp .neq 46 (errV Z.2.2) .nilIface).run prog w=.ok (.bool true) w:=fun w=>by rw[q,AN hz];rfl
   generalize Z.2.2=z2 at *
   clear hz HF HSD p0 p1 p2 p3 p4 p5 p6 p7 p8;go_wp2
   go_ret3
   rw[HF2.out];exact⟨_,rfl,fun e=>absurd e HZ.out,HK2.out,HG2.out⟩
 ·have HF:Hid (coK K o=(K,[],false,AB.atC K.L o)):=by
   show coK K o=_;unfold coK;rw[AJ hc]
  have HC:=BE h;have HZ:=BE hc;replace q:∀w,(binOp .neq 46 (errV (AB.atC K.L o)) .nilIface).run prog w=.ok (.bool true) w:=fun w=>by rw[q,AN hc];rfl
  clear h hc ho;generalize AB.atC K.L o=z2 at *
  go_enter func224,ntmps224;go_wp2_with (go_at_call 50;refine hat.mono ?_;rintro e w ⟨rfl,rfl⟩)
  go_ret3
  rw[HF.out];exact⟨_,rfl,fun e=>absurd e HZ.out,HC.out,Chg.refl _ _⟩
section
variable (K:BH)
def NH (K K':BH):Prop:=K'.L=K.L/\K'.vs=K.vs/\K'.vc=K.vc
theorem NH.refl:NH K K:=⟨rfl,rfl,rfl⟩
theorem NH.trans{K K' K'':BH}(h:NH K K')(k:NH K' K''):NH K K'':=⟨k.1.trans h.1,k.2.1.trans h.2.1,k.2.2.trans h.2.2⟩
theorem Q9(p:Nat):NH K (rdK K p).1:=by
 unfold rdK;simp only;split <;> exact⟨rfl,rfl,rfl⟩
theorem ij(o:Nat):NH K (coK K o).1:=by
 unfold coK;simp only;split
 ·exact NH.refl K
 ·split
  ·exact Q9 K _
  ·split
   ·exact Q9 K _
   ·split <;> exact Q9 K _
theorem Xy(S:Bm)(o:Nat):NH K (tiK K S o).1:=by
 unfold tiK;split
 ·exact NH.refl K
 ·split
  ·exact NH.refl K
  ·exact⟨rfl,rfl,rfl⟩
theorem ik(t:CP)(D:List Nat):NH K (prK K t D).1:=by
 unfold prK;generalize prF K.tl K.s K.r t D=z;exact⟨rfl,rfl,rfl⟩
theorem il(t:CP)(D:List Nat):NH K (prM K t D).1:=by
 unfold prM;split
 ·exact NH.refl K
 ·exact ik K t D
def Sm (S S':Bm):Prop:=S'.fm=S.fm/\S'.rt=S.rt/\S'.fd=S.fd
theorem Xz(S:Bm)(o:Nat):Sm S (tiK K S o).2.1/\(tiK K S o).2.1.ld=S.ld:=by
 unfold tiK;split
 ·exact⟨⟨rfl,rfl,rfl⟩,rfl⟩
 ·split
  ·exact⟨⟨rfl,rfl,rfl⟩,rfl⟩
  ·exact⟨⟨rfl,rfl,rfl⟩,rfl⟩
theorem LC{s:AC.St}(h:AC.Fl s){o:Nat}(hc:AC.nxC s o=0):(AC.nxV s o).toNat<96/\(o=24\/(AC.nxV s o).toNat % 8<6)/\(AC.nxV s o).toNat=s.k*8+s.i/\s.i<8:=by
 have h1:=h.1;have h2:AC.nxV s o=((s.k*8+s.i:Nat):Int):=by unfold AC.nxV;rw[AJ hc]
 have h3:=AC.fI hc;rw[h2,AP];refine⟨om,?_,rfl,h3⟩;unfold AC.nxC at hc;split at hc
 ·cases hc
 ·split at hc
  ·cases hc
  ·split at hc
   ·rename_i e;rcases e.2 with e | e
    ·left;omega
    ·right;omega
   ·cases hc
theorem MB(S:Bm)(o:Nat)(hK:Wf K)(hS:AC.Fl S.tt)(hc:(tiK K S o).2.2.2=0):(tiK K S o).2.2.1<96/\(o=24\/(tiK K S o).2.2.1 % 8<6):=by
 unfold tiK at hc ⊢;split at hc
 ·rename_i e;rw[AJ e];have:=LC hS hc;exact⟨this.1,this.2.1⟩
 ·rename_i e;rw[AI e];split at hc
  ·cases hc
  ·rename_i e2;rw[AI e2];have:=LC (s:=⟨true,tkM K.F,0⟩) ⟨(LB K.F hK.frm).2,(by decide:0<9)⟩ hc;exact⟨this.1,this.2.1⟩
theorem X0{L:Nat->Int}{b:Nat}:∀ {k:Nat} {z:Int},z ∈ AB.ofK L b k->∃o:Nat,o<25/\z=o/\L o≠-1
 | 0,z,h=>by cases h
 | k+1,z,h=>by
  unfold AB.ofK at h
  rcases mem_append.1 h with h | h
  ·
   exact X0 h
  ·
   split at h
   ·
    cases h
   ·
    rename_i h6
    have e:z=AB.own L ((8*b+k:Nat):Int):=by simpa using h
    rcases AB.Dr L ((8*b+k:Nat):Int) with ⟨i,h1,h2,h3,_⟩ | ⟨h2,_⟩
    ·
     exact⟨i,h1,by rw[e,h2],by rw[h3];omega⟩
    ·
     exact absurd h2 h6
def Uo (l:List CP):Prop:=∀t ∈ l,t.o<25/\(1<=t.q/\t.q<=1099511627775)/\t.c<256
theorem Uo.app{l:List CP}(h:Uo l){t:CP}(ht:t.o<25/\(1<=t.q/\t.q<=1099511627775)/\t.c<256):Uo (l ++ [t]):=fun u hu=>by
 rcases mem_append.1 hu with hu | hu
 ·
  exact h u hu
 ·
  rw[show u=t by simpa using hu];exact ht
theorem ct(A:Ad)(w:Wd)(K:BH)(h:CoreAt A w K)(t:CP)(hp:t.p<96)(hf:t.o=24\/t.p % 8<6)(hT:t.o<25/\(1<=t.q/\t.q<=1099511627775)/\t.c<256)(c o cap:Nat)(D:List Nat)(hD:D.length=174)(bD:Bys D)(hA:At w c o D)(hcn:¬ Cor A c) :Calls prog 152 #[.pointer (some ⟨A.c,0,none⟩),.agg #[.int .i64 (t.p:Nat),.int .i64 (t.o:Nat),.int .i64 (t.q:Nat),.int .i64 (t.c:Nat),.bool t.l],.slice (some ⟨c,o,none⟩) 174 cap] w fun e w'=>e=.returned (errV (prM K t D).2)/\CoreAt A w' (prM K t D).1/\Chg (Cor A) w w':=by
 unfold prM;by_cases e:t.o=24/\t.l=true
 ·rw[AJ e];refine cj A w K h t hp (fun hm=>?_) c o cap;rcases hm.2 with ⟨_,k⟩ | ⟨k,_⟩
  ·rw[e.2] at k;cases k
  ·exact k (by rw[e.1];rfl)
 ·rw[AI e];refine Xi A w K h t ⟨⟨om,om,om,om⟩,?_⟩ c o cap D hD bD hA hcn;by_cases e2:t.o=24
  ·left;refine⟨om,?_⟩;cases hl:t.l
   ·rfl
   ·exact absurd ⟨e2,hl⟩ e
  ·right;refine⟨om,?_⟩;have:=hf.resolve_left e2;omega
end
section
variable {K:BH}
theorem Wf.mv'(h:Wf K)(z:Int):Wf { K with mv:=z }:=
 ⟨h.chip,h.rr,h.frm,h.map,h.vs,h.vp,h.vc,h.fl,h.nx,h.fr,h.cu,h.qu,h.hea,h.tl⟩
theorem lV(A:Ad)(K:BH)(z:Int)(j:Nat)(_:j<101)(_:j<83\/83+13<=j):upL (kc A K) 100 [.int .i64 z] j=kc A { K with mv:=z } j:=by
 rw[Br];by_cases e:j=100
 ·subst e;rfl
 ·rw[AI e];have e2:j<100:=om
  unfold kc;by_cases h0:j=0
  ·simp only[AJ h0]
  by_cases h1:j=1
  ·simp only[AI h0,AJ h1]
  by_cases h2:j=2
  ·simp only[AI h0,AI h1,AJ h2]
  by_cases h3:j<53
  ·simp only[AI h0,AI h1,AI h2,AJ h3]
  by_cases h4:j<77
  ·simp only[AI h0,AI h1,AI h2,AI h3,AJ h4]
  have:j=77\/j=78\/j=79\/j=80\/j=81\/j=82\/j=96\/j=97\/j=98\/j=99:=om
  rcases this with rfl | rfl | rfl | rfl | rfl | rfl | rfl | rfl | rfl | rfl <;> rfl
theorem CoreAt.setMv{A:Ad}{w:Wd}(h:CoreAt A w K)(z:Int):CoreAt A (w.setCell ⟨A.c,100,none⟩ (.int .i64 z)) { K with mv:=z }:=
 h.setCore { K with mv:=z } ⟨rfl,rfl,rfl,rfl,rfl,rfl,rfl,rfl,rfl⟩ (QB.ext (QB.set h.core 100 (.int .i64 z) om) (lV A K z)) ((Chg.refl (·=A.c) w).setCell (AK rfl) _ _) (h.wf.mv' z)
theorem X1(t:CP)(l:List CP)(K:BH):cmL (t :: l) K=if (layK K t).2≠0 then layK K t else cmL l (layK K t).1:=rfl
structure Cmi (A:Ad) (x n:Nat) (S:Bm) (v:Value) (r:List CP) (Z:BH × Nat) (w wr:Wd) (Ki:BH):Prop where
 eq:cmL r Ki=Z
 core:CoreAt A wr Ki
 sh:ShAt wr x S v
 lad:Lad wr n v S.ld
 chg:Chg (Cor A) w wr
theorem LD(A:Ad)(w:Wd)(K:BH)(h:CoreAt A w K)(x n:Nat)(S:Bm)(v:Value)(hS:ShAt w x S v)(hL:Lad w n v S.ld)(ok:AC.Fl S.tt)(hT:Uo S.ld)(hlen:S.ld.length<=1048576)(st:Int) :Calls prog 203 #[.pointer (some ⟨A.c,0,none⟩),.pointer (some ⟨x,0,none⟩),.int .i64 st] w fun e w'=>e=.returned (errV (cmK K S st).2)/\CoreAt A w' (cmK K S st).1/\Chg (Cor A) w w':=by
 obtain⟨d6,-⟩:=hS.cell 6 dc;replace d6:w.cell? ⟨x,6,none⟩=some v:=d6;have q:=CA;have g:=BQ;obtain⟨a,hx,rfl⟩:=hL.one;have HC:=BE h;have HS:=BE hS;have HL:=BE hL;have HT:=BE hT;have C3:=BE ok;obtain⟨m,HM⟩:∃m,Hid (m=S.ld.length):=⟨_,rfl⟩;have HF:Hid (cmK K S st=if (cmL S.ld K).2≠0 then cmL S.ld K else ({ (if S.tt.o then stK { clK (stK (lvK (cmL S.ld K).1 S.fm) S.fm st) with fr:=S.tt } S.tt.k 1 else stK (lvK (cmL S.ld K).1 S.fm) S.fm st) with mv:=wrap64 ((if S.tt.o then stK { clK (stK (lvK (cmL S.ld K).1 S.fm) S.fm st) with fr:=S.tt } S.tt.k 1 else stK (lvK (cmL S.ld K).1 S.fm) S.fm st).mv+S.ld.length) },0)):=rfl;obtain⟨Z,HZ⟩:∃Z,Hid (cmL S.ld K=Z):=⟨_,rfl⟩;rw[HZ.out] at HF;rw[<-HM.out] at d6 HF;rw[<-HM.out] at HS HL;have K':m<=1048576:=by rw[HM.out];exact hlen
 clear h hS hL ok hT hlen;go_enter func203,ntmps203;go_wp2_with fail
 go_loopg [16] m (fun kx s16 wr=>∃i:Nat,s16=.int .i64 i/\i<=m/\m - i<=kx/\∃Ki,Hid (Cmi A x n S (.slice a m hx) (S.ld.drop i) Z w wr Ki))
 case atStart=>exact⟨0,rfl,om,om,K,⟨HZ.out,HC.out,HS.out,HL.out,Chg.refl _ _⟩⟩
 case round=>
  obtain⟨i,rfl,be,xs,Ki,HI⟩:=hrel;by_cases C5:i<m
  ·have B':(i:Int)<(m:Int):=om;obtain⟨t,ht⟩:∃t,S.ld[i]?=some t:=⟨_,AU (by have:=HM.out;omega)⟩;obtain⟨gg,G1,hv,h1,it⟩:=HI.out.lad.at_ ht;obtain⟨rfl,-,-⟩:a=some ⟨gg,0,none⟩/\m=S.ld.length/\hx=G1:=by simpa using hv
   have HE:Hid (cmL (t :: S.ld.drop (i+1)) Ki=Z):=by
    have e:=HI.out.eq;rw[drop_eq_getElem_cons (by have:=HM.out;omega),(List.getElem?_eq_some_iff.1 ht).2] at e;exact e
   have hc:=HT.out t (mem_of_getElem? ht);have r0:=it 0 _ rfl;have r1:=it 1 _ rfl;have r2:=it 2 _ rfl;have r3:=it 3 _ rfl;have r4:=it 4 _ rfl;rw[Nat.add_zero] at r0;have GA:Chg No wr (wr.alloc (.cells #[.int .i64 (t.p:Nat),.int .i64 (t.o:Nat),.int .i64 (t.q:Nat),.int .i64 (t.c:Nat),.bool t.l] 130)):=(Chg.refl _ wr).alloc _;have f9:=fK A _ Ki (HI.out.core.chg0 GA) t hc.1 hc.2.1 hc.2.2;have oi:=IL;have oa:=BE GA;clear ht hv h1 it hc GA;go_wp2_with fail;refine f9.mono ?_;rintro e w2 ⟨rfl,k2,g2⟩;have G2:=(Chg.cor0 (A:=A) oa).trans g2;have h0:=BE k2;have hk:=BE (HI.out.sh.chg G2 (HI.out.core.apartSh HI.out.sh));have x0:=BE (HI.out.lad.chg G2 (HI.out.lad.noCor HI.out.core));have ar:=BE (HI.out.chg.trans G2);have La:=HE.out;rw[X1] at La;generalize layK Ki t=P at *
   clear f9 k2 g2 G2 HE HI r0 r1 r2 r3 r4 oi oa;by_cases hp:P.2=0
   ·rw[AI (by rw[hp];simp)] at La;have x2:Hid (Cmi A x n S (.slice (some ⟨gg,0,none⟩) m hx) (S.ld.drop (i+1)) Z w w2 P.1):=⟨La,h0.out,hk.out,x0.out,ar⟩;rw[hp];clear hp La h0 hk x0 ar;go_wp2
    go_roundg (m - (i+1))
    case measure=>omega
    case rel=>exact⟨i+1,by simp,om,AM _,P.1,x2⟩
   ·rw[AJ hp] at La;have o1:=BE La;have HP:=BE hp;replace q:∀w,(binOp .neq 46 (errV P.2) .nilIface).run prog w=.ok (.bool true) w:=fun w=>by rw[q,AN hp];rfl
    clear hp La;go_wp2;go_ret;rw[HF.out,<-o1.out,AJ HP.out];exact⟨rfl,h0.out,ar⟩
  ·have B':¬ (i:Int)<(m:Int):=om;have o0:Hid (Z=(Ki,0)):=by
    have e:=HI.out.eq;rw[Ax (by have:=HM.out;omega)] at e;exact e.symm
   obtain⟨d0,-⟩:=HI.out.sh.cell 0 dc;replace d0:wr.cell? ⟨x,0,none⟩=some (.int .i64 (S.fm:Nat)):=d0;have t7:=II A wr Ki HI.out.core (S.fm:Nat);have kd:=BE (HI.out.core.apartSh HI.out.sh);have qa:=BE HI.out.sh;have hi:=BE HI.out.chg;clear HI;go_wp2_with fail;refine t7.mono ?_;rintro e w2 ⟨rfl,k2,g2⟩;have S2:=qa.out.chg g2 kd;obtain⟨e0,-⟩:=S2.cell 0 dc;replace e0:w2.cell? ⟨x,0,none⟩=some (.int .i64 (S.fm:Nat)):=e0;have ha:=PO A w2 _ k2 (S.fm:Nat) st;have hk:=BE S2;have ar:=BE (hi.out.trans g2);clear t7 k2 g2 S2 d0 qa hi;go_wp2_with fail;refine ha.mono ?_;rintro e w3 ⟨rfl,k3,g3⟩;have h6:Hid (cmK K S st=({ (if S.tt.o then stK { clK (stK (lvK Ki S.fm) S.fm st) with fr:=S.tt } S.tt.k 1 else stK (lvK Ki S.fm) S.fm st) with mv:=wrap64 ((if S.tt.o then stK { clK (stK (lvK Ki S.fm) S.fm st) with fr:=S.tt } S.tt.k 1 else stK (lvK Ki S.fm) S.fm st).mv+m) },0)):=by
    show cmK K S st=_;rw[HF.out,o0.out];rfl
   clear HF;generalize stK (lvK Ki S.fm) S.fm st=K3 at *
   have S3:=hk.out.chg g3 kd;have no:=AC.D4 w3 x 144 7 _ 3 S.tt S3.front;unfold AC.blV at no;have hg:=BE k3;have p2:=BE S3;have f1:=BE (ar.out.trans g3);clear ha k3 g3 e0 S3 hk ar;cases ho:S.tt.o
   ·rw[ho] at no;replace no:Calls prog 96 #[.pointer (some ⟨x,3,none⟩)] w3 fun e w'=>e=.returned (.int .i64 (-1))/\w'=w3:=no;have f2:Hid (cmK K S st=({ K3 with mv:=wrap64 (K3.mv+m) },0)):=by
     show cmK K S st=_;rw[h6.out,ho];rfl
    obtain⟨e6,-⟩:=p2.out.cell 6 dc;replace e6:w3.cell? ⟨x,6,none⟩=some (.slice a m hx):=e6;obtain⟨w1,h2⟩:=hg.out.cMv;have C4:IntKind.i64.wrap (K3.mv+(m:Int))=wrap64 (K3.mv+(m:Int)):=(by rw[IntKind.wrap_i64];unfold wrap64;rfl);clear ho h6;generalize wrap64 (K3.mv+(m:Int))=zz at *
    go_wp2_with (go_at_call 96;refine no.mono ?_;rintro e w3 ⟨rfl,rfl⟩);go_region
    all_goals
     go_wp2;go_ret;rw[f2.out];exact⟨rfl,(hg.out.setMv zz).drewN 1,(f1.out.trans (Chg.cor_c ((Chg.refl (·=A.c) _).setCell (AK rfl) _ _))).drewN 1⟩
   ·rw[ho] at no;replace no:Calls prog 96 #[.pointer (some ⟨x,3,none⟩)] w3 fun e w'=>e=.returned (.int .i64 (S.tt.k:Nat))/\w'=w3:=no;have f2:Hid (cmK K S st=({ stK { clK K3 with fr:=S.tt } S.tt.k 1 with mv:=wrap64 ((stK { clK K3 with fr:=S.tt } S.tt.k 1).mv+m) },0)):=by
     show cmK K S st=_;rw[h6.out,ho];rfl
    have hz:(((S.tt.k:Nat):Int) == -1)=false:=(by simp);have f4:=IH A w3 K3 hg;clear ho h6;go_wp2_with (go_at_call 96;refine no.mono ?_;rintro e w3 ⟨rfl,rfl⟩);refine f4.mono ?_;rintro e w4 ⟨rfl,k4,g4⟩;have S4:=p2.out.chg g4 kd;obtain⟨e3,-⟩:=S4.cell 3 dc;obtain⟨e4,-⟩:=S4.cell 4 dc;obtain⟨e5,-⟩:=S4.cell 5 dc;replace e3:w4.cell? ⟨x,3,none⟩=some (.bool S.tt.o):=e3;replace e4:w4.cell? ⟨x,4,none⟩=some (.int .i64 (S.tt.k:Nat)):=e4;replace e5:w4.cell? ⟨x,5,none⟩=some (.int .i64 (S.tt.i:Nat)):=e5;generalize clK K3=K4 at *
    obtain⟨f,hf,Fg⟩:=QB.front k4.core;have f6:=BE hf;have G3:=BE Fg;have f8:=BE k4;have f7:=BE S4;have f5:=BE (f1.out.trans g4);clear no f4 k4 g4 S4 hf Fg hg p2 f1;go_wp2_with (refine AC.Cb rfl (.tmp 54) (.tmp 52) rfl A.c 79 rfl S.tt rfl f6 ?_);intro w5 F5 G5;have K5:=f8.out.setFr (G3.out w5 _ F5) G5 C3;have ha:=PO A w5 _ K5 (S.tt.k:Nat) 1;have f3:=BE (f7.out.chg (Chg.cor_c (A:=A) G5) kd);have x1:=BE (f5.out.trans (Chg.cor_c G5));clear F5 G5 K5 e3 e4 e5 f6 G3 f8 f7 f5;go_wp2_with fail;refine ha.mono ?_;rintro e w6 ⟨rfl,k6,g6⟩;generalize stK { K4 with fr:=S.tt } S.tt.k 1=K6 at *
    have S6:=f3.out.chg g6 kd;obtain⟨e6,-⟩:=S6.cell 6 dc;replace e6:w6.cell? ⟨x,6,none⟩=some (.slice a m hx):=e6;obtain⟨w1,h2⟩:=k6.cMv;have C4:IntKind.i64.wrap (K6.mv+(m:Int))=wrap64 (K6.mv+(m:Int)):=(by rw[IntKind.wrap_i64];unfold wrap64;rfl);have o2:=BE k6;have L3:=BE (x1.out.trans g6);clear ha k6 g6 S6 f3 x1;generalize wrap64 (K6.mv+(m:Int))=zz at *
    go_wp2_with fail;go_region
    all_goals
     go_wp2;go_ret;rw[f2.out];exact⟨rfl,(o2.out.setMv zz).drewN 1,(L3.out.trans (Chg.cor_c ((Chg.refl (·=A.c) _).setCell (AK rfl) _ _))).drewN 1⟩
end
end Go.Proofs.YtmdpnpjacfedpaaGreat
