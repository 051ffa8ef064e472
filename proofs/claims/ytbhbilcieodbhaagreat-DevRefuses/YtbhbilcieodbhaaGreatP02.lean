/-
  The document's Message, Data and Body of a page (patinaref06), and an error's number (patinalaw00.Code). Condition: the page's bytes can be read. What Message, Data and Body answer of a page, told once for the program and for the document: bytes, a number, an error's number. Condition: the page's bytes can be read.
-/
import Derived.Test.YtbhbilcieodbhaaGreatP01
import Derived.Test.YtbhbilcieodbhaaGreatP00
import Derived.Deep.RegionWith
import Derived.Deep.RegionLaw
import Derived.Deep.AppendLies
import Derived.Laws.ByValue
import Derived.Laws.Build
import Derived.Laws.ResultCell
import Derived.Laws.StructEq
import Derived.WideShapes
import Derived.ChangeArms
import Derived.OpenShut
import Derived.ProofKit
import Derived.Laws.OwnMore
import Derived.Laws.BytesArg
import Derived.Deep.MidRow
import Derived.Laws.LoneSync
namespace Go.Proofs.YtbhbilcieodbhaaGreat
open Go.RowKit
set_option maxRecDepth 100000
def errV (c:Nat):Value:=if c=0 then .nilIface else .iface 56 (.int .i64 (c:Int))
end Go.Proofs.YtbhbilcieodbhaaGreat
namespace Go.Proofs.YtbhbilcieodbhaaGreat
open Go.RowKit
set_option maxRecDepth 100000
def MsgR (L:List Nat) (k:Int) (R:List Nat) (d c:Nat):Prop:=
 (¬ (L.length=256/\0<=k/\k<=3)/\R=[]/\d=0/\c=1) \/
 (∃ i:Nat,i<4/\k=i/\L.length=256/\((IsDec (part 64 L i) none/\R=[]/\d=0/\c=5)\/(Good L i (R,d)/\c=0)))
def DatR (L:List Nat) (R:List Nat) (d c:Nat):Prop:=
 (L.length≠256/\R=[]/\d=0/\c=1) \/
 (L.length=256/\(∃ i,i<3/\IsDec (part 64 L i) none)/\R=[]/\d=0/\c=5) \/
 (L.length=256/\∃ r0 r1 r2:List Nat × Nat,Good L 0 r0/\Good L 1 r1/\Good L 2 r2/\R=r0.1 ++ r1.1 ++ r2.1/\d=max (max r0.2 r1.2) r2.2/\c=0)
def BodR (L:List Nat) (R:List Nat) (d c:Nat):Prop:=
 (L.length≠256/\R=[]/\d=0/\c=1) \/
 (L.length=256/\IsDec (part 64 L 3) none/\R=[]/\d=0/\c=5) \/
 (L.length=256/\∃ r:List Nat × Nat,Good L 3 r/\((r.1.drop 50≠mk/\R=[]/\d=0/\c=6)\/(r.1.drop 50=mk/\R=r.1.take 50/\d=r.2/\c=0)))
theorem Good.unique {L:List Nat} {i:Nat} {r r':List Nat × Nat} (h:Good L i r) (h':Good L i r'):r=r':=Option.some.inj (h.1.unique h'.1)
theorem Good.not_none {L:List Nat} {i:Nat} {r:List Nat × Nat} (h:Good L i r) (h':IsDec (part 64 L i) none):False:=by
 have:=h.1.unique h'
 cases this
theorem MsgR.unique {L:List Nat} {k:Int} {R R':List Nat} {d c d' c':Nat} (h:MsgR L k R d c) (h':MsgR L k R' d' c'):R=R'/\d=d'/\c=c':=by
 rcases h with ⟨h1,rfl,rfl,rfl⟩ | ⟨i,hi,hk,hl,h⟩
 ·
  rcases h' with ⟨_,rfl,rfl,rfl⟩ | ⟨i,hi,hk,hl,_⟩
  ·
   exact⟨rfl,rfl,rfl⟩
  ·
   exact(h1 ⟨hl,by omega,by omega⟩).elim
 ·
  rcases h' with ⟨h1,_⟩ | ⟨i',hi',hk',hl',h'⟩
  ·
   exact(h1 ⟨hl,by omega,by omega⟩).elim
  ·
   have e:i'=i:=by omega
   subst e
   rcases h with ⟨h1,rfl,rfl,rfl⟩ | ⟨h1,rfl⟩ <;> rcases h' with ⟨h2,rfl,rfl,rfl⟩ | ⟨h2,rfl⟩
   ·
    exact⟨rfl,rfl,rfl⟩
   ·
    exact(h2.not_none h1).elim
   ·
    exact(h1.not_none h2).elim
   ·
    have e:=h1.unique h2
    simp only[Prod.mk.injEq] at e
    exact⟨e.1,e.2,rfl⟩
theorem DatR.unique {L:List Nat} {R R':List Nat} {d c d' c':Nat} (h:DatR L R d c) (h':DatR L R' d' c'):R=R'/\d=d'/\c=c':=by
 have nn:∀ {r0 r1 r2:List Nat × Nat} {i:Nat},Good L 0 r0->Good L 1 r1->Good L 2 r2->i<3->IsDec (part 64 L i) none->False:=fun {r0 r1 r2 i} g0 g1 g2 hi hn=>by
  have:i=0\/i=1\/i=2:=by omega
  rcases this with rfl | rfl | rfl
  ·
   exact g0.not_none hn
  ·
   exact g1.not_none hn
  ·
   exact g2.not_none hn
 rcases h with ⟨h1,rfl,rfl,rfl⟩ | ⟨h1,⟨i,hi,hn⟩,rfl,rfl,rfl⟩ | ⟨h1,r0,r1,r2,g0,g1,g2,rfl,rfl,rfl⟩ <;> rcases h' with ⟨h2,rfl,rfl,rfl⟩ | ⟨h2,⟨i',hi',hn'⟩,rfl,rfl,rfl⟩ | ⟨h2,r0',r1',r2',g0',g1',g2',rfl,rfl,rfl⟩
 ·
  exact⟨rfl,rfl,rfl⟩
 ·
  exact(h1 h2).elim
 ·
  exact(h1 h2).elim
 ·
  exact(h2 h1).elim
 ·
  exact⟨rfl,rfl,rfl⟩
 ·
  exact(nn g0' g1' g2' hi hn).elim
 ·
  exact(h2 h1).elim
 ·
  exact(nn g0 g1 g2 hi' hn').elim
 ·
  have e0:=g0.unique g0'
  have e1:=g1.unique g1'
  have e2:=g2.unique g2'
  subst e0 e1 e2
  exact⟨rfl,rfl,rfl⟩
theorem BodR.unique {L:List Nat} {R R':List Nat} {d c d' c':Nat} (h:BodR L R d c) (h':BodR L R' d' c'):R=R'/\d=d'/\c=c':=by
 rcases h with ⟨h1,rfl,rfl,rfl⟩ | ⟨h1,hn,rfl,rfl,rfl⟩ | ⟨h1,r,g,h⟩ <;> rcases h' with ⟨h2,rfl,rfl,rfl⟩ | ⟨h2,hn',rfl,rfl,rfl⟩ | ⟨h2,r',g',h'⟩
 ·
  exact⟨rfl,rfl,rfl⟩
 ·
  exact(h1 h2).elim
 ·
  exact(h1 h2).elim
 ·
  exact(h2 h1).elim
 ·
  exact⟨rfl,rfl,rfl⟩
 ·
  exact(g'.not_none hn).elim
 ·
  exact(h2 h1).elim
 ·
  exact(g.not_none hn').elim
 ·
  have e:=g.unique g'
  subst e
  rcases h with ⟨h3,rfl,rfl,rfl⟩ | ⟨h3,rfl,rfl,rfl⟩ <;> rcases h' with ⟨h4,rfl,rfl,rfl⟩ | ⟨h4,rfl,rfl,rfl⟩
  ·
   exact⟨rfl,rfl,rfl⟩
  ·
   exact(h3 h4).elim
  ·
   exact(h4 h3).elim
  ·
   exact⟨rfl,rfl,rfl⟩
def IsCode (c:Nat):Prop:=c=0\/c=1\/c=5\/c=6
theorem MsgR.code {L:List Nat} {k:Int} {R:List Nat} {d c:Nat} (h:MsgR L k R d c):IsCode c/\R.length<=58/\d<=2:=by
 rcases h with ⟨_,rfl,rfl,rfl⟩ | ⟨i,_,_,_,⟨_,rfl,rfl,rfl⟩ | ⟨h,rfl⟩⟩
 ·
  exact⟨by simp[IsCode],by simp,by omega⟩
 ·
  exact⟨by simp[IsCode],by simp,by omega⟩
 ·
  exact⟨by simp[IsCode],Nat.le_of_eq h.2.1,h.2.2.2⟩
theorem DatR.code {L:List Nat} {R:List Nat} {d c:Nat} (h:DatR L R d c):IsCode c/\R.length<=174/\d<=2:=by
 rcases h with ⟨_,rfl,rfl,rfl⟩ | ⟨_,_,rfl,rfl,rfl⟩ | ⟨_,r0,r1,r2,g0,g1,g2,rfl,rfl,rfl⟩
 ·
  exact⟨by simp[IsCode],by simp,by omega⟩
 ·
  exact⟨by simp[IsCode],by simp,by omega⟩
 ·
  have h0:=g0.2.1
  have h1:=g1.2.1
  have h2:=g2.2.1
  have k0:=g0.2.2.2
  have k1:=g1.2.2.2
  have k2:=g2.2.2.2
  exact⟨by simp[IsCode],by simp only[List.length_append];omega,by omega⟩
theorem BodR.code {L:List Nat} {R:List Nat} {d c:Nat} (h:BodR L R d c):IsCode c/\R.length<=50/\d<=2:=by
 rcases h with ⟨_,rfl,rfl,rfl⟩ | ⟨_,_,rfl,rfl,rfl⟩ | ⟨_,r,g,⟨_,rfl,rfl,rfl⟩ | ⟨_,rfl,rfl,rfl⟩⟩
 ·
  exact⟨by simp[IsCode],by simp,by omega⟩
 ·
  exact⟨by simp[IsCode],by simp,by omega⟩
 ·
  exact⟨by simp[IsCode],by simp,by omega⟩
 ·
  exact⟨by simp[IsCode],by simp;omega,g.2.2.2⟩
def PAns (w':World) (base:Nat) (Q:List Nat->Nat->Nat->Prop) (e:Ending):Prop:=
 ∃ (a:Option Addr) (n cap:Nat) (R:List Nat) (d c:Nat),e=.returned (.tuple #[.slice a n cap,.int .i64 (d:Int),errV c])/\n=R.length/\Q R d c/\OwnT w' base 5 (.slice a n cap) R
theorem ownT_nil (w:World) (base:Nat):OwnT w base 5 (.slice none 0 0) []:=Or.inl (Own.nil w base 5)
theorem message_v (p q b:Nat) (w:World) (h:Frm w p q b) (c o n cap:Nat) (L:List Nat) (hn:n=L.length) (bL:Bys L) (hcb:c≠b) (hcs:c<w.heap.size) (hcap:n<=cap) (hh:Held w (.slice (some ⟨c,o,none⟩) n cap) L) (k:Int) :
 Calls Tryz.prog 196 #[.pointer (some ⟨p,0,none⟩),.slice (some ⟨c,o,none⟩) n cap,.int .i64 k] w fun e w'=>PAns w' w.heap.size (MsgR L k) e/\Frm w' p q b/\But b w w':=by
 by_cases h256:L.length=256
 ·
  have e:n=256:=by omega
  subst e
  have hcell:=(held_cells hh (by omega)).2
  refine(message_any p q b w h c o cap L h256 bL hcb hcs (by omega) (fun i hi=>hcell i (by omega)) k).mono ?_
  rintro e w' ⟨hA,F,B⟩
  refine⟨?_,F,B⟩
  rcases hA with ⟨i,hi,hk,⟨hN,rfl⟩ | ⟨m,d,g,h1,h2,h3,h4,rfl,h6,h7⟩⟩ | ⟨hk,rfl⟩
  ·
   exact⟨none,0,0,[],0,5,rfl,rfl,Or.inr ⟨i,hi,hk,h256,Or.inl ⟨hN,rfl,rfl,rfl⟩⟩,ownT_nil _ _⟩
  ·
   exact⟨_,58,58,m,d,0,rfl,h3.symm,Or.inr ⟨i,hi,hk,h256,Or.inr ⟨⟨h1,h3,h4,h2⟩,rfl⟩⟩,h7.own h6 58 h3.symm (by decide)⟩
  ·
   exact⟨none,0,0,[],0,1,rfl,rfl,Or.inl ⟨fun h=>hk h.2,rfl,rfl,rfl⟩,ownT_nil _ _⟩
 ·
  refine(message_arg p w _ n cap k (by omega)).mono ?_
  rintro e w' ⟨rfl,G⟩
  exact⟨⟨none,0,0,[],0,1,rfl,rfl,Or.inl ⟨fun h=>h256 h.1,rfl,rfl,rfl⟩,ownT_nil _ _⟩,h.chg G,G.but⟩
theorem data_v (p q b:Nat) (w:World) (h:Frm w p q b) (c o n cap:Nat) (L:List Nat) (hn:n=L.length) (bL:Bys L) (hcb:c≠b) (hcs:c<w.heap.size) (hcap:n<=cap) (hh:Held w (.slice (some ⟨c,o,none⟩) n cap) L) :
 Calls Tryz.prog 168 #[.pointer (some ⟨p,0,none⟩),.slice (some ⟨c,o,none⟩) n cap] w fun e w'=>PAns w' w.heap.size (DatR L) e/\Frm w' p q b/\But b w w':=by
 by_cases h256:L.length=256
 ·
  have e:n=256:=by omega
  subst e
  have hcell:=(held_cells hh (by omega)).2
  refine(data_any p q b w h c o cap L h256 bL hcb hcs (by omega) (fun i hi=>hcell i (by omega))).mono ?_
  rintro e w' ⟨hA,F,B⟩
  refine⟨?_,F,B⟩
  rcases hA with ⟨i,hi,hN,rfl⟩ | ⟨r0,r1,r2,a,cap',g0,g1,g2,rfl,O⟩
  ·
   exact⟨none,0,0,[],0,5,rfl,rfl,Or.inr (Or.inl ⟨h256,⟨i,hi,hN⟩,rfl,rfl,rfl⟩),ownT_nil _ _⟩
  ·
   have hl:(r0.1 ++ r1.1 ++ r2.1).length=174:=by
    have h0:=g0.2.1
    have h1:=g1.2.1
    have h2:=g2.2.1
    simp only[List.length_append];omega
   exact⟨a,174,cap',_,_,0,rfl,hl.symm,Or.inr (Or.inr ⟨h256,r0,r1,r2,g0,g1,g2,rfl,rfl,rfl⟩),O.t⟩
 ·
  refine(data_arg p w _ n cap (by omega)).mono ?_
  rintro e w' ⟨rfl,G⟩
  exact⟨⟨none,0,0,[],0,1,rfl,rfl,Or.inl ⟨h256,rfl,rfl,rfl⟩,ownT_nil _ _⟩,h.chg G,G.but⟩
theorem body_v (p q b:Nat) (w:World) (h:Frm w p q b) (c o n cap:Nat) (L:List Nat) (hn:n=L.length) (bL:Bys L) (hcb:c≠b) (hcs:c<w.heap.size) (hcap:n<=cap) (hh:Held w (.slice (some ⟨c,o,none⟩) n cap) L) :
 Calls Tryz.prog 197 #[.pointer (some ⟨p,0,none⟩),.slice (some ⟨c,o,none⟩) n cap] w fun e w'=>PAns w' w.heap.size (BodR L) e/\Frm w' p q b/\But b w w':=by
 by_cases h256:L.length=256
 ·
  have e:n=256:=by omega
  subst e
  have hcell:=(held_cells hh (by omega)).2
  refine(body_any p q b w h c o cap L h256 bL hcb hcs (by omega) (fun i hi=>hcell i (by omega))).mono ?_
  rintro e w' ⟨hA,F,B⟩
  refine⟨?_,F,B⟩
  rcases hA with ⟨hN,rfl⟩ | ⟨r,g,hm,rfl⟩ | ⟨r,gg,g,hm,rfl,hg,A⟩
  ·
   exact⟨none,0,0,[],0,5,rfl,rfl,Or.inr (Or.inl ⟨h256,hN,rfl,rfl,rfl⟩),ownT_nil _ _⟩
  ·
   exact⟨none,0,0,[],0,6,rfl,rfl,Or.inr (Or.inr ⟨h256,r,g,Or.inl ⟨hm,rfl,rfl,rfl⟩⟩),ownT_nil _ _⟩
  ·
   have hrl:=g.2.1
   exact⟨_,50,50,r.1.take 50,r.2,0,rfl,by rw[List.length_take,hrl];rfl,Or.inr (Or.inr ⟨h256,r,g,Or.inr ⟨hm,rfl,rfl,rfl⟩⟩),A.tight hg 50 (by omega) (by decide)⟩
 ·
  refine(body_arg p w _ n cap (by omega)).mono ?_
  rintro e w' ⟨rfl,G⟩
  exact⟨⟨none,0,0,[],0,1,rfl,rfl,Or.inl ⟨h256,rfl,rfl,rfl⟩,ownT_nil _ _⟩,h.chg G,G.but⟩
end Go.Proofs.YtbhbilcieodbhaaGreat
/-
  What lies in a page that Lay laid, and what is read of it behind damage: mathematics. No condition. FrameBlank, walked: of a tag's chunk of which at most 4 bytes are not ff no body is read. Condition: the bytes and the turns came in as slices do.
-/
namespace Go.Proofs.YtbhbilcieodbhaaGreat
open Go.RowKit
set_option maxRecDepth 100000
theorem dec_told {x c:List Nat} {r:Option (List Nat × Nat)} (h:IsDec x r) (hc:Cw c) (h2:2<ds x c) (h4:ds x c<=4):r=none:=by
 rcases h with ⟨h,-⟩ | ⟨c',hc',he,hd⟩
 ·
  exact h
 ·
  exfalso
  have h1:ds c' c<=6:=by
   have:=ds_tri c' x c
   rw[ds_comm c' x] at this
   omega
  have e:=cw_unique hc' hc h1
  rw[e] at hd
  omega
def flat (F:Nat->List Nat) (k:Nat):List Nat:=((List.range k).map F).flatten
theorem flat_succ (F:Nat->List Nat) (k:Nat):flat F (k+1)=flat F k ++ F k:=by simp[flat,List.range_succ]
theorem flat_length {F:Nat->List Nat} {z:Nat}:∀ k,(∀ i,i<k->(F i).length=z)->(flat F k).length=k*z:=by
 intro k
 induction k with
 | zero=>intro _;simp[flat]
 | succ k ih=>
  intro h
  rw[flat_succ,List.length_append,ih (fun i hi=>h i (by omega)),h k (by omega),Nat.add_mul,Nat.one_mul]
theorem part_flat {F:Nat->List Nat} {z:Nat}:∀ k,(∀ i,i<k->(F i).length=z)->∀ i,i<k->part z (flat F k) i=F i:=by
 intro k
 induction k with
 | zero=>intro _ i hi;omega
 | succ k ih=>
  intro h i hi
  have hl:=flat_length k (fun i hi=>h i (by omega))
  rw[flat_succ]
  by_cases hk:i<k
  ·
   rw[<-ih (fun i hi=>h i (by omega)) i hk]
   have h1:(i+1)*z<=k*z:=Nat.mul_le_mul_right z hk
   rw[Nat.add_mul,Nat.one_mul] at h1
   simp only[part]
   rw[List.drop_append_of_le_length (by omega),List.take_append_of_le_length (by rw[List.length_drop];omega)]
  ·
   have e:i=k:=by omega
   subst e
   simp only[part]
   rw[List.drop_append,List.drop_eq_nil_of_le (by omega),hl,Nat.sub_self,List.drop_zero,List.nil_append,List.take_of_length_le (by rw[h i (by omega)];exact Nat.le_refl _)]
def msgOf (Dt Z:List Nat):List Nat:=Dt ++ (Z ++ mk)
theorem msg_length {Dt Z:List Nat} (hD:Dt.length=174) (hZ:Z.length=50):(msgOf Dt Z).length=4*58:=by
 simp[msgOf,hD,hZ,mk_length]
theorem msg_bys {Dt Z:List Nat} (hD:Bys Dt) (hZ:Bys Z):Bys (msgOf Dt Z):=by
 intro x hx
 rcases List.mem_append.1 hx with h1 | h1
 ·
  exact hD x h1
 ·
  rcases List.mem_append.1 h1 with h2 | h2
  ·
   exact hZ x h2
  ·
   exact mk_bys x h2
theorem msg_data {Dt Z:List Nat} (hD:Dt.length=174):part 58 (msgOf Dt Z) 0 ++ part 58 (msgOf Dt Z) 1 ++ part 58 (msgOf Dt Z) 2=Dt:=by
 have e:∀ i,i<3->part 58 (msgOf Dt Z) i=(Dt.drop (i*58)).take 58:=fun i hi=>by
  simp only[part,msgOf]
  rw[List.drop_append_of_le_length (by omega),List.take_append_of_le_length (by simp;omega)]
 rw[e 0 (by omega),e 1 (by omega),e 2 (by omega)]
 simp only[Nat.zero_mul,List.drop_zero,Nat.one_mul]
 have h1:Dt=Dt.take 58 ++ Dt.drop 58:=(List.take_append_drop 58 Dt).symm
 have h2:Dt.drop 58=(Dt.drop 58).take 58 ++ (Dt.drop 58).drop 58:=(List.take_append_drop 58 _).symm
 rw[List.drop_drop] at h2
 have h3:(Dt.drop (2*58)).take 58=Dt.drop (58+58):=by rw[List.take_of_length_le (by simp;omega)]
 rw[h3,List.append_assoc,<-h2,<-h1]
theorem msg_body {Dt Z:List Nat} (hD:Dt.length=174) (hZ:Z.length=50):part 58 (msgOf Dt Z) 3=Z ++ mk:=by
 simp only[part,msgOf]
 rw[List.drop_append,List.drop_eq_nil_of_le (by omega),hD,List.nil_append,show 3*58 - 174=0 from rfl,List.drop_zero,List.take_of_length_le (by rw[List.length_append,hZ,mk_length];omega)]
def wordOf (Dt Z:List Nat) (i:Nat):List Nat:=encL (part 58 (msgOf Dt Z) i)
theorem word_cw {Dt Z:List Nat} (hD:Dt.length=174) (bD:Bys Dt) (hZ:Z.length=50) (bZ:Bys Z) (i:Nat) (hi:i<4):Cw (wordOf Dt Z i):=
 encL_cw (part_length (msg_length hD hZ) i hi) (part_bys (msg_bys bD bZ) i)
theorem word_take {Dt Z:List Nat} (hD:Dt.length=174) (hZ:Z.length=50) (i:Nat) (hi:i<4):(wordOf Dt Z i).take 58=part 58 (msgOf Dt Z) i:=
 encL_take (part_length (msg_length hD hZ) i hi)
def hurt (Dt Z X:List Nat) (i:Nat):Nat:=ds (part 64 X i) (wordOf Dt Z i)
theorem good_hurt {Dt Z X:List Nat} (hD:Dt.length=174) (bD:Bys Dt) (hZ:Z.length=50) (bZ:Bys Z) {i:Nat} (hi:i<4) (h2:hurt Dt Z X i<=2) {r:Option (List Nat × Nat)} (h:IsDec (part 64 X i) r):r=some (part 58 (msgOf Dt Z) i,hurt Dt Z X i):=by
 have:=h.of (word_cw hD bD hZ bZ i hi) h2
 rwa [word_take hD hZ i hi] at this
theorem mends_data {Dt Z X R:List Nat} {d c:Nat} (hD:Dt.length=174) (bD:Bys Dt) (hZ:Z.length=50) (bZ:Bys Z) (hX:X.length=256) (h:DatR X R d c)
 (h2:max (max (hurt Dt Z X 0) (hurt Dt Z X 1)) (hurt Dt Z X 2)<=2):R=Dt/\d=max (max (hurt Dt Z X 0) (hurt Dt Z X 1)) (hurt Dt Z X 2)/\c=0:=by
 rcases h with ⟨h,_⟩ | ⟨_,⟨i,hi,hn⟩,_⟩ | ⟨_,r0,r1,r2,g0,g1,g2,rfl,rfl,rfl⟩
 ·
  exact(h hX).elim
 ·
  have h3:hurt Dt Z X i<=2:=by
   have:i=0\/i=1\/i=2:=by omega
   rcases this with rfl | rfl | rfl <;> omega
  have:=good_hurt hD bD hZ bZ (by omega) h3 hn
  cases this
 ·
  have e0:=Option.some.inj (good_hurt hD bD hZ bZ (by omega) (show hurt Dt Z X 0<=2 by omega) g0.1)
  have e1:=Option.some.inj (good_hurt hD bD hZ bZ (by omega) (show hurt Dt Z X 1<=2 by omega) g1.1)
  have e2:=Option.some.inj (good_hurt hD bD hZ bZ (by omega) (show hurt Dt Z X 2<=2 by omega) g2.1)
  subst e0 e1 e2
  exact⟨msg_data hD,rfl,rfl⟩
theorem told_data {Dt Z X R:List Nat} {d c:Nat} (hD:Dt.length=174) (bD:Bys Dt) (hZ:Z.length=50) (bZ:Bys Z) (hX:X.length=256) (h:DatR X R d c)
 (h2:2<max (max (hurt Dt Z X 0) (hurt Dt Z X 1)) (hurt Dt Z X 2)) (h4:max (max (hurt Dt Z X 0) (hurt Dt Z X 1)) (hurt Dt Z X 2)<=4):R=[]/\d=0/\c=5:=by
 rcases h with ⟨h,_⟩ | ⟨_,_,rfl,rfl,rfl⟩ | ⟨_,r0,r1,r2,g0,g1,g2,_⟩
 ·
  exact(h hX).elim
 ·
  exact⟨rfl,rfl,rfl⟩
 ·
  exfalso
  have t:∀ i (r:List Nat × Nat),i<3->Good X i r->¬ (2<hurt Dt Z X i/\hurt Dt Z X i<=4):=fun i r hi g hh=>by
   have:=dec_told g.1 (word_cw hD bD hZ bZ i (by omega)) hh.1 hh.2
   cases this
  have t0:=t 0 r0 (by omega) g0
  have t1:=t 1 r1 (by omega) g1
  have t2:=t 2 r2 (by omega) g2
  omega
theorem mends_body {Dt Z X R:List Nat} {d c:Nat} (hD:Dt.length=174) (bD:Bys Dt) (hZ:Z.length=50) (bZ:Bys Z) (hX:X.length=256) (h:BodR X R d c)
 (h2:hurt Dt Z X 3<=2):R=Z/\d=hurt Dt Z X 3/\c=0:=by
 rcases h with ⟨h,_⟩ | ⟨_,hn,_⟩ | ⟨_,r,g,h⟩
 ·
  exact(h hX).elim
 ·
  have:=good_hurt hD bD hZ bZ (by omega) h2 hn
  cases this
 ·
  have e:=Option.some.inj (good_hurt hD bD hZ bZ (by omega) h2 g.1)
  subst e
  have em:=msg_body hD hZ
  rcases h with ⟨h1,_⟩ | ⟨_,rfl,rfl,rfl⟩
  ·
   refine(h1 ?_).elim
   show (part 58 (msgOf Dt Z) 3).drop 50=mk
   rw[em,List.drop_append,List.drop_eq_nil_of_le (by omega),hZ]
   rfl
  ·
   refine⟨?_,rfl,rfl⟩
   show (part 58 (msgOf Dt Z) 3).take 50=Z
   rw[em,List.take_append_of_le_length (by omega),List.take_of_length_le (by omega)]
theorem told_body {Dt Z X R:List Nat} {d c:Nat} (hD:Dt.length=174) (bD:Bys Dt) (hZ:Z.length=50) (bZ:Bys Z) (hX:X.length=256) (h:BodR X R d c)
 (h2:2<hurt Dt Z X 3) (h4:hurt Dt Z X 3<=4):R=[]/\d=0/\c=5:=by
 rcases h with ⟨h,_⟩ | ⟨_,hn,rfl,rfl,rfl⟩ | ⟨_,r,g,h⟩
 ·
  exact(h hX).elim
 ·
  exact⟨rfl,rfl,rfl⟩
 ·
  have:=dec_told g.1 (word_cw hD bD hZ bZ 3 (by omega)) h2 h4
  cases this
end Go.Proofs.YtbhbilcieodbhaaGreat
namespace Go.Proofs.YtbhbilcieodbhaaGreat
open Go.RowKit
set_option maxRecDepth 100000
def ff64:List Nat:=List.replicate 64 255
theorem ff_getD (i:Nat) (h:i<64):ff64.getD i 0=255:=by
 rw[ff64,List.getD_eq_getElem?_getD,List.getElem?_replicate,if_pos h];rfl
theorem wt_ge {f:Nat->Nat} {a:Nat}:∀ n,(∀ i,a<=i->i<a+n->f i≠0)->wt f a+n<=wt f (a+n):=by
 intro n
 induction n with
 | zero=>intro _;exact Nat.le_refl _
 | succ n ih=>
  intro h
  have h1:=ih (fun i h1 h2=>h i h1 (by omega))
  have h2:=h (a+n) (by omega) (by omega)
  show _<=wt f (a+n)+(if f (a+n)=0 then 0 else 1)
  rw[if_neg h2]
  omega
theorem wt_mono {f:Nat->Nat} {a:Nat}:∀ n,wt f a<=wt f (a+n):=by
 intro n
 induction n with
 | zero=>exact Nat.le_refl _
 | succ n ih=>exact Nat.le_trans ih (Nat.le_add_right _ _)
theorem mk_no (i:Nat) (h:i<8):mk.getD i 0≠255:=by
 have:∀ i,i<8->mk.getD i 0≠255:=by decide
 exact this i h
theorem far_ff {c:List Nat} (h:(c.take 58).drop 50=mk):8<=ds c ff64:=by
 have hc:∀ i,50<=i->i<50+8->df c ff64 i≠0:=fun i h1 h2=>by
  rw[Ne,df_zero,ff_getD i (by omega)]
  have e:c.getD i 0=mk.getD (i - 50) 0:=by
   rw[<-h]
   simp[List.getD_eq_getElem?_getD,List.getElem?_drop,List.getElem?_take]
   rw[if_pos (by omega)]
   congr 2
   omega
  rw[e]
  exact mk_no _ (by omega)
 have h1:wt (df c ff64) 50+8<=wt (df c ff64) 58:=wt_ge (f:=df c ff64) (a:=50) 8 hc
 have h2:wt (df c ff64) 58<=wt (df c ff64) 64:=wt_mono (f:=df c ff64) (a:=58) 6
 show 8<=wt (df c ff64) 64
 omega
theorem no_body {x:List Nat} {r:List Nat × Nat} (h:IsDec x (some r)) (hx:ds x ff64<=4) (hm:r.1.drop 50=mk):False:=by
 rcases h with ⟨h,-⟩ | ⟨c,hc,he,hd⟩
 ·
  cases h
 ·
  have e:=Option.some.inj he
  subst e
  have h1:=far_ff hm
  have h2:=ds_tri c x ff64
  rw[ds_comm c x] at h2
  omega
end Go.Proofs.YtbhbilcieodbhaaGreat
/-
  Numbers as bytes, the lowest first. No condition: lemmas on numbers and lists. wire's cut, Get and Apart, walked. Conditions: the bytes can be read. wire's Put, and the document's Put and Get. Conditions: none beside that the number is a uint64, and that the bytes can be read. The rows of the document's examples hold (patinalaw03.shown answers true). No condition.
-/
namespace Go.Proofs.YtbhbilcieodbhaaGreat
def le:List Nat->Nat
 | []=>0
 | x :: r=>x+256*le r
def byteAt (v i:Nat):Nat:=v / 256 ^ i % 256
def bts (v n:Nat):List Nat:=(List.range n).map (byteAt v)
theorem bts_length (v n:Nat):(bts v n).length=n:=by simp[bts]
theorem byteAt_lt (v i:Nat):byteAt v i<256:=Nat.mod_lt _ (by decide)
theorem bts_bys (v n:Nat):Bys (bts v n):=by
 intro x hx
 simp only[bts,List.mem_map,List.mem_range] at hx
 obtain⟨k,_,rfl⟩:=hx
 exact byteAt_lt v k
theorem bts_getD (v n i:Nat) (h:i<n):(bts v n).getD i 0=byteAt v i:=by
 simp[bts,List.getD_eq_getElem?_getD,h]
theorem bts_cons (v n:Nat):bts v (n+1)=v % 256 :: bts (v / 256) n:=by
 simp only[bts,List.range_succ_eq_map,List.map_cons,List.map_map]
 congr 1
 ·
  simp[byteAt]
 ·
  apply List.map_congr_left
  intro i _
  simp only[Function.comp,byteAt,Nat.succ_eq_add_one]
  rw[Nat.pow_succ,Nat.mul_comm,Nat.div_div_eq_div_mul]
theorem le_bts (n:Nat):∀ v,le (bts v n)=v % 256 ^ n:=by
 induction n with
 | zero=>intro v;simp[bts,le,Nat.mod_one]
 | succ n ih=>
  intro v
  rw[bts_cons,le,ih,Nat.pow_succ,Nat.mul_comm (256 ^ n),Nat.mod_mul]
theorem le_lt {l:List Nat} (h:Bys l):le l<256 ^ l.length:=by
 induction l with
 | nil=>simp[le]
 | cons x r ih=>
  have h1:=ih (fun n hn=>h n (List.mem_cons_of_mem _ hn))
  have h2:=h x List.mem_cons_self
  rw[le,List.length_cons,Nat.pow_succ]
  omega
theorem le_append (l:List Nat) (x:Nat):le (l ++ [x])=le l+256 ^ l.length*x:=by
 induction l with
 | nil=>simp[le]
 | cons y r ih=>
  rw[List.cons_append,le,ih,le,List.length_cons,Nat.pow_succ,Nat.mul_add]
  have:256*(256 ^ r.length*x)=256 ^ r.length*256*x:=by rw[<-Nat.mul_assoc,Nat.mul_comm 256]
  omega
theorem le_take_succ (l:List Nat) (k:Nat) (h:k<l.length):le (l.take (k+1))=le (l.take k)+256 ^ k*l.getD k 0:=by
 rw[List.take_add_one,List.getElem?_eq_getElem h,Option.toList,le_append,List.length_take,Nat.min_eq_left (by omega),List.getD_eq_getElem?_getD,List.getElem?_eq_getElem h];rfl
end Go.Proofs.YtbhbilcieodbhaaGreat
namespace Go.Proofs.YtbhbilcieodbhaaGreat
open Go.RowKit
set_option maxRecDepth 100000
theorem pow_eq (k:Nat):2 ^ (8*k)=256 ^ k:=by rw[Nat.pow_mul]
theorem wrap_u64_small (n:Nat) (h:n<18446744073709551616):IntKind.u64.wrap (n:Int)=n:=by
 simp[IntKind.wrap,IntKind.bits,IntKind.signed]
 omega
theorem u64_toNat (a:Nat) (ha:a<18446744073709551616):(BitVec.ofInt 64 (a:Int)).toNat=a:=by
 rw[BitVec.ofInt_natCast,BitVec.toNat_ofNat];exact Nat.mod_eq_of_lt (by omega)
theorem u64_or_nat (a b:Nat) (ha:a<18446744073709551616) (hb:b<18446744073709551616):bits .or .u64 (a:Int) (b:Int)=((a ||| b:Nat):Int):=by
 have hx:a ||| b<2 ^ 64:=Nat.or_lt_two_pow (by omega) (by omega)
 show IntKind.u64.wrap ((BitVec.ofInt 64 (a:Int) ||| BitVec.ofInt 64 (b:Int)).toNat:Int)=_
 rw[BitVec.toNat_or,u64_toNat a ha,u64_toNat b hb]
 exact wrap_u64_small _ (by omega)
theorem or_step {l:List Nat} (hl:Bys l) (k:Nat) (hk:k<l.length) (h8:l.length<=8) :
 bits .or .u64 ((le (l.take k):Nat):Int) (IntKind.u64.wrap (((l.getD k 0:Nat):Int)*2 ^ (8*k)))=((le (l.take (k+1)):Nat):Int):=by
 have h1:=le_lt (bys_take hl k)
 rw[List.length_take,Nat.min_eq_left (by omega)] at h1
 have h2:=le_lt (bys_take hl (k+1))
 rw[List.length_take,Nat.min_eq_left (by omega)] at h2
 have h3:256 ^ (k+1)<=256 ^ 8:=Nat.pow_le_pow_right (by decide) (by omega)
 have h4:(256:Nat) ^ 8=18446744073709551616:=by decide
 rw[le_take_succ l k hk] at h2 ⊢
 have h5:256 ^ k*l.getD k 0<18446744073709551616:=by omega
 have e1:((l.getD k 0:Nat):Int)*2 ^ (8*k)=((256 ^ k*l.getD k 0:Nat):Int):=by
  rw[<-pow_eq];push_cast;exact Int.mul_comm _ _
 rw[e1,wrap_u64_small _ h5,u64_or_nat _ _ (by omega) h5,<-pow_eq]
 rw[<-pow_eq] at h1
 rw[Nat.or_comm,<-Nat.two_pow_add_eq_or_of_lt h1,Nat.add_comm]
set_option maxHeartbeats 1000000 in
theorem get_any (w:World) (a:Option Addr) (cap:Nat) (l:List Nat) (hl:Bys l) (h1:1<=l.length) (h8:l.length<=8) (hr:Held w (.slice a l.length cap) l) :
 Calls Tryz.prog 234 #[.slice a l.length cap] w fun e w'=>e=.returned (.tuple #[.int .u64 (le l:Nat),.nilIface])/\Chg (fun _=>False) w w':=by
 obtain⟨a',c',hv,hr⟩:=hr
 simp only[Value.slice.injEq] at hv
 obtain⟨rfl,-,-⟩:=hv
 obtain⟨g,o,rfl,hg,hc⟩:=hr.resolve_left (by omega)
 have HC:=hyd hc
 clear hc hr
 go_enter Tryz.func234,Tryz.ntmps234
 go_wp2_with fail
 go_loopw [4,18] (fun v t wr=>∃ k:Nat,k<=l.length/\t=.int .i64 k/\v=.int .u64 (le (l.take k):Nat)/\Chg (fun _=>False) w wr) (fun _ t _=>l.length - (intOf t).toNat)
 case atStart=>exact⟨0,Nat.zero_le _,rfl,rfl,Chg.refl _ _⟩
 case round=>
  obtain⟨k,hk,rfl,rfl,hG⟩:=hrel
  by_cases hlt:k<l.length
  ·
   have hlt':(k:Int)<(l.length:Int):=by omega
   have hkb:(0:Int)<=(k:Int):=by omega
   have k1:wr.cell? ⟨g,o+k,none⟩=some (.int .u8 (l.getD k 0:Nat)):=(World.cell?_of_block (w:=w) (a:=⟨g,o+k,none⟩) (hG.block g hg (fun e=>e))).trans (HC.out k hlt)
   have d1:=hl.getD k
   have HV:=hyd (or_step hl k hlt h8)
   generalize l.getD k 0=xx at *
   go_wp2
   exact⟨⟨k+1,by omega,by go_num,by rw[HV.out],hG⟩,by simp[intOf];omega⟩
  ·
   have hlt':¬ (k:Int)<(l.length:Int):=by omega
   have HK:Hid (l.take k=l):=hyd (List.take_of_length_le (by omega))
   go_wp2
   go_ret2
   exact⟨by rw[HK.out];rfl,hG⟩
theorem Held.at_ {w:World} {a:Option Addr} {n cap:Nat} {l:List Nat} (h:Held w (.slice a n cap) l) (h0:l.length≠0):∃ g o,a=some ⟨g,o,none⟩/\g<w.heap.size/\∀ i,i<l.length->w.cell? ⟨g,o+i,none⟩=some (.int .u8 (l.getD i 0:Nat)):=by
 obtain⟨a',c',hv,h⟩:=h
 simp only[Value.slice.injEq] at hv
 obtain⟨rfl,-,-⟩:=hv
 exact h.resolve_left h0
end Go.Proofs.YtbhbilcieodbhaaGreat
namespace Go.Proofs.YtbhbilcieodbhaaGreat
open Go.RowKit
set_option maxRecDepth 100000
theorem zero49 (w:World):(zeroValue 302).run Tryz.prog w=.ok (.agg (bcells (List.replicate 8 0))) w:=by kernel_rfl
def bto (v k:Nat):List Nat:=(List.range 8).map fun i=>if i<k then byteAt v i else 0
theorem bto_length (v k:Nat):(bto v k).length=8:=by simp[bto]
theorem bto_zero (v:Nat):bto v 0=List.replicate 8 0:=by simp[bto];rfl
theorem bto_all (v:Nat):bto v 8=bts v 8:=by
 apply List.map_congr_left
 intro i hi
 rw[if_pos (List.mem_range.1 hi)]
theorem bto_set (v k:Nat) (_hk:k<8):(bto v k).set k (byteAt v k)=bto v (k+1):=by
 apply List.ext_getElem?
 intro j
 by_cases h:k=j
 ·
  subst h
  rw[List.getElem?_set_self (by rw[bto_length];exact _hk)]
  simp[bto,_hk]
 ·
  rw[List.getElem?_set_ne h]
  by_cases h5:j<8
  ·
   simp only[bto,List.getElem?_map,List.getElem?_range h5,Option.map_some]
   congr 1
   by_cases h6:j<k
   ·
    rw[if_pos h6,if_pos (by omega)]
   ·
    rw[if_neg h6,if_neg (by omega)]
  ·
   rw[List.getElem?_eq_none (by simp[bto];omega),List.getElem?_eq_none (by simp[bto];omega)]
theorem shr_nat (v k:Nat):((v:Int) / 2 ^ (8*k))=((v / 256 ^ k:Nat):Int):=by rw[<-pow_eq];push_cast;rfl
theorem shr_byte (v k:Nat):((v:Int) / 2 ^ (8*k)) % 256=((byteAt v k:Nat):Int):=by rw[shr_nat];unfold byteAt;push_cast;rfl
set_option maxHeartbeats 1000000 in
theorem put_room (w:World) (v n:Nat) (_hv:v<18446744073709551616) (h1:1<=n) (h8:n<=8) (hr:v<256 ^ n) :
 Calls Tryz.prog 192 #[.int .u64 (v:Int),.int .i64 (n:Int)] w fun e w'=>∃ g,e=.returned (.tuple #[.slice (some ⟨g,0,none⟩) n n,.nilIface])/\w.heap.size<=g/\Arr w' g 5 (bts v 8)/\Chg (fun _=>False) w w':=by
 have hz:=zero49
 have h1':¬ (n:Int)<1:=by omega
 have h8':¬ (8:Int)<(n:Int):=by omega
 have hsh:(0:Int)<=8*(n:Int):=by omega
 have hb:((v:Int) / 2 ^ (8*n) != 0)=false:=by rw[shr_nat,Nat.div_eq_of_lt hr];rfl
 clear hr
 go_enter Tryz.func192,Tryz.ntmps192
 go_wp2_with fail
 clear hb hsh
 go_loopw [21] (fun t wr=>∃ k:Nat,k<=8/\t=.int .i64 k/\Arr wr w.heap.size 302 (bto v k)/\Chg (fun _=>False) w wr) (fun t _=>8 - (intOf t).toNat)
 case atStart=>exact⟨0,Nat.zero_le _,rfl,by rw[bto_zero];exact Arr.new _ _ _,(Chg.refl _ _).alloc _⟩
 case round=>
  obtain⟨k,hk,rfl,hA,hG⟩:=hrel
  by_cases hlt:k<8
  ·
   have hlt':(k:Int)<8:=by omega
   have hkb:(0:Int)<=(k:Int):=by omega
   have hsh:(0:Int)<=8*(k:Int):=by omega
   have hx:=hA.cell k (by rw[bto_length];exact hlt)
   have hf:=hA.frozen k
   have hA2:Arr (wr.setCell ⟨w.heap.size,k,none⟩ (.int .u8 ((v:Int) / 2 ^ (8*k) % 256))) w.heap.size 302 (bto v (k+1)):=by
    rw[<-bto_set v k hlt,shr_byte];exact hA.store k _
   have HA2:=hyd hA2
   clear hA2 hA
   generalize (bto v k).getD k 0=old at hx
   go_wp2
   exact⟨⟨k+1,by omega,by go_num,HA2.out,hG.setCell (Or.inr (Nat.le_refl _)) _ _⟩,by simp[intOf];omega⟩
  ·
   have hlt':¬ (k:Int)<8:=by omega
   have e:k=8:=by omega
   subst e
   rw[bto_all] at hA
   go_wp2_with fail
   refine(cut_any wr w.heap.size 0 8 n (bts v 8) (by rw[bts_length];omega) (by rw[bts_length];exact h8) hA.lt (fun i hi=>by rw[Nat.zero_add];exact hA.cell i hi)).mono ?_
   rintro e w' ⟨g,rfl,hg,hA',hG'⟩
   have hs:=hG.size
   go_wp2
   go_ret2
   exact⟨g,rfl,by omega,hA',hG.trans hG'⟩
end Go.Proofs.YtbhbilcieodbhaaGreat
namespace Go.Proofs.YtbhbilcieodbhaaGreat
open Go.RowKit
set_option maxRecDepth 100000
theorem tneq_arg_nil (w:World):(binOp .neq 33 (.iface 56 (.int .i64 1)) .nilIface).run Tryz.prog w=.ok (.bool true) w:=by kernel_rfl
theorem tneq_nil_nil (w:World):(binOp .neq 33 .nilIface .nilIface).run Tryz.prog w=.ok (.bool false) w:=by kernel_rfl
theorem Arr.heldAll {w:World} {g:Nat} {t:TypeId} {l:List Nat} (h:Arr w g t l) (n cap:Nat) (hn:n<=l.length):Held w (.slice (some ⟨g,0,none⟩) n cap) (l.take n):=
 h.held 0 n cap (l.take n) (by rw[List.length_take];omega) (by rw[List.length_take];omega) (fun i hi=>by
  rw[List.length_take] at hi
  rw[Nat.zero_add,List.getD_eq_getElem?_getD,List.getD_eq_getElem?_getD,List.getElem?_take_of_lt (by omega)])
theorem Arr.heldFull {w:World} {g:Nat} {t:TypeId} {l:List Nat} (h:Arr w g t l) (n cap:Nat) (hn:n=l.length):Held w (.slice (some ⟨g,0,none⟩) n cap) l:=by
 have:=h.heldAll n cap (by omega)
 rwa [List.take_of_length_le (by omega)] at this
end Go.Proofs.YtbhbilcieodbhaaGreat
/-
  Tags: which may be; tag's inBounds, fits and Check, and the document's May. No condition. A tag that came in, by value. No condition.
-/
namespace Go.Proofs.YtbhbilcieodbhaaGreat
open Go.RowKit
set_option maxRecDepth 100000
def Inb (p o s c:Int):Prop:=(0<=p/\p<96)/\(0<=o/\o<=24)/\(1<=s/\s<=1099511627775)/\0<=c/\c<=255
def Fit (p o:Int) (l:Bool):Prop:=(o=24/\l=false)\/(o≠24/\p % 8<6)
def May (p o s c:Int) (l:Bool):Prop:=Inb p o s c/\Fit p o l
def Tg (w:World) (b:Nat) (p o s c:Int) (l:Bool):Prop:=w.heap[b]?=some (.cells #[.int .i64 p,.int .i64 o,.int .i64 s,.int .i64 c,.bool l] 127)
theorem Tg.new (w:World) (p o s c:Int) (l:Bool):Tg (w.alloc (.cells #[.int .i64 p,.int .i64 o,.int .i64 s,.int .i64 c,.bool l] 127)) w.heap.size p o s c l:=by
 show (w.heap.push _)[w.heap.size]?=_
 simp
theorem Tg.lt {w:World} {b:Nat} {p o s c:Int} {l:Bool} (h:Tg w b p o s c l):b<w.heap.size:=(Array.getElem?_eq_some_iff.1 (show w.heap[b]?=some _ from h)).1
theorem Tg.chg {S:Nat->Prop} {w w':World} {b:Nat} {p o s c:Int} {l:Bool} (h:Tg w b p o s c l) (hc:Chg S w w') (hb:¬ S b):Tg w' b p o s c l:=(hc.block b h.lt hb).trans h
theorem Tg.alloc {w:World} {b:Nat} {p o s c:Int} {l:Bool} (h:Tg w b p o s c l) (x:Obj):Tg (w.alloc x) b p o s c l:=(Below.heap_alloc _ _ _ h.lt).trans h
theorem Tg.cells {w:World} {b:Nat} {p o s c:Int} {l:Bool} (h:Tg w b p o s c l):w.cell? ⟨b,0,none⟩=some (.int .i64 p)/\w.cell? ⟨b,1,none⟩=some (.int .i64 o)/\w.cell? ⟨b,2,none⟩=some (.int .i64 s)/\w.cell? ⟨b,3,none⟩=some (.int .i64 c)/\w.cell? ⟨b,4,none⟩=some (.bool l):=by
 have h':w.heap[b]?=some _:=h
 refine⟨?_,?_,?_,?_,?_⟩ <;> simp[World.cell?,h']
theorem size23:(Tryz.prog.info? 127).map (·.size)=some 5:=by kernel_rfl
theorem wpList_load_tag {ops:Array Oper} {rest:List Oper} {o:Oper} {a:Act} {w:World} {Q:Exit->Act->World->Prop} (hgd:o.guard=none) (x:Operand) (ho:o.op=.load 127 x)
 (g:Nat) (hx:a.eval x=.pointer (some ⟨g,0,none⟩)) {p of s c:Int} {l:Bool} (hg:Tg w g p of s c l)
 (h:wpList Tryz.prog ops Q rest (a.put o.dst (.agg #[.int .i64 p,.int .i64 of,.int .i64 s,.int .i64 c,.bool l])) w):wpList Tryz.prog ops Q (o :: rest) a w:=
 wpList_load_row hgd 127 x ho g hx 127 _ _ _ hg Tryz.underlying127 rfl size23 h
theorem inb_cases (p o s c:Int):Inb p o s c\/p<0\/(0<=p/\96<=p)\/(0<=p/\p<96/\o<0)\/(0<=p/\p<96/\0<=o/\24<o)\/(0<=p/\p<96/\0<=o/\o<=24/\s<1)\/(0<=p/\p<96/\0<=o/\o<=24/\1<=s/\1099511627775<s)\/(0<=p/\p<96/\0<=o/\o<=24/\1<=s/\s<=1099511627775/\c<0)\/(0<=p/\p<96/\0<=o/\o<=24/\1<=s/\s<=1099511627775/\0<=c/\255<c):=by
 unfold Inb
 omega
set_option maxHeartbeats 4000000 in
theorem inb_yes (w:World) (p o s c:Int) (l:Bool) (h:Inb p o s c) :
 Calls Tryz.prog 259 #[.agg #[.int .i64 p,.int .i64 o,.int .i64 s,.int .i64 c,.bool l]] w fun e w'=>e=.returned (.bool true)/\Chg (fun _=>False) w w':=by
 obtain⟨⟨h1,h2⟩,⟨h3,h4⟩,⟨h5,h6⟩,h7,h8⟩:=h
 go_enter Tryz.func259,Tryz.ntmps259
 go_wp2
 go_ret
 exact⟨rfl,(Chg.refl _ _).alloc _⟩
set_option maxHeartbeats 4000000 in
theorem inb_no (w:World) (p o s c:Int) (l:Bool) (h:¬ Inb p o s c) :
 Calls Tryz.prog 259 #[.agg #[.int .i64 p,.int .i64 o,.int .i64 s,.int .i64 c,.bool l]] w fun e w'=>e=.returned (.bool false)/\Chg (fun _=>False) w w':=by
 have hc:=(inb_cases p o s c).resolve_left h
 clear h
 rcases hc with h | h | h | h | h | h | h | h
 ·
  go_enter Tryz.func259,Tryz.ntmps259
  go_wp2
  go_ret
  exact⟨rfl,(Chg.refl _ _).alloc _⟩
 ·
  obtain⟨h1,h2⟩:=h
  go_enter Tryz.func259,Tryz.ntmps259
  go_wp2
  go_ret
  exact⟨rfl,(Chg.refl _ _).alloc _⟩
 ·
  obtain⟨h1,h2,h3⟩:=h
  go_enter Tryz.func259,Tryz.ntmps259
  go_wp2
  go_ret
  exact⟨rfl,(Chg.refl _ _).alloc _⟩
 ·
  obtain⟨h1,h2,h3,h4⟩:=h
  go_enter Tryz.func259,Tryz.ntmps259
  go_wp2
  go_ret
  exact⟨rfl,(Chg.refl _ _).alloc _⟩
 ·
  obtain⟨h1,h2,h3,h4,h5⟩:=h
  go_enter Tryz.func259,Tryz.ntmps259
  go_wp2
  go_ret
  exact⟨rfl,(Chg.refl _ _).alloc _⟩
 ·
  obtain⟨h1,h2,h3,h4,h5,h6⟩:=h
  go_enter Tryz.func259,Tryz.ntmps259
  go_wp2
  go_ret
  exact⟨rfl,(Chg.refl _ _).alloc _⟩
 ·
  obtain⟨h1,h2,h3,h4,h5,h6,h7⟩:=h
  go_enter Tryz.func259,Tryz.ntmps259
  go_wp2
  go_ret
  exact⟨rfl,(Chg.refl _ _).alloc _⟩
 ·
  obtain⟨h1,h2,h3,h4,h5,h6,h7,h8⟩:=h
  go_enter Tryz.func259,Tryz.ntmps259
  go_wp2
  go_ret
  exact⟨by rw[show decide (c<=255)=false from decide_eq_false (by omega)];rfl,(Chg.refl _ _).alloc _⟩
theorem tmod8 {p:Int} (h:0<=p):p.tmod 8=p % 8:=Int.tmod_eq_emod_of_nonneg h
set_option maxHeartbeats 4000000 in
theorem tfits_any (w:World) (p o s c:Int) (l:Bool) (h:Inb p o s c) :
 ∃ b,(b=true<->Fit p o l)/\Calls Tryz.prog 260 #[.agg #[.int .i64 p,.int .i64 o,.int .i64 s,.int .i64 c,.bool l]] w fun e w'=>e=.returned (.bool b)/\Chg (fun _=>False) w w':=by
 obtain⟨⟨h1,h2⟩,-,-,-⟩:=h
 by_cases ho:o=24
 ·
  subst ho
  refine⟨!l,by cases l <;> simp[Fit],?_⟩
  go_enter Tryz.func260,Tryz.ntmps260
  go_wp2
  go_ret
  exact⟨rfl,(Chg.refl _ _).alloc _⟩
 ·
  have hm:=tmod8 h1
  by_cases h6:p % 8<6
  ·
   refine⟨true,by simp[Fit,ho,h6],?_⟩
   go_enter Tryz.func260,Tryz.ntmps260
   go_wp2
   go_ret
   exact⟨rfl,(Chg.refl _ _).alloc _⟩
  ·
   refine⟨false,by simp[Fit,ho];omega,?_⟩
   go_enter Tryz.func260,Tryz.ntmps260
   go_wp2
   go_ret
   exact⟨rfl,(Chg.refl _ _).alloc _⟩
set_option maxHeartbeats 4000000 in
theorem check_any (w:World) (p o s c:Int) (l:Bool) :
 (May p o s c l->Calls Tryz.prog 240 #[.agg #[.int .i64 p,.int .i64 o,.int .i64 s,.int .i64 c,.bool l]] w fun e w'=>e=.returned (.nilIface)/\Chg (fun _=>False) w w')/\(¬ May p o s c l->Calls Tryz.prog 240 #[.agg #[.int .i64 p,.int .i64 o,.int .i64 s,.int .i64 c,.bool l]] w fun e w'=>e=.returned (.iface 56 (.int .i64 1))/\Chg (fun _=>False) w w'):=by
 have T0:=Tg.new w p o s c l
 have G0:Chg (fun _=>False) w (w.alloc (.cells #[.int .i64 p,.int .i64 o,.int .i64 s,.int .i64 c,.bool l] 127)):=(Chg.refl _ w).alloc _
 by_cases h:Inb p o s c
 ·
  obtain⟨b,hb,hc⟩:=tfits_any w p o s c l h
  cases b with
  | true=>
   refine⟨fun _=>?_,fun hn=>absurd ⟨h,hb.1 rfl⟩ hn⟩
   have HI:=hyd h
   have HF:Hid (Fit p o l):=hyd (hb.1 rfl)
   clear hc h hb
   go_enter Tryz.func240,Tryz.ntmps240
   go_wp2_with fail
   refine(inb_yes _ p o s c l HI.out).mono ?_
   rintro e w1 ⟨rfl,G1⟩
   have T1:=T0.chg G1 (fun e=>e)
   have G01:=G0.trans G1
   have HT:=hyd T1
   obtain⟨b,hb',hc⟩:=tfits_any w1 p o s c l HI.out
   obtain rfl:b=true:=hb'.2 HF.out
   clear T1 G1 T0 G0 hb'
   obtain⟨k0,k1,k2,k3,k4⟩:=HT.out.cells
   go_wp2_with fail
   refine hc.mono ?_
   rintro e w2 ⟨rfl,G2⟩
   clear hc
   go_wp2
   go_ret
   exact⟨rfl,G01.trans G2⟩
  | false=>
   refine⟨fun hy=>(by simp at hb;exact absurd hy.2 hb),fun _=>?_⟩
   have HI:=hyd h
   have HF:Hid (¬ Fit p o l):=hyd (fun e=>by have:=hb.2 e;cases this)
   clear hc h hb
   go_enter Tryz.func240,Tryz.ntmps240
   go_wp2_with fail
   refine(inb_yes _ p o s c l HI.out).mono ?_
   rintro e w1 ⟨rfl,G1⟩
   have T1:=T0.chg G1 (fun e=>e)
   have G01:=G0.trans G1
   have HT:=hyd T1
   obtain⟨b,hb',hc⟩:=tfits_any w1 p o s c l HI.out
   obtain rfl:b=false:=by
    cases b with
    | false=>rfl
    | true=>exact absurd (hb'.1 rfl) HF.out
   clear T1 G1 T0 G0 hb'
   obtain⟨k0,k1,k2,k3,k4⟩:=HT.out.cells
   go_wp2_with fail
   refine hc.mono ?_
   rintro e w2 ⟨rfl,G2⟩
   clear hc
   go_wp2
   go_ret
   exact⟨rfl,G01.trans G2⟩
 ·
  refine⟨fun hy=>absurd hy.1 h,fun _=>?_⟩
  have HI:=hyd h
  clear h T0
  go_enter Tryz.func240,Tryz.ntmps240
  go_wp2_with fail
  refine(inb_no _ p o s c l HI.out).mono ?_
  rintro e w1 ⟨rfl,G1⟩
  have G01:=G0.trans G1
  clear G1 G0
  go_wp2
  go_ret
  exact⟨rfl,G01⟩
end Go.Proofs.YtbhbilcieodbhaaGreat
namespace Go.Proofs.YtbhbilcieodbhaaGreat
open Go.RowKit Go.ChangeShapes Go.WideShapes
set_option maxRecDepth 100000
end Go.Proofs.YtbhbilcieodbhaaGreat
/-
  tag's writer: a number laid behind what is laid, and the five fields, walked. Conditions: the writer's row has room. The five fields, laid by the writer's methods. Conditions: each field fits its bytes; the writer's row has room. tag.Encode, walked: the body of a tag that may be, in new memory; ErrArg for the others. No condition.
-/
namespace Go.Proofs.YtbhbilcieodbhaaGreat
open Go.RowKit
set_option maxRecDepth 100000
theorem wpList_append_arr {w:World} {ops:Array Oper} {rest:List Oper} {o:Oper} {a:Act} {Q:Exit->Act->World->Prop} (hgd:o.guard=none) (s x:Operand)
 (ho:o.op=.call { callee:=.builtin .append,args:=#[s,x],argTypes:=#[35,35] }) (g k cap c oo m cc:Nat) (hs:a.eval s=.slice (some ⟨g,0,none⟩) k cap) (hx:a.eval x=.slice (some ⟨c,oo,none⟩) m cc)
 {cur:List Nat} (hg:Arr w g 5 cur) (src:List Nat) (hn:src.length=m) (hsrc:∀ j,j<src.length->w.cell? ⟨c,oo+j,none⟩=some (.int .u8 (src.getD j 0:Nat))) (hroom:k+m<=cap) (hfit:k+m<=cur.length)
 (h:wpList Tryz.prog ops Q rest (a.put o.dst (.slice (some ⟨g,0,none⟩) (k+m) cap)) (w.setRow g (bcells (lay cur k src)))):wpList Tryz.prog ops Q (o :: rest) a w:=by
 obtain⟨i,h1,_,h3,_⟩:=info5
 refine wpList_plain hgd fun K hK=>?_
 have hrun:=run_append_room (P:=Tryz.prog) w 35 o.type 5 i Tryz.underlying35 h1 g k cap (bcells cur) hg ⟨c,oo,none⟩ m cc (src.map fun (n:Nat)=>Value.int .u8 (n:Int)) (by rw[h3];simpa using hn) (src_cells hsrc) (one_cells src) hroom (by rw[h3,bcells_size];simp;omega)
 rw[h3,Nat.mul_one,List.append_assoc,lay_row] at hrun
 unfold Oper.wp
 simp[execOp,ho,resolve,invoke,builtin,hs,hx,hrun,Result.andThen]
 exact hK _ _ h
def Wr (w:World) (b g n:Nat) (p o s c:Int) (l:Bool):Prop:=
 w.heap[b]?=some (.cells #[.int .i64 p,.int .i64 o,.int .i64 s,.int .i64 c,.bool l,.slice (some ⟨g,0,none⟩) n 50] 331)
theorem Wr.lt {w:World} {b g n:Nat} {p o s c:Int} {l:Bool} (h:Wr w b g n p o s c l):b<w.heap.size:=(Array.getElem?_eq_some_iff.1 (show w.heap[b]?=some _ from h)).1
theorem Wr.other {w w':World} {b g n:Nat} {p o s c:Int} {l:Bool} (h:Wr w b g n p o s c l) (e:w'.heap[b]?=w.heap[b]?):Wr w' b g n p o s c l:=e.trans h
theorem Wr.chg {S:Nat->Prop} {w w':World} {b g n:Nat} {p o s c:Int} {l:Bool} (h:Wr w b g n p o s c l) (hc:Chg S w w') (hb:¬ S b):Wr w' b g n p o s c l:=(hc.block b h.lt hb).trans h
theorem Wr.cells {w:World} {b g n:Nat} {p o s c:Int} {l:Bool} (h:Wr w b g n p o s c l):w.cell? ⟨b,0,none⟩=some (.int .i64 p)/\w.cell? ⟨b,1,none⟩=some (.int .i64 o)/\w.cell? ⟨b,2,none⟩=some (.int .i64 s)/\w.cell? ⟨b,3,none⟩=some (.int .i64 c)/\w.cell? ⟨b,4,none⟩=some (.bool l)/\w.cell? ⟨b,5,none⟩=some (.slice (some ⟨g,0,none⟩) n 50)/\w.frozen? ⟨b,5,none⟩=false:=by
 have h':w.heap[b]?=some _:=h
 refine⟨?_,?_,?_,?_,?_,?_,?_⟩ <;> simp[World.cell?,World.frozen?,h']
theorem Wr.store {w:World} {b g n:Nat} {p o s c:Int} {l:Bool} (h:Wr w b g n p o s c l) (m:Nat):Wr (w.setCell ⟨b,5,none⟩ (.slice (some ⟨g,0,none⟩) m 50)) b g m p o s c l:=by
 have h':w.heap[b]?=some _:=h
 show (w.setCell ⟨b,5,none⟩ _).heap[b]?=_
 simp[World.setCell,Array.getElem?_modify,h']
set_option maxHeartbeats 2000000 in
theorem tlay_any (w:World) (b g n:Nat) (p o s c:Int) (l:Bool) (L:List Nat) (hW:Wr w b g n p o s c l) (hA:Arr w g 5 L) (hL:L.length=50) (hbg:b≠g) (v z:Nat) (hv:v<18446744073709551616) (hz1:1<=z) (hz8:z<=8) (hr:v<256 ^ z) (hn:n+z<=50) :
 Calls Tryz.prog 261 #[.pointer (some ⟨b,0,none⟩),.int .u64 (v:Int),.int .i64 (z:Int)] w fun e w'=>e=.returned .nilIface/\Wr w' b g (n+z) p o s c l/\Arr w' g 5 (lay L n (bts v z))/\Chg (fun k=>k=b\/k=g) w w':=by
 have HW:=hyd hW
 have HA:=hyd hA
 have hcall:=put_room w v z hv hz1 hz8 hr
 have HL:=hyd hL
 clear hW hA hr hL
 go_enter Tryz.func261,Tryz.ntmps261
 go_wp2_with fail
 refine hcall.mono ?_
 rintro e w1 ⟨g1,rfl,hg1,A1,G1⟩
 clear hcall
 have W1:=HW.out.chg G1 (fun e=>e)
 have B1:=HA.out.chg G1 (fun e=>e)
 have hgl:=HA.out.lt
 have hbl:=HW.out.lt
 obtain⟨-,-,-,-,-,k5,-⟩:=W1.cells
 have hsrc:Hid (∀ j,j<(bts v z).length->w1.cell? ⟨g1,0+j,none⟩=some (.int .u8 ((bts v z).getD j 0:Nat))):=hyd (fun j hj=>by
  rw[bts_length] at hj
  rw[Nat.zero_add,A1.cell j (by rw[bts_length];omega),bts_getD _ _ _ hj,bts_getD _ _ _ (by omega)])
 have HB1:=hyd B1
 have HW1:=hyd W1
 have W2:Wr (w1.setRow g (bcells (lay L n (bts v z)))) b g n p o s c l:=W1.other (setRow_other _ _ _ _ hbg)
 have A2:Arr (w1.setRow g (bcells (lay L n (bts v z)))) g 5 (lay L n (bts v z)):=B1.row _
 have G2:Chg (fun k=>k=b\/k=g) w (w1.setRow g (bcells (lay L n (bts v z)))):=(G1.mono (fun _ _ f=>f.elim)).setRow (Or.inl (Or.inr rfl)) _
 obtain⟨-,-,-,-,-,j5,f5⟩:=W2.cells
 have HW2:=hyd W2
 have HA2:=hyd A2
 have HG2:=hyd G2
 clear W1 B1 A1 G1 W2 A2 G2
 go_wp2_with (at_builtin;refine wpList_append_arr rfl (.tmp 22) (.tmp 23) rfl g n 50 g1 0 z z rfl rfl HB1.out (bts v z) (bts_length v z) hsrc.out hn (by rw[HL.out];exact hn) ?_)
 go_ret
 exact⟨rfl,HW2.out.store _,HA2.out.setOther hbg _ _,HG2.out.setCell (Or.inl (Or.inl rfl)) _ _⟩
end Go.Proofs.YtbhbilcieodbhaaGreat
namespace Go.Proofs.YtbhbilcieodbhaaGreat
open Go.RowKit
set_option maxRecDepth 100000
set_option maxHeartbeats 2000000 in
theorem layPlace_any (w:World) (b g n:Nat) (p:Nat) (o s c:Int) (l:Bool) (L:List Nat) (hW:Wr w b g n p o s c l) (hA:Arr w g 5 L) (hL:L.length=50) (hbg:b≠g) (hp:p<65536) (hn:n+2<=50) :
 Calls Tryz.prog 241 #[.pointer (some ⟨b,0,none⟩)] w fun e w'=>e=.returned .nilIface/\Wr w' b g (n+2) p o s c l/\Arr w' g 5 (lay L n (bts p 2))/\Chg (fun k=>k=b\/k=g) w w':=by
 have hcall:=tlay_any w b g n p o s c l L hW hA hL hbg p 2 (by omega) (by decide) (by decide) (by omega) hn
 obtain⟨k0,k1,k2,k3,k4,-,-⟩:=hW.cells
 clear hW hA hL hbg hn
 go_enter Tryz.func241,Tryz.ntmps241
 go_wp2_with fail
 refine hcall.mono ?_
 rintro e w1 ⟨rfl,h1,h2,h3⟩
 have H:=hyd (And.intro h1 (And.intro h2 h3))
 clear h1 h2 h3 hcall
 go_wp2
 go_ret
 exact⟨rfl,H.out⟩
set_option maxHeartbeats 2000000 in
theorem layOf_any (w:World) (b g n:Nat) (o:Nat) (p s c:Int) (l:Bool) (L:List Nat) (hW:Wr w b g n p o s c l) (hA:Arr w g 5 L) (hL:L.length=50) (hbg:b≠g) (hp:o<256) (hn:n+1<=50) :
 Calls Tryz.prog 242 #[.pointer (some ⟨b,0,none⟩)] w fun e w'=>e=.returned .nilIface/\Wr w' b g (n+1) p o s c l/\Arr w' g 5 (lay L n (bts o 1))/\Chg (fun k=>k=b\/k=g) w w':=by
 have hcall:=tlay_any w b g n p o s c l L hW hA hL hbg o 1 (by omega) (by decide) (by decide) (by omega) hn
 obtain⟨k0,k1,k2,k3,k4,-,-⟩:=hW.cells
 clear hW hA hL hbg hn
 go_enter Tryz.func242,Tryz.ntmps242
 go_wp2_with fail
 refine hcall.mono ?_
 rintro e w1 ⟨rfl,h1,h2,h3⟩
 have H:=hyd (And.intro h1 (And.intro h2 h3))
 clear h1 h2 h3 hcall
 go_wp2
 go_ret
 exact⟨rfl,H.out⟩
set_option maxHeartbeats 2000000 in
theorem laySeq_any (w:World) (b g n:Nat) (s:Nat) (p o c:Int) (l:Bool) (L:List Nat) (hW:Wr w b g n p o s c l) (hA:Arr w g 5 L) (hL:L.length=50) (hbg:b≠g) (hp:s<1099511627776) (hn:n+5<=50) :
 Calls Tryz.prog 243 #[.pointer (some ⟨b,0,none⟩)] w fun e w'=>e=.returned .nilIface/\Wr w' b g (n+5) p o s c l/\Arr w' g 5 (lay L n (bts s 5))/\Chg (fun k=>k=b\/k=g) w w':=by
 have hcall:=tlay_any w b g n p o s c l L hW hA hL hbg s 5 (by omega) (by decide) (by decide) (by omega) hn
 obtain⟨k0,k1,k2,k3,k4,-,-⟩:=hW.cells
 clear hW hA hL hbg hn
 go_enter Tryz.func243,Tryz.ntmps243
 go_wp2_with fail
 refine hcall.mono ?_
 rintro e w1 ⟨rfl,h1,h2,h3⟩
 have H:=hyd (And.intro h1 (And.intro h2 h3))
 clear h1 h2 h3 hcall
 go_wp2
 go_ret
 exact⟨rfl,H.out⟩
set_option maxHeartbeats 2000000 in
theorem layCopy_any (w:World) (b g n:Nat) (c:Nat) (p o s:Int) (l:Bool) (L:List Nat) (hW:Wr w b g n p o s c l) (hA:Arr w g 5 L) (hL:L.length=50) (hbg:b≠g) (hp:c<256) (hn:n+1<=50) :
 Calls Tryz.prog 244 #[.pointer (some ⟨b,0,none⟩)] w fun e w'=>e=.returned .nilIface/\Wr w' b g (n+1) p o s c l/\Arr w' g 5 (lay L n (bts c 1))/\Chg (fun k=>k=b\/k=g) w w':=by
 have hcall:=tlay_any w b g n p o s c l L hW hA hL hbg c 1 (by omega) (by decide) (by decide) (by omega) hn
 obtain⟨k0,k1,k2,k3,k4,-,-⟩:=hW.cells
 clear hW hA hL hbg hn
 go_enter Tryz.func244,Tryz.ntmps244
 go_wp2_with fail
 refine hcall.mono ?_
 rintro e w1 ⟨rfl,h1,h2,h3⟩
 have H:=hyd (And.intro h1 (And.intro h2 h3))
 clear h1 h2 h3 hcall
 go_wp2
 go_ret
 exact⟨rfl,H.out⟩
set_option maxHeartbeats 2000000 in
theorem layLost_any (w:World) (b g n:Nat) (p o s c:Int) (l:Bool) (L:List Nat) (hW:Wr w b g n p o s c l) (hA:Arr w g 5 L) (hL:L.length=50) (hbg:b≠g) (hn:n+1<=50) :
 Calls Tryz.prog 245 #[.pointer (some ⟨b,0,none⟩)] w fun e w'=>e=.returned .nilIface/\Wr w' b g (n+1) p o s c l/\Arr w' g 5 (lay L n (bts l.toNat 1))/\Chg (fun k=>k=b\/k=g) w w':=by
 cases l with
 | true=>
  have hcall:=tlay_any w b g n p o s c true L hW hA hL hbg 1 1 (by omega) (by decide) (by decide) (by omega) hn
  obtain⟨k0,k1,k2,k3,k4,-,-⟩:=hW.cells
  clear hW hA hL hbg hn
  go_enter Tryz.func245,Tryz.ntmps245
  go_wp2_with fail
  refine hcall.mono ?_
  rintro e w1 ⟨rfl,h1,h2,h3⟩
  have H:=hyd (And.intro h1 (And.intro h2 h3))
  clear h1 h2 h3 hcall
  go_wp2
  go_ret
  exact⟨rfl,H.out⟩
 | false=>
  have hcall:=tlay_any w b g n p o s c false L hW hA hL hbg 0 1 (by omega) (by decide) (by decide) (by omega) hn
  obtain⟨k0,k1,k2,k3,k4,-,-⟩:=hW.cells
  clear hW hA hL hbg hn
  go_enter Tryz.func245,Tryz.ntmps245
  go_wp2_with fail
  refine hcall.mono ?_
  rintro e w1 ⟨rfl,h1,h2,h3⟩
  have H:=hyd (And.intro h1 (And.intro h2 h3))
  clear h1 h2 h3 hcall
  go_wp2
  go_ret
  exact⟨rfl,H.out⟩
end Go.Proofs.YtbhbilcieodbhaaGreat
namespace Go.Proofs.YtbhbilcieodbhaaGreat
open Go.RowKit
set_option maxRecDepth 100000
def pre (p o s c:Nat) (l:Bool):Nat->List Nat
 | 0=>[]
 | 1=>bts p 2
 | 2=>bts p 2 ++ bts o 1
 | 3=>bts p 2 ++ bts o 1 ++ bts s 5
 | 4=>bts p 2 ++ bts o 1 ++ bts s 5 ++ bts c 1
 | _=>bts p 2 ++ bts o 1 ++ bts s 5 ++ bts c 1 ++ bts l.toNat 1
def row (p o s c:Nat) (l:Bool) (k:Nat):List Nat:=pre p o s c l k ++ List.replicate (50 - (pre p o s c l k).length) 0
def body (p o s c:Nat) (l:Bool):List Nat:=row p o s c l 5
theorem row_length (p o s c:Nat) (l:Bool) (k:Nat) (hk:k<=5):(row p o s c l k).length=50:=by
 have:(pre p o s c l k).length<=50:=by
  rcases(by omega:k=0\/k=1\/k=2\/k=3\/k=4\/k=5) with rfl | rfl | rfl | rfl | rfl | rfl <;> simp[pre,bts_length]
 simp[row];omega
theorem body_length (p o s c:Nat) (l:Bool):(body p o s c l).length=50:=row_length p o s c l 5 (by decide)
theorem lay_step (q src:List Nat) (n k:Nat) (hn:n=q.length):lay (q ++ List.replicate (src.length+k) 0) n src=(q ++ src) ++ List.replicate k 0:=by
 subst hn
 simp[lay,List.drop_append,List.append_assoc]
theorem row_step1 (p o s c:Nat) (l:Bool):lay (row p o s c l 0) 0 (bts p 2)=row p o s c l 1:=by
 have:=lay_step [] (bts p 2) 0 48 rfl
 simp only[bts_length] at this
 simpa[row,pre,bts_length] using this
theorem row_step2 (p o s c:Nat) (l:Bool):lay (row p o s c l 1) 2 (bts o 1)=row p o s c l 2:=by
 have:=lay_step (bts p 2) (bts o 1) 2 47 (by simp[bts_length])
 simp only[bts_length] at this
 simpa[row,pre,bts_length] using this
theorem row_step3 (p o s c:Nat) (l:Bool):lay (row p o s c l 2) 3 (bts s 5)=row p o s c l 3:=by
 have:=lay_step (bts p 2 ++ bts o 1) (bts s 5) 3 42 (by simp[bts_length])
 simp only[bts_length] at this
 simpa[row,pre,bts_length] using this
theorem row_step4 (p o s c:Nat) (l:Bool):lay (row p o s c l 3) 8 (bts c 1)=row p o s c l 4:=by
 have:=lay_step (bts p 2 ++ bts o 1 ++ bts s 5) (bts c 1) 8 41 (by simp[bts_length])
 simp only[bts_length] at this
 simpa[row,pre,bts_length] using this
theorem row_step5 (p o s c:Nat) (l:Bool):lay (row p o s c l 4) 9 (bts l.toNat 1)=row p o s c l 5:=by
 have:=lay_step (bts p 2 ++ bts o 1 ++ bts s 5 ++ bts c 1) (bts l.toNat 1) 9 40 (by simp[bts_length])
 simp only[bts_length] at this
 simpa[row,pre,bts_length] using this
def tz50:List Nat:=List.replicate 50 0
theorem tmake_room (w:World):(Instr.makeSlice 35 (.int .i64 0) (.int .i64 50)).run Tryz.prog w=.ok (.slice (some ⟨w.heap.size,0,none⟩) 0 50) (w.alloc (.cells (bcells tz50) 5)):=by
 obtain⟨i,h1,h2,h3,h4⟩:=info5
 have h:=run_make (P:=Tryz.prog) w 35 5 i (.int .u8 0) Tryz.underlying35 h1 h2 .i64 .i64 0 50 (by omega) (by omega) (by rw[h4];omega) (by omega)
 rw[h,h3,made_bytes];rfl
theorem build48 (p o s c:Int) (l:Bool) (g:Nat) (w:World):(Instr.build 331 #[(0,.agg #[.int .i64 p,.int .i64 o,.int .i64 s,.int .i64 c,.bool l]),(1,.slice (some ⟨g,0,none⟩) 0 50)]).run Tryz.prog w=.ok (.agg #[.int .i64 p,.int .i64 o,.int .i64 s,.int .i64 c,.bool l,.slice (some ⟨g,0,none⟩) 0 50]) w:=by kernel_rfl
set_option maxHeartbeats 2000000 in
theorem encode_no (w:World) (p o s c:Int) (l:Bool) (h:¬ May p o s c l) :
 Calls Tryz.prog 217 #[.agg #[.int .i64 p,.int .i64 o,.int .i64 s,.int .i64 c,.bool l]] w fun e w'=>e=.returned (.tuple #[.slice none 0 0,.iface 56 (.int .i64 1)])/\Chg (fun _=>False) w w':=by
 have hcall:=fun w=>(check_any w p o s c l).2 h
 have G0:Chg (fun _=>False) w (w.alloc (.cells #[.int .i64 p,.int .i64 o,.int .i64 s,.int .i64 c,.bool l] 127)):=(Chg.refl _ w).alloc _
 have q1:=tneq_arg_nil
 clear h
 go_enter Tryz.func217,Tryz.ntmps217
 go_wp2_with fail
 refine(hcall _).mono ?_
 rintro e w1 ⟨rfl,G1⟩
 clear hcall
 have G01:=G0.trans G1
 clear G0 G1
 go_wp2
 go_ret2
 exact⟨rfl,G01⟩
def Fns (w:World) (f b:Nat):Prop:=w.heap[f]?=some (.cells #[.func (.func 241) #[.pointer (some ⟨b,0,none⟩)] #[],.func (.func 242) #[.pointer (some ⟨b,0,none⟩)] #[],.func (.func 243) #[.pointer (some ⟨b,0,none⟩)] #[],.func (.func 244) #[.pointer (some ⟨b,0,none⟩)] #[],.func (.func 245) #[.pointer (some ⟨b,0,none⟩)] #[]] 59)
theorem Fns.lt {w:World} {f b:Nat} (h:Fns w f b):f<w.heap.size:=(Array.getElem?_eq_some_iff.1 (show w.heap[f]?=some _ from h)).1
theorem Fns.chg {S:Nat->Prop} {w w':World} {f b:Nat} (h:Fns w f b) (hc:Chg S w w') (hf:¬ S f):Fns w' f b:=(hc.block f h.lt hf).trans h
theorem Fns.cells {w:World} {f b:Nat} (h:Fns w f b):w.cell? ⟨f,0,none⟩=some (.func (.func 241) #[.pointer (some ⟨b,0,none⟩)] #[])/\w.cell? ⟨f,1,none⟩=some (.func (.func 242) #[.pointer (some ⟨b,0,none⟩)] #[])/\w.cell? ⟨f,2,none⟩=some (.func (.func 243) #[.pointer (some ⟨b,0,none⟩)] #[])/\w.cell? ⟨f,3,none⟩=some (.func (.func 244) #[.pointer (some ⟨b,0,none⟩)] #[])/\w.cell? ⟨f,4,none⟩=some (.func (.func 245) #[.pointer (some ⟨b,0,none⟩)] #[]):=by
 have h':w.heap[f]?=some _:=h
 refine⟨?_,?_,?_,?_,?_⟩ <;> simp[World.cell?,h']
def Stg (w wr:World) (g k p o s c:Nat) (l:Bool):Prop:=
 Wr wr (g+1) g (pre p o s c l k).length p o s c l/\Arr wr g 5 (row p o s c l k)/\Fns wr (g+2) (g+1)/\Chg (fun _=>False) w wr
theorem Stg.next {w wr w':World} {g k p o s c m:Nat} {l:Bool} (h:Stg w wr g k p o s c l) (hg:w.heap.size<=g) (hm:m=(pre p o s c l (k+1)).length) (h1:Wr w' (g+1) g m p o s c l) (h2:Arr w' g 5 (row p o s c l (k+1))) (h3:Chg (fun k=>k=g+1\/k=g) wr w'):Stg w w' g (k+1) p o s c l:=
 ⟨by rw[<-hm];exact h1,h2,h.2.2.1.chg h3 (by omega),h.2.2.2.trans' h3 (fun i hi ht=>by omega)⟩
theorem May.pl {p:Nat} {o s c:Int} {l:Bool} (h:May p o s c l):p<65536:=by
 have:=h.1.1
 omega
theorem May.ol {o:Nat} {p s c:Int} {l:Bool} (h:May p o s c l):o<256:=by
 have:=h.1.2.1
 omega
theorem May.sl {s:Nat} {p o c:Int} {l:Bool} (h:May p o s c l):s<1099511627776:=by
 have:=h.1.2.2.1
 omega
theorem May.cl {c:Nat} {p o s:Int} {l:Bool} (h:May p o s c l):c<256:=by
 have:=h.1.2.2.2
 omega
theorem row0 (p o s c:Nat) (l:Bool):row p o s c l 0=tz50:=by simp[row,pre,tz50]
set_option maxHeartbeats 4000000 in
theorem encode_yes (w:World) (p o s c:Nat) (l:Bool) (h:May p o s c l) :
 Calls Tryz.prog 217 #[.agg #[.int .i64 p,.int .i64 o,.int .i64 s,.int .i64 c,.bool l]] w fun e w'=>∃ g,e=.returned (.tuple #[.slice (some ⟨g,0,none⟩) 50 50,.nilIface])/\w.heap.size<=g/\Arr w' g 5 (body p o s c l)/\Chg (fun _=>False) w w':=by
 have hcall:=fun w=>(check_any w p o s c l).1 h
 have T0:=Tg.new w p o s c l
 have G0:Chg (fun _=>False) w (w.alloc (.cells #[.int .i64 p,.int .i64 o,.int .i64 s,.int .i64 c,.bool l] 127)):=(Chg.refl _ w).alloc _
 have q1:=tneq_nil_nil
 have hmk:=tmake_room
 have hb:=build48
 have HM:=hyd h
 clear h
 go_enter Tryz.func217,Tryz.ntmps217
 go_wp2_with fail
 refine(hcall _).mono ?_
 rintro e w1 ⟨rfl,G1⟩
 clear hcall
 have G01:=G0.trans G1
 have HT:=hyd (T0.chg G1 (fun e=>e))
 obtain⟨k0,k1,k2,k3,k4⟩:=HT.out.cells
 obtain⟨j0,j1,j2,j3,j4⟩:=(HT.out.alloc (.cells (bcells tz50) 5)).cells
 clear G0 G1 T0
 go_wp2_with fail
 go_region
 clear j0 j1 j2 j3 j4 k0 k1 k2 k3 k4 hmk hb
 go_wp2_with fail
 have hg:=G01.size
 generalize hG:w1.heap.size=g at *
 have S0:Stg w (((w1.alloc (.cells (bcells tz50) 5)).alloc (.cells #[.int .i64 p,.int .i64 o,.int .i64 s,.int .i64 c,.bool l,.slice (some ⟨g,0,none⟩) 0 50] 331)).drew.alloc (.cells #[.func (.func 241) #[.pointer (some ⟨g+1,0,none⟩)] #[],.func (.func 242) #[.pointer (some ⟨g+1,0,none⟩)] #[],.func (.func 243) #[.pointer (some ⟨g+1,0,none⟩)] #[],.func (.func 244) #[.pointer (some ⟨g+1,0,none⟩)] #[],.func (.func 245) #[.pointer (some ⟨g+1,0,none⟩)] #[]] 59)) g 0 p o s c l:=by
  subst hG
  have W1:Wr ((w1.alloc (.cells (bcells tz50) 5)).alloc (.cells #[.int .i64 p,.int .i64 o,.int .i64 s,.int .i64 c,.bool l,.slice (some ⟨w1.heap.size,0,none⟩) 0 50] 331)) (w1.heap.size+1) w1.heap.size 0 p o s c l:=by
   have:=heap_alloc_new (w1.alloc (.cells (bcells tz50) 5)) (.cells #[.int .i64 p,.int .i64 o,.int .i64 s,.int .i64 c,.bool l,.slice (some ⟨w1.heap.size,0,none⟩) 0 50] 331)
   simpa[Wr] using this
  have A1:Arr ((w1.alloc (.cells (bcells tz50) 5)).alloc (.cells #[.int .i64 p,.int .i64 o,.int .i64 s,.int .i64 c,.bool l,.slice (some ⟨w1.heap.size,0,none⟩) 0 50] 331)) w1.heap.size 5 tz50:=(Arr.new w1 5 tz50).alloc _
  have hs2:((w1.alloc (.cells (bcells tz50) 5)).alloc (.cells #[.int .i64 p,.int .i64 o,.int .i64 s,.int .i64 c,.bool l,.slice (some ⟨w1.heap.size,0,none⟩) 0 50] 331)).drew.heap.size=w1.heap.size+2:=by simp
  refine⟨Wr.other (w:=(w1.alloc (.cells (bcells tz50) 5)).alloc (.cells #[.int .i64 p,.int .i64 o,.int .i64 s,.int .i64 c,.bool l,.slice (some ⟨w1.heap.size,0,none⟩) 0 50] 331)) W1 (Below.heap_alloc _ _ _ W1.lt),?_,?_,?_⟩
  ·
   rw[row0]
   exact Arr.alloc (w:=((w1.alloc (.cells (bcells tz50) 5)).alloc (.cells #[.int .i64 p,.int .i64 o,.int .i64 s,.int .i64 c,.bool l,.slice (some ⟨w1.heap.size,0,none⟩) 0 50] 331)).drew) A1 _
  ·
   have:=heap_alloc_new ((w1.alloc (.cells (bcells tz50) 5)).alloc (.cells #[.int .i64 p,.int .i64 o,.int .i64 s,.int .i64 c,.bool l,.slice (some ⟨w1.heap.size,0,none⟩) 0 50] 331)).drew (.cells #[.func (.func 241) #[.pointer (some ⟨w1.heap.size+1,0,none⟩)] #[],.func (.func 242) #[.pointer (some ⟨w1.heap.size+1,0,none⟩)] #[],.func (.func 243) #[.pointer (some ⟨w1.heap.size+1,0,none⟩)] #[],.func (.func 244) #[.pointer (some ⟨w1.heap.size+1,0,none⟩)] #[],.func (.func 245) #[.pointer (some ⟨w1.heap.size+1,0,none⟩)] #[]] 59)
   rw[hs2] at this
   exact this
  ·
   exact(((G01.alloc _).alloc _).drew).alloc _
 go_loopw [30] (fun t wr=>∃ k:Nat,k<=5/\t=.int .i64 k/\Stg w wr g k p o s c l) (fun t _=>5 - (intOf t).toNat)
 case atStart=>exact⟨0,by decide,rfl,S0⟩
 case round=>
  obtain⟨k,hk,rfl,hS⟩:=hrel
  obtain⟨a1,a2,a3,a4⟩:=hS
  obtain⟨f0,f1,f2,f3,f4⟩:=a3.cells
  rcases(by omega:k=0\/k=1\/k=2\/k=3\/k=4\/k=5) with rfl | rfl | rfl | rfl | rfl | rfl
  ·
   have hcall:=layPlace_any wr (g+1) g 0 p o s c l (row p o s c l 0) (by simpa[pre,bts_length] using a1) a2 (row_length p o s c l 0 (by decide)) (by omega) HM.out.pl (by decide)
   have HS:=hyd (show Stg w wr g 0 p o s c l from ⟨a1,a2,a3,a4⟩)
   clear a1 a2 a3 a4 S0
   go_wp2_with fail
   refine hcall.mono ?_
   rintro e w2 ⟨rfl,b1,b2,b3⟩
   rw[row_step1] at b2
   have HN:Hid (Stg w w2 g 1 p o s c l):=hyd (HS.out.next hg (by simp[pre,bts_length]) b1 b2 b3)
   clear b1 b2 b3 hcall f0 f1 f2 f3 f4
   go_wp2
   exact⟨⟨1,by decide,rfl,HN.out⟩,by simp[intOf]⟩
  ·
   have hcall:=layOf_any wr (g+1) g 2 o p s c l (row p o s c l 1) (by simpa[pre,bts_length] using a1) a2 (row_length p o s c l 1 (by decide)) (by omega) HM.out.ol (by decide)
   have HS:=hyd (show Stg w wr g 1 p o s c l from ⟨a1,a2,a3,a4⟩)
   clear a1 a2 a3 a4 S0
   go_wp2_with fail
   refine hcall.mono ?_
   rintro e w2 ⟨rfl,b1,b2,b3⟩
   rw[row_step2] at b2
   have HN:Hid (Stg w w2 g 2 p o s c l):=hyd (HS.out.next hg (by simp[pre,bts_length]) b1 b2 b3)
   clear b1 b2 b3 hcall f0 f1 f2 f3 f4
   go_wp2
   exact⟨⟨2,by decide,rfl,HN.out⟩,by simp[intOf]⟩
  ·
   have hcall:=laySeq_any wr (g+1) g 3 s p o c l (row p o s c l 2) (by simpa[pre,bts_length] using a1) a2 (row_length p o s c l 2 (by decide)) (by omega) HM.out.sl (by decide)
   have HS:=hyd (show Stg w wr g 2 p o s c l from ⟨a1,a2,a3,a4⟩)
   clear a1 a2 a3 a4 S0
   go_wp2_with fail
   refine hcall.mono ?_
   rintro e w2 ⟨rfl,b1,b2,b3⟩
   rw[row_step3] at b2
   have HN:Hid (Stg w w2 g 3 p o s c l):=hyd (HS.out.next hg (by simp[pre,bts_length]) b1 b2 b3)
   clear b1 b2 b3 hcall f0 f1 f2 f3 f4
   go_wp2
   exact⟨⟨3,by decide,rfl,HN.out⟩,by simp[intOf]⟩
  ·
   have hcall:=layCopy_any wr (g+1) g 8 c p o s l (row p o s c l 3) (by simpa[pre,bts_length] using a1) a2 (row_length p o s c l 3 (by decide)) (by omega) HM.out.cl (by decide)
   have HS:=hyd (show Stg w wr g 3 p o s c l from ⟨a1,a2,a3,a4⟩)
   clear a1 a2 a3 a4 S0
   go_wp2_with fail
   refine hcall.mono ?_
   rintro e w2 ⟨rfl,b1,b2,b3⟩
   rw[row_step4] at b2
   have HN:Hid (Stg w w2 g 4 p o s c l):=hyd (HS.out.next hg (by simp[pre,bts_length]) b1 b2 b3)
   clear b1 b2 b3 hcall f0 f1 f2 f3 f4
   go_wp2
   exact⟨⟨4,by decide,rfl,HN.out⟩,by simp[intOf]⟩
  ·
   have hcall:=layLost_any wr (g+1) g 9 p o s c l (row p o s c l 4) (by simpa[pre,bts_length] using a1) a2 (row_length p o s c l 4 (by decide)) (by omega) (by decide)
   have HS:=hyd (show Stg w wr g 4 p o s c l from ⟨a1,a2,a3,a4⟩)
   clear a1 a2 a3 a4 S0
   go_wp2_with fail
   refine hcall.mono ?_
   rintro e w2 ⟨rfl,b1,b2,b3⟩
   rw[row_step5] at b2
   have HN:Hid (Stg w w2 g 5 p o s c l):=hyd (HS.out.next hg (by simp[pre,bts_length]) b1 b2 b3)
   clear b1 b2 b3 hcall f0 f1 f2 f3 f4
   go_wp2
   exact⟨⟨5,by decide,rfl,HN.out⟩,by simp[intOf]⟩
  ·
   have HS:=hyd (show Stg w wr g 5 p o s c l from ⟨a1,a2,a3,a4⟩)
   have hpl:(pre p o s c l 5).length=10:=by simp[pre,bts_length]
   rw[hpl] at a1
   obtain⟨-,-,-,-,-,k5,-⟩:=a1.cells
   clear a1 a2 a3 a4 S0 f0 f1 f2 f3 f4 hpl
   go_wp2
   go_ret2
   exact⟨g,rfl,by omega,HS.out.2.1,HS.out.2.2.2⟩
end Go.Proofs.YtbhbilcieodbhaaGreat
/-
  tag.fields, walked: the fields that lie in a body of 50 bytes. Condition: the bytes can be read. bytes.Equal and tag.Decode, walked: the tag of a body; ErrArg and ErrForm for the others. Condition: the bytes can be read. TagDecodes, walked: whatever the bytes, Decode answers as the document says, and leaves them as they were. Condition: the bytes came in as a slice does. TagBack, walked: tags come back from their bodies, and bodies from their tags. Condition: the bytes came in as a slice does.
-/
namespace Go.Proofs.YtbhbilcieodbhaaGreat
open Go.RowKit
set_option maxRecDepth 100000
theorem get_n (w:World) (a:Option Addr) (n cap:Nat) (l:List Nat) (hn:n=l.length) (hl:Bys l) (h1:1<=l.length) (h8:l.length<=8) (hr:Held w (.slice a n cap) l) :
 Calls Tryz.prog 234 #[.slice a n cap] w fun e w'=>e=.returned (.tuple #[.int .u64 (le l:Nat),.nilIface])/\Chg (fun _=>False) w w':=by
 subst hn
 exact get_any w a cap l hl h1 h8 hr
def seg (l:List Nat) (a n:Nat):List Nat:=(l.drop a).take n
theorem seg_length {l:List Nat} {a n:Nat} (h:a+n<=l.length):(seg l a n).length=n:=by simp[seg];omega
theorem seg_getD {l:List Nat} {a n i:Nat} (h:i<n):(seg l a n).getD i 0=l.getD (a+i) 0:=by
 simp[seg,List.getD_eq_getElem?_getD,List.getElem?_take_of_lt h]
theorem seg_bys {l:List Nat} (h:Bys l) (a n:Nat):Bys (seg l a n):=bys_take (bys_drop h a) n
def fld (l:List Nat) (a n:Nat):Nat:=le (seg l a n)
theorem fld_lt {l:List Nat} (h:Bys l) {a n:Nat} (hn:a+n<=l.length):fld l a n<256 ^ n:=by
 have:=le_lt (seg_bys h a n)
 rwa [seg_length hn] at this
def At (w:World) (c o:Nat) (l:List Nat):Prop:=c<w.heap.size/\∀ i,i<l.length->w.cell? ⟨c,o+i,none⟩=some (.int .u8 (l.getD i 0:Nat))
theorem At.chg {S:Nat->Prop} {w w':World} {c o:Nat} {l:List Nat} (h:At w c o l) (hc:Chg S w w') (hS:¬ S c):At w' c o l:=
 ⟨Nat.lt_of_lt_of_le h.1 hc.size,fun i hi=>(hc.cell h.1 hS _).trans (h.2 i hi)⟩
theorem At.held {w:World} {c o:Nat} {l:List Nat} (h:At w c o l) (a n cap:Nat) (hn:a+n<=l.length):Held w (.slice (some ⟨c,o+a,none⟩) n cap) (seg l a n):=
 ⟨_,cap,by rw[seg_length hn],Or.inr ⟨c,o+a,rfl,h.1,fun i hi=>by
  rw[seg_length hn] at hi
  rw[seg_getD hi,Nat.add_assoc]
  exact h.2 (a+i) (by omega)⟩⟩
def Nums (w:World) (b n0 n1 n2 n3 n4:Nat):Prop:=w.heap[b]?=some (.cells #[.int .u64 (n0:Nat),.int .u64 (n1:Nat),.int .u64 (n2:Nat),.int .u64 (n3:Nat),.int .u64 (n4:Nat)] 336)
theorem Nums.lt {w:World} {b n0 n1 n2 n3 n4:Nat} (h:Nums w b n0 n1 n2 n3 n4):b<w.heap.size:=(Array.getElem?_eq_some_iff.1 (show w.heap[b]?=some _ from h)).1
theorem Nums.chg {S:Nat->Prop} {w w':World} {b n0 n1 n2 n3 n4:Nat} (h:Nums w b n0 n1 n2 n3 n4) (hc:Chg S w w') (hb:¬ S b):Nums w' b n0 n1 n2 n3 n4:=(hc.block b h.lt hb).trans h
theorem Nums.cells {w:World} {b n0 n1 n2 n3 n4:Nat} (h:Nums w b n0 n1 n2 n3 n4):(w.cell? ⟨b,0,none⟩=some (.int .u64 (n0:Nat))/\w.cell? ⟨b,1,none⟩=some (.int .u64 (n1:Nat))/\w.cell? ⟨b,2,none⟩=some (.int .u64 (n2:Nat))/\w.cell? ⟨b,3,none⟩=some (.int .u64 (n3:Nat))/\w.cell? ⟨b,4,none⟩=some (.int .u64 (n4:Nat)))/\∀ i,w.frozen? ⟨b,i,none⟩=false:=by
 have h':w.heap[b]?=some _:=h
 refine⟨⟨?_,?_,?_,?_,?_⟩,fun i=>?_⟩ <;> simp[World.cell?,World.frozen?,h']
theorem Nums.set0 {w:World} {b n0 n1 n2 n3 n4:Nat} (h:Nums w b n0 n1 n2 n3 n4) (x:Nat):Nums (w.setCell ⟨b,0,none⟩ (.int .u64 (x:Nat))) b x n1 n2 n3 n4:=by
 have h':w.heap[b]?=some _:=h
 show (w.setCell ⟨b,0,none⟩ _).heap[b]?=_
 simp[World.setCell,Array.getElem?_modify,h']
theorem Nums.set1 {w:World} {b n0 n1 n2 n3 n4:Nat} (h:Nums w b n0 n1 n2 n3 n4) (x:Nat):Nums (w.setCell ⟨b,1,none⟩ (.int .u64 (x:Nat))) b n0 x n2 n3 n4:=by
 have h':w.heap[b]?=some _:=h
 show (w.setCell ⟨b,1,none⟩ _).heap[b]?=_
 simp[World.setCell,Array.getElem?_modify,h']
theorem Nums.set2 {w:World} {b n0 n1 n2 n3 n4:Nat} (h:Nums w b n0 n1 n2 n3 n4) (x:Nat):Nums (w.setCell ⟨b,2,none⟩ (.int .u64 (x:Nat))) b n0 n1 x n3 n4:=by
 have h':w.heap[b]?=some _:=h
 show (w.setCell ⟨b,2,none⟩ _).heap[b]?=_
 simp[World.setCell,Array.getElem?_modify,h']
theorem Nums.set3 {w:World} {b n0 n1 n2 n3 n4:Nat} (h:Nums w b n0 n1 n2 n3 n4) (x:Nat):Nums (w.setCell ⟨b,3,none⟩ (.int .u64 (x:Nat))) b n0 n1 n2 x n4:=by
 have h':w.heap[b]?=some _:=h
 show (w.setCell ⟨b,3,none⟩ _).heap[b]?=_
 simp[World.setCell,Array.getElem?_modify,h']
theorem Nums.set4 {w:World} {b n0 n1 n2 n3 n4:Nat} (h:Nums w b n0 n1 n2 n3 n4) (x:Nat):Nums (w.setCell ⟨b,4,none⟩ (.int .u64 (x:Nat))) b n0 n1 n2 n3 x:=by
 have h':w.heap[b]?=some _:=h
 show (w.setCell ⟨b,4,none⟩ _).heap[b]?=_
 simp[World.setCell,Array.getElem?_modify,h']
def upk (l:List Nat) (k i a n:Nat):Nat:=if i<k then fld l a n else 0
def froms:Nat->Nat
 | 0=>0
 | 1=>2
 | 2=>3
 | 3=>8
 | 4=>9
 | _=>10
theorem wpList_store_tag {ops:Array Oper} {rest:List Oper} {o:Oper} {a:Act} {w:World} {Q:Exit->Act->World->Prop} (hgd:o.guard=none) (x y:Operand) (ho:o.op=.store 127 x y)
 (g:Nat) (hx:a.eval x=.pointer (some ⟨g,0,none⟩)) {p of s c:Int} {l:Bool} (hy:a.eval y=.agg #[.int .i64 p,.int .i64 of,.int .i64 s,.int .i64 c,.bool l]) {p' o' s' c':Int} {l':Bool} (hg:Tg w g p' o' s' c' l')
 (h:∀ w',Tg w' g p of s c l->Chg (·=g) w w'->wpList Tryz.prog ops Q rest (a.put o.dst undef) w'):wpList Tryz.prog ops Q (o :: rest) a w:=
 wpList_store_row hgd 127 x y ho g _ hx hy 127 _ hg size23 rfl (by simp[Value.oneCell']) (h _ (setRow_heap w g _ _ 127 _ hg) ⟨rfl,rfl,rfl,by simp,fun k _ hk=>setRow_other _ _ _ _ hk⟩)
theorem results_tag {fn:Func} {q u:Tmp} (h:fn.results=#[.cell q 127,.tmp u]) (tmps:Array Value) {w:World} {g:Nat} {p o s c:Int} {l:Bool} (hp:tmps.getD q undef=.pointer (some ⟨g,0,none⟩)) (hT:Tg w g p o s c l) :
 (results fn tmps).run Tryz.prog w=.ok (.tuple #[.agg #[.int .i64 p,.int .i64 o,.int .i64 s,.int .i64 c,.bool l],tmps.getD u undef]) w:=by
 rw[results_cell_tmp h,hp]
 simp[asAddr,run_loadVar_row w g 127 127 _ _ _ hT Tryz.underlying127 rfl size23]
theorem idx0 (w:World):(Instr.index 337 (.agg #[.int .i64 2,.int .i64 1,.int .i64 5,.int .i64 1,.int .i64 1]) (.int .i64 0)).run Tryz.prog w=.ok (.int .i64 2) w:=by kernel_rfl
theorem idx1 (w:World):(Instr.index 337 (.agg #[.int .i64 2,.int .i64 1,.int .i64 5,.int .i64 1,.int .i64 1]) (.int .i64 1)).run Tryz.prog w=.ok (.int .i64 1) w:=by kernel_rfl
theorem idx2 (w:World):(Instr.index 337 (.agg #[.int .i64 2,.int .i64 1,.int .i64 5,.int .i64 1,.int .i64 1]) (.int .i64 2)).run Tryz.prog w=.ok (.int .i64 5) w:=by kernel_rfl
theorem idx3 (w:World):(Instr.index 337 (.agg #[.int .i64 2,.int .i64 1,.int .i64 5,.int .i64 1,.int .i64 1]) (.int .i64 3)).run Tryz.prog w=.ok (.int .i64 1) w:=by kernel_rfl
theorem idx4 (w:World):(Instr.index 337 (.agg #[.int .i64 2,.int .i64 1,.int .i64 5,.int .i64 1,.int .i64 1]) (.int .i64 4)).run Tryz.prog w=.ok (.int .i64 1) w:=by kernel_rfl
theorem Tg.setOther {w:World} {b:Nat} {p o s c:Int} {l:Bool} (h:Tg w b p o s c l) {k:Nat} (hg:k≠b) (i:Nat) (v:Value):Tg (w.setCell ⟨k,i,none⟩ v) b p o s c l:=
 (Below.heap_setCell _ _ _ _ (by simp;omega)).trans h
def Gst (w wr:World) (l:List Nat) (k:Nat):Prop:=
 Nums wr (w.heap.size+1) (upk l k 0 0 2) (upk l k 1 2 1) (upk l k 2 3 5) (upk l k 3 8 1) (upk l k 4 9 1)/\Tg wr w.heap.size 0 0 0 0 false/\Chg (fun _=>False) w wr
set_option maxHeartbeats 4000000 in
theorem fields_any (w:World) (c o cap:Nat) (l:List Nat) (hl:Bys l) (hL:l.length=50) (hcap:50<=cap) (hA:At w c o l) :
 Calls Tryz.prog 227 #[.slice (some ⟨c,o,none⟩) 50 cap] w fun e w'=>e=.returned (.tuple #[.agg #[.int .i64 (fld l 0 2:Nat),.int .i64 (fld l 2 1:Nat),.int .i64 (fld l 3 5:Nat),.int .i64 (fld l 8 1:Nat),.bool (((fld l 9 1:Nat):Int) == 1)],.nilIface])/\Chg (fun _=>False) w w':=by
 have HA:=hyd hA
 have HL:=hyd hL
 have x0:=fld_lt hl (a:=0) (n:=2) (by omega)
 have x1:=fld_lt hl (a:=2) (n:=1) (by omega)
 have x2:=fld_lt hl (a:=3) (n:=5) (by omega)
 have x3:=fld_lt hl (a:=8) (n:=1) (by omega)
 have x4:=fld_lt hl (a:=9) (n:=1) (by omega)
 simp only[Nat.reducePow] at x0 x1 x2 x3 x4
 clear hA hL
 have q1:=tneq_nil_nil
 have hcs:c<w.heap.size:=HA.out.1
 go_enter Tryz.func227,Tryz.ntmps227
 go_wp2_with fail
 have S0:Gst w ((w.alloc (.cells #[.int .i64 0,.int .i64 0,.int .i64 0,.int .i64 0,.bool false] 127)).alloc (.cells #[.int .u64 0,.int .u64 0,.int .u64 0,.int .u64 0,.int .u64 0] 336)) l 0:=by
  refine⟨?_,(Tg.new w 0 0 0 0 false).alloc _,((Chg.refl _ w).alloc _).alloc _⟩
  have:=heap_alloc_new (w.alloc (.cells #[.int .i64 0,.int .i64 0,.int .i64 0,.int .i64 0,.bool false] 127)) (.cells #[.int .u64 0,.int .u64 0,.int .u64 0,.int .u64 0,.int .u64 0] 336)
  simpa[Nums,upk] using this
 go_loopw [5,11] (fun f t wr=>∃ k:Nat,k<=5/\t=.int .i64 k/\f=.int .i64 (froms k:Nat)/\Gst w wr l k) (fun _ t _=>5 - (intOf t).toNat)
 case atStart=>exact⟨0,by decide,rfl,rfl,S0⟩
 case round=>
  clear S0
  obtain⟨k,hk,rfl,rfl,a1,a2,a3⟩:=hrel
  have hAr:=HA.out.chg a3 (fun e=>e)
  rcases(by omega:k=0\/k=1\/k=2\/k=3\/k=4\/k=5) with rfl | rfl | rfl | rfl | rfl | rfl
  ·
   have hc:¬ cap=0:=by omega
   have hi:=idx0
   rw[show froms 0=0 from rfl]
   have hc2:((2:Nat):Int)<=(cap:Int):=by omega
   have hcall:=get_n wr (some ⟨c,o,none⟩) 2 cap (seg l 0 2) (by rw[seg_length (by rw[HL.out];decide)]) (seg_bys hl 0 2) (by rw[seg_length (by rw[HL.out];decide)];decide) (by rw[seg_length (by rw[HL.out];decide)];decide) (hAr.held 0 2 cap (by rw[HL.out];decide))
   have HN:Hid (Nums wr (w.heap.size+1) 0 0 0 0 0):=hyd (by simpa[upk] using a1)
   have HT:=hyd a2
   have HG:=hyd a3
   clear hAr a1 a2 a3
   go_wp2_with fail
   refine hcall.mono ?_
   rintro e w2 ⟨rfl,G2⟩
   have N2:=HN.out.chg G2 (fun e=>e)
   obtain⟨⟨k0,k1,k2,k3,k4⟩,kf⟩:=N2.cells
   have HN3:Hid (Nums (w2.setCell ⟨w.heap.size+1,0,none⟩ (.int .u64 (fld l 0 2:Nat))) (w.heap.size+1) (fld l 0 2) 0 0 0 0):=hyd (N2.set0 _)
   have HT3:Hid (Tg (w2.setCell ⟨w.heap.size+1,0,none⟩ (.int .u64 (fld l 0 2:Nat))) w.heap.size 0 0 0 0 false):=hyd ((HT.out.chg G2 (fun e=>e)).setOther (by omega) _ _)
   have HG3:Hid (Chg (fun _=>False) w (w2.setCell ⟨w.heap.size+1,0,none⟩ (.int .u64 (fld l 0 2:Nat)))):=hyd ((HG.out.trans G2).setCell (Or.inr (by omega)) _ _)
   have hf:=kf 0
   clear hcall N2 G2 kf HN HT HG
   rw[show le (seg l 0 2)=fld l 0 2 from rfl]
   go_wp2
   exact⟨⟨1,by decide,rfl,rfl,by simpa[upk] using HN3.out,HT3.out,HG3.out⟩,by simp[intOf]⟩
  ·
   have hc:¬ cap=2:=by omega
   have hi:=idx1
   rw[show froms 1=2 from rfl]
   have hc2:((3:Nat):Int)<=(cap:Int):=by omega
   have hcall:=get_n wr (some ⟨c,o+2,none⟩) 1 (cap - 2) (seg l 2 1) (by rw[seg_length (by rw[HL.out];decide)]) (seg_bys hl 2 1) (by rw[seg_length (by rw[HL.out];decide)];decide) (by rw[seg_length (by rw[HL.out];decide)];decide) (hAr.held 2 1 (cap - 2) (by rw[HL.out];decide))
   have HN:Hid (Nums wr (w.heap.size+1) (fld l 0 2) 0 0 0 0):=hyd (by simpa[upk] using a1)
   have HT:=hyd a2
   have HG:=hyd a3
   clear hAr a1 a2 a3
   go_wp2_with fail
   refine hcall.mono ?_
   rintro e w2 ⟨rfl,G2⟩
   have N2:=HN.out.chg G2 (fun e=>e)
   obtain⟨⟨k0,k1,k2,k3,k4⟩,kf⟩:=N2.cells
   have HN3:Hid (Nums (w2.setCell ⟨w.heap.size+1,1,none⟩ (.int .u64 (fld l 2 1:Nat))) (w.heap.size+1) (fld l 0 2) (fld l 2 1) 0 0 0):=hyd (N2.set1 _)
   have HT3:Hid (Tg (w2.setCell ⟨w.heap.size+1,1,none⟩ (.int .u64 (fld l 2 1:Nat))) w.heap.size 0 0 0 0 false):=hyd ((HT.out.chg G2 (fun e=>e)).setOther (by omega) _ _)
   have HG3:Hid (Chg (fun _=>False) w (w2.setCell ⟨w.heap.size+1,1,none⟩ (.int .u64 (fld l 2 1:Nat)))):=hyd ((HG.out.trans G2).setCell (Or.inr (by omega)) _ _)
   have hf:=kf 1
   clear hcall N2 G2 kf HN HT HG
   rw[show le (seg l 2 1)=fld l 2 1 from rfl]
   go_wp2
   exact⟨⟨2,by decide,rfl,rfl,by simpa[upk] using HN3.out,HT3.out,HG3.out⟩,by simp[intOf]⟩
  ·
   have hc:¬ cap=3:=by omega
   have hi:=idx2
   rw[show froms 2=3 from rfl]
   have hc2:((8:Nat):Int)<=(cap:Int):=by omega
   have hcall:=get_n wr (some ⟨c,o+3,none⟩) 5 (cap - 3) (seg l 3 5) (by rw[seg_length (by rw[HL.out];decide)]) (seg_bys hl 3 5) (by rw[seg_length (by rw[HL.out];decide)];decide) (by rw[seg_length (by rw[HL.out];decide)];decide) (hAr.held 3 5 (cap - 3) (by rw[HL.out];decide))
   have HN:Hid (Nums wr (w.heap.size+1) (fld l 0 2) (fld l 2 1) 0 0 0):=hyd (by simpa[upk] using a1)
   have HT:=hyd a2
   have HG:=hyd a3
   clear hAr a1 a2 a3
   go_wp2_with fail
   refine hcall.mono ?_
   rintro e w2 ⟨rfl,G2⟩
   have N2:=HN.out.chg G2 (fun e=>e)
   obtain⟨⟨k0,k1,k2,k3,k4⟩,kf⟩:=N2.cells
   have HN3:Hid (Nums (w2.setCell ⟨w.heap.size+1,2,none⟩ (.int .u64 (fld l 3 5:Nat))) (w.heap.size+1) (fld l 0 2) (fld l 2 1) (fld l 3 5) 0 0):=hyd (N2.set2 _)
   have HT3:Hid (Tg (w2.setCell ⟨w.heap.size+1,2,none⟩ (.int .u64 (fld l 3 5:Nat))) w.heap.size 0 0 0 0 false):=hyd ((HT.out.chg G2 (fun e=>e)).setOther (by omega) _ _)
   have HG3:Hid (Chg (fun _=>False) w (w2.setCell ⟨w.heap.size+1,2,none⟩ (.int .u64 (fld l 3 5:Nat)))):=hyd ((HG.out.trans G2).setCell (Or.inr (by omega)) _ _)
   have hf:=kf 2
   clear hcall N2 G2 kf HN HT HG
   rw[show le (seg l 3 5)=fld l 3 5 from rfl]
   go_wp2
   exact⟨⟨3,by decide,rfl,rfl,by simpa[upk] using HN3.out,HT3.out,HG3.out⟩,by simp[intOf]⟩
  ·
   have hc:¬ cap=8:=by omega
   have hi:=idx3
   rw[show froms 3=8 from rfl]
   have hc2:((9:Nat):Int)<=(cap:Int):=by omega
   have hcall:=get_n wr (some ⟨c,o+8,none⟩) 1 (cap - 8) (seg l 8 1) (by rw[seg_length (by rw[HL.out];decide)]) (seg_bys hl 8 1) (by rw[seg_length (by rw[HL.out];decide)];decide) (by rw[seg_length (by rw[HL.out];decide)];decide) (hAr.held 8 1 (cap - 8) (by rw[HL.out];decide))
   have HN:Hid (Nums wr (w.heap.size+1) (fld l 0 2) (fld l 2 1) (fld l 3 5) 0 0):=hyd (by simpa[upk] using a1)
   have HT:=hyd a2
   have HG:=hyd a3
   clear hAr a1 a2 a3
   go_wp2_with fail
   refine hcall.mono ?_
   rintro e w2 ⟨rfl,G2⟩
   have N2:=HN.out.chg G2 (fun e=>e)
   obtain⟨⟨k0,k1,k2,k3,k4⟩,kf⟩:=N2.cells
   have HN3:Hid (Nums (w2.setCell ⟨w.heap.size+1,3,none⟩ (.int .u64 (fld l 8 1:Nat))) (w.heap.size+1) (fld l 0 2) (fld l 2 1) (fld l 3 5) (fld l 8 1) 0):=hyd (N2.set3 _)
   have HT3:Hid (Tg (w2.setCell ⟨w.heap.size+1,3,none⟩ (.int .u64 (fld l 8 1:Nat))) w.heap.size 0 0 0 0 false):=hyd ((HT.out.chg G2 (fun e=>e)).setOther (by omega) _ _)
   have HG3:Hid (Chg (fun _=>False) w (w2.setCell ⟨w.heap.size+1,3,none⟩ (.int .u64 (fld l 8 1:Nat)))):=hyd ((HG.out.trans G2).setCell (Or.inr (by omega)) _ _)
   have hf:=kf 3
   clear hcall N2 G2 kf HN HT HG
   rw[show le (seg l 8 1)=fld l 8 1 from rfl]
   go_wp2
   exact⟨⟨4,by decide,rfl,rfl,by simpa[upk] using HN3.out,HT3.out,HG3.out⟩,by simp[intOf]⟩
  ·
   have hc:¬ cap=9:=by omega
   have hi:=idx4
   rw[show froms 4=9 from rfl]
   have hc2:((10:Nat):Int)<=(cap:Int):=by omega
   have hcall:=get_n wr (some ⟨c,o+9,none⟩) 1 (cap - 9) (seg l 9 1) (by rw[seg_length (by rw[HL.out];decide)]) (seg_bys hl 9 1) (by rw[seg_length (by rw[HL.out];decide)];decide) (by rw[seg_length (by rw[HL.out];decide)];decide) (hAr.held 9 1 (cap - 9) (by rw[HL.out];decide))
   have HN:Hid (Nums wr (w.heap.size+1) (fld l 0 2) (fld l 2 1) (fld l 3 5) (fld l 8 1) 0):=hyd (by simpa[upk] using a1)
   have HT:=hyd a2
   have HG:=hyd a3
   clear hAr a1 a2 a3
   go_wp2_with fail
   refine hcall.mono ?_
   rintro e w2 ⟨rfl,G2⟩
   have N2:=HN.out.chg G2 (fun e=>e)
   obtain⟨⟨k0,k1,k2,k3,k4⟩,kf⟩:=N2.cells
   have HN3:Hid (Nums (w2.setCell ⟨w.heap.size+1,4,none⟩ (.int .u64 (fld l 9 1:Nat))) (w.heap.size+1) (fld l 0 2) (fld l 2 1) (fld l 3 5) (fld l 8 1) (fld l 9 1)):=hyd (N2.set4 _)
   have HT3:Hid (Tg (w2.setCell ⟨w.heap.size+1,4,none⟩ (.int .u64 (fld l 9 1:Nat))) w.heap.size 0 0 0 0 false):=hyd ((HT.out.chg G2 (fun e=>e)).setOther (by omega) _ _)
   have HG3:Hid (Chg (fun _=>False) w (w2.setCell ⟨w.heap.size+1,4,none⟩ (.int .u64 (fld l 9 1:Nat)))):=hyd ((HG.out.trans G2).setCell (Or.inr (by omega)) _ _)
   have hf:=kf 4
   clear hcall N2 G2 kf HN HT HG
   rw[show le (seg l 9 1)=fld l 9 1 from rfl]
   go_wp2
   exact⟨⟨5,by decide,rfl,rfl,by simpa[upk] using HN3.out,HT3.out,HG3.out⟩,by simp[intOf]⟩
  ·
   have HN:Hid (Nums wr (w.heap.size+1) (fld l 0 2) (fld l 2 1) (fld l 3 5) (fld l 8 1) (fld l 9 1)):=hyd (by simpa[upk] using a1)
   obtain⟨⟨k0,k1,k2,k3,k4⟩,-⟩:=HN.out.cells
   have HT:=hyd a2
   have HG:=hyd a3
   clear hAr a1 a2 a3
   go_wp2_with (refine wpList_store_tag rfl (.tmp 2) (.tmp 51) rfl w.heap.size rfl rfl HT.out ?_)
   intro w3 T3 G3
   have HT3:=hyd T3
   have HG3:Hid (Chg (fun _=>False) w w3):=hyd (HG.out.trans' G3 (fun i hi ht=>by omega))
   clear T3 G3
   go_wp2
   refine bodyPost_ret (results_tag rfl _ rfl HT3.out) rfl ?_
   exact⟨rfl,HG3.out⟩
end Go.Proofs.YtbhbilcieodbhaaGreat
namespace Go.Proofs.YtbhbilcieodbhaaGreat
open Go.RowKit
set_option maxRecDepth 100000
theorem tu8_inj {T U:List Nat} (hT:Bys T) (hU:Bys U) (h:T.map UInt8.ofNat=U.map UInt8.ofNat):T=U:=by
 have e:∀ L:List Nat,Bys L->(L.map UInt8.ofNat).map UInt8.toNat=L:=by
  intro L hL
  rw[List.map_map]
  conv=>rhs;rw[<-List.map_id L]
  apply List.map_congr_left
  intro n hn
  simp only[Function.comp,id]
  rw[UInt8.toNat_ofNat']
  exact Nat.mod_eq_of_lt (hL n hn)
 rw[<-e T hT,h,e U hU]
theorem str_eq (T U:List Nat) (hT:Bys T) (hU:Bys U):((strOfNums (T.map fun (n:Nat)=>(n:Int))).toList == (strOfNums (U.map fun (n:Nat)=>(n:Int))).toList)=decide (T=U):=by
 rw[ByteArray.toList_eq,ByteArray.toList_eq,strOfNums_data,strOfNums_data,List.map_map,List.map_map]
 have e1:∀ T:List Nat,T.map ((fun (n:Int)=>UInt8.ofNat n.toNat) ∘ fun (n:Nat)=>(n:Int))=T.map UInt8.ofNat:=fun _=>rfl
 rw[e1,e1]
 by_cases h:T=U
 ·
  rw[h];simp
 ·
  rw[decide_eq_false h,beq_eq_false_iff_ne]
  exact fun e=>h (tu8_inj hT hU e)
theorem At.ints {w:World} {c o:Nat} {l:List Nat} (h:At w c o l) {n:Nat} (hn:n=l.length):∀ i,i<n->w.cell? ⟨c,o+i,none⟩=some (.int .u8 ((l.map fun (n:Nat)=>(n:Int)).getD i 0)):=by
 intro i hi
 rw[h.2 i (by omega)]
 simp[List.getD_eq_getElem?_getD]
 cases e:l[i]? <;> simp
set_option maxHeartbeats 1000000 in
theorem equal_any (w:World) (c1 o1 n1 cap1 c2 o2 n2 cap2:Nat) (l1 l2:List Nat) (e1:n1=l1.length) (e2:n2=l2.length) (b1:Bys l1) (b2:Bys l2) (h1:At w c1 o1 l1) (h2:At w c2 o2 l2) :
 Calls Tryz.prog 172 #[.slice (some ⟨c1,o1,none⟩) n1 cap1,.slice (some ⟨c2,o2,none⟩) n2 cap2] w fun e w'=>e=.returned (.bool (decide (l1=l2)))/\w'=w:=by
 have k1:=run_convert_bytes_arg (P:=Tryz.prog) w 35 5 Tryz.underlying35 Tryz.underlying5 c1 o1 n1 cap1 (l1.map fun (n:Nat)=>(n:Int)) (by simp[e1]) (h1.ints e1) 9 Tryz.underlying9
 have k2:=run_convert_bytes_arg (P:=Tryz.prog) w 35 5 Tryz.underlying35 Tryz.underlying5 c2 o2 n2 cap2 (l2.map fun (n:Nat)=>(n:Int)) (by simp[e2]) (h2.ints e2) 9 Tryz.underlying9
 have hq:=str_eq l1 l2 b1 b2
 generalize l1.map (fun (n:Nat)=>(n:Int))=x1 at *
 generalize l2.map (fun (n:Nat)=>(n:Int))=x2 at *
 have HQ:=hyd hq
 clear hq e1 e2 h1 h2
 go_enter Tryz.func172,Tryz.ntmps172
 go_wp2
 go_ret
 exact⟨by rw[<-HQ.out];rfl,rfl⟩
def lst (l:List Nat):Bool:=((fld l 9 1:Nat):Int) == 1
theorem fields_v (w:World) (c o cap:Nat) (l:List Nat) (hl:Bys l) (hL:l.length=50) (hcap:50<=cap) (hA:At w c o l) :
 Calls Tryz.prog 227 #[.slice (some ⟨c,o,none⟩) 50 cap] w fun e w'=>e=.returned (.tuple #[.agg #[.int .i64 (fld l 0 2:Nat),.int .i64 (fld l 2 1:Nat),.int .i64 (fld l 3 5:Nat),.int .i64 (fld l 8 1:Nat),.bool (lst l)],.nilIface])/\Chg (fun _=>False) w w':=
 fields_any w c o cap l hl hL hcap hA
def MayL (l:List Nat):Prop:=May (fld l 0 2:Nat) (fld l 2 1:Nat) (fld l 3 5:Nat) (fld l 8 1:Nat) (lst l)
def bodyL (l:List Nat):List Nat:=body (fld l 0 2) (fld l 2 1) (fld l 3 5) (fld l 8 1) (lst l)
theorem pre_bys (p o s c:Nat) (l:Bool) (k:Nat):Bys (pre p o s c l k):=by
 have app:∀ {x y:List Nat},Bys x->Bys y->Bys (x ++ y):=fun hx hy n hn=>(List.mem_append.1 hn).elim (hx n) (hy n)
 match k with
 | 0=>exact fun n hn=>by cases hn
 | 1=>exact bts_bys _ _
 | 2=>exact app (bts_bys _ _) (bts_bys _ _)
 | 3=>exact app (app (bts_bys _ _) (bts_bys _ _)) (bts_bys _ _)
 | 4=>exact app (app (app (bts_bys _ _) (bts_bys _ _)) (bts_bys _ _)) (bts_bys _ _)
 | _+5=>exact app (app (app (app (bts_bys _ _) (bts_bys _ _)) (bts_bys _ _)) (bts_bys _ _)) (bts_bys _ _)
theorem body_bys (p o s c:Nat) (l:Bool):Bys (body p o s c l):=fun n hn=>(List.mem_append.1 hn).elim (pre_bys p o s c l 5 n) (fun h=>by rw[(List.mem_replicate.1 h).2];decide)
theorem Arr.at_ {w:World} {g:Nat} {l:List Nat} (h:Arr w g 5 l):At w g 0 l:=⟨h.lt,fun i hi=>by rw[Nat.zero_add];exact h.cell i hi⟩
theorem build23 (w:World):(Instr.build 127 #[]).run Tryz.prog w=.ok (.agg #[.int .i64 0,.int .i64 0,.int .i64 0,.int .i64 0,.bool false]) w:=by kernel_rfl
set_option maxHeartbeats 2000000 in
theorem tdecode_arg (w:World) (a:Option Addr) (n cap:Nat) (hn:n≠50) :
 Calls Tryz.prog 198 #[.slice a n cap] w fun e w'=>e=.returned (.tuple #[.agg #[.int .i64 0,.int .i64 0,.int .i64 0,.int .i64 0,.bool false],.iface 56 (.int .i64 1)])/\Chg (fun _=>False) w w':=by
 have hn':((n:Int) != 50)=true:=by simp only[bne_iff_ne,ne_eq];omega
 have hb:=build23
 have HT:=hyd (Tg.new w 0 0 0 0 false)
 have G0:Chg (fun _=>False) w (w.alloc (.cells #[.int .i64 0,.int .i64 0,.int .i64 0,.int .i64 0,.bool false] 127)):=(Chg.refl _ w).alloc _
 have HG:=hyd G0
 clear hn G0
 go_enter Tryz.func198,Tryz.ntmps198
 go_wp2_with (refine wpList_store_tag rfl (.tmp 2) (.tmp 11) rfl w.heap.size rfl rfl HT.out ?_)
 intro w3 T3 G3
 have HT3:=hyd T3
 have HG3:Hid (Chg (fun _=>False) w w3):=hyd (HG.out.trans' G3 (fun i hi ht=>by omega))
 clear T3 G3
 go_wp2
 refine bodyPost_ret (results_tag rfl _ rfl HT3.out) rfl ?_
 exact⟨rfl,HG3.out⟩
set_option maxHeartbeats 4000000 in
theorem decode_may (w:World) (c o cap:Nat) (l:List Nat) (hl:Bys l) (hL:l.length=50) (hcap:50<=cap) (hA:At w c o l) (hm:¬ MayL l) :
 Calls Tryz.prog 198 #[.slice (some ⟨c,o,none⟩) 50 cap] w fun e w'=>e=.returned (.tuple #[.agg #[.int .i64 0,.int .i64 0,.int .i64 0,.int .i64 0,.bool false],.iface 56 (.int .i64 3)])/\Chg (fun _=>False) w w':=by
 have hb:=build23
 have HT:=hyd (Tg.new w 0 0 0 0 false)
 have G0:Chg (fun _=>False) w (w.alloc (.cells #[.int .i64 0,.int .i64 0,.int .i64 0,.int .i64 0,.bool false] 127)):=(Chg.refl _ w).alloc _
 have A0:=hA.chg G0 (fun e=>e)
 have hf:=fields_v _ c o cap l hl hL hcap A0
 have he:=fun w=>encode_no w _ _ _ _ _ hm
 have q1:=tneq_nil_nil
 have q2:=tneq_arg_nil
 have HG:=hyd G0
 clear hA hm G0 A0 hL
 go_enter Tryz.func198,Tryz.ntmps198
 go_wp2_with fail
 refine hf.mono ?_
 rintro e w1 ⟨rfl,G1⟩
 clear hf
 have HT1:=hyd (HT.out.chg G1 (fun e=>e))
 have HG1:=hyd (HG.out.trans G1)
 clear G1 HT HG
 go_wp2_with fail
 have T2:=HT1.out.alloc (.cells #[.int .i64 (fld l 0 2:Nat),.int .i64 (fld l 2 1:Nat),.int .i64 (fld l 3 5:Nat),.int .i64 (fld l 8 1:Nat),.bool (lst l)] 127)
 have V2:=Tg.new w1 (fld l 0 2:Nat) (fld l 2 1:Nat) (fld l 3 5:Nat) (fld l 8 1:Nat) (lst l)
 have G2:=HG1.out.alloc (.cells #[.int .i64 (fld l 0 2:Nat),.int .i64 (fld l 2 1:Nat),.int .i64 (fld l 3 5:Nat),.int .i64 (fld l 8 1:Nat),.bool (lst l)] 127)
 have hsz:=HG1.out.size
 refine(he _).mono ?_
 rintro e w2 ⟨rfl,G3⟩
 clear he
 have HT2:=hyd (T2.chg G3 (fun e=>e))
 have HG2:=hyd (G2.trans G3)
 clear T2 V2 G2 G3 HT1 HG1
 go_wp2_with (refine wpList_store_tag rfl (.tmp 2) (.tmp 35) rfl w.heap.size rfl rfl HT2.out ?_)
 intro w3 T3 G3
 have HT3:=hyd T3
 have HG3:Hid (Chg (fun _=>False) w w3):=hyd (HG2.out.trans' G3 (fun i hi ht=>by omega))
 clear T3 G3
 go_wp2
 refine bodyPost_ret (results_tag rfl _ rfl HT3.out) rfl ?_
 exact⟨rfl,HG3.out⟩
set_option maxHeartbeats 4000000 in
theorem decode_other (w:World) (c o cap:Nat) (l:List Nat) (hl:Bys l) (hL:l.length=50) (hcap:50<=cap) (hA:At w c o l) (hm:MayL l) (hne:¬ bodyL l=l) :
 Calls Tryz.prog 198 #[.slice (some ⟨c,o,none⟩) 50 cap] w fun e w'=>e=.returned (.tuple #[.agg #[.int .i64 0,.int .i64 0,.int .i64 0,.int .i64 0,.bool false],.iface 56 (.int .i64 3)])/\Chg (fun _=>False) w w':=by
 have hb:=build23
 have HT:=hyd (Tg.new w 0 0 0 0 false)
 have G0:Chg (fun _=>False) w (w.alloc (.cells #[.int .i64 0,.int .i64 0,.int .i64 0,.int .i64 0,.bool false] 127)):=(Chg.refl _ w).alloc _
 have A0:=hA.chg G0 (fun e=>e)
 have hf:=fields_v _ c o cap l hl hL hcap A0
 have he:=fun w=>encode_yes w _ _ _ _ _ hm
 have hd:=decide_eq_false hne
 have q1:=tneq_nil_nil
 have HG:=hyd G0
 have HA:=hyd hA
 have HL:=hyd hL
 clear hA hm G0 A0 hL hne
 go_enter Tryz.func198,Tryz.ntmps198
 go_wp2_with fail
 refine hf.mono ?_
 rintro e w1 ⟨rfl,G1⟩
 clear hf
 have HT1:=hyd (HT.out.chg G1 (fun e=>e))
 have HG1:=hyd (HG.out.trans G1)
 clear G1 HT HG
 go_wp2_with fail
 have T2:=HT1.out.alloc (.cells #[.int .i64 (fld l 0 2:Nat),.int .i64 (fld l 2 1:Nat),.int .i64 (fld l 3 5:Nat),.int .i64 (fld l 8 1:Nat),.bool (lst l)] 127)
 have V2:=Tg.new w1 (fld l 0 2:Nat) (fld l 2 1:Nat) (fld l 3 5:Nat) (fld l 8 1:Nat) (lst l)
 have G2:=HG1.out.alloc (.cells #[.int .i64 (fld l 0 2:Nat),.int .i64 (fld l 2 1:Nat),.int .i64 (fld l 3 5:Nat),.int .i64 (fld l 8 1:Nat),.bool (lst l)] 127)
 have hsz:=HG1.out.size
 refine(he _).mono ?_
 rintro e w2 ⟨g,rfl,hg,A3,G3⟩
 clear he
 have T3:=T2.chg G3 (fun e=>e)
 have V3:=V2.chg G3 (fun e=>e)
 have G03:=G2.trans G3
 have hq:=equal_any w2 g 0 50 50 c o 50 cap (bodyL l) l (body_length _ _ _ _ _).symm HL.out.symm (body_bys _ _ _ _ _) hl A3.at_ (HA.out.chg G03 (fun e=>e))
 rw[hd] at hq
 have HT2:=hyd T3
 have HV2:=hyd V3
 have HG2:=hyd G03
 clear T2 V2 G2 G3 HT1 HG1 A3 T3 V3 G03
 go_wp2_with fail
 refine hq.mono ?_
 rintro e w4 ⟨rfl,rfl⟩
 clear hq
 go_wp2_with (refine wpList_store_tag rfl (.tmp 2) (.tmp 35) rfl w.heap.size rfl rfl HT2.out ?_)
 intro w5 T5 G5
 have HT3:=hyd T5
 have HG3:Hid (Chg (fun _=>False) w w5):=hyd (HG2.out.trans' G5 (fun i hi ht=>by omega))
 clear T5 G5
 go_wp2
 refine bodyPost_ret (results_tag rfl _ rfl HT3.out) rfl ?_
 exact⟨rfl,HG3.out⟩
set_option maxHeartbeats 4000000 in
theorem decode_yes (w:World) (c o cap:Nat) (l:List Nat) (hl:Bys l) (hL:l.length=50) (hcap:50<=cap) (hA:At w c o l) (hm:MayL l) (hne:bodyL l=l) :
 Calls Tryz.prog 198 #[.slice (some ⟨c,o,none⟩) 50 cap] w fun e w'=>e=.returned (.tuple #[.agg #[.int .i64 (fld l 0 2:Nat),.int .i64 (fld l 2 1:Nat),.int .i64 (fld l 3 5:Nat),.int .i64 (fld l 8 1:Nat),.bool (lst l)],.nilIface])/\Chg (fun _=>False) w w':=by
 have hb:=build23
 have HT:=hyd (Tg.new w 0 0 0 0 false)
 have G0:Chg (fun _=>False) w (w.alloc (.cells #[.int .i64 0,.int .i64 0,.int .i64 0,.int .i64 0,.bool false] 127)):=(Chg.refl _ w).alloc _
 have A0:=hA.chg G0 (fun e=>e)
 have hf:=fields_v _ c o cap l hl hL hcap A0
 have he:=fun w=>encode_yes w _ _ _ _ _ hm
 have hd:=decide_eq_true hne
 have q1:=tneq_nil_nil
 have HG:=hyd G0
 have HA:=hyd hA
 have HL:=hyd hL
 clear hA hm G0 A0 hL hne
 go_enter Tryz.func198,Tryz.ntmps198
 go_wp2_with fail
 refine hf.mono ?_
 rintro e w1 ⟨rfl,G1⟩
 clear hf
 have HT1:=hyd (HT.out.chg G1 (fun e=>e))
 have HG1:=hyd (HG.out.trans G1)
 clear G1 HT HG
 go_wp2_with fail
 have T2:=HT1.out.alloc (.cells #[.int .i64 (fld l 0 2:Nat),.int .i64 (fld l 2 1:Nat),.int .i64 (fld l 3 5:Nat),.int .i64 (fld l 8 1:Nat),.bool (lst l)] 127)
 have V2:=Tg.new w1 (fld l 0 2:Nat) (fld l 2 1:Nat) (fld l 3 5:Nat) (fld l 8 1:Nat) (lst l)
 have G2:=HG1.out.alloc (.cells #[.int .i64 (fld l 0 2:Nat),.int .i64 (fld l 2 1:Nat),.int .i64 (fld l 3 5:Nat),.int .i64 (fld l 8 1:Nat),.bool (lst l)] 127)
 have hsz:=HG1.out.size
 refine(he _).mono ?_
 rintro e w2 ⟨g,rfl,hg,A3,G3⟩
 clear he
 have T3:=T2.chg G3 (fun e=>e)
 have V3:=V2.chg G3 (fun e=>e)
 have G03:=G2.trans G3
 have hq:=equal_any w2 g 0 50 50 c o 50 cap (bodyL l) l (body_length _ _ _ _ _).symm HL.out.symm (body_bys _ _ _ _ _) hl A3.at_ (HA.out.chg G03 (fun e=>e))
 rw[hd] at hq
 have HT2:=hyd T3
 have HV2:=hyd V3
 have HG2:=hyd G03
 clear T2 V2 G2 G3 HT1 HG1 A3 T3 V3 G03
 go_wp2_with fail
 refine hq.mono ?_
 rintro e w4 ⟨rfl,rfl⟩
 clear hq
 obtain⟨v0,v1,v2,v3,v4⟩:=HV2.out.cells
 go_wp2_with (refine wpList_store_tag rfl (.tmp 2) (.tmp 37) rfl w.heap.size rfl rfl HT2.out ?_)
 intro w5 T5 G5
 have HT3:=hyd T5
 have HG3:Hid (Chg (fun _=>False) w w5):=hyd (HG2.out.trans' G5 (fun i hi ht=>by omega))
 clear T5 G5
 go_wp2
 refine bodyPost_ret (results_tag rfl _ rfl HT3.out) rfl ?_
 exact⟨rfl,HG3.out⟩
def IsB (l:List Nat):Prop:=MayL l/\bodyL l=l
theorem decode_no (w:World) (c o cap:Nat) (l:List Nat) (hl:Bys l) (hL:l.length=50) (hcap:50<=cap) (hA:At w c o l) (hn:¬ IsB l) :
 Calls Tryz.prog 198 #[.slice (some ⟨c,o,none⟩) 50 cap] w fun e w'=>e=.returned (.tuple #[.agg #[.int .i64 0,.int .i64 0,.int .i64 0,.int .i64 0,.bool false],.iface 56 (.int .i64 3)])/\Chg (fun _=>False) w w':=by
 by_cases h:MayL l
 ·
  exact decode_other w c o cap l hl hL hcap hA h (fun e=>hn ⟨h,e⟩)
 ·
  exact decode_may w c o cap l hl hL hcap hA h
end Go.Proofs.YtbhbilcieodbhaaGreat
namespace Go.Proofs.YtbhbilcieodbhaaGreat
open Go.RowKit
set_option maxRecDepth 100000
def TDecAns (l:List Nat) (v:Value) (e:Value):Prop:=
 (l.length≠50/\v=.agg #[.int .i64 0,.int .i64 0,.int .i64 0,.int .i64 0,.bool false]/\e=.iface 56 (.int .i64 1)) \/
 (l.length=50/\¬ IsB l/\v=.agg #[.int .i64 0,.int .i64 0,.int .i64 0,.int .i64 0,.bool false]/\e=.iface 56 (.int .i64 3)) \/
 (l.length=50/\IsB l/\v=.agg #[.int .i64 (fld l 0 2:Nat),.int .i64 (fld l 2 1:Nat),.int .i64 (fld l 3 5:Nat),.int .i64 (fld l 8 1:Nat),.bool (lst l)]/\e=.nilIface)
theorem tdecode_any (w:World) (a:Option Addr) (n cap:Nat) (l:List Nat) (hl:Bys l) (hn:n=l.length) (hcap:n<=cap) (hH:Held w (.slice a n cap) l) :
 Calls Tryz.prog 198 #[.slice a n cap] w fun e w'=>∃ v x,e=.returned (.tuple #[v,x])/\TDecAns l v x/\Chg (fun _=>False) w w':=by
 by_cases h5:l.length=50
 ·
  obtain rfl:n=50:=by omega
  obtain⟨c,o,rfl,hc,hcc⟩:=hH.at_ (by omega)
  by_cases hI:IsB l
  ·
   refine(decode_yes w c o cap l hl h5 hcap ⟨hc,hcc⟩ hI.1 hI.2).mono ?_
   rintro e w' ⟨rfl,G⟩
   exact⟨_,_,rfl,Or.inr (Or.inr ⟨h5,hI,rfl,rfl⟩),G⟩
  ·
   refine(decode_no w c o cap l hl h5 hcap ⟨hc,hcc⟩ hI).mono ?_
   rintro e w' ⟨rfl,G⟩
   exact⟨_,_,rfl,Or.inr (Or.inl ⟨h5,hI,rfl,rfl⟩),G⟩
 ·
  refine(tdecode_arg w a n cap (by omega)).mono ?_
  rintro e w' ⟨rfl,G⟩
  exact⟨_,_,rfl,Or.inl ⟨h5,rfl,rfl⟩,G⟩
end Go.Proofs.YtbhbilcieodbhaaGreat
namespace Go.Proofs.YtbhbilcieodbhaaGreat
open Go.RowKit
set_option maxRecDepth 100000
theorem body_seg (p o s c:Nat) (l:Bool):body p o s c l=bts p 2 ++ (bts o 1 ++ (bts s 5 ++ (bts c 1 ++ (bts l.toNat 1 ++ List.replicate 40 0)))):=by
 simp[body,row,pre,bts_length]
theorem seg_skip (x y:List Nat) (a n:Nat):seg (x ++ y) (x.length+a) n=seg y a n:=by
 simp[seg,List.drop_append,List.drop_eq_nil_of_le (show x.length<=x.length+a by omega)]
theorem seg_here (x y:List Nat) (n:Nat) (h:n=x.length):seg (x ++ y) 0 n=x:=by
 subst h
 simp[seg]
theorem fld_back (p o s c:Nat) (l:Bool) (h:May p o s c l):fld (body p o s c l) 0 2=p/\fld (body p o s c l) 2 1=o/\fld (body p o s c l) 3 5=s/\fld (body p o s c l) 8 1=c/\lst (body p o s c l)=l:=by
 have e0:=h.pl
 have e1:=h.ol
 have e2:=h.sl
 have e3:=h.cl
 have f0:fld (body p o s c l) 0 2=p:=by
  rw[fld,body_seg,seg_here _ _ _ (bts_length _ _).symm,le_bts]
  exact Nat.mod_eq_of_lt (by omega)
 have f1:fld (body p o s c l) 2 1=o:=by
  have:=seg_skip (bts p 2) (bts o 1 ++ (bts s 5 ++ (bts c 1 ++ (bts l.toNat 1 ++ List.replicate 40 0)))) 0 1
  rw[bts_length] at this
  rw[fld,body_seg,this,seg_here _ _ _ (bts_length _ _).symm,le_bts]
  exact Nat.mod_eq_of_lt (by omega)
 have f2:fld (body p o s c l) 3 5=s:=by
  have:=seg_skip (bts p 2 ++ bts o 1) (bts s 5 ++ (bts c 1 ++ (bts l.toNat 1 ++ List.replicate 40 0))) 0 5
  rw[List.length_append,bts_length,bts_length,List.append_assoc] at this
  rw[fld,body_seg,this,seg_here _ _ _ (bts_length _ _).symm,le_bts]
  exact Nat.mod_eq_of_lt (by omega)
 have f3:fld (body p o s c l) 8 1=c:=by
  have:=seg_skip (bts p 2 ++ (bts o 1 ++ bts s 5)) (bts c 1 ++ (bts l.toNat 1 ++ List.replicate 40 0)) 0 1
  simp only[List.length_append,bts_length,List.append_assoc] at this
  rw[fld,body_seg,this,seg_here _ _ _ (bts_length _ _).symm,le_bts]
  exact Nat.mod_eq_of_lt (by omega)
 have f4:fld (body p o s c l) 9 1=l.toNat:=by
  have:=seg_skip (bts p 2 ++ (bts o 1 ++ (bts s 5 ++ bts c 1))) (bts l.toNat 1 ++ List.replicate 40 0) 0 1
  simp only[List.length_append,bts_length,List.append_assoc] at this
  rw[fld,body_seg,this,seg_here _ _ _ (bts_length _ _).symm,le_bts]
  exact Nat.mod_eq_of_lt (by cases l <;> decide)
 refine⟨f0,f1,f2,f3,?_⟩
 rw[lst,f4]
 cases l <;> rfl
theorem body_is (p o s c:Nat) (l:Bool) (h:May p o s c l):IsB (body p o s c l):=by
 obtain⟨f0,f1,f2,f3,f4⟩:=fld_back p o s c l h
 unfold IsB MayL bodyL
 rw[f0,f1,f2,f3,f4]
 exact⟨h,rfl⟩
end Go.Proofs.YtbhbilcieodbhaaGreat
/-
  Blocks of many cells, told by a function; parts of them, read and written whole. No condition: lemmas. What a chip is: its chunks, its blocks, its power, its steps; and how it lies in memory. No condition: lemmas. A chunk's own functions: cleared, programmed, its damage, turned; the counters. Conditions: it lies in its block.
-/
namespace Go.Proofs.YtbhbilcieodbhaaGreat
open Go.RowKit
set_option maxRecDepth 100000
def Sto (w:World) (g:Nat) (t:TypeId) (n:Nat) (f:Nat->Value):Prop:=
 ∃ cs:Array Value,w.heap[g]?=some (.cells cs t)/\cs.size=n/\∀ i,i<n->cs[i]?=some (f i)
def upL (f:Nat->Value) (o:Nat) (vs:List Value):Nat->Value:=fun i=>if o<=i/\i<o+vs.length then vs.getD (i - o) undef else f i
def Seg (f:Nat->Value) (o:Nat) (vs:List Value):Prop:=∀ j v,vs[j]?=some v->f (o+j)=v
theorem Sto.lt {w:World} {g:Nat} {t:TypeId} {n:Nat} {f:Nat->Value} (h:Sto w g t n f):g<w.heap.size:=by
 obtain⟨cs,h1,_⟩:=h
 exact(Array.getElem?_eq_some_iff.1 h1).1
theorem Sto.cell {w:World} {g:Nat} {t:TypeId} {n:Nat} {f:Nat->Value} (h:Sto w g t n f) (i:Nat) (hi:i<n):w.cell? ⟨g,i,none⟩=some (f i):=by
 obtain⟨cs,h1,h2,h3⟩:=h
 rw[cell_of_row w g i _ _ _ h1]
 exact h3 i hi
theorem Sto.frozen {w:World} {g:Nat} {t:TypeId} {n:Nat} {f:Nat->Value} (h:Sto w g t n f) (i:Nat):w.frozen? ⟨g,i,none⟩=false:=by
 obtain⟨cs,h1,h2,h3⟩:=h
 exact frozen_of_row w g i _ _ h1
theorem Sto.other {w w':World} {g:Nat} {t:TypeId} {n:Nat} {f:Nat->Value} (h:Sto w g t n f) (e:w'.heap[g]?=w.heap[g]?):Sto w' g t n f:=by
 obtain⟨cs,h1,h2,h3⟩:=h
 exact⟨cs,e.trans h1,h2,h3⟩
theorem Sto.chg {S:Nat->Prop} {w w':World} {g:Nat} {t:TypeId} {n:Nat} {f:Nat->Value} (h:Sto w g t n f) (hc:Chg S w w') (hg:¬ S g):Sto w' g t n f:=h.other (hc.block g h.lt hg)
theorem Sto.alloc {w:World} {g:Nat} {t:TypeId} {n:Nat} {f:Nat->Value} (h:Sto w g t n f) (o:Obj):Sto (w.alloc o) g t n f:=h.other (Below.heap_alloc _ _ _ h.lt)
theorem Sto.ext {w:World} {g:Nat} {t:TypeId} {n:Nat} {f f':Nat->Value} (h:Sto w g t n f) (e:∀ i,i<n->f i=f' i):Sto w g t n f':=by
 obtain⟨cs,h1,h2,h3⟩:=h
 exact⟨cs,h1,h2,fun i hi=>by rw[h3 i hi,e i hi]⟩
theorem upL_one (f:Nat->Value) (o:Nat) (v:Value) (i:Nat):upL f o [v] i=if i=o then v else f i:=by
 unfold upL
 by_cases h:i=o
 ·
  subst h;simp
 ·
  rw[if_neg (by simp;omega),if_neg h]
theorem Sto.setCell {w:World} {g:Nat} {t:TypeId} {n:Nat} {f:Nat->Value} (h:Sto w g t n f) (o:Nat) (v:Value):Sto (w.setCell ⟨g,o,none⟩ v) g t n (upL f o [v]):=by
 obtain⟨cs,h1,h2,h3⟩:=h
 refine⟨cs.setIfInBounds o v,by simp[World.setCell,Array.getElem?_modify,h1],by simpa using h2,fun i hi=>?_⟩
 rw[upL_one]
 by_cases e:i=o
 ·
  subst e
  rw[if_pos rfl,Array.getElem?_setIfInBounds_self_of_lt (by omega)]
 ·
  rw[if_neg e,Array.getElem?_setIfInBounds_ne (by omega),h3 i hi]
theorem Sto.setCells {g:Nat} {t:TypeId} {n:Nat}:∀ (vs:List Value) (o:Nat) {w:World} {f:Nat->Value} (_:Sto w g t n f),Sto (w.setCells g o vs) g t n (upL f o vs)
 | [],o,w,f,h=>h.ext fun i _=>by unfold upL;rw[if_neg (by intro hh;simp at hh;omega)]
 | v :: r,o,w,f,h=>by
  rw[World.setCells]
  refine(Sto.setCells r (o+1) (h.setCell o v)).ext fun i _=>?_
  unfold upL
  by_cases e:i=o
  ·
   subst e;rw[if_neg (by omega),if_pos (by simp),if_pos (by simp)];simp
  ·
   by_cases h2:o+1<=i/\i<o+1+r.length
   ·
    rw[if_pos h2,if_pos (by simp;omega),show i - o=(i - (o+1))+1 from by omega,List.getD_cons_succ]
   ·
    rw[if_neg h2,if_neg (by simp;omega),if_neg (by simp;omega)]
theorem Chg.setCells {S:Nat->Prop} {u:World} {g:Nat} (hg:S g\/u.heap.size<=g):∀ (vs:List Value) (o:Nat) {w:World} (_:Chg S u w),Chg S u (w.setCells g o vs)
 | [],_,_,h=>h
 | v :: r,o,w,h=>by rw[World.setCells];exact Chg.setCells hg r (o+1) (h.setCell hg o v)
theorem Seg.range {w:World} {g:Nat} {t:TypeId} {n:Nat} {f:Nat->Value} (h:Sto w g t n f) {o:Nat} {vs:List Value} (hs:Seg f o vs) (ho:o+vs.length<=n):w.rangeAt g o vs:=fun j v hv=>by
 have hj:j<vs.length:=(List.getElem?_eq_some_iff.1 hv).1
 rw[h.cell _ (by omega),hs j v hv]
theorem Sto.there {w:World} {g:Nat} {t:TypeId} {n:Nat} {f:Nat->Value} (h:Sto w g t n f) (o m:Nat) (ho:o+m<=n):w.there g o m:=fun j hj=>⟨by rw[h.cell _ (by omega)];rfl,h.frozen _⟩
theorem upL_seg (f:Nat->Value) (o:Nat) (vs:List Value):Seg (upL f o vs) o vs:=fun j v hv=>by
 have hj:j<vs.length:=(List.getElem?_eq_some_iff.1 hv).1
 unfold upL
 rw[if_pos (by omega),show o+j - o=j from by omega,List.getD_eq_getElem?_getD,hv];rfl
theorem Seg.sub {f:Nat->Value} {o:Nat} {vs us:List Value} (h:Seg f o vs) (j:Nat) (hu:∀ i v,us[i]?=some v->vs[j+i]?=some v):Seg f (o+j) us:=fun i v hv=>by
 have:=h (j+i) v (hu i v hv)
 rw[<-this];congr 1;omega
def layV (vs:List Value) (j:Nat) (us:List Value):List Value:=vs.take j ++ (us ++ vs.drop (j+us.length))
theorem layV_length {vs:List Value} {j:Nat} {us:List Value} (h:j+us.length<=vs.length):(layV vs j us).length=vs.length:=by simp[layV];omega
theorem upL_upL (f:Nat->Value) (o:Nat) (vs:List Value) (j:Nat) (us:List Value) (h:j+us.length<=vs.length):upL (upL f o vs) (o+j) us=upL f o (layV vs j us):=by
 funext i
 have hl:=layV_length h
 unfold upL
 rw[hl]
 by_cases h1:o+j<=i/\i<o+j+us.length
 ·
  rw[if_pos h1,if_pos (by omega)]
  simp only[List.getD_eq_getElem?_getD,layV]
  rw[List.getElem?_append_right (by simp;omega),List.getElem?_append_left (by simp;omega)]
  congr 2
  simp;omega
 ·
  rw[if_neg h1]
  by_cases h2:o<=i/\i<o+vs.length
  ·
   rw[if_pos h2,if_pos h2]
   simp only[List.getD_eq_getElem?_getD,layV]
   by_cases h3:i<o+j
   ·
    rw[List.getElem?_append_left (by simp;omega),List.getElem?_take_of_lt (by omega)]
   ·
    rw[List.getElem?_append_right (by simp;omega),List.getElem?_append_right (by simp;omega),List.getElem?_drop]
    congr 2
    simp;omega
  ·
   rw[if_neg h2,if_neg h2]
end Go.Proofs.YtbhbilcieodbhaaGreat
namespace Go.Proofs.YtbhbilcieodbhaaGreat
open Go.RowKit
set_option maxRecDepth 100000
structure Chk where
 now:List Nat
 tru:List Nat
 is:Bool
 worst:Nat
structure Blo where
 failed:Bool
 wf:Bool
 ahead:Nat
 ef:Bool
 reads:Int
structure Chp where
 ch:Nat->Chk
 bl:Nat->Blo
 on:Bool
 lim:Bool
 bud:Nat
 steps:Int
structure Chk.Ok (k:Chk):Prop where
 now:k.now.length=64
 tru:k.tru.length=64
 nowB:Bys k.now
 truB:Bys k.tru
 worst:k.worst<=64
structure Blo.Ok (b:Blo):Prop where
 ahead:b.ahead<9223372036854775808
 none:b.wf=false->b.ahead=0
 lo : -9223372036854775808<=b.reads
 hi:b.reads<9223372036854775808
structure Chp.Ok (s:Chp):Prop where
 ch:∀ c,(s.ch c).Ok
 bl:∀ b,(s.bl b).Ok
 bud:s.bud<9223372036854775808
 lo : -9223372036854775808<=s.steps
 hi:s.steps<9223372036854775808
def ckc (k:Chk):List Value:=k.now.map byt ++ (k.tru.map byt ++ [.bool k.is,.int .i64 k.worst])
theorem ckc_length {k:Chk} (h1:k.now.length=64) (h2:k.tru.length=64):(ckc k).length=130:=by simp[ckc,h1,h2]
def blc (b:Blo):List Value:=[.bool b.failed,.bool b.wf,.int .i64 b.ahead,.bool b.ef]
def pwc (s:Chp):List Value:=[.bool s.on,.bool s.lim,.int .i64 s.bud,.int .i64 s.steps]
def ccell (s:Chp) (i:Nat):Value:=
 if i<49920 then (ckc (s.ch (i / 130))).getD (i % 130) undef else
 if i<49968 then (blc (s.bl ((i - 49920) / 4))).getD ((i - 49920) % 4) undef else
 if i<49980 then .int .i64 (s.bl (i - 49968)).reads else (pwc s).getD (i - 49980) undef
def Chp.setCh (s:Chp) (c:Nat) (k:Chk):Chp:={ s with ch:=fun j=>if j=c then k else s.ch j }
def Chp.setBl (s:Chp) (b:Nat) (x:Blo):Chp:={ s with bl:=fun j=>if j=b then x else s.bl j }
def ChipAt (w:World) (g:Nat) (s:Chp):Prop:=Sto w g 96 49984 (ccell s)
theorem ccell_ch (s:Chp) (hs:s.Ok) (c:Nat) (hc:c<384):Seg (ccell s) (130*c) (ckc (s.ch c)):=fun j v hv=>by
 have hl:=ckc_length (hs.ch c).now (hs.ch c).tru
 have hj:j<130:=by have:=(List.getElem?_eq_some_iff.1 hv).1;omega
 unfold ccell
 rw[if_pos (by omega),show (130*c+j) / 130=c from by omega,show (130*c+j) % 130=j from by omega,List.getD_eq_getElem?_getD,hv];rfl
theorem ccell_bl (s:Chp) (b:Nat) (hb:b<12):Seg (ccell s) (49920+4*b) (blc (s.bl b)):=fun j v hv=>by
 have hj:j<4:=by have:=(List.getElem?_eq_some_iff.1 hv).1;simpa[blc] using this
 unfold ccell
 rw[if_neg (by omega),if_pos (by omega),show (49920+4*b+j - 49920) / 4=b from by omega,show (49920+4*b+j - 49920) % 4=j from by omega,List.getD_eq_getElem?_getD,hv];rfl
theorem ccell_reads (s:Chp) (b:Nat) (hb:b<12):ccell s (49968+b)=.int .i64 (s.bl b).reads:=by
 unfold ccell
 rw[if_neg (by omega),if_neg (by omega),if_pos (by omega),show 49968+b - 49968=b from by omega]
theorem ccell_setCh (s:Chp) (c:Nat) (hc:c<384) (k:Chk) (hk:(ckc k).length=130) (i:Nat):upL (ccell s) (130*c) (ckc k) i=ccell (s.setCh c k) i:=by
 unfold upL
 rw[hk]
 by_cases h:130*c<=i/\i<130*c+130
 ·
  rw[if_pos h]
  unfold ccell
  rw[if_pos (by omega),show i / 130=c from by omega]
  simp only[Chp.setCh,if_pos]
  congr 1;omega
 ·
  rw[if_neg h]
  unfold ccell
  by_cases h1:i<49920
  ·
   rw[if_pos h1,if_pos h1]
   simp only[Chp.setCh]
   rw[if_neg (by omega)]
  ·
   rw[if_neg h1,if_neg h1];rfl
theorem ccell_setBl (s:Chp) (b:Nat) (hb:b<12) (x:Blo) (hx:x.reads=(s.bl b).reads) (i:Nat):upL (ccell s) (49920+4*b) (blc x) i=ccell (s.setBl b x) i:=by
 unfold upL
 rw[show (blc x).length=4 from rfl]
 by_cases h:49920+4*b<=i/\i<49920+4*b+4
 ·
  rw[if_pos h]
  unfold ccell
  rw[if_neg (by omega),if_pos (by omega),show (i - 49920) / 4=b from by omega]
  simp only[Chp.setBl,if_pos]
  rw[show (i - 49920) % 4=i - (49920+4*b) from by omega]
 ·
  rw[if_neg h]
  unfold ccell
  by_cases h1:i<49920
  ·
   rw[if_pos h1,if_pos h1];rfl
  ·
   rw[if_neg h1,if_neg h1]
   by_cases h2:i<49968
   ·
    rw[if_pos h2,if_pos h2]
    simp only[Chp.setBl]
    rw[if_neg (by omega)]
   ·
    rw[if_neg h2,if_neg h2]
    by_cases h3:i<49980
    ·
     rw[if_pos h3,if_pos h3]
     simp only[Chp.setBl]
     by_cases h4:i - 49968=b
     ·
      rw[if_pos h4,h4,hx]
     ·
      rw[if_neg h4]
    ·
     rw[if_neg h3,if_neg h3];rfl
theorem ccell_setReads (s:Chp) (b:Nat) (hb:b<12) (n:Int) (i:Nat):upL (ccell s) (49968+b) [.int .i64 n] i=ccell (s.setBl b { s.bl b with reads:=n }) i:=by
 rw[upL_one]
 by_cases h:i=49968+b
 ·
  subst h
  rw[if_pos rfl,ccell_reads _ _ hb]
  simp[Chp.setBl]
 ·
  rw[if_neg h]
  unfold ccell
  by_cases h1:i<49920
  ·
   rw[if_pos h1,if_pos h1];rfl
  ·
   rw[if_neg h1,if_neg h1]
   by_cases h2:i<49968
   ·
    rw[if_pos h2,if_pos h2]
    simp only[Chp.setBl]
    by_cases h4:(i - 49920) / 4=b
    ·
     rw[if_pos h4,h4];rfl
    ·
     rw[if_neg h4]
   ·
    rw[if_neg h2,if_neg h2]
    by_cases h3:i<49980
    ·
     rw[if_pos h3,if_pos h3]
     simp only[Chp.setBl]
     rw[if_neg (by omega)]
    ·
     rw[if_neg h3,if_neg h3];rfl
theorem ccell_setPw (s:Chp) (on lim:Bool) (bud:Nat) (i:Nat) (hi:i<49984):upL (ccell s) 49980 [.bool on,.bool lim,.int .i64 bud] i=ccell { s with on:=on,lim:=lim,bud:=bud } i:=by
 unfold upL
 by_cases h:49980<=i/\i<49983
 ·
  rw[if_pos (by simpa using h)]
  rcases(by omega:i=49980\/i=49981\/i=49982) with e | e | e <;> subst e <;> rfl
 ·
  rw[if_neg (by simpa using h)]
  by_cases h1:i<49980
  ·
   unfold ccell
   by_cases h2:i<49920
   ·
    rw[if_pos h2,if_pos h2]
   ·
    rw[if_neg h2,if_neg h2]
    by_cases h3:i<49968
    ·
     rw[if_pos h3,if_pos h3]
    ·
     rw[if_neg h3,if_neg h3,if_pos h1,if_pos h1]
  ·
   have e:i=49983:=by omega
   subst e;rfl
theorem ccell_setBud (s:Chp) (bud:Nat) (i:Nat) (hi:i<49984):upL (ccell s) 49982 [.int .i64 bud] i=ccell { s with bud:=bud } i:=by
 rw[upL_one,<-ccell_setPw s s.on s.lim bud i hi]
 unfold upL
 by_cases h:i=49982
 ·
  subst h;rfl
 ·
  rw[if_neg h]
  by_cases h2:49980<=i/\i<49983
  ·
   rw[if_pos (by simpa using h2)]
   rcases(by omega:i=49980\/i=49981) with e | e <;> subst e <;> rfl
  ·
   rw[if_neg (by simpa using h2)]
theorem ccell_setSteps (s:Chp) (n:Int) (i:Nat) (hi:i<49984):upL (ccell s) 49983 [.int .i64 n] i=ccell { s with steps:=n } i:=by
 rw[upL_one]
 by_cases h:i=49983
 ·
  subst h;rfl
 ·
  rw[if_neg h]
  unfold ccell
  by_cases h2:i<49920
  ·
   rw[if_pos h2,if_pos h2]
  ·
   rw[if_neg h2,if_neg h2]
   by_cases h3:i<49968
   ·
    rw[if_pos h3,if_pos h3]
   ·
    rw[if_neg h3,if_neg h3]
    by_cases h4:i<49980
    ·
     rw[if_pos h4,if_pos h4]
    ·
     rw[if_neg h4,if_neg h4]
     rcases(by omega:i=49980\/i=49981\/i=49982) with e | e | e <;> subst e <;> rfl
theorem ChipAt.lt {w:World} {g:Nat} {s:Chp} (h:ChipAt w g s):g<w.heap.size:=Sto.lt h
theorem ChipAt.drew {w:World} {g:Nat} {s:Chp} (h:ChipAt w g s):ChipAt w.drew g s:=h
theorem ChipAt.chg {S:Nat->Prop} {w w':World} {g:Nat} {s:Chp} (h:ChipAt w g s) (hc:Chg S w w') (hg:¬ S g):ChipAt w' g s:=Sto.chg h hc hg
theorem ChipAt.other {w w':World} {g:Nat} {s:Chp} (h:ChipAt w g s) (e:w'.heap[g]?=w.heap[g]?):ChipAt w' g s:=Sto.other h e
theorem Chp.Ok.setCh {s:Chp} (h:s.Ok) (c:Nat) {k:Chk} (hk:k.Ok):(s.setCh c k).Ok:=
 ⟨fun j=>by
  show (if j=c then k else s.ch j).Ok
  by_cases e:j=c
  ·
   rw[if_pos e];exact hk
  ·
   rw[if_neg e];exact h.ch j,h.bl,h.bud,h.lo,h.hi⟩
theorem Chp.Ok.setBl {s:Chp} (h:s.Ok) (b:Nat) {x:Blo} (hx:x.Ok):(s.setBl b x).Ok:=
 ⟨h.ch,fun j=>by
  show (if j=b then x else s.bl j).Ok
  by_cases e:j=b
  ·
   rw[if_pos e];exact hx
  ·
   rw[if_neg e];exact h.bl j,h.bud,h.lo,h.hi⟩
end Go.Proofs.YtbhbilcieodbhaaGreat
namespace Go.Proofs.YtbhbilcieodbhaaGreat
open Go.RowKit
set_option maxRecDepth 100000
def nulK:Chk:={ now:=List.replicate 64 0,tru:=List.replicate 64 0,is:=false,worst:=0 }
def newK:Chk:={ now:=List.replicate 64 255,tru:=List.replicate 64 255,is:=false,worst:=0 }
theorem nul_cells:Tryz.zeroCells81=(ckc nulK).toArray:=by kernel_rfl
theorem size60:(Tryz.prog.info? 81).map (·.size)=some 130:=by kernel_rfl
theorem size58:(Tryz.prog.info? 79).map (·.size)=some 64:=by kernel_rfl
theorem ckc_one (k:Chk):∀ v ∈ ckc k,v.oneCell'=true:=by
 intro v hv
 simp only[ckc,List.mem_append,List.mem_map,List.mem_cons,List.not_mem_nil,or_false] at hv
 rcases hv with ⟨n,_,rfl⟩ | ⟨n,_,rfl⟩ | rfl | rfl <;> rfl
theorem ckc_now {k:Chk} {f:Nat->Value} {o:Nat} (hs:Seg f o (ckc k)):Seg f o (k.now.map byt):=fun j v hv=>by
 refine hs j v ?_
 rw[ckc,List.getElem?_append_left (by have:=(List.getElem?_eq_some_iff.1 hv).1;exact this)]
 exact hv
theorem ckc_tru {k:Chk} (h:k.now.length=64) {f:Nat->Value} {o:Nat} (hs:Seg f o (ckc k)):Seg f (o+64) (k.tru.map byt):=by
 refine hs.sub 64 fun j v hv=>?_
 have hj:=(List.getElem?_eq_some_iff.1 hv).1
 rw[ckc,List.getElem?_append_right (by simp[h]),List.getElem?_append_left (by simp[h] at hj ⊢;omega),List.length_map,h,show 64+j - 64=j from by omega]
 exact hv
theorem ckc_is {k:Chk} (h:k.now.length=64) (h2:k.tru.length=64) {f:Nat->Value} {o:Nat} (hs:Seg f o (ckc k)):f (o+128)=.bool k.is:=by
 refine hs 128 _ ?_
 rw[ckc,List.getElem?_append_right (by simp[h]),List.getElem?_append_right (by simp[h,h2])]
 simp[h,h2]
theorem layV_now (k:Chk) (l:List Nat) (h:k.now.length=64) (hl:l.length=64):layV (ckc k) 0 (l.map byt)=ckc { k with now:=l }:=by
 simp only[layV,ckc,List.take_zero,List.nil_append,List.length_map,hl,Nat.zero_add]
 rw[List.drop_append_of_le_length (by simp[h]),List.drop_eq_nil_of_le (by simp[h]),List.nil_append]
theorem layV_tru (k:Chk) (l:List Nat) (h:k.now.length=64) (h2:k.tru.length=64) (hl:l.length=64):layV (ckc k) 64 (l.map byt)=ckc { k with tru:=l }:=by
 simp only[layV,ckc,List.length_map,hl]
 rw[List.take_left' (by simp[h]),List.drop_append,List.drop_eq_nil_of_le (by simp[h]),List.nil_append,List.length_map,h,show 64+64 - 64=64 from rfl,List.drop_left' (by simp[h2])]
theorem layV_tru1 (k:Chk) (i v:Nat) (h:k.now.length=64) (h2:k.tru.length=64) (hi:i<64):layV (ckc k) (64+i) [byt v]=ckc { k with tru:=k.tru.set i v }:=by
 have hn:(k.now.map byt).length=64:=by simp[h]
 simp only[layV,ckc,List.length_cons,List.length_nil,Nat.zero_add]
 rw[List.take_append,List.take_of_length_le (by omega),hn,List.drop_append,List.drop_eq_nil_of_le (by omega),hn,List.nil_append,show 64+i - 64=i from by omega,show 64+i+1 - 64=i+1 from by omega,List.append_assoc]
 congr 1
 rw[List.take_append_of_le_length (by simp[h2];omega),List.drop_append_of_le_length (by simp[h2];omega),<-List.append_assoc,<-List.append_assoc]
 congr 1
 rw[List.map_set,List.set_eq_take_append_cons_drop,if_pos (by simp[h2];omega)];simp
def dmgTo (a b:List Nat):Nat->Nat
 | 0=>0
 | n+1=>dmgTo a b n+(if a.getD n 0=b.getD n 0 then 0 else 1)
def dmg (k:Chk):Nat:=dmgTo k.now k.tru 64
theorem load_any (g o:Nat) (w:World) {x:Int} (hc:w.cell? ⟨g,o,none⟩=some (.int .i64 x)) :
 Calls Tryz.prog 40 #[.pointer (some ⟨g,o,none⟩)] w fun e w'=>e=.returned (.int .i64 x)/\w'=w:=by
 have hl:=run_call_load (P:=Tryz.prog) Tryz.func59 (by kernel_rfl) (by kernel_rfl) (by kernel_rfl) .i64 (by kernel_rfl) hc
 go_enter Tryz.func40,Tryz.ntmps40
 go_wp2
 go_ret
 exact⟨rfl,rfl⟩
theorem store_any (g o:Nat) (w:World) (y:Int) {u:Value} (hc:w.cell? ⟨g,o,none⟩=some u) (hz:w.frozen? ⟨g,o,none⟩=false) :
 Calls Tryz.prog 61 #[.pointer (some ⟨g,o,none⟩),.int .i64 y] w fun e w'=>e=.returned (.tuple #[])/\w'=w.setCell ⟨g,o,none⟩ (.int .i64 y):=by
 have hl:=run_call_store (P:=Tryz.prog) Tryz.func93 (by kernel_rfl) (by kernel_rfl) (by kernel_rfl) (by kernel_rfl) (k:=.i64) (y:=y) hc hz
 go_enter Tryz.func61,Tryz.ntmps61
 go_wp2
 go_end0
 exact⟨rfl,rfl⟩
theorem add_any (g o:Nat) (w:World) {x:Int} (hc:w.cell? ⟨g,o,none⟩=some (.int .i64 x)) (hz:w.frozen? ⟨g,o,none⟩=false) :
 Calls Tryz.prog 133 #[.pointer (some ⟨g,o,none⟩),.int .i64 1] w fun e w'=>e=.returned (.int .i64 (wrap64 (x+1)))/\w'=w.setCell ⟨g,o,none⟩ (.int .i64 (wrap64 (x+1))):=by
 have hl:=run_call_add (P:=Tryz.prog) Tryz.func165 (by kernel_rfl) (by kernel_rfl) (by kernel_rfl) .i64 (by kernel_rfl) (y:=1) (s:=wrap64 (x+1)) hc hz (by simp[go_sem,wrap64,IntKind.wrap_i64])
 go_enter Tryz.func133,Tryz.ntmps133
 go_wp2
 go_ret
 exact⟨rfl,rfl⟩
def clrK (i:Nat):Chk:={ nulK with tru:=List.replicate i 255 ++ List.replicate (64 - i) 0 }
theorem clrK_tru (i:Nat) (h:i<=64):(clrK i).tru.length=64:=by simp[clrK];omega
theorem clrK_set (i:Nat) (h:i<64):{ clrK i with tru:=(clrK i).tru.set i 255 }=clrK (i+1):=by
 simp only[clrK,Chk.mk.injEq,true_and,and_true,nulK]
 rw[List.set_append_right _ _ (by simp),List.length_replicate,Nat.sub_self,show 64 - i=(64 - (i+1))+1 from by omega,List.replicate_succ,List.set_cons_zero,List.replicate_succ',List.append_assoc]
 rfl
theorem nul_size:Tryz.zeroCells81.size=130:=Tryz.zeroCells81_size
theorem nul_one:Tryz.zeroCells81.all (·.oneCell')=true:=by rw[nul_cells];exact all_oneCell_toArray (ckc_one _)
theorem tru255:byt 255=Value.int .u8 255:=rfl
set_option maxHeartbeats 1000000 in
theorem clear_any (g o:Nat) (t:TypeId) (n:Nat) (f:Nat->Value) (ho:o+130<=n) (w:World) (hB:Sto w g t n f) :
 Calls Tryz.prog 60 #[.pointer (some ⟨g,o,none⟩)] w fun e w'=>e=.returned (.tuple #[])/\Sto w' g t n (upL f o (ckc newK))/\Chg (·=g) w w':=by
 have hth:=hB.there o 130 ho
 go_enter Tryz.func60,Tryz.ntmps60
 go_wp2_with (first | refine wpList_store_mid rfl 81 (.tmp 5) (.tmp 4) rfl g o _ rfl rfl (by rw[nul_size];exact hth) (by rw[nul_size];exact size60) nul_one ?_)
 have hB1:Sto (w.setCells g o Tryz.zeroCells81.toList) g t n (upL f o (ckc (clrK 0))):=by
  rw[nul_cells];exact Sto.setCells _ _ hB
 have hG1:Chg (·=g) w (w.setCells g o Tryz.zeroCells81.toList):=Chg.setCells (S:=(·=g)) (Or.inl rfl) _ _ (Chg.refl _ _)
 generalize w.setCells g o Tryz.zeroCells81.toList=w1 at *
 go_loopw [6] (fun t6 wr=>∃ i:Nat,i<=64/\t6=.int .i64 i/\Sto wr g t n (upL f o (ckc (clrK i)))/\Chg (·=g) w wr) (fun t6 _=>64 - (intOf t6).toNat)
 case atStart=>exact⟨0,by omega,rfl,hB1,hG1⟩
 case round=>
  clear hB1 hG1 hth
  obtain⟨i,hi,rfl,hB,hG⟩:=hrel
  by_cases hlt:i<64
  ·
   have hkb4:(0:Int)<=(i:Int):=by omega
   have hkb5:(i:Int)<64:=by omega
   have c1:=hB.cell (o+64+i) (by omega)
   have f1:=hB.frozen (o+64+i)
   have hB2:=hB.setCell (o+64+i) (.int .u8 255)
   have e2:upL (upL f o (ckc (clrK i))) (o+64+i) [.int .u8 255]=upL f o (ckc (clrK (i+1))):=by
    rw[show o+64+i=o+(64+i) from by omega,upL_upL _ _ _ _ _ (by rw[ckc_length (k:=clrK i) rfl (clrK_tru i (by omega))];simp;omega),<-tru255,layV_tru1 _ _ _ rfl (clrK_tru i (by omega)) hlt,clrK_set i hlt]
   rw[e2] at hB2
   clear e2
   go_wp2
   exact⟨⟨i+1,by omega,by go_num,hB2,hG.setCell (Or.inl rfl) _ _⟩,by simp[intOf];omega⟩
  ·
   have e6:i=64:=by omega
   subst e6
   have hl:=ckc_length (k:=clrK 64) rfl (clrK_tru 64 (by omega))
   have r1:wr.rangeAt g (o+64) ((clrK 64).tru.map byt):=Seg.range hB (ckc_tru rfl (upL_seg _ _ _)) (by simp[clrK_tru];omega)
   have HS:Hid ((Tryz.prog.info? 79).map (·.size)=some ((clrK 64).tru.map byt).length):=by rw[List.length_map,clrK_tru 64 (by omega)];exact size58
   have hth2:=hB.there o 64 (by omega)
   have hs:(((clrK 64).tru.map byt).toArray).size=64:=by simp[clrK_tru]
   have h1:=all_oneCell_toArray (byt_one (clrK 64).tru)
   have hB2:=Sto.setCells ((clrK 64).tru.map byt) o hB
   have e2:=upL_upL f o (ckc (clrK 64)) 0 ((clrK 64).tru.map byt) (by rw[hl];simp[clrK_tru])
   rw[Nat.add_zero,layV_now _ _ rfl (clrK_tru 64 (by omega))] at e2
   rw[e2] at hB2
   have hG2:Chg (·=g) w (wr.setCells g o ((clrK 64).tru.map byt)):=Chg.setCells (S:=(·=g)) (Or.inl rfl) _ _ hG
   go_wp2_with (first | refine wpList_load_mid rfl 79 (.tmp 18) rfl g (o+64) rfl _ _ r1 Tryz.underlying79 rfl HS.out ?_ | refine wpList_store_mid rfl 79 (.tmp 21) (.tmp 19) rfl g o _ rfl rfl (by rw[hs];exact hth2) (by rw[hs];exact size58) h1 ?_)
   go_end0
   exact⟨rfl,hB2,hG2⟩
end Go.Proofs.YtbhbilcieodbhaaGreat
/-
  A chunk's own functions: programmed, its damage, turned. Conditions: it lies in its block; the bytes lie elsewhere. A bit of a chunk is turned. Condition: it lies in its block. The chip's small functions: what there is, the power, the steps, what is to fail. Condition: the block holds a chip. A block of the chip is cleared; New; Erase. Condition: the block holds a chip.
-/
namespace Go.Proofs.YtbhbilcieodbhaaGreat
open Go.RowKit
set_option maxRecDepth 100000
def pgmK (l:List Nat):Chk:={ now:=l,tru:=l,is:=true,worst:=0 }
def pgm0:Chk:={ nulK with is:=true }
theorem pgm_cells:Tryz.zeroCells81.setIfInBounds 128 (.bool true)=(ckc pgm0).toArray:=by kernel_rfl
theorem pgm_size:(Tryz.zeroCells81.setIfInBounds 128 (.bool true)).size=130:=by rw[Array.size_setIfInBounds];exact nul_size
theorem pgm_one:(Tryz.zeroCells81.setIfInBounds 128 (.bool true)).all (·.oneCell')=true:=by rw[pgm_cells];exact all_oneCell_toArray (ckc_one _)
theorem src_byt {w:World} {c oo:Nat} {l:List Nat} (h:∀ i,i<l.length->w.cell? ⟨c,oo+i,none⟩=some (.int .u8 (l.getD i 0:Nat))):∀ j v,(l.map byt)[j]?=some v->w.cell? ((⟨c,oo,none⟩:Addr).add j)=some v:=src_cells h
theorem cells_other {w:World} {g c:Nat} (h:c≠g):∀ (vs:List Value) (o i:Nat),(w.setCells g o vs).cell? ⟨c,i,none⟩=w.cell? ⟨c,i,none⟩:=fun vs o i=>
 World.cell?_setCells_out g vs o w ⟨c,i,none⟩ (fun e _=>absurd e h)
set_option maxHeartbeats 1000000 in
theorem program_any (g o:Nat) (t:TypeId) (n:Nat) (f:Nat->Value) (ho:o+130<=n) (c oo cap:Nat) (hc:c≠g) (l:List Nat) (hl:l.length=64) (w:World) (hB:Sto w g t n f)
 (hsrc:∀ i,i<64->w.cell? ⟨c,oo+i,none⟩=some (.int .u8 (l.getD i 0:Nat))) :
 Calls Tryz.prog 250 #[.pointer (some ⟨g,o,none⟩),.slice (some ⟨c,oo,none⟩) 64 cap] w fun e w'=>e=.returned (.tuple #[])/\Sto w' g t n (upL f o (ckc (pgmK l)))/\Chg (·=g) w w':=by
 have hth:=hB.there o 130 ho
 have hB1:Sto (w.setCells g o (Tryz.zeroCells81.setIfInBounds 128 (.bool true)).toList) g t n (upL f o (ckc pgm0)):=by
  rw[pgm_cells];exact Sto.setCells _ _ hB
 have hG1:Chg (·=g) w (w.setCells g o (Tryz.zeroCells81.setIfInBounds 128 (.bool true)).toList):=Chg.setCells (S:=(·=g)) (Or.inl rfl) _ _ (Chg.refl _ _)
 have hC1:=fun i (hi:i<l.length)=>(cells_other (w:=w) hc (Tryz.zeroCells81.setIfInBounds 128 (.bool true)).toList o (oo+i)).trans (hsrc i (by omega))
 have hth1:=hB1.there (o+64) 64 (by omega)
 have hcp:=run_copy_cells (P:=Tryz.prog) (w.setCells g o (Tryz.zeroCells81.setIfInBounds 128 (.bool true)).toList) 35 35 3 5 g (o+64) 64 64 ⟨c,oo,none⟩ 64 cap (l.map byt) Tryz.underlying35 size5 (by simp[hl]) (src_byt hC1) (fun j hj=>(hth1 j (by simpa[hl] using hj)).1) (fun j hj=>(hth1 j (by simpa[hl] using hj)).2) (byt_one l)
 rw[List.length_map,hl] at hcp
 have hB2:=Sto.setCells (l.map byt) (o+64) hB1
 rw[upL_upL _ _ _ _ _ (by rw[ckc_length (k:=pgm0) rfl rfl];simp[hl]),layV_tru pgm0 l rfl rfl hl] at hB2
 have hG2:=Chg.setCells (S:=(·=g)) (Or.inl rfl) (l.map byt) (o+64) hG1
 clear hC1 hth1 hG1 hB1 hsrc
 generalize hw1:w.setCells g o (Tryz.zeroCells81.setIfInBounds 128 (.bool true)).toList=w1 at *
 have HW1:=hyd hw1
 clear hw1
 generalize hw2:w1.setCells g (o+64) (l.map byt)=w2 at *
 clear hw2
 have r2:w2.rangeAt g (o+64) (l.map byt):=Seg.range hB2 (ckc_tru (k:={ pgm0 with tru:=l }) rfl (upL_seg _ _ _)) (by simp[hl];omega)
 have hth2:=hB2.there o 64 (by omega)
 have HS:Hid ((Tryz.prog.info? 79).map (·.size)=some (l.map byt).length):=by rw[List.length_map,hl];exact size58
 have hs:((l.map byt).toArray).size=64:=by simp[hl]
 have h1:=all_oneCell_toArray (byt_one l)
 have hB3:=Sto.setCells (l.map byt) o hB2
 have e2:=upL_upL f o (ckc { pgm0 with tru:=l }) 0 (l.map byt) (by rw[ckc_length (k:={ pgm0 with tru:=l }) rfl hl];simp[hl])
 rw[Nat.add_zero,layV_now _ _ rfl hl] at e2
 rw[e2] at hB3
 have hG3:=Chg.setCells (S:=(·=g)) (Or.inl rfl) (l.map byt) o hG2
 have HSZ:Hid ((Tryz.prog.info? 79).map (·.size)=some ((l.map byt).toArray).size):=by rw[hs];exact size58
 have HTH:Hid (w2.there g o ((l.map byt).toArray).size):=by rw[hs];exact hth2
 have HO:=hyd h1
 clear e2 hB2 hG2 hl hs hth2 h1
 go_enter Tryz.func250,Tryz.ntmps250
 go_wp2_with (first | (refine wpList_store_mid rfl 81 (.tmp 6) (.tmp 5) rfl g o _ rfl rfl (by rw[pgm_size];exact hth) (by rw[pgm_size];exact size60) pgm_one ?_;rw[HW1.out]) | refine wpList_load_mid rfl 79 (.tmp 16) rfl g (o+64) rfl _ _ r2 Tryz.underlying79 rfl HS.out ?_ | refine wpList_store_mid rfl 79 (.tmp 19) (.tmp 17) rfl g o _ rfl rfl HTH.out HSZ.out HO.out ?_)
 go_end0
 exact⟨rfl,hB3,hG3⟩
end Go.Proofs.YtbhbilcieodbhaaGreat
namespace Go.Proofs.YtbhbilcieodbhaaGreat
open Go.RowKit
set_option maxRecDepth 100000
end Go.Proofs.YtbhbilcieodbhaaGreat
namespace Go.Proofs.YtbhbilcieodbhaaGreat
open Go.RowKit
set_option maxRecDepth 100000
theorem below_yes (n m:Int) (h0:0<=n) (h1:n<m) (w:World):Calls Tryz.prog 35 #[.int .i64 n,.int .i64 m] w fun e w'=>e=.returned (.bool true)/\w'=w:=by
 go_enter Tryz.func35,Tryz.ntmps35
 go_wp2
 go_ret
 exact⟨rfl,rfl⟩
theorem below_no (n m:Int) (h:n<0\/m<=n) (w:World):Calls Tryz.prog 35 #[.int .i64 n,.int .i64 m] w fun e w'=>e=.returned (.bool false)/\w'=w:=by
 by_cases h0:n<0
 ·
  have h1:¬ 0<=n:=by omega
  go_enter Tryz.func35,Tryz.ntmps35
  go_wp2
  go_ret
  exact⟨rfl,rfl⟩
 ·
  have h1:0<=n:=by omega
  have h2:¬ n<m:=by omega
  go_enter Tryz.func35,Tryz.ntmps35
  go_wp2
  go_ret
  exact⟨rfl,rfl⟩
theorem isChunk_yes (a k:Int) (h0:0<=a) (h1:a<96) (h2:0<=k) (h3:k<4) (w:World):Calls Tryz.prog 38 #[.int .i64 a,.int .i64 k] w fun e w'=>e=.returned (.bool true)/\w'=w:=by
 go_enter Tryz.func38,Tryz.ntmps38
 go_wp2_with (first | (go_at_call_of 35 (Value.int IntKind.i64 a);refine(below_yes a 96 h0 h1 _).mono ?_;rintro e w' ⟨rfl,rfl⟩) | (go_at_call_of 35 (Value.int IntKind.i64 k);refine(below_yes k 4 h2 h3 _).mono ?_;rintro e w' ⟨rfl,rfl⟩))
 go_ret
 exact⟨rfl,rfl⟩
theorem isChunk_no (a k:Int) (h:a<0\/96<=a\/k<0\/4<=k) (w:World):Calls Tryz.prog 38 #[.int .i64 a,.int .i64 k] w fun e w'=>e=.returned (.bool false)/\w'=w:=by
 by_cases h0:a<0\/96<=a
 ·
  go_enter Tryz.func38,Tryz.ntmps38
  go_wp2_with fail
  refine(below_no a 96 h0 _).mono ?_
  rintro e w' ⟨rfl,rfl⟩
  go_wp2
  go_ret
  exact⟨rfl,rfl⟩
 ·
  have h1:0<=a:=by omega
  have h2:a<96:=by omega
  have h3:k<0\/4<=k:=by omega
  clear h h0
  go_enter Tryz.func38,Tryz.ntmps38
  go_wp2_with fail
  refine(below_yes a 96 h1 h2 _).mono ?_
  rintro e w' ⟨rfl,rfl⟩
  go_wp2_with fail
  refine(below_no k 4 h3 _).mono ?_
  rintro e w' ⟨rfl,rfl⟩
  go_wp2
  go_ret
  exact⟨rfl,rfl⟩
theorem ChipAt.on {w:World} {g:Nat} {s:Chp} (h:ChipAt w g s):w.cell? ⟨g,49980,none⟩=some (.bool s.on):=Sto.cell h 49980 (by omega)
theorem ChipAt.lim {w:World} {g:Nat} {s:Chp} (h:ChipAt w g s):w.cell? ⟨g,49981,none⟩=some (.bool s.lim):=Sto.cell h 49981 (by omega)
theorem ChipAt.bud {w:World} {g:Nat} {s:Chp} (h:ChipAt w g s):w.cell? ⟨g,49982,none⟩=some (.int .i64 s.bud):=Sto.cell h 49982 (by omega)
theorem ChipAt.steps {w:World} {g:Nat} {s:Chp} (h:ChipAt w g s):w.cell? ⟨g,49983,none⟩=some (.int .i64 s.steps):=Sto.cell h 49983 (by omega)
theorem ChipAt.frozen {w:World} {g:Nat} {s:Chp} (h:ChipAt w g s) (i:Nat):w.frozen? ⟨g,i,none⟩=false:=Sto.frozen h i
theorem ChipAt.setPw {w:World} {g:Nat} {s:Chp} (h:ChipAt w g s) (on lim:Bool) (bud:Nat) :
 ChipAt (((w.setCell ⟨g,49980,none⟩ (.bool on)).setCell ⟨g,49981,none⟩ (.bool lim)).setCell ⟨g,49982,none⟩ (.int .i64 bud)) g { s with on:=on,lim:=lim,bud:=bud }:=
 Sto.ext (Sto.setCells [.bool on,.bool lim,.int .i64 bud] 49980 h) (fun i hi=>ccell_setPw s on lim bud i hi)
theorem ChipAt.setBud {w:World} {g:Nat} {s:Chp} (h:ChipAt w g s) (bud:Nat):ChipAt (w.setCell ⟨g,49982,none⟩ (.int .i64 bud)) g { s with bud:=bud }:=
 Sto.ext (Sto.setCell h 49982 _) (fun i hi=>ccell_setBud s bud i hi)
theorem ChipAt.setSteps {w:World} {g:Nat} {s:Chp} (h:ChipAt w g s) (n:Int):ChipAt (w.setCell ⟨g,49983,none⟩ (.int .i64 n)) g { s with steps:=n }:=
 Sto.ext (Sto.setCell h 49983 _) (fun i hi=>ccell_setSteps s n i hi)
theorem Chg.at (g:Nat) {u w:World} (h:Chg (·=g) u w) (o:Nat) (v:Value):Chg (·=g) u (w.setCell ⟨g,o,none⟩ v):=h.setCell (Or.inl rfl) o v
theorem steps_any (g:Nat) (s:Chp) (w:World) (h:ChipAt w g s):Calls Tryz.prog 23 #[.pointer (some ⟨g,0,none⟩)] w fun e w'=>e=.returned (.int .i64 s.steps)/\w'=w:=by
 have c:=h.steps
 go_enter Tryz.func23,Tryz.ntmps23
 go_wp2
 go_ret
 exact⟨rfl,rfl⟩
def offS (s:Chp):Chp:={ s with on:=false,lim:=false,bud:=0 }
def goS (s:Chp):Chp:={ s with bud:=if s.lim then s.bud - 1 else s.bud,steps:=wrap64 (s.steps+1) }
theorem step_cut (g:Nat) (s:Chp) (w:World) (h:ChipAt w g s) (hl:s.lim=true) (hb:s.bud=0):Calls Tryz.prog 238 #[.pointer (some ⟨g,0,none⟩)] w fun e w'=>e=.returned (.bool false)/\ChipAt w' g (offS s)/\Chg (·=g) w w':=by
 have c1:=h.on
 have c2:=h.lim
 have c3:=h.bud
 have f1:=h.frozen
 rw[hl] at c2
 rw[hb] at c3
 have hC:=h.setPw false false 0
 have hG:=(((Chg.refl (·=g) w).at g 49980 (.bool false)).at g 49981 (.bool false)).at g 49982 (.int .i64 0)
 clear hl hb
 go_enter Tryz.func238,Tryz.ntmps238
 go_wp2
 go_ret
 exact⟨rfl,hC,hG⟩
theorem step_free (g:Nat) (s:Chp) (w:World) (h:ChipAt w g s) (hl:s.lim=false):Calls Tryz.prog 238 #[.pointer (some ⟨g,0,none⟩)] w fun e w'=>e=.returned (.bool true)/\ChipAt w' g (goS s)/\Chg (·=g) w w':=by
 have c2:=h.lim
 have c3:=h.bud
 have c4:=h.steps
 have f1:=h.frozen
 rw[hl] at c2
 have hC:=h.setSteps (wrap64 (s.steps+1))
 have hG:=(Chg.refl (·=g) w).at g 49983 (.int .i64 (wrap64 (s.steps+1)))
 have e:goS s={ s with steps:=wrap64 (s.steps+1) }:=by simp[goS,hl]
 have HE:=hyd e
 clear hl e
 go_enter Tryz.func238,Tryz.ntmps238
 go_wp2
 go_ret
 rw[HE.out]
 exact⟨rfl,hC,hG⟩
theorem step_paid (g:Nat) (s:Chp) (w:World) (hs:s.Ok) (h:ChipAt w g s) (hl:s.lim=true) (hb:s.bud≠0):Calls Tryz.prog 238 #[.pointer (some ⟨g,0,none⟩)] w fun e w'=>e=.returned (.bool true)/\ChipAt w' g (goS s)/\Chg (·=g) w w':=by
 have c2:=h.lim
 have c3:=h.bud
 have c4:=h.steps
 have f1:=h.frozen
 rw[hl] at c2
 have hC:=(h.setBud (s.bud - 1)).setSteps (wrap64 (s.steps+1))
 have hG:=((Chg.refl (·=g) w).at g 49982 (.int .i64 (s.bud - 1:Nat))).at g 49983 (.int .i64 (wrap64 (s.steps+1)))
 have e:goS s={ s with bud:=s.bud - 1,steps:=wrap64 (s.steps+1) }:=by simp[goS,hl]
 have HE:=hyd e
 have hbu:=hs.bud
 have h0:((s.bud:Int) == 0)=false:=beq_eq_false_iff_ne.2 (by omega)
 have HI:Hid ((s.bud:Int) - 1=((s.bud - 1:Nat):Int)):=by show _=_;omega
 clear hl e
 go_enter Tryz.func238,Tryz.ntmps238
 go_wp2
 go_ret
 rw[HE.out,HI.out]
 exact⟨rfl,hC,hG⟩
theorem blc0 {s:Chp} {b:Nat} (hb:b<12):ccell s (49920+4*b)=.bool (s.bl b).failed:=ccell_bl s b hb 0 _ rfl
theorem blc1 {s:Chp} {b:Nat} (hb:b<12):ccell s (49920+4*b+1)=.bool (s.bl b).wf:=ccell_bl s b hb 1 _ rfl
theorem blc2 {s:Chp} {b:Nat} (hb:b<12):ccell s (49920+4*b+2)=.int .i64 (s.bl b).ahead:=ccell_bl s b hb 2 _ rfl
theorem blc3 {s:Chp} {b:Nat} (hb:b<12):ccell s (49920+4*b+3)=.bool (s.bl b).ef:=ccell_bl s b hb 3 _ rfl
theorem up_blc {s:Chp} {b:Nat} (hb:b<12) (x:Blo) (hr:x.reads=(s.bl b).reads) (j:Nat) (hj:j<4) (v:Value) (hv:(blc (s.bl b)).set j v=blc x) (i:Nat):upL (ccell s) (49920+4*b+j) [v] i=ccell (s.setBl b x) i:=by
 rw[<-ccell_setBl s b hb x hr i,<-hv,upL_one]
 unfold upL
 have hl:((blc (s.bl b)).set j v).length=4:=by simp[blc]
 rw[hl]
 by_cases e:i=49920+4*b+j
 ·
  subst e
  rw[if_pos rfl,if_pos (by omega),show 49920+4*b+j - (49920+4*b)=j from by omega,List.getD_eq_getElem?_getD,List.getElem?_set_self (by simp[blc];exact hj)];rfl
 ·
  rw[if_neg e]
  by_cases h:49920+4*b<=i/\i<49920+4*b+4
  ·
   rw[if_pos h,List.getD_eq_getElem?_getD,List.getElem?_set_ne (by omega),List.getElem?_eq_getElem (by simp[blc];omega)]
   have:=ccell_bl s b hb (i - (49920+4*b)) _ (List.getElem?_eq_getElem (by simp[blc];omega))
   rw[show 49920+4*b+(i - (49920+4*b))=i from by omega] at this
   rw[this];rfl
  ·
   rw[if_neg h]
theorem setBl_self (s:Chp) (b:Nat):s.setBl b (s.bl b)=s:=by
 cases s
 simp only[Chp.setBl,Chp.mk.injEq,and_true,true_and]
 funext j
 by_cases e:j=b
 ·
  rw[if_pos e,e]
 ·
  rw[if_neg e]
theorem ChipAt.setBl1 {w:World} {g:Nat} {s:Chp} (h:ChipAt w g s) {b:Nat} (hb:b<12) (x:Blo) (hr:x.reads=(s.bl b).reads) (j:Nat) (hj:j<4) (v:Value) (hv:(blc (s.bl b)).set j v=blc x) :
 ChipAt (w.setCell ⟨g,49920+4*b+j,none⟩ v) g (s.setBl b x):=Sto.ext (Sto.setCell h _ v) (fun i _=>up_blc hb x hr j hj v hv i)
def failW (x:Blo):Blo:={ x with failed:=x.failed || (x.wf && decide (x.ahead=0)),ahead:=x.ahead - 1 }
def failE (x:Blo):Blo:={ x with failed:=x.failed || x.ef }
set_option maxHeartbeats 1000000 in
theorem failsAtWrite_any (g b:Nat) (hb:b<12) (s:Chp) (hs:s.Ok) (w:World) (h:ChipAt w g s) :
 Calls Tryz.prog 249 #[.pointer (some ⟨g,49920+4*b,none⟩)] w fun e w'=>e=.returned (.bool (failW (s.bl b)).failed)/\ChipAt w' g (s.setBl b (failW (s.bl b)))/\Chg (·=g) w w':=by
 have c0:=Sto.cell h (49920+4*b) (by omega)
 have c1:=Sto.cell h (49920+4*b+1) (by omega)
 have c2:=Sto.cell h (49920+4*b+2) (by omega)
 rw[blc0 hb] at c0
 rw[blc1 hb] at c1
 rw[blc2 hb] at c2
 have f0:=Sto.frozen h (49920+4*b)
 have f2:=Sto.frozen h (49920+4*b+2)
 have hx:=hs.bl b
 have hr0:=h.setBl1 hb { s.bl b with failed:=true } rfl 0 (by omega) (.bool true) (by simp[blc])
 have hr2:=h.setBl1 hb { s.bl b with ahead:=(s.bl b).ahead - 1 } rfl 2 (by omega) (.int .i64 ((s.bl b).ahead - 1:Nat)) (by simp[blc])
 have hw0:=setBl_self s b
 rw[Nat.add_zero] at hr0
 generalize hbl:s.bl b=x at *
 clear hbl
 have HO:=hyd hs
 clear hs
 have hG0:=(Chg.refl (·=g) w).at g (49920+4*b) (.bool true)
 have hG2:=(Chg.refl (·=g) w).at g (49920+4*b+2) (.int .i64 (x.ahead - 1:Nat))
 generalize 49920+4*b=o at *
 obtain⟨fa,wf,ah,ef,rd⟩:=x
 simp only at *
 cases wf with
 | true=>
  by_cases h0:ah=0
  ·
   subst h0
   have e:failW ⟨fa,true,0,ef,rd⟩=⟨true,true,0,ef,rd⟩:=by simp[failW]
   rw[e]
   clear e hr2 hw0 hG2 hx
   go_enter Tryz.func249,Tryz.ntmps249
   go_wp2
   go_ret
   exact⟨rfl,hr0,hG0⟩
  ·
   have e:failW ⟨fa,true,ah,ef,rd⟩=⟨fa,true,ah - 1,ef,rd⟩:=by simp[failW,h0]
   rw[e]
   have h1:((ah:Int) == 0)=false:=beq_eq_false_iff_ne.2 (by omega)
   have hah:=hx.ahead
   simp only at hah
   have HI:Hid ((ah:Int) - 1=((ah - 1:Nat):Int)):=by show _=_;omega
   have h3:(0:Int)<(ah:Int):=by omega
   clear e hr0 hw0 hG0 hx
   go_enter Tryz.func249,Tryz.ntmps249
   go_wp2
   go_ret
   rw[HI.out]
   exact⟨rfl,hr2,hG2⟩
 | false=>
  have h0:=hx.none rfl
  simp only at h0
  subst h0
  have e:failW ⟨fa,false,0,ef,rd⟩=⟨fa,false,0,ef,rd⟩:=by simp[failW]
  rw[e,hw0]
  clear e hr0 hr2 hw0 hG0 hG2 hx
  go_enter Tryz.func249,Tryz.ntmps249
  go_wp2
  go_ret
  exact⟨rfl,h,Chg.refl _ _⟩
set_option maxHeartbeats 1000000 in
theorem failsAtErase_any (g b:Nat) (hb:b<12) (s:Chp) (w:World) (h:ChipAt w g s) :
 Calls Tryz.prog 239 #[.pointer (some ⟨g,49920+4*b,none⟩)] w fun e w'=>e=.returned (.bool (failE (s.bl b)).failed)/\ChipAt w' g (s.setBl b (failE (s.bl b)))/\Chg (·=g) w w':=by
 have c0:=Sto.cell h (49920+4*b) (by omega)
 have c3:=Sto.cell h (49920+4*b+3) (by omega)
 rw[blc0 hb] at c0
 rw[blc3 hb] at c3
 have f0:=Sto.frozen h (49920+4*b)
 have hr0:=h.setBl1 hb (failE (s.bl b)) rfl 0 (by omega) (.bool (failE (s.bl b)).failed) (by simp[blc,failE])
 rw[Nat.add_zero] at hr0
 have hG0:=(Chg.refl (·=g) w).at g (49920+4*b) (.bool (failE (s.bl b)).failed)
 have HF:Hid ((failE (s.bl b)).failed=((s.bl b).failed || (s.bl b).ef)):=rfl
 generalize failE (s.bl b)=y at *
 rw[HF.out] at hr0 hG0 ⊢
 generalize s.bl b=x at *
 generalize 49920+4*b=o at *
 obtain⟨fa,wf,ah,ef,rd⟩:=x
 clear HF
 simp only at *
 cases fa with
 | true=>
  go_enter Tryz.func239,Tryz.ntmps239
  go_wp2
  go_ret
  exact⟨rfl,hr0,hG0⟩
 | false=>
  rw[Bool.false_or] at hr0 hG0 ⊢
  go_enter Tryz.func239,Tryz.ntmps239
  go_wp2
  go_ret
  exact⟨rfl,hr0,hG0⟩
end Go.Proofs.YtbhbilcieodbhaaGreat
namespace Go.Proofs.YtbhbilcieodbhaaGreat
open Go.RowKit
set_option maxRecDepth 100000
def clrF (f:Nat->Value) (b m:Nat):Nat->Value:=fun i=>if 4160*b<=i/\i<4160*b+130*m then (ckc newK).getD (i % 130) undef else f i
theorem newK_length:(ckc newK).length=130:=ckc_length rfl rfl
theorem clrF_zero (f:Nat->Value) (b:Nat):clrF f b 0=f:=by
 funext i;unfold clrF;rw[if_neg (by omega)]
theorem clrF_step (f:Nat->Value) (b m:Nat):upL (clrF f b m) (4160*b+130*m) (ckc newK)=clrF f b (m+1):=by
 funext i
 unfold upL clrF
 rw[newK_length]
 by_cases h:4160*b+130*m<=i/\i<4160*b+130*m+130
 ·
  rw[if_pos h,if_pos (by omega),show i - (4160*b+130*m)=i % 130 from by omega]
 ·
  rw[if_neg h]
  by_cases h2:4160*b<=i/\i<4160*b+130*m
  ·
   rw[if_pos h2,if_pos (by omega)]
  ·
   rw[if_neg h2,if_neg (by omega)]
set_option maxHeartbeats 1000000 in
theorem clear_block (g b:Nat) (hb:b<12) (f:Nat->Value) (w:World) (h:Sto w g 96 49984 f) :
 Calls Tryz.prog 41 #[.pointer (some ⟨g,0,none⟩),.int .i64 b] w fun e w'=>e=.returned (.tuple #[])/\Sto w' g 96 49984 (upL (clrF f b 32) (49968+b) [.int .i64 0])/\Chg (·=g) w w':=by
 have hb0:(0:Int)<=(b:Int):=by omega
 have hb1:(b:Int)<12:=by omega
 go_enter Tryz.func41,Tryz.ntmps41
 go_wp2_with fail
 go_loopw [4] (fun t4 wr=>∃ r:Nat,r<=8/\t4=.int .i64 (8*b+r:Nat)/\Sto wr g 96 49984 (clrF f b (4*r))/\Chg (·=g) w wr) (fun t4 _=>(8*b+8) - (intOf t4).toNat)
 case atStart=>exact⟨0,by omega,by go_num;try omega,by rw[clrF_zero];exact h,Chg.refl _ _⟩
 case round=>
  clear h
  obtain⟨r,hr,rfl,hB,hG⟩:=hrel
  by_cases hlt:r<8
  ·
   have hr0:((8*b+r:Nat):Int)<(b+1)*8:=by omega
   have hr1:(0:Int)<=((8*b+r:Nat):Int):=by omega
   have hr2:((8*b+r:Nat):Int)<96:=by omega
   have HN:Hid (((8*b+r:Nat):Int).toNat=8*b+r):=by show _=_;omega
   generalize hn:8*b+r=n at *
   have HN2:=hyd hn
   clear hn
   go_wp2_with fail
   go_loopw [15] (fun t15 wx=>∃ i:Nat,i<=4/\t15=.int .i64 i/\Sto wx g 96 49984 (clrF f b (4*r+i))/\Chg (·=g) w wx) (fun t15 _=>4 - (intOf t15).toNat)
   case atStart=>exact⟨0,by omega,rfl,hB,hG⟩
   case round=>
    clear hB hG
    obtain⟨i,hi,rfl,hB,hG⟩:=hrel
    by_cases hli:i<4
    ·
     have hi0:(0:Int)<=(i:Int):=by omega
     have hi1:(i:Int)<4:=by omega
     go_wp2_with fail
     have e1:=HN2.out
     rw[show n*520+i*130=4160*b+130*(4*r+i) from by omega]
     refine(clear_any g (4160*b+130*(4*r+i)) 96 49984 _ (by omega) _ hB).mono ?_
     rintro e w1 ⟨rfl,hB1,hG1⟩
     rw[clrF_step] at hB1
     have hG2:=hG.trans hG1
     clear hB hG hG1 e1
     go_wp2
     exact⟨⟨i+1,by omega,by go_num,hB1,hG2⟩,by simp[intOf];omega⟩
    ·
     have e4:i=4:=by omega
     subst e4
     clear hli hi
     go_wp2
     exact⟨⟨r+1,by omega,by rw[<-HN2.out];go_num;try omega,hB,hG⟩,by simp[intOf];have:=HN2.out;omega⟩
  ·
   have e8:r=8:=by omega
   subst e8
   have hr0:¬ ((8*b+8:Nat):Int)<(b+1)*8:=by omega
   generalize hn:8*b+8=n at *
   clear hn
   have c1:=hB.cell (49968+b) (by omega)
   have f1:=hB.frozen (49968+b)
   have hB2:=hB.setCell (49968+b) (.int .i64 0)
   have hG2:=hG.at g (49968+b) (.int .i64 0)
   clear hlt hr
   go_wp2_with fail
   refine(store_any g (49968+b) _ 0 c1 f1).mono ?_
   rintro e w1 ⟨rfl,rfl⟩
   go_wp2
   go_end0
   exact⟨rfl,hB2,hG2⟩
end Go.Proofs.YtbhbilcieodbhaaGreat
