/-
  Lemmas.
-/
import Derived.Test.YtmdpnpjacfedpaaGreatOm
import Derived.Test.YtmdpnpjacfedpaaGreatP03
import Derived.Deep.SlicePairs
import Derived.SizedLaws
set_option maxRecDepth 1000000
set_option maxHeartbeats 16000000
set_option linter.unusedSimpArgs false
namespace Go.Proofs.YtmdpnpjacfedpaaGreat.AC
open List
open Go.Proofs.Tryz
open Go.RowKit
theorem Kq(w:Wd):(zeroValue 183).run prog w=.ok (.agg (ints (fun _=>0) 121).toArray) w:=kr
theorem Kr(w:Wd):(Instr.makeSlice 43 (.int .i64 12) (.int .i64 12)).run prog w=.ok (.slice (some ⟨w.heap.size,0,none⟩) 12 12) (w.alloc (.cells (ints (fun _=>0) 12).toArray 3)):=kr
theorem iD:(prog.info? 181).map (·.size)=some 96:=kr
theorem BN(w:Wd)(n m:Int)(h:0<=n/\n<m):Calls prog 188 #[.int .i64 n,.int .i64 m] w fun e w'=>e=.returned (.bool true)/\w'=w:=by
 obtain⟨h0,h1⟩:=h;go_enter func188,ntmps188;go_wp2;go_ret;exact⟨rfl,rfl⟩
theorem CN(w:Wd)(n m:Int)(h:n<0\/m<=n):Calls prog 188 #[.int .i64 n,.int .i64 m] w fun e w'=>e=.returned (.bool false)/\w'=w:=by
 by_cases h0:0<=n
 ·have h1:¬ n<m:=om
  clear h;go_enter func188,ntmps188;go_wp2;go_ret;exact⟨rfl,rfl⟩
 ·clear h;go_enter func188,ntmps188;go_wp2;go_ret;exact⟨rfl,rfl⟩
theorem Kv(w:Wd)(b i:Int)(hb:0<=b/\b<12)(hi:0<=i/\i<8):Calls prog 195 #[.int .i64 b,.int .i64 i] w fun e w'=>e=.returned (.tuple #[.int .i64 (b*8+i),.nilIface])/\w'=w:=by
 obtain⟨b0,b1⟩:=hb;obtain⟨i0,i1⟩:=hi;go_enter func195,ntmps195;go_wp2_with fail;refine(BN w b 12 ⟨b0,b1⟩).mono ?_;rintro e w1 ⟨rfl,rfl⟩;go_wp2_with fail;refine(BN w1 i 8 ⟨i0,i1⟩).mono ?_;rintro e w2 ⟨rfl,rfl⟩;go_wp2;go_ret2;exact⟨rfl,rfl⟩
theorem H9(w:Wd)(p:Int)(h:0<=p/\p<96):Calls prog 158 #[.int .i64 p] w fun e w'=>e=.returned (.tuple #[.int .i64 (p / 8),.int .i64 (p % 8),.nilIface])/\w'=w:=by
 obtain⟨h0,h1⟩:=h;go_enter func158,ntmps158;go_wp2_with fail;refine(BN w p 96 ⟨h0,h1⟩).mono ?_;rintro e w1 ⟨rfl,rfl⟩;go_wp2
 go_ret3
 exact⟨rfl,rfl⟩
theorem Fj(w:Wd)(p o:Int)(h:0<=p/\p<96)(ho:0<=o/\o<25):Calls prog 196 #[.int .i64 p,.int .i64 o] w fun e w'=>e=.returned (.tuple #[.bool (decide (o=24\/p % 8<6)),.nilIface])/\w'=w:=by
 obtain⟨h0,h1⟩:=h;by_cases e1:o=24
 ·rw[show decide (o=24\/p % 8<6)=true from AO (AK e1)];have e2:(o == 24)=true:=by simp[e1]
  clear e1;go_enter func196,ntmps196;go_wp2_with fail;refine(BN w p 96 ⟨h0,h1⟩).mono ?_;rintro e w1 ⟨rfl,rfl⟩;go_wp2_with fail;refine(BN w1 o 25 ho).mono ?_;rintro e w2 ⟨rfl,rfl⟩;go_wp2;go_ret2;exact⟨rfl,rfl⟩
 ·rw[show decide (o=24\/p % 8<6)=decide (p % 8<6) from by simp[e1]];have e2:(o == 24)=false:=by simp[e1]
  clear e1;go_enter func196,ntmps196;go_wp2_with fail;refine(BN w p 96 ⟨h0,h1⟩).mono ?_;rintro e w1 ⟨rfl,rfl⟩;go_wp2_with fail;refine(BN w1 o 25 ho).mono ?_;rintro e w2 ⟨rfl,rfl⟩;go_wp2;go_ret2;exact⟨rfl,rfl⟩
theorem UQ(w:Wd)(p o:Int)(h:(p<0\/96<=p)\/(o<0\/25<=o)):Calls prog 196 #[.int .i64 p,.int .i64 o] w fun e w'=>e=.returned (.tuple #[.bool false,.iface 57 (.int .i64 1)])/\w'=w:=by
 by_cases hp:0<=p/\p<96
 ·have ho:o<0\/25<=o:=om
  clear h;obtain⟨h0,h1⟩:=hp;go_enter func196,ntmps196;go_wp2_with fail;refine(BN w p 96 ⟨h0,h1⟩).mono ?_;rintro e w1 ⟨rfl,rfl⟩;go_wp2_with fail;refine(CN w1 o 25 ho).mono ?_;rintro e w2 ⟨rfl,rfl⟩;go_wp2;go_ret2;exact⟨rfl,rfl⟩
 ·have hp':p<0\/96<=p:=om
  clear h hp;go_enter func196,ntmps196;go_wp2_with fail;refine(CN w p 96 hp').mono ?_;rintro e w1 ⟨rfl,rfl⟩;go_wp2;go_ret2;exact⟨rfl,rfl⟩
def ownK (L:Nat->Int) (q:Int):Nat->Int
 | 0=>-1
 | k+1=>if 0<=ownK L q k then ownK L q k else if L k=q then (k:Int) else -1
def own (L:Nat->Int) (q:Int):Int:=ownK L q 25
theorem Ip(L:Nat->Int)(q:Int):∀k,(∃i,i<k/\ownK L q k=(i:Int)/\L i=q/\∀j,j<i->L j≠q)\/(ownK L q k = -1/\∀i,i<k->L i≠q)
 | 0=>AL ⟨rfl,fun i hi=>absurd hi (Nat.not_lt_zero _)⟩
 | k+1=>by
  unfold ownK
  rcases Ip L q k with ⟨i,h1,h2,h3,h4⟩ | ⟨h1,h2⟩
  ·
   left
   rw[AJ om]
   exact⟨i,om,h2,h3,h4⟩
  ·
   rw[AI om]
   by_cases e:L k=q
   ·
    left
    rw[AJ e]
    exact⟨k,om,rfl,e,h2⟩
   ·
    right
    rw[AI e]
    refine⟨rfl,fun i hi=>?_⟩
    by_cases e2:i=k
    ·
     subst e2;exact e
    ·
     exact h2 i om
theorem Dr(L:Nat->Int)(q:Int):(∃i:Nat,i<25/\own L q=(i:Int)/\L i=q/\∀j,j<i->L j≠q)\/(own L q = -1/\∀i,i<25->L i≠q):=Ip L q 25
theorem Fk{L:Nat->Int}{q:Int}(h:∀i,i<25->L i≠q):own L q = -1:=by
 rcases Dr L q with ⟨i,h1,_,h3,_⟩ | ⟨h1,_⟩
 ·exact absurd h3 (h i h1)
 ·exact h1
structure GK (L:Nat->Int):Prop where
 rng:∀i,i<25->L i = -1\/(0<=L i/\L i<96)
 may:∀i,i<24->L i = -1\/L i % 8<6
 inj:∀i j,i<25->j<25->L i=L j->L i≠-1->i=j
theorem Qz{L:Nat->Int}(h:GK L){i:Nat}(hi:i<25){q:Int}(hL:L i=q)(hq:q≠-1):own L q=i:=by
 rcases Dr L q with ⟨j,h1,h2,h3,_⟩ | ⟨_,h2⟩
 ·have e:=h.inj i j hi h1 (by rw[hL,h3]) (by rw[hL];exact hq);rw[h2,e]
 ·exact absurd hL (h2 i hi)
theorem CG{α:Type}(f:Nat->α)(i:Nat)(z:α):upd f i z i=z:=by unfold upd;rw[AJ rfl]
theorem BY{α:Type}(f:Nat->α){i j:Nat}(z:α)(h:j≠i):upd f i z j=f j:=by unfold upd;rw[AI h]
theorem SJ{α:Type}(f:Nat->α)(i:Nat)(y z:α):upd (upd f i y) i z=upd f i z:=by
 funext j;unfold upd;split <;> rfl
theorem IA{α:Type}(f:Nat->α)(i:Nat){z:α}(h:f i=z):upd f i z=f:=by
 funext j;unfold upd;split
 ·rename_i e;rw[e,h]
 ·rfl
theorem GK.clear{L:Nat->Int}(h:GK L)(n:Nat):GK (upd L n (-1)):=by
 refine⟨fun i hi=>?_,fun i hi=>?_,fun i j hi hj e hn=>?_⟩
 ·unfold upd;split
  ·exact AK rfl
  ·exact h.rng i hi
 ·unfold upd;split
  ·exact AK rfl
  ·exact h.may i hi
 ·by_cases e1:i=n
  ·rw[e1,CG] at hn;exact absurd rfl hn
  ·by_cases e2:j=n
   ·rw[e,e2,CG] at hn;exact absurd rfl hn
   ·rw[BY _ _ e1,BY _ _ e2] at e;rw[BY _ _ e1] at hn;exact h.inj i j hi hj e hn
theorem Lz{L:Nat->Int}(h:GK L){n:Nat}(hn:n<25){q:Int}(hq:0<=q):own (upd L n (-1)) q=if q=L n then -1 else own L q:=by
 by_cases e:q=L n
 ·rw[AJ e];refine Fk fun i hi=>?_;by_cases e1:i=n
  ·rw[e1,CG];omega
  ·rw[BY _ _ e1];intro e2;exact e1 (h.inj i n hi hn (by rw[e2,e]) om)
 ·rw[AI e];rcases Dr L q with ⟨i,h1,h2,h3,_⟩ | ⟨h1,h2⟩
  ·have e1:i≠n:=(by intro e1;rw[e1] at h3;exact e h3.symm);rw[h2];exact Qz (h.clear n) h1 (by rw[BY _ _ e1];exact h3) om
  ·rw[h1];refine Fk fun i hi=>?_;by_cases e1:i=n
   ·rw[e1,CG];omega
   ·rw[BY _ _ e1];exact h2 i hi
theorem GK.put{L:Nat->Int}(h:GK L)(n:Nat){q:Int}(hq:0<=q/\q<96)(hm:n<24->q % 8<6)(hno:own L q = -1):GK (upd L n q):=by
 have hno':∀i,i<25->L i≠q:=by
  rcases Dr L q with ⟨i,_,h2,_⟩ | ⟨_,h2⟩
  ·omega
  ·exact h2
 refine⟨fun i hi=>?_,fun i hi=>?_,fun i j hi hj e hn=>?_⟩
 ·unfold upd;split
  ·exact AL hq
  ·exact h.rng i hi
 ·unfold upd;split
  ·rename_i e;exact AL (hm om)
  ·exact h.may i hi
 ·by_cases e1:i=n
  ·by_cases e2:j=n
   ·omega
   ·rw[e1,CG,BY _ _ e2] at e;exact absurd e.symm (hno' j hj)
  ·by_cases e2:j=n
   ·rw[e2,CG,BY _ _ e1] at e;exact absurd e (hno' i hi)
   ·rw[BY _ _ e1,BY _ _ e2] at e;rw[BY _ _ e1] at hn;exact h.inj i j hi hj e hn
theorem bq{L:Nat->Int}(h:GK L){n:Nat}(hn:n<25){q:Int}(hq:0<=q/\q<96)(hm:n<24->q % 8<6)(hL:L n = -1)(hno:own L q = -1){p:Int}(hp:0<=p):own (upd L n q) p=if p=q then (n:Int) else own L p:=by
 have hk:=h.put n hq hm hno;by_cases e:p=q
 ·rw[AJ e,e];exact Qz hk hn (CG _ _ _) om
 ·rw[AI e];rcases Dr L p with ⟨i,h1,h2,h3,_⟩ | ⟨h1,h2⟩
  ·have e1:i≠n:=(by intro e1;rw[e1] at h3;omega);rw[h2];exact Qz hk h1 (by rw[BY _ _ e1];exact h3) om
  ·rw[h1];refine Fk fun i hi=>?_;by_cases e1:i=n
   ·rw[e1,CG];omega
   ·rw[BY _ _ e1];exact h2 i hi
def SK (L:Nat->Int):Nat->Int:=fun k=>if k<25 then L k else own L ((k - 25:Nat):Int)
theorem Iq(L:Nat->Int){k:Nat}(h:k<25):SK L k=L k:=by unfold SK;rw[AJ h]
theorem Kw(L:Nat->Int)(k:Nat):SK L (25+k)=own L (k:Int):=by unfold SK;rw[AI om,Nat.add_sub_cancel_left]
theorem XO(k:Nat):SK (fun _=>-1) k = -1:=by
 unfold SK;split
 ·rfl
 ·exact Fk (fun _ _=>om)
theorem UR{L:Nat->Int}(h:GK L){n:Nat}(hn:n<25){m:Nat}(hm:L n=m)(k:Nat):upd (upd (SK L) (25+m) (-1)) n (-1) k=SK (upd L n (-1)) k:=by
 by_cases hk:k<25
 ·rw[Iq _ hk];by_cases e:k=n
  ·subst e;rw[CG,CG]
  ·rw[BY _ _ e,BY _ _ e,BY _ _ om,Iq _ hk]
 ·obtain⟨j,rfl⟩:∃j,k=25+j:=⟨k - 25,om⟩;rw[Kw,BY _ _ om,Lz h hn om,hm];by_cases e:j=m
  ·subst e;rw[CG,AJ rfl]
  ·rw[BY _ _ om,AI om,Kw]
theorem Q0{L:Nat->Int}{n:Nat}(hn:n<25)(hm:L n = -1):upd (SK L) n (-1)=SK (upd L n (-1)):=by
 rw[IA L n hm,IA (SK L) n (by rw[Iq _ hn,hm])]
theorem br{L:Nat->Int}(h:GK L){n:Nat}(hn:n<25){m:Nat}(hq:m<96)(hm:n<24->m % 8<6)(hL:L n = -1)(hno:own L m = -1)(k:Nat):upd (upd (SK L) n m) (25+m) n k=SK (upd L n m) k:=by
 by_cases hk:k<25
 ·rw[Iq _ hk,BY _ _ om];by_cases e:k=n
  ·subst e;rw[CG,CG]
  ·rw[BY _ _ e,BY _ _ e,Iq _ hk]
 ·obtain⟨j,rfl⟩:∃j,k=25+j:=⟨k - 25,om⟩;rw[Kw,bq h hn om (fun h=>by have:=hm h;omega) hL hno om];by_cases e:j=m
  ·subst e;rw[CG,AJ rfl]
  ·rw[BY _ _ om,AI om,BY _ _ om,Kw]
def ofK (L:Nat->Int) (b:Nat):Nat->List Int
 | 0=>[]
 | k+1=>ofK L b k ++ if own L ((8*b+k:Nat):Int) = -1 then [] else [own L ((8*b+k:Nat):Int)]
def ofL (L:Nat->Int) (b:Nat):List Int:=ofK L b 8
theorem Dh(L:Nat->Int)(b:Nat):∀k,(ofK L b k).length<=k
 | 0=>AM _
 | k+1=>by
  have:=Dh L b k
  unfold ofK
  rw[AV]
  split <;> simp <;> omega
def lvK (L:Nat->Int):Nat->Nat->Nat
 | 0,_=>0
 | i+1,b=>lvK L i b+if i / 8=b/\own L (i:Int)≠-1 then 1 else 0
theorem Q1(L:Nat->Int)(b:Nat):∀i,lvK L i b=(ofK L b (min 8 (i - 8*b))).length
 | 0=>by rw[Nat.zero_sub];rfl
 | i+1=>by
  unfold lvK
  rw[Q1 L b i]
  by_cases e:i / 8=b
  ·
   have e1:min 8 (i+1 - 8*b)=i - 8*b+1:=om
   have e2:min 8 (i - 8*b)=i - 8*b:=om
   have e3:8*b+(i - 8*b)=i:=om
   rw[e1,e2]
   show _=(ofK L b (i - 8*b) ++ if own L ((8*b+(i - 8*b):Nat):Int) = -1 then [] else [own L ((8*b+(i - 8*b):Nat):Int)]).length
   rw[AV,e3]
   by_cases e4:own L (i:Int) = -1
   ·
    rw[AI (by simp[e4]),AJ e4];rfl
   ·
    rw[AJ ⟨e,e4⟩,AI e4];rfl
  ·
   rw[AI (by intro h;exact e h.1),show min 8 (i+1 - 8*b)=min 8 (i - 8*b) by omega]
   rfl
theorem Mz(L:Nat->Int){b:Nat}(hb:b<12):lvK L 96 b=(ofL L b).length:=by
 rw[Q1,show min 8 (96 - 8*b)=8 by omega];rfl
theorem iE(L:Nat->Int)(i b:Nat):lvK L i b<=8:=by
 rw[Q1];exact AY (Dh L b _) (Nat.min_le_left _ _)
def cO (L:Nat->Int) (k:Nat):Nat->Nat
 | 0=>0
 | m+1=>cO L k m+if ownK L (m:Int) k≠-1 then 1 else 0
def cL (L:Nat->Int):Nat->Nat
 | 0=>0
 | k+1=>cL L k+if L k≠-1 then 1 else 0
theorem SL(L:Nat->Int):∀m,cO L 0 m=0
 | 0=>rfl
 | m+1=>by unfold cO;rw[SL L m];rfl
theorem SM{L:Nat->Int}(h:GK L){k:Nat}(hk:k<25):∀m,cO L (k+1) m=cO L k m+if 0<=L k/\L k<(m:Int) then 1 else 0
 | 0=>by rw[AI om];rfl
 | m+1=>by
  unfold cO
  rw[SM h hk m]
  have e:ownK L (m:Int) (k+1)=if 0<=ownK L (m:Int) k then ownK L (m:Int) k else if L k=(m:Int) then (k:Int) else -1:=rfl
  rcases Ip L (m:Int) k with ⟨i,h1,h2,h3,_⟩ | ⟨h1,h2⟩
  ·
   have hne:L k≠(m:Int):=by
    intro e1;have:=h.inj i k om hk (by rw[h3,e1]) om;omega
   have hv:ownK L (m:Int) (k+1)=i:=(by rw[e,h2,AJ om]);rw[hv,h2]
   repeat' split
   all_goals omega
  ·by_cases e1:L k=(m:Int)
   ·have hv:ownK L (m:Int) (k+1)=k:=(by rw[e,h1,AI om,AJ e1]);rw[hv,h1]
    repeat' split
    all_goals omega
   ·have hv:ownK L (m:Int) (k+1) = -1:=(by rw[e,h1,AI om,AI e1]);rw[hv,h1]
    repeat' split
    all_goals omega
theorem XP{L:Nat->Int}(h:GK L):∀k,k<=25->cO L k 96=cL L k
 | 0,_=>SL L 96
 | k+1,hk=>by
  rw[SM h om,XP h k om]
  show _=cL L k+if L k≠-1 then 1 else 0
  have:=h.rng k om
  by_cases e:L k = -1
  ·
   rw[AI (show ¬ (0<=L k/\L k<((96:Nat):Int)) by omega),AI (by simp[e])]
  ·
   rw[AJ (show 0<=L k/\L k<((96:Nat):Int) by omega),AJ e]
def cP (L:Nat->Int) (m:Nat):Nat:=cO L 25 m
theorem iF{L:Nat->Int}(h:GK L):cP L 96=cL L 25:=XP h 25 (AM _)
theorem bt(L:Nat->Int)(m:Nat):cP L (m+1)=cP L m+if own L (m:Int)≠-1 then 1 else 0:=rfl
theorem eu(L:Nat->Int)(b:Nat):∀k,cP L (8*b+k)=cP L (8*b)+(ofK L b k).length
 | 0=>rfl
 | k+1=>by
  rw[<-Nat.add_assoc,bt,eu L b k]
  show _=_+(ofK L b k ++ if own L ((8*b+k:Nat):Int) = -1 then [] else [own L ((8*b+k:Nat):Int)]).length
  rw[AV]
  by_cases e:own L ((8*b+k:Nat):Int) = -1
  ·
   rw[AI (by simp only[ne_eq,e,not_true,not_false_eq_true]),AJ e];rfl
  ·
   rw[AJ e,AI e];simp only[length_singleton];omega
theorem Hv(w:Wd):(binOp .eql 46 .nilIface .nilIface).run prog w=.ok (.bool true) w:=kr
theorem Ct(w:Wd):(binOp .neq 46 .nilIface .nilIface).run prog w=.ok (.bool false) w:=kr
theorem Cu(w:Wd)(n:Int):(binOp .neq 46 (.iface 57 (.int .i64 n)) .nilIface).run prog w=.ok (.bool true) w:=kr
def Mp (w:Wd) (b:Nat) (L:Nat->Int):Prop:=IB w b 183 121 (SK L)
section
variable {w w':Wd}{b:Nat}{L:Nat->Int}
theorem Mp.chg{S:Nat->Prop}(h:Mp w b L)(hc:Chg S w w')(hb:¬ S b):Mp w' b L:=IB.chg h hc hb
theorem Mp.drew(h:Mp w b L):Mp w.drew b L:=h
theorem Mp.place(h:Mp w b L){n:Nat}(hn:n<25):w.cell? ⟨b,n,none⟩=some (.int .i64 (L n))/\w.frozen? ⟨b,n,none⟩=false:=by
 have:=IB.cell h n om
 rwa [Iq _ hn] at this
theorem Mp.owner(h:Mp w b L){q:Nat}(hq:q<96):w.cell? ⟨b,25+q,none⟩=some (.int .i64 (own L q))/\w.frozen? ⟨b,25+q,none⟩=false:=by
 have:=IB.cell h (25+q) om
 rwa [Kw] at this
end
theorem He(w:Wd):Calls prog 117 #[] w fun e w'=>e=.returned (.pointer (some ⟨w.heap.size,0,none⟩))/\Mp w' w.heap.size (fun _=>-1)/\Chg No w w':=by
 go_enter func117,ntmps117;go_wp2_with (refine CV rfl 183 rfl w.heap.size rfl Kq ?_);intro w1 K1 G1 S1;have HK1:=BE (show IB w1 w.heap.size 183 121 (fun _=>0) from K1);have HG1:=BE G1;clear K1 G1 S1;generalize HB:w.heap.size=b at *
 have HB:=BE HB;go_wp2_with fail
 go_loopg [5] 25 (fun kx s5 wr=>∃i:Nat,s5=.int .i64 i/\i<=25/\25 - i<=kx/\Hid (IB wr b 183 121 (fun j=>if j<i then -1 else 0))/\Hid (Chg No w wr))
 case atStart=>exact⟨0,rfl,om,om,HK1,HG1⟩
 case round=>
 obtain⟨i,rfl,hin,hkx,HK,HG⟩:=hrel;clear HK1 HG1;by_cases hlt:i<25
 ·have hltz:(i:Int)<25:=om
  obtain⟨c,f⟩:=HK.out.cell i om;go_wp2
  go_roundg (25 - (i+1))
  case measure=>omega
  case rel=>
   refine⟨i+1,by simp,om,AM _,?_,?_⟩
   ·refine(HK.out.set i (-1)).congr fun j _=>?_;simp only[upd]
    repeat' split
    all_goals first | rfl | omega
   ·exact HG.out.setCell (AL (by rw[HB.out];exact AM _)) _ _
 ·have hltz:¬ (i:Int)<25:=om
  have h25:i=25:=om
  subst h25;clear hlt hin hkx;go_wp2_with fail
  go_loopg [14] 96 (fun kx s14 wx=>∃i:Nat,s14=.int .i64 i/\i<=96/\96 - i<=kx/\Hid (IB wx b 183 121 (fun j=>if j<25+i then -1 else 0))/\Hid (Chg No w wx))
  case atStart=>exact⟨0,rfl,om,om,HK,HG⟩
  case round=>
  clear HK HG;obtain⟨i,rfl,hin,hkx,HK,HG⟩:=hrel;by_cases hlt:i<96
  ·have hltz:(i:Int)<96:=om;obtain⟨c,f⟩:=HK.out.cell (25+i) om;go_wp2
   go_roundg (96 - (i+1))
   case measure=>omega
   case rel=>
    refine⟨i+1,by simp,om,AM _,?_,?_⟩
    ·refine(HK.out.set (25+i) (-1)).congr fun j _=>?_;simp only[upd]
     repeat' split
     all_goals first | rfl | omega
    ·exact HG.out.setCell (AL (by rw[HB.out];exact AM _)) _ _
  ·have hltz:¬ (i:Int)<96:=om;have h96:i=96:=om;subst h96;go_wp2;go_ret;exact⟨rfl,HK.out.congr fun j hj=>by rw[XO,AJ om],HG.out⟩
theorem O0(w:Wd)(n:Int)(hn:n≠-1):Calls prog 90 #[.int .i64 n] w fun e w'=>e=.returned (.tuple #[.int .i64 n,.nilIface])/\w'=w:=by
 have hb:(n == -1)=false:=by simp[hn]
 clear hn;go_enter func90,ntmps90;go_wp2;go_ret2;exact⟨rfl,rfl⟩
theorem SN(w:Wd):Calls prog 90 #[.int .i64 (-1)] w fun e w'=>e=.returned (.tuple #[.int .i64 0,.iface 57 (.int .i64 11)])/\w'=w:=by
 go_enter func90,ntmps90;go_wp2;go_ret2;exact⟨rfl,rfl⟩
theorem Q2(w:Wd)(b:Nat)(L:Nat->Int)(h:Mp w b L)(n:Nat)(hn:n<25)(hL:L n≠-1):Calls prog 50 #[.pointer (some ⟨b,0,none⟩),.int .i64 n] w fun e w'=>e=.returned (.tuple #[.int .i64 (L n),.nilIface])/\w'=w:=by
 obtain⟨c,-⟩:=h.place hn;have h1:¬ (n:Int) ≥ 25:=om
 have h0:¬ (n:Int)<0:=om
 have h2:(n:Int)<25:=om
 have ht:=O0 w (L n) hL;clear h hn hL;go_enter func50,ntmps50;go_wp2_with (go_at_call 90;refine ht.mono ?_;rintro e w1 ⟨rfl,rfl⟩);go_ret2;exact⟨rfl,rfl⟩
theorem M6(w:Wd)(b:Nat)(L:Nat->Int)(h:Mp w b L)(n:Nat)(hn:n<25)(hL:L n = -1):Calls prog 50 #[.pointer (some ⟨b,0,none⟩),.int .i64 n] w fun e w'=>e=.returned (.tuple #[.int .i64 0,.iface 57 (.int .i64 11)])/\w'=w:=by
 obtain⟨c,-⟩:=h.place hn;rw[hL] at c;have h1:¬ (n:Int) ≥ 25:=om
 have h0:¬ (n:Int)<0:=om
 have h2:(n:Int)<25:=om
 clear h hn hL;go_enter func50,ntmps50;go_wp2_with (go_at_call 90;refine(SN _).mono ?_;rintro e w1 ⟨rfl,rfl⟩);go_ret2;exact⟨rfl,rfl⟩
theorem XQ(w:Wd)(b:Nat)(n:Int)(hn:n<0\/25<=n):Calls prog 50 #[.pointer (some ⟨b,0,none⟩),.int .i64 n] w fun e w'=>e=.returned (.tuple #[.int .i64 0,.iface 57 (.int .i64 1)])/\w'=w:=by
 by_cases h0:n<0
 ·clear hn;go_enter func50,ntmps50;go_wp2;go_ret2;exact⟨rfl,rfl⟩
 ·have h1:n ≥ 25:=om
  clear hn;go_enter func50,ntmps50;go_wp2;go_ret2;exact⟨rfl,rfl⟩
theorem US(w:Wd)(b:Nat)(L:Nat->Int)(h:Mp w b L)(n:Nat)(hn:n<96)(hL:own L n≠-1):Calls prog 98 #[.pointer (some ⟨b,0,none⟩),.int .i64 n] w fun e w'=>e=.returned (.tuple #[.int .i64 (own L n),.nilIface])/\w'=w:=by
 obtain⟨c,-⟩:=h.owner hn;have h1:¬ (n:Int) ≥ 96:=om
 have h0:¬ (n:Int)<0:=om
 have h2:(n:Int)<96:=om
 have ht:=O0 w (own L n) hL;clear h hn hL;go_enter func98,ntmps98;go_wp2_with (go_at_call 90;refine ht.mono ?_;rintro e w1 ⟨rfl,rfl⟩);go_ret2;exact⟨rfl,rfl⟩
theorem Q3(w:Wd)(b:Nat)(L:Nat->Int)(h:Mp w b L)(n:Nat)(hn:n<96)(hL:own L n = -1):Calls prog 98 #[.pointer (some ⟨b,0,none⟩),.int .i64 n] w fun e w'=>e=.returned (.tuple #[.int .i64 0,.iface 57 (.int .i64 11)])/\w'=w:=by
 obtain⟨c,-⟩:=h.owner hn;rw[hL] at c;have h1:¬ (n:Int) ≥ 96:=om
 have h0:¬ (n:Int)<0:=om
 have h2:(n:Int)<96:=om
 clear h hn hL;go_enter func98,ntmps98;go_wp2_with (go_at_call 90;refine(SN _).mono ?_;rintro e w1 ⟨rfl,rfl⟩);go_ret2;exact⟨rfl,rfl⟩
theorem UT(w:Wd)(b:Nat)(n:Int)(hn:n<0\/96<=n):Calls prog 98 #[.pointer (some ⟨b,0,none⟩),.int .i64 n] w fun e w'=>e=.returned (.tuple #[.int .i64 0,.iface 57 (.int .i64 1)])/\w'=w:=by
 by_cases h0:n<0
 ·clear hn;go_enter func98,ntmps98;go_wp2;go_ret2;exact⟨rfl,rfl⟩
 ·have h1:n ≥ 96:=om
  clear hn;go_enter func98,ntmps98;go_wp2;go_ret2;exact⟨rfl,rfl⟩
theorem O9(w:Wd)(b:Nat)(L:Nat->Int)(h:Mp w b L)(ok:GK L)(n:Nat)(hn:n<25):Calls prog 105 #[.pointer (some ⟨b,0,none⟩),.int .i64 n] w fun e w'=>e=.returned (.tuple #[])/\Mp w' b (upd L n (-1))/\Chg (·=b) w w':=by
 obtain⟨c,f⟩:=h.place hn;have h2:(n:Int)<25:=om
 have HK:=BE h;have HO:=BE ok;rcases ok.rng n hn with e | ⟨e0,e1⟩
 ·rw[e] at c;have HE:=BE e;clear h ok e;go_enter func105,ntmps105;go_wp2;go_end0;refine⟨rfl,?_,(Chg.refl (·=b) _).setCell (AK rfl) _ _⟩;unfold Mp;rw[<-Q0 hn HE.out];exact IB.set HK.out n (-1)
 ·obtain⟨m,hm⟩:∃m:Nat,L n=m:=⟨(L n).toNat,om⟩;rw[hm] at c;have hm96:(m:Int)<96:=om
  have hm96':m<96:=om
  have hmb:((m:Int) == -1)=false:=by simp only[beq_eq_false_iff_ne];omega
  obtain⟨c2,f2⟩:=h.owner hm96';have HE:=BE hm;have HK1:=BE (IB.set h (25+m) (-1));obtain⟨c3,f3⟩:=HK1.out.cell n om;clear h ok e0 e1 hm;go_enter func105,ntmps105;go_wp2;go_end0;refine⟨rfl,?_,((Chg.refl (·=b) _).setCell (AK rfl) _ _).setCell (AK rfl) _ _⟩;exact(IB.set HK1.out n (-1)).congr fun k _=>UR HO.out hn HE.out k
theorem XR(w:Wd)(b:Nat)(n:Int)(hn:n<0\/25<=n):Calls prog 58 #[.pointer (some ⟨b,0,none⟩),.int .i64 n] w fun e w'=>e=.returned (.iface 57 (.int .i64 1))/\w'=w:=by
 have q:=Cu;go_enter func58,ntmps58;go_wp2_with (go_at_call 50;refine(XQ _ b n hn).mono ?_;rintro e w1 ⟨rfl,rfl⟩);go_ret;exact⟨rfl,rfl⟩
theorem UU(w:Wd)(b:Nat)(L:Nat->Int)(h:Mp w b L)(n:Nat)(hn:n<25)(hL:L n = -1):Calls prog 58 #[.pointer (some ⟨b,0,none⟩),.int .i64 n] w fun e w'=>e=.returned (.iface 57 (.int .i64 11))/\w'=w:=by
 have q:=Cu;have ha:=M6 w b L h n hn hL;clear h hn hL;go_enter func58,ntmps58;go_wp2_with (go_at_call 50;refine ha.mono ?_;rintro e w1 ⟨rfl,rfl⟩);go_ret;exact⟨rfl,rfl⟩
theorem XS(w:Wd)(b:Nat)(L:Nat->Int)(h:Mp w b L)(ok:GK L)(n:Nat)(hn:n<25)(hL:L n≠-1):Calls prog 58 #[.pointer (some ⟨b,0,none⟩),.int .i64 n] w fun e w'=>e=.returned .nilIface/\Mp w' b (upd L n (-1))/\Chg (·=b) w w':=by
 have q:=Ct;have ha:=Q2 w b L h n hn hL;have hl:=O9 w b L h ok n hn;clear h hn hL ok;go_enter func58,ntmps58;go_wp2_with (first | (go_at_call 50;refine ha.mono ?_;rintro e w1 ⟨rfl,rfl⟩) | (go_at_call 105;refine hl.mono ?_;rintro e w2 ⟨rfl,K2,G2⟩;have HK:=BE K2;have HG:=BE G2;clear K2 G2));go_ret;exact⟨rfl,HK.out,HG.out⟩
abbrev DY (n q:Int):Prop:=(0<=q/\q<96)/\(0<=n/\n<25)/\(n=24\/q % 8<6)
theorem Mw(w:Wd)(b:Nat)(n q:Int)(hn:¬ DY n q):Calls prog 155 #[.pointer (some ⟨b,0,none⟩),.int .i64 n,.int .i64 q] w fun e w'=>e=.returned (.iface 57 (.int .i64 1))/\w'=w:=by
 have q1:=Cu;have q2:=Ct;by_cases h1:(q<0\/96<=q)\/(n<0\/25<=n)
 ·have hh:=UQ w q n h1;clear hn h1;go_enter func155,ntmps155;go_wp2_with (go_at_call 196;refine hh.mono ?_;rintro e w1 ⟨rfl,rfl⟩);go_ret;exact⟨rfl,rfl⟩
 ·have hh:=Fj w q n om om;rw[show decide (n=24\/q % 8<6)=false from AN (fun h=>hn ⟨om,om,h⟩)] at hh;clear hn h1;go_enter func155,ntmps155;go_wp2_with (go_at_call 196;refine hh.mono ?_;rintro e w1 ⟨rfl,rfl⟩);go_ret;exact⟨rfl,rfl⟩
theorem UV(w:Wd)(b:Nat)(L:Nat->Int)(h:Mp w b L)(n m:Nat)(hn:DY n m)(ho:own L m≠-1/\own L m≠n):Calls prog 155 #[.pointer (some ⟨b,0,none⟩),.int .i64 n,.int .i64 m] w fun e w'=>e=.returned (.iface 57 (.int .i64 12))/\w'=w:=by
 have q2:=Ct;obtain⟨c,-⟩:=h.owner (q:=m) (by have:=hn.1;omega);have hh:=Fj w m n hn.1 hn.2.1;rw[show decide ((n:Int)=24\/(m:Int) % 8<6)=true from AO hn.2.2] at hh;have h96:(m:Int)<96:=hn.1.2;have hb0:=ho.1;have hb1:(own L m != -1)=true:=by simp[ho.1]
 have hb2:(own L m != (n:Int))=true:=by simp[ho.2]
 clear h hn ho;go_enter func155,ntmps155;go_wp2_with (go_at_call 196;refine hh.mono ?_;rintro e w1 ⟨rfl,rfl⟩);go_ret;exact⟨rfl,rfl⟩
theorem SO{w w2:Wd}{b:Nat}{L:Nat->Int}{n m:Nat}(K:Mp w2 b (upd L n (-1)))(G:Chg (·=b) w w2)(ok:GK (upd L n (-1)))(hn:n<25)(hm:m<96)(may:n<24->m % 8<6)(ho:own (upd L n (-1)) m = -1) :Ending.returned .nilIface=Ending.returned .nilIface/\Mp ((w2.setCell ⟨b,n,none⟩ (.int .i64 m)).setCell ⟨b,25+m,none⟩ (.int .i64 n)).drew b (upd L n m)/\Chg (·=b) w ((w2.setCell ⟨b,n,none⟩ (.int .i64 m)).setCell ⟨b,25+m,none⟩ (.int .i64 n)).drew/\GK (upd L n m):=by
 refine⟨rfl,?_,((G.setCell (AK rfl) _ _).setCell (AK rfl) _ _).drew,?_⟩
 ·have h:=(IB.set (IB.set K n m) (25+m) n).congr fun k _=>br ok hn hm may (CG _ _ _) ho k;rw[SJ] at h;exact h
 ·have h:=ok.put n (q:=m) om (fun h=>by have:=may h;omega) ho;rw[SJ] at h;exact h
theorem Mx(w:Wd)(b:Nat)(L:Nat->Int)(h:Mp w b L)(ok:GK L)(n m:Nat)(hn:DY n m)(ho:own L m = -1\/own L m=n):Calls prog 155 #[.pointer (some ⟨b,0,none⟩),.int .i64 n,.int .i64 m] w fun e w'=>e=.returned .nilIface/\Mp w' b (upd L n m)/\Chg (·=b) w w'/\GK (upd L n m):=by
 have q2:=Ct;obtain⟨c,-⟩:=h.owner (q:=m) (by have:=hn.1;omega);have hh:=Fj w m n hn.1 hn.2.1;rw[show decide ((n:Int)=24\/(m:Int) % 8<6)=true from AO hn.2.2] at hh;have h96:(m:Int)<96:=hn.1.2;have h25:(n:Int)<25:=hn.2.1.2;have h25':n<25:=om
 have h96':m<96:=om
 have hl:=O9 w b L h ok n h25';have HM:=BE hn.2.2;have hoc:own (upd L n (-1)) m = -1:=by
  rw[Lz ok h25' om];by_cases e:(m:Int)=L n
  ·rw[AJ e]
  ·rw[AI e];rcases ho with ho | ho
   ·exact ho
   ·rcases Dr L m with ⟨i,h1,h2,h3,_⟩ | ⟨h1,h2⟩
    ·have e1:i=n:=om;subst e1;exact absurd h3.symm e
    ·exact h1
 have HC:=BE hoc;have HOK:=BE (ok.clear n);have may':n<24->m % 8<6:=fun h=>by have:=HM.out;omega
 have HMY:=BE may';rcases ho with ho | ho
 ·rw[ho] at c;clear h hn ho ok hoc may' HM;go_enter func155,ntmps155;go_wp2_with (first | (go_at_call 196;refine hh.mono ?_;rintro e w1 ⟨rfl,rfl⟩) | (go_at_call 105;refine hl.mono ?_;rintro e w2 ⟨rfl,K2,G2⟩;have HK:=BE K2;have HG:=BE G2;obtain⟨d1,f1⟩:=K2.place h25';obtain⟨d2,f2⟩:=K2.owner h96';clear K2 G2));go_region;go_wp2;go_ret;exact SO HK.out HG.out HOK.out h25' h96' HMY.out HC.out
 ·rw[ho] at c;have hnb:((n:Int) != -1)=true:=by simp only[bne_iff_ne,ne_eq];omega
  have hnn:((n:Int) == (n:Int))=true:=by simp
  clear h hn ho ok hoc may' HM;go_enter func155,ntmps155;go_wp2_with (first | (go_at_call 196;refine hh.mono ?_;rintro e w1 ⟨rfl,rfl⟩) | (go_at_call 105;refine hl.mono ?_;rintro e w2 ⟨rfl,K2,G2⟩;have HK:=BE K2;have HG:=BE G2;obtain⟨d1,f1⟩:=K2.place h25';obtain⟨d2,f2⟩:=K2.owner h96';clear K2 G2));go_region;go_wp2;go_ret;exact SO HK.out HG.out HOK.out h25' h96' HMY.out HC.out
def Ow (w:Wd) (base:Nat) (v:Value) (l:List Int):Prop:=w.ownsRow base 3 1 v l.length (l.map i6)
theorem Ow.nil(w:Wd)(base:Nat):Ow w base (.slice none 0 0) []:=⟨rfl,AK ⟨rfl,rfl⟩⟩
theorem Ow.form{w:Wd}{base:Nat}{v:Value}{l:List Int}(h:Ow w base v l):∃a cap,v=.slice a l.length cap:=by
 rcases h.2 with ⟨h1,h2⟩ | ⟨g,cap,cur,hv,_⟩
 ·exact⟨none,0,by rw[h1,h2]⟩
 ·exact⟨_,_,hv⟩
theorem Ow.block{w:Wd}{base:Nat}{v:Value}{l:List Int}(h:Ow w base v l){k:Nat}(hk:v.ownBlock=some k):base<=k/\k<w.heap.size:=h.lt k hk
theorem Ow.chg{S:Nat->Prop}{w w':Wd}{base:Nat}{v:Value}{l:List Int}(h:Ow w base v l)(hc:Chg S w w')(hs:∀k,k<w.heap.size->v.ownBlock=some k->¬ S k):Ow w' base v l:=by
 refine⟨h.1,?_⟩;rcases h.2 with h1 | ⟨g,cap,cur,rfl,hb,hh,r⟩
 ·exact AK h1
 ·have hg:=(Array.getElem?_eq_some_iff.1 hh).1;exact AL ⟨g,cap,cur,rfl,hb,(hc.block g hg (hs g hg rfl)).trans hh,r⟩
theorem Ow.new{w w':Wd}{base:Nat}{v:Value}{l:List Int}(h:Ow w base v l)(hc:Chg No w w'):Ow w' base v l:=h.chg hc (fun _ _ _ f=>f)
theorem lH:∃i,prog.info? 3=some i/\i.zero=some (.int .i64 0)/\i.size=1/\i.bytes=8:=by
 have h:(prog.info? 3).map (fun i=>(i.zero,i.size,i.bytes))=some (some (.int .i64 0),1,8):=kr
 cases e:prog.info? 3 with
 | none=>rw[e] at h;cases h
 | some i=>
  rw[e] at h;simp only[Option.map_some,Option.some.injEq,Prod.mk.injEq] at h;exact⟨i,rfl,h.1,h.2.1,h.2.2⟩
theorem JW(w:Wd){ops:Array Oper}{rest:List Oper}{o:Oper}{a:Act}{Q:Exit->Act->World->Prop}(hgd:o.guard=none)(s x:Operand)(ho:o.op=.call { callee:=.builtin .append,args:=#[s,x],argTypes:=#[43,43] })(base:Nat)(v:Value)(l:List Int)(hs:a.eval s=v)(g:Nat)(z:Int)(hx:a.eval x=.slice (some ⟨g,0,none⟩) 1 1)(hown:Ow w base v l)(hA:w.cell? ⟨g,0,none⟩=some (.int .i64 z))(hl:l.length<100)(hbase:base<=w.heap.size)(h:∀v' w',Ow w' base v' (l ++ [z])->Chg (fun k=>v.ownBlock=some k) w w'->wpList prog ops Q rest (a.put o.dst v') w'):wpList prog ops Q (o :: rest) a w:=by
 obtain⟨i,hi1,hi2,hi3,hi4⟩:=lH;refine wpList_append_own_at w hgd s x 43 ho base 3 i (.int .i64 0) 1 8 underlying43 hi1 hi2 hi3 hi4 rfl dc v l.length (l.map i6) hs hown ⟨g,0,none⟩ 1 1 [i6 z] hx rfl ?_ (fun u hu=>by simp at hu;rw[hu];rfl) (by unfold maxLen;omega) om hbase ?_
 ·intro j u hj
  match j,hj with
  | 0,hj=>
   simp at hj;subst hj;rw[Addr.add_mid];exact hA
 ·intro v' w' h1 h2 _ _;refine h v' w' ?_ ⟨h2.os,h2.tape,h2.output,h2.size,fun k hk hs=>h2.block k hk (fun e=>hs e.symm)⟩;unfold Ow;rw[AV,map_append];exact h1
theorem bw(w:Wd)(k:Nat)(hk:k<12)(p:Nat)(hp:p=8*k):Calls prog 195 #[.int .i64 k,.int .i64 0] w fun e w'=>e=.returned (.tuple #[.int .i64 p,.nilIface])/\w'=w:=by
 refine(Kv w k 0 om om).mono ?_;rintro e w' ⟨rfl,rfl⟩;refine⟨?_,rfl⟩;rw[show (k:Int)*8+0=(p:Int) by omega]
theorem fE:prog.arrayLen 181=96:=kr
theorem iG(w:Wd):(sizeOf (prog.elem 181)).run prog w=.ok 1 w:=kr
theorem bx(b p:Nat)(hp:p<=88)(w:Wd):(Instr.sliceAt 181 (.pointer (some ⟨b,25,none⟩)) (some (.int .i64 p)) (some (.int .i64 (p+8))) none).run prog w=.ok (.slice (some ⟨b,25+p,none⟩) 8 (96 - p)) w:=by
 rw[run_sliceAt_array_lh w 181 ⟨b,25,none⟩ underlying181 .i64 .i64 p (p+8) om om (by rw[fE];omega),iG,fE];simp only[Result.andThen_ok,slicedAt];rw[AI om,Addr.add_mid];congr 2
 ·congr 2;omega
 ·omega
theorem XT(w:Wd)(b:Nat)(L:Nat->Int)(h:Mp w b L)(k:Nat)(hk:k<12):Calls prog 189 #[.pointer (some ⟨b,0,none⟩),.int .i64 k] w fun e w'=>(∃a cap,e=.returned (.tuple #[.slice a (ofL L k).length cap,.nilIface])/\Ow w' w.heap.size (.slice a (ofL L k).length cap) (ofL L k))/\Chg No w w':=by
 have q:=Ct;obtain⟨p,hp⟩:∃p,p=8*k:=⟨_,rfl⟩;have hpc:=bw w k hk p hp;have HP:=BE hp;have HK:=BE h;have hp8:p<=88:=om
 have hp8z:(p:Int)<=88:=om
 have hsl:=bx b p hp8;clear h hp;go_enter func189,ntmps189;go_wp2_with (go_at_call 195;refine hpc.mono ?_;rintro e w1 ⟨rfl,rfl⟩)
 go_loopg [8,27] 8 (fun kx s8 s27 wr=>∃i:Nat,s27=.int .i64 i/\i<=8/\8 - i<=kx/\Hid (Ow wr w1.heap.size s8 (ofK L k i))/\Hid (Chg No w1 wr))
 case atStart=>exact⟨0,rfl,om,om,Ow.nil _ _,Chg.refl _ _⟩
 case round=>
 obtain⟨i,rfl,hin,hkx,HO,HG⟩:=hrel;by_cases hlt:i<8
 ·have hltz:(i:Int)<8:=om
  obtain⟨c,-⟩:=(HK.out.chg HG.out (fun f=>f)).owner (q:=p+i) om;have HE:Hid (ofK L k (i+1)=ofK L k i ++ if own L ((8*k+i:Nat):Int) = -1 then [] else [own L ((8*k+i:Nat):Int)]):=rfl;rw[<-HP.out] at HE;rw[<-Nat.add_assoc] at c;generalize own L ((p+i:Nat):Int)=z at *
  by_cases hz:z = -1
  ·subst hz;rw[AJ rfl,append_nil] at HE;go_wp2
   go_roundg (8 - (i+1))
   case measure=>omega
   case rel=>exact⟨i+1,by simp,om,AM _,by show Ow _ _ _ _;rw[HE.out];exact HO.out,HG⟩
  ·rw[AI hz] at HE;have hzb:(z == -1)=false:=(by simp[hz]);have hlen:=Dh L k i;have O1:=HO.out.new ((Chg.refl No wr).alloc (.cells #[.int .i64 z] 3));have HO1:=BE O1;have HB1:Hid (w1.heap.size<=(wr.alloc (.cells #[.int .i64 z] 3)).heap.size):=(by have:=HG.out.size;show _<=_;simp;omega);have HC1:Hid ((wr.alloc (.cells #[.int .i64 z] 3)).cell? ⟨wr.heap.size,0,none⟩=some (.int .i64 z)):=(by show _=_;simp);have HG1:=BE (HG.out.alloc (.cells #[.int .i64 z] 3));clear O1;go_wp2_with (first | (refine JW _ rfl (.tmp 33) (.tmp 35) rfl w1.heap.size _ (ofK L k i) rfl wr.heap.size z rfl ?_ ?_ om ?_ ?_;exact HO1.out;exact HC1.out;exact HB1.out));intro v' w2 O2 G2;have HO2:=BE O2;have HG2:Hid (Chg No w1 w2):=HG1.out.trans' G2 fun j hj e=>by have:=HO.out.block e;omega
   clear O2 G2 HO1 HB1 HC1 HG1;go_wp2
   go_roundg (8 - (i+1))
   case measure=>omega
   case rel=>exact⟨i+1,by simp,om,AM _,by show Ow _ _ _ _;rw[HE.out];exact HO2.out,HG2⟩
 ·have hltz:¬ (i:Int)<8:=om
  have h8:i=8:=om
  subst h8;obtain⟨a,cap,hv⟩:=HO.out.form;subst hv;have HO2:Hid (Ow wr w1.heap.size (.slice a (ofL L k).length cap) (ofL L k)):=HO.out;clear HO hlt hin;go_wp2;go_ret2;exact⟨⟨a,cap,rfl,HO2.out⟩,HG.out⟩
theorem bz(f:Nat->Int)(i:Nat)(hi:i<96)(w:Wd):(Instr.index 181 (.agg (ints f 96).toArray) (.int .i64 i)).run prog w=.ok (.int .i64 (f i)) w:=by
 have h:=BU f 96 i hi;generalize ints f 96=L at *
 simp[Instr.index,run_underlying underlying181,asIntOf,go_sem,hi,h,i6]
theorem b8(w:Wd)(i k j:Nat)(hi:i<96)(hk:k=i / 8)(hj:j=i % 8):Calls prog 158 #[.int .i64 i] w fun e w'=>e=.returned (.tuple #[.int .i64 k,.int .i64 j,.nilIface])/\w'=w:=by
 refine(H9 w i om).mono ?_;rintro e w' ⟨rfl,rfl⟩;refine⟨?_,rfl⟩;rw[show (i:Int) / 8=(k:Int) by omega,show (i:Int) % 8=(j:Int) by omega]
theorem IC(w:Wd)(b:Nat)(L:Nat->Int)(h:Mp w b L):Calls prog 140 #[.pointer (some ⟨b,0,none⟩)] w fun e w'=>e=.returned (.slice (some ⟨w.heap.size,0,none⟩) 12 12)/\IB w' w.heap.size 3 12 (fun k=>(lvK L 96 k:Nat))/\Chg No w w':=by
 have q:=Hv;have hm:=Kr;have HK0:=BE (IB.new w 3 12 (fun _=>0));have HG0:Hid (Chg No w (w.alloc (.cells (ints (fun _=>0) 12).toArray 3))):=(Chg.refl _ w).alloc _;have HK:=BE (h.chg HG0.out (fun f=>f));have HR:Hid (World.rangeAt (w.alloc (.cells (ints (fun _=>0) 12).toArray 3)) b 25 (ints (fun q=>own L (q:Int)) 96)):=fun j v hv=>by
  have hj:j<96:=by have:=(List.getElem?_eq_some_iff.1 hv).1;rwa [BF] at this
  rw[(HK.out.owner hj).1,<-hv,BU _ _ _ hj];rfl
 clear h;go_enter func140,ntmps140;go_wp2_with (first | (refine wpList_load_mid rfl 181 (.tmp 12) rfl b 25 rfl (ints (fun q=>own L (q:Int)) 96) _ ?_ underlying181 rfl ?_ ?_;exact HR.out;rw[BF];exact iD));generalize HW:w.alloc (.cells (ints (fun _=>0) 12).toArray 3)=w0 at *
 generalize HB:w.heap.size=s at *
 have HB:=BE HB;clear HW hm
 go_loopg [14] 96 (fun kx s14 wr=>∃i:Nat,s14=.int .i64 i/\i<=96/\96 - i<=kx/\Hid (IB wr s 3 12 (fun k=>(lvK L i k:Nat)))/\Hid (Chg No w wr))
 case atStart=>exact⟨0,rfl,om,om,HK0,HG0⟩
 case round=>
 obtain⟨i,rfl,hin,hkx,HC,HG⟩:=hrel;clear HK0 HG0 HR HK;by_cases hlt:i<96
 ·have hltz:(i:Int)<96:=om
  have hix:∀w,(Instr.index 181 (.agg (ints (fun q=>own L (q:Int)) 96).toArray) (.int .i64 i)).run prog w=.ok (.int .i64 (own L (i:Int))) w:=bz (fun q=>own L (q:Int)) i hlt;obtain⟨k,hk⟩:∃k,k=i / 8:=⟨_,rfl⟩;obtain⟨j,hj⟩:∃j,j=i % 8:=⟨_,rfl⟩;have hpt:=b8 wr i k j hlt hk hj;have hk12:k<12:=om
  have hkz:(k:Int)<12:=om
  obtain⟨c,f⟩:=HC.out.cell k hk12;have hle:=iE L i k;have HE:Hid (∀t,lvK L (i+1) t=lvK L i t+if i / 8=t/\own L (i:Int)≠-1 then 1 else 0):=fun _=>rfl;have HKk:=BE hk;clear hk hj;generalize own L (i:Int)=z at *
  by_cases hz:z = -1
  ·have HZ:=BE hz;rw[hz] at hix;clear hz;go_wp2_with (go_at_call 158;refine hpt.mono ?_;rintro e w1 ⟨rfl,rfl⟩)
   go_roundg (96 - (i+1))
   case measure=>omega
   case rel=>
    refine⟨i+1,by simp,om,AM _,?_,HG⟩;exact HC.out.congr fun t _=>by rw[HE.out t,AI (fun h=>h.2 HZ.out)];rfl
  ·have hzb:(z == -1)=false:=(by simp[hz]);have HZ:=BE hz;clear hz;go_wp2_with (go_at_call 158;refine hpt.mono ?_;rintro e w1 ⟨rfl,rfl⟩)
   go_roundg (96 - (i+1))
   case measure=>omega
   case rel=>
    refine⟨i+1,by simp,om,AM _,?_,?_⟩
    ·refine(HC.out.set k ((lvK L i k:Nat)+1)).congr fun t _=>?_;rw[HE.out t];by_cases e:t=k
     ·rw[e,CG,AJ ⟨HKk.out.symm,HZ.out⟩];simp
     ·rw[BY _ _ e,AI (fun h=>e (by rw[HKk.out,h.1]))];rfl
    ·exact HG.out.setCell (AL (by rw[HB.out];exact AM _)) _ _
 ·have hltz:¬ (i:Int)<96:=om
  have h96:i=96:=om
  subst h96;go_wp2;go_ret;exact⟨rfl,HC.out,HG.out⟩
def setC (L:Nat->Int) (n q:Int):Nat:=if ¬ DY n q then 1 else if own L q≠-1/\own L q≠n then 12 else 0
def setL (L:Nat->Int) (n q:Int):Nat->Int:=if setC L n q=0 then upd L n.toNat q else L
theorem SF(w:Wd)(b:Nat)(L:Nat->Int)(h:Mp w b L)(ok:GK L)(n q:Int):Calls prog 155 #[.pointer (some ⟨b,0,none⟩),.int .i64 n,.int .i64 q] w fun e w'=>e=.returned (errV (setC L n q))/\Mp w' b (setL L n q)/\Chg (·=b) w w'/\GK (setL L n q):=by
 by_cases h1:DY n q
 ·obtain⟨m,rfl⟩:∃m:Nat,n=m:=⟨n.toNat,by have:=h1.2.1;omega⟩;obtain⟨p,rfl⟩:∃p:Nat,q=p:=⟨q.toNat,by have:=h1.1;omega⟩;by_cases h2:own L p≠-1/\own L p≠m
  ·have e:setC L m p=12:=(by unfold setC;rw[AI (fun h=>h h1),AJ h2]);refine(UV w b L h m p h1 h2).mono ?_;rintro x w' ⟨rfl,rfl⟩;unfold setL;rw[e];exact⟨rfl,h,Chg.refl _ _,ok⟩
  ·have e:setC L m p=0:=(by unfold setC;rw[AI (fun h=>h h1),AI h2]);refine(Mx w b L h ok m p h1 om).mono ?_;rintro x w' ⟨rfl,h3,h4,h5⟩;unfold setL;rw[e,AP];exact⟨rfl,h3,h4,h5⟩
 ·have e:setC L n q=1:=by unfold setC;rw[AJ h1]
  refine(Mw w b n q h1).mono ?_;rintro x w' ⟨rfl,rfl⟩;unfold setL;rw[e];exact⟨rfl,h,Chg.refl _ _,ok⟩
def atC (L:Nat->Int) (n:Int):Nat:=if n<0\/25<=n then 1 else if L n.toNat = -1 then 11 else 0
def atV (L:Nat->Int) (n:Int):Int:=if atC L n=0 then L n.toNat else 0
def dropL (L:Nat->Int) (n:Int):Nat->Int:=if atC L n=0 then upd L n.toNat (-1) else L
theorem PA(L:Nat->Int)(n:Int):((n<0\/25<=n)/\atC L n=1)\/∃m:Nat,n=m/\m<25/\((L m = -1/\atC L n=11)\/(L m≠-1/\atC L n=0)):=by
 unfold atC;by_cases h:n<0\/25<=n
 ·exact AK ⟨h,AJ h⟩
 ·refine AL ⟨n.toNat,om,om,?_⟩;rw[AI h];by_cases e:L n.toNat = -1
  ·exact AK ⟨e,AJ e⟩
  ·exact AL ⟨e,AI e⟩
theorem b9(w:Wd)(b:Nat)(L:Nat->Int)(h:Mp w b L)(n:Int):Calls prog 50 #[.pointer (some ⟨b,0,none⟩),.int .i64 n] w fun e w'=>e=.returned (.tuple #[.int .i64 (atV L n),errV (atC L n)])/\w'=w:=by
 unfold atV;rcases PA L n with ⟨h1,e⟩ | ⟨m,rfl,hm,⟨h2,e⟩ | ⟨h2,e⟩⟩ <;> rw[e]
 ·exact XQ w b n h1
 ·exact M6 w b L h m hm h2
 ·exact Q2 w b L h m hm h2
theorem iI(w:Wd)(b:Nat)(L:Nat->Int)(h:Mp w b L)(ok:GK L)(n:Int):Calls prog 58 #[.pointer (some ⟨b,0,none⟩),.int .i64 n] w fun e w'=>e=.returned (errV (atC L n))/\Mp w' b (dropL L n)/\Chg (·=b) w w'/\GK (dropL L n):=by
 unfold dropL;rcases PA L n with ⟨h1,e⟩ | ⟨m,rfl,hm,⟨h2,e⟩ | ⟨h2,e⟩⟩ <;> rw[e]
 ·refine(XR w b n h1).mono ?_;rintro x w' ⟨rfl,rfl⟩;exact⟨rfl,h,Chg.refl _ _,ok⟩
 ·refine(UU w b L h m hm h2).mono ?_;rintro x w' ⟨rfl,rfl⟩;exact⟨rfl,h,Chg.refl _ _,ok⟩
 ·refine(XS w b L h ok m hm h2).mono ?_;rintro x w' ⟨rfl,h3,h4⟩;exact⟨rfl,h3,h4,ok.clear m⟩
def Zr (L:Nat->Int) (q:Int):Nat:=if q<0\/96<=q then 1 else if own L q = -1 then 11 else 0
def owV (L:Nat->Int) (q:Int):Int:=if Zr L q=0 then own L q else 0
theorem XU(L:Nat->Int)(q:Int):((q<0\/96<=q)/\Zr L q=1)\/∃m:Nat,q=m/\m<96/\((own L m = -1/\Zr L q=11)\/(own L m≠-1/\Zr L q=0)):=by
 unfold Zr;by_cases h:q<0\/96<=q
 ·exact AK ⟨h,AJ h⟩
 ·obtain⟨m,rfl⟩:∃m:Nat,q=m:=⟨q.toNat,om⟩;refine AL ⟨m,rfl,om,?_⟩;rw[AI h];by_cases e:own L m = -1
  ·exact AK ⟨e,AJ e⟩
  ·exact AL ⟨e,AI e⟩
theorem cD(w:Wd)(b:Nat)(L:Nat->Int)(h:Mp w b L)(q:Int):Calls prog 98 #[.pointer (some ⟨b,0,none⟩),.int .i64 q] w fun e w'=>e=.returned (.tuple #[.int .i64 (owV L q),errV (Zr L q)])/\w'=w:=by
 unfold owV;rcases XU L q with ⟨h1,e⟩ | ⟨m,rfl,hm,⟨h2,e⟩ | ⟨h2,e⟩⟩ <;> rw[e]
 ·exact UT w b q h1
 ·exact Q3 w b L h m hm h2
 ·exact US w b L h m hm h2
end Go.Proofs.YtmdpnpjacfedpaaGreat.AC
namespace Go.Proofs.YtmdpnpjacfedpaaGreat.AB
open List
open Go.Proofs.Tryz
open Go.RowKit
theorem BN(w:Wd)(n m:Int)(h:0<=n/\n<m):Calls prog 188 #[.int .i64 n,.int .i64 m] w fun e w'=>e=.returned (.bool true)/\w'=w:=by
 obtain⟨h0,h1⟩:=h;go_enter func188,ntmps188;go_wp2;go_ret;exact⟨rfl,rfl⟩
theorem CN(w:Wd)(n m:Int)(h:n<0\/m<=n):Calls prog 188 #[.int .i64 n,.int .i64 m] w fun e w'=>e=.returned (.bool false)/\w'=w:=by
 by_cases h0:0<=n
 ·have h1:¬ n<m:=om
  clear h;go_enter func188,ntmps188;go_wp2;go_ret;exact⟨rfl,rfl⟩
 ·clear h;go_enter func188,ntmps188;go_wp2;go_ret;exact⟨rfl,rfl⟩
theorem XV(w:Wd)(n:Int)(h:0<=n/\n<96):Calls prog 87 #[.int .i64 n] w fun e w'=>e=.returned (.bool true)/\w'=w:=by
 have h0:n ≥ 0:=h.1;have h1:n<=95:=om
 clear h;go_enter func87,ntmps87;go_wp2;go_ret;exact⟨rfl,rfl⟩
theorem Kv(w:Wd)(b i:Int)(hb:0<=b/\b<12)(hi:0<=i/\i<8):Calls prog 195 #[.int .i64 b,.int .i64 i] w fun e w'=>e=.returned (.tuple #[.int .i64 (b*8+i),.nilIface])/\w'=w:=by
 obtain⟨b0,b1⟩:=hb;obtain⟨i0,i1⟩:=hi;go_enter func195,ntmps195;go_wp2_with fail;refine(BN w b 12 ⟨b0,b1⟩).mono ?_;rintro e w1 ⟨rfl,rfl⟩;go_wp2_with fail;refine(BN w1 i 8 ⟨i0,i1⟩).mono ?_;rintro e w2 ⟨rfl,rfl⟩;go_wp2;go_ret2;exact⟨rfl,rfl⟩
theorem Io(w:Wd)(b i:Int)(h:(b<0\/12<=b)\/(i<0\/8<=i)):Calls prog 195 #[.int .i64 b,.int .i64 i] w fun e w'=>e=.returned (.tuple #[.int .i64 0,.iface 57 (.int .i64 1)])/\w'=w:=by
 by_cases hb:0<=b/\b<12
 ·have hi:i<0\/8<=i:=om
  clear h;obtain⟨b0,b1⟩:=hb;go_enter func195,ntmps195;go_wp2_with fail;refine(BN w b 12 ⟨b0,b1⟩).mono ?_;rintro e w1 ⟨rfl,rfl⟩;go_wp2_with fail;refine(CN w1 i 8 hi).mono ?_;rintro e w2 ⟨rfl,rfl⟩;go_wp2;go_ret2;exact⟨rfl,rfl⟩
 ·have hb':b<0\/12<=b:=om
  clear h hb;go_enter func195,ntmps195;go_wp2_with fail;refine(CN w b 12 hb').mono ?_;rintro e w1 ⟨rfl,rfl⟩;go_wp2;go_ret2;exact⟨rfl,rfl⟩
theorem Fj(w:Wd)(p o:Int)(h:0<=p/\p<96)(ho:0<=o/\o<25):Calls prog 196 #[.int .i64 p,.int .i64 o] w fun e w'=>e=.returned (.tuple #[.bool (decide (o=24\/p % 8<6)),.nilIface])/\w'=w:=by
 obtain⟨h0,h1⟩:=h;by_cases e1:o=24
 ·rw[show decide (o=24\/p % 8<6)=true from AO (AK e1)];have e2:(o == 24)=true:=by simp[e1]
  clear e1;go_enter func196,ntmps196;go_wp2_with fail;refine(BN w p 96 ⟨h0,h1⟩).mono ?_;rintro e w1 ⟨rfl,rfl⟩;go_wp2_with fail;refine(BN w1 o 25 ho).mono ?_;rintro e w2 ⟨rfl,rfl⟩;go_wp2;go_ret2;exact⟨rfl,rfl⟩
 ·rw[show decide (o=24\/p % 8<6)=decide (p % 8<6) from by simp[e1]];have e2:(o == 24)=false:=by simp[e1]
  clear e1;go_enter func196,ntmps196;go_wp2_with fail;refine(BN w p 96 ⟨h0,h1⟩).mono ?_;rintro e w1 ⟨rfl,rfl⟩;go_wp2_with fail;refine(BN w1 o 25 ho).mono ?_;rintro e w2 ⟨rfl,rfl⟩;go_wp2;go_ret2;exact⟨rfl,rfl⟩
theorem UW(w:Wd)(p o:Int)(h:0<=p/\p<96)(ho:0<=o/\o<25):Calls prog 43 #[.int .i64 p,.int .i64 o] w fun e w'=>e=.returned (.tuple #[.bool (decide (o=24\/p % 8<6)),.int .i64 0])/\w'=w:=by
 obtain⟨h0,h1⟩:=h;have o0:¬ o<0:=om
 have o1:¬ 24<o:=om
 by_cases e1:o=24
 ·rw[show decide (o=24\/p % 8<6)=true from AO (AK e1)];have e2:(o == 24)=true:=by simp[e1]
  clear e1;go_enter func43,ntmps43;go_wp2_with fail;refine(XV w p ⟨h0,h1⟩).mono ?_;rintro e w1 ⟨rfl,rfl⟩;go_wp2;go_ret2;exact⟨rfl,rfl⟩
 ·rw[show decide (o=24\/p % 8<6)=decide (p % 8<6) from by simp[e1]];have e2:(o == 24)=false:=by simp[e1]
  clear e1;go_enter func43,ntmps43;go_wp2_with fail;refine(XV w p ⟨h0,h1⟩).mono ?_;rintro e w1 ⟨rfl,rfl⟩;go_wp2;go_ret2;exact⟨rfl,rfl⟩
theorem Hv(w:Wd):(binOp .eql 46 .nilIface .nilIface).run prog w=.ok (.bool true) w:=kr
theorem Ct(w:Wd):(binOp .neq 46 .nilIface .nilIface).run prog w=.ok (.bool false) w:=kr
theorem Ih(w:Wd)(n:Int):(binOp .eql 46 (.iface 57 (.int .i64 n)) .nilIface).run prog w=.ok (.bool false) w:=kr
theorem Cu(w:Wd)(n:Int):(binOp .neq 46 (.iface 57 (.int .i64 n)) .nilIface).run prog w=.ok (.bool true) w:=kr
structure St where
 o:Bool
 k:Nat
 i:Nat
def stL (s:St):List Value:=[.bool s.o,.int .i64 s.k,.int .i64 s.i]
def FB (w:Wd) (b:Nat) (t:TypeId) (n:Nat) (f:Nat->Value) (o:Nat) (s:St):Prop:=Sto w b t n f/\o+3<=n/\f o=.bool s.o/\f (o+1)=.int .i64 s.k/\f (o+2)=.int .i64 s.i
section
variable {w w':Wd}{b:Nat}{t:TypeId}{n:Nat}{f:Nat->Value}{o:Nat}{s:St}
theorem FB.drewN(h:FB w b t n f o s)(m:Nat):FB (w.drewN m) b t n f o s:=h
theorem FB.c0(h:FB w b t n f o s):w.cell? ⟨b,o,none⟩=some (.bool s.o)/\w.frozen? ⟨b,o,none⟩=false:=by
 obtain⟨h1,h2,h3,h4,h5⟩:=h;exact⟨by rw[h1.cell o om,h3],h1.frozen _⟩
theorem FB.c1(h:FB w b t n f o s):w.cell? ⟨b,o+1,none⟩=some (.int .i64 s.k)/\w.frozen? ⟨b,o+1,none⟩=false:=by
 obtain⟨h1,h2,h3,h4,h5⟩:=h;exact⟨by rw[h1.cell (o+1) om,h4],h1.frozen _⟩
theorem FB.c2(h:FB w b t n f o s):w.cell? ⟨b,o+2,none⟩=some (.int .i64 s.i)/\w.frozen? ⟨b,o+2,none⟩=false:=by
 obtain⟨h1,h2,h3,h4,h5⟩:=h;exact⟨by rw[h1.cell (o+2) om,h5],h1.frozen _⟩
theorem Gt(f:Nat->Value)(o:Nat)(s:St):upL f o (stL s) o=.bool s.o/\upL f o (stL s) (o+1)=.int .i64 s.k/\upL f o (stL s) (o+2)=.int .i64 s.i:=
 ⟨GG f o (stL s) 0 _ rfl,GG f o (stL s) 1 _ rfl,GG f o (stL s) 2 _ rfl⟩
theorem FB.row(h:FB w b t n f o s)(s':St):FB (w.setCells b o (stL s')) b t n (upL f o (stL s')) o s':=
 ⟨Sto.setCells _ _ h.1,h.2.1,Gt f o s'⟩
theorem FB.same(h:FB w b t n f o s):FB w b t n (upL f o (stL s)) o s:=by
 obtain⟨h1,h2,h3,h4,h5⟩:=h;refine⟨h1.ext fun i hi=>?_,h2,Gt f o s⟩;obtain⟨u0,u1,u2⟩:=Gt f o s;by_cases e0:i=o
 ·subst e0;rw[u0,h3]
 ·by_cases e1:i=o+1
  ·subst e1;rw[u1,h4]
  ·by_cases e2:i=o+2
   ·subst e2;rw[u2,h5]
   ·unfold upL;rw[AI (by simp[stL];omega)]
theorem FB.set2(h:FB w b t n f o s)(i:Nat):FB (w.setCell ⟨b,o+2,none⟩ (.int .i64 i)) b t n (upL f o (stL { s with i:=i })) o { s with i:=i }:=by
 obtain⟨h1,h2,h3,h4,h5⟩:=h;refine⟨(h1.setCell (o+2) (.int .i64 i)).ext fun j hj=>?_,h2,Gt f o _⟩;obtain⟨u0,u1,u2⟩:=Gt f o { s with i:=i };rw[Br];by_cases e2:j=o+2
 ·subst e2;rw[u2,AJ rfl]
 ·rw[AI e2];by_cases e0:j=o
  ·subst e0;rw[u0,h3]
  ·by_cases e1:j=o+1
   ·subst e1;rw[u1,h4]
   ·unfold upL;rw[AI (by simp[stL];omega)]
end
theorem Jm(w:Wd):(Instr.build 99 #[]).run prog w=.ok (.agg (stL ⟨false,0,0⟩).toArray) w:=kr
theorem E7:(prog.info? 99).map (·.size)=some 3:=kr
theorem Cb{ops:Array Oper}{rest:List Oper}{o:Oper}{a:Act}{w:Wd}{Q:Exit->Act->World->Prop}(hgd:o.guard=none)(x y:Operand)(ho:o.op=.store 99 x y)(g q:Nat)(hx:a.eval x=.pointer (some ⟨g,q,none⟩))(s:St)(hy:a.eval y=.agg (stL s).toArray){t:TypeId}{n:Nat}{f:Nat->Value}{s0:St}(hg:FB w g t n f q s0)(h:∀w',FB w' g t n (upL f q (stL s)) q s->Chg (·=g) w w'->wpList prog ops Q rest (a.put o.dst undef) w'):wpList prog ops Q (o :: rest) a w:=
 wpList_store_mid hgd 99 x y ho g q _ hx hy (hg.1.there q 3 hg.2.1) E7 (by simp[stL,Value.oneCell']) (h _ (FB.row hg s) (Chg.setCells (S:=(·=g)) (AK rfl) _ _ (Chg.refl _ w)))
def lI (x y:Int):Nat:=if x<0\/12<=x\/y<0\/9<=y then 1 else 0
def opS (s:St) (x y:Int):St:=if lI x y=0 then ⟨true,x.toNat,y.toNat⟩ else s
theorem PC(w:Wd)(b:Nat)(t:TypeId)(nn:Nat)(f:Nat->Value)(o:Nat)(s:St)(h:FB w b t nn f o s)(k i:Nat)(hk:k<12)(hi:i<9):Calls prog 194 #[.pointer (some ⟨b,o,none⟩),.int .i64 k,.int .i64 i] w fun e w'=>e=.returned .nilIface/\FB w' b t nn (upL f o (stL ⟨true,k,i⟩)) o ⟨true,k,i⟩/\Chg (·=b) w w':=by
 have h1:¬ (k:Int)<0:=om
 have h2:¬ (k:Int) ≥ 12:=om
 have h3:¬ (i:Int)<0:=om
 have h4:¬ (i:Int) > 8:=om
 have HK:=BE h;clear h hk hi;go_enter func194,ntmps194;go_wp2_with (refine Cb rfl (.tmp 26) (.tmp 25) rfl b o rfl ⟨true,k,i⟩ rfl HK.out ?_);intro w1 K1 G1;have HK1:=BE K1;have HG1:=BE G1;clear K1 G1;go_wp2;go_ret;exact⟨rfl,HK1.out,HG1.out⟩
theorem XW(w:Wd)(b o:Nat)(x y:Int)(h:x<0\/12<=x\/y<0\/9<=y):Calls prog 194 #[.pointer (some ⟨b,o,none⟩),.int .i64 x,.int .i64 y] w fun e w'=>e=.returned (.iface 57 (.int .i64 1))/\w'=w:=by
 by_cases h1:x<0
 ·clear h;go_enter func194,ntmps194;go_wp2;go_ret;exact⟨rfl,rfl⟩
 ·by_cases h2:x ≥ 12
  ·clear h;go_enter func194,ntmps194;go_wp2;go_ret;exact⟨rfl,rfl⟩
  ·by_cases h3:y<0
   ·clear h;go_enter func194,ntmps194;go_wp2;go_ret;exact⟨rfl,rfl⟩
   ·have h4:y > 8:=om;clear h;go_enter func194,ntmps194;go_wp2;go_ret;exact⟨rfl,rfl⟩
theorem iJ(w:Wd)(b:Nat)(t:TypeId)(nn:Nat)(f:Nat->Value)(o:Nat)(s:St)(h:FB w b t nn f o s)(x y:Int):Calls prog 194 #[.pointer (some ⟨b,o,none⟩),.int .i64 x,.int .i64 y] w fun e w'=>e=.returned (errV (lI x y))/\FB w' b t nn (upL f o (stL (opS s x y))) o (opS s x y)/\Chg (·=b) w w':=by
 unfold opS lI;by_cases c:x<0\/12<=x\/y<0\/9<=y
 ·rw[AJ c];refine(XW w b o x y c).mono ?_;rintro e w' ⟨rfl,rfl⟩;exact⟨rfl,h.same,Chg.refl _ _⟩
 ·rw[AI c];obtain⟨k,rfl⟩:∃k:Nat,x=k:=⟨x.toNat,om⟩;obtain⟨i,rfl⟩:∃i:Nat,y=i:=⟨y.toNat,om⟩;refine(PC w b t nn f o s h k i om om).mono ?_;rintro e w' ⟨rfl,h1,h2⟩;exact⟨rfl,h1,h2⟩
theorem UX(w:Wd)(b:Nat)(t:TypeId)(nn:Nat)(f:Nat->Value)(o:Nat)(s:St)(h:FB w b t nn f o s):Calls prog 191 #[.pointer (some ⟨b,o,none⟩)] w fun e w'=>e=.returned (.tuple #[])/\FB w' b t nn (upL f o (stL ⟨false,0,0⟩)) o ⟨false,0,0⟩/\Chg (·=b) w w':=by
 have HK:=BE h;have hb:=Jm;clear h;go_enter func191,ntmps191;go_wp2_with (refine Cb rfl (.tmp 4) (.tmp 3) rfl b o rfl ⟨false,0,0⟩ rfl HK.out ?_);intro w1 K1 G1;have HK1:=BE K1;have HG1:=BE G1;clear K1 G1;go_wp2;go_end0;exact⟨rfl,HK1.out,HG1.out⟩
def blV (s:St):Int:=if s.o then (s.k:Int) else -1
theorem D4(w:Wd)(b:Nat)(t:TypeId)(nn:Nat)(f:Nat->Value)(o:Nat)(s:St)(h:FB w b t nn f o s):Calls prog 96 #[.pointer (some ⟨b,o,none⟩)] w fun e w'=>e=.returned (.int .i64 (blV s))/\w'=w:=by
 obtain⟨c0,-⟩:=h.c0;obtain⟨c1,-⟩:=h.c1;obtain⟨oo,k,i⟩:=s;clear h;cases oo
 ·go_enter func96,ntmps96;go_wp2;go_ret;exact⟨rfl,rfl⟩
 ·go_enter func96,ntmps96;go_wp2;go_ret;exact⟨rfl,rfl⟩
def nxC (s:St) (n:Int):Nat:=if n<0\/25<=n then 1 else if s.o=false then 11 else if s.i<8/\(n=24\/s.i<6) then 0 else 10
def nxV (s:St) (n:Int):Int:=if nxC s n=0 then ((s.k*8+s.i:Nat):Int) else 0
def Fl (s:St):Prop:=s.k<12/\s.i<9
theorem XX(w:Wd)(b o:Nat)(n:Int)(h:n<0\/25<=n):Calls prog 150 #[.pointer (some ⟨b,o,none⟩),.int .i64 n] w fun e w'=>e=.returned (.tuple #[.int .i64 0,.iface 57 (.int .i64 1)])/\w'=w:=by
 by_cases h0:n<0
 ·clear h;go_enter func150,ntmps150;go_wp2;go_ret2;exact⟨rfl,rfl⟩
 ·have h1:n > 24:=om
  clear h;go_enter func150,ntmps150;go_wp2;go_ret2;exact⟨rfl,rfl⟩
theorem UY(w:Wd)(b:Nat)(t:TypeId)(nn:Nat)(f:Nat->Value)(o:Nat)(k i:Nat)(h:FB w b t nn f o ⟨false,k,i⟩)(n:Int)(hn:0<=n/\n<25):Calls prog 150 #[.pointer (some ⟨b,o,none⟩),.int .i64 n] w fun e w'=>e=.returned (.tuple #[.int .i64 0,.iface 57 (.int .i64 11)])/\w'=w:=by
 obtain⟨c0,-⟩:=h.c0;have h0:¬ n<0:=om
 have h1:¬ n > 24:=om
 clear h hn;go_enter func150,ntmps150;go_wp2;go_ret2;exact⟨rfl,rfl⟩
theorem XY(w:Wd)(b:Nat)(t:TypeId)(nn:Nat)(f:Nat->Value)(o:Nat)(k:Nat)(h:FB w b t nn f o ⟨true,k,8⟩)(n:Int)(hn:0<=n/\n<25):Calls prog 150 #[.pointer (some ⟨b,o,none⟩),.int .i64 n] w fun e w'=>e=.returned (.tuple #[.int .i64 0,.iface 57 (.int .i64 10)])/\∃m,w'=w.drewN m:=by
 obtain⟨c0,-⟩:=h.c0;obtain⟨c1,-⟩:=h.c1;obtain⟨c2,-⟩:=h.c2;have h0:¬ n<0:=om
 have h1:¬ n > 24:=om
 have q:=Cu;clear h hn;go_enter func150,ntmps150;go_wp2_with fail
 go_quiet (first | (go_at_call 195;refine Calls.quiet_of_same (Io _ k 8 (AL (AL dc)))))
 go_wp2;go_ret2;exact⟨rfl,_,rfl⟩
theorem L4(w:Wd)(b:Nat)(t:TypeId)(nn:Nat)(f:Nat->Value)(o:Nat)(k i:Nat)(h:FB w b t nn f o ⟨true,k,i⟩)(hk:k<12)(hi:i<8)(n:Int)(hn:0<=n/\n<25):Calls prog 150 #[.pointer (some ⟨b,o,none⟩),.int .i64 n] w fun e w'=>e=.returned (if n=24\/i<6 then .tuple #[.int .i64 (k*8+i:Nat),.nilIface] else .tuple #[.int .i64 0,.iface 57 (.int .i64 10)])/\∃m,w'=w.drewN m:=by
 obtain⟨c0,-⟩:=h.c0;obtain⟨c1,-⟩:=h.c1;obtain⟨c2,-⟩:=h.c2;have h0:¬ n<0:=om
 have h1:¬ n > 24:=om
 have q:=Ct;have hp:=fun w=>Kv w k i ⟨om,om⟩ ⟨om,om⟩;have hh:=fun w=>Fj w ((k:Int)*8+i) n ⟨om,om⟩ hn;have hd:decide (n=24\/((k:Int)*8+i) % 8<6)=decide (n=24\/i<6):=by
  have:((k:Int)*8+i) % 8=i:=om
  rw[this];simp only[decide_eq_decide];omega
 rw[hd] at hh;have HV:Hid ((k:Int)*8+i=((k*8+i:Nat):Int)):=by show _=_;omega
 clear h hn hk hi hd;by_cases hb:n=24\/i<6
 ·rw[AJ hb,<-HV.out];simp only[hb,decide_true] at hh;clear hb HV;go_enter func150,ntmps150;go_wp2_with fail
  go_quiet (first | (go_at_call 195;refine Calls.quiet_of_same (hp _)))
  go_wp2_with fail;refine(hh _).mono ?_;rintro e w2 ⟨rfl,rfl⟩;go_wp2;go_ret2;exact⟨rfl,_,rfl⟩
 ·rw[AI hb];simp only[hb,decide_false] at hh;clear hb HV;go_enter func150,ntmps150;go_wp2_with fail
  go_quiet (first | (go_at_call 195;refine Calls.quiet_of_same (hp _)))
  go_wp2_with fail;refine(hh _).mono ?_;rintro e w2 ⟨rfl,rfl⟩;go_wp2;go_ret2;exact⟨rfl,_,rfl⟩
theorem mn{s:St}{n:Int}(h:n<0\/25<=n):nxC s n=1:=by unfold nxC;rw[AJ h]
theorem fG{s:St}{n:Int}(h:¬ (n<0\/25<=n))(ho:s.o=false):nxC s n=11:=by unfold nxC;rw[AI h,AJ ho]
theorem mp{s:St}{n:Int}(h:¬ (n<0\/25<=n))(ho:¬ s.o=false)(hi:s.i<8/\(n=24\/s.i<6)):nxC s n=0:=by unfold nxC;rw[AI h,AI ho,AJ hi]
theorem fH{s:St}{n:Int}(h:¬ (n<0\/25<=n))(ho:¬ s.o=false)(hi:¬ (s.i<8/\(n=24\/s.i<6))):nxC s n=10:=by unfold nxC;rw[AI h,AI ho,AI hi]
theorem M7(w:Wd)(b:Nat)(t:TypeId)(nn:Nat)(f:Nat->Value)(o:Nat)(s:St)(h:FB w b t nn f o s)(ok:Fl s)(n:Int):Calls prog 150 #[.pointer (some ⟨b,o,none⟩),.int .i64 n] w fun e w'=>e=.returned (.tuple #[.int .i64 (nxV s n),errV (nxC s n)])/\∃m,w'=w.drewN m:=by
 unfold nxV;by_cases h1:n<0\/25<=n
 ·rw[mn h1];refine(XX w b o n h1).mono ?_;rintro e w' ⟨rfl,rfl⟩;exact⟨rfl,0,rfl⟩
 ·have hn:0<=n/\n<25:=om
  by_cases ho:s.o=false
  ·rw[fG h1 ho];obtain⟨oo,k,i⟩:=s;simp only at ho;subst ho;refine(UY w b t nn f o k i h n hn).mono ?_;rintro e w' ⟨rfl,rfl⟩;exact⟨rfl,0,rfl⟩
  ·by_cases h8:s.i<8
   ·by_cases hb:n=24\/s.i<6
    ·rw[mp h1 ho ⟨h8,hb⟩];obtain⟨oo,k,i⟩:=s;simp only[Bool.not_eq_false] at ho;subst ho;have:=L4 w b t nn f o k i h ok.1 h8 n hn;rw[AJ hb] at this;exact this
    ·rw[fH h1 ho (fun x=>hb x.2)];obtain⟨oo,k,i⟩:=s;simp only[Bool.not_eq_false] at ho;subst ho;have:=L4 w b t nn f o k i h ok.1 h8 n hn;rw[AI hb] at this;exact this
   ·rw[fH h1 ho (fun x=>h8 x.1)];obtain⟨oo,k,i⟩:=s;simp only[Bool.not_eq_false] at ho;subst ho;obtain rfl:i=8:=by have:=ok.2;simp only at this h8;omega
    exact XY w b t nn f o k h n hn
def rmV (s:St) (n:Int):Bool:=decide (nxC s n=0)
theorem Hs(c:Nat)(w:Wd):(binOp .eql 46 (errV c) .nilIface).run prog w=.ok (.bool (decide (c=0))) w:=by
 unfold errV;by_cases h:c=0
 ·rw[AJ h,AO h];exact Hv w
 ·rw[AI h,AN h];exact Ih w _
theorem Hq(c:Nat)(w:Wd):(binOp .neq 46 (errV c) .nilIface).run prog w=.ok (.bool (!decide (c=0))) w:=by
 unfold errV;by_cases h:c=0
 ·rw[AJ h,AO h];exact Ct w
 ·rw[AI h,AN h];exact Cu w _
theorem XZ(w:Wd)(b:Nat)(t:TypeId)(nn:Nat)(f:Nat->Value)(o:Nat)(s:St)(h:FB w b t nn f o s)(ok:Fl s)(n:Int):Calls prog 145 #[.pointer (some ⟨b,o,none⟩),.int .i64 n] w fun e w'=>e=.returned (.bool (rmV s n))/\∃m,w'=w.drewN m:=by
 have hn:=M7 w b t nn f o s h ok n;have q:=Hs;have g:=Dg;clear h ok;go_enter func145,ntmps145;go_wp2_with fail;refine hn.mono ?_;rintro e w1 ⟨rfl,m,rfl⟩;clear hn;go_wp2;go_ret;exact⟨rfl,m,rfl⟩
def tkS (s:St) (n:Int):St:=if nxC s n=0 then { s with i:=s.i+1 } else s
theorem Ku(w:Wd)(b:Nat)(t:TypeId)(nn:Nat)(f:Nat->Value)(o:Nat)(s:St)(h:FB w b t nn f o s)(ok:Fl s)(n:Int):Calls prog 92 #[.pointer (some ⟨b,o,none⟩),.int .i64 n] w fun e w'=>e=.returned (.tuple #[.int .i64 (nxV s n),errV (nxC s n)])/\FB w' b t nn (upL f o (stL (tkS s n))) o (tkS s n)/\Chg (·=b) w w':=by
 have hn:=M7 w b t nn f o s h ok n;obtain⟨c2,f2⟩:=h.c2;have HK:=BE h;have hi:s.i<9:=ok.2;have hiz:(s.i:Int)<=8:=om
 clear h ok hi;by_cases hc:nxC s n=0
 ·have HC:=BE hc;unfold tkS;rw[AJ hc];rw[hc] at hn ⊢;have g:=BQ;have q:∀w,(binOp .neq 46 (errV 0) .nilIface).run prog w=.ok (.bool false) w:=Hq 0;clear hc;obtain⟨oo,k,i⟩:=s;simp only at c2 hiz;go_enter func92,ntmps92;go_wp2_with fail;refine hn.mono ?_;rintro e w1 ⟨rfl,m,rfl⟩;clear hn;go_wp2;go_ret2;exact⟨rfl,(HK.out.drewN m).set2 (i+1),((Chg.refl (·=b) _).drewN m).setCell (AK rfl) _ _⟩
 ·unfold tkS;rw[AI hc];have hv:nxV s n=0:=by unfold nxV;rw[AI hc]
  rw[hv] at hn ⊢;have g:=BQ;have q:∀w,(binOp .neq 46 (errV (nxC s n)) .nilIface).run prog w=.ok (.bool true) w:=fun w=>by rw[Hq,AN hc];rfl
  clear hc hv;go_enter func92,ntmps92;go_wp2_with fail;refine hn.mono ?_;rintro e w1 ⟨rfl,m,rfl⟩;clear hn;go_wp2;go_ret2;exact⟨rfl,(HK.out.drewN m).same,(Chg.refl (·=b) _).drewN m⟩
theorem fI{s:St}{n:Int}(h:nxC s n=0):s.i<8:=by
 unfold nxC at h;split at h
 ·simp at h
 ·split at h
  ·simp at h
  ·split at h
   ·rename_i c;exact c.1
   ·simp at h
theorem Fl.take{s:St}(h:Fl s)(n:Int):Fl (tkS s n):=by
 unfold tkS;split
 ·rename_i c;have:=fI c;exact⟨h.1,by show s.i+1<9;omega⟩
 ·exact h
end Go.Proofs.YtmdpnpjacfedpaaGreat.AB
namespace Go.Proofs.YtmdpnpjacfedpaaGreat.AH
open List
open Go.Proofs.Tryz
open Go.RowKit
def bst (S L:Nat->Int):Nat->Option Nat
 | 0=>none
 | k+1=>match bst S L k with
  | none=>if S k=2 then some k else none
  | some b=>if S k=2/\L k<L b then some k else some b
section
variable {S L:Nat->Int}{k b:Nat}
theorem PD(h:S k≠2):bst S L (k+1)=bst S L k:=by
 cases e:bst S L k with
 | none=>simp[bst,e,h]
 | some b=>simp[bst,e,h]
theorem L6(h:S k=2)(e:bst S L k=none):bst S L (k+1)=some k:=by
 unfold bst;rw[e];simp[h]
theorem PE(h:S k=2)(e:bst S L k=some b)(hl:L k<L b):bst S L (k+1)=some k:=by
 unfold bst;rw[e];simp[h,hl]
theorem PF(e:bst S L k=some b)(hl:¬ L k<L b):bst S L (k+1)=some b:=by
 unfold bst;rw[e];simp[hl]
end
def Is (S L:Nat->Int) (lo hi:Nat):Option Nat->Prop
 | none=>∀i,lo<=i->i<hi->S i≠2
 | some b=>lo<=b/\b<hi/\S b=2/\(∀i,lo<=i->i<hi->S i=2->L b<=L i)/\∀i,lo<=i->i<b->S i=2->L b<L i
theorem M8(S L:Nat->Int):∀n,Is S L 0 n (bst S L n)
 | 0=>fun i _ h=>absurd h (Nat.not_lt_zero _)
 | n+1=>by
  have ih:=M8 S L n
  by_cases h:S n=2
  ·
   cases e:bst S L n with
   | none=>
    rw[L6 h e]
    rw[e] at ih
    refine⟨Ac _,om,h,fun i _ hi hs=>?_,fun i _ hi hs=>absurd hs (ih i (Ac _) hi)⟩
    by_cases hn:i=n
    ·
     subst hn;omega
    ·
     exact absurd hs (ih i (Ac _) om)
   | some b=>
    rw[e] at ih
    obtain⟨_,hb,hs,h1,h2⟩:=ih
    by_cases hl:L n<L b
    ·
     rw[PE h e hl]
     refine⟨Ac _,om,h,fun i _ hi hs'=>?_,fun i _ hi hs'=>?_⟩
     ·
      by_cases hn:i=n
      ·
       subst hn;omega
      ·
       have:=h1 i (Ac _) om hs';omega
     ·
      have:=h1 i (Ac _) hi hs';omega
    ·
     rw[PF e hl]
     refine⟨Ac _,om,hs,fun i _ hi hs'=>?_,fun i _ hi hs'=>h2 i (Ac _) hi hs'⟩
     by_cases hn:i=n
     ·
      subst hn;omega
     ·
      exact h1 i (Ac _) om hs'
  ·
   rw[PD h]
   cases e:bst S L n with
   | none=>
    rw[e] at ih
    intro i _ hi
    by_cases hn:i=n
    ·
     subst hn;exact h
    ·
     exact ih i (Ac _) om
   | some b=>
    rw[e] at ih
    obtain⟨_,hb,hs,h1,h2⟩:=ih
    refine⟨Ac _,om,hs,fun i _ hi hs'=>?_,fun i _ hi hs'=>h2 i (Ac _) hi hs'⟩
    by_cases hn:i=n
    ·
     subst hn;exact absurd hs' h
    ·
     exact h1 i (Ac _) om hs'
def cE (S L:Nat->Int):Option Nat:=bst S L 12
def chC (ns nl:Nat) (S L:Nat->Int):Nat:=if ns=12/\nl=12 then (if cE S L=none then 11 else 0) else 1
def chV (ns nl:Nat) (S L:Nat->Int):Nat:=if ns=12/\nl=12 then (cE S L).getD 0 else 0
theorem cG{ns nl:Nat}(S L:Nat->Int)(h:¬ (ns=12/\nl=12)):chC ns nl S L=1:=AI h
theorem chC_none{S L:Nat->Int}(h:cE S L=none):chC 12 12 S L=11:=by simp[chC,h]
theorem chV_none{S L:Nat->Int}(h:cE S L=none):chV 12 12 S L=0:=by simp[chV,h]
theorem chC_some{S L:Nat->Int}{b:Nat}(h:cE S L=some b):chC 12 12 S L=0:=by simp[chC,h]
theorem chV_some{S L:Nat->Int}{b:Nat}(h:cE S L=some b):chV 12 12 S L=b:=by simp[chV,h]
theorem cH{ns nl:Nat}{S L:Nat->Int}(h:chC ns nl S L=0):ns=12/\nl=12/\chV ns nl S L<12/\cE S L=some (chV ns nl S L):=by
 by_cases hc:ns=12/\nl=12
 ·obtain⟨rfl,rfl⟩:=hc;cases e:cE S L with
  | none=>rw[chC_none e] at h;simp at h
  | some b=>
   have:=M8 S L 12;rw[show bst S L 12=some b from e] at this;rw[chV_some e];exact⟨rfl,rfl,this.2.1,rfl⟩
 ·rw[cG S L hc] at h;simp at h
def Q5 (w:Wd) (a:Option Addr) (n:Nat) (V:Nat->Int):Prop:=n=0\/∃g o,a=some ⟨g,o,none⟩/\g<w.heap.size/\∀i,i<n->w.cell? ⟨g,o+i,none⟩=some (.int .i64 (V i))
theorem iK(w:Wd)(ps pl:Option Addr)(ns nl cs cl:Nat)(h:¬ (ns=12/\nl=12)):Calls prog 149 #[.slice ps ns cs,.slice pl nl cl] w fun e w'=>e=.returned (.tuple #[.int .i64 0,errV 1])/\w'=w:=by
 by_cases h1:ns=12
 ·have h2:((nl:Int) != 12)=true:=by simp only[bne_iff_ne];omega
  subst h1;clear h;go_enter func149,ntmps149;go_wp2;go_ret2;exact⟨rfl,rfl⟩
 ·have h2:((ns:Int) != 12)=true:=by simp only[bne_iff_ne];omega
  clear h h1;go_enter func149,ntmps149;go_wp2;go_ret2;exact⟨rfl,rfl⟩
theorem UZ(w:Wd)(ps pl:Option Addr)(cs cl:Nat)(S L:Nat->Int)(hS:Q5 w ps 12 S)(hL:Q5 w pl 12 L):Calls prog 149 #[.slice ps 12 cs,.slice pl 12 cl] w fun e w'=>e=.returned (.tuple #[.int .i64 (chV 12 12 S L:Nat),errV (chC 12 12 S L)])/\∃m,w'=w.drewN m:=by
 rcases hS with hS | ⟨gs,os,rfl,hgs,hS⟩
 ·simp at hS
 rcases hL with hL | ⟨gl,ol,rfl,hgl,hL⟩
 ·simp at hL
 have HS:=BE hS;have HL:=BE hL;have HG:=BE (And.intro hgs hgl);clear hS hL hgs hgl;go_enter func149,ntmps149;go_wp2_with fail
 go_loopg [6,7,21] 12 (fun kx s6 s7 s21 wr=>∃(i m:Nat),s21=.int .i64 i/\s6=.int .i64 ((bst S L i).getD 0:Nat)/\s7=.bool (bst S L i).isSome/\i<=12/\12 - i<=kx/\Hid (wr=w.drewN m))
 case atStart=>exact⟨0,0,rfl,rfl,rfl,om,om,rfl⟩
 case round=>
 obtain⟨i,m,rfl,rfl,rfl,hin,hkx,HM⟩:=hrel;obtain rfl:=HM.out;clear HM;by_cases hlt:i<12
 ·have hltz:(i:Int)<12:=om
  have x0:=(((Chg.refl No w).drewN m).cell HG.out.1 (fun f=>f) _).trans (HS.out i hlt);by_cases h2:S i=2
  ·rw[h2] at x0;cases e:bst S L i with
   | none=>
    have HE:=BE (L6 h2 e);simp only[Option.getD_none,Option.isSome_none];clear h2 e;go_wp2_with fail
    go_quiet (fail)
    go_wp2
    go_roundg (12 - (i+1))
    case measure=>omega
    case rel=>exact⟨i+1,_,by simp,by rw[HE.out];rfl,by rw[HE.out];rfl,om,AM _,rfl⟩
   | some b=>
    have hb:b<i:=(by have:=M8 S L i;rw[e] at this;exact this.2.1);have x1:=HL.out i hlt;have x2:=HL.out b om;have hbz:(b:Int)<12:=om;simp only[Option.getD_some,Option.isSome_some];by_cases hl:L i<L b
    ·have HE:=BE (PE h2 e hl);clear h2 e hb;generalize L i=u at *
     generalize L b=v at *
     go_wp2_with fail
     go_quiet (fail)
     go_wp2
     go_roundg (12 - (i+1))
     case measure=>omega
     case rel=>exact⟨i+1,_,by simp,by rw[HE.out];rfl,by rw[HE.out];rfl,om,AM _,rfl⟩
    ·have HE:=BE (PF e hl);clear h2 e hb;generalize L i=u at *
     generalize L b=v at *
     go_wp2_with fail
     go_quiet (fail)
     go_wp2
     go_roundg (12 - (i+1))
     case measure=>omega
     case rel=>exact⟨i+1,_,by simp,by rw[HE.out];rfl,by rw[HE.out];rfl,om,AM _,rfl⟩
  ·have HE:=BE (PD (L:=L) h2);have hn:(S i != 2)=true:=(by simp only[bne_iff_ne];exact h2);clear h2;generalize S i=u at *
   go_wp2
   go_roundg (12 - (i+1))
   case measure=>omega
   case rel=>exact⟨i+1,m,by simp,by rw[HE.out],by rw[HE.out],om,AM _,rfl⟩
 ·have hltz:¬ (i:Int)<12:=om
  obtain rfl:i=12:=om
  cases e:bst S L 12 with
  | none=>
   have HE:=BE (And.intro (chV_none e) (chC_none e));clear HS HL HG e;simp only[Option.getD_none,Option.isSome_none];go_wp2;go_ret2;rw[HE.out.1,HE.out.2];exact⟨rfl,_,rfl⟩
  | some b=>
   have HE:=BE (And.intro (chV_some e) (chC_some e));clear HS HL HG e;simp only[Option.getD_some,Option.isSome_some];go_wp2;go_ret2;rw[HE.out.1,HE.out.2];exact⟨rfl,_,rfl⟩
end Go.Proofs.YtmdpnpjacfedpaaGreat.AH
