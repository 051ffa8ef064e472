/-
  What is done behind each call. Condition: the core lies in memory, and its calls are counted below the greatest int.
-/
import Derived.Test.YtbhbilcieodbhaaGreatP07
import Derived.Test.YtbhbilcieodbhaaGreatP06
import Derived.Test.YtbhbilcieodbhaaGreatP05
import Derived.Sort.LotA
import Derived.Shelf.SlSortCmp.KitK
import Derived.Sort.WalkB2
import Derived.Sort.WalkB12
import Derived.Deep.LoopGhost
import Derived.Deep.CutRange
namespace Go.Proofs.YtbhbilcieodbhaaGreat
set_option maxRecDepth 100000
open Go.RowKit
def tdI (c:Nat):Nat->Nat->Kor->Kor × Nat
 | 0,_,K=>(K,0)
 | n+1,i,K=>if (inK K ((c+i) % 96)).2.2≠0 then ((inK K ((c+i) % 96)).1,(inK K ((c+i) % 96)).2.2) else tdI c n (i+1) (inK K ((c+i) % 96)).1
def tdB (n m:Nat) (X:Kor × Nat):Option (Kor × Nat):=
 if X.2≠0 then some X else
 match raK n m (awK X.1) with
 | none=>none
 | some y=>if y.2≠0 then some (y.1,unw y.2) else
  if 8<=y.1.ca\/Health.duB y.1.hR y.1.hN=true then (anR n noH y.1 24).map fun z=>(z.1,unw z.2) else some (y.1,0)
def tdK (n m:Nat) (K:Kor):Option (Kor × Nat):=tdB n m (tdI K.cu 8 0 { K with cu:=(K.cu+8) % 96,ca:=K.ca+1 })
theorem Wf.pat' {K:Kor} (h:Wf K) {x:Nat} (hx:x<96) (y:Nat):Wf { K with cu:=x,ca:=y }:=
 ⟨h.chip,h.rr,h.frm,h.map,h.vs,h.vp,h.vc,h.fl,h.nx,h.fr,hx,h.qu,h.hea,h.tl⟩
theorem step_k (A:Ad) (w:World) (K:Kor) (h:CoreAt A w K) (hk:K.ca<9223372036854775807):Calls Tryz.prog 72 #[.pointer (some ⟨A.pa,0,none⟩)] w fun e w'=>e=.returned (.slice (some ⟨w.heap.size,0,none⟩) 8 8)/\IB w' w.heap.size 3 8 (Patrol.plc K.cu)/\CoreAt A w' { K with cu:=(K.cu+8) % 96,ca:=K.ca+1 }/\Chg (·=A.pa) w w':=by
 refine(Patrol.step_v w A.pa K.cu K.ca h.pat h.wf.cu hk _ rfl).mono ?_
 rintro e w' ⟨rfl,hI,hP,hc⟩
 exact⟨rfl,hI,h.setPat hP hc (h.wf.pat' (by omega) _),hc⟩
set_option maxHeartbeats 4000000 in
theorem tend_k (A:Ad) (w:World) (K:Kor) (h:CoreAt A w K) (hca:K.ca<9223372036854775807) (n m:Nat) (Z:Kor × Nat) (hZ:tdK n m K=some Z) :
 Calls Tryz.prog 47 #[.pointer (some ⟨A.c,0,none⟩)] w fun e w'=>e=.returned (errV Z.2)/\CoreAt A w' Z.1/\Chg (Cor A) w w':=by
 obtain⟨c82,-⟩:=h.cPat
 have hst:=step_k A w K h hca
 have HK:=hyd h
 have q:=neq_er
 have g:=guard_neq
 have HN:Hid (¬ Cor A w.heap.size):=h.apart (Nat.le_refl _)
 have HZ:Hid (tdB n m (tdI K.cu 8 0 { K with cu:=(K.cu+8) % 96,ca:=K.ca+1 })=some Z):=hZ
 have HLOW:=hyd h.low
 clear h hca hZ
 go_enter Tryz.func47,Tryz.ntmps47
 go_wp2_with fail
 refine hst.mono ?_
 rintro e w1 ⟨rfl,I1,k1,g1⟩
 have HI:=hyd I1
 have HK1:=hyd k1
 have HG1:=hyd g1.cor_pa
 have hs1:w.heap.size<w1.heap.size:=I1.lt
 clear hst c82 I1 k1 g1
 go_wp2_with fail
 go_loopg [14] 8 (fun kx s14 wr=>∃ (i:Nat) (Ki:Kor),s14=.int .i64 i/\i<=8/\8 - i<=kx/\Hid (CoreAt A wr Ki)/\Hid (Chg (Cor A) w wr)/\Hid (IB wr w.heap.size 3 8 (Patrol.plc K.cu))/\Hid (tdB n m (tdI K.cu (8 - i) i Ki)=some Z))
 case atStart=>exact⟨0,_,rfl,by omega,by omega,HK1.out,HG1.out,HI.out,HZ.out⟩
 case round=>
  obtain⟨i,Ki,rfl,hi,hkx,HC,HG,HJ,HE⟩:=hrel
  by_cases hlt:i<8
  ·
   have hltz:(i:Int)<8:=by omega
   obtain⟨ci,-⟩:=HJ.out.cell i hlt
   replace ci:wr.cell? ⟨w.heap.size,i,none⟩=some (.int .i64 (((K.cu+i) % 96:Nat):Int)):=ci
   obtain⟨j,hj⟩:∃ j,8 - i=j+1:=⟨7 - i,by omega⟩
   have hj2:8 - (i+1)=j:=by omega
   have HE2:Hid (tdB n m (if (inK Ki ((K.cu+i) % 96)).2.2≠0 then ((inK Ki ((K.cu+i) % 96)).1,(inK Ki ((K.cu+i) % 96)).2.2) else tdI K.cu j (i+1) (inK Ki ((K.cu+i) % 96)).1)=some Z):=by
    have:=HE.out
    rw[hj,tdI] at this
    exact this
   have hin:=inspect_k A wr Ki HC.out ((K.cu+i) % 96) (by omega)
   have HJ2:=hyd hj2
   clear hj hj2 HE
   generalize inK Ki ((K.cu+i) % 96)=X at *
   generalize (K.cu+i) % 96=p at *
   go_wp2_with fail
   refine hin.mono ?_
   rintro e w2 ⟨v,rfl,O2,k2,g2⟩
   have HK2:=hyd k2
   have HG2:=hyd (HG.out.trans g2)
   have HI2:=hyd (HJ.out.chg g2 HN.out)
   have HO2:=hyd O2
   have HPN:=hyd (Pb.new w2 false 0 0 0 0 false false (.slice none 0 0) 0)
   have HGN:Hid (Chg (fun _=>False) w2 (w2.alloc (.cells #[.bool false,.int .i64 0,.int .i64 0,.int .i64 0,.int .i64 0,.bool false,.bool false,.slice none 0 0,.int .i64 0] 129))):=(Chg.refl _ w2).alloc _
   have hz2:w.heap.size<w2.heap.size:=HI2.out.lt
   clear hin O2 k2 g2 HC HG HJ ci
   unfold pgV
   go_wp2_with (first | refine wpList_store_pg rfl (.tmp 5) (.tmp 22) rfl w2.heap.size rfl rfl HO2.out.one HPN.out ?_)
   intro w3 P3 G3
   have HK3:=hyd ((HK2.out.chg0 HGN.out).far HLOW.out (by omega) G3)
   have HG3:=hyd ((HG2.out.trans HGN.out.cor0).trans' G3 (fun k hk e=>by omega))
   have HI3:=hyd ((HI2.out.chg HGN.out (fun f=>f)).chg G3 (by omega))
   clear P3 G3 HK2 HG2 HI2 HO2 HPN HGN
   by_cases hc:X.2.2=0
   ·
    replace q:∀ w,(binOp .neq 33 (errV X.2.2) .nilIface).run Tryz.prog w=.ok (.bool false) w:=fun w=>by rw[q,decide_eq_true hc];rfl
    have HE3:Hid (tdB n m (tdI K.cu j (i+1) X.1)=some Z):=by
     have:=HE2.out
     rw[if_neg (by rw[hc];simp)] at this
     exact this
    clear hc HE2
    go_wp2
    go_roundg (8 - (i+1))
    case measure=>omega
    case rel=>exact⟨i+1,X.1,by simp,by omega,Nat.le_refl _,HK3.out,HG3.out,HI3.out,by rw[HJ2.out];exact HE3.out⟩
   ·
    replace q:∀ w,(binOp .neq 33 (errV X.2.2) .nilIface).run Tryz.prog w=.ok (.bool true) w:=fun w=>by rw[q,decide_eq_false hc];rfl
    have HE3:Hid ((X.1,X.2.2)=Z):=by
     have:=HE2.out
     rw[if_pos hc] at this
     unfold tdB at this
     rw[if_pos hc] at this
     exact Option.some.inj this
    clear hc HE2
    go_wp2
    go_ret
    rw[<-HE3.out]
    exact⟨rfl,HK3.out,HG3.out⟩
  ·
   have hltz:¬ (i:Int)<8:=by omega
   have e:i=8:=by omega
   subst e
   obtain⟨y,hy,hyz⟩:∃ y,raK n m (awK Ki)=some y/\(if y.2≠0 then some (y.1,unw y.2) else if 8<=y.1.ca\/Health.duB y.1.hR y.1.hN=true then (anR n noH y.1 24).map fun z=>(z.1,unw z.2) else some (y.1,0))=some Z:=by
    have:tdB n m (Ki,0)=some Z:=HE.out
    unfold tdB at this
    rw[if_neg (by simp)] at this
    cases e:raK n m (awK Ki) with
    | none=>rw[e] at this;cases this
    | some y=>rw[e] at this;exact⟨y,rfl,this⟩
   have haw:=await_k A wr Ki HC.out
   have HY:=hyd hy
   have HYZ:=hyd hyz
   clear HE hy hyz HJ
   go_wp2_with fail
   refine haw.mono ?_
   rintro e w2 ⟨rfl,k2,g2⟩
   have HG2:=hyd (HG.out.trans g2)
   have hra:=refreshAll_k A w2 _ k2 n m y HY.out
   clear haw k2 g2 HC HG
   go_wp2_with fail
   refine hra.mono ?_
   rintro e w3 ⟨rfl,k3,g3⟩
   have HK3:=hyd k3
   have HG3:=hyd (HG2.out.trans g3)
   clear hra k3 g3 HG2
   by_cases hc:y.2=0
   ·
    replace q:∀ w,(binOp .neq 33 (errV y.2) .nilIface).run Tryz.prog w=.ok (.bool false) w:=fun w=>by rw[q,decide_eq_true hc];rfl
    have HE3:Hid ((if 8<=y.1.ca\/Health.duB y.1.hR y.1.hN=true then (anR n noH y.1 24).map fun z=>(z.1,unw z.2) else some (y.1,0))=some Z):=by
     have:=HYZ.out
     rw[if_neg (by rw[hc];simp)] at this
     exact this
    obtain⟨d82,-⟩:=HK3.out.cPat
    obtain⟨d96,-⟩:=HK3.out.cHea
    have hdu:=Patrol.due_any w3 A.pa y.1.cu y.1.ca HK3.out.pat
    have hdh:=Health.due_v w3 A.h y.1.hR y.1.hN y.1.hS HK3.out.hea HK3.out.wf.hea
    clear hc HYZ
    by_cases h8:8<=y.1.ca
    ·
     rw[decide_eq_true (show ((y.1.ca:Nat):Int) ≥ 8 by omega)] at hdu
     obtain⟨z,hz,hzz⟩:∃ z,anR n noH y.1 24=some z/\Z=(z.1,unw z.2):=by
      have:=HE3.out
      rw[if_pos (Or.inl h8)] at this
      cases e:anR n noH y.1 24 with
      | none=>rw[e] at this;cases this
      | some z=>rw[e] at this;exact⟨z,rfl,(Option.some.inj this).symm⟩
     have hnt:=note_k A n (anew_k A n) w3 y.1 HK3.out z hz
     have HZZ:=hyd hzz
     clear HE3 hz hzz hdh h8
     go_wp2_with (go_at_call 76;refine hdu.mono ?_;rintro e w3 ⟨rfl,rfl⟩)
     refine hnt.mono ?_
     rintro e w4 ⟨rfl,k4,g4⟩
     have HK4:=hyd k4
     have HG4:=hyd (HG3.out.trans g4)
     have hun:=unless_k z.2 w4
     clear hnt k4 g4 hdu d82 d96
     go_wp2_with (go_at_call 75;refine hun.mono ?_;rintro e w4 ⟨rfl,rfl⟩)
     go_ret
     rw[HZZ.out]
     exact⟨rfl,HK4.out,HG4.out⟩
    ·
     rw[decide_eq_false (show ¬ ((y.1.ca:Nat):Int) ≥ 8 by omega)] at hdu
     cases hb:Health.duB y.1.hR y.1.hN
     ·
      rw[hb] at hdh
      have HE4:Hid ((y.1,0)=Z):=by
       have:=HE3.out
       rw[if_neg (fun e=>e.elim h8 (fun e=>by rw[hb] at e;cases e))] at this
       exact Option.some.inj this
      clear HE3 hb h8
      go_wp2_with (go_at_call 76;refine hdu.mono ?_;rintro e w3 ⟨rfl,rfl⟩)
      refine hdh.mono ?_
      rintro e w4 ⟨rfl,mm,rfl⟩
      have HK4:=hyd (HK3.out.drewN mm)
      have HG4:=hyd (HG3.out.drewN mm)
      clear hdh hdu d82 d96
      go_wp2
      go_ret
      rw[<-HE4.out]
      exact⟨rfl,HK4.out,HG4.out⟩
     ·
      rw[hb] at hdh
      obtain⟨z,hz,hzz⟩:∃ z,anR n noH y.1 24=some z/\Z=(z.1,unw z.2):=by
       have:=HE3.out
       rw[if_pos (Or.inr hb)] at this
       cases e:anR n noH y.1 24 with
       | none=>rw[e] at this;cases this
       | some z=>rw[e] at this;exact⟨z,rfl,(Option.some.inj this).symm⟩
      have HZZ:=hyd hzz
      have HZ4:=hyd hz
      clear HE3 hz hzz hb h8
      go_wp2_with (go_at_call 76;refine hdu.mono ?_;rintro e w3 ⟨rfl,rfl⟩)
      refine hdh.mono ?_
      rintro e w4 ⟨rfl,mm,rfl⟩
      have HK4:=hyd (HK3.out.drewN mm)
      have HG4:=hyd (HG3.out.drewN mm)
      generalize w3.drewN mm=w4 at *
      have hnt:=note_k A n (anew_k A n) w4 y.1 HK4.out z HZ4.out
      clear hdh hdu d82 d96 HK3 HG3
      go_wp2_with fail
      refine hnt.mono ?_
      rintro e w5 ⟨rfl,k5,g5⟩
      have HK5:=hyd k5
      have HG5:=hyd (HG4.out.trans g5)
      have hun:=unless_k z.2 w5
      clear hnt k5 g5
      go_wp2_with (go_at_call 75;refine hun.mono ?_;rintro e w5 ⟨rfl,rfl⟩)
      go_ret
      rw[HZZ.out]
      exact⟨rfl,HK5.out,HG5.out⟩
   ·
    replace q:∀ w,(binOp .neq 33 (errV y.2) .nilIface).run Tryz.prog w=.ok (.bool true) w:=fun w=>by rw[q,decide_eq_false hc];rfl
    have HE3:Hid ((y.1,unw y.2)=Z):=by
     have:=HYZ.out
     rw[if_pos hc] at this
     exact Option.some.inj this
    have hun:=unless_k y.2 w3
    clear hc HYZ
    go_wp2_with (go_at_call 75;refine hun.mono ?_;rintro e w3 ⟨rfl,rfl⟩)
    go_ret
    rw[<-HE3.out]
    exact⟨rfl,HK3.out,HG3.out⟩
end Go.Proofs.YtbhbilcieodbhaaGreat
/-
  A chip whose power is not to go: it stays on. No condition: lemmas.
-/
namespace Go.Proofs.YtbhbilcieodbhaaGreat
set_option maxRecDepth 100000
open Go.RowKit
theorem s_clK (K:Kor):(clK K).s=K.s:=by
 unfold clK
 split <;> rfl
theorem s_lvK (K:Kor) (b:Int):(lvK K b).s=K.s:=by
 unfold lvK
 split
 ·
  exact s_clK K
 ·
  rfl
theorem s_stK (K:Kor) (b s:Int):(stK K b s).s=K.s:=by
 unfold stK
 dsimp only
theorem s_spK (K:Kor) (b:Int):(spK K b).s=K.s:=by
 unfold spK
 dsimp only
 rw[s_stK,s_lvK]
theorem s_opK (K:Kor):(opK K).1.s=K.s:=by
 unfold opK
 split <;> rfl
theorem s_layK (K:Kor) (t:Tgg):(layK K t).1.s=K.s:=by
 unfold layK
 dsimp only
theorem s_sqK (K:Kor):(sqK K).s=K.s:=by
 unfold sqK
 dsimp only
theorem s_tiK (K:Kor) (S:Shf) (o:Nat):(tiK K S o).1.s=K.s:=by
 unfold tiK
 split
 ·
  rfl
 ·
  split <;> rfl
theorem s_cmL:∀ (l:List Tgg) (K:Kor),(cmL l K).1.s=K.s:=by
 intro l
 induction l with
 | nil=>intro K;rfl
 | cons t l ih=>
  intro K
  unfold cmL
  split
  ·
   exact s_layK _ _
  ·
   exact(ih _).trans (s_layK _ _)
theorem s_cmK (K:Kor) (S:Shf) (st:Int):(cmK K S st).1.s=K.s:=by
 unfold cmK
 dsimp only
 by_cases c:(cmL S.ld K).2≠0
 ·
  rw[if_pos c]
  exact s_cmL _ _
 ·
  rw[if_neg c]
  have h1:(stK (lvK (cmL S.ld K).1 S.fm) S.fm st).s=K.s:=by rw[s_stK,s_lvK,s_cmL]
  generalize stK (lvK (cmL S.ld K).1 S.fm) S.fm st=K1 at *
  by_cases d:S.tt.o=true
  ·
   rw[if_pos d]
   dsimp only
   rw[s_stK]
   exact(s_clK K1).trans h1
  ·
   rw[if_neg d]
   exact h1
end Go.Proofs.YtbhbilcieodbhaaGreat
/-
  A chip as a table of the pages that were programmed whole; what becomes of it at each step. No condition: lemmas.
-/
namespace Go.Proofs.YtbhbilcieodbhaaGreat
set_option maxRecDepth 100000
open Go.RowKit
abbrev Tab:=Nat->Option (Tgg × List Nat)
structure Ent (p:Nat) (t:Tgg) (D:List Nat):Prop where
 pl:t.p=p
 may:May t.p t.o t.q t.c t.l
 len:D.length=174
 bys:Bys D
structure Rep (s:Chp) (T:Tab):Prop where
 ent:∀ p t D,T p=some (t,D)->p<96/\Ent p t D
 is:∀ p t D,T p=some (t,D)->∀ k,k<4->(s.ch (4*p+k)).is=true/\(s.ch (4*p+k)).tru=wordOf D (body t.p t.o t.q t.c t.l) k
 non:∀ p,p<96->T p=none->(s.ch (4*p+3)).is=false
def Erd (s:Chp) (p:Nat):Prop:=∀ k,k<4->(s.ch (4*p+k)).is=false
def Gd (s:Chp) (p:Nat):Prop:=∀ k,k<4->dmg (s.ch (4*p+k))<=2
def Gh (s:Chp) (p:Nat):Prop:=∀ k,k<4->dmg (s.ch (4*p+k))<=4
def setT (T:Tab) (p:Nat) (t:Tgg) (D:List Nat):Tab:=fun x=>if x=p then some (t,D) else T x
theorem Gd.gh {s:Chp} {p:Nat} (h:Gd s p):Gh s p:=fun k hk=>Nat.le_trans (h k hk) (by decide)
theorem Erd.tab {s:Chp} {T:Tab} (h:Rep s T) {p:Nat} (hE:Erd s p):T p=none:=by
 cases e:T p with
 | none=>rfl
 | some x=>
  obtain⟨t,D⟩:=x
  have:=(h.is p t D e 3 (by omega)).1
  rw[hE 3 (by omega)] at this
  cases this
def Oth (s s':Chp) (p:Nat):Prop:=∀ j,¬ (4*p<=j/\j<4*p+4)->s'.ch j=s.ch j
theorem Oth.erd {s s':Chp} {p x:Nat} (h:Oth s s' p) (hx:x≠p) (hE:Erd s x):Erd s' x:=fun k hk=>by rw[h _ (by omega)];exact hE k hk
theorem Oth.gd {s s':Chp} {p x:Nat} (h:Oth s s' p) (hx:x≠p) (hE:Gd s x):Gd s' x:=fun k hk=>by rw[h _ (by omega)];exact hE k hk
theorem Oth.gh {s s':Chp} {p x:Nat} (h:Oth s s' p) (hx:x≠p) (hE:Gh s x):Gh s' x:=fun k hk=>by rw[h _ (by omega)];exact hE k hk
theorem Rep.ch {s s':Chp} {T:Tab} (h:Rep s T) (e:s'.ch=s.ch):Rep s' T:=⟨h.ent,fun p t D hT k hk=>by rw[e];exact h.is p t D hT k hk,fun p hp hT=>by rw[e];exact h.non p hp hT⟩
theorem Erd.ch {s s':Chp} {p:Nat} (h:Erd s p) (e:s'.ch=s.ch):Erd s' p:=fun k hk=>by rw[e];exact h k hk
theorem Gd.ch {s s':Chp} {p:Nat} (h:Gd s p) (e:s'.ch=s.ch):Gd s' p:=fun k hk=>by rw[e];exact h k hk
theorem Gh.ch {s s':Chp} {p:Nat} (h:Gh s p) (e:s'.ch=s.ch):Gh s' p:=fun k hk=>by rw[e];exact h k hk
theorem rdF_on {tl:List Nat->Int->Pg} {s:Chp} {r:Int} {p:Nat} (hp:p<96) (hon:s.on=true):rdF tl s r p=(rdS s p,wrap64 (r+1),tl (pgTo s p 4) p,0):=by
 unfold rdF
 rw[readV_on hp hon]
 rfl
theorem rdF_off {tl:List Nat->Int->Pg} {s:Chp} {r:Int} {p:Nat} (hp:p<96) (hon:s.on=false):rdF tl s r p=(s,r,Pg.zero,7):=by
 have e:readV s p=(s,[],7):=by unfold readV;rw[if_neg (by omega),if_pos hon]
 unfold rdF
 rw[e]
 rfl
theorem tl_told {tl:List Nat->Int->Pg} (htl:∀ L n,ToldR L n (tl L n)) {s:Chp} (hs:s.Ok) {T:Tab} (h:Rep s T) {p:Nat} {t:Tgg} {D:List Nat} (hT:T p=some (t,D)) (hg:Gh s p) :
 ((tl (pgTo s p 4) p).sound=true<->Gd s p)/\((tl (pgTo s p 4) p).tagged=true<->dmg (s.ch (4*p+3))<=2)/\((tl (pgTo s p 4) p).tagged=true->(tl (pgTo s p 4) p).p=t.p/\(tl (pgTo s p 4) p).o=t.o/\(tl (pgTo s p 4) p).s=t.q/\(tl (pgTo s p 4) p).c=t.c/\(tl (pgTo s p 4) p).l=t.l)/\((tl (pgTo s p 4) p).sound=true->(tl (pgTo s p 4) p).tagged=true/\(tl (pgTo s p 4) p).data=D):=by
 obtain⟨hp,hE⟩:=h.ent p t D hT
 have hd:∀ k,k<4->hurt D (body t.p t.o t.q t.c t.l) (pgTo s p 4) k=dmg (s.ch (4*p+k)):=fun k hk=>hurt_dmg hs hk (h.is p t D hT k hk).2
 have htd:=htl (pgTo s p 4) p
 obtain⟨h1,h2,-,h3,h4,-⟩:=ToldR.told (Dt:=D) (X:=pgTo s p 4) (p:=t.p) (o:=t.o) (s:=t.q) (c:=t.c) (l:=t.l) (g:=tl (pgTo s p 4) p) hE.len hE.bys hE.may (pgTo_length hs p 4) (by rw[hE.pl];exact htd) (fun k hk=>by rw[hd k hk];exact hg k hk)
 rw[hd 3 (by omega)] at h1 h2
 rw[hd 0 (by omega),hd 1 (by omega),hd 2 (by omega)] at h2
 refine⟨⟨fun e k hk=>?_,fun e=>?_⟩,h1,h3,fun e=>⟨?_,h4 e⟩⟩
 ·
  obtain⟨a3,a0,a1,a2⟩:=h2.1 e
  rcases(by omega:k=0\/k=1\/k=2\/k=3) with rfl | rfl | rfl | rfl
  ·
   exact a0
  ·
   exact a1
  ·
   exact a2
  ·
   exact a3
 ·
  exact h2.2 ⟨e 3 (by omega),e 0 (by omega),e 1 (by omega),e 2 (by omega)⟩
 ·
  exact h1.2 (h2.1 e).1
structure Lay4 (s t:Chp) (p n:Nat) (W:Nat->List Nat):Prop where
 ch:∀ j,t.ch j=if 4*p<=j/\j<4*p+n then pgmK (W (j - 4*p)) else s.ch j
 rd:∀ b,(t.bl b).reads=(s.bl b).reads
theorem wrN_ends {s:Chp} {p:Nat} {W:Nat->List Nat} (hp:p<96) (hl:∀ k,k<4->(W k).length=64) (hon:s.on=true) (hE:Erd s p):∀ n,n<=4 ->
 ((wrN s p W n).2=0/\(wrN s p W n).1.on=true/\Lay4 s (wrN s p W n).1 p n W) \/
 ((wrN s p W n).2=8/\(wrN s p W n).1.on=true/\∃ m,m<n/\Lay4 s (wrN s p W n).1 p m W) \/
 ((wrN s p W n).2=7/\(wrN s p W n).1.on=false/\∃ m,m<n/\Lay4 s (wrN s p W n).1 p m W):=by
 intro n
 induction n with
 | zero=>intro _;exact Or.inl ⟨rfl,hon,⟨fun j=>by rw[if_neg (by omega)];rfl,fun _=>rfl⟩⟩
 | succ n ih=>
  intro hn
  have e:wrN s p W (n+1)=if (wrN s p W n).2=0 then writeR (wrN s p W n).1 p n (W n) else wrN s p W n:=rfl
  rw[e]
  generalize wrN s p W n=X at *
  rcases ih (by omega) with ⟨h0,ho,hL⟩ | ⟨h0,ho,m,hm,hL⟩ | ⟨h0,ho,m,hm,hL⟩
  ·
   rw[if_pos h0]
   unfold writeR
   have e1:((p:Int)).toNat=p:=Int.toNat_natCast p
   have e2:((n:Int)).toNat=n:=Int.toNat_natCast n
   rw[e1,e2,if_neg (by simp only[not_or,Decidable.not_not,ne_eq];exact⟨⟨by omega,by omega,by omega,by omega⟩,hl n (by omega)⟩),if_neg (by rw[ho];simp),if_neg (by rw[hL.ch,if_neg (by omega),hE n (by omega)];simp)]
   split
   ·
    exact Or.inr (Or.inr ⟨rfl,rfl,n,by omega,⟨hL.ch,hL.rd⟩⟩)
   ·
    split
    ·
     refine Or.inr (Or.inl ⟨rfl,ho,n,by omega,⟨hL.ch,fun b=>?_⟩⟩)
     rw[<-hL.rd b]
     show (if b=p / 8 then failW (X.1.bl (p / 8)) else X.1.bl b).reads=_
     split
     ·
      rename_i c;rw[c];rfl
     ·
      rfl
    ·
     refine Or.inl ⟨rfl,ho,⟨fun j=>?_,fun b=>?_⟩⟩
     ·
      show (if j=4*p+n then pgmK (W n) else X.1.ch j)=_
      split
      ·
       rename_i c
       rw[if_pos (by omega),c,show 4*p+n - 4*p=n by omega]
      ·
       rename_i c
       rw[hL.ch]
       by_cases d:4*p<=j/\j<4*p+n
       ·
        rw[if_pos d,if_pos (by omega)]
       ·
        rw[if_neg d,if_neg (by omega)]
     ·
      rw[<-hL.rd b]
      show (if b=p / 8 then failW (X.1.bl (p / 8)) else X.1.bl b).reads=_
      split
      ·
       rename_i c;rw[c];rfl
      ·
       rfl
  ·
   rw[if_neg (by rw[h0];decide)]
   exact Or.inr (Or.inl ⟨h0,ho,m,by omega,hL⟩)
  ·
   rw[if_neg (by rw[h0];decide)]
   exact Or.inr (Or.inr ⟨h0,ho,m,by omega,hL⟩)
theorem Lay4.oth {s t:Chp} {p n:Nat} {W:Nat->List Nat} (h:Lay4 s t p n W) (hn:n<=4):Oth s t p:=fun j hj=>by rw[h.ch,if_neg (by omega)]
theorem Oth.rep {s s':Chp} {p:Nat} {T:Tab} (h:Oth s s' p) (hR:Rep s T) (hT:T p=none) (h3:(s'.ch (4*p+3)).is=false):Rep s' T:=by
 refine⟨hR.ent,fun x t D hx k hk=>?_,fun x hx hn=>?_⟩
 ·
  have:x≠p:=by rintro rfl;rw[hT] at hx;cases hx
  rw[h _ (by omega)]
  exact hR.is x t D hx k hk
 ·
  by_cases e:x=p
  ·
   rw[e];exact h3
  ·
   rw[h _ (by omega)]
   exact hR.non x hx hn
theorem dmg_pgm (l:List Nat):dmg (pgmK l)=0:=by
 have:∀ n,dmgTo l l n=0:=by
  intro n
  induction n with
  | zero=>rfl
  | succ n ih=>rw[dmgTo,ih,if_pos rfl]
 exact this 64
theorem Lay4.full {s s':Chp} {p:Nat} {T:Tab} {t:Tgg} {D:List Nat} (h:Lay4 s s' p 4 (wordOf D (body t.p t.o t.q t.c t.l))) (hR:Rep s T) (hp:p<96) (hE:Ent p t D):Rep s' (setT T p t D)/\Gd s' p:=by
 have hin:∀ k,k<4->s'.ch (4*p+k)=pgmK (wordOf D (body t.p t.o t.q t.c t.l) k):=fun k hk=>by rw[h.ch,if_pos (by omega),show 4*p+k - 4*p=k by omega]
 refine⟨⟨fun x u C hx=>?_,fun x u C hx k hk=>?_,fun x hx hn=>?_⟩,fun k hk=>by rw[hin k hk,dmg_pgm];decide⟩
 ·
  unfold setT at hx
  split at hx
  ·
   rename_i e
   injection hx with hx
   injection hx with h1 h2
   subst h1 h2 e
   exact⟨hp,hE⟩
  ·
   exact hR.ent x u C hx
 ·
  unfold setT at hx
  split at hx
  ·
   rename_i e
   injection hx with hx
   injection hx with h1 h2
   subst h1 h2 e
   rw[hin k hk]
   exact⟨rfl,rfl⟩
  ·
   rename_i e
   rw[h.ch,if_neg (by omega)]
   exact hR.is x u C hx k hk
 ·
  unfold setT at hn
  split at hn
  ·
   cases hn
  ·
   rename_i e
   rw[h.ch,if_neg (by omega)]
   exact hR.non x hx hn
structure PgD (s s':Chp) (T:Tab) (t:Tgg) (D:List Nat):Prop where
 ok:s'.Ok
 on:s'.on=true
 rep:Rep s' (setT T t.p t D)
 gd:Gd s' t.p
 oth:Oth s s' t.p
structure PgN (s s':Chp) (T:Tab) (t:Tgg) (on:Bool):Prop where
 ok:s'.Ok
 on:s'.on=on
 rep:Rep s' T
 oth:Oth s s' t.p
theorem prF_ends {tl:List Nat->Int->Pg} (htl:∀ L n,ToldR L n (tl L n)) {s:Chp} (hs:s.Ok) {T:Tab} (hR:Rep s T) {t:Tgg} {D:List Nat} (hp:t.p<96) (hE:Ent t.p t D) (hon:s.on=true) (hB:Erd s t.p) (r:Int) :
 ((prF tl s r t D).2.2=0/\(prF tl s r t D).2.1=1/\PgD s (prF tl s r t D).1 T t D) \/
 ((prF tl s r t D).2.2=8/\(prF tl s r t D).2.1=0/\PgN s (prF tl s r t D).1 T t true) \/
 ((prF tl s r t D).2.2=7/\(prF tl s r t D).2.1=0/\PgN s (prF tl s r t D).1 T t false):=by
 have hZ:=body_length t.p t.o t.q t.c t.l
 have bZ:=body_bys t.p t.o t.q t.c t.l
 have hOk:=wrN_ok hs (t.p:Int) (W:=wordOf D (body t.p t.o t.q t.c t.l)) 4 (fun k hk=>(word_cw hE.len hE.bys hZ bZ k hk).2.1)
 have hw:=wrN_ends (s:=s) (p:=t.p) (W:=wordOf D (body t.p t.o t.q t.c t.l)) hp (fun k hk=>word_length hE.len hE.bys hZ bZ k hk) hon hB 4 (Nat.le_refl _)
 have hTn:=hB.tab hR
 unfold prF
 generalize wrN s t.p (wordOf D (body t.p t.o t.q t.c t.l)) 4=X at *
 dsimp only
 rcases hw with ⟨h0,ho,hL⟩ | ⟨h0,ho,m,hm,hL⟩ | ⟨h0,ho,m,hm,hL⟩
 ·
  obtain⟨hR2,hG2⟩:=hL.full hR hp hE
  have htd:=tl_told htl hOk hR2 (show setT T t.p t D t.p=some (t,D) by unfold setT;rw[if_pos rfl]) hG2.gh
  have hsnd:=htd.1.2 hG2
  obtain⟨htg,hda⟩:=htd.2.2.2 hsnd
  rw[if_neg (by rw[h0];simp),rdF_on hp ho]
  dsimp only
  rw[if_neg (by simp),if_pos ⟨htg,htd.2.2.1 htg,hsnd,hda⟩]
  exact Or.inl ⟨rfl,rfl,⟨rdS_ok hOk _,ho,hR2.ch rfl,hG2.ch rfl,hL.oth (Nat.le_refl _)⟩⟩
 ·
  rw[if_pos (by rw[h0];decide)]
  refine Or.inr (Or.inl ⟨h0,rfl,⟨hOk,ho,?_,hL.oth (by omega)⟩⟩)
  exact(hL.oth (by omega)).rep hR hTn (by rw[hL.ch,if_neg (by omega)];exact hB 3 (by omega))
 ·
  rw[if_pos (by rw[h0];decide)]
  refine Or.inr (Or.inr ⟨h0,rfl,⟨hOk,ho,?_,hL.oth (by omega)⟩⟩)
  exact(hL.oth (by omega)).rep hR hTn (by rw[hL.ch,if_neg (by omega)];exact hB 3 (by omega))
theorem eraseR_ends {s:Chp} (hs:s.Ok) {b:Nat} (hb:b<12) (hon:s.on=true) :
 ((eraseR s b).2=0/\(eraseR s b).1.on=true/\(eraseR s b).1.Ok/\∀ j,(eraseR s b).1.ch j=if 32*b<=j/\j<32*b+32 then newK else s.ch j) \/
 ((eraseR s b).2=8/\(eraseR s b).1.on=true/\(eraseR s b).1.Ok/\(eraseR s b).1.ch=s.ch) \/
 ((eraseR s b).2=7/\(eraseR s b).1.on=false/\(eraseR s b).1.Ok/\(eraseR s b).1.ch=s.ch):=by
 have hOk:=eraseR_ok hs b
 unfold eraseR at hOk ⊢
 rw[if_neg (by omega),if_neg (by rw[hon];simp)] at hOk ⊢
 split at hOk
 ·
  rename_i c
  rw[if_pos c]
  exact Or.inr (Or.inr ⟨rfl,rfl,hOk,rfl⟩)
 ·
  rename_i c
  rw[if_neg c]
  split at hOk
  ·
   rename_i d
   rw[if_pos d]
   exact Or.inr (Or.inl ⟨rfl,hon,hOk,rfl⟩)
  ·
   rename_i d
   rw[if_neg d]
   exact Or.inl ⟨rfl,hon,hOk,fun j=>rfl⟩
end Go.Proofs.YtbhbilcieodbhaaGreat
/-
  How a core and its chip stand: what is in memory is what lies on the chip. No condition: definitions, and what small steps keep.
-/
namespace Go.Proofs.YtbhbilcieodbhaaGreat
set_option maxRecDepth 100000
open Go.RowKit
structure Gho where
 T:Tab
 c:Point.Ckp
 a:Nat->List Nat
 z:Nat->Prop
structure Lvs (K:Kor) (G:Gho) (o:Nat) (l:Bool) (D:List Nat):Prop where
 tab:G.T (K.L o).toNat=some (⟨(K.L o).toNat,o,K.vs o,K.vc o,l⟩,D)
 lost:l=true->G.z o
 data:l=false->D=if o=24 then Point.wrL G.c else G.a o
 gh:Gh K.s (K.L o).toNat
 gd:¬ G.z o->Gd K.s (K.L o).toNat
def Rvl (K:Kor) (c:Point.Ckp) (X:Nat->Prop) (p:Nat) (t:Tgg):Prop:=
 K.L t.o≠-1/\(t.q<K.vs t.o\/t.q=K.vs t.o/\((p:Int)=K.L t.o\/t.c=(K.vc t.o+1) % 256/\c.B (p / 8)=false/\(K.F (p / 8)=3\/X (p / 8))))
structure Sit (K:Kor) (G:Gho) (X:Nat->Prop):Prop where
 wf:Wf K
 rep:Rep K.s G.T
 sts:∀ b,b<12->0<=K.F b/\K.F b<=3
 frs:∀ p,p<96->K.F (p / 8)=0->Erd K.s p
 opn:∀ b,b<12->(K.F b=1<->K.fr.o=true/\K.fr.k=b)
 frn:K.fr.o=true->∀ i,K.fr.i<=i->i<8->Erd K.s (8*K.fr.k+i)
 liv:∀ o,o<25->K.L o≠-1->∃ l D,Lvs K G o l D
 nul:∀ o,o<24->K.L o = -1->G.a o=List.replicate 174 0
 blk:∀ o,o<25->K.L o≠-1->K.F ((K.L o).toNat / 8)≠0/\(K.F ((K.L o).toNat / 8)=3->K.dd=true)
 flo:∀ o,o<24->K.L o≠-1->K.fl o<K.vs o
 old:∀ p t D,G.T p=some (t,D)->(t.o=24\/G.c.B (p / 8)=false/\K.fl t.o<t.q)->Rvl K G.c X p t
 seq:∀ p t D,G.T p=some (t,D)->t.q<K.nx
 fls:∀ o,o<24->K.fl o<K.nx
 sp:K.sp=false
 dds:K.dd=true<->2<bad3 K.F
 cb:∀ b,b<12->G.c.B b=true->K.F b=3
 cf:∀ o,o<24->G.c.F o=K.fl o
 cn:K.L 24≠-1->G.c.N=K.vs 24/\(G.c.C+8*K.ca) % 96=K.cu/\Point.Tld G.c
 nw:K.L 24 = -1->∀ p,G.T p=none
 z24:¬ G.z 24
 lb:∀ o,o<25->K.L o≠-1->G.c.B ((K.L o).toNat / 8)=false
theorem Wf.lt {K:Kor} (h:Wf K) {o:Nat} (ho:o<25) (hL:K.L o≠-1):(K.L o).toNat<96/\K.L o=((K.L o).toNat:Nat):=by
 rcases h.map.rng o ho with e | e
 ·
  exact absurd e hL
 ·
  omega
structure Fix (K K':Kor):Prop where
 cu:K'.cu=K.cu
 qu:K'.qu=K.qu
 hS:K'.hS=K.hS
 rp:K'.rp=K.rp
 md:K'.md=K.md
 tl:K'.tl=K.tl
structure Alk (K K':Kor):Prop where
 ch:K'.s.ch=K.s.ch
 F:K'.F=K.F
 L:K'.L=K.L
 vs:K'.vs=K.vs
 vc:K'.vc=K.vc
 fl:K'.fl=K.fl
 nx:K'.nx=K.nx
 sp:K'.sp=K.sp
 fr:K'.fr=K.fr
 dd:K'.dd=K.dd
 cu:K'.cu=K.cu
 ca:K'.ca=K.ca
 fx:Fix K K'
end Go.Proofs.YtbhbilcieodbhaaGreat
/-
  What a frontier that is closed or opened, a block that is taken or spoilt keep of how a core stands. No condition: lemmas.
-/
namespace Go.Proofs.YtbhbilcieodbhaaGreat
set_option maxRecDepth 100000
open Go.RowKit
theorem upd_at (F:Nat->Int) (n:Nat) (s:Int):upd F n s n=s:=by unfold upd;rw[if_pos rfl]
theorem upd_ne (F:Nat->Int) {n j:Nat} (s:Int) (h:j≠n):upd F n s j=F j:=by unfold upd;rw[if_neg h]
theorem upd_or (F:Nat->Int) (n j:Nat) (s:Int):(j=n/\upd F n s j=s)\/(j≠n/\upd F n s j=F j):=by
 by_cases h:j=n
 ·
  subst h;exact Or.inl ⟨rfl,upd_at _ _ _⟩
 ·
  exact Or.inr ⟨h,upd_ne _ _ h⟩
theorem cnt_up (F:Nat->Int) {n:Nat} (hn:n<12) (s t:Int):Pool.cnt (upd F n s) t 12+(if F n=t then 1 else 0)=Pool.cnt F t 12+(if s=t then 1 else 0):=Pool.cnt_upd F n s t 12 hn
def fre (F:Nat->Int):Nat:=Pool.cnt F 0 12
theorem fre_up (F:Nat->Int) {n:Nat} (hn:n<12) (s:Int):fre (upd F n s)+(if F n=0 then 1 else 0)=fre F+(if s=0 then 1 else 0):=cnt_up F hn s 0
theorem bad_up (F:Nat->Int) {n:Nat} (hn:n<12) (s:Int):bad3 (upd F n s)+(if F n=3 then 1 else 0)=bad3 F+(if s=3 then 1 else 0):=cnt_up F hn s 3
theorem fre_12 (F:Nat->Int) (s:Int):fre (upd F 12 s)=fre F:=Pool.cnt_far F 12 s 0 12 (Nat.le_refl _)
theorem bad_12 (F:Nat->Int) (s:Int):bad3 (upd F 12 s)=bad3 F:=Pool.cnt_far F 12 s 3 12 (Nat.le_refl _)
section
variable {K:Kor} {G:Gho} {X Y:Nat->Prop}
theorem Sit.reF (h:Sit K G X) (F':Nat->Int) (fr':Front.St) (dd':Bool) (wf:Wf { K with F:=F',fr:=fr',dd:=dd' })
 (sts:∀ b,b<12->0<=F' b/\F' b<=3) (frs:∀ p,p<96->F' (p / 8)=0->Erd K.s p) (opn:∀ b,b<12->(F' b=1<->fr'.o=true/\fr'.k=b))
 (frn:fr'.o=true->∀ i,fr'.i<=i->i<8->Erd K.s (8*fr'.k+i)) (blk:∀ o,o<25->K.L o≠-1->F' ((K.L o).toNat / 8)≠0/\(F' ((K.L o).toNat / 8)=3->dd'=true))
 (rv:∀ b,b<12->K.F b=3->F' b=3) (xy:∀ b,b<12->X b->F' b=3\/Y b) (dds:dd'=true<->2<bad3 F'):Sit { K with F:=F',fr:=fr',dd:=dd' } G Y where
 wf:=wf
 rep:=h.rep
 sts:=sts
 frs:=frs
 opn:=opn
 frn:=frn
 liv:=fun o ho hL=>by
  obtain⟨l,D,hl⟩:=h.liv o ho hL
  exact⟨l,D,⟨hl.tab,hl.lost,hl.data,hl.gh,hl.gd⟩⟩
 nul:=h.nul
 blk:=blk
 flo:=h.flo
 old:=fun p t D hT hc=>by
  obtain⟨h1,h2⟩:=h.old p t D hT hc
  have hp:=(h.rep.ent p t D hT).1
  exact⟨h1,h2.imp id fun ⟨e,k⟩=>⟨e,k.imp id fun ⟨c,y,x⟩=>⟨c,y,x.elim (fun x=>Or.inl (rv _ (by omega) x)) (xy _ (by omega))⟩⟩⟩
 seq:=h.seq
 fls:=h.fls
 sp:=h.sp
 dds:=dds
 cb:=fun b hb e=>rv b hb (h.cb b hb e)
 cf:=h.cf
 cn:=h.cn
 nw:=h.nw
 z24:=h.z24
 lb:=h.lb
theorem Sit.frk (h:Sit K G X) (ho:K.fr.o=true):K.fr.k<12/\K.F K.fr.k=1:=⟨h.wf.fr.1,(h.opn K.fr.k h.wf.fr.1).2 ⟨ho,rfl⟩⟩
theorem take_free (hw:0<=K.F 12/\K.F 12<12) (hf:1<=fre K.F):tkC K.F=0/\tkM K.F<12/\K.F (tkM K.F)=0:=by
 obtain⟨hN,hm⟩:=tkM_lt K.F hw
 rcases hN with ⟨h1,j,_,_,h4,_⟩ | ⟨_,_,h3⟩
 ·
  exact⟨h1,hm,h4⟩
 ·
  have:∀ k,k<=12->Pool.cnt K.F 0 k=0:=by
   intro k
   induction k with
   | zero=>intro _;rfl
   | succ k ih=>intro hk;unfold Pool.cnt;rw[ih (by omega),if_neg (h3 k (by omega))]
  have:=this 12 (Nat.le_refl _)
  unfold fre at hf
  omega
theorem Sit.free_none (h:Sit K G X) {m:Nat} (hF:K.F m=0):∀ o,o<25->K.L o≠-1->(K.L o).toNat / 8≠m:=fun o ho hL e=>(h.blk o ho hL).1 (by rw[e];exact hF)
theorem tkF_0 (F:Nat->Int) (m:Nat):Pool.tkF F 0 m=upd (upd F m 1) 12 ((m+1) % 12:Nat):=by unfold Pool.tkF;rw[if_pos rfl]
theorem tkF_at (F:Nat->Int) {m b:Nat} (hb:b<12):Pool.tkF F 0 m b=upd F m 1 b:=by rw[tkF_0,upd_ne _ _ (by omega)]
theorem Wf.F' {K:Kor} (h:Wf K) {F:Nat->Int} (hF:0<=F 12/\F 12<12) {fr:Front.St} (hfr:Front.Okf fr) (d:Bool):Wf { K with F:=F,fr:=fr,dd:=d }:=
 ⟨h.chip,h.rr,hF,h.map,h.vs,h.vp,h.vc,h.fl,h.nx,hfr,h.cu,h.qu,h.hea,h.tl⟩
theorem Sit.op (h:Sit K G X) (ho:K.fr.o=false) (hf:1<=fre K.F) :
 (opK K).2=0/\Sit (opK K).1 G X/\fre (opK K).1.F+1=fre K.F/\bad3 (opK K).1.F=bad3 K.F/\(opK K).1.fr=⟨true,tkM K.F,0⟩/\(∀ b,b<12->(K.F b=3<->(opK K).1.F b=3)) /\
  ∃ F',(opK K).1={ K with F:=F',fr:=⟨true,tkM K.F,0⟩,dd:=K.dd }:=by
 obtain⟨h1,h2,h3⟩:=take_free h.wf.frm hf
 have e:opK K=({ K with F:=Pool.tkF K.F 0 (tkM K.F),fr:=⟨true,tkM K.F,0⟩,dd:=K.dd },0):=by unfold opK;rw[if_pos h1]
 rw[e]
 have c0:=fre_up K.F h2 1
 have c3:=bad_up K.F h2 1
 rw[h3] at c0 c3
 simp at c0 c3
 have f0:fre (Pool.tkF K.F 0 (tkM K.F))=fre (upd K.F (tkM K.F) 1):=by rw[tkF_0,fre_12]
 have f3:bad3 (Pool.tkF K.F 0 (tkM K.F))=bad3 (upd K.F (tkM K.F) 1):=by rw[tkF_0,bad_12]
 refine⟨rfl,h.reF _ _ _ ?_ ?_ ?_ ?_ ?_ ?_ ?_ ?_ ?_,by rw[f0];exact c0,by rw[f3,c3],rfl,fun b hb=>?_,_,rfl⟩
 ·
  refine h.wf.F' ?_ ⟨h2,(by decide:(0:Nat)<9)⟩ _
  rw[tkF_0,upd_at]
  omega
 ·
  intro b hb
  rw[tkF_at _ hb]
  rcases upd_or K.F (tkM K.F) b 1 with ⟨_,e⟩ | ⟨_,e⟩ <;> rw[e]
  ·
   decide
  ·
   exact h.sts b hb
 ·
  intro p hp e
  rw[tkF_at _ (by omega)] at e
  rcases upd_or K.F (tkM K.F) (p / 8) 1 with ⟨_,e2⟩ | ⟨_,e2⟩ <;> rw[e2] at e
  ·
   exact absurd e (by decide)
  ·
   exact h.frs p hp e
 ·
  intro b hb
  rw[tkF_at _ hb]
  refine⟨fun e=>⟨rfl,?_⟩,fun e=>?_⟩
  ·
   rcases upd_or K.F (tkM K.F) b 1 with ⟨e1,_⟩ | ⟨c,e2⟩
   ·
    exact e1.symm
   ·
    rw[e2] at e
    have:=((h.opn b hb).1 e).1
    rw[ho] at this
    cases this
  ·
   rw[<-e.2]
   exact upd_at _ _ _
 ·
  intro _ i _ hi
  exact h.frs _ (by show 8*tkM K.F+i<96;omega) (by show K.F ((8*tkM K.F+i) / 8)=0;rw[show (8*tkM K.F+i) / 8=tkM K.F by omega];exact h3)
 ·
  intro o hl hL
  have hlt:=(h.wf.lt hl hL).1
  rw[tkF_at _ (by omega),upd_ne _ _ (h.free_none h3 o hl hL)]
  exact h.blk o hl hL
 ·
  intro b hb e
  rw[tkF_at _ hb,upd_ne]
  ·
   exact e
  ·
   rintro rfl;rw[h3] at e;exact absurd e (by decide)
 ·
  exact fun b _ e=>Or.inr e
 ·
  rw[f3,c3];exact h.dds
 ·
  show K.F b=3<->Pool.tkF K.F 0 (tkM K.F) b=3
  rw[tkF_at _ hb]
  rcases upd_or K.F (tkM K.F) b 1 with ⟨e,e2⟩ | ⟨_,e2⟩ <;> rw[e2]
  rw[e,h3]
  decide
end
end Go.Proofs.YtbhbilcieodbhaaGreat
/-
  The counts of reads, a core's and its chip's. No condition: lemmas.
-/
namespace Go.Proofs.YtbhbilcieodbhaaGreat
set_option maxRecDepth 100000
open Go.RowKit
def Rdn (N:Nat) (K:Kor):Prop:=∀ b,b<12->0<=(K.s.bl b).reads/\(K.s.bl b).reads<=N/\K.hR b=min (K.s.bl b).reads 65535
def RdB (k:Nat) (K K':Kor):Prop:=∀ N,N+k<4611686018427387904->Rdn N K->Rdn (N+k) K'
theorem Rdn.mono {N M:Nat} {K:Kor} (h:Rdn N K) (e:N<=M):Rdn M K:=fun b hb=>by
 obtain⟨h1,h2,h3⟩:=h b hb
 exact⟨h1,by omega,h3⟩
theorem RdB.refl (K:Kor):RdB 0 K K:=fun _ _ h=>h
theorem RdB.trans {i j:Nat} {K K' K'':Kor} (h:RdB i K K') (k:RdB j K' K''):RdB (i+j) K K'':=fun N hN hR=>by
 have:=k (N+i) (by omega) (h N (by omega) hR)
 rwa [Nat.add_assoc] at this
theorem RdB.mono {i j:Nat} {K K':Kor} (h:RdB i K K') (e:i<=j):RdB j K K':=fun N hN hR=>(h N (by omega) hR).mono (by omega)
theorem RdB.same {K K':Kor} (h1:∀ b,(K'.s.bl b).reads=(K.s.bl b).reads) (h2:K'.hR=K.hR):RdB 0 K K':=fun N _ h b hb=>by
 rw[h1,h2]
 exact h b hb
theorem cntF_at (R:Nat->Int) {x n:Nat} (hx:x<12) (b:Nat):cntF R (x:Nat) (n:Nat) b=if b=x then min (R x+(n:Int)) 65535 else R b:=by
 unfold cntF
 rw[if_pos (by omega),Int.toNat_natCast]
 unfold upd
 split
 ·
  rw[show max (n:Int) 0=n by omega]
 ·
  rfl
theorem rdS_reads (s:Chp) (p b:Nat):((rdS s p).bl b).reads=if b=p / 8 then wrap64 ((s.bl b).reads+1) else (s.bl b).reads:=by
 show (if b=p / 8 then _ else s.bl b:Blo).reads=_
 split
 ·
  rename_i e;rw[e]
 ·
  rfl
theorem Rdn.one {N:Nat} {K K':Kor} (h:Rdn N K) (hN:N+1<4611686018427387904) {p:Nat} (hp:p<96) (h1:∀ b,(K'.s.bl b).reads=if b=p / 8 then wrap64 ((K.s.bl b).reads+1) else (K.s.bl b).reads) (h2:K'.hR=cntF K.hR (p / 8:Nat) (1:Nat)):Rdn (N+1) K':=fun b hb=>by
 obtain⟨a1,a2,a3⟩:=h b hb
 rw[h1 b,h2,cntF_at K.hR (by omega) b]
 by_cases e:b=p / 8
 ·
  rw[if_pos e,if_pos e,<-e,a3]
  have:wrap64 ((K.s.bl b).reads+1)=(K.s.bl b).reads+1:=by unfold wrap64;omega
  rw[this]
  refine⟨by omega,by omega,by omega⟩
 ·
  rw[if_neg e,if_neg e]
  exact⟨a1,by omega,a3⟩
theorem rd_rdK (K:Kor) (p:Nat):RdB 1 K (rdK K p).1:=fun N hN h=>by
 unfold rdK rdF
 by_cases hp:p<96
 ·
  cases hon:K.s.on
  ·
   have e:readV K.s p=(K.s,[],7):=by unfold readV;rw[if_neg (by omega),if_pos hon]
   rw[e]
   exact(h.mono (by omega):Rdn (N+1) K)
  ·
   rw[readV_on hp hon]
   exact h.one hN hp (rdS_reads K.s p) rfl
 ·
  have e:readV K.s p=(K.s,[],1):=by unfold readV;rw[if_pos (by omega)]
  rw[e]
  exact(h.mono (by omega):Rdn (N+1) K)
theorem wrN_reads (s:Chp) (a:Int) (W:Nat->List Nat) (b:Nat):∀ n,((wrN s a W n).1.bl b).reads=(s.bl b).reads:=by
 intro n
 induction n with
 | zero=>rfl
 | succ n ih=>
  have e:wrN s a W (n+1)=if (wrN s a W n).2=0 then writeR (wrN s a W n).1 a n (W n) else wrN s a W n:=rfl
  rw[e]
  generalize wrN s a W n=X at *
  split
  ·
   rw[<-ih]
   unfold writeR
   have key:∀ x:Nat,((if b=x then failW (X.1.bl x) else X.1.bl b:Blo)).reads=(X.1.bl b).reads:=fun x=>by
    split
    ·
     rename_i c;rw[c];rfl
    ·
     rfl
   split
   ·
    rfl
   ·
    split
    ·
     rfl
    ·
     split
     ·
      rfl
     ·
      split
      ·
       rfl
      ·
       split
       ·
        exact key _
       ·
        exact key _
  ·
   exact ih
theorem rd_prK (K:Kor) (t:Tgg) (D:List Nat):RdB 1 K (prK K t D).1:=fun N hN h=>by
 unfold prK
 show Rdn (N+1) { K with s:=(prF K.tl K.s K.r t D).1,r:=wrap64 (K.r+(prF K.tl K.s K.r t D).2.1),hR:=cntF K.hR (t.p / 8:Nat) (prF K.tl K.s K.r t D).2.1 }
 have hw:=fun b=>wrN_reads K.s t.p (wordOf D (body t.p t.o t.q t.c t.l)) b 4
 have h0:∀ (s:Chp) (r:Int),(∀ b,(s.bl b).reads=(K.s.bl b).reads)->Rdn (N+1) { K with s:=s,r:=r,hR:=cntF K.hR (t.p / 8:Nat) (0:Nat) }:=fun s r hs b hb=>by
  obtain⟨a1,a2,a3⟩:=h b hb
  show 0<=(s.bl b).reads/\(s.bl b).reads<=_/\cntF K.hR (t.p / 8:Nat) (0:Nat) b=min (s.bl b).reads 65535
  rw[hs b]
  refine⟨a1,by omega,?_⟩
  unfold cntF
  split
  ·
   rename_i c
   rw[Int.toNat_natCast]
   unfold upd
   split
   ·
    rename_i e;rw[<-e,a3];omega
   ·
    exact a3
  ·
   exact a3
 unfold prF
 generalize wrN K.s t.p (wordOf D (body t.p t.o t.q t.c t.l)) 4=X at *
 dsimp only
 split
 ·
  exact h0 _ _ hw
 ·
  by_cases hp:t.p<96
  ·
   cases hon:X.1.on
   ·
    rw[rdF_off hp hon]
    rw[if_pos (show (7:Nat)≠0 by decide)]
    exact h0 _ _ hw
   ·
    rw[rdF_on hp hon]
    rw[if_neg (show ¬ (0:Nat)≠0 by decide)]
    refine h.one hN hp (fun b=>?_) rfl
    show ((rdS X.1 t.p).bl b).reads=_
    rw[rdS_reads,hw b]
  ·
   have e:rdF K.tl X.1 K.r t.p=(X.1,K.r,Pg.zero,1):=by
    unfold rdF
    have e:readV X.1 t.p=(X.1,[],1):=by unfold readV;rw[if_pos (by omega)]
    rw[e]
    rfl
   rw[e,if_pos (show (1:Nat)≠0 by decide)]
   exact h0 _ _ hw
end Go.Proofs.YtbhbilcieodbhaaGreat
/-
  A page that is programmed anew, and counts; a block that is erased: how a core stands then. No condition: lemmas.
-/
namespace Go.Proofs.YtbhbilcieodbhaaGreat
set_option maxRecDepth 100000
open Go.RowKit
theorem Wf.cnt {K:Kor} (h:Wf K) {s:Chp} (hs:s.Ok) (r:Int) (b n:Int):Wf { K with s:=s,r:=wrap64 r,hR:=cntF K.hR b n }:=
 ⟨hs,⟨wrap64_lo _,wrap64_hi _⟩,h.frm,h.map,h.vs,h.vp,h.vc,h.fl,h.nx,h.fr,h.cu,h.qu,Okh.cnt h.hea b n,h.tl⟩
theorem rdK_on {K:Kor} (h:Wf K) {p:Nat} (hp:p<96) (hon:K.s.on=true) :
 ∃ K',rdK K p=(K',K.tl (pgTo K.s p 4) p,0)/\Alk K K'/\Wf K'/\K'={ K with s:=rdS K.s p,r:=wrap64 (K.r+1),hR:=cntF K.hR (p / 8:Nat) 1 }:=by
 refine⟨{ K with s:=rdS K.s p,r:=wrap64 (K.r+1),hR:=cntF K.hR (p / 8:Nat) 1 },?_,⟨rfl,rfl,rfl,rfl,rfl,rfl,rfl,rfl,rfl,rfl,rfl,rfl,⟨rfl,rfl,rfl,rfl,rfl,rfl⟩⟩,h.cnt (rdS_ok h.chip _) _ _ _,rfl⟩
 unfold rdK
 rw[rdF_on hp hon]
 rfl
theorem prK_ends {K:Kor} (h:Wf K) {T:Tab} (hR:Rep K.s T) {t:Tgg} {D:List Nat} (hp:t.p<96) (hE:Ent t.p t D) (hon:K.s.on=true) (hB:Erd K.s t.p) :
 ∃ s' r' R',(prK K t D).1={ K with s:=s',r:=r',hR:=R' }/\Wf { K with s:=s',r:=r',hR:=R' } /\
  (((prK K t D).2=0/\PgD K.s s' T t D)\/((prK K t D).2=8/\PgN K.s s' T t true)\/((prK K t D).2=7/\PgN K.s s' T t false)):=by
 have hx:=prF_ends h.tl h.chip hR hp hE hon hB K.r
 unfold prK
 generalize prF K.tl K.s K.r t D=P at *
 obtain⟨P1,P2,P3⟩:=P
 dsimp only at hx ⊢
 have hOk:P1.Ok:=by
  rcases hx with ⟨_,_,k⟩ | ⟨_,_,k⟩ | ⟨_,_,k⟩ <;> exact k.ok
 refine⟨P1,wrap64 (K.r+P2),cntF K.hR (t.p / 8:Nat) P2,rfl,h.cnt hOk _ _ _,?_⟩
 rcases hx with ⟨e,_,k⟩ | ⟨e,_,k⟩ | ⟨e,_,k⟩ <;> rw[e]
 ·
  exact Or.inl ⟨rfl,k⟩
 ·
  exact Or.inr (Or.inl ⟨rfl,k⟩)
 ·
  exact Or.inr (Or.inr ⟨rfl,k⟩)
theorem frK_ends {K:Kor} (h:Wf K) (hsp:K.sp=false) (hnx:K.nx<mxS) {T:Tab} (hR:Rep K.s T) (hon:K.s.on=true) {p o:Nat} (hp:p<96) (ho:o<25) (hf:o=24\/p % 8<6) (hB:Erd K.s p) (H:Hol) {D:List Nat} (hD:H { K with nx:=K.nx+1 } K.nx=D) (hl:D.length=174) (hb:Bys D) :
 ∃ s' r' R',Wf { K with s:=s',r:=r',hR:=R',nx:=K.nx+1 } /\
  ((frK H K p o=(if o=24 then ntK { K with s:=s',r:=r',hR:=R',nx:=K.nx+1 } else { K with s:=s',r:=r',hR:=R',nx:=K.nx+1 },⟨p,o,K.nx,0,false⟩,0)/\PgD K.s s' T ⟨p,o,K.nx,0,false⟩ D) \/
   (frK H K p o=({ K with s:=s',r:=r',hR:=R',nx:=K.nx+1 },tg0,8)/\PgN K.s s' T ⟨p,o,K.nx,0,false⟩ true) \/
   (frK H K p o=({ K with s:=s',r:=r',hR:=R',nx:=K.nx+1 },tg0,7)/\PgN K.s s' T ⟨p,o,K.nx,0,false⟩ false)):=by
 have e:sqK K={ K with nx:=K.nx+1 }:=by
  unfold sqK
  have e1:decide (K.nx=mxS)=K.sp:=by rw[hsp];exact decide_eq_false (by omega)
  have e2:min (K.nx+1) mxS=K.nx+1:=by omega
  rw[e1,e2]
 have w1:Wf { K with nx:=K.nx+1 }:=by rw[<-e];exact h.sq
 have hn:=h.nx
 have hM:May (p:Nat) (o:Nat) (K.nx:Nat) ((0:Nat):Int) false:=by
  unfold mxS at hnx
  refine⟨⟨by omega,by omega,by omega,by omega⟩,?_⟩
  by_cases e24:o=24
  ·
   exact Or.inl ⟨by omega,rfl⟩
  ·
   have:=hf.resolve_left e24
   exact Or.inr ⟨by omega,by omega⟩
 have hE:Ent p ⟨p,o,K.nx,0,false⟩ D:=⟨rfl,hM,hl,hb⟩
 obtain⟨s',r',R',h1,h2,h3⟩:=prK_ends (K:={ K with nx:=K.nx+1 }) w1 hR (t:=⟨p,o,K.nx,0,false⟩) hp hE hon hB
 refine⟨s',r',R',h2,?_⟩
 have e0:frK H K p o=if (prK (sqK K) ⟨p,o,K.nx,0,false⟩ (H (sqK K) K.nx)).2≠0 then ((prK (sqK K) ⟨p,o,K.nx,0,false⟩ (H (sqK K) K.nx)).1,tg0,(prK (sqK K) ⟨p,o,K.nx,0,false⟩ (H (sqK K) K.nx)).2) else (if o=24 then ntK (prK (sqK K) ⟨p,o,K.nx,0,false⟩ (H (sqK K) K.nx)).1 else (prK (sqK K) ⟨p,o,K.nx,0,false⟩ (H (sqK K) K.nx)).1,⟨p,o,K.nx,0,false⟩,0):=by
  unfold frK
  rw[if_neg (by rw[hsp];decide)]
 rw[e0,e,hD]
 clear e0
 generalize prK { K with nx:=K.nx+1 } ⟨p,o,K.nx,0,false⟩ D=P at *
 obtain⟨P1,P2⟩:=P
 dsimp only at h1 h3 ⊢
 subst h1
 rcases h3 with ⟨rfl,k⟩ | ⟨rfl,k⟩ | ⟨rfl,k⟩
 ·
  left
  exact⟨by rw[if_neg (by decide)],k⟩
 ·
  right;left
  exact⟨by rw[if_pos (by decide)],k⟩
 ·
  right;right
  exact⟨by rw[if_pos (by decide)],k⟩
theorem own_none' {L:Nat->Int} {q:Int} (h:∀ o,o<25->L o≠q):Pmap.own L q = -1:=Pmap.own_none h
section
variable {K:Kor} {G:Gho} {X:Nat->Prop}
structure Spot (K:Kor) (p:Nat):Prop where
 lt:p<96
 F:K.F (p / 8)=1\/K.F (p / 8)=2
 fr:K.fr.o=true->K.fr.k=p / 8->p % 8<K.fr.i
 er:Erd K.s p
theorem Spot.free {p:Nat} (h:Spot K p) (hs:Sit K G X):∀ o,o<25->K.L o≠(p:Int):=fun o ho e=>by
 have hL:K.L o≠-1:=by rw[e];omega
 obtain⟨l,D,hl⟩:=hs.liv o ho hL
 have h1:=hl.tab
 rw[e,Int.toNat_natCast,h.er.tab hs.rep] at h1
 cases h1
theorem setT_at (T:Tab) (p:Nat) (t:Tgg) (D:List Nat):setT T p t D p=some (t,D):=by unfold setT;rw[if_pos rfl]
theorem setT_ne (T:Tab) {p x:Nat} (t:Tgg) (D:List Nat) (h:x≠p):setT T p t D x=T x:=by unfold setT;rw[if_neg h]
theorem setT_or {T:Tab} {p x:Nat} {t u:Tgg} {D C:List Nat} (h:setT T p t D x=some (u,C)):(x=p/\u=t/\C=D)\/(x≠p/\T x=some (u,C)):=by
 unfold setT at h
 split at h
 ·
  rename_i e
  injection h with h
  injection h with h1 h2
  exact Or.inl ⟨e,h1.symm,h2.symm⟩
 ·
  rename_i e
  exact Or.inr ⟨e,h⟩
def updN {α:Type} (f:Nat->α) (n:Nat) (v:α):Nat->α:=fun j=>if j=n then v else f j
theorem Sit.put (h:Sit K G X) {o p:Nat} {D:List Nat} (ho:o<24) {s':Chp} (k:PgD K.s s' G.T ⟨p,o,K.nx,0,false⟩ D) (hS:Spot K p) (h6:p % 8<6) (h24:K.L 24≠-1) {r':Int} {R':Nat->Int} (wf:Wf { K with s:=s',r:=r',hR:=R',nx:=K.nx+1 }) :
 Sit { K with s:=s',r:=r',hR:=R',nx:=K.nx+1,vs:=upd K.vs o K.nx,vc:=upd K.vc o 0,L:=upd K.L o p } { G with T:=setT G.T p ⟨p,o,K.nx,0,false⟩ D,a:=updN G.a o D,z:=fun x=>x≠o/\G.z x } X:=by
 have hfree:=hS.free h
 have hTn:=hS.er.tab h.rep
 have hn1:=h.wf.nx
 have hL:∀ x,x≠o->upd K.L o p x=K.L x:=fun x hx=>by unfold upd;rw[if_neg hx]
 have hv:∀ x,x≠o->upd K.vs o K.nx x=K.vs x:=fun x hx=>by unfold upd;rw[if_neg hx]
 have hc:∀ x,x≠o->upd K.vc o 0 x=K.vc x:=fun x hx=>by unfold upd;rw[if_neg hx]
 have hLo:upd K.L o p o=(p:Int):=by unfold upd;rw[if_pos rfl]
 have hvo:upd K.vs o K.nx o=K.nx:=by unfold upd;rw[if_pos rfl]
 have hco:upd K.vc o 0 o=0:=by unfold upd;rw[if_pos rfl]
 have hne:∀ x,x<25->K.L x≠-1->(K.L x).toNat≠p:=fun x hx hL e=>hfree x hx (by have:=h.wf.lt hx hL;omega)
 exact {
  wf:=by
   have w1:=wf.ver (i:=o) (q:=K.nx) (c:=0) ⟨hn1.1,hn1.2⟩ (by decide)
   refine w1.map' (h.wf.map.put o ⟨by omega,by have:=hS.lt;omega⟩ (fun _=>by omega) (own_none' hfree)) fun i hi hLi=>?_
   show 1<=upd K.vs o K.nx i
   by_cases e:i=o
   ·
    rw[e,hvo];exact hn1.1
   ·
    rw[hv i e]
    rw[hL i e] at hLi
    exact h.wf.vp i hi hLi
  rep:=k.rep
  sts:=h.sts
  frs:=fun x hx e=>k.oth.erd (by rintro rfl;rcases hS.F with f | f <;> (rw[f] at e;exact absurd e (by decide))) (h.frs x hx e)
  opn:=h.opn
  frn:=fun e i hi h8=>k.oth.erd (fun e2=>by
   have e3:8*K.fr.k+i=p:=e2
   have h8':i<8:=h8
   have h1:K.fr.k=p / 8:=by omega
   have h2:=hS.fr e h1
   have h3:K.fr.i<=i:=hi
   omega) (h.frn e i hi h8)
  liv:=fun x hx hLx=>by
   by_cases e:x=o
   ·
    subst e
    refine⟨false,D,⟨?_,fun e=>(by cases e),fun _=>?_,?_,fun _=>?_⟩⟩
    ·
     show setT G.T p _ D (upd K.L x p x).toNat=some (⟨(upd K.L x p x).toNat,x,upd K.vs x K.nx x,upd K.vc x 0 x,false⟩,D)
     rw[hLo,hvo,hco,Int.toNat_natCast,setT_at]
    ·
     show D=if x=24 then Point.wrL G.c else updN G.a x D x
     rw[if_neg (by omega)]
     unfold updN
     rw[if_pos rfl]
    ·
     show Gh s' (upd K.L x p x).toNat
     rw[hLo,Int.toNat_natCast]
     exact k.gd.gh
    ·
     show Gd s' (upd K.L x p x).toNat
     rw[hLo,Int.toNat_natCast]
     exact k.gd
   ·
    have hLx':K.L x≠-1:=by rw[<-hL x e];exact hLx
    obtain⟨l,C,hl⟩:=h.liv x hx hLx'
    refine⟨l,C,⟨?_,fun z=>⟨e,hl.lost z⟩,fun z=>?_,?_,fun z=>?_⟩⟩
    ·
     show setT G.T p _ D (upd K.L o p x).toNat=some (⟨(upd K.L o p x).toNat,x,upd K.vs o K.nx x,upd K.vc o 0 x,l⟩,C)
     rw[hL x e,hv x e,hc x e,setT_ne _ _ _ (hne x hx hLx')]
     exact hl.tab
    ·
     show C=if x=24 then Point.wrL G.c else updN G.a o D x
     unfold updN
     rw[if_neg e]
     exact hl.data z
    ·
     show Gh s' (upd K.L o p x).toNat
     rw[hL x e]
     exact k.oth.gh (hne x hx hLx') hl.gh
    ·
     show Gd s' (upd K.L o p x).toNat
     rw[hL x e]
     exact k.oth.gd (hne x hx hLx') (hl.gd fun z2=>z ⟨e,z2⟩)
  nul:=fun x hx e=>by
   show updN G.a o D x=_
   have hxo:x≠o:=by
    rintro rfl
    have e2:upd K.L x p x = -1:=e
    rw[hLo] at e2
    omega
   unfold updN
   rw[if_neg hxo]
   have e2:upd K.L o p x = -1:=e
   rw[hL x hxo] at e2
   exact h.nul x hx e2
  blk:=fun x hx e=>by
   show K.F ((upd K.L o p x).toNat / 8)≠0/\(K.F ((upd K.L o p x).toNat / 8)=3->K.dd=true)
   by_cases ex:x=o
   ·
    subst ex
    rw[hLo,Int.toNat_natCast]
    rcases hS.F with f | f <;> rw[f] <;> exact⟨by decide,fun e=>absurd e (by decide)⟩
   ·
    rw[hL x ex]
    have e2:upd K.L o p x≠-1:=e
    rw[hL x ex] at e2
    exact h.blk x hx e2
  flo:=fun x hx e=>by
   show K.fl x<((upd K.vs o K.nx x:Nat):Int)
   by_cases ex:x=o
   ·
    subst ex
    rw[hvo]
    exact h.fls x hx
   ·
    rw[hv x ex]
    have e2:upd K.L o p x≠-1:=e
    rw[hL x ex] at e2
    exact h.flo x hx e2
  old:=fun x t C hT hcd=>by
   show upd K.L o p t.o≠-1/\(t.q<upd K.vs o K.nx t.o\/t.q=upd K.vs o K.nx t.o/\((x:Int)=upd K.L o p t.o\/t.c=(upd K.vc o 0 t.o+1) % 256/\G.c.B (x / 8)=false/\(K.F (x / 8)=3\/X (x / 8))))
   rcases setT_or hT with ⟨rfl,rfl,rfl⟩ | ⟨hx,hT2⟩
   ·
    rw[hLo,hvo]
    exact⟨by omega,Or.inr ⟨rfl,Or.inl rfl⟩⟩
   ·
    by_cases e:t.o=o
    ·
     rw[e,hLo,hvo]
     exact⟨by omega,Or.inl (h.seq x t C hT2)⟩
    ·
     rw[hL _ e,hv _ e,hc _ e]
     exact h.old x t C hT2 hcd
  seq:=fun x t C hT=>by
   show t.q<K.nx+1
   rcases setT_or hT with ⟨rfl,rfl,rfl⟩ | ⟨hx,hT2⟩
   ·
    exact Nat.lt_succ_self _
   ·
    exact Nat.lt_succ_of_lt (h.seq x t C hT2)
  fls:=fun x hx=>by
   show K.fl x<((K.nx+1:Nat):Int)
   have:=h.fls x hx
   omega
  sp:=h.sp
  dds:=h.dds
  cb:=h.cb
  cf:=h.cf
  cn:=by
   show upd K.L o p 24≠-1->G.c.N=(upd K.vs o K.nx 24:Nat)/\_
   rw[hL 24 (by omega),hv 24 (by omega)]
   exact h.cn
  nw:=fun e=>by
   have e2:upd K.L o p 24 = -1:=e
   rw[hL 24 (by omega)] at e2
   exact absurd e2 h24
  z24:=fun e=>h.z24 e.2
  lb:=fun x hx hLx=>by
   show G.c.B ((upd K.L o p x).toNat / 8)=false
   by_cases e:x=o
   ·
    rw[e,hLo,Int.toNat_natCast]
    cases e4:G.c.B (p / 8)
    ·
     rfl
    ·
     have:=h.cb (p / 8) (by have:=hS.lt;omega) e4
     rcases hS.F with f | f <;> (rw[f] at this;exact absurd this (by decide))
   ·
    rw[hL x e]
    exact h.lb x hx (by have h9:upd K.L o p x≠-1:=hLx;rw[hL x e] at h9;exact h9) }
end
end Go.Proofs.YtbhbilcieodbhaaGreat
/-
  A checkpoint that is programmed anew, and counts: how a core stands then. No condition: lemmas.
-/
namespace Go.Proofs.YtbhbilcieodbhaaGreat
set_option maxRecDepth 100000
open Go.RowKit
section
variable {K:Kor} {G:Gho} {X:Nat->Prop}
theorem Sit.note (h:Sit K G X) {p:Nat} {c:Point.Ckp} {s':Chp} (k:PgD K.s s' G.T ⟨p,24,K.nx,0,false⟩ (Point.wrL c)) (hS:Spot K p) (hdd:K.dd=false)
 {r':Int} {R' N':Nat->Int} {fl' L':Nat->Int} {a':Nat->List Nat} (wf:Wf { K with s:=s',r:=r',hR:=R',hN:=N',ca:=0,nx:=K.nx+1,vs:=upd K.vs 24 K.nx,vc:=upd K.vc 24 0,L:=L',fl:=fl' })
 (hL24:L' 24=p) (hl:∀ i,i<24->(L' i=K.L i/\fl' i=K.fl i/\a' i=G.a i)\/(L' i = -1/\K.L i≠-1/\fl' i=K.vs i/\a' i=List.replicate 174 0))
 (cB:∀ b,b<12->(c.B b=true<->K.F b=3)) (cF:∀ i,i<24->c.F i=fl' i) (cN:c.N=K.nx) (cC:c.C=K.cu) (cT:Point.Tld c) :
 Sit { K with s:=s',r:=r',hR:=R',hN:=N',ca:=0,nx:=K.nx+1,vs:=upd K.vs 24 K.nx,vc:=upd K.vc 24 0,L:=L',fl:=fl' } { G with T:=setT G.T p ⟨p,24,K.nx,0,false⟩ (Point.wrL c),c:=c,a:=a' } X:=by
 have hfree:=hS.free h
 have hTn:=hS.er.tab h.rep
 have hv:∀ x,x≠24->upd K.vs 24 K.nx x=K.vs x:=fun x hx=>by unfold upd;rw[if_neg hx]
 have hc:∀ x,x≠24->upd K.vc 24 0 x=K.vc x:=fun x hx=>by unfold upd;rw[if_neg hx]
 have hvo:upd K.vs 24 K.nx 24=K.nx:=by unfold upd;rw[if_pos rfl]
 have hco:upd K.vc 24 0 24=0:=by unfold upd;rw[if_pos rfl]
 have hne:∀ x,x<25->K.L x≠-1->(K.L x).toNat≠p:=fun x hx hL e=>hfree x hx (by have:=h.wf.lt hx hL;omega)
 have hlv:∀ x,x<24->L' x≠-1->L' x=K.L x/\fl' x=K.fl x/\a' x=G.a x:=fun x hx e=>(hl x hx).elim id fun e2=>absurd e2.1 e
 exact {
  wf:=wf
  rep:=k.rep
  sts:=h.sts
  frs:=fun x hx e=>k.oth.erd (by rintro rfl;rcases hS.F with f | f <;> (rw[f] at e;exact absurd e (by decide))) (h.frs x hx e)
  opn:=h.opn
  frn:=fun e i hi h8=>k.oth.erd (fun e2=>by
   have e3:8*K.fr.k+i=p:=e2
   have h8':i<8:=h8
   have h1:K.fr.k=p / 8:=by omega
   have h2:=hS.fr e h1
   have h3:K.fr.i<=i:=hi
   omega) (h.frn e i hi h8)
  liv:=fun x hx hLx=>by
   by_cases e:x=24
   ·
    subst e
    refine⟨false,Point.wrL c,⟨?_,fun e=>(by cases e),fun _=>rfl,?_,fun _=>?_⟩⟩
    ·
     show setT G.T p _ _ (L' 24).toNat=some (⟨(L' 24).toNat,24,upd K.vs 24 K.nx 24,upd K.vc 24 0 24,false⟩,_)
     rw[hL24,hvo,hco,Int.toNat_natCast,setT_at]
    ·
     show Gh s' (L' 24).toNat
     rw[hL24,Int.toNat_natCast]
     exact k.gd.gh
    ·
     show Gd s' (L' 24).toNat
     rw[hL24,Int.toNat_natCast]
     exact k.gd
   ·
    obtain⟨e1,e2,e3⟩:=hlv x (by omega) hLx
    have hLx':K.L x≠-1:=by rw[<-e1];exact hLx
    obtain⟨l,C,hl⟩:=h.liv x hx hLx'
    refine⟨l,C,⟨?_,hl.lost,fun z=>?_,?_,fun z=>?_⟩⟩
    ·
     show setT G.T p _ _ (L' x).toNat=some (⟨(L' x).toNat,x,upd K.vs 24 K.nx x,upd K.vc 24 0 x,l⟩,C)
     rw[e1,hv x e,hc x e,setT_ne _ _ _ (hne x hx hLx')]
     exact hl.tab
    ·
     have:=hl.data z
     rw[if_neg e] at this
     show C=if x=24 then Point.wrL c else a' x
     rw[if_neg e,e3]
     exact this
    ·
     show Gh s' (L' x).toNat
     rw[e1]
     exact k.oth.gh (hne x hx hLx') hl.gh
    ·
     show Gd s' (L' x).toNat
     rw[e1]
     exact k.oth.gd (hne x hx hLx') (hl.gd z)
  nul:=fun x hx e=>by
   rcases hl x hx with ⟨e1,_,e3⟩ | ⟨_,_,_,e3⟩
   ·
    show a' x=_
    rw[e3]
    exact h.nul x hx (e1.symm.trans e)
   ·
    exact e3
  blk:=fun x hx e=>by
   show K.F ((L' x).toNat / 8)≠0/\(K.F ((L' x).toNat / 8)=3->K.dd=true)
   by_cases ex:x=24
   ·
    subst ex
    rw[hL24,Int.toNat_natCast]
    rcases hS.F with f | f <;> rw[f] <;> exact⟨by decide,fun e=>absurd e (by decide)⟩
   ·
    obtain⟨e1,_⟩:=hlv x (by omega) e
    rw[e1]
    exact h.blk x hx (by rw[<-e1];exact e)
  flo:=fun x hx e=>by
   show fl' x<((upd K.vs 24 K.nx x:Nat):Int)
   obtain⟨e1,e2,_⟩:=hlv x hx e
   rw[hv x (by omega),e2]
   exact h.flo x hx (by rw[<-e1];exact e)
  old:=fun x t C hT hcd=>by
   show L' t.o≠-1/\(t.q<upd K.vs 24 K.nx t.o\/t.q=upd K.vs 24 K.nx t.o/\((x:Int)=L' t.o\/t.c=(upd K.vc 24 0 t.o+1) % 256/\c.B (x / 8)=false/\(K.F (x / 8)=3\/X (x / 8))))
   rcases setT_or hT with ⟨rfl,rfl,rfl⟩ | ⟨hx,hT2⟩
   ·
    show L' 24≠-1/\_
    rw[hL24]
    exact⟨by omega,Or.inr ⟨hvo.symm,Or.inl rfl⟩⟩
   ·
    have hent:=h.rep.ent x t C hT2
    by_cases e:t.o=24
    ·
     rw[e,hL24,hvo]
     exact⟨by omega,Or.inl (h.seq x t C hT2)⟩
    ·
     have ho24:t.o<24:=by
      have:=hent.2.may.1.2.1
      omega
     obtain⟨hcB,hfl⟩:=hcd.resolve_left e
     have hcB2:c.B (x / 8)=false:=hcB
     have hfl2:fl' t.o<t.q:=hfl
     have hF3:K.F (x / 8)≠3:=fun e3=>by
      rw[(cB (x / 8) (by omega)).2 e3] at hcB2
      cases hcB2
     have hGB:G.c.B (x / 8)=false:=by
      cases e4:G.c.B (x / 8)
      ·
       rfl
      ·
       exact absurd (h.cb (x / 8) (by omega) e4) hF3
     rcases hl t.o ho24 with ⟨e1,e2,_⟩ | ⟨e1,e2,e3,_⟩
     ·
      have:=h.old x t C hT2 (Or.inr ⟨hGB,by rw[<-e2];exact hfl2⟩)
      rw[hv _ e,hc _ e,e1]
      exact⟨this.1,this.2.imp id fun ⟨u,v⟩=>⟨u,v.imp id fun ⟨v1,_,v3⟩=>⟨v1,hcB2,v3⟩⟩⟩
     ·
      have hflo:=h.flo t.o ho24 e2
      have:=h.old x t C hT2 (Or.inr ⟨hGB,by omega⟩)
      rcases this.2 with h5 | h5 <;> omega
  seq:=fun x t C hT=>by
   show t.q<K.nx+1
   rcases setT_or hT with ⟨rfl,rfl,rfl⟩ | ⟨hx,hT2⟩
   ·
    exact Nat.lt_succ_self _
   ·
    exact Nat.lt_succ_of_lt (h.seq x t C hT2)
  fls:=fun x hx=>by
   show fl' x<((K.nx+1:Nat):Int)
   rcases hl x hx with ⟨_,e2,_⟩ | ⟨_,e1,e2,_⟩
   ·
    rw[e2]
    have:=h.fls x hx
    omega
   ·
    rw[e2]
    obtain⟨l,D,hlv⟩:=h.liv x (by omega) e1
    have:=h.seq _ _ _ hlv.tab
    have h5:K.vs x<K.nx:=this
    omega
  sp:=h.sp
  dds:=h.dds
  cb:=fun b hb e=>(cB b hb).1 e
  cf:=cF
  cn:=fun _=>by
   show c.N=((upd K.vs 24 K.nx 24:Nat):Int)/\(c.C+8*((0:Nat):Int)) % 96=(K.cu:Int)/\Point.Tld c
   rw[hvo]
   have:=h.wf.cu
   exact⟨cN,by rw[cC];omega,cT⟩
  nw:=fun e=>by
   have e2:L' 24 = -1:=e
   rw[hL24] at e2
   omega
  z24:=h.z24
  lb:=fun x hx hLx=>by
   show c.B ((L' x).toNat / 8)=false
   by_cases e:x=24
   ·
    rw[e,hL24,Int.toNat_natCast]
    cases e4:c.B (p / 8)
    ·
     rfl
    ·
     have:=(cB (p / 8) (by have:=hS.lt;omega)).1 e4
     rcases hS.F with f | f <;> (rw[f] at this;exact absurd this (by decide))
   ·
    obtain⟨e1,_,_⟩:=hlv x (by omega) hLx
    rw[e1]
    have hLx':K.L x≠-1:=by rw[<-e1];exact hLx
    cases e4:c.B ((K.L x).toNat / 8)
    ·
     rfl
    ·
     have h7:=(h.wf.lt hx hLx').1
     have:=(h.blk x hx hLx').2 ((cB _ (by omega)).1 e4)
     rw[hdd] at this
     cases this }
end
end Go.Proofs.YtbhbilcieodbhaaGreat
/-
  What counts in a block is copied: how a core stands then. No condition: lemmas.
-/
namespace Go.Proofs.YtbhbilcieodbhaaGreat
set_option maxRecDepth 100000
open Go.RowKit
theorem of_ordK {L:Nat->Int} (h:Pmap.Okl L) (b:Nat):∀ k,(∀ o ∈ (Pmap.ofK L b k).map Int.toNat,o<25/\(8*b:Nat)<=L o/\L o<(8*b+k:Nat))/\((Pmap.ofK L b k).map Int.toNat).Pairwise (fun x y=>L x<L y)/\(∀ o,o<25->(8*b:Nat)<=L o->L o<(8*b+k:Nat)->o ∈ (Pmap.ofK L b k).map Int.toNat):=by
 intro k
 induction k with
 | zero=>exact⟨fun o ho=>(by cases ho),List.Pairwise.nil,fun o _ h1 h2=>by omega⟩
 | succ k ih=>
  obtain⟨h1,h2,h3⟩:=ih
  unfold Pmap.ofK
  rw[List.map_append]
  rcases Pmap.own_spec L ((8*b+k:Nat):Int) with ⟨i,hi,e,hL,_⟩ | ⟨e,hn⟩
  ·
   rw[if_neg (by rw[e];omega),e]
   have em:List.map Int.toNat [((i:Nat):Int)]=[i]:=by simp
   rw[em]
   refine⟨fun o ho=>?_,?_,fun o ho ha hb=>?_⟩
   ·
    rcases List.mem_append.1 ho with ho | ho
    ·
     obtain⟨a1,a2,a3⟩:=h1 o ho
     exact⟨a1,a2,by omega⟩
    ·
     have:o=i:=by simpa using ho
     subst this
     exact⟨hi,by omega,by omega⟩
   ·
    rw[List.pairwise_append]
    refine⟨h2,List.pairwise_singleton _ _,fun x hx y hy=>?_⟩
    have:y=i:=by simpa using hy
    subst this
    have:=(h1 x hx).2.2
    omega
   ·
    by_cases e2:L o<(8*b+k:Nat)
    ·
     exact List.mem_append_left _ (h3 o ho ha e2)
    ·
     have:o=i:=h.inj o i ho hi (by omega) (by omega)
     exact List.mem_append_right _ (by simp[this])
  ·
   rw[if_pos e]
   simp only[List.map_nil,List.append_nil]
   refine⟨fun o ho=>?_,h2,fun o ho ha hb=>?_⟩
   ·
    obtain⟨a1,a2,a3⟩:=h1 o ho
    exact⟨a1,a2,by omega⟩
   ·
    have:=hn o ho
    exact h3 o ho ha (by omega)
theorem of_ord {L:Nat->Int} (h:Pmap.Okl L) (b:Nat):(∀ o ∈ (Pmap.ofL L b).map Int.toNat,o<25/\L o≠-1/\(L o).toNat / 8=b)/\((Pmap.ofL L b).map Int.toNat).Pairwise (fun x y=>L x<L y)/\(∀ o,o<25->L o≠-1->(L o).toNat / 8=b->o ∈ (Pmap.ofL L b).map Int.toNat):=by
 obtain⟨h1,h2,h3⟩:=of_ordK h b 8
 refine⟨fun o ho=>?_,h2,fun o ho hL e=>?_⟩
 ·
  obtain⟨a1,a2,a3⟩:=h1 o ho
  exact⟨a1,by omega,by omega⟩
 ·
  have:=(h.rng o ho).resolve_left hL
  exact h3 o ho (by omega) (by omega)
section
variable {K:Kor} {G:Gho} {X:Nat->Prop}
end
end Go.Proofs.YtbhbilcieodbhaaGreat
/-
  The two ends of a move, as the core does them: how it stands then. No condition: lemmas.
-/
namespace Go.Proofs.YtbhbilcieodbhaaGreat
set_option maxRecDepth 100000
open Go.RowKit
def Told (K:Kor) (G:Gho):Prop:=∀ b,b<12->K.F b=3->G.c.B b=true
section
variable {K:Kor} {G:Gho} {X:Nat->Prop} {S:Shf}
end
end Go.Proofs.YtbhbilcieodbhaaGreat
/-
  How many reads the steps of a move make. No condition: lemmas.
-/
namespace Go.Proofs.YtbhbilcieodbhaaGreat
set_option maxRecDepth 100000
open Go.RowKit
theorem rd_layK (K:Kor) (t:Tgg):RdB 0 K (layK K t).1:=RdB.same (fun _=>rfl) rfl
theorem rd_coK (K:Kor) (o:Nat):RdB 1 K (coK K o).1:=by
 unfold coK
 split
 ·
  exact(RdB.refl K).mono (by omega)
 ·
  have:=rd_rdK K (K.L o).toNat
  generalize rdK K (K.L o).toNat=x at *
  dsimp only
  split
  ·
   exact this
  ·
   split
   ·
    exact this
   ·
    split <;> exact this
theorem rd_frK (H:Hol) (K:Kor) (p o:Nat):RdB 1 K (frK H K p o).1:=by
 unfold frK
 split
 ·
  exact(RdB.refl K).mono (by omega)
 ·
  have h1:RdB 0 K (sqK K):=RdB.same (fun _=>rfl) rfl
  have h2:=rd_prK (sqK K) ⟨p,o,K.nx,0,false⟩ (H (sqK K) K.nx)
  generalize prK (sqK K) ⟨p,o,K.nx,0,false⟩ (H (sqK K) K.nx)=x at *
  dsimp only
  split
  ·
   exact h1.trans h2
  ·
   split
   ·
    exact(h1.trans h2).trans (RdB.same (fun _=>rfl) rfl)
   ·
    exact h1.trans h2
end Go.Proofs.YtbhbilcieodbhaaGreat
/-
  A try of a move: how a core stands behind it. No condition: lemmas.
-/
namespace Go.Proofs.YtbhbilcieodbhaaGreat
set_option maxRecDepth 100000
open Go.RowKit
def Rm (j:Nat) (K:Kor):Prop:=5+j<=fre K.F+2*bad3 K.F
end Go.Proofs.YtbhbilcieodbhaaGreat
/-
  Room is made for a page: how a core stands then. Condition: moves are done as they are to be.
-/
namespace Go.Proofs.YtbhbilcieodbhaaGreat
set_option maxRecDepth 100000
open Go.RowKit
theorem rm_is (s:Front.St) {o:Nat} (ho:o<25):Front.rmV s o=true<->s.o=true/\s.i<8/\(o=24\/s.i<6):=by
 unfold Front.rmV Front.nxC
 rw[decide_eq_true_iff,if_neg (by omega)]
 cases s.o
 ·
  simp
 ·
  rw[if_neg (by decide)]
  by_cases c:s.i<8/\((o:Int)=24\/s.i<6)
  ·
   rw[if_pos c]
   exact⟨fun _=>⟨rfl,c.1,c.2.imp (fun e=>by omega) id⟩,fun _=>rfl⟩
  ·
   rw[if_neg c]
   refine⟨fun e=>(by cases e),fun e=>absurd ⟨e.2.1,e.2.2.imp (fun x=>by omega) id⟩ c⟩
end Go.Proofs.YtbhbilcieodbhaaGreat
/-
  A page is programmed anew at the frontier, whatever fails: how a core stands then. Condition: moves and the making of room are done as they are to be.
-/
namespace Go.Proofs.YtbhbilcieodbhaaGreat
set_option maxRecDepth 100000
open Go.RowKit
theorem Sit.take {K:Kor} {G:Gho} {X:Nat->Prop} (h:Sit K G X) {o:Nat} (ho25:o<25) (hr:Front.rmV K.fr o=true) :
 Front.nxC K.fr o=0/\(Front.nxV K.fr o).toNat=8*K.fr.k+K.fr.i/\Front.tkS K.fr o=⟨true,K.fr.k,K.fr.i+1⟩/\Sit { K with fr:=⟨true,K.fr.k,K.fr.i+1⟩ } G X/\Spot { K with fr:=⟨true,K.fr.k,K.fr.i+1⟩ } (8*K.fr.k+K.fr.i)/\(o=24\/(8*K.fr.k+K.fr.i) % 8<6)/\K.fr.k<12/\K.F K.fr.k=1:=by
 obtain⟨ho,hi8,hi6⟩:=(rm_is _ ho25).1 hr
 obtain⟨k12,kF⟩:=h.frk ho
 have hnx:Front.nxC K.fr o=0:=by unfold Front.rmV at hr;exact of_decide_eq_true hr
 have hs:Sit { K with fr:=⟨true,K.fr.k,K.fr.i+1⟩ } G X:=by
  refine h.reF K.F ⟨true,K.fr.k,K.fr.i+1⟩ K.dd (h.wf.F' (fr:=⟨true,K.fr.k,K.fr.i+1⟩) h.wf.frm ⟨k12,by show K.fr.i+1<9;omega⟩ _) h.sts h.frs (fun b hb=>?_) (fun _ i hi h8=>h.frn ho i (by have:K.fr.i+1<=i:=hi;omega) h8) h.blk (fun _ _ e=>e) (fun _ _ e=>Or.inr e) h.dds
  have:=h.opn b hb
  rw[ho] at this
  exact this
 refine⟨hnx,?_,?_,hs,⟨by omega,Or.inl (by show K.F ((8*K.fr.k+K.fr.i) / 8)=1;rw[show (8*K.fr.k+K.fr.i) / 8=K.fr.k by omega];exact kF),fun _ _=>by show (8*K.fr.k+K.fr.i) % 8<K.fr.i+1;omega,h.frn ho _ (Nat.le_refl _) hi8⟩,hi6.imp id (fun e=>by omega),k12,kF⟩
 ·
  unfold Front.nxV
  rw[if_pos hnx]
  show (((K.fr.k*8+K.fr.i:Nat):Int)).toNat=_
  omega
 ·
  unfold Front.tkS
  rw[if_pos hnx]
  generalize K.fr=st at *
  cases st
  dsimp only at ho
  subst ho
  rfl
structure FrD (H:Hol) (K K1:Kor) (G:Gho) (o p:Nat) (s':Chp) (r':Int) (R':Nat->Int):Prop where
 e:K1={ K with fr:=⟨true,K.fr.k,K.fr.i+1⟩ }
 sit:Sit K1 G (fun _=>False)
 spot:Spot K1 p
 h6:o=24\/p % 8<6
 wf:Wf { K1 with s:=s',r:=r',hR:=R',nx:=K1.nx+1 }
 pg:PgD K1.s s' G.T ⟨p,o,K1.nx,0,false⟩ (H { K1 with nx:=K1.nx+1 } K1.nx)
def FrL (K1:Kor) (o p:Nat) (s':Chp) (r':Int) (R':Nat->Int):Kor × Nat:=layK (if o=24 then ntK { K1 with s:=s',r:=r',hR:=R',nx:=K1.nx+1 } else { K1 with s:=s',r:=r',hR:=R',nx:=K1.nx+1 }) ⟨p,o,K1.nx,0,false⟩
theorem worn_is {K:Kor} {G:Gho} {X:Nat->Prop} (h:Sit K G X):wornK K=K.dd:=by
 unfold wornK
 cases e:K.dd
 ·
  have:¬ 2<bad3 K.F:=fun x=>by have:=h.dds.2 x;rw[e] at this;cases this
  rw[decide_eq_false this]
  rfl
 ·
  rfl
end Go.Proofs.YtbhbilcieodbhaaGreat
/-
  A checkpoint is told between two tries, and so on down: moves, room and pages are done as they are to be, at every number of bad blocks. No condition.
-/
namespace Go.Proofs.YtbhbilcieodbhaaGreat
set_option maxRecDepth 100000
open Go.RowKit
theorem noH_ok:∀ K q,(noH K q).length=174/\Bys (noH K q):=fun _ _=>⟨Point.wrL_length _,Point.wrL_bys _⟩
end Go.Proofs.YtbhbilcieodbhaaGreat
/-
  Pages are looked at, and what is counted beside: how a core and its chip stand behind it. No condition.
-/
namespace Go.Proofs.YtbhbilcieodbhaaGreat
set_option maxRecDepth 100000
open Go.RowKit
structure Eqv (K K':Kor):Prop where
 ch:K'.s.ch=K.s.ch
 F:K'.F=K.F
 L:K'.L=K.L
 vs:K'.vs=K.vs
 vc:K'.vc=K.vc
 fl:K'.fl=K.fl
 nx:K'.nx=K.nx
 sp:K'.sp=K.sp
 fr:K'.fr=K.fr
 dd:K'.dd=K.dd
 cu:K'.cu=K.cu
 ca:K'.ca=K.ca
theorem Eqv.refl (K:Kor):Eqv K K:=⟨rfl,rfl,rfl,rfl,rfl,rfl,rfl,rfl,rfl,rfl,rfl,rfl⟩
theorem Eqv.trans {K K' K'':Kor} (h:Eqv K K') (k:Eqv K' K''):Eqv K K'':=⟨k.ch.trans h.ch,k.F.trans h.F,k.L.trans h.L,k.vs.trans h.vs,k.vc.trans h.vc,k.fl.trans h.fl,k.nx.trans h.nx,k.sp.trans h.sp,k.fr.trans h.fr,k.dd.trans h.dd,k.cu.trans h.cu,k.ca.trans h.ca⟩
theorem Alk.eqv {K K':Kor} (a:Alk K K'):Eqv K K':=⟨a.ch,a.F,a.L,a.vs,a.vc,a.fl,a.nx,a.sp,a.fr,a.dd,a.cu,a.ca⟩
theorem Lvs.eqv {K K':Kor} {G:Gho} {o:Nat} {l:Bool} {D:List Nat} (h:Lvs K G o l D) (a:Eqv K K'):Lvs K' G o l D:=
 ⟨by rw[a.L,a.vs,a.vc];exact h.tab,h.lost,h.data,by rw[a.L];exact h.gh.ch a.ch,by rw[a.L];exact fun z=>(h.gd z).ch a.ch⟩
theorem Sit.eqv {K K':Kor} {G:Gho} {X:Nat->Prop} (h:Sit K G X) (a:Eqv K K') (wf:Wf K'):Sit K' G X where
 wf:=wf
 rep:=h.rep.ch a.ch
 sts:=by rw[a.F];exact h.sts
 frs:=by rw[a.F];exact fun p hp e=>(h.frs p hp e).ch a.ch
 opn:=by rw[a.F,a.fr];exact h.opn
 frn:=by rw[a.fr];exact fun e i hi h8=>(h.frn e i hi h8).ch a.ch
 liv:=fun o ho hL=>by
  rw[a.L] at hL
  obtain⟨l,D,hl⟩:=h.liv o ho hL
  exact⟨l,D,hl.eqv a⟩
 nul:=by rw[a.L];exact h.nul
 blk:=by rw[a.L,a.F,a.dd];exact h.blk
 flo:=by rw[a.L,a.fl,a.vs];exact h.flo
 old:=by unfold Rvl;rw[a.L,a.fl,a.vs,a.vc,a.F];exact h.old
 seq:=by rw[a.nx];exact h.seq
 fls:=by rw[a.nx,a.fl];exact h.fls
 sp:=by rw[a.sp];exact h.sp
 dds:=by rw[a.dd,a.F];exact h.dds
 cb:=by rw[a.F];exact h.cb
 cf:=by rw[a.fl];exact h.cf
 cn:=by rw[a.L,a.vs,a.cu,a.ca];exact h.cn
 nw:=by rw[a.L];exact h.nw
 z24:=h.z24
 lb:=by rw[a.L];exact h.lb
theorem Sit.pstep {K:Kor} {G:Gho} {X:Nat->Prop} (h:Sit K G X):Sit { K with cu:=(K.cu+8) % 96,ca:=K.ca+1 } G X where
 wf:=h.wf.pat' (by omega) _
 rep:=h.rep
 sts:=h.sts
 frs:=h.frs
 opn:=h.opn
 frn:=h.frn
 liv:=fun o ho hL=>by
  obtain⟨l,D,hl⟩:=h.liv o ho hL
  exact⟨l,D,⟨hl.tab,hl.lost,hl.data,hl.gh,hl.gd⟩⟩
 nul:=h.nul
 blk:=h.blk
 flo:=h.flo
 old:=h.old
 seq:=h.seq
 fls:=h.fls
 sp:=h.sp
 dds:=h.dds
 cb:=h.cb
 cf:=h.cf
 cn:=fun e=>by
  obtain⟨h1,h2,h3⟩:=h.cn e
  refine⟨h1,?_,h3⟩
  show (G.c.C+8*(K.ca+1)) % 96=(K.cu+8) % 96
  omega
 nw:=h.nw
 z24:=h.z24
 lb:=h.lb
theorem in_ends {K:Kor} (h:Wf K) {p:Nat} (hp:p<96) (hon:K.s.on=true) :
 (inK K p).2.2=0/\(inK K p).1.s.on=true/\Eqv K (inK K p).1/\Wf (inK K p).1/\(inK K p).2.1=K.tl (pgTo K.s p 4) p/\(inK K p).1.tl=K.tl/\RdB 1 K (inK K p).1:=by
 have hrd:=rd_rdK K p
 obtain⟨K',e,ha,hw,hK⟩:=rdK_on h hp hon
 unfold inK
 rw[e] at hrd ⊢
 dsimp only at hrd ⊢
 have hon':K'.s.on=true:=by rw[hK];exact hon
 rw[if_neg (by simp)]
 by_cases h1:Pmap.own K'.L p = -1
 ·
  rw[if_pos h1]
  exact⟨rfl,hon',ha.eqv,hw,rfl,ha.fx.tl,hrd⟩
 ·
  rw[if_neg h1]
  by_cases h2:(K.tl (pgTo K.s p 4) p).sound=true/\(K.tl (pgTo K.s p 4) p).dmg<2
  ·
   rw[if_pos h2]
   exact⟨rfl,hon',ha.eqv,hw,rfl,ha.fx.tl,hrd⟩
  ·
   rw[if_neg h2]
   have b:=ha.eqv
   refine⟨rfl,hon',⟨b.ch,b.F,b.L,b.vs,b.vc,b.fl,b.nx,b.sp,b.fr,b.dd,b.cu,b.ca⟩,(hw.hR' (Health.Okh.more3 hw.hea _)).qu' (hw.qu.add _),rfl,ha.fx.tl,?_⟩
   have h3:=hrd.trans (RdB.same (K':={ K' with hS:=Health.more 255 K'.hS (p / 8:Nat),qu:=Patrol.adL K'.qu (p / 8:Nat) }) (fun _=>rfl) rfl)
   exact h3
theorem tdI_ends (c:Nat):∀ (n i:Nat) (K:Kor),Wf K->K.s.on=true->(tdI c n i K).2=0/\(tdI c n i K).1.s.on=true/\Eqv K (tdI c n i K).1/\Wf (tdI c n i K).1/\(tdI c n i K).1.tl=K.tl/\RdB n K (tdI c n i K).1:=by
 intro n
 induction n with
 | zero=>intro i K h hon;exact⟨rfl,hon,Eqv.refl K,h,rfl,RdB.refl K⟩
 | succ n ih=>
  intro i K h hon
  obtain⟨e,on,a,w,_,t,r⟩:=in_ends h (p:=(c+i) % 96) (by omega) hon
  rw[tdI,if_neg (by rw[e];simp)]
  obtain⟨e2,on2,a2,w2,t2,r2⟩:=ih (i+1) _ w on
  refine⟨e2,on2,a.trans a2,w2,t2.trans t,?_⟩
  have:=r.trans r2
  rwa [Nat.add_comm 1 n] at this
end Go.Proofs.YtbhbilcieodbhaaGreat
/-
  A checkpoint is told, and what is done behind each call: how a core and its chip stand behind it. No condition.
-/
namespace Go.Proofs.YtbhbilcieodbhaaGreat
set_option maxRecDepth 100000
open Go.RowKit
structure Str (d:Nat) (K K':Kor) (G G':Gho):Prop where
 a:G'.a=G.a
 z:G'.z=G.z
 fl:K'.fl=K.fl
 lv:∀ o,o<24->(K'.L o = -1<->K.L o = -1)
 l24:K.L 24≠-1->K'.L 24≠-1
 vs:∀ o,o<24->K'.vs o=K.vs o
 tl:K'.tl=K.tl
 b3:∀ b,b<12->K.F b=3->K'.F b=3
 bd:bad3 K'.F=bad3 K.F+d
 nx:K.nx<=K'.nx
theorem note_str {K K1:Kor} {G:Gho} {p:Nat} {s':Chp} {r':Int} {R':Nat->Int} (f:FrD noH K K1 G 24 p s' r' R') (hdd:K.dd=false) :
 (FrL K1 24 p s' r' R').2=0/\(FrL K1 24 p s' r' R').1.nx=K.nx+1/\(FrL K1 24 p s' r' R').1.F=K.F/\(FrL K1 24 p s' r' R').1.dd=K.dd/\(FrL K1 24 p s' r' R').1.fr=⟨true,K.fr.k,K.fr.i+1⟩/\(FrL K1 24 p s' r' R').1.L 24≠-1/\(FrL K1 24 p s' r' R').1.ca=0/\∃ G',Sit (FrL K1 24 p s' r' R').1 G' (fun _=>False)/\Told (FrL K1 24 p s' r' R').1 G'/\Str 0 K (FrL K1 24 p s' r' R').1 G G':=by
 obtain⟨e,s1,sp,_,wf,pg⟩:=f
 have hfree:=sp.free s1
 have hlt:=sp.lt
 have hn1:=s1.wf.nx
 have hmay:Pmap.May ((24:Nat):Int) (p:Int):=⟨⟨by omega,by omega⟩,⟨by omega,by omega⟩,Or.inl rfl⟩
 have hc:Pmap.setC K1.L ((24:Nat):Int) (p:Int)=0:=by
  unfold Pmap.setC
  rw[if_neg (fun e=>e hmay),if_neg (by rw[own_none' hfree];simp)]
 have hLL:Pmap.setL K1.L ((24:Nat):Int) (p:Int)=upd K1.L 24 p:=by unfold Pmap.setL;rw[if_pos hc,Int.toNat_natCast]
 have eL:FrL K1 24 p s' r' R'=({ K1 with s:=s',r:=r',hR:=R',hN:=R',ca:=0,nx:=K1.nx+1,vs:=upd K1.vs 24 K1.nx,vc:=upd K1.vc 24 0,L:=upd K1.L 24 p,fl:=K1.fl },0):=by
  unfold FrL layK ntK
  rw[if_pos rfl]
  dsimp only
  rw[hc,hLL]
 rw[eL]
 have w5:Wf { K1 with nx:=K1.nx+1 }:=⟨s1.wf.chip,s1.wf.rr,s1.wf.frm,s1.wf.map,s1.wf.vs,s1.wf.vp,s1.wf.vc,s1.wf.fl,wf.nx,s1.wf.fr,s1.wf.cu,s1.wf.qu,s1.wf.hea,s1.wf.tl⟩
 have hck:=ck_ok w5 (q:=K1.nx) hn1
 have wfin:Wf { K1 with s:=s',r:=r',hR:=R',hN:=R',ca:=0,nx:=K1.nx+1,vs:=upd K1.vs 24 K1.nx,vc:=upd K1.vc 24 0,L:=upd K1.L 24 p,fl:=K1.fl }:=by
  have w1:=(wf.nt).ver (i:=24) (q:=K1.nx) (c:=0) hn1 (by decide)
  refine w1.map' (s1.wf.map.put 24 ⟨by omega,by omega⟩ (fun e=>by omega) (own_none' hfree)) fun i hi hLi=>?_
  show 1<=upd K1.vs 24 K1.nx i
  by_cases e:i=24
  ·
   rw[e];unfold upd;rw[if_pos rfl];exact hn1.1
  ·
   unfold upd
   rw[if_neg e]
   rw[upd_ne _ _ e] at hLi
   exact s1.wf.vp i hi hLi
 have hs:=s1.note (c:=ckK { K1 with nx:=K1.nx+1 } K1.nx) pg sp (by rw[e];exact hdd) (r':=r') (R':=R') (N':=R') (fl':=K1.fl) (L':=upd K1.L 24 p) (a':=G.a) wfin (upd_at _ _ _) (fun i hi=>Or.inl ⟨upd_ne _ _ (by omega),rfl,rfl⟩) (fun b _=>decide_eq_true_iff) (fun _ _=>rfl) rfl rfl hck
 subst e
 refine⟨rfl,rfl,rfl,rfl,rfl,?_,rfl,_,hs,fun b _ e=>decide_eq_true e,⟨rfl,rfl,rfl,fun o ho=>?_,fun _=>?_,fun o ho=>?_,rfl,fun _ _=>id,rfl,Nat.le_succ _⟩⟩
 ·
  show upd K.L 24 p 24≠-1
  rw[upd_at];omega
 ·
  show upd K.L 24 p o = -1<->K.L o = -1
  rw[upd_ne _ _ (by omega)]
 ·
  show upd K.L 24 p 24≠-1
  rw[upd_at];omega
 ·
  show upd K.vs 24 K.nx o=K.vs o
  unfold upd
  rw[if_neg (by omega)]
end Go.Proofs.YtbhbilcieodbhaaGreat
/-
  What is done behind each call: how a core and its chip stand behind it. No condition.
-/
namespace Go.Proofs.YtbhbilcieodbhaaGreat
set_option maxRecDepth 100000
open Go.RowKit
structure Ivk (K:Kor) (G:Gho):Prop where
 on:K.s.on=true
 sit:∃ X,Sit K G X/\(K.dd=false->(∀ b,¬ X b)/\Rm 0 K/\Told K G)
end Go.Proofs.YtbhbilcieodbhaaGreat
/-
  A sector is put: how a core and its chip stand behind it. No condition.
-/
namespace Go.Proofs.YtbhbilcieodbhaaGreat
set_option maxRecDepth 100000
open Go.RowKit
theorem put_fin {H:Hol} {K K1:Kor} {G:Gho} {o p:Nat} {s':Chp} {r':Int} {R':Nat->Int} (ho:o<24) (f:FrD H K K1 G o p s' r' R') (h24:K.L 24≠-1) {D:List Nat} (hH:H { K1 with nx:=K1.nx+1 } K1.nx=D) :
 (FrL K1 o p s' r' R').2=0/\(FrL K1 o p s' r' R').1.nx=K.nx+1/\(FrL K1 o p s' r' R').1.F=K.F/\(FrL K1 o p s' r' R').1.dd=K.dd/\(FrL K1 o p s' r' R').1.L=upd K.L o p/\(FrL K1 o p s' r' R').1.fl=K.fl/\(FrL K1 o p s' r' R').1.tl=K.tl/\∃ T,Sit (FrL K1 o p s' r' R').1 { G with T:=T,a:=updN G.a o D,z:=fun x=>x≠o/\G.z x } (fun _=>False):=by
 obtain⟨e,s1,sp,h6,wf,pg⟩:=f
 have hfree:=sp.free s1
 have hlt:=sp.lt
 have hn1:=s1.wf.nx
 have h6':p % 8<6:=h6.elim (fun e=>by omega) id
 have hmay:Pmap.May ((o:Nat):Int) (p:Int):=⟨⟨by omega,by omega⟩,⟨by omega,by omega⟩,Or.inr (by omega)⟩
 have hc:Pmap.setC K1.L ((o:Nat):Int) (p:Int)=0:=by
  unfold Pmap.setC
  rw[if_neg (fun e=>e hmay),if_neg (by rw[own_none' hfree];simp)]
 have hLL:Pmap.setL K1.L ((o:Nat):Int) (p:Int)=upd K1.L o p:=by unfold Pmap.setL;rw[if_pos hc,Int.toNat_natCast]
 have eL:FrL K1 o p s' r' R'=({ K1 with s:=s',r:=r',hR:=R',nx:=K1.nx+1,vs:=upd K1.vs o K1.nx,vc:=upd K1.vc o 0,L:=upd K1.L o p },0):=by
  unfold FrL layK
  rw[if_neg (by omega)]
  dsimp only
  rw[hc,hLL]
 rw[eL]
 rw[hH] at pg
 have h24':K1.L 24≠-1:=by rw[e];exact h24
 have hs:=s1.put ho pg sp h6' h24' (r':=r') (R':=R') wf
 subst e
 exact⟨rfl,rfl,rfl,rfl,rfl,rfl,rfl,_,hs⟩
end Go.Proofs.YtbhbilcieodbhaaGreat
/-
  The public calls: how a core and its chip stand behind each, and what is answered. No condition.
-/
namespace Go.Proofs.YtbhbilcieodbhaaGreat
set_option maxRecDepth 100000
open Go.RowKit
theorem Ivk.eqv {K K':Kor} {G:Gho} (h:Ivk K G) (a:Eqv K K') (wf:Wf K') (on:K'.s.on=true):Ivk K' G:=by
 obtain⟨_,X,hs,hd⟩:=h
 refine⟨on,X,hs.eqv a wf,fun e=>?_⟩
 rw[a.dd] at e
 obtain⟨h1,h2,h3⟩:=hd e
 refine⟨h1,?_,fun b hb eb=>h3 b hb (by rw[<-a.F];exact eb)⟩
 unfold Rm at h2 ⊢
 rw[a.F]
 exact h2
theorem ge_ends {K:Kor} {G:Gho} (h:Ivk K G) {o:Nat} (ho:o<24) :
 ∃ K',Ivk K' G/\Eqv K K'/\K'.tl=K.tl/\RdB 1 K K'/\(geK K o=(K',(G.a o).take 160,0)\/(G.z o/\geK K o=(K',[],13))):=by
 obtain⟨on,X,hs,hd⟩:=id h
 unfold geK
 by_cases hL:K.L o = -1
 ·
  rw[if_pos hL,hs.nul o ho hL]
  exact⟨K,h,Eqv.refl K,rfl,(RdB.refl K).mono (by omega),Or.inl (by simp)⟩
 ·
  rw[if_neg hL]
  obtain⟨hlt,_⟩:=hs.wf.lt (by omega:o<25) hL
  obtain⟨l,D,hl⟩:=hs.liv o (by omega) hL
  obtain⟨e,on',a,wf,pg,tl,rd⟩:=in_ends hs.wf hlt on
  obtain⟨q1,q2,q3,q4⟩:=tl_told hs.wf.tl hs.wf.chip hs.rep hl.tab hl.gh
  rw[<-pg] at q1 q2 q3 q4
  generalize inK K (K.L o).toNat=x at *
  dsimp only
  rw[if_neg (by rw[e];simp)]
  refine⟨x.1,h.eqv a wf on',a,tl,rd,?_⟩
  by_cases hso:x.2.1.sound=true
  ·
   obtain⟨ht,hdt⟩:=q4 hso
   obtain⟨_,_,_,_,hle⟩:=q3 ht
   have hle':x.2.1.l=l:=hle
   cases l with
   | true=>
    rw[if_pos (Or.inr hle')]
    exact Or.inr ⟨hl.lost rfl,rfl⟩
   | false=>
    rw[if_neg (by rw[hso,hle'];simp)]
    have:=hl.data rfl
    rw[if_neg (by omega)] at this
    rw[hdt,this]
    exact Or.inl rfl
  ·
   have hsf:x.2.1.sound=false:=by simpa using hso
   rw[if_pos (Or.inl hsf)]
   exact Or.inr ⟨Classical.byContradiction fun hz=>hso (q1.2 (hl.gd hz)),rfl⟩
theorem Sit.rez {K:Kor} {G:Gho} {X:Nat->Prop} (h:Sit K G X) {z':Nat->Prop} (hz:∀ o,o<25->K.L o≠-1->(z' o<->G.z o)) (h24:¬ z' 24):Sit K { G with z:=z' } X where
 wf:=h.wf
 rep:=h.rep
 sts:=h.sts
 frs:=h.frs
 opn:=h.opn
 frn:=h.frn
 liv:=fun o ho hL=>by
  obtain⟨l,D,hl⟩:=h.liv o ho hL
  exact⟨l,D,⟨hl.tab,fun e=>(hz o ho hL).2 (hl.lost e),hl.data,hl.gh,fun e=>hl.gd fun k=>e ((hz o ho hL).2 k)⟩⟩
 nul:=h.nul
 blk:=h.blk
 flo:=h.flo
 old:=h.old
 seq:=h.seq
 fls:=h.fls
 sp:=h.sp
 dds:=h.dds
 cb:=h.cb
 cf:=h.cf
 cn:=h.cn
 nw:=h.nw
 z24:=h24
 lb:=h.lb
theorem trim_fin {K K1:Kor} {G:Gho} {p:Nat} {s':Chp} {r':Int} {R':Nat->Int} {o:Nat} (ho:o<24) (f:FrD (tmH o (K.vs o:Nat)) K K1 G 24 p s' r' R') (hL:K.L o≠-1) (hdd:K.dd=false) :
 (FrL K1 24 p s' r' R').2=0/\(FrL K1 24 p s' r' R').1.nx=K.nx+1/\(FrL K1 24 p s' r' R').1.F=K.F/\(FrL K1 24 p s' r' R').1.dd=K.dd/\(FrL K1 24 p s' r' R').1.L=upd K.L 24 p/\(FrL K1 24 p s' r' R').1.tl=K.tl/\(FrL K1 24 p s' r' R').1.fl=K.fl/\Pmap.atC (FrL K1 24 p s' r' R').1.L (o:Nat)=0/\Pmap.dropL (FrL K1 24 p s' r' R').1.L (o:Nat)=upd (upd K.L 24 p) o (-1) /\
 ∃ G',G'.a=updN G.a o (List.replicate 174 0)/\G'.z=(fun x=>x≠o/\G.z x)/\Sit { (FrL K1 24 p s' r' R').1 with fl:=upd (FrL K1 24 p s' r' R').1.fl o (K.vs o:Nat),L:=Pmap.dropL (FrL K1 24 p s' r' R').1.L (o:Nat) } G' (fun _=>False)/\(∀ b,b<12->K.F b=3->G'.c.B b=true):=by
 obtain⟨e,s1,sp,_,wf,pg⟩:=f
 have hfree:=sp.free s1
 have hlt:=sp.lt
 have hn1:=s1.wf.nx
 have hmay:Pmap.May ((24:Nat):Int) (p:Int):=⟨⟨by omega,by omega⟩,⟨by omega,by omega⟩,Or.inl rfl⟩
 have hc:Pmap.setC K1.L ((24:Nat):Int) (p:Int)=0:=by
  unfold Pmap.setC
  rw[if_neg (fun e=>e hmay),if_neg (by rw[own_none' hfree];simp)]
 have hLL:Pmap.setL K1.L ((24:Nat):Int) (p:Int)=upd K1.L 24 p:=by unfold Pmap.setL;rw[if_pos hc,Int.toNat_natCast]
 have eL:FrL K1 24 p s' r' R'=({ K1 with s:=s',r:=r',hR:=R',hN:=R',ca:=0,nx:=K1.nx+1,vs:=upd K1.vs 24 K1.nx,vc:=upd K1.vc 24 0,L:=upd K1.L 24 p,fl:=K1.fl },0):=by
  unfold FrL layK ntK
  rw[if_pos rfl]
  dsimp only
  rw[hc,hLL]
 have eLo:K1.L o=K.L o:=by rw[e]
 have eVo:K1.vs o=K.vs o:=by rw[e]
 have hLo:upd K1.L 24 p o≠-1:=by rw[upd_ne _ _ (by omega),eLo];exact hL
 have hat:Pmap.atC (upd K1.L 24 p) (o:Nat)=0:=by
  unfold Pmap.atC
  rw[if_neg (by omega),Int.toNat_natCast,if_neg hLo]
 have hdr:Pmap.dropL (upd K1.L 24 p) (o:Nat)=upd (upd K1.L 24 p) o (-1):=by
  unfold Pmap.dropL
  rw[if_pos hat,Int.toNat_natCast]
 have w5:Wf { K1 with nx:=K1.nx+1 }:=⟨s1.wf.chip,s1.wf.rr,s1.wf.frm,s1.wf.map,s1.wf.vs,s1.wf.vp,s1.wf.vc,s1.wf.fl,wf.nx,s1.wf.fr,s1.wf.cu,s1.wf.qu,s1.wf.hea,s1.wf.tl⟩
 have hck:=ck_ok w5 (q:=K1.nx) hn1
 have hvo:=s1.wf.vs o (by omega)
 have hz:0<=((K1.vs o:Nat):Int)/\((K1.vs o:Nat):Int)<=1099511627775:=by omega
 have hck':Point.Tld { ckK { K1 with nx:=K1.nx+1 } K1.nx with F:=upd (ckK { K1 with nx:=K1.nx+1 } K1.nx).F o (K1.vs o:Nat) }:=⟨fun i hi=>by
  show 0<=upd _ o _ i/\upd _ o _ i<=1099511627775
  unfold upd
  split
  ·
   exact hz
  ·
   exact hck.F i hi,hck.N,hck.C,hck.R,hck.S⟩
 have hOk:Pmap.Okl (upd (upd K1.L 24 p) o (-1)):=(s1.wf.map.put 24 ⟨by omega,by omega⟩ (fun e=>by omega) (own_none' hfree)).clear o
 have wfin:Wf { K1 with s:=s',r:=r',hR:=R',hN:=R',ca:=0,nx:=K1.nx+1,vs:=upd K1.vs 24 K1.nx,vc:=upd K1.vc 24 0,L:=upd (upd K1.L 24 p) o (-1),fl:=upd K1.fl o (K1.vs o:Nat) }:=by
  have w1:=((wf.nt).ver (i:=24) (q:=K1.nx) (c:=0) hn1 (by decide)).fl' (o:=o) hz
  refine w1.map' hOk fun i hi hLi=>?_
  show 1<=upd K1.vs 24 K1.nx i
  by_cases e:i=24
  ·
   rw[e];unfold upd;rw[if_pos rfl];exact hn1.1
  ·
   by_cases e':i=o
   ·
    subst e'
    rw[upd_at] at hLi
    exact absurd rfl hLi
   ·
    rw[upd_ne _ _ e',upd_ne _ _ e] at hLi
    unfold upd
    rw[if_neg e]
    exact s1.wf.vp i hi hLi
 have hs:=s1.note (c:={ ckK { K1 with nx:=K1.nx+1 } K1.nx with F:=upd (ckK { K1 with nx:=K1.nx+1 } K1.nx).F o (K1.vs o:Nat) }) (by rw[eVo];exact pg) sp (by rw[e];exact hdd) (r':=r') (R':=R') (N':=R') (fl':=upd K1.fl o (K1.vs o:Nat)) (L':=upd (upd K1.L 24 p) o (-1)) (a':=updN G.a o (List.replicate 174 0)) wfin (by rw[upd_ne _ _ (by omega),upd_at]) (fun i hi=>by
  by_cases e':i=o
  ·
   subst e'
   refine Or.inr ⟨upd_at _ _ _,by rw[eLo];exact hL,upd_at _ _ _,?_⟩
   unfold updN
   rw[if_pos rfl]
  ·
   refine Or.inl ⟨by rw[upd_ne _ _ e',upd_ne _ _ (by omega)],upd_ne _ _ e',?_⟩
   unfold updN
   rw[if_neg e']) (fun b _=>decide_eq_true_iff) (fun _ _=>rfl) rfl rfl hck'
 have hs2:=hs.rez (z':=fun x=>x≠o/\G.z x) (fun i _ hLi=>by
  have:i≠o:=fun e'=>by
   subst e'
   exact hLi (upd_at _ _ _)
  exact⟨fun k=>k.2,fun k=>⟨this,k⟩⟩) (fun k=>s1.z24 k.2)
 rw[eL]
 subst e
 rw[<-hdr] at hs2
 exact⟨rfl,rfl,rfl,rfl,rfl,rfl,rfl,hat,hdr,_,rfl,rfl,hs2,fun b _ e=>decide_eq_true e⟩
end Go.Proofs.YtbhbilcieodbhaaGreat
/-
  A chip of which no block fails and whose power stays: what is programmed and erased there succeeds. No condition: lemmas.
-/
namespace Go.Proofs.YtbhbilcieodbhaaGreat
set_option maxRecDepth 100000
open Go.RowKit
structure Fine (s:Chp):Prop where
 on:s.on=true
 lim:s.lim=false
 bl:∀ b,(s.bl b).failed=false/\(s.bl b).wf=false/\(s.bl b).ef=false
theorem Fine.setBl {s:Chp} (h:Fine s) (b:Nat) (x:Blo) (hx:x.failed=false/\x.wf=false/\x.ef=false):Fine (s.setBl b x):=⟨h.on,h.lim,fun j=>by
 show ((if j=b then x else s.bl j).failed=false)/\_
 by_cases e:j=b
 ·
  simp only[Chp.setBl,if_pos e];exact hx
 ·
  simp only[Chp.setBl,if_neg e];exact h.bl j⟩
theorem Fine.setCh {s:Chp} (h:Fine s) (c:Nat) (k:Chk):Fine (s.setCh c k):=⟨h.on,h.lim,h.bl⟩
theorem Fine.go {s:Chp} (h:Fine s):Fine (goS s):=⟨h.on,h.lim,h.bl⟩
theorem Fine.failW {s:Chp} (h:Fine s) (b:Nat):(failW (s.bl b)).failed=false/\(failW (s.bl b)).wf=false/\(failW (s.bl b)).ef=false:=by
 obtain⟨h1,h2,h3⟩:=h.bl b
 refine⟨?_,h2,h3⟩
 show ((s.bl b).failed || ((s.bl b).wf && _))=false
 rw[h1,h2];rfl
theorem Fine.failE {s:Chp} (h:Fine s) (b:Nat):(failE (s.bl b)).failed=false/\(failE (s.bl b)).wf=false/\(failE (s.bl b)).ef=false:=by
 obtain⟨h1,h2,h3⟩:=h.bl b
 refine⟨?_,h2,h3⟩
 show ((s.bl b).failed || (s.bl b).ef)=false
 rw[h1,h3];rfl
theorem Fine.write {s:Chp} (h:Fine s) (a k:Int) (l:List Nat):Fine (writeR s a k l).1/\(writeR s a k l).2≠7/\(writeR s a k l).2≠8:=by
 unfold writeR
 split
 ·
  exact⟨h,by simp,by simp⟩
 ·
  rw[if_neg (by rw[h.on];decide)]
  split
  ·
   exact⟨h,by simp,by simp⟩
  ·
   rw[if_neg (by rw[h.lim];simp),if_neg (by rw[(h.failW _).1];decide)]
   exact⟨(h.go.setBl _ _ (h.failW _)).setCh _ _,by simp,by simp⟩
theorem Fine.erase {s:Chp} (h:Fine s) (b:Int):Fine (eraseR s b).1/\(eraseR s b).2≠7/\(eraseR s b).2≠8:=by
 unfold eraseR
 split
 ·
  exact⟨h,by simp,by simp⟩
 ·
  rw[if_neg (by rw[h.on];decide),if_neg (by rw[h.lim];simp),if_neg (by rw[(h.failE _).1];decide)]
  refine⟨?_,by simp,by simp⟩
  have h1:=h.go.setBl b.toNat _ (h.failE b.toNat)
  have h2:=h1.setBl b.toNat { ((goS s).setBl b.toNat (Go.Proofs.YtbhbilcieodbhaaGreat.failE (s.bl b.toNat))).bl b.toNat with reads:=0 } (h1.bl b.toNat)
  exact⟨h2.on,h2.lim,h2.bl⟩
theorem Fine.rd {s:Chp} (h:Fine s) (a:Nat):Fine (rdS s a):=h.setBl _ _ (h.bl _)
theorem Fine.wrN {s:Chp} (h:Fine s) (a:Int) (W:Nat->List Nat):∀ n,Fine (wrN s a W n).1/\(wrN s a W n).2≠7/\(wrN s a W n).2≠8:=by
 intro n
 induction n with
 | zero=>exact⟨h,show (0:Nat)≠7 by decide,show (0:Nat)≠8 by decide⟩
 | succ n ih=>
  rw[Go.Proofs.YtbhbilcieodbhaaGreat.wrN]
  split
  ·
   exact ih.1.write _ _ _
  ·
   exact ih
theorem Fine.readV {s:Chp} (h:Fine s) (a:Int):Fine (readV s a).1/\(readV s a).2.2≠7:=by
 unfold Go.Proofs.YtbhbilcieodbhaaGreat.readV
 split
 ·
  exact⟨h,by simp⟩
 ·
  rw[if_neg (by rw[h.on];decide)]
  exact⟨h.rd _,by simp⟩
theorem Fine.prF {s:Chp} (h:Fine s) (tl:List Nat->Int->Pg) (r:Int) (t:Tgg) (D:List Nat):Fine (prF tl s r t D).1/\((prF tl s r t D).2.1=1\/((prF tl s r t D).2.2≠7/\(prF tl s r t D).2.2≠8)):=by
 unfold Go.Proofs.YtbhbilcieodbhaaGreat.prF
 have h1:=h.wrN t.p (wordOf D (body t.p t.o t.q t.c t.l)) 4
 generalize Go.Proofs.YtbhbilcieodbhaaGreat.wrN s t.p (wordOf D (body t.p t.o t.q t.c t.l)) 4=X at *
 dsimp only
 by_cases h2:X.2≠0
 ·
  rw[if_pos h2]
  exact⟨h1.1,Or.inr h1.2⟩
 ·
  rw[if_neg h2]
  have h3:=h1.1.readV t.p
  unfold rdF
  by_cases h4:(Go.Proofs.YtbhbilcieodbhaaGreat.readV X.1 t.p).2.2=0
  ·
   rw[if_pos h4]
   dsimp only
   rw[if_neg (by simp)]
   exact⟨h3.1,Or.inl rfl⟩
  ·
   rw[if_neg h4]
   dsimp only
   rw[if_pos h4]
   refine⟨h3.1,Or.inr ⟨h3.2,?_⟩⟩
   show (Go.Proofs.YtbhbilcieodbhaaGreat.readV X.1 t.p).2.2≠8
   unfold Go.Proofs.YtbhbilcieodbhaaGreat.readV
   split
   ·
    simp
   ·
    split <;> simp
theorem pr_fine {K:Kor} (h:Wf K) {T:Tab} (hR:Rep K.s T) {t:Tgg} {D:List Nat} (hp:t.p<96) (hE:Ent t.p t D) (hB:Erd K.s t.p) (hf:Fine K.s):(prK K t D).2=0/\Fine (prK K t D).1.s:=by
 have h1:=hf.prF K.tl K.r t D
 have h2:=prF_ends h.tl h.chip hR hp hE hf.on hB K.r
 unfold prK
 dsimp only
 refine⟨?_,h1.1⟩
 rcases h2 with ⟨a,_⟩ | ⟨a,b,_⟩ | ⟨a,b,_⟩
 ·
  rw[a];rfl
 ·
  rcases h1.2 with c | ⟨_,c⟩
  ·
   rw[b] at c;cases c
  ·
   exact absurd a c
 ·
  rcases h1.2 with c | ⟨c,_⟩
  ·
   rw[b] at c;cases c
  ·
   exact absurd a c
theorem er_fine {K:Kor} (h:Wf K) {b:Nat} (hb:b<12) (hf:Fine K.s):(erK K b).2=0/\Fine (erK K b).1.s:=by
 have h1:=hf.erase b
 have h2:=eraseR_ends h.chip hb hf.on
 have h0:(eraseR K.s b).2=0:=by
  rcases h2 with ⟨a,_⟩ | ⟨a,_⟩ | ⟨a,_⟩
  ·
   exact a
  ·
   exact absurd a h1.2.2
  ·
   exact absurd a h1.2.1
 unfold erK
 dsimp only
 rw[if_pos h0]
 exact⟨rfl,h1.1⟩
theorem fr_fine {H:Hol} (hH:∀ K q,(H K q).length=174/\Bys (H K q)) {K:Kor} {G:Gho} (h:Sit K G (fun _=>False)) (hf:Fine K.s) {o:Nat} (ho25:o<25) (hr:Front.rmV K.fr o=true) (hnx:K.nx<mxS) :
 Front.nxC K.fr o=0/\∃ K1 s' r' R',FrD H K K1 G o (8*K.fr.k+K.fr.i) s' r' R'/\Fine s'/\RdB 1 K (FrL K1 o (8*K.fr.k+K.fr.i) s' r' R').1 /\
  (frK H { K with fr:=Front.tkS K.fr o } (Front.nxV K.fr o).toNat o).2.2=0/\layK (frK H { K with fr:=Front.tkS K.fr o } (Front.nxV K.fr o).toNat o).1 (frK H { K with fr:=Front.tkS K.fr o } (Front.nxV K.fr o).toNat o).2.1=FrL K1 o (8*K.fr.k+K.fr.i) s' r' R':=by
 obtain⟨t1,t2,t3,t4,t5,t6,t7,t8⟩:=h.take ho25 hr
 have hrd:RdB 1 K (frK H { K with fr:=⟨true,K.fr.k,K.fr.i+1⟩ } (8*K.fr.k+K.fr.i) o).1:=by
  have h0:RdB 0 K { K with fr:=⟨true,K.fr.k,K.fr.i+1⟩ }:=RdB.same (fun _=>rfl) rfl
  exact h0.trans (rd_frK H _ _ o)
 rw[t2,t3]
 refine⟨t1,?_⟩
 have e:sqK { K with fr:=⟨true,K.fr.k,K.fr.i+1⟩ }={ K with fr:=⟨true,K.fr.k,K.fr.i+1⟩,nx:=K.nx+1 }:=by
  unfold sqK
  have e1:decide (K.nx=mxS)=K.sp:=by rw[h.sp];exact decide_eq_false (by omega)
  have e2:min (K.nx+1) mxS=K.nx+1:=by omega
  dsimp only
  rw[e1,e2]
 obtain⟨s',r',R',wf,hx⟩:=frK_ends t4.wf t4.sp hnx t4.rep hf.on t5.lt ho25 t6 t5.er H rfl (hH _ _).1 (hH _ _).2
 have hn:=h.wf.nx
 have hM:May ((8*K.fr.k+K.fr.i:Nat):Int) (o:Nat) (K.nx:Nat) ((0:Nat):Int) false:=by
  unfold mxS at hnx
  have:=t5.lt
  refine⟨⟨by omega,by omega,by omega,by omega⟩,?_⟩
  by_cases e24:o=24
  ·
   exact Or.inl ⟨by omega,rfl⟩
  ·
   have:=t6.resolve_left e24
   exact Or.inr ⟨by omega,by omega⟩
 have w1:Wf { K with fr:=⟨true,K.fr.k,K.fr.i+1⟩,nx:=K.nx+1 }:=by rw[<-e];exact t4.wf.sq
 have hpf:=pr_fine (K:={ K with fr:=⟨true,K.fr.k,K.fr.i+1⟩,nx:=K.nx+1 }) w1 t4.rep (t:=⟨8*K.fr.k+K.fr.i,o,K.nx,0,false⟩) (D:=H { K with fr:=⟨true,K.fr.k,K.fr.i+1⟩,nx:=K.nx+1 } K.nx) t5.lt ⟨rfl,hM,(hH _ _).1,(hH _ _).2⟩ t5.er hf
 have e0:(frK H { K with fr:=⟨true,K.fr.k,K.fr.i+1⟩ } (8*K.fr.k+K.fr.i) o).2.2=0/\Fine (frK H { K with fr:=⟨true,K.fr.k,K.fr.i+1⟩ } (8*K.fr.k+K.fr.i) o).1.s:=by
  unfold frK
  rw[if_neg (by rw[t4.sp];decide)]
  dsimp only
  rw[e]
  rw[if_neg (by rw[hpf.1];simp)]
  refine⟨rfl,?_⟩
  split <;> exact hpf.2
 rcases hx with ⟨ex,k⟩ | ⟨ex,k⟩ | ⟨ex,k⟩
 ·
  rw[ex] at e0 hrd ⊢
  refine⟨_,s',r',R',⟨rfl,t4,t5,t6,wf,k⟩,?_,?_,rfl,rfl⟩
  ·
   have:=e0.2
   dsimp only at this
   split at this <;> exact this
  ·
   exact hrd.trans (rd_layK _ _)
 ·
  rw[ex] at e0;exact absurd e0.1 (show ¬ (8:Nat)=0 by decide)
 ·
  rw[ex] at e0;exact absurd e0.1 (show ¬ (7:Nat)=0 by decide)
theorem an_lay {mr:Kor->Nat->Option (Kor × Nat)} {mo:Mov} {H:Hol} {n:Nat} {K K':Kor} {o:Nat} (hw:wornK K=false) (hs:K.sp=false) (hm:mr K o=some (K',0)) (hc:Front.nxC K'.fr o=0) (hf:(frK H { K' with fr:=Front.tkS K'.fr o } (Front.nxV K'.fr o).toNat o).2.2=0) :
 anK mr mo H (n+1) K o=some (layK (frK H { K' with fr:=Front.tkS K'.fr o } (Front.nxV K'.fr o).toNat o).1 (frK H { K' with fr:=Front.tkS K'.fr o } (Front.nxV K'.fr o).toNat o).2.1):=by
 rw[anK,if_neg (by rw[hw,hs];simp),hm]
 dsimp only
 rw[if_neg (by simp),if_neg (by rw[hc];simp),if_pos hf]
theorem an_fine {H:Hol} (hH:∀ K q,(H K q).length=174/\Bys (H K q)) {K:Kor} {G:Gho} (h:Sit K G (fun _=>False)) (hf:Fine K.s) (hdd:K.dd=false) {o:Nat} (ho25:o<25) (hr:Front.rmV K.fr o=true) (hnx:K.nx<mxS) (n:Nat) :
 ∃ K1 s' r' R',FrD H K K1 G o (8*K.fr.k+K.fr.i) s' r' R'/\Fine s'/\RdB 1 K (FrL K1 o (8*K.fr.k+K.fr.i) s' r' R').1/\anR (n+1) H K o=some (FrL K1 o (8*K.fr.k+K.fr.i) s' r' R'):=by
 obtain⟨c,K1,s',r',R',f1,f2,f4,f5,f6⟩:=fr_fine hH h hf ho25 hr hnx
 refine⟨K1,s',r',R',f1,f2,f4,?_⟩
 rw[<-f6]
 show anK _ _ H (n+1) K o=_
 refine an_lay (by rw[worn_is h];exact hdd) h.sp ?_ c f5
 rw[mrK,if_pos hr]
end Go.Proofs.YtbhbilcieodbhaaGreat
/-
  A chip where nothing is to fail and nothing was damaged: it stays so. No condition: lemmas.
-/
namespace Go.Proofs.YtbhbilcieodbhaaGreat
set_option maxRecDepth 100000
open Go.RowKit
def Un (s:Chp):Prop:=Fine s/\∀ j,(s.ch j).now=(s.ch j).tru
theorem un_write {s:Chp} (h:Un s) (a k:Int) (l:List Nat):Un (writeR s a k l).1:=by
 refine⟨(h.1.write a k l).1,fun j=>?_⟩
 unfold writeR
 split
 ·
  exact h.2 j
 ·
  rw[if_neg (by rw[h.1.on];decide)]
  split
  ·
   exact h.2 j
  ·
   rw[if_neg (by rw[h.1.lim];simp),if_neg (by rw[(h.1.failW _).1];decide)]
   show (if j=4*a.toNat+k.toNat then pgmK l else s.ch j).now=(if j=4*a.toNat+k.toNat then pgmK l else s.ch j).tru
   split
   ·
    rfl
   ·
    exact h.2 j
theorem un_erase {s:Chp} (h:Un s) (b:Int):Un (eraseR s b).1:=by
 refine⟨(h.1.erase b).1,fun j=>?_⟩
 unfold eraseR
 split
 ·
  exact h.2 j
 ·
  rw[if_neg (by rw[h.1.on];decide),if_neg (by rw[h.1.lim];simp),if_neg (by rw[(h.1.failE _).1];decide)]
  show (if 32*b.toNat<=j/\j<32*b.toNat+32 then newK else s.ch j).now=(if 32*b.toNat<=j/\j<32*b.toNat+32 then newK else s.ch j).tru
  split
  ·
   rfl
  ·
   exact h.2 j
theorem un_readV {s:Chp} (h:Un s) (a:Int):Un (readV s a).1:=by
 refine⟨(h.1.readV a).1,?_⟩
 unfold readV
 split
 ·
  exact h.2
 ·
  split <;> exact h.2
theorem un_wrN {s:Chp} (h:Un s) (a:Int) (W:Nat->List Nat):∀ n,Un (wrN s a W n).1:=by
 intro n
 induction n with
 | zero=>exact h
 | succ n ih=>
  rw[wrN]
  split
  ·
   exact un_write ih _ _ _
  ·
   exact ih
theorem un_rdF (tl:List Nat->Int->Pg) {s:Chp} (h:Un s) (r a:Int):Un (rdF tl s r a).1:=by
 have:=un_readV h a
 unfold rdF
 split <;> exact this
theorem un_prF (tl:List Nat->Int->Pg) {s:Chp} (h:Un s) (r:Int) (t:Tgg) (D:List Nat):Un (prF tl s r t D).1:=by
 unfold prF
 have h1:=un_wrN h t.p (wordOf D (body t.p t.o t.q t.c t.l)) 4
 generalize wrN s t.p (wordOf D (body t.p t.o t.q t.c t.l)) 4=X at *
 dsimp only
 have h2:=un_rdF tl h1 r t.p
 generalize rdF tl X.1 r t.p=Y at *
 split
 ·
  exact h1
 ·
  split <;> exact h2
theorem un_rdK (K:Kor) (p:Nat) (h:Un K.s):Un (rdK K p).1.s:=by
 have:=un_rdF K.tl h K.r p
 unfold rdK
 dsimp only
 generalize rdF K.tl K.s K.r p=X at *
 split <;> exact this
theorem un_prK (K:Kor) (t:Tgg) (D:List Nat) (h:Un K.s):Un (prK K t D).1.s:=by
 have:=un_prF K.tl h K.r t D
 unfold prK
 dsimp only
 exact this
theorem un_prM (K:Kor) (t:Tgg) (D:List Nat) (h:Un K.s):Un (prM K t D).1.s:=by
 unfold prM
 split
 ·
  exact h
 ·
  exact un_prK K t D h
theorem un_erK (K:Kor) (b:Nat) (h:Un K.s):Un (erK K b).1.s:=by
 have:=un_erase h b
 unfold erK
 dsimp only
 generalize eraseR K.s b=X at *
 split <;> exact this
theorem un_frK (H:Hol) (K:Kor) (p o:Nat) (h:Un K.s):Un (frK H K p o).1.s:=by
 unfold frK
 by_cases hs:K.sp=true
 ·
  rw[if_pos hs]
  exact h
 ·
  rw[if_neg hs]
  dsimp only
  have h1:=un_prK (sqK K) ⟨p,o,K.nx,0,false⟩ (H (sqK K) K.nx) (by rw[s_sqK];exact h)
  generalize prK (sqK K) ⟨p,o,K.nx,0,false⟩ (H (sqK K) K.nx)=x at *
  by_cases c:x.2≠0
  ·
   rw[if_pos c]
   exact h1
  ·
   rw[if_neg c]
   by_cases d:o=24
   ·
    rw[if_pos d]
    exact h1
   ·
    rw[if_neg d]
    exact h1
theorem un_coK (K:Kor) (o:Nat) (h:Un K.s):Un (coK K o).1.s:=by
 have h1:=un_rdK K (K.L o).toNat h
 unfold coK
 split
 ·
  exact h
 ·
  dsimp only
  generalize rdK K (K.L o).toNat=X at *
  split
  ·
   exact h1
  ·
   split
   ·
    exact h1
   ·
    split <;> exact h1
theorem un_cpK (bd:Bool):∀ (l:List Nat) (K:Kor) (S:Shf),Un K.s->Un (cpK bd l K S).1.s:=by
 intro l
 induction l with
 | nil=>intro K S h;exact h
 | cons o l ih=>
  intro K S h
  unfold cpK
  split
  ·
   exact ih K S h
  ·
   dsimp only
   have h1:=un_coK K o h
   generalize coK K o=c at *
   have h2:Un (tiK c.1 S o).1.s:=by rw[s_tiK];exact h1
   generalize tiK c.1 S o=t at *
   have h3:=un_prM t.1 ⟨t.2.2.1,o,t.1.vs o,(t.1.vc o+1) % 256,c.2.2.1⟩ c.2.1 h2
   generalize prM t.1 ⟨t.2.2.1,o,t.1.vs o,(t.1.vc o+1) % 256,c.2.2.1⟩ c.2.1=p at *
   split
   ·
    exact h1
   ·
    split
    ·
     exact h2
    ·
     split
     ·
      exact h3
     ·
      exact ih _ _ h3
theorem un_cbK (K:Kor) (S:Shf) (h:Un K.s):Un (cbK K S).1.s:=by
 unfold cbK
 dsimp only
 have h1:Un (tiK K S 24).1.s:=by rw[s_tiK];exact h
 generalize tiK K S 24=t at *
 have h2:=un_frK (bdH S.fm) t.1 t.2.2.1 24 h1
 generalize frK (bdH S.fm) t.1 t.2.2.1 24=f at *
 split
 ·
  exact h1
 ·
  split
  ·
   exact h2
  ·
   rw[s_cmK]
   exact h2
theorem un_tyK (K:Kor) (S:Shf) (h:Un K.s):Un (tyK K S).1.s:=by
 unfold tyK
 dsimp only
 have hx:=un_cpK (S.fd || (S.rt && bearK K)) ((Pmap.ofL K.L S.fm).map Int.toNat) K { S with tt:=noF,ld:=[] } h
 generalize cpK (S.fd || (S.rt && bearK K)) ((Pmap.ofL K.L S.fm).map Int.toNat) K { S with tt:=noF,ld:=[] }=x at *
 have he:=un_erK x.1 S.fm hx
 have hb:=un_cbK x.1 x.2.1 hx
 generalize erK x.1 S.fm=y at *
 have hc:Un (cmK y.1 x.2.1 0).1.s:=by rw[s_cmK];exact he
 have hl:Un (lvK y.1 S.fm).s:=by rw[s_lvK];exact he
 generalize cmK y.1 x.2.1 0=c at *
 generalize lvK y.1 S.fm=u at *
 have hd:=un_cbK u { x.2.1 with fd:=true } hl
 generalize cbK u { x.2.1 with fd:=true }=v at *
 generalize cbK x.1 x.2.1=v2 at *
 split
 ·
  exact h
 ·
  split
  ·
   exact hx
  ·
   split
   ·
    exact hb
   ·
    split
    ·
     exact hc
    ·
     split
     ·
      exact he
     ·
      split
      ·
       exact hl
      ·
       exact hd
def TelU (te:Tel):Prop:=∀ K Z,te K=some Z->Un K.s->Un Z.1.s
def MovU (mo:Mov):Prop:=∀ K S Z,mo K S=some Z->Un K.s->Un Z.1.s
theorem un_teK {an:Tel} (h:TelU an):TelU (teK an):=by
 intro K Z e hp
 unfold teK at e
 have h1:Un (opK (clK K)).1.s:=by rw[s_opK,s_clK];exact hp
 split at e
 ·
  cases e;exact hp
 ·
  split at e
  ·
   exact h _ _ e hp
  ·
   split at e
   ·
    cases e
    exact h1
   ·
    exact h _ _ e h1
theorem un_trK {te:Tel} (h:TelU te):∀ n,MovU (trK te n):=by
 intro n
 induction n with
 | zero=>intro K S Z e;cases e
 | succ n ih=>
  intro K S Z e hp
  unfold trK at e
  have ht:=un_tyK K S hp
  split at e
  ·
   cases e;exact hp
  ·
   dsimp only at e
   generalize tyK K S=x at *
   split at e
   ·
    cases e;exact ht
   ·
    cases hy:te (spK x.1 (Front.blV x.2.1.tt)) with
    | none=>rw[hy] at e;cases e
    | some y=>
     rw[hy] at e
     dsimp only at e
     have h1:=h _ _ hy (by rw[s_spK];exact ht)
     split at e
     ·
      cases e;exact h1
     ·
      exact ih _ _ _ e h1
theorem un_moK {te:Tel} (h:TelU te) (n:Nat):MovU (moK te n):=by
 intro K S Z e hp
 unfold moK at e
 cases hy:trK te n (if S.fd then lvK K S.fm else K) S with
 | none=>rw[hy] at e;cases e
 | some x=>
  rw[hy] at e
  dsimp only at e
  have h1:Un x.1.s:=un_trK h n _ _ _ hy (by
   split
   ·
    rw[s_lvK];exact hp
   ·
    exact hp)
  split at e
  ·
   cases e
   show Un (spK x.1 x.2.1.fm).s
   rw[s_spK]
   exact h1
  ·
   cases e;exact h1
theorem un_mrK {mo:Mov} (h:MovU mo):∀ n K o Z,mrK mo n K o=some Z->Un K.s->Un Z.1.s:=by
 intro n
 induction n with
 | zero=>intro K o Z e;cases e
 | succ n ih=>
  intro K o Z e hp
  unfold mrK at e
  have h0:Un (clK K).s:=by rw[s_clK];exact hp
  split at e
  ·
   cases e;exact hp
  ·
   dsimp only at e
   generalize clK K=K1 at *
   have h1:Un (opK K1).1.s:=by rw[s_opK];exact h0
   split at e
   ·
    split at e
    ·
     cases e
     exact h1
    ·
     exact ih _ _ _ e h1
   ·
    split at e
    ·
     cases e
     exact h0
    ·
     cases hy:mo K1 (nwS (Gc.chV 12 12 K1.F (lvF K1)) false false) with
     | none=>rw[hy] at e;cases e
     | some y=>
      rw[hy] at e
      dsimp only at e
      have h2:=h _ _ _ hy h0
      split at e
      ·
       cases e;exact h2
      ·
       exact ih _ _ _ e h2
theorem un_anK {mr:Kor->Nat->Option (Kor × Nat)} {mo:Mov} (hr:∀ K o Z,mr K o=some Z->Un K.s->Un Z.1.s) (h:MovU mo) (H:Hol):∀ n K o Z,anK mr mo H n K o=some Z->Un K.s->Un Z.1.s:=by
 intro n
 induction n with
 | zero=>intro K o Z e;cases e
 | succ n ih=>
  intro K o Z e hp
  unfold anK at e
  split at e
  ·
   cases e;exact hp
  ·
   cases hx:mr K o with
   | none=>rw[hx] at e;cases e
   | some x=>
    rw[hx] at e
    dsimp only at e
    have h1:=hr _ _ _ hx hp
    split at e
    ·
     cases e;exact h1
    ·
     split at e
     ·
      cases e;exact h1
     ·
      have h2:=un_frK H { x.1 with fr:=Front.tkS x.1.fr o } (Front.nxV x.1.fr o).toNat o h1
      generalize frK H { x.1 with fr:=Front.tkS x.1.fr o } (Front.nxV x.1.fr o).toNat o=f at *
      split at e
      ·
       cases e
       rw[s_layK]
       exact h2
      ·
       split at e
       ·
        cases e;exact h2
       ·
        cases hy:mo f.1 (nwS (Front.blV f.1.fr).toNat false true) with
        | none=>rw[hy] at e;cases e
        | some y=>
         rw[hy] at e
         dsimp only at e
         have h4:=h _ _ _ hy h2
         split at e
         ·
          cases e;exact h4
         ·
          exact ih _ _ _ e h4
theorem un_anR:∀ n H K o Z,anR n H K o=some Z->Un K.s->Un Z.1.s:=by
 intro n
 induction n with
 | zero=>intro H K o Z e;cases e
 | succ n ih=>
  intro H K o Z e
  have hm:MovU (moK (teK fun K=>anR n noH K 24) (n+1)):=un_moK (un_teK fun _ _ e=>ih _ _ _ _ e) _
  exact un_anK (mr:=mrK (moK (teK fun K=>anR n noH K 24) (n+1)) (n+1)) (fun K o Z e=>un_mrK hm _ _ _ _ e) hm H (n+1) K o Z e
theorem un_movR (n:Nat):MovU (movR n):=un_moK (un_teK fun _ _ e=>un_anR n _ _ _ _ e) _
theorem un_inK (K:Kor) (p:Nat) (h:Un K.s):Un (inK K p).1.s:=by
 have h1:=un_rdK K p h
 unfold inK
 dsimp only
 generalize rdK K p=X at *
 split
 ·
  exact h1
 ·
  split
  ·
   exact h1
  ·
   split <;> exact h1
theorem un_geK (K:Kor) (o:Nat) (h:Un K.s):Un (geK K o).1.s:=by
 have h1:=un_inK K (K.L o).toNat h
 unfold geK
 split
 ·
  exact h
 ·
  dsimp only
  generalize inK K (K.L o).toNat=X at *
  split
  ·
   exact h1
  ·
   split <;> exact h1
theorem un_tdI (c:Nat):∀ (n i:Nat) (K:Kor),Un K.s->Un (tdI c n i K).1.s:=by
 intro n
 induction n with
 | zero=>intro i K h;exact h
 | succ n ih=>
  intro i K h
  rw[tdI]
  split
  ·
   exact un_inK _ _ h
  ·
   exact ih _ _ (un_inK _ _ h)
theorem un_rfK {n:Nat} {K:Kor} {b:Nat} {Z:Kor × Nat} (e:rfK n K b=some Z) (hp:Un K.s):Un Z.1.s:=by
 unfold rfK at e
 split at e
 ·
  cases e;exact hp
 ·
  cases hy:movR n K (nwS b (Health.much 3 K.hS (b:Nat)) false) with
  | none=>rw[hy] at e;cases e
  | some y=>
   rw[hy] at e
   dsimp only at e
   have h1:=un_movR n _ _ _ hy hp
   split at e
   ·
    cases e;exact h1
   ·
    cases e;exact h1
theorem un_raK (m:Nat):∀ (n:Nat) (K:Kor) (Z:Kor × Nat),raK m n K=some Z->Un K.s->Un Z.1.s:=by
 intro n
 induction n with
 | zero=>intro K Z e;cases e
 | succ n ih=>
  intro K Z e hp
  rw[raK] at e
  split at e
  ·
   cases e;exact hp
  ·
   split at e
   ·
    cases e;exact hp
   ·
    rename_i b r _
    cases hy:rfK m { K with qu:=r } b.toNat with
    | none=>rw[hy] at e;cases e
    | some y=>
     rw[hy] at e
     dsimp only at e
     have h1:=un_rfK hy hp
     split at e
     ·
      cases e;exact h1
     ·
      exact ih _ _ e h1
theorem un_tdK {n m:Nat} {K:Kor} {Z:Kor × Nat} (e:tdK n m K=some Z) (hp:Un K.s):Un Z.1.s:=by
 unfold tdK at e
 have h0:=un_tdI K.cu 8 0 { K with cu:=(K.cu+8) % 96,ca:=K.ca+1 } hp
 generalize tdI K.cu 8 0 { K with cu:=(K.cu+8) % 96,ca:=K.ca+1 }=X at *
 unfold tdB at e
 split at e
 ·
  cases e;exact h0
 ·
  cases hy:raK n m (awK X.1) with
  | none=>rw[hy] at e;cases e
  | some y=>
   rw[hy] at e
   dsimp only at e
   have h1:Un y.1.s:=un_raK _ _ _ _ hy h0
   split at e
   ·
    cases e;exact h1
   ·
    split at e
    ·
     cases hz:anR n noH y.1 24 with
     | none=>rw[hz] at e;cases e
     | some z=>
      rw[hz] at e
      cases e
      have h9:=un_anR _ _ _ _ _ hz h1
      exact h9
    ·
     cases e;exact h1
end Go.Proofs.YtbhbilcieodbhaaGreat
/-
  A new core on a new chip, and the document's examples on it. No condition: lemmas.
-/
namespace Go.Proofs.YtbhbilcieodbhaaGreat
set_option maxRecDepth 100000
open Go.RowKit
def K0 (s:Chp) (tl:List Nat->Int->Pg):Kor:={ s:=s,r:=0,F:=fun _=>0,L:=fun _=>-1,vs:=fun _=>0,vc:=fun _=>0,fl:=fun _=>0,nx:=1,sp:=false,fr:=noF,cu:=0,ca:=0,qu:=[],hR:=fun _=>0,hN:=fun _=>0,hS:=fun _=>0,dd:=false,rp:=0,md:=0,mv:=0,tl:=tl }
def G0:Gho:={ T:=fun _=>none,c:=Point.ck0,a:=fun _=>List.replicate 174 0,z:=fun _=>False }
theorem okl_none:Pmap.Okl (fun _=>-1):=by
 refine⟨?_,?_,?_⟩
 all_goals intros
 all_goals first | exact Or.inl rfl | omega
theorem wf0 {s:Chp} (hs:s.Ok) {tl:List Nat->Int->Pg} (htl:∀ L n,ToldR L n (tl L n)):Wf (K0 s tl) where
 chip:=hs
 rr:=by show -9223372036854775808<=(0:Int)/\(0:Int)<9223372036854775808;decide
 frm:=by show 0<=(0:Int)/\(0:Int)<12;decide
 map:=okl_none
 vs:=fun _ _=>Nat.zero_le _
 vp:=fun _ _ e=>absurd rfl e
 vc:=fun _ _=>by show 0<256;decide
 fl:=fun _ _=>by show 0<=(0:Int)/\(0:Int)<=1099511627775;decide
 nx:=by show 1<=1/\1<=1099511627775;decide
 fr:=by show 0<12/\0<9;decide
 cu:=by show 0<96;decide
 qu:=⟨List.nodup_nil,fun _ e=>(by cases e)⟩
 hea:=fun _ _=>by show (0<=(0:Int)/\(0:Int)<=65535)/\(0<=(0:Int)/\(0:Int)<=65535)/\0<=(0:Int)/\(0:Int)<=255;decide
 tl:=htl
theorem sit0 {s:Chp} (hs:s.Ok) (he:∀ j,(s.ch j).is=false) {tl:List Nat->Int->Pg} (htl:∀ L n,ToldR L n (tl L n)):Sit (K0 s tl) G0 (fun _=>False) where
 wf:=wf0 hs htl
 rep:=⟨fun _ _ _ e=>(by cases e),fun _ _ _ e=>(by cases e),fun p _ _=>he _⟩
 sts:=fun _ _=>by show 0<=(0:Int)/\(0:Int)<=3;decide
 frs:=fun p _ _ k _=>he _
 opn:=fun b _=>⟨fun e=>absurd (show (0:Int)=1 from e) (by decide),fun e=>absurd (show false=true from e.1) (by decide)⟩
 frn:=fun e=>absurd (show false=true from e) (by decide)
 liv:=fun _ _ e=>absurd rfl e
 nul:=fun _ _ _=>rfl
 blk:=fun _ _ e=>absurd rfl e
 flo:=fun _ _ e=>absurd rfl e
 old:=fun _ _ _ e=>(by cases e)
 seq:=fun _ _ _ e=>(by cases e)
 fls:=fun _ _=>by show (0:Int)<((1:Nat):Int);decide
 sp:=rfl
 dds:=⟨fun e=>absurd (show false=true from e) (by decide),fun e=>absurd (show 2<bad3 (fun _=>0) from e) (by decide)⟩
 cb:=fun _ _ e=>absurd (show false=true from e) (by decide)
 cf:=fun _ _=>rfl
 cn:=fun e=>absurd rfl e
 nw:=fun _ _=>rfl
 z24:=id
 lb:=fun _ _ e=>absurd rfl e
theorem upd0 (i:Nat):upd (fun _=>(0:Int)) i 0=fun _=>0:=by
 funext j
 unfold upd
 split <;> rfl
theorem frL_is {H:Hol} {K K1:Kor} {G:Gho} {o p:Nat} {s':Chp} {r':Int} {R':Nat->Int} (ho:o<25) (f:FrD H K K1 G o p s' r' R') :
 (FrL K1 o p s' r' R').2=0/\(FrL K1 o p s' r' R').1.L=upd K.L o p/\(FrL K1 o p s' r' R').1.s=s'/\(FrL K1 o p s' r' R').1.F=K.F/\(FrL K1 o p s' r' R').1.fr=⟨true,K.fr.k,K.fr.i+1⟩/\(FrL K1 o p s' r' R').1.nx=K.nx+1/\(FrL K1 o p s' r' R').1.mv=K.mv/\(FrL K1 o p s' r' R').1.dd=K.dd/\(FrL K1 o p s' r' R').1.tl=K.tl:=by
 obtain⟨e,s1,sp,h6,wf,pg⟩:=f
 have hfree:=sp.free s1
 have hlt:=sp.lt
 have hmay:Pmap.May ((o:Nat):Int) (p:Int):=⟨⟨by omega,by omega⟩,⟨by omega,by omega⟩,h6.imp (fun e=>by omega) (fun e=>by omega)⟩
 have hc:Pmap.setC K1.L ((o:Nat):Int) (p:Int)=0:=by
  unfold Pmap.setC
  rw[if_neg (fun e=>e hmay),if_neg (by rw[own_none' hfree];simp)]
 have hLL:Pmap.setL K1.L ((o:Nat):Int) (p:Int)=upd K1.L o p:=by unfold Pmap.setL;rw[if_pos hc,Int.toNat_natCast]
 subst e
 unfold FrL layK ntK
 by_cases h24:o=24
 ·
  rw[if_pos h24]
  exact⟨hc,hLL,rfl,rfl,rfl,rfl,rfl,rfl,rfl⟩
 ·
  rw[if_neg h24]
  exact⟨hc,hLL,rfl,rfl,rfl,rfl,rfl,rfl,rfl⟩
theorem newS_ok:newS.Ok:=⟨fun _=>newK_ok,fun _=>⟨by show 0<9223372036854775808;decide,fun _=>rfl,by show (-9223372036854775808:Int)<=0;decide,by show (0:Int)<9223372036854775808;decide⟩,by show 0<9223372036854775808;decide,by show (-9223372036854775808:Int)<=0;decide,by show (0:Int)<9223372036854775808;decide⟩
theorem newS_fine:Fine newS:=⟨rfl,rfl,fun _=>⟨rfl,rfl,rfl⟩⟩
structure Bgn (K:Kor) (G:Gho):Prop where
 sit:Sit K G (fun _=>False)
 told:Told K G
 rm:Rm 0 K
 fine:Fine K.s
 dd:K.dd=false
 a:G.a=fun _=>List.replicate 174 0
 z:G.z=fun _=>False
 L:K.L=upd (fun _=>-1) 24 0
 F:K.F=Pool.tkF (fun _=>0) 0 0
 fr:K.fr=⟨true,0,1⟩
 nx:K.nx=2
 ca:K.ca=0
 mv:K.mv=0
 rd:Rdn 1 K
theorem tk0:tkC (fun _=>0)=0/\tkM (fun _=>0)=0:=by decide
theorem an_open {H:Hol} {K KO:Kor} {o:Nat} (hw:wornK K=false) (hs:K.sp=false) (hr:¬ Front.rmV K.fr o=true) (hcl:clK K=K) (hspr:sprK K=true) (hop:opK K=(KO,0)) (hrO:Front.rmV KO.fr o=true) (hc:Front.nxC KO.fr o=0) (hf:(frK H { KO with fr:=Front.tkS KO.fr o } (Front.nxV KO.fr o).toNat o).2.2=0) (n:Nat) :
 anR (n+2) H K o=some (layK (frK H { KO with fr:=Front.tkS KO.fr o } (Front.nxV KO.fr o).toNat o).1 (frK H { KO with fr:=Front.tkS KO.fr o } (Front.nxV KO.fr o).toNat o).2.1):=by
 show anK _ _ H (n+2) K o=_
 refine an_lay hw hs ?_ hc hf
 rw[mrK,if_neg hr]
 dsimp only
 rw[hcl,if_pos hspr,hop,if_neg (by simp)]
 dsimp only
 rw[mrK,if_pos hrO]
end Go.Proofs.YtbhbilcieodbhaaGreat
/-
  How a core stands, as its View tells. Condition: the core lies in memory.
-/
namespace Go.Proofs.YtbhbilcieodbhaaGreat
set_option maxRecDepth 100000
open Go.RowKit
def vw0 (n c k r m v:Int):Nat->Int:=fun i=>if i=37 then n else if i=38 then c else if i=39 then k else if i=64 then r else if i=65 then m else if i=66 then v else 0
def vwF (K:Kor):Nat->Int:=fun i=>if i<12 then K.F i else if i<37 then K.L (i - 12) else if i=37 then (K.nx:Nat) else if i=38 then (K.cu:Nat) else if i=39 then (K.ca:Nat) else if i<52 then K.hR (i - 40) else if i<64 then K.hS (i - 52) else if i=64 then K.rp else if i=65 then K.md else K.mv
theorem zero39 (w:World):(zeroValue 40).run Tryz.prog w=.ok (.agg (ints (fun _=>0) 67).toArray) w:=by kernel_rfl
theorem size39:(Tryz.prog.info? 40).map (·.size)=some 67:=by kernel_rfl
theorem build39 (w:World) (n c k r m v:Int):(Instr.build 40 #[(2,.int .i64 n),(3,.int .i64 c),(4,.int .i64 k),(7,.int .i64 r),(8,.int .i64 m),(9,.int .i64 v)]).run Tryz.prog w=.ok (.agg (ints (vw0 n c k r m v) 67).toArray) w:=by kernel_rfl
theorem exec_build39 {o:Oper} {a:Act} {w:World} {x1 x2 x3 x4 x5 x6:Operand} {n c k r m v:Int} (ho:o.op=.build 40 #[(2,x1),(3,x2),(4,x3),(7,x4),(8,x5),(9,x6)]) (h1:a.eval x1=.int .i64 n) (h2:a.eval x2=.int .i64 c) (h3:a.eval x3=.int .i64 k) (h4:a.eval x4=.int .i64 r) (h5:a.eval x5=.int .i64 m) (h6:a.eval x6=.int .i64 v):(execOp a.eval o).run Tryz.prog w=.ok (.value (.agg (ints (vw0 n c k r m v) 67).toArray)) w:=by
 have hb:=build39 w n c k r m v
 unfold execOp
 rw[ho]
 simp only[List.map_toArray,List.map_cons,List.map_nil,h1,h2,h3,h4,h5,h6]
 generalize Instr.build 40 #[(2,.int .i64 n),(3,.int .i64 c),(4,.int .i64 k),(7,.int .i64 r),(8,.int .i64 m),(9,.int .i64 v)]=b at *
 simp[hb]
theorem step_alloc_vw {ops:Array Oper} {o:Oper} {a:Act} {w:World} {K:Act->World->Prop} {Q:Exit->Act->World->Prop} {E:Prop} (hgd:o.guard=none) (ho:o.op=.alloc 40)
 (h:K (a.put o.dst (.pointer (some ⟨w.heap.size,0,none⟩))) (w.alloc (.cells (ints (fun _=>0) 67).toArray 40))):if Region.wanted o (yielded ops a.tmps)=true then Oper.wp Tryz.prog o a w K Q else E:=by
 rw[if_pos (by simp[Region.wanted,hgd])]
 have hz:=zero39
 unfold Oper.wp
 simp only[execOp,ho,Instr.alloc,newVar,Value.cells,newRow]
 generalize (ints (fun _=>0) 67).toArray=q at *
 simp[hz]
 exact h
theorem step_store_vw {ops:Array Oper} {o:Oper} {a:Act} {w:World} {K:Act->World->Prop} {Q:Exit->Act->World->Prop} {E:Prop} (hgd:o.guard=none) (x y:Operand) (ho:o.op=.store 40 x y)
 (g:Nat) (hx:a.eval x=.pointer (some ⟨g,0,none⟩)) (F:Nat->Int) (hy:a.eval y=.agg (ints F 67).toArray) {F0:Nat->Int} (hg:IB w g 40 67 F0)
 (h:∀ w',IB w' g 40 67 F->Chg (·=g) w w'->K (a.put o.dst undef) w'):if Region.wanted o (yielded ops a.tmps)=true then Oper.wp Tryz.prog o a w K Q else E:=by
 rw[if_pos (by simp[Region.wanted,hgd])]
 exact wp_store_row 40 x y ho g _ hx hy 40 _ hg (by rw[size39];simp[ints_length]) (by simp[ints_length]) (all_oneCell_toArray (ints_one _ _)) (h _ (setRow_heap w g _ _ 40 _ hg) (chg_row _ _ _))
theorem wpList_alloc_vw {ops:Array Oper} {rest:List Oper} {o:Oper} {a:Act} {w:World} {Q:Exit->Act->World->Prop} (hgd:o.guard=none) (ho:o.op=.alloc 40)
 (h:wpList Tryz.prog ops Q rest (a.put o.dst (.pointer (some ⟨w.heap.size,0,none⟩))) (w.alloc (.cells (ints (fun _=>0) 67).toArray 40))):wpList Tryz.prog ops Q (o :: rest) a w:=by
 refine wpList_plain hgd fun K hK=>?_
 have hz:=zero39
 unfold Oper.wp
 generalize (ints (fun _=>0) 67).toArray=q at *
 simp[execOp,ho,Instr.alloc,hz,newVar,Value.cells,newRow]
 exact hK _ _ h
def pt (o:Nat) (R F:Nat->Int):Nat->Int:=fun i=>if o<=i/\i<o+12 then R (i - o) else F i
theorem ints_pt (o:Nat) (R F:Nat->Int) (ho:o+12<=67):(ints F 67).take o ++ ints R 12 ++ (ints F 67).drop (o+(ints R 12).length)=ints (pt o R F) 67:=by
 rw[ints_length]
 apply List.ext_getElem?
 intro i
 have l1:((ints F 67).take o).length=o:=by rw[List.length_take,ints_length];omega
 have l2:((ints F 67).take o ++ ints R 12).length=o+12:=by rw[List.length_append,l1,ints_length]
 by_cases h1:i<o
 ·
  rw[List.getElem?_append_left (by omega),List.getElem?_append_left (by omega),List.getElem?_take_of_lt h1,ints_at _ _ _ (by omega),ints_at _ _ _ (by omega)]
  simp only[pt]
  rw[if_neg (by omega)]
 ·
  by_cases h2:i<o+12
  ·
   rw[List.getElem?_append_left (by omega),List.getElem?_append_right (by omega),l1,ints_at _ _ _ (by omega),ints_at _ _ _ (by omega)]
   simp only[pt]
   rw[if_pos (by omega)]
  ·
   rw[List.getElem?_append_right (by omega),l2,List.getElem?_drop,show o+12+(i - (o+12))=i by omega]
   by_cases h3:i<67
   ·
    rw[ints_at _ _ _ h3,ints_at _ _ _ h3]
    simp only[pt]
    rw[if_neg (by omega)]
   ·
    rw[List.getElem?_eq_none (by rw[ints_length];omega),List.getElem?_eq_none (by rw[ints_length];omega)]
theorem step_copy_vw {ops:Array Oper} {p:Oper} {a:Act} {w:World} {K:Act->World->Prop} {Q:Exit->Act->World->Prop} {E:Prop} (hgd:p.guard=none) (d s:Operand)
 (ho:p.op=.call { callee:=.builtin .copy,args:=#[d,s],argTypes:=#[22,22] }) (b o g:Nat) (hd:a.eval d=.slice (some ⟨b,o,none⟩) 12 12) (hs:a.eval s=.slice (some ⟨g,0,none⟩) 12 12)
 {F R:Nat->Int} (hC:IB w b 40 67 F) (hR:IB w g 3 12 R) (hn:o+12<=67)
 (h:∀ w',IB w' b 40 67 (pt o R F)->Chg (·=b) w w'->K (a.put p.dst (goInt 12)) w') :
 if Region.wanted p (yielded ops a.tmps)=true then Oper.wp Tryz.prog p a w K Q else E:=by
 have hw:Region.wanted p (yielded ops a.tmps)=true:=by simp[Region.wanted,hgd]
 rw[if_pos hw]
 have hlen:(ints R 12).length=12:=ints_length _ _
 have hsz:(ints F 67).toArray.size=67:=by rw[List.size_toArray,ints_length]
 have hrun:=run_copy_row (P:=Tryz.prog) w 22 22 p.type 3 b o 12 12 ⟨g,0,none⟩ 12 12 (ints F 67).toArray 40 (ints R 12) Tryz.underlying22 Patrol.size3 hC (by rw[hlen];rfl) (fun j v hv=>by
  have hj:j<12:=by have:=(List.getElem?_eq_some_iff.1 hv).1;rwa [hlen] at this
  rw[Addr.add_mid,ints_at _ _ _ hj] at *
  rw[<-hv,Nat.zero_add,(hR.cell j hj).1];rfl) (by rw[hlen,hsz];omega) (ints_one _ _)
 rw[show (ints F 67).toArray.toList=ints F 67 from rfl,ints_pt o R F hn,hlen] at hrun
 unfold Oper.wp
 simp[execOp,ho,resolve,invoke,builtin,hd,hs,hrun,Result.andThen]
 exact h _ (setRow_heap w b _ _ 40 _ hC) (chg_row _ _ _)
theorem sz39 (F:Nat->Int):(Tryz.prog.info? 40).map (·.size)=some (ints F 67).toArray.size:=by rw[List.size_toArray,ints_length];exact size39
theorem wpList_load_vw {ops:Array Oper} {rest:List Oper} {o:Oper} {a:Act} {w:World} {Q:Exit->Act->World->Prop} (hgd:o.guard=none) (x:Operand) (ho:o.op=.load 40 x)
 (g:Nat) (hx:a.eval x=.pointer (some ⟨g,0,none⟩)) {F:Nat->Int} (hg:IB w g 40 67 F)
 (h:wpList Tryz.prog ops Q rest (a.put o.dst (.agg (ints F 67).toArray)) w):wpList Tryz.prog ops Q (o :: rest) a w:=
 wpList_load_row hgd 40 x ho g hx 40 _ _ _ hg Tryz.underlying40 rfl (sz39 F) h
theorem wpList_store_vw {ops:Array Oper} {rest:List Oper} {o:Oper} {a:Act} {w:World} {Q:Exit->Act->World->Prop} (hgd:o.guard=none) (x y:Operand) (ho:o.op=.store 40 x y)
 (g:Nat) (hx:a.eval x=.pointer (some ⟨g,0,none⟩)) {F:Nat->Int} (hy:a.eval y=.agg (ints F 67).toArray) {F':Nat->Int} (hg:IB w g 40 67 F')
 (h:∀ w',IB w' g 40 67 F->Chg (·=g) w w'->wpList Tryz.prog ops Q rest (a.put o.dst undef) w'):wpList Tryz.prog ops Q (o :: rest) a w:=
 wpList_store_row hgd 40 x y ho g _ hx hy 40 _ hg (sz39 F) (by simp[ints_length]) (all_oneCell_toArray (ints_one _ _)) (h _ (setRow_heap w g _ _ 40 _ hg) (chg_row _ _ _))
theorem results_vw {fn:Func} {q:Tmp} (h:fn.results=#[.cell q 40]) (tmps:Array Value) {w:World} {g:Nat} {F:Nat->Int} (hp:tmps.getD q undef=.pointer (some ⟨g,0,none⟩)) (hT:IB w g 40 67 F) :
 (results fn tmps).run Tryz.prog w=.ok (.agg (ints F 67).toArray) w:=
 results_cell_row h tmps w g 40 _ _ _ hp hT Tryz.underlying40 rfl (sz39 F)
def vwL (n:Nat) (L B:Nat->Int):Nat->Int:=fun j=>if 12<=j/\j<12+n then L (j - 12) else B j
theorem vwL_next (n:Nat) (L B:Nat->Int):upd (vwL n L B) (12+n) (L n)=vwL (n+1) L B:=by
 funext j
 simp only[upd,vwL]
 by_cases e:j=12+n
 ·
  subst e
  rw[if_pos rfl,if_pos (by omega),show 12+n - 12=n by omega]
 ·
  rw[if_neg e]
  by_cases h:12<=j/\j<12+n
  ·
   rw[if_pos h,if_pos (by omega)]
  ·
   rw[if_neg h,if_neg (by omega)]
theorem upd_two (F:Nat->Int) (i:Nat) (x y:Int):upd (upd F i x) i y=upd F i y:=by
 funext j
 simp only[upd]
 by_cases e:j=i <;> simp[e]
theorem vw_ends (K:Kor) (j:Nat) (hj:j<67):vwL 25 K.L (pt 52 K.hS (pt 40 K.hR (pt 0 K.F (vw0 (K.nx:Nat) K.cu K.ca K.rp K.md K.mv)))) j=vwF K j:=by
 simp only[vwL,pt,vw0,vwF]
 by_cases h1:j<12
 ·
  rw[if_neg (by omega),if_neg (by omega),if_neg (by omega),if_pos (by omega),if_pos h1];rfl
 ·
  rw[if_neg h1]
  by_cases h2:j<37
  ·
   rw[if_pos (by omega),if_pos h2]
  ·
   rw[if_neg (by omega),if_neg h2]
   by_cases h3:j<40
   ·
    rw[if_neg (by omega),if_neg (by omega),if_neg (by omega)]
    obtain rfl | rfl | rfl:j=37\/j=38\/j=39:=by omega
    all_goals simp
   ·
    simp only[if_neg (show ¬ j=37 by omega),if_neg (show ¬ j=38 by omega),if_neg (show ¬ j=39 by omega)]
    by_cases h4:j<52
    ·
     rw[if_neg (by omega),if_pos (by omega),if_pos h4]
    ·
     rw[if_neg h4]
     by_cases h5:j<64
     ·
      rw[if_pos (by omega),if_pos h5]
     ·
      rw[if_neg (by omega),if_neg (by omega),if_neg (by omega),if_neg h5]
      obtain rfl | rfl | rfl:j=64\/j=65\/j=66:=by omega
      all_goals simp
set_option maxHeartbeats 800000 in
theorem view_k (A:Ad) (w:World) (K:Kor) (h:CoreAt A w K):Calls Tryz.prog 34 #[.pointer (some ⟨A.c,0,none⟩)] w fun e w'=>e=.returned (.agg (ints (vwF K) 67).toArray)/\CoreAt A w' K/\Chg (fun _=>False) w w':=by
 have HK:=hyd h
 have HLOW0:=hyd h.low
 clear h
 go_enter Tryz.func34,Tryz.ntmps34
 go_wp2_with (refine wpList_alloc_vw rfl rfl ?_)
 have HK0:=hyd (HK.out.chg0 ((Chg.refl (fun _=>False) w).alloc (.cells (ints (fun _=>0) 67).toArray 40)))
 have HR0:=hyd (IB.new w 40 67 (fun _=>0))
 have HG0:Hid (Chg (fun _=>False) w (w.alloc (.cells (ints (fun _=>0) 67).toArray 40))):=(Chg.refl _ w).alloc _
 have HLOW:Hid (∀ x,Cor A x\/x=A.p\/x=A.q->x<w.heap.size):=HLOW0.out
 generalize w.alloc (.cells (ints (fun _=>0) 67).toArray 40)=w0 at *
 have HSS:Hid (∀ u,CoreAt A u K->(u.cell? ⟨A.c,77,none⟩=some (.int .i64 (K.nx:Nat))/\u.cell? ⟨A.c,82,none⟩=some (.pointer (some ⟨A.pa,0,none⟩))/\u.cell? ⟨A.c,98,none⟩=some (.int .i64 K.rp)/\u.cell? ⟨A.c,99,none⟩=some (.int .i64 K.md)/\u.cell? ⟨A.c,100,none⟩=some (.int .i64 K.mv))):=fun u hu=>⟨hu.cNx.1,hu.cPat.1,hu.cRp.1,hu.cMd.1,hu.cMv.1⟩
 refine wp_region_noPanic ?_
 refine wp_region_held_drew (S:=fun wx=>wx.cell? ⟨A.c,77,none⟩=some (.int .i64 (K.nx:Nat))/\wx.cell? ⟨A.c,82,none⟩=some (.pointer (some ⟨A.pa,0,none⟩))/\wx.cell? ⟨A.c,98,none⟩=some (.int .i64 K.rp)/\wx.cell? ⟨A.c,99,none⟩=some (.int .i64 K.md)/\wx.cell? ⟨A.c,100,none⟩=some (.int .i64 K.mv)) (by kernel_rfl) (HSS.out _ (HK0.out.drewN 1)) (fun hHeld=>?_)
 refine wpAnyH_take (i:=0) rfl (by kernel_rfl) (by kernel_rfl) (by kernel_rfl) (fun _ _ _ h=>h) (Or.inl ⟨rfl,fun _ _=>rfl⟩) hHeld ?_
 simp only[Act.put,List.getElem_toArray,List.getElem_cons_zero,List.setIfInBounds_toArray,List.set_cons_zero,List.set_cons_succ]
 refine wpAnyH_take (i:=1) rfl (by kernel_rfl) (by kernel_rfl) (by kernel_rfl) (fun _ _ _ h=>h) (Or.inl ⟨rfl,fun _ _=>rfl⟩) hHeld ?_
 simp only[Act.put,List.getElem_toArray,List.getElem_cons_zero,List.getElem_cons_succ,List.setIfInBounds_toArray,List.set_cons_zero,List.set_cons_succ]
 refine wpAnyH_take (i:=2) rfl (by kernel_rfl) (by kernel_rfl) (by kernel_rfl) (fun _ _ _ h=>h) (Or.inl ⟨rfl,fun _ _=>rfl⟩) hHeld ?_
 simp only[Act.put,List.getElem_toArray,List.getElem_cons_zero,List.getElem_cons_succ,List.setIfInBounds_toArray,List.set_cons_zero,List.set_cons_succ]
 refine wpAnyH_take (i:=3) (v:=.int .i64 (K.nx:Nat)) rfl (by kernel_rfl) (by kernel_rfl) (by kernel_rfl) (fun _ _ _ h=>h) (Or.inl ⟨rfl,fun w hw=>by obtain⟨s1,s2,s3,s4,s5⟩:=hw;go_simp⟩) hHeld ?_
 simp only[Act.put,List.getElem_toArray,List.getElem_cons_zero,List.getElem_cons_succ,List.setIfInBounds_toArray,List.set_cons_zero,List.set_cons_succ]
 refine wpAnyH_take (i:=4) rfl (by kernel_rfl) (by kernel_rfl) (by kernel_rfl) (fun _ _ _ h=>h) (Or.inl ⟨rfl,fun _ _=>rfl⟩) hHeld ?_
 simp only[Act.put,List.getElem_toArray,List.getElem_cons_zero,List.getElem_cons_succ,List.setIfInBounds_toArray,List.set_cons_zero,List.set_cons_succ]
 refine wpAnyH_take (i:=5) rfl (by kernel_rfl) (by kernel_rfl) (by kernel_rfl) (fun _ _ _ h=>h) (Or.inl ⟨rfl,fun _ _=>rfl⟩) hHeld ?_
 simp only[Act.put,List.getElem_toArray,List.getElem_cons_zero,List.getElem_cons_succ,List.setIfInBounds_toArray,List.set_cons_zero,List.set_cons_succ]
 refine wpAnyH_take (i:=6) rfl (by kernel_rfl) (by kernel_rfl) (by kernel_rfl) (fun _ _ _ h=>h) (Or.inl ⟨rfl,fun _ _=>rfl⟩) hHeld ?_
 simp only[Act.put,List.getElem_toArray,List.getElem_cons_zero,List.getElem_cons_succ,List.setIfInBounds_toArray,List.set_cons_zero,List.set_cons_succ]
 refine wpAnyH_take (i:=7) (v:=.pointer (some ⟨A.pa,0,none⟩)) rfl (by kernel_rfl) (by kernel_rfl) (by kernel_rfl) (fun _ _ _ h=>h) (Or.inl ⟨rfl,fun w hw=>by obtain⟨s1,s2,s3,s4,s5⟩:=hw;go_simp⟩) hHeld ?_
 simp only[Act.put,List.getElem_toArray,List.getElem_cons_zero,List.getElem_cons_succ,List.setIfInBounds_toArray,List.set_cons_zero,List.set_cons_succ]
 refine wpAnyH_take (i:=9) rfl (by kernel_rfl) (by kernel_rfl) (by kernel_rfl) (fun _ _ _ h=>h) (Or.inl ⟨rfl,fun _ _=>rfl⟩) hHeld ?_
 simp only[Act.put,List.getElem_toArray,List.getElem_cons_zero,List.getElem_cons_succ,List.setIfInBounds_toArray,List.set_cons_zero,List.set_cons_succ]
 refine wpAnyH_take (i:=10) rfl (by kernel_rfl) (by kernel_rfl) (by kernel_rfl) (fun _ _ _ h=>h) (Or.inl ⟨rfl,fun _ _=>rfl⟩) hHeld ?_
 simp only[Act.put,List.getElem_toArray,List.getElem_cons_zero,List.getElem_cons_succ,List.setIfInBounds_toArray,List.set_cons_zero,List.set_cons_succ]
 refine wpAnyH_take (i:=11) rfl (by kernel_rfl) (by kernel_rfl) (by kernel_rfl) (fun _ _ _ h=>h) (Or.inl ⟨rfl,fun _ _=>rfl⟩) hHeld ?_
 simp only[Act.put,List.getElem_toArray,List.getElem_cons_zero,List.getElem_cons_succ,List.setIfInBounds_toArray,List.set_cons_zero,List.set_cons_succ]
 refine wpAnyH_take (i:=12) (v:=.pointer (some ⟨A.pa,0,none⟩)) rfl (by kernel_rfl) (by kernel_rfl) (by kernel_rfl) (fun _ _ _ h=>h) (Or.inl ⟨rfl,fun w hw=>by obtain⟨s1,s2,s3,s4,s5⟩:=hw;go_simp⟩) hHeld ?_
 simp only[Act.put,List.getElem_toArray,List.getElem_cons_zero,List.getElem_cons_succ,List.setIfInBounds_toArray,List.set_cons_zero,List.set_cons_succ]
 refine wpAnyH_take (i:=14) rfl (by kernel_rfl) (by kernel_rfl) (by kernel_rfl) (fun _ _ _ h=>h) (Or.inl ⟨rfl,fun _ _=>rfl⟩) hHeld ?_
 simp only[Act.put,List.getElem_toArray,List.getElem_cons_zero,List.getElem_cons_succ,List.setIfInBounds_toArray,List.set_cons_zero,List.set_cons_succ]
 refine wpAnyH_take (i:=15) rfl (by kernel_rfl) (by kernel_rfl) (by kernel_rfl) (fun _ _ _ h=>h) (Or.inl ⟨rfl,fun _ _=>rfl⟩) hHeld ?_
 simp only[Act.put,List.getElem_toArray,List.getElem_cons_zero,List.getElem_cons_succ,List.setIfInBounds_toArray,List.set_cons_zero,List.set_cons_succ]
 refine wpAnyH_take (i:=16) rfl (by kernel_rfl) (by kernel_rfl) (by kernel_rfl) (fun _ _ _ h=>h) (Or.inl ⟨rfl,fun _ _=>rfl⟩) hHeld ?_
 simp only[Act.put,List.getElem_toArray,List.getElem_cons_zero,List.getElem_cons_succ,List.setIfInBounds_toArray,List.set_cons_zero,List.set_cons_succ]
 refine wpAnyH_take (i:=17) (v:=.int .i64 K.rp) rfl (by kernel_rfl) (by kernel_rfl) (by kernel_rfl) (fun _ _ _ h=>h) (Or.inl ⟨rfl,fun w hw=>by obtain⟨s1,s2,s3,s4,s5⟩:=hw;go_simp⟩) hHeld ?_
 simp only[Act.put,List.getElem_toArray,List.getElem_cons_zero,List.getElem_cons_succ,List.setIfInBounds_toArray,List.set_cons_zero,List.set_cons_succ]
 refine wpAnyH_take (i:=18) rfl (by kernel_rfl) (by kernel_rfl) (by kernel_rfl) (fun _ _ _ h=>h) (Or.inl ⟨rfl,fun _ _=>rfl⟩) hHeld ?_
 simp only[Act.put,List.getElem_toArray,List.getElem_cons_zero,List.getElem_cons_succ,List.setIfInBounds_toArray,List.set_cons_zero,List.set_cons_succ]
 refine wpAnyH_take (i:=19) rfl (by kernel_rfl) (by kernel_rfl) (by kernel_rfl) (fun _ _ _ h=>h) (Or.inl ⟨rfl,fun _ _=>rfl⟩) hHeld ?_
 simp only[Act.put,List.getElem_toArray,List.getElem_cons_zero,List.getElem_cons_succ,List.setIfInBounds_toArray,List.set_cons_zero,List.set_cons_succ]
 refine wpAnyH_take (i:=20) rfl (by kernel_rfl) (by kernel_rfl) (by kernel_rfl) (fun _ _ _ h=>h) (Or.inl ⟨rfl,fun _ _=>rfl⟩) hHeld ?_
 simp only[Act.put,List.getElem_toArray,List.getElem_cons_zero,List.getElem_cons_succ,List.setIfInBounds_toArray,List.set_cons_zero,List.set_cons_succ]
 refine wpAnyH_take (i:=21) (v:=.int .i64 K.md) rfl (by kernel_rfl) (by kernel_rfl) (by kernel_rfl) (fun _ _ _ h=>h) (Or.inl ⟨rfl,fun w hw=>by obtain⟨s1,s2,s3,s4,s5⟩:=hw;go_simp⟩) hHeld ?_
 simp only[Act.put,List.getElem_toArray,List.getElem_cons_zero,List.getElem_cons_succ,List.setIfInBounds_toArray,List.set_cons_zero,List.set_cons_succ]
 refine wpAnyH_take (i:=22) rfl (by kernel_rfl) (by kernel_rfl) (by kernel_rfl) (fun _ _ _ h=>h) (Or.inl ⟨rfl,fun _ _=>rfl⟩) hHeld ?_
 simp only[Act.put,List.getElem_toArray,List.getElem_cons_zero,List.getElem_cons_succ,List.setIfInBounds_toArray,List.set_cons_zero,List.set_cons_succ]
 refine wpAnyH_take (i:=23) rfl (by kernel_rfl) (by kernel_rfl) (by kernel_rfl) (fun _ _ _ h=>h) (Or.inl ⟨rfl,fun _ _=>rfl⟩) hHeld ?_
 simp only[Act.put,List.getElem_toArray,List.getElem_cons_zero,List.getElem_cons_succ,List.setIfInBounds_toArray,List.set_cons_zero,List.set_cons_succ]
 refine wpAnyH_take (i:=24) rfl (by kernel_rfl) (by kernel_rfl) (by kernel_rfl) (fun _ _ _ h=>h) (Or.inl ⟨rfl,fun _ _=>rfl⟩) hHeld ?_
 simp only[Act.put,List.getElem_toArray,List.getElem_cons_zero,List.getElem_cons_succ,List.setIfInBounds_toArray,List.set_cons_zero,List.set_cons_succ]
 refine wpAnyH_take (i:=25) (v:=.int .i64 K.mv) rfl (by kernel_rfl) (by kernel_rfl) (by kernel_rfl) (fun _ _ _ h=>h) (Or.inl ⟨rfl,fun w hw=>by obtain⟨s1,s2,s3,s4,s5⟩:=hw;go_simp⟩) hHeld ?_
 simp only[Act.put,List.getElem_toArray,List.getElem_cons_zero,List.getElem_cons_succ,List.setIfInBounds_toArray,List.set_cons_zero,List.set_cons_succ]
 refine wpAnyH_ready (rs:=[8,27]) (by kernel_rfl) (by simp) ?_
 refine AllReadyH.cons rfl (fun K' hK=>?_) (AllReadyH.cons rfl (fun K' hK=>?_) AllReadyH.nil)
 case' refine_1=>
  go_simp
  refine(Patrol.cursor_any _ A.pa K.cu K.ca (HK0.out.drewN 1).pat).mono ?_
  rintro e w1 ⟨rfl,rfl⟩
  refine hK.out _ _ (HSS.out _ (HK0.out.drewN 1)) (fun hHeld=>?_)
  clear hK K'
  refine wpAnyH_ready (rs:=[13,27]) (by kernel_rfl) (by simp) ?_
  refine AllReadyH.cons rfl (fun K' hK=>?_) (AllReadyH.cons rfl (fun K' hK=>?_) AllReadyH.nil)
  case' refine_1=>
   go_simp
   refine(Patrol.calls_any _ A.pa K.cu K.ca (HK0.out.drewN 1).pat).mono ?_
   rintro e w1 ⟨rfl,rfl⟩
   refine hK.out _ _ (HSS.out _ (HK0.out.drewN 1)) (fun hHeld=>?_)
   clear hK K'
   refine wpAnyH_take (i:=26) rfl (by kernel_rfl) (by kernel_rfl) (by kernel_rfl) (fun _ _ _ h=>h) (Or.inl ⟨rfl,fun _ _=>exec_build39 rfl rfl rfl rfl rfl rfl rfl⟩) hHeld ?_
   simp only[Act.put,List.getElem_toArray,List.getElem_cons_zero,List.getElem_cons_succ,List.setIfInBounds_toArray,List.set_cons_zero,List.set_cons_succ]
   refine wpAnyH_ready (rs:=[27]) (by kernel_rfl) (by simp) ?_
   refine AllReadyH.cons rfl (fun K' hK=>?_) AllReadyH.nil
   refine step_alloc_vw rfl rfl ?_
   refine hK.out _ _ (HSS.out _ ((HK0.out.drewN 1).chg0 ((Chg.refl (fun _=>False) w0.drew).alloc (.cells (ints (fun _=>0) 67).toArray 40)))) (fun hHeld=>?_)
   clear hK K'
   simp only[Act.put,List.getElem_toArray,List.getElem_cons_zero,List.getElem_cons_succ,List.setIfInBounds_toArray,List.set_cons_zero,List.set_cons_succ]
   refine wpAnyH_ready (rs:=[28]) (by kernel_rfl) (by simp) ?_
   refine AllReadyH.cons rfl (fun K' hK=>?_) AllReadyH.nil
   refine step_store_vw rfl (.tmp 3) (.tmp 33) rfl w0.heap.size rfl (vw0 (K.nx:Nat) K.cu K.ca K.rp K.md K.mv) rfl (IB.new w0.drew 40 67 (fun _=>0)) ?_
   intro w2 C2 G2
   have K2:=((HK0.out.drewN 1).chg0 ((Chg.refl (fun _=>False) w0.drew).alloc (.cells (ints (fun _=>0) 67).toArray 40))).far HLOW.out (Nat.le_of_lt HR0.out.lt) G2
   refine hK.out _ _ (HSS.out _ K2) (fun hHeld=>?_)
   clear hK K' hHeld
   simp only[Act.put,List.getElem_toArray,List.getElem_cons_zero,List.getElem_cons_succ]
   refine wpAnyH_done (by kernel_rfl) ?_ _
   refine NoPanic.normal ?_
   have HR2:=hyd ((HR0.out.chg ((Chg.refl (fun _=>False) w0).drew.alloc (.cells (ints (fun _=>0) 67).toArray 40)) (fun f=>f)).chg G2 (by have:=HR0.out.lt;omega))
   have HG2:=hyd ((HG0.out.trans ((Chg.refl (fun _=>False) w0).drew.alloc (.cells (ints (fun _=>0) 67).toArray 40))).trans' G2 (fun k hk e=>by have:=HG0.out.size;omega))
   have HC2:=hyd C2
   have HK2:=hyd K2
   clear C2 G2 K2
  case' refine_2=>
   refine step_alloc_vw rfl rfl ?_
   refine hK.out _ _ (HSS.out _ ((HK0.out.drewN 1).chg0 ((Chg.refl (fun _=>False) w0.drew).alloc (.cells (ints (fun _=>0) 67).toArray 40)))) (fun hHeld=>?_)
   clear hK K'
   simp only[Act.put,List.getElem_toArray,List.getElem_cons_zero,List.getElem_cons_succ,List.setIfInBounds_toArray,List.set_cons_zero,List.set_cons_succ]
   refine wpAnyH_ready (rs:=[13]) (by kernel_rfl) (by simp) ?_
   refine AllReadyH.cons rfl (fun K' hK=>?_) AllReadyH.nil
   go_simp
   refine(Patrol.calls_any _ A.pa K.cu K.ca ((HK0.out.drewN 1).chg0 ((Chg.refl (fun _=>False) w0.drew).alloc (.cells (ints (fun _=>0) 67).toArray 40))).pat).mono ?_
   rintro e w1 ⟨rfl,rfl⟩
   refine hK.out _ _ (HSS.out _ ((HK0.out.drewN 1).chg0 ((Chg.refl (fun _=>False) w0.drew).alloc (.cells (ints (fun _=>0) 67).toArray 40)))) (fun hHeld=>?_)
   clear hK K'
   refine wpAnyH_take (i:=26) rfl (by kernel_rfl) (by kernel_rfl) (by kernel_rfl) (fun _ _ _ h=>h) (Or.inl ⟨rfl,fun _ _=>exec_build39 rfl rfl rfl rfl rfl rfl rfl⟩) hHeld ?_
   simp only[Act.put,List.getElem_toArray,List.getElem_cons_zero,List.getElem_cons_succ,List.setIfInBounds_toArray,List.set_cons_zero,List.set_cons_succ]
   refine wpAnyH_ready (rs:=[28]) (by kernel_rfl) (by simp) ?_
   refine AllReadyH.cons rfl (fun K' hK=>?_) AllReadyH.nil
   refine step_store_vw rfl (.tmp 3) (.tmp 33) rfl w0.heap.size rfl (vw0 (K.nx:Nat) K.cu K.ca K.rp K.md K.mv) rfl (IB.new w0.drew 40 67 (fun _=>0)) ?_
   intro w2 C2 G2
   have K2:=((HK0.out.drewN 1).chg0 ((Chg.refl (fun _=>False) w0.drew).alloc (.cells (ints (fun _=>0) 67).toArray 40))).far HLOW.out (Nat.le_of_lt HR0.out.lt) G2
   refine hK.out _ _ (HSS.out _ K2) (fun hHeld=>?_)
   clear hK K' hHeld
   simp only[Act.put,List.getElem_toArray,List.getElem_cons_zero,List.getElem_cons_succ]
   refine wpAnyH_done (by kernel_rfl) ?_ _
   refine NoPanic.normal ?_
   have HR2:=hyd ((HR0.out.chg ((Chg.refl (fun _=>False) w0).drew.alloc (.cells (ints (fun _=>0) 67).toArray 40)) (fun f=>f)).chg G2 (by have:=HR0.out.lt;omega))
   have HG2:=hyd ((HG0.out.trans ((Chg.refl (fun _=>False) w0).drew.alloc (.cells (ints (fun _=>0) 67).toArray 40))).trans' G2 (fun k hk e=>by have:=HG0.out.size;omega))
   have HC2:=hyd C2
   have HK2:=hyd K2
   clear C2 G2 K2
 case' refine_2=>
  refine step_alloc_vw rfl rfl ?_
  refine hK.out _ _ (HSS.out _ ((HK0.out.drewN 1).chg0 ((Chg.refl (fun _=>False) w0.drew).alloc (.cells (ints (fun _=>0) 67).toArray 40)))) (fun hHeld=>?_)
  clear hK K'
  simp only[Act.put,List.getElem_toArray,List.getElem_cons_zero,List.getElem_cons_succ,List.setIfInBounds_toArray,List.set_cons_zero,List.set_cons_succ]
  refine wpAnyH_ready (rs:=[8]) (by kernel_rfl) (by simp) ?_
  refine AllReadyH.cons rfl (fun K' hK=>?_) AllReadyH.nil
  go_simp
  refine(Patrol.cursor_any _ A.pa K.cu K.ca ((HK0.out.drewN 1).chg0 ((Chg.refl (fun _=>False) w0.drew).alloc (.cells (ints (fun _=>0) 67).toArray 40))).pat).mono ?_
  rintro e w1 ⟨rfl,rfl⟩
  refine hK.out _ _ (HSS.out _ ((HK0.out.drewN 1).chg0 ((Chg.refl (fun _=>False) w0.drew).alloc (.cells (ints (fun _=>0) 67).toArray 40)))) (fun hHeld=>?_)
  clear hK K'
  refine wpAnyH_ready (rs:=[13]) (by kernel_rfl) (by simp) ?_
  refine AllReadyH.cons rfl (fun K' hK=>?_) AllReadyH.nil
  go_simp
  refine(Patrol.calls_any _ A.pa K.cu K.ca ((HK0.out.drewN 1).chg0 ((Chg.refl (fun _=>False) w0.drew).alloc (.cells (ints (fun _=>0) 67).toArray 40))).pat).mono ?_
  rintro e w1 ⟨rfl,rfl⟩
  refine hK.out _ _ (HSS.out _ ((HK0.out.drewN 1).chg0 ((Chg.refl (fun _=>False) w0.drew).alloc (.cells (ints (fun _=>0) 67).toArray 40)))) (fun hHeld=>?_)
  clear hK K'
  refine wpAnyH_take (i:=26) rfl (by kernel_rfl) (by kernel_rfl) (by kernel_rfl) (fun _ _ _ h=>h) (Or.inl ⟨rfl,fun _ _=>exec_build39 rfl rfl rfl rfl rfl rfl rfl⟩) hHeld ?_
  simp only[Act.put,List.getElem_toArray,List.getElem_cons_zero,List.getElem_cons_succ,List.setIfInBounds_toArray,List.set_cons_zero,List.set_cons_succ]
  refine wpAnyH_ready (rs:=[28]) (by kernel_rfl) (by simp) ?_
  refine AllReadyH.cons rfl (fun K' hK=>?_) AllReadyH.nil
  refine step_store_vw rfl (.tmp 3) (.tmp 33) rfl w0.heap.size rfl (vw0 (K.nx:Nat) K.cu K.ca K.rp K.md K.mv) rfl (IB.new w0.drew 40 67 (fun _=>0)) ?_
  intro w2 C2 G2
  have K2:=((HK0.out.drewN 1).chg0 ((Chg.refl (fun _=>False) w0.drew).alloc (.cells (ints (fun _=>0) 67).toArray 40))).far HLOW.out (Nat.le_of_lt HR0.out.lt) G2
  refine hK.out _ _ (HSS.out _ K2) (fun hHeld=>?_)
  clear hK K' hHeld
  simp only[Act.put,List.getElem_toArray,List.getElem_cons_zero,List.getElem_cons_succ]
  refine wpAnyH_done (by kernel_rfl) ?_ _
  refine NoPanic.normal ?_
  have HR2:=hyd ((HR0.out.chg ((Chg.refl (fun _=>False) w0).drew.alloc (.cells (ints (fun _=>0) 67).toArray 40)) (fun f=>f)).chg G2 (by have:=HR0.out.lt;omega))
  have HG2:=hyd ((HG0.out.trans ((Chg.refl (fun _=>False) w0).drew.alloc (.cells (ints (fun _=>0) 67).toArray 40))).trans' G2 (fun k hk e=>by have:=HG0.out.size;omega))
  have HC2:=hyd C2
  have HK2:=hyd K2
  clear C2 G2 K2
 all_goals
  have hN0:=HR0.out.lt
  have hNG:=HC2.out.lt
  obtain⟨N,HN⟩:∃ N,Hid (N=w0.heap.size):=⟨_,rfl⟩
  rw[<-HN.out] at HC2 hNG hN0
  try rw[show (w0.drewN 1).heap.size=N from HN.out.symm]
  try rw[show w0.drew.heap.size=N from HN.out.symm]
  try rw[show w0.heap.size=N from HN.out.symm]
  have hs1:=Patrol.slice42_a N 0
  obtain⟨c1,-⟩:=HK2.out.cPool
  have hne2:¬ w.heap.size=N:=by omega
  clear HK0 HK HG0 HR0 HSS
  go_wp2_with fail
  go_region_held3 (fun wx=>wx.cell? ⟨A.c,1,none⟩=some (.pointer (some ⟨A.po,0,none⟩)))
   (first | exact c1 | exact z1 | exact y1)
   (first
    | (refine step_copy_vw rfl (.tmp 35) (.tmp 40) rfl N 0 w2.heap.size rfl rfl HC3.out HI3.out (by omega) ?_;intro w4 C4 G4;have HC4:=hyd C4;have K4:=HK3.out.far HLOW.out (Nat.le_of_lt hN0) G4;obtain⟨y1,-⟩:=K4.cPool;have HK4:=hyd K4;have HR4:=hyd (HR3.out.chg G4 hne2);have HG4:=hyd (HG3.out.trans' G4 (fun k hk e=>by omega));clear C4 G4 K4 HC3 HI3 HK3 HR3 HG3)
    | (go_at_call 53;refine(Pool.states_any _ A.po K.F (HK2.out.drewN 1).pool).mono ?_;rintro e w3 ⟨rfl,I3,G3⟩;have K3:=(HK2.out.drewN 1).chg0 G3;obtain⟨z1,-⟩:=K3.cPool;have HI3:=hyd I3;have HK3:=hyd K3;have HC3:=hyd ((HC2.out.chg (Chg.refl (fun _=>False) w2).drew (fun f=>f)).chg G3 (fun f=>f));have HR3:=hyd ((HR2.out.chg (Chg.refl (fun _=>False) w2).drew (fun f=>f)).chg G3 (fun f=>f));have HG3:=hyd (HG2.out.drew.trans G3);clear I3 G3 K3))
  all_goals
   have hs2:=Patrol.slice42_a N 40
   obtain⟨c96,-⟩:=HK4.out.cHea
   clear hs1 c1
   go_wp2_with fail
   go_region_held3 (fun wx=>wx.cell? ⟨A.c,96,none⟩=some (.pointer (some ⟨A.h,0,none⟩)))
    (first | exact c96 | exact z96 | exact y96)
    (first
     | (refine step_copy_vw rfl (.tmp 43) (.tmp 48) rfl N 40 (w4.heap.size+1) rfl rfl HC6.out HI6.out (by omega) ?_;intro w7 C7 G7;have HC7:=hyd C7;have K7:=HK6.out.far HLOW.out (Nat.le_of_lt hN0) G7;obtain⟨y96,-⟩:=K7.cHea;have HK7:=hyd K7;have HR7:=hyd (HR6.out.chg G7 hne2);have HG7:=hyd (HG6.out.trans' G7 (fun k hk e=>by omega));clear C7 G7 K7 HC6 HI6 HK6 HR6 HG6)
     | (go_at_call 54;refine(Health.reads_v _ A.h K.hR K.hN K.hS (HK4.out.drewN 1).hea HK4.out.wf.hea).mono ?_;rintro e w6 ⟨rfl,I6,G6⟩;have K6:=(HK4.out.drewN 1).chg0 G6;obtain⟨z96,-⟩:=K6.cHea;have HI6:=hyd I6;have HK6:=hyd K6;have HC6:=hyd ((HC4.out.chg (Chg.refl (fun _=>False) w4).drew (fun f=>f)).chg G6 (fun f=>f));have HR6:=hyd ((HR4.out.chg (Chg.refl (fun _=>False) w4).drew (fun f=>f)).chg G6 (fun f=>f));have HG6:=hyd (HG4.out.drew.trans G6);clear I6 G6 K6))
   all_goals
    have hs3:=Patrol.slice42_a N 52
    obtain⟨c96,-⟩:=HK7.out.cHea
    clear hs2
    go_wp2_with fail
    go_region_held3 (fun wx=>wx.cell? ⟨A.c,96,none⟩=some (.pointer (some ⟨A.h,0,none⟩)))
     (first | exact c96 | exact z96 | exact y96)
     (first
      | (refine step_copy_vw rfl (.tmp 51) (.tmp 56) rfl N 52 (w7.heap.size+1) rfl rfl HC8.out HI8.out (by omega) ?_;intro w9 C9 G9;have HC9:=hyd C9;have K9:=HK8.out.far HLOW.out (Nat.le_of_lt hN0) G9;obtain⟨y96,-⟩:=K9.cHea;have HK9:=hyd K9;have HR9:=hyd (HR8.out.chg G9 hne2);have HG9:=hyd (HG8.out.trans' G9 (fun k hk e=>by omega));clear C9 G9 K9 HC8 HI8 HK8 HR8 HG8)
      | (go_at_call 55;refine(Health.scores_v _ A.h K.hR K.hN K.hS (HK7.out.drewN 1).hea HK7.out.wf.hea).mono ?_;rintro e w8 ⟨rfl,I8,G8⟩;have K8:=(HK7.out.drewN 1).chg0 G8;obtain⟨z96,-⟩:=K8.cHea;have HI8:=hyd I8;have HK8:=hyd K8;have HC8:=hyd ((HC7.out.chg (Chg.refl (fun _=>False) w7).drew (fun f=>f)).chg G8 (fun f=>f));have HR8:=hyd ((HR7.out.chg (Chg.refl (fun _=>False) w7).drew (fun f=>f)).chg G8 (fun f=>f));have HG8:=hyd (HG7.out.drew.trans G8);clear I8 G8 K8))
    all_goals
     clear c96 hs3
     generalize HBB:pt 52 K.hS (pt 40 K.hR (pt 0 K.F (vw0 (K.nx:Nat) K.cu K.ca K.rp K.md K.mv)))=B at HC9
     have HB:=hyd HBB
     clear HBB
     go_wp2_with fail
     go_loopg [58] 25 (fun kx s58 wr=>∃ i:Nat,s58=.int .i64 i/\i<=25/\25 - i<=kx/\Hid (IB wr N 40 67 (vwL i K.L B))/\Hid (CoreAt A wr K)/\Hid (IB wr w.heap.size 40 67 (fun _=>0))/\Hid (Chg (fun _=>False) w wr))
     case atStart=>exact⟨0,rfl,by omega,by omega,(HC9.out.congr (fun j _=>(if_neg (by omega)).symm)),HK9.out,HR9.out,HG9.out⟩
     case round=>
      obtain⟨i,rfl,hi25,hkx,HC,HKr,HR,HG⟩:=hrel
      by_cases hlt:i<25
      ·
       have hltz:(i:Int)<25:=by omega
       obtain⟨cb,fb⟩:=HC.out.cell (12+i) (by omega)
       have GN:Chg (·=N) wr (wr.setCell ⟨N,12+i,none⟩ (.int .i64 (-1))):=(Chg.refl (·=N) wr).setCell (Or.inl rfl) _ _
       have HC4:=hyd (HC.out.set (12+i) (-1))
       have K4:=HKr.out.far HLOW.out (Nat.le_of_lt hN0) GN
       obtain⟨c2,-⟩:=K4.cMap
       have HK4:=hyd K4
       have HR4:=hyd (HR.out.chg GN hne2)
       have HG4:=hyd (HG.out.trans' GN (fun k hk e=>by omega))
       clear K4 GN HC HKr HR HG
       by_cases hL:K.L i = -1
       ·
        have hat:=Pmap.at_none _ A.ma K.L HK4.out.map i hlt hL
        have HC5:Hid (IB (wr.setCell ⟨N,12+i,none⟩ (.int .i64 (-1))) N 40 67 (vwL (i+1) K.L B)):=by
         have:=HC4.out
         rw[<-hL,vwL_next] at this
         rw[hL] at this
         exact this
        clear HC4 hL
        go_wp2_with fail
        refine hat.mono ?_
        rintro e w5 ⟨rfl,rfl⟩
        go_wp2
        go_roundg (25 - (i+1))
        case measure=>omega
        case rel=>exact⟨i+1,by simp,by omega,Nat.le_refl _,HC5.out,HK4.out,HR4.out,HG4.out⟩
       ·
        have hat:=Pmap.at_yes _ A.ma K.L HK4.out.map i hlt hL
        obtain⟨cb5,fb5⟩:=HC4.out.cell (12+i) (by omega)
        have GN5:Chg (·=N) (wr.setCell ⟨N,12+i,none⟩ (.int .i64 (-1))) ((wr.setCell ⟨N,12+i,none⟩ (.int .i64 (-1))).setCell ⟨N,12+i,none⟩ (.int .i64 (K.L i))):=(Chg.refl (·=N) _).setCell (Or.inl rfl) _ _
        have HC5:Hid (IB ((wr.setCell ⟨N,12+i,none⟩ (.int .i64 (-1))).setCell ⟨N,12+i,none⟩ (.int .i64 (K.L i))) N 40 67 (vwL (i+1) K.L B)):=by
         have:=HC4.out.set (12+i) (K.L i)
         rw[upd_two,vwL_next] at this
         exact this
        have HK5:=hyd (HK4.out.far HLOW.out (Nat.le_of_lt hN0) GN5)
        have HR5:=hyd (HR4.out.chg GN5 hne2)
        have HG5:=hyd (HG4.out.trans' GN5 (fun k hk e=>by omega))
        clear HC4 HK4 HR4 HG4 GN5 hL
        go_wp2_with fail
        refine hat.mono ?_
        rintro e w5 ⟨rfl,rfl⟩
        go_wp2
        go_roundg (25 - (i+1))
        case measure=>omega
        case rel=>exact⟨i+1,by simp,by omega,Nat.le_refl _,HC5.out,HK5.out,HR5.out,HG5.out⟩
      ·
       have hltz:¬ (i:Int)<25:=by omega
       have e25:i=25:=by omega
       subst e25
       go_wp2_with (first | refine wpList_load_vw rfl (.tmp 3) rfl N rfl HC.out ?_ | refine wpList_store_vw rfl (.tmp 2) (.tmp 80) rfl w.heap.size rfl rfl HR.out ?_)
       intro w10 C10 G10
       have HC10:Hid (IB w10 w.heap.size 40 67 (vwF K)):=C10.congr (fun j hj=>by rw[<-HB.out];exact vw_ends K j hj)
       have HK10:=hyd (HKr.out.far HLOW.out (Nat.le_refl _) G10)
       have HG10:=hyd (HG.out.trans' G10 (fun k hk e=>by omega))
       clear C10 G10 HC HKr HR HG
       go_wp2
       refine bodyPost_ret (results_vw rfl _ rfl HC10.out) rfl ?_
       exact⟨rfl,HK10.out,HG10.out⟩
end Go.Proofs.YtbhbilcieodbhaaGreat
/-
  Founds; which of them counts, as lists say it. No condition: lemmas.
-/
namespace Go.Proofs.YtbhbilcieodbhaaGreat.Claim
set_option maxRecDepth 100000
open Point
open Go.Sort
abbrev Fnd:=Int × Int × Int × Int × Int × Bool
abbrev Fnd.P (f:Fnd):Int:=f.1
abbrev Fnd.T (f:Fnd):Int:=f.2.1
abbrev Fnd.O (f:Fnd):Int:=f.2.2.1
abbrev Fnd.S (f:Fnd):Int:=f.2.2.2.1
abbrev Fnd.C (f:Fnd):Int:=f.2.2.2.2.1
abbrev Fnd.L (f:Fnd):Bool:=f.2.2.2.2.2
def f0:Fnd:=⟨0,0,0,0,0,false⟩
def fL (f:Fnd):List Value:=[.int .i64 f.P,.int .i64 f.T,.int .i64 f.O,.int .i64 f.S,.int .i64 f.C,.bool f.L]
def fA (f:Fnd):Array Value:=(fL f).toArray
theorem fL_length (f:Fnd):(fL f).length=6:=rfl
theorem fL_one (f:Fnd):∀ v ∈ fL f,v.oneCell'=true:=by
 intro v hv
 simp only[fL,List.mem_cons,List.not_mem_nil,or_false] at hv
 rcases hv with rfl | rfl | rfl | rfl | rfl | rfl <;> rfl
def snd (f:Fnd):Bool:=decide (0<=f.P) && decide (f.P<96) && decide (0<=f.O) && decide (f.O<25) && decide (0<=f.S) && decide (f.S<1099511627776) && decide (0<=f.C) && decide (f.C<256)
theorem snd_iff (f:Fnd):snd f=true<->0<=f.P/\f.P<96/\0<=f.O/\f.O<25/\0<=f.S/\f.S<1099511627776/\0<=f.C/\f.C<256:=by
 simp[snd,and_assoc]
def ahd (a b:Int):Bool:=decide (0<=a) && decide (a<256) && decide (0<=b) && decide (b<256) && decide (1<=(b - a) % 256) && decide ((b - a) % 256<=127)
def cnd (of ab:Int) (f:Fnd):Bool:=snd f && decide (f.O=of) && decide (ab<f.S)
def mx (l:List Fnd):Int:=l.foldl (fun t f=>if t<f.S then f.S else t) (-1)
def sel (l:List Fnd) (of ab:Int):List Fnd:=(l.filter (cnd of ab)).filter fun f=>decide (f.S=mx (l.filter (cnd of ab)))
def byP (l:List Fnd):List Fnd:=(List.range 96).flatMap fun (p:Nat)=>l.filter fun f=>decide (f.P=(p:Int))
def lat (l:List Fnd) (of ab:Int):List Fnd:=byP (sel l of ab)
def best (b:Fnd) (r:List Fnd):Fnd:=r.foldl (fun b f=>if ahd f.C b.C then f else b) b
def pk:List Fnd->Option Fnd
 | []=>none
 | x :: r=>some (best x r)
def newest (l:List Fnd) (of ab:Int):Option Fnd:=pk (lat l of ab)
theorem mem_byP {l:List Fnd} {f:Fnd}:f ∈ byP l<->f ∈ l/\0<=f.P/\f.P<96:=by
 unfold byP
 rw[List.mem_flatMap]
 constructor
 ·
  rintro ⟨q,hq,h⟩
  have h1:=List.mem_filter.1 h
  have h2:=h1.2
  simp only[decide_eq_true_eq] at h2
  rw[List.mem_range] at hq
  exact⟨h1.1,by omega,by omega⟩
 ·
  rintro ⟨h,h1,h2⟩
  exact⟨f.P.toNat,List.mem_range.2 (by omega),List.mem_filter.2 ⟨h,by simp only[decide_eq_true_eq];omega⟩⟩
end Go.Proofs.YtbhbilcieodbhaaGreat.Claim
