/-
  nand.New: a chip. No condition. What is done with a chip: Write, Erase, Flip, FailProgram, FailErase, Cut. Condition: the block holds a chip that can be. Write. Condition: the block holds a chip that can be; the bytes lie elsewhere.
-/
import Derived.Test.YtbhbilcieodbhaaGreatP02
import Derived.Test.YtbhbilcieodbhaaGreatP01
import Derived.Maps.AppendAt
import Derived.Deep.AppendLies
import Derived.Deep.RegionLaw
import Derived.Deep.MidRow
import Derived.Deep.RegionHeld3
import Derived.WalkKit
import Derived.Deep.RegionWith
import Derived.Deep.Draws
import Derived.BigQuiet
import Derived.ChangeAlike
import Derived.Deep.QuietTactic
import Derived.Outline
import Derived.RegionCalls
import Derived.RegionTactic
import Derived.WalkLawsBesides
import Derived.WalkSpells
import Derived.Deep.LoopGhost
import Derived.Laws.Rows
import Derived.Laws.Tables
import Derived.Laws.CopyOwn
namespace Go.Proofs.YtbhbilcieodbhaaGreat
open Go.RowKit
set_option maxRecDepth 1000000
def zBlo:Blo:=⟨false,false,0,false,0⟩
def newS:Chp:={ ch:=fun _=>newK,bl:=fun _=>zBlo,on:=true,lim:=false,bud:=0,steps:=0 }
theorem bys_rep (n v:Nat) (h:v<256):Bys (List.replicate n v):=fun m hm=>by rw[(List.mem_replicate.1 hm).2];exact h
theorem newK_ok:newK.Ok:=⟨rfl,rfl,bys_rep _ _ (by omega),bys_rep _ _ (by omega),by decide⟩
def tail73:List Value:=((List.range 12).flatMap fun _=>blc zBlo) ++ (List.replicate 12 (.int .i64 0) ++ [.bool false,.bool false,.int .i64 0,.int .i64 0])
theorem zero_tail:Tryz.zeroCells96.toList.drop 49920=tail73:=by kernel_rfl
theorem tail_bl:∀ j:Fin 48,tail73[j.val]?=some ((blc zBlo).getD (j.val % 4) undef):=by
 intro j
 match j with
 | ⟨j,hj⟩=>
  simp only
  have:∀ q r:Nat,q<12->r<4->tail73[4*q+r]?=some ((blc zBlo).getD r undef):=by
   intro q r hq hr
   rcases(by omega:q=0\/q=1\/q=2\/q=3\/q=4\/q=5\/q=6\/q=7\/q=8\/q=9\/q=10\/q=11) with e | e | e | e | e | e | e | e | e | e | e | e <;> subst e <;>
   rcases(by omega:r=0\/r=1\/r=2\/r=3) with e | e | e | e <;> subst e <;> rfl
  have h:=this (j / 4) (j % 4) (by omega) (by omega)
  rw[show 4*(j / 4)+j % 4=j from by omega] at h
  exact h
theorem zero_bl (i:Nat) (h1:49920<=i) (h2:i<49968):Tryz.zeroCells96[i]?=some (ccell newS i):=by
 have h:=tail_bl ⟨i - 49920,by omega⟩
 rw[<-zero_tail,List.getElem?_drop,Array.getElem?_toList] at h
 simp only at h
 rw[show 49920+(i - 49920)=i from by omega] at h
 rw[h]
 unfold ccell
 rw[if_neg (by omega),if_pos h2];rfl
theorem zero_steps:Tryz.zeroCells96[49983]?=some (.int .i64 0):=by
 have h:tail73[63]?=some (.int .i64 0):=rfl
 rw[<-zero_tail,List.getElem?_drop,Array.getElem?_toList] at h
 exact h
def made73 (z:Array Value):Array Value:=((z.setIfInBounds 49980 (Value.bool true)).setIfInBounds 49981 (Value.bool false)).setIfInBounds 49982 (Value.int IntKind.i64 0)
theorem made_size:(made73 Tryz.zeroCells96).size=49984:=by unfold made73;rw[Array.size_setIfInBounds,Array.size_setIfInBounds,Array.size_setIfInBounds];exact Tryz.zeroCells96_size
theorem made_bl (i:Nat) (h1:49920<=i) (h2:i<49968):(made73 Tryz.zeroCells96)[i]?=some (ccell newS i):=by
 unfold made73
 rw[Array.getElem?_setIfInBounds_ne (by omega),Array.getElem?_setIfInBounds_ne (by omega),Array.getElem?_setIfInBounds_ne (by omega)]
 exact zero_bl i h1 h2
theorem made_pw (i:Nat) (h1:49980<=i) (h2:i<49984):(made73 Tryz.zeroCells96)[i]?=some (ccell newS i):=by
 have hs:=Tryz.zeroCells96_size
 unfold made73
 rcases(by omega:i=49980\/i=49981\/i=49982\/i=49983) with e | e | e | e <;> subst e
 ·
  rw[Array.getElem?_setIfInBounds_ne (by omega),Array.getElem?_setIfInBounds_ne (by omega),Array.getElem?_setIfInBounds_self_of_lt (by omega)];rfl
 ·
  rw[Array.getElem?_setIfInBounds_ne (by omega),Array.getElem?_setIfInBounds_self_of_lt (by rw[Array.size_setIfInBounds];omega)];rfl
 ·
  rw[Array.getElem?_setIfInBounds_self_of_lt (by rw[Array.size_setIfInBounds,Array.size_setIfInBounds];omega)];rfl
 ·
  rw[Array.getElem?_setIfInBounds_ne (by omega),Array.getElem?_setIfInBounds_ne (by omega),Array.getElem?_setIfInBounds_ne (by omega),zero_steps];rfl
theorem blk_new (w:World) (cs:Array Value) (t:TypeId) (n:Nat) (h:cs.size=n):Sto (w.alloc (.cells cs t)) w.heap.size t n (fun i=>cs[i]?.getD undef):=
 ⟨cs,by show (w.heap.push _)[w.heap.size]?=_;simp,h,fun i hi=>by
  have e:cs[i]?=some cs[i]:=Array.getElem?_eq_getElem (by omega)
  simp only[e];rfl⟩
theorem new_cell (i:Nat) (h:i<49920):ccell newS i=(ckc newK).getD (i % 130) undef:=by unfold ccell;rw[if_pos h];rfl
theorem Chg.fresh {u w w':World} {g:Nat} (h:Chg (fun _=>False) u w) (h2:Chg (·=g) w w') (hg:u.heap.size<=g):Chg (fun _=>False) u w':=h.trans' h2 (fun i hi e=>by omega)
set_option maxHeartbeats 1000000 in
theorem nnew_any (w:World) :
 Calls Tryz.prog 20 #[] w fun e w'=>e=.returned (.pointer (some ⟨w.heap.size,0,none⟩))/\ChipAt w' w.heap.size newS/\Chg (fun _=>False) w w':=by
 have hB0:=blk_new w (made73 Tryz.zeroCells96) 96 49984 made_size
 have hG0:Chg (fun _=>False) w (w.alloc (.cells (made73 Tryz.zeroCells96) 96)):=(Chg.refl _ _).alloc _
 have HM:Hid (((Tryz.zeroCells96.setIfInBounds 49980 (Value.bool true)).setIfInBounds 49981 (Value.bool false)).setIfInBounds 49982 (Value.int IntKind.i64 0)=(made73 Tryz.zeroCells96)):=rfl
 go_enter Tryz.func20,Tryz.ntmps20
 go_wp2_with fail
 rw[HM.out]
 clear HM
 generalize hq:w.heap.size=q at *
 have hqs:=Nat.le_of_eq hq
 have HQ:=hyd hq
 clear hq
 generalize w.alloc (.cells (made73 Tryz.zeroCells96) 96)=w1 at *
 go_loopw [6] (fun t6 wr=>∃ (b:Nat) (f:Nat->Value),b<=12/\t6=.int .i64 b/\Sto wr q 96 49984 f/\(∀ i,49920<=i->i<49968->f i=ccell newS i)/\(∀ i,49980<=i->i<49984->f i=ccell newS i)/\(∀ i,i<4160*b->f i=ccell newS i)/\(∀ c,c<b->f (49968+c)=.int .i64 0)/\Chg (fun _=>False) w wr) (fun t6 _=>12 - (intOf t6).toNat)
 case atStart=>exact⟨0,_,by omega,rfl,hB0,fun i h1 h2=>by rw[made_bl i h1 h2];rfl,fun i h1 h2=>by rw[made_pw i h1 h2];rfl,fun i hi=>by omega,fun c hc=>by omega,hG0⟩
 case round=>
  clear hB0 hG0
  obtain⟨b,f,hb,rfl,hB,h1,h2,h3,h4,hG⟩:=hrel
  by_cases hlt:b<12
  ·
   have H1:=hyd h1
   have H2:=hyd h2
   have H3:=hyd h3
   have H4:=hyd h4
   clear h1 h2 h3 h4
   go_wp2_with fail
   refine(clear_block q b hlt f _ hB).mono ?_
   rintro e w2 ⟨rfl,hB2,hG2⟩
   have hG3:=hG.fresh hG2 hqs
   clear hG hG2 hB
   go_wp2
   refine⟨⟨b+1,_,by omega,by go_num,hB2,fun i g1 g2=>?_,fun i g1 g2=>?_,fun i g1=>?_,fun c g1=>?_,hG3⟩,by simp[intOf];omega⟩
   ·
    rw[upL_one,if_neg (by omega)]
    unfold clrF
    rw[if_neg (by omega)]
    exact H1.out i g1 g2
   ·
    rw[upL_one,if_neg (by omega)]
    unfold clrF
    rw[if_neg (by omega)]
    exact H2.out i g1 g2
   ·
    rw[upL_one,if_neg (by omega)]
    unfold clrF
    by_cases hc:4160*b<=i
    ·
     rw[if_pos (by omega),new_cell i (by omega)]
    ·
     rw[if_neg (by omega)]
     exact H3.out i (by omega)
   ·
    rw[upL_one]
    by_cases hc:c=b
    ·
     rw[if_pos (by omega)]
    ·
     rw[if_neg (by omega)]
     unfold clrF
     rw[if_neg (by omega)]
     exact H4.out c (by omega)
  ·
   have e:b=12:=by omega
   subst e
   have hC:ChipAt wr q newS:=hB.ext fun i hi=>by
    by_cases g1:i<49920
    ·
     exact h3 i (by omega)
    ·
     by_cases g2:i<49968
     ·
      exact h1 i (by omega) g2
     ·
      by_cases g3:i<49980
      ·
       have:=h4 (i - 49968) (by omega)
       rw[show 49968+(i - 49968)=i from by omega] at this
       rw[this]
       have h5:=ccell_reads newS (i - 49968) (by omega)
       rw[show 49968+(i - 49968)=i from by omega] at h5
       rw[h5];rfl
      ·
       exact h2 i (by omega) hi
   clear h1 h2 h3 h4 hB
   go_wp2
   go_ret
   rw[HQ.out]
   exact⟨rfl,hC,hG⟩
end Go.Proofs.YtbhbilcieodbhaaGreat
namespace Go.Proofs.YtbhbilcieodbhaaGreat
open Go.RowKit
set_option maxRecDepth 100000
def nerrV:Nat->Value
 | 0=>.nilIface
 | n+1=>.iface 56 (.int .i64 (n+1:Nat))
theorem Chp.Ok.off {s:Chp} (h:s.Ok):(offS s).Ok:=⟨h.ch,h.bl,(by decide:0<9223372036854775808),h.lo,h.hi⟩
theorem wrap64_lo (n:Int) : -9223372036854775808<=wrap64 n:=by unfold wrap64;omega
theorem wrap64_hi (n:Int):wrap64 n<9223372036854775808:=by unfold wrap64;omega
theorem Chp.Ok.go {s:Chp} (h:s.Ok):(goS s).Ok:=⟨h.ch,h.bl,by have:=h.bud;show (if s.lim then s.bud - 1 else s.bud)<_;split <;> omega,wrap64_lo _,wrap64_hi _⟩
theorem failW_ok {x:Blo} (h:x.Ok):(failW x).Ok:=⟨by have:=h.ahead;show x.ahead - 1<_;omega,fun e=>by have:=h.none e;show x.ahead - 1=0;omega,h.lo,h.hi⟩
theorem failE_ok {x:Blo} (h:x.Ok):(failE x).Ok:=⟨h.ahead,h.none,h.lo,h.hi⟩
theorem pgmK_ok {l:List Nat} (h:l.length=64) (hb:Bys l):(pgmK l).Ok:=⟨h,h,hb,hb,(by decide:0<=64)⟩
theorem step_any (g:Nat) (s:Chp) (w:World) (hs:s.Ok) (h:ChipAt w g s) (hn:¬ (s.lim=true/\s.bud=0)):Calls Tryz.prog 238 #[.pointer (some ⟨g,0,none⟩)] w fun e w'=>e=.returned (.bool true)/\ChipAt w' g (goS s)/\Chg (·=g) w w':=by
 cases hl:s.lim with
 | false=>exact step_free g s w h hl
 | true=>exact step_paid g s w hs h hl (fun e=>hn ⟨hl,e⟩)
def erS (s:Chp) (b:Nat):Chp:={ (s.setBl b { s.bl b with reads:=0 }) with ch:=fun j=>if 32*b<=j/\j<32*b+32 then newK else s.ch j }
theorem Chp.Ok.er {s:Chp} (h:s.Ok) (b:Nat):(erS s b).Ok:=by
 have h1:(s.setBl b { s.bl b with reads:=0 }).Ok:=h.setBl b ⟨(h.bl b).ahead,(h.bl b).none,(by decide:(-9223372036854775808:Int)<=0),(by decide:(0:Int)<9223372036854775808)⟩
 refine⟨fun c=>?_,h1.bl,h1.bud,h1.lo,h1.hi⟩
 show (if 32*b<=c/\c<32*b+32 then newK else s.ch c).Ok
 split
 ·
  exact newK_ok
 ·
  exact h.ch c
theorem ccell_er (s:Chp) (b:Nat) (hb:b<12) (i:Nat):upL (clrF (ccell s) b 32) (49968+b) [.int .i64 0] i=ccell (erS s b) i:=by
 by_cases h1:i<49920
 ·
  rw[upL_one,if_neg (by omega)]
  unfold clrF ccell
  rw[if_pos h1,if_pos h1]
  show _=(ckc (if 32*b<=i / 130/\i / 130<32*b+32 then newK else s.ch (i / 130))).getD (i % 130) undef
  by_cases h:4160*b<=i/\i<4160*b+130*32
  ·
   rw[if_pos h,if_pos (by omega)]
  ·
   rw[if_neg h,if_neg (by omega)]
 ·
  have e1:clrF (ccell s) b 32 i=ccell s i:=by unfold clrF;rw[if_neg (by omega)]
  have e2:upL (clrF (ccell s) b 32) (49968+b) [.int .i64 0] i=upL (ccell s) (49968+b) [.int .i64 0] i:=by rw[upL_one,upL_one,e1]
  rw[e2,ccell_setReads s b hb 0 i]
  unfold ccell
  rw[if_neg h1,if_neg h1];rfl
theorem clear_chip (g b:Nat) (hb:b<12) (s:Chp) (w:World) (h:ChipAt w g s) :
 Calls Tryz.prog 41 #[.pointer (some ⟨g,0,none⟩),.int .i64 b] w fun e w'=>e=.returned (.tuple #[])/\ChipAt w' g (erS s b)/\Chg (·=g) w w':=by
 refine(clear_block g b hb _ w h).mono ?_
 rintro e w' ⟨rfl,h1,h2⟩
 exact⟨rfl,h1.ext fun i _=>ccell_er s b hb i,h2⟩
def eraseR (s:Chp) (b:Int):Chp × Nat:=
 if ¬ (0<=b/\b<12) then (s,1) else
 if s.on=false then (s,7) else
 if s.lim=true/\s.bud=0 then (offS s,7) else
 if (failE (s.bl b.toNat)).failed=true then ((goS s).setBl b.toNat (failE (s.bl b.toNat)),8) else
 (erS ((goS s).setBl b.toNat (failE (s.bl b.toNat))) b.toNat,0)
theorem eraseR_ok {s:Chp} (h:s.Ok) (b:Int):(eraseR s b).1.Ok:=by
 unfold eraseR
 split
 ·
  exact h
 ·
  split
  ·
   exact h
  ·
   split
   ·
    exact h.off
   ·
    split
    ·
     exact h.go.setBl _ (failE_ok (h.bl _))
    ·
     exact(h.go.setBl _ (failE_ok (h.bl _))).er _
set_option maxHeartbeats 1000000 in
theorem erase_any (g:Nat) (s:Chp) (hs:s.Ok) (b:Int) (w:World) (h:ChipAt w g s) :
 Calls Tryz.prog 214 #[.pointer (some ⟨g,0,none⟩),.int .i64 b] w fun e w'=>e=.returned (nerrV (eraseR s b).2)/\ChipAt w' g (eraseR s b).1/\Chg (·=g) w w':=by
 unfold eraseR
 by_cases hb:0<=b/\b<12
 ·
  rw[if_neg (by simpa using hb)]
  obtain⟨hb0,hb1⟩:=hb
  have c1:=h.on
  cases hon:s.on with
  | false=>
   rw[if_pos rfl]
   rw[hon] at c1
   clear hon
   go_enter Tryz.func214,Tryz.ntmps214
   go_wp2_with fail
   refine(below_yes b 12 hb0 hb1 _).mono ?_
   rintro e w' ⟨rfl,rfl⟩
   go_wp2
   go_ret
   exact⟨rfl,h,Chg.refl _ _⟩
  | true=>
   rw[if_neg (by simp)]
   rw[hon] at c1
   clear hon
   by_cases hc:s.lim=true/\s.bud=0
   ·
    rw[if_pos hc]
    obtain⟨hl,h0⟩:=hc
    have HL:=hyd hl
    have H0:=hyd h0
    clear hl h0
    go_enter Tryz.func214,Tryz.ntmps214
    go_wp2_with fail
    refine(below_yes b 12 hb0 hb1 _).mono ?_
    rintro e w' ⟨rfl,rfl⟩
    go_wp2_with fail
    refine(step_cut g s _ h HL.out H0.out).mono ?_
    rintro e w' ⟨rfl,h1,hG⟩
    go_wp2
    go_ret
    exact⟨rfl,h1,hG⟩
   ·
    rw[if_neg hc]
    obtain⟨n,rfl⟩:=Int.eq_ofNat_of_zero_le hb0
    have hn:n<12:=by omega
    rw[Int.toNat_natCast]
    have HS:=hyd hs
    have HC:=hyd hc
    clear hs hc
    cases hf:(failE (s.bl n)).failed with
    | true=>
     rw[if_pos rfl]
     have HF:=hyd hf
     clear hf
     go_enter Tryz.func214,Tryz.ntmps214
     go_wp2_with fail
     refine(below_yes (n:Int) 12 hb0 hb1 _).mono ?_
     rintro e w' ⟨rfl,rfl⟩
     go_wp2_with fail
     refine(step_any g s _ HS.out h HC.out).mono ?_
     rintro e w1 ⟨rfl,h1,hG⟩
     clear h c1
     go_wp2_with fail
     rw[show 49920+n*4=49920+4*n from by omega]
     refine(failsAtErase_any g n hn (goS s) _ h1).mono ?_
     rintro e w2 ⟨rfl,h2,hG2⟩
     rw[show (failE ((goS s).bl n)).failed=true from HF.out]
     go_wp2
     go_ret
     exact⟨rfl,h2,hG.trans hG2⟩
    | false=>
     rw[if_neg (by simp)]
     have HF:=hyd hf
     clear hf
     go_enter Tryz.func214,Tryz.ntmps214
     go_wp2_with fail
     refine(below_yes (n:Int) 12 hb0 hb1 _).mono ?_
     rintro e w' ⟨rfl,rfl⟩
     go_wp2_with fail
     refine(step_any g s _ HS.out h HC.out).mono ?_
     rintro e w1 ⟨rfl,h1,hG⟩
     clear h c1
     go_wp2_with fail
     rw[show 49920+n*4=49920+4*n from by omega]
     refine(failsAtErase_any g n hn (goS s) _ h1).mono ?_
     rintro e w2 ⟨rfl,h2,hG2⟩
     rw[show (failE ((goS s).bl n)).failed=false from HF.out]
     have hG3:=hG.trans hG2
     clear hG hG2 h1
     go_wp2_with fail
     refine(clear_chip g n hn _ _ h2).mono ?_
     rintro e w3 ⟨rfl,h3,hG4⟩
     go_wp2
     go_ret
     exact⟨rfl,h3,hG3.trans hG4⟩
 ·
  rw[if_pos (by simpa using hb)]
  go_enter Tryz.func214,Tryz.ntmps214
  go_wp2_with fail
  refine(below_no b 12 (by omega) _).mono ?_
  rintro e w' ⟨rfl,rfl⟩
  go_wp2
  go_ret
  exact⟨rfl,h,Chg.refl _ _⟩
end Go.Proofs.YtbhbilcieodbhaaGreat
namespace Go.Proofs.YtbhbilcieodbhaaGreat
open Go.RowKit
set_option maxRecDepth 100000
def writeR (s:Chp) (a k:Int) (l:List Nat):Chp × Nat:=
 if ¬ (0<=a/\a<96/\0<=k/\k<4)\/l.length≠64 then (s,1) else
 if s.on=false then (s,7) else
 if (s.ch (4*a.toNat+k.toNat)).is=true then (s,9) else
 if s.lim=true/\s.bud=0 then (offS s,7) else
 if (failW (s.bl (a.toNat / 8))).failed=true then ((goS s).setBl (a.toNat / 8) (failW (s.bl (a.toNat / 8))),8) else
 (((goS s).setBl (a.toNat / 8) (failW (s.bl (a.toNat / 8)))).setCh (4*a.toNat+k.toNat) (pgmK l),0)
theorem writeR_ok {s:Chp} (h:s.Ok) (a k:Int) {l:List Nat} (hl:Bys l):(writeR s a k l).1.Ok:=by
 unfold writeR
 split
 ·
  exact h
 ·
  rename_i h1
  split
  ·
   exact h
  ·
   split
   ·
    exact h
   ·
    split
    ·
     exact h.off
    ·
     split
     ·
      exact h.go.setBl _ (failW_ok (h.bl _))
     ·
      exact(h.go.setBl _ (failW_ok (h.bl _))).setCh _ (pgmK_ok (by omega) hl)
theorem ChipAt.is {w:World} {g:Nat} {s:Chp} (h:ChipAt w g s) (hs:s.Ok) (c:Nat) (hc:c<384):w.cell? ⟨g,130*c+128,none⟩=some (.bool (s.ch c).is):=by
 rw[Sto.cell h _ (by omega)]
 congr 1
 exact ckc_is (hs.ch c).now (hs.ch c).tru (ccell_ch s hs c hc)
theorem program_chip (g:Nat) (s:Chp) (c:Nat) (hc:c<384) (oo q cap:Nat) (hq:q≠g) (l:List Nat) (hl:l.length=64) (w:World) (h:ChipAt w g s)
 (hsrc:∀ i,i<64->w.cell? ⟨q,oo+i,none⟩=some (.int .u8 (l.getD i 0:Nat))) :
 Calls Tryz.prog 250 #[.pointer (some ⟨g,130*c,none⟩),.slice (some ⟨q,oo,none⟩) 64 cap] w fun e w'=>e=.returned (.tuple #[])/\ChipAt w' g (s.setCh c (pgmK l))/\Chg (·=g) w w':=by
 refine(program_any g (130*c) 96 49984 _ (by omega) q oo cap hq l hl w h hsrc).mono ?_
 rintro e w' ⟨rfl,h1,h2⟩
 exact⟨rfl,h1.ext fun i _=>ccell_setCh s c hc _ (ckc_length hl hl) i,h2⟩
set_option maxHeartbeats 2000000 in
theorem write_arg1 (g:Nat) (a k:Int) (h:a<0\/96<=a\/k<0\/4<=k) (v:Value) (w:World) :
 Calls Tryz.prog 219 #[.pointer (some ⟨g,0,none⟩),.int .i64 a,.int .i64 k,v] w fun e w'=>e=.returned (nerrV 1)/\w'=w:=by
 go_enter Tryz.func219,Tryz.ntmps219
 go_wp2_with fail
 refine(isChunk_no a k h _).mono ?_
 rintro e w' ⟨rfl,rfl⟩
 go_wp2
 go_ret
 exact⟨rfl,rfl⟩
theorem write_arg2 (g:Nat) (a k:Int) (h0:0<=a) (h1:a<96) (h2:0<=k) (h3:k<4) (ad:Option Addr) (n cap:Nat) (hn:n≠64) (w:World) :
 Calls Tryz.prog 219 #[.pointer (some ⟨g,0,none⟩),.int .i64 a,.int .i64 k,.slice ad n cap] w fun e w'=>e=.returned (nerrV 1)/\w'=w:=by
 have hne:((n:Int) != 64)=true:=by rw[bne_iff_ne];omega
 go_enter Tryz.func219,Tryz.ntmps219
 go_wp2_with fail
 refine(isChunk_yes a k h0 h1 h2 h3 _).mono ?_
 rintro e w' ⟨rfl,rfl⟩
 go_wp2
 go_ret
 exact⟨rfl,rfl⟩
set_option maxHeartbeats 2000000 in
theorem write_good (g:Nat) (s:Chp) (hs:s.Ok) (a k:Nat) (ha:a<96) (hk:k<4) (l:List Nat) (hl:l.length=64) (q oo cap:Nat) (hq:q≠g) (w:World) (h:ChipAt w g s)
 (hsrc:∀ i,i<64->w.cell? ⟨q,oo+i,none⟩=some (.int .u8 (l.getD i 0:Nat))) (hqs:q<w.heap.size) :
 Calls Tryz.prog 219 #[.pointer (some ⟨g,0,none⟩),.int .i64 a,.int .i64 k,.slice (some ⟨q,oo,none⟩) 64 cap] w fun e w'=>e=.returned (nerrV (writeR s a k l).2)/\ChipAt w' g (writeR s a k l).1/\Chg (·=g) w w':=by
 unfold writeR
 rw[if_neg (by omega),Int.toNat_natCast,Int.toNat_natCast]
 have ha0:(0:Int)<=a:=by omega
 have ha1:(a:Int)<96:=by omega
 have hk0:(0:Int)<=k:=by omega
 have hk1:(k:Int)<4:=by omega
 have c1:=h.on
 have c2:=h.is hs (4*a+k) (by omega)
 have HSRC:=hyd hsrc
 have HL:=hyd hl
 have HS:=hyd hs
 clear hsrc hl hs
 rw[show 130*(4*a+k)+128=a*520+k*130+128 from by omega] at c2
 cases hon:s.on with
 | false=>
  rw[if_pos rfl]
  rw[hon] at c1
  clear hon
  go_enter Tryz.func219,Tryz.ntmps219
  go_wp2_with fail
  refine(isChunk_yes a k ha0 ha1 hk0 hk1 _).mono ?_
  rintro e w' ⟨rfl,rfl⟩
  go_wp2
  go_ret
  exact⟨rfl,h,Chg.refl _ _⟩
 | true=>
  rw[if_neg (by simp)]
  rw[hon] at c1
  clear hon
  cases his:(s.ch (4*a+k)).is with
  | true=>
   rw[if_pos rfl]
   rw[his] at c2
   clear his
   go_enter Tryz.func219,Tryz.ntmps219
   go_wp2_with fail
   refine(isChunk_yes a k ha0 ha1 hk0 hk1 _).mono ?_
   rintro e w' ⟨rfl,rfl⟩
   go_wp2
   go_ret
   exact⟨rfl,h,Chg.refl _ _⟩
  | false=>
   rw[if_neg (by simp)]
   rw[his] at c2
   clear his
   by_cases hc:s.lim=true/\s.bud=0
   ·
    rw[if_pos hc]
    have HC:=hyd hc
    clear hc
    go_enter Tryz.func219,Tryz.ntmps219
    go_wp2_with fail
    refine(isChunk_yes a k ha0 ha1 hk0 hk1 _).mono ?_
    rintro e w' ⟨rfl,rfl⟩
    go_wp2_with fail
    refine(step_cut g s _ h HC.out.1 HC.out.2).mono ?_
    rintro e w' ⟨rfl,h1,hG⟩
    go_wp2
    go_ret
    exact⟨rfl,h1,hG⟩
   ·
    rw[if_neg hc]
    have HC:=hyd hc
    clear hc
    cases hf:(failW (s.bl (a / 8))).failed with
    | true=>
     rw[if_pos rfl]
     have HF:=hyd hf
     clear hf
     go_enter Tryz.func219,Tryz.ntmps219
     go_wp2_with fail
     refine(isChunk_yes a k ha0 ha1 hk0 hk1 _).mono ?_
     rintro e w' ⟨rfl,rfl⟩
     go_wp2_with fail
     refine(step_any g s _ HS.out h HC.out).mono ?_
     rintro e w1 ⟨rfl,h1,hG⟩
     clear h c1 c2
     go_wp2_with fail
     rw[show 49920+a / 8*4=49920+4*(a / 8) from by omega]
     refine(failsAtWrite_any g (a / 8) (by omega) (goS s) HS.out.go _ h1).mono ?_
     rintro e w2 ⟨rfl,h2,hG2⟩
     rw[show (failW ((goS s).bl (a / 8))).failed=true from HF.out]
     go_wp2
     go_ret
     exact⟨rfl,h2,hG.trans hG2⟩
    | false=>
     rw[if_neg (by simp)]
     have HF:=hyd hf
     clear hf
     go_enter Tryz.func219,Tryz.ntmps219
     go_wp2_with fail
     refine(isChunk_yes a k ha0 ha1 hk0 hk1 _).mono ?_
     rintro e w' ⟨rfl,rfl⟩
     go_wp2_with fail
     refine(step_any g s _ HS.out h HC.out).mono ?_
     rintro e w1 ⟨rfl,h1,hG⟩
     clear h c1 c2
     go_wp2_with fail
     rw[show 49920+a / 8*4=49920+4*(a / 8) from by omega]
     refine(failsAtWrite_any g (a / 8) (by omega) (goS s) HS.out.go _ h1).mono ?_
     rintro e w2 ⟨rfl,h2,hG2⟩
     rw[show (failW ((goS s).bl (a / 8))).failed=false from HF.out]
     have hG3:=hG.trans hG2
     have HSRC2:=hyd fun i (hi:i<64)=>(World.cell?_of_block (a:=⟨q,oo+i,none⟩) (hG3.block q hqs hq)).trans (HSRC.out i hi)
     clear h1 hG hG2
     go_wp2_with fail
     rw[show a*520+k*130=130*(4*a+k) from by omega]
     refine(program_chip g _ (4*a+k) (by omega) oo q cap hq l HL.out _ h2 HSRC2.out).mono ?_
     rintro e w3 ⟨rfl,h3,hG4⟩
     have hG5:=hG3.trans hG4
     clear hG3 hG4 h2 HSRC HSRC2
     go_wp2
     go_ret
     exact⟨rfl,h3,hG5⟩
theorem write_any (g:Nat) (s:Chp) (hs:s.Ok) (a k:Int) (l:List Nat) (v:Value) (w:World) (hv:Held w v l) (hq:v.ownBlock≠some g) (h:ChipAt w g s) :
 Calls Tryz.prog 219 #[.pointer (some ⟨g,0,none⟩),.int .i64 a,.int .i64 k,v] w fun e w'=>e=.returned (nerrV (writeR s a k l).2)/\ChipAt w' g (writeR s a k l).1/\Chg (·=g) w w':=by
 by_cases hc:0<=a/\a<96/\0<=k/\k<4
 ·
  obtain⟨ad,cap,rfl,hx⟩:=hv
  by_cases hl:l.length=64
  ·
   obtain⟨a,rfl⟩:=Int.eq_ofNat_of_zero_le hc.1
   obtain⟨k,rfl⟩:=Int.eq_ofNat_of_zero_le hc.2.2.1
   rcases hx with hx | ⟨q,oo,rfl,hqs,hx⟩
   ·
    omega
   ·
    rw[hl] at hx hq ⊢
    exact write_good g s hs a k (by omega) (by omega) l hl q oo cap (fun e=>hq (by rw[e];rfl)) w h hx hqs
  ·
   have e:writeR s a k l=(s,1):=by unfold writeR;rw[if_pos (Or.inr hl)]
   rw[e]
   refine(write_arg2 g a k hc.1 hc.2.1 hc.2.2.1 hc.2.2.2 ad l.length cap hl w).mono ?_
   rintro e w' ⟨rfl,rfl⟩
   exact⟨rfl,h,Chg.refl _ _⟩
 ·
  have e:writeR s a k l=(s,1):=by unfold writeR;rw[if_pos (Or.inl hc)]
  rw[e]
  refine(write_arg1 g a k (by omega) v w).mono ?_
  rintro e w' ⟨rfl,rfl⟩
  exact⟨rfl,h,Chg.refl _ _⟩
end Go.Proofs.YtbhbilcieodbhaaGreat
/-
  What does harm: Flip, FailProgram, FailErase, Cut. Condition: the block holds a chip that can be. What is known of a chip: Reads, Failed, Damage, Truth; Read. Condition: the block holds a chip that can be. Truth and Read. Condition: the block holds a chip that can be.
-/
namespace Go.Proofs.YtbhbilcieodbhaaGreat
open Go.RowKit
set_option maxRecDepth 100000
end Go.Proofs.YtbhbilcieodbhaaGreat
namespace Go.Proofs.YtbhbilcieodbhaaGreat
open Go.RowKit
set_option maxRecDepth 100000
end Go.Proofs.YtbhbilcieodbhaaGreat
namespace Go.Proofs.YtbhbilcieodbhaaGreat
open Go.RowKit
set_option maxRecDepth 100000
def nz256:List Nat:=List.replicate 256 0
theorem nmake256 (w:World):(Instr.makeSlice 35 (.int .i64 256) (.int .i64 256)).run Tryz.prog w=.ok (.slice (some ⟨w.heap.size,0,none⟩) 256 256) (w.alloc (.cells (bcells nz256) 5)):=make_bytes w 256 256 rfl (by decide)
theorem map_byt_at {l:List Nat} {i:Nat} (h:i<l.length):(l.map byt)[i]?=some (.int .u8 (l.getD i 0:Nat)):=by
 rw[List.getElem?_map,List.getElem?_eq_getElem h];simp[byt,List.getD_eq_getElem?_getD,List.getElem?_eq_getElem h]
theorem ChipAt.now {w:World} {g:Nat} {s:Chp} (h:ChipAt w g s) (hs:s.Ok) (c:Nat) (hc:c<384) (j:Nat) (hj:j<64):w.cell? ⟨g,130*c+j,none⟩=some (.int .u8 ((s.ch c).now.getD j 0:Nat)):=by
 rw[Sto.cell h _ (by omega)]
 congr 1
 exact ckc_now (ccell_ch s hs c hc) j _ (map_byt_at (by rw[(hs.ch c).now];exact hj))
theorem ChipAt.alloc {w:World} {g:Nat} {s:Chp} (h:ChipAt w g s) (o:Obj):ChipAt (w.alloc o) g s:=Sto.alloc h o
def pgTo (s:Chp) (a:Nat):Nat->List Nat
 | 0=>[]
 | n+1=>pgTo s a n ++ (s.ch (4*a+n)).now
theorem pgTo_length {s:Chp} (hs:s.Ok) (a n:Nat):(pgTo s a n).length=64*n:=by
 induction n with
 | zero=>rfl
 | succ n ih=>rw[pgTo,List.length_append,ih,(hs.ch _).now];omega
theorem pgTo_bys {s:Chp} (hs:s.Ok) (a n:Nat):Bys (pgTo s a n):=by
 induction n with
 | zero=>intro m hm;cases hm
 | succ n ih=>intro m hm;rcases List.mem_append.1 hm with h | h;exact ih m h;exact(hs.ch _).nowB m h
def pgZ (s:Chp) (a n:Nat):List Nat:=pgTo s a n ++ List.replicate (256 - 64*n) 0
theorem pgZ_length {s:Chp} (hs:s.Ok) (a n:Nat) (h:n<=4):(pgZ s a n).length=256:=by rw[pgZ,List.length_append,pgTo_length hs,List.length_replicate];omega
theorem pgZ_lay {s:Chp} (hs:s.Ok) (a n:Nat) (h:n<4):lay (pgZ s a n) (n*64) (s.ch (4*a+n)).now=pgZ s a (n+1):=by
 have h1:=pgTo_length hs a n
 unfold lay pgZ
 rw[List.take_left' (by omega),List.drop_append,List.drop_eq_nil_of_le (by rw[h1,(hs.ch _).now];omega),List.nil_append,pgTo,List.append_assoc,h1,(hs.ch _).now,List.drop_replicate]
 congr 3
 omega
theorem pgZ_all {s:Chp} (a:Nat):pgZ s a 4=pgTo s a 4:=by simp[pgZ]
def rdS (s:Chp) (a:Nat):Chp:=s.setBl (a / 8) { s.bl (a / 8) with reads:=wrap64 ((s.bl (a / 8)).reads+1) }
theorem rdS_ok {s:Chp} (h:s.Ok) (a:Nat):(rdS s a).Ok:=h.setBl _ ⟨(h.bl _).ahead,(h.bl _).none,wrap64_lo _,wrap64_hi _⟩
theorem read_no (g:Nat) (a:Int) (h:a<0\/96<=a) (w:World) :
 Calls Tryz.prog 132 #[.pointer (some ⟨g,0,none⟩),.int .i64 a] w fun e w'=>e=.returned (.tuple #[.slice none 0 0,nerrV 1])/\Chg (fun _=>False) w w':=by
 go_enter Tryz.func132,Tryz.ntmps132
 go_wp2_with fail
 refine(below_no a 96 h _).mono ?_
 rintro e w' ⟨rfl,rfl⟩
 go_wp2
 all_goals
  go_ret2
  exact⟨rfl,(Chg.refl _ _)⟩
theorem read_off (g:Nat) (s:Chp) (a:Int) (h0:0<=a) (h1:a<96) (w:World) (h:ChipAt w g s) (hon:s.on=false) :
 Calls Tryz.prog 132 #[.pointer (some ⟨g,0,none⟩),.int .i64 a] w fun e w'=>e=.returned (.tuple #[.slice none 0 0,nerrV 7])/\Chg (fun _=>False) w w':=by
 have c1:=h.on
 rw[hon] at c1
 clear hon
 go_enter Tryz.func132,Tryz.ntmps132
 go_wp2_with fail
 refine(below_yes a 96 h0 h1 _).mono ?_
 rintro e w' ⟨rfl,rfl⟩
 go_wp2
 all_goals
  go_ret2
  exact⟨rfl,(Chg.refl _ _)⟩
set_option maxHeartbeats 1000000 in
theorem read_yes (g:Nat) (s:Chp) (hs:s.Ok) (a:Nat) (ha:a<96) (w:World) (h:ChipAt w g s) (hon:s.on=true) :
 Calls Tryz.prog 132 #[.pointer (some ⟨g,0,none⟩),.int .i64 a] w fun e w'=>e=.returned (.tuple #[.slice (some ⟨w.heap.size,0,none⟩) 256 256,.nilIface])/\Arr w' w.heap.size 5 (pgTo s a 4)/\ChipAt w' g (rdS s a)/\Chg (·=g) w w':=by
 have ha0:(0:Int)<=a:=by omega
 have ha1:(a:Int)<96:=by omega
 have hmk:=nmake256
 have hgs:=h.lt
 have c1:=h.on
 rw[hon] at c1
 clear hon
 have hC1:=h.alloc (.cells (bcells nz256) 5)
 have hA1:Arr (w.alloc (.cells (bcells nz256) 5)) w.heap.size 5 nz256:=Arr.new w 5 _
 have hG1:Chg (·=g) w (w.alloc (.cells (bcells nz256) 5)):=(Chg.refl _ _).alloc _
 have HS:=hyd hs
 clear h hs
 go_enter Tryz.func132,Tryz.ntmps132
 go_wp2_with fail
 refine(below_yes (a:Int) 96 ha0 ha1 _).mono ?_
 rintro e w' ⟨rfl,rfl⟩
 go_wp2_with fail
 clear hmk c1
 generalize hq:w'.heap.size=q at *
 have hqs:=Nat.le_of_eq hq
 have HQ:=hyd hq
 clear hq
 have hqg:q≠g:=by omega
 generalize w'.alloc (.cells (bcells nz256) 5)=w1 at *
 go_loopw [20] (fun t20 wr=>∃ i:Nat,i<=4/\t20=.int .i64 i/\Arr wr q 5 (pgZ s a i)/\ChipAt wr g s/\Chg (·=g) w' wr) (fun t20 _=>4 - (intOf t20).toNat)
 case atStart=>exact⟨0,by omega,rfl,hA1,hC1,hG1⟩
 case round=>
  clear hA1 hC1 hG1
  obtain⟨i,hi,rfl,hA,hC,hG⟩:=hrel
  by_cases hlt:i<4
  ·
   have hi0:(0:Int)<=(i:Int):=by omega
   have hi1:(i:Int)<4:=by omega
   have hn:=(HS.out.ch (4*a+i)).now
   have hsrc:=hC.now HS.out (4*a+i) (by omega)
   rw[show 130*(4*a+i)=a*520+i*130 from by omega] at hsrc
   have hz:=pgZ_length HS.out a i (by omega)
   have hcp:=run_copy_row (P:=Tryz.prog) wr.drew 35 35 3 5 q (i*64) (256 - i*64) (256 - i*64) ⟨g,a*520+i*130,none⟩ 64 64 (bcells (pgZ s a i)) 5 ((s.ch (4*a+i)).now.map byt) Tryz.underlying35 size5 hA.drew (by rw[List.length_map,hn];exact(Nat.min_eq_left (by omega)).symm) (src_byt (by rw[hn];exact hsrc)) (by simp[hn,bcells_size,hz];omega) (byt_one _)
   rw[show ((bcells (pgZ s a i)).toList.take (i*64) ++ (s.ch (4*a+i)).now.map byt ++ (bcells (pgZ s a i)).toList.drop (i*64+((s.ch (4*a+i)).now.map byt).length)).toArray=bcells (pgZ s a (i+1)) from by
    rw[List.append_assoc,<-pgZ_lay HS.out a i hlt];exact lay_row _ _ _,List.length_map,hn] at hcp
   have hA2:=hA.drew.row (pgZ s a (i+1))
   have hG2:=hG.drew.setRow (g:=q) (Or.inr (by omega)) (bcells (pgZ s a (i+1)))
   have hC2:ChipAt (wr.drew.setRow q (bcells (pgZ s a (i+1)))) g s:=hC.drew.other (setRow_other _ _ _ _ (fun e=>hqg e.symm))
   clear hsrc hz hn hA hC hG
   generalize wr.drew.setRow q (bcells (pgZ s a (i+1)))=w2 at *
   go_wp2_with fail
   go_region
   all_goals
    go_wp2
    exact⟨⟨i+1,by omega,by go_num,hA2,hC2,hG2⟩,by simp[intOf];omega⟩
  ·
   have e4:i=4:=by omega
   subst e4
   rw[pgZ_all] at hA
   have c2:=Sto.cell hC (49968+a / 8) (by omega)
   rw[ccell_reads s (a / 8) (by omega)] at c2
   have f2:=Sto.frozen hC (49968+a / 8)
   have hC2:ChipAt (wr.setCell ⟨g,49968+a / 8,none⟩ (.int .i64 (wrap64 ((s.bl (a / 8)).reads+1)))) g (rdS s a):=Sto.ext (Sto.setCell hC _ _) (fun i _=>ccell_setReads s (a / 8) (by omega) _ i)
   have hA2:=hA.setOther (k:=g) (fun e=>hqg e.symm) (49968+a / 8) (.int .i64 (wrap64 ((s.bl (a / 8)).reads+1)))
   have hG2:=hG.at g (49968+a / 8) (.int .i64 (wrap64 ((s.bl (a / 8)).reads+1)))
   go_wp2_with fail
   refine(add_any g (49968+a / 8) _ c2 f2).mono ?_
   rintro e w2 ⟨rfl,rfl⟩
   clear hA hC hG c2 f2
   go_wp2
   go_ret2
   rw[HQ.out]
   exact⟨rfl,hA2,hC2,hG2⟩
end Go.Proofs.YtbhbilcieodbhaaGreat
/-
  Errors held against each other; the rows of the document's examples hold. No condition. What both chips answer, told alike. Conditions: they stand alike.
-/
namespace Go.Proofs.YtbhbilcieodbhaaGreat
open Go.RowKit
set_option maxRecDepth 100000
theorem neq_e1_nil (w:World):(binOp .neq 33 (.iface 56 (.int .i64 1)) .nilIface).run Tryz.prog w=.ok (.bool true) w:=by kernel_rfl
theorem neq_e7_nil (w:World):(binOp .neq 33 (.iface 56 (.int .i64 7)) .nilIface).run Tryz.prog w=.ok (.bool true) w:=by kernel_rfl
theorem neq_e8_nil (w:World):(binOp .neq 33 (.iface 56 (.int .i64 8)) .nilIface).run Tryz.prog w=.ok (.bool true) w:=by kernel_rfl
theorem neq_e9_nil (w:World):(binOp .neq 33 (.iface 56 (.int .i64 9)) .nilIface).run Tryz.prog w=.ok (.bool true) w:=by kernel_rfl
end Go.Proofs.YtbhbilcieodbhaaGreat
namespace Go.Proofs.YtbhbilcieodbhaaGreat
open Go.RowKit
set_option maxRecDepth 100000
def nIsCode (c:Nat):Prop:=c=0\/c=1\/c=7\/c=8\/c=9
theorem writeR_code (s:Chp) (a k:Int) (l:List Nat):nIsCode (writeR s a k l).2:=by
 unfold writeR nIsCode
 split
 ·
  simp
 ·
  split
  ·
   simp
  ·
   split
   ·
    simp
   ·
    split
    ·
     simp
    ·
     split <;> simp
def readV (s:Chp) (a:Int):Chp × List Nat × Nat:=if ¬ (0<=a/\a<96) then (s,[],1) else if s.on=false then (s,[],7) else (rdS s a.toNat,pgTo s a.toNat 4,0)
theorem readV_code (s:Chp) (a:Int):nIsCode (readV s a).2.2:=by
 unfold readV nIsCode
 split
 ·
  simp
 ·
  split <;> simp
theorem readV_ok {s:Chp} (h:s.Ok) (a:Int):(readV s a).1.Ok:=by
 unfold readV
 split
 ·
  exact h
 ·
  split
  ·
   exact h
  ·
   exact rdS_ok h _
theorem read_v (g:Nat) (s:Chp) (hs:s.Ok) (a:Int) (w:World) (h:ChipAt w g s) :
 Calls Tryz.prog 132 #[.pointer (some ⟨g,0,none⟩),.int .i64 a] w fun e w'=>∃ ad n cap,e=.returned (.tuple #[.slice ad n cap,nerrV (readV s a).2.2])/\n=(readV s a).2.1.length/\OwnT w' w.heap.size 5 (.slice ad n cap) (readV s a).2.1/\ChipAt w' g (readV s a).1/\Chg (·=g) w w':=by
 unfold readV
 by_cases hc:0<=a/\a<96
 ·
  rw[if_neg (by simpa using hc)]
  cases hon:s.on with
  | false=>
   rw[if_pos rfl]
   refine(read_off g s a hc.1 hc.2 w h hon).mono ?_
   rintro e w' ⟨rfl,hG⟩
   exact⟨_,_,_,rfl,rfl,Or.inl (Own.nil _ _ _),h.chg hG (fun f=>f),hG.mono (fun _ _ f=>f.elim)⟩
  | true=>
   rw[if_neg (by simp)]
   obtain⟨a,rfl⟩:=Int.eq_ofNat_of_zero_le hc.1
   refine(read_yes g s hs a (by omega) w h hon).mono ?_
   rintro e w' ⟨rfl,hA,hC,hG⟩
   exact⟨_,_,_,rfl,(pgTo_length hs a 4).symm,hA.own (Nat.le_refl _) 256 (pgTo_length hs a 4).symm (by unfold maxLen;omega),hC,hG⟩
 ·
  rw[if_pos (by simpa using hc)]
  refine(read_no g a (by omega) w).mono ?_
  rintro e w' ⟨rfl,hG⟩
  exact⟨_,_,_,rfl,rfl,Or.inl (Own.nil _ _ _),h.chg hG (fun f=>f),hG.mono (fun _ _ f=>f.elim)⟩
end Go.Proofs.YtbhbilcieodbhaaGreat
/-
  What a page is read as (the document's chapter on pages), as a relation between its 256 bytes, its number and the answer; that it has one answer; and what it is where each codeword was turned in two bytes at most, or in four, or where the tag's chunk was never programmed. No condition: lemmas on lists and numbers.
-/
namespace Go.Proofs.YtbhbilcieodbhaaGreat
open Go.RowKit
set_option maxRecDepth 100000
theorem pgTo_flat (s:Chp) (a:Nat):∀ n,pgTo s a n=flat (fun k=>(s.ch (4*a+k)).now) n:=by
 intro n
 induction n with
 | zero=>rfl
 | succ n ih=>rw[flat_succ,<-ih];rfl
theorem part_page {s:Chp} (hs:s.Ok) (a k:Nat) (hk:k<4):part 64 (pgTo s a 4) k=(s.ch (4*a+k)).now:=by
 rw[pgTo_flat]
 exact part_flat 4 (fun i _=>(hs.ch _).now) k hk
theorem dmgTo_wt (a b:List Nat):∀ n,dmgTo a b n=wt (df a b) n:=by
 intro n
 induction n with
 | zero=>rfl
 | succ n ih=>
  show dmgTo a b n+_=wt (df a b) n+_
  rw[ih]
  congr 1
  by_cases h:a.getD n 0=b.getD n 0
  ·
   rw[if_pos h,if_pos (df_zero.2 h)]
  ·
   rw[if_neg h,if_neg (fun e=>h (df_zero.1 e))]
theorem dmg_ds (k:Chk):dmg k=ds k.now k.tru:=dmgTo_wt _ _ 64
structure Pg where
 tagged:Bool
 p:Nat
 o:Nat
 s:Nat
 c:Nat
 l:Bool
 sound:Bool
 data:List Nat
 dmg:Nat
def dmgs (d c:Nat->Nat):Nat->Nat
 | 0=>0
 | k+1=>if c k=0 then max (dmgs d c k) (d k) else dmgs d c k
theorem dmgs_congr {d c d' c':Nat->Nat}:∀ n,(∀ k,k<n->d k=d' k/\c k=c' k)->dmgs d c n=dmgs d' c' n:=by
 intro n
 induction n with
 | zero=>intro _;rfl
 | succ n ih=>
  intro h
  obtain⟨h1,h2⟩:=h n (by omega)
  show (if c n=0 then max (dmgs d c n) (d n) else dmgs d c n)=(if c' n=0 then max (dmgs d' c' n) (d' n) else dmgs d' c' n)
  rw[ih (fun k hk=>h k (by omega)),h1,h2]
def DmgR (L:List Nat) (m:Nat):Prop:=∃ (R:Nat->List Nat) (d c:Nat->Nat),(∀ k,k<4->MsgR L (k:Nat) (R k) (d k) (c k))/\m=dmgs d c 4
theorem DmgR.unique {L:List Nat} {m m':Nat} (h:DmgR L m) (h':DmgR L m'):m=m':=by
 obtain⟨R,d,c,h1,rfl⟩:=h
 obtain⟨R',d',c',h2,rfl⟩:=h'
 exact dmgs_congr 4 (fun k hk=>(h1 k hk).unique (h2 k hk) |>.2)
def TagAt (B:List Nat) (bc:Nat) (n:Int):Prop:=bc=0/\IsB B/\((fld B 0 2:Nat):Int)=n
def ToldR (L:List Nat) (n:Int) (g:Pg):Prop:=
 DmgR L g.dmg/\∃ (B:List Nat) (bd bc:Nat),BodR L B bd bc /\
  ((¬ TagAt B bc n/\g.tagged=false/\g.p=0/\g.o=0/\g.s=0/\g.c=0/\g.l=false/\g.sound=false/\g.data=[]) \/
   (TagAt B bc n/\g.tagged=true/\g.p=fld B 0 2/\g.o=fld B 2 1/\g.s=fld B 3 5/\g.c=fld B 8 1/\g.l=lst B /\
    ∃ (D:List Nat) (dd dc:Nat),DatR L D dd dc/\((dc≠0/\g.sound=false/\g.data=[])\/(dc=0/\g.sound=true/\g.data=D))))
theorem ToldR.unique {L:List Nat} {n:Int} {g g':Pg} (h:ToldR L n g) (h':ToldR L n g'):g=g':=by
 obtain⟨t1,p1,o1,s1,c1,l1,u1,e1,m1⟩:=g
 obtain⟨t2,p2,o2,s2,c2,l2,u2,e2,m2⟩:=g'
 obtain⟨hm,B,bd,bc,hB,hr⟩:=h
 obtain⟨hm',B',bd',bc',hB',hr'⟩:=h'
 obtain⟨rfl,rfl,rfl⟩:=hB.unique hB'
 obtain rfl:m1=m2:=hm.unique hm'
 rcases hr with ⟨hn,q1,q2,q3,q4,q5,q6,q7,q8⟩ | ⟨hy,q1,q2,q3,q4,q5,q6,D,dd,dc,hD,q7⟩ <;>
  rcases hr' with ⟨hn',r1,r2,r3,r4,r5,r6,r7,r8⟩ | ⟨hy',r1,r2,r3,r4,r5,r6,D',dd',dc',hD',r7⟩
 ·
  simp only at q1 q2 q3 q4 q5 q6 q7 q8 r1 r2 r3 r4 r5 r6 r7 r8
  subst q1 q2 q3 q4 q5 q6 q7 q8 r1 r2 r3 r4 r5 r6 r7 r8
  rfl
 ·
  exact absurd hy' hn
 ·
  exact absurd hy hn'
 ·
  obtain⟨rfl,rfl,rfl⟩:=hD.unique hD'
  simp only at q1 q2 q3 q4 q5 q6 q7 r1 r2 r3 r4 r5 r6 r7
  rcases q7 with ⟨x1,x2,x3⟩ | ⟨x1,x2,x3⟩ <;> rcases r7 with ⟨y1,y2,y3⟩ | ⟨y1,y2,y3⟩
  ·
   subst q1 q2 q3 q4 q5 q6 r1 r2 r3 r4 r5 r6 x2 x3 y2 y3
   rfl
  ·
   exact absurd y1 x1
  ·
   exact absurd x1 y1
  ·
   subst q1 q2 q3 q4 q5 q6 r1 r2 r3 r4 r5 r6 x2 x3 y2 y3
   rfl
theorem msg_hurt {Dt Z X R:List Nat} {k d c:Nat} (hD:Dt.length=174) (bD:Bys Dt) (hZ:Z.length=50) (bZ:Bys Z) (hX:X.length=256) (hk:k<4) (h:MsgR X (k:Nat) R d c) :
 (hurt Dt Z X k<=2->d=hurt Dt Z X k/\c=0)/\(2<hurt Dt Z X k->hurt Dt Z X k<=4->c=5):=by
 rcases h with ⟨h,_⟩ | ⟨i,hi,e,_,⟨hn,rfl,rfl,rfl⟩ | ⟨hg,rfl⟩⟩
 ·
  exact absurd ⟨hX,by omega,by omega⟩ h
 ·
  obtain rfl:k=i:=by omega
  refine⟨fun h2=>?_,fun _ _=>rfl⟩
  have:=good_hurt hD bD hZ bZ hi h2 hn
  cases this
 ·
  obtain rfl:k=i:=by omega
  refine⟨fun h2=>?_,fun h2 h4=>?_⟩
  ·
   have:=Option.some.inj (good_hurt hD bD hZ bZ hi h2 hg.1)
   exact⟨(Prod.mk.inj this).2,rfl⟩
  ·
   have:=dec_told hg.1 (word_cw hD bD hZ bZ k hi) h2 h4
   cases this
theorem ToldR.mends {Dt X:List Nat} {p o s c:Nat} {l:Bool} {g:Pg} (hD:Dt.length=174) (bD:Bys Dt) (hm:May p o s c l) (hX:X.length=256) (h:ToldR X (p:Nat) g) (h2:∀ k,k<4->hurt Dt (body p o s c l) X k<=2) :
 g.tagged=true/\g.p=p/\g.o=o/\g.s=s/\g.c=c/\g.l=l/\g.sound=true/\g.data=Dt /\
  g.dmg=max (max (max (hurt Dt (body p o s c l) X 0) (hurt Dt (body p o s c l) X 1)) (hurt Dt (body p o s c l) X 2)) (hurt Dt (body p o s c l) X 3):=by
 have hZ:=body_length p o s c l
 have bZ:=body_bys p o s c l
 obtain⟨f0,f1,f2,f3,f4⟩:=fld_back p o s c l hm
 have hI:=body_is p o s c l hm
 obtain⟨⟨R,d,cc,hd,hdm⟩,B,bd,bc,hB,hr⟩:=h
 obtain⟨rfl,-,rfl⟩:=mends_body hD bD hZ bZ hX hB (h2 3 (by omega))
 have hT:TagAt (body p o s c l) 0 (p:Nat):=⟨rfl,hI,by rw[f0]⟩
 rcases hr with ⟨hn,_⟩ | ⟨_,q1,q2,q3,q4,q5,q6,D,dd,dc,hDD,q7⟩
 ·
  exact absurd hT hn
 ·
  obtain⟨rfl,-,rfl⟩:=mends_data hD bD hZ bZ hX hDD (by have:=h2 0 (by omega);have:=h2 1 (by omega);have:=h2 2 (by omega);omega)
  rw[f0] at q2
  rw[f1] at q3
  rw[f2] at q4
  rw[f3] at q5
  rw[f4] at q6
  refine⟨q1,q2,q3,q4,q5,q6,?_,?_,?_⟩
  ·
   rcases q7 with ⟨x,_⟩ | ⟨_,x,_⟩
   ·
    exact absurd rfl x
   ·
    exact x
  ·
   rcases q7 with ⟨x,_⟩ | ⟨_,_,x⟩
   ·
    exact absurd rfl x
   ·
    exact x
  ·
   have e:∀ k,k<4->d k=hurt D (body p o s c l) X k/\cc k=0:=fun k hk=>(msg_hurt hD bD hZ bZ hX hk (hd k hk)).1 (h2 k hk)
   rw[hdm]
   simp only[dmgs,(e 0 (by omega)).1,(e 0 (by omega)).2,(e 1 (by omega)).1,(e 1 (by omega)).2,(e 2 (by omega)).1,(e 2 (by omega)).2,(e 3 (by omega)).1,(e 3 (by omega)).2,if_true]
   omega
theorem ToldR.told {Dt X:List Nat} {p o s c:Nat} {l:Bool} {g:Pg} (hD:Dt.length=174) (bD:Bys Dt) (hm:May p o s c l) (hX:X.length=256) (h:ToldR X (p:Nat) g) (h4:∀ k,k<4->hurt Dt (body p o s c l) X k<=4) :
 (g.tagged=true<->hurt Dt (body p o s c l) X 3<=2) /\
  (g.sound=true<->(hurt Dt (body p o s c l) X 3<=2/\hurt Dt (body p o s c l) X 0<=2/\hurt Dt (body p o s c l) X 1<=2/\hurt Dt (body p o s c l) X 2<=2)) /\
  g.dmg<=2/\(g.tagged=true->g.p=p/\g.o=o/\g.s=s/\g.c=c/\g.l=l)/\(g.sound=true->g.data=Dt)/\(g.sound=false->g.data=[]):=by
 have hZ:=body_length p o s c l
 have bZ:=body_bys p o s c l
 obtain⟨f0,f1,f2,f3,f4⟩:=fld_back p o s c l hm
 have hI:=body_is p o s c l hm
 obtain⟨⟨R,d,cc,hd,hdm⟩,B,bd,bc,hB,hr⟩:=h
 have hdmg:g.dmg<=2:=by
  rw[hdm]
  have e:∀ k,k<4->d k<=2:=fun k hk=>(hd k hk).code.2.2
  have:∀ n,n<=4->dmgs d cc n<=2:=by
   intro n
   induction n with
   | zero=>intro _;exact Nat.zero_le _
   | succ n ih=>
    intro hn
    have h1:=ih (by omega)
    have h2:=e n (by omega)
    show (if cc n=0 then max (dmgs d cc n) (d n) else dmgs d cc n)<=2
    split <;> omega
  exact this 4 (by omega)
 have a0:=h4 0 (by omega)
 have a1:=h4 1 (by omega)
 have a2:=h4 2 (by omega)
 have a3:=h4 3 (by omega)
 by_cases h3:hurt Dt (body p o s c l) X 3<=2
 ·
  obtain⟨rfl,-,rfl⟩:=mends_body hD bD hZ bZ hX hB h3
  have hT:TagAt (body p o s c l) 0 (p:Nat):=⟨rfl,hI,by rw[f0]⟩
  rcases hr with ⟨hn,_⟩ | ⟨_,q1,q2,q3,q4,q5,q6,D,dd,dc,hDD,q7⟩
  ·
   exact absurd hT hn
  ·
   rw[f0] at q2
   rw[f1] at q3
   rw[f2] at q4
   rw[f3] at q5
   rw[f4] at q6
   by_cases hdat:max (max (hurt Dt (body p o s c l) X 0) (hurt Dt (body p o s c l) X 1)) (hurt Dt (body p o s c l) X 2)<=2
   ·
    obtain⟨rfl,-,rfl⟩:=mends_data hD bD hZ bZ hX hDD hdat
    rcases q7 with ⟨x,_⟩ | ⟨_,x,y⟩
    ·
     exact absurd rfl x
    ·
     exact⟨⟨fun _=>h3,fun _=>q1⟩,⟨fun _=>⟨h3,by omega,by omega,by omega⟩,fun _=>x⟩,hdmg,fun _=>⟨q2,q3,q4,q5,q6⟩,fun _=>y,fun e=>(by rw[x] at e;cases e)⟩
   ·
    obtain⟨rfl,-,rfl⟩:=told_data hD bD hZ bZ hX hDD (by omega) (by omega)
    rcases q7 with ⟨_,x,y⟩ | ⟨x,_⟩
    ·
     exact⟨⟨fun _=>h3,fun _=>q1⟩,⟨fun e=>(by rw[x] at e;cases e),fun e=>absurd (by omega) hdat⟩,hdmg,fun _=>⟨q2,q3,q4,q5,q6⟩,fun e=>(by rw[x] at e;cases e),fun _=>y⟩
    ·
     exact absurd x (by decide)
 ·
  obtain⟨rfl,-,rfl⟩:=told_body hD bD hZ bZ hX hB (by omega) a3
  rcases hr with ⟨_,q1,q2,q3,q4,q5,q6,q7,q8⟩ | ⟨⟨x,_⟩,_⟩
  ·
   exact⟨⟨fun e=>(by rw[q1] at e;cases e),fun e=>absurd e h3⟩,⟨fun e=>(by rw[q7] at e;cases e),fun e=>absurd e.1 h3⟩,hdmg,fun e=>(by rw[q1] at e;cases e),fun e=>(by rw[q7] at e;cases e),fun _=>q8⟩
  ·
   exact absurd x (by decide)
theorem ToldR.blank {X:List Nat} {n:Int} {g:Pg} (h:ToldR X n g) (h4:ds (part 64 X 3) ff64<=4):g.tagged=false/\g.sound=false/\g.data=[]:=by
 obtain⟨_,B,bd,bc,hB,hr⟩:=h
 rcases hr with ⟨_,q1,q2,q3,q4,q5,q6,q7,q8⟩ | ⟨⟨rfl,_⟩,_⟩
 ·
  exact⟨q1,q7,q8⟩
 ·
  exfalso
  rcases hB with ⟨_,_,_,e⟩ | ⟨_,_,_,_,e⟩ | ⟨_,r,hg,⟨_,_,_,e⟩ | ⟨hmk,_⟩⟩
  ·
   cases e
  ·
   cases e
  ·
   cases e
  ·
   exact no_body hg.1 h4 hmk
end Go.Proofs.YtbhbilcieodbhaaGreat
/-
  The media of the document as a machine over the chip's state: pages read, pages programmed; that each has one answer; and what becomes of a page that is programmed on a calm block, whole or up to a cut, and of one whose bits are turned. No condition: lemmas.
-/
namespace Go.Proofs.YtbhbilcieodbhaaGreat
open Go.RowKit
set_option maxRecDepth 100000
def Pg.zero:Pg:=⟨false,0,0,0,0,false,false,[],0⟩
def ReadR (s:Chp) (r:Int) (a:Int) (s':Chp) (r':Int) (g:Pg) (c:Nat):Prop:=
 s'=(readV s a).1/\c=(readV s a).2.2/\((c≠0/\r'=r/\g=Pg.zero)\/(c=0/\r'=wrap64 (r+1)/\ToldR (readV s a).2.1 a g))
theorem ReadR.ok {s:Chp} {r a:Int} {s1:Chp} {r1:Int} {g1:Pg} {c1:Nat} (h:ReadR s r a s1 r1 g1 c1) (hs:s.Ok):s1.Ok:=by
 rw[h.1]
 exact readV_ok hs a
def wrN (s:Chp) (a:Int) (W:Nat->List Nat):Nat->Chp × Nat
 | 0=>(s,0)
 | n+1=>if (wrN s a W n).2=0 then writeR (wrN s a W n).1 a n (W n) else wrN s a W n
theorem wrN_ok {s:Chp} (hs:s.Ok) (a:Int) {W:Nat->List Nat}:∀ n,(∀ k,k<n->Bys (W k))->(wrN s a W n).1.Ok:=by
 intro n
 induction n with
 | zero=>intro _;exact hs
 | succ n ih=>
  intro hW
  have h1:=ih (fun k hk=>hW k (by omega))
  show (if (wrN s a W n).2=0 then writeR (wrN s a W n).1 a n (W n) else wrN s a W n).1.Ok
  split
  ·
   exact writeR_ok h1 _ _ (hW n (by omega))
  ·
   exact h1
theorem wrN_code (s:Chp) (a:Int) (W:Nat->List Nat):∀ n,nIsCode (wrN s a W n).2:=by
 intro n
 induction n with
 | zero=>exact Or.inl rfl
 | succ n ih=>
  show nIsCode (if (wrN s a W n).2=0 then writeR (wrN s a W n).1 a n (W n) else wrN s a W n).2
  split
  ·
   exact writeR_code _ _ _ _
  ·
   exact ih
def Pg.Is (g:Pg) (p o q c:Nat) (l:Bool) (Dt:List Nat):Prop:=g.tagged=true/\(g.p=p/\g.o=o/\g.s=q/\g.c=c/\g.l=l)/\g.sound=true/\g.data=Dt
def ProgR (s:Chp) (r:Int) (a p o q c:Nat) (l:Bool) (Dt:List Nat) (s':Chp) (r':Int) (e:Nat):Prop:=
 ((wrN s a (wordOf Dt (body p o q c l)) 4).2≠0/\s'=(wrN s a (wordOf Dt (body p o q c l)) 4).1/\r'=r/\e=(wrN s a (wordOf Dt (body p o q c l)) 4).2) \/
 ((wrN s a (wordOf Dt (body p o q c l)) 4).2=0/\∃ g x,ReadR (wrN s a (wordOf Dt (body p o q c l)) 4).1 r a s' r' g x/\((x≠0/\e=x)\/(x=0/\g.Is p o q c l Dt/\e=0)\/(x=0/\¬ g.Is p o q c l Dt/\e=8)))
theorem wrN_stop {s:Chp} {a:Int} {W:Nat->List Nat} {n:Nat} (h:(wrN s a W n).2≠0):∀ m,wrN s a W (n+m)=wrN s a W n:=by
 intro m
 induction m with
 | zero=>rfl
 | succ m ih=>
  show (if (wrN s a W (n+m)).2=0 then _ else wrN s a W (n+m))=_
  rw[ih,if_neg h]
end Go.Proofs.YtbhbilcieodbhaaGreat
/-
  What follows of the media's machine: a page programmed on a calm block is read as it was; its turned bytes are what the chip counts; a page that was cut off has no tag. No condition: lemmas.
-/
namespace Go.Proofs.YtbhbilcieodbhaaGreat
open Go.RowKit
set_option maxRecDepth 100000
theorem hurt_dmg {t:Chp} (ht:t.Ok) {a k:Nat} (hk:k<4) {Dt Z:List Nat} (h:(t.ch (4*a+k)).tru=wordOf Dt Z k):hurt Dt Z (pgTo t a 4) k=dmg (t.ch (4*a+k)):=by
 rw[hurt,part_page ht a k hk,dmg_ds,h]
theorem word_length {Dt Z:List Nat} (hD:Dt.length=174) (bD:Bys Dt) (hZ:Z.length=50) (bZ:Bys Z) (k:Nat) (hk:k<4):(wordOf Dt Z k).length=64:=(word_cw hD bD hZ bZ k hk).1
theorem readV_on {s:Chp} {a:Nat} (ha:a<96) (hon:s.on=true):readV s a=(rdS s a,pgTo s a 4,0):=by
 unfold readV
 rw[if_neg (by omega),if_neg (by rw[hon];simp),Int.toNat_natCast]
theorem May.place {p o q c:Nat} {l:Bool} (h:May p o q c l):p<96:=by
 have:=h.1.1
 omega
end Go.Proofs.YtbhbilcieodbhaaGreat
/-
  What media reads a page as: the damage of its codewords, its tag, the whole. Conditions: the media stands whole, the page has 256 bytes.
-/
namespace Go.Proofs.YtbhbilcieodbhaaGreat
open Go.RowKit
set_option maxRecDepth 100000
def Med (w:World) (m g p q b:Nat) (r:Int):Prop:=w.heap[m]?=some (.cells #[.pointer (some ⟨g,0,none⟩),.pointer (some ⟨p,0,none⟩),.int .i64 r] 215)/\Frm w p q b
theorem Med.lt {w:World} {m g p q b:Nat} {r:Int} (h:Med w m g p q b r):m<w.heap.size:=(Array.getElem?_eq_some_iff.1 h.1).1
theorem Med.cells {w:World} {m g p q b:Nat} {r:Int} (h:Med w m g p q b r):w.cell? ⟨m,0,none⟩=some (.pointer (some ⟨g,0,none⟩))/\w.cell? ⟨m,1,none⟩=some (.pointer (some ⟨p,0,none⟩))/\w.cell? ⟨m,2,none⟩=some (.int .i64 r):=by
 refine⟨?_,?_,?_⟩ <;> simp[World.cell?,h.1]
theorem Med.mb {w:World} {m g p q b:Nat} {r:Int} (h:Med w m g p q b r):m≠b:=by
 intro e
 obtain⟨c,z,hc,-⟩:=fld_heap h.2.1.1
 have h2:=h.1
 rw[e,hc] at h2
 simp at h2
theorem Med.but {w w':World} {m g p q b:Nat} {r:Int} (h:Med w m g p q b r) (hF:Frm w' p q b) (hB:But b w w'):Med w' m g p q b r:=⟨(hB.block m h.lt h.mb).trans h.1,hF⟩
theorem Med.chg {w w':World} {m g p q b:Nat} {r:Int} (h:Med w m g p q b r) (hc:Chg (fun _=>False) w w'):Med w' m g p q b r:=⟨(hc.block m h.lt (fun f=>f)).trans h.1,h.2.chg hc⟩
theorem Med.lts {w:World} {m g p q b:Nat} {r:Int} (h:Med w m g p q b r):m<w.heap.size/\p<w.heap.size/\q<w.heap.size/\b<w.heap.size:=⟨h.lt,h.2.lt,h.2.1.lt,h.2.1.1.lt⟩
theorem Med.far {S:Nat->Prop} {w w':World} {m g p q b:Nat} {r:Int} (h:Med w m g p q b r) (hc:Chg S w w') (hm:¬ S m) (hp:¬ S p) (hq:¬ S q) (hb:¬ S b):Med w' m g p q b r:=
 ⟨(hc.block m h.lt hm).trans h.1,h.2.other (hc.block b h.2.1.1.lt hb) (hc.block q h.2.1.lt hq) (hc.block p h.2.lt hp)⟩
theorem But.fresh {b k:Nat} {u w w':World} (h:But b u w) (hc:Chg (·=k) w w') (hk:u.heap.size<=k):But b u w':=
 ⟨hc.os.trans h.os,hc.tape.trans h.tape,hc.output.trans h.output,Nat.le_trans h.size hc.size,fun i hi hb=>(hc.block i (Nat.lt_of_lt_of_le hi h.size) (by omega)).trans (h.block i hi hb)⟩
theorem errV_no {c:Nat} (h:c≠0):errV c=.iface 56 (.int .i64 (c:Int)):=if_neg h
theorem neq_errV {c:Nat} (hc:IsCode c) (h:c≠0) (w:World):(binOp .neq 33 (.iface 56 (.int .i64 (c:Int))) .nilIface).run Tryz.prog w=.ok (.bool true) w:=by
 rcases hc with rfl | rfl | rfl | rfl
 ·
  exact absurd rfl h
 ·
  exact neq_arg_nil w
 ·
  exact neq_dec_nil w
 ·
  exact neq_mark_nil w
theorem eql_errV {c:Nat} (hc:IsCode c) (h:c≠0) (w:World):(binOp .eql 33 (.iface 56 (.int .i64 (c:Int))) .nilIface).run Tryz.prog w=.ok (.bool false) w:=by
 rcases hc with rfl | rfl | rfl | rfl
 ·
  exact absurd rfl h
 ·
  exact eql_arg_nil w
 ·
  exact eql_dec_nil w
 ·
  exact eql_mark_nil w
theorem errV_zero:errV 0=.nilIface:=rfl
def Pb (w:World) (k:Nat) (t:Bool) (p o s c:Int) (l sd:Bool) (v:Value) (d:Int):Prop:=w.heap[k]?=some (.cells #[.bool t,.int .i64 p,.int .i64 o,.int .i64 s,.int .i64 c,.bool l,.bool sd,v,.int .i64 d] 129)
theorem Pb.new (w:World) (t:Bool) (p o s c:Int) (l sd:Bool) (v:Value) (d:Int):Pb (w.alloc (.cells #[.bool t,.int .i64 p,.int .i64 o,.int .i64 s,.int .i64 c,.bool l,.bool sd,v,.int .i64 d] 129)) w.heap.size t p o s c l sd v d:=by
 show (w.heap.push _)[w.heap.size]?=_
 simp
theorem Pb.lt {w:World} {k:Nat} {t:Bool} {p o s c:Int} {l sd:Bool} {v:Value} {d:Int} (h:Pb w k t p o s c l sd v d):k<w.heap.size:=(Array.getElem?_eq_some_iff.1 (show w.heap[k]?=some _ from h)).1
theorem Pb.chg {S:Nat->Prop} {w w':World} {k:Nat} {t:Bool} {p o s c:Int} {l sd:Bool} {v:Value} {d:Int} (h:Pb w k t p o s c l sd v d) (hc:Chg S w w') (hk:¬ S k):Pb w' k t p o s c l sd v d:=(hc.block k h.lt hk).trans h
theorem Pb.alloc {w:World} {k:Nat} {t:Bool} {p o s c:Int} {l sd:Bool} {v:Value} {d:Int} (h:Pb w k t p o s c l sd v d) (x:Obj):Pb (w.alloc x) k t p o s c l sd v d:=(Below.heap_alloc _ _ _ h.lt).trans h
theorem Pb.cells {w:World} {k:Nat} {t:Bool} {p o s c:Int} {l sd:Bool} {v:Value} {d:Int} (h:Pb w k t p o s c l sd v d) :
 w.cell? ⟨k,0,none⟩=some (.bool t)/\w.cell? ⟨k,1,none⟩=some (.int .i64 p)/\w.cell? ⟨k,2,none⟩=some (.int .i64 o)/\w.cell? ⟨k,3,none⟩=some (.int .i64 s)/\w.cell? ⟨k,4,none⟩=some (.int .i64 c)/\w.cell? ⟨k,5,none⟩=some (.bool l)/\w.cell? ⟨k,6,none⟩=some (.bool sd)/\w.cell? ⟨k,7,none⟩=some v/\w.cell? ⟨k,8,none⟩=some (.int .i64 d):=by
 have h':w.heap[k]?=some _:=h
 refine⟨?_,?_,?_,?_,?_,?_,?_,?_,?_⟩ <;> simp[World.cell?,h']
theorem Pb.frozen {w:World} {k:Nat} {t:Bool} {p o s c:Int} {l sd:Bool} {v:Value} {d:Int} (h:Pb w k t p o s c l sd v d) (i:Nat):w.frozen? ⟨k,i,none⟩=false:=by
 have h':w.heap[k]?=some _:=h
 simp[World.frozen?,h']
theorem Pb.set0 {w:World} {k:Nat} {t:Bool} {p o s c:Int} {l sd:Bool} {v:Value} {d:Int} (h:Pb w k t p o s c l sd v d) (t':Bool):Pb (w.setCell ⟨k,0,none⟩ (.bool t')) k t' p o s c l sd v d:=heap_setCell_same w k 0 _ 129 _ h
theorem Pb.set1 {w:World} {k:Nat} {t:Bool} {p o s c:Int} {l sd:Bool} {v:Value} {d:Int} (h:Pb w k t p o s c l sd v d) (p':Int):Pb (w.setCell ⟨k,1,none⟩ (.int .i64 p')) k t p' o s c l sd v d:=heap_setCell_same w k 1 _ 129 _ h
theorem Pb.set2 {w:World} {k:Nat} {t:Bool} {p o s c:Int} {l sd:Bool} {v:Value} {d:Int} (h:Pb w k t p o s c l sd v d) (o':Int):Pb (w.setCell ⟨k,2,none⟩ (.int .i64 o')) k t p o' s c l sd v d:=heap_setCell_same w k 2 _ 129 _ h
theorem Pb.set3 {w:World} {k:Nat} {t:Bool} {p o s c:Int} {l sd:Bool} {v:Value} {d:Int} (h:Pb w k t p o s c l sd v d) (s':Int):Pb (w.setCell ⟨k,3,none⟩ (.int .i64 s')) k t p o s' c l sd v d:=heap_setCell_same w k 3 _ 129 _ h
theorem Pb.set4 {w:World} {k:Nat} {t:Bool} {p o s c:Int} {l sd:Bool} {v:Value} {d:Int} (h:Pb w k t p o s c l sd v d) (c':Int):Pb (w.setCell ⟨k,4,none⟩ (.int .i64 c')) k t p o s c' l sd v d:=heap_setCell_same w k 4 _ 129 _ h
theorem Pb.set5 {w:World} {k:Nat} {t:Bool} {p o s c:Int} {l sd:Bool} {v:Value} {d:Int} (h:Pb w k t p o s c l sd v d) (l':Bool):Pb (w.setCell ⟨k,5,none⟩ (.bool l')) k t p o s c l' sd v d:=heap_setCell_same w k 5 _ 129 _ h
theorem Pb.set6 {w:World} {k:Nat} {t:Bool} {p o s c:Int} {l sd:Bool} {v:Value} {d:Int} (h:Pb w k t p o s c l sd v d) (sd':Bool):Pb (w.setCell ⟨k,6,none⟩ (.bool sd')) k t p o s c l sd' v d:=heap_setCell_same w k 6 _ 129 _ h
theorem Pb.set7 {w:World} {k:Nat} {t:Bool} {p o s c:Int} {l sd:Bool} {v:Value} {d:Int} (h:Pb w k t p o s c l sd v d) (v':Value):Pb (w.setCell ⟨k,7,none⟩ v') k t p o s c l sd v' d:=heap_setCell_same w k 7 _ 129 _ h
theorem Pb.tag {w:World} {k:Nat} {t:Bool} {p o s c:Int} {l sd:Bool} {v:Value} {d:Int} (h:Pb w k t p o s c l sd v d) (p' o' s' c':Int) (l':Bool):Pb (w.setCells k 1 [.int .i64 p',.int .i64 o',.int .i64 s',.int .i64 c',.bool l']) k t p' o' s' c' l' sd v d:=
 ((((h.set1 p').set2 o').set3 s').set4 c').set5 l'
theorem chg_pg {S:Nat->Prop} {u w:World} {k:Nat} (h:Chg S u w) (hk:S k\/u.heap.size<=k) (vs:List Value):Chg S u (w.setCells k 1 vs):=Chg.setCells hk vs 1 h
theorem size65:(Tryz.prog.info? 129).map (·.size)=some 9:=by kernel_rfl
theorem wpList_load_pg {ops:Array Oper} {rest:List Oper} {o:Oper} {a:Act} {w:World} {Q:Exit->Act->World->Prop} (hgd:o.guard=none) (x:Operand) (ho:o.op=.load 129 x)
 (g:Nat) (hx:a.eval x=.pointer (some ⟨g,0,none⟩)) {t:Bool} {p of s c:Int} {l sd:Bool} {v:Value} {d:Int} (hg:Pb w g t p of s c l sd v d)
 (h:wpList Tryz.prog ops Q rest (a.put o.dst (.agg #[.bool t,.int .i64 p,.int .i64 of,.int .i64 s,.int .i64 c,.bool l,.bool sd,v,.int .i64 d])) w):wpList Tryz.prog ops Q (o :: rest) a w:=
 wpList_load_row hgd 129 x ho g hx 129 _ _ _ hg Tryz.underlying129 rfl size65 h
theorem wpList_store_pg {ops:Array Oper} {rest:List Oper} {o:Oper} {a:Act} {w:World} {Q:Exit->Act->World->Prop} (hgd:o.guard=none) (x y:Operand) (ho:o.op=.store 129 x y)
 (g:Nat) (hx:a.eval x=.pointer (some ⟨g,0,none⟩)) {t:Bool} {p of s c:Int} {l sd:Bool} {v:Value} {d:Int} (hy:a.eval y=.agg #[.bool t,.int .i64 p,.int .i64 of,.int .i64 s,.int .i64 c,.bool l,.bool sd,v,.int .i64 d]) (hv:v.oneCell'=true)
 {t':Bool} {p' o' s' c':Int} {l' sd':Bool} {v':Value} {d':Int} (hg:Pb w g t' p' o' s' c' l' sd' v' d')
 (h:∀ w',Pb w' g t p of s c l sd v d->Chg (·=g) w w'->wpList Tryz.prog ops Q rest (a.put o.dst undef) w'):wpList Tryz.prog ops Q (o :: rest) a w:=
 wpList_store_row hgd 129 x y ho g _ hx hy 129 _ hg size65 rfl (by simp[hv];simp[Value.oneCell']) (h _ (setRow_heap w g _ _ 129 _ hg) ⟨rfl,rfl,rfl,by simp,fun k _ hk=>setRow_other _ _ _ _ hk⟩)
theorem Pb.there {w:World} {k:Nat} {t:Bool} {p o s c:Int} {l sd:Bool} {v:Value} {d:Int} (h:Pb w k t p o s c l sd v d):w.there k 1 5:=fun j hj=>by
 obtain⟨-,h1,h2,h3,h4,h5,-⟩:=h.cells
 refine⟨?_,h.frozen _⟩
 rcases(by omega:j=0\/j=1\/j=2\/j=3\/j=4) with rfl | rfl | rfl | rfl | rfl
 ·
  rw[h1];rfl
 ·
  rw[h2];rfl
 ·
  rw[h3];rfl
 ·
  rw[h4];rfl
 ·
  rw[h5];rfl
theorem wpList_store_pgt {ops:Array Oper} {rest:List Oper} {o:Oper} {a:Act} {w:World} {Q:Exit->Act->World->Prop} (hgd:o.guard=none) (x y:Operand) (ho:o.op=.store 127 x y)
 (g:Nat) (hx:a.eval x=.pointer (some ⟨g,1,none⟩)) {p of s c:Int} {l:Bool} (hy:a.eval y=.agg #[.int .i64 p,.int .i64 of,.int .i64 s,.int .i64 c,.bool l])
 {t:Bool} {p' o' s' c':Int} {l' sd:Bool} {v:Value} {d:Int} (hg:Pb w g t p' o' s' c' l' sd v d)
 (h:∀ w',Pb w' g t p of s c l sd v d->Chg (·=g) w w'->wpList Tryz.prog ops Q rest (a.put o.dst undef) w'):wpList Tryz.prog ops Q (o :: rest) a w:=
 wpList_store_mid hgd 127 x y ho g 1 _ hx hy hg.there size23 (by simp[Value.oneCell']) (h _ (hg.tag p of s c l) (chg_pg (S:=(·=g)) (Chg.refl _ w) (Or.inl rfl) _))
theorem results_pg {fn:Func} {q:Tmp} (h:fn.results=#[.cell q 129]) (tmps:Array Value) {w:World} {g:Nat} {t:Bool} {p o s c:Int} {l sd:Bool} {v:Value} {d:Int} (hp:tmps.getD q undef=.pointer (some ⟨g,0,none⟩)) (hT:Pb w g t p o s c l sd v d) :
 (results fn tmps).run Tryz.prog w=.ok (.agg #[.bool t,.int .i64 p,.int .i64 o,.int .i64 s,.int .i64 c,.bool l,.bool sd,v,.int .i64 d]) w:=
 results_cell_row h tmps w g 129 _ _ _ hp hT Tryz.underlying129 rfl size65
theorem results_pg2 {fn:Func} {q u:Tmp} (h:fn.results=#[.cell q 129,.tmp u]) (tmps:Array Value) {w:World} {g:Nat} {t:Bool} {p o s c:Int} {l sd:Bool} {v:Value} {d:Int} (hp:tmps.getD q undef=.pointer (some ⟨g,0,none⟩)) (hT:Pb w g t p o s c l sd v d) :
 (results fn tmps).run Tryz.prog w=.ok (.tuple #[.agg #[.bool t,.int .i64 p,.int .i64 o,.int .i64 s,.int .i64 c,.bool l,.bool sd,v,.int .i64 d],tmps.getD u undef]) w:=by
 rw[results_cell_tmp h,hp]
 simp[asAddr,run_loadVar_row w g 129 129 _ _ _ hT Tryz.underlying129 rfl size65]
def pgV (g:Pg) (v:Value):Value:=.agg #[.bool g.tagged,.int .i64 g.p,.int .i64 g.o,.int .i64 g.s,.int .i64 g.c,.bool g.l,.bool g.sound,v,.int .i64 g.dmg]
set_option maxHeartbeats 4000000 in
theorem mdamage_any (m g p q b:Nat) (r:Int) (w:World) (h:Med w m g p q b r) (c o cap:Nat) (L:List Nat) (hL:L.length=256) (bL:Bys L) (hcb:c≠b) (hcs:c<w.heap.size) (hcap:256<=cap) (hh:Held w (.slice (some ⟨c,o,none⟩) 256 cap) L) :
 Calls Tryz.prog 166 #[.pointer (some ⟨m,0,none⟩),.slice (some ⟨c,o,none⟩) 256 cap] w fun e w'=>∃ d:Nat,e=.returned (.int .i64 d)/\DmgR L d/\Med w' m g p q b r/\But b w w':=by
 have HH:=hyd hh
 have HL:=hyd hL
 have HM:=hyd h
 clear hh hL h
 go_enter Tryz.func166,Tryz.ntmps166
 go_wp2_with fail
 go_loopw [5,10] (fun t5 t10 wr=>∃ (k:Nat) (R:Nat->List Nat) (d e:Nat->Nat),k<=4/\t10=.int .i64 k/\t5=.int .i64 (dmgs d e k:Nat)/\(∀ j,j<k->MsgR L (j:Nat) (R j) (d j) (e j))/\Med wr m g p q b r/\But b w wr) (fun _ t10 _=>4 - (intOf t10).toNat)
 case atStart=>exact⟨0,fun _=>[],fun _=>0,fun _=>0,by omega,rfl,rfl,fun j hj=>absurd hj (by omega),HM.out,But.refl _ _⟩
 case round=>
  obtain⟨k,R,d,e,hk,rfl,rfl,hR,hM,hB⟩:=hrel
  by_cases hlt:k<4
  ·
   have hlt':(k:Int)<4:=by omega
   obtain⟨c0,c1,c2⟩:=hM.cells
   have hHx:=HH.out.chg hB.chg (fun k _ he e=>hcb ((Option.some.inj he).trans e))
   have hsx:=hB.size
   have hcall:=message_v p q b wr hM.2 c o 256 cap L HL.out.symm bL hcb (by omega) hcap hHx (k:Nat)
   have HR:=hyd hR
   have HMx:=hyd hM
   have HBx:=hyd hB
   clear hR hM hB hHx
   go_wp2_with fail
   refine hcall.mono ?_
   rintro x w2 ⟨⟨a,n,cp,R2,d2,e2,rfl,-,hm,-⟩,hF2,hB2⟩
   clear hcall
   have HM2:=hyd (HMx.out.but hF2 hB2)
   have HB2:=hyd (HBx.out.trans hB2)
   have hcode:=hm.code
   have hR2:∀ j,j<k+1->MsgR L (j:Nat) (if j=k then R2 else R j) (if j=k then d2 else d j) (if j=k then e2 else e j):=by
    intro j hj
    by_cases ej:j=k
    ·
     subst ej
     rw[if_pos rfl,if_pos rfl,if_pos rfl]
     exact hm
    ·
     rw[if_neg ej,if_neg ej,if_neg ej]
     exact HR.out j (by omega)
   have hd0:dmgs (fun j=>if j=k then d2 else d j) (fun j=>if j=k then e2 else e j) k=dmgs d e k:=dmgs_congr k (fun j hj=>⟨by rw[if_neg (by omega)],by rw[if_neg (by omega)]⟩)
   have hd1:dmgs (fun j=>if j=k then d2 else d j) (fun j=>if j=k then e2 else e j) (k+1)=if e2=0 then max (dmgs d e k) d2 else dmgs d e k:=by
    show (if (if k=k then e2 else e k)=0 then max (dmgs _ _ k) (if k=k then d2 else d k) else dmgs _ _ k)=_
    rw[hd0,if_pos rfl,if_pos rfl]
   have HR2:=hyd hR2
   have HD1:=hyd hd1
   have q1:=eql_nil_nil
   by_cases he:e2=0
   ·
    subst he
    rw[if_pos rfl] at HD1
    clear hd1 hd0 hR2 hm hF2 hB2 HMx HBx hcode
    rw[errV_zero]
    go_wp2
    exact⟨⟨k+1,_,_,_,by omega,by go_num,by rw[HD1.out];go_num,HR2.out,HM2.out,HB2.out⟩,by simp[intOf];omega⟩
   ·
    have q2:=eql_errV hcode.1 he
    rw[if_neg he] at HD1
    rw[errV_no he]
    clear hd1 hd0 hR2 hm hF2 hB2 HMx HBx hcode
    go_wp2
    exact⟨⟨k+1,_,_,_,by omega,by go_num,by rw[HD1.out],HR2.out,HM2.out,HB2.out⟩,by simp[intOf];omega⟩
  ·
   obtain rfl:k=4:=by omega
   have HR:=hyd hR
   clear hR
   go_wp2
   go_ret
   exact⟨_,rfl,⟨R,d,e,HR.out,rfl⟩,hM,hB⟩
end Go.Proofs.YtbhbilcieodbhaaGreat
/-
  media's tagOf, page and Read: what a page is read as. Conditions: the media and its chip stand whole.
-/
namespace Go.Proofs.YtbhbilcieodbhaaGreat
open Go.RowKit
set_option maxRecDepth 100000
theorem BodR.good {L B:List Nat} {d:Nat} (h:BodR L B d 0):B.length=50/\Bys B:=by
 rcases h with ⟨_,_,_,e⟩ | ⟨_,_,_,_,e⟩ | ⟨_,r,hg,⟨_,_,_,e⟩ | ⟨_,rfl,_,_⟩⟩
 ·
  cases e
 ·
  cases e
 ·
  cases e
 ·
  exact⟨by rw[List.length_take,hg.2.1];decide,fun n hn=>hg.2.2.1 n (List.mem_of_mem_take hn)⟩
theorem DatR.good {L B:List Nat} {d:Nat} (h:DatR L B d 0):B.length=174/\Bys B:=by
 rcases h with ⟨_,_,_,e⟩ | ⟨_,_,_,_,e⟩ | ⟨_,r0,r1,r2,h0,h1,h2,rfl,_,_⟩
 ·
  cases e
 ·
  cases e
 ·
  refine⟨by rw[List.length_append,List.length_append,h0.2.1,h1.2.1,h2.2.1],fun n hn=>?_⟩
  rcases List.mem_append.1 hn with hn | hn
  ·
   rcases List.mem_append.1 hn with hn | hn
   ·
    exact h0.2.2.1 n hn
   ·
    exact h1.2.2.1 n hn
  ·
   exact h2.2.2.1 n hn
def TgAns (L:List Nat) (a:Int) (e:Ending):Prop:=
 ∃ (B:List Nat) (bd bc:Nat),BodR L B bd bc /\
  ((¬ TagAt B bc a/\e=.returned (.tuple #[.agg #[.int .i64 0,.int .i64 0,.int .i64 0,.int .i64 0,.bool false],.bool false])) \/
   (TagAt B bc a/\e=.returned (.tuple #[.agg #[.int .i64 (fld B 0 2:Nat),.int .i64 (fld B 2 1:Nat),.int .i64 (fld B 3 5:Nat),.int .i64 (fld B 8 1:Nat),.bool (lst B)],.bool true])))
set_option maxHeartbeats 8000000 in
theorem mtag_any (m g p q b:Nat) (r:Int) (w:World) (h:Med w m g p q b r) (a:Int) (c o cap:Nat) (L:List Nat) (hL:L.length=256) (bL:Bys L) (hcb:c≠b) (hcs:c<w.heap.size) (hcap:256<=cap) (hh:Held w (.slice (some ⟨c,o,none⟩) 256 cap) L) :
 Calls Tryz.prog 167 #[.pointer (some ⟨m,0,none⟩),.int .i64 a,.slice (some ⟨c,o,none⟩) 256 cap] w fun e w'=>TgAns L a e/\Med w' m g p q b r/\But b w w':=by
 have hb:=build23
 have HT:=hyd (Tg.new w 0 0 0 0 false)
 have G0:Chg (fun _=>False) w (w.alloc (.cells #[.int .i64 0,.int .i64 0,.int .i64 0,.int .i64 0,.bool false] 127)):=(Chg.refl _ w).alloc _
 have M0:=h.chg G0
 have H0:=hh.chgF G0
 have hs0:=G0.size
 obtain⟨hms,hps,hqs,hbs⟩:=h.lts
 have hcall:=body_v p q b _ M0.2 c o 256 cap L hL.symm bL hcb (by omega) hcap H0
 obtain⟨c0,c1,c2⟩:=M0.cells
 have HM:=hyd M0
 have HG:=hyd G0
 have q1:=neq_nil_nil
 have q2:=tneq_arg_nil
 have q3:∀ w:World,(binOp .neq 33 (.iface 56 (.int .i64 3)) .nilIface).run Tryz.prog w=.ok (.bool true) w:=fun w=>by kernel_rfl
 clear G0 M0 H0 hL hh h hs0
 go_enter Tryz.func167,Tryz.ntmps167
 go_wp2_with fail
 refine hcall.mono ?_
 rintro x w1 ⟨⟨ad,n,cp,B,bd,bc,rfl,hn,hB,hO⟩,hF1,hB1⟩
 clear hcall
 have hcode:=hB.code.1
 have HM1:=hyd (HM.out.but hF1 hB1)
 have HB1:=hyd (show But b w w1 from HG.out.but.trans hB1)
 have HT1:=hyd (HT.out.chg hB1.chg (fun e=>by omega))
 clear c0 c1 c2 HM HT HG hF1 hB1
 by_cases hbc:bc=0
 ·
  subst hbc
  obtain⟨hlB,bB⟩:=hB.good
  have hd:=tdecode_any w1 ad n cp B bB hn (by obtain⟨g',cap',hv,-,-,hle,-⟩:=hO.lies (by omega);injection hv;omega) hO.held
  rw[errV_zero]
  have HBd:=hyd hB
  have HlB:=hyd hlB
  clear hcode hB hlB hO hn
  go_wp2_with fail
  refine hd.mono ?_
  rintro x w2 ⟨v,y,rfl,hans,G2⟩
  clear hd
  have HM2:=hyd (HM1.out.chg G2)
  have HB2:=hyd (HB1.out.trans G2.but)
  have HT2:=hyd (HT1.out.chg G2 (fun e=>e))
  clear HM1 HB1 HT1 G2
  rcases hans with ⟨h5,-⟩ | ⟨-,hni,rfl,rfl⟩ | ⟨-,his,rfl,rfl⟩
  ·
   exact absurd HlB.out h5
  ·
   have T3:=HT2.out.alloc (.cells #[.int .i64 0,.int .i64 0,.int .i64 0,.int .i64 0,.bool false] 127)
   have HM3:=hyd (HM2.out.chg ((Chg.refl _ w2).alloc (.cells #[.int .i64 0,.int .i64 0,.int .i64 0,.int .i64 0,.bool false] 127)))
   have HB3:=hyd (HB2.out.alloc (.cells #[.int .i64 0,.int .i64 0,.int .i64 0,.int .i64 0,.bool false] 127))
   have HT3:=hyd T3
   clear T3 HM2 HB2 HT2
   go_wp2_with (refine wpList_store_tag rfl (.tmp 6) (.tmp 38) rfl w.heap.size rfl rfl HT3.out ?_)
   intro w4 T4 G4
   have HT4:=hyd T4
   have M4:=HM3.out.far G4 (by omega) (by omega) (by omega) (by omega)
   have B4:=HB3.out.fresh G4 (Nat.le_refl _)
   have HM4:=hyd M4
   have HB4:=hyd B4
   clear T4 G4 M4 B4 HM3 HB3 HT3
   go_wp2
   refine bodyPost_ret (results_tag rfl _ rfl HT4.out) rfl ?_
   exact⟨⟨B,bd,0,HBd.out,Or.inl ⟨fun ht=>hni ht.2.1,rfl⟩⟩,HM4.out,HB4.out⟩
  ·
   have T3:=HT2.out.alloc (.cells #[.int .i64 (fld B 0 2:Nat),.int .i64 (fld B 2 1:Nat),.int .i64 (fld B 3 5:Nat),.int .i64 (fld B 8 1:Nat),.bool (lst B)] 127)
   have V3:=Tg.new w2 (fld B 0 2:Nat) (fld B 2 1:Nat) (fld B 3 5:Nat) (fld B 8 1:Nat) (lst B)
   have HM3:=hyd (HM2.out.chg ((Chg.refl _ w2).alloc (.cells #[.int .i64 (fld B 0 2:Nat),.int .i64 (fld B 2 1:Nat),.int .i64 (fld B 3 5:Nat),.int .i64 (fld B 8 1:Nat),.bool (lst B)] 127)))
   have HB3:=hyd (HB2.out.alloc (.cells #[.int .i64 (fld B 0 2:Nat),.int .i64 (fld B 2 1:Nat),.int .i64 (fld B 3 5:Nat),.int .i64 (fld B 8 1:Nat),.bool (lst B)] 127))
   have HT3:=hyd T3
   obtain⟨v0,v1,v2,v3,v4⟩:=V3.cells
   clear T3 V3 HM2 HB2 HT2
   by_cases hp:((fld B 0 2:Nat):Int)=a
   ·
    have hp':(((fld B 0 2:Nat):Int) != a)=false:=by simp[hp]
    have HP:=hyd hp
    clear hp
    go_wp2_with (refine wpList_store_tag rfl (.tmp 6) (.tmp 39) rfl w.heap.size rfl rfl HT3.out ?_)
    intro w4 T4 G4
    have HT4:=hyd T4
    have M4:=HM3.out.far G4 (by omega) (by omega) (by omega) (by omega)
    have B4:=HB3.out.fresh G4 (Nat.le_refl _)
    have HM4:=hyd M4
    have HB4:=hyd B4
    clear T4 G4 M4 B4 HM3 HB3 HT3 v0 v1 v2 v3 v4
    go_wp2
    refine bodyPost_ret (results_tag rfl _ rfl HT4.out) rfl ?_
    exact⟨⟨B,bd,0,HBd.out,Or.inr ⟨⟨rfl,his,HP.out⟩,rfl⟩⟩,HM4.out,HB4.out⟩
   ·
    have hp':(((fld B 0 2:Nat):Int) != a)=true:=by simp[hp]
    have HP:=hyd hp
    clear hp
    go_wp2_with (refine wpList_store_tag rfl (.tmp 6) (.tmp 38) rfl w.heap.size rfl rfl HT3.out ?_)
    intro w4 T4 G4
    have HT4:=hyd T4
    have M4:=HM3.out.far G4 (by omega) (by omega) (by omega) (by omega)
    have B4:=HB3.out.fresh G4 (Nat.le_refl _)
    have HM4:=hyd M4
    have HB4:=hyd B4
    clear T4 G4 M4 B4 HM3 HB3 HT3 v0 v1 v2 v3 v4
    go_wp2
    refine bodyPost_ret (results_tag rfl _ rfl HT4.out) rfl ?_
    exact⟨⟨B,bd,0,HBd.out,Or.inl ⟨fun ht=>HP.out ht.2.2,rfl⟩⟩,HM4.out,HB4.out⟩
 ·
  have q4:=neq_errV hcode hbc
  rw[errV_no hbc]
  clear hcode
  go_wp2_with (refine wpList_store_tag rfl (.tmp 6) (.tmp 24) rfl w.heap.size rfl rfl HT1.out ?_)
  intro w4 T4 G4
  have HT4:=hyd T4
  have M4:=HM1.out.far G4 (by omega) (by omega) (by omega) (by omega)
  have B4:=HB1.out.fresh G4 (Nat.le_refl _)
  have HM4:=hyd M4
  have HB4:=hyd B4
  clear T4 G4 M4 B4 HM1 HB1 HT1
  go_wp2
  refine bodyPost_ret (results_tag rfl _ rfl HT4.out) rfl ?_
  exact⟨⟨B,bd,bc,hB,Or.inl ⟨fun ht=>hbc ht.1,rfl⟩⟩,HM4.out,HB4.out⟩
theorem build65 (w:World) (d:Int):(Instr.build 129 #[(4,.int .i64 d)]).run Tryz.prog w=.ok (.agg #[.bool false,.int .i64 0,.int .i64 0,.int .i64 0,.int .i64 0,.bool false,.bool false,.slice none 0 0,.int .i64 d]) w:=by kernel_rfl
theorem build65z (w:World):(Instr.build 129 #[]).run Tryz.prog w=.ok (.agg #[.bool false,.int .i64 0,.int .i64 0,.int .i64 0,.int .i64 0,.bool false,.bool false,.slice none 0 0,.int .i64 0]) w:=by kernel_rfl
theorem OwnT.one {w:World} {base:Nat} {e:TypeId} {v:Value} {l:List Nat} (h:OwnT w base e v l):v.oneCell'=true:=by
 rcases h.form with ⟨rfl,_⟩ | ⟨g,cap,rfl,_⟩ <;> rfl
set_option maxHeartbeats 8000000 in
theorem mpage_any (m g p q b:Nat) (r:Int) (w:World) (h:Med w m g p q b r) (a:Int) (c o cap:Nat) (L:List Nat) (hL:L.length=256) (bL:Bys L) (hcb:c≠b) (hcs:c<w.heap.size) (hcap:256<=cap) (hh:Held w (.slice (some ⟨c,o,none⟩) 256 cap) L) :
 Calls Tryz.prog 134 #[.pointer (some ⟨m,0,none⟩),.int .i64 a,.slice (some ⟨c,o,none⟩) 256 cap] w fun e w'=>∃ x v,e=.returned (pgV x v)/\ToldR L a x/\OwnT w' w.heap.size 5 v x.data/\Med w' m g p q b r/\But b w w':=by
 have hbd:=build65
 have HP:=hyd (Pb.new w false 0 0 0 0 false false (.slice none 0 0) 0)
 have G0:Chg (fun _=>False) w (w.alloc (.cells #[.bool false,.int .i64 0,.int .i64 0,.int .i64 0,.int .i64 0,.bool false,.bool false,.slice none 0 0,.int .i64 0] 129)):=(Chg.refl _ w).alloc _
 have M0:=h.chg G0
 have H0:=hh.chgF G0
 have hs0:=G0.size
 obtain⟨hms,hps,hqs,hbs⟩:=h.lts
 have hcall:=mdamage_any m g p q b r _ M0 c o cap L hL bL hcb (by omega) hcap H0
 have HH:=hyd hh
 have HG:=hyd G0
 have HL:=hyd hL
 clear G0 M0 H0 hh h hs0 hL
 go_enter Tryz.func134,Tryz.ntmps134
 go_wp2_with fail
 refine hcall.mono ?_
 rintro x w1 ⟨d,rfl,hD,M1,B1⟩
 clear hcall
 have B1':But b w w1:=HG.out.but.trans B1
 have HP1:=hyd (HP.out.chg B1.chg (fun e=>by omega))
 have P2:=Pb.new w1 false 0 0 0 0 false false (.slice none 0 0) (d:Int)
 have G2:Chg (fun _=>False) w1 (w1.alloc (.cells #[.bool false,.int .i64 0,.int .i64 0,.int .i64 0,.int .i64 0,.bool false,.bool false,.slice none 0 0,.int .i64 (d:Int)] 129)):=(Chg.refl _ w1).alloc _
 have HP2:=hyd (HP1.out.alloc (.cells #[.bool false,.int .i64 0,.int .i64 0,.int .i64 0,.int .i64 0,.bool false,.bool false,.slice none 0 0,.int .i64 (d:Int)] 129))
 have HB2:=hyd (B1'.trans G2.but)
 have hs1:=B1'.size
 have hs01:=HP1.out.lt
 have hs2:=HB2.out.size
 have hcall:=mtag_any m g p q b r _ (M1.chg G2) a c o cap L HL.out bL hcb (by omega) hcap (HH.out.chg HB2.out.chg (fun k _ he e=>hcb ((Option.some.inj he).trans e)))
 have HK:=hyd P2
 have HD:=hyd hD
 clear hD M1 B1 B1' P2 G2 HP1 HP HG
 go_wp2_with fail
 refine hcall.mono ?_
 rintro x w3 ⟨⟨B,bd,bc,hB,hT⟩,M3,B3⟩
 clear hcall
 have HK3:=hyd (HK.out.chg B3.chg (fun e=>by omega))
 have HP3:=hyd (HP2.out.chg B3.chg (fun e=>by omega))
 have HB3:=hyd (HB2.out.trans B3)
 have HM3:=hyd M3
 have hne:w1.heap.size≠w.heap.size:=by omega
 clear HK HP2 HB2 M3 B3
 rcases hT with ⟨hno,rfl⟩ | ⟨hyes,rfl⟩
 ·
  go_wp2_with (refine wpList_store_pgt rfl (.tmp 22) (.tmp 20) rfl w1.heap.size rfl rfl HK3.out ?_)
  intro w4 P4 G4
  obtain⟨k0,-⟩:=P4.cells
  have kf:=P4.frozen 0
  have HP5:=hyd (P4.set0 false)
  have G5:Chg (·=w1.heap.size) w3 (w4.setCell ⟨w1.heap.size,0,none⟩ (.bool false)):=G4.at _ 0 _
  have HR5:=hyd (HP3.out.chg G5 (fun e=>hne e.symm))
  have HM5:=hyd (HM3.out.far G5 (by omega) (by omega) (by omega) (by omega))
  have HB5:=hyd (HB3.out.fresh G5 (by omega))
  clear G4 G5 P4 HK3 HP3 HB3 HM3
  go_wp2_with (first | (refine wpList_load_pg rfl (.tmp 7) rfl w1.heap.size rfl HP5.out ?_) | (refine wpList_store_pg rfl (.tmp 6) (.tmp 27) rfl w.heap.size rfl rfl rfl HR5.out ?_))
  intro w6 P6 G6
  have HP6:=hyd P6
  have HM6:=hyd (HM5.out.far G6 (by omega) (by omega) (by omega) (by omega))
  have HB6:=hyd (HB5.out.fresh G6 (by omega))
  clear P6 G6 HM5 HB5 HP5 HR5 k0 kf
  go_wp2
  refine bodyPost_ret (results_pg rfl _ rfl HP6.out) rfl ?_
  exact⟨⟨false,0,0,0,0,false,false,[],d⟩,_,rfl,⟨HD.out,B,bd,bc,hB,Or.inl ⟨hno,rfl,rfl,rfl,rfl,rfl,rfl,rfl,rfl⟩⟩,ownT_nil _ _,HM6.out,HB6.out⟩
 ·
  go_wp2_with (refine wpList_store_pgt rfl (.tmp 22) (.tmp 20) rfl w1.heap.size rfl rfl HK3.out ?_)
  intro w4 P4 G4
  obtain⟨k0,-⟩:=P4.cells
  have kf:=P4.frozen 0
  have P5:=P4.set0 true
  have G5:Chg (·=w1.heap.size) w3 (w4.setCell ⟨w1.heap.size,0,none⟩ (.bool true)):=G4.at _ 0 _
  have HR5:=hyd (HP3.out.chg G5 (fun e=>hne e.symm))
  have M5:=HM3.out.far G5 (by omega) (by omega) (by omega) (by omega)
  have HB5:=hyd (HB3.out.fresh G5 (by omega))
  have hs5:=HB5.out.size
  obtain⟨-,c1,-⟩:=M5.cells
  have hcall:=data_v p q b _ M5.2 c o 256 cap L HL.out.symm bL hcb (by omega) hcap (HH.out.chg HB5.out.chg (fun k _ he e=>hcb ((Option.some.inj he).trans e)))
  have hl5:=P5.lt
  have HP5:=hyd P5
  have HM5:=hyd M5
  clear G4 G5 P4 P5 M5 HK3 HP3 HB3 HM3
  go_wp2_with fail
  refine hcall.mono ?_
  rintro x w6 ⟨⟨ad,n,cp,R,dd,dc,rfl,rfl,hDat,hO⟩,hF6,hB6⟩
  clear hcall
  have hcode:=hDat.code.1
  have P6:=HP5.out.chg hB6.chg (fun e=>by omega)
  have HR6:=hyd (HR5.out.chg hB6.chg (fun e=>by omega))
  have HM6:=hyd (HM5.out.but hF6 hB6)
  have HB6:=hyd (HB5.out.trans hB6)
  have HP6:=hyd P6
  have HO6:=hyd (show OwnT w6 (w1.heap.size+1) 5 (.slice ad R.length cp) R from hO.mono (fun k hk=>by have:=(hO.block hk).1;omega))
  clear k0 kf c1 HP5 HM5 HB5 HR5 hF6 hB6 hO
  by_cases hdc:dc=0
  ·
   subst hdc
   have e0:=eql_nil_nil
   rw[errV_zero]
   obtain⟨-,-,-,-,-,-,k6,k7,-⟩:=P6.cells
   have f6:=P6.frozen 6
   have f7:=P6.frozen 7
   have HP7:=hyd ((P6.set6 true).set7 (.slice ad R.length cp))
   have G7:Chg (·=w1.heap.size) w6 ((w6.setCell ⟨w1.heap.size,6,none⟩ (.bool true)).setCell ⟨w1.heap.size,7,none⟩ (.slice ad R.length cp)):=((Chg.refl (·=w1.heap.size) w6).at _ 6 _).at _ 7 _
   have HR7:=hyd (HR6.out.chg G7 (fun e=>hne e.symm))
   have HM7:=hyd (HM6.out.far G7 (by omega) (by omega) (by omega) (by omega))
   have HB7:=hyd (HB6.out.fresh G7 (by omega))
   have HO7:=hyd (HO6.out.chg G7 (fun k _ hk e=>by have:=(HO6.out.block hk).1;omega))
   clear P6 G7 HR6 HM6 HB6 HP6 HO6 hcode
   go_wp2_with (first | (refine wpList_load_pg rfl (.tmp 7) rfl w1.heap.size rfl HP7.out ?_) | (refine wpList_store_pg rfl (.tmp 6) (.tmp 43) rfl w.heap.size rfl rfl rfl HR7.out ?_))
   intro w8 P8 G8
   have HP8:=hyd P8
   have HM8:=hyd (HM7.out.far G8 (by omega) (by omega) (by omega) (by omega))
   have HB8:=hyd (HB7.out.fresh G8 (by omega))
   have HO8:=hyd (HO7.out.chg G8 (fun k _ hk e=>by have:=(HO7.out.block hk).1;omega))
   clear P8 G8 HM7 HB7 HP7 HR7 HO7 k6 k7 f6 f7
   go_wp2
   refine bodyPost_ret (results_pg rfl _ rfl HP8.out) rfl ?_
   exact⟨⟨true,fld B 0 2,fld B 2 1,fld B 3 5,fld B 8 1,lst B,true,R,d⟩,_,rfl,⟨HD.out,B,bd,bc,hB,Or.inr ⟨hyes,rfl,rfl,rfl,rfl,rfl,rfl,R,dd,0,hDat,Or.inr ⟨rfl,rfl,rfl⟩⟩⟩,HO8.out.mono (fun k hk=>by have:=(HO8.out.block hk).1;omega),HM8.out,HB8.out⟩
  ·
   have e0:=eql_errV hcode hdc
   rw[errV_no hdc]
   clear P6 HO6 hcode
   go_wp2_with (first | (refine wpList_load_pg rfl (.tmp 7) rfl w1.heap.size rfl HP6.out ?_) | (refine wpList_store_pg rfl (.tmp 6) (.tmp 43) rfl w.heap.size rfl rfl rfl HR6.out ?_))
   intro w8 P8 G8
   have HP8:=hyd P8
   have HM8:=hyd (HM6.out.far G8 (by omega) (by omega) (by omega) (by omega))
   have HB8:=hyd (HB6.out.fresh G8 (by omega))
   clear P8 G8 HM6 HB6 HP6 HR6
   go_wp2
   refine bodyPost_ret (results_pg rfl _ rfl HP8.out) rfl ?_
   exact⟨⟨true,fld B 0 2,fld B 2 1,fld B 3 5,fld B 8 1,lst B,false,[],d⟩,_,rfl,⟨HD.out,B,bd,bc,hB,Or.inr ⟨hyes,rfl,rfl,rfl,rfl,rfl,rfl,R,dd,dc,hDat,Or.inl ⟨hdc,rfl,rfl⟩⟩⟩,ownT_nil _ _,HM8.out,HB8.out⟩
theorem neq_nerrV {c:Nat} (hc:nIsCode c) (h:c≠0):∃ x,nerrV c=.iface 56 x/\∀ w:World,(binOp .neq 33 (.iface 56 x) .nilIface).run Tryz.prog w=.ok (.bool true) w:=by
 rcases hc with rfl | rfl | rfl | rfl | rfl
 ·
  exact absurd rfl h
 ·
  exact⟨_,rfl,neq_e1_nil⟩
 ·
  exact⟨_,rfl,neq_e7_nil⟩
 ·
  exact⟨_,rfl,neq_e8_nil⟩
 ·
  exact⟨_,rfl,neq_e9_nil⟩
theorem readV_list {s:Chp} (hs:s.Ok) {a:Int} (h:(readV s a).2.2=0):(readV s a).2.1.length=256/\Bys (readV s a).2.1:=by
 unfold readV at h ⊢
 split at h
 ·
  cases h
 ·
  split at h
  ·
   cases h
  ·
   rename_i h1 h2
   rw[if_neg h1,if_neg h2]
   exact⟨pgTo_length hs _ _,pgTo_bys hs _ _⟩
theorem Med.count {w:World} {m g p q b:Nat} {r:Int} (h:Med w m g p q b r) (r':Int):Med (w.setCell ⟨m,2,none⟩ (.int .i64 r')) m g p q b r':=by
 have hm:∀ k,k≠m->(w.setCell ⟨m,2,none⟩ (.int .i64 r')).heap[k]?=w.heap[k]?:=fun k hk=>heap_setCell_other _ _ _ _ hk
 refine⟨heap_setCell_same w m 2 _ 215 _ h.1,h.2.other (hm b h.mb.symm) (hm q ?_) (hm p ?_)⟩
 ·
  intro e
  have h1:=h.2.1.2
  rw[e,h.1] at h1
  simp at h1
 ·
  intro e
  have h1:w.heap[p]?=some (.cells #[.pointer (some ⟨q,0,none⟩)] 242):=h.2.2
  rw[e,h.1] at h1
  simp at h1
theorem Med.mg {w:World} {m g p q b:Nat} {r:Int} {s:Chp} (h:Med w m g p q b r) (hC:ChipAt w g s):m≠g/\p≠g/\q≠g/\b≠g:=by
 obtain⟨cs,hg,-,-⟩:=hC
 refine⟨fun e=>?_,fun e=>?_,fun e=>?_,fun e=>?_⟩
 ·
  have h1:=h.1
  rw[e,hg] at h1
  simp at h1
 ·
  have h1:w.heap[p]?=some (.cells #[.pointer (some ⟨q,0,none⟩)] 242):=h.2.2
  rw[e,hg] at h1
  simp at h1
 ·
  have h1:=h.2.1.2
  rw[e,hg] at h1
  simp at h1
 ·
  obtain⟨c,z,hc,-⟩:=fld_heap h.2.1.1
  rw[e,hg] at hc
  simp at hc
set_option maxHeartbeats 8000000 in
theorem mread_any (m g p q b:Nat) (r:Int) (s:Chp) (hs:s.Ok) (w:World) (h:Med w m g p q b r) (hC:ChipAt w g s) (a:Int) :
 Calls Tryz.prog 99 #[.pointer (some ⟨m,0,none⟩),.int .i64 a] w fun e w'=>∃ s' r' x c v,e=.returned (.tuple #[pgV x v,nerrV c])/\ReadR s r a s' r' x c/\OwnT w' w.heap.size 5 v x.data/\Med w' m g p q b r'/\ChipAt w' g s'/\Chg (fun k=>k=m\/k=g\/k=b) w w':=by
 have hbd:=build65z
 have HP:=hyd (Pb.new w false 0 0 0 0 false false (.slice none 0 0) 0)
 have G0:Chg (fun _=>False) w (w.alloc (.cells #[.bool false,.int .i64 0,.int .i64 0,.int .i64 0,.int .i64 0,.bool false,.bool false,.slice none 0 0,.int .i64 0] 129)):=(Chg.refl _ w).alloc _
 have M0:=h.chg G0
 have C0:=hC.chg G0 (fun f=>f)
 obtain⟨hms,hps,hqs,hbs⟩:=h.lts
 obtain⟨nm,np,nq,nb⟩:=h.mg hC
 have hgs:=hC.lt
 obtain⟨c0,-,-⟩:=M0.cells
 have hcall:=read_v g s hs a _ C0
 have hs0:(w.alloc (.cells #[.bool false,.int .i64 0,.int .i64 0,.int .i64 0,.int .i64 0,.bool false,.bool false,.slice none 0 0,.int .i64 0] 129)).heap.size=w.heap.size+1:=by simp
 rw[hs0] at hcall
 have HG:=hyd G0
 have HM:=hyd M0
 have hcode:=readV_code s a
 have q0:=neq_nil_nil
 have hmb:=h.mb
 clear G0 M0 C0 hs0 h hC
 go_enter Tryz.func99,Tryz.ntmps99
 go_wp2_with fail
 refine hcall.mono ?_
 rintro x w1 ⟨ad,n,cap,rfl,hn,hO,C1,G1⟩
 clear hcall c0
 have hs1:=HG.out.size
 have M1:=HM.out.far G1 nm np nq nb
 have HP1:=hyd (HP.out.chg G1 (by omega))
 have G01:Chg (fun k=>k=m\/k=g\/k=b) w w1:=(HG.out.mono (T:=fun k=>k=m\/k=g\/k=b) (fun _ _ f=>f.elim)).trans' G1 (fun k _ e=>Or.inr (Or.inl e))
 by_cases hc:(readV s a).2.2=0
 ·
  obtain⟨hlen,hbys⟩:=readV_list hs hc
  have HC:=hyd hc
  rw[hc]
  obtain⟨g',cap',hv,hg',hg'',hle,hcl,-⟩:=hO.lies (by omega)
  have hH:=hO.held
  rw[show n=256 from by omega] at hH ⊢
  rw[show n=256 from by omega,hlen] at hv
  injection hv with hv1 hv2 hv3
  subst hv1 hv3
  generalize hLL:(readV s a).2.1=L at *
  have HLL:=hyd hLL
  clear hLL hcl hO hn hcode hc
  obtain⟨-,-,c2⟩:=M1.cells
  have M2:=M1.count (wrap64 (r+1))
  have G2:Chg (·=m) w1 (w1.setCell ⟨m,2,none⟩ (.int .i64 (wrap64 (r+1)))):=(Chg.refl (·=m) w1).at _ 2 _
  have G02:Chg (fun k=>k=m\/k=g\/k=b) w (w1.setCell ⟨m,2,none⟩ (.int .i64 (wrap64 (r+1)))):=G01.trans' G2 (fun k _ e=>Or.inl e)
  have C2:=C1.chg G2 (fun e=>nm e.symm)
  have HP2:=hyd (HP1.out.chg G2 (by omega))
  have hH2:=hH.chg G2 (fun k hk he e=>by have:=Option.some.inj he;simp at this;omega)
  have hs12:=G2.size
  have hs01:=HP1.out.lt
  have hpage:=mpage_any m g p q b (wrap64 (r+1)) _ M2 a g' 0 cap L hlen hbys (by omega) (by omega) (by omega) hH2
  have hadd:=add_any m 2 w1 c2 (by simp[World.frozen?,M1.1])
  have HM2:=hyd M2
  have HC2:=hyd C2
  have HG02:=hyd G02
  clear M1 M2 C1 C2 G1 G2 G02 G01 hH hH2 HP1
  simp only[nerrV]
  go_wp2_with fail
  refine hadd.mono ?_
  rintro x w2 ⟨rfl,rfl⟩
  clear hadd c2
  go_wp2_with fail
  refine hpage.mono ?_
  rintro x w3 ⟨X,v,rfl,hT,hO3,M3,B3⟩
  clear hpage
  have HP3:=hyd (HP2.out.chg B3.chg (fun e=>by omega))
  have HC3:=hyd (HC2.out.chg B3.chg (fun e=>nb e.symm))
  have HG3:=hyd (HG02.out.trans' B3.chg (fun k _ e=>Or.inr (Or.inr e)))
  have HM3:=hyd M3
  have HO3:=hyd hO3
  clear M3 B3 HC2 HG02 HP2 HM2
  go_wp2_with (refine wpList_store_pg rfl (.tmp 4) (.tmp 28) rfl w.heap.size rfl rfl HO3.out.one HP3.out ?_)
  intro w4 P4 G4
  have HP4:=hyd P4
  have HM4:=hyd (HM3.out.far G4 (by omega) (by omega) (by omega) (by omega))
  have HC4:=hyd (HC3.out.chg G4 (by omega))
  have HG4:=hyd (HG3.out.trans' G4 (fun k hk e=>by omega))
  have HO4:=hyd (HO3.out.chg G4 (fun k hk he e=>by have:=(HO3.out.block he).1;simp at this;omega))
  clear P4 G4 HM3 HC3 HG3 HP3 HO3
  go_wp2
  refine bodyPost_ret (results_pg2 rfl _ rfl HP4.out) rfl ?_
  exact⟨(readV s a).1,wrap64 (r+1),X,0,v,rfl,⟨rfl,HC.out.symm,Or.inr ⟨rfl,rfl,by rw[HLL.out];exact hT⟩⟩,HO4.out.mono (fun k hk=>by have:=(HO4.out.block hk).1;simp at this;omega),HM4.out,HC4.out,HG4.out⟩
 ·
  obtain⟨y,hy,q1⟩:=neq_nerrV hcode hc
  have HY:=hyd hy
  rw[hy]
  have HM1:=hyd M1
  have HC1:=hyd C1
  have HG1:=hyd G01
  clear M1 C1 G1 G01 hO hn hcode hy
  go_wp2_with (refine wpList_store_pg rfl (.tmp 4) (.tmp 19) rfl w.heap.size rfl rfl rfl HP1.out ?_)
  intro w2 P2 G2
  have HP2:=hyd P2
  have HM2:=hyd (HM1.out.far G2 (by omega) (by omega) (by omega) (by omega))
  have HC2:=hyd (HC1.out.chg G2 (by omega))
  have HG2:=hyd (HG1.out.trans' G2 (fun k hk e=>by omega))
  clear P2 G2 HM1 HC1 HG1 HP1
  go_wp2
  refine bodyPost_ret (results_pg2 rfl _ rfl HP2.out) rfl ?_
  refine⟨(readV s a).1,r,Pg.zero,(readV s a).2.2,_,?_,⟨rfl,rfl,Or.inl ⟨hc,rfl,rfl⟩⟩,ownT_nil _ _,HM2.out,HC2.out,HG2.out⟩
  rw[HY.out]
  rfl
end Go.Proofs.YtbhbilcieodbhaaGreat
/-
  (*Frame).Lay. Condition: the block holds a Frame that New gave; the bytes can be read.
-/
namespace Go.Proofs.YtbhbilcieodbhaaGreat
open Go.RowKit Go.Shelf
set_option maxRecDepth 100000
attribute [local go_sem] Oper.semAt_some
def slc (g:Nat):Value:=.slice (some ⟨g,0,none⟩) 64 64
structure Rowz (W:World) (base:Nat) (v:Value) (gs:List Nat) (ls:List (List Nat)):Prop where
 row:W.ownsRow base 35 1 v gs.length (gs.map slc)
 len:ls.length=gs.length
 arr:∀ j,j<gs.length->Arr W (gs.getD j 0) 5 (ls.getD j [])
 nd:gs.Nodup
 off:∀ k,v.ownBlock=some k->k ∉ gs
 low:∀ g ∈ gs,base<=g
theorem Rowz.mem_lt {W:World} {base:Nat} {v:Value} {gs:List Nat} {ls:List (List Nat)} (h:Rowz W base v gs ls) {g:Nat} (hg:g ∈ gs):g<W.heap.size:=by
 obtain⟨j,hj,rfl⟩:=List.getElem_of_mem hg
 have:=(h.arr j hj).lt
 rwa [List.getD_eq_getElem?_getD,List.getElem?_eq_getElem hj] at this
theorem ownsRow_keeps {X Y:World} {base:Nat} {e:TypeId} {z:Nat} {v:Value} {n:Nat} {xs:List Value} (h:X.ownsRow base e z v n xs) (hk:∀ g c t,v.ownBlock=some g->X.heap[g]?=some (.cells c t)->Y.heap[g]?=X.heap[g]?):Y.ownsRow base e z v n xs:=by
 refine⟨h.1,?_⟩
 rcases h.2 with h1 | ⟨g,cap,cur,rfl,hb,hh,r⟩
 ·
  exact Or.inl h1
 ·
  exact Or.inr ⟨g,cap,cur,rfl,hb,(hk _ _ _ rfl hh).trans hh,r⟩
theorem Rowz.keeps {X Y:World} {base:Nat} {v:Value} {gs:List Nat} {ls:List (List Nat)} (h:Rowz X base v gs ls) (hk:Keeps X Y):Rowz Y base v gs ls:=
 ⟨ownsRow_keeps h.row (fun g c t _ hh=>hk g c t hh),h.len,fun j hj=>(hk _ _ _ (h.arr j hj)).trans (h.arr j hj),h.nd,h.off,h.low⟩
theorem Rowz.chg {S:Nat->Prop} {X Y:World} {base:Nat} {v:Value} {gs:List Nat} {ls:List (List Nat)} (h:Rowz X base v gs ls) (hc:Chg S X Y) (hS:∀ k,S k->v.ownBlock≠some k/\k ∉ gs):Rowz Y base v gs ls:=
 ⟨ownsRow_keeps h.row (fun g c t e hh=>hc.block g (Array.getElem?_eq_some_iff.1 hh).1 (fun s=>(hS g s).1 e)),h.len,fun j hj=>(h.arr j hj).chg hc (fun s=>(hS _ s).2 (by rw[List.getD_eq_getElem?_getD,List.getElem?_eq_getElem hj];exact List.getElem_mem hj)),h.nd,h.off,h.low⟩
theorem make4 (w:World):(Instr.makeSlice 265 (.int .i64 0) (.int .i64 4)).run Tryz.prog w=.ok (.slice (some ⟨w.heap.size,0,none⟩) 0 4) (w.alloc (.cells #[.slice none 0 0,.slice none 0 0,.slice none 0 0,.slice none 0 0] 35)):=by kernel_rfl
theorem info22_all:(Tryz.prog.info? 35).map (fun i=>(i.zero,i.size,i.bytes))=some (some (.slice none 0 0),1,24):=by kernel_rfl
theorem results2 {fn:Func} {p1 p2:Tmp} (h:fn.results=#[.cell p1 265,.cell p2 33]) (tmps:Array Value) {w:World} {r1 r2:Nat} {v1 v2:Value} (hp1:tmps.getD p1 undef=.pointer (some ⟨r1,0,none⟩)) (hp2:tmps.getD p2 undef=.pointer (some ⟨r2,0,none⟩))
 (b1:Boxed w r1 265 v1) (b2:Boxed w r2 33 v2) :
 (results fn tmps).run Tryz.prog w=.ok (.tuple #[v1,v2]) w:=by
 have c1:=b1.cell
 have c2:=b2.cell
 have hp1':tmps[p1]?.getD undef=.pointer (some ⟨r1,0,none⟩):=by simpa using hp1
 have hp2':tmps[p2]?.getD undef=.pointer (some ⟨r2,0,none⟩):=by simpa using hp2
 simp[results,h,hp1',hp2',go_sem,c1,c2]
set_option maxHeartbeats 1000000 in
theorem lay_data (p:Nat) (w:World) (a:Option Addr) (n cap:Nat) (hn:n≠174) (bv:Value) :
 Calls Tryz.prog 218 #[.pointer (some ⟨p,0,none⟩),.slice a n cap,bv] w fun e w'=>e=.returned (.tuple #[.slice none 0 0,.iface 56 (.int .i64 1)])/\Chg (fun _=>False) w w':=by
 have hn':((n:Int) != 174)=true:=by simp;omega
 refine(callsIn_wide (n:=3)).1 ?_
 refine callsIn_of_wp_marks Tryz.func218 rfl trivial ?_ rfl
 simp only[Tryz.ntmps218,List.size_toArray,List.length_cons,List.length_nil,Nat.reduceAdd,Nat.reduceSub,Array.replicate_succ,Array.replicate_zero,List.push_toArray,List.append_toArray,List.nil_append,List.cons_append]
 gi_wp2
 refine⟨.tuple #[.slice none 0 0,.iface 56 (.int .i64 1)],?_,rfl,((((Chg.refl _ _).alloc _).alloc _).alloc _)⟩
 simp[results,Tryz.f218,go_sem]
def LI (w W3 W:World) (p q b r Bx:Nat) (M:List Nat) (pre:List Ix):Prop:=
 ∃ (v:Value) (gs:List Nat),Rowz W w.heap.size v gs (pre.map fun x=>encL (part 58 M x.1))/\Boxed W Bx 265 v/\(∀ g,v.ownBlock=some g->g=r\/W3.heap.size<=g)/\(∀ g ∈ gs,W3.heap.size<=g)/\Frm W p q b/\Chg (fun k=>k=b\/k=r\/k=Bx) W3 W
theorem LI.keep {w W3 X Y:World} {p q b r Bx:Nat} {M:List Nat} {pre:List Ix} {row:Option Nat} (h:LI w W3 X p q b r Bx M pre) (hg:X.grownBy Y row) (hr:∀ r,row=some r->W3.heap.size<=r/\∃ o:Obj,X.heap[r]?=some o/\o.isCells=false):LI w W3 Y p q b r Bx M pre:=by
 obtain⟨v,gs,h1,h2,h3,h4,h5,h6⟩:=h
 have hk:=kept hg hr
 exact⟨v,gs,h1.keeps hk,boxed_keep h2 hk,h3,h4,h5.keep hk,h6.grown hg (fun k e=>Or.inr (hr k e).1)⟩
theorem nodup_snoc {gs:List Nat} {g:Nat} (h:gs.Nodup) (hg:g ∉ gs):(gs ++ [g]).Nodup:=by
 rw[List.nodup_append]
 refine⟨h,by simp,fun a ha b hb=>?_⟩
 simp at hb
 subst hb
 exact fun e=>hg (e ▸ ha)
theorem getD_snoc_lt {α:Type} (l:List α) (x d:α) (j:Nat) (h:j<l.length):(l ++ [x]).getD j d=l.getD j d:=by
 simp[List.getD_eq_getElem?_getD,List.getElem?_append_left h]
theorem getD_snoc_eq {α:Type} (l:List α) (x d:α):(l ++ [x]).getD l.length d=x:=by
 simp[List.getD_eq_getElem?_getD]
theorem Rowz.snoc {X Y:World} {base:Nat} {v v':Value} {gs:List Nat} {ls:List (List Nat)} {g:Nat} {l:List Nat} (h:Rowz X base v gs ls) (hg:X.grownBy Y v.ownBlock) (ho:Y.ownsRow base 35 1 v' (gs.length+1) (gs.map slc ++ [slc g])) (hat:v'.ownBlock=v.ownBlock\/v'.ownBlock=some X.heap.size)
 (hA:Arr X g 5 l) (hb:base<=g) (hn:g ∉ gs) (hv:v.ownBlock≠some g):Rowz Y base v' (gs ++ [g]) (ls ++ [l]):=by
 have hk:∀ k,k<X.heap.size->v.ownBlock≠some k->Y.heap[k]?=X.heap[k]?:=fun k hk hv=>hg.block k hk (fun e=>hv e.symm)
 refine⟨by simpa using ho,by simp[h.len],fun j hj=>?_,nodup_snoc h.nd hn,fun k hk' hm=>?_,fun g' hg'=>?_⟩
 ·
  by_cases hj':j<gs.length
  ·
   rw[getD_snoc_lt _ _ _ _ hj',getD_snoc_lt _ _ _ _ (by rw[h.len];exact hj')]
   have hA:=h.arr j hj'
   exact(hk _ hA.lt (fun e=>h.off _ e (by rw[List.getD_eq_getElem?_getD,List.getElem?_eq_getElem hj'];exact List.getElem_mem hj'))).trans hA
  ·
   have e:j=gs.length:=by simp at hj;omega
   subst e
   rw[getD_snoc_eq,<-h.len,getD_snoc_eq]
   exact(hk _ hA.lt hv).trans hA
 ·
  rcases List.mem_append.1 hm with h1 | h1
  ·
   rcases hat with h2 | h2
   ·
    exact h.off k (by rw[<-h2];exact hk') h1
   ·
    have:=h.mem_lt h1
    rw[h2] at hk'
    have:=Option.some.inj hk'
    omega
  ·
   simp at h1
   subst h1
   rcases hat with h2 | h2
   ·
    exact hv (by rw[<-h2];exact hk')
   ·
    rw[h2] at hk'
    have:=Option.some.inj hk'
    have:=hA.lt
    omega
 ·
  rcases List.mem_append.1 hg' with h1 | h1
  ·
   exact h.low g' h1
  ·
   simp at h1;subst h1;exact hb
set_option maxHeartbeats 4000000 in
theorem lay_any (p q b:Nat) (w:World) (h:Frm w p q b) (c o cap:Nat) (Dt:List Nat) (hD:Dt.length=174) (bD:Bys Dt) (hcb:c≠b) (hcs:c<w.heap.size) (hcell:∀ i,i<Dt.length->w.cell? ⟨c,o+i,none⟩=some (.int .u8 (Dt.getD i 0:Nat)))
 (c2 o2 cap2:Nat) (Bd:List Nat) (hB:Bd.length=50) (bB:Bys Bd) (hcs2:c2<w.heap.size) (hcell2:∀ i,i<Bd.length->w.cell? ⟨c2,o2+i,none⟩=some (.int .u8 (Bd.getD i 0:Nat))) (MM:List Nat) (hMM:Dt ++ (Bd ++ mk)=MM) :
 Calls Tryz.prog 218 #[.pointer (some ⟨p,0,none⟩),.slice (some ⟨c,o,none⟩) 174 cap,.slice (some ⟨c2,o2,none⟩) 50 cap2] w fun e w'=>(∃ r k gs,e=.returned (.tuple #[.slice (some ⟨r,0,none⟩) 4 k,.nilIface])/\Rowz w' w.heap.size (.slice (some ⟨r,0,none⟩) 4 k) gs ((List.range 4).map fun i=>encL (part 58 MM i)))/\Frm w' p q b/\But b w w':=by
 have HC:=hyd hcell
 have HC2:=hyd hcell2
 clear hcell hcell2
 have hmk:=make4
 have q1:=neq_nil_nil
 have hp:=h.lt
 have hbs:=h.1.1.lt
 have hqs:=h.1.lt
 refine(callsIn_wide (n:=3)).1 ?_
 refine callsIn_of_wp_marks Tryz.func218 rfl trivial ?_ rfl
 simp only[Tryz.ntmps218,List.size_toArray,List.length_cons,List.length_nil,Nat.reduceAdd,Nat.reduceSub,Array.replicate_succ,Array.replicate_zero,List.push_toArray,List.append_toArray,List.nil_append,List.cons_append]
 gi_wp2_with fail
 have x0:Boxed (((w.alloc (.cells #[.pointer (some ⟨p,0,none⟩)] 212)).alloc (.cells #[.slice none 0 0] 265)).alloc (.cells #[.nilIface] 33)) w.heap.size 212 (.pointer (some ⟨p,0,none⟩)):=((Boxed.new' _ (by simp) _ _).alloc _).alloc _
 have x1:Boxed (((w.alloc (.cells #[.pointer (some ⟨p,0,none⟩)] 212)).alloc (.cells #[.slice none 0 0] 265)).alloc (.cells #[.nilIface] 33)) (w.heap.size+1) 265 (.slice none 0 0):=(Boxed.new' _ (by simp) _ _).alloc _
 have x2:Boxed (((w.alloc (.cells #[.pointer (some ⟨p,0,none⟩)] 212)).alloc (.cells #[.slice none 0 0] 265)).alloc (.cells #[.nilIface] 33)) (w.heap.size+1+1) 33 .nilIface:=Boxed.new' _ (by simp) _ _
 have G0:Chg (fun _=>False) w (((w.alloc (.cells #[.pointer (some ⟨p,0,none⟩)] 212)).alloc (.cells #[.slice none 0 0] 265)).alloc (.cells #[.nilIface] 33)):=(((Chg.refl _ _).alloc _).alloc _).alloc _
 have hs0:(((w.alloc (.cells #[.pointer (some ⟨p,0,none⟩)] 212)).alloc (.cells #[.slice none 0 0] 265)).alloc (.cells #[.nilIface] 33)).heap.size=w.heap.size+3:=by simp
 generalize ((w.alloc (.cells #[.pointer (some ⟨p,0,none⟩)] 212)).alloc (.cells #[.slice none 0 0] 265)).alloc (.cells #[.nilIface] 33)=W0 at *
 refine⟨trivial,(callsIn_wide.2 (seal_any W0 c2 o2 cap2 Bd hB (by omega) (fun i hi=>(World.cell?_of_block (w:=w) (a:=⟨c2,o2+i,none⟩) (G0.block c2 hcs2 (fun e=>e))).trans (HC2.out i hi)))).mono ?_⟩
 rintro e W1 ⟨gS,rfl,hgS,AS,G1⟩
 have GG1:=G0.trans G1
 have y0:Boxed W1 w.heap.size 212 (.pointer (some ⟨p,0,none⟩)):=(G1.block _ x0.lt (fun e=>e)).trans x0
 have y1:Boxed W1 (w.heap.size+1) 265 (.slice none 0 0):=(G1.block _ x1.lt (fun e=>e)).trans x1
 have y2:Boxed W1 (w.heap.size+1+1) 33 .nilIface:=(G1.block _ x2.lt (fun e=>e)).trans x2
 have hs1:=G1.size
 clear x0 x1 x2 G0 G1
 gi_wp2_with fail
 have hl0:∀ i,i<Dt.length->(((W1.alloc (.cells #[.slice none 0 0,.slice none 0 0,.slice none 0 0,.slice none 0 0] 35)).alloc (.cells #[.slice (some ⟨W1.heap.size,0,none⟩) 0 4] 265)).alloc (.cells #[.slice (some ⟨c,o,none⟩) 174 cap,.slice (some ⟨gS,0,none⟩) 58 58] 35)).cell? ⟨c,o+i,none⟩=some (.int .u8 (Dt.getD i 0:Nat)):=fun i hi=>
  (World.cell?_of_block (w:=w) (a:=⟨c,o+i,none⟩) (((((GG1.alloc _).alloc _).alloc _)).block c hcs (fun e=>e))).trans (HC.out i hi)
 have A3:=((AS.alloc (.cells #[.slice none 0 0,.slice none 0 0,.slice none 0 0,.slice none 0 0] 35)).alloc (.cells #[.slice (some ⟨W1.heap.size,0,none⟩) 0 4] 265)).alloc (.cells #[.slice (some ⟨c,o,none⟩) 174 cap,.slice (some ⟨gS,0,none⟩) 58 58] 35)
 have GA:=((GG1.alloc (.cells #[.slice none 0 0,.slice none 0 0,.slice none 0 0,.slice none 0 0] 35)).alloc (.cells #[.slice (some ⟨W1.heap.size,0,none⟩) 0 4] 265)).alloc (.cells #[.slice (some ⟨c,o,none⟩) 174 cap,.slice (some ⟨gS,0,none⟩) 58 58] 35)
 have u0:=((y0.alloc (.cells #[.slice none 0 0,.slice none 0 0,.slice none 0 0,.slice none 0 0] 35)).alloc (.cells #[.slice (some ⟨W1.heap.size,0,none⟩) 0 4] 265)).alloc (.cells #[.slice (some ⟨c,o,none⟩) 174 cap,.slice (some ⟨gS,0,none⟩) 58 58] 35)
 have u1:=((y1.alloc (.cells #[.slice none 0 0,.slice none 0 0,.slice none 0 0,.slice none 0 0] 35)).alloc (.cells #[.slice (some ⟨W1.heap.size,0,none⟩) 0 4] 265)).alloc (.cells #[.slice (some ⟨c,o,none⟩) 174 cap,.slice (some ⟨gS,0,none⟩) 58 58] 35)
 have u2:=((y2.alloc (.cells #[.slice none 0 0,.slice none 0 0,.slice none 0 0,.slice none 0 0] 35)).alloc (.cells #[.slice (some ⟨W1.heap.size,0,none⟩) 0 4] 265)).alloc (.cells #[.slice (some ⟨c,o,none⟩) 174 cap,.slice (some ⟨gS,0,none⟩) 58 58] 35)
 have u3:Boxed (((W1.alloc (.cells #[.slice none 0 0,.slice none 0 0,.slice none 0 0,.slice none 0 0] 35)).alloc (.cells #[.slice (some ⟨W1.heap.size,0,none⟩) 0 4] 265)).alloc (.cells #[.slice (some ⟨c,o,none⟩) 174 cap,.slice (some ⟨gS,0,none⟩) 58 58] 35)) (W1.heap.size+1) 265 (.slice (some ⟨W1.heap.size,0,none⟩) 0 4):=(Boxed.new' _ (by simp) _ _).alloc _
 have u4:(((W1.alloc (.cells #[.slice none 0 0,.slice none 0 0,.slice none 0 0,.slice none 0 0] 35)).alloc (.cells #[.slice (some ⟨W1.heap.size,0,none⟩) 0 4] 265)).alloc (.cells #[.slice (some ⟨c,o,none⟩) 174 cap,.slice (some ⟨gS,0,none⟩) 58 58] 35)).heap[W1.heap.size]?=some (.cells #[.slice none 0 0,.slice none 0 0,.slice none 0 0,.slice none 0 0] 35):=by
  rw[Below.heap_alloc _ _ _ (by simp;omega),Below.heap_alloc _ _ _ (by simp)]
  exact World.alloc_heap_new W1 _
 have u5:(((W1.alloc (.cells #[.slice none 0 0,.slice none 0 0,.slice none 0 0,.slice none 0 0] 35)).alloc (.cells #[.slice (some ⟨W1.heap.size,0,none⟩) 0 4] 265)).alloc (.cells #[.slice (some ⟨c,o,none⟩) 174 cap,.slice (some ⟨gS,0,none⟩) 58 58] 35)).heap[W1.heap.size+1+1]?=some (.cells #[.slice (some ⟨c,o,none⟩) 174 cap,.slice (some ⟨gS,0,none⟩) 58 58] 35):=by
  have:=World.alloc_heap_new ((W1.alloc (.cells #[.slice none 0 0,.slice none 0 0,.slice none 0 0,.slice none 0 0] 35)).alloc (.cells #[.slice (some ⟨W1.heap.size,0,none⟩) 0 4] 265)) (.cells #[.slice (some ⟨c,o,none⟩) 174 cap,.slice (some ⟨gS,0,none⟩) 58 58] 35)
  simpa using this
 have hsA:(((W1.alloc (.cells #[.slice none 0 0,.slice none 0 0,.slice none 0 0,.slice none 0 0] 35)).alloc (.cells #[.slice (some ⟨W1.heap.size,0,none⟩) 0 4] 265)).alloc (.cells #[.slice (some ⟨c,o,none⟩) 174 cap,.slice (some ⟨gS,0,none⟩) 58 58] 35)).heap.size=W1.heap.size+3:=by simp
 generalize ((W1.alloc (.cells #[.slice none 0 0,.slice none 0 0,.slice none 0 0,.slice none 0 0] 35)).alloc (.cells #[.slice (some ⟨W1.heap.size,0,none⟩) 0 4] 265)).alloc (.cells #[.slice (some ⟨c,o,none⟩) 174 cap,.slice (some ⟨gS,0,none⟩) 58 58] 35)=WA at *
 have hgSl:=AS.lt
 have hSl:(Bd ++ mk).length=58:=by rw[List.length_append,hB,mk_length]
 refine⟨trivial,(callsIn_wide.2 (concat_any WA (W1.heap.size+1+1) c o cap gS 0 58 Dt (Bd ++ mk) hD hSl u5 (by omega) (by omega) hl0 A3.at0)).mono ?_⟩
 rintro e W2 ⟨gM,kM,rfl,OM,G2⟩
 have hsz2:=G2.size
 have GB:=GA.trans G2
 have v0:Boxed W2 w.heap.size 212 (.pointer (some ⟨p,0,none⟩)):=(G2.block _ u0.lt (fun e=>e)).trans u0
 have v1:Boxed W2 (w.heap.size+1) 265 (.slice none 0 0):=(G2.block _ u1.lt (fun e=>e)).trans u1
 have v2:Boxed W2 (w.heap.size+1+1) 33 .nilIface:=(G2.block _ u2.lt (fun e=>e)).trans u2
 have v3:Boxed W2 (W1.heap.size+1) 265 (.slice (some ⟨W1.heap.size,0,none⟩) 0 4):=(G2.block _ u3.lt (fun e=>e)).trans u3
 have v4:=(G2.block _ (show W1.heap.size<WA.heap.size by omega) (fun e=>e)).trans u4
 clear u0 u1 u2 u3 u4 u5 A3 hl0 AS y0 y1 y2 GA G2 GG1
 have hMl:MM.length=4*58:=by rw[<-hMM,List.length_append,hD,hSl]
 have bM:Bys MM:=by
  rw[<-hMM]
  intro x hx
  rcases List.mem_append.1 hx with h1 | h1
  ·
   exact bD x h1
  ·
   rcases List.mem_append.1 h1 with h2 | h2
   ·
    exact bB x h2
   ·
    exact mk_bys x h2
 rw[hMM] at OM
 clear hMM
 obtain⟨gM',kM',hvM,hgM,hgMs,hkM,cM,-⟩:=OM.lies (by omega)
 simp only[Value.slice.injEq,Option.some.injEq,Addr.mk.injEq] at hvM
 obtain⟨⟨rfl,-,-⟩,-,rfl⟩:=hvM
 have HCM:=hyd cM
 have HML:=hyd hMl
 have HkM:=hyd hkM
 clear cM hMl hkM OM hSl
 gi_wp2_with (refine⟨trivial,?_⟩;gi_at_call 199;refine(callsIn_wide.2 (parts_any _ _ _ _ 58)).mono ?_;rintro e w' ⟨rfl,rfl⟩)
 have x0:=(v0.alloc (.cells #[.slice (some ⟨gM,0,none⟩) 232 kM] 35)).alloc (.cells #[.int .i64 58] 3)
 have x1:=(v1.alloc (.cells #[.slice (some ⟨gM,0,none⟩) 232 kM] 35)).alloc (.cells #[.int .i64 58] 3)
 have x2:=(v2.alloc (.cells #[.slice (some ⟨gM,0,none⟩) 232 kM] 35)).alloc (.cells #[.int .i64 58] 3)
 have x3:=(v3.alloc (.cells #[.slice (some ⟨gM,0,none⟩) 232 kM] 35)).alloc (.cells #[.int .i64 58] 3)
 have x4:((W2.alloc (.cells #[.slice (some ⟨gM,0,none⟩) 232 kM] 35)).alloc (.cells #[.int .i64 58] 3)).heap[W1.heap.size]?=some (.cells #[.slice none 0 0,.slice none 0 0,.slice none 0 0,.slice none 0 0] 35):=by
  rw[Below.heap_alloc _ _ _ (by simp;omega),Below.heap_alloc _ _ _ (by omega)]
  exact v4
 have x5:Boxed ((W2.alloc (.cells #[.slice (some ⟨gM,0,none⟩) 232 kM] 35)).alloc (.cells #[.int .i64 58] 3)) W2.heap.size 35 (.slice (some ⟨gM,0,none⟩) 232 kM):=(Boxed.new' _ rfl _ _).alloc _
 have x6:Boxed ((W2.alloc (.cells #[.slice (some ⟨gM,0,none⟩) 232 kM] 35)).alloc (.cells #[.int .i64 58] 3)) (W2.heap.size+1) 3 (.int .i64 58):=Boxed.new' _ (by simp) _ _
 have G3:=(GB.alloc (.cells #[.slice (some ⟨gM,0,none⟩) 232 kM] 35)).alloc (.cells #[.int .i64 58] 3)
 have hs3:((W2.alloc (.cells #[.slice (some ⟨gM,0,none⟩) 232 kM] 35)).alloc (.cells #[.int .i64 58] 3)).heap.size=W2.heap.size+2:=by simp
 have hCM:∀ i,i<MM.length->((W2.alloc (.cells #[.slice (some ⟨gM,0,none⟩) 232 kM] 35)).alloc (.cells #[.int .i64 58] 3)).cell? ⟨gM,i,none⟩=some (.int .u8 (MM.getD i 0:Nat)):=fun i hi=>by
  rw[World.cell?_alloc_past _ _ _ (by simp;omega),World.cell?_alloc_past _ _ _ hgMs]
  exact HCM.out i hi
 generalize (W2.alloc (.cells #[.slice (some ⟨gM,0,none⟩) 232 kM] 35)).alloc (.cells #[.int .i64 58] 3)=W3 at *
 have F3:=h.chg G3
 refine wpIn_rangeFunc_ownG rfl (by omega) (gf:=228) (lb:=#[.pointer (some ⟨W2.heap.size,0,none⟩),.pointer (some ⟨W2.heap.size+1,0,none⟩)]) rfl trivial (enters_of Tryz.func228 (by kernel_rfl) rfl)
  (parts58 Fence.wide _ trivial rfl (by omega) _ _ gM 0 kM (by have:=HkM.out;have:=HML.out;omega) W3 (by omega) (by omega) x5.cell x6.cell) Kp.t (Kp.b (by omega) (by omega)) (Below.refl _ _) (fun _=>rfl)
  (fun pre W=>LI w W3 W p q b W1.heap.size (W1.heap.size+1) MM pre)
  (fun _ _ _=>False)
  (fun pre X Y row hs hg hr=>hs.keep hg hr)
  (fun _ _ _ _ _ hs _ _=>hs)
  ⟨_,[],⟨⟨rfl,Or.inr ⟨_,4,_,rfl,by omega,x4,by decide,by decide,rfl,by simp⟩⟩,rfl,fun j hj=>by simp at hj,by simp,fun k _ hm=>by simp at hm,fun g hm=>by simp at hm⟩,x3,fun g e=>Or.inl (Option.some.inj e).symm,fun g hm=>by simp at hm,F3,Chg.refl _ _⟩
  (fun x=>{ tmps:=#[.pointer (some ⟨p,0,none⟩),.slice (some ⟨c,o,none⟩) 174 cap,.slice (some ⟨c2,o2,none⟩) 50 cap2,.pointer (some ⟨w.heap.size,0,none⟩),undef,undef,.pointer (some ⟨w.heap.size+1,0,none⟩),.pointer (some ⟨w.heap.size+1+1,0,none⟩),.slice (some ⟨gS,0,none⟩) 58 58,.nilIface,.pointer (some ⟨W1.heap.size+1,0,none⟩),undef,.slice (some ⟨gM,x.1*58,none⟩) 58 (kM - x.1*58),undef,undef,.slice (some ⟨c,o,none⟩) 174 cap,.int .i64 174,.bool false,undef,.tuple #[.slice (some ⟨gS,0,none⟩) 58 58,.nilIface],.slice (some ⟨c2,o2,none⟩) 50 cap2,.tuple #[.slice (some ⟨gS,0,none⟩) 58 58,.nilIface],.slice (some ⟨gS,0,none⟩) 58 58,.nilIface,.nilIface,.bool false,undef,.slice (some ⟨W1.heap.size,0,none⟩) 0 4,.slice (some ⟨c,o,none⟩) 174 cap,.slice (some ⟨gS,0,none⟩) 58 58,.slice (some ⟨W1.heap.size+1+1,0,none⟩) 2 2,.slice (some ⟨gM,0,none⟩) 232 kM,.func (.func 228) #[] #[.pointer (some ⟨W2.heap.size,0,none⟩),.pointer (some ⟨W2.heap.size+1,0,none⟩)],.int .i64 (x.1:Int),.slice (some ⟨gM,x.1*58,none⟩) 58 (kM - x.1*58),undef,undef,undef,undef,undef,undef,undef,undef,undef,undef,undef,undef,undef,undef,undef,undef,undef],defers:=[] }) ?assign ?body ?done ?stop
 case assign=>
  intro l x W K hK
  dsimp only[encP]
  simp only[Nat.zero_add]
  gi_wp2
  exact hK
 case body=>
  rintro l pre x W ⟨v,gs,R,y3,hv,hgs,F,hG⟩ hpl
  have y0:Boxed W w.heap.size 212 (.pointer (some ⟨p,0,none⟩)):=(hG.block _ x0.lt (by omega)).trans x0
  have hs2:=hG.size
  have z0:=y0.cell
  have z2:W.cell? ⟨p,0,none⟩=some (.pointer (some ⟨q,0,none⟩)):=F.2.cell
  have hbc:∀ o,W.heap[b]?=some o->o.isCells=true:=fun o ho=>by
   obtain⟨c,z,hc,-⟩:=fld_heap F.1.1
   rw[hc] at ho;cases ho;rfl
  obtain⟨i,hi⟩:=x
  dsimp only
  have hpl2:=part_length HML.out i hi
  have hpb:=part_bys (z:=58) bM i
  have hcc:∀ j,j<(part 58 MM i).length->W.cell? ⟨gM,i*58+j,none⟩=some (.int .u8 ((part 58 MM i).getD j 0:Nat)):=fun j hj=>by
   rw[part_getD 58 MM i j (by omega)]
   exact(World.cell?_of_block (w:=W3) (a:=⟨gM,i*58+j,none⟩) (hG.block gM (by omega) (by omega))).trans (hCM _ (by have:=HML.out;omega))
  have HEnc:=hyd (encode_any q b W F.1 gM (i*58) (kM - i*58) (part 58 MM i) hpl2 hpb (by omega) (by omega) hcc)
  clear hcc
  gi_wp2_with fail
  refine⟨trivial,(CallsIn.inRound l (callsIn_wide.2 HEnc.out)).mono ?_⟩
  rintro e W4 ⟨g,rfl,hg,A4,C4,B4⟩
  clear HEnc
  have F4:=F.but C4 B4
  have a1:KeepsFrom W3.heap.size W W4:=B4.chg.keeps (fun k hk o ho=>hbc o (by rw[<-hk];exact ho)) _
  have hs4:=B4.size
  have R4:Rowz W4 w.heap.size v gs (pre.map fun x=>encL (part 58 MM x.1)):=R.chg B4.chg (fun k e=>by
   subst e
   exact⟨fun h1=>by have:=hv _ h1;omega,fun h1=>by have:=hgs _ h1;omega⟩)
  have y4:Boxed W4 (W1.heap.size+1) 265 v:=(B4.block _ y3.lt (by omega)).trans y3
  have c4:=y4.cell
  have q2:=neq_nil_nil
  have hln:gs.length=pre.length:=by have:=R.len;simpa using this.symm
  have A5:=A4.alloc (.cells #[.slice (some ⟨g,0,none⟩) 64 64] 35)
  have R5:=R4.chg ((Chg.refl (fun _=>False) W4).alloc (.cells #[.slice (some ⟨g,0,none⟩) 64 64] 35)) (fun k e=>e.elim)
  have y5:=y4.alloc (.cells #[.slice (some ⟨g,0,none⟩) 64 64] 35)
  have F5:=F4.chg ((Chg.refl (fun _=>False) W4).alloc (.cells #[.slice (some ⟨g,0,none⟩) 64 64] 35))
  have hs5:(W4.alloc (.cells #[.slice (some ⟨g,0,none⟩) 64 64] 35)).heap.size=W4.heap.size+1:=by simp
  have hnw:∀ j u,[slc g][j]?=some u->(W4.alloc (.cells #[.slice (some ⟨g,0,none⟩) 64 64] 35)).cell? ((⟨W4.heap.size,0,none⟩:Addr).add j)=some u:=cell_one_new _ _ _
  have a2:KeepsFrom W3.heap.size W (W4.alloc (.cells #[.slice (some ⟨g,0,none⟩) 64 64] 35)):=a1.trans (((Chg.refl (fun _=>False) W4).alloc _).keeps (fun k e=>e.elim) _)
  have hk5:∀ k,k<W.heap.size->k≠b->(W4.alloc (.cells #[.slice (some ⟨g,0,none⟩) 64 64] 35)).heap[k]?=W.heap[k]?:=fun k hk hb=>(Below.heap_alloc _ _ _ (by omega)).trans (B4.block k hk hb)
  have G5:Chg (fun k=>k=b\/k=W1.heap.size\/k=W1.heap.size+1) W3 (W4.alloc (.cells #[.slice (some ⟨g,0,none⟩) 64 64] 35)):=(hG.trans' B4.chg (fun k _ e=>Or.inl e)).alloc _
  have hgn:g ∉ gs:=fun hm=>by have:=R.mem_lt hm;omega
  have hvn:v.ownBlock≠some g:=fun e=>by
   rcases R.row.2 with ⟨rfl,_⟩ | ⟨g',_,_,rfl,_,hh,_⟩
   ·
    cases e
   ·
    have e1:g'=g:=Option.some.inj e
    have:=(Array.getElem?_eq_some_iff.1 hh).1
    omega
  obtain⟨i0,hi0,hz0,hz1,hz2⟩:=info_parts info22_all
  have HA:=hyd A5
  have HR:=hyd R5
  have HY:=hyd y5
  have HF:=hyd F5
  have HN:=hyd hnw
  have HB:Hid (w.heap.size<=(W4.alloc (.cells #[.slice (some ⟨g,0,none⟩) 64 64] 35)).heap.size):=hyd (by omega)
  have HL1:Hid (gs.length+1<=maxLen):=hyd (by unfold maxLen;omega)
  have HL2:Hid ((gs.length+1)*24<=140737488355328):=hyd (by omega)
  have H5:=hyd hs5
  clear hs5
  clear R R4 A4 A5 R5 y5 F5 hnw y4 F4 hG F y3 B4 a1
  gi_wp2_with (gi_at_builtin;refine wpListIn_append_own_at _ rfl _ _ 265 rfl w.heap.size 35 i0 (.slice none 0 0) 1 24 Tryz.underlying265 hi0 hz0 hz1 hz2 rfl (by decide) v gs.length (gs.map slc) rfl HR.out.row ⟨W4.heap.size,0,none⟩ 1 1 [slc g] rfl rfl HN.out (by simp[slc,Value.oneCell']) HL1.out HL2.out HB.out ?_)
  intro v' W6 O6 hg6 _ hat
  have hs5:=H5.out
  obtain⟨g6,k6,hv6⟩:=ownsRow_succ O6
  have hv':∀ k,v'.ownBlock=some k->k=W1.heap.size\/W3.heap.size<=k:=fun k hk=>by
   rcases hat with h1 | h1
   ·
    exact hv k (by rw[<-h1];exact hk)
   ·
    rw[h1] at hk
    have:=Option.some.inj hk
    omega
  have R6:=HR.out.snoc hg6 (by first | exact O6 | (rw[hln] at O6 ⊢;exact O6) | (rw[hln];exact O6)) (by rw[hs5];exact hat) HA.out (by omega) hgn hvn
  have y6:Boxed W6 (W1.heap.size+1) 265 v:=HY.out.kept hg6 (fun e=>by have:=hv _ e.symm;omega)
  have F6:Frm W6 p q b:=HF.out.other (hg6.block _ HF.out.1.1.lt (fun e=>by have:=hv _ e.symm;omega)) (hg6.block _ HF.out.1.lt (fun e=>by have:=hv _ e.symm;omega)) (hg6.block _ HF.out.lt (fun e=>by have:=hv _ e.symm;omega))
  have hcv:∀ k,v.ownBlock=some k->∀ o,(W4.alloc (.cells #[.slice (some ⟨g,0,none⟩) 64 64] 35)).heap[k]?=some o->o.isCells=true:=fun k hk o ho=>by
   rcases HR.out.row.2 with ⟨rfl,_⟩ | ⟨g,cap,cur,rfl,_,hh,_⟩
   ·
    cases hk
   ·
    have e:g=k:=Option.some.inj hk
    rw[<-e,hh] at ho;cases ho;rfl
  have a3:KeepsFrom W3.heap.size (W4.alloc (.cells #[.slice (some ⟨g,0,none⟩) 64 64] 35)) W6:=⟨hg6.size,fun k o _ h0 ho=>(hg6.block k (Array.getElem?_eq_some_iff.1 h0).1 (fun e=>by rw[hcv k e.symm o h0] at ho;cases ho)).trans h0⟩
  have G6:Chg (fun k=>k=b\/k=W1.heap.size\/k=W1.heap.size+1) W3 W6:=G5.grown hg6 (fun k e=>by have:=hv _ e;omega)
  have hk6:∀ k,k<W.heap.size->k≠b->v.ownBlock≠some k->W6.heap[k]?=W.heap[k]?:=fun k hk hb hvk=>(hg6.block k (by omega) (fun e=>hvk e.symm)).trans (hk5 k hk hb)
  have hs6:=hg6.size
  have fin:∀ Y,W6.setCell ⟨W1.heap.size+1,0,none⟩ v'=Y->KeepsFrom W3.heap.size W Y/\Kp W2.heap.size (W2.heap.size+1) W Y/\LI w W3 Y p q b W1.heap.size (W1.heap.size+1) MM (pre ++ [⟨i,hi⟩]):=fun Y hY=>by
   have e5:Boxed Y (W1.heap.size+1) 265 v':=by rw[<-hY];exact y6.set _
   have K4:Chg (fun k=>k=W1.heap.size+1) W6 Y:=by rw[<-hY];exact(Chg.refl (fun k=>k=W1.heap.size+1) W6).setCell (Or.inl rfl) 0 _
   have a4:KeepsFrom W3.heap.size W6 Y:=K4.keeps (fun k hk o ho=>by
    subst hk
    rw[show W6.heap[_]?=_ from y6] at ho;cases ho;rfl) _
   refine⟨(a2.trans a3).trans a4,⟨?_,?_⟩,v',gs ++ [g],?_,e5,hv',?_,?_,?_⟩
   ·
    exact(K4.block _ (by omega) (by omega)).trans (hk6 _ (by omega) (by omega) (fun e=>by have:=hv _ e;omega))
   ·
    exact(K4.block _ (by omega) (by omega)).trans (hk6 _ (by omega) (by omega) (fun e=>by have:=hv _ e;omega))
   ·
    rw[List.map_append]
    refine R6.chg K4 (fun k e=>?_)
    subst e
    refine⟨fun h1=>by have:=hv' _ h1;omega,fun h1=>?_⟩
    rcases List.mem_append.1 h1 with h2 | h2
    ·
     have:=hgs _ h2;omega
    ·
     simp at h2;omega
   ·
    intro g' hm
    rcases List.mem_append.1 hm with h2 | h2
    ·
     exact hgs _ h2
    ·
     simp at h2;omega
   ·
    exact F6.other (K4.block _ F6.1.1.lt (by omega)) (K4.block _ F6.1.lt (by omega)) (K4.block _ F6.lt (by omega))
   ·
    exact G6.trans' K4 (fun k hk e=>Or.inr (Or.inr e))
  have HFin:=hyd fin
  have c6:=y6.cell
  have f6:=y6.frozen
  subst hv6
  clear fin R6 HR HA HY HF HN hg6 O6 a2 a3 G5 G6 hk5 hk6 hcv
  gi_wp2_with fail
  exact HFin.out _ rfl
 case done=>
  rintro D ys W hD rfl ⟨v,gs,R,y3,hv,hgs,F,hG⟩ hK
  have y1:Boxed W (w.heap.size+1) 265 (.slice none 0 0):=(hG.block _ x1.lt (by omega)).trans x1
  have y2:Boxed W (w.heap.size+1+1) 33 .nilIface:=(hG.block _ x2.lt (by omega)).trans x2
  have hln:gs.length=4:=by
   have:=R.len
   rw[List.length_map,upto_length 4 (by omega)] at this
   exact this.symm
  have hrow:=R.row
  rw[hln] at hrow
  obtain⟨g6,k6,hv6⟩:=ownsRow_succ hrow
  subst hv6
  have hgv:=hv g6 rfl
  have e1:Boxed ((W.setCell ⟨w.heap.size+1,0,none⟩ (.slice (some ⟨g6,0,none⟩) 4 k6)).setCell ⟨w.heap.size+1+1,0,none⟩ .nilIface) (w.heap.size+1) 265 (.slice (some ⟨g6,0,none⟩) 4 k6):=(y1.set _).other (by omega) _
  have e2:Boxed ((W.setCell ⟨w.heap.size+1,0,none⟩ (.slice (some ⟨g6,0,none⟩) 4 k6)).setCell ⟨w.heap.size+1+1,0,none⟩ .nilIface) (w.heap.size+1+1) 33 .nilIface:=(y2.other (by omega) _).set _
  have K4:Chg (fun k=>k=w.heap.size+1\/k=w.heap.size+1+1) W ((W.setCell ⟨w.heap.size+1,0,none⟩ (.slice (some ⟨g6,0,none⟩) 4 k6)).setCell ⟨w.heap.size+1+1,0,none⟩ .nilIface):=((Chg.refl _ W).setCell (Or.inl (Or.inl rfl)) 0 _).setCell (Or.inl (Or.inr rfl)) 0 _
  have HR:=hyd R
  have HF:=hyd F
  have HG:=hyd hG
  have c1:=y1.cell
  have c2:=y2.cell
  have c3:=y3.cell
  have f1:=y1.frozen
  have f2:=y2.frozen
  clear R F hG hrow
  gi_wp2_with fail
  generalize (W.setCell ⟨w.heap.size+1,0,none⟩ (.slice (some ⟨g6,0,none⟩) 4 k6)).setCell ⟨w.heap.size+1+1,0,none⟩ .nilIface=Y at *
  have hK2:Y.heap[D]?=some (.deferred (some [])):=(K4.block D (Array.getElem?_eq_some_iff.1 hK).1 (by omega)).trans hK
  have hkp:=put_kept (.deferred none) hK2 rfl
  have F5:=HF.out.other (K4.block _ HF.out.1.1.lt (by omega)) (K4.block _ HF.out.1.lt (by omega)) (K4.block _ HF.out.lt (by omega))
  have R5:=HR.out.chg K4 (fun k e=>⟨fun h1=>by have:g6=k:=Option.some.inj h1;omega,fun h1=>by have:=hgs _ h1;omega⟩)
  have G5:Chg (·=b) w Y:=((G3.mono (T:=(·=b)) (fun _ _ e=>e.elim)).trans' HG.out (fun k hk e=>by omega)).trans' K4 (fun k hk e=>by omega)
  have G6:=G5.grown (grownBy_putObj' Y D (.deferred none)) (fun k e=>Or.inr (by cases e;omega))
  refine⟨by simp,.inl ⟨_,_,rfl,run_takeDeferred hK2,?_⟩⟩
  refine⟨_,results2 rfl _ rfl rfl (boxed_keep e1 hkp) (boxed_keep e2 hkp),⟨g6,k6,gs,rfl,?_⟩,F5.keep hkp,⟨G6.os,G6.tape,G6.output,G6.size,G6.block⟩⟩
  have em:(upto 4).map (fun x=>encL (part 58 MM x.1))=(List.range 4).map fun i=>encL (part 58 MM i):=rfl
  rw[<-em]
  exact R5.keeps hkp
 case stop=>
  rintro D cc pre W _ _ h _
  exact h.elim
end Go.Proofs.YtbhbilcieodbhaaGreat
/-
  media's New, Erase, Reads, chunks, write and Program. Conditions: the media and its chip stand whole; what comes in lies apart from them.
-/
namespace Go.Proofs.YtbhbilcieodbhaaGreat
open Go.RowKit
set_option maxRecDepth 100000
theorem build115 (w:World) (x y:Value) (g p:Nat) (hx:x=.pointer (some ⟨g,0,none⟩)) (hy:y=.pointer (some ⟨p,0,none⟩)):(Instr.build 215 #[(0,x),(1,y)]).run Tryz.prog w=.ok (.agg #[x,y,.int .i64 0]) w:=by
 subst hx hy
 kernel_rfl
theorem mnew_any (g:Nat) (w:World):Calls Tryz.prog 98 #[.pointer (some ⟨g,0,none⟩)] w fun e w'=>∃ m p q b,e=.returned (.pointer (some ⟨m,0,none⟩))/\(w.heap.size<=m/\w.heap.size<=p/\w.heap.size<=q/\w.heap.size<=b)/\Med w' m g p q b 0/\Chg (fun _=>False) w w':=by
 go_enter Tryz.func98,Tryz.ntmps98
 go_wp2_with fail
 refine(frame_new w).mono ?_
 rintro x w1 ⟨p,q,b,rfl,hp,hq,hb,hF,G1⟩
 have hbd:=fun w=>build115 w _ _ g p rfl rfl
 have HF:=hyd hF
 have HG:=hyd G1
 clear hF G1
 go_wp2
 go_ret
 have G2:Chg (fun _=>False) w1 (w1.alloc (.cells #[.pointer (some ⟨g,0,none⟩),.pointer (some ⟨p,0,none⟩),.int .i64 0] 215)):=(Chg.refl _ w1).alloc _
 have:=HG.out.size
 refine⟨_,p,q,b,rfl,⟨by omega,hp,hq,hb⟩,⟨?_,HF.out.chg G2⟩,HG.out.trans G2⟩
 show (w1.heap.push _)[w1.heap.size]?=_
 simp
theorem mreads_any (m g p q b:Nat) (r:Int) (w:World) (h:Med w m g p q b r):Calls Tryz.prog 156 #[.pointer (some ⟨m,0,none⟩)] w fun e w'=>e=.returned (.int .i64 r)/\w'=w:=by
 obtain⟨-,-,c2⟩:=h.cells
 have hcall:=load_any m 2 w c2
 clear h
 go_enter Tryz.func156,Tryz.ntmps156
 go_wp2_with fail
 refine hcall.mono ?_
 rintro x w1 ⟨rfl,rfl⟩
 clear hcall
 go_wp2
 go_ret
 exact⟨rfl,rfl⟩
theorem merase_any (m g p q b:Nat) (r:Int) (s:Chp) (hs:s.Ok) (w:World) (h:Med w m g p q b r) (hC:ChipAt w g s) (k:Int):Calls Tryz.prog 182 #[.pointer (some ⟨m,0,none⟩),.int .i64 k] w fun e w'=>e=.returned (nerrV (eraseR s k).2)/\ChipAt w' g (eraseR s k).1/\Chg (·=g) w w':=by
 obtain⟨c0,-,-⟩:=h.cells
 have hcall:=erase_any g s hs k w hC
 clear h hC
 go_enter Tryz.func182,Tryz.ntmps182
 go_wp2_with fail
 refine hcall.mono ?_
 rintro x w1 ⟨rfl,C1,G1⟩
 clear hcall
 have HC:=hyd C1
 have HG:=hyd G1
 clear C1 G1
 go_wp2
 go_ret
 exact⟨rfl,HC.out,HG.out⟩
theorem ownsRow_low {w:World} {base base':Nat} {e:TypeId} {z:Nat} {v:Value} {n:Nat} {xs:List Value} (h:w.ownsRow base e z v n xs) (hb:base'<=base):w.ownsRow base' e z v n xs:=by
 refine⟨h.1,?_⟩
 rcases h.2 with h1 | ⟨g,cap,cur,rfl,hg,r⟩
 ·
  exact Or.inl h1
 ·
  exact Or.inr ⟨g,cap,cur,rfl,Nat.le_trans hb hg,r⟩
theorem May.nats {p o s c:Int} {l:Bool} (h:May p o s c l):∃ p' o' s' c':Nat,p=p'/\o=o'/\s=s'/\c=c':=by
 obtain⟨⟨h1,-⟩,⟨h2,-⟩,⟨h3,-⟩,h4,-⟩:=h.1
 exact⟨p.toNat,o.toNat,s.toNat,c.toNat,by omega,by omega,by omega,by omega⟩
set_option maxHeartbeats 4000000 in
theorem mchunks_no (m g p q b:Nat) (r:Int) (w:World) (h:Med w m g p q b r) (a tp to ts tc:Int) (tl:Bool) (ad:Option Addr) (n cap:Nat) (hno:¬ (May tp to ts tc tl/\tp=a/\n=174)) :
 Calls Tryz.prog 185 #[.pointer (some ⟨m,0,none⟩),.int .i64 a,.agg #[.int .i64 tp,.int .i64 to,.int .i64 ts,.int .i64 tc,.bool tl],.slice ad n cap] w fun e w'=>e=.returned (.tuple #[.slice none 0 0,.iface 56 (.int .i64 1)])/\Chg (fun _=>False) w w':=by
 have T0:=Tg.new w tp to ts tc tl
 have G0:Chg (fun _=>False) w (w.alloc (.cells #[.int .i64 tp,.int .i64 to,.int .i64 ts,.int .i64 tc,.bool tl] 127)):=(Chg.refl _ w).alloc _
 obtain⟨-,c1,-⟩:=(h.chg G0).cells
 obtain⟨v0,v1,v2,v3,v4⟩:=T0.cells
 have HT:=hyd T0
 have HM:=hyd (h.chg G0)
 have HG:=hyd G0
 have q1:=neq_arg_nil
 have q2:=neq_nil_nil
 clear T0 G0 h
 by_cases hp:tp=a
 ·
  by_cases hm:May tp to ts tc tl
  ·
   have hn:n≠174:=fun e=>hno ⟨hm,hp,e⟩
   obtain⟨p',o',s',c',rfl,rfl,rfl,rfl⟩:=hm.nats
   have hp':(((p':Nat):Int) != a)=false:=by simp[hp]
   have henc:=fun w=>encode_yes w p' o' s' c' tl hm
   clear hno hp
   go_enter Tryz.func185,Tryz.ntmps185
   go_wp2_with (first | refine wpList_load_tag rfl (.tmp 6) rfl w.heap.size rfl HT.out ?_)
   refine(henc _).mono ?_
   rintro x w1 ⟨g1,rfl,-,-,G1⟩
   clear henc
   have c1':w1.cell? ⟨m,1,none⟩=some (.pointer (some ⟨p,0,none⟩)):=(HM.out.chg G1).cells.2.1
   have HG1:=hyd (HG.out.trans G1)
   clear G1 c1 v0 v1 v2 v3 v4
   go_wp2_with fail
   refine(lay_data p w1 ad n cap hn _).mono ?_
   rintro x w2 ⟨rfl,G2⟩
   have HG2:=hyd (HG1.out.trans G2)
   clear G2 HG1
   go_wp2
   go_ret2
   exact⟨rfl,HG2.out⟩
  ·
   have hp':(tp != a)=false:=by simp[hp]
   have henc:=fun w=>encode_no w tp to ts tc tl hm
   clear hno hp hm
   go_enter Tryz.func185,Tryz.ntmps185
   go_wp2_with (first | refine wpList_load_tag rfl (.tmp 6) rfl w.heap.size rfl HT.out ?_)
   refine(henc _).mono ?_
   rintro x w1 ⟨rfl,G1⟩
   have HG1:=hyd (HG.out.trans G1)
   clear henc G1 c1 v0 v1 v2 v3 v4
   go_wp2
   go_ret2
   exact⟨rfl,HG1.out⟩
 ·
  have hp':(tp != a)=true:=by simp[hp]
  clear hno hp
  go_enter Tryz.func185,Tryz.ntmps185
  go_wp2
  go_ret2
  exact⟨rfl,HG.out⟩
set_option maxHeartbeats 4000000 in
theorem mchunks_yes (m g p q b:Nat) (r:Int) (w:World) (h:Med w m g p q b r) (tp to ts tc:Nat) (tl:Bool) (hm:May tp to ts tc tl) (c o cap:Nat) (Dt:List Nat) (hD:Dt.length=174) (bD:Bys Dt) (hcb:c≠b) (hcs:c<w.heap.size) (hA:At w c o Dt) :
 Calls Tryz.prog 185 #[.pointer (some ⟨m,0,none⟩),.int .i64 (tp:Nat),.agg #[.int .i64 (tp:Nat),.int .i64 (to:Nat),.int .i64 (ts:Nat),.int .i64 (tc:Nat),.bool tl],.slice (some ⟨c,o,none⟩) 174 cap] w fun e w'=>∃ rr k gs,e=.returned (.tuple #[.slice (some ⟨rr,0,none⟩) 4 k,.nilIface])/\Rowz w' w.heap.size (.slice (some ⟨rr,0,none⟩) 4 k) gs ((List.range 4).map (wordOf Dt (body tp to ts tc tl)))/\Med w' m g p q b r/\But b w w':=by
 have T0:=Tg.new w tp to ts tc tl
 have G0:Chg (fun _=>False) w (w.alloc (.cells #[.int .i64 (tp:Nat),.int .i64 (to:Nat),.int .i64 (ts:Nat),.int .i64 (tc:Nat),.bool tl] 127)):=(Chg.refl _ w).alloc _
 obtain⟨-,c1,-⟩:=(h.chg G0).cells
 obtain⟨v0,v1,v2,v3,v4⟩:=T0.cells
 have HT:=hyd T0
 have HM:=hyd (h.chg G0)
 have HG:=hyd G0
 have HA:=hyd hA
 have q2:=neq_nil_nil
 have hp':(((tp:Nat):Int) != (tp:Nat))=false:=by simp
 have henc:=fun w=>encode_yes w tp to ts tc tl hm
 have hbs:=h.lts.2.2.2
 have hsz:=G0.size
 clear T0 G0 h hA
 go_enter Tryz.func185,Tryz.ntmps185
 go_wp2_with (first | refine wpList_load_tag rfl (.tmp 6) rfl w.heap.size rfl HT.out ?_)
 refine(henc _).mono ?_
 rintro x w1 ⟨g1,rfl,hg1,A1,G1⟩
 clear henc
 have M1:=HM.out.chg G1
 have c1':=M1.cells.2.1
 have G01:=HG.out.trans G1
 have hs1:=G01.size
 have hlay:=lay_any p q b w1 M1.2 c o cap Dt hD bD hcb (by omega) (HA.out.chg G01 (fun f=>f)).2 g1 0 50 (body tp to ts tc tl) (body_length _ _ _ _ _) (body_bys _ _ _ _ _) A1.lt A1.at_.2 (msgOf Dt (body tp to ts tc tl)) rfl
 have HM1:=hyd M1
 have HG1:=hyd G01
 clear G1 c1 v0 v1 v2 v3 v4 A1 M1 G01 HM HG
 go_wp2_with fail
 refine hlay.mono ?_
 rintro x w2 ⟨⟨rr,k,gs,rfl,hR⟩,hF,hB⟩
 clear hlay
 have HR:=hyd hR
 have HM2:=hyd (HM1.out.but hF hB)
 have HB2:=hyd (HG1.out.but.trans hB)
 clear hR hF hB HM1 HG1
 go_wp2
 go_ret2
 exact⟨rr,k,gs,rfl,⟨ownsRow_low HR.out.row hs1,HR.out.len,HR.out.arr,HR.out.nd,HR.out.off,fun g hg=>Nat.le_trans hs1 (HR.out.low g hg)⟩,HM2.out,HB2.out⟩
theorem slice_ne {q g o n c:Nat} (h:q≠g):(Value.slice (some ⟨q,o,none⟩) n c).ownBlock≠some g:=fun e=>h (Option.some.inj e)
theorem getD_range (W:Nat->List Nat) (i:Nat) (hi:i<4):((List.range 4).map W).getD i []=W i:=by
 rw[List.getD_eq_getElem?_getD,List.getElem?_map,List.getElem?_range hi]
 rfl
theorem Rowz.cell {W:World} {base:Nat} {rr k:Nat} {gs:List Nat} {ls:List (List Nat)} (h:Rowz W base (.slice (some ⟨rr,0,none⟩) 4 k) gs ls) (i:Nat) (hi:i<4):gs.length=4/\4<=k/\W.cell? ⟨rr,i,none⟩=some (slc (gs.getD i 0)):=by
 rcases h.row.2 with ⟨e,_⟩ | ⟨g,cap,cur,e,_,hh,hn,_,hz,ht⟩
 ·
  cases e
 ·
  injection e with e1 e2 e3
  injection e1 with e1
  injection e1 with e1
  subst e1 e3
  have hl4:gs.length=4:=e2.symm
  refine⟨hl4,by rw[<-hl4];exact hn,?_⟩
  have h2:(cur.toList.take (gs.length*1))[i]?=(gs.map slc)[i]?:=by rw[ht]
  rw[List.getElem?_take_of_lt (by omega),Array.getElem?_toList,List.getElem?_map,List.getElem?_eq_getElem (by omega)] at h2
  simp only[World.cell?,hh]
  rw[List.getD_eq_getElem?_getD,List.getElem?_eq_getElem (by omega)]
  simpa using h2
theorem eq_tag (w:World) (p o s c p' o' s' c':Int) (l l':Bool):(Op.equalIn 10000 127 (.agg #[.int .i64 p,.int .i64 o,.int .i64 s,.int .i64 c,.bool l]) (.agg #[.int .i64 p',.int .i64 o',.int .i64 s',.int .i64 c',.bool l'])).run Tryz.prog w=.ok (decide (p=p'/\o=o'/\s=s'/\c=c'/\l=l')) w:=by
 have u3:=Tryz.underlying3
 have a3:=Tryz.isAgg3
 have z3:=Tryz.sizeOf3
 have u2:=Tryz.underlying2
 have a2:=Tryz.isAgg2
 have z2:=Tryz.sizeOf2
 have u4:=Tryz.underlying4
 have a4:=Tryz.isAgg4
 have z4:=Tryz.sizeOf4
 rw[show (10000:Nat)=9999+1 from rfl,run_equalIn_agg w 9999 127 _ _ (by kernel_rfl) (by kernel_rfl)]
 simp only[Program.fieldsOf,Tryz.underlying127]
 go_simp
 by_cases h1:p=p' <;> by_cases h2:o=o' <;> by_cases h3:s=s' <;> by_cases h4:c=c' <;> by_cases h5:l=l' <;> simp[h1,h2,h3,h4,h5]
theorem neq_tag (w:World) (p o s c p' o' s' c':Int) (l l':Bool):(binOp .neq 127 (.agg #[.int .i64 p,.int .i64 o,.int .i64 s,.int .i64 c,.bool l]) (.agg #[.int .i64 p',.int .i64 o',.int .i64 s',.int .i64 c',.bool l'])).run Tryz.prog w=.ok (.bool (!decide (p=p'/\o=o'/\s=s'/\c=c'/\l=l'))) w:=by
 rw[run_neq_struct,eq_tag]
 rfl
theorem guard_tag (w:World) (op:BinOp) (x y:Operand) (xs ys:Array Value):(eqGuard op 127 x y (.agg xs) (.agg ys)).run Tryz.prog w=.ok () w:=run_eqGuard_agg w op 127 x y xs ys (by kernel_rfl)
theorem ToldR.sound {L:List Nat} {n:Int} {g:Pg} (h:ToldR L n g) (hs:g.sound=true):g.tagged=true/\g.data.length=174/\Bys g.data:=by
 obtain⟨_,B,bd,bc,hB,hr⟩:=h
 rcases hr with ⟨_,_,_,_,_,_,_,q7,_⟩ | ⟨_,q1,_,_,_,_,_,D,dd,dc,hD,⟨_,q7,_⟩ | ⟨rfl,_,q8⟩⟩
 ·
  rw[hs] at q7;cases q7
 ·
  rw[hs] at q7;cases q7
 ·
  rw[q8];exact⟨q1,hD.good⟩
def WrAns (s:Chp) (r:Int) (a tp to ts tc:Nat) (tl:Bool) (Dt:List Nat) (w':World) (m g p q b:Nat) (e:Ending):Prop:=∃ s' r' c,ProgR s r a tp to ts tc tl Dt s' r' c/\e=.returned (nerrV c)/\Med w' m g p q b r'/\ChipAt w' g s'
set_option maxHeartbeats 8000000 in
theorem mwrite_any (m g p q b:Nat) (r:Int) (s:Chp) (hs:s.Ok) (w:World) (h:Med w m g p q b r) (hC:ChipAt w g s) (tp to ts tc:Nat) (tl:Bool) (_hm:May tp to ts tc tl) (c o cap:Nat) (Dt:List Nat) (hD:Dt.length=174) (bD:Bys Dt) (hcb:c≠b) (hcg:c≠g) (hcm:c≠m) (hA:At w c o Dt)
 (base rr k:Nat) (gs:List Nat) (hR:Rowz w base (.slice (some ⟨rr,0,none⟩) 4 k) gs ((List.range 4).map (wordOf Dt (body tp to ts tc tl)))) (hbase:m<base/\g<base/\b<base) :
 Calls Tryz.prog 186 #[.pointer (some ⟨m,0,none⟩),.int .i64 (tp:Nat),.slice (some ⟨rr,0,none⟩) 4 k,.agg #[.int .i64 (tp:Nat),.int .i64 (to:Nat),.int .i64 (ts:Nat),.int .i64 (tc:Nat),.bool tl],.slice (some ⟨c,o,none⟩) 174 cap] w fun e w'=>WrAns s r tp tp to ts tc tl Dt w' m g p q b e/\Chg (fun k=>k=m\/k=g\/k=b) w w':=by
 have T0:=Tg.new w tp to ts tc tl
 have G0:Chg (fun _=>False) w (w.alloc (.cells #[.int .i64 (tp:Nat),.int .i64 (to:Nat),.int .i64 (ts:Nat),.int .i64 (tc:Nat),.bool tl] 127)):=(Chg.refl _ w).alloc _
 have hsz:(w.alloc (.cells #[.int .i64 (tp:Nat),.int .i64 (to:Nat),.int .i64 (ts:Nat),.int .i64 (tc:Nat),.bool tl] 127)).heap.size=w.heap.size+1:=by simp
 obtain⟨hms,hps,hqs,hbs⟩:=h.lts
 obtain⟨nm,np,nq,nb⟩:=h.mg hC
 have hgs:=hC.lt
 have hmb:=h.mb
 have hW:∀ k,k<4->(wordOf Dt (body tp to ts tc tl) k).length=64/\Bys (wordOf Dt (body tp to ts tc tl) k):=fun k hk=>⟨word_length hD bD (body_length _ _ _ _ _) (body_bys _ _ _ _ _) k hk,(word_cw hD bD (body_length _ _ _ _ _) (body_bys _ _ _ _ _) k hk).2.1⟩
 have HT:=hyd T0
 have HM:=hyd (h.chg G0)
 have HC:=hyd (hC.chg G0 (fun f=>f))
 have HA:=hyd (hA.chg G0 (fun f=>f))
 have HR:=hyd (hR.chg G0 (fun _ f=>f.elim))
 have HG:=hyd G0
 have HW:=hyd hW
 have HD:=hyd hD
 have HS:=hyd hs
 have hAc:=hA.1
 have q0:=neq_nil_nil
 generalize hWW:wordOf Dt (body tp to ts tc tl)=W at *
 have HWW:=hyd hWW
 generalize hw0:w.alloc (.cells #[.int .i64 (tp:Nat),.int .i64 (to:Nat),.int .i64 (ts:Nat),.int .i64 (tc:Nat),.bool tl] 127)=w0 at *
 clear T0 G0 h hC hA hR hW hD hs hWW
 go_enter Tryz.func186,Tryz.ntmps186
 go_wp2_with fail
 clear hw0
 go_loopw [18] (fun t18 wr=>∃ i:Nat,i<=4/\t18=.int .i64 i/\(wrN s (tp:Nat) W i).2=0/\ChipAt wr g (wrN s (tp:Nat) W i).1/\Chg (·=g) w0 wr) (fun t18 _=>4 - (intOf t18).toNat)
 case atStart=>exact⟨0,by omega,rfl,rfl,HC.out,Chg.refl _ _⟩
 case round=>
  obtain⟨i,hi,rfl,hz,C1,G1⟩:=hrel
  have hM1:=HM.out.far G1 nm np nq nb
  have hR1:=HR.out.chg G1 (fun x hx=>by subst hx;exact⟨fun e=>by rcases HR.out.row.2 with ⟨e',_⟩ | ⟨g',_,_,e',hg',_⟩;cases e';injection e' with e1;injection e1 with e1;injection e1 with e1;subst e1;have:=Option.some.inj e;simp at this;omega,fun e=>by have:=HR.out.low _ e;omega⟩)
  by_cases hlt:i<4
  ·
   have hlt':(i:Int)<4:=by omega
   obtain⟨hgl,hk4,hcell⟩:=hR1.cell i hlt
   have harr:=hR1.arr i (by omega)
   rw[getD_range W i hlt] at harr
   have hge:base<=gs.getD i 0:=hR1.low _ (by rw[List.getD_eq_getElem?_getD,List.getElem?_eq_getElem (by omega)];exact List.getElem_mem _)
   obtain⟨hwl,hwb⟩:=HW.out i hlt
   have hok:(wrN s (tp:Nat) W i).1.Ok:=wrN_ok HS.out _ i (fun k hk=>(HW.out k (by omega)).2)
   have hheld:Held wr (slc (gs.getD i 0)) (W i):=by
    have:=harr.heldFull 64 64 hwl.symm
    exact this
   obtain⟨c0,-,-⟩:=hM1.cells
   have hcall:=write_any g _ hok (tp:Nat) (i:Nat) (W i) (slc (gs.getD i 0)) wr hheld (slice_ne (by omega)) C1
   have hstep:wrN s (tp:Nat) W (i+1)=writeR (wrN s (tp:Nat) W i).1 (tp:Nat) i (W i):=by
    show (if (wrN s (tp:Nat) W i).2=0 then writeR (wrN s (tp:Nat) W i).1 (tp:Nat) i (W i) else wrN s (tp:Nat) W i)=_
    rw[if_pos hz]
   rw[<-hstep] at hcall
   have hcode:=wrN_code s (tp:Nat) W (i+1)
   have HG1:=hyd G1
   have HM1:=hyd hM1
   have HST:=hyd hstep
   unfold slc at hcell hcall
   clear hM1 hR1 harr hheld C1 G1 hstep hok
   generalize gs.getD i 0=gi at *
   go_wp2_with fail
   refine hcall.mono ?_
   rintro x w2 ⟨rfl,C2,G2⟩
   clear hcall
   have HC2:=hyd C2
   have HG2:=hyd (HG1.out.trans G2)
   have HM2:=hyd (HM1.out.far G2 nm np nq nb)
   clear C2 G2 HG1 HM1 hcell c0
   by_cases hc:(wrN s (tp:Nat) W (i+1)).2=0
   ·
    rw[hc]
    simp only[nerrV]
    have HCC:=hyd hc
    clear hc hcode
    go_wp2
    exact⟨⟨i+1,by omega,by go_num,HCC.out,HC2.out,HG2.out⟩,by simp[intOf];omega⟩
   ·
    obtain⟨y,hy,q1⟩:=neq_nerrV hcode hc
    have HY:=hyd hy
    rw[hy]
    have HCC:=hyd hc
    clear hc hcode hy
    go_wp2
    go_ret
    have e4:wrN s (tp:Nat) W 4=wrN s (tp:Nat) W (i+1):=by
     have:=wrN_stop HCC.out (4 - (i+1))
     rwa [show i+1+(4 - (i+1))=4 from by omega] at this
    refine⟨⟨(wrN s (tp:Nat) W (i+1)).1,r,(wrN s (tp:Nat) W (i+1)).2,Or.inl ?_,by rw[HY.out];rfl,HM2.out,HC2.out⟩,?_⟩
    ·
     rw[HWW.out,e4]
     exact⟨HCC.out,rfl,rfl,rfl⟩
    ·
     exact(HG.out.mono (fun _ _ f=>f.elim)).trans' HG2.out (fun k _ e=>Or.inr (Or.inl e))
  ·
   obtain rfl:i=4:=by omega
   have hok:(wrN s (tp:Nat) W 4).1.Ok:=wrN_ok HS.out _ 4 (fun k hk=>(HW.out k (by omega)).2)
   have hs1:=G1.size
   have hcall:=mread_any m g p q b r _ hok wr hM1 C1 (tp:Nat)
   have HT1:=hyd (HT.out.chg G1 (by omega))
   have HA1:=hyd (HA.out.chg G1 (fun e=>hcg e))
   have HG1:=hyd G1
   have HZ:=hyd hz
   clear hM1 hR1 C1 G1 hok hz
   go_wp2_with fail
   refine hcall.mono ?_
   rintro x w2 ⟨s',r',X,e,v,rfl,hRR,hO,M2,C2,G2⟩
   clear hcall
   have HT2:=hyd (HT1.out.chg G2 (by omega))
   have HA2:=hyd (HA1.out.chg G2 (by omega))
   have HM2:=hyd M2
   have HC2:=hyd C2
   have HG2:=hyd ((HG1.out.mono (T:=fun k=>k=m\/k=g\/k=b) (fun k _ e=>Or.inr (Or.inl e))).trans G2)
   have HRR:=hyd hRR
   have HO:=hyd hO
   clear HT1 HA1 HG1 M2 C2 G2 hO
   unfold pgV
   have hcode:nIsCode e:=by rw[hRR.2.1];exact readV_code _ _
   have hlow:∀ k,v.ownBlock=some k->wr.heap.size<=k/\k<w2.heap.size:=fun k hk=>HO.out.block hk
   have hs2:=HG2.out.size
   have hwr:=hs1
   have hgd:=guard_tag
   by_cases hc:e=0
   ·
    subst hc
    simp only[nerrV]
    obtain⟨-,hRc,hRt⟩:=hRR
    have hTold:ToldR (readV (wrN s (tp:Nat) W 4).1 (tp:Nat)).2.1 (tp:Nat) X:=by
     rcases hRt with ⟨x,_⟩ | ⟨_,_,x⟩
     ·
      exact absurd rfl x
     ·
      exact x
    have HTold:=hyd hTold
    clear hRc hRt hcode hTold
    go_wp2_with (refine wpList_store_pg rfl (.tmp 14) (.tmp 39) rfl w2.heap.size rfl rfl HO.out.one (Pb.new w2 false 0 0 0 0 false false (.slice none 0 0) 0) ?_)
    intro w3 P3 G3
    have G3':Chg (fun _=>False) w2 w3:=((Chg.refl (fun _=>False) w2).alloc _).trans' G3 (fun k hk e=>by omega)
    have HT3:=hyd (HT2.out.chg G3' (fun f=>f))
    have HM3:=hyd (HM2.out.chg G3')
    have HC3:=hyd (HC2.out.chg G3' (fun f=>f))
    have HA3:=hyd (HA2.out.chg G3' (fun f=>f))
    have HG3:=hyd (HG2.out.trans' G3' (fun _ _ f=>f.elim))
    have HO3:=hyd (HO.out.chg G3' (fun _ _ _ f=>f))
    obtain⟨k0,k1,k2,k3,k4,k5,k6,k7,k8⟩:=P3.cells
    obtain⟨v0,v1,v2,v3,v4⟩:=HT3.out.cells
    clear G3 G3' P3 HT2 HM2 HC2 HA2 HG2 HO
    obtain⟨xt,xp,xo,xs,xc,xl,xsd,xd,xg⟩:=X
    simp only at k0 k1 k2 k3 k4 k5 k6 k7 k8 HO3 ⊢
    cases xsd
    ·
     go_wp2
     go_ret
     refine⟨⟨s',r',8,Or.inr ?_,rfl,HM3.out,HC3.out⟩,(HG.out.mono (fun _ _ f=>f.elim)).trans HG3.out⟩
     rw[HWW.out]
     exact⟨HZ.out,_,0,HRR.out,Or.inr (Or.inr ⟨rfl,fun hi=>(by have:=hi.2.2.1;cases this),rfl⟩)⟩
    ·
     have qt:=fun w=>neq_tag w xp xo xs xc tp to ts tc xl tl
     obtain⟨ht0,hd0,bd0⟩:=HTold.out.sound rfl
     simp only at ht0 hd0 bd0
     by_cases ht:((xp:Int)=tp/\(xo:Int)=to/\(xs:Int)=ts/\(xc:Int)=tc/\xl=tl)
     ·
      rw[decide_eq_true ht] at qt
      obtain⟨g',cap',rfl,hg',hg'',-,hcl,-⟩:=HO3.out.lies (by omega)
      have heq:=equal_any w3 g' 0 xd.length cap' c o 174 cap xd Dt rfl HD.out.symm bd0 bD ⟨hg'',fun i hi=>by rw[Nat.zero_add];exact hcl i hi⟩ HA3.out
      have HT0:=hyd ht
      have HD0:=hyd hd0
      clear ht hcl HO3 hd0
      rw[HD0.out] at heq k7 ⊢
      by_cases hdd:xd=Dt
      ·
       rw[decide_eq_true hdd] at heq
       go_wp2_with fail
       refine heq.mono ?_
       rintro x w4 ⟨rfl,rfl⟩
       clear heq
       go_wp2
       go_ret
       refine⟨⟨s',r',0,Or.inr ?_,rfl,HM3.out,HC3.out⟩,(HG.out.mono (fun _ _ f=>f.elim)).trans HG3.out⟩
       rw[HWW.out]
       exact⟨HZ.out,_,0,HRR.out,Or.inr (Or.inl ⟨rfl,⟨ht0,⟨by show xp=tp;have:=HT0.out.1;omega,by show xo=to;have:=HT0.out.2.1;omega,by show xs=ts;have:=HT0.out.2.2.1;omega,by show xc=tc;have:=HT0.out.2.2.2.1;omega,HT0.out.2.2.2.2⟩,rfl,hdd⟩,rfl⟩)⟩
      ·
       rw[decide_eq_false hdd] at heq
       go_wp2_with fail
       refine heq.mono ?_
       rintro x w4 ⟨rfl,rfl⟩
       clear heq
       go_wp2
       go_ret
       refine⟨⟨s',r',8,Or.inr ?_,rfl,HM3.out,HC3.out⟩,(HG.out.mono (fun _ _ f=>f.elim)).trans HG3.out⟩
       rw[HWW.out]
       exact⟨HZ.out,_,0,HRR.out,Or.inr (Or.inr ⟨rfl,fun hi=>hdd hi.2.2.2,rfl⟩)⟩
     ·
      rw[decide_eq_false ht] at qt
      go_wp2
      go_ret
      refine⟨⟨s',r',8,Or.inr ?_,rfl,HM3.out,HC3.out⟩,(HG.out.mono (fun _ _ f=>f.elim)).trans HG3.out⟩
      rw[HWW.out]
      exact⟨HZ.out,_,0,HRR.out,Or.inr (Or.inr ⟨rfl,fun hi=>ht ⟨by have:=hi.2.1.1;simp only at this;omega,by have:=hi.2.1.2.1;simp only at this;omega,by have:=hi.2.1.2.2.1;simp only at this;omega,by have:=hi.2.1.2.2.2.1;simp only at this;omega,hi.2.1.2.2.2.2⟩,rfl⟩)⟩
   ·
    obtain⟨y,hy,q1⟩:=neq_nerrV hcode hc
    have HY:=hyd hy
    rw[hy]
    have HCC:=hyd hc
    clear hc hcode hy
    go_wp2_with (refine wpList_store_pg rfl (.tmp 14) (.tmp 39) rfl w2.heap.size rfl rfl HO.out.one (Pb.new w2 false 0 0 0 0 false false (.slice none 0 0) 0) ?_)
    intro w3 P3 G3
    have G3':Chg (fun _=>False) w2 w3:=((Chg.refl (fun _=>False) w2).alloc _).trans' G3 (fun k hk e=>by omega)
    have HM3:=hyd (HM2.out.chg G3')
    have HC3:=hyd (HC2.out.chg G3' (fun f=>f))
    have HG3:=hyd (HG2.out.trans' G3' (fun _ _ f=>f.elim))
    clear G3 G3' P3 HT2 HM2 HC2 HA2 HG2 HO
    go_wp2
    go_ret
    refine⟨⟨s',r',e,Or.inr ?_,by rw[HY.out];rfl,HM3.out,HC3.out⟩,(HG.out.mono (fun _ _ f=>f.elim)).trans HG3.out⟩
    rw[HWW.out]
    exact⟨HZ.out,_,e,HRR.out,Or.inl ⟨HCC.out,rfl⟩⟩
set_option maxHeartbeats 4000000 in
theorem mprogram_no (m g p q b:Nat) (r:Int) (w:World) (h:Med w m g p q b r) (a tp to ts tc:Int) (tl:Bool) (ad:Option Addr) (n cap:Nat) (hno:¬ (May tp to ts tc tl/\tp=a/\n=174)) :
 Calls Tryz.prog 157 #[.pointer (some ⟨m,0,none⟩),.int .i64 a,.agg #[.int .i64 tp,.int .i64 to,.int .i64 ts,.int .i64 tc,.bool tl],.slice ad n cap] w fun e w'=>e=.returned (.iface 56 (.int .i64 1))/\Chg (fun _=>False) w w':=by
 have T0:=Tg.new w tp to ts tc tl
 have G0:Chg (fun _=>False) w (w.alloc (.cells #[.int .i64 tp,.int .i64 to,.int .i64 ts,.int .i64 tc,.bool tl] 127)):=(Chg.refl _ w).alloc _
 have hcall:=mchunks_no m g p q b r _ (h.chg G0) a tp to ts tc tl ad n cap hno
 have HT:=hyd T0
 have HG:=hyd G0
 have q1:=neq_arg_nil
 clear T0 G0 h hno
 go_enter Tryz.func157,Tryz.ntmps157
 go_wp2_with (first | refine wpList_load_tag rfl (.tmp 6) rfl w.heap.size rfl HT.out ?_)
 refine hcall.mono ?_
 rintro x w1 ⟨rfl,G1⟩
 have HG1:=hyd (HG.out.trans G1)
 clear hcall G1
 go_wp2
 go_ret
 exact⟨rfl,HG1.out⟩
set_option maxHeartbeats 4000000 in
theorem mprogram_yes (m g p q b:Nat) (r:Int) (s:Chp) (hs:s.Ok) (w:World) (h:Med w m g p q b r) (hC:ChipAt w g s) (tp to ts tc:Nat) (tl:Bool) (hm:May tp to ts tc tl) (c o cap:Nat) (Dt:List Nat) (hD:Dt.length=174) (bD:Bys Dt) (hcb:c≠b) (hcg:c≠g) (hcm:c≠m) (hA:At w c o Dt) :
 Calls Tryz.prog 157 #[.pointer (some ⟨m,0,none⟩),.int .i64 (tp:Nat),.agg #[.int .i64 (tp:Nat),.int .i64 (to:Nat),.int .i64 (ts:Nat),.int .i64 (tc:Nat),.bool tl],.slice (some ⟨c,o,none⟩) 174 cap] w fun e w'=>WrAns s r tp tp to ts tc tl Dt w' m g p q b e/\Chg (fun k=>k=m\/k=g\/k=b) w w':=by
 have T0:=Tg.new w tp to ts tc tl
 have G0:Chg (fun _=>False) w (w.alloc (.cells #[.int .i64 (tp:Nat),.int .i64 (to:Nat),.int .i64 (ts:Nat),.int .i64 (tc:Nat),.bool tl] 127)):=(Chg.refl _ w).alloc _
 have hs0:=G0.size
 have hcall:=mchunks_yes m g p q b r _ (h.chg G0) tp to ts tc tl hm c o cap Dt hD bD hcb (Nat.lt_of_lt_of_le hA.1 hs0) (hA.chg G0 (fun f=>f))
 obtain⟨hms,hps,hqs,hbs⟩:=h.lts
 obtain⟨nm,np,nq,nb⟩:=h.mg hC
 have hgs:=hC.lt
 have hAc:=hA.1
 have HT:=hyd T0
 have HG:=hyd G0
 have HC:=hyd hC
 have HA:=hyd hA
 have HD:=hyd hD
 have HS:=hyd hs
 have q1:=neq_nil_nil
 clear T0 G0 h hC hA hD hs
 go_enter Tryz.func157,Tryz.ntmps157
 go_wp2_with (first | refine wpList_load_tag rfl (.tmp 6) rfl w.heap.size rfl HT.out ?_)
 refine hcall.mono ?_
 rintro x w1 ⟨rr,k,gs,rfl,hR,M1,B1⟩
 clear hcall
 have C1:=(HC.out.chg HG.out (fun f=>f)).chg B1.chg (fun e=>nb e.symm)
 have A1:=(HA.out.chg HG.out (fun f=>f)).chg B1.chg hcb
 have HT1:=hyd (HT.out.chg B1.chg (by omega))
 have G1:Chg (fun k=>k=m\/k=g\/k=b) w w1:=(HG.out.mono (T:=fun k=>k=m\/k=g\/k=b) (fun _ _ f=>f.elim)).trans' B1.chg (fun k _ e=>Or.inr (Or.inr e))
 have hcall:=mwrite_any m g p q b r s HS.out w1 M1 C1 tp to ts tc tl hm c o cap Dt HD.out bD hcb hcg hcm A1 _ rr k gs hR (by omega)
 have HG1:=hyd G1
 clear hR M1 B1 C1 A1 HC HA HG G1
 go_wp2_with (first | refine wpList_load_tag rfl (.tmp 6) rfl w.heap.size rfl HT1.out ?_)
 refine hcall.mono ?_
 rintro x w2 ⟨⟨s',r',e,hP,rfl,M2,C2⟩,G2⟩
 have HP:=hyd hP
 have HM2:=hyd M2
 have HC2:=hyd C2
 have HG2:=hyd (HG1.out.trans G2)
 clear hcall hP M2 C2 G2
 go_wp2
 go_ret
 exact⟨⟨s',r',e,HP.out,rfl,HM2.out,HC2.out⟩,HG2.out⟩
end Go.Proofs.YtbhbilcieodbhaaGreat
/-
  Blocks that hold ints and bools; errors by their numbers. No condition: lemmas.
-/
namespace Go.Proofs.YtbhbilcieodbhaaGreat
set_option maxRecDepth 100000
open Go.RowKit
theorem Chg.drewN {S:Nat->Prop} {u w:World} (h:Chg S u w) (n:Nat):Chg S u (w.drewN n):=by
 induction n with
 | zero=>exact h
 | succ n ih=>exact ih.drew
def i6 (z:Int):Value:=.int .i64 z
def upd {α:Type} (f:Nat->α) (i:Nat) (z:α):Nat->α:=fun j=>if j=i then z else f j
def ints (f:Nat->Int) (n:Nat):List Value:=(List.range n).map fun i=>i6 (f i)
theorem ints_length (f:Nat->Int) (n:Nat):(ints f n).length=n:=by simp[ints]
theorem ints_at (f:Nat->Int) (n i:Nat) (h:i<n):(ints f n)[i]?=some (i6 (f i)):=by simp[ints,h]
theorem ints_set (f:Nat->Int) (n i:Nat) (z:Int):(ints f n).set i (i6 z)=ints (upd f i z) n:=by
 apply List.ext_getElem?
 intro j
 by_cases hj:j<n
 ·
  by_cases e:j=i
  ·
   subst e;rw[List.getElem?_set_self (by simpa[ints_length] using hj),ints_at _ _ _ hj];simp[upd]
  ·
   rw[List.getElem?_set_ne (by omega),ints_at _ _ _ hj,ints_at _ _ _ hj];simp[upd,e]
 ·
  rw[List.getElem?_eq_none (by simp[ints_length];omega),List.getElem?_eq_none (by simp[ints_length];omega)]
theorem ints_one (f:Nat->Int) (n:Nat):∀ v ∈ ints f n,v.oneCell'=true:=by
 intro v hv
 obtain⟨_,_,rfl⟩:=List.mem_map.1 hv
 rfl
theorem ints_congr {f g:Nat->Int} {n:Nat} (h:∀ i,i<n->f i=g i):ints f n=ints g n:=by
 apply List.map_congr_left
 intro i hi
 rw[h i (List.mem_range.1 hi)]
def IB (w:World) (b:Nat) (t:TypeId) (n:Nat) (F:Nat->Int):Prop:=w.heap[b]?=some (.cells (ints F n).toArray t)
section
variable {w w':World} {b n:Nat} {t:TypeId} {F:Nat->Int}
theorem IB.lt (h:IB w b t n F):b<w.heap.size:=(Array.getElem?_eq_some_iff.1 (show w.heap[b]?=some _ from h)).1
theorem IB.chg {S:Nat->Prop} (h:IB w b t n F) (hc:Chg S w w') (hb:¬ S b):IB w' b t n F:=(hc.block b h.lt hb).trans h
theorem IB.new (w:World) (t:TypeId) (n:Nat) (F:Nat->Int):IB (w.alloc (.cells (ints F n).toArray t)) w.heap.size t n F:=by
 show (w.heap.push _)[w.heap.size]?=_
 simp
theorem IB.set (h:IB w b t n F) (i:Nat) (z:Int):IB (w.setCell ⟨b,i,none⟩ (.int .i64 z)) b t n (upd F i z):=by
 have h':w.heap[b]?=some _:=h
 show (w.setCell ⟨b,i,none⟩ _).heap[b]?=_
 have e2:(ints F n).toArray.setIfInBounds i (.int .i64 z)=(ints (upd F i z) n).toArray:=by
  apply Array.ext'
  have:=ints_set F n i z
  simpa[i6] using this
 simp[World.setCell,Array.getElem?_modify,h',e2]
theorem IB.cell (h:IB w b t n F) (i:Nat) (hi:i<n):w.cell? ⟨b,i,none⟩=some (.int .i64 (F i))/\w.frozen? ⟨b,i,none⟩=false:=by
 have h':w.heap[b]?=some _:=h
 refine⟨?_,by simp[World.frozen?,h']⟩
 simp only[World.cell?,h']
 simpa[i6] using ints_at F n i hi
theorem IB.congr {G:Nat->Int} (h:IB w b t n F) (e:∀ i,i<n->F i=G i):IB w b t n G:=by
 unfold IB at *
 rw[h,ints_congr e]
theorem IB.row (h:IB w b t n F) (G:Nat->Int):IB (w.setRow b (ints G n).toArray) b t n G:=setRow_heap w b _ _ t _ h
end
def bools (f:Nat->Bool) (n:Nat):List Value:=(List.range n).map fun i=>.bool (f i)
theorem bools_length (f:Nat->Bool) (n:Nat):(bools f n).length=n:=by simp[bools]
theorem bools_at (f:Nat->Bool) (n i:Nat) (h:i<n):(bools f n)[i]?=some (.bool (f i)):=by simp[bools,h]
theorem bools_set (f:Nat->Bool) (n i:Nat) (z:Bool):(bools f n).set i (.bool z)=bools (upd f i z) n:=by
 apply List.ext_getElem?
 intro j
 by_cases hj:j<n
 ·
  by_cases e:j=i
  ·
   subst e;rw[List.getElem?_set_self (by simpa[bools_length] using hj),bools_at _ _ _ hj];simp[upd]
  ·
   rw[List.getElem?_set_ne (by omega),bools_at _ _ _ hj,bools_at _ _ _ hj];simp[upd,e]
 ·
  rw[List.getElem?_eq_none (by simp[bools_length];omega),List.getElem?_eq_none (by simp[bools_length];omega)]
theorem bools_one (f:Nat->Bool) (n:Nat):∀ v ∈ bools f n,v.oneCell'=true:=by
 intro v hv
 obtain⟨_,_,rfl⟩:=List.mem_map.1 hv
 rfl
theorem bools_congr {f g:Nat->Bool} {n:Nat} (h:∀ i,i<n->f i=g i):bools f n=bools g n:=by
 apply List.map_congr_left
 intro i hi
 rw[h i (List.mem_range.1 hi)]
section
variable {w w':World} {b n:Nat} {t:TypeId} {F:Nat->Bool}
end
theorem chg_row (w:World) (g:Nat) (c:Array Value):Chg (·=g) w (w.setRow g c):=⟨rfl,rfl,rfl,by simp,fun k _ hk=>setRow_other _ _ _ _ hk⟩
theorem wpList_alloc_row {ops:Array Oper} {rest:List Oper} {o:Oper} {a:Act} {w:World} {Q:Exit->Act->World->Prop} (hgd:o.guard=none) (t:TypeId) (ho:o.op=.alloc t) (N:Nat) (hN:w.heap.size=N) {A:Array Value}
 (hz:∀ w,(zeroValue t).run Tryz.prog w=.ok (.agg A) w)
 (h:∀ w',w'.heap[N]?=some (.cells A t)->Chg (fun _=>False) w w'->w'.heap.size=N+1->wpList Tryz.prog ops Q rest (a.put o.dst (.pointer (some ⟨N,0,none⟩))) w'):wpList Tryz.prog ops Q (o :: rest) a w:=by
 refine wpList_plain hgd fun K hK=>?_
 unfold Oper.wp
 simp[execOp,ho,Instr.alloc,hz,newVar,Value.cells,newRow]
 rw[hN]
 refine hK _ _ (h _ ?_ ((Chg.refl _ w).alloc _) (by simp[hN]))
 rw[<-hN]
 show (w.heap.push _)[w.heap.size]?=_
 simp
theorem eql_nil (w:World):(binOp .eql 33 .nilIface .nilIface).run Tryz.prog w=.ok (.bool true) w:=by kernel_rfl
theorem neq_nil (w:World):(binOp .neq 33 .nilIface .nilIface).run Tryz.prog w=.ok (.bool false) w:=by kernel_rfl
theorem eql_c_nil (w:World) (n:Int):(binOp .eql 33 (.iface 56 (.int .i64 n)) .nilIface).run Tryz.prog w=.ok (.bool false) w:=by kernel_rfl
theorem neq_c_nil (w:World) (n:Int):(binOp .neq 33 (.iface 56 (.int .i64 n)) .nilIface).run Tryz.prog w=.ok (.bool true) w:=by kernel_rfl
theorem nerr_err (c:Nat):nerrV c=errV c:=by
 cases c with
 | zero=>rfl
 | succ n=>unfold errV;rw[if_neg (by omega)];rfl
theorem eql_er (c:Nat) (w:World):(binOp .eql 33 (errV c) .nilIface).run Tryz.prog w=.ok (.bool (decide (c=0))) w:=by
 unfold errV
 by_cases h:c=0
 ·
  rw[if_pos h,decide_eq_true h];exact eql_nil w
 ·
  rw[if_neg h,decide_eq_false h];exact eql_c_nil w _
theorem neq_er (c:Nat) (w:World):(binOp .neq 33 (errV c) .nilIface).run Tryz.prog w=.ok (.bool (!decide (c=0))) w:=by
 unfold errV
 by_cases h:c=0
 ·
  rw[if_pos h,decide_eq_true h];exact neq_nil w
 ·
  rw[if_neg h,decide_eq_false h];exact neq_c_nil w _
theorem guard_eql (c:Nat) (x:Operand) (w:World):(eqGuard .eql 33 x (.const .nilIface) (errV c) .nilIface).run Tryz.prog w=.ok () w:=by
 unfold errV
 by_cases h:c=0
 ·
  rw[if_pos h];cases x <;> rfl
 ·
  rw[if_neg h];rfl
theorem guard_neq (c:Nat) (x:Operand) (w:World):(eqGuard .neq 33 x (.const .nilIface) (errV c) .nilIface).run Tryz.prog w=.ok () w:=by
 unfold errV
 by_cases h:c=0
 ·
  rw[if_pos h];cases x <;> rfl
 ·
  rw[if_neg h];rfl
end Go.Proofs.YtbhbilcieodbhaaGreat
