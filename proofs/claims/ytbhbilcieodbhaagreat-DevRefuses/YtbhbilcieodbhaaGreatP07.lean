/-
  A try of a move. Condition: core and move lie in memory.
-/
import Derived.Test.YtbhbilcieodbhaaGreatP06
import Derived.Test.YtbhbilcieodbhaaGreatP02
import Derived.Test.YtbhbilcieodbhaaGreatP01
import Derived.Test.YtbhbilcieodbhaaGreatP00
import Derived.Deep.RegionLaw
import Derived.Deep.AppendLies
import Derived.Deep.RegionHeld3
namespace Go.Proofs.YtbhbilcieodbhaaGreat
set_option maxRecDepth 100000
open Go.RowKit
theorem ShAt.setFd {w:World} {x:Nat} {S:Shf} {v:Value} (h:ShAt w x S v) (d:Bool):ShAt (w.setCell ⟨x,2,none⟩ (.bool d)) x { S with fd:=d } v:=by
 refine Sto.ext (Sto.setCells [.bool d] 2 h) fun i hi=>?_
 rw[upL_one]
 have:i=0\/i=1\/i=2\/i=3\/i=4\/i=5\/i=6:=by omega
 rcases this with rfl | rfl | rfl | rfl | rfl | rfl | rfl <;> rfl
def ty3 (X:Kor × Shf × Nat) (fm:Nat):Kor × Shf × Nat:=
 if (erK X.1 fm).2=0 then ((cmK (erK X.1 fm).1 X.2.1 0).1,X.2.1,(cmK (erK X.1 fm).1 X.2.1 0).2) else
 if (erK X.1 fm).2≠8 then ((erK X.1 fm).1,X.2.1,(erK X.1 fm).2) else
 if bearK (lvK (erK X.1 fm).1 fm)=false then (lvK (erK X.1 fm).1 fm,{ X.2.1 with fd:=true },14) else cbK (lvK (erK X.1 fm).1 fm) { X.2.1 with fd:=true }
def ty2 (bd:Bool) (K:Kor) (S:Shf):Kor × Shf × Nat:=
 if (cpK bd ((Pmap.ofL K.L S.fm).map Int.toNat) K S).2.2≠0 then cpK bd ((Pmap.ofL K.L S.fm).map Int.toNat) K S else
 if bd=true then cbK (cpK bd ((Pmap.ofL K.L S.fm).map Int.toNat) K S).1 (cpK bd ((Pmap.ofL K.L S.fm).map Int.toNat) K S).2.1 else ty3 (cpK bd ((Pmap.ofL K.L S.fm).map Int.toNat) K S) S.fm
theorem tyK_eq (K:Kor) (S:Shf):tyK K S=if S.fd=true/\bearK K=false then (K,{ S with tt:=noF,ld:=[] },14) else ty2 (S.fd || (S.rt && bearK K)) K { S with tt:=noF,ld:=[] }:=by
 unfold tyK ty2 ty3
 dsimp only
theorem tyK_dead {K:Kor} {S:Shf} (h1:S.fd=true) (h2:bearK K=false):tyK K S=(K,{ S with tt:=noF,ld:=[] },14):=by rw[tyK_eq,if_pos ⟨h1,h2⟩]
theorem tyK_go {K:Kor} {S:Shf} {bd:Bool} (h1:¬ (S.fd=true/\bearK K=false)) (h:(S.fd || (S.rt && bearK K))=bd):tyK K S=ty2 bd K { S with tt:=noF,ld:=[] }:=by rw[tyK_eq,if_neg h1,h]
theorem ty2_ok {K:Kor} {S:Shf} {X:Kor × Shf × Nat} (h:cpK false ((Pmap.ofL K.L S.fm).map Int.toNat) K S=X):ty2 false K S=if X.2.2≠0 then X else ty3 X S.fm:=by
 unfold ty2
 rw[h,if_neg (show ¬ (false=true) by decide)]
theorem ty2_bad {K:Kor} {S:Shf} {X:Kor × Shf × Nat} (h:cpK true ((Pmap.ofL K.L S.fm).map Int.toNat) K S=X):ty2 true K S=if X.2.2≠0 then X else cbK X.1 X.2.1:=by
 unfold ty2
 rw[h,if_pos (show true=true from rfl)]
theorem ty3_eq {X:Kor × Shf × Nat} {fm:Nat} {E:Kor × Nat} (h:erK X.1 fm=E):ty3 X fm=if E.2=0 then ((cmK E.1 X.2.1 0).1,X.2.1,(cmK E.1 X.2.1 0).2) else if E.2≠8 then (E.1,X.2.1,E.2) else if bearK (lvK E.1 fm)=false then (lvK E.1 fm,{ X.2.1 with fd:=true },14) else cbK (lvK E.1 fm) { X.2.1 with fd:=true }:=by
 unfold ty3
 rw[h]
def TyP (A:Ad) (x:Nat) (S:Shf) (w:World) (Z:Kor × Shf × Nat) (e:Ending) (w':World):Prop:=∃ v,e=.returned (errV Z.2.2)/\CoreAt A w' Z.1/\ShAt w' x Z.2.1 v/\Front.Okf Z.2.1.tt/\(Z.2.1.fm=S.fm/\Z.2.1.rt=S.rt)/\Chg (Mvs A x) w w'
set_option maxHeartbeats 4000000 in
theorem try_k (A:Ad) (w:World) (K:Kor) (h:CoreAt A w K) (x:Nat) (S:Shf) (v:Value) (hS:ShAt w x S v) (hfm:S.fm<12) (Z:Kor × Shf × Nat) (hZ:tyK K S=Z) :
 Calls Tryz.prog 160 #[.pointer (some ⟨A.c,0,none⟩),.pointer (some ⟨x,0,none⟩)] w fun e w'=>TyP A x S w Z e w':=by
 have hb:=Front.build26
 have HS:=hyd hS
 have HK:=hyd h
 have HFM:=hyd hfm
 have HLOW:=hyd h.low
 have hxl:=hS.lt
 have HE:=hyd hZ
 have q:=neq_er
 have g:=guard_neq
 have qe:=eql_er
 have ge:=guard_eql
 clear h hS hfm hZ
 go_enter Tryz.func160,Tryz.ntmps160
 go_wp2_with (refine Front.wpList_store_front rfl (.tmp 12) (.tmp 10) rfl x 3 rfl ⟨false,0,0⟩ rfl HS.out.front ?_)
 intro w1 F1 G1
 have S1:=ShAt.setTo F1
 obtain⟨d6,f6⟩:=S1.cell 6 (by decide)
 have S2:=S1.setLd (.slice none 0 0) []
 have GX:Chg (·=x) w1 (w1.setCell ⟨x,6,none⟩ (.slice none 0 0)):=(Chg.refl (·=x) w1).setCell (Or.inl rfl) _ _
 have K2:=(HK.out.offSh HS.out G1).offSh S1 GX
 have HG2:=hyd (G1.trans GX)
 obtain⟨d2,f2⟩:=S2.cell 2 (by decide)
 obtain⟨d1,f1⟩:=S2.cell 1 (by decide)
 replace d2:(w1.setCell ⟨x,6,none⟩ (.slice none 0 0)).cell? ⟨x,2,none⟩=some (.bool S.fd):=d2
 replace d1:(w1.setCell ⟨x,6,none⟩ (.slice none 0 0)).cell? ⟨x,1,none⟩=some (.bool S.rt):=d1
 have hbe:=bears_k A _ K K2
 have HK2:=hyd K2
 have HS2:Hid (ShAt (w1.setCell ⟨x,6,none⟩ (.slice none 0 0)) x { S with tt:=noF,ld:=[] } (.slice none 0 0)):=S2
 have HSZ:=hyd (Nat.le_trans G1.size GX.size)
 clear S1 S2 F1 G1 K2 HK HS GX f1 f2
 cases hfd:S.fd
 ·
  rw[hfd] at d2
  cases hrt:S.rt
  ·
   rw[hrt] at d1
   have HE3:Hid (ty2 false K { S with tt:=noF,ld:=[] }=Z):=(tyK_go (fun e=>by rw[hfd] at e;cases e.1) (by rw[hfd,hrt];rfl)).symm.trans HE.out
   clear HE hfd hrt
   obtain⟨X,HX⟩:∃ X,Hid (cpK false ((Pmap.ofL K.L ({ S with tt:=noF,ld:=[] }:Shf).fm).map Int.toNat) K { S with tt:=noF,ld:=[] }=X):=⟨_,rfl⟩
   have hcp:=copy_k A _ K HK2.out x _ HS2.out Okf.noF HFM.out rfl false X HX.out
   have HE4:=hyd ((ty2_ok HX.out).symm.trans HE3.out)
   clear HE3 HX
   go_wp2_with (go_at_call 188;refine hbe.mono ?_;rintro e w9 ⟨rfl,rfl⟩)
   refine hcp.mono ?_
   rintro e w3 ⟨v3,rfl,k3,s3,l3,ok3,sm3,tg3,ln3,kp3,g3⟩
   have HK3:=hyd k3
   have HS3:=hyd s3
   have HL3:=hyd l3
   have HOK3:=hyd ok3
   have HSM:Hid (X.2.1.fm=S.fm/\X.2.1.rt=S.rt/\X.2.1.fd=S.fd):=sm3
   have HTG:=hyd tg3
   have HLN:=hyd ln3
   have HG3:=hyd ((HG2.out.mvx (A:=A)).trans g3)
   have hs3:=g3.size
   have hs2:=HSZ.out
   obtain⟨e0,-⟩:=s3.cell 0 (by decide)
   replace e0:w3.cell? ⟨x,0,none⟩=some (.int .i64 (S.fm:Nat)):=by rw[<-sm3.1];exact e0
   clear hcp k3 s3 l3 ok3 sm3 tg3 ln3 kp3 g3 d1 d2 d6 f6
   by_cases hx:X.2.2=0
   ·
    have HE5:=HE4.out
    rw[if_neg (by rw[hx];simp)] at HE5
    have HE6:=hyd HE5
    rw[hx]
    clear hx HE5 HE4
    obtain⟨n,hn⟩:∃ n,n=(w1.setCell ⟨x,6,none⟩ (.slice none 0 0)).heap.size:=⟨_,rfl⟩
    rw[<-hn] at HL3 hs3 hs2
    have her:=erase_k A w3 X.1 HK3.out S.fm HFM.out
    have HE7:=HE6.out
    rw[ty3_eq rfl] at HE7
    have HE8:Hid (_=Z):=HE7
    generalize erK X.1 S.fm=E at *
    clear hn HE7 HE6
    go_wp2_with fail
    refine her.mono ?_
    rintro e w4 ⟨rfl,k4,g4⟩
    have HK4:=hyd k4
    have HS4:=hyd (HS3.out.chg g4 (HK3.out.apartSh HS3.out))
    have HL4:=hyd (HL3.out.chg g4 (HL3.out.noCor HK3.out))
    have HG4:=hyd (HG3.out.trans g4.mvs)
    have hs4:=g4.size
    obtain⟨e4,-⟩:=HS4.out.cell 0 (by decide)
    replace e4:w4.cell? ⟨x,0,none⟩=some (.int .i64 (S.fm:Nat)):=by rw[<-HSM.out.1];exact e4
    clear her k4 g4 e0
    by_cases h0:E.2=0
    ·
     have HE9:=HE8.out
     rw[if_pos h0] at HE9
     have HEA:=hyd HE9
     have hcm:=commit_k A w4 E.1 HK4.out x n X.2.1 v3 HS4.out HL4.out HOK3.out HTG.out (Nat.le_trans HLN.out (by decide)) 0
     replace qe:∀ w,(binOp .eql 33 (errV E.2) .nilIface).run Tryz.prog w=.ok (.bool true) w:=fun w=>by rw[qe,decide_eq_true h0]
     clear HE8 HE9 h0
     go_wp2_with fail
     refine hcm.mono ?_
     rintro e w5 ⟨rfl,k5,g5⟩
     have HK5:=hyd k5
     have HS5:=hyd (HS4.out.chg g5 (HK4.out.apartSh HS4.out))
     have HG5:=hyd (HG4.out.trans g5.mvs)
     clear hcm k5 g5
     go_wp2
     go_ret
     rw[<-HEA.out]
     exact⟨v3,rfl,HK5.out,HS5.out,HOK3.out,⟨HSM.out.1,HSM.out.2.1⟩,HG5.out⟩
    ·
     have HE9:=HE8.out
     rw[if_neg h0] at HE9
     replace qe:∀ w,(binOp .eql 33 (errV E.2) .nilIface).run Tryz.prog w=.ok (.bool false) w:=fun w=>by rw[qe,decide_eq_false h0]
     have his:=is_v E.2 8 (by decide) w4
     by_cases h8:E.2=8
     ·
      rw[if_neg (by rw[h8];simp)] at HE9
      rw[decide_eq_true h8] at his
      have HEA:=hyd HE9
      have S5:=HS4.out.setFd true
      obtain⟨d2,f2⟩:=HS4.out.cell 2 (by decide)
      have G5:Chg (·=x) w4 (w4.setCell ⟨x,2,none⟩ (.bool true)):=(Chg.refl (·=x) w4).setCell (Or.inl rfl) _ _
      have K5:=HK4.out.offSh HS4.out G5
      have L5:=HL4.out.chg G5 (HL4.out.noSh HS4.out)
      obtain⟨e5,-⟩:=S5.cell 0 (by decide)
      replace e5:(w4.setCell ⟨x,2,none⟩ (.bool true)).cell? ⟨x,0,none⟩=some (.int .i64 (S.fm:Nat)):=by rw[<-HSM.out.1];exact e5
      have hlv:=leave_k A _ E.1 K5 (S.fm:Nat)
      have HK5:=hyd K5
      have HS5:=hyd S5
      have HL5:=hyd L5
      have HG5:=hyd (HG4.out.trans (G5.mvx (A:=A)))
      have hs5:=G5.size
      clear HE8 HE9 h0 h8 S5 K5 L5 G5
      go_wp2_with (go_at_call 46;refine his.mono ?_;rintro e w9 ⟨rfl,rfl⟩)
      refine hlv.mono ?_
      rintro e w6 ⟨rfl,k6,g6⟩
      generalize lvK E.1 S.fm=K6 at *
      have hb6:=bears_k A w6 K6 k6
      have HK6:=hyd k6
      have HS6:=hyd (HS5.out.chg g6 (HK5.out.apartSh HS5.out))
      have HL6:=hyd (HL5.out.chg g6 (HL5.out.noCor HK5.out))
      have HG6:=hyd (HG5.out.trans g6.mvs)
      have hs6:=g6.size
      clear hlv k6 g6 his e5 d2 f2 e4
      cases hbb:bearK K6
      ·
       rw[hbb] at hb6
       have HEB:=HEA.out
       rw[if_pos hbb] at HEB
       have HEC:=hyd HEB
       clear HEA HEB hbb
       go_wp2_with (go_at_call 188;refine hb6.mono ?_;rintro e w9 ⟨rfl,rfl⟩)
       go_ret
       rw[<-HEC.out]
       exact⟨v3,rfl,HK6.out,HS6.out,HOK3.out,⟨HSM.out.1,HSM.out.2.1⟩,HG6.out⟩
      ·
       rw[hbb] at hb6
       have HEB:=HEA.out
       rw[if_neg (by rw[hbb];simp)] at HEB
       have hcb:=commitBad_k A w6 K6 HK6.out x n { X.2.1 with fd:=true } v3 HS6.out HL6.out (by omega) HOK3.out (by show X.2.1.fm<12;rw[HSM.out.1];exact HFM.out) HTG.out (Nat.le_trans HLN.out (by decide)) Z HEB
       clear HEA HEB hbb
       go_wp2_with (go_at_call 188;refine hb6.mono ?_;rintro e w9 ⟨rfl,rfl⟩)
       refine hcb.mono ?_
       rintro e w7 ⟨v7,rfl,k7,s7,l7,ok7,sm7,g7⟩
       have HK7:=hyd k7
       have HS7:=hyd s7
       have HOK7:=hyd ok7
       have HSM7:=hyd sm7
       have HG7:=hyd (HG6.out.trans' g7 (fun k hk e=>e.elim id (fun e=>by omega)))
       clear hcb k7 s7 l7 ok7 sm7 g7
       go_wp2
       go_ret
       exact⟨v7,rfl,HK7.out,HS7.out,HOK7.out,⟨HSM7.out.1.trans HSM.out.1,HSM7.out.2.1.trans HSM.out.2.1⟩,HG7.out⟩
     ·
      rw[if_pos h8] at HE9
      rw[decide_eq_false h8] at his
      have HEA:=hyd HE9
      clear HE8 HE9 h0 h8
      go_wp2_with (go_at_call 46;refine his.mono ?_;rintro e w9 ⟨rfl,rfl⟩)
      go_ret
      rw[<-HEA.out]
      exact⟨v3,rfl,HK4.out,HS4.out,HOK3.out,⟨HSM.out.1,HSM.out.2.1⟩,HG4.out⟩
   ·
    replace q:∀ w,(binOp .neq 33 (errV X.2.2) .nilIface).run Tryz.prog w=.ok (.bool true) w:=fun w=>by rw[q,decide_eq_false hx];rfl
    have HE5:=HE4.out
    rw[if_pos hx] at HE5
    have HE6:=hyd HE5
    clear hx HE5 HE4
    go_wp2
    go_ret
    rw[<-HE6.out]
    exact⟨v3,rfl,HK3.out,HS3.out,HOK3.out,⟨HSM.out.1,HSM.out.2.1⟩,HG3.out⟩
  ·
   rw[hrt] at d1
   cases hbk:bearK K
   ·
    rw[hbk] at hbe
    have HE3:Hid (ty2 false K { S with tt:=noF,ld:=[] }=Z):=(tyK_go (fun e=>by rw[hfd] at e;cases e.1) (by rw[hfd,hrt,hbk];rfl)).symm.trans HE.out
    clear HE hfd hrt hbk
    obtain⟨X,HX⟩:∃ X,Hid (cpK false ((Pmap.ofL K.L ({ S with tt:=noF,ld:=[] }:Shf).fm).map Int.toNat) K { S with tt:=noF,ld:=[] }=X):=⟨_,rfl⟩
    have hcp:=copy_k A _ K HK2.out x _ HS2.out Okf.noF HFM.out rfl false X HX.out
    have HE4:=hyd ((ty2_ok HX.out).symm.trans HE3.out)
    clear HE3 HX
    go_wp2_with (go_at_call 188;refine hbe.mono ?_;rintro e w9 ⟨rfl,rfl⟩)
    refine hcp.mono ?_
    rintro e w3 ⟨v3,rfl,k3,s3,l3,ok3,sm3,tg3,ln3,kp3,g3⟩
    have HK3:=hyd k3
    have HS3:=hyd s3
    have HL3:=hyd l3
    have HOK3:=hyd ok3
    have HSM:Hid (X.2.1.fm=S.fm/\X.2.1.rt=S.rt/\X.2.1.fd=S.fd):=sm3
    have HTG:=hyd tg3
    have HLN:=hyd ln3
    have HG3:=hyd ((HG2.out.mvx (A:=A)).trans g3)
    have hs3:=g3.size
    have hs2:=HSZ.out
    obtain⟨e0,-⟩:=s3.cell 0 (by decide)
    replace e0:w3.cell? ⟨x,0,none⟩=some (.int .i64 (S.fm:Nat)):=by rw[<-sm3.1];exact e0
    clear hcp k3 s3 l3 ok3 sm3 tg3 ln3 kp3 g3 d1 d2 d6 f6
    by_cases hx:X.2.2=0
    ·
     have HE5:=HE4.out
     rw[if_neg (by rw[hx];simp)] at HE5
     have HE6:=hyd HE5
     rw[hx]
     clear hx HE5 HE4
     obtain⟨n,hn⟩:∃ n,n=(w1.setCell ⟨x,6,none⟩ (.slice none 0 0)).heap.size:=⟨_,rfl⟩
     rw[<-hn] at HL3 hs3 hs2
     have her:=erase_k A w3 X.1 HK3.out S.fm HFM.out
     have HE7:=HE6.out
     rw[ty3_eq rfl] at HE7
     have HE8:Hid (_=Z):=HE7
     generalize erK X.1 S.fm=E at *
     clear hn HE7 HE6
     go_wp2_with fail
     refine her.mono ?_
     rintro e w4 ⟨rfl,k4,g4⟩
     have HK4:=hyd k4
     have HS4:=hyd (HS3.out.chg g4 (HK3.out.apartSh HS3.out))
     have HL4:=hyd (HL3.out.chg g4 (HL3.out.noCor HK3.out))
     have HG4:=hyd (HG3.out.trans g4.mvs)
     have hs4:=g4.size
     obtain⟨e4,-⟩:=HS4.out.cell 0 (by decide)
     replace e4:w4.cell? ⟨x,0,none⟩=some (.int .i64 (S.fm:Nat)):=by rw[<-HSM.out.1];exact e4
     clear her k4 g4 e0
     by_cases h0:E.2=0
     ·
      have HE9:=HE8.out
      rw[if_pos h0] at HE9
      have HEA:=hyd HE9
      have hcm:=commit_k A w4 E.1 HK4.out x n X.2.1 v3 HS4.out HL4.out HOK3.out HTG.out (Nat.le_trans HLN.out (by decide)) 0
      replace qe:∀ w,(binOp .eql 33 (errV E.2) .nilIface).run Tryz.prog w=.ok (.bool true) w:=fun w=>by rw[qe,decide_eq_true h0]
      clear HE8 HE9 h0
      go_wp2_with fail
      refine hcm.mono ?_
      rintro e w5 ⟨rfl,k5,g5⟩
      have HK5:=hyd k5
      have HS5:=hyd (HS4.out.chg g5 (HK4.out.apartSh HS4.out))
      have HG5:=hyd (HG4.out.trans g5.mvs)
      clear hcm k5 g5
      go_wp2
      go_ret
      rw[<-HEA.out]
      exact⟨v3,rfl,HK5.out,HS5.out,HOK3.out,⟨HSM.out.1,HSM.out.2.1⟩,HG5.out⟩
     ·
      have HE9:=HE8.out
      rw[if_neg h0] at HE9
      replace qe:∀ w,(binOp .eql 33 (errV E.2) .nilIface).run Tryz.prog w=.ok (.bool false) w:=fun w=>by rw[qe,decide_eq_false h0]
      have his:=is_v E.2 8 (by decide) w4
      by_cases h8:E.2=8
      ·
       rw[if_neg (by rw[h8];simp)] at HE9
       rw[decide_eq_true h8] at his
       have HEA:=hyd HE9
       have S5:=HS4.out.setFd true
       obtain⟨d2,f2⟩:=HS4.out.cell 2 (by decide)
       have G5:Chg (·=x) w4 (w4.setCell ⟨x,2,none⟩ (.bool true)):=(Chg.refl (·=x) w4).setCell (Or.inl rfl) _ _
       have K5:=HK4.out.offSh HS4.out G5
       have L5:=HL4.out.chg G5 (HL4.out.noSh HS4.out)
       obtain⟨e5,-⟩:=S5.cell 0 (by decide)
       replace e5:(w4.setCell ⟨x,2,none⟩ (.bool true)).cell? ⟨x,0,none⟩=some (.int .i64 (S.fm:Nat)):=by rw[<-HSM.out.1];exact e5
       have hlv:=leave_k A _ E.1 K5 (S.fm:Nat)
       have HK5:=hyd K5
       have HS5:=hyd S5
       have HL5:=hyd L5
       have HG5:=hyd (HG4.out.trans (G5.mvx (A:=A)))
       have hs5:=G5.size
       clear HE8 HE9 h0 h8 S5 K5 L5 G5
       go_wp2_with (go_at_call 46;refine his.mono ?_;rintro e w9 ⟨rfl,rfl⟩)
       refine hlv.mono ?_
       rintro e w6 ⟨rfl,k6,g6⟩
       generalize lvK E.1 S.fm=K6 at *
       have hb6:=bears_k A w6 K6 k6
       have HK6:=hyd k6
       have HS6:=hyd (HS5.out.chg g6 (HK5.out.apartSh HS5.out))
       have HL6:=hyd (HL5.out.chg g6 (HL5.out.noCor HK5.out))
       have HG6:=hyd (HG5.out.trans g6.mvs)
       have hs6:=g6.size
       clear hlv k6 g6 his e5 d2 f2 e4
       cases hbb:bearK K6
       ·
        rw[hbb] at hb6
        have HEB:=HEA.out
        rw[if_pos hbb] at HEB
        have HEC:=hyd HEB
        clear HEA HEB hbb
        go_wp2_with (go_at_call 188;refine hb6.mono ?_;rintro e w9 ⟨rfl,rfl⟩)
        go_ret
        rw[<-HEC.out]
        exact⟨v3,rfl,HK6.out,HS6.out,HOK3.out,⟨HSM.out.1,HSM.out.2.1⟩,HG6.out⟩
       ·
        rw[hbb] at hb6
        have HEB:=HEA.out
        rw[if_neg (by rw[hbb];simp)] at HEB
        have hcb:=commitBad_k A w6 K6 HK6.out x n { X.2.1 with fd:=true } v3 HS6.out HL6.out (by omega) HOK3.out (by show X.2.1.fm<12;rw[HSM.out.1];exact HFM.out) HTG.out (Nat.le_trans HLN.out (by decide)) Z HEB
        clear HEA HEB hbb
        go_wp2_with (go_at_call 188;refine hb6.mono ?_;rintro e w9 ⟨rfl,rfl⟩)
        refine hcb.mono ?_
        rintro e w7 ⟨v7,rfl,k7,s7,l7,ok7,sm7,g7⟩
        have HK7:=hyd k7
        have HS7:=hyd s7
        have HOK7:=hyd ok7
        have HSM7:=hyd sm7
        have HG7:=hyd (HG6.out.trans' g7 (fun k hk e=>e.elim id (fun e=>by omega)))
        clear hcb k7 s7 l7 ok7 sm7 g7
        go_wp2
        go_ret
        exact⟨v7,rfl,HK7.out,HS7.out,HOK7.out,⟨HSM7.out.1.trans HSM.out.1,HSM7.out.2.1.trans HSM.out.2.1⟩,HG7.out⟩
      ·
       rw[if_pos h8] at HE9
       rw[decide_eq_false h8] at his
       have HEA:=hyd HE9
       clear HE8 HE9 h0 h8
       go_wp2_with (go_at_call 46;refine his.mono ?_;rintro e w9 ⟨rfl,rfl⟩)
       go_ret
       rw[<-HEA.out]
       exact⟨v3,rfl,HK4.out,HS4.out,HOK3.out,⟨HSM.out.1,HSM.out.2.1⟩,HG4.out⟩
    ·
     replace q:∀ w,(binOp .neq 33 (errV X.2.2) .nilIface).run Tryz.prog w=.ok (.bool true) w:=fun w=>by rw[q,decide_eq_false hx];rfl
     have HE5:=HE4.out
     rw[if_pos hx] at HE5
     have HE6:=hyd HE5
     clear hx HE5 HE4
     go_wp2
     go_ret
     rw[<-HE6.out]
     exact⟨v3,rfl,HK3.out,HS3.out,HOK3.out,⟨HSM.out.1,HSM.out.2.1⟩,HG3.out⟩
   ·
    rw[hbk] at hbe
    have HE3:Hid (ty2 true K { S with tt:=noF,ld:=[] }=Z):=(tyK_go (fun e=>by rw[hfd] at e;cases e.1) (by rw[hfd,hrt,hbk];rfl)).symm.trans HE.out
    clear HE hfd hrt hbk
    obtain⟨X,HX⟩:∃ X,Hid (cpK true ((Pmap.ofL K.L ({ S with tt:=noF,ld:=[] }:Shf).fm).map Int.toNat) K { S with tt:=noF,ld:=[] }=X):=⟨_,rfl⟩
    have hcp:=copy_k A _ K HK2.out x _ HS2.out Okf.noF HFM.out rfl true X HX.out
    have HE4:=hyd ((ty2_bad HX.out).symm.trans HE3.out)
    clear HE3 HX
    go_wp2_with (go_at_call 188;refine hbe.mono ?_;rintro e w9 ⟨rfl,rfl⟩)
    refine hcp.mono ?_
    rintro e w3 ⟨v3,rfl,k3,s3,l3,ok3,sm3,tg3,ln3,kp3,g3⟩
    have HK3:=hyd k3
    have HS3:=hyd s3
    have HL3:=hyd l3
    have HOK3:=hyd ok3
    have HSM:Hid (X.2.1.fm=S.fm/\X.2.1.rt=S.rt/\X.2.1.fd=S.fd):=sm3
    have HTG:=hyd tg3
    have HLN:=hyd ln3
    have HG3:=hyd ((HG2.out.mvx (A:=A)).trans g3)
    have hs3:=g3.size
    have hs2:=HSZ.out
    obtain⟨e0,-⟩:=s3.cell 0 (by decide)
    replace e0:w3.cell? ⟨x,0,none⟩=some (.int .i64 (S.fm:Nat)):=by rw[<-sm3.1];exact e0
    clear hcp k3 s3 l3 ok3 sm3 tg3 ln3 kp3 g3 d1 d2 d6 f6
    by_cases hx:X.2.2=0
    ·
     have HE5:=HE4.out
     rw[if_neg (by rw[hx];simp)] at HE5
     have HE6:=hyd HE5
     rw[hx]
     clear hx HE5 HE4
     obtain⟨n,hn⟩:∃ n,n=(w1.setCell ⟨x,6,none⟩ (.slice none 0 0)).heap.size:=⟨_,rfl⟩
     rw[<-hn] at HL3 hs3 hs2
     have hcb:=commitBad_k A w3 X.1 HK3.out x n X.2.1 v3 HS3.out HL3.out hs3 HOK3.out (by rw[HSM.out.1];exact HFM.out) HTG.out (Nat.le_trans HLN.out (by decide)) Z HE6.out
     clear hn e0
     go_wp2_with fail
     refine hcb.mono ?_
     rintro e w4 ⟨v4,rfl,k4,s4,l4,ok4,sm4,g4⟩
     have HK4:=hyd k4
     have HS4:=hyd s4
     have HOK4:=hyd ok4
     have HSM4:=hyd sm4
     have HG4:=hyd ((HG3.out).trans' g4 (fun k hk e=>e.elim id (fun e=>by omega)))
     clear hcb k4 s4 l4 ok4 sm4 g4
     go_wp2
     go_ret
     exact⟨v4,rfl,HK4.out,HS4.out,HOK4.out,⟨HSM4.out.1.trans HSM.out.1,HSM4.out.2.1.trans HSM.out.2.1⟩,HG4.out⟩
    ·
     replace q:∀ w,(binOp .neq 33 (errV X.2.2) .nilIface).run Tryz.prog w=.ok (.bool true) w:=fun w=>by rw[q,decide_eq_false hx];rfl
     have HE5:=HE4.out
     rw[if_pos hx] at HE5
     have HE6:=hyd HE5
     clear hx HE5 HE4
     go_wp2
     go_ret
     rw[<-HE6.out]
     exact⟨v3,rfl,HK3.out,HS3.out,HOK3.out,⟨HSM.out.1,HSM.out.2.1⟩,HG3.out⟩
 ·
  rw[hfd] at d2
  cases hbk:bearK K
  ·
   rw[hbk] at hbe
   have HE3:=hyd ((tyK_dead hfd hbk).symm.trans HE.out)
   clear HE hfd hbk
   go_wp2_with (go_at_call 188;refine hbe.mono ?_;rintro e w9 ⟨rfl,rfl⟩)
   go_ret
   rw[<-HE3.out]
   exact⟨_,rfl,HK2.out,HS2.out,Okf.noF,⟨rfl,rfl⟩,HG2.out.mvx⟩
  ·
   rw[hbk] at hbe
   have HE3:Hid (ty2 true K { S with tt:=noF,ld:=[] }=Z):=(tyK_go (fun e=>by rw[hbk] at e;cases e.2) (by rw[hfd];rfl)).symm.trans HE.out
   clear HE hfd hbk
   obtain⟨X,HX⟩:∃ X,Hid (cpK true ((Pmap.ofL K.L ({ S with tt:=noF,ld:=[] }:Shf).fm).map Int.toNat) K { S with tt:=noF,ld:=[] }=X):=⟨_,rfl⟩
   have hcp:=copy_k A _ K HK2.out x _ HS2.out Okf.noF HFM.out rfl true X HX.out
   have HE4:=hyd ((ty2_bad HX.out).symm.trans HE3.out)
   clear HE3 HX
   go_wp2_with (go_at_call 188;refine hbe.mono ?_;rintro e w9 ⟨rfl,rfl⟩)
   refine hcp.mono ?_
   rintro e w3 ⟨v3,rfl,k3,s3,l3,ok3,sm3,tg3,ln3,kp3,g3⟩
   have HK3:=hyd k3
   have HS3:=hyd s3
   have HL3:=hyd l3
   have HOK3:=hyd ok3
   have HSM:Hid (X.2.1.fm=S.fm/\X.2.1.rt=S.rt/\X.2.1.fd=S.fd):=sm3
   have HTG:=hyd tg3
   have HLN:=hyd ln3
   have HG3:=hyd ((HG2.out.mvx (A:=A)).trans g3)
   have hs3:=g3.size
   have hs2:=HSZ.out
   obtain⟨e0,-⟩:=s3.cell 0 (by decide)
   replace e0:w3.cell? ⟨x,0,none⟩=some (.int .i64 (S.fm:Nat)):=by rw[<-sm3.1];exact e0
   clear hcp k3 s3 l3 ok3 sm3 tg3 ln3 kp3 g3 d1 d2 d6 f6
   by_cases hx:X.2.2=0
   ·
    have HE5:=HE4.out
    rw[if_neg (by rw[hx];simp)] at HE5
    have HE6:=hyd HE5
    rw[hx]
    clear hx HE5 HE4
    obtain⟨n,hn⟩:∃ n,n=(w1.setCell ⟨x,6,none⟩ (.slice none 0 0)).heap.size:=⟨_,rfl⟩
    rw[<-hn] at HL3 hs3 hs2
    have hcb:=commitBad_k A w3 X.1 HK3.out x n X.2.1 v3 HS3.out HL3.out hs3 HOK3.out (by rw[HSM.out.1];exact HFM.out) HTG.out (Nat.le_trans HLN.out (by decide)) Z HE6.out
    clear hn e0
    go_wp2_with fail
    refine hcb.mono ?_
    rintro e w4 ⟨v4,rfl,k4,s4,l4,ok4,sm4,g4⟩
    have HK4:=hyd k4
    have HS4:=hyd s4
    have HOK4:=hyd ok4
    have HSM4:=hyd sm4
    have HG4:=hyd ((HG3.out).trans' g4 (fun k hk e=>e.elim id (fun e=>by omega)))
    clear hcb k4 s4 l4 ok4 sm4 g4
    go_wp2
    go_ret
    exact⟨v4,rfl,HK4.out,HS4.out,HOK4.out,⟨HSM4.out.1.trans HSM.out.1,HSM4.out.2.1.trans HSM.out.2.1⟩,HG4.out⟩
   ·
    replace q:∀ w,(binOp .neq 33 (errV X.2.2) .nilIface).run Tryz.prog w=.ok (.bool true) w:=fun w=>by rw[q,decide_eq_false hx];rfl
    have HE5:=HE4.out
    rw[if_pos hx] at HE5
    have HE6:=hyd HE5
    clear hx HE5 HE4
    go_wp2
    go_ret
    rw[<-HE6.out]
    exact⟨v3,rfl,HK3.out,HS3.out,HOK3.out,⟨HSM.out.1,HSM.out.2.1⟩,HG3.out⟩
end Go.Proofs.YtbhbilcieodbhaaGreat
/-
  The tries of a move, and a move. Condition: core and move lie in memory; tell does as te says.
-/
namespace Go.Proofs.YtbhbilcieodbhaaGreat
set_option maxRecDepth 100000
open Go.RowKit
def TelC (A:Ad) (te:Tel):Prop:=∀ w K Z,CoreAt A w K->te K=some Z->Calls Tryz.prog 161 #[.pointer (some ⟨A.c,0,none⟩)] w fun e w'=>e=.returned (errV Z.2)/\CoreAt A w' Z.1/\Chg (Cor A) w w'
theorem trK_succ (te:Tel) (n:Nat) (K:Kor) (S:Shf):trK te (n+1) K S=if isbK K S.fm=true then some (K,S,0) else if (tyK K S).2.2≠8 then some (tyK K S) else match te (spK (tyK K S).1 (Front.blV (tyK K S).2.1.tt)) with
 | none=>none
 | some y=>if y.2≠0 then some (y.1,(tyK K S).2.1,y.2) else trK te n y.1 (tyK K S).2.1:=by
 rw[trK]
 dsimp only
 generalize tyK K S=X
 generalize te (spK X.1 (Front.blV X.2.1.tt))=Y
 cases Y <;> rfl
theorem trK_zero (te:Tel) (K:Kor) (S:Shf):trK te 0 K S=none:=rfl
structure Tre (A:Ad) (te:Tel) (x:Nat) (S:Shf) (Z:Kor × Shf × Nat) (w wr:World) (k:Nat) (Ki:Kor) (Si:Shf) (v:Value):Prop where
 eq:trK te k Ki Si=some Z
 core:CoreAt A wr Ki
 sh:ShAt wr x Si v
 sm:Si.fm=S.fm/\Si.rt=S.rt
 chg:Chg (Mvs A x) w wr
def TrP (A:Ad) (x:Nat) (S:Shf) (w:World) (Z:Kor × Shf × Nat) (e:Ending) (w':World):Prop:=∃ v,e=.returned (errV Z.2.2)/\CoreAt A w' Z.1/\ShAt w' x Z.2.1 v/\(Z.2.1.fm=S.fm/\Z.2.1.rt=S.rt)/\Chg (Mvs A x) w w'
set_option maxHeartbeats 2000000 in
theorem tries_k (A:Ad) (te:Tel) (hte:TelC A te) (w:World) (K:Kor) (h:CoreAt A w K) (x:Nat) (S:Shf) (v:Value) (hS:ShAt w x S v) (hfm:S.fm<12) (n:Nat) (Z:Kor × Shf × Nat) (hZ:trK te n K S=some Z) :
 Calls Tryz.prog 125 #[.pointer (some ⟨A.c,0,none⟩),.pointer (some ⟨x,0,none⟩)] w fun e w'=>TrP A x S w Z e w':=by
 have HS:=hyd hS
 have HK:=hyd h
 have HFM:=hyd hfm
 have HTE:=hyd hte
 have HZ:=hyd hZ
 have q:=neq_er
 have g:=guard_neq
 clear h hS hfm hZ hte
 go_enter Tryz.func125,Tryz.ntmps125
 go_wp2_with fail
 go_loopg [4] n (fun kx s4 wr=>∃ k Ki Si v,k<=kx/\Hid (Tre A te x S Z w wr k Ki Si v))
 case atStart=>exact⟨n,K,S,v,Nat.le_refl _,⟨HZ.out,HK.out,HS.out,⟨rfl,rfl⟩,Chg.refl _ _⟩⟩
 case round=>
  obtain⟨k,Ki,Si,vi,hk,HI⟩:=hrel
  obtain _ | k:=k
  ·
   exact absurd HI.out.eq (by rw[trK_zero];exact fun e=>by cases e)
  obtain⟨d0,-⟩:=HI.out.sh.cell 0 (by decide)
  replace d0:wr.cell? ⟨x,0,none⟩=some (.int .i64 (Si.fm:Nat)):=d0
  have hbk:=bad_k A wr Ki HI.out.core (Si.fm:Nat)
  have HE:=HI.out.eq
  rw[trK_succ] at HE
  cases hb:isbK Ki Si.fm
  ·
   rw[hb] at hbk
   rw[if_neg (by rw[hb];simp)] at HE
   obtain⟨X,HX⟩:∃ X,Hid (tyK Ki Si=X):=⟨_,rfl⟩
   rw[HX.out] at HE
   have hty:=try_k A wr Ki HI.out.core x Si vi HI.out.sh (by rw[HI.out.sm.1];exact HFM.out) X HX.out
   have HE2:=hyd HE
   clear hb HE HX
   go_wp2_with (go_at_call 159;refine hbk.mono ?_;rintro e w9 ⟨rfl,rfl⟩)
   refine hty.mono ?_
   rintro e w2 ⟨v2,rfl,k2,s2,ok2,sm2,g2⟩
   have HK2:=hyd k2
   have HS2:=hyd s2
   have HSM2:Hid (X.2.1.fm=S.fm/\X.2.1.rt=S.rt):=⟨sm2.1.trans HI.out.sm.1,sm2.2.trans HI.out.sm.2⟩
   have HG2:=hyd (HI.out.chg.trans g2)
   have his:=is_v X.2.2 8 (by decide) w2
   have hbl:=Front.block_any w2 x 163 7 _ 3 X.2.1.tt s2.front
   clear hty k2 s2 ok2 sm2 g2 d0 hbk
   by_cases h8:X.2.2=8
   ·
    rw[decide_eq_true h8] at his
    have HE3:=HE2.out
    rw[if_neg (by rw[h8];simp)] at HE3
    have hsp:=spoil_k A w2 X.1 HK2.out (Front.blV X.2.1.tt)
    cases hy:te (spK X.1 (Front.blV X.2.1.tt)) with
    | none=>rw[hy] at HE3;cases HE3
    | some y=>
     rw[hy] at HE3
     have HY:=hyd hy
     have HE4:Hid ((if y.2≠0 then some (y.1,X.2.1,y.2) else trK te k y.1 X.2.1)=some Z):=HE3
     clear h8 hy HE3 HE2
     go_wp2_with (first | (go_at_call 46;refine his.mono ?_;rintro e w9 ⟨rfl,rfl⟩) | (go_at_call 85;refine hbl.mono ?_;rintro e w9 ⟨rfl,rfl⟩))
     refine hsp.mono ?_
     rintro e w3 ⟨rfl,k3,g3⟩
     have htl:=HTE.out w3 _ y k3 HY.out
     have HK3:=hyd k3
     have HS3:=hyd (HS2.out.chg g3 (HK2.out.apartSh HS2.out))
     have HG3:=hyd (HG2.out.trans g3.mvs)
     clear hsp k3 g3 his hbl HY
     go_wp2_with fail
     refine htl.mono ?_
     rintro e w4 ⟨rfl,k4,g4⟩
     have HK4:=hyd k4
     have HS4:=hyd (HS3.out.chg g4 (HK3.out.apartSh HS3.out))
     have HG4:=hyd (HG3.out.trans g4.mvs)
     clear htl k4 g4
     by_cases h0:y.2=0
     ·
      have HE5:=HE4.out
      rw[if_neg (by rw[h0];simp)] at HE5
      have HI2:Hid (Tre A te x S Z w w4 k y.1 X.2.1 v2):=⟨HE5,HK4.out,HS4.out,HSM2.out,HG4.out⟩
      rw[h0]
      clear h0 HE5 HE4
      go_wp2
      go_roundg k
      case measure=>omega
      case rel=>exact⟨k,y.1,X.2.1,v2,Nat.le_refl _,HI2.out⟩
     ·
      replace q:∀ w,(binOp .neq 33 (errV y.2) .nilIface).run Tryz.prog w=.ok (.bool true) w:=fun w=>by rw[q,decide_eq_false h0];rfl
      have HE5:=HE4.out
      rw[if_pos h0] at HE5
      have HE6:Hid ((y.1,X.2.1,y.2)=Z):=Option.some.inj HE5
      clear h0 HE5 HE4
      go_wp2
      go_ret
      rw[<-HE6.out]
      exact⟨v2,rfl,HK4.out,HS4.out,HSM2.out,HG4.out⟩
   ·
    rw[decide_eq_false h8] at his
    have HE3:=HE2.out
    rw[if_pos h8] at HE3
    have HE4:Hid (X=Z):=Option.some.inj HE3
    clear h8 HE3 HE2
    go_wp2_with (go_at_call 46;refine his.mono ?_;rintro e w9 ⟨rfl,rfl⟩)
    go_ret
    rw[<-HE4.out]
    exact⟨v2,rfl,HK2.out,HS2.out,HSM2.out,HG2.out⟩
  ·
   rw[hb] at hbk
   rw[if_pos hb] at HE
   have HE4:Hid ((Ki,Si,0)=Z):=Option.some.inj HE
   clear hb HE
   go_wp2_with (go_at_call 159;refine hbk.mono ?_;rintro e w9 ⟨rfl,rfl⟩)
   go_ret
   rw[<-HE4.out]
   exact⟨vi,rfl,HI.out.core,HI.out.sh,HI.out.sm,HI.out.chg⟩
theorem moK_eq (te:Tel) (n:Nat) (K:Kor) (S:Shf) (Z:Kor × Shf × Nat) (h:moK te n K S=some Z):∃ X,trK te n (if S.fd then lvK K S.fm else K) S=some X/\(if X.2.1.fd=true/\X.2.2=14 then ({ spK X.1 X.2.1.fm with dd:=true },X.2.1,X.2.2) else X)=Z:=by
 unfold moK at h
 generalize trK te n (if S.fd then lvK K S.fm else K) S=Y at h
 cases Y with
 | none=>cases h
 | some X=>
  refine⟨X,rfl,?_⟩
  dsimp only at h
  by_cases c:X.2.1.fd=true/\X.2.2=14
  ·
   rw[if_pos c] at h ⊢
   exact Option.some.inj h
  ·
   rw[if_neg c] at h ⊢
   exact Option.some.inj h
set_option maxHeartbeats 2000000 in
theorem move_k (A:Ad) (te:Tel) (hte:TelC A te) (w:World) (K:Kor) (h:CoreAt A w K) (x:Nat) (S:Shf) (v:Value) (hS:ShAt w x S v) (hfm:S.fm<12) (n:Nat) (Z:Kor × Shf × Nat) (hZ:moK te n K S=some Z) :
 Calls Tryz.prog 84 #[.pointer (some ⟨A.c,0,none⟩),.pointer (some ⟨x,0,none⟩)] w fun e w'=>TrP A x S w Z e w':=by
 obtain⟨X,hX,hE⟩:=moK_eq te n K S Z hZ
 obtain⟨d2,-⟩:=hS.cell 2 (by decide)
 obtain⟨d0,-⟩:=hS.cell 0 (by decide)
 replace d2:w.cell? ⟨x,2,none⟩=some (.bool S.fd):=d2
 replace d0:w.cell? ⟨x,0,none⟩=some (.int .i64 (S.fm:Nat)):=d0
 have HS:=hyd hS
 have HK:=hyd h
 have HFM:=hyd hfm
 have HTE:=hyd hte
 have HE:=hyd hE
 have hlv:=leave_k A w K h (S.fm:Nat)
 clear hZ hE
 cases hfd:S.fd
 ·
  rw[hfd] at d2
  have HX:Hid (trK te n K S=some X):=by
   have e:=hX
   rw[hfd] at e
   exact e
  have htr:=tries_k A te HTE.out w K HK.out x S v HS.out HFM.out n X HX.out
  clear h hS hfm hte hX hfd hlv
  go_enter Tryz.func84,Tryz.ntmps84
  go_wp2_with fail
  refine htr.mono ?_
  rintro e w2 ⟨v2,rfl,k2,s2,sm2,g2⟩
  have HK2:=hyd k2
  have HS2:=hyd s2
  have HSM:=hyd sm2
  have HG2:=hyd g2
  obtain⟨e2,-⟩:=s2.cell 2 (by decide)
  obtain⟨e0,-⟩:=s2.cell 0 (by decide)
  replace e2:w2.cell? ⟨x,2,none⟩=some (.bool X.2.1.fd):=e2
  replace e0:w2.cell? ⟨x,0,none⟩=some (.int .i64 (X.2.1.fm:Nat)):=e0
  have his:=is_v X.2.2 14 (by decide) w2
  have hsp:=spoil_k A w2 X.1 k2 (X.2.1.fm:Nat)
  clear htr k2 s2 sm2 g2
  cases hf:X.2.1.fd
  ·
   rw[hf] at e2
   have HE2:=HE.out
   rw[if_neg (by rw[hf];simp)] at HE2
   have HE3:=hyd HE2
   clear HE HE2 hf
   go_wp2
   go_ret
   rw[<-HE3.out]
   exact⟨v2,rfl,HK2.out,HS2.out,HSM.out,HG2.out⟩
  ·
   rw[hf] at e2
   by_cases h14:X.2.2=14
   ·
    rw[decide_eq_true h14] at his
    have HE2:=HE.out
    rw[if_pos ⟨hf,h14⟩] at HE2
    have HE3:=hyd HE2
    clear HE HE2 hf h14
    go_wp2_with (go_at_call 46;refine his.mono ?_;rintro e w9 ⟨rfl,rfl⟩)
    refine hsp.mono ?_
    rintro e w3 ⟨rfl,k3,g3⟩
    generalize spK X.1 X.2.1.fm=K3 at *
    obtain⟨c97,f97⟩:=k3.cDd
    have HK4:=hyd (k3.setDd true)
    have G4:Chg (·=A.c) w3 (w3.setCell ⟨A.c,97,none⟩ (.bool true)):=(Chg.refl (·=A.c) w3).setCell (Or.inl rfl) _ _
    have G34:=g3.trans (Chg.cor_c (A:=A) G4)
    have HS4:=hyd (HS2.out.chg G34 (HK2.out.apartSh HS2.out))
    have HG4:=hyd (HG2.out.trans G34.mvs)
    clear hsp k3 g3 G4 G34 e0 e2 his
    go_wp2
    go_ret
    rw[<-HE3.out]
    exact⟨v2,rfl,HK4.out,HS4.out,HSM.out,HG4.out⟩
   ·
    rw[decide_eq_false h14] at his
    have HE2:=HE.out
    rw[if_neg (fun e=>h14 e.2)] at HE2
    have HE3:=hyd HE2
    clear HE HE2 hf h14
    go_wp2_with (go_at_call 46;refine his.mono ?_;rintro e w9 ⟨rfl,rfl⟩)
    go_ret
    rw[<-HE3.out]
    exact⟨v2,rfl,HK2.out,HS2.out,HSM.out,HG2.out⟩
 ·
  rw[hfd] at d2
  have HX:Hid (trK te n (lvK K S.fm) S=some X):=by
   have e:=hX
   rw[hfd] at e
   exact e
  have HNX:=hyd (h.apartSh hS)
  clear h hS hfm hte hX hfd
  go_enter Tryz.func84,Tryz.ntmps84
  go_wp2_with fail
  refine hlv.mono ?_
  rintro e w1 ⟨rfl,k1,g1⟩
  have S1:=HS.out.chg g1 HNX.out
  have htr:=tries_k A te HTE.out w1 _ k1 x S v S1 HFM.out n X HX.out
  have HG1:=hyd g1
  clear hlv k1 g1 S1 d0 d2
  go_wp2_with fail
  refine htr.mono ?_
  rintro e w2 ⟨v2,rfl,k2,s2,sm2,g2⟩
  have HK2:=hyd k2
  have HS2:=hyd s2
  have HSM:=hyd sm2
  have HG2:=hyd (HG1.out.mvs.trans g2)
  obtain⟨e2,-⟩:=s2.cell 2 (by decide)
  obtain⟨e0,-⟩:=s2.cell 0 (by decide)
  replace e2:w2.cell? ⟨x,2,none⟩=some (.bool X.2.1.fd):=e2
  replace e0:w2.cell? ⟨x,0,none⟩=some (.int .i64 (X.2.1.fm:Nat)):=e0
  have his:=is_v X.2.2 14 (by decide) w2
  have hsp:=spoil_k A w2 X.1 k2 (X.2.1.fm:Nat)
  clear htr k2 s2 sm2 g2
  cases hf:X.2.1.fd
  ·
   rw[hf] at e2
   have HE2:=HE.out
   rw[if_neg (by rw[hf];simp)] at HE2
   have HE3:=hyd HE2
   clear HE HE2 hf
   go_wp2
   go_ret
   rw[<-HE3.out]
   exact⟨v2,rfl,HK2.out,HS2.out,HSM.out,HG2.out⟩
  ·
   rw[hf] at e2
   by_cases h14:X.2.2=14
   ·
    rw[decide_eq_true h14] at his
    have HE2:=HE.out
    rw[if_pos ⟨hf,h14⟩] at HE2
    have HE3:=hyd HE2
    clear HE HE2 hf h14
    go_wp2_with (go_at_call 46;refine his.mono ?_;rintro e w9 ⟨rfl,rfl⟩)
    refine hsp.mono ?_
    rintro e w3 ⟨rfl,k3,g3⟩
    generalize spK X.1 X.2.1.fm=K3 at *
    obtain⟨c97,f97⟩:=k3.cDd
    have HK4:=hyd (k3.setDd true)
    have G4:Chg (·=A.c) w3 (w3.setCell ⟨A.c,97,none⟩ (.bool true)):=(Chg.refl (·=A.c) w3).setCell (Or.inl rfl) _ _
    have G34:=g3.trans (Chg.cor_c (A:=A) G4)
    have HS4:=hyd (HS2.out.chg G34 (HK2.out.apartSh HS2.out))
    have HG4:=hyd (HG2.out.trans G34.mvs)
    clear hsp k3 g3 G4 G34 e0 e2 his
    go_wp2
    go_ret
    rw[<-HE3.out]
    exact⟨v2,rfl,HK4.out,HS4.out,HSM.out,HG4.out⟩
   ·
    rw[decide_eq_false h14] at his
    have HE2:=HE.out
    rw[if_neg (fun e=>h14 e.2)] at HE2
    have HE3:=hyd HE2
    clear HE HE2 hf h14
    go_wp2_with (go_at_call 46;refine his.mono ?_;rintro e w9 ⟨rfl,rfl⟩)
    go_ret
    rw[<-HE3.out]
    exact⟨v2,rfl,HK2.out,HS2.out,HSM.out,HG2.out⟩
end Go.Proofs.YtbhbilcieodbhaaGreat
/-
  A checkpoint is written (Note), also between two tries of a move (tell). Condition: the core lies in memory; anew does as anR says, with so many rounds.
-/
namespace Go.Proofs.YtbhbilcieodbhaaGreat
set_option maxRecDepth 100000
open Go.RowKit
def AnC (A:Ad) (n:Nat):Prop:=∀ w0 f cp H,Hold A w0 f cp H->∀ w K (o:Nat) Z,CoreAt A w K->Chg (Cor A) w0 w->o<25->anR n H K o=some Z ->
 Calls Tryz.prog 49 #[.pointer (some ⟨A.c,0,none⟩),.int .i64 (o:Nat),.func (.func f) #[] cp] w fun e w'=>e=.returned (errV Z.2)/\CoreAt A w' Z.1/\Chg (Cor A) w w'
theorem note_k (A:Ad) (n:Nat) (hA:AnC A n) (w:World) (K:Kor) (h:CoreAt A w K) (Z:Kor × Nat) (hZ:anR n noH K 24=some Z) :
 Calls Tryz.prog 78 #[.pointer (some ⟨A.c,0,none⟩)] w fun e w'=>e=.returned (errV Z.2)/\CoreAt A w' Z.1/\Chg (Cor A) w w':=by
 have htl:=telling_k w A.c 111 #[]
 have HK:=hyd h
 have HA:=hyd hA
 have HZ:=hyd hZ
 have hmf:∀ (fn:Fn) (first cap:Array Value) (w:World),(Instr.makeFunc fn first cap).run Tryz.prog w=.ok (.func fn first cap) w:=fun _ _ _ _=>rfl
 clear h hA hZ
 go_enter Tryz.func78,Tryz.ntmps78
 go_wp2_with fail
 refine htl.mono ?_
 rintro e w3 ⟨rfl,a1,a2,a3,g3⟩
 have K3:=HK.out.chg0 g3
 have hlo:=HK.out.low
 have hH:=telling_hold A w3 111 #[] _ (more_none A w3) w.heap.size (w.heap.size+1) a1 a2 (fun e=>by have:=hlo _ (Or.inl e);omega) (fun e=>by have:=hlo _ (Or.inl e);omega) (by omega) (by omega) none_okc
 have han:=HA.out w3 94 #[.pointer (some ⟨w.heap.size,0,none⟩),.pointer (some ⟨w.heap.size+1,0,none⟩)] noH hH w3 K 24 Z K3 (Chg.refl _ _) (by decide) HZ.out
 replace han:Calls Tryz.prog 49 #[.pointer (some ⟨A.c,0,none⟩),.int .i64 24,.func (.func 94) #[] #[.pointer (some ⟨w.heap.size,0,none⟩),.pointer (some ⟨w.heap.size+1,0,none⟩)]] w3 fun e w'=>e=.returned (errV Z.2)/\CoreAt A w' Z.1/\Chg (Cor A) w3 w':=han
 have HG3:=hyd (Chg.cor0 (A:=A) g3)
 clear htl a1 a2 a3 g3 K3 hlo hH
 go_wp2_with fail
 refine han.mono ?_
 rintro e w4 ⟨rfl,k4,g4⟩
 have HK4:=hyd k4
 have HG4:=hyd (HG3.out.trans g4)
 clear han k4 g4
 go_wp2
 go_ret
 exact⟨rfl,HK4.out,HG4.out⟩
set_option maxHeartbeats 1000000 in
theorem tell_k (A:Ad) (n:Nat) (hA:AnC A n):TelC A (telR n):=by
 intro w K Z h hZ
 have hno:=fun w K Z h hZ=>note_k A n hA w K h Z hZ
 have HNO:Hid (∀ w K Z,CoreAt A w K->anR n noH K 24=some Z->Calls Tryz.prog 78 #[.pointer (some ⟨A.c,0,none⟩)] w fun e w'=>e=.returned (errV Z.2)/\CoreAt A w' Z.1/\Chg (Cor A) w w'):=hno
 have hw:=worn_k A w K h
 obtain⟨c78,-⟩:=h.cSp
 obtain⟨f,hf,-⟩:=QB.front h.core
 have hrm:=Front.room_v w A.c 124 101 f 79 K.fr hf h.wf.fr 24
 have hcl:=close_k A w K h
 have q:=neq_er
 have g:=guard_neq
 have HK:=hyd h
 have HZ:Hid (teK (fun K=>anR n noH K 24) K=some Z):=hZ
 have HZ2:=HZ.out
 unfold teK at HZ2
 clear h hf hZ hA hno
 cases hwn:wornK K
 ·
  rw[hwn] at hw
  cases hsp:K.sp
  ·
   rw[hsp] at c78
   rw[if_neg (by rw[hwn,hsp];simp)] at HZ2
   cases hr:Front.rmV K.fr 24
   ·
    rw[hr] at hrm
    rw[if_neg (by rw[hr];simp)] at HZ2
    have HZ3:=hyd HZ2
    clear HZ HZ2 hwn hsp hr
    go_enter Tryz.func161,Tryz.ntmps161
    go_wp2_with (first | (go_at_call 79;refine hw.mono ?_;rintro e w ⟨rfl,rfl⟩))
    refine hrm.mono ?_
    rintro e w1 ⟨rfl,m,rfl⟩
    have hcl2:=close_k A _ K (HK.out.drewN m)
    have HG0:Hid (Chg (Cor A) w (w.drewN m)):=(Chg.refl _ w).drewN m
    clear hrm hcl hw c78 HK
    generalize w.drewN m=w1 at *
    go_wp2_with fail
    refine hcl2.mono ?_
    rintro e w2 ⟨rfl,k2,g2⟩
    generalize clK K=K2 at *
    have hop:=open_k A w2 K2 k2
    have HG2:=hyd (HG0.out.trans g2)
    clear hcl2 k2 g2 HG0
    go_wp2_with fail
    refine hop.mono ?_
    rintro e w3 ⟨rfl,k3,g3⟩
    have HK3:=hyd k3
    have HG3:=hyd (HG2.out.trans g3)
    clear hop g3 HG2
    generalize opK K2=P at *
    by_cases hp:P.2=0
    ·
     have HZ4:=HZ3.out
     rw[if_neg (by rw[hp];simp)] at HZ4
     have hn2:=HNO.out w3 P.1 Z k3 HZ4
     rw[hp]
     clear hp HZ4 HZ3 k3
     go_wp2_with fail
     refine hn2.mono ?_
     rintro e w4 ⟨rfl,k4,g4⟩
     have HK4:=hyd k4
     have HG4:=hyd (HG3.out.trans g4)
     clear hn2 k4 g4
     go_wp2
     go_ret
     exact⟨rfl,HK4.out,HG4.out⟩
    ·
     replace q:∀ w,(binOp .neq 33 (errV P.2) .nilIface).run Tryz.prog w=.ok (.bool true) w:=fun w=>by rw[q,decide_eq_false hp];rfl
     have HZ4:=HZ3.out
     rw[if_pos hp] at HZ4
     have HZ5:Hid (P=Z):=Option.some.inj HZ4
     clear hp HZ4 HZ3 k3
     go_wp2
     go_ret
     rw[<-HZ5.out]
     exact⟨rfl,HK3.out,HG3.out⟩
   ·
    rw[hr] at hrm
    rw[if_pos hr] at HZ2
    have HZ3:=hyd HZ2
    clear HZ HZ2 hwn hsp hr
    go_enter Tryz.func161,Tryz.ntmps161
    go_wp2_with (first | (go_at_call 79;refine hw.mono ?_;rintro e w ⟨rfl,rfl⟩))
    refine hrm.mono ?_
    rintro e w1 ⟨rfl,m,rfl⟩
    have hn2:=HNO.out (w.drewN m) K Z (HK.out.drewN m) HZ3.out
    have HG0:Hid (Chg (Cor A) w (w.drewN m)):=(Chg.refl _ w).drewN m
    clear hrm hcl hw c78 HK
    generalize w.drewN m=w1 at *
    go_wp2_with fail
    refine hn2.mono ?_
    rintro e w4 ⟨rfl,k4,g4⟩
    have HK4:=hyd k4
    have HG4:=hyd (HG0.out.trans g4)
    clear hn2 k4 g4
    go_wp2
    go_ret
    exact⟨rfl,HK4.out,HG4.out⟩
  ·
   rw[hsp] at c78
   rw[if_pos (Or.inr hsp)] at HZ2
   have HZ3:Hid ((K,14)=Z):=Option.some.inj HZ2
   clear HZ HZ2 hwn hsp
   go_enter Tryz.func161,Tryz.ntmps161
   go_wp2_with (go_at_call 79;refine hw.mono ?_;rintro e w ⟨rfl,rfl⟩)
   go_ret
   rw[<-HZ3.out]
   exact⟨rfl,HK.out,Chg.refl _ _⟩
 ·
  rw[hwn] at hw
  rw[if_pos (Or.inl hwn)] at HZ2
  have HZ3:Hid ((K,14)=Z):=Option.some.inj HZ2
  clear HZ HZ2 hwn
  go_enter Tryz.func161,Tryz.ntmps161
  go_wp2_with (go_at_call 79;refine hw.mono ?_;rintro e w ⟨rfl,rfl⟩)
  go_ret
  rw[<-HZ3.out]
  exact⟨rfl,HK.out,Chg.refl _ _⟩
end Go.Proofs.YtbhbilcieodbhaaGreat
/-
  Room is made in the frontier. Condition: the core lies in memory; move does as mo says.
-/
namespace Go.Proofs.YtbhbilcieodbhaaGreat
set_option maxRecDepth 100000
open Go.RowKit
def MovC (A:Ad) (mo:Mov):Prop:=∀ w K x S v Z,CoreAt A w K->ShAt w x S v->S.fm<12->mo K S=some Z->Calls Tryz.prog 84 #[.pointer (some ⟨A.c,0,none⟩),.pointer (some ⟨x,0,none⟩)] w fun e w'=>TrP A x S w Z e w'
theorem mov_k (A:Ad) (n:Nat) (hA:AnC A n):MovC A (movR n):=fun w K x S v Z h hS hf hZ=>move_k A (telR n) (tell_k A n hA) w K h x S v hS hf (n+1) Z hZ
theorem IB.lies {w:World} {b n:Nat} {t:TypeId} {F:Nat->Int} (h:IB w b t n F):Gc.Lies w (some ⟨b,0,none⟩) n F:=Or.inr ⟨b,0,rfl,h.lt,fun i hi=>by rw[Nat.zero_add];exact(h.cell i hi).1⟩
theorem build137 (w:World) (b:Int):(Instr.build 163 #[(0,.int .i64 b)]).run Tryz.prog w=.ok (.agg #[.int .i64 b,.bool false,.bool false,.bool false,.int .i64 0,.int .i64 0,.slice none 0 0]) w:=by kernel_rfl
theorem build137f (w:World) (b:Int):(Instr.build 163 #[(0,.int .i64 b),(2,.bool true)]).run Tryz.prog w=.ok (.agg #[.int .i64 b,.bool false,.bool true,.bool false,.int .i64 0,.int .i64 0,.slice none 0 0]) w:=by kernel_rfl
theorem ShAt.new (w:World) (b:Nat) (rt fd:Bool):ShAt (w.alloc (.cells #[.int .i64 (b:Nat),.bool rt,.bool fd,.bool false,.int .i64 0,.int .i64 0,.slice none 0 0] 163)) w.heap.size (nwS b rt fd) (.slice none 0 0):=by
 refine⟨_,(show (w.heap.push _)[w.heap.size]?=_ by simp;rfl),rfl,fun i hi=>?_⟩
 have:i=0\/i=1\/i=2\/i=3\/i=4\/i=5\/i=6:=by omega
 rcases this with rfl | rfl | rfl | rfl | rfl | rfl | rfl <;> rfl
theorem mrK_zero (mo:Mov) (K:Kor) (o:Nat):mrK mo 0 K o=none:=rfl
theorem mrK_succ (mo:Mov) (n:Nat) (K:Kor) (o:Nat) (Z:Kor × Nat) (h:mrK mo (n+1) K o=some Z) :
 (Front.rmV K.fr o=true/\(K,0)=Z)\/(Front.rmV K.fr o=false /\
  ((sprK (clK K)=true/\(if (opK (clK K)).2≠0 then some (opK (clK K)) else mrK mo n (opK (clK K)).1 o)=some Z) \/
   (sprK (clK K)=false/\((Gc.chC 12 12 (clK K).F (lvF (clK K))≠0/\(clK K,14)=Z) \/
    (Gc.chC 12 12 (clK K).F (lvF (clK K))=0/\∃ y,mo (clK K) (nwS (Gc.chV 12 12 (clK K).F (lvF (clK K))) false false)=some y/\(if y.2.2≠0 then some (y.1,y.2.2) else mrK mo n y.1 o)=some Z))))):=by
 rw[mrK] at h
 dsimp only at h
 cases hr:Front.rmV K.fr o
 ·
  rw[if_neg (by rw[hr];simp)] at h
  refine Or.inr ⟨rfl,?_⟩
  generalize clK K=K1 at h ⊢
  cases hs:sprK K1
  ·
   rw[if_neg (by rw[hs];simp)] at h
   refine Or.inr ⟨rfl,?_⟩
   by_cases hc:Gc.chC 12 12 K1.F (lvF K1)=0
   ·
    rw[if_neg (by rw[hc];simp)] at h
    refine Or.inr ⟨hc,?_⟩
    generalize mo K1 (nwS (Gc.chV 12 12 K1.F (lvF K1)) false false)=Y at h ⊢
    cases Y with
    | none=>cases h
    | some y=>exact⟨y,rfl,h⟩
   ·
    rw[if_pos hc] at h
    exact Or.inl ⟨hc,Option.some.inj h⟩
  ·
   rw[if_pos hs] at h
   exact Or.inl ⟨rfl,h⟩
 ·
  rw[if_pos hr] at h
  exact Or.inl ⟨rfl,Option.some.inj h⟩
structure Mri (A:Ad) (mo:Mov) (o:Nat) (Z:Kor × Nat) (w wr:World) (k:Nat) (Ki:Kor):Prop where
 eq:mrK mo k Ki o=some Z
 core:CoreAt A wr Ki
 chg:Chg (Cor A) w wr
set_option maxHeartbeats 2000000 in
theorem room_k (A:Ad) (mo:Mov) (hmo:MovC A mo) (w:World) (K:Kor) (h:CoreAt A w K) (o:Nat) (n:Nat) (Z:Kor × Nat) (hZ:mrK mo n K o=some Z) :
 Calls Tryz.prog 80 #[.pointer (some ⟨A.c,0,none⟩),.int .i64 (o:Nat)] w fun e w'=>e=.returned (errV Z.2)/\CoreAt A w' Z.1/\Chg (Cor A) w w':=by
 have HK:=hyd h
 have HMO:=hyd hmo
 have HZ:=hyd hZ
 have q:=neq_er
 have g:=guard_neq
 have hbd:=build137
 clear h hZ hmo
 go_enter Tryz.func80,Tryz.ntmps80
 go_wp2_with fail
 go_loopg [4] n (fun kx s4 wr=>∃ k Ki,k<=kx/\Hid (Mri A mo o Z w wr k Ki))
 case atStart=>exact⟨n,K,Nat.le_refl _,⟨HZ.out,HK.out,Chg.refl _ _⟩⟩
 case round=>
  obtain⟨k,Ki,hk,HI⟩:=hrel
  obtain _ | k:=k
  ·
   exact absurd HI.out.eq (by rw[mrK_zero];exact fun e=>by cases e)
  obtain⟨f,hf,-⟩:=QB.front HI.out.core.core
  have hrm:=Front.room_v wr A.c 124 101 f 79 Ki.fr hf HI.out.core.wf.fr (o:Nat)
  clear hf
  rcases mrK_succ mo k Ki o Z HI.out.eq with ⟨hr,hE⟩ | ⟨hr,hE⟩
  ·
   rw[hr] at hrm
   have HE:=hyd hE
   clear hE hr
   go_wp2_with fail
   refine hrm.mono ?_
   rintro e w1 ⟨rfl,m,rfl⟩
   have HK1:=hyd (HI.out.core.drewN m)
   have HG1:=hyd (HI.out.chg.drewN m)
   clear hrm
   generalize wr.drewN m=w1 at *
   go_wp2
   go_ret
   rw[<-HE.out]
   exact⟨rfl,HK1.out,HG1.out⟩
  ·
   rw[hr] at hrm
   have HE:=hyd hE
   clear hE hr
   go_wp2_with fail
   refine hrm.mono ?_
   rintro e w1 ⟨rfl,m,rfl⟩
   have hcl:=close_k A _ Ki (HI.out.core.drewN m)
   have HG1:=hyd (HI.out.chg.drewN m)
   clear hrm HI
   generalize wr.drewN m=w1 at *
   go_wp2_with fail
   refine hcl.mono ?_
   rintro e w2 ⟨rfl,k2,g2⟩
   generalize clK Ki=K2 at *
   obtain⟨c1,-⟩:=k2.cPool
   obtain⟨c2,-⟩:=k2.cMap
   have hspr:=Pool.spare_any w2 A.po K2.F k2.pool
   have HK2:=hyd k2
   have HG2:=hyd (HG1.out.trans g2)
   clear hcl k2 g2 HG1
   rcases HE.out with ⟨hs,hE⟩ | ⟨hs,hE⟩
   ·
    have hs2:decide (Pool.bnd K2.F<(Pool.cnt K2.F 0 12:Nat))=true:=hs
    rw[hs2] at hspr
    have hop:=open_k A w2 K2 HK2.out
    generalize opK K2=P at *
    have HE2:=hyd hE
    clear hs hs2 hE HE
    go_wp2_with (go_at_call 115;refine hspr.mono ?_;rintro e w9 ⟨rfl,rfl⟩)
    refine hop.mono ?_
    rintro e w3 ⟨rfl,k3,g3⟩
    have HK3:=hyd k3
    have HG3:=hyd (HG2.out.trans g3)
    clear hop k3 g3 hspr c1 c2 HG2
    by_cases hp:P.2=0
    ·
     have HE3:=HE2.out
     rw[if_neg (by rw[hp];simp)] at HE3
     have HI2:Hid (Mri A mo o Z w w3 k P.1):=⟨HE3,HK3.out,HG3.out⟩
     rw[hp]
     clear hp HE3 HE2
     go_wp2
     go_roundg k
     case measure=>omega
     case rel=>exact⟨k,P.1,Nat.le_refl _,HI2.out⟩
    ·
     replace q:∀ w,(binOp .neq 33 (errV P.2) .nilIface).run Tryz.prog w=.ok (.bool true) w:=fun w=>by rw[q,decide_eq_false hp];rfl
     have HE3:=HE2.out
     rw[if_pos hp] at HE3
     have HE4:Hid (P=Z):=Option.some.inj HE3
     clear hp HE3 HE2
     go_wp2
     go_ret
     rw[<-HE4.out]
     exact⟨rfl,HK3.out,HG3.out⟩
   ·
    have hs2:decide (Pool.bnd K2.F<(Pool.cnt K2.F 0 12:Nat))=false:=hs
    rw[hs2] at hspr
    have HE2:=hyd hE
    clear hs hs2 hE HE
    go_wp2_with (go_at_call 115;refine hspr.mono ?_;rintro e w2 ⟨rfl,rfl⟩)
    go_region_held3 (fun wx=>wx.cell? ⟨A.c,1,none⟩=some (.pointer (some ⟨A.po,0,none⟩))/\wx.cell? ⟨A.c,2,none⟩=some (.pointer (some ⟨A.ma,0,none⟩)))
     (first | exact⟨c1,c2⟩ | exact⟨x1,x2⟩ | exact⟨z1,z2⟩)
     (first
      | (go_at_call 53;refine(Pool.states_any _ A.po K2.F (HK2.out.drewN 1).pool).mono ?_;rintro e w3 ⟨rfl,hI3,g3⟩;have HI3:=hyd hI3;have HK3:=hyd ((HK2.out.drewN 1).chg0 g3);obtain⟨x1,-⟩:=HK3.out.cPool;obtain⟨x2,-⟩:=HK3.out.cMap;have HG3:=hyd (HG2.out.drew.trans (Chg.cor0 (A:=A) g3));clear hI3 g3)
      | (go_at_call 107;refine(Pmap.live_any _ A.ma K2.L (HK2.out.drewN 1).map).mono ?_;rintro e w3 ⟨rfl,hL3,g3⟩;have HL3:=hyd hL3;have HK3:=hyd ((HK2.out.drewN 1).chg0 g3);obtain⟨x1,-⟩:=HK3.out.cPool;obtain⟨x2,-⟩:=HK3.out.cMap;have HG3:=hyd (HG2.out.drew.trans (Chg.cor0 (A:=A) g3));clear hL3 g3)
      | (go_at_call 53;refine(Pool.states_any _ A.po K2.F HK3.out.pool).mono ?_;rintro e w4 ⟨rfl,hI4,g4⟩;have HI4:=hyd hI4;have HL4:=hyd (HL3.out.chg g4 (fun f=>f));have HK4:=hyd (HK3.out.chg0 g4);obtain⟨z1,-⟩:=HK4.out.cPool;obtain⟨z2,-⟩:=HK4.out.cMap;have HG4:=hyd (HG3.out.trans (Chg.cor0 (A:=A) g4));clear hI4 g4)
      | (go_at_call 107;refine(Pmap.live_any _ A.ma K2.L HK3.out.map).mono ?_;rintro e w4 ⟨rfl,hL4,g4⟩;have HL4:=hyd hL4;have HI4:=hyd (HI3.out.chg g4 (fun f=>f));have HK4:=hyd (HK3.out.chg0 g4);obtain⟨z1,-⟩:=HK4.out.cPool;obtain⟨z2,-⟩:=HK4.out.cMap;have HG4:=hyd (HG3.out.trans (Chg.cor0 (A:=A) g4));clear hL4 g4)
      | (go_at_call 117;refine(Gc.choose_12 _ _ _ 12 12 K2.F (lvF K2) HI4.out.lies HL4.out.lies).mono ?_;rintro e w5 ⟨rfl,m5,rfl⟩;have HK5:=hyd (HK4.out.drewN m5);have HG5:=hyd (HG4.out.drewN m5);obtain⟨z1,-⟩:=HK5.out.cPool;obtain⟨z2,-⟩:=HK5.out.cMap))
    all_goals
     generalize w4.drewN m5=w5 at *
     clear c1 c2 x1 x2 z1 z2 hspr
     rcases HE2.out with ⟨hc,hE⟩ | ⟨hc,y,hy,hE⟩
     ·
      replace q:∀ w,(binOp .neq 33 (errV (Gc.chC 12 12 K2.F (lvF K2))) .nilIface).run Tryz.prog w=.ok (.bool true) w:=fun w=>by rw[q,decide_eq_false hc];rfl
      have HE3:=hyd hE
      clear hc hE HE2
      generalize Gc.chC 12 12 K2.F (lvF K2)=cc at *
      go_wp2
      go_ret
      rw[<-HE3.out]
      exact⟨rfl,HK5.out,HG5.out⟩
     ·
      have hch:=(Gc.ch_some hc).2.2.1
      have GA:Chg (fun _=>False) w5 (w5.alloc (.cells #[.int .i64 (Gc.chV 12 12 K2.F (lvF K2):Nat),.bool false,.bool false,.bool false,.int .i64 0,.int .i64 0,.slice none 0 0] 163)):=(Chg.refl _ w5).alloc _
      have hmv:=HMO.out _ K2 w5.heap.size (nwS (Gc.chV 12 12 K2.F (lvF K2)) false false) _ y (HK5.out.chg0 GA) (ShAt.new w5 (Gc.chV 12 12 K2.F (lvF K2)) false false) hch hy
      have HG6:=hyd (HG5.out.trans (Chg.cor0 (A:=A) GA))
      have HSZ:=hyd HG5.out.size
      have HE3:=hyd hE
      rw[hc]
      clear hc hch hy hE HE2 GA HK5
      go_wp2_with fail
      refine hmv.mono ?_
      rintro e w6 ⟨v6,rfl,k6,s6,sm6,g6⟩
      have HK6:=hyd k6
      have HG7:=hyd (HG6.out.trans' g6 (fun k hk e=>e.elim id (fun e=>by have:=HSZ.out;omega)))
      clear hmv k6 s6 sm6 g6 HG6
      by_cases hp:y.2.2=0
      ·
       have HE4:=HE3.out
       rw[if_neg (by rw[hp];simp)] at HE4
       have HI2:Hid (Mri A mo o Z w w6 k y.1):=⟨HE4,HK6.out,HG7.out⟩
       rw[hp]
       clear hp HE3 HE4
       go_wp2
       go_roundg k
       case measure=>omega
       case rel=>exact⟨k,y.1,Nat.le_refl _,HI2.out⟩
      ·
       replace q:∀ w,(binOp .neq 33 (errV y.2.2) .nilIface).run Tryz.prog w=.ok (.bool true) w:=fun w=>by rw[q,decide_eq_false hp];rfl
       have HE4:=HE3.out
       rw[if_pos hp] at HE4
       have HE5:Hid ((y.1,y.2.2)=Z):=Option.some.inj HE4
       clear hp HE3 HE4
       go_wp2
       go_ret
       rw[<-HE5.out]
       exact⟨rfl,HK6.out,HG7.out⟩
end Go.Proofs.YtbhbilcieodbhaaGreat
/-
  A page is programmed anew, whatever fails. Condition: the core lies in memory; the closure makes 174 bytes and changes nothing.
-/
namespace Go.Proofs.YtbhbilcieodbhaaGreat
set_option maxRecDepth 100000
open Go.RowKit
def RoomC (A:Ad) (mr:Kor->Nat->Option (Kor × Nat)):Prop:=∀ w K (o:Nat) Z,CoreAt A w K->mr K o=some Z->Calls Tryz.prog 80 #[.pointer (some ⟨A.c,0,none⟩),.int .i64 (o:Nat)] w fun e w'=>e=.returned (errV Z.2)/\CoreAt A w' Z.1/\Chg (Cor A) w w'
theorem frK_fr (H:Hol) (K:Kor) (p o:Nat):(frK H K p o).1.fr=K.fr:=by
 have e:∀ t D,(prK (sqK K) t D).1.fr=K.fr:=fun t D=>by
  unfold prK
  generalize prF (sqK K).tl (sqK K).s (sqK K).r t D=z
  rfl
 rw[frK_eq]
 have e1:=e ⟨p,o,K.nx,0,false⟩ (H (sqK K) K.nx)
 generalize prK (sqK K) ⟨p,o,K.nx,0,false⟩ (H (sqK K) K.nx)=z at e1 ⊢
 split
 ·
  rfl
 ·
  split
  ·
   exact e1
  ·
   show (if o=24 then ntK z.1 else z.1).fr=K.fr
   split <;> exact e1
theorem anK_zero (mr:Kor->Nat->Option (Kor × Nat)) (mo:Mov) (H:Hol) (K:Kor) (o:Nat):anK mr mo H 0 K o=none:=rfl
theorem anK_succ (mr:Kor->Nat->Option (Kor × Nat)) (mo:Mov) (H:Hol) (n:Nat) (K:Kor) (o:Nat) (Z:Kor × Nat) (h:anK mr mo H (n+1) K o=some Z) :
 ((wornK K=true\/K.sp=true)/\(K,14)=Z)\/((wornK K=false/\K.sp=false)/\∃ x,mr K o=some x /\
  ((x.2≠0/\x=Z)\/(x.2=0/\((Front.nxC x.1.fr o≠0/\(x.1,Front.nxC x.1.fr o)=Z)\/(Front.nxC x.1.fr o=0/\∃ P,frK H { x.1 with fr:=Front.tkS x.1.fr o } (Front.nxV x.1.fr o).toNat o=P /\
   ((P.2.2=0/\layK P.1 P.2.1=Z)\/(P.2.2≠0/\P.2.2≠8/\(P.1,P.2.2)=Z)\/(P.2.2=8/\∃ y,mo P.1 (nwS (Front.blV P.1.fr).toNat false true)=some y/\(if y.2.2≠0 then some (y.1,y.2.2) else anK mr mo H n y.1 o)=some Z))))))):=by
 rw[anK] at h
 by_cases hw:wornK K=true\/K.sp=true
 ·
  rw[if_pos hw] at h
  exact Or.inl ⟨hw,Option.some.inj h⟩
 ·
  rw[if_neg hw] at h
  refine Or.inr ⟨?_,?_⟩
  ·
   cases h1:wornK K
   ·
    cases h2:K.sp
    ·
     exact⟨rfl,rfl⟩
    ·
     exact absurd (Or.inr h2) hw
   ·
    exact absurd (Or.inl h1) hw
  ·
   cases hx:mr K o with
   | none=>rw[hx] at h;cases h
   | some x=>
    rw[hx] at h
    dsimp only at h
    refine⟨x,rfl,?_⟩
    by_cases h0:x.2=0
    ·
     rw[if_neg (by rw[h0];simp)] at h
     refine Or.inr ⟨h0,?_⟩
     by_cases hn:Front.nxC x.1.fr o=0
     ·
      rw[if_neg (by rw[hn];simp)] at h
      refine Or.inr ⟨hn,_,rfl,?_⟩
      generalize frK H { x.1 with fr:=Front.tkS x.1.fr o } (Front.nxV x.1.fr o).toNat o=P at h ⊢
      by_cases hp:P.2.2=0
      ·
       rw[if_pos hp] at h
       exact Or.inl ⟨hp,Option.some.inj h⟩
      ·
       rw[if_neg hp] at h
       by_cases h8:P.2.2=8
       ·
        rw[if_neg (by rw[h8];simp)] at h
        refine Or.inr (Or.inr ⟨h8,?_⟩)
        generalize mo P.1 (nwS (Front.blV P.1.fr).toNat false true)=Y at h ⊢
        cases Y with
        | none=>cases h
        | some y=>exact⟨y,rfl,h⟩
       ·
        rw[if_pos h8] at h
        exact Or.inr (Or.inl ⟨hp,h8,Option.some.inj h⟩)
     ·
      rw[if_pos hn] at h
      exact Or.inl ⟨hn,Option.some.inj h⟩
    ·
     rw[if_pos h0] at h
     exact Or.inl ⟨h0,Option.some.inj h⟩
structure Ani (A:Ad) (mr:Kor->Nat->Option (Kor × Nat)) (mo:Mov) (H:Hol) (o:Nat) (Z:Kor × Nat) (w wr:World) (k:Nat) (Ki:Kor):Prop where
 eq:anK mr mo H k Ki o=some Z
 core:CoreAt A wr Ki
 chg:Chg (Cor A) w wr
set_option maxHeartbeats 2000000 in
theorem anew1_k (A:Ad) (mr:Kor->Nat->Option (Kor × Nat)) (hmr:RoomC A mr) (mo:Mov) (hmo:MovC A mo) (w0:World) (f:FuncId) (cp:Array Value) (H:Hol) (hH:Hold A w0 f cp H) (w:World) (K:Kor) (h:CoreAt A w K) (hw0:Chg (Cor A) w0 w) (o:Nat) (ho:o<25) (n:Nat) (Z:Kor × Nat) (hZ:anK mr mo H n K o=some Z) :
 Calls Tryz.prog 49 #[.pointer (some ⟨A.c,0,none⟩),.int .i64 (o:Nat),.func (.func f) #[] cp] w fun e w'=>e=.returned (errV Z.2)/\CoreAt A w' Z.1/\Chg (Cor A) w w':=by
 have HK:=hyd h
 have HMO:=hyd hmo
 have HMR:=hyd hmr
 have HH:=hyd hH
 have HW0:=hyd hw0
 have HO:=hyd ho
 have HZ:=hyd hZ
 have q:=neq_er
 have g:=guard_neq
 have qe:=eql_er
 have ge:=guard_eql
 have hbd:=build137f
 have hzt:=zero123
 clear h hZ hmo hmr hH hw0 ho
 go_enter Tryz.func49,Tryz.ntmps49
 go_wp2_with fail
 go_loopg [6] n (fun kx s6 wr=>∃ k Ki,k<=kx/\Hid (Ani A mr mo H o Z w wr k Ki))
 case atStart=>exact⟨n,K,Nat.le_refl _,⟨HZ.out,HK.out,Chg.refl _ _⟩⟩
 case round=>
  obtain⟨k,Ki,hk,HI⟩:=hrel
  obtain _ | k:=k
  ·
   exact absurd HI.out.eq (by rw[anK_zero];exact fun e=>by cases e)
  have hwn:=worn_k A wr Ki HI.out.core
  obtain⟨c78,-⟩:=HI.out.core.cSp
  rcases anK_succ mr mo H k Ki o Z HI.out.eq with ⟨hr,hE⟩ | ⟨⟨hr1,hr2⟩,X,hX,hE⟩
  ·
   have HE:=hyd hE
   cases h1:wornK Ki
   ·
    have h2:Ki.sp=true:=hr.resolve_left (by rw[h1];simp)
    rw[h1] at hwn
    rw[h2] at c78
    clear hr hE h1 h2
    go_wp2_with (go_at_call 79;refine hwn.mono ?_;rintro e wr ⟨rfl,rfl⟩)
    go_ret
    rw[<-HE.out]
    exact⟨rfl,HI.out.core,HI.out.chg⟩
   ·
    rw[h1] at hwn
    clear hr hE h1
    go_wp2_with (go_at_call 79;refine hwn.mono ?_;rintro e wr ⟨rfl,rfl⟩)
    go_ret
    rw[<-HE.out]
    exact⟨rfl,HI.out.core,HI.out.chg⟩
  ·
   rw[hr1] at hwn
   rw[hr2] at c78
   have hrm:=HMR.out wr Ki o X HI.out.core hX
   have HE:=hyd hE
   clear hr1 hr2 hX hE
   go_wp2_with (go_at_call 79;refine hwn.mono ?_;rintro e wr ⟨rfl,rfl⟩)
   refine hrm.mono ?_
   rintro e w1 ⟨rfl,k1,g1⟩
   have HK1:=hyd k1
   have HG1:=hyd (HI.out.chg.trans g1)
   clear hrm k1 g1 HI hwn c78
   rcases HE.out with ⟨h0,hE⟩ | ⟨h0,hE⟩
   ·
    replace q:∀ w,(binOp .neq 33 (errV X.2) .nilIface).run Tryz.prog w=.ok (.bool true) w:=fun w=>by rw[q,decide_eq_false h0];rfl
    have HE3:=hyd hE
    clear h0 hE HE
    go_wp2
    go_ret
    rw[<-HE3.out]
    exact⟨rfl,HK1.out,HG1.out⟩
   ·
    have HE2:=hyd hE
    rw[h0]
    clear h0 hE HE
    obtain⟨ff,hf,back⟩:=QB.front HK1.out.core
    have htk:=Front.take_v w1 A.c 124 101 ff 79 X.1.fr hf HK1.out.wf.fr (o:Nat)
    have HBK:=hyd back
    clear hf back
    go_wp2_with fail
    refine htk.mono ?_
    rintro e w2 ⟨rfl,F2,g2⟩
    have HK2:=hyd (HK1.out.setFr (HBK.out w2 _ F2) g2 (Front.Okf.take HK1.out.wf.fr (o:Nat)))
    have HG2:=hyd (HG1.out.trans (Chg.cor_c (A:=A) g2))
    clear htk F2 g2
    rcases HE2.out with ⟨hn,hE⟩ | ⟨hn,P,hP,hE⟩
    ·
     have HE3:=hyd hE
     have HEQ:Hid ({ X.1 with fr:=Front.tkS X.1.fr (o:Nat) }=X.1):=by
      show ({ X.1 with fr:=Front.tkS X.1.fr (o:Nat) }:Kor)=X.1
      unfold Front.tkS
      rw[if_neg hn]
     rw[HEQ.out] at HK2
     replace q:∀ w,(binOp .neq 33 (errV (Front.nxC X.1.fr (o:Nat))) .nilIface).run Tryz.prog w=.ok (.bool true) w:=fun w=>by rw[q,decide_eq_false hn];rfl
     clear hn hE HE2 HEQ
     generalize Front.nxC X.1.fr (o:Nat)=nn at *
     go_wp2
     go_ret
     rw[<-HE3.out]
     exact⟨rfl,HK2.out,HG2.out⟩
    ·
     have HPL:=hyd (nx_place HK1.out.wf.fr hn)
     have HOP:Hid (Front.blV X.1.fr=(X.1.fr.k:Nat)/\X.1.fr.o=true):=by
      have e:X.1.fr.o=true:=by
       cases e:X.1.fr.o
       ·
        have:=Front.nx_11 (s:=X.1.fr) (n:=(o:Nat)) (by have:=HO.out;omega) e
        rw[hn] at this
        cases this
       ·
        rfl
      exact⟨by unfold Front.blV;rw[e];rfl,e⟩
     have hfr:=fresh_k A w0 f cp H HH.out w2 _ HK2.out (HW0.out.trans HG2.out) (Front.nxV X.1.fr (o:Nat)).toNat o ⟨⟨by have:=HPL.out.1;omega,by have:=HO.out;omega,by have:=HK2.out.wf.nx;omega,by omega⟩,by
      rcases HPL.out.2.1 with e | e
      ·
       exact Or.inl ⟨by omega,rfl⟩
      ·
       by_cases e2:o=24
       ·
        exact Or.inl ⟨by omega,rfl⟩
       ·
        exact Or.inr ⟨by omega,by omega⟩⟩
     rw[hP] at hfr
     have HFR:Hid (P.1.fr=Front.tkS X.1.fr (o:Nat)):=by
      rw[<-hP]
      exact frK_fr _ _ _ _
     have HFT:Hid (P.2.2=0->P.2.1=⟨(Front.nxV X.1.fr (o:Nat)).toNat,o,X.1.nx,0,false⟩):=fun e=>by
      rw[<-hP] at e ⊢
      exact frK_tag _ _ _ _ e
     have HTK:Hid (Front.tkS X.1.fr (o:Nat)={ X.1.fr with i:=X.1.fr.i+1 }):=by
      show Front.tkS X.1.fr (o:Nat)=_
      unfold Front.tkS
      rw[if_pos hn]
     have HNX:Hid (1<=X.1.nx/\X.1.nx<=1099511627775):=HK2.out.wf.nx
     rw[nxV_nat] at hfr
     rw[hn]
     have HE3:=hyd hE
     have HBL:Hid (Front.blV P.1.fr=(X.1.fr.k:Nat)):=by
      show Front.blV P.1.fr=_
      rw[HFR.out,HTK.out]
      unfold Front.blV
      rw[show ({ X.1.fr with i:=X.1.fr.i+1 }:Front.St).o=true from HOP.out.2]
      rfl
     have HKL:Hid (X.1.fr.k<12):=HK1.out.wf.fr.1
     clear hn hE HE2 hP HBK
     go_wp2_with fail
     refine hfr.mono ?_
     rintro e w3 ⟨rfl,k3,g3⟩
     have GA:Chg (fun _=>False) w3 (w3.alloc (.cells #[.int .i64 (P.2.1.p:Nat),.int .i64 (P.2.1.o:Nat),.int .i64 (P.2.1.q:Nat),.int .i64 (P.2.1.c:Nat),.bool P.2.1.l] 127)):=(Chg.refl _ w3).alloc _
     have K4:=k3.chg0 GA
     have HG4:=hyd ((HG2.out.trans g3).trans (Chg.cor0 (A:=A) GA))
     have HK4:=hyd K4
     clear hfr k3 g3 GA
     rcases HE3.out with ⟨hp,hE⟩ | ⟨hp,h8,hE⟩ | ⟨h8,y,hy,hE⟩
     ·
      have htg:=HFT.out hp
      have hly:=lay_k A _ P.1 K4 P.2.1 (by rw[htg];exact HO.out) (by rw[htg];exact HNX.out) (by rw[htg];exact(show 0<256 by decide))
      have HE4:=hyd hE
      replace qe:∀ w,(binOp .eql 33 (errV P.2.2) .nilIface).run Tryz.prog w=.ok (.bool true) w:=fun w=>by rw[qe,decide_eq_true hp]
      clear hp hE htg HE3 K4
      go_wp2_with fail
      refine hly.mono ?_
      rintro e w5 ⟨rfl,k5,g5⟩
      have HK5:=hyd k5
      have HG5:=hyd (HG4.out.trans g5)
      clear hly k5 g5
      go_wp2
      go_ret
      rw[<-HE4.out]
      exact⟨rfl,HK5.out,HG5.out⟩
     ·
      have his:=is_v P.2.2 8 (by decide) (w3.alloc (.cells #[.int .i64 (P.2.1.p:Nat),.int .i64 (P.2.1.o:Nat),.int .i64 (P.2.1.q:Nat),.int .i64 (P.2.1.c:Nat),.bool P.2.1.l] 127))
      rw[decide_eq_false h8] at his
      have HE4:=hyd hE
      replace qe:∀ w,(binOp .eql 33 (errV P.2.2) .nilIface).run Tryz.prog w=.ok (.bool false) w:=fun w=>by rw[qe,decide_eq_false hp]
      clear hp h8 hE HE3 K4
      go_wp2_with fail
      refine his.mono ?_
      rintro e w5 ⟨rfl,rfl⟩
      clear his
      go_wp2
      go_ret
      rw[<-HE4.out]
      exact⟨rfl,HK4.out,HG4.out⟩
     ·
      have his:=is_v P.2.2 8 (by decide) (w3.alloc (.cells #[.int .i64 (P.2.1.p:Nat),.int .i64 (P.2.1.o:Nat),.int .i64 (P.2.1.q:Nat),.int .i64 (P.2.1.c:Nat),.bool P.2.1.l] 127))
      rw[decide_eq_true h8] at his
      have HE4:=hyd hE
      replace qe:∀ w,(binOp .eql 33 (errV P.2.2) .nilIface).run Tryz.prog w=.ok (.bool false) w:=fun w=>by rw[qe,h8];rfl
      obtain⟨f4,hf4,-⟩:=QB.front K4.core
      have hbl:=Front.block_any _ A.c 124 101 f4 79 P.1.fr hf4
      rw[HBL.out] at hbl
      have HY:Hid (mo P.1 (nwS X.1.fr.k false true)=some y):=by
       rw[HBL.out] at hy
       exact hy
      clear h8 hy hE HE3 K4 hf4
      go_wp2_with fail
      generalize (w3.alloc (.cells #[.int .i64 (P.2.1.p:Nat),.int .i64 (P.2.1.o:Nat),.int .i64 (P.2.1.q:Nat),.int .i64 (P.2.1.c:Nat),.bool P.2.1.l] 127))=w4 at *
      have GB:Chg (fun _=>False) w4 (w4.alloc (.cells #[.int .i64 (X.1.fr.k:Nat),.bool false,.bool true,.bool false,.int .i64 0,.int .i64 0,.slice none 0 0] 163)):=(Chg.refl _ w4).alloc _
      have hmv:=HMO.out _ P.1 w4.heap.size (nwS X.1.fr.k false true) _ y (HK4.out.chg0 GB) (ShAt.new w4 X.1.fr.k false true) HKL.out HY.out
      have HG6:=hyd (HG4.out.trans (Chg.cor0 (A:=A) GB))
      have HSZ:=hyd HG4.out.size
      clear GB HK4
      refine his.mono ?_
      rintro e w4 ⟨rfl,rfl⟩
      go_wp2_with (first | (go_at_call 46;refine his.mono ?_;rintro e w4 ⟨rfl,rfl⟩) | (go_at_call 85;refine hbl.mono ?_;rintro e w4 ⟨rfl,rfl⟩))
      refine hmv.mono ?_
      rintro e w6 ⟨v6,rfl,k6,s6,sm6,g6⟩
      have HK6:=hyd k6
      have HG7:=hyd (HG6.out.trans' g6 (fun k hk e=>e.elim id (fun e=>by have:=HSZ.out;omega)))
      clear hmv k6 s6 sm6 g6 HG6 his hbl
      by_cases hp:y.2.2=0
      ·
       have HE5:=HE4.out
       rw[if_neg (by rw[hp];simp)] at HE5
       have HI2:Hid (Ani A mr mo H o Z w w6 k y.1):=⟨HE5,HK6.out,HG7.out⟩
       rw[hp]
       clear hp HE4 HE5
       go_wp2
       go_roundg k
       case measure=>omega
       case rel=>exact⟨k,y.1,Nat.le_refl _,HI2.out⟩
      ·
       replace q:∀ w,(binOp .neq 33 (errV y.2.2) .nilIface).run Tryz.prog w=.ok (.bool true) w:=fun w=>by rw[q,decide_eq_false hp];rfl
       have HE5:=HE4.out
       rw[if_pos hp] at HE5
       have HE6:Hid ((y.1,y.2.2)=Z):=Option.some.inj HE5
       clear hp HE4 HE5
       go_wp2
       go_ret
       rw[<-HE6.out]
       exact⟨rfl,HK6.out,HG7.out⟩
theorem anew_k (A:Ad):∀ n,AnC A n
 | 0=>fun _ _ _ _ _ _ _ _ _ _ _ _ h=>by cases h
 | n+1=>fun w0 f cp H hH w K o Z hC hW ho hZ=>by
  have hA:=anew_k A n
  have hmo:=mov_k A n hA
  have hZ2:anK (mrK (movR n) (n+1)) (movR n) H (n+1) K o=some Z:=hZ
  exact anew1_k A (mrK (movR n) (n+1)) (fun w K o Z hK hZ=>room_k A (movR n) hmo w K hK o (n+1) Z hZ) (movR n) hmo w0 f cp H hH w K hC hW o ho (n+1) Z hZ2
end Go.Proofs.YtbhbilcieodbhaaGreat
/-
  A sector is put. Condition: the core lies in memory, the data lie outside it; what is refused asks of nothing.
-/
namespace Go.Proofs.YtbhbilcieodbhaaGreat
set_option maxRecDepth 100000
open Go.RowKit
theorem sector_yes (w:World) (o:Int) (h:0<=o/\o<24):Calls Tryz.prog 48 #[.int .i64 o] w fun e w'=>e=.returned (.bool true)/\w'=w:=by
 obtain⟨h1,h2⟩:=h
 go_enter Tryz.func48,Tryz.ntmps48
 go_wp2
 go_ret
 exact⟨rfl,rfl⟩
theorem put_k (A:Ad) (w:World) (K:Kor) (h:CoreAt A w K) (o:Nat) (ho:o<24) (d off cap:Nat) (D:List Nat) (hD:D.length=160) (bD:Bys D) (hd:At w d off D) (nd:¬ Cor A d) (n:Nat) (Z:Kor × Nat) (hZ:anR n (fun _ _=>D ++ List.replicate 14 0) K o=some Z) :
 Calls Tryz.prog 33 #[.pointer (some ⟨A.c,0,none⟩),.int .i64 (o:Nat),.slice (some ⟨d,off,none⟩) 160 cap] w fun e w'=>e=.returned (errV Z.2)/\CoreAt A w' Z.1/\Chg (Cor A) w w':=by
 have G0:Chg (fun _=>False) w (w.alloc (.cells #[.slice (some ⟨d,off,none⟩) 160 cap] 35)):=(Chg.refl _ w).alloc _
 have hB0:(w.alloc (.cells #[.slice (some ⟨d,off,none⟩) 160 cap] 35)).cell? ⟨w.heap.size,0,none⟩=some (.slice (some ⟨d,off,none⟩) 160 cap):=by
  have h1:(w.alloc (.cells #[.slice (some ⟨d,off,none⟩) 160 cap] 35)).heap[w.heap.size]?=some (.cells #[.slice (some ⟨d,off,none⟩) 160 cap] 35):=(show (w.heap.push _)[w.heap.size]?=_ by simp)
  rw[cell_of_row _ _ _ _ _ _ h1];rfl
 have hs:=fun w=>sector_yes w (o:Nat) (by omega)
 have hH:=put_hold A _ w.heap.size d off cap D hD bD hB0 (hd.chg G0 (fun f=>f)) (h.apart (Nat.le_refl _)) nd (by simp)
 have han:=anew_k A n _ 50 #[.pointer (some ⟨w.heap.size,0,none⟩)] _ hH _ K o Z (h.chg0 G0) (Chg.refl _ _) (by omega) hZ
 have hmf:∀ (fn:Fn) (first cap:Array Value) (w:World),(Instr.makeFunc fn first cap).run Tryz.prog w=.ok (.func fn first cap) w:=fun _ _ _ _=>rfl
 have HG:=hyd (Chg.cor0 (A:=A) G0)
 clear h hZ hd nd hD bD hH G0 ho hB0
 go_enter Tryz.func33,Tryz.ntmps33
 go_wp2_with (go_at_call 48;refine(hs _).mono ?_;rintro e w1 ⟨rfl,rfl⟩)
 refine han.mono ?_
 rintro e w2 ⟨rfl,k2,g2⟩
 have HK2:=hyd k2
 have HG2:=hyd (HG.out.trans g2)
 clear han k2 g2
 go_wp2
 go_ret
 exact⟨rfl,HK2.out,HG2.out⟩
end Go.Proofs.YtbhbilcieodbhaaGreat
/-
  A block is vacated. Condition: the core lies in memory.
-/
namespace Go.Proofs.YtbhbilcieodbhaaGreat
set_option maxRecDepth 100000
open Go.RowKit
theorem build137r (w:World) (b:Int) (r:Bool):(Instr.build 163 #[(0,.int .i64 b),(1,.bool r)]).run Tryz.prog w=.ok (.agg #[.int .i64 b,.bool r,.bool false,.bool false,.int .i64 0,.int .i64 0,.slice none 0 0]) w:=by kernel_rfl
end Go.Proofs.YtbhbilcieodbhaaGreat
/-
  A page is looked at. Condition: the core lies in memory, and there is such a page.
-/
namespace Go.Proofs.YtbhbilcieodbhaaGreat
set_option maxRecDepth 100000
open Go.RowKit
def inK (K:Kor) (p:Nat):Kor × Pg × Nat:=
 let x:=rdK K p
 if x.2.2≠0 then (x.1,Pg.zero,x.2.2) else
 if Pmap.own x.1.L p = -1 then (x.1,x.2.1,0) else
 if x.2.1.sound=true/\x.2.1.dmg<2 then (x.1,x.2.1,0) else
 ({ x.1 with hS:=Health.more 255 x.1.hS (p / 8:Nat),qu:=Patrol.adL x.1.qu (p / 8:Nat) },x.2.1,0)
theorem Wf.qu' {K:Kor} (h:Wf K) {l:List Int} (hl:Patrol.Okq l):Wf { K with qu:=l }:=
 ⟨h.chip,h.rr,h.frm,h.map,h.vs,h.vp,h.vc,h.fl,h.nx,h.fr,h.cu,hl,h.hea,h.tl⟩
theorem add_k (A:Ad) (w:World) (K:Kor) (h:CoreAt A w K) (x:Int):Calls Tryz.prog 92 #[.pointer (some ⟨A.c,83,none⟩),.int .i64 x] w fun e w'=>e=.returned (errV (Patrol.adC x))/\CoreAt A w' { K with qu:=Patrol.adL K.qu x }/\Chg (·=A.c) w w':=by
 refine(Patrol.add_v w A.c 124 101 _ 83 K.qu h.core h.wf.qu x).mono ?_
 rintro e w' ⟨rfl,hQ,hc⟩
 exact⟨rfl,h.setCore { K with qu:=Patrol.adL K.qu x } ⟨rfl,rfl,rfl,rfl,rfl,rfl,rfl,rfl,rfl⟩ hQ hc (h.wf.qu' (h.wf.qu.add x)),hc⟩
theorem report_k (A:Ad) (w:World) (K:Kor) (h:CoreAt A w K) (x:Int):Calls Tryz.prog 91 #[.pointer (some ⟨A.h,0,none⟩),.int .i64 x] w fun e w'=>e=.returned (errV (Health.blC x))/\CoreAt A w' { K with hS:=Health.more 255 K.hS x }/\Chg (·=A.h) w w':=by
 refine(Health.report_v w A.h _ _ _ h.hea h.wf.hea x).mono ?_
 rintro e w' ⟨rfl,hH,hc⟩
 exact⟨rfl,h.setHea hH hc (h.wf.hR' ((Health.Okh.more3 h.wf.hea x))),hc⟩
theorem Pb.set8 {w:World} {k:Nat} {t:Bool} {p o s c:Int} {l sd:Bool} {v:Value} {d:Int} (h:Pb w k t p o s c l sd v d) (d':Int):Pb (w.setCell ⟨k,8,none⟩ (.int .i64 d')) k t p o s c l sd v d':=heap_setCell_same w k 8 _ 129 _ h
theorem Pb.all {w:World} {k:Nat} {t:Bool} {p o s c:Int} {l sd:Bool} {v:Value} {d:Int} (h:Pb w k t p o s c l sd v d) (t':Bool) (p' o' s' c':Int) (l' sd':Bool) (v':Value) (d':Int) :
 Pb (((((((((w.setCell ⟨k,0,none⟩ (.bool t')).setCell ⟨k,1,none⟩ (.int .i64 p')).setCell ⟨k,2,none⟩ (.int .i64 o')).setCell ⟨k,3,none⟩ (.int .i64 s')).setCell ⟨k,4,none⟩ (.int .i64 c')).setCell ⟨k,5,none⟩ (.bool l')).setCell ⟨k,6,none⟩ (.bool sd')).setCell ⟨k,7,none⟩ (v')).setCell ⟨k,8,none⟩ (.int .i64 d')) k t' p' o' s' c' l' sd' v' d'/\Chg (·=k) w (((((((((w.setCell ⟨k,0,none⟩ (.bool t')).setCell ⟨k,1,none⟩ (.int .i64 p')).setCell ⟨k,2,none⟩ (.int .i64 o')).setCell ⟨k,3,none⟩ (.int .i64 s')).setCell ⟨k,4,none⟩ (.int .i64 c')).setCell ⟨k,5,none⟩ (.bool l')).setCell ⟨k,6,none⟩ (.bool sd')).setCell ⟨k,7,none⟩ (v')).setCell ⟨k,8,none⟩ (.int .i64 d')):=by
 refine⟨((((((((h.set0 t').set1 p').set2 o').set3 s').set4 c').set5 l').set6 sd').set7 v').set8 d',?_⟩
 have g:=Chg.refl (·=k) w
 exact((((((((g.setCell (Or.inl rfl) _ _).setCell (Or.inl rfl) _ _).setCell (Or.inl rfl) _ _).setCell (Or.inl rfl) _ _).setCell (Or.inl rfl) _ _).setCell (Or.inl rfl) _ _).setCell (Or.inl rfl) _ _).setCell (Or.inl rfl) _ _).setCell (Or.inl rfl) _ _
set_option maxHeartbeats 1000000 in
theorem inspect_k (A:Ad) (w:World) (K:Kor) (h:CoreAt A w K) (p:Nat) (hp:p<96) :
 Calls Tryz.prog 57 #[.pointer (some ⟨A.c,0,none⟩),.int .i64 (p:Nat)] w fun e w'=>∃ v,e=.returned (.tuple #[pgV (inK K p).2.1 v,errV (inK K p).2.2])/\OwnT w' w.heap.size 5 v (inK K p).2.1.data/\CoreAt A w' (inK K p).1/\Chg (Cor A) w w':=by
 have hbd:=build65z
 have HP:=hyd (Pb.new w false 0 0 0 0 false false (.slice none 0 0) 0)
 have G0:Chg (fun _=>False) w (w.alloc (.cells #[.bool false,.int .i64 0,.int .i64 0,.int .i64 0,.int .i64 0,.bool false,.bool false,.slice none 0 0,.int .i64 0] 129)):=(Chg.refl _ w).alloc _
 have hrd:=read_k A _ K (h.chg0 G0) p hp
 have hs0:(w.alloc (.cells #[.bool false,.int .i64 0,.int .i64 0,.int .i64 0,.int .i64 0,.bool false,.bool false,.slice none 0 0,.int .i64 0] 129)).heap.size=w.heap.size+1:=by simp
 rw[hs0] at hrd
 have HLOW:=hyd h.low
 have HG:=hyd G0
 have q:=neq_er
 have g:=guard_neq
 have hpz:0<=((p:Nat):Int)/\((p:Nat):Int)<96:=by omega
 have hbl:=fun w=>block_of w (p:Nat) hpz
 have HE:Hid (inK K p=if (rdK K p).2.2≠0 then ((rdK K p).1,Pg.zero,(rdK K p).2.2) else if Pmap.own (rdK K p).1.L p = -1 then ((rdK K p).1,(rdK K p).2.1,0) else if (rdK K p).2.1.sound=true/\(rdK K p).2.1.dmg<2 then ((rdK K p).1,(rdK K p).2.1,0) else ({ (rdK K p).1 with hS:=Health.more 255 (rdK K p).1.hS (p / 8:Nat),qu:=Patrol.adL (rdK K p).1.qu (p / 8:Nat) },(rdK K p).2.1,0)):=rfl
 generalize rdK K p=Z at *
 clear h G0 hs0
 go_enter Tryz.func57,Tryz.ntmps57
 go_wp2_with fail
 refine hrd.mono ?_
 rintro e w1 ⟨v,rfl,hO,K1,G1⟩
 have n0:¬ Cor A w.heap.size:=fun e=>by have:=HLOW.out _ (Or.inl e);omega
 have HP1:=hyd (HP.out.chg G1 n0)
 have HG1:=hyd ((Chg.cor0 (A:=A) HG.out).trans G1)
 have HO1:=hyd hO
 have HK1:=hyd K1
 have HPN:=hyd (Pb.new w1 false 0 0 0 0 false false (.slice none 0 0) 0)
 have HGN:Hid (Chg (fun _=>False) w1 (w1.alloc (.cells #[.bool false,.int .i64 0,.int .i64 0,.int .i64 0,.int .i64 0,.bool false,.bool false,.slice none 0 0,.int .i64 0] 129))):=(Chg.refl _ w1).alloc _
 have hlt1:=HP1.out.lt
 clear hrd hO K1 G1 HP HG n0
 unfold pgV
 go_wp2_with (first | refine wpList_store_pg rfl (.tmp 6) (.tmp 16) rfl w1.heap.size rfl rfl HO1.out.one HPN.out ?_)
 intro w2 P2 G2
 have hz1:=HGN.out.size
 have HK2:=hyd ((HK1.out.chg0 HGN.out).far HLOW.out (by omega) G2)
 have HP2:=hyd P2
 have HQ2:=hyd ((HP1.out.chg HGN.out (fun f=>f)).chg G2 (by omega))
 have HO2:=hyd ((HO1.out.chg HGN.out (fun _ _ _ f=>f)).chg G2 (fun k hk he e=>by have:=HO1.out.block he;omega))
 have HG2:=hyd ((HG1.out.trans HGN.out.cor0).trans' G2 (fun k hk e=>by omega))
 have hz2:=P2.lt
 have hwle:w.heap.size+1<=w1.heap.size:=by omega
 clear P2 G2 HK1 HO1 HP1 HG1 HPN HGN hz1
 by_cases hc:Z.2.2=0
 ·
  replace q0:∀ w,(binOp .neq 33 (errV Z.2.2) .nilIface).run Tryz.prog w=.ok (.bool false) w:=fun w=>by rw[q,decide_eq_true hc];rfl
  obtain⟨c2,-⟩:=HK2.out.cMap
  obtain⟨c10,-⟩:=HK2.out.cHea
  have how:=Pmap.owner_v w2 A.ma Z.1.L HK2.out.map (p:Nat)
  have HZ:=hyd hc
  by_cases ho:Pmap.own Z.1.L (p:Nat) = -1
  ·
   have HE2:Hid (inK K p=(Z.1,Z.2.1,0)):=by show inK K p=_;rw[HE.out,if_neg (by rw[hc];simp),if_pos ho]
   have eo:Pmap.owC Z.1.L (p:Nat)=11:=by unfold Pmap.owC;rw[if_neg (by omega),if_pos ho]
   have q1:∀ w,(binOp .neq 33 (errV 11) .nilIface).run Tryz.prog w=.ok (.bool true) w:=fun w=>by rw[q];rfl
   rw[eo] at how
   generalize Pmap.owV Z.1.L (p:Nat)=ov at *
   clear hc ho HE hbl eo q
   go_wp2_with (first | (go_at_call 89;refine how.mono ?_;rintro e w9 ⟨rfl,rfl⟩) | refine wpList_load_pg rfl (.tmp 6) rfl w1.heap.size rfl HP2.out ?_ | refine wpList_store_pg rfl (.tmp 4) (.tmp 33) rfl w.heap.size rfl rfl HO2.out.one HQ2.out ?_)
   intro w3 P3 G3
   have HP3:=hyd P3
   have HK3:=hyd (HK2.out.far HLOW.out (Nat.le_refl _) G3)
   have HO3:=hyd (HO2.out.chg G3 (fun k hk he e=>by have:=(HO2.out.block he).1;omega))
   have HG3:=hyd (HG2.out.trans' G3 (fun k hk e=>by omega))
   clear P3 G3 HQ2 HK2 HG2 HP2 HO2
   go_wp2
   refine bodyPost_ret (results_pg2 rfl _ rfl HP3.out) rfl ?_
   rw[HE2.out]
   exact⟨v,rfl,HO3.out.mono (fun k hk=>by have:=(HO3.out.block hk).1;omega),HK3.out,HG3.out⟩
  ·
   have eo:Pmap.owC Z.1.L (p:Nat)=0:=by unfold Pmap.owC;rw[if_neg (by omega),if_neg ho]
   rw[eo] at how
   have q1:∀ w,(binOp .neq 33 (errV 0) .nilIface).run Tryz.prog w=.ok (.bool false) w:=fun w=>by rw[q];rfl
   clear q
   obtain⟨p0,p1,p2,p3,p4,p5,p6,p7,p8⟩:=HP2.out.cells
   generalize Pmap.owV Z.1.L (p:Nat)=ov at *
   by_cases hs:Z.2.1.sound=true/\Z.2.1.dmg<2
   ·
    have HE2:Hid (inK K p=(Z.1,Z.2.1,0)):=by show inK K p=_;rw[HE.out,if_neg (by rw[hc];simp),if_neg ho,if_pos hs]
    obtain⟨hs1,hs2⟩:=hs
    rw[hs1] at p6
    have hs3:((Z.2.1.dmg:Nat):Int)<2:=by omega
    clear hc ho HE hbl eo hs1 hs2 p0 p1 p2 p3 p4 p5 p7
    go_wp2_with (first | (go_at_call 89;refine how.mono ?_;rintro e w9 ⟨rfl,rfl⟩) | refine wpList_load_pg rfl (.tmp 6) rfl w1.heap.size rfl HP2.out ?_ | refine wpList_store_pg rfl (.tmp 4) (.tmp 41) rfl w.heap.size rfl rfl HO2.out.one HQ2.out ?_)
    intro w3 P3 G3
    have HP3:=hyd P3
    have HK3:=hyd (HK2.out.far HLOW.out (Nat.le_refl _) G3)
    have HO3:=hyd (HO2.out.chg G3 (fun k hk he e=>by have:=(HO2.out.block he).1;omega))
    have HG3:=hyd (HG2.out.trans' G3 (fun k hk e=>by omega))
    clear P3 G3 HQ2 HK2 HG2 HP2 HO2
    go_wp2
    refine bodyPost_ret (results_pg2 rfl _ rfl HP3.out) rfl ?_
    rw[HE2.out]
    exact⟨v,rfl,HO3.out.mono (fun k hk=>by have:=(HO3.out.block hk).1;omega),HK3.out,HG3.out⟩
   ·
    have HE2:Hid (inK K p=({ Z.1 with hS:=Health.more 255 Z.1.hS (p / 8:Nat),qu:=Patrol.adL Z.1.qu (p / 8:Nat) },Z.2.1,0)):=by show inK K p=_;rw[HE.out,if_neg (by rw[hc];simp),if_neg ho,if_neg hs]
    have hrp:=report_k A w2 Z.1 HK2.out (p / 8:Nat)
    have hb8:Health.blC (p / 8:Nat)=0:=by unfold Health.blC;rw[if_pos (by omega)]
    rw[hb8] at hrp
    have hbl2:=hbl w2
    rw[show ((p:Nat):Int) / 8=((p / 8:Nat):Int) by omega] at hbl2
    have hsd:Z.2.1.sound=false\/(Z.2.1.sound=true/\¬ ((Z.2.1.dmg:Nat):Int)<2):=by
     cases e:Z.2.1.sound
     ·
      exact Or.inl rfl
     ·
      exact Or.inr ⟨rfl,fun x=>hs ⟨e,by omega⟩⟩
    clear hc ho HE hbl eo hs hb8 p0 p1 p2 p3 p4 p5 p7
    obtain⟨va,vn,vk,rfl⟩:∃ a n k,v=.slice a n k:=by
     rcases HO2.out.form with ⟨e,_⟩ | ⟨gg,cap,e,_⟩
     ·
      exact⟨_,_,_,e⟩
     ·
      exact⟨_,_,_,e⟩
    rcases hsd with hsd | ⟨hsd,hdm⟩
    ·
     rw[hsd] at p6
     clear hsd
     go_wp2_with (first | (go_at_call 89;refine how.mono ?_;rintro e w2 ⟨rfl,rfl⟩) | (go_at_call 90;refine hbl2.mono ?_;rintro e w2 ⟨rfl,rfl⟩))
     refine hrp.mono ?_
     rintro e w3 ⟨rfl,K3,G3⟩
     have HK3:=hyd K3
     have n1:¬ w1.heap.size=A.h:=fun e=>by have:=HLOW.out A.h (Or.inl (by unfold Cor;omega));omega
     have n0:¬ w.heap.size=A.h:=fun e=>by have:=HLOW.out A.h (Or.inl (by unfold Cor;omega));omega
     have HP3:=hyd (HP2.out.chg G3 n1)
     have HQ3:=hyd (HQ2.out.chg G3 n0)
     have HO3:=hyd (HO2.out.chg G3 (fun k hk he e=>by have:=(HO2.out.block he).1;have:=HLOW.out A.h (Or.inl (by unfold Cor;omega));omega))
     have HG3:=hyd (HG2.out.trans G3.cor_h)
     have hz3:w2.heap.size<=w3.heap.size:=G3.size
     obtain⟨r0,r1,r2,r3,r4,r5,r6,r7,r8⟩:=(HP3.out.chg ((Chg.refl (fun _=>False) w3).drew) (fun f=>f)).cells
     clear hrp K3 G3 HP2 HQ2 HO2 HG2 HK2 how hbl2 p6 p8 c2 c10 n0 n1
     go_wp2_with fail
     go_region_held3 (fun wx=>wx.cell? ⟨w1.heap.size,0,none⟩=some (.bool Z.2.1.tagged)/\wx.cell? ⟨w1.heap.size,1,none⟩=some (.int .i64 (Z.2.1.p:Nat))/\wx.cell? ⟨w1.heap.size,2,none⟩=some (.int .i64 (Z.2.1.o:Nat))/\wx.cell? ⟨w1.heap.size,3,none⟩=some (.int .i64 (Z.2.1.s:Nat))/\wx.cell? ⟨w1.heap.size,4,none⟩=some (.int .i64 (Z.2.1.c:Nat))/\wx.cell? ⟨w1.heap.size,5,none⟩=some (.bool Z.2.1.l)/\wx.cell? ⟨w1.heap.size,6,none⟩=some (.bool Z.2.1.sound)/\wx.cell? ⟨w1.heap.size,7,none⟩=some (.slice va vn vk)/\wx.cell? ⟨w1.heap.size,8,none⟩=some (.int .i64 (Z.2.1.dmg:Nat)))
      (first | (with_reducible exact⟨u0,u1,u2,u3,u4,u5,u6,u7,u8⟩) | (with_reducible exact⟨x0,x1,x2,x3,x4,x5,x6,x7,x8⟩) | (with_reducible exact⟨r0,r1,r2,r3,r4,r5,r6,r7,r8⟩))
      (first
       | (go_at_call 92;refine(add_k A _ _ (HK3.out.drewN 1) _).mono ?_;rintro e w4 ⟨rfl,k4,g4⟩;have nc1:¬ w1.heap.size=A.c:=(fun e=>by have:=HLOW.out A.c (Or.inl (by unfold Cor;omega));omega);have nc0:¬ w.heap.size=A.c:=(fun e=>by have:=HLOW.out A.c (Or.inl (by unfold Cor;omega));omega);have HK4:=hyd k4;have HG4:=hyd (HG3.out.drew.trans g4.cor_c);have HP4:=hyd (HP3.out.chg ((Chg.refl (·=A.c) w3).drew.trans g4) nc1);have HQ4:=hyd (HQ3.out.chg ((Chg.refl (·=A.c) w3).drew.trans g4) nc0);have HO4:=hyd (HO3.out.chg ((Chg.refl (·=A.c) w3).drew.trans g4) (fun k hk he e=>by have:=(HO3.out.block he).1;have:=HLOW.out A.c (Or.inl (by unfold Cor;omega));omega));obtain⟨x0,x1,x2,x3,x4,x5,x6,x7,x8⟩:=HP4.out.cells;obtain⟨y0,y1,y2,y3,y4,y5,y6,y7,y8⟩:=HQ4.out.cells;have z0:=HQ4.out.frozen 0;have z1:=HQ4.out.frozen 1;have z2:=HQ4.out.frozen 2;have z3:=HQ4.out.frozen 3;have z4:=HQ4.out.frozen 4;have z5:=HQ4.out.frozen 5;have z6:=HQ4.out.frozen 6;have z7:=HQ4.out.frozen 7;have z8:=HQ4.out.frozen 8;obtain⟨P5,G5⟩:=HQ4.out.all Z.2.1.tagged (Z.2.1.p:Nat) (Z.2.1.o:Nat) (Z.2.1.s:Nat) (Z.2.1.c:Nat) Z.2.1.l Z.2.1.sound (.slice va vn vk) (Z.2.1.dmg:Nat);obtain⟨u0,u1,u2,u3,u4,u5,u6,u7,u8⟩:=(HP4.out.chg G5 (by omega)).cells;have HP5:=hyd P5;have HG5':=hyd G5;clear P5 G5;clear k4 g4 nc1 nc0))
     have HK5:=hyd (HK4.out.far HLOW.out (Nat.le_refl _) HG5'.out)
     have HO5:=hyd (HO4.out.chg HG5'.out (fun k hk he e=>by have:=(HO4.out.block he).1;omega))
     have HG5:=hyd (HG4.out.trans' HG5'.out (fun k hk e=>by omega))
     clear y0 y1 y2 y3 y4 y5 y6 y7 y8 z0 z1 z2 z3 z4 z5 z6 z7 z8 u0 u1 u2 u3 u4 u5 u6 u7 u8 x0 x1 x2 x3 x4 x5 x6 x7 x8
     go_wp2
     refine bodyPost_ret (results_pg2 rfl _ rfl HP5.out) rfl ?_
     rw[HE2.out]
     have ea:Patrol.adC ((p:Int) / 8)=0:=by unfold Patrol.adC;rw[if_neg (by omega)]
     have hk:=HK5.out
     rw[show ((p:Nat):Int) / 8=((p / 8:Nat):Int) by omega] at hk
     rw[ea]
     exact⟨_,rfl,HO5.out.mono (fun k hk=>by have:=(HO5.out.block hk).1;omega),hk,HG5.out⟩
    ·
     rw[hsd] at p6
     clear hsd
     go_wp2_with (first | (go_at_call 89;refine how.mono ?_;rintro e w2 ⟨rfl,rfl⟩) | (go_at_call 90;refine hbl2.mono ?_;rintro e w2 ⟨rfl,rfl⟩))
     refine hrp.mono ?_
     rintro e w3 ⟨rfl,K3,G3⟩
     have HK3:=hyd K3
     have n1:¬ w1.heap.size=A.h:=fun e=>by have:=HLOW.out A.h (Or.inl (by unfold Cor;omega));omega
     have n0:¬ w.heap.size=A.h:=fun e=>by have:=HLOW.out A.h (Or.inl (by unfold Cor;omega));omega
     have HP3:=hyd (HP2.out.chg G3 n1)
     have HQ3:=hyd (HQ2.out.chg G3 n0)
     have HO3:=hyd (HO2.out.chg G3 (fun k hk he e=>by have:=(HO2.out.block he).1;have:=HLOW.out A.h (Or.inl (by unfold Cor;omega));omega))
     have HG3:=hyd (HG2.out.trans G3.cor_h)
     have hz3:w2.heap.size<=w3.heap.size:=G3.size
     obtain⟨r0,r1,r2,r3,r4,r5,r6,r7,r8⟩:=(HP3.out.chg ((Chg.refl (fun _=>False) w3).drew) (fun f=>f)).cells
     clear hrp K3 G3 HP2 HQ2 HO2 HG2 HK2 how hbl2 p6 p8 c2 c10 n0 n1
     go_wp2_with fail
     go_region_held3 (fun wx=>wx.cell? ⟨w1.heap.size,0,none⟩=some (.bool Z.2.1.tagged)/\wx.cell? ⟨w1.heap.size,1,none⟩=some (.int .i64 (Z.2.1.p:Nat))/\wx.cell? ⟨w1.heap.size,2,none⟩=some (.int .i64 (Z.2.1.o:Nat))/\wx.cell? ⟨w1.heap.size,3,none⟩=some (.int .i64 (Z.2.1.s:Nat))/\wx.cell? ⟨w1.heap.size,4,none⟩=some (.int .i64 (Z.2.1.c:Nat))/\wx.cell? ⟨w1.heap.size,5,none⟩=some (.bool Z.2.1.l)/\wx.cell? ⟨w1.heap.size,6,none⟩=some (.bool Z.2.1.sound)/\wx.cell? ⟨w1.heap.size,7,none⟩=some (.slice va vn vk)/\wx.cell? ⟨w1.heap.size,8,none⟩=some (.int .i64 (Z.2.1.dmg:Nat)))
      (first | (with_reducible exact⟨u0,u1,u2,u3,u4,u5,u6,u7,u8⟩) | (with_reducible exact⟨x0,x1,x2,x3,x4,x5,x6,x7,x8⟩) | (with_reducible exact⟨r0,r1,r2,r3,r4,r5,r6,r7,r8⟩))
      (first
       | (go_at_call 92;refine(add_k A _ _ (HK3.out.drewN 1) _).mono ?_;rintro e w4 ⟨rfl,k4,g4⟩;have nc1:¬ w1.heap.size=A.c:=(fun e=>by have:=HLOW.out A.c (Or.inl (by unfold Cor;omega));omega);have nc0:¬ w.heap.size=A.c:=(fun e=>by have:=HLOW.out A.c (Or.inl (by unfold Cor;omega));omega);have HK4:=hyd k4;have HG4:=hyd (HG3.out.drew.trans g4.cor_c);have HP4:=hyd (HP3.out.chg ((Chg.refl (·=A.c) w3).drew.trans g4) nc1);have HQ4:=hyd (HQ3.out.chg ((Chg.refl (·=A.c) w3).drew.trans g4) nc0);have HO4:=hyd (HO3.out.chg ((Chg.refl (·=A.c) w3).drew.trans g4) (fun k hk he e=>by have:=(HO3.out.block he).1;have:=HLOW.out A.c (Or.inl (by unfold Cor;omega));omega));obtain⟨x0,x1,x2,x3,x4,x5,x6,x7,x8⟩:=HP4.out.cells;obtain⟨y0,y1,y2,y3,y4,y5,y6,y7,y8⟩:=HQ4.out.cells;have z0:=HQ4.out.frozen 0;have z1:=HQ4.out.frozen 1;have z2:=HQ4.out.frozen 2;have z3:=HQ4.out.frozen 3;have z4:=HQ4.out.frozen 4;have z5:=HQ4.out.frozen 5;have z6:=HQ4.out.frozen 6;have z7:=HQ4.out.frozen 7;have z8:=HQ4.out.frozen 8;obtain⟨P5,G5⟩:=HQ4.out.all Z.2.1.tagged (Z.2.1.p:Nat) (Z.2.1.o:Nat) (Z.2.1.s:Nat) (Z.2.1.c:Nat) Z.2.1.l Z.2.1.sound (.slice va vn vk) (Z.2.1.dmg:Nat);obtain⟨u0,u1,u2,u3,u4,u5,u6,u7,u8⟩:=(HP4.out.chg G5 (by omega)).cells;have HP5:=hyd P5;have HG5':=hyd G5;clear P5 G5;clear k4 g4 nc1 nc0))
     have HK5:=hyd (HK4.out.far HLOW.out (Nat.le_refl _) HG5'.out)
     have HO5:=hyd (HO4.out.chg HG5'.out (fun k hk he e=>by have:=(HO4.out.block he).1;omega))
     have HG5:=hyd (HG4.out.trans' HG5'.out (fun k hk e=>by omega))
     clear y0 y1 y2 y3 y4 y5 y6 y7 y8 z0 z1 z2 z3 z4 z5 z6 z7 z8 u0 u1 u2 u3 u4 u5 u6 u7 u8 x0 x1 x2 x3 x4 x5 x6 x7 x8
     go_wp2
     refine bodyPost_ret (results_pg2 rfl _ rfl HP5.out) rfl ?_
     rw[HE2.out]
     have ea:Patrol.adC ((p:Int) / 8)=0:=by unfold Patrol.adC;rw[if_neg (by omega)]
     have hk:=HK5.out
     rw[show ((p:Nat):Int) / 8=((p / 8:Nat):Int) by omega] at hk
     rw[ea]
     exact⟨_,rfl,HO5.out.mono (fun k hk=>by have:=(HO5.out.block hk).1;omega),hk,HG5.out⟩
 ·
  have HE2:Hid (inK K p=(Z.1,Pg.zero,Z.2.2)):=by show inK K p=_;rw[HE.out,if_pos hc]
  replace q:∀ w,(binOp .neq 33 (errV Z.2.2) .nilIface).run Tryz.prog w=.ok (.bool true) w:=fun w=>by rw[q,decide_eq_false hc];rfl
  clear hc HE hbl
  go_wp2_with (first | refine wpList_store_pg rfl (.tmp 4) (.tmp 20) rfl w.heap.size rfl rfl rfl HQ2.out ?_)
  intro w3 P3 G3
  have HP3:=hyd P3
  have HK3:=hyd (HK2.out.far HLOW.out (Nat.le_refl _) G3)
  have HG3:=hyd (HG2.out.trans' G3 (fun k hk e=>by omega))
  clear P3 G3 HQ2 HK2 HG2 HP2 HO2
  go_wp2
  refine bodyPost_ret (results_pg2 rfl _ rfl HP3.out) rfl ?_
  rw[HE2.out]
  exact⟨.slice none 0 0,rfl,ownT_nil _ _,HK3.out,HG3.out⟩
end Go.Proofs.YtbhbilcieodbhaaGreat
/-
  The free blocks are erased, a core is cleaned. Condition: the core lies in memory.
-/
namespace Go.Proofs.YtbhbilcieodbhaaGreat
set_option maxRecDepth 100000
open Go.RowKit
def efK (S:Nat->Int):Nat->Nat->Kor->Bool->Kor × Bool × Nat
 | 0,_,K,b=>(K,b,0)
 | n+1,i,K,b=>if S i≠0 then efK S n (i+1) K b else
  if (erK K i).2=7 then ((erK K i).1,false,7) else
  if (erK K i).2≠0 then efK S n (i+1) (spK (erK K i).1 (i:Nat)) true else efK S n (i+1) (erK K i).1 b
def unw (c:Nat):Nat:=if c=14 then 0 else c
def cnK (n:Nat) (K:Kor):Option (Kor × Nat):=
 if K.dd=true then some (K,0) else
 if (efK K.F 12 0 K false).2.2≠0 then some ((efK K.F 12 0 K false).1,(efK K.F 12 0 K false).2.2) else
 if (efK K.F 12 0 K false).1.L 24≠-1/\(efK K.F 12 0 K false).2.1=false then some ((efK K.F 12 0 K false).1,0) else
 (anR n noH (efK K.F 12 0 K false).1 24).map fun y=>(y.1,unw y.2)
theorem unless_k (c:Nat) (w:World):Calls Tryz.prog 75 #[errV c] w fun e w'=>e=.returned (errV (unw c))/\w'=w:=by
 have his:=is_v c 14 (by decide) w
 unfold unw
 by_cases h:c=14
 ·
  rw[decide_eq_true h] at his
  rw[if_pos h]
  clear h
  generalize errV c=x at *
  go_enter Tryz.func75,Tryz.ntmps75
  go_wp2_with (go_at_call 46;refine his.mono ?_;rintro e w ⟨rfl,rfl⟩)
  go_ret
  exact⟨rfl,rfl⟩
 ·
  rw[decide_eq_false h] at his
  rw[if_neg h]
  clear h
  generalize errV c=x at *
  go_enter Tryz.func75,Tryz.ntmps75
  go_wp2_with (go_at_call 46;refine his.mono ?_;rintro e w ⟨rfl,rfl⟩)
  go_ret
  exact⟨rfl,rfl⟩
theorem efK_code (S:Nat->Int):∀ n i K b,(efK S n i K b).2.2=0\/(efK S n i K b).2.2=7:=by
 intro n
 induction n with
 | zero=>intro i K b;exact Or.inl rfl
 | succ n ih=>
  intro i K b
  rw[efK]
  split
  ·
   exact ih _ _ _
  ·
   split
   ·
    exact Or.inr rfl
   ·
    split <;> exact ih _ _ _
theorem failC_mem (c:Nat):failC c=0\/failC c=7\/failC c=8:=by
 unfold failC
 split
 ·
  rename_i h;rcases h with h | h <;> rw[h] <;> simp
 ·
  simp
set_option maxHeartbeats 2000000 in
theorem eraseFree_k (A:Ad) (w:World) (K:Kor) (h:CoreAt A w K) :
 Calls Tryz.prog 105 #[.pointer (some ⟨A.c,0,none⟩)] w fun e w'=>e=.returned (.tuple #[.bool (efK K.F 12 0 K false).2.1,errV (efK K.F 12 0 K false).2.2])/\CoreAt A w' (efK K.F 12 0 K false).1/\Chg (Cor A) w w':=by
 obtain⟨c1,-⟩:=h.cPool
 have hst:=Pool.states_any w A.po K.F h.pool
 have HK:=hyd h
 have q:=neq_er
 have g:=guard_neq
 obtain⟨X,HX⟩:∃ X,Hid (efK K.F 12 0 K false=X):=⟨_,rfl⟩
 rw[HX.out]
 clear h
 go_enter Tryz.func105,Tryz.ntmps105
 go_wp2_with (go_at_call 53;refine hst.mono ?_;rintro e w1 ⟨rfl,I1,G1⟩)
 have HI:=hyd I1
 have HK1:=hyd (HK.out.chg0 G1)
 have HG1:=hyd (Chg.cor0 (A:=A) G1)
 have HN:Hid (¬ Cor A w.heap.size):=HK.out.apart (Nat.le_refl _)
 have hs1:w.heap.size<w1.heap.size:=I1.lt
 clear hst c1 I1 G1
 go_loopg [4,14] 12 (fun kx s4 s14 wr=>∃ (i:Nat) (Ki:Kor) (b:Bool),s14=.int .i64 i/\s4=.bool b/\i<=12/\12 - i<=kx/\Hid (CoreAt A wr Ki)/\Hid (Chg (Cor A) w wr)/\Hid (IB wr w.heap.size 3 12 K.F)/\Hid (efK K.F (12 - i) i Ki b=X))
 case atStart=>exact⟨0,K,false,rfl,rfl,by omega,by omega,HK1.out,HG1.out,HI.out,HX.out⟩
 case round=>
  obtain⟨i,Ki,b,rfl,rfl,hi,hkx,HC,HG,HJ,HE⟩:=hrel
  by_cases hlt:i<12
  ·
   have hltz:(i:Int)<12:=by omega
   obtain⟨ci,-⟩:=HJ.out.cell i hlt
   obtain⟨m,hm⟩:∃ m,12 - i=m+1:=⟨11 - i,by omega⟩
   have hm2:12 - (i+1)=m:=by omega
   have HE2:Hid ((if K.F i≠0 then efK K.F m (i+1) Ki b else if (erK Ki i).2=7 then ((erK Ki i).1,false,7) else if (erK Ki i).2≠0 then efK K.F m (i+1) (spK (erK Ki i).1 (i:Nat)) true else efK K.F m (i+1) (erK Ki i).1 b)=X):=by
    have:=HE.out
    rw[hm,efK] at this
    exact this
   have her:=erase_k A wr Ki HC.out i hlt
   have HM2:=hyd hm2
   clear hm hm2 HE
   generalize K.F i=fi at *
   by_cases h0:fi=0
   ·
    subst h0
    have hcd:(erK Ki i).2=0\/(erK Ki i).2=7\/(erK Ki i).2=8:=by
     unfold erK
     dsimp only
     split
     ·
      exact Or.inl rfl
     ·
      exact failC_mem _
    have HCD:=hyd hcd
    clear hcd
    generalize erK Ki i=Y at *
    go_wp2_with fail
    refine her.mono ?_
    rintro e w2 ⟨rfl,k2,g2⟩
    have HK2:=hyd k2
    have HG2:=hyd (HG.out.trans g2)
    have HJ2:=hyd (HJ.out.chg g2 HN.out)
    have his:=is_v Y.2 7 (by decide) w2
    have hsp:=spoil_k A w2 Y.1 k2 (i:Nat)
    clear her k2 g2 ci HC HG HJ
    rcases HCD.out with e | e | e
    ·
     rw[decide_eq_false (by rw[e];decide)] at his
     have HE3:Hid (efK K.F m (i+1) Y.1 b=X):=by
      have:=HE2.out
      rw[if_neg (by simp),if_neg (by rw[e];decide),if_neg (by rw[e];simp)] at this
      exact this
     replace q:∀ w,(binOp .neq 33 (errV Y.2) .nilIface).run Tryz.prog w=.ok (.bool false) w:=fun w=>by rw[q,decide_eq_true e];rfl
     clear HE2 HCD hsp e
     go_wp2_with (go_at_call 46;refine his.mono ?_;rintro e w2 ⟨rfl,rfl⟩)
     go_roundg (12 - (i+1))
     case measure=>omega
     case rel=>exact⟨i+1,Y.1,b,by simp,rfl,by omega,Nat.le_refl _,HK2.out,HG2.out,HJ2.out,by rw[HM2.out];exact HE3.out⟩
    ·
     rw[decide_eq_true e] at his
     have HE3:Hid ((Y.1,false,7)=X):=by
      have:=HE2.out
      rw[if_neg (by simp),if_pos e] at this
      exact this
     have HY:=hyd e
     clear HE2 HCD hsp e
     go_wp2_with (go_at_call 46;refine his.mono ?_;rintro e w2 ⟨rfl,rfl⟩)
     go_ret2
     rw[<-HE3.out,HY.out]
     exact⟨rfl,HK2.out,HG2.out⟩
    ·
     rw[decide_eq_false (by rw[e];decide)] at his
     have HE3:Hid (efK K.F m (i+1) (spK Y.1 (i:Nat)) true=X):=by
      have:=HE2.out
      rw[if_neg (by simp),if_neg (by rw[e];decide),if_pos (by rw[e];decide)] at this
      exact this
     replace q:∀ w,(binOp .neq 33 (errV Y.2) .nilIface).run Tryz.prog w=.ok (.bool true) w:=fun w=>by rw[q,decide_eq_false (by rw[e];decide)];rfl
     clear HE2 HCD e
     go_wp2_with (go_at_call 46;refine his.mono ?_;rintro e w2 ⟨rfl,rfl⟩)
     refine hsp.mono ?_
     rintro e w3 ⟨rfl,k3,g3⟩
     have HK3:=hyd k3
     have HG3:=hyd (HG2.out.trans g3)
     have HJ3:=hyd (HJ2.out.chg g3 HN.out)
     clear hsp k3 g3 HK2 HG2 HJ2 his
     go_wp2
     go_roundg (12 - (i+1))
     case measure=>omega
     case rel=>exact⟨i+1,_,true,by simp,rfl,by omega,Nat.le_refl _,HK3.out,HG3.out,HJ3.out,by rw[HM2.out];exact HE3.out⟩
   ·
    have h0b:(fi == 0)=false:=by simp[h0]
    have HE3:Hid (efK K.F m (i+1) Ki b=X):=by
     have:=HE2.out
     rw[if_pos h0] at this
     exact this
    clear HE2 her h0
    go_wp2
    go_roundg (12 - (i+1))
    case measure=>omega
    case rel=>exact⟨i+1,Ki,b,by simp,rfl,by omega,Nat.le_refl _,HC.out,HG.out,HJ.out,by rw[HM2.out];exact HE3.out⟩
  ·
   have hltz:¬ (i:Int)<12:=by omega
   have e:i=12:=by omega
   subst e
   have HE3:Hid ((Ki,b,0)=X):=HE.out
   go_wp2
   go_ret2
   rw[<-HE3.out]
   exact⟨rfl,HC.out,HG.out⟩
set_option maxHeartbeats 2000000 in
theorem clean_k (A:Ad) (w:World) (K:Kor) (h:CoreAt A w K) (n:Nat) (Z:Kor × Nat) (hZ:cnK n K=some Z) :
 Calls Tryz.prog 69 #[.pointer (some ⟨A.c,0,none⟩)] w fun e w'=>e=.returned (errV Z.2)/\CoreAt A w' Z.1/\Chg (Cor A) w w':=by
 obtain⟨c97,-⟩:=h.cDd
 have hef:=eraseFree_k A w K h
 have q:=neq_er
 have g:=guard_neq
 have HK:=hyd h
 unfold cnK at hZ
 cases hd:K.dd
 ·
  rw[hd] at c97 hZ
  rw[if_neg (by simp)] at hZ
  have hcd:=efK_code K.F 12 0 K false
  generalize efK K.F 12 0 K false=X at *
  clear h hd
  by_cases h7:X.2.2≠0
  ·
   rw[if_pos h7] at hZ
   have HZ:Hid ((X.1,X.2.2)=Z):=Option.some.inj hZ
   replace q:∀ w,(binOp .neq 33 (errV X.2.2) .nilIface).run Tryz.prog w=.ok (.bool true) w:=fun w=>by rw[q,decide_eq_false h7];rfl
   clear hZ h7 hcd
   go_enter Tryz.func69,Tryz.ntmps69
   go_wp2_with (go_at_call 105;refine hef.mono ?_;rintro e w1 ⟨rfl,k1,g1⟩;have HK1:=hyd k1;have HG1:=hyd g1;clear k1 g1)
   go_ret
   rw[<-HZ.out]
   exact⟨rfl,HK1.out,HG1.out⟩
  ·
   rw[if_neg h7] at hZ
   have h0:X.2.2=0:=by simpa using h7
   have HZ:=hyd hZ
   replace q0:∀ w,(binOp .neq 33 (errV X.2.2) .nilIface).run Tryz.prog w=.ok (.bool false) w:=fun w=>by rw[q,decide_eq_true h0];rfl
   clear hZ h7 hcd h0
   go_enter Tryz.func69,Tryz.ntmps69
   go_wp2_with fail
   refine hef.mono ?_
   rintro e w1 ⟨rfl,k1,g1⟩
   obtain⟨c2,-⟩:=k1.cMap
   have hat:=Pmap.at_v w1 A.ma X.1.L k1.map (24:Nat)
   have HK1:=hyd k1
   have HG1:=hyd g1
   clear hef k1 g1 c97
   have key:∀ (y:Kor × Nat),anR n noH X.1 24=some y->Z=(y.1,unw y.2)->Calls Tryz.prog 78 #[.pointer (some ⟨A.c,0,none⟩)] w1 fun e w'=>e=.returned (errV y.2)/\CoreAt A w' y.1/\Chg (Cor A) w1 w':=fun y hy _=>note_k A n (anew_k A n) w1 X.1 HK1.out y hy
   by_cases hl:X.1.L 24 = -1
   ·
    have e24:Pmap.atC X.1.L (24:Nat)=11:=by unfold Pmap.atC;rw[if_neg (by omega)];simp[hl]
    rw[e24] at hat
    have HZ2:=HZ.out
    rw[if_neg (fun e=>e.1 hl)] at HZ2
    obtain⟨y,hy,hyz⟩:∃ y,anR n noH X.1 24=some y/\Z=(y.1,unw y.2):=by
     cases ea:anR n noH X.1 24 with
     | none=>rw[ea] at HZ2;cases HZ2
     | some y=>rw[ea] at HZ2;exact⟨y,rfl,(Option.some.inj HZ2).symm⟩
    have hnt:=key y hy hyz
    have HYZ:=hyd hyz
    have q1:∀ w,(binOp .eql 33 (errV 11) .nilIface).run Tryz.prog w=.ok (.bool false) w:=fun w=>eql_er 11 w
    have g1:=guard_eql
    clear key HZ HZ2 hl hy hyz e24 q
    generalize Pmap.atV X.1.L (24:Nat)=av at *
    go_wp2_with (go_at_call 56;refine hat.mono ?_;rintro e w1 ⟨rfl,rfl⟩)
    refine hnt.mono ?_
    rintro e w2 ⟨rfl,k2,g2⟩
    have HK2:=hyd k2
    have HG2:=hyd (HG1.out.trans g2)
    have hun:=unless_k y.2 w2
    clear hnt k2 g2 hat
    go_wp2_with (go_at_call 75;refine hun.mono ?_;rintro e w2 ⟨rfl,rfl⟩)
    go_ret
    rw[HYZ.out]
    exact⟨rfl,HK2.out,HG2.out⟩
   ·
    have e24:Pmap.atC X.1.L (24:Nat)=0:=by unfold Pmap.atC;rw[if_neg (by omega)];simp[hl]
    rw[e24] at hat
    have q1:∀ w,(binOp .eql 33 (errV 0) .nilIface).run Tryz.prog w=.ok (.bool true) w:=fun w=>eql_er 0 w
    have g1:=guard_eql
    generalize Pmap.atV X.1.L (24:Nat)=av at *
    cases hb:X.2.1
    ·
     have HZ2:=HZ.out
     rw[if_pos ⟨hl,hb⟩] at HZ2
     have HZ3:Hid ((X.1,0)=Z):=Option.some.inj HZ2
     clear key HZ HZ2 hl e24 q
     clear hb
     go_wp2_with (go_at_call 56;refine hat.mono ?_;rintro e w1 ⟨rfl,rfl⟩)
     go_ret
     rw[<-HZ3.out]
     exact⟨rfl,HK1.out,HG1.out⟩
    ·
     have HZ2:=HZ.out
     rw[if_neg (fun e=>by rw[hb] at e;exact absurd e.2 (by decide))] at HZ2
     obtain⟨y,hy,hyz⟩:∃ y,anR n noH X.1 24=some y/\Z=(y.1,unw y.2):=by
      cases ea:anR n noH X.1 24 with
      | none=>rw[ea] at HZ2;cases HZ2
      | some y=>rw[ea] at HZ2;exact⟨y,rfl,(Option.some.inj HZ2).symm⟩
     have hnt:=key y hy hyz
     have HYZ:=hyd hyz
     clear key HZ HZ2 hl hy hyz e24 q
     clear hb
     go_wp2_with (go_at_call 56;refine hat.mono ?_;rintro e w1 ⟨rfl,rfl⟩)
     refine hnt.mono ?_
     rintro e w2 ⟨rfl,k2,g2⟩
     have HK2:=hyd k2
     have HG2:=hyd (HG1.out.trans g2)
     have hun:=unless_k y.2 w2
     clear hnt k2 g2 hat
     go_wp2_with (go_at_call 75;refine hun.mono ?_;rintro e w2 ⟨rfl,rfl⟩)
     go_ret
     rw[HYZ.out]
     exact⟨rfl,HK2.out,HG2.out⟩
 ·
  rw[hd] at c97 hZ
  rw[if_pos rfl] at hZ
  have HZ:Hid ((K,0)=Z):=Option.some.inj hZ
  clear hef hZ h hd
  go_enter Tryz.func69,Tryz.ntmps69
  go_wp2
  go_ret
  rw[<-HZ.out]
  exact⟨rfl,HK.out,Chg.refl _ _⟩
end Go.Proofs.YtbhbilcieodbhaaGreat
/-
  A sector is read. Condition: the core lies in memory.
-/
namespace Go.Proofs.YtbhbilcieodbhaaGreat
set_option maxRecDepth 100000
open Go.RowKit
def Bs (w2 wr:World) (v:Value) (L:List Nat):Prop:=Own wr w2.heap.size 5 v L/\Chg (fun _=>False) w2 wr
theorem Bs.grown {w2 wr w':World} {v v':Value} {L L':List Nat} (h:Bs w2 wr v L) (h1:Own w' w2.heap.size 5 v' L') (h2:wr.grownBy w' v.ownBlock):Bs w2 w' v' L':=
 ⟨h1,h.2.grown h2 (fun _ hk=>Or.inr (h.1.block hk).1)⟩
theorem eql_slice (a:Addr) (n cap:Nat) (w:World):(binOp .eql 35 (.slice (some a) n cap) (.slice none 0 0)).run Tryz.prog w=.ok (.bool false) w:=by kernel_rfl
theorem clone_any (w:World) (g o n cap:Nat) (D:List Nat) (hn:D.length=n) (hn0:n<=1000) (hA:∀ j,j<n->w.cell? ⟨g,o+j,none⟩=some (.int .u8 (D.getD j 0:Nat))) (hg:g<w.heap.size) :
 Calls Tryz.prog 58 #[.slice (some ⟨g,o,none⟩) n cap] w fun e w'=>∃ v,e=.returned v/\Own w' w.heap.size 5 v D/\Chg (fun _=>False) w w':=by
 have hi5:=info5
 have hes:=eql_slice ⟨g,o,none⟩ n cap
 have B0:Bs w (w.alloc (.cells (bcells (List.replicate 0 0)) 5)) (.slice (some ⟨w.heap.size,0,none⟩) 0 0) []:=⟨Own.new w 5 [] (by decide),(Chg.refl _ _).alloc _⟩
 have HB0:=hyd B0
 have HA:=hyd hA
 have HN:=hyd hn
 have HN0:=hyd hn0
 have HG:=hyd hg
 clear B0 hA hn hn0 hg
 go_enter Tryz.func58,Tryz.ntmps58
 go_wp2_with (at_builtin;refine wpList_append_bytes _ rfl _ _ 35 rfl w.heap.size 5 Tryz.underlying35 hi5 _ [] rfl HB0.out.1 (some ⟨g,o,none⟩) n cap D rfl HN.out ?h1 ?h2 ?h3 ?h4 (w.heap.size+1) ?h5 ?_)
 case h1=>exact fun e=>by cases e
 case h2=>
  intro ad had j hj
  injection had with had
  subst had
  have:=HA.out j hj
  rw[<-this]
  rw[Addr.add_mid]
  exact World.cell?_alloc_past _ _ _ HG.out
 case h3=>have:=HN0.out;simp;omega
 case h4=>simp
 case h5=>simp
 intro v3 w3 O3 g3 _
 have B3:Bs w w3 v3 D:=HB0.out.grown O3 g3
 have HB3:=hyd B3
 clear O3 g3 B3
 go_wp2
 go_ret
 exact⟨v3,rfl,HB3.out.1,HB3.out.2⟩
def geK (K:Kor) (o:Nat):Kor × List Nat × Nat:=
 if K.L o = -1 then (K,List.replicate 160 0,0) else
 let x:=inK K (K.L o).toNat
 if x.2.2≠0 then (x.1,[],x.2.2) else
 if x.2.1.sound=false\/x.2.1.l=true then (x.1,[],13) else (x.1,x.2.1.data.take 160,0)
theorem inK_sound {K:Kor} (hK:Wf K) {p:Nat} (h:(inK K p).2.1.sound=true):(inK K p).2.1.data.length=174/\Bys (inK K p).2.1.data:=by
 have key:=fun e=>rdK_sound hK (p:=p) e
 unfold inK at h ⊢
 generalize rdK K p=x at *
 dsimp only at h ⊢
 split at h
 ·
  cases h
 ·
  rename_i c
  rw[if_neg c]
  split at h
  ·
   rename_i c2;rw[if_pos c2];exact key h
  ·
   rename_i c2
   rw[if_neg c2]
   split at h
   ·
    rename_i c3;rw[if_pos c3];exact key h
   ·
    rename_i c3;rw[if_neg c3];exact key h
theorem make160 (w:World):(Instr.makeSlice 35 (.int .i64 160) (.int .i64 160)).run Tryz.prog w=.ok (.slice (some ⟨w.heap.size,0,none⟩) 160 160) (w.alloc (.cells (bcells (List.replicate 160 0)) 5)):=by kernel_rfl
set_option maxHeartbeats 1000000 in
theorem get_k (A:Ad) (w:World) (K:Kor) (h:CoreAt A w K) (o:Nat) (ho:o<24) :
 Calls Tryz.prog 37 #[.pointer (some ⟨A.c,0,none⟩),.int .i64 (o:Nat)] w fun e w'=>∃ v,e=.returned (.tuple #[v,errV (geK K o).2.2])/\Own w' w.heap.size 5 v (geK K o).2.1/\CoreAt A w' (geK K o).1/\Chg (Cor A) w w':=by
 have hs:=sector_yes w (o:Nat) (by omega)
 obtain⟨c2,-⟩:=h.cMap
 have hat:=Pmap.at_v w A.ma K.L h.map (o:Nat)
 have q:=neq_er
 have g:=guard_neq
 by_cases hl:K.L o = -1
 ·
  have e1:Pmap.atC K.L (o:Nat)=11:=by unfold Pmap.atC;rw[if_neg (by omega)];simp[hl]
  rw[e1] at hat
  have HE:Hid (geK K o=(K,List.replicate 160 0,0)):=by show geK K o=_;unfold geK;rw[if_pos hl]
  replace q:∀ w,(binOp .neq 33 (errV 11) .nilIface).run Tryz.prog w=.ok (.bool true) w:=fun w=>q 11 w
  have hm:=make160
  have HO:=hyd (Own.new w 5 (List.replicate 160 0) (by decide))
  have HG:Hid (Chg (fun _=>False) w (w.alloc (.cells (bcells (List.replicate 160 0)) 5))):=(Chg.refl _ w).alloc _
  have HK:=hyd h
  generalize Pmap.atV K.L (o:Nat)=av at *
  clear h hl e1 ho
  go_enter Tryz.func37,Tryz.ntmps37
  go_wp2_with (first | (go_at_call 48;refine hs.mono ?_;rintro e w ⟨rfl,rfl⟩) | (go_at_call 56;refine hat.mono ?_;rintro e w ⟨rfl,rfl⟩))
  go_ret2
  rw[HE.out]
  exact⟨_,rfl,HO.out,HK.out.chg0 HG.out,HG.out.cor0⟩
 ·
  have e1:Pmap.atC K.L (o:Nat)=0:=by unfold Pmap.atC;rw[if_neg (by omega)];simp[hl]
  obtain⟨hp,hv,-⟩:=map_lt h.wf (by omega:o<25) e1
  rw[hv,e1] at hat
  have hin:=inspect_k A w K h (K.L o).toNat hp
  have HE:Hid (geK K o=if (inK K (K.L o).toNat).2.2≠0 then ((inK K (K.L o).toNat).1,[],(inK K (K.L o).toNat).2.2) else if (inK K (K.L o).toNat).2.1.sound=false\/(inK K (K.L o).toNat).2.1.l=true then ((inK K (K.L o).toNat).1,[],13) else ((inK K (K.L o).toNat).1,(inK K (K.L o).toNat).2.1.data.take 160,0)):=by
   show geK K o=_
   unfold geK
   rw[if_neg hl]
  have HSD:=hyd (fun e=>inK_sound h.wf (p:=(K.L o).toNat) e)
  have HLOW:=hyd h.low
  have q0:∀ w,(binOp .neq 33 (errV 0) .nilIface).run Tryz.prog w=.ok (.bool false) w:=fun w=>q 0 w
  generalize inK K (K.L o).toNat=Z at *
  generalize (K.L o).toNat=pp at *
  clear h hl e1 ho hv hp
  go_enter Tryz.func37,Tryz.ntmps37
  go_wp2_with (first | (go_at_call 48;refine hs.mono ?_;rintro e w ⟨rfl,rfl⟩) | (go_at_call 56;refine hat.mono ?_;rintro e w ⟨rfl,rfl⟩))
  refine hin.mono ?_
  rintro e w1 ⟨v,rfl,hO,k1,g1⟩
  have HO:=hyd hO
  have HK1:=hyd k1
  have HG1:=hyd g1
  have HP:=hyd (Pb.new w1 false 0 0 0 0 false false (.slice none 0 0) 0)
  have HGN:Hid (Chg (fun _=>False) w1 (w1.alloc (.cells #[.bool false,.int .i64 0,.int .i64 0,.int .i64 0,.int .i64 0,.bool false,.bool false,.slice none 0 0,.int .i64 0] 129))):=(Chg.refl _ w1).alloc _
  have hs1:=g1.size
  clear hat hin hO k1 g1 c2 hs
  unfold pgV
  go_wp2_with (first | refine wpList_store_pg rfl (.tmp 8) (.tmp 29) rfl w1.heap.size rfl rfl HO.out.one HP.out ?_)
  intro w2 P2 G2
  have HK2:=hyd ((HK1.out.chg0 HGN.out).far HLOW.out (by omega) G2)
  have HO2:=hyd ((HO.out.chg HGN.out (fun _ _ _ f=>f)).chg G2 (fun k hk he e=>by have:=HO.out.block he;omega))
  have HG2:=hyd ((HG1.out.trans HGN.out.cor0).trans' G2 (fun k hk e=>by omega))
  have hz2:=P2.lt
  obtain⟨p0,p1,p2,p3,p4,p5,p6,p7,p8⟩:=P2.cells
  clear G2 P2 HO HK1 HG1 HGN HP p0 p1 p2 p3 p4 p8
  by_cases hc:Z.2.2≠0
  ·
   have HE2:Hid (geK K o=(Z.1,[],Z.2.2)):=by show geK K o=_;rw[HE.out,if_pos hc]
   replace q:∀ w,(binOp .neq 33 (errV Z.2.2) .nilIface).run Tryz.prog w=.ok (.bool true) w:=fun w=>by rw[q,decide_eq_false hc];rfl
   clear hc HE HSD p5 p6 p7 q0
   go_wp2
   go_ret2
   rw[HE2.out]
   exact⟨_,rfl,Own.nil _ _ _,HK2.out,HG2.out⟩
  ·
   have h0:Z.2.2=0:=by simpa using hc
   replace q:∀ w,(binOp .neq 33 (errV Z.2.2) .nilIface).run Tryz.prog w=.ok (.bool false) w:=fun w=>by rw[q,decide_eq_true h0];rfl
   have HE1:Hid (geK K o=if Z.2.1.sound=false\/Z.2.1.l=true then (Z.1,[],13) else (Z.1,Z.2.1.data.take 160,0)):=by show geK K o=_;rw[HE.out,if_neg hc]
   clear hc HE h0 q0
   cases hsd:Z.2.1.sound
   ·
    have HE2:Hid (geK K o=(Z.1,[],13)):=by show geK K o=_;rw[HE1.out,if_pos (Or.inl hsd)]
    rw[hsd] at p6
    clear HE1 hsd HSD p5 p7
    go_wp2
    go_ret2
    rw[HE2.out]
    exact⟨_,rfl,Own.nil _ _ _,HK2.out,HG2.out⟩
   ·
    rw[hsd] at p6
    cases hll:Z.2.1.l
    ·
     have HE2:Hid (geK K o=(Z.1,Z.2.1.data.take 160,0)):=by show geK K o=_;rw[HE1.out,if_neg (by rw[hsd,hll];simp)]
     rw[hll] at p5
     obtain⟨d1,d2⟩:=HSD.out hsd
     obtain⟨gg,cap,hv,hb,hlt,hcc,hA,-⟩:=HO2.out.lies (by rw[d1];decide)
     rw[d1] at hv
     subst hv
     have hcl:=clone_any w2 gg 0 160 cap (Z.2.1.data.take 160) (by rw[List.length_take,d1];decide) (by decide) (fun j hj=>by
      rw[Nat.zero_add,hA j (by rw[d1];omega)]
      congr 2
      simp[List.getD_eq_getElem?_getD,hj]) hlt
     have HLE:Hid (w.heap.size<=w2.heap.size):=(show w.heap.size<=w2.heap.size by omega)
     have hcz:(160:Int)<=(cap:Int):=by rw[d1] at hcc;omega
     clear HE1 hsd hll HSD d1 d2 hA hb hlt HO2 hcc
     go_wp2_with fail
     refine hcl.mono ?_
     rintro e w3 ⟨v3,rfl,O3,G3⟩
     have HO3:=hyd (O3.mono (base':=w.heap.size) (fun k hk=>by have:=(O3.block hk).1;have:=HLE.out;omega))
     have HK3:=hyd (HK2.out.chg0 G3)
     have HG3:=hyd (HG2.out.trans G3.cor0)
     clear hcl O3 G3
     go_wp2
     go_ret2
     rw[HE2.out]
     exact⟨v3,rfl,HO3.out,HK3.out,HG3.out⟩
    ·
     have HE2:Hid (geK K o=(Z.1,[],13)):=by show geK K o=_;rw[HE1.out,if_pos (Or.inr hll)]
     rw[hll] at p5
     clear HE1 hsd hll HSD p7
     go_wp2
     go_ret2
     rw[HE2.out]
     exact⟨_,rfl,Own.nil _ _ _,HK2.out,HG2.out⟩
end Go.Proofs.YtbhbilcieodbhaaGreat
/-
  A sector is trimmed. Condition: the core lies in memory.
-/
namespace Go.Proofs.YtbhbilcieodbhaaGreat
set_option maxRecDepth 100000
open Go.RowKit
def tmH (o:Nat) (z:Int):Hol:=fun K q=>Point.wrL { ckK K q with F:=upd (ckK K q).F o z }
def tmK (n:Nat) (K:Kor) (o:Nat):Option (Kor × Nat):=
 if K.L o = -1 then some (K,0) else
 match anR n (tmH o (K.vs o:Nat)) K 24 with
 | none=>none
 | some y=>if y.2≠0 then some y else some ({ y.1 with fl:=upd y.1.fl o (K.vs o:Nat),L:=Pmap.dropL y.1.L (o:Nat) },Pmap.atC y.1.L (o:Nat))
theorem kc_flo (A:Ad) (K:Kor) (o:Nat) (ho:o<24) (z:Int) (j:Nat) (_:j<101) (_:j<83\/83+13<=j):upL (kc A K) (53+o) [.int .i64 z] j=kc A { K with fl:=upd K.fl o z } j:=by
 rw[upL_one]
 by_cases e:j=53+o
 ·
  subst e
  rw[if_pos rfl,kc_fl A _ o ho]
  show _=Value.int .i64 (upd K.fl o z o)
  unfold upd
  rw[if_pos rfl]
 ·
  rw[if_neg e]
  unfold kc
  by_cases h0:j=0
  ·
   simp only[if_pos h0]
  by_cases h1:j=1
  ·
   simp only[if_neg h0,if_pos h1]
  by_cases h2:j=2
  ·
   simp only[if_neg h0,if_neg h1,if_pos h2]
  by_cases h3:j<53
  ·
   simp only[if_neg h0,if_neg h1,if_neg h2,if_pos h3]
  by_cases h4:j<77
  ·
   simp only[if_neg h0,if_neg h1,if_neg h2,if_neg h3,if_pos h4]
   unfold upd
   rw[if_neg (by omega)]
  simp only[if_neg h0,if_neg h1,if_neg h2,if_neg h3,if_neg h4]
theorem Wf.fl' {K:Kor} (h:Wf K) {o:Nat} {z:Int} (hz:0<=z/\z<=1099511627775):Wf { K with fl:=upd K.fl o z }:=
 ⟨h.chip,h.rr,h.frm,h.map,h.vs,h.vp,h.vc,fun i hi=>by
  show 0<=upd K.fl o z i/\upd K.fl o z i<=1099511627775
  unfold upd
  split
  ·
   exact hz
  ·
   exact h.fl i hi,h.nx,h.fr,h.cu,h.qu,h.hea,h.tl⟩
theorem CoreAt.setFl {A:Ad} {w:World} {K:Kor} (h:CoreAt A w K) (o:Nat) (ho:o<24) (z:Int) (hz:0<=z/\z<=1099511627775):CoreAt A (w.setCell ⟨A.c,53+o,none⟩ (.int .i64 z)) { K with fl:=upd K.fl o z }:=
 h.setCore { K with fl:=upd K.fl o z } ⟨rfl,rfl,rfl,rfl,rfl,rfl,rfl,rfl,rfl⟩ (QB.ext (QB.set h.core (53+o) (.int .i64 z) (by omega)) (kc_flo A K o ho z)) ((Chg.refl (·=A.c) w).setCell (Or.inl rfl) _ _) (h.wf.fl' hz)
theorem drop_k (A:Ad) (w:World) (K:Kor) (h:CoreAt A w K) (o:Nat):Calls Tryz.prog 64 #[.pointer (some ⟨A.ma,0,none⟩),.int .i64 (o:Nat)] w fun e w'=>e=.returned (errV (Pmap.atC K.L (o:Nat)))/\CoreAt A w' { K with L:=Pmap.dropL K.L (o:Nat) }/\Chg (·=A.ma) w w':=by
 refine(Pmap.drop_v w A.ma K.L h.map h.wf.map (o:Nat)).mono ?_
 rintro e w' ⟨rfl,hM,hc,hO⟩
 refine⟨rfl,h.setMap hM hc (h.wf.map' hO fun i hi hLi=>h.wf.vp i hi fun e=>hLi ?_),hc⟩
 unfold Pmap.dropL
 split
 ·
  unfold upd
  split
  ·
   rfl
  ·
   exact e
 ·
  exact e
set_option maxHeartbeats 2000000 in
theorem trim_k (A:Ad) (w:World) (K:Kor) (h:CoreAt A w K) (o:Nat) (ho:o<24) (n:Nat) (Z:Kor × Nat) (hZ:tmK n K o=some Z) :
 Calls Tryz.prog 42 #[.pointer (some ⟨A.c,0,none⟩),.int .i64 (o:Nat)] w fun e w'=>e=.returned (errV Z.2)/\CoreAt A w' Z.1/\Chg (Cor A) w w':=by
 have GA:Chg (fun _=>False) w (w.alloc (.cells #[.int .i64 (o:Nat)] 3)):=(Chg.refl _ w).alloc _
 have hs:=fun w=>sector_yes w (o:Nat) (by omega)
 have K1:=h.chg0 GA
 obtain⟨c2,-⟩:=(K1.drewN 1).cMap
 have hB0:(w.alloc (.cells #[.int .i64 (o:Nat)] 3)).drew.cell? ⟨w.heap.size,0,none⟩=some (.int .i64 (o:Nat)):=by
  have h1:(w.alloc (.cells #[.int .i64 (o:Nat)] 3)).heap[w.heap.size]?=some (.cells #[.int .i64 (o:Nat)] 3):=(show (w.heap.push _)[w.heap.size]?=_ by simp)
  show (w.alloc (.cells #[.int .i64 (o:Nat)] 3)).cell? ⟨w.heap.size,0,none⟩=_
  rw[cell_of_row _ _ _ _ _ _ h1];rfl
 have hat:=Pmap.at_v _ A.ma K.L (K1.drewN 1).map (o:Nat)
 have q:=neq_er
 have g:=guard_neq
 have HK1:=hyd K1
 have HG1:=hyd (Chg.cor0 (A:=A) GA)
 unfold tmK at hZ
 by_cases hl:K.L o = -1
 ·
  rw[if_pos hl] at hZ
  have HZ:Hid ((K,0)=Z):=Option.some.inj hZ
  have e1:Pmap.atC K.L (o:Nat)=11:=by unfold Pmap.atC;rw[if_neg (by omega)];simp[hl]
  rw[e1] at hat
  replace q:∀ w,(binOp .neq 33 (errV 11) .nilIface).run Tryz.prog w=.ok (.bool true) w:=fun w=>q 11 w
  generalize Pmap.atV K.L (o:Nat)=av at *
  clear h hl e1 hZ GA K1 ho
  go_enter Tryz.func42,Tryz.ntmps42
  go_wp2_with (go_at_call 48;refine(hs _).mono ?_;rintro e w1 ⟨rfl,rfl⟩)
  go_region_held3 (fun wx=>wx.cell? ⟨A.c,2,none⟩=some (.pointer (some ⟨A.ma,0,none⟩))/\wx.cell? ⟨w.heap.size,0,none⟩=some (.int .i64 (o:Nat)))
   (first | exact⟨c2,hB0⟩)
   (first | (go_at_call 56;refine hat.mono ?_;rintro e w2 ⟨rfl,rfl⟩))
  go_wp2
  go_ret
  rw[<-HZ.out]
  exact⟨rfl,HK1.out.drewN 1,HG1.out.drew⟩
 ·
  rw[if_neg hl] at hZ
  obtain⟨y,hy,hyz⟩:∃ y,anR n (tmH o (K.vs o:Nat)) K 24=some y/\(if y.2≠0 then some y else some ({ y.1 with fl:=upd y.1.fl o (K.vs o:Nat),L:=Pmap.dropL y.1.L (o:Nat) },Pmap.atC y.1.L (o:Nat)))=some Z:=by
   cases ea:anR n (tmH o (K.vs o:Nat)) K 24 with
   | none=>rw[ea] at hZ;cases hZ
   | some y=>rw[ea] at hZ;exact⟨y,rfl,hZ⟩
  have e1:Pmap.atC K.L (o:Nat)=0:=by unfold Pmap.atC;rw[if_neg (by omega)];simp[hl]
  rw[e1] at hat
  have q0:∀ w,(binOp .neq 33 (errV 0) .nilIface).run Tryz.prog w=.ok (.bool false) w:=fun w=>q 0 w
  generalize Pmap.atV K.L (o:Nat)=av at *
  have HVS:Hid (0<=((K.vs o:Nat):Int)/\((K.vs o:Nat):Int)<=1099511627775):=(show 0<=((K.vs o:Nat):Int)/\((K.vs o:Nat):Int)<=1099511627775 by have:=h.wf.vs o (by omega);omega)
  have HLOW:=hyd h.low
  have HO:=hyd ho
  have HY:=hyd hy
  have HYZ:=hyd hyz
  obtain⟨cv,-⟩:=K1.cVs o (by omega)
  have hB1:(w.alloc (.cells #[.int .i64 (o:Nat)] 3)).cell? ⟨w.heap.size,0,none⟩=some (.int .i64 (o:Nat)):=hB0
  have cva:∀ X,(((w.alloc (.cells #[.int .i64 (o:Nat)] 3)).drewN 2).alloc X).cell? ⟨A.c,3+o*2,none⟩=some (.int .i64 (K.vs o:Nat)):=fun X=>by rw[World.cell?_alloc_past _ _ _ (K1.drewN 2).lts.1];exact((K1.drewN 2).cVs o (by omega)).1
  have hoz:0<=((o:Nat):Int):=by omega
  have hoz2:((o:Nat):Int)<25:=by omega
  clear h hl e1 hZ GA K1 ho hy hyz
  go_enter Tryz.func42,Tryz.ntmps42
  go_wp2_with (go_at_call 48;refine(hs _).mono ?_;rintro e w1 ⟨rfl,rfl⟩)
  go_region_held3 (fun wx=>wx.cell? ⟨A.c,2,none⟩=some (.pointer (some ⟨A.ma,0,none⟩))/\wx.cell? ⟨w.heap.size,0,none⟩=some (.int .i64 (o:Nat)))
   (first | exact⟨c2,hB0⟩)
   (first | (go_at_call 56;refine hat.mono ?_;rintro e w2 ⟨rfl,rfl⟩))
  go_wp2_with fail
  go_region
  have G2:Chg (fun _=>False) (w.alloc (.cells #[.int .i64 (o:Nat)] 3)) (((w.alloc (.cells #[.int .i64 (o:Nat)] 3)).drewN 2).alloc (.cells #[.int .i64 (K.vs o:Nat)] 2)):=((Chg.refl _ _).drewN 2).alloc _
  have HK2:=hyd (HK1.out.chg0 G2)
  have HG2:=hyd (HG1.out.trans G2.cor0)
  have hsz:(w.alloc (.cells #[.int .i64 (o:Nat)] 3)).heap.size=w.heap.size+1:=by simp
  have hb2:(((w.alloc (.cells #[.int .i64 (o:Nat)] 3)).drewN 2).alloc (.cells #[.int .i64 (K.vs o:Nat)] 2)).cell? ⟨w.heap.size,0,none⟩=some (.int .i64 (o:Nat)):=(G2.cell (by rw[hsz];omega) (fun f=>f) 0).trans hB1
  have hb3:(((w.alloc (.cells #[.int .i64 (o:Nat)] 3)).drewN 2).alloc (.cells #[.int .i64 (K.vs o:Nat)] 2)).cell? ⟨w.heap.size+1,0,none⟩=some (.int .i64 (K.vs o:Nat)):=by
   have hz2:((w.alloc (.cells #[.int .i64 (o:Nat)] 3)).drewN 2).heap.size=w.heap.size+1:=hsz
   have h1:(((w.alloc (.cells #[.int .i64 (o:Nat)] 3)).drewN 2).alloc (.cells #[.int .i64 (K.vs o:Nat)] 2)).heap[w.heap.size+1]?=some (.cells #[.int .i64 (K.vs o:Nat)] 2):=by
    have key:∀ (H:Array Obj) (x:Obj) (k:Nat),H.size=k->(H.push x)[k]?=some x:=fun H x k e=>by subst e;simp
    exact key _ _ _ hz2
   rw[cell_of_row _ _ _ _ _ _ h1];rfl
  have hsz2:(((w.alloc (.cells #[.int .i64 (o:Nat)] 3)).drewN 2).alloc (.cells #[.int .i64 (K.vs o:Nat)] 2)).heap.size=w.heap.size+2:=by
   have hz2:((w.alloc (.cells #[.int .i64 (o:Nat)] 3)).drewN 2).heap.size=w.heap.size+1:=hsz
   simp
  clear cva cv hB0 hB1 c2 hat G2 HK1 HG1 hsz
  generalize (((w.alloc (.cells #[.int .i64 (o:Nat)] 3)).drewN 2).alloc (.cells #[.int .i64 (K.vs o:Nat)] 2))=w2 at *
  have htl:=telling_k w2 A.c 63 #[.pointer (some ⟨w.heap.size+1,0,none⟩),.pointer (some ⟨w.heap.size,0,none⟩)]
  have hmf:∀ (fn:Fn) (first cap:Array Value) (w:World),(Instr.makeFunc fn first cap).run Tryz.prog w=.ok (.func fn first cap) w:=fun _ _ _ _=>rfl
  have HB2:=hyd hb2
  have HB3:=hyd hb3
  have HSZ2:=hyd hsz2
  clear hb2 hb3 hsz2
  go_wp2_with fail
  refine htl.mono ?_
  rintro e w3 ⟨rfl,a1,a2,a3,g3⟩
  have K3:=HK2.out.chg0 g3
  have n0:¬ Cor A w.heap.size:=fun e=>by have:=HLOW.out _ (Or.inl e);omega
  have n1:¬ Cor A (w.heap.size+1):=fun e=>by have:=HLOW.out _ (Or.inl e);omega
  have z2:=HSZ2.out
  have n2:¬ Cor A w2.heap.size:=fun e=>by have:=HLOW.out _ (Or.inl e);omega
  have n3:¬ Cor A (w2.heap.size+1):=fun e=>by have:=HLOW.out _ (Or.inl e);omega
  have b2:=(g3.cell (by omega) (fun f=>f) 0).trans HB2.out
  have b3:=(g3.cell (by omega) (fun f=>f) 0).trans HB3.out
  have hz3:=g3.size
  have hH:=telling_hold A w3 63 #[.pointer (some ⟨w.heap.size+1,0,none⟩),.pointer (some ⟨w.heap.size,0,none⟩)] _ (more_trim A w3 (w.heap.size+1) w.heap.size o (K.vs o:Nat) b3 b2 HO.out n1 n0 (by omega) (by omega)) w2.heap.size (w2.heap.size+1) a1 a2 n2 n3 (by omega) (by omega) (trim_okc o _ HVS.out)
  have han:=anew_k A n w3 94 #[.pointer (some ⟨w2.heap.size,0,none⟩),.pointer (some ⟨w2.heap.size+1,0,none⟩)] (tmH o (K.vs o:Nat)) hH w3 K 24 y K3 (Chg.refl _ _) (by decide) HY.out
  replace han:Calls Tryz.prog 49 #[.pointer (some ⟨A.c,0,none⟩),.int .i64 24,.func (.func 94) #[] #[.pointer (some ⟨w2.heap.size,0,none⟩),.pointer (some ⟨w2.heap.size+1,0,none⟩)]] w3 fun e w'=>e=.returned (errV y.2)/\CoreAt A w' y.1/\Chg (Cor A) w3 w':=han
  have HG3:=hyd (HG2.out.trans g3.cor0)
  have HBB:Hid (w3.cell? ⟨w.heap.size,0,none⟩=some (.int .i64 (o:Nat))/\w3.cell? ⟨w.heap.size+1,0,none⟩=some (.int .i64 (K.vs o:Nat))/\¬ Cor A w.heap.size/\¬ Cor A (w.heap.size+1)/\w.heap.size+1<w3.heap.size):=⟨b2,b3,n0,n1,by omega⟩
  clear htl a1 a2 a3 g3 K3 hH b2 b3 n0 n1 n2 n3 z2 hz3 HB2 HB3 HSZ2
  go_wp2_with fail
  refine han.mono ?_
  rintro e w4 ⟨rfl,k4,g4⟩
  have HK4:=hyd k4
  have HG4:=hyd (HG3.out.trans g4)
  obtain⟨bb1,bb2,bb3,bb4,bb5⟩:=HBB.out
  have d1:=(g4.cell (by omega) bb3 0).trans bb1
  have d2:=(g4.cell bb5 bb4 0).trans bb2
  have HBB4:Hid (w4.cell? ⟨w.heap.size,0,none⟩=some (.int .i64 (o:Nat))/\w4.cell? ⟨w.heap.size+1,0,none⟩=some (.int .i64 (K.vs o:Nat))/\¬ Cor A w.heap.size/\¬ Cor A (w.heap.size+1)/\w.heap.size+1<w4.heap.size):=⟨d1,d2,bb3,bb4,Nat.lt_of_lt_of_le bb5 g4.size⟩
  clear han k4 g4 bb1 bb2 bb3 bb4 bb5 HBB HG3 HK2 HG2
  by_cases hy0:y.2=0
  ·
   have HYZ2:Hid (({ y.1 with fl:=upd y.1.fl o (K.vs o:Nat),L:=Pmap.dropL y.1.L (o:Nat) },Pmap.atC y.1.L (o:Nat))=Z):=by
    have:=HYZ.out
    rw[if_neg (by rw[hy0];simp)] at this
    exact Option.some.inj this
   replace q:∀ w,(binOp .neq 33 (errV y.2) .nilIface).run Tryz.prog w=.ok (.bool false) w:=fun w=>by rw[q,decide_eq_true hy0];rfl
   have hoz24:((o:Nat):Int)<24:=by have:=HO.out;omega
   obtain⟨cf,ff⟩:=HK4.out.cFl o HO.out
   clear hy0 HYZ
   go_wp2_with fail
   go_region
   have G5:Chg (·=A.c) w4 (w4.setCell ⟨A.c,53+o,none⟩ (.int .i64 (K.vs o:Nat))).drew:=((Chg.refl (·=A.c) w4).setCell (Or.inl rfl) _ _).drew
   have K5:=((HK4.out.setFl o HO.out _ HVS.out).drewN 1)
   have hA5:¬ w.heap.size=A.c:=fun e=>HBB4.out.2.2.1 (Or.inl e)
   have f1:=(G5.cell (by have:=HBB4.out.2.2.2.2;omega) hA5 0).trans d1
   have HNM:Hid (¬ w.heap.size=A.ma):=fun e=>HBB4.out.2.2.1 (by unfold Cor;omega)
   have HSZ5:Hid (w.heap.size<(w4.setCell ⟨A.c,53+o,none⟩ (.int .i64 (K.vs o:Nat))).drew.drew.heap.size):=(show w.heap.size<(w4.setCell ⟨A.c,53+o,none⟩ (.int .i64 (K.vs o:Nat))).drew.drew.heap.size by have:=HBB4.out.2.2.2.2;have:=G5.size;show w.heap.size<(w4.setCell ⟨A.c,53+o,none⟩ (.int .i64 (K.vs o:Nat))).drew.heap.size;omega)
   have HK5:=hyd K5
   have HG5:=hyd (HG4.out.trans G5.cor_c)
   obtain⟨c5,-⟩:=(K5.drewN 1).cMap
   have hdr:=drop_k A _ _ (K5.drewN 1) o
   clear HK4 HG4 cf ff K5 G5 d1 d2 HBB4 hA5
   go_wp2_with fail
   go_region_held3 (fun wx=>wx.cell? ⟨A.c,2,none⟩=some (.pointer (some ⟨A.ma,0,none⟩))/\wx.cell? ⟨w.heap.size,0,none⟩=some (.int .i64 (o:Nat)))
    (first | exact⟨c5,f1⟩ | exact⟨x1,x2⟩)
    (first | (go_at_call 64;refine hdr.mono ?_;rintro e w6 ⟨rfl,k6,g6⟩;have HK6:=hyd k6;have HG6:=hyd (HG5.out.drew.trans g6.cor_ma);obtain⟨x1,-⟩:=k6.cMap;have x2:=(g6.cell HSZ5.out HNM.out 0).trans f1;clear k6 g6))
   go_wp2
   go_ret
   rw[<-HYZ2.out]
   exact⟨rfl,HK6.out,HG6.out⟩
  ·
   have HYZ2:Hid (y=Z):=by
    have:=HYZ.out
    rw[if_pos hy0] at this
    exact Option.some.inj this
   replace q:∀ w,(binOp .neq 33 (errV y.2) .nilIface).run Tryz.prog w=.ok (.bool true) w:=fun w=>by rw[q,decide_eq_false hy0];rfl
   clear hy0 HYZ d1 d2
   go_wp2
   go_ret
   rw[<-HYZ2.out]
   exact⟨rfl,HK4.out,HG4.out⟩
end Go.Proofs.YtbhbilcieodbhaaGreat
/-
  The blocks that were read too often wait. Condition: the core lies in memory.
-/
namespace Go.Proofs.YtbhbilcieodbhaaGreat
set_option maxRecDepth 100000
open Go.RowKit
def awQ (R L:Nat->Int):Nat->Nat->List Int->List Int
 | 0,_,q=>q
 | n+1,i,q=>awQ R L n (i+1) (if Health.much 512 R (i:Nat)=true/\0<Pmap.lvK L 96 i then Patrol.adL q (i:Nat) else q)
def awK (K:Kor):Kor:={ K with qu:=awQ K.hR K.L 12 0 K.qu }
set_option maxHeartbeats 2000000 in
theorem await_k (A:Ad) (w:World) (K:Kor) (h:CoreAt A w K) :
 Calls Tryz.prog 73 #[.pointer (some ⟨A.c,0,none⟩)] w fun e w'=>e=.returned (.tuple #[])/\CoreAt A w' (awK K)/\Chg (Cor A) w w':=by
 obtain⟨c2,-⟩:=h.cMap
 have hlv:=Pmap.live_any w A.ma K.L h.map
 have HK:=hyd h
 have q:=eql_er
 have g:=guard_eql
 obtain⟨X,HX⟩:∃ X,Hid (awQ K.hR K.L 12 0 K.qu=X):=⟨_,rfl⟩
 unfold awK
 rw[HX.out]
 clear h
 go_enter Tryz.func73,Tryz.ntmps73
 go_wp2_with (go_at_call 107;refine hlv.mono ?_;rintro e w1 ⟨rfl,I1,G1⟩)
 have HI:=hyd I1
 have HK1:=hyd (HK.out.chg0 G1)
 have HG1:=hyd (Chg.cor0 (A:=A) G1)
 have HN:Hid (¬ Cor A w.heap.size):=HK.out.apart (Nat.le_refl _)
 have hs1:w.heap.size<w1.heap.size:=I1.lt
 clear hlv c2 I1 G1
 go_loopg [12] 12 (fun kx s12 wr=>∃ (i:Nat) (l:List Int),s12=.int .i64 i/\i<=12/\12 - i<=kx/\Hid (CoreAt A wr { K with qu:=l })/\Hid (Chg (Cor A) w wr)/\Hid (IB wr w.heap.size 3 12 (fun k=>(Pmap.lvK K.L 96 k:Nat)))/\Hid (awQ K.hR K.L (12 - i) i l=X))
 case atStart=>exact⟨0,K.qu,rfl,by omega,by omega,HK1.out,HG1.out,HI.out,HX.out⟩
 case round=>
  obtain⟨i,l,rfl,hi,hkx,HC,HG,HJ,HE⟩:=hrel
  by_cases hlt:i<12
  ·
   have hltz:(i:Int)<12:=by omega
   obtain⟨ci,-⟩:=HJ.out.cell i hlt
   obtain⟨m,hm⟩:∃ m,12 - i=m+1:=⟨11 - i,by omega⟩
   have hm2:12 - (i+1)=m:=by omega
   have HE2:Hid (awQ K.hR K.L m (i+1) (if Health.much 512 K.hR (i:Nat)=true/\0<Pmap.lvK K.L 96 i then Patrol.adL l (i:Nat) else l)=X):=by
    have:=HE.out
    rw[hm,awQ] at this
    exact this
   have htr:=Health.tired_v wr A.h K.hR K.hN K.hS HC.out.hea HC.out.wf.hea (i:Nat)
   have hb8:Health.blC (i:Nat)=0:=by unfold Health.blC;rw[if_pos (by omega)]
   rw[hb8] at htr
   obtain⟨c96,-⟩:=HC.out.cHea
   have had:=add_k A wr _ HC.out (i:Nat)
   have HM2:=hyd hm2
   replace q:∀ w,(binOp .eql 33 (errV 0) .nilIface).run Tryz.prog w=.ok (.bool true) w:=fun w=>q 0 w
   clear hm hm2 HE hb8
   generalize hmu:Health.much 512 K.hR (i:Nat)=mu at *
   generalize hlv:Pmap.lvK K.L 96 i=lv at *
   replace ci:wr.cell? ⟨w.heap.size,i,none⟩=some (.int .i64 (lv:Nat)):=ci
   clear hmu hlv
   cases mu
   ·
    have HE3:Hid (awQ K.hR K.L m (i+1) l=X):=by
     have:=HE2.out
     rw[if_neg (by simp)] at this
     exact this
    clear HE2 had
    go_wp2_with (go_at_call 108;refine htr.mono ?_;rintro e wr ⟨rfl,rfl⟩)
    go_roundg (12 - (i+1))
    case measure=>omega
    case rel=>exact⟨i+1,l,by simp,by omega,Nat.le_refl _,HC.out,HG.out,HJ.out,by rw[HM2.out];exact HE3.out⟩
   ·
    by_cases h0:0<lv
    ·
     have h0z:(0:Int)<(lv:Nat):=by omega
     have HE3:Hid (awQ K.hR K.L m (i+1) (Patrol.adL l (i:Nat))=X):=by
      have:=HE2.out
      rw[if_pos ⟨rfl,h0⟩] at this
      exact this
     clear HE2 h0
     go_wp2_with (go_at_call 108;refine htr.mono ?_;rintro e wr ⟨rfl,rfl⟩)
     refine had.mono ?_
     rintro e w3 ⟨rfl,k3,g3⟩
     have HK3:=hyd k3
     have HG3:=hyd (HG.out.trans g3.cor_c)
     have HJ3:=hyd (HJ.out.chg g3.cor_c HN.out)
     clear had k3 g3 HC HG HJ htr ci c96
     go_wp2
     go_roundg (12 - (i+1))
     case measure=>omega
     case rel=>exact⟨i+1,_,by simp,by omega,Nat.le_refl _,HK3.out,HG3.out,HJ3.out,by rw[HM2.out];exact HE3.out⟩
    ·
     have h0z:¬ (0:Int)<(lv:Nat):=by omega
     have HE3:Hid (awQ K.hR K.L m (i+1) l=X):=by
      have:=HE2.out
      rw[if_neg (fun e=>h0 e.2)] at this
      exact this
     clear HE2 had h0
     go_wp2_with (go_at_call 108;refine htr.mono ?_;rintro e wr ⟨rfl,rfl⟩)
     go_roundg (12 - (i+1))
     case measure=>omega
     case rel=>exact⟨i+1,l,by simp,by omega,Nat.le_refl _,HC.out,HG.out,HJ.out,by rw[HM2.out];exact HE3.out⟩
  ·
   have hltz:¬ (i:Int)<12:=by omega
   have e:i=12:=by omega
   subst e
   have HE3:Hid (l=X):=HE.out
   go_wp2
   go_end0
   rw[<-HE3.out]
   exact⟨rfl,HC.out,HG.out⟩
def rfK (n:Nat) (K:Kor) (b:Nat):Option (Kor × Nat):=
 if Pmap.ofV K.L (b:Nat)=[] then some (K,0) else
 match movR n K (nwS b (Health.much 3 K.hS (b:Nat)) false) with
 | none=>none
 | some y=>if y.2.2≠0 then some (y.1,y.2.2) else some ({ y.1 with rp:=wrap64 (y.1.rp+1),md:=wrap64 (y.1.md+(Pmap.ofV K.L (b:Nat)).length) },0)
theorem Wf.rp' {K:Kor} (h:Wf K) (z:Int):Wf { K with rp:=z }:=
 ⟨h.chip,h.rr,h.frm,h.map,h.vs,h.vp,h.vc,h.fl,h.nx,h.fr,h.cu,h.qu,h.hea,h.tl⟩
theorem Wf.md' {K:Kor} (h:Wf K) (z:Int):Wf { K with md:=z }:=
 ⟨h.chip,h.rr,h.frm,h.map,h.vs,h.vp,h.vc,h.fl,h.nx,h.fr,h.cu,h.qu,h.hea,h.tl⟩
theorem kc_rp (A:Ad) (K:Kor) (z:Int) (j:Nat) (_:j<101) (_:j<83\/83+13<=j):upL (kc A K) 98 [.int .i64 z] j=kc A { K with rp:=z } j:=by
 rw[upL_one]
 by_cases e:j=98
 ·
  subst e;rfl
 ·
  rw[if_neg e]
  unfold kc
  by_cases h0:j=0
  ·
   simp only[if_pos h0]
  by_cases h1:j=1
  ·
   simp only[if_neg h0,if_pos h1]
  by_cases h2:j=2
  ·
   simp only[if_neg h0,if_neg h1,if_pos h2]
  by_cases h3:j<53
  ·
   simp only[if_neg h0,if_neg h1,if_neg h2,if_pos h3]
  by_cases h4:j<77
  ·
   simp only[if_neg h0,if_neg h1,if_neg h2,if_neg h3,if_pos h4]
  have:j=77\/j=78\/j=79\/j=80\/j=81\/j=82\/j=96\/j=97\/j=99\/j=100:=by omega
  rcases this with rfl | rfl | rfl | rfl | rfl | rfl | rfl | rfl | rfl | rfl <;> rfl
theorem kc_md (A:Ad) (K:Kor) (z:Int) (j:Nat) (_:j<101) (_:j<83\/83+13<=j):upL (kc A K) 99 [.int .i64 z] j=kc A { K with md:=z } j:=by
 rw[upL_one]
 by_cases e:j=99
 ·
  subst e;rfl
 ·
  rw[if_neg e]
  unfold kc
  by_cases h0:j=0
  ·
   simp only[if_pos h0]
  by_cases h1:j=1
  ·
   simp only[if_neg h0,if_pos h1]
  by_cases h2:j=2
  ·
   simp only[if_neg h0,if_neg h1,if_pos h2]
  by_cases h3:j<53
  ·
   simp only[if_neg h0,if_neg h1,if_neg h2,if_pos h3]
  by_cases h4:j<77
  ·
   simp only[if_neg h0,if_neg h1,if_neg h2,if_neg h3,if_pos h4]
  have:j=77\/j=78\/j=79\/j=80\/j=81\/j=82\/j=96\/j=97\/j=98\/j=100:=by omega
  rcases this with rfl | rfl | rfl | rfl | rfl | rfl | rfl | rfl | rfl | rfl <;> rfl
theorem CoreAt.setRp {A:Ad} {w:World} {K:Kor} (h:CoreAt A w K) (z:Int):CoreAt A (w.setCell ⟨A.c,98,none⟩ (.int .i64 z)) { K with rp:=z }:=
 h.setCore { K with rp:=z } ⟨rfl,rfl,rfl,rfl,rfl,rfl,rfl,rfl,rfl⟩ (QB.ext (QB.set h.core 98 (.int .i64 z) (by omega)) (kc_rp A K z)) ((Chg.refl (·=A.c) w).setCell (Or.inl rfl) _ _) (h.wf.rp' z)
theorem CoreAt.setMd {A:Ad} {w:World} {K:Kor} (h:CoreAt A w K) (z:Int):CoreAt A (w.setCell ⟨A.c,99,none⟩ (.int .i64 z)) { K with md:=z }:=
 h.setCore { K with md:=z } ⟨rfl,rfl,rfl,rfl,rfl,rfl,rfl,rfl,rfl⟩ (QB.ext (QB.set h.core 99 (.int .i64 z) (by omega)) (kc_md A K z)) ((Chg.refl (·=A.c) w).setCell (Or.inl rfl) _ _) (h.wf.md' z)
set_option maxHeartbeats 2000000 in
theorem refresh_k (A:Ad) (w:World) (K:Kor) (h:CoreAt A w K) (b:Nat) (hb:b<12) (n:Nat) (Z:Kor × Nat) (hZ:rfK n K b=some Z) :
 Calls Tryz.prog 110 #[.pointer (some ⟨A.c,0,none⟩),.int .i64 (b:Nat)] w fun e w'=>e=.returned (errV Z.2)/\CoreAt A w' Z.1/\Chg (Cor A) w w':=by
 obtain⟨c2,-⟩:=h.cMap
 have hof:=Pmap.of_v w A.ma K.L h.map (b:Nat)
 have e1:Pmap.ofC (b:Nat)=0:=by unfold Pmap.ofC;rw[if_neg (by omega)]
 rw[e1] at hof
 have hlen:=Pmap.ofV_length K.L (b:Nat)
 have q:=neq_er
 have g:=guard_neq
 have HK:=hyd h
 have HB:=hyd hb
 have hbd:=build137r
 have HZ:=hyd hZ
 have q0:∀ w,(binOp .neq 33 (errV 0) .nilIface).run Tryz.prog w=.ok (.bool false) w:=fun w=>q 0 w
 clear h hb e1 hZ
 have HZ2:Hid ((if Pmap.ofV K.L (b:Nat)=[] then some (K,0) else match movR n K (nwS b (Health.much 3 K.hS (b:Nat)) false) with | none=>none | some y=>if y.2.2≠0 then some (y.1,y.2.2) else some ({ y.1 with rp:=wrap64 (y.1.rp+1),md:=wrap64 (y.1.md+(Pmap.ofV K.L (b:Nat)).length) },0))=some Z):=HZ.out
 clear HZ
 generalize Pmap.ofV K.L (b:Nat)=l at *
 go_enter Tryz.func110,Tryz.ntmps110
 go_wp2_with fail
 refine hof.mono ?_
 rintro e w1 ⟨⟨a,cap,rfl,O1⟩,G1⟩
 have HK1:=hyd (HK.out.chg0 G1)
 have HG1:=hyd (Chg.cor0 (A:=A) G1)
 have hweak:=Health.weak_v w1 A.h K.hR K.hN K.hS HK1.out.hea HK1.out.wf.hea (b:Nat)
 have hb8:Health.blC (b:Nat)=0:=by unfold Health.blC;rw[if_pos (by have:=HB.out;omega)]
 rw[hb8] at hweak
 obtain⟨c96,-⟩:=HK1.out.cHea
 clear hof O1 G1 c2 hb8
 by_cases hl:l=[]
 ·
  subst hl
  have HZ3:Hid ((K,0)=Z):=by
   have:=HZ2.out
   rw[if_pos rfl] at this
   exact Option.some.inj this
  clear HZ2 hweak q hlen
  go_wp2
  go_ret
  rw[<-HZ3.out]
  exact⟨rfl,HK1.out,HG1.out⟩
 ·
  have hlz:¬ ((l.length:Nat):Int)=0:=fun e=>hl (List.length_eq_zero_iff.1 (by omega))
  have hlb:(((l.length:Nat):Int) == 0)=false:=by simpa using hl
  generalize Health.much 3 K.hS (b:Nat)=wk at *
  obtain⟨y,hy,hyz⟩:∃ y,movR n K (nwS b wk false)=some y/\(if y.2.2≠0 then some (y.1,y.2.2) else some ({ y.1 with rp:=wrap64 (y.1.rp+1),md:=wrap64 (y.1.md+l.length) },0))=some Z:=by
   have:=HZ2.out
   rw[if_neg hl] at this
   cases e:movR n K (nwS b wk false) with
   | none=>rw[e] at this;cases this
   | some y=>rw[e] at this;exact⟨y,rfl,this⟩
  have GA:Chg (fun _=>False) w1 (w1.alloc (.cells #[.int .i64 (b:Nat),.bool wk,.bool false,.bool false,.int .i64 0,.int .i64 0,.slice none 0 0] 163)):=(Chg.refl _ w1).alloc _
  have hmv:=mov_k A n (anew_k A n) _ K w1.heap.size (nwS b wk false) _ y (HK1.out.chg0 GA) (ShAt.new w1 b wk false) HB.out hy
  have HG:=hyd (HG1.out.trans (Chg.cor0 (A:=A) GA))
  have hsz1:=HG1.out.size
  have HYZ:=hyd hyz
  clear HZ2 hl hyz hy GA hlz
  generalize l.length=ln at *
  go_wp2_with (go_at_call 147;refine hweak.mono ?_;rintro e w1 ⟨rfl,rfl⟩)
  refine hmv.mono ?_
  rintro e w6 ⟨v6,rfl,k6,s6,sm6,g6⟩
  have HK6:=hyd k6
  have HG7:=hyd (HG.out.trans' g6 (fun k hk e=>e.elim id (fun e=>by omega)))
  clear hmv s6 sm6 g6 hweak
  by_cases hc:y.2.2=0
  ·
   replace q:∀ w,(binOp .neq 33 (errV y.2.2) .nilIface).run Tryz.prog w=.ok (.bool false) w:=fun w=>by rw[q,decide_eq_true hc];rfl
   have HZ3:Hid (({ y.1 with rp:=wrap64 (y.1.rp+1),md:=wrap64 (y.1.md+(ln:Nat)) },0)=Z):=by
    have:=HYZ.out
    rw[if_neg (by rw[hc];simp)] at this
    exact Option.some.inj this
   have w1r:IntKind.i64.wrap (y.1.rp+1)=wrap64 (y.1.rp+1):=by rw[IntKind.wrap_i64];unfold wrap64;rfl
   have w2r:IntKind.i64.wrap (y.1.md+(ln:Int))=wrap64 (y.1.md+(ln:Int)):=by rw[IntKind.wrap_i64];unfold wrap64;rfl
   obtain⟨c98,f98⟩:=k6.cRp
   have k7:=k6.setRp (wrap64 (y.1.rp+1))
   obtain⟨c99,f99⟩:=k7.cMd
   have HK8:=hyd (k7.setMd (wrap64 (y.1.md+(ln:Int))))
   have HG8:Hid (Chg (Cor A) w ((w6.setCell ⟨A.c,98,none⟩ (.int .i64 (wrap64 (y.1.rp+1)))).setCell ⟨A.c,99,none⟩ (.int .i64 (wrap64 (y.1.md+(ln:Int)))))):=(HG7.out.setCell (Or.inl (Or.inl rfl)) _ _).setCell (Or.inl (Or.inl rfl)) _ _
   clear k6 k7 hc HYZ HK6 HG7
   generalize y.1.rp=r0 at *
   generalize y.1.md=d0 at *
   generalize wrap64 (r0+1)=zr at *
   generalize wrap64 (d0+(ln:Int))=zd at *
   go_wp2
   go_ret
   rw[<-HZ3.out]
   exact⟨rfl,HK8.out,HG8.out⟩
  ·
   replace q:∀ w,(binOp .neq 33 (errV y.2.2) .nilIface).run Tryz.prog w=.ok (.bool true) w:=fun w=>by rw[q,decide_eq_false hc];rfl
   have HZ3:Hid ((y.1,y.2.2)=Z):=by
    have:=HYZ.out
    rw[if_pos hc] at this
    exact Option.some.inj this
   clear k6 hc HYZ
   go_wp2
   go_ret
   rw[<-HZ3.out]
   exact⟨rfl,HK6.out,HG7.out⟩
end Go.Proofs.YtbhbilcieodbhaaGreat
/-
  What is done behind each call. Condition: the core lies in memory, and its calls are counted below the greatest int.
-/
namespace Go.Proofs.YtbhbilcieodbhaaGreat
set_option maxRecDepth 100000
open Go.RowKit
def raK (m:Nat):Nat->Kor->Option (Kor × Nat)
 | 0,_=>none
 | n+1,K=>if wornK K=true then some (K,14) else
  match K.qu with
  | []=>some (K,0)
  | b :: l=>match rfK m { K with qu:=l } b.toNat with
   | none=>none
   | some y=>if y.2≠0 then some y else raK m n y.1
theorem next_k (A:Ad) (w:World) (K:Kor) (h:CoreAt A w K):Calls Tryz.prog 109 #[.pointer (some ⟨A.c,83,none⟩)] w fun e w'=>e=.returned (.tuple #[.int .i64 (K.qu.headD 0),.bool (Patrol.nxB K.qu)])/\CoreAt A w' { K with qu:=K.qu.tail }/\Chg (·=A.c) w w':=by
 refine(Patrol.next_v w A.c 124 101 _ 83 K.qu h.core h.wf.qu).mono ?_
 rintro e w' ⟨rfl,hQ,hc⟩
 have ht:Patrol.Okq K.qu.tail:=by
  have:=h.wf.qu
  cases e:K.qu with
  | nil=>rw[e] at this;exact this
  | cons x l=>rw[e] at this;exact this.tail
 exact⟨rfl,h.setCore { K with qu:=K.qu.tail } ⟨rfl,rfl,rfl,rfl,rfl,rfl,rfl,rfl,rfl⟩ hQ hc (h.wf.qu' ht),hc⟩
set_option maxHeartbeats 2000000 in
theorem refreshAll_k (A:Ad) (w:World) (K:Kor) (h:CoreAt A w K) (m n:Nat) (Z:Kor × Nat) (hZ:raK m n K=some Z) :
 Calls Tryz.prog 74 #[.pointer (some ⟨A.c,0,none⟩)] w fun e w'=>e=.returned (errV Z.2)/\CoreAt A w' Z.1/\Chg (Cor A) w w':=by
 have HK:=hyd h
 have HZ:=hyd hZ
 have q:=neq_er
 have g:=guard_neq
 clear h hZ
 go_enter Tryz.func74,Tryz.ntmps74
 go_wp2_with fail
 go_loopg [2] n (fun kx s2 wr=>∃ k Ki,k<=kx/\Hid (CoreAt A wr Ki)/\Hid (Chg (Cor A) w wr)/\Hid (raK m k Ki=some Z))
 case atStart=>exact⟨n,K,Nat.le_refl _,HK.out,Chg.refl _ _,HZ.out⟩
 case round=>
  obtain⟨k,Ki,hk,HC,HG,HE⟩:=hrel
  obtain _ | k:=k
  ·
   exact absurd HE.out (fun e=>by cases e)
  have hwn:=worn_k A wr Ki HC.out
  have HE2:Hid ((if wornK Ki=true then some (Ki,14) else match Ki.qu with | []=>some (Ki,0) | b :: l=>match rfK m { Ki with qu:=l } b.toNat with | none=>none | some y=>if y.2≠0 then some y else raK m k y.1)=some Z):=HE.out
  clear HE
  cases h1:wornK Ki
  ·
   rw[h1] at hwn
   have hnx:=next_k A wr Ki HC.out
   have HE3:Hid ((match Ki.qu with | []=>some (Ki,0) | b :: l=>match rfK m { Ki with qu:=l } b.toNat with | none=>none | some y=>if y.2≠0 then some y else raK m k y.1)=some Z):=by
    have:=HE2.out
    rw[if_neg (by rw[h1];simp)] at this
    exact this
   clear HE2 h1
   have hok:=HC.out.wf.qu
   cases hq:Ki.qu with
   | nil=>
    rw[hq] at hnx
    have HZ3:Hid ((Ki,0)=Z):=by
     have:=HE3.out
     rw[hq] at this
     exact Option.some.inj this
    have hK0:{ Ki with qu:=([]:List Int) }=Ki:=by rw[<-hq]
    replace hnx:Calls Tryz.prog 109 #[.pointer (some ⟨A.c,83,none⟩)] wr fun e w'=>e=.returned (.tuple #[.int .i64 0,.bool false])/\CoreAt A w' { Ki with qu:=[] }/\Chg (·=A.c) wr w':=hnx
    rw[hK0] at hnx
    clear HE3 hok hq hK0
    go_wp2_with (go_at_call 79;refine hwn.mono ?_;rintro e wr ⟨rfl,rfl⟩)
    refine hnx.mono ?_
    rintro e w2 ⟨rfl,k2,g2⟩
    have HK2:=hyd k2
    have HG2:=hyd (HG.out.trans g2.cor_c)
    clear hnx k2 g2 hwn
    go_wp2
    go_ret
    rw[<-HZ3.out]
    exact⟨rfl,HK2.out,HG2.out⟩
   | cons b l=>
    rw[hq] at hnx hok
    have hbb:=hok.2 b (by simp)
    obtain⟨y,hy,hyz⟩:∃ y,rfK m { Ki with qu:=l } b.toNat=some y/\(if y.2≠0 then some y else raK m k y.1)=some Z:=by
     have:=HE3.out
     rw[hq] at this
     dsimp only at this
     cases e:rfK m { Ki with qu:=l } b.toNat with
     | none=>rw[e] at this;cases this
     | some y=>rw[e] at this;exact⟨y,rfl,this⟩
    replace hnx:Calls Tryz.prog 109 #[.pointer (some ⟨A.c,83,none⟩)] wr fun e w'=>e=.returned (.tuple #[.int .i64 ((b.toNat:Nat):Int),.bool true])/\CoreAt A w' { Ki with qu:=l }/\Chg (·=A.c) wr w':=by
     rw[show ((b.toNat:Nat):Int)=b by omega]
     exact hnx
    have HB:Hid (b.toNat<12):=by show b.toNat<12;omega
    have HYZ:=hyd hyz
    have HY:=hyd hy
    clear HE3 hok hq hbb hy hyz
    generalize b.toNat=bn at *
    go_wp2_with (go_at_call 79;refine hwn.mono ?_;rintro e wr ⟨rfl,rfl⟩)
    refine hnx.mono ?_
    rintro e w2 ⟨rfl,k2,g2⟩
    have HG2:=hyd (HG.out.trans g2.cor_c)
    have hrf:=refresh_k A w2 _ k2 bn HB.out m y HY.out
    clear hnx k2 g2 hwn HC HG
    go_wp2_with fail
    refine hrf.mono ?_
    rintro e w3 ⟨rfl,k3,g3⟩
    have HK3:=hyd k3
    have HG3:=hyd (HG2.out.trans g3)
    clear hrf k3 g3 HG2
    by_cases hc:y.2=0
    ·
     replace q:∀ w,(binOp .neq 33 (errV y.2) .nilIface).run Tryz.prog w=.ok (.bool false) w:=fun w=>by rw[q,decide_eq_true hc];rfl
     have HE4:Hid (raK m k y.1=some Z):=by
      have:=HYZ.out
      rw[if_neg (by rw[hc];simp)] at this
      exact this
     clear hc HYZ
     go_wp2
     go_roundg k
     case measure=>omega
     case rel=>exact⟨k,y.1,Nat.le_refl _,HK3.out,HG3.out,HE4.out⟩
    ·
     replace q:∀ w,(binOp .neq 33 (errV y.2) .nilIface).run Tryz.prog w=.ok (.bool true) w:=fun w=>by rw[q,decide_eq_false hc];rfl
     have HE4:Hid (y=Z):=by
      have:=HYZ.out
      rw[if_pos hc] at this
      exact Option.some.inj this
     clear hc HYZ
     go_wp2
     go_ret
     rw[<-HE4.out]
     exact⟨rfl,HK3.out,HG3.out⟩
  ·
   rw[h1] at hwn
   have HZ3:Hid ((Ki,14)=Z):=by
    have:=HE2.out
    rw[if_pos h1] at this
    exact Option.some.inj this
   clear HE2 h1
   go_wp2_with (go_at_call 79;refine hwn.mono ?_;rintro e wr ⟨rfl,rfl⟩)
   go_ret
   rw[<-HZ3.out]
   exact⟨rfl,HC.out,HG.out⟩
end Go.Proofs.YtbhbilcieodbhaaGreat
/-
  Reads are seen. Condition: the core lies in memory, the list of twelve numbers outside it.
-/
namespace Go.Proofs.YtbhbilcieodbhaaGreat
set_option maxRecDepth 100000
open Go.RowKit
def seF (V:Nat->Int):Nat->(Nat->Int)->Nat->Int
 | 0,R=>R
 | i+1,R=>cntF (seF V i R) (i:Nat) (min (V i) 65536)
set_option maxHeartbeats 1000000 in
theorem seen_k (A:Ad) (w:World) (K:Kor) (h:CoreAt A w K) (d off cap:Nat) (V:Nat->Int) (hl:d<w.heap.size) (hV:∀ i,i<12->w.cell? ⟨d,off+i,none⟩=some (.int .i64 (V i))) (nd:¬ Cor A d) :
 Calls Tryz.prog 67 #[.pointer (some ⟨A.c,0,none⟩),.slice (some ⟨d,off,none⟩) 12 cap] w fun e w'=>e=.returned .nilIface/\CoreAt A w' { K with hR:=seF V 12 K.hR }/\Chg (Cor A) w w':=by
 have HK:=hyd h
 have HV:=hyd hV
 have HND:=hyd nd
 have HL:=hyd hl
 clear h hV nd hl
 go_enter Tryz.func67,Tryz.ntmps67
 go_wp2_with fail
 go_loopg [13] 12 (fun kx s13 wr=>∃ i:Nat,s13=.int .i64 i/\i<=12/\12 - i<=kx/\Hid (CoreAt A wr { K with hR:=seF V i K.hR })/\Hid (Chg (Cor A) w wr))
 case atStart=>exact⟨0,rfl,by omega,by omega,HK.out,Chg.refl _ _⟩
 case round=>
  obtain⟨i,rfl,hi,hkx,HC,HG⟩:=hrel
  by_cases hlt:i<12
  ·
   have hltz:(i:Int)<12:=by omega
   have ci:=(HG.out.cell HL.out HND.out (off+i)).trans (HV.out i hlt)
   have hct:=count_k A wr _ HC.out i hlt (min (V i) 65536) (by omega)
   have HEQ:Hid (seF V (i+1) K.hR=cntF (seF V i K.hR) (i:Nat) (min (V i) 65536)):=rfl
   generalize V i=vi at *
   have hm:(vi<65536/\vi<=65536/\min vi 65536=vi)\/(vi=65536/\65536<=vi/\min vi 65536=65536)\/(65536<vi/\¬ vi<=65536/\min vi 65536=65536):=by omega
   rcases hm with ⟨hv,hv2,hm⟩ | ⟨rfl,hv2,hm⟩ | ⟨hv,hv2,hm⟩
   all_goals
    rw[hm] at hct HEQ
    clear hm
    go_wp2_with fail
    refine hct.mono ?_
    rintro e w1 ⟨rfl,k1,g1⟩
    have HK1:Hid (CoreAt A w1 { K with hR:=seF V (i+1) K.hR }):=by
     show CoreAt A w1 { K with hR:=seF V (i+1) K.hR }
     rw[HEQ.out]
     exact k1
    have HG1:=hyd (HG.out.trans g1)
    clear hct k1 g1 ci HC HG HEQ
    go_wp2
    go_roundg (12 - (i+1))
    case measure=>omega
    case rel=>exact⟨i+1,by simp,by omega,Nat.le_refl _,HK1.out,HG1.out⟩
  ·
   have hltz:¬ (i:Int)<12:=by omega
   have e:i=12:=by omega
   subst e
   go_wp2
   go_ret
   exact⟨rfl,HC.out,HG.out⟩
theorem seF_8 (V:Nat->Int) (hV:∀ i,i<12->V i=8):seF V 12 (fun _=>0)=fun b=>if b<12 then 8 else 0:=by
 have h:∀ n,n<=12->seF V n (fun _=>0)=fun b=>if b<n then 8 else 0:=by
  intro n
  induction n with
  | zero=>intro _;rfl
  | succ n ih=>
   intro hn
   show cntF (seF V n fun _=>0) (n:Nat) (min (V n) 65536)=_
   rw[ih (by omega),hV n (by omega)]
   funext b
   unfold cntF
   rw[if_pos (by omega),Int.toNat_natCast]
   unfold upd
   by_cases e:b=n
   ·
    subst e
    rw[if_pos rfl,if_pos (by omega)]
    show min ((if b<b then (8:Int) else 0)+max (min 8 65536) 0) 65535=8
    rw[if_neg (by omega)]
    decide
   ·
    rw[if_neg e]
    show (if b<n then (8:Int) else 0)=if b<n+1 then 8 else 0
    by_cases h:b<n
    ·
     rw[if_pos h,if_pos (by omega)]
    ·
     rw[if_neg h,if_neg (by omega)]
 exact h 12 (Nat.le_refl _)
end Go.Proofs.YtbhbilcieodbhaaGreat
