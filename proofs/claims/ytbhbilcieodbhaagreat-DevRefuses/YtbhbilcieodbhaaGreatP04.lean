/-
  Worlds that differ in some blocks alone; blocks that hold ints or bools. No condition: lemmas. What the functions of pool answer. No condition: lemmas. What pool's States, Set, Take, Bound, Spare and Worn answer. No condition: lemmas. Program and document told alike; up; stands. No condition: lemmas. What stays as it is whatever is done with a table; a free block is taken, or one is set. No condition: lemmas.
-/
import Derived.Test.YtbhbilcieodbhaaGreatP03
import Derived.WalkKit
import Derived.Deep.RegionWith
import Derived.Deep.Draws
import Derived.BigQuiet
import Derived.ChangeAlike
import Derived.Deep.QuietTactic
import Derived.Outline
import Derived.RegionCalls
import Derived.RegionTactic
import Derived.WalkLawsBesides
import Derived.WalkSpells
import Derived.Deep.MidRow
import Derived.Deep.LoopGhost
import Derived.Laws.Rows
import Derived.Laws.Tables
import Derived.Laws.CopyOwn
import Derived.Deep.RegionHeld3
import Derived.Maps.AppendAt
import Derived.Deep.SlicePairs
import Derived.SizedLaws
import Derived.OpenShut
import Derived.Deep.RegionLaw
namespace Go.Proofs.YtbhbilcieodbhaaGreat.Pool
set_option maxRecDepth 100000
open Go.RowKit
section
variable {w w':World} {b n:Nat} {t:TypeId} {F:Nat->Bool}
end
theorem zero48 (w:World):(zeroValue 167).run Tryz.prog w=.ok (.agg (ints (fun _=>0) 13).toArray) w:=by kernel_rfl
theorem make12 (w:World):(Instr.makeSlice 22 (.int .i64 12) (.int .i64 12)).run Tryz.prog w=.ok (.slice (some ⟨w.heap.size,0,none⟩) 12 12) (w.alloc (.cells (ints (fun _=>0) 12).toArray 3)):=by kernel_rfl
def cnt (F:Nat->Int) (s:Int):Nat->Nat
 | 0=>0
 | k+1=>cnt F s k+if F k=s then 1 else 0
theorem cnt_le (F:Nat->Int) (s:Int) (k:Nat):cnt F s k<=k:=by
 induction k with
 | zero=>exact Nat.le_refl _
 | succ k ih=>unfold cnt;split <;> omega
theorem block_yes (w:World) (n:Int) (h0:0<=n) (h1:n<12):Calls Tryz.prog 215 #[.int .i64 n] w fun e w'=>e=.returned (.bool true)/\w'=w:=by
 go_enter Tryz.func215,Tryz.ntmps215
 go_wp2
 go_ret
 exact⟨rfl,rfl⟩
theorem block_no (w:World) (n:Int) (h:n<0\/12<=n):Calls Tryz.prog 215 #[.int .i64 n] w fun e w'=>e=.returned (.bool false)/\w'=w:=by
 by_cases h0:0<=n
 ·
  have h1:¬ n<12:=by omega
  clear h
  go_enter Tryz.func215,Tryz.ntmps215
  go_wp2
  go_ret
  exact⟨rfl,rfl⟩
 ·
  clear h
  go_enter Tryz.func215,Tryz.ntmps215
  go_wp2
  go_ret
  exact⟨rfl,rfl⟩
theorem state_yes (w:World) (n:Int) (h0:0<=n) (h1:n<=3):Calls Tryz.prog 216 #[.int .i64 n] w fun e w'=>e=.returned (.bool true)/\w'=w:=by
 go_enter Tryz.func216,Tryz.ntmps216
 go_wp2
 go_ret
 exact⟨rfl,rfl⟩
theorem state_no (w:World) (n:Int) (h:n<0\/3<n):Calls Tryz.prog 216 #[.int .i64 n] w fun e w'=>e=.returned (.bool false)/\w'=w:=by
 by_cases h0:0<=n
 ·
  have h1:¬ n<=3:=by omega
  clear h
  go_enter Tryz.func216,Tryz.ntmps216
  go_wp2
  go_ret
  exact⟨rfl,rfl⟩
 ·
  clear h
  go_enter Tryz.func216,Tryz.ntmps216
  go_wp2
  go_ret
  exact⟨rfl,rfl⟩
theorem new_any (w:World):Calls Tryz.prog 176 #[] w fun e w'=>e=.returned (.pointer (some ⟨w.heap.size,0,none⟩))/\IB w' w.heap.size 167 13 (fun _=>0)/\Chg (fun _=>False) w w':=by
 go_enter Tryz.func176,Tryz.ntmps176
 go_wp2_with (refine wpList_alloc_row rfl 167 rfl w.heap.size rfl zero48 ?_)
 intro w1 K1 G1 S1
 have HK1:=hyd (show IB w1 w.heap.size 167 13 (fun _=>0) from K1)
 have HG1:=hyd G1
 clear K1 G1 S1
 generalize HB:w.heap.size=b at *
 have HB:=hyd HB
 go_wp2_with fail
 go_loopg [4] 12 (fun kx s4 wr=>∃ i:Nat,s4=.int .i64 i/\i<=12/\12 - i<=kx/\Hid (IB wr b 167 13 (fun _=>0))/\Hid (Chg (fun _=>False) w wr))
 case atStart=>exact⟨0,rfl,by omega,by omega,HK1,HG1⟩
 case round=>
 obtain⟨i,rfl,hin,hkx,HK,HG⟩:=hrel
 clear HK1 HG1
 by_cases hlt:i<12
 ·
  have hltz:(i:Int)<12:=by omega
  obtain⟨c,f⟩:=HK.out.cell i (by omega)
  go_wp2
  go_roundg (12 - (i+1))
  case measure=>omega
  case rel=>
   refine⟨i+1,by simp,by omega,Nat.le_refl _,?_,?_⟩
   ·
    exact(HK.out.set i 0).congr fun j _=>by unfold upd;split <;> rfl
   ·
    exact HG.out.setCell (Or.inr (by rw[HB.out];exact Nat.le_refl _)) _ _
 ·
  have hltz:¬ (i:Int)<12:=by omega
  go_wp2
  go_ret
  exact⟨rfl,HK.out,HG.out⟩
theorem get_yes (w:World) (b:Nat) (F:Nat->Int) (h:IB w b 167 13 F) (n:Nat) (hn:n<12):Calls Tryz.prog 187 #[.pointer (some ⟨b,0,none⟩),.int .i64 n] w fun e w'=>e=.returned (.tuple #[.int .i64 (F n),.nilIface])/\w'=w:=by
 obtain⟨c,-⟩:=h.cell n (by omega)
 have h1:(n:Int)<12:=by omega
 clear h
 go_enter Tryz.func187,Tryz.ntmps187
 go_wp2_with (go_at_call 215;refine(block_yes _ _ (by omega) h1).mono ?_;rintro e w1 ⟨rfl,rfl⟩)
 go_ret2
 exact⟨rfl,rfl⟩
theorem get_no (w:World) (b:Nat) (n:Int) (hn:n<0\/12<=n):Calls Tryz.prog 187 #[.pointer (some ⟨b,0,none⟩),.int .i64 n] w fun e w'=>e=.returned (.tuple #[.int .i64 0,.iface 56 (.int .i64 1)])/\w'=w:=by
 go_enter Tryz.func187,Tryz.ntmps187
 go_wp2_with (go_at_call 215;refine(block_no _ _ hn).mono ?_;rintro e w1 ⟨rfl,rfl⟩)
 go_ret2
 exact⟨rfl,rfl⟩
theorem count_any (w:World) (b:Nat) (F:Nat->Int) (h:IB w b 167 13 F) (s:Int):Calls Tryz.prog 148 #[.pointer (some ⟨b,0,none⟩),.int .i64 s] w fun e w'=>e=.returned (.int .i64 (cnt F s 12:Nat))/\w'=w:=by
 have HK:=hyd h
 clear h
 go_enter Tryz.func148,Tryz.ntmps148
 go_wp2_with fail
 go_loopg [5,7] 12 (fun kx s5 s7 wr=>∃ i:Nat,s7=.int .i64 i/\s5=.int .i64 (cnt F s i:Nat)/\i<=12/\12 - i<=kx/\wr=w)
 case atStart=>exact⟨0,rfl,rfl,by omega,by omega,rfl⟩
 case round=>
 obtain⟨i,rfl,rfl,hin,hkx,rfl⟩:=hrel
 by_cases hlt:i<12
 ·
  have hltz:(i:Int)<12:=by omega
  obtain⟨c,f⟩:=HK.out.cell i (by omega)
  have hc:=cnt_le F s i
  have HE:Hid (cnt F s (i+1)=cnt F s i+if F i=s then 1 else 0):=rfl
  by_cases he:F i=s
  ·
   have hb:(F i == s)=true:=by simp[he]
   rw[if_pos he] at HE
   clear he
   go_wp2
   go_roundg (12 - (i+1))
   case measure=>omega
   case rel=>exact⟨i+1,by simp,by rw[HE.out];simp,by omega,Nat.le_refl _,rfl⟩
  ·
   have hb:(F i == s)=false:=by simp[he]
   rw[if_neg he] at HE
   clear he
   go_wp2
   go_roundg (12 - (i+1))
   case measure=>omega
   case rel=>exact⟨i+1,by simp,by rw[HE.out];simp,by omega,Nat.le_refl _,rfl⟩
 ·
  have hltz:¬ (i:Int)<12:=by omega
  have h12:i=12:=by omega
  subst h12
  go_wp2
  go_ret
  exact⟨rfl,rfl⟩
theorem size3:(Tryz.prog.info? 3).map (·.size)=some 1:=by kernel_rfl
theorem addr_at (g o j:Nat):(⟨g,o,none⟩:Addr).add j=⟨g,o+j,none⟩:=by unfold Addr.add;split <;> simp_all
theorem mod_at (f i:Nat):((f:Int)+(i:Int)).tmod 12=(((f+i) % 12:Nat):Int):=by
 rw[Int.tmod_eq_emod_of_nonneg (by omega)]
 omega
def bnd (F:Nat->Int):Int:=if 2<cnt F 3 12 then 0 else 1+2*(2 - (cnt F 3 12:Int))
theorem set_arg (w:World) (b:Nat) (n s:Int) (hn:(n<0\/12<=n)\/(s<0\/3<s)):Calls Tryz.prog 184 #[.pointer (some ⟨b,0,none⟩),.int .i64 n,.int .i64 s] w fun e w'=>e=.returned (.iface 56 (.int .i64 1))/\w'=w:=by
 by_cases h1:n<0\/12<=n
 ·
  clear hn
  go_enter Tryz.func184,Tryz.ntmps184
  go_wp2_with (first | (go_at_call 215;refine(block_no _ _ h1).mono ?_;rintro e w1 ⟨rfl,rfl⟩))
  go_ret
  exact⟨rfl,rfl⟩
 ·
  have h2:s<0\/3<s:=by omega
  have h3:0<=n:=by omega
  have h4:n<12:=by omega
  clear hn h1
  go_enter Tryz.func184,Tryz.ntmps184
  go_wp2_with (first | (go_at_call 215;refine(block_yes _ _ h3 h4).mono ?_;rintro e w1 ⟨rfl,rfl⟩) | (go_at_call 216;refine(state_no _ _ h2).mono ?_;rintro e w1 ⟨rfl,rfl⟩))
  go_ret
  exact⟨rfl,rfl⟩
theorem set_bad (w:World) (b:Nat) (F:Nat->Int) (h:IB w b 167 13 F) (n:Nat) (s:Int) (hn:n<12) (h0:0<=s) (h3:s<=3) (hF:F n=3) (hs:s≠3):Calls Tryz.prog 184 #[.pointer (some ⟨b,0,none⟩),.int .i64 n,.int .i64 s] w fun e w'=>e=.returned (.iface 56 (.int .i64 12))/\w'=w:=by
 obtain⟨c,-⟩:=h.cell n (by omega)
 rw[hF] at c
 have h1:(n:Int)<12:=by omega
 have hb:(s == 3)=false:=by simp[hs]
 clear h hF hn
 go_enter Tryz.func184,Tryz.ntmps184
 go_wp2_with (first | (go_at_call 215;refine(block_yes _ _ (by omega) h1).mono ?_;rintro e w1 ⟨rfl,rfl⟩) | (go_at_call 216;refine(state_yes _ _ h0 h3).mono ?_;rintro e w1 ⟨rfl,rfl⟩))
 go_ret
 exact⟨rfl,rfl⟩
theorem set_yes (w:World) (b:Nat) (F:Nat->Int) (h:IB w b 167 13 F) (n:Nat) (s:Int) (hn:n<12) (h0:0<=s) (h3:s<=3) (hF:¬ (F n=3/\s≠3)):Calls Tryz.prog 184 #[.pointer (some ⟨b,0,none⟩),.int .i64 n,.int .i64 s] w fun e w'=>e=.returned .nilIface/\IB w' b 167 13 (upd F n s)/\Chg (·=b) w w':=by
 obtain⟨c,f⟩:=h.cell n (by omega)
 have h1:(n:Int)<12:=by omega
 have HK:=hyd h
 by_cases h2:F n=3
 ·
  rw[h2] at c
  have hs:s=3:=by
   by_cases hs:s=3
   ·
    exact hs
   ·
    exact absurd ⟨h2,hs⟩ hF
  subst hs
  clear h hF hn h2
  go_enter Tryz.func184,Tryz.ntmps184
  go_wp2_with (first | (go_at_call 215;refine(block_yes _ _ (by omega) h1).mono ?_;rintro e w1 ⟨rfl,rfl⟩) | (go_at_call 216;refine(state_yes _ _ (by omega) (by omega)).mono ?_;rintro e w1 ⟨rfl,rfl⟩))
  go_ret
  exact⟨rfl,HK.out.set _ _,(Chg.refl (·=b) _).setCell (Or.inl rfl) _ _⟩
 ·
  have hb:(F n == 3)=false:=by simp[h2]
  clear h hF hn h2
  go_enter Tryz.func184,Tryz.ntmps184
  go_wp2_with (first | (go_at_call 215;refine(block_yes _ _ (by omega) h1).mono ?_;rintro e w1 ⟨rfl,rfl⟩) | (go_at_call 216;refine(state_yes _ _ h0 h3).mono ?_;rintro e w1 ⟨rfl,rfl⟩))
  go_ret
  exact⟨rfl,HK.out.set _ _,(Chg.refl (·=b) _).setCell (Or.inl rfl) _ _⟩
theorem states_any (w:World) (b:Nat) (F:Nat->Int) (h:IB w b 167 13 F):Calls Tryz.prog 53 #[.pointer (some ⟨b,0,none⟩)] w fun e w'=>e=.returned (.slice (some ⟨w.heap.size,0,none⟩) 12 12)/\IB w' w.heap.size 3 12 F/\Chg (fun _=>False) w w':=by
 have hm:=make12
 have HB:Hid (b<w.heap.size):=h.lt
 have HK0:=hyd (IB.new w 3 12 (fun _=>0))
 have HG0:Hid (Chg (fun _=>False) w (w.alloc (.cells (ints (fun _=>0) 12).toArray 3))):=(Chg.refl _ w).alloc _
 have HK:=hyd (h.chg HG0.out (fun f=>f))
 clear h
 go_enter Tryz.func53,Tryz.ntmps53
 go_wp2_with (refine wpList_copy_own rfl (.tmp 5) (.tmp 9) 22 22 rfl 3 Tryz.underlying22 size3 w.heap.size 0 12 12 ⟨b,0,none⟩ 12 12 rfl rfl (ints (fun _=>0) 12).toArray 3 HK0.out (ints F 12) (by rw[ints_length];rfl) (fun j v hv=>by rw[addr_at,Nat.zero_add,(HK.out.cell j (by have:=(List.getElem?_eq_some_iff.1 hv).1;rw[ints_length] at this;omega)).1,<-hv,ints_at _ _ _ (by have:=(List.getElem?_eq_some_iff.1 hv).1;rw[ints_length] at this;omega)];rfl) (by simp[ints_length]) (ints_one F 12) ?_)
 go_ret
 have e1:(ints F 12 ++ List.drop (ints F 12).length (ints (fun _=>0) 12)).toArray=(ints F 12).toArray:=by
  rw[ints_length,List.drop_of_length_le (by simp[ints_length]),List.append_nil]
 rw[e1]
 exact⟨rfl,HK0.out.row F,HG0.out.trans' (chg_row _ _ _) (fun i hi e=>by omega)⟩
theorem worn_any (w:World) (b:Nat) (F:Nat->Int) (h:IB w b 167 13 F):Calls Tryz.prog 112 #[.pointer (some ⟨b,0,none⟩)] w fun e w'=>e=.returned (.bool (decide (2<cnt F 3 12)))/\w'=w:=by
 have hc:=count_any w b F h 3
 have HD:Hid (decide (2<((cnt F 3 12:Nat):Int))=decide (2<cnt F 3 12)):=decide_eq_decide.2 (by omega)
 clear h
 go_enter Tryz.func112,Tryz.ntmps112
 go_wp2_with (go_at_call 148;refine hc.mono ?_;rintro e w1 ⟨rfl,rfl⟩)
 go_ret
 exact⟨by rw[<-HD.out];rfl,rfl⟩
theorem bound_any (w:World) (b:Nat) (F:Nat->Int) (h:IB w b 167 13 F):Calls Tryz.prog 151 #[.pointer (some ⟨b,0,none⟩)] w fun e w'=>e=.returned (.int .i64 (bnd F))/\w'=w:=by
 have hc:=count_any w b F h 3
 have hw:=worn_any w b F h
 have hl:=cnt_le F 3 12
 clear h
 by_cases hx:2<cnt F 3 12
 ·
  have HD:Hid (bnd F=0):=by show _=_;unfold bnd;rw[if_pos hx]
  rw[decide_eq_true hx] at hw
  clear hx hc
  go_enter Tryz.func151,Tryz.ntmps151
  go_wp2_with (go_at_call 112;refine hw.mono ?_;rintro e w1 ⟨rfl,rfl⟩)
  go_ret
  exact⟨by rw[HD.out];rfl,rfl⟩
 ·
  have HD:Hid (bnd F=1+2*(2 - (cnt F 3 12:Int))):=by show _=_;unfold bnd;rw[if_neg hx]
  rw[decide_eq_false hx] at hw
  clear hx
  go_enter Tryz.func151,Tryz.ntmps151
  go_wp2_with (first | (go_at_call 112;refine hw.mono ?_;rintro e w1 ⟨rfl,rfl⟩) | (go_at_call 148;refine hc.mono ?_;rintro e w1 ⟨rfl,rfl⟩))
  go_ret
  exact⟨by rw[HD.out];rfl,rfl⟩
theorem spare_any (w:World) (b:Nat) (F:Nat->Int) (h:IB w b 167 13 F):Calls Tryz.prog 115 #[.pointer (some ⟨b,0,none⟩)] w fun e w'=>e=.returned (.bool (decide (bnd F<(cnt F 0 12:Nat))))/\w'=w:=by
 have hc:=count_any w b F h 0
 have hw:=bound_any w b F h
 clear h
 go_enter Tryz.func115,Tryz.ntmps115
 go_wp2_with (first | (go_at_call 148;refine hc.mono ?_;rintro e w1 ⟨rfl,rfl⟩) | (go_at_call 151;refine hw.mono ?_;rintro e w1 ⟨rfl,rfl⟩))
 go_ret
 exact⟨rfl,rfl⟩
theorem take_yes (w:World) (b:Nat) (F:Nat->Int) (h:IB w b 167 13 F) (f:Nat) (hf:f<12) (h12:F 12=f) (j:Nat) (hj:j<12) (m:Nat) (hmj:m=(f+j) % 12) (hF:F m=0) (hno:∀ i,i<j->F ((f+i) % 12)≠0):Calls Tryz.prog 152 #[.pointer (some ⟨b,0,none⟩)] w fun e w'=>
 e=.returned (.tuple #[.int .i64 m,.nilIface])/\IB w' b 167 13 (upd (upd F m 1) 12 ((m+1) % 12:Nat))/\Chg (·=b) w w':=by
 have HK:=hyd h
 have HN:=hyd hno
 obtain⟨c12,f12⟩:=h.cell 12 (by omega)
 rw[h12] at c12
 have HM:=hyd hmj
 clear h hno h12 hmj
 go_enter Tryz.func152,Tryz.ntmps152
 go_wp2_with fail
 go_loopg [6] 12 (fun kx s6 wr=>∃ i:Nat,s6=.int .i64 i/\i<=j/\12 - i<=kx/\wr=w)
 case atStart=>exact⟨0,rfl,by omega,by omega,rfl⟩
 case round=>
 obtain⟨i,rfl,hin,hkx,rfl⟩:=hrel
 have hltz:(i:Int)<12:=by omega
 have hm:=mod_at f i
 have hml:(f+i) % 12<12:=Nat.mod_lt _ (by omega)
 obtain⟨c,fz⟩:=HK.out.cell ((f+i) % 12) (by omega)
 by_cases hlt:i<j
 ·
  have hb:(F ((f+i) % 12) == 0)=false:=by simp[HN.out i hlt]
  go_wp2
  go_roundg (12 - (i+1))
  case measure=>omega
  case rel=>exact⟨i+1,by simp,by omega,Nat.le_refl _,rfl⟩
 ·
  have hij:i=j:=by omega
  subst hij
  rw[<-HM.out] at c hm hml fz
  rw[hF] at c
  have hm2:=mod_at m 1
  have hcast:((m:Int)+1).tmod 12=(((m+1) % 12:Nat):Int):=hm2
  have hm3:(m:Int)<12:=by omega
  clear hm2 hlt hin
  have HK1:=hyd (HK.out.set m 1)
  obtain⟨-,g12⟩:=HK1.out.cell 12 (by omega)
  go_wp2
  go_ret2
  refine⟨rfl,?_,?_⟩
  ·
   exact HK1.out.set 12 _
  ·
   exact((Chg.refl (·=b) _).setCell (Or.inl rfl) _ _).setCell (Or.inl rfl) _ _
theorem take_no (w:World) (b:Nat) (F:Nat->Int) (h:IB w b 167 13 F) (f:Nat) (hf:f<12) (h12:F 12=f) (hno:∀ i,i<12->F i≠0):Calls Tryz.prog 152 #[.pointer (some ⟨b,0,none⟩)] w fun e w'=>e=.returned (.tuple #[.int .i64 0,.iface 56 (.int .i64 10)])/\w'=w:=by
 have HK:=hyd h
 have HN:=hyd hno
 obtain⟨c12,f12⟩:=h.cell 12 (by omega)
 rw[h12] at c12
 clear h hno h12
 go_enter Tryz.func152,Tryz.ntmps152
 go_wp2_with fail
 go_loopg [6] 12 (fun kx s6 wr=>∃ i:Nat,s6=.int .i64 i/\i<=12/\12 - i<=kx/\wr=w)
 case atStart=>exact⟨0,rfl,by omega,by omega,rfl⟩
 case round=>
 obtain⟨i,rfl,hin,hkx,rfl⟩:=hrel
 by_cases hlt:i<12
 ·
  have hltz:(i:Int)<12:=by omega
  have hm:=mod_at f i
  have hml:(f+i) % 12<12:=Nat.mod_lt _ (by omega)
  obtain⟨c,fz⟩:=HK.out.cell ((f+i) % 12) (by omega)
  have hb:(F ((f+i) % 12) == 0)=false:=by simp[HN.out _ hml]
  go_wp2
  go_roundg (12 - (i+1))
  case measure=>omega
  case rel=>exact⟨i+1,by simp,by omega,Nat.le_refl _,rfl⟩
 ·
  have hltz:¬ (i:Int)<12:=by omega
  go_wp2
  go_ret2
  exact⟨rfl,rfl⟩
def setC (F:Nat->Int) (n s:Int):Nat:=if (n<0\/12<=n)\/(s<0\/3<s) then 1 else if F n.toNat=3/\s≠3 then 12 else 0
def setF (F:Nat->Int) (n s:Int):Nat->Int:=if setC F n s=0 then upd F n.toNat s else F
theorem setC_zero {F:Nat->Int} {n s:Int} (h:setC F n s=0):(0<=n/\n<12)/\(0<=s/\s<=3)/\¬ (F n.toNat=3/\s≠3):=by
 unfold setC at h
 split at h
 ·
  omega
 ·
  rename_i h1
  split at h
  ·
   omega
  ·
   rename_i h2
   exact⟨by omega,by omega,h2⟩
theorem set_v (w:World) (b:Nat) (F:Nat->Int) (h:IB w b 167 13 F) (n s:Int):Calls Tryz.prog 184 #[.pointer (some ⟨b,0,none⟩),.int .i64 n,.int .i64 s] w fun e w'=>e=.returned (errV (setC F n s))/\IB w' b 167 13 (setF F n s)/\Chg (·=b) w w':=by
 by_cases h1:(n<0\/12<=n)\/(s<0\/3<s)
 ·
  have e:setC F n s=1:=by unfold setC;rw[if_pos h1]
  refine(set_arg w b n s h1).mono ?_
  rintro x w' ⟨rfl,rfl⟩
  rw[e]
  refine⟨rfl,?_,Chg.refl _ _⟩
  unfold setF
  rw[e]
  exact h
 ·
  obtain⟨m,rfl⟩:∃ m:Nat,n=m:=⟨n.toNat,by omega⟩
  by_cases h2:F m=3/\s≠3
  ·
   have e:setC F m s=12:=by unfold setC;rw[if_neg h1,Int.toNat_natCast,if_pos h2]
   refine(set_bad w b F h m s (by omega) (by omega) (by omega) h2.1 h2.2).mono ?_
   rintro x w' ⟨rfl,rfl⟩
   rw[e]
   refine⟨rfl,?_,Chg.refl _ _⟩
   unfold setF
   rw[e]
   exact h
  ·
   have e:setC F m s=0:=by unfold setC;rw[if_neg h1,Int.toNat_natCast,if_neg h2]
   refine(set_yes w b F h m s (by omega) (by omega) (by omega) h2).mono ?_
   rintro x w' ⟨rfl,h3,h4⟩
   rw[e]
   refine⟨rfl,?_,h4⟩
   unfold setF
   rw[if_pos e,Int.toNat_natCast]
   exact h3
def getC (n:Int):Nat:=if n<0\/12<=n then 1 else 0
def getV (F:Nat->Int) (n:Int):Int:=if n<0\/12<=n then 0 else F n.toNat
theorem get_v (w:World) (b:Nat) (F:Nat->Int) (h:IB w b 167 13 F) (n:Int):Calls Tryz.prog 187 #[.pointer (some ⟨b,0,none⟩),.int .i64 n] w fun e w'=>e=.returned (.tuple #[.int .i64 (getV F n),errV (getC n)])/\w'=w:=by
 by_cases h1:n<0\/12<=n
 ·
  unfold getV getC
  rw[if_pos h1,if_pos h1]
  exact get_no w b n h1
 ·
  obtain⟨m,rfl⟩:∃ m:Nat,n=m:=⟨n.toNat,by omega⟩
  unfold getV getC
  rw[if_neg h1,if_neg h1,Int.toNat_natCast]
  exact get_yes w b F h m (by omega)
def Nxt (F:Nat->Int) (f c m:Nat):Prop:=(c=0/\∃ j,j<12/\m=(f+j) % 12/\F m=0/\∀ i,i<j->F ((f+i) % 12)≠0)\/(c=10/\m=0/\∀ i,i<12->F i≠0)
theorem first_of (P:Nat->Prop) [DecidablePred P] (n:Nat):(∃ j,j<n/\P j/\∀ i,i<j->¬ P i)\/∀ i,i<n->¬ P i:=by
 induction n with
 | zero=>exact Or.inr fun i hi=>absurd hi (Nat.not_lt_zero _)
 | succ n ih=>
  rcases ih with ⟨j,h1,h2,h3⟩ | ih
  ·
   exact Or.inl ⟨j,by omega,h2,h3⟩
  ·
   by_cases hn:P n
   ·
    exact Or.inl ⟨n,by omega,hn,ih⟩
   ·
    refine Or.inr fun i hi=>?_
    by_cases e:i=n
    ·
     subst e;exact hn
    ·
     exact ih i (by omega)
def tkF (F:Nat->Int) (c m:Nat):Nat->Int:=if c=0 then upd (upd F m 1) 12 ((m+1) % 12:Nat) else F
theorem take_v (w:World) (b:Nat) (F:Nat->Int) (h:IB w b 167 13 F) (f:Nat) (hf:f<12) (h12:F 12=f) {c m:Nat} (hN:Nxt F f c m):Calls Tryz.prog 152 #[.pointer (some ⟨b,0,none⟩)] w fun e w'=>e=.returned (.tuple #[.int .i64 m,errV c])/\IB w' b 167 13 (tkF F c m)/\Chg (·=b) w w':=by
 rcases hN with ⟨rfl,j,hj,hm,hF,hno⟩ | ⟨rfl,rfl,hno⟩
 ·
  exact take_yes w b F h f hf h12 j hj m hm hF hno
 ·
  refine(take_no w b F h f hf h12 hno).mono ?_
  rintro x w' ⟨rfl,rfl⟩
  exact⟨rfl,h,Chg.refl _ _⟩
theorem cnt_like {F G:Nat->Int} (s:Int):∀ (k:Nat),(∀ i,i<k->G i=F i)->cnt G s k=cnt F s k
 | 0,_=>rfl
 | k+1,h=>by unfold cnt;rw[cnt_like s k (fun i hi=>h i (by omega)),h k (by omega)]
def one (p:Prop) [Decidable p]:Nat:=if p then 1 else 0
theorem cnt_far (F:Nat->Int) (n:Nat) (s t:Int) (k:Nat) (h:k<=n):cnt (upd F n s) t k=cnt F t k:=
 cnt_like t k fun i hi=>by unfold upd;rw[if_neg (by omega)]
theorem cnt_upd (F:Nat->Int) (n:Nat) (s t:Int):∀ k,n<k->cnt (upd F n s) t k+one (F n=t)=cnt F t k+one (s=t)
 | 0,h=>by omega
 | k+1,h=>by
  have e:∀ G:Nat->Int,cnt G t (k+1)=cnt G t k+one (G k=t):=fun _=>rfl
  rw[e,e]
  by_cases hk:n=k
  ·
   subst hk
   have e3:upd F n s n=s:=by simp[upd]
   rw[cnt_far F n s t n (Nat.le_refl _),e3]
   omega
  ·
   have ih:=cnt_upd F n s t k (by omega)
   have e3:upd F n s k=F k:=by unfold upd;rw[if_neg (by omega)]
   rw[e3]
   omega
end Go.Proofs.YtbhbilcieodbhaaGreat.Pool
/-
  Worlds that differ in some blocks alone; blocks that hold ints. No condition: lemmas. What the functions of geom and of its document answer, case by case. No condition: lemmas. Where each number lies (L), and which number lies at each place (own): lists of numbers alone. No condition: lemmas. The law's own pick and Code. No condition: lemmas. What pmap's New, told, lift, At, Owner, Drop and Set answer. No condition: lemmas. Slices of ints that a call itself has made; what pmap's Of and Live answer. No condition: lemmas. Program and document told alike; up; stands. No condition: lemmas.
-/
namespace Go.Proofs.YtbhbilcieodbhaaGreat.Pmap
set_option maxRecDepth 100000
open Go.RowKit
theorem zero48 (w:World):(zeroValue 173).run Tryz.prog w=.ok (.agg (ints (fun _=>0) 121).toArray) w:=by kernel_rfl
theorem make12 (w:World):(Instr.makeSlice 22 (.int .i64 12) (.int .i64 12)).run Tryz.prog w=.ok (.slice (some ⟨w.heap.size,0,none⟩) 12 12) (w.alloc (.cells (ints (fun _=>0) 12).toArray 3)):=by kernel_rfl
theorem size46:(Tryz.prog.info? 171).map (·.size)=some 96:=by kernel_rfl
theorem below_yes (w:World) (n m:Int) (h:0<=n/\n<m):Calls Tryz.prog 145 #[.int .i64 n,.int .i64 m] w fun e w'=>e=.returned (.bool true)/\w'=w:=by
 obtain⟨h0,h1⟩:=h
 go_enter Tryz.func145,Tryz.ntmps145
 go_wp2
 go_ret
 exact⟨rfl,rfl⟩
theorem below_no (w:World) (n m:Int) (h:n<0\/m<=n):Calls Tryz.prog 145 #[.int .i64 n,.int .i64 m] w fun e w'=>e=.returned (.bool false)/\w'=w:=by
 by_cases h0:0<=n
 ·
  have h1:¬ n<m:=by omega
  clear h
  go_enter Tryz.func145,Tryz.ntmps145
  go_wp2
  go_ret
  exact⟨rfl,rfl⟩
 ·
  clear h
  go_enter Tryz.func145,Tryz.ntmps145
  go_wp2
  go_ret
  exact⟨rfl,rfl⟩
theorem place_in (w:World) (b i:Int) (hb:0<=b/\b<12) (hi:0<=i/\i<8):Calls Tryz.prog 154 #[.int .i64 b,.int .i64 i] w fun e w'=>e=.returned (.tuple #[.int .i64 (b*8+i),.nilIface])/\w'=w:=by
 obtain⟨b0,b1⟩:=hb
 obtain⟨i0,i1⟩:=hi
 go_enter Tryz.func154,Tryz.ntmps154
 go_wp2_with fail
 refine(below_yes w b 12 ⟨b0,b1⟩).mono ?_
 rintro e w1 ⟨rfl,rfl⟩
 go_wp2_with fail
 refine(below_yes w1 i 8 ⟨i0,i1⟩).mono ?_
 rintro e w2 ⟨rfl,rfl⟩
 go_wp2
 go_ret2
 exact⟨rfl,rfl⟩
theorem place_out (w:World) (b i:Int) (h:(b<0\/12<=b)\/(i<0\/8<=i)):Calls Tryz.prog 154 #[.int .i64 b,.int .i64 i] w fun e w'=>e=.returned (.tuple #[.int .i64 0,.iface 56 (.int .i64 1)])/\w'=w:=by
 by_cases hb:0<=b/\b<12
 ·
  have hi:i<0\/8<=i:=by omega
  clear h
  obtain⟨b0,b1⟩:=hb
  go_enter Tryz.func154,Tryz.ntmps154
  go_wp2_with fail
  refine(below_yes w b 12 ⟨b0,b1⟩).mono ?_
  rintro e w1 ⟨rfl,rfl⟩
  go_wp2_with fail
  refine(below_no w1 i 8 hi).mono ?_
  rintro e w2 ⟨rfl,rfl⟩
  go_wp2
  go_ret2
  exact⟨rfl,rfl⟩
 ·
  have hb':b<0\/12<=b:=by omega
  clear h hb
  go_enter Tryz.func154,Tryz.ntmps154
  go_wp2_with fail
  refine(below_no w b 12 hb').mono ?_
  rintro e w1 ⟨rfl,rfl⟩
  go_wp2
  go_ret2
  exact⟨rfl,rfl⟩
theorem parts_in (w:World) (p:Int) (h:0<=p/\p<96):Calls Tryz.prog 127 #[.int .i64 p] w fun e w'=>e=.returned (.tuple #[.int .i64 (p / 8),.int .i64 (p % 8),.nilIface])/\w'=w:=by
 obtain⟨h0,h1⟩:=h
 go_enter Tryz.func127,Tryz.ntmps127
 go_wp2_with fail
 refine(below_yes w p 96 ⟨h0,h1⟩).mono ?_
 rintro e w1 ⟨rfl,rfl⟩
 go_wp2
 go_ret3
 exact⟨rfl,rfl⟩
theorem holds_in (w:World) (p o:Int) (h:0<=p/\p<96) (ho:0<=o/\o<25):Calls Tryz.prog 155 #[.int .i64 p,.int .i64 o] w fun e w'=>e=.returned (.tuple #[.bool (decide (o=24\/p % 8<6)),.nilIface])/\w'=w:=by
 obtain⟨h0,h1⟩:=h
 by_cases e1:o=24
 ·
  rw[show decide (o=24\/p % 8<6)=true from decide_eq_true (Or.inl e1)]
  have e2:(o == 24)=true:=by simp[e1]
  clear e1
  go_enter Tryz.func155,Tryz.ntmps155
  go_wp2_with fail
  refine(below_yes w p 96 ⟨h0,h1⟩).mono ?_
  rintro e w1 ⟨rfl,rfl⟩
  go_wp2_with fail
  refine(below_yes w1 o 25 ho).mono ?_
  rintro e w2 ⟨rfl,rfl⟩
  go_wp2
  go_ret2
  exact⟨rfl,rfl⟩
 ·
  rw[show decide (o=24\/p % 8<6)=decide (p % 8<6) from by simp[e1]]
  have e2:(o == 24)=false:=by simp[e1]
  clear e1
  go_enter Tryz.func155,Tryz.ntmps155
  go_wp2_with fail
  refine(below_yes w p 96 ⟨h0,h1⟩).mono ?_
  rintro e w1 ⟨rfl,rfl⟩
  go_wp2_with fail
  refine(below_yes w1 o 25 ho).mono ?_
  rintro e w2 ⟨rfl,rfl⟩
  go_wp2
  go_ret2
  exact⟨rfl,rfl⟩
theorem holds_out (w:World) (p o:Int) (h:(p<0\/96<=p)\/(o<0\/25<=o)):Calls Tryz.prog 155 #[.int .i64 p,.int .i64 o] w fun e w'=>e=.returned (.tuple #[.bool false,.iface 56 (.int .i64 1)])/\w'=w:=by
 by_cases hp:0<=p/\p<96
 ·
  have ho:o<0\/25<=o:=by omega
  clear h
  obtain⟨h0,h1⟩:=hp
  go_enter Tryz.func155,Tryz.ntmps155
  go_wp2_with fail
  refine(below_yes w p 96 ⟨h0,h1⟩).mono ?_
  rintro e w1 ⟨rfl,rfl⟩
  go_wp2_with fail
  refine(below_no w1 o 25 ho).mono ?_
  rintro e w2 ⟨rfl,rfl⟩
  go_wp2
  go_ret2
  exact⟨rfl,rfl⟩
 ·
  have hp':p<0\/96<=p:=by omega
  clear h hp
  go_enter Tryz.func155,Tryz.ntmps155
  go_wp2_with fail
  refine(below_no w p 96 hp').mono ?_
  rintro e w1 ⟨rfl,rfl⟩
  go_wp2
  go_ret2
  exact⟨rfl,rfl⟩
def ownK (L:Nat->Int) (q:Int):Nat->Int
 | 0=>-1
 | k+1=>if 0<=ownK L q k then ownK L q k else if L k=q then (k:Int) else -1
def own (L:Nat->Int) (q:Int):Int:=ownK L q 25
theorem ownK_spec (L:Nat->Int) (q:Int):∀ k,(∃ i,i<k/\ownK L q k=(i:Int)/\L i=q/\∀ j,j<i->L j≠q)\/(ownK L q k = -1/\∀ i,i<k->L i≠q)
 | 0=>Or.inr ⟨rfl,fun i hi=>absurd hi (Nat.not_lt_zero _)⟩
 | k+1=>by
  unfold ownK
  rcases ownK_spec L q k with ⟨i,h1,h2,h3,h4⟩ | ⟨h1,h2⟩
  ·
   left
   rw[if_pos (by omega)]
   exact⟨i,by omega,h2,h3,h4⟩
  ·
   rw[if_neg (by omega)]
   by_cases e:L k=q
   ·
    left
    rw[if_pos e]
    exact⟨k,by omega,rfl,e,h2⟩
   ·
    right
    rw[if_neg e]
    refine⟨rfl,fun i hi=>?_⟩
    by_cases e2:i=k
    ·
     subst e2;exact e
    ·
     exact h2 i (by omega)
theorem own_spec (L:Nat->Int) (q:Int):(∃ i:Nat,i<25/\own L q=(i:Int)/\L i=q/\∀ j,j<i->L j≠q)\/(own L q = -1/\∀ i,i<25->L i≠q):=ownK_spec L q 25
theorem own_none {L:Nat->Int} {q:Int} (h:∀ i,i<25->L i≠q):own L q = -1:=by
 rcases own_spec L q with ⟨i,h1,_,h3,_⟩ | ⟨h1,_⟩
 ·
  exact absurd h3 (h i h1)
 ·
  exact h1
structure Okl (L:Nat->Int):Prop where
 rng:∀ i,i<25->L i = -1\/(0<=L i/\L i<96)
 may:∀ i,i<24->L i = -1\/L i % 8<6
 inj:∀ i j,i<25->j<25->L i=L j->L i≠-1->i=j
theorem own_is {L:Nat->Int} (h:Okl L) {i:Nat} (hi:i<25) {q:Int} (hL:L i=q) (hq:q≠-1):own L q=i:=by
 rcases own_spec L q with ⟨j,h1,h2,h3,_⟩ | ⟨_,h2⟩
 ·
  have e:=h.inj i j hi h1 (by rw[hL,h3]) (by rw[hL];exact hq)
  rw[h2,e]
 ·
  exact absurd hL (h2 i hi)
theorem upd_same {α:Type} (f:Nat->α) (i:Nat) (z:α):upd f i z i=z:=by unfold upd;rw[if_pos rfl]
theorem upd_other {α:Type} (f:Nat->α) {i j:Nat} (z:α) (h:j≠i):upd f i z j=f j:=by unfold upd;rw[if_neg h]
theorem upd_upd {α:Type} (f:Nat->α) (i:Nat) (y z:α):upd (upd f i y) i z=upd f i z:=by
 funext j
 unfold upd
 split <;> rfl
theorem upd_self {α:Type} (f:Nat->α) (i:Nat) {z:α} (h:f i=z):upd f i z=f:=by
 funext j
 unfold upd
 split
 ·
  rename_i e;rw[e,h]
 ·
  rfl
theorem Okl.clear {L:Nat->Int} (h:Okl L) (n:Nat):Okl (upd L n (-1)):=by
 refine⟨fun i hi=>?_,fun i hi=>?_,fun i j hi hj e hn=>?_⟩
 ·
  unfold upd
  split
  ·
   exact Or.inl rfl
  ·
   exact h.rng i hi
 ·
  unfold upd
  split
  ·
   exact Or.inl rfl
  ·
   exact h.may i hi
 ·
  by_cases e1:i=n
  ·
   rw[e1,upd_same] at hn;exact absurd rfl hn
  ·
   by_cases e2:j=n
   ·
    rw[e,e2,upd_same] at hn;exact absurd rfl hn
   ·
    rw[upd_other _ _ e1,upd_other _ _ e2] at e
    rw[upd_other _ _ e1] at hn
    exact h.inj i j hi hj e hn
theorem own_clear {L:Nat->Int} (h:Okl L) {n:Nat} (hn:n<25) {q:Int} (hq:0<=q):own (upd L n (-1)) q=if q=L n then -1 else own L q:=by
 by_cases e:q=L n
 ·
  rw[if_pos e]
  refine own_none fun i hi=>?_
  by_cases e1:i=n
  ·
   rw[e1,upd_same];omega
  ·
   rw[upd_other _ _ e1]
   intro e2
   exact e1 (h.inj i n hi hn (by rw[e2,e]) (by omega))
 ·
  rw[if_neg e]
  rcases own_spec L q with ⟨i,h1,h2,h3,_⟩ | ⟨h1,h2⟩
  ·
   have e1:i≠n:=by intro e1;rw[e1] at h3;exact e h3.symm
   rw[h2]
   exact own_is (h.clear n) h1 (by rw[upd_other _ _ e1];exact h3) (by omega)
  ·
   rw[h1]
   refine own_none fun i hi=>?_
   by_cases e1:i=n
   ·
    rw[e1,upd_same];omega
   ·
    rw[upd_other _ _ e1];exact h2 i hi
theorem Okl.put {L:Nat->Int} (h:Okl L) (n:Nat) {q:Int} (hq:0<=q/\q<96) (hm:n<24->q % 8<6) (hno:own L q = -1):Okl (upd L n q):=by
 have hno':∀ i,i<25->L i≠q:=by
  rcases own_spec L q with ⟨i,_,h2,_⟩ | ⟨_,h2⟩
  ·
   omega
  ·
   exact h2
 refine⟨fun i hi=>?_,fun i hi=>?_,fun i j hi hj e hn=>?_⟩
 ·
  unfold upd
  split
  ·
   exact Or.inr hq
  ·
   exact h.rng i hi
 ·
  unfold upd
  split
  ·
   rename_i e;exact Or.inr (hm (by omega))
  ·
   exact h.may i hi
 ·
  by_cases e1:i=n
  ·
   by_cases e2:j=n
   ·
    omega
   ·
    rw[e1,upd_same,upd_other _ _ e2] at e
    exact absurd e.symm (hno' j hj)
  ·
   by_cases e2:j=n
   ·
    rw[e2,upd_same,upd_other _ _ e1] at e
    exact absurd e (hno' i hi)
   ·
    rw[upd_other _ _ e1,upd_other _ _ e2] at e
    rw[upd_other _ _ e1] at hn
    exact h.inj i j hi hj e hn
theorem own_put {L:Nat->Int} (h:Okl L) {n:Nat} (hn:n<25) {q:Int} (hq:0<=q/\q<96) (hm:n<24->q % 8<6) (hL:L n = -1) (hno:own L q = -1) {p:Int} (hp:0<=p):own (upd L n q) p=if p=q then (n:Int) else own L p:=by
 have hk:=h.put n hq hm hno
 by_cases e:p=q
 ·
  rw[if_pos e,e]
  exact own_is hk hn (upd_same _ _ _) (by omega)
 ·
  rw[if_neg e]
  rcases own_spec L p with ⟨i,h1,h2,h3,_⟩ | ⟨h1,h2⟩
  ·
   have e1:i≠n:=by intro e1;rw[e1] at h3;omega
   rw[h2]
   exact own_is hk h1 (by rw[upd_other _ _ e1];exact h3) (by omega)
  ·
   rw[h1]
   refine own_none fun i hi=>?_
   by_cases e1:i=n
   ·
    rw[e1,upd_same];omega
   ·
    rw[upd_other _ _ e1];exact h2 i hi
def stF (L:Nat->Int):Nat->Int:=fun k=>if k<25 then L k else own L ((k - 25:Nat):Int)
theorem stF_lo (L:Nat->Int) {k:Nat} (h:k<25):stF L k=L k:=by unfold stF;rw[if_pos h]
theorem stF_hi (L:Nat->Int) (k:Nat):stF L (25+k)=own L (k:Int):=by unfold stF;rw[if_neg (by omega),Nat.add_sub_cancel_left]
theorem stF_none (k:Nat):stF (fun _=>-1) k = -1:=by
 unfold stF
 split
 ·
  rfl
 ·
  exact own_none (fun _ _=>by omega)
theorem stF_clear {L:Nat->Int} (h:Okl L) {n:Nat} (hn:n<25) {m:Nat} (hm:L n=m) (k:Nat):upd (upd (stF L) (25+m) (-1)) n (-1) k=stF (upd L n (-1)) k:=by
 by_cases hk:k<25
 ·
  rw[stF_lo _ hk]
  by_cases e:k=n
  ·
   subst e;rw[upd_same,upd_same]
  ·
   rw[upd_other _ _ e,upd_other _ _ e,upd_other _ _ (by omega),stF_lo _ hk]
 ·
  obtain⟨j,rfl⟩:∃ j,k=25+j:=⟨k - 25,by omega⟩
  rw[stF_hi,upd_other _ _ (by omega),own_clear h hn (by omega),hm]
  by_cases e:j=m
  ·
   subst e;rw[upd_same,if_pos rfl]
  ·
   rw[upd_other _ _ (by omega),if_neg (by omega),stF_hi]
theorem stF_clear0 {L:Nat->Int} {n:Nat} (hn:n<25) (hm:L n = -1):upd (stF L) n (-1)=stF (upd L n (-1)):=by
 rw[upd_self L n hm,upd_self (stF L) n (by rw[stF_lo _ hn,hm])]
theorem stF_put {L:Nat->Int} (h:Okl L) {n:Nat} (hn:n<25) {m:Nat} (hq:m<96) (hm:n<24->m % 8<6) (hL:L n = -1) (hno:own L m = -1) (k:Nat):upd (upd (stF L) n m) (25+m) n k=stF (upd L n m) k:=by
 by_cases hk:k<25
 ·
  rw[stF_lo _ hk,upd_other _ _ (by omega)]
  by_cases e:k=n
  ·
   subst e;rw[upd_same,upd_same]
  ·
   rw[upd_other _ _ e,upd_other _ _ e,stF_lo _ hk]
 ·
  obtain⟨j,rfl⟩:∃ j,k=25+j:=⟨k - 25,by omega⟩
  rw[stF_hi,own_put h hn (by omega) (fun h=>by have:=hm h;omega) hL hno (by omega)]
  by_cases e:j=m
  ·
   subst e;rw[upd_same,if_pos rfl]
  ·
   rw[upd_other _ _ (by omega),if_neg (by omega),upd_other _ _ (by omega),stF_hi]
def ofK (L:Nat->Int) (b:Nat):Nat->List Int
 | 0=>[]
 | k+1=>ofK L b k ++ if own L ((8*b+k:Nat):Int) = -1 then [] else [own L ((8*b+k:Nat):Int)]
def ofL (L:Nat->Int) (b:Nat):List Int:=ofK L b 8
theorem ofK_length (L:Nat->Int) (b:Nat):∀ k,(ofK L b k).length<=k
 | 0=>Nat.le_refl _
 | k+1=>by
  have:=ofK_length L b k
  unfold ofK
  rw[List.length_append]
  split <;> simp <;> omega
def lvK (L:Nat->Int):Nat->Nat->Nat
 | 0,_=>0
 | i+1,b=>lvK L i b+if i / 8=b/\own L (i:Int)≠-1 then 1 else 0
theorem lvK_of (L:Nat->Int) (b:Nat):∀ i,lvK L i b=(ofK L b (min 8 (i - 8*b))).length
 | 0=>by rw[Nat.zero_sub];rfl
 | i+1=>by
  unfold lvK
  rw[lvK_of L b i]
  by_cases e:i / 8=b
  ·
   have e1:min 8 (i+1 - 8*b)=i - 8*b+1:=by omega
   have e2:min 8 (i - 8*b)=i - 8*b:=by omega
   have e3:8*b+(i - 8*b)=i:=by omega
   rw[e1,e2]
   show _=(ofK L b (i - 8*b) ++ if own L ((8*b+(i - 8*b):Nat):Int) = -1 then [] else [own L ((8*b+(i - 8*b):Nat):Int)]).length
   rw[List.length_append,e3]
   by_cases e4:own L (i:Int) = -1
   ·
    rw[if_neg (by simp[e4]),if_pos e4];rfl
   ·
    rw[if_pos ⟨e,e4⟩,if_neg e4];rfl
  ·
   rw[if_neg (by intro h;exact e h.1),show min 8 (i+1 - 8*b)=min 8 (i - 8*b) by omega]
   rfl
theorem lvK_all (L:Nat->Int) {b:Nat} (hb:b<12):lvK L 96 b=(ofL L b).length:=by
 rw[lvK_of,show min 8 (96 - 8*b)=8 by omega]
 rfl
theorem lvK_le (L:Nat->Int) (i b:Nat):lvK L i b<=8:=by
 rw[lvK_of]
 exact Nat.le_trans (ofK_length L b _) (Nat.min_le_left _ _)
theorem eql_nil (w:World):(binOp .eql 33 .nilIface .nilIface).run Tryz.prog w=.ok (.bool true) w:=by kernel_rfl
theorem neq_nil (w:World):(binOp .neq 33 .nilIface .nilIface).run Tryz.prog w=.ok (.bool false) w:=by kernel_rfl
theorem neq_c_nil (w:World) (n:Int):(binOp .neq 33 (.iface 56 (.int .i64 n)) .nilIface).run Tryz.prog w=.ok (.bool true) w:=by kernel_rfl
def Mp (w:World) (b:Nat) (L:Nat->Int):Prop:=IB w b 173 121 (stF L)
section
variable {w w':World} {b:Nat} {L:Nat->Int}
theorem Mp.chg {S:Nat->Prop} (h:Mp w b L) (hc:Chg S w w') (hb:¬ S b):Mp w' b L:=IB.chg h hc hb
theorem Mp.drew (h:Mp w b L):Mp w.drew b L:=h
theorem Mp.place (h:Mp w b L) {n:Nat} (hn:n<25):w.cell? ⟨b,n,none⟩=some (.int .i64 (L n))/\w.frozen? ⟨b,n,none⟩=false:=by
 have:=IB.cell h n (by omega)
 rwa [stF_lo _ hn] at this
theorem Mp.owner (h:Mp w b L) {q:Nat} (hq:q<96):w.cell? ⟨b,25+q,none⟩=some (.int .i64 (own L q))/\w.frozen? ⟨b,25+q,none⟩=false:=by
 have:=IB.cell h (25+q) (by omega)
 rwa [stF_hi] at this
end
set_option maxHeartbeats 1000000 in
theorem new_any (w:World):Calls Tryz.prog 177 #[] w fun e w'=>e=.returned (.pointer (some ⟨w.heap.size,0,none⟩))/\Mp w' w.heap.size (fun _=>-1)/\Chg (fun _=>False) w w':=by
 go_enter Tryz.func177,Tryz.ntmps177
 go_wp2_with (refine wpList_alloc_row rfl 173 rfl w.heap.size rfl zero48 ?_)
 intro w1 K1 G1 S1
 have HK1:=hyd (show IB w1 w.heap.size 173 121 (fun _=>0) from K1)
 have HG1:=hyd G1
 clear K1 G1 S1
 generalize HB:w.heap.size=b at *
 have HB:=hyd HB
 go_wp2_with fail
 go_loopg [5] 25 (fun kx s5 wr=>∃ i:Nat,s5=.int .i64 i/\i<=25/\25 - i<=kx/\Hid (IB wr b 173 121 (fun j=>if j<i then -1 else 0))/\Hid (Chg (fun _=>False) w wr))
 case atStart=>exact⟨0,rfl,by omega,by omega,HK1,HG1⟩
 case round=>
 obtain⟨i,rfl,hin,hkx,HK,HG⟩:=hrel
 clear HK1 HG1
 by_cases hlt:i<25
 ·
  have hltz:(i:Int)<25:=by omega
  obtain⟨c,f⟩:=HK.out.cell i (by omega)
  go_wp2
  go_roundg (25 - (i+1))
  case measure=>omega
  case rel=>
   refine⟨i+1,by simp,by omega,Nat.le_refl _,?_,?_⟩
   ·
    refine(HK.out.set i (-1)).congr fun j _=>?_
    simp only[upd]
    repeat' split
    all_goals first | rfl | omega
   ·
    exact HG.out.setCell (Or.inr (by rw[HB.out];exact Nat.le_refl _)) _ _
 ·
  have hltz:¬ (i:Int)<25:=by omega
  have h25:i=25:=by omega
  subst h25
  clear hlt hin hkx
  go_wp2_with fail
  go_loopg [14] 96 (fun kx s14 wx=>∃ i:Nat,s14=.int .i64 i/\i<=96/\96 - i<=kx/\Hid (IB wx b 173 121 (fun j=>if j<25+i then -1 else 0))/\Hid (Chg (fun _=>False) w wx))
  case atStart=>exact⟨0,rfl,by omega,by omega,HK,HG⟩
  case round=>
  clear HK HG
  obtain⟨i,rfl,hin,hkx,HK,HG⟩:=hrel
  by_cases hlt:i<96
  ·
   have hltz:(i:Int)<96:=by omega
   obtain⟨c,f⟩:=HK.out.cell (25+i) (by omega)
   go_wp2
   go_roundg (96 - (i+1))
   case measure=>omega
   case rel=>
    refine⟨i+1,by simp,by omega,Nat.le_refl _,?_,?_⟩
    ·
     refine(HK.out.set (25+i) (-1)).congr fun j _=>?_
     simp only[upd]
     repeat' split
     all_goals first | rfl | omega
    ·
     exact HG.out.setCell (Or.inr (by rw[HB.out];exact Nat.le_refl _)) _ _
  ·
   have hltz:¬ (i:Int)<96:=by omega
   have h96:i=96:=by omega
   subst h96
   go_wp2
   go_ret
   exact⟨rfl,HK.out.congr fun j hj=>by rw[stF_none,if_pos (by omega)],HG.out⟩
theorem told_yes (w:World) (n:Int) (hn:n≠-1):Calls Tryz.prog 87 #[.int .i64 n] w fun e w'=>e=.returned (.tuple #[.int .i64 n,.nilIface])/\w'=w:=by
 have hb:(n == -1)=false:=by simp[hn]
 clear hn
 go_enter Tryz.func87,Tryz.ntmps87
 go_wp2
 go_ret2
 exact⟨rfl,rfl⟩
theorem told_no (w:World):Calls Tryz.prog 87 #[.int .i64 (-1)] w fun e w'=>e=.returned (.tuple #[.int .i64 0,.iface 56 (.int .i64 11)])/\w'=w:=by
 go_enter Tryz.func87,Tryz.ntmps87
 go_wp2
 go_ret2
 exact⟨rfl,rfl⟩
theorem at_yes (w:World) (b:Nat) (L:Nat->Int) (h:Mp w b L) (n:Nat) (hn:n<25) (hL:L n≠-1):Calls Tryz.prog 56 #[.pointer (some ⟨b,0,none⟩),.int .i64 n] w fun e w'=>e=.returned (.tuple #[.int .i64 (L n),.nilIface])/\w'=w:=by
 obtain⟨c,-⟩:=h.place hn
 have h1:¬ (n:Int) ≥ 25:=by omega
 have h0:¬ (n:Int)<0:=by omega
 have h2:(n:Int)<25:=by omega
 have ht:=told_yes w (L n) hL
 clear h hn hL
 go_enter Tryz.func56,Tryz.ntmps56
 go_wp2_with (go_at_call 87;refine ht.mono ?_;rintro e w1 ⟨rfl,rfl⟩)
 go_ret2
 exact⟨rfl,rfl⟩
theorem at_none (w:World) (b:Nat) (L:Nat->Int) (h:Mp w b L) (n:Nat) (hn:n<25) (hL:L n = -1):Calls Tryz.prog 56 #[.pointer (some ⟨b,0,none⟩),.int .i64 n] w fun e w'=>e=.returned (.tuple #[.int .i64 0,.iface 56 (.int .i64 11)])/\w'=w:=by
 obtain⟨c,-⟩:=h.place hn
 rw[hL] at c
 have h1:¬ (n:Int) ≥ 25:=by omega
 have h0:¬ (n:Int)<0:=by omega
 have h2:(n:Int)<25:=by omega
 clear h hn hL
 go_enter Tryz.func56,Tryz.ntmps56
 go_wp2_with (go_at_call 87;refine(told_no _).mono ?_;rintro e w1 ⟨rfl,rfl⟩)
 go_ret2
 exact⟨rfl,rfl⟩
theorem at_arg (w:World) (b:Nat) (n:Int) (hn:n<0\/25<=n):Calls Tryz.prog 56 #[.pointer (some ⟨b,0,none⟩),.int .i64 n] w fun e w'=>e=.returned (.tuple #[.int .i64 0,.iface 56 (.int .i64 1)])/\w'=w:=by
 by_cases h0:n<0
 ·
  clear hn
  go_enter Tryz.func56,Tryz.ntmps56
  go_wp2
  go_ret2
  exact⟨rfl,rfl⟩
 ·
  have h1:n ≥ 25:=by omega
  clear hn
  go_enter Tryz.func56,Tryz.ntmps56
  go_wp2
  go_ret2
  exact⟨rfl,rfl⟩
theorem owner_yes (w:World) (b:Nat) (L:Nat->Int) (h:Mp w b L) (n:Nat) (hn:n<96) (hL:own L n≠-1):Calls Tryz.prog 89 #[.pointer (some ⟨b,0,none⟩),.int .i64 n] w fun e w'=>e=.returned (.tuple #[.int .i64 (own L n),.nilIface])/\w'=w:=by
 obtain⟨c,-⟩:=h.owner hn
 have h1:¬ (n:Int) ≥ 96:=by omega
 have h0:¬ (n:Int)<0:=by omega
 have h2:(n:Int)<96:=by omega
 have ht:=told_yes w (own L n) hL
 clear h hn hL
 go_enter Tryz.func89,Tryz.ntmps89
 go_wp2_with (go_at_call 87;refine ht.mono ?_;rintro e w1 ⟨rfl,rfl⟩)
 go_ret2
 exact⟨rfl,rfl⟩
theorem owner_none (w:World) (b:Nat) (L:Nat->Int) (h:Mp w b L) (n:Nat) (hn:n<96) (hL:own L n = -1):Calls Tryz.prog 89 #[.pointer (some ⟨b,0,none⟩),.int .i64 n] w fun e w'=>e=.returned (.tuple #[.int .i64 0,.iface 56 (.int .i64 11)])/\w'=w:=by
 obtain⟨c,-⟩:=h.owner hn
 rw[hL] at c
 have h1:¬ (n:Int) ≥ 96:=by omega
 have h0:¬ (n:Int)<0:=by omega
 have h2:(n:Int)<96:=by omega
 clear h hn hL
 go_enter Tryz.func89,Tryz.ntmps89
 go_wp2_with (go_at_call 87;refine(told_no _).mono ?_;rintro e w1 ⟨rfl,rfl⟩)
 go_ret2
 exact⟨rfl,rfl⟩
theorem owner_arg (w:World) (b:Nat) (n:Int) (hn:n<0\/96<=n):Calls Tryz.prog 89 #[.pointer (some ⟨b,0,none⟩),.int .i64 n] w fun e w'=>e=.returned (.tuple #[.int .i64 0,.iface 56 (.int .i64 1)])/\w'=w:=by
 by_cases h0:n<0
 ·
  clear hn
  go_enter Tryz.func89,Tryz.ntmps89
  go_wp2
  go_ret2
  exact⟨rfl,rfl⟩
 ·
  have h1:n ≥ 96:=by omega
  clear hn
  go_enter Tryz.func89,Tryz.ntmps89
  go_wp2
  go_ret2
  exact⟨rfl,rfl⟩
theorem lift_any (w:World) (b:Nat) (L:Nat->Int) (h:Mp w b L) (ok:Okl L) (n:Nat) (hn:n<25):Calls Tryz.prog 97 #[.pointer (some ⟨b,0,none⟩),.int .i64 n] w fun e w'=>e=.returned (.tuple #[])/\Mp w' b (upd L n (-1))/\Chg (·=b) w w':=by
 obtain⟨c,f⟩:=h.place hn
 have h2:(n:Int)<25:=by omega
 have HK:=hyd h
 have HO:=hyd ok
 rcases ok.rng n hn with e | ⟨e0,e1⟩
 ·
  rw[e] at c
  have HE:=hyd e
  clear h ok e
  go_enter Tryz.func97,Tryz.ntmps97
  go_wp2
  go_end0
  refine⟨rfl,?_,(Chg.refl (·=b) _).setCell (Or.inl rfl) _ _⟩
  unfold Mp
  rw[<-stF_clear0 hn HE.out]
  exact IB.set HK.out n (-1)
 ·
  obtain⟨m,hm⟩:∃ m:Nat,L n=m:=⟨(L n).toNat,by omega⟩
  rw[hm] at c
  have hm96:(m:Int)<96:=by omega
  have hm96':m<96:=by omega
  have hmb:((m:Int) == -1)=false:=by simp only[beq_eq_false_iff_ne];omega
  obtain⟨c2,f2⟩:=h.owner hm96'
  have HE:=hyd hm
  have HK1:=hyd (IB.set h (25+m) (-1))
  obtain⟨c3,f3⟩:=HK1.out.cell n (by omega)
  clear h ok e0 e1 hm
  go_enter Tryz.func97,Tryz.ntmps97
  go_wp2
  go_end0
  refine⟨rfl,?_,((Chg.refl (·=b) _).setCell (Or.inl rfl) _ _).setCell (Or.inl rfl) _ _⟩
  exact(IB.set HK1.out n (-1)).congr fun k _=>stF_clear HO.out hn HE.out k
theorem drop_arg (w:World) (b:Nat) (n:Int) (hn:n<0\/25<=n):Calls Tryz.prog 64 #[.pointer (some ⟨b,0,none⟩),.int .i64 n] w fun e w'=>e=.returned (.iface 56 (.int .i64 1))/\w'=w:=by
 have q:=neq_c_nil
 go_enter Tryz.func64,Tryz.ntmps64
 go_wp2_with (go_at_call 56;refine(at_arg _ b n hn).mono ?_;rintro e w1 ⟨rfl,rfl⟩)
 go_ret
 exact⟨rfl,rfl⟩
theorem drop_none (w:World) (b:Nat) (L:Nat->Int) (h:Mp w b L) (n:Nat) (hn:n<25) (hL:L n = -1):Calls Tryz.prog 64 #[.pointer (some ⟨b,0,none⟩),.int .i64 n] w fun e w'=>e=.returned (.iface 56 (.int .i64 11))/\w'=w:=by
 have q:=neq_c_nil
 have ha:=at_none w b L h n hn hL
 clear h hn hL
 go_enter Tryz.func64,Tryz.ntmps64
 go_wp2_with (go_at_call 56;refine ha.mono ?_;rintro e w1 ⟨rfl,rfl⟩)
 go_ret
 exact⟨rfl,rfl⟩
theorem drop_yes (w:World) (b:Nat) (L:Nat->Int) (h:Mp w b L) (ok:Okl L) (n:Nat) (hn:n<25) (hL:L n≠-1):Calls Tryz.prog 64 #[.pointer (some ⟨b,0,none⟩),.int .i64 n] w fun e w'=>e=.returned .nilIface/\Mp w' b (upd L n (-1))/\Chg (·=b) w w':=by
 have q:=neq_nil
 have ha:=at_yes w b L h n hn hL
 have hl:=lift_any w b L h ok n hn
 clear h hn hL ok
 go_enter Tryz.func64,Tryz.ntmps64
 go_wp2_with (first | (go_at_call 56;refine ha.mono ?_;rintro e w1 ⟨rfl,rfl⟩) | (go_at_call 97;refine hl.mono ?_;rintro e w2 ⟨rfl,K2,G2⟩;have HK:=hyd K2;have HG:=hyd G2;clear K2 G2))
 go_ret
 exact⟨rfl,HK.out,HG.out⟩
abbrev May (n q:Int):Prop:=(0<=q/\q<96)/\(0<=n/\n<25)/\(n=24\/q % 8<6)
theorem set_arg (w:World) (b:Nat) (n q:Int) (hn:¬ May n q):Calls Tryz.prog 123 #[.pointer (some ⟨b,0,none⟩),.int .i64 n,.int .i64 q] w fun e w'=>e=.returned (.iface 56 (.int .i64 1))/\w'=w:=by
 have q1:=neq_c_nil
 have q2:=neq_nil
 by_cases h1:(q<0\/96<=q)\/(n<0\/25<=n)
 ·
  have hh:=holds_out w q n h1
  clear hn h1
  go_enter Tryz.func123,Tryz.ntmps123
  go_wp2_with (go_at_call 155;refine hh.mono ?_;rintro e w1 ⟨rfl,rfl⟩)
  go_ret
  exact⟨rfl,rfl⟩
 ·
  have hh:=holds_in w q n (by omega) (by omega)
  rw[show decide (n=24\/q % 8<6)=false from decide_eq_false (fun h=>hn ⟨by omega,by omega,h⟩)] at hh
  clear hn h1
  go_enter Tryz.func123,Tryz.ntmps123
  go_wp2_with (go_at_call 155;refine hh.mono ?_;rintro e w1 ⟨rfl,rfl⟩)
  go_ret
  exact⟨rfl,rfl⟩
theorem set_state (w:World) (b:Nat) (L:Nat->Int) (h:Mp w b L) (n m:Nat) (hn:May n m) (ho:own L m≠-1/\own L m≠n):Calls Tryz.prog 123 #[.pointer (some ⟨b,0,none⟩),.int .i64 n,.int .i64 m] w fun e w'=>e=.returned (.iface 56 (.int .i64 12))/\w'=w:=by
 have q2:=neq_nil
 obtain⟨c,-⟩:=h.owner (q:=m) (by have:=hn.1;omega)
 have hh:=holds_in w m n hn.1 hn.2.1
 rw[show decide ((n:Int)=24\/(m:Int) % 8<6)=true from decide_eq_true hn.2.2] at hh
 have h96:(m:Int)<96:=hn.1.2
 have hb0:=ho.1
 have hb1:(own L m != -1)=true:=by simp[ho.1]
 have hb2:(own L m != (n:Int))=true:=by simp[ho.2]
 clear h hn ho
 go_enter Tryz.func123,Tryz.ntmps123
 go_wp2_with (go_at_call 155;refine hh.mono ?_;rintro e w1 ⟨rfl,rfl⟩)
 go_ret
 exact⟨rfl,rfl⟩
theorem set_end {w w2:World} {b:Nat} {L:Nat->Int} {n m:Nat} (K:Mp w2 b (upd L n (-1))) (G:Chg (·=b) w w2) (ok:Okl (upd L n (-1))) (hn:n<25) (hm:m<96) (may:n<24->m % 8<6) (ho:own (upd L n (-1)) m = -1) :
 Ending.returned .nilIface=Ending.returned .nilIface/\Mp ((w2.setCell ⟨b,n,none⟩ (.int .i64 m)).setCell ⟨b,25+m,none⟩ (.int .i64 n)).drew b (upd L n m)/\Chg (·=b) w ((w2.setCell ⟨b,n,none⟩ (.int .i64 m)).setCell ⟨b,25+m,none⟩ (.int .i64 n)).drew/\Okl (upd L n m):=by
 refine⟨rfl,?_,((G.setCell (Or.inl rfl) _ _).setCell (Or.inl rfl) _ _).drew,?_⟩
 ·
  have h:=(IB.set (IB.set K n m) (25+m) n).congr fun k _=>stF_put ok hn hm may (upd_same _ _ _) ho k
  rw[upd_upd] at h
  exact h
 ·
  have h:=ok.put n (q:=m) (by omega) (fun h=>by have:=may h;omega) ho
  rw[upd_upd] at h
  exact h
theorem set_yes (w:World) (b:Nat) (L:Nat->Int) (h:Mp w b L) (ok:Okl L) (n m:Nat) (hn:May n m) (ho:own L m = -1\/own L m=n):Calls Tryz.prog 123 #[.pointer (some ⟨b,0,none⟩),.int .i64 n,.int .i64 m] w fun e w'=>e=.returned .nilIface/\Mp w' b (upd L n m)/\Chg (·=b) w w'/\Okl (upd L n m):=by
 have q2:=neq_nil
 obtain⟨c,-⟩:=h.owner (q:=m) (by have:=hn.1;omega)
 have hh:=holds_in w m n hn.1 hn.2.1
 rw[show decide ((n:Int)=24\/(m:Int) % 8<6)=true from decide_eq_true hn.2.2] at hh
 have h96:(m:Int)<96:=hn.1.2
 have h25:(n:Int)<25:=hn.2.1.2
 have h25':n<25:=by omega
 have h96':m<96:=by omega
 have hl:=lift_any w b L h ok n h25'
 have HM:=hyd hn.2.2
 have hoc:own (upd L n (-1)) m = -1:=by
  rw[own_clear ok h25' (by omega)]
  by_cases e:(m:Int)=L n
  ·
   rw[if_pos e]
  ·
   rw[if_neg e]
   rcases ho with ho | ho
   ·
    exact ho
   ·
    rcases own_spec L m with ⟨i,h1,h2,h3,_⟩ | ⟨h1,h2⟩
    ·
     have e1:i=n:=by omega
     subst e1
     exact absurd h3.symm e
    ·
     exact h1
 have HC:=hyd hoc
 have HOK:=hyd (ok.clear n)
 have may':n<24->m % 8<6:=fun h=>by have:=HM.out;omega
 have HMY:=hyd may'
 rcases ho with ho | ho
 ·
  rw[ho] at c
  clear h hn ho ok hoc may' HM
  go_enter Tryz.func123,Tryz.ntmps123
  go_wp2_with (first | (go_at_call 155;refine hh.mono ?_;rintro e w1 ⟨rfl,rfl⟩) | (go_at_call 97;refine hl.mono ?_;rintro e w2 ⟨rfl,K2,G2⟩;have HK:=hyd K2;have HG:=hyd G2;obtain⟨d1,f1⟩:=K2.place h25';obtain⟨d2,f2⟩:=K2.owner h96';clear K2 G2))
  go_region
  go_wp2
  go_ret
  exact set_end HK.out HG.out HOK.out h25' h96' HMY.out HC.out
 ·
  rw[ho] at c
  have hnb:((n:Int) != -1)=true:=by simp only[bne_iff_ne,ne_eq];omega
  have hnn:((n:Int) == (n:Int))=true:=by simp
  clear h hn ho ok hoc may' HM
  go_enter Tryz.func123,Tryz.ntmps123
  go_wp2_with (first | (go_at_call 155;refine hh.mono ?_;rintro e w1 ⟨rfl,rfl⟩) | (go_at_call 97;refine hl.mono ?_;rintro e w2 ⟨rfl,K2,G2⟩;have HK:=hyd K2;have HG:=hyd G2;obtain⟨d1,f1⟩:=K2.place h25';obtain⟨d2,f2⟩:=K2.owner h96';clear K2 G2))
  go_region
  go_wp2
  go_ret
  exact set_end HK.out HG.out HOK.out h25' h96' HMY.out HC.out
def Ow (w:World) (base:Nat) (v:Value) (l:List Int):Prop:=w.ownsRow base 3 1 v l.length (l.map i6)
theorem Ow.nil (w:World) (base:Nat):Ow w base (.slice none 0 0) []:=⟨rfl,Or.inl ⟨rfl,rfl⟩⟩
theorem Ow.form {w:World} {base:Nat} {v:Value} {l:List Int} (h:Ow w base v l):∃ a cap,v=.slice a l.length cap:=by
 rcases h.2 with ⟨h1,h2⟩ | ⟨g,cap,cur,hv,_⟩
 ·
  exact⟨none,0,by rw[h1,h2]⟩
 ·
  exact⟨_,_,hv⟩
theorem Ow.block {w:World} {base:Nat} {v:Value} {l:List Int} (h:Ow w base v l) {k:Nat} (hk:v.ownBlock=some k):base<=k/\k<w.heap.size:=h.lt k hk
theorem Ow.chg {S:Nat->Prop} {w w':World} {base:Nat} {v:Value} {l:List Int} (h:Ow w base v l) (hc:Chg S w w') (hs:∀ k,k<w.heap.size->v.ownBlock=some k->¬ S k):Ow w' base v l:=by
 refine⟨h.1,?_⟩
 rcases h.2 with h1 | ⟨g,cap,cur,rfl,hb,hh,r⟩
 ·
  exact Or.inl h1
 ·
  have hg:=(Array.getElem?_eq_some_iff.1 hh).1
  exact Or.inr ⟨g,cap,cur,rfl,hb,(hc.block g hg (hs g hg rfl)).trans hh,r⟩
theorem Ow.new {w w':World} {base:Nat} {v:Value} {l:List Int} (h:Ow w base v l) (hc:Chg (fun _=>False) w w'):Ow w' base v l:=h.chg hc (fun _ _ _ f=>f)
theorem info3:∃ i,Tryz.prog.info? 3=some i/\i.zero=some (.int .i64 0)/\i.size=1/\i.bytes=8:=by
 have h:(Tryz.prog.info? 3).map (fun i=>(i.zero,i.size,i.bytes))=some (some (.int .i64 0),1,8):=by kernel_rfl
 cases e:Tryz.prog.info? 3 with
 | none=>rw[e] at h;cases h
 | some i=>
  rw[e] at h
  simp only[Option.map_some,Option.some.injEq,Prod.mk.injEq] at h
  exact⟨i,rfl,h.1,h.2.1,h.2.2⟩
theorem wpList_append_i (w:World) {ops:Array Oper} {rest:List Oper} {o:Oper} {a:Act} {Q:Exit->Act->World->Prop} (hgd:o.guard=none) (s x:Operand)
 (ho:o.op=.call { callee:=.builtin .append,args:=#[s,x],argTypes:=#[22,22] })
 (base:Nat) (v:Value) (l:List Int) (hs:a.eval s=v) (g:Nat) (z:Int) (hx:a.eval x=.slice (some ⟨g,0,none⟩) 1 1) (hown:Ow w base v l) (hA:w.cell? ⟨g,0,none⟩=some (.int .i64 z))
 (hl:l.length<100) (hbase:base<=w.heap.size)
 (h:∀ v' w',Ow w' base v' (l ++ [z])->Chg (fun k=>v.ownBlock=some k) w w'->wpList Tryz.prog ops Q rest (a.put o.dst v') w'):wpList Tryz.prog ops Q (o :: rest) a w:=by
 obtain⟨i,hi1,hi2,hi3,hi4⟩:=info3
 refine wpList_append_own_at w hgd s x 22 ho base 3 i (.int .i64 0) 1 8 Tryz.underlying22 hi1 hi2 hi3 hi4 rfl (by decide) v l.length (l.map i6) hs hown ⟨g,0,none⟩ 1 1 [i6 z] hx rfl ?_ (fun u hu=>by simp at hu;rw[hu];rfl) (by unfold maxLen;omega) (by omega) hbase ?_
 ·
  intro j u hj
  match j,hj with
  | 0,hj=>
   simp at hj
   subst hj
   rw[Addr.add_mid]
   exact hA
 ·
  intro v' w' h1 h2 _ _
  refine h v' w' ?_ ⟨h2.os,h2.tape,h2.output,h2.size,fun k hk hs=>h2.block k hk (fun e=>hs e.symm)⟩
  unfold Ow
  rw[List.length_append,List.map_append]
  exact h1
theorem place_0 (w:World) (k:Nat) (hk:k<12) (p:Nat) (hp:p=8*k):Calls Tryz.prog 154 #[.int .i64 k,.int .i64 0] w fun e w'=>e=.returned (.tuple #[.int .i64 p,.nilIface])/\w'=w:=by
 refine(place_in w k 0 (by omega) (by omega)).mono ?_
 rintro e w' ⟨rfl,rfl⟩
 refine⟨?_,rfl⟩
 rw[show (k:Int)*8+0=(p:Int) by omega]
theorem len46:Tryz.prog.arrayLen 171=96:=by kernel_rfl
theorem elem46 (w:World):(sizeOf (Tryz.prog.elem 171)).run Tryz.prog w=.ok 1 w:=by kernel_rfl
theorem slice46 (b p:Nat) (hp:p<=88) (w:World):(Instr.sliceAt 171 (.pointer (some ⟨b,25,none⟩)) (some (.int .i64 p)) (some (.int .i64 (p+8))) none).run Tryz.prog w=.ok (.slice (some ⟨b,25+p,none⟩) 8 (96 - p)) w:=by
 rw[run_sliceAt_array_lh w 171 ⟨b,25,none⟩ Tryz.underlying171 .i64 .i64 p (p+8) (by omega) (by omega) (by rw[len46];omega),elem46,len46]
 simp only[Result.andThen_ok,slicedAt]
 rw[if_neg (by omega),Addr.add_mid]
 congr 2
 ·
  congr 2;omega
 ·
  omega
theorem of_arg (w:World) (b:Nat) (n:Int) (hn:n<0\/12<=n):Calls Tryz.prog 146 #[.pointer (some ⟨b,0,none⟩),.int .i64 n] w fun e w'=>e=.returned (.tuple #[.slice none 0 0,.iface 56 (.int .i64 1)])/\w'=w:=by
 have q:=neq_c_nil
 go_enter Tryz.func146,Tryz.ntmps146
 go_wp2_with (go_at_call 154;refine(place_out _ n 0 (Or.inl hn)).mono ?_;rintro e w1 ⟨rfl,rfl⟩)
 go_ret2
 exact⟨rfl,rfl⟩
set_option maxHeartbeats 2000000 in
theorem of_yes (w:World) (b:Nat) (L:Nat->Int) (h:Mp w b L) (k:Nat) (hk:k<12):Calls Tryz.prog 146 #[.pointer (some ⟨b,0,none⟩),.int .i64 k] w fun e w'=>(∃ a cap,e=.returned (.tuple #[.slice a (ofL L k).length cap,.nilIface])/\Ow w' w.heap.size (.slice a (ofL L k).length cap) (ofL L k))/\Chg (fun _=>False) w w':=by
 have q:=neq_nil
 obtain⟨p,hp⟩:∃ p,p=8*k:=⟨_,rfl⟩
 have hpc:=place_0 w k hk p hp
 have HP:=hyd hp
 have HK:=hyd h
 have hp8:p<=88:=by omega
 have hp8z:(p:Int)<=88:=by omega
 have hsl:=slice46 b p hp8
 clear h hp
 go_enter Tryz.func146,Tryz.ntmps146
 go_wp2_with (go_at_call 154;refine hpc.mono ?_;rintro e w1 ⟨rfl,rfl⟩)
 go_loopg [8,27] 8 (fun kx s8 s27 wr=>∃ i:Nat,s27=.int .i64 i/\i<=8/\8 - i<=kx/\Hid (Ow wr w1.heap.size s8 (ofK L k i))/\Hid (Chg (fun _=>False) w1 wr))
 case atStart=>exact⟨0,rfl,by omega,by omega,Ow.nil _ _,Chg.refl _ _⟩
 case round=>
 obtain⟨i,rfl,hin,hkx,HO,HG⟩:=hrel
 by_cases hlt:i<8
 ·
  have hltz:(i:Int)<8:=by omega
  obtain⟨c,-⟩:=(HK.out.chg HG.out (fun f=>f)).owner (q:=p+i) (by omega)
  have HE:Hid (ofK L k (i+1)=ofK L k i ++ if own L ((8*k+i:Nat):Int) = -1 then [] else [own L ((8*k+i:Nat):Int)]):=rfl
  rw[<-HP.out] at HE
  rw[<-Nat.add_assoc] at c
  generalize own L ((p+i:Nat):Int)=z at *
  by_cases hz:z = -1
  ·
   subst hz
   rw[if_pos rfl,List.append_nil] at HE
   go_wp2
   go_roundg (8 - (i+1))
   case measure=>omega
   case rel=>exact⟨i+1,by simp,by omega,Nat.le_refl _,by show Ow _ _ _ _;rw[HE.out];exact HO.out,HG⟩
  ·
   rw[if_neg hz] at HE
   have hzb:(z == -1)=false:=by simp[hz]
   have hlen:=ofK_length L k i
   have O1:=HO.out.new ((Chg.refl (fun _=>False) wr).alloc (.cells #[.int .i64 z] 3))
   have HO1:=hyd O1
   have HB1:Hid (w1.heap.size<=(wr.alloc (.cells #[.int .i64 z] 3)).heap.size):=by have:=HG.out.size;show _<=_;simp;omega
   have HC1:Hid ((wr.alloc (.cells #[.int .i64 z] 3)).cell? ⟨wr.heap.size,0,none⟩=some (.int .i64 z)):=by show _=_;simp
   have HG1:=hyd (HG.out.alloc (.cells #[.int .i64 z] 3))
   clear O1
   go_wp2_with (first | (refine wpList_append_i _ rfl (.tmp 33) (.tmp 35) rfl w1.heap.size _ (ofK L k i) rfl wr.heap.size z rfl ?_ ?_ (by omega) ?_ ?_;exact HO1.out;exact HC1.out;exact HB1.out))
   intro v' w2 O2 G2
   have HO2:=hyd O2
   have HG2:Hid (Chg (fun _=>False) w1 w2):=HG1.out.trans' G2 fun j hj e=>by have:=HO.out.block e;omega
   clear O2 G2 HO1 HB1 HC1 HG1
   go_wp2
   go_roundg (8 - (i+1))
   case measure=>omega
   case rel=>exact⟨i+1,by simp,by omega,Nat.le_refl _,by show Ow _ _ _ _;rw[HE.out];exact HO2.out,HG2⟩
 ·
  have hltz:¬ (i:Int)<8:=by omega
  have h8:i=8:=by omega
  subst h8
  obtain⟨a,cap,hv⟩:=HO.out.form
  subst hv
  have HO2:Hid (Ow wr w1.heap.size (.slice a (ofL L k).length cap) (ofL L k)):=HO.out
  clear HO hlt hin
  go_wp2
  go_ret2
  exact⟨⟨a,cap,rfl,HO2.out⟩,HG.out⟩
theorem index46 (f:Nat->Int) (i:Nat) (hi:i<96) (w:World):(Instr.index 171 (.agg (ints f 96).toArray) (.int .i64 i)).run Tryz.prog w=.ok (.int .i64 (f i)) w:=by
 have h:=ints_at f 96 i hi
 generalize ints f 96=L at *
 simp[Instr.index,run_underlying Tryz.underlying171,asIntOf,go_sem,hi,h,i6]
theorem parts_n (w:World) (i k j:Nat) (hi:i<96) (hk:k=i / 8) (hj:j=i % 8):Calls Tryz.prog 127 #[.int .i64 i] w fun e w'=>e=.returned (.tuple #[.int .i64 k,.int .i64 j,.nilIface])/\w'=w:=by
 refine(parts_in w i (by omega)).mono ?_
 rintro e w' ⟨rfl,rfl⟩
 refine⟨?_,rfl⟩
 rw[show (i:Int) / 8=(k:Int) by omega,show (i:Int) % 8=(j:Int) by omega]
set_option maxHeartbeats 2000000 in
theorem live_any (w:World) (b:Nat) (L:Nat->Int) (h:Mp w b L):Calls Tryz.prog 107 #[.pointer (some ⟨b,0,none⟩)] w fun e w'=>e=.returned (.slice (some ⟨w.heap.size,0,none⟩) 12 12)/\IB w' w.heap.size 3 12 (fun k=>(lvK L 96 k:Nat))/\Chg (fun _=>False) w w':=by
 have q:=eql_nil
 have hm:=make12
 have HK0:=hyd (IB.new w 3 12 (fun _=>0))
 have HG0:Hid (Chg (fun _=>False) w (w.alloc (.cells (ints (fun _=>0) 12).toArray 3))):=(Chg.refl _ w).alloc _
 have HK:=hyd (h.chg HG0.out (fun f=>f))
 have HR:Hid (World.rangeAt (w.alloc (.cells (ints (fun _=>0) 12).toArray 3)) b 25 (ints (fun q=>own L (q:Int)) 96)):=fun j v hv=>by
  have hj:j<96:=by have:=(List.getElem?_eq_some_iff.1 hv).1;rwa [ints_length] at this
  rw[(HK.out.owner hj).1,<-hv,ints_at _ _ _ hj];rfl
 clear h
 go_enter Tryz.func107,Tryz.ntmps107
 go_wp2_with (first | (refine wpList_load_mid rfl 171 (.tmp 12) rfl b 25 rfl (ints (fun q=>own L (q:Int)) 96) _ ?_ Tryz.underlying171 rfl ?_ ?_;exact HR.out;rw[ints_length];exact size46))
 generalize HW:w.alloc (.cells (ints (fun _=>0) 12).toArray 3)=w0 at *
 generalize HB:w.heap.size=s at *
 have HB:=hyd HB
 clear HW hm
 go_loopg [14] 96 (fun kx s14 wr=>∃ i:Nat,s14=.int .i64 i/\i<=96/\96 - i<=kx/\Hid (IB wr s 3 12 (fun k=>(lvK L i k:Nat)))/\Hid (Chg (fun _=>False) w wr))
 case atStart=>exact⟨0,rfl,by omega,by omega,HK0,HG0⟩
 case round=>
 obtain⟨i,rfl,hin,hkx,HC,HG⟩:=hrel
 clear HK0 HG0 HR HK
 by_cases hlt:i<96
 ·
  have hltz:(i:Int)<96:=by omega
  have hix:∀ w,(Instr.index 171 (.agg (ints (fun q=>own L (q:Int)) 96).toArray) (.int .i64 i)).run Tryz.prog w=.ok (.int .i64 (own L (i:Int))) w:=index46 (fun q=>own L (q:Int)) i hlt
  obtain⟨k,hk⟩:∃ k,k=i / 8:=⟨_,rfl⟩
  obtain⟨j,hj⟩:∃ j,j=i % 8:=⟨_,rfl⟩
  have hpt:=parts_n wr i k j hlt hk hj
  have hk12:k<12:=by omega
  have hkz:(k:Int)<12:=by omega
  obtain⟨c,f⟩:=HC.out.cell k hk12
  have hle:=lvK_le L i k
  have HE:Hid (∀ t,lvK L (i+1) t=lvK L i t+if i / 8=t/\own L (i:Int)≠-1 then 1 else 0):=fun _=>rfl
  have HKk:=hyd hk
  clear hk hj
  generalize own L (i:Int)=z at *
  by_cases hz:z = -1
  ·
   have HZ:=hyd hz
   rw[hz] at hix
   clear hz
   go_wp2_with (go_at_call 127;refine hpt.mono ?_;rintro e w1 ⟨rfl,rfl⟩)
   go_roundg (96 - (i+1))
   case measure=>omega
   case rel=>
    refine⟨i+1,by simp,by omega,Nat.le_refl _,?_,HG⟩
    exact HC.out.congr fun t _=>by rw[HE.out t,if_neg (fun h=>h.2 HZ.out)];rfl
  ·
   have hzb:(z == -1)=false:=by simp[hz]
   have HZ:=hyd hz
   clear hz
   go_wp2_with (go_at_call 127;refine hpt.mono ?_;rintro e w1 ⟨rfl,rfl⟩)
   go_roundg (96 - (i+1))
   case measure=>omega
   case rel=>
    refine⟨i+1,by simp,by omega,Nat.le_refl _,?_,?_⟩
    ·
     refine(HC.out.set k ((lvK L i k:Nat)+1)).congr fun t _=>?_
     rw[HE.out t]
     by_cases e:t=k
     ·
      rw[e,upd_same,if_pos ⟨HKk.out.symm,HZ.out⟩];simp
     ·
      rw[upd_other _ _ e,if_neg (fun h=>e (by rw[HKk.out,h.1]))];rfl
    ·
     exact HG.out.setCell (Or.inr (by rw[HB.out];exact Nat.le_refl _)) _ _
 ·
  have hltz:¬ (i:Int)<96:=by omega
  have h96:i=96:=by omega
  subst h96
  go_wp2
  go_ret
  exact⟨rfl,HC.out,HG.out⟩
def setC (L:Nat->Int) (n q:Int):Nat:=if ¬ May n q then 1 else if own L q≠-1/\own L q≠n then 12 else 0
def setL (L:Nat->Int) (n q:Int):Nat->Int:=if setC L n q=0 then upd L n.toNat q else L
theorem set_v (w:World) (b:Nat) (L:Nat->Int) (h:Mp w b L) (ok:Okl L) (n q:Int):Calls Tryz.prog 123 #[.pointer (some ⟨b,0,none⟩),.int .i64 n,.int .i64 q] w fun e w'=>e=.returned (errV (setC L n q))/\Mp w' b (setL L n q)/\Chg (·=b) w w'/\Okl (setL L n q):=by
 by_cases h1:May n q
 ·
  obtain⟨m,rfl⟩:∃ m:Nat,n=m:=⟨n.toNat,by have:=h1.2.1;omega⟩
  obtain⟨p,rfl⟩:∃ p:Nat,q=p:=⟨q.toNat,by have:=h1.1;omega⟩
  by_cases h2:own L p≠-1/\own L p≠m
  ·
   have e:setC L m p=12:=by unfold setC;rw[if_neg (fun h=>h h1),if_pos h2]
   refine(set_state w b L h m p h1 h2).mono ?_
   rintro x w' ⟨rfl,rfl⟩
   unfold setL
   rw[e]
   exact⟨rfl,h,Chg.refl _ _,ok⟩
  ·
   have e:setC L m p=0:=by unfold setC;rw[if_neg (fun h=>h h1),if_neg h2]
   refine(set_yes w b L h ok m p h1 (by omega)).mono ?_
   rintro x w' ⟨rfl,h3,h4,h5⟩
   unfold setL
   rw[e,Int.toNat_natCast]
   exact⟨rfl,h3,h4,h5⟩
 ·
  have e:setC L n q=1:=by unfold setC;rw[if_pos h1]
  refine(set_arg w b n q h1).mono ?_
  rintro x w' ⟨rfl,rfl⟩
  unfold setL
  rw[e]
  exact⟨rfl,h,Chg.refl _ _,ok⟩
def atC (L:Nat->Int) (n:Int):Nat:=if n<0\/25<=n then 1 else if L n.toNat = -1 then 11 else 0
def atV (L:Nat->Int) (n:Int):Int:=if atC L n=0 then L n.toNat else 0
def dropL (L:Nat->Int) (n:Int):Nat->Int:=if atC L n=0 then upd L n.toNat (-1) else L
theorem at_cases (L:Nat->Int) (n:Int):((n<0\/25<=n)/\atC L n=1)\/∃ m:Nat,n=m/\m<25/\((L m = -1/\atC L n=11)\/(L m≠-1/\atC L n=0)):=by
 unfold atC
 by_cases h:n<0\/25<=n
 ·
  exact Or.inl ⟨h,if_pos h⟩
 ·
  refine Or.inr ⟨n.toNat,by omega,by omega,?_⟩
  rw[if_neg h]
  by_cases e:L n.toNat = -1
  ·
   exact Or.inl ⟨e,if_pos e⟩
  ·
   exact Or.inr ⟨e,if_neg e⟩
theorem at_v (w:World) (b:Nat) (L:Nat->Int) (h:Mp w b L) (n:Int):Calls Tryz.prog 56 #[.pointer (some ⟨b,0,none⟩),.int .i64 n] w fun e w'=>e=.returned (.tuple #[.int .i64 (atV L n),errV (atC L n)])/\w'=w:=by
 unfold atV
 rcases at_cases L n with ⟨h1,e⟩ | ⟨m,rfl,hm,⟨h2,e⟩ | ⟨h2,e⟩⟩ <;> rw[e]
 ·
  exact at_arg w b n h1
 ·
  exact at_none w b L h m hm h2
 ·
  exact at_yes w b L h m hm h2
theorem drop_v (w:World) (b:Nat) (L:Nat->Int) (h:Mp w b L) (ok:Okl L) (n:Int):Calls Tryz.prog 64 #[.pointer (some ⟨b,0,none⟩),.int .i64 n] w fun e w'=>e=.returned (errV (atC L n))/\Mp w' b (dropL L n)/\Chg (·=b) w w'/\Okl (dropL L n):=by
 unfold dropL
 rcases at_cases L n with ⟨h1,e⟩ | ⟨m,rfl,hm,⟨h2,e⟩ | ⟨h2,e⟩⟩ <;> rw[e]
 ·
  refine(drop_arg w b n h1).mono ?_
  rintro x w' ⟨rfl,rfl⟩
  exact⟨rfl,h,Chg.refl _ _,ok⟩
 ·
  refine(drop_none w b L h m hm h2).mono ?_
  rintro x w' ⟨rfl,rfl⟩
  exact⟨rfl,h,Chg.refl _ _,ok⟩
 ·
  refine(drop_yes w b L h ok m hm h2).mono ?_
  rintro x w' ⟨rfl,h3,h4⟩
  exact⟨rfl,h3,h4,ok.clear m⟩
def owC (L:Nat->Int) (q:Int):Nat:=if q<0\/96<=q then 1 else if own L q = -1 then 11 else 0
def owV (L:Nat->Int) (q:Int):Int:=if owC L q=0 then own L q else 0
theorem ow_cases (L:Nat->Int) (q:Int):((q<0\/96<=q)/\owC L q=1)\/∃ m:Nat,q=m/\m<96/\((own L m = -1/\owC L q=11)\/(own L m≠-1/\owC L q=0)):=by
 unfold owC
 by_cases h:q<0\/96<=q
 ·
  exact Or.inl ⟨h,if_pos h⟩
 ·
  obtain⟨m,rfl⟩:∃ m:Nat,q=m:=⟨q.toNat,by omega⟩
  refine Or.inr ⟨m,rfl,by omega,?_⟩
  rw[if_neg h]
  by_cases e:own L m = -1
  ·
   exact Or.inl ⟨e,if_pos e⟩
  ·
   exact Or.inr ⟨e,if_neg e⟩
theorem owner_v (w:World) (b:Nat) (L:Nat->Int) (h:Mp w b L) (q:Int):Calls Tryz.prog 89 #[.pointer (some ⟨b,0,none⟩),.int .i64 q] w fun e w'=>e=.returned (.tuple #[.int .i64 (owV L q),errV (owC L q)])/\w'=w:=by
 unfold owV
 rcases ow_cases L q with ⟨h1,e⟩ | ⟨m,rfl,hm,⟨h2,e⟩ | ⟨h2,e⟩⟩ <;> rw[e]
 ·
  exact owner_arg w b q h1
 ·
  exact owner_none w b L h m hm h2
 ·
  exact owner_yes w b L h m hm h2
def ofC (n:Int):Nat:=if n<0\/12<=n then 1 else 0
def ofV (L:Nat->Int) (n:Int):List Int:=if n<0\/12<=n then [] else ofL L n.toNat
theorem ofV_length (L:Nat->Int) (n:Int):(ofV L n).length<=8:=by
 unfold ofV
 split
 ·
  simp
 ·
  exact ofK_length L _ 8
def OfR (w:World) (l:List Int) (er:Value) (e:Ending) (w':World):Prop:=(∃ a cap,e=.returned (.tuple #[.slice a l.length cap,er])/\Ow w' w.heap.size (.slice a l.length cap) l)/\Chg (fun _=>False) w w'
theorem of_v (w:World) (b:Nat) (L:Nat->Int) (h:Mp w b L) (n:Int):Calls Tryz.prog 146 #[.pointer (some ⟨b,0,none⟩),.int .i64 n] w fun e w'=>OfR w (ofV L n) (errV (ofC n)) e w':=by
 unfold ofV ofC
 by_cases h1:n<0\/12<=n
 ·
  rw[if_pos h1,if_pos h1]
  refine(of_arg w b n h1).mono ?_
  rintro x w' ⟨rfl,rfl⟩
  exact⟨⟨none,0,rfl,Ow.nil _ _⟩,Chg.refl _ _⟩
 ·
  obtain⟨m,rfl⟩:∃ m:Nat,n=m:=⟨n.toNat,by omega⟩
  rw[if_neg h1,if_neg h1,Int.toNat_natCast]
  exact of_yes w b L h m (by omega)
end Go.Proofs.YtbhbilcieodbhaaGreat.Pmap
/-
  Worlds that differ in some blocks alone; blocks that hold ints. No condition: lemmas. What the functions of geom and of its document answer, case by case. No condition: lemmas. The law's own pick and Code. No condition: lemmas. What front's Open, Close, Block, next, Room and Take answer. No condition: lemmas.
-/
namespace Go.Proofs.YtbhbilcieodbhaaGreat.Front
set_option maxRecDepth 100000
open Go.RowKit
theorem below_yes (w:World) (n m:Int) (h:0<=n/\n<m):Calls Tryz.prog 145 #[.int .i64 n,.int .i64 m] w fun e w'=>e=.returned (.bool true)/\w'=w:=by
 obtain⟨h0,h1⟩:=h
 go_enter Tryz.func145,Tryz.ntmps145
 go_wp2
 go_ret
 exact⟨rfl,rfl⟩
theorem below_no (w:World) (n m:Int) (h:n<0\/m<=n):Calls Tryz.prog 145 #[.int .i64 n,.int .i64 m] w fun e w'=>e=.returned (.bool false)/\w'=w:=by
 by_cases h0:0<=n
 ·
  have h1:¬ n<m:=by omega
  clear h
  go_enter Tryz.func145,Tryz.ntmps145
  go_wp2
  go_ret
  exact⟨rfl,rfl⟩
 ·
  clear h
  go_enter Tryz.func145,Tryz.ntmps145
  go_wp2
  go_ret
  exact⟨rfl,rfl⟩
theorem place_in (w:World) (b i:Int) (hb:0<=b/\b<12) (hi:0<=i/\i<8):Calls Tryz.prog 154 #[.int .i64 b,.int .i64 i] w fun e w'=>e=.returned (.tuple #[.int .i64 (b*8+i),.nilIface])/\w'=w:=by
 obtain⟨b0,b1⟩:=hb
 obtain⟨i0,i1⟩:=hi
 go_enter Tryz.func154,Tryz.ntmps154
 go_wp2_with fail
 refine(below_yes w b 12 ⟨b0,b1⟩).mono ?_
 rintro e w1 ⟨rfl,rfl⟩
 go_wp2_with fail
 refine(below_yes w1 i 8 ⟨i0,i1⟩).mono ?_
 rintro e w2 ⟨rfl,rfl⟩
 go_wp2
 go_ret2
 exact⟨rfl,rfl⟩
theorem place_out (w:World) (b i:Int) (h:(b<0\/12<=b)\/(i<0\/8<=i)):Calls Tryz.prog 154 #[.int .i64 b,.int .i64 i] w fun e w'=>e=.returned (.tuple #[.int .i64 0,.iface 56 (.int .i64 1)])/\w'=w:=by
 by_cases hb:0<=b/\b<12
 ·
  have hi:i<0\/8<=i:=by omega
  clear h
  obtain⟨b0,b1⟩:=hb
  go_enter Tryz.func154,Tryz.ntmps154
  go_wp2_with fail
  refine(below_yes w b 12 ⟨b0,b1⟩).mono ?_
  rintro e w1 ⟨rfl,rfl⟩
  go_wp2_with fail
  refine(below_no w1 i 8 hi).mono ?_
  rintro e w2 ⟨rfl,rfl⟩
  go_wp2
  go_ret2
  exact⟨rfl,rfl⟩
 ·
  have hb':b<0\/12<=b:=by omega
  clear h hb
  go_enter Tryz.func154,Tryz.ntmps154
  go_wp2_with fail
  refine(below_no w b 12 hb').mono ?_
  rintro e w1 ⟨rfl,rfl⟩
  go_wp2
  go_ret2
  exact⟨rfl,rfl⟩
theorem holds_in (w:World) (p o:Int) (h:0<=p/\p<96) (ho:0<=o/\o<25):Calls Tryz.prog 155 #[.int .i64 p,.int .i64 o] w fun e w'=>e=.returned (.tuple #[.bool (decide (o=24\/p % 8<6)),.nilIface])/\w'=w:=by
 obtain⟨h0,h1⟩:=h
 by_cases e1:o=24
 ·
  rw[show decide (o=24\/p % 8<6)=true from decide_eq_true (Or.inl e1)]
  have e2:(o == 24)=true:=by simp[e1]
  clear e1
  go_enter Tryz.func155,Tryz.ntmps155
  go_wp2_with fail
  refine(below_yes w p 96 ⟨h0,h1⟩).mono ?_
  rintro e w1 ⟨rfl,rfl⟩
  go_wp2_with fail
  refine(below_yes w1 o 25 ho).mono ?_
  rintro e w2 ⟨rfl,rfl⟩
  go_wp2
  go_ret2
  exact⟨rfl,rfl⟩
 ·
  rw[show decide (o=24\/p % 8<6)=decide (p % 8<6) from by simp[e1]]
  have e2:(o == 24)=false:=by simp[e1]
  clear e1
  go_enter Tryz.func155,Tryz.ntmps155
  go_wp2_with fail
  refine(below_yes w p 96 ⟨h0,h1⟩).mono ?_
  rintro e w1 ⟨rfl,rfl⟩
  go_wp2_with fail
  refine(below_yes w1 o 25 ho).mono ?_
  rintro e w2 ⟨rfl,rfl⟩
  go_wp2
  go_ret2
  exact⟨rfl,rfl⟩
theorem eql_nil (w:World):(binOp .eql 33 .nilIface .nilIface).run Tryz.prog w=.ok (.bool true) w:=by kernel_rfl
theorem neq_nil (w:World):(binOp .neq 33 .nilIface .nilIface).run Tryz.prog w=.ok (.bool false) w:=by kernel_rfl
theorem eql_c_nil (w:World) (n:Int):(binOp .eql 33 (.iface 56 (.int .i64 n)) .nilIface).run Tryz.prog w=.ok (.bool false) w:=by kernel_rfl
theorem neq_c_nil (w:World) (n:Int):(binOp .neq 33 (.iface 56 (.int .i64 n)) .nilIface).run Tryz.prog w=.ok (.bool true) w:=by kernel_rfl
structure St where
 o:Bool
 k:Nat
 i:Nat
def stL (s:St):List Value:=[.bool s.o,.int .i64 s.k,.int .i64 s.i]
def FB (w:World) (b:Nat) (t:TypeId) (n:Nat) (f:Nat->Value) (o:Nat) (s:St):Prop:=Sto w b t n f/\o+3<=n/\f o=.bool s.o/\f (o+1)=.int .i64 s.k/\f (o+2)=.int .i64 s.i
section
variable {w w':World} {b:Nat} {t:TypeId} {n:Nat} {f:Nat->Value} {o:Nat} {s:St}
theorem FB.drewN (h:FB w b t n f o s) (m:Nat):FB (w.drewN m) b t n f o s:=h
theorem FB.c0 (h:FB w b t n f o s):w.cell? ⟨b,o,none⟩=some (.bool s.o)/\w.frozen? ⟨b,o,none⟩=false:=by
 obtain⟨h1,h2,h3,h4,h5⟩:=h
 exact⟨by rw[h1.cell o (by omega),h3],h1.frozen _⟩
theorem FB.c1 (h:FB w b t n f o s):w.cell? ⟨b,o+1,none⟩=some (.int .i64 s.k)/\w.frozen? ⟨b,o+1,none⟩=false:=by
 obtain⟨h1,h2,h3,h4,h5⟩:=h
 exact⟨by rw[h1.cell (o+1) (by omega),h4],h1.frozen _⟩
theorem FB.c2 (h:FB w b t n f o s):w.cell? ⟨b,o+2,none⟩=some (.int .i64 s.i)/\w.frozen? ⟨b,o+2,none⟩=false:=by
 obtain⟨h1,h2,h3,h4,h5⟩:=h
 exact⟨by rw[h1.cell (o+2) (by omega),h5],h1.frozen _⟩
theorem upL_st (f:Nat->Value) (o:Nat) (s:St):upL f o (stL s) o=.bool s.o/\upL f o (stL s) (o+1)=.int .i64 s.k/\upL f o (stL s) (o+2)=.int .i64 s.i:=
 ⟨upL_seg f o (stL s) 0 _ rfl,upL_seg f o (stL s) 1 _ rfl,upL_seg f o (stL s) 2 _ rfl⟩
theorem FB.row (h:FB w b t n f o s) (s':St):FB (w.setCells b o (stL s')) b t n (upL f o (stL s')) o s':=
 ⟨Sto.setCells _ _ h.1,h.2.1,upL_st f o s'⟩
theorem FB.same (h:FB w b t n f o s):FB w b t n (upL f o (stL s)) o s:=by
 obtain⟨h1,h2,h3,h4,h5⟩:=h
 refine⟨h1.ext fun i hi=>?_,h2,upL_st f o s⟩
 obtain⟨u0,u1,u2⟩:=upL_st f o s
 by_cases e0:i=o
 ·
  subst e0;rw[u0,h3]
 ·
  by_cases e1:i=o+1
  ·
   subst e1;rw[u1,h4]
  ·
   by_cases e2:i=o+2
   ·
    subst e2;rw[u2,h5]
   ·
    unfold upL;rw[if_neg (by simp[stL];omega)]
theorem FB.set2 (h:FB w b t n f o s) (i:Nat):FB (w.setCell ⟨b,o+2,none⟩ (.int .i64 i)) b t n (upL f o (stL { s with i:=i })) o { s with i:=i }:=by
 obtain⟨h1,h2,h3,h4,h5⟩:=h
 refine⟨(h1.setCell (o+2) (.int .i64 i)).ext fun j hj=>?_,h2,upL_st f o _⟩
 obtain⟨u0,u1,u2⟩:=upL_st f o { s with i:=i }
 rw[upL_one]
 by_cases e2:j=o+2
 ·
  subst e2;rw[u2,if_pos rfl]
 ·
  rw[if_neg e2]
  by_cases e0:j=o
  ·
   subst e0;rw[u0,h3]
  ·
   by_cases e1:j=o+1
   ·
    subst e1;rw[u1,h4]
   ·
    unfold upL;rw[if_neg (by simp[stL];omega)]
end
theorem build26 (w:World):(Instr.build 118 #[]).run Tryz.prog w=.ok (.agg (stL ⟨false,0,0⟩).toArray) w:=by kernel_rfl
theorem size26:(Tryz.prog.info? 118).map (·.size)=some 3:=by kernel_rfl
theorem wpList_store_front {ops:Array Oper} {rest:List Oper} {o:Oper} {a:Act} {w:World} {Q:Exit->Act->World->Prop} (hgd:o.guard=none) (x y:Operand) (ho:o.op=.store 118 x y)
 (g q:Nat) (hx:a.eval x=.pointer (some ⟨g,q,none⟩)) (s:St) (hy:a.eval y=.agg (stL s).toArray) {t:TypeId} {n:Nat} {f:Nat->Value} {s0:St} (hg:FB w g t n f q s0)
 (h:∀ w',FB w' g t n (upL f q (stL s)) q s->Chg (·=g) w w'->wpList Tryz.prog ops Q rest (a.put o.dst undef) w'):wpList Tryz.prog ops Q (o :: rest) a w:=
 wpList_store_mid hgd 118 x y ho g q _ hx hy (hg.1.there q 3 hg.2.1) size26 (by simp[stL,Value.oneCell']) (h _ (FB.row hg s) (Chg.setCells (S:=(·=g)) (Or.inl rfl) _ _ (Chg.refl _ w)))
def opC (x y:Int):Nat:=if x<0\/12<=x\/y<0\/9<=y then 1 else 0
def opS (s:St) (x y:Int):St:=if opC x y=0 then ⟨true,x.toNat,y.toNat⟩ else s
theorem open_yes (w:World) (b:Nat) (t:TypeId) (nn:Nat) (f:Nat->Value) (o:Nat) (s:St) (h:FB w b t nn f o s) (k i:Nat) (hk:k<12) (hi:i<9):Calls Tryz.prog 153 #[.pointer (some ⟨b,o,none⟩),.int .i64 k,.int .i64 i] w fun e w'=>e=.returned .nilIface/\FB w' b t nn (upL f o (stL ⟨true,k,i⟩)) o ⟨true,k,i⟩/\Chg (·=b) w w':=by
 have h1:¬ (k:Int)<0:=by omega
 have h2:¬ (k:Int) ≥ 12:=by omega
 have h3:¬ (i:Int)<0:=by omega
 have h4:¬ (i:Int) > 8:=by omega
 have HK:=hyd h
 clear h hk hi
 go_enter Tryz.func153,Tryz.ntmps153
 go_wp2_with (refine wpList_store_front rfl (.tmp 26) (.tmp 25) rfl b o rfl ⟨true,k,i⟩ rfl HK.out ?_)
 intro w1 K1 G1
 have HK1:=hyd K1
 have HG1:=hyd G1
 clear K1 G1
 go_wp2
 go_ret
 exact⟨rfl,HK1.out,HG1.out⟩
theorem open_arg (w:World) (b o:Nat) (x y:Int) (h:x<0\/12<=x\/y<0\/9<=y):Calls Tryz.prog 153 #[.pointer (some ⟨b,o,none⟩),.int .i64 x,.int .i64 y] w fun e w'=>e=.returned (.iface 56 (.int .i64 1))/\w'=w:=by
 by_cases h1:x<0
 ·
  clear h
  go_enter Tryz.func153,Tryz.ntmps153
  go_wp2
  go_ret
  exact⟨rfl,rfl⟩
 ·
  by_cases h2:x ≥ 12
  ·
   clear h
   go_enter Tryz.func153,Tryz.ntmps153
   go_wp2
   go_ret
   exact⟨rfl,rfl⟩
  ·
   by_cases h3:y<0
   ·
    clear h
    go_enter Tryz.func153,Tryz.ntmps153
    go_wp2
    go_ret
    exact⟨rfl,rfl⟩
   ·
    have h4:y > 8:=by omega
    clear h
    go_enter Tryz.func153,Tryz.ntmps153
    go_wp2
    go_ret
    exact⟨rfl,rfl⟩
theorem open_v (w:World) (b:Nat) (t:TypeId) (nn:Nat) (f:Nat->Value) (o:Nat) (s:St) (h:FB w b t nn f o s) (x y:Int):Calls Tryz.prog 153 #[.pointer (some ⟨b,o,none⟩),.int .i64 x,.int .i64 y] w fun e w'=>e=.returned (errV (opC x y))/\FB w' b t nn (upL f o (stL (opS s x y))) o (opS s x y)/\Chg (·=b) w w':=by
 unfold opS opC
 by_cases c:x<0\/12<=x\/y<0\/9<=y
 ·
  rw[if_pos c]
  refine(open_arg w b o x y c).mono ?_
  rintro e w' ⟨rfl,rfl⟩
  exact⟨rfl,h.same,Chg.refl _ _⟩
 ·
  rw[if_neg c]
  obtain⟨k,rfl⟩:∃ k:Nat,x=k:=⟨x.toNat,by omega⟩
  obtain⟨i,rfl⟩:∃ i:Nat,y=i:=⟨y.toNat,by omega⟩
  refine(open_yes w b t nn f o s h k i (by omega) (by omega)).mono ?_
  rintro e w' ⟨rfl,h1,h2⟩
  exact⟨rfl,h1,h2⟩
theorem close_any (w:World) (b:Nat) (t:TypeId) (nn:Nat) (f:Nat->Value) (o:Nat) (s:St) (h:FB w b t nn f o s):Calls Tryz.prog 149 #[.pointer (some ⟨b,o,none⟩)] w fun e w'=>e=.returned (.tuple #[])/\FB w' b t nn (upL f o (stL ⟨false,0,0⟩)) o ⟨false,0,0⟩/\Chg (·=b) w w':=by
 have HK:=hyd h
 have hb:=build26
 clear h
 go_enter Tryz.func149,Tryz.ntmps149
 go_wp2_with (refine wpList_store_front rfl (.tmp 4) (.tmp 3) rfl b o rfl ⟨false,0,0⟩ rfl HK.out ?_)
 intro w1 K1 G1
 have HK1:=hyd K1
 have HG1:=hyd G1
 clear K1 G1
 go_wp2
 go_end0
 exact⟨rfl,HK1.out,HG1.out⟩
def blV (s:St):Int:=if s.o then (s.k:Int) else -1
theorem block_any (w:World) (b:Nat) (t:TypeId) (nn:Nat) (f:Nat->Value) (o:Nat) (s:St) (h:FB w b t nn f o s):Calls Tryz.prog 85 #[.pointer (some ⟨b,o,none⟩)] w fun e w'=>e=.returned (.int .i64 (blV s))/\w'=w:=by
 obtain⟨c0,-⟩:=h.c0
 obtain⟨c1,-⟩:=h.c1
 obtain⟨oo,k,i⟩:=s
 clear h
 cases oo
 ·
  go_enter Tryz.func85,Tryz.ntmps85
  go_wp2
  go_ret
  exact⟨rfl,rfl⟩
 ·
  go_enter Tryz.func85,Tryz.ntmps85
  go_wp2
  go_ret
  exact⟨rfl,rfl⟩
def nxC (s:St) (n:Int):Nat:=if n<0\/25<=n then 1 else if s.o=false then 11 else if s.i<8/\(n=24\/s.i<6) then 0 else 10
def nxV (s:St) (n:Int):Int:=if nxC s n=0 then ((s.k*8+s.i:Nat):Int) else 0
def Okf (s:St):Prop:=s.k<12/\s.i<9
theorem next_arg (w:World) (b o:Nat) (n:Int) (h:n<0\/25<=n):Calls Tryz.prog 118 #[.pointer (some ⟨b,o,none⟩),.int .i64 n] w fun e w'=>e=.returned (.tuple #[.int .i64 0,.iface 56 (.int .i64 1)])/\w'=w:=by
 by_cases h0:n<0
 ·
  clear h
  go_enter Tryz.func118,Tryz.ntmps118
  go_wp2
  go_ret2
  exact⟨rfl,rfl⟩
 ·
  have h1:n > 24:=by omega
  clear h
  go_enter Tryz.func118,Tryz.ntmps118
  go_wp2
  go_ret2
  exact⟨rfl,rfl⟩
theorem next_none (w:World) (b:Nat) (t:TypeId) (nn:Nat) (f:Nat->Value) (o:Nat) (k i:Nat) (h:FB w b t nn f o ⟨false,k,i⟩) (n:Int) (hn:0<=n/\n<25):Calls Tryz.prog 118 #[.pointer (some ⟨b,o,none⟩),.int .i64 n] w fun e w'=>e=.returned (.tuple #[.int .i64 0,.iface 56 (.int .i64 11)])/\w'=w:=by
 obtain⟨c0,-⟩:=h.c0
 have h0:¬ n<0:=by omega
 have h1:¬ n > 24:=by omega
 clear h hn
 go_enter Tryz.func118,Tryz.ntmps118
 go_wp2
 go_ret2
 exact⟨rfl,rfl⟩
theorem next_end (w:World) (b:Nat) (t:TypeId) (nn:Nat) (f:Nat->Value) (o:Nat) (k:Nat) (h:FB w b t nn f o ⟨true,k,8⟩) (n:Int) (hn:0<=n/\n<25):Calls Tryz.prog 118 #[.pointer (some ⟨b,o,none⟩),.int .i64 n] w fun e w'=>e=.returned (.tuple #[.int .i64 0,.iface 56 (.int .i64 10)])/\∃ m,w'=w.drewN m:=by
 obtain⟨c0,-⟩:=h.c0
 obtain⟨c1,-⟩:=h.c1
 obtain⟨c2,-⟩:=h.c2
 have h0:¬ n<0:=by omega
 have h1:¬ n > 24:=by omega
 have q:=neq_c_nil
 clear h hn
 go_enter Tryz.func118,Tryz.ntmps118
 go_wp2_with fail
 go_quiet (first | (go_at_call 154;refine Calls.quiet_of_same (place_out _ k 8 (Or.inr (Or.inr (by decide))))))
 go_wp2
 go_ret2
 exact⟨rfl,_,rfl⟩
theorem next_page (w:World) (b:Nat) (t:TypeId) (nn:Nat) (f:Nat->Value) (o:Nat) (k i:Nat) (h:FB w b t nn f o ⟨true,k,i⟩) (hk:k<12) (hi:i<8) (n:Int) (hn:0<=n/\n<25):Calls Tryz.prog 118 #[.pointer (some ⟨b,o,none⟩),.int .i64 n] w fun e w'=>e=.returned (if n=24\/i<6 then .tuple #[.int .i64 (k*8+i:Nat),.nilIface] else .tuple #[.int .i64 0,.iface 56 (.int .i64 10)])/\∃ m,w'=w.drewN m:=by
 obtain⟨c0,-⟩:=h.c0
 obtain⟨c1,-⟩:=h.c1
 obtain⟨c2,-⟩:=h.c2
 have h0:¬ n<0:=by omega
 have h1:¬ n > 24:=by omega
 have q:=neq_nil
 have hp:=fun w=>place_in w k i ⟨by omega,by omega⟩ ⟨by omega,by omega⟩
 have hh:=fun w=>holds_in w ((k:Int)*8+i) n ⟨by omega,by omega⟩ hn
 have hd:decide (n=24\/((k:Int)*8+i) % 8<6)=decide (n=24\/i<6):=by
  have:((k:Int)*8+i) % 8=i:=by omega
  rw[this]
  simp only[decide_eq_decide]
  omega
 rw[hd] at hh
 have HV:Hid ((k:Int)*8+i=((k*8+i:Nat):Int)):=by show _=_;omega
 clear h hn hk hi hd
 by_cases hb:n=24\/i<6
 ·
  rw[if_pos hb,<-HV.out]
  simp only[hb,decide_true] at hh
  clear hb HV
  go_enter Tryz.func118,Tryz.ntmps118
  go_wp2_with fail
  go_quiet (first | (go_at_call 154;refine Calls.quiet_of_same (hp _)))
  go_wp2_with fail
  refine(hh _).mono ?_
  rintro e w2 ⟨rfl,rfl⟩
  go_wp2
  go_ret2
  exact⟨rfl,_,rfl⟩
 ·
  rw[if_neg hb]
  simp only[hb,decide_false] at hh
  clear hb HV
  go_enter Tryz.func118,Tryz.ntmps118
  go_wp2_with fail
  go_quiet (first | (go_at_call 154;refine Calls.quiet_of_same (hp _)))
  go_wp2_with fail
  refine(hh _).mono ?_
  rintro e w2 ⟨rfl,rfl⟩
  go_wp2
  go_ret2
  exact⟨rfl,_,rfl⟩
theorem nx_1 {s:St} {n:Int} (h:n<0\/25<=n):nxC s n=1:=by unfold nxC;rw[if_pos h]
theorem nx_11 {s:St} {n:Int} (h:¬ (n<0\/25<=n)) (ho:s.o=false):nxC s n=11:=by unfold nxC;rw[if_neg h,if_pos ho]
theorem nx_0 {s:St} {n:Int} (h:¬ (n<0\/25<=n)) (ho:¬ s.o=false) (hi:s.i<8/\(n=24\/s.i<6)):nxC s n=0:=by unfold nxC;rw[if_neg h,if_neg ho,if_pos hi]
theorem nx_10 {s:St} {n:Int} (h:¬ (n<0\/25<=n)) (ho:¬ s.o=false) (hi:¬ (s.i<8/\(n=24\/s.i<6))):nxC s n=10:=by unfold nxC;rw[if_neg h,if_neg ho,if_neg hi]
theorem next_v (w:World) (b:Nat) (t:TypeId) (nn:Nat) (f:Nat->Value) (o:Nat) (s:St) (h:FB w b t nn f o s) (ok:Okf s) (n:Int):Calls Tryz.prog 118 #[.pointer (some ⟨b,o,none⟩),.int .i64 n] w fun e w'=>e=.returned (.tuple #[.int .i64 (nxV s n),errV (nxC s n)])/\∃ m,w'=w.drewN m:=by
 unfold nxV
 by_cases h1:n<0\/25<=n
 ·
  rw[nx_1 h1]
  refine(next_arg w b o n h1).mono ?_
  rintro e w' ⟨rfl,rfl⟩
  exact⟨rfl,0,rfl⟩
 ·
  have hn:0<=n/\n<25:=by omega
  by_cases ho:s.o=false
  ·
   rw[nx_11 h1 ho]
   obtain⟨oo,k,i⟩:=s
   simp only at ho
   subst ho
   refine(next_none w b t nn f o k i h n hn).mono ?_
   rintro e w' ⟨rfl,rfl⟩
   exact⟨rfl,0,rfl⟩
  ·
   by_cases h8:s.i<8
   ·
    by_cases hb:n=24\/s.i<6
    ·
     rw[nx_0 h1 ho ⟨h8,hb⟩]
     obtain⟨oo,k,i⟩:=s
     simp only[Bool.not_eq_false] at ho
     subst ho
     have:=next_page w b t nn f o k i h ok.1 h8 n hn
     rw[if_pos hb] at this
     exact this
    ·
     rw[nx_10 h1 ho (fun x=>hb x.2)]
     obtain⟨oo,k,i⟩:=s
     simp only[Bool.not_eq_false] at ho
     subst ho
     have:=next_page w b t nn f o k i h ok.1 h8 n hn
     rw[if_neg hb] at this
     exact this
   ·
    rw[nx_10 h1 ho (fun x=>h8 x.1)]
    obtain⟨oo,k,i⟩:=s
    simp only[Bool.not_eq_false] at ho
    subst ho
    obtain rfl:i=8:=by have:=ok.2;simp only at this h8;omega
    exact next_end w b t nn f o k h n hn
def rmV (s:St) (n:Int):Bool:=decide (nxC s n=0)
theorem eql_errV (c:Nat) (w:World):(binOp .eql 33 (errV c) .nilIface).run Tryz.prog w=.ok (.bool (decide (c=0))) w:=by
 unfold errV
 by_cases h:c=0
 ·
  rw[if_pos h,decide_eq_true h];exact eql_nil w
 ·
  rw[if_neg h,decide_eq_false h];exact eql_c_nil w _
theorem neq_errV (c:Nat) (w:World):(binOp .neq 33 (errV c) .nilIface).run Tryz.prog w=.ok (.bool (!decide (c=0))) w:=by
 unfold errV
 by_cases h:c=0
 ·
  rw[if_pos h,decide_eq_true h];exact neq_nil w
 ·
  rw[if_neg h,decide_eq_false h];exact neq_c_nil w _
theorem room_v (w:World) (b:Nat) (t:TypeId) (nn:Nat) (f:Nat->Value) (o:Nat) (s:St) (h:FB w b t nn f o s) (ok:Okf s) (n:Int):Calls Tryz.prog 113 #[.pointer (some ⟨b,o,none⟩),.int .i64 n] w fun e w'=>e=.returned (.bool (rmV s n))/\∃ m,w'=w.drewN m:=by
 have hn:=next_v w b t nn f o s h ok n
 have q:=eql_errV
 have g:=guard_eql
 clear h ok
 go_enter Tryz.func113,Tryz.ntmps113
 go_wp2_with fail
 refine hn.mono ?_
 rintro e w1 ⟨rfl,m,rfl⟩
 clear hn
 go_wp2
 go_ret
 exact⟨rfl,m,rfl⟩
def tkS (s:St) (n:Int):St:=if nxC s n=0 then { s with i:=s.i+1 } else s
theorem take_v (w:World) (b:Nat) (t:TypeId) (nn:Nat) (f:Nat->Value) (o:Nat) (s:St) (h:FB w b t nn f o s) (ok:Okf s) (n:Int):Calls Tryz.prog 81 #[.pointer (some ⟨b,o,none⟩),.int .i64 n] w fun e w'=>e=.returned (.tuple #[.int .i64 (nxV s n),errV (nxC s n)])/\FB w' b t nn (upL f o (stL (tkS s n))) o (tkS s n)/\Chg (·=b) w w':=by
 have hn:=next_v w b t nn f o s h ok n
 obtain⟨c2,f2⟩:=h.c2
 have HK:=hyd h
 have hi:s.i<9:=ok.2
 have hiz:(s.i:Int)<=8:=by omega
 clear h ok hi
 by_cases hc:nxC s n=0
 ·
  have HC:=hyd hc
  unfold tkS
  rw[if_pos hc]
  rw[hc] at hn ⊢
  have g:=guard_neq
  have q:∀ w,(binOp .neq 33 (errV 0) .nilIface).run Tryz.prog w=.ok (.bool false) w:=neq_errV 0
  clear hc
  obtain⟨oo,k,i⟩:=s
  simp only at c2 hiz
  go_enter Tryz.func81,Tryz.ntmps81
  go_wp2_with fail
  refine hn.mono ?_
  rintro e w1 ⟨rfl,m,rfl⟩
  clear hn
  go_wp2
  go_ret2
  exact⟨rfl,(HK.out.drewN m).set2 (i+1),((Chg.refl (·=b) _).drewN m).setCell (Or.inl rfl) _ _⟩
 ·
  unfold tkS
  rw[if_neg hc]
  have hv:nxV s n=0:=by unfold nxV;rw[if_neg hc]
  rw[hv] at hn ⊢
  have g:=guard_neq
  have q:∀ w,(binOp .neq 33 (errV (nxC s n)) .nilIface).run Tryz.prog w=.ok (.bool true) w:=fun w=>by rw[neq_errV,decide_eq_false hc];rfl
  clear hc hv
  go_enter Tryz.func81,Tryz.ntmps81
  go_wp2_with fail
  refine hn.mono ?_
  rintro e w1 ⟨rfl,m,rfl⟩
  clear hn
  go_wp2
  go_ret2
  exact⟨rfl,(HK.out.drewN m).same,(Chg.refl (·=b) _).drewN m⟩
theorem nx_lt {s:St} {n:Int} (h:nxC s n=0):s.i<8:=by
 unfold nxC at h
 split at h
 ·
  simp at h
 ·
  split at h
  ·
   simp at h
  ·
   split at h
   ·
    rename_i c;exact c.1
   ·
    simp at h
theorem Okf.take {s:St} (h:Okf s) (n:Int):Okf (tkS s n):=by
 unfold tkS
 split
 ·
  rename_i c
  have:=nx_lt c
  exact⟨h.1,by show s.i+1<9;omega⟩
 ·
  exact h
end Go.Proofs.YtbhbilcieodbhaaGreat.Front
/-
  Worlds that differ in some blocks alone; blocks that hold ints. No condition: lemmas. Which block is chosen, as a function of two lists of numbers; that there is but one such block. No condition: lemmas. What gc's Choose and Gain answer. Condition: the lists lie in memory.
-/
namespace Go.Proofs.YtbhbilcieodbhaaGreat.Gc
set_option maxRecDepth 100000
open Go.RowKit
def bst (S L:Nat->Int):Nat->Option Nat
 | 0=>none
 | k+1=>match bst S L k with
  | none=>if S k=2 then some k else none
  | some b=>if S k=2/\L k<L b then some k else some b
section
variable {S L:Nat->Int} {k b:Nat}
theorem bst_skip (h:S k≠2):bst S L (k+1)=bst S L k:=by
 cases e:bst S L k with
 | none=>simp[bst,e,h]
 | some b=>simp[bst,e,h]
theorem bst_first (h:S k=2) (e:bst S L k=none):bst S L (k+1)=some k:=by
 unfold bst
 rw[e]
 simp[h]
theorem bst_less (h:S k=2) (e:bst S L k=some b) (hl:L k<L b):bst S L (k+1)=some k:=by
 unfold bst
 rw[e]
 simp[h,hl]
theorem bst_more (e:bst S L k=some b) (hl:¬ L k<L b):bst S L (k+1)=some b:=by
 unfold bst
 rw[e]
 simp[hl]
end
def Is (S L:Nat->Int) (lo hi:Nat):Option Nat->Prop
 | none=>∀ i,lo<=i->i<hi->S i≠2
 | some b=>lo<=b/\b<hi/\S b=2/\(∀ i,lo<=i->i<hi->S i=2->L b<=L i)/\∀ i,lo<=i->i<b->S i=2->L b<L i
theorem bst_is (S L:Nat->Int):∀ n,Is S L 0 n (bst S L n)
 | 0=>fun i _ h=>absurd h (Nat.not_lt_zero _)
 | n+1=>by
  have ih:=bst_is S L n
  by_cases h:S n=2
  ·
   cases e:bst S L n with
   | none=>
    rw[bst_first h e]
    rw[e] at ih
    refine⟨Nat.zero_le _,by omega,h,fun i _ hi hs=>?_,fun i _ hi hs=>absurd hs (ih i (Nat.zero_le _) hi)⟩
    by_cases hn:i=n
    ·
     subst hn;omega
    ·
     exact absurd hs (ih i (Nat.zero_le _) (by omega))
   | some b=>
    rw[e] at ih
    obtain⟨_,hb,hs,h1,h2⟩:=ih
    by_cases hl:L n<L b
    ·
     rw[bst_less h e hl]
     refine⟨Nat.zero_le _,by omega,h,fun i _ hi hs'=>?_,fun i _ hi hs'=>?_⟩
     ·
      by_cases hn:i=n
      ·
       subst hn;omega
      ·
       have:=h1 i (Nat.zero_le _) (by omega) hs';omega
     ·
      have:=h1 i (Nat.zero_le _) hi hs';omega
    ·
     rw[bst_more e hl]
     refine⟨Nat.zero_le _,by omega,hs,fun i _ hi hs'=>?_,fun i _ hi hs'=>h2 i (Nat.zero_le _) hi hs'⟩
     by_cases hn:i=n
     ·
      subst hn;omega
     ·
      exact h1 i (Nat.zero_le _) (by omega) hs'
  ·
   rw[bst_skip h]
   cases e:bst S L n with
   | none=>
    rw[e] at ih
    intro i _ hi
    by_cases hn:i=n
    ·
     subst hn;exact h
    ·
     exact ih i (Nat.zero_le _) (by omega)
   | some b=>
    rw[e] at ih
    obtain⟨_,hb,hs,h1,h2⟩:=ih
    refine⟨Nat.zero_le _,by omega,hs,fun i _ hi hs'=>?_,fun i _ hi hs'=>h2 i (Nat.zero_le _) hi hs'⟩
    by_cases hn:i=n
    ·
     subst hn;exact absurd hs' h
    ·
     exact h1 i (Nat.zero_le _) (by omega) hs'
def chO (S L:Nat->Int):Option Nat:=bst S L 12
def chC (ns nl:Nat) (S L:Nat->Int):Nat:=if ns=12/\nl=12 then (if chO S L=none then 11 else 0) else 1
def chV (ns nl:Nat) (S L:Nat->Int):Nat:=if ns=12/\nl=12 then (chO S L).getD 0 else 0
theorem chC_arg {ns nl:Nat} (S L:Nat->Int) (h:¬ (ns=12/\nl=12)):chC ns nl S L=1:=if_neg h
theorem chC_none {S L:Nat->Int} (h:chO S L=none):chC 12 12 S L=11:=by simp[chC,h]
theorem chV_none {S L:Nat->Int} (h:chO S L=none):chV 12 12 S L=0:=by simp[chV,h]
theorem chC_some {S L:Nat->Int} {b:Nat} (h:chO S L=some b):chC 12 12 S L=0:=by simp[chC,h]
theorem chV_some {S L:Nat->Int} {b:Nat} (h:chO S L=some b):chV 12 12 S L=b:=by simp[chV,h]
theorem ch_some {ns nl:Nat} {S L:Nat->Int} (h:chC ns nl S L=0):ns=12/\nl=12/\chV ns nl S L<12/\chO S L=some (chV ns nl S L):=by
 by_cases hc:ns=12/\nl=12
 ·
  obtain⟨rfl,rfl⟩:=hc
  cases e:chO S L with
  | none=>rw[chC_none e] at h;simp at h
  | some b=>
   have:=bst_is S L 12
   rw[show bst S L 12=some b from e] at this
   rw[chV_some e]
   exact⟨rfl,rfl,this.2.1,rfl⟩
 ·
  rw[chC_arg S L hc] at h;simp at h
def Lies (w:World) (a:Option Addr) (n:Nat) (V:Nat->Int):Prop:=n=0\/∃ g o,a=some ⟨g,o,none⟩/\g<w.heap.size/\∀ i,i<n->w.cell? ⟨g,o+i,none⟩=some (.int .i64 (V i))
theorem choose_arg (w:World) (ps pl:Option Addr) (ns nl cs cl:Nat) (h:¬ (ns=12/\nl=12)):Calls Tryz.prog 117 #[.slice ps ns cs,.slice pl nl cl] w fun e w'=>e=.returned (.tuple #[.int .i64 0,errV 1])/\w'=w:=by
 by_cases h1:ns=12
 ·
  have h2:((nl:Int) != 12)=true:=by simp only[bne_iff_ne];omega
  subst h1
  clear h
  go_enter Tryz.func117,Tryz.ntmps117
  go_wp2
  go_ret2
  exact⟨rfl,rfl⟩
 ·
  have h2:((ns:Int) != 12)=true:=by simp only[bne_iff_ne];omega
  clear h h1
  go_enter Tryz.func117,Tryz.ntmps117
  go_wp2
  go_ret2
  exact⟨rfl,rfl⟩
set_option maxHeartbeats 4000000 in
theorem choose_12 (w:World) (ps pl:Option Addr) (cs cl:Nat) (S L:Nat->Int) (hS:Lies w ps 12 S) (hL:Lies w pl 12 L):Calls Tryz.prog 117 #[.slice ps 12 cs,.slice pl 12 cl] w fun e w'=>e=.returned (.tuple #[.int .i64 (chV 12 12 S L:Nat),errV (chC 12 12 S L)])/\∃ m,w'=w.drewN m:=by
 rcases hS with hS | ⟨gs,os,rfl,hgs,hS⟩
 ·
  simp at hS
 rcases hL with hL | ⟨gl,ol,rfl,hgl,hL⟩
 ·
  simp at hL
 have HS:=hyd hS
 have HL:=hyd hL
 have HG:=hyd (And.intro hgs hgl)
 clear hS hL hgs hgl
 go_enter Tryz.func117,Tryz.ntmps117
 go_wp2_with fail
 go_loopg [6,7,21] 12 (fun kx s6 s7 s21 wr=>∃ (i m:Nat),s21=.int .i64 i/\s6=.int .i64 ((bst S L i).getD 0:Nat)/\s7=.bool (bst S L i).isSome/\i<=12/\12 - i<=kx/\Hid (wr=w.drewN m))
 case atStart=>exact⟨0,0,rfl,rfl,rfl,by omega,by omega,rfl⟩
 case round=>
 obtain⟨i,m,rfl,rfl,rfl,hin,hkx,HM⟩:=hrel
 obtain rfl:=HM.out
 clear HM
 by_cases hlt:i<12
 ·
  have hltz:(i:Int)<12:=by omega
  have x0:=(((Chg.refl (fun _=>False) w).drewN m).cell HG.out.1 (fun f=>f) _).trans (HS.out i hlt)
  by_cases h2:S i=2
  ·
   rw[h2] at x0
   cases e:bst S L i with
   | none=>
    have HE:=hyd (bst_first h2 e)
    simp only[Option.getD_none,Option.isSome_none]
    clear h2 e
    go_wp2_with fail
    go_quiet (fail)
    go_wp2
    go_roundg (12 - (i+1))
    case measure=>omega
    case rel=>exact⟨i+1,_,by simp,by rw[HE.out];rfl,by rw[HE.out];rfl,by omega,Nat.le_refl _,rfl⟩
   | some b=>
    have hb:b<i:=by have:=bst_is S L i;rw[e] at this;exact this.2.1
    have x1:=HL.out i hlt
    have x2:=HL.out b (by omega)
    have hbz:(b:Int)<12:=by omega
    simp only[Option.getD_some,Option.isSome_some]
    by_cases hl:L i<L b
    ·
     have HE:=hyd (bst_less h2 e hl)
     clear h2 e hb
     generalize L i=u at *
     generalize L b=v at *
     go_wp2_with fail
     go_quiet (fail)
     go_wp2
     go_roundg (12 - (i+1))
     case measure=>omega
     case rel=>exact⟨i+1,_,by simp,by rw[HE.out];rfl,by rw[HE.out];rfl,by omega,Nat.le_refl _,rfl⟩
    ·
     have HE:=hyd (bst_more e hl)
     clear h2 e hb
     generalize L i=u at *
     generalize L b=v at *
     go_wp2_with fail
     go_quiet (fail)
     go_wp2
     go_roundg (12 - (i+1))
     case measure=>omega
     case rel=>exact⟨i+1,_,by simp,by rw[HE.out];rfl,by rw[HE.out];rfl,by omega,Nat.le_refl _,rfl⟩
  ·
   have HE:=hyd (bst_skip (L:=L) h2)
   have hn:(S i != 2)=true:=by simp only[bne_iff_ne];exact h2
   clear h2
   generalize S i=u at *
   go_wp2
   go_roundg (12 - (i+1))
   case measure=>omega
   case rel=>exact⟨i+1,m,by simp,by rw[HE.out],by rw[HE.out],by omega,Nat.le_refl _,rfl⟩
 ·
  have hltz:¬ (i:Int)<12:=by omega
  obtain rfl:i=12:=by omega
  cases e:bst S L 12 with
  | none=>
   have HE:=hyd (And.intro (chV_none e) (chC_none e))
   clear HS HL HG e
   simp only[Option.getD_none,Option.isSome_none]
   go_wp2
   go_ret2
   rw[HE.out.1,HE.out.2]
   exact⟨rfl,_,rfl⟩
  | some b=>
   have HE:=hyd (And.intro (chV_some e) (chC_some e))
   clear HS HL HG e
   simp only[Option.getD_some,Option.isSome_some]
   go_wp2
   go_ret2
   rw[HE.out.1,HE.out.2]
   exact⟨rfl,_,rfl⟩
end Go.Proofs.YtbhbilcieodbhaaGreat.Gc
/-
  Worlds that differ in some blocks alone; blocks that hold ints. No condition: lemmas. The law's own pick and Code. No condition: lemmas. What patrol's and its document's New, Step, Cursor, Calls, Due and Noted answer. No condition: lemmas. What the list of blocks answers: Add, Next, Len. No condition: lemmas.
-/
namespace Go.Proofs.YtbhbilcieodbhaaGreat.Patrol
set_option maxRecDepth 100000
open Go.RowKit
section
variable {w w':World} {b n:Nat} {t:TypeId} {F:Nat->Bool}
end
theorem neq_nil (w:World):(binOp .neq 33 .nilIface .nilIface).run Tryz.prog w=.ok (.bool false) w:=by kernel_rfl
theorem below_yes (w:World) (n m:Int) (h:0<=n/\n<m):Calls Tryz.prog 145 #[.int .i64 n,.int .i64 m] w fun e w'=>e=.returned (.bool true)/\w'=w:=by
 obtain⟨h0,h1⟩:=h
 go_enter Tryz.func145,Tryz.ntmps145
 go_wp2
 go_ret
 exact⟨rfl,rfl⟩
theorem parts_in (w:World) (p:Int) (h:0<=p/\p<96):Calls Tryz.prog 127 #[.int .i64 p] w fun e w'=>e=.returned (.tuple #[.int .i64 (p / 8),.int .i64 (p % 8),.nilIface])/\w'=w:=by
 obtain⟨h0,h1⟩:=h
 go_enter Tryz.func127,Tryz.ntmps127
 go_wp2_with fail
 refine(below_yes w p 96 ⟨h0,h1⟩).mono ?_
 rintro e w1 ⟨rfl,rfl⟩
 go_wp2
 go_ret3
 exact⟨rfl,rfl⟩
theorem on_1 (w:World) (c d:Nat) (h:c<96) (hd:d=(c+1) % 96):Calls Tryz.prog 106 #[.int .i64 c,.int .i64 1] w fun e w'=>e=.returned (.tuple #[.int .i64 d,.nilIface])/\w'=w:=by
 have h0:(0:Int)<=c:=by omega
 have h1:(c:Int)<96:=by omega
 have HD:Hid (((c:Int)+1+96) % 96=(d:Int)):=by show _=_;omega
 clear h hd
 go_enter Tryz.func106,Tryz.ntmps106
 go_wp2_with fail
 refine(below_yes w c 96 ⟨h0,h1⟩).mono ?_
 rintro e w1 ⟨rfl,rfl⟩
 go_wp2
 go_ret2
 rw[<-HD.out]
 exact⟨rfl,rfl⟩
def pr (c k:Nat):Nat->Int:=fun i=>if i=0 then (c:Int) else (k:Int)
def PB (w:World) (b:Nat) (t:TypeId) (c k:Nat):Prop:=IB w b t 2 (pr c k)
section
variable {w w':World} {b c k:Nat} {t:TypeId}
theorem PB.lt (h:PB w b t c k):b<w.heap.size:=IB.lt h
theorem PB.chg {S:Nat->Prop} (h:PB w b t c k) (hc:Chg S w w') (hb:¬ S b):PB w' b t c k:=IB.chg h hc hb
theorem PB.c0 (h:PB w b t c k):w.cell? ⟨b,0,none⟩=some (.int .i64 c)/\w.frozen? ⟨b,0,none⟩=false:=IB.cell h 0 (by omega)
theorem PB.c1 (h:PB w b t c k):w.cell? ⟨b,1,none⟩=some (.int .i64 k)/\w.frozen? ⟨b,1,none⟩=false:=IB.cell h 1 (by omega)
theorem PB.set0 (h:PB w b t c k) (d:Nat):PB (w.setCell ⟨b,0,none⟩ (.int .i64 d)) b t d k:=by
 refine(IB.set h 0 (d:Int)).congr fun i _=>?_
 unfold upd pr
 split <;> rfl
theorem PB.set1 (h:PB w b t c k) (d:Nat):PB (w.setCell ⟨b,1,none⟩ (.int .i64 d)) b t c d:=by
 refine(IB.set h 1 (d:Int)).congr fun i hi=>?_
 unfold upd pr
 by_cases e:i=0
 ·
  subst e;rfl
 ·
  rw[if_neg e,if_pos (by omega),if_neg e]
theorem PB.new (w:World) (t:TypeId) (c k:Nat):PB (w.alloc (.cells #[.int .i64 c,.int .i64 k] t)) w.heap.size t c k:=IB.new w t 2 (pr c k)
end
theorem new_yes (w:World) (c:Nat) (hc:c<96):Calls Tryz.prog 174 #[.int .i64 c] w fun e w'=>e=.returned (.tuple #[.pointer (some ⟨w.heap.size,0,none⟩),.nilIface])/\PB w' w.heap.size 165 c 0/\Chg (fun _=>False) w w':=by
 have hp:=parts_in w c (by omega)
 have q:=neq_nil
 have HK:=hyd (PB.new w 165 c 0)
 have HG:Hid (Chg (fun _=>False) w (w.alloc (.cells #[.int .i64 c,.int .i64 (0:Nat)] 165))):=(Chg.refl _ w).alloc _
 go_enter Tryz.func174,Tryz.ntmps174
 go_wp2_with fail
 refine hp.mono ?_
 rintro e w1 ⟨rfl,rfl⟩
 clear hp hc
 go_wp2
 go_ret2
 exact⟨rfl,HK.out,HG.out⟩
theorem cursor_any (w:World) (b c k:Nat) (h:PB w b 165 c k):Calls Tryz.prog 51 #[.pointer (some ⟨b,0,none⟩)] w fun e w'=>e=.returned (.int .i64 c)/\w'=w:=by
 obtain⟨c0,-⟩:=h.c0
 clear h
 go_enter Tryz.func51,Tryz.ntmps51
 go_wp2
 go_ret
 exact⟨rfl,rfl⟩
theorem calls_any (w:World) (b c k:Nat) (h:PB w b 165 c k):Calls Tryz.prog 52 #[.pointer (some ⟨b,0,none⟩)] w fun e w'=>e=.returned (.int .i64 k)/\w'=w:=by
 obtain⟨c1,-⟩:=h.c1
 clear h
 go_enter Tryz.func52,Tryz.ntmps52
 go_wp2
 go_ret
 exact⟨rfl,rfl⟩
theorem due_any (w:World) (b c k:Nat) (h:PB w b 165 c k):Calls Tryz.prog 76 #[.pointer (some ⟨b,0,none⟩)] w fun e w'=>e=.returned (.bool (decide ((k:Int) ≥ 8)))/\w'=w:=by
 obtain⟨c1,-⟩:=h.c1
 clear h
 go_enter Tryz.func76,Tryz.ntmps76
 go_wp2
 go_ret
 exact⟨rfl,rfl⟩
theorem noted_any (w:World) (b c k:Nat) (h:PB w b 165 c k):Calls Tryz.prog 121 #[.pointer (some ⟨b,0,none⟩)] w fun e w'=>e=.returned (.tuple #[])/\PB w' b 165 c 0/\Chg (·=b) w w':=by
 obtain⟨c1,f1⟩:=h.c1
 have HK:=hyd (h.set1 0)
 have HG:Hid (Chg (·=b) w (w.setCell ⟨b,1,none⟩ (.int .i64 0))):=(Chg.refl (·=b) w).setCell (Or.inl rfl) _ _
 clear h
 go_enter Tryz.func121,Tryz.ntmps121
 go_wp2
 go_end0
 exact⟨rfl,HK.out,HG.out⟩
def plc (c:Nat):Nat->Int:=fun j=>((c+j) % 96:Nat)
theorem make8 (w:World):(Instr.makeSlice 22 (.int .i64 8) (.int .i64 8)).run Tryz.prog w=.ok (.slice (some ⟨w.heap.size,0,none⟩) 8 8) (w.alloc (.cells (ints (fun _=>0) 8).toArray 3)):=by kernel_rfl
theorem step_v (w:World) (b c k:Nat) (h:PB w b 165 c k) (hc:c<96) (hk:k<9223372036854775807) (d:Nat) (hd:d=(c+8) % 96):Calls Tryz.prog 72 #[.pointer (some ⟨b,0,none⟩)] w fun e w'=>e=.returned (.slice (some ⟨w.heap.size,0,none⟩) 8 8)/\IB w' w.heap.size 3 8 (plc c)/\PB w' b 165 d (k+1)/\Chg (·=b) w w':=by
 have hm:=make8
 have hkz:(k:Int)<9223372036854775807:=by omega
 have HC:=hyd hc
 have HD:=hyd hd
 have HK0:=hyd (IB.new w 3 8 (fun _=>0))
 have HG0:Hid (Chg (·=b) w (w.alloc (.cells (ints (fun _=>0) 8).toArray 3))):=(Chg.refl _ w).alloc _
 have HP0:=hyd (h.chg ((Chg.refl (fun _=>False) w).alloc (.cells (ints (fun _=>0) 8).toArray 3)) (fun f=>f))
 have hne:b≠w.heap.size:=Nat.ne_of_lt h.lt
 clear h hc hd hk
 go_enter Tryz.func72,Tryz.ntmps72
 go_wp2_with fail
 generalize w.alloc (.cells (ints (fun _=>0) 8).toArray 3)=w0 at *
 generalize HB:w.heap.size=s at *
 have HB:=hyd HB
 clear hm
 go_loopg [8] 8 (fun kx s8 wr=>∃ i:Nat,s8=.int .i64 i/\i<=8/\8 - i<=kx/\Hid (IB wr s 3 8 (fun j=>if j<i then plc c j else 0))/\Hid (PB wr b 165 ((c+i) % 96) k)/\Hid (Chg (·=b) w wr))
 case atStart=>exact⟨0,rfl,by omega,by omega,HK0.out.congr fun j _=>by rw[if_neg (by omega)],by show PB _ _ _ _ _;rw[Nat.add_zero,Nat.mod_eq_of_lt HC.out];exact HP0.out,HG0⟩
 case round=>
 obtain⟨i,rfl,hin,hkx,HI,HP,HG⟩:=hrel
 clear HK0 HG0 HP0
 by_cases hlt:i<8
 ·
  have hltz:(i:Int)<8:=by omega
  obtain⟨ci,fi⟩:=HI.out.cell i hlt
  obtain⟨c0,f0⟩:=HP.out.c0
  have P1:=HP.out.chg ((Chg.refl (·=s) wr).setCell (Or.inl rfl) i (.int .i64 (((c+i) % 96:Nat):Int))) hne
  obtain⟨d0,g0⟩:=P1.c0
  have HI1:=hyd (HI.out.set i (((c+i) % 96:Nat):Int))
  have HP1:=hyd P1
  have HG1:Hid (Chg (·=b) w (wr.setCell ⟨s,i,none⟩ (.int .i64 (((c+i) % 96:Nat):Int)))):=HG.out.setCell (Or.inr (by rw[HB.out];exact Nat.le_refl _)) _ _
  have hon:=fun wx=>on_1 wx ((c+i) % 96) ((c+(i+1)) % 96) (Nat.mod_lt _ (by decide)) (by omega)
  have HE:Hid (plc c i=(((c+i) % 96:Nat):Int)):=rfl
  clear P1 HI HP HG
  generalize (c+i) % 96=m at *
  generalize HM:(c+(i+1)) % 96=m' at *
  have HM:=hyd HM
  go_wp2_with fail
  refine(hon _).mono ?_
  rintro e w1 ⟨rfl,rfl⟩
  have HI2:=hyd (HI1.out.chg ((Chg.refl (·=b) _).setCell (Or.inl rfl) 0 (.int .i64 m')) hne.symm)
  have HP2:=hyd (HP1.out.set0 m')
  have HG2:=hyd (HG1.out.setCell (Or.inl rfl) 0 (.int .i64 m'))
  clear HI1 HP1 HG1 hon
  go_wp2
  go_roundg (8 - (i+1))
  case measure=>omega
  case rel=>
   refine⟨i+1,by simp,by omega,Nat.le_refl _,?_,by show PB _ _ _ _ _;rw[HM.out];exact HP2.out,HG2⟩
   refine HI2.out.congr fun j _=>?_
   unfold upd
   by_cases e:j=i
   ·
    subst e;rw[if_pos rfl,if_pos (by omega),HE.out]
   ·
    rw[if_neg e]
    show (if j<i then plc c j else 0)=_
    by_cases e2:j<i
    ·
     rw[if_pos e2,if_pos (by omega)]
    ·
     rw[if_neg e2,if_neg (by omega)]
 ·
  have hltz:¬ (i:Int)<8:=by omega
  have h8:i=8:=by omega
  subst h8
  have HI2:Hid (IB wr s 3 8 (plc c)):=HI.out.congr fun j hj=>by rw[if_pos hj]
  have P2:=HP.out
  rw[<-HD.out] at P2
  obtain⟨c1,f1⟩:=P2.c1
  have HI3:=hyd (HI2.out.chg ((Chg.refl (·=b) _).setCell (Or.inl rfl) 1 (.int .i64 (k+1))) hne.symm)
  have HP3:=hyd (P2.set1 (k+1))
  have HG3:=hyd (HG.out.setCell (Or.inl rfl) 1 (.int .i64 (k+1)))
  clear P2 HI HP HG HI2 HD
  go_wp2
  go_ret
  exact⟨rfl,HI3.out,HP3.out,HG3.out⟩
def Okq (l:List Int):Prop:=l.Nodup/\∀ x ∈ l,0<=x/\x<12
theorem hole:∀ (n:Nat) (l:List Int),l.Nodup->(∀ x ∈ l,0<=x/\x<(n:Int))->l.length<=n
 | 0,l,_,h=>by
  match l with
  | []=>exact Nat.le_refl _
  | x :: _=>have:=h x (by simp);omega
 | n+1,l,hd,h=>by
  by_cases hm:(n:Int) ∈ l
  ·
   have e:=List.length_erase_of_mem hm
   have:=hole n (l.erase (n:Int)) (hd.erase _) (fun x hx=>by
    have h1:=hd.mem_erase_iff.1 hx
    have h2:=h x h1.2
    have h3:=h1.1
    omega)
   have hp:0<l.length:=List.length_pos_of_mem hm
   omega
  ·
   have:=hole n l hd (fun x hx=>by
    have h2:=h x hx
    have h3:x≠(n:Int):=fun e=>hm (e ▸ hx)
    omega)
   omega
theorem Okq.len {l:List Int} (h:Okq l):l.length<=12:=hole 12 l h.1 h.2
theorem Okq.tail {x:Int} {l:List Int} (h:Okq (x :: l)):Okq l:=⟨(List.nodup_cons.1 h.1).2,fun y hy=>h.2 y (by simp[hy])⟩
theorem Okq.snoc {x:Int} {l:List Int} (h:Okq l) (hx:¬ (x<0\/12<=x)) (hm:x ∉ l):Okq (l ++ [x]):=by
 refine⟨List.nodup_append.2 ⟨h.1,by simp,fun a ha b hb=>?_⟩,fun y hy=>?_⟩
 ·
  simp at hb
  subst hb
  exact fun e=>hm (e ▸ ha)
 ·
  rcases List.mem_append.1 hy with hy | hy
  ·
   exact h.2 y hy
  ·
   simp at hy
   subst hy
   omega
def adC (x:Int):Nat:=if x<0\/12<=x then 1 else 0
def adL (l:List Int) (x:Int):List Int:=if (x<0\/12<=x)\/x ∈ l then l else l ++ [x]
theorem Okq.add {l:List Int} (h:Okq l) (x:Int):Okq (adL l x):=by
 unfold adL
 split
 ·
  exact h
 ·
  rename_i c
  exact h.snoc (fun e=>c (Or.inl e)) (fun e=>c (Or.inr e))
def SI (w:World) (b:Nat) (t:TypeId) (n:Nat) (g:Nat->Value) (o:Nat) (F:Nat->Int):Prop:=Sto w b t n (upL g o (ints F 13))/\o+13<=n
section
variable {w w':World} {b:Nat} {t:TypeId} {n:Nat} {g:Nat->Value} {o:Nat} {F:Nat->Int}
theorem upL_ints (g:Nat->Value) (o m:Nat) (F:Nat->Int) (j:Nat) (hj:j<m):upL g o (ints F m) (o+j)=.int .i64 (F j):=upL_seg g o (ints F m) j _ (ints_at F m j hj)
theorem upL_out (g:Nat->Value) (o m:Nat) (F:Nat->Int) (i:Nat) (h:i<o\/o+m<=i):upL g o (ints F m) i=g i:=by
 unfold upL
 rw[if_neg (by rw[ints_length];omega)]
theorem SI.cell (h:SI w b t n g o F) (j:Nat) (hj:j<13):w.cell? ⟨b,o+j,none⟩=some (.int .i64 (F j))/\w.frozen? ⟨b,o+j,none⟩=false:=by
 obtain⟨h1,h2⟩:=h
 exact⟨by rw[h1.cell (o+j) (by omega),upL_ints g o 13 F j hj],h1.frozen _⟩
theorem SI.set (h:SI w b t n g o F) (j:Nat) (hj:j<13) (z:Int):SI (w.setCell ⟨b,o+j,none⟩ (.int .i64 z)) b t n g o (upd F j z):=by
 obtain⟨h1,h2⟩:=h
 refine⟨(h1.setCell (o+j) (.int .i64 z)).ext fun i hi=>?_,h2⟩
 rw[upL_one]
 by_cases e:i=o+j
 ·
  subst e
  rw[if_pos rfl,upL_ints _ _ _ _ _ hj]
  unfold upd
  rw[if_pos rfl]
 ·
  rw[if_neg e]
  by_cases c:o<=i/\i<o+13
  ·
   obtain⟨k,rfl⟩:∃ k,i=o+k:=⟨i - o,by omega⟩
   rw[upL_ints _ _ _ _ _ (by omega),upL_ints _ _ _ _ _ (by omega)]
   unfold upd
   rw[if_neg (by omega)]
  ·
   rw[upL_out _ _ _ _ _ (by omega),upL_out _ _ _ _ _ (by omega)]
end
def QB (w:World) (b:Nat) (t:TypeId) (n:Nat) (g:Nat->Value) (o:Nat) (l:List Int):Prop:=∃ F,SI w b t n g o F/\F 12=(l.length:Int)/\∀ i,i<l.length->F i=l.getD i 0
section
variable {w w':World} {b:Nat} {t:TypeId} {n:Nat} {g:Nat->Value} {o:Nat} {l:List Int}
theorem QB.drewN (h:QB w b t n g o l) (m:Nat):QB (w.drewN m) b t n g o l:=h
theorem QB.many (h:QB w b t n g o l):w.cell? ⟨b,o+12,none⟩=some (.int .i64 (l.length:Int))/\w.frozen? ⟨b,o+12,none⟩=false:=by
 obtain⟨F,h1,h2,-⟩:=h
 rw[<-h2]
 exact h1.cell 12 (by omega)
theorem QB.cell (h:QB w b t n g o l) (hl:l.length<=12) (i:Nat) (hi:i<l.length):w.cell? ⟨b,o+i,none⟩=some (.int .i64 (l.getD i 0))/\w.frozen? ⟨b,o+i,none⟩=false:=by
 obtain⟨F,h1,-,h3⟩:=h
 rw[<-h3 i hi]
 exact h1.cell i (by omega)
end
theorem len42:Tryz.prog.arrayLen 37=12:=by kernel_rfl
theorem elem42 (w:World):(sizeOf (Tryz.prog.elem 37)).run Tryz.prog w=.ok 1 w:=by kernel_rfl
theorem slice42_h (b o n:Nat) (hn:n<=12) (w:World):(Instr.sliceAt 37 (.pointer (some ⟨b,o,none⟩)) none (some (.int .i64 n)) none).run Tryz.prog w=.ok (.slice (some ⟨b,o,none⟩) n 12) w:=by
 rw[run_sliceAt_array_h w 37 ⟨b,o,none⟩ Tryz.underlying37 .i64 n (by omega) (by rw[len42];omega),elem42,len42]
 simp[slicedAt,Addr.add_mid]
theorem slice42_a (b o:Nat) (w:World):(Instr.sliceAt 37 (.pointer (some ⟨b,o,none⟩)) none none none).run Tryz.prog w=.ok (.slice (some ⟨b,o,none⟩) 12 12) w:=by
 rw[run_sliceAt_array_all w 37 ⟨b,o,none⟩ Tryz.underlying37,elem42,len42]
 simp[slicedAt,Addr.add_mid]
theorem slice42_1 (b o n:Nat) (hn:n<=11) (w:World):(Instr.sliceAt 37 (.pointer (some ⟨b,o,none⟩)) (some (.int .i64 1)) (some (.int .i64 (n+1))) none).run Tryz.prog w=.ok (.slice (some ⟨b,o+1,none⟩) n 11) w:=by
 rw[run_sliceAt_array_lh w 37 ⟨b,o,none⟩ Tryz.underlying37 .i64 .i64 1 (n+1) (by omega) (by omega) (by rw[len42];omega),elem42,len42]
 simp only[Result.andThen_ok,slicedAt]
 rw[if_neg (by omega),Addr.add_mid]
 congr 2
theorem waits_v (w:World) (b:Nat) (t:TypeId) (nn:Nat) (g:Nat->Value) (o:Nat) (l:List Int) (h:QB w b t nn g o l) (hl:l.length<=12) (x:Int):Calls Tryz.prog 129 #[.pointer (some ⟨b,o,none⟩),.int .i64 x] w fun e w'=>e=.returned (.bool (decide (x ∈ l)))/\∃ m,w'=w.drewN m:=by
 obtain⟨bb,HB⟩:∃ bb,Hid (bb=decide (x ∈ l)):=⟨_,rfl⟩
 rw[<-HB.out]
 obtain⟨c,-⟩:=h.many
 have HK:=hyd h
 obtain⟨n,hn⟩:∃ n,n=l.length:=⟨_,rfl⟩
 rw[<-hn] at c hl
 have HN:=hyd hn
 have hs:=slice42_h b o n hl
 have HL:=hyd hl
 have hnz:(n:Int)<=12:=by omega
 clear h hn hl
 go_enter Tryz.func129,Tryz.ntmps129
 go_wp2_with fail
 go_quiet (fail)
 clear hs c
 go_wp2_with fail
 go_loopg [16] n (fun kx s16 wr=>∃ i:Nat,s16=.int .i64 i/\i<=n/\n - i<=kx/\Hid (∀ j,j<i->l.getD j 0≠x)/\Hid (wr=w.drewN nq))
 case atStart=>exact⟨0,rfl,by omega,by omega,fun j hj=>absurd hj (Nat.not_lt_zero _),rfl⟩
 case round=>
 obtain⟨i,rfl,hin,hkx,HI,HW⟩:=hrel
 obtain rfl:=HW.out
 by_cases hlt:i<n
 ·
  have hltz:(i:Int)<(n:Int):=by omega
  obtain⟨ci,-⟩:=(HK.out.drewN nq).cell (by rw[<-HN.out];exact HL.out) i (by rw[<-HN.out];exact hlt)
  generalize HZ:l.getD i 0=z at *
  have HZ:=hyd HZ
  by_cases e:z=x
  ·
   have HE:=hyd e
   have hb:(z == x)=true:=by simp[e]
   clear e
   go_wp2
   go_ret
   have:bb=true:=by
    rw[HB.out]
    refine decide_eq_true ?_
    rw[<-HE.out,<-HZ.out,List.getD_eq_getElem?_getD,List.getElem?_eq_getElem (by rw[<-HN.out];exact hlt)]
    exact List.getElem_mem _
   rw[this]
   exact⟨rfl,_,rfl⟩
  ·
   have HE:=hyd e
   have hb:(z == x)=false:=by simp[e]
   clear e
   go_wp2
   go_roundg (n - (i+1))
   case measure=>omega
   case rel=>
    refine⟨i+1,by simp,by omega,Nat.le_refl _,fun j hj=>?_,rfl⟩
    by_cases e:j=i
    ·
     rw[e,HZ.out];exact HE.out
    ·
     exact HI.out j (by omega)
 ·
  have hltz:¬ (i:Int)<(n:Int):=by omega
  go_wp2
  go_ret
  have:bb=false:=by
   rw[HB.out]
   refine decide_eq_false fun hm=>?_
   obtain⟨j,hj,he⟩:=List.getElem_of_mem hm
   refine HI.out j (by have:=HN.out;omega) ?_
   rw[List.getD_eq_getElem?_getD,List.getElem?_eq_getElem hj]
   exact he
  rw[this]
  exact⟨rfl,_,rfl⟩
theorem size3:(Tryz.prog.info? 3).map (·.size)=some 1:=by kernel_rfl
theorem step_copy_q {ops:Array Oper} {p:Oper} {a:Act} {w:World} {K:Act->World->Prop} {Q:Exit->Act->World->Prop} {E:Prop} (hgd:p.guard=none) (d s:Operand)
 (ho:p.op=.call { callee:=.builtin .copy,args:=#[d,s],argTypes:=#[22,22] }) (b t nn:Nat) (g:Nat->Value) (o n:Nat) (hd:a.eval d=.slice (some ⟨b,o,none⟩) 12 12) (hs:a.eval s=.slice (some ⟨b,o+1,none⟩) n 11) (hn:n<=11)
 {F:Nat->Int} (hI:SI w b t nn g o F)
 (h:∀ w',SI w' b t nn g o (fun j=>if j<n then F (j+1) else F j)->Chg (·=b) w w'->K (a.put p.dst (goInt n)) w') :
 if Region.wanted p (yielded ops a.tmps)=true then Oper.wp Tryz.prog p a w K Q else E:=by
 have hw:Region.wanted p (yielded ops a.tmps)=true:=by simp[Region.wanted,hgd]
 rw[if_pos hw]
 have hlen:(ints (fun j=>F (j+1)) n).length=n:=ints_length _ _
 obtain⟨⟨cs,k1,k2,k3⟩,k4⟩:=hI
 have hrun:=run_copy_row (P:=Tryz.prog) w 22 22 p.type 3 b o 12 12 ⟨b,o+1,none⟩ n 11 cs t (ints (fun j=>F (j+1)) n) Tryz.underlying22 size3 k1 (by rw[hlen];exact(Nat.min_eq_left (by omega)).symm) (fun j v hv=>by
  have hj:j<n:=by have:=(List.getElem?_eq_some_iff.1 hv).1;rwa [hlen] at this
  rw[Addr.add_mid,ints_at _ _ _ hj] at *
  rw[<-hv,cell_of_row w b _ _ _ _ k1,k3 _ (by omega),show o+1+j=o+(j+1) by omega,upL_ints _ _ _ _ _ (by omega)];rfl) (by rw[hlen];omega) (ints_one _ _)
 rw[hlen] at hrun
 unfold Oper.wp
 simp[execOp,ho,resolve,invoke,builtin,hd,hs,hrun,Result.andThen]
 refine h _ ⟨⟨_,setRow_heap w b _ _ t _ k1,?_,fun i hi=>?_⟩,k4⟩ (chg_row _ _ _)
 ·
  have:=ints_length (fun j=>F (j+1)) n
  simp[this];omega
 ·
  have lt:(List.take o cs.toList).length=o:=by simp;omega
  rw[List.getElem?_toArray]
  by_cases h1:i<o
  ·
   rw[List.getElem?_append_left (by rw[lt];exact h1),List.getElem?_take_of_lt h1,Array.getElem?_toList,k3 i hi,upL_out _ _ _ _ _ (by omega),upL_out _ _ _ _ _ (by omega)]
  ·
   rw[List.getElem?_append_right (by rw[lt];omega),lt]
   by_cases h2:i<o+n
   ·
    rw[List.getElem?_append_left (by rw[hlen];omega)]
    obtain⟨j,rfl⟩:∃ j,i=o+j:=⟨i - o,by omega⟩
    rw[show o+j - o=j by omega,ints_at _ _ _ (by omega),upL_ints _ _ _ _ _ (by omega),if_pos (by omega)];rfl
   ·
    rw[List.getElem?_append_right (by rw[hlen];omega),List.getElem?_drop,hlen,show o+n+(i - o - n)=i by omega,Array.getElem?_toList,k3 i hi]
    by_cases h3:i<o+13
    ·
     obtain⟨j,rfl⟩:∃ j,i=o+j:=⟨i - o,by omega⟩
     rw[upL_ints _ _ _ _ _ (by omega),upL_ints _ _ _ _ _ (by omega),if_neg (by omega)]
    ·
     rw[upL_out _ _ _ _ _ (by omega),upL_out _ _ _ _ _ (by omega)]
theorem next_nil (w:World) (b:Nat) (t:TypeId) (nn:Nat) (g:Nat->Value) (o:Nat) (h:QB w b t nn g o []):Calls Tryz.prog 109 #[.pointer (some ⟨b,o,none⟩)] w fun e w'=>e=.returned (.tuple #[.int .i64 0,.bool false])/\w'=w:=by
 obtain⟨c,-⟩:=h.many
 replace c:w.cell? ⟨b,o+12,none⟩=some (.int .i64 0):=c
 clear h
 go_enter Tryz.func109,Tryz.ntmps109
 go_wp2
 go_ret2
 exact⟨rfl,rfl⟩
theorem next_cons (w:World) (b:Nat) (t:TypeId) (nn:Nat) (g:Nat->Value) (o:Nat) (x:Int) (l:List Int) (h:QB w b t nn g o (x :: l)) (hl:l.length<=11):Calls Tryz.prog 109 #[.pointer (some ⟨b,o,none⟩)] w fun e w'=>e=.returned (.tuple #[.int .i64 x,.bool true])/\QB w' b t nn g o l/\Chg (·=b) w w':=by
 obtain⟨c,-⟩:=h.many
 obtain⟨c0,-⟩:=h.cell (by simp;omega) 0 (by simp)
 replace c0:w.cell? ⟨b,o,none⟩=some (.int .i64 x):=c0
 obtain⟨F,hI,h1,h2⟩:=h
 obtain⟨n,hn⟩:∃ n,n=l.length:=⟨_,rfl⟩
 rw[List.length_cons,<-hn] at c h1 h2
 rw[<-hn] at hl
 have hnb:(((n+1:Nat):Int) == 0)=false:=by simp;omega
 have hnz:(n:Int)<=11:=by omega
 have hs1:=slice42_a b o
 have hs2:=slice42_1 b o n hl
 have HI:=hyd hI
 have H1:=hyd h1
 have H2:=hyd h2
 have HN:=hyd hn
 have HL:=hyd hl
 clear hI h1 h2 hn hl
 push_cast at c hnb
 go_enter Tryz.func109,Tryz.ntmps109
 go_wp2_with fail
 go_region_law (refine step_copy_q rfl (.tmp 18) (.tmp 26) rfl b t nn g o n rfl rfl HL.out HI.out ?_;intro w2 I2 G2)
 all_goals
  have cm:=I2.cell 12 (by omega)
  rw[if_neg (by have:=HL.out;omega),H1.out] at cm
  obtain⟨c12,f12⟩:=cm
  push_cast at c12
  have HQ:Hid (QB (w2.setCell ⟨b,o+12,none⟩ (.int .i64 n)) b t nn g o l):=⟨_,I2.set 12 (by omega) n,by rw[<-HN.out];rfl,fun i hi=>by
   have:=HN.out
   have:=HL.out
   show (if i=12 then (n:Int) else if i<n then F (i+1) else F i)=_
   rw[if_neg (by omega),if_pos (by omega),H2.out (i+1) (by omega),List.getD_cons_succ]⟩
  have HG:Hid (Chg (·=b) w (w2.setCell ⟨b,o+12,none⟩ (.int .i64 n))):=(((Chg.refl (·=b) w).drew).trans G2).setCell (Or.inl rfl) _ _
  clear I2 G2 c c0 hs1 hs2 HI H1 H2 hnb
  go_wp2
  go_ret2
  exact⟨rfl,HQ.out,HG.out⟩
theorem add_arg (w:World) (b o:Nat) (x:Int) (h:x<0\/12<=x):Calls Tryz.prog 92 #[.pointer (some ⟨b,o,none⟩),.int .i64 x] w fun e w'=>e=.returned (.iface 56 (.int .i64 1))/\w'=w:=by
 by_cases h0:x<0
 ·
  clear h
  go_enter Tryz.func92,Tryz.ntmps92
  go_wp2
  go_ret
  exact⟨rfl,rfl⟩
 ·
  have h1:x ≥ 12:=by omega
  clear h
  go_enter Tryz.func92,Tryz.ntmps92
  go_wp2
  go_ret
  exact⟨rfl,rfl⟩
theorem add_old (w:World) (b:Nat) (t:TypeId) (nn:Nat) (g:Nat->Value) (o:Nat) (l:List Int) (h:QB w b t nn g o l) (hl:l.length<=12) (x:Int) (hx:¬ (x<0\/12<=x)) (hm:x ∈ l):Calls Tryz.prog 92 #[.pointer (some ⟨b,o,none⟩),.int .i64 x] w fun e w'=>e=.returned .nilIface/\∃ m,w'=w.drewN m:=by
 have hw:=waits_v w b t nn g o l h hl x
 rw[decide_eq_true hm] at hw
 have h0:¬ x<0:=by omega
 have h1:¬ x ≥ 12:=by omega
 clear h hl hm hx
 go_enter Tryz.func92,Tryz.ntmps92
 go_wp2_with fail
 refine hw.mono ?_
 rintro e w1 ⟨rfl,m,rfl⟩
 clear hw
 go_wp2
 go_ret
 exact⟨rfl,_,rfl⟩
theorem add_new (w:World) (b:Nat) (t:TypeId) (nn:Nat) (g:Nat->Value) (o:Nat) (l:List Int) (h:QB w b t nn g o l) (hl:l.length<12) (x:Int) (hx:¬ (x<0\/12<=x)) (hm:x ∉ l):Calls Tryz.prog 92 #[.pointer (some ⟨b,o,none⟩),.int .i64 x] w fun e w'=>e=.returned .nilIface/\QB w' b t nn g o (l ++ [x])/\Chg (·=b) w w':=by
 have hw:=waits_v w b t nn g o l h (by omega) x
 rw[decide_eq_false hm] at hw
 have h0:¬ x<0:=by omega
 have h1:¬ x ≥ 12:=by omega
 obtain⟨F,hI,k1,k2⟩:=h
 obtain⟨n,hn⟩:∃ n,n=l.length:=⟨_,rfl⟩
 rw[<-hn] at hl k1 k2
 have HI:=hyd hI
 have H1:=hyd k1
 have H2:=hyd k2
 have HN:=hyd hn
 have HL:=hyd hl
 have hnz:(n:Int)<12:=by omega
 clear hI k1 k2 hn hl hm hx
 go_enter Tryz.func92,Tryz.ntmps92
 go_wp2_with fail
 refine hw.mono ?_
 rintro e w1 ⟨rfl,m,rfl⟩
 clear hw
 have I1:SI (w.drewN m) b t nn g o F:=HI.out
 have HG1:Hid (Chg (·=b) w (w.drewN m)):=(Chg.refl _ _).drewN m
 generalize w.drewN m=w1 at *
 obtain⟨c12,f12⟩:=I1.cell 12 (by omega)
 rw[H1.out] at c12
 obtain⟨cn,fn⟩:=I1.cell n (by have:=HL.out;omega)
 have HI1:=hyd I1
 clear I1 HI
 go_wp2_with fail
 go_region
 have I2:SI ((w1.setCell ⟨b,o+n,none⟩ (.int .i64 x)).drew) b t nn g o (upd F n x):=HI1.out.set n (by have:=HL.out;omega) x
 have HG2:Hid (Chg (·=b) w ((w1.setCell ⟨b,o+n,none⟩ (.int .i64 x)).drew)):=(HG1.out.setCell (Or.inl rfl) _ _).drew
 clear HI1 HG1 c12 f12 cn fn
 generalize (w1.setCell ⟨b,o+n,none⟩ (.int .i64 x)).drew=w2 at *
 obtain⟨d12,g12⟩:=I2.cell 12 (by omega)
 rw[show upd F n x 12=(n:Int) by unfold upd;rw[if_neg (by have:=HL.out;omega)];exact H1.out] at d12
 have HQ:Hid (QB (w2.setCell ⟨b,o+12,none⟩ (.int .i64 ((n+1:Nat):Int))) b t nn g o (l ++ [x])):=⟨_,I2.set 12 (by omega) _,by rw[List.length_append,<-HN.out];rfl,fun i hi=>by
  rw[List.length_append,<-HN.out,List.length_singleton] at hi
  have hl:=HL.out
  show (if i=12 then ((n+1:Nat):Int) else if i=n then x else F i)=_
  rw[if_neg (by omega)]
  by_cases e:i=n
  ·
   rw[if_pos e,e,HN.out];simp
  ·
   rw[if_neg e,H2.out i (by omega),List.getD_eq_getElem?_getD,List.getD_eq_getElem?_getD,List.getElem?_append_left (by rw[<-HN.out];omega)]⟩
 have HG3:Hid (Chg (·=b) w (w2.setCell ⟨b,o+12,none⟩ (.int .i64 ((n+1:Nat):Int)))):=HG2.out.setCell (Or.inl rfl) _ _
 clear I2 HG2
 go_wp2
 go_ret
 exact⟨rfl,HQ.out,HG3.out⟩
theorem add_v (w:World) (b:Nat) (t:TypeId) (nn:Nat) (g:Nat->Value) (o:Nat) (l:List Int) (h:QB w b t nn g o l) (ok:Okq l) (x:Int):Calls Tryz.prog 92 #[.pointer (some ⟨b,o,none⟩),.int .i64 x] w fun e w'=>e=.returned (errV (adC x))/\QB w' b t nn g o (adL l x)/\Chg (·=b) w w':=by
 unfold adC adL
 by_cases c:x<0\/12<=x
 ·
  rw[if_pos c,if_pos (Or.inl c)]
  refine(add_arg w b o x c).mono ?_
  rintro e w' ⟨rfl,rfl⟩
  exact⟨rfl,h,Chg.refl _ _⟩
 ·
  rw[if_neg c]
  by_cases hm:x ∈ l
  ·
   rw[if_pos (Or.inr hm)]
   refine(add_old w b t nn g o l h ok.len x c hm).mono ?_
   rintro e w' ⟨rfl,m,rfl⟩
   exact⟨rfl,h.drewN m,(Chg.refl _ _).drewN m⟩
  ·
   rw[if_neg (fun e=>e.elim c hm)]
   have:=(ok.snoc c hm).len
   refine(add_new w b t nn g o l h (by simp at this;omega) x c hm).mono ?_
   rintro e w' ⟨rfl,h1,h2⟩
   exact⟨rfl,h1,h2⟩
def nxB (l:List Int):Bool:=match l with | []=>false | _ :: _=>true
theorem next_v (w:World) (b:Nat) (t:TypeId) (nn:Nat) (g:Nat->Value) (o:Nat) (l:List Int) (h:QB w b t nn g o l) (ok:Okq l):Calls Tryz.prog 109 #[.pointer (some ⟨b,o,none⟩)] w fun e w'=>e=.returned (.tuple #[.int .i64 (l.headD 0),.bool (nxB l)])/\QB w' b t nn g o l.tail/\Chg (·=b) w w':=by
 match l,h,ok with
 | [],h,_=>
  refine(next_nil w b t nn g o h).mono ?_
  rintro e w' ⟨rfl,rfl⟩
  exact⟨rfl,h,Chg.refl _ _⟩
 | x :: l,h,ok=>
  have:=ok.len
  exact next_cons w b t nn g o x l h (by simp at this;omega)
end Go.Proofs.YtbhbilcieodbhaaGreat.Patrol
