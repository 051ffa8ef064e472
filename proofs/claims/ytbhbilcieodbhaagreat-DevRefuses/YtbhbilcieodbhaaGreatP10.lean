/-
  A device: made, mounted, and what it refuses. Conditions: it lies in memory, its chip apart from it.
-/
import Derived.Test.YtbhbilcieodbhaaGreatP09
import Derived.Test.YtbhbilcieodbhaaGreatP08
import Derived.Test.YtbhbilcieodbhaaGreatP07
import Derived.Deep.CutRange
import Derived.Below
import Derived.OpenShut
import Derived.DataReads
namespace Go.Proofs.YtbhbilcieodbhaaGreat
set_option maxRecDepth 100000
open Go.RowKit
def Dv (w:World) (D g:Nat) (x:Option Addr):Prop:=w.heap[D]?=some (.cells #[.pointer (some ⟨g,0,none⟩),.pointer x] 76)
theorem Dv.new (w:World) (g:Nat) (x:Option Addr):Dv (w.alloc (.cells #[.pointer (some ⟨g,0,none⟩),.pointer x] 76)) w.heap.size g x:=by
 show (w.heap.push _)[w.heap.size]?=_
 simp
theorem Dv.lt {w:World} {D g:Nat} {x:Option Addr} (h:Dv w D g x):D<w.heap.size:=(Array.getElem?_eq_some_iff.1 (show w.heap[D]?=some _ from h)).1
theorem Dv.chg {S:Nat->Prop} {w w':World} {D g:Nat} {x:Option Addr} (h:Dv w D g x) (hc:Chg S w w') (hb:¬ S D):Dv w' D g x:=(hc.block D h.lt hb).trans h
theorem Dv.cells {w:World} {D g:Nat} {x:Option Addr} (h:Dv w D g x):w.cell? ⟨D,0,none⟩=some (.pointer (some ⟨g,0,none⟩))/\w.cell? ⟨D,1,none⟩=some (.pointer x)/\w.frozen? ⟨D,1,none⟩=false:=by
 have h':w.heap[D]?=some _:=h
 refine⟨?_,?_,?_⟩
 ·
  simp only[World.cell?,h'];rfl
 ·
  simp only[World.cell?,h'];rfl
 ·
  simp only[World.frozen?,h'];rfl
theorem Dv.set {w:World} {D g:Nat} {x:Option Addr} (h:Dv w D g x) (y:Option Addr):Dv (w.setCell ⟨D,1,none⟩ (.pointer y)) D g y:=heap_setCell_same w D 1 _ 76 _ h
theorem dv_set {w:World} {D:Nat} (v:Value):Chg (·=D) w (w.setCell ⟨D,1,none⟩ v):=(Chg.refl (·=D) w).setCell (Or.inl rfl) _ _
theorem CoreAt.but {A:Ad} {w:World} {K:Kor} (h:CoreAt A w K) {w':World} {g:Nat} (n:∀ x,Cor A x\/x=A.p\/x=A.q->¬ x=g) (hc:Chg (·=g) w w'):CoreAt A w' K:=by
 obtain⟨f1,f2,f3,f4,f5,f6,f7⟩:=h.frame hc
 exact⟨f1 (n _ (Or.inl (Or.inl rfl))),f2 (n _ (Or.inl (Or.inr (Or.inl rfl)))) (n _ (Or.inr (Or.inl rfl))) (n _ (Or.inr (Or.inr rfl))) (n _ (Or.inl (Or.inr (Or.inr (Or.inr (Or.inl rfl)))))),f3 (n _ (Or.inl (Or.inr (Or.inr (Or.inl rfl))))),f4 (n _ (Or.inl (Or.inr (Or.inr (Or.inr (Or.inr (Or.inl rfl))))))),f5 (n _ (Or.inl (Or.inr (Or.inr (Or.inr (Or.inr (Or.inr (Or.inl rfl)))))))),f6 (n _ (Or.inl (Or.inr (Or.inr (Or.inr (Or.inr (Or.inr (Or.inr (Or.inl rfl))))))))),f7 (n _ (Or.inl (Or.inr (Or.inr (Or.inr (Or.inr (Or.inr (Or.inr (Or.inr rfl))))))))),h.wf⟩
theorem dnew_nil (w:World):Calls Tryz.prog 21 #[.pointer none] w fun e w'=>e=.returned (.tuple #[.pointer none,errV 1])/\w'=w:=by
 go_enter Tryz.func21,Tryz.ntmps21
 go_wp2
 go_ret2
 exact⟨rfl,rfl⟩
theorem build76 (w:World) (g:Nat):(Instr.build 76 #[(0,.pointer (some ⟨g,0,none⟩))]).run Tryz.prog w=.ok (.agg #[.pointer (some ⟨g,0,none⟩),.pointer none]) w:=by kernel_rfl
theorem dnew_any (g:Nat) (w:World):Calls Tryz.prog 21 #[.pointer (some ⟨g,0,none⟩)] w fun e w'=>e=.returned (.tuple #[.pointer (some ⟨w.heap.size,0,none⟩),.nilIface])/\Dv w' w.heap.size g none/\Chg (fun _=>False) w w':=by
 have hb:=build76 w g
 have H:=hyd (Dv.new w g none)
 have G:=hyd ((Chg.refl (fun _=>False) w).alloc (.cells #[.pointer (some ⟨g,0,none⟩),.pointer none] 76))
 go_enter Tryz.func21,Tryz.ntmps21
 go_wp2
 go_ret2
 exact⟨rfl,H.out,G.out⟩
theorem dmount_again (D g c:Nat) (w:World) (h:Dv w D g (some ⟨c,0,none⟩)):Calls Tryz.prog 24 #[.pointer (some ⟨D,0,none⟩)] w fun e w'=>e=.returned (errV 12)/\w'=w:=by
 obtain⟨c0,c1,-⟩:=h.cells
 clear h
 go_enter Tryz.func24,Tryz.ntmps24
 go_wp2
 go_ret
 exact⟨rfl,rfl⟩
set_option maxHeartbeats 2000000 in
theorem dmount_blank (D g:Nat) (s:Chp) (hB:Blank s) (tl:List Nat->Int->Pg) (htl:∀ L n,ToldR L n (tl L n)) (w:World) (hc:ChipAt w g s) (h:Dv w D g none) (hne:D≠g) :
 Calls Tryz.prog 24 #[.pointer (some ⟨D,0,none⟩)] w fun e w'=>∃ A K G,Far A g w.heap.size/\e=.returned .nilIface/\Dv w' D g (some ⟨A.c,0,none⟩)/\CoreAt A w' K/\(Bgn K G/\Lit 1 K G)/\K.tl=tl/\Chg (fun k=>k=g\/k=D) w w':=by
 obtain⟨c0,c1,-⟩:=h.cells
 have HD:=hyd h
 have hcall:=mount_blank g s hB tl htl w hc
 have HN:=hyd hne
 have q0:=neq_nil_nil
 clear h hc hB
 go_enter Tryz.func24,Tryz.ntmps24
 go_wp2_with fail
 refine hcall.mono ?_
 rintro e w1 ⟨A,K,G,hF,rfl,hK,hBg,etl,G1⟩
 have HF:=hyd hF
 have HK:=hyd hK
 have HBG:=hyd hBg
 have HE:=hyd etl
 have HG1:=hyd G1
 have HD1:=hyd (HD.out.chg G1 HN.out)
 obtain⟨d0,d1,f1⟩:=HD1.out.cells
 clear hcall c0 c1 hF hK hBg etl G1
 go_wp2
 go_ret
 have hL:=HD.out.lt
 have nD:∀ x,Cor A x\/x=A.p\/x=A.q->¬ x=D:=fun x e h=>by
  obtain⟨a,b,c,d,e',f,i,j,l,n⟩:=HF.out
  have:=HN.out
  rcases e with (e | e | e | e | e | e | e | e) | e | e <;> omega
 refine⟨A,K,G,HF.out,rfl,HD1.out.set _,?_,HBG.out,HE.out,?_⟩
 ·
  exact HK.out.but nD (dv_set _)
 ·
  exact(HG1.out.mono (fun _ _ e=>Or.inl e)).trans' (dv_set _) (fun k hk e=>Or.inr e)
theorem refuse_nm (D g:Nat) (o n:Int) (w:World) (h:Dv w D g none):Calls Tryz.prog 31 #[.pointer (some ⟨D,0,none⟩),.int .i64 o,.int .i64 n] w fun e w'=>e=.returned (errV 15)/\w'=w:=by
 obtain⟨c0,c1,-⟩:=h.cells
 clear h
 go_enter Tryz.func31,Tryz.ntmps31
 go_wp2
 go_ret
 exact⟨rfl,rfl⟩
theorem refuse_arg (D g c:Nat) (o n:Int) (w:World) (h:Dv w D g (some ⟨c,0,none⟩)) (hb:(o<0\/24<=o)\/n≠160):Calls Tryz.prog 31 #[.pointer (some ⟨D,0,none⟩),.int .i64 o,.int .i64 n] w fun e w'=>e=.returned (errV 1)/\w'=w:=by
 obtain⟨c0,c1,-⟩:=h.cells
 clear h
 by_cases h1:o<0
 ·
  go_enter Tryz.func31,Tryz.ntmps31
  go_wp2
  go_ret
  exact⟨rfl,rfl⟩
 ·
  by_cases h2:24<=o
  ·
   go_enter Tryz.func31,Tryz.ntmps31
   go_wp2
   go_ret
   exact⟨rfl,rfl⟩
  ·
   have h3:n≠160:=by omega
   go_enter Tryz.func31,Tryz.ntmps31
   go_wp2
   go_ret
   exact⟨rfl,rfl⟩
theorem refuse_ok (D g c o:Nat) (w:World) (h:Dv w D g (some ⟨c,0,none⟩)) (hb:o<24):Calls Tryz.prog 31 #[.pointer (some ⟨D,0,none⟩),.int .i64 (o:Nat),.int .i64 160] w fun e w'=>e=.returned .nilIface/\w'=w:=by
 obtain⟨c0,c1,-⟩:=h.cells
 have h1:¬ (o:Int)<0:=by omega
 have h2:¬ 24<=(o:Int):=by omega
 clear h
 go_enter Tryz.func31,Tryz.ntmps31
 go_wp2
 go_ret
 exact⟨rfl,rfl⟩
end Go.Proofs.YtbhbilcieodbhaaGreat
/-
  A device's calls, on a core that stands: what they are of the core's own. Conditions: device and core lie in memory apart; the power stays.
-/
namespace Go.Proofs.YtbhbilcieodbhaaGreat
set_option maxRecDepth 100000
open Go.RowKit
structure Dmt (w:World) (D:Nat) (A:Ad) (K:Kor):Prop where
 dv:Dv w D A.g (some ⟨A.c,0,none⟩)
 core:CoreAt A w K
 nd:¬ Cor A D
theorem Dmt.chg0 {w w':World} {D:Nat} {A:Ad} {K:Kor} (h:Dmt w D A K) (hc:Chg (fun _=>False) w w'):Dmt w' D A K:=⟨h.dv.chg hc (fun f=>f),h.core.chg0 hc,h.nd⟩
theorem Dmt.cor {w w':World} {D:Nat} {A:Ad} {K K':Kor} (h:Dmt w D A K) (hk:CoreAt A w' K') (hc:Chg (Cor A) w w'):Dmt w' D A K':=⟨h.dv.chg hc h.nd,hk,h.nd⟩
set_option maxHeartbeats 2000000 in
theorem dtend_k (D:Nat) (A:Ad) (K:Kor) (w:World) (h:Dmt w D A K) (c:Nat) (hc:c≠7) (hca:K.ca<9223372036854775807) (n m:Nat) (Z:Kor × Nat) (hZ:tdK n m K=some Z) (h7:Z.2≠7) :
 Calls Tryz.prog 32 #[.pointer (some ⟨D,0,none⟩),errV c] w fun e w'=>e=.returned (errV c)/\Dmt w' D A Z.1/\Chg (Cor A) w w':=by
 obtain⟨c0,c1,-⟩:=h.dv.cells
 have hi:=is_v c 7 (by decide) w
 rw[show decide (c=7)=false by simp[hc]] at hi
 have ht:=tend_k A w K h.core hca n m Z hZ
 have hi2:=fun u:World=>is_v Z.2 7 (by decide) u
 rw[show decide (Z.2=7)=false by simp[h7]] at hi2
 have H:=hyd h
 clear h
 go_enter Tryz.func32,Tryz.ntmps32
 go_wp2_with fail
 refine hi.mono ?_
 rintro e w1 ⟨rfl,rfl⟩
 go_wp2_with fail
 refine ht.mono ?_
 rintro e w2 ⟨rfl,hK,hG⟩
 have HM:=hyd (H.out.cor hK hG)
 have HG:=hyd hG
 clear ht hi hK hG c0 c1
 go_wp2_with fail
 refine(hi2 w2).mono ?_
 rintro e w3 ⟨rfl,rfl⟩
 go_wp2
 go_ret
 exact⟨rfl,HM.out,HG.out⟩
set_option maxHeartbeats 2000000 in
theorem dread_k (D:Nat) (A:Ad) (K:Kor) (w:World) (h:Dmt w D A K) (o:Nat) (ho:o<24) (K':Kor) (B:List Nat) (hg:geK K o=(K',B,0)) (hca:K'.ca<9223372036854775807) (n m:Nat) (Z:Kor × Nat) (hZ:tdK n m K'=some Z) (h7:Z.2≠7) :
 Calls Tryz.prog 16 #[.pointer (some ⟨D,0,none⟩),.int .i64 (o:Nat)] w fun e w'=>∃ v,e=.returned (.tuple #[v,.nilIface])/\Own w' w.heap.size 5 v B/\Dmt w' D A Z.1/\Chg (Cor A) w w':=by
 obtain⟨c0,c1,-⟩:=h.dv.cells
 have hr:=refuse_ok D A.g A.c o w h.dv ho
 have hget:=get_k A w K h.core o ho
 rw[hg] at hget
 have htd:=fun (u:World) (hu:Dmt u D A K')=>dtend_k D A K' u hu 0 (by decide) hca n m Z hZ h7
 rw[show errV 0=.nilIface from rfl] at htd
 have H:=hyd h
 have HL:=hyd h.core.low
 have q0:=neq_nil_nil
 clear h hg
 go_enter Tryz.func16,Tryz.ntmps16
 go_wp2_with fail
 refine hr.mono ?_
 rintro e w1 ⟨rfl,rfl⟩
 go_wp2_with fail
 refine hget.mono ?_
 rintro e w2 ⟨v,rfl,hO,hK,hG⟩
 have HM:=hyd (H.out.cor hK hG)
 have HG:=hyd hG
 have HO:=hyd hO
 clear hr hget hO hK hG c0 c1
 dsimp only
 rw[show errV 0=.nilIface from rfl]
 go_wp2_with fail
 refine(htd w2 HM.out).mono ?_
 rintro e w3 ⟨rfl,hM,hG3⟩
 have HM3:=hyd hM
 have HG3:=hyd (HG.out.trans hG3)
 have HO3:Hid (Own w3 w1.heap.size 5 v B):=HO.out.chg hG3 (fun k hk he e=>by have:=HL.out k (Or.inl e);have:=(HO.out.block he).1;omega)
 clear htd hM hG3
 go_wp2
 go_ret2
 exact⟨v,rfl,HO3.out,HM3.out,HG3.out⟩
set_option maxHeartbeats 2000000 in
theorem dwrite_k (D:Nat) (A:Ad) (K:Kor) (w:World) (h:Dmt w D A K) (o:Nat) (ho:o<24) (d off cap:Nat) (L:List Nat) (hL:L.length=160) (bL:Bys L) (hd:At w d off L) (nd:¬ Cor A d) (k:Nat) (Y:Kor × Nat) (hY:anR k (fun _ _=>L ++ List.replicate 14 0) K o=some Y) (hy:Y.2≠7)
 (hca:Y.1.ca<9223372036854775807) (n m:Nat) (Z:Kor × Nat) (hZ:tdK n m Y.1=some Z) (h7:Z.2≠7) :
 Calls Tryz.prog 12 #[.pointer (some ⟨D,0,none⟩),.int .i64 (o:Nat),.slice (some ⟨d,off,none⟩) 160 cap] w fun e w'=>e=.returned (errV Y.2)/\Dmt w' D A Z.1/\Chg (Cor A) w w':=by
 obtain⟨c0,c1,-⟩:=h.dv.cells
 have hr:=refuse_ok D A.g A.c o w h.dv ho
 have hput:=put_k A w K h.core o ho d off cap L hL bL hd nd k Y hY
 have htd:=fun (u:World) (hu:Dmt u D A Y.1)=>dtend_k D A Y.1 u hu Y.2 hy hca n m Z hZ h7
 have H:=hyd h
 have q0:=neq_nil_nil
 clear h hY hd
 go_enter Tryz.func12,Tryz.ntmps12
 go_wp2_with fail
 refine hr.mono ?_
 rintro e w1 ⟨rfl,rfl⟩
 go_wp2_with fail
 refine hput.mono ?_
 rintro e w2 ⟨rfl,hK,hG⟩
 have HM:=hyd (H.out.cor hK hG)
 have HG:=hyd hG
 clear hr hput hK hG c0 c1
 go_wp2_with fail
 refine(htd w2 HM.out).mono ?_
 rintro e w3 ⟨rfl,hM,hG3⟩
 have HM3:=hyd hM
 have HG3:=hyd (HG.out.trans hG3)
 clear htd hM hG3
 go_wp2
 go_ret
 exact⟨rfl,HM3.out,HG3.out⟩
set_option maxHeartbeats 2000000 in
theorem dtrim_k (D:Nat) (A:Ad) (K:Kor) (w:World) (h:Dmt w D A K) (o:Nat) (ho:o<24) (k:Nat) (Y:Kor × Nat) (hY:tmK k K o=some Y) (hy:Y.2≠7)
 (hca:Y.1.ca<9223372036854775807) (n m:Nat) (Z:Kor × Nat) (hZ:tdK n m Y.1=some Z) (h7:Z.2≠7) :
 Calls Tryz.prog 22 #[.pointer (some ⟨D,0,none⟩),.int .i64 (o:Nat)] w fun e w'=>e=.returned (errV Y.2)/\Dmt w' D A Z.1/\Chg (Cor A) w w':=by
 obtain⟨c0,c1,-⟩:=h.dv.cells
 have hr:=refuse_ok D A.g A.c o w h.dv ho
 have hput:=trim_k A w K h.core o ho k Y hY
 have htd:=fun (u:World) (hu:Dmt u D A Y.1)=>dtend_k D A Y.1 u hu Y.2 hy hca n m Z hZ h7
 have H:=hyd h
 have q0:=neq_nil_nil
 clear h hY
 go_enter Tryz.func22,Tryz.ntmps22
 go_wp2_with fail
 refine hr.mono ?_
 rintro e w1 ⟨rfl,rfl⟩
 go_wp2_with fail
 refine hput.mono ?_
 rintro e w2 ⟨rfl,hK,hG⟩
 have HM:=hyd (H.out.cor hK hG)
 have HG:=hyd hG
 clear hr hput hK hG c0 c1
 go_wp2_with fail
 refine(htd w2 HM.out).mono ?_
 rintro e w3 ⟨rfl,hM,hG3⟩
 have HM3:=hyd hM
 have HG3:=hyd (HG.out.trans hG3)
 clear htd hM hG3
 go_wp2
 go_ret
 exact⟨rfl,HM3.out,HG3.out⟩
theorem dread_nm (D g:Nat) (o:Int) (w:World) (h:Dv w D g none):Calls Tryz.prog 16 #[.pointer (some ⟨D,0,none⟩),.int .i64 o] w fun e w'=>e=.returned (.tuple #[.slice none 0 0,errV 15])/\w'=w:=by
 have hr:=refuse_nm D g o 160 w h
 have q:∀ u:World,(binOp .neq 33 (.iface 56 (.int .i64 15)) .nilIface).run Tryz.prog u=.ok (.bool true) u:=fun u=>neq_er 15 u
 go_enter Tryz.func16,Tryz.ntmps16
 go_wp2_with fail
 refine hr.mono ?_
 rintro e w1 ⟨rfl,rfl⟩
 rw[show errV 15=Value.iface 56 (.int .i64 15) from rfl]
 go_wp2
 go_ret2
 exact⟨rfl,rfl⟩
theorem dtrim_nm (D g:Nat) (o:Int) (w:World) (h:Dv w D g none):Calls Tryz.prog 22 #[.pointer (some ⟨D,0,none⟩),.int .i64 o] w fun e w'=>e=.returned (errV 15)/\w'=w:=by
 have hr:=refuse_nm D g o 160 w h
 have q:∀ u:World,(binOp .neq 33 (.iface 56 (.int .i64 15)) .nilIface).run Tryz.prog u=.ok (.bool true) u:=fun u=>neq_er 15 u
 go_enter Tryz.func22,Tryz.ntmps22
 go_wp2_with fail
 refine hr.mono ?_
 rintro e w1 ⟨rfl,rfl⟩
 rw[show errV 15=Value.iface 56 (.int .i64 15) from rfl]
 go_wp2
 go_ret
 exact⟨rfl,rfl⟩
theorem dwrite_nm (D g:Nat) (o:Int) (a:Option Addr) (n cap:Nat) (w:World) (h:Dv w D g none):Calls Tryz.prog 12 #[.pointer (some ⟨D,0,none⟩),.int .i64 o,.slice a n cap] w fun e w'=>e=.returned (errV 15)/\w'=w:=by
 have hr:=refuse_nm D g o n w h
 have q:∀ u:World,(binOp .neq 33 (.iface 56 (.int .i64 15)) .nilIface).run Tryz.prog u=.ok (.bool true) u:=fun u=>neq_er 15 u
 go_enter Tryz.func12,Tryz.ntmps12
 go_wp2_with fail
 refine hr.mono ?_
 rintro e w1 ⟨rfl,rfl⟩
 rw[show errV 15=Value.iface 56 (.int .i64 15) from rfl]
 go_wp2
 go_ret
 exact⟨rfl,rfl⟩
theorem dread_arg (D g c:Nat) (o:Int) (w:World) (h:Dv w D g (some ⟨c,0,none⟩)) (ho:o<0\/24<=o):Calls Tryz.prog 16 #[.pointer (some ⟨D,0,none⟩),.int .i64 o] w fun e w'=>e=.returned (.tuple #[.slice none 0 0,errV 1])/\w'=w:=by
 have hr:=refuse_arg D g c o 160 w h (Or.inl ho)
 have q:∀ u:World,(binOp .neq 33 (.iface 56 (.int .i64 1)) .nilIface).run Tryz.prog u=.ok (.bool true) u:=fun u=>neq_er 1 u
 go_enter Tryz.func16,Tryz.ntmps16
 go_wp2_with fail
 refine hr.mono ?_
 rintro e w1 ⟨rfl,rfl⟩
 rw[show errV 1=Value.iface 56 (.int .i64 1) from rfl]
 go_wp2
 go_ret2
 exact⟨rfl,rfl⟩
theorem dtrim_arg (D g c:Nat) (o:Int) (w:World) (h:Dv w D g (some ⟨c,0,none⟩)) (ho:o<0\/24<=o):Calls Tryz.prog 22 #[.pointer (some ⟨D,0,none⟩),.int .i64 o] w fun e w'=>e=.returned (errV 1)/\w'=w:=by
 have hr:=refuse_arg D g c o 160 w h (Or.inl ho)
 have q:∀ u:World,(binOp .neq 33 (.iface 56 (.int .i64 1)) .nilIface).run Tryz.prog u=.ok (.bool true) u:=fun u=>neq_er 1 u
 go_enter Tryz.func22,Tryz.ntmps22
 go_wp2_with fail
 refine hr.mono ?_
 rintro e w1 ⟨rfl,rfl⟩
 rw[show errV 1=Value.iface 56 (.int .i64 1) from rfl]
 go_wp2
 go_ret
 exact⟨rfl,rfl⟩
theorem dwrite_arg (D g c:Nat) (o:Int) (a:Option Addr) (n cap:Nat) (w:World) (h:Dv w D g (some ⟨c,0,none⟩)) (ho:(o<0\/24<=o)\/n≠160):Calls Tryz.prog 12 #[.pointer (some ⟨D,0,none⟩),.int .i64 o,.slice a n cap] w fun e w'=>e=.returned (errV 1)/\w'=w:=by
 have hr:=refuse_arg D g c o n w h (ho.imp id (fun e=>by omega))
 have q:∀ u:World,(binOp .neq 33 (.iface 56 (.int .i64 1)) .nilIface).run Tryz.prog u=.ok (.bool true) u:=fun u=>neq_er 1 u
 go_enter Tryz.func12,Tryz.ntmps12
 go_wp2_with fail
 refine hr.mono ?_
 rintro e w1 ⟨rfl,rfl⟩
 rw[show errV 1=Value.iface 56 (.int .i64 1) from rfl]
 go_wp2
 go_ret
 exact⟨rfl,rfl⟩
theorem results_vw2 {fn:Func} {q u:Tmp} (h:fn.results=#[.cell q 40,.tmp u]) (tmps:Array Value) {w:World} {g:Nat} {F:Nat->Int} (hp:tmps.getD q undef=.pointer (some ⟨g,0,none⟩)) (hT:IB w g 40 67 F) :
 (results fn tmps).run Tryz.prog w=.ok (.tuple #[.agg (ints F 67).toArray,tmps.getD u undef]) w:=by
 rw[results_cell_tmp h,hp]
 simp[asAddr,run_loadVar_row w g 40 40 _ _ _ hT Tryz.underlying40 rfl (sz39 F)]
set_option maxHeartbeats 2000000 in
theorem dview_k (D:Nat) (A:Ad) (K:Kor) (w:World) (h:Dmt w D A K):Calls Tryz.prog 14 #[.pointer (some ⟨D,0,none⟩)] w fun e w'=>e=.returned (.tuple #[.agg (ints (vwF K) 67).toArray,.nilIface])/\Chg (fun _=>False) w w':=by
 have H:=hyd h
 have GN:Hid (Chg (fun _=>False) w (w.alloc (.cells (ints (fun _=>0) 67).toArray 40))):=(Chg.refl _ w).alloc _
 have HI:Hid (IB (w.alloc (.cells (ints (fun _=>0) 67).toArray 40)) w.heap.size 40 67 (fun _=>0)):=hyd (by
  show (w.heap.push _)[w.heap.size]?=_
  simp)
 have H1:=hyd (H.out.chg0 GN.out)
 obtain⟨c0,c1,-⟩:=H1.out.dv.cells
 have hv:=view_k A _ K H1.out.core
 clear h
 go_enter Tryz.func14,Tryz.ntmps14
 go_wp2_with (first | refine wpList_alloc_vw rfl rfl ?_)
 generalize w.alloc (.cells (ints (fun _=>0) 67).toArray 40)=w1 at *
 go_wp2_with fail
 refine hv.mono ?_
 rintro e w2 ⟨rfl,hK,hG⟩
 have HG:=hyd (GN.out.trans hG)
 have HI2:=hyd (IB.chg HI.out hG (fun f=>f))
 clear hv hK hG c0 c1
 have HS:=hyd GN.out.size
 go_wp2_with (refine wpList_store_vw rfl (.tmp 2) (.tmp 15) rfl _ rfl rfl HI2.out ?_)
 intro w3 K3 G3
 have HG3:=hyd (HG.out.trans' G3 (fun k hk e=>by omega))
 go_wp2
 refine bodyPost_ret (results_vw2 rfl _ rfl K3) rfl ?_
 exact⟨rfl,HG3.out⟩
end Go.Proofs.YtbhbilcieodbhaaGreat
/-
  What a device that isn't mounted tells. Condition: it lies in memory.
-/
namespace Go.Proofs.YtbhbilcieodbhaaGreat
set_option maxRecDepth 100000
open Go.RowKit
theorem z40:Tryz.zeroCells40=(ints (fun _=>0) 67).toArray:=by kernel_rfl
set_option maxHeartbeats 2000000 in
theorem dview_nm (D g:Nat) (w:World) (h:Dv w D g none):Calls Tryz.prog 14 #[.pointer (some ⟨D,0,none⟩)] w fun e w'=>e=.returned (.tuple #[.agg (ints (fun _=>0) 67).toArray,errV 15])/\Chg (fun _=>False) w w':=by
 have GN:Hid (Chg (fun _=>False) w (w.alloc (.cells (ints (fun _=>0) 67).toArray 40))):=(Chg.refl _ w).alloc _
 have HI:Hid (IB (w.alloc (.cells (ints (fun _=>0) 67).toArray 40)) w.heap.size 40 67 (fun _=>0)):=hyd (by
  show (w.heap.push _)[w.heap.size]?=_
  simp)
 obtain⟨c0,c1,-⟩:=(h.chg GN.out (fun f=>f)).cells
 clear h
 go_enter Tryz.func14,Tryz.ntmps14
 go_wp2_with (first | refine wpList_alloc_vw rfl rfl ?_)
 generalize w.alloc (.cells (ints (fun _=>0) 67).toArray 40)=w1 at *
 have hst:(storeCells ⟨w.heap.size,0,none⟩ Tryz.zeroCells40.toList).run Tryz.prog w1=.ok () (w1.setRow w.heap.size (ints (fun _=>0) 67).toArray):=by
  have h:=run_storeCells_at (P:=Tryz.prog) w.heap.size 0 40 Tryz.zeroCells40.toList 0 _ w1 HI.out (by rw[z40];simp[ints_length]) (by rw[z40];exact ints_one _ _)
  rw[h]
  refine congrArg (fun x=>Result.ok () (w1.setRow w.heap.size x)) ?_
  rw[z40]
  have l:(ints (fun _=>0) 67).length=67:=ints_length _ _
  show (List.take (0+0) (ints (fun _=>0) 67) ++ ints (fun _=>0) 67 ++ List.drop (0+0+(ints (fun _=>0) 67).length) (ints (fun _=>0) 67)).toArray=_
  rw[l,List.drop_of_length_le (by rw[l];decide)]
  simp
 have K3:IB (w1.setRow w.heap.size (ints (fun _=>0) 67).toArray) w.heap.size 40 67 (fun _=>0):=setRow_heap w1 w.heap.size _ _ 40 _ HI.out
 have HK3:=hyd K3
 have HG3:=hyd (GN.out.trans' (chg_row w1 w.heap.size (ints (fun _=>0) 67).toArray) (fun k hk e=>by omega))
 clear K3
 go_wp2
 refine bodyPost_ret (results_vw2 rfl _ rfl HK3.out) rfl ?_
 exact⟨rfl,HG3.out⟩
end Go.Proofs.YtbhbilcieodbhaaGreat
/-
  The document's examples on a mounted device: what the core goes through. No condition: lemmas.
-/
namespace Go.Proofs.YtbhbilcieodbhaaGreat
set_option maxRecDepth 100000
open Go.RowKit
theorem dup_path {K:Kor} {G:Gho} (hb:Bgn K G) (h:Lit 1 K G) {D:List Nat} (hD:D.length=174) (bD:Bys D) :
 ∃ K1 K2 K3 K4 K5 K6 K7 K8,anR 6 (fun _ _=>D) K 3=some (K1,0)/\tdK 6 13 K1=some (K2,0)/\geK K2 3=(K3,D.take 160,0)/\tdK 6 13 K3=some (K4,0)/\tmK 6 K4 3=some (K5,0)/\tdK 6 13 K5=some (K6,0)/\geK K6 3=(K7,List.replicate 160 0,0)/\tdK 6 13 K7=some (K8,0)/\K1.ca=0/\K3.ca=1/\K5.ca=0/\K7.ca=1:=by
 obtain⟨K1,T1,e1,h1,c1,l1,f1,F1,n1⟩:=h.put (o:=3) (by decide) hD bD (by rw[hb.fr];decide) (by rw[hb.nx];decide) (by rw[hb.L,upd_at];decide) (by decide) 5
 rw[hb.ca] at c1
 rw[hb.fr] at f1 l1
 rw[hb.nx] at n1
 obtain⟨K2,e2,h2,c2,l2,f2,F2,n2⟩:=h1.tend (by decide) (by omega) 6 12
 obtain⟨K3,e3,h3,v3⟩:=h2.get (by decide) (o:=3) (by decide)
 obtain⟨K4,e4,h4,c4,l4,f4,F4,n4⟩:=h3.tend (by decide) (by rw[v3.ca,c2,c1];decide) 6 12
 obtain⟨K5,G5,e5,h5,g5,c5,f5,F5,n5⟩:=h4.trim (o:=3) (by decide) (by rw[l4,v3.L,l2,l1,upd_at];decide) (by rw[f4,v3.fr,f2,f1];decide) (by rw[n4,v3.nx,n2,n1];decide) (by decide) 5
 obtain⟨K6,e6,h6,c6,l6,f6,F6,n6⟩:=h5.tend (by decide) (by omega) 6 12
 obtain⟨K7,e7,h7,v7⟩:=h6.get (by decide) (o:=3) (by decide)
 obtain⟨K8,e8,h8,c8,l8,f8,F8,n8⟩:=h7.tend (by decide) (by rw[v7.ca,c6,c5];decide) 6 12
 refine⟨K1,K2,K3,K4,K5,K6,K7,K8,e1,e2,?_,e4,e5,e6,?_,e8,c1,by rw[v3.ca,c2,c1],c5,by rw[v7.ca,c6,c5]⟩
 ·
  rw[e3]
  show (K3,(updN G.a 3 D 3).take 160,0)=_
  unfold updN
  rw[if_pos rfl]
 ·
  rw[e7,g5]
  unfold updN
  rw[if_pos rfl]
  rfl
end Go.Proofs.YtbhbilcieodbhaaGreat
/-
  A chip and a device on it, mounted. No condition.
-/
namespace Go.Proofs.YtbhbilcieodbhaaGreat
set_option maxRecDepth 100000
open Go.RowKit
theorem tl_ex:∃ tl:List Nat->Int->Pg,∀ L n,ToldR L n (tl L n):=Classical.axiomOfChoice fun L=>Classical.axiomOfChoice fun n=>told_ex L n
theorem eql_ptr25 (g:Nat) (w:World):(binOp .eql 25 (.pointer (some ⟨g,0,none⟩)) (.pointer none)).run Tryz.prog w=.ok (.bool false) w:=by kernel_rfl
theorem eql_e0 (w:World):(binOp .eql 33 .nilIface .nilIface).run Tryz.prog w=.ok (.bool true) w:=by kernel_rfl
set_option maxHeartbeats 2000000 in
theorem begin19 (w:World):Calls Tryz.prog 10 #[] w fun e w'=>∃ D A K G,e=.returned (.tuple #[.pointer (some ⟨A.g,0,none⟩),.pointer (some ⟨D,0,none⟩)])/\(∀ k,Cor A k->w.heap.size<=k)/\w.heap.size<=D/\Dmt w' D A K/\(Bgn K G/\Lit 1 K G)/\Chg (fun _=>False) w w':=by
 obtain⟨tl,htl⟩:=tl_ex
 have HTL:=hyd htl
 have qn:=neq_nil_nil
 have p1:=eql_ptr
 have p2:=eql_ptr25
 clear htl
 go_enter Tryz.func10,Tryz.ntmps10
 go_wp2_with fail
 refine(nnew_any w).mono ?_
 rintro e w1 ⟨rfl,hC1,G1⟩
 have HL1:=hyd hC1.lt
 have HC1:=hyd hC1
 have HG1:=hyd G1
 clear hC1 G1
 go_wp2_with fail
 refine(dnew_any w.heap.size w1).mono ?_
 rintro e w2 ⟨rfl,hD2,G2⟩
 have HC2:=hyd (HC1.out.chg G2 (fun f=>f))
 have HG2:=hyd (HG1.out.trans G2)
 have hmt:=dmount_blank w1.heap.size w.heap.size newS Blank.new tl HTL.out w2 HC2.out hD2 (by have:=HL1.out;omega)
 have HLD:=hyd hD2.lt
 clear hD2 G2
 go_wp2_with fail
 refine hmt.mono ?_
 rintro e w3 ⟨A,K,G,hF,rfl,hD3,hK,hB,-,G3⟩
 have HF:=hyd hF
 have eg:A.g=w.heap.size:=hF.1
 have HD3:=hyd hD3
 have HK:=hyd hK
 have HB:=hyd hB
 have HG3:=hyd (HG2.out.trans' G3 (fun k hk e=>by have:=HG1.out.size;omega))
 clear hmt hF hD3 hK hB G3
 go_wp2
 go_ret2
 have hs1:=HG1.out.size
 have hl1:=HL1.out
 have hld:=HLD.out
 have nlt:=HG2.out.size
 refine⟨w1.heap.size,A,K,G,by rw[eg];rfl,fun k e=>?_,hs1,⟨by rw[eg];exact HD3.out,HK.out,fun e=>?_⟩,HB.out,HG3.out⟩
 ·
  obtain⟨a,b,c,d,e',f,i,j,l,n⟩:=HF.out
  rcases e with e | e | e | e | e | e | e | e <;> omega
 ·
  obtain⟨a,b,c,d,e',f,i,j,l,n⟩:=HF.out
  rcases e with e | e | e | e | e | e | e | e <;> omega
theorem z7:(0:Nat)≠7:=by decide
theorem by174 (x:Int):(byL x ++ List.replicate 14 0).length=174:=by rw[List.length_append,byL_length,List.length_replicate]
theorem by174b (x:Int):Bys (byL x ++ List.replicate 14 0):=fun m hm=>by
 rcases List.mem_append.1 hm with h | h
 ·
  exact byL_bys x m h
 ·
  rw[(List.mem_replicate.1 h).2];decide
theorem by174t (x:Int):(byL x ++ List.replicate 14 0).take 160=byL x:=by
 rw[List.take_append_of_le_length (by rw[byL_length];exact Nat.le_refl _),List.take_of_length_le (by rw[byL_length];exact Nat.le_refl _)]
set_option maxHeartbeats 4000000 in
theorem up19 (w:World):Calls Tryz.prog 9 #[] w fun e w'=>e=.returned (.bool true)/\Chg (fun _=>False) w w':=by
 have p2:=eql_ptr25
 have q:=eql_e0
 go_enter Tryz.func9,Tryz.ntmps9
 go_wp2_with fail
 refine(begin19 w).mono ?_
 rintro e w1 ⟨D,A,K,G,rfl,hA,hD,hM,⟨hB,hL⟩,G1⟩
 obtain⟨K1,K2,K3,K4,K5,K6,K7,K8,u1,u2,u3,u4,u5,u6,u7,u8,c1,c3,c5,c7⟩:=dup_path hB hL (by174 9) (by174b 9)
 rw[by174t] at u3
 have HA:=hyd hA
 have HM1:=hyd hM
 have HG1:=hyd G1
 have U1:=hyd u1
 have U2:=hyd u2
 have U3:=hyd u3
 have U4:=hyd u4
 have U5:=hyd u5
 have U6:=hyd u6
 have U7:=hyd u7
 have U8:=hyd u8
 have C1:=hyd c1
 have C3:=hyd c3
 have C5:=hyd c5
 have C7:=hyd c7
 clear hA hD hM hB hL G1 u1 u2 u3 u4 u5 u6 u7 u8 c1 c3 c5 c7
 go_wp2_with fail
 refine(bytes17 9 w1).mono ?_
 rintro e w2 ⟨rfl,hA2,G2⟩
 have hwr:=dwrite_k D A K w2 (HM1.out.chg0 G2) 3 (by decide) w1.heap.size 0 160 (byL 9) (byL_length 9) (byL_bys 9) hA2.at_ (HM1.out.core.apart (Nat.le_refl _)) 6 (K1,0) U1.out z7 (by show K1.ca<_;rw[C1.out];decide) 6 13 (K2,0) U2.out z7
 rw[show errV 0=Value.nilIface from rfl] at hwr
 have HG2:=hyd (HG1.out.trans G2)
 clear hA2 G2 HM1 HG1
 go_wp2_with fail
 refine hwr.mono ?_
 rintro e w3 ⟨rfl,hM3,G3⟩
 have hrd:=dread_k D A K2 w3 hM3 3 (by decide) K3 (byL 9) U3.out (by show K3.ca<_;rw[C3.out];decide) 6 13 (K4,0) U4.out z7
 have HL3:Hid (∀ k,Cor A k->k<w3.heap.size):=fun k hk=>hM3.core.low k (Or.inl hk)
 have HG3:Hid (Chg (fun _=>False) w w3):=HG2.out.trans' G3 (fun k hk e=>by have:=HA.out k e;omega)
 clear hwr hM3 G3 HG2
 go_wp2_with fail
 refine hrd.mono ?_
 rintro e w4 ⟨v,rfl,hO,hM4,G4⟩
 obtain⟨gv,cv,rfl,hgv,hgs,hcv,hcl,-⟩:=hO.lies (by rw[byL_length];decide)
 have HT4:Hid (At w4 gv 0 (byL 9)):=⟨hgs,fun i hi=>by rw[Nat.zero_add];exact hcl i hi⟩
 have HN:Hid (¬ Cor A gv):=fun e=>by have:=HL3.out gv e;omega
 have htr:=dtrim_k D A K4 w4 hM4 3 (by decide) 6 (K5,0) U5.out z7 (by show K5.ca<_;rw[C5.out];decide) 6 13 (K6,0) U6.out z7
 rw[show errV 0=Value.nilIface from rfl] at htr
 have HG4:Hid (Chg (fun _=>False) w w4):=HG3.out.trans' G4 (fun k hk e=>by have:=HA.out k e;omega)
 rw[byL_length]
 clear hrd hO hM4 G4 HG3 HL3 hgv hgs hcv hcl
 go_wp2_with fail
 refine htr.mono ?_
 rintro e w5 ⟨rfl,hM5,G5⟩
 have hrd:=dread_k D A K6 w5 hM5 3 (by decide) K7 (List.replicate 160 0) U7.out (by show K7.ca<_;rw[C7.out];decide) 6 13 (K8,0) U8.out z7
 have HT5:=hyd (HT4.out.chg G5 HN.out)
 have HG5:Hid (Chg (fun _=>False) w w5):=HG4.out.trans' G5 (fun k hk e=>by have:=HA.out k e;omega)
 clear htr hM5 G5 HG4 HT4
 go_wp2_with fail
 refine hrd.mono ?_
 rintro e w6 ⟨v,rfl,hO,hM6,G6⟩
 obtain⟨gu,cu,rfl,hgv,hgs,hcv,hcl,-⟩:=hO.lies (by rw[List.length_replicate];decide)
 have HU6:Hid (At w6 gu 0 (byL 0)):=⟨hgs,fun i hi=>by rw[Nat.zero_add];exact hcl i hi⟩
 have HT6:=hyd (HT5.out.chg G6 HN.out)
 have HG6:Hid (Chg (fun _=>False) w w6):=HG5.out.trans' G6 (fun k hk e=>by have:=HA.out k e;omega)
 rw[List.length_replicate]
 clear hrd hO hM6 G6 HG5 HT5 hgv hgs hcv hcl
 go_wp2_with fail
 refine(bytes17 9 w6).mono ?_
 rintro e w7 ⟨rfl,hA7,G7⟩
 have hsm:=same17 w7 gv 0 160 cv w6.heap.size 0 160 160 (byL 9) (byL 9) (byL_length 9).symm (byL_length 9).symm (byL_bys 9) (byL_bys 9) (HT6.out.chg G7 (fun f=>f)) hA7.at_
 rw[decide_eq_true rfl] at hsm
 have HU7:=hyd (HU6.out.chg G7 (fun f=>f))
 have HG7:=hyd (HG6.out.trans G7)
 clear hA7 G7 HT6 HU6 HG6
 go_wp2_with fail
 refine hsm.mono ?_
 rintro e w8 ⟨rfl,rfl⟩
 go_wp2_with fail
 refine(bytes17 0 w8).mono ?_
 rintro e w9 ⟨rfl,hA9,G9⟩
 have hsm:=same17 w9 gu 0 160 cu w8.heap.size 0 160 160 (byL 0) (byL 0) (byL_length 0).symm (byL_length 0).symm (byL_bys 0) (byL_bys 0) (HU7.out.chg G9 (fun f=>f)) hA9.at_
 rw[decide_eq_true rfl] at hsm
 have HG9:=hyd (HG7.out.trans G9)
 clear hA9 G9 HU7 HG7
 go_wp2_with fail
 refine hsm.mono ?_
 rintro e wz ⟨rfl,rfl⟩
 go_wp2
 go_ret
 exact⟨rfl,HG9.out⟩
end Go.Proofs.YtbhbilcieodbhaaGreat
/-
  Views compared and kept; operations by what they give. Condition: none.
-/
namespace Go.Proofs.YtbhbilcieodbhaaGreat
set_option maxRecDepth 100000
open Go.RowKit
theorem wpList_exec {ops:Array Oper} {rest:List Oper} {o:Oper} {a:Act} {w:World} {Q:Exit->Act->World->Prop} (hw:Region.wanted o (yielded ops a.tmps)=true) (v:Value) (h:(execOp a.eval o).run Tryz.prog w=.ok (.value v) w) (next:wpList Tryz.prog ops Q rest (a.put o.dst v) w):wpList Tryz.prog ops Q (o :: rest) a w:=
 wpList_step fun _ hK=>by
  rw[if_pos hw]
  unfold Oper.wp
  rw[h]
  exact hK _ _ next
theorem exec_load_vw {o:Oper} {a:Act} {w:World} {x:Operand} {g:Nat} {F:Nat->Int} (ho:o.op=.load 40 x) (hx:a.eval x=.pointer (some ⟨g,0,none⟩)) (hg:IB w g 40 67 F):(execOp a.eval o).run Tryz.prog w=.ok (.value (.agg (ints F 67).toArray)) w:=by
 unfold execOp
 simp only[ho,hx,Instr.loadAt,Instr.sureAddr,Sem.run_bind,Sem.run_pure,Result.andThen_ok,run_loadVar_row w g 40 40 _ _ _ hg Tryz.underlying40 rfl (sz39 F)]
theorem plain3w:Tryz.prog.plainKey 3=true:=by kernel_rfl
theorem cells3w:Tryz.prog.cellsOf 3=1:=by kernel_rfl
theorem info3w:∃ i,Tryz.prog.info? 3=some i:=Option.isSome_iff_exists.1 (by kernel_rfl)
theorem items_intw (d:Nat) (A:Array Value) (w:World) (is:List Nat) (hin:∀ i ∈ is,∃ z,A[i]?=some (.int .i64 z)) :
 (Op.eqItems (d+1) 3 1 A A is).run Tryz.prog w=.ok true w:=by
 induction is with
 | nil=>simp[Op.eqItems]
 | cons i is ih=>
  have ih:=ih (fun j hj=>hin j (by simp[hj]))
  obtain⟨z,hz⟩:=hin i (by simp)
  have p1:=run_part_plain (P:=Tryz.prog) w plain3w (xs:=A) (off:=i*1) (by rw[Nat.mul_one];exact hz)
  have p3:=run_equalIn_int (P:=Tryz.prog) w d 3 .i64 .i64 z z Tryz.underlying3
  simp only[Op.eqItems,Sem.run_bind,p1,p3,Result.andThen_ok,beq_self_eq_true]
  simpa using ih
theorem eq_ints37w (d:Nat) (w:World) (f:Nat->Int):(Op.equalIn (d+2) 38 (.agg (ints f 25).toArray) (.agg (ints f 25).toArray)).run Tryz.prog w=.ok true w:=by
 obtain⟨i,hi⟩:=info3w
 rw[run_equalIn_array w (d+1) _ _ Tryz.underlying38 hi,cells3w]
 refine items_intw d _ w _ (fun i hi=>⟨f i,?_⟩)
 have:=ints_at f 25 i (List.mem_range.1 hi)
 simpa[i6] using this
theorem plain2w:Tryz.prog.plainKey 2=true:=by kernel_rfl
theorem eq_ints36w (d:Nat) (w:World) (f:Nat->Int):(Op.equalIn (d+2) 37 (.agg (ints f 12).toArray) (.agg (ints f 12).toArray)).run Tryz.prog w=.ok true w:=by
 obtain⟨i,hi⟩:=info3w
 rw[run_equalIn_array w (d+1) _ _ Tryz.underlying37 hi,cells3w]
 refine items_intw d _ w _ (fun i hi=>⟨f i,?_⟩)
 have:=ints_at f 12 i (List.mem_range.1 hi)
 simpa[i6] using this
theorem fields39:(Tryz.prog.fieldsOf 40).toList.map (fun f=>(f.type,f.offset))=[(37,0),(38,12),(2,37),(3,38),(3,39),(37,40),(37,52),(3,64),(3,65),(3,66)]:=by kernel_rfl
theorem ext39 (F:Nat->Int):(ints F 67).toArray.extract 0 (0+12)=(ints F 12).toArray/\(ints F 67).toArray.extract 12 (12+25)=(ints (fun i=>F (12+i)) 25).toArray/\(ints F 67).toArray.extract 40 (40+12)=(ints (fun i=>F (40+i)) 12).toArray/\(ints F 67).toArray.extract 52 (52+12)=(ints (fun i=>F (52+i)) 12).toArray:=⟨by kernel_rfl,by kernel_rfl,by kernel_rfl,by kernel_rfl⟩
theorem eq_fieldsw (d:Nat) (A:Array Value) (w:World) (fs:List Field) (h:∀ f ∈ fs,∃ v,(Go.part f.type A f.offset).run Tryz.prog w=.ok v w/\(Op.equalIn d f.type v v).run Tryz.prog w=.ok true w) :
 (Op.eqFields d A A fs).run Tryz.prog w=.ok true w:=by
 induction fs with
 | nil=>simp[Op.eqFields]
 | cons f fs ih=>
  have ih:=ih (fun g hg=>h g (by simp[hg]))
  obtain⟨v,h1,h2⟩:=h f (by simp)
  simp only[Op.eqFields]
  split
  ·
   simp only[Sem.run_bind,h1,h2,Result.andThen_ok]
   simpa using ih
  ·
   exact ih
theorem isAgw (t:TypeId) (w:World) (b:Bool) (h:(isAgg t).run Tryz.prog w=.ok b w) (A:Array Value) (off n:Nat) (hn:(sizeOf t).run Tryz.prog w=.ok n w) (hb:b=true):(Go.part t A off).run Tryz.prog w=.ok (.agg (A.extract off (off+n))) w:=by
 subst hb
 simp[Go.part,h,hn]
theorem isAgg36w (w:World):(isAgg 37).run Tryz.prog w=.ok true w:=by kernel_rfl
theorem isAgg37w (w:World):(isAgg 38).run Tryz.prog w=.ok true w:=by kernel_rfl
theorem siz36w (w:World):(sizeOf 37).run Tryz.prog w=.ok 12 w:=by kernel_rfl
theorem siz37w (w:World):(sizeOf 38).run Tryz.prog w=.ok 25 w:=by kernel_rfl
theorem vw_at (F:Nat->Int) (i:Nat) (h:i<67):(ints F 67).toArray[i]?=some (.int .i64 (F i)):=by
 have:=ints_at F 67 i h
 simpa[i6] using this
theorem eq_vw (d:Nat) (w:World) (F:Nat->Int):(Op.equalIn (d+3) 40 (.agg (ints F 67).toArray) (.agg (ints F 67).toArray)).run Tryz.prog w=.ok true w:=by
 rw[run_equalIn_struct w (d+2) 40 _ _ (by kernel_rfl) (by kernel_rfl)]
 apply eq_fieldsw
 intro f hf
 have hm:(f.type,f.offset) ∈ [(37,0),(38,12),(2,37),(3,38),(3,39),(37,40),(37,52),(3,64),(3,65),(3,66)]:=by
  rw[<-fields39];exact List.mem_map.2 ⟨f,hf,rfl⟩
 have one:∀ i,i<67->∃ v,(Go.part 3 (ints F 67).toArray i).run Tryz.prog w=.ok v w/\(Op.equalIn (d+2) 3 v v).run Tryz.prog w=.ok true w:=fun i hi=>
  ⟨_,run_part_plain (P:=Tryz.prog) w plain3w (xs:=(ints F 67).toArray) (off:=i) (vw_at F i hi),by
   have:=run_equalIn_int (P:=Tryz.prog) w (d+1) 3 .i64 .i64 (F i) (F i) Tryz.underlying3
   rw[beq_self_eq_true] at this;exact this⟩
 simp only[List.mem_cons,List.not_mem_nil,or_false,Prod.mk.injEq] at hm
 rcases hm with ⟨h1,h2⟩ | ⟨h1,h2⟩ | ⟨h1,h2⟩ | ⟨h1,h2⟩ | ⟨h1,h2⟩ | ⟨h1,h2⟩ | ⟨h1,h2⟩ | ⟨h1,h2⟩ | ⟨h1,h2⟩ | ⟨h1,h2⟩ <;> rw[h1,h2]
 ·
  refine⟨_,isAgw 37 w _ (isAgg36w w) _ _ _ (siz36w w) rfl,?_⟩
  rw[(ext39 F).1];exact eq_ints36w d w _
 ·
  refine⟨_,isAgw 38 w _ (isAgg37w w) _ _ _ (siz37w w) rfl,?_⟩
  rw[(ext39 F).2.1];exact eq_ints37w d w _
 ·
  exact⟨_,run_part_plain (P:=Tryz.prog) w plain2w (xs:=(ints F 67).toArray) (off:=37) (vw_at F 37 (by decide)),by
   have:=run_equalIn_int (P:=Tryz.prog) w (d+1) 2 .i64 .i64 (F 37) (F 37) Tryz.underlying2
   rw[beq_self_eq_true] at this;exact this⟩
 ·
  exact one 38 (by decide)
 ·
  exact one 39 (by decide)
 ·
  refine⟨_,isAgw 37 w _ (isAgg36w w) _ _ _ (siz36w w) rfl,?_⟩
  rw[(ext39 F).2.2.1];exact eq_ints36w d w _
 ·
  refine⟨_,isAgw 37 w _ (isAgg36w w) _ _ _ (siz36w w) rfl,?_⟩
  rw[(ext39 F).2.2.2];exact eq_ints36w d w _
 ·
  exact one 64 (by decide)
 ·
  exact one 65 (by decide)
 ·
  exact one 66 (by decide)
theorem eql_vw (w:World) (F:Nat->Int):(binOp .eql 40 (.agg (ints F 67).toArray) (.agg (ints F 67).toArray)).run Tryz.prog w=.ok (.bool true) w:=by
 rw[run_eql_struct,show (10000:Nat)=9997+3 from rfl,eq_vw];rfl
theorem guard_vw (w:World) (op:BinOp) (x y:Operand) (xs ys:Array Value):(eqGuard op 40 x y (.agg xs) (.agg ys)).run Tryz.prog w=.ok () w:=run_eqGuard_agg w op 40 x y xs ys (by kernel_rfl)
theorem neq_vw (w:World) (F:Nat->Int):(binOp .neq 40 (.agg (ints F 67).toArray) (.agg (ints F 67).toArray)).run Tryz.prog w=.ok (.bool false) w:=by
 rw[run_neq_struct,show (10000:Nat)=9997+3 from rfl,eq_vw];rfl
theorem exec_eql_vw {o:Oper} {a:Act} {w:World} {x y:Operand} {t:TypeId} {F:Nat->Int} (ho:o.op=.binOp .eql 40 x y t) (hx:a.eval x=.agg (ints F 67).toArray) (hy:a.eval y=.agg (ints F 67).toArray):(execOp a.eval o).run Tryz.prog w=.ok (.value (.bool true)) w:=by
 unfold execOp
 simp only[ho,hx,hy,Sem.run_bind,guard_vw,eql_vw,Result.andThen_ok,Sem.run_pure]
theorem exec_neq_vw {o:Oper} {a:Act} {w:World} {x y:Operand} {t:TypeId} {F:Nat->Int} (ho:o.op=.binOp .neq 40 x y t) (hx:a.eval x=.agg (ints F 67).toArray) (hy:a.eval y=.agg (ints F 67).toArray):(execOp a.eval o).run Tryz.prog w=.ok (.value (.bool false)) w:=by
 unfold execOp
 simp only[ho,hx,hy,Sem.run_bind,guard_vw,neq_vw,Result.andThen_ok,Sem.run_pure]
theorem build40z (w:World):(Instr.build 40 #[]).run Tryz.prog w=.ok (.agg (ints (fun _=>0) 67).toArray) w:=by kernel_rfl
end Go.Proofs.YtbhbilcieodbhaaGreat
/-
  DevRefuses: what may not be is refused by its name, ahead of the chip. Condition: the bytes that are handed in lie in memory.
-/
namespace Go.Proofs.YtbhbilcieodbhaaGreat
set_option maxRecDepth 100000
open Go.RowKit
theorem neq_c1 (w:World):(binOp .neq 33 (.iface 56 (.int .i64 1)) (.iface 56 (.int .i64 1))).run Tryz.prog w=.ok (.bool false) w:=by kernel_rfl
theorem neq_c12 (w:World):(binOp .neq 33 (.iface 56 (.int .i64 12)) (.iface 56 (.int .i64 12))).run Tryz.prog w=.ok (.bool false) w:=by kernel_rfl
theorem neq_c15 (w:World):(binOp .neq 33 (.iface 56 (.int .i64 15)) (.iface 56 (.int .i64 15))).run Tryz.prog w=.ok (.bool false) w:=by kernel_rfl
theorem eql_c1 (w:World):(binOp .eql 33 (.iface 56 (.int .i64 1)) (.iface 56 (.int .i64 1))).run Tryz.prog w=.ok (.bool true) w:=by kernel_rfl
def Whn (b:Bool) (P:Prop):Prop:=b=true<->P
def IsS (w:World) (a:Option Addr) (n:Nat):Prop:=n=160->∃ d off L,a=some ⟨d,off,none⟩/\L.length=160/\Bys L/\At w d off L
def IsRow (k:IntKind) (w:World) (a:Option Addr) (len cap:Nat) (zs:List Int):Prop:=
 (a=none/\len=0/\cap=0/\zs=[]) \/
 ∃ x,a=some x/\len<=cap/\cap<=maxLen/\zs.length=cap/\(∀ i,i<zs.length->w.cell? (x.add i)=some (.int k (zs.getD i 0)))/\∀ n ∈ zs,(Lit.int k n).wf=true
theorem cell_lt {w:World} {a:Addr} {v:Value} (h:w.cell? a=some v):a.block<w.heap.size:=by
 by_cases hb:a.block<w.heap.size
 ·
  exact hb
 ·
  rw[World.cell?,Array.getElem?_eq_none (by omega)] at h;cases h
theorem isb_of_row {w:World} {a:Option Addr} {len cap:Nat} {zs:List Int} (h:IsRow .u8 w a len cap zs):IsS w a len:=by
 intro h0
 rcases h with ⟨rfl,rfl,rfl,rfl⟩ | ⟨x,rfl,hl,hm,hz,hcell,hwz⟩
 ·
  cases h0
 ·
  obtain⟨c,o,spot⟩:=x
  have hspot:spot=none:=by simpa[Addr.add] using World.cell?_spot (hcell 0 (by omega))
  subst hspot
  have hlt:c<w.heap.size:=by simpa[Addr.add] using cell_lt (hcell 0 (by omega))
  have hlen:((zs.take len).map Int.toNat).length=160:=by rw[List.length_map,List.length_take];omega
  refine⟨c,o,(zs.take len).map Int.toNat,rfl,hlen,fun n hn=>?_,hlt,fun i hi=>?_⟩
  ·
   obtain⟨z,hz1,rfl⟩:=List.mem_map.1 hn
   have:=bounds_u8 (hwz z (List.mem_of_mem_take hz1))
   omega
  ·
   have hi':i<len:=by omega
   have h1:w.cell? ⟨c,o+i,none⟩=some (.int .u8 (zs.getD i 0)):=by
    have hh:=hcell i (by omega)
    simp only[Addr.add] at hh
    by_cases i0:i=0
    ·
     subst i0;simpa using hh
    ·
     simpa[i0] using hh
   rw[h1]
   have hb1:=bounds_u8 (hwz (zs.getD i 0) (by rw[List.getD_eq_getElem?_getD,List.getElem?_eq_getElem (by omega)];exact List.getElem_mem _))
   have e:((zs.take len).map Int.toNat).getD i 0=(zs.getD i 0).toNat:=by
    rw[List.getD_eq_getElem?_getD,List.getElem?_map,List.getElem?_take_of_lt hi',List.getD_eq_getElem?_getD,List.getElem?_eq_getElem (by omega)];rfl
   rw[e]
   congr 2
   omega
theorem chg_below {S:Nat->Prop} {w w':World} (h:Chg S w w') {B:Nat} (hS:∀ k,S k->B<=k) (hB:B<=w.heap.size):Below B w w':=
 ⟨h.os,h.tape,h.output,h.size,fun k hk=>h.block k (by omega) (fun f=>by have:=hS k f;omega)⟩
theorem one_path {K:Kor} {G:Gho} (hb:Bgn K G) (h:Lit 1 K G) {o:Nat} (ho:o<24) {L:List Nat} (hL:L.length=160) (bL:Bys L) :
 ∃ K1 K2 K3 K4,anR 6 (fun _ _=>L ++ List.replicate 14 0) K o=some (K1,0)/\tdK 6 13 K1=some (K2,0)/\geK K2 o=(K3,L,0)/\tdK 6 13 K3=some (K4,0)/\K1.ca=0/\K3.ca=1:=by
 have hD:(L ++ List.replicate 14 0).length=174:=by rw[List.length_append,hL,List.length_replicate]
 have bD:Bys (L ++ List.replicate 14 0):=fun m hm=>by
  rcases List.mem_append.1 hm with h | h
  ·
   exact bL m h
  ·
   rw[(List.mem_replicate.1 h).2];decide
 obtain⟨K1,T1,e1,h1,c1,l1,f1,F1,n1⟩:=h.put ho hD bD ((rm_is _ (by omega)).2 (by rw[hb.fr];exact⟨rfl,by decide,Or.inr (by decide)⟩)) (by rw[hb.nx];decide) (by rw[hb.L,upd_at];decide) (by decide) 5
 rw[hb.ca] at c1
 obtain⟨K2,e2,h2,c2,l2,f2,F2,n2⟩:=h1.tend (by decide) (by omega) 6 12
 obtain⟨K3,e3,h3,v3⟩:=h2.get (by decide) ho
 obtain⟨K4,e4,h4,c4,l4,f4,F4,n4⟩:=h3.tend (by decide) (by rw[v3.ca,c2,c1];decide) 6 12
 refine⟨K1,K2,K3,K4,e1,e2,?_,e4,c1,by rw[v3.ca,c2,c1]⟩
 rw[e3]
 show (K3,(updN G.a o (L ++ List.replicate 14 0) o).take 160,0)=_
 unfold updN
 rw[if_pos rfl,List.take_append_of_le_length (by rw[hL];exact Nat.le_refl _),List.take_of_length_le (by rw[hL];exact Nat.le_refl _)]
set_option maxHeartbeats 8000000 in
theorem refuses_walk (of:Int) (a:Option Addr) (n cap:Nat) (w:World) (hb:IsS w a n) :
 Calls Tryz.prog 5 #[.int .i64 of,.slice a n cap] w fun e w'=>e=.returned (.bool true)/\Below w.heap.size w w':=by
 obtain⟨tl,htl⟩:=tl_ex
 have HTL:=hyd htl
 have HB:=hyd hb
 have p1:=eql_ptr
 have p2:=eql_ptr25
 have q:=eql_e0
 have qn:=neq_nil_nil
 have q1:=neq_c1
 have q12:=neq_c12
 have q15:=neq_c15
 have q2:=eql_c1
 clear hb htl
 go_enter Tryz.func5,Tryz.ntmps5
 go_wp2_with fail
 refine(up19 w).mono ?_
 rintro e w1 ⟨rfl,G1⟩
 have HG1:=hyd G1
 clear G1
 go_wp2_with fail
 refine(nnew_any w1).mono ?_
 rintro e w2 ⟨rfl,hC2,G2⟩
 have HC2:=hyd hC2
 have HL2:=hyd hC2.lt
 have HG2:=hyd (HG1.out.trans G2)
 have HS1:=hyd HG1.out.size
 clear hC2 G2 HG1
 go_wp2_with fail
 refine(dnew_nil w2).mono ?_
 rintro e w2 ⟨rfl,rfl⟩
 rw[show errV 1=Value.iface 56 (.int .i64 1) from rfl]
 go_wp2_with fail
 refine(dnew_any w1.heap.size w2).mono ?_
 rintro e w3 ⟨rfl,hD3,G3⟩
 have HD3:=hyd hD3
 have HC3:=hyd (HC2.out.chg G3 (fun f=>f))
 have HG3:=hyd (HG2.out.trans G3)
 have HS2:=hyd HG2.out.size
 obtain⟨g,hg⟩:∃ g,w1.heap.size=g:=⟨_,rfl⟩
 obtain⟨D,hD⟩:∃ D,w2.heap.size=D:=⟨_,rfl⟩
 rw[hg] at HC3 HD3 HL2 HS1
 rw[hD] at HD3 HL2 HS2
 rw[hg,hD]
 clear hD3 G3 HC2 HG2 hg hD
 go_wp2_with fail
 refine(dread_nm D g of w3 HD3.out).mono ?_
 rintro e w3 ⟨rfl,rfl⟩
 rw[show errV 15=Value.iface 56 (.int .i64 15) from rfl]
 go_wp2_with fail
 refine(dwrite_nm D g of a n cap w3 HD3.out).mono ?_
 rintro e w3 ⟨rfl,rfl⟩
 rw[show errV 15=Value.iface 56 (.int .i64 15) from rfl]
 go_wp2_with fail
 refine(dtrim_nm D g of w3 HD3.out).mono ?_
 rintro e w3 ⟨rfl,rfl⟩
 rw[show errV 15=Value.iface 56 (.int .i64 15) from rfl]
 go_wp2_with fail
 refine(dview_nm D g w3 HD3.out).mono ?_
 rintro e w4 ⟨rfl,G4⟩
 rw[show errV 15=Value.iface 56 (.int .i64 15) from rfl]
 have HI4:=hyd (IB.new w4 40 67 (fun _=>0))
 have HD4:=hyd (HD3.out.chg G4 (fun f=>f))
 have HC4:=hyd (HC3.out.chg G4 (fun f=>f))
 have HG4:=hyd (HG3.out.trans G4)
 clear G4 HD3 HC3 HG3
 go_wp2_with (first | refine wpList_alloc_vw rfl rfl ?_ | refine wpList_store_vw rfl (.tmp 15) (.tmp 73) rfl w4.heap.size rfl rfl HI4.out ?_)
 intro w5 I5 G5
 have G45:Chg (fun _=>False) w4 w5:=((Chg.refl (fun _=>False) w4).alloc _).trans' G5 (fun k hk h=>by omega)
 have HD5:=hyd (HD4.out.chg G45 (fun f=>f))
 have HC5:=hyd (HC4.out.chg G45 (fun f=>f))
 have HG5:=hyd (HG4.out.trans G45)
 have HV5:=hyd I5
 clear G45 G5 I5 HI4 HD4 HC4 HG4
 obtain⟨nv,hnv⟩:∃ n,w4.heap.size=n:=⟨_,rfl⟩
 rw[hnv] at HV5
 rw[hnv]
 clear hnv
 go_wp2_with fail
 refine(steps_any g newS w5 HC5.out).mono ?_
 rintro e w5 ⟨rfl,rfl⟩
 rw[show newS.steps=0 from rfl]
 have b40:=build40z
 go_wp2_with (first | refine wpList_exec rfl _ (exec_load_vw rfl rfl HV5.out) ?_ | refine wpList_exec rfl _ (exec_neq_vw rfl rfl rfl) ?_)
 have hmt:=dmount_blank D g newS Blank.new tl HTL.out w5 HC5.out HD5.out (by have:=HL2.out;omega)
 refine hmt.mono ?_
 rintro e w6 ⟨A,K,G,hF,rfl,hD6,hK6,hB6,-,G6⟩
 have HA:Hid (∀ k,Cor A k->w.heap.size<=k):=fun k e=>by
  obtain⟨a0,b0,c0,d0,e',f0,i0,j0,l0,n0⟩:=hF
  have h1:=HG5.out.size
  have h2:=HS1.out
  rcases e with e | e | e | e | e | e | e | e <;> omega
 have HM6:Hid (Dmt w6 D A K):=⟨by rw[hF.1];exact hD6,hK6,fun e=>by
  obtain⟨a0,b0,c0,d0,e',f0,i0,j0,l0,n0⟩:=hF
  have h1:=HD5.out.lt
  have h2:=HL2.out
  rcases e with e | e | e | e | e | e | e | e <;> omega⟩
 have eg:A.g=g:=hF.1
 have HG6:Hid (Chg (fun _=>False) w w6):=HG5.out.trans' G6 (fun k hk e=>by
  have h1:=HS1.out
  have h2:=HS2.out
  rcases e with e | e <;> omega)
 have HB6:=hyd hB6
 clear hmt hF hD6 hK6 hB6 G6 HD5 HC5 HG5 HV5 HL2
 subst eg
 go_wp2_with fail
 refine(dmount_again D A.g A.c w6 HM6.out.dv).mono ?_
 rintro e w6 ⟨rfl,rfl⟩
 rw[show errV 12=Value.iface 56 (.int .i64 12) from rfl]
 go_wp2_with fail
 refine(dview_k D A K w6 HM6.out).mono ?_
 rintro e w7 ⟨rfl,G7⟩
 have HI7:=hyd (IB.new w7 40 67 (fun _=>0))
 have HM7:=hyd (HM6.out.chg0 G7)
 have HG7:=hyd (HG6.out.trans G7)
 clear G7 HM6 HG6
 go_wp2_with (first | refine wpList_alloc_vw rfl rfl ?_ | refine wpList_store_vw rfl (.tmp 20) (.tmp 116) rfl w7.heap.size rfl rfl HI7.out ?_)
 intro w8 I8 G8
 have G78:Chg (fun _=>False) w7 w8:=((Chg.refl (fun _=>False) w7).alloc _).trans' G8 (fun k hk h=>by omega)
 have HM8:=hyd (HM7.out.chg0 G78)
 have HG8:=hyd (HG7.out.trans G78)
 have HV8:=hyd I8
 have HNV:Hid (¬ Cor A w7.heap.size):=HM7.out.core.apart (Nat.le_refl _)
 obtain⟨nv,hnv⟩:∃ n,w7.heap.size=n:=⟨_,rfl⟩
 rw[hnv] at HV8 HNV
 rw[hnv]
 clear G78 G8 I8 HI7 HM7 HG7 hnv
 go_wp2_with fail
 refine(steps_any A.g K.s w8 HM8.out.core.chip).mono ?_
 rintro e w8 ⟨rfl,rfl⟩
 go_upto_region 22 with fail
 go_cut [22] from 131 to 136 (fun s22 wx=>(∃ b:Bool,s22=.bool b/\Hid (Whn b (of<0\/24<=of)))/\w8=wx)
 case first=>
  by_cases h1:of<0
  ·
   go_wp2_with fail
   go_meet
   case rel=>exact⟨⟨true,rfl,iff_of_true rfl (Or.inl h1)⟩,rfl⟩
  ·
   by_cases h2:of ≥ 24
   ·
    go_wp2_with fail
    go_meet
    case rel=>exact⟨⟨true,rfl,iff_of_true rfl (Or.inr h2)⟩,rfl⟩
   ·
    have H3:Hid (Whn false (of<0\/24<=of)):=iff_of_false (by decide) (by omega)
    go_wp2_with fail
    go_meet
    case rel=>exact⟨⟨false,rfl,H3⟩,rfl⟩
 case rest=>
 obtain⟨⟨b1,rfl,HB1⟩,rfl⟩:=hcut
 go_upto_if 137 with fail
 go_cut [11,12,14] from 137 to 159 (fun _ _ _ wx=>wx=w8)
 case first=>
  cases b1
  ·
   go_wp2_with fail
   go_meet
   case rel=>exact rfl
  ·
   have H1:=hyd (HB1.out.1 rfl)
   go_wp2_with (first | (go_at_call 16;refine(dread_arg D A.g A.c of _ HM8.out.dv H1.out).mono ?_;rintro e w8 ⟨rfl,rfl⟩;rw[show errV 1=Value.iface 56 (.int .i64 1) from rfl]) | (go_at_call 22;refine(dtrim_arg D A.g A.c of _ HM8.out.dv H1.out).mono ?_;rintro e w8 ⟨rfl,rfl⟩;rw[show errV 1=Value.iface 56 (.int .i64 1) from rfl]))
   go_meet
   case rel=>exact rfl
 case rest=>
 obtain rfl:=hcut
 go_upto_region 28 with fail
 go_cut [165] from 160 to 164 (fun s165 wx=>(∃ b:Bool,s165=.bool b/\Hid (Whn b ((of<0\/24<=of)\/n≠160)))/\wc=wx)
 case first=>
  cases b1
  ·
   have hno:¬ (of<0\/24<=of):=fun e=>absurd (HB1.out.2 e) (by decide)
   by_cases h3:n=160
   ·
    have h3b:((n:Int) != 160)=false:=by simp;omega
    have H3:Hid (Whn false ((of<0\/24<=of)\/n≠160)):=iff_of_false (by decide) (by omega)
    clear h3 hno
    go_wp2_with fail
    go_meet
    case rel=>exact⟨⟨false,rfl,H3⟩,rfl⟩
   ·
    have h3b:((n:Int) != 160)=true:=by simp;omega
    have H3:Hid (Whn true ((of<0\/24<=of)\/n≠160)):=iff_of_true rfl (Or.inr h3)
    clear h3 hno
    go_wp2_with fail
    go_meet
    case rel=>exact⟨⟨true,rfl,H3⟩,rfl⟩
  ·
   have H3:Hid (Whn true ((of<0\/24<=of)\/n≠160)):=iff_of_true rfl (Or.inl (HB1.out.1 rfl))
   go_wp2_with fail
   go_meet
   case rel=>exact⟨⟨true,rfl,H3⟩,rfl⟩
 case rest=>
 obtain⟨⟨b2,rfl,HB2⟩,rfl⟩:=hcut
 go_upto_if 165 with fail
 cases b2
 ·
  have HO:Hid ((0<=of/\of<24)/\n=160):=by
   have:=HB2.out
   unfold Whn at this
   simp at this
   show _/\_
   omega
  obtain⟨d,off,L,rfl,hL,bL,hd⟩:=HB.out HO.out.2
  obtain⟨o,rfl⟩:∃ o:Nat,of=o:=⟨of.toNat,by have:=HO.out;omega⟩
  have ho:o<24:=by have:=HO.out;omega
  have hn:n=160:=HO.out.2
  subst hn
  obtain⟨K1,K2,K3,K4,u1,u2,u3,u4,c1,c3⟩:=one_path HB6.out.1 HB6.out.2 ho hL bL
  have hdlt:=hd.1
  have ND:Hid (¬ Cor A d):=fun e=>by have:=HA.out d e;omega
  have hwr:=dwrite_k D A K wc HM8.out o ho d off cap L hL bL (hd.chg HG8.out (fun f=>f)) ND.out 6 (K1,0) u1 z7 (by show K1.ca<_;rw[c1];decide) 6 13 (K2,0) u2 z7
  rw[show errV 0=Value.nilIface from rfl] at hwr
  have HD0:=hyd hd
  have HLL:=hyd hL
  have HBL:=hyd bL
  have U3:=hyd u3
  have U4:=hyd u4
  have C3:=hyd c3
  have HO2:=hyd ho
  clear u1 u2 u3 u4 c1 c3 hL bL hd hdlt ho
  go_wp2_with fail
  refine hwr.mono ?_
  rintro e w9 ⟨rfl,hM9,G9⟩
  have hrd:=dread_k D A K2 w9 hM9 o HO2.out K3 L U3.out (by show K3.ca<_;rw[C3.out];decide) 6 13 (K4,0) U4.out z7
  have HT9:=hyd ((HD0.out.chg HG8.out (fun f=>f)).chg G9 ND.out)
  have HG9:Hid (Chg (fun _=>False) w w9):=HG8.out.trans' G9 (fun k hk e=>by have:=HA.out k e;omega)
  clear hwr hM9 G9
  go_wp2_with fail
  refine hrd.mono ?_
  rintro e w10 ⟨v,rfl,hO,hM10,G10⟩
  obtain⟨gv,cv,rfl,hgv,hgs,hcv,hcl,-⟩:=hO.lies (by rw[HLL.out];decide)
  have hsm:=same17 w10 gv 0 160 cv d off 160 cap L L HLL.out.symm HLL.out.symm HBL.out HBL.out ⟨hgs,fun i hi=>by rw[Nat.zero_add];exact hcl i hi⟩ (HT9.out.chg G10 ND.out)
  rw[decide_eq_true rfl] at hsm
  have HG10:Hid (Chg (fun _=>False) w w10):=HG9.out.trans' G10 (fun k hk e=>by have:=HA.out k e;omega)
  rw[HLL.out]
  clear hrd hO hM10 G10 hgv hgs hcv hcl
  go_wp2_with fail
  refine hsm.mono ?_
  rintro e w11 ⟨rfl,rfl⟩
  go_wp2
  go_ret
  exact⟨rfl,chg_below HG10.out (fun k f=>f.elim) (Nat.le_refl _)⟩
 ·
  have H2:=hyd (HB2.out.1 rfl)
  go_wp2_with fail
  refine(dwrite_arg D A.g A.c of a n cap wc HM8.out.dv H2.out).mono ?_
  rintro e w8 ⟨rfl,rfl⟩
  rw[show errV 1=Value.iface 56 (.int .i64 1) from rfl]
  go_wp2_with fail
  refine(dview_k D A K w8 HM8.out).mono ?_
  rintro e w9 ⟨rfl,G9⟩
  have HI9:=hyd (IB.new w9 40 67 (fun _=>0))
  have HM9:=hyd (HM8.out.chg0 G9)
  have HG9:=hyd (HG8.out.trans G9)
  have HV9:=hyd (HV8.out.chg G9 (fun f=>f))
  clear G9 HM8 HG8 HV8
  go_wp2_with (first | refine wpList_alloc_vw rfl rfl ?_ | refine wpList_store_vw rfl (.tmp 23) (.tmp 173) rfl w9.heap.size rfl rfl HI9.out ?_)
  intro w10 I10 G10
  have G910:Chg (fun _=>False) w9 w10:=((Chg.refl (fun _=>False) w9).alloc _).trans' G10 (fun k hk h=>by omega)
  have HM10:=hyd (HM9.out.chg0 G910)
  have HG10:=hyd (HG9.out.trans G910)
  have HV10:=hyd (HV9.out.chg G910 (fun f=>f))
  have HW10:=hyd I10
  clear G910 G10 I10 HI9 HM9 HG9 HV9
  go_wp2_with (first | refine wpList_exec rfl _ (exec_load_vw rfl rfl HW10.out) ?_ | refine wpList_exec rfl _ (exec_load_vw rfl rfl HV10.out) ?_ | refine wpList_exec rfl _ (exec_eql_vw rfl rfl rfl) ?_)
  refine(steps_any A.g K.s w10 HM10.out.core.chip).mono ?_
  rintro e w10 ⟨rfl,rfl⟩
  go_wp2
  go_ret
  exact⟨rfl,chg_below HG10.out (fun k f=>f.elim) (Nat.le_refl _)⟩
end Go.Proofs.YtbhbilcieodbhaaGreat
