/-
  The document's media: what a page is read as. Conditions: the page's 256 bytes lie in memory.
-/
import Derived.Test.YtifjmilegogbaaaGreatMHead
import Derived.Test.YtifjmilegogbaaaGreatURefLay
import Derived.Test.YtifjmilegogbaaaGreatURefTag
namespace Go.Proofs.YtifjmilegogbaaaGreat
open Go.RowKit
set_option maxRecDepth 100000

set_option maxHeartbeats 1000000 in
theorem rbody_c (w : World) (c o cap : Nat) (L : List Nat) (hL : L.length = 256) (bL : Bys L) (hcs : c < w.heap.size) (hcap : 256 ≤ cap) (hcell : ∀ i, i < 256 → w.cell? ⟨c, o + i, none⟩ = some (.int .u8 (L.getD i 0 : Nat))) :
    Calls Tryz.prog 93 #[.slice (some ⟨c, o, none⟩) 256 cap] w fun e w' => ∃ (B : List Nat) (bd bc : Nat) (a : Option Addr) (cp : Nat), e = .returned (.tuple #[.slice a B.length cp, .int .i64 (bd : Int), .int .i64 (bc : Int)]) ∧ BodR L B bd bc ∧ Held w' (.slice a B.length cp) B ∧ (bc = 0 → 50 ≤ cp) ∧ Chg (fun _ => False) w w' := by
  have HM := hyd (rmsg_any w c o cap L hL bL hcs hcap hcell 3 (by omega))
  clear hcell
  go_enter Tryz.func93, Tryz.ntmps93
  go_wp2_with fail
  refine HM.out.mono ?_
  rintro e w1 ⟨hD, G1⟩
  clear HM
  rcases hD with ⟨hN, rfl⟩ | ⟨r, g, cr, hg, rfl, h5, h6⟩
  · go_wp2
    go_ret3
    exact ⟨[], 0, 5, none, 0, rfl, Or.inr (Or.inl ⟨hL, hN, rfl, rfl, rfl⟩), held_nil _, (fun h => by cases h), G1⟩
  · have hrl := hg.2.1
    obtain ⟨hgs, hh⟩ := held_cells h6 (by omega)
    have HK := hyd (rmarked_any w1 g 0 cr r.1 hrl hgs hh)
    have hcr : 50 ≤ cr := by omega
    have htl : (r.1.take 50).length = 50 := by rw [List.length_take, hrl]; rfl
    have HT := hyd (show Held w1 (.slice (some ⟨g, 0, none⟩) 50 cr) (r.1.take 50) from ⟨_, cr, by rw [htl], Or.inr ⟨g, 0, rfl, hgs, fun i hi => by rw [List.length_take] at hi; rw [hh i (by omega), getD_take _ _ _ (by omega)]⟩⟩)
    have HTL := hyd htl
    clear hh htl
    by_cases hm : r.1.drop 50 = mk
    · go_wp2_with fail
      refine HK.out.mono ?_
      rintro e w2 ⟨rfl, G2⟩
      rw [decide_eq_true hm]
      go_wp2
      go_ret3
      exact ⟨r.1.take 50, r.2, 0, _, cr, by rw [HTL.out]; rfl, Or.inr (Or.inr ⟨hL, r, hg, Or.inr ⟨hm, rfl, rfl, rfl⟩⟩), by rw [HTL.out]; exact HT.out.chgF G2, fun _ => hcr, G1.trans G2⟩
    · go_wp2_with fail
      refine HK.out.mono ?_
      rintro e w2 ⟨rfl, G2⟩
      rw [decide_eq_false hm]
      go_wp2
      go_ret3
      exact ⟨[], 0, 6, none, 0, rfl, Or.inr (Or.inr ⟨hL, r, hg, Or.inl ⟨hm, rfl, rfl, rfl⟩⟩), held_nil _, (fun h => by cases h), G1.trans G2⟩
theorem Held.sl {w : World} {a : Option Addr} {n cap : Nat} {l : List Nat} (h : Held w (.slice a n cap) l) : n = l.length := by
  obtain ⟨a', c', hv, _⟩ := h
  injection hv
theorem Pb.drew {w : World} {k : Nat} {t : Bool} {p o s c : Int} {l sd : Bool} {v : Value} {d : Int} (h : Pb w k t p o s c l sd v d) : Pb w.drew k t p o s c l sd v d := h
theorem pb_no_byte {w : World} {k : Nat} {t : Bool} {p o s c : Int} {l sd : Bool} {v : Value} {d : Int} (h : Pb w k t p o s c l sd v d) {i x : Nat} (hv : ∀ z, v ≠ .int .u8 z) (hx : w.cell? ⟨k, i, none⟩ = some (.int .u8 (x : Nat))) : False := by
  have h' : w.heap[k]? = some _ := h
  obtain ⟨h0, h1, h2, h3, h4, h5, h6, h7, h8⟩ := h.cells
  by_cases hi : i < 9
  · rcases (by omega : i = 0 ∨ i = 1 ∨ i = 2 ∨ i = 3 ∨ i = 4 ∨ i = 5 ∨ i = 6 ∨ i = 7 ∨ i = 8) with rfl | rfl | rfl | rfl | rfl | rfl | rfl | rfl | rfl
    · rw [h0] at hx; cases hx
    · rw [h1] at hx; cases hx
    · rw [h2] at hx; cases hx
    · rw [h3] at hx; cases hx
    · rw [h4] at hx; cases hx
    · rw [h5] at hx; cases hx
    · rw [h6] at hx; cases hx
    · rw [h7] at hx; exact hv _ (Option.some.inj hx)
    · rw [h8] at hx; cases hx
  · simp only [World.cell?, h'] at hx
    rw [Array.getElem?_eq_none (by simp; omega)] at hx
    cases hx
set_option maxHeartbeats 8000000 in
theorem rtold_any (w : World) (c o cap : Nat) (L : List Nat) (hL : L.length = 256) (bL : Bys L) (hcs : c < w.heap.size) (hcap : 256 ≤ cap) (hh : Held w (.slice (some ⟨c, o, none⟩) 256 cap) L) (n : Int) :
    Calls Tryz.prog 64 #[.slice (some ⟨c, o, none⟩) 256 cap, .int .i64 n] w fun e w' => ∃ X v, e = .returned (pgV X v) ∧ ToldR L n X ∧ (v.oneCell' = true ∧ Held w' v X.data) ∧ Chg (fun _ => False) w w' := by
  have q0 := Pb.new w false 0 0 0 0 false false (.slice none 0 0) 0
  have g0 : Chg (fun _ => False) w (w.alloc (.cells #[.bool false, .int .i64 0, .int .i64 0, .int .i64 0, .int .i64 0, .bool false, .bool false, .slice none 0 0, .int .i64 0] 65)) := (Chg.refl _ w).alloc _
  have hs0 : (w.alloc (.cells #[.bool false, .int .i64 0, .int .i64 0, .int .i64 0, .int .i64 0, .bool false, .bool false, .slice none 0 0, .int .i64 0] 65)).heap.size = w.heap.size + 1 := by simp
  have q1 := Pb.new (w.alloc (.cells #[.bool false, .int .i64 0, .int .i64 0, .int .i64 0, .int .i64 0, .bool false, .bool false, .slice none 0 0, .int .i64 0] 65)) false 0 0 0 0 false false (.slice none 0 0) 0
  have g1 := g0.alloc (.cells #[.bool false, .int .i64 0, .int .i64 0, .int .i64 0, .int .i64 0, .bool false, .bool false, .slice none 0 0, .int .i64 0] 65)
  have q0' := q0.alloc (.cells #[.bool false, .int .i64 0, .int .i64 0, .int .i64 0, .int .i64 0, .bool false, .bool false, .slice none 0 0, .int .i64 0] 65)
  rw [hs0] at q1
  have HH := hyd hh
  have HL := hyd hL
  have HP0 := hyd q0'
  have HP1 := hyd q1
  have HG1 := hyd g1
  clear hh hL q0 q1 g0 g1 q0' hs0
  go_enter Tryz.func64, Tryz.ntmps64
  go_wp2_with fail
  generalize (w.alloc (.cells #[.bool false, .int .i64 0, .int .i64 0, .int .i64 0, .int .i64 0, .bool false, .bool false, .slice none 0 0, .int .i64 0] 65)).alloc (.cells #[.bool false, .int .i64 0, .int .i64 0, .int .i64 0, .int .i64 0, .bool false, .bool false, .slice none 0 0, .int .i64 0] 65) = w1 at *
  go_loopw [6] (fun t6 wr => ∃ (k : Nat) (R : Nat → List Nat) (d e : Nat → Nat), k ≤ 4 ∧ t6 = .int .i64 k ∧ (∀ j, j < k → MsgR L (j : Nat) (R j) (d j) (e j)) ∧ Pb wr (w.heap.size + 1) false 0 0 0 0 false false (.slice none 0 0) (dmgs d e k : Nat) ∧ Pb wr w.heap.size false 0 0 0 0 false false (.slice none 0 0) 0 ∧ Chg (fun _ => False) w wr) (fun t6 _ => 4 - (intOf t6).toNat)
  case atStart => exact ⟨0, fun _ => [], fun _ => 0, fun _ => 0, by omega, rfl, fun j hj => absurd hj (by omega), HP1.out, HP0.out, HG1.out⟩
  case round =>
    clear HP0 HP1 HG1
    obtain ⟨k, R, d, e, hk, rfl, hR, hP1, hP0, hG⟩ := hrel
    by_cases hlt : k < 4
    · have hlt' : (k : Int) < 4 := by omega
      have hcall := rmsg_v wr (some ⟨c, o, none⟩) 256 cap L HL.out.symm bL hcap (HH.out.chgF hG) (k : Nat)
      have HR := hyd hR
      have HP1 := hyd hP1
      have HP0 := hyd hP0
      have HG := hyd hG
      clear hR hP1 hP0 hG
      go_wp2_with fail
      refine hcall.mono ?_
      rintro x w2 ⟨⟨a, n2, cp, R2, d2, e2, rfl, -, hm, -⟩, G2⟩
      clear hcall
      have P1 := HP1.out.chg G2 (fun f => f)
      have HP02 := hyd (HP0.out.chg G2 (fun f => f))
      have HG2 := hyd (HG.out.trans G2)
      have hcode := hm.code
      have hR2 : ∀ j, j < k + 1 → MsgR L (j : Nat) (if j = k then R2 else R j) (if j = k then d2 else d j) (if j = k then e2 else e j) := by
        intro j hj
        by_cases ej : j = k
        · subst ej
          rw [if_pos rfl, if_pos rfl, if_pos rfl]
          exact hm
        · rw [if_neg ej, if_neg ej, if_neg ej]
          exact HR.out j (by omega)
      have hd0 : dmgs (fun j => if j = k then d2 else d j) (fun j => if j = k then e2 else e j) k = dmgs d e k := dmgs_congr k (fun j hj => ⟨by rw [if_neg (by omega)], by rw [if_neg (by omega)]⟩)
      have hd1 : dmgs (fun j => if j = k then d2 else d j) (fun j => if j = k then e2 else e j) (k + 1) = if e2 = 0 then max (dmgs d e k) d2 else dmgs d e k := by
        show (if (if k = k then e2 else e k) = 0 then max (dmgs _ _ k) (if k = k then d2 else d k) else dmgs _ _ k) = _
        rw [hd0, if_pos rfl, if_pos rfl]
      have HR2 := hyd hR2
      have HD1 := hyd hd1
      obtain ⟨-, -, -, -, -, -, -, -, k8⟩ := P1.cells
      have f8 := P1.frozen 8
      have HP1' := hyd P1
      by_cases he : e2 = 0
      · subst he
        rw [if_pos rfl] at HD1
        by_cases hgt : dmgs d e k < d2
        · have hgt' : ((dmgs d e k : Nat) : Int) < ((d2 : Nat) : Int) := by omega
          have HP3 := hyd (P1.set8 ((d2 : Nat) : Int))
          have G3 : Chg (· = w.heap.size + 1) w2 (w2.setCell ⟨w.heap.size + 1, 8, none⟩ (.int .i64 ((d2 : Nat) : Int))) := (Chg.refl (· = w.heap.size + 1) w2).at _ 8 _
          have HP03 := hyd (HP02.out.chg G3 (by omega))
          have HG3 := hyd (HG2.out.trans' G3 (fun i hi e => by omega))
          have hmx : max (dmgs d e k) d2 = d2 := by omega
          have HMX := hyd hmx
          clear hd1 hd0 hR2 hm G2 hcode P1 HP02 HG2 G3 HP1 HP0 HG hgt hmx HP1'
          go_wp2
          exact ⟨⟨k + 1, _, _, _, by omega, by go_num, HR2.out, by rw [HD1.out, HMX.out]; exact HP3.out, HP03.out, HG3.out⟩, by simp [intOf]; omega⟩
        · have hgt' : ¬ ((dmgs d e k : Nat) : Int) < ((d2 : Nat) : Int) := by omega
          have hmx : max (dmgs d e k) d2 = dmgs d e k := by omega
          have HMX := hyd hmx
          clear hd1 hd0 hR2 hm G2 hcode P1 HP1 HP0 HG hgt hmx
          go_wp2
          exact ⟨⟨k + 1, _, _, _, by omega, by go_num, HR2.out, by rw [HD1.out, HMX.out]; exact HP1'.out, HP02.out, HG2.out⟩, by simp [intOf]; omega⟩
      · rw [if_neg he] at HD1
        have he' : (((e2 : Nat) : Int) == 0) = false := by simp [he]
        clear hd1 hd0 hR2 hm G2 hcode P1 HP1 HP0 HG he
        go_wp2
        exact ⟨⟨k + 1, _, _, _, by omega, by go_num, HR2.out, by rw [HD1.out]; exact HP1'.out, HP02.out, HG2.out⟩, by simp [intOf]; omega⟩
    · obtain rfl : k = 4 := by omega
      obtain ⟨dd, hdd⟩ : ∃ dd, dmgs d e 4 = dd := ⟨_, rfl⟩
      rw [hdd] at hP1
      have HDm := hyd (show DmgR L dd from ⟨R, d, e, hR, hdd.symm⟩)
      have hsz := hG.size
      have hHr := HH.out.chgF hG
      obtain ⟨c1, o1, e1, -, hcc⟩ := hHr.at_ (by rw [HL.out]; omega)
      injection e1 with e1
      injection e1 with e1 e2
      subst e1 e2
      have hcall := rbody_c wr c o cap L HL.out bL (by omega) hcap (fun i hi => hcc i (by rw [HL.out]; exact hi))
      have HP1 := hyd hP1
      have HP0 := hyd hP0
      have HG := hyd hG
      clear hR hP1 hP0 hG hdd hHr hcc
      go_wp2_with fail
      refine hcall.mono ?_
      rintro x w2 ⟨B, bd, bc, ba, bp, rfl, hB, hHB, hcp, G2⟩
      clear hcall
      have HP12 := hyd (HP1.out.chg G2 (fun f => f))
      have HP02 := hyd (HP0.out.chg G2 (fun f => f))
      have HG2 := hyd (HG.out.trans G2)
      clear HP1 HP0 HG G2
      by_cases hbc : bc = 0
      · subst hbc
        obtain ⟨hBl, bB⟩ := hB.good
        obtain ⟨cB, oB, rfl, hcB, hccB⟩ := hHB.at_ (by omega)
        rw [hBl]
        have htag := rtag_any w2 cB oB bp B bB hBl (hcp rfl) ⟨hcB, hccB⟩
        have HB := hyd hB
        have hs2 := HG2.out.size
        clear hB hHB hccB hcp
        go_wp2_with fail
        refine htag.mono ?_
        rintro x w3 ⟨hans, G3⟩
        clear htag
        have HP13 := hyd (HP12.out.chg G3 (fun f => f))
        have HP03 := hyd (HP02.out.chg G3 (fun f => f))
        have HG3 := hyd (HG2.out.trans G3)
        have hs3 := G3.size
        have hl3 := HP13.out.lt
        clear HP12 HP02 HG2 G3
        rcases hans with ⟨his, rfl⟩ | ⟨hni, rfl⟩
        · have V4 := Tg.new w3 (fld B 0 2 : Nat) (fld B 2 1 : Nat) (fld B 3 5 : Nat) (fld B 8 1 : Nat) (lst B)
          have G4 : Chg (fun _ => False) w3 (w3.alloc (.cells #[.int .i64 (fld B 0 2 : Nat), .int .i64 (fld B 2 1 : Nat), .int .i64 (fld B 3 5 : Nat), .int .i64 (fld B 8 1 : Nat), .bool (lst B)] 28)) := (Chg.refl _ w3).alloc _
          have P14 := HP13.out.chg G4 (fun f => f)
          have HP04 := hyd (HP03.out.chg G4 (fun f => f))
          have HG4 := hyd (HG3.out.trans G4)
          obtain ⟨v0, v1, v2, v3, v4⟩ := V4.cells
          have HP14 := hyd P14
          have HV4 := hyd V4
          clear V4 G4
          by_cases hp : ((fld B 0 2 : Nat) : Int) = n
          · have hp' : (((fld B 0 2 : Nat) : Int) != n) = false := by simp [hp]
            obtain ⟨k0, -⟩ := P14.cells
            have f0 := P14.frozen 0
            have hT : TagAt B 0 n := ⟨rfl, his, hp⟩
            have G5 : Chg (· = w.heap.size + 1) w3 (w3.setCell ⟨w.heap.size + 1, 0, none⟩ (.bool true)) := (Chg.refl (· = w.heap.size + 1) _).at _ 0 _
            have G6 : Chg (fun _ => False) (w3.setCell ⟨w.heap.size + 1, 0, none⟩ (.bool true)) ((w3.setCell ⟨w.heap.size + 1, 0, none⟩ (.bool true)).alloc (.cells #[.int .i64 (fld B 0 2 : Nat), .int .i64 (fld B 2 1 : Nat), .int .i64 (fld B 3 5 : Nat), .int .i64 (fld B 8 1 : Nat), .bool (lst B)] 28)) := (Chg.refl _ _).alloc _
            have HP15 := hyd ((HP13.out.set0 true).chg G6 (fun f => f))
            have HP05 := hyd ((HP03.out.chg G5 (by omega)).chg G6 (fun f => f))
            have HG5 := hyd ((HG3.out.trans' G5 (fun i hi e => by omega)).trans G6)
            have hV5 := Tg.new (w3.setCell ⟨w.heap.size + 1, 0, none⟩ (.bool true)) (fld B 0 2 : Nat) (fld B 2 1 : Nat) (fld B 3 5 : Nat) (fld B 8 1 : Nat) (lst B)
            rw [size_set] at hV5
            obtain ⟨u0, u1, u2, u3, u4⟩ := hV5.cells
            have HV5 := hyd hV5
            have HTA := hyd hT
            clear P14 hp hT G5 G6 HP14 HP04 HG4 HV4 hV5 HP13 HP03 HG3
            go_wp2_with (first | (refine wpList_load_tag rfl (.tmp 13) rfl w3.heap.size rfl HV5.out ?_) | (refine wpList_store_pgt rfl (.tmp 63) (.tmp 62) rfl (w.heap.size + 1) rfl rfl HP15.out ?_))
            intro w6 P6 G6
            have HP06 := hyd (HP05.out.chg G6 (by omega))
            have hG6 := HG5.out.trans' G6 (fun i hi e => by omega)
            have HP16 := hyd P6
            have HG6 := hyd hG6
            have hcall := rdata_v w6 (some ⟨c, o, none⟩) 256 cap L HL.out.symm bL hcap (HH.out.chgF hG6)
            clear P6 G6 hG6 HP05 HP15 HG5 k0 f0 v0 v1 v2 v3 v4 u0 u1 u2 u3 u4 HV5
            go_wp2_with fail
            refine hcall.mono ?_
            rintro x w7 ⟨⟨da, dn, dp, D, dd2, dc, rfl, rfl, hDat, hHD⟩, G7⟩
            clear hcall
            have P17 := HP16.out.chg G7 (fun f => f)
            have HP07 := hyd (HP06.out.chg G7 (fun f => f))
            have HG7 := hyd (HG6.out.trans G7)
            have HHD := hyd hHD
            have HP17 := hyd P17
            clear HP16 HP06 HG6 G7 hHD
            by_cases hdc : dc = 0
            · subst hdc
              obtain ⟨-, -, -, -, -, -, k6, k7, -⟩ := P17.cells
              have f6 := P17.frozen 6
              have f7 := P17.frozen 7
              have HP18 := hyd ((P17.set6 true).set7 (.slice da D.length dp))
              have G8 : Chg (· = w.heap.size + 1) w7 ((w7.setCell ⟨w.heap.size + 1, 6, none⟩ (.bool true)).setCell ⟨w.heap.size + 1, 7, none⟩ (.slice da D.length dp)) := ((Chg.refl (· = w.heap.size + 1) w7).at _ 6 _).at _ 7 _
              have HP08 := hyd (HP07.out.chg G8 (by omega))
              have HG8 := hyd (HG7.out.trans' G8 (fun i hi e => by omega))
              have hdl := hDat.good
              have hnb : ∀ k, (Value.slice da D.length dp).ownBlock = some k → k ≠ w.heap.size + 1 ∧ k ≠ w.heap.size := by
                intro k hk
                obtain ⟨g9, o9, e9, -, hc9⟩ := HHD.out.at_ (by omega)
                subst e9
                have e10 : g9 = k := Option.some.inj hk
                subst e10
                have hx := hc9 0 (by omega)
                refine ⟨fun e => ?_, fun e => ?_⟩
                · rw [e] at hx
                  exact pb_no_byte P17 (fun z h => by cases h) hx
                · rw [e] at hx
                  exact pb_no_byte HP07.out (fun z h => by cases h) hx
              have HHD8 := hyd (HHD.out.chg G8 (fun k _ hk e => (hnb k hk).1 e))
              have HNB := hyd hnb
              clear P17 G8 HP17 HP07 HG7 HHD hdl hnb
              go_wp2_with (first | (refine wpList_load_pg rfl (.tmp 5) rfl (w.heap.size + 1) rfl HP18.out ?_) | (refine wpList_store_pg rfl (.tmp 4) (.tmp 76) rfl w.heap.size rfl rfl rfl HP08.out ?_))
              intro w9 P9 G9
              have HP9 := hyd P9
              have HG9 := hyd (HG8.out.trans' G9 (fun i hi e => by omega))
              have HHD9 := hyd (HHD8.out.chg G9 (fun k _ hk e => (HNB.out k hk).2 e))
              clear P9 G9 HP18 HP08 HG8 HHD8 k6 k7 f6 f7
              go_wp2
              refine bodyPost_ret (results_pg rfl _ rfl HP9.out) rfl ?_
              exact ⟨⟨true, fld B 0 2, fld B 2 1, fld B 3 5, fld B 8 1, lst B, true, D, dd⟩, _, rfl, ⟨HDm.out, B, bd, 0, HB.out, Or.inr ⟨HTA.out, rfl, rfl, rfl, rfl, rfl, rfl, D, dd2, 0, hDat, Or.inr ⟨rfl, rfl, rfl⟩⟩⟩, ⟨rfl, HHD9.out⟩, HG9.out⟩
            · have hdc' : (((dc : Nat) : Int) != 0) = true := by simp [hdc]
              clear P17 HHD
              go_wp2_with (first | (refine wpList_load_pg rfl (.tmp 5) rfl (w.heap.size + 1) rfl HP17.out ?_) | (refine wpList_store_pg rfl (.tmp 4) (.tmp 72) rfl w.heap.size rfl rfl rfl HP07.out ?_))
              intro w9 P9 G9
              have HP9 := hyd P9
              have HG9 := hyd (HG7.out.trans' G9 (fun i hi e => by omega))
              clear P9 G9
              go_wp2
              refine bodyPost_ret (results_pg rfl _ rfl HP9.out) rfl ?_
              exact ⟨⟨true, fld B 0 2, fld B 2 1, fld B 3 5, fld B 8 1, lst B, false, [], dd⟩, _, rfl, ⟨HDm.out, B, bd, 0, HB.out, Or.inr ⟨HTA.out, rfl, rfl, rfl, rfl, rfl, rfl, D, dd2, dc, hDat, Or.inl ⟨hdc, rfl, rfl⟩⟩⟩, ⟨rfl, held_nil _⟩, HG9.out⟩
          · have hp' : (((fld B 0 2 : Nat) : Int) != n) = true := by simp [hp]
            have HNO := hyd (show ¬ TagAt B 0 n from fun h => hp h.2.2)
            clear P14 hp HV4
            go_wp2_with (first | (refine wpList_load_pg rfl (.tmp 5) rfl (w.heap.size + 1) rfl HP14.out ?_) | (refine wpList_store_pg rfl (.tmp 4) (.tmp 60) rfl w.heap.size rfl rfl rfl HP04.out ?_))
            intro w9 P9 G9
            have HP9 := hyd P9
            have HG9 := hyd (HG4.out.trans' G9 (fun i hi e => by omega))
            clear P9 G9 v0 v1 v2 v3 v4
            go_wp2
            refine bodyPost_ret (results_pg rfl _ rfl HP9.out) rfl ?_
            exact ⟨⟨false, 0, 0, 0, 0, false, false, [], dd⟩, _, rfl, ⟨HDm.out, B, bd, 0, HB.out, Or.inl ⟨HNO.out, rfl, rfl, rfl, rfl, rfl, rfl, rfl, rfl⟩⟩, ⟨rfl, held_nil _⟩, HG9.out⟩
        · have G4 : Chg (fun _ => False) w3 (w3.alloc (.cells #[.int .i64 0, .int .i64 0, .int .i64 0, .int .i64 0, .bool false] 28)) := (Chg.refl _ w3).alloc _
          have HP14 := hyd (HP13.out.chg G4 (fun f => f))
          have HP04 := hyd (HP03.out.chg G4 (fun f => f))
          have HG4 := hyd (HG3.out.trans G4)
          have HNO := hyd (show ¬ TagAt B 0 n from fun h => hni h.2.1)
          clear G4 HP13 HP03 HG3
          go_wp2_with (first | (refine wpList_load_pg rfl (.tmp 5) rfl (w.heap.size + 1) rfl HP14.out ?_) | (refine wpList_store_pg rfl (.tmp 4) (.tmp 60) rfl w.heap.size rfl rfl rfl HP04.out ?_))
          intro w9 P9 G9
          have HP9 := hyd P9
          have HG9 := hyd (HG4.out.trans' G9 (fun i hi e => by omega))
          clear P9 G9
          go_wp2
          refine bodyPost_ret (results_pg rfl _ rfl HP9.out) rfl ?_
          exact ⟨⟨false, 0, 0, 0, 0, false, false, [], dd⟩, _, rfl, ⟨HDm.out, B, bd, 0, HB.out, Or.inl ⟨HNO.out, rfl, rfl, rfl, rfl, rfl, rfl, rfl, rfl⟩⟩, ⟨rfl, held_nil _⟩, HG9.out⟩
      · have hbc' : (((bc : Nat) : Int) != 0) = true := by simp [hbc]
        go_wp2_with (first | (refine wpList_load_pg rfl (.tmp 5) rfl (w.heap.size + 1) rfl HP12.out ?_) | (refine wpList_store_pg rfl (.tmp 4) (.tmp 46) rfl w.heap.size rfl rfl rfl HP02.out ?_))
        intro w3 P3 G3
        have HP3 := hyd P3
        have HG3 := hyd (HG2.out.trans' G3 (fun i hi e => by omega))
        clear P3 G3
        go_wp2
        refine bodyPost_ret (results_pg rfl _ rfl HP3.out) rfl ?_
        exact ⟨⟨false, 0, 0, 0, 0, false, false, [], dd⟩, _, rfl, ⟨HDm.out, B, bd, bc, hB, Or.inl ⟨fun ht => hbc ht.1, rfl, rfl, rfl, rfl, rfl, rfl, rfl, rfl⟩⟩, ⟨rfl, held_nil _⟩, HG3.out⟩
end Go.Proofs.YtifjmilegogbaaaGreat
