/-
  media's tagOf, page and Read: what a page is read as. Conditions: the media and its chip stand whole.
-/
import Derived.Test.YtifjmilegogbaaaGreatMPage
namespace Go.Proofs.YtifjmilegogbaaaGreat
open Go.RowKit
set_option maxRecDepth 100000

theorem BodR.good {L B : List Nat} {d : Nat} (h : BodR L B d 0) : B.length = 50 ∧ Bys B := by
  rcases h with ⟨_, _, _, e⟩ | ⟨_, _, _, _, e⟩ | ⟨_, r, hg, ⟨_, _, _, e⟩ | ⟨_, rfl, _, _⟩⟩
  · cases e
  · cases e
  · cases e
  · exact ⟨by rw [List.length_take, hg.2.1]; decide, fun n hn => hg.2.2.1 n (List.mem_of_mem_take hn)⟩
theorem DatR.good {L B : List Nat} {d : Nat} (h : DatR L B d 0) : B.length = 174 ∧ Bys B := by
  rcases h with ⟨_, _, _, e⟩ | ⟨_, _, _, _, e⟩ | ⟨_, r0, r1, r2, h0, h1, h2, rfl, _, _⟩
  · cases e
  · cases e
  · refine ⟨by rw [List.length_append, List.length_append, h0.2.1, h1.2.1, h2.2.1], fun n hn => ?_⟩
    rcases List.mem_append.1 hn with hn | hn
    · rcases List.mem_append.1 hn with hn | hn
      · exact h0.2.2.1 n hn
      · exact h1.2.2.1 n hn
    · exact h2.2.2.1 n hn
theorem IsB.length {B : List Nat} (h : IsB B) : B.length = 50 := by rw [← h.2]; exact body_length _ _ _ _ _
theorem tagV_zero : Value.agg #[.int .i64 0, .int .i64 0, .int .i64 0, .int .i64 0, .bool false] = .agg #[.int .i64 ((0 : Nat) : Int), .int .i64 ((0 : Nat) : Int), .int .i64 ((0 : Nat) : Int), .int .i64 ((0 : Nat) : Int), .bool false] := rfl
/-- What tagOf answers. -/
def TgAns (L : List Nat) (a : Int) (e : Ending) : Prop :=
  ∃ (B : List Nat) (bd bc : Nat), BodR L B bd bc ∧
    ((¬ TagAt B bc a ∧ e = .returned (.tuple #[.agg #[.int .i64 0, .int .i64 0, .int .i64 0, .int .i64 0, .bool false], .bool false])) ∨
     (TagAt B bc a ∧ e = .returned (.tuple #[.agg #[.int .i64 (fld B 0 2 : Nat), .int .i64 (fld B 2 1 : Nat), .int .i64 (fld B 3 5 : Nat), .int .i64 (fld B 8 1 : Nat), .bool (lst B)], .bool true])))

set_option maxHeartbeats 8000000 in
theorem mtag_any (m g p q b : Nat) (r : Int) (w : World) (h : Med w m g p q b r) (a : Int) (c o cap : Nat) (L : List Nat) (hL : L.length = 256) (bL : Bys L) (hcb : c ≠ b) (hcs : c < w.heap.size) (hcap : 256 ≤ cap) (hh : Held w (.slice (some ⟨c, o, none⟩) 256 cap) L) :
    Calls Tryz.prog 80 #[.pointer (some ⟨m, 0, none⟩), .int .i64 a, .slice (some ⟨c, o, none⟩) 256 cap] w fun e w' => TgAns L a e ∧ Med w' m g p q b r ∧ But b w w' := by
  have hb := build23
  have HT := hyd (Tg.new w 0 0 0 0 false)
  have G0 : Chg (fun _ => False) w (w.alloc (.cells #[.int .i64 0, .int .i64 0, .int .i64 0, .int .i64 0, .bool false] 28)) := (Chg.refl _ w).alloc _
  have M0 := h.chg G0
  have H0 := hh.chgF G0
  have hs0 := G0.size
  obtain ⟨hms, hps, hqs, hbs⟩ := h.lts
  have hcall := body_v p q b _ M0.2 c o 256 cap L hL.symm bL hcb (by omega) hcap H0
  obtain ⟨c0, c1, c2⟩ := M0.cells
  have HM := hyd M0
  have HG := hyd G0
  have q1 := neq_nil_nil
  have q2 := tneq_arg_nil
  have q3 : ∀ w : World, (binOp .neq 32 (.iface 58 (.int .i64 3)) .nilIface).run Tryz.prog w = .ok (.bool true) w := fun w => by kernel_rfl
  clear G0 M0 H0 hL hh h hs0
  go_enter Tryz.func80, Tryz.ntmps80
  go_wp2_with fail
  refine hcall.mono ?_
  rintro x w1 ⟨⟨ad, n, cp, B, bd, bc, rfl, hn, hB, hO⟩, hF1, hB1⟩
  clear hcall
  have hcode := hB.code.1
  have HM1 := hyd (HM.out.but hF1 hB1)
  have HB1 := hyd (show But b w w1 from HG.out.but.trans hB1)
  have HT1 := hyd (HT.out.chg hB1.chg (fun e => by omega))
  clear c0 c1 c2 HM HT HG hF1 hB1
  by_cases hbc : bc = 0
  · subst hbc
    obtain ⟨hlB, bB⟩ := hB.good
    have hd := tdecode_any w1 ad n cp B bB hn (by obtain ⟨g', cap', hv, -, -, hle, -⟩ := hO.lies (by omega); injection hv; omega) hO.held
    rw [errV_zero]
    have HBd := hyd hB
    have HlB := hyd hlB
    clear hcode hB hlB hO hn
    go_wp2_with fail
    refine hd.mono ?_
    rintro x w2 ⟨v, y, rfl, hans, G2⟩
    clear hd
    have HM2 := hyd (HM1.out.chg G2)
    have HB2 := hyd (HB1.out.trans G2.but)
    have HT2 := hyd (HT1.out.chg G2 (fun e => e))
    clear HM1 HB1 HT1 G2
    rcases hans with ⟨h5, -⟩ | ⟨-, hni, rfl, rfl⟩ | ⟨-, his, rfl, rfl⟩
    · exact absurd HlB.out h5
    · have T3 := HT2.out.alloc (.cells #[.int .i64 0, .int .i64 0, .int .i64 0, .int .i64 0, .bool false] 28)
      have HM3 := hyd (HM2.out.chg ((Chg.refl _ w2).alloc (.cells #[.int .i64 0, .int .i64 0, .int .i64 0, .int .i64 0, .bool false] 28)))
      have HB3 := hyd (HB2.out.alloc (.cells #[.int .i64 0, .int .i64 0, .int .i64 0, .int .i64 0, .bool false] 28))
      have HT3 := hyd T3
      clear T3 HM2 HB2 HT2
      go_wp2_with (refine wpList_store_tag rfl (.tmp 6) (.tmp 38) rfl w.heap.size rfl rfl HT3.out ?_)
      intro w4 T4 G4
      have HT4 := hyd T4
      have M4 := HM3.out.far G4 (by omega) (by omega) (by omega) (by omega)
      have B4 := HB3.out.fresh G4 (Nat.le_refl _)
      have HM4 := hyd M4
      have HB4 := hyd B4
      clear T4 G4 M4 B4 HM3 HB3 HT3
      go_wp2
      refine bodyPost_ret (results_tag rfl _ rfl HT4.out) rfl ?_
      exact ⟨⟨B, bd, 0, HBd.out, Or.inl ⟨fun ht => hni ht.2.1, rfl⟩⟩, HM4.out, HB4.out⟩
    · have T3 := HT2.out.alloc (.cells #[.int .i64 (fld B 0 2 : Nat), .int .i64 (fld B 2 1 : Nat), .int .i64 (fld B 3 5 : Nat), .int .i64 (fld B 8 1 : Nat), .bool (lst B)] 28)
      have V3 := Tg.new w2 (fld B 0 2 : Nat) (fld B 2 1 : Nat) (fld B 3 5 : Nat) (fld B 8 1 : Nat) (lst B)
      have HM3 := hyd (HM2.out.chg ((Chg.refl _ w2).alloc (.cells #[.int .i64 (fld B 0 2 : Nat), .int .i64 (fld B 2 1 : Nat), .int .i64 (fld B 3 5 : Nat), .int .i64 (fld B 8 1 : Nat), .bool (lst B)] 28)))
      have HB3 := hyd (HB2.out.alloc (.cells #[.int .i64 (fld B 0 2 : Nat), .int .i64 (fld B 2 1 : Nat), .int .i64 (fld B 3 5 : Nat), .int .i64 (fld B 8 1 : Nat), .bool (lst B)] 28))
      have HT3 := hyd T3
      obtain ⟨v0, v1, v2, v3, v4⟩ := V3.cells
      clear T3 V3 HM2 HB2 HT2
      by_cases hp : ((fld B 0 2 : Nat) : Int) = a
      · have hp' : (((fld B 0 2 : Nat) : Int) != a) = false := by simp [hp]
        have HP := hyd hp
        clear hp
        go_wp2_with (refine wpList_store_tag rfl (.tmp 6) (.tmp 39) rfl w.heap.size rfl rfl HT3.out ?_)
        intro w4 T4 G4
        have HT4 := hyd T4
        have M4 := HM3.out.far G4 (by omega) (by omega) (by omega) (by omega)
        have B4 := HB3.out.fresh G4 (Nat.le_refl _)
        have HM4 := hyd M4
        have HB4 := hyd B4
        clear T4 G4 M4 B4 HM3 HB3 HT3 v0 v1 v2 v3 v4
        go_wp2
        refine bodyPost_ret (results_tag rfl _ rfl HT4.out) rfl ?_
        exact ⟨⟨B, bd, 0, HBd.out, Or.inr ⟨⟨rfl, his, HP.out⟩, rfl⟩⟩, HM4.out, HB4.out⟩
      · have hp' : (((fld B 0 2 : Nat) : Int) != a) = true := by simp [hp]
        have HP := hyd hp
        clear hp
        go_wp2_with (refine wpList_store_tag rfl (.tmp 6) (.tmp 38) rfl w.heap.size rfl rfl HT3.out ?_)
        intro w4 T4 G4
        have HT4 := hyd T4
        have M4 := HM3.out.far G4 (by omega) (by omega) (by omega) (by omega)
        have B4 := HB3.out.fresh G4 (Nat.le_refl _)
        have HM4 := hyd M4
        have HB4 := hyd B4
        clear T4 G4 M4 B4 HM3 HB3 HT3 v0 v1 v2 v3 v4
        go_wp2
        refine bodyPost_ret (results_tag rfl _ rfl HT4.out) rfl ?_
        exact ⟨⟨B, bd, 0, HBd.out, Or.inl ⟨fun ht => HP.out ht.2.2, rfl⟩⟩, HM4.out, HB4.out⟩
  · have q4 := neq_errV hcode hbc
    rw [errV_no hbc]
    clear hcode
    go_wp2_with (refine wpList_store_tag rfl (.tmp 6) (.tmp 24) rfl w.heap.size rfl rfl HT1.out ?_)
    intro w4 T4 G4
    have HT4 := hyd T4
    have M4 := HM1.out.far G4 (by omega) (by omega) (by omega) (by omega)
    have B4 := HB1.out.fresh G4 (Nat.le_refl _)
    have HM4 := hyd M4
    have HB4 := hyd B4
    clear T4 G4 M4 B4 HM1 HB1 HT1
    go_wp2
    refine bodyPost_ret (results_tag rfl _ rfl HT4.out) rfl ?_
    exact ⟨⟨B, bd, bc, hB, Or.inl ⟨fun ht => hbc ht.1, rfl⟩⟩, HM4.out, HB4.out⟩
theorem build65 (w : World) (d : Int) : (Instr.build 65 #[(4, .int .i64 d)]).run Tryz.prog w = .ok (.agg #[.bool false, .int .i64 0, .int .i64 0, .int .i64 0, .int .i64 0, .bool false, .bool false, .slice none 0 0, .int .i64 d]) w := by kernel_rfl
theorem build65z (w : World) : (Instr.build 65 #[]).run Tryz.prog w = .ok (.agg #[.bool false, .int .i64 0, .int .i64 0, .int .i64 0, .int .i64 0, .bool false, .bool false, .slice none 0 0, .int .i64 0]) w := by kernel_rfl
theorem OwnT.one {w : World} {base : Nat} {e : TypeId} {v : Value} {l : List Nat} (h : OwnT w base e v l) : v.oneCell' = true := by
  rcases h.form with ⟨rfl, _⟩ | ⟨g, cap, rfl, _⟩ <;> rfl

set_option maxHeartbeats 8000000 in
theorem mpage_any (m g p q b : Nat) (r : Int) (w : World) (h : Med w m g p q b r) (a : Int) (c o cap : Nat) (L : List Nat) (hL : L.length = 256) (bL : Bys L) (hcb : c ≠ b) (hcs : c < w.heap.size) (hcap : 256 ≤ cap) (hh : Held w (.slice (some ⟨c, o, none⟩) 256 cap) L) :
    Calls Tryz.prog 54 #[.pointer (some ⟨m, 0, none⟩), .int .i64 a, .slice (some ⟨c, o, none⟩) 256 cap] w fun e w' => ∃ x v, e = .returned (pgV x v) ∧ ToldR L a x ∧ OwnT w' w.heap.size 5 v x.data ∧ Med w' m g p q b r ∧ But b w w' := by
  have hbd := build65
  have HP := hyd (Pb.new w false 0 0 0 0 false false (.slice none 0 0) 0)
  have G0 : Chg (fun _ => False) w (w.alloc (.cells #[.bool false, .int .i64 0, .int .i64 0, .int .i64 0, .int .i64 0, .bool false, .bool false, .slice none 0 0, .int .i64 0] 65)) := (Chg.refl _ w).alloc _
  have M0 := h.chg G0
  have H0 := hh.chgF G0
  have hs0 := G0.size
  obtain ⟨hms, hps, hqs, hbs⟩ := h.lts
  have hcall := mdamage_any m g p q b r _ M0 c o cap L hL bL hcb (by omega) hcap H0
  have HH := hyd hh
  have HG := hyd G0
  have HL := hyd hL
  clear G0 M0 H0 hh h hs0 hL
  go_enter Tryz.func54, Tryz.ntmps54
  go_wp2_with fail
  refine hcall.mono ?_
  rintro x w1 ⟨d, rfl, hD, M1, B1⟩
  clear hcall
  have B1' : But b w w1 := HG.out.but.trans B1
  have HP1 := hyd (HP.out.chg B1.chg (fun e => by omega))
  have P2 := Pb.new w1 false 0 0 0 0 false false (.slice none 0 0) (d : Int)
  have G2 : Chg (fun _ => False) w1 (w1.alloc (.cells #[.bool false, .int .i64 0, .int .i64 0, .int .i64 0, .int .i64 0, .bool false, .bool false, .slice none 0 0, .int .i64 (d : Int)] 65)) := (Chg.refl _ w1).alloc _
  have HP2 := hyd (HP1.out.alloc (.cells #[.bool false, .int .i64 0, .int .i64 0, .int .i64 0, .int .i64 0, .bool false, .bool false, .slice none 0 0, .int .i64 (d : Int)] 65))
  have HB2 := hyd (B1'.trans G2.but)
  have hs1 := B1'.size
  have hs01 := HP1.out.lt
  have hs2 := HB2.out.size
  have hcall := mtag_any m g p q b r _ (M1.chg G2) a c o cap L HL.out bL hcb (by omega) hcap (HH.out.chg HB2.out.chg (fun k _ he e => hcb ((Option.some.inj he).trans e)))
  have HK := hyd P2
  have HD := hyd hD
  clear hD M1 B1 B1' P2 G2 HP1 HP HG
  go_wp2_with fail
  refine hcall.mono ?_
  rintro x w3 ⟨⟨B, bd, bc, hB, hT⟩, M3, B3⟩
  clear hcall
  have HK3 := hyd (HK.out.chg B3.chg (fun e => by omega))
  have HP3 := hyd (HP2.out.chg B3.chg (fun e => by omega))
  have HB3 := hyd (HB2.out.trans B3)
  have HM3 := hyd M3
  have hne : w1.heap.size ≠ w.heap.size := by omega
  clear HK HP2 HB2 M3 B3
  rcases hT with ⟨hno, rfl⟩ | ⟨hyes, rfl⟩
  · go_wp2_with (refine wpList_store_pgt rfl (.tmp 22) (.tmp 20) rfl w1.heap.size rfl rfl HK3.out ?_)
    intro w4 P4 G4
    obtain ⟨k0, -⟩ := P4.cells
    have kf := P4.frozen 0
    have HP5 := hyd (P4.set0 false)
    have G5 : Chg (· = w1.heap.size) w3 (w4.setCell ⟨w1.heap.size, 0, none⟩ (.bool false)) := G4.at _ 0 _
    have HR5 := hyd (HP3.out.chg G5 (fun e => hne e.symm))
    have HM5 := hyd (HM3.out.far G5 (by omega) (by omega) (by omega) (by omega))
    have HB5 := hyd (HB3.out.fresh G5 (by omega))
    clear G4 G5 P4 HK3 HP3 HB3 HM3
    go_wp2_with (first | (refine wpList_load_pg rfl (.tmp 7) rfl w1.heap.size rfl HP5.out ?_) | (refine wpList_store_pg rfl (.tmp 6) (.tmp 27) rfl w.heap.size rfl rfl rfl HR5.out ?_))
    intro w6 P6 G6
    have HP6 := hyd P6
    have HM6 := hyd (HM5.out.far G6 (by omega) (by omega) (by omega) (by omega))
    have HB6 := hyd (HB5.out.fresh G6 (by omega))
    clear P6 G6 HM5 HB5 HP5 HR5 k0 kf
    go_wp2
    refine bodyPost_ret (results_pg rfl _ rfl HP6.out) rfl ?_
    exact ⟨⟨false, 0, 0, 0, 0, false, false, [], d⟩, _, rfl, ⟨HD.out, B, bd, bc, hB, Or.inl ⟨hno, rfl, rfl, rfl, rfl, rfl, rfl, rfl, rfl⟩⟩, ownT_nil _ _, HM6.out, HB6.out⟩
  · go_wp2_with (refine wpList_store_pgt rfl (.tmp 22) (.tmp 20) rfl w1.heap.size rfl rfl HK3.out ?_)
    intro w4 P4 G4
    obtain ⟨k0, -⟩ := P4.cells
    have kf := P4.frozen 0
    have P5 := P4.set0 true
    have G5 : Chg (· = w1.heap.size) w3 (w4.setCell ⟨w1.heap.size, 0, none⟩ (.bool true)) := G4.at _ 0 _
    have HR5 := hyd (HP3.out.chg G5 (fun e => hne e.symm))
    have M5 := HM3.out.far G5 (by omega) (by omega) (by omega) (by omega)
    have HB5 := hyd (HB3.out.fresh G5 (by omega))
    have hs5 := HB5.out.size
    obtain ⟨-, c1, -⟩ := M5.cells
    have hcall := data_v p q b _ M5.2 c o 256 cap L HL.out.symm bL hcb (by omega) hcap (HH.out.chg HB5.out.chg (fun k _ he e => hcb ((Option.some.inj he).trans e)))
    have hl5 := P5.lt
    have HP5 := hyd P5
    have HM5 := hyd M5
    clear G4 G5 P4 P5 M5 HK3 HP3 HB3 HM3
    go_wp2_with fail
    refine hcall.mono ?_
    rintro x w6 ⟨⟨ad, n, cp, R, dd, dc, rfl, rfl, hDat, hO⟩, hF6, hB6⟩
    clear hcall
    have hcode := hDat.code.1
    have P6 := HP5.out.chg hB6.chg (fun e => by omega)
    have HR6 := hyd (HR5.out.chg hB6.chg (fun e => by omega))
    have HM6 := hyd (HM5.out.but hF6 hB6)
    have HB6 := hyd (HB5.out.trans hB6)
    have HP6 := hyd P6
    have HO6 := hyd (show OwnT w6 (w1.heap.size + 1) 5 (.slice ad R.length cp) R from hO.mono (fun k hk => by have := (hO.block hk).1; omega))
    clear k0 kf c1 HP5 HM5 HB5 HR5 hF6 hB6 hO
    by_cases hdc : dc = 0
    · subst hdc
      have e0 := eql_nil_nil
      rw [errV_zero]
      obtain ⟨-, -, -, -, -, -, k6, k7, -⟩ := P6.cells
      have f6 := P6.frozen 6
      have f7 := P6.frozen 7
      have HP7 := hyd ((P6.set6 true).set7 (.slice ad R.length cp))
      have G7 : Chg (· = w1.heap.size) w6 ((w6.setCell ⟨w1.heap.size, 6, none⟩ (.bool true)).setCell ⟨w1.heap.size, 7, none⟩ (.slice ad R.length cp)) := ((Chg.refl (· = w1.heap.size) w6).at _ 6 _).at _ 7 _
      have HR7 := hyd (HR6.out.chg G7 (fun e => hne e.symm))
      have HM7 := hyd (HM6.out.far G7 (by omega) (by omega) (by omega) (by omega))
      have HB7 := hyd (HB6.out.fresh G7 (by omega))
      have HO7 := hyd (HO6.out.chg G7 (fun k _ hk e => by have := (HO6.out.block hk).1; omega))
      clear P6 G7 HR6 HM6 HB6 HP6 HO6 hcode
      go_wp2_with (first | (refine wpList_load_pg rfl (.tmp 7) rfl w1.heap.size rfl HP7.out ?_) | (refine wpList_store_pg rfl (.tmp 6) (.tmp 43) rfl w.heap.size rfl rfl rfl HR7.out ?_))
      intro w8 P8 G8
      have HP8 := hyd P8
      have HM8 := hyd (HM7.out.far G8 (by omega) (by omega) (by omega) (by omega))
      have HB8 := hyd (HB7.out.fresh G8 (by omega))
      have HO8 := hyd (HO7.out.chg G8 (fun k _ hk e => by have := (HO7.out.block hk).1; omega))
      clear P8 G8 HM7 HB7 HP7 HR7 HO7 k6 k7 f6 f7
      go_wp2
      refine bodyPost_ret (results_pg rfl _ rfl HP8.out) rfl ?_
      exact ⟨⟨true, fld B 0 2, fld B 2 1, fld B 3 5, fld B 8 1, lst B, true, R, d⟩, _, rfl, ⟨HD.out, B, bd, bc, hB, Or.inr ⟨hyes, rfl, rfl, rfl, rfl, rfl, rfl, R, dd, 0, hDat, Or.inr ⟨rfl, rfl, rfl⟩⟩⟩, HO8.out.mono (fun k hk => by have := (HO8.out.block hk).1; omega), HM8.out, HB8.out⟩
    · have e0 := eql_errV hcode hdc
      rw [errV_no hdc]
      clear P6 HO6 hcode
      go_wp2_with (first | (refine wpList_load_pg rfl (.tmp 7) rfl w1.heap.size rfl HP6.out ?_) | (refine wpList_store_pg rfl (.tmp 6) (.tmp 43) rfl w.heap.size rfl rfl rfl HR6.out ?_))
      intro w8 P8 G8
      have HP8 := hyd P8
      have HM8 := hyd (HM6.out.far G8 (by omega) (by omega) (by omega) (by omega))
      have HB8 := hyd (HB6.out.fresh G8 (by omega))
      clear P8 G8 HM6 HB6 HP6 HR6
      go_wp2
      refine bodyPost_ret (results_pg rfl _ rfl HP8.out) rfl ?_
      exact ⟨⟨true, fld B 0 2, fld B 2 1, fld B 3 5, fld B 8 1, lst B, false, [], d⟩, _, rfl, ⟨HD.out, B, bd, bc, hB, Or.inr ⟨hyes, rfl, rfl, rfl, rfl, rfl, rfl, R, dd, dc, hDat, Or.inl ⟨hdc, rfl, rfl⟩⟩⟩, ownT_nil _ _, HM8.out, HB8.out⟩

theorem neq_nerrV {c : Nat} (hc : nIsCode c) (h : c ≠ 0) : ∃ x, nerrV c = .iface 58 x ∧ ∀ w : World, (binOp .neq 32 (.iface 58 x) .nilIface).run Tryz.prog w = .ok (.bool true) w := by
  rcases hc with rfl | rfl | rfl | rfl | rfl
  · exact absurd rfl h
  · exact ⟨_, rfl, neq_e1_nil⟩
  · exact ⟨_, rfl, neq_e7_nil⟩
  · exact ⟨_, rfl, neq_e8_nil⟩
  · exact ⟨_, rfl, neq_e9_nil⟩
theorem readV_list {s : Chp} (hs : s.Ok) {a : Int} (h : (readV s a).2.2 = 0) : (readV s a).2.1.length = 256 ∧ Bys (readV s a).2.1 := by
  unfold readV at h ⊢
  split at h
  · cases h
  · split at h
    · cases h
    · rename_i h1 h2
      rw [if_neg h1, if_neg h2]
      exact ⟨pgTo_length hs _ _, pgTo_bys hs _ _⟩
/-- The count of a media is another one. -/
theorem Med.count {w : World} {m g p q b : Nat} {r : Int} (h : Med w m g p q b r) (r' : Int) : Med (w.setCell ⟨m, 2, none⟩ (.int .i64 r')) m g p q b r' := by
  have hm : ∀ k, k ≠ m → (w.setCell ⟨m, 2, none⟩ (.int .i64 r')).heap[k]? = w.heap[k]? := fun k hk => heap_setCell_other _ _ _ _ hk
  refine ⟨heap_setCell_same w m 2 _ 115 _ h.1, h.2.other (hm b h.mb.symm) (hm q ?_) (hm p ?_)⟩
  · intro e
    have h1 := h.2.1.2
    rw [e, h.1] at h1
    simp at h1
  · intro e
    have h1 : w.heap[p]? = some (.cells #[.pointer (some ⟨q, 0, none⟩)] 157) := h.2.2
    rw [e, h.1] at h1
    simp at h1
theorem Med.mg {w : World} {m g p q b : Nat} {r : Int} {s : Chp} (h : Med w m g p q b r) (hC : ChipAt w g s) : m ≠ g ∧ p ≠ g ∧ q ≠ g ∧ b ≠ g := by
  obtain ⟨cs, hg, -, -⟩ := hC
  refine ⟨fun e => ?_, fun e => ?_, fun e => ?_, fun e => ?_⟩
  · have h1 := h.1
    rw [e, hg] at h1
    simp at h1
  · have h1 : w.heap[p]? = some (.cells #[.pointer (some ⟨q, 0, none⟩)] 157) := h.2.2
    rw [e, hg] at h1
    simp at h1
  · have h1 := h.2.1.2
    rw [e, hg] at h1
    simp at h1
  · obtain ⟨c, z, hc, -⟩ := fld_heap h.2.1.1
    rw [e, hg] at hc
    simp at hc

set_option maxHeartbeats 8000000 in
theorem mread_any (m g p q b : Nat) (r : Int) (s : Chp) (hs : s.Ok) (w : World) (h : Med w m g p q b r) (hC : ChipAt w g s) (a : Int) :
    Calls Tryz.prog 23 #[.pointer (some ⟨m, 0, none⟩), .int .i64 a] w fun e w' => ∃ s' r' x c v, e = .returned (.tuple #[pgV x v, nerrV c]) ∧ ReadR s r a s' r' x c ∧ OwnT w' w.heap.size 5 v x.data ∧ Med w' m g p q b r' ∧ ChipAt w' g s' ∧ Chg (fun k => k = m ∨ k = g ∨ k = b) w w' := by
  have hbd := build65z
  have HP := hyd (Pb.new w false 0 0 0 0 false false (.slice none 0 0) 0)
  have G0 : Chg (fun _ => False) w (w.alloc (.cells #[.bool false, .int .i64 0, .int .i64 0, .int .i64 0, .int .i64 0, .bool false, .bool false, .slice none 0 0, .int .i64 0] 65)) := (Chg.refl _ w).alloc _
  have M0 := h.chg G0
  have C0 := hC.chg G0 (fun f => f)
  obtain ⟨hms, hps, hqs, hbs⟩ := h.lts
  obtain ⟨nm, np, nq, nb⟩ := h.mg hC
  have hgs := hC.lt
  obtain ⟨c0, -, -⟩ := M0.cells
  have hcall := read_v g s hs a _ C0
  have hs0 : (w.alloc (.cells #[.bool false, .int .i64 0, .int .i64 0, .int .i64 0, .int .i64 0, .bool false, .bool false, .slice none 0 0, .int .i64 0] 65)).heap.size = w.heap.size + 1 := by simp
  rw [hs0] at hcall
  have HG := hyd G0
  have HM := hyd M0
  have hcode := readV_code s a
  have q0 := neq_nil_nil
  have hmb := h.mb
  clear G0 M0 C0 hs0 h hC
  go_enter Tryz.func23, Tryz.ntmps23
  go_wp2_with fail
  refine hcall.mono ?_
  rintro x w1 ⟨ad, n, cap, rfl, hn, hO, C1, G1⟩
  clear hcall c0
  have hs1 := HG.out.size
  have M1 := HM.out.far G1 nm np nq nb
  have HP1 := hyd (HP.out.chg G1 (by omega))
  have G01 : Chg (fun k => k = m ∨ k = g ∨ k = b) w w1 := (HG.out.mono (T := fun k => k = m ∨ k = g ∨ k = b) (fun _ _ f => f.elim)).trans' G1 (fun k _ e => Or.inr (Or.inl e))
  by_cases hc : (readV s a).2.2 = 0
  · obtain ⟨hlen, hbys⟩ := readV_list hs hc
    have HC := hyd hc
    rw [hc]
    obtain ⟨g', cap', hv, hg', hg'', hle, hcl, -⟩ := hO.lies (by omega)
    have hH := hO.held
    rw [show n = 256 from by omega] at hH ⊢
    rw [show n = 256 from by omega, hlen] at hv
    injection hv with hv1 hv2 hv3
    subst hv1 hv3
    generalize hLL : (readV s a).2.1 = L at *
    have HLL := hyd hLL
    clear hLL hcl hO hn hcode hc
    obtain ⟨-, -, c2⟩ := M1.cells
    have M2 := M1.count (wrap64 (r + 1))
    have G2 : Chg (· = m) w1 (w1.setCell ⟨m, 2, none⟩ (.int .i64 (wrap64 (r + 1)))) := (Chg.refl (· = m) w1).at _ 2 _
    have G02 : Chg (fun k => k = m ∨ k = g ∨ k = b) w (w1.setCell ⟨m, 2, none⟩ (.int .i64 (wrap64 (r + 1)))) := G01.trans' G2 (fun k _ e => Or.inl e)
    have C2 := C1.chg G2 (fun e => nm e.symm)
    have HP2 := hyd (HP1.out.chg G2 (by omega))
    have hH2 := hH.chg G2 (fun k hk he e => by have := Option.some.inj he; simp at this; omega)
    have hs12 := G2.size
    have hs01 := HP1.out.lt
    have hpage := mpage_any m g p q b (wrap64 (r + 1)) _ M2 a g' 0 cap L hlen hbys (by omega) (by omega) (by omega) hH2
    have hadd := add_any m 2 w1 c2 (by simp [World.frozen?, M1.1])
    have HM2 := hyd M2
    have HC2 := hyd C2
    have HG02 := hyd G02
    clear M1 M2 C1 C2 G1 G2 G02 G01 hH hH2 HP1
    simp only [nerrV]
    go_wp2_with fail
    refine hadd.mono ?_
    rintro x w2 ⟨rfl, rfl⟩
    clear hadd c2
    go_wp2_with fail
    refine hpage.mono ?_
    rintro x w3 ⟨X, v, rfl, hT, hO3, M3, B3⟩
    clear hpage
    have HP3 := hyd (HP2.out.chg B3.chg (fun e => by omega))
    have HC3 := hyd (HC2.out.chg B3.chg (fun e => nb e.symm))
    have HG3 := hyd (HG02.out.trans' B3.chg (fun k _ e => Or.inr (Or.inr e)))
    have HM3 := hyd M3
    have HO3 := hyd hO3
    clear M3 B3 HC2 HG02 HP2 HM2
    go_wp2_with (refine wpList_store_pg rfl (.tmp 4) (.tmp 28) rfl w.heap.size rfl rfl HO3.out.one HP3.out ?_)
    intro w4 P4 G4
    have HP4 := hyd P4
    have HM4 := hyd (HM3.out.far G4 (by omega) (by omega) (by omega) (by omega))
    have HC4 := hyd (HC3.out.chg G4 (by omega))
    have HG4 := hyd (HG3.out.trans' G4 (fun k hk e => by omega))
    have HO4 := hyd (HO3.out.chg G4 (fun k hk he e => by have := (HO3.out.block he).1; simp at this; omega))
    clear P4 G4 HM3 HC3 HG3 HP3 HO3
    go_wp2
    refine bodyPost_ret (results_pg2 rfl _ rfl HP4.out) rfl ?_
    exact ⟨(readV s a).1, wrap64 (r + 1), X, 0, v, rfl, ⟨rfl, HC.out.symm, Or.inr ⟨rfl, rfl, by rw [HLL.out]; exact hT⟩⟩, HO4.out.mono (fun k hk => by have := (HO4.out.block hk).1; simp at this; omega), HM4.out, HC4.out, HG4.out⟩
  · obtain ⟨y, hy, q1⟩ := neq_nerrV hcode hc
    have HY := hyd hy
    rw [hy]
    have HM1 := hyd M1
    have HC1 := hyd C1
    have HG1 := hyd G01
    clear M1 C1 G1 G01 hO hn hcode hy
    go_wp2_with (refine wpList_store_pg rfl (.tmp 4) (.tmp 19) rfl w.heap.size rfl rfl rfl HP1.out ?_)
    intro w2 P2 G2
    have HP2 := hyd P2
    have HM2 := hyd (HM1.out.far G2 (by omega) (by omega) (by omega) (by omega))
    have HC2 := hyd (HC1.out.chg G2 (by omega))
    have HG2 := hyd (HG1.out.trans' G2 (fun k hk e => by omega))
    clear P2 G2 HM1 HC1 HG1 HP1
    go_wp2
    refine bodyPost_ret (results_pg2 rfl _ rfl HP2.out) rfl ?_
    refine ⟨(readV s a).1, r, Pg.zero, (readV s a).2.2, _, ?_, ⟨rfl, rfl, Or.inl ⟨hc, rfl, rfl⟩⟩, ownT_nil _ _, HM2.out, HC2.out, HG2.out⟩
    rw [HY.out]
    rfl
end Go.Proofs.YtifjmilegogbaaaGreat
