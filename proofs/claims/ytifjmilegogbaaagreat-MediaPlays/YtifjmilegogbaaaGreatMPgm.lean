/-
  media's New, Erase, Reads, chunks, write and Program. Conditions: the media and its chip stand whole; what comes in lies apart from them.
-/
import Derived.Test.YtifjmilegogbaaaGreatMRead
import Derived.Test.YtifjmilegogbaaaGreatULay
namespace Go.Proofs.YtifjmilegogbaaaGreat
open Go.RowKit
set_option maxRecDepth 100000

theorem build115 (w : World) (x y : Value) (g p : Nat) (hx : x = .pointer (some ⟨g, 0, none⟩)) (hy : y = .pointer (some ⟨p, 0, none⟩)) : (Instr.build 115 #[(0, x), (1, y)]).run Tryz.prog w = .ok (.agg #[x, y, .int .i64 0]) w := by
  subst hx hy
  kernel_rfl
theorem mnew_any (g : Nat) (w : World) : Calls Tryz.prog 28 #[.pointer (some ⟨g, 0, none⟩)] w fun e w' => ∃ m p q b, e = .returned (.pointer (some ⟨m, 0, none⟩)) ∧ (w.heap.size ≤ m ∧ w.heap.size ≤ p ∧ w.heap.size ≤ q ∧ w.heap.size ≤ b) ∧ Med w' m g p q b 0 ∧ Chg (fun _ => False) w w' := by
  go_enter Tryz.func28, Tryz.ntmps28
  go_wp2_with fail
  refine (frame_new w).mono ?_
  rintro x w1 ⟨p, q, b, rfl, hp, hq, hb, hF, G1⟩
  have hbd := fun w => build115 w _ _ g p rfl rfl
  have HF := hyd hF
  have HG := hyd G1
  clear hF G1
  go_wp2
  go_ret
  have G2 : Chg (fun _ => False) w1 (w1.alloc (.cells #[.pointer (some ⟨g, 0, none⟩), .pointer (some ⟨p, 0, none⟩), .int .i64 0] 115)) := (Chg.refl _ w1).alloc _
  have := HG.out.size
  refine ⟨_, p, q, b, rfl, ⟨by omega, hp, hq, hb⟩, ⟨?_, HF.out.chg G2⟩, HG.out.trans G2⟩
  show (w1.heap.push _)[w1.heap.size]? = _
  simp
theorem mreads_any (m g p q b : Nat) (r : Int) (w : World) (h : Med w m g p q b r) : Calls Tryz.prog 17 #[.pointer (some ⟨m, 0, none⟩)] w fun e w' => e = .returned (.int .i64 r) ∧ w' = w := by
  obtain ⟨-, -, c2⟩ := h.cells
  have hcall := load_any m 2 w c2
  clear h
  go_enter Tryz.func17, Tryz.ntmps17
  go_wp2_with fail
  refine hcall.mono ?_
  rintro x w1 ⟨rfl, rfl⟩
  clear hcall
  go_wp2
  go_ret
  exact ⟨rfl, rfl⟩
theorem merase_any (m g p q b : Nat) (r : Int) (s : Chp) (hs : s.Ok) (w : World) (h : Med w m g p q b r) (hC : ChipAt w g s) (k : Int) : Calls Tryz.prog 41 #[.pointer (some ⟨m, 0, none⟩), .int .i64 k] w fun e w' => e = .returned (nerrV (eraseR s k).2) ∧ ChipAt w' g (eraseR s k).1 ∧ Chg (· = g) w w' := by
  obtain ⟨c0, -, -⟩ := h.cells
  have hcall := erase_any g s hs k w hC
  clear h hC
  go_enter Tryz.func41, Tryz.ntmps41
  go_wp2_with fail
  refine hcall.mono ?_
  rintro x w1 ⟨rfl, C1, G1⟩
  clear hcall
  have HC := hyd C1
  have HG := hyd G1
  clear C1 G1
  go_wp2
  go_ret
  exact ⟨rfl, HC.out, HG.out⟩

theorem ownsRow_low {w : World} {base base' : Nat} {e : TypeId} {z : Nat} {v : Value} {n : Nat} {xs : List Value} (h : w.ownsRow base e z v n xs) (hb : base' ≤ base) : w.ownsRow base' e z v n xs := by
  refine ⟨h.1, ?_⟩
  rcases h.2 with h1 | ⟨g, cap, cur, rfl, hg, r⟩
  · exact Or.inl h1
  · exact Or.inr ⟨g, cap, cur, rfl, Nat.le_trans hb hg, r⟩
theorem May.nats {p o s c : Int} {l : Bool} (h : May p o s c l) : ∃ p' o' s' c' : Nat, p = p' ∧ o = o' ∧ s = s' ∧ c = c' := by
  obtain ⟨⟨h1, -⟩, ⟨h2, -⟩, ⟨h3, -⟩, h4, -⟩ := h.1
  exact ⟨p.toNat, o.toNat, s.toNat, c.toNat, by omega, by omega, by omega, by omega⟩
set_option maxHeartbeats 4000000 in
theorem mchunks_no (m g p q b : Nat) (r : Int) (w : World) (h : Med w m g p q b r) (a tp to ts tc : Int) (tl : Bool) (ad : Option Addr) (n cap : Nat) (hno : ¬ (May tp to ts tc tl ∧ tp = a ∧ n = 174)) :
    Calls Tryz.prog 47 #[.pointer (some ⟨m, 0, none⟩), .int .i64 a, .agg #[.int .i64 tp, .int .i64 to, .int .i64 ts, .int .i64 tc, .bool tl], .slice ad n cap] w fun e w' => e = .returned (.tuple #[.slice none 0 0, .iface 58 (.int .i64 1)]) ∧ Chg (fun _ => False) w w' := by
  have T0 := Tg.new w tp to ts tc tl
  have G0 : Chg (fun _ => False) w (w.alloc (.cells #[.int .i64 tp, .int .i64 to, .int .i64 ts, .int .i64 tc, .bool tl] 28)) := (Chg.refl _ w).alloc _
  obtain ⟨-, c1, -⟩ := (h.chg G0).cells
  obtain ⟨v0, v1, v2, v3, v4⟩ := T0.cells
  have HT := hyd T0
  have HM := hyd (h.chg G0)
  have HG := hyd G0
  have q1 := neq_arg_nil
  have q2 := neq_nil_nil
  clear T0 G0 h
  by_cases hp : tp = a
  · by_cases hm : May tp to ts tc tl
    · have hn : n ≠ 174 := fun e => hno ⟨hm, hp, e⟩
      obtain ⟨p', o', s', c', rfl, rfl, rfl, rfl⟩ := hm.nats
      have hp' : (((p' : Nat) : Int) != a) = false := by simp [hp]
      have henc := fun w => encode_yes w p' o' s' c' tl hm
      clear hno hp
      go_enter Tryz.func47, Tryz.ntmps47
      go_wp2_with (first | refine wpList_load_tag rfl (.tmp 6) rfl w.heap.size rfl HT.out ?_)
      refine (henc _).mono ?_
      rintro x w1 ⟨g1, rfl, -, -, G1⟩
      clear henc
      have c1' : w1.cell? ⟨m, 1, none⟩ = some (.pointer (some ⟨p, 0, none⟩)) := (HM.out.chg G1).cells.2.1
      have HG1 := hyd (HG.out.trans G1)
      clear G1 c1 v0 v1 v2 v3 v4
      go_wp2_with fail
      refine (lay_data p w1 ad n cap hn _).mono ?_
      rintro x w2 ⟨rfl, G2⟩
      have HG2 := hyd (HG1.out.trans G2)
      clear G2 HG1
      go_wp2
      go_ret2
      exact ⟨rfl, HG2.out⟩
    · have hp' : (tp != a) = false := by simp [hp]
      have henc := fun w => encode_no w tp to ts tc tl hm
      clear hno hp hm
      go_enter Tryz.func47, Tryz.ntmps47
      go_wp2_with (first | refine wpList_load_tag rfl (.tmp 6) rfl w.heap.size rfl HT.out ?_)
      refine (henc _).mono ?_
      rintro x w1 ⟨rfl, G1⟩
      have HG1 := hyd (HG.out.trans G1)
      clear henc G1 c1 v0 v1 v2 v3 v4
      go_wp2
      go_ret2
      exact ⟨rfl, HG1.out⟩
  · have hp' : (tp != a) = true := by simp [hp]
    clear hno hp
    go_enter Tryz.func47, Tryz.ntmps47
    go_wp2
    go_ret2
    exact ⟨rfl, HG.out⟩
set_option maxHeartbeats 4000000 in
theorem mchunks_yes (m g p q b : Nat) (r : Int) (w : World) (h : Med w m g p q b r) (tp to ts tc : Nat) (tl : Bool) (hm : May tp to ts tc tl) (c o cap : Nat) (Dt : List Nat) (hD : Dt.length = 174) (bD : Bys Dt) (hcb : c ≠ b) (hcs : c < w.heap.size) (hA : At w c o Dt) :
    Calls Tryz.prog 47 #[.pointer (some ⟨m, 0, none⟩), .int .i64 (tp : Nat), .agg #[.int .i64 (tp : Nat), .int .i64 (to : Nat), .int .i64 (ts : Nat), .int .i64 (tc : Nat), .bool tl], .slice (some ⟨c, o, none⟩) 174 cap] w fun e w' => ∃ rr k gs, e = .returned (.tuple #[.slice (some ⟨rr, 0, none⟩) 4 k, .nilIface]) ∧ Rowz w' w.heap.size (.slice (some ⟨rr, 0, none⟩) 4 k) gs ((List.range 4).map (wordOf Dt (body tp to ts tc tl))) ∧ Med w' m g p q b r ∧ But b w w' := by
  have T0 := Tg.new w tp to ts tc tl
  have G0 : Chg (fun _ => False) w (w.alloc (.cells #[.int .i64 (tp : Nat), .int .i64 (to : Nat), .int .i64 (ts : Nat), .int .i64 (tc : Nat), .bool tl] 28)) := (Chg.refl _ w).alloc _
  obtain ⟨-, c1, -⟩ := (h.chg G0).cells
  obtain ⟨v0, v1, v2, v3, v4⟩ := T0.cells
  have HT := hyd T0
  have HM := hyd (h.chg G0)
  have HG := hyd G0
  have HA := hyd hA
  have q2 := neq_nil_nil
  have hp' : (((tp : Nat) : Int) != (tp : Nat)) = false := by simp
  have henc := fun w => encode_yes w tp to ts tc tl hm
  have hbs := h.lts.2.2.2
  have hsz := G0.size
  clear T0 G0 h hA
  go_enter Tryz.func47, Tryz.ntmps47
  go_wp2_with (first | refine wpList_load_tag rfl (.tmp 6) rfl w.heap.size rfl HT.out ?_)
  refine (henc _).mono ?_
  rintro x w1 ⟨g1, rfl, hg1, A1, G1⟩
  clear henc
  have M1 := HM.out.chg G1
  have c1' := M1.cells.2.1
  have G01 := HG.out.trans G1
  have hs1 := G01.size
  have hlay := lay_any p q b w1 M1.2 c o cap Dt hD bD hcb (by omega) (HA.out.chg G01 (fun f => f)).2 g1 0 50 (body tp to ts tc tl) (body_length _ _ _ _ _) (body_bys _ _ _ _ _) A1.lt A1.at_.2 (msgOf Dt (body tp to ts tc tl)) rfl
  have HM1 := hyd M1
  have HG1 := hyd G01
  clear G1 c1 v0 v1 v2 v3 v4 A1 M1 G01 HM HG
  go_wp2_with fail
  refine hlay.mono ?_
  rintro x w2 ⟨⟨rr, k, gs, rfl, hR⟩, hF, hB⟩
  clear hlay
  have HR := hyd hR
  have HM2 := hyd (HM1.out.but hF hB)
  have HB2 := hyd (HG1.out.but.trans hB)
  clear hR hF hB HM1 HG1
  go_wp2
  go_ret2
  exact ⟨rr, k, gs, rfl, ⟨ownsRow_low HR.out.row hs1, HR.out.len, HR.out.arr, HR.out.nd, HR.out.off, fun g hg => Nat.le_trans hs1 (HR.out.low g hg)⟩, HM2.out, HB2.out⟩

theorem slice_ne {q g o n c : Nat} (h : q ≠ g) : (Value.slice (some ⟨q, o, none⟩) n c).ownBlock ≠ some g := fun e => h (Option.some.inj e)
theorem getD_range (W : Nat → List Nat) (i : Nat) (hi : i < 4) : ((List.range 4).map W).getD i [] = W i := by
  rw [List.getD_eq_getElem?_getD, List.getElem?_map, List.getElem?_range hi]
  rfl
theorem Rowz.cell {W : World} {base : Nat} {rr k : Nat} {gs : List Nat} {ls : List (List Nat)} (h : Rowz W base (.slice (some ⟨rr, 0, none⟩) 4 k) gs ls) (i : Nat) (hi : i < 4) : gs.length = 4 ∧ 4 ≤ k ∧ W.cell? ⟨rr, i, none⟩ = some (slc (gs.getD i 0)) := by
  rcases h.row.2 with ⟨e, _⟩ | ⟨g, cap, cur, e, _, hh, hn, _, hz, ht⟩
  · cases e
  · injection e with e1 e2 e3
    injection e1 with e1
    injection e1 with e1
    subst e1 e3
    have hl4 : gs.length = 4 := e2.symm
    refine ⟨hl4, by rw [← hl4]; exact hn, ?_⟩
    have h2 : (cur.toList.take (gs.length * 1))[i]? = (gs.map slc)[i]? := by rw [ht]
    rw [List.getElem?_take_of_lt (by omega), Array.getElem?_toList, List.getElem?_map, List.getElem?_eq_getElem (by omega)] at h2
    simp only [World.cell?, hh]
    rw [List.getD_eq_getElem?_getD, List.getElem?_eq_getElem (by omega)]
    simpa using h2
theorem eq_tag (w : World) (p o s c p' o' s' c' : Int) (l l' : Bool) : (Op.equalIn 10000 28 (.agg #[.int .i64 p, .int .i64 o, .int .i64 s, .int .i64 c, .bool l]) (.agg #[.int .i64 p', .int .i64 o', .int .i64 s', .int .i64 c', .bool l'])).run Tryz.prog w = .ok (decide (p = p' ∧ o = o' ∧ s = s' ∧ c = c' ∧ l = l')) w := by
  have u3 := Tryz.underlying3
  have a3 := Tryz.isAgg3
  have z3 := Tryz.sizeOf3
  have u2 := Tryz.underlying2
  have a2 := Tryz.isAgg2
  have z2 := Tryz.sizeOf2
  have u4 := Tryz.underlying4
  have a4 := Tryz.isAgg4
  have z4 := Tryz.sizeOf4
  rw [show (10000 : Nat) = 9999 + 1 from rfl, run_equalIn_agg w 9999 28 _ _ (by kernel_rfl) (by kernel_rfl)]
  simp only [Program.fieldsOf, Tryz.underlying28]
  go_simp
  by_cases h1 : p = p' <;> by_cases h2 : o = o' <;> by_cases h3 : s = s' <;> by_cases h4 : c = c' <;> by_cases h5 : l = l' <;> simp [h1, h2, h3, h4, h5]
theorem neq_tag (w : World) (p o s c p' o' s' c' : Int) (l l' : Bool) : (binOp .neq 28 (.agg #[.int .i64 p, .int .i64 o, .int .i64 s, .int .i64 c, .bool l]) (.agg #[.int .i64 p', .int .i64 o', .int .i64 s', .int .i64 c', .bool l'])).run Tryz.prog w = .ok (.bool (!decide (p = p' ∧ o = o' ∧ s = s' ∧ c = c' ∧ l = l'))) w := by
  rw [run_neq_struct, eq_tag]
  rfl
theorem eql_tag (w : World) (p o s c p' o' s' c' : Int) (l l' : Bool) : (binOp .eql 28 (.agg #[.int .i64 p, .int .i64 o, .int .i64 s, .int .i64 c, .bool l]) (.agg #[.int .i64 p', .int .i64 o', .int .i64 s', .int .i64 c', .bool l'])).run Tryz.prog w = .ok (.bool (decide (p = p' ∧ o = o' ∧ s = s' ∧ c = c' ∧ l = l'))) w := by
  rw [run_eql_struct, eq_tag]
  rfl
theorem guard_tag (w : World) (op : BinOp) (x y : Operand) (xs ys : Array Value) : (eqGuard op 28 x y (.agg xs) (.agg ys)).run Tryz.prog w = .ok () w := run_eqGuard_agg w op 28 x y xs ys (by kernel_rfl)
theorem ToldR.sound {L : List Nat} {n : Int} {g : Pg} (h : ToldR L n g) (hs : g.sound = true) : g.tagged = true ∧ g.data.length = 174 ∧ Bys g.data := by
  obtain ⟨_, B, bd, bc, hB, hr⟩ := h
  rcases hr with ⟨_, _, _, _, _, _, _, q7, _⟩ | ⟨_, q1, _, _, _, _, _, D, dd, dc, hD, ⟨_, q7, _⟩ | ⟨rfl, _, q8⟩⟩
  · rw [hs] at q7; cases q7
  · rw [hs] at q7; cases q7
  · rw [q8]; exact ⟨q1, hD.good⟩
/-- The answer of write. -/
def WrAns (s : Chp) (r : Int) (a tp to ts tc : Nat) (tl : Bool) (Dt : List Nat) (w' : World) (m g p q b : Nat) (e : Ending) : Prop := ∃ s' r' c, ProgR s r a tp to ts tc tl Dt s' r' c ∧ e = .returned (nerrV c) ∧ Med w' m g p q b r' ∧ ChipAt w' g s'
set_option maxHeartbeats 8000000 in
theorem mwrite_any (m g p q b : Nat) (r : Int) (s : Chp) (hs : s.Ok) (w : World) (h : Med w m g p q b r) (hC : ChipAt w g s) (tp to ts tc : Nat) (tl : Bool) (_hm : May tp to ts tc tl) (c o cap : Nat) (Dt : List Nat) (hD : Dt.length = 174) (bD : Bys Dt) (hcb : c ≠ b) (hcg : c ≠ g) (hcm : c ≠ m) (hA : At w c o Dt)
    (base rr k : Nat) (gs : List Nat) (hR : Rowz w base (.slice (some ⟨rr, 0, none⟩) 4 k) gs ((List.range 4).map (wordOf Dt (body tp to ts tc tl)))) (hbase : m < base ∧ g < base ∧ b < base) :
    Calls Tryz.prog 48 #[.pointer (some ⟨m, 0, none⟩), .int .i64 (tp : Nat), .slice (some ⟨rr, 0, none⟩) 4 k, .agg #[.int .i64 (tp : Nat), .int .i64 (to : Nat), .int .i64 (ts : Nat), .int .i64 (tc : Nat), .bool tl], .slice (some ⟨c, o, none⟩) 174 cap] w fun e w' => WrAns s r tp tp to ts tc tl Dt w' m g p q b e ∧ Chg (fun k => k = m ∨ k = g ∨ k = b) w w' := by
  have T0 := Tg.new w tp to ts tc tl
  have G0 : Chg (fun _ => False) w (w.alloc (.cells #[.int .i64 (tp : Nat), .int .i64 (to : Nat), .int .i64 (ts : Nat), .int .i64 (tc : Nat), .bool tl] 28)) := (Chg.refl _ w).alloc _
  have hsz : (w.alloc (.cells #[.int .i64 (tp : Nat), .int .i64 (to : Nat), .int .i64 (ts : Nat), .int .i64 (tc : Nat), .bool tl] 28)).heap.size = w.heap.size + 1 := by simp
  obtain ⟨hms, hps, hqs, hbs⟩ := h.lts
  obtain ⟨nm, np, nq, nb⟩ := h.mg hC
  have hgs := hC.lt
  have hmb := h.mb
  have hW : ∀ k, k < 4 → (wordOf Dt (body tp to ts tc tl) k).length = 64 ∧ Bys (wordOf Dt (body tp to ts tc tl) k) := fun k hk => ⟨word_length hD bD (body_length _ _ _ _ _) (body_bys _ _ _ _ _) k hk, (word_cw hD bD (body_length _ _ _ _ _) (body_bys _ _ _ _ _) k hk).2.1⟩
  have HT := hyd T0
  have HM := hyd (h.chg G0)
  have HC := hyd (hC.chg G0 (fun f => f))
  have HA := hyd (hA.chg G0 (fun f => f))
  have HR := hyd (hR.chg G0 (fun _ f => f.elim))
  have HG := hyd G0
  have HW := hyd hW
  have HD := hyd hD
  have HS := hyd hs
  have hAc := hA.1
  have q0 := neq_nil_nil
  generalize hWW : wordOf Dt (body tp to ts tc tl) = W at *
  have HWW := hyd hWW
  generalize hw0 : w.alloc (.cells #[.int .i64 (tp : Nat), .int .i64 (to : Nat), .int .i64 (ts : Nat), .int .i64 (tc : Nat), .bool tl] 28) = w0 at *
  clear T0 G0 h hC hA hR hW hD hs hWW
  go_enter Tryz.func48, Tryz.ntmps48
  go_wp2_with fail
  clear hw0
  go_loopw [18] (fun t18 wr => ∃ i : Nat, i ≤ 4 ∧ t18 = .int .i64 i ∧ (wrN s (tp : Nat) W i).2 = 0 ∧ ChipAt wr g (wrN s (tp : Nat) W i).1 ∧ Chg (· = g) w0 wr) (fun t18 _ => 4 - (intOf t18).toNat)
  case atStart => exact ⟨0, by omega, rfl, rfl, HC.out, Chg.refl _ _⟩
  case round =>
    obtain ⟨i, hi, rfl, hz, C1, G1⟩ := hrel
    have hM1 := HM.out.far G1 nm np nq nb
    have hR1 := HR.out.chg G1 (fun x hx => by subst hx; exact ⟨fun e => by rcases HR.out.row.2 with ⟨e', _⟩ | ⟨g', _, _, e', hg', _⟩; cases e'; injection e' with e1; injection e1 with e1; injection e1 with e1; subst e1; have := Option.some.inj e; simp at this; omega, fun e => by have := HR.out.low _ e; omega⟩)
    by_cases hlt : i < 4
    · have hlt' : (i : Int) < 4 := by omega
      obtain ⟨hgl, hk4, hcell⟩ := hR1.cell i hlt
      have harr := hR1.arr i (by omega)
      rw [getD_range W i hlt] at harr
      have hge : base ≤ gs.getD i 0 := hR1.low _ (by rw [List.getD_eq_getElem?_getD, List.getElem?_eq_getElem (by omega)]; exact List.getElem_mem _)
      obtain ⟨hwl, hwb⟩ := HW.out i hlt
      have hok : (wrN s (tp : Nat) W i).1.Ok := wrN_ok HS.out _ i (fun k hk => (HW.out k (by omega)).2)
      have hheld : Held wr (slc (gs.getD i 0)) (W i) := by
        have := harr.heldFull 64 64 hwl.symm
        exact this
      obtain ⟨c0, -, -⟩ := hM1.cells
      have hcall := write_any g _ hok (tp : Nat) (i : Nat) (W i) (slc (gs.getD i 0)) wr hheld (slice_ne (by omega)) C1
      have hstep : wrN s (tp : Nat) W (i + 1) = writeR (wrN s (tp : Nat) W i).1 (tp : Nat) i (W i) := by
        show (if (wrN s (tp : Nat) W i).2 = 0 then writeR (wrN s (tp : Nat) W i).1 (tp : Nat) i (W i) else wrN s (tp : Nat) W i) = _
        rw [if_pos hz]
      rw [← hstep] at hcall
      have hcode := wrN_code s (tp : Nat) W (i + 1)
      have HG1 := hyd G1
      have HM1 := hyd hM1
      have HST := hyd hstep
      unfold slc at hcell hcall
      clear hM1 hR1 harr hheld C1 G1 hstep hok
      generalize gs.getD i 0 = gi at *
      go_wp2_with fail
      refine hcall.mono ?_
      rintro x w2 ⟨rfl, C2, G2⟩
      clear hcall
      have HC2 := hyd C2
      have HG2 := hyd (HG1.out.trans G2)
      have HM2 := hyd (HM1.out.far G2 nm np nq nb)
      clear C2 G2 HG1 HM1 hcell c0
      by_cases hc : (wrN s (tp : Nat) W (i + 1)).2 = 0
      · rw [hc]
        simp only [nerrV]
        have HCC := hyd hc
        clear hc hcode
        go_wp2
        exact ⟨⟨i + 1, by omega, by go_num, HCC.out, HC2.out, HG2.out⟩, by simp [intOf]; omega⟩
      · obtain ⟨y, hy, q1⟩ := neq_nerrV hcode hc
        have HY := hyd hy
        rw [hy]
        have HCC := hyd hc
        clear hc hcode hy
        go_wp2
        go_ret
        have e4 : wrN s (tp : Nat) W 4 = wrN s (tp : Nat) W (i + 1) := by
          have := wrN_stop HCC.out (4 - (i + 1))
          rwa [show i + 1 + (4 - (i + 1)) = 4 from by omega] at this
        refine ⟨⟨(wrN s (tp : Nat) W (i + 1)).1, r, (wrN s (tp : Nat) W (i + 1)).2, Or.inl ?_, by rw [HY.out]; rfl, HM2.out, HC2.out⟩, ?_⟩
        · rw [HWW.out, e4]
          exact ⟨HCC.out, rfl, rfl, rfl⟩
        · exact (HG.out.mono (fun _ _ f => f.elim)).trans' HG2.out (fun k _ e => Or.inr (Or.inl e))
    · obtain rfl : i = 4 := by omega
      have hok : (wrN s (tp : Nat) W 4).1.Ok := wrN_ok HS.out _ 4 (fun k hk => (HW.out k (by omega)).2)
      have hs1 := G1.size
      have hcall := mread_any m g p q b r _ hok wr hM1 C1 (tp : Nat)
      have HT1 := hyd (HT.out.chg G1 (by omega))
      have HA1 := hyd (HA.out.chg G1 (fun e => hcg e))
      have HG1 := hyd G1
      have HZ := hyd hz
      clear hM1 hR1 C1 G1 hok hz
      go_wp2_with fail
      refine hcall.mono ?_
      rintro x w2 ⟨s', r', X, e, v, rfl, hRR, hO, M2, C2, G2⟩
      clear hcall
      have HT2 := hyd (HT1.out.chg G2 (by omega))
      have HA2 := hyd (HA1.out.chg G2 (by omega))
      have HM2 := hyd M2
      have HC2 := hyd C2
      have HG2 := hyd ((HG1.out.mono (T := fun k => k = m ∨ k = g ∨ k = b) (fun k _ e => Or.inr (Or.inl e))).trans G2)
      have HRR := hyd hRR
      have HO := hyd hO
      clear HT1 HA1 HG1 M2 C2 G2 hO
      unfold pgV
      have hcode : nIsCode e := by rw [hRR.2.1]; exact readV_code _ _
      have hlow : ∀ k, v.ownBlock = some k → wr.heap.size ≤ k ∧ k < w2.heap.size := fun k hk => HO.out.block hk
      have hs2 := HG2.out.size
      have hwr := hs1
      have hgd := guard_tag
      by_cases hc : e = 0
      · subst hc
        simp only [nerrV]
        obtain ⟨-, hRc, hRt⟩ := hRR
        have hTold : ToldR (readV (wrN s (tp : Nat) W 4).1 (tp : Nat)).2.1 (tp : Nat) X := by
          rcases hRt with ⟨x, _⟩ | ⟨_, _, x⟩
          · exact absurd rfl x
          · exact x
        have HTold := hyd hTold
        clear hRc hRt hcode hTold
        go_wp2_with (refine wpList_store_pg rfl (.tmp 14) (.tmp 39) rfl w2.heap.size rfl rfl HO.out.one (Pb.new w2 false 0 0 0 0 false false (.slice none 0 0) 0) ?_)
        intro w3 P3 G3
        have G3' : Chg (fun _ => False) w2 w3 := ((Chg.refl (fun _ => False) w2).alloc _).trans' G3 (fun k hk e => by omega)
        have HT3 := hyd (HT2.out.chg G3' (fun f => f))
        have HM3 := hyd (HM2.out.chg G3')
        have HC3 := hyd (HC2.out.chg G3' (fun f => f))
        have HA3 := hyd (HA2.out.chg G3' (fun f => f))
        have HG3 := hyd (HG2.out.trans' G3' (fun _ _ f => f.elim))
        have HO3 := hyd (HO.out.chg G3' (fun _ _ _ f => f))
        obtain ⟨k0, k1, k2, k3, k4, k5, k6, k7, k8⟩ := P3.cells
        obtain ⟨v0, v1, v2, v3, v4⟩ := HT3.out.cells
        clear G3 G3' P3 HT2 HM2 HC2 HA2 HG2 HO
        obtain ⟨xt, xp, xo, xs, xc, xl, xsd, xd, xg⟩ := X
        simp only at k0 k1 k2 k3 k4 k5 k6 k7 k8 HO3 ⊢
        cases xsd
        · go_wp2
          go_ret
          refine ⟨⟨s', r', 8, Or.inr ?_, rfl, HM3.out, HC3.out⟩, (HG.out.mono (fun _ _ f => f.elim)).trans HG3.out⟩
          rw [HWW.out]
          exact ⟨HZ.out, _, 0, HRR.out, Or.inr (Or.inr ⟨rfl, fun hi => (by have := hi.2.2.1; cases this), rfl⟩)⟩
        · have qt := fun w => neq_tag w xp xo xs xc tp to ts tc xl tl
          obtain ⟨ht0, hd0, bd0⟩ := HTold.out.sound rfl
          simp only at ht0 hd0 bd0
          by_cases ht : ((xp : Int) = tp ∧ (xo : Int) = to ∧ (xs : Int) = ts ∧ (xc : Int) = tc ∧ xl = tl)
          · rw [decide_eq_true ht] at qt
            obtain ⟨g', cap', rfl, hg', hg'', -, hcl, -⟩ := HO3.out.lies (by omega)
            have heq := equal_any w3 g' 0 xd.length cap' c o 174 cap xd Dt rfl HD.out.symm bd0 bD ⟨hg'', fun i hi => by rw [Nat.zero_add]; exact hcl i hi⟩ HA3.out
            have HT0 := hyd ht
            have HD0 := hyd hd0
            clear ht hcl HO3 hd0
            rw [HD0.out] at heq k7 ⊢
            by_cases hdd : xd = Dt
            · rw [decide_eq_true hdd] at heq
              go_wp2_with fail
              refine heq.mono ?_
              rintro x w4 ⟨rfl, rfl⟩
              clear heq
              go_wp2
              go_ret
              refine ⟨⟨s', r', 0, Or.inr ?_, rfl, HM3.out, HC3.out⟩, (HG.out.mono (fun _ _ f => f.elim)).trans HG3.out⟩
              rw [HWW.out]
              exact ⟨HZ.out, _, 0, HRR.out, Or.inr (Or.inl ⟨rfl, ⟨ht0, ⟨by show xp = tp; have := HT0.out.1; omega, by show xo = to; have := HT0.out.2.1; omega, by show xs = ts; have := HT0.out.2.2.1; omega, by show xc = tc; have := HT0.out.2.2.2.1; omega, HT0.out.2.2.2.2⟩, rfl, hdd⟩, rfl⟩)⟩
            · rw [decide_eq_false hdd] at heq
              go_wp2_with fail
              refine heq.mono ?_
              rintro x w4 ⟨rfl, rfl⟩
              clear heq
              go_wp2
              go_ret
              refine ⟨⟨s', r', 8, Or.inr ?_, rfl, HM3.out, HC3.out⟩, (HG.out.mono (fun _ _ f => f.elim)).trans HG3.out⟩
              rw [HWW.out]
              exact ⟨HZ.out, _, 0, HRR.out, Or.inr (Or.inr ⟨rfl, fun hi => hdd hi.2.2.2, rfl⟩)⟩
          · rw [decide_eq_false ht] at qt
            go_wp2
            go_ret
            refine ⟨⟨s', r', 8, Or.inr ?_, rfl, HM3.out, HC3.out⟩, (HG.out.mono (fun _ _ f => f.elim)).trans HG3.out⟩
            rw [HWW.out]
            exact ⟨HZ.out, _, 0, HRR.out, Or.inr (Or.inr ⟨rfl, fun hi => ht ⟨by have := hi.2.1.1; simp only at this; omega, by have := hi.2.1.2.1; simp only at this; omega, by have := hi.2.1.2.2.1; simp only at this; omega, by have := hi.2.1.2.2.2.1; simp only at this; omega, hi.2.1.2.2.2.2⟩, rfl⟩)⟩
      · obtain ⟨y, hy, q1⟩ := neq_nerrV hcode hc
        have HY := hyd hy
        rw [hy]
        have HCC := hyd hc
        clear hc hcode hy
        go_wp2_with (refine wpList_store_pg rfl (.tmp 14) (.tmp 39) rfl w2.heap.size rfl rfl HO.out.one (Pb.new w2 false 0 0 0 0 false false (.slice none 0 0) 0) ?_)
        intro w3 P3 G3
        have G3' : Chg (fun _ => False) w2 w3 := ((Chg.refl (fun _ => False) w2).alloc _).trans' G3 (fun k hk e => by omega)
        have HM3 := hyd (HM2.out.chg G3')
        have HC3 := hyd (HC2.out.chg G3' (fun f => f))
        have HG3 := hyd (HG2.out.trans' G3' (fun _ _ f => f.elim))
        clear G3 G3' P3 HT2 HM2 HC2 HA2 HG2 HO
        go_wp2
        go_ret
        refine ⟨⟨s', r', e, Or.inr ?_, by rw [HY.out]; rfl, HM3.out, HC3.out⟩, (HG.out.mono (fun _ _ f => f.elim)).trans HG3.out⟩
        rw [HWW.out]
        exact ⟨HZ.out, _, e, HRR.out, Or.inl ⟨HCC.out, rfl⟩⟩

set_option maxHeartbeats 4000000 in
theorem mprogram_no (m g p q b : Nat) (r : Int) (w : World) (h : Med w m g p q b r) (a tp to ts tc : Int) (tl : Bool) (ad : Option Addr) (n cap : Nat) (hno : ¬ (May tp to ts tc tl ∧ tp = a ∧ n = 174)) :
    Calls Tryz.prog 19 #[.pointer (some ⟨m, 0, none⟩), .int .i64 a, .agg #[.int .i64 tp, .int .i64 to, .int .i64 ts, .int .i64 tc, .bool tl], .slice ad n cap] w fun e w' => e = .returned (.iface 58 (.int .i64 1)) ∧ Chg (fun _ => False) w w' := by
  have T0 := Tg.new w tp to ts tc tl
  have G0 : Chg (fun _ => False) w (w.alloc (.cells #[.int .i64 tp, .int .i64 to, .int .i64 ts, .int .i64 tc, .bool tl] 28)) := (Chg.refl _ w).alloc _
  have hcall := mchunks_no m g p q b r _ (h.chg G0) a tp to ts tc tl ad n cap hno
  have HT := hyd T0
  have HG := hyd G0
  have q1 := neq_arg_nil
  clear T0 G0 h hno
  go_enter Tryz.func19, Tryz.ntmps19
  go_wp2_with (first | refine wpList_load_tag rfl (.tmp 6) rfl w.heap.size rfl HT.out ?_)
  refine hcall.mono ?_
  rintro x w1 ⟨rfl, G1⟩
  have HG1 := hyd (HG.out.trans G1)
  clear hcall G1
  go_wp2
  go_ret
  exact ⟨rfl, HG1.out⟩
set_option maxHeartbeats 4000000 in
theorem mprogram_yes (m g p q b : Nat) (r : Int) (s : Chp) (hs : s.Ok) (w : World) (h : Med w m g p q b r) (hC : ChipAt w g s) (tp to ts tc : Nat) (tl : Bool) (hm : May tp to ts tc tl) (c o cap : Nat) (Dt : List Nat) (hD : Dt.length = 174) (bD : Bys Dt) (hcb : c ≠ b) (hcg : c ≠ g) (hcm : c ≠ m) (hA : At w c o Dt) :
    Calls Tryz.prog 19 #[.pointer (some ⟨m, 0, none⟩), .int .i64 (tp : Nat), .agg #[.int .i64 (tp : Nat), .int .i64 (to : Nat), .int .i64 (ts : Nat), .int .i64 (tc : Nat), .bool tl], .slice (some ⟨c, o, none⟩) 174 cap] w fun e w' => WrAns s r tp tp to ts tc tl Dt w' m g p q b e ∧ Chg (fun k => k = m ∨ k = g ∨ k = b) w w' := by
  have T0 := Tg.new w tp to ts tc tl
  have G0 : Chg (fun _ => False) w (w.alloc (.cells #[.int .i64 (tp : Nat), .int .i64 (to : Nat), .int .i64 (ts : Nat), .int .i64 (tc : Nat), .bool tl] 28)) := (Chg.refl _ w).alloc _
  have hs0 := G0.size
  have hcall := mchunks_yes m g p q b r _ (h.chg G0) tp to ts tc tl hm c o cap Dt hD bD hcb (Nat.lt_of_lt_of_le hA.1 hs0) (hA.chg G0 (fun f => f))
  obtain ⟨hms, hps, hqs, hbs⟩ := h.lts
  obtain ⟨nm, np, nq, nb⟩ := h.mg hC
  have hgs := hC.lt
  have hAc := hA.1
  have HT := hyd T0
  have HG := hyd G0
  have HC := hyd hC
  have HA := hyd hA
  have HD := hyd hD
  have HS := hyd hs
  have q1 := neq_nil_nil
  clear T0 G0 h hC hA hD hs
  go_enter Tryz.func19, Tryz.ntmps19
  go_wp2_with (first | refine wpList_load_tag rfl (.tmp 6) rfl w.heap.size rfl HT.out ?_)
  refine hcall.mono ?_
  rintro x w1 ⟨rr, k, gs, rfl, hR, M1, B1⟩
  clear hcall
  have C1 := (HC.out.chg HG.out (fun f => f)).chg B1.chg (fun e => nb e.symm)
  have A1 := (HA.out.chg HG.out (fun f => f)).chg B1.chg hcb
  have HT1 := hyd (HT.out.chg B1.chg (by omega))
  have G1 : Chg (fun k => k = m ∨ k = g ∨ k = b) w w1 := (HG.out.mono (T := fun k => k = m ∨ k = g ∨ k = b) (fun _ _ f => f.elim)).trans' B1.chg (fun k _ e => Or.inr (Or.inr e))
  have hcall := mwrite_any m g p q b r s HS.out w1 M1 C1 tp to ts tc tl hm c o cap Dt HD.out bD hcb hcg hcm A1 _ rr k gs hR (by omega)
  have HG1 := hyd G1
  clear hR M1 B1 C1 A1 HC HA HG G1
  go_wp2_with (first | refine wpList_load_tag rfl (.tmp 6) rfl w.heap.size rfl HT1.out ?_)
  refine hcall.mono ?_
  rintro x w2 ⟨⟨s', r', e, hP, rfl, M2, C2⟩, G2⟩
  have HP := hyd hP
  have HM2 := hyd M2
  have HC2 := hyd C2
  have HG2 := hyd (HG1.out.trans G2)
  clear hcall hP M2 C2 G2
  go_wp2
  go_ret
  exact ⟨⟨s', r', e, HP.out, rfl, HM2.out, HC2.out⟩, HG2.out⟩
end Go.Proofs.YtifjmilegogbaaaGreat
