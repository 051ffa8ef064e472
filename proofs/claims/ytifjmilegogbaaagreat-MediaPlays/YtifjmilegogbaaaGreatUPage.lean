/-
  The document's Message, Data and Body of a page (patinaref06), and an error's number (patinalaw00.Code). Condition: the page's bytes can be read. What Message, Data and Body answer of a page, told once for the program and for the document: bytes, a number, an error's number. Condition: the page's bytes can be read.
-/
import Derived.Test.YtifjmilegogbaaaGreatUData
import Derived.Test.YtifjmilegogbaaaGreatURefDec
import Derived.Test.YtifjmilegogbaaaGreatUKnow
namespace Go.Proofs.YtifjmilegogbaaaGreat
open Go.RowKit
set_option maxRecDepth 100000

theorem good_of {L : List Nat} {i : Nat} {m : List Nat} {d : Nat} (h : IsDec (part 64 L i) (some (m, d))) (hd : d ≤ 2) : Good L i (m, d) := by
  have h0 := h
  rcases h with ⟨h, -⟩ | ⟨c, hc, he, -⟩
  · cases h
  · simp only [Option.some.injEq, Prod.mk.injEq] at he
    obtain ⟨rfl, rfl⟩ := he
    exact ⟨h0, by rw [List.length_take, hc.1]; rfl, bys_take hc.2.1 _, hd⟩
/-- What the document's Message answers of a chunk. -/
def RMsg (w w' : World) (L : List Nat) (i : Nat) (e : Ending) : Prop :=
  (IsDec (part 64 L i) none ∧ e = .returned (.tuple #[.slice none 0 0, .int .i64 0, .int .i64 5])) ∨
  (∃ (r : List Nat × Nat) (g cr : Nat), Good L i r ∧ e = .returned (.tuple #[.slice (some ⟨g, 0, none⟩) 58 cr, .int .i64 (r.2 : Int), .int .i64 0]) ∧ (w.heap.size ≤ g ∧ 64 ≤ cr) ∧ Held w' (.slice (some ⟨g, 0, none⟩) 58 cr) r.1)
set_option maxHeartbeats 1000000 in
theorem rmsg_len (w : World) (a : Option Addr) (n cap : Nat) (k : Int) (h : n ≠ 256) :
    Calls Tryz.prog 92 #[.slice a n cap, .int .i64 k] w fun e w' => e = .returned (.tuple #[.slice none 0 0, .int .i64 0, .int .i64 1]) ∧ w' = w := by
  have hn' : ((n : Int) != 256) = true := by simp; omega
  go_enter Tryz.func92, Tryz.ntmps92
  go_wp2
  go_ret3
  exact ⟨rfl, rfl⟩
set_option maxHeartbeats 1000000 in
theorem rmsg_out (w : World) (a : Option Addr) (cap : Nat) (k : Int) (h : ¬ (0 ≤ k ∧ k ≤ 3)) :
    Calls Tryz.prog 92 #[.slice a 256 cap, .int .i64 k] w fun e w' => e = .returned (.tuple #[.slice none 0 0, .int .i64 0, .int .i64 1]) ∧ w' = w := by
  by_cases h0 : k < 0
  · go_enter Tryz.func92, Tryz.ntmps92
    go_wp2
    go_ret3
    exact ⟨rfl, rfl⟩
  · have h3 : 3 < k := by omega
    go_enter Tryz.func92, Tryz.ntmps92
    go_wp2
    go_ret3
    exact ⟨rfl, rfl⟩
set_option maxHeartbeats 1000000 in
theorem rmsg_any (w : World) (c o cap : Nat) (L : List Nat) (hL : L.length = 256) (bL : Bys L) (hcs : c < w.heap.size) (hcap : 256 ≤ cap)
    (hcell : ∀ i, i < 256 → w.cell? ⟨c, o + i, none⟩ = some (.int .u8 (L.getD i 0 : Nat))) (i : Nat) (hi : i < 4) :
    Calls Tryz.prog 92 #[.slice (some ⟨c, o, none⟩) 256 cap, .int .i64 (i : Int)] w fun e w' => RMsg w w' L i e ∧ Chg (fun _ => False) w w' := by
  have hpl := part_length (z := 64) (L := L) (by omega) i hi
  have hpb := part_bys (z := 64) bL i
  have hh : Held w (.slice (some ⟨c, o + 64 * i, none⟩) 64 (cap - 64 * i)) (part 64 L i) := ⟨some ⟨c, o + 64 * i, none⟩, cap - 64 * i, by rw [hpl], Or.inr ⟨c, o + 64 * i, rfl, hcs, fun j hj => by
    rw [part_getD 64 L i j (by omega), Nat.add_assoc, Nat.mul_comm 64 i]; exact hcell _ (by omega)⟩⟩
  have HR := hyd (rdecode_held w _ 64 _ (part 64 L i) rfl hpl hpb hh)
  have n1 : (i : Int) < 4 := by omega
  have n0 : (0 : Int) ≤ (i : Int) := by omega
  have e64 : 64 * i + 64 - 64 * i = 64 := by omega
  clear hcell hh hpl hpb
  go_enter Tryz.func92, Tryz.ntmps92
  go_wp2_with fail
  refine HR.out.mono ?_
  rintro e w1 ⟨hD, G1⟩
  clear HR
  rcases hD with ⟨hN, rfl⟩ | ⟨m, d, r, cr, h1, h2, h3, rfl, h5, h6⟩
  · go_wp2
    go_ret3
    exact ⟨Or.inl ⟨hN, rfl⟩, G1⟩
  · have hgd := good_of h1 h2
    go_wp2
    go_ret3
    exact ⟨Or.inr ⟨(m, d), r, cr, hgd, rfl, h5, h6⟩, G1⟩

/-- What the document's Data answers of a page. -/
def RData (w' : World) (L : List Nat) (e : Ending) : Prop :=
  (∃ i, i < 3 ∧ IsDec (part 64 L i) none ∧ e = .returned (.tuple #[.slice none 0 0, .int .i64 0, .int .i64 5])) ∨
  (∃ (r0 r1 r2 : List Nat × Nat) (a : Option Addr) (cap : Nat), Good L 0 r0 ∧ Good L 1 r1 ∧ Good L 2 r2 ∧ e = .returned (.tuple #[.slice a 174 cap, .int .i64 ((max (max r0.2 r1.2) r2.2 : Nat) : Int), .int .i64 0]) ∧ Held w' (.slice a 174 cap) (r0.1 ++ r1.1 ++ r2.1))
set_option maxHeartbeats 1000000 in
theorem rdata_len (w : World) (a : Option Addr) (n cap : Nat) (h : n ≠ 256) :
    Calls Tryz.prog 95 #[.slice a n cap] w fun e w' => e = .returned (.tuple #[.slice none 0 0, .int .i64 0, .int .i64 1]) ∧ w' = w := by
  go_enter Tryz.func95, Tryz.ntmps95
  go_wp2_with fail
  go_loopw [5, 6, 7] (fun _ _ t7 wr => t7 = .int .i64 0 ∧ wr = w) (fun _ _ _ _ => 0)
  case atStart => exact ⟨rfl, rfl⟩
  case round =>
    obtain ⟨rfl, rfl⟩ := hrel
    go_wp2_with fail
    refine (rmsg_len wr a n cap 0 h).mono ?_
    rintro e w1 ⟨rfl, rfl⟩
    go_wp2
    go_ret3
    exact ⟨rfl, rfl⟩
set_option maxHeartbeats 2000000 in
theorem rdata_any (w : World) (c o cap : Nat) (L : List Nat) (hL : L.length = 256) (bL : Bys L) (hcs : c < w.heap.size) (hcap : 256 ≤ cap)
    (hcell : ∀ i, i < 256 → w.cell? ⟨c, o + i, none⟩ = some (.int .u8 (L.getD i 0 : Nat))) :
    Calls Tryz.prog 95 #[.slice (some ⟨c, o, none⟩) 256 cap] w fun e w' => RData w' L e ∧ Chg (fun _ => False) w w' := by
  have HC := hyd hcell
  clear hcell
  have hi5 := info5
  go_enter Tryz.func95, Tryz.ntmps95
  go_wp2_with fail
  go_loopw [5, 6, 7] (fun t5 t6 t7 wr => ∃ (k : Nat) (v : Value) (rs : List (List Nat × Nat)), k ≤ 3 ∧ v = t5 ∧ t6 = .int .i64 (mx rs : Nat) ∧ t7 = .int .i64 k ∧ All2 L (upto k) rs ∧ Own wr w.heap.size 5 v (dat rs) ∧ Chg (fun _ => False) w wr) (fun _ _ t _ => 3 - (intOf t).toNat)
  case atStart => exact ⟨0, _, [], by omega, rfl, rfl, rfl, trivial, Own.nil _ _ _, Chg.refl _ _⟩
  case round =>
    obtain ⟨k, v, rs, hk, rfl, rfl, rfl, hA, O, G⟩ := hrel
    have hsz := G.size
    by_cases hlt : k < 3
    · have hlt' : (k : Int) < 3 := by omega
      have HM := hyd (rmsg_any wr c o cap L hL bL (by omega) hcap (fun i hi => (World.cell?_of_block (w := w) (a := ⟨c, o + i, none⟩) (G.block c hcs (fun e => e))).trans (HC.out i hi)) k (by omega))
      go_wp2_with fail
      refine HM.out.mono ?_
      rintro e w1 ⟨hD, G1⟩
      clear HM
      have G2 := G.trans G1
      have O2 := O.chg G1 (fun _ _ _ f => f)
      have hs1 := G1.size
      rcases hD with ⟨hN, rfl⟩ | ⟨r, g, cr, hg, rfl, h5, h6⟩
      · clear hA O O2 G G1
        go_wp2
        go_ret3
        exact ⟨Or.inl ⟨k, hlt, hN, rfl⟩, G2⟩
      · have hA2 : All2 L (upto (k + 1)) (rs ++ [r]) := by
          rw [upto_succ k (by omega)]
          exact hA.snoc hg
        have hdl := hA.dat_length
        rw [upto_length k (by omega)] at hdl
        have hml := hA.mx_le
        have hrl := hg.2.1
        have hr2 := hg.2.2.2
        have hh := (held_cells h6 (by omega)).2
        have HH := hyd hh
        have HA2 := hyd hA2
        have HDL := hyd hdl
        have HRL := hyd hrl
        have HX := hyd (mx_snoc rs r)
        have HY := hyd (dat_snoc rs r)
        clear hh h6 hA hA2 hg O G G1 hdl hrl
        go_wp2_with (at_builtin; refine wpList_append_bytes _ rfl _ _ 55 rfl w.heap.size 5 Tryz.underlying55 hi5 v (dat rs) rfl O2 (some ⟨g, 0, none⟩) 58 cr r.1 rfl HRL.out (fun e => by cases e) (fun ad had j hj => by have e := Option.some.inj had; subst e; rw [Addr.add_lit]; exact HH.out j (by rw [HRL.out]; exact hj)) (by rw [HDL.out]; omega) G2.size w1.heap.size rfl ?_)
        intro v2 w2 O3 hg2 _
        have G3 : Chg (fun _ => False) w w2 := G2.grown hg2 (fun k hk => Or.inr (O2.block hk).1)
        rw [← HY.out] at O3
        clear hg2 O2 G2
        by_cases hmx : mx rs < r.2
        · have hmx' : ((mx rs : Nat) : Int) < (r.2 : Int) := by omega
          have e1 : mx (rs ++ [r]) = r.2 := by rw [HX.out]; omega
          go_wp2
          exact ⟨⟨k + 1, _, rs ++ [r], by omega, rfl, by rw [e1], by go_num, HA2.out, O3, G3⟩, by simp [intOf]; omega⟩
        · have hmx' : ¬ ((mx rs : Nat) : Int) < (r.2 : Int) := by omega
          have e1 : mx (rs ++ [r]) = mx rs := by rw [HX.out]; omega
          go_wp2
          exact ⟨⟨k + 1, _, rs ++ [r], by omega, rfl, by rw [e1], by go_num, HA2.out, O3, G3⟩, by simp [intOf]; omega⟩
    · have hk3 : k = 3 := by omega
      subst hk3
      have hrl := hA.length
      have hdl := hA.dat_length
      rw [upto_length 3 (by omega)] at hrl hdl
      match rs, hrl, hA with
      | [r0, r1, r2], _, hA =>
        obtain ⟨t0, t1, t2, -⟩ : Good L 0 r0 ∧ Good L 1 r1 ∧ Good L 2 r2 ∧ True := ⟨hA.1, hA.2.1, hA.2.2.1, trivial⟩
        have ed : dat [r0, r1, r2] = r0.1 ++ r1.1 ++ r2.1 := by simp [dat]
        have em : mx [r0, r1, r2] = max (max r0.2 r1.2) r2.2 := by simp [mx]
        rw [ed] at O hdl
        rw [em]
        obtain ⟨g4, c4, hv4, -⟩ := O.lies (by omega)
        rw [hdl] at hv4
        subst hv4
        have HO := hyd O
        clear O hA hdl
        go_wp2
        go_ret3
        exact ⟨Or.inr ⟨r0, r1, r2, _, c4, t0, t1, t2, rfl, HO.out.held⟩, G⟩

/-- What the document's Body answers of a page. -/
def RBody (w' : World) (L : List Nat) (e : Ending) : Prop :=
  (IsDec (part 64 L 3) none ∧ e = .returned (.tuple #[.slice none 0 0, .int .i64 0, .int .i64 5])) ∨
  (∃ r : List Nat × Nat, Good L 3 r ∧ r.1.drop 50 ≠ mk ∧ e = .returned (.tuple #[.slice none 0 0, .int .i64 0, .int .i64 6])) ∨
  (∃ (r : List Nat × Nat) (g cr : Nat), Good L 3 r ∧ r.1.drop 50 = mk ∧ e = .returned (.tuple #[.slice (some ⟨g, 0, none⟩) 50 cr, .int .i64 (r.2 : Int), .int .i64 0]) ∧ Held w' (.slice (some ⟨g, 0, none⟩) 50 cr) (r.1.take 50))
set_option maxHeartbeats 1000000 in
theorem rbody_len (w : World) (a : Option Addr) (n cap : Nat) (h : n ≠ 256) :
    Calls Tryz.prog 93 #[.slice a n cap] w fun e w' => e = .returned (.tuple #[.slice none 0 0, .int .i64 0, .int .i64 1]) ∧ w' = w := by
  go_enter Tryz.func93, Tryz.ntmps93
  go_wp2_with fail
  refine (rmsg_len w a n cap 3 h).mono ?_
  rintro e w1 ⟨rfl, rfl⟩
  go_wp2
  go_ret3
  exact ⟨rfl, rfl⟩
set_option maxHeartbeats 1000000 in
theorem rbody_any (w : World) (c o cap : Nat) (L : List Nat) (hL : L.length = 256) (bL : Bys L) (hcs : c < w.heap.size) (hcap : 256 ≤ cap)
    (hcell : ∀ i, i < 256 → w.cell? ⟨c, o + i, none⟩ = some (.int .u8 (L.getD i 0 : Nat))) :
    Calls Tryz.prog 93 #[.slice (some ⟨c, o, none⟩) 256 cap] w fun e w' => RBody w' L e ∧ Chg (fun _ => False) w w' := by
  have HM := hyd (rmsg_any w c o cap L hL bL hcs hcap hcell 3 (by omega))
  clear hcell
  go_enter Tryz.func93, Tryz.ntmps93
  go_wp2_with fail
  refine HM.out.mono ?_
  rintro e w1 ⟨hD, G1⟩
  clear HM
  rcases hD with ⟨hN, rfl⟩ | ⟨r, g, cr, hg, rfl, h5, h6⟩
  · go_wp2
    go_ret3
    exact ⟨Or.inl ⟨hN, rfl⟩, G1⟩
  · have hrl := hg.2.1
    obtain ⟨hgs, hh⟩ := held_cells h6 (by omega)
    have HK := hyd (rmarked_any w1 g 0 cr r.1 hrl hgs hh)
    have hcr : 50 ≤ cr := by omega
    have HT := hyd (show Held w1 (.slice (some ⟨g, 0, none⟩) 50 cr) (r.1.take 50) from ⟨_, cr, by rw [List.length_take, hrl]; rfl, Or.inr ⟨g, 0, rfl, hgs, fun i hi => by rw [List.length_take] at hi; rw [hh i (by omega), getD_take _ _ _ (by omega)]⟩⟩)
    clear hh
    by_cases hm : r.1.drop 50 = mk
    · go_wp2_with fail
      refine HK.out.mono ?_
      rintro e w2 ⟨rfl, G2⟩
      rw [decide_eq_true hm]
      go_wp2
      go_ret3
      exact ⟨Or.inr (Or.inr ⟨r, g, cr, hg, hm, rfl, HT.out.chgF G2⟩), G1.trans G2⟩
    · go_wp2_with fail
      refine HK.out.mono ?_
      rintro e w2 ⟨rfl, G2⟩
      rw [decide_eq_false hm]
      go_wp2
      go_ret3
      exact ⟨Or.inr (Or.inl ⟨r, hg, hm, rfl⟩), G1.trans G2⟩

theorem eql_e5_1 (w : World) : (binOp .eql 32 (.iface 58 (.int .i64 5)) (.iface 58 (.int .i64 1))).run Tryz.prog w = .ok (.bool false) w := by kernel_rfl
theorem eql_e5_2 (w : World) : (binOp .eql 32 (.iface 58 (.int .i64 5)) (.iface 58 (.int .i64 2))).run Tryz.prog w = .ok (.bool false) w := by kernel_rfl
theorem eql_e5_3 (w : World) : (binOp .eql 32 (.iface 58 (.int .i64 5)) (.iface 58 (.int .i64 3))).run Tryz.prog w = .ok (.bool false) w := by kernel_rfl
theorem eql_e5_4 (w : World) : (binOp .eql 32 (.iface 58 (.int .i64 5)) (.iface 58 (.int .i64 4))).run Tryz.prog w = .ok (.bool false) w := by kernel_rfl
theorem eql_e5_5 (w : World) : (binOp .eql 32 (.iface 58 (.int .i64 5)) (.iface 58 (.int .i64 5))).run Tryz.prog w = .ok (.bool true) w := by kernel_rfl
theorem eql_e6_1 (w : World) : (binOp .eql 32 (.iface 58 (.int .i64 6)) (.iface 58 (.int .i64 1))).run Tryz.prog w = .ok (.bool false) w := by kernel_rfl
theorem eql_e6_2 (w : World) : (binOp .eql 32 (.iface 58 (.int .i64 6)) (.iface 58 (.int .i64 2))).run Tryz.prog w = .ok (.bool false) w := by kernel_rfl
theorem eql_e6_3 (w : World) : (binOp .eql 32 (.iface 58 (.int .i64 6)) (.iface 58 (.int .i64 3))).run Tryz.prog w = .ok (.bool false) w := by kernel_rfl
theorem eql_e6_4 (w : World) : (binOp .eql 32 (.iface 58 (.int .i64 6)) (.iface 58 (.int .i64 4))).run Tryz.prog w = .ok (.bool false) w := by kernel_rfl
theorem eql_e6_5 (w : World) : (binOp .eql 32 (.iface 58 (.int .i64 6)) (.iface 58 (.int .i64 5))).run Tryz.prog w = .ok (.bool false) w := by kernel_rfl
theorem eql_e6_6 (w : World) : (binOp .eql 32 (.iface 58 (.int .i64 6)) (.iface 58 (.int .i64 6))).run Tryz.prog w = .ok (.bool true) w := by kernel_rfl
/-- An error, by its number. -/
def errV (c : Nat) : Value := if c = 0 then .nilIface else .iface 58 (.int .i64 (c : Int))
theorem code_0 (w : World) : Calls Tryz.prog 37 #[errV 0] w fun e w' => e = .returned (.int .i64 0) ∧ w' = w := by
  have q0 := eql_nil_nil
  show Calls Tryz.prog 37 #[.nilIface] w _
  go_enter Tryz.func37, Tryz.ntmps37
  go_wp2
  go_ret
  exact ⟨rfl, rfl⟩
theorem code_1 (w : World) : Calls Tryz.prog 37 #[errV 1] w fun e w' => e = .returned (.int .i64 1) ∧ w' = w := by
  have q0 := eql_arg_nil
  have q1 := eql_arg_arg
  show Calls Tryz.prog 37 #[.iface 58 (.int .i64 1)] w _
  go_enter Tryz.func37, Tryz.ntmps37
  go_wp2
  go_ret
  exact ⟨rfl, rfl⟩
theorem code_5 (w : World) : Calls Tryz.prog 37 #[errV 5] w fun e w' => e = .returned (.int .i64 5) ∧ w' = w := by
  have q0 := eql_dec_nil
  have q1 := eql_e5_1
  have q2 := eql_e5_2
  have q3 := eql_e5_3
  have q4 := eql_e5_4
  have q5 := eql_e5_5
  show Calls Tryz.prog 37 #[.iface 58 (.int .i64 5)] w _
  go_enter Tryz.func37, Tryz.ntmps37
  go_wp2
  go_ret
  exact ⟨rfl, rfl⟩
theorem code_6 (w : World) : Calls Tryz.prog 37 #[errV 6] w fun e w' => e = .returned (.int .i64 6) ∧ w' = w := by
  have q0 := eql_mark_nil
  have q1 := eql_e6_1
  have q2 := eql_e6_2
  have q3 := eql_e6_3
  have q4 := eql_e6_4
  have q5 := eql_e6_5
  have q6 := eql_e6_6
  show Calls Tryz.prog 37 #[.iface 58 (.int .i64 6)] w _
  go_enter Tryz.func37, Tryz.ntmps37
  go_wp2
  go_ret
  exact ⟨rfl, rfl⟩
end Go.Proofs.YtifjmilegogbaaaGreat
namespace Go.Proofs.YtifjmilegogbaaaGreat
open Go.RowKit
set_option maxRecDepth 100000

/-- Message of the page L, chunk k: the bytes R, the number d, the error c. -/
def MsgR (L : List Nat) (k : Int) (R : List Nat) (d c : Nat) : Prop :=
  (¬ (L.length = 256 ∧ 0 ≤ k ∧ k ≤ 3) ∧ R = [] ∧ d = 0 ∧ c = 1) ∨
  (∃ i : Nat, i < 4 ∧ k = i ∧ L.length = 256 ∧ ((IsDec (part 64 L i) none ∧ R = [] ∧ d = 0 ∧ c = 5) ∨ (Good L i (R, d) ∧ c = 0)))
/-- Data of the page L. -/
def DatR (L : List Nat) (R : List Nat) (d c : Nat) : Prop :=
  (L.length ≠ 256 ∧ R = [] ∧ d = 0 ∧ c = 1) ∨
  (L.length = 256 ∧ (∃ i, i < 3 ∧ IsDec (part 64 L i) none) ∧ R = [] ∧ d = 0 ∧ c = 5) ∨
  (L.length = 256 ∧ ∃ r0 r1 r2 : List Nat × Nat, Good L 0 r0 ∧ Good L 1 r1 ∧ Good L 2 r2 ∧ R = r0.1 ++ r1.1 ++ r2.1 ∧ d = max (max r0.2 r1.2) r2.2 ∧ c = 0)
/-- Body of the page L. -/
def BodR (L : List Nat) (R : List Nat) (d c : Nat) : Prop :=
  (L.length ≠ 256 ∧ R = [] ∧ d = 0 ∧ c = 1) ∨
  (L.length = 256 ∧ IsDec (part 64 L 3) none ∧ R = [] ∧ d = 0 ∧ c = 5) ∨
  (L.length = 256 ∧ ∃ r : List Nat × Nat, Good L 3 r ∧ ((r.1.drop 50 ≠ mk ∧ R = [] ∧ d = 0 ∧ c = 6) ∨ (r.1.drop 50 = mk ∧ R = r.1.take 50 ∧ d = r.2 ∧ c = 0)))
theorem Good.unique {L : List Nat} {i : Nat} {r r' : List Nat × Nat} (h : Good L i r) (h' : Good L i r') : r = r' := Option.some.inj (h.1.unique h'.1)
theorem Good.not_none {L : List Nat} {i : Nat} {r : List Nat × Nat} (h : Good L i r) (h' : IsDec (part 64 L i) none) : False := by
  have := h.1.unique h'
  cases this
theorem MsgR.unique {L : List Nat} {k : Int} {R R' : List Nat} {d c d' c' : Nat} (h : MsgR L k R d c) (h' : MsgR L k R' d' c') : R = R' ∧ d = d' ∧ c = c' := by
  rcases h with ⟨h1, rfl, rfl, rfl⟩ | ⟨i, hi, hk, hl, h⟩
  · rcases h' with ⟨_, rfl, rfl, rfl⟩ | ⟨i, hi, hk, hl, _⟩
    · exact ⟨rfl, rfl, rfl⟩
    · exact (h1 ⟨hl, by omega, by omega⟩).elim
  · rcases h' with ⟨h1, _⟩ | ⟨i', hi', hk', hl', h'⟩
    · exact (h1 ⟨hl, by omega, by omega⟩).elim
    · have e : i' = i := by omega
      subst e
      rcases h with ⟨h1, rfl, rfl, rfl⟩ | ⟨h1, rfl⟩ <;> rcases h' with ⟨h2, rfl, rfl, rfl⟩ | ⟨h2, rfl⟩
      · exact ⟨rfl, rfl, rfl⟩
      · exact (h2.not_none h1).elim
      · exact (h1.not_none h2).elim
      · have e := h1.unique h2
        simp only [Prod.mk.injEq] at e
        exact ⟨e.1, e.2, rfl⟩
theorem DatR.unique {L : List Nat} {R R' : List Nat} {d c d' c' : Nat} (h : DatR L R d c) (h' : DatR L R' d' c') : R = R' ∧ d = d' ∧ c = c' := by
  have nn : ∀ {r0 r1 r2 : List Nat × Nat} {i : Nat}, Good L 0 r0 → Good L 1 r1 → Good L 2 r2 → i < 3 → IsDec (part 64 L i) none → False := fun {r0 r1 r2 i} g0 g1 g2 hi hn => by
    have : i = 0 ∨ i = 1 ∨ i = 2 := by omega
    rcases this with rfl | rfl | rfl
    · exact g0.not_none hn
    · exact g1.not_none hn
    · exact g2.not_none hn
  rcases h with ⟨h1, rfl, rfl, rfl⟩ | ⟨h1, ⟨i, hi, hn⟩, rfl, rfl, rfl⟩ | ⟨h1, r0, r1, r2, g0, g1, g2, rfl, rfl, rfl⟩ <;> rcases h' with ⟨h2, rfl, rfl, rfl⟩ | ⟨h2, ⟨i', hi', hn'⟩, rfl, rfl, rfl⟩ | ⟨h2, r0', r1', r2', g0', g1', g2', rfl, rfl, rfl⟩
  · exact ⟨rfl, rfl, rfl⟩
  · exact (h1 h2).elim
  · exact (h1 h2).elim
  · exact (h2 h1).elim
  · exact ⟨rfl, rfl, rfl⟩
  · exact (nn g0' g1' g2' hi hn).elim
  · exact (h2 h1).elim
  · exact (nn g0 g1 g2 hi' hn').elim
  · have e0 := g0.unique g0'
    have e1 := g1.unique g1'
    have e2 := g2.unique g2'
    subst e0 e1 e2
    exact ⟨rfl, rfl, rfl⟩
theorem BodR.unique {L : List Nat} {R R' : List Nat} {d c d' c' : Nat} (h : BodR L R d c) (h' : BodR L R' d' c') : R = R' ∧ d = d' ∧ c = c' := by
  rcases h with ⟨h1, rfl, rfl, rfl⟩ | ⟨h1, hn, rfl, rfl, rfl⟩ | ⟨h1, r, g, h⟩ <;> rcases h' with ⟨h2, rfl, rfl, rfl⟩ | ⟨h2, hn', rfl, rfl, rfl⟩ | ⟨h2, r', g', h'⟩
  · exact ⟨rfl, rfl, rfl⟩
  · exact (h1 h2).elim
  · exact (h1 h2).elim
  · exact (h2 h1).elim
  · exact ⟨rfl, rfl, rfl⟩
  · exact (g'.not_none hn).elim
  · exact (h2 h1).elim
  · exact (g.not_none hn').elim
  · have e := g.unique g'
    subst e
    rcases h with ⟨h3, rfl, rfl, rfl⟩ | ⟨h3, rfl, rfl, rfl⟩ <;> rcases h' with ⟨h4, rfl, rfl, rfl⟩ | ⟨h4, rfl, rfl, rfl⟩
    · exact ⟨rfl, rfl, rfl⟩
    · exact (h3 h4).elim
    · exact (h4 h3).elim
    · exact ⟨rfl, rfl, rfl⟩
/-- A number of an error that is told of a page. -/
def IsCode (c : Nat) : Prop := c = 0 ∨ c = 1 ∨ c = 5 ∨ c = 6
theorem MsgR.code {L : List Nat} {k : Int} {R : List Nat} {d c : Nat} (h : MsgR L k R d c) : IsCode c ∧ R.length ≤ 58 ∧ d ≤ 2 := by
  rcases h with ⟨_, rfl, rfl, rfl⟩ | ⟨i, _, _, _, ⟨_, rfl, rfl, rfl⟩ | ⟨h, rfl⟩⟩
  · exact ⟨by simp [IsCode], by simp, by omega⟩
  · exact ⟨by simp [IsCode], by simp, by omega⟩
  · exact ⟨by simp [IsCode], Nat.le_of_eq h.2.1, h.2.2.2⟩
theorem DatR.code {L : List Nat} {R : List Nat} {d c : Nat} (h : DatR L R d c) : IsCode c ∧ R.length ≤ 174 ∧ d ≤ 2 := by
  rcases h with ⟨_, rfl, rfl, rfl⟩ | ⟨_, _, rfl, rfl, rfl⟩ | ⟨_, r0, r1, r2, g0, g1, g2, rfl, rfl, rfl⟩
  · exact ⟨by simp [IsCode], by simp, by omega⟩
  · exact ⟨by simp [IsCode], by simp, by omega⟩
  · have h0 := g0.2.1
    have h1 := g1.2.1
    have h2 := g2.2.1
    have k0 := g0.2.2.2
    have k1 := g1.2.2.2
    have k2 := g2.2.2.2
    exact ⟨by simp [IsCode], by simp only [List.length_append]; omega, by omega⟩
theorem BodR.code {L : List Nat} {R : List Nat} {d c : Nat} (h : BodR L R d c) : IsCode c ∧ R.length ≤ 50 ∧ d ≤ 2 := by
  rcases h with ⟨_, rfl, rfl, rfl⟩ | ⟨_, _, rfl, rfl, rfl⟩ | ⟨_, r, g, ⟨_, rfl, rfl, rfl⟩ | ⟨_, rfl, rfl, rfl⟩⟩
  · exact ⟨by simp [IsCode], by simp, by omega⟩
  · exact ⟨by simp [IsCode], by simp, by omega⟩
  · exact ⟨by simp [IsCode], by simp, by omega⟩
  · exact ⟨by simp [IsCode], by simp; omega, g.2.2.2⟩
theorem code_any (c : Nat) (h : IsCode c) (w : World) : Calls Tryz.prog 37 #[errV c] w fun e w' => e = .returned (.int .i64 c) ∧ w' = w := by
  rcases h with rfl | rfl | rfl | rfl
  · exact code_0 w
  · exact code_1 w
  · exact code_5 w
  · exact code_6 w

/-- An answer of the program: bytes of its own, a number, an error. -/
def PAns (w' : World) (base : Nat) (Q : List Nat → Nat → Nat → Prop) (e : Ending) : Prop :=
  ∃ (a : Option Addr) (n cap : Nat) (R : List Nat) (d c : Nat), e = .returned (.tuple #[.slice a n cap, .int .i64 (d : Int), errV c]) ∧ n = R.length ∧ Q R d c ∧ OwnT w' base 5 (.slice a n cap) R
/-- An answer of the document. -/
def RAns (w' : World) (Q : List Nat → Nat → Nat → Prop) (e : Ending) : Prop :=
  ∃ (a : Option Addr) (n cap : Nat) (R : List Nat) (d c : Nat), e = .returned (.tuple #[.slice a n cap, .int .i64 (d : Int), .int .i64 (c : Int)]) ∧ n = R.length ∧ Q R d c ∧ Held w' (.slice a n cap) R
theorem ownT_nil (w : World) (base : Nat) : OwnT w base 5 (.slice none 0 0) [] := Or.inl (Own.nil w base 5)
theorem held_nil (w : World) : Held w (.slice none 0 0) [] := ⟨none, 0, rfl, Or.inl rfl⟩

theorem message_v (p q b : Nat) (w : World) (h : Frm w p q b) (c o n cap : Nat) (L : List Nat) (hn : n = L.length) (bL : Bys L) (hcb : c ≠ b) (hcs : c < w.heap.size) (hcap : n ≤ cap) (hh : Held w (.slice (some ⟨c, o, none⟩) n cap) L) (k : Int) :
    Calls Tryz.prog 111 #[.pointer (some ⟨p, 0, none⟩), .slice (some ⟨c, o, none⟩) n cap, .int .i64 k] w fun e w' => PAns w' w.heap.size (MsgR L k) e ∧ Frm w' p q b ∧ But b w w' := by
  by_cases h256 : L.length = 256
  · have e : n = 256 := by omega
    subst e
    have hcell := (held_cells hh (by omega)).2
    refine (message_any p q b w h c o cap L h256 bL hcb hcs (by omega) (fun i hi => hcell i (by omega)) k).mono ?_
    rintro e w' ⟨hA, F, B⟩
    refine ⟨?_, F, B⟩
    rcases hA with ⟨i, hi, hk, ⟨hN, rfl⟩ | ⟨m, d, g, h1, h2, h3, h4, rfl, h6, h7⟩⟩ | ⟨hk, rfl⟩
    · exact ⟨none, 0, 0, [], 0, 5, rfl, rfl, Or.inr ⟨i, hi, hk, h256, Or.inl ⟨hN, rfl, rfl, rfl⟩⟩, ownT_nil _ _⟩
    · exact ⟨_, 58, 58, m, d, 0, rfl, h3.symm, Or.inr ⟨i, hi, hk, h256, Or.inr ⟨⟨h1, h3, h4, h2⟩, rfl⟩⟩, h7.own h6 58 h3.symm (by decide)⟩
    · exact ⟨none, 0, 0, [], 0, 1, rfl, rfl, Or.inl ⟨fun h => hk h.2, rfl, rfl, rfl⟩, ownT_nil _ _⟩
  · refine (message_arg p w _ n cap k (by omega)).mono ?_
    rintro e w' ⟨rfl, G⟩
    exact ⟨⟨none, 0, 0, [], 0, 1, rfl, rfl, Or.inl ⟨fun h => h256 h.1, rfl, rfl, rfl⟩, ownT_nil _ _⟩, h.chg G, G.but⟩
theorem data_v (p q b : Nat) (w : World) (h : Frm w p q b) (c o n cap : Nat) (L : List Nat) (hn : n = L.length) (bL : Bys L) (hcb : c ≠ b) (hcs : c < w.heap.size) (hcap : n ≤ cap) (hh : Held w (.slice (some ⟨c, o, none⟩) n cap) L) :
    Calls Tryz.prog 81 #[.pointer (some ⟨p, 0, none⟩), .slice (some ⟨c, o, none⟩) n cap] w fun e w' => PAns w' w.heap.size (DatR L) e ∧ Frm w' p q b ∧ But b w w' := by
  by_cases h256 : L.length = 256
  · have e : n = 256 := by omega
    subst e
    have hcell := (held_cells hh (by omega)).2
    refine (data_any p q b w h c o cap L h256 bL hcb hcs (by omega) (fun i hi => hcell i (by omega))).mono ?_
    rintro e w' ⟨hA, F, B⟩
    refine ⟨?_, F, B⟩
    rcases hA with ⟨i, hi, hN, rfl⟩ | ⟨r0, r1, r2, a, cap', g0, g1, g2, rfl, O⟩
    · exact ⟨none, 0, 0, [], 0, 5, rfl, rfl, Or.inr (Or.inl ⟨h256, ⟨i, hi, hN⟩, rfl, rfl, rfl⟩), ownT_nil _ _⟩
    · have hl : (r0.1 ++ r1.1 ++ r2.1).length = 174 := by
        have h0 := g0.2.1
        have h1 := g1.2.1
        have h2 := g2.2.1
        simp only [List.length_append]; omega
      exact ⟨a, 174, cap', _, _, 0, rfl, hl.symm, Or.inr (Or.inr ⟨h256, r0, r1, r2, g0, g1, g2, rfl, rfl, rfl⟩), O.t⟩
  · refine (data_arg p w _ n cap (by omega)).mono ?_
    rintro e w' ⟨rfl, G⟩
    exact ⟨⟨none, 0, 0, [], 0, 1, rfl, rfl, Or.inl ⟨h256, rfl, rfl, rfl⟩, ownT_nil _ _⟩, h.chg G, G.but⟩
theorem body_v (p q b : Nat) (w : World) (h : Frm w p q b) (c o n cap : Nat) (L : List Nat) (hn : n = L.length) (bL : Bys L) (hcb : c ≠ b) (hcs : c < w.heap.size) (hcap : n ≤ cap) (hh : Held w (.slice (some ⟨c, o, none⟩) n cap) L) :
    Calls Tryz.prog 112 #[.pointer (some ⟨p, 0, none⟩), .slice (some ⟨c, o, none⟩) n cap] w fun e w' => PAns w' w.heap.size (BodR L) e ∧ Frm w' p q b ∧ But b w w' := by
  by_cases h256 : L.length = 256
  · have e : n = 256 := by omega
    subst e
    have hcell := (held_cells hh (by omega)).2
    refine (body_any p q b w h c o cap L h256 bL hcb hcs (by omega) (fun i hi => hcell i (by omega))).mono ?_
    rintro e w' ⟨hA, F, B⟩
    refine ⟨?_, F, B⟩
    rcases hA with ⟨hN, rfl⟩ | ⟨r, g, hm, rfl⟩ | ⟨r, gg, g, hm, rfl, hg, A⟩
    · exact ⟨none, 0, 0, [], 0, 5, rfl, rfl, Or.inr (Or.inl ⟨h256, hN, rfl, rfl, rfl⟩), ownT_nil _ _⟩
    · exact ⟨none, 0, 0, [], 0, 6, rfl, rfl, Or.inr (Or.inr ⟨h256, r, g, Or.inl ⟨hm, rfl, rfl, rfl⟩⟩), ownT_nil _ _⟩
    · have hrl := g.2.1
      exact ⟨_, 50, 50, r.1.take 50, r.2, 0, rfl, by rw [List.length_take, hrl]; rfl, Or.inr (Or.inr ⟨h256, r, g, Or.inr ⟨hm, rfl, rfl, rfl⟩⟩), A.tight hg 50 (by omega) (by decide)⟩
  · refine (body_arg p w _ n cap (by omega)).mono ?_
    rintro e w' ⟨rfl, G⟩
    exact ⟨⟨none, 0, 0, [], 0, 1, rfl, rfl, Or.inl ⟨h256, rfl, rfl, rfl⟩, ownT_nil _ _⟩, h.chg G, G.but⟩

theorem rmsg_v (w : World) (a : Option Addr) (n cap : Nat) (L : List Nat) (hn : n = L.length) (bL : Bys L) (hcap : n ≤ cap) (hh : Held w (.slice a n cap) L) (k : Int) :
    Calls Tryz.prog 92 #[.slice a n cap, .int .i64 k] w fun e w' => RAns w' (MsgR L k) e ∧ Chg (fun _ => False) w w' := by
  by_cases h256 : L.length = 256
  · have e : n = 256 := by omega
    subst e
    by_cases hk : 0 ≤ k ∧ k ≤ 3
    · obtain ⟨i, rfl⟩ : ∃ i : Nat, k = i := ⟨k.toNat, by omega⟩
      obtain ⟨a', c', hv, h | ⟨g', o', ha, hg', hc⟩⟩ := hh
      · omega
      · simp only [Value.slice.injEq] at hv
        obtain ⟨hv, -, -⟩ := hv
        subst hv
        subst ha
        refine (rmsg_any w g' o' cap L h256 bL hg' (by omega) (fun i hi => hc i (by omega)) i (by omega)).mono ?_
        rintro e w' ⟨hA, G⟩
        refine ⟨?_, G⟩
        rcases hA with ⟨hN, rfl⟩ | ⟨r, g, cr, hg, rfl, -, hH⟩
        · exact ⟨none, 0, 0, [], 0, 5, rfl, rfl, Or.inr ⟨i, by omega, rfl, h256, Or.inl ⟨hN, rfl, rfl, rfl⟩⟩, held_nil _⟩
        · exact ⟨_, 58, cr, r.1, r.2, 0, rfl, hg.2.1.symm, Or.inr ⟨i, by omega, rfl, h256, Or.inr ⟨hg, rfl⟩⟩, hH⟩
    · refine (rmsg_out w a cap k hk).mono ?_
      rintro e w' ⟨rfl, rfl⟩
      exact ⟨⟨none, 0, 0, [], 0, 1, rfl, rfl, Or.inl ⟨fun h => hk h.2, rfl, rfl, rfl⟩, held_nil _⟩, Chg.refl _ _⟩
  · refine (rmsg_len w a n cap k (by omega)).mono ?_
    rintro e w' ⟨rfl, rfl⟩
    exact ⟨⟨none, 0, 0, [], 0, 1, rfl, rfl, Or.inl ⟨fun h => h256 h.1, rfl, rfl, rfl⟩, held_nil _⟩, Chg.refl _ _⟩
theorem rdata_v (w : World) (a : Option Addr) (n cap : Nat) (L : List Nat) (hn : n = L.length) (bL : Bys L) (hcap : n ≤ cap) (hh : Held w (.slice a n cap) L) :
    Calls Tryz.prog 95 #[.slice a n cap] w fun e w' => RAns w' (DatR L) e ∧ Chg (fun _ => False) w w' := by
  by_cases h256 : L.length = 256
  · have e : n = 256 := by omega
    subst e
    obtain ⟨a', c', hv, h | ⟨g', o', ha, hg', hc⟩⟩ := hh
    · omega
    · simp only [Value.slice.injEq] at hv
      obtain ⟨hv, -, -⟩ := hv
      subst hv
      subst ha
      refine (rdata_any w g' o' cap L h256 bL hg' (by omega) (fun i hi => hc i (by omega))).mono ?_
      rintro e w' ⟨hA, G⟩
      refine ⟨?_, G⟩
      rcases hA with ⟨i, hi, hN, rfl⟩ | ⟨r0, r1, r2, a, cap', g0, g1, g2, rfl, O⟩
      · exact ⟨none, 0, 0, [], 0, 5, rfl, rfl, Or.inr (Or.inl ⟨h256, ⟨i, hi, hN⟩, rfl, rfl, rfl⟩), held_nil _⟩
      · have hl : (r0.1 ++ r1.1 ++ r2.1).length = 174 := by
          have h0 := g0.2.1
          have h1 := g1.2.1
          have h2 := g2.2.1
          simp only [List.length_append]; omega
        exact ⟨a, 174, cap', _, _, 0, rfl, hl.symm, Or.inr (Or.inr ⟨h256, r0, r1, r2, g0, g1, g2, rfl, rfl, rfl⟩), O⟩
  · refine (rdata_len w a n cap (by omega)).mono ?_
    rintro e w' ⟨rfl, rfl⟩
    exact ⟨⟨none, 0, 0, [], 0, 1, rfl, rfl, Or.inl ⟨h256, rfl, rfl, rfl⟩, held_nil _⟩, Chg.refl _ _⟩
theorem rbody_v (w : World) (a : Option Addr) (n cap : Nat) (L : List Nat) (hn : n = L.length) (bL : Bys L) (hcap : n ≤ cap) (hh : Held w (.slice a n cap) L) :
    Calls Tryz.prog 93 #[.slice a n cap] w fun e w' => RAns w' (BodR L) e ∧ Chg (fun _ => False) w w' := by
  by_cases h256 : L.length = 256
  · have e : n = 256 := by omega
    subst e
    obtain ⟨a', c', hv, h | ⟨g', o', ha, hg', hc⟩⟩ := hh
    · omega
    · simp only [Value.slice.injEq] at hv
      obtain ⟨hv, -, -⟩ := hv
      subst hv
      subst ha
      refine (rbody_any w g' o' cap L h256 bL hg' (by omega) (fun i hi => hc i (by omega))).mono ?_
      rintro e w' ⟨hA, G⟩
      refine ⟨?_, G⟩
      rcases hA with ⟨hN, rfl⟩ | ⟨r, g, hm, rfl⟩ | ⟨r, gg, cr, g, hm, rfl, H⟩
      · exact ⟨none, 0, 0, [], 0, 5, rfl, rfl, Or.inr (Or.inl ⟨h256, hN, rfl, rfl, rfl⟩), held_nil _⟩
      · exact ⟨none, 0, 0, [], 0, 6, rfl, rfl, Or.inr (Or.inr ⟨h256, r, g, Or.inl ⟨hm, rfl, rfl, rfl⟩⟩), held_nil _⟩
      · have hrl := g.2.1
        exact ⟨_, 50, cr, r.1.take 50, r.2, 0, rfl, by rw [List.length_take, hrl]; rfl, Or.inr (Or.inr ⟨h256, r, g, Or.inr ⟨hm, rfl, rfl, rfl⟩⟩), H⟩
  · refine (rbody_len w a n cap (by omega)).mono ?_
    rintro e w' ⟨rfl, rfl⟩
    exact ⟨⟨none, 0, 0, [], 0, 1, rfl, rfl, Or.inl ⟨h256, rfl, rfl, rfl⟩, held_nil _⟩, Chg.refl _ _⟩
end Go.Proofs.YtifjmilegogbaaaGreat
