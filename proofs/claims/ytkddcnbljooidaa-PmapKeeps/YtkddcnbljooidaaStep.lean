/-
  The document's example; both maps lie alike; one thing is done with both. No condition.
-/
import Derived.Test.YtkddcnbljooidaaViews
import Derived.Deep.RegionHeld3
namespace Go.Proofs.Ytkddcnbljooidaa
set_option maxRecDepth 100000
open Go.RowKit

theorem up_any (w : World) : Calls Try.prog 5 #[] w fun e w' => e = .returned (.bool true) ∧ Chg (fun _ => False) w w' := by
  have q1 := eql_nil
  have q2 := eql_1_1
  obtain ⟨b, HB⟩ : ∃ b, Hid (b = w.heap.size) := ⟨_, rfl⟩
  go_enter Try.func5, Try.ntmps5
  go_wp2_with fail
  refine (new_any w).mono ?_
  rintro e w1 ⟨rfl, K1, G1⟩
  rw [← HB.out] at K1
  rw [← HB.out]
  have HG1 := hyd G1
  have HK1 := hyd K1
  clear G1 K1
  go_wp2_with fail
  refine (set_yes w1 b _ HK1.out Okl.none 3 9 (by decide) (Or.inl (by decide))).mono ?_
  rintro e w2 ⟨rfl, K2, G2, O2⟩
  have HG2 := hyd (HG1.out.trans' G2 (fun i hi e => by rw [e, HB.out] at hi; exact absurd hi (Nat.lt_irrefl _)))
  have HK2 := hyd K2
  have HO2 := hyd O2
  clear G2 K2 HG1 HK1 O2
  go_wp2_with fail
  refine (set_yes w2 b _ HK2.out HO2.out 4 8 (by decide) (Or.inl (by decide))).mono ?_
  rintro e w3 ⟨rfl, K3, G3, O3⟩
  have HG3 := hyd (HG2.out.trans' G3 (fun i hi e => by rw [e, HB.out] at hi; exact absurd hi (Nat.lt_irrefl _)))
  have HK3 := hyd K3
  clear G3 K3 HG2 HK2 O3 HO2
  go_wp2_with fail
  refine (of_yes w3 b _ HK3.out 1 (by decide)).mono ?_
  rintro e w4 ⟨⟨a, cap, rfl, O4⟩, G4⟩
  have hl : ofL (upd (upd (fun _ => -1) 3 ((9 : Nat) : Int)) 4 ((8 : Nat) : Int)) 1 = [4, 3] := by decide
  rw [hl] at O4
  rw [hl]
  obtain ⟨g, c, hv, hg, hlt, hcl, -⟩ := O4.lies (by decide)
  simp only [Value.slice.injEq] at hv
  obtain ⟨rfl, -, -⟩ := hv
  have HCL := hyd hcl
  have HG4 := hyd (HG3.out.trans G4)
  have HLT := hyd hlt
  have HLE := hyd hg
  clear O4 hl hcl G4 hlt hg HK3
  go_wp2_with fail
  refine (set_arg w4 b 2 6 (by decide)).mono ?_
  rintro e w5 ⟨rfl, rfl⟩
  have c0 : w5.cell? ⟨g, 0, none⟩ = some (.int .i64 4) := HCL.out 0 (by decide)
  have c1 : w5.cell? ⟨g, 1, none⟩ = some (.int .i64 3) := HCL.out 1 (by decide)
  clear HCL
  go_wp2
  go_ret
  exact ⟨rfl, HG4.out⟩
set_option maxHeartbeats 4000000 in
theorem stands_any (w : World) (p r : Nat) (L : Nat → Int) (hF : Mp w p L) (hG : IB w r 50 25 L) : Calls Try.prog 9 #[.pointer (some ⟨p, 0, none⟩), .pointer (some ⟨r, 0, none⟩)] w fun e w' => e = .returned (.bool true) ∧ Chg (fun _ => False) w w' := by
  have q := neq_nil
  have HR := hyd hG
  have HP := hyd hF
  obtain ⟨s, HB⟩ : ∃ s, Hid (s = w.heap.size) := ⟨_, rfl⟩
  have hs := live_any w p L hF
  clear hF hG
  go_enter Try.func9, Try.ntmps9
  go_wp2_with fail
  refine hs.mono ?_
  rintro e w1 ⟨rfl, K1, G1⟩
  rw [← HB.out] at K1
  rw [← HB.out]
  have HG1 := hyd G1
  have HK1 := hyd K1
  clear G1 K1 hs
  go_wp2_with fail
  go_loopg [6] 12 (fun kx s6 wr => ∃ i : Nat, s6 = .int .i64 i ∧ i ≤ 12 ∧ 12 - i ≤ kx ∧ Hid (IB wr s 3 12 (fun k => (lvK L 96 k : Nat))) ∧ Hid (Chg (fun _ => False) w wr))
  case atStart => exact ⟨0, rfl, by omega, by omega, HK1, HG1⟩
  case round =>
  clear HK1 HG1
  obtain ⟨i, rfl, hin, hkx, HK, HG⟩ := hrel
  by_cases hlt : i < 12
  · have hltz : (i : Int) < 12 := by omega
    have HL := hyd (lvK_all L hlt)
    have HN := hyd (ofK_length L i 8)
    go_wp2_with fail
    refine (of_yes wr p L (HP.out.chg HG.out (fun f => f)) i hlt).mono ?_
    rintro e w2 ⟨⟨a1, c1, rfl, O2⟩, G2⟩
    have HO2 := hyd O2
    have HG2 := hyd G2
    clear O2 G2
    go_wp2_with fail
    refine (rof_yes w2 r L (HR.out.chg (HG.out.trans HG2.out) (fun f => f)) i hlt).mono ?_
    rintro e w3 ⟨⟨a2, c2, rfl, O3⟩, G3⟩
    have HO3 := hyd O3
    have HG3 := hyd (HG2.out.trans G3)
    have HO2' := hyd (HO2.out.new G3)
    have HNE : Hid (∀ k, (Value.slice a1 (ofL L i).length c1).ownBlock = some k → (Value.slice a2 (ofL L i).length c2).ownBlock = some k → False) := fun k e1 e2 => by
      have h1 := (HO2.out.block e1).2
      have h2 := (HO3.out.block e2).1
      omega
    clear O3 G3 HG2
    go_wp2_with fail
    refine (same_any w3 wr.heap.size w2.heap.size a1 a2 (ofL L i).length c1 c2 (ofL L i) rfl (by have := HN.out; unfold ofL; omega) HO2'.out HO3.out HNE.out).mono ?_
    rintro e w4 ⟨rfl, G4⟩
    have HG4 : Hid (Chg (fun _ => False) wr w4) := HG3.out.trans' G4 (fun k hk e => by have := (HO2.out.block e).1; omega)
    obtain ⟨c, -⟩ := (HK.out.chg HG4.out (fun f => f)).cell i hlt
    rw [HL.out] at c
    have heq : (((ofL L i).length : Int) == ((ofL L i).length : Int)) = true := by simp
    clear G4 HO2 HO3 HO2' HNE HG3
    go_wp2
    go_roundg (12 - (i + 1))
    case measure => omega
    case rel => exact ⟨i + 1, by simp, by omega, Nat.le_refl _, HK.out.chg HG4.out (fun f => f), HG.out.trans HG4.out⟩
  · have hltz : ¬ (i : Int) < 12 := by omega
    go_wp2
    go_ret
    exact ⟨rfl, HG.out⟩
/-- Program and document stand alike. -/
structure Two (w0 w : World) (p r : Nat) (L : Nat → Int) : Prop where
  map : Mp w p L
  ref : IB w r 50 25 L
  ok : Okl L
  ne : p ≠ r
  lp : w0.heap.size ≤ p
  lr : w0.heap.size ≤ r
  chg : Chg (fun _ => False) w0 w
theorem Two.still {w0 w w' : World} {p r : Nat} {L : Nat → Int} (h : Two w0 w p r L) (hc : Chg (fun _ => False) w w') : Two w0 w' p r L :=
  { h with map := h.map.chg hc (fun f => f), ref := h.ref.chg hc (fun f => f), chg := h.chg.trans hc }
/-- Both were changed. -/
theorem Two.both {w0 w w1 w2 : World} {p r : Nat} {L L' : Nat → Int} (h : Two w0 w p r L) (K1 : Mp w1 p L') (G1 : Chg (· = p) w w1) (O1 : Okl L') (K2 : IB w2 r 50 25 L') (G2 : Chg (· = r) w1 w2) : Two w0 w2 p r L' :=
  { h with
    map := K1.chg G2 h.ne
    ref := K2
    ok := O1
    chg := (h.chg.trans' G1 (fun i hi e => by have := h.lp; omega)).trans' G2 (fun i hi e => by have := h.lr; omega) }
/-- What a step answers. -/
def StAns (w0 w' : World) (p r : Nat) (e : Ending) : Prop := e = .returned (.bool true) ∧ ∃ L, Two w0 w' p r L
/-- An operation's three cells. -/
def op3 (K A B : Int) : Nat → Int := fun i => if i = 0 then K else if i = 1 then A else B
theorem op3_row (K A B : Int) : (ints (op3 K A B) 3).toArray = #[.int .i64 K, .int .i64 A, .int .i64 B] := rfl
set_option maxHeartbeats 8000000 in
theorem step_any (w0 w : World) (p r : Nat) (L : Nat → Int) (h : Two w0 w p r L) (K A B : Int) (h1 : -9223372036854775808 ≤ K) (h2 : K ≤ 9223372036854775807) :
    Calls Try.prog 8 #[.pointer (some ⟨p, 0, none⟩), .pointer (some ⟨r, 0, none⟩), .agg #[.int .i64 K, .int .i64 A, .int .i64 B]] w fun e w' => StAns w0 w' p r e := by
  have G0 : Chg (fun _ => False) w (w.alloc (.cells #[.int .i64 K, .int .i64 A, .int .i64 B] 30)) := (Chg.refl _ w).alloc _
  have O0 : IB (w.alloc (.cells #[.int .i64 K, .int .i64 A, .int .i64 B] 30)) w.heap.size 30 3 (op3 K A B) := IB.new w 30 3 (op3 K A B)
  have HS := hyd (h.still G0)
  have hpo : p ≠ w.heap.size := Nat.ne_of_lt h.map.lt
  have hro : r ≠ w.heap.size := Nat.ne_of_lt h.ref.lt
  obtain ⟨o0, -⟩ := O0.cell 0 (by omega)
  obtain ⟨o1, -⟩ := O0.cell 1 (by omega)
  obtain ⟨o2, -⟩ := O0.cell 2 (by omega)
  have HO := hyd O0
  clear G0 O0 h
  go_enter Try.func8, Try.ntmps8
  go_wp2_with fail
  generalize w.alloc (.cells #[.int .i64 K, .int .i64 A, .int .i64 B] 30) = w1 at *
  generalize w.heap.size = o at *
  refine (pick_any K h1 h2 6 (by omega) (by omega) _).mono ?_
  rintro e w1 ⟨⟨q, hq, rfl⟩, rfl⟩
  have hcase : q = 0 ∨ q = 1 ∨ q = 2 ∨ q = 3 ∨ q = 4 ∨ q = 5 := by omega
  clear hq o0
  rcases hcase with rfl | rfl | rfl | rfl | rfl | rfl
  · go_wp2_with fail
    refine (set_v w1 p L HS.out.map HS.out.ok A B).mono ?_
    rintro e w2 ⟨rfl, K2, G2, Q2⟩
    have O2 := HO.out.chg G2 hpo.symm
    obtain ⟨u1, -⟩ := O2.cell 1 (by omega)
    obtain ⟨u2, -⟩ := O2.cell 2 (by omega)
    have HK2 := hyd K2
    have HG2 := hyd G2
    have HQ2 := hyd Q2
    have HR2 := hyd (HS.out.ref.chg G2 HS.out.ne.symm)
    have HO2 := hyd O2
    clear K2 G2 O2 o1 o2 HO Q2
    go_wp2_with fail
    go_region_held3 (fun wx => wx.cell? ⟨o, 1, none⟩ = some (.int .i64 A) ∧ wx.cell? ⟨o, 2, none⟩ = some (.int .i64 B))
      (first | exact ⟨u1, u2⟩ | exact ⟨z1, z2⟩)
      (first
        | (go_at_call 17; refine (code_v _ (setC_code L A B) _).mono ?_; rintro x w3 ⟨rfl, rfl⟩)
        | (go_at_call 18; refine (rset_v _ r L HR2.out.drew A B).mono ?_; rintro x w4 ⟨rfl, K4, G4⟩; have O4 := (HO2.out.chg (Chg.refl (fun _ => False) w2).drew (fun f => f)).chg G4 hro.symm; obtain ⟨z1, -⟩ := O4.cell 1 (by omega); obtain ⟨z2, -⟩ := O4.cell 2 (by omega); have HT := hyd (HS.out.both HK2.out HG2.out HQ2.out K4 ((Chg.refl _ _).drew.trans G4)); clear K4 G4 O4))
    have heq : (((setC L A B : Nat) : Int) == ((setC L A B : Nat) : Int)) = true := by simp
    clear HS
    have HEQ := hyd heq
    clear heq
    go_wp2
    go_ret
    exact ⟨by first | rfl | exact congrArg (fun z => Ending.returned (.bool z)) HEQ.out, _, HT.out⟩
  · go_wp2_with fail
    refine (drop_v w1 p L HS.out.map HS.out.ok A).mono ?_
    rintro e w2 ⟨rfl, K2, G2, Q2⟩
    have O2 := HO.out.chg G2 hpo.symm
    obtain ⟨u1, -⟩ := O2.cell 1 (by omega)
    have HK2 := hyd K2
    have HG2 := hyd G2
    have HQ2 := hyd Q2
    have HR2 := hyd (HS.out.ref.chg G2 HS.out.ne.symm)
    have HO2 := hyd O2
    clear K2 G2 O2 o1 o2 HO Q2
    go_wp2_with fail
    go_region_held3 (fun wx => wx.cell? ⟨o, 1, none⟩ = some (.int .i64 A))
      (first | exact u1 | exact z1)
      (first
        | (go_at_call 17; refine (code_v _ (atC_code L A) _).mono ?_; rintro x w3 ⟨rfl, rfl⟩)
        | (go_at_call 19; refine (rdrop_v _ r L HR2.out.drew HS.out.ok A).mono ?_; rintro x w4 ⟨rfl, K4, G4⟩; have O4 := (HO2.out.chg (Chg.refl (fun _ => False) w2).drew (fun f => f)).chg G4 hro.symm; obtain ⟨z1, -⟩ := O4.cell 1 (by omega); have HT := hyd (HS.out.both HK2.out HG2.out HQ2.out K4 ((Chg.refl _ _).drew.trans G4)); clear K4 G4 O4))
    have heq : (((atC L A : Nat) : Int) == ((atC L A : Nat) : Int)) = true := by simp
    clear HS
    have HEQ := hyd heq
    clear heq
    go_wp2
    go_ret
    exact ⟨by first | rfl | exact congrArg (fun z => Ending.returned (.bool z)) HEQ.out, _, HT.out⟩
  · go_wp2_with fail
    refine (at_v w1 p L HS.out.map A).mono ?_
    rintro e w2 ⟨rfl, rfl⟩
    go_wp2_with fail
    refine (rat_v w2 r L HS.out.ref HS.out.ok A).mono ?_
    rintro e w3 ⟨rfl, rfl⟩
    have hc' := atC_code L A
    have HT := hyd HS.out
    clear HS o1 o2 HO
    go_wp2_with (go_at_call 17; refine (code_v _ hc' _).mono ?_; rintro x w4 ⟨rfl, rfl⟩)
    go_ret
    exact ⟨rfl, _, HT.out⟩
  · go_wp2_with fail
    refine (owner_v w1 p L HS.out.map A).mono ?_
    rintro e w2 ⟨rfl, rfl⟩
    go_wp2_with fail
    refine (rowner_v w2 r L HS.out.ref A).mono ?_
    rintro e w3 ⟨rfl, rfl⟩
    have hc' := owC_code L A
    have HT := hyd HS.out
    clear HS o1 o2 HO
    go_wp2_with (go_at_call 17; refine (code_v _ hc' _).mono ?_; rintro x w4 ⟨rfl, rfl⟩)
    go_ret
    exact ⟨rfl, _, HT.out⟩
  · have HN := hyd (ofV_length L A)
    go_wp2_with fail
    refine (of_v w1 p L HS.out.map A).mono ?_
    rintro e w2 ⟨⟨a1, c1, rfl, O2⟩, G2⟩
    have HO2 := hyd O2
    have HG2 := hyd G2
    have HS2 := hyd (HS.out.still G2)
    obtain ⟨u1, -⟩ := (HO.out.chg G2 (fun f => f)).cell 1 (by omega)
    clear O2 G2 o1 o2 HO
    go_wp2_with fail
    refine (rof_v w2 r L HS2.out.ref A).mono ?_
    rintro e w3 ⟨⟨a2, c2, rfl, O3⟩, G3⟩
    have HO3 := hyd O3
    have HG3 := hyd (HG2.out.trans G3)
    have HO2' := hyd (HO2.out.new G3)
    have HNE : Hid (∀ k, (Value.slice a1 (ofV L A).length c1).ownBlock = some k → (Value.slice a2 (ofV L A).length c2).ownBlock = some k → False) := fun k e1 e2 => by
      have h1 := (HO2.out.block e1).2
      have h2 := (HO3.out.block e2).1
      omega
    clear O3 G3 HG2 HS2 u1
    go_wp2_with fail
    refine (same_any w3 w1.heap.size w2.heap.size a1 a2 (ofV L A).length c1 c2 (ofV L A) rfl (by have := HN.out; omega) HO2'.out HO3.out HNE.out).mono ?_
    rintro e w4 ⟨rfl, G4⟩
    have HT := hyd (HS.out.still (HG3.out.trans' G4 (fun k hk e => by have := (HO2.out.block e).1; omega)))
    have hc' := ofC_code A
    clear G4 HO2 HO3 HO2' HNE HG3 HS
    go_wp2_with (go_at_call 17; refine (code_v _ hc' _).mono ?_; rintro x w4 ⟨rfl, rfl⟩)
    go_ret
    exact ⟨rfl, _, HT.out⟩
  · go_wp2_with fail
    refine (stands_any w1 p r L HS.out.map HS.out.ref).mono ?_
    rintro e w2 ⟨rfl, G2⟩
    have HT := hyd (HS.out.still G2)
    clear HS G2 o1 o2 HO
    go_wp2
    go_ret
    exact ⟨rfl, _, HT.out⟩
end Go.Proofs.Ytkddcnbljooidaa
