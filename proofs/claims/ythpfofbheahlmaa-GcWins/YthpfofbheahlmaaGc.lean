/-
  What gc's Choose and Gain answer. Condition: the lists lie in memory.
-/
import Derived.Test.YthpfofbheahlmaaMath
import Derived.Test.YthpfofbheahlmaaPick
import Derived.Test.YthpfofbheahlmaaIn
namespace Go.Proofs.Ythpfofbheahlmaa
set_option maxRecDepth 100000
open Go.RowKit

/-- n ints lie where the slice's address says. -/
def Lies (w : World) (a : Option Addr) (n : Nat) (V : Nat → Int) : Prop := n = 0 ∨ ∃ g o, a = some ⟨g, o, none⟩ ∧ g < w.heap.size ∧ ∀ i, i < n → w.cell? ⟨g, o + i, none⟩ = some (.int .i64 (V i))
theorem IsInts.lies {w : World} {a : Option Addr} {n : Nat} {V : Nat → Int} (h : IsInts w a n V) : Lies w a n V := h.2
theorem Lies.chg {w w' : World} {a : Option Addr} {n : Nat} {V : Nat → Int} (h : Lies w a n V) (hc : Chg (fun _ => False) w w') : Lies w' a n V := by
  rcases h with h0 | ⟨g, o, e, hg, hv⟩
  · exact Or.inl h0
  · exact Or.inr ⟨g, o, e, Nat.lt_of_lt_of_le hg hc.size, fun i hi => (hc.cell hg (fun f => f) _).trans (hv i hi)⟩
theorem Lies.drewN {w : World} {a : Option Addr} {n : Nat} {V : Nat → Int} (h : Lies w a n V) (m : Nat) : Lies (w.drewN m) a n V := h.chg ((Chg.refl (fun _ => False) w).drewN m)
theorem Lies.at_ {w : World} {a : Option Addr} {n : Nat} {V : Nat → Int} (h : Lies w a n V) (i : Nat) (hi : i < n) : ∃ g o, a = some ⟨g, o, none⟩ ∧ w.cell? ⟨g, o + i, none⟩ = some (.int .i64 (V i)) := by
  rcases h with h0 | ⟨g, o, e, _, hv⟩
  · omega
  · exact ⟨g, o, e, hv i hi⟩
theorem IB.lies {w : World} {b n : Nat} {t : TypeId} {F : Nat → Int} (h : IB w b t n F) : Lies w (some ⟨b, 0, none⟩) n F := Or.inr ⟨b, 0, rfl, h.lt, fun i hi => by rw [Nat.zero_add]; exact (h.cell i hi).1⟩
theorem IB.drewN {w : World} {b n : Nat} {t : TypeId} {F : Nat → Int} (h : IB w b t n F) (m : Nat) : IB (w.drewN m) b t n F := h
/-- An error by its number. -/
def errV (c : Nat) : Value := if c = 0 then .nilIface else .iface 34 (.int .i64 c)
def Cd (c : Nat) : Prop := c = 0 ∨ c = 1 ∨ c = 11
theorem code_v (c : Nat) (hc : Cd c) (w : World) : Calls Try.prog 10 #[errV c] w fun e w' => e = .returned (.int .i64 c) ∧ w' = w := by
  rcases hc with rfl | rfl | rfl
  · exact code_nil w
  · exact code_1 w
  · exact code_11 w
theorem chC_code (ns nl : Nat) (S L : Nat → Int) : Cd (chC ns nl S L) := by
  unfold chC Cd
  split
  · split
    · exact Or.inr (Or.inr rfl)
    · exact Or.inl rfl
  · exact Or.inr (Or.inl rfl)
theorem eql_errV (c : Nat) (w : World) : (binOp .eql 25 (errV c) .nilIface).run Try.prog w = .ok (.bool (decide (c = 0))) w := by
  unfold errV
  by_cases h : c = 0
  · rw [if_pos h, decide_eq_true h]; exact eql_nil w
  · rw [if_neg h, decide_eq_false h]; exact eql_c_nil w c
theorem neq_errV (c : Nat) (w : World) : (binOp .neq 25 (errV c) .nilIface).run Try.prog w = .ok (.bool (!decide (c = 0))) w := by
  unfold errV
  by_cases h : c = 0
  · rw [if_pos h, decide_eq_true h]; exact neq_nil w
  · rw [if_neg h, decide_eq_false h]; exact neq_c_nil w c
theorem guard_eql (c : Nat) (x : Operand) (w : World) : (eqGuard .eql 25 x (.const .nilIface) (errV c) .nilIface).run Try.prog w = .ok () w := by
  unfold errV
  by_cases h : c = 0
  · rw [if_pos h]; cases x <;> rfl
  · rw [if_neg h]; cases x <;> rfl
theorem guard_neq (c : Nat) (x : Operand) (w : World) : (eqGuard .neq 25 x (.const .nilIface) (errV c) .nilIface).run Try.prog w = .ok () w := by
  unfold errV
  by_cases h : c = 0
  · rw [if_pos h]; cases x <;> rfl
  · rw [if_neg h]; cases x <;> rfl
theorem choose_arg (w : World) (ps pl : Option Addr) (ns nl cs cl : Nat) (h : ¬ (ns = 12 ∧ nl = 12)) : Calls Try.prog 6 #[.slice ps ns cs, .slice pl nl cl] w fun e w' => e = .returned (.tuple #[.int .i64 0, errV 1]) ∧ w' = w := by
  by_cases h1 : ns = 12
  · have h2 : ((nl : Int) != 12) = true := by simp only [bne_iff_ne]; omega
    subst h1
    clear h
    go_enter Try.func6, Try.ntmps6
    go_wp2
    go_ret2
    exact ⟨rfl, rfl⟩
  · have h2 : ((ns : Int) != 12) = true := by simp only [bne_iff_ne]; omega
    clear h h1
    go_enter Try.func6, Try.ntmps6
    go_wp2
    go_ret2
    exact ⟨rfl, rfl⟩
set_option maxHeartbeats 4000000 in
theorem choose_12 (w : World) (ps pl : Option Addr) (cs cl : Nat) (S L : Nat → Int) (hS : Lies w ps 12 S) (hL : Lies w pl 12 L) : Calls Try.prog 6 #[.slice ps 12 cs, .slice pl 12 cl] w fun e w' => e = .returned (.tuple #[.int .i64 (chV 12 12 S L : Nat), errV (chC 12 12 S L)]) ∧ ∃ m, w' = w.drewN m := by
  rcases hS with hS | ⟨gs, os, rfl, hgs, hS⟩
  · simp at hS
  rcases hL with hL | ⟨gl, ol, rfl, hgl, hL⟩
  · simp at hL
  have HS := hyd hS
  have HL := hyd hL
  have HG := hyd (And.intro hgs hgl)
  clear hS hL hgs hgl
  go_enter Try.func6, Try.ntmps6
  go_wp2_with fail
  go_loopg [6, 7, 21] 12 (fun kx s6 s7 s21 wr => ∃ (i m : Nat), s21 = .int .i64 i ∧ s6 = .int .i64 ((bst S L i).getD 0 : Nat) ∧ s7 = .bool (bst S L i).isSome ∧ i ≤ 12 ∧ 12 - i ≤ kx ∧ Hid (wr = w.drewN m))
  case atStart => exact ⟨0, 0, rfl, rfl, rfl, by omega, by omega, rfl⟩
  case round =>
  obtain ⟨i, m, rfl, rfl, rfl, hin, hkx, HM⟩ := hrel
  obtain rfl := HM.out
  clear HM
  by_cases hlt : i < 12
  · have hltz : (i : Int) < 12 := by omega
    have x0 := (((Chg.refl (fun _ => False) w).drewN m).cell HG.out.1 (fun f => f) _).trans (HS.out i hlt)
    by_cases h2 : S i = 2
    · rw [h2] at x0
      cases e : bst S L i with
      | none =>
        have HE := hyd (bst_first h2 e)
        simp only [Option.getD_none, Option.isSome_none]
        clear h2 e
        go_wp2_with fail
        go_quiet (fail)
        go_wp2
        go_roundg (12 - (i + 1))
        case measure => omega
        case rel => exact ⟨i + 1, _, by simp, by rw [HE.out]; rfl, by rw [HE.out]; rfl, by omega, Nat.le_refl _, rfl⟩
      | some b =>
        have hb : b < i := by have := bst_is S L i; rw [e] at this; exact this.2.1
        have x1 := HL.out i hlt
        have x2 := HL.out b (by omega)
        have hbz : (b : Int) < 12 := by omega
        simp only [Option.getD_some, Option.isSome_some]
        by_cases hl : L i < L b
        · have HE := hyd (bst_less h2 e hl)
          clear h2 e hb
          generalize L i = u at *
          generalize L b = v at *
          go_wp2_with fail
          go_quiet (fail)
          go_wp2
          go_roundg (12 - (i + 1))
          case measure => omega
          case rel => exact ⟨i + 1, _, by simp, by rw [HE.out]; rfl, by rw [HE.out]; rfl, by omega, Nat.le_refl _, rfl⟩
        · have HE := hyd (bst_more e hl)
          clear h2 e hb
          generalize L i = u at *
          generalize L b = v at *
          go_wp2_with fail
          go_quiet (fail)
          go_wp2
          go_roundg (12 - (i + 1))
          case measure => omega
          case rel => exact ⟨i + 1, _, by simp, by rw [HE.out]; rfl, by rw [HE.out]; rfl, by omega, Nat.le_refl _, rfl⟩
    · have HE := hyd (bst_skip (L := L) h2)
      have hn : (S i != 2) = true := by simp only [bne_iff_ne]; exact h2
      clear h2
      generalize S i = u at *
      go_wp2
      go_roundg (12 - (i + 1))
      case measure => omega
      case rel => exact ⟨i + 1, m, by simp, by rw [HE.out], by rw [HE.out], by omega, Nat.le_refl _, rfl⟩
  · have hltz : ¬ (i : Int) < 12 := by omega
    obtain rfl : i = 12 := by omega
    cases e : bst S L 12 with
    | none =>
      have HE := hyd (And.intro (chV_none e) (chC_none e))
      clear HS HL HG e
      simp only [Option.getD_none, Option.isSome_none]
      go_wp2
      go_ret2
      rw [HE.out.1, HE.out.2]
      exact ⟨rfl, _, rfl⟩
    | some b =>
      have HE := hyd (And.intro (chV_some e) (chC_some e))
      clear HS HL HG e
      simp only [Option.getD_some, Option.isSome_some]
      go_wp2
      go_ret2
      rw [HE.out.1, HE.out.2]
      exact ⟨rfl, _, rfl⟩
/-- Choose of any lists. -/
theorem choose_v (w : World) (ps pl : Option Addr) (ns nl cs cl : Nat) (S L : Nat → Int) (hS : Lies w ps ns S) (hL : Lies w pl nl L) : Calls Try.prog 6 #[.slice ps ns cs, .slice pl nl cl] w fun e w' => e = .returned (.tuple #[.int .i64 (chV ns nl S L : Nat), errV (chC ns nl S L)]) ∧ ∃ m, w' = w.drewN m := by
  by_cases h : ns = 12 ∧ nl = 12
  · obtain ⟨rfl, rfl⟩ := h
    exact choose_12 w ps pl cs cl S L hS hL
  · rw [chC_arg S L h, chV_arg S L h]
    refine (choose_arg w ps pl ns nl cs cl h).mono ?_
    rintro e w' ⟨rfl, rfl⟩
    exact ⟨rfl, 0, rfl⟩
/-- Gain of any lists. -/
theorem gain_v (w : World) (ps pl : Option Addr) (ns nl cs cl : Nat) (S L : Nat → Int) (hS : Lies w ps ns S) (hL : Lies w pl nl L) : Calls Try.prog 7 #[.slice ps ns cs, .slice pl nl cl] w fun e w' => e = .returned (.tuple #[.int .i64 (gnV ns nl S L), errV (chC ns nl S L)]) ∧ ∃ m, w' = w.drewN m := by
  have hc := choose_v w ps pl ns nl cs cl S L hS hL
  have g := guard_neq
  unfold gnV
  by_cases h0 : chC ns nl S L = 0
  · obtain ⟨rfl, rfl, hb, -⟩ := ch_some h0
    rw [h0] at hc ⊢
    obtain ⟨gl, ol, rfl, x0⟩ := hL.at_ _ hb
    have hbz : ((chV 12 12 S L : Nat) : Int) < 12 := by omega
    have q : ∀ w, (binOp .neq 25 (errV 0) .nilIface).run Try.prog w = .ok (.bool false) w := neq_errV 0
    clear hS hL h0 hb
    generalize L (chV 12 12 S L) = u at *
    generalize chV 12 12 S L = b at *
    rw [if_pos rfl]
    by_cases h1 : u < 0
    · rw [show 6 - min (max u 0) 6 = 6 by omega]
      go_enter Try.func7, Try.ntmps7
      go_wp2_with fail
      refine hc.mono ?_
      rintro e w1 ⟨rfl, m, rfl⟩
      clear hc
      go_wp2
      go_ret2
      exact ⟨rfl, m, rfl⟩
    · by_cases h2 : 6 < u
      · rw [show 6 - min (max u 0) 6 = 0 by omega]
        have h3 : ¬ u ≤ 6 := by omega
        go_enter Try.func7, Try.ntmps7
        go_wp2_with fail
        refine hc.mono ?_
        rintro e w1 ⟨rfl, m, rfl⟩
        clear hc
        go_wp2
        go_ret2
        exact ⟨rfl, m, rfl⟩
      · rw [show 6 - min (max u 0) 6 = 6 - u by omega]
        have h3 : u ≤ 6 := by omega
        go_enter Try.func7, Try.ntmps7
        go_wp2_with fail
        refine hc.mono ?_
        rintro e w1 ⟨rfl, m, rfl⟩
        clear hc
        go_wp2
        go_ret2
        exact ⟨rfl, m, rfl⟩
  · have q : ∀ w, (binOp .neq 25 (errV (chC ns nl S L)) .nilIface).run Try.prog w = .ok (.bool true) w := fun w => by rw [neq_errV, decide_eq_false h0]; rfl
    rw [if_neg h0]
    clear hS hL h0
    generalize chC ns nl S L = c at *
    go_enter Try.func7, Try.ntmps7
    go_wp2_with fail
    refine hc.mono ?_
    rintro e w1 ⟨rfl, m, rfl⟩
    clear hc
    go_wp2
    go_ret2
    exact ⟨rfl, m, rfl⟩
/-- The document's Choose. -/
theorem rchoose_arg (w : World) (ps pl : Option Addr) (ns nl cs cl : Nat) (h : ¬ (ns = 12 ∧ nl = 12)) : Calls Try.prog 8 #[.slice ps ns cs, .slice pl nl cl] w fun e w' => e = .returned (.tuple #[.int .i64 0, .int .i64 1]) ∧ w' = w := by
  by_cases h1 : ns = 12
  · have h2 : ((nl : Int) != 12) = true := by simp only [bne_iff_ne]; omega
    subst h1
    clear h
    go_enter Try.func8, Try.ntmps8
    go_wp2
    go_ret2
    exact ⟨rfl, rfl⟩
  · have h2 : ((ns : Int) != 12) = true := by simp only [bne_iff_ne]; omega
    clear h h1
    go_enter Try.func8, Try.ntmps8
    go_wp2
    go_ret2
    exact ⟨rfl, rfl⟩
def bestZ (o : Option Nat) : Int := match o with
  | none => -1
  | some b => b
set_option maxHeartbeats 4000000 in
theorem rchoose_12 (w : World) (ps pl : Option Addr) (cs cl : Nat) (S L : Nat → Int) (hS : Lies w ps 12 S) (hL : Lies w pl 12 L) : Calls Try.prog 8 #[.slice ps 12 cs, .slice pl 12 cl] w fun e w' => e = .returned (.tuple #[.int .i64 (chV 12 12 S L : Nat), .int .i64 (chC 12 12 S L : Nat)]) ∧ ∃ m, w' = w.drewN m := by
  rcases hS with hS | ⟨gs, os, rfl, hgs, hS⟩
  · simp at hS
  rcases hL with hL | ⟨gl, ol, rfl, hgl, hL⟩
  · simp at hL
  have HS := hyd hS
  have HL := hyd hL
  clear hS hL hgs hgl
  go_enter Try.func8, Try.ntmps8
  go_wp2_with fail
  go_loopg [6, 7] 12 (fun kx s6 s7 wr => ∃ (k m : Nat) (o : Option Nat), s7 = .int .i64 ((k : Int) - 1) ∧ s6 = .int .i64 (bestZ o) ∧ k ≤ 12 ∧ k ≤ kx ∧ Hid (Is S L k 12 o) ∧ Hid (wr = w.drewN m))
  case atStart => exact ⟨12, 0, none, rfl, rfl, by omega, by omega, fun i h1 h2 => by omega, rfl⟩
  case round =>
  obtain ⟨k, m, o, rfl, rfl, hk, hkx, HI, HM⟩ := hrel
  obtain rfl := HM.out
  clear HM
  cases k with
  | zero =>
    cases o with
    | none =>
      have HE : Hid (chV 12 12 S L = 0 ∧ chC 12 12 S L = 11) := by
        have e : chO S L = none := (bst_is S L 12).unique HI.out
        exact ⟨chV_none e, chC_none e⟩
      clear HS HL HI
      simp only [bestZ]
      go_wp2
      go_ret2
      rw [HE.out.1, HE.out.2]
      exact ⟨rfl, _, rfl⟩
    | some b =>
      have HE : Hid (chV 12 12 S L = b ∧ chC 12 12 S L = 0) := by
        have e : chO S L = some b := (bst_is S L 12).unique HI.out
        exact ⟨chV_some e, chC_some e⟩
      have hbz : ¬ (b : Int) < 0 := by omega
      clear HS HL HI
      simp only [bestZ]
      go_wp2
      go_ret2
      rw [HE.out.1, HE.out.2]
      exact ⟨rfl, _, rfl⟩
  | succ k =>
    rw [show ((k + 1 : Nat) : Int) - 1 = (k : Int) by omega]
    have hk0 : (k : Int) ≥ 0 := by omega
    have hkz : (k : Int) < 12 := by omega
    have x0 := HS.out k (by omega)
    have x1 := HL.out k (by omega)
    by_cases h2 : S k = 2
    · rw [h2] at x0
      cases o with
      | none =>
        have HI' := hyd (HI.out.down_first (by omega) h2)
        simp only [bestZ]
        clear h2 HI
        go_wp2_with fail
        go_quiet (fail)
        go_wp2
        go_roundg k
        case measure => omega
        case rel => exact ⟨k, _, some k, by simp, rfl, by omega, Nat.le_refl _, HI', rfl⟩
      | some b =>
        have hb : b < 12 := HI.out.2.1
        have hbz : (b : Int) < 12 := by omega
        have hb0 : ¬ (b : Int) < 0 := by omega
        have x2 := HL.out b hb
        simp only [bestZ]
        by_cases hl : L k ≤ L b
        · have HI' := hyd (HI.out.down_less (by omega) h2 hl)
          clear h2 HI hb
          generalize L k = u at *
          generalize L b = v at *
          go_wp2_with fail
          go_quiet (fail)
          go_wp2
          go_roundg k
          case measure => omega
          case rel => exact ⟨k, _, some k, by simp, rfl, by omega, Nat.le_refl _, HI', rfl⟩
        · have HI' := hyd (HI.out.down_more hl)
          clear h2 HI hb
          generalize L k = u at *
          generalize L b = v at *
          go_wp2_with fail
          go_quiet (fail)
          go_wp2
          go_roundg k
          case measure => omega
          case rel => exact ⟨k, _, some b, by simp, rfl, by omega, Nat.le_refl _, HI', rfl⟩
    · have HI' := hyd (HI.out.down_skip h2)
      have hn : (S k == 2) = false := by simp only [beq_eq_false_iff_ne]; exact h2
      clear h2 HI
      generalize S k = u at *
      generalize HZ : bestZ o = z
      have HZ' := hyd HZ
      clear HZ
      go_wp2_with fail
      go_quiet (fail)
      go_wp2
      go_roundg k
      case measure => omega
      case rel => exact ⟨k, _, o, by simp, by rw [HZ'.out], by omega, Nat.le_refl _, HI', rfl⟩
theorem rchoose_v (w : World) (ps pl : Option Addr) (ns nl cs cl : Nat) (S L : Nat → Int) (hS : Lies w ps ns S) (hL : Lies w pl nl L) : Calls Try.prog 8 #[.slice ps ns cs, .slice pl nl cl] w fun e w' => e = .returned (.tuple #[.int .i64 (chV ns nl S L : Nat), .int .i64 (chC ns nl S L : Nat)]) ∧ ∃ m, w' = w.drewN m := by
  by_cases h : ns = 12 ∧ nl = 12
  · obtain ⟨rfl, rfl⟩ := h
    exact rchoose_12 w ps pl cs cl S L hS hL
  · rw [chC_arg S L h, chV_arg S L h]
    refine (rchoose_arg w ps pl ns nl cs cl h).mono ?_
    rintro e w' ⟨rfl, rfl⟩
    exact ⟨rfl, 0, rfl⟩
/-- The document's Gain. -/
theorem rgain_v (w : World) (ps pl : Option Addr) (ns nl cs cl : Nat) (S L : Nat → Int) (hS : Lies w ps ns S) (hL : Lies w pl nl L) : Calls Try.prog 9 #[.slice ps ns cs, .slice pl nl cl] w fun e w' => e = .returned (.tuple #[.int .i64 (gnV ns nl S L), .int .i64 (chC ns nl S L : Nat)]) ∧ ∃ m, w' = w.drewN m := by
  have hc := rchoose_v w ps pl ns nl cs cl S L hS hL
  unfold gnV
  by_cases h0 : chC ns nl S L = 0
  · obtain ⟨rfl, rfl, hb, -⟩ := ch_some h0
    rw [h0] at hc ⊢
    obtain ⟨gl, ol, rfl, x0⟩ := hL.at_ _ hb
    have hbz : ((chV 12 12 S L : Nat) : Int) < 12 := by omega
    clear hS hL h0 hb
    generalize L (chV 12 12 S L) = u at *
    generalize chV 12 12 S L = b at *
    rw [if_pos rfl]
    by_cases h1 : u < 0
    · rw [show 6 - min (max u 0) 6 = 6 by omega]
      go_enter Try.func9, Try.ntmps9
      go_wp2_with fail
      refine hc.mono ?_
      rintro e w1 ⟨rfl, m, rfl⟩
      clear hc
      go_wp2
      go_ret2
      exact ⟨rfl, m, rfl⟩
    · by_cases h2 : u > 6
      · rw [show 6 - min (max u 0) 6 = 0 by omega]
        go_enter Try.func9, Try.ntmps9
        go_wp2_with fail
        refine hc.mono ?_
        rintro e w1 ⟨rfl, m, rfl⟩
        clear hc
        go_wp2
        go_ret2
        exact ⟨rfl, m, rfl⟩
      · rw [show 6 - min (max u 0) 6 = 6 - u by omega]
        have h3 : u ≤ 6 := by omega
        go_enter Try.func9, Try.ntmps9
        go_wp2_with fail
        refine hc.mono ?_
        rintro e w1 ⟨rfl, m, rfl⟩
        clear hc
        go_wp2
        go_ret2
        exact ⟨rfl, m, rfl⟩
  · have h1 : (((chC ns nl S L : Nat) : Int) != 0) = true := by simp only [bne_iff_ne]; omega
    rw [if_neg h0]
    clear hS hL h0
    generalize chC ns nl S L = c at *
    go_enter Try.func9, Try.ntmps9
    go_wp2_with fail
    refine hc.mono ?_
    rintro e w1 ⟨rfl, m, rfl⟩
    clear hc
    go_wp2
    go_ret2
    exact ⟨rfl, m, rfl⟩
end Go.Proofs.Ythpfofbheahlmaa
