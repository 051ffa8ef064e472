/-
  GcChooses, walked. Condition: the lists came in with their reach.
-/
import Derived.Test.YthpfofbheahlmaaUp
import Derived.Maps.AppendAt
namespace Go.Proofs.Ythpfofbheahlmaa
set_option maxRecDepth 100000
open Go.RowKit

theorem info3 : ∃ i, Try.prog.info? 3 = some i ∧ i.zero = some (.int .i64 0) ∧ i.size = 1 ∧ i.bytes = 8 := by
  have h : (Try.prog.info? 3).map (fun i => (i.zero, i.size, i.bytes)) = some (some (.int .i64 0), 1, 8) := by kernel_rfl
  cases e : Try.prog.info? 3 with
  | none => rw [e] at h; cases h
  | some i =>
    rw [e] at h
    simp only [Option.map_some, Option.some.injEq, Prod.mk.injEq] at h
    exact ⟨i, rfl, h.1, h.2.1, h.2.2⟩
/-- 'append(nil, x...)': the same numbers, in a place of their own. -/
theorem wpList_append_ints {ops : Array Oper} {rest : List Oper} {o : Oper} {a : Act} {w : World} {Q : Exit → Act → World → Prop} (hgd : o.guard = none) (s x : Operand)
    (ho : o.op = .call { callee := .builtin .append, args := #[s, x], argTypes := #[22, 22] }) (hs : a.eval s = .slice none 0 0)
    (ao : Option Addr) (m c : Nat) (V : Nat → Int) (hx : a.eval x = .slice ao m c) (hnone : ao = none → m = 0 ∧ c = 0) (hl : Lies w ao m V) (hb : m * 8 ≤ 140737488351232)
    (h : ∀ ao' c' w', Lies w' ao' m V → Chg (fun _ => False) w w' → wpList Try.prog ops Q rest (a.put o.dst (.slice ao' m c')) w') : wpList Try.prog ops Q (o :: rest) a w := by
  obtain ⟨i, hi1, hi2, hi3, hi4⟩ := info3
  have hown : w.ownsRow w.heap.size 3 1 (.slice none 0 0) 0 [] := ⟨rfl, Or.inl ⟨rfl, rfl⟩⟩
  cases ao with
  | some ad =>
    refine wpList_append_own_at w hgd s x 22 ho w.heap.size 3 i (.int .i64 0) 1 8 Try.underlying22 hi1 hi2 hi3 hi4 rfl (by decide) (.slice none 0 0) 0 [] hs hown ad m c (ints V m) hx (by simp [ints_length]) ?_ (ints_one V m) (by unfold maxLen; omega) (by omega) (Nat.le_refl _) ?_
    · intro j u hu
      have hj : j < m := by have := (List.getElem?_eq_some_iff.1 hu).1; rwa [ints_length] at this
      obtain ⟨g, q, e, hv⟩ := hl.at_ j hj
      simp only [Option.some.injEq] at e
      subst e
      rw [addr_at, hv, ← hu, ints_at _ _ _ hj]
      rfl
    · intro v' w' h1 h2 _ _
      have hc : Chg (fun _ => False) w w' := (Chg.refl _ w).grown h2 (fun k hk => by cases hk)
      rw [Nat.zero_add, List.nil_append] at h1
      rcases h1.2 with ⟨rfl, h0⟩ | ⟨g, cap, cur, rfl, hg, hh, hn, hm, hs, ht⟩
      · have := h none 0 w' (Or.inl h0) hc
        rw [h0] at this
        exact this
      · refine h _ _ w' (Or.inr ⟨g, 0, rfl, (Array.getElem?_eq_some_iff.1 hh).1, fun j hj => ?_⟩) hc
        have e1 : cur[j]? = some (i6 (V j)) := by
          have h2 : (cur.toList.take (m * 1))[j]? = (ints V m)[j]? := by rw [ht]
          rw [List.getElem?_take_of_lt (by omega), ints_at _ _ _ hj, Array.getElem?_toList] at h2
          exact h2
        rw [Nat.zero_add]
        simp only [World.cell?, hh]
        simpa [i6] using e1
  | none =>
    obtain ⟨rfl, rfl⟩ := hnone rfl
    refine wpList_plain hgd fun K hK => ?_
    have hrun := run_append_owned_none (P := Try.prog) w w.heap.size 22 o.type 3 i 1 Try.underlying22 hi1 (.slice none 0 0) 0 [] hown
    unfold Oper.wp
    simp [execOp, ho, resolve, invoke, builtin, hs, hx, hrun, Result.andThen]
    exact hK _ _ (h none 0 w (Or.inl rfl) (Chg.refl _ _))
set_option maxHeartbeats 8000000 in
theorem chooses_walk (ps pl : Option Addr) (ns nl cs cl : Nat) (S L : Nat → Int) (w : World) (hS : IsInts w ps ns S) (hL : IsInts w pl nl L) (bs : ns * 8 ≤ 140737488351232) (bl : nl * 8 ≤ 140737488351232) (zs : ps = none → ns = 0 ∧ cs = 0) (zl : pl = none → nl = 0 ∧ cl = 0) :
    Calls Try.prog 3 #[.slice ps ns cs, .slice pl nl cl] w fun e w' => e = .returned (.bool true) ∧ Below w.heap.size w w' := by
  have HS := hyd hS.lies
  have HL := hyd hL.lies
  have HZ := hyd (And.intro zs zl)
  have HB := hyd (And.intro bs bl)
  clear hS hL zs zl bs bl
  go_enter Try.func3, Try.ntmps3
  go_wp2_with fail
  refine (up_any _).mono ?_
  rintro x w1 ⟨rfl, G1⟩
  have HS1 := hyd (HS.out.chg G1)
  have HL1 := hyd (HL.out.chg G1)
  have HG1 := hyd G1
  clear G1 HS HL
  go_wp2_with (refine wpList_append_ints rfl (.tmp 19) (.tmp 20) rfl rfl ps ns cs S rfl HZ.out.1 HS1.out HB.out.1 ?_)
  intro po co w2 K2 G2
  have HS2 := hyd (HS1.out.chg G2)
  have HL2 := hyd (HL1.out.chg G2)
  have HA2 := hyd K2
  have HG2 := hyd (HG1.out.trans G2)
  clear K2 G2 HS1 HL1 HG1
  go_wp2_with (refine wpList_append_ints rfl (.tmp 22) (.tmp 23) rfl rfl pl nl cl L rfl HZ.out.2 HL2.out HB.out.2 ?_)
  intro qo do_ w3 K3 G3
  have HS3 := hyd (HS2.out.chg G3)
  have HL3 := hyd (HL2.out.chg G3)
  have HA3 := hyd (HA2.out.chg G3)
  have HB3 := hyd K3
  have HG3 := hyd (HG2.out.trans G3)
  clear K3 G3 HS2 HL2 HA2 HG2 HZ
  go_wp2_with fail
  refine (choose_v w3 po qo ns nl co do_ S L HA3.out HB3.out).mono ?_
  rintro x w4 ⟨rfl, m4, rfl⟩
  go_wp2_with fail
  refine (gain_v _ po qo ns nl co do_ S L (HA3.out.drewN m4) (HB3.out.drewN m4)).mono ?_
  rintro x w4 ⟨rfl, m5, rfl⟩
  rw [World.drewN_drewN]
  generalize m4 + m5 = m6
  go_wp2_with fail
  refine (rchoose_v _ ps pl ns nl cs cl S L (HS3.out.drewN m6) (HL3.out.drewN m6)).mono ?_
  rintro x w4 ⟨rfl, m7, rfl⟩
  rw [World.drewN_drewN]
  generalize m6 + m7 = m8
  go_wp2_with fail
  refine (rgain_v _ ps pl ns nl cs cl S L (HS3.out.drewN m8) (HL3.out.drewN m8)).mono ?_
  rintro x w4 ⟨rfl, m9, rfl⟩
  rw [World.drewN_drewN]
  generalize m8 + m9 = m10
  have hcode := fun w => code_v _ (chC_code ns nl S L) w
  generalize chC ns nl S L = c at *
  generalize chV ns nl S L = v at *
  generalize gnV ns nl S L = z at *
  have HS4 := hyd (HS3.out.drewN m10)
  have HL4 := hyd (HL3.out.drewN m10)
  have HA4 := hyd (HA3.out.drewN m10)
  have HB4 := hyd (HB3.out.drewN m10)
  have HG4 := hyd (HG3.out.drewN m10)
  clear HS3 HL3 HA3 HB3 HG3
  generalize w3.drewN m10 = w4 at *
  have bs : (ns : Int) * 8 ≤ 140737488351232 := by have := HB.out.1; omega
  have bl : (nl : Int) * 8 ≤ 140737488351232 := by have := HB.out.2; omega
  clear HB
  go_wp2_with fail
  go_loopg [16] ns (fun kx s16 wr => ∃ (i m : Nat), s16 = .int .i64 i ∧ i ≤ ns ∧ ns - i ≤ kx ∧ Hid (wr = w4.drewN m))
  case atStart => exact ⟨0, 0, rfl, by omega, by omega, rfl⟩
  case round =>
  obtain ⟨i, m, rfl, hin, hkx, HM⟩ := hrel
  obtain rfl := HM.out
  clear HM
  by_cases hlt : i < ns
  · have hltz : (i : Int) < (ns : Int) := by omega
    obtain ⟨g1, o1, rfl, x0⟩ := HS4.out.at_ i hlt
    obtain ⟨g2, o2, rfl, x1⟩ := HA4.out.at_ i hlt
    clear HS4 HL4 HA4 HB4 hcode
    generalize S i = u at *
    have hu : (u != u) = false := by simp
    go_wp2_with fail
    go_quiet (fail)
    go_wp2
    go_roundg (ns - (i + 1))
    case measure => omega
    case rel => exact ⟨i + 1, _, by simp, by omega, Nat.le_refl _, rfl⟩
  · have hltz : ¬ (i : Int) < (ns : Int) := by omega
    clear hin hkx hlt
    go_wp2_with fail
    go_loopg [17] nl (fun kx s17 wr => ∃ (j m : Nat), s17 = .int .i64 j ∧ j ≤ nl ∧ nl - j ≤ kx ∧ Hid (wr = w4.drewN m))
    case atStart => exact ⟨0, m, rfl, by omega, by omega, rfl⟩
    case round =>
    obtain ⟨j, m', rfl, hin, hkx, HM⟩ := hrel
    obtain rfl := HM.out
    clear HM
    by_cases hlt : j < nl
    · have hltz : (j : Int) < (nl : Int) := by omega
      obtain ⟨g1, o1, rfl, x0⟩ := HL4.out.at_ j hlt
      obtain ⟨g2, o2, rfl, x1⟩ := HB4.out.at_ j hlt
      clear HS4 HL4 HA4 HB4 hcode
      generalize L j = u at *
      have hu : (u != u) = false := by simp
      go_wp2_with fail
      go_quiet (fail)
      go_wp2
      go_roundg (nl - (j + 1))
      case measure => omega
      case rel => exact ⟨j + 1, _, by simp, by omega, Nat.le_refl _, rfl⟩
    · have hltz : ¬ (j : Int) < (nl : Int) := by omega
      clear hin hkx hlt HS4 HL4 HA4 HB4
      have HG5 := hyd (HG4.out.drewN m')
      generalize w4.drewN m' = w5 at *
      have h1 : ((v : Int) == (v : Int)) = true := by simp
      have h2 : (z == z) = true := by simp
      have h3 : ((c : Int) == (c : Int)) = true := by simp
      go_wp2_with (go_at_call 10; refine (hcode _).mono ?_; rintro x wy ⟨rfl, rfl⟩)
      go_ret
      exact ⟨rfl, HG5.out.below (fun _ h => h.elim) (Nat.le_refl _)⟩
end Go.Proofs.Ythpfofbheahlmaa
