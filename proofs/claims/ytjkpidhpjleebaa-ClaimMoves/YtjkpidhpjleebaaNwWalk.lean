/-
  The law ClaimNewests, walked. Condition: the founds came in with their reach.
-/
import Derived.Test.YtjkpidhpjleebaaUps
namespace Go.Proofs.Ytjkpidhpjleebaa
set_option maxRecDepth 100000
open Go.RowKit Go.Sort

theorem At6.all {w : World} {g o : Nat} {l : List Fnd} (h : At6 w g o l) {i : Nat} {f : Fnd} (hi : l[i]? = some f) :
    w.cell? ⟨g, o + i * 6, none⟩ = some (.int .i64 f.P) ∧ w.cell? ⟨g, o + i * 6 + 1, none⟩ = some (.int .i64 f.T) ∧ w.cell? ⟨g, o + i * 6 + 2, none⟩ = some (.int .i64 f.O) ∧ w.cell? ⟨g, o + i * 6 + 3, none⟩ = some (.int .i64 f.S) ∧ w.cell? ⟨g, o + i * 6 + 4, none⟩ = some (.int .i64 f.C) ∧ w.cell? ⟨g, o + i * 6 + 5, none⟩ = some (.bool f.L) := by
  have r := h.2 i f hi
  exact ⟨r 0 _ rfl, r 1 _ rfl, r 2 _ rfl, r 3 _ rfl, r 4 _ rfl, r 5 _ rfl⟩
/-- 'append(v, x...)', v the call's own, x a slice that reads as l2. -/
theorem wpList_append_sl (w : World) {ops : Array Oper} {rest : List Oper} {o : Oper} {a : Act} {Q : Exit → Act → World → Prop} (hgd : o.guard = none) (s x : Operand)
    (ho : o.op = .call { callee := .builtin .append, args := #[s, x], argTypes := #[24, 24] })
    (base : Nat) (v : Value) (l : List Fnd) (hs : a.eval s = v) (hown : Ow w base v l)
    (ao : Option Addr) (m c : Nat) (l2 : List Fnd) (hx : a.eval x = .slice ao m c) (hm : l2.length = m) (hS : Sl w (.slice ao m c) l2) (hnone : ao = none → m = 0 ∧ c = 0)
    (hbytes : l.length + m ≤ 2932031007402) (hbase : base ≤ w.heap.size)
    (h : ∀ v' w', Ow w' base v' (l ++ l2) → Chg (fun k => v.ownBlock = some k) w w' → wpList Try.prog ops Q rest (a.put o.dst v') w') : wpList Try.prog ops Q (o :: rest) a w := by
  obtain ⟨i, hi1, hi2, hi3, hi4⟩ := info28
  cases ao with
  | some ad =>
    refine wpList_append_own_at w hgd s x 24 ho base 28 i (.agg (fA f0)) 6 48 Try.underlying24 hi1 hi2 hi3 hi4 rfl (by decide) v l.length (l.flatMap fL) hs hown ad m c (l2.flatMap fL) hx (by rw [flat_length, hm]) ?_ (flat_one l2) (by unfold maxLen; omega) (by omega) hbase ?_
    · intro j u hu
      have hj : j < l2.length * 6 := by rw [← flat_length]; exact (List.getElem?_eq_some_iff.1 hu).1
      obtain ⟨g, q, he, hA⟩ := hS.at6 (by omega)
      cases he
      have e : l2[j / 6]? = some (l2[j / 6]'(by omega)) := List.getElem?_eq_getElem _
      have hf := flat_get l2 (j / 6) _ (j % 6) e (Nat.mod_lt _ (by decide))
      rw [show j / 6 * 6 + j % 6 = j by omega, hu] at hf
      have := hA.2 (j / 6) _ e (j % 6) u hf.symm
      rw [show q + j / 6 * 6 + j % 6 = q + j by omega] at this
      rw [Addr.add_mid]
      exact this
    · intro v' w' h1 h2 _ _
      refine h v' w' ?_ ⟨h2.os, h2.tape, h2.output, h2.size, fun k hk hs => h2.block k hk (fun e => hs e.symm)⟩
      unfold Ow
      rw [List.length_append, hm, List.flatMap_append]
      exact h1
  | none =>
    obtain ⟨rfl, rfl⟩ := hnone rfl
    have hl2 : l2 = [] := List.length_eq_zero_iff.1 hm
    subst hl2
    refine wpList_plain hgd fun K hK => ?_
    have hrun := run_append_owned_none (P := Try.prog) w base 24 o.type 28 i 6 Try.underlying24 hi1 v l.length (l.flatMap fL) hown
    unfold Oper.wp
    simp [execOp, ho, resolve, invoke, builtin, hs, hx, hrun, Result.andThen]
    refine hK _ _ (h v w ?_ (Chg.refl _ _))
    rw [List.append_nil]
    exact hown

set_option maxHeartbeats 8000000 in
theorem newests_walk (a : Option Addr) (n cap : Nat) (l : List Fnd) (hnl : n = l.length) (hnone : a = none → n = 0 ∧ cap = 0) (of ab : Int) (w : World) (hs : Sl w (.slice a n cap) l) (hn : n < 2932031007402) :
    Calls Try.prog 4 #[.slice a n cap, .int .i64 of, .int .i64 ab] w fun e w' => e = .returned (.bool true) ∧ Below w.heap.size w w' := by
  have HN := hyd hnl
  have HS0 := hyd hs
  have HNN := hyd hnone
  clear hs hnl hnone
  obtain ⟨f, b, hfb⟩ := newV_is (newest l of ab)
  have C11 : Aside _ := fun W a' cap' h => newest_is W a' cap' l n HN.out of ab h hn hfb
  have C12 : Aside _ := fun W h => rnewest_is W a cap l n HN.out of ab h hn hfb
  clear hfb
  go_enter Try.func4, Try.ntmps4
  go_wp2_with (first | (go_at_call 8; refine (up_any _).mono ?_; rintro e w2 ⟨rfl, G2⟩; have HS2 := hyd (HS0.out.new G2); have HG2 := hyd G2; clear G2) | (refine wpList_append_sl w2 rfl (.tmp 15) (.tmp 16) rfl w2.heap.size (.slice none 0 0) [] rfl (Ow.nil _ _) a n cap l rfl HN.out.symm HS2.out HNN.out (by simp; omega) (Nat.le_refl _) ?_))
  intro v' w3 O3 G3
  have HG3' : Chg (fun _ => False) w2 w3 := G3.mono (fun k _ h => by cases h)
  have HS3 := hyd (HS2.out.new HG3')
  have HG3 := hyd (HG2.out.trans HG3')
  have O3 : Ow w3 w2.heap.size v' l := by simpa using O3
  obtain ⟨a', cap', e', hcap', hA'⟩ := O3.sl
  rw [← HN.out] at e'
  subst e'
  have HO3 : Hid (Sl w3 (.slice a' n cap') l) := hyd (by have := O3.sl; exact this)
  clear O3 G3 HG3' hA' HS2 HG2
  go_wp2_with (first | (go_at_call 11; refine (C11.out _ _ _ HO3.out).mono ?_; rintro e w4 ⟨rfl, G4⟩; have HS4 := hyd (HS3.out.new G4); have HO4 := hyd (HO3.out.new G4); have HG4 := hyd (HG3.out.trans G4); clear G4) | (refine wpList_alloc_fo rfl rfl w4.heap.size rfl ?_))
  intro w5 K5 G5 S5
  have HK5 := hyd K5
  clear K5
  go_wp2_with (refine wpList_store_fo rfl (.tmp 9) (.tmp 23) rfl w4.heap.size rfl rfl HK5.out ?_)
  intro w6 K6 G6
  have G56 := G5.trans' G6 (fun k hk h => by omega)
  have HS6 := hyd (HS4.out.new G56)
  have HO6 := hyd (HO4.out.new G56)
  have HG6 := hyd (HG4.out.trans G56)
  have HK6 := hyd K6
  clear K6 G5 G6 G56 HK5 S5 HS4 HO4 HG4 HS3 HO3 HG3
  go_wp2_with (first | (go_at_call 12; refine (C12.out _ HS6.out).mono ?_; rintro e w7 ⟨rfl, G7⟩; have HS7 := hyd (HS6.out.new G7); have HO7 := hyd (HO6.out.new G7); have HG7 := hyd (HG6.out.trans G7); have HK7 := hyd (HK6.out.chg G7 (fun h => h)); clear G7) | (refine wpList_alloc_fo rfl rfl w7.heap.size rfl ?_))
  intro w8 K8 G8 S8
  have HK8 := hyd K8
  clear K8
  go_wp2_with (refine wpList_store_fo rfl (.tmp 11) (.tmp 30) rfl w7.heap.size rfl rfl HK8.out ?_)
  intro w9 K9 G9
  have G89 := G8.trans' G9 (fun k hk h => by omega)
  have HS9 := hyd (HS7.out.new G89)
  have HO9 := hyd (HO7.out.new G89)
  have HG9 := hyd (HG7.out.trans G89)
  have HK9 := hyd K9
  have HL9 := hyd (HK7.out.chg G89 (fun h => h))
  clear K9 G8 G9 G89 HK8 S8 HS7 HO7 HG7 HK7 HS6 HO6 HG6 HK6
  go_wp2_with fail
  go_loopg [13] n (fun kx s13 wr => ∃ i : Nat, s13 = .int .i64 i ∧ i ≤ n ∧ n - i ≤ kx ∧ Hid (Chg (fun _ => False) w9 wr))
  case atStart => exact ⟨0, rfl, by omega, by omega, Chg.refl _ _⟩
  case round =>
  obtain ⟨i, rfl, hin, hkx, HGr⟩ := hrel
  by_cases hlt : i < n
  · have hltz : (i : Int) < (n : Int) := by omega
    obtain ⟨x, hx⟩ : ∃ x, l[i]? = some x := ⟨_, List.getElem?_eq_getElem (by rw [← HN.out]; exact hlt)⟩
    obtain ⟨g, o, ha, hA⟩ := HS9.out.at6 (by rw [← HN.out]; omega)
    obtain ⟨g', o', ha', hA'⟩ := HO9.out.at6 (by rw [← HN.out]; omega)
    subst ha ha'
    obtain ⟨p0, p1, p2, p3, p4, p5⟩ := (hA.chg HGr.out (fun h => h)).all hx
    obtain ⟨q0, q1, q2, q3, q4, q5⟩ := (hA'.chg HGr.out (fun h => h)).all hx
    clear hx hA hA'
    go_wp2_with fail
    go_region_held3 (fun wx => wx.cell? ⟨g, o + i * 6, none⟩ = some (.int .i64 x.P) ∧ wx.cell? ⟨g, o + i * 6 + 1, none⟩ = some (.int .i64 x.T) ∧ wx.cell? ⟨g, o + i * 6 + 2, none⟩ = some (.int .i64 x.O) ∧ wx.cell? ⟨g, o + i * 6 + 3, none⟩ = some (.int .i64 x.S) ∧ wx.cell? ⟨g, o + i * 6 + 4, none⟩ = some (.int .i64 x.C) ∧ wx.cell? ⟨g, o + i * 6 + 5, none⟩ = some (.bool x.L) ∧ wx.cell? ⟨g', o' + i * 6, none⟩ = some (.int .i64 x.P) ∧ wx.cell? ⟨g', o' + i * 6 + 1, none⟩ = some (.int .i64 x.T) ∧ wx.cell? ⟨g', o' + i * 6 + 2, none⟩ = some (.int .i64 x.O) ∧ wx.cell? ⟨g', o' + i * 6 + 3, none⟩ = some (.int .i64 x.S) ∧ wx.cell? ⟨g', o' + i * 6 + 4, none⟩ = some (.int .i64 x.C) ∧ wx.cell? ⟨g', o' + i * 6 + 5, none⟩ = some (.bool x.L)) (first | exact ⟨p0, p1, p2, p3, p4, p5, q0, q1, q2, q3, q4, q5⟩) (first | fail)
    all_goals go_wp2
    all_goals go_roundg (n - (i + 1))
    case measure => omega
    case rel => exact ⟨i + 1, by simp, by omega, Nat.le_refl _, HGr.out.drew⟩
  · have hltz : ¬ (i : Int) < (n : Int) := by omega
    obtain ⟨p0, p1, p2, p3, p4, p5⟩ := (HK9.out.chg HGr.out (fun h => h)).cells
    obtain ⟨q0, q1, q2, q3, q4, q5⟩ := (HL9.out.chg HGr.out (fun h => h)).cells
    go_wp2
    go_ret
    exact ⟨by simp, (HG9.out.trans HGr.out).below (fun _ h => h.elim) (Nat.le_refl _)⟩
end Go.Proofs.Ytjkpidhpjleebaa
