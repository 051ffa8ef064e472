/-
  latest: those of a number's founds that have its greatest seq, by rising place. Condition: at most 2932031007402 founds (2^47 bytes).
-/
import Derived.Test.YtjkpidhpjleebaaClos
namespace Go.Proofs.Ytjkpidhpjleebaa
set_option maxRecDepth 100000
open Go.RowKit Go.Sort

theorem takeWhile_take (p : Fnd → Bool) : ∀ (l : List Fnd) (i : Nat), (∀ t f, t < i → l[t]? = some f → p f = true) → (∀ f, l[i]? = some f → p f = false) → l.takeWhile p = l.take i
  | [], i, _, _ => by simp
  | x :: r, 0, _, h => by
    have := h x rfl
    simp [this]
  | x :: r, i + 1, h1, h2 => by
    rw [List.takeWhile_cons_of_pos (h1 0 x (by omega) rfl), List.take_succ_cons, takeWhile_take p r i (fun t f ht hf => h1 (t + 1) f (by omega) (by simpa using hf)) (fun f hf => h2 f (by simpa using hf))]
theorem filter_take_succ {p : Fnd → Bool} {l : List Fnd} {i : Nat} {f : Fnd} (h : l[i]? = some f) : (l.take (i + 1)).filter p = (l.take i).filter p ++ (if p f then [f] else []) := by
  rw [List.take_add_one, h, List.filter_append]
  congr 1
  by_cases e : p f <;> simp [e]
theorem Sl.take {w : World} {a : Option Addr} {n cap cap' : Nat} {l : List Fnd} (h : Sl w (.slice a n cap) l) (i : Nat) (hi : i ≤ l.length) (hc : i ≤ cap') : Sl w (.slice a i cap') (l.take i) := by
  obtain ⟨a', c', e, _, h⟩ := h
  simp only [Value.slice.injEq] at e
  obtain ⟨rfl, rfl, -⟩ := e
  refine ⟨a, cap', by rw [List.length_take, Nat.min_eq_left hi], by rw [List.length_take]; omega, ?_⟩
  by_cases h0 : i = 0
  · exact Or.inl (by simp [h0])
  · rcases h with h | ⟨g, o, rfl, hA⟩
    · omega
    · refine Or.inr ⟨g, o, rfl, hA.1, fun j f hj => hA.2 j f ?_⟩
      rw [List.getElem?_take] at hj
      split at hj
      · exact hj
      · cases hj

/-- One found laid in a row of its own. -/
theorem wpList_row_fo {ops : Array Oper} {rest : List Oper} {o : Oper} {a : Act} {w : World} {Q : Exit → Act → World → Prop} (hgd : o.guard = none) (x : Operand) (ho : o.op = .buildSlice 24 1 #[(0, x)]) {f : Fnd} (hx : a.eval x = .agg (fA f)) (N : Nat) (hN : w.heap.size = N)
    (h : ∀ w', Fo w' N f → Chg (fun _ => False) w w' → wpList Try.prog ops Q rest (a.put o.dst (.slice (some ⟨N, 0, none⟩) 1 1)) w') : wpList Try.prog ops Q (o :: rest) a w := by
  refine wpList_plain hgd fun K hK => ?_
  have hr : (Instr.buildSlice 24 1 #[(0, .agg (fA f))]).run Try.prog w = .ok (.slice (some ⟨w.heap.size, 0, none⟩) 1 1) (w.alloc (.cells (fA f) 28)) := by
    unfold fA fL
    simp [Instr.buildSlice]
    go_simp
  unfold Oper.wp
  simp [execOp, ho, hx, hr]
  rw [hN]
  exact hK _ _ (h _ (by rw [← hN]; exact Fo.new w f) ((Chg.refl _ w).alloc _))

/-- The end of the call, with a row that is sorted. -/
def LatR (w : World) (l : List Fnd) (of ab : Int) (e : Ending) (w' : World) : Prop := ∃ v', e = .returned v' ∧ Sl w' v' (lat l of ab) ∧ Chg (fun _ => False) w w'

set_option maxHeartbeats 8000000 in
theorem latest_any (w : World) (a : Option Addr) (cap : Nat) (l : List Fnd) (n : Nat) (hnl : n = l.length) (of ab : Int) (hs : Sl w (.slice a n cap) l) (hn : n < 2932031007402) :
    Calls Try.prog 21 #[.slice a n cap, .int .i64 of, .int .i64 ab] w (LatR w l of ab) := by
  have HS := hyd hs
  have HN := hyd hnl
  clear hs hnl
  go_enter Try.func21, Try.ntmps21
  go_wp2
  go_loopg [7, 14] n (fun kx s7 s14 wr => ∃ i : Nat, s14 = .int .i64 i ∧ i ≤ n ∧ n - i ≤ kx ∧ Hid (Ow wr w.heap.size s7 ((l.take i).filter (cnd of ab))) ∧ Hid ((l.take i).filter (cnd of ab) = [] → s7 = .slice none 0 0) ∧ Hid (Chg (fun _ => False) w wr))
  case atStart => exact ⟨0, rfl, by omega, by omega, Ow.nil w _, fun _ => rfl, Chg.refl _ w⟩
  case round =>
  obtain ⟨i, rfl, hin, hkx, HO, HE, HG⟩ := hrel
  by_cases hlt : i < n
  · have hltz : (i : Int) < (n : Int) := by omega
    obtain ⟨f, hf⟩ : ∃ f, l[i]? = some f := ⟨_, List.getElem?_eq_getElem (by rw [← HN.out]; exact hlt)⟩
    have HF := hyd hf
    obtain ⟨g, o, ha, hA⟩ : ∃ g o, a = some ⟨g, o, none⟩ ∧ At6 w g o l := by
      obtain ⟨a', c', e, _, h⟩ := HS.out
      simp only [Value.slice.injEq] at e
      obtain ⟨rfl, -, -⟩ := e
      rcases h with h | ⟨g, o, rfl, hA⟩
      · have := HN.out; omega
      · exact ⟨g, o, rfl, hA⟩
    subst ha
    have hR := (hA.chg HG.out (fun h => h)).2 i f hf
    have HR := hyd hR
    clear hf hA hR
    go_wp2_with (first | (refine wpList_load_at (f := f) rfl (.tmp 16) rfl g (o + i * 6) rfl ?_ ?_; exact HR.out) | (refine wpList_alloc_fo rfl rfl wr.heap.size rfl ?_))
    intro w1 K1 G1 S1
    have HK1 := hyd K1
    clear K1
    go_wp2_with (first | (refine wpList_store_fo rfl (.tmp 9) (.tmp 17) rfl wr.heap.size rfl rfl HK1.out ?_))
    intro w2 K2 G2
    have G12 := G1.trans' G2 (fun k hk h => by omega)
    have HG2 := hyd (HG.out.trans G12)
    have HK2 := hyd K2
    have HO2 := hyd (HO.out.new G12)
    clear K2 G2 G1 G12 HK1 S1
    cases hsn : snd f with
    | false =>
      have HC : Hid (cnd of ab f = false) := by show _ = _; simp [cnd, hsn]
      go_wp2_with (first | (refine wpList_load_fo (f := f) rfl (.tmp 9) rfl wr.heap.size rfl ?_ ?_; exact HK2.out) | (go_at_call 25; refine (sound_any f _).mono ?_; rintro e w3 ⟨rfl, G3⟩; have K3 := HK2.out.chg G3 (fun h => h); obtain ⟨k0, k1, k2, k3, k4, k5⟩ := K3.cells; have HG3 := hyd (HG2.out.trans G3); have HO3 := hyd (HO2.out.new G3); have HK3 := hyd K3; clear K3 G3))
      go_roundg (n - (i + 1))
      case measure => omega
      case rel =>
        refine ⟨i + 1, by simp, by omega, Nat.le_refl _, ?_, ?_, HG3.out⟩
        · show Ow _ _ _ _
          rw [filter_take_succ HF.out, HC.out]; simpa using HO3.out
        · show _ → _
          rw [filter_take_succ HF.out, HC.out]; simpa using HE.out
    | true =>
    by_cases hof : f.O = of
    case neg =>
      have HC : Hid (cnd of ab f = false) := by show _ = _; simp [cnd, hof]
      have hofb : (f.O == of) = false := by simpa using hof
      go_wp2_with (first | (refine wpList_load_fo (f := f) rfl (.tmp 9) rfl wr.heap.size rfl ?_ ?_; exact HK2.out) | (go_at_call 25; refine (sound_any f _).mono ?_; rintro e w3 ⟨rfl, G3⟩; have K3 := HK2.out.chg G3 (fun h => h); obtain ⟨k0, k1, k2, k3, k4, k5⟩ := K3.cells; have HG3 := hyd (HG2.out.trans G3); have HO3 := hyd (HO2.out.new G3); have HK3 := hyd K3; clear K3 G3))
      go_roundg (n - (i + 1))
      case measure => omega
      case rel =>
        refine ⟨i + 1, by simp, by omega, Nat.le_refl _, ?_, ?_, HG3.out⟩
        · show Ow _ _ _ _
          rw [filter_take_succ HF.out, HC.out]; simpa using HO3.out
        · show _ → _
          rw [filter_take_succ HF.out, HC.out]; simpa using HE.out
    by_cases hab : ab < f.S
    case neg =>
      have HC : Hid (cnd of ab f = false) := by show _ = _; simp [cnd, hab]
      have hofb : (f.O == of) = true := by simpa using hof
      have habb : decide (ab < f.S) = false := decide_eq_false hab
      have HOF := hyd hof
      clear hof
      go_wp2_with (first | (refine wpList_load_fo (f := f) rfl (.tmp 9) rfl wr.heap.size rfl ?_ ?_; exact HK2.out) | (go_at_call 25; refine (sound_any f _).mono ?_; rintro e w3 ⟨rfl, G3⟩; have K3 := HK2.out.chg G3 (fun h => h); obtain ⟨k0, k1, k2, k3, k4, k5⟩ := K3.cells; have HG3 := hyd (HG2.out.trans G3); have HO3 := hyd (HO2.out.new G3); have HK3 := hyd K3; clear K3 G3))
      go_roundg (n - (i + 1))
      case measure => omega
      case rel =>
        refine ⟨i + 1, by simp, by omega, Nat.le_refl _, ?_, ?_, HG3.out⟩
        · show Ow _ _ _ _
          rw [filter_take_succ HF.out, HC.out]; simpa using HO3.out
        · show _ → _
          rw [filter_take_succ HF.out, HC.out]; simpa using HE.out
    have HC : Hid (cnd of ab f = true) := by show _ = _; simp [cnd, hsn, hof, hab]
    have hofb : (f.O == of) = true := by simpa using hof
    have habb : decide (ab < f.S) = true := decide_eq_true hab
    have HOF := hyd hof
    clear hof
    have hlen : ((l.take i).filter (cnd of ab)).length ≤ i := Nat.le_trans (List.length_filter_le _ _) (by rw [List.length_take]; omega)
    go_wp2_with (first | (refine wpList_load_fo (f := f) rfl (.tmp 9) rfl wr.heap.size rfl ?_ ?_; first | exact HK2.out | exact HK3.out) | (go_at_call 25; refine (sound_any f _).mono ?_; rintro e w3 ⟨rfl, G3⟩; have K3 := HK2.out.chg G3 (fun h => h); obtain ⟨k0, k1, k2, k3, k4, k5⟩ := K3.cells; have HG3 := hyd (HG2.out.trans G3); have HO3 := hyd (HO2.out.new G3); have HK3 := hyd K3; clear K3 G3) | (refine wpList_row_fo (f := f) rfl (.tmp 35) rfl rfl w3.heap.size rfl ?_))
    intro w4 K4 G4
    have HO4 := hyd (HO3.out.new G4)
    have HG4 := hyd (HG3.out.trans G4)
    have HA4 := hyd (At6.one K4)
    have hb4 : w.heap.size ≤ w4.heap.size := HG4.out.size
    clear k0 k1 k2 k3 k4 k5 K4 G4 HO3 HG3 HK3 HK2 HG2 HO2
    go_wp2_with (refine wpList_append_fo w4 rfl (.tmp 34) (.tmp 36) rfl w.heap.size u7 ((l.take i).filter (cnd of ab)) rfl HO4.out w3.heap.size 0 1 1 [f] rfl rfl HA4.out (by omega) hb4 ?_)
    intro v' w5 O5 G5
    have HO5 := hyd O5
    have HG5 : Hid (Chg (fun _ => False) w w5) := hyd (HG4.out.trans' G5 fun k hk h => by
      have := HO4.out.block h
      omega)
    clear O5 G5
    go_wp2
    go_roundg (n - (i + 1))
    case measure => omega
    case rel =>
      refine ⟨i + 1, by simp, by omega, Nat.le_refl _, ?_, ?_, HG5.out⟩
      · show Ow _ _ _ _
        rw [filter_take_succ HF.out, HC.out]; simpa using HO5.out
      · show _ → _
        rw [filter_take_succ HF.out, HC.out]; simp
  · have hltz : ¬ (i : Int) < (n : Int) := by omega
    have hin' : i = n := by omega
    have HO5 : Hid (Ow wr w.heap.size u7 (l.filter (cnd of ab))) := by
      have := HO.out
      rw [hin', HN.out, List.take_length] at this
      exact this
    have HE5 : Hid (l.filter (cnd of ab) = [] → u7 = .slice none 0 0) := by
      have := HE.out
      rw [hin', HN.out, List.take_length] at this
      exact this
    clear HO HE hin'
    obtain ⟨L, HL⟩ : ∃ L, Hid (L = l.filter (cnd of ab)) := ⟨_, rfl⟩
    rw [← HL.out] at HO5 HE5
    have hll : L.length ≤ n := by rw [HL.out, HN.out]; exact List.length_filter_le _ _
    by_cases h0 : L.length = 0
    · have hu := HE5.out (List.length_eq_zero_iff.1 h0)
      have HZ : Hid (lat l of ab = []) := by
        show _ = _
        unfold lat sel
        rw [← HL.out, List.length_eq_zero_iff.1 h0]
        simp [byP]
      subst hu
      clear h0 hll HE5 HO5
      go_wp2_with (go_at_call 27; refine (sort_nil _ _).mono ?_; rintro e w' ⟨rfl, rfl⟩)
      refine wp_loop_rounds 1 ?_
      rw [rounds_succ]
      go_wp2
      go_ret
      exact ⟨_, rfl, by rw [HZ.out]; exact Sl.nil _ _ _, HG.out⟩
    · obtain ⟨g, cp, hv, hg, hcp, c27⟩ := sort_own HO5.out h0 (by omega)
      subst hv
      have HGg : Hid (w.heap.size ≤ g) := hg
      obtain ⟨m, hm⟩ : ∃ m, L.length = m := ⟨_, rfl⟩
      rw [hm] at c27 hll h0 hcp
      have HM := hyd hm
      rw [hm]
      clear hm HE5 HO5 hg
      go_wp2_with (go_at_call 27; refine c27.mono ?_; rintro e w1 ⟨rfl, d', hd, hA, hc⟩)
      have HD := hyd hd
      have HA := hyd hA
      have HG1 : Hid (Chg (fun _ => False) w w1) := hyd (HG.out.trans' hc fun k hk h => by have := HGg.out; omega)
      have hdl : Hid (d'.toList.length = m) := by
        show _ = _
        have := HD.out.stb.size
        rw [Array.length_toList, this, ← HM.out]; simp
      clear hd hA hc c27 HG HM
      have HT : Hid (∀ j, j ≤ m → (∀ t f, t < j → d'.toList[t]? = some f → ¬ f.S < (d'[0]!).S) → (∀ f, d'.toList[j]? = some f → f.S < (d'[0]!).S) → lat l of ab = d'.toList.take j) := fun j hj h1 h2 => by
        have hd := HD.out
        rw [HL.out] at hd
        rw [← lat_sorted l of ab d' hd]
        refine takeWhile_take _ _ j (fun t f ht hf => ?_) (fun f hf => ?_)
        · have := h1 t f ht hf
          simp; omega
        · have := h2 f hf
          simpa using this
      go_loopg [43] m (fun kx s43 wr => ∃ i : Nat, s43 = .int .i64 i ∧ i ≤ m ∧ m - i ≤ kx ∧ Hid (∀ t f, t < i → d'.toList[t]? = some f → ¬ f.S < (d'[0]!).S) ∧ Hid (Chg (fun _ => False) w1 wr))
      case atStart => exact ⟨0, rfl, by omega, by omega, fun t f ht => absurd ht (Nat.not_lt_zero _), Chg.refl _ _⟩
      case round =>
      clear hltz hkx hin
      obtain ⟨i, rfl, hin, hkx, HI, HG⟩ := hrel
      have HSl : Hid (Sl w1 (.slice (some ⟨g, 0, none⟩) m cp) d'.toList) := ⟨some ⟨g, 0, none⟩, cp, by rw [hdl.out], by rw [hdl.out]; exact hcp, Or.inr ⟨g, 0, rfl, HA.out⟩⟩
      by_cases hlt : i < m
      · have hltz : (i : Int) < (m : Int) := by omega
        have h0z : (0 : Int) < (m : Int) := by omega
        obtain ⟨f, hf⟩ : ∃ f, d'.toList[i]? = some f := ⟨_, List.getElem?_eq_getElem (by rw [hdl.out]; exact hlt)⟩
        obtain ⟨f', hf'⟩ : ∃ f, d'.toList[0]? = some f := ⟨_, List.getElem?_eq_getElem (by rw [hdl.out]; omega)⟩
        have hf0 : d'[0]! = f' := by
          rw [Array.getElem?_toList] at hf'
          rw [getElem!_def, hf']
        have HF := hyd hf
        have HF0 := hyd hf0
        have hA2 := HA.out.chg HG.out (fun h => h)
        have hR := hA2.2 i f hf
        have hR0 := hA2.2 0 f' hf'
        rw [Nat.zero_add] at hR
        have HR := hyd hR
        have HR0 := hyd hR0
        have hgl : g < wr.heap.size := hA2.1
        clear hf hf' hf0 hA2 hR hR0
        go_wp2_with (first | (refine wpList_load_at (f := f) rfl (.tmp 46) rfl g (i * 6) rfl ?_ ?_; exact HR.out) | (refine wpList_alloc_fo rfl rfl wr.heap.size rfl ?_))
        intro w2 K2 G2 S2
        have HK2 := hyd K2
        clear K2
        go_wp2_with (first | (refine wpList_store_fo rfl (.tmp 11) (.tmp 47) rfl wr.heap.size rfl rfl HK2.out ?_))
        intro w3 K3 G3
        have G23 := G2.trans' G3 (fun k hk h => by omega)
        have HG3 := hyd (HG.out.trans G23)
        have r0 : w3.cell? ⟨g, 3, none⟩ = some (.int .i64 f'.S) := by
          have := rangeAt_chg HR0.out G23 hgl (fun h => h) 3 (.int .i64 f'.S) rfl
          simpa using this
        obtain ⟨k0, k1, k2, k3, k4, k5⟩ := K3.cells
        clear K3 G3 G2 G23 HK2 S2 HR HR0 k0 k1 k2 k4 k5
        by_cases hc : f.S < f'.S
        · have hcb : decide (f.S < f'.S) = true := decide_eq_true hc
          have hicp : (i : Int) ≤ (cp : Int) := by omega
          go_wp2_with fail
          go_region
          go_wp2
          go_ret
          refine ⟨_, rfl, ?_, (HG1.out.trans HG3.out).drew⟩
          rw [HT.out i hin HI.out (fun f1 h1 => by rw [HF.out] at h1; cases h1; rw [HF0.out]; exact hc)]
          exact (HSl.out.take i (by rw [hdl.out]; exact hin) (by omega)).new HG3.out.drew
        · have hcb : decide (f.S < f'.S) = false := decide_eq_false hc
          go_wp2_with fail
          go_region
          go_wp2
          go_roundg (m - (i + 1))
          case measure => omega
          case rel =>
            refine ⟨i + 1, by simp, by omega, Nat.le_refl _, fun t f1 ht h1 => ?_, HG3.out.drew⟩
            by_cases e : t = i
            · subst e
              rw [HF.out] at h1
              cases h1
              rw [HF0.out]
              exact hc
            · exact HI.out t f1 (by omega) h1
      · have hltz : ¬ (i : Int) < (m : Int) := by omega
        go_wp2
        go_ret
        refine ⟨_, rfl, ?_, HG1.out.trans HG.out⟩
        have e := HT.out m (Nat.le_refl _) (by rw [show m = i by omega]; exact HI.out) (fun f1 h1 => by have := (List.getElem?_eq_some_iff.1 h1).1; rw [hdl.out] at this; omega)
        have h2 := (HSl.out.take (cap' := cp) m (by rw [hdl.out]; exact Nat.le_refl _) hcp).new HG.out
        rw [e]
        exact h2
end Go.Proofs.Ytjkpidhpjleebaa
