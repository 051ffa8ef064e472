/-
  slices.symMergeCmpFunc: two parts that are in order are merged, in a stable way. No condition: lemmas.
-/
import Derived.Test.YtjkpidhpjleebaaSymD
import Derived.Deep.CutRange
namespace Go.Proofs.Ytjkpidhpjleebaa
open Go.Shelf Go.RowKit Go.Lib Go.Sort
variable {P : Program} {α : Type} [Inhabited α]

/-- The value says whether p. -/
def BoolIs (p : Prop) (v : Value) : Prop := ∃ bb : Bool, v = .bool bb ∧ (bb = true ↔ p)
set_option maxHeartbeats 16000000 in
set_option maxRecDepth 1000000 in
theorem sym_any {k : Nat} (L : Ply P k) (enc : α → List Value) (cf : α → α → Int) (g : Nat) (cb : Array Value) (hO : SWO (ltOf cf)) (blk off cap : Nat) (d0 : Array α) (w0 : World)
    (eg : ∀ args w, (callFunc g args).run P w = .ok (.enter g args) w) (hcmp : CmpLays P g cb enc k cf blk off d0.size w0) (R : RowK enc k w0 blk off d0) : ∀ (N a m b : Nat) (d : Array α) (w : World), b - a < N → d0.size = d.size → SWK enc k w0 blk off d w → a < m → m < b → b ≤ d.size → d.size < 4611686018427387904 → SortedIn (ltOf cf) a m d → SortedIn (ltOf cf) m b d →
    Calls P 37 #[.slice (some ⟨blk, off, none⟩) d.size cap, .int .i64 a, .int .i64 m, .int .i64 b, .func (.func g) #[] cb] w fun e w' => e = .returned (.tuple #[]) ∧ ∃ d', (Stb (ltOf cf) a b d d' ∧ SortedIn (ltOf cf) a b d') ∧ SWK enc k w0 blk off d' w' := by
  have mixed := L.mixed; have t0 := L.t0; have a0 := L.a0; have z0 := L.z0; have v0 := L.v0; have t3 := L.t3; have a3 := L.a3; have z3 := L.z3; have v3 := L.v3; have t4 := L.t4; have a4 := L.a4; have z4 := L.z4; have v4 := L.v4; have t24 := L.t24; have a24 := L.a24; have z24 := L.z24; have v24 := L.v24; have t53 := L.t53; have a53 := L.a53; have z53 := L.z53; have v53 := L.v53; have t61 := L.t61; have a61 := L.a61; have z61 := L.z61; have v61 := L.v61
  have aE := L.aE; have zE := L.zE
  have e37 : ∀ args w, (callFunc 37 args).run P w = .ok (.enter 37 args) w := enters_of L.f37 (by kernel_rfl) rfl
  have e38 : ∀ args w, (callFunc 38 args).run P w = .ok (.enter 38 args) w := enters_of L.f38 (by kernel_rfl) rfl
  intro N
  induction N with
  | zero => intro _ _ _ _ _ h; exact absurd h (Nat.not_lt_zero _)
  | succ N ih =>
  intro a m b d w hN hs S ham hmb hb hsz s1 s2
  by_cases h1 : m = a + 1
  · exact sym_up L enc cf g cb hO blk off cap d0 w0 eg hcmp R a m b d w hs S h1 hmb hb hsz s2
  by_cases h2 : b = m + 1
  · exact sym_down L enc cf g cb hO blk off cap d0 w0 eg hcmp R a m b d w hs S (by omega) h2 hb hsz s1
  have S0 : Aside (SWK enc k w0 blk off d w) := S
  have HC : Aside _ := hcmp
  have IH : Aside _ := ih
  have SO1 : Hid (SortedIn (ltOf cf) a m d) := s1
  have SO2 : Hid (SortedIn (ltOf cf) m b d) := s2
  obtain ⟨mid, hmid⟩ : ∃ mid, mid = (a + b) / 2 := ⟨_, rfl⟩
  have hmz : ((a : Int) + (b : Int)) / 2 = (mid : Int) := by omega
  have hb1 : ((m : Int) - (a : Int) == 1) = false := by simp only [beq_eq_false_iff_ne]; omega
  have hb2 : ((b : Int) - (m : Int) == 1) = false := by simp only [beq_eq_false_iff_ne]; omega
  have k1 : a < mid := by omega
  have k2 : mid < b := by omega
  have k3 : 2 * mid ≤ a + b := by omega
  have k4 : a + b ≤ 2 * mid + 1 := by omega
  clear S hcmp ih s1 s2 hmid h1 h2
  go_enter L.f37, Try.ntmps37
  go_upto_if 140 with fail
  clear hb1 hb2
  go_cut [20, 21] from 138 to 146 (fun s20 s21 wx => ∃ s0 r0 : Nat, s20 = .int .i64 s0 ∧ s21 = .int .i64 r0 ∧ a ≤ s0 ∧ s0 ≤ r0 ∧ r0 ≤ m ∧ r0 ≤ mid ∧ mid + m ≤ b + s0 ∧ Hid ((s0 = a ∨ mid + m = b + s0) ∧ (r0 = m ∨ r0 = mid)) ∧ wx = w)
  case first =>
    by_cases hm : mid < m
    · have hmz' : (mid : Int) < (m : Int) := by omega
      go_wp2_with fail
      go_meet
      case rel => exact ⟨mid + m - b, mid, by congr 1; omega, rfl, by omega, by omega, by omega, by omega, by omega, ⟨Or.inr (by omega), Or.inr rfl⟩, rfl⟩
    · have hmz' : ¬ (mid : Int) < (m : Int) := by omega
      go_wp2_with fail
      go_meet
      case rel => exact ⟨a, m, rfl, rfl, by omega, by omega, by omega, by omega, by omega, ⟨Or.inl rfl, Or.inl rfl⟩, rfl⟩
  case rest =>
  obtain ⟨s0, r0, rfl, rfl, q1, q2, q3, q4, q5, HQ, rfl⟩ := hcut
  go_wp2_with fail
  go_loopg [20, 21] (r0 - s0) (fun kx s20 s21 wr => ∃ (s r : Nat), s20 = .int .i64 s ∧ s21 = .int .i64 r ∧ s0 ≤ s ∧ s ≤ r ∧ r ≤ r0 ∧ r - s ≤ kx ∧ Aside (SWK enc k w0 blk off d wr) ∧ Hid ((s = s0 ∨ ltOf cf d[mid + m - s]! d[s - 1]! = false) ∧ (r = r0 ∨ ltOf cf d[mid + m - 1 - r]! d[r]! = true)))
  case atStart => exact ⟨s0, r0, rfl, rfl, Nat.le_refl _, q2, Nat.le_refl _, Nat.le_refl _, S0, ⟨Or.inl rfl, Or.inl rfl⟩⟩
  case round =>
  clear S0
  obtain ⟨s, r, rfl, rfl, hs0, hsr, hr0, hkx, S1, HI⟩ := hrel
  by_cases hlt : s < r
  · have hltz : (s : Int) < (r : Int) := by omega
    obtain ⟨c, hc⟩ : ∃ c, c = (s + r) / 2 := ⟨_, rfl⟩
    have hcz : ((s : Int) + (r : Int)) / 2 = (c : Int) := by omega
    have c1 : s ≤ c := by omega
    have c2 : c < r := by omega
    obtain ⟨t, ht⟩ : ∃ t, t = mid + m - 1 - c := ⟨_, rfl⟩
    have htz : (mid : Int) + (m : Int) - 1 - (c : Int) = (t : Int) := by omega
    have c3 : t < b := by omega
    have HT : Hid (t = mid + m - 1 - c) := ht
    clear hc ht
    cases hL : ltOf cf d[t]! d[c]! with
    | false =>
      have ea1 : ((t : Int)).toNat = t := by omega
      have pa1 : (0 : Int) ≤ (t : Int) := by omega
      have ba1 : (t : Int) < (d.size : Int) := by omega
      have ra1 : IntKind.i64.wrap ((t : Int)) = (t : Int) := by rw [IntKind.wrap_i64]; omega
      have ec1 : ((c : Int)).toNat = c := by omega
      have pc1 : (0 : Int) ≤ (c : Int) := by omega
      have bc1 : (c : Int) < (d.size : Int) := by omega
      have rc1 : IntKind.i64.wrap ((c : Int)) = (c : Int) := by rw [IntKind.wrap_i64]; omega
      obtain ⟨x1, hx1⟩ : ∃ x, x = d[t]! := ⟨_, rfl⟩
      obtain ⟨y1, hy1⟩ : ∃ x, x = d[c]! := ⟨_, rfl⟩
      have l1a := S1.out.ld R (by omega) P (t) (by omega)
      have l1b := S1.out.ld R (by omega) P (c) (by omega)
      rw [← hx1] at l1a
      rw [← hy1] at l1b
      have hc1 := S1.out.cmp HC.out (by omega) x1 y1
      have hv1 : ¬ cf x1 y1 < 0 := by rw [hx1, hy1]; exact of_decide_eq_false hL
      have hd1 : decide (cf x1 y1 < 0) = false := decide_eq_false hv1
      clear hx1 hy1
      go_wp2_with fail
      go_quiet_grown (first | (go_at_fn g; refine Calls.grown_of (hc1 _ _)))
      have S2 : Aside (SWK enc k w0 blk off d (grow (wr.drewN nq) osq)) := S1.out.grown nq osq
      clear l1a l1b hc1 S1
      generalize grow (wr.drewN nq) osq = w2 at S2 ⊢
      clear nq osq
      go_wp2
      go_roundg (r - (c + 1))
      case measure => omega
      case rel => exact ⟨c + 1, r, by simp, rfl, by omega, by omega, hr0, Nat.le_refl _, S2, ⟨Or.inr (by rw [Nat.add_sub_cancel, show mid + m - (c + 1) = mid + m - 1 - c by omega, ← HT.out]; exact hL), HI.out.2⟩⟩
    | true =>
      have ea1 : ((t : Int)).toNat = t := by omega
      have pa1 : (0 : Int) ≤ (t : Int) := by omega
      have ba1 : (t : Int) < (d.size : Int) := by omega
      have ra1 : IntKind.i64.wrap ((t : Int)) = (t : Int) := by rw [IntKind.wrap_i64]; omega
      have ec1 : ((c : Int)).toNat = c := by omega
      have pc1 : (0 : Int) ≤ (c : Int) := by omega
      have bc1 : (c : Int) < (d.size : Int) := by omega
      have rc1 : IntKind.i64.wrap ((c : Int)) = (c : Int) := by rw [IntKind.wrap_i64]; omega
      obtain ⟨x1, hx1⟩ : ∃ x, x = d[t]! := ⟨_, rfl⟩
      obtain ⟨y1, hy1⟩ : ∃ x, x = d[c]! := ⟨_, rfl⟩
      have l1a := S1.out.ld R (by omega) P (t) (by omega)
      have l1b := S1.out.ld R (by omega) P (c) (by omega)
      rw [← hx1] at l1a
      rw [← hy1] at l1b
      have hc1 := S1.out.cmp HC.out (by omega) x1 y1
      have hv1 : cf x1 y1 < 0 := by rw [hx1, hy1]; exact of_decide_eq_true hL
      have hd1 : decide (cf x1 y1 < 0) = true := decide_eq_true hv1
      clear hx1 hy1
      go_wp2_with fail
      go_quiet_grown (first | (go_at_fn g; refine Calls.grown_of (hc1 _ _)))
      have S2 : Aside (SWK enc k w0 blk off d (grow (wr.drewN nq) osq)) := S1.out.grown nq osq
      clear l1a l1b hc1 S1
      generalize grow (wr.drewN nq) osq = w2 at S2 ⊢
      clear nq osq
      go_wp2
      go_roundg (c - s)
      case measure => omega
      case rel => exact ⟨s, c, rfl, rfl, hs0, by omega, by omega, Nat.le_refl _, S2, ⟨HI.out.1, Or.inr (by rw [← HT.out]; exact hL)⟩⟩
  · have hltz : ¬ (s : Int) < (r : Int) := by omega
    obtain ⟨e, he⟩ : ∃ e, e = mid + m - s := ⟨_, rfl⟩
    have hez : (mid : Int) + (m : Int) - (s : Int) = (e : Int) := by omega
    have H1 : Hid (Half (ltOf cf) a mid b s e d (rot d s m e)) := by
      obtain ⟨i1, i2⟩ := HI.out
      obtain ⟨j1, j2⟩ := HQ.out
      refine sym_mid hO d a m b mid s e hb SO1.out SO2.out (by omega) (by omega) (by omega) (by omega) (by omega) ?_ ?_
      · rcases i1 with i1 | i1
        · rcases j1 with j1 | j1
          · exact Or.inl (by omega)
          · exact Or.inr (Or.inl (by omega))
        · exact Or.inr (Or.inr (by rw [he]; exact i1))
      · rcases i2 with i2 | i2
        · rcases j2 with j2 | j2
          · exact Or.inl (by omega)
          · exact Or.inr (Or.inl (by omega))
        · refine Or.inr (Or.inr ?_)
          rw [show e - 1 = mid + m - 1 - r by omega, show s = r by omega]
          exact i2
    have e1 : s ≤ m := by omega
    have e2 : m ≤ e := by omega
    have e3 : e ≤ b := by omega
    have e4 : a ≤ s := by omega
    have e5 : s ≤ mid := by omega
    have e6 : mid ≤ e := by omega
    have e7 : s + e = mid + m := by omega
    have E7 : Hid (s + e = mid + m) := e7
    clear HI HQ he e7 hlt hsr hr0 hs0 hkx q1 q2 q3 q4 q5
    go_upto_region 39 with fail
    clear hez hltz
    go_cut [185] from 178 to 184 (fun c wx => BoolIs (s < m ∧ m < e) c ∧ wr = wx)
    case first =>
      by_cases hA : s < m
      · have hAz : (s : Int) < (m : Int) := by omega
        by_cases hB : m < e
        · have hBz : (m : Int) < (e : Int) := by omega
          go_wp2_with fail
          go_meet
          case rel => exact ⟨⟨true, rfl, ⟨fun _ => ⟨hA, hB⟩, fun _ => rfl⟩⟩, rfl⟩
        · have hBz : ¬ (m : Int) < (e : Int) := by omega
          go_wp2_with fail
          go_meet
          case rel => exact ⟨⟨false, rfl, ⟨fun h => (by cases h), fun h => absurd h.2 hB⟩⟩, rfl⟩
      · have hAz : ¬ (s : Int) < (m : Int) := by omega
        go_wp2_with fail
        go_meet
        case rel => exact ⟨⟨false, rfl, ⟨fun h => (by cases h), fun h => absurd h.1 hA⟩⟩, rfl⟩
    case rest =>
    obtain ⟨HB, rfl⟩ := hcut
    obtain ⟨bb, rfl, HB⟩ := HB
    have HB : Hid (bb = true ↔ (s < m ∧ m < e)) := HB
    go_upto_if 185 with fail
    go_cut [] from 186 to 191 (fun wx => Aside (SWK enc k w0 blk off (rot d s m e) wx))
    case first =>
      cases bb with
      | true =>
        have hR := HB.out.1 rfl
        have c38 := rotate_any L enc g cb blk off cap s m e d0 d w0 wr R hs S1.out hR.1 hR.2 (by omega) hsz
        clear S1 hR HB
        go_wp2_with (go_at_fn 38; refine c38.mono ?_; rintro e w' ⟨rfl, hS2⟩)
        go_meet
        case rel => exact hS2
      | false =>
        have hR : ¬ (s < m ∧ m < e) := fun h => by cases HB.out.2 h
        have S2 : Aside (SWK enc k w0 blk off (rot d s m e) wr) := by
          by_cases hA : s = m
          · rw [hA, rot_none' d m e (by omega)]; exact S1
          · rw [show e = m by omega, rot_none d s m (by omega)]; exact S1
        clear S1 hR HB
        go_wp2_with fail
        go_meet
        case rel => exact S2
    case rest =>
    clear S1 HB
    obtain ⟨d1, HD1⟩ : ∃ d1, Hid (d1 = rot d s m e) := ⟨_, rfl⟩
    have HS1 : Hid (d1.size = d.size) := by show _ = _; rw [HD1.out, rot_size]
    rw [← HD1.out] at hcut H1
    have S1 : Aside (SWK enc k w0 blk off d1 wc) := hcut
    clear hcut
    generalize wc = w1 at S1 ⊢
    go_upto_region 41 with fail
    go_cut [199] from 192 to 198 (fun c wx => BoolIs (a < s ∧ s < mid) c ∧ w1 = wx)
    case first =>
      by_cases hA : a < s
      · have hAz : (a : Int) < (s : Int) := by omega
        by_cases hB : s < mid
        · have hBz : (s : Int) < (mid : Int) := by omega
          go_wp2_with fail
          go_meet
          case rel => exact ⟨⟨true, rfl, ⟨fun _ => ⟨hA, hB⟩, fun _ => rfl⟩⟩, rfl⟩
        · have hBz : ¬ (s : Int) < (mid : Int) := by omega
          go_wp2_with fail
          go_meet
          case rel => exact ⟨⟨false, rfl, ⟨fun h => (by cases h), fun h => absurd h.2 hB⟩⟩, rfl⟩
      · have hAz : ¬ (a : Int) < (s : Int) := by omega
        go_wp2_with fail
        go_meet
        case rel => exact ⟨⟨false, rfl, ⟨fun h => (by cases h), fun h => absurd h.1 hA⟩⟩, rfl⟩
    case rest =>
    obtain ⟨HB, rfl⟩ := hcut
    obtain ⟨bb, rfl, HB⟩ := HB
    have HB : Hid (bb = true ↔ (a < s ∧ s < mid)) := HB
    go_upto_if 199 with fail
    go_cut [] from 200 to 205 (fun wx => ∃ d2, Hid (Stb (ltOf cf) a mid d1 d2 ∧ SortedIn (ltOf cf) a mid d2) ∧ Aside (SWK enc k w0 blk off d2 wx))
    case first =>
      cases bb with
      | true =>
        have hR := HB.out.1 rfl
        have c37 := IH.out a s mid d1 w1 (by omega) (hs.trans HS1.out.symm) S1.out hR.1 hR.2 (by rw [HS1.out]; omega) (by rw [HS1.out]; exact hsz) H1.out.p1 H1.out.p2
        rw [HS1.out] at c37
        clear S1 hR HB
        go_wp2_with (go_at_fn 37; refine c37.mono ?_; rintro e w' ⟨rfl, d2, hd2, hS2⟩)
        go_meet
        case rel => exact ⟨d2, hd2, hS2⟩
      | false =>
        have hR : ¬ (a < s ∧ s < mid) := fun h => by cases HB.out.2 h
        have hso : Hid (SortedIn (ltOf cf) a mid d1) := by
          by_cases hA : s = a
          · have := H1.out.p2
            rw [hA] at this; exact this
          · have := H1.out.p1
            rw [show s = mid by omega] at this; exact this
        clear hR HB
        go_wp2_with fail
        go_meet
        case rel => exact ⟨d1, ⟨Stb.refl .., hso.out⟩, S1⟩
    case rest =>
    clear S1 HB
    obtain ⟨d2, HD2, S2⟩ := hcut
    have HS2 : Hid (d2.size = d.size) := by show _ = _; rw [HD2.out.1.size]; exact HS1.out
    generalize wc = w2 at S2 ⊢
    go_upto_region 43 with fail
    go_cut [213] from 206 to 212 (fun c wx => BoolIs (mid < e ∧ e < b) c ∧ w2 = wx)
    case first =>
      by_cases hA : mid < e
      · have hAz : (mid : Int) < (e : Int) := by omega
        by_cases hB : e < b
        · have hBz : (e : Int) < (b : Int) := by omega
          go_wp2_with fail
          go_meet
          case rel => exact ⟨⟨true, rfl, ⟨fun _ => ⟨hA, hB⟩, fun _ => rfl⟩⟩, rfl⟩
        · have hBz : ¬ (e : Int) < (b : Int) := by omega
          go_wp2_with fail
          go_meet
          case rel => exact ⟨⟨false, rfl, ⟨fun h => (by cases h), fun h => absurd h.2 hB⟩⟩, rfl⟩
      · have hAz : ¬ (mid : Int) < (e : Int) := by omega
        go_wp2_with fail
        go_meet
        case rel => exact ⟨⟨false, rfl, ⟨fun h => (by cases h), fun h => absurd h.1 hA⟩⟩, rfl⟩
    case rest =>
    obtain ⟨HB, rfl⟩ := hcut
    obtain ⟨bb, rfl, HB⟩ := HB
    have HB : Hid (bb = true ↔ (mid < e ∧ e < b)) := HB
    have p3 := SortedIn.stb H1.out.p3 HD2.out.1 (Or.inr (Nat.le_refl _))
    have p4 := SortedIn.stb H1.out.p4 HD2.out.1 (Or.inr e6)
    have P34 : Hid (SortedIn (ltOf cf) mid e d2 ∧ SortedIn (ltOf cf) e b d2) := ⟨p3, p4⟩
    clear p3 p4
    cases bb with
    | true =>
      have hR := HB.out.1 rfl
      have c37 := IH.out mid e b d2 w2 (by omega) (hs.trans HS2.out.symm) S2.out hR.1 hR.2 (by rw [HS2.out]; omega) (by rw [HS2.out]; exact hsz) P34.out.1 P34.out.2
      rw [HS2.out] at c37
      clear S2 hR HB
      go_wp2_with (go_at_fn 37; refine c37.mono ?_; rintro e w' ⟨rfl, d3, hd3, hS3⟩)
      go_end0
      exact ⟨rfl, d3, H1.out.done hO (by omega) (by omega) HD2.out.1 HD2.out.2 hd3.1 hd3.2, hS3⟩
    | false =>
      have hR : ¬ (mid < e ∧ e < b) := fun h => by cases HB.out.2 h
      have hso : Hid (SortedIn (ltOf cf) mid b d2) := by
        by_cases hA : e = mid
        · have := P34.out.2
          rw [hA] at this; exact this
        · have := P34.out.1
          rw [show e = b by omega] at this; exact this
      clear hR HB
      go_wp2_with fail
      go_end0
      exact ⟨rfl, d2, H1.out.done hO (by omega) (by omega) HD2.out.1 HD2.out.2 (Stb.refl ..) hso.out, S2.out⟩
end Go.Proofs.Ytjkpidhpjleebaa
