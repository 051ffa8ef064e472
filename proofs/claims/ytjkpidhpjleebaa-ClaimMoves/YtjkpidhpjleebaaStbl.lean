/-
  slices.stableCmpFunc and slices.SortStableFunc: the elements in order, those that are alike as they stood. No condition: lemmas.
-/
import Derived.Test.YtjkpidhpjleebaaSymA
namespace Go.Proofs.Ytjkpidhpjleebaa
open Go.Shelf Go.RowKit Go.Lib Go.Sort
variable {P : Program} {α : Type} [Inhabited α]

/-- d' holds d's elements in order, those that are alike as they stood. -/
structure Srt (lt : α → α → Bool) (d d' : Array α) : Prop where
  stb : Stb lt 0 d.size d d'
  so : SortedIn lt 0 d.size d'
set_option maxHeartbeats 16000000 in
set_option maxRecDepth 1000000 in
theorem stable_any {k : Nat} (L : Ply P k) (enc : α → List Value) (cf : α → α → Int) (g : Nat) (cb : Array Value) (hO : SWO (ltOf cf)) (blk off cap : Nat) (d0 : Array α) (w0 : World)
    (eg : ∀ args w, (callFunc g args).run P w = .ok (.enter g args) w) (hcmp : CmpLays P g cb enc k cf blk off d0.size w0) (R : RowK enc k w0 blk off d0) (n : Nat) (hn : n = d0.size) (hsz : n < 1152921504606846976) :
    Calls P 33 #[.slice (some ⟨blk, off, none⟩) n cap, .int .i64 n, .func (.func g) #[] cb] w0 fun e w' => e = .returned (.tuple #[]) ∧ ∃ d', Srt (ltOf cf) d0 d' ∧ SWK enc k w0 blk off d' w' := by
  have mixed := L.mixed; have t0 := L.t0; have a0 := L.a0; have z0 := L.z0; have v0 := L.v0; have t3 := L.t3; have a3 := L.a3; have z3 := L.z3; have v3 := L.v3; have t4 := L.t4; have a4 := L.a4; have z4 := L.z4; have v4 := L.v4; have t24 := L.t24; have a24 := L.a24; have z24 := L.z24; have v24 := L.v24; have t53 := L.t53; have a53 := L.a53; have z53 := L.z53; have v53 := L.v53; have t61 := L.t61; have a61 := L.a61; have z61 := L.z61; have v61 := L.v61
  have aE := L.aE; have zE := L.zE
  have e36 : ∀ args w, (callFunc 36 args).run P w = .ok (.enter 36 args) w := enters_of L.f36 (by kernel_rfl) rfl
  have e37 : ∀ args w, (callFunc 37 args).run P w = .ok (.enter 37 args) w := enters_of L.f37 (by kernel_rfl) rfl
  have S0 : Aside (SWK enc k w0 blk off d0 w0) := SWK.start R.hH
  have HN : Hid (n = d0.size) := hn
  have HC : Aside _ := hcmp
  clear hn hcmp
  have INS : Aside (∀ (a b : Nat) (dk : Array α) (w : World), dk.size = d0.size → SWK enc k w0 blk off dk w → a ≤ b → b ≤ n → Calls P 36 #[.slice (some ⟨blk, off, none⟩) n cap, .int .i64 a, .int .i64 b, .func (.func g) #[] cb] w fun e w' => e = .returned (.tuple #[]) ∧ ∃ d', Stb (ltOf cf) a b dk d' ∧ SortedIn (ltOf cf) a b d' ∧ SWK enc k w0 blk off d' w') := fun a b dk w hs S hab hb => by
    have h := insertion_any L enc cf g cb blk off cap a b d0 dk w0 w eg HC.out R hs.symm S hO hab (by rw [hs, ← HN.out]; exact hb) (by rw [hs, ← HN.out]; omega)
    rw [hs, ← HN.out] at h
    exact h
  have SYM : Aside (∀ (a m b : Nat) (dk : Array α) (w : World), dk.size = d0.size → SWK enc k w0 blk off dk w → a < m → m < b → b ≤ n → SortedIn (ltOf cf) a m dk → SortedIn (ltOf cf) m b dk → Calls P 37 #[.slice (some ⟨blk, off, none⟩) n cap, .int .i64 a, .int .i64 m, .int .i64 b, .func (.func g) #[] cb] w fun e w' => e = .returned (.tuple #[]) ∧ ∃ d', (Stb (ltOf cf) a b dk d' ∧ SortedIn (ltOf cf) a b d') ∧ SWK enc k w0 blk off d' w') := fun a m b dk w hs S ham hmb hb s1 s2 => by
    have h := sym_any L enc cf g cb hO blk off cap d0 w0 eg HC.out R (b - a + 1) a m b dk w (by omega) hs.symm S ham hmb (by rw [hs, ← HN.out]; exact hb) (by rw [hs, ← HN.out]; omega) s1 s2
    rw [hs, ← HN.out] at h
    exact h
  clear HC
  go_enter L.f33, Try.ntmps33
  go_wp2
  go_loopg [7, 8] (n + 20) (fun kx s7 s8 wr => ∃ (a : Nat) (dk : Array α), s7 = .int .i64 a ∧ s8 = .int .i64 ((a : Int) + 20) ∧ a ≤ n ∧ n + 20 - a ≤ kx ∧ Hid (∃ q, a = q * 20) ∧ Hid (Stb (ltOf cf) 0 n d0 dk ∧ Runs (ltOf cf) 20 0 a dk) ∧ Aside (SWK enc k w0 blk off dk wr))
  case atStart => exact ⟨0, d0, rfl, rfl, by omega, by omega, ⟨0, by simp⟩, ⟨Stb.refl .., Runs.none⟩, S0⟩
  case round =>
  clear S0
  obtain ⟨a, dk, rfl, rfl, han, hkx, HQ, HD, S1⟩ := hrel
  by_cases hle : a + 20 ≤ n
  · have hlez : (a : Int) + 20 ≤ (n : Int) := by omega
    have c36 := INS.out a (a + 20) dk wr HD.out.1.size S1.out (by omega) hle
    rw [show ((a + 20 : Nat) : Int) = (a : Int) + 20 by omega] at c36
    clear S1
    go_wp2_with (go_at_fn 36; refine c36.mono ?_; rintro e w' ⟨rfl, d', h1, h2, h3⟩)
    go_roundg (n - a)
    case measure => omega
    case rel =>
      refine ⟨a + 20, d', by simp, by simp, hle, by omega, ?_, ⟨HD.out.1.trans (h1.mono (by omega) hle (by omega)), ?_⟩, h3⟩
      · obtain ⟨q, hq⟩ := HQ.out
        exact ⟨q + 1, by omega⟩
      · obtain ⟨q, hq⟩ := HQ.out
        exact HD.out.2.snoc hq (by omega) h1 h2
  · have hlez : ¬ (a : Int) + 20 ≤ (n : Int) := by omega
    have c36 := INS.out a n dk wr HD.out.1.size S1.out han (Nat.le_refl _)
    clear S1
    go_wp2_with (go_at_fn 36; refine c36.mono ?_; rintro e w' ⟨rfl, d', h1, h2, h3⟩)
    have HD2 : Hid (Stb (ltOf cf) 0 n d0 d' ∧ Runs (ltOf cf) 20 0 n d') := by
      obtain ⟨q, hq⟩ := HQ.out
      exact ⟨HD.out.1.trans (h1.mono (by omega) (Nat.le_refl _) han), HD.out.2.snoc hq (by omega) h1 h2⟩
    have S2 : Aside (SWK enc k w0 blk off d' w') := h3
    clear h1 h2 h3 HD HQ
    go_loopg [6] n (fun kx s6 wr => ∃ (bs : Nat) (dk : Array α), s6 = .int .i64 bs ∧ 0 < bs ∧ bs < 2305843009213693952 ∧ n - bs ≤ kx ∧ Hid (Stb (ltOf cf) 0 n d0 dk ∧ Runs (ltOf cf) bs 0 n dk) ∧ Aside (SWK enc k w0 blk off dk wr))
    case atStart => exact ⟨20, d', rfl, by omega, by omega, by omega, HD2, S2⟩
    case round =>
    clear HD2 S2
    obtain ⟨bs, d1, rfl, hb0, hbm, hkx2, HD, S1⟩ := hrel
    by_cases hlt : bs < n
    · have hltz : (bs : Int) < (n : Int) := by omega
      go_wp2
      go_loopg [7, 8] (n + 2 * bs) (fun kx s7 s8 wr => ∃ (a : Nat) (dk : Array α), s7 = .int .i64 a ∧ s8 = .int .i64 ((a : Int) + 2 * (bs : Int)) ∧ a ≤ n ∧ n + 2 * bs - a ≤ kx ∧ Hid (∃ q, a = q * (2 * bs)) ∧ Hid (Stb (ltOf cf) 0 n d0 dk ∧ Runs (ltOf cf) (2 * bs) 0 a dk ∧ Runs (ltOf cf) bs a n dk) ∧ Aside (SWK enc k w0 blk off dk wr))
      case atStart => exact ⟨0, d1, rfl, by simp, by omega, by omega, ⟨0, by simp⟩, ⟨HD.out.1, Runs.none, HD.out.2⟩, S1⟩
      case round =>
      clear S1 HD
      obtain ⟨a, dk, rfl, rfl, han, hkx, HQ, HD, S1⟩ := hrel
      have HQ2 : Hid (∃ q, a = q * (2 * bs) ∧ a = (q * 2) * bs ∧ a + bs = (q * 2 + 1) * bs) := by
        obtain ⟨q, hq⟩ := HQ.out
        have e : a = q * 2 * bs := by rw [hq, Nat.mul_assoc]
        exact ⟨q, hq, e, by rw [Nat.add_mul, Nat.one_mul, ← e]⟩
      by_cases hle : a + 2 * bs ≤ n
      · have hlez : (a : Int) + 2 * (bs : Int) ≤ (n : Int) := by omega
        have c37 := SYM.out a (a + bs) (a + 2 * bs) dk wr HD.out.1.size S1.out (by omega) (by omega) hle
          (by obtain ⟨q, _, h2, _⟩ := HQ2.out; exact HD.out.2.2.at_ (q * 2) a (a + bs) h2 (Nat.le_refl _) (Nat.le_refl _) (by omega))
          (by obtain ⟨q, _, _, h3⟩ := HQ2.out; exact HD.out.2.2.at_ (q * 2 + 1) (a + bs) (a + 2 * bs) h3 (by omega) (by omega) hle)
        rw [show ((a + 2 * bs : Nat) : Int) = (a : Int) + 2 * (bs : Int) by omega, show ((a + bs : Nat) : Int) = (a : Int) + (bs : Int) by omega] at c37
        clear S1
        go_wp2_with (go_at_fn 37; refine c37.mono ?_; rintro e w' ⟨rfl, d', ⟨h1, h2⟩, h3⟩)
        go_roundg (n - a)
        case measure => omega
        case rel =>
          refine ⟨a + 2 * bs, d', by simp, by simp, hle, by omega, ?_, ⟨HD.out.1.trans (h1.mono (by omega) hle (by omega)), ?_, ?_⟩, h3⟩
          · obtain ⟨q, hq⟩ := HQ.out
            exact ⟨q + 1, by rw [Nat.add_mul, Nat.one_mul, ← hq]⟩
          · obtain ⟨q, hq⟩ := HQ.out
            exact HD.out.2.1.snoc hq (by omega) h1 h2
          · exact HD.out.2.2.rest (by omega) h1 (Nat.le_refl _)
      · have hlez : ¬ (a : Int) + 2 * (bs : Int) ≤ (n : Int) := by omega
        by_cases hmn : a + bs < n
        · have hmz : (a : Int) + (bs : Int) < (n : Int) := by omega
          have c37 := SYM.out a (a + bs) n dk wr HD.out.1.size S1.out (by omega) hmn (Nat.le_refl _)
            (by obtain ⟨q, _, h2, _⟩ := HQ2.out; exact HD.out.2.2.at_ (q * 2) a (a + bs) h2 (Nat.le_refl _) (Nat.le_refl _) (by omega))
            (by obtain ⟨q, _, _, h3⟩ := HQ2.out; exact HD.out.2.2.at_ (q * 2 + 1) (a + bs) n h3 (by omega) (by omega) (Nat.le_refl _))
          rw [show ((a + bs : Nat) : Int) = (a : Int) + (bs : Int) by omega] at c37
          clear S1
          go_wp2_with (go_at_fn 37; refine c37.mono ?_; rintro e w' ⟨rfl, d', ⟨h1, h2⟩, h3⟩)
          go_roundg (n - 2 * bs)
          case measure => omega
          case rel =>
            refine ⟨2 * bs, d', by congr 1; omega, by omega, by omega, Nat.le_refl _, ⟨HD.out.1.trans (h1.mono (by omega) (Nat.le_refl _) han), ?_⟩, h3⟩
            obtain ⟨q, hq⟩ := HQ.out
            exact HD.out.2.1.snoc hq (by omega) h1 h2
        · have hmz : ¬ (a : Int) + (bs : Int) < (n : Int) := by omega
          go_wp2_with fail
          go_roundg (n - 2 * bs)
          case measure => omega
          case rel =>
            refine ⟨2 * bs, dk, by congr 1; omega, by omega, by omega, Nat.le_refl _, ⟨HD.out.1, ?_⟩, S1⟩
            obtain ⟨q, hq⟩ := HQ.out
            exact HD.out.2.1.grown HD.out.2.2 hq (by omega) hb0
    · have hltz : ¬ (bs : Int) < (n : Int) := by omega
      go_wp2
      go_end0
      refine ⟨rfl, d1, ⟨?_, ?_⟩, S1.out⟩
      · rw [← HN.out]; exact HD.out.1
      · rw [← HN.out]; exact HD.out.2.all (by omega)
set_option maxHeartbeats 4000000 in
set_option maxRecDepth 1000000 in
theorem sortStable_any {k : Nat} (L : Ply P k) (enc : α → List Value) (cf : α → α → Int) (g : Nat) (cb : Array Value) (hO : SWO (ltOf cf)) (blk off cap : Nat) (d0 : Array α) (w0 : World)
    (eg : ∀ args w, (callFunc g args).run P w = .ok (.enter g args) w) (hcmp : CmpLays P g cb enc k cf blk off d0.size w0) (R : RowK enc k w0 blk off d0) (n : Nat) (hn : n = d0.size) (hsz : n < 1152921504606846976) :
    Calls P 27 #[.slice (some ⟨blk, off, none⟩) n cap, .func (.func g) #[] cb] w0 fun e w' => e = .returned (.tuple #[]) ∧ ∃ d', Srt (ltOf cf) d0 d' ∧ SWK enc k w0 blk off d' w' := by
  have mixed := L.mixed; have t0 := L.t0; have a0 := L.a0; have z0 := L.z0; have v0 := L.v0; have t3 := L.t3; have a3 := L.a3; have z3 := L.z3; have v3 := L.v3; have t4 := L.t4; have a4 := L.a4; have z4 := L.z4; have v4 := L.v4; have t24 := L.t24; have a24 := L.a24; have z24 := L.z24; have v24 := L.v24; have t53 := L.t53; have a53 := L.a53; have z53 := L.z53; have v53 := L.v53; have t61 := L.t61; have a61 := L.a61; have z61 := L.z61; have v61 := L.v61
  have aE := L.aE; have zE := L.zE
  have e33 : ∀ args w, (callFunc 33 args).run P w = .ok (.enter 33 args) w := enters_of L.f33 (by kernel_rfl) rfl
  have c33 := stable_any L enc cf g cb hO blk off cap d0 w0 eg hcmp R n hn hsz
  have HN : Hid (n = d0.size) := hn
  clear hn hcmp
  go_enter L.f27, Try.ntmps27
  go_wp2_with (go_at_fn 33; refine c33.mono ?_; rintro e w' ⟨rfl, h⟩)
  go_end0
  exact ⟨rfl, h⟩
end Go.Proofs.Ytjkpidhpjleebaa
