/-
  The document's Newest. Condition: at most 2932031007402 founds (2^47 bytes).
-/
import Derived.Test.YtjkpidhpjleebaaRSrt
namespace Go.Proofs.Ytjkpidhpjleebaa
set_option maxRecDepth 100000
open Go.RowKit Go.Sort

def s2 (of t : Int) (f : Fnd) : Bool := snd f && decide (f.O = of) && decide (f.S = t)
theorem mx_snoc (l : List Fnd) (f : Fnd) : mx (l ++ [f]) = if mx l < f.S then f.S else mx l := by
  unfold mx
  rw [List.foldl_append]
  rfl
theorem mx_pos {l : List Fnd} {of ab : Int} (h : l.filter (cnd of ab) ≠ []) : 0 ≤ mx (l.filter (cnd of ab)) ∧ ab < mx (l.filter (cnd of ab)) := by
  have h0 : ∀ f ∈ l.filter (cnd of ab), 0 ≤ f.S := fun f hf => ((snd_iff f).1 (cnd_snd (List.mem_filter.1 hf).2).1).2.2.2.2.1
  obtain ⟨f, hf, e⟩ := mx_mem h h0
  have h1 := cnd_snd (List.mem_filter.1 hf).2
  exact ⟨by rw [← e]; exact h0 f hf, by rw [← e]; exact h1.2.2⟩
theorem sel_eq {l : List Fnd} {of ab : Int} (h : l.filter (cnd of ab) ≠ []) : sel l of ab = l.filter (s2 of (mx (l.filter (cnd of ab)))) := by
  have hp := (mx_pos h).2
  unfold sel
  generalize mx (l.filter (cnd of ab)) = t at hp ⊢
  rw [List.filter_filter]
  congr 1
  funext f
  rw [Bool.eq_iff_iff]
  simp only [cnd, s2, Bool.and_eq_true, decide_eq_true_eq]
  constructor
  · rintro ⟨h1, h2, h3⟩; exact ⟨h2, h1⟩
  · rintro ⟨h1, h2⟩; exact ⟨h2, h1, by omega⟩
theorem lat_ne {l : List Fnd} {of ab : Int} (h : l.filter (cnd of ab) ≠ []) : lat l of ab ≠ [] := by
  have h0 : ∀ f ∈ l.filter (cnd of ab), snd f = true := fun f hf => (cnd_snd (List.mem_filter.1 hf).2).1
  obtain ⟨f, hf, e⟩ := mx_mem h (fun f hf => ((snd_iff f).1 (h0 f hf)).2.2.2.2.1)
  have hp := (snd_iff f).1 (h0 f hf)
  refine List.ne_nil_of_mem (a := f) (mem_byP.2 ⟨List.mem_filter.2 ⟨hf, by simpa using e⟩, hp.1, hp.2.1⟩)
theorem Sl.at6 {w : World} {a : Option Addr} {n cap : Nat} {l : List Fnd} (h : Sl w (.slice a n cap) l) (h0 : l.length ≠ 0) : ∃ g o, a = some ⟨g, o, none⟩ ∧ At6 w g o l := by
  obtain ⟨a', c', e, _, h⟩ := h
  simp only [Value.slice.injEq] at e
  obtain ⟨rfl, -, -⟩ := e
  rcases h with h | ⟨g, o, rfl, hA⟩
  · omega
  · exact ⟨g, o, rfl, hA⟩
theorem rsorted_c (w : World) (a : Option Addr) (cap : Nat) (l : List Fnd) (n : Nat) (hnl : n = l.length) (hs : Sl w (.slice a n cap) l) (hn : n < 2932031007402) (L : List Fnd) (hL : byP l = L) (m : Nat) (hm : L.length = m) (h0 : m ≠ 0) :
    Calls Try.prog 22 #[.slice a n cap] w fun e w' => ∃ g o cap', e = .returned (.slice (some ⟨g, o, none⟩) m cap') ∧ At6 w' g o L ∧ Chg (fun _ => False) w w' := by
  refine (rsorted_any w a cap l n hnl hs hn).mono ?_
  rintro e w' ⟨v, rfl, ⟨a', cap', rfl, _, h2⟩, h3⟩
  rw [hL, hm] at h2
  rw [hL, hm]
  rcases h2 with h2 | ⟨g, o, rfl, h2⟩
  · exact absurd h2 h0
  · exact ⟨g, o, cap', rfl, h2, h3⟩

set_option maxHeartbeats 16000000 in
theorem rnewest_any (w : World) (a : Option Addr) (cap : Nat) (l : List Fnd) (n : Nat) (hnl : n = l.length) (of ab : Int) (hs : Sl w (.slice a n cap) l) (hn : n < 2932031007402) :
    Calls Try.prog 12 #[.slice a n cap, .int .i64 of, .int .i64 ab] w (NewR w l of ab) := by
  have HS := hyd hs
  have HN := hyd hnl
  have HB : Hid (newest l of ab = pk (lat l of ab)) := rfl
  clear hs hnl
  go_enter Try.func12, Try.ntmps12
  go_wp2_with (refine wpList_alloc_fo rfl rfl w.heap.size rfl ?_)
  intro w1 K1 G1 S1
  have HS1 := hyd (HS.out.new G1)
  have HK1 := hyd K1
  have HG1 := hyd G1
  clear K1 G1 HS
  go_wp2_with fail
  go_loopg [8, 9] n (fun kx s8 s9 wr => ∃ i : Nat, s9 = .int .i64 i ∧ s8 = .int .i64 (mx ((l.take i).filter (cnd of ab))) ∧ i ≤ n ∧ n - i ≤ kx ∧ Hid (Chg (fun _ => False) w1 wr))
  case atStart => exact ⟨0, rfl, by simp [mx], by omega, by omega, Chg.refl _ _⟩
  case round =>
  obtain ⟨i, rfl, rfl, hin, hkx, HGr⟩ := hrel
  by_cases hlt : i < n
  · have hltz : (i : Int) < (n : Int) := by omega
    obtain ⟨f, hf⟩ : ∃ f, l[i]? = some f := ⟨_, List.getElem?_eq_getElem (by rw [← HN.out]; exact hlt)⟩
    have HF := hyd hf
    obtain ⟨g, o, ha, hA⟩ := HS1.out.at6 (by rw [← HN.out]; omega)
    subst ha
    have hA2 := hA.chg HGr.out (fun h => h)
    have HR := hyd (hA2.2 i f hf)
    have HA2 := hyd hA2
    clear hf hA hA2
    have HT := hyd (filter_take_succ (p := cnd of ab) HF.out)
    have HM := hyd (mx_snoc ((l.take i).filter (cnd of ab)) f)
    obtain ⟨t, ht⟩ : ∃ t, mx ((l.take i).filter (cnd of ab)) = t := ⟨_, rfl⟩
    rw [ht] at HM
    rw [ht]
    have HTT := hyd ht
    clear ht
    cases hsn : snd f with
    | false =>
      have HC : Hid (cnd of ab f = false) := by show _ = _; simp [cnd, hsn]
      go_wp2_with (first | (refine wpList_load_at (f := f) rfl (.tmp 25) rfl g (o + i * 6) rfl ?_ ?_; exact HR.out) | (go_at_call 17; refine (rsound_any f _).mono ?_; rintro e w3 ⟨rfl, G3⟩; have A3 := HA2.out.chg G3 (fun h => h); obtain ⟨-, k2, k3, -⟩ := A3.fields HF.out; have HG3 := hyd (HGr.out.trans G3); clear A3 G3))
      go_roundg (n - (i + 1))
      case measure => omega
      case rel =>
        refine ⟨i + 1, by simp, ?_, by omega, Nat.le_refl _, HG3.out⟩
        rw [HT.out, HC.out]
        simp [HTT.out]
    | true =>
    by_cases hof : f.O = of
    case neg =>
      have HC : Hid (cnd of ab f = false) := by show _ = _; simp [cnd, hof]
      have hofb : (f.O == of) = false := by simpa using hof
      go_wp2_with (first | (refine wpList_load_at (f := f) rfl (.tmp 25) rfl g (o + i * 6) rfl ?_ ?_; exact HR.out) | (go_at_call 17; refine (rsound_any f _).mono ?_; rintro e w3 ⟨rfl, G3⟩; have A3 := HA2.out.chg G3 (fun h => h); obtain ⟨-, k2, k3, -⟩ := A3.fields HF.out; have HG3 := hyd (HGr.out.trans G3); clear A3 G3))
      go_roundg (n - (i + 1))
      case measure => omega
      case rel =>
        refine ⟨i + 1, by simp, ?_, by omega, Nat.le_refl _, HG3.out⟩
        rw [HT.out, HC.out]
        simp [HTT.out]
    have hofb : (f.O == of) = true := by simpa using hof
    by_cases hab : ab < f.S
    case neg =>
      have HC : Hid (cnd of ab f = false) := by show _ = _; simp [cnd, hab]
      have habb : decide (ab < f.S) = false := decide_eq_false hab
      clear hof
      go_wp2_with (first | (refine wpList_load_at (f := f) rfl (.tmp 25) rfl g (o + i * 6) rfl ?_ ?_; exact HR.out) | (go_at_call 17; refine (rsound_any f _).mono ?_; rintro e w3 ⟨rfl, G3⟩; have A3 := HA2.out.chg G3 (fun h => h); obtain ⟨-, k2, k3, -⟩ := A3.fields HF.out; have HG3 := hyd (HGr.out.trans G3); clear A3 G3))
      go_roundg (n - (i + 1))
      case measure => omega
      case rel =>
        refine ⟨i + 1, by simp, ?_, by omega, Nat.le_refl _, HG3.out⟩
        rw [HT.out, HC.out]
        simp [HTT.out]
    have HC : Hid (cnd of ab f = true) := by show _ = _; simp [cnd, hsn, hof, hab]
    have habb : decide (ab < f.S) = true := decide_eq_true hab
    clear hof
    by_cases htt : t < f.S
    · have htb : decide (t < f.S) = true := decide_eq_true htt
      go_wp2_with (first | (refine wpList_load_at (f := f) rfl (.tmp 25) rfl g (o + i * 6) rfl ?_ ?_; exact HR.out) | (go_at_call 17; refine (rsound_any f _).mono ?_; rintro e w3 ⟨rfl, G3⟩; have A3 := HA2.out.chg G3 (fun h => h); obtain ⟨-, k2, k3, -⟩ := A3.fields HF.out; have HG3 := hyd (HGr.out.trans G3); clear A3 G3))
      go_roundg (n - (i + 1))
      case measure => omega
      case rel =>
        refine ⟨i + 1, by simp, ?_, by omega, Nat.le_refl _, HG3.out⟩
        rw [HT.out, HC.out, if_pos rfl, HM.out, if_pos htt]
    · have htb : decide (t < f.S) = false := decide_eq_false htt
      go_wp2_with (first | (refine wpList_load_at (f := f) rfl (.tmp 25) rfl g (o + i * 6) rfl ?_ ?_; exact HR.out) | (go_at_call 17; refine (rsound_any f _).mono ?_; rintro e w3 ⟨rfl, G3⟩; have A3 := HA2.out.chg G3 (fun h => h); obtain ⟨-, k2, k3, -⟩ := A3.fields HF.out; have HG3 := hyd (HGr.out.trans G3); clear A3 G3))
      go_roundg (n - (i + 1))
      case measure => omega
      case rel =>
        refine ⟨i + 1, by simp, ?_, by omega, Nat.le_refl _, HG3.out⟩
        rw [HT.out, HC.out, if_pos rfl, HM.out, if_neg (by omega)]
  · have hltz : ¬ (i : Int) < (n : Int) := by omega
    rw [show i = l.length by have := HN.out; omega, List.take_length]
    have HG2 := hyd (HG1.out.trans HGr.out)
    have HK2 := hyd (HK1.out.chg HGr.out (fun h => h))
    have HS2 := hyd (HS1.out.new HGr.out)
    have hs2 : w.heap.size + 1 ≤ wr.heap.size := by have := HGr.out.size; omega
    have hltz : ¬ ((l.length : Nat) : Int) < (n : Int) := by have := HN.out; omega
    clear HGr HG1 HK1 HS1
    by_cases h0 : l.filter (cnd of ab) = []
    · have HZ : Hid (lat l of ab = []) := by
        show _ = _
        unfold lat sel
        rw [h0]
        simp [byP]
      rw [h0]
      have hm : mx [] = -1 := rfl
      rw [hm]
      clear h0
      go_wp2_with (first | refine wpList_build_fo rfl rfl ?_ | refine wpList_store_fo rfl (.tmp 6) (.tmp 67) rfl w.heap.size rfl rfl HK2.out ?_)
      intro w3 K3 G3
      have HK3 := hyd K3
      have HG3 := hyd (HG2.out.trans' G3 fun k hk h => by omega)
      clear K3 G3
      go_wp2
      refine bodyPost_ret (results_fo rfl _ rfl HK3.out) rfl ?_
      refine ⟨?_, HG3.out⟩
      rw [HB.out, HZ.out]; rfl
    · have hp := mx_pos h0
      have HSE := hyd (sel_eq h0)
      have HNE := hyd (lat_ne h0)
      obtain ⟨t, ht⟩ : ∃ t, mx (l.filter (cnd of ab)) = t := ⟨_, rfl⟩
      rw [ht] at HSE hp
      rw [ht]
      obtain ⟨hp1, hp2⟩ := hp
      have hp3 : ¬ t < 0 := by omega
      have hp3b : decide (t < 0) = false := decide_eq_false hp3
      have HT0 := hyd ht
      clear ht h0
      obtain ⟨w2, rfl⟩ : ∃ x, x = wr := ⟨_, rfl⟩
      go_wp2_with fail
      go_loopg [11, 12] n (fun kx s11 s12 wx => ∃ i : Nat, s12 = .int .i64 i ∧ i ≤ n ∧ n - i ≤ kx ∧ Hid (Ow wx w2.heap.size s11 ((l.take i).filter (s2 of t))) ∧ Hid (Chg (fun _ => False) w2 wx))
      case atStart => exact ⟨0, rfl, by omega, by omega, Ow.nil _ _, Chg.refl _ _⟩
      case round =>
      obtain ⟨i, rfl, hin, hkx, HO, HGr⟩ := hrel
      by_cases hlt : i < n
      · have hltz : (i : Int) < (n : Int) := by omega
        obtain ⟨f, hf⟩ : ∃ f, l[i]? = some f := ⟨_, List.getElem?_eq_getElem (by rw [← HN.out]; exact hlt)⟩
        have HF := hyd hf
        obtain ⟨g, o, ha, hA⟩ := HS2.out.at6 (by rw [← HN.out]; omega)
        subst ha
        have hA2 := hA.chg HGr.out (fun h => h)
        have HR := hyd (hA2.2 i f hf)
        have HA2 := hyd hA2
        clear hf hA hA2
        have HT := hyd (filter_take_succ (p := s2 of t) HF.out)
        cases hsn : snd f with
        | false =>
          have HC : Hid (s2 of t f = false) := by show _ = _; simp [s2, hsn]
          go_wp2_with (first | (refine wpList_load_at (f := f) rfl (.tmp 76) rfl g (o + i * 6) rfl ?_ ?_; exact HR.out) | (go_at_call 17; refine (rsound_any f _).mono ?_; rintro e w3 ⟨rfl, G3⟩; have A3 := HA2.out.chg G3 (fun h => h); obtain ⟨-, k2, k3, -⟩ := A3.fields HF.out; have HG3 := hyd (HGr.out.trans G3); have HO3 := hyd (HO.out.new G3); clear A3 G3))
          go_roundg (n - (i + 1))
          case measure => omega
          case rel =>
            refine ⟨i + 1, by simp, by omega, Nat.le_refl _, ?_, HG3.out⟩
            show Ow _ _ _ _
            rw [HT.out, HC.out]
            simpa using HO3.out
        | true =>
        by_cases hof : f.O = of
        case neg =>
          have HC : Hid (s2 of t f = false) := by show _ = _; simp [s2, hof]
          have hofb : (f.O == of) = false := by simpa using hof
          go_wp2_with (first | (refine wpList_load_at (f := f) rfl (.tmp 76) rfl g (o + i * 6) rfl ?_ ?_; exact HR.out) | (go_at_call 17; refine (rsound_any f _).mono ?_; rintro e w3 ⟨rfl, G3⟩; have A3 := HA2.out.chg G3 (fun h => h); obtain ⟨-, k2, k3, -⟩ := A3.fields HF.out; have HG3 := hyd (HGr.out.trans G3); have HO3 := hyd (HO.out.new G3); clear A3 G3))
          go_roundg (n - (i + 1))
          case measure => omega
          case rel =>
            refine ⟨i + 1, by simp, by omega, Nat.le_refl _, ?_, HG3.out⟩
            show Ow _ _ _ _
            rw [HT.out, HC.out]
            simpa using HO3.out
        have hofb : (f.O == of) = true := by simpa using hof
        by_cases hst : f.S = t
        case neg =>
          have HC : Hid (s2 of t f = false) := by show _ = _; simp [s2, hst]
          have hstb : (f.S == t) = false := by simpa using hst
          clear hof
          go_wp2_with (first | (refine wpList_load_at (f := f) rfl (.tmp 76) rfl g (o + i * 6) rfl ?_ ?_; exact HR.out) | (go_at_call 17; refine (rsound_any f _).mono ?_; rintro e w3 ⟨rfl, G3⟩; have A3 := HA2.out.chg G3 (fun h => h); obtain ⟨-, k2, k3, -⟩ := A3.fields HF.out; have HG3 := hyd (HGr.out.trans G3); have HO3 := hyd (HO.out.new G3); clear A3 G3))
          go_roundg (n - (i + 1))
          case measure => omega
          case rel =>
            refine ⟨i + 1, by simp, by omega, Nat.le_refl _, ?_, HG3.out⟩
            show Ow _ _ _ _
            rw [HT.out, HC.out]
            simpa using HO3.out
        have HC : Hid (s2 of t f = true) := by show _ = _; simp [s2, hsn, hof, hst]
        have hstb : (f.S == t) = true := by simpa using hst
        clear hof hst
        have hle : ((l.take i).filter (s2 of t)).length + 1 ≤ 2932031007402 := by
          have := Nat.le_trans (List.length_filter_le (s2 of t) (l.take i)) (by rw [List.length_take]; exact Nat.min_le_left _ _)
          omega
        go_wp2_with (first | (refine wpList_load_at (f := f) rfl (.tmp 77) rfl g (o + i * 6) rfl ?_ ?_; exact HR.out) | (refine wpList_load_at (f := f) rfl (.tmp 76) rfl g (o + i * 6) rfl ?_ ?_; exact HR.out) | (go_at_call 17; refine (rsound_any f _).mono ?_; rintro e w3 ⟨rfl, G3⟩; have A3 := HA2.out.chg G3 (fun h => h); obtain ⟨-, k2, k3, -⟩ := A3.fields HF.out; have HR3 := hyd (A3.2 i f HF.out); have HG3 := hyd (HGr.out.trans G3); have HO3 := hyd (HO.out.new G3); clear A3 G3) | (refine wpList_load_at (f := f) rfl (.tmp 103) rfl g (o + i * 6) rfl ?_ ?_; exact HR3.out) | (refine wpList_row_fo (f := f) rfl (.tmp 104) rfl rfl w3.heap.size rfl ?_))
        intro w4 K4 G4
        have HO4 := hyd (HO3.out.new G4)
        have HG4 := hyd (HG3.out.trans G4)
        have HA4 := hyd (At6.one K4)
        have hb4 : w2.heap.size ≤ w4.heap.size := HG4.out.size
        clear K4 G4 HO3 HG3 HR3
        go_wp2_with (refine wpList_append_fo w4 rfl (.tmp 100) (.tmp 105) rfl w2.heap.size u11 _ rfl HO4.out w3.heap.size 0 1 1 [f] rfl rfl HA4.out hle hb4 ?_)
        intro v' w5 O5 G5
        have HO5 := hyd O5
        have HG5 : Hid (Chg (fun _ => False) w2 w5) := hyd (HG4.out.trans' G5 fun k hk h => by
          have := HO4.out.block h
          omega)
        clear O5 G5
        go_wp2
        go_roundg (n - (i + 1))
        case measure => omega
        case rel =>
          refine ⟨i + 1, by simp, by omega, Nat.le_refl _, ?_, HG5.out⟩
          show Ow _ _ _ _
          rw [HT.out, HC.out]
          simpa using HO5.out
      · have hltz : ¬ (i : Int) < (n : Int) := by omega
        have HSL : Hid (Sl wr u11 (sel l of ab)) := by
          have := HO.out.sl
          rw [show i = l.length by have := HN.out; omega, List.take_length, ← HSE.out] at this
          exact this
        have HG3 := hyd (HG2.out.trans HGr.out)
        have HK3 := hyd (HK2.out.chg HGr.out (fun h => h))
        have hs3 : w.heap.size + 1 ≤ wr.heap.size := by have := HGr.out.size; omega
        obtain ⟨L, hL⟩ : ∃ L, lat l of ab = L := ⟨_, rfl⟩
        have hlen := lat_length l of ab
        rw [hL] at HB HNE hlen
        obtain ⟨x, r, rfl⟩ := List.exists_cons_of_ne_nil HNE.out
        obtain ⟨k, hk⟩ : ∃ k, r.length = k := ⟨_, rfl⟩
        obtain ⟨m, hm⟩ : ∃ m, m = k + 1 := ⟨_, rfl⟩
        have hkb : (m : Int) ≤ 2932031007402 := by have := HN.out; rw [List.length_cons, hk] at hlen; omega
        have hm0 : 0 < m := by omega
        obtain ⟨a2, cap2, rfl, hcap2, hA0⟩ := HSL.out
        have hsl : (sel l of ab).length ≤ n := by rw [HSE.out, HN.out]; exact List.length_filter_le _ _
        have c22 := rsorted_c wr a2 cap2 (sel l of ab) _ rfl HSL.out (by omega) (x :: r) hL m (by rw [List.length_cons, hk, hm]) (by omega)
        have HKk : Hid (r.length + 1 = m) := by show _ = _; omega
        clear hm hk hlen hL hA0 HSL HO HGr HNE HSE HK2 HG2 HS2
        have h0z : (0 : Int) < (m : Int) := by omega
        go_wp2_with (first | (go_at_call 22; refine c22.mono ?_; rintro e w4 ⟨g, o, cap', rfl, hA4, G4⟩; have HA4 := hyd hA4; have HG4 := hyd (HG3.out.trans G4); have HK4 := hyd (HK3.out.chg G4 (fun h => h)); have hs4 := G4.size; clear hA4 G4 c22) | (refine wpList_load_at (f := x) rfl (.tmp 110) rfl g o rfl ?_ ?_; exact HA4.out.2 0 x rfl) | (refine wpList_alloc_fo rfl rfl w4.heap.size rfl ?_))
        intro w5 K5 G5 S5
        have HK5 := hyd K5
        have hgs : g < w4.heap.size := HA4.out.1
        clear K5
        go_wp2_with (refine wpList_store_fo rfl (.tmp 14) (.tmp 111) rfl w4.heap.size rfl rfl HK5.out ?_)
        intro w6 K6 G6
        have G56 := G5.trans' G6 (fun k hk h => by omega)
        have HG6 := hyd (HG4.out.trans G56)
        have HA6 := hyd (HA4.out.chg G56 (fun h => h))
        have HR6 := hyd (HK4.out.chg G56 (fun h => h))
        have HK6 := hyd K6
        have hs6 : w4.heap.size + 1 ≤ w6.heap.size := by have := K6.lt; omega
        clear K6 G6 G5 G56 HK5 S5 HA4 HG4 HK4 HG3 HK3
        obtain ⟨B, HBB⟩ : ∃ B, Hid (B = w4.heap.size) := ⟨_, rfl⟩
        rw [← HBB.out]
        rw [← HBB.out] at HK6 hs6 hgs hs4
        go_wp2_with fail
        go_loopg [15] m (fun kx s15 wx => ∃ i : Nat, s15 = .int .i64 i ∧ 1 ≤ i ∧ i ≤ m ∧ m - i ≤ kx ∧ Hid (Fo wx B (best x (r.take (i - 1)))) ∧ Hid (Chg (· = B) w6 wx))
        case atStart => exact ⟨1, rfl, by omega, by omega, by omega, HK6.out, Chg.refl _ _⟩
        case round =>
        obtain ⟨i, rfl, hi1, hik, hkx, HKr, HGr⟩ := hrel
        have HBl := hyd HKr.out.lt
        by_cases hlt : i < m
        · have hltz : (i : Int) < (m : Int) := by omega
          obtain ⟨f, hf⟩ : ∃ f, r[i - 1]? = some f := ⟨_, List.getElem?_eq_getElem (by have := HKk.out; omega)⟩
          have HF := hyd hf
          have hA7 := HA6.out.chg HGr.out (by omega)
          have hf1 : (x :: r)[i]? = some f := by
            obtain ⟨q, rfl⟩ : ∃ q, i = q + 1 := ⟨i - 1, by omega⟩
            simpa using hf
          have hR := hA7.2 i f hf1
          obtain ⟨-, -, -, y4⟩ := hA7.fields hf1
          have HR := hyd hR
          obtain ⟨-, -, -, -, z4, -⟩ := HKr.out.cells
          clear hf hR hA7 hf1
          have HT := hyd (best_take (x := x) HF.out)
          rw [show i - 1 + 1 = i by omega] at HT
          obtain ⟨b, hb⟩ : ∃ b, best x (r.take (i - 1)) = b := ⟨_, rfl⟩
          rw [hb] at z4 HT HKr
          clear hb
          cases ha : ahd f.C b.C with
          | true =>
            go_wp2_with fail
            go_region_held3 (fun wx => wx.cell? ⟨g, o + i * 6 + 4, none⟩ = some (.int .i64 f.C) ∧ wx.cell? ⟨B, 4, none⟩ = some (.int .i64 b.C)) (first | exact ⟨y4, z4⟩) (first | (go_at_call 10; refine (rahead_any _ _ _).mono ?_; rintro e w' ⟨rfl, rfl⟩))
            have HK8 := hyd HKr.out.drew
            have HR8 : Hid (wr.drew.rangeAt g (o + i * 6) (fL f)) := HR.out
            go_wp2_with (first | (refine wpList_load_at (f := f) rfl (.tmp 131) rfl g (o + i * 6) rfl ?_ ?_; exact HR8.out) | (refine wpList_store_fo (f' := b) rfl (.tmp 14) (.tmp 132) rfl B rfl rfl HK8.out ?_))
            intro w7 K7 G7
            have HK7 := hyd K7
            have HG7 := hyd (HGr.out.drew.trans G7)
            clear K7 G7
            go_wp2
            go_roundg (m - (i + 1))
            case measure => omega
            case rel =>
              refine ⟨i + 1, by simp, by omega, by omega, Nat.le_refl _, ?_, HG7.out⟩
              show Fo _ _ _
              rw [Nat.add_sub_cancel]
              rw [HT.out, if_pos ha]
              exact HK7.out
          | false =>
            go_wp2_with fail
            go_region_held3 (fun wx => wx.cell? ⟨g, o + i * 6 + 4, none⟩ = some (.int .i64 f.C) ∧ wx.cell? ⟨B, 4, none⟩ = some (.int .i64 b.C)) (first | exact ⟨y4, z4⟩) (first | (go_at_call 10; refine (rahead_any _ _ _).mono ?_; rintro e w' ⟨rfl, rfl⟩))
            go_wp2
            go_roundg (m - (i + 1))
            case measure => omega
            case rel =>
              refine ⟨i + 1, by simp, by omega, by omega, Nat.le_refl _, ?_, HGr.out.drew⟩
              show Fo _ _ _
              rw [Nat.add_sub_cancel]
              rw [HT.out, if_neg (by rw [ha]; simp)]
              exact HKr.out
        · have hltz : ¬ (i : Int) < (m : Int) := by omega
          have HR5 := hyd (HR6.out.chg HGr.out (by omega))
          go_wp2_with (first | (refine wpList_load_fo rfl (.tmp 14) rfl B rfl HKr.out ?_) | (refine wpList_store_fo rfl (.tmp 6) (.tmp 133) rfl w.heap.size rfl rfl HR5.out ?_))
          intro w9 K9 G9
          have HK9 := hyd K9
          have HG9 := hyd ((HG6.out.trans' HGr.out fun k hk h => by omega).trans' G9 fun k hk h => by omega)
          clear K9 G9
          go_wp2
          refine bodyPost_ret (results_fo rfl _ rfl HK9.out) rfl ?_
          refine ⟨?_, HG9.out⟩
          rw [HB.out, show i - 1 = r.length by have := HKk.out; omega, List.take_length]; rfl
end Go.Proofs.Ytjkpidhpjleebaa
