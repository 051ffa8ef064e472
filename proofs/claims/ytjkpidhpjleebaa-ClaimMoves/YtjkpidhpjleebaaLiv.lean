/-
  Live. Condition: at most 2932031007402 founds (2^47 bytes).
-/
import Derived.Test.YtjkpidhpjleebaaLive
namespace Go.Proofs.Ytjkpidhpjleebaa
set_option maxRecDepth 100000
open Go.RowKit Go.Sort

theorem outside_n (w : World) (a : Option Addr) (cap : Nat) (l : List Fnd) (n : Nat) (hnl : n = l.length) (c : Ckp) (hs : Sl w (.slice a n cap) l) (hn : n < 2932031007402) (m : Nat) (hm : (l.filter (gd c)).length = m) :
    Calls Try.prog 23 #[.slice a n cap, .agg (bools c.B 12).toArray] w fun e w' => ∃ a' cap', e = .returned (.slice a' m cap') ∧ Sl w' (.slice a' m cap') (l.filter (gd c)) ∧ Chg (fun _ => False) w w' := by
  refine (outside_any w a cap l n hnl c hs hn).mono ?_
  rintro e w' ⟨v, rfl, hS, h3⟩
  obtain ⟨a', cap', rfl, _⟩ := id hS
  rw [hm] at hS
  exact ⟨a', cap', by rw [hm], hS, h3⟩
/-- Where the slice lies: in a block that is there. -/
theorem Sl.apart {w : World} {a : Option Addr} {n cap : Nat} {l : List Fnd} (h : Sl w (.slice a n cap) l) : l.length ≠ 0 → ∀ k, (Value.slice a n cap).ownBlock = some k → ¬ k = w.heap.size := by
  intro h0 k hk e
  obtain ⟨g, o, rfl, hA⟩ := h.at6 h0
  have hk' : g = k := Option.some.inj hk
  have := hA.1
  omega
theorem Sl.chg {S : Nat → Prop} {w w' : World} {a : Option Addr} {n cap : Nat} {l : List Fnd} (h : Sl w (.slice a n cap) l) (hc : Chg S w w') (hs : l.length ≠ 0 → ∀ k, (Value.slice a n cap).ownBlock = some k → ¬ S k) : Sl w' (.slice a n cap) l := by
  obtain ⟨a', cap', e, hcap, h⟩ := h
  simp only [Value.slice.injEq] at e
  obtain ⟨rfl, rfl, rfl⟩ := e
  refine ⟨a, cap, rfl, hcap, ?_⟩
  rcases h with h | ⟨g, o, rfl, h⟩
  · exact Or.inl h
  · by_cases h0 : l.length = 0
    · exact Or.inl h0
    · exact Or.inr ⟨g, o, rfl, h.chg hc (hs h0 g rfl)⟩
theorem lv_none {l : List Fnd} {c : Ckp} {i : Nat} (h : newest (l.filter (gd c)) i (flo c i) = none) : lv l c i = -1 := by unfold lv; rw [h]
theorem lv_some {l : List Fnd} {c : Ckp} {i : Nat} {f : Fnd} (h : newest (l.filter (gd c)) i (flo c i) = some f) : lv l c i = f.P := by unfold lv; rw [h]

set_option maxHeartbeats 8000000 in
theorem live_any (w : World) (a : Option Addr) (cap : Nat) (l : List Fnd) (n : Nat) (hnl : n = l.length) (c : Ckp) (hs : Sl w (.slice a n cap) l) (hn : n < 2932031007402) :
    Calls Try.prog 13 #[.slice a n cap, .agg (ckA c)] w fun e w' => e = .returned (.agg (ints (lv l c) 25).toArray) ∧ Chg (fun _ => False) w w' := by
  have HN := hyd hnl
  have K0 := Ck.new w c
  have HK0 := hyd K0
  have HG0 : Hid (Chg (fun _ => False) w (w.alloc (.cells (ckA c) 36))) := (Chg.refl _ w).alloc _
  have HS := hyd (hs.new HG0.out)
  have S33 : Hid ((Try.prog.info? 33).map (·.size) = some (bools c.B 12).length) := by show _ = _; rw [bools_length]; exact size33
  obtain ⟨m, hm⟩ : ∃ m, (l.filter (gd c)).length = m := ⟨_, rfl⟩
  have hmn : m ≤ n := by rw [← hm, hnl]; exact List.length_filter_le _ _
  have HM := hyd hm
  obtain ⟨B, HBB⟩ : ∃ B, Hid (B = w.heap.size) := ⟨_, rfl⟩
  clear hs hnl K0 hm
  go_enter Try.func13, Try.ntmps13
  go_wp2_with (refine wpList_alloc_25 rfl rfl (w.heap.size + 1) (World.size_alloc _ _) ?_)
  intro w1 A1 G1 S1
  have HK1 := hyd (HK0.out.chg G1 (fun h => h))
  have HS1 := hyd (HS.out.new G1)
  have HG1 := hyd (HG0.out.trans G1)
  have HA1 := hyd A1
  have HP1 := hyd (HK1.out.partB)
  have c23 := outside_n w1 a cap l n HN.out c HS1.out hn m HM.out
  clear A1 G1 HK0 HG0 HS
  rw [← HBB.out] at HK1 HA1 HP1 S1
  rw [← HBB.out]
  go_wp2_with (first | (refine wpList_load_mid rfl 33 (.tmp 11) rfl B 25 rfl _ _ HP1.out Try.underlying33 rfl S33.out ?_) | (go_at_call 23; refine c23.mono ?_; rintro e w2 ⟨a', cap', rfl, hS2, G2⟩; have HS2 := hyd hS2; have HSb0 := hyd (hS2.apart); have HK2 := hyd (HK1.out.chg G2 (fun h => h)); have HA2 := hyd (HA1.out.chg G2 (fun h => h)); have HG2 := hyd (HG1.out.trans G2); have hs2 := G2.size; clear G2 hS2 c23) | (refine wpList_alloc_25 rfl rfl w2.heap.size rfl ?_))
  intro w3 A3 G3 S3
  have HK3 := hyd (HK2.out.chg G3 (fun h => h))
  have HA3 := hyd (HA2.out.chg G3 (fun h => h))
  have HS3 := hyd (HS2.out.new G3)
  have HG3 := hyd (HG2.out.trans G3)
  have HD3 := hyd A3
  clear A3 G3 HK1 HA1 HP1 HG1 HS1 HK2 HA2 HG2 HS2 S33
  obtain ⟨D, HDD⟩ : ∃ D, Hid (D = w2.heap.size) := ⟨_, rfl⟩
  rw [← HDD.out] at HD3 S3 hs2 HSb0
  rw [← HDD.out]
  have hDw : w.heap.size + 2 ≤ D := by have := HBB.out; omega
  have hBD : B + 1 < D := by have := HBB.out; omega
  have hDs : D < w3.heap.size := by omega
  have HSb : Hid ((l.filter (gd c)).length ≠ 0 → ∀ k, (Value.slice a' m cap').ownBlock = some k → ¬ k = D) := hyd HSb0.out
  have C24 : Aside _ := fun (i : Nat) (h : i < 25) (W : World) => floor_any c i h W
  go_wp2_with fail
  go_loopg [14] 25 (fun kx s14 wr => ∃ (i : Nat) (F : Nat → Int), s14 = .int .i64 i ∧ i ≤ 25 ∧ 25 - i ≤ kx ∧ Hid (A25 wr D F) ∧ Hid (∀ j, j < i → F j = lv l c j) ∧ Hid (Chg (· = D) w3 wr))
  case atStart => exact ⟨0, fun _ => 0, rfl, by omega, by omega, HD3.out, fun j hj => absurd hj (Nat.not_lt_zero _), Chg.refl _ _⟩
  case round =>
  obtain ⟨i, F, rfl, hin, hkx, HDr, HF, HGr⟩ := hrel
  by_cases hlt : i < 25
  · have hltz : (i : Int) < 25 := by omega
    obtain ⟨d1, d2⟩ := HDr.out.cell i hlt
    have HD1 := hyd (HDr.out.set i (-1))
    have HG1 : Hid (Chg (· = D) w3 (wr.setCell ⟨D, i, none⟩ (.int .i64 (-1)))) := hyd (HGr.out.setCell (Or.inl rfl) i _)
    have c24 := C24.out i hlt
    have HKr := hyd (HK3.out.chg HG1.out (by omega))
    have hsr : (wr.setCell ⟨D, i, none⟩ (.int .i64 (-1))).heap.size = wr.heap.size := by simp [World.setCell]
    go_upto_region 7 with fail
    generalize wr.setCell ⟨D, i, none⟩ (.int .i64 (-1)) = wa at *
    cases ho : newest (l.filter (gd c)) i (flo c i) with
    | none =>
      have HLv := hyd (lv_none ho)
      have C11 : Aside _ := fun W h => newest_is W a' cap' (l.filter (gd c)) m HM.out.symm i (flo c i) h (by omega) (f := f0) (b := false) (by rw [ho]; rfl)
      go_wp2_with (first | (refine wpList_load_ck rfl (.tmp 3) rfl B rfl HKr.out ?_) | (go_at_call 24; refine (c24 _).mono ?_; rintro e w4 ⟨rfl, G4⟩; have HG4 := hyd (HG1.out.trans' G4 (fun _ _ h => h.elim)); have HD4 := hyd (HD1.out.chg G4 (fun h => h)); have HS4 := hyd ((HS3.out.chg HG4.out HSb.out)); clear G4) | (go_at_call 11; refine (C11.out _ HS4.out).mono ?_; rintro e w5 ⟨rfl, G5⟩; have HG5 := hyd (HG4.out.trans' G5 (fun _ _ h => h.elim)); have HD5 := hyd (HD4.out.chg G5 (fun h => h)); clear G5) | (refine wpList_alloc_fo rfl rfl w5.heap.size rfl ?_))
      intro w6 K6 G6 S6
      have HK6 := hyd K6
      clear K6
      go_wp2_with (refine wpList_store_fo rfl (.tmp 8) (.tmp 26) rfl w5.heap.size rfl rfl HK6.out ?_)
      intro w7 K7 G7
      have hD5 := HD5.out.lt
      have G67 := G6.trans' G7 (fun k hk h => by omega)
      have HG7 := hyd (HG5.out.trans' G67 (fun _ _ h => h.elim))
      have HD7 := hyd (HD5.out.chg G67 (fun h => h))
      clear K7 G6 G7 G67 HK6 S6
      go_wp2
      go_roundg (25 - (i + 1))
      case measure => omega
      case rel =>
        refine ⟨i + 1, _, by simp, by omega, Nat.le_refl _, HD7.out, fun j hj => ?_, HG7.out⟩
        by_cases e : j = i
        · subst e; simp [upd, HLv.out]
        · simp [upd, e]; exact HF.out j (by omega)
    | some f =>
      have HLv := hyd (lv_some ho)
      have C11 : Aside _ := fun W h => newest_is W a' cap' (l.filter (gd c)) m HM.out.symm i (flo c i) h (by omega) (f := f) (b := true) (by rw [ho]; rfl)
      go_wp2_with (first | (refine wpList_load_ck rfl (.tmp 3) rfl B rfl HKr.out ?_) | (go_at_call 24; refine (c24 _).mono ?_; rintro e w4 ⟨rfl, G4⟩; have HG4 := hyd (HG1.out.trans' G4 (fun _ _ h => h.elim)); have HD4 := hyd (HD1.out.chg G4 (fun h => h)); have HS4 := hyd ((HS3.out.chg HG4.out HSb.out)); clear G4) | (go_at_call 11; refine (C11.out _ HS4.out).mono ?_; rintro e w5 ⟨rfl, G5⟩; have HG5 := hyd (HG4.out.trans' G5 (fun _ _ h => h.elim)); have HD5 := hyd (HD4.out.chg G5 (fun h => h)); clear G5) | (refine wpList_alloc_fo rfl rfl w5.heap.size rfl ?_))
      intro w6 K6 G6 S6
      have HK6 := hyd K6
      clear K6
      go_wp2_with (refine wpList_store_fo rfl (.tmp 8) (.tmp 26) rfl w5.heap.size rfl rfl HK6.out ?_)
      intro w7 K7 G7
      have hD5 := HD5.out.lt
      have G67 := G6.trans' G7 (fun k hk h => by omega)
      have HG7 := hyd (HG5.out.trans' G67 (fun _ _ h => h.elim))
      have HD7 := hyd (HD5.out.chg G67 (fun h => h))
      obtain ⟨k0, -, -, -, -, -⟩ := K7.cells
      obtain ⟨e1, e2⟩ := HD7.out.cell i hlt
      have HD8 := hyd (HD7.out.set i f.P)
      have HG8 : Hid (Chg (· = D) w3 (w7.setCell ⟨D, i, none⟩ (.int .i64 f.P))) := hyd (HG7.out.setCell (Or.inl rfl) i _)
      clear K7 G6 G7 G67 HK6 S6
      go_wp2
      go_roundg (25 - (i + 1))
      case measure => omega
      case rel =>
        refine ⟨i + 1, _, by simp, by omega, Nat.le_refl _, HD8.out, fun j hj => ?_, HG8.out⟩
        by_cases e : j = i
        · subst e; simp [upd, HLv.out]
        · simp [upd, e]; exact HF.out j (by omega)
  · have hltz : ¬ (i : Int) < 25 := by omega
    have HDl := hyd (HDr.out.congr (g := lv l c) (fun j hj => HF.out j (by omega)))
    have HAr := hyd (HA3.out.chg HGr.out (by omega))
    go_wp2_with (first | (refine wpList_load_25 rfl (.tmp 6) rfl D rfl HDl.out ?_) | (refine wpList_store_25 rfl (.tmp 4) (.tmp 34) rfl (B + 1) rfl rfl HAr.out ?_))
    intro w8 A8 G8
    have HA8 := hyd A8
    have HG8 := hyd ((HG3.out.trans' HGr.out fun k hk h => by omega).trans' G8 fun k hk h => by have := HBB.out; omega)
    clear A8 G8
    go_wp2
    refine bodyPost_ret (results_25 rfl _ rfl HA8.out) rfl ?_
    exact ⟨rfl, HG8.out⟩
end Go.Proofs.Ytjkpidhpjleebaa
