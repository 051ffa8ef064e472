/-
  MediaCuts, whole. Conditions: the integers that came in lie in memory.
-/
import Derived.Test.YtifjmilegogbaaaGreatMCutsA
import Derived.Test.YtifjmilegogbaaaGreatMCutsB
namespace Go.Proofs.YtifjmilegogbaaaGreat
open Go.RowKit
set_option maxRecDepth 100000

set_option maxHeartbeats 8000000 in
theorem mediaCuts_no (tp tf ts tc : Int) (tl : Bool) (hm : ¬ May tp tf ts tc tl) (bu : Int) (a : Option Addr) (len cap : Nat) (T : Nat → Int) (hb1 : -9223372036854775808 ≤ bu) (hb2 : bu ≤ 9223372036854775807) (_hlen : len < 9223372036854775808) (w : World) (_hT : IsInts w a len T) :
    Calls Tryz.prog 5 #[.agg #[.int .i64 tp, .int .i64 tf, .int .i64 ts, .int .i64 tc, .bool tl], .int .i64 bu, .slice a len cap] w fun e w' => e = .returned (.bool true) ∧ Below w.heap.size w w' := by
  have q1 := eql_nil_nil
  have q2 := neq_nil_nil
  have q3 := eql_e7_e1
  have q4 := eql_nil_e1
  have q5 := eql_e1_e1
  have q6 := eql_e7_e7
  have HT := hyd _hT
  clear HT
  go_enter Tryz.func5, Tryz.ntmps5
  go_wp2_with fail
  refine (shown_any _).mono ?_
  rintro x w1 ⟨rfl, G1⟩
  have HG1 := hyd G1
  clear G1
  go_wp2_with fail
  refine (begun_any w1).mono ?_
  rintro x w2 ⟨t, c, m, p, q, b, R, rr, lo, hi, rfl, hB, hM, hC, hD, hE, hl, hh, hR, ht, hlh, G2⟩
  have S2 := Std.start w w1 w2 tp tf ts tc tl t c m p q b R rr lo hi HG1.out hB hM hC hD hE hl hh ht hlh G2
  have HS2 := hyd S2
  have htn := S2.bth.lt
  clear hB hM hC hD hE hl hh hR ht hlh G2 HG1 S2
  go_wp2_with fail
  refine (pick_6 bu hb1 hb2 _).mono ?_
  rintro x w3 ⟨rfl, rfl⟩
  have hn6 := pkN_lt bu (n := 6) (by omega)
  generalize pkN bu 6 = n at *
  obtain ⟨d0, d1, d2⟩ := HS2.out.bth.cells
  have hcut := ncut_any c newS (n : Nat) w3 HS2.out.chip
  have hce : (cutR newS (n : Nat)).2 = 0 := by unfold cutR; rw [if_neg (by omega)]
  rw [hce] at hcut
  clear hb1 hb2 hce
  go_wp2_with fail
  refine hcut.mono ?_
  rintro x w4 ⟨rfl, C4, G4⟩
  clear hcut d0 d1 d2
  rw [nerrV_zero]
  have S4 := HS2.out.chip' C4 (cutR_ok newS_ok _ (by omega)) G4
  have HS4 := hyd S4
  obtain ⟨d0, d1, d2⟩ := S4.bth.cells
  obtain ⟨v0, v1, v2, v3, v4⟩ := S4.tg.cells
  clear C4 G4 HS2 S4
  go_wp2_with fail
  go_region_held3 (fun wx => wx.cell? ⟨t, 1, none⟩ = some (.pointer (some ⟨m, 0, none⟩)) ∧ wx.cell? ⟨w.heap.size, 0, none⟩ = some (.int .i64 tp) ∧ wx.cell? ⟨w.heap.size, 1, none⟩ = some (.int .i64 tf) ∧ wx.cell? ⟨w.heap.size, 2, none⟩ = some (.int .i64 ts) ∧ wx.cell? ⟨w.heap.size, 3, none⟩ = some (.int .i64 tc) ∧ wx.cell? ⟨w.heap.size, 4, none⟩ = some (.bool tl))
    (first | exact ⟨d1, v0, v1, v2, v3, v4⟩ | exact ⟨e1, u0, u1, u2, u3, u4⟩ | exact ⟨f1, z0, z1, z2, z3, z4⟩)
    (first
      | (go_at_call 18; refine (data_fn 174 9 (by omega) (by omega) _).mono ?_; rintro x w5 ⟨rfl, A5, G5⟩; have S5 := HS4.out.drew.still G5; obtain ⟨e0, e1, e2⟩ := S5.bth.cells; obtain ⟨u0, u1, u2, u3, u4⟩ := S5.tg.cells; have HS5 := hyd S5; have HA5 := hyd A5; clear A5 G5 S5)
      | (go_at_call 19; refine (mprogram_no m c p q b 0 _ HS5.out.med tp tp tf ts tc tl _ 174 _ (fun h => hm h.1)).mono ?_; rintro x w6 ⟨rfl, G6⟩; have S6 := HS5.out.still G6; obtain ⟨f0, f1, f2⟩ := S6.bth.cells; obtain ⟨z0, z1, z2, z3, z4⟩ := S6.tg.cells; have HS6 := hyd S6; clear G6 S6))
  clear d0 d1 d2 v0 v1 v2 v3 v4 e0 e1 e2 u0 u1 u2 u3 u4 f0 f1 f2 z0 z1 z2 z3 z4 HS5 HA5 HS4
  go_wp2
  go_ret
  exact ⟨rfl, HS6.out.chg.below (fun k f => f.elim) (Nat.le_refl _)⟩

theorem mediaCuts_walk (tp tf ts tc : Int) (tl : Bool) (bu : Int) (a : Option Addr) (len cap : Nat) (T : Nat → Int) (hb1 : -9223372036854775808 ≤ bu) (hb2 : bu ≤ 9223372036854775807) (hlen : len < 9223372036854775808) (w : World) (hT : IsInts w a len T) :
    Calls Tryz.prog 5 #[.agg #[.int .i64 tp, .int .i64 tf, .int .i64 ts, .int .i64 tc, .bool tl], .int .i64 bu, .slice a len cap] w fun e w' => e = .returned (.bool true) ∧ Below w.heap.size w w' := by
  by_cases hm : May tp tf ts tc tl
  · obtain ⟨p', o', s', c', rfl, rfl, rfl, rfl⟩ := hm.nats
    by_cases h4 : pkN bu 6 < 4
    · exact mediaCuts_a p' o' s' c' tl hm bu h4 a len cap T hb1 hb2 hlen w hT
    · exact mediaCuts_b p' o' s' c' tl hm bu h4 a len cap T hb1 hb2 hlen w hT
  · exact mediaCuts_no tp tf ts tc tl hm bu a len cap T hb1 hb2 hlen w hT
theorem ints_of_row {w : World} {a : Option Addr} {len cap : Nat} {zs : List Int} (h : IsRow .i64 w a len cap zs) : IsInts w a len (fun i => zs.getD i 0) ∧ len < 9223372036854775808 := by
  rcases h with ⟨rfl, rfl, rfl, rfl⟩ | ⟨x, rfl, hl, hm, hz, hcell, hwz⟩
  · exact ⟨⟨fun i hi => absurd hi (Nat.not_lt_zero _), Or.inl rfl⟩, by decide⟩
  · refine ⟨⟨fun i hi => ?_, ?_⟩, by unfold maxLen at hm; omega⟩
    · exact bounds_i64 (hwz (zs.getD i 0) (by rw [List.getD_eq_getElem?_getD, List.getElem?_eq_getElem (by omega)]; exact List.getElem_mem _))
    · by_cases h0 : len = 0
      · exact Or.inl h0
      · right
        obtain ⟨c, o, spot⟩ := x
        have hspot : spot = none := by simpa [Addr.add] using World.cell?_spot (hcell 0 (by omega))
        subst hspot
        have hlt : c < w.heap.size := by simpa [Addr.add] using cell_lt (hcell 0 (by omega))
        refine ⟨c, o, rfl, hlt, fun i hi => ?_⟩
        have hh := hcell i (by omega)
        rw [Addr.add_mid] at hh
        exact hh
theorem mediaCuts_in (tp tf ts tc : Int) (tl : Bool) (bu : Int) (a : Option Addr) (len cap : Nat) (zs : List Int) (w : World) (hb : (Lit.int .i64 bu).wf = true) (h : IsRow .i64 w a len cap zs) :
    Calls Tryz.prog 5 #[.agg #[.int .i64 tp, .int .i64 tf, .int .i64 ts, .int .i64 tc, .bool tl], .int .i64 bu, .slice a len cap] w fun e w' => e = .returned (.bool true) ∧ Below w.heap.size w w' := by
  have h1 := bounds_i64 hb
  obtain ⟨h2, h3⟩ := ints_of_row h
  exact mediaCuts_walk tp tf ts tc tl bu a len cap _ h1.1 h1.2 h3 w h2
end Go.Proofs.YtifjmilegogbaaaGreat
