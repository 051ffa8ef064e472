/-
  MediaMends, a tag that may not be, and whole. Conditions: the integers that came in lie in memory.
-/
import Derived.Test.YtifjmilegogbaaaGreatMMendsA
import Derived.Test.YtifjmilegogbaaaGreatMCutsW
namespace Go.Proofs.YtifjmilegogbaaaGreat
open Go.RowKit
set_option maxRecDepth 100000

set_option maxHeartbeats 16000000 in
theorem mediaMends_no (tp tf ts tc : Int) (tl : Bool) (hm : ¬ May tp tf ts tc tl) (fv : Nat) (hfv : fv < 256) (a : Option Addr) (len cap : Nat) (T : Nat → Int) (_hlen : len < 9223372036854775808) (w : World) (_hT : IsInts w a len T) :
    Calls Tryz.prog 4 #[.agg #[.int .i64 tp, .int .i64 tf, .int .i64 ts, .int .i64 tc, .bool tl], .int .u8 (fv : Nat), .slice a len cap] w fun e w' => e = .returned (.bool true) ∧ Below w.heap.size w w' := by
  have q1 := eql_nil_nil
  have q2 := neq_nil_nil
  have q3 := eql_e1_e1
  have q4 := neq_e1_nil
  go_enter Tryz.func4, Tryz.ntmps4
  go_wp2_with fail
  refine (shown_any _).mono ?_
  rintro x w1 ⟨rfl, G1⟩
  have HG1 := hyd G1
  clear G1
  go_wp2_with fail
  refine (begun_any w1).mono ?_
  rintro x w2 ⟨t, c, m, p, q, b, R, rr, lo, hi, rfl, hB, hM, hC, hD, hE, hl, hh, hR, ht, hlh, G2⟩
  have S2 := Std.start w w1 w2 tp tf ts tc tl t c m p q b R rr lo hi HG1.out hB hM hC hD hE hl hh ht hlh G2
  have HS2 := hyd S2
  have hAl := S2.lts
  clear hB hM hC hD hE hl hh hR ht hlh G2 HG1 S2
  go_wp2_with fail
  refine (data_fn 174 fv (by omega) hfv _).mono ?_
  rintro x w3 ⟨rfl, A3, G3⟩
  have S3 := HS2.out.still G3
  generalize w2.heap.size = A at *
  obtain ⟨d0, d1, d2⟩ := S3.bth.cells
  obtain ⟨v0, v1, v2, v3, v4⟩ := S3.tg.cells
  have HS3 := hyd S3
  have HA3 := hyd A3
  clear A3 G3 S3 HS2
  go_wp2_with fail
  go_region_held3 (fun wx => wx.cell? ⟨t, 1, none⟩ = some (.pointer (some ⟨m, 0, none⟩)) ∧ wx.cell? ⟨w.heap.size, 0, none⟩ = some (.int .i64 tp) ∧ wx.cell? ⟨w.heap.size, 1, none⟩ = some (.int .i64 tf) ∧ wx.cell? ⟨w.heap.size, 2, none⟩ = some (.int .i64 ts) ∧ wx.cell? ⟨w.heap.size, 3, none⟩ = some (.int .i64 tc) ∧ wx.cell? ⟨w.heap.size, 4, none⟩ = some (.bool tl))
    (first | exact ⟨d1, v0, v1, v2, v3, v4⟩ | exact ⟨f1, z0, z1, z2, z3, z4⟩)
    (first
      | (go_at_call 19; refine (mprogram_no m c p q b 0 _ HS3.out.drew.med tp tp tf ts tc tl _ 174 _ (fun h => hm h.1)).mono ?_; rintro x w6 ⟨rfl, G6⟩; have S6 := HS3.out.drew.still G6; obtain ⟨f0, f1, f2⟩ := S6.bth.cells; obtain ⟨z0, z1, z2, z3, z4⟩ := S6.tg.cells; have HS6 := hyd S6; clear G6 S6))
  clear d0 d1 d2 v0 v1 v2 v3 v4 f0 f1 f2 z0 z1 z2 z3 z4 HS3
  go_wp2
  go_ret
  exact ⟨rfl, HS6.out.chg.below (fun k f => f.elim) (Nat.le_refl _)⟩
theorem mediaMends_walk (tp tf ts tc : Int) (tl : Bool) (fv : Nat) (hfv : fv < 256) (a : Option Addr) (len cap : Nat) (T : Nat → Int) (hlen : len < 9223372036854775808) (w : World) (hT : IsInts w a len T) :
    Calls Tryz.prog 4 #[.agg #[.int .i64 tp, .int .i64 tf, .int .i64 ts, .int .i64 tc, .bool tl], .int .u8 (fv : Nat), .slice a len cap] w fun e w' => e = .returned (.bool true) ∧ Below w.heap.size w w' := by
  by_cases hm : May tp tf ts tc tl
  · obtain ⟨p', o', s', c', rfl, rfl, rfl, rfl⟩ := hm.nats
    exact mediaMends_yes p' o' s' c' tl hm fv hfv a len cap T hlen w hT
  · exact mediaMends_no tp tf ts tc tl hm fv hfv a len cap T hlen w hT
theorem mediaMends_in (tp tf ts tc : Int) (tl : Bool) (fv : Int) (a : Option Addr) (len cap : Nat) (zs : List Int) (w : World) (hb : (Lit.int .u8 fv).wf = true) (h : IsRow .i64 w a len cap zs) :
    Calls Tryz.prog 4 #[.agg #[.int .i64 tp, .int .i64 tf, .int .i64 ts, .int .i64 tc, .bool tl], .int .u8 fv, .slice a len cap] w fun e w' => e = .returned (.bool true) ∧ Below w.heap.size w w' := by
  have h1 := bounds_u8 hb
  obtain ⟨h2, h3⟩ := ints_of_row h
  obtain ⟨f, rfl⟩ : ∃ f : Nat, fv = f := ⟨fv.toNat, by omega⟩
  exact mediaMends_walk tp tf ts tc tl f (by omega) a len cap _ h3 w h2
end Go.Proofs.YtifjmilegogbaaaGreat
