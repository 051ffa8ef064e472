/-
  The document's chip: Clone. Condition: the block holds the document's chip.
-/
import Derived.Test.YtfjgnplplafniaaRNew
namespace Go.Proofs.Ytfjgnplplafniaa
open Go.RowKit
set_option maxRecDepth 100000
set_option linter.unusedSimpArgs false

theorem row4_set0 {w : World} {r : Nat} {v v' a b c : Value} (h : Row w r 101 4 (fun i => ([v, a, b, c] : List Value).getD i undef)) : Row (w.setCell ⟨r, 0, none⟩ v') r 101 4 (fun i => ([v', a, b, c] : List Value).getD i undef) := by
  refine (h.setCell 0 v').ext fun i hi => ?_
  rw [upL_one]
  rcases (by omega : i = 0 ∨ i = 1 ∨ i = 2 ∨ i = 3) with e | e | e | e <;> subst e <;> rfl
theorem row4_set1 {w : World} {r : Nat} {v v' a b c : Value} (h : Row w r 101 4 (fun i => ([v, a, b, c] : List Value).getD i undef)) : Row (w.setCell ⟨r, 1, none⟩ v') r 101 4 (fun i => ([v, v', b, c] : List Value).getD i undef) := by
  refine (h.setCell 1 v').ext fun i hi => ?_
  rw [upL_one]
  rcases (by omega : i = 0 ∨ i = 1 ∨ i = 2 ∨ i = 3) with e | e | e | e <;> subst e <;> rfl
theorem row5_set0 {w : World} {r : Nat} {v v' a b c d : Value} (h : Row w r 81 5 (fun i => ([v, a, b, c, d] : List Value).getD i undef)) : Row (w.setCell ⟨r, 0, none⟩ v') r 81 5 (fun i => ([v', a, b, c, d] : List Value).getD i undef) := by
  refine (h.setCell 0 v').ext fun i hi => ?_
  rw [upL_one]
  rcases (by omega : i = 0 ∨ i = 1 ∨ i = 2 ∨ i = 3 ∨ i = 4) with e | e | e | e | e <;> subst e <;> rfl
theorem Mk.chg {S : Nat → Prop} {w w' : World} {base i : Nat} {v : Value} {pc : Nat → Pc} {ch : Nat → Chk} (h : Mk w base i v pc ch) (hc : Chg S w w') (hs : ∀ k, base ≤ k → ¬ S k) : Mk w' base i v pc ch :=
  ⟨ownsRow_chg h.own hc (fun k hk => hs k (h.own.lt k hk).1), fun j hj => Row.chg (h.now j hj) hc (hs _ (h.base j hj).1), fun j hj => Row.chg (h.tru j hj) hc (hs _ (h.base j hj).2), h.inj, h.base⟩
set_option maxHeartbeats 4000000 in
theorem rclone_any (r : Nat) (s : Chp) (hs : s.Ok) (F : Nat → Prop) (w : World) (h : RefAt w r s F) :
    Calls Try.prog 43 #[.pointer (some ⟨r, 0, none⟩)] w fun e w' => ∃ r2, e = .returned (.pointer (some ⟨r2, 0, none⟩)) ∧ RefAt w' r2 s (fresh w w') ∧ Chg (fun _ => False) w w' := by
  obtain ⟨p0, h⟩ := h
  obtain ⟨i81, p1, p2, p3, p4⟩ := info81
  obtain ⟨i101, q1, q2, q3, q4⟩ := info101
  have hi5 := info5
  have c1 := h.cOn
  have c2 := h.cBu
  have c3 := h.cSt
  have ht0 : Row (w.alloc (.cells #[.slice none 0 0, .bool s.on, .int .i64 p0.bu, .int .i64 s.steps] 77)) w.heap.size 77 4 (fun i => ([.slice none 0 0, .bool s.on, .int .i64 p0.bu, .int .i64 s.steps] : List Value).getD i undef) :=
    (blk_new w _ 77 4 rfl).row.ext fun i hi => by rcases (by omega : i = 0 ∨ i = 1 ∨ i = 2 ∨ i = 3) with e | e | e | e <;> subst e <;> rfl
  have hG0 : Chg (fun _ => False) w (w.alloc (.cells #[.slice none 0 0, .bool s.on, .int .i64 p0.bu, .int .i64 s.steps] 77)) := (Chg.refl _ _).alloc _
  have HH := hyd h
  have HS := hyd hs
  clear h hs
  go_enter Try.func43, Try.ntmps43
  go_wp2_with fail
  go_region
  all_goals go_wp2_with fail
  generalize hq : w.heap.size = r2 at *
  have hrs := Nat.le_of_eq hq
  have HQ := hyd hq
  clear hq
  have ht0' := ht0.drew
  have hG0' := hG0.drew
  clear c1 c2 c3 ht0 hG0
  generalize World.drew _ = w1 at *
  go_loopw [4] (fun t4 wr => ∃ (i : Nat) (v : Value) (p : Plc), i ≤ 12 ∧ t4 = .int .i64 i ∧ MkB wr (r2 + 1) i v p s ∧ p.wh = p0.wh ∧ Row wr r2 77 4 (fun i => ([v, .bool s.on, .int .i64 p0.bu, .int .i64 s.steps] : List Value).getD i undef) ∧ Chg (fun _ => False) w wr) (fun t4 _ => 12 - (intOf t4).toNat)
  case atStart => exact ⟨0, .slice none 0 0, { plc0 with wh := p0.wh }, by omega, rfl, MkB.start _ _ _ _, rfl, ht0', hG0'⟩
  case round =>
    clear ht0' hG0'
    obtain ⟨i, v, p, hi, rfl, hM, hwh, ht, hG⟩ := hrel
    obtain ⟨wo, hwo⟩ : ∃ wo, wo = wr := ⟨_, rfl⟩
    subst hwo
    by_cases hlt : i < 12
    · have hi0 : (0 : Int) ≤ (i : Int) := by omega
      have hi1 : (i : Int) < 12 := by omega
      have hR := HH.out.chg hG (fun _ _ f => f)
      have a0 := hR.cB
      have b0 : wo.cell? ⟨p0.gB, i * 5, none⟩ = some (.slice (some ⟨p0.gL i, 0, none⟩) 32 (p0.cL i)) := hR.bl0 i hlt 0 (by omega)
      have b1 : wo.cell? ⟨p0.gB, i * 5 + 1, none⟩ = some (.int .i64 (s.bl i).reads) := hR.bl0 i hlt 1 (by omega)
      have b2 : wo.cell? ⟨p0.gB, i * 5 + 2, none⟩ = some (.bool (s.bl i).failed) := hR.bl0 i hlt 2 (by omega)
      have b3 : wo.cell? ⟨p0.gB, i * 5 + 3, none⟩ = some (.int .i64 (p0.wh i)) := hR.bl0 i hlt 3 (by omega)
      have b4 : wo.cell? ⟨p0.gB, i * 5 + 4, none⟩ = some (.bool (s.bl i).ef) := hR.bl0 i hlt 4 (by omega)
      go_wp2_with fail
      have hB0 : Row (wo.alloc (.cells #[.slice none 0 0, .int .i64 (s.bl i).reads, .bool (s.bl i).failed, .int .i64 (p0.wh i), .bool (s.bl i).ef] 81)) wo.heap.size 81 5 (fun x => ([.slice none 0 0, .int .i64 (s.bl i).reads, .bool (s.bl i).failed, .int .i64 (p0.wh i), .bool (s.bl i).ef] : List Value).getD x undef) :=
        (blk_new wo _ 81 5 rfl).row.ext fun x hx => by rcases (by omega : x = 0 ∨ x = 1 ∨ x = 2 ∨ x = 3 ∨ x = 4) with e | e | e | e | e <;> subst e <;> rfl
      have hGx0 : Chg (fun _ => False) wo (wo.alloc (.cells #[.slice none 0 0, .int .i64 (s.bl i).reads, .bool (s.bl i).failed, .int .i64 (p0.wh i), .bool (s.bl i).ef] 81)) := (Chg.refl _ _).alloc _
      have hz0 := hM.own
      have hrl := ht.lt
      have HM := hyd hM
      have HT := hyd ht
      have HWH := hyd hwh
      have HG := hyd hG
      clear hM ht hwh hG hR b1 b2 b3 b4 a0 b0 hz0
      generalize wo.alloc (.cells #[.slice none 0 0, .int .i64 (s.bl i).reads, .bool (s.bl i).failed, .int .i64 (p0.wh i), .bool (s.bl i).ef] 81) = w5 at *
      generalize hB5 : wo.heap.size = B5 at *
      have HB5 := hyd hB5
      clear hB5
      go_loopw [6] (fun t6 wr => ∃ (j : Nat) (vL : Value) (pc : Nat → Pc), j ≤ 32 ∧ t6 = .int .i64 j ∧ Mk wr (B5 + 1) j vL pc (fun j => s.ch (32 * i + j)) ∧ Row wr B5 81 5 (fun x => ([vL, .int .i64 (s.bl i).reads, .bool (s.bl i).failed, .int .i64 (p0.wh i), .bool (s.bl i).ef] : List Value).getD x undef) ∧ Chg (fun _ => False) wo wr) (fun t6 _ => 32 - (intOf t6).toNat)
      case atStart => exact ⟨0, .slice none 0 0, fun _ => ⟨0, 0, 0, 0⟩, by omega, rfl, Mk.start _ _ _ _, hB0, hGx0⟩
      case round =>
        clear hB0 hGx0
        obtain ⟨j, vL, pc, hj, rfl, hMk, hBr, hGx⟩ := hrel
        have hGw : Chg (fun _ => False) w wr := HG.out.trans hGx
        have hR := HH.out.chg hGw (fun _ _ f => f)
        have a0 := hR.cB
        have b0 : wr.cell? ⟨p0.gB, i * 5, none⟩ = some (.slice (some ⟨p0.gL i, 0, none⟩) 32 (p0.cL i)) := hR.bl0 i hlt 0 (by omega)
        by_cases hjl : j < 32
        · have hj0 : (0 : Int) ≤ (j : Int) := by omega
          have hj1 : (j : Int) < 32 := by omega
          have e0 : wr.cell? ⟨p0.gL i, j * 4, none⟩ = some (.slice (some ⟨(p0.pc i j).n, 0, none⟩) 64 (p0.pc i j).nc) := by have := hR.ch i hlt j hjl 0 (by omega); rw [show 4 * j + 0 = j * 4 from by omega] at this; exact this
          have e1 : wr.cell? ⟨p0.gL i, j * 4 + 1, none⟩ = some (.slice (some ⟨(p0.pc i j).t, 0, none⟩) 64 (p0.pc i j).tc) := by have := hR.ch i hlt j hjl 1 (by omega); rw [show 4 * j + 1 = j * 4 + 1 from by omega] at this; exact this
          have e2 : wr.cell? ⟨p0.gL i, j * 4 + 2, none⟩ = some (.bool (s.ch (32 * i + j)).is) := by have := hR.ch i hlt j hjl 2 (by omega); rw [show 4 * j + 2 = j * 4 + 2 from by omega] at this; exact this
          have e3 : wr.cell? ⟨p0.gL i, j * 4 + 3, none⟩ = some (.int .i64 (s.ch (32 * i + j)).worst) := by have := hR.ch i hlt j hjl 3 (by omega); rw [show 4 * j + 3 = j * 4 + 3 from by omega] at this; exact this
          have hN := (hR.lst i hlt).now j hjl
          have hT := (hR.lst i hlt).tru j hjl
          have hK := HS.out.ch (32 * i + j)
          have hnl := hK.now
          have htl := hK.tru
          generalize hkk : s.ch (32 * i + j) = kk at *
          have HKK := hyd hkk
          clear hkk
          have hty0 := Row.lt hT
          generalize p0.pc i j = y at *
          have hXr : Row ((wr.alloc (.cells #[.slice (some ⟨y.n, 0, none⟩) 64 y.nc, .slice (some ⟨y.t, 0, none⟩) 64 y.tc, .bool kk.is, .int .i64 kk.worst] 101)).alloc (.cells #[.slice none 0 0, .slice none 0 0, .bool kk.is, .int .i64 kk.worst] 101)) wr.heap.size 101 4 (fun x => ([.slice (some ⟨y.n, 0, none⟩) 64 y.nc, .slice (some ⟨y.t, 0, none⟩) 64 y.tc, .bool kk.is, .int .i64 kk.worst] : List Value).getD x undef) :=
            ((blk_new wr _ 101 4 rfl).row.alloc _).ext fun x hx => by rcases (by omega : x = 0 ∨ x = 1 ∨ x = 2 ∨ x = 3) with e | e | e | e <;> subst e <;> rfl
          have hz1 : (wr.alloc (.cells #[.slice (some ⟨y.n, 0, none⟩) 64 y.nc, .slice (some ⟨y.t, 0, none⟩) 64 y.tc, .bool kk.is, .int .i64 kk.worst] 101)).heap.size = wr.heap.size + 1 := by simp
          have hYr : Row ((wr.alloc (.cells #[.slice (some ⟨y.n, 0, none⟩) 64 y.nc, .slice (some ⟨y.t, 0, none⟩) 64 y.tc, .bool kk.is, .int .i64 kk.worst] 101)).alloc (.cells #[.slice none 0 0, .slice none 0 0, .bool kk.is, .int .i64 kk.worst] 101)) (wr.heap.size + 1) 101 4 (fun x => ([.slice none 0 0, .slice none 0 0, .bool kk.is, .int .i64 kk.worst] : List Value).getD x undef) := by
            have h1 := (blk_new (wr.alloc (.cells #[.slice (some ⟨y.n, 0, none⟩) 64 y.nc, .slice (some ⟨y.t, 0, none⟩) 64 y.tc, .bool kk.is, .int .i64 kk.worst] 101)) #[.slice none 0 0, .slice none 0 0, .bool kk.is, .int .i64 kk.worst] 101 4 rfl).row
            rw [hz1] at h1
            exact h1.ext fun x hx => by rcases (by omega : x = 0 ∨ x = 1 ∨ x = 2 ∨ x = 3) with e | e | e | e <;> subst e <;> rfl
          have hGa : Chg (fun _ => False) wr ((wr.alloc (.cells #[.slice (some ⟨y.n, 0, none⟩) 64 y.nc, .slice (some ⟨y.t, 0, none⟩) 64 y.tc, .bool kk.is, .int .i64 kk.worst] 101)).alloc (.cells #[.slice none 0 0, .slice none 0 0, .bool kk.is, .int .i64 kk.worst] 101)) := ((Chg.refl _ _).alloc _).alloc _
          have hz2 : ((wr.alloc (.cells #[.slice (some ⟨y.n, 0, none⟩) 64 y.nc, .slice (some ⟨y.t, 0, none⟩) 64 y.tc, .bool kk.is, .int .i64 kk.worst] 101)).alloc (.cells #[.slice none 0 0, .slice none 0 0, .bool kk.is, .int .i64 kk.worst] 101)).heap.size = wr.heap.size + 2 := by simp
          generalize hw2 : (wr.alloc (.cells #[.slice (some ⟨y.n, 0, none⟩) 64 y.nc, .slice (some ⟨y.t, 0, none⟩) 64 y.tc, .bool kk.is, .int .i64 kk.worst] 101)).alloc (.cells #[.slice none 0 0, .slice none 0 0, .bool kk.is, .int .i64 kk.worst] 101) = w2 at *
          have HW2 := hyd hw2
          clear hw2 hz1
          have x0 : w2.cell? ⟨wr.heap.size, 0, none⟩ = some (.slice (some ⟨y.n, 0, none⟩) 64 y.nc) := hXr.cell 0 (by omega)
          have y0 : w2.cell? ⟨wr.heap.size + 1, 0, none⟩ = some (.slice none 0 0) := hYr.cell 0 (by omega)
          have hN2 := Row.chg hN hGa (fun f => f)
          have hT2 := Row.chg hT hGa (fun f => f)
          have HS1 : Hid (∀ ad, some (⟨y.n, 0, none⟩ : Addr) = some ad → ∀ x, x < 64 → w2.cell? (ad.add x) = some (.int .u8 (kk.now.getD x 0 : Nat))) := by
            intro ad e x hx
            cases e
            rw [Addr.add_mid, Nat.zero_add]
            exact By.cell hN2 x (by rw [hnl]; exact hx)
          have HNL := hyd hnl
          have HTL := hyd htl
          have HZ2 := hyd hz2
          have HMk := hyd hMk
          have HBr := hyd hBr
          have hBr5 : B5 + 1 ≤ wr.heap.size := hBr.lt
          clear hN hT hnl htl hz2 hMk hBr hK
          go_wp2_with (first | rw [HW2.out] | (at_builtin; refine wpList_append_bytes _ rfl (.tmp 65) (.tmp 67) 33 rfl w2.heap.size 5 Try.underlying33 hi5 _ [] rfl (Own.nil _ _ _) (some ⟨y.n, 0, none⟩) 64 y.nc kk.now rfl HNL.out (fun e => by cases e) HS1.out (by simp) (Nat.le_refl _) w2.heap.size rfl ?_))
          intro v3 w3 hO3 hg3 hat3
          have hg3' : Chg (fun _ => False) w2 w3 := grown_none hg3
          obtain ⟨g1, k1, rfl, hg1, hg1s, hB1⟩ := Own.by hO3 (by rw [HNL.out]; decide)
          rw [HNL.out]
          have hXr3 := hXr.chg hg3' (fun f => f)
          have hYr3 := hYr.chg hg3' (fun f => f)
          have hT3 := Row.chg hT2 hg3' (fun f => f)
          have hGa3 : Chg (fun _ => False) wr w3 := hGa.trans hg3'
          have y3 : w3.cell? ⟨wr.heap.size + 1, 0, none⟩ = some (.slice none 0 0) := hYr3.cell 0 (by omega)
          have f3 := hYr3.frozen 0
          have hg1X : g1 ≠ wr.heap.size + 1 := by have := HZ2.out; omega
          have hyX : y.t ≠ wr.heap.size + 1 := by omega
          clear hO3 hg3 hat3 hg3' hXr hYr hN2 hT2 hGa HS1 x0 y0
          have hYr4 := row4_set0 (v' := .slice (some ⟨g1, 0, none⟩) 64 k1) hYr3
          have hXr4 := hXr3.setOther (k := wr.heap.size + 1) (by omega) 0 (.slice (some ⟨g1, 0, none⟩) 64 k1)
          have hT4 := Row.setOther (k := wr.heap.size + 1) hT3 (fun e => hyX e.symm) 0 (.slice (some ⟨g1, 0, none⟩) 64 k1)
          have hB1a := Row.setOther (k := wr.heap.size + 1) hB1 (fun e => hg1X e.symm) 0 (.slice (some ⟨g1, 0, none⟩) 64 k1)
          have hGa4 := hGa3.setCell (g := wr.heap.size + 1) (Or.inr (by omega)) 0 (.slice (some ⟨g1, 0, none⟩) 64 k1)
          have hz4 : (w3.setCell ⟨wr.heap.size + 1, 0, none⟩ (.slice (some ⟨g1, 0, none⟩) 64 k1)).heap.size = w3.heap.size := size_set _ _ _
          clear hYr3 hXr3 hT3 hB1 hGa3
          generalize hw4 : w3.setCell ⟨wr.heap.size + 1, 0, none⟩ (.slice (some ⟨g1, 0, none⟩) 64 k1) = w4 at *
          have HW4 := hyd hw4
          clear hw4
          have x1 : w4.cell? ⟨wr.heap.size, 1, none⟩ = some (.slice (some ⟨y.t, 0, none⟩) 64 y.tc) := hXr4.cell 1 (by omega)
          have y1 : w4.cell? ⟨wr.heap.size + 1, 1, none⟩ = some (.slice none 0 0) := hYr4.cell 1 (by omega)
          have HS2 : Hid (∀ ad, some (⟨y.t, 0, none⟩ : Addr) = some ad → ∀ x, x < 64 → w4.cell? (ad.add x) = some (.int .u8 (kk.tru.getD x 0 : Nat))) := by
            intro ad e x hx
            cases e
            rw [Addr.add_mid, Nat.zero_add]
            exact By.cell hT4 x (by rw [HTL.out]; exact hx)
          have hg14 : g1 < w4.heap.size := by omega
          have hzz : wr.heap.size + 2 ≤ g1 := by have := HZ2.out; omega
          clear hz4 hg1s hg1 HZ2
          go_wp2_with (first | rw [HW4.out] | (at_builtin; refine wpList_append_bytes _ rfl (.tmp 71) (.tmp 73) 33 rfl w4.heap.size 5 Try.underlying33 hi5 _ [] rfl (Own.nil _ _ _) (some ⟨y.t, 0, none⟩) 64 y.tc kk.tru rfl HTL.out (fun e => by cases e) HS2.out (by simp) (Nat.le_refl _) w4.heap.size rfl ?_))
          intro v5 w6 hO5 hg5 hat5
          have hg5' : Chg (fun _ => False) w4 w6 := grown_none hg5
          obtain ⟨g2, k2, rfl, hg2, hg2s, hB2⟩ := Own.by hO5 (by rw [HTL.out]; decide)
          rw [HTL.out]
          have hYr6 := hYr4.chg hg5' (fun f => f)
          have hB1b := Row.chg hB1a hg5' (fun f => f)
          have hGa6 : Chg (fun _ => False) wr w6 := hGa4.trans hg5'
          have y6 : w6.cell? ⟨wr.heap.size + 1, 1, none⟩ = some (.slice none 0 0) := hYr6.cell 1 (by omega)
          have f6 := hYr6.frozen 1
          have hg12 : g1 ≠ g2 := by omega
          have hg2X : g2 ≠ wr.heap.size + 1 := by omega
          have hzg2 : wr.heap.size ≤ g2 := by omega
          have hzg1 : wr.heap.size ≤ g1 := by omega
          clear hO5 hg5 hat5 hg5' hXr4 hYr4 hT4 hB1a hGa4 HS2 x1 y1 y3 f3
          have hYr7 := row4_set1 (v' := .slice (some ⟨g2, 0, none⟩) 64 k2) hYr6
          have hB1c := Row.setOther (k := wr.heap.size + 1) hB1b (fun e => hg1X e.symm) 1 (.slice (some ⟨g2, 0, none⟩) 64 k2)
          have hB2c := Row.setOther (k := wr.heap.size + 1) hB2 (fun e => hg2X e.symm) 1 (.slice (some ⟨g2, 0, none⟩) 64 k2)
          have hGa7 := hGa6.setCell (g := wr.heap.size + 1) (Or.inr (by omega)) 1 (.slice (some ⟨g2, 0, none⟩) 64 k2)
          clear hYr6 hB1b hB2 hGa6
          generalize hw7 : w6.setCell ⟨wr.heap.size + 1, 1, none⟩ (.slice (some ⟨g2, 0, none⟩) 64 k2) = w7 at *
          have HW7 := hyd hw7
          clear hw7
          have z0 : w7.cell? ⟨wr.heap.size + 1, 0, none⟩ = some (.slice (some ⟨g1, 0, none⟩) 64 k1) := hYr7.cell 0 (by omega)
          have z1 : w7.cell? ⟨wr.heap.size + 1, 1, none⟩ = some (.slice (some ⟨g2, 0, none⟩) 64 k2) := hYr7.cell 1 (by omega)
          have z2 : w7.cell? ⟨wr.heap.size + 1, 2, none⟩ = some (.bool kk.is) := hYr7.cell 2 (by omega)
          have z3 : w7.cell? ⟨wr.heap.size + 1, 3, none⟩ = some (.int .i64 kk.worst) := hYr7.cell 3 (by omega)
          have hBr7 := HBr.out.chg hGa7 (fun f => f)
          have l0 : w7.cell? ⟨B5, 0, none⟩ = some vL := hBr7.cell 0 (by omega)
          have hn8 := hB1c.alloc (.cells (rch ⟨g1, k1, g2, k2⟩ kk).toArray 101)
          have ht8 := hB2c.alloc (.cells (rch ⟨g1, k1, g2, k2⟩ kk).toArray 101)
          have hGa8 := hGa7.alloc (.cells (rch ⟨g1, k1, g2, k2⟩ kk).toArray 101)
          have hBr8 := hBr7.alloc (.cells (rch ⟨g1, k1, g2, k2⟩ kk).toArray 101)
          have HO := hyd (ownsRow_chg HMk.out.own hGa8 (fun _ _ f => f))
          have HCL := hyd (cells_new w7 (rch ⟨g1, k1, g2, k2⟩ kk) 101)
          have HX := hyd (rch_one ⟨g1, k1, g2, k2⟩ kk)
          have HL : Hid ((rch ⟨g1, k1, g2, k2⟩ kk).length = 1 * 4) := rfl
          have hwB : B5 + 1 ≤ wr.heap.size := hBr5
          have hbase : B5 + 1 ≤ (w7.alloc (.cells (rch ⟨g1, k1, g2, k2⟩ kk).toArray 101)).heap.size := Nat.le_trans hwB hGa8.size
          have HW8 : Hid (w7.alloc (.cells #[.slice (some ⟨g1, 0, none⟩) 64 k1, .slice (some ⟨g2, 0, none⟩) 64 k2, .bool kk.is, .int .i64 kk.worst] 101) = w7.alloc (.cells (rch ⟨g1, k1, g2, k2⟩ kk).toArray 101)) := rfl
          have hnw : w7.heap.size = w7.heap.size := rfl
          generalize hw8 : w7.alloc (.cells (rch ⟨g1, k1, g2, k2⟩ kk).toArray 101) = w8 at *
          clear hw8 hnw hB1c hB2c hYr7 hGa7 hBr7
          go_wp2_with (first | rw [HW7.out] | rw [HW8.out] | (at_builtin; refine wpList_append_own_at _ rfl (.tmp 77) (.tmp 79) 78 rfl (B5 + 1) 101 i101 _ 4 64 Try.underlying78 q1 q2 q3 q4 rfl (by decide) _ j _ rfl HO.out ⟨w7.heap.size, 0, none⟩ 1 1 (rch ⟨g1, k1, g2, k2⟩ kk) rfl HL.out HCL.out HX.out (by unfold maxLen; omega) (by omega) hbase ?_))
          intro vN w9 hO9 hg9 hnil9 hat9
          obtain ⟨gN, cN, rfl, -, -, -⟩ := ownsRow_row hO9 (Nat.succ_ne_zero j)
          have hM9 := HMk.out.next ⟨g1, k1, g2, k2⟩ kk HKK.out hGa8 hn8 ht8 hzg1 hzg2 hg12 hwB hO9 hg9
          have hNB : some B5 ≠ vL.ownBlock := fun e => by have := (HMk.out.own.lt B5 e.symm).1; omega
          have hBlt := hBr8.lt
          have hBr9 := hBr8.other (hg9.block B5 hBlt hNB)
          have hGa9 : Chg (fun _ => False) wr w9 → True := fun _ => trivial
          have hGo9 : Chg (fun _ => False) wo w9 := Chg.grown (hGx.trans hGa8) hg9 (fun k hk => Or.inr (by have := (HMk.out.own.lt k hk).1; have := HB5.out; omega))
          have l9 : w9.cell? ⟨B5, 0, none⟩ = some vL := hBr9.cell 0 (by omega)
          have f9 := hBr9.frozen 0
          have hM10 := hM9.chg (Chg.r1 (r := B5) w9 0 (.slice (some ⟨gN, 0, none⟩) (j + 1) cN)) (fun k hk e => by omega)
          have hBr10 := row5_set0 (v' := .slice (some ⟨gN, 0, none⟩) (j + 1) cN) hBr9
          have hGo10 := hGo9.setCell (g := B5) (Or.inr (by have := HB5.out; omega)) 0 (.slice (some ⟨gN, 0, none⟩) (j + 1) cN)
          clear HO HCL HX HL HMk HBr hn8 ht8 hGa8 hBr8 hO9 hg9 hnil9 hat9 hM9 hBr9 hGa9 hGo9 z0 z1 z2 z3 l0 y6 f6 hR
          go_wp2
          exact ⟨⟨j + 1, .slice (some ⟨gN, 0, none⟩) (j + 1) cN, _, by omega, by go_num, hM10, hBr10, hGo10⟩, by simp [intOf]; omega⟩
        · have ej : j = 32 := by omega
          subst ej
          obtain ⟨q, cap, rfl, hL, hI⟩ := hMk.lst (by decide)
          have l0 : wr.cell? ⟨B5, 0, none⟩ = some (.slice (some ⟨q, 0, none⟩) 32 cap) := hBr.cell 0 (by omega)
          have l1 : wr.cell? ⟨B5, 1, none⟩ = some (.int .i64 (s.bl i).reads) := hBr.cell 1 (by omega)
          have l2 : wr.cell? ⟨B5, 2, none⟩ = some (.bool (s.bl i).failed) := hBr.cell 2 (by omega)
          have l3 : wr.cell? ⟨B5, 3, none⟩ = some (.int .i64 (p0.wh i)) := hBr.cell 3 (by omega)
          have l4 : wr.cell? ⟨B5, 4, none⟩ = some (.bool (s.bl i).ef) := hBr.cell 4 (by omega)
          have hT1 := HT.out.chg hGx (fun f => f)
          have t0 : wr.cell? ⟨r2, 0, none⟩ = some v := hT1.cell 0 (by omega)
          clear hMk hR
          have hG3 : Chg (fun _ => False) wr (wr.alloc (.cells #[.slice (some ⟨q, 0, none⟩) 32 cap, .int .i64 (s.bl i).reads, .bool (s.bl i).failed, .int .i64 (p0.wh i), .bool (s.bl i).ef] 81)) := (Chg.refl (fun _ => False) wr).alloc _
          have hG3o : Chg (fun _ => False) wo (wr.alloc (.cells #[.slice (some ⟨q, 0, none⟩) 32 cap, .int .i64 (s.bl i).reads, .bool (s.bl i).failed, .int .i64 (p0.wh i), .bool (s.bl i).ef] 81)) := hGx.trans hG3
          have HO := hyd (ownsRow_chg HM.out.own hG3o (fun _ _ f => f))
          have HCL := hyd (cells_new wr [.slice (some ⟨q, 0, none⟩) 32 cap, .int .i64 (s.bl i).reads, .bool (s.bl i).failed, .int .i64 (p0.wh i), .bool (s.bl i).ef] 81)
          have HX : Hid (∀ u ∈ ([.slice (some ⟨q, 0, none⟩) 32 cap, .int .i64 (s.bl i).reads, .bool (s.bl i).failed, .int .i64 (p0.wh i), .bool (s.bl i).ef] : List Value), u.oneCell' = true) := by
            intro u hu
            simp only [List.mem_cons, List.not_mem_nil, or_false] at hu
            rcases hu with rfl | rfl | rfl | rfl | rfl <;> rfl
          have hzo : r2 + 1 ≤ wo.heap.size := by have := HB5.out; omega
          have hbase : r2 + 1 ≤ (wr.alloc (.cells #[.slice (some ⟨q, 0, none⟩) 32 cap, .int .i64 (s.bl i).reads, .bool (s.bl i).failed, .int .i64 (p0.wh i), .bool (s.bl i).ef] 81)).heap.size := Nat.le_trans hzo hG3o.size
          have hr3 : r2 < (wr.alloc (.cells #[.slice (some ⟨q, 0, none⟩) 32 cap, .int .i64 (s.bl i).reads, .bool (s.bl i).failed, .int .i64 (p0.wh i), .bool (s.bl i).ef] 81)).heap.size := hbase
          have HNR : Hid (some r2 ≠ v.ownBlock) := fun e => by have := HM.out.own_lt e.symm; omega
          have hT3 := hT1.chg hG3 (fun f => f)
          have t3 : (wr.alloc (.cells #[.slice (some ⟨q, 0, none⟩) 32 cap, .int .i64 (s.bl i).reads, .bool (s.bl i).failed, .int .i64 (p0.wh i), .bool (s.bl i).ef] 81)).cell? ⟨r2, 0, none⟩ = some v := hT3.cell 0 (by omega)
          have f3 := hT3.frozen 0
          have HBrr := hyd hBr
          have HT3 := hyd hT3
          clear hBr hT1 hT3
          go_wp2_with fail
          go_region_law (refine step_append_lies _ rfl (.tmp 86) (.tmp 88) 75 rfl (r2 + 1) 81 i81 _ 5 56 Try.underlying75 p1 p2 p3 p4 rfl (by decide) v i _ (by simp [Act.eval, Act.put]) HO.out ⟨wr.heap.size, 0, none⟩ 1 1 _ (by simp [Act.eval, Act.put]) rfl HCL.out HX.out (by decide) (by unfold maxLen; omega) (by omega) hbase _ rfl ?_
                         intro g cp w4 hO4 hg4 hat4 hlt4
                         have c4 : w4.cell? ⟨r2, 0, none⟩ = some v := (hg4.cell_far ⟨r2, 0, none⟩ hr3 HNR.out).trans t3
                         have f4 : w4.frozen? ⟨r2, 0, none⟩ = false := (hg4.frozen_far ⟨r2, 0, none⟩ hr3 HNR.out).trans f3)
          all_goals
            have hL3 : Lst (wr.alloc (.cells #[.slice (some ⟨q, 0, none⟩) 32 cap, .int .i64 (s.bl i).reads, .bool (s.bl i).failed, .int .i64 (p0.wh i), .bool (s.bl i).ef] 81)) 32 q pc (fun j => s.ch (32 * i + j)) := hL.chg hG3 (fun _ _ f => f)
            have eR : ([.slice (some ⟨q, 0, none⟩) 32 cap, .int .i64 (s.bl i).reads, .bool (s.bl i).failed, .int .i64 (p0.wh i), .bool (s.bl i).ef] : List Value) = rbl (p.setL i q cap pc) s i := by
              simp only [rbl, Plc.setL, if_pos, HWH.out]
            have hg4' : (wr.alloc (.cells #[.slice (some ⟨q, 0, none⟩) 32 cap, .int .i64 (s.bl i).reads, .bool (s.bl i).failed, .int .i64 (p0.wh i), .bool (s.bl i).ef] 81)).grownBy w4 v.ownBlock := ⟨hg4.os, hg4.tape, hg4.output, hg4.size, hg4.block⟩
            rw [eR] at hO4
            have hM4 := HM.out.next q cap pc hG3o hL3 (fun k hk => by have := hI k hk; have := HB5.out; omega) hzo hO4 hg4'
            have hM5 := hM4.chg (Chg.r1 (r := r2) w4 0 (.slice (some ⟨g, 0, none⟩) (i + 1) cp)) (fun k hk e => by omega)
            have ht4 : Row w4 r2 77 4 (fun i => ([v, .bool s.on, .int .i64 p0.bu, .int .i64 s.steps] : List Value).getD i undef) := HT3.out.other (hg4'.block r2 hr3 HNR.out)
            have ht5 := top0_set (v' := .slice (some ⟨g, 0, none⟩) (i + 1) cp) ht4
            have hG4 : Chg (fun _ => False) w w4 := Chg.grown (HG.out.trans hG3o) hg4' (fun k hk => Or.inr (by have := (HM.out.own_lt hk).1; omega))
            have hG5 := hG4.setCell (g := r2) (Or.inr hrs) 0 (.slice (some ⟨g, 0, none⟩) (i + 1) cp)
            have hwh5 : (p.setL i q cap pc).wh = p0.wh := HWH.out
            have HF := hyd hwh5
            clear hL3 eR hO4 hM4 ht4 hG4 hwh5 HM HT HT3 HO HCL HNR t3 c4 f3 f4 hL hI hG3 hG3o hg4 hg4' hat4 HX HBrr HWH HG
            go_wp2
            exact ⟨⟨i + 1, _, _, by omega, by go_num, hM5, HF.out, ht5, hG5⟩, by simp [intOf]; omega⟩
    · have e : i = 12 := by omega
      subst e
      have hrel : Rel { p with bu := p0.bu } s := ⟨HH.out.rel.bu, HH.out.rel.buLo, HH.out.rel.buHi, fun b hb => by rw [hwh]; exact HH.out.rel.wh b hb, fun b => by rw [hwh]; exact HH.out.rel.whLo b, fun b => by rw [hwh]; exact HH.out.rel.whHi b⟩
      have hM' : MkB wo (r2 + 1) 12 v { p with bu := p0.bu } s := ⟨hM.own, hM.lst, hM.low, hM.dis⟩
      have hR := hM'.done (w := w) ht hrel (by omega) hrs
      clear hrel hM' ht hM hwh
      go_wp2
      go_ret
      exact ⟨r2, rfl, hR, hG⟩
end Go.Proofs.Ytfjgnplplafniaa
