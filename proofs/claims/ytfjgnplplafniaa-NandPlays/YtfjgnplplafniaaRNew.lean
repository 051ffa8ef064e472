/-
  The document's chip: New. No condition.
-/
import Derived.Test.YtfjgnplplafniaaRErase
import Derived.Deep.AppendLies
import Derived.Deep.RegionLaw
namespace Go.Proofs.Ytfjgnplplafniaa
open Go.RowKit
set_option maxRecDepth 100000
set_option linter.unusedSimpArgs false

theorem rbl_length (p : Plc) (s : Chp) (b : Nat) : (rbl p s b).length = 5 := rfl
theorem rbl_one (p : Plc) (s : Chp) (b : Nat) : ∀ u ∈ rbl p s b, u.oneCell' = true := by
  intro u hu
  simp only [rbl, List.mem_cons, List.not_mem_nil, or_false] at hu
  rcases hu with rfl | rfl | rfl | rfl | rfl <;> rfl
theorem info81_all : (Try.prog.info? 81).map (fun i => (i.zero, i.size, i.bytes)) = some (some (.agg #[.slice none 0 0, .int .i64 0, .bool false, .int .i64 0, .bool false]), 5, 56) := by kernel_rfl
theorem info81 : ∃ i, Try.prog.info? 81 = some i ∧ i.zero = some (.agg #[.slice none 0 0, .int .i64 0, .bool false, .int .i64 0, .bool false]) ∧ i.size = 5 ∧ i.bytes = 56 := by
  have h := info81_all
  cases e : Try.prog.info? 81 with
  | none => rw [e] at h; cases h
  | some i =>
    rw [e] at h
    simp only [Option.map_some, Option.some.injEq, Prod.mk.injEq] at h
    exact ⟨i, rfl, h.1, h.2.1, h.2.2⟩
/-- While a chip's blocks are made: i of them. -/
structure MkB (w : World) (base i : Nat) (v : Value) (p : Plc) (s : Chp) : Prop where
  own : w.ownsRow base 81 5 v i (flatV (rbl p s) i)
  lst : ∀ b, b < i → Lst w 32 (p.gL b) (p.pc b) (fun j => s.ch (32 * b + j))
  low : ∀ b, b < i → ∀ k, InL 32 (p.gL b) (p.pc b) k → base ≤ k
  dis : ∀ b, b < i → ∀ c, c < i → b ≠ c → ∀ k, InL 32 (p.gL b) (p.pc b) k → ¬ InL 32 (p.gL c) (p.pc c) k
theorem MkB.start (w : World) (base : Nat) (p : Plc) (s : Chp) : MkB w base 0 (.slice none 0 0) p s :=
  ⟨World.ownsRow_nil w base 81 5, fun j hj => by omega, fun j hj => by omega, fun j hj => by omega⟩
theorem MkB.own_lt {w : World} {base i : Nat} {v : Value} {p : Plc} {s : Chp} (h : MkB w base i v p s) {k : Nat} (hk : v.ownBlock = some k) : base ≤ k ∧ k < w.heap.size := h.own.lt k hk
/-- One block more. -/
theorem MkB.next {w w3 w4 : World} {base i : Nat} {v v' : Value} {p : Plc} {s : Chp} (h : MkB w base i v p s) (q cap : Nat) (pcb : Nat → Pc) (hc : Chg (fun _ => False) w w3) (hL : Lst w3 32 q pcb (fun j => s.ch (32 * i + j))) (hI : ∀ k, InL 32 q pcb k → w.heap.size ≤ k) (hb : base ≤ w.heap.size)
    (hown : w4.ownsRow base 81 5 v' (i + 1) (flatV (rbl p s) i ++ rbl (p.setL i q cap pcb) s i)) (hg : w3.grownBy w4 v.ownBlock) : MkB w4 base (i + 1) v' (p.setL i q cap pcb) s := by
  have hvb : ∀ g, v.ownBlock = some g → ∃ n f, Row w g 81 n f := by
    intro g e
    rcases h.own.2 with ⟨rfl, _⟩ | ⟨g', cap, cur, rfl, _, hh, _⟩
    · cases e
    · have e2 : g' = g := Option.some.inj e
      subst e2
      exact ⟨0, fun _ => undef, cur, hh, by omega, fun j hj => by omega⟩
  have keep : ∀ (q : Nat) (pc : Nat → Pc) (ch : Nat → Chk), Lst w3 32 q pc ch → Lst w4 32 q pc ch := by
    intro q pc ch hl
    refine hl.other fun k hk hi => hg.block k hk (fun e => ?_)
    obtain ⟨n', f', hr'⟩ := hvb k e.symm
    rcases hl.type hi with ⟨n, f, hr⟩ | ⟨n, f, hr⟩
    · exact Row.ne (hr'.chg hc (fun f => f)) hr (by decide) rfl
    · exact Row.ne (hr'.chg hc (fun f => f)) hr (by decide) rfl
  have e1 : ∀ j, j < i → rbl (p.setL i q cap pcb) s j = rbl p s j := fun j hj => by simp only [rbl, Plc.setL, if_neg (show ¬ j = i by omega)]
  refine ⟨?_, fun b hb2 => ?_, fun b hb2 k hk => ?_, fun b hb2 c hc2 hne k hk hk2 => ?_⟩
  · rw [flatV, flatV_congr i e1]
    exact hown
  · by_cases e : b = i
    · subst e
      simp only [Plc.setL, if_pos]
      exact keep _ _ _ hL
    · simp only [Plc.setL, if_neg e]
      exact keep _ _ _ ((h.lst b (by omega)).chg hc (fun _ _ f => f))
  · by_cases e : b = i
    · subst e
      simp only [Plc.setL, if_pos] at hk
      have := hI k hk
      omega
    · simp only [Plc.setL, if_neg e] at hk
      exact h.low b (by omega) k hk
  · by_cases e : b = i
    · have e2 : ¬ c = i := fun e2 => hne (by rw [e, e2])
      subst e
      simp only [Plc.setL, if_pos, if_neg e2] at hk hk2
      have a1 := hI k hk
      have a2 := (h.lst c (by omega)).lt hk2
      omega
    · simp only [Plc.setL, if_neg e] at hk
      by_cases e2 : c = i
      · subst e2
        simp only [Plc.setL, if_pos] at hk2
        have a1 := hI k hk2
        have a2 := (h.lst b (by omega)).lt hk
        omega
      · simp only [Plc.setL, if_neg e2] at hk2
        exact h.dis b (by omega) c (by omega) hne k hk hk2
theorem MkB.chg {S : Nat → Prop} {w w' : World} {base i : Nat} {v : Value} {p : Plc} {s : Chp} (h : MkB w base i v p s) (hc : Chg S w w') (hs : ∀ k, base ≤ k → ¬ S k) : MkB w' base i v p s :=
  ⟨ownsRow_chg h.own hc (fun k hk => hs k (h.own_lt hk).1), fun b hb => (h.lst b hb).chg hc (fun k hk => hs k (h.low b hb k hk)), h.low, h.dis⟩
/-- What is new since w. -/
def fresh (w w' : World) : Nat → Prop := fun k => w.heap.size ≤ k ∧ k < w'.heap.size
theorem MkB.done {w w' : World} {base r : Nat} {v : Value} {p : Plc} {s : Chp} (h : MkB w' base 12 v p s) (ht : Row w' r 77 4 (fun i => ([v, .bool s.on, .int .i64 p.bu, .int .i64 s.steps] : List Value).getD i undef)) (hrel : Rel p s) (hb : w.heap.size ≤ base) (hr : w.heap.size ≤ r) : RefAt w' r s (fresh w w') := by
  obtain ⟨g, cap, rfl, h2, h3, h4⟩ := ownsRow_row h.own (by decide)
  refine ⟨{ p with gB := g, cB := cap }, ⟨ht, ?_, h.lst, ⟨hrel.bu, hrel.buLo, hrel.buHi, hrel.wh, hrel.whLo, hrel.whHi⟩, ⟨hr, ht.lt⟩, ⟨Nat.le_trans hb h2, h3⟩, fun b hb2 k hk => ⟨Nat.le_trans hb (h.low b hb2 k hk), (h.lst b hb2).lt hk⟩, h.dis⟩⟩
  exact h4.ext fun i hi => flatV_at 12 (fun j _ => rbl_length _ _ _) i hi
theorem top0_set {w : World} {r : Nat} {v v' : Value} {a b c : Value} (h : Row w r 77 4 (fun i => ([v, a, b, c] : List Value).getD i undef)) : Row (w.setCell ⟨r, 0, none⟩ v') r 77 4 (fun i => ([v', a, b, c] : List Value).getD i undef) := by
  refine (h.setCell 0 v').ext fun i hi => ?_
  rw [upL_one]
  rcases (by omega : i = 0 ∨ i = 1 ∨ i = 2 ∨ i = 3) with e | e | e | e <;> subst e <;> rfl
def plc0 : Plc := { gB := 0, cB := 0, gL := fun _ => 0, cL := fun _ => 0, pc := fun _ _ => ⟨0, 0, 0, 0⟩, wh := fun _ => -1, bu := -1 }
set_option maxHeartbeats 4000000 in
theorem rnew_any (w : World) : Calls Try.prog 7 #[] w fun e w' => ∃ r, e = .returned (.pointer (some ⟨r, 0, none⟩)) ∧ RefAt w' r newS (fresh w w') ∧ Chg (fun _ => False) w w' := by
  obtain ⟨i81, p1, p2, p3, p4⟩ := info81
  have ht0 : Row (w.alloc (.cells #[.slice none 0 0, .bool true, .int .i64 (-1), .int .i64 0] 77)) w.heap.size 77 4 (fun i => ([.slice none 0 0, .bool true, .int .i64 (-1), .int .i64 0] : List Value).getD i undef) :=
    (blk_new w _ 77 4 rfl).row.ext fun i hi => by rcases (by omega : i = 0 ∨ i = 1 ∨ i = 2 ∨ i = 3) with e | e | e | e <;> subst e <;> rfl
  have hG0 : Chg (fun _ => False) w (w.alloc (.cells #[.slice none 0 0, .bool true, .int .i64 (-1), .int .i64 0] 77)) := (Chg.refl _ _).alloc _
  go_enter Try.func7, Try.ntmps7
  go_wp2_with fail
  generalize hq : w.heap.size = r at *
  have hrs := Nat.le_of_eq hq
  have HQ := hyd hq
  clear hq
  generalize w.alloc (.cells #[.slice none 0 0, .bool true, .int .i64 (-1), .int .i64 0] 77) = w1 at *
  go_loopw [2] (fun t2 wr => ∃ (i : Nat) (v : Value) (p : Plc), i ≤ 12 ∧ t2 = .int .i64 i ∧ MkB wr (r + 1) i v p newS ∧ p.wh = (fun _ => -1) ∧ p.bu = -1 ∧ Row wr r 77 4 (fun i => ([v, .bool true, .int .i64 (-1), .int .i64 0] : List Value).getD i undef) ∧ Chg (fun _ => False) w wr) (fun t2 _ => 12 - (intOf t2).toNat)
  case atStart => exact ⟨0, .slice none 0 0, plc0, by omega, rfl, MkB.start _ _ _ _, rfl, rfl, ht0, hG0⟩
  case round =>
    clear ht0 hG0
    obtain ⟨i, v, p, hi, rfl, hM, hwh, hbu, ht, hG⟩ := hrel
    by_cases hlt : i < 12
    · have hi0 : (0 : Int) ≤ (i : Int) := by omega
      have hi1 : (i : Int) < 12 := by omega
      have c0 : wr.cell? ⟨r, 0, none⟩ = some v := ht.cell 0 (by omega)
      have hrl := ht.lt
      have HM := hyd hM
      have HWH := hyd hwh
      have hz0 : r + 1 ≤ wr.heap.size := hrl
      clear hM hwh
      have HT := hyd ht
      have HX : Hid (∀ q cap : Nat, ∀ u ∈ ([.slice (some ⟨q, 0, none⟩) 32 cap, .int .i64 0, .bool false, .int .i64 (-1), .bool false] : List Value), u.oneCell' = true) := by
        intro q cap u hu
        simp only [List.mem_cons, List.not_mem_nil, or_false] at hu
        rcases hu with rfl | rfl | rfl | rfl | rfl <;> rfl
      clear ht
      go_wp2_with fail
      go_region_law (first
        | (refine step_append_lies _ rfl (.tmp 13) (.tmp 16) 75 rfl (r + 1) 81 i81 _ 5 56 Try.underlying75 p1 p2 p3 p4 rfl (by decide) v i _ (by simp [Act.eval, Act.put]) HO.out ⟨w2.heap.size, 0, none⟩ 1 1 _ (by simp [Act.eval, Act.put]) rfl HCL.out (HX.out q cap) (by decide) (by unfold maxLen; omega) (by omega) hbase _ rfl ?_
           intro g cp w4 hO4 hg4 hat4 hlt4
           have c4 : w4.cell? ⟨r, 0, none⟩ = some v := (hg4.cell_far ⟨r, 0, none⟩ hr3 HNR.out).trans c3
           have f4 : w4.frozen? ⟨r, 0, none⟩ = false := (hg4.frozen_far ⟨r, 0, none⟩ hr3 HNR.out).trans f3)
        | (go_simp; go_at_call 25; refine (chunks_any _).mono ?_; rintro e w2 ⟨q, cap, pc, rfl, hL, hI, hG2⟩
           have hG3 : Chg (fun _ => False) wr (w2.alloc (.cells #[.slice (some ⟨q, 0, none⟩) 32 cap, .int .i64 0, .bool false, .int .i64 (-1), .bool false] 81)) := ((Chg.refl (fun _ => False) wr).drew.trans hG2).alloc _
           have HO := hyd (ownsRow_chg HM.out.own hG3 (fun _ _ f => f))
           have HCL := hyd (cells_new w2 [.slice (some ⟨q, 0, none⟩) 32 cap, .int .i64 0, .bool false, .int .i64 (-1), .bool false] 81)
           have hbase : r + 1 ≤ (w2.alloc (.cells #[.slice (some ⟨q, 0, none⟩) 32 cap, .int .i64 0, .bool false, .int .i64 (-1), .bool false] 81)).heap.size := Nat.le_trans hz0 hG3.size
           have hr3 : r < (w2.alloc (.cells #[.slice (some ⟨q, 0, none⟩) 32 cap, .int .i64 0, .bool false, .int .i64 (-1), .bool false] 81)).heap.size := hbase
           have HNR : Hid (some r ≠ v.ownBlock) := fun e => by { have := HM.out.own_lt e.symm; omega }
           have c2 : w2.cell? ⟨r, 0, none⟩ = some v := (HT.out.chg ((Chg.refl (fun _ => False) wr).drew.trans hG2) (fun f => f)).cell 0 (by omega)
           have c3 : (w2.alloc (.cells #[.slice (some ⟨q, 0, none⟩) 32 cap, .int .i64 0, .bool false, .int .i64 (-1), .bool false] 81)).cell? ⟨r, 0, none⟩ = some v := (HT.out.chg hG3 (fun f => f)).cell 0 (by omega)
           have f3 := (HT.out.chg hG3 (fun f => f)).frozen 0))
      all_goals
        have hL3 : Lst (w2.alloc (.cells #[.slice (some ⟨q, 0, none⟩) 32 cap, .int .i64 0, .bool false, .int .i64 (-1), .bool false] 81)) 32 q pc (fun j => newS.ch (32 * i + j)) := hL.chg ((Chg.refl (fun _ => False) w2).alloc _) (fun _ _ f => f)
        have eR : ([.slice (some ⟨q, 0, none⟩) 32 cap, .int .i64 0, .bool false, .int .i64 (-1), .bool false] : List Value) = rbl (p.setL i q cap pc) newS i := by
          simp only [rbl, Plc.setL, if_pos, HWH.out]; rfl
        rw [eR] at hO4
        have hM4 := HM.out.next q cap pc hG3 hL3 hI hz0 hO4 hg4
        have hM5 := hM4.chg (Chg.r1 (r := r) w4 0 (.slice (some ⟨g, 0, none⟩) (i + 1) cp)) (fun k hk e => by omega)
        have ht4 : Row w4 r 77 4 (fun i => ([v, .bool true, .int .i64 (-1), .int .i64 0] : List Value).getD i undef) := (HT.out.chg hG3 (fun f => f)).other (hg4.block r hr3 HNR.out)
        have ht5 := top0_set (v' := .slice (some ⟨g, 0, none⟩) (i + 1) cp) ht4
        have hG4 : Chg (fun _ => False) w w4 := Chg.grown (hG.trans hG3) hg4 (fun k hk => Or.inr (by have := (HM.out.own_lt hk).1; omega))
        have hG5 := hG4.setCell (g := r) (Or.inr hrs) 0 (.slice (some ⟨g, 0, none⟩) (i + 1) cp)
        have hwh5 : (p.setL i q cap pc).wh = fun _ => -1 := HWH.out
        have hbu5 : (p.setL i q cap pc).bu = -1 := hbu
        have HF := hyd hwh5
        have HU := hyd hbu5
        clear hL3 eR hO4 hM4 ht4 hG4 hwh5 hbu5 HM HT HO HCL HNR c2 c3 c4 f3 f4 hL hI hG2 hG3 hg4 hat4 hbu HX
        go_wp2
        exact ⟨⟨i + 1, _, _, by omega, by go_num, hM5, HF.out, HU.out, ht5, hG5⟩, by simp [intOf]; omega⟩
    · have e : i = 12 := by omega
      subst e
      have hrel : Rel p newS := ⟨fun _ => by rw [hbu]; rfl, by rw [hbu]; decide, by rw [hbu]; decide, fun b _ => by rw [hwh]; rfl, fun b => by rw [hwh]; show (-1 : Int) ≤ -1; decide, fun b => by rw [hwh]; show (-1 : Int) < 9223372036854775808; decide⟩
      have ht' : Row wr r 77 4 (fun i => ([v, .bool newS.on, .int .i64 p.bu, .int .i64 newS.steps] : List Value).getD i undef) := by rw [hbu]; exact ht
      have hR := hM.done (w := w) ht' hrel (by omega) hrs
      clear hrel ht' ht hM hwh hbu
      go_wp2
      go_ret
      exact ⟨r, rfl, hR, hG⟩
end Go.Proofs.Ytfjgnplplafniaa
