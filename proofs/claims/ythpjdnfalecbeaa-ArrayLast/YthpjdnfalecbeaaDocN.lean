/-
  The document's New and Clone. Conditions: it is an array.
-/
import Derived.Test.YthpjdnfalecbeaaDocW
namespace Go.Proofs.Ythpjdnfalecbeaa
open Go.RowKit
set_option maxRecDepth 100000
theorem info36 : ∃ i, Try.prog.info? 36 = some i ∧ i.zero = some (.slice none 0 0) ∧ i.size = 1 ∧ i.bytes = 24 := by
  have h : (Try.prog.info? 36).map (fun i => (i.zero, i.size, i.bytes)) = some (some (.slice none 0 0), 1, 24) := by kernel_rfl
  cases e : Try.prog.info? 36 with
  | none => rw [e] at h; cases h
  | some i =>
    rw [e] at h
    simp only [Option.map_some, Option.some.injEq, Prod.mk.injEq] at h
    exact ⟨i, rfl, h.1, h.2.1, h.2.2⟩
theorem build56 (w : World) : (Instr.build 56 #[]).run Try.prog w = .ok (.agg #[.slice none 0 0]) w := by kernel_rfl
theorem top_set {w : World} {r : Nat} {v v' : Value} (h : Row w r 56 1 (fun _ => v)) : Row (w.setCell ⟨r, 0, none⟩ v') r 56 1 (fun _ => v') :=
  (h.setCell 0 v').ext fun i hi => by rw [upL_one, if_pos (by omega)]
theorem sl_one (q cap : Nat) : ∀ u ∈ ([.slice (some ⟨q, 0, none⟩) 160 cap] : List Value), u.oneCell' = true := by
  intro u hu
  simp only [List.mem_cons, List.not_mem_nil, or_false] at hu
  subst hu; rfl
set_option maxHeartbeats 2000000 in
theorem rnew_any (w : World) : Calls Try.prog 7 #[] w fun e w' => ∃ r, e = .returned (.pointer (some ⟨r, 0, none⟩)) ∧ RefAt w' r zA (fun k => w.heap.size ≤ k ∧ k < w'.heap.size) ∧ Chg (fun _ => False) w w' := by
  obtain ⟨i36, p1, p2, p3, p4⟩ := info36
  have hb := build56
  have ht0 : Row (w.alloc (.cells #[.slice none 0 0] 56)) w.heap.size 56 1 (fun _ => .slice none 0 0) :=
    (blk_new w #[.slice none 0 0] 56 1 rfl).row.ext fun i hi => by obtain rfl : i = 0 := by omega
                                                                   rfl
  have hG0 : Chg (fun _ => False) w (w.alloc (.cells #[.slice none 0 0] 56)) := (Chg.refl _ _).alloc _
  go_enter Try.func7, Try.ntmps7
  go_wp2_with fail
  clear hb
  generalize hq : w.heap.size = r at *
  have hrs := Nat.le_of_eq hq
  have HQ := hyd hq
  clear hq
  generalize w.alloc (.cells #[.slice none 0 0] 56) = w1 at *
  go_loopw [2] (fun t2 wr => ∃ (i : Nat) (v : Value) (g c : Nat → Nat), i ≤ 24 ∧ t2 = .int .i64 i ∧ MkS wr (r + 1) i v g c zA ∧ Row wr r 56 1 (fun _ => v) ∧ Chg (fun _ => False) w wr) (fun t2 _ => 24 - (intOf t2).toNat)
  case atStart => exact ⟨0, .slice none 0 0, fun _ => 0, fun _ => 0, by omega, rfl, ⟨⟨rfl, Or.inl ⟨rfl, rfl⟩⟩, fun j hj => by omega, fun j hj => by omega⟩, ht0, hG0⟩
  case round =>
    clear ht0 hG0
    obtain ⟨i, v, g, c, hi, rfl, hM, ht, hG⟩ := hrel
    by_cases hlt : i < 24
    · have hi1 : (i : Int) < 24 := by omega
      have c0 : wr.cell? ⟨r, 0, none⟩ = some v := ht.cell 0 (by omega)
      have hrl := ht.lt
      have HM := hyd hM
      have hz0 : r + 1 ≤ wr.heap.size := hrl
      have HT := hyd ht
      clear hM ht
      go_wp2_with fail
      go_region_law (first
        | (refine step_append_lies _ rfl (.tmp 13) (.tmp 15) 29 rfl (r + 1) 36 i36 _ 1 24 Try.underlying29 p1 p2 p3 p4 rfl (by decide) v i _ (by simp [Act.eval]) HO.out ⟨w2.heap.size, 0, none⟩ 1 1 _ (by simp [Act.eval]) rfl HCL.out (sl_one _ 160) (by decide) (by unfold maxLen; omega) (by omega) hbase _ rfl ?_
           intro q cp w4 hO4 hg4 hat4 hlt4
           have c4 : w4.cell? ⟨r, 0, none⟩ = some v := (hg4.cell_far ⟨r, 0, none⟩ hr3 HNR.out).trans c3
           have f4 : w4.frozen? ⟨r, 0, none⟩ = false := (hg4.frozen_far ⟨r, 0, none⟩ hr3 HNR.out).trans f3)
        | (go_simp; go_at_call 17; refine (noughts_any _).mono ?_; rintro e w2 ⟨rfl, hY, hG2, -⟩
           have hG3 : Chg (fun _ => False) wr (w2.alloc (.cells #[.slice (some ⟨wr.heap.size, 0, none⟩) 160 160] 36)) := ((Chg.refl (fun _ => False) wr).drew.trans hG2).alloc _
           have HO := hyd (ownsRow_chg HM.out.own hG3 (fun _ _ f => f))
           have HCL := hyd (cells_new w2 [.slice (some ⟨wr.heap.size, 0, none⟩) 160 160] 36)
           have hbase : r + 1 ≤ (w2.alloc (.cells #[.slice (some ⟨wr.heap.size, 0, none⟩) 160 160] 36)).heap.size := Nat.le_trans hz0 hG3.size
           have hr3 : r < (w2.alloc (.cells #[.slice (some ⟨wr.heap.size, 0, none⟩) 160 160] 36)).heap.size := hbase
           have HNR : Hid (some r ≠ v.ownBlock) := fun e => by { have := (HM.out.own.lt r e.symm).1; omega }
           have c2 : w2.cell? ⟨r, 0, none⟩ = some v := (HT.out.chg ((Chg.refl (fun _ => False) wr).drew.trans hG2) (fun f => f)).cell 0 (by omega)
           have c3 : (w2.alloc (.cells #[.slice (some ⟨wr.heap.size, 0, none⟩) 160 160] 36)).cell? ⟨r, 0, none⟩ = some v := (HT.out.chg hG3 (fun f => f)).cell 0 (by omega)
           have f3 := (HT.out.chg hG3 (fun f => f)).frozen 0))
      all_goals
        have hY3 : By (w2.alloc (.cells #[.slice (some ⟨wr.heap.size, 0, none⟩) 160 160] 36)) wr.heap.size (zA i) := Row.chg hY ((Chg.refl (fun _ => False) w2).alloc _) (fun f => f)
        have hM4 := (HM.out.chg hG3 (fun _ f => f.elim)).next wr.heap.size 160 hY3 hz0 hO4 hg4
        have hM5 := hM4.chg (Chg.r1 (r := r) w4 0 (.slice (some ⟨q, 0, none⟩) (i + 1) cp)) (fun k hk => by omega)
        have ht4 : Row w4 r 56 1 (fun _ => v) := (HT.out.chg hG3 (fun f => f)).other (hg4.block r hr3 HNR.out)
        have ht5 := top_set (v' := .slice (some ⟨q, 0, none⟩) (i + 1) cp) ht4
        have hG4 : Chg (fun _ => False) w w4 := Chg.grown (hG.trans hG3) hg4 (fun k hk => Or.inr (by have := (HM.out.own.lt k hk).1; omega))
        have hG5 := hG4.setCell (g := r) (Or.inr hrs) 0 (.slice (some ⟨q, 0, none⟩) (i + 1) cp)
        clear hY3 hO4 hM4 ht4 hG4 HM HT HO HCL HNR c2 c3 c4 f3 f4 hY hG2 hG3 hg4 hat4
        go_wp2
        exact ⟨⟨i + 1, _, _, _, by omega, by go_num, hM5, ht5, hG5⟩, by simp [intOf]; omega⟩
    · have e : i = 24 := by omega
      subst e
      have hR := hM.done (w := w) ht HQ.out
      clear hM ht
      go_wp2
      go_ret
      exact ⟨r, rfl, hR, hG⟩
end Go.Proofs.Ythpjdnfalecbeaa
