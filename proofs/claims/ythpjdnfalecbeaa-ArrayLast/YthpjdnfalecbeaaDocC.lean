/-
  The document's Clone and Differ. Conditions: both are arrays.
-/
import Derived.Test.YthpjdnfalecbeaaDocN
namespace Go.Proofs.Ythpjdnfalecbeaa
open Go.RowKit
set_option maxRecDepth 100000
set_option maxHeartbeats 2000000 in
theorem rclone_any (w : World) (r0 : Nat) (s : Nat → List Nat) (hs : Okr s) (F : Nat → Prop) (h : RefAt w r0 s F) : Calls Try.prog 27 #[.pointer (some ⟨r0, 0, none⟩)] w fun e w' => ∃ r, e = .returned (.pointer (some ⟨r, 0, none⟩)) ∧ RefAt w' r s (fun k => w.heap.size ≤ k ∧ k < w'.heap.size) ∧ Chg (fun _ => False) w w' := by
  obtain ⟨i36, p1, p2, p3, p4⟩ := info36
  have hb := build56
  have ht0 : Row (w.alloc (.cells #[.slice none 0 0] 56)) w.heap.size 56 1 (fun _ => .slice none 0 0) :=
    (blk_new w #[.slice none 0 0] 56 1 rfl).row.ext fun i hi => by obtain rfl : i = 0 := by omega
                                                                   rfl
  have hG0 : Chg (fun _ => False) w (w.alloc (.cells #[.slice none 0 0] 56)) := (Chg.refl _ _).alloc _
  have HH := hyd h
  have HS := hyd hs
  clear h hs
  go_enter Try.func27, Try.ntmps27
  go_wp2_with fail
  clear hb
  generalize hq : w.heap.size = r at *
  have hrs := Nat.le_of_eq hq
  have HQ := hyd hq
  clear hq
  generalize w.alloc (.cells #[.slice none 0 0] 56) = w1 at *
  go_loopw [4, 5, 6] (fun t4 t5 t6 wr => ∃ (i : Nat) (v : Value) (g c : Nat → Nat), i ≤ 24 ∧ t4 = .int .i64 i ∧ MkS wr (r + 1) i v g c s ∧ Row wr r 56 1 (fun _ => v) ∧ Chg (fun _ => False) w wr) (fun t4 _ _ _ => 24 - (intOf t4).toNat)
  case atStart => exact ⟨0, .slice none 0 0, fun _ => 0, fun _ => 0, by omega, rfl, ⟨⟨rfl, Or.inl ⟨rfl, rfl⟩⟩, fun j hj => by omega, fun j hj => by omega⟩, ht0, hG0⟩
  case round =>
    clear ht0 hG0
    obtain ⟨i, v, g, c, hi, rfl, hM, ht, hG⟩ := hrel
    by_cases hlt : i < 24
    · have hi1 : (i : Int) < 24 := by omega
      have hrl := ht.lt
      have HM := hyd hM
      have hz0 : r + 1 ≤ wr.heap.size := hrl
      have HT := hyd ht
      have HG := hyd hG
      clear hM ht hG
      go_wp2_with fail
      refine (rread_yes r0 i s HS.out hlt F wr (HH.out.chg HG.out (fun _ _ f => f))).mono ?_
      rintro e w2 ⟨u, rfl, hO, hG2⟩
      obtain ⟨q, cq, rfl, hq1, hq2, hY⟩ := hO.by (by rw [HS.out.len]; decide)
      rw [HS.out.len]
      have hG3 : Chg (fun _ => False) wr (w2.alloc (.cells #[.slice (some ⟨q, 0, none⟩) 160 cq] 36)) := hG2.alloc _
      have HO := hyd (ownsRow_chg HM.out.own hG3 (fun _ _ f => f))
      have HCL := hyd (cells_new w2 [.slice (some ⟨q, 0, none⟩) 160 cq] 36)
      have hbase : r + 1 ≤ (w2.alloc (.cells #[.slice (some ⟨q, 0, none⟩) 160 cq] 36)).heap.size := Nat.le_trans hz0 hG3.size
      have HNR : Hid (some r ≠ v.ownBlock) := fun e => by have := (HM.out.own.lt r e.symm).1; omega
      have c2 : w2.cell? ⟨r, 0, none⟩ = some v := (HT.out.chg hG2 (fun f => f)).cell 0 (by omega)
      have HM3 := hyd (HM.out.chg hG3 (fun _ f => f.elim))
      have HT3 := hyd (HT.out.chg hG3 (fun f => f))
      have HY3 : Hid (By (w2.alloc (.cells #[.slice (some ⟨q, 0, none⟩) 160 cq] 36)) q (s i)) := Row.chg hY ((Chg.refl (fun _ => False) w2).alloc _) (fun f => f)
      have HQ1 : Hid (r + 1 ≤ q) := Nat.le_trans hz0 hq1
      have HG3 := hyd (HG.out.trans hG3)
      clear hO hG2 hY hq1 hq2 hG3 HM HT HG
      go_wp2_with (first | refine wpList_append_lies _ rfl (.tmp 23) (.tmp 25) 29 rfl (r + 1) 36 i36 _ 1 24 Try.underlying29 p1 p2 p3 p4 rfl (by decide) v i _ rfl HO.out ⟨w2.heap.size, 0, none⟩ 1 1 _ rfl rfl HCL.out (sl_one _ cq) (by decide) (by unfold maxLen; omega) (by omega) hbase _ rfl ?_)
      intro g4 cp w4 hO4 hg4 hat4 hlt4
      have hr3 : r < (w2.alloc (.cells #[.slice (some ⟨q, 0, none⟩) 160 cq] 36)).heap.size := hbase
      have ht4 : Row w4 r 56 1 (fun _ => v) := HT3.out.other (hg4.block r hr3 HNR.out)
      have c4 : w4.cell? ⟨r, 0, none⟩ = some v := ht4.cell 0 (by omega)
      have f4 := ht4.frozen 0
      have hM4 := HM3.out.next q cq HY3.out HQ1.out hO4 hg4
      have hM5 := hyd (hM4.chg (Chg.r1 (r := r) w4 0 (.slice (some ⟨g4, 0, none⟩) (i + 1) cp)) (fun k hk => by omega))
      have ht5 := hyd (top_set (v' := .slice (some ⟨g4, 0, none⟩) (i + 1) cp) ht4)
      have hG4 : Chg (fun _ => False) w w4 := Chg.grown HG3.out hg4 (fun k hk => Or.inr (by have := (HM3.out.own.lt k hk).1; omega))
      have hG5 := hyd (hG4.setCell (g := r) (Or.inr hrs) 0 (.slice (some ⟨g4, 0, none⟩) (i + 1) cp))
      clear hO4 hM4 ht4 hG4 HM3 HT3 HO HCL HNR c2 hg4 hat4 HY3 HG3 hr3
      go_wp2
      exact ⟨⟨i + 1, _, _, _, by omega, by go_num, hM5.out, ht5.out, hG5.out⟩, by simp [intOf]; omega⟩
    · have e : i = 24 := by omega
      subst e
      have hR := hM.done (w := w) ht HQ.out
      clear hM ht
      go_wp2
      go_ret
      exact ⟨r, rfl, hR, hG⟩
set_option maxHeartbeats 2000000 in
theorem rdiffer_any (w : World) (r1 r2 : Nat) (s t : Nat → List Nat) (hs : Okr s) (ht : Okr t) (F F' : Nat → Prop) (h : RefAt w r1 s F) (h' : RefAt w r2 t F') :
    Calls Try.prog 29 #[.pointer (some ⟨r1, 0, none⟩), .pointer (some ⟨r2, 0, none⟩)] w fun e w' => ∃ v, e = .returned v ∧ Ow w' w.heap.size v (dif s t 24) ∧ Chg (fun _ => False) w w' := by
  obtain ⟨p, h⟩ := h
  obtain ⟨p', h'⟩ := h'
  have HA := hyd h
  have HB := hyd h'
  have HS := hyd hs
  have HT := hyd ht
  clear h h' hs ht
  go_enter Try.func29, Try.ntmps29
  go_wp2_with fail
  go_loopg [5, 6, 7] 24 (fun kx s5 s6 s7 wr => ∃ i : Nat, s6 = .int .i64 i ∧ i ≤ 24 ∧ 24 - i ≤ kx ∧ Hid (Ow wr w.heap.size s5 (dif s t i)) ∧ Hid (Chg (fun _ => False) w wr))
  case atStart => exact ⟨0, rfl, by omega, by omega, Ow.nil _ _, Chg.refl _ _⟩
  case round =>
  obtain ⟨i, rfl, hin, hkx, HO, HG⟩ := hrel
  by_cases hlt : i < 24
  · have hltz : (i : Int) < 24 := by omega
    have HE := hyd (dif_succ s t i)
    have HL := hyd (dif_length s t i)
    have a1 := (HA.out.chg HG.out (fun _ _ f => f)).top.cell 0 (by decide)
    have a2 := (HA.out.chg HG.out (fun _ _ f => f)).bl.cell i hlt
    have HA3 := hyd ((HA.out.chg HG.out (fun _ _ f => f)).by_ i hlt)
    have b1 := (HB.out.chg HG.out (fun _ _ f => f)).top.cell 0 (by decide)
    have b2 := (HB.out.chg HG.out (fun _ _ f => f)).bl.cell i hlt
    have HB3 := hyd ((HB.out.chg HG.out (fun _ _ f => f)).by_ i hlt)
    have HSL := hyd (HS.out.len i)
    have HTL := hyd (HT.out.len i)
    simp only [sl] at a2 b2
    generalize p.gB = gB at *
    generalize p.cB = cB at *
    generalize p'.gB = gB' at *
    generalize p'.cB = cB' at *
    generalize p.g i = q at *
    generalize p.c i = cq at *
    generalize p'.g i = q' at *
    generalize p'.c i = cq' at *
    go_wp2_with fail
    go_loopg [5, 7] 160 (fun ky x5 x7 wx => ∃ k m : Nat, x5 = u5 ∧ x7 = .int .i64 k ∧ k ≤ 160 ∧ 160 - k ≤ ky ∧ Hid (wx = wr.drewN m) ∧ Hid (∀ j, j < k → (s i).getD j 0 = (t i).getD j 0))
    case atStart => exact ⟨0, 0, rfl, rfl, by omega, by omega, rfl, fun j hj => by omega⟩
    case round =>
    obtain ⟨k, m, rfl, rfl, hkn, hky, HW, HJ⟩ := hrel
    have hW := HW.out
    subst hW
    by_cases hk : k < 160
    · have hkz : (k : Int) < 160 := by omega
      have a3 := HA3.out.cell k (by rw [HSL.out]; exact hk)
      have b3 := HB3.out.cell k (by rw [HTL.out]; exact hk)
      by_cases e : (s i).getD k 0 = (t i).getD k 0
      · have HJ2 : Hid (∀ j, j < k + 1 → (s i).getD j 0 = (t i).getD j 0) := fun j hj => by
          by_cases e2 : j = k
          · subst e2; exact e
          · exact HJ.out j (by omega)
        rw [← e] at b3
        generalize (s i).getD k 0 = x at *
        clear e HJ
        go_wp2_with fail
        go_quiet (fail)
        go_wp2
        go_roundg (160 - (k + 1))
        case measure => omega
        case rel => exact ⟨k + 1, _, rfl, by simp, by omega, Nat.le_refl _, rfl, HJ2⟩
      · have HE2 : Hid (dif s t (i + 1) = dif s t i ++ [(i : Int)]) := HE.out.trans (if_neg (fun e2 => e (by rw [e2])))
        generalize (s i).getD k 0 = x at *
        generalize (t i).getD k 0 = y at *
        have hb : ((x : Int) != (y : Int)) = true := by simp; omega
        clear e HJ HE
        go_wp2_with fail
        go_quiet (fail)
        have HO1 := hyd (HO.out.new (((Chg.refl (fun _ => False) wr).drewN m).drewN nq))
        have HG1 := hyd ((HG.out.drewN m).drewN nq)
        clear HO HG HW a1 a2 a3 b1 b2 b3
        generalize (wr.drewN m).drewN nq = w1 at *
        have HO2 := hyd (HO1.out.new ((Chg.refl (fun _ => False) w1).alloc (.cells #[.int .i64 i] 3)))
        have HB1 : Hid (w.heap.size ≤ (w1.alloc (.cells #[.int .i64 i] 3)).heap.size) := by have := HG1.out.size; show _ ≤ _; simp; omega
        have HC1 : Hid ((w1.alloc (.cells #[.int .i64 i] 3)).cell? ⟨w1.heap.size, 0, none⟩ = some (.int .i64 i)) := by show _ = _; simp
        have HG2 := hyd (HG1.out.alloc (.cells #[.int .i64 i] 3))
        go_wp2_with (first | (refine wpList_append_i _ rfl (.tmp 37) (.tmp 39) rfl w.heap.size _ (dif s t i) rfl w1.heap.size (i : Int) rfl ?_ ?_ (by have := HL.out; omega) ?_ ?_; exact HO2.out; exact HC1.out; exact HB1.out))
        intro v' w2 O2 G2
        have HO3 := hyd O2
        have HG3 : Hid (Chg (fun _ => False) w w2) := HG2.out.trans' G2 fun j hj e => by have := HO1.out.block e; omega
        clear O2 G2 HO2 HB1 HC1 HG2
        go_wp2
        go_roundg (24 - (i + 1))
        case measure => omega
        case rel => exact ⟨i + 1, by simp, by omega, Nat.le_refl _, by show Ow _ _ _ _; rw [HE2.out]; exact HO3.out, HG3⟩
    · have hkz : ¬ (k : Int) < 160 := by omega
      have HE2 : Hid (dif s t (i + 1) = dif s t i) := HE.out.trans (if_pos (list_eq_of_getD (by rw [HSL.out, HTL.out]) (fun j hj => HJ.out j (by rw [HSL.out] at hj; omega))))
      clear HE HJ
      go_wp2
      go_roundg (24 - (i + 1))
      case measure => omega
      case rel => exact ⟨i + 1, by simp, by omega, Nat.le_refl _, by show Ow _ _ _ _; rw [HE2.out]; exact HO.out.new ((Chg.refl _ _).drewN _), HG.out.drewN _⟩
  · have hltz : ¬ (i : Int) < 24 := by omega
    have h24 : i = 24 := by omega
    subst h24
    go_wp2
    go_ret
    exact ⟨_, rfl, HO.out, HG.out⟩
end Go.Proofs.Ythpjdnfalecbeaa
