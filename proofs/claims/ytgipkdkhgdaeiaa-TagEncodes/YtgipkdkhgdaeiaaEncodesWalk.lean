/-
  TagEncodes, walked: whatever the tag, Check and Encode answer as the document says. No condition.
-/
import Derived.Test.YtgipkdkhgdaeiaaShown
import Derived.Test.YtgipkdkhgdaeiaaRefBody
import Derived.Test.YtgipkdkhgdaeiaaApartWalk
namespace Go.Proofs.Ytgipkdkhgdaeiaa
open Go.RowKit
set_option maxRecDepth 100000

/-- One of two. -/
def pick2 {α : Type} (x y : α) (i : Nat) : α := if i = 0 then x else y
theorem two {i : Nat} (h : i < 2) : i = 0 ∨ i = 1 := by omega
theorem apart2 (w : World) (base : Nat) (a0 a1 : Option Addr) (n0 n1 c0 c1 : Nat) (l0 l1 : List Nat) (e0 : n0 = l0.length) (e1 : n1 = l1.length)
    (h0 : OwnT w base 5 (.slice a0 n0 c0) l0) (h1 : OwnT w base 5 (.slice a1 n1 c1) l1) (hb : base ≤ w.heap.size)
    (d01 : ∀ k, (Value.slice a0 n0 c0).ownBlock = some k → (Value.slice a1 n1 c1).ownBlock ≠ some k) (m0 : l0.length ≤ 1000) (m1 : l1.length ≤ 1000) :
    Calls Try.prog 12 #[.slice (some ⟨w.heap.size, 0, none⟩) 2 2] (w.alloc (.cells #[.slice a0 n0 c0, .slice a1 n1 c1] 28)) fun e w' =>
      e = .returned (.bool true) ∧ Chg (fun k => (Value.slice a0 n0 c0).ownBlock = some k ∨ (Value.slice a1 n1 c1).ownBlock = some k) (w.alloc (.cells #[.slice a0 n0 c0, .slice a1 n1 c1] 28)) w' := by
  subst e0 e1
  have b0 : ∀ k, (Value.slice a0 l0.length c0).ownBlock = some k → k < w.heap.size := fun k hk => (h0.block hk).2
  have b1 : ∀ k, (Value.slice a1 l1.length c1).ownBlock = some k → k < w.heap.size := fun k hk => (h1.block hk).2
  have h := apart_any (w.alloc (.cells #[.slice a0 l0.length c0, .slice a1 l1.length c1] 28)) w.heap.size 0 2 2 base (pick2 a0 a1) (pick2 c0 c1) (pick2 l0 l1) (by decide)
    (by simp; omega) (by simp) (fun i hi => ?_) ⟨fun i hi => ?_, fun i j k hi hj hij h1 h2 => ?_⟩ (fun i hi => ?_) (fun i hi h1 => ?_)
  · refine h.mono ?_
    rintro e' w' ⟨h1, h2⟩
    refine ⟨h1, h2.mono (fun k _ hk => ?_)⟩
    obtain ⟨j, hj, hk⟩ := hk
    rcases two hj with rfl | rfl
    · exact Or.inl hk
    · exact Or.inr hk
  · rcases two hi with rfl | rfl <;> simp [pick2]
  · rcases two hi with rfl | rfl
    · exact h0.keep (fun k hk _ => Below.heap_alloc _ _ _ hk)
    · exact h1.keep (fun k hk _ => Below.heap_alloc _ _ _ hk)
  · rcases two hi with rfl | rfl <;> rcases two hj with rfl | rfl
    · exact hij rfl
    · exact d01 k h1 h2
    · exact d01 k h2 h1
    · exact hij rfl
  · rcases two hi with rfl | rfl
    · show l0.length ≤ _; omega
    · show l1.length ≤ _; omega
  · rcases two hi with rfl | rfl
    · exact absurd (b0 _ h1) (Nat.lt_irrefl _)
    · exact absurd (b1 _ h1) (Nat.lt_irrefl _)

set_option maxHeartbeats 4000000 in
theorem encodes_no (w : World) (p o s c : Int) (l : Bool) (h : ¬ May p o s c l) :
    Calls Try.prog 3 #[.agg #[.int .i64 p, .int .i64 o, .int .i64 s, .int .i64 c, .bool l]] w fun e w' => e = .returned (.bool true) ∧ Chg (fun _ => False) w w' := by
  have T0 := Tg.new w p o s c l
  have G0 : Chg (fun _ => False) w (w.alloc (.cells #[.int .i64 p, .int .i64 o, .int .i64 s, .int .i64 c, .bool l] 23)) := (Chg.refl _ w).alloc _
  have hc := fun w => (check_any w p o s c l).2 h
  have he := fun w => encode_no w p o s c l h
  have hm := fun w => rmay_no w p o s c l h
  have q1 := eql_arg_arg
  clear h
  go_enter Try.func3, Try.ntmps3
  go_wp2_with fail
  refine (shown_any _).mono ?_
  rintro e w1 ⟨rfl, G1⟩
  have T1 := T0.chg G1 (fun e => e)
  obtain ⟨k0, k1, k2, k3, k4⟩ := T1.cells
  have HT := hyd T1
  have HG := hyd (G0.trans G1)
  clear T0 G0 T1 G1
  go_wp2_with fail
  refine (hc _).mono ?_
  rintro e w2 ⟨rfl, G2⟩
  have Tw2 := HT.out.chg G2 (fun e => e)
  obtain ⟨k0, k1, k2, k3, k4⟩ := Tw2.cells
  have HT := hyd Tw2
  have HG := hyd (HG.out.trans G2)
  clear Tw2 G2
  go_wp2_with fail
  refine (he _).mono ?_
  rintro e w3 ⟨rfl, G3⟩
  have Tw3 := HT.out.chg G3 (fun e => e)
  obtain ⟨k0, k1, k2, k3, k4⟩ := Tw3.cells
  have HT := hyd Tw3
  have HG := hyd (HG.out.trans G3)
  clear Tw3 G3
  go_wp2_with fail
  refine (he _).mono ?_
  rintro e w4 ⟨rfl, G4⟩
  have Tw4 := HT.out.chg G4 (fun e => e)
  obtain ⟨k0, k1, k2, k3, k4⟩ := Tw4.cells
  have HT := hyd Tw4
  have HG := hyd (HG.out.trans G4)
  clear Tw4 G4
  go_wp2_with fail
  refine (hm _).mono ?_
  rintro e w5 ⟨rfl, G5⟩
  have HG5 := hyd (HG.out.trans G5)
  clear G5 hm hc he k0 k1 k2 k3 k4
  go_wp2
  go_ret
  exact ⟨rfl, HG5.out⟩
set_option maxHeartbeats 8000000 in
theorem encodes_yes (w : World) (p o s c : Nat) (l : Bool) (h : May p o s c l) :
    Calls Try.prog 3 #[.agg #[.int .i64 p, .int .i64 o, .int .i64 s, .int .i64 c, .bool l]] w fun e w' => e = .returned (.bool true) ∧ Chg (fun _ => False) w w' := by
  have T0 := Tg.new w p o s c l
  have G0 : Chg (fun _ => False) w (w.alloc (.cells #[.int .i64 p, .int .i64 o, .int .i64 s, .int .i64 c, .bool l] 23)) := (Chg.refl _ w).alloc _
  have hc := fun w => (check_any w p o s c l).1 h
  have he := fun w => encode_yes w p o s c l h
  have hm := fun w => rmay_yes w p o s c l h
  have hb := fun w => rbody_any w p o s c l h
  have q1 := eql_nil_nil
  have bl := body_length p o s c l
  have HBL := hyd bl
  clear h bl
  go_enter Try.func3, Try.ntmps3
  go_wp2_with fail
  refine (shown_any _).mono ?_
  rintro e w1 ⟨rfl, G1⟩
  have T1 := T0.chg G1 (fun e => e)
  obtain ⟨k0, k1, k2, k3, k4⟩ := T1.cells
  have HT := hyd T1
  have HG := hyd (G0.trans G1)
  clear T0 G0 T1 G1
  go_wp2_with fail
  refine (hc _).mono ?_
  rintro e w2 ⟨rfl, G2⟩
  have Tw2 := HT.out.chg G2 (fun e => e)
  obtain ⟨k0, k1, k2, k3, k4⟩ := Tw2.cells
  have HT := hyd Tw2
  have HG := hyd (HG.out.trans G2)
  clear Tw2 G2
  go_wp2_with fail
  refine (he _).mono ?_
  rintro e w3 ⟨g, rfl, hg, B3, G3⟩
  have hs2 := HG.out.size
  have Tw3 := HT.out.chg G3 (fun e => e)
  obtain ⟨k0, k1, k2, k3, k4⟩ := Tw3.cells
  have HT := hyd Tw3
  have HG := hyd (HG.out.trans G3)
  clear Tw3 G3
  have HB := hyd B3
  clear B3
  go_wp2_with fail
  refine (he _).mono ?_
  rintro e w4 ⟨g', rfl, hg', D4, G4⟩
  have hgl := HB.out.lt
  have HB' := hyd (HB.out.chg G4 (fun e => e))
  have HD := hyd D4
  have Tw4 := HT.out.chg G4 (fun e => e)
  obtain ⟨k0, k1, k2, k3, k4⟩ := Tw4.cells
  have HT := hyd Tw4
  have HG := hyd (HG.out.trans G4)
  clear Tw4 G4
  clear D4 HB
  go_wp2_with fail
  refine (hm _).mono ?_
  rintro e w5 ⟨rfl, G5⟩
  have HB := hyd (HB'.out.chg G5 (fun e => e))
  have HD' := hyd (HD.out.chg G5 (fun e => e))
  have Tw5 := HT.out.chg G5 (fun e => e)
  obtain ⟨k0, k1, k2, k3, k4⟩ := Tw5.cells
  have HT := hyd Tw5
  have HG := hyd (HG.out.trans G5)
  clear Tw5 G5
  clear HB' HD
  go_wp2_with fail
  refine (hb _).mono ?_
  rintro e w6 ⟨a, k, rfl, O6, G6⟩
  have HB' := hyd (HB.out.chg G6 (fun e => e))
  have HD := hyd (HD'.out.chg G6 (fun e => e))
  have HO := hyd O6.held
  have HG6 := hyd (HG.out.trans G6)
  clear G6 O6 HB HD' HG HT k0 k1 k2 k3 k4 hb hm he hc
  have s1 := same_n w6 (some ⟨g, 0, none⟩) a 50 50 50 k _ _ HBL.out.symm HBL.out.symm (HB'.out.heldFull 50 50 HBL.out.symm) HO.out (by rw [HBL.out]; decide) (by rw [HBL.out]; decide)
  rw [decide_eq_true rfl] at s1
  go_wp2_with fail
  refine s1.mono ?_
  rintro e w7 ⟨rfl, G7⟩
  have HB := hyd (HB'.out.chg G7 (fun e => e))
  have HD' := hyd (HD.out.chg G7 (fun e => e))
  have HO' := hyd (HO.out.chg G7 (fun _ _ _ e => e))
  have HG7 := hyd (HG6.out.trans G7)
  clear G7 s1 HB' HD HO HG6
  have s2 := same_n w7 (some ⟨g', 0, none⟩) a 50 50 50 k _ _ HBL.out.symm HBL.out.symm (HD'.out.heldFull 50 50 HBL.out.symm) HO'.out (by rw [HBL.out]; decide) (by rw [HBL.out]; decide)
  rw [decide_eq_true rfl] at s2
  go_wp2_with fail
  refine s2.mono ?_
  rintro e w8 ⟨rfl, G8⟩
  have HB' := hyd (HB.out.chg G8 (fun e => e))
  have HD := hyd (HD'.out.chg G8 (fun e => e))
  have HG8 := hyd (HG7.out.trans G8)
  clear G8 s2 HB HD' HO' HG7
  have ap := apart2 w8 w.heap.size (some ⟨g, 0, none⟩) (some ⟨g', 0, none⟩) 50 50 50 50 _ _ HBL.out.symm HBL.out.symm (HB'.out.own (by omega) 50 HBL.out.symm (by decide)) (HD.out.own (by omega) 50 HBL.out.symm (by decide)) HG8.out.size
    (fun k h1 h2 => by have e1 : g = k := Option.some.inj h1; have e2 : g' = k := Option.some.inj h2; omega) (by rw [HBL.out]; decide) (by rw [HBL.out]; decide)
  go_wp2_with fail
  refine ap.mono ?_
  rintro e w9 ⟨rfl, G9⟩
  have HG9 : Hid (Chg (fun _ => False) w w9) := hyd ((HG8.out.alloc _).trans' G9 (fun i hi ht => by
    rcases ht with ht | ht
    · have e1 : g = i := Option.some.inj ht
      omega
    · have e1 : g' = i := Option.some.inj ht
      omega))
  clear G9 ap HB' HD HG8
  go_wp2
  go_ret
  exact ⟨rfl, HG9.out⟩
theorem encodes_walk (w : World) (p o s c : Int) (l : Bool) :
    Calls Try.prog 3 #[.agg #[.int .i64 p, .int .i64 o, .int .i64 s, .int .i64 c, .bool l]] w fun e w' => e = .returned (.bool true) ∧ Below w.heap.size w w' := by
  have main : Calls Try.prog 3 #[.agg #[.int .i64 p, .int .i64 o, .int .i64 s, .int .i64 c, .bool l]] w fun e w' => e = .returned (.bool true) ∧ Chg (fun _ => False) w w' := by
    by_cases h : May p o s c l
    · obtain ⟨⟨⟨h1, _⟩, ⟨h2, _⟩, ⟨h3, _⟩, h4, _⟩, _⟩ := id h
      obtain ⟨P, rfl⟩ : ∃ P : Nat, p = P := ⟨p.toNat, by omega⟩
      obtain ⟨O, rfl⟩ : ∃ O : Nat, o = O := ⟨o.toNat, by omega⟩
      obtain ⟨S, rfl⟩ : ∃ S : Nat, s = S := ⟨s.toNat, by omega⟩
      obtain ⟨C, rfl⟩ : ∃ C : Nat, c = C := ⟨c.toNat, by omega⟩
      exact encodes_yes w P O S C l h
    · exact encodes_no w p o s c l h
  refine main.mono ?_
  rintro e w' ⟨rfl, G⟩
  exact ⟨rfl, G.below (fun k e => e.elim) (Nat.le_refl _)⟩
end Go.Proofs.Ytgipkdkhgdaeiaa
