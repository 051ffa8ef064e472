/-
  WireAparts, walked: whatever the two texts, Apart answers as the document says. Condition: the bytes came in as slices do.
-/
import Derived.Test.YtjnmfgaaafnpaaaGetsWalk
namespace Go.Proofs.Ytjnmfgaaafnpaaa
open Go.RowKit
set_option maxRecDepth 100000

set_option maxHeartbeats 4000000 in
theorem aparts_walk (a0 : Option Addr) (len0 cap0 : Nat) (z0 : List Int) (a1 : Option Addr) (len1 cap1 : Nat) (z1 : List Int) (w : World) (w0 : IsRow .u8 w a0 len0 cap0 z0) (w1 : IsRow .u8 w a1 len1 cap1 z1) (r0 : cap0 * 1 ≤ 140737488351232) (_r1 : cap1 * 1 ≤ 140737488351232) :
    Calls Try.prog 6 #[.slice a0 len0 cap0, .slice a1 len1 cap1] w fun e w' => e = .returned (.bool true) ∧ Below w.heap.size w w' := by
  obtain ⟨l, hll, hl, hc, -, hH⟩ := row_in w0
  obtain ⟨m, hlm, hm, hc1, -, hM⟩ := row_in w1
  clear w0 w1
  by_cases hne : len0 = len1
  · subst hne
    have h63 : l.length ≤ 9223372036854775807 := by omega
    have h63' : m.length ≤ 9223372036854775807 := by omega
    have hml : m.length = l.length := by omega
    have hne' : ((len0 : Int) != (len0 : Int)) = false := by simp
    have HH := hyd hH
    have HM := hyd hM
    have c1 := fun (w' : World) (G : Chg (fun _ => False) w w') => wapart_any w' a0 a1 len0 len0 cap0 cap1 l m hll.symm hll.symm hml hl hm h63 (HH.out.chgF G) (HM.out.chgF G)
    have c2 := fun (w' : World) (G : Chg (fun _ => False) w w') => wapart_any w' a1 a0 len0 len0 cap1 cap0 m l (by omega) (by omega) (by omega) hm hl h63' (HM.out.chgF G) (HH.out.chgF G)
    have c3 := fun (w' : World) (G : Chg (fun _ => False) w w') => rapart_any w' a0 a1 len0 len0 cap0 cap1 l m hll.symm hll.symm hml hl hm h63 (HH.out.chgF G) (HM.out.chgF G)
    rw [dis_comm m l, hml] at c2
    have hdl := dis_le l m l.length
    generalize dis l m l.length = d at *
    clear hH hM hml hlm hll
    have q1 := eql_nil_nil
    have C1 := hyd c1
    have C2 := hyd c2
    have C3 := hyd c3
    clear c1 c2 c3
    go_enter Try.func6, Try.ntmps6
    go_wp2_with fail
    refine (shown_any w).mono ?_
    rintro e w1 ⟨rfl, G1⟩
    go_wp2_with fail
    refine (C1.out w1 G1).mono ?_
    rintro e w2 ⟨rfl, G2⟩
    go_wp2_with fail
    refine (C2.out w2 (G1.trans G2)).mono ?_
    rintro e w3 ⟨rfl, G3⟩
    go_wp2_with fail
    refine (C3.out w3 ((G1.trans G2).trans G3)).mono ?_
    rintro e w4 ⟨rfl, G4⟩
    go_wp2
    go_ret
    exact ⟨rfl, (((G1.trans G2).trans G3).trans G4).below (fun k e => e.elim) (Nat.le_refl _)⟩
  · have hne' : ((len0 : Int) != (len1 : Int)) = true := by simp only [bne_iff_ne, ne_eq]; omega
    have hcall := fun w => wapart_arg w a0 a1 len0 len1 cap0 cap1 hne
    have q1 := eql_arg_arg
    clear hne hll hlm hH hM
    go_enter Try.func6, Try.ntmps6
    go_wp2_with fail
    refine (shown_any w).mono ?_
    rintro e w1 ⟨rfl, G1⟩
    go_wp2_with fail
    refine (hcall w1).mono ?_
    rintro e w2 ⟨rfl, rfl⟩
    clear hcall
    go_wp2
    go_ret
    exact ⟨rfl, G1.below (fun k e => e.elim) (Nat.le_refl _)⟩
end Go.Proofs.Ytjnmfgaaafnpaaa
