/-
  The rows of the document's examples hold (patinalaw06.shown answers true). No condition.
-/
import Derived.Test.YtdofegphipbcdaaLay
namespace Go.Proofs.Ytdofegphipbcdaa
open Go.RowKit Go.Shelf
set_option maxRecDepth 100000

def z50 : List Nat := List.replicate 50 0
def zPage : List Nat := List.replicate 256 0
/-- The page of the example. -/
def pg1 : List Nat := zPage.set 70 1
theorem z50_bys : Bys z50 := bys_of (by decide +kernel)
theorem z174_bys : Bys z174 := bys_of (by decide +kernel)
theorem pg1_bys : Bys pg1 := bys_of (by decide +kernel)
theorem z50_length : z50.length = 50 := by simp [z50]
theorem z174_length : z174.length = 174 := by simp [z174]
theorem pg1_length : pg1.length = 256 := by simp [pg1, zPage]
theorem enc0 : encL z58 = z64 := by decide +kernel
theorem cw0 : Cw z64 := by
  rw [← enc0]
  exact encL_cw z58_length (bys_of (by decide +kernel))
theorem z58z : z64.take 58 = z58 := by decide +kernel
theorem ds1 : ∀ i, i < 4 → ds (part 64 pg1 i) z64 = (if i = 1 then 1 else 0) := by decide +kernel
theorem good1 {i : Nat} {r : List Nat × Nat} (hi : i < 4) (h : IsDec (part 64 pg1 i) (some r)) : r = (z58, if i = 1 then 1 else 0) := by
  have hd := ds1 i hi
  have := h.of cw0 (by rw [hd]; split <;> omega)
  rw [hd, z58z] at this
  exact Option.some.inj this
theorem none1 {i : Nat} (hi : i < 4) (h : IsDec (part 64 pg1 i) none) : False := by
  have hd := ds1 i hi
  have := h.of cw0 (by rw [hd]; split <;> omega)
  cases this
theorem zzz : z58 ++ z58 ++ z58 = z174 := by decide +kernel
theorem zmk : z58.drop 50 ≠ mk := by decide +kernel
theorem make174 (w : World) : (Instr.makeSlice 22 (.int .i64 174) (.int .i64 174)).run Try.prog w = .ok (.slice (some ⟨w.heap.size, 0, none⟩) 174 174) (w.alloc (.cells (bcells z174) 5)) := make_bytes w 174 174 rfl (by omega)
theorem make173 (w : World) : (Instr.makeSlice 22 (.int .i64 173) (.int .i64 173)).run Try.prog w = .ok (.slice (some ⟨w.heap.size, 0, none⟩) 173 173) (w.alloc (.cells (bcells (z174.drop 1)) 5)) := make_bytes w 173 173 rfl (by omega)
theorem make50 (w : World) : (Instr.makeSlice 22 (.int .i64 50) (.int .i64 50)).run Try.prog w = .ok (.slice (some ⟨w.heap.size, 0, none⟩) 50 50) (w.alloc (.cells (bcells z50) 5)) := make_bytes w 50 50 rfl (by omega)
theorem mkPage (w : World) : (Instr.makeSlice 22 (.int .i64 256) (.int .i64 256)).run Try.prog w = .ok (.slice (some ⟨w.heap.size, 0, none⟩) 256 256) (w.alloc (.cells (bcells zPage) 5)) := make_bytes w 256 256 rfl (by omega)

set_option maxHeartbeats 4000000 in
theorem shown_any (w : World) : Calls Try.prog 7 #[] w fun e w' => e = .returned (.bool true) ∧ Chg (fun _ => False) w w' := by
  have hm1 := make174
  have hm2 := make50
  have hm3 := make173
  have hm4 := mkPage
  go_enter Try.func7, Try.ntmps7
  go_wp2_with fail
  refine (frame_new w).mono ?_
  rintro e w1 ⟨p, q, b, rfl, hp, hq, hb, F1, G1⟩
  have hs1 := G1.size
  have hbs := F1.1.1.lt
  have hcall : ∀ (X : World) (c1 c2 : Nat), Frm X p q b → Chg (fun _ => False) w X → Arr X c1 5 z174 → Arr X c2 5 z50 → c1 ≠ b → Calls Try.prog 10 #[.pointer (some ⟨p, 0, none⟩), .slice (some ⟨c1, 0, none⟩) 174 174, .slice (some ⟨c2, 0, none⟩) 50 50] X
      fun e w' => ∃ r k, e = .returned (.tuple #[.slice (some ⟨r, 0, none⟩) 4 k, .nilIface]) ∧ Frm w' p q b ∧ Chg (fun _ => False) w w' := fun X c1 c2 hF hG h1 h2 hb1 =>
    (lay_any p q b X hF c1 0 174 z174 z174_length z174_bys hb1 h1.lt h1.at0 c2 0 50 z50 z50_length z50_bys h2.lt h2.at0 _ rfl).mono (fun e w' ⟨⟨r, k, gs, he, _⟩, hF', hB'⟩ => ⟨r, k, he, hF', hB'.chgF hG hb⟩)
  have HC := hyd hcall
  clear hcall
  have A1 : Arr ((w1.drew.alloc (.cells (bcells z174) 5)).alloc (.cells (bcells z50) 5)) w1.heap.size 5 z174 := (Arr.new w1.drew 5 z174).alloc _
  have A2 : Arr ((w1.drew.alloc (.cells (bcells z174) 5)).alloc (.cells (bcells z50) 5)) (w1.heap.size + 1) 5 z50 := by
    have := Arr.new (w1.drew.alloc (.cells (bcells z174) 5)) 5 z50
    simpa using this
  have A3 : Arr ((w1.drew.alloc (.cells (bcells z50) 5)).alloc (.cells (bcells z174) 5)) w1.heap.size 5 z50 := (Arr.new w1.drew 5 z50).alloc _
  have A4 : Arr ((w1.drew.alloc (.cells (bcells z50) 5)).alloc (.cells (bcells z174) 5)) (w1.heap.size + 1) 5 z174 := by
    have := Arr.new (w1.drew.alloc (.cells (bcells z50) 5)) 5 z174
    simpa using this
  have K1 := (F1.chg ((Chg.refl (fun _ => False) w1).drew.alloc (.cells (bcells z174) 5))).chg ((Chg.refl (fun _ => False) _).alloc (.cells (bcells z50) 5))
  have K2 := (F1.chg ((Chg.refl (fun _ => False) w1).drew.alloc (.cells (bcells z50) 5))).chg ((Chg.refl (fun _ => False) _).alloc (.cells (bcells z174) 5))
  have L1 := (G1.drew.alloc (.cells (bcells z174) 5)).alloc (.cells (bcells z50) 5)
  have L2 := (G1.drew.alloc (.cells (bcells z50) 5)).alloc (.cells (bcells z174) 5)
  have HA1 := hyd A1
  have HA2 := hyd A2
  have HA3 := hyd A3
  have HA4 := hyd A4
  have HK1 := hyd K1
  have HK2 := hyd K2
  have HL1 := hyd L1
  have HL2 := hyd L2
  clear A1 A2 A3 A4 K1 K2 L1 L2
  go_wp2_with fail
  go_region_with (go_at_call 10; refine (HC.out _ _ _ ?_ ?_ ?_ ?_ ?_).mono ?_; (first | exact HK1.out | exact HK2.out); (first | exact HL1.out | exact HL2.out); (first | exact HA1.out | exact HA4.out); (first | exact HA2.out | exact HA3.out); (omega); rintro e w2 ⟨r, k, rfl, F2, G2⟩)
  all_goals
    clear HA1 HA2 HA3 HA4 HK1 HK2 HL1 HL2 HC F1 G1
    go_wp2_with fail
    go_region_with (go_at_call 10; refine (lay_data p _ _ 173 173 (by omega) _).mono ?_; rintro e w3 ⟨rfl, G3⟩)
  all_goals
    have H3 : Chg (fun _ => False) w2 w3 := (((Chg.refl _ w2).drew.alloc _).alloc _).trans G3
    have F3 := F2.chg H3
    have G4 := G2.trans H3
    have hs2 := H3.size
    have hbs2 := F2.1.1.lt
    clear G3 H3 F2 G2
    have A2 : Arr (w3.alloc (.cells (bcells zPage) 5)) w3.heap.size 5 zPage := Arr.new _ _ _
    have c70 := A2.cell 70 (by rw [zPage, List.length_replicate]; omega)
    have f70 := A2.frozen 70
    have q1 := neq_nil_nil
    clear A2
    go_wp2_with fail
    have ew : (bcells zPage).setIfInBounds 70 (.int .u8 1) = bcells pg1 := bcells_set zPage 70 1
    rw [ew]
    clear ew c70 f70
    have A3 : Arr (w3.alloc (.cells (bcells pg1) 5)) w3.heap.size 5 pg1 := Arr.new _ _ _
    have F4 := F3.chg ((Chg.refl (fun _ => False) w3).alloc (.cells (bcells pg1) 5))
    have G5 := G4.alloc (.cells (bcells pg1) 5)
    have hbn : w3.heap.size ≠ b := by omega
    generalize w3.alloc (.cells (bcells pg1) 5) = w4 at *
    generalize w3.heap.size = gp at *
    refine (data_any p q b w4 F4 gp 0 256 pg1 pg1_length pg1_bys hbn A3.lt (by omega) (fun i hi => A3.at0 i (by rw [pg1_length]; exact hi))).mono ?_
    rintro e w5 ⟨hD, F5, B5⟩
    have A5 : Arr w5 gp 5 pg1 := A3.but B5 hbn
    have G6 := B5.chgF G5 hb
    have hs5 := B5.size
    have hb4 := F4.1.1.lt
    rcases hD with ⟨i, hi, hN, -⟩ | ⟨r0, r1, r2, a, cap, g0, g1, g2, rfl, O5⟩
    · exact (none1 (by omega) hN).elim
    have e0 := good1 (by omega) g0.1
    have e1 := good1 (by omega) g1.1
    have e2 := good1 (by omega) g2.1
    subst e0 e1 e2
    clear g0 g1 g2 A3 F4 G5 B5 F3 G4
    simp only [zzz] at O5
    have hob : ∀ k, (Value.slice a 174 cap).ownBlock = some k → k ≠ b := fun k hk => by have := (O5.block hk).1; omega
    have HO5 := hyd O5.held
    have HB := hyd hob
    clear hob
    have HF5 := hyd F5
    clear O5 F5
    go_wp2_with fail
    refine (body_any p q b w5 HF5.out gp 0 256 pg1 pg1_length pg1_bys hbn A5.lt (by omega) (fun i hi => A5.at0 i (by rw [pg1_length]; exact hi))).mono ?_
    rintro e w6 ⟨hD, -, B6⟩
    have G7 := B6.chgF G6 hb
    have hO6 : Held w6 (.slice a 174 cap) z174 := HO5.out.chg B6.chg (fun k hk he => HB.out k he)
    rcases hD with ⟨hN, -⟩ | ⟨r3, g3, -, rfl⟩ | ⟨r3, g, g3, hm, -⟩
    · exact (none1 (by omega) hN).elim
    · have HH := hyd hO6
      clear hO6 HO5 HF5 A5 G6 B6 g3 HB
      go_wp2_with fail
      refine (same_n _ _ _ 174 174 cap 174 z174 z174 z174_length.symm z174_length.symm (HH.out.chgF ((Chg.refl _ w6).alloc _)) ((Arr.new w6 5 z174).held 0 174 174 z174 z174_length.symm (by omega) (fun i _ => by rw [Nat.zero_add])) (by rw [z174_length]; omega) (by rw [z174_length]; omega)).mono ?_
      rintro e w8 ⟨rfl, H8⟩
      have hz1 : decide (z174 = z174) = true := by simp
      have q2 := eql_nil_nil
      have q3 := eql_arg_arg
      have q4 := eql_mark_mark
      have G9 := (G7.alloc _).trans H8
      clear G7 H8 HH
      go_wp2
      go_ret
      exact ⟨rfl, G9⟩
    · have e3 := good1 (by omega) g3.1
      subst e3
      exact (zmk hm).elim
end Go.Proofs.Ytdofegphipbcdaa
