/-
  The rows of the document's examples hold (patinalaw05.shown answers true). No condition.
-/
import Derived.Test.YtfjgnplplafniaaShow
namespace Go.Proofs.Ytfjgnplplafniaa
open Go.RowKit
set_option maxRecDepth 100000
theorem slice_ne {q g o n c : Nat} (h : q ≠ g) : (Value.slice (some ⟨q, o, none⟩) n c).ownBlock ≠ some g := fun e => h (Option.some.inj e)
set_option maxHeartbeats 4000000 in
theorem shown_any (w : World) : Calls Try.prog 5 #[] w fun e w' => e = .returned (.bool true) ∧ Chg (fun _ => False) w w' := by
  have q1 := eql_nil_nil
  have q2 := eql_e9_e9
  go_enter Try.func5, Try.ntmps5
  go_wp2_with fail
  refine (new_any w).mono ?_
  rintro e w1 ⟨rfl, C1, G1⟩
  generalize hg : w.heap.size = g at *
  have hgs := Nat.le_of_eq hg
  clear hg
  go_wp2_with fail
  refine (read_yes g newS newS_ok 0 (by omega) _ C1 rfl).mono ?_
  rintro e w2 ⟨rfl, A2, C2, G2⟩
  have hp := A2.cell 0 (by rw [pgTo_length newS_ok]; omega)
  rw [sh_p] at hp
  have hb1 := C1.lt
  have G2' := G1.fresh G2 hgs
  generalize hp1 : w1.heap.size = p at *
  have hpg : p ≠ g := by omega
  have hps := A2.lt
  clear hp1 C1 G1 G2 A2
  go_wp2_with fail
  refine (some_any 7 _).mono ?_
  rintro e w3 ⟨rfl, A3, G3⟩
  have C3 := C2.chg G3 (fun f => f)
  have hp3 := (World.cell?_of_block (a := ⟨p, 0, none⟩) (G3.block p hps (fun f => f))).trans hp
  have hps3 := Nat.lt_of_lt_of_le hps G3.size
  have G3' : Chg (fun _ => False) w w3 := G2'.trans G3
  have hv3 : Held w3 (.slice (some ⟨w2.heap.size, 0, none⟩) 64 64) (List.replicate 64 7) := A3.heldFull 64 64 rfl
  have hne3 : (Value.slice (some ⟨w2.heap.size, 0, none⟩) 64 64).ownBlock ≠ some g := slice_ne (by have := C2.lt; omega)
  generalize w2.heap.size = u at *
  clear hp hps G2' G3 C2 A3
  go_wp2_with fail
  refine (write_any g sh1 sh1_ok 0 3 (List.replicate 64 7) _ _ hv3 hne3 C3).mono ?_
  rintro e w4 ⟨rfl, C4, G4⟩
  rw [sh2_code]
  have hp4 := (World.cell?_of_block (a := ⟨p, 0, none⟩) (G4.block p hps3 hpg)).trans hp3
  have hps4 := Nat.lt_of_lt_of_le hps3 G4.size
  have G4' := G3'.fresh G4 hgs
  clear hp3 hps3 G3' G4 C3 hv3 hne3
  have C4' : ChipAt w4 g sh2 := C4
  clear C4
  simp only [errV]
  go_wp2_with fail
  refine (flip_any g sh2 sh2_ok 0 1536 _ C4').mono ?_
  rintro e w5 ⟨rfl, C5, G5⟩
  rw [sh3_code]
  have hp5 := (World.cell?_of_block (a := ⟨p, 0, none⟩) (G5.block p hps4 hpg)).trans hp4
  have hps5 := Nat.lt_of_lt_of_le hps4 G5.size
  have G5' := G4'.fresh G5 hgs
  clear hp4 hps4 G4' G5 C4'
  have C5' : ChipAt w5 g sh3 := C5
  clear C5
  simp only [errV]
  go_wp2_with fail
  refine (read_yes g sh3 sh3_ok 0 (by omega) _ C5' sh3_on).mono ?_
  rintro e w6 ⟨rfl, A6, C6, G6⟩
  have hq6 := A6.cell 192 (by rw [pgTo_length sh3_ok]; omega)
  rw [sh_q] at hq6
  have hp6 := (World.cell?_of_block (a := ⟨p, 0, none⟩) (G6.block p hps5 hpg)).trans hp5
  have hps6 := Nat.lt_of_lt_of_le hps5 G6.size
  have G6' := G5'.fresh G6 hgs
  have hgl := C5'.lt
  generalize hx : w5.heap.size = x at *
  have hxg : x ≠ g := by omega
  have hxs := A6.lt
  clear hp5 hps5 G5' G6 C5' A6 hx hgl
  have C6' : ChipAt w6 g sh4 := C6
  clear C6
  go_wp2_with fail
  refine (damage_yes g sh4 sh4_ok 0 3 (by omega) (by omega) _ C6').mono ?_
  rintro e w7 ⟨rfl, G7⟩
  rw [sh_d, sh_w]
  have C7 := C6'.chg G7 (fun f => f)
  have hp7 := (World.cell?_of_block (a := ⟨p, 0, none⟩) (G7.block p hps6 (fun f => f))).trans hp6
  have hq7 := (World.cell?_of_block (a := ⟨x, 192, none⟩) (G7.block x hxs (fun f => f))).trans hq6
  have G7' : Chg (fun _ => False) w w7 := G6'.trans G7
  clear hp6 hps6 hq6 hxs G6' C6' G7
  go_wp2_with fail
  refine (some_any 7 _).mono ?_
  rintro e w8 ⟨rfl, A8, G8⟩
  have C8 := C7.chg G8 (fun f => f)
  have G8' : Chg (fun _ => False) w w8 := G7'.trans G8
  have hv8 : Held w8 (.slice (some ⟨w7.heap.size, 0, none⟩) 64 64) (List.replicate 64 7) := A8.heldFull 64 64 rfl
  have hne8 : (Value.slice (some ⟨w7.heap.size, 0, none⟩) 64 64).ownBlock ≠ some g := slice_ne (by have := C7.lt; omega)
  generalize w7.heap.size = u8 at *
  clear G7' G8 C7 A8 hp7 hq7
  go_wp2_with fail
  refine (write_any g sh4 sh4_ok 0 3 (List.replicate 64 7) _ _ hv8 hne8 C8).mono ?_
  rintro e w9 ⟨rfl, C9, G9⟩
  rw [sh5_code]
  have G9' := G8'.fresh G9 hgs
  clear G8' G9 C8 C9 hv8 hne8
  simp only [errV]
  go_wp2
  go_ret
  exact ⟨rfl, G9'⟩
end Go.Proofs.Ytfjgnplplafniaa
