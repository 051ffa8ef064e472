/-
  The document's example. No condition: lemmas.
-/
import Derived.Test.YtnldbeklcpcdcaaQueue
namespace Go.Proofs.Ytnldbeklcpcdcaa
set_option maxRecDepth 100000
open Go.RowKit

theorem build44 (w : World) : (Instr.build 44 #[]).run Try.prog w = .ok (.agg (ints (fun _ => 0) 13).toArray) w := by kernel_rfl
theorem QB.box (w : World) : QB (w.alloc (.cells #[.int .i64 0, .int .i64 0, .int .i64 0, .int .i64 0, .int .i64 0, .int .i64 0, .int .i64 0, .int .i64 0, .int .i64 0, .int .i64 0, .int .i64 0, .int .i64 0, .int .i64 0] 44)) w.heap.size [] := QB.new w
theorem up_any (w : World) : Calls Try.prog 6 #[] w fun e w' => e = .returned (.bool true) ∧ Chg (fun _ => False) w w' := by
  have q1 := eql_nil
  have q2 := neq_nil
  have hb := build44
  go_enter Try.func6, Try.ntmps6
  go_wp2_with fail
  refine (new_yes w 90 (by decide)).mono ?_
  rintro e w1 ⟨rfl, K1, G1⟩
  have HL1 := hyd K1.lt
  obtain ⟨p, HP⟩ : ∃ p, Hid (p = w.heap.size) := ⟨_, rfl⟩
  rw [← HP.out] at K1 HL1
  rw [← HP.out]
  have HK1 := hyd K1
  have HG1 := hyd G1
  clear K1 G1
  go_wp2_with fail
  refine (step_v w1 p 90 0 HK1.out (by decide) (by decide) 2 (by decide)).mono ?_
  rintro e w2 ⟨rfl, I2, K2, G2⟩
  have HS2 := hyd I2.lt
  obtain ⟨s, HS⟩ : ∃ s, Hid (s = w1.heap.size) := ⟨_, rfl⟩
  rw [← HS.out] at I2 HS2
  rw [← HS.out]
  have HI2 := hyd I2
  have HK2 := hyd K2
  have HG2 := hyd (HG1.out.trans' G2 (fun i hi e => by have := HP.out; omega))
  have HL2 := hyd K2.lt
  clear I2 K2 G2 HK1 HG1
  have HQ3 := hyd (QB.box w2)
  have G3 := (Chg.refl (fun _ => False) w2).alloc (.cells #[.int .i64 0, .int .i64 0, .int .i64 0, .int .i64 0, .int .i64 0, .int .i64 0, .int .i64 0, .int .i64 0, .int .i64 0, .int .i64 0, .int .i64 0, .int .i64 0, .int .i64 0] 44)
  have HI3 := hyd (HI2.out.chg G3 (fun f => f))
  have HK3 := hyd (HK2.out.chg G3 (fun f => f))
  have HG3 := hyd (HG2.out.trans G3)
  obtain ⟨q, HQ⟩ : ∃ q, Hid (q = w2.heap.size) := ⟨_, rfl⟩
  rw [← HQ.out] at HQ3
  clear G3 HI2 HK2 HG2
  go_wp2_with fail
  rw [← HQ.out]
  generalize w2.alloc (.cells #[.int .i64 0, .int .i64 0, .int .i64 0, .int .i64 0, .int .i64 0, .int .i64 0, .int .i64 0, .int .i64 0, .int .i64 0, .int .i64 0, .int .i64 0, .int .i64 0, .int .i64 0] 44) = w3 at *
  refine (add_v w3 q [] HQ3.out Okq.nil 3).mono ?_
  rintro e w4 ⟨rfl, Q4, G4⟩
  rw [show errV (adC 3) = .nilIface from rfl]
  replace Q4 : QB w4 q [3] := Q4
  have HQ4 := hyd Q4
  have HI4 := hyd (HI3.out.chg G4 (by have := HS2.out; have := HQ.out; omega))
  have HK4 := hyd (HK3.out.chg G4 (by have := HL2.out; have := HQ.out; omega))
  have HG4 := hyd (HG3.out.trans' G4 (fun i hi e => by have := HQ.out; have := HL1.out; have := HL2.out; have := HP.out; omega))
  clear Q4 G4 HQ3 HI3 HK3 HG3
  go_wp2_with fail
  refine (next_v w4 q [3] HQ4.out ⟨by decide, by decide⟩).mono ?_
  rintro e w5 ⟨rfl, -, G5⟩
  replace hI5 := HI4.out.chg G5 (by have := HS2.out; have := HQ.out; omega)
  have hK5 := HK4.out.chg G5 (by have := HL2.out; have := HQ.out; omega)
  have HG5 := hyd (HG4.out.trans' G5 (fun i hi e => by have := HQ.out; have := HL1.out; have := HL2.out; have := HP.out; omega))
  obtain ⟨c0, -⟩ := hI5.cell 0 (by omega)
  obtain ⟨c5, -⟩ := hI5.cell 5 (by omega)
  obtain ⟨c6, -⟩ := hI5.cell 6 (by omega)
  replace c0 : w5.cell? ⟨s, 0, none⟩ = some (.int .i64 90) := c0
  replace c5 : w5.cell? ⟨s, 5, none⟩ = some (.int .i64 95) := c5
  replace c6 : w5.cell? ⟨s, 6, none⟩ = some (.int .i64 0) := c6
  have hcu := cursor_any w5 p 2 1 hK5
  have hca := calls_any w5 p 2 1 hK5
  rw [show ([3] : List Int).headD 0 = 3 from rfl, show nxB [3] = true from rfl]
  clear hI5 hK5 G5 HQ4 HI4 HK4 HG4 hb
  go_wp2_with (first | (go_at_call 14; refine hcu.mono ?_; rintro e wx ⟨rfl, rfl⟩) | (go_at_call 15; refine hca.mono ?_; rintro e wx ⟨rfl, rfl⟩))
  go_ret
  exact ⟨rfl, HG5.out⟩
end Go.Proofs.Ytnldbeklcpcdcaa
