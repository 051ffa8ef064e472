/-
  The law ClaimAheads, walked. No condition.
-/
import Derived.Test.YtjkpidhpjleebaaUps
namespace Go.Proofs.Ytjkpidhpjleebaa
set_option maxRecDepth 100000
open Go.RowKit Go.Sort

set_option maxHeartbeats 4000000 in
theorem aheads_walk (a b : Int) (w : World) : Calls Try.prog 3 #[.int .i64 a, .int .i64 b] w fun e w' => e = .returned (.bool true) ∧ Below w.heap.size w w' := by
  generalize hr : ahd a b = r
  have c9 := fun W => ahead_any a b W
  have c10 := fun W => rahead_any a b W
  rw [hr] at c9 c10
  clear hr
  go_enter Try.func3, Try.ntmps3
  go_wp2_with (first | (go_at_call 8; refine (up_any _).mono ?_; rintro e w2 ⟨rfl, G2⟩; have HG2 := hyd G2; clear G2) | (go_at_call 9; refine (c9 _).mono ?_; rintro e w' ⟨rfl, rfl⟩) | (go_at_call 10; refine (c10 _).mono ?_; rintro e w' ⟨rfl, rfl⟩))
  go_ret
  exact ⟨by simp, HG2.out.below (fun _ h => h.elim) (Nat.le_refl _)⟩
end Go.Proofs.Ytjkpidhpjleebaa
