/-
  The document's answer for the syndromes: patinaref02.Syndromes. Condition: the bytes can be read.
-/
import Derived.Test.YtdofegphipbcdaaKnow
import Derived.Test.YtdofegphipbcdaaRefTimes
namespace Go.Proofs.Ytdofegphipbcdaa
open Go.RowKit
set_option maxRecDepth 100000

/-- The first j syndromes. -/
def syP (l : List Nat) (j : Nat) : List Nat := (List.range j).map (sy l)
theorem syP_succ (l : List Nat) (j : Nat) : syP l (j + 1) = syP l j ++ [sy l j] := by simp [syP, List.range_succ]
theorem syP_length (l : List Nat) (j : Nat) : (syP l j).length = j := by simp [syP]
theorem syP_all (l : List Nat) : syP l 6 = syL l 6 := by
  apply List.map_congr_left
  intro i hi
  rw [if_pos (List.mem_range.1 hi)]
set_option maxHeartbeats 4000000 in
theorem rsyn_any (w : World) (a : Option Addr) (cap : Nat) (l : List Nat) (hl : Bys l) (hlen : l.length ≤ 9223372036854775807) (hr : Held w (.slice a l.length cap) l) :
    Calls Try.prog 50 #[.slice a l.length cap] w fun e w' => ∃ v, e = .returned v ∧ Own w' w.heap.size 5 v (syL l 6) ∧ Chg (fun _ => False) w w' := by
  have hi5 := info5
  have HR := hyd hr
  clear hr
  go_enter Try.func50, Try.ntmps50
  go_wp2_with fail
  go_loopw [3, 4, 5] (fun v x t wr => ∃ j : Nat, j ≤ 6 ∧ t = .int .i64 j ∧ x = .int .u8 (ex j : Nat) ∧ Own wr w.heap.size 5 v (syP l j) ∧ Chg (fun _ => False) w wr) (fun _ _ t _ => 6 - (intOf t).toNat)
  case atStart => exact ⟨0, by omega, rfl, by rw [ex_zero]; rfl, Own.nil _ _ _, Chg.refl _ _⟩
  case round =>
    obtain ⟨j, hj, rfl, rfl, hO, hG⟩ := hrel
    by_cases hlt : j < 6
    · have hR := HR.out.chgF hG
      have hx := ex_lt j
      have HE : Hid (gm (ex j) 2 = ex (j + 1)) := hyd (ex_two j (by omega))
      have HS : Hid (syP l (j + 1) = syP l j ++ [ev (ex j) l]) := hyd (syP_succ l j)
      have hev := ev_lt (ex j) l hl
      generalize ex j = y at *
      have hsl := syP_length l j
      go_wp2_with (first | (go_at_call 62; refine (reval_any _ a cap l hl hlen y hx hR).mono ?_; rintro e w1 ⟨rfl, rfl⟩) | (at_builtin; refine wpList_append_bytes _ rfl _ _ 22 rfl w.heap.size 5 Try.underlying22 hi5 _ (syP l j) rfl ?h1 (some ⟨w1.heap.size, 0, none⟩) 1 1 [ev y l] rfl rfl (fun e => by cases e) ?h2 ?h3 ?h4 (w1.heap.size + 1) ?h5 ?_))
      case h1 => exact hO.keep (fun k hk _ => Below.heap_alloc _ _ _ hk)
      case h2 =>
        intro ad had k hk
        obtain rfl := Option.some.inj had
        obtain rfl : k = 0 := by omega
        have := (Arr.new w1 5 [ev y l]).cell 0 (by simp)
        exact this
      case h3 => rw [hsl]; omega
      case h4 => have := hG.size; simp; omega
      case h5 => simp
      intro v' w2 hO2 hg2 _
      have hG2 : Chg (fun _ => False) w w2 := (hG.alloc _).grown hg2 (fun k hk => Or.inr (hO.block hk).1)
      rw [← HS.out] at hO2
      clear hg2 hO hR hG
      go_wp2_with (first | (go_at_call 46; refine (rmul_nat _ y 2 hx (by omega)).mono ?_; rintro e w3 ⟨rfl, rfl⟩))
      exact ⟨⟨j + 1, by omega, by go_num, by rw [HE.out], hO2, hG2⟩, by simp [intOf]; omega⟩
    · have hO6 := hO
      rw [show j = 6 from by omega, syP_all] at hO6
      clear hO
      go_wp2
      go_ret
      exact ⟨_, rfl, hO6, hG⟩
end Go.Proofs.Ytdofegphipbcdaa
