/-
  (*Two).step: its frame. Conditions: both chips stand alike; the operation's bytes came in.
-/
import Derived.Test.YtfjgnplplafniaaKnows
import Derived.Deep.RegionHeld3
namespace Go.Proofs.Ytfjgnplplafniaa
open Go.RowKit
set_option maxRecDepth 100000

/-- Which of n things. -/
def pkV (c : Int) : Nat := if c < 0 then ((-(c + 1)) % 11).toNat else (c % 11).toNat
theorem pkV_lt (c : Int) : pkV c < 11 := by unfold pkV; split <;> omega
theorem pick_fn (c : Int) (h1 : -9223372036854775808 ≤ c) (h2 : c ≤ 9223372036854775807) (w : World) :
    Calls Try.prog 12 #[.int .i64 c, .int .i64 11] w fun e w' => e = .returned (.int .i64 (pkV c : Nat)) ∧ w' = w := by
  unfold pkV
  by_cases hc : c < 0
  · have HE := hyd (neg_rem11 hc)
    rw [if_pos hc]
    go_enter Try.func12, Try.ntmps12
    go_wp2
    go_ret
    have e : ((((-(c + 1)) % 11).toNat : Nat) : Int) = -((c + 1).tmod 11) := by rw [HE.out]; omega
    rw [e]; exact ⟨rfl, rfl⟩
  · rw [if_neg hc]
    go_enter Try.func12, Try.ntmps12
    go_wp2
    go_ret
    rw [show max (c % 11) 0 = c % 11 from by omega]
    exact ⟨rfl, rfl⟩
theorem Pst.drew {B : Prop} {w0 w : World} {t : Nat} {σ : Sta} (h : Pst B w0 w t σ) : Pst B w0 w.drew t σ :=
  ⟨h.two, h.cc, h.cd, h.oc, h.ox, h.od, h.rc.chg ((Chg.refl (fun _ => False) w).drew) (fun _ _ f => f), h.rd.chg ((Chg.refl (fun _ => False) w).drew) (fun _ _ f => f), h.told, h.want, h.tv, h.wv, h.tdis, h.len, h.kt, h.kc, h.kd, h.kvt, h.kvw, h.kVt, h.kVw, h.new, h.old, h.chg.drew⟩
theorem box_row (w : World) (a b c d : Value) : Row (w.alloc (.cells #[a, b, c, d] 35)) w.heap.size 35 4 (fun i => ([a, b, c, d] : List Value).getD i undef) :=
  (blk_new w _ 35 4 rfl).row.ext fun i hi => by rcases (by omega : i = 0 ∨ i = 1 ∨ i = 2 ∨ i = 3) with e | e | e | e <;> subst e <;> rfl
end Go.Proofs.Ytfjgnplplafniaa
