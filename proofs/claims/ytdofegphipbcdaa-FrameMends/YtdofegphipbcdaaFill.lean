/-
  The statements' own helpers fill and pick. Condition: the bytes can be read.
-/
import Derived.Test.YtdofegphipbcdaaKnow
namespace Go.Proofs.Ytdofegphipbcdaa
open Go.RowKit
set_option maxRecDepth 100000

set_option maxHeartbeats 4000000 in
theorem raw_any (w : World) (a : Option Addr) (cap : Nat) (l : List Nat) (hl : Bys l) (_hlen : l.length ≤ 9223372036854775807) (hr : Held w (.slice a l.length cap) l) (n : Nat) (hn : n ≤ 4096) :
    Calls Try.prog 24 #[.slice a l.length cap, .int .i64 (n : Int)] w fun e w' => ∃ g, e = .returned (.slice (some ⟨g, 0, none⟩) n n) ∧ w.heap.size ≤ g ∧ Arr w' g 5 (padTo l n n) ∧ Chg (fun _ => False) w w' := by
  have hmk := fun w : World => make_bytes w (n : Int) n rfl (by omega)
  have HR := hyd hr
  clear hr
  have hnI : (n : Int) ≤ 4096 := by omega
  go_enter Try.func24, Try.ntmps24
  go_wp2_with fail
  go_loopw [6] (fun t wr => ∃ i : Nat, i ≤ n ∧ t = .int .i64 i ∧ Arr wr w.heap.size 5 (padTo l n i) ∧ Chg (fun _ => False) w wr) (fun t _ => n - (intOf t).toNat)
  case atStart => exact ⟨0, by omega, rfl, by rw [padTo_zero]; exact Arr.new w 5 _, (Chg.refl _ _).alloc _⟩
  case round =>
    obtain ⟨i, hi, rfl, hA, hG⟩ := hrel
    by_cases hlt : i < n
    · have hlt' : (i : Int) < (n : Int) := by omega
      by_cases hlt2 : i < l.length
      · have hlt2' : (i : Int) < (l.length : Int) := by omega
        obtain ⟨c, o, rfl, hc⟩ : ∃ c o, a = some ⟨c, o, none⟩ ∧ wr.cell? ⟨c, o + i, none⟩ = some (.int .u8 (l.getD i 0 : Nat)) := by
          obtain ⟨a', c', hv, h | ⟨g, o, ha, hg, hc⟩⟩ := HR.out.chgF hG
          · omega
          · simp only [Value.slice.injEq] at hv
            exact ⟨g, o, hv.1.trans ha, hc i hlt2⟩
        have hkb : (0 : Int) ≤ (i : Int) := by omega
        have hf := hA.frozen i
        have hx := hA.cell i (by rw [padTo_length]; omega)
        have hd := hl.getD i
        have hA2 : Arr (wr.setCell ⟨w.heap.size, i, none⟩ (.int .u8 (l.getD i 0 : Nat))) w.heap.size 5 (padTo l n (i + 1)) := by
          rw [← padTo_set]; exact hA.store i _
        have HA2 := hyd hA2
        have hib : (i : Int) < 4096 := by omega
        clear hA2
        generalize l.getD i 0 = xx at *
        go_wp2
        exact ⟨⟨i + 1, by omega, by go_num, HA2.out, hG.setCell (Or.inr (Nat.le_refl _)) _ _⟩, by simp [intOf]; omega⟩
      · have hlt2' : ¬ (i : Int) < (l.length : Int) := by omega
        rw [padTo_end l n i (Or.inr (by omega))] at hA
        go_wp2
        go_ret
        exact ⟨_, rfl, Nat.le_refl _, hA, hG⟩
    · have hlt' : ¬ (i : Int) < (n : Int) := by omega
      rw [padTo_end l n i (Or.inl (by omega))] at hA
      go_wp2
      go_ret
      exact ⟨_, rfl, Nat.le_refl _, hA, hG⟩

theorem neg_rem {c : Int} (h : c < 0) (n : Int) : -((c + 1).tmod n) = (-(c + 1)) % n := by
  rw [← Int.neg_tmod, Int.tmod_eq_emod_of_nonneg (by omega)]
set_option maxHeartbeats 1000000 in
theorem pick64 (w : World) (c : Int) (h1 : -9223372036854775808 ≤ c) (h2 : c ≤ 9223372036854775807) :
    Calls Try.prog 25 #[.int .i64 c, .int .i64 64] w fun e w' => ∃ k : Nat, k < 64 ∧ e = .returned (.int .i64 (k : Int)) ∧ w' = w := by
  by_cases hc : c < 0
  · have HE := hyd (neg_rem hc 64)
    go_enter Try.func25, Try.ntmps25
    go_wp2
    go_ret
    refine ⟨((-(c + 1)) % 64).toNat, by omega, ?_, rfl⟩
    have e : ((((-(c + 1)) % 64).toNat : Nat) : Int) = -((c + 1).tmod 64) := by rw [HE.out]; omega
    rw [e]; rfl
  · go_enter Try.func25, Try.ntmps25
    go_wp2
    go_ret
    refine ⟨(c % 64).toNat, by omega, ?_, rfl⟩
    have e : (((c % 64).toNat : Nat) : Int) = c % 64 := by omega
    rw [e]; rfl
set_option maxHeartbeats 1000000 in
theorem pick256 (w : World) (c : Int) (h1 : -9223372036854775808 ≤ c) (h2 : c ≤ 9223372036854775807) :
    Calls Try.prog 25 #[.int .i64 c, .int .i64 256] w fun e w' => ∃ k : Nat, k < 256 ∧ e = .returned (.int .i64 (k : Int)) ∧ w' = w := by
  by_cases hc : c < 0
  · have HE := hyd (neg_rem hc 256)
    go_enter Try.func25, Try.ntmps25
    go_wp2
    go_ret
    refine ⟨((-(c + 1)) % 256).toNat, by omega, ?_, rfl⟩
    have e : ((((-(c + 1)) % 256).toNat : Nat) : Int) = -((c + 1).tmod 256) := by rw [HE.out]; omega
    rw [e]; rfl
  · go_enter Try.func25, Try.ntmps25
    go_wp2
    go_ret
    refine ⟨(c % 256).toNat, by omega, ?_, rfl⟩
    have e : (((c % 256).toNat : Nat) : Int) = c % 256 := by omega
    rw [e]; rfl

/-- A slice of turns: their places, and by what. -/
def IsTurns (w : World) (a : Option Addr) (len : Nat) (T : Nat → Int × Nat) : Prop :=
  (∀ i, i < len → -9223372036854775808 ≤ (T i).1 ∧ (T i).1 ≤ 9223372036854775807 ∧ (T i).2 < 256) ∧
  (len = 0 ∨ ∃ g o, a = some ⟨g, o, none⟩ ∧ g < w.heap.size ∧ ∀ i, i < len → w.cell? ⟨g, o + i * 2, none⟩ = some (.int .i64 (T i).1) ∧ w.cell? ⟨g, o + i * 2 + 1, none⟩ = some (.int .u8 ((T i).2 : Nat)))
theorem IsTurns.chg {w w' : World} {a : Option Addr} {len : Nat} {T : Nat → Int × Nat} (h : IsTurns w a len T) (hc : Chg (fun _ => False) w w') : IsTurns w' a len T := by
  refine ⟨h.1, ?_⟩
  rcases h.2 with h | ⟨g, o, ha, hg, hx⟩
  · exact Or.inl h
  · exact Or.inr ⟨g, o, ha, Nat.lt_of_lt_of_le hg hc.size, fun i hi => ⟨(World.cell?_of_block (w := w) (a := ⟨g, o + i * 2, none⟩) (hc.block g hg (fun e => e))).trans (hx i hi).1,
      (World.cell?_of_block (w := w) (a := ⟨g, o + i * 2 + 1, none⟩) (hc.block g hg (fun e => e))).trans (hx i hi).2⟩⟩
end Go.Proofs.Ytdofegphipbcdaa
