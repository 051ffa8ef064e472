/-
  The tables of a Field are made: what (*Field).fill does to the Field's block. Condition: the block holds a Field whose tables are not made.
-/
import Derived.Test.YtfihhamjlcnpnaaCells
import Derived.Test.YtfihhamjlcnpnaaRows
import Derived.WalkLawsBesides
import Derived.WalkSpells
import Derived.Outline
namespace Go.Proofs.Ytfihhamjlcnpnaa
set_option maxRecDepth 100000
open Go.RowKit

/-- The power ahead of round k. -/
def pw (k : Nat) : Nat := if k < 255 then ex k else 1
theorem pw_succ (k : Nat) (h : k < 255) : pw (k + 1) = xt (ex k) := by
  unfold pw
  by_cases e : k + 1 < 255
  · rw [if_pos e, ex_succ k (by omega)]
  · have : k = 254 := by omega
    subst this
    rw [if_neg e, ex_last]
theorem pw_hi (k : Nat) (h : k < 255) (hh : 256 ≤ (ex k : Int) * 2) : Value.int IntKind.i64 (bits BinOp.xor IntKind.i64 (↑(ex k) * 2) 285) = Value.int IntKind.i64 ↑(pw (k + 1)) := by
  have hx := ex_lt k
  have e : bits BinOp.xor IntKind.i64 ((ex k : Int) * 2) 285 = ((ex k * 2 ^^^ 285 : Nat) : Int) := i64_xor_nat (ex k * 2) 285 (by omega) (by omega)
  rw [e, pw_succ k h]
  unfold xt
  rw [if_pos (by omega)]
theorem pw_lo (k : Nat) (h : k < 255) (hh : (ex k : Int) * 2 < 256) : Value.int IntKind.i64 (↑(ex k) * 2) = Value.int IntKind.i64 ↑(pw (k + 1)) := by
  rw [pw_succ k h]
  unfold xt
  rw [if_neg (by omega)]
  congr 1
theorem Fat.round {wr : World} {b k : Nat} (hf : Fat wr b 0 1 k) (h : k < 255) :
    Fat ((wr.setCell { block := b, off := 3 + k } (Value.int IntKind.u8 ↑(ex k))).setCell { block := b, off := 258 + ex k } (Value.int IntKind.i64 ↑k)) b 0 1 (k + 1) := by
  have hx := ex_lt k
  refine Fat.store2 hf (3 + k) (258 + ex k) _ _ ?_ ?_ (by omega) (by omega) (by omega) (fun j hj h1 h2 => fcell_round 0 1 k h j hj h1 h2)
  · rw [fcell_pow _ _ _ _ h, if_pos (by omega)]
  · rw [fcell_log, if_pos ⟨ex_ne k h, by rw [lg_ex k h]; omega⟩, lg_ex k h]

set_option maxRecDepth 100000 in
set_option maxHeartbeats 1000000 in
/-- (*Field).fill. -/
theorem fill_any (b : Nat) (w : World) (h : Fat w b 0 1 0) :
    Calls Try.prog 48 #[.pointer (some ⟨b, 0, none⟩)] w fun e w' => e = .returned (.tuple #[]) ∧ Fat w' b 0 1 255 ∧ But b w w' := by
  go_enter Try.func48, Try.ntmps48
  go_wp2
  go_loopw [2, 4] (fun p i wr => ∃ k : Nat, k ≤ 255 ∧ i = .int .i64 k ∧ p = .int .i64 (pw k) ∧ Fat wr b 0 1 k ∧ But b w wr) (fun _ i _ => 255 - (intOf i).toNat)
  case atStart => exact ⟨0, by omega, rfl, by simp [pw, ex_zero], h, But.refl _ _⟩
  case round =>
    obtain ⟨k, hk, rfl, rfl, hf, hb⟩ := hrel
    by_cases hlt : k < 255
    · have hp : pw k = ex k := by simp [pw, hlt]
      rw [hp]
      have hx := ex_lt k
      have c1 := Fat.cell hf (3 + k) (by omega)
      have c2 := Fat.cell hf (258 + ex k) (by omega)
      have z1 := Fat.frozen hf (3 + k)
      have z2 := Fat.frozen hf (258 + ex k)
      generalize fcell 0 1 k (3 + k) = v1 at c1
      generalize fcell 0 1 k (258 + ex k) = v2 at c2
      clear hp
      go_wp2
      · exact ⟨⟨k + 1, by omega, by go_num, pw_hi k hlt ‹_›, Fat.round hf hlt, (hb.setCell _ _).setCell _ _⟩, by simp [intOf]; omega⟩
      · exact ⟨⟨k + 1, by omega, by go_num, pw_lo k hlt ‹_›, Fat.round hf hlt, (hb.setCell _ _).setCell _ _⟩, by simp [intOf]; omega⟩
    · have e : k = 255 := by omega
      subst e
      go_wp2
      go_end0
      exact ⟨rfl, hf, hb⟩
end Go.Proofs.Ytfihhamjlcnpnaa
