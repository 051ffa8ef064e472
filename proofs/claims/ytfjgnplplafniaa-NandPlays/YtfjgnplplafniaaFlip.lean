/-
  A bit of a chunk is turned. Condition: it lies in its block.
-/
import Derived.Test.YtfjgnplplafniaaTurn
namespace Go.Proofs.Ytfjgnplplafniaa
open Go.RowKit
set_option maxRecDepth 100000

theorem u8_xor_nat (a b : Nat) (ha : a < 256) (hb : b < 256) : bits .xor .u8 (a : Int) (b : Int) = ((a ^^^ b : Nat) : Int) := by
  have hx : a ^^^ b < 2 ^ 8 := Nat.xor_lt_two_pow (by omega) (by omega)
  have ea : (BitVec.ofInt 8 (a : Int)).toNat = a := by rw [BitVec.ofInt_natCast, BitVec.toNat_ofNat]; exact Nat.mod_eq_of_lt (by omega)
  have eb : (BitVec.ofInt 8 (b : Int)).toNat = b := by rw [BitVec.ofInt_natCast, BitVec.toNat_ofNat]; exact Nat.mod_eq_of_lt (by omega)
  show IntKind.u8.wrap ((BitVec.ofInt 8 (a : Int) ^^^ BitVec.ofInt 8 (b : Int)).toNat : Int) = _
  rw [BitVec.toNat_xor, ea, eb]
  simp [IntKind.wrap, IntKind.bits, IntKind.signed]
  omega
theorem pow_u8 (b : Nat) (h : b < 8) : (2 : Int) ^ b % 256 = ((2 ^ b : Nat) : Int) := by
  have : ∀ b : Fin 8, (2 : Int) ^ b.val % 256 = ((2 ^ b.val : Nat) : Int) := by decide
  exact this ⟨b, h⟩
theorem pow_lt (b : Nat) (h : b < 8) : 2 ^ b < 256 := by
  have : ∀ b : Fin 8, 2 ^ b.val < 256 := by decide
  exact this ⟨b, h⟩
/-- A chunk, a bit of which was turned. -/
def turnB (k : Chk) (p b : Nat) : Chk := { k with now := k.now.set p (k.now.getD p 0 ^^^ 2 ^ b) }
def turnK (k : Chk) (p b : Nat) : Chk := { turnB k p b with worst := max k.worst (dmg (turnB k p b)) }
theorem Bys.set {l : List Nat} (h : Bys l) (i v : Nat) (hv : v < 256) : Bys (l.set i v) := fun n hn => by
  rcases List.mem_or_eq_of_mem_set hn with h1 | h1
  · exact h n h1
  · omega
theorem turnB_ok {k : Chk} (hk : k.Ok) (p b : Nat) (hb : b < 8) : (turnB k p b).Ok :=
  ⟨by simp [turnB, hk.now], hk.tru, hk.nowB.set _ _ (Nat.xor_lt_two_pow (n := 8) (hk.nowB.getD p) (pow_lt b hb)), hk.truB, hk.worst⟩
theorem dmg_le (k : Chk) : dmg k ≤ 64 := dmgTo_le _ _ _
theorem turnK_ok {k : Chk} (hk : k.Ok) (p b : Nat) (hb : b < 8) : (turnK k p b).Ok :=
  have h := turnB_ok hk p b hb
  ⟨h.now, h.tru, h.nowB, h.truB, by have := dmg_le (turnB k p b); have := hk.worst; show max k.worst (dmg (turnB k p b)) ≤ 64; omega⟩
set_option maxHeartbeats 1000000 in
theorem flip_cell (g o : Nat) (t : TypeId) (n : Nat) (f : Nat → Value) (ho : o + 130 ≤ n) (k : Chk) (hk : k.Ok) (hS : Seg f o (ckc k)) (p b : Nat) (hp : p < 64) (hb : b < 8) (w : World) (hB : Sto w g t n f) :
    Calls Try.prog 53 #[.pointer (some ⟨g, o, none⟩), .int .i64 p, .int .i64 b] w fun e w' => e = .returned (.tuple #[]) ∧ Sto w' g t n (upL f o (ckc (turnK k p b))) ∧ Chg (· = g) w w' := by
  have hpb1 : (0 : Int) ≤ (p : Int) := by omega
  have hpb2 : (p : Int) < 64 := by omega
  have hpb3 : (0 : Int) ≤ (b : Int) := by omega
  have hpb4 : (b : Int) < 8 := by omega
  have hx := hk.nowB.getD p
  have c1 : w.cell? ⟨g, o + p, none⟩ = some (.int .u8 (k.now.getD p 0 : Nat)) := by
    rw [hB.cell _ (by omega)]
    congr 1
    exact ckc_now hS p _ (by rw [List.getElem?_map, List.getElem?_eq_getElem (by rw [hk.now]; exact hp)]; simp [byt, List.getD_eq_getElem?_getD, List.getElem?_eq_getElem (show p < k.now.length by rw [hk.now]; exact hp)])
  have f1 := hB.frozen (o + p)
  have hl := ckc_length hk.now hk.tru
  have HX : Hid (bits .xor .u8 (k.now.getD p 0 : Nat) ((2 : Int) ^ b % 256) = ((k.now.getD p 0 ^^^ 2 ^ b : Nat) : Int)) := by rw [pow_u8 b hb]; exact u8_xor_nat _ _ hx (pow_lt b hb)
  have hl1 := ckc_length (turnB_ok hk p b hb).now (turnB_ok hk p b hb).tru
  have hB1 : Sto (w.setCell ⟨g, o + p, none⟩ (.int .u8 (bits .xor .u8 (k.now.getD p 0 : Nat) ((2 : Int) ^ b % 256)))) g t n (upL f o (ckc (turnB k p b))) := by
    rw [HX.out]
    have h1 := hB.setCell (o + p) (byt (k.now.getD p 0 ^^^ 2 ^ b))
    have e1 := upL_upL f o (ckc k) p [byt (k.now.getD p 0 ^^^ 2 ^ b)] (by rw [hl]; simp; omega)
    rw [layV_one k p _ hk.now hp] at e1
    refine h1.ext fun i _ => ?_
    rw [show upL f o (ckc (turnB k p b)) i = upL (upL f o (ckc k)) (o + p) [byt (k.now.getD p 0 ^^^ 2 ^ b)] i from by rw [e1]; rfl, upL_one, upL_one]
    by_cases e : i = o + p
    · rw [if_pos e, if_pos e]
    · rw [if_neg e, if_neg e]
      unfold upL
      by_cases h2 : o ≤ i ∧ i < o + (ckc k).length
      · rw [if_pos h2, List.getD_eq_getElem?_getD, List.getElem?_eq_getElem (by omega)]
        have := hS (i - o) _ (List.getElem?_eq_getElem (by omega))
        rw [show o + (i - o) = i from by omega] at this
        rw [this]; rfl
      · rw [if_neg h2]
  have hG1 : Chg (· = g) w (w.setCell ⟨g, o + p, none⟩ (.int .u8 (bits .xor .u8 (k.now.getD p 0 : Nat) ((2 : Int) ^ b % 256)))) := (Chg.refl (· = g) _).setCell (Or.inl rfl) _ _
  have hok := turnB_ok hk p b hb
  have HK : Hid (turnK k p b = { turnB k p b with worst := max (turnB k p b).worst (dmg (turnB k p b)) }) := rfl
  clear HX
  generalize turnB k p b = k1 at *
  generalize k.now.getD p 0 = x at *
  go_enter Try.func53, Try.ntmps53
  go_wp2_with fail
  go_region
  have hB1' := hB1.drew
  have hG1' := hG1.drew
  clear hB1 hG1 c1 f1
  generalize World.drew _ = w1 at *
  have hS1 := upL_seg f o (ckc k1)
  have c2 : w1.cell? ⟨g, o + 129, none⟩ = some (.int .i64 k1.worst) := by
    rw [hB1'.cell _ (by omega)]; congr 1; exact ckc_worst hok.now hok.tru hS1
  have f2 := hB1'.frozen (o + 129)
  have hd := dmg_le k1
  have hw := hok.worst
  have HM : Hid ((if k1.worst < dmg k1 then (dmg k1 : Int) else (k1.worst : Int)) = ((max k1.worst (dmg k1) : Nat) : Int)) := by show _ = _; split <;> omega
  have hB3 := hB1'.setCell (o + 129) (.int .i64 (max k1.worst (dmg k1) : Nat))
  have e3 := upL_upL f o (ckc k1) 129 [.int .i64 (max k1.worst (dmg k1) : Nat)] (by rw [hl1]; simp)
  rw [layV_worst k1 _ hok.now hok.tru] at e3
  rw [e3] at hB3
  have hG3 : Chg (· = g) w (w1.setCell ⟨g, o + 129, none⟩ (.int .i64 (max k1.worst (dmg k1) : Nat))) := hG1'.setCell (Or.inl rfl) _ _
  have HB3 := hyd hB3
  have HG3 := hyd hG3
  clear e3 hB3 hG3
  go_wp2_with fail
  go_region_with (go_at_call 54; refine (damage_any g o t n _ ho k1 hok hS1 _ ?_).mono ?_; (exact hB1'); rintro e w' ⟨rfl, rfl⟩)
  all_goals
    rw [HM.out]
    go_wp2
    go_end0
    rw [HK.out]
    exact ⟨rfl, HB3.out.drew, HG3.out.drew⟩
end Go.Proofs.Ytfjgnplplafniaa
