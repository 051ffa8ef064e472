/-
  A Field, asked: New, Mul, Exp, Log, Inv, Div: what each answers, and that the Field may be asked on. Condition: the block holds a Field that may be asked; the bytes are bytes.
-/
import Derived.Test.YtdofegphipbcdaaReady
import Derived.Deep.QuietTactic
import Derived.BigQuiet
namespace Go.Proofs.Ytdofegphipbcdaa
set_option maxRecDepth 100000
open Go.RowKit

theorem zero_field (w : World) : (zeroValue 105).run Try.prog w = .ok (.agg (fcells 0 0 0)) w := by kernel_rfl

theorem new_any (w : World) :
    Calls Try.prog 39 #[] w fun e w' => e = .returned (.pointer (some ⟨w.heap.size, 0, none⟩)) ∧ w' = w.alloc (.cells (fcells 0 0 0) 105) := by
  have hb := zero_field
  go_enter Try.func39, Try.ntmps39
  go_wp2
  go_ret
  exact ⟨rfl, rfl⟩
theorem Fld.new (w : World) : Fld (w.alloc (.cells (fcells 0 0 0) 105)) w.heap.size := by
  left
  show (w.heap.push _)[w.heap.size]? = _
  simp

theorem mul_nat (b : Nat) (w : World) (h : Fld w b) (x y : Nat) (hx : x < 256) (hy : y < 256) :
    Calls Try.prog 55 #[.pointer (some ⟨b, 0, none⟩), .int .u8 (x : Int), .int .u8 (y : Int)] w fun e w' => e = .returned (.int .u8 (gm x y : Nat)) ∧ Fld w' b ∧ But b w w' := by
  by_cases x0 : x = 0
  · subst x0
    go_enter Try.func55, Try.ntmps55
    go_wp2
    go_ret
    exact ⟨by rw [gm_zero_left]; rfl, h, But.refl _ _⟩
  by_cases y0 : y = 0
  · subst y0
    have hx0 : ((x : Int) == 0) = false := by simp; omega
    go_enter Try.func55, Try.ntmps55
    go_wp2
    go_ret
    exact ⟨by rw [gm_zero_right]; rfl, h, But.refl _ _⟩
  have hx0 : ((x : Int) == 0) = false := by simp; omega
  have hy0 : ((y : Int) == 0) = false := by simp; omega
  have lx := lg_lt x hx
  have ly := lg_lt y hy
  have hg := gm_of_ne x0 y0
  have HG : Hid (gm x y = ex ((lg x + lg y) % 255)) := hg
  clear hg
  go_enter Try.func55, Try.ntmps55
  go_wp2_with (go_at_call 56; refine (ready_any b _ h).mono ?_; rintro e w' ⟨rfl, hF, hB⟩)
  have c1 := Full.log hF x hx
  have c2 := Full.log hF y hy
  have c3 := Full.pow hF ((lg x + lg y) % 255) (Nat.mod_lt _ (by decide))
  go_region
  go_wp2
  go_ret
  exact ⟨by rw [HG.out]; rfl, Or.inr hF.drew, hB.drew⟩

/-- The power, of whatever number. -/
def exZ (k : Int) : Nat := ex (k % 255).toNat
theorem tmod_pos (k : Int) (h : 0 ≤ k) : k.tmod 255 = k % 255 := Int.tmod_eq_emod_of_nonneg h
theorem tmod_neg (k : Int) (h : k < 0) : k.tmod 255 = - ((-k) % 255) := by
  rw [← Int.tmod_eq_emod_of_nonneg (by omega), Int.neg_tmod, Int.neg_neg]
theorem exZ_neg (k : Int) (h : k.tmod 255 < 0) : ((k.tmod 255 + 255).toNat) = (k % 255).toNat ∧ -255 < k.tmod 255 := by
  have h0 : k < 0 := by
    by_cases e : 0 ≤ k
    · rw [tmod_pos k e] at h; omega
    · omega
  rw [tmod_neg k h0] at h ⊢
  omega
theorem exZ_pos (k : Int) (h : 0 ≤ k.tmod 255) : ((k.tmod 255).toNat) = (k % 255).toNat ∧ k.tmod 255 < 255 := by
  by_cases e : 0 ≤ k
  · rw [tmod_pos k e] at h ⊢; omega
  · rw [tmod_neg k (by omega)] at h ⊢; omega
theorem exp_any (b : Nat) (w : World) (h : Fld w b) (k : Int) :
    Calls Try.prog 41 #[.pointer (some ⟨b, 0, none⟩), .int .i64 k] w fun e w' => e = .returned (.int .u8 (exZ k : Nat)) ∧ Fld w' b ∧ But b w w' := by
  by_cases hn : k.tmod 255 < 0
  · obtain ⟨e1, e2⟩ := exZ_neg k hn
    have E1 : Hid ((k.tmod 255 + 255).toNat = (k % 255).toNat) := e1
    clear e1
    go_enter Try.func41, Try.ntmps41
    go_wp2_with (go_at_call 56; refine (ready_any b _ h).mono ?_; rintro e w' ⟨rfl, hF, hB⟩; have c1 : w'.cell? ⟨b, 3 + (k.tmod 255 + 255).toNat, none⟩ = some (.int .u8 (exZ k : Nat)) := (by rw [E1.out]; exact Full.pow hF _ (by omega)))
    go_ret
    exact ⟨rfl, Or.inr hF, hB⟩
  · obtain ⟨e1, e2⟩ := exZ_pos k (by omega)
    have E1 : Hid ((k.tmod 255).toNat = (k % 255).toNat) := e1
    have hn' : 0 ≤ k.tmod 255 := by omega
    clear e1
    go_enter Try.func41, Try.ntmps41
    go_wp2_with (go_at_call 56; refine (ready_any b _ h).mono ?_; rintro e w' ⟨rfl, hF, hB⟩; have c1 : w'.cell? ⟨b, 3 + (k.tmod 255).toNat, none⟩ = some (.int .u8 (exZ k : Nat)) := (by rw [E1.out]; exact Full.pow hF _ (by omega)))
    go_ret
    exact ⟨rfl, Or.inr hF, hB⟩

theorem log_zero (b : Nat) (w : World) (h : Fld w b) :
    Calls Try.prog 76 #[.pointer (some ⟨b, 0, none⟩), .int .u8 0] w fun e w' => e = .returned (.tuple #[.int .i64 0, .iface 36 (.int .i64 4)]) ∧ Fld w' b ∧ But b w w' := by
  go_enter Try.func76, Try.ntmps76
  go_wp2
  go_ret2
  exact ⟨rfl, h, But.refl _ _⟩
theorem log_nat (b : Nat) (w : World) (h : Fld w b) (x : Nat) (hx : x < 256) (x0 : x ≠ 0) :
    Calls Try.prog 76 #[.pointer (some ⟨b, 0, none⟩), .int .u8 (x : Int)] w fun e w' => e = .returned (.tuple #[.int .i64 (lg x : Nat), .nilIface]) ∧ Fld w' b ∧ But b w w' := by
  have hx0 : ((x : Int) == 0) = false := by simp; omega
  go_enter Try.func76, Try.ntmps76
  go_wp2_with (go_at_call 56; refine (ready_any b _ h).mono ?_; rintro e w' ⟨rfl, hF, hB⟩; have c1 := Full.log hF x hx)
  go_ret2
  exact ⟨rfl, Or.inr hF, hB⟩

/-- The inverse: of 0 an error. -/
theorem inv_zero (b : Nat) (w : World) (h : Fld w b) :
    Calls Try.prog 71 #[.pointer (some ⟨b, 0, none⟩), .int .u8 0] w fun e w' => e = .returned (.tuple #[.int .u8 0, .iface 36 (.int .i64 4)]) ∧ Fld w' b ∧ But b w w' := by
  go_enter Try.func71, Try.ntmps71
  go_wp2_with (go_at_call 76; refine (log_zero b _ h).mono ?_; rintro e w' ⟨rfl, hF, hB⟩)
  go_ret2
  exact ⟨rfl, hF, hB⟩
theorem exZ_iv (x : Nat) (hx : x < 256) : exZ (-(lg x : Int)) = iv x := by
  unfold exZ iv
  have := lg_lt x hx
  congr 1
  omega
theorem inv_nat (b : Nat) (w : World) (h : Fld w b) (x : Nat) (hx : x < 256) (x0 : x ≠ 0) :
    Calls Try.prog 71 #[.pointer (some ⟨b, 0, none⟩), .int .u8 (x : Int)] w fun e w' => e = .returned (.tuple #[.int .u8 (iv x : Nat), .nilIface]) ∧ Fld w' b ∧ But b w w' := by
  have lx := lg_lt x hx
  have HE : Hid (exZ (-(lg x : Int)) = iv x) := exZ_iv x hx
  go_enter Try.func71, Try.ntmps71
  go_wp2_with (first | (go_at_call 76; refine (log_nat b _ h x hx x0).mono ?_; rintro e w' ⟨rfl, hF, hB⟩) | (go_at_call 41; refine (exp_any b _ hF _).mono ?_; rintro e w'' ⟨rfl, hF', hB'⟩))
  go_ret2
  exact ⟨by rw [HE.out]; rfl, hF', hB.trans hB'⟩
theorem div_zero (b : Nat) (w : World) (h : Fld w b) (x : Int) :
    Calls Try.prog 68 #[.pointer (some ⟨b, 0, none⟩), .int .u8 x, .int .u8 0] w fun e w' => e = .returned (.tuple #[.int .u8 0, .iface 36 (.int .i64 4)]) ∧ Fld w' b ∧ But b w w' := by
  go_enter Try.func68, Try.ntmps68
  go_wp2_with (go_at_call 71; refine (inv_zero b _ h).mono ?_; rintro e w' ⟨rfl, hF, hB⟩)
  go_ret2
  exact ⟨rfl, hF, hB⟩
theorem div_nat (b : Nat) (w : World) (h : Fld w b) (x y : Nat) (hx : x < 256) (hy : y < 256) (y0 : y ≠ 0) :
    Calls Try.prog 68 #[.pointer (some ⟨b, 0, none⟩), .int .u8 (x : Int), .int .u8 (y : Int)] w fun e w' => e = .returned (.tuple #[.int .u8 (gm x (iv y) : Nat), .nilIface]) ∧ Fld w' b ∧ But b w w' := by
  have ly := iv_lt y
  go_enter Try.func68, Try.ntmps68
  go_wp2_with (first | (go_at_call 71; refine (inv_nat b _ h y hy y0).mono ?_; rintro e w' ⟨rfl, hF, hB⟩) | (go_at_call 55; refine (mul_nat b _ hF x (iv y) hx ly).mono ?_; rintro e w'' ⟨rfl, hF', hB'⟩))
  go_ret2
  exact ⟨rfl, hF', hB.trans hB'⟩
end Go.Proofs.Ytdofegphipbcdaa
