/-
  The once of a Field: behind (*Field).ready the block holds a Field with its tables. Condition: the block holds a Field that may be asked.
-/
import Derived.Test.YtfihhamjlcnpnaaOnce
namespace Go.Proofs.Ytfihhamjlcnpnaa
set_option maxRecDepth 100000
open Go.RowKit

set_option maxRecDepth 100000 in
set_option maxHeartbeats 1600000 in
theorem slow_any (b : Nat) (w : World) (h : Fat w b 0 0 0) :
    Calls Try.prog 53 #[.pointer (some ⟨b, 0, none⟩), .func (.func 48) #[.pointer (some ⟨b, 0, none⟩)] #[]] w fun e w' => e = .returned (.tuple #[]) ∧ Full w' b ∧ But b w w' := by
  have h1 := Fat.cell h 1 (by omega)
  rw [show fcell 0 0 0 1 = .int .i32 0 from rfl] at h1
  have f1 := Fat.frozen h 1
  have hL := Fat.locked (m := 1) h
  have h0L := Fat.cell hL 0 (by omega)
  rw [show fcell 0 1 0 0 = .int .u32 0 from rfl] at h0L
  have hl := run_call_load (P := Try.prog) Try.func55 (by kernel_rfl) (by kernel_rfl) (by kernel_rfl) .u32 (by kernel_rfl) (w := w.setCell ⟨b, 1, none⟩ (.int .i32 1)) (a := ⟨b, 0, none⟩) (x := 0) h0L
  have hnot : ∀ (x : Bool) (w : World), (Op.unary .not (.bool x)).run Try.prog w = .ok (.bool (!x)) w := fun _ _ => rfl
  clear h0L
  go_enter_defers Try.func53, Try.ntmps53
  go_wp2_with (first | (go_at_call 56; refine (lock_free ⟨b, 1, none⟩ _ h1 f1).mono ?_; rintro e w' ⟨rfl, rfl⟩) | (go_at_call 52; go_in) | (go_at_call 48; refine (fill_any b _ hL).mono ?_; rintro e w' ⟨rfl, hF, hB⟩))
  have k0 := Fat.cell hF 0 (by omega)
  have z0 := Fat.frozen hF 0
  rw [show fcell 0 1 255 0 = .int .u32 0 from rfl] at k0
  have hD : Fat (w'.drew.setCell ⟨b, 0, none⟩ (.int .u32 1)) b 1 1 255 := Fat.done (w := w'.drew) hF
  have k1 := Fat.cell hD 1 (by omega)
  have z1 := Fat.frozen hD 1
  rw [show fcell 1 1 255 1 = .int .i32 1 from rfl] at k1
  have hE : Full ((w'.drew.setCell ⟨b, 0, none⟩ (.int .u32 1)).setCell ⟨b, 1, none⟩ (.int .i32 0)) b := Fat.unlocked hD
  have hG : But b w ((w'.drew.setCell ⟨b, 0, none⟩ (.int .u32 1)).setCell ⟨b, 1, none⟩ (.int .i32 0)) := ((((But.refl b w).setCell 1 _).trans hB).drew.setCell 0 _).setCell 1 _
  refine leaves_cons (f := 58) (args := #[.pointer (some ⟨b, 0, none⟩), .bool true]) (by simp) (by simp [go_sem]) ?_
  refine (store_deferred ⟨b, 0, none⟩ (.int .u32 0) .returning _ k0 z0).mono ?_
  rintro e u' w'' ⟨rfl, rfl, rfl⟩
  refine leaves_cons (f := 57) (args := #[.pointer (some ⟨b, 1, none⟩)]) (by simp [settle]) (by simp [go_sem]) ?_
  refine (unlock_deferred ⟨b, 1, none⟩ _ _ k1 z1).mono ?_
  rintro e u' w'' ⟨rfl, rfl, rfl⟩
  simp [Leaves, settle, results, Try.results53]
  exact ⟨hE, hG⟩

set_option maxRecDepth 100000 in
set_option maxHeartbeats 1600000 in
/-- (*sync.Once).Do, not yet done. -/
theorem do_first (b : Nat) (w : World) (h : Fat w b 0 0 0) :
    Calls Try.prog 47 #[.pointer (some ⟨b, 0, none⟩), .func (.func 48) #[.pointer (some ⟨b, 0, none⟩)] #[]] w fun e w' => e = .returned (.tuple #[]) ∧ Full w' b ∧ But b w w' := by
  have h0 := Fat.cell h 0 (by omega)
  rw [show fcell 0 0 0 0 = .int .u32 0 from rfl] at h0
  have hl := run_call_load (P := Try.prog) Try.func55 (by kernel_rfl) (by kernel_rfl) (by kernel_rfl) .u32 (by kernel_rfl) h0
  have hnot : ∀ (x : Bool) (w : World), (Op.unary .not (.bool x)).run Try.prog w = .ok (.bool (!x)) w := fun _ _ => rfl
  go_enter Try.func47, Try.ntmps47
  go_wp2_with (first | (go_at_call 53; refine (slow_any b _ h).mono ?_; rintro e w' ⟨rfl, hF, hB⟩) | (go_at_call 52; go_in))
  go_end0
  exact ⟨rfl, hF, hB⟩

/-- (*sync.Once).Do, done already. -/
theorem do_done (b : Nat) (fv : Value) (w : World) (h : Full w b) :
    Calls Try.prog 47 #[.pointer (some ⟨b, 0, none⟩), fv] w fun e w' => e = .returned (.tuple #[]) ∧ w' = w := by
  have h0 := Fat.cell h 0 (by omega)
  rw [show fcell 1 0 255 0 = .int .u32 1 from rfl] at h0
  have hl := run_call_load (P := Try.prog) Try.func55 (by kernel_rfl) (by kernel_rfl) (by kernel_rfl) .u32 (by kernel_rfl) h0
  have hnot : ∀ (x : Bool) (w : World), (Op.unary .not (.bool x)).run Try.prog w = .ok (.bool (!x)) w := fun _ _ => rfl
  go_enter Try.func47, Try.ntmps47
  go_wp2
  go_end0
  exact ⟨rfl, rfl⟩

/-- (*Field).ready. -/
theorem ready_any (b : Nat) (w : World) (h : Fld w b) :
    Calls Try.prog 42 #[.pointer (some ⟨b, 0, none⟩)] w fun e w' => e = .returned (.tuple #[]) ∧ Full w' b ∧ But b w w' := by
  have hmf : ∀ (fn : Fn) (first cap : Array Value) (w : World), (Instr.makeFunc fn first cap).run Try.prog w = .ok (.func fn first cap) w := fun _ _ _ _ => rfl
  rcases h with h | h
  · have c0 := Fat.cell h 0 (by omega)
    go_enter Try.func42, Try.ntmps42
    go_wp2_with (go_at_call 47; refine (do_first b _ h).mono ?_; rintro e w' ⟨rfl, hF, hB⟩)
    go_end0
    exact ⟨rfl, hF, hB⟩
  · have c0 := Fat.cell h 0 (by omega)
    go_enter Try.func42, Try.ntmps42
    go_wp2_with (go_at_call 47; refine (do_done b _ _ h).mono ?_; rintro e w' ⟨rfl, rfl⟩)
    go_end0
    exact ⟨rfl, h, But.refl _ _⟩
end Go.Proofs.Ytfihhamjlcnpnaa
