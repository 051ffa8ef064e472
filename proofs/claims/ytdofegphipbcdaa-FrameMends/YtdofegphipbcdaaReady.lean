/-
  The tables of a Field are made: what (*Field).fill does to the Field's block. Condition: the block holds a Field whose tables are not made. The once of a Field: whoever asks first makes the tables; behind (*Field).ready the block holds a Field with its tables. Condition: the block holds a Field that may be asked. The once of a Field: behind (*Field).ready the block holds a Field with its tables. Condition: the block holds a Field that may be asked.
-/
import Derived.Test.YtdofegphipbcdaaCells
import Derived.Test.YtdofegphipbcdaaRows
import Derived.WalkLawsBesides
import Derived.WalkSpells
import Derived.Outline
import Derived.Defers
import Derived.Laws.LoneSync
import Derived.RegionTactic
import Derived.RegionCalls
import Derived.ChangeAlike
namespace Go.Proofs.Ytdofegphipbcdaa
set_option maxRecDepth 100000
open Go.RowKit

/-- The power ahead of round k. -/
def pw (k : Nat) : Nat := if k < 255 then ex k else 1
theorem pw_succ (k : Nat) (h : k < 255) : pw (k + 1) = xt (ex k) := by
  unfold pw
  by_cases e : k + 1 < 255
  · rw [if_pos e, ex_succ k (by omega)]
  · have : k = 254 := by omega
    subst this
    rw [if_neg e, ex_last]
theorem pw_hi (k : Nat) (h : k < 255) (hh : 256 ≤ (ex k : Int) * 2) : Value.int IntKind.i64 (bits BinOp.xor IntKind.i64 (↑(ex k) * 2) 285) = Value.int IntKind.i64 ↑(pw (k + 1)) := by
  have hx := ex_lt k
  have e : bits BinOp.xor IntKind.i64 ((ex k : Int) * 2) 285 = ((ex k * 2 ^^^ 285 : Nat) : Int) := i64_xor_nat (ex k * 2) 285 (by omega) (by omega)
  rw [e, pw_succ k h]
  unfold xt
  rw [if_pos (by omega)]
theorem pw_lo (k : Nat) (h : k < 255) (hh : (ex k : Int) * 2 < 256) : Value.int IntKind.i64 (↑(ex k) * 2) = Value.int IntKind.i64 ↑(pw (k + 1)) := by
  rw [pw_succ k h]
  unfold xt
  rw [if_neg (by omega)]
  congr 1
theorem Fat.round {wr : World} {b k : Nat} (hf : Fat wr b 0 1 k) (h : k < 255) :
    Fat ((wr.setCell { block := b, off := 3 + k } (Value.int IntKind.u8 ↑(ex k))).setCell { block := b, off := 258 + ex k } (Value.int IntKind.i64 ↑k)) b 0 1 (k + 1) := by
  have hx := ex_lt k
  refine Fat.store2 hf (3 + k) (258 + ex k) _ _ ?_ ?_ (by omega) (by omega) (by omega) (fun j hj h1 h2 => fcell_round 0 1 k h j hj h1 h2)
  · rw [fcell_pow _ _ _ _ h, if_pos (by omega)]
  · rw [fcell_log, if_pos ⟨ex_ne k h, by rw [lg_ex k h]; omega⟩, lg_ex k h]

set_option maxRecDepth 100000 in
set_option maxHeartbeats 1000000 in
/-- (*Field).fill. -/
theorem fill_any (b : Nat) (w : World) (h : Fat w b 0 1 0) :
    Calls Try.prog 64 #[.pointer (some ⟨b, 0, none⟩)] w fun e w' => e = .returned (.tuple #[]) ∧ Fat w' b 0 1 255 ∧ But b w w' := by
  go_enter Try.func64, Try.ntmps64
  go_wp2
  go_loopw [2, 4] (fun p i wr => ∃ k : Nat, k ≤ 255 ∧ i = .int .i64 k ∧ p = .int .i64 (pw k) ∧ Fat wr b 0 1 k ∧ But b w wr) (fun _ i _ => 255 - (intOf i).toNat)
  case atStart => exact ⟨0, by omega, rfl, by simp [pw, ex_zero], h, But.refl _ _⟩
  case round =>
    obtain ⟨k, hk, rfl, rfl, hf, hb⟩ := hrel
    by_cases hlt : k < 255
    · have hp : pw k = ex k := by simp [pw, hlt]
      rw [hp]
      have hx := ex_lt k
      have c1 := Fat.cell hf (3 + k) (by omega)
      have c2 := Fat.cell hf (258 + ex k) (by omega)
      have z1 := Fat.frozen hf (3 + k)
      have z2 := Fat.frozen hf (258 + ex k)
      generalize fcell 0 1 k (3 + k) = v1 at c1
      generalize fcell 0 1 k (258 + ex k) = v2 at c2
      clear hp
      go_wp2
      · exact ⟨⟨k + 1, by omega, by go_num, pw_hi k hlt ‹_›, Fat.round hf hlt, (hb.setCell _ _).setCell _ _⟩, by simp [intOf]; omega⟩
      · exact ⟨⟨k + 1, by omega, by go_num, pw_lo k hlt ‹_›, Fat.round hf hlt, (hb.setCell _ _).setCell _ _⟩, by simp [intOf]; omega⟩
    · have e : k = 255 := by omega
      subst e
      go_wp2
      go_end0
      exact ⟨rfl, hf, hb⟩
end Go.Proofs.Ytdofegphipbcdaa
namespace Go.Proofs.Ytdofegphipbcdaa
set_option maxRecDepth 100000
open Go.RowKit

theorem disable (w : World) : (callFunc 81 #[]).run Try.prog w = .ok (.value (.tuple #[])) w := run_call_mark0 Try.func81 (by kernel_rfl) (by kernel_rfl) (by kernel_rfl) .disable (by kernel_rfl) w
theorem enable (w : World) : (callFunc 83 #[]).run Try.prog w = .ok (.value (.tuple #[])) w := run_call_mark0 Try.func83 (by kernel_rfl) (by kernel_rfl) (by kernel_rfl) .enable (by kernel_rfl) w
theorem acquire (a : Addr) (w : World) : (callFunc 84 #[.pointer (some a)]).run Try.prog w = .ok (.value (.tuple #[])) w := run_call_marked Try.func84 (by kernel_rfl) (by kernel_rfl) (by kernel_rfl) .acquire (by kernel_rfl) a w
theorem releaseMerge (a : Addr) (w : World) : (callFunc 86 #[.pointer (some a)]).run Try.prog w = .ok (.value (.tuple #[])) w := run_call_marked Try.func86 (by kernel_rfl) (by kernel_rfl) (by kernel_rfl) .releaseMerge (by kernel_rfl) a w

theorem store_deferred (a : Addr) (x : Value) (u : FrameMode) (w : World) (hc : w.cell? a = some x) (hz : w.frozen? a = false) :
    CallsD Try.prog 75 #[.pointer (some a), .bool true] u w fun e u' w' => u' = u ∧ (e = .returned (.tuple #[]) ∧ w' = w.drew.setCell a (.int .u32 1)) := by
  have hc' : w.drew.cell? a = some x := by go_simp
  have hz' : w.drew.frozen? a = false := by go_simp
  have hst := run_call_store (P := Try.prog) Try.func79 (by kernel_rfl) (by kernel_rfl) (by kernel_rfl) (by kernel_rfl) (k := .u32) (y := 1) hc' hz'
  go_enter_d Try.func75, Try.ntmps75
  go_wp2
  go_region_calls
  all_goals (go_end0; exact ⟨rfl, rfl⟩)

theorem unlock_deferred (a : Addr) (u : FrameMode) (w : World) (hc : w.cell? a = some (.int .i32 1)) (hz : w.frozen? a = false) :
    CallsD Try.prog 74 #[.pointer (some a)] u w fun e u' w' => u' = u ∧ (e = .returned (.tuple #[]) ∧ w' = w.setCell a (.int .i32 0)) := by
  have hd := disable
  have he := enable
  have hr := releaseMerge
  have hadd := run_call_add (P := Try.prog) Try.func87 (by kernel_rfl) (by kernel_rfl) (by kernel_rfl) .i32 (by kernel_rfl) (y := -1) (s := 0) hc hz (by simp [go_sem]; rfl)
  have hcv := run_convert_to_unsafe (P := Try.prog) (src := 134) (dst := 138) Try.underlying134 Try.underlying138 (by kernel_rfl) hc
  go_enter_d Try.func74, Try.ntmps74
  go_wp2
  go_end0
  go_wp2
  go_end0
  exact ⟨rfl, rfl⟩

theorem lock_free (a : Addr) (w : World) (hc : w.cell? a = some (.int .i32 0)) (hz : w.frozen? a = false) :
    Calls Try.prog 73 #[.pointer (some a)] w fun e w' => e = .returned (.tuple #[]) ∧ w' = w.setCell a (.int .i32 1) := by
  have hd := disable
  have he := enable
  have ha := acquire
  have hcas := run_call_cas_hit (P := Try.prog) Try.func82 (by kernel_rfl) (by kernel_rfl) (by kernel_rfl) .i32 (by kernel_rfl) (y := 1) hc hz
  have hc' : (w.setCell a (.int .i32 1)).cell? a = some (.int .i32 1) := World.cell?_setCell_same w a _ hc
  have hcv := run_convert_to_unsafe (P := Try.prog) (src := 134) (dst := 138) Try.underlying134 Try.underlying138 (by kernel_rfl) hc'
  go_enter Try.func73, Try.ntmps73
  go_wp2
  first | go_end0 | (simp only [Exit.inBlock, Exit.then]; refine bodyPost_ret (results_none rfl _ _ _) rfl ?_) | refine bodyPost_ret (results_none rfl _ _ _) rfl ?_
  go_wp2
  go_end0
  exact ⟨rfl, rfl⟩

theorem Fat.locked {w : World} {b : Nat} {k : Nat} {d m : Int} (h : Fat w b d 0 k) : Fat (w.setCell ⟨b, 1, none⟩ (.int .i32 m)) b d m k := by
  refine Fat.store h 1 _ (by simp [fcell]) (by omega) (fun j hj h1 => ?_)
  simp [fcell, h1]
theorem Fat.unlocked {w : World} {b : Nat} {k : Nat} {d m : Int} (h : Fat w b d m k) : Fat (w.setCell ⟨b, 1, none⟩ (.int .i32 0)) b d 0 k := by
  refine Fat.store h 1 _ (by simp [fcell]) (by omega) (fun j hj h1 => ?_)
  simp [fcell, h1]
theorem Fat.done {w : World} {b : Nat} {k : Nat} {m : Int} (h : Fat w b 0 m k) : Fat (w.setCell ⟨b, 0, none⟩ (.int .u32 1)) b 1 m k := by
  refine Fat.store h 0 _ (by simp [fcell]) (by omega) (fun j hj h1 => ?_)
  simp [fcell, h1]

end Go.Proofs.Ytdofegphipbcdaa
namespace Go.Proofs.Ytdofegphipbcdaa
set_option maxRecDepth 100000
open Go.RowKit

set_option maxRecDepth 100000 in
set_option maxHeartbeats 1600000 in
theorem slow_any (b : Nat) (w : World) (h : Fat w b 0 0 0) :
    Calls Try.prog 70 #[.pointer (some ⟨b, 0, none⟩), .func (.func 64) #[.pointer (some ⟨b, 0, none⟩)] #[]] w fun e w' => e = .returned (.tuple #[]) ∧ Full w' b ∧ But b w w' := by
  have h1 := Fat.cell h 1 (by omega)
  rw [show fcell 0 0 0 1 = .int .i32 0 from rfl] at h1
  have f1 := Fat.frozen h 1
  have hL := Fat.locked (m := 1) h
  have h0L := Fat.cell hL 0 (by omega)
  rw [show fcell 0 1 0 0 = .int .u32 0 from rfl] at h0L
  have hl := run_call_load (P := Try.prog) Try.func72 (by kernel_rfl) (by kernel_rfl) (by kernel_rfl) .u32 (by kernel_rfl) (w := w.setCell ⟨b, 1, none⟩ (.int .i32 1)) (a := ⟨b, 0, none⟩) (x := 0) h0L
  have hnot : ∀ (x : Bool) (w : World), (Op.unary .not (.bool x)).run Try.prog w = .ok (.bool (!x)) w := fun _ _ => rfl
  clear h0L
  go_enter_defers Try.func70, Try.ntmps70
  go_wp2_with (first | (go_at_call 73; refine (lock_free ⟨b, 1, none⟩ _ h1 f1).mono ?_; rintro e w' ⟨rfl, rfl⟩) | (go_at_call 69; go_in) | (go_at_call 64; refine (fill_any b _ hL).mono ?_; rintro e w' ⟨rfl, hF, hB⟩))
  have k0 := Fat.cell hF 0 (by omega)
  have z0 := Fat.frozen hF 0
  rw [show fcell 0 1 255 0 = .int .u32 0 from rfl] at k0
  have hD : Fat (w'.drew.setCell ⟨b, 0, none⟩ (.int .u32 1)) b 1 1 255 := Fat.done (w := w'.drew) hF
  have k1 := Fat.cell hD 1 (by omega)
  have z1 := Fat.frozen hD 1
  rw [show fcell 1 1 255 1 = .int .i32 1 from rfl] at k1
  have hE : Full ((w'.drew.setCell ⟨b, 0, none⟩ (.int .u32 1)).setCell ⟨b, 1, none⟩ (.int .i32 0)) b := Fat.unlocked hD
  have hG : But b w ((w'.drew.setCell ⟨b, 0, none⟩ (.int .u32 1)).setCell ⟨b, 1, none⟩ (.int .i32 0)) := ((((But.refl b w).setCell 1 _).trans hB).drew.setCell 0 _).setCell 1 _
  refine leaves_cons (f := 75) (args := #[.pointer (some ⟨b, 0, none⟩), .bool true]) (by simp) (by simp [go_sem]) ?_
  refine (store_deferred ⟨b, 0, none⟩ (.int .u32 0) .returning _ k0 z0).mono ?_
  rintro e u' w'' ⟨rfl, rfl, rfl⟩
  refine leaves_cons (f := 74) (args := #[.pointer (some ⟨b, 1, none⟩)]) (by simp [settle]) (by simp [go_sem]) ?_
  refine (unlock_deferred ⟨b, 1, none⟩ _ _ k1 z1).mono ?_
  rintro e u' w'' ⟨rfl, rfl, rfl⟩
  simp [Leaves, settle, results, Try.results70]
  exact ⟨hE, hG⟩

set_option maxRecDepth 100000 in
set_option maxHeartbeats 1600000 in
/-- (*sync.Once).Do, not yet done. -/
theorem do_first (b : Nat) (w : World) (h : Fat w b 0 0 0) :
    Calls Try.prog 63 #[.pointer (some ⟨b, 0, none⟩), .func (.func 64) #[.pointer (some ⟨b, 0, none⟩)] #[]] w fun e w' => e = .returned (.tuple #[]) ∧ Full w' b ∧ But b w w' := by
  have h0 := Fat.cell h 0 (by omega)
  rw [show fcell 0 0 0 0 = .int .u32 0 from rfl] at h0
  have hl := run_call_load (P := Try.prog) Try.func72 (by kernel_rfl) (by kernel_rfl) (by kernel_rfl) .u32 (by kernel_rfl) h0
  have hnot : ∀ (x : Bool) (w : World), (Op.unary .not (.bool x)).run Try.prog w = .ok (.bool (!x)) w := fun _ _ => rfl
  go_enter Try.func63, Try.ntmps63
  go_wp2_with (first | (go_at_call 70; refine (slow_any b _ h).mono ?_; rintro e w' ⟨rfl, hF, hB⟩) | (go_at_call 69; go_in))
  go_end0
  exact ⟨rfl, hF, hB⟩

/-- (*sync.Once).Do, done already. -/
theorem do_done (b : Nat) (fv : Value) (w : World) (h : Full w b) :
    Calls Try.prog 63 #[.pointer (some ⟨b, 0, none⟩), fv] w fun e w' => e = .returned (.tuple #[]) ∧ w' = w := by
  have h0 := Fat.cell h 0 (by omega)
  rw [show fcell 1 0 255 0 = .int .u32 1 from rfl] at h0
  have hl := run_call_load (P := Try.prog) Try.func72 (by kernel_rfl) (by kernel_rfl) (by kernel_rfl) .u32 (by kernel_rfl) h0
  have hnot : ∀ (x : Bool) (w : World), (Op.unary .not (.bool x)).run Try.prog w = .ok (.bool (!x)) w := fun _ _ => rfl
  go_enter Try.func63, Try.ntmps63
  go_wp2
  go_end0
  exact ⟨rfl, rfl⟩

/-- (*Field).ready. -/
theorem ready_any (b : Nat) (w : World) (h : Fld w b) :
    Calls Try.prog 56 #[.pointer (some ⟨b, 0, none⟩)] w fun e w' => e = .returned (.tuple #[]) ∧ Full w' b ∧ But b w w' := by
  have hmf : ∀ (fn : Fn) (first cap : Array Value) (w : World), (Instr.makeFunc fn first cap).run Try.prog w = .ok (.func fn first cap) w := fun _ _ _ _ => rfl
  rcases h with h | h
  · have c0 := Fat.cell h 0 (by omega)
    go_enter Try.func56, Try.ntmps56
    go_wp2_with (go_at_call 63; refine (do_first b _ h).mono ?_; rintro e w' ⟨rfl, hF, hB⟩)
    go_end0
    exact ⟨rfl, hF, hB⟩
  · have c0 := Fat.cell h 0 (by omega)
    go_enter Try.func56, Try.ntmps56
    go_wp2_with (go_at_call 63; refine (do_done b _ _ h).mono ?_; rintro e w' ⟨rfl, rfl⟩)
    go_end0
    exact ⟨rfl, h, But.refl _ _⟩
end Go.Proofs.Ytdofegphipbcdaa
