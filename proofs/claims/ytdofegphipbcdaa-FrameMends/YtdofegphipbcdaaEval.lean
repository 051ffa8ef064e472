/-
  (*Field).Eval: the value of a polynomial. Condition: the block holds a Field that may be asked; the bytes can be read.
-/
import Derived.Test.YtdofegphipbcdaaPoly
import Derived.Test.YtdofegphipbcdaaAsked
namespace Go.Proofs.Ytdofegphipbcdaa
set_option maxRecDepth 100000
open Go.RowKit

/-- The bytes l lie at a, outside block b. -/
def Rd (w : World) (b : Nat) (a : Option Addr) (l : List Nat) : Prop :=
  Bys l ∧ (l = [] ∨ ∃ c o, a = some ⟨c, o, none⟩ ∧ c ≠ b ∧ c < w.heap.size ∧ ∀ i, i < l.length → w.cell? ⟨c, o + i, none⟩ = some (.int .u8 (l.getD i 0 : Nat)))
theorem But.cell {b : Nat} {w w' : World} (h : But b w w') {c : Nat} (hc : c < w.heap.size) (hb : c ≠ b) (o : Nat) : w'.cell? ⟨c, o, none⟩ = w.cell? ⟨c, o, none⟩ :=
  World.cell?_of_block (w := w) (h.block c hc hb)
theorem Rd.but {w w' : World} {b : Nat} {a : Option Addr} {l : List Nat} (h : Rd w b a l) (hB : But b w w') : Rd w' b a l := by
  refine ⟨h.1, ?_⟩
  rcases h.2 with h | ⟨c, o, ha, hc, hs, hcell⟩
  · exact Or.inl h
  · exact Or.inr ⟨c, o, ha, hc, Nat.lt_of_lt_of_le hs hB.size, fun i hi => (hB.cell hs hc _).trans (hcell i hi)⟩

set_option maxRecDepth 100000 in
set_option maxHeartbeats 1000000 in
theorem eval_nil (b : Nat) (w : World) (h : Fld w b) (a : Option Addr) (cap : Nat) (x : Int) :
    Calls Try.prog 65 #[.pointer (some ⟨b, 0, none⟩), .slice a 0 cap, .int .u8 x] w fun e w' => e = .returned (.int .u8 0) ∧ Fld w' b ∧ But b w w' := by
  go_enter Try.func65, Try.ntmps65
  go_wp2
  go_loop [7, 12] (fun s i => s = .int .u8 0 ∧ i = .int .i64 0) (fun _ _ => 0)
  case atStart => exact ⟨rfl, rfl⟩
  case round =>
    obtain ⟨rfl, rfl⟩ := hrel
    go_wp2
    go_ret
    exact ⟨rfl, h, But.refl _ _⟩

set_option maxRecDepth 100000 in
set_option maxHeartbeats 1000000 in
theorem eval_some (b : Nat) (w : World) (h : Fld w b) (c o cap : Nat) (l : List Nat) (x : Nat) (hx : x < 256) (hl : Bys l) (hc : c ≠ b) (hs : c < w.heap.size) (hlen : l.length ≤ 9223372036854775807)
    (hcell : ∀ i, i < l.length → w.cell? ⟨c, o + i, none⟩ = some (.int .u8 (l.getD i 0 : Nat))) :
    Calls Try.prog 65 #[.pointer (some ⟨b, 0, none⟩), .slice (some ⟨c, o, none⟩) l.length cap, .int .u8 (x : Int)] w fun e w' => e = .returned (.int .u8 (ev x l : Nat)) ∧ Fld w' b ∧ But b w w' := by
  have HC : Hid (∀ i, i < l.length → w.cell? ⟨c, o + i, none⟩ = some (.int .u8 (l.getD i 0 : Nat))) := hcell
  clear hcell
  go_enter Try.func65, Try.ntmps65
  go_wp2
  go_loopw [7, 12] (fun s i wr => ∃ k : Nat, k ≤ l.length ∧ i = .int .i64 k ∧ s = .int .u8 (ev x (l.take k) : Nat) ∧ Fld wr b ∧ But b w wr) (fun _ i _ => l.length - (intOf i).toNat)
  case atStart => exact ⟨0, by omega, rfl, rfl, h, But.refl _ _⟩
  case round =>
    obtain ⟨k, hk, rfl, rfl, hF, hB⟩ := hrel
    by_cases hlt : k < l.length
    · have hc1 : wr.cell? ⟨c, o + k, none⟩ = some (.int .u8 (l.getD k 0 : Nat)) := (hB.cell hs hc _).trans (HC.out k hlt)
      have he := ev_take_lt x l hl k hk
      have hd := hl.getD k
      have e1 := u8_xor_nat (gm (ev x (l.take k)) x) (l.getD k 0) (gm_lt _ _) hd
      have HE : Hid (ev x (l.take (k + 1)) = gm (ev x (l.take k)) x ^^^ l.getD k 0) := ev_take x l k hlt
      generalize l.getD k 0 = d at *
      generalize ev x (l.take k) = s at *
      go_wp2_with (go_at_call 55; refine (mul_nat b _ hF s x he hx).mono ?_; rintro e w' ⟨rfl, hF', hB'⟩)
      exact ⟨⟨k + 1, by omega, by go_num, by rw [HE.out], hF', hB.trans hB'⟩, by simp [intOf]; omega⟩
    · have e : k = l.length := by omega
      have HK : Hid (k = l.length) := e
      clear e
      go_wp2_with fail
      go_ret
      exact ⟨by rw [HK.out, List.take_length]; rfl, hF, hB⟩

theorem eval_any (b : Nat) (w : World) (h : Fld w b) (a : Option Addr) (n cap : Nat) (l : List Nat) (hn : n = l.length) (hlen : l.length ≤ 9223372036854775807) (x : Nat) (hx : x < 256) (hr : Rd w b a l) :
    Calls Try.prog 65 #[.pointer (some ⟨b, 0, none⟩), .slice a n cap, .int .u8 (x : Int)] w fun e w' => e = .returned (.int .u8 (ev x l : Nat)) ∧ Fld w' b ∧ But b w w' := by
  subst hn
  obtain ⟨hl, h0 | ⟨c, o, rfl, hc, hs, hcell⟩⟩ := hr
  · subst h0
    exact eval_nil b w h a cap x
  · exact eval_some b w h c o cap l x hx hl hc hs hlen hcell
end Go.Proofs.Ytdofegphipbcdaa
