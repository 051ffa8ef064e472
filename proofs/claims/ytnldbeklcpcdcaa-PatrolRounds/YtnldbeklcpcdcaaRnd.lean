/-
  What PatrolRounds wants: the cursors of the Steps; how often each page was told. No condition: lemmas.
-/
import Derived.Test.YtnldbeklcpcdcaaUp
import Derived.Test.YtnldbeklcpcdcaaRef
namespace Go.Proofs.Ytnldbeklcpcdcaa
set_option maxRecDepth 100000
open Go.RowKit

/-- The cursor behind i Steps. -/
def oc (a i : Nat) : Nat := (a + 8 * i) % 96
theorem oc_lt (a i : Nat) : oc a i < 96 := Nat.mod_lt _ (by decide)
theorem oc_succ (a i : Nat) : oc a (i + 1) = (oc a i + 8) % 96 := by unfold oc; omega
theorem oc_zero (a : Nat) (h : a < 96) : oc a 0 = a := by unfold oc; omega
theorem oc_full (a : Nat) (h : a < 96) : oc a 12 = a := by unfold oc; omega
/-- The cursors of the first i Steps. -/
def oldL (a i : Nat) : List Int := (List.range i).map fun t => (oc a t : Int)
theorem oldL_length (a i : Nat) : (oldL a i).length = i := by simp [oldL]
theorem oldL_succ (a i : Nat) : oldL a (i + 1) = oldL a i ++ [(oc a i : Int)] := by simp [oldL, List.range_succ]
theorem oldL_at (a n i : Nat) (h : i < n) : (oldL a n).getD i 0 = (oc a i : Int) := by simp [oldL, List.getD, h]
/-- The page that is told as the number j of a Step. -/
def pg (c i j : Nat) : Nat := (c + (8 * i + j)) % 96
theorem pg_lt (c i j : Nat) : pg c i j < 96 := Nat.mod_lt _ (by decide)
theorem plc_oc (c i j : Nat) : plc (oc c i) j = (pg c i j : Int) := by unfold plc oc pg; omega
/-- How often each page was told behind m pages. -/
def sn (c m : Nat) : Nat → Int := fun x => if (x + 96 - c) % 96 < m then 1 else 0
theorem sn_zero (c x : Nat) : sn c 0 x = 0 := by unfold sn; rw [if_neg (by omega)]
theorem sn_new (c i j : Nat) (hc : c < 96) (h : 8 * i + j < 96) : sn c (8 * i + j) (pg c i j) = 0 := by
  unfold sn pg
  rw [if_neg (by omega)]
theorem sn_upd (c i j : Nat) (hc : c < 96) (h : 8 * i + j < 96) (x : Nat) (hx : x < 96) : upd (sn c (8 * i + j)) (pg c i j) 1 x = sn c (8 * i + (j + 1)) x := by
  unfold upd sn pg
  by_cases e : x = (c + (8 * i + j)) % 96
  · rw [if_pos e, if_pos (by omega)]
  · rw [if_neg e]
    by_cases e2 : (x + 96 - c) % 96 < 8 * i + j
    · rw [if_pos e2, if_pos (by omega)]
    · rw [if_neg e2, if_neg (by omega)]
theorem sn_full (c x : Nat) : sn c 96 x = 1 := by unfold sn; rw [if_pos (Nat.mod_lt _ (by decide))]
/-- The pages that are told for sure behind m pages. -/
def Tld (c m : Nat) (T : Nat → Bool) : Prop := ∀ x, x < 96 → (x + 96 - c) % 96 < m → T x = true
theorem Tld.upd {c i j : Nat} {T : Nat → Bool} (h : Tld c (8 * i + j) T) (hc : c < 96) : Tld c (8 * i + (j + 1)) (upd T (pg c i j) true) := by
  intro x hx hm
  unfold Proofs.Ytnldbeklcpcdcaa.upd
  by_cases e : x = pg c i j
  · rw [if_pos e]
  · rw [if_neg e]
    refine h x hx ?_
    unfold pg at e
    omega
theorem Tld.full {c : Nat} {T : Nat → Bool} (h : Tld c 96 T) (x : Nat) (hx : x < 96) : T x = true := h x hx (Nat.mod_lt _ (by decide))
/-- A patrol, and what was not changed. -/
structure Rd (w0 w : World) (p c k : Nat) : Prop where
  prog : PB w p 62 c k
  hc : c < 96
  lp : w0.heap.size ≤ p
  chg : Chg (fun _ => False) w0 w
section
variable {w0 w w' : World} {p c k c' k' g : Nat}
theorem Rd.still (h : Rd w0 w p c k) (hc : Chg (fun _ => False) w w') : Rd w0 w' p c k :=
  { h with prog := h.prog.chg hc (fun f => f), chg := h.chg.trans hc }
theorem Rd.step (h : Rd w0 w p c k) (K : PB w' p 62 c' k') (G : Chg (· = p) w w') (hc : c' < 96) : Rd w0 w' p c' k' :=
  { h with prog := K, hc := hc, chg := h.chg.trans' G (fun i hi e => by have := h.lp; omega) }
theorem Rd.other {S : Nat → Prop} (h : Rd w0 w p c k) (G : Chg S w w') (hp : ¬ S p) (hs : ∀ i, i < w0.heap.size → ¬ S i) : Rd w0 w' p c k :=
  { h with prog := h.prog.chg G hp, chg := h.chg.trans' G (fun i hi e => hs i hi e) }
end
theorem zero56 (w : World) : (zeroValue 56).run Try.prog w = .ok (.agg (ints (fun _ => 0) 96).toArray) w := by kernel_rfl
theorem zero57 (w : World) : (zeroValue 57).run Try.prog w = .ok (.agg (bools (fun _ => false) 96).toArray) w := by kernel_rfl
end Go.Proofs.Ytnldbeklcpcdcaa
