/-
  Numbers as bytes, the lowest first. No condition: lemmas on numbers and lists.
-/
import Derived.Test.YtipeldekiloanaaBase
namespace Go.Proofs.Ytipeldekiloanaa

/-- The number that some bytes are, the lowest first. -/
def le : List Nat → Nat
  | [] => 0
  | x :: r => x + 256 * le r
/-- The i-th byte of a number. -/
def byteAt (v i : Nat) : Nat := v / 256 ^ i % 256
/-- A number in n bytes. -/
def bts (v n : Nat) : List Nat := (List.range n).map (byteAt v)
theorem bts_length (v n : Nat) : (bts v n).length = n := by simp [bts]
theorem byteAt_lt (v i : Nat) : byteAt v i < 256 := Nat.mod_lt _ (by decide)
theorem bts_bys (v n : Nat) : Bys (bts v n) := by
  intro x hx
  simp only [bts, List.mem_map, List.mem_range] at hx
  obtain ⟨k, _, rfl⟩ := hx
  exact byteAt_lt v k
theorem bts_getD (v n i : Nat) (h : i < n) : (bts v n).getD i 0 = byteAt v i := by
  simp [bts, List.getD_eq_getElem?_getD, h]
theorem bts_succ (v n : Nat) : bts v (n + 1) = bts v n ++ [byteAt v n] := by simp [bts, List.range_succ]
theorem bts_take (v m n : Nat) (h : m ≤ n) : (bts v n).take m = bts v m := by
  simp [bts, ← List.map_take, List.take_range, Nat.min_eq_left h]
theorem bts_cons (v n : Nat) : bts v (n + 1) = v % 256 :: bts (v / 256) n := by
  simp only [bts, List.range_succ_eq_map, List.map_cons, List.map_map]
  congr 1
  · simp [byteAt]
  · apply List.map_congr_left
    intro i _
    simp only [Function.comp, byteAt, Nat.succ_eq_add_one]
    rw [Nat.pow_succ, Nat.mul_comm, Nat.div_div_eq_div_mul]
theorem le_bts (n : Nat) : ∀ v, le (bts v n) = v % 256 ^ n := by
  induction n with
  | zero => intro v; simp [bts, le, Nat.mod_one]
  | succ n ih =>
    intro v
    rw [bts_cons, le, ih, Nat.pow_succ, Nat.mul_comm (256 ^ n), Nat.mod_mul]
theorem le_lt {l : List Nat} (h : Bys l) : le l < 256 ^ l.length := by
  induction l with
  | nil => simp [le]
  | cons x r ih =>
    have h1 := ih (fun n hn => h n (List.mem_cons_of_mem _ hn))
    have h2 := h x List.mem_cons_self
    rw [le, List.length_cons, Nat.pow_succ]
    omega
theorem bts_le {l : List Nat} (h : Bys l) : bts (le l) l.length = l := by
  induction l with
  | nil => simp [bts]
  | cons x r ih =>
    have h2 := h x List.mem_cons_self
    rw [List.length_cons, bts_cons, le]
    have e1 : (x + 256 * le r) % 256 = x := by omega
    have e2 : (x + 256 * le r) / 256 = le r := by omega
    rw [e1, e2, ih (fun n hn => h n (List.mem_cons_of_mem _ hn))]
theorem le_append (l : List Nat) (x : Nat) : le (l ++ [x]) = le l + 256 ^ l.length * x := by
  induction l with
  | nil => simp [le]
  | cons y r ih =>
    rw [List.cons_append, le, ih, le, List.length_cons, Nat.pow_succ, Nat.mul_add]
    have : 256 * (256 ^ r.length * x) = 256 ^ r.length * 256 * x := by rw [← Nat.mul_assoc, Nat.mul_comm 256]
    omega
theorem le_take_succ (l : List Nat) (k : Nat) (h : k < l.length) : le (l.take (k + 1)) = le (l.take k) + 256 ^ k * l.getD k 0 := by
  rw [List.take_add_one, List.getElem?_eq_getElem h, Option.toList, le_append, List.length_take, Nat.min_eq_left (by omega), List.getD_eq_getElem?_getD, List.getElem?_eq_getElem h]; rfl
theorem le_drop (l : List Nat) (k : Nat) (h : k < l.length) : le (l.drop k) = 256 * le (l.drop (k + 1)) + l.getD k 0 := by
  rw [List.drop_eq_getElem_cons h, le, List.getD_eq_getElem?_getD, List.getElem?_eq_getElem h]
  show l[k] + _ = _ + l[k]
  omega
theorem bys_take {l : List Nat} (h : Bys l) (k : Nat) : Bys (l.take k) := fun n hn => h n (List.mem_of_mem_take hn)
theorem bys_drop {l : List Nat} (h : Bys l) (k : Nat) : Bys (l.drop k) := fun n hn => h n (List.mem_of_mem_drop hn)
end Go.Proofs.Ytipeldekiloanaa
