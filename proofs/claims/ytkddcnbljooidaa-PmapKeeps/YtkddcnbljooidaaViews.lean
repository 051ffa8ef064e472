/-
  Program and document told alike; up; stands. No condition: lemmas.
-/
import Derived.Test.YtkddcnbljooidaaRef
namespace Go.Proofs.Ytkddcnbljooidaa
set_option maxRecDepth 100000
open Go.RowKit

/-- An error by its number. -/
def errV (c : Nat) : Value := if c = 0 then .nilIface else .iface 40 (.int .i64 c)
def Cd (c : Nat) : Prop := c = 0 ∨ c = 1 ∨ c = 11 ∨ c = 12
theorem code_v (c : Nat) (hc : Cd c) (w : World) : Calls Try.prog 17 #[errV c] w fun e w' => e = .returned (.int .i64 c) ∧ w' = w := by
  rcases hc with rfl | rfl | rfl | rfl
  · exact code_nil w
  · exact code_1 w
  · exact code_11 w
  · exact code_12 w
def setC (L : Nat → Int) (n q : Int) : Nat := if ¬ May n q then 1 else if own L q ≠ -1 ∧ own L q ≠ n then 12 else 0
def setL (L : Nat → Int) (n q : Int) : Nat → Int := if setC L n q = 0 then upd L n.toNat q else L
theorem setC_code (L : Nat → Int) (n q : Int) : Cd (setC L n q) := by
  unfold setC Cd
  split
  · simp
  · split <;> simp
theorem set_v (w : World) (b : Nat) (L : Nat → Int) (h : Mp w b L) (ok : Okl L) (n q : Int) : Calls Try.prog 12 #[.pointer (some ⟨b, 0, none⟩), .int .i64 n, .int .i64 q] w fun e w' => e = .returned (errV (setC L n q)) ∧ Mp w' b (setL L n q) ∧ Chg (· = b) w w' ∧ Okl (setL L n q) := by
  by_cases h1 : May n q
  · obtain ⟨m, rfl⟩ : ∃ m : Nat, n = m := ⟨n.toNat, by have := h1.2.1; omega⟩
    obtain ⟨p, rfl⟩ : ∃ p : Nat, q = p := ⟨q.toNat, by have := h1.1; omega⟩
    by_cases h2 : own L p ≠ -1 ∧ own L p ≠ m
    · have e : setC L m p = 12 := by unfold setC; rw [if_neg (fun h => h h1), if_pos h2]
      refine (set_state w b L h m p h1 h2).mono ?_
      rintro x w' ⟨rfl, rfl⟩
      unfold setL
      rw [e]
      exact ⟨rfl, h, Chg.refl _ _, ok⟩
    · have e : setC L m p = 0 := by unfold setC; rw [if_neg (fun h => h h1), if_neg h2]
      refine (set_yes w b L h ok m p h1 (by omega)).mono ?_
      rintro x w' ⟨rfl, h3, h4, h5⟩
      unfold setL
      rw [e, Int.toNat_natCast]
      exact ⟨rfl, h3, h4, h5⟩
  · have e : setC L n q = 1 := by unfold setC; rw [if_pos h1]
    refine (set_arg w b n q h1).mono ?_
    rintro x w' ⟨rfl, rfl⟩
    unfold setL
    rw [e]
    exact ⟨rfl, h, Chg.refl _ _, ok⟩
theorem rset_v (w : World) (b : Nat) (L : Nat → Int) (h : IB w b 50 25 L) (n q : Int) : Calls Try.prog 18 #[.pointer (some ⟨b, 0, none⟩), .int .i64 n, .int .i64 q] w fun e w' => e = .returned (.int .i64 (setC L n q : Nat)) ∧ IB w' b 50 25 (setL L n q) ∧ Chg (· = b) w w' := by
  by_cases h1 : May n q
  · obtain ⟨m, rfl⟩ : ∃ m : Nat, n = m := ⟨n.toNat, by have := h1.2.1; omega⟩
    obtain ⟨p, rfl⟩ : ∃ p : Nat, q = p := ⟨q.toNat, by have := h1.1; omega⟩
    by_cases h2 : own L p ≠ -1 ∧ own L p ≠ m
    · have e : setC L m p = 12 := by unfold setC; rw [if_neg (fun h => h h1), if_pos h2]
      refine (rset_state w b L h m p h1 h2).mono ?_
      rintro x w' ⟨rfl, rfl⟩
      unfold setL
      rw [e]
      exact ⟨rfl, h, Chg.refl _ _⟩
    · have e : setC L m p = 0 := by unfold setC; rw [if_neg (fun h => h h1), if_neg h2]
      refine (rset_yes w b L h m p h1 (by omega)).mono ?_
      rintro x w' ⟨rfl, h3, h4⟩
      unfold setL
      rw [e, Int.toNat_natCast]
      exact ⟨rfl, h3, h4⟩
  · have e : setC L n q = 1 := by unfold setC; rw [if_pos h1]
    refine (rset_arg w b n q h1).mono ?_
    rintro x w' ⟨rfl, rfl⟩
    unfold setL
    rw [e]
    exact ⟨rfl, h, Chg.refl _ _⟩
/-- At's and Drop's answer. -/
def atC (L : Nat → Int) (n : Int) : Nat := if n < 0 ∨ 25 ≤ n then 1 else if L n.toNat = -1 then 11 else 0
def atV (L : Nat → Int) (n : Int) : Int := if atC L n = 0 then L n.toNat else 0
def dropL (L : Nat → Int) (n : Int) : Nat → Int := if atC L n = 0 then upd L n.toNat (-1) else L
theorem atC_code (L : Nat → Int) (n : Int) : Cd (atC L n) := by
  unfold atC Cd
  split
  · simp
  · split <;> simp
theorem at_cases (L : Nat → Int) (n : Int) : ((n < 0 ∨ 25 ≤ n) ∧ atC L n = 1) ∨ ∃ m : Nat, n = m ∧ m < 25 ∧ ((L m = -1 ∧ atC L n = 11) ∨ (L m ≠ -1 ∧ atC L n = 0)) := by
  unfold atC
  by_cases h : n < 0 ∨ 25 ≤ n
  · exact Or.inl ⟨h, if_pos h⟩
  · refine Or.inr ⟨n.toNat, by omega, by omega, ?_⟩
    rw [if_neg h]
    by_cases e : L n.toNat = -1
    · exact Or.inl ⟨e, if_pos e⟩
    · exact Or.inr ⟨e, if_neg e⟩
theorem at_v (w : World) (b : Nat) (L : Nat → Int) (h : Mp w b L) (n : Int) : Calls Try.prog 13 #[.pointer (some ⟨b, 0, none⟩), .int .i64 n] w fun e w' => e = .returned (.tuple #[.int .i64 (atV L n), errV (atC L n)]) ∧ w' = w := by
  unfold atV
  rcases at_cases L n with ⟨h1, e⟩ | ⟨m, rfl, hm, ⟨h2, e⟩ | ⟨h2, e⟩⟩ <;> rw [e]
  · exact at_arg w b n h1
  · exact at_none w b L h m hm h2
  · exact at_yes w b L h m hm h2
theorem rat_v (w : World) (b : Nat) (L : Nat → Int) (h : IB w b 50 25 L) (ok : Okl L) (n : Int) : Calls Try.prog 20 #[.pointer (some ⟨b, 0, none⟩), .int .i64 n] w fun e w' => e = .returned (.tuple #[.int .i64 (atV L n), .int .i64 (atC L n : Nat)]) ∧ w' = w := by
  unfold atV
  rcases at_cases L n with ⟨h1, e⟩ | ⟨m, rfl, hm, ⟨h2, e⟩ | ⟨h2, e⟩⟩ <;> rw [e]
  · exact rat_arg w b n h1
  · exact rat_none w b L h m hm h2
  · exact rat_yes w b L h m hm (by have := ok.lo hm; omega)
theorem drop_v (w : World) (b : Nat) (L : Nat → Int) (h : Mp w b L) (ok : Okl L) (n : Int) : Calls Try.prog 11 #[.pointer (some ⟨b, 0, none⟩), .int .i64 n] w fun e w' => e = .returned (errV (atC L n)) ∧ Mp w' b (dropL L n) ∧ Chg (· = b) w w' ∧ Okl (dropL L n) := by
  unfold dropL
  rcases at_cases L n with ⟨h1, e⟩ | ⟨m, rfl, hm, ⟨h2, e⟩ | ⟨h2, e⟩⟩ <;> rw [e]
  · refine (drop_arg w b n h1).mono ?_
    rintro x w' ⟨rfl, rfl⟩
    exact ⟨rfl, h, Chg.refl _ _, ok⟩
  · refine (drop_none w b L h m hm h2).mono ?_
    rintro x w' ⟨rfl, rfl⟩
    exact ⟨rfl, h, Chg.refl _ _, ok⟩
  · refine (drop_yes w b L h ok m hm h2).mono ?_
    rintro x w' ⟨rfl, h3, h4⟩
    exact ⟨rfl, h3, h4, ok.clear m⟩
theorem rdrop_v (w : World) (b : Nat) (L : Nat → Int) (h : IB w b 50 25 L) (ok : Okl L) (n : Int) : Calls Try.prog 19 #[.pointer (some ⟨b, 0, none⟩), .int .i64 n] w fun e w' => e = .returned (.int .i64 (atC L n : Nat)) ∧ IB w' b 50 25 (dropL L n) ∧ Chg (· = b) w w' := by
  unfold dropL
  rcases at_cases L n with ⟨h1, e⟩ | ⟨m, rfl, hm, ⟨h2, e⟩ | ⟨h2, e⟩⟩ <;> rw [e]
  · refine (rdrop_arg w b n h1).mono ?_
    rintro x w' ⟨rfl, rfl⟩
    exact ⟨rfl, h, Chg.refl _ _⟩
  · refine (rdrop_none w b L h m hm h2).mono ?_
    rintro x w' ⟨rfl, rfl⟩
    exact ⟨rfl, h, Chg.refl _ _⟩
  · exact rdrop_yes w b L h m hm (by have := ok.lo hm; omega)
/-- Owner's answer. -/
def owC (L : Nat → Int) (q : Int) : Nat := if q < 0 ∨ 96 ≤ q then 1 else if own L q = -1 then 11 else 0
def owV (L : Nat → Int) (q : Int) : Int := if owC L q = 0 then own L q else 0
theorem owC_code (L : Nat → Int) (q : Int) : Cd (owC L q) := by
  unfold owC Cd
  split
  · simp
  · split <;> simp
theorem ow_cases (L : Nat → Int) (q : Int) : ((q < 0 ∨ 96 ≤ q) ∧ owC L q = 1) ∨ ∃ m : Nat, q = m ∧ m < 96 ∧ ((own L m = -1 ∧ owC L q = 11) ∨ (own L m ≠ -1 ∧ owC L q = 0)) := by
  unfold owC
  by_cases h : q < 0 ∨ 96 ≤ q
  · exact Or.inl ⟨h, if_pos h⟩
  · obtain ⟨m, rfl⟩ : ∃ m : Nat, q = m := ⟨q.toNat, by omega⟩
    refine Or.inr ⟨m, rfl, by omega, ?_⟩
    rw [if_neg h]
    by_cases e : own L m = -1
    · exact Or.inl ⟨e, if_pos e⟩
    · exact Or.inr ⟨e, if_neg e⟩
theorem owner_v (w : World) (b : Nat) (L : Nat → Int) (h : Mp w b L) (q : Int) : Calls Try.prog 14 #[.pointer (some ⟨b, 0, none⟩), .int .i64 q] w fun e w' => e = .returned (.tuple #[.int .i64 (owV L q), errV (owC L q)]) ∧ w' = w := by
  unfold owV
  rcases ow_cases L q with ⟨h1, e⟩ | ⟨m, rfl, hm, ⟨h2, e⟩ | ⟨h2, e⟩⟩ <;> rw [e]
  · exact owner_arg w b q h1
  · exact owner_none w b L h m hm h2
  · exact owner_yes w b L h m hm h2
theorem rowner_v (w : World) (b : Nat) (L : Nat → Int) (h : IB w b 50 25 L) (q : Int) : Calls Try.prog 21 #[.pointer (some ⟨b, 0, none⟩), .int .i64 q] w fun e w' => e = .returned (.tuple #[.int .i64 (owV L q), .int .i64 (owC L q : Nat)]) ∧ w' = w := by
  unfold owV
  rcases ow_cases L q with ⟨h1, e⟩ | ⟨m, rfl, hm, ⟨h2, e⟩ | ⟨h2, e⟩⟩ <;> rw [e]
  · exact rowner_arg w b q h1
  · exact rowner_none w b L h m (by omega) h2
  · exact rowner_yes w b L h m (by omega) h2
/-- Of's answer. -/
def ofC (n : Int) : Nat := if n < 0 ∨ 12 ≤ n then 1 else 0
def ofV (L : Nat → Int) (n : Int) : List Int := if n < 0 ∨ 12 ≤ n then [] else ofL L n.toNat
theorem ofC_code (n : Int) : Cd (ofC n) := by
  unfold ofC Cd
  split <;> simp
theorem ofV_length (L : Nat → Int) (n : Int) : (ofV L n).length ≤ 8 := by
  unfold ofV
  split
  · simp
  · exact ofK_length L _ 8
/-- What Of hands back. -/
def OfR (w : World) (l : List Int) (er : Value) (e : Ending) (w' : World) : Prop := (∃ a cap, e = .returned (.tuple #[.slice a l.length cap, er]) ∧ Ow w' w.heap.size (.slice a l.length cap) l) ∧ Chg (fun _ => False) w w'
theorem of_v (w : World) (b : Nat) (L : Nat → Int) (h : Mp w b L) (n : Int) : Calls Try.prog 16 #[.pointer (some ⟨b, 0, none⟩), .int .i64 n] w fun e w' => OfR w (ofV L n) (errV (ofC n)) e w' := by
  unfold ofV ofC
  by_cases h1 : n < 0 ∨ 12 ≤ n
  · rw [if_pos h1, if_pos h1]
    refine (of_arg w b n h1).mono ?_
    rintro x w' ⟨rfl, rfl⟩
    exact ⟨⟨none, 0, rfl, Ow.nil _ _⟩, Chg.refl _ _⟩
  · obtain ⟨m, rfl⟩ : ∃ m : Nat, n = m := ⟨n.toNat, by omega⟩
    rw [if_neg h1, if_neg h1, Int.toNat_natCast]
    exact of_yes w b L h m (by omega)
theorem rof_v (w : World) (b : Nat) (L : Nat → Int) (h : IB w b 50 25 L) (n : Int) : Calls Try.prog 22 #[.pointer (some ⟨b, 0, none⟩), .int .i64 n] w fun e w' => OfR w (ofV L n) (.int .i64 (ofC n : Nat)) e w' := by
  unfold ofV ofC
  by_cases h1 : n < 0 ∨ 12 ≤ n
  · rw [if_pos h1, if_pos h1]
    refine (rof_arg w b n h1).mono ?_
    rintro x w' ⟨rfl, rfl⟩
    exact ⟨⟨none, 0, rfl, Ow.nil _ _⟩, Chg.refl _ _⟩
  · obtain ⟨m, rfl⟩ : ∃ m : Nat, n = m := ⟨n.toNat, by omega⟩
    rw [if_neg h1, if_neg h1, Int.toNat_natCast]
    exact rof_yes w b L h m (by omega)
end Go.Proofs.Ytkddcnbljooidaa
