/-
  Words, lines and texts of a script, as lists of bytes: what a line is read as, and that what is told is read as it was. No program.
-/
import Derived.Test.YtepbfdbooobnlaaGreatDoorSM
namespace Go.Proofs.YtepbfdbooobnlaaGreatDoor
open Go.Lib
/-- How many blanks stand ahead. -/
def bl : List UInt8 → Nat
  | [] => 0
  | c :: r => if c = 32 then bl r + 1 else 0
/-- The word that stands ahead. -/
def wd : List UInt8 → List UInt8
  | [] => []
  | c :: r => if c = 32 then [] else c :: wd r
/-- Nothing stands ahead, or a remark. -/
def en : List UInt8 → Bool
  | [] => true
  | c :: _ => c == 35
theorem bl_le : ∀ l : List UInt8, bl l ≤ l.length
  | [] => Nat.le_refl _
  | c :: r => by
    have := bl_le r
    simp only [bl, List.length_cons]
    split <;> omega
theorem wd_le : ∀ l : List UInt8, (wd l).length ≤ l.length
  | [] => Nat.le_refl _
  | c :: r => by
    have := wd_le r
    simp only [wd, List.length_cons]
    split
    · simp
    · rw [List.length_cons]; omega
theorem wd_take : ∀ l : List UInt8, wd l = l.take (wd l).length
  | [] => rfl
  | c :: r => by
    simp only [wd]
    split
    · rfl
    · rw [List.length_cons, List.take_succ_cons, ← wd_take r]
theorem bl_step {l : List UInt8} {p : Nat} {c : UInt8} (h : l[p]? = some c) : bl (l.drop p) = if c = 32 then bl (l.drop (p + 1)) + 1 else 0 := by
  have hp := (List.getElem?_eq_some_iff.1 h)
  obtain ⟨h1, h2⟩ := hp
  rw [List.drop_eq_getElem_cons h1, h2, bl]
theorem wd_step {l : List UInt8} {p : Nat} {c : UInt8} (h : l[p]? = some c) : wd (l.drop p) = if c = 32 then [] else c :: wd (l.drop (p + 1)) := by
  obtain ⟨h1, h2⟩ := (List.getElem?_eq_some_iff.1 h)
  rw [List.drop_eq_getElem_cons h1, h2, wd]
theorem en_step {l : List UInt8} {p : Nat} {c : UInt8} (h : l[p]? = some c) : en (l.drop p) = (c == 35) := by
  obtain ⟨h1, h2⟩ := (List.getElem?_eq_some_iff.1 h)
  rw [List.drop_eq_getElem_cons h1, h2, en]
theorem bl_end {l : List UInt8} {p : Nat} (h : l.length ≤ p) : bl (l.drop p) = 0 := by rw [List.drop_eq_nil_of_le h]; rfl
theorem wd_end {l : List UInt8} {p : Nat} (h : l.length ≤ p) : wd (l.drop p) = [] := by rw [List.drop_eq_nil_of_le h]; rfl
theorem en_end {l : List UInt8} {p : Nat} (h : l.length ≤ p) : en (l.drop p) = true := by rw [List.drop_eq_nil_of_le h]; rfl
/-- Behind the blanks no blank stands. -/
theorem bl_bl : ∀ l : List UInt8, bl (l.drop (bl l)) = 0
  | [] => rfl
  | c :: r => by
    by_cases h : c = 32
    · rw [bl, if_pos h, List.drop_succ_cons]; exact bl_bl r
    · rw [bl, if_neg h, List.drop_zero, bl, if_neg h]
theorem wd_ne {l : List UInt8} (hb : bl l = 0) (he : en l = false) : wd l ≠ [] := by
  cases l with
  | nil => simp [en] at he
  | cons c r =>
    have hc : ¬ c = 32 := by intro h; rw [bl, if_pos h] at hb; omega
    rw [wd, if_neg hc]; simp
/-- Where the next word begins, in a line, from a place on. -/
def nx (l : List UInt8) (p : Nat) : Nat := p + bl (l.drop p)
theorem nx_ge (l : List UInt8) (p : Nat) : p ≤ nx l p := Nat.le_add_right _ _
theorem nx_le {l : List UInt8} {p : Nat} (h : p ≤ l.length) : nx l p ≤ l.length := by
  have := bl_le (l.drop p)
  rw [List.length_drop] at this
  unfold nx; omega
theorem nx_nx (l : List UInt8) (p : Nat) : bl (l.drop (nx l p)) = 0 := by
  have := bl_bl (l.drop p)
  rw [List.drop_drop] at this
  exact this
/-- The word at a place, and what stands behind it. -/
def wo (l : List UInt8) (p : Nat) : List UInt8 := wd (l.drop p)
def af (l : List UInt8) (p : Nat) : Nat := p + (wo l p).length
theorem af_le {l : List UInt8} {p : Nat} (h : p ≤ l.length) : af l p ≤ l.length := by
  have := wd_le (l.drop p)
  rw [List.length_drop] at this
  unfold af wo; omega
/-- The kinds' words. -/
def wds : List (List UInt8) := [[], [114, 101, 97, 100], [119, 114, 105, 116, 101], [116, 114, 105, 109], [109, 111, 117, 110, 116], [114, 101, 112, 111, 114, 116], [102, 108, 105, 112], [102, 97, 105, 108, 112, 114, 111, 103, 114, 97, 109], [102, 97, 105, 108, 101, 114, 97, 115, 101], [99, 117, 116], [112, 111, 119, 101, 114]]
def wk (k : Nat) : List UInt8 := wds.getD k []
/-- How many numbers a kind has. -/
def cnt (k : Nat) : Nat := [0, 1, 2, 1, 0, 0, 2, 2, 1, 1, 0].getD k 0
theorem cnt_le (k : Nat) : cnt k ≤ 2 := by
  by_cases h : k < 11
  · match k, h with
    | 0, _ | 1, _ | 2, _ | 3, _ | 4, _ | 5, _ | 6, _ | 7, _ | 8, _ | 9, _ | 10, _ => decide
  · have : cnt k = 0 := by unfold cnt; rw [List.getD_eq_getElem?_getD, List.getElem?_eq_none (by simp; omega)]; rfl
    omega
/-- The kind of a word among the first n, 0: it is none's. -/
def kdN (w : List UInt8) : Nat → Nat
  | 0 => 0
  | n + 1 => if n ≠ 0 ∧ wk n = w then n else kdN w n
def kd (w : List UInt8) : Nat := kdN w 11
theorem kdN_lt (w : List UInt8) : ∀ n, kdN w n < n ∨ kdN w n = 0
  | 0 => Or.inr rfl
  | n + 1 => by
    rw [kdN]
    split
    · omega
    · have := kdN_lt w n; omega
theorem kd_le (w : List UInt8) : kd w ≤ 10 := by have := kdN_lt w 11; unfold kd; omega
theorem wk_inj : ∀ i, i < 11 → ∀ j, j < 11 → wk i = wk j → i = j := by decide +kernel
theorem kdN_hit {w : List UInt8} {k : Nat} (hk : k ≠ 0) (e : wk k = w) (hk11 : k < 11) : ∀ n, n ≤ 11 → kdN w n = if k < n then k else 0
  | 0, _ => by simp [kdN]
  | n + 1, hn => by
    rw [kdN, kdN_hit hk e hk11 n (by omega)]
    by_cases h : n = k
    · subst h; rw [if_pos ⟨hk, e⟩, if_pos (by omega)]
    · rw [if_neg]
      · by_cases h2 : k < n
        · rw [if_pos h2, if_pos (by omega)]
        · rw [if_neg h2, if_neg (by omega)]
      · rintro ⟨_, h2⟩
        exact h (wk_inj n (by omega) k hk11 (h2.trans e.symm))
theorem kd_hit {w : List UInt8} {k : Nat} (hk : k ≠ 0) (e : wk k = w) (hk11 : k < 11) : kd w = k := by unfold kd; rw [kdN_hit hk e hk11 11 (Nat.le_refl _), if_pos hk11]
theorem kdN_miss {w : List UInt8} (h : ∀ k, k < 11 → k ≠ 0 → wk k ≠ w) : ∀ n, n ≤ 11 → kdN w n = 0
  | 0, _ => rfl
  | n + 1, hn => by
    rw [kdN, kdN_miss h n (by omega), if_neg]
    rintro ⟨h1, h2⟩
    exact h n (by omega) h1 h2
theorem kdN_wk (w : List UInt8) : ∀ n, kdN w n ≠ 0 → wk (kdN w n) = w
  | 0, h => absurd rfl h
  | n + 1, h => by
    rw [kdN] at h ⊢
    split at h
    · rename_i h2; rw [if_pos h2]; exact h2.2
    · rename_i h2; rw [if_neg h2]; exact kdN_wk w n h
/-- A step: its kind and two numbers. -/
structure Stp where
  k : Nat
  a : Int
  b : Int
/-- What a line is read as: nothing or a step, or the error and its place. -/
abbrev Ln := Except (Nat × Nat) (Option Stp)
/-- The number that is due: its value and what is behind it, or the error and its place. -/
abbrev Du := Except (Nat × Nat) (Int × Nat)
def due (l : List UInt8) (p : Nat) : Du :=
  if en (l.drop (nx l p)) then .error (18, nx l p)
  else match num (wo l (nx l p)) with
    | none => .error (17, nx l p)
    | some v => .ok (v, af l (nx l p))
def fin (l : List UInt8) (k : Nat) (a b : Int) (p : Nat) : Ln :=
  if en (l.drop (nx l p)) then .ok (some ⟨k, a, b⟩) else .error (19, nx l p)
def lin (l : List UInt8) : Ln :=
  if en (l.drop (nx l 0)) then .ok none
  else if kd (wo l (nx l 0)) = 0 then .error (16, nx l 0)
  else if cnt (kd (wo l (nx l 0))) = 0 then fin l (kd (wo l (nx l 0))) 0 0 (af l (nx l 0))
  else match due l (af l (nx l 0)) with
    | .error x => .error x
    | .ok (v, p) => if cnt (kd (wo l (nx l 0))) = 1 then fin l (kd (wo l (nx l 0))) v 0 p
      else match due l p with
        | .error x => .error x
        | .ok (v2, p2) => fin l (kd (wo l (nx l 0))) v v2 p2
/-- A step that can be told. -/
structure Okt (s : Stp) : Prop where
  k1 : 1 ≤ s.k
  k2 : s.k ≤ 10
  a0 : cnt s.k = 0 → s.a = 0
  b0 : cnt s.k ≤ 1 → s.b = 0
  ai : I64 s.a
  bi : I64 s.b
theorem due_ok {l : List UInt8} {p p2 : Nat} {v : Int} (h : due l p = .ok (v, p2)) : I64 v ∧ p2 = af l (nx l p) := by
  unfold due at h
  split at h
  · cases h
  · split at h
    · cases h
    · rename_i u hu
      simp only [Except.ok.injEq, Prod.mk.injEq] at h
      obtain ⟨h1, h2⟩ := h
      subst h1
      exact ⟨((num_iff _ _).1 hu).2, h2.symm⟩
theorem i64_0 : I64 0 := ⟨by omega, by omega⟩
/-- What is read can be told. -/
theorem lin_ok {l : List UInt8} {k : Nat} {a b : Int} (h : lin l = .ok (some ⟨k, a, b⟩)) : Okt ⟨k, a, b⟩ := by
  unfold lin at h
  split at h
  · cases h
  · generalize hk : kd (wo l (nx l 0)) = kk at h
    have hk10 : kk ≤ 10 := hk ▸ kd_le _
    split at h
    · cases h
    · rename_i hk0
      split at h
      · rename_i hc
        unfold fin at h
        split at h
        · simp only [Except.ok.injEq, Option.some.injEq, Stp.mk.injEq] at h; obtain ⟨h1, h2, h3⟩ := h; subst h1 h2 h3
          exact ⟨by show 1 ≤ kk; omega, hk10, fun _ => rfl, fun _ => rfl, i64_0, i64_0⟩
        · cases h
      · rename_i hc
        split at h
        · cases h
        · rename_i v p hd
          split at h
          · rename_i hc1
            unfold fin at h
            split at h
            · simp only [Except.ok.injEq, Option.some.injEq, Stp.mk.injEq] at h; obtain ⟨h1, h2, h3⟩ := h; subst h1 h2 h3
              exact ⟨by show 1 ≤ kk; omega, hk10, fun hx => absurd hx hc, fun _ => rfl, (due_ok hd).1, i64_0⟩
            · cases h
          · rename_i hc1
            split at h
            · cases h
            · rename_i v2 p2 hd2
              unfold fin at h
              split at h
              · simp only [Except.ok.injEq, Option.some.injEq, Stp.mk.injEq] at h; obtain ⟨h1, h2, h3⟩ := h; subst h1 h2 h3
                have := cnt_le kk
                exact ⟨by show 1 ≤ kk; omega, hk10, fun hx => absurd hx hc, fun hx => by simp only at hx; omega, (due_ok hd).1, (due_ok hd2).1⟩
              · cases h
/-- The lines of a text. -/
def lns : List UInt8 → List (List UInt8)
  | [] => [[]]
  | c :: r => if c = 10 then [] :: lns r else ((c :: (lns r).headD []) :: (lns r).tail)
theorem lns_ne (l : List UInt8) : lns l ≠ [] := by
  cases l with
  | nil => simp [lns]
  | cons c r => rw [lns]; split <;> simp
theorem lns_one : ∀ {a : List UInt8}, (10 : UInt8) ∉ a → lns a = [a]
  | [], _ => rfl
  | c :: r, h => by
    rw [List.mem_cons, not_or] at h
    rw [lns, if_neg (fun e => h.1 e.symm), lns_one h.2]; rfl
theorem lns_app : ∀ {a : List UInt8} (r : List UInt8), (10 : UInt8) ∉ a → lns (a ++ 10 :: r) = a :: lns r
  | [], r, _ => by rw [List.nil_append, lns, if_pos rfl]
  | c :: a, r, h => by
    rw [List.mem_cons, not_or] at h
    rw [List.cons_append, lns, if_neg (fun e => h.1 e.symm), lns_app r h.2]; rfl
theorem index_no {c : UInt8} : ∀ {a : List UInt8}, c ∉ a → index a [c] = -1
  | [], _ => rfl
  | d :: a, h => by
    rw [List.mem_cons, not_or] at h
    have h0 : [c].isPrefixOf (d :: a) = false := by simp [List.isPrefixOf, h.1]
    rw [index, h0, index_no h.2]; rfl
theorem index_at {c : UInt8} : ∀ {a : List UInt8} (r : List UInt8), c ∉ a → index (a ++ c :: r) [c] = a.length
  | [], r, _ => by simp [index, List.isPrefixOf]
  | d :: a, r, h => by
    rw [List.mem_cons, not_or] at h
    have h0 : [c].isPrefixOf (d :: (a ++ c :: r)) = false := by simp [List.isPrefixOf, h.1]
    have h1 : (((a.length : Nat) : Int) == -1) = false := by rw [beq_eq_false_iff_ne]; omega
    rw [List.cons_append, index, h0, index_at r h.2, h1]
    simp
theorem split_lns (l : List UInt8) : splitK [10] 0 (count l [10]) l = lns l := by
  induction hn : l.length using Nat.strongRecOn generalizing l with
  | _ n ih =>
    by_cases h : (10 : UInt8) ∈ l
    · obtain ⟨a, r, rfl, ha⟩ := List.eq_append_cons_of_mem h
      have h1 := index_at (c := 10) r ha
      have h2 : count (a ++ 10 :: r) [10] = count r [10] + 1 := by
        rw [count_one, count_one, List.count_append, List.count_cons_self, List.count_eq_zero.2 ha]; omega
      have h3 : (index (a ++ 10 :: r) [10] == -1) = false := by rw [h1, beq_eq_false_iff_ne]; omega
      rw [h2, splitK, h3, h1]
      simp only [Bool.false_eq_true, if_false, Int.toNat_natCast, Nat.add_zero, List.length_singleton]
      rw [lns_app r ha, List.take_left, show (a ++ 10 :: r).drop (a.length + 1) = r by rw [← List.drop_drop, List.drop_left]; rfl]
      rw [ih r.length (by simp at hn; omega) r rfl]
    · have h1 := index_no h
      rw [lns_one h, count_one, List.count_eq_zero.2 h, splitK]
theorem cut_wd (l : List UInt8) : (cut l [32]).1 = wd l := by
  unfold cut
  by_cases h : (32 : UInt8) ∈ l
  · obtain ⟨a, r, rfl, ha⟩ := List.eq_append_cons_of_mem h
    rw [index_at r ha, if_pos (by omega), Int.toNat_natCast]
    show (a ++ 32 :: r).take a.length = _
    rw [List.take_left]
    clear h
    induction a with
    | nil => simp [wd]
    | cons c a ih =>
      rw [List.mem_cons, not_or] at ha
      rw [List.cons_append, wd, if_neg (fun e => ha.1 e.symm), ← ih ha.2]
  · rw [index_no h, if_neg (by omega)]
    show l = _
    induction l with
    | nil => rfl
    | cons c a ih =>
      rw [List.mem_cons, not_or] at h
      rw [wd, if_neg (fun e => h.1 e.symm), ← ih h.2]
/-- What lines are read as: the first that is amiss (its number, its place, the error), or the steps. -/
abbrev Pr := Except (Nat × Nat × Nat) (List Stp)
def lcons : Option Stp → List Stp → List Stp
  | some s, l => s :: l
  | none, l => l
def prs (n : Nat) : List (List UInt8) → Pr
  | [] => .ok []
  | l :: r => match lin l with
    | .error (c, p) => .error (n, p, c)
    | .ok q => match prs (n + 1) r with
      | .error x => .error x
      | .ok s => .ok (lcons q s)
/-- What a text is read as. -/
def prt (l : List UInt8) : Pr := prs 1 (lns l)
theorem prs_ok : ∀ (ls : List (List UInt8)) (n : Nat) (s : List Stp), prs n ls = .ok s → ∀ x ∈ s, Okt x
  | [], n, s, h => by simp [prs] at h; subst h; simp
  | l :: r, n, s, h => by
    rw [prs] at h
    split at h
    · cases h
    · rename_i q hq
      split at h
      · cases h
      · rename_i s' hs
        injection h with h
        subst h
        have ih := prs_ok r (n + 1) s' hs
        cases q with
        | none => exact ih
        | some y =>
          intro x hx
          rcases List.mem_cons.1 hx with rfl | hx
          · exact lin_ok hq
          · exact ih x hx
end Go.Proofs.YtepbfdbooobnlaaGreatDoor
