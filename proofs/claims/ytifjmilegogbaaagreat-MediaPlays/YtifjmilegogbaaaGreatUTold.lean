/-
  What a page is read as (the document's chapter on pages), as a relation between its 256 bytes, its number and the answer; that it has one answer; and what it is where each codeword was turned in two bytes at most, or in four, or where the tag's chunk was never programmed. No condition: lemmas on lists and numbers.
-/
import Derived.Test.YtifjmilegogbaaaGreatUMends
import Derived.Test.YtifjmilegogbaaaGreatUTagDec
import Derived.Test.YtifjmilegogbaaaGreatUAlike
namespace Go.Proofs.YtifjmilegogbaaaGreat
open Go.RowKit
set_option maxRecDepth 100000

/-- The bytes of a page's chunk. -/
theorem pgTo_flat (s : Chp) (a : Nat) : ∀ n, pgTo s a n = flat (fun k => (s.ch (4 * a + k)).now) n := by
  intro n
  induction n with
  | zero => rfl
  | succ n ih => rw [flat_succ, ← ih]; rfl
theorem part_page {s : Chp} (hs : s.Ok) (a k : Nat) (hk : k < 4) : part 64 (pgTo s a 4) k = (s.ch (4 * a + k)).now := by
  rw [pgTo_flat]
  exact part_flat 4 (fun i _ => (hs.ch _).now) k hk
theorem dmgTo_wt (a b : List Nat) : ∀ n, dmgTo a b n = wt (df a b) n := by
  intro n
  induction n with
  | zero => rfl
  | succ n ih =>
    show dmgTo a b n + _ = wt (df a b) n + _
    rw [ih]
    congr 1
    by_cases h : a.getD n 0 = b.getD n 0
    · rw [if_pos h, if_pos (df_zero.2 h)]
    · rw [if_neg h, if_neg (fun e => h (df_zero.1 e))]
/-- The chip's count of damaged bytes is the distance. -/
theorem dmg_ds (k : Chk) : dmg k = ds k.now k.tru := dmgTo_wt _ _ 64

/-- What a page was read as. -/
structure Pg where
  tagged : Bool
  p : Nat
  o : Nat
  s : Nat
  c : Nat
  l : Bool
  sound : Bool
  data : List Nat
  dmg : Nat
/-- The most damage of those of the first chunks that could be read. -/
def dmgs (d c : Nat → Nat) : Nat → Nat
  | 0 => 0
  | k + 1 => if c k = 0 then max (dmgs d c k) (d k) else dmgs d c k
theorem dmgs_congr {d c d' c' : Nat → Nat} : ∀ n, (∀ k, k < n → d k = d' k ∧ c k = c' k) → dmgs d c n = dmgs d' c' n := by
  intro n
  induction n with
  | zero => intro _; rfl
  | succ n ih =>
    intro h
    obtain ⟨h1, h2⟩ := h n (by omega)
    show (if c n = 0 then max (dmgs d c n) (d n) else dmgs d c n) = (if c' n = 0 then max (dmgs d' c' n) (d' n) else dmgs d' c' n)
    rw [ih (fun k hk => h k (by omega)), h1, h2]
/-- The damage of the page L. -/
def DmgR (L : List Nat) (m : Nat) : Prop := ∃ (R : Nat → List Nat) (d c : Nat → Nat), (∀ k, k < 4 → MsgR L (k : Nat) (R k) (d k) (c k)) ∧ m = dmgs d c 4
theorem DmgR.unique {L : List Nat} {m m' : Nat} (h : DmgR L m) (h' : DmgR L m') : m = m' := by
  obtain ⟨R, d, c, h1, rfl⟩ := h
  obtain ⟨R', d', c', h2, rfl⟩ := h'
  exact dmgs_congr 4 (fun k hk => (h1 k hk).unique (h2 k hk) |>.2)
/-- B is the body of a tag that may be, whose place is n. -/
def TagAt (B : List Nat) (bc : Nat) (n : Int) : Prop := bc = 0 ∧ IsB B ∧ ((fld B 0 2 : Nat) : Int) = n
/-- The page of the bytes L, whose number is n, is read as g. -/
def ToldR (L : List Nat) (n : Int) (g : Pg) : Prop :=
  DmgR L g.dmg ∧ ∃ (B : List Nat) (bd bc : Nat), BodR L B bd bc ∧
    ((¬ TagAt B bc n ∧ g.tagged = false ∧ g.p = 0 ∧ g.o = 0 ∧ g.s = 0 ∧ g.c = 0 ∧ g.l = false ∧ g.sound = false ∧ g.data = []) ∨
     (TagAt B bc n ∧ g.tagged = true ∧ g.p = fld B 0 2 ∧ g.o = fld B 2 1 ∧ g.s = fld B 3 5 ∧ g.c = fld B 8 1 ∧ g.l = lst B ∧
      ∃ (D : List Nat) (dd dc : Nat), DatR L D dd dc ∧ ((dc ≠ 0 ∧ g.sound = false ∧ g.data = []) ∨ (dc = 0 ∧ g.sound = true ∧ g.data = D))))
theorem ToldR.unique {L : List Nat} {n : Int} {g g' : Pg} (h : ToldR L n g) (h' : ToldR L n g') : g = g' := by
  obtain ⟨t1, p1, o1, s1, c1, l1, u1, e1, m1⟩ := g
  obtain ⟨t2, p2, o2, s2, c2, l2, u2, e2, m2⟩ := g'
  obtain ⟨hm, B, bd, bc, hB, hr⟩ := h
  obtain ⟨hm', B', bd', bc', hB', hr'⟩ := h'
  obtain ⟨rfl, rfl, rfl⟩ := hB.unique hB'
  obtain rfl : m1 = m2 := hm.unique hm'
  rcases hr with ⟨hn, q1, q2, q3, q4, q5, q6, q7, q8⟩ | ⟨hy, q1, q2, q3, q4, q5, q6, D, dd, dc, hD, q7⟩ <;>
    rcases hr' with ⟨hn', r1, r2, r3, r4, r5, r6, r7, r8⟩ | ⟨hy', r1, r2, r3, r4, r5, r6, D', dd', dc', hD', r7⟩
  · simp only at q1 q2 q3 q4 q5 q6 q7 q8 r1 r2 r3 r4 r5 r6 r7 r8
    subst q1 q2 q3 q4 q5 q6 q7 q8 r1 r2 r3 r4 r5 r6 r7 r8
    rfl
  · exact absurd hy' hn
  · exact absurd hy hn'
  · obtain ⟨rfl, rfl, rfl⟩ := hD.unique hD'
    simp only at q1 q2 q3 q4 q5 q6 q7 r1 r2 r3 r4 r5 r6 r7
    rcases q7 with ⟨x1, x2, x3⟩ | ⟨x1, x2, x3⟩ <;> rcases r7 with ⟨y1, y2, y3⟩ | ⟨y1, y2, y3⟩
    · subst q1 q2 q3 q4 q5 q6 r1 r2 r3 r4 r5 r6 x2 x3 y2 y3
      rfl
    · exact absurd y1 x1
    · exact absurd x1 y1
    · subst q1 q2 q3 q4 q5 q6 r1 r2 r3 r4 r5 r6 x2 x3 y2 y3
      rfl
/-- A chunk within what the code bears, or tells. -/
theorem msg_hurt {Dt Z X R : List Nat} {k d c : Nat} (hD : Dt.length = 174) (bD : Bys Dt) (hZ : Z.length = 50) (bZ : Bys Z) (hX : X.length = 256) (hk : k < 4) (h : MsgR X (k : Nat) R d c) :
    (hurt Dt Z X k ≤ 2 → d = hurt Dt Z X k ∧ c = 0) ∧ (2 < hurt Dt Z X k → hurt Dt Z X k ≤ 4 → c = 5) := by
  rcases h with ⟨h, _⟩ | ⟨i, hi, e, _, ⟨hn, rfl, rfl, rfl⟩ | ⟨hg, rfl⟩⟩
  · exact absurd ⟨hX, by omega, by omega⟩ h
  · obtain rfl : k = i := by omega
    refine ⟨fun h2 => ?_, fun _ _ => rfl⟩
    have := good_hurt hD bD hZ bZ hi h2 hn
    cases this
  · obtain rfl : k = i := by omega
    refine ⟨fun h2 => ?_, fun h2 h4 => ?_⟩
    · have := Option.some.inj (good_hurt hD bD hZ bZ hi h2 hg.1)
      exact ⟨(Prod.mk.inj this).2, rfl⟩
    · have := dec_told hg.1 (word_cw hD bD hZ bZ k hi) h2 h4
      cases this
/-- With at most two bytes of each codeword turned a page is read as it was, with the count. -/
theorem ToldR.mends {Dt X : List Nat} {p o s c : Nat} {l : Bool} {g : Pg} (hD : Dt.length = 174) (bD : Bys Dt) (hm : May p o s c l) (hX : X.length = 256) (h : ToldR X (p : Nat) g) (h2 : ∀ k, k < 4 → hurt Dt (body p o s c l) X k ≤ 2) :
    g.tagged = true ∧ g.p = p ∧ g.o = o ∧ g.s = s ∧ g.c = c ∧ g.l = l ∧ g.sound = true ∧ g.data = Dt ∧
      g.dmg = max (max (max (hurt Dt (body p o s c l) X 0) (hurt Dt (body p o s c l) X 1)) (hurt Dt (body p o s c l) X 2)) (hurt Dt (body p o s c l) X 3) := by
  have hZ := body_length p o s c l
  have bZ := body_bys p o s c l
  obtain ⟨f0, f1, f2, f3, f4⟩ := fld_back p o s c l hm
  have hI := body_is p o s c l hm
  obtain ⟨⟨R, d, cc, hd, hdm⟩, B, bd, bc, hB, hr⟩ := h
  obtain ⟨rfl, -, rfl⟩ := mends_body hD bD hZ bZ hX hB (h2 3 (by omega))
  have hT : TagAt (body p o s c l) 0 (p : Nat) := ⟨rfl, hI, by rw [f0]⟩
  rcases hr with ⟨hn, _⟩ | ⟨_, q1, q2, q3, q4, q5, q6, D, dd, dc, hDD, q7⟩
  · exact absurd hT hn
  · obtain ⟨rfl, -, rfl⟩ := mends_data hD bD hZ bZ hX hDD (by have := h2 0 (by omega); have := h2 1 (by omega); have := h2 2 (by omega); omega)
    rw [f0] at q2
    rw [f1] at q3
    rw [f2] at q4
    rw [f3] at q5
    rw [f4] at q6
    refine ⟨q1, q2, q3, q4, q5, q6, ?_, ?_, ?_⟩
    · rcases q7 with ⟨x, _⟩ | ⟨_, x, _⟩
      · exact absurd rfl x
      · exact x
    · rcases q7 with ⟨x, _⟩ | ⟨_, _, x⟩
      · exact absurd rfl x
      · exact x
    · have e : ∀ k, k < 4 → d k = hurt D (body p o s c l) X k ∧ cc k = 0 := fun k hk => (msg_hurt hD bD hZ bZ hX hk (hd k hk)).1 (h2 k hk)
      rw [hdm]
      simp only [dmgs, (e 0 (by omega)).1, (e 0 (by omega)).2, (e 1 (by omega)).1, (e 1 (by omega)).2, (e 2 (by omega)).1, (e 2 (by omega)).2, (e 3 (by omega)).1, (e 3 (by omega)).2, if_true]
      omega
/-- With at most four it is read as it was, or not at all. -/
theorem ToldR.told {Dt X : List Nat} {p o s c : Nat} {l : Bool} {g : Pg} (hD : Dt.length = 174) (bD : Bys Dt) (hm : May p o s c l) (hX : X.length = 256) (h : ToldR X (p : Nat) g) (h4 : ∀ k, k < 4 → hurt Dt (body p o s c l) X k ≤ 4) :
    (g.tagged = true ↔ hurt Dt (body p o s c l) X 3 ≤ 2) ∧
      (g.sound = true ↔ (hurt Dt (body p o s c l) X 3 ≤ 2 ∧ hurt Dt (body p o s c l) X 0 ≤ 2 ∧ hurt Dt (body p o s c l) X 1 ≤ 2 ∧ hurt Dt (body p o s c l) X 2 ≤ 2)) ∧
      g.dmg ≤ 2 ∧ (g.tagged = true → g.p = p ∧ g.o = o ∧ g.s = s ∧ g.c = c ∧ g.l = l) ∧ (g.sound = true → g.data = Dt) ∧ (g.sound = false → g.data = []) := by
  have hZ := body_length p o s c l
  have bZ := body_bys p o s c l
  obtain ⟨f0, f1, f2, f3, f4⟩ := fld_back p o s c l hm
  have hI := body_is p o s c l hm
  obtain ⟨⟨R, d, cc, hd, hdm⟩, B, bd, bc, hB, hr⟩ := h
  have hdmg : g.dmg ≤ 2 := by
    rw [hdm]
    have e : ∀ k, k < 4 → d k ≤ 2 := fun k hk => (hd k hk).code.2.2
    have : ∀ n, n ≤ 4 → dmgs d cc n ≤ 2 := by
      intro n
      induction n with
      | zero => intro _; exact Nat.zero_le _
      | succ n ih =>
        intro hn
        have h1 := ih (by omega)
        have h2 := e n (by omega)
        show (if cc n = 0 then max (dmgs d cc n) (d n) else dmgs d cc n) ≤ 2
        split <;> omega
    exact this 4 (by omega)
  have a0 := h4 0 (by omega)
  have a1 := h4 1 (by omega)
  have a2 := h4 2 (by omega)
  have a3 := h4 3 (by omega)
  by_cases h3 : hurt Dt (body p o s c l) X 3 ≤ 2
  · obtain ⟨rfl, -, rfl⟩ := mends_body hD bD hZ bZ hX hB h3
    have hT : TagAt (body p o s c l) 0 (p : Nat) := ⟨rfl, hI, by rw [f0]⟩
    rcases hr with ⟨hn, _⟩ | ⟨_, q1, q2, q3, q4, q5, q6, D, dd, dc, hDD, q7⟩
    · exact absurd hT hn
    · rw [f0] at q2
      rw [f1] at q3
      rw [f2] at q4
      rw [f3] at q5
      rw [f4] at q6
      by_cases hdat : max (max (hurt Dt (body p o s c l) X 0) (hurt Dt (body p o s c l) X 1)) (hurt Dt (body p o s c l) X 2) ≤ 2
      · obtain ⟨rfl, -, rfl⟩ := mends_data hD bD hZ bZ hX hDD hdat
        rcases q7 with ⟨x, _⟩ | ⟨_, x, y⟩
        · exact absurd rfl x
        · exact ⟨⟨fun _ => h3, fun _ => q1⟩, ⟨fun _ => ⟨h3, by omega, by omega, by omega⟩, fun _ => x⟩, hdmg, fun _ => ⟨q2, q3, q4, q5, q6⟩, fun _ => y, fun e => (by rw [x] at e; cases e)⟩
      · obtain ⟨rfl, -, rfl⟩ := told_data hD bD hZ bZ hX hDD (by omega) (by omega)
        rcases q7 with ⟨_, x, y⟩ | ⟨x, _⟩
        · exact ⟨⟨fun _ => h3, fun _ => q1⟩, ⟨fun e => (by rw [x] at e; cases e), fun e => absurd (by omega) hdat⟩, hdmg, fun _ => ⟨q2, q3, q4, q5, q6⟩, fun e => (by rw [x] at e; cases e), fun _ => y⟩
        · exact absurd x (by decide)
  · obtain ⟨rfl, -, rfl⟩ := told_body hD bD hZ bZ hX hB (by omega) a3
    rcases hr with ⟨_, q1, q2, q3, q4, q5, q6, q7, q8⟩ | ⟨⟨x, _⟩, _⟩
    · exact ⟨⟨fun e => (by rw [q1] at e; cases e), fun e => absurd e h3⟩, ⟨fun e => (by rw [q7] at e; cases e), fun e => absurd e.1 h3⟩, hdmg, fun e => (by rw [q1] at e; cases e), fun e => (by rw [q7] at e; cases e), fun _ => q8⟩
    · exact absurd x (by decide)
/-- A page whose tag's chunk was never programmed has no tag, whatever four bytes of it turn. -/
theorem ToldR.blank {X : List Nat} {n : Int} {g : Pg} (h : ToldR X n g) (h4 : ds (part 64 X 3) ff64 ≤ 4) : g.tagged = false ∧ g.sound = false ∧ g.data = [] := by
  obtain ⟨_, B, bd, bc, hB, hr⟩ := h
  rcases hr with ⟨_, q1, q2, q3, q4, q5, q6, q7, q8⟩ | ⟨⟨rfl, _⟩, _⟩
  · exact ⟨q1, q7, q8⟩
  · exfalso
    rcases hB with ⟨_, _, _, e⟩ | ⟨_, _, _, _, e⟩ | ⟨_, r, hg, ⟨_, _, _, e⟩ | ⟨hmk, _⟩⟩
    · cases e
    · cases e
    · cases e
    · exact no_body hg.1 h4 hmk
end Go.Proofs.YtifjmilegogbaaaGreat
