/-
  The media of the document as a machine over the chip's state: pages read, pages programmed; that each has one answer; and what becomes of a page that is programmed on a calm block, whole or up to a cut, and of one whose bits are turned. No condition: lemmas.
-/
import Derived.Test.YtifjmilegogbaaaGreatUTold
namespace Go.Proofs.YtifjmilegogbaaaGreat
open Go.RowKit
set_option maxRecDepth 100000

/-- A page of which nothing could be read. -/
def Pg.zero : Pg := ⟨false, 0, 0, 0, 0, false, false, [], 0⟩
/-- Read of page a, on the chip s, behind r pages: the chip then, the count then, the page, the error. -/
def ReadR (s : Chp) (r : Int) (a : Int) (s' : Chp) (r' : Int) (g : Pg) (c : Nat) : Prop :=
  s' = (readV s a).1 ∧ c = (readV s a).2.2 ∧ ((c ≠ 0 ∧ r' = r ∧ g = Pg.zero) ∨ (c = 0 ∧ r' = wrap64 (r + 1) ∧ ToldR (readV s a).2.1 a g))
theorem ReadR.unique {s : Chp} {r a : Int} {s1 s2 : Chp} {r1 r2 : Int} {g1 g2 : Pg} {c1 c2 : Nat} (h : ReadR s r a s1 r1 g1 c1) (h' : ReadR s r a s2 r2 g2 c2) : s1 = s2 ∧ r1 = r2 ∧ g1 = g2 ∧ c1 = c2 := by
  obtain ⟨rfl, rfl, h⟩ := h
  obtain ⟨rfl, rfl, h'⟩ := h'
  rcases h with ⟨x, rfl, rfl⟩ | ⟨x, rfl, hg⟩ <;> rcases h' with ⟨y, rfl, rfl⟩ | ⟨y, rfl, hg'⟩
  · exact ⟨rfl, rfl, rfl, rfl⟩
  · exact absurd y x
  · exact absurd x y
  · exact ⟨rfl, rfl, hg.unique hg', rfl⟩
theorem ReadR.ok {s : Chp} {r a : Int} {s1 : Chp} {r1 : Int} {g1 : Pg} {c1 : Nat} (h : ReadR s r a s1 r1 g1 c1) (hs : s.Ok) : s1.Ok := by
  rw [h.1]
  exact readV_ok hs a
/-- The first n chunks of page a are written, up to the first error. -/
def wrN (s : Chp) (a : Int) (W : Nat → List Nat) : Nat → Chp × Nat
  | 0 => (s, 0)
  | n + 1 => if (wrN s a W n).2 = 0 then writeR (wrN s a W n).1 a n (W n) else wrN s a W n
theorem wrN_ok {s : Chp} (hs : s.Ok) (a : Int) {W : Nat → List Nat} : ∀ n, (∀ k, k < n → Bys (W k)) → (wrN s a W n).1.Ok := by
  intro n
  induction n with
  | zero => intro _; exact hs
  | succ n ih =>
    intro hW
    have h1 := ih (fun k hk => hW k (by omega))
    show (if (wrN s a W n).2 = 0 then writeR (wrN s a W n).1 a n (W n) else wrN s a W n).1.Ok
    split
    · exact writeR_ok h1 _ _ (hW n (by omega))
    · exact h1
theorem wrN_code (s : Chp) (a : Int) (W : Nat → List Nat) : ∀ n, nIsCode (wrN s a W n).2 := by
  intro n
  induction n with
  | zero => exact Or.inl rfl
  | succ n ih =>
    show nIsCode (if (wrN s a W n).2 = 0 then writeR (wrN s a W n).1 a n (W n) else wrN s a W n).2
    split
    · exact writeR_code _ _ _ _
    · exact ih
/-- What Program may be asked. -/
def PArg (a p o q c : Int) (l : Bool) (Dt : List Nat) : Prop := (0 ≤ a ∧ a < 96) ∧ May p o q c l ∧ p = a ∧ Dt.length = 174
/-- The page was read as the tag and the data that were programmed. -/
def Pg.Is (g : Pg) (p o q c : Nat) (l : Bool) (Dt : List Nat) : Prop := g.tagged = true ∧ (g.p = p ∧ g.o = o ∧ g.s = q ∧ g.c = c ∧ g.l = l) ∧ g.sound = true ∧ g.data = Dt
/-- Program of page a with a tag that may be, and data of the right size. -/
def ProgR (s : Chp) (r : Int) (a p o q c : Nat) (l : Bool) (Dt : List Nat) (s' : Chp) (r' : Int) (e : Nat) : Prop :=
  ((wrN s a (wordOf Dt (body p o q c l)) 4).2 ≠ 0 ∧ s' = (wrN s a (wordOf Dt (body p o q c l)) 4).1 ∧ r' = r ∧ e = (wrN s a (wordOf Dt (body p o q c l)) 4).2) ∨
  ((wrN s a (wordOf Dt (body p o q c l)) 4).2 = 0 ∧ ∃ g x, ReadR (wrN s a (wordOf Dt (body p o q c l)) 4).1 r a s' r' g x ∧ ((x ≠ 0 ∧ e = x) ∨ (x = 0 ∧ g.Is p o q c l Dt ∧ e = 0) ∨ (x = 0 ∧ ¬ g.Is p o q c l Dt ∧ e = 8)))
theorem ProgR.unique {s : Chp} {r : Int} {a p o q c : Nat} {l : Bool} {Dt : List Nat} {s1 s2 : Chp} {r1 r2 : Int} {e1 e2 : Nat} (h : ProgR s r a p o q c l Dt s1 r1 e1) (h' : ProgR s r a p o q c l Dt s2 r2 e2) : s1 = s2 ∧ r1 = r2 ∧ e1 = e2 := by
  rcases h with ⟨x, rfl, rfl, rfl⟩ | ⟨x, g, y, hR, hc⟩ <;> rcases h' with ⟨x', rfl, rfl, rfl⟩ | ⟨x', g', y', hR', hc'⟩
  · exact ⟨rfl, rfl, rfl⟩
  · exact absurd x' x
  · exact absurd x x'
  · obtain ⟨rfl, rfl, rfl, rfl⟩ := hR.unique hR'
    refine ⟨rfl, rfl, ?_⟩
    rcases hc with ⟨u, rfl⟩ | ⟨u, v, rfl⟩ | ⟨u, v, rfl⟩ <;> rcases hc' with ⟨u', rfl⟩ | ⟨u', v', rfl⟩ | ⟨u', v', rfl⟩
    · rfl
    · exact absurd u' u
    · exact absurd u' u
    · exact absurd u u'
    · rfl
    · exact absurd v v'
    · exact absurd u u'
    · exact absurd v' v
    · rfl

/-- A block of which no write fails. -/
def Blo.Calm (x : Blo) : Prop := x.failed = false ∧ x.wf = false ∧ x.ahead = 0
theorem failW_calm {x : Blo} (h : x.Calm) : failW x = x := by
  obtain ⟨f, wf, ah, ef, rd⟩ := x
  obtain ⟨h1, h2, h3⟩ := h
  simp only at h1 h2 h3
  subst h1 h2 h3
  rfl
/-- A write that is done. -/
theorem write_done {s : Chp} {a k : Nat} {l : List Nat} (ha : a < 96) (hk : k < 4) (hl : l.length = 64) (hon : s.on = true) (hlim : ¬ (s.lim = true ∧ s.bud = 0)) (hnew : (s.ch (4 * a + k)).is = false) (hc : (s.bl (a / 8)).Calm) :
    writeR s a k l = ((goS s).setCh (4 * a + k) (pgmK l), 0) := by
  have e1 : ((a : Int)).toNat = a := Int.toNat_natCast a
  have e2 : ((k : Int)).toNat = k := Int.toNat_natCast k
  unfold writeR
  rw [e1, e2, failW_calm hc, if_neg (by simp only [not_or, Decidable.not_not, ne_eq]; exact ⟨⟨by omega, by omega, by omega, by omega⟩, hl⟩), if_neg (by rw [hon]; simp), if_neg (by rw [hnew]; simp), if_neg hlim, if_neg (by rw [hc.1]; simp)]
  have e3 : (goS s).setBl (a / 8) (s.bl (a / 8)) = goS s := setBl_self (goS s) (a / 8)
  rw [e3]
theorem write_cut {s : Chp} {a k : Nat} {l : List Nat} (ha : a < 96) (hk : k < 4) (hl : l.length = 64) (hon : s.on = true) (hlim : s.lim = true) (hbud : s.bud = 0) (hnew : (s.ch (4 * a + k)).is = false) :
    writeR s a k l = (offS s, 7) := by
  have e1 : ((a : Int)).toNat = a := Int.toNat_natCast a
  have e2 : ((k : Int)).toNat = k := Int.toNat_natCast k
  unfold writeR
  rw [e1, e2, if_neg (by simp only [not_or, Decidable.not_not, ne_eq]; exact ⟨⟨by omega, by omega, by omega, by omega⟩, hl⟩), if_neg (by rw [hon]; simp), if_neg (by rw [hnew]; simp), if_pos ⟨hlim, hbud⟩]
/-- How a chip stands behind n chunks of page a that were written. -/
structure Laid (s t : Chp) (a n : Nat) (W : Nat → List Nat) : Prop where
  on : t.on = s.on
  lim : t.lim = s.lim
  bud : s.lim = true → t.bud = s.bud - n
  bl : t.bl = s.bl
  ch : ∀ j, t.ch j = if 4 * a ≤ j ∧ j < 4 * a + n then pgmK (W (j - 4 * a)) else s.ch j
theorem wrN_done {s : Chp} {a : Nat} {W : Nat → List Nat} (ha : a < 96) (hl : ∀ k, k < 4 → (W k).length = 64) (hon : s.on = true) (hnew : ∀ k, k < 4 → (s.ch (4 * a + k)).is = false) (hc : (s.bl (a / 8)).Calm) :
    ∀ n, n ≤ 4 → (s.lim = true → n ≤ s.bud) → (wrN s a W n).2 = 0 ∧ Laid s (wrN s a W n).1 a n W := by
  intro n
  induction n with
  | zero => exact fun _ _ => ⟨rfl, rfl, rfl, fun _ => rfl, rfl, fun j => by rw [if_neg (by omega)]; rfl⟩
  | succ n ih =>
    intro hn hb
    obtain ⟨h0, L⟩ := ih (by omega) (fun h => by have := hb h; omega)
    have e : wrN s a W (n + 1) = ((goS (wrN s a W n).1).setCh (4 * a + n) (pgmK (W n)), 0) := by
      show (if (wrN s a W n).2 = 0 then writeR (wrN s a W n).1 a n (W n) else wrN s a W n) = _
      rw [if_pos h0]
      refine write_done ha (by omega) (hl n (by omega)) (by rw [L.on, hon]) ?_ ?_ (by rw [L.bl]; exact hc)
      · rw [L.lim]
        rintro ⟨h1, h2⟩
        have h3 := L.bud h1
        have h4 := hb h1
        omega
      · rw [L.ch, if_neg (by omega)]
        exact hnew n (by omega)
    rw [e]
    refine ⟨rfl, L.on, L.lim, fun h => ?_, L.bl, fun j => ?_⟩
    · show (if (wrN s a W n).1.lim then (wrN s a W n).1.bud - 1 else (wrN s a W n).1.bud) = _
      have h3 := L.bud h
      rw [L.lim, h, h3]
      simp only [if_true]
      omega
    · show (if j = 4 * a + n then pgmK (W n) else (wrN s a W n).1.ch j) = _
      by_cases hj : j = 4 * a + n
      · subst hj
        rw [if_pos rfl, if_pos ⟨by omega, by omega⟩, show 4 * a + n - 4 * a = n from by omega]
      · rw [if_neg hj, L.ch]
        by_cases hh : 4 * a ≤ j ∧ j < 4 * a + n
        · rw [if_pos hh, if_pos ⟨by omega, by omega⟩]
        · rw [if_neg hh, if_neg (by omega)]
theorem wrN_stop {s : Chp} {a : Int} {W : Nat → List Nat} {n : Nat} (h : (wrN s a W n).2 ≠ 0) : ∀ m, wrN s a W (n + m) = wrN s a W n := by
  intro m
  induction m with
  | zero => rfl
  | succ m ih =>
    show (if (wrN s a W (n + m)).2 = 0 then _ else wrN s a W (n + m)) = _
    rw [ih, if_neg h]
/-- The power goes behind n chunks. -/
theorem wrN_cut {s : Chp} {a : Nat} {W : Nat → List Nat} {n : Nat} (ha : a < 96) (hl : ∀ k, k < 4 → (W k).length = 64) (hon : s.on = true) (hnew : ∀ k, k < 4 → (s.ch (4 * a + k)).is = false) (hc : (s.bl (a / 8)).Calm) (hlim : s.lim = true) (hbud : s.bud = n) (hn : n < 4) :
    ∃ t, Laid s t a n W ∧ wrN s a W 4 = (offS t, 7) := by
  obtain ⟨h0, L⟩ := wrN_done ha hl hon hnew hc n (by omega) (fun _ => by omega)
  refine ⟨_, L, ?_⟩
  have e : wrN s a W (n + 1) = (offS (wrN s a W n).1, 7) := by
    show (if (wrN s a W n).2 = 0 then writeR (wrN s a W n).1 a n (W n) else wrN s a W n) = _
    rw [if_pos h0]
    exact write_cut ha hn (hl n hn) (by rw [L.on, hon]) (by rw [L.lim, hlim]) (by rw [L.bud hlim, hbud, Nat.sub_self]) (by rw [L.ch, if_neg (by omega)]; exact hnew n hn)
  have h7 : (wrN s a W (n + 1)).2 ≠ 0 := by rw [e]; simp
  have := wrN_stop h7 (4 - (n + 1))
  rw [show n + 1 + (4 - (n + 1)) = 4 from by omega] at this
  rw [this, e]
end Go.Proofs.YtifjmilegogbaaaGreat
