/-
  What Message, Data and Body answer of a page, told once for the program and for the document: bytes, a number, an error's number. Condition: the page's bytes can be read.
-/
import Derived.Test.YtdofegphipbcdaaRefPage
import Derived.Test.YtdofegphipbcdaaTight
namespace Go.Proofs.Ytdofegphipbcdaa
open Go.RowKit
set_option maxRecDepth 100000

/-- Message of the page L, chunk k: the bytes R, the number d, the error c. -/
def MsgR (L : List Nat) (k : Int) (R : List Nat) (d c : Nat) : Prop :=
  (¬ (L.length = 256 ∧ 0 ≤ k ∧ k ≤ 3) ∧ R = [] ∧ d = 0 ∧ c = 1) ∨
  (∃ i : Nat, i < 4 ∧ k = i ∧ L.length = 256 ∧ ((IsDec (part 64 L i) none ∧ R = [] ∧ d = 0 ∧ c = 5) ∨ (Good L i (R, d) ∧ c = 0)))
/-- Data of the page L. -/
def DatR (L : List Nat) (R : List Nat) (d c : Nat) : Prop :=
  (L.length ≠ 256 ∧ R = [] ∧ d = 0 ∧ c = 1) ∨
  (L.length = 256 ∧ (∃ i, i < 3 ∧ IsDec (part 64 L i) none) ∧ R = [] ∧ d = 0 ∧ c = 5) ∨
  (L.length = 256 ∧ ∃ r0 r1 r2 : List Nat × Nat, Good L 0 r0 ∧ Good L 1 r1 ∧ Good L 2 r2 ∧ R = r0.1 ++ r1.1 ++ r2.1 ∧ d = max (max r0.2 r1.2) r2.2 ∧ c = 0)
/-- Body of the page L. -/
def BodR (L : List Nat) (R : List Nat) (d c : Nat) : Prop :=
  (L.length ≠ 256 ∧ R = [] ∧ d = 0 ∧ c = 1) ∨
  (L.length = 256 ∧ IsDec (part 64 L 3) none ∧ R = [] ∧ d = 0 ∧ c = 5) ∨
  (L.length = 256 ∧ ∃ r : List Nat × Nat, Good L 3 r ∧ ((r.1.drop 50 ≠ mk ∧ R = [] ∧ d = 0 ∧ c = 6) ∨ (r.1.drop 50 = mk ∧ R = r.1.take 50 ∧ d = r.2 ∧ c = 0)))
theorem Good.unique {L : List Nat} {i : Nat} {r r' : List Nat × Nat} (h : Good L i r) (h' : Good L i r') : r = r' := Option.some.inj (h.1.unique h'.1)
theorem Good.not_none {L : List Nat} {i : Nat} {r : List Nat × Nat} (h : Good L i r) (h' : IsDec (part 64 L i) none) : False := by
  have := h.1.unique h'
  cases this
theorem MsgR.unique {L : List Nat} {k : Int} {R R' : List Nat} {d c d' c' : Nat} (h : MsgR L k R d c) (h' : MsgR L k R' d' c') : R = R' ∧ d = d' ∧ c = c' := by
  rcases h with ⟨h1, rfl, rfl, rfl⟩ | ⟨i, hi, hk, hl, h⟩
  · rcases h' with ⟨_, rfl, rfl, rfl⟩ | ⟨i, hi, hk, hl, _⟩
    · exact ⟨rfl, rfl, rfl⟩
    · exact (h1 ⟨hl, by omega, by omega⟩).elim
  · rcases h' with ⟨h1, _⟩ | ⟨i', hi', hk', hl', h'⟩
    · exact (h1 ⟨hl, by omega, by omega⟩).elim
    · have e : i' = i := by omega
      subst e
      rcases h with ⟨h1, rfl, rfl, rfl⟩ | ⟨h1, rfl⟩ <;> rcases h' with ⟨h2, rfl, rfl, rfl⟩ | ⟨h2, rfl⟩
      · exact ⟨rfl, rfl, rfl⟩
      · exact (h2.not_none h1).elim
      · exact (h1.not_none h2).elim
      · have e := h1.unique h2
        simp only [Prod.mk.injEq] at e
        exact ⟨e.1, e.2, rfl⟩
theorem DatR.unique {L : List Nat} {R R' : List Nat} {d c d' c' : Nat} (h : DatR L R d c) (h' : DatR L R' d' c') : R = R' ∧ d = d' ∧ c = c' := by
  have nn : ∀ {r0 r1 r2 : List Nat × Nat} {i : Nat}, Good L 0 r0 → Good L 1 r1 → Good L 2 r2 → i < 3 → IsDec (part 64 L i) none → False := fun {r0 r1 r2 i} g0 g1 g2 hi hn => by
    have : i = 0 ∨ i = 1 ∨ i = 2 := by omega
    rcases this with rfl | rfl | rfl
    · exact g0.not_none hn
    · exact g1.not_none hn
    · exact g2.not_none hn
  rcases h with ⟨h1, rfl, rfl, rfl⟩ | ⟨h1, ⟨i, hi, hn⟩, rfl, rfl, rfl⟩ | ⟨h1, r0, r1, r2, g0, g1, g2, rfl, rfl, rfl⟩ <;> rcases h' with ⟨h2, rfl, rfl, rfl⟩ | ⟨h2, ⟨i', hi', hn'⟩, rfl, rfl, rfl⟩ | ⟨h2, r0', r1', r2', g0', g1', g2', rfl, rfl, rfl⟩
  · exact ⟨rfl, rfl, rfl⟩
  · exact (h1 h2).elim
  · exact (h1 h2).elim
  · exact (h2 h1).elim
  · exact ⟨rfl, rfl, rfl⟩
  · exact (nn g0' g1' g2' hi hn).elim
  · exact (h2 h1).elim
  · exact (nn g0 g1 g2 hi' hn').elim
  · have e0 := g0.unique g0'
    have e1 := g1.unique g1'
    have e2 := g2.unique g2'
    subst e0 e1 e2
    exact ⟨rfl, rfl, rfl⟩
theorem BodR.unique {L : List Nat} {R R' : List Nat} {d c d' c' : Nat} (h : BodR L R d c) (h' : BodR L R' d' c') : R = R' ∧ d = d' ∧ c = c' := by
  rcases h with ⟨h1, rfl, rfl, rfl⟩ | ⟨h1, hn, rfl, rfl, rfl⟩ | ⟨h1, r, g, h⟩ <;> rcases h' with ⟨h2, rfl, rfl, rfl⟩ | ⟨h2, hn', rfl, rfl, rfl⟩ | ⟨h2, r', g', h'⟩
  · exact ⟨rfl, rfl, rfl⟩
  · exact (h1 h2).elim
  · exact (h1 h2).elim
  · exact (h2 h1).elim
  · exact ⟨rfl, rfl, rfl⟩
  · exact (g'.not_none hn).elim
  · exact (h2 h1).elim
  · exact (g.not_none hn').elim
  · have e := g.unique g'
    subst e
    rcases h with ⟨h3, rfl, rfl, rfl⟩ | ⟨h3, rfl, rfl, rfl⟩ <;> rcases h' with ⟨h4, rfl, rfl, rfl⟩ | ⟨h4, rfl, rfl, rfl⟩
    · exact ⟨rfl, rfl, rfl⟩
    · exact (h3 h4).elim
    · exact (h4 h3).elim
    · exact ⟨rfl, rfl, rfl⟩
/-- A number of an error that is told of a page. -/
def IsCode (c : Nat) : Prop := c = 0 ∨ c = 1 ∨ c = 5 ∨ c = 6
theorem MsgR.code {L : List Nat} {k : Int} {R : List Nat} {d c : Nat} (h : MsgR L k R d c) : IsCode c ∧ R.length ≤ 58 ∧ d ≤ 2 := by
  rcases h with ⟨_, rfl, rfl, rfl⟩ | ⟨i, _, _, _, ⟨_, rfl, rfl, rfl⟩ | ⟨h, rfl⟩⟩
  · exact ⟨by simp [IsCode], by simp, by omega⟩
  · exact ⟨by simp [IsCode], by simp, by omega⟩
  · exact ⟨by simp [IsCode], Nat.le_of_eq h.2.1, h.2.2.2⟩
theorem DatR.code {L : List Nat} {R : List Nat} {d c : Nat} (h : DatR L R d c) : IsCode c ∧ R.length ≤ 174 ∧ d ≤ 2 := by
  rcases h with ⟨_, rfl, rfl, rfl⟩ | ⟨_, _, rfl, rfl, rfl⟩ | ⟨_, r0, r1, r2, g0, g1, g2, rfl, rfl, rfl⟩
  · exact ⟨by simp [IsCode], by simp, by omega⟩
  · exact ⟨by simp [IsCode], by simp, by omega⟩
  · have h0 := g0.2.1
    have h1 := g1.2.1
    have h2 := g2.2.1
    have k0 := g0.2.2.2
    have k1 := g1.2.2.2
    have k2 := g2.2.2.2
    exact ⟨by simp [IsCode], by simp only [List.length_append]; omega, by omega⟩
theorem BodR.code {L : List Nat} {R : List Nat} {d c : Nat} (h : BodR L R d c) : IsCode c ∧ R.length ≤ 50 ∧ d ≤ 2 := by
  rcases h with ⟨_, rfl, rfl, rfl⟩ | ⟨_, _, rfl, rfl, rfl⟩ | ⟨_, r, g, ⟨_, rfl, rfl, rfl⟩ | ⟨_, rfl, rfl, rfl⟩⟩
  · exact ⟨by simp [IsCode], by simp, by omega⟩
  · exact ⟨by simp [IsCode], by simp, by omega⟩
  · exact ⟨by simp [IsCode], by simp, by omega⟩
  · exact ⟨by simp [IsCode], by simp; omega, g.2.2.2⟩
theorem code_any (c : Nat) (h : IsCode c) (w : World) : Calls Try.prog 23 #[errV c] w fun e w' => e = .returned (.int .i64 c) ∧ w' = w := by
  rcases h with rfl | rfl | rfl | rfl
  · exact code_0 w
  · exact code_1 w
  · exact code_5 w
  · exact code_6 w

/-- An answer of the program: bytes of its own, a number, an error. -/
def PAns (w' : World) (base : Nat) (Q : List Nat → Nat → Nat → Prop) (e : Ending) : Prop :=
  ∃ (a : Option Addr) (n cap : Nat) (R : List Nat) (d c : Nat), e = .returned (.tuple #[.slice a n cap, .int .i64 (d : Int), errV c]) ∧ n = R.length ∧ Q R d c ∧ OwnT w' base 5 (.slice a n cap) R
/-- An answer of the document. -/
def RAns (w' : World) (Q : List Nat → Nat → Nat → Prop) (e : Ending) : Prop :=
  ∃ (a : Option Addr) (n cap : Nat) (R : List Nat) (d c : Nat), e = .returned (.tuple #[.slice a n cap, .int .i64 (d : Int), .int .i64 (c : Int)]) ∧ n = R.length ∧ Q R d c ∧ Held w' (.slice a n cap) R
theorem ownT_nil (w : World) (base : Nat) : OwnT w base 5 (.slice none 0 0) [] := Or.inl (Own.nil w base 5)
theorem held_nil (w : World) : Held w (.slice none 0 0) [] := ⟨none, 0, rfl, Or.inl rfl⟩

theorem message_v (p q b : Nat) (w : World) (h : Frm w p q b) (c o n cap : Nat) (L : List Nat) (hn : n = L.length) (bL : Bys L) (hcb : c ≠ b) (hcs : c < w.heap.size) (hcap : n ≤ cap) (hh : Held w (.slice (some ⟨c, o, none⟩) n cap) L) (k : Int) :
    Calls Try.prog 17 #[.pointer (some ⟨p, 0, none⟩), .slice (some ⟨c, o, none⟩) n cap, .int .i64 k] w fun e w' => PAns w' w.heap.size (MsgR L k) e ∧ Frm w' p q b ∧ But b w w' := by
  by_cases h256 : L.length = 256
  · have e : n = 256 := by omega
    subst e
    have hcell := (held_cells hh (by omega)).2
    refine (message_any p q b w h c o cap L h256 bL hcb hcs (by omega) (fun i hi => hcell i (by omega)) k).mono ?_
    rintro e w' ⟨hA, F, B⟩
    refine ⟨?_, F, B⟩
    rcases hA with ⟨i, hi, hk, ⟨hN, rfl⟩ | ⟨m, d, g, h1, h2, h3, h4, rfl, h6, h7⟩⟩ | ⟨hk, rfl⟩
    · exact ⟨none, 0, 0, [], 0, 5, rfl, rfl, Or.inr ⟨i, hi, hk, h256, Or.inl ⟨hN, rfl, rfl, rfl⟩⟩, ownT_nil _ _⟩
    · exact ⟨_, 58, 58, m, d, 0, rfl, h3.symm, Or.inr ⟨i, hi, hk, h256, Or.inr ⟨⟨h1, h3, h4, h2⟩, rfl⟩⟩, h7.own h6 58 h3.symm (by decide)⟩
    · exact ⟨none, 0, 0, [], 0, 1, rfl, rfl, Or.inl ⟨fun h => hk h.2, rfl, rfl, rfl⟩, ownT_nil _ _⟩
  · refine (message_arg p w _ n cap k (by omega)).mono ?_
    rintro e w' ⟨rfl, G⟩
    exact ⟨⟨none, 0, 0, [], 0, 1, rfl, rfl, Or.inl ⟨fun h => h256 h.1, rfl, rfl, rfl⟩, ownT_nil _ _⟩, h.chg G, G.but⟩
theorem data_v (p q b : Nat) (w : World) (h : Frm w p q b) (c o n cap : Nat) (L : List Nat) (hn : n = L.length) (bL : Bys L) (hcb : c ≠ b) (hcs : c < w.heap.size) (hcap : n ≤ cap) (hh : Held w (.slice (some ⟨c, o, none⟩) n cap) L) :
    Calls Try.prog 18 #[.pointer (some ⟨p, 0, none⟩), .slice (some ⟨c, o, none⟩) n cap] w fun e w' => PAns w' w.heap.size (DatR L) e ∧ Frm w' p q b ∧ But b w w' := by
  by_cases h256 : L.length = 256
  · have e : n = 256 := by omega
    subst e
    have hcell := (held_cells hh (by omega)).2
    refine (data_any p q b w h c o cap L h256 bL hcb hcs (by omega) (fun i hi => hcell i (by omega))).mono ?_
    rintro e w' ⟨hA, F, B⟩
    refine ⟨?_, F, B⟩
    rcases hA with ⟨i, hi, hN, rfl⟩ | ⟨r0, r1, r2, a, cap', g0, g1, g2, rfl, O⟩
    · exact ⟨none, 0, 0, [], 0, 5, rfl, rfl, Or.inr (Or.inl ⟨h256, ⟨i, hi, hN⟩, rfl, rfl, rfl⟩), ownT_nil _ _⟩
    · have hl : (r0.1 ++ r1.1 ++ r2.1).length = 174 := by
        have h0 := g0.2.1
        have h1 := g1.2.1
        have h2 := g2.2.1
        simp only [List.length_append]; omega
      exact ⟨a, 174, cap', _, _, 0, rfl, hl.symm, Or.inr (Or.inr ⟨h256, r0, r1, r2, g0, g1, g2, rfl, rfl, rfl⟩), O.t⟩
  · refine (data_arg p w _ n cap (by omega)).mono ?_
    rintro e w' ⟨rfl, G⟩
    exact ⟨⟨none, 0, 0, [], 0, 1, rfl, rfl, Or.inl ⟨h256, rfl, rfl, rfl⟩, ownT_nil _ _⟩, h.chg G, G.but⟩
theorem body_v (p q b : Nat) (w : World) (h : Frm w p q b) (c o n cap : Nat) (L : List Nat) (hn : n = L.length) (bL : Bys L) (hcb : c ≠ b) (hcs : c < w.heap.size) (hcap : n ≤ cap) (hh : Held w (.slice (some ⟨c, o, none⟩) n cap) L) :
    Calls Try.prog 19 #[.pointer (some ⟨p, 0, none⟩), .slice (some ⟨c, o, none⟩) n cap] w fun e w' => PAns w' w.heap.size (BodR L) e ∧ Frm w' p q b ∧ But b w w' := by
  by_cases h256 : L.length = 256
  · have e : n = 256 := by omega
    subst e
    have hcell := (held_cells hh (by omega)).2
    refine (body_any p q b w h c o cap L h256 bL hcb hcs (by omega) (fun i hi => hcell i (by omega))).mono ?_
    rintro e w' ⟨hA, F, B⟩
    refine ⟨?_, F, B⟩
    rcases hA with ⟨hN, rfl⟩ | ⟨r, g, hm, rfl⟩ | ⟨r, gg, g, hm, rfl, hg, A⟩
    · exact ⟨none, 0, 0, [], 0, 5, rfl, rfl, Or.inr (Or.inl ⟨h256, hN, rfl, rfl, rfl⟩), ownT_nil _ _⟩
    · exact ⟨none, 0, 0, [], 0, 6, rfl, rfl, Or.inr (Or.inr ⟨h256, r, g, Or.inl ⟨hm, rfl, rfl, rfl⟩⟩), ownT_nil _ _⟩
    · have hrl := g.2.1
      exact ⟨_, 50, 50, r.1.take 50, r.2, 0, rfl, by rw [List.length_take, hrl]; rfl, Or.inr (Or.inr ⟨h256, r, g, Or.inr ⟨hm, rfl, rfl, rfl⟩⟩), A.tight hg 50 (by omega) (by decide)⟩
  · refine (body_arg p w _ n cap (by omega)).mono ?_
    rintro e w' ⟨rfl, G⟩
    exact ⟨⟨none, 0, 0, [], 0, 1, rfl, rfl, Or.inl ⟨h256, rfl, rfl, rfl⟩, ownT_nil _ _⟩, h.chg G, G.but⟩

theorem rmsg_v (w : World) (a : Option Addr) (n cap : Nat) (L : List Nat) (hn : n = L.length) (bL : Bys L) (hcap : n ≤ cap) (hh : Held w (.slice a n cap) L) (k : Int) :
    Calls Try.prog 20 #[.slice a n cap, .int .i64 k] w fun e w' => RAns w' (MsgR L k) e ∧ Chg (fun _ => False) w w' := by
  by_cases h256 : L.length = 256
  · have e : n = 256 := by omega
    subst e
    by_cases hk : 0 ≤ k ∧ k ≤ 3
    · obtain ⟨i, rfl⟩ : ∃ i : Nat, k = i := ⟨k.toNat, by omega⟩
      obtain ⟨a', c', hv, h | ⟨g', o', ha, hg', hc⟩⟩ := hh
      · omega
      · simp only [Value.slice.injEq] at hv
        obtain ⟨hv, -, -⟩ := hv
        subst hv
        subst ha
        refine (rmsg_any w g' o' cap L h256 bL hg' (by omega) (fun i hi => hc i (by omega)) i (by omega)).mono ?_
        rintro e w' ⟨hA, G⟩
        refine ⟨?_, G⟩
        rcases hA with ⟨hN, rfl⟩ | ⟨r, g, cr, hg, rfl, -, hH⟩
        · exact ⟨none, 0, 0, [], 0, 5, rfl, rfl, Or.inr ⟨i, by omega, rfl, h256, Or.inl ⟨hN, rfl, rfl, rfl⟩⟩, held_nil _⟩
        · exact ⟨_, 58, cr, r.1, r.2, 0, rfl, hg.2.1.symm, Or.inr ⟨i, by omega, rfl, h256, Or.inr ⟨hg, rfl⟩⟩, hH⟩
    · refine (rmsg_out w a cap k hk).mono ?_
      rintro e w' ⟨rfl, rfl⟩
      exact ⟨⟨none, 0, 0, [], 0, 1, rfl, rfl, Or.inl ⟨fun h => hk h.2, rfl, rfl, rfl⟩, held_nil _⟩, Chg.refl _ _⟩
  · refine (rmsg_len w a n cap k (by omega)).mono ?_
    rintro e w' ⟨rfl, rfl⟩
    exact ⟨⟨none, 0, 0, [], 0, 1, rfl, rfl, Or.inl ⟨fun h => h256 h.1, rfl, rfl, rfl⟩, held_nil _⟩, Chg.refl _ _⟩
theorem rdata_v (w : World) (a : Option Addr) (n cap : Nat) (L : List Nat) (hn : n = L.length) (bL : Bys L) (hcap : n ≤ cap) (hh : Held w (.slice a n cap) L) :
    Calls Try.prog 21 #[.slice a n cap] w fun e w' => RAns w' (DatR L) e ∧ Chg (fun _ => False) w w' := by
  by_cases h256 : L.length = 256
  · have e : n = 256 := by omega
    subst e
    obtain ⟨a', c', hv, h | ⟨g', o', ha, hg', hc⟩⟩ := hh
    · omega
    · simp only [Value.slice.injEq] at hv
      obtain ⟨hv, -, -⟩ := hv
      subst hv
      subst ha
      refine (rdata_any w g' o' cap L h256 bL hg' (by omega) (fun i hi => hc i (by omega))).mono ?_
      rintro e w' ⟨hA, G⟩
      refine ⟨?_, G⟩
      rcases hA with ⟨i, hi, hN, rfl⟩ | ⟨r0, r1, r2, a, cap', g0, g1, g2, rfl, O⟩
      · exact ⟨none, 0, 0, [], 0, 5, rfl, rfl, Or.inr (Or.inl ⟨h256, ⟨i, hi, hN⟩, rfl, rfl, rfl⟩), held_nil _⟩
      · have hl : (r0.1 ++ r1.1 ++ r2.1).length = 174 := by
          have h0 := g0.2.1
          have h1 := g1.2.1
          have h2 := g2.2.1
          simp only [List.length_append]; omega
        exact ⟨a, 174, cap', _, _, 0, rfl, hl.symm, Or.inr (Or.inr ⟨h256, r0, r1, r2, g0, g1, g2, rfl, rfl, rfl⟩), O⟩
  · refine (rdata_len w a n cap (by omega)).mono ?_
    rintro e w' ⟨rfl, rfl⟩
    exact ⟨⟨none, 0, 0, [], 0, 1, rfl, rfl, Or.inl ⟨h256, rfl, rfl, rfl⟩, held_nil _⟩, Chg.refl _ _⟩
theorem rbody_v (w : World) (a : Option Addr) (n cap : Nat) (L : List Nat) (hn : n = L.length) (bL : Bys L) (hcap : n ≤ cap) (hh : Held w (.slice a n cap) L) :
    Calls Try.prog 22 #[.slice a n cap] w fun e w' => RAns w' (BodR L) e ∧ Chg (fun _ => False) w w' := by
  by_cases h256 : L.length = 256
  · have e : n = 256 := by omega
    subst e
    obtain ⟨a', c', hv, h | ⟨g', o', ha, hg', hc⟩⟩ := hh
    · omega
    · simp only [Value.slice.injEq] at hv
      obtain ⟨hv, -, -⟩ := hv
      subst hv
      subst ha
      refine (rbody_any w g' o' cap L h256 bL hg' (by omega) (fun i hi => hc i (by omega))).mono ?_
      rintro e w' ⟨hA, G⟩
      refine ⟨?_, G⟩
      rcases hA with ⟨hN, rfl⟩ | ⟨r, g, hm, rfl⟩ | ⟨r, gg, cr, g, hm, rfl, H⟩
      · exact ⟨none, 0, 0, [], 0, 5, rfl, rfl, Or.inr (Or.inl ⟨h256, hN, rfl, rfl, rfl⟩), held_nil _⟩
      · exact ⟨none, 0, 0, [], 0, 6, rfl, rfl, Or.inr (Or.inr ⟨h256, r, g, Or.inl ⟨hm, rfl, rfl, rfl⟩⟩), held_nil _⟩
      · have hrl := g.2.1
        exact ⟨_, 50, cr, r.1.take 50, r.2, 0, rfl, by rw [List.length_take, hrl]; rfl, Or.inr (Or.inr ⟨h256, r, g, Or.inr ⟨hm, rfl, rfl, rfl⟩⟩), H⟩
  · refine (rbody_len w a n cap (by omega)).mono ?_
    rintro e w' ⟨rfl, rfl⟩
    exact ⟨⟨none, 0, 0, [], 0, 1, rfl, rfl, Or.inl ⟨h256, rfl, rfl, rfl⟩, held_nil _⟩, Chg.refl _ _⟩
end Go.Proofs.Ytdofegphipbcdaa
