/-
  Blocks that are moved, as lists say it: what counts while the elder copies are there, and behind it. No condition: lemmas.
-/
import Derived.Test.YtjkpidhpjleebaaLive
namespace Go.Proofs.Ytjkpidhpjleebaa
set_option maxRecDepth 100000
open Go.Sort

/-- Each in a place of its own. -/
def Dst (l : List Fnd) : Prop := l.Pairwise fun a b => a.P ≠ b.P
theorem pairwise_mem {R : Fnd → Fnd → Prop} (hs : ∀ a b, R a b → R b a) : ∀ {l : List Fnd}, l.Pairwise R → ∀ a ∈ l, ∀ b ∈ l, a = b ∨ R a b
  | [], _, a, ha, _, _ => by simp at ha
  | x :: r, h, a, ha, b, hb => by
    rw [List.pairwise_cons] at h
    rcases List.mem_cons.1 ha with ea | ha'
    · rcases List.mem_cons.1 hb with eb | hb'
      · exact Or.inl (ea.trans eb.symm)
      · rw [ea]; exact Or.inr (h.1 b hb')
    · rcases List.mem_cons.1 hb with eb | hb'
      · rw [eb]; exact Or.inr (hs _ _ (h.1 a ha'))
      · exact pairwise_mem hs h.2 a ha' b hb'
theorem Dst.eq {l : List Fnd} (h : Dst l) {a b : Fnd} (ha : a ∈ l) (hb : b ∈ l) (e : a.P = b.P) : a = b := by
  rcases pairwise_mem (fun _ _ h => Ne.symm h) h a ha b hb with h | h
  · exact h
  · exact absurd e h
theorem byP_lt {l : List Fnd} (h : Dst l) : (byP l).Pairwise (fun a b => a.P < b.P) := by
  unfold byP
  rw [List.pairwise_flatMap]
  refine ⟨fun p _ => ?_, ?_⟩
  · have h2 : (l.filter fun f => decide (f.P = (p : Int))).Pairwise (fun a b => a.P ≠ b.P) := List.Pairwise.filter _ h
    refine List.Pairwise.imp_of_mem (fun {a b} ha hb hne => ?_) h2
    have h1 := (List.mem_filter.1 ha).2
    have h3 := (List.mem_filter.1 hb).2
    simp only [decide_eq_true_eq] at h1 h3
    omega
  · refine List.pairwise_lt_range.imp fun {p q} hpq x hx y hy => ?_
    have h1 := (List.mem_filter.1 hx).2
    have h2 := (List.mem_filter.1 hy).2
    simp only [decide_eq_true_eq] at h1 h2
    omega
theorem eq_of_mem : ∀ (l k : List Fnd), l.Pairwise (fun a b => a.P < b.P) → k.Pairwise (fun a b => a.P < b.P) → (∀ x, x ∈ l ↔ x ∈ k) → l = k
  | [], [], _, _, _ => rfl
  | [], y :: s, _, _, h => by have := (h y).2 (by simp); simp at this
  | x :: r, [], _, _, h => by have := (h x).1 (by simp); simp at this
  | x :: r, y :: s, hl, hk, h => by
    rw [List.pairwise_cons] at hl hk
    have e : x = y := by
      rcases List.mem_cons.1 ((h x).1 (by simp)) with e | e
      · exact e
      · rcases List.mem_cons.1 ((h y).2 (by simp)) with e2 | e2
        · exact e2.symm
        · have := hk.1 x e
          have := hl.1 y e2
          omega
    subst e
    congr 1
    refine eq_of_mem r s hl.2 hk.2 fun z => ⟨fun hz => ?_, fun hz => ?_⟩
    · rcases List.mem_cons.1 ((h z).1 (by simp [hz])) with e | e
      · subst e; have := hl.1 z hz; omega
      · exact e
    · rcases List.mem_cons.1 ((h z).2 (by simp [hz])) with e | e
      · subst e; have := hk.1 z hz; omega
      · exact e
theorem mem_lat {l : List Fnd} {of ab : Int} {g : Fnd} : g ∈ lat l of ab ↔ g ∈ l ∧ cnd of ab g = true ∧ g.S = mx (l.filter (cnd of ab)) := by
  unfold lat sel
  rw [mem_byP, List.mem_filter, List.mem_filter]
  constructor
  · rintro ⟨⟨⟨h1, h2⟩, h3⟩, -, -⟩
    exact ⟨h1, h2, by simpa using h3⟩
  · rintro ⟨h1, h2, h3⟩
    have := (snd_iff g).1 (cnd_snd h2).1
    exact ⟨⟨⟨h1, h2⟩, by simpa using h3⟩, this.1, this.2.1⟩
theorem lat_lt {l : List Fnd} (h : Dst l) (of ab : Int) : (lat l of ab).Pairwise (fun a b => a.P < b.P) := byP_lt (List.Pairwise.filter _ (List.Pairwise.filter _ h))
theorem newest_none {l : List Fnd} {of ab : Int} (h : ∀ g ∈ l, cnd of ab g = false) : newest l of ab = none := by
  have e : lat l of ab = [] := List.eq_nil_iff_forall_not_mem.2 fun g hg => by
    have := mem_lat.1 hg
    rw [h g this.1] at this
    exact absurd this.2.1 (by simp)
  unfold newest
  rw [e]; rfl
theorem mx_is {l : List Fnd} {of ab : Int} {f : Fnd} (hf : f ∈ l) (hc : cnd of ab f = true) (hm : ∀ g ∈ l, cnd of ab g = true → g.S ≤ f.S) : mx (l.filter (cnd of ab)) = f.S :=
  mx_eq (fun g hg => hm g (List.mem_filter.1 hg).1 (List.mem_filter.1 hg).2) ⟨f, List.mem_filter.2 ⟨hf, hc⟩, rfl⟩ (fun g hg => ((snd_iff g).1 (cnd_snd (List.mem_filter.1 hg).2).1).2.2.2.2.1)
theorem newest_one {l : List Fnd} {of ab : Int} {f : Fnd} (hD : Dst l) (hf : f ∈ l) (hc : cnd of ab f = true) (hm : ∀ g ∈ l, cnd of ab g = true → g = f ∨ g.S < f.S) : newest l of ab = some f := by
  have hx := mx_is hf hc (fun g hg hgc => by rcases hm g hg hgc with rfl | h <;> omega)
  have e : lat l of ab = [f] := eq_of_mem _ _ (lat_lt hD of ab) (by simp) fun g => by
    rw [mem_lat, hx]
    constructor
    · rintro ⟨h1, h2, h3⟩
      rcases hm g h1 h2 with rfl | h
      · simp
      · omega
    · intro h
      simp only [List.mem_singleton] at h
      subst h
      exact ⟨hf, hc, rfl⟩
  unfold newest
  rw [e]; rfl
theorem ahd_next {a b : Int} (h1 : 0 ≤ a) (h2 : a < 256) (hb : b = (a + 1) % 256) : ahd a b = true ∧ ahd b a = false := by
  constructor
  · rw [ahd]; simp; omega
  · rw [← Bool.not_eq_true, ahd]; simp; omega
theorem newest_two {l : List Fnd} {of ab : Int} {f f' : Fnd} (hD : Dst l) (hf : f ∈ l) (hf' : f' ∈ l) (hc : cnd of ab f = true) (hc' : cnd of ab f' = true) (hS : f'.S = f.S) (hP : f.P ≠ f'.P) (hC : f'.C = (f.C + 1) % 256) (hm : ∀ g ∈ l, cnd of ab g = true → g = f ∨ g = f' ∨ g.S < f.S) : newest l of ab = some f := by
  have hx := mx_is hf hc (fun g hg hgc => by rcases hm g hg hgc with rfl | rfl | h <;> omega)
  have hs := (snd_iff f).1 (cnd_snd hc).1
  obtain ⟨a1, a2⟩ := ahd_next hs.2.2.2.2.2.2.1 hs.2.2.2.2.2.2.2 hC
  have mem : ∀ g, g ∈ lat l of ab ↔ g = f ∨ g = f' := fun g => by
    rw [mem_lat, hx]
    constructor
    · rintro ⟨h1, h2, h3⟩
      rcases hm g h1 h2 with h | h | h
      · exact Or.inl h
      · exact Or.inr h
      · omega
    · rintro (rfl | rfl)
      · exact ⟨hf, hc, rfl⟩
      · exact ⟨hf', hc', hS⟩
  unfold newest
  by_cases hlt : f.P < f'.P
  · have e : lat l of ab = [f, f'] := eq_of_mem _ _ (lat_lt hD of ab) (by simpa using hlt) fun g => by rw [mem]; simp
    rw [e]
    show some (if ahd f'.C f.C then f' else f) = some f
    rw [a2]; rfl
  · have e : lat l of ab = [f', f] := eq_of_mem _ _ (lat_lt hD of ab) (by simp; omega) fun g => by rw [mem]; simp [or_comm]
    rw [e]
    show some (if ahd f.C f'.C then f else f') = some f
    rw [a1]; rfl
theorem newest_mem {l : List Fnd} {of ab : Int} {f : Fnd} (h : newest l of ab = some f) : f ∈ l ∧ cnd of ab f = true ∧ ∀ g ∈ l, cnd of ab g = true → g.S ≤ f.S := by
  unfold newest at h
  have hmem : f ∈ lat l of ab := by
    cases e : lat l of ab with
    | nil => rw [e] at h; cases h
    | cons x r =>
      rw [e] at h
      have e2 : best x r = f := Option.some.inj h
      rw [← e2]
      clear h e e2
      induction r generalizing x with
      | nil => simp [best]
      | cons y s ih =>
        have e3 : best x (y :: s) = best (if ahd y.C x.C then y else x) s := rfl
        rw [e3]
        have := ih (if ahd y.C x.C then y else x)
        rcases List.mem_cons.1 this with e4 | e4
        · rw [e4]
          split <;> simp
        · simp [e4]
  obtain ⟨h1, h2, h3⟩ := mem_lat.1 hmem
  exact ⟨h1, h2, fun g hg hc => by rw [h3]; exact mx_le (List.mem_filter.2 ⟨hg, hc⟩)⟩
theorem newest_isNone {l : List Fnd} {of ab : Int} (h : newest l of ab = none) : ∀ g ∈ l, cnd of ab g = false := by
  intro g hg
  cases hc : cnd of ab g with
  | false => rfl
  | true =>
    exfalso
    have hne : l.filter (cnd of ab) ≠ [] := List.ne_nil_of_mem (List.mem_filter.2 ⟨hg, hc⟩)
    obtain ⟨f, hf, e⟩ := mx_mem hne (fun g hg => ((snd_iff g).1 (cnd_snd (List.mem_filter.1 hg).2).1).2.2.2.2.1)
    have : f ∈ lat l of ab := mem_lat.2 ⟨(List.mem_filter.1 hf).1, (List.mem_filter.1 hf).2, e⟩
    unfold newest at h
    cases e2 : lat l of ab with
    | nil => rw [e2] at this; simp at this
    | cons x r => rw [e2] at h; cases h
/-- The order changes nothing. -/
theorem newest_congr {l k : List Fnd} {of ab : Int} (hl : Dst l) (hk : Dst k) (h : ∀ x, x ∈ l ↔ x ∈ k) : newest l of ab = newest k of ab := by
  have hm : mx (l.filter (cnd of ab)) = mx (k.filter (cnd of ab)) := by
    by_cases h0 : l.filter (cnd of ab) = []
    · have : k.filter (cnd of ab) = [] := List.eq_nil_iff_forall_not_mem.2 fun x hx => by
        have hx' := List.mem_filter.1 hx
        have : x ∈ l.filter (cnd of ab) := List.mem_filter.2 ⟨(h x).2 hx'.1, hx'.2⟩
        rw [h0] at this; simp at this
      rw [h0, this]
    · obtain ⟨f, hf, e⟩ := mx_mem h0 (fun g hg => ((snd_iff g).1 (cnd_snd (List.mem_filter.1 hg).2).1).2.2.2.2.1)
      have hf' := List.mem_filter.1 hf
      rw [← e]
      exact (mx_is ((h f).1 hf'.1) hf'.2 (fun g hg hc => by rw [e]; exact mx_le (List.mem_filter.2 ⟨(h g).2 hg, hc⟩))).symm
  have e : lat l of ab = lat k of ab := eq_of_mem _ _ (lat_lt hl of ab) (lat_lt hk of ab) fun g => by rw [mem_lat, mem_lat, h, hm]
  unfold newest
  rw [e]
theorem lt_length : ∀ (l : List Fnd) (a b : Int), l.Pairwise (fun x y => x.P < y.P) → (∀ f ∈ l, a ≤ f.P ∧ f.P < b) → l.length ≤ (b - a).toNat
  | [], _, _, _, _ => by simp
  | x :: r, a, b, h, hl => by
    rw [List.pairwise_cons] at h
    have h1 := hl x (by simp)
    have := lt_length r (x.P + 1) b h.2 (fun f hf => ⟨by have := h.1 f hf; omega, (hl f (by simp [hf])).2⟩)
    rw [List.length_cons]
    omega
theorem byP_length {l : List Fnd} (h : ∀ f ∈ l, 0 ≤ f.P ∧ f.P < 96) : (byP l).length = l.length := by
  have := byN_length l 96
  rw [byN_all] at this
  rw [this, List.filter_eq_self.2]
  intro f hf
  have := h f hf
  simp; omega
/-- At most eight lie in one block. -/
theorem block_length {l : List Fnd} (hD : Dst l) (q : Nat) (hq : q < 12) (h : ∀ f ∈ l, f.P / 8 = (q : Int)) : l.length ≤ 8 := by
  rw [← byP_length (fun f hf => by have := h f hf; omega)]
  have := lt_length (byP l) (8 * q) (8 * q + 8) (byP_lt hD) (fun f hf => by have := h f (mem_byP.1 hf).1; omega)
  omega

/-! ### The moved block -/
/-- A found's copy at p. -/
def cp (f : Fnd) (p : Int) : Fnd := (p, f.T, f.O, f.S, (f.C + 1) % 256, f.L)
def cps (to_ : Nat) (Fs : List Fnd) : List Fnd := Fs.zipIdx.map fun x => cp x.1 ((to_ * 8 + x.2 : Nat) : Int)
theorem cps_snoc (to_ : Nat) (Fs : List Fnd) (f : Fnd) : cps to_ (Fs ++ [f]) = cps to_ Fs ++ [cp f ((to_ * 8 + Fs.length : Nat) : Int)] := by
  unfold cps
  rw [List.zipIdx_append, List.map_append]
  simp
theorem mem_cps {to_ : Nat} {Fs : List Fnd} {x : Fnd} : x ∈ cps to_ Fs ↔ ∃ k f, Fs[k]? = some f ∧ x = cp f ((to_ * 8 + k : Nat) : Int) := by
  unfold cps
  rw [List.mem_map]
  constructor
  · rintro ⟨⟨f, k⟩, h, rfl⟩
    exact ⟨k, f, by simpa using List.mem_zipIdx_iff_getElem?.1 h, rfl⟩
  · rintro ⟨k, f, h, rfl⟩
    exact ⟨(f, k), List.mem_zipIdx_iff_getElem?.2 (by simpa using h), rfl⟩
structure Stt (st : List Fnd) (c : Ckp) (fr to_ : Nat) : Prop where
  dst : Dst st
  sound : ∀ f ∈ st, snd f = true
  uni : st.Pairwise fun a b => ¬ (a.O = b.O ∧ a.S = b.S)
  away : ∀ f ∈ st, f.P / 8 ≠ (to_ : Int)
  f12 : fr < 12
  t12 : to_ < 12
  ne : fr ≠ to_
  bf : c.B fr = false
  bt : c.B to_ = false
def nw (st : List Fnd) (c : Ckp) (j : Nat) : Option Fnd := newest (st.filter (gd c)) j (flo c j)
structure Proc (st : List Fnd) (c : Ckp) (fr to_ i : Nat) (Fs : List Fnd) (ov : Nat → Int) : Prop where
  dF : Dst Fs
  mF : ∀ f ∈ Fs, ∃ j, j < i ∧ nw st c j = some f ∧ f.P / 8 = (fr : Int)
  al : ∀ j, j < i → ∀ f, nw st c j = some f → f.P / 8 = (fr : Int) → f ∈ Fs
  ovm : ∀ j, j < i → ∀ k f, Fs[k]? = some f → f.O = (j : Int) → ov j = ((to_ * 8 + k : Nat) : Int)
  ovo : ∀ j, j < i → (∀ f, nw st c j = some f → f.P / 8 ≠ (fr : Int)) → ov j = lv st c j
section
variable {st : List Fnd} {c : Ckp} {fr to_ i : Nat} {Fs : List Fnd} {ov : Nat → Int}
theorem nw_O {j : Nat} {f : Fnd} (h : nw st c j = some f) : f.O = (j : Int) := (cnd_snd (newest_mem h).2.1).2.1
theorem nw_st {j : Nat} {f : Fnd} (h : nw st c j = some f) : f ∈ st ∧ gd c f = true := List.mem_filter.1 (newest_mem h).1
theorem nw_uni (hS : Stt st c fr to_) {j : Nat} {f : Fnd} (h : nw st c j = some f) : ∀ g ∈ st, gd c g = true → cnd j (flo c j) g = true → g = f ∨ g.S < f.S := by
  intro g hg hgd hc
  obtain ⟨h1, h2, h3⟩ := newest_mem h
  have h4 := h3 g (List.mem_filter.2 ⟨hg, hgd⟩) hc
  by_cases e : g.S = f.S
  · rcases pairwise_mem (fun a b (h : ¬ (a.O = b.O ∧ a.S = b.S)) => fun h2 => h ⟨h2.1.symm, h2.2.symm⟩) hS.uni g hg f (nw_st h).1 with e2 | e2
    · exact Or.inl e2
    · exact absurd ⟨(cnd_snd hc).2.1.trans (nw_O h).symm, e⟩ e2
  · exact Or.inr (by omega)
theorem nw_lv {j : Nat} : lv st c j = match nw st c j with
  | some f => f.P
  | none => -1 := rfl
theorem Proc.len (hS : Stt st c fr to_) (hP : Proc st c fr to_ i Fs ov) : Fs.length ≤ 8 :=
  block_length hP.dF fr hS.f12 fun f hf => by obtain ⟨j, _, _, h⟩ := hP.mF f hf; exact h
theorem Proc.inSt (hP : Proc st c fr to_ i Fs ov) {f : Fnd} (hf : f ∈ Fs) : f ∈ st ∧ gd c f = true := by
  obtain ⟨j, _, h, _⟩ := hP.mF f hf
  exact nw_st h
theorem mem_at {k : Nat} {f : Fnd} (h : Fs[k]? = some f) : f ∈ Fs ∧ k < Fs.length := by
  obtain ⟨h1, h2⟩ := List.getElem?_eq_some_iff.1 h
  exact ⟨by rw [← h2]; exact List.getElem_mem h1, h1⟩
theorem cp_snd (hS : Stt st c fr to_) {f : Fnd} (hf : snd f = true) {k : Nat} (hk : k < 8) : snd (cp f ((to_ * 8 + k : Nat) : Int)) = true ∧ gd c (cp f ((to_ * 8 + k : Nat) : Int)) = true := by
  have h := (snd_iff f).1 hf
  have ht := hS.t12
  have h1 : snd (cp f ((to_ * 8 + k : Nat) : Int)) = true := by
    rw [snd_iff]
    show 0 ≤ ((to_ * 8 + k : Nat) : Int) ∧ ((to_ * 8 + k : Nat) : Int) < 96 ∧ 0 ≤ f.O ∧ f.O < 25 ∧ 0 ≤ f.S ∧ f.S < 1099511627776 ∧ 0 ≤ (f.C + 1) % 256 ∧ (f.C + 1) % 256 < 256
    omega
  refine ⟨h1, ?_⟩
  unfold gd
  rw [h1]
  have e : ((cp f ((to_ * 8 + k : Nat) : Int)).P / 8).toNat = to_ := by
    show (((to_ * 8 + k : Nat) : Int) / 8).toNat = to_
    omega
  rw [e, hS.bt]; rfl
theorem cp_cnd (hS : Stt st c fr to_) {f : Fnd} (hf : snd f = true) {k : Nat} (hk : k < 8) (of ab : Int) : cnd of ab (cp f ((to_ * 8 + k : Nat) : Int)) = cnd of ab f := by
  unfold cnd
  rw [(cp_snd hS hf hk).1, hf]
  rfl
theorem Proc.dst (hS : Stt st c fr to_) (hP : Proc st c fr to_ i Fs ov) : Dst (st ++ cps to_ Fs) := by
  unfold Dst
  rw [List.pairwise_append]
  refine ⟨hS.dst, ?_, ?_⟩
  · rw [List.pairwise_iff_getElem]
    intro a b ha hb hab
    have e : ∀ k (h : k < (cps to_ Fs).length), ((cps to_ Fs)[k]'h).P = ((to_ * 8 + k : Nat) : Int) := fun k h => by
      simp [cps, cp]
    show ((cps to_ Fs)[a]'ha).P ≠ ((cps to_ Fs)[b]'hb).P
    rw [e a ha, e b hb]
    omega
  · intro f hf x hx
    obtain ⟨k, g, hk, rfl⟩ := mem_cps.1 hx
    have := (mem_at hk).2
    have := hP.len hS
    have := hS.away f hf
    show f.P ≠ ((to_ * 8 + k : Nat) : Int)
    omega
/-- While the elder copies are there nothing changes. -/
theorem Proc.same (hS : Stt st c fr to_) (hP : Proc st c fr to_ i Fs ov) (j : Nat) : newest ((st ++ cps to_ Fs).filter (gd c)) j (flo c j) = nw st c j := by
  have hD : Dst ((st ++ cps to_ Fs).filter (gd c)) := List.Pairwise.filter _ (hP.dst hS)
  have hlen := hP.len hS
  have fromX : ∀ g ∈ cps to_ Fs, cnd j (flo c j) g = true → ∃ k f, Fs[k]? = some f ∧ g = cp f ((to_ * 8 + k : Nat) : Int) ∧ nw st c j = some f := by
    intro g hg hc
    obtain ⟨k, f, hk, rfl⟩ := mem_cps.1 hg
    obtain ⟨j', _, h1, _⟩ := hP.mF f (mem_at hk).1
    have e1 := nw_O h1
    have e2 : f.O = (j : Int) := (cnd_snd hc).2.1
    have e3 : j' = j := by omega
    subst e3
    exact ⟨k, f, hk, rfl, h1⟩
  cases h : nw st c j with
  | none =>
    refine newest_none fun g hg => ?_
    obtain ⟨hg1, hg2⟩ := List.mem_filter.1 hg
    rcases List.mem_append.1 hg1 with h1 | h1
    · exact newest_isNone h g (List.mem_filter.2 ⟨h1, hg2⟩)
    · cases hc : cnd j (flo c j) g with
      | false => rfl
      | true =>
        obtain ⟨k, f, _, _, h2⟩ := fromX g h1 hc
        rw [h] at h2; cases h2
  | some f =>
    have hfs := nw_st h
    have hc := (newest_mem h).2.1
    have hfB : f ∈ (st ++ cps to_ Fs).filter (gd c) := List.mem_filter.2 ⟨List.mem_append_left _ hfs.1, hfs.2⟩
    by_cases hF : f ∈ Fs
    · obtain ⟨k, hk⟩ := List.getElem?_of_mem hF
      have hk8 : k < 8 := by have := (mem_at hk).2; omega
      have hsf := hS.sound f hfs.1
      refine newest_two (f' := cp f ((to_ * 8 + k : Nat) : Int)) hD hfB (List.mem_filter.2 ⟨List.mem_append_right _ (mem_cps.2 ⟨k, f, hk, rfl⟩), (cp_snd hS hsf hk8).2⟩) hc (by rw [cp_cnd hS hsf hk8]; exact hc) rfl ?_ rfl ?_
      · have := hS.away f hfs.1
        show f.P ≠ ((to_ * 8 + k : Nat) : Int)
        omega
      · intro g hg hgc
        obtain ⟨hg1, hg2⟩ := List.mem_filter.1 hg
        rcases List.mem_append.1 hg1 with h1 | h1
        · rcases nw_uni hS h g h1 hg2 hgc with h2 | h2
          · exact Or.inl h2
          · exact Or.inr (Or.inr h2)
        · obtain ⟨k', f', hk', rfl, h2⟩ := fromX g h1 hgc
          rw [h] at h2
          cases h2
          have e : k' = k := by
            obtain ⟨a1, a2⟩ := List.getElem?_eq_some_iff.1 hk
            obtain ⟨b1, b2⟩ := List.getElem?_eq_some_iff.1 hk'
            have hdF := List.pairwise_iff_getElem.1 hP.dF
            rcases Nat.lt_trichotomy k' k with h3 | h3 | h3
            · exact absurd (by rw [a2, b2]) (hdF k' k b1 a1 h3)
            · exact h3
            · exact absurd (by rw [a2, b2]) (hdF k k' a1 b1 h3)
          subst e
          exact Or.inr (Or.inl rfl)
    · refine newest_one hD hfB hc fun g hg hgc => ?_
      obtain ⟨hg1, hg2⟩ := List.mem_filter.1 hg
      rcases List.mem_append.1 hg1 with h1 | h1
      · exact nw_uni hS h g h1 hg2 hgc
      · obtain ⟨k', f', hk', _, h2⟩ := fromX g h1 hgc
        rw [h] at h2
        cases h2
        exact absurd (mem_at hk').1 hF
theorem Proc.live (hS : Stt st c fr to_) (hP : Proc st c fr to_ i Fs ov) (j : Nat) : lv (st ++ cps to_ Fs) c j = lv st c j := by
  have h := hP.same hS j
  unfold lv
  rw [h]; rfl
theorem Proc.start : Proc st c fr to_ 0 [] ov :=
  ⟨List.Pairwise.nil, fun f hf => by simp at hf, fun j hj => absurd hj (Nat.not_lt_zero _), fun j hj => absurd hj (Nat.not_lt_zero _), fun j hj => absurd hj (Nat.not_lt_zero _)⟩
theorem Proc.skip (hP : Proc st c fr to_ i Fs ov) {ov' : Nat → Int} (ho : ∀ j, j < i → ov' j = ov j) (h : ∀ f, nw st c i = some f → f.P / 8 ≠ (fr : Int)) (hi : ov' i = lv st c i) : Proc st c fr to_ (i + 1) Fs ov' := by
  refine ⟨hP.dF, fun f hf => ?_, fun j hj f hf hp => ?_, fun j hj k f hk hO => ?_, fun j hj hn => ?_⟩
  · obtain ⟨j, h1, h2⟩ := hP.mF f hf
    exact ⟨j, by omega, h2⟩
  · by_cases e : j = i
    · subst e; exact absurd hp (h f hf)
    · exact hP.al j (by omega) f hf hp
  · by_cases e : j = i
    · subst e
      obtain ⟨j', h1, h2, h3⟩ := hP.mF f (mem_at hk).1
      have := nw_O h2
      omega
    · rw [ho j (by omega)]; exact hP.ovm j (by omega) k f hk hO
  · by_cases e : j = i
    · subst e; exact hi
    · rw [ho j (by omega)]; exact hP.ovo j (by omega) hn
theorem Proc.add (hS : Stt st c fr to_) (hP : Proc st c fr to_ i Fs ov) {ov' : Nat → Int} (ho : ∀ j, j < i → ov' j = ov j) {f : Fnd} (h : nw st c i = some f) (hp : f.P / 8 = (fr : Int)) (hi : ov' i = ((to_ * 8 + Fs.length : Nat) : Int)) : Proc st c fr to_ (i + 1) (Fs ++ [f]) ov' := by
  have hne : ∀ g ∈ Fs, g.O ≠ (i : Int) := fun g hg => by
    obtain ⟨j, h1, h2, _⟩ := hP.mF g hg
    have := nw_O h2
    omega
  refine ⟨?_, fun g hg => ?_, fun j hj g hg hgp => ?_, fun j hj k g hk hO => ?_, fun j hj hn => ?_⟩
  · unfold Dst
    rw [List.pairwise_append]
    refine ⟨hP.dF, by simp, fun g hg x hx => ?_⟩
    simp only [List.mem_singleton] at hx
    subst hx
    intro e
    have e2 := hS.dst.eq (hP.inSt hg).1 (nw_st h).1 e
    subst e2
    exact hne _ hg (nw_O h)
  · rcases List.mem_append.1 hg with h1 | h1
    · obtain ⟨j, h2, h3⟩ := hP.mF g h1
      exact ⟨j, by omega, h3⟩
    · simp only [List.mem_singleton] at h1
      subst h1
      exact ⟨i, by omega, h, hp⟩
  · by_cases e : j = i
    · subst e
      rw [h] at hg
      cases hg
      simp
    · exact List.mem_append_left _ (hP.al j (by omega) g hg hgp)
  · by_cases hkl : k < Fs.length
    · rw [List.getElem?_append_left hkl] at hk
      have hji : j ≠ i := fun e => by subst e; exact hne g (mem_at hk).1 hO
      rw [ho j (by omega)]
      exact hP.ovm j (by omega) k g hk hO
    · rw [List.getElem?_append_right (by omega)] at hk
      have hk0 : k = Fs.length := by
        have := (List.getElem?_eq_some_iff.1 hk).1
        simp at this
        omega
      subst hk0
      simp at hk
      subst hk
      have := nw_O h
      have e : j = i := by omega
      subst e
      exact hi
  · by_cases e : j = i
    · subst e; exact absurd hp (hn f h)
    · rw [ho j (by omega)]; exact hP.ovo j (by omega) hn
/-- Behind the move. -/
def ends (st : List Fnd) (fr to_ : Nat) (Fs : List Fnd) : List Fnd := (st ++ cps to_ Fs).filter fun f => decide (f.P / 8 ≠ (fr : Int))
theorem Proc.ended (hS : Stt st c fr to_) (hP : Proc st c fr to_ 25 Fs ov) {L : List Fnd} (hL : Dst L) (hmem : ∀ x, x ∈ L ↔ x ∈ ends st fr to_ Fs) (j : Nat) (hj : j < 25) : lv L c j = ov j := by
  have hD : Dst (L.filter (gd c)) := List.Pairwise.filter _ hL
  have hlen := hP.len hS
  have inL : ∀ x : Fnd, x ∈ L.filter (gd c) ↔ (x ∈ st ∨ x ∈ cps to_ Fs) ∧ x.P / 8 ≠ (fr : Int) ∧ gd c x = true := fun x => by
    rw [List.mem_filter, hmem, ends, List.mem_filter, List.mem_append]
    simp only [decide_eq_true_eq]
    exact ⟨fun ⟨⟨h1, h2⟩, h3⟩ => ⟨h1, h2, h3⟩, fun ⟨h1, h2, h3⟩ => ⟨⟨h1, h2⟩, h3⟩⟩
  have fromX : ∀ g ∈ cps to_ Fs, cnd j (flo c j) g = true → ∃ k f, Fs[k]? = some f ∧ g = cp f ((to_ * 8 + k : Nat) : Int) ∧ nw st c j = some f := by
    intro g hg hc
    obtain ⟨k, f, hk, rfl⟩ := mem_cps.1 hg
    obtain ⟨j', _, h1, _⟩ := hP.mF f (mem_at hk).1
    have e1 := nw_O h1
    have e2 : f.O = (j : Int) := (cnd_snd hc).2.1
    have e3 : j' = j := by omega
    subst e3
    exact ⟨k, f, hk, rfl, h1⟩
  have keyF : ∀ (k : Nat) (f : Fnd), Fs[k]? = some f → f.P / 8 = (fr : Int) := fun k f hk => by
    obtain ⟨_, _, _, h⟩ := hP.mF f (mem_at hk).1
    exact h
  cases h : nw st c j with
  | none =>
    have e : newest (L.filter (gd c)) j (flo c j) = none := newest_none fun g hg => by
      obtain ⟨hg1, hg2, hg3⟩ := (inL g).1 hg
      rcases hg1 with h1 | h1
      · exact newest_isNone h g (List.mem_filter.2 ⟨h1, hg3⟩)
      · cases hc : cnd j (flo c j) g with
        | false => rfl
        | true =>
          obtain ⟨k, f, _, _, h2⟩ := fromX g h1 hc
          rw [h] at h2; cases h2
    have e3 : lv st c j = -1 := by rw [nw_lv, h]
    rw [hP.ovo j hj (fun f hf => by rw [h] at hf; cases hf), e3]
    unfold lv
    rw [e]
  | some f =>
    have hfs := nw_st h
    have hc := (newest_mem h).2.1
    by_cases hp : f.P / 8 = (fr : Int)
    · have hF := hP.al j hj f h hp
      obtain ⟨k, hk⟩ := List.getElem?_of_mem hF
      have hk8 : k < 8 := by have := (mem_at hk).2; omega
      have hsf := hS.sound f hfs.1
      have e : newest (L.filter (gd c)) j (flo c j) = some (cp f ((to_ * 8 + k : Nat) : Int)) := by
        refine newest_one hD ((inL _).2 ⟨Or.inr (mem_cps.2 ⟨k, f, hk, rfl⟩), ?_, (cp_snd hS hsf hk8).2⟩) (by rw [cp_cnd hS hsf hk8]; exact hc) fun g hg hgc => ?_
        · have := hS.ne
          show ((to_ * 8 + k : Nat) : Int) / 8 ≠ (fr : Int)
          omega
        · obtain ⟨hg1, hg2, hg3⟩ := (inL g).1 hg
          rcases hg1 with h1 | h1
          · rcases nw_uni hS h g h1 hg3 hgc with h2 | h2
            · subst h2; exact absurd hp hg2
            · exact Or.inr h2
          · obtain ⟨k', f', hk', rfl, h2⟩ := fromX g h1 hgc
            rw [h] at h2
            cases h2
            have e : k' = k := by
              obtain ⟨a1, a2⟩ := List.getElem?_eq_some_iff.1 hk
              obtain ⟨b1, b2⟩ := List.getElem?_eq_some_iff.1 hk'
              have hdF := List.pairwise_iff_getElem.1 hP.dF
              rcases Nat.lt_trichotomy k' k with h3 | h3 | h3
              · exact absurd (by rw [a2, b2]) (hdF k' k b1 a1 h3)
              · exact h3
              · exact absurd (by rw [a2, b2]) (hdF k k' a1 b1 h3)
            subst e
            exact Or.inl rfl
      rw [hP.ovm j hj k f hk (nw_O h)]
      unfold lv
      rw [e]
      rfl
    · have e : newest (L.filter (gd c)) j (flo c j) = some f := by
        refine newest_one hD ((inL _).2 ⟨Or.inl hfs.1, hp, hfs.2⟩) hc fun g hg hgc => ?_
        obtain ⟨hg1, hg2, hg3⟩ := (inL g).1 hg
        rcases hg1 with h1 | h1
        · exact nw_uni hS h g h1 hg3 hgc
        · obtain ⟨k', f', hk', _, h2⟩ := fromX g h1 hgc
          rw [h] at h2
          cases h2
          exact absurd (keyF k' f hk') hp
      have e3 : lv st c j = f.P := by rw [nw_lv, h]
      rw [hP.ovo j hj (fun g hg => by rw [h] at hg; cases hg; exact hp), e3]
      unfold lv
      rw [e]
theorem Proc.dstEnds (hS : Stt st c fr to_) (hP : Proc st c fr to_ i Fs ov) : Dst (ends st fr to_ Fs) := List.Pairwise.filter _ (hP.dst hS)
theorem Dst.reverse {l : List Fnd} (h : Dst l) : Dst l.reverse := by
  unfold Dst
  rw [List.pairwise_reverse]
  exact List.Pairwise.imp (fun h => Ne.symm h) h
end
end Go.Proofs.Ytjkpidhpjleebaa
