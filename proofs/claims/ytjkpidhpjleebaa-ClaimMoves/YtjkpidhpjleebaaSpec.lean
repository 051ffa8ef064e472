/-
  Founds; which of them counts, as lists say it. No condition: lemmas.
-/
import Derived.Test.YtjkpidhpjleebaaStbl
namespace Go.Proofs.Ytjkpidhpjleebaa
open Go.Sort

/-- A found: its place, its tag's place, its number, its seq, its copy, whether it is lost. -/
abbrev Fnd := Int × Int × Int × Int × Int × Bool
abbrev Fnd.P (f : Fnd) : Int := f.1
abbrev Fnd.T (f : Fnd) : Int := f.2.1
abbrev Fnd.O (f : Fnd) : Int := f.2.2.1
abbrev Fnd.S (f : Fnd) : Int := f.2.2.2.1
abbrev Fnd.C (f : Fnd) : Int := f.2.2.2.2.1
abbrev Fnd.L (f : Fnd) : Bool := f.2.2.2.2.2
def f0 : Fnd := ⟨0, 0, 0, 0, 0, false⟩
/-- Its cells. -/
def fL (f : Fnd) : List Value := [.int .i64 f.P, .int .i64 f.T, .int .i64 f.O, .int .i64 f.S, .int .i64 f.C, .bool f.L]
def fA (f : Fnd) : Array Value := (fL f).toArray
theorem fL_length (f : Fnd) : (fL f).length = 6 := rfl
theorem fL_one (f : Fnd) : ∀ v ∈ fL f, v.oneCell' = true := by
  intro v hv
  simp only [fL, List.mem_cons, List.not_mem_nil, or_false] at hv
  rcases hv with rfl | rfl | rfl | rfl | rfl | rfl <;> rfl
/-- May it count at all? -/
def snd (f : Fnd) : Bool := decide (0 ≤ f.P) && decide (f.P < 96) && decide (0 ≤ f.O) && decide (f.O < 25) && decide (0 ≤ f.S) && decide (f.S < 1099511627776) && decide (0 ≤ f.C) && decide (f.C < 256)
theorem snd_iff (f : Fnd) : snd f = true ↔ 0 ≤ f.P ∧ f.P < 96 ∧ 0 ≤ f.O ∧ f.O < 25 ∧ 0 ≤ f.S ∧ f.S < 1099511627776 ∧ 0 ≤ f.C ∧ f.C < 256 := by
  simp [snd, and_assoc]
/-- The copy a is the elder one. -/
def ahd (a b : Int) : Bool := decide (0 ≤ a) && decide (a < 256) && decide (0 ≤ b) && decide (b < 256) && decide (1 ≤ (b - a) % 256) && decide ((b - a) % 256 ≤ 127)
/-- Those of a number above a seq. -/
def cnd (of ab : Int) (f : Fnd) : Bool := snd f && decide (f.O = of) && decide (ab < f.S)
def mx (l : List Fnd) : Int := l.foldl (fun t f => if t < f.S then f.S else t) (-1)
/-- Of them those of the greatest seq. -/
def sel (l : List Fnd) (of ab : Int) : List Fnd := (l.filter (cnd of ab)).filter fun f => decide (f.S = mx (l.filter (cnd of ab)))
def byP (l : List Fnd) : List Fnd := (List.range 96).flatMap fun (p : Nat) => l.filter fun f => decide (f.P = (p : Int))
def lat (l : List Fnd) (of ab : Int) : List Fnd := byP (sel l of ab)
def best (b : Fnd) (r : List Fnd) : Fnd := r.foldl (fun b f => if ahd f.C b.C then f else b) b
def pk : List Fnd → Option Fnd
  | [] => none
  | x :: r => some (best x r)
def newest (l : List Fnd) (of ab : Int) : Option Fnd := pk (lat l of ab)

/-- How two are compared. -/
def cmpI (a b : Int) : Int := if a < b then -1 else if b < a then 1 else 0
def cf (x y : Fnd) : Int := if cmpI y.S x.S ≠ 0 then cmpI y.S x.S else cmpI x.P y.P
theorem lt_iff (x y : Fnd) : ltOf cf x y = true ↔ y.S < x.S ∨ (y.S = x.S ∧ x.P < y.P) := by
  unfold ltOf cf cmpI
  rw [decide_eq_true_iff]
  repeat' split
  all_goals omega
theorem lt_false (x y : Fnd) : ltOf cf x y = false ↔ x.S < y.S ∨ (x.S = y.S ∧ y.P ≤ x.P) := by
  rw [← Bool.not_eq_true, lt_iff]; omega
theorem swo : SWO (ltOf cf) where
  irrefl x := by rw [lt_false]; omega
  trans x y z h1 h2 := by rw [lt_iff] at *; omega
  ntrans x y z h1 h2 := by rw [lt_false] at *; omega
theorem eqv_iff (x y : Fnd) : eqv (ltOf cf) x y = true ↔ x.S = y.S ∧ x.P = y.P := by
  simp only [eqv, Bool.and_eq_true, Bool.not_eq_true', lt_false]; omega

/-! ### Lists by place -/
theorem sorted_ext : ∀ (l k : List Fnd), l.Pairwise (fun a b => a.P ≤ b.P) → k.Pairwise (fun a b => a.P ≤ b.P) → (∀ p : Int, l.filter (fun f => decide (f.P = p)) = k.filter (fun f => decide (f.P = p))) → l = k
  | [], [], _, _, _ => rfl
  | [], y :: s, _, _, h => by have := h y.P; simp at this
  | x :: r, [], _, _, h => by have := h x.P; simp at this
  | x :: r, y :: s, hl, hk, h => by
    rw [List.pairwise_cons] at hl hk
    have e : x.P = y.P := by
      have h1 : x ∈ (y :: s).filter (fun f => decide (f.P = x.P)) := by rw [← h x.P]; simp
      have h2 : y ∈ (x :: r).filter (fun f => decide (f.P = y.P)) := by rw [h y.P]; simp
      have g1 : y.P ≤ x.P := by
        rcases List.mem_cons.1 (List.mem_filter.1 h1).1 with e | e
        · rw [e]; exact Int.le_refl _
        · exact hk.1 _ e
      have g2 : x.P ≤ y.P := by
        rcases List.mem_cons.1 (List.mem_filter.1 h2).1 with e | e
        · rw [e]; exact Int.le_refl _
        · exact hl.1 _ e
      omega
    have hx := h x.P
    rw [List.filter_cons_of_pos (by simp), List.filter_cons_of_pos (by simp [e])] at hx
    simp only [List.cons.injEq] at hx
    obtain ⟨rfl, hx⟩ := hx
    congr 1
    refine sorted_ext r s hl.2 hk.2 fun p => ?_
    by_cases hp : x.P = p
    · rw [← hp]; exact hx
    · have := h p
      rwa [List.filter_cons_of_neg (by simpa using hp), List.filter_cons_of_neg (by simpa using hp)] at this
theorem byP_sorted (l : List Fnd) : (byP l).Pairwise (fun a b => a.P ≤ b.P) := by
  unfold byP
  rw [List.pairwise_flatMap]
  refine ⟨fun p _ => ?_, ?_⟩
  · rw [List.pairwise_iff_forall_sublist]
    intro a b h
    have ha := h.subset (List.mem_cons_self)
    have hb := h.subset (List.mem_cons_of_mem _ List.mem_cons_self)
    have h1 := (List.mem_filter.1 ha).2
    have h2 := (List.mem_filter.1 hb).2
    simp only [decide_eq_true_eq] at h1 h2
    omega
  · refine List.pairwise_lt_range.imp fun {p q} hpq x hx y hy => ?_
    have h1 := (List.mem_filter.1 hx).2
    have h2 := (List.mem_filter.1 hy).2
    simp only [decide_eq_true_eq] at h1 h2
    omega
theorem range_filter (l : List Fnd) (p : Nat) : ∀ n, ((List.range n).flatMap fun (q : Nat) => (l.filter fun f => decide (f.P = (q : Int))).filter fun f => decide (f.P = (p : Int))) = if p < n then l.filter (fun f => decide (f.P = (p : Int))) else [] := by
  intro n
  induction n with
  | zero => simp
  | succ n ih =>
    rw [List.range_succ, List.flatMap_append, ih]
    simp only [List.flatMap_cons, List.flatMap_nil, List.append_nil, List.filter_filter]
    by_cases h : p < n
    · have e2 : l.filter (fun a => decide (a.P = (p : Int)) && decide (a.P = (n : Int))) = [] := List.filter_eq_nil_iff.2 fun a _ => by
        simp only [Bool.and_eq_true, decide_eq_true_eq]
        omega
      rw [if_pos h, if_pos (by omega), e2, List.append_nil]
    · rw [if_neg h, List.nil_append]
      by_cases e : p = n
      · subst e
        rw [if_pos (by omega)]
        congr 1
        funext f
        simp
      · rw [if_neg (by omega), List.filter_eq_nil_iff.2]
        intro a _
        simp only [Bool.and_eq_true, decide_eq_true_eq]
        omega
theorem byP_filter (l : List Fnd) (hl : ∀ f ∈ l, 0 ≤ f.P ∧ f.P < 96) (p : Int) : (byP l).filter (fun f => decide (f.P = p)) = l.filter (fun f => decide (f.P = p)) := by
  by_cases hp : 0 ≤ p ∧ p < 96
  · obtain ⟨q, rfl⟩ : ∃ q : Nat, p = q := ⟨p.toNat, by omega⟩
    unfold byP
    rw [List.filter_flatMap, range_filter, if_pos (by omega)]
  · rw [List.filter_eq_nil_iff.2, List.filter_eq_nil_iff.2]
    · intro a ha
      have := hl a ha
      simp only [decide_eq_true_eq]; omega
    · intro a ha
      unfold byP at ha
      obtain ⟨q, hq, h⟩ := List.mem_flatMap.1 ha
      have := hl a (List.mem_filter.1 h).1
      simp only [decide_eq_true_eq]; omega
theorem mem_byP {l : List Fnd} {f : Fnd} : f ∈ byP l ↔ f ∈ l ∧ 0 ≤ f.P ∧ f.P < 96 := by
  unfold byP
  rw [List.mem_flatMap]
  constructor
  · rintro ⟨q, hq, h⟩
    have h1 := List.mem_filter.1 h
    have h2 := h1.2
    simp only [decide_eq_true_eq] at h2
    rw [List.mem_range] at hq
    exact ⟨h1.1, by omega, by omega⟩
  · rintro ⟨h, h1, h2⟩
    exact ⟨f.P.toNat, List.mem_range.2 (by omega), List.mem_filter.2 ⟨h, by simp only [decide_eq_true_eq]; omega⟩⟩

/-! ### The greatest seq -/
theorem mx_aux (l : List Fnd) : ∀ t : Int, t ≤ l.foldl (fun t f => if t < f.S then f.S else t) t ∧ (∀ f ∈ l, f.S ≤ l.foldl (fun t f => if t < f.S then f.S else t) t) ∧ (l.foldl (fun t f => if t < f.S then f.S else t) t = t ∨ ∃ f ∈ l, f.S = l.foldl (fun t f => if t < f.S then f.S else t) t) := by
  induction l with
  | nil => intro t; exact ⟨Int.le_refl _, by simp, Or.inl rfl⟩
  | cons x r ih =>
    intro t
    rw [List.foldl_cons]
    obtain ⟨h1, h2, h3⟩ := ih (if t < x.S then x.S else t)
    have e : t ≤ (if t < x.S then x.S else t) ∧ x.S ≤ (if t < x.S then x.S else t) := by split <;> omega
    refine ⟨by omega, ?_, ?_⟩
    · intro f hf
      rcases List.mem_cons.1 hf with rfl | hf
      · omega
      · exact h2 f hf
    · rcases h3 with h3 | ⟨f, hf, h3⟩
      · rw [h3]
        split
        · exact Or.inr ⟨x, by simp, rfl⟩
        · exact Or.inl rfl
      · exact Or.inr ⟨f, List.mem_cons_of_mem _ hf, h3⟩
theorem mx_le {l : List Fnd} {f : Fnd} (h : f ∈ l) : f.S ≤ mx l := (mx_aux l (-1)).2.1 f h
theorem mx_mem {l : List Fnd} (h : l ≠ []) (h0 : ∀ f ∈ l, 0 ≤ f.S) : ∃ f ∈ l, f.S = mx l := by
  rcases (mx_aux l (-1)).2.2 with e | e
  · obtain ⟨f, hf⟩ := List.exists_mem_of_ne_nil l h
    have h1 := mx_le hf
    have h2 := h0 f hf
    have e' : mx l = -1 := e
    omega
  · exact e
/-- Any list of those whose seq is greatest, in whatever order. -/
theorem mx_eq {l : List Fnd} {t : Int} (h1 : ∀ f ∈ l, f.S ≤ t) (h2 : ∃ f ∈ l, f.S = t) (h0 : ∀ f ∈ l, 0 ≤ f.S) : mx l = t := by
  obtain ⟨f, hf, e⟩ := h2
  obtain ⟨g, hg, e2⟩ := mx_mem (List.ne_nil_of_mem hf) h0
  have := mx_le hf
  have := h1 g hg
  omega
theorem cnd_snd {of ab : Int} {f : Fnd} (h : cnd of ab f = true) : snd f = true ∧ f.O = of ∧ ab < f.S := by
  simpa [cnd, and_assoc] using h

/-! ### The sorted row -/
theorem takeWhile_filter (t : Int) : ∀ (l : List Fnd), l.Pairwise (fun a b => b.S ≤ a.S) → (∀ f ∈ l, f.S ≤ t) → l.takeWhile (fun f => !decide (f.S < t)) = l.filter (fun f => decide (f.S = t))
  | [], _, _ => rfl
  | x :: r, h, hl => by
    rw [List.pairwise_cons] at h
    have hx := hl x (by simp)
    by_cases e : x.S = t
    · rw [List.takeWhile_cons_of_pos (by simp [e]), List.filter_cons_of_pos (by simp [e]), takeWhile_filter t r h.2 (fun f hf => hl f (List.mem_cons_of_mem _ hf))]
    · rw [List.takeWhile_cons_of_neg (by simp; omega), List.filter_eq_nil_iff.2]
      intro f hf
      have h1 : f.S ≤ x.S := by
        rcases List.mem_cons.1 hf with rfl | hf
        · exact Int.le_refl _
        · exact h.1 f hf
      simp only [decide_eq_true_eq]; omega
theorem pairwise_of_sorted {d : Array Fnd} (h : SortedIn (ltOf cf) 0 d.size d) : d.toList.Pairwise (fun a b => ltOf cf b a = false) := by
  rw [List.pairwise_iff_getElem]
  intro i j hi hj hij
  have hj' : j < d.size := by simpa using hj
  have := h i j (Nat.zero_le _) hij hj'
  rw [getElem!_pos d i (by omega), getElem!_pos d j hj'] at this
  simpa using this
/-- The sorted row, as far as its first seq goes, is what the document looks at. -/
theorem lat_sorted (l : List Fnd) (of ab : Int) (d' : Array Fnd) (h : Srt (ltOf cf) (l.filter (cnd of ab)).toArray d') : d'.toList.takeWhile (fun f => !decide (f.S < (d'[0]!).S)) = lat l of ab := by
  generalize hL : l.filter (cnd of ab) = L at h
  have hsz : d'.size = L.length := by simpa using h.stb.size
  have hso : SortedIn (ltOf cf) 0 d'.size d' := by have := h.so; simpa [hsz] using this
  have hp := pairwise_of_sorted hso
  have hflt : ∀ x, d'.toList.filter (eqv (ltOf cf) x) = L.filter (eqv (ltOf cf) x) := fun x => by
    have := h.stb.flt x
    have e : L.toArray.size = d'.size := by simp [hsz]
    rw [sg_all L.toArray, e, sg_all d'] at this
    exact this
  have hmem : ∀ f, f ∈ d'.toList ↔ f ∈ L := fun f => by
    have := hflt f
    have e : eqv (ltOf cf) f f = true := eqv_self swo f
    constructor
    · intro hf
      have : f ∈ d'.toList.filter (eqv (ltOf cf) f) := List.mem_filter.2 ⟨hf, e⟩
      rw [hflt] at this
      exact (List.mem_filter.1 this).1
    · intro hf
      have : f ∈ L.filter (eqv (ltOf cf) f) := List.mem_filter.2 ⟨hf, e⟩
      rw [← hflt] at this
      exact (List.mem_filter.1 this).1
  have hs : ∀ f ∈ L, snd f = true := fun f hf => by rw [← hL] at hf; exact (cnd_snd (List.mem_filter.1 hf).2).1
  unfold lat sel
  rw [hL]
  by_cases h0 : L = []
  · have : d'.toList = [] := List.eq_nil_iff_forall_not_mem.2 fun f hf => by rw [hmem, h0] at hf; simp at hf
    rw [this, h0]
    simp [byP]
  · have hd0 : 0 < d'.size := by rw [hsz]; exact List.length_pos_iff.2 h0
    have hS : d'.toList.Pairwise (fun a b => b.S ≤ a.S) := hp.imp fun {a b} h => by rw [lt_false] at h; omega
    have hle : ∀ f ∈ d'.toList, f.S ≤ (d'[0]!).S := by
      intro f hf
      obtain ⟨i, hi, e⟩ := List.mem_iff_getElem.1 hf
      have hi' : i < d'.size := by simpa using hi
      by_cases h1 : i = 0
      · subst h1
        rw [getElem!_pos d' 0 hd0, ← e]; simp
      · have := hso 0 i (Nat.le_refl _) (by omega) hi'
        rw [lt_false, getElem!_pos d' i hi'] at this
        have e' : d'[i] = f := by simpa using e
        rw [e'] at this
        omega
    have hm : mx L = (d'[0]!).S := by
      refine mx_eq (fun f hf => hle f ((hmem f).2 hf)) ⟨d'[0]!, (hmem _).1 ?_, rfl⟩ (fun f hf => ((snd_iff f).1 (hs f hf)).2.2.2.2.1)
      rw [getElem!_pos d' 0 hd0]; simp
    rw [takeWhile_filter _ _ hS hle, hm]
    generalize (d'[0]!).S = t
    refine sorted_ext _ _ ?_ (byP_sorted _) fun p => ?_
    · rw [List.pairwise_filter]
      refine hp.imp fun {a b} h h1 h2 => ?_
      simp only [decide_eq_true_eq] at h1 h2
      rw [lt_false] at h
      omega
    · rw [byP_filter _ (fun f hf => by have := (snd_iff f).1 (hs f (List.mem_filter.1 hf).1); exact ⟨this.1, this.2.1⟩)]
      have e := hflt ⟨p, 0, 0, t, 0, false⟩
      rw [List.filter_filter, List.filter_filter]
      have g : (fun f : Fnd => decide (f.P = p) && decide (f.S = t)) = eqv (ltOf cf) ⟨p, 0, 0, t, 0, false⟩ := by
        funext f
        rw [Bool.eq_iff_iff, eqv_iff]
        show _ ↔ t = f.S ∧ p = f.P
        simp only [Bool.and_eq_true, decide_eq_true_eq]
        omega
      rw [g]
      exact e
end Go.Proofs.Ytjkpidhpjleebaa
