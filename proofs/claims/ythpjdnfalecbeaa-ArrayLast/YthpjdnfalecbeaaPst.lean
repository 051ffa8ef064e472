/-
  What a Two holds: two arrays, what they are by the document, what came out. No condition: lemmas.
-/
import Derived.Test.YthpjdnfalecbeaaShow
namespace Go.Proofs.Ythpjdnfalecbeaa
open Go.RowKit
set_option maxRecDepth 100000

theorem AryAt.chg {S : Nat → Prop} {w w' : World} {g : Nat} {s : Nat → List Nat} (h : AryAt w g s) (hc : Chg S w w') (hg : ¬ S g) : AryAt w' g s := Sto.chg h hc hg
def flatV (G : Nat → List Value) : Nat → List Value
  | 0 => []
  | n + 1 => flatV G n ++ G n
theorem flatV_length {G : Nat → List Value} {m : Nat} (n : Nat) (h : ∀ j, j < n → (G j).length = m) : (flatV G n).length = n * m := by
  induction n with
  | zero => simp [flatV]
  | succ n ih => rw [flatV, List.length_append, ih (fun j hj => h j (by omega)), h n (by omega), Nat.succ_mul]
theorem flatV_congr {G G' : Nat → List Value} (n : Nat) (h : ∀ j, j < n → G' j = G j) : flatV G' n = flatV G n := by
  induction n with
  | zero => rfl
  | succ n ih => rw [flatV, flatV, ih (fun j hj => h j (by omega)), h n (by omega)]
theorem size_set (w : World) (a : Addr) (v : Value) : (w.setCell a v).heap.size = w.heap.size := by simp [World.setCell]
def fresh (w w' : World) : Nat → Prop := fun k => w.heap.size ≤ k ∧ k < w'.heap.size
/-- The data. Each block of memory bears a number in col: whose it is. -/
structure Sta where
  col : Nat → Nat
  c : Nat
  d : Nat
  r1 : Nat
  r2 : Nat
  nt : Nat
  nw : Nat
  sc : (Nat → List Nat)
  xc : (Nat → List Nat)
  sd : (Nat → List Nat)
  vt : Value
  vw : Value
  Vt : Nat → Value
  Vw : Nat → Value
  L : Nat → List Nat
def twoL (σ : Sta) : List Value := [.pointer (some ⟨σ.c, 0, none⟩), .pointer (some ⟨σ.d, 0, none⟩), .pointer (some ⟨σ.r1, 0, none⟩), .pointer (some ⟨σ.r2, 0, none⟩), σ.vt, σ.vw]
structure Pst (B : Prop) (w0 w : World) (t : Nat) (σ : Sta) : Prop where
  two : Row w t 31 6 (fun i => (twoL σ).getD i undef)
  cc : AryAt w σ.c σ.sc
  cd : AryAt w σ.d σ.sd
  oc : Okr σ.sc
  ox : Okr σ.xc
  od : Okr σ.sd
  rc : RefAt w σ.r1 σ.xc (fun k => σ.col k = 3)
  rd : RefAt w σ.r2 σ.sd (fun k => σ.col k = 4)
  told : w.ownsRow w0.heap.size 36 1 σ.vt σ.nt (flatV (fun i => [σ.Vt i]) σ.nt)
  want : w.ownsRow w0.heap.size 36 1 σ.vw σ.nw (flatV (fun i => [σ.Vw i]) σ.nw)
  tv : B → ∀ i, i < σ.nt → OwnT w w0.heap.size 5 (σ.Vt i) (σ.L i)
  wv : B → ∀ i, i < σ.nw → Held w (σ.Vw i) (σ.L i)
  tdis : B → ∀ i j k, i < σ.nt → j < σ.nt → i ≠ j → (σ.Vt i).ownBlock = some k → (σ.Vt j).ownBlock ≠ some k
  len : B → ∀ i, i < σ.nt → (σ.L i).length ≤ 256
  kt : σ.col t = 5
  kc : σ.col σ.c = 1
  kd : σ.col σ.d = 2
  kvt : ∀ k, σ.vt.ownBlock = some k → σ.col k = 10
  kvw : ∀ k, σ.vw.ownBlock = some k → σ.col k = 11
  kVt : B → ∀ i, i < σ.nt → ∀ k, (σ.Vt i).ownBlock = some k → σ.col k = 6
  kVw : B → ∀ i, i < σ.nw → ∀ k, (σ.Vw i).ownBlock = some k → σ.col k = 7
  new : ∀ k, w.heap.size ≤ k → σ.col k = 9
  old : ∀ k, k < w0.heap.size → σ.col k = 8
  chg : Chg (fun _ => False) w0 w
/-- The new blocks bear the number x. -/
def paint (col : Nat → Nat) (w w' : World) (x : Nat) : Nat → Nat := fun k => if w.heap.size ≤ k ∧ k < w'.heap.size then x else col k
theorem paint_lt {col : Nat → Nat} {w w' : World} {x k : Nat} (h : k < w.heap.size) : paint col w w' x k = col k := by unfold paint; rw [if_neg (by omega)]
theorem paint_new {col : Nat → Nat} {w w' : World} {x : Nat} (hn : ∀ k, w.heap.size ≤ k → col k = 9) (hs : w.heap.size ≤ w'.heap.size) (k : Nat) (h : w'.heap.size ≤ k) : paint col w w' x k = 9 := by unfold paint; rw [if_neg (by omega)]; exact hn k (by omega)
theorem Pst.lt {B : Prop} {w0 w : World} {t : Nat} {σ : Sta} (h : Pst B w0 w t σ) {k : Nat} (hk : σ.col k ≠ 9) : k < w.heap.size := by
  by_cases e : k < w.heap.size
  · exact e
  · exact absurd (h.new k (by omega)) hk
theorem Pst.ge {B : Prop} {w0 w : World} {t : Nat} {σ : Sta} (h : Pst B w0 w t σ) {k : Nat} (hk : σ.col k ≠ 8) : w0.heap.size ≤ k := by
  by_cases e : k < w0.heap.size
  · exact absurd (h.old k e) hk
  · omega
/-- What stays where only blocks of the numbers 0, 1 and 3 have changed, and others are new. -/
theorem Pst.keep {B : Prop} {w0 w w' : World} {t : Nat} {σ : Sta} {S : Nat → Prop} (h : Pst B w0 w t σ) (hc : Chg S w w') (hS : ∀ k, S k → σ.col k = 0 ∨ σ.col k = 1 ∨ σ.col k = 3) (x : Nat) (sc xc : (Nat → List Nat)) (hsc : Okr sc) (hxc : Okr xc)
    (cc : AryAt w' σ.c sc) (rc : RefAt w' σ.r1 xc (fun k => paint σ.col w w' x k = 3)) : Pst B w0 w' t { σ with col := paint σ.col w w' x, sc := sc, xc := xc } := by
  have hlt := fun k (hk : σ.col k ≠ 9) => paint_lt (col := σ.col) (w' := w') (x := x) (h.lt hk)
  have hp : ∀ k y, σ.col k = y → y ≠ 9 → paint σ.col w w' x k = y := fun k y e hy => (hlt k (by rw [e]; exact hy)).trans e
  refine ⟨h.two.chg hc (fun hs => ?_), cc, h.cd.chg hc (fun hs => ?_), hsc, hxc, h.od, rc, ?_, ownsRow_chg h.told hc (fun k hk hs => ?_), ownsRow_chg h.want hc (fun k hk hs => ?_), fun hB i hi => (h.tv hB i hi).chg hc (fun k hk he hs => ?_), fun hB i hi => (h.wv hB i hi).chg hc (fun k hk he hs => ?_), h.tdis, h.len,
    hp _ _ h.kt (by decide), hp _ _ h.kc (by decide), hp _ _ h.kd (by decide), fun k hk => hp _ _ (h.kvt k hk) (by decide), fun k hk => hp _ _ (h.kvw k hk) (by decide), fun hB i hi k hk => hp _ _ (h.kVt hB i hi k hk) (by decide), fun hB i hi k hk => hp _ _ (h.kVw hB i hi k hk) (by decide), paint_new h.new hc.size, fun k hk => hp _ _ (h.old k hk) (by decide), ?_⟩
  · have := hS _ hs; rw [h.kt] at this; omega
  · have := hS _ hs; rw [h.kd] at this; omega
  · refine RefAt.mono' (h.rd.chg hc (fun k hk hs => ?_)) (fun k _ hk => hp k 4 hk (by decide))
    have := hS k hs; omega
  · have := hS k hs; rw [h.kvt k hk] at this; omega
  · have := hS k hs; rw [h.kvw k hk] at this; omega
  · have := hS k hs; rw [h.kVt hB i hi k he] at this; omega
  · have := hS k hs; rw [h.kVw hB i hi k he] at this; omega
  · exact h.chg.trans' hc (fun k hk hs => by have := hS k hs; rw [h.old k hk] at this; omega)
/-- The program's chip did something. -/
theorem Pst.prog {B : Prop} {w0 w w' : World} {t : Nat} {σ : Sta} (h : Pst B w0 w t σ) (sc : (Nat → List Nat)) (hsc : Okr sc) (cc : AryAt w' σ.c sc) (hc : Chg (· = σ.c) w w') : Pst B w0 w' t { σ with col := paint σ.col w w' 0, sc := sc } :=
  h.keep hc (fun k hk => by rw [hk, h.kc]; omega) 0 sc σ.xc hsc h.ox cc (RefAt.mono' (h.rc.chg hc (fun k hk e => by rw [e, h.kc] at hk; omega)) (fun k _ hk => by
    show paint σ.col w w' 0 k = 3
    rw [paint_lt (h.lt (by rw [hk]; decide))]; exact hk))
/-- Nothing that lasts was done. -/
theorem Pst.still {B : Prop} {w0 w w' : World} {t : Nat} {σ : Sta} (h : Pst B w0 w t σ) (hc : Chg (fun _ => False) w w') : Pst B w0 w' t { σ with col := paint σ.col w w' 0 } :=
  h.prog σ.sc h.oc (h.cc.chg hc (fun f => f)) (hc.mono (fun _ _ f => f.elim))
/-- The document's chip did something, and what is new is not its. -/
theorem Pst.ref0 {B : Prop} {w0 w w' : World} {t : Nat} {σ : Sta} (h : Pst B w0 w t σ) (xc : (Nat → List Nat)) (hxc : Okr xc) (rc : RefAt w' σ.r1 xc (fun k => σ.col k = 3)) (hc : Chg (fun k => σ.col k = 3) w w') : Pst B w0 w' t { σ with col := paint σ.col w w' 0, xc := xc } :=
  h.keep hc (fun k hk => by omega) 0 σ.sc xc h.oc hxc (h.cc.chg hc (fun e => by rw [h.kc] at e; omega)) (RefAt.mono' rc (fun k _ hk => by
    show paint σ.col w w' 0 k = 3
    rw [paint_lt (h.lt (by rw [hk]; decide))]; exact hk))
/-- The document's chip did something, and what is new is its. -/
theorem Pst.ref3 {B : Prop} {w0 w w' : World} {t : Nat} {σ : Sta} (h : Pst B w0 w t σ) (xc : (Nat → List Nat)) (hxc : Okr xc) (rc : RefAt w' σ.r1 xc (grow (fun k => σ.col k = 3) w w')) (hc : Chg (fun k => σ.col k = 3) w w') : Pst B w0 w' t { σ with col := paint σ.col w w' 3, xc := xc } :=
  h.keep hc (fun k hk => by omega) 3 σ.sc xc h.oc hxc (h.cc.chg hc (fun e => by rw [h.kc] at e; omega)) (RefAt.mono' rc (fun k _ hk => by
    show paint σ.col w w' 3 k = 3
    rcases hk with hk | hk
    · rw [paint_lt (h.lt (by rw [hk]; decide))]; exact hk
    · unfold paint; rw [if_pos hk]))
theorem Pst.cellC {B : Prop} {w0 w : World} {t : Nat} {σ : Sta} (h : Pst B w0 w t σ) : w.cell? ⟨t, 0, none⟩ = some (.pointer (some ⟨σ.c, 0, none⟩)) := h.two.cell 0 (by omega)
theorem Pst.cellD {B : Prop} {w0 w : World} {t : Nat} {σ : Sta} (h : Pst B w0 w t σ) : w.cell? ⟨t, 1, none⟩ = some (.pointer (some ⟨σ.d, 0, none⟩)) := h.two.cell 1 (by omega)
theorem Pst.cellR {B : Prop} {w0 w : World} {t : Nat} {σ : Sta} (h : Pst B w0 w t σ) : w.cell? ⟨t, 2, none⟩ = some (.pointer (some ⟨σ.r1, 0, none⟩)) := h.two.cell 2 (by omega)
theorem Pst.cellS {B : Prop} {w0 w : World} {t : Nat} {σ : Sta} (h : Pst B w0 w t σ) : w.cell? ⟨t, 3, none⟩ = some (.pointer (some ⟨σ.r2, 0, none⟩)) := h.two.cell 3 (by omega)
theorem Pst.cellT {B : Prop} {w0 w : World} {t : Nat} {σ : Sta} (h : Pst B w0 w t σ) : w.cell? ⟨t, 4, none⟩ = some σ.vt := h.two.cell 4 (by omega)
theorem Pst.cellW {B : Prop} {w0 w : World} {t : Nat} {σ : Sta} (h : Pst B w0 w t σ) : w.cell? ⟨t, 5, none⟩ = some σ.vw := h.two.cell 5 (by omega)
theorem Pst.frozen {B : Prop} {w0 w : World} {t : Nat} {σ : Sta} (h : Pst B w0 w t σ) (i : Nat) : w.frozen? ⟨t, i, none⟩ = false := h.two.frozen i
/-- One cell of the Two is another. -/
theorem two_set {w : World} {t : Nat} {σ σ' : Sta} (h : Row w t 31 6 (fun i => (twoL σ).getD i undef)) (j : Nat) (v : Value) (hj : j < 6) (e : (twoL σ).set j v = twoL σ') : Row (w.setCell ⟨t, j, none⟩ v) t 31 6 (fun i => (twoL σ').getD i undef) := by
  refine (h.setCell j v).ext fun i hi => ?_
  rw [upL_one, ← e]
  by_cases h1 : i = j
  · subst h1
    rw [if_pos rfl, List.getD_eq_getElem?_getD, List.getElem?_set_self (by simp [twoL]; exact hj)]; rfl
  · rw [if_neg h1, List.getD_eq_getElem?_getD, List.getD_eq_getElem?_getD, List.getElem?_set_ne (by omega)]
/-- Bytes that came out are laid to the others. -/
theorem Pst.pushT {B : Prop} {w0 w w1 w2 : World} {t : Nat} {σ : Sta} (h : Pst B w0 w t σ) (v v' : Value) (l : List Nat) (hv : OwnT w w0.heap.size 5 v l) (hl : l.length ≤ 256) (hk : ∀ k, v.ownBlock = some k → σ.col k = 0)
    (hw1 : Chg (fun _ => False) w w1) (hO : w2.ownsRow w0.heap.size 36 1 v' (σ.nt + 1) (flatV (fun i => [σ.Vt i]) σ.nt ++ [v])) (hg : w1.grownBy w2 σ.vt.ownBlock) (hat : v'.ownBlock = σ.vt.ownBlock ∨ ∃ k, v'.ownBlock = some k ∧ w.heap.size ≤ k) (hw : σ.nw ≤ σ.nt) :
    Pst B w0 (w2.setCell ⟨t, 4, none⟩ v') t { σ with col := (fun k => if v'.ownBlock = some k then 10 else if v.ownBlock = some k then 6 else paint σ.col w w2 0 k), nt := σ.nt + 1, vt := v', Vt := (fun i => if i = σ.nt then v else σ.Vt i), L := (fun i => if i = σ.nt then l else σ.L i) } := by
  have hc2 : Chg (fun k => σ.vt.ownBlock = some k) w w2 := (hw1.mono (T := fun k => σ.vt.ownBlock = some k) (fun _ _ f => f.elim)).grown hg (fun k hk => Or.inl hk)
  have hc : Chg (fun k => σ.col k = 10 ∨ k = t) w (w2.setCell ⟨t, 4, none⟩ v') := (hc2.mono (T := fun k => σ.col k = 10 ∨ k = t) (fun k _ hk => Or.inl (h.kvt k hk))).setCell (Or.inl (Or.inr rfl)) 4 v'
  have hc2' : Chg (fun k => σ.col k = 10) w w2 := hc2.mono (fun k _ hk => h.kvt k hk)
  have hcol : ∀ k y, σ.col k = y → y ≠ 9 → y ≠ 10 → y ≠ 0 → (if v'.ownBlock = some k then 10 else if v.ownBlock = some k then 6 else paint σ.col w w2 0 k) = y := by
    intro k y e h1 h2 h3
    have hlt : k < w.heap.size := h.lt (by rw [e]; exact h1)
    have n1 : ¬ v'.ownBlock = some k := by
      intro e2
      rcases hat with e3 | ⟨k2, e3, e4⟩
      · rw [e2] at e3; have := h.kvt k e3.symm; omega
      · rw [e2] at e3; have := Option.some.inj e3; omega
    have n2 : ¬ v.ownBlock = some k := fun e2 => by have := hk k e2; omega
    rw [if_neg n1, if_neg n2, paint_lt hlt]; exact e
  have hsz : (w2.setCell ⟨t, 4, none⟩ v').heap.size = w2.heap.size := size_set _ _ _
  have htw : Row w2 t 31 6 (fun i => (twoL σ).getD i undef) := h.two.chg hc2' (fun e => by rw [h.kt] at e; omega)
  have hO' : (w2.setCell ⟨t, 4, none⟩ v').ownsRow w0.heap.size 36 1 v' (σ.nt + 1) (flatV (fun i => [σ.Vt i]) σ.nt ++ [v]) := by
    refine ownsRow_chg hO (Chg.r1 (r := t) w2 4 v') (fun k hk2 e => ?_)
    rcases hO.2 with ⟨rfl, _⟩ | ⟨g', cap', cur', rfl, _, hh, _⟩
    · cases hk2
    · have e2 : g' = k := Option.some.inj hk2
      subst e2
      subst e
      exact Row.ne (⟨cur', hh, by omega, fun j hj => by omega⟩ : Row w2 g' 36 0 (fun _ => undef)) htw (by decide) rfl
  refine ⟨two_set (σ := σ) (σ' := { σ with vt := v' }) htw 4 v' (by omega) rfl, h.cc.chg hc (fun e => by rcases e with e | e; rw [h.kc] at e; omega; have := h.kc; rw [e, h.kt] at this; omega), h.cd.chg hc (fun e => by rcases e with e | e; rw [h.kd] at e; omega; have := h.kd; rw [e, h.kt] at this; omega), h.oc, h.ox, h.od,
    RefAt.mono' (h.rc.chg hc (fun k hk2 e => by rcases e with e | e; omega; rw [e, h.kt] at hk2; omega)) (fun k _ hk2 => hcol k 3 hk2 (by decide) (by decide) (by decide)), RefAt.mono' (h.rd.chg hc (fun k hk2 e => by rcases e with e | e; omega; rw [e, h.kt] at hk2; omega)) (fun k _ hk2 => hcol k 4 hk2 (by decide) (by decide) (by decide)),
    ?_, ownsRow_chg h.want hc (fun k hk2 e => by have h1 := h.kvw k hk2; rcases e with e | e; omega; rw [e, h.kt] at h1; omega), fun hB i hi => ?_, fun hB i hi => ?_, fun hB i j k hi hj hne he => ?_, fun hB i hi => ?_, hcol _ _ h.kt (by decide) (by decide) (by decide), hcol _ _ h.kc (by decide) (by decide) (by decide), hcol _ _ h.kd (by decide) (by decide) (by decide), fun k hk2 => if_pos hk2,
    fun k hk2 => hcol _ _ (h.kvw k hk2) (by decide) (by decide) (by decide), fun hB i hi k hk2 => ?_, fun hB i hi k hk2 => hcol _ _ (h.kVw hB i hi k hk2) (by decide) (by decide) (by decide), fun k hk2 => ?_, fun k hk2 => hcol _ _ (h.old k hk2) (by decide) (by decide) (by decide), h.chg.trans' hc (fun k hk2 e => by rcases e with e | e; rw [h.old k hk2] at e; omega; have h1 := h.old k hk2; rw [e, h.kt] at h1; omega)⟩
  · show (w2.setCell ⟨t, 4, none⟩ v').ownsRow w0.heap.size 36 1 v' (σ.nt + 1) (flatV (fun i => [if i = σ.nt then v else σ.Vt i]) (σ.nt + 1))
    rw [flatV, if_pos rfl, flatV_congr σ.nt (fun j hj => by rw [if_neg (by omega)])]
    exact hO'
  · show OwnT _ _ 5 (if i = σ.nt then v else σ.Vt i) (if i = σ.nt then l else σ.L i)
    by_cases e : i = σ.nt
    · rw [if_pos e, if_pos e]
      exact hv.chg hc (fun k _ he e2 => by have h1 := hk k he; rcases e2 with e2 | e2; omega; rw [e2, h.kt] at h1; omega)
    · rw [if_neg e, if_neg e]
      exact (h.tv hB i (by have : i < σ.nt + 1 := hi; omega)).chg hc (fun k _ he e2 => by have h1 := h.kVt hB i (by have : i < σ.nt + 1 := hi; omega) k he; rcases e2 with e2 | e2; omega; rw [e2, h.kt] at h1; omega)
  · show Held _ (σ.Vw i) (if i = σ.nt then l else σ.L i)
    have hi' : i < σ.nw := hi
    rw [if_neg (by omega)]
    exact (h.wv hB i hi).chg hc (fun k _ he e2 => by have h1 := h.kVw hB i hi k he; rcases e2 with e2 | e2; omega; rw [e2, h.kt] at h1; omega)
  · show (if j = σ.nt then v else σ.Vt j).ownBlock ≠ some k
    have he' : (if i = σ.nt then v else σ.Vt i).ownBlock = some k := he
    have hi' : i < σ.nt + 1 := hi
    have hj' : j < σ.nt + 1 := hj
    by_cases e1 : i = σ.nt
    · rw [if_pos e1] at he'
      by_cases e2 : j = σ.nt
      · exact absurd (e1.trans e2.symm) hne
      · rw [if_neg e2]
        intro e3
        have h1 := hk k he'
        have h2 := h.kVt hB j (by omega) k e3
        omega
    · rw [if_neg e1] at he'
      by_cases e2 : j = σ.nt
      · rw [if_pos e2]
        intro e3
        have h1 := hk k e3
        have h2 := h.kVt hB i (by omega) k he'
        omega
      · rw [if_neg e2]
        exact h.tdis hB i j k (by omega) (by omega) hne he'
  · show (if i = σ.nt then l else σ.L i).length ≤ 256
    by_cases e : i = σ.nt
    · rw [if_pos e]; exact hl
    · rw [if_neg e]; exact h.len hB i (by have : i < σ.nt + 1 := hi; omega)
  · have hi' : i < σ.nt + 1 := hi
    have hk2' : (if i = σ.nt then v else σ.Vt i).ownBlock = some k := hk2
    show (if v'.ownBlock = some k then 10 else if v.ownBlock = some k then 6 else paint σ.col w w2 0 k) = 6
    by_cases e : i = σ.nt
    · rw [if_pos e] at hk2'
      have h1 := hk k hk2'
      have hlt : k < w.heap.size := h.lt (by rw [h1]; decide)
      have n1 : ¬ v'.ownBlock = some k := by
        intro e2
        rcases hat with e3 | ⟨k2, e3, e4⟩
        · rw [e2] at e3; have := h.kvt k e3.symm; omega
        · rw [e2] at e3; have := Option.some.inj e3; omega
      rw [if_neg n1, if_pos hk2']
    · rw [if_neg e] at hk2'
      exact hcol _ _ (h.kVt hB i (by omega) k hk2') (by decide) (by decide) (by decide)
  · rw [hsz] at hk2
    have hs2 := hc2.size
    show (if v'.ownBlock = some k then 10 else if v.ownBlock = some k then 6 else paint σ.col w w2 0 k) = 9
    have n1 : ¬ v'.ownBlock = some k := fun e => by have := (hO.lt k e).2; omega
    have n2 : ¬ v.ownBlock = some k := fun e => by have := (hv.block e).2; omega
    rw [if_neg n1, if_neg n2]
    exact paint_new h.new hs2 k hk2
/-- What they should be is laid to the others. -/
theorem Pst.pushW {B : Prop} {w0 w w1 w2 : World} {t : Nat} {σ : Sta} (h : Pst B w0 w t σ) (v v' : Value) (hv : B → Held w v (σ.L σ.nw)) (hk : ∀ k, v.ownBlock = some k → σ.col k = 0)
    (hw1 : Chg (fun _ => False) w w1) (hO : w2.ownsRow w0.heap.size 36 1 v' (σ.nw + 1) (flatV (fun i => [σ.Vw i]) σ.nw ++ [v])) (hg : w1.grownBy w2 σ.vw.ownBlock) (hat : v'.ownBlock = σ.vw.ownBlock ∨ ∃ k, v'.ownBlock = some k ∧ w.heap.size ≤ k) :
    Pst B w0 (w2.setCell ⟨t, 5, none⟩ v') t { σ with col := (fun k => if v'.ownBlock = some k then 11 else if v.ownBlock = some k then 7 else paint σ.col w w2 0 k), nw := σ.nw + 1, vw := v', Vw := (fun i => if i = σ.nw then v else σ.Vw i) } := by
  have hc2 : Chg (fun k => σ.vw.ownBlock = some k) w w2 := (hw1.mono (T := fun k => σ.vw.ownBlock = some k) (fun _ _ f => f.elim)).grown hg (fun k hk => Or.inl hk)
  have hc : Chg (fun k => σ.col k = 11 ∨ k = t) w (w2.setCell ⟨t, 5, none⟩ v') := (hc2.mono (T := fun k => σ.col k = 11 ∨ k = t) (fun k _ hk => Or.inl (h.kvw k hk))).setCell (Or.inl (Or.inr rfl)) 5 v'
  have hc2' : Chg (fun k => σ.col k = 11) w w2 := hc2.mono (fun k _ hk => h.kvw k hk)
  have hnv : ∀ k, k < w.heap.size → σ.col k ≠ 11 → ¬ v'.ownBlock = some k := by
    intro k hlt h1 e2
    rcases hat with e3 | ⟨k2, e3, e4⟩
    · rw [e2] at e3; exact h1 (h.kvw k e3.symm)
    · rw [e2] at e3; have := Option.some.inj e3; omega
  have hcol : ∀ k y, σ.col k = y → y ≠ 9 → y ≠ 11 → y ≠ 0 → (if v'.ownBlock = some k then 11 else if v.ownBlock = some k then 7 else paint σ.col w w2 0 k) = y := by
    intro k y e h1 h2 h3
    have hlt : k < w.heap.size := h.lt (by rw [e]; exact h1)
    have n2 : ¬ v.ownBlock = some k := fun e2 => by have := hk k e2; omega
    rw [if_neg (hnv k hlt (by rw [e]; exact h2)), if_neg n2, paint_lt hlt]; exact e
  have hsz : (w2.setCell ⟨t, 5, none⟩ v').heap.size = w2.heap.size := size_set _ _ _
  have htw : Row w2 t 31 6 (fun i => (twoL σ).getD i undef) := h.two.chg hc2' (fun e => by rw [h.kt] at e; omega)
  have hO' : (w2.setCell ⟨t, 5, none⟩ v').ownsRow w0.heap.size 36 1 v' (σ.nw + 1) (flatV (fun i => [σ.Vw i]) σ.nw ++ [v]) := by
    refine ownsRow_chg hO (Chg.r1 (r := t) w2 5 v') (fun k hk2 e => ?_)
    rcases hO.2 with ⟨rfl, _⟩ | ⟨g', cap', cur', rfl, _, hh, _⟩
    · cases hk2
    · have e2 : g' = k := Option.some.inj hk2
      subst e2
      subst e
      exact Row.ne (⟨cur', hh, by omega, fun j hj => by omega⟩ : Row w2 g' 36 0 (fun _ => undef)) htw (by decide) rfl
  refine ⟨two_set (σ := σ) (σ' := { σ with vw := v' }) htw 5 v' (by omega) rfl, h.cc.chg hc (fun e => by rcases e with e | e; rw [h.kc] at e; omega; have := h.kc; rw [e, h.kt] at this; omega), h.cd.chg hc (fun e => by rcases e with e | e; rw [h.kd] at e; omega; have := h.kd; rw [e, h.kt] at this; omega), h.oc, h.ox, h.od,
    RefAt.mono' (h.rc.chg hc (fun k hk2 e => by rcases e with e | e; omega; rw [e, h.kt] at hk2; omega)) (fun k _ hk2 => hcol k 3 hk2 (by decide) (by decide) (by decide)), RefAt.mono' (h.rd.chg hc (fun k hk2 e => by rcases e with e | e; omega; rw [e, h.kt] at hk2; omega)) (fun k _ hk2 => hcol k 4 hk2 (by decide) (by decide) (by decide)),
    ownsRow_chg h.told hc (fun k hk2 e => by have h1 := h.kvt k hk2; rcases e with e | e; omega; rw [e, h.kt] at h1; omega), ?_, fun hB i hi => ?_, fun hB i hi => ?_, h.tdis, h.len, hcol _ _ h.kt (by decide) (by decide) (by decide), hcol _ _ h.kc (by decide) (by decide) (by decide), hcol _ _ h.kd (by decide) (by decide) (by decide),
    fun k hk2 => hcol _ _ (h.kvt k hk2) (by decide) (by decide) (by decide), fun k hk2 => if_pos hk2, fun hB i hi k hk2 => hcol _ _ (h.kVt hB i hi k hk2) (by decide) (by decide) (by decide), fun hB i hi k hk2 => ?_, fun k hk2 => ?_, fun k hk2 => hcol _ _ (h.old k hk2) (by decide) (by decide) (by decide), h.chg.trans' hc (fun k hk2 e => by rcases e with e | e; rw [h.old k hk2] at e; omega; have h1 := h.old k hk2; rw [e, h.kt] at h1; omega)⟩
  · show (w2.setCell ⟨t, 5, none⟩ v').ownsRow w0.heap.size 36 1 v' (σ.nw + 1) (flatV (fun i => [if i = σ.nw then v else σ.Vw i]) (σ.nw + 1))
    rw [flatV, if_pos rfl, flatV_congr σ.nw (fun j hj => by rw [if_neg (by omega)])]
    exact hO'
  · exact (h.tv hB i hi).chg hc (fun k _ he e2 => by have h1 := h.kVt hB i hi k he; rcases e2 with e2 | e2; omega; rw [e2, h.kt] at h1; omega)
  · show Held _ (if i = σ.nw then v else σ.Vw i) (σ.L i)
    have hi' : i < σ.nw + 1 := hi
    by_cases e : i = σ.nw
    · rw [if_pos e, e]
      exact (hv hB).chg hc (fun k _ he e2 => by have h1 := hk k he; rcases e2 with e2 | e2; omega; rw [e2, h.kt] at h1; omega)
    · rw [if_neg e]
      exact (h.wv hB i (by omega)).chg hc (fun k _ he e2 => by have h1 := h.kVw hB i (by omega) k he; rcases e2 with e2 | e2; omega; rw [e2, h.kt] at h1; omega)
  · have hi' : i < σ.nw + 1 := hi
    have hk2' : (if i = σ.nw then v else σ.Vw i).ownBlock = some k := hk2
    show (if v'.ownBlock = some k then 11 else if v.ownBlock = some k then 7 else paint σ.col w w2 0 k) = 7
    by_cases e : i = σ.nw
    · rw [if_pos e] at hk2'
      have h1 := hk k hk2'
      have hlt : k < w.heap.size := h.lt (by rw [h1]; decide)
      rw [if_neg (hnv k hlt (by rw [h1]; decide)), if_pos hk2']
    · rw [if_neg e] at hk2'
      exact hcol _ _ (h.kVw hB i (by omega) k hk2') (by decide) (by decide) (by decide)
  · rw [hsz] at hk2
    have hs2 := hc2.size
    show (if v'.ownBlock = some k then 11 else if v.ownBlock = some k then 7 else paint σ.col w w2 0 k) = 9
    have n1 : ¬ v'.ownBlock = some k := fun e => by have := (hO.lt k e).2; omega
    have n2 : ¬ v.ownBlock = some k := fun e => by have h1 := hk k e; have := h.lt (k := k) (by rw [h1]; decide); omega
    rw [if_neg n1, if_neg n2]
    exact paint_new h.new hs2 k hk2
/-- The two chips change places. -/
theorem Pst.swap {B : Prop} {w0 w w' : World} {t : Nat} {σ : Sta} (h : Pst B w0 w t σ) (hx : σ.xc = σ.sc) (htw : Row w' t 31 6 (fun i => (twoL { σ with c := σ.d, d := σ.c, r1 := σ.r2, r2 := σ.r1 }).getD i undef)) (hc : Chg (· = t) w w') (hsz : w'.heap.size = w.heap.size) :
    Pst B w0 w' t { σ with c := σ.d, d := σ.c, r1 := σ.r2, r2 := σ.r1, sc := σ.sd, xc := σ.sd, sd := σ.sc, col := fun k => if σ.col k = 1 then 2 else if σ.col k = 2 then 1 else if σ.col k = 3 then 4 else if σ.col k = 4 then 3 else σ.col k } := by
  have hcol : ∀ k y, σ.col k = y → 4 < y → (if σ.col k = 1 then 2 else if σ.col k = 2 then 1 else if σ.col k = 3 then 4 else if σ.col k = 4 then 3 else σ.col k) = y := by
    intro k y e h1
    rw [if_neg (by omega), if_neg (by omega), if_neg (by omega), if_neg (by omega)]; exact e
  have nt : ∀ k y, σ.col k = y → y ≠ 5 → ¬ k = t := fun k y e h1 e2 => by rw [e2, h.kt] at e; omega
  refine ⟨htw, h.cd.chg hc (nt _ _ h.kd (by decide)), h.cc.chg hc (nt _ _ h.kc (by decide)), h.od, h.od, h.oc,
    RefAt.mono' (h.rd.chg hc (fun k hk => nt k 4 hk (by decide))) (fun k _ hk => ?_), RefAt.mono' (hx ▸ (h.rc.chg hc (fun k hk => nt k 3 hk (by decide)))) (fun k _ hk => ?_),
    ownsRow_chg h.told hc (fun k hk => nt k 10 (h.kvt k hk) (by decide)), ownsRow_chg h.want hc (fun k hk => nt k 11 (h.kvw k hk) (by decide)),
    fun hB i hi => (h.tv hB i hi).chg hc (fun k _ he => nt k 6 (h.kVt hB i hi k he) (by decide)), fun hB i hi => (h.wv hB i hi).chg hc (fun k _ he => nt k 7 (h.kVw hB i hi k he) (by decide)), h.tdis, h.len, hcol _ _ h.kt (by decide), ?_, ?_,
    fun k hk => hcol _ _ (h.kvt k hk) (by decide), fun k hk => hcol _ _ (h.kvw k hk) (by decide), fun hB i hi k hk => hcol _ _ (h.kVt hB i hi k hk) (by decide), fun hB i hi k hk => hcol _ _ (h.kVw hB i hi k hk) (by decide), fun k hk => hcol _ _ (h.new k (by omega)) (by decide), fun k hk => hcol _ _ (h.old k hk) (by decide), ?_⟩
  · show (if σ.col k = 1 then 2 else if σ.col k = 2 then 1 else if σ.col k = 3 then 4 else if σ.col k = 4 then 3 else σ.col k) = 3
    rw [if_neg (by omega), if_neg (by omega), if_neg (by omega), if_pos hk]
  · show (if σ.col k = 1 then 2 else if σ.col k = 2 then 1 else if σ.col k = 3 then 4 else if σ.col k = 4 then 3 else σ.col k) = 4
    rw [if_neg (by omega), if_neg (by omega), if_pos hk]
  · show (if σ.col σ.d = 1 then 2 else if σ.col σ.d = 2 then 1 else _) = 1
    rw [h.kd]; rfl
  · show (if σ.col σ.c = 1 then 2 else _) = 2
    rw [if_pos h.kc]
  · exact h.chg.trans' hc (fun k hk e => by have h1 := h.old k hk; rw [e, h.kt] at h1; omega)
/-- The other chip is a clone of this one. -/
theorem Pst.cloned {B : Prop} {w0 w w1 w2 : World} {t : Nat} {σ : Sta} (h : Pst B w0 w t σ) (g q : Nat) (hg : AryAt w1 g σ.sc) (hgs : w.heap.size ≤ g) (hc1 : Chg (fun _ => False) w w1) (v : Value) (hr : RefAt w2 q σ.sc (fresh (w1.setCell ⟨t, 1, none⟩ v) w2)) (hc2 : Chg (fun _ => False) (w1.setCell ⟨t, 1, none⟩ v) w2) (v2 : Value)
    (htw : Row (w2.setCell ⟨t, 3, none⟩ v2) t 31 6 (fun i => (twoL { σ with d := g, r2 := q }).getD i undef)) :
    Pst B w0 (w2.setCell ⟨t, 3, none⟩ v2) t { σ with d := g, r2 := q, sd := σ.sc, col := fun k => if k = g then 2 else if σ.col k = 2 ∨ σ.col k = 4 then 0 else if w1.heap.size ≤ k ∧ k < w2.heap.size then 4 else if w.heap.size ≤ k ∧ k < w1.heap.size then 0 else σ.col k } := by
  have z1 : (w1.setCell ⟨t, 1, none⟩ v).heap.size = w1.heap.size := size_set _ _ _
  have z2 : (w2.setCell ⟨t, 3, none⟩ v2).heap.size = w2.heap.size := size_set _ _ _
  have s1 := hc1.size
  have s2 := hc2.size
  have hgl := hg.lt
  have hct : Chg (· = t) w (w2.setCell ⟨t, 3, none⟩ v2) := (((hc1.mono (T := (· = t)) (fun _ _ f => f.elim)).setCell (Or.inl rfl) 1 v).trans (hc2.mono (fun _ _ f => f.elim))).setCell (Or.inl rfl) 3 v2
  have hcol : ∀ k y, σ.col k = y → y ≠ 9 → y ≠ 2 → y ≠ 4 → (if k = g then 2 else if σ.col k = 2 ∨ σ.col k = 4 then 0 else if w1.heap.size ≤ k ∧ k < w2.heap.size then 4 else if w.heap.size ≤ k ∧ k < w1.heap.size then 0 else σ.col k) = y := by
    intro k y e h1 h2 h3
    have hlt : k < w.heap.size := h.lt (by rw [e]; exact h1)
    rw [if_neg (by omega), if_neg (by omega), if_neg (by omega), if_neg (by omega)]; exact e
  have nt : ∀ k y, σ.col k = y → y ≠ 5 → ¬ k = t := fun k y e h1 e2 => by rw [e2, h.kt] at e; omega
  have tlt : t < w.heap.size := h.lt (by rw [h.kt]; decide)
  refine ⟨htw, h.cc.chg hct (nt _ _ h.kc (by decide)), ?_, h.oc, h.ox, h.oc, RefAt.mono' (h.rc.chg hct (fun k hk => nt k 3 hk (by decide))) (fun k _ hk => hcol k 3 hk (by decide) (by decide) (by decide)), RefAt.mono' (hr.chg (Chg.r1 (r := t) w2 3 v2) (fun k hk e => ?_)) (fun k _ hk => ?_),
    ownsRow_chg h.told hct (fun k hk => nt k 10 (h.kvt k hk) (by decide)), ownsRow_chg h.want hct (fun k hk => nt k 11 (h.kvw k hk) (by decide)),
    fun hB i hi => (h.tv hB i hi).chg hct (fun k _ he => nt k 6 (h.kVt hB i hi k he) (by decide)), fun hB i hi => (h.wv hB i hi).chg hct (fun k _ he => nt k 7 (h.kVw hB i hi k he) (by decide)), h.tdis, h.len, hcol _ _ h.kt (by decide) (by decide) (by decide), hcol _ _ h.kc (by decide) (by decide) (by decide), if_pos rfl,
    fun k hk => hcol _ _ (h.kvt k hk) (by decide) (by decide) (by decide), fun k hk => hcol _ _ (h.kvw k hk) (by decide) (by decide) (by decide), fun hB i hi k hk => hcol _ _ (h.kVt hB i hi k hk) (by decide) (by decide) (by decide), fun hB i hi k hk => hcol _ _ (h.kVw hB i hi k hk) (by decide) (by decide) (by decide), fun k hk => ?_, fun k hk => hcol _ _ (h.old k hk) (by decide) (by decide) (by decide), ?_⟩
  · have h1 : AryAt (w1.setCell ⟨t, 1, none⟩ v) g σ.sc := Sto.setOther hg (by omega) 1 v
    have h2 : AryAt w2 g σ.sc := h1.chg hc2 (fun f => f)
    exact Sto.setOther h2 (by omega) 3 v2
  · have : (w1.setCell ⟨t, 1, none⟩ v).heap.size ≤ k := hk.1
    omega
  · have h1 : (w1.setCell ⟨t, 1, none⟩ v).heap.size ≤ k := hk.1
    have h2 : k < w2.heap.size := hk.2
    have h9 := h.new k (by omega)
    show (if k = g then 2 else if σ.col k = 2 ∨ σ.col k = 4 then 0 else if w1.heap.size ≤ k ∧ k < w2.heap.size then 4 else _) = 4
    rw [if_neg (by omega), if_neg (by omega), if_pos (by omega)]
  · rw [z2] at hk
    have h9 := h.new k (by omega)
    show (if k = g then 2 else if σ.col k = 2 ∨ σ.col k = 4 then 0 else if w1.heap.size ≤ k ∧ k < w2.heap.size then 4 else if w.heap.size ≤ k ∧ k < w1.heap.size then 0 else σ.col k) = 9
    rw [if_neg (by omega), if_neg (by omega), if_neg (by omega), if_neg (by omega)]; exact h9
  · exact h.chg.trans' hct (fun k hk e => by have h1 := h.old k hk; rw [e, h.kt] at h1; omega)
end Go.Proofs.Ythpjdnfalecbeaa
