/-
  The document's chip in memory: its blocks, their lists of chunks, the chunks' bytes. No condition: lemmas.
-/
import Derived.Test.YtfjgnplplafniaaShown
namespace Go.Proofs.Ytfjgnplplafniaa
open Go.RowKit
set_option maxRecDepth 100000

/-- Block g holds at least n cells, laid out as type t; its i-th is f i. -/
def Row (w : World) (g : Nat) (t : TypeId) (n : Nat) (f : Nat → Value) : Prop :=
  ∃ cs : Array Value, w.heap[g]? = some (.cells cs t) ∧ n ≤ cs.size ∧ ∀ i, i < n → cs[i]? = some (f i)
theorem Row.lt {w : World} {g : Nat} {t : TypeId} {n : Nat} {f : Nat → Value} (h : Row w g t n f) : g < w.heap.size := by
  obtain ⟨cs, h1, _⟩ := h
  exact (Array.getElem?_eq_some_iff.1 h1).1
theorem Row.cell {w : World} {g : Nat} {t : TypeId} {n : Nat} {f : Nat → Value} (h : Row w g t n f) (i : Nat) (hi : i < n) : w.cell? ⟨g, i, none⟩ = some (f i) := by
  obtain ⟨cs, h1, h2, h3⟩ := h
  rw [cell_of_row w g i _ _ _ h1]
  exact h3 i hi
theorem Row.frozen {w : World} {g : Nat} {t : TypeId} {n : Nat} {f : Nat → Value} (h : Row w g t n f) (i : Nat) : w.frozen? ⟨g, i, none⟩ = false := by
  obtain ⟨cs, h1, h2, h3⟩ := h
  exact frozen_of_row w g i _ _ h1
theorem Row.other {w w' : World} {g : Nat} {t : TypeId} {n : Nat} {f : Nat → Value} (h : Row w g t n f) (e : w'.heap[g]? = w.heap[g]?) : Row w' g t n f := by
  obtain ⟨cs, h1, h2, h3⟩ := h
  exact ⟨cs, e.trans h1, h2, h3⟩
theorem Row.drew {w : World} {g : Nat} {t : TypeId} {n : Nat} {f : Nat → Value} (h : Row w g t n f) : Row w.drew g t n f := h
theorem Row.chg {S : Nat → Prop} {w w' : World} {g : Nat} {t : TypeId} {n : Nat} {f : Nat → Value} (h : Row w g t n f) (hc : Chg S w w') (hg : ¬ S g) : Row w' g t n f := h.other (hc.block g h.lt hg)
theorem Row.alloc {w : World} {g : Nat} {t : TypeId} {n : Nat} {f : Nat → Value} (h : Row w g t n f) (o : Obj) : Row (w.alloc o) g t n f := h.other (Below.heap_alloc _ _ _ h.lt)
theorem Row.setOther {w : World} {g : Nat} {t : TypeId} {n : Nat} {f : Nat → Value} (h : Row w g t n f) {k : Nat} (hg : k ≠ g) (o : Nat) (v : Value) : Row (w.setCell ⟨k, o, none⟩ v) g t n f :=
  h.other (Below.heap_setCell _ _ _ _ (by simp; omega))
theorem Row.ext {w : World} {g : Nat} {t : TypeId} {n : Nat} {f f' : Nat → Value} (h : Row w g t n f) (e : ∀ i, i < n → f i = f' i) : Row w g t n f' := by
  obtain ⟨cs, h1, h2, h3⟩ := h
  exact ⟨cs, h1, h2, fun i hi => by rw [h3 i hi, e i hi]⟩
theorem Row.type {w : World} {g : Nat} {t t' : TypeId} {n n' : Nat} {f f' : Nat → Value} (h : Row w g t n f) (h' : Row w g t' n' f') : t = t' := by
  obtain ⟨cs, h1, _⟩ := h
  obtain ⟨cs', h1', _⟩ := h'
  rw [h1] at h1'
  simp at h1'
  exact h1'.2
theorem Row.ne {w : World} {g g' : Nat} {t t' : TypeId} {n n' : Nat} {f f' : Nat → Value} (h : Row w g t n f) (h' : Row w g' t' n' f') (ht : t ≠ t') : g ≠ g' := fun e => ht (by subst e; exact h.type h')
theorem Row.setCell {w : World} {g : Nat} {t : TypeId} {n : Nat} {f : Nat → Value} (h : Row w g t n f) (o : Nat) (v : Value) : Row (w.setCell ⟨g, o, none⟩ v) g t n (upL f o [v]) := by
  obtain ⟨cs, h1, h2, h3⟩ := h
  refine ⟨cs.setIfInBounds o v, by simp [World.setCell, Array.getElem?_modify, h1], by simpa using h2, fun i hi => ?_⟩
  rw [upL_one]
  by_cases e : i = o
  · subst e
    rw [if_pos rfl, Array.getElem?_setIfInBounds_self_of_lt (by omega)]
  · rw [if_neg e, Array.getElem?_setIfInBounds_ne (by omega), h3 i hi]
theorem Row.mono {w : World} {g : Nat} {t : TypeId} {n m : Nat} {f : Nat → Value} (h : Row w g t n f) (hm : m ≤ n) : Row w g t m f := by
  obtain ⟨cs, h1, h2, h3⟩ := h
  exact ⟨cs, h1, by omega, fun i hi => h3 i (by omega)⟩
theorem Sto.row {w : World} {g : Nat} {t : TypeId} {n : Nat} {f : Nat → Value} (h : Sto w g t n f) : Row w g t n f := by
  obtain ⟨cs, h1, h2, h3⟩ := h
  exact ⟨cs, h1, by omega, h3⟩
theorem ownsRow_row {w : World} {base : Nat} {e : TypeId} {size : Nat} {v : Value} {n : Nat} {xs : List Value} (h : w.ownsRow base e size v n xs) (hn : n ≠ 0) :
    ∃ g cap, v = .slice (some ⟨g, 0, none⟩) n cap ∧ base ≤ g ∧ g < w.heap.size ∧ Row w g e (n * size) (fun i => xs.getD i undef) := by
  rcases h.2 with ⟨_, h1⟩ | ⟨g, cap, cur, hv, hg, hh, hnc, hm, hs, ht⟩
  · exact absurd h1 hn
  · refine ⟨g, cap, hv, hg, (Array.getElem?_eq_some_iff.1 hh).1, cur, hh, by rw [hs]; exact Nat.mul_le_mul_right _ hnc, fun i hi => ?_⟩
    have hl : i < xs.length := by have := h.1; omega
    have h2 : (cur.toList.take (n * size))[i]? = xs[i]? := by rw [ht]
    rw [List.getElem?_take_of_lt hi, Array.getElem?_toList] at h2
    rw [h2]
    simp only [List.getD_eq_getElem?_getD, List.getElem?_eq_getElem hl]; rfl

/-- A family of lists of m values each, one behind the other. -/
def famF (m : Nat) (G : Nat → List Value) : Nat → Value := fun i => (G (i / m)).getD (i % m) undef
theorem fam_at (m : Nat) (hm : 0 < m) (G : Nat → List Value) (b j : Nat) (hj : j < m) : famF m G (m * b + j) = (G b).getD j undef := by
  unfold famF
  rw [Nat.mul_add_div hm, Nat.div_eq_of_lt hj, Nat.add_zero, Nat.mul_add_mod, Nat.mod_eq_of_lt hj]
theorem fam_elem (m : Nat) (hm : 0 < m) (G G' : Nat → List Value) (f : Nat → Value) (b : Nat) (h1 : ∀ b', b' ≠ b → G' b' = G b') (h2 : ∀ i, i / m ≠ b → f i = famF m G i) (h3 : ∀ j, j < m → f (m * b + j) = (G' b).getD j undef) (i : Nat) : f i = famF m G' i := by
  by_cases e : i / m = b
  · have hd := Nat.div_add_mod i m
    rw [e] at hd
    have hl := Nat.mod_lt i hm
    rw [← hd, h3 _ hl, fam_at m hm _ _ _ hl]
  · rw [h2 i e]
    unfold famF
    rw [h1 _ e]
theorem fam_set (m : Nat) (hm : 0 < m) (G G' : Nat → List Value) (b j : Nat) (hj : j < m) (v : Value) (h1 : ∀ b', b' ≠ b → G' b' = G b') (h2 : (G b).set j v = G' b) (hl : (G b).length = m) (i : Nat) : upL (famF m G) (m * b + j) [v] i = famF m G' i := by
  refine fam_elem m hm G G' _ b h1 (fun i hi => ?_) (fun k hk => ?_) i
  · rw [upL_one, if_neg]
    intro e
    apply hi
    rw [e, Nat.mul_add_div hm, Nat.div_eq_of_lt hj, Nat.add_zero]
  · rw [upL_one, ← h2]
    by_cases e : k = j
    · subst e
      rw [if_pos rfl, List.getD_eq_getElem?_getD, List.getElem?_set_self (by omega)]; rfl
    · rw [if_neg (by omega), fam_at m hm _ _ _ hk, List.getD_eq_getElem?_getD, List.getD_eq_getElem?_getD, List.getElem?_set_ne (by omega)]

/-- The bytes l lie in block g. -/
def By (w : World) (g : Nat) (l : List Nat) : Prop := Row w g 5 l.length (fun i => byt (l.getD i 0))
theorem By.cell {w : World} {g : Nat} {l : List Nat} (h : By w g l) (i : Nat) (hi : i < l.length) : w.cell? ⟨g, i, none⟩ = some (.int .u8 (l.getD i 0 : Nat)) := Row.cell h i hi
theorem By.held {w : World} {g : Nat} {l : List Nat} (h : By w g l) (n cap : Nat) (hn : n = l.length) : Held w (.slice (some ⟨g, 0, none⟩) n cap) l := by
  subst hn
  exact ⟨_, cap, rfl, Or.inr ⟨g, 0, rfl, Row.lt h, fun i hi => by rw [Nat.zero_add]; exact h.cell i hi⟩⟩
theorem By.store {w : World} {g : Nat} {l : List Nat} (h : By w g l) (i v : Nat) (hi : i < l.length) : By (w.setCell ⟨g, i, none⟩ (.int .u8 (v : Int))) g (l.set i v) := by
  unfold By
  rw [List.length_set]
  refine (Row.setCell h i _).ext fun k hk => ?_
  rw [upL_one]
  by_cases e : k = i
  · subst e
    rw [if_pos rfl, List.getD_eq_getElem?_getD, List.getElem?_set_self hi]; rfl
  · rw [if_neg e, List.getD_eq_getElem?_getD, List.getD_eq_getElem?_getD, List.getElem?_set_ne (by omega)]
theorem Arr.by {w : World} {g : Nat} {l : List Nat} (h : Arr w g 5 l) : By w g l :=
  ⟨bcells l, h, by rw [bcells_size]; omega, fun i hi => bcells_at l i hi⟩
theorem Own.by {w : World} {base : Nat} {v : Value} {l : List Nat} (h : Own w base 5 v l) (h0 : l.length ≠ 0) : ∃ g cap, v = .slice (some ⟨g, 0, none⟩) l.length cap ∧ base ≤ g ∧ g < w.heap.size ∧ By w g l := by
  obtain ⟨g, cap, h1, h2, h3, h4⟩ := ownsRow_row h h0
  refine ⟨g, cap, h1, h2, h3, ?_⟩
  rw [Nat.mul_one] at h4
  exact h4.ext fun i hi => by
    rw [List.getD_eq_getElem?_getD, List.getElem?_map, List.getElem?_eq_getElem hi, List.getD_eq_getElem?_getD, List.getElem?_eq_getElem hi]; rfl

/-- Where a chunk's bytes lie. -/
structure Pc where
  n : Nat
  nc : Nat
  t : Nat
  tc : Nat
/-- A chunk's cells. -/
def rch (x : Pc) (k : Chk) : List Value := [.slice (some ⟨x.n, 0, none⟩) 64 x.nc, .slice (some ⟨x.t, 0, none⟩) 64 x.tc, .bool k.is, .int .i64 k.worst]
/-- A list of m chunks in block q. -/
structure Lst (w : World) (m q : Nat) (pc : Nat → Pc) (ch : Nat → Chk) : Prop where
  row : Row w q 101 (4 * m) (famF 4 fun j => rch (pc j) (ch j))
  now : ∀ j, j < m → By w (pc j).n (ch j).now
  tru : ∀ j, j < m → By w (pc j).t (ch j).tru
  inj : ∀ j, j < m → ∀ k, k < m → (j ≠ k → (pc j).n ≠ (pc k).n) ∧ (pc j).n ≠ (pc k).t
/-- Its blocks. -/
def InL (m q : Nat) (pc : Nat → Pc) (k : Nat) : Prop := k = q ∨ ∃ j, j < m ∧ (k = (pc j).n ∨ k = (pc j).t)
theorem Lst.other {w w' : World} {m q : Nat} {pc : Nat → Pc} {ch : Nat → Chk} (h : Lst w m q pc ch) (e : ∀ k, k < w.heap.size → InL m q pc k → w'.heap[k]? = w.heap[k]?) : Lst w' m q pc ch :=
  ⟨h.row.other (e q h.row.lt (Or.inl rfl)), fun j hj => Row.other (h.now j hj) (e _ (Row.lt (h.now j hj)) (Or.inr ⟨j, hj, Or.inl rfl⟩)), fun j hj => Row.other (h.tru j hj) (e _ (Row.lt (h.tru j hj)) (Or.inr ⟨j, hj, Or.inr rfl⟩)), h.inj⟩
theorem Lst.chg {S : Nat → Prop} {w w' : World} {m q : Nat} {pc : Nat → Pc} {ch : Nat → Chk} (h : Lst w m q pc ch) (hc : Chg S w w') (hd : ∀ k, InL m q pc k → ¬ S k) : Lst w' m q pc ch :=
  h.other fun k hk hi => hc.block k hk (hd k hi)
theorem Lst.lt {w : World} {m q : Nat} {pc : Nat → Pc} {ch : Nat → Chk} (h : Lst w m q pc ch) {k : Nat} (hk : InL m q pc k) : k < w.heap.size := by
  rcases hk with rfl | ⟨j, hj, rfl | rfl⟩
  · exact h.row.lt
  · exact Row.lt (h.now j hj)
  · exact Row.lt (h.tru j hj)
theorem Lst.type {w : World} {m q : Nat} {pc : Nat → Pc} {ch : Nat → Chk} (h : Lst w m q pc ch) {k : Nat} (hk : InL m q pc k) : (∃ n f, Row w k 101 n f) ∨ (∃ n f, Row w k 5 n f) := by
  rcases hk with rfl | ⟨j, hj, rfl | rfl⟩
  · exact Or.inl ⟨_, _, h.row⟩
  · exact Or.inr ⟨_, _, h.now j hj⟩
  · exact Or.inr ⟨_, _, h.tru j hj⟩
theorem Lst.ch {w : World} {m q : Nat} {pc : Nat → Pc} {ch ch' : Nat → Chk} (h : Lst w m q pc ch) (e : ∀ j, ch' j = ch j) : Lst w m q pc ch' := by
  have : ch' = ch := funext e
  rw [this]; exact h

/-- Where the document's chip lies. -/
structure Plc where
  gB : Nat
  cB : Nat
  gL : Nat → Nat
  cL : Nat → Nat
  pc : Nat → Nat → Pc
  wh : Nat → Int
  bu : Int
def rtop (p : Plc) (s : Chp) : List Value := [.slice (some ⟨p.gB, 0, none⟩) 12 p.cB, .bool s.on, .int .i64 p.bu, .int .i64 s.steps]
def rbl (p : Plc) (s : Chp) (b : Nat) : List Value := [.slice (some ⟨p.gL b, 0, none⟩) 32 (p.cL b), .int .i64 (s.bl b).reads, .bool (s.bl b).failed, .int .i64 (p.wh b), .bool (s.bl b).ef]
/-- What the document's chip says of failures and budgets. -/
structure Rel (p : Plc) (s : Chp) : Prop where
  bu : s.on = true → p.bu = if s.lim then (s.bud : Int) else -1
  buLo : -1 ≤ p.bu
  buHi : p.bu < 9223372036854775808
  wh : ∀ b, (s.bl b).failed = false → p.wh b = if (s.bl b).wf then ((s.bl b).ahead : Int) else -1
  whLo : ∀ b, -1 ≤ p.wh b
  whHi : ∀ b, p.wh b < 9223372036854775808
/-- Block r holds the document's chip s, all of whose blocks are of F. -/
structure RAt (w : World) (r : Nat) (s : Chp) (F : Nat → Prop) (p : Plc) : Prop where
  top : Row w r 77 4 (fun i => (rtop p s).getD i undef)
  bl : Row w p.gB 81 60 (famF 5 (rbl p s))
  lst : ∀ b, b < 12 → Lst w 32 (p.gL b) (p.pc b) (fun j => s.ch (32 * b + j))
  rel : Rel p s
  fr : F r
  fb : F p.gB
  fl : ∀ b, b < 12 → ∀ k, InL 32 (p.gL b) (p.pc b) k → F k
  dis : ∀ b, b < 12 → ∀ c, c < 12 → b ≠ c → ∀ k, InL 32 (p.gL b) (p.pc b) k → ¬ InL 32 (p.gL c) (p.pc c) k
def RefAt (w : World) (r : Nat) (s : Chp) (F : Nat → Prop) : Prop := ∃ p, RAt w r s F p
theorem RAt.chg {S : Nat → Prop} {w w' : World} {r : Nat} {s : Chp} {F : Nat → Prop} {p : Plc} (h : RAt w r s F p) (hc : Chg S w w') (hd : ∀ k, F k → ¬ S k) : RAt w' r s F p :=
  ⟨h.top.chg hc (hd _ h.fr), h.bl.chg hc (hd _ h.fb), fun b hb => (h.lst b hb).chg hc (fun k hk => hd k (h.fl b hb k hk)), h.rel, h.fr, h.fb, h.fl, h.dis⟩
theorem RefAt.chg {S : Nat → Prop} {w w' : World} {r : Nat} {s : Chp} {F : Nat → Prop} (h : RefAt w r s F) (hc : Chg S w w') (hd : ∀ k, F k → ¬ S k) : RefAt w' r s F := by
  obtain ⟨p, h⟩ := h
  exact ⟨p, h.chg hc hd⟩
theorem RAt.mono {w : World} {r : Nat} {s : Chp} {F F' : Nat → Prop} {p : Plc} (h : RAt w r s F p) (hF : ∀ k, F k → F' k) : RAt w r s F' p :=
  ⟨h.top, h.bl, h.lst, h.rel, hF _ h.fr, hF _ h.fb, fun b hb k hk => hF k (h.fl b hb k hk), h.dis⟩
end Go.Proofs.Ytfjgnplplafniaa
