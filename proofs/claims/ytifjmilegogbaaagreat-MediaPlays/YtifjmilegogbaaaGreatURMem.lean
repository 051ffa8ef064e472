/-
  The document's chip in memory: its blocks, their lists of chunks, the chunks' bytes. No condition: lemmas. The document's chip: what there is, its power, its steps, what is to fail. Condition: the block holds the document's chip. The document's chip: its power, its steps, what is to fail. Condition: the block holds the document's chip.
-/
import Derived.Test.YtifjmilegogbaaaGreatUHarm
namespace Go.Proofs.YtifjmilegogbaaaGreat
open Go.RowKit
set_option maxRecDepth 100000

/-- Block g holds at least n cells, laid out as type t; its i-th is f i. -/
def Row (w : World) (g : Nat) (t : TypeId) (n : Nat) (f : Nat → Value) : Prop :=
  ∃ cs : Array Value, w.heap[g]? = some (.cells cs t) ∧ n ≤ cs.size ∧ ∀ i, i < n → cs[i]? = some (f i)
theorem Row.lt {w : World} {g : Nat} {t : TypeId} {n : Nat} {f : Nat → Value} (h : Row w g t n f) : g < w.heap.size := by
  obtain ⟨cs, h1, _⟩ := h
  exact (Array.getElem?_eq_some_iff.1 h1).1
theorem Row.cell {w : World} {g : Nat} {t : TypeId} {n : Nat} {f : Nat → Value} (h : Row w g t n f) (i : Nat) (hi : i < n) : w.cell? ⟨g, i, none⟩ = some (f i) := by
  obtain ⟨cs, h1, h2, h3⟩ := h
  rw [cell_of_row w g i _ _ _ h1]
  exact h3 i hi
theorem Row.frozen {w : World} {g : Nat} {t : TypeId} {n : Nat} {f : Nat → Value} (h : Row w g t n f) (i : Nat) : w.frozen? ⟨g, i, none⟩ = false := by
  obtain ⟨cs, h1, h2, h3⟩ := h
  exact frozen_of_row w g i _ _ h1
theorem Row.other {w w' : World} {g : Nat} {t : TypeId} {n : Nat} {f : Nat → Value} (h : Row w g t n f) (e : w'.heap[g]? = w.heap[g]?) : Row w' g t n f := by
  obtain ⟨cs, h1, h2, h3⟩ := h
  exact ⟨cs, e.trans h1, h2, h3⟩
theorem Row.drew {w : World} {g : Nat} {t : TypeId} {n : Nat} {f : Nat → Value} (h : Row w g t n f) : Row w.drew g t n f := h
theorem Row.chg {S : Nat → Prop} {w w' : World} {g : Nat} {t : TypeId} {n : Nat} {f : Nat → Value} (h : Row w g t n f) (hc : Chg S w w') (hg : ¬ S g) : Row w' g t n f := h.other (hc.block g h.lt hg)
theorem Row.alloc {w : World} {g : Nat} {t : TypeId} {n : Nat} {f : Nat → Value} (h : Row w g t n f) (o : Obj) : Row (w.alloc o) g t n f := h.other (Below.heap_alloc _ _ _ h.lt)
theorem Row.setOther {w : World} {g : Nat} {t : TypeId} {n : Nat} {f : Nat → Value} (h : Row w g t n f) {k : Nat} (hg : k ≠ g) (o : Nat) (v : Value) : Row (w.setCell ⟨k, o, none⟩ v) g t n f :=
  h.other (Below.heap_setCell _ _ _ _ (by simp; omega))
theorem Row.ext {w : World} {g : Nat} {t : TypeId} {n : Nat} {f f' : Nat → Value} (h : Row w g t n f) (e : ∀ i, i < n → f i = f' i) : Row w g t n f' := by
  obtain ⟨cs, h1, h2, h3⟩ := h
  exact ⟨cs, h1, h2, fun i hi => by rw [h3 i hi, e i hi]⟩
theorem Row.type {w : World} {g : Nat} {t t' : TypeId} {n n' : Nat} {f f' : Nat → Value} (h : Row w g t n f) (h' : Row w g t' n' f') : t = t' := by
  obtain ⟨cs, h1, _⟩ := h
  obtain ⟨cs', h1', _⟩ := h'
  rw [h1] at h1'
  simp at h1'
  exact h1'.2
theorem Row.ne {w : World} {g g' : Nat} {t t' : TypeId} {n n' : Nat} {f f' : Nat → Value} (h : Row w g t n f) (h' : Row w g' t' n' f') (ht : t ≠ t') : g ≠ g' := fun e => ht (by subst e; exact h.type h')
theorem Row.setCell {w : World} {g : Nat} {t : TypeId} {n : Nat} {f : Nat → Value} (h : Row w g t n f) (o : Nat) (v : Value) : Row (w.setCell ⟨g, o, none⟩ v) g t n (upL f o [v]) := by
  obtain ⟨cs, h1, h2, h3⟩ := h
  refine ⟨cs.setIfInBounds o v, by simp [World.setCell, Array.getElem?_modify, h1], by simpa using h2, fun i hi => ?_⟩
  rw [upL_one]
  by_cases e : i = o
  · subst e
    rw [if_pos rfl, Array.getElem?_setIfInBounds_self_of_lt (by omega)]
  · rw [if_neg e, Array.getElem?_setIfInBounds_ne (by omega), h3 i hi]
theorem Row.mono {w : World} {g : Nat} {t : TypeId} {n m : Nat} {f : Nat → Value} (h : Row w g t n f) (hm : m ≤ n) : Row w g t m f := by
  obtain ⟨cs, h1, h2, h3⟩ := h
  exact ⟨cs, h1, by omega, fun i hi => h3 i (by omega)⟩
theorem Sto.row {w : World} {g : Nat} {t : TypeId} {n : Nat} {f : Nat → Value} (h : Sto w g t n f) : Row w g t n f := by
  obtain ⟨cs, h1, h2, h3⟩ := h
  exact ⟨cs, h1, by omega, h3⟩
theorem ownsRow_row {w : World} {base : Nat} {e : TypeId} {size : Nat} {v : Value} {n : Nat} {xs : List Value} (h : w.ownsRow base e size v n xs) (hn : n ≠ 0) :
    ∃ g cap, v = .slice (some ⟨g, 0, none⟩) n cap ∧ base ≤ g ∧ g < w.heap.size ∧ Row w g e (n * size) (fun i => xs.getD i undef) := by
  rcases h.2 with ⟨_, h1⟩ | ⟨g, cap, cur, hv, hg, hh, hnc, hm, hs, ht⟩
  · exact absurd h1 hn
  · refine ⟨g, cap, hv, hg, (Array.getElem?_eq_some_iff.1 hh).1, cur, hh, by rw [hs]; exact Nat.mul_le_mul_right _ hnc, fun i hi => ?_⟩
    have hl : i < xs.length := by have := h.1; omega
    have h2 : (cur.toList.take (n * size))[i]? = xs[i]? := by rw [ht]
    rw [List.getElem?_take_of_lt hi, Array.getElem?_toList] at h2
    rw [h2]
    simp only [List.getD_eq_getElem?_getD, List.getElem?_eq_getElem hl]; rfl

/-- A family of lists of m values each, one behind the other. -/
def famF (m : Nat) (G : Nat → List Value) : Nat → Value := fun i => (G (i / m)).getD (i % m) undef
theorem fam_at (m : Nat) (hm : 0 < m) (G : Nat → List Value) (b j : Nat) (hj : j < m) : famF m G (m * b + j) = (G b).getD j undef := by
  unfold famF
  rw [Nat.mul_add_div hm, Nat.div_eq_of_lt hj, Nat.add_zero, Nat.mul_add_mod, Nat.mod_eq_of_lt hj]
theorem fam_elem (m : Nat) (hm : 0 < m) (G G' : Nat → List Value) (f : Nat → Value) (b : Nat) (h1 : ∀ b', b' ≠ b → G' b' = G b') (h2 : ∀ i, i / m ≠ b → f i = famF m G i) (h3 : ∀ j, j < m → f (m * b + j) = (G' b).getD j undef) (i : Nat) : f i = famF m G' i := by
  by_cases e : i / m = b
  · have hd := Nat.div_add_mod i m
    rw [e] at hd
    have hl := Nat.mod_lt i hm
    rw [← hd, h3 _ hl, fam_at m hm _ _ _ hl]
  · rw [h2 i e]
    unfold famF
    rw [h1 _ e]
theorem fam_set (m : Nat) (hm : 0 < m) (G G' : Nat → List Value) (b j : Nat) (hj : j < m) (v : Value) (h1 : ∀ b', b' ≠ b → G' b' = G b') (h2 : (G b).set j v = G' b) (hl : (G b).length = m) (i : Nat) : upL (famF m G) (m * b + j) [v] i = famF m G' i := by
  refine fam_elem m hm G G' _ b h1 (fun i hi => ?_) (fun k hk => ?_) i
  · rw [upL_one, if_neg]
    intro e
    apply hi
    rw [e, Nat.mul_add_div hm, Nat.div_eq_of_lt hj, Nat.add_zero]
  · rw [upL_one, ← h2]
    by_cases e : k = j
    · subst e
      rw [if_pos rfl, List.getD_eq_getElem?_getD, List.getElem?_set_self (by omega)]; rfl
    · rw [if_neg (by omega), fam_at m hm _ _ _ hk, List.getD_eq_getElem?_getD, List.getD_eq_getElem?_getD, List.getElem?_set_ne (by omega)]

/-- The bytes l lie in block g. -/
def By (w : World) (g : Nat) (l : List Nat) : Prop := Row w g 5 l.length (fun i => byt (l.getD i 0))
theorem By.cell {w : World} {g : Nat} {l : List Nat} (h : By w g l) (i : Nat) (hi : i < l.length) : w.cell? ⟨g, i, none⟩ = some (.int .u8 (l.getD i 0 : Nat)) := Row.cell h i hi
theorem By.held {w : World} {g : Nat} {l : List Nat} (h : By w g l) (n cap : Nat) (hn : n = l.length) : Held w (.slice (some ⟨g, 0, none⟩) n cap) l := by
  subst hn
  exact ⟨_, cap, rfl, Or.inr ⟨g, 0, rfl, Row.lt h, fun i hi => by rw [Nat.zero_add]; exact h.cell i hi⟩⟩
theorem By.store {w : World} {g : Nat} {l : List Nat} (h : By w g l) (i v : Nat) (hi : i < l.length) : By (w.setCell ⟨g, i, none⟩ (.int .u8 (v : Int))) g (l.set i v) := by
  unfold By
  rw [List.length_set]
  refine (Row.setCell h i _).ext fun k hk => ?_
  rw [upL_one]
  by_cases e : k = i
  · subst e
    rw [if_pos rfl, List.getD_eq_getElem?_getD, List.getElem?_set_self hi]; rfl
  · rw [if_neg e, List.getD_eq_getElem?_getD, List.getD_eq_getElem?_getD, List.getElem?_set_ne (by omega)]
theorem Arr.by {w : World} {g : Nat} {l : List Nat} (h : Arr w g 5 l) : By w g l :=
  ⟨bcells l, h, by rw [bcells_size]; omega, fun i hi => bcells_at l i hi⟩
theorem Own.by {w : World} {base : Nat} {v : Value} {l : List Nat} (h : Own w base 5 v l) (h0 : l.length ≠ 0) : ∃ g cap, v = .slice (some ⟨g, 0, none⟩) l.length cap ∧ base ≤ g ∧ g < w.heap.size ∧ By w g l := by
  obtain ⟨g, cap, h1, h2, h3, h4⟩ := ownsRow_row h h0
  refine ⟨g, cap, h1, h2, h3, ?_⟩
  rw [Nat.mul_one] at h4
  exact h4.ext fun i hi => by
    rw [List.getD_eq_getElem?_getD, List.getElem?_map, List.getElem?_eq_getElem hi, List.getD_eq_getElem?_getD, List.getElem?_eq_getElem hi]; rfl

/-- Where a chunk's bytes lie. -/
structure Pc where
  n : Nat
  nc : Nat
  t : Nat
  tc : Nat
/-- A chunk's cells. -/
def rch (x : Pc) (k : Chk) : List Value := [.slice (some ⟨x.n, 0, none⟩) 64 x.nc, .slice (some ⟨x.t, 0, none⟩) 64 x.tc, .bool k.is, .int .i64 k.worst]
/-- A list of m chunks in block q. -/
structure Lst (w : World) (m q : Nat) (pc : Nat → Pc) (ch : Nat → Chk) : Prop where
  row : Row w q 159 (4 * m) (famF 4 fun j => rch (pc j) (ch j))
  now : ∀ j, j < m → By w (pc j).n (ch j).now
  tru : ∀ j, j < m → By w (pc j).t (ch j).tru
  inj : ∀ j, j < m → ∀ k, k < m → (j ≠ k → (pc j).n ≠ (pc k).n) ∧ (pc j).n ≠ (pc k).t
/-- Its blocks. -/
def InL (m q : Nat) (pc : Nat → Pc) (k : Nat) : Prop := k = q ∨ ∃ j, j < m ∧ (k = (pc j).n ∨ k = (pc j).t)
theorem Lst.other {w w' : World} {m q : Nat} {pc : Nat → Pc} {ch : Nat → Chk} (h : Lst w m q pc ch) (e : ∀ k, k < w.heap.size → InL m q pc k → w'.heap[k]? = w.heap[k]?) : Lst w' m q pc ch :=
  ⟨h.row.other (e q h.row.lt (Or.inl rfl)), fun j hj => Row.other (h.now j hj) (e _ (Row.lt (h.now j hj)) (Or.inr ⟨j, hj, Or.inl rfl⟩)), fun j hj => Row.other (h.tru j hj) (e _ (Row.lt (h.tru j hj)) (Or.inr ⟨j, hj, Or.inr rfl⟩)), h.inj⟩
theorem Lst.chg {S : Nat → Prop} {w w' : World} {m q : Nat} {pc : Nat → Pc} {ch : Nat → Chk} (h : Lst w m q pc ch) (hc : Chg S w w') (hd : ∀ k, InL m q pc k → ¬ S k) : Lst w' m q pc ch :=
  h.other fun k hk hi => hc.block k hk (hd k hi)
theorem Lst.lt {w : World} {m q : Nat} {pc : Nat → Pc} {ch : Nat → Chk} (h : Lst w m q pc ch) {k : Nat} (hk : InL m q pc k) : k < w.heap.size := by
  rcases hk with rfl | ⟨j, hj, rfl | rfl⟩
  · exact h.row.lt
  · exact Row.lt (h.now j hj)
  · exact Row.lt (h.tru j hj)
theorem Lst.type {w : World} {m q : Nat} {pc : Nat → Pc} {ch : Nat → Chk} (h : Lst w m q pc ch) {k : Nat} (hk : InL m q pc k) : (∃ n f, Row w k 159 n f) ∨ (∃ n f, Row w k 5 n f) := by
  rcases hk with rfl | ⟨j, hj, rfl | rfl⟩
  · exact Or.inl ⟨_, _, h.row⟩
  · exact Or.inr ⟨_, _, h.now j hj⟩
  · exact Or.inr ⟨_, _, h.tru j hj⟩
theorem Lst.ch {w : World} {m q : Nat} {pc : Nat → Pc} {ch ch' : Nat → Chk} (h : Lst w m q pc ch) (e : ∀ j, ch' j = ch j) : Lst w m q pc ch' := by
  have : ch' = ch := funext e
  rw [this]; exact h

/-- Where the document's chip lies. -/
structure Plc where
  gB : Nat
  cB : Nat
  gL : Nat → Nat
  cL : Nat → Nat
  pc : Nat → Nat → Pc
  wh : Nat → Int
  bu : Int
def rtop (p : Plc) (s : Chp) : List Value := [.slice (some ⟨p.gB, 0, none⟩) 12 p.cB, .bool s.on, .int .i64 p.bu, .int .i64 s.steps]
def rbl (p : Plc) (s : Chp) (b : Nat) : List Value := [.slice (some ⟨p.gL b, 0, none⟩) 32 (p.cL b), .int .i64 (s.bl b).reads, .bool (s.bl b).failed, .int .i64 (p.wh b), .bool (s.bl b).ef]
/-- What the document's chip says of failures and budgets. -/
structure Rel (p : Plc) (s : Chp) : Prop where
  bu : s.on = true → p.bu = if s.lim then (s.bud : Int) else -1
  buLo : -1 ≤ p.bu
  buHi : p.bu < 9223372036854775808
  wh : ∀ b, (s.bl b).failed = false → p.wh b = if (s.bl b).wf then ((s.bl b).ahead : Int) else -1
  whLo : ∀ b, -1 ≤ p.wh b
  whHi : ∀ b, p.wh b < 9223372036854775808
/-- Block r holds the document's chip s, all of whose blocks are of F. -/
structure RAt (w : World) (r : Nat) (s : Chp) (F : Nat → Prop) (p : Plc) : Prop where
  top : Row w r 52 4 (fun i => (rtop p s).getD i undef)
  bl : Row w p.gB 112 60 (famF 5 (rbl p s))
  lst : ∀ b, b < 12 → Lst w 32 (p.gL b) (p.pc b) (fun j => s.ch (32 * b + j))
  rel : Rel p s
  fr : F r
  fb : F p.gB
  fl : ∀ b, b < 12 → ∀ k, InL 32 (p.gL b) (p.pc b) k → F k
  dis : ∀ b, b < 12 → ∀ c, c < 12 → b ≠ c → ∀ k, InL 32 (p.gL b) (p.pc b) k → ¬ InL 32 (p.gL c) (p.pc c) k
def RefAt (w : World) (r : Nat) (s : Chp) (F : Nat → Prop) : Prop := ∃ p, RAt w r s F p
theorem RAt.chg {S : Nat → Prop} {w w' : World} {r : Nat} {s : Chp} {F : Nat → Prop} {p : Plc} (h : RAt w r s F p) (hc : Chg S w w') (hd : ∀ k, F k → ¬ S k) : RAt w' r s F p :=
  ⟨h.top.chg hc (hd _ h.fr), h.bl.chg hc (hd _ h.fb), fun b hb => (h.lst b hb).chg hc (fun k hk => hd k (h.fl b hb k hk)), h.rel, h.fr, h.fb, h.fl, h.dis⟩
theorem RefAt.chg {S : Nat → Prop} {w w' : World} {r : Nat} {s : Chp} {F : Nat → Prop} (h : RefAt w r s F) (hc : Chg S w w') (hd : ∀ k, F k → ¬ S k) : RefAt w' r s F := by
  obtain ⟨p, h⟩ := h
  exact ⟨p, h.chg hc hd⟩
theorem RAt.mono {w : World} {r : Nat} {s : Chp} {F F' : Nat → Prop} {p : Plc} (h : RAt w r s F p) (hF : ∀ k, F k → F' k) : RAt w r s F' p :=
  ⟨h.top, h.bl, h.lst, h.rel, hF _ h.fr, hF _ h.fb, fun b hb k hk => hF k (h.fl b hb k hk), h.dis⟩
end Go.Proofs.YtifjmilegogbaaaGreat
namespace Go.Proofs.YtifjmilegogbaaaGreat
open Go.RowKit
set_option maxRecDepth 100000

theorem isPage_yes (n : Int) (h0 : 0 ≤ n) (h1 : n < 96) (w : World) : Calls Tryz.prog 89 #[.int .i64 n] w fun e w' => e = .returned (.bool true) ∧ w' = w := by
  go_enter Tryz.func89, Tryz.ntmps89
  go_wp2
  go_ret
  exact ⟨rfl, rfl⟩
theorem isPage_no (n : Int) (h : n < 0 ∨ 96 ≤ n) (w : World) : Calls Tryz.prog 89 #[.int .i64 n] w fun e w' => e = .returned (.bool false) ∧ w' = w := by
  by_cases h0 : n < 0
  · have h1 : ¬ 0 ≤ n := by omega
    go_enter Tryz.func89, Tryz.ntmps89
    go_wp2
    go_ret
    exact ⟨rfl, rfl⟩
  · have h1 : 0 ≤ n := by omega
    have h2 : ¬ n < 96 := by omega
    go_enter Tryz.func89, Tryz.ntmps89
    go_wp2
    go_ret
    exact ⟨rfl, rfl⟩
theorem isBlock_yes (n : Int) (h0 : 0 ≤ n) (h1 : n < 12) (w : World) : Calls Tryz.prog 46 #[.int .i64 n] w fun e w' => e = .returned (.bool true) ∧ w' = w := by
  go_enter Tryz.func46, Tryz.ntmps46
  go_wp2
  go_ret
  exact ⟨rfl, rfl⟩
theorem isBlock_no (n : Int) (h : n < 0 ∨ 12 ≤ n) (w : World) : Calls Tryz.prog 46 #[.int .i64 n] w fun e w' => e = .returned (.bool false) ∧ w' = w := by
  by_cases h0 : n < 0
  · have h1 : ¬ 0 ≤ n := by omega
    go_enter Tryz.func46, Tryz.ntmps46
    go_wp2
    go_ret
    exact ⟨rfl, rfl⟩
  · have h1 : 0 ≤ n := by omega
    have h2 : ¬ n < 12 := by omega
    go_enter Tryz.func46, Tryz.ntmps46
    go_wp2
    go_ret
    exact ⟨rfl, rfl⟩

theorem RAt.cB {w : World} {r : Nat} {s : Chp} {F : Nat → Prop} {p : Plc} (h : RAt w r s F p) : w.cell? ⟨r, 0, none⟩ = some (.slice (some ⟨p.gB, 0, none⟩) 12 p.cB) := h.top.cell 0 (by omega)
theorem RAt.cOn {w : World} {r : Nat} {s : Chp} {F : Nat → Prop} {p : Plc} (h : RAt w r s F p) : w.cell? ⟨r, 1, none⟩ = some (.bool s.on) := h.top.cell 1 (by omega)
theorem RAt.cBu {w : World} {r : Nat} {s : Chp} {F : Nat → Prop} {p : Plc} (h : RAt w r s F p) : w.cell? ⟨r, 2, none⟩ = some (.int .i64 p.bu) := h.top.cell 2 (by omega)
theorem RAt.cSt {w : World} {r : Nat} {s : Chp} {F : Nat → Prop} {p : Plc} (h : RAt w r s F p) : w.cell? ⟨r, 3, none⟩ = some (.int .i64 s.steps) := h.top.cell 3 (by omega)
theorem RAt.bl0 {w : World} {r : Nat} {s : Chp} {F : Nat → Prop} {p : Plc} (h : RAt w r s F p) (b : Nat) (hb : b < 12) (j : Nat) (hj : j < 5) : w.cell? ⟨p.gB, b * 5 + j, none⟩ = some ((rbl p s b).getD j undef) := by
  rw [show b * 5 + j = 5 * b + j from by omega, h.bl.cell _ (by omega), fam_at 5 (by omega) _ _ _ hj]
theorem RAt.rb {w : World} {r : Nat} {s : Chp} {F : Nat → Prop} {p : Plc} (h : RAt w r s F p) : r ≠ p.gB := h.top.ne h.bl (by decide)
theorem RAt.rl {w : World} {r : Nat} {s : Chp} {F : Nat → Prop} {p : Plc} (h : RAt w r s F p) (b : Nat) (hb : b < 12) (k : Nat) (hk : InL 32 (p.gL b) (p.pc b) k) : k ≠ r := by
  rcases (h.lst b hb).type hk with ⟨n, f, h1⟩ | ⟨n, f, h1⟩
  · exact h1.ne h.top (by decide)
  · exact h1.ne h.top (by decide)
theorem RAt.bL {w : World} {r : Nat} {s : Chp} {F : Nat → Prop} {p : Plc} (h : RAt w r s F p) (b : Nat) (hb : b < 12) (k : Nat) (hk : InL 32 (p.gL b) (p.pc b) k) : k ≠ p.gB := by
  rcases (h.lst b hb).type hk with ⟨n, f, h1⟩ | ⟨n, f, h1⟩
  · exact h1.ne h.bl (by decide)
  · exact h1.ne h.bl (by decide)
/-- Another head. -/
theorem RAt.setTop {w w' : World} {r : Nat} {s : Chp} {F : Nat → Prop} {p : Plc} (h : RAt w r s F p) (on lim : Bool) (bud : Nat) (steps bu : Int)
    (hrel : Rel { p with bu := bu } { s with on := on, lim := lim, bud := bud, steps := steps }) (ht : Row w' r 52 4 (fun i => (rtop { p with bu := bu } { s with on := on, lim := lim, bud := bud, steps := steps }).getD i undef)) (hc : Chg (· = r) w w') :
    RAt w' r { s with on := on, lim := lim, bud := bud, steps := steps } F { p with bu := bu } :=
  ⟨ht, h.bl.chg hc (fun e => h.rb e.symm), fun b hb => (h.lst b hb).chg hc (fun k hk => h.rl b hb k hk), hrel, h.fr, h.fb, h.fl, h.dis⟩
/-- One cell of the head is another. -/
theorem top_set {w : World} {r : Nat} {s s' : Chp} {p p' : Plc} (h : Row w r 52 4 (fun i => (rtop p s).getD i undef)) (j : Nat) (v : Value) (e : (rtop p s).set j v = rtop p' s') (hj : j < 4) : Row (w.setCell ⟨r, j, none⟩ v) r 52 4 (fun i => (rtop p' s').getD i undef) := by
  refine (h.setCell j v).ext fun i hi => ?_
  rw [upL_one, ← e]
  by_cases h1 : i = j
  · subst h1
    rw [if_pos rfl, List.getD_eq_getElem?_getD, List.getElem?_set_self (by simp [rtop]; exact hj)]; rfl
  · rw [if_neg h1, List.getD_eq_getElem?_getD, List.getD_eq_getElem?_getD, List.getElem?_set_ne (by omega)]
/-- Another block b. -/
theorem RAt.setBlk {w w' : World} {r : Nat} {s : Chp} {F : Nat → Prop} {p : Plc} (h : RAt w r s F p) (b : Nat) (x : Blo) (y : Int)
    (hrel : Rel { p with wh := fun j => if j = b then y else p.wh j } (s.setBl b x)) (ht : Row w' p.gB 112 60 (famF 5 (rbl { p with wh := fun j => if j = b then y else p.wh j } (s.setBl b x)))) (hc : Chg (· = p.gB) w w') :
    RAt w' r (s.setBl b x) F { p with wh := fun j => if j = b then y else p.wh j } :=
  ⟨h.top.chg hc h.rb, ht, fun c hb => (h.lst c hb).chg hc (fun k hk => h.bL c hb k hk), hrel, h.fr, h.fb, h.fl, h.dis⟩
theorem rbl_other (p : Plc) (s : Chp) (b : Nat) (x : Blo) (y : Int) (c : Nat) (hc : c ≠ b) : rbl { p with wh := fun j => if j = b then y else p.wh j } (s.setBl b x) c = rbl p s c := by
  simp only [rbl, Chp.setBl, if_neg hc]
theorem rbl_same (p : Plc) (s : Chp) (b : Nat) (x : Blo) (y : Int) : rbl { p with wh := fun j => if j = b then y else p.wh j } (s.setBl b x) b = [.slice (some ⟨p.gL b, 0, none⟩) 32 (p.cL b), .int .i64 x.reads, .bool x.failed, .int .i64 y, .bool x.ef] := by
  simp only [rbl, Chp.setBl, if_pos]
/-- One cell of block b is another. -/
theorem bl_set {w : World} {s : Chp} {p : Plc} (h : Row w p.gB 112 60 (famF 5 (rbl p s))) (b : Nat) (x : Blo) (y : Int) (j : Nat) (v : Value) (hj : j < 5)
    (e : (rbl p s b).set j v = [.slice (some ⟨p.gL b, 0, none⟩) 32 (p.cL b), .int .i64 x.reads, .bool x.failed, .int .i64 y, .bool x.ef]) :
    Row (w.setCell ⟨p.gB, b * 5 + j, none⟩ v) p.gB 112 60 (famF 5 (rbl { p with wh := fun j => if j = b then y else p.wh j } (s.setBl b x))) := by
  rw [show b * 5 + j = 5 * b + j from by omega]
  exact (h.setCell (5 * b + j) v).ext fun i _ => fam_set 5 (by omega) _ _ b j hj v (fun c hc => rbl_other p s b x y c hc) (by rw [rbl_same]; exact e) rfl i
theorem Rel.setBl {p : Plc} {s : Chp} (h : Rel p s) (b : Nat) (x : Blo) (y : Int) (h1 : x.failed = false → y = if x.wf then (x.ahead : Int) else -1) (h2 : -1 ≤ y) (h3 : y < 9223372036854775808) : Rel { p with wh := fun j => if j = b then y else p.wh j } (s.setBl b x) := by
  refine ⟨h.bu, h.buLo, h.buHi, fun c hc => ?_, fun c => ?_, fun c => ?_⟩
  · by_cases e : c = b
    · subst e
      rw [setBl_bl] at hc ⊢
      show (if c = c then y else p.wh c) = _
      rw [if_pos rfl]; exact h1 hc
    · have e1 : (s.setBl b x).bl c = s.bl c := by simp only [Chp.setBl, if_neg e]
      rw [e1] at hc ⊢
      show (if c = b then y else p.wh c) = _
      rw [if_neg e]; exact h.wh c hc
  · show -1 ≤ (if c = b then y else p.wh c)
    split
    · exact h2
    · exact h.whLo c
  · show (if c = b then y else p.wh c) < _
    split
    · exact h3
    · exact h.whHi c
theorem rchunk_any (r : Nat) (s : Chp) (F : Nat → Prop) (p : Plc) (a k : Nat) (ha : a < 96) (hk : k < 4) (w : World) (h : RAt w r s F p) :
    Calls Tryz.prog 90 #[.pointer (some ⟨r, 0, none⟩), .int .i64 a, .int .i64 k] w fun e w' => e = .returned (.pointer (some ⟨p.gL (a / 8), 4 * (a % 8 * 4 + k), none⟩)) ∧ w' = w := by
  have c1 := h.cB
  have c2 := h.bl0 (a / 8) (by omega) 0 (by omega)
  have c3 : w.cell? ⟨p.gB, a / 8 * 5, none⟩ = some (.slice (some ⟨p.gL (a / 8), 0, none⟩) 32 (p.cL (a / 8))) := c2
  clear c2
  have q0 : (0 : Int) ≤ (a : Int) / 8 := by omega
  have q1 : (a : Int) / 8 < 12 := by omega
  have q2 : (0 : Int) ≤ (a : Int) % 8 * 4 + k := by omega
  have q3 : (a : Int) % 8 * 4 + k < 32 := by omega
  go_enter Tryz.func90, Tryz.ntmps90
  go_wp2
  go_ret
  rw [show (a % 8 * 4 + k) * 4 = 4 * (a % 8 * 4 + k) from by omega]
  exact ⟨rfl, rfl⟩
end Go.Proofs.YtifjmilegogbaaaGreat
namespace Go.Proofs.YtifjmilegogbaaaGreat
open Go.RowKit
set_option maxRecDepth 100000

theorem Chg.r1 {r : Nat} (w : World) (o : Nat) (v : Value) : Chg (· = r) w (w.setCell ⟨r, o, none⟩ v) := (Chg.refl (· = r) w).at r o v
theorem Rel.off {p : Plc} {s : Chp} (h : Rel p s) (bu : Int) (h1 : -1 ≤ bu) (h2 : bu < 9223372036854775808) (lim : Bool) (bud : Nat) (st : Int) : Rel { p with bu := bu } { s with on := false, lim := lim, bud := bud, steps := st } :=
  ⟨fun e => absurd e (by simp), h1, h2, h.wh, h.whLo, h.whHi⟩
theorem Rel.onn {p : Plc} {s : Chp} (h : Rel p s) (bu : Int) (lim : Bool) (bud : Nat) (st : Int) (h3 : bu = if lim then (bud : Int) else -1) (h1 : -1 ≤ bu) (h2 : bu < 9223372036854775808) (on : Bool) : Rel { p with bu := bu } { s with on := on, lim := lim, bud := bud, steps := st } :=
  ⟨fun _ => h3, h1, h2, h.wh, h.whLo, h.whHi⟩
theorem rstep_cut (r : Nat) (s : Chp) (F : Nat → Prop) (p : Plc) (w : World) (h : RAt w r s F p) (hon : s.on = true) (hl : s.lim = true) (hb : s.bud = 0) :
    Calls Tryz.prog 66 #[.pointer (some ⟨r, 0, none⟩)] w fun e w' => e = .returned (.bool false) ∧ (∃ bu, RAt w' r (offS s) F { p with bu := bu }) ∧ Chg F w w' := by
  have c2 := h.cBu
  have hbu := h.rel.bu hon
  rw [hl, hb] at hbu
  rw [hbu] at c2
  have c1 := h.cOn
  have f1 := h.top.frozen 1
  have hR : RAt (w.setCell ⟨r, 1, none⟩ (.bool false)) r (offS s) F { p with bu := p.bu } := h.setTop false false 0 s.steps p.bu (h.rel.off _ h.rel.buLo h.rel.buHi false 0 s.steps) (top_set h.top 1 _ rfl (by omega)) (Chg.r1 w 1 _)
  have hG : Chg F w (w.setCell ⟨r, 1, none⟩ (.bool false)) := (Chg.r1 w 1 _).mono (fun i _ e => by rw [e]; exact h.fr)
  clear h hbu hon hl hb
  go_enter Tryz.func66, Tryz.ntmps66
  go_wp2
  go_ret
  exact ⟨rfl, ⟨_, hR⟩, hG⟩
theorem rstep_go (r : Nat) (s : Chp) (hs : s.Ok) (F : Nat → Prop) (p : Plc) (w : World) (h : RAt w r s F p) (hon : s.on = true) (hn : ¬ (s.lim = true ∧ s.bud = 0)) :
    Calls Tryz.prog 66 #[.pointer (some ⟨r, 0, none⟩)] w fun e w' => e = .returned (.bool true) ∧ (∃ bu, RAt w' r (goS s) F { p with bu := bu }) ∧ Chg F w w' := by
  have c2 := h.cBu
  have c3 := h.cSt
  have f2 := h.top.frozen 2
  have f3 := h.top.frozen 3
  have hbu := h.rel.bu hon
  have hbd := hs.bud
  cases hl : s.lim with
  | true =>
    rw [hl, if_pos rfl] at hbu
    have hb0 : s.bud ≠ 0 := fun e => hn ⟨hl, e⟩
    have t1 : Row (w.setCell ⟨r, 2, none⟩ (.int .i64 (s.bud - 1 : Nat))) r 52 4 (fun i => (rtop { p with bu := ((s.bud - 1 : Nat) : Int) } s).getD i undef) := top_set h.top 2 _ rfl (by omega)
    have t2 : Row ((w.setCell ⟨r, 2, none⟩ (.int .i64 (s.bud - 1 : Nat))).setCell ⟨r, 3, none⟩ (.int .i64 (wrap64 (s.steps + 1)))) r 52 4 (fun i => (rtop { p with bu := ((s.bud - 1 : Nat) : Int) } (goS s)).getD i undef) := top_set t1 3 _ rfl (by omega)
    have hG1 : Chg (· = r) w ((w.setCell ⟨r, 2, none⟩ (.int .i64 (s.bud - 1 : Nat))).setCell ⟨r, 3, none⟩ (.int .i64 (wrap64 (s.steps + 1)))) := (Chg.r1 w 2 _).at r 3 _
    have e : goS s = { s with on := s.on, lim := true, bud := s.bud - 1, steps := wrap64 (s.steps + 1) } := by simp [goS, hl]
    rw [e] at t2
    have hR := h.setTop s.on true (s.bud - 1) (wrap64 (s.steps + 1)) ((s.bud - 1 : Nat) : Int) (h.rel.onn _ true (s.bud - 1) _ (by simp) (by omega) (by omega) _) t2 hG1
    rw [← e] at hR
    have hG : Chg F w ((w.setCell ⟨r, 2, none⟩ (.int .i64 (s.bud - 1 : Nat))).setCell ⟨r, 3, none⟩ (.int .i64 (wrap64 (s.steps + 1)))) := hG1.mono (fun i _ e => by rw [e]; exact h.fr)
    rw [hbu] at c2
    have h0 : ((s.bud : Int) == 0) = false := beq_eq_false_iff_ne.2 (by omega)
    have h1 : (0 : Int) < (s.bud : Int) := by omega
    have HI : Hid ((s.bud : Int) - 1 = ((s.bud - 1 : Nat) : Int)) := by show _ = _; omega
    clear h hbu hon hl t1 t2 hG1 e hn
    go_enter Tryz.func66, Tryz.ntmps66
    go_wp2
    go_ret
    rw [HI.out]
    exact ⟨rfl, ⟨_, hR⟩, hG⟩
  | false =>
    rw [hl, if_neg (by simp)] at hbu
    have t2 : Row (w.setCell ⟨r, 3, none⟩ (.int .i64 (wrap64 (s.steps + 1)))) r 52 4 (fun i => (rtop { p with bu := p.bu } { s with on := s.on, lim := s.lim, bud := s.bud, steps := wrap64 (s.steps + 1) }).getD i undef) := top_set h.top 3 _ rfl (by omega)
    have hG1 : Chg (· = r) w (w.setCell ⟨r, 3, none⟩ (.int .i64 (wrap64 (s.steps + 1)))) := Chg.r1 w 3 _
    have e : goS s = { s with on := s.on, lim := s.lim, bud := s.bud, steps := wrap64 (s.steps + 1) } := by simp [goS, hl]
    have hR := h.setTop s.on s.lim s.bud (wrap64 (s.steps + 1)) p.bu (h.rel.onn _ s.lim s.bud _ (by rw [hbu, hl]; simp) h.rel.buLo h.rel.buHi _) t2 hG1
    rw [← e] at hR
    have hG : Chg F w (w.setCell ⟨r, 3, none⟩ (.int .i64 (wrap64 (s.steps + 1)))) := hG1.mono (fun i _ e => by rw [e]; exact h.fr)
    rw [hbu] at c2
    clear h hbu hon hl t2 hG1 e hn
    go_enter Tryz.func66, Tryz.ntmps66
    go_wp2
    go_ret
    exact ⟨rfl, ⟨_, hR⟩, hG⟩
theorem again_any (r : Nat) (s : Chp) (F : Nat → Prop) (w : World) (h : RefAt w r s F) :
    Calls Tryz.prog 16 #[.pointer (some ⟨r, 0, none⟩)] w fun e w' => e = .returned (.tuple #[]) ∧ RefAt w' r (onS s) F ∧ Chg F w w' := by
  obtain ⟨p, h⟩ := h
  have c1 := h.cOn
  have c2 := h.cBu
  have f1 := h.top.frozen 1
  have f2 := h.top.frozen 2
  have t1 : Row (w.setCell ⟨r, 1, none⟩ (.bool true)) r 52 4 (fun i => (rtop p { s with on := true }).getD i undef) := top_set h.top 1 _ rfl (by omega)
  have t2 : Row ((w.setCell ⟨r, 1, none⟩ (.bool true)).setCell ⟨r, 2, none⟩ (.int .i64 (-1))) r 52 4 (fun i => (rtop { p with bu := -1 } { s with on := true, lim := false, bud := 0, steps := s.steps }).getD i undef) := top_set t1 2 _ rfl (by omega)
  have hG1 : Chg (· = r) w ((w.setCell ⟨r, 1, none⟩ (.bool true)).setCell ⟨r, 2, none⟩ (.int .i64 (-1))) := (Chg.r1 w 1 _).at r 2 _
  have hR := h.setTop true false 0 s.steps (-1) (h.rel.onn _ false 0 _ (by simp) (by omega) (by omega) _) t2 hG1
  have hG : Chg F w ((w.setCell ⟨r, 1, none⟩ (.bool true)).setCell ⟨r, 2, none⟩ (.int .i64 (-1))) := hG1.mono (fun i _ e => by rw [e]; exact h.fr)
  clear h t1 t2 hG1
  go_enter Tryz.func16, Tryz.ntmps16
  go_wp2
  go_end0
  exact ⟨rfl, ⟨_, hR⟩, hG⟩
theorem rcut_any (r : Nat) (s : Chp) (F : Nat → Prop) (n : Int) (hn2 : n < 9223372036854775808) (w : World) (h : RefAt w r s F) :
    Calls Tryz.prog 72 #[.pointer (some ⟨r, 0, none⟩), .int .i64 n] w fun e w' => e = .returned (.int .i64 (cutR s n).2) ∧ RefAt w' r (cutR s n).1 F ∧ Chg F w w' := by
  unfold cutR
  obtain ⟨p, h⟩ := h
  have c1 := h.cOn
  have c2 := h.cBu
  have f2 := h.top.frozen 2
  by_cases hn : n < 0
  · rw [if_pos hn]
    go_enter Tryz.func72, Tryz.ntmps72
    go_wp2
    go_ret
    exact ⟨rfl, ⟨p, h⟩, Chg.refl _ _⟩
  · rw [if_neg hn]
    by_cases hon : s.on = true
    · rw [if_pos hon]
      rw [hon] at c1
      have t2 : Row (w.setCell ⟨r, 2, none⟩ (.int .i64 n)) r 52 4 (fun i => (rtop { p with bu := n } { s with on := s.on, lim := true, bud := n.toNat, steps := s.steps }).getD i undef) := top_set h.top 2 _ rfl (by omega)
      have hG1 : Chg (· = r) w (w.setCell ⟨r, 2, none⟩ (.int .i64 n)) := Chg.r1 w 2 _
      have hR := h.setTop s.on true n.toNat s.steps n (h.rel.onn _ true n.toNat _ (by simp; omega) (by omega) (by omega) _) t2 hG1
      have hG : Chg F w (w.setCell ⟨r, 2, none⟩ (.int .i64 n)) := hG1.mono (fun i _ e => by rw [e]; exact h.fr)
      clear h t2 hG1 hon
      go_enter Tryz.func72, Tryz.ntmps72
      go_wp2
      go_ret
      exact ⟨rfl, ⟨_, hR⟩, hG⟩
    · rw [if_neg hon]
      rw [Bool.eq_false_iff.2 hon] at c1
      clear hon
      go_enter Tryz.func72, Tryz.ntmps72
      go_wp2
      go_ret
      exact ⟨rfl, ⟨p, h⟩, Chg.refl _ _⟩
set_option maxHeartbeats 1000000 in
theorem rfailP_any (r : Nat) (s : Chp) (F : Nat → Prop) (b n : Int) (hn2 : n < 9223372036854775808) (w : World) (h : RefAt w r s F) :
    Calls Tryz.prog 69 #[.pointer (some ⟨r, 0, none⟩), .int .i64 b, .int .i64 n] w fun e w' => e = .returned (.int .i64 (failPR s b n).2) ∧ RefAt w' r (failPR s b n).1 F ∧ Chg F w w' := by
  unfold failPR
  obtain ⟨p, h⟩ := h
  by_cases hb : 0 ≤ b ∧ b < 12
  · obtain ⟨hb0, hb1⟩ := hb
    by_cases hn : n < 0
    · rw [if_pos (by omega)]
      go_enter Tryz.func69, Tryz.ntmps69
      go_wp2_with fail
      refine (isBlock_yes b hb0 hb1 _).mono ?_
      rintro e w' ⟨rfl, rfl⟩
      go_wp2
      go_ret
      exact ⟨rfl, ⟨p, h⟩, Chg.refl _ _⟩
    · rw [if_neg (by omega)]
      obtain ⟨b, rfl⟩ := Int.eq_ofNat_of_zero_le hb0
      rw [Int.toNat_natCast]
      have c1 := h.cB
      have c2 := h.bl0 b (by omega) 3 (by omega)
      have f2 := h.bl.frozen (b * 5 + 3)
      have t := bl_set h.bl b { s.bl b with wf := true, ahead := n.toNat } n 3 (.int .i64 n) (by omega) rfl
      have hG1 : Chg (· = p.gB) w (w.setCell ⟨p.gB, b * 5 + 3, none⟩ (.int .i64 n)) := Chg.r1 w _ _
      have hR := h.setBlk b { s.bl b with wf := true, ahead := n.toNat } n (h.rel.setBl b _ n (fun _ => by simp; omega) (by omega) (by omega)) t hG1
      have hG : Chg F w (w.setCell ⟨p.gB, b * 5 + 3, none⟩ (.int .i64 n)) := hG1.mono (fun i _ e => by rw [e]; exact h.fb)
      clear h t hG1
      go_enter Tryz.func69, Tryz.ntmps69
      go_wp2_with fail
      refine (isBlock_yes (b : Int) hb0 hb1 _).mono ?_
      rintro e w' ⟨rfl, rfl⟩
      go_wp2
      go_ret
      exact ⟨rfl, ⟨_, hR⟩, hG⟩
  · rw [if_pos (by omega)]
    go_enter Tryz.func69, Tryz.ntmps69
    go_wp2_with fail
    refine (isBlock_no b (by omega) _).mono ?_
    rintro e w' ⟨rfl, rfl⟩
    go_wp2
    go_ret
    exact ⟨rfl, ⟨p, h⟩, Chg.refl _ _⟩
theorem rfailE_any (r : Nat) (s : Chp) (F : Nat → Prop) (b : Int) (w : World) (h : RefAt w r s F) :
    Calls Tryz.prog 71 #[.pointer (some ⟨r, 0, none⟩), .int .i64 b] w fun e w' => e = .returned (.int .i64 (failER s b).2) ∧ RefAt w' r (failER s b).1 F ∧ Chg F w w' := by
  unfold failER
  obtain ⟨p, h⟩ := h
  by_cases hb : 0 ≤ b ∧ b < 12
  · obtain ⟨hb0, hb1⟩ := hb
    rw [if_neg (by omega)]
    obtain ⟨b, rfl⟩ := Int.eq_ofNat_of_zero_le hb0
    rw [Int.toNat_natCast]
    have c1 := h.cB
    have c2 := h.bl0 b (by omega) 4 (by omega)
    have f2 := h.bl.frozen (b * 5 + 4)
    have t := bl_set h.bl b { s.bl b with ef := true } (p.wh b) 4 (.bool true) (by omega) rfl
    have hG1 : Chg (· = p.gB) w (w.setCell ⟨p.gB, b * 5 + 4, none⟩ (.bool true)) := Chg.r1 w _ _
    have hR := h.setBlk b { s.bl b with ef := true } (p.wh b) (h.rel.setBl b _ _ (fun e => h.rel.wh b e) (h.rel.whLo b) (h.rel.whHi b)) t hG1
    have hG : Chg F w (w.setCell ⟨p.gB, b * 5 + 4, none⟩ (.bool true)) := hG1.mono (fun i _ e => by rw [e]; exact h.fb)
    clear h t hG1
    go_enter Tryz.func71, Tryz.ntmps71
    go_wp2_with fail
    refine (isBlock_yes (b : Int) hb0 hb1 _).mono ?_
    rintro e w' ⟨rfl, rfl⟩
    go_wp2
    go_ret
    exact ⟨rfl, ⟨_, hR⟩, hG⟩
  · rw [if_pos (by omega)]
    go_enter Tryz.func71, Tryz.ntmps71
    go_wp2_with fail
    refine (isBlock_no b (by omega) _).mono ?_
    rintro e w' ⟨rfl, rfl⟩
    go_wp2
    go_ret
    exact ⟨rfl, ⟨p, h⟩, Chg.refl _ _⟩
theorem rreads_yes (r : Nat) (s : Chp) (F : Nat → Prop) (b : Nat) (hb : b < 12) (w : World) (h : RefAt w r s F) :
    Calls Tryz.prog 11 #[.pointer (some ⟨r, 0, none⟩), .int .i64 b] w fun e w' => e = .returned (.tuple #[.int .i64 (s.bl b).reads, .int .i64 0]) ∧ Chg (fun _ => False) w w' := by
  obtain ⟨p, h⟩ := h
  have hb0 : (0 : Int) ≤ (b : Int) := by omega
  have hb1 : (b : Int) < 12 := by omega
  have c1 := h.cB
  have c2 : w.cell? ⟨p.gB, b * 5 + 1, none⟩ = some (.int .i64 (s.bl b).reads) := h.bl0 b hb 1 (by omega)
  clear h
  go_enter Tryz.func11, Tryz.ntmps11
  go_wp2_with fail
  refine (isBlock_yes (b : Int) hb0 hb1 _).mono ?_
  rintro e w' ⟨rfl, rfl⟩
  go_wp2
  all_goals
    go_ret2
    exact ⟨rfl, Chg.refl _ _⟩
theorem rreads_no (r : Nat) (b : Int) (hb : b < 0 ∨ 12 ≤ b) (w : World) :
    Calls Tryz.prog 11 #[.pointer (some ⟨r, 0, none⟩), .int .i64 b] w fun e w' => e = .returned (.tuple #[.int .i64 0, .int .i64 1]) ∧ Chg (fun _ => False) w w' := by
  go_enter Tryz.func11, Tryz.ntmps11
  go_wp2_with fail
  refine (isBlock_no b hb _).mono ?_
  rintro e w' ⟨rfl, rfl⟩
  go_wp2
  all_goals
    go_ret2
    exact ⟨rfl, Chg.refl _ _⟩
theorem rfailed_yes (r : Nat) (s : Chp) (F : Nat → Prop) (b : Nat) (hb : b < 12) (w : World) (h : RefAt w r s F) :
    Calls Tryz.prog 13 #[.pointer (some ⟨r, 0, none⟩), .int .i64 b] w fun e w' => e = .returned (.tuple #[.bool (s.bl b).failed, .int .i64 0]) ∧ Chg (fun _ => False) w w' := by
  obtain ⟨p, h⟩ := h
  have hb0 : (0 : Int) ≤ (b : Int) := by omega
  have hb1 : (b : Int) < 12 := by omega
  have c1 := h.cB
  have c2 : w.cell? ⟨p.gB, b * 5 + 2, none⟩ = some (.bool (s.bl b).failed) := h.bl0 b hb 2 (by omega)
  clear h
  go_enter Tryz.func13, Tryz.ntmps13
  go_wp2_with fail
  refine (isBlock_yes (b : Int) hb0 hb1 _).mono ?_
  rintro e w' ⟨rfl, rfl⟩
  go_wp2
  all_goals
    go_ret2
    exact ⟨rfl, Chg.refl _ _⟩
theorem rfailed_no (r : Nat) (b : Int) (hb : b < 0 ∨ 12 ≤ b) (w : World) :
    Calls Tryz.prog 13 #[.pointer (some ⟨r, 0, none⟩), .int .i64 b] w fun e w' => e = .returned (.tuple #[.bool false, .int .i64 1]) ∧ Chg (fun _ => False) w w' := by
  go_enter Tryz.func13, Tryz.ntmps13
  go_wp2_with fail
  refine (isBlock_no b hb _).mono ?_
  rintro e w' ⟨rfl, rfl⟩
  go_wp2
  all_goals
    go_ret2
    exact ⟨rfl, Chg.refl _ _⟩
end Go.Proofs.YtifjmilegogbaaaGreat

