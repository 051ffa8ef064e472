/-
  (*Frame).Data. Condition: the block holds a Frame that New gave; the page's bytes can be read. (*Frame).Body. Condition: the block holds a Frame that New gave; the page's bytes can be read.
-/
import Derived.Test.YtifjmilegogbaaaGreatUMsg
import Derived.Maps.OwnIn
import Derived.Test.YtifjmilegogbaaaGreatUSeal
namespace Go.Proofs.YtifjmilegogbaaaGreat
open Go.RowKit Go.Shelf
set_option maxRecDepth 100000
attribute [local go_sem] Oper.semAt_some

/-- A chunk is read as r: its message, and how many symbols were damaged. -/
def Good (L : List Nat) (i : Nat) (r : List Nat × Nat) : Prop := IsDec (part 64 L i) (some r) ∧ r.1.length = 58 ∧ Bys r.1 ∧ r.2 ≤ 2
def All2 (L : List Nat) : List Ix → List (List Nat × Nat) → Prop
  | [], [] => True
  | x :: xs, r :: rs => Good L x.1 r ∧ All2 L xs rs
  | _, _ => False
theorem All2.snoc {L : List Nat} : ∀ {xs : List Ix} {rs : List (List Nat × Nat)} {x : Ix} {r : List Nat × Nat}, All2 L xs rs → Good L x.1 r → All2 L (xs ++ [x]) (rs ++ [r])
  | [], [], _, _, _, h => ⟨h, trivial⟩
  | _ :: _, _ :: _, _, _, h, k => ⟨h.1, h.2.snoc k⟩
  | [], _ :: _, _, _, h, _ => h.elim
  | _ :: _, [], _, _, h, _ => h.elim
theorem All2.length {L : List Nat} : ∀ {xs : List Ix} {rs : List (List Nat × Nat)}, All2 L xs rs → rs.length = xs.length
  | [], [], _ => rfl
  | _ :: _, _ :: _, h => by simp [h.2.length]
  | [], _ :: _, h => h.elim
  | _ :: _, [], h => h.elim
def dat (rs : List (List Nat × Nat)) : List Nat := rs.flatMap (·.1)
def mx (rs : List (List Nat × Nat)) : Nat := rs.foldl (fun a r => max a r.2) 0
theorem dat_snoc (rs : List (List Nat × Nat)) (r : List Nat × Nat) : dat (rs ++ [r]) = dat rs ++ r.1 := by simp [dat]
theorem mx_snoc (rs : List (List Nat × Nat)) (r : List Nat × Nat) : mx (rs ++ [r]) = max (mx rs) r.2 := by simp [mx]
theorem All2.dat_length {L : List Nat} : ∀ {xs : List Ix} {rs : List (List Nat × Nat)}, All2 L xs rs → (dat rs).length = 58 * xs.length
  | [], [], _ => rfl
  | _ :: xs, r :: rs, h => by
    have := h.2.dat_length
    have h1 := h.1.2.1
    simp only [dat, List.flatMap_cons, List.length_append, List.length_cons] at this ⊢
    omega
  | [], _ :: _, h => h.elim
  | _ :: _, [], h => h.elim
theorem All2.mx_le {L : List Nat} {xs : List Ix} {rs : List (List Nat × Nat)} (h : All2 L xs rs) : mx rs ≤ 2 := by
  have : ∀ (xs : List Ix) (rs : List (List Nat × Nat)) (a : Nat), a ≤ 2 → All2 L xs rs → rs.foldl (fun a r => max a r.2) a ≤ 2 := by
    intro xs
    induction xs with
    | nil =>
      intro rs a ha h
      cases rs with
      | nil => exact ha
      | cons => exact h.elim
    | cons x xs ih =>
      intro rs a ha h
      cases rs with
      | nil => exact h.elim
      | cons r rs => exact ih rs _ (by have := h.1.2.2.2; simp; omega) h.2
  exact this xs rs 0 (by omega) h

/-- 'append(v, x...)' in a round, v the call's own. -/
theorem wpListIn_append_bytes {F : Fence} {nF : Nat} {P : Program} (w : World) {ops : Array Oper} {rest : List Oper} {o : Oper} {a : Act} {Q : Exit → Act → World → Prop} (hgd : o.guard = none) (s x : Operand) (t : TypeId)
    (ho : o.op = .call { callee := .builtin .append, args := #[s, x], argTypes := #[t, t] })
    (base : Nat) (e : TypeId) (ht : P.underlying t = some (.slice e)) (hi : ∃ i, P.info? e = some i ∧ i.zero = some (.int .u8 0) ∧ i.size = 1 ∧ i.bytes = 1)
    (v : Value) (l : List Nat) (hs : a.eval s = v) (hown : Own w base e v l)
    (c oo m cap : Nat) (l2 : List Nat) (hx : a.eval x = .slice (some ⟨c, oo, none⟩) m cap) (hm : l2.length = m)
    (hc : ∀ j, j < m → w.cell? ⟨c, oo + j, none⟩ = some (.int .u8 (l2.getD j 0 : Nat)))
    (hbytes : l.length + m ≤ 140737488355328) (hbase : base ≤ w.heap.size)
    (h : ∀ v' w', Own w' base e v' (l ++ l2) → w.grownBy w' v.ownBlock → (v'.ownBlock = v.ownBlock ∨ v'.ownBlock = some w.heap.size) → wpListIn F nF P ops Q rest (a.put o.dst v') w') : wpListIn F nF P ops Q (o :: rest) a w := by
  obtain ⟨i, hi1, hi2, hi3, hi4⟩ := hi
  refine wpListIn_append_own_at w hgd s x t ho base e i (.int .u8 0) 1 1 ht hi1 hi2 hi3 hi4 rfl (by decide) v l.length (l.map byt) hs hown ⟨c, oo, none⟩ m cap (l2.map byt) hx (by simp [hm]) ?_ (byt_one l2) (by unfold maxLen; omega) (by omega) hbase ?_
  · intro j u hu
    have hj : j < l2.length := by
      have := (List.getElem?_eq_some_iff.1 hu).1
      simpa using this
    rw [List.getElem?_map, List.getElem?_eq_getElem hj] at hu
    have e1 := hc j (by omega)
    rw [List.getD_eq_getElem?_getD, List.getElem?_eq_getElem hj] at e1
    rw [Addr.add_lit, e1]
    exact hu
  · intro v' w' h1 h2 _ h4
    refine h v' w' ?_ h2 h4
    unfold Own
    rw [List.length_append, hm, List.map_append]
    exact h1

/-- 174 noughts. -/
def z174 : List Nat := List.replicate 174 0
theorem make_room (w : World) : (Instr.makeSlice 55 (.int .i64 0) (.int .i64 174)).run Tryz.prog w = .ok (.slice (some ⟨w.heap.size, 0, none⟩) 0 174) (w.alloc (.cells (bcells z174) 5)) := by
  obtain ⟨i, h1, h2, h3, h4⟩ := info5
  have h := run_make (P := Tryz.prog) w 55 5 i (.int .u8 0) Tryz.underlying55 h1 h2 .i64 .i64 0 174 (by omega) (by omega) (by rw [h4]; omega) (by omega)
  rw [h, h3, made_bytes]; rfl

set_option maxHeartbeats 1000000 in
theorem data_arg (p : Nat) (w : World) (a : Option Addr) (n cap : Nat) (hn : n ≠ 256) :
    Calls Tryz.prog 81 #[.pointer (some ⟨p, 0, none⟩), .slice a n cap] w fun e w' => e = .returned (.tuple #[.slice none 0 0, .int .i64 0, .iface 58 (.int .i64 1)]) ∧ Chg (fun _ => False) w w' := by
  have hn' : ((n : Int) != 256) = true := by simp; omega
  refine (callsIn_wide (n := 3)).1 ?_
  refine callsIn_of_wp_marks Tryz.func81 rfl trivial ?_ rfl
  simp only [Tryz.ntmps81, List.size_toArray, List.length_cons, List.length_nil, Nat.reduceAdd, Nat.reduceSub, Array.replicate_succ, Array.replicate_zero, List.push_toArray, List.append_toArray, List.nil_append, List.cons_append]
  gi_wp2
  refine ⟨.tuple #[.slice none 0 0, .int .i64 0, .iface 58 (.int .i64 1)], ?_, rfl, (((((Chg.refl _ _).alloc _).alloc _).alloc _).alloc _)⟩
  simp [results, Tryz.f81, go_sem]

/-- The world where Data's loop begins. -/
def dw (w : World) (p : Nat) (pg : Value) : World := ((((((((w.alloc (.cells #[.pointer (some ⟨p, 0, none⟩)] 113)).alloc (.cells #[.slice none 0 0] 55)).alloc (.cells #[.int .i64 0] 3)).alloc (.cells #[.nilIface] 32)).alloc (.cells (bcells z174) 5)).alloc (.cells #[.slice (some ⟨w.heap.size + 1 + 1 + 1 + 1, 0, none⟩) 0 174] 55)).alloc (.cells #[.int .i64 0] 3)).alloc (.cells #[pg] 55)).alloc (.cells #[.int .i64 64] 3)
theorem dw_facts (w : World) (p : Nat) (pg : Value) : Chg (fun _ => False) w (dw w p pg) ∧ (dw w p pg).heap.size = w.heap.size + 9 ∧ Boxed (dw w p pg) w.heap.size 113 (.pointer (some ⟨p, 0, none⟩)) ∧ Boxed (dw w p pg) (w.heap.size + 1) 55 (.slice none 0 0) ∧
    Boxed (dw w p pg) (w.heap.size + 1 + 1) 3 (.int .i64 0) ∧ Boxed (dw w p pg) (w.heap.size + 1 + 1 + 1) 32 .nilIface ∧ Arr (dw w p pg) (w.heap.size + 1 + 1 + 1 + 1) 5 z174 ∧ Boxed (dw w p pg) (w.heap.size + 1 + 1 + 1 + 1 + 1) 55 (.slice (some ⟨w.heap.size + 1 + 1 + 1 + 1, 0, none⟩) 0 174) ∧
    Boxed (dw w p pg) (w.heap.size + 1 + 1 + 1 + 1 + 1 + 1) 3 (.int .i64 0) ∧ Boxed (dw w p pg) (w.heap.size + 1 + 1 + 1 + 1 + 1 + 1 + 1) 55 pg ∧ Boxed (dw w p pg) (w.heap.size + 1 + 1 + 1 + 1 + 1 + 1 + 1 + 1) 3 (.int .i64 64) := by
  refine ⟨((((((((((Chg.refl _ _).alloc _).alloc _).alloc _).alloc _).alloc _).alloc _).alloc _).alloc _).alloc _), by simp [dw], ?_, ?_, ?_, ?_, ?_, ?_, ?_, ?_, ?_⟩
  · exact ((((((((Boxed.new' _ (by simp) _ _).alloc _).alloc _).alloc _).alloc _).alloc _).alloc _).alloc _).alloc _
  · exact (((((((Boxed.new' _ (by simp) _ _).alloc _).alloc _).alloc _).alloc _).alloc _).alloc _).alloc _
  · exact ((((((Boxed.new' _ (by simp) _ _).alloc _).alloc _).alloc _).alloc _).alloc _).alloc _
  · exact (((((Boxed.new' _ (by simp) _ _).alloc _).alloc _).alloc _).alloc _).alloc _
  · have := Arr.new ((((w.alloc (.cells #[.pointer (some ⟨p, 0, none⟩)] 113)).alloc (.cells #[.slice none 0 0] 55)).alloc (.cells #[.int .i64 0] 3)).alloc (.cells #[.nilIface] 32)) 5 z174
    simp only [World.size_alloc] at this
    exact ((((this.alloc _).alloc _).alloc _).alloc _)
  · exact (((Boxed.new' _ (by simp) _ _).alloc _).alloc _).alloc _
  · exact ((Boxed.new' _ (by simp) _ _).alloc _).alloc _
  · exact (Boxed.new' _ (by simp) _ _).alloc _
  · exact Boxed.new' _ (by simp) _ _

/-- What Data answers of the page L. -/
def DataAns (w w' : World) (L : List Nat) (e : Ending) : Prop :=
  (∃ i, i < 3 ∧ IsDec (part 64 L i) none ∧ e = .returned (.tuple #[.slice none 0 0, .int .i64 0, .iface 58 (.int .i64 5)])) ∨
  (∃ (r0 r1 r2 : List Nat × Nat) (a : Option Addr) (cap : Nat), Good L 0 r0 ∧ Good L 1 r1 ∧ Good L 2 r2 ∧ e = .returned (.tuple #[.slice a 174 cap, .int .i64 ((max (max r0.2 r1.2) r2.2 : Nat) : Int), .nilIface]) ∧ Own w' w.heap.size 5 (.slice a 174 cap) (r0.1 ++ r1.1 ++ r2.1))

/-- The blocks of memory that lay there and that Data's loop changes. -/
def DS (w : World) (b : Nat) (k : Nat) : Prop := k = b ∨ (w.heap.size + 1 ≤ k ∧ k ≤ w.heap.size + 6)
/-- .. and as long as it goes on. -/
def DT (w : World) (b : Nat) (k : Nat) : Prop := k = b ∨ (w.heap.size + 4 ≤ k ∧ k ≤ w.heap.size + 6)
/-- The tag's chunk. -/
def ix3 : Ix := ⟨3, by decide⟩
/-- What holds between two rounds of Data's loop. -/
def DI (w W1 W : World) (p q b : Nat) (L : List Nat) (pre : List Ix) : Prop :=
  (∀ x ∈ pre, x.1 ≠ 3) ∧ ∃ (v : Value) (rs : List (List Nat × Nat)), All2 L pre rs ∧ Boxed W (w.heap.size + 1 + 1 + 1 + 1 + 1) 55 v ∧ Own W w.heap.size 5 v (dat rs) ∧ (∀ g, v.ownBlock = some g → g = w.heap.size + 1 + 1 + 1 + 1 ∨ W1.heap.size ≤ g) ∧
    Boxed W (w.heap.size + 1 + 1 + 1 + 1 + 1 + 1) 3 (.int .i64 (mx rs)) ∧ Frm W p q b ∧ Chg (DT w b) W1 W
theorem Own.keeps {X Y : World} {base : Nat} {e : TypeId} {v : Value} {l : List Nat} (h : Own X base e v l) (hk : Keeps X Y) : Own Y base e v l := by
  refine ⟨h.1, ?_⟩
  rcases h.2 with h1 | ⟨g, cap, cur, rfl, hb, hh, r⟩
  · exact Or.inl h1
  · exact Or.inr ⟨g, cap, cur, rfl, hb, (hk _ _ _ hh).trans hh, r⟩
theorem DI.keep {w W1 X Y : World} {p q b : Nat} {L : List Nat} {pre : List Ix} {row : Option Nat} (h : DI w W1 X p q b L pre) (hg : X.grownBy Y row) (hr : ∀ r, row = some r → W1.heap.size ≤ r ∧ ∃ o : Obj, X.heap[r]? = some o ∧ o.isCells = false) : DI w W1 Y p q b L pre := by
  obtain ⟨h1, v, rs, h2, h3, h4, h5, h6, h7, h8⟩ := h
  have hk := kept hg hr
  exact ⟨h1, v, rs, h2, boxed_keep h3 hk, h4.keeps hk, h5, boxed_keep h6 hk, h7.keep hk, h8.grown hg (fun k e => Or.inr (hr k e).1)⟩

set_option maxHeartbeats 4000000 in
theorem data_any (p q b : Nat) (w : World) (h : Frm w p q b) (c o cap : Nat) (L : List Nat) (hL : L.length = 256) (bL : Bys L) (hcb : c ≠ b) (hcs : c < w.heap.size) (hcap : 256 ≤ cap)
    (hcell : ∀ i, i < 256 → w.cell? ⟨c, o + i, none⟩ = some (.int .u8 (L.getD i 0 : Nat))) :
    Calls Tryz.prog 81 #[.pointer (some ⟨p, 0, none⟩), .slice (some ⟨c, o, none⟩) 256 cap] w fun e w' => DataAns w w' L e ∧ Frm w' p q b ∧ But b w w' := by
  have HC := hyd hcell
  clear hcell
  have hmk := make_room
  refine (callsIn_wide (n := 3)).1 ?_
  refine callsIn_of_wp_marks Tryz.func81 rfl trivial ?_ rfl
  simp only [Tryz.ntmps81, List.size_toArray, List.length_cons, List.length_nil, Nat.reduceAdd, Nat.reduceSub, Array.replicate_succ, Array.replicate_zero, List.push_toArray, List.append_toArray, List.nil_append, List.cons_append]
  gi_wp2_with (refine ⟨trivial, ?_⟩; gi_at_call 108; refine (callsIn_wide.2 (parts_any _ _ _ _ 64)).mono ?_; rintro e w' ⟨rfl, rfl⟩)
  obtain ⟨G1, hs1, x0, x1, x2, x3, x4, x5, x6, x7, x8⟩ := dw_facts w p (.slice (some ⟨c, o, none⟩) 256 cap)
  obtain ⟨W1, hW1⟩ : ∃ W1, dw w p (.slice (some ⟨c, o, none⟩) 256 cap) = W1 := ⟨_, rfl⟩
  rw [hW1] at G1 hs1 x0 x1 x2 x3 x4 x5 x6 x7 x8
  unfold dw at hW1
  rw [hW1]
  clear hW1
  have F1 := h.chg G1
  have hp := h.lt
  have hbs := h.1.1.lt
  have hqs := h.1.lt
  have HL : Hid (L.length = 4 * 64) := hyd hL
  have O1 : Own W1 w.heap.size 5 (.slice (some ⟨w.heap.size + 1 + 1 + 1 + 1, 0, none⟩) 0 174) [] := ⟨rfl, Or.inr ⟨_, 174, bcells z174, rfl, by omega, x4, by decide, by decide, by rw [bcells_size]; rfl, by simp⟩⟩
  refine wpIn_rangeFunc_ownG rfl (by omega) (gf := 128) (lb := #[.pointer (some ⟨w.heap.size + 1 + 1 + 1 + 1 + 1 + 1 + 1, 0, none⟩), .pointer (some ⟨w.heap.size + 1 + 1 + 1 + 1 + 1 + 1 + 1 + 1, 0, none⟩)]) rfl trivial (enters_of Tryz.func128 (by kernel_rfl) rfl)
    (parts64 Fence.wide _ trivial rfl (by omega) _ _ c o cap hcap W1 (by omega) (by omega) x7.cell x8.cell) Kp.t (Kp.b (by omega) (by omega)) (Below.refl _ _) (fun _ => rfl)
    (fun pre W => DI w W1 W p q b L pre)
    (fun cc pre W => (cc = .exit 0 ∧ ∃ pr, pre = pr ++ [ix3] ∧ DI w W1 W p q b L pr) ∨ (cc = .ret ∧ ∃ i, i < 3 ∧ IsDec (part 64 L i) none ∧ Boxed W (w.heap.size + 1) 55 (.slice none 0 0) ∧ Boxed W (w.heap.size + 1 + 1) 3 (.int .i64 0) ∧ Boxed W (w.heap.size + 1 + 1 + 1) 32 (.iface 58 (.int .i64 5)) ∧ Frm W p q b ∧ Chg (DS w b) W1 W))
    (fun pre X Y row hs hg hr => hs.keep hg hr)
    (fun cc pre X Y row hs hg hr => by
      rcases hs with ⟨rfl, pr, h1, h2⟩ | ⟨rfl, i, h1, h2, h3, h4, h5, h6, h7⟩
      · exact Or.inl ⟨rfl, pr, h1, h2.keep hg hr⟩
      · have hk := kept hg hr
        exact Or.inr ⟨rfl, i, h1, h2, boxed_keep h3 hk, boxed_keep h4 hk, boxed_keep h5 hk, h6.keep hk, h7.grown hg (fun k e => Or.inr (hr k e).1)⟩)
    ⟨by simp, _, [], trivial, x5, O1, (fun g e => by have e' : w.heap.size + 1 + 1 + 1 + 1 = g := Option.some.inj e; left; exact e'.symm), x6, F1, Chg.refl _ _⟩
    (fun x => { tmps := #[.pointer (some ⟨p, 0, none⟩), .slice (some ⟨c, o, none⟩) 256 cap, .pointer (some ⟨w.heap.size, 0, none⟩), undef, .pointer (some ⟨w.heap.size + 1, 0, none⟩), .pointer (some ⟨w.heap.size + 1 + 1, 0, none⟩), .pointer (some ⟨w.heap.size + 1 + 1 + 1, 0, none⟩), .pointer (some ⟨w.heap.size + 1 + 1 + 1 + 1 + 1, 0, none⟩), .pointer (some ⟨w.heap.size + 1 + 1 + 1 + 1 + 1 + 1, 0, none⟩), .int .i64 (x.1 : Int), .slice (some ⟨c, o + x.1 * 64, none⟩) 64 (cap - x.1 * 64), undef, undef, undef, .slice (some ⟨c, o, none⟩) 256 cap, .int .i64 256, .bool false, undef, .slice (some ⟨w.heap.size + 1 + 1 + 1 + 1, 0, none⟩) 0 174, .slice (some ⟨c, o, none⟩) 256 cap, .func (.func 128) #[] #[.pointer (some ⟨w.heap.size + 1 + 1 + 1 + 1 + 1 + 1 + 1, 0, none⟩), .pointer (some ⟨w.heap.size + 1 + 1 + 1 + 1 + 1 + 1 + 1 + 1, 0, none⟩)], .int .i64 (x.1 : Int), .slice (some ⟨c, o + x.1 * 64, none⟩) 64 (cap - x.1 * 64), undef, undef, undef, undef, undef, undef, undef, undef, undef, undef, undef, undef, undef, undef, undef, undef, undef, undef, undef, undef, undef, undef, undef], defers := [] }) ?assign ?body ?done ?stop
  case assign =>
    intro l x W K hK
    dsimp only [encP]
    gi_wp2
    exact hK
  case body =>
    rintro l pre x W ⟨hne, v, rs, hA, y5, O, hv, y6, F, hG⟩ hpl
    have y0 : Boxed W w.heap.size 113 (.pointer (some ⟨p, 0, none⟩)) := (hG.block _ x0.lt (by unfold DT; omega)).trans x0
    have y1 : Boxed W (w.heap.size + 1) 55 (.slice none 0 0) := (hG.block _ x1.lt (by unfold DT; omega)).trans x1
    have y2 : Boxed W (w.heap.size + 1 + 1) 3 (.int .i64 0) := (hG.block _ x2.lt (by unfold DT; omega)).trans x2
    have y3 : Boxed W (w.heap.size + 1 + 1 + 1) 32 .nilIface := (hG.block _ x3.lt (by unfold DT; omega)).trans x3
    have hs2 := hG.size
    have z0 := y0.cell
    have z2 : W.cell? ⟨p, 0, none⟩ = some (.pointer (some ⟨q, 0, none⟩)) := F.2.cell
    have hbc : ∀ o, W.heap[b]? = some o → o.isCells = true := fun o ho => by
      obtain ⟨c, z, hc, -⟩ := fld_heap F.1.1
      rw [hc] at ho; cases ho; rfl
    obtain ⟨i, hi⟩ := x
    dsimp only
    by_cases hx : i = 3
    · subst hx
      gi_wp2_with fail
      exact ⟨KeepsFrom.refl _ _, Or.inl ⟨rfl, pre, rfl, hne, v, rs, hA, y5, O, hv, y6, F, hG⟩⟩
    · have hx3 := hx
      have hx' : ((i : Int) == 3) = false := by simp; omega
      have hpl := part_length HL.out i hi
      have hpb := part_bys (z := 64) bL i
      have hcc : ∀ j, j < (part 64 L i).length → W.cell? ⟨c, o + i * 64 + j, none⟩ = some (.int .u8 ((part 64 L i).getD j 0 : Nat)) := fun j hj => by
        rw [part_getD 64 L i j (by omega), Nat.add_assoc]
        exact (World.cell?_of_block (w := W1) (a := ⟨c, o + (i * 64 + j), none⟩) (hG.block c (by omega) (by unfold DT; omega))).trans ((World.cell?_of_block (w := w) (a := ⟨c, o + (i * 64 + j), none⟩) (G1.block c hcs (fun e => e))).trans (HC.out _ (by omega)))
      have HDec := hyd (decode_any q b W F.1 c (o + i * 64) (cap - i * 64) (part 64 L i) hpl hpb hcb (by omega) hcc)
      clear hcc
      gi_wp2_with fail
      refine ⟨trivial, (CallsIn.inRound l (callsIn_wide.2 HDec.out)).mono ?_⟩
      rintro e W3 ⟨hD, C3, B3⟩
      clear HDec
      have F3 := F.but C3 B3
      have a1 : KeepsFrom W1.heap.size W W3 := B3.chg.keeps (fun k hk o ho => hbc o (by rw [← hk]; exact ho)) _
      have hs3 := B3.size
      have G3 : Chg (DT w b) W1 W3 := hG.trans' B3.chg (fun k _ e => Or.inl e)
      have u1 : Boxed W3 (w.heap.size + 1) 55 (.slice none 0 0) := (B3.block _ y1.lt (by omega)).trans y1
      have u2 : Boxed W3 (w.heap.size + 1 + 1) 3 (.int .i64 0) := (B3.block _ y2.lt (by omega)).trans y2
      have u3 : Boxed W3 (w.heap.size + 1 + 1 + 1) 32 .nilIface := (B3.block _ y3.lt (by omega)).trans y3
      have u5 : Boxed W3 (w.heap.size + 1 + 1 + 1 + 1 + 1) 55 v := (B3.block _ y5.lt (by omega)).trans y5
      have u6 : Boxed W3 (w.heap.size + 1 + 1 + 1 + 1 + 1 + 1) 3 (.int .i64 (mx rs)) := (B3.block _ y6.lt (by omega)).trans y6
      have O3 : Own W3 w.heap.size 5 v (dat rs) := O.chg B3.chg (fun k hk he hb => by have := hv k he; omega)
      have g1 := u1.cell
      have g2 := u2.cell
      have g3 := u3.cell
      have g5 := u5.cell
      have g6 := u6.cell
      have j1 := u1.frozen
      have j2 := u2.frozen
      have j3 := u3.frozen
      have j5 := u5.frozen
      have j6 := u6.frozen
      have q1 := neq_dec_nil
      have q2 := neq_nil_nil
      rcases hD with ⟨h1, rfl⟩ | ⟨m, d, g, h1, h2, h3, h4, rfl, h6, h7⟩
      · obtain ⟨k1, k2, k3, k4⟩ := st3_facts u1 u2 u3 (.slice none 0 0) (.int .i64 0) (.iface 58 (.int .i64 5)) (by omega) (by omega) (by omega)
        have hrc : ∀ k, (k = (w.heap.size + 1) ∨ k = (w.heap.size + 1 + 1) ∨ k = (w.heap.size + 1 + 1 + 1)) → ∀ o, W3.heap[k]? = some o → o.isCells = true := fun k hk o ho => by
          rcases hk with rfl | rfl | rfl
          · rw [show W3.heap[_]? = _ from u1] at ho; cases ho; rfl
          · rw [show W3.heap[_]? = _ from u2] at ho; cases ho; rfl
          · rw [show W3.heap[_]? = _ from u3] at ho; cases ho; rfl
        have a2 := k4.keeps hrc W1.heap.size
        have n1 : ¬ (b = (w.heap.size + 1) ∨ b = (w.heap.size + 1 + 1) ∨ b = (w.heap.size + 1 + 1 + 1)) := by omega
        have n2 : ¬ (q = (w.heap.size + 1) ∨ q = (w.heap.size + 1 + 1) ∨ q = (w.heap.size + 1 + 1 + 1)) := by omega
        have n3 : ¬ (p = (w.heap.size + 1) ∨ p = (w.heap.size + 1 + 1) ∨ p = (w.heap.size + 1 + 1 + 1)) := by omega
        have F4 := F3.other (k4.block _ F3.1.1.lt n1) (k4.block _ F3.1.lt n2) (k4.block _ F3.lt n3)
        have G4 : Chg (DS w b) W1 _ := (G3.mono (T := DS w b) (fun k _ e => by unfold DT at e; unfold DS; omega)).trans' k4 (fun i hi e => by show DS w b i; unfold DS; omega)
        gi_wp2_with fail
        exact ⟨a1.trans a2, Or.inr ⟨rfl, i, by omega, h1, k1, k2, k3, F4, G4⟩⟩
      · have hA2 := hA.snoc (x := ⟨i, hi⟩) (r := (m, d)) ⟨h1, h3, h4, h2⟩
        have hdl := hA.dat_length
        have hml := hA.mx_le
        have hi5 := info5
        gi_wp2_with (gi_at_builtin; refine wpListIn_append_bytes _ rfl _ _ 55 rfl w.heap.size 5 Tryz.underlying55 hi5 v (dat rs) rfl O3 g 0 58 58 m rfl h3 (fun j hj => by rw [Nat.zero_add]; exact h7.cell j (by omega)) (by omega) (by omega) ?_)
        intro v' w4 O4 hg4 hat
        obtain ⟨g4, c4, hv4, hgb4, hgs4, -⟩ := O4.lies (by rw [List.length_append]; omega)
        have hnb : ∀ k, v.ownBlock = some k → k = w.heap.size + 1 + 1 + 1 + 1 ∨ W1.heap.size ≤ k := hv
        have hv' : g4 = w.heap.size + 1 + 1 + 1 + 1 ∨ W1.heap.size ≤ g4 := by
          have e4 : v'.ownBlock = some g4 := by rw [hv4]; rfl
          rcases hat with h | h
          · exact hv g4 (by rw [← h]; exact e4)
          · rw [e4] at h
            have := Option.some.inj h
            omega
        subst hv4
        rw [show (dat rs ++ m).length = 58 * pre.length + 58 from by rw [List.length_append]; omega] at O4
        have t5 : Boxed w4 (w.heap.size + 1 + 1 + 1 + 1 + 1) 55 v := u5.kept hg4 (fun e => by have := hv _ e.symm; omega)
        have t6 : Boxed w4 (w.heap.size + 1 + 1 + 1 + 1 + 1 + 1) 3 (.int .i64 (mx rs)) := u6.kept hg4 (fun e => by have := hv _ e.symm; omega)
        have F4 : Frm w4 p q b := F3.other (hg4.block _ F3.1.1.lt (fun e => by have := hv _ e.symm; omega)) (hg4.block _ F3.1.lt (fun e => by have := hv _ e.symm; omega)) (hg4.block _ F3.lt (fun e => by have := hv _ e.symm; omega))
        have hcv : ∀ k, v.ownBlock = some k → ∀ o, W3.heap[k]? = some o → o.isCells = true := fun k hk o ho => by
          rcases O3.2 with ⟨rfl, _⟩ | ⟨g, cap, cur, rfl, _, hh, _⟩
          · cases hk
          · have e : g = k := Option.some.inj hk
            rw [← e, hh] at ho; cases ho; rfl
        have a3 : KeepsFrom W1.heap.size W3 w4 := ⟨hg4.size, fun k o _ h0 ho => (hg4.block k (Array.getElem?_eq_some_iff.1 h0).1 (fun e => by rw [hcv k e.symm o h0] at ho; cases ho)).trans h0⟩
        have G4 : Chg (DT w b) W1 w4 := G3.grown hg4 (fun k e => by have := hv _ e; unfold DT; omega)
        have g5 := t5.cell
        have g6 := t6.cell
        have j5 := t5.frozen
        have j6 := t6.frozen
        have hs4 := hg4.size
        have hk1 : ∀ k, k < W.heap.size → k ≠ b → v.ownBlock ≠ some k → w4.heap[k]? = W.heap[k]? := fun k hk hb hv => (hg4.block k (by omega) (fun e => hv e.symm)).trans (B3.block k hk hb)
        have fin : ∀ x : Nat, x = max (mx rs) d → ∀ Y, (w4.setCell ⟨w.heap.size + 1 + 1 + 1 + 1 + 1, 0, none⟩ (.slice (some ⟨g4, 0, none⟩) (58 * pre.length + 58) c4)).setCell ⟨w.heap.size + 1 + 1 + 1 + 1 + 1 + 1, 0, none⟩ (.int .i64 (x : Int)) = Y → KeepsFrom (w.heap.size + 9) W Y ∧ Kp (w.heap.size + 1 + 1 + 1 + 1 + 1 + 1 + 1) (w.heap.size + 1 + 1 + 1 + 1 + 1 + 1 + 1 + 1) W Y ∧ DI w W1 Y p q b L (pre ++ [⟨i, hi⟩]) := fun x hx Y hY => by
          have e5 : Boxed Y (w.heap.size + 1 + 1 + 1 + 1 + 1) 55 (.slice (some ⟨g4, 0, none⟩) (58 * pre.length + 58) c4) := by rw [← hY]; exact (t5.set _).other (by omega) _
          have e6 : Boxed Y (w.heap.size + 1 + 1 + 1 + 1 + 1 + 1) 3 (.int .i64 (x : Int)) := by rw [← hY]; exact (t6.other (by omega) _).set _
          have K4 : Chg (fun k => k = (w.heap.size + 1 + 1 + 1 + 1 + 1) ∨ k = (w.heap.size + 1 + 1 + 1 + 1 + 1 + 1)) w4 Y := by rw [← hY]; exact ((Chg.refl _ w4).setCell (Or.inl (Or.inl rfl)) 0 _).setCell (Or.inl (Or.inr rfl)) 0 _
          have hrc : ∀ k, (k = (w.heap.size + 1 + 1 + 1 + 1 + 1) ∨ k = (w.heap.size + 1 + 1 + 1 + 1 + 1 + 1)) → ∀ o, w4.heap[k]? = some o → o.isCells = true := fun k hk o ho => by
            rcases hk with rfl | rfl
            · rw [show w4.heap[_]? = _ from t5] at ho; cases ho; rfl
            · rw [show w4.heap[_]? = _ from t6] at ho; cases ho; rfl
          have a4 := K4.keeps hrc W1.heap.size
          rw [← hs1]
          refine ⟨(a1.trans a3).trans a4, ⟨?_, ?_⟩, ?_, _, rs ++ [(m, d)], hA2, e5, ?_, ?_, by rw [mx_snoc, ← hx]; exact e6, ?_, ?_⟩
          · exact (K4.block _ (by omega) (by omega)).trans (hk1 _ (by omega) (by omega) (fun e => by have := hv _ e; omega))
          · exact (K4.block _ (by omega) (by omega)).trans (hk1 _ (by omega) (by omega) (fun e => by have := hv _ e; omega))
          · intro z hz
            rcases List.mem_append.1 hz with h1 | h1
            · exact hne z h1
            · simp at h1; subst h1; simpa using hx3
          · rw [dat_snoc]
            refine O4.chg K4 (fun k hk he => ?_)
            have : g4 = k := Option.some.inj he
            omega
          · intro k he
            have : g4 = k := Option.some.inj he
            omega
          · exact F4.other (K4.block _ F4.1.1.lt (by omega)) (K4.block _ F4.1.lt (by omega)) (K4.block _ F4.lt (by omega))
          · exact G4.trans' K4 (fun k hk e => by show DT w b k; unfold DT; omega)
        have HF := hyd fin
        clear O3 O4 O hg4 hat fin hk1
        gi_wp2_with fail
        · exact HF.out _ (by omega) _ rfl
        · exact HF.out _ (by omega) _ rfl
  case done =>
    rintro D ys W hD rfl ⟨hne, -⟩ hK
    have h3 : (⟨3, by decide⟩ : Ix) ∈ upto 4 := by decide
    exact absurd rfl (hne _ h3)
  case stop =>
    rintro D cc pre W hD ⟨kk, hkk, rfl⟩ (⟨rfl, pr, e1, hne, v, rs, hA, y5, O, hv, y6, F, hG⟩ | ⟨rfl, i, h1, h2, h3, h4, h5, h6, h7⟩) hK
    · have hpr : pr = upto 3 ∧ kk = 4 := by
        have hl : kk = pr.length + 1 := by
          have := congrArg List.length e1
          rw [upto_length kk hkk, List.length_append] at this
          exact this
        have h2 : kk = 4 := by
          obtain ⟨k', rfl⟩ : ∃ k', kk = k' + 1 := ⟨pr.length, hl⟩
          rw [upto_succ k' (by omega)] at e1
          have e5 := (List.append_inj' e1 rfl).2
          have e6 : (⟨k', by omega⟩ : Ix) = ix3 := by simpa using e5
          have : k' = 3 := congrArg Subtype.val e6
          omega
        subst h2
        rw [upto_succ 3 (by omega)] at e1
        exact ⟨((List.append_inj' e1 rfl).1).symm, rfl⟩
      obtain ⟨rfl, rfl⟩ := hpr
      have hrl := hA.length
      have hdl := hA.dat_length
      rw [upto_length 3 (by omega)] at hrl hdl
      match rs, hrl, hA with
      | [r0, r1, r2], _, hA =>
        obtain ⟨t0, t1, t2, -⟩ : Good L 0 r0 ∧ Good L 1 r1 ∧ Good L 2 r2 ∧ True := ⟨hA.1, hA.2.1, hA.2.2.1, trivial⟩
        have ed : dat [r0, r1, r2] = r0.1 ++ r1.1 ++ r2.1 := by simp [dat]
        have em : mx [r0, r1, r2] = max (max r0.2 r1.2) r2.2 := by simp [mx]
        rw [ed] at O hdl
        rw [em] at y6
        obtain ⟨g4, c4, hv4, -⟩ := O.lies (by omega)
        rw [hdl] at hv4
        subst hv4
        have y1 : Boxed W (w.heap.size + 1) 55 (.slice none 0 0) := (hG.block _ x1.lt (by unfold DT; omega)).trans x1
        have y2 : Boxed W (w.heap.size + 1 + 1) 3 (.int .i64 0) := (hG.block _ x2.lt (by unfold DT; omega)).trans x2
        have y3 : Boxed W (w.heap.size + 1 + 1 + 1) 32 .nilIface := (hG.block _ x3.lt (by unfold DT; omega)).trans x3
        obtain ⟨k1, k2, k3, k4⟩ := st3_facts y1 y2 y3 (.slice (some ⟨g4, 0, none⟩) 174 c4) (.int .i64 ((max (max r0.2 r1.2) r2.2 : Nat) : Int)) .nilIface (by omega) (by omega) (by omega)
        have c1 := y1.cell
        have c2 := y2.cell
        have c3 := y3.cell
        have c5 := y5.cell
        have c6 := y6.cell
        have f1 := y1.frozen
        have f2 := y2.frozen
        have f3 := y3.frozen
        have hgv := hv g4 rfl
        have HO := hyd O
        have HF := hyd F
        have HG := hyd hG
        obtain ⟨M, hM⟩ : ∃ M, max (max r0.2 r1.2) r2.2 = M := ⟨_, rfl⟩
        rw [hM] at k1 k2 k3 k4 c6 y6
        have HM := hyd hM
        clear hM
        clear O F hG hA
        gi_wp2_with fail
        gi_region
        have hY : ((W.setCell ⟨w.heap.size + 1, 0, none⟩ (.slice (some ⟨g4, 0, none⟩) 174 c4)).setCell ⟨w.heap.size + 1 + 1, 0, none⟩ (.int .i64 (M : Int))).setCell ⟨w.heap.size + 1 + 1 + 1, 0, none⟩ .nilIface = st3 W (w.heap.size + 1) (w.heap.size + 1 + 1) (w.heap.size + 1 + 1 + 1) (.slice (some ⟨g4, 0, none⟩) 174 c4) (.int .i64 (M : Int)) .nilIface := rfl
        rw [hY]
        clear hY
        have hK2 : (st3 W (w.heap.size + 1) (w.heap.size + 1 + 1) (w.heap.size + 1 + 1 + 1) (.slice (some ⟨g4, 0, none⟩) 174 c4) (.int .i64 (M : Int)) .nilIface).heap[D]? = some (.deferred (some [])) := (k4.block D (Array.getElem?_eq_some_iff.1 hK).1 (by omega)).trans hK
        have F5 := HF.out.other (k4.block _ HF.out.1.1.lt (by omega)) (k4.block _ HF.out.1.lt (by omega)) (k4.block _ HF.out.lt (by omega))
        have O5 := HO.out.chg k4 (fun k hk he => by have : g4 = k := Option.some.inj he; omega)
        have G5 : Chg (· = b) w (st3 W (w.heap.size + 1) (w.heap.size + 1 + 1) (w.heap.size + 1 + 1 + 1) (.slice (some ⟨g4, 0, none⟩) 174 c4) (.int .i64 (M : Int)) .nilIface) := ((G1.mono (T := (· = b)) (fun _ _ e => e.elim)).trans' HG.out (fun k hk e => by unfold DT at e; omega)).trans' k4 (fun k hk e => by omega)
        generalize st3 W (w.heap.size + 1) (w.heap.size + 1 + 1) (w.heap.size + 1 + 1 + 1) (.slice (some ⟨g4, 0, none⟩) 174 c4) (.int .i64 (M : Int)) .nilIface = Y at *
        gi_wp2_with fail
        refine ⟨by simp, .inl ⟨_, _, rfl, run_takeDeferred (w := Y.drew) hK2, ?_⟩⟩
        have hkp : Keeps Y (Y.drew.putObj D (.deferred none)) := put_kept (X := Y.drew) (.deferred none) hK2 rfl
        have G6 := G5.drew.grown (grownBy_putObj' Y.drew D (.deferred none)) (fun k e => Or.inr (by cases e; omega))
        exact ⟨_, results3 rfl _ rfl rfl rfl (boxed_keep k1 hkp) (boxed_keep k2 hkp) (boxed_keep k3 hkp), Or.inr ⟨r0, r1, r2, _, c4, t0, t1, t2, by rw [HM.out], O5.keeps hkp⟩, F5.keep hkp, ⟨G6.os, G6.tape, G6.output, G6.size, G6.block⟩⟩
    · gi_wp2
      refine ⟨by simp, .inl ⟨_, _, rfl, run_takeDeferred hK, ?_⟩⟩
      have hkp := put_kept (.deferred none) hK rfl
      have G5 := ((G1.mono (T := (· = b)) (fun _ _ e => e.elim)).trans' h7 (fun k hk e => by unfold DS at e; omega)).grown (grownBy_putObj' W D (.deferred none)) (fun k e => Or.inr (by cases e; omega))
      exact ⟨_, results3 rfl _ rfl rfl rfl (boxed_keep h3 hkp) (boxed_keep h4 hkp) (boxed_keep h5 hkp), Or.inl ⟨i, h1, h2, rfl⟩, h6.keep hkp, ⟨G5.os, G5.tape, G5.output, G5.size, G5.block⟩⟩
end Go.Proofs.YtifjmilegogbaaaGreat
namespace Go.Proofs.YtifjmilegogbaaaGreat
open Go.RowKit Go.Shelf
set_option maxRecDepth 100000

theorem eql_mark_mark (w : World) : (binOp .eql 32 (.iface 58 (.int .i64 6)) (.iface 58 (.int .i64 6))).run Tryz.prog w = .ok (.bool true) w := by kernel_rfl
theorem eql_mark_nil (w : World) : (binOp .eql 32 (.iface 58 (.int .i64 6)) .nilIface).run Tryz.prog w = .ok (.bool false) w := by kernel_rfl
theorem eql_mark_dec (w : World) : (binOp .eql 32 (.iface 58 (.int .i64 6)) (.iface 58 (.int .i64 5))).run Tryz.prog w = .ok (.bool false) w := by kernel_rfl
theorem neq_mark_nil (w : World) : (binOp .neq 32 (.iface 58 (.int .i64 6)) .nilIface).run Tryz.prog w = .ok (.bool true) w := by kernel_rfl
theorem neq_mark_dec (w : World) : (binOp .neq 32 (.iface 58 (.int .i64 6)) (.iface 58 (.int .i64 5))).run Tryz.prog w = .ok (.bool true) w := by kernel_rfl

set_option maxHeartbeats 1000000 in
theorem body_arg (p : Nat) (w : World) (a : Option Addr) (n cap : Nat) (hn : n ≠ 256) :
    Calls Tryz.prog 112 #[.pointer (some ⟨p, 0, none⟩), .slice a n cap] w fun e w' => e = .returned (.tuple #[.slice none 0 0, .int .i64 0, .iface 58 (.int .i64 1)]) ∧ Chg (fun _ => False) w w' := by
  have q1 := neq_arg_nil
  go_enter Tryz.func112, Tryz.ntmps112
  go_wp2_with fail
  refine (message_arg p w a n cap 3 hn).mono ?_
  rintro e w1 ⟨rfl, G1⟩
  go_wp2
  go_ret3
  exact ⟨rfl, G1⟩

/-- What Body answers of the page L. -/
def BodyAns (w w' : World) (L : List Nat) (e : Ending) : Prop :=
  (IsDec (part 64 L 3) none ∧ e = .returned (.tuple #[.slice none 0 0, .int .i64 0, .iface 58 (.int .i64 5)])) ∨
  (∃ r : List Nat × Nat, Good L 3 r ∧ r.1.drop 50 ≠ mk ∧ e = .returned (.tuple #[.slice none 0 0, .int .i64 0, .iface 58 (.int .i64 6)])) ∨
  (∃ (r : List Nat × Nat) (g : Nat), Good L 3 r ∧ r.1.drop 50 = mk ∧ e = .returned (.tuple #[.slice (some ⟨g, 0, none⟩) 50 50, .int .i64 (r.2 : Int), .nilIface]) ∧ w.heap.size ≤ g ∧ Arr w' g 5 r.1)

set_option maxHeartbeats 2000000 in
theorem body_any (p q b : Nat) (w : World) (h : Frm w p q b) (c o cap : Nat) (L : List Nat) (hL : L.length = 256) (bL : Bys L) (hcb : c ≠ b) (hcs : c < w.heap.size) (hcap : 256 ≤ cap)
    (hcell : ∀ i, i < 256 → w.cell? ⟨c, o + i, none⟩ = some (.int .u8 (L.getD i 0 : Nat))) :
    Calls Tryz.prog 112 #[.pointer (some ⟨p, 0, none⟩), .slice (some ⟨c, o, none⟩) 256 cap] w fun e w' => BodyAns w w' L e ∧ Frm w' p q b ∧ But b w w' := by
  have HM := hyd (message_any p q b w h c o cap L hL bL hcb hcs hcap hcell 3)
  clear hcell
  have q1 := neq_dec_nil
  have q2 := neq_nil_nil
  have q3 := neq_mark_nil
  go_enter Tryz.func112, Tryz.ntmps112
  go_wp2_with fail
  refine HM.out.mono ?_
  rintro e w1 ⟨hD, F1, B1⟩
  clear HM
  have hs1 := B1.size
  rcases hD with ⟨i, hi, e3, hD⟩ | ⟨hD, -⟩
  · have : i = 3 := by omega
    subst this
    rcases hD with ⟨hN, rfl⟩ | ⟨m, d, g, h1, h2, h3, h4, rfl, h6, h7⟩
    · go_wp2
      go_ret3
      exact ⟨Or.inl ⟨hN, rfl⟩, F1, B1⟩
    · have hgood : Good L 3 (m, d) := ⟨h1, h3, h4, h2⟩
      by_cases hm : m.drop 50 = mk
      · have HO := hyd (open_mark w1 g 0 58 (by omega) m h3 h4 h7.lt h7.at0 hm)
        go_wp2_with fail
        refine HO.out.mono ?_
        rintro e w2 ⟨g2, rfl, hg2, A2, G2⟩
        go_wp2
        go_ret3
        exact ⟨Or.inr (Or.inr ⟨(m, d), g2, hgood, hm, rfl, by omega, A2⟩), F1.chg G2, B1.trans G2.but⟩
      · have HO := hyd (open_none w1 g 0 58 (by omega) m h3 h4 h7.at0 hm)
        go_wp2_with fail
        refine HO.out.mono ?_
        rintro e w2 ⟨rfl, rfl⟩
        go_wp2
        go_ret3
        exact ⟨Or.inr (Or.inl ⟨(m, d), hgood, hm, rfl⟩), F1, B1⟩
  · omega
end Go.Proofs.YtifjmilegogbaaaGreat
