/-
  patinaref01.Apart, its pieces: what is written over, what is grown, and what is known of it. No condition: definitions and lemmas on worlds. patinaref01.Apart: lists that came out, each its owner's, are written over and grown: it answers true. Conditions: the lists are slices of bytes in blocks of their own; there is room. patinaref01.Apart, walked: it answers true. Conditions: the lists are slices of bytes in blocks of their own; there is room. patinaref01.Apart of three lists. Conditions: they are slices of bytes in blocks of their own; none is longer than a thousand bytes. patinaref01.Lend: a copy of bytes with spare room behind it, and a second one to hold it against. Conditions: the bytes can be read; there is room. A Lent, asked: its bytes; is it as it was; its owner writes over it. Condition: it is a Lent.
-/
import Derived.Test.YtifjmilegogbaaaGreatUKnow
import Derived.Test.YtifjmilegogbaaaGreatUCod
import Derived.Deep.RegionLaw
import Derived.Deep.AppendLies
namespace Go.Proofs.YtifjmilegogbaaaGreat
set_option maxRecDepth 100000
open Go.RowKit

def ct (i k : Nat) : Nat := (37 * i + k) % 256
def tl (i k : Nat) : Nat := (100 + 37 * i + k) % 256
/-- What a list of n bytes is written over with. -/
def con (i n : Nat) : List Nat := (List.range n).map (ct i)
/-- What it is grown by, in k steps. -/
def tails (i k : Nat) : List Nat := (List.range k).map (tl i)
def ovw (i : Nat) (l : List Nat) (k : Nat) : List Nat := con i k ++ l.drop k
theorem con_length (i n : Nat) : (con i n).length = n := by simp [con]
theorem tails_length (i n : Nat) : (tails i n).length = n := by simp [tails]
theorem ovw_zero (i : Nat) (l : List Nat) : ovw i l 0 = l := by simp [ovw, con]
theorem ovw_length (i : Nat) (l : List Nat) (k : Nat) (h : k ≤ l.length) : (ovw i l k).length = l.length := by simp [ovw, con_length]; omega
theorem ovw_full (i : Nat) (l : List Nat) : ovw i l l.length = con i l.length := by simp [ovw]
theorem con_succ (i k : Nat) : con i (k + 1) = con i k ++ [ct i k] := by simp [con, List.range_succ]
theorem tails_succ (i k : Nat) : tails i (k + 1) = tails i k ++ [tl i k] := by simp [tails, List.range_succ]
theorem ovw_set (i : Nat) (l : List Nat) (k : Nat) (h : k < l.length) : (ovw i l k).set k (ct i k) = ovw i l (k + 1) := by
  unfold ovw
  rw [List.set_append_right _ _ (by rw [con_length]; omega), con_length, Nat.sub_self, con_succ, List.append_assoc]
  congr 1
  rw [List.drop_eq_getElem_cons h]
  rfl
theorem con_getD (i n k : Nat) (h : k < n) : (con i n).getD k 0 = ct i k := by
  simp [con, List.getD_eq_getElem?_getD, h]
theorem grown_getD (i n m k : Nat) (h : k < n) : (con i n ++ tails i m).getD k 0 = ct i k := by
  rw [List.getD_eq_getElem?_getD, List.getElem?_append_left (by rw [con_length]; exact h), ← List.getD_eq_getElem?_getD, con_getD i n k h]
theorem grown_getD' (i n m k : Nat) (h : k < m) : (con i n ++ tails i m).getD (n + k) 0 = tl i k := by
  rw [List.getD_eq_getElem?_getD, List.getElem?_append_right (by rw [con_length]; omega), con_length, Nat.add_sub_cancel_left]
  simp [tails, h]
theorem ct_lt (i k : Nat) : ct i k < 256 := Nat.mod_lt _ (by decide)
theorem tl_lt (i k : Nat) : tl i k < 256 := Nat.mod_lt _ (by decide)

/-- The blocks of the lists. -/
def Blk (N : Nat) (v : Nat → Value) (k : Nat) : Prop := ∃ i, i < N ∧ (v i).ownBlock = some k
/-- What is known ahead of round i. -/
structure Inv (w : World) (N base : Nat) (v : Nat → Value) (l : Nat → List Nat) (i : Nat) (wr : World) (vg : Value) (Gs : List Value) : Prop where
  le : i ≤ N
  len : Gs.length = i
  own : wr.ownsRow w.heap.size 55 1 vg i Gs
  chg : Chg (Blk N v) w wr
  done : ∀ j, j < i → Held wr (v j) (con j (l j).length) ∧ Held wr (Gs.getD j undef) (con j (l j).length ++ tails j 7) ∧
    ((Gs.getD j undef).ownBlock = (v j).ownBlock ∨ ∃ h, w.heap.size ≤ h ∧ (Gs.getD j undef).ownBlock = some h ∧ vg.ownBlock ≠ some h)
  rest : ∀ j, i ≤ j → j < N → OwnT wr base 5 (v j) (l j)
/-- What is asked of the lists. -/
structure Lists (w : World) (N base : Nat) (v : Nat → Value) (l : Nat → List Nat) : Prop where
  own : ∀ i, i < N → OwnT w base 5 (v i) (l i)
  apart : ∀ i j k, i < N → j < N → i ≠ j → (v i).ownBlock = some k → (v j).ownBlock ≠ some k

theorem Inv.start {w : World} {N base : Nat} {v : Nat → Value} {l : Nat → List Nat} (h : Lists w N base v l) : Inv w N base v l 0 w (.slice none 0 0) [] :=
  ⟨Nat.zero_le _, rfl, ⟨rfl, Or.inl ⟨rfl, rfl⟩⟩, Chg.refl _ _, fun _ hj => absurd hj (Nat.not_lt_zero _), fun j _ hj => h.own j hj⟩

theorem ownsRow_block {w : World} {base : Nat} {e : TypeId} {size : Nat} {v : Value} {n : Nat} {xs : List Value} (h : w.ownsRow base e size v n xs) {k : Nat} (hk : v.ownBlock = some k) : base ≤ k ∧ k < w.heap.size := by
  rcases h.2 with ⟨rfl, _⟩ | ⟨g, cap, cur, rfl, hb, hh, _⟩
  · cases hk
  · have e : g = k := Option.some.inj hk
    subst e
    exact ⟨hb, (Array.getElem?_eq_some_iff.1 hh).1⟩
theorem ownsRow_keep {w w' : World} {base : Nat} {e : TypeId} {size : Nat} {v : Value} {n : Nat} {xs : List Value} (h : w.ownsRow base e size v n xs) (hk : ∀ k, k < w.heap.size → v.ownBlock = some k → w'.heap[k]? = w.heap[k]?) :
    w'.ownsRow base e size v n xs := by
  refine ⟨h.1, ?_⟩
  rcases h.2 with h1 | ⟨g, cap, cur, rfl, hb, hh, r⟩
  · exact Or.inl h1
  · exact Or.inr ⟨g, cap, cur, rfl, hb, (hk g (Array.getElem?_eq_some_iff.1 hh).1 rfl).trans hh, r⟩
theorem Held.block {w : World} {v : Value} {l : List Nat} (h : Held w v l) (h0 : l.length ≠ 0) : ∃ k, v.ownBlock = some k ∧ k < w.heap.size := by
  obtain ⟨a, cap, rfl, h | ⟨g, o, rfl, hg, _⟩⟩ := h
  · exact absurd h h0
  · exact ⟨g, rfl, hg⟩

/-- The lists of the rounds behind, and the grown list, while one list is written over or grown. -/
theorem Inv.step {w : World} {N base : Nat} {v : Nat → Value} {l : Nat → List Nat} {i : Nat} {wr wx : World} {vg : Value} {Gs : List Value} (hL : Lists w N base v l) (hi : i < N)
    (h : Inv w N base v l i wr vg Gs) (hx : Chg (fun k => (v i).ownBlock = some k) wr wx) :
    wx.ownsRow w.heap.size 55 1 vg i Gs ∧ Chg (Blk N v) w wx ∧
    (∀ j, j < i → Held wx (v j) (con j (l j).length) ∧ Held wx (Gs.getD j undef) (con j (l j).length ++ tails j 7)) ∧
    (∀ j, i + 1 ≤ j → j < N → OwnT wx base 5 (v j) (l j)) := by
  have hvi : ∀ k, (v i).ownBlock = some k → k < w.heap.size := fun k hk => ((hL.own i hi).block hk).2
  refine ⟨ownsRow_keep h.own (fun k hk he => hx.block k hk (fun hh => ?_)), h.chg.trans' hx (fun k hk hh => ⟨i, hi, hh⟩), fun j hj => ⟨?_, ?_⟩, fun j h1 h2 => ?_⟩
  · have h1 := (ownsRow_block h.own he).1
    have h2 := hvi k hh
    omega
  · exact (h.done j hj).1.chg hx (fun k hk he hh => hL.apart i j k hi (by omega) (by omega) hh he)
  · refine (h.done j hj).2.1.chg hx (fun k hk he hh => ?_)
    rcases (h.done j hj).2.2 with h3 | ⟨g, hg, h3, _⟩
    · rw [h3] at he; exact hL.apart i j k hi (by omega) (by omega) hh he
    · rw [h3] at he
      have e := Option.some.inj he
      have h2 := hvi k hh
      omega
  · exact (h.rest j (by omega) h2).chg hx (fun k hk he hh => hL.apart i j k hi h2 (by omega) hh he)

/-- The round's end: the grown list takes the new one up. -/
theorem Inv.next {w : World} {N base : Nat} {v : Nat → Value} {l : Nat → List Nat} {i : Nat} {wr wx wy : World} {vg vg' v' : Value} {Gs : List Value} (hL : Lists w N base v l) (hi : i < N)
    (h : Inv w N base v l i wr vg Gs) (hx : Chg (fun k => (v i).ownBlock = some k) wr wx) (h1 : Held wx (v i) (con i (l i).length)) (h2 : OwnT wx base 5 v' (con i (l i).length ++ tails i 7))
    (hb : v'.ownBlock = (v i).ownBlock ∨ ∃ h, wr.heap.size ≤ h ∧ v'.ownBlock = some h) (o : Obj)
    (hown : wy.ownsRow w.heap.size 55 1 vg' (i + 1) (Gs ++ [v'])) (hg : (wx.alloc o).grownBy wy vg.ownBlock) (hlie : vg'.ownBlock = vg.ownBlock ∨ vg'.ownBlock = some (wx.heap.size + 1)) :
    Inv w N base v l (i + 1) wy vg' (Gs ++ [v']) := by
  obtain ⟨s1, s2, s3, s4⟩ := h.step hL hi hx
  have hvi : ∀ k, (v i).ownBlock = some k → k < w.heap.size := fun k hk => ((hL.own i hi).block hk).2
  have hgb : ∀ k, vg.ownBlock = some k → w.heap.size ≤ k ∧ k < wr.heap.size := fun k hk => ownsRow_block h.own hk
  have hws := h.chg.size
  have hxs := hx.size
  -- every block of wx but that of the grown list is as it was
  have hy : ∀ k, k < wx.heap.size → vg.ownBlock ≠ some k → wy.heap[k]? = wx.heap[k]? := fun k hk hne =>
    (hg.block k (by simp; omega) (fun e => hne e.symm)).trans (Below.heap_alloc _ _ _ hk)
  have hys : wx.heap.size ≤ wy.heap.size := by have := hg.size; simp at this; omega
  have hC : Chg (fun k => vg.ownBlock = some k) wx wy := ⟨hg.os, hg.tape, hg.output, hys, fun k hk hne => hy k hk hne⟩
  have hGl : ∀ j, j < i → (Gs ++ [v']).getD j undef = Gs.getD j undef := fun j hj => by
    rw [List.getD_eq_getElem?_getD, List.getElem?_append_left (by rw [h.len]; exact hj), ← List.getD_eq_getElem?_getD]
  have hGi : (Gs ++ [v']).getD i undef = v' := by
    rw [List.getD_eq_getElem?_getD, List.getElem?_append_right (by rw [h.len]; omega), h.len, Nat.sub_self]; rfl
  refine ⟨by omega, by simp [h.len], hown, s2.trans' hC (fun k hk hh => ?_), fun j hj => ?_, fun j h3 h4 => (s4 j h3 h4).chg hC (fun k hk he hh => ?_)⟩
  · have := (hgb k hh).1; omega
  · by_cases hji : j < i
    · rw [hGl j hji]
      refine ⟨(s3 j hji).1.chg hC (fun k hk he hh => ?_), (s3 j hji).2.chg hC (fun k hk he hh => ?_), ?_⟩
      · have h5 := ((hL.own j (by omega)).block he).2
        have := (hgb k hh).1; omega
      · rcases (h.done j hji).2.2 with h3 | ⟨g, hg1, h3, h4⟩
        · rw [h3] at he
          have h5 := ((hL.own j (by omega)).block he).2
          have := (hgb k hh).1; omega
        · rw [h3] at he
          have e := Option.some.inj he
          subst e
          exact h4 hh
      · rcases (h.done j hji).2.2 with h3 | ⟨g, hg1, h3, h4⟩
        · exact Or.inl h3
        · refine Or.inr ⟨g, hg1, h3, ?_⟩
          rcases hlie with h5 | h5
          · rw [h5]; exact h4
          · rw [h5]
            intro e
            have e := Option.some.inj e
            obtain ⟨k, hk1, hk2⟩ := (h.done j hji).2.1.block (by rw [List.length_append, tails_length]; omega)
            rw [h3] at hk1
            have := Option.some.inj hk1
            omega
    · have e : j = i := by omega
      subst e
      rw [hGi]
      refine ⟨h1.chg hC (fun k hk he hh => ?_), h2.held.chg hC (fun k hk he hh => ?_), ?_⟩
      · have h5 := hvi k he
        have := (hgb k hh).1; omega
      · rcases hb with h3 | ⟨g, hg1, h3⟩
        · rw [h3] at he
          have h5 := hvi k he
          have := (hgb k hh).1; omega
        · rw [h3] at he
          have e := Option.some.inj he
          have := (hgb k hh).2; omega
      · rcases hb with h3 | ⟨g, hg1, h3⟩
        · exact Or.inl h3
        · refine Or.inr ⟨g, by omega, h3, ?_⟩
          rcases hlie with h5 | h5
          · rw [h5]
            intro e
            have := (hgb g e).2; omega
          · rw [h5]
            intro e
            have e := Option.some.inj e
            have h6 := (h2.block h3).2
            omega
  · have h5 := ((hL.own j h4).block he).2
    have := (hgb k hh).1; omega
end Go.Proofs.YtifjmilegogbaaaGreat
namespace Go.Proofs.YtifjmilegogbaaaGreat
set_option maxRecDepth 100000
open Go.RowKit

theorem Own.form {w : World} {base : Nat} {e : TypeId} {v : Value} {l : List Nat} (h : Own w base e v l) : (v = .slice none 0 0 ∧ l = []) ∨ ∃ g cap, v = .slice (some ⟨g, 0, none⟩) l.length cap ∧ base ≤ g ∧ g < w.heap.size := by
  rcases h.2 with ⟨rfl, h1⟩ | ⟨g, cap, cur, rfl, hb, hh, _⟩
  · exact Or.inl ⟨rfl, List.length_eq_zero_iff.1 h1⟩
  · exact Or.inr ⟨g, cap, rfl, hb, (Array.getElem?_eq_some_iff.1 hh).1⟩
/-- The beginning of a list that has been grown in place. -/
theorem OwnT.front {w : World} {base : Nat} {e : TypeId} {g n cap c : Nat} {l1 l2 : List Nat} (h : OwnT w base e (.slice (some ⟨g, 0, none⟩) n cap) (l1 ++ l2)) : Held w (.slice (some ⟨g, 0, none⟩) l1.length c) l1 := by
  refine ⟨_, c, rfl, ?_⟩
  by_cases h0 : l1.length = 0
  · exact Or.inl h0
  · right
    obtain ⟨g', cap', hv, hg, hs, _, hc, _⟩ := h.lies (by rw [List.length_append]; omega)
    simp only [Value.slice.injEq, Option.some.injEq, Addr.mk.injEq] at hv
    obtain ⟨⟨rfl, _, _⟩, _, _⟩ := hv
    refine ⟨g, 0, rfl, hs, fun i hi => ?_⟩
    rw [Nat.zero_add, hc i (by rw [List.length_append]; omega), List.getD_eq_getElem?_getD, List.getElem?_append_left hi, ← List.getD_eq_getElem?_getD]

/-- 'append(v, x...)', v the call's own: what v led to is as it was. -/
theorem wpList_append_keeps {P : Program} (w : World) {ops : Array Oper} {rest : List Oper} {o : Oper} {a : Act} {Q : Exit → Act → World → Prop} (hgd : o.guard = none) (s x : Operand) (t : TypeId)
    (ho : o.op = .call { callee := .builtin .append, args := #[s, x], argTypes := #[t, t] })
    (base : Nat) (e : TypeId) (ht : P.underlying t = some (.slice e)) (hi : ∃ i, P.info? e = some i ∧ i.zero = some (.int .u8 0) ∧ i.size = 1 ∧ i.bytes = 1)
    (v : Value) (l : List Nat) (hs : a.eval s = v) (hown : OwnT w base e v l)
    (ad : Addr) (m c : Nat) (l2 : List Nat) (hx : a.eval x = .slice (some ad) m c) (hm : l2.length = m)
    (hc : ∀ j, j < m → w.cell? (ad.add j) = some (.int .u8 (l2.getD j 0 : Nat)))
    (hbytes : l.length + m ≤ 140737488355328) (hbase : base ≤ w.heap.size) (h0 : 0 < m)
    (h : ∀ v' w', OwnT w' base e v' (l ++ l2) → Held w' v l → Chg (fun k => v.ownBlock = some k) w w' → (v'.ownBlock = v.ownBlock ∨ ∃ h, w.heap.size ≤ h ∧ v'.ownBlock = some h) → wpList P ops Q rest (a.put o.dst v') w') : wpList P ops Q (o :: rest) a w := by
  obtain ⟨i, hi1, hi2, hi3, hi4⟩ := hi
  have hnews : ∀ j u, (l2.map byt)[j]? = some u → w.cell? (ad.add j) = some u := by
    intro j u hu
    have hj : j < l2.length := by
      have := (List.getElem?_eq_some_iff.1 hu).1
      simpa using this
    rw [List.getElem?_map, List.getElem?_eq_getElem hj] at hu
    have e1 := hc j (by omega)
    rw [List.getD_eq_getElem?_getD, List.getElem?_eq_getElem hj] at e1
    rw [e1]
    exact hu
  have hgrow : ∀ (ao : Option Addr) (n cap : Nat), v = .slice ao n cap → l.length = n → (ao = none → n = 0 ∧ cap = 0) → (∀ ad, ao = some ad → ∀ j u, (l.map byt)[j]? = some u → w.cell? (ad.add j) = some u) → cap < n + m → wpList P ops Q (o :: rest) a w := by
    intro ao n cap hv hn hnone holds hfull
    refine wpList_append_grows w hgd s x t ho e i (.int .u8 0) 1 1 ht hi1 hi2 hi3 hi4 rfl (by decide) ao n cap (l.map byt) (hs.trans hv) hnone (by simp [hn]) holds ad m c (l2.map byt) hx (by simp [hm]) hnews (byt_one l2) hfull (by unfold maxLen; omega) (by omega) ?_
    intro v' w' h1 h2
    have hC : Chg (fun k => v.ownBlock = some k) w w' := ⟨h2.os, h2.tape, h2.output, h2.size, fun k hk _ => h2.block k hk (fun e => by cases e)⟩
    have hO : OwnT w' w.heap.size e v' (l ++ l2) := by
      refine Or.inl ?_
      unfold Own
      rw [List.length_append, hm, List.map_append, hn]
      exact h1
    refine h v' w' (hO.mono (fun k hk => Nat.le_trans hbase (hO.block hk).1)) (hown.held.keep h2.size (fun k hk _ => h2.block k hk (fun e => by cases e))) hC (Or.inr ?_)
    rcases hO.form with ⟨_, h3⟩ | ⟨g, cap', h3, h4, _⟩
    · have h5 : (l ++ l2).length = 0 := by rw [h3]; rfl
      rw [List.length_append] at h5
      omega
    · exact ⟨g, h4, by rw [h3]; rfl⟩
  rcases hown.form with ⟨hv, hl⟩ | ⟨g, cap, hv, hg, hgs⟩
  · refine hgrow none 0 0 hv (by rw [hl]; rfl) (fun _ => ⟨rfl, rfl⟩) (fun ad had => by cases had) (by omega)
  · by_cases hfit : l.length + m ≤ cap
    · have hown' : Own w base e v l := by
        rcases hown with hown | ⟨g', cur, fz, hv', _⟩
        · exact hown
        · rw [hv] at hv'
          simp only [Value.slice.injEq] at hv'
          omega
      refine wpList_append_fits w hgd s x t ho base e i 1 ht hi1 hi3 g l.length cap (l.map byt) (hs.trans hv) (by rw [← hv]; exact hown') ad m c (l2.map byt) hx (by simp [hm]) hnews (byt_one l2) hfit ?_
      intro w' h1 h2
      have hO : OwnT w' base e (.slice (some ⟨g, 0, none⟩) (l.length + m) cap) (l ++ l2) := by
        refine Or.inl ?_
        unfold Own
        rw [List.length_append, hm, List.map_append]
        exact h1
      have hC : Chg (fun k => v.ownBlock = some k) w w' := ⟨h2.os, h2.tape, h2.output, h2.size, fun k hk hne => h2.block k hk (fun e => hne (by rw [hv]; exact e.symm))⟩
      exact h _ w' hO (by rw [hv]; exact hO.front) hC (Or.inl (by rw [hv]; rfl))
    · refine hgrow (some ⟨g, 0, none⟩) l.length cap hv rfl (fun e => by cases e) (fun ad had j u hu => ?_) (by omega)
      have had := Option.some.inj had
      subst had
      have hj : j < l.length := by
        have := (List.getElem?_eq_some_iff.1 hu).1
        simpa using this
      obtain ⟨g', cap', hv', _, _, _, hcell, _⟩ := hown.lies (by omega)
      rw [hv] at hv'
      simp only [Value.slice.injEq, Option.some.injEq, Addr.mk.injEq] at hv'
      obtain ⟨⟨rfl, _, _⟩, _, _⟩ := hv'
      rw [Addr.add_lit, Nat.zero_add, hcell j hj]
      rw [List.getElem?_map, List.getElem?_eq_getElem hj] at hu
      rw [List.getD_eq_getElem?_getD, List.getElem?_eq_getElem hj]
      exact hu

/-- The beginning of what can be read. -/
theorem Held.front {w : World} {a : Option Addr} {n cap c : Nat} {l1 l2 : List Nat} (h : Held w (.slice a n cap) (l1 ++ l2)) : Held w (.slice a l1.length c) l1 := by
  obtain ⟨a', cap', hv, h⟩ := h
  simp only [Value.slice.injEq] at hv
  obtain ⟨rfl, _, _⟩ := hv
  refine ⟨a, c, rfl, ?_⟩
  rcases h with h | ⟨g, o, rfl, hg, hc⟩
  · rw [List.length_append] at h; exact Or.inl (by omega)
  · refine Or.inr ⟨g, o, rfl, hg, fun i hi => ?_⟩
    rw [hc i (by rw [List.length_append]; omega), List.getD_eq_getElem?_getD, List.getElem?_append_left hi, ← List.getD_eq_getElem?_getD]
/-- One step of growing: what it leaves of the list that was grown first. -/
theorem grow_step {wo wy wz : World} {base : Nat} {a : Option Addr} {c : Nat} {u v2 : Value} {cI l0 t : List Nat} {x : Nat} (hform : OwnT wo base 5 (.slice a cI.length c) l0)
    (hy : Chg (fun k => (Value.slice a cI.length c).ownBlock = some k) wo wy) (hyh : Held wy (.slice a cI.length c) cI) (hyo : OwnT wy base 5 u (cI ++ t))
    (hyb : u.ownBlock = (Value.slice a cI.length c).ownBlock ∨ ∃ h, wo.heap.size ≤ h ∧ u.ownBlock = some h) (o : Obj)
    (hH2 : Held wz u (cI ++ t)) (hC2 : Chg (fun k => u.ownBlock = some k) (wy.alloc o) wz) (hB2 : v2.ownBlock = u.ownBlock ∨ ∃ h, wy.heap.size + 1 ≤ h ∧ v2.ownBlock = some h) (_hO2 : OwnT wz base 5 v2 (cI ++ (t ++ [x]))) :
    Chg (fun k => (Value.slice a cI.length c).ownBlock = some k) wo wz ∧ Held wz (.slice a cI.length c) cI ∧ (v2.ownBlock = (Value.slice a cI.length c).ownBlock ∨ ∃ h, wo.heap.size ≤ h ∧ v2.ownBlock = some h) := by
  have hys := hy.size
  have hC : Chg (fun k => u.ownBlock = some k) wy wz := ((Chg.refl _ wy).alloc o).trans hC2
  refine ⟨hy.trans' hC (fun k hk hu => ?_), ?_, ?_⟩
  · rcases hyb with h | ⟨g, hg, h⟩
    · rw [← h]; exact hu
    · rw [h] at hu
      have := Option.some.inj hu
      omega
  · rcases hyb with h | ⟨g, hg, h⟩
    · rcases hyo.form with ⟨hu, hl⟩ | ⟨g, cap, hu, _, _⟩
      · refine ⟨a, c, rfl, Or.inl ?_⟩
        have := congrArg List.length hl
        rw [List.length_append] at this
        simp at this
        rw [this.1]; rfl
      · rw [hu] at h hH2
        rcases hform.form with ⟨hv, _⟩ | ⟨g2, cap2, hv, _, _⟩
        · rw [hv] at h; cases h
        · simp only [Value.slice.injEq] at hv
          rw [hv.1] at h ⊢
          have e : g = g2 := Option.some.inj h
          subst e
          exact hH2.front
    · refine hyh.chg hC (fun k hk he hu => ?_)
      rw [h] at hu
      have := Option.some.inj hu
      have h2 := (hform.block he).2
      omega
  · rcases hB2 with h2 | ⟨g2, hg2, h2⟩
    · rcases hyb with h | ⟨g, hg, h⟩
      · exact Or.inl (h2.trans h)
      · exact Or.inr ⟨g, hg, h2.trans h⟩
    · exact Or.inr ⟨g2, by omega, h2⟩
end Go.Proofs.YtifjmilegogbaaaGreat
namespace Go.Proofs.YtifjmilegogbaaaGreat
set_option maxRecDepth 100000
open Go.RowKit

theorem info39_all : (Tryz.prog.info? 55).map (fun i => (i.zero, i.size, i.bytes)) = some (some (.slice none 0 0), 1, 24) := by kernel_rfl

theorem ct_int (i k : Nat) : ((37 * (i : Int) + (k : Int)) % 256) = ((ct i k : Nat) : Int) := by unfold ct; omega
theorem tl_int (i k : Nat) : ((100 + 37 * (i : Int) + (k : Int)) % 256) = ((tl i k : Nat) : Int) := by unfold tl; omega

end Go.Proofs.YtifjmilegogbaaaGreat
namespace Go.Proofs.YtifjmilegogbaaaGreat
open Go.RowKit
set_option maxRecDepth 100000

/-- One of three. -/
def pick3 {α : Type} (x y z : α) (i : Nat) : α := if i = 0 then x else if i = 1 then y else z
theorem three {i : Nat} (h : i < 3) : i = 0 ∨ i = 1 ∨ i = 2 := by omega
end Go.Proofs.YtifjmilegogbaaaGreat
namespace Go.Proofs.YtifjmilegogbaaaGreat
set_option maxRecDepth 100000
open Go.RowKit

/-- The marks behind a list that is lent. -/
def mrk (k : Nat) : List Nat := (List.range k).map (70 + ·)
theorem mrk_succ (k : Nat) : mrk (k + 1) = mrk k ++ [70 + k] := by simp [mrk, List.range_succ]
theorem mrk_length (k : Nat) : (mrk k).length = k := by simp [mrk]
/-- A Lent: its three cells lie in block s; the list in block f, the list that it is held against in block g. -/
def LentAt (w : World) (base s f g : Nat) (l m : List Nat) (n : Nat) : Prop :=
  ∃ cf cg, w.heap[s]? = some (.cells #[.slice (some ⟨f, 0, none⟩) l.length cf, .slice (some ⟨g, 0, none⟩) m.length cg, .int .i64 (n : Int)] 131) ∧
    Own w base 5 (.slice (some ⟨f, 0, none⟩) l.length cf) l ∧ Own w base 5 (.slice (some ⟨g, 0, none⟩) m.length cg) m ∧ f ≠ g ∧ f ≠ s ∧ g ≠ s ∧ base ≤ s
theorem zero_lent (w : World) : (zeroValue 131).run Tryz.prog w = .ok (.agg #[.slice none 0 0, .slice none 0 0, .int .i64 0]) w := by kernel_rfl

/-- Block s holds these three cells. -/
def Tri (w : World) (s : Nat) (x0 x1 x2 : Value) : Prop := w.heap[s]? = some (.cells #[x0, x1, x2] 131)
theorem Tri.cell0 {w : World} {s : Nat} {x0 x1 x2 : Value} (h : Tri w s x0 x1 x2) : w.cell? ⟨s, 0, none⟩ = some x0 := by have h' : w.heap[s]? = some (.cells #[x0, x1, x2] 131) := h; simp [World.cell?, h']
theorem Tri.cell1 {w : World} {s : Nat} {x0 x1 x2 : Value} (h : Tri w s x0 x1 x2) : w.cell? ⟨s, 1, none⟩ = some x1 := by have h' : w.heap[s]? = some (.cells #[x0, x1, x2] 131) := h; simp [World.cell?, h']
theorem Tri.cell2 {w : World} {s : Nat} {x0 x1 x2 : Value} (h : Tri w s x0 x1 x2) : w.cell? ⟨s, 2, none⟩ = some x2 := by have h' : w.heap[s]? = some (.cells #[x0, x1, x2] 131) := h; simp [World.cell?, h']
theorem Tri.frozen {w : World} {s : Nat} {x0 x1 x2 : Value} (h : Tri w s x0 x1 x2) (o : Nat) : w.frozen? ⟨s, o, none⟩ = false := by have h' : w.heap[s]? = some (.cells #[x0, x1, x2] 131) := h; simp [World.frozen?, h']
theorem Tri.set0 {w : World} {s : Nat} {x0 x1 x2 : Value} (h : Tri w s x0 x1 x2) (v : Value) : Tri (w.setCell ⟨s, 0, none⟩ v) s v x1 x2 := by
  have h' : w.heap[s]? = some (.cells #[x0, x1, x2] 131) := h
  show (w.setCell ⟨s, 0, none⟩ v).heap[s]? = _
  simp [World.setCell, Array.getElem?_modify, h']
theorem Tri.set1 {w : World} {s : Nat} {x0 x1 x2 : Value} (h : Tri w s x0 x1 x2) (v : Value) : Tri (w.setCell ⟨s, 1, none⟩ v) s x0 v x2 := by
  have h' : w.heap[s]? = some (.cells #[x0, x1, x2] 131) := h
  show (w.setCell ⟨s, 1, none⟩ v).heap[s]? = _
  simp [World.setCell, Array.getElem?_modify, h']
theorem Tri.lt {w : World} {s : Nat} {x0 x1 x2 : Value} (h : Tri w s x0 x1 x2) : s < w.heap.size := (Array.getElem?_eq_some_iff.1 (show w.heap[s]? = some _ from h)).1
theorem Tri.keep {w w' : World} {s : Nat} {x0 x1 x2 : Value} (h : Tri w s x0 x1 x2) (e : w'.heap[s]? = w.heap[s]?) : Tri w' s x0 x1 x2 := e.trans h
theorem Own.setOther {w : World} {base : Nat} {e : TypeId} {v : Value} {l : List Nat} (h : Own w base e v l) {s : Nat} (hs : s < base) (o : Nat) (x : Value) : Own (w.setCell ⟨s, o, none⟩ x) base e v l :=
  h.keep (fun k _ he => Below.heap_setCell _ _ _ _ (by have := (h.block he).1; simp; omega))
theorem Own.slice {w : World} {base : Nat} {e : TypeId} {v : Value} {l : List Nat} (h : Own w base e v l) : ∃ a c, v = .slice a l.length c := by
  rcases h.form with ⟨h1, h2⟩ | ⟨g, c, h1, _⟩
  · exact ⟨none, 0, by rw [h1, h2]; rfl⟩
  · exact ⟨_, c, h1⟩

set_option maxRecDepth 100000 in
set_option maxHeartbeats 2000000 in
theorem lend_any (w : World) (a : Option Addr) (l : List Nat) (cap : Nat) (hno : a = none → l.length = 0 ∧ cap = 0) (hr : Held w (.slice a l.length cap) l) (hlen : l.length ≤ 140737488351232) :
    Calls Tryz.prog 33 #[.slice a l.length cap] w fun e w' => ∃ s f g, e = .returned (.pointer (some ⟨s, 0, none⟩)) ∧ LentAt w' w.heap.size s f g (l ++ mrk 5) (l ++ mrk 5) l.length ∧ Chg (fun _ => False) w w' := by
  have hi5 := info5
  have hz := zero_lent
  go_enter Tryz.func33, Tryz.ntmps33
  go_wp2_with (at_builtin; refine wpList_append_bytes _ rfl _ _ 55 rfl (w.heap.size + 1) 5 Tryz.underlying55 hi5 _ [] rfl ?h1 a l.length cap l rfl rfl hno ?h2 ?h3 ?h4 (w.heap.size + 1) ?h5 ?_)
  case h1 => exact Own.nil _ _ _
  case h2 =>
    intro ad had j hj
    subst had
    obtain ⟨a', c', hv, h | ⟨g, o, ha, hg, hc⟩⟩ := hr
    · omega
    · simp only [Value.slice.injEq] at hv
      have e := Option.some.inj (hv.1.trans ha)
      subst e
      rw [Addr.add_lit, World.cell?_alloc_past _ _ _ hg]
      exact hc j hj
  case h3 => show 0 + l.length ≤ _; omega
  case h4 => simp
  case h5 => simp
  intro v1 w1 hO1 hg1 _
  have hT1 : Tri w1 w.heap.size (.slice none 0 0) (.slice none 0 0) (.int .i64 (l.length : Int)) := (hg1.block w.heap.size (by simp) (by simp [Value.ownBlock])).trans (by show (w.heap.push _)[w.heap.size]? = _; simp)
  have hC1 : Chg (fun _ => False) w w1 := ((Chg.refl _ w).alloc _).grown hg1 (fun k hk => by cases hk)
  obtain ⟨a1, c1, hv1⟩ := hO1.slice
  rw [hv1] at hO1
  rw [hv1]
  have t0 := hT1.cell0
  have z0 := hT1.frozen 0
  have hT2 := hT1.set0 (.slice a1 l.length c1)
  have hO2 := hO1.setOther (Nat.lt_succ_self _) 0 (.slice a1 l.length c1)
  have hC2 := hC1.setCell (Or.inr (Nat.le_refl _)) 0 (.slice a1 l.length c1)
  clear hg1 hT1 hC1 hO1
  go_wp2
  go_loopw [4] (fun t wr => ∃ (k : Nat) (a' : Option Addr) (c' : Nat), k ≤ 5 ∧ t = .int .i64 k ∧ Tri wr w.heap.size (.slice a' (l.length + k) c') (.slice none 0 0) (.int .i64 (l.length : Int)) ∧
    Own wr (w.heap.size + 1) 5 (.slice a' (l.length + k) c') (l ++ mrk k) ∧ Chg (fun _ => False) w wr) (fun t _ => 5 - (intOf t).toNat)
  case atStart => exact ⟨0, a1, c1, by omega, rfl, hT2, by simpa [mrk] using hO2, hC2⟩
  case round =>
    clear hT2 hO2 hC2 t0 z0
    obtain ⟨k, a', c', hk, rfl, hT, hO, hC⟩ := hrel
    have hsl := hT.lt
    by_cases hk5 : k < 5
    · have t0 := hT.cell0
      have hml : (l ++ mrk k).length = l.length + k := by rw [List.length_append, mrk_length]
      go_wp2_with (at_builtin; refine wpList_append_bytes _ rfl _ _ 55 rfl (w.heap.size + 1) 5 Tryz.underlying55 hi5 _ (l ++ mrk k) rfl ?h1 (some ⟨wr.heap.size, 0, none⟩) 1 1 [70 + k] rfl rfl (by simp) ?h2 ?h3 ?h4 (wr.heap.size + 1) ?h5 ?_)
      case h1 => exact hO.keep (fun k hk _ => Below.heap_alloc _ _ _ hk)
      case h2 =>
        intro ad had j hj
        have e := Option.some.inj had
        subst e
        have e : j = 0 := by omega
        subst e
        rw [Addr.add_lit]
        simp
      case h3 => rw [hml]; omega
      case h4 => simp; omega
      case h5 => simp
      intro v2 w2 hO2 hg2 _
      have hrow : ∀ j, (Value.slice a' (l.length + k) c').ownBlock = some j → w.heap.size + 1 ≤ j := fun j hj => (hO.block hj).1
      have hT2 : Tri w2 w.heap.size (.slice a' (l.length + k) c') (.slice none 0 0) (.int .i64 (l.length : Int)) :=
        hT.keep ((hg2.block w.heap.size (by simp; omega) (fun e => by have := hrow _ e.symm; omega)).trans (Below.heap_alloc _ _ _ hsl))
      have hC2 : Chg (fun _ => False) w w2 := (hC.alloc _).grown hg2 (fun j hj => Or.inr (by have := hrow j hj; omega))
      have hO3 : Own w2 (w.heap.size + 1) 5 v2 (l ++ mrk (k + 1)) := by rw [mrk_succ]; exact hO2
      obtain ⟨a2, c2, hv2⟩ := hO3.slice
      rw [List.length_append, mrk_length] at hv2
      rw [hv2] at hO3
      rw [hv2]
      have t2 := hT2.cell0
      have z2 := hT2.frozen 0
      have hT4 := hT2.set0 (.slice a2 (l.length + (k + 1)) c2)
      have hO4 := hO3.setOther (Nat.lt_succ_self _) 0 (.slice a2 (l.length + (k + 1)) c2)
      have hC4 := hC2.setCell (Or.inr (Nat.le_refl _)) 0 (.slice a2 (l.length + (k + 1)) c2)
      clear hO2 hg2 hT2 hC2 hO3 hT hO hC t0 hrow
      go_wp2
      exact ⟨⟨k + 1, a2, c2, by omega, by go_num, hT4, hO4, hC4⟩, by simp [intOf]; omega⟩
    · have e : k = 5 := by omega
      subst e
      have hml : (l ++ mrk 5).length = l.length + 5 := by rw [List.length_append, mrk_length]
      obtain ⟨f, cf, hv, hf1, hf2, _, hfc, _⟩ := hO.lies (by omega)
      rw [hml] at hv
      simp only [Value.slice.injEq] at hv
      obtain ⟨rfl, _, rfl⟩ := hv
      obtain ⟨i0, q1, q2, q3, q4⟩ := info5
      have t0 := hT.cell0
      have t1 := hT.cell1
      have z1 := hT.frozen 1
      have hnw : ∀ j u, ((l ++ mrk 5).map byt)[j]? = some u → wr.cell? ⟨f, j, none⟩ = some u := by
        intro j u hu
        have hj : j < (l ++ mrk 5).length := by
          have := (List.getElem?_eq_some_iff.1 hu).1
          rw [List.length_map] at this; exact this
        rw [hfc j hj]
        rw [List.getElem?_map, List.getElem?_eq_getElem hj] at hu
        rw [List.getD_eq_getElem?_getD, List.getElem?_eq_getElem hj]
        exact hu
      have hnl : ((l ++ mrk 5).map byt).length = (l.length + 5) * 1 := by rw [List.length_map, hml, Nat.mul_one]
      have HNW : Hid (∀ j u, ((l ++ mrk 5).map byt)[j]? = some u → wr.cell? ⟨f, j, none⟩ = some u) := hnw
      clear hnw hfc
      go_wp2
      go_region_law ((refine step_append_lies _ (by rfl) _ _ 55 (by rfl) (w.heap.size + 1) 5 i0 (.int .u8 0) 1 1 Tryz.underlying55 q1 q2 q3 q4 rfl (by decide) (.slice none 0 0) 0 [] (by rfl) ⟨rfl, Or.inl ⟨rfl, rfl⟩⟩ ⟨f, 0, none⟩ (l.length + 5) c' ((l ++ mrk 5).map byt) (by rfl) hnl (fun j u hu => (by rw [Addr.add_lit, Nat.zero_add]; exact HNW.out j u hu)) (byt_one _) (by omega) (by unfold maxLen; omega) (by omega) (by exact hsl) wr.heap.size rfl ?_; intro g cg w2 hO2 hg2 hat hlt; have hT2 : Tri w2 w.heap.size (.slice (some ⟨f, 0, none⟩) (l.length + 5) c') (.slice none 0 0) (.int .i64 (l.length : Int)) := hT.keep (hg2.block w.heap.size hsl (by simp [Value.ownBlock])); have t3 := hT2.cell1; have z3 := hT2.frozen 1))
      all_goals
        have hgw : g = wr.heap.size := by
          rcases hat with h | h
          · cases h
          · exact h
        have hOf : Own w2 (w.heap.size + 1) 5 (.slice (some ⟨f, 0, none⟩) (l.length + 5) c') (l ++ mrk 5) := hO.keep (fun k hk _ => hg2.block k hk (by simp [Value.ownBlock]))
        have hOg : Own w2 (w.heap.size + 1) 5 (.slice (some ⟨g, 0, none⟩) (l.length + 5) cg) (l ++ mrk 5) := by
          unfold Own
          rw [hml]
          rw [Nat.zero_add, List.nil_append] at hO2
          exact hO2
        have hT3 := hT2.set1 (.slice (some ⟨g, 0, none⟩) (l.length + 5) cg)
        have hOf3 := hOf.setOther (Nat.lt_succ_self _) 1 (.slice (some ⟨g, 0, none⟩) (l.length + 5) cg)
        have hOg3 := hOg.setOther (Nat.lt_succ_self _) 1 (.slice (some ⟨g, 0, none⟩) (l.length + 5) cg)
        have hC3 : Chg (fun _ => False) w (w2.setCell ⟨w.heap.size, 1, none⟩ (.slice (some ⟨g, 0, none⟩) (l.length + 5) cg)) := (hC.drew.grown hg2 (fun j hj => by cases hj)).setCell (Or.inr (Nat.le_refl _)) 1 _
        have hL3 : LentAt (w2.setCell ⟨w.heap.size, 1, none⟩ (.slice (some ⟨g, 0, none⟩) (l.length + 5) cg)) w.heap.size w.heap.size f g (l ++ mrk 5) (l ++ mrk 5) l.length := by
          refine ⟨c', cg, ?_, ?_, ?_, by omega, by omega, by omega, Nat.le_refl _⟩
          · rw [hml]; exact hT3
          · rw [hml]; exact hOf3.mono (fun k hk => by have := (hOf3.block hk).1; omega)
          · rw [hml]; exact hOg3.mono (fun k hk => by have := (hOg3.block hk).1; omega)
        clear hOf hOg hT3 hOf3 hOg3 hO2 hg2 hat hT2 t3 z3 hO hT hC t0 t1 z1 HNW hnl q1 q2 q3 q4
        go_wp2
        go_ret
        exact ⟨_, _, _, rfl, hL3, hC3⟩
end Go.Proofs.YtifjmilegogbaaaGreat
namespace Go.Proofs.YtifjmilegogbaaaGreat
set_option maxRecDepth 100000
open Go.RowKit

theorem hid {p : Prop} (h : p) : Hid p := h
theorem LentAt.chg {S : Nat → Prop} {w w' : World} {base s f g n : Nat} {l m : List Nat} (h : LentAt w base s f g l m n) (hc : Chg S w w') (hs : ¬ S s) (hf : ¬ S f) (hg : ¬ S g) : LentAt w' base s f g l m n := by
  obtain ⟨cf, cg, h1, h2, h3, r⟩ := h
  have hlt : s < w.heap.size := (Array.getElem?_eq_some_iff.1 h1).1
  exact ⟨cf, cg, (hc.block s hlt hs).trans h1, h2.chg hc (fun k _ he => by have := Option.some.inj he; subst this; exact hf), h3.chg hc (fun k _ he => by have := Option.some.inj he; subst this; exact hg), r⟩
theorem LentAt.lts {w : World} {base s f g n : Nat} {l m : List Nat} (h : LentAt w base s f g l m n) : base ≤ s ∧ base ≤ f ∧ base ≤ g ∧ s < w.heap.size ∧ f < w.heap.size ∧ g < w.heap.size := by
  obtain ⟨cf, cg, h1, h2, h3, _, _, _, hb⟩ := h
  have hlt : s < w.heap.size := (Array.getElem?_eq_some_iff.1 h1).1
  have e1 := h2.block (k := f) rfl
  have e2 := h3.block (k := g) rfl
  omega

set_option maxRecDepth 100000 in
set_option maxHeartbeats 1000000 in
theorem bytes_any (w : World) (base s f g n : Nat) (l m : List Nat) (h : LentAt w base s f g l m n) (hn : n ≤ l.length) (h0 : l.length ≠ 0) (hl : l.length ≤ 9223372036854775807) :
    Calls Tryz.prog 34 #[.pointer (some ⟨s, 0, none⟩)] w fun e w' => ∃ cf, e = .returned (.slice (some ⟨f, 0, none⟩) n cf) ∧ Held w (.slice (some ⟨f, 0, none⟩) n cf) (l.take n) ∧ n ≤ cf ∧ Chg (fun _ => False) w w' := by
  obtain ⟨cf, cg, h1, h2, h3, _⟩ := h
  have hT : Tri w s _ _ _ := h1
  have t0 := hT.cell0
  have t2 := hT.cell2
  obtain ⟨g', cap', hv, _, hgs, hcap, hc, _⟩ := h2.lies h0
  simp only [Value.slice.injEq, Option.some.injEq, Addr.mk.injEq] at hv
  obtain ⟨⟨rfl, -, -⟩, -, rfl⟩ := hv
  have hH : Held w (.slice (some ⟨f, 0, none⟩) n cf) (l.take n) := by
    have e : (l.take n).length = n := by rw [List.length_take]; omega
    refine ⟨_, cf, by rw [e], ?_⟩
    by_cases hn0 : n = 0
    · exact Or.inl (by omega)
    · refine Or.inr ⟨f, 0, rfl, hgs, fun i hi => ?_⟩
      rw [Nat.zero_add, hc i (by omega), List.getD_eq_getElem?_getD, List.getD_eq_getElem?_getD, List.getElem?_take_of_lt (by omega)]
  have hb1 : (0 : Int) ≤ (n : Int) := by omega
  have hb2 : (n : Int) ≤ (cf : Int) := by omega
  clear h1 h2 h3 hT hc
  go_enter Tryz.func34, Tryz.ntmps34
  go_wp2
  go_region
  go_wp2
  go_ret
  exact ⟨cf, rfl, hH, by omega, (Chg.refl _ _).drew⟩

set_option maxRecDepth 100000 in
set_option maxHeartbeats 1000000 in
theorem kept_any (w : World) (base s f g n : Nat) (l m : List Nat) (h : LentAt w base s f g l m n) (hl : l.length ≤ 9223372036854775807) (hm : m.length ≤ 9223372036854775807) :
    Calls Tryz.prog 35 #[.pointer (some ⟨s, 0, none⟩)] w fun e w' => e = .returned (.bool (decide (l = m))) ∧ Chg (fun _ => False) w w' := by
  obtain ⟨cf, cg, h1, h2, h3, _⟩ := h
  have hT : Tri w s _ _ _ := h1
  have t0 := hT.cell0
  have t1 := hT.cell1
  have hh2 := h2.held
  have hh3 := h3.held
  clear h1 h2 h3 hT
  go_enter Tryz.func35, Tryz.ntmps35
  go_wp2
  go_region_with (go_at_call 24; refine (same_any _ (some ⟨f, 0, none⟩) (some ⟨g, 0, none⟩) cf cg l m ?_ ?_ hl hm).mono ?_; (exact hh2); (exact hh3); rintro e w' ⟨rfl, hC⟩)
  all_goals
    go_wp2
    go_ret
    exact ⟨rfl, ((Chg.refl _ w).drew).trans hC⟩

/-- What a list is written over with. -/
def trn (k : Nat) : List Nat := (List.range k).map (fun i => (90 + i) % 256)
theorem trn_length (k : Nat) : (trn k).length = k := by simp [trn]
theorem trn_succ (k : Nat) : trn (k + 1) = trn k ++ [(90 + k) % 256] := by simp [trn, List.range_succ]
def ovt (l : List Nat) (k : Nat) : List Nat := trn k ++ l.drop k
theorem ovt_zero (l : List Nat) : ovt l 0 = l := by simp [ovt, trn]
theorem ovt_length (l : List Nat) (k : Nat) (h : k ≤ l.length) : (ovt l k).length = l.length := by simp [ovt, trn_length]; omega
theorem ovt_full (l : List Nat) : ovt l l.length = trn l.length := by simp [ovt]
theorem ovt_set (l : List Nat) (k : Nat) (h : k < l.length) : (ovt l k).set k ((90 + k) % 256) = ovt l (k + 1) := by
  unfold ovt
  rw [List.set_append_right _ _ (by rw [trn_length]; omega), trn_length, Nat.sub_self, trn_succ, List.append_assoc]
  congr 1
  rw [List.drop_eq_getElem_cons h]
  rfl
theorem Own.setFar {w : World} {base : Nat} {e : TypeId} {f n c : Nat} {l : List Nat} (h : Own w base e (.slice (some ⟨f, 0, none⟩) n c) l) {s : Nat} (hs : f ≠ s) (o : Nat) (x : Value) : Own (w.setCell ⟨s, o, none⟩ x) base e (.slice (some ⟨f, 0, none⟩) n c) l :=
  h.keep (fun k _ he => Below.heap_setCell _ _ _ _ (by have := Option.some.inj he; simp only at this ⊢; omega))
theorem Tri.setFar {w : World} {s : Nat} {x0 x1 x2 : Value} (h : Tri w s x0 x1 x2) {b : Nat} (hb : s ≠ b) (o : Nat) (x : Value) : Tri (w.setCell ⟨b, o, none⟩ x) s x0 x1 x2 :=
  h.keep (Below.heap_setCell _ _ _ _ (by simp only; omega))

set_option maxRecDepth 100000 in
set_option maxHeartbeats 2000000 in
theorem turn_any (w : World) (base s f g n : Nat) (l m : List Nat) (h : LentAt w base s f g l m n) (hlm : l.length = m.length) (hl : l.length ≤ 140737488355328) :
    Calls Tryz.prog 36 #[.pointer (some ⟨s, 0, none⟩)] w fun e w' => e = .returned (.tuple #[]) ∧ LentAt w' base s f g (trn l.length) (trn l.length) n ∧ Chg (fun k => k = f ∨ k = g) w w' := by
  obtain ⟨cf, cg, h1, h2, h3, hfg, hfs, hgs, hbs⟩ := h
  have hT : Tri w s (.slice (some ⟨f, 0, none⟩) l.length cf) (.slice (some ⟨g, 0, none⟩) l.length cg) (.int .i64 (n : Int)) := by rw [hlm] at h1 ⊢; exact h1
  have hf : Own w base 5 (.slice (some ⟨f, 0, none⟩) l.length cf) l := h2
  have hg : Own w base 5 (.slice (some ⟨g, 0, none⟩) l.length cg) m := by rw [hlm]; exact h3
  have HLM : Hid (l.length = m.length) := hlm
  clear h1 h2 h3 hlm
  go_enter Tryz.func36, Tryz.ntmps36
  go_wp2
  go_loopw [2] (fun t wr => ∃ k : Nat, k ≤ l.length ∧ t = .int .i64 k ∧ Tri wr s (.slice (some ⟨f, 0, none⟩) l.length cf) (.slice (some ⟨g, 0, none⟩) l.length cg) (.int .i64 (n : Int)) ∧
    Own wr base 5 (.slice (some ⟨f, 0, none⟩) l.length cf) (ovt l k) ∧ Own wr base 5 (.slice (some ⟨g, 0, none⟩) l.length cg) (ovt m k) ∧ Chg (fun k => k = f ∨ k = g) w wr) (fun t _ => l.length - (intOf t).toNat)
  case atStart => exact ⟨0, by omega, rfl, hT, by rw [ovt_zero]; exact hf, by rw [ovt_zero]; exact hg, Chg.refl _ _⟩
  case round =>
    clear hT hf hg
    obtain ⟨k, hk, rfl, hT, hf, hg, hC⟩ := hrel
    have t0 := hT.cell0
    have t1 := hT.cell1
    by_cases hlt : k < l.length
    · have e1 := ovt_length l k hk
      have e2 := ovt_length m k (by have := HLM.out; omega)
      obtain ⟨g', cap', hv, _, _, _, hc, hz⟩ := hf.lies (by omega)
      simp only [Value.slice.injEq, Option.some.injEq, Addr.mk.injEq] at hv
      obtain ⟨⟨rfl, -, -⟩, -, rfl⟩ := hv
      obtain ⟨g2, cap2, hv2, _, _, _, hc2, hz2⟩ := hg.lies (by have := HLM.out; omega)
      simp only [Value.slice.injEq, Option.some.injEq, Addr.mk.injEq] at hv2
      obtain ⟨⟨rfl, -, -⟩, -, rfl⟩ := hv2
      have hck := hc k (by omega)
      have hzk := hz k
      generalize (ovt l k).getD k 0 = y1 at hck
      have hf2 : Own (wr.setCell ⟨f, k, none⟩ (.int .u8 (((90 + k) % 256 : Nat) : Int))) base 5 (.slice (some ⟨f, 0, none⟩) l.length cf) (ovt l (k + 1)) := by
        rw [← ovt_set l k hlt]; exact hf.store k _ (by omega)
      have hg2 := hg.setFar (s := f) (by omega) k (.int .u8 (((90 + k) % 256 : Nat) : Int))
      have hT2 := hT.setFar (b := f) (by omega) k (.int .u8 (((90 + k) % 256 : Nat) : Int))
      have hC2 := hC.setCell (g := f) (Or.inl (Or.inl rfl)) k (.int .u8 (((90 + k) % 256 : Nat) : Int))
      have ek : (((90 + k) % 256 : Nat) : Int) = (90 + (k : Int)) % 256 := by omega
      rw [ek] at hf2 hg2 hT2 hC2
      have HEK : Hid ((((90 + k) % 256 : Nat) : Int) = (90 + (k : Int)) % 256) := ek
      have HF2 := hid hf2
      have HG2 := hid hg2
      have HT2 := hid hT2
      have HC2 := hid hC2
      have t3 := hT2.cell0
      have t4 := hT2.cell1
      have c5 : (wr.setCell ⟨f, k, none⟩ (.int .u8 ((90 + (k : Int)) % 256))).cell? ⟨f, k, none⟩ = some (.int .u8 ((90 + (k : Int)) % 256)) := World.cell?_setCell_same _ _ _ hck
      obtain ⟨g3, cap3, hv3, _, _, _, hc3, hz3⟩ := hg2.lies (by have := HLM.out; omega)
      simp only [Value.slice.injEq, Option.some.injEq, Addr.mk.injEq] at hv3
      obtain ⟨⟨rfl, -, -⟩, -, rfl⟩ := hv3
      have c6 := hc3 k (by have := HLM.out; omega)
      have z6 := hz3 k
      generalize (ovt m k).getD k 0 = y2 at c6
      clear hc hz hc2 hz2 ek hf2 hg2 hT2 hC2 hf hg hT hC e1 e2 hc3 hz3
      go_wp2
      generalize wr.setCell ⟨f, k, none⟩ (.int .u8 ((90 + (k : Int)) % 256)) = wA at *
      have hg4 : Own (wA.setCell ⟨g, k, none⟩ (.int .u8 ((90 + (k : Int)) % 256))) base 5 (.slice (some ⟨g, 0, none⟩) l.length cg) (ovt m (k + 1)) := by
        rw [← ovt_set m k (by have := HLM.out; omega), ← HEK.out]; exact HG2.out.store k _ (by rw [ovt_length m k (by have := HLM.out; omega)]; have := HLM.out; omega)
      have hf4 := HF2.out.setFar (s := g) (by omega) k (.int .u8 ((90 + (k : Int)) % 256))
      have hT4 := HT2.out.setFar (b := g) (by omega) k (.int .u8 ((90 + (k : Int)) % 256))
      have hC4 := HC2.out.setCell (g := g) (Or.inl (Or.inr rfl)) k (.int .u8 ((90 + (k : Int)) % 256))
      have HG4 := hid hg4
      have HF4 := hid hf4
      have HT4 := hid hT4
      have HC4 := hid hC4
      clear hg4 hf4 hT4 hC4 HG2 HF2 HT2 HC2 t0 t1 hck hzk
      go_region
      go_wp2
      exact ⟨⟨k + 1, by omega, by go_num, HT4.out, HF4.out, HG4.out, HC4.out.drew⟩, by simp [intOf]; omega⟩
    · have e : k = l.length := by omega
      have hL : LentAt wr base s f g (trn l.length) (trn l.length) n := by
        refine ⟨cf, cg, ?_, ?_, ?_, hfg, hfs, hgs, hbs⟩
        · rw [trn_length]; exact hT
        · rw [trn_length, ← ovt_full l, ← e]; rw [e] at hf ⊢; exact hf
        · rw [trn_length, HLM.out, ← ovt_full m, ← HLM.out]; rw [e] at hg; exact hg
      have HC4 := hid hC
      have HL4 := hid hL
      have hn : ¬ (k : Int) < (l.length : Int) := by omega
      clear e hf hg hT hC t1 hL
      go_wp2
      go_end0
      exact ⟨rfl, HL4.out, HC4.out⟩
end Go.Proofs.YtifjmilegogbaaaGreat
