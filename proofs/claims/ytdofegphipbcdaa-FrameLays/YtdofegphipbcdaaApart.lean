/-
  patinaref01.Apart, its pieces: what is written over, what is grown, and what is known of it. No condition: definitions and lemmas on worlds. patinaref01.Apart: lists that came out, each its owner's, are written over and grown: it answers true. Conditions: the lists are slices of bytes in blocks of their own; there is room. patinaref01.Apart, walked: it answers true. Conditions: the lists are slices of bytes in blocks of their own; there is room. patinaref01.Apart of three lists. Conditions: they are slices of bytes in blocks of their own; none is longer than a thousand bytes.
-/
import Derived.Test.YtdofegphipbcdaaTight
namespace Go.Proofs.Ytdofegphipbcdaa
set_option maxRecDepth 100000
open Go.RowKit

def ct (i k : Nat) : Nat := (37 * i + k) % 256
def tl (i k : Nat) : Nat := (100 + 37 * i + k) % 256
/-- What a list of n bytes is written over with. -/
def con (i n : Nat) : List Nat := (List.range n).map (ct i)
/-- What it is grown by, in k steps. -/
def tails (i k : Nat) : List Nat := (List.range k).map (tl i)
def ovw (i : Nat) (l : List Nat) (k : Nat) : List Nat := con i k ++ l.drop k
theorem con_length (i n : Nat) : (con i n).length = n := by simp [con]
theorem tails_length (i n : Nat) : (tails i n).length = n := by simp [tails]
theorem ovw_zero (i : Nat) (l : List Nat) : ovw i l 0 = l := by simp [ovw, con]
theorem ovw_length (i : Nat) (l : List Nat) (k : Nat) (h : k ≤ l.length) : (ovw i l k).length = l.length := by simp [ovw, con_length]; omega
theorem ovw_full (i : Nat) (l : List Nat) : ovw i l l.length = con i l.length := by simp [ovw]
theorem con_succ (i k : Nat) : con i (k + 1) = con i k ++ [ct i k] := by simp [con, List.range_succ]
theorem tails_succ (i k : Nat) : tails i (k + 1) = tails i k ++ [tl i k] := by simp [tails, List.range_succ]
theorem ovw_set (i : Nat) (l : List Nat) (k : Nat) (h : k < l.length) : (ovw i l k).set k (ct i k) = ovw i l (k + 1) := by
  unfold ovw
  rw [List.set_append_right _ _ (by rw [con_length]; omega), con_length, Nat.sub_self, con_succ, List.append_assoc]
  congr 1
  rw [List.drop_eq_getElem_cons h]
  rfl
theorem con_getD (i n k : Nat) (h : k < n) : (con i n).getD k 0 = ct i k := by
  simp [con, List.getD_eq_getElem?_getD, h]
theorem grown_getD (i n m k : Nat) (h : k < n) : (con i n ++ tails i m).getD k 0 = ct i k := by
  rw [List.getD_eq_getElem?_getD, List.getElem?_append_left (by rw [con_length]; exact h), ← List.getD_eq_getElem?_getD, con_getD i n k h]
theorem grown_getD' (i n m k : Nat) (h : k < m) : (con i n ++ tails i m).getD (n + k) 0 = tl i k := by
  rw [List.getD_eq_getElem?_getD, List.getElem?_append_right (by rw [con_length]; omega), con_length, Nat.add_sub_cancel_left]
  simp [tails, h]
theorem ct_lt (i k : Nat) : ct i k < 256 := Nat.mod_lt _ (by decide)
theorem tl_lt (i k : Nat) : tl i k < 256 := Nat.mod_lt _ (by decide)

/-- The blocks of the lists. -/
def Blk (N : Nat) (v : Nat → Value) (k : Nat) : Prop := ∃ i, i < N ∧ (v i).ownBlock = some k
/-- What is known ahead of round i. -/
structure Inv (w : World) (N base : Nat) (v : Nat → Value) (l : Nat → List Nat) (i : Nat) (wr : World) (vg : Value) (Gs : List Value) : Prop where
  le : i ≤ N
  len : Gs.length = i
  own : wr.ownsRow w.heap.size 22 1 vg i Gs
  chg : Chg (Blk N v) w wr
  done : ∀ j, j < i → Held wr (v j) (con j (l j).length) ∧ Held wr (Gs.getD j undef) (con j (l j).length ++ tails j 7) ∧
    ((Gs.getD j undef).ownBlock = (v j).ownBlock ∨ ∃ h, w.heap.size ≤ h ∧ (Gs.getD j undef).ownBlock = some h ∧ vg.ownBlock ≠ some h)
  rest : ∀ j, i ≤ j → j < N → OwnT wr base 5 (v j) (l j)
/-- What is asked of the lists. -/
structure Lists (w : World) (N base : Nat) (v : Nat → Value) (l : Nat → List Nat) : Prop where
  own : ∀ i, i < N → OwnT w base 5 (v i) (l i)
  apart : ∀ i j k, i < N → j < N → i ≠ j → (v i).ownBlock = some k → (v j).ownBlock ≠ some k

theorem Inv.start {w : World} {N base : Nat} {v : Nat → Value} {l : Nat → List Nat} (h : Lists w N base v l) : Inv w N base v l 0 w (.slice none 0 0) [] :=
  ⟨Nat.zero_le _, rfl, ⟨rfl, Or.inl ⟨rfl, rfl⟩⟩, Chg.refl _ _, fun _ hj => absurd hj (Nat.not_lt_zero _), fun j _ hj => h.own j hj⟩

theorem ownsRow_block {w : World} {base : Nat} {e : TypeId} {size : Nat} {v : Value} {n : Nat} {xs : List Value} (h : w.ownsRow base e size v n xs) {k : Nat} (hk : v.ownBlock = some k) : base ≤ k ∧ k < w.heap.size := by
  rcases h.2 with ⟨rfl, _⟩ | ⟨g, cap, cur, rfl, hb, hh, _⟩
  · cases hk
  · have e : g = k := Option.some.inj hk
    subst e
    exact ⟨hb, (Array.getElem?_eq_some_iff.1 hh).1⟩
theorem ownsRow_keep {w w' : World} {base : Nat} {e : TypeId} {size : Nat} {v : Value} {n : Nat} {xs : List Value} (h : w.ownsRow base e size v n xs) (hk : ∀ k, k < w.heap.size → v.ownBlock = some k → w'.heap[k]? = w.heap[k]?) :
    w'.ownsRow base e size v n xs := by
  refine ⟨h.1, ?_⟩
  rcases h.2 with h1 | ⟨g, cap, cur, rfl, hb, hh, r⟩
  · exact Or.inl h1
  · exact Or.inr ⟨g, cap, cur, rfl, hb, (hk g (Array.getElem?_eq_some_iff.1 hh).1 rfl).trans hh, r⟩
theorem Held.block {w : World} {v : Value} {l : List Nat} (h : Held w v l) (h0 : l.length ≠ 0) : ∃ k, v.ownBlock = some k ∧ k < w.heap.size := by
  obtain ⟨a, cap, rfl, h | ⟨g, o, rfl, hg, _⟩⟩ := h
  · exact absurd h h0
  · exact ⟨g, rfl, hg⟩

/-- The lists of the rounds behind, and the grown list, while one list is written over or grown. -/
theorem Inv.step {w : World} {N base : Nat} {v : Nat → Value} {l : Nat → List Nat} {i : Nat} {wr wx : World} {vg : Value} {Gs : List Value} (hL : Lists w N base v l) (hi : i < N)
    (h : Inv w N base v l i wr vg Gs) (hx : Chg (fun k => (v i).ownBlock = some k) wr wx) :
    wx.ownsRow w.heap.size 22 1 vg i Gs ∧ Chg (Blk N v) w wx ∧
    (∀ j, j < i → Held wx (v j) (con j (l j).length) ∧ Held wx (Gs.getD j undef) (con j (l j).length ++ tails j 7)) ∧
    (∀ j, i + 1 ≤ j → j < N → OwnT wx base 5 (v j) (l j)) := by
  have hvi : ∀ k, (v i).ownBlock = some k → k < w.heap.size := fun k hk => ((hL.own i hi).block hk).2
  refine ⟨ownsRow_keep h.own (fun k hk he => hx.block k hk (fun hh => ?_)), h.chg.trans' hx (fun k hk hh => ⟨i, hi, hh⟩), fun j hj => ⟨?_, ?_⟩, fun j h1 h2 => ?_⟩
  · have h1 := (ownsRow_block h.own he).1
    have h2 := hvi k hh
    omega
  · exact (h.done j hj).1.chg hx (fun k hk he hh => hL.apart i j k hi (by omega) (by omega) hh he)
  · refine (h.done j hj).2.1.chg hx (fun k hk he hh => ?_)
    rcases (h.done j hj).2.2 with h3 | ⟨g, hg, h3, _⟩
    · rw [h3] at he; exact hL.apart i j k hi (by omega) (by omega) hh he
    · rw [h3] at he
      have e := Option.some.inj he
      have h2 := hvi k hh
      omega
  · exact (h.rest j (by omega) h2).chg hx (fun k hk he hh => hL.apart i j k hi h2 (by omega) hh he)

/-- The round's end: the grown list takes the new one up. -/
theorem Inv.next {w : World} {N base : Nat} {v : Nat → Value} {l : Nat → List Nat} {i : Nat} {wr wx wy : World} {vg vg' v' : Value} {Gs : List Value} (hL : Lists w N base v l) (hi : i < N)
    (h : Inv w N base v l i wr vg Gs) (hx : Chg (fun k => (v i).ownBlock = some k) wr wx) (h1 : Held wx (v i) (con i (l i).length)) (h2 : OwnT wx base 5 v' (con i (l i).length ++ tails i 7))
    (hb : v'.ownBlock = (v i).ownBlock ∨ ∃ h, wr.heap.size ≤ h ∧ v'.ownBlock = some h) (o : Obj)
    (hown : wy.ownsRow w.heap.size 22 1 vg' (i + 1) (Gs ++ [v'])) (hg : (wx.alloc o).grownBy wy vg.ownBlock) (hlie : vg'.ownBlock = vg.ownBlock ∨ vg'.ownBlock = some (wx.heap.size + 1)) :
    Inv w N base v l (i + 1) wy vg' (Gs ++ [v']) := by
  obtain ⟨s1, s2, s3, s4⟩ := h.step hL hi hx
  have hvi : ∀ k, (v i).ownBlock = some k → k < w.heap.size := fun k hk => ((hL.own i hi).block hk).2
  have hgb : ∀ k, vg.ownBlock = some k → w.heap.size ≤ k ∧ k < wr.heap.size := fun k hk => ownsRow_block h.own hk
  have hws := h.chg.size
  have hxs := hx.size
  -- every block of wx but that of the grown list is as it was
  have hy : ∀ k, k < wx.heap.size → vg.ownBlock ≠ some k → wy.heap[k]? = wx.heap[k]? := fun k hk hne =>
    (hg.block k (by simp; omega) (fun e => hne e.symm)).trans (Below.heap_alloc _ _ _ hk)
  have hys : wx.heap.size ≤ wy.heap.size := by have := hg.size; simp at this; omega
  have hC : Chg (fun k => vg.ownBlock = some k) wx wy := ⟨hg.os, hg.tape, hg.output, hys, fun k hk hne => hy k hk hne⟩
  have hGl : ∀ j, j < i → (Gs ++ [v']).getD j undef = Gs.getD j undef := fun j hj => by
    rw [List.getD_eq_getElem?_getD, List.getElem?_append_left (by rw [h.len]; exact hj), ← List.getD_eq_getElem?_getD]
  have hGi : (Gs ++ [v']).getD i undef = v' := by
    rw [List.getD_eq_getElem?_getD, List.getElem?_append_right (by rw [h.len]; omega), h.len, Nat.sub_self]; rfl
  refine ⟨by omega, by simp [h.len], hown, s2.trans' hC (fun k hk hh => ?_), fun j hj => ?_, fun j h3 h4 => (s4 j h3 h4).chg hC (fun k hk he hh => ?_)⟩
  · have := (hgb k hh).1; omega
  · by_cases hji : j < i
    · rw [hGl j hji]
      refine ⟨(s3 j hji).1.chg hC (fun k hk he hh => ?_), (s3 j hji).2.chg hC (fun k hk he hh => ?_), ?_⟩
      · have h5 := ((hL.own j (by omega)).block he).2
        have := (hgb k hh).1; omega
      · rcases (h.done j hji).2.2 with h3 | ⟨g, hg1, h3, h4⟩
        · rw [h3] at he
          have h5 := ((hL.own j (by omega)).block he).2
          have := (hgb k hh).1; omega
        · rw [h3] at he
          have e := Option.some.inj he
          subst e
          exact h4 hh
      · rcases (h.done j hji).2.2 with h3 | ⟨g, hg1, h3, h4⟩
        · exact Or.inl h3
        · refine Or.inr ⟨g, hg1, h3, ?_⟩
          rcases hlie with h5 | h5
          · rw [h5]; exact h4
          · rw [h5]
            intro e
            have e := Option.some.inj e
            obtain ⟨k, hk1, hk2⟩ := (h.done j hji).2.1.block (by rw [List.length_append, tails_length]; omega)
            rw [h3] at hk1
            have := Option.some.inj hk1
            omega
    · have e : j = i := by omega
      subst e
      rw [hGi]
      refine ⟨h1.chg hC (fun k hk he hh => ?_), h2.held.chg hC (fun k hk he hh => ?_), ?_⟩
      · have h5 := hvi k he
        have := (hgb k hh).1; omega
      · rcases hb with h3 | ⟨g, hg1, h3⟩
        · rw [h3] at he
          have h5 := hvi k he
          have := (hgb k hh).1; omega
        · rw [h3] at he
          have e := Option.some.inj he
          have := (hgb k hh).2; omega
      · rcases hb with h3 | ⟨g, hg1, h3⟩
        · exact Or.inl h3
        · refine Or.inr ⟨g, by omega, h3, ?_⟩
          rcases hlie with h5 | h5
          · rw [h5]
            intro e
            have := (hgb g e).2; omega
          · rw [h5]
            intro e
            have e := Option.some.inj e
            have h6 := (h2.block h3).2
            omega
  · have h5 := ((hL.own j h4).block he).2
    have := (hgb k hh).1; omega
end Go.Proofs.Ytdofegphipbcdaa
namespace Go.Proofs.Ytdofegphipbcdaa
set_option maxRecDepth 100000
open Go.RowKit

theorem Own.form {w : World} {base : Nat} {e : TypeId} {v : Value} {l : List Nat} (h : Own w base e v l) : (v = .slice none 0 0 ∧ l = []) ∨ ∃ g cap, v = .slice (some ⟨g, 0, none⟩) l.length cap ∧ base ≤ g ∧ g < w.heap.size := by
  rcases h.2 with ⟨rfl, h1⟩ | ⟨g, cap, cur, rfl, hb, hh, _⟩
  · exact Or.inl ⟨rfl, List.length_eq_zero_iff.1 h1⟩
  · exact Or.inr ⟨g, cap, rfl, hb, (Array.getElem?_eq_some_iff.1 hh).1⟩
/-- The beginning of a list that has been grown in place. -/
theorem OwnT.front {w : World} {base : Nat} {e : TypeId} {g n cap c : Nat} {l1 l2 : List Nat} (h : OwnT w base e (.slice (some ⟨g, 0, none⟩) n cap) (l1 ++ l2)) : Held w (.slice (some ⟨g, 0, none⟩) l1.length c) l1 := by
  refine ⟨_, c, rfl, ?_⟩
  by_cases h0 : l1.length = 0
  · exact Or.inl h0
  · right
    obtain ⟨g', cap', hv, hg, hs, _, hc, _⟩ := h.lies (by rw [List.length_append]; omega)
    simp only [Value.slice.injEq, Option.some.injEq, Addr.mk.injEq] at hv
    obtain ⟨⟨rfl, _, _⟩, _, _⟩ := hv
    refine ⟨g, 0, rfl, hs, fun i hi => ?_⟩
    rw [Nat.zero_add, hc i (by rw [List.length_append]; omega), List.getD_eq_getElem?_getD, List.getElem?_append_left hi, ← List.getD_eq_getElem?_getD]

/-- 'append(v, x...)', v the call's own: what v led to is as it was. -/
theorem wpList_append_keeps {P : Program} (w : World) {ops : Array Oper} {rest : List Oper} {o : Oper} {a : Act} {Q : Exit → Act → World → Prop} (hgd : o.guard = none) (s x : Operand) (t : TypeId)
    (ho : o.op = .call { callee := .builtin .append, args := #[s, x], argTypes := #[t, t] })
    (base : Nat) (e : TypeId) (ht : P.underlying t = some (.slice e)) (hi : ∃ i, P.info? e = some i ∧ i.zero = some (.int .u8 0) ∧ i.size = 1 ∧ i.bytes = 1)
    (v : Value) (l : List Nat) (hs : a.eval s = v) (hown : OwnT w base e v l)
    (ad : Addr) (m c : Nat) (l2 : List Nat) (hx : a.eval x = .slice (some ad) m c) (hm : l2.length = m)
    (hc : ∀ j, j < m → w.cell? (ad.add j) = some (.int .u8 (l2.getD j 0 : Nat)))
    (hbytes : l.length + m ≤ 140737488355328) (hbase : base ≤ w.heap.size) (h0 : 0 < m)
    (h : ∀ v' w', OwnT w' base e v' (l ++ l2) → Held w' v l → Chg (fun k => v.ownBlock = some k) w w' → (v'.ownBlock = v.ownBlock ∨ ∃ h, w.heap.size ≤ h ∧ v'.ownBlock = some h) → wpList P ops Q rest (a.put o.dst v') w') : wpList P ops Q (o :: rest) a w := by
  obtain ⟨i, hi1, hi2, hi3, hi4⟩ := hi
  have hnews : ∀ j u, (l2.map byt)[j]? = some u → w.cell? (ad.add j) = some u := by
    intro j u hu
    have hj : j < l2.length := by
      have := (List.getElem?_eq_some_iff.1 hu).1
      simpa using this
    rw [List.getElem?_map, List.getElem?_eq_getElem hj] at hu
    have e1 := hc j (by omega)
    rw [List.getD_eq_getElem?_getD, List.getElem?_eq_getElem hj] at e1
    rw [e1]
    exact hu
  have hgrow : ∀ (ao : Option Addr) (n cap : Nat), v = .slice ao n cap → l.length = n → (ao = none → n = 0 ∧ cap = 0) → (∀ ad, ao = some ad → ∀ j u, (l.map byt)[j]? = some u → w.cell? (ad.add j) = some u) → cap < n + m → wpList P ops Q (o :: rest) a w := by
    intro ao n cap hv hn hnone holds hfull
    refine wpList_append_grows w hgd s x t ho e i (.int .u8 0) 1 1 ht hi1 hi2 hi3 hi4 rfl (by decide) ao n cap (l.map byt) (hs.trans hv) hnone (by simp [hn]) holds ad m c (l2.map byt) hx (by simp [hm]) hnews (byt_one l2) hfull (by unfold maxLen; omega) (by omega) ?_
    intro v' w' h1 h2
    have hC : Chg (fun k => v.ownBlock = some k) w w' := ⟨h2.os, h2.tape, h2.output, h2.size, fun k hk _ => h2.block k hk (fun e => by cases e)⟩
    have hO : OwnT w' w.heap.size e v' (l ++ l2) := by
      refine Or.inl ?_
      unfold Own
      rw [List.length_append, hm, List.map_append, hn]
      exact h1
    refine h v' w' (hO.mono (fun k hk => Nat.le_trans hbase (hO.block hk).1)) (hown.held.keep h2.size (fun k hk _ => h2.block k hk (fun e => by cases e))) hC (Or.inr ?_)
    rcases hO.form with ⟨_, h3⟩ | ⟨g, cap', h3, h4, _⟩
    · have h5 : (l ++ l2).length = 0 := by rw [h3]; rfl
      rw [List.length_append] at h5
      omega
    · exact ⟨g, h4, by rw [h3]; rfl⟩
  rcases hown.form with ⟨hv, hl⟩ | ⟨g, cap, hv, hg, hgs⟩
  · refine hgrow none 0 0 hv (by rw [hl]; rfl) (fun _ => ⟨rfl, rfl⟩) (fun ad had => by cases had) (by omega)
  · by_cases hfit : l.length + m ≤ cap
    · have hown' : Own w base e v l := by
        rcases hown with hown | ⟨g', cur, fz, hv', _⟩
        · exact hown
        · rw [hv] at hv'
          simp only [Value.slice.injEq] at hv'
          omega
      refine wpList_append_fits w hgd s x t ho base e i 1 ht hi1 hi3 g l.length cap (l.map byt) (hs.trans hv) (by rw [← hv]; exact hown') ad m c (l2.map byt) hx (by simp [hm]) hnews (byt_one l2) hfit ?_
      intro w' h1 h2
      have hO : OwnT w' base e (.slice (some ⟨g, 0, none⟩) (l.length + m) cap) (l ++ l2) := by
        refine Or.inl ?_
        unfold Own
        rw [List.length_append, hm, List.map_append]
        exact h1
      have hC : Chg (fun k => v.ownBlock = some k) w w' := ⟨h2.os, h2.tape, h2.output, h2.size, fun k hk hne => h2.block k hk (fun e => hne (by rw [hv]; exact e.symm))⟩
      exact h _ w' hO (by rw [hv]; exact hO.front) hC (Or.inl (by rw [hv]; rfl))
    · refine hgrow (some ⟨g, 0, none⟩) l.length cap hv rfl (fun e => by cases e) (fun ad had j u hu => ?_) (by omega)
      have had := Option.some.inj had
      subst had
      have hj : j < l.length := by
        have := (List.getElem?_eq_some_iff.1 hu).1
        simpa using this
      obtain ⟨g', cap', hv', _, _, _, hcell, _⟩ := hown.lies (by omega)
      rw [hv] at hv'
      simp only [Value.slice.injEq, Option.some.injEq, Addr.mk.injEq] at hv'
      obtain ⟨⟨rfl, _, _⟩, _, _⟩ := hv'
      rw [Addr.add_lit, Nat.zero_add, hcell j hj]
      rw [List.getElem?_map, List.getElem?_eq_getElem hj] at hu
      rw [List.getD_eq_getElem?_getD, List.getElem?_eq_getElem hj]
      exact hu

/-- The beginning of what can be read. -/
theorem Held.front {w : World} {a : Option Addr} {n cap c : Nat} {l1 l2 : List Nat} (h : Held w (.slice a n cap) (l1 ++ l2)) : Held w (.slice a l1.length c) l1 := by
  obtain ⟨a', cap', hv, h⟩ := h
  simp only [Value.slice.injEq] at hv
  obtain ⟨rfl, _, _⟩ := hv
  refine ⟨a, c, rfl, ?_⟩
  rcases h with h | ⟨g, o, rfl, hg, hc⟩
  · rw [List.length_append] at h; exact Or.inl (by omega)
  · refine Or.inr ⟨g, o, rfl, hg, fun i hi => ?_⟩
    rw [hc i (by rw [List.length_append]; omega), List.getD_eq_getElem?_getD, List.getElem?_append_left hi, ← List.getD_eq_getElem?_getD]
/-- One step of growing: what it leaves of the list that was grown first. -/
theorem grow_step {wo wy wz : World} {base : Nat} {a : Option Addr} {c : Nat} {u v2 : Value} {cI l0 t : List Nat} {x : Nat} (hform : OwnT wo base 5 (.slice a cI.length c) l0)
    (hy : Chg (fun k => (Value.slice a cI.length c).ownBlock = some k) wo wy) (hyh : Held wy (.slice a cI.length c) cI) (hyo : OwnT wy base 5 u (cI ++ t))
    (hyb : u.ownBlock = (Value.slice a cI.length c).ownBlock ∨ ∃ h, wo.heap.size ≤ h ∧ u.ownBlock = some h) (o : Obj)
    (hH2 : Held wz u (cI ++ t)) (hC2 : Chg (fun k => u.ownBlock = some k) (wy.alloc o) wz) (hB2 : v2.ownBlock = u.ownBlock ∨ ∃ h, wy.heap.size + 1 ≤ h ∧ v2.ownBlock = some h) (_hO2 : OwnT wz base 5 v2 (cI ++ (t ++ [x]))) :
    Chg (fun k => (Value.slice a cI.length c).ownBlock = some k) wo wz ∧ Held wz (.slice a cI.length c) cI ∧ (v2.ownBlock = (Value.slice a cI.length c).ownBlock ∨ ∃ h, wo.heap.size ≤ h ∧ v2.ownBlock = some h) := by
  have hys := hy.size
  have hC : Chg (fun k => u.ownBlock = some k) wy wz := ((Chg.refl _ wy).alloc o).trans hC2
  refine ⟨hy.trans' hC (fun k hk hu => ?_), ?_, ?_⟩
  · rcases hyb with h | ⟨g, hg, h⟩
    · rw [← h]; exact hu
    · rw [h] at hu
      have := Option.some.inj hu
      omega
  · rcases hyb with h | ⟨g, hg, h⟩
    · rcases hyo.form with ⟨hu, hl⟩ | ⟨g, cap, hu, _, _⟩
      · refine ⟨a, c, rfl, Or.inl ?_⟩
        have := congrArg List.length hl
        rw [List.length_append] at this
        simp at this
        rw [this.1]; rfl
      · rw [hu] at h hH2
        rcases hform.form with ⟨hv, _⟩ | ⟨g2, cap2, hv, _, _⟩
        · rw [hv] at h; cases h
        · simp only [Value.slice.injEq] at hv
          rw [hv.1] at h ⊢
          have e : g = g2 := Option.some.inj h
          subst e
          exact hH2.front
    · refine hyh.chg hC (fun k hk he hu => ?_)
      rw [h] at hu
      have := Option.some.inj hu
      have h2 := (hform.block he).2
      omega
  · rcases hB2 with h2 | ⟨g2, hg2, h2⟩
    · rcases hyb with h | ⟨g, hg, h⟩
      · exact Or.inl (h2.trans h)
      · exact Or.inr ⟨g, hg, h2.trans h⟩
    · exact Or.inr ⟨g2, by omega, h2⟩
end Go.Proofs.Ytdofegphipbcdaa
namespace Go.Proofs.Ytdofegphipbcdaa
set_option maxRecDepth 100000
open Go.RowKit

theorem info39_all : (Try.prog.info? 22).map (fun i => (i.zero, i.size, i.bytes)) = some (some (.slice none 0 0), 1, 24) := by kernel_rfl

theorem ct_int (i k : Nat) : ((37 * (i : Int) + (k : Int)) % 256) = ((ct i k : Nat) : Int) := by unfold ct; omega
theorem tl_int (i k : Nat) : ((100 + 37 * (i : Int) + (k : Int)) % 256) = ((tl i k : Nat) : Int) := by unfold tl; omega

set_option maxRecDepth 100000 in
set_option maxHeartbeats 4000000 in
theorem apart_any (w : World) (L lo N capL base : Nat) (A : Nat → Option Addr) (C : Nat → Nat) (l : Nat → List Nat) (hN : N ≤ 1048576) (hbase : base ≤ w.heap.size)
    (hLs : L < w.heap.size) (hcell : ∀ i, i < N → w.cell? ⟨L, lo + i, none⟩ = some (.slice (A i) (l i).length (C i)))
    (hL : Lists w N base (fun i => .slice (A i) (l i).length (C i)) l) (hlen : ∀ i, i < N → (l i).length ≤ 70368744177664)
    (hd : ∀ i, i < N → (Value.slice (A i) (l i).length (C i)).ownBlock ≠ some L) :
    Calls Try.prog 16 #[.slice (some ⟨L, lo, none⟩) N capL] w fun e w' => e = .returned (.bool true) ∧ Chg (Blk N fun i => .slice (A i) (l i).length (C i)) w w' := by
  have hi5 := info5
  have HC : Hid (∀ i, i < N → w.cell? ⟨L, lo + i, none⟩ = some (.slice (A i) (l i).length (C i))) := hcell
  have HLn : Hid (∀ i, i < N → (l i).length ≤ 70368744177664) := hlen
  have HD : Hid (∀ i, i < N → (Value.slice (A i) (l i).length (C i)).ownBlock ≠ some L) := hd
  have hnb : ¬ Blk N (fun i => .slice (A i) (l i).length (C i)) L := fun ⟨i, h1, h2⟩ => hd i h1 h2
  clear hcell hlen hd
  go_enter Try.func16, Try.ntmps16
  go_wp2
  go_loopw [3, 4] (fun vg t wr => ∃ (i : Nat) (Gs : List Value), t = .int .i64 i ∧ Inv w N base (fun i => .slice (A i) (l i).length (C i)) l i wr vg Gs) (fun _ t _ => N - (intOf t).toNat)
  case atStart => exact ⟨0, [], rfl, Inv.start hL⟩
  case round =>
    rename World => wo
    obtain ⟨i, Gs, rfl, hI⟩ := hrel
    by_cases hlt : i < N
    · have hcr : wo.cell? ⟨L, lo + i, none⟩ = some (.slice (A i) (l i).length (C i)) := (World.cell?_of_block (w := w) (a := ⟨L, lo + i, none⟩) (hI.chg.block L hLs hnb)).trans (HC.out i hlt)
      have hli := HLn.out i hlt
      have hLne : ¬ (Value.slice (A i) (l i).length (C i)).ownBlock = some L := HD.out i hlt
      have hLr : L < wo.heap.size := Nat.lt_of_lt_of_le hLs hI.chg.size
      have hO := hI.rest i (Nat.le_refl _) hlt
      have HLne : Hid (¬ (Value.slice (A i) (l i).length (C i)).ownBlock = some L) := hLne
      clear hLne
      go_wp2
      go_loopw [5] (fun t wx => ∃ k : Nat, k ≤ (l i).length ∧ t = .int .i64 k ∧ Chg (fun k => (Value.slice (A i) (l i).length (C i)).ownBlock = some k) wo wx ∧ OwnT wx base 5 (.slice (A i) (l i).length (C i)) (ovw i (l i) k)) (fun t _ => (l i).length - (intOf t).toNat)
      case atStart => exact ⟨0, Nat.zero_le _, rfl, Chg.refl _ _, by rw [ovw_zero]; exact hO⟩
      case round =>
        rename World => wx
        obtain ⟨k, hk, rfl, hx, hxo⟩ := hrel
        have hcx : wx.cell? ⟨L, lo + i, none⟩ = some (.slice (A i) (l i).length (C i)) := (World.cell?_of_block (w := wo) (a := ⟨L, lo + i, none⟩) (hx.block L hLr HLne.out)).trans hcr
        by_cases hlk : k < (l i).length
        · have hln : (ovw i (l i) k).length = (l i).length := ovw_length i (l i) k hk
          obtain ⟨g, cap, hv, hg, hgs, _, hgc, hgf⟩ := hxo.lies (by omega)
          have hA : A i = some ⟨g, 0, none⟩ := by simp only [Value.slice.injEq] at hv; exact hv.1
          have hkc := hgc k (by omega)
          have hkf := hgf k (by omega)
          have hOB : Hid ((Value.slice (A i) (l i).length (C i)).ownBlock = some g) := by rw [hA]; exact rfl
          have hxo2 : OwnT (wx.setCell ⟨g, k, none⟩ (.int .u8 ((37 * (i : Int) + (k : Int)) % 256))) base 5 (.slice (A i) (l i).length (C i)) (ovw i (l i) (k + 1)) := by
            rw [← ovw_set i (l i) k hlk, ct_int, hA]
            rw [hA] at hxo
            exact hxo.store k _ (by omega)
          rw [hA] at hcx
          have HX2 : Hid (OwnT (wx.setCell ⟨g, k, none⟩ (.int .u8 ((37 * (i : Int) + (k : Int)) % 256))) base 5 (.slice (A i) (l i).length (C i)) (ovw i (l i) (k + 1))) := hxo2
          have HA : Hid (A i = some ⟨g, 0, none⟩) := hA
          generalize (ovw i (l i) k).getD k 0 = old at hkc
          clear hxo2 hA hv hgc hgf hln hcr
          go_wp2
          exact ⟨⟨k + 1, by omega, by go_num, hx.setCell (Or.inl hOB.out) _ _, HX2.out⟩, by simp [intOf]; omega⟩
        · have e : k = (l i).length := by omega
          have hxo2 : OwnT wx base 5 (.slice (A i) (l i).length (C i)) (con i (l i).length) := by rw [e, ovw_full] at hxo; exact hxo
          clear hxo e
          go_wp2
          clear hcx
          go_loopw [6, 7] (fun v' t wy => ∃ m : Nat, m ≤ 7 ∧ t = .int .i64 m ∧ Chg (fun k => (Value.slice (A i) (l i).length (C i)).ownBlock = some k) wo wy ∧ Held wy (.slice (A i) (l i).length (C i)) (con i (l i).length) ∧
            OwnT wy base 5 v' (con i (l i).length ++ tails i m) ∧ (v'.ownBlock = (Value.slice (A i) (l i).length (C i)).ownBlock ∨ ∃ h, wo.heap.size ≤ h ∧ v'.ownBlock = some h)) (fun _ t _ => 7 - (intOf t).toNat)
          case atStart => exact ⟨0, by omega, rfl, hx, hxo2.held, by simpa [tails] using hxo2, Or.inl rfl⟩
          case round =>
            rename World => wy
            obtain ⟨m, hm, rfl, hy, hyh, hyo, hyb⟩ := hrel
            have hb2 : base ≤ wy.heap.size := Nat.le_trans hbase (Nat.le_trans hI.chg.size hy.size)
            by_cases hm7 : m < 7
            · have hclen : (con i (l i).length ++ tails i m).length = (l i).length + m := by rw [List.length_append, con_length, tails_length]
              have Htl := tl_int i m
              have HTL : Hid ((100 + 37 * (i : Int) + (m : Int)) % 256 = ((tl i m : Nat) : Int)) := Htl
              clear Htl
              go_wp2_with (at_builtin; refine wpList_append_keeps _ rfl _ _ 22 rfl base 5 Try.underlying22 hi5 _ (con i (l i).length ++ tails i m) rfl ?h1 ⟨wy.heap.size, 0, none⟩ 1 1 [tl i m] rfl rfl ?h2 ?h3 ?h4 (by decide) ?_)
              case h1 => exact hyo.keep (fun k hk _ => Below.heap_alloc _ _ _ hk)
              case h2 =>
                intro j hj
                have e : j = 0 := by omega
                subst e
                rw [Addr.add_lit, HTL.out]
                simp
              case h3 => rw [hclen]; omega
              case h4 => simp; omega
              intro v2 wz hO2 hH2 hC2 hB2
              have hcl : (con i (l i).length).length = (l i).length := con_length _ _
              have hG := grow_step (a := A i) (c := C i) (cI := con i (l i).length) (by rw [hcl]; exact hO) (by rw [hcl]; exact hy) (by rw [hcl]; exact hyh) hyo (by rw [hcl]; exact hyb) _ hH2 hC2 (by simpa using hB2) hO2
              rw [hcl] at hG
              have hO3 : OwnT wz base 5 v2 (con i (l i).length ++ tails i (m + 1)) := by rw [tails_succ]; exact hO2
              clear hH2 hC2 hB2 hO2 hy hyh hyo hyb HTL
              go_wp2
              exact ⟨⟨m + 1, by omega, by go_num, hG.1, hG.2.1, hO3, hG.2.2⟩, by simp [intOf]; omega⟩
            · have e : m = 7 := by omega
              subst e
              obtain ⟨i39, q1, q2, q3, q4⟩ := info_parts info39_all
              obtain ⟨g6, cap6, hu6, _, _, _, _, _⟩ := hyo.lies (by rw [List.length_append, tails_length]; omega)
              have hI6 := hI
              have hsz := hI.chg.size
              have hysz := hy.size
              subst hu6
              obtain ⟨s1, s2, s3, s4⟩ := hI.step hL hlt hy
              go_wp2_with (at_builtin; refine wpList_append_own_at _ rfl _ _ 28 rfl w.heap.size 22 i39 (.slice none 0 0) 1 24 Try.underlying28 q1 q2 q3 q4 rfl (by decide) _ i Gs rfl ?h1 ⟨wy.heap.size, 0, none⟩ 1 1 [.slice (some ⟨g6, 0, none⟩) (con i (l i).length ++ tails i 7).length cap6] rfl rfl ?h2 ?h3 ?h4 ?h5 ?h6 ?_)
              case h1 => exact ownsRow_keep s1 (fun k hk _ => Below.heap_alloc _ _ _ hk)
              case h2 =>
                intro j u hu
                have hj : j = 0 := by
                  have := (List.getElem?_eq_some_iff.1 hu).1
                  simp at this; omega
                subst hj
                rw [Addr.add_lit]
                simpa using hu
              case h3 =>
                intro u hu
                simp at hu
                subst hu
                rfl
              case h4 => unfold maxLen; omega
              case h5 => omega
              case h6 => simp; omega
              intro vg' wz hown' hgrow' _ hlie'
              rw [← List.length_append] at hown'
              have hI2 := hI.next hL hlt hy hyh hyo hyb _ hown' hgrow' (by simpa using hlie')
              clear hown' hgrow' hlie' hyh hyo hyb hy hI s1 s2 s3 s4 hI6
              go_wp2
              exact ⟨⟨i + 1, _, by go_num, hI2⟩, by simp [intOf]; omega⟩
    · have e : i = N := by have := hI.le; omega
      have HC2 : Hid (∀ j, j < N → wo.cell? ⟨L, lo + j, none⟩ = some (.slice (A j) (l j).length (C j))) := fun j hj => (World.cell?_of_block (w := w) (a := ⟨L, lo + j, none⟩) (hI.chg.block L hLs hnb)).trans (HC.out j hj)
      have hgr : (u3 = .slice none 0 0 ∧ N = 0) ∨ ∃ γ capγ, u3 = .slice (some ⟨γ, 0, none⟩) N capγ ∧ ∀ j, j < N → wo.cell? ⟨γ, j, none⟩ = some (Gs.getD j undef) := by
        subst e
        rcases hI.own.2 with h1 | ⟨γ, capγ, cur, h1, _, hh, _, _, _, ht⟩
        · exact Or.inl h1
        · refine Or.inr ⟨γ, capγ, h1, fun j hj => ?_⟩
          have h2 : (cur.toList.take (i * 1))[j]? = Gs[j]? := by rw [ht]
          rw [List.getElem?_take_of_lt (by omega), Array.getElem?_toList] at h2
          simp only [World.cell?, hh]
          rw [List.getD_eq_getElem?_getD, List.getElem?_eq_getElem (by rw [hI.len]; exact hj)]
          rw [List.getElem?_eq_getElem (by rw [hI.len]; exact hj)] at h2
          simpa using h2
      have hfin : Chg (Blk N fun i => .slice (A i) (l i).length (C i)) w wo := hI.chg
      have HH : Hid (∀ j, j < N → Held wo (.slice (A j) (l j).length (C j)) (con j (l j).length) ∧ Held wo (Gs.getD j undef) (con j (l j).length ++ tails j 7)) := fun j hj => by
        have := hI.done j (by omega)
        exact ⟨this.1, this.2.1⟩
      clear hI hL hnb HC
      rcases hgr with ⟨hu3, hN0⟩ | ⟨γ, capγ, hu3, hγ⟩
      · subst hN0
        subst hu3
        go_wp2
        go_loop [8] (fun t => t = .int .i64 0) (fun _ => 0)
        case atStart => exact rfl
        case round =>
          subst hrel
          go_wp2
          go_ret
          exact ⟨rfl, hfin⟩
      · subst hu3
        have HG : Hid (∀ j, j < N → wo.cell? ⟨γ, j, none⟩ = some (Gs.getD j undef)) := hγ
        clear hγ
        go_wp2
        go_loop [8] (fun t => ∃ j : Nat, j ≤ N ∧ t = .int .i64 j) (fun t => N - (intOf t).toNat)
        case atStart => exact ⟨0, Nat.zero_le _, rfl⟩
        case round =>
          obtain ⟨j, hj, rfl⟩ := hrel
          by_cases hjN : j < N
          · have hcj := HC2.out j hjN
            have hgj := HG.out j hjN
            obtain ⟨hh1, hh2⟩ := HH.out j hjN
            have hlj := HLn.out j hjN
            have HH1 : Hid (Held wo (.slice (A j) (l j).length (C j)) (con j (l j).length)) := hh1
            obtain ⟨ag, capg, hGv, hgc⟩ := hh2
            rw [hGv] at hgj
            have hgl : (con j (l j).length ++ tails j 7).length = (l j).length + 7 := by rw [List.length_append, con_length, tails_length]
            obtain ⟨gg, og, rfl, _, hgc⟩ := hgc.resolve_left (by omega)
            have HGC : Hid (∀ i, i < (con j (l j).length ++ tails j 7).length → wo.cell? ⟨gg, og + i, none⟩ = some (.int .u8 ((con j (l j).length ++ tails j 7).getD i 0 : Nat))) := hgc
            rw [hgl] at hgj
            have HGL : Hid ((con j (l j).length ++ tails j 7).length = (l j).length + 7) := hgl
            clear hgc hh1 hGv hgl
            go_wp2
            go_loop [10] (fun t => ∃ k : Nat, k ≤ (l j).length ∧ t = .int .i64 k) (fun t => (l j).length - (intOf t).toNat)
            case atStart => exact ⟨0, Nat.zero_le _, rfl⟩
            case round =>
              obtain ⟨k, hk, rfl⟩ := hrel
              by_cases hkn : k < (l j).length
              · obtain ⟨a', cap', hv', hc'⟩ := HH1.out
                simp only [Value.slice.injEq] at hv'
                obtain ⟨gv, ov, hav, _, hc'⟩ := hc'.resolve_left (by rw [con_length]; omega)
                have hAj : A j = some ⟨gv, ov, none⟩ := hv'.1.trans hav
                have hck : wo.cell? ⟨gv, ov + k, none⟩ = some (.int .u8 ((37 * (j : Int) + (k : Int)) % 256)) := by
                  rw [hc' k (by rw [con_length]; exact hkn), con_getD _ _ _ hkn, ct_int]
                have hdk : wo.cell? ⟨gg, og + k, none⟩ = some (.int .u8 ((37 * (j : Int) + (k : Int)) % 256)) := by
                  rw [HGC.out k (by rw [HGL.out]; omega), grown_getD _ _ _ _ hkn, ct_int]
                rw [hAj] at hcj
                have HAj : Hid (A j = some ⟨gv, ov, none⟩) := hAj
                clear hc' hv' hav hAj
                go_wp2
                exact ⟨⟨k + 1, by omega, by go_num⟩, by simp [intOf]; omega⟩
              · have hkn' : ¬ (k : Int) < ((l j).length : Int) := by omega
                go_wp2
                go_loop [11] (fun t => ∃ m : Nat, m ≤ 7 ∧ t = .int .i64 m) (fun t => 7 - (intOf t).toNat)
                case atStart => exact ⟨0, Nat.zero_le _, rfl⟩
                case round =>
                  obtain ⟨m, hm, rfl⟩ := hrel
                  by_cases hm7 : m < 7
                  · have hdm : wo.cell? ⟨gg, og + ((l j).length + m), none⟩ = some (.int .u8 ((100 + 37 * (j : Int) + (m : Int)) % 256)) := by
                      rw [HGC.out ((l j).length + m) (by rw [HGL.out]; omega), grown_getD' _ _ _ _ hm7, tl_int]
                    go_wp2
                    exact ⟨⟨m + 1, by omega, by go_num⟩, by simp [intOf]; omega⟩
                  · have e7 : m = 7 := by omega
                    subst e7
                    go_wp2
                    exact ⟨⟨j + 1, by omega, by go_num⟩, by simp [intOf]; omega⟩
          · have hjN' : ¬ (j : Int) < (N : Int) := by omega
            go_wp2
            go_ret
            exact ⟨rfl, hfin⟩
end Go.Proofs.Ytdofegphipbcdaa
namespace Go.Proofs.Ytdofegphipbcdaa
open Go.RowKit
set_option maxRecDepth 100000

/-- One of three. -/
def pick3 {α : Type} (x y z : α) (i : Nat) : α := if i = 0 then x else if i = 1 then y else z
theorem three {i : Nat} (h : i < 3) : i = 0 ∨ i = 1 ∨ i = 2 := by omega
theorem apart3 (w : World) (base : Nat) (a0 a1 a2 : Option Addr) (n0 n1 n2 c0 c1 c2 : Nat) (l0 l1 l2 : List Nat) (e0 : n0 = l0.length) (e1 : n1 = l1.length) (e2 : n2 = l2.length)
    (h0 : OwnT w base 5 (.slice a0 n0 c0) l0) (h1 : OwnT w base 5 (.slice a1 n1 c1) l1) (h2 : OwnT w base 5 (.slice a2 n2 c2) l2) (hb : base ≤ w.heap.size)
    (d01 : ∀ k, (Value.slice a0 n0 c0).ownBlock = some k → (Value.slice a1 n1 c1).ownBlock ≠ some k) (d02 : ∀ k, (Value.slice a0 n0 c0).ownBlock = some k → (Value.slice a2 n2 c2).ownBlock ≠ some k)
    (d12 : ∀ k, (Value.slice a1 n1 c1).ownBlock = some k → (Value.slice a2 n2 c2).ownBlock ≠ some k) (m0 : l0.length ≤ 1000) (m1 : l1.length ≤ 1000) (m2 : l2.length ≤ 1000) :
    Calls Try.prog 16 #[.slice (some ⟨w.heap.size, 0, none⟩) 3 3] (w.alloc (.cells #[.slice a0 n0 c0, .slice a1 n1 c1, .slice a2 n2 c2] 22)) fun e w' =>
      e = .returned (.bool true) ∧ Chg (fun k => (Value.slice a0 n0 c0).ownBlock = some k ∨ (Value.slice a1 n1 c1).ownBlock = some k ∨ (Value.slice a2 n2 c2).ownBlock = some k) (w.alloc (.cells #[.slice a0 n0 c0, .slice a1 n1 c1, .slice a2 n2 c2] 22)) w' := by
  subst e0 e1 e2
  have b0 : ∀ k, (Value.slice a0 l0.length c0).ownBlock = some k → k < w.heap.size := fun k hk => (h0.block hk).2
  have b1 : ∀ k, (Value.slice a1 l1.length c1).ownBlock = some k → k < w.heap.size := fun k hk => (h1.block hk).2
  have b2 : ∀ k, (Value.slice a2 l2.length c2).ownBlock = some k → k < w.heap.size := fun k hk => (h2.block hk).2
  have h := apart_any (w.alloc (.cells #[.slice a0 l0.length c0, .slice a1 l1.length c1, .slice a2 l2.length c2] 22)) w.heap.size 0 3 3 base (pick3 a0 a1 a2) (pick3 c0 c1 c2) (pick3 l0 l1 l2) (by decide)
    (by simp; omega) (by simp) (fun i hi => ?_) ⟨fun i hi => ?_, fun i j k hi hj hij h1 h2 => ?_⟩ (fun i hi => ?_) (fun i hi h1 => ?_)
  · refine h.mono ?_
    rintro e' w' ⟨h1, h2⟩
    refine ⟨h1, h2.mono (fun k _ hk => ?_)⟩
    obtain ⟨j, hj, hk⟩ := hk
    rcases three hj with rfl | rfl | rfl
    · exact Or.inl hk
    · exact Or.inr (Or.inl hk)
    · exact Or.inr (Or.inr hk)
  · rcases three hi with rfl | rfl | rfl <;> simp [pick3]
  · rcases three hi with rfl | rfl | rfl
    · exact h0.keep (fun k hk _ => Below.heap_alloc _ _ _ hk)
    · exact h1.keep (fun k hk _ => Below.heap_alloc _ _ _ hk)
    · exact h2.keep (fun k hk _ => Below.heap_alloc _ _ _ hk)
  · rcases three hi with rfl | rfl | rfl <;> rcases three hj with rfl | rfl | rfl
    · exact hij rfl
    · exact d01 k h1 h2
    · exact d02 k h1 h2
    · exact d01 k h2 h1
    · exact hij rfl
    · exact d12 k h1 h2
    · exact d02 k h2 h1
    · exact d12 k h2 h1
    · exact hij rfl
  · rcases three hi with rfl | rfl | rfl
    · show l0.length ≤ _; omega
    · show l1.length ≤ _; omega
    · show l2.length ≤ _; omega
  · rcases three hi with rfl | rfl | rfl
    · exact absurd (b0 _ h1) (Nat.lt_irrefl _)
    · exact absurd (b1 _ h1) (Nat.lt_irrefl _)
    · exact absurd (b2 _ h1) (Nat.lt_irrefl _)
end Go.Proofs.Ytdofegphipbcdaa
