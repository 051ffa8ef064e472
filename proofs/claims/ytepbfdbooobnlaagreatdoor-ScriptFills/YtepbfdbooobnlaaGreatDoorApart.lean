/-
  patinaref01.Apart: lists that came out, each its owner's, are written over and grown: it answers true. Conditions: the lists are slices of bytes in blocks of their own; there is room.
-/
import Derived.Test.YtepbfdbooobnlaaGreatDoorApartOne
namespace Go.Proofs.YtepbfdbooobnlaaGreatDoor
set_option maxRecDepth 100000
open Go.RowKit

theorem Own.form {w : World} {base : Nat} {e : TypeId} {v : Value} {l : List Nat} (h : Own w base e v l) : (v = .slice none 0 0 ∧ l = []) ∨ ∃ g cap, v = .slice (some ⟨g, 0, none⟩) l.length cap ∧ base ≤ g ∧ g < w.heap.size := by
  rcases h.2 with ⟨rfl, h1⟩ | ⟨g, cap, cur, rfl, hb, hh, _⟩
  · exact Or.inl ⟨rfl, List.length_eq_zero_iff.1 h1⟩
  · exact Or.inr ⟨g, cap, rfl, hb, (Array.getElem?_eq_some_iff.1 hh).1⟩
/-- The beginning of a list that has been grown in place. -/
theorem OwnT.front {w : World} {base : Nat} {e : TypeId} {g n cap c : Nat} {l1 l2 : List Nat} (h : OwnT w base e (.slice (some ⟨g, 0, none⟩) n cap) (l1 ++ l2)) : Held w (.slice (some ⟨g, 0, none⟩) l1.length c) l1 := by
  refine ⟨_, c, rfl, ?_⟩
  by_cases h0 : l1.length = 0
  · exact Or.inl h0
  · right
    obtain ⟨g', cap', hv, hg, hs, _, hc, _⟩ := h.lies (by rw [List.length_append]; omega)
    simp only [Value.slice.injEq, Option.some.injEq, Addr.mk.injEq] at hv
    obtain ⟨⟨rfl, _, _⟩, _, _⟩ := hv
    refine ⟨g, 0, rfl, hs, fun i hi => ?_⟩
    rw [Nat.zero_add, hc i (by rw [List.length_append]; omega), List.getD_eq_getElem?_getD, List.getElem?_append_left hi, ← List.getD_eq_getElem?_getD]

/-- 'append(v, x...)', v the call's own: what v led to is as it was. -/
theorem wpList_append_keeps {P : Program} (w : World) {ops : Array Oper} {rest : List Oper} {o : Oper} {a : Act} {Q : Exit → Act → World → Prop} (hgd : o.guard = none) (s x : Operand) (t : TypeId)
    (ho : o.op = .call { callee := .builtin .append, args := #[s, x], argTypes := #[t, t] })
    (base : Nat) (e : TypeId) (ht : P.underlying t = some (.slice e)) (hi : ∃ i, P.info? e = some i ∧ i.zero = some (.int .u8 0) ∧ i.size = 1 ∧ i.bytes = 1)
    (v : Value) (l : List Nat) (hs : a.eval s = v) (hown : OwnT w base e v l)
    (ad : Addr) (m c : Nat) (l2 : List Nat) (hx : a.eval x = .slice (some ad) m c) (hm : l2.length = m)
    (hc : ∀ j, j < m → w.cell? (ad.add j) = some (.int .u8 (l2.getD j 0 : Nat)))
    (hbytes : l.length + m ≤ 140737488355328) (hbase : base ≤ w.heap.size) (h0 : 0 < m)
    (h : ∀ v' w', OwnT w' base e v' (l ++ l2) → Held w' v l → Chg (fun k => v.ownBlock = some k) w w' → (v'.ownBlock = v.ownBlock ∨ ∃ h, w.heap.size ≤ h ∧ v'.ownBlock = some h) → wpList P ops Q rest (a.put o.dst v') w') : wpList P ops Q (o :: rest) a w := by
  obtain ⟨i, hi1, hi2, hi3, hi4⟩ := hi
  have hnews : ∀ j u, (l2.map byt)[j]? = some u → w.cell? (ad.add j) = some u := by
    intro j u hu
    have hj : j < l2.length := by
      have := (List.getElem?_eq_some_iff.1 hu).1
      simpa using this
    rw [List.getElem?_map, List.getElem?_eq_getElem hj] at hu
    have e1 := hc j (by omega)
    rw [List.getD_eq_getElem?_getD, List.getElem?_eq_getElem hj] at e1
    rw [e1]
    exact hu
  have hgrow : ∀ (ao : Option Addr) (n cap : Nat), v = .slice ao n cap → l.length = n → (ao = none → n = 0 ∧ cap = 0) → (∀ ad, ao = some ad → ∀ j u, (l.map byt)[j]? = some u → w.cell? (ad.add j) = some u) → cap < n + m → wpList P ops Q (o :: rest) a w := by
    intro ao n cap hv hn hnone holds hfull
    refine wpList_append_grows w hgd s x t ho e i (.int .u8 0) 1 1 ht hi1 hi2 hi3 hi4 rfl (by decide) ao n cap (l.map byt) (hs.trans hv) hnone (by simp [hn]) holds ad m c (l2.map byt) hx (by simp [hm]) hnews (byt_one l2) hfull (by unfold maxLen; omega) (by omega) ?_
    intro v' w' h1 h2
    have hC : Chg (fun k => v.ownBlock = some k) w w' := ⟨h2.os, h2.tape, h2.output, h2.size, fun k hk _ => h2.block k hk (fun e => by cases e)⟩
    have hO : OwnT w' w.heap.size e v' (l ++ l2) := by
      refine Or.inl ?_
      unfold Own
      rw [List.length_append, hm, List.map_append, hn]
      exact h1
    refine h v' w' (hO.mono (fun k hk => Nat.le_trans hbase (hO.block hk).1)) (hown.held.keep h2.size (fun k hk _ => h2.block k hk (fun e => by cases e))) hC (Or.inr ?_)
    rcases hO.form with ⟨_, h3⟩ | ⟨g, cap', h3, h4, _⟩
    · have h5 : (l ++ l2).length = 0 := by rw [h3]; rfl
      rw [List.length_append] at h5
      omega
    · exact ⟨g, h4, by rw [h3]; rfl⟩
  rcases hown.form with ⟨hv, hl⟩ | ⟨g, cap, hv, hg, hgs⟩
  · refine hgrow none 0 0 hv (by rw [hl]; rfl) (fun _ => ⟨rfl, rfl⟩) (fun ad had => by cases had) (by omega)
  · by_cases hfit : l.length + m ≤ cap
    · have hown' : Own w base e v l := by
        rcases hown with hown | ⟨g', cur, fz, hv', _⟩
        · exact hown
        · rw [hv] at hv'
          simp only [Value.slice.injEq] at hv'
          omega
      refine wpList_append_fits w hgd s x t ho base e i 1 ht hi1 hi3 g l.length cap (l.map byt) (hs.trans hv) (by rw [← hv]; exact hown') ad m c (l2.map byt) hx (by simp [hm]) hnews (byt_one l2) hfit ?_
      intro w' h1 h2
      have hO : OwnT w' base e (.slice (some ⟨g, 0, none⟩) (l.length + m) cap) (l ++ l2) := by
        refine Or.inl ?_
        unfold Own
        rw [List.length_append, hm, List.map_append]
        exact h1
      have hC : Chg (fun k => v.ownBlock = some k) w w' := ⟨h2.os, h2.tape, h2.output, h2.size, fun k hk hne => h2.block k hk (fun e => hne (by rw [hv]; exact e.symm))⟩
      exact h _ w' hO (by rw [hv]; exact hO.front) hC (Or.inl (by rw [hv]; rfl))
    · refine hgrow (some ⟨g, 0, none⟩) l.length cap hv rfl (fun e => by cases e) (fun ad had j u hu => ?_) (by omega)
      have had := Option.some.inj had
      subst had
      have hj : j < l.length := by
        have := (List.getElem?_eq_some_iff.1 hu).1
        simpa using this
      obtain ⟨g', cap', hv', _, _, _, hcell, _⟩ := hown.lies (by omega)
      rw [hv] at hv'
      simp only [Value.slice.injEq, Option.some.injEq, Addr.mk.injEq] at hv'
      obtain ⟨⟨rfl, _, _⟩, _, _⟩ := hv'
      rw [Addr.add_lit, Nat.zero_add, hcell j hj]
      rw [List.getElem?_map, List.getElem?_eq_getElem hj] at hu
      rw [List.getD_eq_getElem?_getD, List.getElem?_eq_getElem hj]
      exact hu

/-- The beginning of what can be read. -/
theorem Held.front {w : World} {a : Option Addr} {n cap c : Nat} {l1 l2 : List Nat} (h : Held w (.slice a n cap) (l1 ++ l2)) : Held w (.slice a l1.length c) l1 := by
  obtain ⟨a', cap', hv, h⟩ := h
  simp only [Value.slice.injEq] at hv
  obtain ⟨rfl, _, _⟩ := hv
  refine ⟨a, c, rfl, ?_⟩
  rcases h with h | ⟨g, o, rfl, hg, hc⟩
  · rw [List.length_append] at h; exact Or.inl (by omega)
  · refine Or.inr ⟨g, o, rfl, hg, fun i hi => ?_⟩
    rw [hc i (by rw [List.length_append]; omega), List.getD_eq_getElem?_getD, List.getElem?_append_left hi, ← List.getD_eq_getElem?_getD]
/-- One step of growing: what it leaves of the list that was grown first. -/
theorem grow_step {wo wy wz : World} {base : Nat} {a : Option Addr} {c : Nat} {u v2 : Value} {cI l0 t : List Nat} {x : Nat} (hform : OwnT wo base 5 (.slice a cI.length c) l0)
    (hy : Chg (fun k => (Value.slice a cI.length c).ownBlock = some k) wo wy) (hyh : Held wy (.slice a cI.length c) cI) (hyo : OwnT wy base 5 u (cI ++ t))
    (hyb : u.ownBlock = (Value.slice a cI.length c).ownBlock ∨ ∃ h, wo.heap.size ≤ h ∧ u.ownBlock = some h) (o : Obj)
    (hH2 : Held wz u (cI ++ t)) (hC2 : Chg (fun k => u.ownBlock = some k) (wy.alloc o) wz) (hB2 : v2.ownBlock = u.ownBlock ∨ ∃ h, wy.heap.size + 1 ≤ h ∧ v2.ownBlock = some h) (_hO2 : OwnT wz base 5 v2 (cI ++ (t ++ [x]))) :
    Chg (fun k => (Value.slice a cI.length c).ownBlock = some k) wo wz ∧ Held wz (.slice a cI.length c) cI ∧ (v2.ownBlock = (Value.slice a cI.length c).ownBlock ∨ ∃ h, wo.heap.size ≤ h ∧ v2.ownBlock = some h) := by
  have hys := hy.size
  have hC : Chg (fun k => u.ownBlock = some k) wy wz := ((Chg.refl _ wy).alloc o).trans hC2
  refine ⟨hy.trans' hC (fun k hk hu => ?_), ?_, ?_⟩
  · rcases hyb with h | ⟨g, hg, h⟩
    · rw [← h]; exact hu
    · rw [h] at hu
      have := Option.some.inj hu
      omega
  · rcases hyb with h | ⟨g, hg, h⟩
    · rcases hyo.form with ⟨hu, hl⟩ | ⟨g, cap, hu, _, _⟩
      · refine ⟨a, c, rfl, Or.inl ?_⟩
        have := congrArg List.length hl
        rw [List.length_append] at this
        simp at this
        rw [this.1]; rfl
      · rw [hu] at h hH2
        rcases hform.form with ⟨hv, _⟩ | ⟨g2, cap2, hv, _, _⟩
        · rw [hv] at h; cases h
        · simp only [Value.slice.injEq] at hv
          rw [hv.1] at h ⊢
          have e : g = g2 := Option.some.inj h
          subst e
          exact hH2.front
    · refine hyh.chg hC (fun k hk he hu => ?_)
      rw [h] at hu
      have := Option.some.inj hu
      have h2 := (hform.block he).2
      omega
  · rcases hB2 with h2 | ⟨g2, hg2, h2⟩
    · rcases hyb with h | ⟨g, hg, h⟩
      · exact Or.inl (h2.trans h)
      · exact Or.inr ⟨g, hg, h2.trans h⟩
    · exact Or.inr ⟨g2, by omega, h2⟩
end Go.Proofs.YtepbfdbooobnlaaGreatDoor
