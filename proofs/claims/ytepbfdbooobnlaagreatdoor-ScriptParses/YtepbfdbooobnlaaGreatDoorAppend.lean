/-
  Slices of bytes that a call itself has made: what append does to them, whatever is appended (nothing, a nil slice, bytes that came in). Conditions: the bytes lie there; there is room (at most 2^47 bytes).
-/
import Derived.Test.YtepbfdbooobnlaaGreatDoorBase
import Derived.Maps.AppendAt
namespace Go.Proofs.YtepbfdbooobnlaaGreatDoor
set_option maxRecDepth 100000
open Go.RowKit

/-- A byte, as a value. -/
def byt (n : Nat) : Value := .int .u8 (n : Int)
/-- The slice v is the call's own (its block is base or above), of the bytes l. -/
def Own (w : World) (base : Nat) (e : TypeId) (v : Value) (l : List Nat) : Prop := w.ownsRow base e 1 v l.length (l.map byt)
theorem byt_one (l : List Nat) : ∀ u ∈ l.map byt, u.oneCell' = true := by
  intro u hu
  obtain ⟨n, _, rfl⟩ := List.mem_map.1 hu
  rfl
theorem Own.nil (w : World) (base : Nat) (e : TypeId) : Own w base e (.slice none 0 0) [] := ⟨rfl, Or.inl ⟨rfl, rfl⟩⟩
/-- Where it lies. -/
theorem Own.lies {w : World} {base : Nat} {e : TypeId} {v : Value} {l : List Nat} (h : Own w base e v l) (h0 : l.length ≠ 0) :
    ∃ g cap, v = .slice (some ⟨g, 0, none⟩) l.length cap ∧ base ≤ g ∧ g < w.heap.size ∧ l.length ≤ cap ∧ (∀ i, i < l.length → w.cell? ⟨g, i, none⟩ = some (.int .u8 (l.getD i 0 : Nat))) ∧ ∀ i, w.frozen? ⟨g, i, none⟩ = false := by
  rcases h.2 with ⟨_, h1⟩ | ⟨g, cap, cur, hv, hg, hh, hn, hm, hs, ht⟩
  · exact absurd h1 h0
  · refine ⟨g, cap, hv, hg, (Array.getElem?_eq_some_iff.1 hh).1, hn, fun i hi => ?_, fun i => by simp [World.frozen?, hh]⟩
    have e1 : cur[i]? = some (byt (l.getD i 0)) := by
      have h2 : (cur.toList.take (l.length * 1))[i]? = (l.map byt)[i]? := by rw [ht]
      rw [List.getElem?_take_of_lt (by omega), List.getElem?_map, List.getElem?_eq_getElem hi, Array.getElem?_toList] at h2
      rw [h2, List.getD_eq_getElem?_getD, List.getElem?_eq_getElem hi]; rfl
    simp only [World.cell?, hh]
    simpa [byt] using e1
theorem Own.rd {w : World} {base b : Nat} {e : TypeId} {a : Option Addr} {n cap : Nat} {l : List Nat} (h : Own w base e (.slice a n cap) l) (hl : Bys l) (hb : b < base) : Rd w b a l := by
  refine ⟨hl, ?_⟩
  by_cases h0 : l.length = 0
  · exact Or.inl (List.length_eq_zero_iff.1 h0)
  · obtain ⟨g, cap', hv, hg, hs, _, hc, _⟩ := h.lies h0
    simp only [Value.slice.injEq] at hv
    exact Or.inr ⟨g, 0, hv.1, by omega, hs, fun i hi => by rw [Nat.zero_add]; exact hc i hi⟩

/-- 'append(v, x...)', v the call's own, x whatever can be read. -/
theorem wpList_append_bytes {P : Program} (w : World) {ops : Array Oper} {rest : List Oper} {o : Oper} {a : Act} {Q : Exit → Act → World → Prop} (hgd : o.guard = none) (s x : Operand) (t : TypeId)
    (ho : o.op = .call { callee := .builtin .append, args := #[s, x], argTypes := #[t, t] })
    (base : Nat) (e : TypeId) (ht : P.underlying t = some (.slice e)) (hi : ∃ i, P.info? e = some i ∧ i.zero = some (.int .u8 0) ∧ i.size = 1 ∧ i.bytes = 1)
    (v : Value) (l : List Nat) (hs : a.eval s = v) (hown : Own w base e v l)
    (ao : Option Addr) (m c : Nat) (l2 : List Nat) (hx : a.eval x = .slice ao m c) (hm : l2.length = m) (hnone : ao = none → m = 0 ∧ c = 0)
    (hc : ∀ ad, ao = some ad → ∀ j, j < m → w.cell? (ad.add j) = some (.int .u8 (l2.getD j 0 : Nat)))
    (hbytes : l.length + m ≤ 140737488355328) (hbase : base ≤ w.heap.size) (H : Nat) (hH : w.heap.size = H)
    (h : ∀ v' w', Own w' base e v' (l ++ l2) → w.grownBy w' v.ownBlock → (v'.ownBlock = v.ownBlock ∨ v'.ownBlock = some H) → wpList P ops Q rest (a.put o.dst v') w') : wpList P ops Q (o :: rest) a w := by
  obtain ⟨i, hi1, hi2, hi3, hi4⟩ := hi
  cases ao with
  | some ad =>
    refine wpList_append_own_at w hgd s x t ho base e i (.int .u8 0) 1 1 ht hi1 hi2 hi3 hi4 rfl (by decide) v l.length (l.map byt) hs hown ad m c (l2.map byt) hx (by simp [hm]) ?_ (byt_one l2) (by unfold maxLen; omega) (by omega) hbase ?_
    · intro j u hu
      have hj : j < l2.length := by
        have := (List.getElem?_eq_some_iff.1 hu).1
        simpa using this
      rw [List.getElem?_map, List.getElem?_eq_getElem hj] at hu
      have e1 := hc ad rfl j (by omega)
      rw [List.getD_eq_getElem?_getD, List.getElem?_eq_getElem hj] at e1
      rw [e1]
      exact hu
    · intro v' w' h1 h2 _ h4
      refine h v' w' ?_ h2 (by rw [← hH]; exact h4)
      unfold Own
      rw [List.length_append, hm, List.map_append]
      exact h1
  | none =>
    obtain ⟨rfl, rfl⟩ := hnone rfl
    have hl2 : l2 = [] := List.length_eq_zero_iff.1 hm
    subst hl2
    refine wpList_plain hgd fun K hK => ?_
    have hrun := run_append_owned_none (P := P) w base t o.type e i 1 ht hi1 v l.length (l.map byt) hown
    unfold Oper.wp
    simp [execOp, ho, resolve, invoke, builtin, hs, hx, hrun, Result.andThen]
    refine hK _ _ (h v w ?_ ⟨rfl, rfl, rfl, Nat.le_refl _, fun _ _ _ => rfl⟩ (Or.inl rfl))
    rw [List.append_nil]
    exact hown
end Go.Proofs.YtepbfdbooobnlaaGreatDoor
