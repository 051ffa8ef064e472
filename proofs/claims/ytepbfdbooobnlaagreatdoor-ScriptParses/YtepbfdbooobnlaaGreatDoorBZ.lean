/-
  Bytes that a call gathers by append, and what string makes of them. Conditions: the bytes are the call's own; there is room.
-/
import Derived.Test.YtepbfdbooobnlaaGreatDoorBK
import Derived.Test.YtepbfdbooobnlaaGreatDoorBM
import Derived.Test.YtepbfdbooobnlaaGreatDoorIN
import Derived.Laws.BytesArg
import Derived.Laws.IdiomStrings
import Derived.Lib.AppendStr
namespace Go.Proofs.YtepbfdbooobnlaaGreatDoor
set_option maxRecDepth 100000
open Go.RowKit
/-- The slice v is of this call's own making, of the bytes l; nothing elder has changed. -/
structure Bz (w0 w : World) (v : Value) (l : List UInt8) : Prop where
  own : Own w w0.heap.size 5 v (l.map UInt8.toNat)
  chg : Chg (fun _ => False) w0 w
theorem Bz.nil {w0 w : World} (h : Chg (fun _ => False) w0 w) : Bz w0 w (.slice none 0 0) [] := ⟨Own.nil _ _ _, h⟩
theorem Bz.alloc {w0 w : World} {v : Value} {l : List UInt8} (h : Bz w0 w v l) (o : Obj) : Bz w0 (w.alloc o) v l :=
  ⟨h.own.chg ((Chg.refl (fun _ => False) w).alloc o) (fun _ _ _ f => f), h.chg.alloc o⟩
theorem Bz.drew {w0 w : World} {v : Value} {l : List UInt8} (h : Bz w0 w v l) : Bz w0 w.drew v l :=
  ⟨h.own.chg ((Chg.refl (fun _ => False) w).drew) (fun _ _ _ f => f), h.chg.drew⟩
theorem Bz.grow {w0 w w' : World} {v v' : Value} {l l' : List UInt8} (h : Bz w0 w v l) (ho : Own w' w0.heap.size 5 v' (l'.map UInt8.toNat)) (hg : w.grownBy w' v.ownBlock) : Bz w0 w' v' l' :=
  ⟨ho, h.chg.grown hg (fun _ hk => Or.inr (h.own.block hk).1)⟩
theorem map_app1 (l : List UInt8) (c : UInt8) : l.map UInt8.toNat ++ [c.toNat] = (l ++ [c]).map UInt8.toNat := by simp
theorem wpList_append_b1 (w : World) {ops : Array Oper} {rest : List Oper} {o : Oper} {a : Act} {Q : Exit → Act → World → Prop} (hgd : o.guard = none) (s x : Operand)
    (ho : o.op = .call { callee := .builtin .append, args := #[s, x], argTypes := #[23, 23] })
    (w0 : World) (v : Value) (l : List UInt8) (hs : a.eval s = v) (hB : Bz w0 w v l) (g : Nat) (c : UInt8) (hx : a.eval x = .slice (some ⟨g, 0, none⟩) 1 1)
    (hc : w.cell? ⟨g, 0, none⟩ = some (.int .u8 c.toNat)) (hlen : l.length ≤ 1000000)
    (h : ∀ v' w', Bz w0 w' v' (l ++ [c]) → wpList Tryz.prog ops Q rest (a.put o.dst v') w') : wpList Tryz.prog ops Q (o :: rest) a w := by
  refine wpList_append_bytes w hgd s x 23 ho w0.heap.size 5 Tryz.underlying23 info5 v (l.map UInt8.toNat) hs hB.own (some ⟨g, 0, none⟩) 1 1 [c.toNat] hx rfl (fun e => by cases e) ?_ (by rw [List.length_map]; omega) hB.chg.size w.heap.size rfl ?_
  · intro ad e j hj
    injection e with e
    subst e
    have hj0 : j = 0 := by omega
    subst hj0
    rw [addr_at, Nat.add_zero]; exact hc
  · intro v' w' h1 h2 _
    refine h v' w' (hB.grow ?_ h2)
    rw [← map_app1]; exact h1
theorem wpList_append_bs (w : World) {ops : Array Oper} {rest : List Oper} {o : Oper} {a : Act} {Q : Exit → Act → World → Prop} (hgd : o.guard = none) (s x : Operand)
    (ho : o.op = .call { callee := .builtin .append, args := #[s, x], argTypes := #[23, 9] })
    (w0 : World) (v : Value) (l : List UInt8) (hs : a.eval s = v) (hB : Bz w0 w v l) (t : List UInt8) (hx : a.eval x = .string (sb t)) (hlen : l.length + t.length ≤ 1000000)
    (h : ∀ v' w', Bz w0 w' v' (l ++ t) → wpList Tryz.prog ops Q rest (a.put o.dst v') w') : wpList Tryz.prog ops Q (o :: rest) a w := by
  obtain ⟨i, hi1, hi2, hi3, hi4⟩ := info5
  refine Lib.wpList_append_own_string w hgd s x 23 9 ho w0.heap.size 5 i Tryz.underlying23 Tryz.underlying9 hi1 hi2 hi3 hi4 v (l.map UInt8.toNat).length ((l.map UInt8.toNat).map byt) hs hB.own (sb t) hx (by unfold maxLen; rw [List.length_map, sb_size]; omega) (by rw [List.length_map, sb_size]; omega) hB.chg.size ?_
  intro v' w' h1 h2 _
  refine h v' w' (hB.grow ?_ h2)
  unfold Own
  have e1 : ((l ++ t).map UInt8.toNat).length = (l.map UInt8.toNat).length + (sb t).size := by simp [sb_size]
  have e2 : ((l ++ t).map UInt8.toNat).map byt = (l.map UInt8.toNat).map byt ++ Lib.strCells (sb t) := by
    rw [List.map_append, List.map_append]
    congr 1
    unfold Lib.strCells
    rw [sb_list, List.map_map]; rfl
  rw [e1, e2]; exact h1
theorem Bz.str {w0 w : World} {v : Value} {l : List UInt8} (h : Bz w0 w v l) : (convert 23 9 v).run Tryz.prog w = .ok (.string (sb l)) w := by
  by_cases h0 : l = []
  · subst h0
    rcases h.own.2 with ⟨rfl, _⟩ | ⟨g, cap, cur, rfl, _⟩
    · exact run_convert_bytes_nil w 23 5 Tryz.underlying23 Tryz.underlying5 0 0 9 Tryz.underlying9
    · exact run_convert_bytes_back w 23 9 5 ⟨g, 0, none⟩ cap [] Tryz.underlying23 Tryz.underlying5 Tryz.underlying9 (fun j hj => absurd hj (Nat.not_lt_zero _))
  · obtain ⟨g, cap, rfl, _, _, _, hc, _⟩ := h.own.lies (by rw [List.length_map]; intro e; exact h0 (List.length_eq_zero_iff.1 e))
    rw [List.length_map]
    refine run_convert_bytes_back w 23 9 5 ⟨g, 0, none⟩ cap l Tryz.underlying23 Tryz.underlying5 Tryz.underlying9 (fun j hj => ?_)
    have := hc j (by rw [List.length_map]; exact hj)
    rw [addr_at, Nat.zero_add, this]
    simp [List.getD_eq_getElem?_getD, List.getElem?_eq_getElem hj]
/-- How many blanks more, at the k-th place. -/
def mo (ns : List Int) (k : Nat) : Nat := ((ns.getD k 0).tmod 4).toNat
theorem tmod4 (z : Int) : z.tmod 4 ≤ 3 ∧ -3 ≤ z.tmod 4 := by
  rw [tmod_eq_if]
  split <;> omega
theorem mo_le (ns : List Int) (k : Nat) : mo ns k ≤ 3 := by
  have := (tmod4 (ns.getD k 0)).1
  unfold mo; omega
theorem mo_some {ns : List Int} {k : Nat} {z : Int} (h : ns[k]? = some z) : mo ns k = (z.tmod 4).toNat := by unfold mo; rw [List.getD_eq_getElem?_getD, h]; rfl
theorem mo_none {ns : List Int} {k : Nat} (h : ns.length ≤ k) : mo ns k = 0 := by unfold mo; rw [List.getD_eq_getElem?_getD, List.getElem?_eq_none h]; rfl
theorem Sl.take {w : World} {a : Option Addr} {n cap : Nat} {l : List S3} (h : Sl w (.slice a n cap) l) (k : Nat) (hk : k ≤ l.length) : Sl w (.slice a k cap) (l.take k) := by
  obtain ⟨a', cap', hv, hc, hA⟩ := h
  simp only [Value.slice.injEq] at hv
  obtain ⟨rfl, rfl, rfl⟩ := hv
  have hl : (l.take k).length = k := by rw [List.length_take]; omega
  refine ⟨a, cap, by rw [hl], by omega, ?_⟩
  rcases hA with h0 | ⟨g, o, e, hAt⟩
  · exact Or.inl (by omega)
  · refine Or.inr ⟨g, o, e, hAt.1, fun i f hf => hAt.2 i f ?_⟩
    rw [List.getElem?_take] at hf
    split at hf
    · exact hf
    · cases hf
theorem blz_at {f : Nat → Nat} {k i : Nat} {S acc T : List UInt8} {c : UInt8} (hc : S[i]? = some c) (h : acc ++ blz f k (S.drop i) = T) :
    (c = 32 → (acc ++ sp (f k)) ++ [32] ++ blz f (k + 1) (S.drop (i + 1)) = T) ∧ (c ≠ 32 → c = 10 → (acc ++ tl4) ++ blz f (k + 1) (S.drop (i + 1)) = T) ∧ (c ≠ 32 → c ≠ 10 → (acc ++ [c]) ++ blz f k (S.drop (i + 1)) = T) := by
  obtain ⟨h1, h2⟩ := List.getElem?_eq_some_iff.1 hc
  rw [List.drop_eq_getElem_cons h1, h2, blz] at h
  refine ⟨fun e => ?_, fun e e' => ?_, fun e e' => ?_⟩
  · rw [if_pos e] at h
    rw [← h]
    have : sp (f k + 1) = sp (f k) ++ [32] := by unfold sp; rw [List.replicate_succ']
    rw [this]; simp only [List.append_assoc]
  · rw [if_neg e, if_pos e'] at h
    rw [← h, List.append_assoc]
  · rw [if_neg e, if_neg e'] at h
    rw [← h, List.append_assoc]; rfl
theorem sp_next (j : Nat) : sp (j + 1) = sp j ++ [32] := by unfold sp; rw [List.replicate_succ']
end Go.Proofs.YtepbfdbooobnlaaGreatDoor
