/-
  Long rows of bytes gathered by append (the document's Text). Conditions: the bytes are the call's own; there is room.
-/
import Derived.Test.YtepbfdbooobnlaaGreatDoorDC
import Derived.Test.YtepbfdbooobnlaaGreatDoorRF
namespace Go.Proofs.YtepbfdbooobnlaaGreatDoor
set_option maxRecDepth 100000
open Go.RowKit
theorem wpList_append_c1 (w : World) {ops : Array Oper} {rest : List Oper} {o : Oper} {a : Act} {Q : Exit → Act → World → Prop} (hgd : o.guard = none) (s x : Operand)
    (ho : o.op = .call { callee := .builtin .append, args := #[s, x], argTypes := #[23, 23] })
    (w0 : World) (v : Value) (l : List UInt8) (hs : a.eval s = v) (hB : Bz w0 w v l) (g : Nat) (c : UInt8) (hx : a.eval x = .slice (some ⟨g, 0, none⟩) 1 1)
    (hc : w.cell? ⟨g, 0, none⟩ = some (.int .u8 c.toNat)) (hlen : l.length ≤ 70368744177664)
    (h : ∀ v' w', Bz w0 w' v' (l ++ [c]) → Chg (fun k => v.ownBlock = some k) w w' → wpList Tryz.prog ops Q rest (a.put o.dst v') w') : wpList Tryz.prog ops Q (o :: rest) a w := by
  refine wpList_append_bytes w hgd s x 23 ho w0.heap.size 5 Tryz.underlying23 info5 v (l.map UInt8.toNat) hs hB.own (some ⟨g, 0, none⟩) 1 1 [c.toNat] hx rfl (fun e => by cases e) ?_ (by rw [List.length_map]; omega) hB.chg.size w.heap.size rfl ?_
  · intro ad e j hj
    injection e with e
    subst e
    have hj0 : j = 0 := by omega
    subst hj0
    rw [addr_at, Nat.add_zero]; exact hc
  · intro v' w' h1 h2 _
    refine h v' w' (hB.grow ?_ h2) ((Chg.refl _ w).grown h2 (fun _ hk => Or.inl hk))
    rw [← map_app1]; exact h1
theorem wpList_append_cs (w : World) {ops : Array Oper} {rest : List Oper} {o : Oper} {a : Act} {Q : Exit → Act → World → Prop} (hgd : o.guard = none) (s x : Operand)
    (ho : o.op = .call { callee := .builtin .append, args := #[s, x], argTypes := #[23, 9] })
    (w0 : World) (v : Value) (l : List UInt8) (hs : a.eval s = v) (hB : Bz w0 w v l) (y : ByteArray) (t : List UInt8) (hy : y = sb t) (hx : a.eval x = .string y) (hlen : l.length + t.length ≤ 70368744177664)
    (h : ∀ v' w', Bz w0 w' v' (l ++ t) → Chg (fun k => v.ownBlock = some k) w w' → wpList Tryz.prog ops Q rest (a.put o.dst v') w') : wpList Tryz.prog ops Q (o :: rest) a w := by
  subst hy
  obtain ⟨i, hi1, hi2, hi3, hi4⟩ := info5
  refine Lib.wpList_append_own_string w hgd s x 23 9 ho w0.heap.size 5 i Tryz.underlying23 Tryz.underlying9 hi1 hi2 hi3 hi4 v (l.map UInt8.toNat).length ((l.map UInt8.toNat).map byt) hs hB.own (sb t) hx (by unfold maxLen; rw [List.length_map, sb_size]; omega) (by rw [List.length_map, sb_size]; omega) hB.chg.size ?_
  intro v' w' h1 h2 _
  refine h v' w' (hB.grow ?_ h2) ((Chg.refl _ w).grown h2 (fun _ hk => Or.inl hk))
  unfold Own
  have e1 : ((l ++ t).map UInt8.toNat).length = (l.map UInt8.toNat).length + (sb t).size := by simp [sb_size]
  have e2 : ((l ++ t).map UInt8.toNat).map byt = (l.map UInt8.toNat).map byt ++ Lib.strCells (sb t) := by
    rw [List.map_append, List.map_append]
    congr 1
    unfold Lib.strCells
    rw [sb_list, List.map_map]; rfl
  rw [e1, e2]; exact h1
theorem Bz.new {w0 w w' : World} {v : Value} {l : List UInt8} (h : Bz w0 w v l) (hc : Chg (fun _ => False) w w') : Bz w0 w' v l :=
  ⟨h.own.chg hc (fun _ _ _ f => f), h.chg.trans hc⟩
theorem Bz.ne {w0 w : World} {v : Value} {l : List UInt8} {g : Nat} {f : S3} (h : Bz w0 w v l) (hf : Fo w g f) : ¬ v.ownBlock = some g := by
  intro e
  rcases h.own.2 with ⟨rfl, _⟩ | ⟨g', cap, cur, rfl, _, hh, _⟩
  · cases e
  · have e' : g' = g := Option.some.inj e
    subst e'
    have h2 : w.heap[g']? = _ := hf
    rw [h2] at hh
    injection hh with hh
    injection hh with _ h3 _
    cases h3
end Go.Proofs.YtepbfdbooobnlaaGreatDoor
