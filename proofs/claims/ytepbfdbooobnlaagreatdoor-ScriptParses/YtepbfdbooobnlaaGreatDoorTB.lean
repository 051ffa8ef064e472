/-
  A strings.Builder that holds bytes, beside other blocks; what is written to it. No condition: lemmas.
-/
import Derived.Test.YtepbfdbooobnlaaGreatDoorTX
namespace Go.Proofs.YtepbfdbooobnlaaGreatDoor
set_option maxRecDepth 100000
open Go.RowKit
/-- Block b is a builder that holds the bytes l. -/
def Bu (w : World) (b : Nat) (l : List UInt8) : Prop := Lib.IsBuilderF 66 5 b b (Lib.byteCells l) w
theorem Bu.lt {w : World} {b : Nat} {l : List UInt8} (h : Bu w b l) : b < w.heap.size := by
  rcases h with h | h
  · exact h.lt
  · exact h.lt
theorem builderAtF_old {T e : TypeId} {B b : Nat} {p : Value} {bs : List Value} {w w' : World} (h : Lib.BuilderAtF T e B b p bs w) (hc : Chg (fun _ => False) w w') : Lib.BuilderAtF T e B b p bs w' := by
  obtain ⟨hB, v, hb, hown, hne⟩ := h
  have hk : ∀ k o, w.heap[k]? = some o → w'.heap[k]? = some o := fun k o ho => (hc.block k (Array.getElem?_eq_some_iff.1 ho).1 (fun f => f)).trans ho
  refine ⟨hB, v, hk _ _ hb, ⟨hown.1, ?_⟩, hne⟩
  rcases hown.2 with h1 | ⟨g, cap, cur, fz, h1, h2, h3, r⟩
  · exact Or.inl h1
  · exact Or.inr ⟨g, cap, cur, fz, h1, h2, hk _ _ h3, r⟩
theorem builderAtF_chg {T : TypeId} {B b : Nat} {p : Value} {bs : List Value} {w w' : World} {S : Nat → Prop} (h : Lib.BuilderAtF T 5 B b p bs w) (hc : Chg S w w') (hS : ∀ k, S k → k ≠ b ∧ ∀ c fz, w.heap[k]? ≠ some (.cells c 5 fz)) : Lib.BuilderAtF T 5 B b p bs w' := by
  obtain ⟨hB, v, hb, hown, hne⟩ := h
  have hk : ∀ k o, w.heap[k]? = some o → ¬ S k → w'.heap[k]? = some o := fun k o ho hs => (hc.block k (Array.getElem?_eq_some_iff.1 ho).1 hs).trans ho
  refine ⟨hB, v, hk _ _ hb (fun hs => (hS _ hs).1 rfl), ⟨hown.1, ?_⟩, hne⟩
  rcases hown.2 with h1 | ⟨g, cap, cur, fz, h1, h2, h3, r⟩
  · exact Or.inl h1
  · exact Or.inr ⟨g, cap, cur, fz, h1, h2, hk _ _ h3 (fun hs => (hS _ hs).2 _ _ h3), r⟩
theorem Bu.chg {w w' : World} {b : Nat} {l : List UInt8} {S : Nat → Prop} (h : Bu w b l) (hc : Chg S w w') (hS : ∀ k, S k → k ≠ b ∧ ∀ c fz, w.heap[k]? ≠ some (.cells c 5 fz)) : Bu w' b l := by
  rcases h with h | h
  · exact Or.inl (builderAtF_chg h hc hS)
  · exact Or.inr (builderAtF_chg h hc hS)
theorem Bu.new {w w' : World} {b : Nat} {l : List UInt8} (h : Bu w b l) (hc : Chg (fun _ => False) w w') : Bu w' b l := by
  rcases h with h | h
  · exact Or.inl (builderAtF_old h hc)
  · exact Or.inr (builderAtF_old h hc)
/-- w' is w, but for the builder b, for rows of bytes above it, and for new blocks. -/
structure Kb (b : Nat) (w w' : World) : Prop where
  be : Below b w w'
  ot : Lib.OthersKept 5 (some b) w w'
theorem Kb.trans {b : Nat} {u v w : World} (h : Kb b u v) (k : Kb b v w) : Kb b u w := ⟨h.be.trans k.be, h.ot.trans k.ot⟩
theorem Kb.refl (b : Nat) (w : World) : Kb b w w := ⟨Below.refl _ _, Lib.OthersKept.refl _ _ _⟩
theorem Kb.new {b : Nat} {w w' : World} (hc : Chg (fun _ => False) w w') (hb : b ≤ w.heap.size) : Kb b w w' :=
  ⟨⟨hc.os, hc.tape, hc.output, hc.size, fun k hk => hc.block k (by omega) (fun f => f)⟩, fun k o ho _ _ => (hc.block k (Array.getElem?_eq_some_iff.1 ho).1 (fun f => f)).trans ho⟩
theorem Kb.block {b : Nat} {w w' : World} (h : Kb b w w') {g : Nat} {cs : Array Value} {t : TypeId} (hg : w.heap[g]? = some (.cells cs t)) (hb : g ≠ b) (ht : t ≠ 5) : w'.heap[g]? = some (.cells cs t) :=
  h.ot g _ hg (by intro e; exact hb (Option.some.inj e)) (by intro c fz e; injection e with _ e2 _; exact ht e2)
theorem ws_v (b : Nat) (l : List UInt8) (s : ByteArray) (x : List UInt8) (hx : s = sb x) (w : World) (h : Bu w b l) (hlen : l.length + x.length ≤ 140737488355328) :
    Calls Tryz.prog 27 #[.pointer (some ⟨b, 0, none⟩), .string s] w fun e w' => ∃ v, e = .returned v ∧ Bu w' b (l ++ x) ∧ Kb b w w' := by
  subst hx
  refine (Tryz.Builder_WriteString_k b b (Lib.byteCells l) (sb x) w h (by rw [Lib.byteCells_length, sb_size]; exact hlen) (Nat.le_of_lt h.lt)).mono ?_
  rintro e w' ⟨rfl, h1, h2, h3⟩
  refine ⟨_, rfl, Or.inr ?_, ⟨h2, h3⟩⟩
  rw [Lib.byteCells_append]
  exact h1
theorem wb_v (b : Nat) (l : List UInt8) (w : World) (h : Bu w b l) (hlen : l.length + 1 ≤ 140737488355328) :
    Calls Tryz.prog 30 #[.pointer (some ⟨b, 0, none⟩), .int .u8 10] w fun e w' => ∃ v, e = .returned v ∧ Bu w' b (l ++ [10]) ∧ Kb b w w' := by
  refine (Tryz.Builder_WriteByte_k b b (Lib.byteCells l) 10 w h (by rw [Lib.byteCells_length]; exact hlen) (Nat.le_of_lt h.lt)).mono ?_
  rintro e w' ⟨rfl, h1, h2, h3⟩
  refine ⟨_, rfl, Or.inr ?_, ⟨h2, h3⟩⟩
  rw [Lib.byteCells_append]
  exact h1
theorem st_v (b : Nat) (l : List UInt8) (w : World) (h : Bu w b l) :
    Calls Tryz.prog 31 #[.pointer (some ⟨b, 0, none⟩)] w fun e w' => ∃ X : ByteArray, e = .returned (.string X) ∧ Hid (X = sb l) ∧ Kb b w w' := by
  refine (Tryz.Builder_String_any_k b b l w h (Nat.le_of_lt h.lt)).mono ?_
  rintro e w' ⟨rfl, h1, h2, h3⟩
  exact ⟨_, rfl, rfl, ⟨h2, h3⟩⟩
end Go.Proofs.YtepbfdbooobnlaaGreatDoor
