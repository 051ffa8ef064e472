/-
  Slices of bytes that came in, as lists of numbers. No condition. Slices of bytes that a call itself has made: what append does to them, whatever is appended (nothing, a nil slice, bytes that came in). Conditions: the bytes lie there; there is room (at most 2^47 bytes). Worlds that differ in some blocks alone; slices of bytes that can be read, or written, in them. No condition: lemmas.
-/
import Derived.Test.YtdofegphipbcdaaTimes
import Derived.OpenShut
import Derived.Test.YtdofegphipbcdaaEval
import Derived.Maps.AppendAt
namespace Go.Proofs.Ytdofegphipbcdaa
set_option maxRecDepth 100000
open Go.RowKit

/-- A slice of integers that came in: it is nil; or it leads to a row of 'cap' cells, the numbers 'zs' (the first 'len' are its elements, the rest its spare room), each fitting its kind. -/
def IsRow (k : IntKind) (w : World) (a : Option Addr) (len cap : Nat) (zs : List Int) : Prop :=
  (a = none ∧ len = 0 ∧ cap = 0 ∧ zs = []) ∨
  ∃ x, a = some x ∧ len ≤ cap ∧ cap ≤ maxLen ∧ zs.length = cap ∧ (∀ i, i < zs.length → w.cell? (x.add i) = some (.int k (zs.getD i 0))) ∧ ∀ n ∈ zs, (Lit.int k n).wf = true

theorem cell_lt {w : World} {a : Addr} {v : Value} (h : w.cell? a = some v) : a.block < w.heap.size := by
  by_cases hb : a.block < w.heap.size
  · exact hb
  · rw [World.cell?, Array.getElem?_eq_none (by omega)] at h; cases h
theorem rd_of_row {w : World} {a : Option Addr} {len cap : Nat} {zs : List Int} (h : IsRow .u8 w a len cap zs) :
    ∃ l : List Nat, l.length = len ∧ len ≤ cap ∧ (a = none → len = 0 ∧ cap = 0) ∧ ∀ b, w.heap.size ≤ b → Rd w b a l := by
  rcases h with ⟨rfl, rfl, rfl, rfl⟩ | ⟨x, rfl, hl, hm, hz, hcell, hwz⟩
  · exact ⟨[], rfl, Nat.le_refl _, fun _ => ⟨rfl, rfl⟩, fun b _ => ⟨fun n hn => (by cases hn), Or.inl rfl⟩⟩
  · refine ⟨(zs.take len).map Int.toNat, by simp; omega, hl, fun h => (by cases h), fun b hb => ⟨?_, ?_⟩⟩
    · intro n hn
      obtain ⟨z, hz1, rfl⟩ := List.mem_map.1 hn
      have := bounds_u8 (hwz z (List.mem_of_mem_take hz1))
      omega
    · by_cases h0 : len = 0
      · left; subst h0; rfl
      · right
        obtain ⟨c, o, spot⟩ := x
        have hspot : spot = none := by simpa [Addr.add] using World.cell?_spot (hcell 0 (by omega))
        subst hspot
        have hlt : c < w.heap.size := by simpa [Addr.add] using cell_lt (hcell 0 (by omega))
        refine ⟨c, o, rfl, by omega, hlt, fun i hi => ?_⟩
        have hi' : i < len := by simp at hi; omega
        have h1 : w.cell? ⟨c, o + i, none⟩ = some (.int .u8 (zs.getD i 0)) := by
          have hh := hcell i (by omega)
          simp only [Addr.add] at hh
          by_cases i0 : i = 0
          · subst i0; simpa using hh
          · simpa [i0] using hh
        rw [h1]
        have hb1 := bounds_u8 (hwz (zs.getD i 0) (by rw [List.getD_eq_getElem?_getD, List.getElem?_eq_getElem (by omega)]; exact List.getElem_mem _))
        have e : ((zs.take len).map Int.toNat).getD i 0 = (zs.getD i 0).toNat := by
          rw [List.getD_eq_getElem?_getD, List.getElem?_map, List.getElem?_take_of_lt hi', List.getD_eq_getElem?_getD, List.getElem?_eq_getElem (by omega)]; rfl
        rw [e]
        congr 2
        omega
end Go.Proofs.Ytdofegphipbcdaa
namespace Go.Proofs.Ytdofegphipbcdaa
set_option maxRecDepth 100000
open Go.RowKit

/-- A byte, as a value. -/
def byt (n : Nat) : Value := .int .u8 (n : Int)
/-- The slice v is the call's own (its block is base or above), of the bytes l. -/
def Own (w : World) (base : Nat) (e : TypeId) (v : Value) (l : List Nat) : Prop := w.ownsRow base e 1 v l.length (l.map byt)
theorem byt_one (l : List Nat) : ∀ u ∈ l.map byt, u.oneCell' = true := by
  intro u hu
  obtain ⟨n, _, rfl⟩ := List.mem_map.1 hu
  rfl
theorem Own.nil (w : World) (base : Nat) (e : TypeId) : Own w base e (.slice none 0 0) [] := ⟨rfl, Or.inl ⟨rfl, rfl⟩⟩
/-- Where it lies. -/
theorem Own.lies {w : World} {base : Nat} {e : TypeId} {v : Value} {l : List Nat} (h : Own w base e v l) (h0 : l.length ≠ 0) :
    ∃ g cap, v = .slice (some ⟨g, 0, none⟩) l.length cap ∧ base ≤ g ∧ g < w.heap.size ∧ l.length ≤ cap ∧ (∀ i, i < l.length → w.cell? ⟨g, i, none⟩ = some (.int .u8 (l.getD i 0 : Nat))) ∧ ∀ i, w.frozen? ⟨g, i, none⟩ = false := by
  rcases h.2 with ⟨_, h1⟩ | ⟨g, cap, cur, hv, hg, hh, hn, hm, hs, ht⟩
  · exact absurd h1 h0
  · refine ⟨g, cap, hv, hg, (Array.getElem?_eq_some_iff.1 hh).1, hn, fun i hi => ?_, fun i => by simp [World.frozen?, hh]⟩
    have e1 : cur[i]? = some (byt (l.getD i 0)) := by
      have h2 : (cur.toList.take (l.length * 1))[i]? = (l.map byt)[i]? := by rw [ht]
      rw [List.getElem?_take_of_lt (by omega), List.getElem?_map, List.getElem?_eq_getElem hi, Array.getElem?_toList] at h2
      rw [h2, List.getD_eq_getElem?_getD, List.getElem?_eq_getElem hi]; rfl
    simp only [World.cell?, hh]
    simpa [byt] using e1
theorem Own.rd {w : World} {base b : Nat} {e : TypeId} {a : Option Addr} {n cap : Nat} {l : List Nat} (h : Own w base e (.slice a n cap) l) (hl : Bys l) (hb : b < base) : Rd w b a l := by
  refine ⟨hl, ?_⟩
  by_cases h0 : l.length = 0
  · exact Or.inl (List.length_eq_zero_iff.1 h0)
  · obtain ⟨g, cap', hv, hg, hs, _, hc, _⟩ := h.lies h0
    simp only [Value.slice.injEq] at hv
    exact Or.inr ⟨g, 0, hv.1, by omega, hs, fun i hi => by rw [Nat.zero_add]; exact hc i hi⟩

/-- 'append(v, x...)', v the call's own, x whatever can be read. -/
theorem wpList_append_bytes {P : Program} (w : World) {ops : Array Oper} {rest : List Oper} {o : Oper} {a : Act} {Q : Exit → Act → World → Prop} (hgd : o.guard = none) (s x : Operand) (t : TypeId)
    (ho : o.op = .call { callee := .builtin .append, args := #[s, x], argTypes := #[t, t] })
    (base : Nat) (e : TypeId) (ht : P.underlying t = some (.slice e)) (hi : ∃ i, P.info? e = some i ∧ i.zero = some (.int .u8 0) ∧ i.size = 1 ∧ i.bytes = 1)
    (v : Value) (l : List Nat) (hs : a.eval s = v) (hown : Own w base e v l)
    (ao : Option Addr) (m c : Nat) (l2 : List Nat) (hx : a.eval x = .slice ao m c) (hm : l2.length = m) (hnone : ao = none → m = 0 ∧ c = 0)
    (hc : ∀ ad, ao = some ad → ∀ j, j < m → w.cell? (ad.add j) = some (.int .u8 (l2.getD j 0 : Nat)))
    (hbytes : l.length + m ≤ 140737488355328) (hbase : base ≤ w.heap.size) (H : Nat) (hH : w.heap.size = H)
    (h : ∀ v' w', Own w' base e v' (l ++ l2) → w.grownBy w' v.ownBlock → (v'.ownBlock = v.ownBlock ∨ v'.ownBlock = some H) → wpList P ops Q rest (a.put o.dst v') w') : wpList P ops Q (o :: rest) a w := by
  obtain ⟨i, hi1, hi2, hi3, hi4⟩ := hi
  cases ao with
  | some ad =>
    refine wpList_append_own_at w hgd s x t ho base e i (.int .u8 0) 1 1 ht hi1 hi2 hi3 hi4 rfl (by decide) v l.length (l.map byt) hs hown ad m c (l2.map byt) hx (by simp [hm]) ?_ (byt_one l2) (by unfold maxLen; omega) (by omega) hbase ?_
    · intro j u hu
      have hj : j < l2.length := by
        have := (List.getElem?_eq_some_iff.1 hu).1
        simpa using this
      rw [List.getElem?_map, List.getElem?_eq_getElem hj] at hu
      have e1 := hc ad rfl j (by omega)
      rw [List.getD_eq_getElem?_getD, List.getElem?_eq_getElem hj] at e1
      rw [e1]
      exact hu
    · intro v' w' h1 h2 _ h4
      refine h v' w' ?_ h2 (by rw [← hH]; exact h4)
      unfold Own
      rw [List.length_append, hm, List.map_append]
      exact h1
  | none =>
    obtain ⟨rfl, rfl⟩ := hnone rfl
    have hl2 : l2 = [] := List.length_eq_zero_iff.1 hm
    subst hl2
    refine wpList_plain hgd fun K hK => ?_
    have hrun := run_append_owned_none (P := P) w base t o.type e i 1 ht hi1 v l.length (l.map byt) hown
    unfold Oper.wp
    simp [execOp, ho, resolve, invoke, builtin, hs, hx, hrun, Result.andThen]
    refine hK _ _ (h v w ?_ ⟨rfl, rfl, rfl, Nat.le_refl _, fun _ _ _ => rfl⟩ (Or.inl rfl))
    rw [List.append_nil]
    exact hown
end Go.Proofs.Ytdofegphipbcdaa
namespace Go.Proofs.Ytdofegphipbcdaa
set_option maxRecDepth 100000
open Go.RowKit

/-- w' is w, but for the blocks of S and for new ones. -/
structure Chg (S : Nat → Prop) (w w' : World) : Prop where
  os : w'.os = w.os
  tape : w'.tape = w.tape
  output : w'.output = w.output
  size : w.heap.size ≤ w'.heap.size
  block : ∀ k, k < w.heap.size → ¬ S k → w'.heap[k]? = w.heap[k]?
theorem Chg.refl (S : Nat → Prop) (w : World) : Chg S w w := ⟨rfl, rfl, rfl, Nat.le_refl _, fun _ _ _ => rfl⟩
theorem Chg.trans {S : Nat → Prop} {u v w : World} (h : Chg S u v) (k : Chg S v w) : Chg S u w :=
  ⟨k.os.trans h.os, k.tape.trans h.tape, k.output.trans h.output, Nat.le_trans h.size k.size, fun i hi hs => (k.block i (Nat.lt_of_lt_of_le hi h.size) hs).trans (h.block i hi hs)⟩
/-- What the second step changes besides is new since the first. -/
theorem Chg.trans' {S T : Nat → Prop} {u v w : World} (h : Chg S u v) (k : Chg T v w) (hT : ∀ i, i < u.heap.size → T i → S i) : Chg S u w :=
  ⟨k.os.trans h.os, k.tape.trans h.tape, k.output.trans h.output, Nat.le_trans h.size k.size, fun i hi hs => (k.block i (Nat.lt_of_lt_of_le hi h.size) (fun ht => hs (hT i hi ht))).trans (h.block i hi hs)⟩
theorem Chg.mono {S T : Nat → Prop} {u v : World} (h : Chg S u v) (hT : ∀ i, i < u.heap.size → S i → T i) : Chg T u v :=
  ⟨h.os, h.tape, h.output, h.size, fun i hi hs => h.block i hi (fun hh => hs (hT i hi hh))⟩
theorem Chg.drew {S : Nat → Prop} {u w : World} (h : Chg S u w) : Chg S u w.drew := ⟨h.os, h.tape, h.output, h.size, h.block⟩
theorem Chg.alloc {S : Nat → Prop} {u w : World} (h : Chg S u w) (o : Obj) : Chg S u (w.alloc o) :=
  h.trans ⟨rfl, rfl, rfl, by simp, fun k hk _ => Below.heap_alloc _ _ _ hk⟩
theorem Chg.setCell {S : Nat → Prop} {u w : World} (h : Chg S u w) {g : Nat} (hg : S g ∨ u.heap.size ≤ g) (o : Nat) (v : Value) : Chg S u (w.setCell ⟨g, o, none⟩ v) :=
  ⟨h.os, h.tape, h.output, by simp [World.setCell]; exact h.size, fun k hk hs => (Below.heap_setCell _ _ _ _ (by
    rcases hg with hg | hg
    · intro e; exact hs (by rw [e]; exact hg)
    · simp; omega)).trans (h.block k hk hs)⟩
theorem Chg.grown {S : Nat → Prop} {u w w' : World} {row : Option Nat} (h : Chg S u w) (hg : w.grownBy w' row) (hr : ∀ k, row = some k → S k ∨ u.heap.size ≤ k) : Chg S u w' :=
  ⟨hg.os.trans h.os, hg.tape.trans h.tape, hg.output.trans h.output, Nat.le_trans h.size hg.size, fun k hk hs => (hg.block k (Nat.lt_of_lt_of_le hk h.size) (fun e => by
    rcases hr k e.symm with h1 | h1
    · exact hs h1
    · omega)).trans (h.block k hk hs)⟩
theorem Chg.below {S : Nat → Prop} {w w' : World} (h : Chg S w w') {B : Nat} (hS : ∀ k, S k → B ≤ k) (hB : B ≤ w.heap.size) : Below B w w' :=
  ⟨h.os, h.tape, h.output, h.size, fun k hk => h.block k (by omega) (fun hh => by have := hS k hh; omega)⟩
theorem But.chg {b : Nat} {w w' : World} (h : But b w w') : Chg (· = b) w w' := ⟨h.os, h.tape, h.output, h.size, h.block⟩
theorem Chg.but {b : Nat} {w w' : World} (h : Chg (fun _ => False) w w') : But b w w' := ⟨h.os, h.tape, h.output, h.size, fun k hk _ => h.block k hk (fun f => f)⟩
theorem Below.chg {B : Nat} {w w' : World} (h : Below B w w') : Chg (fun k => B ≤ k) w w' := ⟨h.os, h.tape, h.output, h.size, fun k _ hs => h.block k (by omega)⟩
theorem Chg.drewN {S : Nat → Prop} {u w : World} (h : Chg S u w) (n : Nat) : Chg S u (w.drewN n) := by
  induction n with
  | zero => exact h
  | succ n ih => exact ih.drew

/-- The slice v reads as the bytes l. -/
def Held (w : World) (v : Value) (l : List Nat) : Prop :=
  ∃ a cap, v = .slice a l.length cap ∧ (l.length = 0 ∨ ∃ g o, a = some ⟨g, o, none⟩ ∧ g < w.heap.size ∧ ∀ i, i < l.length → w.cell? ⟨g, o + i, none⟩ = some (.int .u8 (l.getD i 0 : Nat)))
theorem Held.keep {w w' : World} {v : Value} {l : List Nat} (h : Held w v l) (hs : w.heap.size ≤ w'.heap.size) (hk : ∀ k, k < w.heap.size → v.ownBlock = some k → w'.heap[k]? = w.heap[k]?) : Held w' v l := by
  obtain ⟨a, cap, rfl, h⟩ := h
  refine ⟨a, cap, rfl, ?_⟩
  rcases h with h | ⟨g, o, rfl, hg, hc⟩
  · exact Or.inl h
  · exact Or.inr ⟨g, o, rfl, Nat.lt_of_lt_of_le hg hs, fun i hi => (World.cell?_of_block (w := w) (a := ⟨g, o + i, none⟩) (hk g hg rfl)).trans (hc i hi)⟩
theorem Held.chg {S : Nat → Prop} {w w' : World} {v : Value} {l : List Nat} (h : Held w v l) (hc : Chg S w w') (hs : ∀ k, k < w.heap.size → v.ownBlock = some k → ¬ S k) : Held w' v l :=
  h.keep hc.size (fun k hk he => hc.block k hk (hs k hk he))
theorem Own.held {w : World} {base : Nat} {e : TypeId} {v : Value} {l : List Nat} (h : Own w base e v l) : Held w v l := by
  by_cases h0 : l.length = 0
  · rcases h.2 with ⟨rfl, _⟩ | ⟨g, cap, cur, rfl, _⟩
    · exact ⟨none, 0, by rw [h0], Or.inl h0⟩
    · exact ⟨_, cap, rfl, Or.inl h0⟩
  · obtain ⟨g, cap, rfl, hg, hs, _, hc, _⟩ := h.lies h0
    exact ⟨_, cap, rfl, Or.inr ⟨g, 0, rfl, hs, fun i hi => by rw [Nat.zero_add]; exact hc i hi⟩⟩
theorem Own.block {w : World} {base : Nat} {e : TypeId} {v : Value} {l : List Nat} (h : Own w base e v l) {k : Nat} (hk : v.ownBlock = some k) : base ≤ k ∧ k < w.heap.size := by
  rcases h.2 with ⟨rfl, _⟩ | ⟨g, cap, cur, rfl, hb, hh, _⟩
  · cases hk
  · have e : g = k := Option.some.inj hk
    subst e
    exact ⟨hb, (Array.getElem?_eq_some_iff.1 hh).1⟩
theorem Own.keep {w w' : World} {base : Nat} {e : TypeId} {v : Value} {l : List Nat} (h : Own w base e v l) (hk : ∀ k, k < w.heap.size → v.ownBlock = some k → w'.heap[k]? = w.heap[k]?) : Own w' base e v l := by
  refine ⟨h.1, ?_⟩
  rcases h.2 with h1 | ⟨g, cap, cur, rfl, hb, hh, r⟩
  · exact Or.inl h1
  · exact Or.inr ⟨g, cap, cur, rfl, hb, (hk g (Array.getElem?_eq_some_iff.1 hh).1 rfl).trans hh, r⟩
theorem Own.chg {S : Nat → Prop} {w w' : World} {base : Nat} {e : TypeId} {v : Value} {l : List Nat} (h : Own w base e v l) (hc : Chg S w w') (hs : ∀ k, k < w.heap.size → v.ownBlock = some k → ¬ S k) : Own w' base e v l :=
  h.keep (fun k hk he => hc.block k hk (hs k hk he))
theorem Own.mono {w : World} {base base' : Nat} {e : TypeId} {v : Value} {l : List Nat} (h : Own w base e v l) (hb : ∀ k, v.ownBlock = some k → base' ≤ k) : Own w base' e v l := by
  refine ⟨h.1, ?_⟩
  rcases h.2 with h1 | ⟨g, cap, cur, rfl, _, r⟩
  · exact Or.inl h1
  · exact Or.inr ⟨g, cap, cur, rfl, hb g rfl, r⟩
/-- A store into a slice of the call's own. -/
theorem Own.store {w : World} {base : Nat} {e : TypeId} {g n cap : Nat} {l : List Nat} (h : Own w base e (.slice (some ⟨g, 0, none⟩) n cap) l) (k x : Nat) (_hk : k < l.length) :
    Own (w.setCell ⟨g, k, none⟩ (.int .u8 (x : Int))) base e (.slice (some ⟨g, 0, none⟩) n cap) (l.set k x) := by
  rcases h.2 with ⟨h1, _⟩ | ⟨g', cap', cur, hv, hb, hh, hn, hm, hs, ht⟩
  · cases h1
  · simp only [Value.slice.injEq, Option.some.injEq, Addr.mk.injEq] at hv
    obtain ⟨⟨rfl, _, _⟩, rfl, rfl⟩ := hv
    refine ⟨by simp, Or.inr ⟨g, cap, cur.setIfInBounds k (.int .u8 (x : Int)), by simp, hb, ?_, by simpa using hn, hm, by simpa using hs, ?_⟩⟩
    · simp [World.setCell, Array.getElem?_modify, hh]
    · rw [Array.toList_setIfInBounds, List.take_set, List.length_set, ht, List.map_set]; rfl
theorem Own.at_store {w : World} {base : Nat} {e : TypeId} {v : Value} {l : List Nat} (h : Own w base e v l) (h0 : l.length ≠ 0) : ∃ g cap, v = .slice (some ⟨g, 0, none⟩) l.length cap := by
  obtain ⟨g, cap, hv, _⟩ := h.lies h0
  exact ⟨g, cap, hv⟩
/-- A block laid as a row of bytes is the call's own. -/
theorem Own.new (w : World) (e : TypeId) (l : List Nat) (hl : l.length ≤ maxLen) : Own (w.alloc (.cells (bcells l) e)) w.heap.size e (.slice (some ⟨w.heap.size, 0, none⟩) l.length l.length) l := by
  refine ⟨by simp, Or.inr ⟨w.heap.size, l.length, bcells l, rfl, Nat.le_refl _, ?_, Nat.le_refl _, hl, by rw [bcells_size, Nat.mul_one], ?_⟩⟩
  · show (w.heap.push _)[w.heap.size]? = _
    simp
  · rw [Nat.mul_one]
    show (l.map _).take _ = _
    rw [List.take_of_length_le (by simp)]; rfl
theorem Own.of_bat {w : World} {g base : Nat} {l : List Nat} (h : Bat w g l) (hb : base ≤ g) (hl : l.length ≤ maxLen) : Own w base 5 (.slice (some ⟨g, 0, none⟩) l.length l.length) l := by
  refine ⟨by simp, Or.inr ⟨g, l.length, bcells l, rfl, hb, h, Nat.le_refl _, hl, by rw [bcells_size, Nat.mul_one], ?_⟩⟩
  rw [Nat.mul_one]
  show (l.map _).take _ = _
  rw [List.take_of_length_le (by simp)]; rfl
end Go.Proofs.Ytdofegphipbcdaa
