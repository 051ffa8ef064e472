/-
  'append' to a slice of bytes that is the call's own: of bytes that lie somewhere, and of ten noughts. Conditions: there is room (at most 2^47 bytes).
-/
import Derived.Test.YtipeldekiloanaaRefA
import Derived.Lib.AppendZeros
namespace Go.Proofs.Ytipeldekiloanaa
open Go.RowKit
set_option maxRecDepth 100000

theorem wpList_app {w : World} {ops : Array Oper} {rest : List Oper} {o : Oper} {a : Act} {Q : Exit → Act → World → Prop} (hgd : o.guard = none) (s x : Operand)
    (ho : o.op = .call { callee := .builtin .append, args := #[s, x], argTypes := #[28, 28] }) (base : Nat) {v : Value} {l : List Nat} (hs : a.eval s = v) (hown : Own w base 5 v l)
    (g off m c : Nat) (hx : a.eval x = .slice (some ⟨g, off, none⟩) m c) (l2 : List Nat) (hm : l2.length = m) (hA : At w g off l2) (hb : l.length + m ≤ 140737488355328) (hbase : base ≤ w.heap.size)
    (h : ∀ v' w', Own w' base 5 v' (l ++ l2) → Chg (fun k => base ≤ k) w w' → wpList Try.prog ops Q rest (a.put o.dst v') w') : wpList Try.prog ops Q (o :: rest) a w := by
  refine wpList_append_bytes w hgd s x 28 ho base 5 Try.underlying28 info5 v l hs hown (some ⟨g, off, none⟩) m c l2 hx hm (fun e => by cases e) ?_ hb hbase w.heap.size rfl ?_
  · intro ad had j hj
    have e := Option.some.inj had
    subst e
    rw [Addr.add_lit]
    exact hA.2 j (by omega)
  · intro v' w' h1 h2 _
    exact h v' w' h1 ((Chg.refl _ w).grown h2 (fun k hk => Or.inl (hown.block hk).1))
theorem under3 : Try.prog.underlying 3 = some (.int .i64) := Try.underlying3
theorem ten_zeros : (Builtin.zeroCells (Value.int .u8 0).cells 10) = ((List.replicate 10 0).map byt).toArray := by kernel_rfl
theorem run_append_zeros (w : World) (base : Nat) (v : Value) (l : List Nat) (ty : TypeId) (hown : Own w base 5 v l) (h0 : l.length ≠ 0) (hb : l.length + 10 ≤ 1099511627776) (hbase : base ≤ w.heap.size) :
    ∃ v' w', (Builtin.append_ #[28, 3] ty #[v, .int .i64 10]).run Try.prog w = .ok v' w' ∧ Own w' base 5 v' (l ++ List.replicate 10 0) ∧ w.grownBy w' v.ownBlock := by
  obtain ⟨i, hi, hz, hsz, hby⟩ := info5
  have hlen : ((l ++ List.replicate 10 0).map byt).length = (l.length + 10) * 1 := by simp
  rcases hown.2 with ⟨_, h⟩ | ⟨g, cap, cur, rfl, hbg, hg, hnc, hcm, hcs, htake⟩
  · exact absurd h h0
  · by_cases hroom : l.length + 10 ≤ cap
    · have hst := run_storeCells_at Try.prog g l.length 5 ((List.replicate 10 0).map byt) 0 cur w hg (by simp; omega) (byt_one _)
      simp only [Nat.add_zero] at hst
      have ten := ten_zeros
      have hZ : ((List.replicate 10 0).map byt).length = 10 := rfl
      rw [hZ] at hst
      have hw : IntKind.i64.wrap (10 : Int) = 10 := by rw [IntKind.wrap_i64]; omega
      unfold Own
      rw [List.map_append]
      generalize (List.replicate 10 0).map byt = Z at *
      refine ⟨.slice (some ⟨g, 0, none⟩) (l.length + 10) cap, w.setRow g (cur.toList.take l.length ++ Z ++ cur.toList.drop (l.length + 10)).toArray, ?_, ?_, ?_⟩
      · simp [Builtin.append_, run_underlying Try.underlying28, run_underlying Try.underlying3, sizeOf, typeInfo, zeroValue, hi, hz, hsz, hby, asInt, asIntOf, hw, hroom, Addr.add_lit, ten]
        rw [List.append_assoc] at hst
        rw [hst]; rfl
      · refine ⟨by simp [hZ], .inr ⟨g, cap, _, by simp, hbg, setRow_heap w g cur _ 5 _ hg, by simpa using hroom, hcm, ?_, ?_⟩⟩
        · simp only [List.size_toArray, List.length_append, List.length_take, List.length_drop, Array.length_toList, hZ]
          omega
        · have e : cur.toList.take l.length = l.map byt := by rw [← htake, Nat.mul_one]
          rw [e]
          exact List.take_left' (by simp [hZ])
      · exact ⟨rfl, rfl, rfl, by simp, fun k _ hk => setRow_other w g k _ (fun e => hk (by simp [Value.ownBlock, e]))⟩
    · have ten := ten_zeros
      have hw : IntKind.i64.wrap (10 : Int) = 10 := by rw [IntKind.wrap_i64]; omega
      have hge := grownCap_ge w (l.length + 10) cap 5
      have hcm' : grownCap w (l.length + 10) cap 5 ≤ maxLen := grownCap_le_maxLen w (l.length + 10) cap 5 (by unfold maxLen; omega)
      have h48 := growslice_fits (need := l.length + 10) (old := cap) (bytes := i.bytes) (by omega) (by rw [hby]; omega)
      have h48' : ¬ (281474976710656 < Builtin.nextslicecap (l.length + 10) cap) := by rw [hby, Nat.mul_one] at h48; omega
      have h63' : ¬ ((9223372036854775807 : Int) < (l.length : Int) + max 10 0) := by omega
      have hZ : ((List.replicate 10 0).map byt).length = 10 := rfl
      have hfo := run_firstCells_some (P := Try.prog) w.drew 1 l.length ⟨g, 0, none⟩ l.length cap (l.map byt) (by simp) (by
        have := hown.cells (g := g) rfl
        simpa using this)
      unfold Own
      rw [List.map_append]
      generalize (List.replicate 10 0).map byt = Z at *
      refine ⟨.slice (some ⟨w.heap.size, 0, none⟩) (l.length + 10) (grownCap w (l.length + 10) cap 5), w.drew.alloc (.cells ((l.map byt).toArray ++ Z.toArray ++ Builtin.zeroCells (Value.int .u8 0).cells (grownCap w (l.length + 10) cap 5 - (l.length + 10))) 5), ?_, ?_, ?_⟩
      · simp [Builtin.append_, run_underlying Try.underlying28, run_underlying Try.underlying3, sizeOf, typeInfo, zeroValue, hi, hz, hsz, hby, asInt, asIntOf, hw, hroom, h48', h63', Question.forced, hfo, newRow, grownCap, ten]
        congr 2
        apply Array.ext'
        simp [List.append_assoc]
      · refine ⟨by simp [hZ], .inr ⟨w.heap.size, _, _, by simp, hbase, heap_alloc_new w.drew _, by simpa using hge, hcm', ?_, ?_⟩⟩
        · simp only [Array.size_append, List.size_toArray, size_zeroCells, List.length_map, hZ, Nat.mul_one]
          rw [show (Value.int .u8 0).cells.size = 1 from rfl]
          omega
        · simp only [Array.toList_append]
          exact List.take_left' (by simp [hZ])
      · exact ⟨rfl, rfl, rfl, by simp, fun k hk _ => heap_alloc_old w.drew _ hk⟩
theorem wpList_app0 {w : World} {ops : Array Oper} {rest : List Oper} {o : Oper} {a : Act} {Q : Exit → Act → World → Prop} (hgd : o.guard = none) (s x : Operand)
    (ho : o.op = .call { callee := .builtin .append, args := #[s, x], argTypes := #[28, 3] }) (base : Nat) {v : Value} {l : List Nat} (hs : a.eval s = v) (hown : Own w base 5 v l)
    (hx : a.eval x = .int .i64 10) (h0 : l.length ≠ 0) (hb : l.length + 10 ≤ 1099511627776) (hbase : base ≤ w.heap.size) (L : List Nat) (hL : l ++ List.replicate 10 0 = L)
    (h : ∀ v' w', Own w' base 5 v' L → Chg (fun k => base ≤ k) w w' → wpList Try.prog ops Q rest (a.put o.dst v') w') : wpList Try.prog ops Q (o :: rest) a w := by
  obtain ⟨v', w', h1, h2, h3⟩ := run_append_zeros w base v l o.type hown h0 hb hbase
  rw [hL] at h2
  exact Lib.wpList_append_run w hgd s x 28 3 ho v _ hs hx v' w' h1 (h v' w' h2 ((Chg.refl _ w).grown h3 (fun k hk => Or.inl (hown.block hk).1)))
end Go.Proofs.Ytipeldekiloanaa
