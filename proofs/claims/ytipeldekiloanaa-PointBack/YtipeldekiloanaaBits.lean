/-
  point.bitsOf and point.blocksOf, walked: twelve bools as a number, and back. No condition.
-/
import Derived.Test.YtipeldekiloanaaChk
namespace Go.Proofs.Ytipeldekiloanaa
open Go.RowKit
set_option maxRecDepth 100000

/-- The number in which bit i is 1, if f i, of the first n. -/
def bitsN (f : Nat → Bool) : Nat → Nat
  | 0 => 0
  | n + 1 => bitsN f n + (if f n then 2 ^ n else 0)
theorem bitsN_lt (f : Nat → Bool) : ∀ n, bitsN f n < 2 ^ n
  | 0 => by simp [bitsN]
  | n + 1 => by
    have := bitsN_lt f n
    rw [bitsN, Nat.pow_succ]
    split <;> omega
theorem bitsN_12 (f : Nat → Bool) : bitsN f 12 < 4096 := bitsN_lt f 12
theorem or_pow (a k : Nat) (h : a < 2 ^ k) : a ||| 2 ^ k = a + 2 ^ k := by
  have := Nat.two_pow_add_eq_or_of_lt h 1
  rw [Nat.mul_one] at this
  rw [Nat.or_comm, ← this, Nat.add_comm]
theorem index23 (f : Nat → Bool) (i : Nat) (hi : i < 12) (w : World) : (Instr.index 23 (.agg (bools f 12).toArray) (.int .i64 i)).run Try.prog w = .ok (.bool (f i)) w := by
  have h := bools_at f 12 i hi
  generalize bools f 12 = L at *
  simp [Instr.index, run_underlying Try.underlying23, asIntOf, go_sem, hi, h]
theorem index22 (f : Nat → Int) (i : Nat) (hi : i < 24) (w : World) : (Instr.index 22 (.agg (ints f 24).toArray) (.int .i64 i)).run Try.prog w = .ok (.int .i64 (f i)) w := by
  have h := ints_at f 24 i hi
  generalize ints f 24 = L at *
  simp [Instr.index, run_underlying Try.underlying22, asIntOf, go_sem, hi, h, i6]
theorem index24 (f : Nat → Int) (i : Nat) (hi : i < 12) (w : World) : (Instr.index 24 (.agg (ints f 12).toArray) (.int .i64 i)).run Try.prog w = .ok (.int .i64 (f i)) w := by
  have h := ints_at f 12 i hi
  generalize ints f 12 = L at *
  simp [Instr.index, run_underlying Try.underlying24, asIntOf, go_sem, hi, h, i6]
/-- Block b holds twelve bools. -/
def Bo (w : World) (b : Nat) (f : Nat → Bool) : Prop := w.heap[b]? = some (.cells (bools f 12).toArray 23)
theorem Bo.new (w : World) (f : Nat → Bool) : Bo (w.alloc (.cells (bools f 12).toArray 23)) w.heap.size f := by
  show (w.heap.push _)[w.heap.size]? = _
  simp
theorem Bo.lt {w : World} {b : Nat} {f : Nat → Bool} (h : Bo w b f) : b < w.heap.size := (Array.getElem?_eq_some_iff.1 (show w.heap[b]? = some _ from h)).1
theorem Bo.chg {S : Nat → Prop} {w w' : World} {b : Nat} {f : Nat → Bool} (h : Bo w b f) (hc : Chg S w w') (hb : ¬ S b) : Bo w' b f := (hc.block b h.lt hb).trans h
theorem Bo.alloc {w : World} {b : Nat} {f : Nat → Bool} (h : Bo w b f) (x : Obj) : Bo (w.alloc x) b f := (Below.heap_alloc _ _ _ h.lt).trans h
theorem Bo.setOther {w : World} {b : Nat} {f : Nat → Bool} (h : Bo w b f) {k : Nat} (hg : k ≠ b) (i : Nat) (v : Value) : Bo (w.setCell ⟨k, i, none⟩ v) b f :=
  (Below.heap_setCell _ _ _ _ (by simp; omega)).trans h
theorem Bo.set {w : World} {b : Nat} {f : Nat → Bool} (h : Bo w b f) (i : Nat) (z : Bool) : Bo (w.setCell ⟨b, i, none⟩ (.bool z)) b (upd f i z) := by
  have h' : w.heap[b]? = some _ := h
  show (w.setCell ⟨b, i, none⟩ _).heap[b]? = _
  have e2 : (bools f 12).toArray.setIfInBounds i (.bool z) = (bools (upd f i z) 12).toArray := by
    apply Array.ext'
    simp [← bools_set]
  simp [World.setCell, Array.getElem?_modify, h', e2]
theorem Bo.cell {w : World} {b : Nat} {f : Nat → Bool} (h : Bo w b f) (i : Nat) (hi : i < 12) : w.cell? ⟨b, i, none⟩ = some (.bool (f i)) ∧ w.frozen? ⟨b, i, none⟩ = false := by
  have h' : w.heap[b]? = some _ := h
  refine ⟨?_, by simp [World.frozen?, h']⟩
  simp only [World.cell?, h']
  simpa using bools_at f 12 i hi
theorem bools_size (f : Nat → Bool) : ((bools f 12).toArray).size = 12 := by simp [bools_length]
theorem wpList_load_bo {ops : Array Oper} {rest : List Oper} {o : Oper} {a : Act} {w : World} {Q : Exit → Act → World → Prop} (hgd : o.guard = none) (x : Operand) (ho : o.op = .load 23 x)
    (g : Nat) (hx : a.eval x = .pointer (some ⟨g, 0, none⟩)) {f : Nat → Bool} (hg : Bo w g f)
    (h : wpList Try.prog ops Q rest (a.put o.dst (.agg (bools f 12).toArray)) w) : wpList Try.prog ops Q (o :: rest) a w :=
  wpList_load_row hgd 23 x ho g hx 23 _ _ _ hg Try.underlying23 rfl (by rw [bools_size]; exact size23) h
theorem wpList_store_bo {ops : Array Oper} {rest : List Oper} {o : Oper} {a : Act} {w : World} {Q : Exit → Act → World → Prop} (hgd : o.guard = none) (x y : Operand) (ho : o.op = .store 23 x y)
    (g : Nat) (hx : a.eval x = .pointer (some ⟨g, 0, none⟩)) {f : Nat → Bool} (hy : a.eval y = .agg (bools f 12).toArray) {f' : Nat → Bool} (hg : Bo w g f')
    (h : ∀ w', Bo w' g f → Chg (· = g) w w' → wpList Try.prog ops Q rest (a.put o.dst undef) w') : wpList Try.prog ops Q (o :: rest) a w :=
  wpList_store_row hgd 23 x y ho g _ hx hy 23 _ hg (by rw [bools_size]; exact size23) (by rw [bools_size, bools_size]) (all_oneCell_toArray (bools_one f 12)) (h _ (setRow_heap w g _ _ 23 _ hg) ⟨rfl, rfl, rfl, by simp, fun k _ hk => setRow_other _ _ _ _ hk⟩)
theorem results_bo {fn : Func} {q : Tmp} (h : fn.results = #[.cell q 23]) (tmps : Array Value) {w : World} {g : Nat} {f : Nat → Bool} (hp : tmps.getD q undef = .pointer (some ⟨g, 0, none⟩)) (hT : Bo w g f) :
    (results fn tmps).run Try.prog w = .ok (.agg (bools f 12).toArray) w :=
  results_cell_row h tmps w g 23 _ _ _ hp hT Try.underlying23 rfl (by rw [bools_size]; exact size23)
theorem zero23 (w : World) : (zeroValue 23).run Try.prog w = .ok (.agg (bools (fun _ => false) 12).toArray) w := by kernel_rfl
theorem wpList_alloc_bo {ops : Array Oper} {rest : List Oper} {o : Oper} {a : Act} {w : World} {Q : Exit → Act → World → Prop} (hgd : o.guard = none) (ho : o.op = .alloc 23)
    (h : wpList Try.prog ops Q rest (a.put o.dst (.pointer (some ⟨w.heap.size, 0, none⟩))) (w.alloc (.cells (bools (fun _ => false) 12).toArray 23))) : wpList Try.prog ops Q (o :: rest) a w := by
  refine wpList_plain hgd fun K hK => ?_
  have hz := zero23
  unfold Oper.wp
  simp [execOp, ho, Instr.alloc, hz, newVar, Value.cells, newRow]
  exact hK _ _ h

set_option maxHeartbeats 2000000 in
theorem bits_any (w : World) (f : Nat → Bool) :
    Calls Try.prog 21 #[.agg (bools f 12).toArray] w fun e w' => e = .returned (.int .u64 (bitsN f 12 : Nat)) ∧ Chg (fun _ => False) w w' := by
  have HB := hyd (Bo.new w f)
  have HG : Hid (Chg (fun _ => False) w (w.alloc (.cells (bools f 12).toArray 23))) := hyd ((Chg.refl _ w).alloc _)
  go_enter Try.func21, Try.ntmps21
  go_wp2_with (refine wpList_load_bo rfl (.tmp 1) rfl w.heap.size rfl HB.out ?_)
  go_loopw [3, 7] (fun v t wr => ∃ k : Nat, k ≤ 12 ∧ t = .int .i64 k ∧ v = .int .u64 (bitsN f k : Nat) ∧ Chg (fun _ => False) w wr) (fun _ t _ => 12 - (intOf t).toNat)
  case atStart => exact ⟨0, by decide, rfl, rfl, HG.out⟩
  case round =>
    obtain ⟨k, hk, rfl, rfl, hG⟩ := hrel
    by_cases hlt : k < 12
    · have hlt' : (k : Int) < 12 := by omega
      have hkb : (0 : Int) ≤ (k : Int) := by omega
      have hix := index23 f k hlt
      have hb := bitsN_lt f k
      have hp : 2 ^ k ≤ 2 ^ 11 := Nat.pow_le_pow_right (by decide) (by omega)
      cases hf : f k with
      | false =>
        rw [hf] at hix
        have HE : Hid (bitsN f (k + 1) = bitsN f k) := hyd (by rw [bitsN, hf]; rfl)
        go_wp2
        exact ⟨⟨k + 1, by omega, by go_num, by rw [HE.out], hG⟩, by simp [intOf]; omega⟩
      | true =>
        rw [hf] at hix
        have HE : Hid (bitsN f (k + 1) = bitsN f k ||| 2 ^ k) := hyd (by rw [bitsN, hf, or_pow _ _ hb]; rfl)
        have HO : Hid (bits .or .u64 (bitsN f k : Int) (IntKind.u64.wrap (2 ^ k)) = (bitsN f k ||| 2 ^ k : Nat)) := by
          have e : (2 ^ k : Int) = ((2 ^ k : Nat) : Int) := by push_cast; rfl
          rw [e, wrap_u64_small _ (by omega), u64_or_nat _ _ (by omega) (by omega)]
          rfl
        go_wp2
        exact ⟨⟨k + 1, by omega, by go_num, by rw [HO.out, HE.out], hG⟩, by simp [intOf]; omega⟩
    · have e : k = 12 := by omega
      subst e
      go_wp2
      go_ret
      exact ⟨rfl, hG⟩
theorem u64_and_nat (a b : Nat) (ha : a < 18446744073709551616) (hb : b < 18446744073709551616) : bits .and .u64 (a : Int) (b : Int) = ((a &&& b : Nat) : Int) := by
  show IntKind.u64.wrap (((BitVec.ofInt 64 (a : Int)) &&& (BitVec.ofInt 64 (b : Int))).toNat : Int) = _
  rw [BitVec.toNat_and, u64_toNat a ha, u64_toNat b hb]
  exact wrap_u64_small _ (Nat.lt_of_le_of_lt Nat.and_le_left ha)
theorem bit_at (v k : Nat) (hv : v < 65536) : (bits .and .u64 ((v : Int) / 2 ^ k) 1 == 1) = v.testBit k := by
  have e : (v : Int) / 2 ^ k = ((v / 2 ^ k : Nat) : Int) := by push_cast; rfl
  have hd : v / 2 ^ k ≤ v := Nat.div_le_self _ _
  rw [e, show (1 : Int) = ((1 : Nat) : Int) from rfl, u64_and_nat _ _ (by omega) (by decide), Nat.and_one_is_mod, Nat.testBit_eq_decide_div_mod_eq]
  by_cases h : v / 2 ^ k % 2 = 1
  · rw [h]; rfl
  · have : v / 2 ^ k % 2 = 0 := by omega
    rw [this]; rfl
/-- What blocksOf has told behind k blocks. -/
def tol (v k i : Nat) : Bool := if i < k then v.testBit i else false
theorem tol_upd (v k : Nat) : upd (tol v k) k (v.testBit k) = tol v (k + 1) := by
  funext j
  unfold upd tol
  by_cases h : j = k
  · subst h; simp
  · by_cases h2 : j < k
    · rw [if_neg h, if_pos h2, if_pos (by omega)]
    · rw [if_neg h, if_neg h2, if_neg (by omega)]
set_option maxHeartbeats 2000000 in
theorem blocks_any (w : World) (v : Nat) (hv : v < 65536) :
    Calls Try.prog 24 #[.int .u64 (v : Int)] w fun e w' => e = .returned (.agg (bools (fun i => v.testBit i) 12).toArray) ∧ Chg (fun _ => False) w w' := by
  have HB1 : Hid (Bo ((w.alloc (.cells (bools (fun _ => false) 12).toArray 23)).alloc (.cells (bools (fun _ => false) 12).toArray 23)) (w.heap.size + 1) (tol v 0)) := by
    have := Bo.new (w.alloc (.cells (bools (fun _ => false) 12).toArray 23)) (fun _ => false)
    have e : tol v 0 = fun _ => false := by funext i; simp [tol]
    exact hyd (by rw [e]; simpa using this)
  have HB0 : Hid (Bo ((w.alloc (.cells (bools (fun _ => false) 12).toArray 23)).alloc (.cells (bools (fun _ => false) 12).toArray 23)) w.heap.size (fun _ => false)) := hyd ((Bo.new w _).alloc _)
  have HG : Hid (Chg (fun _ => False) w ((w.alloc (.cells (bools (fun _ => false) 12).toArray 23)).alloc (.cells (bools (fun _ => false) 12).toArray 23))) := hyd (((Chg.refl _ w).alloc _).alloc _)
  go_enter Try.func24, Try.ntmps24
  go_wp2_with (refine wpList_alloc_bo rfl rfl ?_)
  go_loopw [5] (fun t wr => ∃ k : Nat, k ≤ 12 ∧ t = .int .i64 k ∧ Bo wr (w.heap.size + 1) (tol v k) ∧ Bo wr w.heap.size (fun _ => false) ∧ Chg (fun _ => False) w wr) (fun t _ => 12 - (intOf t).toNat)
  case atStart => exact ⟨0, by decide, rfl, HB1.out, HB0.out, HG.out⟩
  case round =>
    obtain ⟨k, hk, rfl, hB, h0, hG⟩ := hrel
    by_cases hlt : k < 12
    · have hlt' : (k : Int) < 12 := by omega
      have hkb : (0 : Int) ≤ (k : Int) := by omega
      obtain ⟨k1, k2⟩ := hB.cell k hlt
      have HB := hyd hB
      have H0 := hyd h0
      have HG := hyd hG
      clear hB h0 hG
      have HQ := hyd (bit_at v k hv)
      go_wp2
      rw [HQ.out]
      refine ⟨⟨k + 1, by omega, by go_num, ?_, H0.out.setOther (by omega) _ _, HG.out.setCell (Or.inr (by omega)) _ _⟩, by simp [intOf]; omega⟩
      rw [← tol_upd]
      exact HB.out.set _ _
    · have e : k = 12 := by omega
      subst e
      have HB := hyd hB
      have H0 := hyd h0
      have HG := hyd hG
      clear hB h0 hG
      go_wp2_with (first | refine wpList_load_bo rfl (.tmp 3) rfl (w.heap.size + 1) rfl HB.out ?_ | refine wpList_store_bo rfl (.tmp 2) (.tmp 16) rfl w.heap.size rfl rfl H0.out ?_)
      intro w3 T3 G3
      have HT3 := hyd T3
      have HG3 : Hid (Chg (fun _ => False) w w3) := hyd (HG.out.trans' G3 (fun i hi ht => by omega))
      clear T3 G3
      go_wp2
      refine bodyPost_ret (results_bo rfl _ rfl HT3.out) rfl ?_
      refine ⟨?_, HG3.out⟩
      have e : bools (tol v 12) 12 = bools (fun i => v.testBit i) 12 := bools_congr fun i hi => by simp [tol, hi]
      rw [e]
end Go.Proofs.Ytipeldekiloanaa
