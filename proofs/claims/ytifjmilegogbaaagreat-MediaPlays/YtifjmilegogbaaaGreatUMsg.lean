/-
  The parts of a row of bytes, told by a function that is ranged over (frame.parts). Condition: the row has four parts. A frame in memory; what ranging over parts leaves as it was; frame.New. No condition. (*Frame).Message. Condition: the block holds a Frame that New gave; the page's bytes can be read.
-/
import Derived.Test.YtifjmilegogbaaaGreatUKnow
import Derived.RangeFuncNested
import Derived.RangeFuncBound
import Derived.RangeFuncCalls
import Derived.RangeFuncLeaves
import Derived.Shelf.Abstract
import Derived.Shelf.RegionOpen
import Derived.WalkKit
import Derived.OwnWalkIn
import Derived.TacticsInMore
import Derived.LoopNIn
import Derived.LoopIn
namespace Go.Proofs.YtifjmilegogbaaaGreat
open Go.RowKit Go.Shelf
set_option maxRecDepth 100000
attribute [local go_sem] Oper.semAt_some

/-- The number of a part: one of four. -/
abbrev Ix := { i : Nat // i < 4 }
/-- The first k of them, in their order. -/
def upto (k : Nat) : List Ix := (List.range k).filterMap fun i => if h : i < 4 then some ⟨i, h⟩ else none
theorem upto_succ (k : Nat) (h : k < 4) : upto (k + 1) = upto k ++ [⟨k, h⟩] := by
  simp [upto, List.range_succ, h]
theorem upto_length (k : Nat) (h : k ≤ 4) : (upto k).length = k := by
  induction k with
  | zero => rfl
  | succ k ih => rw [upto_succ k (by omega), List.length_append, ih (by omega)]; rfl
/-- What yield is handed at part x of a row of parts of z bytes. -/
def encP (g o cap z : Nat) (x : Ix) : Array Value := #[.int .i64 (x.1 : Int), .slice (some ⟨g, o + x.1 * z, none⟩) z (cap - x.1 * z)]
/-- What a round that goes on keeps: the two boxes of the iterator. -/
def Kp (B1 B2 : Nat) (W W' : World) : Prop := W'.heap[B1]? = W.heap[B1]? ∧ W'.heap[B2]? = W.heap[B2]?
theorem Kp.t {B1 B2 : Nat} {A B C : World} (h : Kp B1 B2 A B) (k : Kp B1 B2 B C) : Kp B1 B2 A C := ⟨k.1.trans h.1, k.2.trans h.2⟩
theorem Kp.b {B1 B2 : Nat} {w : World} (h1 : B1 < w.heap.size) (h2 : B2 < w.heap.size) (W : World) (l : Nat) (_o o' : Obj) (hl : w.heap.size ≤ l) (_ : W.heap[l]? = some _o) (_ : _o.isCells = false) (_ : _o.isWalk = false) : Kp B1 B2 W (W.putObj l o') :=
  ⟨World.putObj_heap_other (by omega), World.putObj_heap_other (by omega)⟩

set_option maxHeartbeats 1000000 in
theorem parts_any (w : World) (a : Option Addr) (n cap z : Nat) :
    Calls Tryz.prog 108 #[.slice a n cap, .int .i64 (z : Int)] w fun e w' => e = .returned (.func (.func 128) #[] #[.pointer (some ⟨w.heap.size, 0, none⟩), .pointer (some ⟨w.heap.size + 1, 0, none⟩)]) ∧ w' = (w.alloc (.cells #[.slice a n cap] 55)).alloc (.cells #[.int .i64 (z : Int)] 3) := by
  go_enter Tryz.func108, Tryz.ntmps108
  go_wp2
  go_ret
  exact ⟨by simp, rfl⟩

set_option maxHeartbeats 2000000 in
theorem parts64 (F : Fence) (n : Nat) (h42 : F.fn 128) (hro : F.round = none) (hn : 1 ≤ n) (B1 B2 g o cap : Nat) (hcap : 256 ≤ cap) (w : World) (b1 : B1 < w.heap.size) (b2 : B2 < w.heap.size)
    (c1 : w.cell? ⟨B1, 0, none⟩ = some (.slice (some ⟨g, o, none⟩) 256 cap)) (c2 : w.cell? ⟨B2, 0, none⟩ = some (.int .i64 64)) :
    SeqStopsK F n Tryz.prog 128 #[.pointer (some ⟨B1, 0, none⟩), .pointer (some ⟨B2, 0, none⟩)] (encP g o cap 64) (Kp B1 B2) (fun ys => ys = upto 4) (fun pre => ∃ k, k ≤ 4 ∧ pre = upto k) 4 w := fun l J Jx W hW _ _ hY h0 => by
  have d1 := (hW.cell (p := ⟨B1, 0, none⟩) b1).trans c1
  have d2 := (hW.cell (p := ⟨B2, 0, none⟩) b2).trans c2
  refine callsIn_of_wp Tryz.func128 rfl h42 ?_ hro
  simp only [Tryz.ntmps128, List.size_toArray, List.length_cons, List.length_nil, Nat.reduceAdd, Nat.reduceSub, Array.replicate_succ, Array.replicate_zero, List.push_toArray, List.append_toArray, List.nil_append, List.cons_append]
  gi_wp2
  gi_loopw [9] (fun i wr => ∃ k : Nat, k ≤ 4 ∧ i = .int .i64 k ∧ J (upto k) wr ∧ Kp B1 B2 W wr) (fun i _ => 4 - (intOf i).toNat)
  case atStart => exact ⟨0, Nat.zero_le _, rfl, h0, rfl, rfl⟩
  case round =>
    obtain ⟨k, hk, rfl, hJs, hk1, hk2⟩ := hrel
    have e1 : wr.cell? ⟨B1, 0, none⟩ = some (.slice (some ⟨g, o, none⟩) 256 cap) := (World.cell?_of_block (w := W) (a := ⟨B1, 0, none⟩) hk1).trans d1
    have e2 : wr.cell? ⟨B2, 0, none⟩ = some (.int .i64 64) := (World.cell?_of_block (w := W) (a := ⟨B2, 0, none⟩) hk2).trans d2
    by_cases hlt : k < 4
    · obtain ⟨fn, tmps, assign, body, hy, hR⟩ := hY _ ⟨k, hlt⟩ wr hJs (by rw [upto_length k hk]; exact hlt)
      have hlt' : (k : Int) < 4 := by omega
      have hk0 : (0 : Int) ≤ (k : Int) := by omega
      dsimp only [encP] at hy
      have e64 : (k + 1) * 64 - k * 64 = 64 := by omega
      gi_wp2
      rw [e64]
      gi_wp2
      refine hR.mono ?_
      rintro e W3 (⟨rfl, hJ3, hk3⟩ | ⟨rfl, hJx3⟩)
      · gi_wp2
        go_roundw
        case rel => exact ⟨k + 1, by omega, by simp, by rw [upto_succ k hlt]; exact hJ3, hk3.1.trans hk1, hk3.2.trans hk2⟩
        case measure => simp [intOf]; omega
      · gi_wp2
        refine bodyPost_ret (results_none rfl _ _ _) rfl ?_
        exact ⟨⟨_, rfl⟩, .inr ⟨_, ⟨k + 1, by omega, (upto_succ k hlt).symm⟩, hJx3⟩⟩
    · obtain rfl : k = 4 := by omega
      gi_wp2
      go_end0
      exact ⟨⟨_, rfl⟩, .inl ⟨_, rfl, hJs⟩⟩
set_option maxHeartbeats 2000000 in
theorem parts58 (F : Fence) (n : Nat) (h42 : F.fn 128) (hro : F.round = none) (hn : 1 ≤ n) (B1 B2 g o cap : Nat) (hcap : 232 ≤ cap) (w : World) (b1 : B1 < w.heap.size) (b2 : B2 < w.heap.size)
    (c1 : w.cell? ⟨B1, 0, none⟩ = some (.slice (some ⟨g, o, none⟩) 232 cap)) (c2 : w.cell? ⟨B2, 0, none⟩ = some (.int .i64 58)) :
    SeqStopsK F n Tryz.prog 128 #[.pointer (some ⟨B1, 0, none⟩), .pointer (some ⟨B2, 0, none⟩)] (encP g o cap 58) (Kp B1 B2) (fun ys => ys = upto 4) (fun pre => ∃ k, k ≤ 4 ∧ pre = upto k) 4 w := fun l J Jx W hW _ _ hY h0 => by
  have d1 := (hW.cell (p := ⟨B1, 0, none⟩) b1).trans c1
  have d2 := (hW.cell (p := ⟨B2, 0, none⟩) b2).trans c2
  refine callsIn_of_wp Tryz.func128 rfl h42 ?_ hro
  simp only [Tryz.ntmps128, List.size_toArray, List.length_cons, List.length_nil, Nat.reduceAdd, Nat.reduceSub, Array.replicate_succ, Array.replicate_zero, List.push_toArray, List.append_toArray, List.nil_append, List.cons_append]
  gi_wp2
  gi_loopw [9] (fun i wr => ∃ k : Nat, k ≤ 4 ∧ i = .int .i64 k ∧ J (upto k) wr ∧ Kp B1 B2 W wr) (fun i _ => 4 - (intOf i).toNat)
  case atStart => exact ⟨0, Nat.zero_le _, rfl, h0, rfl, rfl⟩
  case round =>
    obtain ⟨k, hk, rfl, hJs, hk1, hk2⟩ := hrel
    have e1 : wr.cell? ⟨B1, 0, none⟩ = some (.slice (some ⟨g, o, none⟩) 232 cap) := (World.cell?_of_block (w := W) (a := ⟨B1, 0, none⟩) hk1).trans d1
    have e2 : wr.cell? ⟨B2, 0, none⟩ = some (.int .i64 58) := (World.cell?_of_block (w := W) (a := ⟨B2, 0, none⟩) hk2).trans d2
    by_cases hlt : k < 4
    · obtain ⟨fn, tmps, assign, body, hy, hR⟩ := hY _ ⟨k, hlt⟩ wr hJs (by rw [upto_length k hk]; exact hlt)
      have hlt' : (k : Int) < 4 := by omega
      have hk0 : (0 : Int) ≤ (k : Int) := by omega
      dsimp only [encP] at hy
      have e58 : (k + 1) * 58 - k * 58 = 58 := by omega
      gi_wp2
      rw [e58]
      gi_wp2
      refine hR.mono ?_
      rintro e W3 (⟨rfl, hJ3, hk3⟩ | ⟨rfl, hJx3⟩)
      · gi_wp2
        go_roundw
        case rel => exact ⟨k + 1, by omega, by simp, by rw [upto_succ k hlt]; exact hJ3, hk3.1.trans hk1, hk3.2.trans hk2⟩
        case measure => simp [intOf]; omega
      · gi_wp2
        refine bodyPost_ret (results_none rfl _ _ _) rfl ?_
        exact ⟨⟨_, rfl⟩, .inr ⟨_, ⟨k + 1, by omega, (upto_succ k hlt).symm⟩, hJx3⟩⟩
    · obtain rfl : k = 4 := by omega
      gi_wp2
      go_end0
      exact ⟨⟨_, rfl⟩, .inl ⟨_, rfl, hJs⟩⟩
end Go.Proofs.YtifjmilegogbaaaGreat
namespace Go.Proofs.YtifjmilegogbaaaGreat
open Go.RowKit Go.Shelf
set_option maxRecDepth 100000

/-- Block p holds a Frame over the Codec in q, over the Field in b. -/
def Frm (w : World) (p q b : Nat) : Prop := Cod w q b ∧ Boxed w p 157 (.pointer (some ⟨q, 0, none⟩))
theorem Frm.lt {w : World} {p q b : Nat} (h : Frm w p q b) : p < w.heap.size := h.2.lt
theorem fld_heap {w : World} {b : Nat} (h : Fld w b) : ∃ c z, w.heap[b]? = some (.cells c 220 z) ∧ 500 < c.size := by
  rcases h with h | h <;> exact ⟨_, _, h, by simp [fcells]⟩
theorem Frm.pb {w : World} {p q b : Nat} (h : Frm w p q b) : p ≠ b := by
  intro e
  obtain ⟨c, z, hc, -⟩ := fld_heap h.1.1
  have h2 : w.heap[p]? = some (.cells #[.pointer (some ⟨q, 0, none⟩)] 157) := h.2
  rw [e, hc] at h2
  simp at h2
theorem Frm.other {w w' : World} {p q b : Nat} (h : Frm w p q b) (hb : w'.heap[b]? = w.heap[b]?) (hq : w'.heap[q]? = w.heap[q]?) (hp : w'.heap[p]? = w.heap[p]?) : Frm w' p q b :=
  ⟨h.1.other hb hq, hp.trans h.2⟩
theorem Frm.chg {w w' : World} {p q b : Nat} (h : Frm w p q b) (hc : Chg (fun _ => False) w w') : Frm w' p q b :=
  ⟨h.1.chg hc, (hc.block p h.lt (fun e => e)).trans h.2⟩
theorem Frm.but {w w' : World} {p q b : Nat} (h : Frm w p q b) (hC : Cod w' q b) (hB : But b w w') : Frm w' p q b := ⟨hC, (hB.block p h.lt h.pb).trans h.2⟩

theorem buildF (q : Nat) (w : World) : (Instr.build 157 #[(0, .pointer (some ⟨q, 0, none⟩))]).run Tryz.prog w = .ok (.agg #[.pointer (some ⟨q, 0, none⟩)]) w := by kernel_rfl
set_option maxHeartbeats 1000000 in
theorem frame_new (w : World) :
    Calls Tryz.prog 56 #[] w fun e w' => ∃ p q b, e = .returned (.pointer (some ⟨p, 0, none⟩)) ∧ w.heap.size ≤ p ∧ w.heap.size ≤ q ∧ w.heap.size ≤ b ∧ Frm w' p q b ∧ Chg (fun _ => False) w w' := by
  have hbF := buildF
  go_enter Tryz.func56, Tryz.ntmps56
  go_wp2_with fail
  refine (codec_new w).mono ?_
  rintro e w1 ⟨q, b, rfl, hq, hb, C1, G1⟩
  have hs := G1.size
  go_wp2
  go_ret
  exact ⟨w1.heap.size, q, b, rfl, by omega, hq, hb, ⟨C1.alloc _, Boxed.new _ _ _⟩, G1.alloc _⟩

/-- What changed some blocks of cells alone keeps what is no cells. -/
theorem Chg.keeps {S : Nat → Prop} {W W' : World} (h : Chg S W W') (hS : ∀ k, S k → ∀ o, W.heap[k]? = some o → o.isCells = true) (B : Nat) : KeepsFrom B W W' :=
  ⟨h.size, fun k o _ h0 ho => (h.block k (Array.getElem?_eq_some_iff.1 h0).1 (fun s => by rw [hS k s o h0] at ho; cases ho)).trans h0⟩
theorem ownFrom_chg {β : Type} {S : Nat → Prop} {w : World} : OwnFrom w.heap.size (fun (_ : β) W => Chg S w W) :=
  fun _ _ _ _ hs hg hr => hs.grown hg (fun k e => Or.inr (hr k e).1)
theorem notcells {W : World} {b r : Nat} {c : Array Value} {t : TypeId} {z : Nat × Nat} (h : W.heap[b]? = some (.cells c t z)) (hr : ∃ o : Obj, W.heap[r]? = some o ∧ o.isCells = false) : b ≠ r := by
  rintro rfl
  obtain ⟨o, h1, h2⟩ := hr
  rw [h] at h1
  cases h1
  cases h2
theorem cells_kept {X Y : World} {row : Option Nat} {b : Nat} {c : Array Value} {t : TypeId} {z : Nat × Nat} (h : X.heap[b]? = some (.cells c t z)) (hg : X.grownBy Y row) (hr : ∀ r, row = some r → ∃ o : Obj, X.heap[r]? = some o ∧ o.isCells = false) : Y.heap[b]? = X.heap[b]? :=
  hg.block b (Array.getElem?_eq_some_iff.1 h).1 (fun e => notcells h (hr b e.symm) rfl)
theorem ownFrom_frm {β : Type} {B p q b : Nat} : OwnFrom B (fun (_ : β) W => Frm W p q b) := fun _ X Y row hs hg hr => by
  obtain ⟨c, z, hc, -⟩ := fld_heap hs.1.1
  have hr' : ∀ r, row = some r → ∃ o : Obj, X.heap[r]? = some o ∧ o.isCells = false := fun r e => (hr r e).2
  exact hs.other (cells_kept hc hg hr') (cells_kept hs.1.2 hg hr') (cells_kept (show X.heap[p]? = some (.cells #[.pointer (some ⟨q, 0, none⟩)] 157) from hs.2) hg hr')
end Go.Proofs.YtifjmilegogbaaaGreat
namespace Go.Proofs.YtifjmilegogbaaaGreat
open Go.RowKit Go.Shelf
set_option maxRecDepth 100000
attribute [local go_sem] Oper.semAt_some

/-- Part i of the row L, of z bytes. -/
def part (z : Nat) (L : List Nat) (i : Nat) : List Nat := (L.drop (i * z)).take z
theorem part_length {z : Nat} {L : List Nat} (hL : L.length = 4 * z) (i : Nat) (hi : i < 4) : (part z L i).length = z := by
  have : (i + 1) * z ≤ 4 * z := Nat.mul_le_mul_right z hi
  rw [Nat.add_mul, Nat.one_mul] at this
  simp [part]; omega
theorem part_bys {z : Nat} {L : List Nat} (h : Bys L) (i : Nat) : Bys (part z L i) := bys_take (bys_drop h _) _
theorem part_getD (z : Nat) (L : List Nat) (i j : Nat) (hj : j < z) : (part z L i).getD j 0 = L.getD (i * z + j) 0 := by
  simp [part, List.getD_eq_getElem?_getD, hj]
/-- Y holds the cells of X. -/
def Keeps (X Y : World) : Prop := ∀ (g : Nat) (c : Array Value) (t : TypeId), X.heap[g]? = some (.cells c t) → Y.heap[g]? = X.heap[g]?
theorem DecAns.keep {w X Y : World} {l : List Nat} {e : Ending} (h : DecAns w X l e) (hk : Keeps X Y) : DecAns w Y l e := by
  rcases h with h | ⟨m, d, g, h1, h2, h3, h4, h5, h6, h7⟩
  · exact Or.inl h
  · exact Or.inr ⟨m, d, g, h1, h2, h3, h4, h5, h6, (hk g _ _ h7).trans h7⟩
theorem boxed_keep {X Y : World} {B : Nat} {t : TypeId} {v : Value} (h : Boxed X B t v) (hk : Keeps X Y) : Boxed Y B t v := (hk B _ _ h).trans h
theorem kept {X Y : World} {row : Option Nat} {B : Nat} (hg : X.grownBy Y row) (hr : ∀ r, row = some r → B ≤ r ∧ ∃ o : Obj, X.heap[r]? = some o ∧ o.isCells = false) : Keeps X Y :=
  fun _ _ _ h => cells_kept h hg (fun r e => (hr r e).2)
theorem put_kept {X : World} {D : Nat} {o : Obj} (o' : Obj) (h : X.heap[D]? = some o) (ho : o.isCells = false) : Keeps X (X.putObj D o') :=
  fun g _ _ hg => World.putObj_heap_other (fun e => by rw [← e, hg] at h; cases h; cases ho)
theorem Frm.keep {X Y : World} {p q b : Nat} (h : Frm X p q b) (hk : Keeps X Y) : Frm Y p q b := by
  refine h.other ?_ (hk _ _ _ h.1.2) (hk _ _ _ h.2)
  rcases h.1.1 with h1 | h1 <;> exact hk _ _ _ h1

set_option maxHeartbeats 1000000 in
theorem message_arg (p : Nat) (w : World) (a : Option Addr) (n cap : Nat) (k : Int) (hn : n ≠ 256) :
    Calls Tryz.prog 111 #[.pointer (some ⟨p, 0, none⟩), .slice a n cap, .int .i64 k] w fun e w' => e = .returned (.tuple #[.slice none 0 0, .int .i64 0, .iface 58 (.int .i64 1)]) ∧ Chg (fun _ => False) w w' := by
  have hn' : ((n : Int) != 256) = true := by simp; omega
  refine (callsIn_wide (n := 3)).1 ?_
  refine callsIn_of_wp_marks Tryz.func111 rfl trivial ?_ rfl
  simp only [Tryz.ntmps111, List.size_toArray, List.length_cons, List.length_nil, Nat.reduceAdd, Nat.reduceSub, Array.replicate_succ, Array.replicate_zero, List.push_toArray, List.append_toArray, List.nil_append, List.cons_append]
  gi_wp2
  refine ⟨.tuple #[.slice none 0 0, .int .i64 0, .iface 58 (.int .i64 1)], ?_, rfl, ((((((Chg.refl _ _).alloc _).alloc _).alloc _).alloc _).alloc _)⟩
  simp [results, Tryz.f111, go_sem]

theorem DecAns.chg {S : Nat → Prop} {w W X Y : World} {l : List Nat} {e : Ending} (h : DecAns W X l e) (hc : Chg S X Y) (hS : ∀ k, S k → k < W.heap.size) (hw : w.heap.size ≤ W.heap.size) : DecAns w Y l e := by
  rcases h with h | ⟨m, d, g, h1, h2, h3, h4, h5, h6, h7⟩
  · exact Or.inl h
  · exact Or.inr ⟨m, d, g, h1, h2, h3, h4, h5, by omega, h7.chg hc (fun s => by have := hS _ s; omega)⟩
/-- Three stores into three boxes. -/
def st3 (W : World) (r1 r2 r3 : Nat) (v1 v2 v3 : Value) : World := ((W.setCell ⟨r1, 0, none⟩ v1).setCell ⟨r2, 0, none⟩ v2).setCell ⟨r3, 0, none⟩ v3
theorem st3_facts {W : World} {r1 r2 r3 : Nat} {t1 t2 t3 : TypeId} {u1 u2 u3 : Value} (b1 : Boxed W r1 t1 u1) (b2 : Boxed W r2 t2 u2) (b3 : Boxed W r3 t3 u3) (v1 v2 v3 : Value) (n12 : r1 ≠ r2) (n13 : r1 ≠ r3) (n23 : r2 ≠ r3) :
    Boxed (st3 W r1 r2 r3 v1 v2 v3) r1 t1 v1 ∧ Boxed (st3 W r1 r2 r3 v1 v2 v3) r2 t2 v2 ∧ Boxed (st3 W r1 r2 r3 v1 v2 v3) r3 t3 v3 ∧ Chg (fun k => k = r1 ∨ k = r2 ∨ k = r3) W (st3 W r1 r2 r3 v1 v2 v3) :=
  ⟨((b1.set v1).other n12 _).other n13 _, ((b2.other (Ne.symm n12) _).set v2).other n23 _, (((b3.other (Ne.symm n13) _).other (Ne.symm n23) _).set v3),
    (((Chg.refl _ W).setCell (Or.inl (Or.inl rfl)) 0 v1).setCell (Or.inl (Or.inr (Or.inl rfl))) 0 v2).setCell (Or.inl (Or.inr (Or.inr rfl))) 0 v3⟩
theorem results3 {fn : Func} {p1 p2 p3 : Tmp} (h : fn.results = #[.cell p1 55, .cell p2 3, .cell p3 32]) (tmps : Array Value) {w : World} {r1 r2 r3 : Nat} {v1 v2 v3 : Value} (hp1 : tmps.getD p1 undef = .pointer (some ⟨r1, 0, none⟩)) (hp2 : tmps.getD p2 undef = .pointer (some ⟨r2, 0, none⟩)) (hp3 : tmps.getD p3 undef = .pointer (some ⟨r3, 0, none⟩))
    (b1 : Boxed w r1 55 v1) (b2 : Boxed w r2 3 v2) (b3 : Boxed w r3 32 v3) :
    (results fn tmps).run Tryz.prog w = .ok (.tuple #[v1, v2, v3]) w := by
  have c1 := b1.cell
  have c2 := b2.cell
  have c3 := b3.cell
  have hp1' : tmps[p1]?.getD undef = .pointer (some ⟨r1, 0, none⟩) := by simpa using hp1
  have hp2' : tmps[p2]?.getD undef = .pointer (some ⟨r2, 0, none⟩) := by simpa using hp2
  have hp3' : tmps[p3]?.getD undef = .pointer (some ⟨r3, 0, none⟩) := by simpa using hp3
  simp [results, h, hp1', hp2', hp3', go_sem, c1, c2, c3]
theorem Boxed.new' (w : World) {n : Nat} (h : w.heap.size = n) (t : TypeId) (v : Value) : Boxed (w.alloc (.cells #[v] t)) n t v := by
  subst h
  exact Boxed.new w t v
/-- The world where Message's loop begins. -/
def mw (w : World) (p : Nat) (k : Int) (pg : Value) : World := ((((((w.alloc (.cells #[.pointer (some ⟨p, 0, none⟩)] 113)).alloc (.cells #[.int .i64 k] 3)).alloc (.cells #[.slice none 0 0] 55)).alloc (.cells #[.int .i64 0] 3)).alloc (.cells #[.nilIface] 32)).alloc (.cells #[pg] 55)).alloc (.cells #[.int .i64 64] 3)
theorem mw_facts (w : World) (p : Nat) (k : Int) (pg : Value) : Chg (fun _ => False) w (mw w p k pg) ∧ (mw w p k pg).heap.size = w.heap.size + 7 ∧ Boxed (mw w p k pg) w.heap.size 113 (.pointer (some ⟨p, 0, none⟩)) ∧ Boxed (mw w p k pg) (w.heap.size + 1) 3 (.int .i64 k) ∧ Boxed (mw w p k pg) (w.heap.size + 1 + 1) 55 (.slice none 0 0) ∧
    Boxed (mw w p k pg) (w.heap.size + 1 + 1 + 1) 3 (.int .i64 0) ∧ Boxed (mw w p k pg) (w.heap.size + 1 + 1 + 1 + 1) 32 .nilIface ∧ Boxed (mw w p k pg) (w.heap.size + 1 + 1 + 1 + 1 + 1) 55 pg ∧ Boxed (mw w p k pg) (w.heap.size + 1 + 1 + 1 + 1 + 1 + 1) 3 (.int .i64 64) := by
  refine ⟨((((((((Chg.refl _ _).alloc _).alloc _).alloc _).alloc _).alloc _).alloc _).alloc _), by simp [mw], ?_, ?_, ?_, ?_, ?_, ?_, ?_⟩
  · exact ((((((Boxed.new' _ (by simp) _ _).alloc _).alloc _).alloc _).alloc _).alloc _).alloc _
  · exact (((((Boxed.new' _ (by simp) _ _).alloc _).alloc _).alloc _).alloc _).alloc _
  · exact ((((Boxed.new' _ (by simp) _ _).alloc _).alloc _).alloc _).alloc _
  · exact (((Boxed.new' _ (by simp) _ _).alloc _).alloc _).alloc _
  · exact ((Boxed.new' _ (by simp) _ _).alloc _).alloc _
  · exact (Boxed.new' _ (by simp) _ _).alloc _
  · exact Boxed.new' _ (by simp) _ _

set_option maxHeartbeats 4000000 in
theorem message_any (p q b : Nat) (w : World) (h : Frm w p q b) (c o cap : Nat) (L : List Nat) (hL : L.length = 256) (bL : Bys L) (hcb : c ≠ b) (hcs : c < w.heap.size) (hcap : 256 ≤ cap)
    (hcell : ∀ i, i < 256 → w.cell? ⟨c, o + i, none⟩ = some (.int .u8 (L.getD i 0 : Nat))) (k : Int) :
    Calls Tryz.prog 111 #[.pointer (some ⟨p, 0, none⟩), .slice (some ⟨c, o, none⟩) 256 cap, .int .i64 k] w fun e w' => ((∃ i : Nat, i < 4 ∧ k = i ∧ DecAns w w' (part 64 L i) e) ∨ (¬ (0 ≤ k ∧ k ≤ 3) ∧ e = .returned (.tuple #[.slice none 0 0, .int .i64 0, .iface 58 (.int .i64 1)]))) ∧ Frm w' p q b ∧ But b w w' := by
  have HC := hyd hcell
  clear hcell
  refine (callsIn_wide (n := 3)).1 ?_
  refine callsIn_of_wp_marks Tryz.func111 rfl trivial ?_ rfl
  simp only [Tryz.ntmps111, List.size_toArray, List.length_cons, List.length_nil, Nat.reduceAdd, Nat.reduceSub, Array.replicate_succ, Array.replicate_zero, List.push_toArray, List.append_toArray, List.nil_append, List.cons_append]
  gi_wp2_with (refine ⟨trivial, ?_⟩; gi_at_call 108; refine (callsIn_wide.2 (parts_any _ _ _ _ 64)).mono ?_; rintro e w' ⟨rfl, rfl⟩)
  obtain ⟨G1, hs1, x0, x1, x2, x3, x4, x5, x6⟩ := mw_facts w p k (.slice (some ⟨c, o, none⟩) 256 cap)
  obtain ⟨W1, hW1⟩ : ∃ W1, mw w p k (.slice (some ⟨c, o, none⟩) 256 cap) = W1 := ⟨_, rfl⟩
  rw [hW1] at G1 hs1 x0 x1 x2 x3 x4 x5 x6
  unfold mw at hW1
  rw [hW1]
  clear hW1
  have F1 := h.chg G1
  have hp := h.lt
  have hbs := h.1.1.lt
  have hqs := h.1.lt
  have HL : Hid (L.length = 4 * 64) := hyd hL
  refine wpIn_rangeFunc_ownG rfl (by omega) (gf := 128) (lb := #[.pointer (some ⟨w.heap.size + 1 + 1 + 1 + 1 + 1, 0, none⟩), .pointer (some ⟨w.heap.size + 1 + 1 + 1 + 1 + 1 + 1, 0, none⟩)]) rfl trivial (enters_of Tryz.func128 (by kernel_rfl) rfl)
    (parts64 Fence.wide _ trivial rfl (by omega) _ _ c o cap hcap W1 (by omega) (by omega) x5.cell x6.cell) Kp.t (Kp.b (by omega) (by omega)) (Below.refl _ _) (fun _ => rfl)
    (fun pre W => (∀ x ∈ pre, (x.1 : Int) ≠ k) ∧ Chg (fun _ => False) W1 W)
    (fun cc _ W => cc = .ret ∧ ∃ (i : Nat) (v0 v1 v2 : Value), i < 4 ∧ k = i ∧ DecAns w W (part 64 L i) (.returned (.tuple #[v0, v1, v2])) ∧ Boxed W (w.heap.size + 1 + 1) 55 v0 ∧ Boxed W (w.heap.size + 1 + 1 + 1) 3 v1 ∧ Boxed W (w.heap.size + 1 + 1 + 1 + 1) 32 v2 ∧ Frm W p q b ∧ Chg (· = b) w W)
    (OwnFrom.and (ownFrom_pure _ _) ownFrom_chg)
    (fun cc s X Y row hs hg hr => by
      obtain ⟨rfl, i, v0, v1, v2, y1, y2, y3, y4, y5, y6, y7, y8⟩ := hs
      have hk := kept hg hr
      exact ⟨rfl, i, v0, v1, v2, y1, y2, y3.keep hk, boxed_keep y4 hk, boxed_keep y5 hk, boxed_keep y6 hk, y7.keep hk, y8.grown hg (fun k e => Or.inr (by have := (hr k e).1; omega))⟩)
    ⟨by simp, Chg.refl _ _⟩
    (fun x => { tmps := #[.pointer (some ⟨p, 0, none⟩), .slice (some ⟨c, o, none⟩) 256 cap, .int .i64 k, .pointer (some ⟨w.heap.size, 0, none⟩), undef, .pointer (some ⟨w.heap.size + 1, 0, none⟩), .pointer (some ⟨w.heap.size + 1 + 1, 0, none⟩), .pointer (some ⟨w.heap.size + 1 + 1 + 1, 0, none⟩), .pointer (some ⟨w.heap.size + 1 + 1 + 1 + 1, 0, none⟩), .int .i64 (x.1 : Int), .slice (some ⟨c, o + x.1 * 64, none⟩) 64 (cap - x.1 * 64), .slice (some ⟨c, o, none⟩) 256 cap, .int .i64 256, .bool false, undef, .slice (some ⟨c, o, none⟩) 256 cap, .func (.func 128) #[] #[.pointer (some ⟨w.heap.size + 1 + 1 + 1 + 1 + 1, 0, none⟩), .pointer (some ⟨w.heap.size + 1 + 1 + 1 + 1 + 1 + 1, 0, none⟩)], .int .i64 (x.1 : Int), .slice (some ⟨c, o + x.1 * 64, none⟩) 64 (cap - x.1 * 64), undef, undef, undef, undef, undef, undef, undef, undef, undef, undef, undef, undef, undef], defers := [] }) ?assign ?body ?done ?stop
  case assign =>
    intro l x W K hK
    dsimp only [encP]
    gi_wp2
    exact hK
  case body =>
    rintro l pre x W ⟨hne, hG⟩ _
    have F := F1.chg hG
    have y0 : Boxed W w.heap.size 113 (.pointer (some ⟨p, 0, none⟩)) := (hG.block _ x0.lt (fun e => e)).trans x0
    have y1 : Boxed W (w.heap.size + 1) 3 (.int .i64 k) := (hG.block _ x1.lt (fun e => e)).trans x1
    have y2 : Boxed W (w.heap.size + 1 + 1) 55 (.slice none 0 0) := (hG.block _ x2.lt (fun e => e)).trans x2
    have y3 : Boxed W (w.heap.size + 1 + 1 + 1) 3 (.int .i64 0) := (hG.block _ x3.lt (fun e => e)).trans x3
    have y4 : Boxed W (w.heap.size + 1 + 1 + 1 + 1) 32 .nilIface := (hG.block _ x4.lt (fun e => e)).trans x4
    have G2 := G1.trans hG
    have hs2 := hG.size
    have z0 := y0.cell
    have z1 := y1.cell
    have z2 : W.cell? ⟨p, 0, none⟩ = some (.pointer (some ⟨q, 0, none⟩)) := F.2.cell
    obtain ⟨i, hi⟩ := x
    dsimp only
    by_cases hx : (i : Int) = k
    · subst hx
      have hpl := part_length HL.out i hi
      have hpb := part_bys (z := 64) bL i
      have hcc : ∀ j, j < (part 64 L i).length → W.cell? ⟨c, o + i * 64 + j, none⟩ = some (.int .u8 ((part 64 L i).getD j 0 : Nat)) := fun j hj => by
        rw [part_getD 64 L i j (by omega), Nat.add_assoc]
        exact (World.cell?_of_block (w := w) (a := ⟨c, o + (i * 64 + j), none⟩) (G2.block c hcs (fun e => e))).trans (HC.out _ (by omega))
      have hdec := decode_any q b W F.1 c (o + i * 64) (cap - i * 64) (part 64 L i) hpl hpb hcb (by omega) hcc
      have HDec := hyd hdec
      clear hdec hcc
      have f2 := y2.frozen
      gi_wp2_with fail
      refine ⟨trivial, (CallsIn.inRound l (callsIn_wide.2 HDec.out)).mono ?_⟩
      rintro e W3 ⟨hD, C3, B3⟩
      have F3 := F.but C3 B3
      have u2 : Boxed W3 (w.heap.size + 1 + 1) 55 (.slice none 0 0) := (B3.block _ y2.lt (by omega)).trans y2
      have u3 : Boxed W3 (w.heap.size + 1 + 1 + 1) 3 (.int .i64 0) := (B3.block _ y3.lt (by omega)).trans y3
      have u4 : Boxed W3 (w.heap.size + 1 + 1 + 1 + 1) 32 .nilIface := (B3.block _ y4.lt (by omega)).trans y4
      have hbc : ∀ o, W.heap[b]? = some o → o.isCells = true := fun o ho => by
        obtain ⟨c, z, hc, -⟩ := fld_heap F.1.1
        rw [hc] at ho; cases ho; rfl
      have g2 := u2.cell
      have g3 := u3.cell
      have g4 := u4.cell
      have j2 := u2.frozen
      have j3 := u3.frozen
      have j4 := u4.frozen
      have fin : ∀ v0 v1 v2 : Value, DecAns W W3 (part 64 L i) (.returned (.tuple #[v0, v1, v2])) → ∀ Y, st3 W3 (w.heap.size + 1 + 1) (w.heap.size + 1 + 1 + 1) (w.heap.size + 1 + 1 + 1 + 1) v0 v1 v2 = Y →
          KeepsFrom W1.heap.size W Y ∧ DecAns w Y (part 64 L i) (.returned (.tuple #[v0, v1, v2])) ∧ Boxed Y (w.heap.size + 1 + 1) 55 v0 ∧ Boxed Y (w.heap.size + 1 + 1 + 1) 3 v1 ∧ Boxed Y (w.heap.size + 1 + 1 + 1 + 1) 32 v2 ∧ Frm Y p q b ∧ Chg (· = b) w Y := fun v0 v1 v2 hD Y hY => by
        obtain ⟨k1, k2, k3, k4⟩ := st3_facts u2 u3 u4 v0 v1 v2 (by omega) (by omega) (by omega)
        rw [hY] at k1 k2 k3 k4
        have hrc : ∀ k, (k = w.heap.size + 1 + 1 ∨ k = w.heap.size + 1 + 1 + 1 ∨ k = w.heap.size + 1 + 1 + 1 + 1) → ∀ o, W3.heap[k]? = some o → o.isCells = true := fun k hk o ho => by
          rcases hk with rfl | rfl | rfl
          · rw [show W3.heap[_]? = _ from u2] at ho; cases ho; rfl
          · rw [show W3.heap[_]? = _ from u3] at ho; cases ho; rfl
          · rw [show W3.heap[_]? = _ from u4] at ho; cases ho; rfl
        have a1 : KeepsFrom W1.heap.size W W3 := B3.chg.keeps (fun k hk o ho => hbc o (by rw [← hk]; exact ho)) _
        have a2 : KeepsFrom W1.heap.size W3 Y := k4.keeps hrc _
        have n1 : ¬ (b = w.heap.size + 1 + 1 ∨ b = w.heap.size + 1 + 1 + 1 ∨ b = w.heap.size + 1 + 1 + 1 + 1) := by omega
        have n2 : ¬ (q = w.heap.size + 1 + 1 ∨ q = w.heap.size + 1 + 1 + 1 ∨ q = w.heap.size + 1 + 1 + 1 + 1) := by omega
        have n3 : ¬ (p = w.heap.size + 1 + 1 ∨ p = w.heap.size + 1 + 1 + 1 ∨ p = w.heap.size + 1 + 1 + 1 + 1) := by omega
        exact ⟨a1.trans a2, hD.chg k4 (fun k e => by omega) (by omega), k1, k2, k3, F3.other (k4.block _ F3.1.1.lt n1) (k4.block _ F3.1.lt n2) (k4.block _ F3.lt n3), ((G2.mono (fun _ _ e => e.elim)).trans B3.chg).trans' k4 (fun i hi e => by omega)⟩
      have HF := hyd fin
      clear fin
      rcases hD with ⟨h1, rfl⟩ | ⟨m, d, g, h1, h2, h3, h4, rfl, h6, h7⟩
      · have HD := hyd (HF.out _ _ _ (Or.inl ⟨h1, rfl⟩) _ rfl)
        clear HF
        gi_wp2_with fail
        obtain ⟨k1, k2⟩ := HD.out
        exact ⟨k1, rfl, i, _, _, _, hi, rfl, k2⟩
      · have HD := hyd (HF.out _ _ _ (Or.inr ⟨m, d, g, h1, h2, h3, h4, rfl, h6, h7⟩) _ rfl)
        clear HF h1 h2 h3 h4 h6 h7
        gi_wp2_with fail
        obtain ⟨k1, k2⟩ := HD.out
        exact ⟨k1, rfl, i, _, _, _, hi, rfl, k2⟩
    · gi_wp2_with fail
      refine ⟨KeepsFrom.refl _ _, ⟨rfl, rfl⟩, fun x hx' => ?_, hG⟩
      rcases List.mem_append.1 hx' with h1 | h1
      · exact hne x h1
      · simp at h1; subst h1; exact hx
  case done =>
    rintro D ys W hD rfl ⟨hne, hG⟩ hK
    have y2 : Boxed W (w.heap.size + 1 + 1) 55 (.slice none 0 0) := (hG.block _ x2.lt (fun e => e)).trans x2
    have y3 : Boxed W (w.heap.size + 1 + 1 + 1) 3 (.int .i64 0) := (hG.block _ x3.lt (fun e => e)).trans x3
    have y4 : Boxed W (w.heap.size + 1 + 1 + 1 + 1) 32 .nilIface := (hG.block _ x4.lt (fun e => e)).trans x4
    have c2 := y2.cell
    have c3 := y3.cell
    have c4 := y4.cell
    have f2 := y2.frozen
    have f3 := y3.frozen
    have f4 := y4.frozen
    obtain ⟨k1, k2, k3, k4⟩ := st3_facts y2 y3 y4 (.slice none 0 0) (.int .i64 0) (.iface 58 (.int .i64 1)) (by omega) (by omega) (by omega)
    have hK2 : (st3 W (w.heap.size + 1 + 1) (w.heap.size + 1 + 1 + 1) (w.heap.size + 1 + 1 + 1 + 1) (.slice none 0 0) (.int .i64 0) (.iface 58 (.int .i64 1))).heap[D]? = some (.deferred (some [])) := (k4.block D (Array.getElem?_eq_some_iff.1 hK).1 (by omega)).trans hK
    have G2 := G1.trans hG
    have F3 := h.chg G2
    have n1 : ¬ (b = w.heap.size + 1 + 1 ∨ b = w.heap.size + 1 + 1 + 1 ∨ b = w.heap.size + 1 + 1 + 1 + 1) := by omega
    have n2 : ¬ (q = w.heap.size + 1 + 1 ∨ q = w.heap.size + 1 + 1 + 1 ∨ q = w.heap.size + 1 + 1 + 1 + 1) := by omega
    have n3 : ¬ (p = w.heap.size + 1 + 1 ∨ p = w.heap.size + 1 + 1 + 1 ∨ p = w.heap.size + 1 + 1 + 1 + 1) := by omega
    have F4 := F3.other (k4.block _ F3.1.1.lt n1) (k4.block _ F3.1.lt n2) (k4.block _ F3.lt n3)
    have G4 : Chg (fun _ => False) w (st3 W (w.heap.size + 1 + 1) (w.heap.size + 1 + 1 + 1) (w.heap.size + 1 + 1 + 1 + 1) (.slice none 0 0) (.int .i64 0) (.iface 58 (.int .i64 1))) := G2.trans' k4 (fun i hi e => by omega)
    gi_wp2_with fail
    rw [show ((W.setCell ⟨w.heap.size + 1 + 1, 0, none⟩ (.slice none 0 0)).setCell ⟨w.heap.size + 1 + 1 + 1, 0, none⟩ (.int .i64 0)).setCell ⟨w.heap.size + 1 + 1 + 1 + 1, 0, none⟩ (.iface 58 (.int .i64 1)) = st3 W (w.heap.size + 1 + 1) (w.heap.size + 1 + 1 + 1) (w.heap.size + 1 + 1 + 1 + 1) (.slice none 0 0) (.int .i64 0) (.iface 58 (.int .i64 1)) from rfl]
    generalize st3 W (w.heap.size + 1 + 1) (w.heap.size + 1 + 1 + 1) (w.heap.size + 1 + 1 + 1 + 1) (.slice none 0 0) (.int .i64 0) (.iface 58 (.int .i64 1)) = Y at *
    refine ⟨by simp, .inl ⟨_, _, rfl, run_takeDeferred hK2, ?_⟩⟩
    have hkp := put_kept (.deferred none) hK2 rfl
    refine ⟨_, results3 rfl _ rfl rfl rfl (boxed_keep k1 hkp) (boxed_keep k2 hkp) (boxed_keep k3 hkp), Or.inr ⟨fun hk => ?_, rfl⟩, F4.keep hkp, (G4.grown (grownBy_putObj' Y D (.deferred none)) (fun k e => Or.inr (by cases e; omega))).but⟩
    obtain ⟨i, hi⟩ : ∃ i : Nat, k = i := ⟨k.toNat, by omega⟩
    have hi4 : i < 4 := by omega
    refine hne ⟨i, hi4⟩ ?_ hi.symm
    have : ∀ j (hj : j < 4), (⟨j, hj⟩ : Ix) ∈ upto 4 := by decide
    exact this i hi4
  case stop =>
    rintro D cc pre W hD ⟨kk, hkk, rfl⟩ ⟨rfl, i, v0, v1, v2, y1, y2, y3, y4, y5, y6, y7, y8⟩ hK
    gi_wp2
    refine ⟨by simp, .inl ⟨_, _, rfl, run_takeDeferred hK, ?_⟩⟩
    have hkp := put_kept (.deferred none) hK rfl
    have G5 := y8.grown (grownBy_putObj' W D (.deferred none)) (fun k e => Or.inr (by cases e; omega))
    exact ⟨_, results3 rfl _ rfl rfl rfl (boxed_keep y4 hkp) (boxed_keep y5 hkp) (boxed_keep y6 hkp), Or.inl ⟨i, y1, y2, y3.keep hkp⟩, y7.keep hkp, ⟨G5.os, G5.tape, G5.output, G5.size, G5.block⟩⟩
end Go.Proofs.YtifjmilegogbaaaGreat
