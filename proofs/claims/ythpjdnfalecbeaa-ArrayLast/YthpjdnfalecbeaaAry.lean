/-
  The program's array in memory, and its functions. Conditions: a sector's bytes are 160.
-/
import Derived.Test.YthpjdnfalecbeaaRow
namespace Go.Proofs.Ythpjdnfalecbeaa
open Go.RowKit
set_option maxRecDepth 100000
/-- A variable of a type whose value is the given row. -/
theorem wpList_alloc_row {ops : Array Oper} {rest : List Oper} {o : Oper} {a : Act} {w : World} {Q : Exit → Act → World → Prop} (hgd : o.guard = none) (t : TypeId) (ho : o.op = .alloc t) (N : Nat) (hN : w.heap.size = N) {A : Array Value}
    (hz : ∀ w, (zeroValue t).run Try.prog w = .ok (.agg A) w)
    (h : ∀ w', w'.heap[N]? = some (.cells A t) → Chg (fun _ => False) w w' → w'.heap.size = N + 1 → wpList Try.prog ops Q rest (a.put o.dst (.pointer (some ⟨N, 0, none⟩))) w') : wpList Try.prog ops Q (o :: rest) a w := by
  refine wpList_plain hgd fun K hK => ?_
  unfold Oper.wp
  simp [execOp, ho, Instr.alloc, hz, newVar, Value.cells, newRow]
  rw [hN]
  refine hK _ _ (h _ ?_ ((Chg.refl _ w).alloc _) (by simp [hN]))
  rw [← hN]
  show (w.heap.push _)[w.heap.size]? = _
  simp
/-- An array: its sectors' bytes. -/
structure Okr (s : Nat → List Nat) : Prop where
  len : ∀ i, (s i).length = 160
  bys : ∀ i, Bys (s i)
def cellF (s : Nat → List Nat) : Nat → Value := famF 160 fun i => (s i).map byt
def AryAt (w : World) (g : Nat) (s : Nat → List Nat) : Prop := Sto w g 54 3840 (cellF s)
def z160 : List Nat := List.replicate 160 0
def zA : Nat → List Nat := fun _ => z160
def setS (s : Nat → List Nat) (b : Nat) (l : List Nat) : Nat → List Nat := fun i => if i = b then l else s i
theorem z160_length : z160.length = 160 := List.length_replicate
theorem z160_bys : Bys z160 := fun m hm => by rw [(List.mem_replicate.1 hm).2]; decide
theorem zA_ok : Okr zA := ⟨fun _ => z160_length, fun _ => z160_bys⟩
theorem Okr.set {s : Nat → List Nat} (h : Okr s) (b : Nat) {l : List Nat} (h1 : l.length = 160) (h2 : Bys l) : Okr (setS s b l) :=
  ⟨fun i => by unfold setS; split; exact h1; exact h.len i, fun i => by unfold setS; split; exact h2; exact h.bys i⟩
theorem cellF_at (s : Nat → List Nat) (hs : Okr s) (b j : Nat) (hj : j < 160) : cellF s (160 * b + j) = .int .u8 ((s b).getD j 0 : Nat) := by
  unfold cellF
  have hl := hs.len b
  rw [fam_at 160 (by decide) _ _ _ hj, List.getD_eq_getElem?_getD, List.getElem?_map, List.getD_eq_getElem?_getD, List.getElem?_eq_getElem (by omega)]; rfl
theorem cellF_seg (s : Nat → List Nat) (hs : Okr s) (b : Nat) : Seg (cellF s) (160 * b) ((s b).map byt) := fun j v hv => by
  have hj : j < 160 := by have := (List.getElem?_eq_some_iff.1 hv).1; rw [List.length_map, hs.len] at this; exact this
  rw [cellF_at s hs b j hj]
  rw [List.getElem?_map, List.getElem?_eq_getElem (by rw [hs.len]; exact hj)] at hv
  rw [List.getD_eq_getElem?_getD, List.getElem?_eq_getElem (by rw [hs.len]; exact hj)]
  exact Option.some.inj hv
theorem cellF_set (s : Nat → List Nat) (b : Nat) (l : List Nat) (hl : l.length = 160) (i : Nat) : upL (cellF s) (160 * b) (l.map byt) i = cellF (setS s b l) i := by
  refine fam_elem 160 (by decide) (fun i => (s i).map byt) _ _ b (fun c hc => by simp only [setS, if_neg hc]) (fun i hi => ?_) (fun j hj => ?_) i
  · unfold upL
    rw [if_neg (by rw [List.length_map, hl]; omega)]; rfl
  · have := upL_seg (cellF s) (160 * b) (l.map byt) j (byt (l.getD j 0)) (by rw [List.getElem?_map, List.getD_eq_getElem?_getD, List.getElem?_eq_getElem (by omega)]; rfl)
    rw [this]
    simp only [setS, if_true]
    simp only [List.getD_eq_getElem?_getD, List.getElem?_map, List.getElem?_eq_getElem (show j < l.length by omega)]; rfl
theorem AryAt.sect {w : World} {g : Nat} {s : Nat → List Nat} (h : AryAt w g s) (hs : Okr s) (b : Nat) (hb : b < 24) : w.rangeAt g (160 * b) ((s b).map byt) :=
  Seg.range h (cellF_seg s hs b) (by rw [List.length_map, hs.len]; omega)
theorem AryAt.held {w : World} {g : Nat} {s : Nat → List Nat} (h : AryAt w g s) (hs : Okr s) (b : Nat) (hb : b < 24) (j : Nat) (hj : j < 160) : w.cell? ⟨g, 160 * b + j, none⟩ = some (.int .u8 ((s b).getD j 0 : Nat)) := by
  rw [Sto.cell h _ (by omega), cellF_at s hs b j hj]
theorem AryAt.setS {w : World} {g : Nat} {s : Nat → List Nat} (h : AryAt w g s) (b : Nat) (l : List Nat) (hl : l.length = 160) : AryAt (w.setCells g (160 * b) (l.map byt)) g (setS s b l) :=
  (Sto.setCells _ _ h).ext fun i _ => cellF_set s b l hl i
theorem AryAt.ext {w : World} {g : Nat} {s s' : Nat → List Nat} (h : AryAt w g s) (e : ∀ i, i < 24 → s i = s' i) : AryAt w g s' :=
  Sto.ext h fun i hi => by unfold cellF famF; simp only [e (i / 160) (by omega)]

theorem zero54 (w : World) : (zeroValue 54).run Try.prog w = .ok (.agg (List.replicate 3840 (.int .u8 0)).toArray) w := by kernel_rfl
theorem zA_cell (i : Nat) : cellF zA i = .int .u8 0 := by
  have h := cellF_at zA zA_ok (i / 160) (i % 160) (by omega)
  rw [Nat.div_add_mod] at h
  rw [h]
  show Value.int .u8 ((z160.getD (i % 160) 0 : Nat) : Int) = _
  unfold z160
  rw [List.getD_eq_getElem?_getD, List.getElem?_replicate, if_pos (by omega)]; rfl
theorem zrow {w : World} {g : Nat} (h : w.heap[g]? = some (.cells (List.replicate 3840 (.int .u8 0)).toArray 54)) : AryAt w g zA :=
  ⟨_, h, by rw [List.size_toArray, List.length_replicate], fun i hi => by
    rw [zA_cell, List.getElem?_toArray, List.getElem?_replicate, if_pos hi]⟩
theorem anew_any (w : World) :
    Calls Try.prog 6 #[] w fun e w' => e = .returned (.pointer (some ⟨w.heap.size, 0, none⟩)) ∧ AryAt w' w.heap.size zA ∧ Chg (fun _ => False) w w' ∧ w'.heap.size = w.heap.size + 1 := by
  go_enter Try.func6, Try.ntmps6
  go_wp2_with (refine wpList_alloc_row rfl 54 rfl _ rfl zero54 ?_; intro w1 h1 h2 h3)
  have HN := hyd h1
  have H3 := hyd h3
  clear h1 h3
  go_wp2
  go_ret
  exact ⟨rfl, zrow HN.out, h2, H3.out⟩
theorem sec_yes (b : Nat) (hb : b < 24) (w : World) : Calls Try.prog 30 #[.int .i64 b] w fun e w' => e = .returned (.bool true) ∧ w' = w := by
  have h1 : (0 : Int) ≤ b := by omega
  have h2 : (b : Int) < 24 := by omega
  go_enter Try.func30, Try.ntmps30
  go_wp2
  go_ret
  exact ⟨rfl, rfl⟩
theorem sec_no (n : Int) (hn : ¬ (0 ≤ n ∧ n < 24)) (w : World) : Calls Try.prog 30 #[.int .i64 n] w fun e w' => e = .returned (.bool false) ∧ w' = w := by
  by_cases h1 : 0 ≤ n
  · have h2 : ¬ n < 24 := by omega
    go_enter Try.func30, Try.ntmps30
    go_wp2
    go_ret
    exact ⟨rfl, rfl⟩
  · go_enter Try.func30, Try.ntmps30
    go_wp2
    go_ret
    exact ⟨rfl, rfl⟩
end Go.Proofs.Ythpjdnfalecbeaa
