/-
  The document's tables of powers and logarithms: patinaref02.tables. No condition.
-/
import Derived.Test.YtfihhamjlcnpnaaRefEnc
namespace Go.Proofs.Ytfihhamjlcnpnaa
open Go.RowKit
set_option maxRecDepth 100000

/-- Numbers as cells. -/
def icells (l : List Nat) : Array Value := (l.map fun (n : Nat) => Value.int .i64 (n : Int)).toArray
theorem icells_size (l : List Nat) : (icells l).size = l.length := by simp [icells]
theorem icells_at (l : List Nat) (i : Nat) (h : i < l.length) : (icells l)[i]? = some (.int .i64 (l.getD i 0 : Nat)) := by
  simp [icells, List.getD_eq_getElem?_getD, List.getElem?_eq_getElem h]
theorem icells_set (l : List Nat) (i v : Nat) : (icells l).setIfInBounds i (.int .i64 (v : Int)) = icells (l.set i v) := by
  apply Array.ext'
  simp [icells, List.map_set]
def Iat (w : World) (g : Nat) (l : List Nat) : Prop := w.heap[g]? = some (.cells (icells l) 3)
theorem Iat.cell {w : World} {g : Nat} {l : List Nat} (h : Iat w g l) (i : Nat) (hi : i < l.length) : w.cell? ⟨g, i, none⟩ = some (.int .i64 (l.getD i 0 : Nat)) := by
  have h' : w.heap[g]? = some (.cells (icells l) 3) := h
  simp only [World.cell?, h', icells_at l i hi]; simp
theorem Iat.frozen {w : World} {g : Nat} {l : List Nat} (h : Iat w g l) (i : Nat) : w.frozen? ⟨g, i, none⟩ = false := by
  have h' : w.heap[g]? = some (.cells (icells l) 3) := h
  simp [World.frozen?, h']
theorem Iat.lt {w : World} {g : Nat} {l : List Nat} (h : Iat w g l) : g < w.heap.size := by
  have h' : w.heap[g]? = some (.cells (icells l) 3) := h
  exact (Array.getElem?_eq_some_iff.1 h').1
theorem Iat.store {w : World} {g : Nat} {l : List Nat} (h : Iat w g l) (i v : Nat) : Iat (w.setCell ⟨g, i, none⟩ (.int .i64 (v : Int))) g (l.set i v) := by
  have h' : w.heap[g]? = some (.cells (icells l) 3) := h
  show (w.setCell ⟨g, i, none⟩ (.int .i64 (v : Int))).heap[g]? = _
  simp [World.setCell, Array.getElem?_modify, h', icells_set]
theorem Iat.other {w w' : World} {g : Nat} {l : List Nat} (h : Iat w g l) (e : w'.heap[g]? = w.heap[g]?) : Iat w' g l := e.trans h
theorem Iat.setOther {w : World} {g : Nat} {l : List Nat} (h : Iat w g l) {k : Nat} (hg : k ≠ g) (o : Nat) (v : Value) : Iat (w.setCell ⟨k, o, none⟩ v) g l :=
  h.other (Below.heap_setCell _ _ _ _ (by simp; omega))
theorem Iat.chg {S : Nat → Prop} {w w' : World} {g : Nat} {l : List Nat} (h : Iat w g l) (hc : Chg S w w') (hg : ¬ S g) : Iat w' g l := (hc.block g h.lt hg).trans h
def z255 : List Nat := List.replicate 255 0
def z256 : List Nat := List.replicate 256 0
theorem make255 (w : World) : (Instr.makeSlice 22 (.int .i64 255) (.int .i64 255)).run Try.prog w = .ok (.slice (some ⟨w.heap.size, 0, none⟩) 255 255) (w.alloc (.cells (bcells z255) 5)) := make_bytes w 255 255 rfl (by omega)
theorem made_ints (n : Nat) : madeCells (Value.int .i64 0).cells n = icells (List.replicate n 0) := by
  apply Array.ext_getElem?
  intro i
  by_cases h : i < n
  · rw [icells_at _ _ (by simpa using h)]
    simp [madeCells, Value.cells, h, Nat.mod_one]
  · rw [Array.getElem?_eq_none (by rw [size_madeCells]; omega), Array.getElem?_eq_none (by rw [icells_size]; simp; omega)]
theorem range_zeros (n : Nat) (f : Nat → Nat) (h : ∀ i, i < n → f i = 0) : (List.range n).map f = List.replicate n 0 :=
  List.eq_replicate_iff.2 ⟨by simp, by
    intro b hb
    obtain ⟨i, hi, rfl⟩ := List.mem_map.1 hb
    exact h i (List.mem_range.1 hi)⟩
theorem info3_all : (Try.prog.info? 3).map (fun i => (i.zero, i.size, i.bytes)) = some (some (.int .i64 0), 1, 8) := by kernel_rfl
theorem make256 (w : World) : (Instr.makeSlice 68 (.int .i64 256) (.int .i64 256)).run Try.prog w = .ok (.slice (some ⟨w.heap.size, 0, none⟩) 256 256) (w.alloc (.cells (icells z256) 3)) := by
  have h := info3_all
  cases e : Try.prog.info? 3 with
  | none => rw [e] at h; cases h
  | some i =>
    rw [e] at h
    simp only [Option.map_some, Option.some.injEq, Prod.mk.injEq] at h
    have hr := run_make (P := Try.prog) w 68 3 i (.int .i64 0) Try.underlying68 e h.1 .i64 .i64 256 256 (by omega) (by omega) (by rw [h.2.2]; decide) (by omega)
    rw [hr, h.2.1]
    have e2 : madeCells (Value.int .i64 0).cells (256 * 1) = icells z256 := made_ints 256
    exact congrArg (fun c => Result.ok (Value.slice (some ⟨w.heap.size, 0, none⟩) 256 256) (w.alloc (.cells c 3))) e2

/-- The powers table behind k rounds; the logarithms'. -/
def tE (k : Nat) : List Nat := (List.range 255).map fun i => if i < k then ex i else 0
def tL (k : Nat) : List Nat := (List.range 256).map fun a => if a ≠ 0 ∧ lg a < k then lg a else 0
theorem tE_length (k : Nat) : (tE k).length = 255 := by simp [tE]
theorem tL_length (k : Nat) : (tL k).length = 256 := by simp [tL]
theorem tE_zero : tE 0 = z255 := range_zeros 255 _ (fun i _ => if_neg (by omega))
theorem tL_zero : tL 0 = z256 := range_zeros 256 _ (fun i _ => if_neg (by omega))
theorem tE_at (k i : Nat) (h : i < 255) : (tE k).getD i 0 = if i < k then ex i else 0 := by simp [tE, List.getD_eq_getElem?_getD, h]
theorem tL_at (k a : Nat) (h : a < 256) : (tL k).getD a 0 = if a ≠ 0 ∧ lg a < k then lg a else 0 := by simp [tL, List.getD_eq_getElem?_getD, h]
theorem getD_set (l : List Nat) (i v j : Nat) (hi : i < l.length) : (l.set i v).getD j 0 = if j = i then v else l.getD j 0 := by
  by_cases e : j = i
  · subst e; rw [if_pos rfl, List.getD_eq_getElem?_getD, List.getElem?_set_self hi]; rfl
  · rw [if_neg e, List.getD_eq_getElem?_getD, List.getElem?_set_ne (by omega), ← List.getD_eq_getElem?_getD]
theorem tE_set (k : Nat) (h : k < 255) : (tE k).set k (ex k) = tE (k + 1) := by
  apply getD_ext (by simp [tE_length])
  intro i hi
  rw [List.length_set, tE_length] at hi
  rw [getD_set _ _ _ _ (by rw [tE_length]; omega), tE_at _ _ hi, tE_at _ _ hi]
  by_cases e : i = k
  · subst e; rw [if_pos rfl, if_pos (by omega)]
  · rw [if_neg e]
    by_cases e2 : i < k
    · rw [if_pos e2, if_pos (by omega)]
    · rw [if_neg e2, if_neg (by omega)]
theorem tL_set (k : Nat) (h : k < 255) : (tL k).set (ex k) k = tL (k + 1) := by
  apply getD_ext (by simp [tL_length])
  intro a ha
  rw [List.length_set, tL_length] at ha
  rw [getD_set _ _ _ _ (by rw [tL_length]; exact ex_lt k), tL_at _ _ ha, tL_at _ _ ha]
  by_cases e : a = ex k
  · subst e; rw [if_pos rfl, if_pos ⟨ex_ne k h, by rw [lg_ex k h]; omega⟩, lg_ex k h]
  · rw [if_neg e]
    by_cases e2 : a ≠ 0 ∧ lg a < k
    · rw [if_pos e2, if_pos ⟨e2.1, by omega⟩]
    · rw [if_neg e2, if_neg]
      rintro ⟨h1, h2⟩
      have h3 : lg a = k := by
        by_cases e3 : lg a < k
        · exact absurd ⟨h1, e3⟩ e2
        · omega
      exact e (by rw [← h3, ex_lg a ha h1])
theorem ex_next (k : Nat) (h : k < 255) : gm (ex k) 2 = ex ((k + 1) % 255) := by
  by_cases e : k < 254
  · rw [Nat.mod_eq_of_lt (by omega)]; exact ex_two k e
  · have e2 : k = 254 := by omega
    subst e2
    rw [gm_two _ (ex_lt _), ex_last]; exact ex_zero.symm

set_option maxHeartbeats 4000000 in
theorem tables_any (w : World) :
    Calls Try.prog 37 #[] w fun e w' => ∃ p g, e = .returned (.tuple #[.slice (some ⟨p, 0, none⟩) 255 255, .slice (some ⟨g, 0, none⟩) 256 256]) ∧ w.heap.size ≤ p ∧ w.heap.size ≤ g ∧ Arr w' p 5 (tE 255) ∧ Iat w' g (tL 255) ∧ Chg (fun _ => False) w w' := by
  have h1 := make255
  have h2 := make256
  go_enter Try.func37, Try.ntmps37
  go_wp2_with fail
  go_loopw [4, 5] (fun x t wr => ∃ k : Nat, k ≤ 255 ∧ t = .int .i64 k ∧ x = .int .u8 (ex (k % 255) : Nat) ∧ Arr wr w.heap.size 5 (tE k) ∧ Iat wr (w.heap.size + 1) (tL k) ∧ Chg (fun _ => False) w wr) (fun _ t _ => 255 - (intOf t).toNat)
  case atStart =>
    refine ⟨0, by omega, rfl, by rw [show 0 % 255 = 0 from rfl, ex_zero]; rfl, by rw [tE_zero]; exact (Arr.new w 5 z255).alloc _, ?_, ((Chg.refl _ _).alloc _).alloc _⟩
    rw [tL_zero]
    have := heap_alloc_new (w.alloc (.cells (bcells z255) 5)) (.cells (icells z256) 3)
    rw [show (w.alloc (.cells (bcells z255) 5)).heap.size = w.heap.size + 1 from by simp] at this
    exact this
  case round =>
    clear h1 h2
    obtain ⟨k, hk, rfl, rfl, hA, hI, hG⟩ := hrel
    by_cases hlt : k < 255
    · have hlt' : (k : Int) < 255 := by omega
      have hkb : (0 : Int) ≤ (k : Int) := by omega
      rw [Nat.mod_eq_of_lt hlt]
      have hx := ex_lt k
      have HX := hyd (ex_next k hlt)
      have HT1 := hyd (tE_set k hlt)
      have HT2 := hyd (tL_set k hlt)
      have hA2 : Arr (wr.setCell ⟨w.heap.size, k, none⟩ (.int .u8 (ex k : Nat))) w.heap.size 5 (tE (k + 1)) := by rw [← HT1.out]; exact hA.store k _
      have hI2 : Iat (wr.setCell ⟨w.heap.size, k, none⟩ (.int .u8 (ex k : Nat))) (w.heap.size + 1) (tL k) := hI.setOther (by omega) _ _
      have hI3 : Iat ((wr.setCell ⟨w.heap.size, k, none⟩ (.int .u8 (ex k : Nat))).setCell ⟨w.heap.size + 1, ex k, none⟩ (.int .i64 (k : Nat))) (w.heap.size + 1) (tL (k + 1)) := by rw [← HT2.out]; exact hI2.store (ex k) k
      have c1 := hA.cell k (by rw [tE_length]; omega)
      have f1 := hA.frozen k
      have c2 := hI2.cell (ex k) (by rw [tL_length]; omega)
      have f2 := hI2.frozen (ex k)
      have HA3 := hyd (hA2.setOther (show w.heap.size + 1 ≠ w.heap.size by omega) (ex k) (.int .i64 (k : Nat)))
      have HI3 := hyd hI3
      have HG3 := hyd ((hG.setCell (Or.inr (Nat.le_refl _)) k (.int .u8 (ex k : Nat))).setCell (Or.inr (show w.heap.size ≤ w.heap.size + 1 by omega)) (ex k) (.int .i64 (k : Nat)))
      have b1 : (0 : Int) ≤ (ex k : Nat) := by omega
      have b2 : ((ex k : Nat) : Int) < 256 := by omega
      clear hA2 hI2 hI3 hA hI hG
      generalize ex k = y at *
      go_wp2_with (first | (go_at_call 32; refine (rmul_nat _ y 2 hx (by omega)).mono ?_; rintro e w3 ⟨rfl, rfl⟩))
      exact ⟨⟨k + 1, by omega, by go_num, by rw [HX.out], HA3.out, HI3.out, HG3.out⟩, by simp [intOf]; omega⟩
    · have hge : ¬ (k : Int) < 255 := by omega
      have e : k = 255 := by omega
      rw [e] at hA hI
      clear e
      go_wp2
      go_ret2
      exact ⟨_, _, rfl, Nat.le_refl _, by omega, hA, hI, hG⟩
end Go.Proofs.Ytfihhamjlcnpnaa
