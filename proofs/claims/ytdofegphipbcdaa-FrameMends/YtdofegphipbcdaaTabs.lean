/-
  The document's tables of powers and logarithms: patinaref02.tables. No condition. The document's trial of two places, and its quotient: patinaref02.fits, patinaref02.over. Condition: the tables are the document's, the bytes can be read. The document's quotient, and its word with two symbols taken away: patinaref02.over, patinaref02.turned. Condition: the tables are the document's, the bytes can be read.
-/
import Derived.Test.YtdofegphipbcdaaRefEnc
import Derived.Test.YtdofegphipbcdaaKnow
namespace Go.Proofs.Ytdofegphipbcdaa
open Go.RowKit
set_option maxRecDepth 100000

/-- Numbers as cells. -/
def icells (l : List Nat) : Array Value := (l.map fun (n : Nat) => Value.int .i64 (n : Int)).toArray
theorem icells_size (l : List Nat) : (icells l).size = l.length := by simp [icells]
theorem icells_at (l : List Nat) (i : Nat) (h : i < l.length) : (icells l)[i]? = some (.int .i64 (l.getD i 0 : Nat)) := by
  simp [icells, List.getD_eq_getElem?_getD, List.getElem?_eq_getElem h]
theorem icells_set (l : List Nat) (i v : Nat) : (icells l).setIfInBounds i (.int .i64 (v : Int)) = icells (l.set i v) := by
  apply Array.ext'
  simp [icells, List.map_set]
def Iat (w : World) (g : Nat) (l : List Nat) : Prop := w.heap[g]? = some (.cells (icells l) 3)
theorem Iat.cell {w : World} {g : Nat} {l : List Nat} (h : Iat w g l) (i : Nat) (hi : i < l.length) : w.cell? ⟨g, i, none⟩ = some (.int .i64 (l.getD i 0 : Nat)) := by
  have h' : w.heap[g]? = some (.cells (icells l) 3) := h
  simp only [World.cell?, h', icells_at l i hi]; simp
theorem Iat.frozen {w : World} {g : Nat} {l : List Nat} (h : Iat w g l) (i : Nat) : w.frozen? ⟨g, i, none⟩ = false := by
  have h' : w.heap[g]? = some (.cells (icells l) 3) := h
  simp [World.frozen?, h']
theorem Iat.lt {w : World} {g : Nat} {l : List Nat} (h : Iat w g l) : g < w.heap.size := by
  have h' : w.heap[g]? = some (.cells (icells l) 3) := h
  exact (Array.getElem?_eq_some_iff.1 h').1
theorem Iat.store {w : World} {g : Nat} {l : List Nat} (h : Iat w g l) (i v : Nat) : Iat (w.setCell ⟨g, i, none⟩ (.int .i64 (v : Int))) g (l.set i v) := by
  have h' : w.heap[g]? = some (.cells (icells l) 3) := h
  show (w.setCell ⟨g, i, none⟩ (.int .i64 (v : Int))).heap[g]? = _
  simp [World.setCell, Array.getElem?_modify, h', icells_set]
theorem Iat.other {w w' : World} {g : Nat} {l : List Nat} (h : Iat w g l) (e : w'.heap[g]? = w.heap[g]?) : Iat w' g l := e.trans h
theorem Iat.setOther {w : World} {g : Nat} {l : List Nat} (h : Iat w g l) {k : Nat} (hg : k ≠ g) (o : Nat) (v : Value) : Iat (w.setCell ⟨k, o, none⟩ v) g l :=
  h.other (Below.heap_setCell _ _ _ _ (by simp; omega))
theorem Iat.chg {S : Nat → Prop} {w w' : World} {g : Nat} {l : List Nat} (h : Iat w g l) (hc : Chg S w w') (hg : ¬ S g) : Iat w' g l := (hc.block g h.lt hg).trans h
def z255 : List Nat := List.replicate 255 0
def z256 : List Nat := List.replicate 256 0
theorem make255 (w : World) : (Instr.makeSlice 22 (.int .i64 255) (.int .i64 255)).run Try.prog w = .ok (.slice (some ⟨w.heap.size, 0, none⟩) 255 255) (w.alloc (.cells (bcells z255) 5)) := make_bytes w 255 255 rfl (by omega)
theorem made_ints (n : Nat) : madeCells (Value.int .i64 0).cells n = icells (List.replicate n 0) := by
  apply Array.ext_getElem?
  intro i
  by_cases h : i < n
  · rw [icells_at _ _ (by simpa using h)]
    simp [madeCells, Value.cells, h, Nat.mod_one]
  · rw [Array.getElem?_eq_none (by rw [size_madeCells]; omega), Array.getElem?_eq_none (by rw [icells_size]; simp; omega)]
theorem range_zeros (n : Nat) (f : Nat → Nat) (h : ∀ i, i < n → f i = 0) : (List.range n).map f = List.replicate n 0 :=
  List.eq_replicate_iff.2 ⟨by simp, by
    intro b hb
    obtain ⟨i, hi, rfl⟩ := List.mem_map.1 hb
    exact h i (List.mem_range.1 hi)⟩
theorem info3_all : (Try.prog.info? 3).map (fun i => (i.zero, i.size, i.bytes)) = some (some (.int .i64 0), 1, 8) := by kernel_rfl
theorem make256 (w : World) : (Instr.makeSlice 85 (.int .i64 256) (.int .i64 256)).run Try.prog w = .ok (.slice (some ⟨w.heap.size, 0, none⟩) 256 256) (w.alloc (.cells (icells z256) 3)) := by
  have h := info3_all
  cases e : Try.prog.info? 3 with
  | none => rw [e] at h; cases h
  | some i =>
    rw [e] at h
    simp only [Option.map_some, Option.some.injEq, Prod.mk.injEq] at h
    have hr := run_make (P := Try.prog) w 85 3 i (.int .i64 0) Try.underlying85 e h.1 .i64 .i64 256 256 (by omega) (by omega) (by rw [h.2.2]; decide) (by omega)
    rw [hr, h.2.1]
    have e2 : madeCells (Value.int .i64 0).cells (256 * 1) = icells z256 := made_ints 256
    exact congrArg (fun c => Result.ok (Value.slice (some ⟨w.heap.size, 0, none⟩) 256 256) (w.alloc (.cells c 3))) e2

/-- The powers table behind k rounds; the logarithms'. -/
def tE (k : Nat) : List Nat := (List.range 255).map fun i => if i < k then ex i else 0
def tL (k : Nat) : List Nat := (List.range 256).map fun a => if a ≠ 0 ∧ lg a < k then lg a else 0
theorem tE_length (k : Nat) : (tE k).length = 255 := by simp [tE]
theorem tL_length (k : Nat) : (tL k).length = 256 := by simp [tL]
theorem tE_zero : tE 0 = z255 := range_zeros 255 _ (fun i _ => if_neg (by omega))
theorem tL_zero : tL 0 = z256 := range_zeros 256 _ (fun i _ => if_neg (by omega))
theorem tE_at (k i : Nat) (h : i < 255) : (tE k).getD i 0 = if i < k then ex i else 0 := by simp [tE, List.getD_eq_getElem?_getD, h]
theorem tL_at (k a : Nat) (h : a < 256) : (tL k).getD a 0 = if a ≠ 0 ∧ lg a < k then lg a else 0 := by simp [tL, List.getD_eq_getElem?_getD, h]
theorem getD_set (l : List Nat) (i v j : Nat) (hi : i < l.length) : (l.set i v).getD j 0 = if j = i then v else l.getD j 0 := by
  by_cases e : j = i
  · subst e; rw [if_pos rfl, List.getD_eq_getElem?_getD, List.getElem?_set_self hi]; rfl
  · rw [if_neg e, List.getD_eq_getElem?_getD, List.getElem?_set_ne (by omega), ← List.getD_eq_getElem?_getD]
theorem tE_set (k : Nat) (h : k < 255) : (tE k).set k (ex k) = tE (k + 1) := by
  apply getD_ext (by simp [tE_length])
  intro i hi
  rw [List.length_set, tE_length] at hi
  rw [getD_set _ _ _ _ (by rw [tE_length]; omega), tE_at _ _ hi, tE_at _ _ hi]
  by_cases e : i = k
  · subst e; rw [if_pos rfl, if_pos (by omega)]
  · rw [if_neg e]
    by_cases e2 : i < k
    · rw [if_pos e2, if_pos (by omega)]
    · rw [if_neg e2, if_neg (by omega)]
theorem tL_set (k : Nat) (h : k < 255) : (tL k).set (ex k) k = tL (k + 1) := by
  apply getD_ext (by simp [tL_length])
  intro a ha
  rw [List.length_set, tL_length] at ha
  rw [getD_set _ _ _ _ (by rw [tL_length]; exact ex_lt k), tL_at _ _ ha, tL_at _ _ ha]
  by_cases e : a = ex k
  · subst e; rw [if_pos rfl, if_pos ⟨ex_ne k h, by rw [lg_ex k h]; omega⟩, lg_ex k h]
  · rw [if_neg e]
    by_cases e2 : a ≠ 0 ∧ lg a < k
    · rw [if_pos e2, if_pos ⟨e2.1, by omega⟩]
    · rw [if_neg e2, if_neg]
      rintro ⟨h1, h2⟩
      have h3 : lg a = k := by
        by_cases e3 : lg a < k
        · exact absurd ⟨h1, e3⟩ e2
        · omega
      exact e (by rw [← h3, ex_lg a ha h1])
theorem ex_next (k : Nat) (h : k < 255) : gm (ex k) 2 = ex ((k + 1) % 255) := by
  by_cases e : k < 254
  · rw [Nat.mod_eq_of_lt (by omega)]; exact ex_two k e
  · have e2 : k = 254 := by omega
    subst e2
    rw [gm_two _ (ex_lt _), ex_last]; exact ex_zero.symm

set_option maxHeartbeats 4000000 in
theorem tables_any (w : World) :
    Calls Try.prog 52 #[] w fun e w' => ∃ p g, e = .returned (.tuple #[.slice (some ⟨p, 0, none⟩) 255 255, .slice (some ⟨g, 0, none⟩) 256 256]) ∧ w.heap.size ≤ p ∧ w.heap.size ≤ g ∧ Arr w' p 5 (tE 255) ∧ Iat w' g (tL 255) ∧ Chg (fun _ => False) w w' := by
  have h1 := make255
  have h2 := make256
  go_enter Try.func52, Try.ntmps52
  go_wp2_with fail
  go_loopw [4, 5] (fun x t wr => ∃ k : Nat, k ≤ 255 ∧ t = .int .i64 k ∧ x = .int .u8 (ex (k % 255) : Nat) ∧ Arr wr w.heap.size 5 (tE k) ∧ Iat wr (w.heap.size + 1) (tL k) ∧ Chg (fun _ => False) w wr) (fun _ t _ => 255 - (intOf t).toNat)
  case atStart =>
    refine ⟨0, by omega, rfl, by rw [show 0 % 255 = 0 from rfl, ex_zero]; rfl, by rw [tE_zero]; exact (Arr.new w 5 z255).alloc _, ?_, ((Chg.refl _ _).alloc _).alloc _⟩
    rw [tL_zero]
    have := heap_alloc_new (w.alloc (.cells (bcells z255) 5)) (.cells (icells z256) 3)
    rw [show (w.alloc (.cells (bcells z255) 5)).heap.size = w.heap.size + 1 from by simp] at this
    exact this
  case round =>
    clear h1 h2
    obtain ⟨k, hk, rfl, rfl, hA, hI, hG⟩ := hrel
    by_cases hlt : k < 255
    · have hlt' : (k : Int) < 255 := by omega
      have hkb : (0 : Int) ≤ (k : Int) := by omega
      rw [Nat.mod_eq_of_lt hlt]
      have hx := ex_lt k
      have HX := hyd (ex_next k hlt)
      have HT1 := hyd (tE_set k hlt)
      have HT2 := hyd (tL_set k hlt)
      have hA2 : Arr (wr.setCell ⟨w.heap.size, k, none⟩ (.int .u8 (ex k : Nat))) w.heap.size 5 (tE (k + 1)) := by rw [← HT1.out]; exact hA.store k _
      have hI2 : Iat (wr.setCell ⟨w.heap.size, k, none⟩ (.int .u8 (ex k : Nat))) (w.heap.size + 1) (tL k) := hI.setOther (by omega) _ _
      have hI3 : Iat ((wr.setCell ⟨w.heap.size, k, none⟩ (.int .u8 (ex k : Nat))).setCell ⟨w.heap.size + 1, ex k, none⟩ (.int .i64 (k : Nat))) (w.heap.size + 1) (tL (k + 1)) := by rw [← HT2.out]; exact hI2.store (ex k) k
      have c1 := hA.cell k (by rw [tE_length]; omega)
      have f1 := hA.frozen k
      have c2 := hI2.cell (ex k) (by rw [tL_length]; omega)
      have f2 := hI2.frozen (ex k)
      have HA3 := hyd (hA2.setOther (show w.heap.size + 1 ≠ w.heap.size by omega) (ex k) (.int .i64 (k : Nat)))
      have HI3 := hyd hI3
      have HG3 := hyd ((hG.setCell (Or.inr (Nat.le_refl _)) k (.int .u8 (ex k : Nat))).setCell (Or.inr (show w.heap.size ≤ w.heap.size + 1 by omega)) (ex k) (.int .i64 (k : Nat)))
      have b1 : (0 : Int) ≤ (ex k : Nat) := by omega
      have b2 : ((ex k : Nat) : Int) < 256 := by omega
      clear hA2 hI2 hI3 hA hI hG
      generalize ex k = y at *
      go_wp2_with (first | (go_at_call 46; refine (rmul_nat _ y 2 hx (by omega)).mono ?_; rintro e w3 ⟨rfl, rfl⟩))
      exact ⟨⟨k + 1, by omega, by go_num, by rw [HX.out], HA3.out, HI3.out, HG3.out⟩, by simp [intOf]; omega⟩
    · have hge : ¬ (k : Int) < 255 := by omega
      have e : k = 255 := by omega
      rw [e] at hA hI
      clear e
      go_wp2
      go_ret2
      exact ⟨_, _, rfl, Nat.le_refl _, by omega, hA, hI, hG⟩
end Go.Proofs.Ytdofegphipbcdaa
namespace Go.Proofs.Ytdofegphipbcdaa
open Go.RowKit
set_option maxRecDepth 100000

theorem fit_term {a x j : Nat} (ha : a ≠ 0) (hx : x < 255) : ex ((lg a + j * x) % 255) = gm a (xp (ex x) j) := by
  rw [xp_ex x hx j, gm_of_ne ha (ex_ne _ (Nat.mod_lt _ (by decide))), lg_ex _ (Nat.mod_lt _ (by decide)), Nat.mul_comm x j]
  congr 1
  omega
theorem tL_full {a : Nat} (h : a < 256) (h0 : a ≠ 0) : (tL 255).getD a 0 = lg a := by
  rw [tL_at _ _ h, if_pos ⟨h0, lg_lt a h⟩]
theorem tE_full {i : Nat} (h : i < 255) : (tE 255).getD i 0 = ex i := by rw [tE_at _ _ h, if_pos h]
theorem tmod_nat (n : Nat) : ((n : Nat) : Int).tmod 255 = ((n % 255 : Nat) : Int) := by
  rw [Int.tmod_eq_emod_of_nonneg (by omega)]; omega
def Ft (s : List Nat) (x y a b n : Nat) : Prop := ∀ j, j < n → s.getD j 0 = gm a (xp (ex x) j) ^^^ gm b (xp (ex y) j)
theorem Ft.succ {s : List Nat} {x y a b j : Nat} (h : Ft s x y a b j) (e : s.getD j 0 = gm a (xp (ex x) j) ^^^ gm b (xp (ex y) j)) : Ft s x y a b (j + 1) := by
  intro m hm
  by_cases h1 : m = j
  · subst h1; exact e
  · exact h m (by omega)

def FitAns (w w' : World) (s : List Nat) (x y a b : Nat) (e : Ending) : Prop := ∃ t : Bool, e = .returned (.bool t) ∧ (t = true ↔ Ft s x y a b 6) ∧ w' = w
set_option maxHeartbeats 4000000 in
theorem fits_any (w : World) (c o cs p g a b x y : Nat) (s : List Nat) (_hs : s.length = 6) (bs : Bys s) (ha : a < 256) (hb : b < 256) (hx : x < 64) (hy : y < 64)
    (hA : Arr w p 5 (tE 255)) (hI : Iat w g (tL 255)) (hc : ∀ i, i < 6 → w.cell? ⟨c, o + i, none⟩ = some (.int .u8 (s.getD i 0 : Nat))) :
    Calls Try.prog 53 #[.slice (some ⟨c, o, none⟩) 6 cs, .slice (some ⟨p, 0, none⟩) 255 255, .slice (some ⟨g, 0, none⟩) 256 256, .int .u8 (a : Int), .int .i64 (x : Int), .int .u8 (b : Int), .int .i64 (y : Int)] w
      fun e w' => FitAns w w' s x y a b e := by
  have HC := hyd hc
  clear hc
  go_enter Try.func53, Try.ntmps53
  go_wp2_with fail
  go_loop [15] (fun t => ∃ j : Nat, j ≤ 6 ∧ t = .int .i64 j ∧ Ft s x y a b j) (fun t => 6 - (intOf t).toNat)
  case atStart => exact ⟨0, by omega, rfl, fun j hj => by omega⟩
  case round =>
    obtain ⟨j, hj, rfl, hF⟩ := hrel
    by_cases hlt : j < 6
    · have hlt' : (j : Int) < 6 := by omega
      have hkb : (0 : Int) ≤ (j : Int) := by omega
      have HF := hyd hF
      have c1 := HC.out j hlt
      have hd := bs.getD j
      have HS : Hid (s.getD j 0 = gm a (xp (ex x) j) ^^^ gm b (xp (ex y) j) → Ft s x y a b (j + 1)) := hyd (fun e => hF.succ e)
      have HN : Hid (Ft s x y a b 6 → s.getD j 0 = gm a (xp (ex x) j) ^^^ gm b (xp (ex y) j)) := hyd (fun e => e j hlt)
      clear hF
      have hjx : j * x ≤ 5 * 63 := Nat.mul_le_mul (by omega) (by omega)
      have hjy : j * y ≤ 5 * 63 := Nat.mul_le_mul (by omega) (by omega)
      have ex1 : (j : Int) * (x : Int) = ((j * x : Nat) : Int) := by push_cast; rfl
      have ey1 : (j : Int) * (y : Int) = ((j * y : Nat) : Int) := by push_cast; rfl
      have la := lg_lt a ha
      have lb := lg_lt b hb
      have HTa : Hid (a ≠ 0 → ex ((lg a + j * x) % 255) = gm a (xp (ex x) j)) := hyd (fun e => fit_term e (by omega))
      have HTb : Hid (b ≠ 0 → ex ((lg b + j * y) % 255) = gm b (xp (ex y) j)) := hyd (fun e => fit_term e (by omega))
      have gA := gm_lt a (xp (ex x) j)
      have gB := gm_lt b (xp (ex y) j)
      have HA0 : Hid (a = 0 → gm a (xp (ex x) j) = 0) := hyd (fun e => by rw [e, gm_zero_left])
      have HB0 : Hid (b = 0 → gm b (xp (ex y) j) = 0) := hyd (fun e => by rw [e, gm_zero_left])
      generalize gm a (xp (ex x) j) = A at *
      generalize gm b (xp (ex y) j) = B at *
      generalize s.getD j 0 = S at *
      have q1 : ((lg a : Nat) : Int) + (j : Int) * (x : Int) = ((lg a + j * x : Nat) : Int) := by rw [ex1]; push_cast; rfl
      have q2 : ((lg b : Nat) : Int) + (j : Int) * (y : Int) = ((lg b + j * y : Nat) : Int) := by rw [ey1]; push_cast; rfl
      have w1 : IntKind.i64.wrap ((j : Int) * (x : Int)) = (j : Int) * (x : Int) := by rw [ex1, IntKind.wrap_i64]; omega
      have w2 : IntKind.i64.wrap ((j : Int) * (y : Int)) = (j : Int) * (y : Int) := by rw [ey1, IntKind.wrap_i64]; omega
      have w3 : IntKind.i64.wrap (((lg a : Nat) : Int) + (j : Int) * (x : Int)) = ((lg a : Nat) : Int) + (j : Int) * (x : Int) := by rw [q1, IntKind.wrap_i64]; omega
      have w4 : IntKind.i64.wrap (((lg b : Nat) : Int) + (j : Int) * (y : Int)) = ((lg b : Nat) : Int) + (j : Int) * (y : Int) := by rw [q2, IntKind.wrap_i64]; omega
      have n1 : (((lg a : Nat) : Int) + (j : Int) * (x : Int)).tmod 255 = (((lg a + j * x) % 255 : Nat) : Int) := by rw [q1]; exact tmod_nat _
      have n2 : (((lg b : Nat) : Int) + (j : Int) * (y : Int)).tmod 255 = (((lg b + j * y) % 255 : Nat) : Int) := by rw [q2]; exact tmod_nat _
      have b1 : (lg a + j * x) % 255 < 255 := Nat.mod_lt _ (by decide)
      have b2 : (lg b + j * y) % 255 < 255 := Nat.mod_lt _ (by decide)
      have p1 : w.cell? ⟨p, (lg a + j * x) % 255, none⟩ = some (.int .u8 (ex ((lg a + j * x) % 255) : Nat)) := by
        rw [← tE_full b1]; exact hA.cell _ (by rw [tE_length]; exact b1)
      have p2 : w.cell? ⟨p, (lg b + j * y) % 255, none⟩ = some (.int .u8 (ex ((lg b + j * y) % 255) : Nat)) := by
        rw [← tE_full b2]; exact hA.cell _ (by rw [tE_length]; exact b2)
      have u1 : (0 : Int) ≤ (((lg a : Nat) : Int) + (j : Int) * (x : Int)).tmod 255 := by rw [n1]; omega
      have u2 : (0 : Int) ≤ (((lg b : Nat) : Int) + (j : Int) * (y : Int)).tmod 255 := by rw [n2]; omega
      have u3 : (((lg a : Nat) : Int) + (j : Int) * (x : Int)).tmod 255 < 255 := by rw [n1]; omega
      have u4 : (((lg b : Nat) : Int) + (j : Int) * (y : Int)).tmod 255 < 255 := by rw [n2]; omega
      clear q1 q2 n1 n2 b1 b2 ex1 ey1 hjx hjy
      have x1 : bits BinOp.xor IntKind.u8 0 (A : Int) = (A : Int) := by have := u8_xor_nat 0 A (by omega) gA; rwa [Nat.zero_xor] at this
      have x2 : bits BinOp.xor IntKind.u8 0 (B : Int) = (B : Int) := by have := u8_xor_nat 0 B (by omega) gB; rwa [Nat.zero_xor] at this
      have x3 := u8_xor_nat A B gA gB
      have ab1 : (0 : Int) ≤ (a : Int) := by omega
      have ab2 : (a : Int) < 256 := by omega
      have bb1 : (0 : Int) ≤ (b : Int) := by omega
      have bb2 : (b : Int) < 256 := by omega
      by_cases a0 : a = 0
      · have A0 := HA0.out a0
        subst A0
        have za : ((a : Int) != 0) = false := by rw [a0]; rfl
        clear a0 p1 x1 x3
        by_cases b0 : b = 0
        · have B0 := HB0.out b0
          subst B0
          have zb : ((b : Int) != 0) = false := by rw [b0]; rfl
          clear b0 p2 x2
          by_cases hS : S = 0
          · have zs : ((0 : Int) != (S : Nat)) = false := by rw [hS]; simp
            have HS' := hyd (HS.out (by rw [hS]; rfl))
            clear hS
            go_wp2
            exact ⟨⟨j + 1, by omega, by go_num, HS'.out⟩, by simp [intOf]; omega⟩
          · have zs : ((0 : Int) != (S : Nat)) = true := by simp only [bne_iff_ne, ne_eq]; omega
            have HN' : Hid (¬ Ft s x y a b 6) := hyd (fun e => hS (by have := HN.out e; rw [this]; rfl))
            clear hS
            go_wp2
            go_ret
            exact ⟨false, rfl, ⟨fun e => by simp at e, fun e => absurd e HN'.out⟩, rfl⟩
        · have zb : ((b : Int) != 0) = true := by simp only [bne_iff_ne, ne_eq]; omega
          rw [HTb.out b0] at p2
          clear HTb
          have i1 := hI.cell b (by rw [tL_length]; omega)
          rw [tL_full hb b0] at i1
          clear b0
          by_cases hS : S = B
          · have zs : (((B : Nat) : Int) != (S : Nat)) = false := by rw [hS]; simp
            have HS' := hyd (HS.out (by rw [hS]; rw [Nat.zero_xor]))
            clear hS
            go_wp2
            exact ⟨⟨j + 1, by omega, by go_num, HS'.out⟩, by simp [intOf]; omega⟩
          · have zs : (((B : Nat) : Int) != (S : Nat)) = true := by simp only [bne_iff_ne, ne_eq]; omega
            have HN' : Hid (¬ Ft s x y a b 6) := hyd (fun e => hS (by have := HN.out e; rw [this, Nat.zero_xor]))
            clear hS
            go_wp2
            go_ret
            exact ⟨false, rfl, ⟨fun e => by simp at e, fun e => absurd e HN'.out⟩, rfl⟩
      · have za : ((a : Int) != 0) = true := by simp only [bne_iff_ne, ne_eq]; omega
        rw [HTa.out a0] at p1
        clear HTa
        have i2 := hI.cell a (by rw [tL_length]; omega)
        rw [tL_full ha a0] at i2
        clear a0
        by_cases b0 : b = 0
        · have B0 := HB0.out b0
          subst B0
          have zb : ((b : Int) != 0) = false := by rw [b0]; rfl
          clear b0 p2 x2 x3
          by_cases hS : S = A
          · have zs : (((A : Nat) : Int) != (S : Nat)) = false := by rw [hS]; simp
            have HS' := hyd (HS.out (by rw [hS]; rw [Nat.xor_zero]))
            clear hS
            go_wp2
            exact ⟨⟨j + 1, by omega, by go_num, HS'.out⟩, by simp [intOf]; omega⟩
          · have zs : (((A : Nat) : Int) != (S : Nat)) = true := by simp only [bne_iff_ne, ne_eq]; omega
            have HN' : Hid (¬ Ft s x y a b 6) := hyd (fun e => hS (by have := HN.out e; rw [this, Nat.xor_zero]))
            clear hS
            go_wp2
            go_ret
            exact ⟨false, rfl, ⟨fun e => by simp at e, fun e => absurd e HN'.out⟩, rfl⟩
        · have zb : ((b : Int) != 0) = true := by simp only [bne_iff_ne, ne_eq]; omega
          rw [HTb.out b0] at p2
          clear HTb
          have i1 := hI.cell b (by rw [tL_length]; omega)
          rw [tL_full hb b0] at i1
          clear b0
          by_cases hS : S = A ^^^ B
          · have zs : (((A ^^^ B : Nat) : Int) != (S : Nat)) = false := by rw [hS]; simp
            have HS' := hyd (HS.out (by rw [hS]))
            clear hS
            go_wp2
            exact ⟨⟨j + 1, by omega, by go_num, HS'.out⟩, by simp [intOf]; omega⟩
          · have zs : (((A ^^^ B : Nat) : Int) != (S : Nat)) = true := by simp only [bne_iff_ne, ne_eq]; omega
            have HN' : Hid (¬ Ft s x y a b 6) := hyd (fun e => hS (by have := HN.out e; rw [this]))
            clear hS
            go_wp2
            go_ret
            exact ⟨false, rfl, ⟨fun e => by simp at e, fun e => absurd e HN'.out⟩, rfl⟩
    · have hge : ¬ (j : Int) < 6 := by omega
      have hF6 : Ft s x y a b 6 := by
        have e : j = 6 := by omega
        rw [e] at hF; exact hF
      have HF := hyd hF6
      clear hF hF6
      go_wp2
      go_ret
      exact ⟨true, rfl, ⟨fun _ => HF.out, fun _ => rfl⟩, rfl⟩
end Go.Proofs.Ytdofegphipbcdaa
namespace Go.Proofs.Ytdofegphipbcdaa
open Go.RowKit
set_option maxRecDepth 100000

theorem tL_full' {a : Nat} (h : a < 256) (h0 : a ≠ 0) : (tL 255).getD a 0 = lg a := by
  rw [tL_at _ _ h, if_pos ⟨h0, lg_lt a h⟩]
theorem tE_full' {i : Nat} (h : i < 255) : (tE 255).getD i 0 = ex i := by rw [tE_at _ _ h, if_pos h]
theorem over_term {a b : Nat} (ha : a < 256) (hb : b < 256) (a0 : a ≠ 0) (_b0 : b ≠ 0) : ex ((lg a + 255 - lg b) % 255) = gm a (iv b) := by
  have h1 := lg_lt a ha
  have h2 := lg_lt b hb
  rw [gm_of_ne a0 (iv_ne b)]
  unfold iv
  rw [lg_ex _ (Nat.mod_lt _ (by decide))]
  congr 1
  omega

set_option maxHeartbeats 4000000 in
theorem over_any (w : World) (p g a b : Nat) (ha : a < 256) (hb : b < 256) (b0 : b ≠ 0) (hA : Arr w p 5 (tE 255)) (hI : Iat w g (tL 255)) :
    Calls Try.prog 54 #[.slice (some ⟨p, 0, none⟩) 255 255, .slice (some ⟨g, 0, none⟩) 256 256, .int .u8 (a : Int), .int .u8 (b : Int)] w
      fun e w' => e = .returned (.int .u8 (gm a (iv b) : Nat)) ∧ Chg (fun _ => False) w w' := by
  by_cases a0 : a = 0
  · subst a0
    go_enter Try.func54, Try.ntmps54
    go_wp2
    go_ret
    exact ⟨by rw [gm_zero_left]; rfl, Chg.refl _ _⟩
  · have h1 := lg_lt a ha
    have h2 := lg_lt b hb
    have za : ((a : Int) == 0) = false := by rw [beq_eq_false_iff_ne]; omega
    have i1 := hI.cell a (by rw [tL_length]; omega)
    have i2 := hI.cell b (by rw [tL_length]; omega)
    rw [tL_full' ha a0] at i1
    rw [tL_full' hb b0] at i2
    have bm : (lg a + 255 - lg b) % 255 < 255 := Nat.mod_lt _ (by decide)
    have p1 := hA.cell ((lg a + 255 - lg b) % 255) (by rw [tE_length]; exact bm)
    rw [tE_full' bm, over_term ha hb a0 b0] at p1
    have s1 : ((lg a : Nat) : Int) - ((lg b : Nat) : Int) + 255 = ((lg a + 255 - lg b : Nat) : Int) := by omega
    have hM : lg a + 255 - lg b ≤ 600 := by omega
    generalize lg a + 255 - lg b = M at *
    have hr := gm_lt a (iv b)
    generalize gm a (iv b) = r at *
    have c1 : (0 : Int) ≤ (a : Int) := by omega
    have c2 : (a : Int) < 256 := by omega
    have c3 : (0 : Int) ≤ (b : Int) := by omega
    have c4 : (b : Int) < 256 := by omega
    clear a0 b0
    go_enter Try.func54, Try.ntmps54
    go_wp2_with fail
    have w1 : IntKind.i64.wrap (((lg a : Nat) : Int) - ((lg b : Nat) : Int)) = ((lg a : Nat) : Int) - ((lg b : Nat) : Int) := by rw [IntKind.wrap_i64]; omega
    have w2 : IntKind.i64.wrap ((M : Nat) : Int) = (M : Int) := by rw [IntKind.wrap_i64]; omega
    have t1 : ((M : Nat) : Int).tmod 255 = ((M % 255 : Nat) : Int) := by rw [Int.tmod_eq_emod_of_nonneg (by omega)]; omega
    go_region
    all_goals
      go_wp2
      go_ret
      exact ⟨rfl, (Chg.refl _ _).drew⟩

theorem take_held {w : World} {base : Nat} {r cr : Nat} {L : List Nat} (h : Own w base 5 (.slice (some ⟨r, 0, none⟩) 64 cr) L) (hL : L.length = 64) : Held w (.slice (some ⟨r, 0, none⟩) 58 cr) (L.take 58) := by
  have h1 : (L.take 58).length = 58 := by rw [List.length_take, hL]; rfl
  refine ⟨_, cr, by rw [h1], Or.inr ⟨r, 0, rfl, (h.block (k := r) rfl).2, fun i hi => ?_⟩⟩
  rw [Nat.zero_add, getD_take _ _ _ (by omega)]
  exact (h.cellAt i (by omega)).1

set_option maxHeartbeats 4000000 in
theorem rturned_any (w : World) (c o cap a i b k : Nat) (l : List Nat) (hl : l.length = 64) (hbl : Bys l) (ha : a < 256) (hb : b < 256) (hi : i < 64) (hk : k < 64)
    (hcell : ∀ j, j < l.length → w.cell? ⟨c, o + j, none⟩ = some (.int .u8 (l.getD j 0 : Nat))) :
    Calls Try.prog 51 #[.slice (some ⟨c, o, none⟩) 64 cap, .int .u8 (a : Int), .int .i64 (i : Int), .int .u8 (b : Int), .int .i64 (k : Int)] w
      fun e w' => ∃ r cr, e = .returned (.slice (some ⟨r, 0, none⟩) 58 cr) ∧ (w.heap.size ≤ r ∧ 64 ≤ cr) ∧ Held w' (.slice (some ⟨r, 0, none⟩) 58 cr) ((addAt (addAt l i a) k b).take 58) ∧ Chg (fun _ => False) w w' := by
  have hi5 := info5
  have HS : Hid (∀ ad, some (⟨c, o, none⟩ : Addr) = some ad → ∀ j, j < 64 → w.cell? (ad.add j) = some (.int .u8 (l.getD j 0 : Nat))) := hyd (by
    intro ad had j hj
    obtain rfl := Option.some.inj had
    rw [Addr.add_lit]
    exact hcell j (by omega))
  clear hcell
  go_enter Try.func51, Try.ntmps51
  go_wp2_with (at_builtin; refine wpList_append_bytes _ rfl (.tmp 12) (.tmp 13) 22 rfl w.heap.size 5 Try.underlying22 hi5 _ [] rfl (Own.nil _ _ _) (some ⟨c, o, none⟩) 64 cap l rfl hl (fun e => by cases e) HS.out (by simp) (Nat.le_refl _) w.heap.size rfl ?_)
  intro v1 w1 O1 g1 _
  have G1 : Chg (fun _ => False) w w1 := (Chg.refl _ _).grown g1 (fun k hk => by cases hk)
  clear g1
  obtain ⟨r, cr, hv⟩ := O1.at_store (by omega)
  rw [hl] at hv
  subst hv
  have O1' : Own w1 w.heap.size 5 (.slice (some ⟨r, 0, none⟩) 64 cr) l := O1
  clear O1
  have hrb := (O1'.block (k := r) rfl).1
  have hcr : 64 ≤ cr := by
    obtain ⟨g', cap', hv, -, -, hc, -⟩ := O1'.lies (by omega)
    simp only [Value.slice.injEq] at hv
    omega
  have hm1 : (addAt l i a).length = 64 := by rw [addAt_length]; exact hl
  have hmb1 : Bys (addAt l i a) := addAt_bys hbl i _ ha
  obtain ⟨c1, f1⟩ := O1'.cellAt i (by omega)
  have d1 := hbl.getD i
  have e1 := u8_xor_nat (l.getD i 0) a d1 ha
  have O2 : Own (w1.setCell ⟨r, i, none⟩ (.int .u8 ((l.getD i 0 ^^^ a : Nat) : Int))) w.heap.size 5 (.slice (some ⟨r, 0, none⟩) 64 cr) (addAt l i a) := O1'.store i _ (by omega)
  obtain ⟨c2, f2⟩ := O2.cellAt k (by omega)
  have d2 := hmb1.getD k
  have e2 := u8_xor_nat ((addAt l i a).getD k 0) b d2 hb
  have O3 : Own ((w1.setCell ⟨r, i, none⟩ (.int .u8 ((l.getD i 0 ^^^ a : Nat) : Int))).setCell ⟨r, k, none⟩ (.int .u8 (((addAt l i a).getD k 0 ^^^ b : Nat) : Int))) w.heap.size 5 (.slice (some ⟨r, 0, none⟩) 64 cr) (addAt (addAt l i a) k b) := O2.store k _ (by omega)
  have G3 := (G1.setCell (Or.inr hrb) i (.int .u8 ((l.getD i 0 ^^^ a : Nat) : Int))).setCell (Or.inr hrb) k (.int .u8 (((addAt l i a).getD k 0 ^^^ b : Nat) : Int))
  have H3 := hyd (take_held O3 (by rw [addAt_length]; exact hm1))
  have HG3 := hyd G3
  clear O1' O2 O3 G1 G3 hmb1 hm1
  generalize (addAt l i a).getD k 0 = x2 at *
  generalize l.getD i 0 = x1 at *
  have b1 : (0 : Int) ≤ (i : Int) := by omega
  have b2 : (i : Int) < 64 := by omega
  have b3 : (0 : Int) ≤ (k : Int) := by omega
  have b4 : (k : Int) < 64 := by omega
  have b5 : (58 : Int) ≤ (cr : Int) := by omega
  have b6 : 58 ≤ cr := by omega
  have b7 : (64 : Int) ≤ (cr : Int) := by omega
  go_wp2
  go_ret
  exact ⟨r, cr, rfl, ⟨hrb, hcr⟩, H3.out, HG3.out⟩
end Go.Proofs.Ytdofegphipbcdaa
