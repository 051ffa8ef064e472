/-
  tag.Encode, walked: the body of a tag that may be, in new memory; ErrArg for the others. No condition.
-/
import Derived.Test.YtgipkdkhgdaeiaaFields
namespace Go.Proofs.Ytgipkdkhgdaeiaa
open Go.RowKit
set_option maxRecDepth 100000

/-- What is laid of a tag's body behind k fields. -/
def pre (p o s c : Nat) (l : Bool) : Nat → List Nat
  | 0 => []
  | 1 => bts p 2
  | 2 => bts p 2 ++ bts o 1
  | 3 => bts p 2 ++ bts o 1 ++ bts s 5
  | 4 => bts p 2 ++ bts o 1 ++ bts s 5 ++ bts c 1
  | _ => bts p 2 ++ bts o 1 ++ bts s 5 ++ bts c 1 ++ bts l.toNat 1
/-- The row behind k fields: the rest is noughts. -/
def row (p o s c : Nat) (l : Bool) (k : Nat) : List Nat := pre p o s c l k ++ List.replicate (50 - (pre p o s c l k).length) 0
/-- A tag's body. -/
def body (p o s c : Nat) (l : Bool) : List Nat := row p o s c l 5
theorem row_length (p o s c : Nat) (l : Bool) (k : Nat) (hk : k ≤ 5) : (row p o s c l k).length = 50 := by
  have : (pre p o s c l k).length ≤ 50 := by
    rcases (by omega : k = 0 ∨ k = 1 ∨ k = 2 ∨ k = 3 ∨ k = 4 ∨ k = 5) with rfl | rfl | rfl | rfl | rfl | rfl <;> simp [pre, bts_length]
  simp [row]; omega
theorem body_length (p o s c : Nat) (l : Bool) : (body p o s c l).length = 50 := row_length p o s c l 5 (by decide)
theorem lay_step (q src : List Nat) (n k : Nat) (hn : n = q.length) : lay (q ++ List.replicate (src.length + k) 0) n src = (q ++ src) ++ List.replicate k 0 := by
  subst hn
  simp [lay, List.drop_append, List.append_assoc]
theorem row_step1 (p o s c : Nat) (l : Bool) : lay (row p o s c l 0) 0 (bts p 2) = row p o s c l 1 := by
  have := lay_step [] (bts p 2) 0 48 rfl
  simp only [bts_length] at this
  simpa [row, pre, bts_length] using this
theorem row_step2 (p o s c : Nat) (l : Bool) : lay (row p o s c l 1) 2 (bts o 1) = row p o s c l 2 := by
  have := lay_step (bts p 2) (bts o 1) 2 47 (by simp [bts_length])
  simp only [bts_length] at this
  simpa [row, pre, bts_length] using this
theorem row_step3 (p o s c : Nat) (l : Bool) : lay (row p o s c l 2) 3 (bts s 5) = row p o s c l 3 := by
  have := lay_step (bts p 2 ++ bts o 1) (bts s 5) 3 42 (by simp [bts_length])
  simp only [bts_length] at this
  simpa [row, pre, bts_length] using this
theorem row_step4 (p o s c : Nat) (l : Bool) : lay (row p o s c l 3) 8 (bts c 1) = row p o s c l 4 := by
  have := lay_step (bts p 2 ++ bts o 1 ++ bts s 5) (bts c 1) 8 41 (by simp [bts_length])
  simp only [bts_length] at this
  simpa [row, pre, bts_length] using this
theorem row_step5 (p o s c : Nat) (l : Bool) : lay (row p o s c l 4) 9 (bts l.toNat 1) = row p o s c l 5 := by
  have := lay_step (bts p 2 ++ bts o 1 ++ bts s 5 ++ bts c 1) (bts l.toNat 1) 9 40 (by simp [bts_length])
  simp only [bts_length] at this
  simpa [row, pre, bts_length] using this
/-- 50 noughts. -/
def z50 : List Nat := List.replicate 50 0
theorem make_room (w : World) : (Instr.makeSlice 28 (.int .i64 0) (.int .i64 50)).run Try.prog w = .ok (.slice (some ⟨w.heap.size, 0, none⟩) 0 50) (w.alloc (.cells (bcells z50) 5)) := by
  obtain ⟨i, h1, h2, h3, h4⟩ := info5
  have h := run_make (P := Try.prog) w 28 5 i (.int .u8 0) Try.underlying28 h1 h2 .i64 .i64 0 50 (by omega) (by omega) (by rw [h4]; omega) (by omega)
  rw [h, h3, made_bytes]; rfl
theorem build48 (p o s c : Int) (l : Bool) (g : Nat) (w : World) : (Instr.build 48 #[(0, .agg #[.int .i64 p, .int .i64 o, .int .i64 s, .int .i64 c, .bool l]), (1, .slice (some ⟨g, 0, none⟩) 0 50)]).run Try.prog w = .ok (.agg #[.int .i64 p, .int .i64 o, .int .i64 s, .int .i64 c, .bool l, .slice (some ⟨g, 0, none⟩) 0 50]) w := by kernel_rfl

set_option maxHeartbeats 2000000 in
theorem encode_no (w : World) (p o s c : Int) (l : Bool) (h : ¬ May p o s c l) :
    Calls Try.prog 8 #[.agg #[.int .i64 p, .int .i64 o, .int .i64 s, .int .i64 c, .bool l]] w fun e w' => e = .returned (.tuple #[.slice none 0 0, .iface 32 (.int .i64 1)]) ∧ Chg (fun _ => False) w w' := by
  have hcall := fun w => (check_any w p o s c l).2 h
  have G0 : Chg (fun _ => False) w (w.alloc (.cells #[.int .i64 p, .int .i64 o, .int .i64 s, .int .i64 c, .bool l] 23)) := (Chg.refl _ w).alloc _
  have q1 := neq_arg_nil
  clear h
  go_enter Try.func8, Try.ntmps8
  go_wp2_with fail
  refine (hcall _).mono ?_
  rintro e w1 ⟨rfl, G1⟩
  clear hcall
  have G01 := G0.trans G1
  clear G0 G1
  go_wp2
  go_ret2
  exact ⟨rfl, G01⟩

/-- Block f holds the five method values of the writer at b. -/
def Fns (w : World) (f b : Nat) : Prop := w.heap[f]? = some (.cells #[.func (.func 20) #[.pointer (some ⟨b, 0, none⟩)] #[], .func (.func 21) #[.pointer (some ⟨b, 0, none⟩)] #[], .func (.func 22) #[.pointer (some ⟨b, 0, none⟩)] #[], .func (.func 23) #[.pointer (some ⟨b, 0, none⟩)] #[], .func (.func 24) #[.pointer (some ⟨b, 0, none⟩)] #[]] 49)
theorem Fns.lt {w : World} {f b : Nat} (h : Fns w f b) : f < w.heap.size := (Array.getElem?_eq_some_iff.1 (show w.heap[f]? = some _ from h)).1
theorem Fns.chg {S : Nat → Prop} {w w' : World} {f b : Nat} (h : Fns w f b) (hc : Chg S w w') (hf : ¬ S f) : Fns w' f b := (hc.block f h.lt hf).trans h
theorem Fns.cells {w : World} {f b : Nat} (h : Fns w f b) : w.cell? ⟨f, 0, none⟩ = some (.func (.func 20) #[.pointer (some ⟨b, 0, none⟩)] #[]) ∧ w.cell? ⟨f, 1, none⟩ = some (.func (.func 21) #[.pointer (some ⟨b, 0, none⟩)] #[]) ∧ w.cell? ⟨f, 2, none⟩ = some (.func (.func 22) #[.pointer (some ⟨b, 0, none⟩)] #[]) ∧ w.cell? ⟨f, 3, none⟩ = some (.func (.func 23) #[.pointer (some ⟨b, 0, none⟩)] #[]) ∧ w.cell? ⟨f, 4, none⟩ = some (.func (.func 24) #[.pointer (some ⟨b, 0, none⟩)] #[]) := by
  have h' : w.heap[f]? = some _ := h
  refine ⟨?_, ?_, ?_, ?_, ?_⟩ <;> simp [World.cell?, h']
/-- How the writer stands behind k fields. -/
def Stg (w wr : World) (g k p o s c : Nat) (l : Bool) : Prop :=
  Wr wr (g + 1) g (pre p o s c l k).length p o s c l ∧ Arr wr g 5 (row p o s c l k) ∧ Fns wr (g + 2) (g + 1) ∧ Chg (fun _ => False) w wr
theorem Stg.next {w wr w' : World} {g k p o s c m : Nat} {l : Bool} (h : Stg w wr g k p o s c l) (hg : w.heap.size ≤ g) (hm : m = (pre p o s c l (k + 1)).length) (h1 : Wr w' (g + 1) g m p o s c l) (h2 : Arr w' g 5 (row p o s c l (k + 1))) (h3 : Chg (fun k => k = g + 1 ∨ k = g) wr w') : Stg w w' g (k + 1) p o s c l :=
  ⟨by rw [← hm]; exact h1, h2, h.2.2.1.chg h3 (by omega), h.2.2.2.trans' h3 (fun i hi ht => by omega)⟩
theorem May.pl {p : Nat} {o s c : Int} {l : Bool} (h : May p o s c l) : p < 65536 := by
  have := h.1.1
  omega
theorem May.ol {o : Nat} {p s c : Int} {l : Bool} (h : May p o s c l) : o < 256 := by
  have := h.1.2.1
  omega
theorem May.sl {s : Nat} {p o c : Int} {l : Bool} (h : May p o s c l) : s < 1099511627776 := by
  have := h.1.2.2.1
  omega
theorem May.cl {c : Nat} {p o s : Int} {l : Bool} (h : May p o s c l) : c < 256 := by
  have := h.1.2.2.2
  omega
theorem row0 (p o s c : Nat) (l : Bool) : row p o s c l 0 = z50 := by simp [row, pre, z50]
set_option maxHeartbeats 4000000 in
theorem encode_yes (w : World) (p o s c : Nat) (l : Bool) (h : May p o s c l) :
    Calls Try.prog 8 #[.agg #[.int .i64 p, .int .i64 o, .int .i64 s, .int .i64 c, .bool l]] w fun e w' => ∃ g, e = .returned (.tuple #[.slice (some ⟨g, 0, none⟩) 50 50, .nilIface]) ∧ w.heap.size ≤ g ∧ Arr w' g 5 (body p o s c l) ∧ Chg (fun _ => False) w w' := by
  have hcall := fun w => (check_any w p o s c l).1 h
  have T0 := Tg.new w p o s c l
  have G0 : Chg (fun _ => False) w (w.alloc (.cells #[.int .i64 p, .int .i64 o, .int .i64 s, .int .i64 c, .bool l] 23)) := (Chg.refl _ w).alloc _
  have q1 := neq_nil_nil
  have hmk := make_room
  have hb := build48
  have HM := hyd h
  clear h
  go_enter Try.func8, Try.ntmps8
  go_wp2_with fail
  refine (hcall _).mono ?_
  rintro e w1 ⟨rfl, G1⟩
  clear hcall
  have G01 := G0.trans G1
  have HT := hyd (T0.chg G1 (fun e => e))
  obtain ⟨k0, k1, k2, k3, k4⟩ := HT.out.cells
  obtain ⟨j0, j1, j2, j3, j4⟩ := (HT.out.alloc (.cells (bcells z50) 5)).cells
  clear G0 G1 T0
  go_wp2_with fail
  go_region
  clear j0 j1 j2 j3 j4 k0 k1 k2 k3 k4 hmk hb
  go_wp2_with fail
  have hg := G01.size
  generalize hG : w1.heap.size = g at *
  have S0 : Stg w (((w1.alloc (.cells (bcells z50) 5)).alloc (.cells #[.int .i64 p, .int .i64 o, .int .i64 s, .int .i64 c, .bool l, .slice (some ⟨g, 0, none⟩) 0 50] 48)).drew.alloc (.cells #[.func (.func 20) #[.pointer (some ⟨g + 1, 0, none⟩)] #[], .func (.func 21) #[.pointer (some ⟨g + 1, 0, none⟩)] #[], .func (.func 22) #[.pointer (some ⟨g + 1, 0, none⟩)] #[], .func (.func 23) #[.pointer (some ⟨g + 1, 0, none⟩)] #[], .func (.func 24) #[.pointer (some ⟨g + 1, 0, none⟩)] #[]] 49)) g 0 p o s c l := by
    subst hG
    have W1 : Wr ((w1.alloc (.cells (bcells z50) 5)).alloc (.cells #[.int .i64 p, .int .i64 o, .int .i64 s, .int .i64 c, .bool l, .slice (some ⟨w1.heap.size, 0, none⟩) 0 50] 48)) (w1.heap.size + 1) w1.heap.size 0 p o s c l := by
      have := heap_alloc_new (w1.alloc (.cells (bcells z50) 5)) (.cells #[.int .i64 p, .int .i64 o, .int .i64 s, .int .i64 c, .bool l, .slice (some ⟨w1.heap.size, 0, none⟩) 0 50] 48)
      simpa [Wr] using this
    have A1 : Arr ((w1.alloc (.cells (bcells z50) 5)).alloc (.cells #[.int .i64 p, .int .i64 o, .int .i64 s, .int .i64 c, .bool l, .slice (some ⟨w1.heap.size, 0, none⟩) 0 50] 48)) w1.heap.size 5 z50 := (Arr.new w1 5 z50).alloc _
    have hs2 : ((w1.alloc (.cells (bcells z50) 5)).alloc (.cells #[.int .i64 p, .int .i64 o, .int .i64 s, .int .i64 c, .bool l, .slice (some ⟨w1.heap.size, 0, none⟩) 0 50] 48)).drew.heap.size = w1.heap.size + 2 := by simp
    refine ⟨Wr.other (w := (w1.alloc (.cells (bcells z50) 5)).alloc (.cells #[.int .i64 p, .int .i64 o, .int .i64 s, .int .i64 c, .bool l, .slice (some ⟨w1.heap.size, 0, none⟩) 0 50] 48)) W1 (Below.heap_alloc _ _ _ W1.lt), ?_, ?_, ?_⟩
    · rw [row0]
      exact Arr.alloc (w := ((w1.alloc (.cells (bcells z50) 5)).alloc (.cells #[.int .i64 p, .int .i64 o, .int .i64 s, .int .i64 c, .bool l, .slice (some ⟨w1.heap.size, 0, none⟩) 0 50] 48)).drew) A1 _
    · have := heap_alloc_new ((w1.alloc (.cells (bcells z50) 5)).alloc (.cells #[.int .i64 p, .int .i64 o, .int .i64 s, .int .i64 c, .bool l, .slice (some ⟨w1.heap.size, 0, none⟩) 0 50] 48)).drew (.cells #[.func (.func 20) #[.pointer (some ⟨w1.heap.size + 1, 0, none⟩)] #[], .func (.func 21) #[.pointer (some ⟨w1.heap.size + 1, 0, none⟩)] #[], .func (.func 22) #[.pointer (some ⟨w1.heap.size + 1, 0, none⟩)] #[], .func (.func 23) #[.pointer (some ⟨w1.heap.size + 1, 0, none⟩)] #[], .func (.func 24) #[.pointer (some ⟨w1.heap.size + 1, 0, none⟩)] #[]] 49)
      rw [hs2] at this
      exact this
    · exact (((G01.alloc _).alloc _).drew).alloc _
  go_loopw [30] (fun t wr => ∃ k : Nat, k ≤ 5 ∧ t = .int .i64 k ∧ Stg w wr g k p o s c l) (fun t _ => 5 - (intOf t).toNat)
  case atStart => exact ⟨0, by decide, rfl, S0⟩
  case round =>
    obtain ⟨k, hk, rfl, hS⟩ := hrel
    obtain ⟨a1, a2, a3, a4⟩ := hS
    obtain ⟨f0, f1, f2, f3, f4⟩ := a3.cells
    rcases (by omega : k = 0 ∨ k = 1 ∨ k = 2 ∨ k = 3 ∨ k = 4 ∨ k = 5) with rfl | rfl | rfl | rfl | rfl | rfl
    · have hcall := layPlace_any wr (g + 1) g 0 p o s c l (row p o s c l 0) (by simpa [pre, bts_length] using a1) a2 (row_length p o s c l 0 (by decide)) (by omega) HM.out.pl (by decide)
      have HS := hyd (show Stg w wr g 0 p o s c l from ⟨a1, a2, a3, a4⟩)
      clear a1 a2 a3 a4 S0
      go_wp2_with fail
      refine hcall.mono ?_
      rintro e w2 ⟨rfl, b1, b2, b3⟩
      rw [row_step1] at b2
      have HN : Hid (Stg w w2 g 1 p o s c l) := hyd (HS.out.next hg (by simp [pre, bts_length]) b1 b2 b3)
      clear b1 b2 b3 hcall f0 f1 f2 f3 f4
      go_wp2
      exact ⟨⟨1, by decide, rfl, HN.out⟩, by simp [intOf]⟩
    · have hcall := layOf_any wr (g + 1) g 2 o p s c l (row p o s c l 1) (by simpa [pre, bts_length] using a1) a2 (row_length p o s c l 1 (by decide)) (by omega) HM.out.ol (by decide)
      have HS := hyd (show Stg w wr g 1 p o s c l from ⟨a1, a2, a3, a4⟩)
      clear a1 a2 a3 a4 S0
      go_wp2_with fail
      refine hcall.mono ?_
      rintro e w2 ⟨rfl, b1, b2, b3⟩
      rw [row_step2] at b2
      have HN : Hid (Stg w w2 g 2 p o s c l) := hyd (HS.out.next hg (by simp [pre, bts_length]) b1 b2 b3)
      clear b1 b2 b3 hcall f0 f1 f2 f3 f4
      go_wp2
      exact ⟨⟨2, by decide, rfl, HN.out⟩, by simp [intOf]⟩
    · have hcall := laySeq_any wr (g + 1) g 3 s p o c l (row p o s c l 2) (by simpa [pre, bts_length] using a1) a2 (row_length p o s c l 2 (by decide)) (by omega) HM.out.sl (by decide)
      have HS := hyd (show Stg w wr g 2 p o s c l from ⟨a1, a2, a3, a4⟩)
      clear a1 a2 a3 a4 S0
      go_wp2_with fail
      refine hcall.mono ?_
      rintro e w2 ⟨rfl, b1, b2, b3⟩
      rw [row_step3] at b2
      have HN : Hid (Stg w w2 g 3 p o s c l) := hyd (HS.out.next hg (by simp [pre, bts_length]) b1 b2 b3)
      clear b1 b2 b3 hcall f0 f1 f2 f3 f4
      go_wp2
      exact ⟨⟨3, by decide, rfl, HN.out⟩, by simp [intOf]⟩
    · have hcall := layCopy_any wr (g + 1) g 8 c p o s l (row p o s c l 3) (by simpa [pre, bts_length] using a1) a2 (row_length p o s c l 3 (by decide)) (by omega) HM.out.cl (by decide)
      have HS := hyd (show Stg w wr g 3 p o s c l from ⟨a1, a2, a3, a4⟩)
      clear a1 a2 a3 a4 S0
      go_wp2_with fail
      refine hcall.mono ?_
      rintro e w2 ⟨rfl, b1, b2, b3⟩
      rw [row_step4] at b2
      have HN : Hid (Stg w w2 g 4 p o s c l) := hyd (HS.out.next hg (by simp [pre, bts_length]) b1 b2 b3)
      clear b1 b2 b3 hcall f0 f1 f2 f3 f4
      go_wp2
      exact ⟨⟨4, by decide, rfl, HN.out⟩, by simp [intOf]⟩
    · have hcall := layLost_any wr (g + 1) g 9 p o s c l (row p o s c l 4) (by simpa [pre, bts_length] using a1) a2 (row_length p o s c l 4 (by decide)) (by omega) (by decide)
      have HS := hyd (show Stg w wr g 4 p o s c l from ⟨a1, a2, a3, a4⟩)
      clear a1 a2 a3 a4 S0
      go_wp2_with fail
      refine hcall.mono ?_
      rintro e w2 ⟨rfl, b1, b2, b3⟩
      rw [row_step5] at b2
      have HN : Hid (Stg w w2 g 5 p o s c l) := hyd (HS.out.next hg (by simp [pre, bts_length]) b1 b2 b3)
      clear b1 b2 b3 hcall f0 f1 f2 f3 f4
      go_wp2
      exact ⟨⟨5, by decide, rfl, HN.out⟩, by simp [intOf]⟩
    · have HS := hyd (show Stg w wr g 5 p o s c l from ⟨a1, a2, a3, a4⟩)
      have hpl : (pre p o s c l 5).length = 10 := by simp [pre, bts_length]
      rw [hpl] at a1
      obtain ⟨-, -, -, -, -, k5, -⟩ := a1.cells
      clear a1 a2 a3 a4 S0 f0 f1 f2 f3 f4 hpl
      go_wp2
      go_ret2
      exact ⟨g, rfl, by omega, HS.out.2.1, HS.out.2.2.2⟩
end Go.Proofs.Ytgipkdkhgdaeiaa
