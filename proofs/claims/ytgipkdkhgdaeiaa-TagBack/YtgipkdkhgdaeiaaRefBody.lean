/-
  The document's Body, walked: it is the body of a tag that may be. No other condition.
-/
import Derived.Test.YtgipkdkhgdaeiaaDecode
import Derived.Test.YtgipkdkhgdaeiaaLend
namespace Go.Proofs.Ytgipkdkhgdaeiaa
open Go.RowKit
set_option maxRecDepth 100000

/-- What append asks of a slice of some bytes. -/
theorem Own.src {w : World} {base : Nat} {a : Option Addr} {n c : Nat} {l : List Nat} (h : Own w base 5 (.slice a n c) l) (hn : l.length ≠ 0) : (a = none → n = 0 ∧ c = 0) ∧ ∀ ad, a = some ad → ∀ j, j < l.length → w.cell? (ad.add j) = some (.int .u8 (l.getD j 0 : Nat)) := by
  obtain ⟨g, cap, hv, -, -, -, hc, -⟩ := h.lies hn
  simp only [Value.slice.injEq] at hv
  obtain ⟨rfl, -, -⟩ := hv
  refine ⟨fun e => (by cases e), fun ad had j hj => ?_⟩
  have e := Option.some.inj had
  subst e
  rw [Addr.add_lit, Nat.zero_add]
  exact hc j hj
/-- What is laid is new since w2, and all that was there is as it was. -/
def Bs (w2 wr : World) (v : Value) (L : List Nat) : Prop := Own wr w2.heap.size 5 v L ∧ Chg (fun _ => False) w2 wr
theorem Bs.alloc {w2 wr : World} {v : Value} {L : List Nat} (h : Bs w2 wr v L) (x : Obj) : Bs w2 (wr.alloc x) v L := ⟨h.1.keep (fun _ hk _ => Below.heap_alloc _ _ _ hk), h.2.alloc _⟩
theorem Bs.grown {w2 wr w' : World} {v v' : Value} {L L' : List Nat} (h : Bs w2 wr v L) (h1 : Own w' w2.heap.size 5 v' L') (h2 : wr.grownBy w' v.ownBlock) : Bs w2 w' v' L' :=
  ⟨h1, h.2.grown h2 (fun _ hk => Or.inr (h.1.block hk).1)⟩
theorem Bs.slice {w2 wr : World} {v : Value} {L : List Nat} (h : Bs w2 wr v L) : ∃ a c, v = .slice a L.length c := h.1.slice
theorem bts1 (x : Nat) (h : x < 256) : bts x 1 = [x] := by simp [bts, byteAt, Nat.mod_eq_of_lt h]
def slen : Value → Nat
  | .slice _ n _ => n
  | _ => 0
set_option maxHeartbeats 8000000 in
theorem rbody_true (w : World) (p o s c : Nat) (h : May p o s c true) :
    Calls Try.prog 10 #[.agg #[.int .i64 p, .int .i64 o, .int .i64 s, .int .i64 c, .bool true]] w fun e w' => ∃ a k, e = .returned (.slice a 50 k) ∧ Own w' w.heap.size 5 (.slice a 50 k) (body p o s c true) ∧ Chg (fun _ => False) w w' := by
  have hp := h.pl
  have ho := h.ol
  have hs := h.sl
  have hc := h.cl
  have hi5 := info5
  have hmk := fun w : World => make_bytes w 0 0 rfl (by decide)
  have T0 := Tg.new w p o s c true
  have G0 : Chg (fun _ => False) w (w.alloc (.cells #[.int .i64 p, .int .i64 o, .int .i64 s, .int .i64 c, .bool true] 23)) := (Chg.refl _ w).alloc _
  clear h
  go_enter Try.func10, Try.ntmps10
  go_wp2_with fail
  refine (rput_any _ p 2 (by omega) (by decide)).mono ?_
  rintro e w1 ⟨s1, rfl, O1, G1⟩
  have T1 := T0.chg G1 (fun e => e)
  have G01 := G0.trans G1
  obtain ⟨a1, c1, hv1⟩ := O1.slice
  rw [bts_length] at hv1
  subst hv1
  obtain ⟨-, -, k2, -, -⟩ := T1.cells
  have HO1 := hyd O1
  have HT1 := hyd T1
  have HG1 := hyd G01
  clear T0 G0 G1 O1 T1 G01
  go_wp2_with fail
  refine (rput_any w1 s 5 (by omega) (by decide)).mono ?_
  rintro e w2 ⟨s2, rfl, O2, G2⟩
  have T2 := HT1.out.chg G2 (fun e => e)
  have O12 := HO1.out.chg G2 (fun _ _ _ e => e)
  obtain ⟨a2, c2, hv2⟩ := O2.slice
  rw [bts_length] at hv2
  subst hv2
  obtain ⟨-, k1, -, k3, k4⟩ := T2.cells
  have HT2 := hyd T2
  have HO1 := hyd O12
  have HO2 := hyd O2
  have HG2 := hyd (HG1.out.trans G2)
  have B0 : Bs w2 (w2.alloc (.cells (bcells (List.replicate 0 0)) 5)) (.slice (some ⟨w2.heap.size, 0, none⟩) 0 0) [] := ⟨Own.new w2 5 [] (by decide), (Chg.refl _ _).alloc _⟩
  have HB0 := hyd B0
  clear T2 O12 O2 G2 HT1 HG1 k2 B0
  go_wp2_with (at_builtin; refine wpList_append_bytes _ rfl _ _ 28 rfl w2.heap.size 5 Try.underlying28 hi5 _ [] rfl HB0.out.1 a1 2 c1 (bts p 2) rfl (bts_length p 2) ?h1 ?h2 ?h3 ?h4 (w2.heap.size + 1) ?h5 ?_)
  case h1 => exact (HO1.out.src (by rw [bts_length]; decide)).1
  case h2 => exact fun ad had j hj => ((HO1.out.keep (fun k hk _ => Below.heap_alloc _ _ _ hk)).src (by rw [bts_length]; decide)).2 ad had j (by rw [bts_length]; exact hj)
  case h3 => simp
  case h4 => simp
  case h5 => simp
  intro v3 w3 O3 g3 _
  have B3 : Bs w2 w3 v3 (bts p 2) := HB0.out.grown O3 g3
  obtain ⟨a3, c3, hv3⟩ := B3.slice
  rw [bts_length] at hv3
  subst hv3
  obtain ⟨-, k1, -, k3, k4⟩ := (HT2.out.chg B3.2 (fun e => e)).cells
  have HB3 := hyd B3
  clear O3 g3 HB0 B3
  go_wp2_with (at_builtin; refine wpList_append_bytes _ rfl _ _ 28 rfl w2.heap.size 5 Try.underlying28 hi5 _ (bts p 2) rfl (HB3.out.alloc _).1 (some ⟨w3.heap.size, 0, none⟩) 1 1 (bts o 1) rfl rfl (by simp) ?i2 ?i3 ?i4 (w3.heap.size + 1) ?i5 ?_)
  case i2 =>
    intro ad had j hj
    have e := Option.some.inj had
    subst e
    have e : j = 0 := by omega
    subst e
    rw [Addr.add_lit]
    simp [bts1 o ho]
  case i3 => rw [bts_length]; omega
  case i4 => simp; exact Nat.le_succ_of_le HB3.out.2.size
  case i5 => simp
  intro v4 w4 O4 g4 _
  have B4 : Bs w2 w4 v4 (bts p 2 ++ bts o 1) := (HB3.out.alloc _).grown O4 g4
  obtain ⟨a4, c4, hv4⟩ := B4.slice
  rw [List.length_append, bts_length, bts_length] at hv4
  subst hv4
  have HB4 := hyd B4
  clear O4 g4 HB3 B4 k1 k3 k4
  go_wp2_with (at_builtin; refine wpList_append_bytes _ rfl _ _ 28 rfl w2.heap.size 5 Try.underlying28 hi5 _ (bts p 2 ++ bts o 1) rfl HB4.out.1 a2 5 c2 (bts s 5) rfl (bts_length s 5) ?j1 ?j2 ?j3 ?j4 w4.heap.size rfl ?_)
  case j1 => exact (HO2.out.src (by rw [bts_length]; decide)).1
  case j2 => exact fun ad had j hj => ((HO2.out.chg HB4.out.2 (fun _ _ _ e => e)).src (by rw [bts_length]; decide)).2 ad had j (by rw [bts_length]; exact hj)
  case j3 => rw [List.length_append, bts_length, bts_length]; omega
  case j4 => exact HB4.out.2.size
  intro v5 w5 O5 g5 _
  have B5 : Bs w2 w5 v5 (bts p 2 ++ bts o 1 ++ bts s 5) := HB4.out.grown O5 g5
  obtain ⟨a5, c5, hv5⟩ := B5.slice
  simp only [List.length_append, bts_length] at hv5
  subst hv5
  obtain ⟨-, -, -, k3, -⟩ := (HT2.out.chg B5.2 (fun e => e)).cells
  have HB5 := hyd B5
  clear O5 g5 HB4 B5
  go_wp2_with (at_builtin; refine wpList_append_bytes _ rfl _ _ 28 rfl w2.heap.size 5 Try.underlying28 hi5 _ (bts p 2 ++ bts o 1 ++ bts s 5) rfl (HB5.out.alloc _).1 (some ⟨w5.heap.size, 0, none⟩) 2 2 (bts c 1 ++ bts 1 1) rfl rfl (by simp) ?l2 ?l3 ?l4 (w5.heap.size + 1) ?l5 ?_)
  case l2 =>
    intro ad had j hj
    have e := Option.some.inj had
    subst e
    rw [Addr.add_lit]
    rcases (by omega : j = 0 ∨ j = 1) with rfl | rfl
    · simp [bts1 c hc, bts1 1 (by decide)]
    · simp [bts1 c hc, bts1 1 (by decide)]
  case l3 => simp [bts_length]
  case l4 => simp; exact Nat.le_succ_of_le HB5.out.2.size
  case l5 => simp
  intro v6 w6 O6 g6 _
  have B6 : Bs w2 w6 v6 (pre p o s c true 5) := by
    have := (HB5.out.alloc _).grown O6 g6
    rw [← List.append_assoc] at this
    exact this
  have hpl : (pre p o s c true 5).length = 10 := by simp [pre, bts_length]
  obtain ⟨a6, c6, hv6⟩ := B6.slice
  rw [hpl] at hv6
  subst hv6
  have HB6 : Hid (Bs w2 w6 (.slice a6 10 c6) (pre p o s c true 5 ++ List.replicate 0 0)) := hyd (by simpa using B6)
  have HPL := hyd hpl
  clear O6 g6 HB5 B6 k3 hpl
  go_wp2_with fail
  go_loopw [8] (fun v wr => ∃ (k : Nat) (a : Option Addr) (cc : Nat), k ≤ 40 ∧ v = .slice a (10 + k) cc ∧ Hid (Bs w2 wr (.slice a (10 + k) cc) (pre p o s c true 5 ++ List.replicate k 0))) (fun v _ => 50 - slen v)
  case atStart => exact ⟨0, a6, c6, by decide, rfl, HB6⟩
  case round =>
    clear HB6
    obtain ⟨k, a, cc, hk, rfl, HB⟩ := hrel
    by_cases hlt : k < 40
    · have hlt' : (10 + (k : Int)) < 50 := by omega
      go_wp2_with (at_builtin; refine wpList_append_bytes _ rfl _ _ 28 rfl w2.heap.size 5 Try.underlying28 hi5 _ (pre p o s c true 5 ++ List.replicate k 0) rfl (HB.out.alloc _).1 (some ⟨wr.heap.size, 0, none⟩) 1 1 [0] rfl rfl (by simp) ?m2 ?m3 ?m4 (wr.heap.size + 1) ?m5 ?_)
      case m2 =>
        intro ad had j hj
        have e := Option.some.inj had
        subst e
        have e : j = 0 := by omega
        subst e
        rw [Addr.add_lit]
        simp
      case m3 => rw [List.length_append, HPL.out, List.length_replicate]; omega
      case m4 => simp; exact Nat.le_succ_of_le HB.out.2.size
      case m5 => simp
      intro v7 w7 O7 g7 _
      have B7 : Bs w2 w7 v7 (pre p o s c true 5 ++ List.replicate (k + 1) 0) := by
        have := (HB.out.alloc _).grown O7 g7
        rw [List.replicate_succ', ← List.append_assoc]
        exact this
      obtain ⟨a7, c7, hv7⟩ := B7.slice
      rw [List.length_append, HPL.out, List.length_replicate] at hv7
      subst hv7
      have HB7 := hyd B7
      clear O7 g7 B7
      go_wp2
      exact ⟨⟨k + 1, a7, c7, by omega, rfl, HB7⟩, by simp [slen]; omega⟩
    · have e : k = 40 := by omega
      subst e
      go_wp2
      go_ret
      have hb : pre p o s c true 5 ++ List.replicate 40 0 = body p o s c true := by
        show _ = pre p o s c true 5 ++ List.replicate (50 - _) 0
        rw [HPL.out]
      refine ⟨a, cc, rfl, ?_, HG2.out.trans HB.out.2⟩
      rw [← hb]
      exact HB.out.1.mono (fun k hk => by have := (HB.out.1.block hk).1; have := HG2.out.size; omega)
set_option maxHeartbeats 8000000 in
theorem rbody_false (w : World) (p o s c : Nat) (h : May p o s c false) :
    Calls Try.prog 10 #[.agg #[.int .i64 p, .int .i64 o, .int .i64 s, .int .i64 c, .bool false]] w fun e w' => ∃ a k, e = .returned (.slice a 50 k) ∧ Own w' w.heap.size 5 (.slice a 50 k) (body p o s c false) ∧ Chg (fun _ => False) w w' := by
  have hp := h.pl
  have ho := h.ol
  have hs := h.sl
  have hc := h.cl
  have hi5 := info5
  have hmk := fun w : World => make_bytes w 0 0 rfl (by decide)
  have T0 := Tg.new w p o s c false
  have G0 : Chg (fun _ => False) w (w.alloc (.cells #[.int .i64 p, .int .i64 o, .int .i64 s, .int .i64 c, .bool false] 23)) := (Chg.refl _ w).alloc _
  clear h
  go_enter Try.func10, Try.ntmps10
  go_wp2_with fail
  refine (rput_any _ p 2 (by omega) (by decide)).mono ?_
  rintro e w1 ⟨s1, rfl, O1, G1⟩
  have T1 := T0.chg G1 (fun e => e)
  have G01 := G0.trans G1
  obtain ⟨a1, c1, hv1⟩ := O1.slice
  rw [bts_length] at hv1
  subst hv1
  obtain ⟨-, -, k2, -, -⟩ := T1.cells
  have HO1 := hyd O1
  have HT1 := hyd T1
  have HG1 := hyd G01
  clear T0 G0 G1 O1 T1 G01
  go_wp2_with fail
  refine (rput_any w1 s 5 (by omega) (by decide)).mono ?_
  rintro e w2 ⟨s2, rfl, O2, G2⟩
  have T2 := HT1.out.chg G2 (fun e => e)
  have O12 := HO1.out.chg G2 (fun _ _ _ e => e)
  obtain ⟨a2, c2, hv2⟩ := O2.slice
  rw [bts_length] at hv2
  subst hv2
  obtain ⟨-, k1, -, k3, k4⟩ := T2.cells
  have HT2 := hyd T2
  have HO1 := hyd O12
  have HO2 := hyd O2
  have HG2 := hyd (HG1.out.trans G2)
  have B0 : Bs w2 (w2.alloc (.cells (bcells (List.replicate 0 0)) 5)) (.slice (some ⟨w2.heap.size, 0, none⟩) 0 0) [] := ⟨Own.new w2 5 [] (by decide), (Chg.refl _ _).alloc _⟩
  have HB0 := hyd B0
  clear T2 O12 O2 G2 HT1 HG1 k2 B0
  go_wp2_with (at_builtin; refine wpList_append_bytes _ rfl _ _ 28 rfl w2.heap.size 5 Try.underlying28 hi5 _ [] rfl HB0.out.1 a1 2 c1 (bts p 2) rfl (bts_length p 2) ?h1 ?h2 ?h3 ?h4 (w2.heap.size + 1) ?h5 ?_)
  case h1 => exact (HO1.out.src (by rw [bts_length]; decide)).1
  case h2 => exact fun ad had j hj => ((HO1.out.keep (fun k hk _ => Below.heap_alloc _ _ _ hk)).src (by rw [bts_length]; decide)).2 ad had j (by rw [bts_length]; exact hj)
  case h3 => simp
  case h4 => simp
  case h5 => simp
  intro v3 w3 O3 g3 _
  have B3 : Bs w2 w3 v3 (bts p 2) := HB0.out.grown O3 g3
  obtain ⟨a3, c3, hv3⟩ := B3.slice
  rw [bts_length] at hv3
  subst hv3
  obtain ⟨-, k1, -, k3, k4⟩ := (HT2.out.chg B3.2 (fun e => e)).cells
  have HB3 := hyd B3
  clear O3 g3 HB0 B3
  go_wp2_with (at_builtin; refine wpList_append_bytes _ rfl _ _ 28 rfl w2.heap.size 5 Try.underlying28 hi5 _ (bts p 2) rfl (HB3.out.alloc _).1 (some ⟨w3.heap.size, 0, none⟩) 1 1 (bts o 1) rfl rfl (by simp) ?i2 ?i3 ?i4 (w3.heap.size + 1) ?i5 ?_)
  case i2 =>
    intro ad had j hj
    have e := Option.some.inj had
    subst e
    have e : j = 0 := by omega
    subst e
    rw [Addr.add_lit]
    simp [bts1 o ho]
  case i3 => rw [bts_length]; omega
  case i4 => simp; exact Nat.le_succ_of_le HB3.out.2.size
  case i5 => simp
  intro v4 w4 O4 g4 _
  have B4 : Bs w2 w4 v4 (bts p 2 ++ bts o 1) := (HB3.out.alloc _).grown O4 g4
  obtain ⟨a4, c4, hv4⟩ := B4.slice
  rw [List.length_append, bts_length, bts_length] at hv4
  subst hv4
  have HB4 := hyd B4
  clear O4 g4 HB3 B4 k1 k3 k4
  go_wp2_with (at_builtin; refine wpList_append_bytes _ rfl _ _ 28 rfl w2.heap.size 5 Try.underlying28 hi5 _ (bts p 2 ++ bts o 1) rfl HB4.out.1 a2 5 c2 (bts s 5) rfl (bts_length s 5) ?j1 ?j2 ?j3 ?j4 w4.heap.size rfl ?_)
  case j1 => exact (HO2.out.src (by rw [bts_length]; decide)).1
  case j2 => exact fun ad had j hj => ((HO2.out.chg HB4.out.2 (fun _ _ _ e => e)).src (by rw [bts_length]; decide)).2 ad had j (by rw [bts_length]; exact hj)
  case j3 => rw [List.length_append, bts_length, bts_length]; omega
  case j4 => exact HB4.out.2.size
  intro v5 w5 O5 g5 _
  have B5 : Bs w2 w5 v5 (bts p 2 ++ bts o 1 ++ bts s 5) := HB4.out.grown O5 g5
  obtain ⟨a5, c5, hv5⟩ := B5.slice
  simp only [List.length_append, bts_length] at hv5
  subst hv5
  obtain ⟨-, -, -, k3, -⟩ := (HT2.out.chg B5.2 (fun e => e)).cells
  have HB5 := hyd B5
  clear O5 g5 HB4 B5
  go_wp2_with (at_builtin; refine wpList_append_bytes _ rfl _ _ 28 rfl w2.heap.size 5 Try.underlying28 hi5 _ (bts p 2 ++ bts o 1 ++ bts s 5) rfl (HB5.out.alloc _).1 (some ⟨w5.heap.size, 0, none⟩) 2 2 (bts c 1 ++ bts 0 1) rfl rfl (by simp) ?l2 ?l3 ?l4 (w5.heap.size + 1) ?l5 ?_)
  case l2 =>
    intro ad had j hj
    have e := Option.some.inj had
    subst e
    rw [Addr.add_lit]
    rcases (by omega : j = 0 ∨ j = 1) with rfl | rfl
    · simp [bts1 c hc, bts1 0 (by decide)]
    · simp [bts1 c hc, bts1 0 (by decide)]
  case l3 => simp [bts_length]
  case l4 => simp; exact Nat.le_succ_of_le HB5.out.2.size
  case l5 => simp
  intro v6 w6 O6 g6 _
  have B6 : Bs w2 w6 v6 (pre p o s c false 5) := by
    have := (HB5.out.alloc _).grown O6 g6
    rw [← List.append_assoc] at this
    exact this
  have hpl : (pre p o s c false 5).length = 10 := by simp [pre, bts_length]
  obtain ⟨a6, c6, hv6⟩ := B6.slice
  rw [hpl] at hv6
  subst hv6
  have HB6 : Hid (Bs w2 w6 (.slice a6 10 c6) (pre p o s c false 5 ++ List.replicate 0 0)) := hyd (by simpa using B6)
  have HPL := hyd hpl
  clear O6 g6 HB5 B6 k3 hpl
  go_wp2_with fail
  go_loopw [8] (fun v wr => ∃ (k : Nat) (a : Option Addr) (cc : Nat), k ≤ 40 ∧ v = .slice a (10 + k) cc ∧ Hid (Bs w2 wr (.slice a (10 + k) cc) (pre p o s c false 5 ++ List.replicate k 0))) (fun v _ => 50 - slen v)
  case atStart => exact ⟨0, a6, c6, by decide, rfl, HB6⟩
  case round =>
    clear HB6
    obtain ⟨k, a, cc, hk, rfl, HB⟩ := hrel
    by_cases hlt : k < 40
    · have hlt' : (10 + (k : Int)) < 50 := by omega
      go_wp2_with (at_builtin; refine wpList_append_bytes _ rfl _ _ 28 rfl w2.heap.size 5 Try.underlying28 hi5 _ (pre p o s c false 5 ++ List.replicate k 0) rfl (HB.out.alloc _).1 (some ⟨wr.heap.size, 0, none⟩) 1 1 [0] rfl rfl (by simp) ?m2 ?m3 ?m4 (wr.heap.size + 1) ?m5 ?_)
      case m2 =>
        intro ad had j hj
        have e := Option.some.inj had
        subst e
        have e : j = 0 := by omega
        subst e
        rw [Addr.add_lit]
        simp
      case m3 => rw [List.length_append, HPL.out, List.length_replicate]; omega
      case m4 => simp; exact Nat.le_succ_of_le HB.out.2.size
      case m5 => simp
      intro v7 w7 O7 g7 _
      have B7 : Bs w2 w7 v7 (pre p o s c false 5 ++ List.replicate (k + 1) 0) := by
        have := (HB.out.alloc _).grown O7 g7
        rw [List.replicate_succ', ← List.append_assoc]
        exact this
      obtain ⟨a7, c7, hv7⟩ := B7.slice
      rw [List.length_append, HPL.out, List.length_replicate] at hv7
      subst hv7
      have HB7 := hyd B7
      clear O7 g7 B7
      go_wp2
      exact ⟨⟨k + 1, a7, c7, by omega, rfl, HB7⟩, by simp [slen]; omega⟩
    · have e : k = 40 := by omega
      subst e
      go_wp2
      go_ret
      have hb : pre p o s c false 5 ++ List.replicate 40 0 = body p o s c false := by
        show _ = pre p o s c false 5 ++ List.replicate (50 - _) 0
        rw [HPL.out]
      refine ⟨a, cc, rfl, ?_, HG2.out.trans HB.out.2⟩
      rw [← hb]
      exact HB.out.1.mono (fun k hk => by have := (HB.out.1.block hk).1; have := HG2.out.size; omega)
theorem rbody_any (w : World) (p o s c : Nat) (l : Bool) (h : May p o s c l) :
    Calls Try.prog 10 #[.agg #[.int .i64 p, .int .i64 o, .int .i64 s, .int .i64 c, .bool l]] w fun e w' => ∃ a k, e = .returned (.slice a 50 k) ∧ Own w' w.heap.size 5 (.slice a 50 k) (body p o s c l) ∧ Chg (fun _ => False) w w' := by
  cases l with
  | true => exact rbody_true w p o s c h
  | false => exact rbody_false w p o s c h
end Go.Proofs.Ytgipkdkhgdaeiaa
