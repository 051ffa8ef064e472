/-
  The document's Body, walked: it is the body of a tag that may be. No other condition. The document's Tag, walked: of 50 bytes that are the body of a tag that may be it is that tag, of others none. Condition: the bytes can be read.
-/
import Derived.Test.YtifjmilegogbaaaGreatUTagDec
import Derived.Test.YtifjmilegogbaaaGreatUApart
import Derived.Deep.RegionHeld3
namespace Go.Proofs.YtifjmilegogbaaaGreat
open Go.RowKit
set_option maxRecDepth 100000

/-- What append asks of a slice of some bytes. -/
theorem Own.src {w : World} {base : Nat} {a : Option Addr} {n c : Nat} {l : List Nat} (h : Own w base 5 (.slice a n c) l) (hn : l.length ≠ 0) : (a = none → n = 0 ∧ c = 0) ∧ ∀ ad, a = some ad → ∀ j, j < l.length → w.cell? (ad.add j) = some (.int .u8 (l.getD j 0 : Nat)) := by
  obtain ⟨g, cap, hv, -, -, -, hc, -⟩ := h.lies hn
  simp only [Value.slice.injEq] at hv
  obtain ⟨rfl, -, -⟩ := hv
  refine ⟨fun e => (by cases e), fun ad had j hj => ?_⟩
  have e := Option.some.inj had
  subst e
  rw [Addr.add_lit, Nat.zero_add]
  exact hc j hj
/-- What is laid is new since w2, and all that was there is as it was. -/
def Bs (w2 wr : World) (v : Value) (L : List Nat) : Prop := Own wr w2.heap.size 5 v L ∧ Chg (fun _ => False) w2 wr
theorem Bs.alloc {w2 wr : World} {v : Value} {L : List Nat} (h : Bs w2 wr v L) (x : Obj) : Bs w2 (wr.alloc x) v L := ⟨h.1.keep (fun _ hk _ => Below.heap_alloc _ _ _ hk), h.2.alloc _⟩
theorem Bs.grown {w2 wr w' : World} {v v' : Value} {L L' : List Nat} (h : Bs w2 wr v L) (h1 : Own w' w2.heap.size 5 v' L') (h2 : wr.grownBy w' v.ownBlock) : Bs w2 w' v' L' :=
  ⟨h1, h.2.grown h2 (fun _ hk => Or.inr (h.1.block hk).1)⟩
theorem Bs.slice {w2 wr : World} {v : Value} {L : List Nat} (h : Bs w2 wr v L) : ∃ a c, v = .slice a L.length c := h.1.slice
theorem bts1 (x : Nat) (h : x < 256) : bts x 1 = [x] := by simp [bts, byteAt, Nat.mod_eq_of_lt h]
def slen : Value → Nat
  | .slice _ n _ => n
  | _ => 0
set_option maxHeartbeats 8000000 in
theorem rbody_true (w : World) (p o s c : Nat) (h : May p o s c true) :
    Calls Tryz.prog 61 #[.agg #[.int .i64 p, .int .i64 o, .int .i64 s, .int .i64 c, .bool true]] w fun e w' => ∃ a k, e = .returned (.slice a 50 k) ∧ Own w' w.heap.size 5 (.slice a 50 k) (body p o s c true) ∧ Chg (fun _ => False) w w' := by
  have hp := h.pl
  have ho := h.ol
  have hs := h.sl
  have hc := h.cl
  have hi5 := info5
  have hmk := fun w : World => make_bytes w 0 0 rfl (by decide)
  have T0 := Tg.new w p o s c true
  have G0 : Chg (fun _ => False) w (w.alloc (.cells #[.int .i64 p, .int .i64 o, .int .i64 s, .int .i64 c, .bool true] 28)) := (Chg.refl _ w).alloc _
  clear h
  go_enter Tryz.func61, Tryz.ntmps61
  go_wp2_with fail
  refine (rput_any _ p 2 (by omega) (by decide)).mono ?_
  rintro e w1 ⟨s1, rfl, O1, G1⟩
  have T1 := T0.chg G1 (fun e => e)
  have G01 := G0.trans G1
  obtain ⟨a1, c1, hv1⟩ := O1.slice
  rw [bts_length] at hv1
  subst hv1
  obtain ⟨-, -, k2, -, -⟩ := T1.cells
  have HO1 := hyd O1
  have HT1 := hyd T1
  have HG1 := hyd G01
  clear T0 G0 G1 O1 T1 G01
  go_wp2_with fail
  refine (rput_any w1 s 5 (by omega) (by decide)).mono ?_
  rintro e w2 ⟨s2, rfl, O2, G2⟩
  have T2 := HT1.out.chg G2 (fun e => e)
  have O12 := HO1.out.chg G2 (fun _ _ _ e => e)
  obtain ⟨a2, c2, hv2⟩ := O2.slice
  rw [bts_length] at hv2
  subst hv2
  obtain ⟨-, k1, -, k3, k4⟩ := T2.cells
  have HT2 := hyd T2
  have HO1 := hyd O12
  have HO2 := hyd O2
  have HG2 := hyd (HG1.out.trans G2)
  have B0 : Bs w2 (w2.alloc (.cells (bcells (List.replicate 0 0)) 5)) (.slice (some ⟨w2.heap.size, 0, none⟩) 0 0) [] := ⟨Own.new w2 5 [] (by decide), (Chg.refl _ _).alloc _⟩
  have HB0 := hyd B0
  clear T2 O12 O2 G2 HT1 HG1 k2 B0
  go_wp2_with (at_builtin; refine wpList_append_bytes _ rfl _ _ 55 rfl w2.heap.size 5 Tryz.underlying55 hi5 _ [] rfl HB0.out.1 a1 2 c1 (bts p 2) rfl (bts_length p 2) ?h1 ?h2 ?h3 ?h4 (w2.heap.size + 1) ?h5 ?_)
  case h1 => exact (HO1.out.src (by rw [bts_length]; decide)).1
  case h2 => exact fun ad had j hj => ((HO1.out.keep (fun k hk _ => Below.heap_alloc _ _ _ hk)).src (by rw [bts_length]; decide)).2 ad had j (by rw [bts_length]; exact hj)
  case h3 => simp
  case h4 => simp
  case h5 => simp
  intro v3 w3 O3 g3 _
  have B3 : Bs w2 w3 v3 (bts p 2) := HB0.out.grown O3 g3
  obtain ⟨a3, c3, hv3⟩ := B3.slice
  rw [bts_length] at hv3
  subst hv3
  obtain ⟨-, k1, -, k3, k4⟩ := (HT2.out.chg B3.2 (fun e => e)).cells
  have HB3 := hyd B3
  clear O3 g3 HB0 B3
  go_wp2_with (at_builtin; refine wpList_append_bytes _ rfl _ _ 55 rfl w2.heap.size 5 Tryz.underlying55 hi5 _ (bts p 2) rfl (HB3.out.alloc _).1 (some ⟨w3.heap.size, 0, none⟩) 1 1 (bts o 1) rfl rfl (by simp) ?i2 ?i3 ?i4 (w3.heap.size + 1) ?i5 ?_)
  case i2 =>
    intro ad had j hj
    have e := Option.some.inj had
    subst e
    have e : j = 0 := by omega
    subst e
    rw [Addr.add_lit]
    simp [bts1 o ho]
  case i3 => rw [bts_length]; omega
  case i4 => simp; exact Nat.le_succ_of_le HB3.out.2.size
  case i5 => simp
  intro v4 w4 O4 g4 _
  have B4 : Bs w2 w4 v4 (bts p 2 ++ bts o 1) := (HB3.out.alloc _).grown O4 g4
  obtain ⟨a4, c4, hv4⟩ := B4.slice
  rw [List.length_append, bts_length, bts_length] at hv4
  subst hv4
  have HB4 := hyd B4
  clear O4 g4 HB3 B4 k1 k3 k4
  go_wp2_with (at_builtin; refine wpList_append_bytes _ rfl _ _ 55 rfl w2.heap.size 5 Tryz.underlying55 hi5 _ (bts p 2 ++ bts o 1) rfl HB4.out.1 a2 5 c2 (bts s 5) rfl (bts_length s 5) ?j1 ?j2 ?j3 ?j4 w4.heap.size rfl ?_)
  case j1 => exact (HO2.out.src (by rw [bts_length]; decide)).1
  case j2 => exact fun ad had j hj => ((HO2.out.chg HB4.out.2 (fun _ _ _ e => e)).src (by rw [bts_length]; decide)).2 ad had j (by rw [bts_length]; exact hj)
  case j3 => rw [List.length_append, bts_length, bts_length]; omega
  case j4 => exact HB4.out.2.size
  intro v5 w5 O5 g5 _
  have B5 : Bs w2 w5 v5 (bts p 2 ++ bts o 1 ++ bts s 5) := HB4.out.grown O5 g5
  obtain ⟨a5, c5, hv5⟩ := B5.slice
  simp only [List.length_append, bts_length] at hv5
  subst hv5
  obtain ⟨-, -, -, k3, -⟩ := (HT2.out.chg B5.2 (fun e => e)).cells
  have HB5 := hyd B5
  clear O5 g5 HB4 B5
  go_wp2_with (at_builtin; refine wpList_append_bytes _ rfl _ _ 55 rfl w2.heap.size 5 Tryz.underlying55 hi5 _ (bts p 2 ++ bts o 1 ++ bts s 5) rfl (HB5.out.alloc _).1 (some ⟨w5.heap.size, 0, none⟩) 2 2 (bts c 1 ++ bts 1 1) rfl rfl (by simp) ?l2 ?l3 ?l4 (w5.heap.size + 1) ?l5 ?_)
  case l2 =>
    intro ad had j hj
    have e := Option.some.inj had
    subst e
    rw [Addr.add_lit]
    rcases (by omega : j = 0 ∨ j = 1) with rfl | rfl
    · simp [bts1 c hc, bts1 1 (by decide)]
    · simp [bts1 c hc, bts1 1 (by decide)]
  case l3 => simp [bts_length]
  case l4 => simp; exact Nat.le_succ_of_le HB5.out.2.size
  case l5 => simp
  intro v6 w6 O6 g6 _
  have B6 : Bs w2 w6 v6 (pre p o s c true 5) := by
    have := (HB5.out.alloc _).grown O6 g6
    rw [← List.append_assoc] at this
    exact this
  have hpl : (pre p o s c true 5).length = 10 := by simp [pre, bts_length]
  obtain ⟨a6, c6, hv6⟩ := B6.slice
  rw [hpl] at hv6
  subst hv6
  have HB6 : Hid (Bs w2 w6 (.slice a6 10 c6) (pre p o s c true 5 ++ List.replicate 0 0)) := hyd (by simpa using B6)
  have HPL := hyd hpl
  clear O6 g6 HB5 B6 k3 hpl
  go_wp2_with fail
  go_loopw [8] (fun v wr => ∃ (k : Nat) (a : Option Addr) (cc : Nat), k ≤ 40 ∧ v = .slice a (10 + k) cc ∧ Hid (Bs w2 wr (.slice a (10 + k) cc) (pre p o s c true 5 ++ List.replicate k 0))) (fun v _ => 50 - slen v)
  case atStart => exact ⟨0, a6, c6, by decide, rfl, HB6⟩
  case round =>
    clear HB6
    obtain ⟨k, a, cc, hk, rfl, HB⟩ := hrel
    by_cases hlt : k < 40
    · have hlt' : (10 + (k : Int)) < 50 := by omega
      go_wp2_with (at_builtin; refine wpList_append_bytes _ rfl _ _ 55 rfl w2.heap.size 5 Tryz.underlying55 hi5 _ (pre p o s c true 5 ++ List.replicate k 0) rfl (HB.out.alloc _).1 (some ⟨wr.heap.size, 0, none⟩) 1 1 [0] rfl rfl (by simp) ?m2 ?m3 ?m4 (wr.heap.size + 1) ?m5 ?_)
      case m2 =>
        intro ad had j hj
        have e := Option.some.inj had
        subst e
        have e : j = 0 := by omega
        subst e
        rw [Addr.add_lit]
        simp
      case m3 => rw [List.length_append, HPL.out, List.length_replicate]; omega
      case m4 => simp; exact Nat.le_succ_of_le HB.out.2.size
      case m5 => simp
      intro v7 w7 O7 g7 _
      have B7 : Bs w2 w7 v7 (pre p o s c true 5 ++ List.replicate (k + 1) 0) := by
        have := (HB.out.alloc _).grown O7 g7
        rw [List.replicate_succ', ← List.append_assoc]
        exact this
      obtain ⟨a7, c7, hv7⟩ := B7.slice
      rw [List.length_append, HPL.out, List.length_replicate] at hv7
      subst hv7
      have HB7 := hyd B7
      clear O7 g7 B7
      go_wp2
      exact ⟨⟨k + 1, a7, c7, by omega, rfl, HB7⟩, by simp [slen]; omega⟩
    · have e : k = 40 := by omega
      subst e
      go_wp2
      go_ret
      have hb : pre p o s c true 5 ++ List.replicate 40 0 = body p o s c true := by
        show _ = pre p o s c true 5 ++ List.replicate (50 - _) 0
        rw [HPL.out]
      refine ⟨a, cc, rfl, ?_, HG2.out.trans HB.out.2⟩
      rw [← hb]
      exact HB.out.1.mono (fun k hk => by have := (HB.out.1.block hk).1; have := HG2.out.size; omega)
set_option maxHeartbeats 8000000 in
theorem rbody_false (w : World) (p o s c : Nat) (h : May p o s c false) :
    Calls Tryz.prog 61 #[.agg #[.int .i64 p, .int .i64 o, .int .i64 s, .int .i64 c, .bool false]] w fun e w' => ∃ a k, e = .returned (.slice a 50 k) ∧ Own w' w.heap.size 5 (.slice a 50 k) (body p o s c false) ∧ Chg (fun _ => False) w w' := by
  have hp := h.pl
  have ho := h.ol
  have hs := h.sl
  have hc := h.cl
  have hi5 := info5
  have hmk := fun w : World => make_bytes w 0 0 rfl (by decide)
  have T0 := Tg.new w p o s c false
  have G0 : Chg (fun _ => False) w (w.alloc (.cells #[.int .i64 p, .int .i64 o, .int .i64 s, .int .i64 c, .bool false] 28)) := (Chg.refl _ w).alloc _
  clear h
  go_enter Tryz.func61, Tryz.ntmps61
  go_wp2_with fail
  refine (rput_any _ p 2 (by omega) (by decide)).mono ?_
  rintro e w1 ⟨s1, rfl, O1, G1⟩
  have T1 := T0.chg G1 (fun e => e)
  have G01 := G0.trans G1
  obtain ⟨a1, c1, hv1⟩ := O1.slice
  rw [bts_length] at hv1
  subst hv1
  obtain ⟨-, -, k2, -, -⟩ := T1.cells
  have HO1 := hyd O1
  have HT1 := hyd T1
  have HG1 := hyd G01
  clear T0 G0 G1 O1 T1 G01
  go_wp2_with fail
  refine (rput_any w1 s 5 (by omega) (by decide)).mono ?_
  rintro e w2 ⟨s2, rfl, O2, G2⟩
  have T2 := HT1.out.chg G2 (fun e => e)
  have O12 := HO1.out.chg G2 (fun _ _ _ e => e)
  obtain ⟨a2, c2, hv2⟩ := O2.slice
  rw [bts_length] at hv2
  subst hv2
  obtain ⟨-, k1, -, k3, k4⟩ := T2.cells
  have HT2 := hyd T2
  have HO1 := hyd O12
  have HO2 := hyd O2
  have HG2 := hyd (HG1.out.trans G2)
  have B0 : Bs w2 (w2.alloc (.cells (bcells (List.replicate 0 0)) 5)) (.slice (some ⟨w2.heap.size, 0, none⟩) 0 0) [] := ⟨Own.new w2 5 [] (by decide), (Chg.refl _ _).alloc _⟩
  have HB0 := hyd B0
  clear T2 O12 O2 G2 HT1 HG1 k2 B0
  go_wp2_with (at_builtin; refine wpList_append_bytes _ rfl _ _ 55 rfl w2.heap.size 5 Tryz.underlying55 hi5 _ [] rfl HB0.out.1 a1 2 c1 (bts p 2) rfl (bts_length p 2) ?h1 ?h2 ?h3 ?h4 (w2.heap.size + 1) ?h5 ?_)
  case h1 => exact (HO1.out.src (by rw [bts_length]; decide)).1
  case h2 => exact fun ad had j hj => ((HO1.out.keep (fun k hk _ => Below.heap_alloc _ _ _ hk)).src (by rw [bts_length]; decide)).2 ad had j (by rw [bts_length]; exact hj)
  case h3 => simp
  case h4 => simp
  case h5 => simp
  intro v3 w3 O3 g3 _
  have B3 : Bs w2 w3 v3 (bts p 2) := HB0.out.grown O3 g3
  obtain ⟨a3, c3, hv3⟩ := B3.slice
  rw [bts_length] at hv3
  subst hv3
  obtain ⟨-, k1, -, k3, k4⟩ := (HT2.out.chg B3.2 (fun e => e)).cells
  have HB3 := hyd B3
  clear O3 g3 HB0 B3
  go_wp2_with (at_builtin; refine wpList_append_bytes _ rfl _ _ 55 rfl w2.heap.size 5 Tryz.underlying55 hi5 _ (bts p 2) rfl (HB3.out.alloc _).1 (some ⟨w3.heap.size, 0, none⟩) 1 1 (bts o 1) rfl rfl (by simp) ?i2 ?i3 ?i4 (w3.heap.size + 1) ?i5 ?_)
  case i2 =>
    intro ad had j hj
    have e := Option.some.inj had
    subst e
    have e : j = 0 := by omega
    subst e
    rw [Addr.add_lit]
    simp [bts1 o ho]
  case i3 => rw [bts_length]; omega
  case i4 => simp; exact Nat.le_succ_of_le HB3.out.2.size
  case i5 => simp
  intro v4 w4 O4 g4 _
  have B4 : Bs w2 w4 v4 (bts p 2 ++ bts o 1) := (HB3.out.alloc _).grown O4 g4
  obtain ⟨a4, c4, hv4⟩ := B4.slice
  rw [List.length_append, bts_length, bts_length] at hv4
  subst hv4
  have HB4 := hyd B4
  clear O4 g4 HB3 B4 k1 k3 k4
  go_wp2_with (at_builtin; refine wpList_append_bytes _ rfl _ _ 55 rfl w2.heap.size 5 Tryz.underlying55 hi5 _ (bts p 2 ++ bts o 1) rfl HB4.out.1 a2 5 c2 (bts s 5) rfl (bts_length s 5) ?j1 ?j2 ?j3 ?j4 w4.heap.size rfl ?_)
  case j1 => exact (HO2.out.src (by rw [bts_length]; decide)).1
  case j2 => exact fun ad had j hj => ((HO2.out.chg HB4.out.2 (fun _ _ _ e => e)).src (by rw [bts_length]; decide)).2 ad had j (by rw [bts_length]; exact hj)
  case j3 => rw [List.length_append, bts_length, bts_length]; omega
  case j4 => exact HB4.out.2.size
  intro v5 w5 O5 g5 _
  have B5 : Bs w2 w5 v5 (bts p 2 ++ bts o 1 ++ bts s 5) := HB4.out.grown O5 g5
  obtain ⟨a5, c5, hv5⟩ := B5.slice
  simp only [List.length_append, bts_length] at hv5
  subst hv5
  obtain ⟨-, -, -, k3, -⟩ := (HT2.out.chg B5.2 (fun e => e)).cells
  have HB5 := hyd B5
  clear O5 g5 HB4 B5
  go_wp2_with (at_builtin; refine wpList_append_bytes _ rfl _ _ 55 rfl w2.heap.size 5 Tryz.underlying55 hi5 _ (bts p 2 ++ bts o 1 ++ bts s 5) rfl (HB5.out.alloc _).1 (some ⟨w5.heap.size, 0, none⟩) 2 2 (bts c 1 ++ bts 0 1) rfl rfl (by simp) ?l2 ?l3 ?l4 (w5.heap.size + 1) ?l5 ?_)
  case l2 =>
    intro ad had j hj
    have e := Option.some.inj had
    subst e
    rw [Addr.add_lit]
    rcases (by omega : j = 0 ∨ j = 1) with rfl | rfl
    · simp [bts1 c hc, bts1 0 (by decide)]
    · simp [bts1 c hc, bts1 0 (by decide)]
  case l3 => simp [bts_length]
  case l4 => simp; exact Nat.le_succ_of_le HB5.out.2.size
  case l5 => simp
  intro v6 w6 O6 g6 _
  have B6 : Bs w2 w6 v6 (pre p o s c false 5) := by
    have := (HB5.out.alloc _).grown O6 g6
    rw [← List.append_assoc] at this
    exact this
  have hpl : (pre p o s c false 5).length = 10 := by simp [pre, bts_length]
  obtain ⟨a6, c6, hv6⟩ := B6.slice
  rw [hpl] at hv6
  subst hv6
  have HB6 : Hid (Bs w2 w6 (.slice a6 10 c6) (pre p o s c false 5 ++ List.replicate 0 0)) := hyd (by simpa using B6)
  have HPL := hyd hpl
  clear O6 g6 HB5 B6 k3 hpl
  go_wp2_with fail
  go_loopw [8] (fun v wr => ∃ (k : Nat) (a : Option Addr) (cc : Nat), k ≤ 40 ∧ v = .slice a (10 + k) cc ∧ Hid (Bs w2 wr (.slice a (10 + k) cc) (pre p o s c false 5 ++ List.replicate k 0))) (fun v _ => 50 - slen v)
  case atStart => exact ⟨0, a6, c6, by decide, rfl, HB6⟩
  case round =>
    clear HB6
    obtain ⟨k, a, cc, hk, rfl, HB⟩ := hrel
    by_cases hlt : k < 40
    · have hlt' : (10 + (k : Int)) < 50 := by omega
      go_wp2_with (at_builtin; refine wpList_append_bytes _ rfl _ _ 55 rfl w2.heap.size 5 Tryz.underlying55 hi5 _ (pre p o s c false 5 ++ List.replicate k 0) rfl (HB.out.alloc _).1 (some ⟨wr.heap.size, 0, none⟩) 1 1 [0] rfl rfl (by simp) ?m2 ?m3 ?m4 (wr.heap.size + 1) ?m5 ?_)
      case m2 =>
        intro ad had j hj
        have e := Option.some.inj had
        subst e
        have e : j = 0 := by omega
        subst e
        rw [Addr.add_lit]
        simp
      case m3 => rw [List.length_append, HPL.out, List.length_replicate]; omega
      case m4 => simp; exact Nat.le_succ_of_le HB.out.2.size
      case m5 => simp
      intro v7 w7 O7 g7 _
      have B7 : Bs w2 w7 v7 (pre p o s c false 5 ++ List.replicate (k + 1) 0) := by
        have := (HB.out.alloc _).grown O7 g7
        rw [List.replicate_succ', ← List.append_assoc]
        exact this
      obtain ⟨a7, c7, hv7⟩ := B7.slice
      rw [List.length_append, HPL.out, List.length_replicate] at hv7
      subst hv7
      have HB7 := hyd B7
      clear O7 g7 B7
      go_wp2
      exact ⟨⟨k + 1, a7, c7, by omega, rfl, HB7⟩, by simp [slen]; omega⟩
    · have e : k = 40 := by omega
      subst e
      go_wp2
      go_ret
      have hb : pre p o s c false 5 ++ List.replicate 40 0 = body p o s c false := by
        show _ = pre p o s c false 5 ++ List.replicate (50 - _) 0
        rw [HPL.out]
      refine ⟨a, cc, rfl, ?_, HG2.out.trans HB.out.2⟩
      rw [← hb]
      exact HB.out.1.mono (fun k hk => by have := (HB.out.1.block hk).1; have := HG2.out.size; omega)
theorem trbody_any (w : World) (p o s c : Nat) (l : Bool) (h : May p o s c l) :
    Calls Tryz.prog 61 #[.agg #[.int .i64 p, .int .i64 o, .int .i64 s, .int .i64 c, .bool l]] w fun e w' => ∃ a k, e = .returned (.slice a 50 k) ∧ Own w' w.heap.size 5 (.slice a 50 k) (body p o s c l) ∧ Chg (fun _ => False) w w' := by
  cases l with
  | true => exact rbody_true w p o s c h
  | false => exact rbody_false w p o s c h
end Go.Proofs.YtifjmilegogbaaaGreat
namespace Go.Proofs.YtifjmilegogbaaaGreat
open Go.RowKit
set_option maxRecDepth 100000

set_option maxHeartbeats 1000000 in
theorem rget_eq (w : World) (a : Option Addr) (n cap : Nat) (l : List Nat) (hn : n = l.length) (hl : Bys l) (h8 : l.length ≤ 8) (hr : Held w (.slice a n cap) l) :
    Calls Tryz.prog 124 #[.slice a n cap] w fun e w' => e = .returned (.int .u64 (le l : Nat)) ∧ w' = w := by
  subst hn
  have HR := hyd hr
  clear hr
  go_enter Tryz.func124, Tryz.ntmps124
  go_wp2_with fail
  go_loopw [3, 4] (fun v t wr => ∃ k : Nat, k ≤ l.length ∧ t = .int .i64 ((k : Int) - 1) ∧ v = .int .u64 (le (l.drop k) : Nat) ∧ wr = w) (fun _ t _ => (intOf t + 1).toNat)
  case atStart => exact ⟨l.length, Nat.le_refl _, rfl, by simp [le], rfl⟩
  case round =>
    obtain ⟨k, hk, rfl, rfl, rfl⟩ := hrel
    by_cases h0 : k = 0
    · subst h0
      go_wp2
      go_ret
      exact ⟨rfl, rfl⟩
    · obtain ⟨j, rfl⟩ : ∃ j, k = j + 1 := ⟨k - 1, by omega⟩
      obtain ⟨g, o, rfl, hx⟩ := HR.out.cellC (Chg.refl _ _) j (by omega)
      obtain ⟨e1, e2⟩ := get_step l hl h8 j (by omega)
      have hj : (((j + 1 : Nat) : Int) - 1) = (j : Int) := by omega
      rw [hj]
      have hjl : (j : Int) < (l.length : Int) := by omega
      have hj0 : (0 : Int) ≤ (j : Int) := by omega
      have hge : ¬ (j : Int) < 0 := by omega
      have HV : Hid ((256 : Int) * ((le (l.drop (j + 1)) : Nat) : Int) + ((l.getD j 0 : Nat) : Int) = ((le (l.drop j) : Nat) : Int)) := hyd (by rw [← e1]; push_cast; rfl)
      have hb := hl.getD j
      have hb2 : (256 : Int) * ((le (l.drop (j + 1)) : Nat) : Int) + ((l.getD j 0 : Nat) : Int) < 18446744073709551616 := by omega
      clear hj e1 e2
      generalize le (l.drop (j + 1)) = x at *
      generalize l.getD j 0 = y at *
      go_wp2
      exact ⟨⟨j, by omega, by go_num, by rw [← HV.out], trivial⟩, by simp [intOf]⟩
theorem fld1 {l : List Nat} {a : Nat} (h : a < l.length) : fld l a 1 = l.getD a 0 := by
  have e : seg l a 1 = [l.getD a 0] := by
    apply List.ext_getElem (by rw [seg_length (by omega)]; rfl)
    intro i h1 h2
    have hi : i = 0 := by simpa using h2
    subst hi
    simp [seg, List.getD_eq_getElem?_getD, h]
  simp [fld, e, le]
theorem seg_all {l : List Nat} {n : Nat} (h : l.length = n) : seg l 0 n = l := by
  simp [seg, List.take_of_length_le (show l.length ≤ n by omega)]
/-- What the document's Tag answers. -/
def TagAns (l : List Nat) (e : Ending) : Prop :=
  (IsB l ∧ e = .returned (.tuple #[.agg #[.int .i64 (fld l 0 2 : Nat), .int .i64 (fld l 2 1 : Nat), .int .i64 (fld l 3 5 : Nat), .int .i64 (fld l 8 1 : Nat), .bool (lst l)], .bool true])) ∨
  (¬ IsB l ∧ e = .returned (.tuple #[.agg #[.int .i64 0, .int .i64 0, .int .i64 0, .int .i64 0, .bool false], .bool false]))
theorem lst_eq (l : List Nat) : (((fld l 9 1 : Nat) : Int) == 1) = lst l := rfl
set_option maxHeartbeats 8000000 in
theorem rtag_any (w : World) (c o cap : Nat) (l : List Nat) (hl : Bys l) (hL : l.length = 50) (hcap : 50 ≤ cap) (hA : At w c o l) :
    Calls Tryz.prog 94 #[.slice (some ⟨c, o, none⟩) 50 cap] w fun e w' => TagAns l e ∧ Chg (fun _ => False) w w' := by
  have HA := hyd hA
  have HL := hyd hL
  have hc3 : ¬ cap = 3 := by omega
  have hcs := hA.1
  have x2 : w.cell? ⟨c, o + 2, none⟩ = some (.int .u8 (fld l 2 1 : Nat)) := by rw [fld1 (by omega)]; exact hA.2 2 (by omega)
  have x8 : w.cell? ⟨c, o + 8, none⟩ = some (.int .u8 (fld l 8 1 : Nat)) := by rw [fld1 (by omega)]; exact hA.2 8 (by omega)
  have x9 : w.cell? ⟨c, o + 9, none⟩ = some (.int .u8 (fld l 9 1 : Nat)) := by rw [fld1 (by omega)]; exact hA.2 9 (by omega)
  have y0 := fld_lt hl (a := 0) (n := 2) (by omega)
  have y1 := fld_lt hl (a := 2) (n := 1) (by omega)
  have y2 := fld_lt hl (a := 3) (n := 5) (by omega)
  have y3 := fld_lt hl (a := 8) (n := 1) (by omega)
  have y4 := fld_lt hl (a := 9) (n := 1) (by omega)
  simp only [Nat.reducePow] at y0 y1 y2 y3 y4
  have R1 : Hid (∀ wx, At wx c o l → Calls Tryz.prog 124 #[.slice (some ⟨c, o, none⟩) 2 cap] wx fun e w' => e = .returned (.int .u64 (fld l 0 2 : Nat)) ∧ w' = wx) := hyd (fun wx hx => rget_eq wx _ 2 cap (seg l 0 2) (by rw [seg_length (by omega)]) (seg_bys hl 0 2) (by rw [seg_length (by omega)]; decide) (hx.held 0 2 cap (by omega)))
  have R2 : Hid (∀ wx, At wx c o l → Calls Tryz.prog 124 #[.slice (some ⟨c, o + 3, none⟩) 5 (cap - 3)] wx fun e w' => e = .returned (.int .u64 (fld l 3 5 : Nat)) ∧ w' = wx) := hyd (fun wx hx => rget_eq wx _ 5 (cap - 3) (seg l 3 5) (by rw [seg_length (by omega)]) (seg_bys hl 3 5) (by rw [seg_length (by omega)]; decide) (hx.held 3 5 (cap - 3) (by omega)))
  have A0 := hA.chg ((Chg.refl (fun _ => False) w).alloc (.cells #[.int .i64 0, .int .i64 0, .int .i64 0, .int .i64 0, .bool false] 28)) (fun e => e)
  have A1 := fun X : Obj => A0.chg ((Chg.refl (fun _ => False) _).alloc X) (fun e => e)
  have z2 : (w.alloc (.cells #[.int .i64 0, .int .i64 0, .int .i64 0, .int .i64 0, .bool false] 28)).cell? ⟨c, o + 2, none⟩ = some (.int .u8 (fld l 2 1 : Nat)) := (World.cell?_alloc_past _ _ _ hcs).trans x2
  have z8 : (w.alloc (.cells #[.int .i64 0, .int .i64 0, .int .i64 0, .int .i64 0, .bool false] 28)).cell? ⟨c, o + 8, none⟩ = some (.int .u8 (fld l 8 1 : Nat)) := (World.cell?_alloc_past _ _ _ hcs).trans x8
  have z9 : (w.alloc (.cells #[.int .i64 0, .int .i64 0, .int .i64 0, .int .i64 0, .bool false] 28)).cell? ⟨c, o + 9, none⟩ = some (.int .u8 (fld l 9 1 : Nat)) := (World.cell?_alloc_past _ _ _ hcs).trans x9
  have u2 := fun X : Obj => (World.cell?_alloc_past (w := w.alloc (.cells #[.int .i64 0, .int .i64 0, .int .i64 0, .int .i64 0, .bool false] 28)) X c (o + 2) (by simp; omega)).trans z2
  have u8 := fun X : Obj => (World.cell?_alloc_past (w := w.alloc (.cells #[.int .i64 0, .int .i64 0, .int .i64 0, .int .i64 0, .bool false] 28)) X c (o + 8) (by simp; omega)).trans z8
  have u9 := fun X : Obj => (World.cell?_alloc_past (w := w.alloc (.cells #[.int .i64 0, .int .i64 0, .int .i64 0, .int .i64 0, .bool false] 28)) X c (o + 9) (by simp; omega)).trans z9
  have HA0 := hyd A0
  have HA1 := hyd A1
  have hfirst : True := trivial
  have r0 := wrap_i64_small (fld l 0 2) (by omega)
  have r1 := wrap_i64_small (fld l 2 1) (by omega)
  have r2 := wrap_i64_small (fld l 3 5) (by omega)
  have r3 := wrap_i64_small (fld l 8 1) (by omega)
  have hb := build23
  have i0 : (0 : Int) ≤ (cap : Int) := by omega
  have i2 : (2 : Int) ≤ (cap : Int) := by omega
  have i3 : (3 : Int) ≤ (cap : Int) := by omega
  have i8 : (8 : Int) ≤ (cap : Int) := by omega
  clear A0 A1 hA hL x2 x8 x9
  go_enter Tryz.func94, Tryz.ntmps94
  go_wp2_with fail
  go_region_held3 (fun wx => wx.cell? ⟨c, o + 2, none⟩ = some (.int .u8 (fld l 2 1 : Nat)) ∧ wx.cell? ⟨c, o + 8, none⟩ = some (.int .u8 (fld l 8 1 : Nat)) ∧ wx.cell? ⟨c, o + 9, none⟩ = some (.int .u8 (fld l 9 1 : Nat)) ∧ At wx c o l) (first | exact ⟨z2, z8, z9, HA0.out⟩ | exact ⟨u2 _, u8 _, u9 _, HA1.out _⟩)
    (first | (go_at_call 124; clear hfirst; refine (R1.out _ (by first | exact HA0.out | exact HA1.out _)).mono ?_; rintro e w' ⟨rfl, rfl⟩) | (go_at_call 124; refine (R2.out _ (by first | exact HA0.out | exact HA1.out _)).mono ?_; rintro e w' ⟨rfl, rfl⟩))
  all_goals
    try rw [r0, r1, r2, r3]
    rw [lst_eq]
    clear r0 r1 r2 r3 u2 u8 u9 z2 z8 z9 R1 R2 HA1 HA0
    have T0 := (Tg.new w 0 0 0 0 false).alloc (.cells #[.int .i64 (fld l 0 2 : Nat), .int .i64 (fld l 2 1 : Nat), .int .i64 (fld l 3 5 : Nat), .int .i64 (fld l 8 1 : Nat), .bool (lst l)] 28)
    have V0 := Tg.new (w.alloc (.cells #[.int .i64 0, .int .i64 0, .int .i64 0, .int .i64 0, .bool false] 28)) (fld l 0 2 : Nat) (fld l 2 1 : Nat) (fld l 3 5 : Nat) (fld l 8 1 : Nat) (lst l)
    have G0 : Chg (fun _ => False) w ((w.alloc (.cells #[.int .i64 0, .int .i64 0, .int .i64 0, .int .i64 0, .bool false] 28)).alloc (.cells #[.int .i64 (fld l 0 2 : Nat), .int .i64 (fld l 2 1 : Nat), .int .i64 (fld l 3 5 : Nat), .int .i64 (fld l 8 1 : Nat), .bool (lst l)] 28)) := ((Chg.refl _ w).alloc _).alloc _
    rw [show (w.alloc (.cells #[.int .i64 0, .int .i64 0, .int .i64 0, .int .i64 0, .bool false] 28)).heap.size = w.heap.size + 1 from by simp] at V0
    have G1 := G0.drew
    have T1 : Tg ((w.alloc (.cells #[.int .i64 0, .int .i64 0, .int .i64 0, .int .i64 0, .bool false] 28)).alloc (.cells #[.int .i64 (fld l 0 2 : Nat), .int .i64 (fld l 2 1 : Nat), .int .i64 (fld l 3 5 : Nat), .int .i64 (fld l 8 1 : Nat), .bool (lst l)] 28)).drew w.heap.size 0 0 0 0 false := T0
    have V1 : Tg ((w.alloc (.cells #[.int .i64 0, .int .i64 0, .int .i64 0, .int .i64 0, .bool false] 28)).alloc (.cells #[.int .i64 (fld l 0 2 : Nat), .int .i64 (fld l 2 1 : Nat), .int .i64 (fld l 3 5 : Nat), .int .i64 (fld l 8 1 : Nat), .bool (lst l)] 28)).drew (w.heap.size + 1) (fld l 0 2 : Nat) (fld l 2 1 : Nat) (fld l 3 5 : Nat) (fld l 8 1 : Nat) (lst l) := V0
    generalize ((w.alloc (.cells #[.int .i64 0, .int .i64 0, .int .i64 0, .int .i64 0, .bool false] 28)).alloc (.cells #[.int .i64 (fld l 0 2 : Nat), .int .i64 (fld l 2 1 : Nat), .int .i64 (fld l 3 5 : Nat), .int .i64 (fld l 8 1 : Nat), .bool (lst l)] 28)).drew = w0 at *
    clear T0 V0 G0
    obtain ⟨v0, v1, v2, v3, v4⟩ := V1.cells
    have HT := hyd T1
    have HV := hyd V1
    have HG := hyd G1
    clear T1 V1 G1
    go_wp2_with fail
    by_cases hm : MayL l
    · refine (rmay_yes w0 _ _ _ _ _ hm).mono ?_
      rintro e w1 ⟨rfl, G1⟩
      have V1 := HV.out.chg G1 (fun e => e)
      obtain ⟨v0, v1, v2, v3, v4⟩ := V1.cells
      have HT1 := hyd (HT.out.chg G1 (fun e => e))
      have HG1 := hyd (HG.out.trans G1)
      have HV1 := hyd V1
      clear G1 V1 HT HG HV
      go_wp2_with fail
      refine (trbody_any w1 _ _ _ _ _ hm).mono ?_
      rintro e w2 ⟨a, k, rfl, O2, G2⟩
      have G02 := HG1.out.trans G2
      have HT2 := hyd (HT1.out.chg G2 (fun e => e))
      have HV2 := hyd (HV1.out.chg G2 (fun e => e))
      have HG2 := hyd G02
      have hq := same_n w2 a (some ⟨c, o, none⟩) 50 50 k cap (bodyL l) l (body_length _ _ _ _ _).symm HL.out.symm O2.held (by have := (HA.out.chg G02 (fun e => e)).held 0 50 cap (by rw [HL.out]; decide); rw [seg_all HL.out] at this; exact this) (by rw [show (bodyL l).length = 50 from body_length _ _ _ _ _]; decide) (by rw [HL.out]; decide)
      clear G2 O2 G02 HT1 HG1 HV1 v0 v1 v2 v3 v4
      go_wp2_with fail
      by_cases hne : bodyL l = l
      · rw [decide_eq_true hne] at hq
        refine hq.mono ?_
        rintro e w3 ⟨rfl, G3⟩
        obtain ⟨v0, v1, v2, v3, v4⟩ := (HV2.out.chg G3 (fun e => e)).cells
        have HT3 := hyd (HT2.out.chg G3 (fun e => e))
        have HG3 := hyd (HG2.out.trans G3)
        have HI : Hid (IsB l) := hyd ⟨hm, hne⟩
        clear G3 hq HT2 HG2 HV2 hm hne
        go_wp2_with (refine wpList_store_tag rfl (.tmp 2) (.tmp 40) rfl w.heap.size rfl rfl HT3.out ?_)
        intro w5 T5 G5
        have HT5 := hyd T5
        have HG5 : Hid (Chg (fun _ => False) w w5) := hyd (HG3.out.trans' G5 (fun i hi ht => by omega))
        clear T5 G5
        go_wp2
        refine bodyPost_ret (results_tag rfl _ rfl HT5.out) rfl ?_
        exact ⟨Or.inl ⟨HI.out, rfl⟩, HG5.out⟩
      · rw [decide_eq_false hne] at hq
        refine hq.mono ?_
        rintro e w3 ⟨rfl, G3⟩
        have HT3 := hyd (HT2.out.chg G3 (fun e => e))
        have HG3 := hyd (HG2.out.trans G3)
        have HI : Hid (¬ IsB l) := hyd (fun h => hne h.2)
        clear G3 hq HT2 HG2 HV2 hm hne
        go_wp2_with (refine wpList_store_tag rfl (.tmp 2) (.tmp 39) rfl w.heap.size rfl rfl HT3.out ?_)
        intro w5 T5 G5
        have HT5 := hyd T5
        have HG5 : Hid (Chg (fun _ => False) w w5) := hyd (HG3.out.trans' G5 (fun i hi ht => by omega))
        clear T5 G5
        go_wp2
        refine bodyPost_ret (results_tag rfl _ rfl HT5.out) rfl ?_
        exact ⟨Or.inr ⟨HI.out, rfl⟩, HG5.out⟩
    · refine (rmay_no w0 _ _ _ _ _ hm).mono ?_
      rintro e w1 ⟨rfl, G1⟩
      have HT1 := hyd (HT.out.chg G1 (fun e => e))
      have HG1 := hyd (HG.out.trans G1)
      have HI : Hid (¬ IsB l) := hyd (fun h => hm h.1)
      clear G1 HT HG HV hm v0 v1 v2 v3 v4
      go_wp2_with (refine wpList_store_tag rfl (.tmp 2) (.tmp 32) rfl w.heap.size rfl rfl HT1.out ?_)
      intro w5 T5 G5
      have HT5 := hyd T5
      have HG5 : Hid (Chg (fun _ => False) w w5) := hyd (HG1.out.trans' G5 (fun i hi ht => by omega))
      clear T5 G5
      go_wp2
      refine bodyPost_ret (results_tag rfl _ rfl HT5.out) rfl ?_
      exact ⟨Or.inr ⟨HI.out, rfl⟩, HG5.out⟩
end Go.Proofs.YtifjmilegogbaaaGreat
