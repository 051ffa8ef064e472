/-
  What patinalaw01.FieldTimes does: it answers true, and leaves what was there as it was. Condition: its arguments are slices of bytes within the form's reach, and a byte.
-/
import Derived.Test.YtoeaghonpadoiaaRowsIn
import Derived.Test.YtoeaghonpadoiaaAppend
import Derived.Test.YtoeaghonpadoiaaMulsWalk
namespace Go.Proofs.Ytoeaghonpadoiaa
open Go.RowKit

/-- What could be read below B can be read behind a step that keeps what is below B. -/
theorem Rd.below {w w' : World} {b B : Nat} {a : Option Addr} {l : List Nat} (h : Rd w b a l) (hB : Below B w w') (hs : w.heap.size ≤ B) : Rd w' b a l := by
  refine ⟨h.1, ?_⟩
  rcases h.2 with h | ⟨c, o, ha, hc, hlt, hcell⟩
  · exact Or.inl h
  · exact Or.inr ⟨c, o, ha, hc, Nat.lt_of_lt_of_le hlt hB.size, fun i hi => (hB.cell (p := ⟨c, o + i, none⟩) (Nat.lt_of_lt_of_le hlt hs)).trans (hcell i hi)⟩
theorem Rd.src {w : World} {b : Nat} {a : Option Addr} {l : List Nat} (h : Rd w b a l) : ∀ ad, a = some ad → ∀ j, j < l.length → w.cell? (ad.add j) = some (.int .u8 (l.getD j 0 : Nat)) := by
  intro ad had j hj
  rcases h.2 with h | ⟨c, o, ha, hc, hlt, hcell⟩
  · rw [h] at hj; exact absurd hj (Nat.not_lt_zero _)
  · rw [had] at ha
    rw [Option.some.inj ha, Addr.add_lit]
    exact hcell j hj

set_option maxRecDepth 100000 in
set_option maxHeartbeats 2000000 in
theorem times_go (a0 a1 : Option Addr) (cap0 cap1 : Nat) (p q : List Nat) (x : Nat) (hx : x < 256) (w : World) (hlen : p.length ≤ 140737488351232) (hlen2 : q.length ≤ 140737488351232)
    (hno : a0 = none → p.length = 0 ∧ cap0 = 0)
    (hp : ∀ b, w.heap.size ≤ b → Rd w b a0 p) (hq : ∀ b, w.heap.size ≤ b → Rd w b a1 q) :
    Calls Try.prog 8 #[.slice a0 p.length cap0, .slice a1 q.length cap1, .int .u8 (x : Int)] w fun e w' => e = .returned (.bool true) ∧ Below w.heap.size w w' := by
  have hi5 := info5
  go_enter Try.func8, Try.ntmps8
  go_wp2_with fail
  refine (shown_any _).mono ?_
  rintro e w1 ⟨rfl, hB1⟩
  have hz1 := hB1.size
  go_wp2_with fail
  refine (new_any _).mono ?_
  rintro e w2 ⟨rfl, hw2⟩
  have hF2 : Fld w2 w1.heap.size := by rw [hw2]; exact Fld.new w1
  have hB2 : Below w.heap.size w w2 := by rw [hw2]; exact hB1.alloc hz1 _
  have hz2 : w1.heap.size < w2.heap.size := by rw [hw2]; simp
  clear hw2 hB1
  generalize w1.heap.size = b at *
  have hp2 : Rd w2 b a0 p := (hp b hz1).below hB2 (Nat.le_refl _)
  have hq2 : Rd w2 b a1 q := (hq b hz1).below hB2 (Nat.le_refl _)
  clear hp hq
  go_wp2_with fail
  refine (times_any b _ hF2 a0 a1 _ cap0 _ cap1 p q rfl rfl hlen hlen2 hp2 hq2).mono ?_
  rintro e w3 ⟨ta, m, rfl, hm, ht, hF3, hC⟩
  have hB3 : Below w.heap.size w w3 := hB2.trans (hC.below hz1 (by omega))
  have hz3 : b < w3.heap.size := Nat.lt_of_lt_of_le hz2 hC.size
  have hp3 := hp2.but hC
  have hq3 := hq2.but hC
  have HM : Hid (m = (tm p q).length) := hm
  have hpb := hp2.1
  have hqb := hq2.1
  have ht3 : Rd w3 b ta (tm p q) := by
    rcases ht with ⟨h0, rfl⟩ | ⟨_, _, rfl, hP⟩
    · exact ⟨tm_bys p q, Or.inl (by unfold tm; rw [if_pos h0])⟩
    · exact hP.rd (tm_bys p q) (by omega)
  have hcase : ((((m : Int) == (p.length : Int) + q.length - 1) = true) ∧ True) ∨ ((((m : Int) == (p.length : Int) + q.length - 1) = false) ∧ (((m : Int) == 0) = true) ∧ (((p.length : Int) == 0) = true)) ∨
      ((((m : Int) == (p.length : Int) + q.length - 1) = false) ∧ (((m : Int) == 0) = true) ∧ (((p.length : Int) == 0) = false) ∧ (((q.length : Int) == 0) = true)) := by
    simp only [beq_iff_eq, beq_eq_false_iff_ne, and_true, ne_eq]
    by_cases p0 : p.length = 0
    · have : (tm p q).length = 0 := by unfold tm; rw [if_pos (Or.inl p0)]; rfl
      omega
    by_cases q0 : q.length = 0
    · have : (tm p q).length = 0 := by unfold tm; rw [if_pos (Or.inr q0)]; rfl
      omega
    have := tm_length p q p0 q0
    omega
  have hmlen : (tm p q).length ≤ 9223372036854775807 := by
    by_cases h0 : p.length = 0 ∨ q.length = 0
    · unfold tm; rw [if_pos h0]; simp
    · rw [tm_length p q (by omega) (by omega)]; omega
  clear ht hm hC hp2 hq2 hB2 hz2 hF2
  go_wp2_with (at_builtin; refine wpList_append_bytes _ rfl _ _ 39 rfl w3.heap.size 5 Try.underlying39 hi5 _ [0, 0] rfl ?h1 a0 p.length cap0 p rfl rfl hno ?h2 ?h3 ?h4 (w3.heap.size + 1) ?h5 ?_)
  case h1 =>
    refine ⟨rfl, Or.inr ⟨w3.heap.size, 2, #[.int .u8 0, .int .u8 0], rfl, Nat.le_refl _, ?_, Nat.le_refl _, by unfold maxLen; decide, rfl, rfl⟩⟩
    show (w3.heap.push _)[w3.heap.size]? = _
    simp
  case h2 => exact (hp3.but ((But.refl b w3).alloc _)).src
  case h3 => show 2 + p.length ≤ _; omega
  case h4 => simp
  case h5 => simp
  intro lv w4 hown hgrow hlie
  obtain ⟨g, lcap, hlv, hg, hgs, _, _, _⟩ := hown.lies (by simp)
  rw [hlv] at hown
  rw [hlv]
  clear hlie hlv lv
  have hC4 : But b w3 w4 := ⟨hgrow.os, hgrow.tape, hgrow.output, by have := hgrow.size; simp at this; omega,
    fun k hk _ => (hgrow.block k (by simp; omega) (by simp [Value.ownBlock]; omega)).trans (Below.heap_alloc _ _ _ hk)⟩
  have hF4 : Fld w4 b := hF3.other ((hgrow.block b (by simp; omega) (by simp [Value.ownBlock]; omega)).trans (Below.heap_alloc _ _ _ hz3))
  have hB4 : Below w.heap.size w w4 := hB3.trans (hC4.below hz1 (by omega))
  have hz4 : b < w4.heap.size := Nat.lt_of_lt_of_le hz3 hC4.size
  have hp4 := hp3.but hC4
  have hq4 := hq3.but hC4
  have hl4 : Rd w4 b (some ⟨g, 0, none⟩) (0 :: 0 :: p) := hown.rd (fun n hn => by
    rcases List.mem_cons.1 hn with h | h
    · omega
    rcases List.mem_cons.1 h with h | h
    · omega
    exact hp3.1 n h) (by omega)
  have ht4 : Rd w4 b ta (tm p q) := ht3.but hC4
  clear hown hgrow hC4 hF3 hB3 hz3 hp3 hq3 ht3
  go_wp2_with fail
  refine (eval_any b _ hF4 a0 _ cap0 p rfl (by omega) x hx hp4).mono ?_
  rintro e w5 ⟨rfl, hF5, hC⟩
  have hB5 : Below w.heap.size w w5 := hB4.trans (hC.below hz1 (by omega))
  have hz5 : b < w5.heap.size := Nat.lt_of_lt_of_le hz4 hC.size
  have hp5 := hp4.but hC
  have hq5 := hq4.but hC
  have hl5 := hl4.but hC
  have ht5 := ht4.but hC
  clear hC hF4 hB4 hz4 hp4 hq4 hl4 ht4
  go_wp2_with fail
  refine (eval_any b _ hF5 a1 _ cap1 q rfl (by omega) x hx hq5).mono ?_
  rintro e w6 ⟨rfl, hF6, hC⟩
  have hB6 : Below w.heap.size w w6 := hB5.trans (hC.below hz1 (by omega))
  have hz6 : b < w6.heap.size := Nat.lt_of_lt_of_le hz5 hC.size
  have hp6 := hp5.but hC
  have hl6 := hl5.but hC
  have ht6 := ht5.but hC
  clear hC hF5 hB5 hz5 hp5 hq5 hl5 ht5
  go_wp2_with fail
  refine (mul_nat b _ hF6 (ev x p) (ev x q) (ev_lt x p hpb) (ev_lt x q hqb)).mono ?_
  rintro e w7 ⟨rfl, hF7, hC⟩
  have hB7 : Below w.heap.size w w7 := hB6.trans (hC.below hz1 (by omega))
  have hz7 : b < w7.heap.size := Nat.lt_of_lt_of_le hz6 hC.size
  have hp7 := hp6.but hC
  have hl7 := hl6.but hC
  have ht7 := ht6.but hC
  clear hC hF6 hB6 hz6 hp6 hl6 ht6
  rw [← ev_tm x hx p q hpb hqb]
  go_wp2_with fail
  refine (eval_any b _ hF7 ta _ m (tm p q) HM.out hmlen x hx ht7).mono ?_
  rintro e w8 ⟨rfl, hF8, hC⟩
  have hB8 : Below w.heap.size w w8 := hB7.trans (hC.below hz1 (by omega))
  have hz8 : b < w8.heap.size := Nat.lt_of_lt_of_le hz7 hC.size
  have hp8 := hp7.but hC
  have hl8 := hl7.but hC
  clear hC hF7 hB7 hz7 hp7 hl7 ht7
  go_wp2_with fail
  refine (eval_any b _ hF8 (some ⟨g, 0, none⟩) _ lcap (0 :: 0 :: p) rfl (by simp; omega) x hx hl8).mono ?_
  rintro e w9 ⟨rfl, hF9, hC⟩
  have hB9 : Below w.heap.size w w9 := hB8.trans (hC.below hz1 (by omega))
  have hz9 : b < w9.heap.size := Nat.lt_of_lt_of_le hz8 hC.size
  have hp9 := hp8.but hC
  clear hC hF8 hB8 hz8 hp8 hl8
  rw [ev_noughts]
  go_wp2_with fail
  refine (eval_any b _ hF9 a0 _ cap0 p rfl (by omega) x hx hp9).mono ?_
  rintro e w10 ⟨rfl, hF10, hC⟩
  have hB10 : Below w.heap.size w w10 := hB9.trans (hC.below hz1 (by omega))
  clear hC hF9 hB9 hz9 hp9 hF10
  rcases hcase with ⟨h1, h2⟩ | ⟨h1, h2, h3⟩ | ⟨h1, h2, h3, h4⟩
  · go_wp2_with fail
    go_ret
    exact ⟨rfl, hB10⟩
  · go_wp2_with fail
    go_ret
    exact ⟨rfl, hB10⟩
  · go_wp2_with fail
    go_ret
    exact ⟨rfl, hB10⟩

theorem times_walk (a0 : Option Addr) (len0 cap0 : Nat) (z0 : List Int) (a1 : Option Addr) (len1 cap1 : Nat) (z1 : List Int) (a2 : Int) (w : World)
    (w0 : IsRow .u8 w a0 len0 cap0 z0) (w1 : IsRow .u8 w a1 len1 cap1 z1) (w2 : (Lit.int .u8 a2).wf = true) (r0 : cap0 * 1 ≤ 140737488351232) (r1 : cap1 * 1 ≤ 140737488351232) :
    Calls Try.prog 8 #[.slice a0 len0 cap0, .slice a1 len1 cap1, .int .u8 a2] w fun e w' => e = .returned (.bool true) ∧ Below w.heap.size w w' := by
  obtain ⟨x, rfl, hx⟩ := byte_nat w2
  obtain ⟨p, rfl, hp1, hp2, hp⟩ := rd_of_row w0
  obtain ⟨q, rfl, hq1, _, hq⟩ := rd_of_row w1
  exact times_go a0 a1 cap0 cap1 p q x hx w (by omega) (by omega) hp2 hp hq
end Go.Proofs.Ytoeaghonpadoiaa
