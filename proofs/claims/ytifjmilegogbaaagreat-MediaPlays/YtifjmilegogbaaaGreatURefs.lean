/-
  The document's answer for a product: what patinaref01.Mul answers. Condition: the arguments are bytes. The document's answer for the product and the value of polynomials: patinaref01.Times, patinaref01.Eval. Conditions: the bytes can be read; there is room.
-/
import Derived.Test.YtifjmilegogbaaaGreatUFld
import Derived.Test.YtifjmilegogbaaaGreatUMem
import Derived.Test.YtifjmilegogbaaaGreatUCod
import Derived.Deep.RegionWith
namespace Go.Proofs.YtifjmilegogbaaaGreat
set_option maxRecDepth 100000
open Go.RowKit

theorem s1_lt (x y k : Nat) (hx : x < 256) (hk : k ≤ 8) : s1 x y k < 65536 := by
  induction k with
  | zero => show 0 < 65536; decide
  | succ k ih =>
    have h := ih (by omega)
    rw [s1_pk]
    refine Nat.xor_lt_two_pow (n := 16) h ?_
    unfold pk
    split
    · rw [Nat.shiftLeft_eq]
      have : 2 ^ k ≤ 2 ^ 7 := Nat.pow_le_pow_right (by decide) (by omega)
      have : x * 2 ^ k ≤ x * 2 ^ 7 := Nat.mul_le_mul_left _ this
      omega
    · decide
theorem s2_lt (s j : Nat) (hs : s < 65536) (hj : j ≤ 7) : s2 s j < 65536 := by
  induction j with
  | zero => exact hs
  | succ j ih =>
    have h := ih (by omega)
    rw [s2_pk]
    refine Nat.xor_lt_two_pow (n := 16) h ?_
    unfold pk
    split
    · rw [Nat.shiftLeft_eq]
      have : 2 ^ (6 - j) ≤ 2 ^ 6 := Nat.pow_le_pow_right (by decide) (by omega)
      omega
    · decide
theorem bit_test (y k : Nat) (hy : y < 65536) : (bits BinOp.and IntKind.i64 ((y : Int) / 2 ^ k) 1 == 1) = decide ((y >>> k) % 2 = 1) := by
  have e : ((y : Int) / 2 ^ k) = ((y >>> k : Nat) : Int) := by
    rw [Nat.shiftRight_eq_div_pow]; simp
  have hl : y >>> k ≤ y := by rw [Nat.shiftRight_eq_div_pow]; exact Nat.div_le_self _ _
  have e2 : bits BinOp.and IntKind.i64 ((y >>> k : Nat) : Int) 1 = (((y >>> k) &&& 1 : Nat) : Int) := i64_and_nat (y >>> k) 1 (by omega) (by decide)
  rw [e, e2, nat_mask1]
  have : (y >>> k) % 2 = 0 ∨ (y >>> k) % 2 = 1 := by omega
  rcases this with h | h <;> simp [h]
theorem wrap_shl (c k n : Nat) (hc : c * 2 ^ k < 65536) (hn : n < 65536) : bits BinOp.xor IntKind.i64 (n : Int) (wrap64 ((c : Int) * 2 ^ k)) = ((n ^^^ (c <<< k) : Nat) : Int) := by
  have e : ((c : Int) * 2 ^ k) = ((c <<< k : Nat) : Int) := by rw [Nat.shiftLeft_eq]; simp
  rw [Nat.shiftLeft_eq] at e
  rw [Nat.shiftLeft_eq, e, show wrap64 ((c * 2 ^ k : Nat) : Int) = ((c * 2 ^ k : Nat) : Int) from by unfold wrap64; omega]
  exact i64_xor_nat n (c * 2 ^ k) (by omega) (by omega)
theorem s1_hit (x y k : Nat) (hx : x < 256) (hy : y < 256) (hk : k < 8) (h : (bits BinOp.and IntKind.i64 ((y : Int) / 2 ^ k) 1 == 1) = true) :
    Value.int IntKind.i64 (bits BinOp.xor IntKind.i64 (s1 x y k : Nat) (wrap64 ((x : Int) * 2 ^ k))) = Value.int IntKind.i64 (s1 x y (k + 1) : Nat) := by
  rw [bit_test y k (by omega), decide_eq_true_eq] at h
  have h2 : 2 ^ k ≤ 2 ^ 7 := Nat.pow_le_pow_right (by decide) (by omega)
  have h3 : x * 2 ^ k ≤ x * 2 ^ 7 := Nat.mul_le_mul_left _ h2
  rw [wrap_shl x k _ (by omega) (s1_lt x y k hx (by omega))]
  simp only [s1]
  rw [if_pos h]
theorem s1_miss (x y k : Nat) (hy : y < 256) (h : (bits BinOp.and IntKind.i64 ((y : Int) / 2 ^ k) 1 == 1) = false) :
    Value.int IntKind.i64 (s1 x y k : Nat) = Value.int IntKind.i64 (s1 x y (k + 1) : Nat) := by
  rw [bit_test y k (by omega), decide_eq_false_iff_not] at h
  simp only [s1]
  rw [if_neg h]
theorem s2_hit (S m : Nat) (hS : S < 65536) (hm : 8 ≤ m) (hm' : m ≤ 14) (h : (bits BinOp.and IntKind.i64 ((s2 S (14 - m) : Nat) / 2 ^ m) 1 == 1) = true) :
    Value.int IntKind.i64 (bits BinOp.xor IntKind.i64 (s2 S (14 - m) : Nat) (wrap64 (285 * 2 ^ (m - 8)))) = Value.int IntKind.i64 (s2 S (14 - (m - 1)) : Nat) := by
  have hl := s2_lt S (14 - m) hS (by omega)
  rw [bit_test _ m hl, decide_eq_true_eq] at h
  have h2 : 2 ^ (m - 8) ≤ 2 ^ 6 := Nat.pow_le_pow_right (by decide) (by omega)
  have e := wrap_shl 285 (m - 8) (s2 S (14 - m)) (by omega) hl
  have e' : bits BinOp.xor IntKind.i64 (s2 S (14 - m) : Nat) (wrap64 (285 * 2 ^ (m - 8))) = ((s2 S (14 - m) ^^^ (285 <<< (m - 8)) : Nat) : Int) := e
  rw [e', show 14 - (m - 1) = (14 - m) + 1 from by omega]
  simp only [s2]
  rw [show 14 - (14 - m) = m from by omega, show 6 - (14 - m) = m - 8 from by omega, if_pos h]
theorem s2_miss (S m : Nat) (hS : S < 65536) (hm : 8 ≤ m) (hm' : m ≤ 14) (h : (bits BinOp.and IntKind.i64 ((s2 S (14 - m) : Nat) / 2 ^ m) 1 == 1) = false) :
    Value.int IntKind.i64 (s2 S (14 - m) : Nat) = Value.int IntKind.i64 (s2 S (14 - (m - 1)) : Nat) := by
  have hl := s2_lt S (14 - m) hS (by omega)
  rw [bit_test _ m hl, decide_eq_false_iff_not] at h
  rw [show 14 - (m - 1) = (14 - m) + 1 from by omega]
  simp only [s2]
  rw [show 14 - (14 - m) = m from by omega, if_neg h]

set_option maxRecDepth 100000 in
set_option maxRecDepth 100000 in
set_option maxHeartbeats 1000000 in
theorem rmul_nat (w : World) (x y : Nat) (hx : x < 256) (hy : y < 256) :
    Calls Tryz.prog 120 #[.int .u8 (x : Int), .int .u8 (y : Int)] w fun e w' => e = .returned (.int .u8 (gm x y : Nat)) ∧ w' = w := by
  go_enter Tryz.func120, Tryz.ntmps120
  go_wp2
  go_loop [6, 7] (fun s i => ∃ k : Nat, k ≤ 8 ∧ i = .int .i64 k ∧ s = .int .i64 (s1 x y k : Nat)) (fun _ i => 8 - (intOf i).toNat)
  case atStart => exact ⟨0, by omega, rfl, rfl⟩
  case round =>
    obtain ⟨k, hk, rfl, rfl⟩ := hrel
    by_cases hlt : k < 8
    · go_wp2
      · exact ⟨⟨k + 1, by omega, by go_num, s1_hit x y k hx hy hlt ‹_›⟩, by simp [intOf]; omega⟩
      · exact ⟨⟨k + 1, by omega, by go_num, s1_miss x y k hy ‹_›⟩, by simp [intOf]; omega⟩
    · have e : k = 8 := by omega
      subst e
      have hS := s1_lt x y 8 hx (by omega)
      have HR : Hid (rm x y = gm x y) := rm_eq x y hx hy
      have HD : Hid (rm x y = s2 (s1 x y 8) 7) := rfl
      generalize s1 x y 8 = S at *
      go_wp2
      go_loop [6, 8] (fun s i => ∃ m : Nat, 7 ≤ m ∧ m ≤ 14 ∧ i = .int .i64 m ∧ s = .int .i64 (s2 S (14 - m) : Nat)) (fun _ i => (intOf i).toNat)
      case atStart => exact ⟨14, by omega, by omega, rfl, rfl⟩
      case round =>
        obtain ⟨m, hm, hm', rfl, rfl⟩ := hrel
        have hs2 := s2_lt S (14 - m) hS (by omega)
        by_cases hlt2 : 8 ≤ m
        · go_wp2
          · exact ⟨⟨m - 1, by omega, by omega, by congr 1; omega, s2_hit S m hS hlt2 hm' ‹_›⟩, by simp [intOf]; omega⟩
          · exact ⟨⟨m - 1, by omega, by omega, by congr 1; omega, s2_miss S m hS hlt2 hm' ‹_›⟩, by simp [intOf]; omega⟩
        · have e : m = 7 := by omega
          subst e
          have hg := gm_lt x y
          go_wp2
          go_ret
          refine ⟨?_, rfl⟩
          have e7 : s2 S 7 = gm x y := HD.out.symm.trans HR.out
          show Ending.returned (Value.int IntKind.u8 ((s2 S 7 : Nat) % 256)) = _
          rw [e7]
          congr 2
          omega

theorem ex_two (k : Nat) (h : k < 254) : gm (ex k) 2 = ex (k + 1) := by rw [gm_two _ (ex_lt k), ex_succ k h]
end Go.Proofs.YtifjmilegogbaaaGreat
namespace Go.Proofs.YtifjmilegogbaaaGreat
set_option maxRecDepth 100000
open Go.RowKit

set_option maxRecDepth 100000 in
set_option maxHeartbeats 2000000 in
theorem rtimes_some (w : World) (c o cap c2 o2 cap2 : Nat) (p q : List Nat) (hp : Bys p) (hq : Bys q) (hs : c < w.heap.size) (hs2 : c2 < w.heap.size)
    (p0 : p.length ≠ 0) (q0 : q.length ≠ 0) (n : Nat) (hn : n = p.length + q.length - 1) (hlen : p.length ≤ 140737488351232) (hlen2 : q.length ≤ 140737488351232)
    (hcell : ∀ i, i < p.length → w.cell? ⟨c, o + i, none⟩ = some (.int .u8 (p.getD i 0 : Nat)))
    (hcell2 : ∀ i, i < q.length → w.cell? ⟨c2, o2 + i, none⟩ = some (.int .u8 (q.getD i 0 : Nat))) :
    Calls Tryz.prog 136 #[.slice (some ⟨c, o, none⟩) p.length cap, .slice (some ⟨c2, o2, none⟩) q.length cap2] w fun e w' =>
      e = .returned (.slice (some ⟨w.heap.size, 0, none⟩) n n) ∧ Bat w' w.heap.size (tm p q) ∧ Chg (fun _ => False) w w' := by
  have HC : Hid (∀ i, i < p.length → w.cell? ⟨c, o + i, none⟩ = some (.int .u8 (p.getD i 0 : Nat))) := hcell
  have HC2 : Hid (∀ i, i < q.length → w.cell? ⟨c2, o2 + i, none⟩ = some (.int .u8 (q.getD i 0 : Nat))) := hcell2
  clear hcell hcell2
  have hp0 : ((p.length : Int) == 0) = false := by rw [beq_eq_false_iff_ne]; omega
  have hq0 : ((q.length : Int) == 0) = false := by rw [beq_eq_false_iff_ne]; omega
  have hmk := make_bytes w ((p.length : Int) + q.length - 1) n (by omega) (by omega)
  have hB0 : Chg (fun _ => False) w (w.alloc (.cells (bcells (List.replicate n 0)) 5)) := (Chg.refl _ _).alloc _
  have hP0 : Bat (w.alloc (.cells (bcells (List.replicate n 0)) 5)) w.heap.size (outer p q 0) := by rw [hn]; exact Bat.new w _
  have HT : Hid (tm p q = outer p q p.length) := by unfold tm; rw [if_neg (by omega)]; exact rfl
  have HN : Hid (n = p.length + q.length - 1) := hn
  clear hn
  go_enter Tryz.func136, Tryz.ntmps136
  go_wp2
  go_loopw [6] (fun t wr => ∃ i : Nat, i ≤ p.length ∧ t = .int .i64 i ∧ Bat wr w.heap.size (outer p q i) ∧ Chg (fun _ => False) w wr) (fun t _ => p.length - (intOf t).toNat)
  case atStart => exact ⟨0, by omega, rfl, hP0, hB0⟩
  case round =>
    clear hmk hB0 hP0
    obtain ⟨i, hi, rfl, hP, hB⟩ := hrel
    by_cases hlt : i < p.length
    · have hd := hp.getD i
      have HO : Hid (outer p q (i + 1) = inner (p.getD i 0) q i (outer p q i) q.length) := rfl
      have HD : Hid (∀ wx, Chg (fun _ => False) w wx → wx.cell? ⟨c, o + i, none⟩ = some (.int .u8 (p.getD i 0 : Nat))) := fun wx hx => (hx.cell hs (fun f => f) _).trans (HC.out i hlt)
      generalize p.getD i 0 = d at *
      go_wp2
      go_loopw [7] (fun t wx => ∃ j : Nat, j ≤ q.length ∧ t = .int .i64 j ∧ Bat wx w.heap.size (inner d q i (outer p q i) j) ∧ Chg (fun _ => False) w wx) (fun t _ => q.length - (intOf t).toNat)
      case atStart => exact ⟨0, by omega, rfl, hP, hB⟩
      case round =>
        clear hP hB
        obtain ⟨j, hj, rfl, hP, hB⟩ := hrel
        by_cases hlt2 : j < q.length
        · have hc0 := HD.out wr hB
          have hc1 : wr.cell? ⟨c2, o2 + j, none⟩ = some (.int .u8 (q.getD j 0 : Nat)) := (hB.cell hs2 (fun f => f) _).trans (HC2.out j hlt2)
          have hd2 := hq.getD j
          have HJ : Hid (inner d q i (outer p q i) (j + 1) = addAt (inner d q i (outer p q i) j) (i + j) (gm d (q.getD j 0))) := rfl
          generalize q.getD j 0 = d2 at *
          generalize hIL : inner d q i (outer p q i) j = Lq at *
          have hLlen : Lq.length = n := by rw [← hIL, inner_length, outer_length, HN.out]
          have hLb : Bys Lq := by rw [← hIL]; exact inner_bys _ _ _ _ (outer_bys p q i) j
          have HIL : Hid (inner d q i (outer p q i) (j + 1) = addAt Lq (i + j) (gm d d2)) := HJ.out
          clear hIL HJ
          have hij : i + j < Lq.length := by have := HN.out; omega
          have hb1 : (0 : Int) ≤ (i : Int) + (j : Int) := by omega
          have hb2 : (i : Int) + (j : Int) < (n : Int) := by omega
          have hi1 : (0 : Int) ≤ (i : Int) := by omega
          have hi2 : (i : Int) < (p.length : Int) := by omega
          have hj1 : (0 : Int) ≤ (j : Int) := by omega
          have hj2 : (j : Int) < (q.length : Int) := by omega
          have hm := hLb.getD (i + j)
          have hcn := hP.cell (i + j) hij
          have hfn := hP.frozen (i + j)
          have HAD : Hid (addAt Lq (i + j) (gm d d2) = Lq.set (i + j) (Lq.getD (i + j) 0 ^^^ gm d d2)) := rfl
          generalize Lq.getD (i + j) 0 = m at *
          have e1 := u8_xor_nat m (gm d d2) hm (gm_lt _ _)
          have hP2 : Bat (wr.drew.setCell ⟨w.heap.size, i + j, none⟩ (.int .u8 ((m ^^^ gm d d2 : Nat) : Int))) w.heap.size (inner d q i (outer p q i) (j + 1)) := by
            rw [HIL.out, HAD.out]; exact hP.drew.store (i + j) _
          have hB2 : Chg (fun _ => False) w (wr.drew.setCell ⟨w.heap.size, i + j, none⟩ (.int .u8 ((m ^^^ gm d d2 : Nat) : Int))) := hB.drew.setCell (Or.inr (Nat.le_refl _)) _ _
          have HP2 : Hid (Bat (wr.drew.setCell ⟨w.heap.size, i + j, none⟩ (.int .u8 ((m ^^^ gm d d2 : Nat) : Int))) w.heap.size (inner d q i (outer p q i) (j + 1))) := hP2
          have HB2 : Hid (Chg (fun _ => False) w (wr.drew.setCell ⟨w.heap.size, i + j, none⟩ (.int .u8 ((m ^^^ gm d d2 : Nat) : Int)))) := hB2
          clear hLlen hLb hP2 hB2 hP hB HAD HIL
          have hwr : IntKind.i64.wrap ((i : Int) + (j : Int)) = (i : Int) + (j : Int) := by rw [IntKind.wrap_i64]; omega
          have hwt : ((i : Int) + (j : Int)).toNat = i + j := by omega
          go_wp2_with fail
          go_region_with (go_at_call 120; refine (rmul_nat _ d d2 hd hd2).mono ?_; rintro e w' ⟨rfl, rfl⟩)
          all_goals
            go_wp2
            exact ⟨⟨j + 1, by omega, by go_num, HP2.out, HB2.out⟩, by simp [intOf]; omega⟩
        · have e : j = q.length := by omega
          have hP2 : Bat wr w.heap.size (outer p q (i + 1)) := by rw [HO.out, ← e]; exact hP
          clear e hP
          go_wp2
          exact ⟨⟨i + 1, by omega, by go_num, hP2, hB⟩, by simp [intOf]; omega⟩
    · have e : i = p.length := by omega
      have hP2 : Bat wr w.heap.size (tm p q) := by rw [HT.out, ← e]; exact hP
      clear e hP
      go_wp2
      go_ret
      exact ⟨rfl, hP2, hB⟩

theorem rtimes_zero_p (w : World) (a a2 : Option Addr) (cap n2 cap2 : Nat) :
    Calls Tryz.prog 136 #[.slice a 0 cap, .slice a2 n2 cap2] w fun e w' => e = .returned (.slice none 0 0) ∧ w' = w := by
  go_enter Tryz.func136, Tryz.ntmps136
  go_wp2
  go_ret
  exact ⟨rfl, rfl⟩
theorem rtimes_zero_q (w : World) (a a2 : Option Addr) (n cap cap2 : Nat) (hn : n ≠ 0) :
    Calls Tryz.prog 136 #[.slice a n cap, .slice a2 0 cap2] w fun e w' => e = .returned (.slice none 0 0) ∧ w' = w := by
  have hp0 : ((n : Int) == 0) = false := by rw [beq_eq_false_iff_ne]; omega
  go_enter Tryz.func136, Tryz.ntmps136
  go_wp2
  go_ret
  exact ⟨rfl, rfl⟩
theorem tm_nil {p q : List Nat} (h : p.length = 0 ∨ q.length = 0) : tm p q = [] := by unfold tm; rw [if_pos h]
/-- patinaref01.Times, of whatever can be read: the product, in new memory. -/
theorem rtimes_any (w : World) (a a2 : Option Addr) (cap cap2 : Nat) (p q : List Nat) (hpb : Bys p) (hqb : Bys q) (hlen : p.length ≤ 140737488351232) (hlen2 : q.length ≤ 140737488351232)
    (hp : Held w (.slice a p.length cap) p) (hq : Held w (.slice a2 q.length cap2) q) :
    Calls Tryz.prog 136 #[.slice a p.length cap, .slice a2 q.length cap2] w fun e w' =>
      ∃ (at_ : Option Addr) (m : Nat), e = .returned (.slice at_ m m) ∧ m = (tm p q).length ∧ Own w' w.heap.size 5 (.slice at_ m m) (tm p q) ∧ Chg (fun _ => False) w w' := by
  by_cases p0 : p.length = 0
  · rw [p0]
    refine (rtimes_zero_p w a a2 cap _ cap2).mono ?_
    rintro e w' ⟨rfl, rfl⟩
    exact ⟨none, 0, rfl, by rw [tm_nil (Or.inl p0)]; rfl, by rw [tm_nil (Or.inl p0)]; exact Own.nil _ _ _, Chg.refl _ _⟩
  by_cases q0 : q.length = 0
  · rw [q0]
    refine (rtimes_zero_q w a a2 _ cap cap2 p0).mono ?_
    rintro e w' ⟨rfl, rfl⟩
    exact ⟨none, 0, rfl, by rw [tm_nil (Or.inr q0)]; rfl, by rw [tm_nil (Or.inr q0)]; exact Own.nil _ _ _, Chg.refl _ _⟩
  obtain ⟨a', c', hv, hp1 | ⟨c, o, ha, hs, hcell⟩⟩ := hp
  · exact absurd hp1 p0
  obtain ⟨a2', c2', hv2, hq1 | ⟨c2, o2, ha2, hs2, hcell2⟩⟩ := hq
  · exact absurd hq1 q0
  simp only [Value.slice.injEq] at hv hv2
  obtain rfl : a = some ⟨c, o, none⟩ := hv.1.trans ha
  obtain rfl : a2 = some ⟨c2, o2, none⟩ := hv2.1.trans ha2
  refine (rtimes_some w c o cap c2 o2 cap2 p q hpb hqb hs hs2 p0 q0 _ rfl hlen hlen2 hcell hcell2).mono ?_
  rintro e w' ⟨rfl, hP, hB⟩
  have hl := tm_length p q p0 q0
  refine ⟨_, _, rfl, hl.symm, ?_, hB⟩
  have := Own.of_bat hP (Nat.le_refl _) (by unfold maxLen; omega)
  rw [hl] at this
  exact this

/-- The value, summed from the lowest coefficient up: k of them. -/
def rv (x : Nat) (l : List Nat) : Nat → Nat
  | 0 => 0
  | k + 1 => rv x l k ^^^ gm (l.getD (l.length - 1 - k) 0) (xp x k)
theorem rv_lt (x : Nat) (l : List Nat) (k : Nat) : rv x l k < 256 := by
  induction k with
  | zero => show 0 < 256; decide
  | succ k ih => exact xor_lt _ _ ih (gm_lt _ _)
theorem rv_pv (x : Nat) (l : List Nat) (k : Nat) (h : k ≤ l.length) : pv x l (l.length - k) ^^^ rv x l k = pv x l l.length := by
  induction k with
  | zero => show pv x l (l.length - 0) ^^^ 0 = _; rw [Nat.xor_zero, Nat.sub_zero]
  | succ k ih =>
    rw [← ih (by omega), show l.length - k = (l.length - (k + 1)) + 1 from by omega]
    show pv x l (l.length - (k + 1)) ^^^ (rv x l k ^^^ gm (l.getD (l.length - 1 - k) 0) (xp x k)) = (pv x l (l.length - (k + 1)) ^^^ gm (l.getD (l.length - (k + 1)) 0) (xp x (l.length - 1 - (l.length - (k + 1))))) ^^^ rv x l k
    rw [show l.length - 1 - (l.length - (k + 1)) = k from by omega, show l.length - 1 - k = l.length - (k + 1) from by omega, Nat.xor_assoc, Nat.xor_comm (rv x l k)]
theorem rv_ev (x : Nat) (hx : x < 256) (l : List Nat) (hl : Bys l) : rv x l l.length = ev x l := by
  have h := rv_pv x l l.length (Nat.le_refl _)
  rw [Nat.sub_self] at h
  rw [ev_pv x hx l hl, ← h]
  show _ = 0 ^^^ _
  rw [Nat.zero_xor]

set_option maxRecDepth 100000 in
set_option maxHeartbeats 1000000 in
theorem reval_any (w : World) (a : Option Addr) (cap : Nat) (l : List Nat) (hl : Bys l) (hlen : l.length ≤ 9223372036854775807) (x : Nat) (hx : x < 256) (hr : Held w (.slice a l.length cap) l) :
    Calls Tryz.prog 151 #[.slice a l.length cap, .int .u8 (x : Int)] w fun e w' => e = .returned (.int .u8 (ev x l : Nat)) ∧ w' = w := by
  have HR : Hid (Held w (.slice a l.length cap) l) := hr
  have HE : Hid (rv x l l.length = ev x l) := rv_ev x hx l hl
  clear hr
  go_enter Tryz.func151, Tryz.ntmps151
  go_wp2
  go_loop [5, 6, 7] (fun s t i => ∃ k : Nat, k ≤ l.length ∧ i = .int .i64 ((l.length : Int) - 1 - k) ∧ s = .int .u8 (rv x l k : Nat) ∧ t = .int .u8 (xp x k : Nat)) (fun _ _ i => (intOf i + 1).toNat)
  case atStart => exact ⟨0, by omega, by go_num, rfl, rfl⟩
  case round =>
    obtain ⟨k, hk, rfl, rfl, rfl⟩ := hrel
    by_cases hlt : k < l.length
    · obtain ⟨a', c', hv, hc⟩ := HR.out
      obtain ⟨c, o, ha, hs, hcell⟩ := hc.resolve_left (by omega)
      simp only [Value.slice.injEq] at hv
      obtain rfl : a = some ⟨c, o, none⟩ := hv.1.trans ha
      have hce := hcell (l.length - 1 - k) (by omega)
      have hd := hl.getD (l.length - 1 - k)
      have HV : Hid (rv x l (k + 1) = rv x l k ^^^ gm (l.getD (l.length - 1 - k) 0) (xp x k)) := rfl
      have hs1 := rv_lt x l k
      have hp1 := xp_lt x k
      generalize l.getD (l.length - 1 - k) 0 = d at *
      have e1 := u8_xor_nat (rv x l k) (gm d (xp x k)) hs1 (gm_lt _ _)
      have hge : (0 : Int) ≤ (l.length : Int) - 1 - k := by omega
      have hnat : ((l.length : Int) - 1 - k).toNat = l.length - 1 - k := by omega
      clear hv ha hcell hc
      have hx2 : Hid (xp x (k + 1) = gm (xp x k) x) := rfl
      go_wp2_with fail
      refine (rmul_nat _ d (xp x k) hd hp1).mono ?_
      rintro e w' ⟨rfl, rfl⟩
      go_wp2_with fail
      refine (rmul_nat _ (xp x k) x hp1 hx).mono ?_
      rintro e w' ⟨rfl, rfl⟩
      go_wp2_with fail
      exact ⟨⟨k + 1, by omega, by go_num, by rw [HV.out], by rw [hx2.out]⟩, by simp [intOf]; omega⟩
    · have e : k = l.length := by omega
      have hv : Hid (rv x l k = ev x l) := by rw [e]; exact HE.out
      have hlt' : ¬ (0 : Int) ≤ (l.length : Int) - 1 - k := by omega
      clear e
      go_wp2_with fail
      go_ret
      exact ⟨by rw [← hv.out]; rfl, rfl⟩
end Go.Proofs.YtifjmilegogbaaaGreat
