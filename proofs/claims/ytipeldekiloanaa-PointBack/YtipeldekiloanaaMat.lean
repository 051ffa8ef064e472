/-
  The bytes of a checkpoint, by their places; which checkpoints can be told, which bytes are one's, and that both lead back. No condition: lemmas.
-/
import Derived.Test.YtipeldekiloanaaRead
namespace Go.Proofs.Ytipeldekiloanaa
open Go.RowKit
set_option maxRecDepth 100000

theorem getD_app (a b : List Nat) (j : Nat) : (a ++ b).getD j 0 = if j < a.length then a.getD j 0 else b.getD (j - a.length) 0 := by
  simp only [List.getD_eq_getElem?_getD]
  by_cases h : j < a.length
  · rw [if_pos h, List.getElem?_append_left h]
  · rw [if_neg h, List.getElem?_append_right (by omega)]
theorem cat_fl (f : Nat → Int) (s : Nat) (hs : 0 < s) : ∀ n j, j < n * s → (cat (fl f n s)).getD j 0 = byteAt (u6 (f (j / s))) (j % s)
  | 0, j, h => by omega
  | n + 1, j, h => by
    rw [fl_succ, cat_snoc, getD_app, cat_length, tot_fl]
    by_cases h2 : j < n * s
    · rw [if_pos h2, cat_fl f s hs n j h2]
    · rw [Nat.add_mul, Nat.one_mul] at h
      rw [if_neg h2, bts_getD _ _ _ (by omega)]
      have e1 : j = (j - n * s) + s * n := by rw [Nat.mul_comm s n]; omega
      have e2 : j / s = n := by rw [e1, Nat.add_mul_div_left _ _ hs, Nat.div_eq_of_lt (by omega), Nat.zero_add]
      have e3 : j % s = j - n * s := by
        conv => lhs; rw [e1]
        rw [Nat.add_mul_mod_self_left, Nat.mod_eq_of_lt (by omega)]
      rw [e2, e3]
/-- The byte j of a checkpoint. -/
def wb (c : Ckp) (j : Nat) : Nat :=
  if j < 120 then byteAt (u6 (c.F (j / 5))) (j % 5)
  else if j < 125 then byteAt (u6 c.N) (j - 120)
  else if j < 127 then byteAt (bitsN c.B 12) (j - 125)
  else if j < 128 then byteAt (u6 c.C) (j - 127)
  else if j < 152 then byteAt (u6 (c.R ((j - 128) / 2))) ((j - 128) % 2)
  else if j < 164 then byteAt (u6 (c.S (j - 152))) 0
  else 0
theorem wrL_at (c : Ckp) (j : Nat) : (wrL c).getD j 0 = wb c j := by
  obtain ⟨t1, t2, t3, t4, t5, t6⟩ := tot_nums c
  have e6 : cat (nums c 6) = cat (nums c 5) ++ cat (fl c.S 12 1) := by rw [← cat_append]; rfl
  have e5 : cat (nums c 5) = cat (nums c 4) ++ cat (fl c.R 12 2) := by rw [← cat_append]; rfl
  have e4 : cat (nums c 4) = cat (nums c 3) ++ bts (u6 c.C) 1 := by rw [← cat_snoc]; rfl
  have e3 : cat (nums c 3) = cat (nums c 2) ++ bts (bitsN c.B 12) 2 := by rw [← cat_snoc]; rfl
  have e2 : cat (nums c 2) = cat (nums c 1) ++ bts (u6 c.N) 5 := by rw [← cat_snoc]; rfl
  have e1 : cat (nums c 1) = cat (fl c.F 24 5) := rfl
  unfold wrL rowZ wb
  rw [getD_app, cat_length, t6]
  by_cases h6 : j < 164
  · rw [if_pos h6, e6, getD_app, cat_length, t5]
    by_cases h5 : j < 152
    · rw [if_pos h5, e5, getD_app, cat_length, t4]
      by_cases h4 : j < 128
      · rw [if_pos h4, e4, getD_app, cat_length, t3]
        by_cases h3 : j < 127
        · rw [if_pos h3, e3, getD_app, cat_length, t2]
          by_cases h2 : j < 125
          · rw [if_pos h2, e2, getD_app, cat_length, t1]
            by_cases h1 : j < 120
            · rw [if_pos h1, if_pos h1, e1, cat_fl _ _ (by decide) _ _ (by omega)]
            · rw [if_neg h1, if_neg h1, if_pos h2, bts_getD _ _ _ (by omega)]
          · rw [if_neg h2, if_neg (by omega), if_neg h2, if_pos h3, bts_getD _ _ _ (by omega)]
        · rw [if_neg h3, if_neg (by omega), if_neg (by omega), if_neg h3, if_pos h4, bts_getD _ _ _ (by omega)]
      · rw [if_neg h4, if_neg (by omega), if_neg (by omega), if_neg (by omega), if_neg h4, if_pos h5, cat_fl _ _ (by decide) _ _ (by omega)]
    · rw [if_neg h5, if_neg (by omega), if_neg (by omega), if_neg (by omega), if_neg (by omega), if_neg h5, if_pos h6, cat_fl _ _ (by decide) _ _ (by omega), Nat.div_one, Nat.mod_one]
  · rw [if_neg h6, if_neg (by omega), if_neg (by omega), if_neg (by omega), if_neg (by omega), if_neg (by omega), if_neg h6]
    simp only [List.getD_eq_getElem?_getD, List.getElem?_replicate]
    split <;> rfl
theorem fld_is {c : Ckp} {a n v : Nat} (hn : a + n ≤ 174) (hv : v < 256 ^ n) (h : ∀ k, k < n → wb c (a + k) = byteAt v k) : fld (wrL c) a n = v := by
  have e : seg (wrL c) a n = bts v n := by
    apply list_eq_of_getD
    · rw [seg_length (by rw [wrL_length]; omega), bts_length]
    · intro i hi
      rw [seg_length (by rw [wrL_length]; omega)] at hi
      rw [seg_getD hi, wrL_at, h i hi, bts_getD _ _ _ hi]
  unfold fld
  rw [e, le_bts, Nat.mod_eq_of_lt hv]
theorem byteAt_fld {l : List Nat} (hl : Bys l) {a n k : Nat} (hk : k < n) (hn : a + n ≤ l.length) : byteAt (fld l a n) k = l.getD (a + k) 0 := by
  have e := bts_le (seg_bys hl a n)
  rw [seg_length hn] at e
  have : (bts (fld l a n) n).getD k 0 = (seg l a n).getD k 0 := congrArg (fun x => x.getD k 0) e
  rw [bts_getD _ _ _ hk, seg_getD hk] at this
  exact this
/-- Two checkpoints alike. -/
structure Lik (c d : Ckp) : Prop where
  F : ∀ i, i < 24 → c.F i = d.F i
  N : c.N = d.N
  B : ∀ i, i < 12 → c.B i = d.B i
  C : c.C = d.C
  R : ∀ i, i < 12 → c.R i = d.R i
  S : ∀ i, i < 12 → c.S i = d.S i
theorem Lik.ckA {c d : Ckp} (h : Lik c d) : ckA c = ckA d := ckA_congr h.F h.N h.B h.C h.R h.S
theorem fl_congr {f g : Nat → Int} {n s : Nat} (h : ∀ i, i < n → f i = g i) : fl f n s = fl g n s := by
  apply List.map_congr_left
  intro i hi
  rw [h i (List.mem_range.1 hi)]
theorem bitsN_congr {f g : Nat → Bool} : ∀ {n : Nat}, (∀ i, i < n → f i = g i) → bitsN f n = bitsN g n
  | 0, _ => rfl
  | n + 1, h => by rw [bitsN, bitsN, bitsN_congr (fun i hi => h i (by omega)), h n (by omega)]
theorem Lik.nums {c d : Ckp} (h : Lik c d) : nums c 6 = nums d 6 := by
  show fl c.F 24 5 ++ [(u6 c.N, 5)] ++ [(bitsN c.B 12, 2)] ++ [(u6 c.C, 1)] ++ fl c.R 12 2 ++ fl c.S 12 1 = fl d.F 24 5 ++ [(u6 d.N, 5)] ++ [(bitsN d.B 12, 2)] ++ [(u6 d.C, 1)] ++ fl d.R 12 2 ++ fl d.S 12 1
  rw [fl_congr h.F, h.N, bitsN_congr h.B, h.C, fl_congr h.R, fl_congr h.S]
theorem Lik.wrL {c d : Ckp} (h : Lik c d) : wrL c = wrL d := by unfold Proofs.Ytipeldekiloanaa.wrL; rw [h.nums]
theorem Lik.okc {c d : Ckp} (h : Lik c d) (hc : Okc c) : Okc d := by
  unfold Okc at *
  rw [← h.nums, ← h.C]; exact hc
theorem bitsN_test (f : Nat → Bool) : ∀ n i, i < n → (bitsN f n).testBit i = f i
  | 0, i, h => by omega
  | n + 1, i, h => by
    have e : bitsN f (n + 1) = bitsN f n ||| (if f n then 2 ^ n else 0) := by
      rw [bitsN]
      cases f n with
      | false => simp
      | true => simp only [if_true]; rw [or_pow _ _ (bitsN_lt f n)]
    rw [e, Nat.testBit_or]
    by_cases hi : i < n
    · rw [bitsN_test f n i hi]
      cases f n with
      | false => simp
      | true => simp only [if_true]; rw [Nat.testBit_two_pow_of_ne (by omega)]; simp
    · have : i = n := by omega
      subst this
      rw [Nat.testBit_lt_two_pow (bitsN_lt f i)]
      cases f i with
      | false => simp
      | true => simp only [if_true]; rw [Nat.testBit_two_pow_self]; simp
theorem bitsN_of (v : Nat) : ∀ n, bitsN (fun i => v.testBit i) n = v % 2 ^ n
  | 0 => by simp [bitsN, Nat.mod_one]
  | n + 1 => by
    rw [bitsN, bitsN_of v n, Nat.pow_succ, Nat.mod_mul, Nat.testBit_eq_decide_div_mod_eq]
    by_cases h : v / 2 ^ n % 2 = 1
    · rw [h]; simp
    · have : v / 2 ^ n % 2 = 0 := by omega
      rw [this]; simp
/-- All its numbers fit an int. -/
structure Wfc (c : Ckp) : Prop where
  F : ∀ i, i < 24 → -9223372036854775808 ≤ c.F i ∧ c.F i ≤ 9223372036854775807
  N : -9223372036854775808 ≤ c.N ∧ c.N ≤ 9223372036854775807
  C : -9223372036854775808 ≤ c.C ∧ c.C ≤ 9223372036854775807
  R : ∀ i, i < 12 → -9223372036854775808 ≤ c.R i ∧ c.R i ≤ 9223372036854775807
  S : ∀ i, i < 12 → -9223372036854775808 ≤ c.S i ∧ c.S i ≤ 9223372036854775807
/-- It can be told. -/
structure Tld (c : Ckp) : Prop where
  F : ∀ i, i < 24 → 0 ≤ c.F i ∧ c.F i ≤ 1099511627775
  N : 0 ≤ c.N ∧ c.N ≤ 1099511627775
  C : 0 ≤ c.C ∧ c.C ≤ 95
  R : ∀ i, i < 12 → 0 ≤ c.R i ∧ c.R i ≤ 65535
  S : ∀ i, i < 12 → 0 ≤ c.S i ∧ c.S i ≤ 255
theorem u6_of {z : Int} (h : 0 ≤ z) (h2 : z < 18446744073709551616) : ((u6 z : Nat) : Int) = z := by
  rw [u6_eq, IntKind.wrap_u64]; omega
theorem u6_big {z : Int} (h : -9223372036854775808 ≤ z) (h2 : z < 0) : 9223372036854775808 ≤ u6 z := by
  have := u6_eq z
  rw [IntKind.wrap_u64] at this
  omega
theorem u6_nat (n : Nat) (h : n < 18446744073709551616) : u6 (n : Int) = n := by
  have := u6_of (z := (n : Int)) (by omega) (by omega)
  omega
theorem mem_nums {c : Ckp} {p : Nat × Nat} : p ∈ nums c 6 ↔ (∃ i, i < 24 ∧ p = (u6 (c.F i), 5)) ∨ p = (u6 c.N, 5) ∨ p = (bitsN c.B 12, 2) ∨ p = (u6 c.C, 1) ∨ (∃ i, i < 12 ∧ p = (u6 (c.R i), 2)) ∨ ∃ i, i < 12 ∧ p = (u6 (c.S i), 1) := by
  show p ∈ fl c.F 24 5 ++ [(u6 c.N, 5)] ++ [(bitsN c.B 12, 2)] ++ [(u6 c.C, 1)] ++ fl c.R 12 2 ++ fl c.S 12 1 ↔ _
  have e : ∀ (f : Nat → Int) (n s : Nat), p ∈ fl f n s ↔ ∃ i, i < n ∧ p = (u6 (f i), s) := by
    intro f n s
    simp only [fl, List.mem_map, List.mem_range]
    constructor
    · rintro ⟨i, h1, h2⟩; exact ⟨i, h1, h2.symm⟩
    · rintro ⟨i, h1, h2⟩; exact ⟨i, h1, h2.symm⟩
  simp only [List.mem_append, List.mem_singleton, e]
  simp only [or_assoc]
theorem fits_iff (c : Ckp) : Fits (nums c 6) ↔ (∀ i, i < 24 → u6 (c.F i) < 1099511627776) ∧ u6 c.N < 1099511627776 ∧ u6 c.C < 256 ∧ (∀ i, i < 12 → u6 (c.R i) < 65536) ∧ ∀ i, i < 12 → u6 (c.S i) < 256 := by
  constructor
  · intro h
    exact ⟨fun i hi => h (_, 5) (mem_nums.2 (Or.inl ⟨i, hi, rfl⟩)), h (_, 5) (mem_nums.2 (Or.inr (Or.inl rfl))), h (_, 1) (mem_nums.2 (Or.inr (Or.inr (Or.inr (Or.inl rfl))))), fun i hi => h (_, 2) (mem_nums.2 (Or.inr (Or.inr (Or.inr (Or.inr (Or.inl ⟨i, hi, rfl⟩)))))), fun i hi => h (_, 1) (mem_nums.2 (Or.inr (Or.inr (Or.inr (Or.inr (Or.inr ⟨i, hi, rfl⟩))))))⟩
  · rintro ⟨h1, h2, h3, h4, h5⟩ p hp
    rcases mem_nums.1 hp with ⟨i, hi, rfl⟩ | rfl | rfl | rfl | ⟨i, hi, rfl⟩ | ⟨i, hi, rfl⟩
    · exact h1 i hi
    · exact h2
    · have := bitsN_12 c.B
      show bitsN c.B 12 < 65536
      omega
    · exact h3
    · exact h4 i hi
    · exact h5 i hi
theorem room_iff {z : Int} (h : -9223372036854775808 ≤ z ∧ z ≤ 9223372036854775807) (m : Nat) (hm : m ≤ 9223372036854775808) : u6 z < m ↔ 0 ≤ z ∧ z < m := by
  by_cases h0 : 0 ≤ z
  · have := u6_of h0 (by omega)
    omega
  · have := u6_big h.1 (by omega)
    omega
theorem okc_iff (c : Ckp) (hw : Wfc c) : Okc c ↔ Tld c := by
  unfold Okc
  rw [fits_iff]
  constructor
  · rintro ⟨h0, h1, h2, h3, h4, h5⟩
    refine ⟨fun i hi => ?_, ?_, ?_, fun i hi => ?_, fun i hi => ?_⟩
    · have := (room_iff (hw.F i hi) 1099511627776 (by decide)).1 (h1 i hi); omega
    · have := (room_iff hw.N 1099511627776 (by decide)).1 h2; omega
    · have := (room_iff hw.C 256 (by decide)).1 h3; omega
    · have := (room_iff (hw.R i hi) 65536 (by decide)).1 (h4 i hi); omega
    · have := (room_iff (hw.S i hi) 256 (by decide)).1 (h5 i hi); omega
  · intro h
    refine ⟨by have := h.C; omega, fun i hi => ?_, ?_, ?_, fun i hi => ?_, fun i hi => ?_⟩
    · exact (room_iff (hw.F i hi) 1099511627776 (by decide)).2 (by have := h.F i hi; omega)
    · exact (room_iff hw.N 1099511627776 (by decide)).2 (by have := h.N; omega)
    · exact (room_iff hw.C 256 (by decide)).2 (by have := h.C; omega)
    · exact (room_iff (hw.R i hi) 65536 (by decide)).2 (by have := h.R i hi; omega)
    · exact (room_iff (hw.S i hi) 256 (by decide)).2 (by have := h.S i hi; omega)
/-- What is written is read. -/
theorem back (c : Ckp) (h : Tld c) : Lik (rdC (wrL c)) c := by
  have app : ∀ {z : Int} {m : Nat}, 0 ≤ z → z < m → m ≤ 18446744073709551616 → u6 z < m := fun h1 h2 h3 => by
    have := u6_of h1 (by omega)
    omega
  have cst : ∀ {z : Int}, 0 ≤ z → z < 18446744073709551616 → ((u6 z : Nat) : Int) = z := fun h1 h2 => u6_of h1 h2
  refine ⟨fun i hi => ?_, ?_, fun i hi => ?_, ?_, fun i hi => ?_, fun i hi => ?_⟩
  · have hF := h.F i hi
    show ((fld (wrL c) (5 * i) 5 : Nat) : Int) = _
    rw [fld_is (v := u6 (c.F i)) (by omega) (app hF.1 (m := 256 ^ 5) (by omega) (by decide)) (fun k hk => ?_)]
    · exact cst hF.1 (by omega)
    · unfold wb
      rw [if_pos (by omega), show (5 * i + k) / 5 = i by omega, show (5 * i + k) % 5 = k by omega]
  · have hN := h.N
    show ((fld (wrL c) 120 5 : Nat) : Int) = _
    rw [fld_is (v := u6 c.N) (by omega) (app hN.1 (m := 256 ^ 5) (by omega) (by decide)) (fun k hk => ?_)]
    · exact cst hN.1 (by omega)
    · unfold wb
      rw [if_neg (by omega), if_pos (by omega), show 120 + k - 120 = k by omega]
  · show (fld (wrL c) 125 2).testBit i = c.B i
    have hb := bitsN_12 c.B
    rw [fld_is (v := bitsN c.B 12) (by omega) (by show _ < 65536; omega) (fun k hk => ?_)]
    · exact bitsN_test c.B 12 i hi
    · unfold wb
      rw [if_neg (by omega), if_neg (by omega), if_pos (by omega), show 125 + k - 125 = k by omega]
  · have hC := h.C
    show ((fld (wrL c) 127 1 : Nat) : Int) = _
    rw [fld_is (v := u6 c.C) (by omega) (app hC.1 (m := 256 ^ 1) (by omega) (by decide)) (fun k hk => ?_)]
    · exact cst hC.1 (by omega)
    · unfold wb
      rw [if_neg (by omega), if_neg (by omega), if_neg (by omega), if_pos (by omega), show 127 + k - 127 = k by omega]
  · have hR := h.R i hi
    show ((fld (wrL c) (128 + 2 * i) 2 : Nat) : Int) = _
    rw [fld_is (v := u6 (c.R i)) (by omega) (app hR.1 (m := 256 ^ 2) (by omega) (by decide)) (fun k hk => ?_)]
    · exact cst hR.1 (by omega)
    · unfold wb
      rw [if_neg (by omega), if_neg (by omega), if_neg (by omega), if_neg (by omega), if_pos (by omega), show (128 + 2 * i + k - 128) / 2 = i by omega, show (128 + 2 * i + k - 128) % 2 = k by omega]
  · have hS := h.S i hi
    show ((fld (wrL c) (152 + i) 1 : Nat) : Int) = _
    rw [fld_is (v := u6 (c.S i)) (by omega) (app hS.1 (m := 256 ^ 1) (by omega) (by decide)) (fun k hk => ?_)]
    · exact cst hS.1 (by omega)
    · obtain rfl : k = 0 := by omega
      unfold wb
      rw [if_neg (by omega), if_neg (by omega), if_neg (by omega), if_neg (by omega), if_neg (by omega), if_pos (by omega), show 152 + i + 0 - 152 = i by omega]
theorem Lik.symm {c d : Ckp} (h : Lik c d) : Lik d c := ⟨fun i hi => (h.F i hi).symm, h.N.symm, fun i hi => (h.B i hi).symm, h.C.symm, fun i hi => (h.R i hi).symm, fun i hi => (h.S i hi).symm⟩
theorem isP_wrL (c : Ckp) (hw : Wfc c) (h : Okc c) : IsP (wrL c) ∧ Lik (rdC (wrL c)) c := by
  have hb := back c ((okc_iff c hw).1 h)
  exact ⟨⟨hb.symm.okc h, hb.wrL⟩, hb⟩
/-- Which bytes are a checkpoint's, by the document. -/
def Doc (l : List Nat) : Prop := l.getD 126 0 ≤ 15 ∧ l.getD 127 0 ≤ 95 ∧ ∀ i, 164 ≤ i → i < 174 → l.getD i 0 = 0
theorem wfc_rdC (l : List Nat) (hl : Bys l) (hL : l.length = 174) : Wfc (rdC l) := by
  refine ⟨fun i hi => ?_, ?_, ?_, fun i hi => ?_, fun i hi => ?_⟩
  · have := fld5 hl (a := 5 * i) (by omega)
    show _ ≤ ((fld l (5 * i) 5 : Nat) : Int) ∧ ((fld l (5 * i) 5 : Nat) : Int) ≤ _
    omega
  · have := fld5 hl (a := 120) (by omega)
    show _ ≤ ((fld l 120 5 : Nat) : Int) ∧ ((fld l 120 5 : Nat) : Int) ≤ _
    omega
  · have := fld1 hl (a := 127) (by omega)
    show _ ≤ ((fld l 127 1 : Nat) : Int) ∧ ((fld l 127 1 : Nat) : Int) ≤ _
    omega
  · have := fld2 hl (a := 128 + 2 * i) (by omega)
    show _ ≤ ((fld l (128 + 2 * i) 2 : Nat) : Int) ∧ ((fld l (128 + 2 * i) 2 : Nat) : Int) ≤ _
    omega
  · have := fld1 hl (a := 152 + i) (by omega)
    show _ ≤ ((fld l (152 + i) 1 : Nat) : Int) ∧ ((fld l (152 + i) 1 : Nat) : Int) ≤ _
    omega
theorem fld_one {l : List Nat} (hl : Bys l) {a : Nat} (h : a + 1 ≤ l.length) : fld l a 1 = l.getD a 0 := by
  have e := byteAt_fld hl (a := a) (n := 1) (k := 0) (by decide) h
  have := fld1 hl h
  unfold byteAt at e
  simp only [Nat.pow_zero, Nat.div_one, Nat.add_zero] at e
  omega
theorem isP_iff (l : List Nat) (hl : Bys l) (hL : l.length = 174) : IsP l ↔ Doc l := by
  have hw := wfc_rdC l hl hL
  have u : ∀ {a n : Nat}, a + n ≤ 174 → n ≤ 8 → u6 ((fld l a n : Nat) : Int) = fld l a n := fun {a n} h h8 => by
    apply u6_nat
    have h1 := fld_lt hl (a := a) (n := n) (by omega)
    have h2 : 256 ^ n ≤ 256 ^ 8 := Nat.pow_le_pow_right (by decide) h8
    have h3 : (256 : Nat) ^ 8 = 18446744073709551616 := by decide
    omega
  have e127 := fld_one hl (a := 127) (by omega)
  -- the bytes of what was read
  have hwb : ∀ j, j < 164 → j ≠ 126 → wb (rdC l) j = l.getD j 0 := by
    intro j hj h126
    unfold wb
    by_cases h1 : j < 120
    · rw [if_pos h1]
      show byteAt (u6 ((fld l (5 * (j / 5)) 5 : Nat) : Int)) (j % 5) = _
      rw [u (by omega) (by decide), byteAt_fld hl (by omega) (by omega), show 5 * (j / 5) + j % 5 = j by omega]
    · rw [if_neg h1]
      by_cases h2 : j < 125
      · rw [if_pos h2]
        show byteAt (u6 ((fld l 120 5 : Nat) : Int)) (j - 120) = _
        rw [u (by omega) (by decide), byteAt_fld hl (by omega) (by omega), show 120 + (j - 120) = j by omega]
      · rw [if_neg h2]
        by_cases h3 : j < 127
        · obtain rfl : j = 125 := by omega
          rw [if_pos h3]
          show byteAt (bitsN (fun i => (fld l 125 2).testBit i) 12) 0 = _
          rw [bitsN_of, ← byteAt_fld hl (a := 125) (n := 2) (k := 0) (by decide) (by omega)]
          unfold byteAt
          simp only [Nat.pow_zero, Nat.div_one]
          omega
        · rw [if_neg h3]
          by_cases h4 : j < 128
          · obtain rfl : j = 127 := by omega
            rw [if_pos h4]
            show byteAt (u6 ((fld l 127 1 : Nat) : Int)) (127 - 127) = _
            rw [u (by omega) (by decide), byteAt_fld hl (by omega) (by omega)]
          · rw [if_neg h4]
            by_cases h5 : j < 152
            · rw [if_pos h5]
              show byteAt (u6 ((fld l (128 + 2 * ((j - 128) / 2)) 2 : Nat) : Int)) ((j - 128) % 2) = _
              rw [u (by omega) (by decide), byteAt_fld hl (by omega) (by omega), show 128 + 2 * ((j - 128) / 2) + (j - 128) % 2 = j by omega]
            · rw [if_neg h5, if_pos hj]
              show byteAt (u6 ((fld l (152 + (j - 152)) 1 : Nat) : Int)) 0 = _
              rw [u (by omega) (by decide), byteAt_fld hl (by omega) (by omega), show 152 + (j - 152) + 0 = j by omega]
  have h126 : wb (rdC l) 126 = l.getD 126 0 % 16 := by
    show byteAt (bitsN (fun i => (fld l 125 2).testBit i) 12) 1 = _
    rw [bitsN_of, ← byteAt_fld hl (a := 125) (n := 2) (k := 1) (by decide) (by omega)]
    unfold byteAt
    simp only [Nat.pow_one]
    omega
  have h0 : ∀ j, 164 ≤ j → wb (rdC l) j = 0 := by
    intro j hj
    unfold wb
    rw [if_neg (by omega), if_neg (by omega), if_neg (by omega), if_neg (by omega), if_neg (by omega), if_neg (by omega)]
  constructor
  · rintro ⟨h1, h2⟩
    have hj : ∀ j, wb (rdC l) j = l.getD j 0 := fun j => by rw [← wrL_at, h2]
    refine ⟨?_, ?_, fun i hi _ => ?_⟩
    · have := hj 126
      rw [h126] at this
      omega
    · have : ((fld l 127 1 : Nat) : Int) < 96 := h1.1
      omega
    · rw [← hj i, h0 i hi]
  · rintro ⟨h1, h2, h3⟩
    refine ⟨(okc_iff _ hw).2 ⟨fun i hi => ?_, ?_, ?_, fun i hi => ?_, fun i hi => ?_⟩, ?_⟩
    · have := fld5 hl (a := 5 * i) (by omega)
      show _ ≤ ((fld l (5 * i) 5 : Nat) : Int) ∧ ((fld l (5 * i) 5 : Nat) : Int) ≤ _
      omega
    · have := fld5 hl (a := 120) (by omega)
      show _ ≤ ((fld l 120 5 : Nat) : Int) ∧ ((fld l 120 5 : Nat) : Int) ≤ _
      omega
    · show _ ≤ ((fld l 127 1 : Nat) : Int) ∧ ((fld l 127 1 : Nat) : Int) ≤ _
      omega
    · have := fld2 hl (a := 128 + 2 * i) (by omega)
      show _ ≤ ((fld l (128 + 2 * i) 2 : Nat) : Int) ∧ ((fld l (128 + 2 * i) 2 : Nat) : Int) ≤ _
      omega
    · have := fld1 hl (a := 152 + i) (by omega)
      show _ ≤ ((fld l (152 + i) 1 : Nat) : Int) ∧ ((fld l (152 + i) 1 : Nat) : Int) ≤ _
      omega
    · apply list_eq_of_getD (by rw [wrL_length, hL])
      intro j hj
      rw [wrL_length] at hj
      rw [wrL_at]
      by_cases hlt : j < 164
      · by_cases e : j = 126
        · subst e; rw [h126]; omega
        · exact hwb j hlt e
      · rw [h0 j (by omega), h3 j (by omega) hj]
end Go.Proofs.Ytipeldekiloanaa
