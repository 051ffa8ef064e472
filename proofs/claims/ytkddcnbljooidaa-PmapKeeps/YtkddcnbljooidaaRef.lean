/-
  What the document's map answers, and the law's own same. No condition: lemmas.
-/
import Derived.Test.YtkddcnbljooidaaOf
namespace Go.Proofs.Ytkddcnbljooidaa
set_option maxRecDepth 100000
open Go.RowKit

theorem rnew_any (w : World) : Calls Try.prog 7 #[] w fun e w' => e = .returned (.pointer (some ⟨w.heap.size, 0, none⟩)) ∧ IB w' w.heap.size 50 25 (fun _ => -1) ∧ Chg (fun _ => False) w w' := by
  have hb := build50
  have HK1 := hyd (IB.new w 50 25 (fun _ => 0))
  have HG1 : Hid (Chg (fun _ => False) w (w.alloc (.cells (ints (fun _ => 0) 25).toArray 50))) := (Chg.refl _ w).alloc _
  go_enter Try.func7, Try.ntmps7
  go_wp2_with fail
  generalize HB : w.heap.size = b at *
  have HB := hyd HB
  clear hb
  go_loopg [2] 25 (fun kx s2 wr => ∃ i : Nat, s2 = .int .i64 i ∧ i ≤ 25 ∧ 25 - i ≤ kx ∧ Hid (IB wr b 50 25 (fun j => if j < i then -1 else 0)) ∧ Hid (Chg (fun _ => False) w wr))
  case atStart => exact ⟨0, rfl, by omega, by omega, HK1, HG1⟩
  case round =>
  obtain ⟨i, rfl, hin, hkx, HK, HG⟩ := hrel
  clear HK1 HG1
  by_cases hlt : i < 25
  · have hltz : (i : Int) < 25 := by omega
    obtain ⟨c, f⟩ := HK.out.cell i (by omega)
    go_wp2
    go_roundg (25 - (i + 1))
    case measure => omega
    case rel =>
      refine ⟨i + 1, by simp, by omega, Nat.le_refl _, ?_, ?_⟩
      · refine (HK.out.set i (-1)).congr fun j _ => ?_
        simp only [upd]
        repeat' split
        all_goals first | rfl | omega
      · exact HG.out.setCell (Or.inr (by rw [HB.out]; exact Nat.le_refl _)) _ _
  · have hltz : ¬ (i : Int) < 25 := by omega
    have h25 : i = 25 := by omega
    subst h25
    go_wp2
    go_ret
    exact ⟨rfl, HK.out.congr fun j hj => by rw [if_pos hj], HG.out⟩
/-- The number at a page. -/
theorem rown_any (w : World) (b : Nat) (L : Nat → Int) (h : IB w b 50 25 L) (q : Int) : Calls Try.prog 31 #[.pointer (some ⟨b, 0, none⟩), .int .i64 q] w fun e w' => e = .returned (.int .i64 (own L q)) ∧ w' = w := by
  have HK := hyd h
  have HS := hyd (own_spec L q)
  clear h
  go_enter Try.func31, Try.ntmps31
  go_wp2_with fail
  go_loopg [5] 25 (fun kx s5 wr => ∃ i : Nat, s5 = .int .i64 i ∧ i ≤ 25 ∧ 25 - i ≤ kx ∧ Hid (∀ j, j < i → L j ≠ q) ∧ wr = w)
  case atStart => exact ⟨0, rfl, by omega, by omega, fun j hj => absurd hj (Nat.not_lt_zero _), rfl⟩
  case round =>
  obtain ⟨i, rfl, hin, hkx, HN, rfl⟩ := hrel
  by_cases hlt : i < 25
  · have hltz : (i : Int) < 25 := by omega
    obtain ⟨c, f⟩ := HK.out.cell i (by omega)
    by_cases he : L i = q
    · have hb : (L i == q) = true := by simp [he]
      have HE := hyd he
      clear he
      go_wp2
      go_ret
      refine ⟨?_, rfl⟩
      rcases HS.out with ⟨j, h1, h2, h3, h4⟩ | ⟨_, h2⟩
      · have e1 : j = i := by
          rcases Nat.lt_trichotomy i j with h | h | h
          · exact absurd HE.out (h4 i h)
          · exact h.symm
          · exact absurd h3 (HN.out j h)
        rw [h2, e1]
        rfl
      · exact absurd HE.out (h2 i hlt)
    · have hb : (L i == q) = false := by simp [he]
      have HE := hyd he
      clear he
      go_wp2
      go_roundg (25 - (i + 1))
      case measure => omega
      case rel =>
        refine ⟨i + 1, by simp, by omega, Nat.le_refl _, fun j hj => ?_, rfl⟩
        by_cases e1 : j = i
        · rw [e1]; exact HE.out
        · exact HN.out j (by omega)
  · have hltz : ¬ (i : Int) < 25 := by omega
    have h25 : i = 25 := by omega
    subst h25
    go_wp2
    go_ret
    exact ⟨by rw [own_none HN.out]; rfl, rfl⟩
theorem rat_yes (w : World) (b : Nat) (L : Nat → Int) (h : IB w b 50 25 L) (n : Nat) (hn : n < 25) (hL : 0 ≤ L n) : Calls Try.prog 20 #[.pointer (some ⟨b, 0, none⟩), .int .i64 n] w fun e w' => e = .returned (.tuple #[.int .i64 (L n), .int .i64 0]) ∧ w' = w := by
  obtain ⟨c, -⟩ := h.cell n hn
  have h1 : ¬ 24 < (n : Int) := by omega
  have h0 : ¬ (n : Int) < 0 := by omega
  have h2 : (n : Int) < 25 := by omega
  have h3 : ¬ L n < 0 := by omega
  clear h hn hL
  go_enter Try.func20, Try.ntmps20
  go_wp2
  go_ret2
  exact ⟨rfl, rfl⟩
theorem rat_none (w : World) (b : Nat) (L : Nat → Int) (h : IB w b 50 25 L) (n : Nat) (hn : n < 25) (hL : L n = -1) : Calls Try.prog 20 #[.pointer (some ⟨b, 0, none⟩), .int .i64 n] w fun e w' => e = .returned (.tuple #[.int .i64 0, .int .i64 11]) ∧ w' = w := by
  obtain ⟨c, -⟩ := h.cell n hn
  rw [hL] at c
  have h1 : ¬ 24 < (n : Int) := by omega
  have h0 : ¬ (n : Int) < 0 := by omega
  have h2 : (n : Int) < 25 := by omega
  clear h hn hL
  go_enter Try.func20, Try.ntmps20
  go_wp2
  go_ret2
  exact ⟨rfl, rfl⟩
theorem rat_arg (w : World) (b : Nat) (n : Int) (hn : n < 0 ∨ 25 ≤ n) : Calls Try.prog 20 #[.pointer (some ⟨b, 0, none⟩), .int .i64 n] w fun e w' => e = .returned (.tuple #[.int .i64 0, .int .i64 1]) ∧ w' = w := by
  by_cases h0 : n < 0
  · clear hn
    go_enter Try.func20, Try.ntmps20
    go_wp2
    go_ret2
    exact ⟨rfl, rfl⟩
  · have h1 : 24 < n := by omega
    clear hn
    go_enter Try.func20, Try.ntmps20
    go_wp2
    go_ret2
    exact ⟨rfl, rfl⟩
theorem rdrop_yes (w : World) (b : Nat) (L : Nat → Int) (h : IB w b 50 25 L) (n : Nat) (hn : n < 25) (hL : 0 ≤ L n) : Calls Try.prog 19 #[.pointer (some ⟨b, 0, none⟩), .int .i64 n] w fun e w' => e = .returned (.int .i64 0) ∧ IB w' b 50 25 (upd L n (-1)) ∧ Chg (· = b) w w' := by
  obtain ⟨c, f⟩ := h.cell n hn
  have h1 : ¬ 24 < (n : Int) := by omega
  have h0 : ¬ (n : Int) < 0 := by omega
  have h2 : (n : Int) < 25 := by omega
  have h3 : ¬ L n < 0 := by omega
  have HK := hyd h
  clear h hn hL
  go_enter Try.func19, Try.ntmps19
  go_wp2
  go_ret
  exact ⟨rfl, HK.out.set n (-1), (Chg.refl (· = b) _).setCell (Or.inl rfl) _ _⟩
theorem rdrop_none (w : World) (b : Nat) (L : Nat → Int) (h : IB w b 50 25 L) (n : Nat) (hn : n < 25) (hL : L n = -1) : Calls Try.prog 19 #[.pointer (some ⟨b, 0, none⟩), .int .i64 n] w fun e w' => e = .returned (.int .i64 11) ∧ w' = w := by
  obtain ⟨c, -⟩ := h.cell n hn
  rw [hL] at c
  have h1 : ¬ 24 < (n : Int) := by omega
  have h0 : ¬ (n : Int) < 0 := by omega
  have h2 : (n : Int) < 25 := by omega
  clear h hn hL
  go_enter Try.func19, Try.ntmps19
  go_wp2
  go_ret
  exact ⟨rfl, rfl⟩
theorem rdrop_arg (w : World) (b : Nat) (n : Int) (hn : n < 0 ∨ 25 ≤ n) : Calls Try.prog 19 #[.pointer (some ⟨b, 0, none⟩), .int .i64 n] w fun e w' => e = .returned (.int .i64 1) ∧ w' = w := by
  by_cases h0 : n < 0
  · clear hn
    go_enter Try.func19, Try.ntmps19
    go_wp2
    go_ret
    exact ⟨rfl, rfl⟩
  · have h1 : 24 < n := by omega
    clear hn
    go_enter Try.func19, Try.ntmps19
    go_wp2
    go_ret
    exact ⟨rfl, rfl⟩
theorem rowner_yes (w : World) (b : Nat) (L : Nat → Int) (h : IB w b 50 25 L) (q : Int) (hq : 0 ≤ q ∧ q < 96) (hL : own L q ≠ -1) : Calls Try.prog 21 #[.pointer (some ⟨b, 0, none⟩), .int .i64 q] w fun e w' => e = .returned (.tuple #[.int .i64 (own L q), .int .i64 0]) ∧ w' = w := by
  have ho := rown_any w b L h q
  have hi := is_yes w q hq
  have h3 : ¬ own L q < 0 := by have := own_lo L q; omega
  clear h hq hL
  go_enter Try.func21, Try.ntmps21
  go_wp2_with (first | (go_at_call 31; refine ho.mono ?_; rintro e w1 ⟨rfl, rfl⟩) | (go_at_call 32; refine hi.mono ?_; rintro e w1 ⟨rfl, rfl⟩))
  go_ret2
  exact ⟨rfl, rfl⟩
theorem rowner_none (w : World) (b : Nat) (L : Nat → Int) (h : IB w b 50 25 L) (q : Int) (hq : 0 ≤ q ∧ q < 96) (hL : own L q = -1) : Calls Try.prog 21 #[.pointer (some ⟨b, 0, none⟩), .int .i64 q] w fun e w' => e = .returned (.tuple #[.int .i64 0, .int .i64 11]) ∧ w' = w := by
  have ho := rown_any w b L h q
  have hi := is_yes w q hq
  rw [hL] at ho
  clear h hq hL
  go_enter Try.func21, Try.ntmps21
  go_wp2_with (first | (go_at_call 31; refine ho.mono ?_; rintro e w1 ⟨rfl, rfl⟩) | (go_at_call 32; refine hi.mono ?_; rintro e w1 ⟨rfl, rfl⟩))
  go_ret2
  exact ⟨rfl, rfl⟩
theorem rowner_arg (w : World) (b : Nat) (q : Int) (hq : q < 0 ∨ 96 ≤ q) : Calls Try.prog 21 #[.pointer (some ⟨b, 0, none⟩), .int .i64 q] w fun e w' => e = .returned (.tuple #[.int .i64 0, .int .i64 1]) ∧ w' = w := by
  have hi := is_no w q hq
  clear hq
  go_enter Try.func21, Try.ntmps21
  go_wp2_with (go_at_call 32; refine hi.mono ?_; rintro e w1 ⟨rfl, rfl⟩)
  go_ret2
  exact ⟨rfl, rfl⟩
theorem rset_arg (w : World) (b : Nat) (n q : Int) (hn : ¬ May n q) : Calls Try.prog 18 #[.pointer (some ⟨b, 0, none⟩), .int .i64 n, .int .i64 q] w fun e w' => e = .returned (.int .i64 1) ∧ w' = w := by
  by_cases h1 : (q < 0 ∨ 96 ≤ q) ∨ (n < 0 ∨ 25 ≤ n)
  · have hh := rholds_out w q n h1
    clear hn h1
    go_enter Try.func18, Try.ntmps18
    go_wp2_with (go_at_call 30; refine hh.mono ?_; rintro e w1 ⟨rfl, rfl⟩)
    go_ret
    exact ⟨rfl, rfl⟩
  · have hh := rholds_in w q n (by omega) (by omega)
    rw [show decide (n = 24 ∨ q % 8 < 6) = false from decide_eq_false (fun h => hn ⟨by omega, by omega, h⟩)] at hh
    clear hn h1
    go_enter Try.func18, Try.ntmps18
    go_wp2_with (go_at_call 30; refine hh.mono ?_; rintro e w1 ⟨rfl, rfl⟩)
    go_ret
    exact ⟨rfl, rfl⟩
theorem rset_state (w : World) (b : Nat) (L : Nat → Int) (h : IB w b 50 25 L) (n q : Int) (hn : May n q) (ho : own L q ≠ -1 ∧ own L q ≠ n) : Calls Try.prog 18 #[.pointer (some ⟨b, 0, none⟩), .int .i64 n, .int .i64 q] w fun e w' => e = .returned (.int .i64 12) ∧ w' = w := by
  have hw := rown_any w b L h q
  have hh := rholds_in w q n hn.1 hn.2.1
  rw [show decide (n = 24 ∨ q % 8 < 6) = true from decide_eq_true hn.2.2] at hh
  have hb0 : own L q ≥ 0 := by have := own_lo L q; have := ho.1; omega
  have hb2 : (own L q != n) = true := by simp [ho.2]
  clear h hn ho
  go_enter Try.func18, Try.ntmps18
  go_wp2_with (first | (go_at_call 31; refine hw.mono ?_; rintro e w1 ⟨rfl, rfl⟩) | (go_at_call 30; refine hh.mono ?_; rintro e w1 ⟨rfl, rfl⟩))
  go_ret
  exact ⟨rfl, rfl⟩
theorem rset_yes (w : World) (b : Nat) (L : Nat → Int) (h : IB w b 50 25 L) (n m : Nat) (hn : May n m) (ho : own L m = -1 ∨ own L m = n) : Calls Try.prog 18 #[.pointer (some ⟨b, 0, none⟩), .int .i64 n, .int .i64 m] w fun e w' => e = .returned (.int .i64 0) ∧ IB w' b 50 25 (upd L n m) ∧ Chg (· = b) w w' := by
  have hw := rown_any w b L h m
  have hh := rholds_in w m n hn.1 hn.2.1
  rw [show decide ((n : Int) = 24 ∨ (m : Int) % 8 < 6) = true from decide_eq_true hn.2.2] at hh
  have h25 : (n : Int) < 25 := hn.2.1.2
  obtain ⟨c, f⟩ := h.cell n (by omega)
  have HK := hyd h
  rcases ho with ho | ho
  · rw [ho] at hw
    clear h hn ho
    go_enter Try.func18, Try.ntmps18
    go_wp2_with (first | (go_at_call 31; refine hw.mono ?_; rintro e w1 ⟨rfl, rfl⟩) | (go_at_call 30; refine hh.mono ?_; rintro e w1 ⟨rfl, rfl⟩))
    go_ret
    exact ⟨rfl, HK.out.set n m, (Chg.refl (· = b) _).setCell (Or.inl rfl) _ _⟩
  · rw [ho] at hw
    have hnn : ((n : Int) == (n : Int)) = true := by simp
    clear h hn ho
    go_enter Try.func18, Try.ntmps18
    go_wp2_with (first | (go_at_call 31; refine hw.mono ?_; rintro e w1 ⟨rfl, rfl⟩) | (go_at_call 30; refine hh.mono ?_; rintro e w1 ⟨rfl, rfl⟩))
    go_ret
    exact ⟨rfl, HK.out.set n m, (Chg.refl (· = b) _).setCell (Or.inl rfl) _ _⟩
theorem rof_arg (w : World) (b : Nat) (n : Int) (hn : n < 0 ∨ 12 ≤ n) : Calls Try.prog 22 #[.pointer (some ⟨b, 0, none⟩), .int .i64 n] w fun e w' => e = .returned (.tuple #[.slice none 0 0, .int .i64 1]) ∧ w' = w := by
  by_cases h0 : n < 0
  · clear hn
    go_enter Try.func22, Try.ntmps22
    go_wp2
    go_ret2
    exact ⟨rfl, rfl⟩
  · have h1 : 11 < n := by omega
    clear hn
    go_enter Try.func22, Try.ntmps22
    go_wp2
    go_ret2
    exact ⟨rfl, rfl⟩
set_option maxHeartbeats 2000000 in
theorem rof_yes (w : World) (b : Nat) (L : Nat → Int) (h : IB w b 50 25 L) (k : Nat) (hk : k < 12) : Calls Try.prog 22 #[.pointer (some ⟨b, 0, none⟩), .int .i64 k] w fun e w' => (∃ a cap, e = .returned (.tuple #[.slice a (ofL L k).length cap, .int .i64 0]) ∧ Ow w' w.heap.size (.slice a (ofL L k).length cap) (ofL L k)) ∧ Chg (fun _ => False) w w' := by
  have HK := hyd h
  have h0 : ¬ (k : Int) < 0 := by omega
  have h1 : ¬ 11 < (k : Int) := by omega
  have h2 : (k : Int) < 12 := by omega
  clear h
  go_enter Try.func22, Try.ntmps22
  go_wp2_with fail
  go_loopg [6, 7] 8 (fun kx s6 s7 wr => ∃ i : Nat, s7 = .int .i64 (8 * (k : Int) + i) ∧ i ≤ 8 ∧ 8 - i ≤ kx ∧ Hid (Ow wr w.heap.size s6 (ofK L k i)) ∧ Hid (Chg (fun _ => False) w wr))
  case atStart => exact ⟨0, by simp, by omega, by omega, Ow.nil _ _, Chg.refl _ _⟩
  case round =>
  obtain ⟨i, rfl, hin, hkx, HO, HG⟩ := hrel
  by_cases hlt : i < 8
  · have hltz : (i : Int) < 8 := by omega
    have hltz2 : 8 * (k : Int) + i < 8 * (k : Int) + 8 := by omega
    have hw := rown_any wr b L (HK.out.chg HG.out (fun f => f)) (8 * (k : Int) + i)
    have HE : Hid (ofK L k (i + 1) = ofK L k i ++ if own L ((8 * k + i : Nat) : Int) = -1 then [] else [own L ((8 * k + i : Nat) : Int)]) := rfl
    rw [show ((8 * k + i : Nat) : Int) = 8 * (k : Int) + i by omega] at HE
    have hlo := own_lo L (8 * (k : Int) + i)
    generalize own L (8 * (k : Int) + i) = z at *
    by_cases hz : z = -1
    · subst hz
      rw [if_pos rfl, List.append_nil] at HE
      clear hlo
      go_wp2_with (go_at_call 31; refine hw.mono ?_; rintro e w1 ⟨rfl, rfl⟩)
      go_roundg (8 - (i + 1))
      case measure => omega
      case rel => exact ⟨i + 1, by simp [Int.add_assoc], by omega, Nat.le_refl _, by show Ow _ _ _ _; rw [HE.out]; exact HO.out, HG⟩
    · rw [if_neg hz] at HE
      have hzb : z ≥ 0 := by omega
      have hlen := ofK_length L k i
      have HO1 := hyd (HO.out.new ((Chg.refl (fun _ => False) wr).alloc (.cells #[.int .i64 z] 3)))
      have HB1 : Hid (w.heap.size ≤ (wr.alloc (.cells #[.int .i64 z] 3)).heap.size) := by have := HG.out.size; show _ ≤ _; simp; omega
      have HC1 : Hid ((wr.alloc (.cells #[.int .i64 z] 3)).cell? ⟨wr.heap.size, 0, none⟩ = some (.int .i64 z)) := by show _ = _; simp
      have HG1 := hyd (HG.out.alloc (.cells #[.int .i64 z] 3))
      clear hlo hz
      go_wp2_with (first | (go_at_call 31; refine hw.mono ?_; rintro e w1 ⟨rfl, rfl⟩) | (refine wpList_append_i _ rfl (.tmp 29) (.tmp 31) rfl w.heap.size _ (ofK L k i) rfl w1.heap.size z rfl ?_ ?_ (by omega) ?_ ?_; exact HO1.out; exact HC1.out; exact HB1.out))
      intro v' w2 O2 G2
      have HO2 := hyd O2
      have HG2 : Hid (Chg (fun _ => False) w w2) := HG1.out.trans' G2 fun j hj e => by have := HO.out.block e; omega
      clear O2 G2 HO1 HB1 HC1 HG1
      go_wp2
      go_roundg (8 - (i + 1))
      case measure => omega
      case rel => exact ⟨i + 1, by simp [Int.add_assoc], by omega, Nat.le_refl _, by show Ow _ _ _ _; rw [HE.out]; exact HO2.out, HG2⟩
  · have hltz : ¬ 8 * (k : Int) + i < 8 * (k : Int) + 8 := by omega
    have h8 : i = 8 := by omega
    subst h8
    obtain ⟨a, cap, hv⟩ := HO.out.form
    subst hv
    have HO2 : Hid (Ow wr w.heap.size (.slice a (ofL L k).length cap) (ofL L k)) := HO.out
    clear HO hlt hin
    go_wp2
    go_ret2
    exact ⟨⟨a, cap, rfl, HO2.out⟩, HG.out⟩
theorem cell_far (w : World) (g i j : Nat) (v : Value) (h : j ≠ i) : (w.setCell ⟨g, i, none⟩ v).cell? ⟨g, j, none⟩ = w.cell? ⟨g, j, none⟩ :=
  World.cell?_setCell_other _ _ _ _ (by intro e; exact h (congrArg Addr.off e).symm)
theorem frozen_set (w : World) (g i j : Nat) (v : Value) : (w.setCell ⟨g, i, none⟩ v).frozen? ⟨g, j, none⟩ = w.frozen? ⟨g, j, none⟩ := by
  simp
set_option maxHeartbeats 2000000 in
theorem same_any (w : World) (b1 b2 : Nat) (a1 a2 : Option Addr) (n c1 c2 : Nat) (l : List Int) (hn : n = l.length) (hn8 : n < 100) (h1 : Ow w b1 (.slice a1 n c1) l) (h2 : Ow w b2 (.slice a2 n c2) l) (hne : ∀ k, (Value.slice a1 n c1).ownBlock = some k → (Value.slice a2 n c2).ownBlock = some k → False) :
    Calls Try.prog 23 #[.slice a1 n c1, .slice a2 n c2] w fun e w' => e = .returned (.bool true) ∧ Chg (fun k => (Value.slice a1 n c1).ownBlock = some k) w w' := by
  by_cases h0 : n = 0
  · subst h0
    clear hn h1 h2 hne
    go_enter Try.func23, Try.ntmps23
    go_wp2_with fail
    go_loopg [5] 1 (fun kx s5 wr => s5 = .int .i64 0 ∧ wr = w)
    case atStart => exact ⟨rfl, rfl⟩
    case round =>
    obtain ⟨rfl, rfl⟩ := hrel
    go_wp2
    go_ret
    exact ⟨rfl, Chg.refl _ _⟩
  · obtain ⟨g1, k1, e1, _, l1, x1, z1⟩ := h1.lies (by omega)
    obtain ⟨g2, k2, e2, _, l2, x2, z2⟩ := h2.lies (by omega)
    simp only [Value.slice.injEq] at e1 e2
    obtain ⟨rfl, -, -⟩ := e1
    obtain ⟨rfl, -, -⟩ := e2
    have hg : g1 ≠ g2 := fun e => hne g1 rfl (by rw [e]; rfl)
    have HX1 : Hid (∀ i, i < n → w.cell? ⟨g1, i, none⟩ = some (.int .i64 (l.getD i 0))) := by rw [hn]; exact x1
    have HX2 : Hid (∀ i, i < n → w.cell? ⟨g2, i, none⟩ = some (.int .i64 (l.getD i 0))) := by rw [hn]; exact x2
    have HZ1 := hyd z1
    have HL1 := hyd l1
    have HL2 := hyd l2
    clear hn h1 h2 hne x1 x2 z1 z2 l1 l2 h0
    go_enter Try.func23, Try.ntmps23
    go_wp2_with fail
    go_loopg [5] n (fun kx s5 wr => ∃ i : Nat, s5 = .int .i64 i ∧ i ≤ n ∧ n - i ≤ kx ∧ Hid (∀ j, i ≤ j → j < n → wr.cell? ⟨g1, j, none⟩ = some (.int .i64 (l.getD j 0))) ∧ Hid (∀ j, wr.frozen? ⟨g1, j, none⟩ = false) ∧ Hid (Chg (· = g1) w wr))
    case atStart => exact ⟨0, rfl, by omega, by omega, fun j _ hj => HX1.out j hj, HZ1, Chg.refl _ _⟩
    case round =>
    obtain ⟨i, rfl, hin, hkx, HC, HZ, HG⟩ := hrel
    by_cases hlt : i < n
    · have hltz : (i : Int) < (n : Int) := by omega
      have d1 := HC.out i (Nat.le_refl _) hlt
      have d2 := (HG.out.cell HL2.out (Ne.symm hg) i).trans (HX2.out i hlt)
      have f1 := HZ.out i
      have hn8z : (n : Int) < 100 := by omega
      generalize l.getD i 0 = z at *
      have heq : (z == z) = true := by simp
      go_wp2
      go_region
      go_wp2
      go_roundg (n - (i + 1))
      case measure => omega
      case rel =>
        refine ⟨i + 1, by simp, by omega, Nat.le_refl _, ?_, ?_, ?_⟩
        · intro j hj hjn
          show (World.setCell _ _ _).cell? _ = _
          rw [cell_far _ _ _ _ _ (by omega)]
          exact HC.out j (by omega) hjn
        · intro j
          show (World.setCell _ _ _).frozen? _ = _
          rw [frozen_set]
          exact HZ.out j
        · exact HG.out.drew.setCell (Or.inl rfl) _ _
    · have hltz : ¬ (i : Int) < (n : Int) := by omega
      go_wp2
      go_ret
      exact ⟨rfl, HG.out.mono fun k _ e => by rw [e]; rfl⟩
end Go.Proofs.Ytkddcnbljooidaa
