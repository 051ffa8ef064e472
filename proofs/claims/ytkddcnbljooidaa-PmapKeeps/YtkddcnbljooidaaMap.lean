/-
  What pmap's New, told, lift, At, Owner, Drop and Set answer. No condition: lemmas.
-/
import Derived.Test.YtkddcnbljooidaaOwn
import Derived.Test.YtkddcnbljooidaaGeom
import Derived.Test.YtkddcnbljooidaaPick
namespace Go.Proofs.Ytkddcnbljooidaa
set_option maxRecDepth 100000
open Go.RowKit

/-- Block b is a map of the program's in which the numbers lie as L says. -/
def Mp (w : World) (b : Nat) (L : Nat → Int) : Prop := IB w b 48 121 (stF L)
section
variable {w w' : World} {b : Nat} {L : Nat → Int}
theorem Mp.lt (h : Mp w b L) : b < w.heap.size := IB.lt h
theorem Mp.chg {S : Nat → Prop} (h : Mp w b L) (hc : Chg S w w') (hb : ¬ S b) : Mp w' b L := IB.chg h hc hb
theorem Mp.drew (h : Mp w b L) : Mp w.drew b L := h
theorem Mp.place (h : Mp w b L) {n : Nat} (hn : n < 25) : w.cell? ⟨b, n, none⟩ = some (.int .i64 (L n)) ∧ w.frozen? ⟨b, n, none⟩ = false := by
  have := IB.cell h n (by omega)
  rwa [stF_lo _ hn] at this
theorem Mp.owner (h : Mp w b L) {q : Nat} (hq : q < 96) : w.cell? ⟨b, 25 + q, none⟩ = some (.int .i64 (own L q)) ∧ w.frozen? ⟨b, 25 + q, none⟩ = false := by
  have := IB.cell h (25 + q) (by omega)
  rwa [stF_hi] at this
end
set_option maxHeartbeats 1000000 in
theorem new_any (w : World) : Calls Try.prog 6 #[] w fun e w' => e = .returned (.pointer (some ⟨w.heap.size, 0, none⟩)) ∧ Mp w' w.heap.size (fun _ => -1) ∧ Chg (fun _ => False) w w' := by
  go_enter Try.func6, Try.ntmps6
  go_wp2_with (refine wpList_alloc_row rfl 48 rfl w.heap.size rfl zero48 ?_)
  intro w1 K1 G1 S1
  have HK1 := hyd (show IB w1 w.heap.size 48 121 (fun _ => 0) from K1)
  have HG1 := hyd G1
  clear K1 G1 S1
  generalize HB : w.heap.size = b at *
  have HB := hyd HB
  go_wp2_with fail
  go_loopg [5] 25 (fun kx s5 wr => ∃ i : Nat, s5 = .int .i64 i ∧ i ≤ 25 ∧ 25 - i ≤ kx ∧ Hid (IB wr b 48 121 (fun j => if j < i then -1 else 0)) ∧ Hid (Chg (fun _ => False) w wr))
  case atStart => exact ⟨0, rfl, by omega, by omega, HK1, HG1⟩
  case round =>
  obtain ⟨i, rfl, hin, hkx, HK, HG⟩ := hrel
  clear HK1 HG1
  by_cases hlt : i < 25
  · have hltz : (i : Int) < 25 := by omega
    obtain ⟨c, f⟩ := HK.out.cell i (by omega)
    go_wp2
    go_roundg (25 - (i + 1))
    case measure => omega
    case rel =>
      refine ⟨i + 1, by simp, by omega, Nat.le_refl _, ?_, ?_⟩
      · refine (HK.out.set i (-1)).congr fun j _ => ?_
        simp only [upd]
        repeat' split
        all_goals first | rfl | omega
      · exact HG.out.setCell (Or.inr (by rw [HB.out]; exact Nat.le_refl _)) _ _
  · have hltz : ¬ (i : Int) < 25 := by omega
    have h25 : i = 25 := by omega
    subst h25
    clear hlt hin hkx
    go_wp2_with fail
    go_loopg [14] 96 (fun kx s14 wx => ∃ i : Nat, s14 = .int .i64 i ∧ i ≤ 96 ∧ 96 - i ≤ kx ∧ Hid (IB wx b 48 121 (fun j => if j < 25 + i then -1 else 0)) ∧ Hid (Chg (fun _ => False) w wx))
    case atStart => exact ⟨0, rfl, by omega, by omega, HK, HG⟩
    case round =>
    clear HK HG
    obtain ⟨i, rfl, hin, hkx, HK, HG⟩ := hrel
    by_cases hlt : i < 96
    · have hltz : (i : Int) < 96 := by omega
      obtain ⟨c, f⟩ := HK.out.cell (25 + i) (by omega)
      go_wp2
      go_roundg (96 - (i + 1))
      case measure => omega
      case rel =>
        refine ⟨i + 1, by simp, by omega, Nat.le_refl _, ?_, ?_⟩
        · refine (HK.out.set (25 + i) (-1)).congr fun j _ => ?_
          simp only [upd]
          repeat' split
          all_goals first | rfl | omega
        · exact HG.out.setCell (Or.inr (by rw [HB.out]; exact Nat.le_refl _)) _ _
    · have hltz : ¬ (i : Int) < 96 := by omega
      have h96 : i = 96 := by omega
      subst h96
      go_wp2
      go_ret
      exact ⟨rfl, HK.out.congr fun j hj => by rw [stF_none, if_pos (by omega)], HG.out⟩
theorem told_yes (w : World) (n : Int) (hn : n ≠ -1) : Calls Try.prog 26 #[.int .i64 n] w fun e w' => e = .returned (.tuple #[.int .i64 n, .nilIface]) ∧ w' = w := by
  have hb : (n == -1) = false := by simp [hn]
  clear hn
  go_enter Try.func26, Try.ntmps26
  go_wp2
  go_ret2
  exact ⟨rfl, rfl⟩
theorem told_no (w : World) : Calls Try.prog 26 #[.int .i64 (-1)] w fun e w' => e = .returned (.tuple #[.int .i64 0, .iface 40 (.int .i64 11)]) ∧ w' = w := by
  go_enter Try.func26, Try.ntmps26
  go_wp2
  go_ret2
  exact ⟨rfl, rfl⟩
theorem at_yes (w : World) (b : Nat) (L : Nat → Int) (h : Mp w b L) (n : Nat) (hn : n < 25) (hL : L n ≠ -1) : Calls Try.prog 13 #[.pointer (some ⟨b, 0, none⟩), .int .i64 n] w fun e w' => e = .returned (.tuple #[.int .i64 (L n), .nilIface]) ∧ w' = w := by
  obtain ⟨c, -⟩ := h.place hn
  have h1 : ¬ (n : Int) ≥ 25 := by omega
  have h0 : ¬ (n : Int) < 0 := by omega
  have h2 : (n : Int) < 25 := by omega
  have ht := told_yes w (L n) hL
  clear h hn hL
  go_enter Try.func13, Try.ntmps13
  go_wp2_with (go_at_call 26; refine ht.mono ?_; rintro e w1 ⟨rfl, rfl⟩)
  go_ret2
  exact ⟨rfl, rfl⟩
theorem at_none (w : World) (b : Nat) (L : Nat → Int) (h : Mp w b L) (n : Nat) (hn : n < 25) (hL : L n = -1) : Calls Try.prog 13 #[.pointer (some ⟨b, 0, none⟩), .int .i64 n] w fun e w' => e = .returned (.tuple #[.int .i64 0, .iface 40 (.int .i64 11)]) ∧ w' = w := by
  obtain ⟨c, -⟩ := h.place hn
  rw [hL] at c
  have h1 : ¬ (n : Int) ≥ 25 := by omega
  have h0 : ¬ (n : Int) < 0 := by omega
  have h2 : (n : Int) < 25 := by omega
  clear h hn hL
  go_enter Try.func13, Try.ntmps13
  go_wp2_with (go_at_call 26; refine (told_no _).mono ?_; rintro e w1 ⟨rfl, rfl⟩)
  go_ret2
  exact ⟨rfl, rfl⟩
theorem at_arg (w : World) (b : Nat) (n : Int) (hn : n < 0 ∨ 25 ≤ n) : Calls Try.prog 13 #[.pointer (some ⟨b, 0, none⟩), .int .i64 n] w fun e w' => e = .returned (.tuple #[.int .i64 0, .iface 40 (.int .i64 1)]) ∧ w' = w := by
  by_cases h0 : n < 0
  · clear hn
    go_enter Try.func13, Try.ntmps13
    go_wp2
    go_ret2
    exact ⟨rfl, rfl⟩
  · have h1 : n ≥ 25 := by omega
    clear hn
    go_enter Try.func13, Try.ntmps13
    go_wp2
    go_ret2
    exact ⟨rfl, rfl⟩
theorem owner_yes (w : World) (b : Nat) (L : Nat → Int) (h : Mp w b L) (n : Nat) (hn : n < 96) (hL : own L n ≠ -1) : Calls Try.prog 14 #[.pointer (some ⟨b, 0, none⟩), .int .i64 n] w fun e w' => e = .returned (.tuple #[.int .i64 (own L n), .nilIface]) ∧ w' = w := by
  obtain ⟨c, -⟩ := h.owner hn
  have h1 : ¬ (n : Int) ≥ 96 := by omega
  have h0 : ¬ (n : Int) < 0 := by omega
  have h2 : (n : Int) < 96 := by omega
  have ht := told_yes w (own L n) hL
  clear h hn hL
  go_enter Try.func14, Try.ntmps14
  go_wp2_with (go_at_call 26; refine ht.mono ?_; rintro e w1 ⟨rfl, rfl⟩)
  go_ret2
  exact ⟨rfl, rfl⟩
theorem owner_none (w : World) (b : Nat) (L : Nat → Int) (h : Mp w b L) (n : Nat) (hn : n < 96) (hL : own L n = -1) : Calls Try.prog 14 #[.pointer (some ⟨b, 0, none⟩), .int .i64 n] w fun e w' => e = .returned (.tuple #[.int .i64 0, .iface 40 (.int .i64 11)]) ∧ w' = w := by
  obtain ⟨c, -⟩ := h.owner hn
  rw [hL] at c
  have h1 : ¬ (n : Int) ≥ 96 := by omega
  have h0 : ¬ (n : Int) < 0 := by omega
  have h2 : (n : Int) < 96 := by omega
  clear h hn hL
  go_enter Try.func14, Try.ntmps14
  go_wp2_with (go_at_call 26; refine (told_no _).mono ?_; rintro e w1 ⟨rfl, rfl⟩)
  go_ret2
  exact ⟨rfl, rfl⟩
theorem owner_arg (w : World) (b : Nat) (n : Int) (hn : n < 0 ∨ 96 ≤ n) : Calls Try.prog 14 #[.pointer (some ⟨b, 0, none⟩), .int .i64 n] w fun e w' => e = .returned (.tuple #[.int .i64 0, .iface 40 (.int .i64 1)]) ∧ w' = w := by
  by_cases h0 : n < 0
  · clear hn
    go_enter Try.func14, Try.ntmps14
    go_wp2
    go_ret2
    exact ⟨rfl, rfl⟩
  · have h1 : n ≥ 96 := by omega
    clear hn
    go_enter Try.func14, Try.ntmps14
    go_wp2
    go_ret2
    exact ⟨rfl, rfl⟩
theorem lift_any (w : World) (b : Nat) (L : Nat → Int) (h : Mp w b L) (ok : Okl L) (n : Nat) (hn : n < 25) : Calls Try.prog 24 #[.pointer (some ⟨b, 0, none⟩), .int .i64 n] w fun e w' => e = .returned (.tuple #[]) ∧ Mp w' b (upd L n (-1)) ∧ Chg (· = b) w w' := by
  obtain ⟨c, f⟩ := h.place hn
  have h2 : (n : Int) < 25 := by omega
  have HK := hyd h
  have HO := hyd ok
  rcases ok.rng n hn with e | ⟨e0, e1⟩
  · rw [e] at c
    have HE := hyd e
    clear h ok e
    go_enter Try.func24, Try.ntmps24
    go_wp2
    go_end0
    refine ⟨rfl, ?_, (Chg.refl (· = b) _).setCell (Or.inl rfl) _ _⟩
    unfold Mp
    rw [← stF_clear0 hn HE.out]
    exact IB.set HK.out n (-1)
  · obtain ⟨m, hm⟩ : ∃ m : Nat, L n = m := ⟨(L n).toNat, by omega⟩
    rw [hm] at c
    have hm96 : (m : Int) < 96 := by omega
    have hm96' : m < 96 := by omega
    have hmb : ((m : Int) == -1) = false := by simp only [beq_eq_false_iff_ne]; omega
    obtain ⟨c2, f2⟩ := h.owner hm96'
    have HE := hyd hm
    have HK1 := hyd (IB.set h (25 + m) (-1))
    obtain ⟨c3, f3⟩ := HK1.out.cell n (by omega)
    clear h ok e0 e1 hm
    go_enter Try.func24, Try.ntmps24
    go_wp2
    go_end0
    refine ⟨rfl, ?_, ((Chg.refl (· = b) _).setCell (Or.inl rfl) _ _).setCell (Or.inl rfl) _ _⟩
    exact (IB.set HK1.out n (-1)).congr fun k _ => stF_clear HO.out hn HE.out k
theorem drop_arg (w : World) (b : Nat) (n : Int) (hn : n < 0 ∨ 25 ≤ n) : Calls Try.prog 11 #[.pointer (some ⟨b, 0, none⟩), .int .i64 n] w fun e w' => e = .returned (.iface 40 (.int .i64 1)) ∧ w' = w := by
  have q := neq_c_nil
  go_enter Try.func11, Try.ntmps11
  go_wp2_with (go_at_call 13; refine (at_arg _ b n hn).mono ?_; rintro e w1 ⟨rfl, rfl⟩)
  go_ret
  exact ⟨rfl, rfl⟩
theorem drop_none (w : World) (b : Nat) (L : Nat → Int) (h : Mp w b L) (n : Nat) (hn : n < 25) (hL : L n = -1) : Calls Try.prog 11 #[.pointer (some ⟨b, 0, none⟩), .int .i64 n] w fun e w' => e = .returned (.iface 40 (.int .i64 11)) ∧ w' = w := by
  have q := neq_c_nil
  have ha := at_none w b L h n hn hL
  clear h hn hL
  go_enter Try.func11, Try.ntmps11
  go_wp2_with (go_at_call 13; refine ha.mono ?_; rintro e w1 ⟨rfl, rfl⟩)
  go_ret
  exact ⟨rfl, rfl⟩
theorem drop_yes (w : World) (b : Nat) (L : Nat → Int) (h : Mp w b L) (ok : Okl L) (n : Nat) (hn : n < 25) (hL : L n ≠ -1) : Calls Try.prog 11 #[.pointer (some ⟨b, 0, none⟩), .int .i64 n] w fun e w' => e = .returned .nilIface ∧ Mp w' b (upd L n (-1)) ∧ Chg (· = b) w w' := by
  have q := neq_nil
  have ha := at_yes w b L h n hn hL
  have hl := lift_any w b L h ok n hn
  clear h hn hL ok
  go_enter Try.func11, Try.ntmps11
  go_wp2_with (first | (go_at_call 13; refine ha.mono ?_; rintro e w1 ⟨rfl, rfl⟩) | (go_at_call 24; refine hl.mono ?_; rintro e w2 ⟨rfl, K2, G2⟩; have HK := hyd K2; have HG := hyd G2; clear K2 G2))
  go_ret
  exact ⟨rfl, HK.out, HG.out⟩
/-- May the number n lie at q? -/
abbrev May (n q : Int) : Prop := (0 ≤ q ∧ q < 96) ∧ (0 ≤ n ∧ n < 25) ∧ (n = 24 ∨ q % 8 < 6)
theorem set_arg (w : World) (b : Nat) (n q : Int) (hn : ¬ May n q) : Calls Try.prog 12 #[.pointer (some ⟨b, 0, none⟩), .int .i64 n, .int .i64 q] w fun e w' => e = .returned (.iface 40 (.int .i64 1)) ∧ w' = w := by
  have q1 := neq_c_nil
  have q2 := neq_nil
  by_cases h1 : (q < 0 ∨ 96 ≤ q) ∨ (n < 0 ∨ 25 ≤ n)
  · have hh := holds_out w q n h1
    clear hn h1
    go_enter Try.func12, Try.ntmps12
    go_wp2_with (go_at_call 25; refine hh.mono ?_; rintro e w1 ⟨rfl, rfl⟩)
    go_ret
    exact ⟨rfl, rfl⟩
  · have hh := holds_in w q n (by omega) (by omega)
    rw [show decide (n = 24 ∨ q % 8 < 6) = false from decide_eq_false (fun h => hn ⟨by omega, by omega, h⟩)] at hh
    clear hn h1
    go_enter Try.func12, Try.ntmps12
    go_wp2_with (go_at_call 25; refine hh.mono ?_; rintro e w1 ⟨rfl, rfl⟩)
    go_ret
    exact ⟨rfl, rfl⟩
theorem set_state (w : World) (b : Nat) (L : Nat → Int) (h : Mp w b L) (n m : Nat) (hn : May n m) (ho : own L m ≠ -1 ∧ own L m ≠ n) : Calls Try.prog 12 #[.pointer (some ⟨b, 0, none⟩), .int .i64 n, .int .i64 m] w fun e w' => e = .returned (.iface 40 (.int .i64 12)) ∧ w' = w := by
  have q2 := neq_nil
  obtain ⟨c, -⟩ := h.owner (q := m) (by have := hn.1; omega)
  have hh := holds_in w m n hn.1 hn.2.1
  rw [show decide ((n : Int) = 24 ∨ (m : Int) % 8 < 6) = true from decide_eq_true hn.2.2] at hh
  have h96 : (m : Int) < 96 := hn.1.2
  have hb0 := ho.1
  have hb1 : (own L m != -1) = true := by simp [ho.1]
  have hb2 : (own L m != (n : Int)) = true := by simp [ho.2]
  clear h hn ho
  go_enter Try.func12, Try.ntmps12
  go_wp2_with (go_at_call 25; refine hh.mono ?_; rintro e w1 ⟨rfl, rfl⟩)
  go_ret
  exact ⟨rfl, rfl⟩
theorem set_end {w w2 : World} {b : Nat} {L : Nat → Int} {n m : Nat} (K : Mp w2 b (upd L n (-1))) (G : Chg (· = b) w w2) (ok : Okl (upd L n (-1))) (hn : n < 25) (hm : m < 96) (may : n < 24 → m % 8 < 6) (ho : own (upd L n (-1)) m = -1) :
    Ending.returned .nilIface = Ending.returned .nilIface ∧ Mp ((w2.setCell ⟨b, n, none⟩ (.int .i64 m)).setCell ⟨b, 25 + m, none⟩ (.int .i64 n)).drew b (upd L n m) ∧ Chg (· = b) w ((w2.setCell ⟨b, n, none⟩ (.int .i64 m)).setCell ⟨b, 25 + m, none⟩ (.int .i64 n)).drew ∧ Okl (upd L n m) := by
  refine ⟨rfl, ?_, ((G.setCell (Or.inl rfl) _ _).setCell (Or.inl rfl) _ _).drew, ?_⟩
  · have h := (IB.set (IB.set K n m) (25 + m) n).congr fun k _ => stF_put ok hn hm may (upd_same _ _ _) ho k
    rw [upd_upd] at h
    exact h
  · have h := ok.put n (q := m) (by omega) (fun h => by have := may h; omega) ho
    rw [upd_upd] at h
    exact h
theorem set_yes (w : World) (b : Nat) (L : Nat → Int) (h : Mp w b L) (ok : Okl L) (n m : Nat) (hn : May n m) (ho : own L m = -1 ∨ own L m = n) : Calls Try.prog 12 #[.pointer (some ⟨b, 0, none⟩), .int .i64 n, .int .i64 m] w fun e w' => e = .returned .nilIface ∧ Mp w' b (upd L n m) ∧ Chg (· = b) w w' ∧ Okl (upd L n m) := by
  have q2 := neq_nil
  obtain ⟨c, -⟩ := h.owner (q := m) (by have := hn.1; omega)
  have hh := holds_in w m n hn.1 hn.2.1
  rw [show decide ((n : Int) = 24 ∨ (m : Int) % 8 < 6) = true from decide_eq_true hn.2.2] at hh
  have h96 : (m : Int) < 96 := hn.1.2
  have h25 : (n : Int) < 25 := hn.2.1.2
  have h25' : n < 25 := by omega
  have h96' : m < 96 := by omega
  have hl := lift_any w b L h ok n h25'
  have HM := hyd hn.2.2
  have hoc : own (upd L n (-1)) m = -1 := by
    rw [own_clear ok h25' (by omega)]
    by_cases e : (m : Int) = L n
    · rw [if_pos e]
    · rw [if_neg e]
      rcases ho with ho | ho
      · exact ho
      · rcases own_spec L m with ⟨i, h1, h2, h3, _⟩ | ⟨h1, h2⟩
        · have e1 : i = n := by omega
          subst e1
          exact absurd h3.symm e
        · exact h1
  have HC := hyd hoc
  have HOK := hyd (ok.clear n)
  have may' : n < 24 → m % 8 < 6 := fun h => by have := HM.out; omega
  have HMY := hyd may'
  rcases ho with ho | ho
  · rw [ho] at c
    clear h hn ho ok hoc may' HM
    go_enter Try.func12, Try.ntmps12
    go_wp2_with (first | (go_at_call 25; refine hh.mono ?_; rintro e w1 ⟨rfl, rfl⟩) | (go_at_call 24; refine hl.mono ?_; rintro e w2 ⟨rfl, K2, G2⟩; have HK := hyd K2; have HG := hyd G2; obtain ⟨d1, f1⟩ := K2.place h25'; obtain ⟨d2, f2⟩ := K2.owner h96'; clear K2 G2))
    go_region
    go_wp2
    go_ret
    exact set_end HK.out HG.out HOK.out h25' h96' HMY.out HC.out
  · rw [ho] at c
    have hnb : ((n : Int) != -1) = true := by simp only [bne_iff_ne, ne_eq]; omega
    have hnn : ((n : Int) == (n : Int)) = true := by simp
    clear h hn ho ok hoc may' HM
    go_enter Try.func12, Try.ntmps12
    go_wp2_with (first | (go_at_call 25; refine hh.mono ?_; rintro e w1 ⟨rfl, rfl⟩) | (go_at_call 24; refine hl.mono ?_; rintro e w2 ⟨rfl, K2, G2⟩; have HK := hyd K2; have HG := hyd G2; obtain ⟨d1, f1⟩ := K2.place h25'; obtain ⟨d2, f2⟩ := K2.owner h96'; clear K2 G2))
    go_region
    go_wp2
    go_ret
    exact set_end HK.out HG.out HOK.out h25' h96' HMY.out HC.out
end Go.Proofs.Ytkddcnbljooidaa
