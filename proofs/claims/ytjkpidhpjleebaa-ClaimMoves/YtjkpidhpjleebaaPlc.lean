/-
  The law's own pick, twice and placed. Condition: at most 2932031007402 founds (2^47 bytes).
-/
import Derived.Test.YtjkpidhpjleebaaMov
namespace Go.Proofs.Ytjkpidhpjleebaa
set_option maxRecDepth 100000
open Go.RowKit Go.Sort

set_option maxHeartbeats 2000000 in
theorem pick_any (z : Int) (h1 : -9223372036854775808 ≤ z) (h2 : z ≤ 9223372036854775807) (n : Nat) (hn : 0 < n) (hn2 : n < 100) (w : World) :
    Calls Try.prog 19 #[.int .i64 z, .int .i64 n] w fun e w' => (∃ q : Nat, q < n ∧ e = .returned (.int .i64 q)) ∧ w' = w := by
  have hne : ((n : Int) == 0) = false := by simp only [beq_eq_false_iff_ne]; omega
  have hne2 : ¬ (n : Int) = 0 := by omega
  have hnm : ¬ (n : Int) = -1 := by omega
  by_cases hz : z < 0
  · obtain ⟨q, hq⟩ : ∃ q : Nat, (-(z + 1)).tmod (n : Int) = (q : Int) ∧ q < n := ⟨((-(z + 1)).tmod (n : Int)).toNat, by
      rw [Int.tmod_eq_emod_of_nonneg (by omega)]
      have a1 := Int.emod_nonneg (-(z + 1)) (b := (n : Int)) (by omega)
      have a2 := Int.emod_lt_of_pos (-(z + 1)) (b := (n : Int)) (by omega)
      omega⟩
    have hq1 := hq.1
    have HQ := hyd hq.2
    clear hq
    go_enter Try.func19, Try.ntmps19
    go_wp2
    go_ret
    exact ⟨⟨q, HQ.out, rfl⟩, rfl⟩
  · obtain ⟨q, hq⟩ : ∃ q : Nat, z.tmod (n : Int) = (q : Int) ∧ q < n := ⟨(z.tmod (n : Int)).toNat, by
      rw [Int.tmod_eq_emod_of_nonneg (by omega)]
      have a1 := Int.emod_nonneg z (b := (n : Int)) (by omega)
      have a2 := Int.emod_lt_of_pos z (b := (n : Int)) (by omega)
      omega⟩
    have hq1 := hq.1
    have HQ := hyd hq.2
    clear hq
    go_enter Try.func19, Try.ntmps19
    go_wp2
    go_ret
    exact ⟨⟨q, HQ.out, rfl⟩, rfl⟩
/-- Is there one of the same number and seq? -/
def twc (l : List Fnd) (f : Fnd) : Bool := l.any fun g => decide (g.O = f.O) && decide (g.S = f.S)
set_option maxHeartbeats 8000000 in
theorem twice_any (w : World) (a : Option Addr) (cap : Nat) (l : List Fnd) (n : Nat) (hnl : n = l.length) (hs : Sl w (.slice a n cap) l) (hn : n < 2932031007402) (f : Fnd) :
    Calls Try.prog 26 #[.slice a n cap, .agg (fA f)] w fun e w' => e = .returned (.bool (twc l f)) ∧ Chg (fun _ => False) w w' := by
  have HN := hyd hnl
  have HK := hyd (Fo.new w f)
  have HG0 : Hid (Chg (fun _ => False) w (w.alloc (.cells (fA f) 28))) := (Chg.refl _ w).alloc _
  have HS := hyd (hs.new HG0.out)
  clear hs hnl
  go_enter Try.func26, Try.ntmps26
  go_wp2
  generalize w.alloc (.cells (fA f) 28) = w1 at *
  obtain ⟨B, HBB⟩ : ∃ B, Hid (B = w.heap.size) := ⟨_, rfl⟩
  rw [← HBB.out] at HK
  rw [← HBB.out]
  go_loopg [5] n (fun kx s5 wr => ∃ i : Nat, s5 = .int .i64 i ∧ i ≤ n ∧ n - i ≤ kx ∧ Hid (∀ t g, t < i → l[t]? = some g → ¬ (g.O = f.O ∧ g.S = f.S)) ∧ Hid (Chg (fun _ => False) w1 wr))
  case atStart => exact ⟨0, rfl, by omega, by omega, fun t g ht => absurd ht (Nat.not_lt_zero _), Chg.refl _ _⟩
  case round =>
  obtain ⟨i, rfl, hin, hkx, HI, HG⟩ := hrel
  by_cases hlt : i < n
  · have hltz : (i : Int) < (n : Int) := by omega
    obtain ⟨x, hx⟩ : ∃ x, l[i]? = some x := ⟨_, List.getElem?_eq_getElem (by rw [← HN.out]; exact hlt)⟩
    have HX := hyd hx
    obtain ⟨g, o, ha, hA⟩ := HS.out.at6 (by rw [← HN.out]; omega)
    subst ha
    obtain ⟨-, q2, q3, -⟩ := (hA.chg HG.out (fun h => h)).fields hx
    obtain ⟨-, -, p2, p3, -, -⟩ := (HK.out.chg HG.out (fun h => h)).cells
    clear hx hA
    by_cases h1 : x.O = f.O
    · have h1b : (x.O == f.O) = true := by simpa using h1
      by_cases h2 : x.S = f.S
      · have h2b : (x.S == f.S) = true := by simpa using h2
        have HT : Hid (twc l f = true) := by
          show _ = _
          unfold twc
          rw [List.any_eq_true]
          obtain ⟨a1, a2⟩ := List.getElem?_eq_some_iff.1 HX.out
          exact ⟨x, by rw [← a2]; exact List.getElem_mem a1, by simp [h1, h2]⟩
        have H12 := hyd (And.intro h1 h2)
        clear h1 h2
        go_wp2_with fail
        go_region_held3 (fun wx => wx.cell? ⟨g, o + i * 6 + 2, none⟩ = some (.int .i64 x.O) ∧ wx.cell? ⟨g, o + i * 6 + 3, none⟩ = some (.int .i64 x.S) ∧ wx.cell? ⟨B, 2, none⟩ = some (.int .i64 f.O) ∧ wx.cell? ⟨B, 3, none⟩ = some (.int .i64 f.S)) (first | exact ⟨q2, q3, p2, p3⟩) (first | fail)
        go_wp2
        go_ret
        exact ⟨by rw [HT.out]; rfl, (HG0.out.trans HG.out).drew⟩
      · have h2b : (x.S == f.S) = false := by simpa using h2
        have H12 := hyd h2
        clear h1 h2
        go_wp2_with fail
        go_region_held3 (fun wx => wx.cell? ⟨g, o + i * 6 + 2, none⟩ = some (.int .i64 x.O) ∧ wx.cell? ⟨g, o + i * 6 + 3, none⟩ = some (.int .i64 x.S) ∧ wx.cell? ⟨B, 2, none⟩ = some (.int .i64 f.O) ∧ wx.cell? ⟨B, 3, none⟩ = some (.int .i64 f.S)) (first | exact ⟨q2, q3, p2, p3⟩) (first | fail)
        go_wp2
        go_roundg (n - (i + 1))
        case measure => omega
        case rel =>
          refine ⟨i + 1, by simp, by omega, Nat.le_refl _, fun t y ht hy => ?_, HG.out.drew⟩
          by_cases e : t = i
          · subst e; rw [HX.out] at hy; cases hy; exact fun h => H12.out h.2
          · exact HI.out t y (by omega) hy
    · have h1b : (x.O == f.O) = false := by simpa using h1
      have H12 := hyd h1
      clear h1
      go_wp2_with fail
      go_region
      go_wp2
      go_roundg (n - (i + 1))
      case measure => omega
      case rel =>
        refine ⟨i + 1, by simp, by omega, Nat.le_refl _, fun t y ht hy => ?_, HG.out.drew⟩
        by_cases e : t = i
        · subst e; rw [HX.out] at hy; cases hy; exact fun h => H12.out h.1
        · exact HI.out t y (by omega) hy
  · have hltz : ¬ (i : Int) < (n : Int) := by omega
    have HT : Hid (twc l f = false) := by
      show _ = _
      rw [← Bool.not_eq_true]
      unfold twc
      rw [List.any_eq_true]
      rintro ⟨x, hx, h⟩
      obtain ⟨t, ht⟩ := List.getElem?_of_mem hx
      have h3 := (List.getElem?_eq_some_iff.1 ht).1
      exact HI.out t x (by have := HN.out; omega) ht (by simpa using h)
    go_wp2
    go_ret
    exact ⟨by rw [HT.out]; rfl, HG0.out.trans HG.out⟩
end Go.Proofs.Ytjkpidhpjleebaa
