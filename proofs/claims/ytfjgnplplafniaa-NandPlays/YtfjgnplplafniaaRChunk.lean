/-
  The document's chip: a chunk's damage and truth, a page, Read. Condition: the block holds the document's chip.
-/
import Derived.Test.YtfjgnplplafniaaRPower
namespace Go.Proofs.Ytfjgnplplafniaa
open Go.RowKit
set_option maxRecDepth 100000

theorem RAt.ch {w : World} {r : Nat} {s : Chp} {F : Nat → Prop} {p : Plc} (h : RAt w r s F p) (b : Nat) (hb : b < 12) (j : Nat) (hj : j < 32) (t : Nat) (ht : t < 4) : w.cell? ⟨p.gL b, 4 * j + t, none⟩ = some ((rch (p.pc b j) (s.ch (32 * b + j))).getD t undef) := by
  rw [(h.lst b hb).row.cell _ (by omega), fam_at 4 (by omega) _ _ _ ht]
set_option maxHeartbeats 1000000 in
theorem rdmg_any (q o gn cn gt ct : Nat) (a b : List Nat) (ha : a.length = 64) (hb : b.length = 64) (hA : Bys a) (hBb : Bys b) (w : World) (c0 : w.cell? ⟨q, o, none⟩ = some (.slice (some ⟨gn, 0, none⟩) 64 cn)) (c1 : w.cell? ⟨q, o + 1, none⟩ = some (.slice (some ⟨gt, 0, none⟩) 64 ct))
    (hn : By w gn a) (ht : By w gt b) :
    Calls Try.prog 64 #[.pointer (some ⟨q, o, none⟩)] w fun e w' => e = .returned (.int .i64 (dmgTo a b 64 : Nat)) ∧ Chg (fun _ => False) w w' := by
  have hqs := block_lt_of_cell c0
  simp only at hqs
  have H0 := hyd c0
  have H1 := hyd c1
  have HN := hyd hn
  have HT := hyd ht
  have HLA := hyd ha
  have HLB := hyd hb
  clear c0 c1 hn ht ha hb
  go_enter Try.func64, Try.ntmps64
  go_wp2
  go_loopw [3, 4] (fun t3 t4 wr => ∃ i : Nat, i ≤ 64 ∧ t4 = .int .i64 i ∧ t3 = .int .i64 (dmgTo a b i : Nat) ∧ Chg (fun _ => False) w wr) (fun _ t4 _ => 64 - (intOf t4).toNat)
  case atStart => exact ⟨0, by omega, rfl, rfl, Chg.refl _ _⟩
  case round =>
    obtain ⟨i, hi, rfl, rfl, hG⟩ := hrel
    by_cases hlt : i < 64
    · have hi0 : (0 : Int) ≤ (i : Int) := by omega
      have hi1 : (i : Int) < 64 := by omega
      have c0 := (World.cell?_of_block (a := ⟨q, o, none⟩) (hG.drew.block q hqs (fun f => f))).trans H0.out
      have c1 := (World.cell?_of_block (a := ⟨q, o + 1, none⟩) (hG.drew.block q hqs (fun f => f))).trans H1.out
      have c2 := By.cell (Row.chg HN.out hG.drew (fun f => f)) i (by rw [HLA.out]; exact hlt)
      have c3 := By.cell (Row.chg HT.out hG.drew (fun f => f)) i (by rw [HLB.out]; exact hlt)
      have hb1 := hA.getD i
      have hb2 := hBb.getD i
      have hd := dmgTo_le a b i
      have HD : Hid (dmgTo a b (i + 1) = dmgTo a b i + (if a.getD i 0 = b.getD i 0 then 0 else 1)) := rfl
      generalize a.getD i 0 = x at *
      generalize b.getD i 0 = y at *
      have hG1 : Chg (fun _ => False) w wr.drew := hG.drew
      by_cases hxy : x = y
      · subst hxy
        rw [if_pos rfl] at HD
        have HD2 := hyd HD.out
        clear HD
        generalize dmgTo a b i = d at *
        go_wp2_with fail
        go_region
        all_goals
          go_wp2
          exact ⟨⟨i + 1, by omega, by go_num, by rw [HD2.out, Nat.add_zero], hG1⟩, by simp [intOf]; omega⟩
      · rw [if_neg hxy] at HD
        have HD2 := hyd HD.out
        clear HD
        generalize dmgTo a b i = d at *
        have hne : ((x : Int) == (y : Int)) = false := beq_eq_false_iff_ne.2 (by omega)
        go_wp2_with fail
        go_region
        all_goals
          go_wp2
          exact ⟨⟨i + 1, by omega, by go_num, by rw [HD2.out]; go_num, hG1⟩, by simp [intOf]; omega⟩
    · have e : i = 64 := by omega
      subst e
      go_wp2
      go_ret
      exact ⟨rfl, hG⟩
theorem chunk_of (a k : Nat) : 32 * (a / 8) + (a % 8 * 4 + k) = 4 * a + k := by omega
theorem rdamage_no (r : Nat) (a k : Int) (h : a < 0 ∨ 96 ≤ a ∨ k < 0 ∨ 4 ≤ k) (w : World) :
    Calls Try.prog 44 #[.pointer (some ⟨r, 0, none⟩), .int .i64 a, .int .i64 k] w fun e w' => e = .returned (.tuple #[.int .i64 0, .int .i64 0, .int .i64 1]) ∧ Chg (fun _ => False) w w' := by
  by_cases ha : a < 0 ∨ 96 ≤ a
  · go_enter Try.func44, Try.ntmps44
    go_wp2_with fail
    refine (isPage_no a ha _).mono ?_
    rintro e w' ⟨rfl, rfl⟩
    go_wp2
    all_goals
      go_ret3
      exact ⟨rfl, Chg.refl _ _⟩
  · by_cases hk : k < 0
    · go_enter Try.func44, Try.ntmps44
      go_wp2_with fail
      refine (isPage_yes a (by omega) (by omega) _).mono ?_
      rintro e w' ⟨rfl, rfl⟩
      go_wp2
      all_goals
        go_ret3
        exact ⟨rfl, Chg.refl _ _⟩
    · have hk2 : 4 ≤ k := by omega
      have ha0 : 0 ≤ a := by omega
      have ha1 : a < 96 := by omega
      clear h ha
      go_enter Try.func44, Try.ntmps44
      go_wp2_with fail
      refine (isPage_yes a ha0 ha1 _).mono ?_
      rintro e w' ⟨rfl, rfl⟩
      go_wp2
      all_goals
        go_ret3
        exact ⟨rfl, Chg.refl _ _⟩
theorem rtruth_no (r : Nat) (a k : Int) (h : a < 0 ∨ 96 ≤ a ∨ k < 0 ∨ 4 ≤ k) (w : World) :
    Calls Try.prog 45 #[.pointer (some ⟨r, 0, none⟩), .int .i64 a, .int .i64 k] w fun e w' => e = .returned (.tuple #[.slice none 0 0, .bool false, .int .i64 1]) ∧ Chg (fun _ => False) w w' := by
  by_cases ha : a < 0 ∨ 96 ≤ a
  · go_enter Try.func45, Try.ntmps45
    go_wp2_with fail
    refine (isPage_no a ha _).mono ?_
    rintro e w' ⟨rfl, rfl⟩
    go_wp2
    all_goals
      go_ret3
      exact ⟨rfl, Chg.refl _ _⟩
  · by_cases hk : k < 0
    · go_enter Try.func45, Try.ntmps45
      go_wp2_with fail
      refine (isPage_yes a (by omega) (by omega) _).mono ?_
      rintro e w' ⟨rfl, rfl⟩
      go_wp2
      all_goals
        go_ret3
        exact ⟨rfl, Chg.refl _ _⟩
    · have hk2 : 4 ≤ k := by omega
      have ha0 : 0 ≤ a := by omega
      have ha1 : a < 96 := by omega
      clear h ha
      go_enter Try.func45, Try.ntmps45
      go_wp2_with fail
      refine (isPage_yes a ha0 ha1 _).mono ?_
      rintro e w' ⟨rfl, rfl⟩
      go_wp2
      all_goals
        go_ret3
        exact ⟨rfl, Chg.refl _ _⟩
set_option maxHeartbeats 1000000 in
theorem rdamage_yes (r : Nat) (s : Chp) (hs : s.Ok) (F : Nat → Prop) (a k : Nat) (ha : a < 96) (hk : k < 4) (w : World) (h : RefAt w r s F) :
    Calls Try.prog 44 #[.pointer (some ⟨r, 0, none⟩), .int .i64 a, .int .i64 k] w fun e w' => e = .returned (.tuple #[.int .i64 (dmg (s.ch (4 * a + k)) : Nat), .int .i64 (s.ch (4 * a + k)).worst, .int .i64 0]) ∧ Chg (fun _ => False) w w' := by
  obtain ⟨p, h⟩ := h
  have ha0 : (0 : Int) ≤ a := by omega
  have ha1 : (a : Int) < 96 := by omega
  have hk0 : (0 : Int) ≤ k := by omega
  have hk1 : (k : Int) < 4 := by omega
  have c0 := h.ch (a / 8) (by omega) (a % 8 * 4 + k) (by omega) 0 (by omega)
  have c1 := h.ch (a / 8) (by omega) (a % 8 * 4 + k) (by omega) 1 (by omega)
  have c3 := h.ch (a / 8) (by omega) (a % 8 * 4 + k) (by omega) 3 (by omega)
  have hN := (h.lst (a / 8) (by omega)).now (a % 8 * 4 + k) (by omega)
  have hT := (h.lst (a / 8) (by omega)).tru (a % 8 * 4 + k) (by omega)
  have hq := (h.lst (a / 8) (by omega)).row.lt
  have HC := hyd (rchunk_any r s F p a k ha hk w h)
  simp only [chunk_of] at c0 c1 c3 hN hT
  have hK := hs.ch (4 * a + k)
  generalize s.ch (4 * a + k) = x at *
  generalize p.pc (a / 8) (a % 8 * 4 + k) = y at *
  generalize p.gL (a / 8) = q at *
  generalize 4 * (a % 8 * 4 + k) = o at *
  have c0' : w.cell? ⟨q, o, none⟩ = some (.slice (some ⟨y.n, 0, none⟩) 64 y.nc) := c0
  have c1' : w.cell? ⟨q, o + 1, none⟩ = some (.slice (some ⟨y.t, 0, none⟩) 64 y.tc) := c1
  have c3' : w.cell? ⟨q, o + 3, none⟩ = some (.int .i64 x.worst) := c3
  have H0 := hyd c0'
  have H1 := hyd c1'
  have HN := hyd hN
  have HT := hyd hT
  clear h c0 c1 c3 hN hT c0' c1' hs
  go_enter Try.func44, Try.ntmps44
  go_wp2_with fail
  refine (isPage_yes (a : Int) ha0 ha1 _).mono ?_
  rintro e w' ⟨rfl, rfl⟩
  go_wp2_with fail
  refine HC.out.mono ?_
  rintro e w' ⟨rfl, rfl⟩
  go_wp2_with fail
  go_region_with (go_at_call 64; refine (rdmg_any q o y.n y.nc y.t y.tc x.now x.tru hK.now hK.tru hK.nowB hK.truB _ ?_ ?_ ?_ ?_).mono ?_; (exact H0.out); (exact H1.out); (exact HN.out); (exact HT.out); rintro e w1 ⟨rfl, hG1⟩; have c4 := (World.cell?_of_block (a := ⟨q, o + 3, none⟩) (hG1.block q hq (fun f => f))).trans c3')
  all_goals
    go_wp2
    go_ret3
    exact ⟨rfl, (Chg.refl (fun _ => False) _).drew.trans hG1⟩
end Go.Proofs.Ytfjgnplplafniaa
