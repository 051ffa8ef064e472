/-
  What does harm: Flip, FailProgram, FailErase, Cut. Condition: the block holds a chip that can be. What is known of a chip: Reads, Failed, Damage, Truth; Read. Condition: the block holds a chip that can be. Truth and Read. Condition: the block holds a chip that can be.
-/
import Derived.Test.YtifjmilegogbaaaGreatUDoes
namespace Go.Proofs.YtifjmilegogbaaaGreat
open Go.RowKit
set_option maxRecDepth 100000

def flipR (s : Chp) (a b : Int) : Chp × Nat :=
  if ¬ (0 ≤ a ∧ a < 96 ∧ 0 ≤ b ∧ b < 2048) then (s, 1) else
  (s.setCh (4 * a.toNat + b.toNat / 512) (turnK (s.ch (4 * a.toNat + b.toNat / 512)) (b.toNat / 8 % 64) (b.toNat % 8)), 0)
theorem flipR_ok {s : Chp} (h : s.Ok) (a b : Int) : (flipR s a b).1.Ok := by
  unfold flipR
  split
  · exact h
  · exact h.setCh _ (turnK_ok (h.ch _) _ _ (Nat.mod_lt _ (by decide)))
theorem flip_chip (g : Nat) (s : Chp) (hs : s.Ok) (c : Nat) (hc : c < 384) (p b : Nat) (hp : p < 64) (hb : b < 8) (w : World) (h : ChipAt w g s) :
    Calls Tryz.prog 49 #[.pointer (some ⟨g, 130 * c, none⟩), .int .i64 p, .int .i64 b] w fun e w' => e = .returned (.tuple #[]) ∧ ChipAt w' g (s.setCh c (turnK (s.ch c) p b)) ∧ Chg (· = g) w w' := by
  refine (flip_cell g (130 * c) 107 49984 _ (by omega) (s.ch c) (hs.ch c) (ccell_ch s hs c hc) p b hp hb w h).mono ?_
  rintro e w' ⟨rfl, h1, h2⟩
  have hk := turnK_ok (hs.ch c) p b hb
  exact ⟨rfl, h1.ext fun i _ => ccell_setCh s c hc _ (ckc_length hk.now hk.tru) i, h2⟩
set_option maxHeartbeats 1000000 in
theorem flip_any (g : Nat) (s : Chp) (hs : s.Ok) (a b : Int) (w : World) (h : ChipAt w g s) :
    Calls Tryz.prog 20 #[.pointer (some ⟨g, 0, none⟩), .int .i64 a, .int .i64 b] w fun e w' => e = .returned (nerrV (flipR s a b).2) ∧ ChipAt w' g (flipR s a b).1 ∧ Chg (· = g) w w' := by
  unfold flipR
  by_cases ha : 0 ≤ a ∧ a < 96
  · obtain ⟨ha0, ha1⟩ := ha
    by_cases hb : 0 ≤ b ∧ b < 2048
    · obtain ⟨hb0, hb1⟩ := hb
      rw [if_neg (by omega)]
      obtain ⟨a, rfl⟩ := Int.eq_ofNat_of_zero_le ha0
      obtain ⟨b, rfl⟩ := Int.eq_ofNat_of_zero_le hb0
      rw [Int.toNat_natCast, Int.toNat_natCast]
      have HS := hyd hs
      clear hs
      go_enter Tryz.func20, Tryz.ntmps20
      go_wp2_with fail
      refine (below_yes (a : Int) 96 ha0 ha1 _).mono ?_
      rintro e w' ⟨rfl, rfl⟩
      go_wp2_with fail
      refine (below_yes (b : Int) 2048 hb0 hb1 _).mono ?_
      rintro e w' ⟨rfl, rfl⟩
      have q0 : (0 : Int) ≤ (b : Int) / 8 / 64 := by omega
      have q1 : (b : Int) / 8 / 64 < 4 := by omega
      go_wp2_with fail
      rw [show a * 520 + b / 8 / 64 * 130 = 130 * (4 * a + b / 512) from by omega, show (b : Int) / 8 % 64 = ((b / 8 % 64 : Nat) : Int) from by omega, show (b : Int) % 8 = ((b % 8 : Nat) : Int) from by omega]
      refine (flip_chip g s HS.out (4 * a + b / 512) (by omega) (b / 8 % 64) (b % 8) (by omega) (by omega) _ h).mono ?_
      rintro e w1 ⟨rfl, h1, hG⟩
      go_wp2
      go_ret
      exact ⟨rfl, h1, hG⟩
    · rw [if_pos (by omega)]
      go_enter Tryz.func20, Tryz.ntmps20
      go_wp2_with fail
      refine (below_yes a 96 ha0 ha1 _).mono ?_
      rintro e w' ⟨rfl, rfl⟩
      go_wp2_with fail
      refine (below_no b 2048 (by omega) _).mono ?_
      rintro e w' ⟨rfl, rfl⟩
      go_wp2
      go_ret
      exact ⟨rfl, h, Chg.refl _ _⟩
  · rw [if_pos (by omega)]
    go_enter Tryz.func20, Tryz.ntmps20
    go_wp2_with fail
    refine (below_no a 96 (by omega) _).mono ?_
    rintro e w' ⟨rfl, rfl⟩
    go_wp2
    go_ret
    exact ⟨rfl, h, Chg.refl _ _⟩

def cutR (s : Chp) (n : Int) : Chp × Nat := if n < 0 then (s, 1) else (if s.on = true then { s with lim := true, bud := n.toNat } else s, 0)
theorem cutR_ok {s : Chp} (h : s.Ok) (n : Int) (hn : n < 9223372036854775808) : (cutR s n).1.Ok := by
  unfold cutR
  split
  · exact h
  · show (if s.on = true then _ else s : Chp).Ok
    split
    · exact ⟨h.ch, h.bl, by show n.toNat < _; omega, h.lo, h.hi⟩
    · exact h
theorem ncut_any (g : Nat) (s : Chp) (n : Int) (w : World) (h : ChipAt w g s) :
    Calls Tryz.prog 25 #[.pointer (some ⟨g, 0, none⟩), .int .i64 n] w fun e w' => e = .returned (nerrV (cutR s n).2) ∧ ChipAt w' g (cutR s n).1 ∧ Chg (· = g) w w' := by
  unfold cutR
  have c1 := h.on
  have c2 := h.lim
  have c3 := h.bud
  have f1 := h.frozen
  by_cases hn : n < 0
  · rw [if_pos hn]
    go_enter Tryz.func25, Tryz.ntmps25
    go_wp2
    go_ret
    exact ⟨rfl, h, Chg.refl _ _⟩
  · rw [if_neg hn]
    by_cases hon : s.on = true
    · rw [if_pos hon]
      rw [hon] at c1
      have hC := (h.setLim true).setBud n.toNat
      have hG := ((Chg.refl (· = g) w).at g 49981 (.bool true)).at g 49982 (.int .i64 (n.toNat : Nat))
      rw [show ((n.toNat : Nat) : Int) = n from by omega] at hC hG
      clear hon
      go_enter Tryz.func25, Tryz.ntmps25
      go_wp2
      go_ret
      exact ⟨rfl, hC, hG⟩
    · rw [if_neg hon]
      rw [Bool.eq_false_iff.2 hon] at c1
      clear hon
      go_enter Tryz.func25, Tryz.ntmps25
      go_wp2
      go_ret
      exact ⟨rfl, h, Chg.refl _ _⟩
def failPR (s : Chp) (b n : Int) : Chp × Nat := if ¬ (0 ≤ b ∧ b < 12 ∧ 0 ≤ n) then (s, 1) else (s.setBl b.toNat { s.bl b.toNat with wf := true, ahead := n.toNat }, 0)
theorem failPR_ok {s : Chp} (h : s.Ok) (b n : Int) (hn : n < 9223372036854775808) : (failPR s b n).1.Ok := by
  unfold failPR
  split
  · exact h
  · exact h.setBl _ ⟨by show n.toNat < _; omega, fun e => absurd e (by simp), (h.bl _).lo, (h.bl _).hi⟩
set_option maxHeartbeats 1000000 in
theorem failP_any (g : Nat) (s : Chp) (b n : Int) (w : World) (h : ChipAt w g s) :
    Calls Tryz.prog 68 #[.pointer (some ⟨g, 0, none⟩), .int .i64 b, .int .i64 n] w fun e w' => e = .returned (nerrV (failPR s b n).2) ∧ ChipAt w' g (failPR s b n).1 ∧ Chg (· = g) w w' := by
  unfold failPR
  by_cases hb : 0 ≤ b ∧ b < 12
  · obtain ⟨hb0, hb1⟩ := hb
    by_cases hn : n < 0
    · rw [if_pos (by omega)]
      go_enter Tryz.func68, Tryz.ntmps68
      go_wp2_with fail
      refine (below_yes b 12 hb0 hb1 _).mono ?_
      rintro e w' ⟨rfl, rfl⟩
      go_wp2
      go_ret
      exact ⟨rfl, h, Chg.refl _ _⟩
    · rw [if_neg (by omega)]
      obtain ⟨b, rfl⟩ := Int.eq_ofNat_of_zero_le hb0
      rw [Int.toNat_natCast]
      have hb2 : b < 12 := by omega
      have hr1 := h.setBl1 hb2 { s.bl b with wf := true } rfl 1 (by omega) (.bool true) (by simp [blc])
      have hr2 := hr1.setBl1 hb2 { s.bl b with wf := true, ahead := n.toNat } (by rw [setBl_bl]) 2 (by omega) (.int .i64 (n.toNat : Nat)) (by rw [setBl_bl]; simp [blc])
      rw [setBl_setBl] at hr2
      have hG := ((Chg.refl (· = g) w).at g (49920 + 4 * b + 1) (.bool true)).at g (49920 + 4 * b + 2) (.int .i64 (n.toNat : Nat))
      have c1 := Sto.cell h (49920 + 4 * b + 1) (by omega)
      have c2 := Sto.cell h (49920 + 4 * b + 2) (by omega)
      have f1 := Sto.frozen h (49920 + 4 * b + 1)
      have f2 := Sto.frozen h (49920 + 4 * b + 2)
      rw [show ((n.toNat : Nat) : Int) = n from by omega] at hr2 hG
      rw [show 49920 + 4 * b = 49920 + b * 4 from by omega] at *
      clear hr1
      go_enter Tryz.func68, Tryz.ntmps68
      go_wp2_with fail
      refine (below_yes (b : Int) 12 hb0 hb1 _).mono ?_
      rintro e w' ⟨rfl, rfl⟩
      go_wp2
      go_ret
      exact ⟨rfl, hr2, hG⟩
  · rw [if_pos (by omega)]
    go_enter Tryz.func68, Tryz.ntmps68
    go_wp2_with fail
    refine (below_no b 12 (by omega) _).mono ?_
    rintro e w' ⟨rfl, rfl⟩
    go_wp2
    go_ret
    exact ⟨rfl, h, Chg.refl _ _⟩
def failER (s : Chp) (b : Int) : Chp × Nat := if ¬ (0 ≤ b ∧ b < 12) then (s, 1) else (s.setBl b.toNat { s.bl b.toNat with ef := true }, 0)
theorem failER_ok {s : Chp} (h : s.Ok) (b : Int) : (failER s b).1.Ok := by
  unfold failER
  split
  · exact h
  · exact h.setBl _ ⟨(h.bl _).ahead, (h.bl _).none, (h.bl _).lo, (h.bl _).hi⟩
theorem failE_any (g : Nat) (s : Chp) (b : Int) (w : World) (h : ChipAt w g s) :
    Calls Tryz.prog 70 #[.pointer (some ⟨g, 0, none⟩), .int .i64 b] w fun e w' => e = .returned (nerrV (failER s b).2) ∧ ChipAt w' g (failER s b).1 ∧ Chg (· = g) w w' := by
  unfold failER
  by_cases hb : 0 ≤ b ∧ b < 12
  · obtain ⟨hb0, hb1⟩ := hb
    rw [if_neg (by omega)]
    obtain ⟨b, rfl⟩ := Int.eq_ofNat_of_zero_le hb0
    rw [Int.toNat_natCast]
    have hb2 : b < 12 := by omega
    have hr1 := h.setBl1 hb2 { s.bl b with ef := true } rfl 3 (by omega) (.bool true) (by simp [blc])
    have hG := (Chg.refl (· = g) w).at g (49920 + 4 * b + 3) (.bool true)
    have c1 := Sto.cell h (49920 + 4 * b + 3) (by omega)
    have f1 := Sto.frozen h (49920 + 4 * b + 3)
    rw [show 49920 + 4 * b = 49920 + b * 4 from by omega] at *
    go_enter Tryz.func70, Tryz.ntmps70
    go_wp2_with fail
    refine (below_yes (b : Int) 12 hb0 hb1 _).mono ?_
    rintro e w' ⟨rfl, rfl⟩
    go_wp2
    go_ret
    exact ⟨rfl, hr1, hG⟩
  · rw [if_pos (by omega)]
    go_enter Tryz.func70, Tryz.ntmps70
    go_wp2_with fail
    refine (below_no b 12 (by omega) _).mono ?_
    rintro e w' ⟨rfl, rfl⟩
    go_wp2
    go_ret
    exact ⟨rfl, h, Chg.refl _ _⟩
end Go.Proofs.YtifjmilegogbaaaGreat
namespace Go.Proofs.YtifjmilegogbaaaGreat
open Go.RowKit
set_option maxRecDepth 100000

theorem failed_yes (g : Nat) (s : Chp) (b : Nat) (hb : b < 12) (w : World) (h : ChipAt w g s) :
    Calls Tryz.prog 12 #[.pointer (some ⟨g, 0, none⟩), .int .i64 b] w fun e w' => e = .returned (.tuple #[.bool (s.bl b).failed, .nilIface]) ∧ Chg (fun _ => False) w w' := by
  have hb0 : (0 : Int) ≤ (b : Int) := by omega
  have hb1 : (b : Int) < 12 := by omega
  have c1 := Sto.cell h (49920 + 4 * b) (by omega)
  rw [blc0 hb, show 49920 + 4 * b = 49920 + b * 4 from by omega] at c1
  go_enter Tryz.func12, Tryz.ntmps12
  go_wp2_with fail
  refine (below_yes (b : Int) 12 hb0 hb1 _).mono ?_
  rintro e w' ⟨rfl, rfl⟩
  go_wp2
  all_goals
    go_ret2
    exact ⟨rfl, (Chg.refl _ _)⟩
theorem failed_no (g : Nat) (b : Int) (hb : b < 0 ∨ 12 ≤ b) (w : World) :
    Calls Tryz.prog 12 #[.pointer (some ⟨g, 0, none⟩), .int .i64 b] w fun e w' => e = .returned (.tuple #[.bool false, nerrV 1]) ∧ Chg (fun _ => False) w w' := by
  go_enter Tryz.func12, Tryz.ntmps12
  go_wp2_with fail
  refine (below_no b 12 hb _).mono ?_
  rintro e w' ⟨rfl, rfl⟩
  go_wp2
  all_goals
    go_ret2
    exact ⟨rfl, (Chg.refl _ _)⟩
theorem reads_yes (g : Nat) (s : Chp) (b : Nat) (hb : b < 12) (w : World) (h : ChipAt w g s) :
    Calls Tryz.prog 10 #[.pointer (some ⟨g, 0, none⟩), .int .i64 b] w fun e w' => e = .returned (.tuple #[.int .i64 (s.bl b).reads, .nilIface]) ∧ Chg (fun _ => False) w w' := by
  have hb0 : (0 : Int) ≤ (b : Int) := by omega
  have hb1 : (b : Int) < 12 := by omega
  have c1 := Sto.cell h (49968 + b) (by omega)
  rw [ccell_reads s b hb] at c1
  go_enter Tryz.func10, Tryz.ntmps10
  go_wp2_with fail
  refine (below_yes (b : Int) 12 hb0 hb1 _).mono ?_
  rintro e w' ⟨rfl, rfl⟩
  go_wp2_with fail
  refine (load_any g (49968 + b) _ c1).mono ?_
  rintro e w' ⟨rfl, rfl⟩
  go_wp2
  all_goals
    go_ret2
    exact ⟨rfl, (Chg.refl _ _)⟩
theorem reads_no (g : Nat) (b : Int) (hb : b < 0 ∨ 12 ≤ b) (w : World) :
    Calls Tryz.prog 10 #[.pointer (some ⟨g, 0, none⟩), .int .i64 b] w fun e w' => e = .returned (.tuple #[.int .i64 0, nerrV 1]) ∧ Chg (fun _ => False) w w' := by
  go_enter Tryz.func10, Tryz.ntmps10
  go_wp2_with fail
  refine (below_no b 12 hb _).mono ?_
  rintro e w' ⟨rfl, rfl⟩
  go_wp2
  all_goals
    go_ret2
    exact ⟨rfl, (Chg.refl _ _)⟩
theorem damage_no (g : Nat) (a k : Int) (h : a < 0 ∨ 96 ≤ a ∨ k < 0 ∨ 4 ≤ k) (w : World) :
    Calls Tryz.prog 22 #[.pointer (some ⟨g, 0, none⟩), .int .i64 a, .int .i64 k] w fun e w' => e = .returned (.tuple #[.int .i64 0, .int .i64 0, nerrV 1]) ∧ Chg (fun _ => False) w w' := by
  go_enter Tryz.func22, Tryz.ntmps22
  go_wp2_with fail
  refine (isChunk_no a k h _).mono ?_
  rintro e w' ⟨rfl, rfl⟩
  go_wp2
  all_goals
    go_ret3
    exact ⟨rfl, (Chg.refl _ _)⟩
theorem truth_no (g : Nat) (a k : Int) (h : a < 0 ∨ 96 ≤ a ∨ k < 0 ∨ 4 ≤ k) (w : World) :
    Calls Tryz.prog 26 #[.pointer (some ⟨g, 0, none⟩), .int .i64 a, .int .i64 k] w fun e w' => e = .returned (.tuple #[.slice none 0 0, .bool false, nerrV 1]) ∧ Chg (fun _ => False) w w' := by
  go_enter Tryz.func26, Tryz.ntmps26
  go_wp2_with fail
  refine (isChunk_no a k h _).mono ?_
  rintro e w' ⟨rfl, rfl⟩
  go_wp2
  all_goals
    go_ret3
    exact ⟨rfl, (Chg.refl _ _)⟩
set_option maxHeartbeats 1000000 in
theorem damage_yes (g : Nat) (s : Chp) (hs : s.Ok) (a k : Nat) (ha : a < 96) (hk : k < 4) (w : World) (h : ChipAt w g s) :
    Calls Tryz.prog 22 #[.pointer (some ⟨g, 0, none⟩), .int .i64 a, .int .i64 k] w fun e w' => e = .returned (.tuple #[.int .i64 (dmg (s.ch (4 * a + k)) : Nat), .int .i64 (s.ch (4 * a + k)).worst, .nilIface]) ∧ Chg (fun _ => False) w w' := by
  have ha0 : (0 : Int) ≤ a := by omega
  have ha1 : (a : Int) < 96 := by omega
  have hk0 : (0 : Int) ≤ k := by omega
  have hk1 : (k : Int) < 4 := by omega
  have hS := ccell_ch s hs (4 * a + k) (by omega)
  have hK := hs.ch (4 * a + k)
  have c1 := Sto.cell h (130 * (4 * a + k) + 129) (by omega)
  rw [ckc_worst hK.now hK.tru hS] at c1
  generalize s.ch (4 * a + k) = x at *
  rw [show 130 * (4 * a + k) = a * 520 + k * 130 from by omega] at c1 hS
  have HH := hyd h
  clear h hs
  go_enter Tryz.func22, Tryz.ntmps22
  go_wp2_with fail
  refine (isChunk_yes a k ha0 ha1 hk0 hk1 _).mono ?_
  rintro e w' ⟨rfl, rfl⟩
  go_wp2_with fail
  go_region_with (go_at_call 51; refine (damage_any g (a * 520 + k * 130) 107 49984 _ (by omega) x hK hS _ ?_).mono ?_; (exact HH.out); rintro e w' ⟨rfl, rfl⟩)
  all_goals
    go_wp2
    go_ret3
    exact ⟨rfl, (Chg.refl _ _).drew⟩
end Go.Proofs.YtifjmilegogbaaaGreat
namespace Go.Proofs.YtifjmilegogbaaaGreat
open Go.RowKit
set_option maxRecDepth 100000

def nz64 : List Nat := List.replicate 64 0
def nz256 : List Nat := List.replicate 256 0
theorem nz64_length : nz64.length = 64 := by simp [nz64]
theorem z256_length : nz256.length = 256 := by simp [nz256]
theorem nmake64 (w : World) : (Instr.makeSlice 55 (.int .i64 64) (.int .i64 64)).run Tryz.prog w = .ok (.slice (some ⟨w.heap.size, 0, none⟩) 64 64) (w.alloc (.cells (bcells nz64) 5)) := make_bytes w 64 64 rfl (by decide)
theorem nmake256 (w : World) : (Instr.makeSlice 55 (.int .i64 256) (.int .i64 256)).run Tryz.prog w = .ok (.slice (some ⟨w.heap.size, 0, none⟩) 256 256) (w.alloc (.cells (bcells nz256) 5)) := make_bytes w 256 256 rfl (by decide)
theorem map_byt_at {l : List Nat} {i : Nat} (h : i < l.length) : (l.map byt)[i]? = some (.int .u8 (l.getD i 0 : Nat)) := by
  rw [List.getElem?_map, List.getElem?_eq_getElem h]; simp [byt, List.getD_eq_getElem?_getD, List.getElem?_eq_getElem h]
theorem ChipAt.tru {w : World} {g : Nat} {s : Chp} (h : ChipAt w g s) (hs : s.Ok) (c : Nat) (hc : c < 384) (j : Nat) (hj : j < 64) : w.cell? ⟨g, 130 * c + 64 + j, none⟩ = some (.int .u8 ((s.ch c).tru.getD j 0 : Nat)) := by
  rw [Sto.cell h _ (by omega)]
  congr 1
  exact ckc_tru (hs.ch c).now (ccell_ch s hs c hc) j _ (map_byt_at (by rw [(hs.ch c).tru]; exact hj))
theorem ChipAt.now {w : World} {g : Nat} {s : Chp} (h : ChipAt w g s) (hs : s.Ok) (c : Nat) (hc : c < 384) (j : Nat) (hj : j < 64) : w.cell? ⟨g, 130 * c + j, none⟩ = some (.int .u8 ((s.ch c).now.getD j 0 : Nat)) := by
  rw [Sto.cell h _ (by omega)]
  congr 1
  exact ckc_now (ccell_ch s hs c hc) j _ (map_byt_at (by rw [(hs.ch c).now]; exact hj))
theorem ChipAt.alloc {w : World} {g : Nat} {s : Chp} (h : ChipAt w g s) (o : Obj) : ChipAt (w.alloc o) g s := Sto.alloc h o
set_option maxHeartbeats 1000000 in
theorem truth_yes (g : Nat) (s : Chp) (hs : s.Ok) (a k : Nat) (ha : a < 96) (hk : k < 4) (w : World) (h : ChipAt w g s) :
    Calls Tryz.prog 26 #[.pointer (some ⟨g, 0, none⟩), .int .i64 a, .int .i64 k] w fun e w' => e = .returned (.tuple #[.slice (some ⟨w.heap.size, 0, none⟩) 64 64, .bool (s.ch (4 * a + k)).is, .nilIface]) ∧ Arr w' w.heap.size 5 (s.ch (4 * a + k)).tru ∧ Chg (fun _ => False) w w' := by
  have ha0 : (0 : Int) ≤ a := by omega
  have ha1 : (a : Int) < 96 := by omega
  have hk0 : (0 : Int) ≤ k := by omega
  have hk1 : (k : Int) < 4 := by omega
  have hmk := nmake64
  have hgs := h.lt
  have hC1 := h.alloc (.cells (bcells nz64) 5)
  have hA1 : Arr (w.alloc (.cells (bcells nz64) 5)) w.heap.size 5 nz64 := Arr.new w 5 _
  have HT := hyd (hC1.tru hs (4 * a + k) (by omega))
  have hl := (hs.ch (4 * a + k)).tru
  have hA2 := hA1.row (lay nz64 0 (s.ch (4 * a + k)).tru)
  rw [lay_all _ _ (by rw [hl, nz64_length])] at hA2
  have hG : Chg (fun _ => False) w ((w.alloc (.cells (bcells nz64) 5)).setRow w.heap.size (bcells (s.ch (4 * a + k)).tru)) :=
    ⟨rfl, rfl, rfl, by simp, fun i hi _ => (setRow_other _ _ _ _ (by omega)).trans (Below.heap_alloc _ _ _ hi)⟩
  have hC2 : ChipAt ((w.alloc (.cells (bcells nz64) 5)).setRow w.heap.size (bcells (s.ch (4 * a + k)).tru)) g s := h.chg hG (fun f => f)
  have c1 := hC2.is hs (4 * a + k) (by omega)
  rw [show 130 * (4 * a + k) = a * 520 + k * 130 from by omega] at c1 HT
  generalize s.ch (4 * a + k) = x at *
  have hcp := run_copy_row (P := Tryz.prog) (w.alloc (.cells (bcells nz64) 5)) 55 55 3 5 w.heap.size 0 64 64 ⟨g, a * 520 + k * 130 + 64, none⟩ 64 64 (bcells nz64) 5 (x.tru.map byt) Tryz.underlying55 size5 hA1 (by simp [hl]) (src_byt (by rw [hl]; exact HT.out)) (by simp [hl, bcells_size, nz64_length]) (byt_one _)
  have e1 : (List.take 0 (bcells nz64).toList ++ List.map byt x.tru ++ List.drop (0 + (List.map byt x.tru).length) (bcells nz64).toList).toArray = bcells x.tru := by
    rw [List.take_zero, List.nil_append, List.drop_eq_nil_of_le (by simp [hl, bcells, nz64_length]), List.append_nil]; rfl
  rw [e1, List.length_map, hl] at hcp
  clear e1 hC1 hA1 HT hC2 h
  generalize (w.alloc (.cells (bcells nz64) 5)).setRow w.heap.size (bcells x.tru) = w2 at *
  go_enter Tryz.func26, Tryz.ntmps26
  go_wp2_with fail
  refine (isChunk_yes a k ha0 ha1 hk0 hk1 _).mono ?_
  rintro e w' ⟨rfl, rfl⟩
  go_wp2_with fail
  go_region
  all_goals
    go_wp2
    go_ret3
    exact ⟨rfl, hA2.drew, hG.drew⟩
/-- The first n chunks of a page, one behind the other. -/
def pgTo (s : Chp) (a : Nat) : Nat → List Nat
  | 0 => []
  | n + 1 => pgTo s a n ++ (s.ch (4 * a + n)).now
theorem pgTo_length {s : Chp} (hs : s.Ok) (a n : Nat) : (pgTo s a n).length = 64 * n := by
  induction n with
  | zero => rfl
  | succ n ih => rw [pgTo, List.length_append, ih, (hs.ch _).now]; omega
theorem pgTo_bys {s : Chp} (hs : s.Ok) (a n : Nat) : Bys (pgTo s a n) := by
  induction n with
  | zero => intro m hm; cases hm
  | succ n ih => intro m hm; rcases List.mem_append.1 hm with h | h; exact ih m h; exact (hs.ch _).nowB m h
/-- While a page is read. -/
def pgZ (s : Chp) (a n : Nat) : List Nat := pgTo s a n ++ List.replicate (256 - 64 * n) 0
theorem pgZ_length {s : Chp} (hs : s.Ok) (a n : Nat) (h : n ≤ 4) : (pgZ s a n).length = 256 := by rw [pgZ, List.length_append, pgTo_length hs, List.length_replicate]; omega
theorem pgZ_lay {s : Chp} (hs : s.Ok) (a n : Nat) (h : n < 4) : lay (pgZ s a n) (n * 64) (s.ch (4 * a + n)).now = pgZ s a (n + 1) := by
  have h1 := pgTo_length hs a n
  unfold lay pgZ
  rw [List.take_left' (by omega), List.drop_append, List.drop_eq_nil_of_le (by rw [h1, (hs.ch _).now]; omega), List.nil_append, pgTo, List.append_assoc, h1, (hs.ch _).now, List.drop_replicate]
  congr 3
  omega
theorem pgZ_all {s : Chp} (a : Nat) : pgZ s a 4 = pgTo s a 4 := by simp [pgZ]
/-- The chip, a page of which was read. -/
def rdS (s : Chp) (a : Nat) : Chp := s.setBl (a / 8) { s.bl (a / 8) with reads := wrap64 ((s.bl (a / 8)).reads + 1) }
theorem rdS_ok {s : Chp} (h : s.Ok) (a : Nat) : (rdS s a).Ok := h.setBl _ ⟨(h.bl _).ahead, (h.bl _).none, wrap64_lo _, wrap64_hi _⟩
theorem read_no (g : Nat) (a : Int) (h : a < 0 ∨ 96 ≤ a) (w : World) :
    Calls Tryz.prog 52 #[.pointer (some ⟨g, 0, none⟩), .int .i64 a] w fun e w' => e = .returned (.tuple #[.slice none 0 0, nerrV 1]) ∧ Chg (fun _ => False) w w' := by
  go_enter Tryz.func52, Tryz.ntmps52
  go_wp2_with fail
  refine (below_no a 96 h _).mono ?_
  rintro e w' ⟨rfl, rfl⟩
  go_wp2
  all_goals
    go_ret2
    exact ⟨rfl, (Chg.refl _ _)⟩
theorem read_off (g : Nat) (s : Chp) (a : Int) (h0 : 0 ≤ a) (h1 : a < 96) (w : World) (h : ChipAt w g s) (hon : s.on = false) :
    Calls Tryz.prog 52 #[.pointer (some ⟨g, 0, none⟩), .int .i64 a] w fun e w' => e = .returned (.tuple #[.slice none 0 0, nerrV 7]) ∧ Chg (fun _ => False) w w' := by
  have c1 := h.on
  rw [hon] at c1
  clear hon
  go_enter Tryz.func52, Tryz.ntmps52
  go_wp2_with fail
  refine (below_yes a 96 h0 h1 _).mono ?_
  rintro e w' ⟨rfl, rfl⟩
  go_wp2
  all_goals
    go_ret2
    exact ⟨rfl, (Chg.refl _ _)⟩
set_option maxHeartbeats 1000000 in
theorem read_yes (g : Nat) (s : Chp) (hs : s.Ok) (a : Nat) (ha : a < 96) (w : World) (h : ChipAt w g s) (hon : s.on = true) :
    Calls Tryz.prog 52 #[.pointer (some ⟨g, 0, none⟩), .int .i64 a] w fun e w' => e = .returned (.tuple #[.slice (some ⟨w.heap.size, 0, none⟩) 256 256, .nilIface]) ∧ Arr w' w.heap.size 5 (pgTo s a 4) ∧ ChipAt w' g (rdS s a) ∧ Chg (· = g) w w' := by
  have ha0 : (0 : Int) ≤ a := by omega
  have ha1 : (a : Int) < 96 := by omega
  have hmk := nmake256
  have hgs := h.lt
  have c1 := h.on
  rw [hon] at c1
  clear hon
  have hC1 := h.alloc (.cells (bcells nz256) 5)
  have hA1 : Arr (w.alloc (.cells (bcells nz256) 5)) w.heap.size 5 nz256 := Arr.new w 5 _
  have hG1 : Chg (· = g) w (w.alloc (.cells (bcells nz256) 5)) := (Chg.refl _ _).alloc _
  have HS := hyd hs
  clear h hs
  go_enter Tryz.func52, Tryz.ntmps52
  go_wp2_with fail
  refine (below_yes (a : Int) 96 ha0 ha1 _).mono ?_
  rintro e w' ⟨rfl, rfl⟩
  go_wp2_with fail
  clear hmk c1
  generalize hq : w'.heap.size = q at *
  have hqs := Nat.le_of_eq hq
  have HQ := hyd hq
  clear hq
  have hqg : q ≠ g := by omega
  generalize w'.alloc (.cells (bcells nz256) 5) = w1 at *
  go_loopw [20] (fun t20 wr => ∃ i : Nat, i ≤ 4 ∧ t20 = .int .i64 i ∧ Arr wr q 5 (pgZ s a i) ∧ ChipAt wr g s ∧ Chg (· = g) w' wr) (fun t20 _ => 4 - (intOf t20).toNat)
  case atStart => exact ⟨0, by omega, rfl, hA1, hC1, hG1⟩
  case round =>
    clear hA1 hC1 hG1
    obtain ⟨i, hi, rfl, hA, hC, hG⟩ := hrel
    by_cases hlt : i < 4
    · have hi0 : (0 : Int) ≤ (i : Int) := by omega
      have hi1 : (i : Int) < 4 := by omega
      have hn := (HS.out.ch (4 * a + i)).now
      have hsrc := hC.now HS.out (4 * a + i) (by omega)
      rw [show 130 * (4 * a + i) = a * 520 + i * 130 from by omega] at hsrc
      have hz := pgZ_length HS.out a i (by omega)
      have hcp := run_copy_row (P := Tryz.prog) wr.drew 55 55 3 5 q (i * 64) (256 - i * 64) (256 - i * 64) ⟨g, a * 520 + i * 130, none⟩ 64 64 (bcells (pgZ s a i)) 5 ((s.ch (4 * a + i)).now.map byt) Tryz.underlying55 size5 hA.drew (by rw [List.length_map, hn]; exact (Nat.min_eq_left (by omega)).symm) (src_byt (by rw [hn]; exact hsrc)) (by simp [hn, bcells_size, hz]; omega) (byt_one _)
      rw [show ((bcells (pgZ s a i)).toList.take (i * 64) ++ (s.ch (4 * a + i)).now.map byt ++ (bcells (pgZ s a i)).toList.drop (i * 64 + ((s.ch (4 * a + i)).now.map byt).length)).toArray = bcells (pgZ s a (i + 1)) from by
        rw [List.append_assoc, ← pgZ_lay HS.out a i hlt]; exact lay_row _ _ _, List.length_map, hn] at hcp
      have hA2 := hA.drew.row (pgZ s a (i + 1))
      have hG2 := hG.drew.setRow (g := q) (Or.inr (by omega)) (bcells (pgZ s a (i + 1)))
      have hC2 : ChipAt (wr.drew.setRow q (bcells (pgZ s a (i + 1)))) g s := hC.drew.other (setRow_other _ _ _ _ (fun e => hqg e.symm))
      clear hsrc hz hn hA hC hG
      generalize wr.drew.setRow q (bcells (pgZ s a (i + 1))) = w2 at *
      go_wp2_with fail
      go_region
      all_goals
        go_wp2
        exact ⟨⟨i + 1, by omega, by go_num, hA2, hC2, hG2⟩, by simp [intOf]; omega⟩
    · have e4 : i = 4 := by omega
      subst e4
      rw [pgZ_all] at hA
      have c2 := Sto.cell hC (49968 + a / 8) (by omega)
      rw [ccell_reads s (a / 8) (by omega)] at c2
      have f2 := Sto.frozen hC (49968 + a / 8)
      have hC2 : ChipAt (wr.setCell ⟨g, 49968 + a / 8, none⟩ (.int .i64 (wrap64 ((s.bl (a / 8)).reads + 1)))) g (rdS s a) := Sto.ext (Sto.setCell hC _ _) (fun i _ => ccell_setReads s (a / 8) (by omega) _ i)
      have hA2 := hA.setOther (k := g) (fun e => hqg e.symm) (49968 + a / 8) (.int .i64 (wrap64 ((s.bl (a / 8)).reads + 1)))
      have hG2 := hG.at g (49968 + a / 8) (.int .i64 (wrap64 ((s.bl (a / 8)).reads + 1)))
      go_wp2_with fail
      refine (add_any g (49968 + a / 8) _ c2 f2).mono ?_
      rintro e w2 ⟨rfl, rfl⟩
      clear hA hC hG c2 f2
      go_wp2
      go_ret2
      rw [HQ.out]
      exact ⟨rfl, hA2, hC2, hG2⟩
end Go.Proofs.YtifjmilegogbaaaGreat
