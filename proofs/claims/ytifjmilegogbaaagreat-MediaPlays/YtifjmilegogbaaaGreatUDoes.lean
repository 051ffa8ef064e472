/-
  nand.New: a chip. No condition. What is done with a chip: Write, Erase, Flip, FailProgram, FailErase, Cut. Condition: the block holds a chip that can be. Write. Condition: the block holds a chip that can be; the bytes lie elsewhere.
-/
import Derived.Test.YtifjmilegogbaaaGreatUTurn
namespace Go.Proofs.YtifjmilegogbaaaGreat
open Go.RowKit
set_option maxRecDepth 1000000
def zBlo : Blo := ⟨false, false, 0, false, 0⟩
/-- A new chip. -/
def newS : Chp := { ch := fun _ => newK, bl := fun _ => zBlo, on := true, lim := false, bud := 0, steps := 0 }
theorem bys_rep (n v : Nat) (h : v < 256) : Bys (List.replicate n v) := fun m hm => by rw [(List.mem_replicate.1 hm).2]; exact h
theorem newK_ok : newK.Ok := ⟨rfl, rfl, bys_rep _ _ (by omega), bys_rep _ _ (by omega), by decide⟩
theorem zBlo_ok : zBlo.Ok := ⟨by decide, fun _ => rfl, by decide, by decide⟩
theorem newS_ok : newS.Ok := ⟨fun _ => newK_ok, fun _ => zBlo_ok, by decide, by decide, by decide⟩
def tail73 : List Value := ((List.range 12).flatMap fun _ => blc zBlo) ++ (List.replicate 12 (.int .i64 0) ++ [.bool false, .bool false, .int .i64 0, .int .i64 0])
theorem zero_tail : Tryz.zeroCells107.toList.drop 49920 = tail73 := by kernel_rfl
theorem tail_bl : ∀ j : Fin 48, tail73[j.val]? = some ((blc zBlo).getD (j.val % 4) undef) := by
  intro j
  match j with
  | ⟨j, hj⟩ =>
    simp only
    have : ∀ q r : Nat, q < 12 → r < 4 → tail73[4 * q + r]? = some ((blc zBlo).getD r undef) := by
      intro q r hq hr
      rcases (by omega : q = 0 ∨ q = 1 ∨ q = 2 ∨ q = 3 ∨ q = 4 ∨ q = 5 ∨ q = 6 ∨ q = 7 ∨ q = 8 ∨ q = 9 ∨ q = 10 ∨ q = 11) with e | e | e | e | e | e | e | e | e | e | e | e <;> subst e <;>
      rcases (by omega : r = 0 ∨ r = 1 ∨ r = 2 ∨ r = 3) with e | e | e | e <;> subst e <;> rfl
    have h := this (j / 4) (j % 4) (by omega) (by omega)
    rw [show 4 * (j / 4) + j % 4 = j from by omega] at h
    exact h
theorem zero_bl (i : Nat) (h1 : 49920 ≤ i) (h2 : i < 49968) : Tryz.zeroCells107[i]? = some (ccell newS i) := by
  have h := tail_bl ⟨i - 49920, by omega⟩
  rw [← zero_tail, List.getElem?_drop, Array.getElem?_toList] at h
  simp only at h
  rw [show 49920 + (i - 49920) = i from by omega] at h
  rw [h]
  unfold ccell
  rw [if_neg (by omega), if_pos h2]; rfl
theorem zero_steps : Tryz.zeroCells107[49983]? = some (.int .i64 0) := by
  have h : tail73[63]? = some (.int .i64 0) := rfl
  rw [← zero_tail, List.getElem?_drop, Array.getElem?_toList] at h
  exact h
def made73 (z : Array Value) : Array Value := ((z.setIfInBounds 49980 (Value.bool true)).setIfInBounds 49981 (Value.bool false)).setIfInBounds 49982 (Value.int IntKind.i64 0)
theorem made_size : (made73 Tryz.zeroCells107).size = 49984 := by unfold made73; rw [Array.size_setIfInBounds, Array.size_setIfInBounds, Array.size_setIfInBounds]; exact Tryz.zeroCells107_size
theorem made_bl (i : Nat) (h1 : 49920 ≤ i) (h2 : i < 49968) : (made73 Tryz.zeroCells107)[i]? = some (ccell newS i) := by
  unfold made73
  rw [Array.getElem?_setIfInBounds_ne (by omega), Array.getElem?_setIfInBounds_ne (by omega), Array.getElem?_setIfInBounds_ne (by omega)]
  exact zero_bl i h1 h2
theorem made_pw (i : Nat) (h1 : 49980 ≤ i) (h2 : i < 49984) : (made73 Tryz.zeroCells107)[i]? = some (ccell newS i) := by
  have hs := Tryz.zeroCells107_size
  unfold made73
  rcases (by omega : i = 49980 ∨ i = 49981 ∨ i = 49982 ∨ i = 49983) with e | e | e | e <;> subst e
  · rw [Array.getElem?_setIfInBounds_ne (by omega), Array.getElem?_setIfInBounds_ne (by omega), Array.getElem?_setIfInBounds_self_of_lt (by omega)]; rfl
  · rw [Array.getElem?_setIfInBounds_ne (by omega), Array.getElem?_setIfInBounds_self_of_lt (by rw [Array.size_setIfInBounds]; omega)]; rfl
  · rw [Array.getElem?_setIfInBounds_self_of_lt (by rw [Array.size_setIfInBounds, Array.size_setIfInBounds]; omega)]; rfl
  · rw [Array.getElem?_setIfInBounds_ne (by omega), Array.getElem?_setIfInBounds_ne (by omega), Array.getElem?_setIfInBounds_ne (by omega), zero_steps]; rfl
theorem blk_new (w : World) (cs : Array Value) (t : TypeId) (n : Nat) (h : cs.size = n) : Sto (w.alloc (.cells cs t)) w.heap.size t n (fun i => cs[i]?.getD undef) :=
  ⟨cs, by show (w.heap.push _)[w.heap.size]? = _; simp, h, fun i hi => by
    have e : cs[i]? = some cs[i] := Array.getElem?_eq_getElem (by omega)
    simp only [e]; rfl⟩
theorem new_cell (i : Nat) (h : i < 49920) : ccell newS i = (ckc newK).getD (i % 130) undef := by unfold ccell; rw [if_pos h]; rfl
theorem Chg.fresh {u w w' : World} {g : Nat} (h : Chg (fun _ => False) u w) (h2 : Chg (· = g) w w') (hg : u.heap.size ≤ g) : Chg (fun _ => False) u w' := h.trans' h2 (fun i hi e => by omega)
set_option maxHeartbeats 1000000 in
theorem nnew_any (w : World) :
    Calls Tryz.prog 27 #[] w fun e w' => e = .returned (.pointer (some ⟨w.heap.size, 0, none⟩)) ∧ ChipAt w' w.heap.size newS ∧ Chg (fun _ => False) w w' := by
  have hB0 := blk_new w (made73 Tryz.zeroCells107) 107 49984 made_size
  have hG0 : Chg (fun _ => False) w (w.alloc (.cells (made73 Tryz.zeroCells107) 107)) := (Chg.refl _ _).alloc _
  have HM : Hid (((Tryz.zeroCells107.setIfInBounds 49980 (Value.bool true)).setIfInBounds 49981 (Value.bool false)).setIfInBounds 49982 (Value.int IntKind.i64 0) = (made73 Tryz.zeroCells107)) := rfl
  go_enter Tryz.func27, Tryz.ntmps27
  go_wp2_with fail
  rw [HM.out]
  clear HM
  generalize hq : w.heap.size = q at *
  have hqs := Nat.le_of_eq hq
  have HQ := hyd hq
  clear hq
  generalize w.alloc (.cells (made73 Tryz.zeroCells107) 107) = w1 at *
  go_loopw [6] (fun t6 wr => ∃ (b : Nat) (f : Nat → Value), b ≤ 12 ∧ t6 = .int .i64 b ∧ Sto wr q 107 49984 f ∧ (∀ i, 49920 ≤ i → i < 49968 → f i = ccell newS i) ∧ (∀ i, 49980 ≤ i → i < 49984 → f i = ccell newS i) ∧ (∀ i, i < 4160 * b → f i = ccell newS i) ∧ (∀ c, c < b → f (49968 + c) = .int .i64 0) ∧ Chg (fun _ => False) w wr) (fun t6 _ => 12 - (intOf t6).toNat)
  case atStart => exact ⟨0, _, by omega, rfl, hB0, fun i h1 h2 => by rw [made_bl i h1 h2]; rfl, fun i h1 h2 => by rw [made_pw i h1 h2]; rfl, fun i hi => by omega, fun c hc => by omega, hG0⟩
  case round =>
    clear hB0 hG0
    obtain ⟨b, f, hb, rfl, hB, h1, h2, h3, h4, hG⟩ := hrel
    by_cases hlt : b < 12
    · have H1 := hyd h1
      have H2 := hyd h2
      have H3 := hyd h3
      have H4 := hyd h4
      clear h1 h2 h3 h4
      go_wp2_with fail
      refine (clear_block q b hlt f _ hB).mono ?_
      rintro e w2 ⟨rfl, hB2, hG2⟩
      have hG3 := hG.fresh hG2 hqs
      clear hG hG2 hB
      go_wp2
      refine ⟨⟨b + 1, _, by omega, by go_num, hB2, fun i g1 g2 => ?_, fun i g1 g2 => ?_, fun i g1 => ?_, fun c g1 => ?_, hG3⟩, by simp [intOf]; omega⟩
      · rw [upL_one, if_neg (by omega)]
        unfold clrF
        rw [if_neg (by omega)]
        exact H1.out i g1 g2
      · rw [upL_one, if_neg (by omega)]
        unfold clrF
        rw [if_neg (by omega)]
        exact H2.out i g1 g2
      · rw [upL_one, if_neg (by omega)]
        unfold clrF
        by_cases hc : 4160 * b ≤ i
        · rw [if_pos (by omega), new_cell i (by omega)]
        · rw [if_neg (by omega)]
          exact H3.out i (by omega)
      · rw [upL_one]
        by_cases hc : c = b
        · rw [if_pos (by omega)]
        · rw [if_neg (by omega)]
          unfold clrF
          rw [if_neg (by omega)]
          exact H4.out c (by omega)
    · have e : b = 12 := by omega
      subst e
      have hC : ChipAt wr q newS := hB.ext fun i hi => by
        by_cases g1 : i < 49920
        · exact h3 i (by omega)
        · by_cases g2 : i < 49968
          · exact h1 i (by omega) g2
          · by_cases g3 : i < 49980
            · have := h4 (i - 49968) (by omega)
              rw [show 49968 + (i - 49968) = i from by omega] at this
              rw [this]
              have h5 := ccell_reads newS (i - 49968) (by omega)
              rw [show 49968 + (i - 49968) = i from by omega] at h5
              rw [h5]; rfl
            · exact h2 i (by omega) hi
      clear h1 h2 h3 h4 hB
      go_wp2
      go_ret
      rw [HQ.out]
      exact ⟨rfl, hC, hG⟩
end Go.Proofs.YtifjmilegogbaaaGreat
namespace Go.Proofs.YtifjmilegogbaaaGreat
open Go.RowKit
set_option maxRecDepth 100000

/-- An error, by its number. -/
def nerrV : Nat → Value
  | 0 => .nilIface
  | n + 1 => .iface 58 (.int .i64 (n + 1 : Nat))
theorem Chp.Ok.off {s : Chp} (h : s.Ok) : (offS s).Ok := ⟨h.ch, h.bl, (by decide : 0 < 9223372036854775808), h.lo, h.hi⟩
theorem Chp.Ok.onn {s : Chp} (h : s.Ok) : (onS s).Ok := ⟨h.ch, h.bl, (by decide : 0 < 9223372036854775808), h.lo, h.hi⟩
theorem wrap64_lo (n : Int) : -9223372036854775808 ≤ wrap64 n := by unfold wrap64; omega
theorem wrap64_hi (n : Int) : wrap64 n < 9223372036854775808 := by unfold wrap64; omega
theorem Chp.Ok.go {s : Chp} (h : s.Ok) : (goS s).Ok := ⟨h.ch, h.bl, by have := h.bud; show (if s.lim then s.bud - 1 else s.bud) < _; split <;> omega, wrap64_lo _, wrap64_hi _⟩
theorem failW_ok {x : Blo} (h : x.Ok) : (failW x).Ok := ⟨by have := h.ahead; show x.ahead - 1 < _; omega, fun e => by have := h.none e; show x.ahead - 1 = 0; omega, h.lo, h.hi⟩
theorem failE_ok {x : Blo} (h : x.Ok) : (failE x).Ok := ⟨h.ahead, h.none, h.lo, h.hi⟩
theorem pgmK_ok {l : List Nat} (h : l.length = 64) (hb : Bys l) : (pgmK l).Ok := ⟨h, h, hb, hb, (by decide : 0 ≤ 64)⟩
/-- A step: the power goes at it, or it is counted. -/
theorem step_any (g : Nat) (s : Chp) (w : World) (hs : s.Ok) (h : ChipAt w g s) (hn : ¬ (s.lim = true ∧ s.bud = 0)) : Calls Tryz.prog 96 #[.pointer (some ⟨g, 0, none⟩)] w fun e w' => e = .returned (.bool true) ∧ ChipAt w' g (goS s) ∧ Chg (· = g) w w' := by
  cases hl : s.lim with
  | false => exact step_free g s w h hl
  | true => exact step_paid g s w hs h hl (fun e => hn ⟨hl, e⟩)
/-- The chip, a block of which was erased. -/
def erS (s : Chp) (b : Nat) : Chp := { (s.setBl b { s.bl b with reads := 0 }) with ch := fun j => if 32 * b ≤ j ∧ j < 32 * b + 32 then newK else s.ch j }
theorem Chp.Ok.er {s : Chp} (h : s.Ok) (b : Nat) : (erS s b).Ok := by
  have h1 : (s.setBl b { s.bl b with reads := 0 }).Ok := h.setBl b ⟨(h.bl b).ahead, (h.bl b).none, (by decide : (-9223372036854775808 : Int) ≤ 0), (by decide : (0 : Int) < 9223372036854775808)⟩
  refine ⟨fun c => ?_, h1.bl, h1.bud, h1.lo, h1.hi⟩
  show (if 32 * b ≤ c ∧ c < 32 * b + 32 then newK else s.ch c).Ok
  split
  · exact newK_ok
  · exact h.ch c
theorem ccell_er (s : Chp) (b : Nat) (hb : b < 12) (i : Nat) : upL (clrF (ccell s) b 32) (49968 + b) [.int .i64 0] i = ccell (erS s b) i := by
  by_cases h1 : i < 49920
  · rw [upL_one, if_neg (by omega)]
    unfold clrF ccell
    rw [if_pos h1, if_pos h1]
    show _ = (ckc (if 32 * b ≤ i / 130 ∧ i / 130 < 32 * b + 32 then newK else s.ch (i / 130))).getD (i % 130) undef
    by_cases h : 4160 * b ≤ i ∧ i < 4160 * b + 130 * 32
    · rw [if_pos h, if_pos (by omega)]
    · rw [if_neg h, if_neg (by omega)]
  · have e1 : clrF (ccell s) b 32 i = ccell s i := by unfold clrF; rw [if_neg (by omega)]
    have e2 : upL (clrF (ccell s) b 32) (49968 + b) [.int .i64 0] i = upL (ccell s) (49968 + b) [.int .i64 0] i := by rw [upL_one, upL_one, e1]
    rw [e2, ccell_setReads s b hb 0 i]
    unfold ccell
    rw [if_neg h1, if_neg h1]; rfl
theorem clear_chip (g b : Nat) (hb : b < 12) (s : Chp) (w : World) (h : ChipAt w g s) :
    Calls Tryz.prog 55 #[.pointer (some ⟨g, 0, none⟩), .int .i64 b] w fun e w' => e = .returned (.tuple #[]) ∧ ChipAt w' g (erS s b) ∧ Chg (· = g) w w' := by
  refine (clear_block g b hb _ w h).mono ?_
  rintro e w' ⟨rfl, h1, h2⟩
  exact ⟨rfl, h1.ext fun i _ => ccell_er s b hb i, h2⟩

def eraseR (s : Chp) (b : Int) : Chp × Nat :=
  if ¬ (0 ≤ b ∧ b < 12) then (s, 1) else
  if s.on = false then (s, 7) else
  if s.lim = true ∧ s.bud = 0 then (offS s, 7) else
  if (failE (s.bl b.toNat)).failed = true then ((goS s).setBl b.toNat (failE (s.bl b.toNat)), 8) else
  (erS ((goS s).setBl b.toNat (failE (s.bl b.toNat))) b.toNat, 0)
theorem eraseR_ok {s : Chp} (h : s.Ok) (b : Int) : (eraseR s b).1.Ok := by
  unfold eraseR
  split
  · exact h
  · split
    · exact h
    · split
      · exact h.off
      · split
        · exact h.go.setBl _ (failE_ok (h.bl _))
        · exact (h.go.setBl _ (failE_ok (h.bl _))).er _
set_option maxHeartbeats 1000000 in
theorem erase_any (g : Nat) (s : Chp) (hs : s.Ok) (b : Int) (w : World) (h : ChipAt w g s) :
    Calls Tryz.prog 65 #[.pointer (some ⟨g, 0, none⟩), .int .i64 b] w fun e w' => e = .returned (nerrV (eraseR s b).2) ∧ ChipAt w' g (eraseR s b).1 ∧ Chg (· = g) w w' := by
  unfold eraseR
  by_cases hb : 0 ≤ b ∧ b < 12
  · rw [if_neg (by simpa using hb)]
    obtain ⟨hb0, hb1⟩ := hb
    have c1 := h.on
    cases hon : s.on with
    | false =>
      rw [if_pos rfl]
      rw [hon] at c1
      clear hon
      go_enter Tryz.func65, Tryz.ntmps65
      go_wp2_with fail
      refine (below_yes b 12 hb0 hb1 _).mono ?_
      rintro e w' ⟨rfl, rfl⟩
      go_wp2
      go_ret
      exact ⟨rfl, h, Chg.refl _ _⟩
    | true =>
      rw [if_neg (by simp)]
      rw [hon] at c1
      clear hon
      by_cases hc : s.lim = true ∧ s.bud = 0
      · rw [if_pos hc]
        obtain ⟨hl, h0⟩ := hc
        have HL := hyd hl
        have H0 := hyd h0
        clear hl h0
        go_enter Tryz.func65, Tryz.ntmps65
        go_wp2_with fail
        refine (below_yes b 12 hb0 hb1 _).mono ?_
        rintro e w' ⟨rfl, rfl⟩
        go_wp2_with fail
        refine (step_cut g s _ h HL.out H0.out).mono ?_
        rintro e w' ⟨rfl, h1, hG⟩
        go_wp2
        go_ret
        exact ⟨rfl, h1, hG⟩
      · rw [if_neg hc]
        obtain ⟨n, rfl⟩ := Int.eq_ofNat_of_zero_le hb0
        have hn : n < 12 := by omega
        rw [Int.toNat_natCast]
        have HS := hyd hs
        have HC := hyd hc
        clear hs hc
        cases hf : (failE (s.bl n)).failed with
        | true =>
          rw [if_pos rfl]
          have HF := hyd hf
          clear hf
          go_enter Tryz.func65, Tryz.ntmps65
          go_wp2_with fail
          refine (below_yes (n : Int) 12 hb0 hb1 _).mono ?_
          rintro e w' ⟨rfl, rfl⟩
          go_wp2_with fail
          refine (step_any g s _ HS.out h HC.out).mono ?_
          rintro e w1 ⟨rfl, h1, hG⟩
          clear h c1
          go_wp2_with fail
          rw [show 49920 + n * 4 = 49920 + 4 * n from by omega]
          refine (failsAtErase_any g n hn (goS s) _ h1).mono ?_
          rintro e w2 ⟨rfl, h2, hG2⟩
          rw [show (failE ((goS s).bl n)).failed = true from HF.out]
          go_wp2
          go_ret
          exact ⟨rfl, h2, hG.trans hG2⟩
        | false =>
          rw [if_neg (by simp)]
          have HF := hyd hf
          clear hf
          go_enter Tryz.func65, Tryz.ntmps65
          go_wp2_with fail
          refine (below_yes (n : Int) 12 hb0 hb1 _).mono ?_
          rintro e w' ⟨rfl, rfl⟩
          go_wp2_with fail
          refine (step_any g s _ HS.out h HC.out).mono ?_
          rintro e w1 ⟨rfl, h1, hG⟩
          clear h c1
          go_wp2_with fail
          rw [show 49920 + n * 4 = 49920 + 4 * n from by omega]
          refine (failsAtErase_any g n hn (goS s) _ h1).mono ?_
          rintro e w2 ⟨rfl, h2, hG2⟩
          rw [show (failE ((goS s).bl n)).failed = false from HF.out]
          have hG3 := hG.trans hG2
          clear hG hG2 h1
          go_wp2_with fail
          refine (clear_chip g n hn _ _ h2).mono ?_
          rintro e w3 ⟨rfl, h3, hG4⟩
          go_wp2
          go_ret
          exact ⟨rfl, h3, hG3.trans hG4⟩
  · rw [if_pos (by simpa using hb)]
    go_enter Tryz.func65, Tryz.ntmps65
    go_wp2_with fail
    refine (below_no b 12 (by omega) _).mono ?_
    rintro e w' ⟨rfl, rfl⟩
    go_wp2
    go_ret
    exact ⟨rfl, h, Chg.refl _ _⟩
end Go.Proofs.YtifjmilegogbaaaGreat
namespace Go.Proofs.YtifjmilegogbaaaGreat
open Go.RowKit
set_option maxRecDepth 100000

def writeR (s : Chp) (a k : Int) (l : List Nat) : Chp × Nat :=
  if ¬ (0 ≤ a ∧ a < 96 ∧ 0 ≤ k ∧ k < 4) ∨ l.length ≠ 64 then (s, 1) else
  if s.on = false then (s, 7) else
  if (s.ch (4 * a.toNat + k.toNat)).is = true then (s, 9) else
  if s.lim = true ∧ s.bud = 0 then (offS s, 7) else
  if (failW (s.bl (a.toNat / 8))).failed = true then ((goS s).setBl (a.toNat / 8) (failW (s.bl (a.toNat / 8))), 8) else
  (((goS s).setBl (a.toNat / 8) (failW (s.bl (a.toNat / 8)))).setCh (4 * a.toNat + k.toNat) (pgmK l), 0)
theorem writeR_ok {s : Chp} (h : s.Ok) (a k : Int) {l : List Nat} (hl : Bys l) : (writeR s a k l).1.Ok := by
  unfold writeR
  split
  · exact h
  · rename_i h1
    split
    · exact h
    · split
      · exact h
      · split
        · exact h.off
        · split
          · exact h.go.setBl _ (failW_ok (h.bl _))
          · exact (h.go.setBl _ (failW_ok (h.bl _))).setCh _ (pgmK_ok (by omega) hl)
theorem ChipAt.is {w : World} {g : Nat} {s : Chp} (h : ChipAt w g s) (hs : s.Ok) (c : Nat) (hc : c < 384) : w.cell? ⟨g, 130 * c + 128, none⟩ = some (.bool (s.ch c).is) := by
  rw [Sto.cell h _ (by omega)]
  congr 1
  exact ckc_is (hs.ch c).now (hs.ch c).tru (ccell_ch s hs c hc)
theorem program_chip (g : Nat) (s : Chp) (c : Nat) (hc : c < 384) (oo q cap : Nat) (hq : q ≠ g) (l : List Nat) (hl : l.length = 64) (w : World) (h : ChipAt w g s)
    (hsrc : ∀ i, i < 64 → w.cell? ⟨q, oo + i, none⟩ = some (.int .u8 (l.getD i 0 : Nat))) :
    Calls Tryz.prog 100 #[.pointer (some ⟨g, 130 * c, none⟩), .slice (some ⟨q, oo, none⟩) 64 cap] w fun e w' => e = .returned (.tuple #[]) ∧ ChipAt w' g (s.setCh c (pgmK l)) ∧ Chg (· = g) w w' := by
  refine (program_any g (130 * c) 107 49984 _ (by omega) q oo cap hq l hl w h hsrc).mono ?_
  rintro e w' ⟨rfl, h1, h2⟩
  exact ⟨rfl, h1.ext fun i _ => ccell_setCh s c hc _ (ckc_length hl hl) i, h2⟩
set_option maxHeartbeats 2000000 in
theorem write_arg1 (g : Nat) (a k : Int) (h : a < 0 ∨ 96 ≤ a ∨ k < 0 ∨ 4 ≤ k) (v : Value) (w : World) :
    Calls Tryz.prog 73 #[.pointer (some ⟨g, 0, none⟩), .int .i64 a, .int .i64 k, v] w fun e w' => e = .returned (nerrV 1) ∧ w' = w := by
  go_enter Tryz.func73, Tryz.ntmps73
  go_wp2_with fail
  refine (isChunk_no a k h _).mono ?_
  rintro e w' ⟨rfl, rfl⟩
  go_wp2
  go_ret
  exact ⟨rfl, rfl⟩
theorem write_arg2 (g : Nat) (a k : Int) (h0 : 0 ≤ a) (h1 : a < 96) (h2 : 0 ≤ k) (h3 : k < 4) (ad : Option Addr) (n cap : Nat) (hn : n ≠ 64) (w : World) :
    Calls Tryz.prog 73 #[.pointer (some ⟨g, 0, none⟩), .int .i64 a, .int .i64 k, .slice ad n cap] w fun e w' => e = .returned (nerrV 1) ∧ w' = w := by
  have hne : ((n : Int) != 64) = true := by rw [bne_iff_ne]; omega
  go_enter Tryz.func73, Tryz.ntmps73
  go_wp2_with fail
  refine (isChunk_yes a k h0 h1 h2 h3 _).mono ?_
  rintro e w' ⟨rfl, rfl⟩
  go_wp2
  go_ret
  exact ⟨rfl, rfl⟩
set_option maxHeartbeats 2000000 in
theorem write_good (g : Nat) (s : Chp) (hs : s.Ok) (a k : Nat) (ha : a < 96) (hk : k < 4) (l : List Nat) (hl : l.length = 64) (q oo cap : Nat) (hq : q ≠ g) (w : World) (h : ChipAt w g s)
    (hsrc : ∀ i, i < 64 → w.cell? ⟨q, oo + i, none⟩ = some (.int .u8 (l.getD i 0 : Nat))) (hqs : q < w.heap.size) :
    Calls Tryz.prog 73 #[.pointer (some ⟨g, 0, none⟩), .int .i64 a, .int .i64 k, .slice (some ⟨q, oo, none⟩) 64 cap] w fun e w' => e = .returned (nerrV (writeR s a k l).2) ∧ ChipAt w' g (writeR s a k l).1 ∧ Chg (· = g) w w' := by
  unfold writeR
  rw [if_neg (by omega), Int.toNat_natCast, Int.toNat_natCast]
  have ha0 : (0 : Int) ≤ a := by omega
  have ha1 : (a : Int) < 96 := by omega
  have hk0 : (0 : Int) ≤ k := by omega
  have hk1 : (k : Int) < 4 := by omega
  have c1 := h.on
  have c2 := h.is hs (4 * a + k) (by omega)
  have HSRC := hyd hsrc
  have HL := hyd hl
  have HS := hyd hs
  clear hsrc hl hs
  rw [show 130 * (4 * a + k) + 128 = a * 520 + k * 130 + 128 from by omega] at c2
  cases hon : s.on with
  | false =>
    rw [if_pos rfl]
    rw [hon] at c1
    clear hon
    go_enter Tryz.func73, Tryz.ntmps73
    go_wp2_with fail
    refine (isChunk_yes a k ha0 ha1 hk0 hk1 _).mono ?_
    rintro e w' ⟨rfl, rfl⟩
    go_wp2
    go_ret
    exact ⟨rfl, h, Chg.refl _ _⟩
  | true =>
    rw [if_neg (by simp)]
    rw [hon] at c1
    clear hon
    cases his : (s.ch (4 * a + k)).is with
    | true =>
      rw [if_pos rfl]
      rw [his] at c2
      clear his
      go_enter Tryz.func73, Tryz.ntmps73
      go_wp2_with fail
      refine (isChunk_yes a k ha0 ha1 hk0 hk1 _).mono ?_
      rintro e w' ⟨rfl, rfl⟩
      go_wp2
      go_ret
      exact ⟨rfl, h, Chg.refl _ _⟩
    | false =>
      rw [if_neg (by simp)]
      rw [his] at c2
      clear his
      by_cases hc : s.lim = true ∧ s.bud = 0
      · rw [if_pos hc]
        have HC := hyd hc
        clear hc
        go_enter Tryz.func73, Tryz.ntmps73
        go_wp2_with fail
        refine (isChunk_yes a k ha0 ha1 hk0 hk1 _).mono ?_
        rintro e w' ⟨rfl, rfl⟩
        go_wp2_with fail
        refine (step_cut g s _ h HC.out.1 HC.out.2).mono ?_
        rintro e w' ⟨rfl, h1, hG⟩
        go_wp2
        go_ret
        exact ⟨rfl, h1, hG⟩
      · rw [if_neg hc]
        have HC := hyd hc
        clear hc
        cases hf : (failW (s.bl (a / 8))).failed with
        | true =>
          rw [if_pos rfl]
          have HF := hyd hf
          clear hf
          go_enter Tryz.func73, Tryz.ntmps73
          go_wp2_with fail
          refine (isChunk_yes a k ha0 ha1 hk0 hk1 _).mono ?_
          rintro e w' ⟨rfl, rfl⟩
          go_wp2_with fail
          refine (step_any g s _ HS.out h HC.out).mono ?_
          rintro e w1 ⟨rfl, h1, hG⟩
          clear h c1 c2
          go_wp2_with fail
          rw [show 49920 + a / 8 * 4 = 49920 + 4 * (a / 8) from by omega]
          refine (failsAtWrite_any g (a / 8) (by omega) (goS s) HS.out.go _ h1).mono ?_
          rintro e w2 ⟨rfl, h2, hG2⟩
          rw [show (failW ((goS s).bl (a / 8))).failed = true from HF.out]
          go_wp2
          go_ret
          exact ⟨rfl, h2, hG.trans hG2⟩
        | false =>
          rw [if_neg (by simp)]
          have HF := hyd hf
          clear hf
          go_enter Tryz.func73, Tryz.ntmps73
          go_wp2_with fail
          refine (isChunk_yes a k ha0 ha1 hk0 hk1 _).mono ?_
          rintro e w' ⟨rfl, rfl⟩
          go_wp2_with fail
          refine (step_any g s _ HS.out h HC.out).mono ?_
          rintro e w1 ⟨rfl, h1, hG⟩
          clear h c1 c2
          go_wp2_with fail
          rw [show 49920 + a / 8 * 4 = 49920 + 4 * (a / 8) from by omega]
          refine (failsAtWrite_any g (a / 8) (by omega) (goS s) HS.out.go _ h1).mono ?_
          rintro e w2 ⟨rfl, h2, hG2⟩
          rw [show (failW ((goS s).bl (a / 8))).failed = false from HF.out]
          have hG3 := hG.trans hG2
          have HSRC2 := hyd fun i (hi : i < 64) => (World.cell?_of_block (a := ⟨q, oo + i, none⟩) (hG3.block q hqs hq)).trans (HSRC.out i hi)
          clear h1 hG hG2
          go_wp2_with fail
          rw [show a * 520 + k * 130 = 130 * (4 * a + k) from by omega]
          refine (program_chip g _ (4 * a + k) (by omega) oo q cap hq l HL.out _ h2 HSRC2.out).mono ?_
          rintro e w3 ⟨rfl, h3, hG4⟩
          have hG5 := hG3.trans hG4
          clear hG3 hG4 h2 HSRC HSRC2
          go_wp2
          go_ret
          exact ⟨rfl, h3, hG5⟩
/-- Write, whatever is handed in. -/
theorem write_any (g : Nat) (s : Chp) (hs : s.Ok) (a k : Int) (l : List Nat) (v : Value) (w : World) (hv : Held w v l) (hq : v.ownBlock ≠ some g) (h : ChipAt w g s) :
    Calls Tryz.prog 73 #[.pointer (some ⟨g, 0, none⟩), .int .i64 a, .int .i64 k, v] w fun e w' => e = .returned (nerrV (writeR s a k l).2) ∧ ChipAt w' g (writeR s a k l).1 ∧ Chg (· = g) w w' := by
  by_cases hc : 0 ≤ a ∧ a < 96 ∧ 0 ≤ k ∧ k < 4
  · obtain ⟨ad, cap, rfl, hx⟩ := hv
    by_cases hl : l.length = 64
    · obtain ⟨a, rfl⟩ := Int.eq_ofNat_of_zero_le hc.1
      obtain ⟨k, rfl⟩ := Int.eq_ofNat_of_zero_le hc.2.2.1
      rcases hx with hx | ⟨q, oo, rfl, hqs, hx⟩
      · omega
      · rw [hl] at hx hq ⊢
        exact write_good g s hs a k (by omega) (by omega) l hl q oo cap (fun e => hq (by rw [e]; rfl)) w h hx hqs
    · have e : writeR s a k l = (s, 1) := by unfold writeR; rw [if_pos (Or.inr hl)]
      rw [e]
      refine (write_arg2 g a k hc.1 hc.2.1 hc.2.2.1 hc.2.2.2 ad l.length cap hl w).mono ?_
      rintro e w' ⟨rfl, rfl⟩
      exact ⟨rfl, h, Chg.refl _ _⟩
  · have e : writeR s a k l = (s, 1) := by unfold writeR; rw [if_pos (Or.inl hc)]
    rw [e]
    refine (write_arg1 g a k (by omega) v w).mono ?_
    rintro e w' ⟨rfl, rfl⟩
    exact ⟨rfl, h, Chg.refl _ _⟩
end Go.Proofs.YtifjmilegogbaaaGreat
