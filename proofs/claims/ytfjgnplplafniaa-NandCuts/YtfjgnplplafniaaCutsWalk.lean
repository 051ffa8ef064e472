/-
  NandCuts answers true. Conditions: the integers lie where the slice says.
-/
import Derived.Test.YtfjgnplplafniaaShown
namespace Go.Proofs.Ytfjgnplplafniaa
open Go.RowKit
set_option maxRecDepth 100000

/-- A slice of integers. -/
def IsInts (w : World) (a : Option Addr) (len : Nat) (T : Nat → Int) : Prop :=
  (∀ i, i < len → -9223372036854775808 ≤ T i ∧ T i ≤ 9223372036854775807) ∧
  (len = 0 ∨ ∃ g o, a = some ⟨g, o, none⟩ ∧ g < w.heap.size ∧ ∀ i, i < len → w.cell? ⟨g, o + i, none⟩ = some (.int .i64 (T i)))
theorem IsInts.chg {w w' : World} {a : Option Addr} {len : Nat} {T : Nat → Int} (h : IsInts w a len T) (hc : Chg (fun _ => False) w w') : IsInts w' a len T := by
  refine ⟨h.1, ?_⟩
  rcases h.2 with h1 | ⟨g, o, h1, h2, h3⟩
  · exact Or.inl h1
  · exact Or.inr ⟨g, o, h1, Nat.lt_of_lt_of_le h2 hc.size, fun i hi => (World.cell?_of_block (a := ⟨g, o + i, none⟩) (hc.block g h2 (fun f => f))).trans (h3 i hi)⟩
/-- What holds between two writes: d are done of n. -/
structure CutInv (s : Chp) (n d : Nat) : Prop where
  ok : s.Ok
  st : s.steps = d
  bl : ∀ b, (s.bl b).failed = false ∧ (s.bl b).wf = false ∧ (s.bl b).ef = false
  le : d ≤ n
  pw : (s.on = true ∧ s.lim = true ∧ s.bud + d = n) ∨ (s.on = false ∧ d = n)
theorem wr_off {s : Chp} {a k : Nat} {l : List Nat} (ha : a < 96) (hk : k < 4) (hl : l.length = 64) (h : s.on = false) : writeR s a k l = (s, 7) := by
  unfold writeR; rw [if_neg (by omega), if_pos h]
theorem wr_is {s : Chp} {a k : Nat} {l : List Nat} (ha : a < 96) (hk : k < 4) (hl : l.length = 64) (h : s.on = true) (hi : (s.ch (4 * a + k)).is = true) : writeR s a k l = (s, 9) := by
  unfold writeR; rw [if_neg (by omega), if_neg (by simp [h]), Int.toNat_natCast, Int.toNat_natCast, if_pos hi]
theorem wr_cut {s : Chp} {a k : Nat} {l : List Nat} (ha : a < 96) (hk : k < 4) (hl : l.length = 64) (h : s.on = true) (hi : (s.ch (4 * a + k)).is = false) (hc : s.lim = true ∧ s.bud = 0) : writeR s a k l = (offS s, 7) := by
  unfold writeR; rw [if_neg (by omega), if_neg (by simp [h]), Int.toNat_natCast, Int.toNat_natCast, if_neg (by simp [hi]), if_pos hc]
theorem wr_ok {s : Chp} {a k : Nat} {l : List Nat} (ha : a < 96) (hk : k < 4) (hl : l.length = 64) (h : s.on = true) (hi : (s.ch (4 * a + k)).is = false) (hc : ¬ (s.lim = true ∧ s.bud = 0)) (hf : (failW (s.bl (a / 8))).failed = false) :
    writeR s a k l = (((goS s).setBl (a / 8) (failW (s.bl (a / 8)))).setCh (4 * a + k) (pgmK l), 0) := by
  unfold writeR; rw [if_neg (by omega), if_neg (by simp [h]), Int.toNat_natCast, Int.toNat_natCast, if_neg (by simp [hi]), if_neg hc, if_neg (by simp [hf])]
/-- One write, between two looks at the chunk. -/
theorem cut_step {s : Chp} {n d a k : Nat} {l : List Nat} (hI : CutInv s n d) (hn : n < 40) (ha : a < 96) (hk : k < 4) (hl : l.length = 64) (hb : Bys l) :
    ((writeR s a k l).2 = 0 ∧ s.on = true ∧ (s.ch (4 * a + k)).is = false ∧ ((writeR s a k l).1.ch (4 * a + k)).is = true ∧ CutInv (writeR s a k l).1 n (d + 1)) ∨
    ((writeR s a k l).2 = 9 ∧ s.on = true ∧ (s.ch (4 * a + k)).is = true ∧ ((writeR s a k l).1.ch (4 * a + k)).is = true ∧ CutInv (writeR s a k l).1 n d) ∨
    ((writeR s a k l).2 = 7 ∧ ((writeR s a k l).1.ch (4 * a + k)).is = (s.ch (4 * a + k)).is ∧ d = n ∧ (writeR s a k l).1.on = false ∧ CutInv (writeR s a k l).1 n d) := by
  have hok := writeR_ok hI.ok a k hb (l := l)
  rcases hI.pw with ⟨h1, h2, h3⟩ | ⟨h1, h2⟩
  · cases hi : (s.ch (4 * a + k)).is with
    | true => right; left; rw [wr_is ha hk hl h1 hi]; exact ⟨rfl, h1, rfl, hi, hI⟩
    | false =>
      by_cases hb0 : s.bud = 0
      · right; right
        rw [wr_cut ha hk hl h1 hi ⟨h2, hb0⟩] at hok ⊢
        exact ⟨rfl, hi, by omega, rfl, ⟨hok, hI.st, hI.bl, hI.le, Or.inr ⟨rfl, by omega⟩⟩⟩
      · left
        have hx := hI.bl (a / 8)
        have hf : (failW (s.bl (a / 8))).failed = false := by simp [failW, hx.1, hx.2.1]
        rw [wr_ok ha hk hl h1 hi (fun h => hb0 h.2) hf] at hok ⊢
        refine ⟨rfl, h1, rfl, by simp [Chp.setCh, pgmK], ⟨hok, ?_, fun b => ?_, by omega, Or.inl ⟨h1, h2, ?_⟩⟩⟩
        · show wrap64 (s.steps + 1) = _
          rw [hI.st]; unfold wrap64; omega
        · show ((if b = a / 8 then failW (s.bl (a / 8)) else s.bl b).failed = false) ∧ _
          by_cases e : b = a / 8
          · simp only [Chp.setCh, Chp.setBl, if_pos e]; exact ⟨hf, hx.2.1, hx.2.2⟩
          · simp only [Chp.setCh, Chp.setBl, if_neg e]; exact hI.bl b
        · show (if s.lim then s.bud - 1 else s.bud) + (d + 1) = n
          rw [h2, if_pos rfl]; omega
  · right; right
    rw [wr_off ha hk hl h1]
    exact ⟨rfl, rfl, h2, h1, hI⟩
theorem cut_start (n : Nat) (hn : n < 40) : CutInv (cutR newS n).1 n 0 := by
  have e : (cutR newS n).1 = { newS with lim := true, bud := n } := by
    unfold cutR; rw [if_neg (by omega), if_pos (show newS.on = true from rfl)]; rfl
  have hok := cutR_ok newS_ok (n : Int) (by omega)
  rw [e] at hok ⊢
  exact ⟨hok, rfl, fun _ => ⟨rfl, rfl, rfl⟩, by omega, Or.inl ⟨rfl, rfl, by simp⟩⟩
theorem cut_code (n : Nat) : (cutR newS n).2 = 0 := by unfold cutR; rw [if_neg (by omega)]
/-- No block has failed, or is to fail at an erase. -/
def Well (s : Chp) : Prop := ∀ b, (s.bl b).failed = false ∧ (s.bl b).ef = false
theorem erase_on {s : Chp} (h : Well s) (hon : s.on = true) (hc : ¬ (s.lim = true ∧ s.bud = 0)) : eraseR s 0 = (erS ((goS s).setBl 0 (failE (s.bl 0))) 0, 0) := by
  have hf : (failE (s.bl 0)).failed = false := by simp [failE, (h 0).1, (h 0).2]
  unfold eraseR
  rw [if_neg (by decide), if_neg (by simp [hon]), if_neg hc, show (0 : Int).toNat = 0 from rfl, if_neg (by simp [hf])]
theorem well_erased {s : Chp} (h : Well s) : Well (erS ((goS s).setBl 0 (failE (s.bl 0))) 0) := fun b => by
  have hf : (failE (s.bl 0)).failed = false := by simp [failE, (h 0).1, (h 0).2]
  by_cases e : b = 0
  · subst e
    simp only [erS, Chp.setBl, if_pos]
    exact ⟨hf, (h 0).2⟩
  · simp only [erS, Chp.setBl, if_neg e]
    exact h b
theorem well_read {s : Chp} (h : Well s) (a : Nat) : Well (rdS s a) := fun b => by
  by_cases e : b = a / 8
  · simp only [rdS, Chp.setBl, if_pos e]; exact h _
  · simp only [rdS, Chp.setBl, if_neg e]; exact h b
theorem pg_head {s : Chp} (h : s.ch 0 = newK) : (pgTo s 0 4).getD 0 0 = 255 := by
  simp only [pgTo, List.nil_append, List.append_assoc]
  rw [show 4 * 0 + 0 = 0 from rfl, h, List.getD_eq_getElem?_getD, List.getElem?_append_left (by decide)]
  rfl
/-- An erase while the power is on: whatever it answers, at most one step more. -/
theorem erase_end {s : Chp} {n d : Nat} (hok : s.Ok) (hw : Well s) (hst : s.steps = d) (hd : d ≤ n) (hn : n < 40) (hon : s.on = true) :
    (eraseR s 0).1.Ok ∧ Well (eraseR s 0).1 ∧ ∃ m : Nat, (eraseR s 0).1.steps = m ∧ m ≤ n + 1 := by
  have ho := eraseR_ok hok 0
  by_cases hc : s.lim = true ∧ s.bud = 0
  · have e : eraseR s 0 = (offS s, 7) := by
      unfold eraseR
      rw [if_neg (by decide), if_neg (by simp [hon]), if_pos hc]
    rw [e] at ho ⊢
    exact ⟨ho, hw, d, hst, by omega⟩
  · rw [erase_on hw hon hc] at ho ⊢
    exact ⟨ho, well_erased hw, d + 1, by show wrap64 (s.steps + 1) = _; rw [hst]; unfold wrap64; omega, by omega⟩
set_option maxHeartbeats 8000000 in
theorem nandCuts_walk (b : Int) (a : Option Addr) (len cap : Nat) (T : Nat → Int) (hb1 : -9223372036854775808 ≤ b) (hb2 : b ≤ 9223372036854775807) (hlen : len < 9223372036854775808) (w : World) (hT : IsInts w a len T) :
    Calls Try.prog 4 #[.int .i64 b, .slice a len cap] w fun e w' => e = .returned (.bool true) ∧ Below w.heap.size w w' := by
  have q1 := eql_nil_nil
  have q2 := neq_nil_nil
  have q3 := eql_e9_nil
  have q4 := eql_e9_e9
  have q5 := eql_e7_nil
  have q6 := eql_e7_e9
  have q7 := eql_e7_e7
  have q8 := neq_e7_e7
  go_enter Try.func4, Try.ntmps4
  go_wp2_with fail
  refine (shown_any w).mono ?_
  rintro e w1 ⟨rfl, G1⟩
  have HT := hyd hT
  clear hT
  go_wp2_with fail
  refine (new_any w1).mono ?_
  rintro e w2 ⟨rfl, C2, G2⟩
  have G2' : Chg (fun _ => False) w w2 := G1.trans G2
  have hgs : w.heap.size ≤ w1.heap.size := G1.size
  generalize w1.heap.size = g at *
  clear G1 G2
  go_wp2_with fail
  refine (pick_40 b hb1 hb2 _).mono ?_
  rintro e w3 ⟨n, hn, rfl, rfl⟩
  go_wp2_with fail
  refine (cut_any g newS n _ C2).mono ?_
  rintro e w4 ⟨rfl, C4, G4⟩
  rw [cut_code]
  have G4' := G2'.fresh G4 hgs
  have I4 := cut_start n hn
  generalize (cutR newS n).1 = s4 at *
  clear G2' G4 C2
  simp only [errV]
  go_wp2_with fail
  go_loopw [9, 10] (fun t9 t10 wr => ∃ (i d : Nat) (s : Chp), i ≤ len ∧ t10 = .int .i64 i ∧ t9 = .int .i64 d ∧ ChipAt wr g s ∧ CutInv s n d ∧ Chg (fun _ => False) w wr) (fun _ t10 _ => len - (intOf t10).toNat)
  case atStart => exact ⟨0, 0, s4, by omega, rfl, rfl, C4, I4, G4'⟩
  case round =>
    clear C4 I4 G4'
    obtain ⟨i, d, s, hi, rfl, rfl, C, I, G⟩ := hrel
    by_cases hlt : i < len
    · have hi0 : (0 : Int) ≤ (i : Int) := by omega
      have hi1 : (i : Int) < (len : Int) := by omega
      obtain ⟨hr, hc⟩ := HT.out.chg G
      rcases hc with hc | ⟨q, o, rfl, hq, hc⟩
      · omega
      have c1 := hc i hlt
      have r1 := hr i hlt
      generalize T i = x at *
      have HI := hyd I
      clear hr hc I
      go_wp2_with fail
      refine (pick_96 x r1.1 r1.2 _).mono ?_
      rintro e w5 ⟨p, hp, rfl, rfl⟩
      clear c1 r1
      have hk : i % 4 < 4 := Nat.mod_lt _ (by decide)
      go_wp2_with fail
      rw [show (i : Int) % 4 = ((i % 4 : Nat) : Int) from by omega]
      refine (truth_yes g s HI.out.ok p (i % 4) hp hk _ C).mono ?_
      rintro e w6 ⟨rfl, -, G6⟩
      have C6 := C.chg G6 (fun f => f)
      have G6' : Chg (fun _ => False) w w6 := G.trans G6
      clear C G G6
      go_wp2_with fail
      refine (on_any g s _ C6).mono ?_
      rintro e w7 ⟨rfl, rfl⟩
      go_wp2_with fail
      rw [show (i : Int) % 256 = ((i % 256 : Nat) : Int) from by omega]
      refine (some_any (i % 256) _).mono ?_
      rintro e w8 ⟨rfl, A8, G8⟩
      have C8 := C6.chg G8 (fun f => f)
      have G8' : Chg (fun _ => False) w w8 := G6'.trans G8
      have hll : (List.replicate 64 (i % 256)).length = 64 := List.length_replicate
      have hlb := bys_rep 64 (i % 256) (by omega)
      have hv8 := A8.heldFull 64 64 hll.symm
      have hne8 : (Value.slice (some ⟨w7.heap.size, 0, none⟩) 64 64).ownBlock ≠ some g := slice_ne (by have := C6.lt; omega)
      have HC := hyd (cut_step (a := p) (k := i % 4) HI.out hn hp hk hll hlb)
      generalize w7.heap.size = u at *
      generalize List.replicate 64 (i % 256) = l at *
      clear hll hlb A8 G8 G6' C6
      go_wp2_with fail
      rw [show (i : Int) % 4 = ((i % 4 : Nat) : Int) from by omega]
      refine (write_any g s HI.out.ok p ((i % 4 : Nat) : Int) l _ _ hv8 hne8 C8).mono ?_
      rintro e w9 ⟨rfl, C9, G9⟩
      have G9' := G8'.fresh G9 hgs
      clear G8' G9 C8 hv8 hne8
      generalize writeR s p ((i % 4 : Nat) : Int) l = ws at *
      obtain ⟨s', c⟩ := ws
      simp only at *
      have hok' : s'.Ok := by
        rcases HC.out with ⟨-, -, -, -, I2⟩ | ⟨-, -, -, -, I2⟩ | ⟨-, -, -, -, I2⟩ <;> exact I2.ok
      have HO := hyd hok'
      clear hok'
      go_wp2_with fail
      rw [show (i : Int) % 4 = ((i % 4 : Nat) : Int) from by omega]
      refine (truth_yes g s' HO.out p (i % 4) hp hk _ C9).mono ?_
      rintro e w10 ⟨rfl, -, G10⟩
      have C10 := C9.chg G10 (fun f => f)
      have G10' : Chg (fun _ => False) w w10 := G9'.trans G10
      clear C9 G9' G10
      rcases HC.out with ⟨rfl, e1, e2, e3, I2⟩ | ⟨rfl, e1, e2, e3, I2⟩ | ⟨rfl, e1, e2, e3, I2⟩
      · rw [e3, e2, e1]
        have HI2 := hyd I2
        have hd := I2.le
        clear e1 e2 e3 I2 HC HI
        simp only [errV]
        go_wp2
        exact ⟨⟨i + 1, d + 1, s', by omega, by go_num, by go_num, C10, HI2.out, G10'⟩, by simp [intOf]; omega⟩
      · rw [e3, e2, e1]
        have HI2 := hyd I2
        clear e1 e2 e3 I2 HC HI
        simp only [errV]
        go_wp2
        exact ⟨⟨i + 1, d, s', by omega, by go_num, rfl, C10, HI2.out, G10'⟩, by simp [intOf]; omega⟩
      · rw [e1]
        subst e2
        have HE3 := hyd e3
        have HI2 := hyd I2
        clear e1 e3 I2 HC HI
        simp only [errV]
        generalize (s.ch (4 * p + i % 4)).is = bb
        have hbb : (bb != bb) = false := by cases bb <;> rfl
        go_wp2_with fail
        refine (on_any g s' _ C10).mono ?_
        rintro e w11 ⟨rfl, rfl⟩
        rw [HE3.out]
        go_wp2
        exact ⟨⟨i + 1, d, s', by omega, by go_num, rfl, C10, HI2.out, G10'⟩, by simp [intOf]; omega⟩
    · have HI := hyd I
      have hd := I.le
      have hwell : Well s := fun b => ⟨(I.bl b).1, (I.bl b).2.2⟩
      have hst := I.st
      rcases I.pw with ⟨h1, -, -⟩ | ⟨h1, h2⟩
      · obtain ⟨p1, p2, m, p3, p4⟩ := erase_end (rdS_ok I.ok 0) (well_read hwell 0) hst hd hn (show (rdS s 0).on = true from h1)
        have HON := hyd h1
        have HP1 := hyd p1
        have HP2 := hyd p2
        have HP3 := hyd p3
        clear I hwell hst h1 p1 p2 p3 hi
        go_wp2_with fail
        refine (on_any g s _ C).mono ?_
        rintro e w5 ⟨rfl, rfl⟩
        rw [HON.out]
        go_wp2_with fail
        refine (read_yes g s HI.out.ok 0 (by omega) _ C HON.out).mono ?_
        rintro e w6 ⟨rfl, -, C6, G6⟩
        have G6' := G.fresh G6 hgs
        clear G G6 C
        go_wp2_with fail
        refine (erase_any g (rdS s 0) (rdS_ok HI.out.ok 0) 0 _ C6).mono ?_
        rintro e w7 ⟨rfl, C2, G7⟩
        have G2 := G6'.fresh G7 hgs
        clear G6' G7 C6
        generalize eraseR (rdS s 0) 0 = ws at *
        obtain ⟨s2, c⟩ := ws
        have HO2 := hyd (show s2.Ok from HP1.out)
        have HW2 := hyd (show Well (onS s2) from HP2.out)
        have HM := hyd (show s2.steps = (m : Int) from HP3.out)
        clear HP1 HP2 HP3
        simp only at C2 ⊢
        generalize errV c = ec
        have hm1 : ¬ ((n : Int) < (d : Int)) := by omega
        have hm2 : ¬ ((n : Int) + 1 < (m : Int)) := by omega
        go_wp2_with fail
        refine (steps_any g s2 _ C2).mono ?_
        rintro e w21 ⟨rfl, rfl⟩
        rw [HM.out]
        go_wp2_with fail
        refine (power_any g s2 _ C2).mono ?_
        rintro e w22 ⟨rfl, C22, G22⟩
        have G22' := G2.fresh G22 hgs
        clear C2 G2 G22
        go_wp2_with fail
        refine (erase_any g (onS s2) HO2.out.onn 0 _ C22).mono ?_
        rintro e w23 ⟨rfl, C23, G23⟩
        have G23' := G22'.fresh G23 hgs
        clear C22 G22' G23
        rw [erase_on HW2.out rfl (fun h => by simp [onS] at h)] at C23 ⊢
        have ho3 := eraseR_ok HO2.out.onn 0
        rw [erase_on HW2.out rfl (fun h => by simp [onS] at h)] at ho3
        have hch : (erS ((goS (onS s2)).setBl 0 (failE ((onS s2).bl 0))) 0).ch 0 = newK := rfl
        have hon3 : (erS ((goS (onS s2)).setBl 0 (failE ((onS s2).bl 0))) 0).on = true := rfl
        simp only at C23 ho3 ⊢
        generalize erS ((goS (onS s2)).setBl 0 (failE ((onS s2).bl 0))) 0 = s3 at *
        have HPG := hyd (pg_head hch)
        have HO3 := hyd ho3
        have HN3 := hyd hon3
        clear ho3 hch hon3
        simp only [errV]
        go_wp2_with fail
        refine (read_yes g s3 HO3.out 0 (by omega) _ C23 HN3.out).mono ?_
        rintro e w24 ⟨rfl, A24, C24, G24⟩
        have G24' := G23'.fresh G24 hgs
        have c24 := A24.cell 0 (by rw [pgTo_length HO3.out]; omega)
        rw [HPG.out] at c24
        clear A24 G24 G23' C23
        go_wp2_with fail
        refine (on_any g (rdS s3 0) _ C24).mono ?_
        rintro e w25 ⟨rfl, rfl⟩
        rw [show (rdS s3 0).on = true from HN3.out]
        go_wp2
        go_ret
        exact ⟨rfl, G24'.below (fun k f => f.elim) (Nat.le_refl _)⟩
      · have e7 : eraseR s 0 = (s, 7) := by unfold eraseR; rw [if_neg (by decide), if_pos h1]
        have HE7 := hyd e7
        have HON := hyd h1
        have HO2 := hyd I.ok
        have HW2 := hyd (show Well (onS s) from hwell)
        have HM := hyd hst
        obtain ⟨m, hm⟩ : ∃ m, m = d := ⟨d, rfl⟩
        rw [← hm] at HM
        clear I hwell hst h1 e7 hi
        go_wp2_with fail
        refine (on_any g s _ C).mono ?_
        rintro e w5 ⟨rfl, rfl⟩
        rw [HON.out]
        go_wp2_with fail
        refine (read_off g s 0 (by omega) (by omega) _ C HON.out).mono ?_
        rintro e w6 ⟨rfl, G6⟩
        have C6 := C.chg G6 (fun f => f)
        have G6' : Chg (fun _ => False) w w6 := G.trans G6
        clear G G6 C
        simp only [errV]
        go_wp2_with fail
        refine (erase_any g s HO2.out 0 _ C6).mono ?_
        rintro e w7 ⟨rfl, C2, G7⟩
        rw [HE7.out] at C2 ⊢
        have G2 := G6'.fresh G7 hgs
        clear G6' G7 C6
        obtain ⟨s2, rfl⟩ : ∃ s2, s2 = s := ⟨s, rfl⟩
        simp only [errV] at C2 ⊢
        have hm1 : ¬ ((n : Int) < (d : Int)) := by omega
        have hm2 : ¬ ((n : Int) + 1 < (m : Int)) := by omega
        go_wp2_with fail
        refine (steps_any g s2 _ C2).mono ?_
        rintro e w21 ⟨rfl, rfl⟩
        rw [HM.out]
        go_wp2_with fail
        refine (power_any g s2 _ C2).mono ?_
        rintro e w22 ⟨rfl, C22, G22⟩
        have G22' := G2.fresh G22 hgs
        clear C2 G2 G22
        go_wp2_with fail
        refine (erase_any g (onS s2) HO2.out.onn 0 _ C22).mono ?_
        rintro e w23 ⟨rfl, C23, G23⟩
        have G23' := G22'.fresh G23 hgs
        clear C22 G22' G23
        rw [erase_on HW2.out rfl (fun h => by simp [onS] at h)] at C23 ⊢
        have ho3 := eraseR_ok HO2.out.onn 0
        rw [erase_on HW2.out rfl (fun h => by simp [onS] at h)] at ho3
        have hch : (erS ((goS (onS s2)).setBl 0 (failE ((onS s2).bl 0))) 0).ch 0 = newK := rfl
        have hon3 : (erS ((goS (onS s2)).setBl 0 (failE ((onS s2).bl 0))) 0).on = true := rfl
        simp only at C23 ho3 ⊢
        generalize erS ((goS (onS s2)).setBl 0 (failE ((onS s2).bl 0))) 0 = s3 at *
        have HPG := hyd (pg_head hch)
        have HO3 := hyd ho3
        have HN3 := hyd hon3
        clear ho3 hch hon3
        simp only [errV]
        go_wp2_with fail
        refine (read_yes g s3 HO3.out 0 (by omega) _ C23 HN3.out).mono ?_
        rintro e w24 ⟨rfl, A24, C24, G24⟩
        have G24' := G23'.fresh G24 hgs
        have c24 := A24.cell 0 (by rw [pgTo_length HO3.out]; omega)
        rw [HPG.out] at c24
        clear A24 G24 G23' C23
        go_wp2_with fail
        refine (on_any g (rdS s3 0) _ C24).mono ?_
        rintro e w25 ⟨rfl, rfl⟩
        rw [show (rdS s3 0).on = true from HN3.out]
        go_wp2
        go_ret
        exact ⟨rfl, G24'.below (fun k f => f.elim) (Nat.le_refl _)⟩
end Go.Proofs.Ytfjgnplplafniaa
