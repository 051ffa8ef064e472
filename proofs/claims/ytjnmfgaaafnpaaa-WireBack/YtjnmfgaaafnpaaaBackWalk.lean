/-
  WireBack, walked: numbers and messages come back; what bears the mark is far from what is blank. Condition: the arguments are of their types, the bytes came in as a slice does.
-/
import Derived.Test.YtjnmfgaaafnpaaaGetsWalk
import Derived.Test.YtjnmfgaaafnpaaaPutsWalk
namespace Go.Proofs.Ytjnmfgaaafnpaaa
open Go.RowKit
set_option maxRecDepth 100000

/-- The first i bytes of l, n in all, noughts behind them. -/
def padTo (l : List Nat) (n i : Nat) : List Nat := (List.range n).map fun k => if k < i then l.getD k 0 else 0
theorem padTo_length (l : List Nat) (n i : Nat) : (padTo l n i).length = n := by simp [padTo]
theorem padTo_zero (l : List Nat) (n : Nat) : padTo l n 0 = List.replicate n 0 := by
  apply List.ext_getElem?
  intro k
  by_cases h : k < n
  · simp [padTo, h]
  · rw [List.getElem?_eq_none (by simp [padTo]; omega), List.getElem?_eq_none (by simp; omega)]
theorem padTo_set (l : List Nat) (n i : Nat) : (padTo l n i).set i (l.getD i 0) = padTo l n (i + 1) := by
  apply List.ext_getElem?
  intro k
  by_cases h : i = k
  · subst h
    by_cases h5 : i < n
    · rw [List.getElem?_set_self (by rw [padTo_length]; exact h5)]
      simp [padTo, h5]
    · rw [List.getElem?_eq_none (by simp [padTo]; omega), List.getElem?_eq_none (by simp [padTo]; omega)]
  · rw [List.getElem?_set_ne h]
    by_cases h5 : k < n
    · simp only [padTo, List.getElem?_map, List.getElem?_range h5, Option.map_some]
      congr 1
      by_cases h6 : k < i
      · rw [if_pos h6, if_pos (by omega)]
      · rw [if_neg h6, if_neg (by omega)]
    · rw [List.getElem?_eq_none (by simp [padTo]; omega), List.getElem?_eq_none (by simp [padTo]; omega)]
theorem padTo_end (l : List Nat) (n i : Nat) (h : n ≤ i ∨ l.length ≤ i) : padTo l n i = padTo l n n := by
  apply List.map_congr_left
  intro k hk
  have hk := List.mem_range.1 hk
  rw [if_pos hk]
  by_cases h1 : k < i
  · rw [if_pos h1]
  · rw [if_neg h1, List.getD_eq_getElem?_getD, List.getElem?_eq_none (by omega)]; rfl
theorem padTo_bys {l : List Nat} (hl : Bys l) (n i : Nat) : Bys (padTo l n i) := by
  intro x hx
  simp only [padTo, List.mem_map, List.mem_range] at hx
  obtain ⟨k, _, rfl⟩ := hx
  split
  · exact hl.getD k
  · decide

/-- Fifty-eight bytes of which the first k are ff. -/
def ffs (k : Nat) : List Nat := List.replicate k 255 ++ List.replicate (58 - k) 0
theorem ffs_length (k : Nat) (h : k ≤ 58) : (ffs k).length = 58 := by simp [ffs]; omega
theorem ffs_set (k : Nat) (h : k < 58) : (ffs k).set k 255 = ffs (k + 1) := by
  unfold ffs
  rw [List.set_append_right _ _ (by simp), List.length_replicate, Nat.sub_self]
  obtain ⟨m, hm⟩ : ∃ m, 58 - k = m + 1 := ⟨57 - k, by omega⟩
  have hm' : 58 - (k + 1) = m := by omega
  rw [hm, hm', List.replicate_succ, List.set_cons_zero, List.replicate_succ']
  simp
theorem ffs_bys (k : Nat) : Bys (ffs k) := by
  intro n hn
  simp only [ffs, List.mem_append, List.mem_replicate] at hn
  omega
theorem far_mk {l : List Nat} (hl : l.length = 50) : ∀ n, n ≤ 8 → n ≤ dis (l ++ mk) (ffs 58) (50 + n) := by
  intro n
  induction n with
  | zero => intro _; exact Nat.zero_le _
  | succ n ih =>
    intro h
    have h1 := ih (by omega)
    have e1 : (l ++ mk).getD (50 + n) 0 = mk.getD n 0 := by
      rw [List.getD_eq_getElem?_getD, List.getElem?_append_right (by omega), hl, Nat.add_sub_cancel_left, ← List.getD_eq_getElem?_getD]
    have e2 : (ffs 58).getD (50 + n) 0 = 255 := by
      have e : ffs 58 = List.replicate 58 255 := rfl
      rw [e, List.getD_eq_getElem?_getD, List.getElem?_replicate, if_pos (by omega)]
      rfl
    have e3 : ∀ i, i < 8 → mk.getD i 0 ≠ 255 := by decide
    show n + 1 ≤ dis _ _ (50 + n) + (if (l ++ mk).getD (50 + n) 0 = (ffs 58).getD (50 + n) 0 then 0 else 1)
    rw [e1, e2, if_neg (e3 n (by omega))]
    omega
theorem make50 (w : World) : (Instr.makeSlice 24 (.int .i64 50) (.int .i64 50)).run Try.prog w = .ok (.slice (some ⟨w.heap.size, 0, none⟩) 50 50) (w.alloc (.cells (bcells (List.replicate 50 0)) 5)) := make_bytes w 50 50 rfl (by decide)
theorem make58' (w : World) : (Instr.makeSlice 24 (.int .i64 58) (.int .i64 58)).run Try.prog w = .ok (.slice (some ⟨w.heap.size, 0, none⟩) 58 58) (w.alloc (.cells (bcells (ffs 0)) 5)) := make58 w

set_option maxHeartbeats 8000000 in
theorem back_walk (a0 : Int) (a1 : Option Addr) (len1 cap1 : Nat) (z1 : List Int) (w : World) (w0 : (Lit.int .u64 a0).wf = true) (w1 : IsRow .u8 w a1 len1 cap1 z1) (r1 : cap1 * 1 ≤ 140737488351232) :
    Calls Try.prog 7 #[.int .u64 a0, .slice a1 len1 cap1] w fun e w' => e = .returned (.bool true) ∧ Below w.heap.size w w' := by
  obtain ⟨v, rfl, hv⟩ := u64_nat w0
  obtain ⟨l, hll, hl, hc, -, hH⟩ := row_in w1
  have hln : l.length ≤ 140737488351232 := by omega
  clear w0 w1 hc r1
  subst hll
  have HL := hyd hH
  clear hH
  go_enter Try.func7, Try.ntmps7
  go_wp2_with fail
  refine (shown_any w).mono ?_
  rintro e w1 ⟨rfl, G1⟩
  go_wp2_with fail
  go_loopw [6] (fun t wr => ∃ k : Nat, 1 ≤ k ∧ k ≤ 9 ∧ t = .int .i64 k ∧ Chg (fun _ => False) w wr) (fun t _ => 9 - (intOf t).toNat)
  case atStart => exact ⟨1, by omega, by omega, rfl, G1⟩
  case round =>
    clear G1
    obtain ⟨k, hk1, hk9, rfl, hG⟩ := hrel
    by_cases hk : k ≤ 8
    · have hk' : (k : Int) ≤ 8 := by omega
      by_cases hr : v < 256 ^ k
      · have hcall := put_room wr v k hv hk1 hk hr
        have hle : le (bts v k) = v := by rw [le_bts, Nat.mod_eq_of_lt hr]
        clear hr
        go_wp2_with fail
        refine hcall.mono ?_
        rintro e w2 ⟨g, rfl, hg, A2, G2⟩
        have H2 := A2.heldAll k k (by rw [bts_length]; exact hk)
        rw [bts_take v k 8 hk] at H2
        have hbl := bts_length v k
        have hcall2 : Calls Try.prog 12 #[.slice (some ⟨g, 0, none⟩) k k] w2 fun e w' => e = .returned (.tuple #[.int .u64 (v : Nat), .nilIface]) ∧ Chg (fun _ => False) w2 w' := by
          have := get_any w2 (some ⟨g, 0, none⟩) k (bts v k) (bts_bys v k) (by omega) (by omega) (by rw [hbl]; exact H2)
          rw [hbl, hle] at this
          exact this
        clear hcall hle A2 H2 hbl
        have q1 := neq_nil_nil
        go_wp2_with fail
        refine hcall2.mono ?_
        rintro e w3 ⟨rfl, G3⟩
        have G03 := (hG.trans G2).trans G3
        have vv : ((v : Int) != (v : Int)) = false := by simp
        have kk : ((k : Int) != (k : Int)) = false := by simp
        clear hcall2 hG G2 G3
        go_wp2
        exact ⟨⟨k + 1, by omega, by omega, by go_num, G03⟩, by simp [intOf]; omega⟩
      · have hcall := put_long wr v k hv hk1 hk hr
        clear hr
        have q1 := neq_long_nil
        go_wp2_with fail
        refine hcall.mono ?_
        rintro e w2 ⟨rfl, rfl⟩
        clear hcall
        go_wp2
        exact ⟨⟨k + 1, by omega, by omega, by go_num, hG⟩, by simp [intOf]; omega⟩
    · have hk' : ¬ (k : Int) ≤ 8 := by omega
      clear hk1 hk9 hk
      have hmk50 := make50
      have hmk58 := make58'
      by_cases hs : l.length < 1 ∨ 8 < l.length
      case' pos =>
        have hcall := get_arg wr a1 l.length cap1 hs
        have q1 := eql_arg_nil
        clear hs
        go_wp2_with fail
        refine hcall.mono ?_
        rintro e wX ⟨rfl, rfl⟩
        have GX := hG
        clear hcall hG
        go_wp2_with fail
        clear q1
      case' neg =>
        have h1 : 1 ≤ l.length := by omega
        have h8 : l.length ≤ 8 := by omega
        clear hs
        go_wp2_with fail
        refine (get_any wr a1 cap1 l hl h1 h8 (HL.out.chgF hG)).mono ?_
        rintro e w2 ⟨rfl, G2⟩
        have G02 := hG.trans G2
        have q1 := eql_nil_nil
        have q2 := neq_nil_nil
        have hlt := le_lt hl
        have hlt2 : le l < 18446744073709551616 := Nat.lt_of_lt_of_le hlt (Nat.pow_le_pow_right (by decide : 0 < 256) h8)
        have hcall := put_room w2 (le l) l.length hlt2 h1 h8 hlt
        clear hlt hlt2 hG G2
        go_wp2_with fail
        refine hcall.mono ?_
        rintro e w3 ⟨g, rfl, hg, A3, G3⟩
        have G03 := G02.trans G3
        have H3 := A3.heldAll l.length l.length (by rw [bts_length]; exact h8)
        rw [bts_take _ _ 8 h8, bts_le hl] at H3
        have hcall := same_n w3 (some ⟨g, 0, none⟩) a1 l.length l.length l.length cap1 l l rfl rfl H3 (HL.out.chgF G03) (by omega) (by omega)
        rw [decide_eq_true rfl] at hcall
        clear G02 G3 A3 H3
        go_wp2_with fail
        refine hcall.mono ?_
        rintro e wX ⟨rfl, G4⟩
        have GX := G03.trans G4
        clear hcall G03 G4 h1 h8
        go_wp2_with fail
        clear q1 q2
      all_goals
        clear hmk50 hk' 
        have hws := GX.size
        go_loopw [17] (fun t wr => ∃ i : Nat, i ≤ 50 ∧ t = .int .i64 i ∧ Arr wr wX.heap.size 5 (padTo l 50 i) ∧ Chg (fun _ => False) w wr) (fun t _ => 50 - (intOf t).toNat)
        case atStart => exact ⟨0, by omega, rfl, by rw [padTo_zero]; exact Arr.new _ _ _, GX.alloc _⟩
        case round =>
          clear GX
          rename World => wy
          obtain ⟨i, hi, rfl, hA, hG⟩ := hrel
          by_cases hlt2 : i < 50 ∧ i < l.length
          · have hlt' : (i : Int) < 50 := by omega
            have hlt2' : (i : Int) < (l.length : Int) := by omega
            obtain ⟨c, o, rfl, hc⟩ := HL.out.cellC hG i hlt2.2
            have hkb : (0 : Int) ≤ (i : Int) := by omega
            have hf := hA.frozen i
            have hx := hA.cell i (by rw [padTo_length]; omega)
            have hd := hl.getD i
            have hA2 : Arr (wy.setCell ⟨wX.heap.size, i, none⟩ (.int .u8 (l.getD i 0 : Nat))) wX.heap.size 5 (padTo l 50 (i + 1)) := by
              rw [← padTo_set]; exact hA.store i _
            have HA2 := hyd hA2
            clear hA2 hA
            generalize (padTo l 50 i).getD i 0 = old at hx
            generalize l.getD i 0 = xx at *
            go_wp2
            exact ⟨⟨i + 1, by omega, by go_num, HA2.out, hG.setCell (Or.inr hws) _ _⟩, by simp [intOf]; omega⟩
          · have hA3 : Arr wy wX.heap.size 5 (padTo l 50 50) := by rw [← padTo_end l 50 i (by omega)]; exact hA
            have hbl := padTo_length l 50 50
            have hbb := padTo_bys hl 50 50
            have HNL := hyd hlt2
            clear hA hlt2
            generalize padTo l 50 50 = B at *
            have hcall := seal_any wy wX.heap.size 0 50 B hbl hA3.lt (fun i hi => by rw [Nat.zero_add]; exact hA3.cell i hi)
            have HBL := hyd hbl
            clear hbl
            by_cases h50 : i < 50
            case' pos =>
              have h50' : (i : Int) < 50 := by omega
              have hll' : ¬ (i : Int) < (l.length : Int) := by have := HNL.out; omega
              go_wp2_with fail
            case' neg =>
              have h50' : ¬ (i : Int) < 50 := by omega
              go_wp2_with fail
            all_goals
              refine hcall.mono ?_
              rintro e w5 ⟨gs, rfl, hgs, S5, H5⟩
              clear hcall
              have B5 : Arr w5 wX.heap.size 5 B := hA3.chg H5 (fun e => e)
              have G5 := hG.trans H5
              have hsl : (B ++ mk).length = 58 := by rw [List.length_append, HBL.out, mk_length]
              have hsb : Bys (B ++ mk) := fun n hn => by
                rcases List.mem_append.1 hn with h | h
                · exact hbb n h
                · exact mk_bys n h
              have hdr : (B ++ mk).drop 50 = mk := by rw [List.drop_append_of_le_length (by rw [HBL.out]; omega), List.drop_of_length_le (by rw [HBL.out]; omega), List.nil_append]
              have htk : (B ++ mk).take 50 = B := by rw [List.take_append_of_le_length (by rw [HBL.out]; omega), List.take_of_length_le (by rw [HBL.out]; omega)]
              have hfar := far_mk HBL.out 8 (by omega)
              have hcall := open_mark w5 gs 0 58 (by decide) (B ++ mk) hsl hsb S5.lt (fun i hi => by rw [Nat.zero_add]; exact S5.cell i hi) hdr
              have HTK := hyd htk
              have HSL := hyd hsl
              clear hdr htk hsl hA3 H5 hG
              go_wp2_with fail
              refine hcall.mono ?_
              rintro e w6 ⟨go, rfl, hgo, O6, H6⟩
              clear hcall
              have B6 : Arr w6 wX.heap.size 5 B := B5.chg H6 (fun e => e)
              have S6 : Arr w6 gs 5 (B ++ mk) := S5.chg H6 (fun e => e)
              have G6 := G5.trans H6
              have hs6 := G6.size
              have HS6 := hyd S6
              have HO6 := hyd O6
              have HB6 := hyd B6
              clear B5 S5 H6 G5 S6 O6 B6
              go_wp2_with fail
              go_loopw [22] (fun t wr => ∃ i : Nat, i ≤ 58 ∧ t = .int .i64 i ∧ Arr wr w6.heap.size 5 (ffs i) ∧ Chg (fun _ => False) w6 wr) (fun t _ => 58 - (intOf t).toNat)
              case atStart => exact ⟨0, by omega, rfl, Arr.new _ _ _, (Chg.refl _ _).alloc _⟩
              case round =>
                rename World => wz
                obtain ⟨j, hj, rfl, hA, hC⟩ := hrel
                by_cases hj58 : j < 58
                · have hj' : (j : Int) < 58 := by omega
                  have hj0 : (0 : Int) ≤ (j : Int) := by omega
                  have hf := hA.frozen j
                  have hx := hA.cell j (by rw [ffs_length j hj]; omega)
                  have hA2 : Arr (wz.setCell ⟨w6.heap.size, j, none⟩ (.int .u8 255)) w6.heap.size 5 (ffs (j + 1)) := by
                    rw [← ffs_set j hj58]; exact hA.store j 255
                  have HA2 := hyd hA2
                  clear hA2 hA
                  generalize (ffs j).getD j 0 = old at hx
                  go_wp2
                  exact ⟨⟨j + 1, by omega, by go_num, HA2.out, hC.setCell (Or.inr (Nat.le_refl _)) _ _⟩, by simp [intOf]; omega⟩
                · have hj' : ¬ (j : Int) < 58 := by omega
                  have ej : j = 58 := by omega
                  subst ej
                  have S7 : Arr wz gs 5 (B ++ mk) := HS6.out.chg hC (fun e => e)
                  have O7 : Arr wz go 5 (B ++ mk) := HO6.out.chg hC (fun e => e)
                  have B7 : Arr wz wX.heap.size 5 B := HB6.out.chg hC (fun e => e)
                  have G7 := G6.trans hC
                  have hcall := wapart_any wz (some ⟨gs, 0, none⟩) (some ⟨w6.heap.size, 0, none⟩) 58 58 58 58 (B ++ mk) (ffs 58) HSL.out.symm HSL.out.symm (by rw [HSL.out]; rfl) hsb (ffs_bys 58) (by rw [HSL.out]; decide) (S7.heldFull 58 58 HSL.out.symm) (hA.heldFull 58 58 rfl)
                  have hfar' : (8 : Int) ≤ ((dis (B ++ mk) (ffs 58) 58 : Nat) : Int) := by have h : 8 ≤ dis (B ++ mk) (ffs 58) 58 := hfar; omega
                  rw [HSL.out] at hcall
                  clear S7 hA hC HS6 HO6 HB6 G6 hfar
                  generalize dis (B ++ mk) (ffs 58) 58 = d at *
                  go_wp2_with fail
                  refine hcall.mono ?_
                  rintro e w8 ⟨rfl, H8⟩
                  clear hcall
                  have O8 : Arr w8 go 5 (B ++ mk) := O7.chg H8 (fun e => e)
                  have B8 : Arr w8 wX.heap.size 5 B := B7.chg H8 (fun e => e)
                  have G8 := G7.trans H8
                  have hO8 := O8.heldAll 50 50 (by rw [HSL.out]; decide)
                  rw [HTK.out] at hO8
                  have hcall := same_n w8 (some ⟨go, 0, none⟩) (some ⟨wX.heap.size, 0, none⟩) 50 50 50 50 B B HBL.out.symm HBL.out.symm hO8 (B8.heldFull 50 50 HBL.out.symm) (by rw [HBL.out]; decide) (by rw [HBL.out]; decide)
                  rw [decide_eq_true rfl] at hcall
                  clear O7 B7 G7 H8 O8 B8 hO8
                  go_wp2_with fail
                  refine hcall.mono ?_
                  rintro e w9 ⟨rfl, H9⟩
                  have G9 := G8.trans H9
                  have q1 := eql_nil_nil
                  clear hcall G8 H9
                  go_wp2
                  go_ret
                  exact ⟨rfl, G9.below (fun k e => e.elim) (Nat.le_refl _)⟩
end Go.Proofs.Ytjnmfgaaafnpaaa
