/-
  The document's answer, its small parts, walked: numbers as bytes and back, which checkpoints can be told; an error's number. Conditions: the bytes can be read; numbers are not below 0.
-/
import Derived.Test.YtipeldekiloanaaMat
namespace Go.Proofs.Ytipeldekiloanaa
open Go.RowKit
set_option maxRecDepth 100000

def btn (v n k : Nat) : List Nat := (List.range n).map fun i => if i < k then byteAt v i else 0
theorem btn_length (v n k : Nat) : (btn v n k).length = n := by simp [btn]
theorem btn_zero (v n : Nat) : btn v n 0 = List.replicate n 0 := by
  apply List.ext_getElem <;> simp [btn]
theorem btn_all (v n : Nat) : btn v n n = bts v n := by
  apply List.map_congr_left
  intro i hi
  rw [if_pos (List.mem_range.1 hi)]
theorem btn_set (v n k : Nat) (_hk : k < n) : (btn v n k).set k (byteAt v k) = btn v n (k + 1) := by
  apply list_eq_of_getD (by simp [btn_length])
  intro j hj
  simp only [List.length_set, btn_length] at hj
  by_cases h : k = j
  · subst h
    simp [List.getD_eq_getElem?_getD, btn, hj]
  · simp only [List.getD_eq_getElem?_getD, List.getElem?_set_ne h]
    simp only [btn, List.getElem?_map, List.getElem?_range hj, Option.map_some, Option.getD_some]
    by_cases h6 : j < k
    · rw [if_pos h6, if_pos (by omega)]
    · rw [if_neg h6, if_neg (by omega)]
theorem tmod256 (x : Nat) : (x : Int).tmod 256 = ((x % 256 : Nat) : Int) := by rw [Int.tmod_eq_emod_of_nonneg (by omega)]; omega
theorem tdiv256 (x : Nat) : (x : Int).tdiv 256 = ((x / 256 : Nat) : Int) := by rw [Int.tdiv_eq_ediv_of_nonneg (by omega)]; omega
set_option maxHeartbeats 2000000 in
theorem rbytes_any (w : World) (v n : Nat) (hv : v < 9223372036854775808) (hn : n ≤ 8) :
    Calls Try.prog 15 #[.int .i64 (v : Int), .int .i64 (n : Int)] w fun e w' => ∃ g, e = .returned (.slice (some ⟨g, 0, none⟩) n n) ∧ w.heap.size ≤ g ∧ Arr w' g 5 (bts v n) ∧ Chg (fun _ => False) w w' := by
  have hm := make_bytes w (n : Int) n rfl (by omega)
  have HA : Hid (Arr (w.alloc (.cells (bcells (List.replicate n 0)) 5)) w.heap.size 5 (btn v n 0)) := by
    rw [btn_zero]; exact Arr.new _ _ _
  have HG : Hid (Chg (fun _ => False) w (w.alloc (.cells (bcells (List.replicate n 0)) 5))) := hyd ((Chg.refl _ w).alloc _)
  go_enter Try.func15, Try.ntmps15
  go_wp2_with fail
  clear hm
  go_loopw [0, 6] (fun x t wr => ∃ k : Nat, k ≤ n ∧ t = .int .i64 k ∧ x = .int .i64 ((v / 256 ^ k : Nat) : Int) ∧ Arr wr w.heap.size 5 (btn v n k) ∧ Chg (fun _ => False) w wr) (fun _ t _ => n - (intOf t).toNat)
  case atStart => exact ⟨0, Nat.zero_le _, rfl, by simp, HA.out, HG.out⟩
  case round =>
    clear HA HG
    obtain ⟨k, hk, rfl, rfl, hA, hG⟩ := hrel
    by_cases hlt : k < n
    · have hlt' : (k : Int) < (n : Int) := by omega
      have hkb : (0 : Int) ≤ (k : Int) := by omega
      have hle : v / 256 ^ k < 9223372036854775808 := Nat.lt_of_le_of_lt (Nat.div_le_self _ _) hv
      have hx := hA.cell k (by rw [btn_length]; exact hlt)
      have hf := hA.frozen k
      have t1 := tmod256 (v / 256 ^ k)
      have t2 := tdiv256 (v / 256 ^ k)
      have HD := hyd (div_succ v k)
      have HS : Hid (Arr (wr.setCell ⟨w.heap.size, k, none⟩ (.int .u8 ((v / 256 ^ k % 256 : Nat) : Int))) w.heap.size 5 (btn v n (k + 1))) := hyd (by
        rw [← btn_set v n k hlt]; exact hA.store k _)
      have HG : Hid (Chg (fun _ => False) w (wr.setCell ⟨w.heap.size, k, none⟩ (.int .u8 ((v / 256 ^ k % 256 : Nat) : Int)))) := hyd (hG.setCell (Or.inr (Nat.le_refl _)) _ _)
      have hb : v / 256 ^ k % 256 < 256 := Nat.mod_lt _ (by decide)
      clear hA hG
      generalize v / 256 ^ k = x at *
      generalize x % 256 = y at *
      go_wp2
      exact ⟨⟨k + 1, by omega, by go_num, by rw [HD.out], HS.out, HG.out⟩, by simp [intOf]; omega⟩
    · have e : k = n := by omega
      subst e
      rw [btn_all] at hA
      have HA := hyd hA
      have HG := hyd hG
      have hlt' : ¬ (k : Int) < (k : Int) := by omega
      clear hA hG
      go_wp2
      go_ret
      exact ⟨_, rfl, Nat.le_refl _, HA.out, HG.out⟩

set_option maxHeartbeats 2000000 in
theorem number_any (w : World) (a : Option Addr) (n cap : Nat) (l : List Nat) (hn : n = l.length) (hl : Bys l) (h7 : l.length ≤ 7) (hr : Held w (.slice a n cap) l) :
    Calls Try.prog 19 #[.slice a n cap] w fun e w' => e = .returned (.int .i64 (le l : Nat)) ∧ Chg (fun _ => False) w w' := by
  subst hn
  have HR := hyd hr
  clear hr
  go_enter Try.func19, Try.ntmps19
  go_wp2_with fail
  go_loopw [3, 4] (fun v t wr => ∃ k : Nat, k ≤ l.length ∧ t = .int .i64 ((k : Int) - 1) ∧ v = .int .i64 (le (l.drop k) : Nat) ∧ Chg (fun _ => False) w wr) (fun _ t _ => (intOf t + 1).toNat)
  case atStart => exact ⟨l.length, Nat.le_refl _, rfl, by simp [le], Chg.refl _ _⟩
  case round =>
    obtain ⟨k, hk, rfl, rfl, hG⟩ := hrel
    by_cases h0 : k = 0
    · subst h0
      go_wp2
      go_ret
      exact ⟨rfl, hG⟩
    · obtain ⟨j, rfl⟩ : ∃ j, k = j + 1 := ⟨k - 1, by omega⟩
      obtain ⟨g, o, rfl, hx⟩ := HR.out.cellC hG j (by omega)
      obtain ⟨e1, -⟩ := get_step l hl (by omega) j (by omega)
      have e2 : le (l.drop j) < 72057594037927936 := Nat.lt_of_lt_of_le (le_lt (bys_drop hl j)) (by
        rw [List.length_drop]
        exact Nat.pow_le_pow_right (by decide : 0 < 256) (by omega : l.length - j ≤ 7))
      have hj : (((j + 1 : Nat) : Int) - 1) = (j : Int) := by omega
      rw [hj]
      have hjl : (j : Int) < (l.length : Int) := by omega
      have hj0 : (0 : Int) ≤ (j : Int) := by omega
      have hge : ¬ (j : Int) < 0 := by omega
      have HV : Hid ((256 : Int) * ((le (l.drop (j + 1)) : Nat) : Int) + ((l.getD j 0 : Nat) : Int) = ((le (l.drop j) : Nat) : Int)) := hyd (by rw [← e1]; push_cast; rfl)
      have hb := hl.getD j
      have hb2 : (256 : Int) * ((le (l.drop (j + 1)) : Nat) : Int) + ((l.getD j 0 : Nat) : Int) < 72057594037927936 := by omega
      clear hj e1 e2
      generalize le (l.drop (j + 1)) = x at *
      generalize l.getD j 0 = y at *
      go_wp2
      exact ⟨⟨j, by omega, by go_num, by rw [← HV.out], hG⟩, by simp [intOf]⟩
/-- May it be a seq? -/
def Sq (z : Int) : Prop := 0 ≤ z ∧ z ≤ 1099511627775
theorem rseq_yes (w : World) (z : Int) (h : Sq z) : Calls Try.prog 22 #[.int .i64 z] w fun e w' => e = .returned (.bool true) ∧ w' = w := by
  obtain ⟨h1, h2⟩ := h
  go_enter Try.func22, Try.ntmps22
  go_wp2
  go_ret
  exact ⟨by simp, rfl⟩
theorem rseq_no (w : World) (z : Int) (h : ¬ Sq z) : Calls Try.prog 22 #[.int .i64 z] w fun e w' => e = .returned (.bool false) ∧ w' = w := by
  by_cases h0 : 0 ≤ z
  · have h2 : ¬ z ≤ 1099511627775 := fun e => h ⟨h0, e⟩
    clear h
    go_enter Try.func22, Try.ntmps22
    go_wp2
    go_ret
    exact ⟨by simp, rfl⟩
  · clear h
    go_enter Try.func22, Try.ntmps22
    go_wp2
    go_ret
    exact ⟨rfl, rfl⟩
/-- What Told answers. -/
def TAns (w w' : World) (c : Ckp) (e : Ending) : Prop := ∃ b, e = .returned (.bool b) ∧ (b = true ↔ Tld c) ∧ Chg (fun _ => False) w w'
set_option maxHeartbeats 4000000 in
theorem rtold_any (w : World) (c : Ckp) : Calls Try.prog 14 #[.agg (ckA c)] w fun e w' => TAns w w' c e := by
  have HK := hyd (Ck.new w c)
  have HG : Hid (Chg (fun _ => False) w (w.alloc (.cells (ckA c) 26))) := hyd ((Chg.refl _ w).alloc _)
  go_enter Try.func14, Try.ntmps14
  go_wp2_with fail
  go_loopw [3] (fun t wr => ∃ k : Nat, k ≤ 24 ∧ t = .int .i64 k ∧ (∀ i, i < k → Sq (c.F i)) ∧ Ck wr w.heap.size c ∧ Chg (fun _ => False) w wr) (fun t _ => 24 - (intOf t).toNat)
  case atStart => exact ⟨0, by decide, rfl, fun i hi => by omega, HK.out, HG.out⟩
  case round =>
    clear HK HG
    obtain ⟨k, hk, rfl, a1, a2, a3⟩ := hrel
    have HF := hyd a1
    clear a1
    by_cases hlt : k < 24
    · have hlt' : (k : Int) < 24 := by omega
      have hkb : (0 : Int) ≤ (k : Int) := by omega
      have k1 := a2.F k hlt
      have HK := hyd a2
      have HG := hyd a3
      clear a2 a3
      by_cases hs : Sq (c.F k)
      · have hcall := rseq_yes wr (c.F k) hs
        have HS := hyd hs
        clear hs
        go_wp2_with fail
        refine hcall.mono ?_
        rintro e w2 ⟨rfl, rfl⟩
        clear hcall
        go_wp2
        refine ⟨⟨k + 1, by omega, by go_num, fun i hi => ?_, HK.out, HG.out⟩, by simp [intOf]; omega⟩
        by_cases e : i = k
        · subst e; exact HS.out
        · exact HF.out i (by omega)
      · have hcall := rseq_no wr (c.F k) hs
        have HS := hyd hs
        clear hs
        go_wp2_with fail
        refine hcall.mono ?_
        rintro e w2 ⟨rfl, rfl⟩
        clear hcall
        go_wp2
        go_ret
        exact ⟨false, rfl, ⟨fun h => (by cases h), fun h => absurd (h.F k hlt) HS.out⟩, HG.out⟩
    · have e : k = 24 := by omega
      subst e
      have HK := hyd a2
      have HG := hyd a3
      clear a2 a3
      go_wp2_with fail
      go_loopw [5] (fun t wr => ∃ k : Nat, k ≤ 12 ∧ t = .int .i64 k ∧ (∀ i, i < k → (0 ≤ c.R i ∧ c.R i ≤ 65535) ∧ 0 ≤ c.S i ∧ c.S i ≤ 255) ∧ Ck wr w.heap.size c ∧ Chg (fun _ => False) w wr) (fun t _ => 12 - (intOf t).toNat)
      case atStart => exact ⟨0, by decide, rfl, fun i hi => by omega, HK.out, HG.out⟩
      case round =>
        clear HK HG
        obtain ⟨k, hk, rfl, a1, a2, a3⟩ := hrel
        have HRS := hyd a1
        clear a1
        by_cases hlt : k < 12
        · have hlt' : (k : Int) < 12 := by omega
          have hkb : (0 : Int) ≤ (k : Int) := by omega
          have k1 := a2.R k hlt
          have k2 := a2.S k hlt
          have HK := hyd a2
          have HG := hyd a3
          clear a2 a3
          rcases (by omega : c.R k < 0 ∨ (0 ≤ c.R k ∧ 65535 < c.R k) ∨ (0 ≤ c.R k ∧ c.R k ≤ 65535 ∧ c.S k < 0) ∨ (0 ≤ c.R k ∧ c.R k ≤ 65535 ∧ 0 ≤ c.S k ∧ 255 < c.S k) ∨ (0 ≤ c.R k ∧ c.R k ≤ 65535 ∧ 0 ≤ c.S k ∧ c.S k ≤ 255)) with h1 | h1 | h1 | h1 | h1
          · go_wp2
            go_ret
            exact ⟨false, rfl, ⟨fun h => (by cases h), fun h => (by have := h.R k hlt; omega)⟩, HG.out⟩
          · obtain ⟨h1, h2⟩ := h1
            go_wp2
            go_ret
            exact ⟨false, rfl, ⟨fun h => (by cases h), fun h => (by have := h.R k hlt; omega)⟩, HG.out⟩
          · obtain ⟨h1, h2, h3⟩ := h1
            go_wp2
            go_ret
            exact ⟨false, rfl, ⟨fun h => (by cases h), fun h => (by have := h.S k hlt; omega)⟩, HG.out⟩
          · obtain ⟨h1, h2, h3, h4⟩ := h1
            go_wp2
            go_ret
            exact ⟨false, rfl, ⟨fun h => (by cases h), fun h => (by have := h.S k hlt; omega)⟩, HG.out⟩
          · obtain ⟨h1, h2, h3, h4⟩ := h1
            go_wp2
            refine ⟨⟨_, _, _, _, _, _, _, _, _, _, _, _, _, _, _, _, _, _, _, _, _, _, _, _, _, _, _, _, _, _, _, _, ?hi, rfl⟩, by simp [intOf]; omega⟩
            refine ⟨k + 1, by omega, by go_num, fun i hi => ?_, HK.out, HG.out⟩
            by_cases e : i = k
            · subst e; omega
            · exact HRS.out i (by omega)
        · have e : k = 12 := by omega
          subst e
          have k1 := a2.N
          have k2 := a2.C
          have HG := hyd a3
          clear a2 a3
          by_cases hs : Sq c.N
          · have hcall := rseq_yes wr c.N hs
            have HS := hyd hs
            clear hs
            go_wp2_with fail
            refine hcall.mono ?_
            rintro e w2 ⟨rfl, rfl⟩
            clear hcall
            rcases (by omega : c.C < 0 ∨ (0 ≤ c.C ∧ 95 < c.C) ∨ (0 ≤ c.C ∧ c.C ≤ 95)) with h1 | h1 | h1
            · go_wp2
              go_ret
              exact ⟨false, rfl, ⟨fun h => (by cases h), fun h => (by have := h.C; omega)⟩, HG.out⟩
            · obtain ⟨h1, h2⟩ := h1
              go_wp2
              go_ret
              exact ⟨_, rfl, ⟨fun h => (by simp at h; omega), fun h => (by have := h.C; omega)⟩, HG.out⟩
            · obtain ⟨h1, h2⟩ := h1
              go_wp2
              go_ret
              exact ⟨_, rfl, ⟨fun _ => ⟨HF.out, HS.out, ⟨h1, h2⟩, fun i hi => (HRS.out i hi).1, fun i hi => (HRS.out i hi).2⟩, fun _ => (by simp)⟩, HG.out⟩
          · have hcall := rseq_no wr c.N hs
            have HS := hyd hs
            clear hs
            go_wp2_with fail
            refine hcall.mono ?_
            rintro e w2 ⟨rfl, rfl⟩
            clear hcall
            go_wp2
            go_ret
            exact ⟨false, rfl, ⟨fun h => (by cases h), fun h => absurd h.N HS.out⟩, HG.out⟩
/-- An error's number. -/
theorem code_0 (w : World) : Calls Try.prog 10 #[.nilIface] w fun e w' => e = .returned (.int .i64 0) ∧ w' = w := by
  have q0 := eql_nil_nil
  go_enter Try.func10, Try.ntmps10
  go_wp2
  go_ret
  exact ⟨rfl, rfl⟩
theorem code_1 (w : World) : Calls Try.prog 10 #[.iface 44 (.int .i64 1)] w fun e w' => e = .returned (.int .i64 1) ∧ w' = w := by
  have q0 := eql_arg_nil
  have q1 := eql_arg_arg
  go_enter Try.func10, Try.ntmps10
  go_wp2
  go_ret
  exact ⟨rfl, rfl⟩
theorem eql_e3_0 (w : World) : (binOp .eql 30 (.iface 44 (.int .i64 3)) .nilIface).run Try.prog w = .ok (.bool false) w := by kernel_rfl
theorem neq_e3_0 (w : World) : (binOp .neq 30 (.iface 44 (.int .i64 3)) .nilIface).run Try.prog w = .ok (.bool true) w := by kernel_rfl
theorem eql_e3_1 (w : World) : (binOp .eql 30 (.iface 44 (.int .i64 3)) (.iface 44 (.int .i64 1))).run Try.prog w = .ok (.bool false) w := by kernel_rfl
theorem eql_e3_2 (w : World) : (binOp .eql 30 (.iface 44 (.int .i64 3)) (.iface 44 (.int .i64 2))).run Try.prog w = .ok (.bool false) w := by kernel_rfl
theorem eql_e3_3 (w : World) : (binOp .eql 30 (.iface 44 (.int .i64 3)) (.iface 44 (.int .i64 3))).run Try.prog w = .ok (.bool true) w := by kernel_rfl
theorem code_3 (w : World) : Calls Try.prog 10 #[.iface 44 (.int .i64 3)] w fun e w' => e = .returned (.int .i64 3) ∧ w' = w := by
  have q0 := eql_e3_0
  have q1 := eql_e3_1
  have q2 := eql_e3_2
  have q3 := eql_e3_3
  go_enter Try.func10, Try.ntmps10
  go_wp2
  go_ret
  exact ⟨rfl, rfl⟩
end Go.Proofs.Ytipeldekiloanaa
