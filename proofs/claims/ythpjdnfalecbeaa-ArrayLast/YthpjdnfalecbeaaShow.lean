/-
  The law's small functions: some, pick, Code, shown. No condition.
-/
import Derived.Test.YthpjdnfalecbeaaDocC
import Derived.Test.YthpjdnfalecbeaaLent
import Derived.Test.YthpjdnfalecbeaaApartWalk
namespace Go.Proofs.Ythpjdnfalecbeaa
open Go.RowKit
set_option maxRecDepth 100000
theorem eql_nil_nil (w : World) : (binOp .eql 40 .nilIface .nilIface).run Try.prog w = .ok (.bool true) w := by kernel_rfl
theorem eql_e1_nil (w : World) : (binOp .eql 40 (.iface 47 (.int .i64 1)) .nilIface).run Try.prog w = .ok (.bool false) w := by kernel_rfl
theorem eql_e1_e1 (w : World) : (binOp .eql 40 (.iface 47 (.int .i64 1)) (.iface 47 (.int .i64 1))).run Try.prog w = .ok (.bool true) w := by kernel_rfl
theorem neq_nil_nil (w : World) : (binOp .neq 40 .nilIface .nilIface).run Try.prog w = .ok (.bool false) w := by kernel_rfl
theorem code_0 (w : World) : Calls Try.prog 22 #[.nilIface] w fun e w' => e = .returned (.int .i64 0) ∧ w' = w := by
  have q0 := eql_nil_nil
  go_enter Try.func22, Try.ntmps22
  go_wp2
  go_ret
  exact ⟨rfl, rfl⟩
theorem code_1 (w : World) : Calls Try.prog 22 #[errA] w fun e w' => e = .returned (.int .i64 1) ∧ w' = w := by
  have q0 := eql_e1_nil
  have q1 := eql_e1_e1
  show Calls Try.prog 22 #[.iface 47 (.int .i64 1)] w _
  go_enter Try.func22, Try.ntmps22
  go_wp2
  go_ret
  exact ⟨rfl, rfl⟩
/-- Which of n things. -/
def pkN (n : Nat) (c : Int) : Nat := if c < 0 then ((-(c + 1)) % (n : Int)).toNat else (c % (n : Int)).toNat
theorem pkN_lt (n : Nat) (hn : 0 < n) (c : Int) : pkN n c < n := by
  unfold pkN
  have h1 := Int.emod_lt_of_pos (-(c + 1)) (show (0 : Int) < n by omega)
  have h2 := Int.emod_lt_of_pos c (show (0 : Int) < n by omega)
  split <;> omega
theorem neg_rem (n : Int) {c : Int} (h : c < 0) : -((c + 1).tmod n) = (-(c + 1)) % n := by
  rw [← Int.neg_tmod, Int.tmod_eq_emod_of_nonneg (by omega)]
theorem pick_7 (c : Int) (h1 : -9223372036854775808 ≤ c) (h2 : c ≤ 9223372036854775807) (w : World) :
    Calls Try.prog 13 #[.int .i64 c, .int .i64 7] w fun e w' => e = .returned (.int .i64 (pkN 7 c : Nat)) ∧ w' = w := by
  unfold pkN
  by_cases hc : c < 0
  · have HE := hyd (neg_rem 7 hc)
    rw [if_pos hc]
    go_enter Try.func13, Try.ntmps13
    go_wp2
    go_ret
    have e : ((((-(c + 1)) % ((7 : Nat) : Int)).toNat : Nat) : Int) = -((c + 1).tmod 7) := by rw [HE.out]; omega
    rw [e]; exact ⟨rfl, rfl⟩
  · rw [if_neg hc]
    go_enter Try.func13, Try.ntmps13
    go_wp2
    go_ret
    rw [show max (c % 7) 0 = c % 7 from by omega]
    exact ⟨rfl, rfl⟩
theorem pick_24 (c : Int) (h1 : -9223372036854775808 ≤ c) (h2 : c ≤ 9223372036854775807) (w : World) :
    Calls Try.prog 13 #[.int .i64 c, .int .i64 24] w fun e w' => e = .returned (.int .i64 (pkN 24 c : Nat)) ∧ w' = w := by
  unfold pkN
  by_cases hc : c < 0
  · have HE := hyd (neg_rem 24 hc)
    rw [if_pos hc]
    go_enter Try.func13, Try.ntmps13
    go_wp2
    go_ret
    have e : ((((-(c + 1)) % ((24 : Nat) : Int)).toNat : Nat) : Int) = -((c + 1).tmod 24) := by rw [HE.out]; omega
    rw [e]; exact ⟨rfl, rfl⟩
  · rw [if_neg hc]
    go_enter Try.func13, Try.ntmps13
    go_wp2
    go_ret
    rw [show max (c % 24) 0 = c % 24 from by omega]
    exact ⟨rfl, rfl⟩
/-- n bytes made out of v: the first i of them. -/
def smF (v n i : Nat) : List Nat := (List.range n).map fun j => if j < i then (v + 3 * j) % 256 else 0
def smL (v n : Nat) : List Nat := smF v n n
theorem smF_length (v n i : Nat) : (smF v n i).length = n := by simp [smF]
theorem smL_length (v n : Nat) : (smL v n).length = n := smF_length _ _ _
theorem smL_bys (v n : Nat) : Bys (smL v n) := fun m hm => by
  simp only [smL, smF, List.mem_map, List.mem_range] at hm
  obtain ⟨j, _, rfl⟩ := hm
  split <;> omega
theorem smF_zero (v n : Nat) : smF v n 0 = List.replicate n 0 := by
  apply List.ext_getElem (by simp [smF])
  intro i h1 h2
  simp [smF]
theorem smF_set (v n i : Nat) : (smF v n i).set i ((v + 3 * i) % 256) = smF v n (i + 1) := by
  apply List.ext_getElem (by simp [smF])
  intro j h1 h2
  rw [List.getElem_set]
  simp only [smF, List.getElem_map, List.getElem_range]
  by_cases e : i = j
  · subst e; rw [if_pos rfl, if_pos (by omega)]
  · rw [if_neg e]
    by_cases e2 : j < i
    · rw [if_pos e2, if_pos (by omega)]
    · rw [if_neg e2, if_neg (by omega)]
theorem some_any (n v : Nat) (hn : n < 500) (hv : v < 256) (w : World) :
    Calls Try.prog 12 #[.int .i64 n, .int .u8 v] w fun e w' => e = .returned (.slice (some ⟨w.heap.size, 0, none⟩) n n) ∧ Arr w' w.heap.size 5 (smL v n) ∧ Chg (fun _ => False) w w' := by
  have hm := make_bytes w n n rfl (by omega)
  have hA0 : Arr (w.alloc (.cells (bcells (List.replicate n 0)) 5)) w.heap.size 5 (smF v n 0) := by rw [smF_zero]; exact Arr.new w 5 _
  have hG0 : Chg (fun _ => False) w (w.alloc (.cells (bcells (List.replicate n 0)) 5)) := (Chg.refl _ _).alloc _
  have hnz : (n : Int) < 500 := by omega
  have hvz : (v : Int) < 256 := by omega
  generalize w.alloc (.cells (bcells (List.replicate n 0)) 5) = w1 at *
  generalize hq : w.heap.size = q at *
  have HQ := hyd (Nat.le_of_eq hq)
  clear hq
  go_enter Try.func12, Try.ntmps12
  go_wp2_with fail
  clear hm
  go_loopw [6] (fun t6 wr => ∃ i : Nat, i ≤ n ∧ t6 = .int .i64 i ∧ Arr wr q 5 (smF v n i) ∧ Chg (fun _ => False) w wr) (fun t6 _ => n - (intOf t6).toNat)
  case atStart => exact ⟨0, by omega, rfl, hA0, hG0⟩
  case round =>
    clear hA0 hG0
    obtain ⟨i, hi, rfl, hA, hG⟩ := hrel
    by_cases hlt : i < n
    · have hltz : (i : Int) < n := by omega
      have c1 := hA.cell i (by rw [smF_length]; exact hlt)
      have f1 := hA.frozen i
      have HA := hyd (hA.store i ((v + 3 * i) % 256))
      rw [smF_set] at HA
      have HG := hyd (hG.setCell (Or.inr HQ.out) i (.int .u8 (((v + 3 * i) % 256 : Nat) : Int)))
      have hx : ((v : Int) + 3 * (i : Int)) % 256 = (((v + 3 * i) % 256 : Nat) : Int) := by omega
      generalize (v + 3 * i) % 256 = z at *
      clear hA hG
      go_wp2
      exact ⟨⟨i + 1, by omega, by go_num, HA.out, HG.out⟩, by simp [intOf]; omega⟩
    · have e : i = n := by omega
      subst e
      go_wp2
      go_ret
      exact ⟨rfl, hA, hG⟩
theorem dif3 : dif (setS zA 3 (smL 7 160)) zA 24 = [3] := by kernel_rfl
set_option maxHeartbeats 1000000 in
theorem shown_any (w : World) : Calls Try.prog 5 #[] w fun e w' => e = .returned (.bool true) ∧ Chg (fun _ => False) w w' := by
  have q0 := eql_nil_nil
  have q1 := eql_e1_e1
  go_enter Try.func5, Try.ntmps5
  go_wp2_with (go_at_call 6; refine (anew_any w).mono ?_; rintro e w1 ⟨rfl, hA, hG, -⟩)
  have HA1 := hyd hA
  have HG1 := hyd hG
  clear hA hG
  generalize hq : w.heap.size = q at *
  have HQ := hyd (Nat.le_of_eq hq)
  clear hq
  refine (some_any 160 7 (by decide) (by decide) w1).mono ?_
  rintro e w2 ⟨rfl, hS, hG⟩
  have HA2 := hyd (Sto.chg HA1.out hG (fun f => f))
  have HS2 := hyd (Arr.held hS 0 160 160 (smL 7 160) (smL_length 7 160).symm (by rw [smL_length]; decide) (fun i hi => by rw [Nat.zero_add]))
  have HG2 := hyd (HG1.out.trans hG)
  clear hS hG HA1 HG1
  go_wp2_with fail
  refine (write_yes q 3 zA (by decide) (some ⟨w1.heap.size, 0, none⟩) 160 160 (smL 7 160) rfl (smL_length _ _) w2 HA2.out HS2.out).mono ?_
  rintro e w3 ⟨rfl, hA, hG⟩
  have HA3 := hyd hA
  have HG3 : Hid (Chg (fun _ => False) w w3) := HG2.out.trans' hG (fun i hi e => by have := HQ.out; omega)
  clear hA hG HA2 HS2 HG2
  go_wp2_with fail
  refine (read_yes q 3 _ (zA_ok.set 3 (smL_length 7 160) (smL_bys 7 160)) (by decide) w3 HA3.out).mono ?_
  rintro e w4 ⟨v, rfl, hO, hG⟩
  obtain ⟨a4, c4, rfl⟩ := hO.slice
  have e4 : setS zA 3 (smL 7 160) 3 = smL 7 160 := if_pos rfl
  rw [e4, smL_length] at hO
  rw [e4, smL_length]
  have HO4 := hyd hO.held
  have HA4 := hyd (Sto.chg HA3.out hG (fun f => f))
  have HG4 := hyd (HG3.out.trans hG)
  clear hO hG HA3 HG3 e4
  go_wp2_with fail
  refine (read_no q 24 (by decide) w4).mono ?_
  rintro e w4 ⟨rfl, rfl⟩
  show _
  unfold errA
  go_wp2_with fail
  refine (some_any 160 7 (by decide) (by decide) w4).mono ?_
  rintro e w5 ⟨rfl, hS, hG⟩
  have HO5 := hyd (HO4.out.chg hG (fun _ _ _ f => f))
  have HA5 := hyd (Sto.chg HA4.out hG (fun f => f))
  have HS5 := hyd (Arr.held hS 0 160 160 (smL 7 160) (smL_length 7 160).symm (by rw [smL_length]; decide) (fun i hi => by rw [Nat.zero_add]))
  have HG5 := hyd (HG4.out.trans hG)
  clear hS hG HO4 HA4 HG4
  go_wp2_with fail
  refine (same_n w5 a4 (some ⟨w4.heap.size, 0, none⟩) 160 160 c4 160 (smL 7 160) (smL 7 160) (smL_length _ _).symm (smL_length _ _).symm HO5.out HS5.out (by rw [smL_length]; decide) (by rw [smL_length]; decide)).mono ?_
  rintro e w6 ⟨rfl, hG⟩
  rw [decide_eq_true (rfl : smL 7 160 = smL 7 160)]
  have HA6 := hyd (Sto.chg HA5.out hG (fun f => f))
  have HG6 := hyd (HG5.out.trans hG)
  clear hG HO5 HS5 HA5 HG5
  go_wp2_with fail
  refine (differ_nil q _ (zA_ok.set 3 (smL_length 7 160) (smL_bys 7 160)) w6 HA6.out).mono ?_
  rintro e w7 ⟨v, rfl, hO, hG⟩
  rw [dif3] at hO
  obtain ⟨g, c, rfl, -, -, hc, -⟩ := hO.lies (by decide)
  have c0 : w7.cell? ⟨g, 0, none⟩ = some (.int .i64 3) := hc 0 (by decide)
  have HG7 := hyd (HG6.out.trans hG)
  clear hO hc hG HG6 HA6
  show _
  go_wp2
  go_ret
  exact ⟨rfl, HG7.out⟩
end Go.Proofs.Ythpjdnfalecbeaa
