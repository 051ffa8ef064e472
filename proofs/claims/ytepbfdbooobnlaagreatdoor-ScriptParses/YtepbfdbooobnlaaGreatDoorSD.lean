/-
  The number that is due (script): what it answers, or what is thrown. Condition: as the word's.
-/
import Derived.Test.YtepbfdbooobnlaaGreatDoorSK
import Derived.Lib.ConvBytes
namespace Go.Proofs.YtepbfdbooobnlaaGreatDoor
set_option maxRecDepth 100000
open Go.RowKit
/-- What was thrown lies there. -/
structure Thr (w w' : World) (e : Ending) (n p c : Int) : Prop where
  h : ∃ h, e = .panicked [{ v := .iface 68 (.pointer (some ⟨h, 0, none⟩)), recovered := false }] ∧ w.heap.size ≤ h ∧ w'.heap[h]? = some (.cells (fcell n p c) 70)
theorem chg_below {w w' : World} (h : Below w.heap.size w w') : Chg (fun _ => False) w w' := ⟨h.os, h.tape, h.output, h.size, fun k hk _ => h.block k hk⟩
theorem atoi_ok (X : ByteArray) (l : List UInt8) (hX : X = sb l) (hs : X.size ≤ 65536) (v : Int) (hv : Lib.atoiAll l = .ok v) (w : World) :
    Calls Tryz.prog 59 #[.string X] w fun e w' => e = .returned (.tuple #[.int .i64 v, .nilIface]) ∧ Chg (fun _ => False) w w' := by
  subst hX
  refine (Tryz.strconv_Atoi_ok (sb l) (by omega) v hv w).mono ?_
  rintro e w' ⟨rfl, rfl | ⟨t, rfl⟩⟩
  · exact ⟨rfl, Chg.refl _ _⟩
  · exact ⟨rfl, chg_below (Lib.bytesWorld_below _ _ _)⟩
theorem atoi_no (X : ByteArray) (l : List UInt8) (hX : X = sb l) (hs : X.size ≤ 65536) (hv : ∀ v, Lib.atoiAll l ≠ .ok v) (w : World) (hG : Gl w) :
    Calls Tryz.prog 59 #[.string X] w fun e w' => ∃ (z : Int) (t : TypeId) (a : Addr), e = .returned (.tuple #[.int .i64 z, .iface t (.pointer (some a))]) ∧ Chg (fun _ => False) w w' := by
  subst hX
  cases e : Lib.atoiAll l with
  | ok v => exact absurd e (hv v)
  | range =>
    obtain ⟨t, p, hc⟩ := hG.ran
    refine (Tryz.strconv_Atoi_range (sb l) (by omega) e _ w hc (Or.inr ⟨t, p, rfl⟩)).mono ?_
    rintro e w' ⟨N, rfl, h⟩
    exact ⟨_, _, _, rfl, chg_below (by first | exact h | exact h.1 | exact h.2 | exact h.2.2 | exact h.2.1)⟩
  | _ =>
    obtain ⟨t, p, hc⟩ := hG.syn
    refine (Any.strconv_Atoi_syntax_var Tryz.laysC172 (sb l) (by omega) e t p w hc).mono ?_
    rintro e w' ⟨N, rfl, h⟩
    exact ⟨_, _, _, rfl, chg_below h.2.2⟩
theorem chg_grow (w : World) (k : Nat) (os : Array Obj) : Chg (fun _ => False) w (Go.Sort.grow (w.drewN k) os) := by
  have h := (Chg.refl (fun _ => False) w).drewN k
  generalize w.drewN k = w at *
  refine h.trans ⟨rfl, rfl, rfl, by simp [Go.Sort.grow], fun i hi _ => ?_⟩
  have hi' : i < w.heap.size := hi
  simp only [Go.Sort.grow]
  exact Array.getElem?_append_left hi'
theorem itoa_v (v : Int) (hv : I64 v) (w : World) (hG : Gl w) :
    Calls Tryz.prog 29 #[.int .i64 v] w fun e w' => ∃ X : ByteArray, e = .returned (.string X) ∧ Hid (X = sb (Lib.itoa v)) ∧ Chg (fun _ => False) w w' := by
  refine (Tryz.strconv_Itoa v hv.1 hv.2 w hG.pow).mono ?_
  rintro e w' ⟨rfl, k, os, rfl⟩
  exact ⟨_, rfl, rfl, chg_grow w k os⟩
theorem emp_true {X : ByteArray} (h : X = sb []) : X.toList.isEmpty = true := by subst h; rw [ByteArray.toList_eq]; rfl
theorem emp_false {X : ByteArray} {l : List UInt8} (h : X = sb l) (hl : l ≠ []) : X.toList.isEmpty = false := by
  subst h
  rw [ByteArray.toList_eq]
  cases l with
  | nil => exact absurd rfl hl
  | cons a b => rfl
theorem heap_new (w : World) (o : Obj) : (w.alloc o).heap[w.heap.size]? = some o := by
  show (w.heap.push _)[w.heap.size]? = _
  simp
theorem wq_end {l : List UInt8} {p : Nat} (h : en (l.drop (nx l p)) = true) : wq l (nx l p) = [] := by rw [wq, if_pos h]
theorem wq_in {l : List UInt8} {p : Nat} (h : en (l.drop (nx l p)) = false) : wq l (nx l p) = wo l (nx l p) := by rw [wq, if_neg (by rw [h]; simp)]
theorem wq_ne {l : List UInt8} {p : Nat} (h : en (l.drop (nx l p)) = false) : wq l (nx l p) ≠ [] := by rw [wq_in h]; exact wd_ne (nx_nx l p) h
theorem wq_le {s : ByteArray} {p : Nat} (hp : p ≤ s.size) : nx s.data.toList p + (wq s.data.toList (nx s.data.toList p)).length ≤ s.size := by
  have h1 := nx_le (l := s.data.toList) (p := p) (by rw [← size_len]; exact hp)
  have h2 := af_le h1
  rw [size_len]
  unfold wq
  split
  · simpa using h1
  · exact h2
/-- What the call answers, or throws. -/
def DuR (g : Nat) (n : Int) (s : ByteArray) (w w' : World) (e : Ending) : Du → Prop
  | .ok (v, p2) => e = .returned (.int .i64 v) ∧ Li w' g n s p2
  | .error (c, b) => Thr w w' e n b c
set_option maxHeartbeats 1000000 in
theorem due_any (g : Nat) (n : Int) (s : ByteArray) (p : Nat) (w : World) (hg : 10 ≤ g) (hs : s.size ≤ 65536) (hp : p ≤ s.size) (hl : Li w g n s p) (hG : Gl w) :
    Calls Tryz.prog 41 #[.pointer (some ⟨g, 0, none⟩)] w fun e w' => Chg (· = g) w w' ∧ DuR g n s w w' e (due s.data.toList p) := by
  have HL := hyd hl
  have HG := hyd hG
  have HP := hyd hp
  clear hl hG hp
  generalize hD : due s.data.toList p = D
  have HD := hyd hD
  clear hD
  go_enter Tryz.func41, Tryz.ntmps41
  go_wp2_with (go_at_call 38; refine (word_any g n s p _ hg hs HP.out HL.out HG.out).mono ?_; rintro e w1 ⟨X, rfl, HX, hL1, hC1⟩; refine Hid.out ?_)
  refine Lib.hid ?_
  have HL1 := hyd hL1
  have HC1 := hyd hC1
  have HG1 := hyd (HG.out.chg hC1 (fun k hk e => by omega))
  clear hL1 hC1
  have HSz : Hid (X.size ≤ 65536) := by show _ ≤ _; rw [HX.out, sb_size]; have := wq_le HP.out; omega
  by_cases hen : en (s.data.toList.drop (nx s.data.toList p)) = true
  · have he := emp_true (HX.out.trans (by rw [wq_end hen]))
    have HE : Hid (D = .error (18, nx s.data.toList p)) := by show _ = _; rw [← HD.out, due, if_pos hen]
    clear hen
    generalize nx s.data.toList p = b at *
    go_wp2_with (first | (go_at_call 40; refine (giveUp_any g n s _ _ _ _ HL1.out).mono ?_; rintro e w2 ⟨rfl, rfl⟩))
    refine ⟨rfl, HC1.out.alloc _, ?_⟩
    rw [HE.out]
    exact ⟨_, rfl, HC1.out.size, heap_new _ _⟩
  · rw [Bool.not_eq_true] at hen
    have he := emp_false HX.out (wq_ne hen)
    have HW := hyd (wq_in hen)
    have HB : Hid (num (wq s.data.toList (nx s.data.toList p)) = none → D = .error (17, nx s.data.toList p)) := by
      intro h; rw [← HD.out, due, if_neg (by rw [hen]; simp), ← wq_in hen, h]
    have HO : Hid (∀ v, num (wq s.data.toList (nx s.data.toList p)) = some v → D = .ok (v, nx s.data.toList p + (wq s.data.toList (nx s.data.toList p)).length)) := by
      intro v h; rw [← HD.out, due, if_neg (by rw [hen]; simp), ← wq_in hen, h, af, ← wq_in hen]
    clear hen HD
    generalize nx s.data.toList p = b at *
    generalize wq s.data.toList b = l at *
    cases ha : Lib.atoiAll l with
    | ok v =>
      have hv : I64 v := Lib.atoiAll_bounds ha
      have HI := hyd hv
      have HA := hyd ha
      clear hv ha
      go_wp2_with (first | (go_at_call 59; refine (atoi_ok X l HX.out HSz.out v HA.out _).mono ?_; rintro e w2 ⟨rfl, hC2⟩; refine Hid.out ?_))
      refine Lib.hid ?_
      have HC2 := hyd (HC1.out.trans' hC2 (fun i _ f => f.elim))
      have HG2 := hyd (HG1.out.new hC2)
      have HL2 := hyd (HL1.out.chg hC2 (fun f => f))
      clear hC2
      go_wp2_with (first | (go_at_call 29; refine (itoa_v v HI.out _ HG2.out).mono ?_; rintro e w3 ⟨Y, rfl, HY, hC3⟩; refine Hid.out ?_))
      refine Lib.hid ?_
      have HC3 := hyd (HC2.out.trans' hC3 (fun i _ f => f.elim))
      have HL3 := hyd (HL2.out.chg hC3 (fun f => f))
      clear hC3
      by_cases hq : Lib.itoa v = l
      · have HN : Hid (num l = some v) := by show _ = _; unfold num; rw [HA.out]; exact if_pos hq
        have hqe := seq_true (show Y = X from HY.out.trans (by rw [hq]; exact HX.out.symm))
        clear hq
        go_wp2
        go_ret
        refine ⟨HC3.out, ?_⟩
        rw [HO.out v HN.out]
        exact ⟨rfl, HL3.out⟩
      · have HN : Hid (num l = none) := by show _ = _; unfold num; rw [HA.out]; exact if_neg hq
        have hqe := seq_false (fun h : Y = X => hq (sb_inj (HY.out.symm.trans (h.trans HX.out))))
        clear hq
        go_wp2_with (first | (go_at_call 40; refine (giveUp_any g n s _ _ _ _ HL3.out).mono ?_; rintro e w4 ⟨rfl, rfl⟩))
        refine ⟨rfl, HC3.out.alloc _, ?_⟩
        rw [HB.out HN.out]
        exact ⟨_, rfl, HC3.out.size, heap_new _ _⟩
    | _ =>
      have HN : Hid (num l = none) := by show _ = _; unfold num; rw [ha]
      have HA : Hid (∀ v, Lib.atoiAll l ≠ .ok v) := by intro v h; rw [ha] at h; cases h
      clear ha
      go_wp2_with (first | (go_at_call 59; refine (atoi_no X l HX.out HSz.out HA.out _ HG1.out).mono ?_; rintro e w2 ⟨z, ty, a, rfl, hC2⟩; refine Hid.out ?_))
      refine Lib.hid ?_
      have HC2 := hyd (HC1.out.trans' hC2 (fun i _ f => f.elim))
      have HL2 := hyd (HL1.out.chg hC2 (fun f => f))
      clear hC2
      go_wp2_with (first | (go_at_call 40; refine (giveUp_any g n s _ _ _ _ HL2.out).mono ?_; rintro e w4 ⟨rfl, rfl⟩))
      refine ⟨rfl, HC2.out.alloc _, ?_⟩
      rw [HB.out HN.out]
      exact ⟨_, rfl, HC2.out.size, heap_new _ _⟩
end Go.Proofs.YtepbfdbooobnlaaGreatDoor
