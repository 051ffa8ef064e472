/-
  ScriptParses, walked: a text is read as its steps, or refused at the first place that is amiss. Condition: the variables hold what they were given.
-/
import Derived.Test.YtepbfdbooobnlaaGreatDoorRT
import Derived.Test.YtepbfdbooobnlaaGreatDoorBK
namespace Go.Proofs.YtepbfdbooobnlaaGreatDoor
set_option maxRecDepth 100000
open Go.RowKit
theorem rparse_yes (X : ByteArray) (hs : X.size ≤ 65536) (w : World) (l : List Stp) (h : prt X.data.toList = .ok l) :
    Calls Tryz.prog 14 #[.string X] w fun e w' => ∃ v, e = .returned (.tuple #[v, .agg #[.int .i64 0, .int .i64 0, .int .i64 0]]) ∧ Ow w' w.heap.size v (l.map Stp.s) ∧ Chg (fun _ => False) w w' := by
  refine (rparse_any X hs w).mono ?_
  rintro e w' ⟨h1, h2⟩
  rw [h] at h2
  obtain ⟨v, h3, h4⟩ := h2
  exact ⟨v, h3, h4, h1⟩
theorem rparse_no (X : ByteArray) (hs : X.size ≤ 65536) (w : World) (n p c : Nat) (h : prt X.data.toList = .error (n, p, c)) :
    Calls Tryz.prog 14 #[.string X] w fun e w' => e = .returned (.tuple #[.slice none 0 0, .agg #[.int .i64 c, .int .i64 n, .int .i64 p]]) ∧ Chg (fun _ => False) w w' := by
  refine (rparse_any X hs w).mono ?_
  rintro e w' ⟨h1, h2⟩
  rw [h] at h2
  exact ⟨h2, h1⟩
theorem prs_bad : ∀ (ls : List (List UInt8)) (m n p c : Nat), prs m ls = .error (n, p, c) → Cd c ∧ m ≤ n
  | [], m, n, p, c, h => by cases h
  | l :: r, m, n, p, c, h => by
    rw [prs] at h
    split at h
    · rename_i x1 x2 hx
      injection h with h
      injection h with h1 h
      injection h with h2 h3
      subst h1 h2 h3
      exact ⟨(lin_code hx).1, Nat.le_refl _⟩
    · split at h
      · rename_i x hx
        injection h with h
        subst h
        obtain ⟨h1, h2⟩ := prs_bad r (m + 1) n p c hx
        exact ⟨h1, by omega⟩
      · cases h
set_option maxHeartbeats 4000000 in
theorem parses_any (X : ByteArray) (w : World) (hG : Gl w) :
    Calls Tryz.prog 4 #[.string X] w fun e w' => e = .returned (.bool true) ∧ Chg (fun _ => False) w w' := by
  have HG := hyd hG
  clear hG
  go_enter Tryz.func4, Tryz.ntmps4
  go_wp2_with (first | (go_at_call 8; refine (shown_any _ HG.out).mono ?_; rintro e w1 ⟨rfl, hC1⟩; refine Hid.out ?_))
  refine Lib.hid ?_
  have HC1 := hyd hC1
  have HG1 := hyd (HG.out.new hC1)
  clear hC1 HG
  by_cases hs : X.size ≤ 65536
  · cases hd : prt X.data.toList with
    | error x =>
      obtain ⟨n, p, c⟩ := x
      have HD := hyd hd
      have hb := prs_bad _ _ _ _ _ hd
      have HCd := hyd hb.1
      have HN1 : Hid ((n : Int) ≠ 0) := by show _ ≠ _; have := hb.2; omega
      clear hd hb
      go_wp2_with (first | (go_at_call 13; refine (parse_no X n p c HD.out hs _ HG1.out).mono ?_; rintro e w2 ⟨h, rfl, hh, hC2⟩; refine Hid.out ?_))
      refine Lib.hid ?_
      have HH2 := hyd hh
      have HC2 := hyd (HC1.out.trans hC2)
      have HG2 := hyd (HG1.out.new hC2)
      clear hh hC2 HC1 HG1
      go_wp2_with (first | (go_at_call 14; refine (rparse_no X hs _ n p c HD.out).mono ?_; rintro e w3 ⟨rfl, hC3⟩; refine Hid.out ?_))
      refine Lib.hid ?_
      have HC3 := hyd (HC2.out.trans hC3)
      have HG3 := hyd (HG2.out.new hC3)
      have HH3 := hyd ((hC3.block h (Array.getElem?_eq_some_iff.1 HH2.out.2).1 (fun x => x)).trans HH2.out.2)
      clear hC3 HC2 HG2 HH2
      obtain ⟨k0, k1, k2⟩ := bad_cells w3 c n p
      have HA : Hid (Chg (fun _ => False) w3 (w3.alloc (.cells #[.int .i64 c, .int .i64 n, .int .i64 p] 35))) := (Chg.refl _ w3).alloc _
      have HGa := hyd (HG3.out.new HA.out)
      have HHa := hyd ((HA.out.block h (Array.getElem?_eq_some_iff.1 HH3.out).1 (fun x => x)).trans HH3.out)
      have HCa := hyd (HC3.out.trans HA.out)
      clear HC3 HG3 HH3 HA
      go_wp2_with (first | (go_at_call 15; refine (same_true _ _ [] _ (Sl.nil _ none 0) (Sl.nil _ none 0) (by decide)).mono ?_; rintro e w5 ⟨rfl, hC5⟩; refine Hid.out ?_))
      refine Lib.hid ?_
      have q0 := (hC5.cell (c := w3.heap.size) (by simp) (fun x => x) 0).trans k0
      have q1 := (hC5.cell (c := w3.heap.size) (by simp) (fun x => x) 1).trans k1
      have q2 := (hC5.cell (c := w3.heap.size) (by simp) (fun x => x) 2).trans k2
      have HGb := hyd (HGa.out.new hC5)
      have HHb := hyd ((hC5.block h (Array.getElem?_eq_some_iff.1 HHa.out).1 (fun x => x)).trans HHa.out)
      have HCb := hyd (HCa.out.trans hC5)
      clear hC5 HGa HHa HCa k0 k1 k2
      go_wp2_with (first | (go_at_call 16; refine (refused_at h n p c HCd.out HN1.out _ HGb.out HHb.out).mono ?_; rintro e w6 ⟨rfl, hC6⟩; refine Hid.out ?_))
      refine Lib.hid ?_
      have HC6 := hyd (HCb.out.trans hC6)
      clear hC6
      go_wp2
      go_ret
      exact ⟨rfl, HC6.out⟩
    | ok m =>
      have HD := hyd hd
      have HMl := hyd (parse_len hd)
      clear hd
      go_wp2_with (first | (go_at_call 13; refine (parse_yes X m HD.out hs _ HG1.out).mono ?_; rintro e w2 ⟨v2, rfl, hO2, hC2⟩; refine Hid.out ?_))
      refine Lib.hid ?_
      have HC2 := hyd (HC1.out.trans hC2)
      have HS2 := hyd hO2.sl
      obtain ⟨a2, n2, c2, rfl⟩ := hO2.form
      clear hC2 hO2 HC1 HG1
      go_wp2_with (first | (go_at_call 14; refine (rparse_yes X hs _ m HD.out).mono ?_; rintro e w3 ⟨v3, rfl, hO3, hC3⟩; refine Hid.out ?_))
      refine Lib.hid ?_
      have HC3 := hyd (HC2.out.trans hC3)
      have HS3 := hyd (HS2.out.new hC3)
      have HT3 := hyd hO3.sl
      obtain ⟨a3, n3, c3, rfl⟩ := hO3.form
      clear hC3 hO3 HC2 HS2
      have HA4 : Hid (Chg (fun _ => False) w3 (w3.alloc (.cells #[.int .i64 0, .int .i64 0, .int .i64 0] 35))) := (Chg.refl _ _).alloc _
      obtain ⟨k0, k1, k2⟩ := bad_cells w3 0 0 0
      have HS4 := hyd (HS3.out.new HA4.out)
      have HT4 := hyd (HT3.out.new HA4.out)
      have HC4 := hyd (HC3.out.trans HA4.out)
      clear HC3 HS3 HT3 HA4
      go_wp2_with (first | (go_at_call 15; refine (same_true _ _ _ _ HS4.out HT4.out (by rw [List.length_map]; have := HMl.out; omega)).mono ?_; rintro e w5 ⟨rfl, hC5⟩; refine Hid.out ?_))
      refine Lib.hid ?_
      have q0 := (hC5.cell (c := w3.heap.size) (by simp) (fun x => x) 0).trans k0
      have q1 := (hC5.cell (c := w3.heap.size) (by simp) (fun x => x) 1).trans k1
      have q2 := (hC5.cell (c := w3.heap.size) (by simp) (fun x => x) 2).trans k2
      have HC5 := hyd (HC4.out.trans hC5)
      clear hC5 HC4 HS4 HT4 k0 k1 k2
      go_wp2_with (first | (go_at_call 16; refine (refused_nil _).mono ?_; rintro e w6 ⟨rfl, hC6⟩; refine Hid.out ?_))
      refine Lib.hid ?_
      have HC6 := hyd (HC5.out.trans hC6)
      clear hC6
      go_wp2
      go_ret
      exact ⟨rfl, HC6.out⟩
  · go_wp2_with (first | (go_at_call 13; refine (parse_long X hs _).mono ?_; rintro e w2 ⟨rfl, hC2⟩; refine Hid.out ?_))
    refine Lib.hid ?_
    have HC2 := hyd (HC1.out.trans hC2)
    clear hC2 HC1 HG1
    have hs2 : 65536 < X.size := by omega
    go_wp2_with (first | (go_at_call 14; refine (rparse_long X hs2 _).mono ?_; rintro e w3 ⟨rfl, hC3⟩; refine Hid.out ?_))
    refine Lib.hid ?_
    obtain ⟨k0, k1, k2⟩ := bad_cells w3 2 0 0
    have HCa : Hid (Chg (fun _ => False) w (w3.alloc (.cells #[.int .i64 2, .int .i64 0, .int .i64 0] 35))) := (HC2.out.trans hC3).alloc _
    clear hC3 HC2
    go_wp2_with (first | (go_at_call 15; refine (same_true _ _ [] _ (Sl.nil _ none 0) (Sl.nil _ none 0) (by decide)).mono ?_; rintro e w5 ⟨rfl, hC5⟩; refine Hid.out ?_))
    refine Lib.hid ?_
    have q0 := (hC5.cell (c := w3.heap.size) (by simp) (fun x => x) 0).trans k0
    have q1 := (hC5.cell (c := w3.heap.size) (by simp) (fun x => x) 1).trans k1
    have q2 := (hC5.cell (c := w3.heap.size) (by simp) (fun x => x) 2).trans k2
    have HCb := hyd (HCa.out.trans hC5)
    have hD2 : Cd 2 := Or.inl rfl
    clear hC5 HCa k0 k1 k2
    go_wp2_with (first | (go_at_call 16; refine (refused_code 2 hD2 _).mono ?_; rintro e w6 ⟨rfl, hC6⟩; refine Hid.out ?_))
    refine Lib.hid ?_
    have HC6 := hyd (HCb.out.trans hC6)
    clear hC6
    go_wp2
    go_ret
    exact ⟨rfl, HC6.out⟩
end Go.Proofs.YtepbfdbooobnlaaGreatDoor
