/-
  ScriptBack, walked: what is told is read as it was; what was read is told and read as the same. Conditions: the steps lie in memory, the numbers are ints, there are at most 2^40 of them; the variables hold what they were given.
-/
import Derived.Test.YtepbfdbooobnlaaGreatDoorSS
namespace Go.Proofs.YtepbfdbooobnlaaGreatDoor
set_option maxRecDepth 100000
open Go.RowKit
theorem Sl.old {w w' : World} {v : Value} {l : List S3} (h : Sl w v l) (hc : Chg (fun _ => False) w w') : Sl w' v l := h.new hc
theorem map_ts {l : List S3} (h : ∀ f ∈ l, tld f = true) : (l.map S3.t).map Stp.s = l := by
  rw [List.map_map]
  conv => rhs; rw [← List.map_id l]
  exact List.map_congr_left fun f hf => tld_t (h f hf)
theorem map_st (l : List Stp) : (l.map Stp.s).map S3.t = l := by
  rw [List.map_map]
  conv => rhs; rw [← List.map_id l]
  exact List.map_congr_left fun f _ => s_t f
theorem text_no (v : Value) (l : List S3) (w : World) (hl : Sl w v l) (hI : ∀ f ∈ l, I64 f.a ∧ I64 f.b) (hn : l.length ≤ 1099511627776) (hG : Gl w) (ht : ¬ ∀ f ∈ l, tld f = true) :
    Calls Tryz.prog 17 #[v] w fun e w' => ∃ h, e = .returned (.tuple #[.string ⟨#[]⟩, .iface 68 (.pointer (some ⟨h, 0, none⟩))]) ∧ Chg (fun _ => False) w w' := by
  refine (text_any v l w hl hI hn hG).mono ?_
  rintro e w' ⟨h1, h2⟩
  rcases h2.h with ⟨i, f, hf, h3, _, h, h4, _⟩ | ⟨h3, _⟩
  · exact ⟨h, h4, h1⟩
  · exact absurd h3 ht
theorem parse_len {s : ByteArray} {l : List Stp} (h : prt s.data.toList = .ok l) : l.length ≤ s.size + 1 := by
  have key : ∀ (ls : List (List UInt8)) (n : Nat) (s : List Stp), prs n ls = .ok s → s.length ≤ ls.length := by
    intro ls
    induction ls with
    | nil => intro n s h; simp [prs] at h; subst h; simp
    | cons x r ih =>
      intro n s h
      rw [prs] at h
      split at h
      · cases h
      · rename_i q hq
        split at h
        · cases h
        · rename_i s' hs
          injection h with h
          subst h
          have := ih (n + 1) s' hs
          cases q with
          | none => simp [lcons]; omega
          | some y => simp [lcons]; omega
  have h1 := key _ _ _ h
  have h2 := lns_many s.data.toList
  rw [← size_len] at h2
  omega
theorem okt_i64 {l : List Stp} (h : ∀ x ∈ l, Okt x) : ∀ f ∈ l.map Stp.s, I64 f.a ∧ I64 f.b := by
  intro f hf
  obtain ⟨x, hx, rfl⟩ := List.mem_map.1 hf
  exact ⟨(h x hx).ai, (h x hx).bi⟩
theorem okt_all {l : List Stp} (h : ∀ x ∈ l, Okt x) : ∀ f ∈ l.map Stp.s, tld f = true := by
  intro f hf
  obtain ⟨x, hx, rfl⟩ := List.mem_map.1 hf
  exact okt_tld (h x hx)
set_option maxHeartbeats 4000000 in
theorem back_any (v : Value) (l : List S3) (s : ByteArray) (w : World) (hl : Sl w v l) (hI : ∀ f ∈ l, I64 f.a ∧ I64 f.b) (hn : l.length ≤ 1099511627776) (hG : Gl w) :
    Calls Tryz.prog 6 #[v, .string s] w fun e w' => e = .returned (.bool true) ∧ Chg (fun _ => False) w w' := by
  have HS := hyd hl
  have HI := hyd hI
  have HN := hyd hn
  have HG := hyd hG
  clear hl hI hn hG
  obtain ⟨va, vn, vc, rfl⟩ : ∃ a n c, v = .slice a n c := by obtain ⟨a, c, h, _⟩ := HS.out; exact ⟨a, _, c, h⟩
  go_enter Tryz.func6, Tryz.ntmps6
  go_wp2_with (first | (go_at_call 8; refine (shown_any _ HG.out).mono ?_; rintro e w1 ⟨rfl, hC1⟩; refine Hid.out ?_))
  refine Lib.hid ?_
  have HC1 := hyd hC1
  have HG1 := hyd (HG.out.new hC1)
  have HS1 := hyd (HS.out.new hC1)
  clear hC1 HG HS
  by_cases ht : ∀ f ∈ l, tld f = true
  · have HT := hyd ht
    clear ht
    go_wp2_with (first | (go_at_call 17; refine (text_yes _ _ _ HS1.out HI.out HN.out HG1.out HT.out).mono ?_; rintro e w2 ⟨X, rfl, HX, hC2⟩; refine Hid.out ?_))
    refine Lib.hid ?_
    have HC2 := hyd (HC1.out.trans hC2)
    have HG2 := hyd (HG1.out.new hC2)
    have HS2 := hyd (HS1.out.new hC2)
    clear hC2 HC1 HG1 HS1
    by_cases hx : X.size ≤ 65536
    · have hxz : (X.size : Int) ≤ 65536 := by omega
      have HXp : Hid (prt X.data.toList = .ok (l.map S3.t)) := by
        show _ = _
        rw [HX.out, sb_list]
        refine prt_txt fun x hx => ?_
        obtain ⟨f, hf, rfl⟩ := List.mem_map.1 hx
        exact tld_ok (HT.out f hf) (HI.out f hf).1 (HI.out f hf).2
      go_wp2_with (first | (go_at_call 13; refine (parse_yes X _ HXp.out hx _ HG2.out).mono ?_; rintro e w3 ⟨v3, rfl, hO3, hC3⟩; refine Hid.out ?_))
      refine Lib.hid ?_
      have HC3 := hyd (HC2.out.trans hC3)
      have HG3 := hyd (HG2.out.new hC3)
      have HS3 := hyd (HS2.out.new hC3)
      rw [map_ts HT.out] at hO3
      have HT3 := hyd hO3.sl
      obtain ⟨a3, n3, c3, rfl⟩ := hO3.form
      clear hC3 hO3 HC2 HG2 HS2
      go_wp2_with (first | (go_at_call 15; refine (same_true _ _ _ _ HS3.out HT3.out (by have := HN.out; omega)).mono ?_; rintro e w4 ⟨rfl, hC4⟩; refine Hid.out ?_))
      refine Lib.hid ?_
      have HCx := hyd (HC3.out.trans hC4)
      have HGx := hyd (HG3.out.new hC4)
      clear hC4 HC3 HG3 HS3 HT3
      by_cases hs : s.size ≤ 65536
      · cases hd : prt s.data.toList with
        | error x =>
          obtain ⟨n', p', c'⟩ := x
          have HD := hyd hd
          clear hd
          go_wp2_with (first | (go_at_call 13; refine (parse_no s n' p' c' HD.out hs _ HGx.out).mono ?_; rintro e w5 ⟨h5, rfl, -, hC5⟩; refine Hid.out ?_))
          refine Lib.hid ?_
          have HC5 := hyd (HCx.out.trans hC5)
          clear hC5
          go_wp2
          go_ret
          exact ⟨rfl, HC5.out⟩
        | ok m =>
          have HD := hyd hd
          have HOk := hyd (prs_ok _ _ _ hd)
          have HMl := hyd (parse_len hd)
          clear hd
          go_wp2_with (first | (go_at_call 13; refine (parse_yes s m HD.out hs _ HGx.out).mono ?_; rintro e w5 ⟨v5, rfl, hO5, hC5⟩; refine Hid.out ?_))
          refine Lib.hid ?_
          have HC5 := hyd (HCx.out.trans hC5)
          have HG5 := hyd (HGx.out.new hC5)
          have HS5 := hyd hO5.sl
          obtain ⟨a5, n5, c5, rfl⟩ := hO5.form
          clear hC5 hO5
          have HL5 : Hid ((m.map Stp.s).length ≤ 1099511627776) := by show _ ≤ _; rw [List.length_map]; have := HMl.out; omega
          go_wp2_with (first | (go_at_call 17; refine (text_yes _ _ _ HS5.out (okt_i64 HOk.out) HL5.out HG5.out (okt_all HOk.out)).mono ?_; rintro e w6 ⟨Y, rfl, HY, hC6⟩; refine Hid.out ?_))
          refine Lib.hid ?_
          have HC6 := hyd (HC5.out.trans hC6)
          have HG6 := hyd (HG5.out.new hC6)
          have HS6 := hyd (HS5.out.new hC6)
          clear hC6 HC5 HG5 HS5
          by_cases hy : 65536 < Y.size
          · have hyz : (Y.size : Int) > 65536 := by omega
            go_wp2
            go_ret
            exact ⟨rfl, HC6.out⟩
          · have hyz : ¬ (Y.size : Int) > 65536 := by omega
            have HYp : Hid (prt Y.data.toList = .ok m) := by show _ = _; rw [HY.out, sb_list, map_st]; exact prt_txt HOk.out
            have HYs : Hid (Y.size ≤ 65536) := Nat.le_of_not_lt hy
            go_wp2_with (first | (go_at_call 13; refine (parse_yes Y m HYp.out HYs.out _ HG6.out).mono ?_; rintro e w7 ⟨v7, rfl, hO7, hC7⟩; refine Hid.out ?_))
            refine Lib.hid ?_
            have HC7 := hyd (HC6.out.trans hC7)
            have HS7 := hyd (HS6.out.new hC7)
            have HT7 := hyd hO7.sl
            obtain ⟨a7, n7, c7, rfl⟩ := hO7.form
            clear hC7 hO7 HC6 HS6
            go_wp2_with (first | (go_at_call 15; refine (same_true _ _ _ _ HS7.out HT7.out (by have := HL5.out; omega)).mono ?_; rintro e w8 ⟨rfl, hC8⟩; refine Hid.out ?_))
            refine Lib.hid ?_
            have HC8 := hyd (HC7.out.trans hC8)
            clear hC8
            go_wp2
            go_ret
            exact ⟨rfl, HC8.out⟩
      · go_wp2_with (first | (go_at_call 13; refine (parse_long s hs _).mono ?_; rintro e w5 ⟨rfl, hC5⟩; refine Hid.out ?_))
        refine Lib.hid ?_
        have HC5 := hyd (HCx.out.trans hC5)
        clear hC5
        go_wp2
        go_ret
        exact ⟨rfl, HC5.out⟩
    · have hxz : ¬ (X.size : Int) ≤ 65536 := by omega
      have HCx := HC2
      have HGx := HG2
      clear HC2 HG2
      by_cases hs : s.size ≤ 65536
      · cases hd : prt s.data.toList with
        | error x =>
          obtain ⟨n', p', c'⟩ := x
          have HD := hyd hd
          clear hd
          go_wp2_with (first | (go_at_call 13; refine (parse_no s n' p' c' HD.out hs _ HGx.out).mono ?_; rintro e w5 ⟨h5, rfl, -, hC5⟩; refine Hid.out ?_))
          refine Lib.hid ?_
          have HC5 := hyd (HCx.out.trans hC5)
          clear hC5
          go_wp2
          go_ret
          exact ⟨rfl, HC5.out⟩
        | ok m =>
          have HD := hyd hd
          have HOk := hyd (prs_ok _ _ _ hd)
          have HMl := hyd (parse_len hd)
          clear hd
          go_wp2_with (first | (go_at_call 13; refine (parse_yes s m HD.out hs _ HGx.out).mono ?_; rintro e w5 ⟨v5, rfl, hO5, hC5⟩; refine Hid.out ?_))
          refine Lib.hid ?_
          have HC5 := hyd (HCx.out.trans hC5)
          have HG5 := hyd (HGx.out.new hC5)
          have HS5 := hyd hO5.sl
          obtain ⟨a5, n5, c5, rfl⟩ := hO5.form
          clear hC5 hO5
          have HL5 : Hid ((m.map Stp.s).length ≤ 1099511627776) := by show _ ≤ _; rw [List.length_map]; have := HMl.out; omega
          go_wp2_with (first | (go_at_call 17; refine (text_yes _ _ _ HS5.out (okt_i64 HOk.out) HL5.out HG5.out (okt_all HOk.out)).mono ?_; rintro e w6 ⟨Y, rfl, HY, hC6⟩; refine Hid.out ?_))
          refine Lib.hid ?_
          have HC6 := hyd (HC5.out.trans hC6)
          have HG6 := hyd (HG5.out.new hC6)
          have HS6 := hyd (HS5.out.new hC6)
          clear hC6 HC5 HG5 HS5
          by_cases hy : 65536 < Y.size
          · have hyz : (Y.size : Int) > 65536 := by omega
            go_wp2
            go_ret
            exact ⟨rfl, HC6.out⟩
          · have hyz : ¬ (Y.size : Int) > 65536 := by omega
            have HYp : Hid (prt Y.data.toList = .ok m) := by show _ = _; rw [HY.out, sb_list, map_st]; exact prt_txt HOk.out
            have HYs : Hid (Y.size ≤ 65536) := Nat.le_of_not_lt hy
            go_wp2_with (first | (go_at_call 13; refine (parse_yes Y m HYp.out HYs.out _ HG6.out).mono ?_; rintro e w7 ⟨v7, rfl, hO7, hC7⟩; refine Hid.out ?_))
            refine Lib.hid ?_
            have HC7 := hyd (HC6.out.trans hC7)
            have HS7 := hyd (HS6.out.new hC7)
            have HT7 := hyd hO7.sl
            obtain ⟨a7, n7, c7, rfl⟩ := hO7.form
            clear hC7 hO7 HC6 HS6
            go_wp2_with (first | (go_at_call 15; refine (same_true _ _ _ _ HS7.out HT7.out (by have := HL5.out; omega)).mono ?_; rintro e w8 ⟨rfl, hC8⟩; refine Hid.out ?_))
            refine Lib.hid ?_
            have HC8 := hyd (HC7.out.trans hC8)
            clear hC8
            go_wp2
            go_ret
            exact ⟨rfl, HC8.out⟩
      · go_wp2_with (first | (go_at_call 13; refine (parse_long s hs _).mono ?_; rintro e w5 ⟨rfl, hC5⟩; refine Hid.out ?_))
        refine Lib.hid ?_
        have HC5 := hyd (HCx.out.trans hC5)
        clear hC5
        go_wp2
        go_ret
        exact ⟨rfl, HC5.out⟩
  · have HT := hyd ht
    clear ht
    go_wp2_with (first | (go_at_call 17; refine (text_no _ _ _ HS1.out HI.out HN.out HG1.out HT.out).mono ?_; rintro e w2 ⟨h2, rfl, hC2⟩; refine Hid.out ?_))
    refine Lib.hid ?_
    have HCx := hyd (HC1.out.trans hC2)
    have HGx := hyd (HG1.out.new hC2)
    clear hC2 HC1 HG1
    by_cases hs : s.size ≤ 65536
    · cases hd : prt s.data.toList with
      | error x =>
        obtain ⟨n', p', c'⟩ := x
        have HD := hyd hd
        clear hd
        go_wp2_with (first | (go_at_call 13; refine (parse_no s n' p' c' HD.out hs _ HGx.out).mono ?_; rintro e w5 ⟨h5, rfl, -, hC5⟩; refine Hid.out ?_))
        refine Lib.hid ?_
        have HC5 := hyd (HCx.out.trans hC5)
        clear hC5
        go_wp2
        go_ret
        exact ⟨rfl, HC5.out⟩
      | ok m =>
        have HD := hyd hd
        have HOk := hyd (prs_ok _ _ _ hd)
        have HMl := hyd (parse_len hd)
        clear hd
        go_wp2_with (first | (go_at_call 13; refine (parse_yes s m HD.out hs _ HGx.out).mono ?_; rintro e w5 ⟨v5, rfl, hO5, hC5⟩; refine Hid.out ?_))
        refine Lib.hid ?_
        have HC5 := hyd (HCx.out.trans hC5)
        have HG5 := hyd (HGx.out.new hC5)
        have HS5 := hyd hO5.sl
        obtain ⟨a5, n5, c5, rfl⟩ := hO5.form
        clear hC5 hO5
        have HL5 : Hid ((m.map Stp.s).length ≤ 1099511627776) := by show _ ≤ _; rw [List.length_map]; have := HMl.out; omega
        go_wp2_with (first | (go_at_call 17; refine (text_yes _ _ _ HS5.out (okt_i64 HOk.out) HL5.out HG5.out (okt_all HOk.out)).mono ?_; rintro e w6 ⟨Y, rfl, HY, hC6⟩; refine Hid.out ?_))
        refine Lib.hid ?_
        have HC6 := hyd (HC5.out.trans hC6)
        have HG6 := hyd (HG5.out.new hC6)
        have HS6 := hyd (HS5.out.new hC6)
        clear hC6 HC5 HG5 HS5
        by_cases hy : 65536 < Y.size
        · have hyz : (Y.size : Int) > 65536 := by omega
          go_wp2
          go_ret
          exact ⟨rfl, HC6.out⟩
        · have hyz : ¬ (Y.size : Int) > 65536 := by omega
          have HYp : Hid (prt Y.data.toList = .ok m) := by show _ = _; rw [HY.out, sb_list, map_st]; exact prt_txt HOk.out
          have HYs : Hid (Y.size ≤ 65536) := Nat.le_of_not_lt hy
          go_wp2_with (first | (go_at_call 13; refine (parse_yes Y m HYp.out HYs.out _ HG6.out).mono ?_; rintro e w7 ⟨v7, rfl, hO7, hC7⟩; refine Hid.out ?_))
          refine Lib.hid ?_
          have HC7 := hyd (HC6.out.trans hC7)
          have HS7 := hyd (HS6.out.new hC7)
          have HT7 := hyd hO7.sl
          obtain ⟨a7, n7, c7, rfl⟩ := hO7.form
          clear hC7 hO7 HC6 HS6
          go_wp2_with (first | (go_at_call 15; refine (same_true _ _ _ _ HS7.out HT7.out (by have := HL5.out; omega)).mono ?_; rintro e w8 ⟨rfl, hC8⟩; refine Hid.out ?_))
          refine Lib.hid ?_
          have HC8 := hyd (HC7.out.trans hC8)
          clear hC8
          go_wp2
          go_ret
          exact ⟨rfl, HC8.out⟩
    · go_wp2_with (first | (go_at_call 13; refine (parse_long s hs _).mono ?_; rintro e w5 ⟨rfl, hC5⟩; refine Hid.out ?_))
      refine Lib.hid ?_
      have HC5 := hyd (HCx.out.trans hC5)
      clear hC5
      go_wp2
      go_ret
      exact ⟨rfl, HC5.out⟩
end Go.Proofs.YtepbfdbooobnlaaGreatDoor
