/-
  The document's reading of a number: what a word writes. No condition.
-/
import Derived.Test.YtepbfdbooobnlaaGreatDoorRP
namespace Go.Proofs.YtepbfdbooobnlaaGreatDoor
set_option maxRecDepth 100000
open Go.RowKit
/-- What 'whole' answers. -/
def WhR (l : List UInt8) (e : Ending) : Prop := (∃ v, num l = some v ∧ e = .returned (.tuple #[.int .i64 v, .bool true])) ∨ (num l = none ∧ ∃ x : Int, e = .returned (.tuple #[.int .i64 x, .bool false]))
theorem idx0 {t : ByteArray} {c : UInt8} {r : List UInt8} (h : t = sb (c :: r)) (w : World) : (Instr.index 9 (.string t) (.int .i64 0)).run Tryz.prog w = .ok (.int .u8 c.toNat) w :=
  idx_str (p := 0) (by rw [h, sb_list]; rfl) w
/-- How far the digits were read. -/
structure Dg (l : List UInt8) (i x : Nat) : Prop where
  lt : x < 10 ^ i
  v : dval 0 l = dval x (l.drop i)
theorem Dg.bnd {l : List UInt8} {i x : Nat} (h : Dg l i x) (hi : i ≤ 19) : x < 10000000000000000000 :=
  Nat.lt_of_lt_of_le h.lt (Nat.pow_le_pow_right (by decide) hi : 10 ^ i ≤ 10 ^ 19)
theorem Dg.next {l : List UInt8} {i x : Nat} {c : UInt8} (h : Dg l i x) (hc : l[i]? = some c) (h1 : 48 ≤ c.toNat ∧ c.toNat ≤ 57) : Dg l (i + 1) (10 * x + (c.toNat - 48)) := by
  obtain ⟨h2, h3⟩ := List.getElem?_eq_some_iff.1 hc
  refine ⟨?_, ?_⟩
  · have := h.lt
    rw [Nat.pow_succ]
    omega
  · rw [h.v, List.drop_eq_getElem_cons h2, h3, dval, if_pos h1, Nat.mul_comm]
theorem Dg.bad {l : List UInt8} {i x : Nat} {c : UInt8} (h : Dg l i x) (hc : l[i]? = some c) (h1 : ¬ (48 ≤ c.toNat ∧ c.toNat ≤ 57)) : dval 0 l = none := by
  obtain ⟨h2, h3⟩ := List.getElem?_eq_some_iff.1 hc
  rw [h.v, List.drop_eq_getElem_cons h2, h3, dval, if_neg h1]
theorem Dg.done {l : List UInt8} {i x : Nat} (h : Dg l i x) (hi : l.length ≤ i) : dval 0 l = some x := by
  rw [h.v, List.drop_eq_nil_of_le hi]; rfl
theorem ext_one {X : ByteArray} {c : UInt8} {r : List UInt8} (h : X = sb (c :: r)) : X.extract 1 X.size = sb r := by
  have h1 : (X.extract 1 X.size).data.toList = r := by rw [ext_drop, h, sb_list]; rfl
  rw [← h1]
  exact (sb_data _).symm
theorem num_neg {r : List UInt8} (h : r = [] ∨ r.head? = some 48 ∨ 19 < r.length) : num (45 :: r) = none := by
  rw [← whl_num, whl, if_pos (show (45 :: r).head? = some 45 from rfl), if_pos (show (45 :: r).tail = [] ∨ (45 :: r).tail.head? = some 48 ∨ 19 < (45 :: r).tail.length from h)]
theorem num_pos {l : List UInt8} (h0 : l.head? ≠ some 45) (h : l = [] ∨ (l.head? = some 48 ∧ 1 < l.length) ∨ 19 < l.length) : num l = none := by
  rw [← whl_num, whl, if_neg h0, if_pos h]
theorem num_neg' {r : List UInt8} (h : ¬ (r = [] ∨ r.head? = some 48 ∨ 19 < r.length)) : num (45 :: r) = (dval 0 r).bind fun x => if x ≤ 9223372036854775808 then some (-(x : Int)) else none := by
  rw [← whl_num, whl, if_pos (show (45 :: r).head? = some 45 from rfl), if_neg (show ¬ ((45 :: r).tail = [] ∨ (45 :: r).tail.head? = some 48 ∨ 19 < (45 :: r).tail.length) from h)]; rfl
theorem num_pos' {l : List UInt8} (h0 : l.head? ≠ some 45) (h : ¬ (l = [] ∨ (l.head? = some 48 ∧ 1 < l.length) ∨ 19 < l.length)) : num l = (dval 0 l).bind fun x => if x ≤ 9223372036854775807 then some (x : Int) else none := by
  rw [← whl_num, whl, if_neg h0, if_neg h]
theorem mul_w {x : Nat} (h : x < 1000000000000000000) (c : UInt8) (h1 : 48 ≤ c.toNat ∧ c.toNat ≤ 57) :
    IntKind.u64.wrap (10 * (x : Int)) = ((10 * x : Nat) : Int) ∧ IntKind.u8.wrap ((c.toNat : Int) - 48) = ((c.toNat - 48 : Nat) : Int) ∧ IntKind.u64.wrap ((c.toNat - 48 : Nat) : Int) = ((c.toNat - 48 : Nat) : Int) ∧ IntKind.u64.wrap (((10 * x : Nat) : Int) + ((c.toNat - 48 : Nat) : Int)) = ((10 * x + (c.toNat - 48) : Nat) : Int) := by
  simp only [IntKind.wrap_u64, IntKind.wrap_u8]
  omega
set_option maxHeartbeats 4000000 in
theorem whole_any (X : ByteArray) (l : List UInt8) (hX : X = sb l) (w : World) :
    Calls Tryz.prog 44 #[.string X] w fun e w' => WhR l e ∧ w' = w := by
  cases l with
  | nil =>
    have he := emp_true hX
    clear hX
    go_enter Tryz.func44, Tryz.ntmps44
    go_wp2
    go_ret2
    exact ⟨Or.inr ⟨by decide, _, rfl⟩, rfl⟩
  | cons c r =>
    have HX := hyd hX
    have he := emp_false hX (by simp)
    have hi0 := idx0 hX
    clear hX
    have hsz : (1 : Int) ≤ X.size := by rw [HX.out, sb_size, List.length_cons]; omega
    by_cases h45 : c = 45
    · subst h45
      have hi1 : ∀ w, (Instr.index 9 (.string X) (.int .i64 0)).run Tryz.prog w = .ok (.int .u8 45) w := hi0
      have HT := hyd (ext_one HX.out)
      clear hi0
      by_cases hr : r = []
      · have het := emp_true (HT.out.trans (by rw [hr]))
        have HE : Hid (num (45 :: r) = none) := num_neg (Or.inl hr)
        clear hr
        go_enter Tryz.func44, Tryz.ntmps44
        go_wp2
        go_ret2
        exact ⟨Or.inr ⟨HE.out, _, rfl⟩, rfl⟩
      · have het := emp_false HT.out hr
        obtain ⟨d, r', hr'⟩ := List.exists_cons_of_ne_nil hr
        have hid := idx0 (HT.out.trans (by rw [hr']))
        have HR := hyd hr'
        clear hr hr'
        by_cases h48 : d.toNat = 48
        · have HE : Hid (num (45 :: r) = none) := num_neg (Or.inr (Or.inl (by rw [HR.out]; show some d = some 48; rw [byte_ext (b := 48) h48])))
          rw [h48] at hid
          have hid2 : ∀ w, (Instr.index 9 (.string (X.extract 1 X.size)) (.int .i64 0)).run Tryz.prog w = .ok (.int .u8 48) w := hid
          clear h48 hid
          go_enter Tryz.func44, Tryz.ntmps44
          go_wp2
          go_ret2
          exact ⟨Or.inr ⟨HE.out, _, rfl⟩, rfl⟩
        · have hb48 : ((d.toNat : Int) == 48) = false := by simp; omega
          have hts0 : (X.extract 1 X.size).size = r.length := by rw [HT.out, sb_size]
          have hts1 : (X.extract 1 X.size).size = X.size - 1 := by simp
          have hts : X.size - 1 = r.length := hts1.symm.trans hts0
          clear hts0 hts1
          by_cases h19 : 19 < r.length
          · have HE : Hid (num (45 :: r) = none) := num_neg (Or.inr (Or.inr h19))
            have htz : ((X.size - 1 : Nat) : Int) > 19 := by omega
            clear h48 h19 hts
            go_enter Tryz.func44, Tryz.ntmps44
            go_wp2
            go_ret2
            exact ⟨Or.inr ⟨HE.out, _, rfl⟩, rfl⟩
          · have htz : ¬ ((X.size - 1 : Nat) : Int) > 19 := by omega
            have HL : Hid (r.length ≤ 19) := by show _ ≤ _; omega
            have HNum : Hid (num (45 :: r) = (dval 0 r).bind fun x => if x ≤ 9223372036854775808 then some (-(x : Int)) else none) := num_neg' (by
              rintro (h | h | h)
              · rw [HR.out] at h; cases h
              · rw [HR.out] at h
                have : d = 48 := Option.some.inj h
                exact h48 (by rw [this]; rfl)
              · exact h19 h)
            clear h48 h19 hts HR
            go_enter Tryz.func44, Tryz.ntmps44
            go_wp2_with fail
            generalize X.extract 1 X.size = t at *
            go_loopg [5, 6] 19 (fun kx s5 s6 wr => ∃ (i x : Nat), s6 = .int .i64 i ∧ s5 = .int .u64 x ∧ i ≤ r.length ∧ 19 - i ≤ kx ∧ Hid (Dg r i x) ∧ wr = w)
            case atStart => exact ⟨0, 0, rfl, rfl, Nat.zero_le _, Nat.le_refl _, ⟨by decide, rfl⟩, rfl⟩
            case round =>
            obtain ⟨i, x, rfl, rfl, hi, hkx, HD, rfl⟩ := hrel
            have hL19 := HL.out
            by_cases hlt : i < r.length
            · have hltz : (i : Int) < t.size := by rw [HT.out, sb_size]; omega
              obtain ⟨d, hd⟩ : ∃ d, r[i]? = some d := ⟨_, List.getElem?_eq_getElem hlt⟩
              have hix : ∀ w, (Instr.index 9 (.string t) (.int .i64 i)).run Tryz.prog w = .ok (.int .u8 d.toNat) w := idx_str (by rw [HT.out, sb_list]; exact hd)
              have HDd := hyd hd
              clear hd
              by_cases hdig : 48 ≤ d.toNat ∧ d.toNat ≤ 57
              · have HN := hyd (HD.out.next HDd.out hdig)
                have hx18 : x < 1000000000000000000 := Nat.lt_of_lt_of_le HD.out.lt (Nat.pow_le_pow_right (by decide) (by omega) : 10 ^ i ≤ 10 ^ 18)
                obtain ⟨m1, m2, m3, m4⟩ := mul_w hx18 d hdig
                have b1 : ¬ (d.toNat : Int) < 48 := by omega
                have b2 : ¬ (d.toNat : Int) > 57 := by omega
                have hb : d.toNat < 256 := d.toNat_lt
                generalize d.toNat - 48 = y at *
                clear hdig hx18
                go_wp2
                go_roundg (19 - (i + 1))
                case measure => omega
                case rel => exact ⟨i + 1, 10 * x + y, by simp, by first | rfl | (simp at m4 ⊢; exact m4), by omega, Nat.le_refl _, HN, rfl⟩
              · have HB := hyd (HD.out.bad HDd.out hdig)
                have HE : Hid (num (45 :: r) = none) := by show _ = _; rw [HNum.out, HB.out]; rfl
                by_cases h48 : d.toNat < 48
                · have b1 : (d.toNat : Int) < 48 := by omega
                  clear hdig h48
                  go_wp2
                  go_ret2
                  exact ⟨Or.inr ⟨HE.out, _, rfl⟩, rfl⟩
                · have b1 : ¬ (d.toNat : Int) < 48 := by omega
                  have b2 : (d.toNat : Int) > 57 := by omega
                  clear hdig h48
                  go_wp2
                  go_ret2
                  exact ⟨Or.inr ⟨HE.out, _, rfl⟩, rfl⟩
            · have hltz : ¬ (i : Int) < t.size := by rw [HT.out, sb_size]; omega
              have HB := hyd (HD.out.done (by omega))
              have hx19 := HD.out.bnd (by omega)
              by_cases hx : x ≤ 9223372036854775808
              · have hE : Hid (num (45 :: r) = some (-(x : Int))) := by show _ = _; rw [HNum.out, HB.out, Option.bind_some, if_pos hx]
                have b1 : (x : Int) ≤ 9223372036854775808 := by omega
                obtain ⟨y, hy⟩ : ∃ y, IntKind.u64.wrap (-(x : Int)) = y := ⟨_, rfl⟩
                have hz : IntKind.i64.wrap y = -(x : Int) := by rw [← hy, IntKind.wrap_u64]; simp [IntKind.wrap_i64]; omega
                go_wp2
                go_ret2
                exact ⟨Or.inl ⟨_, hE.out, by first | rfl | simp [hz]⟩, rfl⟩
              · have hE : Hid (num (45 :: r) = none) := by show _ = _; rw [HNum.out, HB.out, Option.bind_some, if_neg hx]
                have b1 : ¬ (x : Int) ≤ 9223372036854775808 := by omega
                go_wp2
                go_ret2
                exact ⟨Or.inr ⟨hE.out, _, rfl⟩, rfl⟩
    · have hb45 : ((c.toNat : Int) == 45) = false := by
        rw [beq_eq_false_iff_ne]
        intro h
        exact h45 (byte_ext (by show c.toNat = 45; omega))
      have H45 : Hid ((c :: r).head? ≠ some 45) := fun h => h45 (Option.some.inj h)
      have HT := HX
      have hXs : X.size = (c :: r).length := by rw [HX.out, sb_size]
      clear h45
      by_cases hz : c.toNat = 48 ∧ 1 < (c :: r).length
      · have HE : Hid (num (c :: r) = none) := num_pos H45.out (Or.inr (Or.inl ⟨by show some c = some 48; rw [byte_ext (b := 48) hz.1], hz.2⟩))
        have htz : (X.size : Int) > 1 := by rw [hXs]; omega
        rw [hz.1] at hi0
        have hi1 : ∀ w, (Instr.index 9 (.string X) (.int .i64 0)).run Tryz.prog w = .ok (.int .u8 48) w := hi0
        clear hi0 hz hXs hb45
        go_enter Tryz.func44, Tryz.ntmps44
        go_wp2
        go_ret2
        exact ⟨Or.inr ⟨HE.out, _, rfl⟩, rfl⟩
      · by_cases h19 : 19 < (c :: r).length
        · have HE : Hid (num (c :: r) = none) := num_pos H45.out (Or.inr (Or.inr h19))
          have htz : (X.size : Int) > 19 := by rw [hXs]; omega
          have hb48 : ((c.toNat : Int) == 48) = false := by
            rw [beq_eq_false_iff_ne]
            intro h
            exact hz ⟨by omega, by omega⟩
          clear hz h19 hXs
          go_enter Tryz.func44, Tryz.ntmps44
          go_wp2
          go_ret2
          exact ⟨Or.inr ⟨HE.out, _, rfl⟩, rfl⟩
        · have HL : Hid ((c :: r).length ≤ 19) := by show _ ≤ _; omega
          have htz : ¬ (X.size : Int) > 19 := by rw [hXs]; omega
          have HNum : Hid (num (c :: r) = (dval 0 (c :: r)).bind fun x => if x ≤ 9223372036854775807 then some (x : Int) else none) := num_pos' H45.out (by
            rintro (h | ⟨h, h2⟩ | h)
            · cases h
            · have : c = 48 := Option.some.inj h
              exact hz ⟨by rw [this]; rfl, h2⟩
            · exact h19 h)
          have hpre : (((c.toNat : Int) == 48) = false) ∨ ((∀ w, (Instr.index 9 (.string X) (.int .i64 0)).run Tryz.prog w = .ok (.int .u8 48) w) ∧ ¬ (X.size : Int) > 1 ∧ c.toNat = 48) := by
            by_cases h : c.toNat = 48
            · right
              rw [h] at hi0
              exact ⟨hi0, by rw [hXs]; have : ¬ 1 < (c :: r).length := fun h2 => hz ⟨h, h2⟩
                             omega, h⟩
            · left
              simp; omega
          clear hz h19 hXs
          generalize hcl : c :: r = L at *
          rcases hpre with hb48 | ⟨hi1, htz1, h48⟩
          · clear hcl
            go_enter Tryz.func44, Tryz.ntmps44
            go_wp2_with fail
            go_loopg [5, 6] 19 (fun kx s5 s6 wr => ∃ (i x : Nat), s6 = .int .i64 i ∧ s5 = .int .u64 x ∧ i ≤ L.length ∧ 19 - i ≤ kx ∧ Hid (Dg L i x) ∧ wr = w)
            case atStart => exact ⟨0, 0, rfl, rfl, Nat.zero_le _, Nat.le_refl _, ⟨by decide, rfl⟩, rfl⟩
            case round =>
            obtain ⟨i, x, rfl, rfl, hi, hkx, HD, rfl⟩ := hrel
            have hL19 := HL.out
            by_cases hlt : i < L.length
            · have hltz : (i : Int) < X.size := by rw [HT.out, sb_size]; omega
              obtain ⟨d, hd⟩ : ∃ d, L[i]? = some d := ⟨_, List.getElem?_eq_getElem hlt⟩
              have hix : ∀ w, (Instr.index 9 (.string X) (.int .i64 i)).run Tryz.prog w = .ok (.int .u8 d.toNat) w := idx_str (by rw [HT.out, sb_list]; exact hd)
              have HDd := hyd hd
              clear hd
              by_cases hdig : 48 ≤ d.toNat ∧ d.toNat ≤ 57
              · have HN := hyd (HD.out.next HDd.out hdig)
                have hx18 : x < 1000000000000000000 := Nat.lt_of_lt_of_le HD.out.lt (Nat.pow_le_pow_right (by decide) (by omega) : 10 ^ i ≤ 10 ^ 18)
                obtain ⟨m1, m2, m3, m4⟩ := mul_w hx18 d hdig
                have b1 : ¬ (d.toNat : Int) < 48 := by omega
                have b2 : ¬ (d.toNat : Int) > 57 := by omega
                have hb : d.toNat < 256 := d.toNat_lt
                generalize d.toNat - 48 = y at *
                clear hdig hx18
                go_wp2
                go_roundg (19 - (i + 1))
                case measure => omega
                case rel => exact ⟨i + 1, 10 * x + y, by simp, by first | rfl | (simp at m4 ⊢; exact m4), by omega, Nat.le_refl _, HN, rfl⟩
              · have HB := hyd (HD.out.bad HDd.out hdig)
                have HE : Hid (num L = none) := by show _ = _; rw [HNum.out, HB.out]; rfl
                by_cases h48 : d.toNat < 48
                · have b1 : (d.toNat : Int) < 48 := by omega
                  clear hdig h48
                  go_wp2
                  go_ret2
                  exact ⟨Or.inr ⟨HE.out, _, rfl⟩, rfl⟩
                · have b1 : ¬ (d.toNat : Int) < 48 := by omega
                  have b2 : (d.toNat : Int) > 57 := by omega
                  clear hdig h48
                  go_wp2
                  go_ret2
                  exact ⟨Or.inr ⟨HE.out, _, rfl⟩, rfl⟩
            · have hltz : ¬ (i : Int) < X.size := by rw [HT.out, sb_size]; omega
              have HB := hyd (HD.out.done (by omega))
              have hx19 := HD.out.bnd (by omega)
              by_cases hx : x ≤ 9223372036854775807
              · have hE : Hid (num L = some (x : Int)) := by show _ = _; rw [HNum.out, HB.out, Option.bind_some, if_pos hx]
                have b1 : (x : Int) ≤ 9223372036854775807 := by omega
                have hz : IntKind.i64.wrap (x : Int) = (x : Int) := by simp [IntKind.wrap_i64]; omega
                go_wp2
                go_ret2
                exact ⟨Or.inl ⟨_, hE.out, by first | rfl | simp [hz]⟩, rfl⟩
              · have hE : Hid (num L = none) := by show _ = _; rw [HNum.out, HB.out, Option.bind_some, if_neg hx]
                have b1 : ¬ (x : Int) ≤ 9223372036854775807 := by omega
                go_wp2
                go_ret2
                exact ⟨Or.inr ⟨hE.out, _, rfl⟩, rfl⟩
          · rw [h48] at hb45
            clear hcl hi0
            go_enter Tryz.func44, Tryz.ntmps44
            go_wp2_with fail
            go_loopg [5, 6] 19 (fun kx s5 s6 wr => ∃ (i x : Nat), s6 = .int .i64 i ∧ s5 = .int .u64 x ∧ i ≤ L.length ∧ 19 - i ≤ kx ∧ Hid (Dg L i x) ∧ wr = w)
            case atStart => exact ⟨0, 0, rfl, rfl, Nat.zero_le _, Nat.le_refl _, ⟨by decide, rfl⟩, rfl⟩
            case round =>
            obtain ⟨i, x, rfl, rfl, hi, hkx, HD, rfl⟩ := hrel
            have hL19 := HL.out
            by_cases hlt : i < L.length
            · have hltz : (i : Int) < X.size := by rw [HT.out, sb_size]; omega
              obtain ⟨d, hd⟩ : ∃ d, L[i]? = some d := ⟨_, List.getElem?_eq_getElem hlt⟩
              have hix : ∀ w, (Instr.index 9 (.string X) (.int .i64 i)).run Tryz.prog w = .ok (.int .u8 d.toNat) w := idx_str (by rw [HT.out, sb_list]; exact hd)
              have HDd := hyd hd
              clear hd
              by_cases hdig : 48 ≤ d.toNat ∧ d.toNat ≤ 57
              · have HN := hyd (HD.out.next HDd.out hdig)
                have hx18 : x < 1000000000000000000 := Nat.lt_of_lt_of_le HD.out.lt (Nat.pow_le_pow_right (by decide) (by omega) : 10 ^ i ≤ 10 ^ 18)
                obtain ⟨m1, m2, m3, m4⟩ := mul_w hx18 d hdig
                have b1 : ¬ (d.toNat : Int) < 48 := by omega
                have b2 : ¬ (d.toNat : Int) > 57 := by omega
                have hb : d.toNat < 256 := d.toNat_lt
                generalize d.toNat - 48 = y at *
                clear hdig hx18
                go_wp2
                go_roundg (19 - (i + 1))
                case measure => omega
                case rel => exact ⟨i + 1, 10 * x + y, by simp, by first | rfl | (simp at m4 ⊢; exact m4), by omega, Nat.le_refl _, HN, rfl⟩
              · have HB := hyd (HD.out.bad HDd.out hdig)
                have HE : Hid (num L = none) := by show _ = _; rw [HNum.out, HB.out]; rfl
                by_cases h48 : d.toNat < 48
                · have b1 : (d.toNat : Int) < 48 := by omega
                  clear hdig h48
                  go_wp2
                  go_ret2
                  exact ⟨Or.inr ⟨HE.out, _, rfl⟩, rfl⟩
                · have b1 : ¬ (d.toNat : Int) < 48 := by omega
                  have b2 : (d.toNat : Int) > 57 := by omega
                  clear hdig h48
                  go_wp2
                  go_ret2
                  exact ⟨Or.inr ⟨HE.out, _, rfl⟩, rfl⟩
            · have hltz : ¬ (i : Int) < X.size := by rw [HT.out, sb_size]; omega
              have HB := hyd (HD.out.done (by omega))
              have hx19 := HD.out.bnd (by omega)
              by_cases hx : x ≤ 9223372036854775807
              · have hE : Hid (num L = some (x : Int)) := by show _ = _; rw [HNum.out, HB.out, Option.bind_some, if_pos hx]
                have b1 : (x : Int) ≤ 9223372036854775807 := by omega
                have hz : IntKind.i64.wrap (x : Int) = (x : Int) := by simp [IntKind.wrap_i64]; omega
                go_wp2
                go_ret2
                exact ⟨Or.inl ⟨_, hE.out, by first | rfl | simp [hz]⟩, rfl⟩
              · have hE : Hid (num L = none) := by show _ = _; rw [HNum.out, HB.out, Option.bind_some, if_neg hx]
                have b1 : ¬ (x : Int) ≤ 9223372036854775807 := by omega
                go_wp2
                go_ret2
                exact ⟨Or.inr ⟨hE.out, _, rfl⟩, rfl⟩
end Go.Proofs.YtepbfdbooobnlaaGreatDoor
