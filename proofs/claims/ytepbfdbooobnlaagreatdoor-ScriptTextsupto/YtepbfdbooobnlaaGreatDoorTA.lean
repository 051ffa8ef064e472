/-
  ScriptTexts, walked: steps are told as the document tells them, or the first that can't be told is named; the list stays as it was. Conditions: the steps lie in memory, the numbers are ints, there are at most 2^40 of them; the variables hold what they were given.
-/
import Derived.Test.YtepbfdbooobnlaaGreatDoorBK
import Derived.Test.YtepbfdbooobnlaaGreatDoorIN
import Derived.Test.YtepbfdbooobnlaaGreatDoorRF
import Derived.Test.YtepbfdbooobnlaaGreatDoorTZ
namespace Go.Proofs.YtepbfdbooobnlaaGreatDoor
set_option maxRecDepth 100000
open Go.RowKit Go.Deep Go.ChangeShapes Go.WideShapes
theorem steps_none {H : Type} {enc : TypeId × Value → H} {W : World} {a : Option Addr} {len cap : Nat} {d : DataW H} {p : List MemPlace}
    (h : DataW.Trod enc Tryz.prog W 0 (fun _ => true) true 29 (.slice a len cap) d p) : a = none → len = 0 ∧ cap = 0 := by
  obtain ⟨fuel, hf⟩ := h
  rcases open_slice Tryz.underlying29 hf with ⟨hcs, _⟩ | ⟨x, l, c, m, n, D, Pl, hcs, _⟩
  · simp [Value.cells] at hcs
    exact fun _ => hcs.2
  · simp [Value.cells] at hcs
    intro e
    rw [e] at hcs
    exact absurd hcs.1 (by simp)
/-- 'append(nil, x...)' of steps. -/
theorem wpList_append_nilfo {ops : Array Oper} {rest : List Oper} {o : Oper} {a : Act} {w : World} {Q : Exit → Act → World → Prop} (hgd : o.guard = none) (s x : Operand)
    (ho : o.op = .call { callee := .builtin .append, args := #[s, x], argTypes := #[29, 29] }) (hs : a.eval s = .slice none 0 0)
    (va : Option Addr) (n c : Nat) (l : List S3) (hx : a.eval x = .slice va n c) (hz : va = none → n = 0 ∧ c = 0) (hl : Sl w (.slice va n c) l) (hb : l.length ≤ 4398046511104)
    (h : ∀ v' w', Ow w' w.heap.size v' l → Chg (fun _ => False) w w' → wpList Tryz.prog ops Q rest (a.put o.dst v') w') : wpList Tryz.prog ops Q (o :: rest) a w := by
  obtain ⟨i, hi1, hi2, hi3, hi4⟩ := info50
  have hown : Ow w w.heap.size (.slice none 0 0) [] := Ow.nil w _
  obtain ⟨a', c', he, hcap, hA⟩ := hl
  simp only [Value.slice.injEq] at he
  obtain ⟨rfl, rfl, rfl⟩ := he
  cases va with
  | some ad =>
    refine wpList_append_own_at w hgd s x 29 ho w.heap.size 50 i (.agg (fA f0)) 3 24 Tryz.underlying29 hi1 hi2 hi3 hi4 rfl (by decide) (.slice none 0 0) 0 [] hs hown ad l.length c (l.flatMap fL) hx (by rw [flat_length]) ?_ (flat_one l) (by unfold maxLen; omega) (by omega) (Nat.le_refl _) ?_
    · intro j u hu
      have hj : j < l.length * 3 := by rw [← flat_length]; exact (List.getElem?_eq_some_iff.1 hu).1
      rcases hA with h0 | ⟨g, q, e, hA⟩
      · omega
      simp only [Option.some.injEq] at e
      subst e
      have e : l[j / 3]? = some (l[j / 3]'(by omega)) := List.getElem?_eq_getElem _
      have hf := flat_get l (j / 3) _ (j % 3) e (Nat.mod_lt _ (by decide))
      rw [show j / 3 * 3 + j % 3 = j by omega, hu] at hf
      have := hA.2 (j / 3) _ e (j % 3) u hf.symm
      rw [show q + j / 3 * 3 + j % 3 = q + j by omega] at this
      rw [Addr.add_mid]
      exact this
    · intro v' w' h1 h2 _ _
      refine h v' w' ?_ ⟨h2.os, h2.tape, h2.output, h2.size, fun k hk hs => h2.block k hk (by rintro ⟨⟩)⟩
      unfold Ow
      rw [Nat.zero_add, List.nil_append] at h1
      exact h1
  | none =>
    obtain ⟨h0, rfl⟩ := hz rfl
    have e : l = [] := List.eq_nil_of_length_eq_zero h0
    subst e
    refine wpList_plain hgd fun K hK => ?_
    have hrun := run_append_owned_none (P := Tryz.prog) w w.heap.size 29 o.type 50 i 3 Tryz.underlying29 hi1 (.slice none 0 0) 0 [] hown
    have hx2 : a.eval x = .slice none 0 0 := hx
    unfold Oper.wp
    simp [execOp, ho, resolve, invoke, builtin, hs, hx2, hrun, Result.andThen]
    exact hK _ _ (h _ w hown (Chg.refl _ w))
theorem first_bad : ∀ {l : List S3}, (¬ ∀ f ∈ l, tld f = true) → ∃ (i : Nat) (f : S3), l[i]? = some f ∧ tld f = false ∧ ∀ (j : Nat) (g : S3), j < i → l[j]? = some g → tld g = true
  | [], h => absurd (fun f hf => by cases hf) h
  | x :: r, h => by
    cases hx : tld x with
    | false => exact ⟨0, x, rfl, hx, fun j g hj => absurd hj (Nat.not_lt_zero _)⟩
    | true =>
      have hr : ¬ ∀ f ∈ r, tld f = true := fun hr => h fun f hf => by
        rcases List.mem_cons.1 hf with rfl | hf
        · exact hx
        · exact hr f hf
      obtain ⟨i, f, h1, h2, h3⟩ := first_bad hr
      refine ⟨i + 1, f, h1, h2, fun j g hj hg => ?_⟩
      cases j with
      | zero => have : x = g := by simpa using hg
                rw [← this]; exact hx
      | succ j => exact h3 j g (by omega) hg
theorem bad_one {l : List S3} {i j : Nat} {f g : S3} (h1 : l[i]? = some f) (h2 : tld f = false) (h3 : ∀ (j : Nat) (g : S3), j < i → l[j]? = some g → tld g = true) (k1 : l[j]? = some g) (k2 : tld g = false) (k3 : ∀ (i : Nat) (f : S3), i < j → l[i]? = some f → tld f = true) : j = i := by
  rcases Nat.lt_trichotomy i j with h | h | h
  · have := k3 i f h h1; rw [h2] at this; cases this
  · exact h.symm
  · have := h3 j g h k1; rw [k2] at this; cases this
theorem bad_not {l : List S3} {i : Nat} {f : S3} (h1 : l[i]? = some f) (h2 : tld f = false) : ¬ ∀ f ∈ l, tld f = true := fun h => by
  have := h f (List.mem_of_getElem? h1)
  rw [h2] at this; cases this
theorem text_bad (v : Value) (l : List S3) (w : World) (hl : Sl w v l) (hI : ∀ f ∈ l, I64 f.a ∧ I64 f.b) (hn : l.length ≤ 1099511627776) (hG : Gl w) (i : Nat) (f : S3) (h1 : l[i]? = some f) (h2 : tld f = false) (h3 : ∀ (j : Nat) (g : S3), j < i → l[j]? = some g → tld g = true) :
    Calls Tryz.prog 17 #[v] w fun e w' => ∃ h, e = .returned (.tuple #[.string ⟨#[]⟩, .iface 68 (.pointer (some ⟨h, 0, none⟩))]) ∧ w'.heap[h]? = some (.cells (fcell (i + 1) 0 3) 70) ∧ Chg (fun _ => False) w w' := by
  refine (text_any v l w hl hI hn hG).mono ?_
  rintro e w' ⟨g1, g2⟩
  rcases g2.h with ⟨j, g, k1, k2, k3, h, h4, _, h5⟩ | ⟨k, _⟩
  · have := bad_one h1 h2 h3 k1 k2 k3
    subst this
    exact ⟨h, h4, h5, g1⟩
  · exact absurd k (bad_not h1 h2)
theorem rtext_bad (v : Value) (l : List S3) (w : World) (hl : Sl w v l) (hI : ∀ f ∈ l, I64 f.a ∧ I64 f.b) (hn : l.length ≤ 1099511627776) (i : Nat) (f : S3) (h1 : l[i]? = some f) (h2 : tld f = false) (h3 : ∀ (j : Nat) (g : S3), j < i → l[j]? = some g → tld g = true) :
    Calls Tryz.prog 18 #[v] w fun e w' => e = .returned (.tuple #[.string ⟨#[]⟩, .agg #[.int .i64 3, .int .i64 (i + 1), .int .i64 0]]) ∧ Chg (fun _ => False) w w' := by
  refine (rtext_any v l w hl hI hn).mono ?_
  rintro e w' ⟨g1, g2⟩
  rcases g2.h with ⟨j, g, k1, k2, k3, h4⟩ | ⟨k, _⟩
  · have := bad_one h1 h2 h3 k1 k2 k3
    subst this
    exact ⟨h4, g1⟩
  · exact absurd k (bad_not h1 h2)
theorem rtext_yes (v : Value) (l : List S3) (w : World) (hl : Sl w v l) (hI : ∀ f ∈ l, I64 f.a ∧ I64 f.b) (hn : l.length ≤ 1099511627776) (ht : ∀ f ∈ l, tld f = true) (X : ByteArray) (hX : X = sb (txt (l.map S3.t))) :
    Calls Tryz.prog 18 #[v] w fun e w' => e = .returned (.tuple #[.string X, .agg #[.int .i64 0, .int .i64 0, .int .i64 0]]) ∧ Chg (fun _ => False) w w' := by
  refine (rtext_any v l w hl hI hn).mono ?_
  rintro e w' ⟨g1, g2⟩
  rcases g2.h with ⟨j, g, k1, k2, _⟩ | ⟨_, Y, h4, h5⟩
  · exact absurd ht (bad_not k1 k2)
  · exact ⟨by rw [h4, h5, hX], g1⟩
set_option maxHeartbeats 4000000 in
theorem texts_any (va : Option Addr) (n c : Nat) (l : List S3) (w : World) (hz : va = none → n = 0 ∧ c = 0) (hl : Sl w (.slice va n c) l) (hI : ∀ f ∈ l, I64 f.a ∧ I64 f.b) (hn : l.length ≤ 1099511627776) (hG : Gl w) :
    Calls Tryz.prog 5 #[.slice va n c] w fun e w' => e = .returned (.bool true) ∧ Chg (fun _ => False) w w' := by
  have HS := hyd hl
  have HI := hyd hI
  have HN := hyd hn
  have HG := hyd hG
  have HZ := hyd hz
  clear hl hI hn hG hz
  go_enter Tryz.func5, Tryz.ntmps5
  go_wp2_with (first | (go_at_call 8; refine (shown_any _ HG.out).mono ?_; rintro e w1 ⟨rfl, hC1⟩; refine Hid.out ?_))
  refine Lib.hid ?_
  have HC1 := hyd hC1
  have HG1 := hyd (HG.out.new hC1)
  have HS1 := hyd (HS.out.new hC1)
  clear hC1 HG HS
  go_wp2_with (at_builtin; refine wpList_append_nilfo rfl (.tmp 12) (.tmp 13) rfl rfl va n c l rfl HZ.out HS1.out (by have := HN.out; omega) ?_; intro v2 w2 O2 C2; have HO2 := hyd O2.sl; have HC2 := hyd C2; obtain ⟨a2, n2, c2, rfl⟩ := O2.form; clear O2 C2; refine Hid.out ?_)
  refine Lib.hid ?_
  have HG2 := hyd (HG1.out.new HC2.out)
  have HS2 := hyd (HS1.out.new HC2.out)
  have HC := hyd (HC1.out.trans HC2.out)
  clear HC1 HC2 HG1 HS1 HZ
  by_cases ht : ∀ f ∈ l, tld f = true
  · have HT := hyd ht
    clear ht
    go_wp2_with (first | (go_at_call 17; refine (text_yes _ _ _ HO2.out HI.out HN.out HG2.out HT.out).mono ?_; rintro e w3 ⟨X, rfl, HX, hC3⟩; refine Hid.out ?_))
    refine Lib.hid ?_
    have HC3 := hyd (HC.out.trans hC3)
    have HG3 := hyd (HG2.out.new hC3)
    have HS3 := hyd (HS2.out.new hC3)
    have HO3 := hyd (HO2.out.new hC3)
    clear hC3 HC HG2 HS2 HO2
    go_wp2_with (first | (go_at_call 18; refine (rtext_yes _ _ _ HS3.out HI.out HN.out HT.out X HX.out).mono ?_; rintro e w4 ⟨rfl, hC4⟩; refine Hid.out ?_))
    refine Lib.hid ?_
    have HC4 := hyd (HC3.out.trans hC4)
    have HS4 := hyd (HS3.out.new hC4)
    have HO4 := hyd (HO3.out.new hC4)
    clear hC4 HC3 HG3 HS3 HO3
    obtain ⟨k0, k1, k2⟩ := bad_cells w4 0 0 0
    have HA : Hid (Chg (fun _ => False) w4 (w4.alloc (.cells #[.int .i64 0, .int .i64 0, .int .i64 0] 35))) := (Chg.refl _ w4).alloc _
    go_wp2_with (first | (go_at_call 16; refine (refused_nil _).mono ?_; rintro e w5 ⟨rfl, hC5⟩; have HC5 := hyd hC5; refine Hid.out ?_))
    refine Lib.hid ?_
    have HS5 := hyd (HS4.out.new (HA.out.trans HC5.out))
    have HO5 := hyd (HO4.out.new (HA.out.trans HC5.out))
    have HCx := hyd (HC4.out.trans (HA.out.trans HC5.out))
    clear HC5 HS4 HO4 HC4 HA k0 k1 k2
    go_wp2_with (first | (go_at_call 15; refine (same_true _ _ _ _ HO5.out HS5.out (by have := HN.out; omega)).mono ?_; rintro e w6 ⟨rfl, hC6⟩; refine Hid.out ?_))
    refine Lib.hid ?_
    have HC6 := hyd (HCx.out.trans hC6)
    have he := seq_true (rfl : X = X)
    clear hC6
    go_wp2
    go_ret
    exact ⟨rfl, HC6.out⟩
  · obtain ⟨i, f, h1, h2, h3⟩ := first_bad ht
    have H1 := hyd h1
    have H2 := hyd h2
    have H3 := hyd h3
    clear ht h1 h2 h3
    go_wp2_with (first | (go_at_call 17; refine (text_bad _ _ _ HO2.out HI.out HN.out HG2.out i f H1.out H2.out H3.out).mono ?_; rintro e w3 ⟨h, rfl, hb, hC3⟩; refine Hid.out ?_))
    refine Lib.hid ?_
    have HB3 := hyd hb
    have HC3 := hyd (HC.out.trans hC3)
    have HG3 := hyd (HG2.out.new hC3)
    have HS3 := hyd (HS2.out.new hC3)
    have HO3 := hyd (HO2.out.new hC3)
    clear hC3 HC HG2 HS2 HO2 hb
    go_wp2_with (first | (go_at_call 18; refine (rtext_bad _ _ _ HS3.out HI.out HN.out i f H1.out H2.out H3.out).mono ?_; rintro e w4 ⟨rfl, hC4⟩; refine Hid.out ?_))
    refine Lib.hid ?_
    have HB4 := hyd ((hC4.block h (Array.getElem?_eq_some_iff.1 HB3.out).1 (fun x => x)).trans HB3.out)
    have HC4 := hyd (HC3.out.trans hC4)
    have HG4 := hyd (HG3.out.new hC4)
    have HS4 := hyd (HS3.out.new hC4)
    have HO4 := hyd (HO3.out.new hC4)
    clear hC4 HC3 HG3 HS3 HO3 HB3
    obtain ⟨k0, k1, k2⟩ := bad_cells w4 3 (i + 1) 0
    have HA : Hid (Chg (fun _ => False) w4 (w4.alloc (.cells #[.int .i64 3, .int .i64 (i + 1), .int .i64 0] 35))) := (Chg.refl _ w4).alloc _
    have HGa := hyd (HG4.out.new HA.out)
    have HBa := hyd ((HA.out.block h (Array.getElem?_eq_some_iff.1 HB4.out).1 (fun x => x)).trans HB4.out)
    have HD3 : Hid (Cd 3) := Or.inr (Or.inl rfl)
    have HI1 : Hid ((i : Int) + 1 ≠ 0) := by show _ ≠ _; omega
    go_wp2_with (first | (go_at_call 16; refine (refused_at h (i + 1) 0 3 HD3.out HI1.out _ HGa.out HBa.out).mono ?_; rintro e w5 ⟨rfl, hC5⟩; have HC5 := hyd hC5; refine Hid.out ?_))
    refine Lib.hid ?_
    have HS5 := hyd (HS4.out.new (HA.out.trans HC5.out))
    have HO5 := hyd (HO4.out.new (HA.out.trans HC5.out))
    have HCx := hyd (HC4.out.trans (HA.out.trans HC5.out))
    clear HC5 HS4 HO4 HC4 HA k0 k1 k2 HGa HBa HG4 HB4
    go_wp2_with (first | (go_at_call 15; refine (same_true _ _ _ _ HO5.out HS5.out (by have := HN.out; omega)).mono ?_; rintro e w6 ⟨rfl, hC6⟩; refine Hid.out ?_))
    refine Lib.hid ?_
    have HC6 := hyd (HCx.out.trans hC6)
    have he := seq_true (rfl : (⟨#[]⟩ : ByteArray) = ⟨#[]⟩)
    clear hC6
    go_wp2
    go_ret
    exact ⟨rfl, HC6.out⟩
end Go.Proofs.YtepbfdbooobnlaaGreatDoor
