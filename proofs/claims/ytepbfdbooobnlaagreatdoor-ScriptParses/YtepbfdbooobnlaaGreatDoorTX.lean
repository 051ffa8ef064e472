/-
  Whether a step can be told (script): what is answered. No condition.
-/
import Derived.Test.YtepbfdbooobnlaaGreatDoorSQ
namespace Go.Proofs.YtepbfdbooobnlaaGreatDoor
set_option maxRecDepth 100000
open Go.RowKit
/-- Can it be told? -/
def tld (f : S3) : Bool := decide (1 ≤ f.k ∧ f.k ≤ 10 ∧ (0 < cnt f.k.toNat ∨ f.a = 0) ∧ (1 < cnt f.k.toNat ∨ f.b = 0))
def S3.t (f : S3) : Stp := ⟨f.k.toNat, f.a, f.b⟩
theorem tld_t {f : S3} (h : tld f = true) : f.t.s = f := by
  unfold tld at h
  rw [decide_eq_true_iff] at h
  obtain ⟨h1, _⟩ := h
  obtain ⟨k, a, b⟩ := f
  show S3.mk ((k.toNat : Nat) : Int) a b = _
  congr 1
  simp only at h1
  omega
theorem tld_ok {f : S3} (h : tld f = true) (ha : I64 f.a) (hb : I64 f.b) : Okt f.t := by
  unfold tld at h
  rw [decide_eq_true_iff] at h
  obtain ⟨h1, h2, h3, h4⟩ := h
  have hc := cnt_le f.k.toNat
  exact ⟨by show 1 ≤ f.k.toNat; omega, by show f.k.toNat ≤ 10; omega, fun h => by have h' : cnt f.k.toNat = 0 := h; exact h3.resolve_left (by omega), fun h => by have h' : cnt f.k.toNat ≤ 1 := h; exact h4.resolve_left (by omega), ha, hb⟩
theorem okt_tld {s : Stp} (h : Okt s) : tld s.s = true := by
  unfold tld
  rw [decide_eq_true_iff]
  have h1 := h.k1
  have h2 := h.k2
  have hc := cnt_le s.k
  have e : s.s.k.toNat = s.k := by show ((s.k : Int)).toNat = s.k; omega
  rw [e]
  refine ⟨by show (1 : Int) ≤ s.k; omega, by show (s.k : Int) ≤ 10; omega, ?_, ?_⟩
  · by_cases h3 : cnt s.k = 0
    · exact Or.inr (h.a0 h3)
    · exact Or.inl (by omega)
  · by_cases h3 : cnt s.k ≤ 1
    · exact Or.inr (h.b0 h3)
    · exact Or.inl (by omega)
theorem s_t (s : Stp) : s.s.t = s := by
  obtain ⟨k, a, b⟩ := s
  show Stp.mk ((k : Int).toNat) a b = _
  congr 1
set_option maxHeartbeats 1000000 in
theorem canBe_any (f : S3) (w : World) : Calls Tryz.prog 26 #[.agg #[.int .i64 f.k, .int .i64 f.a, .int .i64 f.b]] w fun e w' => e = .returned (.bool (tld f)) ∧ Chg (fun _ => False) w w' := by
  have HT : Hid (∀ b, (b = true ↔ 1 ≤ f.k ∧ f.k ≤ 10 ∧ (0 < cnt f.k.toNat ∨ f.a = 0) ∧ (1 < cnt f.k.toNat ∨ f.b = 0)) → tld f = b) := by
    intro b hb
    unfold tld
    cases b with
    | true => rw [decide_eq_true_iff]; exact hb.1 rfl
    | false => rw [decide_eq_false_iff_not]; intro h; have := hb.2 h; cases this
  obtain ⟨k, a, b⟩ := f
  simp only at HT ⊢
  generalize htt : tld ⟨k, a, b⟩ = T at *
  clear htt
  by_cases h1 : k < 1
  · have HT' := hyd (HT.out false ⟨(fun h => by cases h), fun h => by omega⟩)
    clear HT
    go_enter Tryz.func26, Tryz.ntmps26
    go_wp2
    go_ret
    refine ⟨?_, (Chg.refl _ _).alloc _⟩
    rw [HT'.out]; rfl
  · by_cases h2 : k > 10
    · have HT' := hyd (HT.out false ⟨(fun h => by cases h), fun h => by omega⟩)
      clear HT
      go_enter Tryz.func26, Tryz.ntmps26
      go_wp2
      go_ret
      refine ⟨?_, (Chg.refl _ _).alloc _⟩
      rw [HT'.out]; rfl
    · obtain ⟨n, rfl⟩ : ∃ n : Nat, k = n := ⟨k.toNat, by omega⟩
      have hn : n ≤ 10 := by omega
      rw [Int.toNat_natCast] at HT
      have h1' : ¬ n < 1 := by omega
      have h2' : ¬ 10 < n := by omega
      go_enter Tryz.func26, Tryz.ntmps26
      go_wp2_with (first | (go_at_call 28; refine (numbers_any n hn _).mono ?_; rintro e w2 ⟨rfl, rfl⟩; refine Hid.out ?_))
      refine Lib.hid ?_
      have hc2 := cnt_le n
      generalize cnt n = c at *
      have h012 : c = 0 ∨ c = 1 ∨ c = 2 := by omega
      rcases h012 with rfl | rfl | rfl
      · by_cases h4 : a = 0
        · subst h4
          by_cases h6 : b = 0
          · subst h6
            have HT' := hyd (HT.out true ⟨(fun _ => ⟨by omega, by omega, by omega, by omega⟩), fun _ => rfl⟩)
            clear HT
            go_wp2
            go_ret
            refine ⟨?_, (Chg.refl _ _).alloc _⟩
            rw [HT'.out]; rfl
          · have h6b : (b == 0) = false := beq_eq_false_iff_ne.2 h6
            have HT' := hyd (HT.out false ⟨(fun h => by cases h), fun h => by omega⟩)
            clear HT h6
            go_wp2
            go_ret
            refine ⟨?_, (Chg.refl _ _).alloc _⟩
            rw [HT'.out]; rfl
        · have h4b : (a == 0) = false := beq_eq_false_iff_ne.2 h4
          have HT' := hyd (HT.out false ⟨(fun h => by cases h), fun h => by omega⟩)
          clear HT h4
          go_wp2
          go_ret
          refine ⟨?_, (Chg.refl _ _).alloc _⟩
          rw [HT'.out]; rfl
      · by_cases h6 : b = 0
        · subst h6
          have HT' := hyd (HT.out true ⟨(fun _ => ⟨by omega, by omega, by omega, by omega⟩), fun _ => rfl⟩)
          clear HT
          go_wp2
          go_ret
          refine ⟨?_, (Chg.refl _ _).alloc _⟩
          rw [HT'.out]; rfl
        · have h6b : (b == 0) = false := beq_eq_false_iff_ne.2 h6
          have HT' := hyd (HT.out false ⟨(fun h => by cases h), fun h => by omega⟩)
          clear HT h6
          go_wp2
          go_ret
          refine ⟨?_, (Chg.refl _ _).alloc _⟩
          rw [HT'.out]; rfl
      · have HT' := hyd (HT.out true ⟨(fun _ => ⟨by omega, by omega, by omega, by omega⟩), fun _ => rfl⟩)
        clear HT
        go_wp2
        go_ret
        refine ⟨?_, (Chg.refl _ _).alloc _⟩
        rw [HT'.out]; rfl
end Go.Proofs.YtepbfdbooobnlaaGreatDoor
