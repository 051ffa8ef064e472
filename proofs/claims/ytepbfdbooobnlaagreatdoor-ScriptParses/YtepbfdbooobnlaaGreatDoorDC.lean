/-
  The document's own way to tell a number: what it answers. Condition: the number is an int.
-/
import Derived.Test.YtepbfdbooobnlaaGreatDoorBZ
import Derived.Deep.CutRange
namespace Go.Proofs.YtepbfdbooobnlaaGreatDoor
set_option maxRecDepth 100000
open Go.RowKit
open Go.Lib (itoa decDigits)
theorem u64_neg {v : Int} (hv : I64 v) (h : v < 0) : IntKind.u64.wrap (-IntKind.u64.wrap v) = (v.natAbs : Nat) := by
  obtain ⟨h1, h2⟩ := hv
  simp [IntKind.wrap, IntKind.bits, IntKind.signed]
  omega
theorem u64_pos {v : Int} (hv : I64 v) (h : ¬ v < 0) : IntKind.u64.wrap v = (v.natAbs : Nat) := by
  obtain ⟨h1, h2⟩ := hv
  simp [IntKind.wrap, IntKind.bits, IntKind.signed]
  omega
/-- What is still to be told ahead of the digits b. -/
def prd (u : Nat) (b : List UInt8) : List UInt8 := if u = 0 ∧ b ≠ [] then [] else decDigits u
theorem prd_next {u : Nat} {b : List UInt8} (h : 0 < u ∨ b = []) : prd u b ++ b.reverse = prd (u / 10) (b ++ [UInt8.ofNat (48 + u % 10)]) ++ (b ++ [UInt8.ofNat (48 + u % 10)]).reverse := by
  have h1 : prd u b = decDigits u := by
    unfold prd
    rw [if_neg]
    rintro ⟨h2, h3⟩
    rcases h with h | h
    · omega
    · exact h3 h
  rw [h1]
  by_cases h10 : u < 10
  · have h2 : prd (u / 10) (b ++ [UInt8.ofNat (48 + u % 10)]) = [] := by unfold prd; rw [if_pos ⟨by omega, by simp⟩]
    rw [h2, dec_small h10, show u % 10 = u by omega]; simp
  · have h2 : prd (u / 10) (b ++ [UInt8.ofNat (48 + u % 10)]) = decDigits (u / 10) := by unfold prd; rw [if_neg]; rintro ⟨h3, _⟩; omega
    rw [h2, dec_big h10]; simp
theorem prd_end {b : List UInt8} (h : b ≠ []) : prd 0 b = [] := by unfold prd; rw [if_pos ⟨rfl, h⟩]
theorem Bz.form {w0 w : World} {v : Value} {l : List UInt8} (h : Bz w0 w v l) : ∃ a cap, v = .slice a l.length cap := by
  obtain ⟨a, cap, e, _⟩ := h.own.held
  rw [List.length_map] at e
  exact ⟨a, cap, e⟩
theorem cell_dc1 (w : World) (x : Value) : (w.alloc (.cells #[x] 5)).cell? ⟨w.heap.size, 0, none⟩ = some x := by
  have h := heap_new w (.cells #[x] 5)
  simp only [World.cell?, h]
  rfl
theorem sb_app (x y : List UInt8) : sb x ++ sb y = sb (x ++ y) := by
  apply ByteArray.ext
  apply Array.ext'
  rw [ByteArray.data_append]
  simp [sb]
set_option maxHeartbeats 2000000 in
theorem decimal_any (v : Int) (hv : I64 v) (w : World) :
    Calls Tryz.prog 34 #[.int .i64 v] w fun e w' => ∃ X : ByteArray, e = .returned (.string X) ∧ Hid (X = sb (itoa v)) ∧ Chg (fun _ => False) w w' := by
  have HV := hyd hv
  clear hv
  go_enter Tryz.func34, Tryz.ntmps34
  go_upto_if 10 with fail
  go_cut [4] from 9 to 12 (fun s4 wx => s4 = .int .u64 (v.natAbs : Nat) ∧ w = wx)
  case first =>
    by_cases h : v < 0
    · go_wp2_with fail
      go_meet
      case rel => exact ⟨by rw [u64_neg HV.out h], rfl⟩
    · go_wp2_with fail
      go_meet
      case rel => exact ⟨by rw [u64_pos HV.out (by omega)], rfl⟩
  case rest =>
  obtain ⟨rfl, rfl⟩ := hcut
  obtain ⟨N, HN⟩ : ∃ N, Hid (v.natAbs = N) := ⟨_, rfl⟩
  rw [HN.out]
  have HNb : Hid (N ≤ 9223372036854775808) := by
    show _ ≤ _
    rw [← HN.out]
    obtain ⟨h1, h2⟩ := HV.out
    omega
  have HL : Hid ((decDigits N).length ≤ 19) := by have := HNb.out; exact dec_len (by omega)
  have hN := HNb.out
  go_wp2_with fail
  go_loopg [3, 4] 20 (fun kx s3 s4 wr => ∃ (u : Nat) (b : List UInt8), s4 = .int .u64 u ∧ u ≤ 9223372036854775808 ∧ 20 - b.length ≤ kx ∧ Hid (Bz w wr s3 b) ∧ Hid (prd u b ++ b.reverse = decDigits N))
  case atStart => exact ⟨N, [], rfl, hN, by simp, Bz.nil (Chg.refl _ _), by show _ = _; unfold prd; simp⟩
  case round =>
  obtain ⟨u, b, rfl, hu, hkx, HB, HP⟩ := hrel
  obtain ⟨a3, c3, rfl⟩ := HB.out.form
  by_cases hgo : 0 < u ∨ b = []
  · have HQ := hyd ((prd_next hgo).symm.trans HP.out)
    have HBl : Hid (b.length ≤ 18) := by
      show _ ≤ _
      have h1 := congrArg List.length HQ.out
      rw [List.length_append, List.length_reverse, List.length_append] at h1
      have := HL.out
      simp at h1
      omega
    have hw : IntKind.u64.wrap (48 + (u : Int) % 10) = 48 + (u : Int) % 10 := by
      simp [IntKind.wrap, IntKind.bits, IntKind.signed]; omega
    have HX : Hid (48 + (u : Int) % 10 = ((UInt8.ofNat (48 + u % 10)).toNat : Int)) := by
      show _ = _
      rw [UInt8.toNat_ofNat']
      omega
    have HX0 : Hid ((48 : Int) = ((UInt8.ofNat (48 + 0 % 10)).toNat : Int)) := rfl
    by_cases h : 0 < u
    · have hz : (u : Int) > 0 := by omega
      go_wp2_with (at_builtin; refine wpList_append_b1 _ rfl _ _ rfl w _ b rfl (HB.out.alloc _) _ (UInt8.ofNat (48 + u % 10)) rfl ((cell_dc1 _ _).trans (congrArg some (congrArg (Value.int .u8) HX.out))) (by have := HBl.out; omega) ?_; intro v5 w5 h5; have HB5 := hyd h5; clear h5)
      go_roundg (20 - (b.length + 1))
      case measure => have := HBl.out; omega
      case rel => exact ⟨u / 10, _, by simp, by omega, by rw [List.length_append]; exact Nat.le_refl _, HB5, HQ⟩
    · have hb : b = [] := hgo.resolve_left h
      have hu0 : u = 0 := by omega
      subst hb
      subst hu0
      go_wp2_with (at_builtin; refine wpList_append_b1 _ rfl _ _ rfl w _ ([] : List UInt8) rfl (HB.out.alloc _) _ (UInt8.ofNat (48 + 0 % 10)) rfl ((cell_dc1 _ _).trans (congrArg some (congrArg (Value.int .u8) HX0.out))) (by decide) ?_; intro v5 w5 h5; have HB5 := hyd h5; clear h5)
      go_roundg (20 - (([] : List UInt8).length + 1))
      case measure => have := HBl.out; omega
      case rel => exact ⟨0 / 10, _, by simp, by omega, by rw [List.length_append]; exact Nat.le_refl _, HB5, HQ⟩
  · have hu0 : u = 0 := by omega
    have hb : b ≠ [] := fun e => hgo (Or.inr e)
    have hug : ¬ (u : Int) > 0 := by omega
    have HR : Hid (b.reverse = decDigits N) := by
      show _ = _
      have h1 := HP.out
      rw [hu0, prd_end hb, List.nil_append] at h1
      exact h1
    have hbl : b.length ≠ 0 := fun e => hb (List.length_eq_zero_iff.1 e)
    have hbz : ((b.length : Int) == 0) = false := by simp; exact hb
    obtain ⟨g, cap, hv3, -, hgs, hcap, hcell, -⟩ := HB.out.own.lies (by rw [List.length_map]; exact hbl)
    rw [List.length_map] at hv3 hcap hcell
    simp only [Value.slice.injEq] at hv3
    obtain ⟨rfl, -, rfl⟩ := hv3
    have HCr := hyd HB.out.chg
    have HCe : Hid (∀ (i : Nat) (c : UInt8), b[i]? = some c → wr.cell? ⟨g, i, none⟩ = some (.int .u8 c.toNat)) := by
      intro i c hc
      obtain ⟨h1, h2⟩ := List.getElem?_eq_some_iff.1 hc
      rw [hcell i h1, List.getD_eq_getElem?_getD, List.getElem?_map, hc]; rfl
    have HBl : Hid (b.length ≤ 19) := by
      show _ ≤ _
      have h1 := congrArg List.length HR.out
      rw [List.length_reverse] at h1
      have := HL.out
      omega
    clear HP HB hcell hgo hu0
    obtain ⟨sg, HSg⟩ : ∃ sg : List UInt8, Hid (sg = if v < 0 then [45] else []) := ⟨_, rfl⟩
    have hbl9 := HBl.out
    go_upto_if 30 with fail
    go_cut [5] from 29 to 30 (fun s5 wx => s5 = .string (sb sg) ∧ wr = wx)
    case first =>
      by_cases h : v < 0
      · have h1 := HSg.out
        rw [if_pos h] at h1
        go_wp2_with fail
        go_meet
        case rel => exact ⟨by rw [h1]; rfl, rfl⟩
      · have h1 := HSg.out
        rw [if_neg h] at h1
        go_wp2_with fail
        go_meet
        case rel => exact ⟨by rw [h1]; rfl, rfl⟩
    case rest =>
    obtain ⟨rfl, rfl⟩ := hcut
    have HSl : Hid (sg.length ≤ 1) := by show _ ≤ _; rw [HSg.out]; split <;> simp
    go_wp2_with fail
    go_loopg [5, 6] 19 (fun kx s5 s6 wx => ∃ k : Nat, s6 = .int .i64 ((k : Int) - 1) ∧ k ≤ b.length ∧ k ≤ kx ∧ wr = wx ∧ ∃ S : ByteArray, s5 = .string S ∧ Hid (S = sb (sg ++ (b.drop k).reverse)))
    case atStart => exact ⟨b.length, rfl, Nat.le_refl _, hbl9, rfl, _, rfl, by show _ = _; rw [List.drop_length]; simp⟩
    case round =>
    obtain ⟨k, rfl, hk, hkx, rfl, S, rfl, HS⟩ := hrel
    by_cases hk0 : 0 < k
    · obtain ⟨q, rfl⟩ : ∃ q, k = q + 1 := ⟨k - 1, by omega⟩
      obtain ⟨c, hc⟩ : ∃ c, b[q]? = some c := ⟨_, List.getElem?_eq_getElem (by omega)⟩
      have hcq := HCe.out q c hc
      have hq0 : (0 : Int) ≤ q := by omega
      have hq1 : ¬ (q : Int) < 0 := by omega
      have HS2 : Hid (S ++ sb [c] = sb (sg ++ (b.drop q).reverse)) := by
        show _ = _
        obtain ⟨h1, h2⟩ := List.getElem?_eq_some_iff.1 hc
        rw [HS.out, sb_app, List.drop_eq_getElem_cons h1, h2]; simp
      have HSs : Hid (S.size ≤ 20) := by
        show _ ≤ _
        rw [HS.out, sb_size, List.length_append, List.length_reverse, List.length_drop]
        have := HSl.out
        omega
      have hcv : (convert 23 9 (.slice (some ⟨g, q, none⟩) 1 (c3 - q))).run Tryz.prog wr = .ok (.string (sb [c])) wr :=
        run_convert_bytes_back wr 23 9 5 ⟨g, q, none⟩ (c3 - q) [c] Tryz.underlying23 Tryz.underlying5 Tryz.underlying9 (fun j hj => by
          have hj0 : j = 0 := by simpa using hj
          subst hj0
          rw [addr_at, Nat.add_zero, hcq]; rfl)
      have hss : ¬ 9223372036854775807 < S.size + (sb [c]).size := by rw [sb_size]; have := HSs.out; simp; omega
      go_wp2
      go_roundg q
      case measure => omega
      case rel => exact ⟨q, rfl, by omega, Nat.le_refl _, rfl, _, rfl, HS2⟩
    · have hk1 : k = 0 := by omega
      subst hk1
      have HF : Hid (S = sb (itoa v)) := by
        show _ = _
        rw [HS.out, List.drop_zero, HR.out, HSg.out, ← HN.out]
        by_cases h : v < 0
        · rw [if_pos h, itoa_neg' h]; rfl
        · rw [if_neg h, itoa_pos' h, show v.natAbs = v.toNat by omega]; rfl
      go_wp2
      go_ret
      exact ⟨S, rfl, HF, HCr.out⟩
end Go.Proofs.YtepbfdbooobnlaaGreatDoor
