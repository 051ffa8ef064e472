/-
  slices.swapRangeCmpFunc, rotateCmpFunc and insertionSortCmpFunc over elements of k cells. No condition: lemmas.
-/
import Derived.Test.YtjkpidhpjleebaaRows
import Derived.Test.YtjkpidhpjleebaaSymm
import Derived.Shelf.SlSortCmp.KitK
import Derived.Sort.WalkB2
import Derived.Sort.WalkB12
import Derived.Deep.LoopGhost
namespace Go.Proofs.Ytjkpidhpjleebaa
open Go.Shelf Go.RowKit Go.Lib Go.Sort

/-- What the sort leans on, with an element of k cells. -/
structure Ply (P : Program) (k : Nat) : Prop where
  mixed : P.follows .mixedOrders = true
  f27 : P.funcs[27]? = some Try.f27
  f33 : P.funcs[33]? = some Try.f33
  f36 : P.funcs[36]? = some Try.f36
  f37 : P.funcs[37]? = some Try.f37
  f38 : P.funcs[38]? = some Try.f38
  f39 : P.funcs[39]? = some Try.f39
  t0 : P.underlying 0 = some (TypeDesc.tuple #[])
  a0 : ∀ w, (isAgg 0).run P w = .ok false w
  z0 : ∀ w, (Go.sizeOf 0).run P w = .ok 1 w
  v0 : ∀ w, (zeroValue 0).run P w = .ok (Value.tuple #[]) w
  t3 : P.underlying 3 = some (TypeDesc.int IntKind.i64)
  a3 : ∀ w, (isAgg 3).run P w = .ok false w
  z3 : ∀ w, (Go.sizeOf 3).run P w = .ok 1 w
  v3 : ∀ w, (zeroValue 3).run P w = .ok (Value.int IntKind.i64 0) w
  t4 : P.underlying 4 = some (TypeDesc.bool)
  a4 : ∀ w, (isAgg 4).run P w = .ok false w
  z4 : ∀ w, (Go.sizeOf 4).run P w = .ok 1 w
  v4 : ∀ w, (zeroValue 4).run P w = .ok (Value.bool false) w
  t24 : P.underlying 24 = some (TypeDesc.slice 28)
  a24 : ∀ w, (isAgg 24).run P w = .ok false w
  z24 : ∀ w, (Go.sizeOf 24).run P w = .ok 1 w
  v24 : ∀ w, (zeroValue 24).run P w = .ok (Value.slice none 0 0) w
  t53 : P.underlying 53 = some (TypeDesc.func #[28, 28] #[3] false)
  a53 : ∀ w, (isAgg 53).run P w = .ok false w
  z53 : ∀ w, (Go.sizeOf 53).run P w = .ok 1 w
  v53 : ∀ w, (zeroValue 53).run P w = .ok (Value.nilFunc) w
  t61 : P.underlying 61 = some (TypeDesc.int IntKind.u64)
  a61 : ∀ w, (isAgg 61).run P w = .ok false w
  z61 : ∀ w, (Go.sizeOf 61).run P w = .ok 1 w
  v61 : ∀ w, (zeroValue 61).run P w = .ok (Value.int IntKind.u64 0) w
  aE : ∀ w, (isAgg 28).run P w = .ok true w
  zE : ∀ w, (Go.sizeOf 28).run P w = .ok k w
theorem ply : Ply Try.prog 6 where
  mixed := by kernel_rfl
  f27 := Try.func27
  f33 := Try.func33
  f36 := Try.func36
  f37 := Try.func37
  f38 := Try.func38
  f39 := Try.func39
  t0 := Try.underlying0
  a0 := Try.isAgg0
  z0 := Try.sizeOf0
  v0 := Try.zeroValue0
  t3 := Try.underlying3
  a3 := Try.isAgg3
  z3 := Try.sizeOf3
  v3 := Try.zeroValue3
  t4 := Try.underlying4
  a4 := Try.isAgg4
  z4 := Try.sizeOf4
  v4 := Try.zeroValue4
  t24 := Try.underlying24
  a24 := Try.isAgg24
  z24 := Try.sizeOf24
  v24 := Try.zeroValue24
  t53 := Try.underlying53
  a53 := Try.isAgg53
  z53 := Try.sizeOf53
  v53 := Try.zeroValue53
  t61 := Try.underlying61
  a61 := Try.isAgg61
  z61 := Try.sizeOf61
  v61 := Try.zeroValue61
  aE := Try.isAgg28
  zE := Try.sizeOf28
variable {P : Program} {α : Type} [Inhabited α]

set_option maxHeartbeats 4000000 in
set_option maxRecDepth 1000000 in
theorem swapRange_any {k : Nat} (L : Ply P k) (enc : α → List Value) (g : Nat) (cb : Array Value) (blk off cap p q n : Nat) (d0 d : Array α) (w0 w : World)
    (R : RowK enc k w0 blk off d0) (hs : d0.size = d.size) (S : SWK enc k w0 blk off d w) (hpq : p + n ≤ q) (hb : q + n ≤ d.size) (hsz : d.size < 4611686018427387904) :
    Calls P 39 #[.slice (some ⟨blk, off, none⟩) d.size cap, .int .i64 p, .int .i64 q, .int .i64 n, .func (.func g) #[] cb] w fun e w' => e = .returned (.tuple #[]) ∧ SWK enc k w0 blk off (swr d p q n) w' := by
  have mixed := L.mixed; have t0 := L.t0; have a0 := L.a0; have z0 := L.z0; have v0 := L.v0; have t3 := L.t3; have a3 := L.a3; have z3 := L.z3; have v3 := L.v3; have t4 := L.t4; have a4 := L.a4; have z4 := L.z4; have v4 := L.v4; have t24 := L.t24; have a24 := L.a24; have z24 := L.z24; have v24 := L.v24; have t53 := L.t53; have a53 := L.a53; have z53 := L.z53; have v53 := L.v53
  have aE := L.aE; have zE := L.zE
  have S0 : Aside (SWK enc k w0 blk off d w) := S
  clear S
  go_enter L.f39, Try.ntmps39
  go_wp2
  go_loopg [10] n (fun kx s10 wr => ∃ i : Nat, s10 = .int .i64 i ∧ i ≤ n ∧ n - i ≤ kx ∧ Aside (SWK enc k w0 blk off (swr d p q i) wr))
  case atStart => exact ⟨0, rfl, Nat.zero_le _, by omega, by rw [swr_zero]; exact S0⟩
  case round =>
    clear S0
    obtain ⟨i, rfl, hin, hkx, S1⟩ := hrel
    by_cases hlt : i < n
    · have hltz : (i : Int) < (n : Int) := by omega
      have hds : (swr d p q i).size = d.size := swr_size ..
      go_wp2_with fail
      have ea : ((p : Int) + (i : Int)).toNat = p + i := by omega
      have pa : (0 : Int) ≤ (p : Int) + (i : Int) := by omega
      have ba : (p : Int) + (i : Int) < (d.size : Int) := by omega
      have ra : IntKind.i64.wrap ((p : Int) + (i : Int)) = (p : Int) + (i : Int) := by rw [IntKind.wrap_i64]; omega
      have ec : ((q : Int) + (i : Int)).toNat = q + i := by omega
      have pc : (0 : Int) ≤ (q : Int) + (i : Int) := by omega
      have bc : (q : Int) + (i : Int) < (d.size : Int) := by omega
      have rc : IntKind.i64.wrap ((q : Int) + (i : Int)) = (q : Int) + (i : Int) := by rw [IntKind.wrap_i64]; omega
      obtain ⟨dk, HD⟩ : ∃ dk, Hid (dk = swr d p q i) := ⟨_, rfl⟩
      rw [← HD.out] at S1 hds
      have S2 : Aside (SWK enc k w0 blk off (swp dk (p + i) (q + i)) ((wr.drew.setCells blk (off + (p + i) * k) (enc dk[q + i]!)).setCells blk (off + (q + i) * k) (enc dk[p + i]!))) := S1.out.swapped R (p + i) (q + i) (by omega) (by omega)
      have la := S1.out.ld1 R (by omega) P (p + i) (by omega)
      have lb := S1.out.ld1 R (by omega) P (q + i) (by omega)
      have sa := S1.out.st1 R (by omega) P (p + i) (by omega) dk[q + i]!
      have sb := S1.out.st2 R (by omega) P (p + i) (q + i) (by omega) (by omega) dk[q + i]! dk[p + i]!
      have na : (enc dk[p + i]!).length = k := R.hk _
      have nb : (enc dk[q + i]!).length = k := R.hk _
      generalize enc dk[p + i]! = cI at S2 la sb na
      generalize enc dk[q + i]! = cJ at S2 lb sa sb nb
      clear S1
      go_wp2_with fail
      go_big_region_o
      clear la lb sa sb
      generalize (wr.drew.setCells blk (off + (p + i) * k) cJ).setCells blk (off + (q + i) * k) cI = w2 at S2 ⊢
      go_wp2
      go_roundg (n - (i + 1))
      case measure => omega
      case rel =>
        refine ⟨i + 1, by simp, by omega, Nat.le_refl _, ?_⟩
        rw [← swr_succ d p q i (by omega) (by omega), ← HD.out]
        exact S2
    · have hnot : ¬ (i : Int) < (n : Int) := by omega
      go_wp2
      go_end0
      refine ⟨rfl, ?_⟩
      rw [show n = i by omega]
      exact S1.out

set_option maxHeartbeats 4000000 in
set_option maxRecDepth 1000000 in
theorem rotate_any {k : Nat} (L : Ply P k) (enc : α → List Value) (g : Nat) (cb : Array Value) (blk off cap a m b : Nat) (d0 d : Array α) (w0 w : World)
    (R : RowK enc k w0 blk off d0) (hs : d0.size = d.size) (S : SWK enc k w0 blk off d w) (ham : a < m) (hmb : m < b) (hb : b ≤ d.size) (hsz : d.size < 4611686018427387904) :
    Calls P 38 #[.slice (some ⟨blk, off, none⟩) d.size cap, .int .i64 a, .int .i64 m, .int .i64 b, .func (.func g) #[] cb] w fun e w' => e = .returned (.tuple #[]) ∧ SWK enc k w0 blk off (rot d a m b) w' := by
  have mixed := L.mixed; have t0 := L.t0; have a0 := L.a0; have z0 := L.z0; have v0 := L.v0; have t3 := L.t3; have a3 := L.a3; have z3 := L.z3; have v3 := L.v3; have t4 := L.t4; have a4 := L.a4; have z4 := L.z4; have v4 := L.v4; have t24 := L.t24; have a24 := L.a24; have z24 := L.z24; have v24 := L.v24; have t53 := L.t53; have a53 := L.a53; have z53 := L.z53; have v53 := L.v53
  have aE := L.aE; have zE := L.zE
  have e39 : ∀ args w, (callFunc 39 args).run P w = .ok (.enter 39 args) w := enters_of L.f39 (by kernel_rfl) rfl
  have S0 : Aside (SWK enc k w0 blk off d w) := S
  clear S
  go_enter L.f38, Try.ntmps38
  go_wp2
  go_loopg [10, 11] (b - a) (fun kx s10 s11 wr => ∃ (i j : Nat) (dk : Array α), s10 = .int .i64 i ∧ s11 = .int .i64 j ∧ 0 < i ∧ 0 < j ∧ i ≤ m ∧ m + j ≤ d.size ∧ i + j ≤ kx ∧ Hid (dk.size = d.size) ∧ Aside (SWK enc k w0 blk off dk wr) ∧ Hid (rot dk (m - i) m (m + j) = rot d a m b))
  case atStart => exact ⟨m - a, b - m, d, by simp; omega, by simp; omega, by omega, by omega, by omega, by omega, by omega, rfl, S0, by show _ = _; rw [show m - (m - a) = a by omega, show m + (b - m) = b by omega]⟩
  case round =>
    clear S0
    obtain ⟨i, j, dk, rfl, rfl, hi0, hj0, him, hjm, hkx, HS, S1, HE⟩ := hrel
    have hsz' : Hid (d0.size = dk.size) := hs.trans HS.out.symm
    by_cases heq : i = j
    · subst heq
      have c39 := swapRange_any L enc g cb blk off cap (m - i) m i d0 dk w0 wr R hsz'.out S1.out (by omega) (by rw [HS.out]; omega) (by rw [HS.out]; omega)
      rw [HS.out, show ((m - i : Nat) : Int) = (m : Int) - (i : Int) by omega] at c39
      go_wp2_with (go_at_fn 39; refine c39.mono ?_; rintro e w' ⟨rfl, hS2⟩)
      go_end0
      refine ⟨rfl, ?_⟩
      rw [← HE.out, ← rot_even dk m i him (by rw [HS.out]; omega)]
      exact hS2
    · have hne : ¬ (i : Int) = (j : Int) := by omega
      by_cases hij : j < i
      · have hijz : (j : Int) < (i : Int) := by omega
        have c39 := swapRange_any L enc g cb blk off cap (m - i) m j d0 dk w0 wr R hsz'.out S1.out (by omega) (by rw [HS.out]; omega) (by rw [HS.out]; omega)
        rw [HS.out, show ((m - i : Nat) : Int) = (m : Int) - (i : Int) by omega] at c39
        go_wp2_with (go_at_fn 39; refine c39.mono ?_; rintro e w' ⟨rfl, hS2⟩)
        go_roundg (i - j + j)
        case measure => omega
        case rel =>
          refine ⟨i - j, j, swr dk (m - i) m j, by simp; omega, rfl, by omega, hj0, by omega, hjm, by omega, by show _ = _; rw [swr_size]; exact HS.out, hS2, ?_⟩
          show _ = _
          rw [← HE.out, ← rot_more dk m i j hij him (by rw [HS.out]; exact hjm), show m - (i - j) = m - i + j by omega]
      · have hijz : ¬ (j : Int) < (i : Int) := by omega
        have c39 := swapRange_any L enc g cb blk off cap (m - i) (m + j - i) i d0 dk w0 wr R hsz'.out S1.out (by omega) (by rw [HS.out]; omega) (by rw [HS.out]; omega)
        rw [HS.out, show ((m - i : Nat) : Int) = (m : Int) - (i : Int) by omega, show ((m + j - i : Nat) : Int) = (m : Int) + (j : Int) - (i : Int) by omega] at c39
        go_wp2_with (go_at_fn 39; refine c39.mono ?_; rintro e w' ⟨rfl, hS2⟩)
        go_roundg (i + (j - i))
        case measure => omega
        case rel =>
          refine ⟨i, j - i, swr dk (m - i) (m + j - i) i, rfl, by simp; omega, hi0, by omega, him, by omega, by omega, by show _ = _; rw [swr_size]; exact HS.out, hS2, ?_⟩
          show _ = _
          rw [← HE.out, ← rot_less dk m i j (by omega) him (by rw [HS.out]; exact hjm), show m + (j - i) = m + j - i by omega]
end Go.Proofs.Ytjkpidhpjleebaa
