/-
  The five fields, laid by the writer's methods. Conditions: each field fits its bytes; the writer's row has room.
-/
import Derived.Test.YtgipkdkhgdaeiaaWriter
namespace Go.Proofs.Ytgipkdkhgdaeiaa
open Go.RowKit
set_option maxRecDepth 100000

set_option maxHeartbeats 2000000 in
theorem layPlace_any (w : World) (b g n : Nat) (p : Nat) (o s c : Int) (l : Bool) (L : List Nat) (hW : Wr w b g n p o s c l) (hA : Arr w g 5 L) (hL : L.length = 50) (hbg : b ≠ g) (hp : p < 65536) (hn : n + 2 ≤ 50) :
    Calls Try.prog 20 #[.pointer (some ⟨b, 0, none⟩)] w fun e w' => e = .returned .nilIface ∧ Wr w' b g (n + 2) p o s c l ∧ Arr w' g 5 (lay L n (bts p 2)) ∧ Chg (fun k => k = b ∨ k = g) w w' := by
  have hcall := lay_any w b g n p o s c l L hW hA hL hbg p 2 (by omega) (by decide) (by decide) (by omega) hn
  obtain ⟨k0, k1, k2, k3, k4, -, -⟩ := hW.cells
  clear hW hA hL hbg hn
  go_enter Try.func20, Try.ntmps20
  go_wp2_with fail
  refine hcall.mono ?_
  rintro e w1 ⟨rfl, h1, h2, h3⟩
  have H := hyd (And.intro h1 (And.intro h2 h3))
  clear h1 h2 h3 hcall
  go_wp2
  go_ret
  exact ⟨rfl, H.out⟩
set_option maxHeartbeats 2000000 in
theorem layOf_any (w : World) (b g n : Nat) (o : Nat) (p s c : Int) (l : Bool) (L : List Nat) (hW : Wr w b g n p o s c l) (hA : Arr w g 5 L) (hL : L.length = 50) (hbg : b ≠ g) (hp : o < 256) (hn : n + 1 ≤ 50) :
    Calls Try.prog 21 #[.pointer (some ⟨b, 0, none⟩)] w fun e w' => e = .returned .nilIface ∧ Wr w' b g (n + 1) p o s c l ∧ Arr w' g 5 (lay L n (bts o 1)) ∧ Chg (fun k => k = b ∨ k = g) w w' := by
  have hcall := lay_any w b g n p o s c l L hW hA hL hbg o 1 (by omega) (by decide) (by decide) (by omega) hn
  obtain ⟨k0, k1, k2, k3, k4, -, -⟩ := hW.cells
  clear hW hA hL hbg hn
  go_enter Try.func21, Try.ntmps21
  go_wp2_with fail
  refine hcall.mono ?_
  rintro e w1 ⟨rfl, h1, h2, h3⟩
  have H := hyd (And.intro h1 (And.intro h2 h3))
  clear h1 h2 h3 hcall
  go_wp2
  go_ret
  exact ⟨rfl, H.out⟩
set_option maxHeartbeats 2000000 in
theorem laySeq_any (w : World) (b g n : Nat) (s : Nat) (p o c : Int) (l : Bool) (L : List Nat) (hW : Wr w b g n p o s c l) (hA : Arr w g 5 L) (hL : L.length = 50) (hbg : b ≠ g) (hp : s < 1099511627776) (hn : n + 5 ≤ 50) :
    Calls Try.prog 22 #[.pointer (some ⟨b, 0, none⟩)] w fun e w' => e = .returned .nilIface ∧ Wr w' b g (n + 5) p o s c l ∧ Arr w' g 5 (lay L n (bts s 5)) ∧ Chg (fun k => k = b ∨ k = g) w w' := by
  have hcall := lay_any w b g n p o s c l L hW hA hL hbg s 5 (by omega) (by decide) (by decide) (by omega) hn
  obtain ⟨k0, k1, k2, k3, k4, -, -⟩ := hW.cells
  clear hW hA hL hbg hn
  go_enter Try.func22, Try.ntmps22
  go_wp2_with fail
  refine hcall.mono ?_
  rintro e w1 ⟨rfl, h1, h2, h3⟩
  have H := hyd (And.intro h1 (And.intro h2 h3))
  clear h1 h2 h3 hcall
  go_wp2
  go_ret
  exact ⟨rfl, H.out⟩
set_option maxHeartbeats 2000000 in
theorem layCopy_any (w : World) (b g n : Nat) (c : Nat) (p o s : Int) (l : Bool) (L : List Nat) (hW : Wr w b g n p o s c l) (hA : Arr w g 5 L) (hL : L.length = 50) (hbg : b ≠ g) (hp : c < 256) (hn : n + 1 ≤ 50) :
    Calls Try.prog 23 #[.pointer (some ⟨b, 0, none⟩)] w fun e w' => e = .returned .nilIface ∧ Wr w' b g (n + 1) p o s c l ∧ Arr w' g 5 (lay L n (bts c 1)) ∧ Chg (fun k => k = b ∨ k = g) w w' := by
  have hcall := lay_any w b g n p o s c l L hW hA hL hbg c 1 (by omega) (by decide) (by decide) (by omega) hn
  obtain ⟨k0, k1, k2, k3, k4, -, -⟩ := hW.cells
  clear hW hA hL hbg hn
  go_enter Try.func23, Try.ntmps23
  go_wp2_with fail
  refine hcall.mono ?_
  rintro e w1 ⟨rfl, h1, h2, h3⟩
  have H := hyd (And.intro h1 (And.intro h2 h3))
  clear h1 h2 h3 hcall
  go_wp2
  go_ret
  exact ⟨rfl, H.out⟩
set_option maxHeartbeats 2000000 in
theorem layLost_any (w : World) (b g n : Nat) (p o s c : Int) (l : Bool) (L : List Nat) (hW : Wr w b g n p o s c l) (hA : Arr w g 5 L) (hL : L.length = 50) (hbg : b ≠ g) (hn : n + 1 ≤ 50) :
    Calls Try.prog 24 #[.pointer (some ⟨b, 0, none⟩)] w fun e w' => e = .returned .nilIface ∧ Wr w' b g (n + 1) p o s c l ∧ Arr w' g 5 (lay L n (bts l.toNat 1)) ∧ Chg (fun k => k = b ∨ k = g) w w' := by
  cases l with
  | true =>
    have hcall := lay_any w b g n p o s c true L hW hA hL hbg 1 1 (by omega) (by decide) (by decide) (by omega) hn
    obtain ⟨k0, k1, k2, k3, k4, -, -⟩ := hW.cells
    clear hW hA hL hbg hn
    go_enter Try.func24, Try.ntmps24
    go_wp2_with fail
    refine hcall.mono ?_
    rintro e w1 ⟨rfl, h1, h2, h3⟩
    have H := hyd (And.intro h1 (And.intro h2 h3))
    clear h1 h2 h3 hcall
    go_wp2
    go_ret
    exact ⟨rfl, H.out⟩
  | false =>
    have hcall := lay_any w b g n p o s c false L hW hA hL hbg 0 1 (by omega) (by decide) (by decide) (by omega) hn
    obtain ⟨k0, k1, k2, k3, k4, -, -⟩ := hW.cells
    clear hW hA hL hbg hn
    go_enter Try.func24, Try.ntmps24
    go_wp2_with fail
    refine hcall.mono ?_
    rintro e w1 ⟨rfl, h1, h2, h3⟩
    have H := hyd (And.intro h1 (And.intro h2 h3))
    clear h1 h2 h3 hcall
    go_wp2
    go_ret
    exact ⟨rfl, H.out⟩
end Go.Proofs.Ytgipkdkhgdaeiaa
