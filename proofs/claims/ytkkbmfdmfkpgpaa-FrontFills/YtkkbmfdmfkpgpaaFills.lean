/-
  FrontFills, walked. Condition: the list lies in memory.
-/
import Derived.Test.YtkkbmfdmfkpgpaaUp
import Derived.Test.YtkkbmfdmfkpgpaaIn
namespace Go.Proofs.Ytkkbmfdmfkpgpaa
set_option maxRecDepth 100000
open Go.RowKit

theorem room_none (w : World) (b k i : Nat) (h : FB w b 26 ⟨false, k, i⟩) (n : Int) : Calls Try.prog 12 #[.pointer (some ⟨b, 0, none⟩), .int .i64 n] w fun e w' => e = .returned (.bool false) ∧ w' = w := by
  have q := eql_c_nil
  by_cases h1 : n < 0 ∨ 25 ≤ n
  · have hn := next_arg w b n h1
    clear h h1
    go_enter Try.func12, Try.ntmps12
    go_wp2_with fail
    refine hn.mono ?_
    rintro e w1 ⟨rfl, rfl⟩
    go_wp2
    go_ret
    exact ⟨rfl, rfl⟩
  · have hn := next_none w b k i h n (by omega)
    clear h h1
    go_enter Try.func12, Try.ntmps12
    go_wp2_with fail
    refine hn.mono ?_
    rintro e w1 ⟨rfl, rfl⟩
    go_wp2
    go_ret
    exact ⟨rfl, rfl⟩
/-- The frontier is open, at the block k and the index a. -/
structure Fil (w0 w : World) (p k a : Nat) : Prop where
  prog : FB w p 26 ⟨true, k, a⟩
  hk : k < 12
  ha : a < 9
  lp : w0.heap.size ≤ p
  chg : Chg (fun _ => False) w0 w
set_option maxHeartbeats 8000000 in
theorem fills_walk (raw fr : Int) (hraw : -9223372036854775808 ≤ raw ∧ raw ≤ 9223372036854775807) (hfr : -9223372036854775808 ≤ fr ∧ fr ≤ 9223372036854775807) (l : Option Addr) (len cap : Nat) (V : Nat → Int) (w : World) (hV : IsInts w l len V) (hlen : len < 9223372036854775808) :
    Calls Try.prog 4 #[.int .i64 raw, .int .i64 fr, .slice l len cap] w fun e w' => e = .returned (.bool true) ∧ Below w.heap.size w w' := by
  have HV := hyd hV
  have hb := build26
  have q1 := neq_nil
  have q2 := eql_nil
  have q3 := eql_c_nil
  have q4 := neq_c_nil
  have q5 := neq_10_10
  clear hV
  go_enter Try.func4, Try.ntmps4
  go_wp2_with fail
  refine (up_any _).mono ?_
  rintro x w1 ⟨rfl, G1⟩
  obtain ⟨p, HP⟩ : ∃ p, Hid (p = w1.heap.size) := ⟨_, rfl⟩
  have K2 : FB (w1.alloc (.cells #[.bool false, .int .i64 0, .int .i64 0] 26)) w1.heap.size 26 ⟨false, 0, 0⟩ := FB.new w1 26 ⟨false, 0, 0⟩
  have G2 : Chg (fun _ => False) w1 (w1.alloc (.cells #[.bool false, .int .i64 0, .int .i64 0] 26)) := (Chg.refl _ w1).alloc _
  have HK2 := hyd K2
  have HG2 := hyd (G1.trans G2)
  have HLP := hyd G1.size
  clear G1 K2 G2
  go_wp2_with fail
  generalize w1.alloc (.cells #[.bool false, .int .i64 0, .int .i64 0] 26) = w2 at *
  rw [← HP.out] at HK2 HLP ⊢
  refine (pick_any raw hraw.1 hraw.2 12 (by omega) (by omega) _).mono ?_
  rintro x w2 ⟨⟨k, hk, rfl⟩, rfl⟩
  have HKK := hyd hk
  clear hk
  go_wp2_with fail
  refine (pick_any fr hfr.1 hfr.2 9 (by omega) (by omega) _).mono ?_
  rintro x w2 ⟨⟨a0, ha, rfl⟩, rfl⟩
  have HA := hyd ha
  clear ha
  go_wp2_with fail
  refine (open_yes w2 p _ HK2.out k a0 HKK.out HA.out).mono ?_
  rintro x w3 ⟨rfl, K3, G3⟩
  have HT := hyd (show Fil w w3 p k a0 from ⟨K3, HKK.out, HA.out, HLP.out, HG2.out.trans' G3 (fun i hi e => by have := HLP.out; omega)⟩)
  have hkz : (k : Int) ≤ 11 := by have := HKK.out; omega
  clear K3 G3 HK2 HG2 HLP HP HA HKK hb hraw hfr
  go_wp2_with fail
  go_loopg [10, 12] len (fun kx s10 s12 wr => ∃ (i a : Nat), s12 = .int .i64 i ∧ s10 = .int .i64 a ∧ i ≤ len ∧ len - i ≤ kx ∧ Hid (Fil w wr p k a))
  case atStart => exact ⟨0, a0, rfl, rfl, by omega, by omega, HT⟩
  case round =>
  clear HT
  obtain ⟨i, a, rfl, rfl, hin, hkx, HT⟩ := hrel
  by_cases hlt : i < len
  · have hltz : (i : Int) < (len : Int) := by omega
    obtain ⟨hok, hc⟩ := HV.out
    rcases hc with hc | ⟨qa, oa, rfl, hqa, hc⟩
    · omega
    have x0 := (HT.out.chg.cell hqa (fun f => f) _).trans (hc i hlt)
    have hvi := hok i hlt
    clear hok hc hqa
    generalize V i = v at *
    go_wp2_with fail
    refine (pick_any v hvi.1 hvi.2 25 (by omega) (by omega) _).mono ?_
    rintro x wr ⟨⟨n, hn, rfl⟩, rfl⟩
    have hoknf : Okf ⟨true, k, a⟩ := ⟨HT.out.hk, HT.out.ha⟩
    have haz : (a : Int) ≤ 8 := by have := HT.out.ha; omega
    have HOK := hyd hoknf
    have HN := hyd hn
    clear x0 hvi hn hoknf
    go_wp2_with fail
    refine (room_v wr p _ HT.out.prog HOK.out n).mono ?_
    rintro x w4 ⟨rfl, m, rfl⟩
    have HT4 := hyd (show Fil w (wr.drewN m) p k a from ⟨HT.out.prog.drewN m, HT.out.hk, HT.out.ha, HT.out.lp, HT.out.chg.drewN m⟩)
    clear HT
    generalize wr.drewN m = w4 at *
    go_wp2_with fail
    refine (take_v w4 p _ HT4.out.prog HOK.out n).mono ?_
    rintro x w5 ⟨rfl, K5, G5⟩
    have HK5 := hyd K5
    have HG5 := hyd (HT4.out.chg.trans' G5 (fun i hi e => by have := HT4.out.lp; omega))
    clear K5 G5
    have hnr : ¬ ((n : Int) < 0 ∨ 25 ≤ (n : Int)) := by have := HN.out; omega
    by_cases hc : a < 8 ∧ ((n : Int) = 24 ∨ a < 6)
    · have e0 : nxC ⟨true, k, a⟩ n = 0 := nx_0 hnr (by simp) hc
      have ev : nxV ⟨true, k, a⟩ n = (k : Int) * 8 + a := by unfold nxV; rw [if_pos e0]; simp
      have er : rmV ⟨true, k, a⟩ n = true := by unfold rmV; rw [e0]; rfl
      have HT5 := hyd (show Fil w w5 p k (a + 1) from ⟨by have := HK5.out; unfold tkS at this; rw [if_pos e0] at this; exact this, HT4.out.hk, by omega, HT4.out.lp, HG5.out⟩)
      rw [e0, ev, er, show errV 0 = .nilIface from rfl]
      have hpe : ((k : Int) * 8 + a != (k : Int) * 8 + a) = false := by simp
      clear e0 ev er HK5 HG5 HT4 hnr
      by_cases hn : (n : Int) < 24
      · have h6 : ¬ (a : Int) ≥ 6 := by omega
        clear hc
        go_wp2
        go_roundg (len - (i + 1))
        case measure => omega
        case rel => exact ⟨i + 1, a + 1, by simp, by simp, by omega, Nat.le_refl _, HT5⟩
      · clear hc
        go_wp2
        go_roundg (len - (i + 1))
        case measure => omega
        case rel => exact ⟨i + 1, a + 1, by simp, by simp, by omega, Nat.le_refl _, HT5⟩
    · have e0 : nxC ⟨true, k, a⟩ n = 10 := nx_10 hnr (by simp) hc
      have ev : nxV ⟨true, k, a⟩ n = 0 := by unfold nxV; rw [if_neg (by rw [e0]; decide)]
      have er : rmV ⟨true, k, a⟩ n = false := by unfold rmV; rw [e0]; rfl
      have HT5 := hyd (show Fil w w5 p k a from ⟨by have := HK5.out; unfold tkS at this; rw [if_neg (by rw [e0]; decide)] at this; exact this, HT4.out.hk, HT4.out.ha, HT4.out.lp, HG5.out⟩)
      rw [e0, ev, er, show errV 10 = .iface 45 (.int .i64 10) from rfl]
      clear e0 ev er HK5 HG5 HT4 hnr
      have h6 : ¬ (a : Int) < 6 := by omega
      by_cases hn : (n : Int) = 24
      · have h8 : ¬ (a : Int) < 8 := by omega
        have hnb : ((n : Int) == 24) = true := by simp [hn]
        clear hc hn
        go_wp2
        go_roundg (len - (i + 1))
        case measure => omega
        case rel => exact ⟨i + 1, a, by simp, rfl, by omega, Nat.le_refl _, HT5⟩
      · have hnb : ((n : Int) == 24) = false := by simp [hn]
        clear hc hn
        go_wp2
        go_roundg (len - (i + 1))
        case measure => omega
        case rel => exact ⟨i + 1, a, by simp, rfl, by omega, Nat.le_refl _, HT5⟩
  · have hltz : ¬ (i : Int) < (len : Int) := by omega
    go_wp2_with fail
    refine (close_any wr p _ HT.out.prog).mono ?_
    rintro x w4 ⟨rfl, K4, G4⟩
    have HG4 := hyd (HT.out.chg.trans' G4 (fun i hi e => by have := HT.out.lp; omega))
    have hbl := block_any w4 p _ K4
    rw [show blV ⟨false, 0, 0⟩ = -1 from rfl] at hbl
    have hrm := room_none w4 p 0 0 K4
    clear K4 G4 HT HV
    go_wp2_with (first | (go_at_call 15; refine hbl.mono ?_; rintro x wy ⟨rfl, rfl⟩) | (go_at_call 12; refine (hrm _).mono ?_; rintro x wy ⟨rfl, rfl⟩))
    go_ret
    exact ⟨rfl, HG4.out.below (fun _ h => h.elim) (Nat.le_refl _)⟩
end Go.Proofs.Ytkkbmfdmfkpgpaa
