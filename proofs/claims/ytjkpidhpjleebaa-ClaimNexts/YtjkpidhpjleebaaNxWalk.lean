/-
  The law ClaimNexts, walked. Conditions: the founds came in with their reach; the checkpoint's numbers are int64s.
-/
import Derived.Test.YtjkpidhpjleebaaUps
namespace Go.Proofs.Ytjkpidhpjleebaa
set_option maxRecDepth 100000
open Go.RowKit Go.Sort

set_option maxHeartbeats 8000000 in
theorem nexts_walk (a : Option Addr) (n cap : Nat) (l : List Fnd) (hnl : n = l.length) (c : Ckp) (hw : Wfc c) (w : World) (hs : Sl w (.slice a n cap) l) (hn : n < 2932031007402) :
    Calls Try.prog 6 #[.slice a n cap, .agg (ckA c)] w fun e w' => e = .returned (.bool true) ∧ Below w.heap.size w w' := by
  have HN := hyd hnl
  have HW := hyd hw
  have HK := hyd (Ck.new w c)
  have HG0 : Hid (Chg (fun _ => False) w (w.alloc (.cells (ckA c) 36))) := (Chg.refl _ w).alloc _
  have HS0 := hyd (hs.new HG0.out)
  have HX := hyd (fun f hf hs => nxt_above l c f hf hs)
  obtain ⟨B, HBB⟩ : ∃ B, Hid (B = w.heap.size) := ⟨_, rfl⟩
  clear hs hnl hw
  have c15 := fun W h => next_any W a cap l n HN.out h hn c HW.out
  have c16 := fun W h => rnext_any W a cap l n HN.out h hn c HW.out
  obtain ⟨x, hx⟩ : ∃ x, nxt l c = x := ⟨_, rfl⟩
  rw [hx] at c15 c16 HX
  have C15 : Aside _ := c15
  have C16 : Aside _ := c16
  clear hx c15 c16
  go_enter Try.func6, Try.ntmps6
  go_wp2_with (first | (go_at_call 8; refine (up_any _).mono ?_; rintro e w2 ⟨rfl, G2⟩; have HK2 := hyd (HK.out.chg G2 (fun h => h)); have HS2 := hyd (HS0.out.new G2); have HG2 := hyd (HG0.out.trans G2); clear G2) | (refine wpList_load_ck rfl (.tmp 3) rfl w.heap.size rfl HK2.out ?_) | (go_at_call 15; refine (C15.out _ HS2.out).mono ?_; rintro e w3 ⟨rfl, G3⟩; have HK3 := hyd (HK2.out.chg G3 (fun h => h)); have HS3 := hyd (HS2.out.new G3); have HG3 := hyd (HG2.out.trans G3); clear G3) | (refine wpList_load_ck rfl (.tmp 3) rfl w.heap.size rfl HK3.out ?_) | (go_at_call 16; refine (C16.out _ HS3.out).mono ?_; rintro e w4 ⟨rfl, G4⟩; have HS4 := hyd (HS3.out.new G4); have HG4 := hyd (HG3.out.trans G4); clear G4))
  go_loopg [7] n (fun kx s7 wr => ∃ i : Nat, s7 = .int .i64 i ∧ i ≤ n ∧ n - i ≤ kx ∧ Hid (Chg (fun _ => False) w4 wr))
  case atStart => exact ⟨0, rfl, by omega, by omega, Chg.refl _ _⟩
  case round =>
  obtain ⟨i, rfl, hin, hkx, HGr⟩ := hrel
  by_cases hlt : i < n
  · have hltz : (i : Int) < (n : Int) := by omega
    obtain ⟨f, hf⟩ : ∃ f, l[i]? = some f := ⟨_, List.getElem?_eq_getElem (by rw [← HN.out]; exact hlt)⟩
    have HF := hyd hf
    obtain ⟨g, o, ha, hA⟩ := HS4.out.at6 (by rw [← HN.out]; omega)
    subst ha
    have hA2 := hA.chg HGr.out (fun h => h)
    have HR := hyd (hA2.2 i f hf)
    have HA2 := hyd hA2
    have hmem : f ∈ l := by
      obtain ⟨h1, h2⟩ := List.getElem?_eq_some_iff.1 hf
      rw [← h2]; exact List.getElem_mem h1
    have hX2 := HX.out f hmem
    clear hf hA hA2 hmem
    cases hsn : snd f with
    | false =>
      clear hX2
      go_wp2_with (first | (refine wpList_load_at (f := f) rfl (.tmp 26) rfl g (o + i * 6) rfl ?_ ?_; exact HR.out) | (go_at_call 17; refine (rsound_any f _).mono ?_; rintro e w5 ⟨rfl, G3⟩; have A3 := HA2.out.chg G3 (fun h => h); obtain ⟨-, k2, k3, -⟩ := A3.fields HF.out; have HG3' := hyd (HGr.out.trans G3); clear A3 G3))
      go_roundg (n - (i + 1))
      case measure => omega
      case rel => exact ⟨i + 1, by simp, by omega, Nat.le_refl _, HG3'.out⟩
    | true =>
      have hX3 := hX2 hsn
      clear hX2
      by_cases hc : x ≤ f.S
      · have hcb : decide (x ≤ f.S) = true := decide_eq_true hc
        have hxm : x = 1099511627775 := by omega
        have hxb : (x != 1099511627775) = false := by simp [hxm]
        clear hxm hX3
        go_wp2_with (first | (refine wpList_load_at (f := f) rfl (.tmp 26) rfl g (o + i * 6) rfl ?_ ?_; exact HR.out) | (go_at_call 17; refine (rsound_any f _).mono ?_; rintro e w5 ⟨rfl, G3⟩; have A3 := HA2.out.chg G3 (fun h => h); obtain ⟨-, k2, k3, -⟩ := A3.fields HF.out; have HG3' := hyd (HGr.out.trans G3); clear A3 G3))
        go_roundg (n - (i + 1))
        case measure => omega
        case rel => exact ⟨i + 1, by simp, by omega, Nat.le_refl _, HG3'.out⟩
      · have hcb : decide (x ≤ f.S) = false := decide_eq_false hc
        clear hX3
        go_wp2_with (first | (refine wpList_load_at (f := f) rfl (.tmp 26) rfl g (o + i * 6) rfl ?_ ?_; exact HR.out) | (go_at_call 17; refine (rsound_any f _).mono ?_; rintro e w5 ⟨rfl, G3⟩; have A3 := HA2.out.chg G3 (fun h => h); obtain ⟨-, k2, k3, -⟩ := A3.fields HF.out; have HG3' := hyd (HGr.out.trans G3); clear A3 G3))
        go_roundg (n - (i + 1))
        case measure => omega
        case rel => exact ⟨i + 1, by simp, by omega, Nat.le_refl _, HG3'.out⟩
  · have hltz : ¬ (i : Int) < (n : Int) := by omega
    go_wp2
    go_ret
    exact ⟨rfl, (HG4.out.trans HGr.out).below (fun _ h => h.elim) (Nat.le_refl _)⟩
end Go.Proofs.Ytjkpidhpjleebaa
