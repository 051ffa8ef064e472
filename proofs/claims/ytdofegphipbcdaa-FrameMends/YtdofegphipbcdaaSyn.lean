/-
  A word's six syndromes, as an array. Condition: the block holds a Codec that New gave; the bytes can be read.
-/
import Derived.Test.YtdofegphipbcdaaCod
namespace Go.Proofs.Ytdofegphipbcdaa
open Go.RowKit
set_option maxRecDepth 100000

/-- The first n of a word's syndromes, noughts behind them. -/
def syL (l : List Nat) (n : Nat) : List Nat := (List.range 6).map fun k => if k < n then sy l k else 0
theorem syL_length (l : List Nat) (n : Nat) : (syL l n).length = 6 := by simp [syL]
theorem syL_zero (l : List Nat) : syL l 0 = List.replicate 6 0 := by simp [syL]; rfl
theorem syL_set (l : List Nat) (n : Nat) : (syL l n).set n (sy l n) = syL l (n + 1) := by
  apply List.ext_getElem?
  intro k
  by_cases h : n = k
  · subst h
    by_cases h5 : n < 6
    · rw [List.getElem?_set_self (by rw [syL_length]; exact h5)]
      simp [syL, h5]
    · rw [List.getElem?_eq_none (by simp [syL]; omega), List.getElem?_eq_none (by simp [syL]; omega)]
  · rw [List.getElem?_set_ne h]
    by_cases h5 : k < 6
    · simp only [syL, List.getElem?_map, List.getElem?_range h5, Option.map_some]
      congr 1
      by_cases h6 : k < n
      · rw [if_pos h6, if_pos (by omega)]
      · rw [if_neg h6, if_neg (by omega)]
    · rw [List.getElem?_eq_none (by simp [syL]; omega), List.getElem?_eq_none (by simp [syL]; omega)]
theorem syL_getD (l : List Nat) (k : Nat) (h : k < 6) : (syL l 6).getD k 0 = sy l k := by
  simp [syL, List.getD_eq_getElem?_getD, h]
theorem syL_bys {l : List Nat} (hs : Bys l) (n : Nat) : Bys (syL l n) := by
  intro x hx
  simp only [syL, List.mem_map, List.mem_range] at hx
  obtain ⟨k, _, rfl⟩ := hx
  split
  · exact sy_lt hs k
  · decide
theorem hyd0 {p : Prop} (h : p) : Hid p := h
theorem exZ_nat (k : Nat) (h : k < 255) : exZ (k : Int) = ex k := by
  unfold exZ
  congr 1
  omega

set_option maxHeartbeats 2000000 in
theorem syndromes_any (q b : Nat) (w : World) (h : Cod w q b) (a : Option Addr) (n cap : Nat) (l : List Nat) (hn : n = l.length) (hlen : l.length ≤ 9223372036854775807) (hr : Rd w b a l) :
    Calls Try.prog 58 #[.pointer (some ⟨q, 0, none⟩), .slice a n cap] w fun e w' => e = .returned (.agg (bcells (syL l 6))) ∧ Cod w' q b ∧ But b w w' := by
  subst hn
  have hz := zero63
  have hne := h.ne
  have hq := h.lt
  have hbb := h.1.lt
  go_enter Try.func58, Try.ntmps58
  go_wp2_with fail
  go_loopw [7] (fun t wr => ∃ k : Nat, k ≤ 6 ∧ t = .int .i64 k ∧ Arr wr w.heap.size 106 [0, 0, 0, 0, 0, 0] ∧ Arr wr (w.heap.size + 1) 106 (syL l k) ∧ Cod wr q b ∧ But b w wr) (fun t _ => 6 - (intOf t).toNat)
  case atStart =>
    have h1 := Arr.new w 106 [0, 0, 0, 0, 0, 0]
    have h2 := Arr.new (w.alloc (.cells (bcells [0, 0, 0, 0, 0, 0]) 106)) 106 [0, 0, 0, 0, 0, 0]
    refine ⟨0, by omega, rfl, h1.alloc _, ?_, (h.alloc _).alloc _, ((But.refl _ _).alloc _).alloc _⟩
    rw [syL_zero]; simpa using h2
  case round =>
    obtain ⟨k, hk, rfl, hR, hO, hC, hB⟩ := hrel
    by_cases hlt : k < 6
    · have c3 := hC.ptr
      have hrr := hr.but hB
      have hrr1 : Rd wr.drew b a l := hrr
      clear hrr
      have hkb4 : (0 : Int) ≤ (k : Int) := by omega
      have hkb5 : (k : Int) < 6 := by omega
      have HW : Hid ((syL l k).set k (ev (ex k) l) = syL l (k + 1)) := syL_set l k
      have hxk := ex_lt k
      have hE : exZ (k : Int) = ex k := exZ_nat k (by omega)
      have HE := hyd0 hE
      clear hE
      generalize ex k = y at *
      have n1 : q ≠ w.heap.size + 1 := by omega
      go_wp2_with fail
      go_region_held3 (fun wx => wx.cell? ⟨q, 0, none⟩ = some (.pointer (some ⟨b, 0, none⟩)))
        (first | exact c3 | exact c4 | exact c5 | exact (cell_set _ _ _ _ _ _ n1).trans c5)
        (first | (go_at_call 41; refine (exp_any b _ ?_ _).mono ?_; (exact hC.1.drew); rintro e w1 ⟨rfl, hF1, hB1⟩; rw [HE.out]; have hC1 : Cod w1 q b := (hC.drew.but hF1 hB1); have c4 := hC1.ptr) | (go_at_call 65; refine (eval_any b _ hF1 a l.length cap l rfl hlen y hxk (hrr1.but hB1)).mono ?_; rintro e w2 ⟨rfl, hF2, hB2⟩; have hC2 : Cod w2 q b := (hC1.but hF2 hB2); have c5 := hC2.ptr; have hR' : Arr w2 w.heap.size 106 [0, 0, 0, 0, 0, 0] := ((hR.drew.but hB1 (by omega)).but hB2 (by omega)); have hO' : Arr w2 (w.heap.size + 1) 106 (syL l k) := ((hO.drew.but hB1 (by omega)).but hB2 (by omega)); have hf' := hO'.frozen k; have ho' := hO'.cell k (by rw [syL_length]; omega)))
      all_goals
        have hO2 : Arr (w2.setCell ⟨w.heap.size + 1, k, none⟩ (.int .u8 ((ev y l : Nat) : Int))) (w.heap.size + 1) 106 (syL l (k + 1)) := by
          rw [← HW.out]; exact hO'.store k _
        clear c3 c4 c5 hf' ho'
        go_wp2
        exact ⟨⟨k + 1, by omega, by go_num, hR'.setOther (by omega) _ _, hO2, hC2.setNew (by omega) (by omega) _ _, ((hB.drew.trans (hB1.trans hB2)).setNew (by omega) _ _)⟩, by simp [intOf]; omega⟩
    · have hO5 : Arr wr (w.heap.size + 1) 106 (syL l 6) := by
        have e : k = 6 := by omega
        rw [e] at hO; exact hO
      have hR2 := hR.row (syL l 6)
      have hC2 : Cod (wr.setRow w.heap.size (bcells (syL l 6))) q b := hC.setRow (by omega) (by omega) _
      have hB2 : But b w (wr.setRow w.heap.size (bcells (syL l 6))) := hB.setRow (by omega) _
      clear hO
      go_wp2_with (first | (refine wpList_load_arr rfl 106 (.tmp 5) rfl _ rfl hO5 Try.underlying106 size63 (syL_length _ _) ?_) | (refine wpList_store_arr rfl 106 (.tmp 4) (.tmp 25) rfl _ _ rfl rfl hR size63 rfl (syL_length _ _) ?_) | go_in)
      refine bodyPost_ret (results_arr rfl _ hR2 rfl Try.underlying106 size63 (syL_length _ _)) rfl ⟨rfl, hC2, hB2⟩
end Go.Proofs.Ytdofegphipbcdaa
