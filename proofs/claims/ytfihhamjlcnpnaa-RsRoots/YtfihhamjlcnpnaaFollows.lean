/-
  Whether one symbol alone makes what is left of the syndromes; what was added to two symbols. Condition: the block holds a Codec that New gave; the bytes are bytes.
-/
import Derived.Test.YtfihhamjlcnpnaaCod
namespace Go.Proofs.Ytfihhamjlcnpnaa
open Go.RowKit
set_option maxRecDepth 100000

theorem hyd {p : Prop} (h : p) : Hid p := h
def Fo (r : List Nat) (j n : Nat) : Prop := ∀ k, 1 ≤ k → k < n → r.getD k 0 = gm (r.getD (k - 1) 0) (rt j)
theorem Fo.succ {r : List Nat} {j k : Nat} (h : Fo r j k) (e : r.getD k 0 = gm (r.getD (k - 1) 0) (rt j)) : Fo r j (k + 1) := by
  intro m h1 h2
  by_cases hm : m = k
  · subst hm; exact e
  · exact h m h1 (by omega)

set_option maxHeartbeats 2000000 in
theorem follows_any (q b : Nat) (w : World) (h : Cod w q b) (r : List Nat) (hs : r.length = 5) (hb : Bys r) (j : Nat) (hj : j < 64) :
    Calls Try.prog 50 #[.pointer (some ⟨q, 0, none⟩), .agg (bcells r), .int .i64 j] w fun e w' => ∃ t : Bool, e = .returned (.bool t) ∧ (t = true ↔ Fo r j 5) ∧ Cod w' q b ∧ But b w w' := by
  go_enter Try.func50, Try.ntmps50
  go_wp2_with fail
  go_loopw [7] (fun t wr => ∃ k : Nat, 1 ≤ k ∧ k ≤ 5 ∧ t = .int .i64 k ∧ Fo r j k ∧ Arr wr w.heap.size 100 r ∧ Cod wr q b ∧ But b w wr) (fun t _ => 5 - (intOf t).toNat)
  case atStart =>
    exact ⟨1, by omega, by omega, rfl, fun k h1 h2 => by omega, Arr.new w 100 r, h.alloc _, (But.refl _ _).alloc _⟩
  case round =>
    obtain ⟨k, hk1, hk, rfl, hFo, hA, hC, hB⟩ := hrel
    have hne := hC.ne
    have hq := h.lt
    have hbb := h.1.lt
    by_cases hlt : k < 5
    · have c1 := hA.cell k (by omega)
      have c2 := hA.cell (k - 1) (by omega)
      have c3 := hC.ptr
      have c4 := hC.root j hj
      have d1 := hb.getD k
      have d2 := hb.getD (k - 1)
      have HFo : Hid (Fo r j k) := hyd hFo
      have HS : Hid (r.getD k 0 = gm (r.getD (k - 1) 0) (rt j) → Fo r j (k + 1)) := hyd (fun e => hFo.succ e)
      have HN : Hid (Fo r j 5 → r.getD k 0 = gm (r.getD (k - 1) 0) (rt j)) := hyd (fun e => e k hk1 hlt)
      clear hFo
      generalize r.getD k 0 = x at *
      generalize r.getD (k - 1) 0 = y at *
      have hr := rt_lt j
      generalize rt j = z at *
      have hkb1 : (k : Int) < 5 := by omega
      have hkb3 : (0 : Int) ≤ (k : Int) - 1 := by omega
      have hkb4 : (0 : Int) ≤ (k : Int) := by omega
      have hkb5 : (k : Int) - 1 < 5 := by omega
      have hkb8 : (1 : Int) ≤ (k : Int) := by omega
      have hkb9 : (k : Int) < 5 + 1 := by omega
      have hkb6 : (0 : Int) ≤ (j : Int) := by omega
      have hkb7 : (j : Int) < 64 := by omega
      go_wp2_with fail
      have hwr : IntKind.i64.wrap ((k : Int) - 1) = (k : Int) - 1 := by rw [IntKind.wrap_i64]; omega
      have hwt : ((k : Int) - 1).toNat = k - 1 := by omega
      go_region_held3 (fun wx => wx.cell? ⟨w.heap.size, k, none⟩ = some (.int .u8 (x : Nat)) ∧ wx.cell? ⟨w.heap.size, k - 1, none⟩ = some (.int .u8 (y : Nat)) ∧ wx.cell? ⟨q, 0, none⟩ = some (.pointer (some ⟨b, 0, none⟩)) ∧ wx.cell? ⟨q, 7 + j, none⟩ = some (.int .u8 (z : Nat)))
        (first | exact ⟨c1, c2, c3, c4⟩ | exact ⟨c1', c2', c3', c4'⟩)
        (first | (go_at_call 41; refine (mul_nat b _ ?_ y z d2 hr).mono ?_; (exact hC.1.drew); rintro e w' ⟨rfl, hF', hB'⟩; have hA' : Arr w' w.heap.size 100 r := (hA.drew.but hB' (by omega)); have hC' : Cod w' q b := (hC.drew.but hF' hB'); have c1' : w'.cell? ⟨w.heap.size, k, none⟩ = some (.int .u8 (x : Nat)) := ((hB'.cell hA.lt (by omega) _).trans c1); have c2' : w'.cell? ⟨w.heap.size, k - 1, none⟩ = some (.int .u8 (y : Nat)) := ((hB'.cell hA.lt (by omega) _).trans c2); have c3' := hC'.ptr; have c4' : w'.cell? ⟨q, 7 + j, none⟩ = some (.int .u8 (z : Nat)) := ((hB'.cell hC.lt hne _).trans c4)))
      all_goals
        clear hwr hwt c1 c2 c3 c4
        by_cases he : x = gm y z
        · have hbe : ((x : Int) != (gm y z : Nat)) = false := by simp [he]
          have HS' := hyd (HS.out he)
          clear he
          go_wp2
          exact ⟨⟨k + 1, by omega, by omega, by go_num, HS'.out, hA', hC', hB.drew.trans hB'⟩, by simp [intOf]; omega⟩
        · have hbe : ((x : Int) != (gm y z : Nat)) = true := by simp; omega
          have HN' : Hid (¬ Fo r j 5) := hyd (fun e => he (HN.out e))
          clear he
          go_wp2
          go_ret
          exact ⟨false, rfl, ⟨fun e => by simp at e, fun e => absurd e HN'.out⟩, hC', hB.drew.trans hB'⟩
    · have hge : Fo r j 5 := by
        have e : k = 5 := by omega
        rw [e] at hFo; exact hFo
      have HG := hyd hge
      clear hge hFo
      go_wp2
      go_ret
      exact ⟨true, rfl, ⟨fun _ => HG.out, fun _ => rfl⟩, hC, hB⟩

/-- What was added to the second symbol. -/
def atJ (s : List Nat) (i j : Nat) : Nat := gm (wo s i 0) (iv (rt i ^^^ rt j))
set_option maxHeartbeats 2000000 in
theorem turned_any (q b : Nat) (w : World) (h : Cod w q b) (s : List Nat) (hs : s.length = 6) (hb : Bys s) (i j : Nat) (hi : i < 64) (hj : j < 64) (hij : i ≠ j) :
    Calls Try.prog 46 #[.pointer (some ⟨q, 0, none⟩), .agg (bcells s), .int .i64 i, .int .i64 j] w fun e w' =>
      e = .returned (.tuple #[.int .u8 (s.getD 0 0 ^^^ atJ s i j : Nat), .int .u8 (atJ s i j : Nat)]) ∧ Cod w' q b ∧ But b w w' := by
  have hz := zero100
  have hne := h.ne
  have hq := h.lt
  have hbb := h.1.lt
  go_enter Try.func46, Try.ntmps46
  go_wp2_with (first | (refine wpList_load_arr rfl 63 (.tmp 5) rfl _ rfl (Arr.new w 63 s) Try.underlying63 size63 hs ?_) | (go_at_call 49; refine (without_any q b _ (h.alloc _) s hs hb i hi).mono ?_; rintro e w2 ⟨rfl, hC2, hB2⟩) | (refine wpList_store_arr rfl 100 (.tmp 10) (.tmp 16) rfl _ _ rfl rfl (Arr.new w2 100 [0, 0, 0, 0, 0]) size100 rfl (woL_length _ _ _) ?_))
  have hA3 : Arr ((w2.alloc (.cells (bcells [0, 0, 0, 0, 0]) 100)).setRow w2.heap.size (bcells (woL s i 5))) w.heap.size 63 s :=
    (((Arr.new w 63 s).but hB2 (by omega)).alloc _).rowOther (by have := hB2.size; simp at this; omega) _
  have hR3 : Arr ((w2.alloc (.cells (bcells [0, 0, 0, 0, 0]) 100)).setRow w2.heap.size (bcells (woL s i 5))) w2.heap.size 100 (woL s i 5) := (Arr.new w2 100 [0, 0, 0, 0, 0]).row _
  have hC3 : Cod ((w2.alloc (.cells (bcells [0, 0, 0, 0, 0]) 100)).setRow w2.heap.size (bcells (woL s i 5))) q b :=
    (hC2.alloc _).setRow (by have := hC2.lt; omega) (by have := hC2.1.lt; omega) _
  have hB3 : But b w ((w2.alloc (.cells (bcells [0, 0, 0, 0, 0]) 100)).setRow w2.heap.size (bcells (woL s i 5))) :=
    ((((But.refl b w).alloc _).trans hB2).alloc _).setRow (by have := hB2.size; simp at this; omega) _
  have hg2 : b < w2.heap.size := hC2.1.lt
  generalize (w2.alloc (.cells (bcells [0, 0, 0, 0, 0]) 100)).setRow w2.heap.size (bcells (woL s i 5)) = w3 at *
  clear hC2 hB2 h
  generalize w2.heap.size = g2 at *
  have c1 := hC3.ptr
  have c2 := hR3.cell 0 (by rw [woL_length]; omega)
  have c3 := hC3.root i hi
  have c4 := hC3.root j hj
  have e0 : (woL s i 5).getD 0 0 = wo s i 0 := woL_getD s i 0 (by omega)
  rw [e0] at c2
  have d0 := wo_lt hb i 0
  have dr := rt_lt i
  have dr2 := rt_lt j
  have hx0 : rt i ^^^ rt j ≠ 0 := fun e => hij (rt_inj hi hj (xor_zero_eq e))
  have hxl := xor_lt _ _ dr dr2
  have ex1 := u8_xor_nat (rt i) (rt j) dr dr2
  have HJ : Hid (atJ s i j = gm (wo s i 0) (iv (rt i ^^^ rt j))) := rfl
  have hkb6 : (0 : Int) ≤ (i : Int) := by omega
  have hkb7 : (i : Int) < 64 := by omega
  have hkb8 : (0 : Int) ≤ (j : Int) := by omega
  have hkb9 : (j : Int) < 64 := by omega
  have cA := hA3.cell 0 (by omega)
  have d5 := hb.getD 0
  generalize hs0 : s.getD 0 0 = s0 at *
  have HS0 := hyd hs0
  clear hs0
  generalize wo s i 0 = x at *
  generalize rt i = ri at *
  generalize rt j = rj at *
  generalize ri ^^^ rj = y at *
  have ex2 := u8_xor_nat s0 (gm x (iv y)) d5 (gm_lt _ _)
  go_region_held3 (fun wx => wx.cell? ⟨q, 0, none⟩ = some (.pointer (some ⟨b, 0, none⟩)) ∧ wx.cell? ⟨g2, 0, none⟩ = some (.int .u8 (x : Nat)) ∧ wx.cell? ⟨q, 7 + i, none⟩ = some (.int .u8 (ri : Nat)) ∧ wx.cell? ⟨q, 7 + j, none⟩ = some (.int .u8 (rj : Nat)))
    (first | exact ⟨c1, c2, c3, c4⟩ | exact ⟨c1', c2', c3', c4'⟩)
    (first | (go_at_call 51; refine (div_nat b _ ?_ x y d0 hxl hx0).mono ?_; (exact hC3.1.drew); rintro e w' ⟨rfl, hF', hB'⟩; have hC' : Cod w' q b := (hC3.drew.but hF' hB'); have c1' := hC'.ptr; have c2' : w'.cell? ⟨g2, 0, none⟩ = some (.int .u8 (x : Nat)) := ((hB'.cell hR3.lt (by omega) _).trans c2); have c3' : w'.cell? ⟨q, 7 + i, none⟩ = some (.int .u8 (ri : Nat)) := ((hB'.cell hC3.lt hne _).trans c3); have c4' : w'.cell? ⟨q, 7 + j, none⟩ = some (.int .u8 (rj : Nat)) := ((hB'.cell hC3.lt hne _).trans c4); have cA' : w'.cell? ⟨w.heap.size, 0, none⟩ = some (.int .u8 (s0 : Nat)) := ((hB'.cell hA3.lt (by omega) _).trans cA)))
  all_goals
    clear c1 c2 c3 c4 cA c1' c2' c3' c4'
    go_wp2
    go_ret2
    exact ⟨by rw [HJ.out, HS0.out]; rfl, hC', hB3.drew.trans hB'⟩
end Go.Proofs.Ytfihhamjlcnpnaa
