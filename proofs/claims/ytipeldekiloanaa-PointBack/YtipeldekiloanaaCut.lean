/-
  wire's cut, Get and Apart, walked. Conditions: the bytes can be read.
-/
import Derived.Test.YtipeldekiloanaaTight
import Derived.Test.YtipeldekiloanaaNum
import Derived.Test.YtipeldekiloanaaSame
namespace Go.Proofs.Ytipeldekiloanaa
open Go.RowKit
set_option maxRecDepth 100000

theorem Chg.setRow {S : Nat → Prop} {u w : World} (h : Chg S u w) {g : Nat} (hg : S g ∨ u.heap.size ≤ g) (c : Array Value) : Chg S u (w.setRow g c) :=
  ⟨h.os, h.tape, h.output, by simp; exact h.size, fun k hk hs => (setRow_other _ _ _ _ (by
    rcases hg with hg | hg
    · intro e; exact hs (by rw [e]; exact hg)
    · omega)).trans (h.block k hk hs)⟩
set_option maxHeartbeats 1000000 in
theorem cut_any (w : World) (c o cap n : Nat) (l : List Nat) (hlen : l.length ≤ 4096) (hn : n ≤ l.length) (hcs : c < w.heap.size)
    (hc : ∀ i, i < l.length → w.cell? ⟨c, o + i, none⟩ = some (.int .u8 (l.getD i 0 : Nat))) :
    Calls Try.prog 27 #[.slice (some ⟨c, o, none⟩) l.length cap, .int .i64 (n : Int)] w fun e w' => ∃ g, e = .returned (.slice (some ⟨g, 0, none⟩) n n) ∧ w.heap.size ≤ g ∧ Arr w' g 5 l ∧ Chg (fun _ => False) w w' := by
  have hmk := fun w : World => make_bytes w (l.length : Int) l.length rfl (by omega)
  have HC := hyd hc
  clear hc
  have hN : (n : Int) ≤ (l.length : Int) := by omega
  have hN0 : (0 : Int) ≤ (n : Int) := by omega
  have A1 : Arr (w.alloc (.cells (bcells (List.replicate l.length 0)) 5)) w.heap.size 5 (List.replicate l.length 0) := Arr.new _ _ _
  have hsz : (w.alloc (.cells (bcells (List.replicate l.length 0)) 5)).heap.size = w.heap.size + 1 := by simp
  have G1 : Chg (fun _ => False) w (w.alloc (.cells (bcells (List.replicate l.length 0)) 5)) := (Chg.refl _ _).alloc _
  have HC1 : ∀ j, j < l.length → (w.alloc (.cells (bcells (List.replicate l.length 0)) 5)).cell? ⟨c, o + j, none⟩ = some (.int .u8 (l.getD j 0 : Nat)) := fun j hj => by
    rw [World.cell?_alloc_past _ _ _ hcs]; exact HC.out j hj
  have HA := hyd A1
  have HG := hyd G1
  have HC1 := hyd HC1
  clear A1 G1 hsz
  go_enter Try.func27, Try.ntmps27
  go_wp2_with (refine wpList_copy_arr rfl (.tmp 9) (.tmp 10) rfl w.heap.size 0 l.length l.length c o l.length cap rfl rfl HA.out l (by simp) HC1.out (by simp) ?_)
  have A2 := HA.out.row (lay (List.replicate l.length 0) 0 l)
  rw [lay_all _ _ (by simp)] at A2 ⊢
  have G2 : Chg (fun _ => False) w ((w.alloc (.cells (bcells (List.replicate l.length 0)) 5)).setRow w.heap.size (bcells l)) := HG.out.setRow (Or.inr (Nat.le_refl _)) _
  go_ret
  exact ⟨_, rfl, Nat.le_refl _, A2, G2⟩

theorem pow_eq (k : Nat) : 2 ^ (8 * k) = 256 ^ k := by rw [Nat.pow_mul]
theorem wrap_u64_small (n : Nat) (h : n < 18446744073709551616) : IntKind.u64.wrap (n : Int) = n := by
  simp [IntKind.wrap, IntKind.bits, IntKind.signed]
  omega
theorem u64_toNat (a : Nat) (ha : a < 18446744073709551616) : (BitVec.ofInt 64 (a : Int)).toNat = a := by
  rw [BitVec.ofInt_natCast, BitVec.toNat_ofNat]; exact Nat.mod_eq_of_lt (by omega)
theorem u64_or_nat (a b : Nat) (ha : a < 18446744073709551616) (hb : b < 18446744073709551616) : bits .or .u64 (a : Int) (b : Int) = ((a ||| b : Nat) : Int) := by
  have hx : a ||| b < 2 ^ 64 := Nat.or_lt_two_pow (by omega) (by omega)
  show IntKind.u64.wrap ((BitVec.ofInt 64 (a : Int) ||| BitVec.ofInt 64 (b : Int)).toNat : Int) = _
  rw [BitVec.toNat_or, u64_toNat a ha, u64_toNat b hb]
  exact wrap_u64_small _ (by omega)
theorem or_step {l : List Nat} (hl : Bys l) (k : Nat) (hk : k < l.length) (h8 : l.length ≤ 8) :
    bits .or .u64 ((le (l.take k) : Nat) : Int) (IntKind.u64.wrap (((l.getD k 0 : Nat) : Int) * 2 ^ (8 * k))) = ((le (l.take (k + 1)) : Nat) : Int) := by
  have h1 := le_lt (bys_take hl k)
  rw [List.length_take, Nat.min_eq_left (by omega)] at h1
  have h2 := le_lt (bys_take hl (k + 1))
  rw [List.length_take, Nat.min_eq_left (by omega)] at h2
  have h3 : 256 ^ (k + 1) ≤ 256 ^ 8 := Nat.pow_le_pow_right (by decide) (by omega)
  have h4 : (256 : Nat) ^ 8 = 18446744073709551616 := by decide
  rw [le_take_succ l k hk] at h2 ⊢
  have h5 : 256 ^ k * l.getD k 0 < 18446744073709551616 := by omega
  have e1 : ((l.getD k 0 : Nat) : Int) * 2 ^ (8 * k) = ((256 ^ k * l.getD k 0 : Nat) : Int) := by
    rw [← pow_eq]; push_cast; exact Int.mul_comm _ _
  rw [e1, wrap_u64_small _ h5, u64_or_nat _ _ (by omega) h5, ← pow_eq]
  rw [← pow_eq] at h1
  rw [Nat.or_comm, ← Nat.two_pow_add_eq_or_of_lt h1, Nat.add_comm]

set_option maxHeartbeats 1000000 in
theorem get_any (w : World) (a : Option Addr) (cap : Nat) (l : List Nat) (hl : Bys l) (h1 : 1 ≤ l.length) (h8 : l.length ≤ 8) (hr : Held w (.slice a l.length cap) l) :
    Calls Try.prog 26 #[.slice a l.length cap] w fun e w' => e = .returned (.tuple #[.int .u64 (le l : Nat), .nilIface]) ∧ Chg (fun _ => False) w w' := by
  obtain ⟨a', c', hv, hr⟩ := hr
  simp only [Value.slice.injEq] at hv
  obtain ⟨rfl, -, -⟩ := hv
  obtain ⟨g, o, rfl, hg, hc⟩ := hr.resolve_left (by omega)
  have HC := hyd hc
  clear hc hr
  go_enter Try.func26, Try.ntmps26
  go_wp2_with fail
  go_loopw [4, 18] (fun v t wr => ∃ k : Nat, k ≤ l.length ∧ t = .int .i64 k ∧ v = .int .u64 (le (l.take k) : Nat) ∧ Chg (fun _ => False) w wr) (fun _ t _ => l.length - (intOf t).toNat)
  case atStart => exact ⟨0, Nat.zero_le _, rfl, rfl, Chg.refl _ _⟩
  case round =>
    obtain ⟨k, hk, rfl, rfl, hG⟩ := hrel
    by_cases hlt : k < l.length
    · have hlt' : (k : Int) < (l.length : Int) := by omega
      have hkb : (0 : Int) ≤ (k : Int) := by omega
      have k1 : wr.cell? ⟨g, o + k, none⟩ = some (.int .u8 (l.getD k 0 : Nat)) := (World.cell?_of_block (w := w) (a := ⟨g, o + k, none⟩) (hG.block g hg (fun e => e))).trans (HC.out k hlt)
      have d1 := hl.getD k
      have HV := hyd (or_step hl k hlt h8)
      generalize l.getD k 0 = xx at *
      go_wp2
      exact ⟨⟨k + 1, by omega, by go_num, by rw [HV.out], hG⟩, by simp [intOf]; omega⟩
    · have hlt' : ¬ (k : Int) < (l.length : Int) := by omega
      have HK : Hid (l.take k = l) := hyd (List.take_of_length_le (by omega))
      go_wp2
      go_ret2
      exact ⟨by rw [HK.out]; rfl, hG⟩

theorem get_arg (w : World) (a : Option Addr) (n cap : Nat) (h : n < 1 ∨ 8 < n) :
    Calls Try.prog 26 #[.slice a n cap] w fun e w' => e = .returned (.tuple #[.int .u64 0, .iface 44 (.int .i64 1)]) ∧ w' = w := by
  rcases h with h | h
  · have h' : (n : Int) < 1 := by omega
    go_enter Try.func26, Try.ntmps26
    go_wp2
    go_ret2
    exact ⟨rfl, rfl⟩
  · have h' : ¬ (n : Int) < 1 := by omega
    have h'' : (8 : Int) < (n : Int) := by omega
    go_enter Try.func26, Try.ntmps26
    go_wp2
    go_ret2
    exact ⟨rfl, rfl⟩

theorem Held.at_ {w : World} {a : Option Addr} {n cap : Nat} {l : List Nat} (h : Held w (.slice a n cap) l) (h0 : l.length ≠ 0) : ∃ g o, a = some ⟨g, o, none⟩ ∧ g < w.heap.size ∧ ∀ i, i < l.length → w.cell? ⟨g, o + i, none⟩ = some (.int .u8 (l.getD i 0 : Nat)) := by
  obtain ⟨a', c', hv, h⟩ := h
  simp only [Value.slice.injEq] at hv
  obtain ⟨rfl, -, -⟩ := hv
  exact h.resolve_left h0
theorem Held.cellC {w wr : World} {a : Option Addr} {n cap : Nat} {l : List Nat} (h : Held w (.slice a n cap) l) (hG : Chg (fun _ => False) w wr) (k : Nat) (hk : k < l.length) : ∃ g o, a = some ⟨g, o, none⟩ ∧ wr.cell? ⟨g, o + k, none⟩ = some (.int .u8 (l.getD k 0 : Nat)) := by
  obtain ⟨g, o, ha, hg, hc⟩ := h.at_ (by omega)
  exact ⟨g, o, ha, (World.cell?_of_block (w := w) (a := ⟨g, o + k, none⟩) (hG.block g hg (fun e => e))).trans (hc k hk)⟩

end Go.Proofs.Ytipeldekiloanaa
