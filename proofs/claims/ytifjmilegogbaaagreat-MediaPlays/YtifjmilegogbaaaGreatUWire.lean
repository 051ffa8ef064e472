/-
  Numbers as bytes, the lowest first. No condition: lemmas on numbers and lists. wire's cut, Get and Apart, walked. Conditions: the bytes can be read. wire's Put, and the document's Put and Get. Conditions: none beside that the number is a uint64, and that the bytes can be read. The rows of the document's examples hold (patinalaw03.shown answers true). No condition.
-/
import Derived.Test.YtifjmilegogbaaaGreatUKnow
import Derived.Test.YtifjmilegogbaaaGreatUCod
import Derived.Test.YtifjmilegogbaaaGreatUSeal
import Derived.Test.YtifjmilegogbaaaGreatUApart
namespace Go.Proofs.YtifjmilegogbaaaGreat

/-- The number that some bytes are, the lowest first. -/
def le : List Nat → Nat
  | [] => 0
  | x :: r => x + 256 * le r
/-- The i-th byte of a number. -/
def byteAt (v i : Nat) : Nat := v / 256 ^ i % 256
/-- A number in n bytes. -/
def bts (v n : Nat) : List Nat := (List.range n).map (byteAt v)
theorem bts_length (v n : Nat) : (bts v n).length = n := by simp [bts]
theorem byteAt_lt (v i : Nat) : byteAt v i < 256 := Nat.mod_lt _ (by decide)
theorem bts_bys (v n : Nat) : Bys (bts v n) := by
  intro x hx
  simp only [bts, List.mem_map, List.mem_range] at hx
  obtain ⟨k, _, rfl⟩ := hx
  exact byteAt_lt v k
theorem bts_getD (v n i : Nat) (h : i < n) : (bts v n).getD i 0 = byteAt v i := by
  simp [bts, List.getD_eq_getElem?_getD, h]
theorem bts_succ (v n : Nat) : bts v (n + 1) = bts v n ++ [byteAt v n] := by simp [bts, List.range_succ]
theorem bts_take (v m n : Nat) (h : m ≤ n) : (bts v n).take m = bts v m := by
  simp [bts, ← List.map_take, List.take_range, Nat.min_eq_left h]
theorem bts_cons (v n : Nat) : bts v (n + 1) = v % 256 :: bts (v / 256) n := by
  simp only [bts, List.range_succ_eq_map, List.map_cons, List.map_map]
  congr 1
  · simp [byteAt]
  · apply List.map_congr_left
    intro i _
    simp only [Function.comp, byteAt, Nat.succ_eq_add_one]
    rw [Nat.pow_succ, Nat.mul_comm, Nat.div_div_eq_div_mul]
theorem le_bts (n : Nat) : ∀ v, le (bts v n) = v % 256 ^ n := by
  induction n with
  | zero => intro v; simp [bts, le, Nat.mod_one]
  | succ n ih =>
    intro v
    rw [bts_cons, le, ih, Nat.pow_succ, Nat.mul_comm (256 ^ n), Nat.mod_mul]
theorem le_lt {l : List Nat} (h : Bys l) : le l < 256 ^ l.length := by
  induction l with
  | nil => simp [le]
  | cons x r ih =>
    have h1 := ih (fun n hn => h n (List.mem_cons_of_mem _ hn))
    have h2 := h x List.mem_cons_self
    rw [le, List.length_cons, Nat.pow_succ]
    omega
theorem bts_le {l : List Nat} (h : Bys l) : bts (le l) l.length = l := by
  induction l with
  | nil => simp [bts]
  | cons x r ih =>
    have h2 := h x List.mem_cons_self
    rw [List.length_cons, bts_cons, le]
    have e1 : (x + 256 * le r) % 256 = x := by omega
    have e2 : (x + 256 * le r) / 256 = le r := by omega
    rw [e1, e2, ih (fun n hn => h n (List.mem_cons_of_mem _ hn))]
theorem le_append (l : List Nat) (x : Nat) : le (l ++ [x]) = le l + 256 ^ l.length * x := by
  induction l with
  | nil => simp [le]
  | cons y r ih =>
    rw [List.cons_append, le, ih, le, List.length_cons, Nat.pow_succ, Nat.mul_add]
    have : 256 * (256 ^ r.length * x) = 256 ^ r.length * 256 * x := by rw [← Nat.mul_assoc, Nat.mul_comm 256]
    omega
theorem le_take_succ (l : List Nat) (k : Nat) (h : k < l.length) : le (l.take (k + 1)) = le (l.take k) + 256 ^ k * l.getD k 0 := by
  rw [List.take_add_one, List.getElem?_eq_getElem h, Option.toList, le_append, List.length_take, Nat.min_eq_left (by omega), List.getD_eq_getElem?_getD, List.getElem?_eq_getElem h]; rfl
theorem le_drop (l : List Nat) (k : Nat) (h : k < l.length) : le (l.drop k) = 256 * le (l.drop (k + 1)) + l.getD k 0 := by
  rw [List.drop_eq_getElem_cons h, le, List.getD_eq_getElem?_getD, List.getElem?_eq_getElem h]
  show l[k] + _ = _ + l[k]
  omega
end Go.Proofs.YtifjmilegogbaaaGreat
namespace Go.Proofs.YtifjmilegogbaaaGreat
open Go.RowKit
set_option maxRecDepth 100000

theorem pow_eq (k : Nat) : 2 ^ (8 * k) = 256 ^ k := by rw [Nat.pow_mul]
theorem wrap_u64_small (n : Nat) (h : n < 18446744073709551616) : IntKind.u64.wrap (n : Int) = n := by
  simp [IntKind.wrap, IntKind.bits, IntKind.signed]
  omega
theorem u64_toNat (a : Nat) (ha : a < 18446744073709551616) : (BitVec.ofInt 64 (a : Int)).toNat = a := by
  rw [BitVec.ofInt_natCast, BitVec.toNat_ofNat]; exact Nat.mod_eq_of_lt (by omega)
theorem u64_or_nat (a b : Nat) (ha : a < 18446744073709551616) (hb : b < 18446744073709551616) : bits .or .u64 (a : Int) (b : Int) = ((a ||| b : Nat) : Int) := by
  have hx : a ||| b < 2 ^ 64 := Nat.or_lt_two_pow (by omega) (by omega)
  show IntKind.u64.wrap ((BitVec.ofInt 64 (a : Int) ||| BitVec.ofInt 64 (b : Int)).toNat : Int) = _
  rw [BitVec.toNat_or, u64_toNat a ha, u64_toNat b hb]
  exact wrap_u64_small _ (by omega)
theorem or_step {l : List Nat} (hl : Bys l) (k : Nat) (hk : k < l.length) (h8 : l.length ≤ 8) :
    bits .or .u64 ((le (l.take k) : Nat) : Int) (IntKind.u64.wrap (((l.getD k 0 : Nat) : Int) * 2 ^ (8 * k))) = ((le (l.take (k + 1)) : Nat) : Int) := by
  have h1 := le_lt (bys_take hl k)
  rw [List.length_take, Nat.min_eq_left (by omega)] at h1
  have h2 := le_lt (bys_take hl (k + 1))
  rw [List.length_take, Nat.min_eq_left (by omega)] at h2
  have h3 : 256 ^ (k + 1) ≤ 256 ^ 8 := Nat.pow_le_pow_right (by decide) (by omega)
  have h4 : (256 : Nat) ^ 8 = 18446744073709551616 := by decide
  rw [le_take_succ l k hk] at h2 ⊢
  have h5 : 256 ^ k * l.getD k 0 < 18446744073709551616 := by omega
  have e1 : ((l.getD k 0 : Nat) : Int) * 2 ^ (8 * k) = ((256 ^ k * l.getD k 0 : Nat) : Int) := by
    rw [← pow_eq]; push_cast; exact Int.mul_comm _ _
  rw [e1, wrap_u64_small _ h5, u64_or_nat _ _ (by omega) h5, ← pow_eq]
  rw [← pow_eq] at h1
  rw [Nat.or_comm, ← Nat.two_pow_add_eq_or_of_lt h1, Nat.add_comm]

set_option maxHeartbeats 1000000 in
theorem get_any (w : World) (a : Option Addr) (cap : Nat) (l : List Nat) (hl : Bys l) (h1 : 1 ≤ l.length) (h8 : l.length ≤ 8) (hr : Held w (.slice a l.length cap) l) :
    Calls Tryz.prog 144 #[.slice a l.length cap] w fun e w' => e = .returned (.tuple #[.int .u64 (le l : Nat), .nilIface]) ∧ Chg (fun _ => False) w w' := by
  obtain ⟨a', c', hv, hr⟩ := hr
  simp only [Value.slice.injEq] at hv
  obtain ⟨rfl, -, -⟩ := hv
  obtain ⟨g, o, rfl, hg, hc⟩ := hr.resolve_left (by omega)
  have HC := hyd hc
  clear hc hr
  go_enter Tryz.func144, Tryz.ntmps144
  go_wp2_with fail
  go_loopw [4, 18] (fun v t wr => ∃ k : Nat, k ≤ l.length ∧ t = .int .i64 k ∧ v = .int .u64 (le (l.take k) : Nat) ∧ Chg (fun _ => False) w wr) (fun _ t _ => l.length - (intOf t).toNat)
  case atStart => exact ⟨0, Nat.zero_le _, rfl, rfl, Chg.refl _ _⟩
  case round =>
    obtain ⟨k, hk, rfl, rfl, hG⟩ := hrel
    by_cases hlt : k < l.length
    · have hlt' : (k : Int) < (l.length : Int) := by omega
      have hkb : (0 : Int) ≤ (k : Int) := by omega
      have k1 : wr.cell? ⟨g, o + k, none⟩ = some (.int .u8 (l.getD k 0 : Nat)) := (World.cell?_of_block (w := w) (a := ⟨g, o + k, none⟩) (hG.block g hg (fun e => e))).trans (HC.out k hlt)
      have d1 := hl.getD k
      have HV := hyd (or_step hl k hlt h8)
      generalize l.getD k 0 = xx at *
      go_wp2
      exact ⟨⟨k + 1, by omega, by go_num, by rw [HV.out], hG⟩, by simp [intOf]; omega⟩
    · have hlt' : ¬ (k : Int) < (l.length : Int) := by omega
      have HK : Hid (l.take k = l) := hyd (List.take_of_length_le (by omega))
      go_wp2
      go_ret2
      exact ⟨by rw [HK.out]; rfl, hG⟩

theorem get_arg (w : World) (a : Option Addr) (n cap : Nat) (h : n < 1 ∨ 8 < n) :
    Calls Tryz.prog 144 #[.slice a n cap] w fun e w' => e = .returned (.tuple #[.int .u64 0, .iface 58 (.int .i64 1)]) ∧ w' = w := by
  rcases h with h | h
  · have h' : (n : Int) < 1 := by omega
    go_enter Tryz.func144, Tryz.ntmps144
    go_wp2
    go_ret2
    exact ⟨rfl, rfl⟩
  · have h' : ¬ (n : Int) < 1 := by omega
    have h'' : (8 : Int) < (n : Int) := by omega
    go_enter Tryz.func144, Tryz.ntmps144
    go_wp2
    go_ret2
    exact ⟨rfl, rfl⟩

theorem Held.at_ {w : World} {a : Option Addr} {n cap : Nat} {l : List Nat} (h : Held w (.slice a n cap) l) (h0 : l.length ≠ 0) : ∃ g o, a = some ⟨g, o, none⟩ ∧ g < w.heap.size ∧ ∀ i, i < l.length → w.cell? ⟨g, o + i, none⟩ = some (.int .u8 (l.getD i 0 : Nat)) := by
  obtain ⟨a', c', hv, h⟩ := h
  simp only [Value.slice.injEq] at hv
  obtain ⟨rfl, -, -⟩ := hv
  exact h.resolve_left h0
theorem Held.cellC {w wr : World} {a : Option Addr} {n cap : Nat} {l : List Nat} (h : Held w (.slice a n cap) l) (hG : Chg (fun _ => False) w wr) (k : Nat) (hk : k < l.length) : ∃ g o, a = some ⟨g, o, none⟩ ∧ wr.cell? ⟨g, o + k, none⟩ = some (.int .u8 (l.getD k 0 : Nat)) := by
  obtain ⟨g, o, ha, hg, hc⟩ := h.at_ (by omega)
  exact ⟨g, o, ha, (World.cell?_of_block (w := w) (a := ⟨g, o + k, none⟩) (hG.block g hg (fun e => e))).trans (hc k hk)⟩

end Go.Proofs.YtifjmilegogbaaaGreat
namespace Go.Proofs.YtifjmilegogbaaaGreat
open Go.RowKit
set_option maxRecDepth 100000

theorem zero49 (w : World) : (zeroValue 241).run Tryz.prog w = .ok (.agg (bcells (List.replicate 8 0))) w := by kernel_rfl

/-- The first k of eight bytes of a number are laid. -/
def bto (v k : Nat) : List Nat := (List.range 8).map fun i => if i < k then byteAt v i else 0
theorem bto_length (v k : Nat) : (bto v k).length = 8 := by simp [bto]
theorem bto_zero (v : Nat) : bto v 0 = List.replicate 8 0 := by simp [bto]; rfl
theorem bto_all (v : Nat) : bto v 8 = bts v 8 := by
  apply List.map_congr_left
  intro i hi
  rw [if_pos (List.mem_range.1 hi)]
theorem bto_set (v k : Nat) (_hk : k < 8) : (bto v k).set k (byteAt v k) = bto v (k + 1) := by
  apply List.ext_getElem?
  intro j
  by_cases h : k = j
  · subst h
    rw [List.getElem?_set_self (by rw [bto_length]; exact _hk)]
    simp [bto, _hk]
  · rw [List.getElem?_set_ne h]
    by_cases h5 : j < 8
    · simp only [bto, List.getElem?_map, List.getElem?_range h5, Option.map_some]
      congr 1
      by_cases h6 : j < k
      · rw [if_pos h6, if_pos (by omega)]
      · rw [if_neg h6, if_neg (by omega)]
    · rw [List.getElem?_eq_none (by simp [bto]; omega), List.getElem?_eq_none (by simp [bto]; omega)]
theorem shr_nat (v k : Nat) : ((v : Int) / 2 ^ (8 * k)) = ((v / 256 ^ k : Nat) : Int) := by rw [← pow_eq]; push_cast; rfl
theorem shr_byte (v k : Nat) : ((v : Int) / 2 ^ (8 * k)) % 256 = ((byteAt v k : Nat) : Int) := by rw [shr_nat]; unfold byteAt; push_cast; rfl

set_option maxHeartbeats 1000000 in
theorem put_room (w : World) (v n : Nat) (_hv : v < 18446744073709551616) (h1 : 1 ≤ n) (h8 : n ≤ 8) (hr : v < 256 ^ n) :
    Calls Tryz.prog 142 #[.int .u64 (v : Int), .int .i64 (n : Int)] w fun e w' => ∃ g, e = .returned (.tuple #[.slice (some ⟨g, 0, none⟩) n n, .nilIface]) ∧ w.heap.size ≤ g ∧ Arr w' g 5 (bts v 8) ∧ Chg (fun _ => False) w w' := by
  have hz := zero49
  have h1' : ¬ (n : Int) < 1 := by omega
  have h8' : ¬ (8 : Int) < (n : Int) := by omega
  have hsh : (0 : Int) ≤ 8 * (n : Int) := by omega
  have hb : ((v : Int) / 2 ^ (8 * n) != 0) = false := by rw [shr_nat, Nat.div_eq_of_lt hr]; rfl
  clear hr
  go_enter Tryz.func142, Tryz.ntmps142
  go_wp2_with fail
  clear hb hsh
  go_loopw [21] (fun t wr => ∃ k : Nat, k ≤ 8 ∧ t = .int .i64 k ∧ Arr wr w.heap.size 241 (bto v k) ∧ Chg (fun _ => False) w wr) (fun t _ => 8 - (intOf t).toNat)
  case atStart => exact ⟨0, Nat.zero_le _, rfl, by rw [bto_zero]; exact Arr.new _ _ _, (Chg.refl _ _).alloc _⟩
  case round =>
    obtain ⟨k, hk, rfl, hA, hG⟩ := hrel
    by_cases hlt : k < 8
    · have hlt' : (k : Int) < 8 := by omega
      have hkb : (0 : Int) ≤ (k : Int) := by omega
      have hsh : (0 : Int) ≤ 8 * (k : Int) := by omega
      have hx := hA.cell k (by rw [bto_length]; exact hlt)
      have hf := hA.frozen k
      have hA2 : Arr (wr.setCell ⟨w.heap.size, k, none⟩ (.int .u8 ((v : Int) / 2 ^ (8 * k) % 256))) w.heap.size 241 (bto v (k + 1)) := by
        rw [← bto_set v k hlt, shr_byte]; exact hA.store k _
      have HA2 := hyd hA2
      clear hA2 hA
      generalize (bto v k).getD k 0 = old at hx
      go_wp2
      exact ⟨⟨k + 1, by omega, by go_num, HA2.out, hG.setCell (Or.inr (Nat.le_refl _)) _ _⟩, by simp [intOf]; omega⟩
    · have hlt' : ¬ (k : Int) < 8 := by omega
      have e : k = 8 := by omega
      subst e
      rw [bto_all] at hA
      go_wp2_with fail
      refine (cut_any wr w.heap.size 0 8 n (bts v 8) (by rw [bts_length]; omega) (by rw [bts_length]; exact h8) hA.lt (fun i hi => by rw [Nat.zero_add]; exact hA.cell i hi)).mono ?_
      rintro e w' ⟨g, rfl, hg, hA', hG'⟩
      have hs := hG.size
      go_wp2
      go_ret2
      exact ⟨g, rfl, by omega, hA', hG.trans hG'⟩

set_option maxHeartbeats 1000000 in
theorem put_long (w : World) (v n : Nat) (_hv : v < 18446744073709551616) (h1 : 1 ≤ n) (h8 : n ≤ 8) (hr : ¬ v < 256 ^ n) :
    Calls Tryz.prog 142 #[.int .u64 (v : Int), .int .i64 (n : Int)] w fun e w' => e = .returned (.tuple #[.slice none 0 0, .iface 58 (.int .i64 2)]) ∧ w' = w := by
  have h1' : ¬ (n : Int) < 1 := by omega
  have h8' : ¬ (8 : Int) < (n : Int) := by omega
  have hsh : (0 : Int) ≤ 8 * (n : Int) := by omega
  have hb : ((v : Int) / 2 ^ (8 * n) != 0) = true := by
    rw [shr_nat, bne_iff_ne]
    have : 0 < v / 256 ^ n := Nat.div_pos (by omega) (Nat.pow_pos (by decide))
    omega
  clear hr
  go_enter Tryz.func142, Tryz.ntmps142
  go_wp2
  go_ret2
  exact ⟨rfl, rfl⟩
theorem put_arg (w : World) (v : Nat) (n : Int) (h : n < 1 ∨ 8 < n) :
    Calls Tryz.prog 142 #[.int .u64 (v : Int), .int .i64 n] w fun e w' => e = .returned (.tuple #[.slice none 0 0, .iface 58 (.int .i64 1)]) ∧ w' = w := by
  rcases h with h | h
  · go_enter Tryz.func142, Tryz.ntmps142
    go_wp2
    go_ret2
    exact ⟨rfl, rfl⟩
  · have h' : ¬ n < 1 := by omega
    go_enter Tryz.func142, Tryz.ntmps142
    go_wp2
    go_ret2
    exact ⟨rfl, rfl⟩

theorem byteAt_div (v k : Nat) : (((v / 256 ^ k : Nat) : Int) % 256) = ((byteAt v k : Nat) : Int) := by unfold byteAt; push_cast; rfl
theorem div_succ (v k : Nat) : (((v / 256 ^ k : Nat) : Int) / 256) = ((v / 256 ^ (k + 1) : Nat) : Int) := by
  rw [Nat.pow_succ, ← Nat.div_div_eq_div_mul]; push_cast; rfl

set_option maxHeartbeats 1000000 in
theorem rput_any (w : World) (v n : Nat) (hv : v < 18446744073709551616) (h8 : n ≤ 8) :
    Calls Tryz.prog 88 #[.int .u64 (v : Int), .int .i64 (n : Int)] w fun e w' => ∃ s, e = .returned (.tuple #[s, .bool (decide (v < 256 ^ n))]) ∧ Own w' w.heap.size 5 s (bts v n) ∧ Chg (fun _ => False) w w' := by
  have hi5 := info5
  go_enter Tryz.func88, Tryz.ntmps88
  go_wp2_with fail
  go_loopw [0, 6, 7] (fun x s t wr => ∃ k : Nat, k ≤ n ∧ t = .int .i64 k ∧ x = .int .u64 ((v / 256 ^ k : Nat) : Int) ∧ Own wr w.heap.size 5 s (bts v k) ∧ Chg (fun _ => False) w wr) (fun _ _ t _ => n - (intOf t).toNat)
  case atStart => exact ⟨0, Nat.zero_le _, rfl, by simp, Own.nil _ _ _, Chg.refl _ _⟩
  case round =>
    obtain ⟨k, hk, rfl, rfl, hO, hG⟩ := hrel
    have hws := hG.size
    by_cases hlt : k < n
    · have hlt' : (k : Int) < (n : Int) := by omega
      have hle : v / 256 ^ k < 18446744073709551616 := Nat.lt_of_le_of_lt (Nat.div_le_self _ _) hv
      have HB := hyd (byteAt_div v k)
      have HD := hyd (div_succ v k)
      have HO := hyd hO
      have HG := hyd hG
      clear hO hG
      generalize v / 256 ^ k = x at *
      go_wp2_with (at_builtin; refine wpList_append_bytes _ rfl _ _ 55 rfl w.heap.size 5 Tryz.underlying55 hi5 _ (bts v k) rfl ?h1 (some ⟨wr.heap.size, 0, none⟩) 1 1 [byteAt v k] rfl rfl (by simp) ?h2 ?h3 ?h4 (wr.heap.size + 1) ?h5 ?_)
      case h1 => exact HO.out.keep (fun k hk _ => Below.heap_alloc _ _ _ hk)
      case h2 =>
        intro ad had j hj
        have e := Option.some.inj had
        subst e
        have e : j = 0 := by omega
        subst e
        rw [Addr.add_lit]
        simp
        exact HB.out
      case h3 => rw [bts_length]; omega
      case h4 => simp; omega
      case h5 => simp
      intro v2 w2 hO2 hg2 _
      have hC2 : Chg (fun _ => False) w w2 := (HG.out.alloc _).grown hg2 (fun j hj => Or.inr ((HO.out.block hj).1))
      have HO2 := hyd hO2
      clear hO2 hg2
      go_wp2
      exact ⟨⟨k + 1, by omega, by go_num, by rw [HD.out], by rw [bts_succ]; exact HO2.out, hC2⟩, by simp [intOf]; omega⟩
    · have hlt' : ¬ (k : Int) < (n : Int) := by omega
      have e : k = n := by omega
      subst e
      have HB : Hid (((((v / 256 ^ k : Nat) : Int)) == 0) = decide (v < 256 ^ k)) := by
        by_cases h : v < 256 ^ k
        · have e : v / 256 ^ k = 0 := Nat.div_eq_of_lt h
          rw [e, decide_eq_true h]; rfl
        · have : 0 < v / 256 ^ k := Nat.div_pos (by omega) (Nat.pow_pos (by decide))
          rw [decide_eq_false h, beq_eq_false_iff_ne]; intro e; have := Int.ofNat.inj e; omega
      generalize v / 256 ^ k = x at *
      go_wp2
      go_ret2
      refine ⟨_, ?_, hO, hG⟩
      rw [← HB.out]; rfl
theorem get_step (l : List Nat) (hl : Bys l) (h8 : l.length ≤ 8) (k : Nat) (hk : k < l.length) : 256 * le (l.drop (k + 1)) + l.getD k 0 = le (l.drop k) ∧ le (l.drop k) < 18446744073709551616 := by
  refine ⟨(le_drop l k hk).symm, Nat.lt_of_lt_of_le (le_lt (bys_drop hl k)) ?_⟩
  rw [List.length_drop]
  exact Nat.pow_le_pow_right (by decide : 0 < 256) (by omega : l.length - k ≤ 8)
set_option maxHeartbeats 1000000 in
theorem rget_any (w : World) (a : Option Addr) (cap : Nat) (l : List Nat) (hl : Bys l) (h8 : l.length ≤ 8) (hr : Held w (.slice a l.length cap) l) :
    Calls Tryz.prog 124 #[.slice a l.length cap] w fun e w' => e = .returned (.int .u64 (le l : Nat)) ∧ Chg (fun _ => False) w w' := by
  have HR := hyd hr
  clear hr
  go_enter Tryz.func124, Tryz.ntmps124
  go_wp2_with fail
  go_loopw [3, 4] (fun v t wr => ∃ k : Nat, k ≤ l.length ∧ t = .int .i64 ((k : Int) - 1) ∧ v = .int .u64 (le (l.drop k) : Nat) ∧ Chg (fun _ => False) w wr) (fun _ t _ => (intOf t + 1).toNat)
  case atStart => exact ⟨l.length, Nat.le_refl _, rfl, by simp [le], Chg.refl _ _⟩
  case round =>
    obtain ⟨k, hk, rfl, rfl, hG⟩ := hrel
    by_cases h0 : k = 0
    · subst h0
      go_wp2
      go_ret
      exact ⟨rfl, hG⟩
    · obtain ⟨j, rfl⟩ : ∃ j, k = j + 1 := ⟨k - 1, by omega⟩
      obtain ⟨g, o, rfl, hx⟩ := HR.out.cellC hG j (by omega)
      obtain ⟨e1, e2⟩ := get_step l hl h8 j (by omega)
      have hj : (((j + 1 : Nat) : Int) - 1) = (j : Int) := by omega
      rw [hj]
      have hjl : (j : Int) < (l.length : Int) := by omega
      have hj0 : (0 : Int) ≤ (j : Int) := by omega
      have hge : ¬ (j : Int) < 0 := by omega
      have HV : Hid ((256 : Int) * ((le (l.drop (j + 1)) : Nat) : Int) + ((l.getD j 0 : Nat) : Int) = ((le (l.drop j) : Nat) : Int)) := hyd (by rw [← e1]; push_cast; rfl)
      have hb := hl.getD j
      have hb2 : (256 : Int) * ((le (l.drop (j + 1)) : Nat) : Int) + ((l.getD j 0 : Nat) : Int) < 18446744073709551616 := by omega
      clear hj e1 e2
      generalize le (l.drop (j + 1)) = x at *
      generalize l.getD j 0 = y at *
      go_wp2
      exact ⟨⟨j, by omega, by go_num, by rw [← HV.out], hG⟩, by simp [intOf]⟩
end Go.Proofs.YtifjmilegogbaaaGreat
namespace Go.Proofs.YtifjmilegogbaaaGreat
open Go.RowKit
set_option maxRecDepth 100000

theorem teql_arg_arg (w : World) : (binOp .eql 32 (.iface 58 (.int .i64 1)) (.iface 58 (.int .i64 1))).run Tryz.prog w = .ok (.bool true) w := by kernel_rfl
theorem teql_arg_long (w : World) : (binOp .eql 32 (.iface 58 (.int .i64 1)) (.iface 58 (.int .i64 2))).run Tryz.prog w = .ok (.bool false) w := by kernel_rfl
theorem teql_arg_mark (w : World) : (binOp .eql 32 (.iface 58 (.int .i64 1)) (.iface 58 (.int .i64 6))).run Tryz.prog w = .ok (.bool false) w := by kernel_rfl
theorem teql_arg_nil (w : World) : (binOp .eql 32 (.iface 58 (.int .i64 1)) .nilIface).run Tryz.prog w = .ok (.bool false) w := by kernel_rfl
theorem teql_long_arg (w : World) : (binOp .eql 32 (.iface 58 (.int .i64 2)) (.iface 58 (.int .i64 1))).run Tryz.prog w = .ok (.bool false) w := by kernel_rfl
theorem teql_long_long (w : World) : (binOp .eql 32 (.iface 58 (.int .i64 2)) (.iface 58 (.int .i64 2))).run Tryz.prog w = .ok (.bool true) w := by kernel_rfl
theorem teql_long_mark (w : World) : (binOp .eql 32 (.iface 58 (.int .i64 2)) (.iface 58 (.int .i64 6))).run Tryz.prog w = .ok (.bool false) w := by kernel_rfl
theorem teql_long_nil (w : World) : (binOp .eql 32 (.iface 58 (.int .i64 2)) .nilIface).run Tryz.prog w = .ok (.bool false) w := by kernel_rfl
theorem teql_mark_arg (w : World) : (binOp .eql 32 (.iface 58 (.int .i64 6)) (.iface 58 (.int .i64 1))).run Tryz.prog w = .ok (.bool false) w := by kernel_rfl
theorem teql_mark_long (w : World) : (binOp .eql 32 (.iface 58 (.int .i64 6)) (.iface 58 (.int .i64 2))).run Tryz.prog w = .ok (.bool false) w := by kernel_rfl
theorem teql_mark_mark (w : World) : (binOp .eql 32 (.iface 58 (.int .i64 6)) (.iface 58 (.int .i64 6))).run Tryz.prog w = .ok (.bool true) w := by kernel_rfl
theorem teql_mark_nil (w : World) : (binOp .eql 32 (.iface 58 (.int .i64 6)) .nilIface).run Tryz.prog w = .ok (.bool false) w := by kernel_rfl
theorem teql_nil_arg (w : World) : (binOp .eql 32 .nilIface (.iface 58 (.int .i64 1))).run Tryz.prog w = .ok (.bool false) w := by kernel_rfl
theorem teql_nil_long (w : World) : (binOp .eql 32 .nilIface (.iface 58 (.int .i64 2))).run Tryz.prog w = .ok (.bool false) w := by kernel_rfl
theorem teql_nil_mark (w : World) : (binOp .eql 32 .nilIface (.iface 58 (.int .i64 6))).run Tryz.prog w = .ok (.bool false) w := by kernel_rfl
theorem teql_nil_nil (w : World) : (binOp .eql 32 .nilIface .nilIface).run Tryz.prog w = .ok (.bool true) w := by kernel_rfl
theorem tneq_arg_arg (w : World) : (binOp .neq 32 (.iface 58 (.int .i64 1)) (.iface 58 (.int .i64 1))).run Tryz.prog w = .ok (.bool false) w := by kernel_rfl
theorem tneq_arg_long (w : World) : (binOp .neq 32 (.iface 58 (.int .i64 1)) (.iface 58 (.int .i64 2))).run Tryz.prog w = .ok (.bool true) w := by kernel_rfl
theorem tneq_arg_mark (w : World) : (binOp .neq 32 (.iface 58 (.int .i64 1)) (.iface 58 (.int .i64 6))).run Tryz.prog w = .ok (.bool true) w := by kernel_rfl
theorem tneq_arg_nil (w : World) : (binOp .neq 32 (.iface 58 (.int .i64 1)) .nilIface).run Tryz.prog w = .ok (.bool true) w := by kernel_rfl
theorem tneq_long_arg (w : World) : (binOp .neq 32 (.iface 58 (.int .i64 2)) (.iface 58 (.int .i64 1))).run Tryz.prog w = .ok (.bool true) w := by kernel_rfl
theorem tneq_long_long (w : World) : (binOp .neq 32 (.iface 58 (.int .i64 2)) (.iface 58 (.int .i64 2))).run Tryz.prog w = .ok (.bool false) w := by kernel_rfl
theorem tneq_long_mark (w : World) : (binOp .neq 32 (.iface 58 (.int .i64 2)) (.iface 58 (.int .i64 6))).run Tryz.prog w = .ok (.bool true) w := by kernel_rfl
theorem tneq_long_nil (w : World) : (binOp .neq 32 (.iface 58 (.int .i64 2)) .nilIface).run Tryz.prog w = .ok (.bool true) w := by kernel_rfl
theorem tneq_mark_arg (w : World) : (binOp .neq 32 (.iface 58 (.int .i64 6)) (.iface 58 (.int .i64 1))).run Tryz.prog w = .ok (.bool true) w := by kernel_rfl
theorem tneq_mark_long (w : World) : (binOp .neq 32 (.iface 58 (.int .i64 6)) (.iface 58 (.int .i64 2))).run Tryz.prog w = .ok (.bool true) w := by kernel_rfl
theorem tneq_mark_mark (w : World) : (binOp .neq 32 (.iface 58 (.int .i64 6)) (.iface 58 (.int .i64 6))).run Tryz.prog w = .ok (.bool false) w := by kernel_rfl
theorem tneq_mark_nil (w : World) : (binOp .neq 32 (.iface 58 (.int .i64 6)) .nilIface).run Tryz.prog w = .ok (.bool true) w := by kernel_rfl
theorem tneq_nil_arg (w : World) : (binOp .neq 32 .nilIface (.iface 58 (.int .i64 1))).run Tryz.prog w = .ok (.bool true) w := by kernel_rfl
theorem tneq_nil_long (w : World) : (binOp .neq 32 .nilIface (.iface 58 (.int .i64 2))).run Tryz.prog w = .ok (.bool true) w := by kernel_rfl
theorem tneq_nil_mark (w : World) : (binOp .neq 32 .nilIface (.iface 58 (.int .i64 6))).run Tryz.prog w = .ok (.bool true) w := by kernel_rfl
theorem tneq_nil_nil (w : World) : (binOp .neq 32 .nilIface .nilIface).run Tryz.prog w = .ok (.bool false) w := by kernel_rfl

theorem Arr.heldAll {w : World} {g : Nat} {t : TypeId} {l : List Nat} (h : Arr w g t l) (n cap : Nat) (hn : n ≤ l.length) : Held w (.slice (some ⟨g, 0, none⟩) n cap) (l.take n) :=
  h.held 0 n cap (l.take n) (by rw [List.length_take]; omega) (by rw [List.length_take]; omega) (fun i hi => by
    rw [List.length_take] at hi
    rw [Nat.zero_add, List.getD_eq_getElem?_getD, List.getD_eq_getElem?_getD, List.getElem?_take_of_lt (by omega)])
theorem Arr.heldFull {w : World} {g : Nat} {t : TypeId} {l : List Nat} (h : Arr w g t l) (n cap : Nat) (hn : n = l.length) : Held w (.slice (some ⟨g, 0, none⟩) n cap) l := by
  have := h.heldAll n cap (by omega)
  rwa [List.take_of_length_le (by omega)] at this
theorem bys3 {a b c : Nat} (h1 : a < 256) (h2 : b < 256) (h3 : c < 256) : Bys [a, b, c] := by
  intro n hn
  simp at hn
  omega
end Go.Proofs.YtifjmilegogbaaaGreat

