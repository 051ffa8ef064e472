/-
  (*Codec).Encode. Condition: the block holds a Codec that New gave; the message's bytes can be read.
-/
import Derived.Test.YtfihhamjlcnpnaaRemain
namespace Go.Proofs.Ytfihhamjlcnpnaa
open Go.RowKit
set_option maxRecDepth 100000

theorem lay_enc {l r : List Nat} (hl : l.length = 58) (hr : r.length = 6) : lay (lay z64 0 l) 58 r = l ++ r := by
  have h1 : (lay z64 0 l).length = 64 := by rw [lay_length (by rw [hl, z64_length]; omega), z64_length]
  show (lay z64 0 l).take 58 ++ (r ++ (lay z64 0 l).drop (58 + r.length)) = l ++ r
  rw [hr, List.drop_eq_nil_of_le (by omega), List.append_nil]
  congr 1
  show ((z64.take 0) ++ (l ++ z64.drop (0 + l.length))).take 58 = l
  rw [List.take_zero, List.nil_append, List.take_append_of_le_length (by omega), List.take_of_length_le (by omega)]

set_option maxHeartbeats 4000000 in
theorem encode_any (q b : Nat) (w : World) (h : Cod w q b) (c o cap : Nat) (l : List Nat) (hl : l.length = 58) (hb : Bys l) (hcb : c ≠ b) (hcs : c < w.heap.size)
    (hcell : ∀ i, i < l.length → w.cell? ⟨c, o + i, none⟩ = some (.int .u8 (l.getD i 0 : Nat))) :
    Calls Try.prog 12 #[.pointer (some ⟨q, 0, none⟩), .slice (some ⟨c, o, none⟩) 58 cap] w fun e w' => ∃ g, e = .returned (.tuple #[.slice (some ⟨g, 0, none⟩) 64 64, .nilIface]) ∧ w.heap.size ≤ g ∧ Arr w' g 5 (encL l) ∧ Cod w' q b ∧ But b w w' := by
  have hz := zero53
  have hmk := make64
  have hne := h.ne
  have hq := h.lt
  have hbb := h.1.lt
  have HC := hyd hcell
  clear hcell
  have hrl := rem_length l 58
  go_enter Try.func12, Try.ntmps12
  go_wp2_with (first | (refine wpList_copy_one rfl (.tmp 13) (.tmp 14) rfl w.heap.size 0 64 64 c o 58 cap rfl rfl (Arr.new w 5 z64) l (by rw [hl]; rfl) (fun j hj => (((But.refl b w).alloc (.cells (bcells z64) 5)).cell hcs hcb _).trans (HC.out j hj)) (by rw [hl, z64_length]; omega) ?_; intro w2 hA2 hX2; have C2 : Cod w2 q b := (hX2.cod (by omega) (by omega) (h.alloc _)); have B2 : But b w w2 := (hX2.but (by omega) ((But.refl b w).alloc _)); clear hX2) | (go_at_call 30; refine (remainder_any q b _ C2 c o cap l hl hb hcb (Nat.lt_of_lt_of_le hcs B2.size) (fun i hi => (B2.cell hcs hcb _).trans (HC.out i hi))).mono ?_; rintro e w3 ⟨rfl, C3, B3⟩; have A3 : Arr w3 w.heap.size 5 (lay z64 0 l) := (hA2.but B3 (by omega)); have B13 : But b w w3 := (B2.trans B3); clear hA2 C2 B2 B3) | (refine wpList_store_one rfl 53 (.tmp 7) (.tmp 18) rfl _ _ rfl rfl (Arr.new w3 53 [0, 0, 0, 0, 0, 0]) size53 rfl hrl ?_; intro w4 hS4 hO4; have A4 : Arr w4 w.heap.size 5 (lay z64 0 l) := (hO4.arr (by have := A3.lt; omega) (A3.alloc _)); have C4 : Cod w4 q b := (hO4.cod (by have := C3.lt; omega) (by have := C3.1.lt; omega) (C3.alloc _)); have B4 : But b w w4 := (hO4.but B13.size (B13.alloc _)); have hlt3 : w.heap.size < w3.heap.size := A3.lt; clear hO4 A3 C3 B13))
  generalize w3.heap.size = g3 at *
  have h64 : (lay z64 0 l).length = 64 := by rw [lay_length (by rw [hl, z64_length]; omega), z64_length]
  have HL := hyd (lay_enc hl hrl)
  have H64 := hyd h64
  clear h64
  go_region_law (refine step_copy_one rfl (.tmp 20) (.tmp 21) rfl w.heap.size 58 6 6 g3 0 6 6 rfl rfl A4.drew (rem l 58) (by rw [hrl]; rfl) (fun j hj => by rw [Nat.zero_add]; exact hS4.drew.cell j hj) (by rw [hrl, H64.out]; omega) ?_; intro w5 hA5 hX5)
  rw [HL.out] at hA5
  have C5 : Cod w5 q b := hX5.cod (by omega) (by omega) C4.drew
  have B5 : But b w w5 := hX5.but (by omega) B4.drew
  clear hX5 A4 C4 B4 hS4
  go_wp2
  go_ret2
  exact ⟨w.heap.size, rfl, by omega, hA5, C5, B5⟩
end Go.Proofs.Ytfihhamjlcnpnaa
