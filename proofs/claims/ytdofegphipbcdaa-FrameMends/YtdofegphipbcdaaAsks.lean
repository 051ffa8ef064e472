/-
  (*Codec).Syndromes and (*Codec).Decode. Condition: the block holds a Codec that New gave; the bytes can be read.
-/
import Derived.Test.YtdofegphipbcdaaNearest
namespace Go.Proofs.Ytdofegphipbcdaa
open Go.RowKit
set_option maxRecDepth 100000

def z58 : List Nat := List.replicate 58 0
theorem z58_length : z58.length = 58 := by simp [z58]
theorem make58 (w : World) : (Instr.makeSlice 22 (.int .i64 58) (.int .i64 58)).run Try.prog w = .ok (.slice (some ⟨w.heap.size, 0, none⟩) 58 58) (w.alloc (.cells (bcells z58) 5)) := make_bytes w 58 58 rfl (by omega)
theorem make64 (w : World) : (Instr.makeSlice 22 (.int .i64 64) (.int .i64 64)).run Try.prog w = .ok (.slice (some ⟨w.heap.size, 0, none⟩) 64 64) (w.alloc (.cells (bcells z64) 5)) := make_bytes w 64 64 rfl (by omega)
def z6 : List Nat := List.replicate 6 0
theorem z6_length : z6.length = 6 := by simp [z6]
theorem make6 (w : World) : (Instr.makeSlice 22 (.int .i64 6) (.int .i64 6)).run Try.prog w = .ok (.slice (some ⟨w.heap.size, 0, none⟩) 6 6) (w.alloc (.cells (bcells z6) 5)) := make_bytes w 6 6 rfl (by omega)
theorem wpList_copy_one {w : World} {ops : Array Oper} {rest : List Oper} {o : Oper} {a : Act} {Q : Exit → Act → World → Prop} (hgd : o.guard = none) (d s : Operand)
    (ho : o.op = .call { callee := .builtin .copy, args := #[d, s], argTypes := #[22, 22] }) (g off dLen dCap c oo sLen sCap : Nat) (hd : a.eval d = .slice (some ⟨g, off, none⟩) dLen dCap) (hs : a.eval s = .slice (some ⟨c, oo, none⟩) sLen sCap)
    {t : TypeId} {cur : List Nat} (hg : Arr w g t cur) (src : List Nat) (hn : src.length = Nat.min sLen dLen) (hsrc : ∀ j, j < src.length → w.cell? ⟨c, oo + j, none⟩ = some (.int .u8 (src.getD j 0 : Nat))) (hfit : off + src.length ≤ cur.length)
    (h : ∀ w', Arr w' g t (lay cur off src) → One g w w' → wpList Try.prog ops Q rest (a.put o.dst (goInt src.length)) w') : wpList Try.prog ops Q (o :: rest) a w :=
  wpList_copy_arr hgd d s ho g off dLen dCap c oo sLen sCap hd hs hg src hn hsrc hfit (h _ (hg.row _) (One.row w g _))
theorem getD_take (l : List Nat) (n j : Nat) (h : j < n) : (l.take n).getD j 0 = l.getD j 0 := by
  simp [List.getD_eq_getElem?_getD, h]

theorem decode_arg (q : Nat) (w : World) (a : Option Addr) (n cap : Nat) (hn : n ≠ 64) :
    Calls Try.prog 34 #[.pointer (some ⟨q, 0, none⟩), .slice a n cap] w fun e w' => e = .returned (.tuple #[.slice none 0 0, .int .i64 0, .iface 36 (.int .i64 1)]) ∧ w' = w := by
  have hn' : ((n : Int) != 64) = true := by simp; omega
  go_enter Try.func34, Try.ntmps34
  go_wp2
  go_ret3
  exact ⟨rfl, rfl⟩
theorem encode_arg (q : Nat) (w : World) (a : Option Addr) (n cap : Nat) (hn : n ≠ 58) :
    Calls Try.prog 31 #[.pointer (some ⟨q, 0, none⟩), .slice a n cap] w fun e w' => e = .returned (.tuple #[.slice none 0 0, .iface 36 (.int .i64 1)]) ∧ w' = w := by
  have hn' : ((n : Int) != 58) = true := by simp; omega
  go_enter Try.func31, Try.ntmps31
  go_wp2
  go_ret2
  exact ⟨rfl, rfl⟩

/-- What Decode answers of the word l. -/
def DecAns (w w' : World) (l : List Nat) (e : Ending) : Prop :=
  (IsDec l none ∧ e = .returned (.tuple #[.slice none 0 0, .int .i64 0, .iface 36 (.int .i64 5)])) ∨
  (∃ (m : List Nat) (d g : Nat), IsDec l (some (m, d)) ∧ d ≤ 2 ∧ m.length = 58 ∧ Bys m ∧ e = .returned (.tuple #[.slice (some ⟨g, 0, none⟩) 58 58, .int .i64 d, .nilIface]) ∧ w.heap.size ≤ g ∧ Arr w' g 5 m)
theorem Bys.take {l : List Nat} (h : Bys l) (n : Nat) : Bys (l.take n) := fun x hx => h x (List.mem_of_mem_take hx)

set_option maxHeartbeats 4000000 in
theorem decode_any (q b : Nat) (w : World) (h : Cod w q b) (c o cap : Nat) (l : List Nat) (hl : l.length = 64) (hb : Bys l) (hcb : c ≠ b) (hcs : c < w.heap.size)
    (hcell : ∀ i, i < l.length → w.cell? ⟨c, o + i, none⟩ = some (.int .u8 (l.getD i 0 : Nat))) :
    Calls Try.prog 34 #[.pointer (some ⟨q, 0, none⟩), .slice (some ⟨c, o, none⟩) 64 cap] w fun e w' => DecAns w w' l e ∧ Cod w' q b ∧ But b w w' := by
  have hz := zero55'
  have hmk := make58
  have hne := h.ne
  have hq := h.lt
  have hbb := h.1.lt
  have HC := hyd hcell
  clear hcell
  go_enter Try.func34, Try.ntmps34
  go_wp2_with fail
  refine (nearest_any q b w h c o cap l hl hb hcb hcs HC.out).mono ?_
  rintro e w3 ⟨M, d, t, rfl, ⟨hMl, hMb, hd, hNr⟩, C3, B3⟩
  have HNr := hyd hNr
  clear hNr
  have hM58 : (M.take 58).length = 58 := by rw [List.length_take, hMl]; omega
  cases t with
  | false =>
    have HD : Hid (IsDec l none) := hyd (by
      rcases HNr.out with ⟨h1, _⟩ | ⟨_, h2⟩
      · cases h1
      · exact h2)
    go_wp2_with (first | (refine wpList_store_one rfl 74 (.tmp 7) (.tmp 19) rfl _ _ rfl rfl (Arr.new w3 74 z64) size55 z64_length hMl ?_; intro w4 hS4 hO4; have C4 : Cod w4 q b := (hO4.cod (by have := C3.lt; omega) (by have := C3.1.lt; omega) (C3.alloc _)); have B4 : But b w w4 := (hO4.but B3.size (B3.alloc _)); clear hO4))
    go_ret3
    exact ⟨Or.inl ⟨HD.out, rfl⟩, C4, B4⟩
  | true =>
    have HD : Hid (IsDec l (some (M.take 58, d))) := hyd (by
      rcases HNr.out with ⟨_, h1⟩ | ⟨h2, _⟩
      · exact h1
      · cases h2)
    go_wp2_with (first | (refine wpList_store_one rfl 74 (.tmp 7) (.tmp 19) rfl _ _ rfl rfl (Arr.new w3 74 z64) size55 z64_length hMl ?_; intro w4 hS4 hO4; have C4 : Cod w4 q b := (hO4.cod (by have := C3.lt; omega) (by have := C3.1.lt; omega) (C3.alloc _)); have B4 : But b w w4 := (hO4.but B3.size (B3.alloc _)); have HZ4 : Hid (w4.heap.size = w3.heap.size + 1) := (hyd (by rw [hO4.size]; simp)); clear hO4) | (refine wpList_copy_one rfl (.tmp 26) (.tmp 27) rfl w4.heap.size 0 58 58 w3.heap.size 0 64 64 rfl rfl (Arr.new w4 5 z58) (M.take 58) (by rw [hM58]; rfl) (fun j hj => by rw [Nat.zero_add, getD_take _ _ _ (by omega)]; exact (hS4.alloc _).cell j (by omega)) (by rw [hM58, z58_length]; omega) ?_; intro w5 hS5 hO5))
    go_ret3
    have hz4 := HZ4.out
    rw [lay_all z58 (M.take 58) (by rw [z58_length, hM58])] at hS5
    exact ⟨Or.inr ⟨M.take 58, d, w4.heap.size, HD.out, hd, hM58, hMb.take 58, rfl, B4.size, hS5⟩, hO5.cod (by have := C4.lt; omega) (by have := C4.1.lt; omega) (C4.alloc _), hO5.but B4.size (B4.alloc _)⟩
end Go.Proofs.Ytdofegphipbcdaa
