/-
  tag's writer: a number laid behind what is laid, and the five fields, walked. Conditions: the writer's row has room.
-/
import Derived.Test.YtgipkdkhgdaeiaaTag
import Derived.Laws.OwnMore
namespace Go.Proofs.Ytgipkdkhgdaeiaa
open Go.RowKit
set_option maxRecDepth 100000

/-- 'append' within the room of a block of bytes. -/
theorem wpList_append_arr {w : World} {ops : Array Oper} {rest : List Oper} {o : Oper} {a : Act} {Q : Exit → Act → World → Prop} (hgd : o.guard = none) (s x : Operand)
    (ho : o.op = .call { callee := .builtin .append, args := #[s, x], argTypes := #[28, 28] }) (g k cap c oo m cc : Nat) (hs : a.eval s = .slice (some ⟨g, 0, none⟩) k cap) (hx : a.eval x = .slice (some ⟨c, oo, none⟩) m cc)
    {cur : List Nat} (hg : Arr w g 5 cur) (src : List Nat) (hn : src.length = m) (hsrc : ∀ j, j < src.length → w.cell? ⟨c, oo + j, none⟩ = some (.int .u8 (src.getD j 0 : Nat))) (hroom : k + m ≤ cap) (hfit : k + m ≤ cur.length)
    (h : wpList Try.prog ops Q rest (a.put o.dst (.slice (some ⟨g, 0, none⟩) (k + m) cap)) (w.setRow g (bcells (lay cur k src)))) : wpList Try.prog ops Q (o :: rest) a w := by
  obtain ⟨i, h1, _, h3, _⟩ := info5
  refine wpList_plain hgd fun K hK => ?_
  have hrun := run_append_room (P := Try.prog) w 28 o.type 5 i Try.underlying28 h1 g k cap (bcells cur) hg ⟨c, oo, none⟩ m cc (src.map fun (n : Nat) => Value.int .u8 (n : Int)) (by rw [h3]; simpa using hn) (src_cells hsrc) (one_cells src) hroom (by rw [h3, bcells_size]; simp; omega)
  rw [h3, Nat.mul_one, List.append_assoc, lay_row] at hrun
  unfold Oper.wp
  simp [execOp, ho, resolve, invoke, builtin, hs, hx, hrun, Result.andThen]
  exact hK _ _ h

/-- Block b holds a writer: a tag, and the slice of its row g, n bytes of which are laid. -/
def Wr (w : World) (b g n : Nat) (p o s c : Int) (l : Bool) : Prop :=
  w.heap[b]? = some (.cells #[.int .i64 p, .int .i64 o, .int .i64 s, .int .i64 c, .bool l, .slice (some ⟨g, 0, none⟩) n 50] 48)
theorem Wr.lt {w : World} {b g n : Nat} {p o s c : Int} {l : Bool} (h : Wr w b g n p o s c l) : b < w.heap.size := (Array.getElem?_eq_some_iff.1 (show w.heap[b]? = some _ from h)).1
theorem Wr.other {w w' : World} {b g n : Nat} {p o s c : Int} {l : Bool} (h : Wr w b g n p o s c l) (e : w'.heap[b]? = w.heap[b]?) : Wr w' b g n p o s c l := e.trans h
theorem Wr.chg {S : Nat → Prop} {w w' : World} {b g n : Nat} {p o s c : Int} {l : Bool} (h : Wr w b g n p o s c l) (hc : Chg S w w') (hb : ¬ S b) : Wr w' b g n p o s c l := (hc.block b h.lt hb).trans h
theorem Wr.cells {w : World} {b g n : Nat} {p o s c : Int} {l : Bool} (h : Wr w b g n p o s c l) : w.cell? ⟨b, 0, none⟩ = some (.int .i64 p) ∧ w.cell? ⟨b, 1, none⟩ = some (.int .i64 o) ∧ w.cell? ⟨b, 2, none⟩ = some (.int .i64 s) ∧ w.cell? ⟨b, 3, none⟩ = some (.int .i64 c) ∧ w.cell? ⟨b, 4, none⟩ = some (.bool l) ∧ w.cell? ⟨b, 5, none⟩ = some (.slice (some ⟨g, 0, none⟩) n 50) ∧ w.frozen? ⟨b, 5, none⟩ = false := by
  have h' : w.heap[b]? = some _ := h
  refine ⟨?_, ?_, ?_, ?_, ?_, ?_, ?_⟩ <;> simp [World.cell?, World.frozen?, h']
theorem Wr.store {w : World} {b g n : Nat} {p o s c : Int} {l : Bool} (h : Wr w b g n p o s c l) (m : Nat) : Wr (w.setCell ⟨b, 5, none⟩ (.slice (some ⟨g, 0, none⟩) m 50)) b g m p o s c l := by
  have h' : w.heap[b]? = some _ := h
  show (w.setCell ⟨b, 5, none⟩ _).heap[b]? = _
  simp [World.setCell, Array.getElem?_modify, h']

set_option maxHeartbeats 2000000 in
theorem lay_any (w : World) (b g n : Nat) (p o s c : Int) (l : Bool) (L : List Nat) (hW : Wr w b g n p o s c l) (hA : Arr w g 5 L) (hL : L.length = 50) (hbg : b ≠ g) (v z : Nat) (hv : v < 18446744073709551616) (hz1 : 1 ≤ z) (hz8 : z ≤ 8) (hr : v < 256 ^ z) (hn : n + z ≤ 50) :
    Calls Try.prog 29 #[.pointer (some ⟨b, 0, none⟩), .int .u64 (v : Int), .int .i64 (z : Int)] w fun e w' => e = .returned .nilIface ∧ Wr w' b g (n + z) p o s c l ∧ Arr w' g 5 (lay L n (bts v z)) ∧ Chg (fun k => k = b ∨ k = g) w w' := by
  have HW := hyd hW
  have HA := hyd hA
  have hcall := put_room w v z hv hz1 hz8 hr
  have HL := hyd hL
  clear hW hA hr hL
  go_enter Try.func29, Try.ntmps29
  go_wp2_with fail
  refine hcall.mono ?_
  rintro e w1 ⟨g1, rfl, hg1, A1, G1⟩
  clear hcall
  have W1 := HW.out.chg G1 (fun e => e)
  have B1 := HA.out.chg G1 (fun e => e)
  have hgl := HA.out.lt
  have hbl := HW.out.lt
  obtain ⟨-, -, -, -, -, k5, -⟩ := W1.cells
  have hsrc : Hid (∀ j, j < (bts v z).length → w1.cell? ⟨g1, 0 + j, none⟩ = some (.int .u8 ((bts v z).getD j 0 : Nat))) := hyd (fun j hj => by
    rw [bts_length] at hj
    rw [Nat.zero_add, A1.cell j (by rw [bts_length]; omega), bts_getD _ _ _ hj, bts_getD _ _ _ (by omega)])
  have HB1 := hyd B1
  have HW1 := hyd W1
  have W2 : Wr (w1.setRow g (bcells (lay L n (bts v z)))) b g n p o s c l := W1.other (setRow_other _ _ _ _ hbg)
  have A2 : Arr (w1.setRow g (bcells (lay L n (bts v z)))) g 5 (lay L n (bts v z)) := B1.row _
  have G2 : Chg (fun k => k = b ∨ k = g) w (w1.setRow g (bcells (lay L n (bts v z)))) := (G1.mono (fun _ _ f => f.elim)).setRow (Or.inl (Or.inr rfl)) _
  obtain ⟨-, -, -, -, -, j5, f5⟩ := W2.cells
  have HW2 := hyd W2
  have HA2 := hyd A2
  have HG2 := hyd G2
  clear W1 B1 A1 G1 W2 A2 G2
  go_wp2_with (at_builtin; refine wpList_append_arr rfl (.tmp 22) (.tmp 23) rfl g n 50 g1 0 z z rfl rfl HB1.out (bts v z) (bts_length v z) hsrc.out hn (by rw [HL.out]; exact hn) ?_)
  go_ret
  exact ⟨rfl, HW2.out.store _, HA2.out.setOther hbg _ _, HG2.out.setCell (Or.inl (Or.inl rfl)) _ _⟩
end Go.Proofs.Ytgipkdkhgdaeiaa
