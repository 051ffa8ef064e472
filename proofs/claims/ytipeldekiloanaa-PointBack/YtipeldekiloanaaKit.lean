/-
  Bytes that lie somewhere, their parts as numbers; bytes.Equal; an append within the room of a block. Conditions: the bytes can be read.
-/
import Derived.Test.YtipeldekiloanaaShow
import Derived.Laws.ByValue
import Derived.Laws.Build
import Derived.Laws.ResultCell
import Derived.Laws.StructEq
import Derived.Laws.OwnMore
import Derived.Laws.BytesArg
namespace Go.Proofs.Ytipeldekiloanaa
open Go.RowKit
set_option maxRecDepth 100000

theorem get_n (w : World) (a : Option Addr) (n cap : Nat) (l : List Nat) (hn : n = l.length) (hl : Bys l) (h1 : 1 ≤ l.length) (h8 : l.length ≤ 8) (hr : Held w (.slice a n cap) l) :
    Calls Try.prog 26 #[.slice a n cap] w fun e w' => e = .returned (.tuple #[.int .u64 (le l : Nat), .nilIface]) ∧ Chg (fun _ => False) w w' := by
  subst hn
  exact get_any w a cap l hl h1 h8 hr
/-- n bytes of l, from place a on. -/
def seg (l : List Nat) (a n : Nat) : List Nat := (l.drop a).take n
theorem seg_length {l : List Nat} {a n : Nat} (h : a + n ≤ l.length) : (seg l a n).length = n := by simp [seg]; omega
theorem seg_getD {l : List Nat} {a n i : Nat} (h : i < n) : (seg l a n).getD i 0 = l.getD (a + i) 0 := by
  simp [seg, List.getD_eq_getElem?_getD, List.getElem?_take_of_lt h]
theorem seg_bys {l : List Nat} (h : Bys l) (a n : Nat) : Bys (seg l a n) := bys_take (bys_drop h a) n
/-- A field: the number of its bytes. -/
def fld (l : List Nat) (a n : Nat) : Nat := le (seg l a n)
theorem fld_lt {l : List Nat} (h : Bys l) {a n : Nat} (hn : a + n ≤ l.length) : fld l a n < 256 ^ n := by
  have := le_lt (seg_bys h a n)
  rwa [seg_length hn] at this
/-- The bytes l lie at a slice's address. -/
def At (w : World) (c o : Nat) (l : List Nat) : Prop := c < w.heap.size ∧ ∀ i, i < l.length → w.cell? ⟨c, o + i, none⟩ = some (.int .u8 (l.getD i 0 : Nat))
theorem At.chg {S : Nat → Prop} {w w' : World} {c o : Nat} {l : List Nat} (h : At w c o l) (hc : Chg S w w') (hS : ¬ S c) : At w' c o l :=
  ⟨Nat.lt_of_lt_of_le h.1 hc.size, fun i hi => (hc.cell h.1 hS _).trans (h.2 i hi)⟩
theorem At.held {w : World} {c o : Nat} {l : List Nat} (h : At w c o l) (a n cap : Nat) (hn : a + n ≤ l.length) : Held w (.slice (some ⟨c, o + a, none⟩) n cap) (seg l a n) :=
  ⟨_, cap, by rw [seg_length hn], Or.inr ⟨c, o + a, rfl, h.1, fun i hi => by
    rw [seg_length hn] at hi
    rw [seg_getD hi, Nat.add_assoc]
    exact h.2 (a + i) (by omega)⟩⟩
theorem u8_inj {T U : List Nat} (hT : Bys T) (hU : Bys U) (h : T.map UInt8.ofNat = U.map UInt8.ofNat) : T = U := by
  have e : ∀ L : List Nat, Bys L → (L.map UInt8.ofNat).map UInt8.toNat = L := by
    intro L hL
    rw [List.map_map]
    conv => rhs; rw [← List.map_id L]
    apply List.map_congr_left
    intro n hn
    simp only [Function.comp, id]
    rw [UInt8.toNat_ofNat']
    exact Nat.mod_eq_of_lt (hL n hn)
  rw [← e T hT, h, e U hU]
theorem str_eq (T U : List Nat) (hT : Bys T) (hU : Bys U) : ((strOfNums (T.map fun (n : Nat) => (n : Int))).toList == (strOfNums (U.map fun (n : Nat) => (n : Int))).toList) = decide (T = U) := by
  rw [ByteArray.toList_eq, ByteArray.toList_eq, strOfNums_data, strOfNums_data, List.map_map, List.map_map]
  have e1 : ∀ T : List Nat, T.map ((fun (n : Int) => UInt8.ofNat n.toNat) ∘ fun (n : Nat) => (n : Int)) = T.map UInt8.ofNat := fun _ => rfl
  rw [e1, e1]
  by_cases h : T = U
  · rw [h]; simp
  · rw [decide_eq_false h, beq_eq_false_iff_ne]
    exact fun e => h (u8_inj hT hU e)
theorem At.ints {w : World} {c o : Nat} {l : List Nat} (h : At w c o l) {n : Nat} (hn : n = l.length) : ∀ i, i < n → w.cell? ⟨c, o + i, none⟩ = some (.int .u8 ((l.map fun (n : Nat) => (n : Int)).getD i 0)) := by
  intro i hi
  rw [h.2 i (by omega)]
  simp [List.getD_eq_getElem?_getD]
  cases e : l[i]? <;> simp
set_option maxHeartbeats 1000000 in
theorem equal_any (w : World) (c1 o1 n1 cap1 c2 o2 n2 cap2 : Nat) (l1 l2 : List Nat) (e1 : n1 = l1.length) (e2 : n2 = l2.length) (b1 : Bys l1) (b2 : Bys l2) (h1 : At w c1 o1 l1) (h2 : At w c2 o2 l2) :
    Calls Try.prog 18 #[.slice (some ⟨c1, o1, none⟩) n1 cap1, .slice (some ⟨c2, o2, none⟩) n2 cap2] w fun e w' => e = .returned (.bool (decide (l1 = l2))) ∧ w' = w := by
  have k1 := run_convert_bytes_arg (P := Try.prog) w 28 5 Try.underlying28 Try.underlying5 c1 o1 n1 cap1 (l1.map fun (n : Nat) => (n : Int)) (by simp [e1]) (h1.ints e1) 9 Try.underlying9
  have k2 := run_convert_bytes_arg (P := Try.prog) w 28 5 Try.underlying28 Try.underlying5 c2 o2 n2 cap2 (l2.map fun (n : Nat) => (n : Int)) (by simp [e2]) (h2.ints e2) 9 Try.underlying9
  have hq := str_eq l1 l2 b1 b2
  generalize l1.map (fun (n : Nat) => (n : Int)) = x1 at *
  generalize l2.map (fun (n : Nat) => (n : Int)) = x2 at *
  have HQ := hyd hq
  clear hq e1 e2 h1 h2
  go_enter Try.func18, Try.ntmps18
  go_wp2
  go_ret
  exact ⟨by rw [← HQ.out]; rfl, rfl⟩
theorem Arr.at_ {w : World} {g : Nat} {l : List Nat} (h : Arr w g 5 l) : At w g 0 l := ⟨h.lt, fun i hi => by rw [Nat.zero_add]; exact h.cell i hi⟩
/-- 'append' within the room of a block of bytes. -/
theorem wpList_append_arr {w : World} {ops : Array Oper} {rest : List Oper} {o : Oper} {a : Act} {Q : Exit → Act → World → Prop} (hgd : o.guard = none) (s x : Operand)
    (ho : o.op = .call { callee := .builtin .append, args := #[s, x], argTypes := #[28, 28] }) (g k cap c oo m cc : Nat) (hs : a.eval s = .slice (some ⟨g, 0, none⟩) k cap) (hx : a.eval x = .slice (some ⟨c, oo, none⟩) m cc)
    {cur : List Nat} (hg : Arr w g 5 cur) (src : List Nat) (hn : src.length = m) (hsrc : ∀ j, j < src.length → w.cell? ⟨c, oo + j, none⟩ = some (.int .u8 (src.getD j 0 : Nat))) (hroom : k + m ≤ cap) (hfit : k + m ≤ cur.length)
    (h : wpList Try.prog ops Q rest (a.put o.dst (.slice (some ⟨g, 0, none⟩) (k + m) cap)) (w.setRow g (bcells (lay cur k src)))) : wpList Try.prog ops Q (o :: rest) a w := by
  obtain ⟨i, h1, _, h3, _⟩ := info5
  refine wpList_plain hgd fun K hK => ?_
  have hrun := run_append_room (P := Try.prog) w 28 o.type 5 i Try.underlying28 h1 g k cap (bcells cur) hg ⟨c, oo, none⟩ m cc (src.map fun (n : Nat) => Value.int .u8 (n : Int)) (by rw [h3]; simpa using hn) (src_cells hsrc) (one_cells src) hroom (by rw [h3, bcells_size]; simp; omega)
  rw [h3, Nat.mul_one, List.append_assoc, lay_row] at hrun
  unfold Oper.wp
  simp [execOp, ho, resolve, invoke, builtin, hs, hx, hrun, Result.andThen]
  exact hK _ _ h

end Go.Proofs.Ytipeldekiloanaa
