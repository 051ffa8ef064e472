/-
  wire's Mark, Seal and Open, and the document's. Condition: the bytes can be read.
-/
import Derived.Test.YtjnmfgaaafnpaaaCut
import Derived.Laws.BytesArg
import Derived.Lib.BufferWrite
import Derived.Lib.SlBytesConst
namespace Go.Proofs.Ytjnmfgaaafnpaaa
open Go.RowKit
set_option maxRecDepth 100000

/-- The mark. -/
def mk : List Nat := [112, 97, 116, 105, 110, 97, 48, 49]
theorem mk_bys : Bys mk := by intro n hn; simp [mk] at hn; omega
theorem mk_length : mk.length = 8 := rfl
/-- The mark as a text. -/
def mks : ByteArray := ⟨#[112, 97, 116, 105, 110, 97, 48, 49]⟩
theorem mk_cells : (#[Value.int .u8 112, .int .u8 97, .int .u8 116, .int .u8 105, .int .u8 110, .int .u8 97, .int .u8 48, .int .u8 49] : Array Value) = bcells mk := rfl

set_option maxHeartbeats 1000000 in
theorem mark_any (w : World) :
    Calls Try.prog 14 #[] w fun e w' => ∃ g, e = .returned (.slice (some ⟨g, 0, none⟩) 8 8) ∧ w.heap.size ≤ g ∧ MArr w' g mk ∧ Chg (fun _ => False) w w' := by
  have kc := fun (w : World) (C : Array Value) => Lib.run_convert_bytes_const (P := Try.prog) w 24 5 C 8 8 Try.underlying24 Try.underlying5
  go_enter Try.func14, Try.ntmps14
  go_wp2
  rw [mk_cells]
  go_ret
  exact ⟨_, rfl, Nat.le_refl _, MArr.new _ _, (Chg.refl _ _).alloc _⟩
set_option maxHeartbeats 1000000 in
theorem rmark_any (w : World) :
    Calls Try.prog 15 #[] w fun e w' => ∃ g, e = .returned (.slice (some ⟨g, 0, none⟩) 8 8) ∧ w.heap.size ≤ g ∧ Arr w' g 5 mk ∧ Chg (fun _ => False) w w' := by
  go_enter Try.func15, Try.ntmps15
  go_wp2
  rw [mk_cells]
  go_ret
  exact ⟨_, rfl, Nat.le_refl _, Arr.new _ _ _, (Chg.refl _ _).alloc _⟩

theorem mks_row (cur : List Nat) (off : Nat) :
    ((bcells cur).toList.take off ++ Lib.byteCells mks.data.toList ++ (bcells cur).toList.drop (off + mks.size)).toArray = bcells (lay cur off mk) := by
  have e : Lib.byteCells mks.data.toList = mk.map fun (n : Nat) => Value.int .u8 (n : Int) := rfl
  have e2 : mks.size = mk.length := rfl
  rw [e, e2]
  simp [bcells, lay, List.map_take, List.map_drop]
theorem wpList_copy_mark {w : World} {ops : Array Oper} {rest : List Oper} {o : Oper} {a : Act} {Q : Exit → Act → World → Prop} (hgd : o.guard = none) (d s : Operand)
    (ho : o.op = .call { callee := .builtin .copy, args := #[d, s], argTypes := #[24, 9] }) (g off dLen dCap : Nat) (hd : a.eval d = .slice (some ⟨g, off, none⟩) dLen dCap) (hs : a.eval s = .string mks)
    {t : TypeId} {cur : List Nat} (hg : Arr w g t cur) (hl : 8 ≤ dLen) (hfit : off + 8 ≤ cur.length)
    (h : wpList Try.prog ops Q rest (a.put o.dst (goInt 8)) (w.setRow g (bcells (lay cur off mk)))) : wpList Try.prog ops Q (o :: rest) a w := by
  refine wpList_plain hgd fun K hK => ?_
  have hrun := Lib.run_copy_row_string (P := Try.prog) w 24 9 o.type 5 g off dLen dCap mks (bcells cur) t Try.underlying24 size5 hg hl (by rw [bcells_size]; exact hfit)
  rw [mks_row] at hrun
  unfold Oper.wp
  simp [execOp, ho, resolve, invoke, builtin, hd, hs, hrun, Result.andThen]
  exact hK _ _ h

def z58 : List Nat := List.replicate 58 0
theorem make58 (w : World) : (Instr.makeSlice 24 (.int .i64 58) (.int .i64 58)).run Try.prog w = .ok (.slice (some ⟨w.heap.size, 0, none⟩) 58 58) (w.alloc (.cells (bcells z58) 5)) := make_bytes w 58 58 rfl (by decide)
theorem lay_seal {l : List Nat} (h : l.length = 50) : lay (lay z58 0 l) 50 mk = l ++ mk := by
  have e : lay z58 0 l = l ++ List.replicate 8 0 := by simp [lay, z58, h]
  rw [e]
  simp only [lay, mk_length]
  rw [List.take_append_of_le_length (by omega), List.take_of_length_le (by omega), List.drop_eq_nil_of_le (by simp [h])]
  simp

set_option maxHeartbeats 1000000 in
theorem seal_any (w : World) (c o cap : Nat) (l : List Nat) (hl : l.length = 50) (hcs : c < w.heap.size) (hc : ∀ i, i < l.length → w.cell? ⟨c, o + i, none⟩ = some (.int .u8 (l.getD i 0 : Nat))) :
    Calls Try.prog 17 #[.slice (some ⟨c, o, none⟩) 50 cap] w fun e w' => ∃ g, e = .returned (.tuple #[.slice (some ⟨g, 0, none⟩) 58 58, .nilIface]) ∧ w.heap.size ≤ g ∧ Arr w' g 5 (l ++ mk) ∧ Chg (fun _ => False) w w' := by
  have hmk := make58
  have HC1 : ∀ j, j < l.length → (w.alloc (.cells (bcells z58) 5)).cell? ⟨c, o + j, none⟩ = some (.int .u8 (l.getD j 0 : Nat)) := fun j hj => by
    rw [World.cell?_alloc_past _ _ _ hcs]; exact hc j hj
  have HA := hyd (Arr.new w 5 z58)
  have HB := hyd ((Arr.new w 5 z58).row (lay z58 0 l))
  have HG := hyd ((Chg.refl (fun _ => False) w).alloc (.cells (bcells z58) 5))
  have HC1 := hyd HC1
  have HL := hyd hl
  have hz : (lay z58 0 l).length = 58 := by rw [lay_length (by simp [z58, hl])]; rfl
  have HZ := hyd hz
  clear hc hl hz
  go_enter Try.func17, Try.ntmps17
  go_wp2_with (first
    | (refine wpList_copy_arr rfl (.tmp 10) (.tmp 11) rfl w.heap.size 0 58 58 c o 50 cap rfl rfl HA.out l HL.out HC1.out (by rw [HL.out]; decide) ?_)
    | (refine wpList_copy_mark rfl (.tmp 14) _ rfl w.heap.size 50 8 8 rfl rfl HB.out (by decide) (by rw [HZ.out]; decide) ?_))
  have A2 := HB.out.row (lay (lay z58 0 l) 50 mk)
  rw [lay_seal HL.out] at A2 ⊢
  have G2 := (HG.out.setRow (Or.inr (Nat.le_refl _)) (bcells (lay z58 0 l))).setRow (Or.inr (Nat.le_refl _)) (bcells (l ++ mk))
  go_ret2
  exact ⟨_, rfl, Nat.le_refl _, A2, G2⟩
theorem seal_arg (w : World) (a : Option Addr) (n cap : Nat) (h : n ≠ 50) :
    Calls Try.prog 17 #[.slice a n cap] w fun e w' => e = .returned (.tuple #[.slice none 0 0, .iface 29 (.int .i64 1)]) ∧ w' = w := by
  have h' : ((n : Int) != 50) = true := by simp only [bne_iff_ne, ne_eq]; omega
  clear h
  go_enter Try.func17, Try.ntmps17
  go_wp2
  go_ret2
  exact ⟨rfl, rfl⟩
theorem open_arg (w : World) (a : Option Addr) (n cap : Nat) (h : n ≠ 58) :
    Calls Try.prog 19 #[.slice a n cap] w fun e w' => e = .returned (.tuple #[.slice none 0 0, .iface 29 (.int .i64 1)]) ∧ w' = w := by
  have h' : ((n : Int) != 58) = true := by simp only [bne_iff_ne, ne_eq]; omega
  clear h
  go_enter Try.func19, Try.ntmps19
  go_wp2
  go_ret2
  exact ⟨rfl, rfl⟩

theorem u8_inj {T U : List Nat} (hT : Bys T) (hU : Bys U) (h : T.map UInt8.ofNat = U.map UInt8.ofNat) : T = U := by
  have e : ∀ L : List Nat, Bys L → (L.map UInt8.ofNat).map UInt8.toNat = L := by
    intro L hL
    rw [List.map_map]
    conv => rhs; rw [← List.map_id L]
    apply List.map_congr_left
    intro n hn
    simp only [Function.comp, id]
    rw [UInt8.toNat_ofNat']
    exact Nat.mod_eq_of_lt (hL n hn)
  rw [← e T hT, h, e U hU]
theorem mk_eq (T : List Nat) (hT : Bys T) : ((strOfNums (T.map fun (n : Nat) => (n : Int))).toList == [112, 97, 116, 105, 110, 97, 48, 49]) = decide (T = mk) := by
  rw [ByteArray.toList_eq, strOfNums_data, List.map_map]
  have e1 : T.map ((fun (n : Int) => UInt8.ofNat n.toNat) ∘ fun (n : Nat) => (n : Int)) = T.map UInt8.ofNat := rfl
  have e2 : ([112, 97, 116, 105, 110, 97, 48, 49] : List UInt8) = mk.map UInt8.ofNat := rfl
  rw [e1, e2]
  by_cases h : T = mk
  · rw [h]; simp
  · rw [decide_eq_false h, beq_eq_false_iff_ne]
    exact fun e => h (u8_inj hT mk_bys e)
theorem tail_int {w : World} {c o : Nat} {l : List Nat} (hl : l.length = 58) (hc : ∀ i, i < l.length → w.cell? ⟨c, o + i, none⟩ = some (.int .u8 (l.getD i 0 : Nat))) :
    ∀ i, i < 8 → w.cell? ⟨c, (o + 50) + i, none⟩ = some (.int .u8 (((l.drop 50).map fun (n : Nat) => (n : Int)).getD i 0)) := by
  intro i hi
  rw [Nat.add_assoc, hc (50 + i) (by omega)]
  simp [List.getD_eq_getElem?_getD, List.getElem?_drop]
  cases e : l[50 + i]? <;> simp

set_option maxHeartbeats 1000000 in
theorem open_mark (w : World) (c o cap : Nat) (hcap : 58 ≤ cap) (l : List Nat) (hl : l.length = 58) (hb : Bys l) (hcs : c < w.heap.size) (hc : ∀ i, i < l.length → w.cell? ⟨c, o + i, none⟩ = some (.int .u8 (l.getD i 0 : Nat))) (hm : l.drop 50 = mk) :
    Calls Try.prog 19 #[.slice (some ⟨c, o, none⟩) 58 cap] w fun e w' => ∃ g, e = .returned (.tuple #[.slice (some ⟨g, 0, none⟩) 50 50, .nilIface]) ∧ w.heap.size ≤ g ∧ Arr w' g 5 l ∧ Chg (fun _ => False) w w' := by
  have kc := run_convert_bytes_arg (P := Try.prog) w 24 5 Try.underlying24 Try.underlying5 c (o + 50) 8 (cap - 50) ((l.drop 50).map fun (n : Nat) => (n : Int)) (by simp [hl]) (tail_int hl hc) 9 Try.underlying9
  have hq := mk_eq _ (bys_drop hb 50)
  rw [decide_eq_true hm] at hq
  have HL := hyd hl
  have HC := hyd hc
  have hcut : Calls Try.prog 27 #[.slice (some ⟨c, o, none⟩) 58 cap, .int .i64 50] w fun e w' => ∃ g, e = .returned (.slice (some ⟨g, 0, none⟩) 50 50) ∧ w.heap.size ≤ g ∧ Arr w' g 5 l ∧ Chg (fun _ => False) w w' := by
    have := cut_any w c o cap 50 l (by omega) (by omega) hcs hc
    rw [hl] at this
    exact this
  clear hl hc hm
  generalize (l.drop 50).map (fun (n : Nat) => (n : Int)) = xs at *
  go_enter Try.func19, Try.ntmps19
  go_wp2_with fail
  refine hcut.mono ?_
  rintro e w' ⟨g, rfl, hg, hA', hG'⟩
  clear hcut
  go_wp2
  go_ret2
  exact ⟨g, rfl, hg, hA', hG'⟩
set_option maxHeartbeats 1000000 in
theorem open_none (w : World) (c o cap : Nat) (hcap : 58 ≤ cap) (l : List Nat) (hl : l.length = 58) (hb : Bys l) (hc : ∀ i, i < l.length → w.cell? ⟨c, o + i, none⟩ = some (.int .u8 (l.getD i 0 : Nat))) (hm : l.drop 50 ≠ mk) :
    Calls Try.prog 19 #[.slice (some ⟨c, o, none⟩) 58 cap] w fun e w' => e = .returned (.tuple #[.slice none 0 0, .iface 29 (.int .i64 6)]) ∧ w' = w := by
  have kc := run_convert_bytes_arg (P := Try.prog) w 24 5 Try.underlying24 Try.underlying5 c (o + 50) 8 (cap - 50) ((l.drop 50).map fun (n : Nat) => (n : Int)) (by simp [hl]) (tail_int hl hc) 9 Try.underlying9
  have hq := mk_eq _ (bys_drop hb 50)
  rw [decide_eq_false hm] at hq
  clear hl hc hm
  generalize (l.drop 50).map (fun (n : Nat) => (n : Int)) = xs at *
  go_enter Try.func19, Try.ntmps19
  go_wp2
  go_ret2
  exact ⟨rfl, rfl⟩
end Go.Proofs.Ytjnmfgaaafnpaaa
