/-
  wire's cut, Get and Apart, walked. Conditions: the bytes can be read. wire's Mark, Seal and Open, and the document's. Condition: the bytes can be read. The document's Sealed and Marked (patinaref03). Condition: the bytes can be read. slices.Grow and slices.Concat at bytes, as Lay calls them. Condition: the bytes can be read.
-/
import Derived.Test.YtifjmilegogbaaaGreatUKnow
import Derived.Test.YtifjmilegogbaaaGreatUCod
import Derived.Laws.BytesArg
import Derived.Lib.BufferWrite
import Derived.Lib.SlBytesConst
import Derived.Lib.AppendZeros
namespace Go.Proofs.YtifjmilegogbaaaGreat
open Go.RowKit
set_option maxRecDepth 100000

set_option maxHeartbeats 1000000 in
theorem cut_any (w : World) (c o cap n : Nat) (l : List Nat) (hlen : l.length ≤ 4096) (hn : n ≤ l.length) (hcs : c < w.heap.size)
    (hc : ∀ i, i < l.length → w.cell? ⟨c, o + i, none⟩ = some (.int .u8 (l.getD i 0 : Nat))) :
    Calls Tryz.prog 143 #[.slice (some ⟨c, o, none⟩) l.length cap, .int .i64 (n : Int)] w fun e w' => ∃ g, e = .returned (.slice (some ⟨g, 0, none⟩) n n) ∧ w.heap.size ≤ g ∧ Arr w' g 5 l ∧ Chg (fun _ => False) w w' := by
  have hmk := fun w : World => make_bytes w (l.length : Int) l.length rfl (by omega)
  have HC := hyd hc
  clear hc
  have hN : (n : Int) ≤ (l.length : Int) := by omega
  have hN0 : (0 : Int) ≤ (n : Int) := by omega
  have A1 : Arr (w.alloc (.cells (bcells (List.replicate l.length 0)) 5)) w.heap.size 5 (List.replicate l.length 0) := Arr.new _ _ _
  have hsz : (w.alloc (.cells (bcells (List.replicate l.length 0)) 5)).heap.size = w.heap.size + 1 := by simp
  have G1 : Chg (fun _ => False) w (w.alloc (.cells (bcells (List.replicate l.length 0)) 5)) := (Chg.refl _ _).alloc _
  have HC1 : ∀ j, j < l.length → (w.alloc (.cells (bcells (List.replicate l.length 0)) 5)).cell? ⟨c, o + j, none⟩ = some (.int .u8 (l.getD j 0 : Nat)) := fun j hj => by
    rw [World.cell?_alloc_past _ _ _ hcs]; exact HC.out j hj
  have HA := hyd A1
  have HG := hyd G1
  have HC1 := hyd HC1
  clear A1 G1 hsz
  go_enter Tryz.func143, Tryz.ntmps143
  go_wp2_with (refine wpList_copy_arr rfl (.tmp 9) (.tmp 10) rfl w.heap.size 0 l.length l.length c o l.length cap rfl rfl HA.out l (by simp) HC1.out (by simp) ?_)
  have A2 := HA.out.row (lay (List.replicate l.length 0) 0 l)
  rw [lay_all _ _ (by simp)] at A2 ⊢
  have G2 : Chg (fun _ => False) w ((w.alloc (.cells (bcells (List.replicate l.length 0)) 5)).setRow w.heap.size (bcells l)) := HG.out.setRow (Or.inr (Nat.le_refl _)) _
  go_ret
  exact ⟨_, rfl, Nat.le_refl _, A2, G2⟩

end Go.Proofs.YtifjmilegogbaaaGreat
namespace Go.Proofs.YtifjmilegogbaaaGreat
open Go.RowKit
set_option maxRecDepth 100000

/-- The mark. -/
def mk : List Nat := [112, 97, 116, 105, 110, 97, 48, 49]
theorem mk_bys : Bys mk := by intro n hn; simp [mk] at hn; omega
theorem mk_length : mk.length = 8 := rfl
/-- The mark as a text. -/
def mks : ByteArray := ⟨#[112, 97, 116, 105, 110, 97, 48, 49]⟩
theorem mk_cells : (#[Value.int .u8 112, .int .u8 97, .int .u8 116, .int .u8 105, .int .u8 110, .int .u8 97, .int .u8 48, .int .u8 49] : Array Value) = bcells mk := rfl

set_option maxHeartbeats 1000000 in
theorem rmark_any (w : World) :
    Calls Tryz.prog 121 #[] w fun e w' => ∃ g, e = .returned (.slice (some ⟨g, 0, none⟩) 8 8) ∧ w.heap.size ≤ g ∧ Arr w' g 5 mk ∧ Chg (fun _ => False) w w' := by
  go_enter Tryz.func121, Tryz.ntmps121
  go_wp2
  rw [mk_cells]
  go_ret
  exact ⟨_, rfl, Nat.le_refl _, Arr.new _ _ _, (Chg.refl _ _).alloc _⟩

theorem mks_row (cur : List Nat) (off : Nat) :
    ((bcells cur).toList.take off ++ Lib.byteCells mks.data.toList ++ (bcells cur).toList.drop (off + mks.size)).toArray = bcells (lay cur off mk) := by
  have e : Lib.byteCells mks.data.toList = mk.map fun (n : Nat) => Value.int .u8 (n : Int) := rfl
  have e2 : mks.size = mk.length := rfl
  rw [e, e2]
  simp [bcells, lay, List.map_take, List.map_drop]
theorem wpList_copy_mark {w : World} {ops : Array Oper} {rest : List Oper} {o : Oper} {a : Act} {Q : Exit → Act → World → Prop} (hgd : o.guard = none) (d s : Operand)
    (ho : o.op = .call { callee := .builtin .copy, args := #[d, s], argTypes := #[55, 9] }) (g off dLen dCap : Nat) (hd : a.eval d = .slice (some ⟨g, off, none⟩) dLen dCap) (hs : a.eval s = .string mks)
    {t : TypeId} {cur : List Nat} (hg : Arr w g t cur) (hl : 8 ≤ dLen) (hfit : off + 8 ≤ cur.length)
    (h : wpList Tryz.prog ops Q rest (a.put o.dst (goInt 8)) (w.setRow g (bcells (lay cur off mk)))) : wpList Tryz.prog ops Q (o :: rest) a w := by
  refine wpList_plain hgd fun K hK => ?_
  have hrun := Lib.run_copy_row_string (P := Tryz.prog) w 55 9 o.type 5 g off dLen dCap mks (bcells cur) t Tryz.underlying55 size5 hg hl (by rw [bcells_size]; exact hfit)
  rw [mks_row] at hrun
  unfold Oper.wp
  simp [execOp, ho, resolve, invoke, builtin, hd, hs, hrun, Result.andThen]
  exact hK _ _ h

theorem lay_seal {l : List Nat} (h : l.length = 50) : lay (lay z58 0 l) 50 mk = l ++ mk := by
  have e : lay z58 0 l = l ++ List.replicate 8 0 := by simp [lay, z58, h]
  rw [e]
  simp only [lay, mk_length]
  rw [List.take_append_of_le_length (by omega), List.take_of_length_le (by omega), List.drop_eq_nil_of_le (by simp [h])]
  simp

set_option maxHeartbeats 1000000 in
theorem seal_any (w : World) (c o cap : Nat) (l : List Nat) (hl : l.length = 50) (hcs : c < w.heap.size) (hc : ∀ i, i < l.length → w.cell? ⟨c, o + i, none⟩ = some (.int .u8 (l.getD i 0 : Nat))) :
    Calls Tryz.prog 107 #[.slice (some ⟨c, o, none⟩) 50 cap] w fun e w' => ∃ g, e = .returned (.tuple #[.slice (some ⟨g, 0, none⟩) 58 58, .nilIface]) ∧ w.heap.size ≤ g ∧ Arr w' g 5 (l ++ mk) ∧ Chg (fun _ => False) w w' := by
  have hmk := make58
  have HC1 : ∀ j, j < l.length → (w.alloc (.cells (bcells z58) 5)).cell? ⟨c, o + j, none⟩ = some (.int .u8 (l.getD j 0 : Nat)) := fun j hj => by
    rw [World.cell?_alloc_past _ _ _ hcs]; exact hc j hj
  have HA := hyd (Arr.new w 5 z58)
  have HB := hyd ((Arr.new w 5 z58).row (lay z58 0 l))
  have HG := hyd ((Chg.refl (fun _ => False) w).alloc (.cells (bcells z58) 5))
  have HC1 := hyd HC1
  have HL := hyd hl
  have hz : (lay z58 0 l).length = 58 := by rw [lay_length (by simp [z58, hl])]; rfl
  have HZ := hyd hz
  clear hc hl hz
  go_enter Tryz.func107, Tryz.ntmps107
  go_wp2_with (first
    | (refine wpList_copy_arr rfl (.tmp 10) (.tmp 11) rfl w.heap.size 0 58 58 c o 50 cap rfl rfl HA.out l HL.out HC1.out (by rw [HL.out]; decide) ?_)
    | (refine wpList_copy_mark rfl (.tmp 14) _ rfl w.heap.size 50 8 8 rfl rfl HB.out (by decide) (by rw [HZ.out]; decide) ?_))
  have A2 := HB.out.row (lay (lay z58 0 l) 50 mk)
  rw [lay_seal HL.out] at A2 ⊢
  have G2 := (HG.out.setRow (Or.inr (Nat.le_refl _)) (bcells (lay z58 0 l))).setRow (Or.inr (Nat.le_refl _)) (bcells (l ++ mk))
  go_ret2
  exact ⟨_, rfl, Nat.le_refl _, A2, G2⟩
theorem seal_arg (w : World) (a : Option Addr) (n cap : Nat) (h : n ≠ 50) :
    Calls Tryz.prog 107 #[.slice a n cap] w fun e w' => e = .returned (.tuple #[.slice none 0 0, .iface 58 (.int .i64 1)]) ∧ w' = w := by
  have h' : ((n : Int) != 50) = true := by simp only [bne_iff_ne, ne_eq]; omega
  clear h
  go_enter Tryz.func107, Tryz.ntmps107
  go_wp2
  go_ret2
  exact ⟨rfl, rfl⟩
theorem open_arg (w : World) (a : Option Addr) (n cap : Nat) (h : n ≠ 58) :
    Calls Tryz.prog 131 #[.slice a n cap] w fun e w' => e = .returned (.tuple #[.slice none 0 0, .iface 58 (.int .i64 1)]) ∧ w' = w := by
  have h' : ((n : Int) != 58) = true := by simp only [bne_iff_ne, ne_eq]; omega
  clear h
  go_enter Tryz.func131, Tryz.ntmps131
  go_wp2
  go_ret2
  exact ⟨rfl, rfl⟩

theorem u8_inj {T U : List Nat} (hT : Bys T) (hU : Bys U) (h : T.map UInt8.ofNat = U.map UInt8.ofNat) : T = U := by
  have e : ∀ L : List Nat, Bys L → (L.map UInt8.ofNat).map UInt8.toNat = L := by
    intro L hL
    rw [List.map_map]
    conv => rhs; rw [← List.map_id L]
    apply List.map_congr_left
    intro n hn
    simp only [Function.comp, id]
    rw [UInt8.toNat_ofNat']
    exact Nat.mod_eq_of_lt (hL n hn)
  rw [← e T hT, h, e U hU]
theorem mk_eq (T : List Nat) (hT : Bys T) : ((strOfNums (T.map fun (n : Nat) => (n : Int))).toList == [112, 97, 116, 105, 110, 97, 48, 49]) = decide (T = mk) := by
  rw [ByteArray.toList_eq, strOfNums_data, List.map_map]
  have e1 : T.map ((fun (n : Int) => UInt8.ofNat n.toNat) ∘ fun (n : Nat) => (n : Int)) = T.map UInt8.ofNat := rfl
  have e2 : ([112, 97, 116, 105, 110, 97, 48, 49] : List UInt8) = mk.map UInt8.ofNat := rfl
  rw [e1, e2]
  by_cases h : T = mk
  · rw [h]; simp
  · rw [decide_eq_false h, beq_eq_false_iff_ne]
    exact fun e => h (u8_inj hT mk_bys e)
theorem tail_int {w : World} {c o : Nat} {l : List Nat} (hl : l.length = 58) (hc : ∀ i, i < l.length → w.cell? ⟨c, o + i, none⟩ = some (.int .u8 (l.getD i 0 : Nat))) :
    ∀ i, i < 8 → w.cell? ⟨c, (o + 50) + i, none⟩ = some (.int .u8 (((l.drop 50).map fun (n : Nat) => (n : Int)).getD i 0)) := by
  intro i hi
  rw [Nat.add_assoc, hc (50 + i) (by omega)]
  simp [List.getD_eq_getElem?_getD, List.getElem?_drop]
  cases e : l[50 + i]? <;> simp

set_option maxHeartbeats 1000000 in
theorem open_mark (w : World) (c o cap : Nat) (hcap : 58 ≤ cap) (l : List Nat) (hl : l.length = 58) (hb : Bys l) (hcs : c < w.heap.size) (hc : ∀ i, i < l.length → w.cell? ⟨c, o + i, none⟩ = some (.int .u8 (l.getD i 0 : Nat))) (hm : l.drop 50 = mk) :
    Calls Tryz.prog 131 #[.slice (some ⟨c, o, none⟩) 58 cap] w fun e w' => ∃ g, e = .returned (.tuple #[.slice (some ⟨g, 0, none⟩) 50 50, .nilIface]) ∧ w.heap.size ≤ g ∧ Arr w' g 5 l ∧ Chg (fun _ => False) w w' := by
  have kc := run_convert_bytes_arg (P := Tryz.prog) w 55 5 Tryz.underlying55 Tryz.underlying5 c (o + 50) 8 (cap - 50) ((l.drop 50).map fun (n : Nat) => (n : Int)) (by simp [hl]) (tail_int hl hc) 9 Tryz.underlying9
  have hq := mk_eq _ (bys_drop hb 50)
  rw [decide_eq_true hm] at hq
  have HL := hyd hl
  have HC := hyd hc
  have hcut : Calls Tryz.prog 143 #[.slice (some ⟨c, o, none⟩) 58 cap, .int .i64 50] w fun e w' => ∃ g, e = .returned (.slice (some ⟨g, 0, none⟩) 50 50) ∧ w.heap.size ≤ g ∧ Arr w' g 5 l ∧ Chg (fun _ => False) w w' := by
    have := cut_any w c o cap 50 l (by omega) (by omega) hcs hc
    rw [hl] at this
    exact this
  clear hl hc hm
  generalize (l.drop 50).map (fun (n : Nat) => (n : Int)) = xs at *
  go_enter Tryz.func131, Tryz.ntmps131
  go_wp2_with fail
  refine hcut.mono ?_
  rintro e w' ⟨g, rfl, hg, hA', hG'⟩
  clear hcut
  go_wp2
  go_ret2
  exact ⟨g, rfl, hg, hA', hG'⟩
set_option maxHeartbeats 1000000 in
theorem open_none (w : World) (c o cap : Nat) (hcap : 58 ≤ cap) (l : List Nat) (hl : l.length = 58) (hb : Bys l) (hc : ∀ i, i < l.length → w.cell? ⟨c, o + i, none⟩ = some (.int .u8 (l.getD i 0 : Nat))) (hm : l.drop 50 ≠ mk) :
    Calls Tryz.prog 131 #[.slice (some ⟨c, o, none⟩) 58 cap] w fun e w' => e = .returned (.tuple #[.slice none 0 0, .iface 58 (.int .i64 6)]) ∧ w' = w := by
  have kc := run_convert_bytes_arg (P := Tryz.prog) w 55 5 Tryz.underlying55 Tryz.underlying5 c (o + 50) 8 (cap - 50) ((l.drop 50).map fun (n : Nat) => (n : Int)) (by simp [hl]) (tail_int hl hc) 9 Tryz.underlying9
  have hq := mk_eq _ (bys_drop hb 50)
  rw [decide_eq_false hm] at hq
  clear hl hc hm
  generalize (l.drop 50).map (fun (n : Nat) => (n : Int)) = xs at *
  go_enter Tryz.func131, Tryz.ntmps131
  go_wp2
  go_ret2
  exact ⟨rfl, rfl⟩
end Go.Proofs.YtifjmilegogbaaaGreat
namespace Go.Proofs.YtifjmilegogbaaaGreat
open Go.RowKit
set_option maxRecDepth 100000

theorem Own.slice' {w : World} {base : Nat} {e : TypeId} {v : Value} {l : List Nat} (h : Own w base e v l) : ∃ a c, v = .slice a l.length c := by
  rcases h.t.form with ⟨h1, h2⟩ | ⟨g, c, h1, _⟩
  · exact ⟨none, 0, by rw [h1, h2]; rfl⟩
  · exact ⟨_, c, h1⟩
theorem Own.chgF {w w' : World} {base : Nat} {e : TypeId} {v : Value} {l : List Nat} (h : Own w base e v l) (hc : Chg (fun _ => False) w w') : Own w' base e v l := h.chg hc (fun _ _ _ f => f)
set_option maxHeartbeats 1000000 in
theorem rsealed_any (w : World) (c o cap : Nat) (l : List Nat) (hl : l.length = 50) (hc : ∀ i, i < l.length → w.cell? ⟨c, o + i, none⟩ = some (.int .u8 (l.getD i 0 : Nat))) :
    Calls Tryz.prog 87 #[.slice (some ⟨c, o, none⟩) 50 cap] w fun e w' => ∃ a k, e = .returned (.slice a 58 k) ∧ Own w' w.heap.size 5 (.slice a 58 k) (l ++ mk) ∧ Chg (fun _ => False) w w' := by
  have hi5 := info5
  have HC := hyd hc
  clear hc
  go_enter Tryz.func87, Tryz.ntmps87
  go_wp2_with (at_builtin; refine wpList_append_bytes _ rfl _ _ 55 rfl w.heap.size 5 Tryz.underlying55 hi5 _ [] rfl ?h1 (some ⟨c, o, none⟩) 50 cap l rfl hl (by simp) ?h2 ?h3 ?h4 w.heap.size ?h5 ?_)
  case h1 => exact Own.nil _ _ _
  case h2 =>
    intro ad had j hj
    have e := Option.some.inj had
    subst e
    rw [Addr.add_lit]
    exact HC.out j (by omega)
  case h3 => simp
  case h4 => simp
  case h5 => rfl
  intro v1 w1 hO1 hg1 _
  have G1 : Chg (fun _ => False) w w1 := (Chg.refl _ w).grown hg1 (fun k hk => by cases hk)
  replace hO1 : Own w1 w.heap.size 5 v1 l := by simpa using hO1
  obtain ⟨a1, c1, hv1⟩ := hO1.slice'
  rw [hl] at hv1
  subst hv1
  clear hg1
  have hs1 := G1.size
  go_wp2_with fail
  refine (rmark_any w1).mono ?_
  rintro e w2 ⟨g, rfl, hg, hA, hG⟩
  have hO2 := hO1.chgF hG
  have hs2 := hG.size
  have hi5 := info5
  have HO2 := hyd hO2
  have HA := hyd hA
  have hL := hyd hl
  clear hO2 hA hO1 hl
  go_wp2_with (at_builtin; refine wpList_append_bytes _ rfl _ _ 55 rfl w.heap.size 5 Tryz.underlying55 hi5 _ l rfl HO2.out (some ⟨g, 0, none⟩) 8 8 mk rfl rfl (by simp) ?h2 ?h3 ?h4 w2.heap.size ?h5 ?_)
  case h2 =>
    intro ad had j hj
    have e := Option.some.inj had
    subst e
    rw [Addr.add_lit, Nat.zero_add]
    exact HA.out.cell j (by rw [mk_length]; exact hj)
  case h3 => rw [hL.out]; decide
  case h4 => omega
  case h5 => rfl
  intro v3 w3 hO3 hg3 _
  have G3 : Chg (fun _ => False) w w3 := (G1.trans hG).grown hg3 (fun k hk => Or.inr (HO2.out.block hk).1)
  obtain ⟨a3, c3, hv3⟩ := hO3.slice'
  rw [List.length_append, hL.out, mk_length] at hv3
  subst hv3
  clear hg3
  go_wp2
  go_ret
  exact ⟨a3, c3, rfl, hO3, G3⟩

theorem mark_all {l : List Nat} (hl : l.length = 58) (h : ∀ i, i < 8 → l.getD (50 + i) 0 = mk.getD i 0) : l.drop 50 = mk := by
  refine list_eq_of_getD (by simp [hl, mk_length]) (fun i hi => ?_)
  rw [← h i (by simp [hl] at hi; omega)]
  simp [List.getD_eq_getElem?_getD, List.getElem?_drop]
set_option maxHeartbeats 1000000 in
theorem rmarked_any (w : World) (c o cap : Nat) (l : List Nat) (hl : l.length = 58) (hcs : c < w.heap.size) (hc : ∀ i, i < l.length → w.cell? ⟨c, o + i, none⟩ = some (.int .u8 (l.getD i 0 : Nat))) :
    Calls Tryz.prog 123 #[.slice (some ⟨c, o, none⟩) 58 cap] w fun e w' => e = .returned (.bool (decide (l.drop 50 = mk))) ∧ Chg (fun _ => False) w w' := by
  have HC := hyd hc
  have HL := hyd hl
  clear hc hl
  go_enter Tryz.func123, Tryz.ntmps123
  go_wp2_with fail
  refine (rmark_any w).mono ?_
  rintro e w1 ⟨g, rfl, hg, hA, hG⟩
  have HA := hyd hA
  have HG := hyd hG
  clear hA hG
  go_wp2_with fail
  go_loopw [4] (fun t wr => ∃ k : Nat, k ≤ 8 ∧ t = .int .i64 k ∧ Hid (∀ i, i < k → l.getD (50 + i) 0 = mk.getD i 0) ∧ Chg (fun _ => False) w1 wr) (fun t _ => 8 - (intOf t).toNat)
  case atStart => exact ⟨0, Nat.zero_le _, rfl, fun i hi => absurd hi (Nat.not_lt_zero _), Chg.refl _ _⟩
  case round =>
    obtain ⟨k, hk, rfl, hall, hC⟩ := hrel
    by_cases hlt : k < 8
    · have hlt' : (k : Int) < 8 := by omega
      have hkb : (0 : Int) ≤ (k : Int) := by omega
      have k1 : wr.cell? ⟨c, o + (50 + k), none⟩ = some (.int .u8 (l.getD (50 + k) 0 : Nat)) :=
        (World.cell?_of_block (w := w) (a := ⟨c, o + (50 + k), none⟩) ((HG.out.trans hC).block c hcs (fun e => e))).trans (HC.out (50 + k) (by rw [HL.out]; omega))
      have k2 : wr.cell? ⟨g, k, none⟩ = some (.int .u8 (mk.getD k 0 : Nat)) := (HA.out.chg hC (fun e => e)).cell k (by rw [mk_length]; exact hlt)
      have w50 : IntKind.i64.wrap (50 + (k : Int)) = 50 + (k : Int) := by have := wrap_i64_small (50 + k) (by omega); push_cast at this; exact this
      have t50 : (50 + (k : Int)).toNat = 50 + k := by omega
      have b50 : (0 : Int) ≤ 50 + (k : Int) := by omega
      have c50 : 50 + (k : Int) < 58 := by omega
      by_cases he : l.getD (50 + k) 0 = mk.getD k 0
      · have hb : (((l.getD (50 + k) 0 : Nat) : Int) != ((mk.getD k 0 : Nat) : Int)) = false := by rw [he]; simp
        have hall2 : Hid (∀ i, i < k + 1 → l.getD (50 + i) 0 = mk.getD i 0) := fun i hi => by
          by_cases hik : i = k
          · rw [hik]; exact he
          · exact hall i (by omega)
        clear he
        generalize l.getD (50 + k) 0 = x1 at *
        generalize mk.getD k 0 = x2 at *
        go_wp2_with fail
        go_region_with fail
        all_goals
          clear k1 k2
          go_wp2
          exact ⟨⟨k + 1, by omega, by go_num, hall2, hC.drew⟩, by simp [intOf]; omega⟩
      · have hb : (((l.getD (50 + k) 0 : Nat) : Int) != ((mk.getD k 0 : Nat) : Int)) = true := by simp only [bne_iff_ne, ne_eq]; omega
        have hd : Hid (decide (l.drop 50 = mk) = false) := decide_eq_false (fun e => he (by rw [← e]; simp [List.getD_eq_getElem?_getD, List.getElem?_drop]))
        clear he
        generalize l.getD (50 + k) 0 = x1 at *
        generalize mk.getD k 0 = x2 at *
        go_wp2_with fail
        go_region_with fail
        all_goals
          clear k1 k2
          go_wp2
          go_ret
          exact ⟨by rw [hd.out]; rfl, HG.out.trans hC.drew⟩
    · have hlt' : ¬ (k : Int) < 8 := by omega
      have hd : Hid (decide (l.drop 50 = mk) = true) := decide_eq_true (mark_all HL.out (fun i hi => hall i (by omega)))
      go_wp2
      go_ret
      exact ⟨by rw [hd.out]; rfl, HG.out.trans hC⟩
end Go.Proofs.YtifjmilegogbaaaGreat
namespace Go.Proofs.YtifjmilegogbaaaGreat
open Go.RowKit
set_option maxRecDepth 100000

theorem Own.zeros (w : World) (i : TypeInfo) (_hi : i.size = 1) : ∃ cap, Own (w.drew.alloc (.cells (Builtin.zeroCells (Value.int .u8 0).cells 232 ++ Builtin.zeroCells (Value.int .u8 0).cells (grownCap w 232 0 5 - 232)) 5)) w.heap.size 5 (.slice (some ⟨w.heap.size, 0, none⟩) 0 cap) [] ∧ cap = grownCap w 232 0 5 := by
  have h1 := grownCap_ge w 232 0 5
  have h2 := grownCap_le_maxLen w 232 0 5 (by decide)
  refine ⟨_, ⟨rfl, Or.inr ⟨w.heap.size, grownCap w 232 0 5, Builtin.zeroCells (Value.int .u8 0).cells 232 ++ Builtin.zeroCells (Value.int .u8 0).cells (grownCap w 232 0 5 - 232), rfl, Nat.le_refl _, ?_, by simp, h2, ?_, by simp⟩⟩, rfl⟩
  · show (w.heap.push _)[w.heap.size]? = _
    simp
  · rw [Array.size_append, size_zeroCells, size_zeroCells]
    simp [Value.cells]
    omega

set_option maxHeartbeats 1000000 in
theorem grow_any (w : World) : Calls Tryz.prog 129 #[.slice none 0 0, .int .i64 232] w fun e w' => ∃ cap, e = .returned (.slice (some ⟨w.heap.size, 0, none⟩) 0 cap) ∧ Own w' w.heap.size 5 (.slice (some ⟨w.heap.size, 0, none⟩) 0 cap) [] ∧ Chg (fun _ => False) w w' := by
  obtain ⟨i, h1, h2, h3, h4⟩ := info5
  have hrun := fun ty => Lib.run_append_nil_zeros (P := Tryz.prog) w 55 3 ty 5 i (.int .u8 0) .i64 .i64 Tryz.underlying55 Tryz.underlying3 h1 h2 232 (by omega) (by omega) (by omega) (by rw [h4]; omega)
  have hge := grownCap_ge w 232 0 5
  obtain ⟨cap, hO, hcap⟩ := Own.zeros w i h3
  have HO := hyd hO
  have HC := hyd hcap
  clear hO hcap
  go_enter Tryz.func129, Tryz.ntmps129
  go_wp2_with (at_builtin; refine Lib.wpList_append_run _ rfl _ _ _ _ rfl _ _ rfl rfl _ _ (hrun _) ?_)
  go_ret
  have hc := HC.out
  subst hc
  exact ⟨_, rfl, HO.out, ((Chg.refl _ _).alloc _).drew⟩

def acc (l0 l1 : List Nat) : Nat → List Nat
  | 0 => []
  | 1 => l0
  | _ => l0 ++ l1
set_option maxHeartbeats 1000000 in
theorem concat_any (w : World) (r c0 o0 k0 c1 o1 k1 : Nat) (l0 l1 : List Nat) (hl0 : l0.length = 174) (hl1 : l1.length = 58) (hr : w.heap[r]? = some (.cells #[.slice (some ⟨c0, o0, none⟩) 174 k0, .slice (some ⟨c1, o1, none⟩) 58 k1] 55)) (hs0 : c0 < w.heap.size) (hs1 : c1 < w.heap.size)
    (hc0 : ∀ i, i < l0.length → w.cell? ⟨c0, o0 + i, none⟩ = some (.int .u8 (l0.getD i 0 : Nat))) (hc1 : ∀ i, i < l1.length → w.cell? ⟨c1, o1 + i, none⟩ = some (.int .u8 (l1.getD i 0 : Nat))) :
    Calls Tryz.prog 109 #[.slice (some ⟨r, 0, none⟩) 2 2] w fun e w' => ∃ g cap, e = .returned (.slice (some ⟨g, 0, none⟩) 232 cap) ∧ Own w' w.heap.size 5 (.slice (some ⟨g, 0, none⟩) 232 cap) (l0 ++ l1) ∧ Chg (fun _ => False) w w' := by
  have H0 := hyd hc0
  have H1 := hyd hc1
  clear hc0 hc1
  have hrl : r < w.heap.size := (Array.getElem?_eq_some_iff.1 hr).1
  go_enter Tryz.func109, Tryz.ntmps109
  go_wp2_with fail
  go_loopw [3, 11] (fun t3 t11 wr => ∃ k : Nat, k ≤ 2 ∧ t11 = .int .i64 k ∧ t3 = .int .i64 (if k = 0 then 0 else if k = 1 then 174 else 232) ∧ wr = w) (fun _ t _ => 2 - (intOf t).toNat)
  case atStart => exact ⟨0, by omega, rfl, rfl, rfl⟩
  case round =>
    obtain ⟨k, hk, rfl, rfl, rfl⟩ := hrel
    have d0 : wr.cell? ⟨r, 0, none⟩ = some (.slice (some ⟨c0, o0, none⟩) 174 k0) := by simp [World.cell?, hr]
    have d1 : wr.cell? ⟨r, 1, none⟩ = some (.slice (some ⟨c1, o1, none⟩) 58 k1) := by simp [World.cell?, hr]
    have h3 : k = 0 ∨ k = 1 ∨ k = 2 := by omega
    rcases h3 with rfl | rfl | rfl
    · go_wp2
      exact ⟨⟨1, by omega, rfl, rfl, trivial⟩, by simp [intOf]⟩
    · go_wp2
      exact ⟨⟨2, by omega, rfl, rfl, trivial⟩, by simp [intOf]⟩
    · go_wp2_with fail
      refine (grow_any wr).mono ?_
      rintro e w1 ⟨cap, rfl, O1, G1⟩
      obtain ⟨w0, hw0⟩ : ∃ w0, w0 = wr := ⟨_, rfl⟩
      subst hw0
      have hi5 := info5
      have HL0 := hyd hl0
      have HL1 := hyd hl1
      clear d0 d1 hl0 hl1
      go_wp2_with fail
      go_loopw [6, 27] (fun t6 t27 wx => ∃ (k : Nat) (v : Value), k ≤ 2 ∧ v = t6 ∧ t27 = .int .i64 k ∧ Own wx w0.heap.size 5 v (acc l0 l1 k) ∧ Chg (fun _ => False) w0 wx) (fun _ t _ => 2 - (intOf t).toNat)
      case atStart => exact ⟨0, _, by omega, rfl, rfl, O1, G1⟩
      case round =>
        clear O1 G1
        obtain ⟨k, v, hk, rfl, rfl, O, G⟩ := hrel
        have hr2 : wr.heap[r]? = some (.cells #[.slice (some ⟨c0, o0, none⟩) 174 k0, .slice (some ⟨c1, o1, none⟩) 58 k1] 55) := (G.block r hrl (fun e => e)).trans hr
        have d0 : wr.cell? ⟨r, 0, none⟩ = some (.slice (some ⟨c0, o0, none⟩) 174 k0) := by simp [World.cell?, hr2]
        have d1 : wr.cell? ⟨r, 1, none⟩ = some (.slice (some ⟨c1, o1, none⟩) 58 k1) := by simp [World.cell?, hr2]
        have hsz := G.size
        have h3 : k = 0 ∨ k = 1 ∨ k = 2 := by omega
        have e0 : ∀ j, j < l0.length → wr.cell? ⟨c0, o0 + j, none⟩ = some (.int .u8 (l0.getD j 0 : Nat)) := fun j hj => (World.cell?_of_block (w := w0) (a := ⟨c0, o0 + j, none⟩) (G.block c0 hs0 (fun e => e))).trans (H0.out j hj)
        have e1 : ∀ j, j < l1.length → wr.cell? ⟨c1, o1 + j, none⟩ = some (.int .u8 (l1.getD j 0 : Nat)) := fun j hj => (World.cell?_of_block (w := w0) (a := ⟨c1, o1 + j, none⟩) (G.block c1 hs1 (fun e => e))).trans (H1.out j hj)
        have E0 := hyd e0
        have E1 := hyd e1
        clear e0 e1
        have hll := HL0.out
        have hlr := HL1.out
        rcases h3 with rfl | rfl | rfl
        · have O' : Own wr w0.heap.size 5 v [] := O
          clear hll hlr O
          go_wp2_with (at_builtin; refine wpList_append_bytes _ rfl _ _ 55 rfl w0.heap.size 5 Tryz.underlying55 hi5 v [] rfl O' (some ⟨c0, o0, none⟩) 174 k0 l0 rfl HL0.out (fun e => by cases e) (fun ad had j hj => by have e := Option.some.inj had; subst e; rw [Addr.add_lit]; exact E0.out j (by rw [HL0.out]; exact hj)) (by simp) hsz wr.heap.size rfl ?_)
          intro v2 w2 O2 hg2 _
          have G2 : Chg (fun _ => False) w0 w2 := G.grown hg2 (fun k hk => Or.inr (O'.block hk).1)
          replace O2 : Own w2 w0.heap.size 5 v2 l0 := by simpa using O2
          clear hg2 O'
          go_wp2
          exact ⟨⟨1, _, by omega, rfl, rfl, O2, G2⟩, by simp [intOf]⟩
        · have O' : Own wr w0.heap.size 5 v l0 := O
          clear hll hlr O
          go_wp2_with (at_builtin; refine wpList_append_bytes _ rfl _ _ 55 rfl w0.heap.size 5 Tryz.underlying55 hi5 v l0 rfl O' (some ⟨c1, o1, none⟩) 58 k1 l1 rfl HL1.out (fun e => by cases e) (fun ad had j hj => by have e := Option.some.inj had; subst e; rw [Addr.add_lit]; exact E1.out j (by rw [HL1.out]; exact hj)) (by rw [HL0.out]; decide) hsz wr.heap.size rfl ?_)
          intro v2 w2 O2 hg2 _
          have G2 : Chg (fun _ => False) w0 w2 := G.grown hg2 (fun k hk => Or.inr (O'.block hk).1)
          clear hg2 O'
          go_wp2
          exact ⟨⟨2, _, by omega, rfl, rfl, O2, G2⟩, by simp [intOf]⟩
        · have O' : Own wr w0.heap.size 5 v (l0 ++ l1) := O
          obtain ⟨g, cap2, hv, -⟩ := O'.lies (by rw [List.length_append]; omega)
          rw [List.length_append, hll, hlr] at hv
          subst hv
          clear hll hlr O
          go_wp2
          go_ret
          exact ⟨g, cap2, rfl, O', G⟩
end Go.Proofs.YtifjmilegogbaaaGreat
