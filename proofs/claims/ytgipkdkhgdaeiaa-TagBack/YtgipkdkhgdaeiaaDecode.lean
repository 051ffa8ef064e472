/-
  bytes.Equal and tag.Decode, walked: the tag of a body; ErrArg and ErrForm for the others. Condition: the bytes can be read.
-/
import Derived.Test.YtgipkdkhgdaeiaaEncode
import Derived.Test.YtgipkdkhgdaeiaaGet
import Derived.Laws.BytesArg
namespace Go.Proofs.Ytgipkdkhgdaeiaa
open Go.RowKit
set_option maxRecDepth 100000

theorem u8_inj {T U : List Nat} (hT : Bys T) (hU : Bys U) (h : T.map UInt8.ofNat = U.map UInt8.ofNat) : T = U := by
  have e : ∀ L : List Nat, Bys L → (L.map UInt8.ofNat).map UInt8.toNat = L := by
    intro L hL
    rw [List.map_map]
    conv => rhs; rw [← List.map_id L]
    apply List.map_congr_left
    intro n hn
    simp only [Function.comp, id]
    rw [UInt8.toNat_ofNat']
    exact Nat.mod_eq_of_lt (hL n hn)
  rw [← e T hT, h, e U hU]
theorem str_eq (T U : List Nat) (hT : Bys T) (hU : Bys U) : ((strOfNums (T.map fun (n : Nat) => (n : Int))).toList == (strOfNums (U.map fun (n : Nat) => (n : Int))).toList) = decide (T = U) := by
  rw [ByteArray.toList_eq, ByteArray.toList_eq, strOfNums_data, strOfNums_data, List.map_map, List.map_map]
  have e1 : ∀ T : List Nat, T.map ((fun (n : Int) => UInt8.ofNat n.toNat) ∘ fun (n : Nat) => (n : Int)) = T.map UInt8.ofNat := fun _ => rfl
  rw [e1, e1]
  by_cases h : T = U
  · rw [h]; simp
  · rw [decide_eq_false h, beq_eq_false_iff_ne]
    exact fun e => h (u8_inj hT hU e)
theorem At.ints {w : World} {c o : Nat} {l : List Nat} (h : At w c o l) {n : Nat} (hn : n = l.length) : ∀ i, i < n → w.cell? ⟨c, o + i, none⟩ = some (.int .u8 ((l.map fun (n : Nat) => (n : Int)).getD i 0)) := by
  intro i hi
  rw [h.2 i (by omega)]
  simp [List.getD_eq_getElem?_getD]
  cases e : l[i]? <;> simp
set_option maxHeartbeats 1000000 in
theorem equal_any (w : World) (c1 o1 n1 cap1 c2 o2 n2 cap2 : Nat) (l1 l2 : List Nat) (e1 : n1 = l1.length) (e2 : n2 = l2.length) (b1 : Bys l1) (b2 : Bys l2) (h1 : At w c1 o1 l1) (h2 : At w c2 o2 l2) :
    Calls Try.prog 27 #[.slice (some ⟨c1, o1, none⟩) n1 cap1, .slice (some ⟨c2, o2, none⟩) n2 cap2] w fun e w' => e = .returned (.bool (decide (l1 = l2))) ∧ w' = w := by
  have k1 := run_convert_bytes_arg (P := Try.prog) w 28 5 Try.underlying28 Try.underlying5 c1 o1 n1 cap1 (l1.map fun (n : Nat) => (n : Int)) (by simp [e1]) (h1.ints e1) 9 Try.underlying9
  have k2 := run_convert_bytes_arg (P := Try.prog) w 28 5 Try.underlying28 Try.underlying5 c2 o2 n2 cap2 (l2.map fun (n : Nat) => (n : Int)) (by simp [e2]) (h2.ints e2) 9 Try.underlying9
  have hq := str_eq l1 l2 b1 b2
  generalize l1.map (fun (n : Nat) => (n : Int)) = x1 at *
  generalize l2.map (fun (n : Nat) => (n : Int)) = x2 at *
  have HQ := hyd hq
  clear hq e1 e2 h1 h2
  go_enter Try.func27, Try.ntmps27
  go_wp2
  go_ret
  exact ⟨by rw [← HQ.out]; rfl, rfl⟩
/-- Whether a body's byte of Lost is 1. -/
def lst (l : List Nat) : Bool := ((fld l 9 1 : Nat) : Int) == 1
theorem fields_v (w : World) (c o cap : Nat) (l : List Nat) (hl : Bys l) (hL : l.length = 50) (hcap : 50 ≤ cap) (hA : At w c o l) :
    Calls Try.prog 26 #[.slice (some ⟨c, o, none⟩) 50 cap] w fun e w' => e = .returned (.tuple #[.agg #[.int .i64 (fld l 0 2 : Nat), .int .i64 (fld l 2 1 : Nat), .int .i64 (fld l 3 5 : Nat), .int .i64 (fld l 8 1 : Nat), .bool (lst l)], .nilIface]) ∧ Chg (fun _ => False) w w' :=
  fields_any w c o cap l hl hL hcap hA
/-- The tag whose fields lie in l may be. -/
def MayL (l : List Nat) : Prop := May (fld l 0 2 : Nat) (fld l 2 1 : Nat) (fld l 3 5 : Nat) (fld l 8 1 : Nat) (lst l)
/-- Its body. -/
def bodyL (l : List Nat) : List Nat := body (fld l 0 2) (fld l 2 1) (fld l 3 5) (fld l 8 1) (lst l)
theorem pre_bys (p o s c : Nat) (l : Bool) (k : Nat) : Bys (pre p o s c l k) := by
  have app : ∀ {x y : List Nat}, Bys x → Bys y → Bys (x ++ y) := fun hx hy n hn => (List.mem_append.1 hn).elim (hx n) (hy n)
  match k with
  | 0 => exact fun n hn => by cases hn
  | 1 => exact bts_bys _ _
  | 2 => exact app (bts_bys _ _) (bts_bys _ _)
  | 3 => exact app (app (bts_bys _ _) (bts_bys _ _)) (bts_bys _ _)
  | 4 => exact app (app (app (bts_bys _ _) (bts_bys _ _)) (bts_bys _ _)) (bts_bys _ _)
  | _ + 5 => exact app (app (app (app (bts_bys _ _) (bts_bys _ _)) (bts_bys _ _)) (bts_bys _ _)) (bts_bys _ _)
theorem body_bys (p o s c : Nat) (l : Bool) : Bys (body p o s c l) := fun n hn => (List.mem_append.1 hn).elim (pre_bys p o s c l 5 n) (fun h => by rw [(List.mem_replicate.1 h).2]; decide)
theorem Arr.at_ {w : World} {g : Nat} {l : List Nat} (h : Arr w g 5 l) : At w g 0 l := ⟨h.lt, fun i hi => by rw [Nat.zero_add]; exact h.cell i hi⟩
theorem build23 (w : World) : (Instr.build 23 #[]).run Try.prog w = .ok (.agg #[.int .i64 0, .int .i64 0, .int .i64 0, .int .i64 0, .bool false]) w := by kernel_rfl

set_option maxHeartbeats 2000000 in
theorem decode_arg (w : World) (a : Option Addr) (n cap : Nat) (hn : n ≠ 50) :
    Calls Try.prog 14 #[.slice a n cap] w fun e w' => e = .returned (.tuple #[.agg #[.int .i64 0, .int .i64 0, .int .i64 0, .int .i64 0, .bool false], .iface 32 (.int .i64 1)]) ∧ Chg (fun _ => False) w w' := by
  have hn' : ((n : Int) != 50) = true := by simp only [bne_iff_ne, ne_eq]; omega
  have hb := build23
  have HT := hyd (Tg.new w 0 0 0 0 false)
  have G0 : Chg (fun _ => False) w (w.alloc (.cells #[.int .i64 0, .int .i64 0, .int .i64 0, .int .i64 0, .bool false] 23)) := (Chg.refl _ w).alloc _
  have HG := hyd G0
  clear hn G0
  go_enter Try.func14, Try.ntmps14
  go_wp2_with (refine wpList_store_tag rfl (.tmp 2) (.tmp 11) rfl w.heap.size rfl rfl HT.out ?_)
  intro w3 T3 G3
  have HT3 := hyd T3
  have HG3 : Hid (Chg (fun _ => False) w w3) := hyd (HG.out.trans' G3 (fun i hi ht => by omega))
  clear T3 G3
  go_wp2
  refine bodyPost_ret (results_tag rfl _ rfl HT3.out) rfl ?_
  exact ⟨rfl, HG3.out⟩
set_option maxHeartbeats 4000000 in
theorem decode_may (w : World) (c o cap : Nat) (l : List Nat) (hl : Bys l) (hL : l.length = 50) (hcap : 50 ≤ cap) (hA : At w c o l) (hm : ¬ MayL l) :
    Calls Try.prog 14 #[.slice (some ⟨c, o, none⟩) 50 cap] w fun e w' => e = .returned (.tuple #[.agg #[.int .i64 0, .int .i64 0, .int .i64 0, .int .i64 0, .bool false], .iface 32 (.int .i64 3)]) ∧ Chg (fun _ => False) w w' := by
  have hb := build23
  have HT := hyd (Tg.new w 0 0 0 0 false)
  have G0 : Chg (fun _ => False) w (w.alloc (.cells #[.int .i64 0, .int .i64 0, .int .i64 0, .int .i64 0, .bool false] 23)) := (Chg.refl _ w).alloc _
  have A0 := hA.chg G0 (fun e => e)
  have hf := fields_v _ c o cap l hl hL hcap A0
  have he := fun w => encode_no w _ _ _ _ _ hm
  have q1 := neq_nil_nil
  have q2 := neq_arg_nil
  have HG := hyd G0
  clear hA hm G0 A0 hL
  go_enter Try.func14, Try.ntmps14
  go_wp2_with fail
  refine hf.mono ?_
  rintro e w1 ⟨rfl, G1⟩
  clear hf
  have HT1 := hyd (HT.out.chg G1 (fun e => e))
  have HG1 := hyd (HG.out.trans G1)
  clear G1 HT HG
  go_wp2_with fail
  have T2 := HT1.out.alloc (.cells #[.int .i64 (fld l 0 2 : Nat), .int .i64 (fld l 2 1 : Nat), .int .i64 (fld l 3 5 : Nat), .int .i64 (fld l 8 1 : Nat), .bool (lst l)] 23)
  have V2 := Tg.new w1 (fld l 0 2 : Nat) (fld l 2 1 : Nat) (fld l 3 5 : Nat) (fld l 8 1 : Nat) (lst l)
  have G2 := HG1.out.alloc (.cells #[.int .i64 (fld l 0 2 : Nat), .int .i64 (fld l 2 1 : Nat), .int .i64 (fld l 3 5 : Nat), .int .i64 (fld l 8 1 : Nat), .bool (lst l)] 23)
  have hsz := HG1.out.size
  refine (he _).mono ?_
  rintro e w2 ⟨rfl, G3⟩
  clear he
  have HT2 := hyd (T2.chg G3 (fun e => e))
  have HG2 := hyd (G2.trans G3)
  clear T2 V2 G2 G3 HT1 HG1
  go_wp2_with (refine wpList_store_tag rfl (.tmp 2) (.tmp 35) rfl w.heap.size rfl rfl HT2.out ?_)
  intro w3 T3 G3
  have HT3 := hyd T3
  have HG3 : Hid (Chg (fun _ => False) w w3) := hyd (HG2.out.trans' G3 (fun i hi ht => by omega))
  clear T3 G3
  go_wp2
  refine bodyPost_ret (results_tag rfl _ rfl HT3.out) rfl ?_
  exact ⟨rfl, HG3.out⟩
set_option maxHeartbeats 4000000 in
theorem decode_other (w : World) (c o cap : Nat) (l : List Nat) (hl : Bys l) (hL : l.length = 50) (hcap : 50 ≤ cap) (hA : At w c o l) (hm : MayL l) (hne : ¬ bodyL l = l) :
    Calls Try.prog 14 #[.slice (some ⟨c, o, none⟩) 50 cap] w fun e w' => e = .returned (.tuple #[.agg #[.int .i64 0, .int .i64 0, .int .i64 0, .int .i64 0, .bool false], .iface 32 (.int .i64 3)]) ∧ Chg (fun _ => False) w w' := by
  have hb := build23
  have HT := hyd (Tg.new w 0 0 0 0 false)
  have G0 : Chg (fun _ => False) w (w.alloc (.cells #[.int .i64 0, .int .i64 0, .int .i64 0, .int .i64 0, .bool false] 23)) := (Chg.refl _ w).alloc _
  have A0 := hA.chg G0 (fun e => e)
  have hf := fields_v _ c o cap l hl hL hcap A0
  have he := fun w => encode_yes w _ _ _ _ _ hm
  have hd := decide_eq_false hne
  have q1 := neq_nil_nil
  have HG := hyd G0
  have HA := hyd hA
  have HL := hyd hL
  clear hA hm G0 A0 hL hne
  go_enter Try.func14, Try.ntmps14
  go_wp2_with fail
  refine hf.mono ?_
  rintro e w1 ⟨rfl, G1⟩
  clear hf
  have HT1 := hyd (HT.out.chg G1 (fun e => e))
  have HG1 := hyd (HG.out.trans G1)
  clear G1 HT HG
  go_wp2_with fail
  have T2 := HT1.out.alloc (.cells #[.int .i64 (fld l 0 2 : Nat), .int .i64 (fld l 2 1 : Nat), .int .i64 (fld l 3 5 : Nat), .int .i64 (fld l 8 1 : Nat), .bool (lst l)] 23)
  have V2 := Tg.new w1 (fld l 0 2 : Nat) (fld l 2 1 : Nat) (fld l 3 5 : Nat) (fld l 8 1 : Nat) (lst l)
  have G2 := HG1.out.alloc (.cells #[.int .i64 (fld l 0 2 : Nat), .int .i64 (fld l 2 1 : Nat), .int .i64 (fld l 3 5 : Nat), .int .i64 (fld l 8 1 : Nat), .bool (lst l)] 23)
  have hsz := HG1.out.size
  refine (he _).mono ?_
  rintro e w2 ⟨g, rfl, hg, A3, G3⟩
  clear he
  have T3 := T2.chg G3 (fun e => e)
  have V3 := V2.chg G3 (fun e => e)
  have G03 := G2.trans G3
  have hq := equal_any w2 g 0 50 50 c o 50 cap (bodyL l) l (body_length _ _ _ _ _).symm HL.out.symm (body_bys _ _ _ _ _) hl A3.at_ (HA.out.chg G03 (fun e => e))
  rw [hd] at hq
  have HT2 := hyd T3
  have HV2 := hyd V3
  have HG2 := hyd G03
  clear T2 V2 G2 G3 HT1 HG1 A3 T3 V3 G03
  go_wp2_with fail
  refine hq.mono ?_
  rintro e w4 ⟨rfl, rfl⟩
  clear hq
  go_wp2_with (refine wpList_store_tag rfl (.tmp 2) (.tmp 35) rfl w.heap.size rfl rfl HT2.out ?_)
  intro w5 T5 G5
  have HT3 := hyd T5
  have HG3 : Hid (Chg (fun _ => False) w w5) := hyd (HG2.out.trans' G5 (fun i hi ht => by omega))
  clear T5 G5
  go_wp2
  refine bodyPost_ret (results_tag rfl _ rfl HT3.out) rfl ?_
  exact ⟨rfl, HG3.out⟩
set_option maxHeartbeats 4000000 in
theorem decode_yes (w : World) (c o cap : Nat) (l : List Nat) (hl : Bys l) (hL : l.length = 50) (hcap : 50 ≤ cap) (hA : At w c o l) (hm : MayL l) (hne : bodyL l = l) :
    Calls Try.prog 14 #[.slice (some ⟨c, o, none⟩) 50 cap] w fun e w' => e = .returned (.tuple #[.agg #[.int .i64 (fld l 0 2 : Nat), .int .i64 (fld l 2 1 : Nat), .int .i64 (fld l 3 5 : Nat), .int .i64 (fld l 8 1 : Nat), .bool (lst l)], .nilIface]) ∧ Chg (fun _ => False) w w' := by
  have hb := build23
  have HT := hyd (Tg.new w 0 0 0 0 false)
  have G0 : Chg (fun _ => False) w (w.alloc (.cells #[.int .i64 0, .int .i64 0, .int .i64 0, .int .i64 0, .bool false] 23)) := (Chg.refl _ w).alloc _
  have A0 := hA.chg G0 (fun e => e)
  have hf := fields_v _ c o cap l hl hL hcap A0
  have he := fun w => encode_yes w _ _ _ _ _ hm
  have hd := decide_eq_true hne
  have q1 := neq_nil_nil
  have HG := hyd G0
  have HA := hyd hA
  have HL := hyd hL
  clear hA hm G0 A0 hL hne
  go_enter Try.func14, Try.ntmps14
  go_wp2_with fail
  refine hf.mono ?_
  rintro e w1 ⟨rfl, G1⟩
  clear hf
  have HT1 := hyd (HT.out.chg G1 (fun e => e))
  have HG1 := hyd (HG.out.trans G1)
  clear G1 HT HG
  go_wp2_with fail
  have T2 := HT1.out.alloc (.cells #[.int .i64 (fld l 0 2 : Nat), .int .i64 (fld l 2 1 : Nat), .int .i64 (fld l 3 5 : Nat), .int .i64 (fld l 8 1 : Nat), .bool (lst l)] 23)
  have V2 := Tg.new w1 (fld l 0 2 : Nat) (fld l 2 1 : Nat) (fld l 3 5 : Nat) (fld l 8 1 : Nat) (lst l)
  have G2 := HG1.out.alloc (.cells #[.int .i64 (fld l 0 2 : Nat), .int .i64 (fld l 2 1 : Nat), .int .i64 (fld l 3 5 : Nat), .int .i64 (fld l 8 1 : Nat), .bool (lst l)] 23)
  have hsz := HG1.out.size
  refine (he _).mono ?_
  rintro e w2 ⟨g, rfl, hg, A3, G3⟩
  clear he
  have T3 := T2.chg G3 (fun e => e)
  have V3 := V2.chg G3 (fun e => e)
  have G03 := G2.trans G3
  have hq := equal_any w2 g 0 50 50 c o 50 cap (bodyL l) l (body_length _ _ _ _ _).symm HL.out.symm (body_bys _ _ _ _ _) hl A3.at_ (HA.out.chg G03 (fun e => e))
  rw [hd] at hq
  have HT2 := hyd T3
  have HV2 := hyd V3
  have HG2 := hyd G03
  clear T2 V2 G2 G3 HT1 HG1 A3 T3 V3 G03
  go_wp2_with fail
  refine hq.mono ?_
  rintro e w4 ⟨rfl, rfl⟩
  clear hq
  obtain ⟨v0, v1, v2, v3, v4⟩ := HV2.out.cells
  go_wp2_with (refine wpList_store_tag rfl (.tmp 2) (.tmp 37) rfl w.heap.size rfl rfl HT2.out ?_)
  intro w5 T5 G5
  have HT3 := hyd T5
  have HG3 : Hid (Chg (fun _ => False) w w5) := hyd (HG2.out.trans' G5 (fun i hi ht => by omega))
  clear T5 G5
  go_wp2
  refine bodyPost_ret (results_tag rfl _ rfl HT3.out) rfl ?_
  exact ⟨rfl, HG3.out⟩
/-- l is the body of a tag that may be. -/
def IsB (l : List Nat) : Prop := MayL l ∧ bodyL l = l
theorem decode_no (w : World) (c o cap : Nat) (l : List Nat) (hl : Bys l) (hL : l.length = 50) (hcap : 50 ≤ cap) (hA : At w c o l) (hn : ¬ IsB l) :
    Calls Try.prog 14 #[.slice (some ⟨c, o, none⟩) 50 cap] w fun e w' => e = .returned (.tuple #[.agg #[.int .i64 0, .int .i64 0, .int .i64 0, .int .i64 0, .bool false], .iface 32 (.int .i64 3)]) ∧ Chg (fun _ => False) w w' := by
  by_cases h : MayL l
  · exact decode_other w c o cap l hl hL hcap hA h (fun e => hn ⟨h, e⟩)
  · exact decode_may w c o cap l hl hL hcap hA h
end Go.Proofs.Ytgipkdkhgdaeiaa
