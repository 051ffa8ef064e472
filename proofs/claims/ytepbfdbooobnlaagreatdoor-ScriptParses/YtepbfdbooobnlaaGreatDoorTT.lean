/-
  Text (script): what it answers, of any steps. Conditions: the steps lie in memory, the numbers are ints, there are at most 2^40 of them.
-/
import Derived.Test.YtepbfdbooobnlaaGreatDoorTB
import Derived.Deep.RegionHeld3
namespace Go.Proofs.YtepbfdbooobnlaaGreatDoor
set_option maxRecDepth 100000
open Go.RowKit
/-- What Text answers: the first that can't be told, or the text. -/
structure TxR (w w' : World) (e : Ending) (l : List S3) : Prop where
  h : (∃ (i : Nat) (f : S3), l[i]? = some f ∧ tld f = false ∧ (∀ (j : Nat) (g : S3), j < i → l[j]? = some g → tld g = true) ∧
        ∃ h, e = .returned (.tuple #[.string ⟨#[]⟩, .iface 68 (.pointer (some ⟨h, 0, none⟩))]) ∧ w.heap.size ≤ h ∧ w'.heap[h]? = some (.cells (fcell (i + 1) 0 3) 70)) ∨
      ((∀ f ∈ l, tld f = true) ∧ ∃ X : ByteArray, e = .returned (.tuple #[.string X, .nilIface]) ∧ X = sb (txt (l.map S3.t)))
/-- The first j numbers of a step, as they are told. -/
def nms (f : S3) : Nat → List UInt8
  | 0 => []
  | 1 => 32 :: Lib.itoa f.a
  | _ => (32 :: Lib.itoa f.a) ++ (32 :: Lib.itoa f.b)
theorem nms_ltx {f : S3} : ltx f.t = wk f.t.k ++ nms f (cnt f.t.k) := by
  unfold ltx
  congr 1
  have hc := cnt_le f.t.k
  have h : cnt f.t.k = 0 ∨ cnt f.t.k = 1 ∨ cnt f.t.k = 2 := by omega
  rcases h with h | h | h <;> rw [h] <;> simp [nms, S3.t]
theorem nms_next (f : S3) (j : Nat) (hj : j < 2) : nms f (j + 1) = nms f j ++ (32 :: Lib.itoa (if j = 0 then f.a else f.b)) := by
  have h : j = 0 ∨ j = 1 := by omega
  rcases h with rfl | rfl <;> simp [nms]
theorem nms_len {f : S3} (ha : I64 f.a) (hb : I64 f.b) (j : Nat) : (nms f j).length ≤ 42 := by
  have h1 := itoa_len ha
  have h2 := itoa_len hb
  match j with
  | 0 => simp [nms]
  | 1 => simp [nms]; omega
  | j + 2 => simp [nms]; omega
theorem txt_next {l : List S3} {i : Nat} {f : S3} (h : l[i]? = some f) : txt ((l.take (i + 1)).map S3.t) = txt ((l.take i).map S3.t) ++ (ltx f.t ++ [10]) := by
  rw [List.take_add_one, h, List.map_append, txt_app]
  rfl
theorem At6.load {w : World} {g o : Nat} {l : List S3} (h : At6 w g o l) {i : Nat} {f : S3} (hf : l[i]? = some f) : w.rangeAt g (o + i * 3) (fL f) := h.2 i f hf
theorem sb_add (l : List UInt8) : (⟨#[32]⟩ : ByteArray) ++ sb l = sb (32 :: l) := by
  apply Go.WideShapes.bytes_inj
  rw [ByteArray.data_append, Array.toList_append]
  rfl
theorem chg_kb {w w1 w2 : World} (h : Chg (fun _ => False) w w1) (k : Kb w.heap.size w1 w2) : Chg (fun _ => False) w w2 :=
  ⟨k.be.os.trans h.os, k.be.tape.trans h.tape, k.be.output.trans h.output, Nat.le_trans h.size k.be.size, fun i hi _ => (k.be.block i hi).trans (h.block i hi (fun f => f))⟩
theorem canBe_fA (f : S3) (b : Bool) (hb : tld f = b) (w : World) : Calls Tryz.prog 26 #[.agg (fA f)] w fun e w' => e = .returned (.bool b) ∧ Chg (fun _ => False) w w' := by
  subst hb
  exact canBe_any f w
set_option maxHeartbeats 4000000 in
theorem text_any (v : Value) (l : List S3) (w : World) (hl : Sl w v l) (hI : ∀ f ∈ l, I64 f.a ∧ I64 f.b) (hn : l.length ≤ 1099511627776) (hG : Gl w) :
    Calls Tryz.prog 17 #[v] w fun e w' => Chg (fun _ => False) w w' ∧ TxR w w' e l := by
  have HSl := hyd hl
  have HG := hyd hG
  have HI := hyd hI
  have HN := hyd hn
  clear hl hG hI
  obtain ⟨va, vc, rfl, -, hA⟩ := HSl.out
  have HA := hyd hA
  clear hA
  generalize hm : l.length = m at *
  have HM := hyd hm
  clear hm
  have HB0 : Hid (Bu (w.alloc (.cells #[.pointer none, .slice none 0 0] 66)) w.heap.size []) := Lib.IsBuilderF.of (Lib.fresh_isBuilder 66 5 w)
  have HC0 := hyd ((Chg.refl (fun _ => False) w).alloc (.cells #[.pointer none, .slice none 0 0] 66))
  go_enter Tryz.func17, Tryz.ntmps17
  go_wp2_with fail
  generalize w.alloc (.cells #[.pointer none, .slice none 0 0] 66) = w0 at *
  go_loopg [11] 1099511627776 (fun kx s11 wr => ∃ (i : Nat), s11 = .int .i64 i ∧ i ≤ m ∧ 1099511627776 - i ≤ kx ∧ Hid (Bu wr w.heap.size (txt ((l.take i).map S3.t))) ∧ Hid (Chg (fun _ => False) w wr) ∧ Hid (∀ (j : Nat) (g : S3), j < i → l[j]? = some g → tld g = true))
  case atStart => exact ⟨0, rfl, by omega, by omega, HB0, HC0, fun j g hj => by omega⟩
  case round =>
  obtain ⟨i, rfl, hi, hkx, HB, HC, HT⟩ := hrel
  by_cases hlt : i < m
  · have hltz : (i : Int) < m := by omega
    obtain ⟨f, hf⟩ : ∃ f, l[i]? = some f := ⟨_, List.getElem?_eq_getElem (by have := HM.out; omega)⟩
    have HF := hyd hf
    rcases HA.out with h0 | ⟨g, o, rfl, hAt⟩
    · omega
    have HR : Hid (wr.rangeAt g (o + i * 3) (fL f)) := fun j v hv => (World.cell?_of_block (w := w) (HC.out.block g hAt.1 (fun x => x))).trans (hAt.load hf j v hv)
    clear hf hAt
    go_wp2_with (first | (refine wpList_load_at rfl (.tmp 14) rfl g (o + i * 3) rfl HR.out ?_) | (refine wpList_alloc_fo rfl rfl wr.heap.size rfl ?_))
    intro w1 F1 C1 S1
    have HF1 := hyd F1
    have HC1 := hyd (HC.out.trans C1)
    have HB1 := hyd (HB.out.new C1)
    clear F1 C1 S1
    have HG6 : Hid (w.heap.size < wr.heap.size) := HB.out.lt
    generalize wr.heap.size = g6 at *
    go_wp2_with (first | (refine wpList_store_fo rfl (.tmp 6) (.tmp 15) rfl g6 rfl rfl HF1.out ?_))
    intro w2 F2 C2
    have HF2 := hyd F2
    have HC2 := hyd (HC1.out.trans' C2 (fun j hj e => by have := HG6.out; omega))
    have HB2 : Hid (Bu w2 w.heap.size (txt ((l.take i).map S3.t))) := HB1.out.chg C2 (fun k hk => by
      have hk' : k = g6 := hk
      subst hk'
      refine ⟨by have := HG6.out; omega, fun c fz e => ?_⟩
      have h1 : w1.heap[k]? = _ := HF1.out
      rw [h1] at e
      injection e with e
      injection e with _ e2 _
      cases e2)
    clear F2 C2 HF1 HC1 HB1
    by_cases ht : tld f = true
    · go_wp2_with (first | (refine wpList_load_fo rfl (.tmp 6) rfl g6 rfl HF2.out ?_) | (go_at_call 26; refine (canBe_fA f true ht _).mono ?_; rintro e w3 ⟨rfl, C3⟩; refine Hid.out ?_))
      refine Lib.hid ?_
      have HC3 := hyd (HC2.out.trans C3)
      have HF3 := hyd (HF2.out.chg C3 (fun x => x))
      have HB3 := hyd (HB2.out.new C3)
      have HTf := hyd ht
      have HIf := hyd (HI.out f (List.mem_of_getElem? HF.out))
      clear C3 HC2 HF2 HB2 ht
      have HGw := hyd (HG.out.new HC3.out)
      have HOk := hyd (tld_ok HTf.out HIf.out.1 HIf.out.2)
      obtain ⟨q0, q1, q2⟩ := HF3.out.cells
      have hkn : f.k = (f.t.k : Nat) := by rw [← tld_t HTf.out]; rfl
      have hk10 : f.t.k ≤ 10 := HOk.out.k2
      rw [hkn] at q0
      generalize hnn : f.t.k = n at *
      have HNN := hyd hnn
      clear hnn hkn
      have hwn : w3.cell? ⟨0, n, none⟩ = some (.string (sb (wk n))) := by
        have h := HGw.out.words n (.string (sb (wk n))) (by
          rw [List.getElem?_map]
          have h2 : wds[n]? = some (wk n) := by unfold wk; rw [List.getD_eq_getElem?_getD, List.getElem?_eq_getElem (by simp [wds]; omega)]; rfl
          rw [h2]; rfl)
        rw [Nat.zero_add] at h
        exact h
      have HLw := hyd (wk_len n (by omega))
      have HLt : Hid ((txt ((l.take i).map S3.t)).length ≤ 54 * i) := by
        have h1 := txt_len (l := (l.take i).map S3.t) (fun s hs => by
          obtain ⟨f', hf', rfl⟩ := List.mem_map.1 hs
          obtain ⟨j, hj, hj2⟩ := List.getElem_of_mem hf'
          have hj3 : l[j]? = some f' := by
            rw [List.getElem_take] at hj2
            rw [← hj2]; exact List.getElem?_eq_getElem _
          have hI' := HI.out f' (List.mem_of_getElem? hj3)
          exact tld_ok (HT.out j f' (by rw [List.length_take] at hj; omega) hj3) hI'.1 hI'.2)
        rw [List.length_map, List.length_take] at h1
        show _ ≤ _
        omega
      go_wp2_with (first | (go_at_call 27; refine (ws_v _ _ _ (wk n) rfl _ HB3.out (by have := HLw.out; have := HLt.out; have := HN.out; omega)).mono ?_; rintro e w4 ⟨v4, rfl, hB4, hK4⟩; refine Hid.out ?_))
      refine Lib.hid ?_
      have HB4 := hyd hB4
      have HC4 := hyd (chg_kb HC3.out hK4)
      have HF4 : Hid (Fo w4 g6 f) := hK4.block HF3.out (by have := HG6.out; omega) (by decide)
      clear hB4 hK4 HB3 HC3 HF3 HGw q0 q1 q2 hwn
      obtain ⟨q0, q1, q2⟩ := HF4.out.cells
      have hkn : f.k = (n : Nat) := by rw [← tld_t HTf.out, ← HNN.out]; rfl
      rw [hkn] at q0
      clear hkn
      have hc2 := cnt_le n
      have hnum := numbers_any n hk10
      generalize hcc : cnt n = c at *
      have HCC := hyd hcc
      clear hcc
      have hci : (c : Int) ≤ 2 := by omega
      have r0 : (w4.alloc (.cells #[.int .i64 f.a, .int .i64 f.b] 3)).cell? ⟨g6, 0, none⟩ = some (.int .i64 n) := (World.cell?_alloc_some _ _ _ (by rw [q0]; rfl)).trans q0
      have r1 : (w4.alloc (.cells #[.int .i64 f.a, .int .i64 f.b] 3)).cell? ⟨g6, 1, none⟩ = some (.int .i64 f.a) := (World.cell?_alloc_some _ _ _ (by rw [q1]; rfl)).trans q1
      have r2 : (w4.alloc (.cells #[.int .i64 f.a, .int .i64 f.b] 3)).cell? ⟨g6, 2, none⟩ = some (.int .i64 f.b) := (World.cell?_alloc_some _ _ _ (by rw [q2]; rfl)).trans q2
      go_wp2_with fail
      go_region_held3 (fun wx => wx.cell? ⟨g6, 0, none⟩ = some (.int .i64 n) ∧ wx.cell? ⟨g6, 1, none⟩ = some (.int .i64 f.a) ∧ wx.cell? ⟨g6, 2, none⟩ = some (.int .i64 f.b))
        (first | exact ⟨q0, q1, q2⟩ | exact ⟨r0, r1, r2⟩)
        (first | (go_at_call 28; refine (hnum _).mono ?_; rintro e w5 ⟨rfl, rfl⟩))
      all_goals (
      have HI6 : Hid ((w4.alloc (.cells #[.int .i64 f.a, .int .i64 f.b] 3)).drew.heap[w4.heap.size]? = some (.cells #[.int .i64 f.a, .int .i64 f.b] 3)) := heap_new w4 _
      have HB6 := hyd (HB4.out.new ((Chg.refl (fun _ => False) w4).alloc (.cells #[.int .i64 f.a, .int .i64 f.b] 3)).drew)
      have HC6 := hyd (HC4.out.alloc (.cells #[.int .i64 f.a, .int .i64 f.b] 3)).drew
      have HT6 : Hid (w.heap.size ≠ w4.heap.size) := Nat.ne_of_lt HB4.out.lt
      clear q0 q1 q2 r0 r1 r2 HB4 HC4 HF4 hnum
      generalize (w4.alloc (.cells #[.int .i64 f.a, .int .i64 f.b] 3)).drew = w6 at *
      generalize w4.heap.size = t at *
      go_wp2_with fail
      go_loopg [40] 2 (fun kx s40 wx => ∃ (j : Nat), s40 = .int .i64 j ∧ j ≤ c ∧ 2 - j ≤ kx ∧ Hid (Bu wx w.heap.size ((txt ((l.take i).map S3.t) ++ wk n) ++ nms f j)) ∧ Hid (Chg (fun _ => False) w wx) ∧ Hid (wx.heap[t]? = some (.cells #[.int .i64 f.a, .int .i64 f.b] 3)))
      case atStart => exact ⟨0, rfl, by omega, by omega, by show Bu _ _ _; rw [nms, List.append_nil]; exact HB6.out, HC6, HI6⟩
      case round =>
      obtain ⟨j, rfl, hj, hjx, HBj, HCj, HIj⟩ := hrel
      have HGj := hyd (HG.out.new HCj.out)
      have HLj : Hid (((txt ((l.take i).map S3.t) ++ wk n) ++ nms f j).length ≤ 54 * i + 53) := by
        have h1 := HLt.out
        have h2 := HLw.out
        have h3 := nms_len HIf.out.1 HIf.out.2 j
        show _ ≤ _
        rw [List.length_append, List.length_append]
        omega
      by_cases hjc : j < c
      · have hjz : (j : Int) < c := by omega
        have hj01 : j = 0 ∨ j = 1 := by omega
        obtain ⟨z, hz, hze⟩ : ∃ z, wr.cell? ⟨t, j, none⟩ = some (.int .i64 z) ∧ z = (if j = 0 then f.a else f.b) := by
          have hb := HIj.out
          rcases hj01 with rfl | rfl
          · exact ⟨f.a, by simp [World.cell?, hb], by simp⟩
          · exact ⟨f.b, by simp [World.cell?, hb], by simp⟩
        have HZe := hyd hze
        have HZi : Hid (I64 z) := by show I64 z; rw [hze]; split; exact HIf.out.1; exact HIf.out.2
        clear hze hj01
        go_wp2_with (first | (go_at_call 29; refine (itoa_v z HZi.out _ HGj.out).mono ?_; rintro e w7 ⟨Y, rfl, HY, C7⟩; refine Hid.out ?_))
        refine Lib.hid ?_
        have HC7 := hyd (HCj.out.trans C7)
        have HB7 := hyd (HBj.out.new C7)
        have HI7 : Hid (w7.heap[t]? = some (.cells #[.int .i64 f.a, .int .i64 f.b] 3)) := (C7.block t (Array.getElem?_eq_some_iff.1 HIj.out).1 (fun x => x)).trans HIj.out
        clear C7 HCj HBj HIj HGj
        have HYl : Hid (Y.size ≤ 20) := by show _ ≤ _; rw [HY.out, sb_size]; exact itoa_len HZi.out
        have hYs : ¬ 9223372036854775807 < 1 + Y.size := by have := HYl.out; omega
        have HYs : Hid ((⟨#[32]⟩ : ByteArray) ++ Y = sb (32 :: Lib.itoa z)) := by show _ = _; rw [HY.out]; exact sb_add _
        have HYn : Hid ((32 :: Lib.itoa z : List UInt8).length ≤ 21) := by show _ ≤ _; rw [List.length_cons]; have := itoa_len HZi.out; omega
        go_wp2_with (first | (go_at_call 27; refine (ws_v _ _ _ _ HYs.out _ HB7.out (by have := HLj.out; have := HYn.out; have := HN.out; omega)).mono ?_; rintro e w8 ⟨v8, rfl, B8, K8⟩; refine Hid.out ?_))
        refine Lib.hid ?_
        have HB8 : Hid (Bu w8 w.heap.size ((txt ((l.take i).map S3.t) ++ wk n) ++ nms f (j + 1))) := by
          show Bu _ _ _
          rw [nms_next f j (by omega), ← HZe.out, ← List.append_assoc]; exact B8
        have HC8 := hyd (chg_kb HC7.out K8)
        have HI8 := hyd (K8.block HI7.out (fun e => HT6.out e.symm) (by decide))
        clear B8 K8 HB7 HC7 HI7
        go_wp2
        go_roundg (2 - (j + 1))
        case measure => omega
        case rel => exact ⟨j + 1, by simp, by omega, Nat.le_refl _, HB8, HC8, HI8⟩
      · have hjz : ¬ (j : Int) < c := by omega
        have HBe : Hid (Bu wr w.heap.size (txt ((l.take i).map S3.t) ++ ltx f.t)) := by
          show Bu _ _ _
          rw [nms_ltx, HNN.out, HCC.out, show c = j by omega, ← List.append_assoc]; exact HBj.out
        have HLe : Hid ((txt ((l.take i).map S3.t) ++ ltx f.t).length ≤ 54 * i + 53) := by
          show _ ≤ _
          rw [nms_ltx, HNN.out, HCC.out, show c = j by omega, ← List.append_assoc]; exact HLj.out
        clear HBj HIj
        go_wp2_with (first | (go_at_call 30; refine (wb_v _ _ _ HBe.out (by have := HLe.out; have := HN.out; omega)).mono ?_; rintro e w8 ⟨v8, rfl, B8, K8⟩; refine Hid.out ?_))
        refine Lib.hid ?_
        have HB8 : Hid (Bu w8 w.heap.size (txt ((l.take (i + 1)).map S3.t))) := by
          show Bu _ _ _
          rw [txt_next HF.out, ← List.append_assoc]; exact B8
        have HC8 := hyd (chg_kb HCj.out K8)
        clear B8 K8
        go_wp2
        go_roundg (1099511627776 - (i + 1))
        case measure => have := HN.out; omega
        case rel =>
          refine ⟨i + 1, by simp, by omega, Nat.le_refl _, HB8, HC8, fun j' g' hj' hg' => ?_⟩
          by_cases e : j' = i
          · subst e
            have := HF.out.symm.trans hg'
            injection this with this
            rw [← this]; exact HTf.out
          · exact HT.out j' g' (by omega) hg')
    · rw [Bool.not_eq_true] at ht
      have HTf := hyd ht
      go_wp2_with (first | (refine wpList_load_fo rfl (.tmp 6) rfl g6 rfl HF2.out ?_) | (go_at_call 26; refine (canBe_fA f false ht _).mono ?_; rintro e w3 ⟨rfl, C3⟩; refine Hid.out ?_))
      refine Lib.hid ?_
      have HC3 := hyd (HC2.out.trans C3)
      clear ht C3
      go_wp2
      go_ret2
      refine ⟨HC3.out.alloc _, ⟨Or.inl ⟨i, f, HF.out, HTf.out, HT.out, _, rfl, HC3.out.size, heap_new _ _⟩⟩⟩
  · have hltz : ¬ (i : Int) < m := by omega
    go_wp2_with (first | (go_at_call 31; refine (st_v _ _ _ HB.out).mono ?_; rintro e w3 ⟨X, rfl, HX, HK⟩; refine Hid.out ?_))
    refine Lib.hid ?_
    have HC3 := hyd (chg_kb HC.out HK)
    clear HK
    go_wp2
    go_ret2
    refine ⟨HC3.out, ⟨Or.inr ⟨fun f hf => ?_, X, rfl, ?_⟩⟩⟩
    · obtain ⟨j, hj, hj2⟩ := List.getElem_of_mem hf
      exact HT.out j f (by have := HM.out; omega) (by rw [← hj2]; exact List.getElem?_eq_getElem _)
    · rw [HX.out, List.take_of_length_le (by have := HM.out; omega)]
end Go.Proofs.YtepbfdbooobnlaaGreatDoor
