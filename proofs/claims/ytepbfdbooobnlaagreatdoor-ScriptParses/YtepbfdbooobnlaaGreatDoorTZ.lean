/-
  The document's Text: what is answered. Conditions: the steps lie in memory, the numbers are ints, there are at most 2^40.
-/
import Derived.Test.YtepbfdbooobnlaaGreatDoorTY
import Derived.Deep.CutRange
namespace Go.Proofs.YtepbfdbooobnlaaGreatDoor
set_option maxRecDepth 100000
open Go.RowKit
theorem int10 : (Value.int .u8 10) = .int .u8 ((10 : UInt8).toNat : Int) := rfl
structure RtR (e : Ending) (l : List S3) : Prop where
  h : (∃ (i : Nat) (f : S3), l[i]? = some f ∧ tld f = false ∧ (∀ (j : Nat) (g : S3), j < i → l[j]? = some g → tld g = true) ∧
        e = .returned (.tuple #[.string ⟨#[]⟩, .agg #[.int .i64 3, .int .i64 (i + 1), .int .i64 0]])) ∨
      ((∀ f ∈ l, tld f = true) ∧ ∃ X : ByteArray, e = .returned (.tuple #[.string X, .agg #[.int .i64 0, .int .i64 0, .int .i64 0]]) ∧ X = sb (txt (l.map S3.t)))
/-- What the walk has laid ahead of the loop: the result, the words, the counts. -/
structure Rt3 (w w0 : World) : Prop where
  res : w0.heap[w.heap.size]? = some (.cells #[.int .i64 0, .int .i64 0, .int .i64 0] 35)
  wor : w0.heap[w.heap.size + 1]? = some (.cells (wds.map sy).toArray 9)
  cou : w0.heap[w.heap.size + 2]? = some (.cells #[.int .i64 0, .int .i64 1, .int .i64 2, .int .i64 1, .int .i64 0, .int .i64 0, .int .i64 2, .int .i64 2, .int .i64 1, .int .i64 1, .int .i64 0] 3)
  chg : Chg (fun _ => False) w w0
theorem Rt3.new {w w0 w1 : World} (h : Rt3 w w0) (hc : Chg (fun _ => False) w0 w1) : Rt3 w w1 :=
  ⟨(hc.block _ (Array.getElem?_eq_some_iff.1 h.res).1 (fun x => x)).trans h.res, (hc.block _ (Array.getElem?_eq_some_iff.1 h.wor).1 (fun x => x)).trans h.wor, (hc.block _ (Array.getElem?_eq_some_iff.1 h.cou).1 (fun x => x)).trans h.cou, h.chg.trans hc⟩
theorem Rt3.cnt {w w0 : World} (h : Rt3 w w0) {n : Nat} (hn : n ≤ 10) : w0.cell? ⟨w.heap.size + 1 + 1, n, none⟩ = some (.int .i64 (cnt n : Nat)) := by
  have := h.cou
  have h2 : w0.heap[w.heap.size + 1 + 1]? = _ := this
  simp only [World.cell?, h2]
  match n, hn with
  | 0, _ | 1, _ | 2, _ | 3, _ | 4, _ | 5, _ | 6, _ | 7, _ | 8, _ | 9, _ | 10, _ => rfl
theorem Rt3.wrd {w w0 : World} (h : Rt3 w w0) {n : Nat} (hn : n ≤ 10) : w0.cell? ⟨w.heap.size + 1, n, none⟩ = some (.string (sb (wk n))) := by
  have := h.wor
  simp only [World.cell?, this]
  match n, hn with
  | 0, _ | 1, _ | 2, _ | 3, _ | 4, _ | 5, _ | 6, _ | 7, _ | 8, _ | 9, _ | 10, _ => rfl
theorem size35 : (Tryz.prog.info? 35).map (·.size) = some 3 := by kernel_rfl
theorem results_bd {fn : Func} {q u : Tmp} (h : fn.results = #[.tmp u, .cell q 35]) (tmps : Array Value) {w : World} {g : Nat} {k a b : Int} (hp : tmps.getD q undef = .pointer (some ⟨g, 0, none⟩)) (hT : w.heap[g]? = some (.cells #[.int .i64 k, .int .i64 a, .int .i64 b] 35)) :
    (results fn tmps).run Tryz.prog w = .ok (.tuple #[tmps.getD u undef, .agg #[.int .i64 k, .int .i64 a, .int .i64 b]]) w := by
  have e : (results fn tmps).run Tryz.prog w = ((asAddr (tmps.getD q undef)).run Tryz.prog w).andThen fun a w₁ => ((loadVar 35 a).run Tryz.prog w₁).andThen fun v w₂ => .ok (.tuple #[tmps.getD u undef, v]) w₂ := by
    simp only [results, h]
    simp [Sem.run_bind, Result.andThen]
  rw [e, hp]
  simp [asAddr, run_loadVar_row w g 35 35 _ _ _ hT Tryz.underlying35 rfl size35]
/-- A step under way: what lies where. -/
structure Un (w w0 wx : World) (v : Value) (acc : List UInt8) (g : Nat) (f : S3) : Prop where
  bz : Bz w0 wx v acc
  fo : Fo wx g f
theorem Un.new {w w0 wx wy : World} {v : Value} {acc : List UInt8} {g : Nat} {f : S3} (h : Un w w0 wx v acc g f) (hc : Chg (fun _ => False) wx wy) : Un w w0 wy v acc g f :=
  ⟨h.bz.new hc, h.fo.chg hc (fun x => x)⟩
theorem Un.go {w w0 wx wy : World} {v v' : Value} {acc acc' : List UInt8} {g : Nat} {f : S3} (h : Un w w0 wx v acc g f) (hb : Bz w0 wy v' acc') (hc : Chg (fun k => v.ownBlock = some k) wx wy) : Un w w0 wy v' acc' g f :=
  ⟨hb, h.fo.chg hc (h.bz.ne h.fo)⟩
set_option maxHeartbeats 4000000 in
theorem rtext_any (v : Value) (l : List S3) (w : World) (hl : Sl w v l) (hI : ∀ f ∈ l, I64 f.a ∧ I64 f.b) (hn : l.length ≤ 1099511627776) :
    Calls Tryz.prog 18 #[v] w fun e w' => Chg (fun _ => False) w w' ∧ RtR e l := by
  have HSl := hyd hl
  have HI := hyd hI
  have HN := hyd hn
  clear hl hI
  obtain ⟨va, vc, rfl, -, hA⟩ := HSl.out
  have HA := hyd hA
  clear hA
  generalize hm : l.length = m at *
  have HM := hyd hm
  clear hm
  go_enter Tryz.func18, Tryz.ntmps18
  go_wp2_with (first | (go_at_call 32; refine (words_v _).mono ?_; rintro e w1 ⟨rfl, rfl⟩) | (go_at_call 33; refine (counts_v _).mono ?_; rintro e w2 ⟨rfl, rfl⟩))
  have HR0 : Hid (Rt3 w (((w.alloc (.cells #[.int .i64 0, .int .i64 0, .int .i64 0] 35)).alloc (.cells (wds.map sy).toArray 9)).alloc (.cells #[.int .i64 0, .int .i64 1, .int .i64 2, .int .i64 1, .int .i64 0, .int .i64 0, .int .i64 2, .int .i64 2, .int .i64 1, .int .i64 1, .int .i64 0] 3))) := by
    refine ⟨?_, ?_, ?_, (((Chg.refl _ w).alloc _).alloc _).alloc _⟩
    · exact (Below.heap_alloc _ _ _ (by simp; omega)).trans ((Below.heap_alloc _ _ _ (by simp)).trans (heap_new w _))
    · refine (Below.heap_alloc _ _ _ (by simp)).trans ?_
      have := heap_new (w.alloc (.cells #[.int .i64 0, .int .i64 0, .int .i64 0] 35)) (.cells (wds.map sy).toArray 9)
      rwa [show (w.alloc (.cells #[.int .i64 0, .int .i64 0, .int .i64 0] 35)).heap.size = w.heap.size + 1 by simp] at this
    · have := heap_new ((w.alloc (.cells #[.int .i64 0, .int .i64 0, .int .i64 0] 35)).alloc (.cells (wds.map sy).toArray 9)) (.cells #[.int .i64 0, .int .i64 1, .int .i64 2, .int .i64 1, .int .i64 0, .int .i64 0, .int .i64 2, .int .i64 2, .int .i64 1, .int .i64 1, .int .i64 0] 3)
      rwa [show ((w.alloc (.cells #[.int .i64 0, .int .i64 0, .int .i64 0] 35)).alloc (.cells (wds.map sy).toArray 9)).heap.size = w.heap.size + 2 by simp] at this
  generalize (((w.alloc (.cells #[.int .i64 0, .int .i64 0, .int .i64 0] 35)).alloc (.cells (wds.map sy).toArray 9)).alloc (.cells #[.int .i64 0, .int .i64 1, .int .i64 2, .int .i64 1, .int .i64 0, .int .i64 0, .int .i64 2, .int .i64 2, .int .i64 1, .int .i64 1, .int .i64 0] 3)) = w0 at *
  go_loopg [4, 7] 1099511627776 (fun kx s4 s7 wr => ∃ (i : Nat), s7 = .int .i64 i ∧ i ≤ m ∧ 1099511627776 - i ≤ kx ∧ Hid (Bz w0 wr s4 (txt ((l.take i).map S3.t))) ∧ Hid (∀ (j : Nat) (g : S3), j < i → l[j]? = some g → tld g = true))
  case atStart => exact ⟨0, rfl, by omega, by omega, Bz.nil (Chg.refl _ _), fun j g hj => by omega⟩
  case round =>
  obtain ⟨i, rfl, hi, hkx, HB, HT⟩ := hrel
  by_cases hlt : i < m
  · have hltz : (i : Int) < m := by omega
    obtain ⟨f, hf⟩ : ∃ f, l[i]? = some f := ⟨_, List.getElem?_eq_getElem (by have := HM.out; omega)⟩
    have HF := hyd hf
    rcases HA.out with h0 | ⟨g, o, rfl, hAt⟩
    · omega
    have hcw := HR0.out.chg.trans HB.out.chg
    have HR : Hid (wr.rangeAt g (o + i * 3) (fL f)) := fun j v hv => (World.cell?_of_block (w := w) (hcw.block g hAt.1 (fun x => x))).trans (hAt.load hf j v hv)
    clear hf hAt hcw
    go_wp2_with (first | (refine wpList_load_at rfl (.tmp 21) rfl g (o + i * 3) rfl HR.out ?_) | (refine wpList_alloc_fo rfl rfl wr.heap.size rfl ?_))
    intro w1 F1 C1 S1
    have HF1 := hyd F1
    have HB1 := hyd (HB.out.new C1)
    have HG6 : Hid (w0.heap.size ≤ wr.heap.size) := HB.out.chg.size
    have HOb : Hid (∀ k, u4.ownBlock = some k → k < wr.heap.size) := fun k hk => (HB.out.own.block hk).2
    clear F1 C1 S1 HB
    generalize wr.heap.size = g6 at *
    go_wp2_with (first | (refine wpList_store_fo rfl (.tmp 8) (.tmp 22) rfl g6 rfl rfl HF1.out ?_))
    intro w2 F2 C2
    have HF2 := hyd F2
    have HB2 : Hid (Bz w0 w2 u4 (txt ((l.take i).map S3.t))) := ⟨HB1.out.own.chg C2 (fun k _ hk e => by have := HOb.out k hk; omega), HB1.out.chg.trans' C2 (fun j hj e => by have := HG6.out; omega)⟩
    clear F2 C2 HF1 HB1
    have HR2 := hyd (HR0.out.new HB2.out.chg)
    have HU : Hid (Un w w0 w2 u4 (txt ((l.take i).map S3.t)) g6 f) := ⟨HB2.out, HF2.out⟩
    obtain ⟨q0, q1, q2⟩ := HF2.out.cells
    by_cases ht : tld f = true
    · have HTf := hyd ht
      have HIf := hyd (HI.out f (List.mem_of_getElem? HF.out))
      have HOk := hyd (tld_ok HTf.out HIf.out.1 HIf.out.2)
      have hkn : f.k = (f.t.k : Nat) := by rw [← tld_t HTf.out]; rfl
      have hk10 : f.t.k ≤ 10 := HOk.out.k2
      have hk1 : 1 ≤ f.t.k := HOk.out.k1
      have ha0 : cnt f.t.k = 0 → f.a = 0 := HOk.out.a0
      have hb0 : cnt f.t.k ≤ 1 → f.b = 0 := HOk.out.b0
      have HE := hyd (nms_ltx (f := f))
      have HKN := hyd hkn
      rw [hkn] at q0
      generalize f.t.k = n at *
      have hcn := HR2.out.cnt hk10
      have hwn := HR2.out.wrd hk10
      have HLw := hyd (wk_len n (by omega))
      have HLt : Hid ((txt ((l.take i).map S3.t)).length ≤ 54 * i) := by
        have h1 := txt_len (l := (l.take i).map S3.t) (fun s hs => by
          obtain ⟨f', hf', rfl⟩ := List.mem_map.1 hs
          obtain ⟨j, hj, hj2⟩ := List.getElem_of_mem hf'
          have hj3 : l[j]? = some f' := by
            rw [List.getElem_take] at hj2
            rw [← hj2]; exact List.getElem?_eq_getElem _
          have hI' := HI.out f' (List.mem_of_getElem? hj3)
          exact tld_ok (HT.out j f' (by rw [List.length_take] at hj; omega) hj3) hI'.1 hI'.2)
        rw [List.length_map, List.length_take] at h1
        show _ ≤ _
        omega
      have HL1 : Hid ((txt ((l.take i).map S3.t)).length + (wk n).length ≤ 70368744177664) := by show _ ≤ _; have := HLt.out; have := HLw.out; have := HN.out; omega
      have h1z : ¬ (n : Int) < 1 := by omega
      have h2z : ¬ (n : Int) > 10 := by omega
      clear ht hkn HF2 HB2
      have hc3 : cnt n = 0 ∨ cnt n = 1 ∨ cnt n = 2 := by have := cnt_le n; omega
      rcases hc3 with hc | hc | hc
      · rw [hc] at hcn
        rw [ha0 hc] at q1
        rw [hb0 (by omega)] at q2
        go_wp2_with (at_builtin; refine wpList_append_cs _ rfl _ _ rfl w0 _ _ rfl HU.out.bz _ (wk n) rfl rfl HL1.out ?_; intro v5 w5 h5 c5; have HU5 := hyd (HU.out.go h5 c5); clear h5 c5; refine Hid.out ?_)
        refine Lib.hid ?_
        clear q0 q1 q2 hcn hwn HU HR2
        have HR5 := hyd (HR0.out.new HU5.out.bz.chg)
        obtain ⟨q05, q15, q25⟩ := HU5.out.fo.cells
        rw [HKN.out] at q05
        have hc5 := HR5.out.cnt hk10
        rw [hc] at hc5
        have HLe : Hid (((txt ((l.take i).map S3.t) ++ wk n)).length ≤ 70368744177664) := by show _ ≤ _; have g1 := HLt.out; have g2 := HLw.out; have g3 := HN.out; simp only [List.length_append] at *; omega
        go_wp2_with (at_builtin; refine wpList_append_c1 _ rfl _ _ rfl w0 _ _ rfl (HU5.out.bz.alloc _) _ 10 rfl ((cell_dc1 _ _).trans (congrArg some int10)) HLe.out ?_; intro v9 w9 h9 c9; have HB9 := hyd h9; clear h9 c9)
        have HB9' : Hid (Bz w0 w9 v9 (txt ((l.take (i + 1)).map S3.t))) := by
          show Bz _ _ _ _
          have h9 := HB9.out
          rw [txt_next HF.out, HE.out, hc]
          simpa [nms, List.append_assoc] using h9
        go_roundg (1099511627776 - (i + 1))
        case measure => have := HN.out; omega
        case rel => exact ⟨i + 1, by simp, by omega, Nat.le_refl _, HB9', fun j g' hj hg' => by
          by_cases hji : j < i
          · exact HT.out j g' hji hg'
          · have e : j = i := by omega
            subst e
            rw [HF.out] at hg'
            injection hg' with e
            subst e
            exact HTf.out⟩
      · rw [hc] at hcn
        rw [hb0 (by omega)] at q2
        go_wp2_with (at_builtin; refine wpList_append_cs _ rfl _ _ rfl w0 _ _ rfl HU.out.bz _ (wk n) rfl rfl HL1.out ?_; intro v5 w5 h5 c5; have HU5 := hyd (HU.out.go h5 c5); clear h5 c5; refine Hid.out ?_)
        refine Lib.hid ?_
        clear q0 q1 q2 hcn hwn HU HR2
        have HR5 := hyd (HR0.out.new HU5.out.bz.chg)
        obtain ⟨q05, q15, q25⟩ := HU5.out.fo.cells
        rw [HKN.out] at q05
        have hc5 := HR5.out.cnt hk10
        rw [hc] at hc5
        go_wp2_with (first | (go_at_call 34; refine (decimal_any f.a HIf.out.1 _).mono ?_; rintro e w6 ⟨Y6, rfl, HY6, C6⟩; refine Hid.out ?_))
        refine Lib.hid ?_
        have HU6 := hyd (HU5.out.new C6)
        have HYl6 : Hid ((32 :: Lib.itoa f.a : List UInt8).length ≤ 21) := by show _ ≤ _; rw [List.length_cons]; have := itoa_len HIf.out.1; omega
        have hYs6 : ¬ 9223372036854775807 < 1 + Y6.size := by have h1 : Y6.size ≤ 20 := (by rw [HY6.out, sb_size]; exact itoa_len HIf.out.1); omega
        have HYs6 : Hid ((⟨#[32]⟩ : ByteArray) ++ Y6 = sb (32 :: Lib.itoa f.a)) := by show _ = _; rw [HY6.out]; exact sb_add _
        have HLs6 : Hid (((txt ((l.take i).map S3.t) ++ wk n)).length + (32 :: Lib.itoa f.a : List UInt8).length ≤ 70368744177664) := by show _ ≤ _; have h0 := HYl6.out; have g1 := HLt.out; have g2 := HLw.out; have g3 := HN.out; simp only [List.length_append] at *; omega
        clear C6 HU5 HR5 q05 q15 q25 hc5
        go_wp2_with (at_builtin; refine wpList_append_cs _ rfl _ _ rfl w0 _ _ rfl HU6.out.bz _ (32 :: Lib.itoa f.a) HYs6.out rfl HLs6.out ?_; intro v7 w7 h7 c7; have HU7 := hyd (HU6.out.go h7 c7); clear h7 c7; refine Hid.out ?_)
        refine Lib.hid ?_
        clear HU6
        have HR7 := hyd (HR0.out.new HU7.out.bz.chg)
        obtain ⟨q07, q17, q27⟩ := HU7.out.fo.cells
        rw [HKN.out] at q07
        have hc7 := HR7.out.cnt hk10
        rw [hc] at hc7
        have HLe : Hid (((txt ((l.take i).map S3.t) ++ wk n) ++ (32 :: Lib.itoa f.a)).length ≤ 70368744177664) := by show _ ≤ _; have g1 := HLt.out; have g2 := HLw.out; have g3 := HN.out; have g4 := HYl6.out; simp only [List.length_append] at *; omega
        go_wp2_with (at_builtin; refine wpList_append_c1 _ rfl _ _ rfl w0 _ _ rfl (HU7.out.bz.alloc _) _ 10 rfl ((cell_dc1 _ _).trans (congrArg some int10)) HLe.out ?_; intro v9 w9 h9 c9; have HB9 := hyd h9; clear h9 c9)
        have HB9' : Hid (Bz w0 w9 v9 (txt ((l.take (i + 1)).map S3.t))) := by
          show Bz _ _ _ _
          have h9 := HB9.out
          rw [txt_next HF.out, HE.out, hc]
          simpa [nms, List.append_assoc] using h9
        go_roundg (1099511627776 - (i + 1))
        case measure => have := HN.out; omega
        case rel => exact ⟨i + 1, by simp, by omega, Nat.le_refl _, HB9', fun j g' hj hg' => by
          by_cases hji : j < i
          · exact HT.out j g' hji hg'
          · have e : j = i := by omega
            subst e
            rw [HF.out] at hg'
            injection hg' with e
            subst e
            exact HTf.out⟩
      · rw [hc] at hcn
        go_wp2_with (at_builtin; refine wpList_append_cs _ rfl _ _ rfl w0 _ _ rfl HU.out.bz _ (wk n) rfl rfl HL1.out ?_; intro v5 w5 h5 c5; have HU5 := hyd (HU.out.go h5 c5); clear h5 c5; refine Hid.out ?_)
        refine Lib.hid ?_
        clear q0 q1 q2 hcn hwn HU HR2
        have HR5 := hyd (HR0.out.new HU5.out.bz.chg)
        obtain ⟨q05, q15, q25⟩ := HU5.out.fo.cells
        rw [HKN.out] at q05
        have hc5 := HR5.out.cnt hk10
        rw [hc] at hc5
        go_wp2_with (first | (go_at_call 34; refine (decimal_any f.a HIf.out.1 _).mono ?_; rintro e w6 ⟨Y6, rfl, HY6, C6⟩; refine Hid.out ?_))
        refine Lib.hid ?_
        have HU6 := hyd (HU5.out.new C6)
        have HYl6 : Hid ((32 :: Lib.itoa f.a : List UInt8).length ≤ 21) := by show _ ≤ _; rw [List.length_cons]; have := itoa_len HIf.out.1; omega
        have hYs6 : ¬ 9223372036854775807 < 1 + Y6.size := by have h1 : Y6.size ≤ 20 := (by rw [HY6.out, sb_size]; exact itoa_len HIf.out.1); omega
        have HYs6 : Hid ((⟨#[32]⟩ : ByteArray) ++ Y6 = sb (32 :: Lib.itoa f.a)) := by show _ = _; rw [HY6.out]; exact sb_add _
        have HLs6 : Hid (((txt ((l.take i).map S3.t) ++ wk n)).length + (32 :: Lib.itoa f.a : List UInt8).length ≤ 70368744177664) := by show _ ≤ _; have h0 := HYl6.out; have g1 := HLt.out; have g2 := HLw.out; have g3 := HN.out; simp only [List.length_append] at *; omega
        clear C6 HU5 HR5 q05 q15 q25 hc5
        go_wp2_with (at_builtin; refine wpList_append_cs _ rfl _ _ rfl w0 _ _ rfl HU6.out.bz _ (32 :: Lib.itoa f.a) HYs6.out rfl HLs6.out ?_; intro v8 w8 h8 c8; have HU8 := hyd (HU6.out.go h8 c8); clear h8 c8; refine Hid.out ?_)
        refine Lib.hid ?_
        clear HU6
        have HR8 := hyd (HR0.out.new HU8.out.bz.chg)
        obtain ⟨q08, q18, q28⟩ := HU8.out.fo.cells
        rw [HKN.out] at q08
        have hc8 := HR8.out.cnt hk10
        rw [hc] at hc8
        go_wp2_with (first | (go_at_call 34; refine (decimal_any f.b HIf.out.2 _).mono ?_; rintro e w7 ⟨Y7, rfl, HY7, C7⟩; refine Hid.out ?_))
        refine Lib.hid ?_
        have HU7 := hyd (HU8.out.new C7)
        have HYl7 : Hid ((32 :: Lib.itoa f.b : List UInt8).length ≤ 21) := by show _ ≤ _; rw [List.length_cons]; have := itoa_len HIf.out.2; omega
        have hYs7 : ¬ 9223372036854775807 < 1 + Y7.size := by have h1 : Y7.size ≤ 20 := (by rw [HY7.out, sb_size]; exact itoa_len HIf.out.2); omega
        have HYs7 : Hid ((⟨#[32]⟩ : ByteArray) ++ Y7 = sb (32 :: Lib.itoa f.b)) := by show _ = _; rw [HY7.out]; exact sb_add _
        have HLs7 : Hid (((txt ((l.take i).map S3.t) ++ wk n) ++ (32 :: Lib.itoa f.a)).length + (32 :: Lib.itoa f.b : List UInt8).length ≤ 70368744177664) := by show _ ≤ _; have h0 := HYl7.out; have g1 := HLt.out; have g2 := HLw.out; have g3 := HN.out; have g4 := HYl6.out; simp only [List.length_append] at *; omega
        clear C7 HU8 HR8 q08 q18 q28 hc8
        go_wp2_with (at_builtin; refine wpList_append_cs _ rfl _ _ rfl w0 _ _ rfl HU7.out.bz _ (32 :: Lib.itoa f.b) HYs7.out rfl HLs7.out ?_; intro v4 w4 h4 c4; have HU4 := hyd (HU7.out.go h4 c4); clear h4 c4; refine Hid.out ?_)
        refine Lib.hid ?_
        clear HU7
        have HR4 := hyd (HR0.out.new HU4.out.bz.chg)
        obtain ⟨q04, q14, q24⟩ := HU4.out.fo.cells
        rw [HKN.out] at q04
        have hc4 := HR4.out.cnt hk10
        rw [hc] at hc4
        have HLe : Hid (((txt ((l.take i).map S3.t) ++ wk n) ++ (32 :: Lib.itoa f.a) ++ (32 :: Lib.itoa f.b)).length ≤ 70368744177664) := by show _ ≤ _; have g1 := HLt.out; have g2 := HLw.out; have g3 := HN.out; have g4 := HYl6.out; have g5 := HYl7.out; simp only [List.length_append] at *; omega
        go_wp2_with (at_builtin; refine wpList_append_c1 _ rfl _ _ rfl w0 _ _ rfl (HU4.out.bz.alloc _) _ 10 rfl ((cell_dc1 _ _).trans (congrArg some int10)) HLe.out ?_; intro v9 w9 h9 c9; have HB9 := hyd h9; clear h9 c9)
        have HB9' : Hid (Bz w0 w9 v9 (txt ((l.take (i + 1)).map S3.t))) := by
          show Bz _ _ _ _
          have h9 := HB9.out
          rw [txt_next HF.out, HE.out, hc]
          simpa [nms, List.append_assoc] using h9
        go_roundg (1099511627776 - (i + 1))
        case measure => have := HN.out; omega
        case rel => exact ⟨i + 1, by simp, by omega, Nat.le_refl _, HB9', fun j g' hj hg' => by
          by_cases hji : j < i
          · exact HT.out j g' hji hg'
          · have e : j = i := by omega
            subst e
            rw [HF.out] at hg'
            injection hg' with e
            subst e
            exact HTf.out⟩
    · have HTf : Hid (tld f = false) := by show _ = _; simpa using ht
      have hres : w2.heap[w.heap.size]? = _ := HR2.out.res
      have z0 : w2.cell? ⟨w.heap.size, 0, none⟩ = some (.int .i64 0) := by simp [World.cell?, hres]
      have z1 : w2.cell? ⟨w.heap.size, 1, none⟩ = some (.int .i64 0) := by simp [World.cell?, hres]
      have z2 : w2.cell? ⟨w.heap.size, 2, none⟩ = some (.int .i64 0) := by simp [World.cell?, hres]
      have y0 : w2.frozen? ⟨w.heap.size, 0, none⟩ = false := by simp [World.frozen?, hres]
      have y1 : w2.frozen? ⟨w.heap.size, 1, none⟩ = false := by simp [World.frozen?, hres]
      have y2 : w2.frozen? ⟨w.heap.size, 2, none⟩ = false := by simp [World.frozen?, hres]
      have HW3 : Hid ((((w2.setCell ⟨w.heap.size, 0, none⟩ (.int .i64 3)).setCell ⟨w.heap.size, 1, none⟩ (.int .i64 (i + 1))).setCell ⟨w.heap.size, 2, none⟩ (.int .i64 0)).heap[w.heap.size]? = some (.cells #[.int .i64 3, .int .i64 (i + 1), .int .i64 0] 35)) := by
        show _ = _
        simp [World.setCell, Array.getElem?_modify, hres]
      have HC3 : Hid (Chg (fun _ => False) w (((w2.setCell ⟨w.heap.size, 0, none⟩ (.int .i64 3)).setCell ⟨w.heap.size, 1, none⟩ (.int .i64 (i + 1))).setCell ⟨w.heap.size, 2, none⟩ (.int .i64 0))) :=
        ((HR2.out.chg.setCell (Or.inr (Nat.le_refl _)) 0 _).setCell (Or.inr (Nat.le_refl _)) 1 _).setCell (Or.inr (Nat.le_refl _)) 2 _
      clear hres
      have HNt : Hid (¬ (1 ≤ f.k ∧ f.k ≤ 10 ∧ (0 < cnt f.k.toNat ∨ f.a = 0) ∧ (1 < cnt f.k.toNat ∨ f.b = 0))) := by
        have h := HTf.out
        unfold tld at h
        exact of_decide_eq_false h
      by_cases k1 : f.k < 1
      · clear ht
        go_wp2_with fail
        exact bodyPost_ret (results_bd rfl _ rfl HW3.out) rfl ⟨HC3.out, ⟨Or.inl ⟨i, f, HF.out, HTf.out, HT.out, rfl⟩⟩⟩
      by_cases k2 : f.k > 10
      · clear ht
        go_wp2_with fail
        exact bodyPost_ret (results_bd rfl _ rfl HW3.out) rfl ⟨HC3.out, ⟨Or.inl ⟨i, f, HF.out, HTf.out, HT.out, rfl⟩⟩⟩
      obtain ⟨n, hn⟩ : ∃ n : Nat, f.k = n := ⟨f.k.toNat, by omega⟩
      have hcn := HR2.out.cnt (n := n) (by omega)
      have HNn : Hid (¬ ((0 < cnt n ∨ f.a = 0) ∧ (1 < cnt n ∨ f.b = 0))) := by
        intro h
        refine HNt.out ⟨by omega, by omega, ?_⟩
        rw [hn]; exact h
      rw [hn] at q0 k1 k2
      have hn10 : n ≤ 10 := by omega
      clear ht hn
      have hc3 : cnt n = 0 ∨ cnt n = 1 ∨ cnt n = 2 := by have := cnt_le n; omega
      rcases hc3 with hc | hc | hc
      · rw [hc] at hcn
        by_cases ha : f.a = 0
        · rw [ha] at q1
          have hb : (f.b == 0) = false := by have := HNn.out; rw [hc] at this; simp; intro e; exact this ⟨Or.inr ha, Or.inr e⟩
          go_wp2_with fail
          exact bodyPost_ret (results_bd rfl _ rfl HW3.out) rfl ⟨HC3.out, ⟨Or.inl ⟨i, f, HF.out, HTf.out, HT.out, rfl⟩⟩⟩
        · have ha' : (f.a == 0) = false := by simpa using ha
          go_wp2_with fail
          exact bodyPost_ret (results_bd rfl _ rfl HW3.out) rfl ⟨HC3.out, ⟨Or.inl ⟨i, f, HF.out, HTf.out, HT.out, rfl⟩⟩⟩
      · rw [hc] at hcn
        have hb : (f.b == 0) = false := by have := HNn.out; rw [hc] at this; simp; intro e; exact this ⟨Or.inl (by omega), Or.inr e⟩
        go_wp2_with fail
        exact bodyPost_ret (results_bd rfl _ rfl HW3.out) rfl ⟨HC3.out, ⟨Or.inl ⟨i, f, HF.out, HTf.out, HT.out, rfl⟩⟩⟩
      · exact absurd ⟨Or.inl (by omega), Or.inl (by omega)⟩ HNn.out
  · have hltz : ¬ (i : Int) < m := by omega
    have hcv := HB.out.str
    have HRe := hyd (HR0.out.new HB.out.chg)
    have hres : wr.heap[w.heap.size]? = _ := HRe.out.res
    have z0 : wr.cell? ⟨w.heap.size, 0, none⟩ = some (.int .i64 0) := by simp [World.cell?, hres]
    have z1 : wr.cell? ⟨w.heap.size, 1, none⟩ = some (.int .i64 0) := by simp [World.cell?, hres]
    have z2 : wr.cell? ⟨w.heap.size, 2, none⟩ = some (.int .i64 0) := by simp [World.cell?, hres]
    have y0 : wr.frozen? ⟨w.heap.size, 0, none⟩ = false := by simp [World.frozen?, hres]
    have y1 : wr.frozen? ⟨w.heap.size, 1, none⟩ = false := by simp [World.frozen?, hres]
    have y2 : wr.frozen? ⟨w.heap.size, 2, none⟩ = false := by simp [World.frozen?, hres]
    have hw3 : (((wr.setCell ⟨w.heap.size, 0, none⟩ (.int .i64 0)).setCell ⟨w.heap.size, 1, none⟩ (.int .i64 0)).setCell ⟨w.heap.size, 2, none⟩ (.int .i64 0)).heap[w.heap.size]? = some (.cells #[.int .i64 0, .int .i64 0, .int .i64 0] 35) := by
      simp [World.setCell, Array.getElem?_modify, hres]
    have x0 : (((wr.setCell ⟨w.heap.size, 0, none⟩ (.int .i64 0)).setCell ⟨w.heap.size, 1, none⟩ (.int .i64 0)).setCell ⟨w.heap.size, 2, none⟩ (.int .i64 0)).cell? ⟨w.heap.size, 0, none⟩ = some (.int .i64 0) := by simp [World.cell?, hw3]
    have x1 : (((wr.setCell ⟨w.heap.size, 0, none⟩ (.int .i64 0)).setCell ⟨w.heap.size, 1, none⟩ (.int .i64 0)).setCell ⟨w.heap.size, 2, none⟩ (.int .i64 0)).cell? ⟨w.heap.size, 1, none⟩ = some (.int .i64 0) := by simp [World.cell?, hw3]
    have x2 : (((wr.setCell ⟨w.heap.size, 0, none⟩ (.int .i64 0)).setCell ⟨w.heap.size, 1, none⟩ (.int .i64 0)).setCell ⟨w.heap.size, 2, none⟩ (.int .i64 0)).cell? ⟨w.heap.size, 2, none⟩ = some (.int .i64 0) := by simp [World.cell?, hw3]
    have hC3 : Chg (fun _ => False) w (((wr.setCell ⟨w.heap.size, 0, none⟩ (.int .i64 0)).setCell ⟨w.heap.size, 1, none⟩ (.int .i64 0)).setCell ⟨w.heap.size, 2, none⟩ (.int .i64 0)) :=
      ((HRe.out.chg.setCell (Or.inr (Nat.le_refl _)) 0 _).setCell (Or.inr (Nat.le_refl _)) 1 _).setCell (Or.inr (Nat.le_refl _)) 2 _
    have HC3 := hyd hC3
    have HW3 := hyd hw3
    have HE : Hid (i = m) := by show _ = _; omega
    clear hres hw3 hC3 x0 x1 x2
    go_wp2_with fail
    refine bodyPost_ret (results_bd rfl _ rfl HW3.out) rfl ⟨HC3.out, ⟨Or.inr ⟨?_, _, rfl, ?_⟩⟩⟩
    · intro f hf
      obtain ⟨j, hj, hj2⟩ := List.getElem_of_mem hf
      have hj3 : l[j]? = some f := by rw [← hj2]; exact List.getElem?_eq_getElem _
      exact HT.out j f (by have := HE.out; have := HM.out; omega) hj3
    · rw [← List.map_take, List.take_of_length_le (by have := HE.out; have := HM.out; omega)]
end Go.Proofs.YtepbfdbooobnlaaGreatDoor
