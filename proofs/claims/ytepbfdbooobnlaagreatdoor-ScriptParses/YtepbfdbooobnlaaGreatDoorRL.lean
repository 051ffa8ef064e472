/-
  The document's reading of a line: what it answers. Condition: the line has at most 65536 bytes.
-/
import Derived.Test.YtepbfdbooobnlaaGreatDoorRW
import Derived.Test.YtepbfdbooobnlaaGreatDoorRF
import Derived.Test.YtepbfdbooobnlaaGreatDoorSW
namespace Go.Proofs.YtepbfdbooobnlaaGreatDoor
set_option maxRecDepth 100000
open Go.RowKit
theorem whole_yes (X : ByteArray) (l : List UInt8) (hX : X = sb l) (v : Int) (hv : num l = some v) (w : World) :
    Calls Tryz.prog 44 #[.string X] w fun e w' => e = .returned (.tuple #[.int .i64 v, .bool true]) ∧ w' = w := by
  refine (whole_any X l hX w).mono ?_
  rintro e w' ⟨⟨u, h1, h2⟩ | ⟨h1, _⟩, h3⟩
  · rw [hv] at h1
    rw [Option.some.inj h1]
    exact ⟨h2, h3⟩
  · rw [hv] at h1; cases h1
theorem whole_no (X : ByteArray) (l : List UInt8) (hX : X = sb l) (hv : num l = none) (w : World) :
    Calls Tryz.prog 44 #[.string X] w fun e w' => ∃ x : Int, e = .returned (.tuple #[.int .i64 x, .bool false]) ∧ w' = w := by
  refine (whole_any X l hX w).mono ?_
  rintro e w' ⟨⟨u, h1, h2⟩ | ⟨_, x, h2⟩, h3⟩
  · rw [hv] at h1; cases h1
  · exact ⟨x, h2, h3⟩
/-- What the document's 'line' answers. -/
def LiR (e : Ending) : Ln → Prop
  | .ok none => e = .returned (.tuple #[sv 0 0 0, .bool false, .int .i64 0, .int .i64 0])
  | .ok (some s) => e = .returned (.tuple #[sv s.k s.a s.b, .bool true, .int .i64 0, .int .i64 0])
  | .error (c, p) => e = .returned (.tuple #[sv 0 0 0, .bool false, .int .i64 c, .int .i64 p])
theorem results_ln {fn : Func} {q a b c : Tmp} (h : fn.results = #[.cell q 50, .tmp a, .tmp b, .tmp c]) (tmps : Array Value) {w : World} {g : Nat} {k x y : Int} (hp : tmps.getD q undef = .pointer (some ⟨g, 0, none⟩)) (hT : Stc w g k x y) :
    (results fn tmps).run Tryz.prog w = .ok (.tuple #[.agg #[.int .i64 k, .int .i64 x, .int .i64 y], tmps.getD a undef, tmps.getD b undef, tmps.getD c undef]) w := by
  have e : (results fn tmps).run Tryz.prog w = ((asAddr (tmps.getD q undef)).run Tryz.prog w).andThen fun z w₁ => ((loadVar 50 z).run Tryz.prog w₁).andThen fun v w₂ => .ok (.tuple #[v, tmps.getD a undef, tmps.getD b undef, tmps.getD c undef]) w₂ := by
    simp only [results, h]
    simp [Sem.run_bind, Result.andThen]
  rw [e, hp]
  simp [asAddr, run_loadVar_row w g 50 50 _ _ _ hT Tryz.underlying50 rfl size50]
theorem Stc.c1 {w : World} {g : Nat} {k a b : Int} (h : Stc w g k a b) : w.cell? ⟨g, 1, none⟩ = some (.int .i64 a) := by
  have h' : w.heap[g]? = _ := h
  simp [World.cell?, h']
theorem Stc.c2 {w : World} {g : Nat} {k a b : Int} (h : Stc w g k a b) : w.cell? ⟨g, 2, none⟩ = some (.int .i64 b) := by
  have h' : w.heap[g]? = _ := h
  simp [World.cell?, h']
theorem Stc.fz {w : World} {g : Nat} {k a b : Int} (h : Stc w g k a b) (i : Nat) : w.frozen? ⟨g, i, none⟩ = false := by
  have h' : w.heap[g]? = _ := h
  simp [World.frozen?, h']
theorem Stc.set1 {w : World} {g : Nat} {k a b : Int} (h : Stc w g k a b) (v : Int) : Stc (w.setCell ⟨g, 1, none⟩ (.int .i64 v)) g k v b := by
  have h' : w.heap[g]? = _ := h
  show (w.setCell ⟨g, 1, none⟩ _).heap[g]? = _
  simp [World.setCell, Array.getElem?_modify, h']
theorem Stc.set0 {w : World} {g : Nat} {k a b : Int} (h : Stc w g k a b) (v : Int) : Stc (w.setCell ⟨g, 0, none⟩ (.int .i64 v)) g v a b := by
  have h' : w.heap[g]? = _ := h
  show (w.setCell ⟨g, 0, none⟩ _).heap[g]? = _
  simp [World.setCell, Array.getElem?_modify, h']
theorem Stc.set2 {w : World} {g : Nat} {k a b : Int} (h : Stc w g k a b) (v : Int) : Stc (w.setCell ⟨g, 2, none⟩ (.int .i64 v)) g k a v := by
  have h' : w.heap[g]? = _ := h
  show (w.setCell ⟨g, 2, none⟩ _).heap[g]? = _
  simp [World.setCell, Array.getElem?_modify, h']
theorem wpList_load_st {ops : Array Oper} {rest : List Oper} {o : Oper} {a : Act} {w : World} {Q : Exit → Act → World → Prop} (hgd : o.guard = none) (x : Operand) (ho : o.op = .load 50 x)
    (g : Nat) (hx : a.eval x = .pointer (some ⟨g, 0, none⟩)) {k p q : Int} (hg : Stc w g k p q)
    (h : wpList Tryz.prog ops Q rest (a.put o.dst (.agg #[.int .i64 k, .int .i64 p, .int .i64 q])) w) : wpList Tryz.prog ops Q (o :: rest) a w :=
  wpList_load_row hgd 50 x ho g hx 50 _ _ _ hg Tryz.underlying50 rfl size50 h
theorem due_18 {l : List UInt8} {p : Nat} (h : en (l.drop (nx l p)) = true) : due l p = .error (18, nx l p) := by rw [due, if_pos h]
theorem due_17 {l : List UInt8} {p : Nat} (h : en (l.drop (nx l p)) = false) (hn : num (wo l (nx l p)) = none) : due l p = .error (17, nx l p) := by rw [due, if_neg (by rw [h]; simp), hn]
theorem due_v {l : List UInt8} {p : Nat} {v : Int} (h : en (l.drop (nx l p)) = false) (hn : num (wo l (nx l p)) = some v) : due l p = .ok (v, af l (nx l p)) := by rw [due, if_neg (by rw [h]; simp), hn]
theorem wrd_at {w : World} {g : Nat} (h : w.heap[g]? = some (.cells (wds.map sy).toArray 9)) {n : Nat} (hn : n ≤ 10) : w.cell? ⟨g, n, none⟩ = some (.string (sb (wk n))) := by
  simp only [World.cell?, h]
  match n, hn with
  | 0, _ | 1, _ | 2, _ | 3, _ | 4, _ | 5, _ | 6, _ | 7, _ | 8, _ | 9, _ | 10, _ => rfl
theorem cnt_at {w : World} {g : Nat} (h : w.heap[g]? = some (.cells #[.int .i64 0, .int .i64 1, .int .i64 2, .int .i64 1, .int .i64 0, .int .i64 0, .int .i64 2, .int .i64 2, .int .i64 1, .int .i64 1, .int .i64 0] 3)) {n : Nat} (hn : n ≤ 10) : w.cell? ⟨g, n, none⟩ = some (.int .i64 (cnt n : Nat)) := by
  simp only [World.cell?, h]
  match n, hn with
  | 0, _ | 1, _ | 2, _ | 3, _ | 4, _ | 5, _ | 6, _ | 7, _ | 8, _ | 9, _ | 10, _ => rfl
set_option maxHeartbeats 4000000 in
theorem rline_any (X : ByteArray) (hs : X.size ≤ 65536) (w : World) :
    Calls Tryz.prog 24 #[.string X] w fun e w' => Chg (fun _ => False) w w' ∧ LiR e (lin X.data.toList) := by
  generalize hD : lin X.data.toList = D
  have HD := hyd hD
  clear hD
  have HR0 : Hid (Stc ((w.alloc (.cells #[.int .i64 0, .int .i64 0, .int .i64 0] 50)).alloc (.cells #[.string X, .int .i64 0] 92)) w.heap.size 0 0 0) := (Below.heap_alloc _ _ _ (by simp)).trans (heap_new _ _)
  have HD0 : Hid (Rdr ((w.alloc (.cells #[.int .i64 0, .int .i64 0, .int .i64 0] 50)).alloc (.cells #[.string X, .int .i64 0] 92)) (w.heap.size + 1) X 0) := by
    have := heap_new (w.alloc (.cells #[.int .i64 0, .int .i64 0, .int .i64 0] 50)) (.cells #[.string X, .int .i64 0] 92)
    rwa [show (w.alloc (.cells #[.int .i64 0, .int .i64 0, .int .i64 0] 50)).heap.size = w.heap.size + 1 by simp] at this
  have HC0 : Hid (Chg (fun _ => False) w ((w.alloc (.cells #[.int .i64 0, .int .i64 0, .int .i64 0] 50)).alloc (.cells #[.string X, .int .i64 0] 92))) := ((Chg.refl _ w).alloc _).alloc _
  go_enter Tryz.func24, Tryz.ntmps24
  go_wp2_with (go_at_call 42; refine (rest_any _ X 0 _ hs (Nat.zero_le _) HD0.out).mono ?_; rintro e w1 ⟨rfl, hL1, hC1⟩; refine Hid.out ?_)
  refine Lib.hid ?_
  have HL1 := hyd hL1
  have HC1 := hyd (HC0.out.trans' hC1 (fun k hk e => by omega))
  have HR1 := hyd (HR0.out.chg hC1 (by omega))
  clear hL1 hC1 HD0 HR0 HC0
  have HB1 := hyd (nx_le (l := X.data.toList) (Nat.zero_le _))
  by_cases hen : en (X.data.toList.drop (nx X.data.toList 0)) = true
  · have HE : Hid (D = .ok none) := by show _ = _; rw [← HD.out, lin, if_pos hen]
    rw [hen]
    clear hen
    go_wp2_with (refine wpList_store_st rfl (.tmp 2) (.tmp 27) rfl w.heap.size rfl rfl HR1.out ?_)
    intro w2 T2 C2
    have HC2 := hyd (HC1.out.trans' C2 (fun i hi e => by omega))
    have HT2 := hyd T2
    clear T2 C2
    go_wp2
    refine bodyPost_ret (results_ln rfl _ rfl HT2.out) rfl ⟨HC2.out, ?_⟩
    rw [HE.out]
    rfl
  · rw [Bool.not_eq_true] at hen
    rw [hen]
    have HEN := hyd hen
    clear hen
    have hat := HL1.out.c1
    go_wp2_with (go_at_call 43; refine (rword_any _ X _ _ hs (by rw [size_len]; exact HB1.out) HL1.out).mono ?_; rintro e w2 ⟨Y, rfl, HY, hL2, hC2⟩; refine Hid.out ?_)
    refine Lib.hid ?_
    have HL2 := hyd hL2
    have HC2 := hyd (HC1.out.trans' hC2 (fun k hk e => by omega))
    have HR2 := hyd (HR1.out.chg hC2 (by omega))
    have HP1 : Hid (af X.data.toList (nx X.data.toList 0) ≤ X.size) := by show _ ≤ _; rw [size_len]; exact af_le HB1.out
    have HD1 : Hid (kd (wo X.data.toList (nx X.data.toList 0)) = 0 → D = .error (16, nx X.data.toList 0)) := by
      intro h; rw [← HD.out, lin, if_neg (by rw [HEN.out]; simp), if_pos h]
    have HD2 : Hid (kd (wo X.data.toList (nx X.data.toList 0)) ≠ 0 → D = lk X.data.toList (kd (wo X.data.toList (nx X.data.toList 0))) (af X.data.toList (nx X.data.toList 0))) := by
      intro h; rw [← HD.out, lin, if_neg (by rw [HEN.out]; simp), if_neg h]; rfl
    clear hL2 hC2 HL1 HC1 HR1 hat HB1 HD HEN
    generalize wo X.data.toList (nx X.data.toList 0) = wx at *
    generalize af X.data.toList (nx X.data.toList 0) = p1 at *
    generalize nx X.data.toList 0 = b0 at *
    have HW3 : Hid ((w2.alloc (.cells (wds.map sy).toArray 9)).heap[w2.heap.size]? = some (.cells (wds.map sy).toArray 9)) := heap_new _ _
    have HA3 : Hid (Chg (fun _ => False) w2 (w2.alloc (.cells (wds.map sy).toArray 9))) := (Chg.refl _ _).alloc _
    have HL3 := hyd (HL2.out.chg HA3.out (fun f => f))
    have HR3 := hyd (HR2.out.chg HA3.out (fun f => f))
    have HC3 := hyd (HC2.out.trans HA3.out)
    go_wp2_with (go_at_call 32; refine (words_v _).mono ?_; rintro e w3 ⟨rfl, rfl⟩; refine Hid.out ?_)
    refine Lib.hid ?_
    clear HL2 HR2 HC2 HA3
    generalize w2.alloc (.cells (wds.map sy).toArray 9) = w3 at *
    generalize w2.heap.size = gw at *
    go_wp2_with fail
    go_loopg [11, 12] 11 (fun kx s11 s12 wr => ∃ k : Nat, s12 = .int .i64 k ∧ 1 ≤ k ∧ k ≤ 11 ∧ 11 - k ≤ kx ∧ s11 = .int .i64 (kdN wx k : Nat) ∧ wr = w3)
    case atStart => exact ⟨1, rfl, by omega, by omega, by omega, rfl, rfl⟩
    case round =>
    obtain ⟨k, rfl, hk1, hk11, hkx, rfl, rfl⟩ := hrel
    by_cases hlt : k < 11
    · have hltz : (k : Int) < 11 := by omega
      have hkz : (0 : Int) ≤ k := by omega
      have hcw := wrd_at HW3.out (show k ≤ 10 by omega)
      generalize hB : sb (wk k) = B at *
      have HB := hyd hB
      clear hB
      by_cases e : B = Y
      · have he := seq_true e
        have HK : Hid (kdN wx (k + 1) = k) := by
          have h : wk k = wx := sb_inj ((HB.out.trans e).trans HY.out)
          show _ = _
          rw [kdN, if_pos ⟨by omega, h⟩]
        clear e
        go_wp2
        go_roundg (11 - (k + 1))
        case measure => omega
        case rel => exact ⟨k + 1, by simp, by omega, by omega, Nat.le_refl _, by rw [HK.out], rfl⟩
      · have he := seq_false e
        have HK : Hid (kdN wx (k + 1) = kdN wx k) := by
          show _ = _
          rw [kdN, if_neg]
          rintro ⟨_, h⟩
          exact e (HB.out.symm.trans (by rw [h]; exact HY.out.symm))
        clear e
        go_wp2
        go_roundg (11 - (k + 1))
        case measure => omega
        case rel => exact ⟨k + 1, by simp, by omega, by omega, Nat.le_refl _, by rw [HK.out], rfl⟩
    · have hltz : ¬ (k : Int) < 11 := by omega
      have hk : k = 11 := by omega
      subst hk
      rw [show kdN wx 11 = kd wx from rfl]
      have hk10 := kd_le wx
      generalize kd wx = K at *
      by_cases hk0 : K = 0
      · have hkz : ((K : Int) == 0) = true := by simp; omega
        have HE := hyd (HD1.out hk0)
        clear hk0
        go_wp2_with (refine wpList_store_st rfl (.tmp 2) (.tmp 50) rfl w.heap.size rfl rfl HR3.out ?_)
        intro w4 T4 C4
        have HC4 := hyd (HC3.out.trans' C4 (fun i hi e => by omega))
        have HT4 := hyd T4
        clear T4 C4
        go_wp2
        refine bodyPost_ret (results_ln rfl _ rfl HT4.out) rfl ⟨HC4.out, ?_⟩
        rw [HE.out]
        rfl
      · have hkz : ((K : Int) == 0) = false := by simp; omega
        have HE := hyd (HD2.out hk0)
        clear hk0 HD1 HD2
        have HT4 : Hid (Stc (wr.alloc (.cells #[.int .i64 K, .int .i64 0, .int .i64 0] 50)) wr.heap.size K 0 0) := heap_new _ _
        have HA4 : Hid (Chg (fun _ => False) wr (wr.alloc (.cells #[.int .i64 K, .int .i64 0, .int .i64 0] 50))) := (Chg.refl _ _).alloc _
        have HN5 : Hid (((wr.alloc (.cells #[.int .i64 K, .int .i64 0, .int .i64 0] 50)).alloc (.cells #[.int .i64 0, .int .i64 1, .int .i64 2, .int .i64 1, .int .i64 0, .int .i64 0, .int .i64 2, .int .i64 2, .int .i64 1, .int .i64 1, .int .i64 0] 3)).heap[wr.heap.size + 1]? = some (.cells #[.int .i64 0, .int .i64 1, .int .i64 2, .int .i64 1, .int .i64 0, .int .i64 0, .int .i64 2, .int .i64 2, .int .i64 1, .int .i64 1, .int .i64 0] 3)) := by
          have := heap_new (wr.alloc (.cells #[.int .i64 K, .int .i64 0, .int .i64 0] 50)) (.cells #[.int .i64 0, .int .i64 1, .int .i64 2, .int .i64 1, .int .i64 0, .int .i64 0, .int .i64 2, .int .i64 2, .int .i64 1, .int .i64 1, .int .i64 0] 3)
          rwa [show (wr.alloc (.cells #[.int .i64 K, .int .i64 0, .int .i64 0] 50)).heap.size = wr.heap.size + 1 by simp] at this
        have HA5 : Hid (Chg (fun _ => False) wr ((wr.alloc (.cells #[.int .i64 K, .int .i64 0, .int .i64 0] 50)).alloc (.cells #[.int .i64 0, .int .i64 1, .int .i64 2, .int .i64 1, .int .i64 0, .int .i64 0, .int .i64 2, .int .i64 2, .int .i64 1, .int .i64 1, .int .i64 0] 3))) := HA4.out.alloc _
        have HT5 : Hid (Stc ((wr.alloc (.cells #[.int .i64 K, .int .i64 0, .int .i64 0] 50)).alloc (.cells #[.int .i64 0, .int .i64 1, .int .i64 2, .int .i64 1, .int .i64 0, .int .i64 0, .int .i64 2, .int .i64 2, .int .i64 1, .int .i64 1, .int .i64 0] 3)) wr.heap.size K 0 0) := HT4.out.chg ((Chg.refl (fun _ => False) _).alloc _) (fun f => f)
        have HL5 := hyd (HL3.out.chg HA5.out (fun f => f))
        have HR5 := hyd (HR3.out.chg HA5.out (fun f => f))
        have HC5 := hyd (HC3.out.trans HA5.out)
        have HTg : Hid (w.heap.size + 1 < wr.heap.size) := HL3.out.lt
        go_wp2_with (go_at_call 33; refine (counts_v _).mono ?_; rintro e w5 ⟨rfl, rfl⟩; refine Hid.out ?_)
        refine Lib.hid ?_
        clear HL3 HR3 HC3 HA5 HT4 HA4 HW3
        generalize (wr.alloc (.cells #[.int .i64 K, .int .i64 0, .int .i64 0] 50)).alloc (.cells #[.int .i64 0, .int .i64 1, .int .i64 2, .int .i64 1, .int .i64 0, .int .i64 0, .int .i64 2, .int .i64 2, .int .i64 1, .int .i64 1, .int .i64 0] 3) = w5 at *
        generalize wr.heap.size = t at *
        have hc2 := cnt_le K
        go_wp2_with fail
        go_loopg [15] 2 (fun kx s15 wr => ∃ (i : Nat) (a b : Int) (p : Nat), s15 = .int .i64 i ∧ i ≤ cnt K ∧ 2 - i ≤ kx ∧ Hid (Rdn X.data.toList p1 i a b p) ∧ Hid (p ≤ X.size) ∧ Hid (Stc wr t K a b) ∧ Hid (Rdr wr (w.heap.size + 1) X p) ∧ Hid (Stc wr w.heap.size 0 0 0) ∧ Hid (wr.heap[t + 1]? = some (.cells #[.int .i64 0, .int .i64 1, .int .i64 2, .int .i64 1, .int .i64 0, .int .i64 0, .int .i64 2, .int .i64 2, .int .i64 1, .int .i64 1, .int .i64 0] 3)) ∧ Hid (Chg (fun _ => False) w wr))
        case atStart => exact ⟨0, 0, 0, p1, rfl, by omega, by omega, ⟨rfl, rfl, rfl⟩, HP1, HT5, HL5, HR5, HN5, HC5⟩
        case round =>
        clear HT5 HL5 HR5 HN5 HC5
        obtain ⟨i, a, b, p, rfl, hi, hkx, HRd, HPs, HT, HLi, HSt, HN, HC⟩ := hrel
        have hcn := cnt_at HN.out hk10
        have HBp := hyd (nx_le (l := X.data.toList) (p := p) (by rw [← size_len]; exact HPs.out))
        by_cases hlt : i < cnt K
        · have hltz : (i : Int) < (cnt K : Nat) := by omega
          go_wp2_with (go_at_call 42; refine (rest_any _ X p _ hs HPs.out HLi.out).mono ?_; rintro e w6 ⟨rfl, hL6, hC6⟩; refine Hid.out ?_)
          refine Lib.hid ?_
          have HL6 := hyd hL6
          have HC6 := hyd (HC.out.trans' hC6 (fun k hk e => by omega))
          have HR6 := hyd (HSt.out.chg hC6 (by omega))
          have HT6 := hyd (HT.out.chg hC6 (by have := HTg.out; omega))
          have HN6 := hyd ((hC6.block (t + 1) (Array.getElem?_eq_some_iff.1 HN.out).1 (by have := HTg.out; omega)).trans HN.out)
          have hat := hL6.c1
          clear hL6 hC6 HLi HC HSt HT HN hcn
          by_cases hen : en (X.data.toList.drop (nx X.data.toList p)) = true
          · have HE2 : Hid (D = .error (18, nx X.data.toList p)) := HE.out.trans (lk_bad hlt HRd.out (due_18 hen))
            rw [hen]
            clear hen
            go_wp2_with (refine wpList_store_st rfl (.tmp 2) (.tmp 70) rfl w.heap.size rfl rfl HR6.out ?_)
            intro w7 T7 C7
            have HC7 := hyd (HC6.out.trans' C7 (fun i hi e => by omega))
            have HT7 := hyd T7
            clear T7 C7
            go_wp2
            refine bodyPost_ret (results_ln rfl _ rfl HT7.out) rfl ⟨HC7.out, ?_⟩
            rw [HE2.out]
            rfl
          · rw [Bool.not_eq_true] at hen
            rw [hen]
            have HEN := hyd hen
            clear hen
            go_wp2_with (go_at_call 43; refine (rword_any _ X _ _ hs (by rw [size_len]; exact HBp.out) HL6.out).mono ?_; rintro e w7 ⟨Z, rfl, HZ, hL7, hC7⟩; refine Hid.out ?_)
            refine Lib.hid ?_
            have HL7 := hyd hL7
            have HC7 := hyd (HC6.out.trans' hC7 (fun k hk e => by omega))
            have HR7 := hyd (HR6.out.chg hC7 (by omega))
            have HT7 := hyd (HT6.out.chg hC7 (by have := HTg.out; omega))
            have HN7 := hyd ((hC7.block (t + 1) (Array.getElem?_eq_some_iff.1 HN6.out).1 (by have := HTg.out; omega)).trans HN6.out)
            clear hL7 hC7 HL6 HC6 HR6 HT6 HN6 hat
            cases hnm : num (wo X.data.toList (nx X.data.toList p)) with
            | none =>
              have HE2 : Hid (D = .error (17, nx X.data.toList p)) := HE.out.trans (lk_bad hlt HRd.out (due_17 HEN.out hnm))
              have HNM := hyd hnm
              clear hnm
              go_wp2_with (first | (go_at_call 44; refine (whole_no Z _ HZ.out HNM.out _).mono ?_; rintro e w7 ⟨x, rfl, rfl⟩) | (refine wpList_store_st rfl (.tmp 2) (.tmp 80) rfl w.heap.size rfl rfl HR7.out ?_))
              intro w9 T9 C9
              have HC9 := hyd (HC7.out.trans' C9 (fun i hi e => by omega))
              have HT9 := hyd T9
              clear T9 C9
              go_wp2
              refine bodyPost_ret (results_ln rfl _ rfl HT9.out) rfl ⟨HC9.out, ?_⟩
              rw [HE2.out]
              rfl
            | some v =>
              have HRn := hyd (HRd.out.next (by omega) (due_v HEN.out hnm))
              have HNM := hyd hnm
              have HPn : Hid (af X.data.toList (nx X.data.toList p) ≤ X.size) := by show _ ≤ _; rw [size_len]; exact af_le HBp.out
              clear hnm
              have c1 := HT7.out.c1
              have c2 := HT7.out.c2
              have z1 := HT7.out.fz 1
              have z2 := HT7.out.fz 2
              by_cases h0 : i = 0
              · subst h0
                have HRx := HRn
                rw [if_pos rfl, if_pos rfl] at HRx
                go_wp2_with (first | (go_at_call 44; refine (whole_yes Z _ HZ.out v HNM.out _).mono ?_; rintro e w7 ⟨rfl, rfl⟩))
                have hS := (Chg.refl (· = t) w7).setCell (Or.inl rfl) 1 (.int .i64 v)
                go_roundg 1
                case measure => omega
                case rel => exact ⟨1, v, b, _, rfl, by omega, Nat.le_refl _, HRx, HPn, HT7.out.set1 v, HL7.out.chg hS (by have := HTg.out; omega), HR7.out.chg hS (by have := HTg.out; omega), (hS.block (t + 1) (Array.getElem?_eq_some_iff.1 HN7.out).1 (by omega)).trans HN7.out, HC7.out.setCell (Or.inr (by have := HTg.out; omega)) _ _⟩
              · have hnz : ((i : Int) == 0) = false := by simp; omega
                have HRx := HRn
                rw [if_neg h0, if_neg h0] at HRx
                go_wp2_with (first | (go_at_call 44; refine (whole_yes Z _ HZ.out v HNM.out _).mono ?_; rintro e w7 ⟨rfl, rfl⟩))
                have hS := (Chg.refl (· = t) w7).setCell (Or.inl rfl) 2 (.int .i64 v)
                go_roundg (2 - (i + 1))
                case measure => omega
                case rel => exact ⟨i + 1, a, v, _, by simp, by omega, Nat.le_refl _, HRx, HPn, HT7.out.set2 v, HL7.out.chg hS (by have := HTg.out; omega), HR7.out.chg hS (by have := HTg.out; omega), (hS.block (t + 1) (Array.getElem?_eq_some_iff.1 HN7.out).1 (by omega)).trans HN7.out, HC7.out.setCell (Or.inr (by have := HTg.out; omega)) _ _⟩
        · have hltz : ¬ (i : Int) < (cnt K : Nat) := by omega
          have hic : i = cnt K := by omega
          have HE2 := hyd (HE.out.trans (lk_fin (by rw [← hic]; exact HRd.out)))
          go_wp2_with (go_at_call 42; refine (rest_any _ X p _ hs HPs.out HLi.out).mono ?_; rintro e w6 ⟨rfl, hL6, hC6⟩; refine Hid.out ?_)
          refine Lib.hid ?_
          have HL6 := hyd hL6
          have HC6 := hyd (HC.out.trans' hC6 (fun k hk e => by omega))
          have HR6 := hyd (HSt.out.chg hC6 (by omega))
          have HT6 := hyd (HT.out.chg hC6 (by have := HTg.out; omega))
          have hat := hL6.c1
          clear hL6 hC6 HLi HC HSt HT HN hcn hic
          by_cases hen : en (X.data.toList.drop (nx X.data.toList p)) = true
          · have HE3 : Hid (D = .ok (some ⟨K, a, b⟩)) := HE2.out.trans (by rw [fin, if_pos hen])
            rw [hen]
            clear hen
            go_wp2_with (first | (refine wpList_load_st rfl (.tmp 13) rfl t rfl HT6.out ?_) | (refine wpList_store_st rfl (.tmp 2) (.tmp 97) rfl w.heap.size rfl rfl HR6.out ?_))
            intro w7 T7 C7
            have HC7 := hyd (HC6.out.trans' C7 (fun i hi e => by omega))
            have HT7 := hyd T7
            clear T7 C7
            go_wp2
            refine bodyPost_ret (results_ln rfl _ rfl HT7.out) rfl ⟨HC7.out, ?_⟩
            rw [HE3.out]
            rfl
          · rw [Bool.not_eq_true] at hen
            have HE3 : Hid (D = .error (19, nx X.data.toList p)) := HE2.out.trans (by rw [fin, if_neg (by rw [hen]; simp)])
            rw [hen]
            clear hen
            have hh := HR6.out
            have HT7 := hyd (((hh.set0 0).set1 0).set2 0)
            have HC7 : Hid (Chg (fun _ => False) w (((w6.setCell ⟨w.heap.size, 0, none⟩ (.int .i64 0)).setCell ⟨w.heap.size, 1, none⟩ (.int .i64 0)).setCell ⟨w.heap.size, 2, none⟩ (.int .i64 0))) := ((HC6.out.setCell (Or.inr (Nat.le_refl _)) 0 _).setCell (Or.inr (Nat.le_refl _)) 1 _).setCell (Or.inr (Nat.le_refl _)) 2 _
            have z0 := hh.fz 0
            have z1 := hh.fz 1
            have z2 := hh.fz 2
            have c1 := hh.c1
            have c2 := hh.c2
            have c0 : w6.cell? ⟨w.heap.size, 0, none⟩ = some (.int .i64 0) := by
              have h' : w6.heap[w.heap.size]? = _ := hh
              simp [World.cell?, h']
            clear hh
            go_wp2_with fail
            go_region_with fail
            all_goals
              go_wp2
              refine bodyPost_ret (results_ln rfl _ rfl HT7.out) rfl ⟨HC7.out.drewN 1, ?_⟩
              rw [HE3.out]
              rfl
end Go.Proofs.YtepbfdbooobnlaaGreatDoor
