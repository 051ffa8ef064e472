/-
  A line's step (script): what it answers, or what is thrown. Condition: the line lies in a block and is read from its first byte on.
-/
import Derived.Test.YtepbfdbooobnlaaGreatDoorSD
namespace Go.Proofs.YtepbfdbooobnlaaGreatDoor
set_option maxRecDepth 100000
open Go.RowKit
/-- A step as a value. -/
def sv (k : Nat) (a b : Int) : Value := .agg #[.int .i64 k, .int .i64 a, .int .i64 b]
/-- What the call answers, or throws. -/
def LnR (n : Int) (w w' : World) (e : Ending) : Ln → Prop
  | .ok none => e = .returned (.tuple #[sv 0 0 0, .bool false])
  | .ok (some s) => e = .returned (.tuple #[sv s.k s.a s.b, .bool true])
  | .error (c, p) => Thr w w' e n p c
/-- Block g holds a step. -/
def Stc (w : World) (g : Nat) (k a b : Int) : Prop := w.heap[g]? = some (.cells #[.int .i64 k, .int .i64 a, .int .i64 b] 50)
def Two (w : World) (g : Nat) (a b : Int) : Prop := w.heap[g]? = some (.cells #[.int .i64 a, .int .i64 b] 88)
theorem Stc.chg {S : Nat → Prop} {w w' : World} {g : Nat} {k a b : Int} (h : Stc w g k a b) (hc : Chg S w w') (hs : ¬ S g) : Stc w' g k a b := (hc.block g (Array.getElem?_eq_some_iff.1 h).1 hs).trans h
theorem Two.chg {S : Nat → Prop} {w w' : World} {g : Nat} {a b : Int} (h : Two w g a b) (hc : Chg S w w') (hs : ¬ S g) : Two w' g a b := (hc.block g (Array.getElem?_eq_some_iff.1 h).1 hs).trans h
theorem size50 : (Tryz.prog.info? 50).map (·.size) = some 3 := by kernel_rfl
theorem results_st {fn : Func} {q u : Tmp} (h : fn.results = #[.cell q 50, .tmp u]) (tmps : Array Value) {w : World} {g : Nat} {k a b : Int} (hp : tmps.getD q undef = .pointer (some ⟨g, 0, none⟩)) (hT : Stc w g k a b) :
    (results fn tmps).run Tryz.prog w = .ok (.tuple #[.agg #[.int .i64 k, .int .i64 a, .int .i64 b], tmps.getD u undef]) w := by
  rw [results_cell_tmp h, hp]
  simp [asAddr, run_loadVar_row w g 50 50 _ _ _ hT Tryz.underlying50 rfl size50]
theorem wpList_store_st {ops : Array Oper} {rest : List Oper} {o : Oper} {a : Act} {w : World} {Q : Exit → Act → World → Prop} (hgd : o.guard = none) (x y : Operand) (ho : o.op = .store 50 x y)
    (g : Nat) (hx : a.eval x = .pointer (some ⟨g, 0, none⟩)) {k p q : Int} (hy : a.eval y = .agg #[.int .i64 k, .int .i64 p, .int .i64 q]) {k' p' q' : Int} (hg : Stc w g k' p' q')
    (h : ∀ w', Stc w' g k p q → Chg (· = g) w w' → wpList Tryz.prog ops Q rest (a.put o.dst undef) w') : wpList Tryz.prog ops Q (o :: rest) a w :=
  wpList_store_row hgd 50 x y ho g _ hx hy 50 _ hg size50 rfl (by simp [Value.oneCell']) (h _ (setRow_heap w g _ _ 50 _ hg) ⟨rfl, rfl, rfl, by simp, fun k _ hk => setRow_other _ _ _ _ hk⟩)
/-- How far the numbers were read. -/
def Rdn (l : List UInt8) (p0 : Nat) : Nat → Int → Int → Nat → Prop
  | 0, a, b, p => a = 0 ∧ b = 0 ∧ p = p0
  | 1, a, b, p => due l p0 = .ok (a, p) ∧ b = 0
  | _, a, b, p => ∃ p1, due l p0 = .ok (a, p1) ∧ due l p1 = .ok (b, p)
/-- A line behind its kind's word. -/
def lk (l : List UInt8) (k p0 : Nat) : Ln :=
  if cnt k = 0 then fin l k 0 0 p0
  else match due l p0 with
    | .error x => .error x
    | .ok (v, p) => if cnt k = 1 then fin l k v 0 p
      else match due l p with
        | .error x => .error x
        | .ok (v2, p2) => fin l k v v2 p2
theorem lk_fin {l : List UInt8} {k p0 : Nat} {a b : Int} {p : Nat} (h : Rdn l p0 (cnt k) a b p) : lk l k p0 = fin l k a b p := by
  unfold lk
  have hc := cnt_le k
  by_cases h0 : cnt k = 0
  · rw [h0] at h
    obtain ⟨rfl, rfl, rfl⟩ := h
    rw [if_pos h0]
  · rw [if_neg h0]
    by_cases h1 : cnt k = 1
    · rw [h1] at h
      obtain ⟨h2, rfl⟩ := h
      rw [h2]
      simp only []
      rw [if_pos h1]
    · have h2 : cnt k = 2 := by omega
      rw [h2] at h
      obtain ⟨p1, h3, h4⟩ := h
      rw [h3]
      simp only []
      rw [if_neg h1, h4]
theorem lk_bad {l : List UInt8} {k p0 i : Nat} {a b : Int} {p c q : Nat} (hi : i < cnt k) (h : Rdn l p0 i a b p) (hd : due l p = .error (c, q)) : lk l k p0 = .error (c, q) := by
  unfold lk
  have hc := cnt_le k
  rw [if_neg (by omega)]
  by_cases h0 : i = 0
  · subst h0
    obtain ⟨rfl, rfl, rfl⟩ := h
    rw [hd]
  · have h1 : i = 1 := by omega
    subst h1
    obtain ⟨h2, rfl⟩ := h
    rw [h2]
    simp only []
    rw [if_neg (by omega), hd]
theorem Rdn.next {l : List UInt8} {p0 i : Nat} {a b v : Int} {p q : Nat} (hi : i < 2) (h : Rdn l p0 i a b p) (hd : due l p = .ok (v, q)) : Rdn l p0 (i + 1) (if i = 0 then v else a) (if i = 0 then b else v) q := by
  by_cases h0 : i = 0
  · subst h0
    obtain ⟨rfl, rfl, rfl⟩ := h
    exact ⟨hd, rfl⟩
  · have h1 : i = 1 := by omega
    subst h1
    obtain ⟨h2, rfl⟩ := h
    exact ⟨p, h2, hd⟩
theorem due_le {s : ByteArray} {p q : Nat} {v : Int} (hp : p ≤ s.size) (h : due s.data.toList p = .ok (v, q)) : q ≤ s.size := by
  rw [(due_ok h).2, size_len]
  exact af_le (nx_le (by rw [← size_len]; exact hp))
theorem Two.set0 {w : World} {g : Nat} {a b : Int} (h : Two w g a b) (v : Int) : Two (w.setCell ⟨g, 0, none⟩ (.int .i64 v)) g v b := by
  have h' : w.heap[g]? = _ := h
  show (w.setCell ⟨g, 0, none⟩ _).heap[g]? = _
  simp [World.setCell, Array.getElem?_modify, h']
theorem Two.set1 {w : World} {g : Nat} {a b : Int} (h : Two w g a b) (v : Int) : Two (w.setCell ⟨g, 1, none⟩ (.int .i64 v)) g a v := by
  have h' : w.heap[g]? = _ := h
  show (w.setCell ⟨g, 1, none⟩ _).heap[g]? = _
  simp [World.setCell, Array.getElem?_modify, h']
theorem Two.c0 {w : World} {g : Nat} {a b : Int} (h : Two w g a b) : w.cell? ⟨g, 0, none⟩ = some (.int .i64 a) := by
  have h' : w.heap[g]? = _ := h
  simp [World.cell?, h']
theorem Two.c1 {w : World} {g : Nat} {a b : Int} (h : Two w g a b) : w.cell? ⟨g, 1, none⟩ = some (.int .i64 b) := by
  have h' : w.heap[g]? = _ := h
  simp [World.cell?, h']
theorem Two.fz {w : World} {g : Nat} {a b : Int} (h : Two w g a b) (i : Nat) : w.frozen? ⟨g, i, none⟩ = false := by
  have h' : w.heap[g]? = _ := h
  simp [World.frozen?, h']
theorem due_yes (g : Nat) (n : Int) (s : ByteArray) (p : Nat) (w : World) (hg : 10 ≤ g) (hs : s.size ≤ 65536) (hp : p ≤ s.size) (hl : Li w g n s p) (hG : Gl w) (v : Int) (q : Nat) (hd : due s.data.toList p = .ok (v, q)) :
    Calls Tryz.prog 41 #[.pointer (some ⟨g, 0, none⟩)] w fun e w' => e = .returned (.int .i64 v) ∧ Li w' g n s q ∧ Chg (· = g) w w' := by
  refine (due_any g n s p w hg hs hp hl hG).mono ?_
  rintro e w' ⟨h1, h2⟩
  rw [hd] at h2
  exact ⟨h2.1, h2.2, h1⟩
theorem due_no (g : Nat) (n : Int) (s : ByteArray) (p : Nat) (w : World) (hg : 10 ≤ g) (hs : s.size ≤ 65536) (hp : p ≤ s.size) (hl : Li w g n s p) (hG : Gl w) (c q : Nat) (hd : due s.data.toList p = .error (c, q)) :
    Calls Tryz.prog 41 #[.pointer (some ⟨g, 0, none⟩)] w fun e w' => ∃ h, e = .panicked [{ v := .iface 68 (.pointer (some ⟨h, 0, none⟩)), recovered := false }] ∧ (w.heap.size ≤ h ∧ w'.heap[h]? = some (.cells (fcell n q c) 70)) ∧ Chg (· = g) w w' := by
  refine (due_any g n s p w hg hs hp hl hG).mono ?_
  rintro e w' ⟨h1, h2⟩
  rw [hd] at h2
  obtain ⟨h, h3, h4, h5⟩ := h2
  exact ⟨h, h3, ⟨h4, h5⟩, h1⟩
set_option maxHeartbeats 2000000 in
theorem step_any (g : Nat) (n : Int) (s : ByteArray) (w : World) (hg : 10 ≤ g) (hs : s.size ≤ 65536) (hl : Li w g n s 0) (hG : Gl w) :
    Calls Tryz.prog 23 #[.pointer (some ⟨g, 0, none⟩)] w fun e w' => Chg (· = g) w w' ∧ LnR n w w' e (lin s.data.toList) := by
  have HL := hyd hl
  have HG := hyd hG
  have HGL := hyd hl.lt
  clear hl hG
  generalize hD : lin s.data.toList = D
  have HD := hyd hD
  clear hD
  have HL0 : Hid (Li (w.alloc (.cells #[.int .i64 0, .int .i64 0, .int .i64 0] 50)) g n s 0) := HL.out.chg ((Chg.refl (fun _ => False) w).alloc _) (fun f => f)
  have HG0 := hyd (HG.out.alloc (.cells #[.int .i64 0, .int .i64 0, .int .i64 0] 50))
  have HR0 : Hid (Stc (w.alloc (.cells #[.int .i64 0, .int .i64 0, .int .i64 0] 50)) w.heap.size 0 0 0) := heap_new _ _
  have HC0 := hyd ((Chg.refl (· = g) w).alloc (.cells #[.int .i64 0, .int .i64 0, .int .i64 0] 50))
  go_enter Tryz.func23, Tryz.ntmps23
  go_wp2_with (go_at_call 38; refine (word_any g n s 0 _ hg hs (Nat.zero_le _) HL0.out HG0.out).mono ?_; rintro e w1 ⟨X, rfl, HX, hL1, hC1⟩; refine Hid.out ?_)
  refine Lib.hid ?_
  have HL1 := hyd hL1
  have HC1 := hyd (HC0.out.trans hC1)
  have HG1 := hyd (HG0.out.chg hC1 (fun k hk e => by omega))
  have HR1 := hyd (HR0.out.chg hC1 (fun e => by have := HGL.out; omega))
  clear hL1 hC1 HL0 HG0 HR0 HC0
  by_cases hen : en (s.data.toList.drop (nx s.data.toList 0)) = true
  · have he := emp_true (HX.out.trans (by rw [wq_end hen]))
    have HE : Hid (D = .ok none) := by show _ = _; rw [← HD.out, lin, if_pos hen]
    clear hen
    generalize nx s.data.toList 0 = b at *
    go_wp2_with (refine wpList_store_st rfl (.tmp 2) (.tmp 18) rfl w.heap.size rfl rfl HR1.out ?_)
    intro w2 T2 C2
    have HC2 := hyd (HC1.out.trans' C2 (fun i hi e => by omega))
    have HT2 := hyd T2
    clear T2 C2
    go_wp2
    refine bodyPost_ret (results_st rfl _ rfl HT2.out) rfl ⟨HC2.out, ?_⟩
    rw [HE.out]
    rfl
  · rw [Bool.not_eq_true] at hen
    have he := emp_false HX.out (wq_ne hen)
    have HXo := hyd (HX.out.trans (by rw [wq_in hen]))
    have HD1 : Hid (kd (wo s.data.toList (nx s.data.toList 0)) = 0 → D = .error (16, nx s.data.toList 0)) := by
      intro h; rw [← HD.out, lin, if_neg (by rw [hen]; simp), if_pos h]
    have HD2 : Hid (kd (wo s.data.toList (nx s.data.toList 0)) ≠ 0 → D = lk s.data.toList (kd (wo s.data.toList (nx s.data.toList 0))) (nx s.data.toList 0 + (wq s.data.toList (nx s.data.toList 0)).length)) := by
      intro h; rw [← HD.out, lin, if_neg (by rw [hen]; simp), if_neg h, wq_in hen]; rfl
    have HP1 := hyd (wq_le (s := s) (p := 0) (Nat.zero_le _))
    clear hen HD HX
    generalize wo s.data.toList (nx s.data.toList 0) = wx at *
    generalize nx s.data.toList 0 + (wq s.data.toList (nx s.data.toList 0)).length = p1 at *
    generalize nx s.data.toList 0 = b at *
    have hk10 := kd_le wx
    go_wp2_with (first | (go_at_call 39; refine (kindOf_any X wx HXo.out _ HG1.out).mono ?_; rintro e w2 ⟨rfl, rfl⟩; refine Hid.out ?_))
    refine Lib.hid ?_
    generalize kd wx = k at *
    by_cases hk0 : k = 0
    · have hkz : ((k : Int) == 0) = true := by simp; omega
      have HE := hyd (HD1.out hk0)
      clear hk0
      go_wp2_with (first | (go_at_call 40; refine (giveUp_any g n s _ _ _ _ HL1.out).mono ?_; rintro e w4 ⟨rfl, rfl⟩))
      refine ⟨rfl, HC1.out.alloc _, ?_⟩
      rw [HE.out]
      exact ⟨_, rfl, HC1.out.size, heap_new _ _⟩
    · have hkz : ((k : Int) == 0) = false := by simp; omega
      have HE := hyd (HD2.out hk0)
      have HK0 := hyd hk0
      clear hk0 HD1 HD2
      go_wp2_with (first | (go_at_call 28; refine (numbers_any k hk10 _).mono ?_; rintro e w2 ⟨rfl, rfl⟩; refine Hid.out ?_))
      refine Lib.hid ?_
      have HT3 : Hid (Two (w2.alloc (.cells #[.int .i64 0, .int .i64 0] 88)) w2.heap.size 0 0) := heap_new _ _
      have HL3 : Hid (Li (w2.alloc (.cells #[.int .i64 0, .int .i64 0] 88)) g n s p1) := HL1.out.chg ((Chg.refl (fun _ => False) w2).alloc _) (fun f => f)
      have HR3 : Hid (Stc (w2.alloc (.cells #[.int .i64 0, .int .i64 0] 88)) w.heap.size 0 0 0) := HR1.out.chg ((Chg.refl (fun _ => False) w2).alloc _) (fun f => f)
      have HC3 := hyd (HC1.out.alloc (.cells #[.int .i64 0, .int .i64 0] 88))
      have HG3 := hyd (HG1.out.alloc (.cells #[.int .i64 0, .int .i64 0] 88))
      have HTw : Hid (w.heap.size < w2.heap.size) := (Array.getElem?_eq_some_iff.1 HR1.out).1
      clear HL1 HR1 HC1 HG1
      generalize w2.alloc (.cells #[.int .i64 0, .int .i64 0] 88) = w3 at *
      generalize w2.heap.size = t at *
      have hc2 := cnt_le k
      go_wp2_with fail
      go_loopg [28] 2 (fun kx s28 wr => ∃ (i : Nat) (a b : Int) (p : Nat), s28 = .int .i64 i ∧ i ≤ cnt k ∧ 2 - i ≤ kx ∧ Hid (Rdn s.data.toList p1 i a b p) ∧ Hid (p ≤ s.size) ∧ Hid (Two wr t a b) ∧ Hid (Li wr g n s p) ∧ Hid (Stc wr w.heap.size 0 0 0) ∧ Hid (Chg (· = g) w wr) ∧ Hid (Gl wr))
      case atStart => exact ⟨0, 0, 0, p1, rfl, by omega, by omega, ⟨rfl, rfl, rfl⟩, HP1, HT3, HL3, HR3, HC3, HG3⟩
      case round =>
      obtain ⟨i, a, b', p, rfl, hi, hkx, HRd, HPs, HT, HLi, HSt, HC, HG'⟩ := hrel
      by_cases hlt : i < cnt k
      · have hltz : (i : Int) < (cnt k : Nat) := by omega
        rcases hd : due s.data.toList p with ⟨c, q⟩ | ⟨v, q⟩
        · have HDu := hyd hd
          clear hd
          go_wp2_with (first | (go_at_call 41; refine (due_no g n s p _ hg hs HPs.out HLi.out HG'.out c q HDu.out).mono ?_; rintro e w4 ⟨h, rfl, HTh, hC4⟩; refine Hid.out ?_))
          refine Lib.hid ?_
          go_wp2
          refine ⟨rfl, HC.out.trans hC4, ?_⟩
          rw [HE.out, lk_bad hlt HRd.out HDu.out]
          exact ⟨_, rfl, Nat.le_trans HC.out.size HTh.1, HTh.2⟩
        · have HDu := hyd hd
          clear hd
          go_wp2_with (first | (go_at_call 41; refine (due_yes g n s p _ hg hs HPs.out HLi.out HG'.out v q HDu.out).mono ?_; rintro e w4 ⟨rfl, hL4, hC4⟩; refine Hid.out ?_))
          refine Lib.hid ?_
          have HL4 := hyd hL4
          have HC4 := hyd (HC.out.trans hC4)
          have HG4 := hyd (HG'.out.chg hC4 (fun k hk e => by omega))
          have HT4 := hyd (HT.out.chg hC4 (fun e => by have := HTw.out; have := HGL.out; omega))
          have HS4 := hyd (HSt.out.chg hC4 (fun e => by have := HGL.out; omega))
          have HQ4 := hyd (due_le HPs.out HDu.out)
          have HN4 := hyd (HRd.out.next (by omega) HDu.out)
          clear hL4 hC4 HC HG' HT HSt HLi HRd HPs
          have hf0 := HT4.out.fz
          have hc0 := HT4.out.c0
          have hc1 := HT4.out.c1
          have h01 : i = 0 ∨ i = 1 := by omega
          rcases h01 with rfl | rfl
          · go_wp2
            go_roundg (2 - 1)
            case measure => omega
            case rel =>
              have hX := (Chg.refl (· = t) w4).setCell (Or.inl rfl) 0 (.int .i64 v)
              have h1 := HTw.out
              have h2 := HGL.out
              exact ⟨1, v, b', q, rfl, by omega, by omega, HN4.out, HQ4, HT4.out.set0 v, HL4.out.chg hX (by omega), HS4.out.chg hX (by omega), HC4.out.setCell (Or.inr (by omega)) _ _, HG4.out.chg hX (fun k hk e => by omega)⟩
          · go_wp2
            go_roundg (2 - 2)
            case measure => omega
            case rel =>
              have hX := (Chg.refl (· = t) w4).setCell (Or.inl rfl) 1 (.int .i64 v)
              have h1 := HTw.out
              have h2 := HGL.out
              exact ⟨2, a, v, q, rfl, by omega, by omega, HN4.out, HQ4, HT4.out.set1 v, HL4.out.chg hX (by omega), HS4.out.chg hX (by omega), HC4.out.setCell (Or.inr (by omega)) _ _, HG4.out.chg hX (fun k hk e => by omega)⟩
      · have hltz : ¬ (i : Int) < (cnt k : Nat) := by omega
        have hic : i = cnt k := by omega
        have HRf : Hid (D = fin s.data.toList k a b' p) := HE.out.trans (lk_fin (by rw [← hic]; exact HRd.out))
        clear HRd hic HE
        go_wp2_with (first | (go_at_call 38; refine (word_any g n s p _ hg hs HPs.out HLi.out HG'.out).mono ?_; rintro e w5 ⟨Y, rfl, HY, hL5, hC5⟩; refine Hid.out ?_))
        refine Lib.hid ?_
        have HL5 := hyd hL5
        have HC5 := hyd (HC.out.trans hC5)
        have HT5 := hyd (HT.out.chg hC5 (fun e => by have := HTw.out; have := HGL.out; omega))
        have HS5 := hyd (HSt.out.chg hC5 (fun e => by have := HGL.out; omega))
        clear hL5 hC5 HC HG' HT HSt HLi HPs
        by_cases hen : en (s.data.toList.drop (nx s.data.toList p)) = true
        · have he2 := emp_true (HY.out.trans (by rw [wq_end hen]))
          have HE : Hid (D = .ok (some ⟨k, a, b'⟩)) := HRf.out.trans (by rw [fin, if_pos hen])
          have hc0 := HT5.out.c0
          have hc1 := HT5.out.c1
          clear hen HL5
          generalize nx s.data.toList p = b at *
          go_wp2_with (refine wpList_store_st rfl (.tmp 2) (.tmp 51) rfl w.heap.size rfl rfl HS5.out ?_)
          intro w6 T6 C6
          have HC6 := hyd (HC5.out.trans' C6 (fun i hi e => by omega))
          have HT6 := hyd T6
          clear T6 C6
          go_wp2
          refine bodyPost_ret (results_st rfl _ rfl HT6.out) rfl ⟨HC6.out, ?_⟩
          rw [HE.out]
          rfl
        · rw [Bool.not_eq_true] at hen
          have he2 := emp_false HY.out (wq_ne hen)
          have HE : Hid (D = .error (19, nx s.data.toList p)) := HRf.out.trans (by rw [fin, if_neg (by rw [hen]; simp)])
          clear hen
          generalize nx s.data.toList p + (wq s.data.toList (nx s.data.toList p)).length = p5 at *
          generalize nx s.data.toList p = b at *
          go_wp2_with (first | (go_at_call 40; refine (giveUp_any g n s _ _ _ _ HL5.out).mono ?_; rintro e w6 ⟨rfl, rfl⟩))
          refine ⟨rfl, HC5.out.alloc _, ?_⟩
          rw [HE.out]
          exact ⟨_, rfl, HC5.out.size, heap_new _ _⟩
end Go.Proofs.YtepbfdbooobnlaaGreatDoor
