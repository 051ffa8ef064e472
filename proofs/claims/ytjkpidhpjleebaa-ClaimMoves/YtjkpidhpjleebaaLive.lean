/-
  outside, floorOf and Live. Conditions: at most 2932031007402 founds (2^47 bytes).
-/
import Derived.Test.YtjkpidhpjleebaaUps
namespace Go.Proofs.Ytjkpidhpjleebaa
set_option maxRecDepth 100000
open Go.RowKit Go.Sort

/-- It may count, and lies in no bad block. -/
def gd (c : Ckp) (f : Fnd) : Bool := snd f && !c.B (f.P / 8).toNat
def flo (c : Ckp) (of : Nat) : Int := if of = 24 then -1 else c.F of
/-- Where what counts for a number lies. -/
def lv (l : List Fnd) (c : Ckp) (of : Nat) : Int := match newest (l.filter (gd c)) of (flo c of) with
  | some f => f.P
  | none => -1
/-- Block g holds 25 ints. -/
def A25 (w : World) (g : Nat) (F : Nat → Int) : Prop := w.heap[g]? = some (.cells (ints F 25).toArray 37)
theorem A25.lt {w : World} {b : Nat} {f : Nat → Int} (h : A25 w b f) : b < w.heap.size := (Array.getElem?_eq_some_iff.1 (show w.heap[b]? = some _ from h)).1
theorem A25.chg {S : Nat → Prop} {w w' : World} {b : Nat} {f : Nat → Int} (h : A25 w b f) (hc : Chg S w w') (hb : ¬ S b) : A25 w' b f := (hc.block b h.lt hb).trans h
theorem A25.set {w : World} {b : Nat} {f : Nat → Int} (h : A25 w b f) (i : Nat) (z : Int) : A25 (w.setCell ⟨b, i, none⟩ (.int .i64 z)) b (upd f i z) := by
  have h' : w.heap[b]? = some _ := h
  show (w.setCell ⟨b, i, none⟩ _).heap[b]? = _
  have e2 : (ints f 25).toArray.setIfInBounds i (.int .i64 z) = (ints (upd f i z) 25).toArray := by
    apply Array.ext'
    have := ints_set f 25 i z
    simpa [i6] using this
  simp [World.setCell, Array.getElem?_modify, h', e2]
theorem A25.cell {w : World} {b : Nat} {f : Nat → Int} (h : A25 w b f) (i : Nat) (hi : i < 25) : w.cell? ⟨b, i, none⟩ = some (.int .i64 (f i)) ∧ w.frozen? ⟨b, i, none⟩ = false := by
  have h' : w.heap[b]? = some _ := h
  refine ⟨?_, by simp [World.frozen?, h']⟩
  simp only [World.cell?, h']
  simpa [i6] using ints_at f 25 i hi
theorem A25.congr {w : World} {b : Nat} {f g : Nat → Int} (h : A25 w b f) (e : ∀ i, i < 25 → f i = g i) : A25 w b g := by
  unfold A25 at *
  rw [h, ints_congr e]
theorem ints25_size (f : Nat → Int) : (ints f 25).toArray.size = 25 := by simp [ints_length]
theorem size37 : (Try.prog.info? 37).map (·.size) = some 25 := by kernel_rfl
theorem zero37 (w : World) : (zeroValue 37).run Try.prog w = .ok (.agg (ints (fun _ => 0) 25).toArray) w := by kernel_rfl
theorem wpList_alloc_25 {ops : Array Oper} {rest : List Oper} {o : Oper} {a : Act} {w : World} {Q : Exit → Act → World → Prop} (hgd : o.guard = none) (ho : o.op = .alloc 37) (N : Nat) (hN : w.heap.size = N)
    (h : ∀ w', A25 w' N (fun _ => 0) → Chg (fun _ => False) w w' → w'.heap.size = N + 1 → wpList Try.prog ops Q rest (a.put o.dst (.pointer (some ⟨N, 0, none⟩))) w') : wpList Try.prog ops Q (o :: rest) a w := by
  refine wpList_plain hgd fun K hK => ?_
  have hz := zero37
  unfold Oper.wp
  simp [execOp, ho, Instr.alloc, hz, newVar, Value.cells, newRow]
  rw [hN]
  refine hK _ _ (h _ ?_ ((Chg.refl _ w).alloc _) (by simp [hN]))
  rw [← hN]
  show (w.heap.push _)[w.heap.size]? = _
  simp
theorem wpList_load_25 {ops : Array Oper} {rest : List Oper} {o : Oper} {a : Act} {w : World} {Q : Exit → Act → World → Prop} (hgd : o.guard = none) (x : Operand) (ho : o.op = .load 37 x)
    (g : Nat) (hx : a.eval x = .pointer (some ⟨g, 0, none⟩)) {F : Nat → Int} (hg : A25 w g F)
    (h : wpList Try.prog ops Q rest (a.put o.dst (.agg (ints F 25).toArray)) w) : wpList Try.prog ops Q (o :: rest) a w :=
  wpList_load_row hgd 37 x ho g hx 37 _ _ _ hg Try.underlying37 rfl (by rw [ints25_size]; exact size37) h
theorem wpList_store_25 {ops : Array Oper} {rest : List Oper} {o : Oper} {a : Act} {w : World} {Q : Exit → Act → World → Prop} (hgd : o.guard = none) (x y : Operand) (ho : o.op = .store 37 x y)
    (g : Nat) (hx : a.eval x = .pointer (some ⟨g, 0, none⟩)) {F : Nat → Int} (hy : a.eval y = .agg (ints F 25).toArray) {F' : Nat → Int} (hg : A25 w g F')
    (h : ∀ w', A25 w' g F → Chg (· = g) w w' → wpList Try.prog ops Q rest (a.put o.dst undef) w') : wpList Try.prog ops Q (o :: rest) a w :=
  wpList_store_row hgd 37 x y ho g _ hx hy 37 _ hg (by rw [ints25_size]; exact size37) (by rw [ints25_size, ints25_size]) (all_oneCell_toArray (ints_one F 25)) (h _ (setRow_heap w g _ _ 37 _ hg) ⟨rfl, rfl, rfl, by simp, fun k _ hk => setRow_other _ _ _ _ hk⟩)
theorem results_25 {fn : Func} {q : Tmp} (h : fn.results = #[.cell q 37]) (tmps : Array Value) {w : World} {g : Nat} {F : Nat → Int} (hp : tmps.getD q undef = .pointer (some ⟨g, 0, none⟩)) (hT : A25 w g F) :
    (results fn tmps).run Try.prog w = .ok (.agg (ints F 25).toArray) w :=
  results_cell_row h tmps w g 37 _ _ _ hp hT Try.underlying37 rfl (by rw [ints25_size]; exact size37)

set_option maxHeartbeats 4000000 in
theorem floor_any (c : Ckp) (of : Nat) (ho : of < 25) (w : World) : Calls Try.prog 24 #[.agg (ckA c), .int .i64 of] w fun e w' => e = .returned (.int .i64 (flo c of)) ∧ Chg (fun _ => False) w w' := by
  have K0 := Ck.new w c
  have HG0 : Hid (Chg (fun _ => False) w (w.alloc (.cells (ckA c) 36))) := (Chg.refl _ w).alloc _
  by_cases h24 : of = 24
  · subst h24
    clear K0
    go_enter Try.func24, Try.ntmps24
    go_wp2
    go_ret
    exact ⟨by simp [flo], HG0.out⟩
  · have kF := K0.F of (by omega)
    have hz : (of : Int) < 24 := by omega
    have hb : ((of : Int) == 24) = false := by simp only [beq_eq_false_iff_ne]; omega
    have HF : Hid (flo c of = c.F of) := by show _ = _; simp [flo, h24]
    clear K0
    go_enter Try.func24, Try.ntmps24
    go_wp2
    go_ret
    exact ⟨by rw [HF.out]; rfl, HG0.out⟩
def OutR (w : World) (l : List Fnd) (c : Ckp) (e : Ending) (w' : World) : Prop := ∃ v', e = .returned v' ∧ Sl w' v' (l.filter (gd c)) ∧ Chg (fun _ => False) w w'

set_option maxHeartbeats 8000000 in
theorem outside_any (w : World) (a : Option Addr) (cap : Nat) (l : List Fnd) (n : Nat) (hnl : n = l.length) (c : Ckp) (hs : Sl w (.slice a n cap) l) (hn : n < 2932031007402) :
    Calls Try.prog 23 #[.slice a n cap, .agg (bools c.B 12).toArray] w (OutR w l c) := by
  have HN := hyd hnl
  have HB := hyd (Bo.new w c.B)
  have HG0 : Hid (Chg (fun _ => False) w (w.alloc (.cells (bools c.B 12).toArray 33))) := (Chg.refl _ w).alloc _
  have HS := hyd (hs.new HG0.out)
  clear hs hnl
  go_enter Try.func23, Try.ntmps23
  go_wp2
  generalize w.alloc (.cells (bools c.B 12).toArray 33) = w1 at *
  obtain ⟨B, HBB⟩ : ∃ B, Hid (B = w.heap.size) := ⟨_, rfl⟩
  rw [← HBB.out] at HB
  rw [← HBB.out]
  go_loopg [5, 10] n (fun kx s5 s10 wr => ∃ i : Nat, s10 = .int .i64 i ∧ i ≤ n ∧ n - i ≤ kx ∧ Hid (Ow wr w1.heap.size s5 ((l.take i).filter (gd c))) ∧ Hid (Chg (fun _ => False) w1 wr))
  case atStart => exact ⟨0, rfl, by omega, by omega, Ow.nil _ _, Chg.refl _ _⟩
  case round =>
  obtain ⟨i, rfl, hin, hkx, HO, HG⟩ := hrel
  by_cases hlt : i < n
  · have hltz : (i : Int) < (n : Int) := by omega
    obtain ⟨f, hf⟩ : ∃ f, l[i]? = some f := ⟨_, List.getElem?_eq_getElem (by rw [← HN.out]; exact hlt)⟩
    have HF := hyd hf
    obtain ⟨g, o, ha, hA⟩ := HS.out.at6 (by rw [← HN.out]; omega)
    subst ha
    have HR := hyd ((hA.chg HG.out (fun h => h)).2 i f hf)
    clear hf hA
    have HT := hyd (filter_take_succ (p := gd c) HF.out)
    go_wp2_with (first | (refine wpList_load_at (f := f) rfl (.tmp 12) rfl g (o + i * 6) rfl ?_ ?_; exact HR.out) | (refine wpList_alloc_fo rfl rfl wr.heap.size rfl ?_))
    intro w2 K2 G2 S2
    have HK2 := hyd K2
    clear K2
    go_wp2_with (refine wpList_store_fo rfl (.tmp 7) (.tmp 13) rfl wr.heap.size rfl rfl HK2.out ?_)
    intro w3 K3 G3
    have G23 := G2.trans' G3 (fun k hk h => by omega)
    have HG3 := hyd (HG.out.trans G23)
    have HK3 := hyd K3
    have HO3 := hyd (HO.out.new G23)
    have HB3 := hyd (HB.out.chg HG3.out (fun h => h))
    clear K3 G3 G2 G23 HK2 S2 HR
    cases hsn : snd f with
    | false =>
      have HC : Hid (gd c f = false) := by show _ = _; simp [gd, hsn]
      go_wp2_with (first | (refine wpList_load_fo (f := f) rfl (.tmp 7) rfl wr.heap.size rfl ?_ ?_; exact HK3.out) | (go_at_call 25; refine (sound_any f _).mono ?_; rintro e w4 ⟨rfl, G4⟩; have HG4 := hyd (HG3.out.trans G4); have HO4 := hyd (HO3.out.new G4); clear G4))
      go_roundg (n - (i + 1))
      case measure => omega
      case rel =>
        refine ⟨i + 1, by simp, by omega, Nat.le_refl _, ?_, HG4.out⟩
        show Ow _ _ _ _
        rw [HT.out, HC.out]; simpa using HO4.out
    | true =>
      have hP := (snd_iff f).1 hsn
      have hP0 := hP.1
      have hP1 := hP.2.1
      clear hP
      obtain ⟨q, hq⟩ : ∃ q : Nat, f.P / 8 = (q : Int) := ⟨(f.P / 8).toNat, by omega⟩
      have hqt : f.P.tdiv 8 = (q : Int) := by rw [Int.tdiv_eq_ediv_of_nonneg hP0]; exact hq
      have hql : q < 12 := by omega
      have hqz : (q : Int) < 12 := by omega
      have HGd : Hid (gd c f = !c.B q) := by
        show _ = _
        unfold gd
        rw [hsn, hq]
        simp
      cases hbq : c.B q with
      | true =>
        rw [hbq] at HGd
        go_wp2_with (first | (refine wpList_load_fo (f := f) rfl (.tmp 7) rfl wr.heap.size rfl ?_ ?_; exact HK3.out) | (go_at_call 25; refine (sound_any f _).mono ?_; rintro e w4 ⟨rfl, G4⟩; have K4 := HK3.out.chg G4 (fun h => h); obtain ⟨k0, -, -, -, -, -⟩ := K4.cells; have kB := ((HB3.out.chg G4 (fun h => h)).cell q hql).1; rw [hbq] at kB; have HG4 := hyd (HG3.out.trans G4); have HO4 := hyd (HO3.out.new G4); clear G4 K4))
        go_roundg (n - (i + 1))
        case measure => omega
        case rel =>
          refine ⟨i + 1, by simp, by omega, Nat.le_refl _, ?_, HG4.out⟩
          show Ow _ _ _ _
          rw [HT.out, HGd.out]; simpa using HO4.out
      | false =>
        rw [hbq] at HGd
        have hle : ((l.take i).filter (gd c)).length + 1 ≤ 2932031007402 := by
          have := Nat.le_trans (List.length_filter_le (gd c) (l.take i)) (by rw [List.length_take]; exact Nat.min_le_left _ _)
          omega
        go_wp2_with (first | (refine wpList_load_fo (f := f) rfl (.tmp 7) rfl wr.heap.size rfl ?_ ?_; first | exact HK3.out | exact HK4.out) | (go_at_call 25; refine (sound_any f _).mono ?_; rintro e w4 ⟨rfl, G4⟩; have K4 := HK3.out.chg G4 (fun h => h); have HK4 := hyd K4; obtain ⟨k0, -, -, -, -, -⟩ := K4.cells; have kB := ((HB3.out.chg G4 (fun h => h)).cell q hql).1; rw [hbq] at kB; have HG4 := hyd (HG3.out.trans G4); have HO4 := hyd (HO3.out.new G4); clear G4 K4) | (refine wpList_row_fo (f := f) rfl (.tmp 25) rfl rfl w4.heap.size rfl ?_))
        intro w5 K5 G5
        have HO5 := hyd (HO4.out.new G5)
        have HG5 := hyd (HG4.out.trans G5)
        have HA5 := hyd (At6.one K5)
        have hb5 : w1.heap.size ≤ w5.heap.size := HG5.out.size
        clear K5 G5 HO4 HG4 HK4 k0 kB
        go_wp2_with (refine wpList_append_fo w5 rfl (.tmp 24) (.tmp 26) rfl w1.heap.size u5 _ rfl HO5.out w4.heap.size 0 1 1 [f] rfl rfl HA5.out hle hb5 ?_)
        intro v' w6 O6 G6
        have HO6 := hyd O6
        have HG6 : Hid (Chg (fun _ => False) w1 w6) := hyd (HG5.out.trans' G6 fun k hk h => by
          have := HO5.out.block h
          omega)
        clear O6 G6
        go_wp2
        go_roundg (n - (i + 1))
        case measure => omega
        case rel =>
          refine ⟨i + 1, by simp, by omega, Nat.le_refl _, ?_, HG6.out⟩
          show Ow _ _ _ _
          rw [HT.out, HGd.out]; simpa using HO6.out
  · have hltz : ¬ (i : Int) < (n : Int) := by omega
    go_wp2
    go_ret
    refine ⟨_, rfl, ?_, HG0.out.trans HG.out⟩
    have := HO.out.sl
    rw [show i = l.length by have := HN.out; omega, List.take_length] at this
    exact this
end Go.Proofs.Ytjkpidhpjleebaa
