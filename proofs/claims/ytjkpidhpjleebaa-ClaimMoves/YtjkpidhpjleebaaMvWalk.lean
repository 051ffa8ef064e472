/-
  The law ClaimMoves, walked. Condition: the founds came in with their reach.
-/
import Derived.Test.YtjkpidhpjleebaaPlb
import Derived.Test.YtjkpidhpjleebaaLvWalk
import Derived.Deep.RegionLawGrows
namespace Go.Proofs.Ytjkpidhpjleebaa
set_option maxRecDepth 100000
open Go.RowKit Go.Sort

theorem placed_n (w : World) (a : Option Addr) (cap : Nat) (l : List Fnd) (n : Nat) (hnl : n = l.length) (hs : Sl w (.slice a n cap) l) (hn : n < 2932031007402) :
    Calls Try.prog 18 #[.slice a n cap] w fun e w' => ∃ a' m cap' out, e = .returned (.slice a' m cap') ∧ m = out.length ∧ Sl w' (.slice a' m cap') out ∧ Pld out ∧ m ≤ n ∧ Chg (fun _ => False) w w' := by
  refine (placed_any w a cap l n hnl hs hn).mono ?_
  rintro e w' ⟨v, out, rfl, hS, h2, h3, h4⟩
  obtain ⟨a', cap', rfl, _⟩ := id hS
  exact ⟨a', out.length, cap', out, rfl, rfl, hS, h2, h3, h4⟩
theorem Fo.setP {w : World} {b : Nat} {f : Fnd} (h : Fo w b f) (z : Int) : Fo (w.setCell ⟨b, 0, none⟩ (.int .i64 z)) b (z, f.T, f.O, f.S, f.C, f.L) := by
  have h' : w.heap[b]? = some _ := h
  show (w.setCell ⟨b, 0, none⟩ _).heap[b]? = _
  simp [World.setCell, Array.getElem?_modify, h', fA, fL]
theorem Fo.setC {w : World} {b : Nat} {f : Fnd} (h : Fo w b f) (z : Int) : Fo (w.setCell ⟨b, 4, none⟩ (.int .i64 z)) b (f.P, f.T, f.O, f.S, z, f.L) := by
  have h' : w.heap[b]? = some _ := h
  show (w.setCell ⟨b, 4, none⟩ _).heap[b]? = _
  simp [World.setCell, Array.getElem?_modify, h', fA, fL]
/-- The checkpoint with both blocks good. -/
def ck2 (c : Ckp) (fr to_ : Nat) : Ckp := { c with B := upd (upd c.B fr false) to_ false }
def stf (out : List Fnd) (to_ : Nat) : List Fnd := out.filter fun f => decide (f.P / 8 ≠ (to_ : Int))
theorem stt_of {out : List Fnd} (h : Pld out) (c : Ckp) {fr to_ : Nat} (h1 : fr < 12) (h2 : to_ < 12) (hne : fr ≠ to_) : Stt (stf out to_) (ck2 c fr to_) fr to_ where
  dst := List.Pairwise.filter _ h.dst
  sound := fun f hf => h.sound f (List.mem_filter.1 hf).1
  uni := List.Pairwise.filter _ h.uni
  away := fun f hf => by have := (List.mem_filter.1 hf).2; simpa using this
  f12 := h1
  t12 := h2
  ne := hne
  bf := by simp [ck2, upd]
  bt := by simp [ck2, upd]

/-- The inner loop: ahead of the found that is moved, or behind it. -/
def InS (st Fs : List Fnd) (f : Fnd) (tn Ob qi t : Nat) (a6 : Option Addr) (m6 cap6 : Nat) (a7 : Option Addr) (m7 cap7 : Nat) (ov1 ov2 : Nat → Int) (wx : World) : Prop :=
  (t ≤ qi ∧ a7 = a6 ∧ m7 = m6 ∧ cap7 = cap6 ∧ A25 wx Ob ov1) ∨ (qi < t ∧ m7 = m6 + 1 ∧ Sl wx (.slice a7 m7 cap7) (st ++ cps tn (Fs ++ [f])) ∧ ((st ++ cps tn (Fs ++ [f])).length ≠ 0 → ∀ k, (Value.slice a7 m7 cap7).ownBlock = some k → ¬ k = Ob) ∧ A25 wx Ob ov2)
theorem Dst.idx {l : List Fnd} (h : Dst l) {t q : Nat} {x f : Fnd} (ht : l[t]? = some x) (hq : l[q]? = some f) (hne : t ≠ q) : x.P ≠ f.P := by
  obtain ⟨a1, a2⟩ := List.getElem?_eq_some_iff.1 ht
  obtain ⟨b1, b2⟩ := List.getElem?_eq_some_iff.1 hq
  have h2 := List.pairwise_iff_getElem.1 h
  rcases Nat.lt_or_gt_of_ne hne with h3 | h3
  · have := h2 t q a1 b1 h3; rw [a2, b2] at this; exact this
  · have := h2 q t b1 a1 h3; rw [a2, b2] at this; exact Ne.symm this

theorem exec_load_25 {o : Oper} {a : Act} {w : World} {x : Operand} {g : Nat} {F : Nat → Int} (ho : o.op = .load 37 x) (hx : a.eval x = .pointer (some ⟨g, 0, none⟩)) (hg : A25 w g F) : (execOp a.eval o).run Try.prog w = .ok (.value (.agg (ints F 25).toArray)) w := by
  unfold execOp
  simp only [ho, hx, Instr.loadAt, Instr.sureAddr, Sem.run_bind, Sem.run_pure, Result.andThen_ok, run_loadVar_row w g 37 37 _ _ _ hg Try.underlying37 rfl (by rw [ints25_size]; exact size37)]
theorem exec_neq_25 {o : Oper} {a : Act} {w : World} {x y : Operand} {t : TypeId} {F : Nat → Int} (ho : o.op = .binOp .neq 37 x y t) (hx : a.eval x = .agg (ints F 25).toArray) (hy : a.eval y = .agg (ints F 25).toArray) : (execOp a.eval o).run Try.prog w = .ok (.value (.bool false)) w := by
  unfold execOp
  simp only [ho, hx, hy, Sem.run_bind, guard_25, neq_25, Result.andThen_ok, Sem.run_pure]
theorem cps_length (tn : Nat) (Fs : List Fnd) : (cps tn Fs).length = Fs.length := by simp [cps]
theorem begun_sound {st : List Fnd} {c : Ckp} {fr tn i : Nat} {Fs : List Fnd} {ov : Nat → Int} (hS : Stt st c fr tn) (hP : Proc st c fr tn i Fs ov) : ∀ f ∈ st ++ cps tn Fs, snd f = true := by
  intro f hf
  rcases List.mem_append.1 hf with h | h
  · exact hS.sound f h
  · obtain ⟨k, g, hk, rfl⟩ := mem_cps.1 h
    have h1 := (mem_at hk).2
    have h2 := hP.len hS
    exact (cp_snd hS (hS.sound g (hP.inSt (mem_at hk).1).1) (by omega)).1
theorem ints_same {F G : Nat → Int} (h : ∀ j, j < 25 → F j = G j) : ints F 25 = ints G 25 := by
  have e : ∀ n, n ≤ 25 → ints F n = ints G n := fun n hn => by
    unfold ints
    refine List.map_congr_left fun j hj => ?_
    rw [h j (by have := List.mem_range.1 hj; omega)]
  exact e 25 (Nat.le_refl _)
theorem rev_step {l : List Fnd} {k : Nat} {x : Fnd} (h : l[k]? = some x) : (l.drop k).reverse = (l.drop (k + 1)).reverse ++ [x] := by
  obtain ⟨h1, h2⟩ := List.getElem?_eq_some_iff.1 h
  rw [List.drop_eq_getElem_cons h1, List.reverse_cons, h2]
theorem upd2 {F : Nat → Int} {i j : Nat} {a b : Int} (h : j ≠ i) : upd (upd F i a) i b j = F j := by simp [upd, h]

set_option maxHeartbeats 16000000 in
theorem moves_walk (a : Option Addr) (n cap : Nat) (l : List Fnd) (hnl : n = l.length) (c : Ckp) (raw cut : Int) (hr1 : -9223372036854775808 ≤ raw) (hr2 : raw ≤ 9223372036854775807) (hc1 : -9223372036854775808 ≤ cut) (hc2 : cut ≤ 9223372036854775807) (w : World) (hs : Sl w (.slice a n cap) l) (hn : n < 2932031007320) :
    Calls Try.prog 7 #[.slice a n cap, .agg (ckA c), .int .i64 raw, .int .i64 cut] w fun e w' => e = .returned (.bool true) ∧ Below w.heap.size w w' := by
  have HN := hyd hnl
  have HK0 := hyd (Ck.new w c)
  have HG0 : Hid (Chg (fun _ => False) w (w.alloc (.cells (ckA c) 36))) := (Chg.refl _ w).alloc _
  have HS0 := hyd (hs.new HG0.out)
  have C18 : Aside _ := fun W h => placed_n W a cap l n HN.out h (by omega)
  have C19 : Aside _ := fun W => pick_any raw hr1 hr2 12 (by decide) (by decide) W
  have C19b : Aside _ := fun W => pick_any cut hc1 hc2 11 (by decide) (by decide) W
  clear hs hnl hr1 hr2 hc1 hc2
  have hfirst : True := trivial
  go_enter Try.func7, Try.ntmps7
  go_wp2_with (first | (go_at_call 8; refine (up_any _).mono ?_; rintro e w1 ⟨rfl, G1⟩; have HK1 := hyd (HK0.out.chg G1 (fun h => h)); have HS1 := hyd (HS0.out.new G1); have HG1 := hyd (HG0.out.trans G1); clear G1) | (go_at_call 18; refine (C18.out _ HS1.out).mono ?_; rintro e w2 ⟨a1, m, cap1, out, rfl, hm, hS2, hP2, hmn, G2⟩; have HM := hyd hm; have HO2 := hyd hS2; have HP2 := hyd hP2; have HK2 := hyd (HK1.out.chg G2 (fun h => h)); have HG2 := hyd (HG1.out.trans G2); clear G2 hm hS2 hP2) | (go_at_call 19; clear hfirst; refine (C19.out _).mono ?_; rintro e w' ⟨⟨fr, hfr, rfl⟩, rfl⟩) | (go_at_call 19; refine (C19b.out _).mono ?_; rintro e w' ⟨⟨qt, hqt, rfl⟩, rfl⟩))
  obtain ⟨w2, rfl⟩ : ∃ x, x = w' := ⟨_, rfl⟩
  obtain ⟨tn, htn⟩ : ∃ tn : Nat, ((fr : Int) + 1 + (qt : Int)) % 12 = (tn : Int) := ⟨(((fr : Int) + 1 + (qt : Int)) % 12).toNat, by omega⟩
  have ht12 : tn < 12 := by omega
  have hft : fr ≠ tn := by omega
  rw [htn]
  clear htn hqt C18 C19 C19b HS1 HK1 HG1 HS0 HK0 HG0
  have HSt := hyd (stt_of HP2.out c hfr ht12 hft)
  obtain ⟨B, HBB⟩ : ∃ B, Hid (B = w.heap.size) := ⟨_, rfl⟩
  rw [← HBB.out] at HK2
  rw [← HBB.out]
  go_loopg [13, 14] m (fun kx s13 s14 wr => ∃ i : Nat, s14 = .int .i64 i ∧ i ≤ m ∧ m - i ≤ kx ∧ Hid (Ow wr w2.heap.size s13 (stf (out.take i) tn)) ∧ Hid (Chg (fun _ => False) w2 wr))
  case atStart => exact ⟨0, rfl, by omega, by omega, Ow.nil _ _, Chg.refl _ _⟩
  case round =>
  obtain ⟨i, rfl, hin, hkx, HO, HG⟩ := hrel
  by_cases hlt : i < m
  · have hltz : (i : Int) < (m : Int) := by omega
    obtain ⟨f, hf⟩ : ∃ f, out[i]? = some f := ⟨_, List.getElem?_eq_getElem (by rw [← HM.out]; exact hlt)⟩
    have HF := hyd hf
    obtain ⟨g, o, ha, hA⟩ := HO2.out.at6 (by rw [← HM.out]; omega)
    subst ha
    have hA2 := hA.chg HG.out (fun h => h)
    obtain ⟨k0, -, -, -⟩ := hA2.fields hf
    have HR := hyd (hA2.2 i f hf)
    have hsn := HP2.out.sound f (by obtain ⟨h1, h2⟩ := List.getElem?_eq_some_iff.1 hf; rw [← h2]; exact List.getElem_mem h1)
    have hP := (snd_iff f).1 hsn
    have hP0 := hP.1
    have hP1 := hP.2.1
    clear hf hA hA2 hP hsn
    have HT := hyd (filter_take_succ (p := fun f => decide (f.P / 8 ≠ (tn : Int))) HF.out)
    obtain ⟨q, hq⟩ : ∃ q : Nat, f.P / 8 = (q : Int) := ⟨(f.P / 8).toNat, by omega⟩
    have hqt : f.P.tdiv 8 = (q : Int) := by rw [Int.tdiv_eq_ediv_of_nonneg hP0]; exact hq
    have HQ := hyd hq
    by_cases hne : q = tn
    · have hb : ((q : Int) != (tn : Int)) = false := by simp [hne]
      have HC : Hid (decide (f.P / 8 ≠ (tn : Int)) = false) := by show _ = _; rw [HQ.out]; simp [hne]
      clear hne
      go_wp2
      go_roundg (m - (i + 1))
      case measure => omega
      case rel =>
        refine ⟨i + 1, by simp, by omega, Nat.le_refl _, ?_, HG.out⟩
        show Ow _ _ _ _
        unfold stf
        rw [HT.out, HC.out]
        have hh := HO.out
        unfold stf at hh
        simpa using hh
    · have hb : ((q : Int) != (tn : Int)) = true := by simp only [bne_iff_ne, ne_eq]; omega
      have HC : Hid (decide (f.P / 8 ≠ (tn : Int)) = true) := by show _ = _; rw [HQ.out]; simp; omega
      have hle : (stf (out.take i) tn).length + 1 ≤ 2932031007402 := by
        have := Nat.le_trans (List.length_filter_le (fun f => decide (f.P / 8 ≠ (tn : Int))) (out.take i)) (by rw [List.length_take]; exact Nat.min_le_left _ _)
        unfold stf
        omega
      clear hne
      go_wp2_with (first | (refine wpList_load_at (f := f) rfl (.tmp 54) rfl g (o + i * 6) rfl ?_ ?_; exact HR.out) | (refine wpList_row_fo (f := f) rfl (.tmp 55) rfl rfl wr.heap.size rfl ?_))
      intro w5 K5 G5
      have HO5 := hyd (HO.out.new G5)
      have HG5 := hyd (HG.out.trans G5)
      have HA5 := hyd (At6.one K5)
      have hb5 : w2.heap.size ≤ w5.heap.size := HG5.out.size
      clear K5 G5 k0
      go_wp2_with (refine wpList_append_fo w5 rfl (.tmp 51) (.tmp 56) rfl w2.heap.size u13 _ rfl HO5.out wr.heap.size 0 1 1 [f] rfl rfl HA5.out hle hb5 ?_)
      intro v' w6 O6 G6
      have HO6 := hyd O6
      have HG6 : Hid (Chg (fun _ => False) w2 w6) := hyd (HG5.out.trans' G6 fun k hk h => by
        have := HO5.out.block h
        omega)
      clear O6 G6
      go_wp2
      go_roundg (m - (i + 1))
      case measure => omega
      case rel =>
        refine ⟨i + 1, by simp, by omega, Nat.le_refl _, ?_, HG6.out⟩
        show Ow _ _ _ _
        unfold stf
        rw [HT.out, HC.out]
        have hh := HO6.out
        unfold stf at hh
        simpa using hh
  · have hltz : ¬ (i : Int) < (m : Int) := by omega
    obtain ⟨st, hst⟩ : ∃ st, stf out tn = st := ⟨_, rfl⟩
    have hSl : Sl wr u13 st := by
      have := HO.out.sl
      rw [show i = out.length by have := HM.out; omega, List.take_length, hst] at this
      exact this
    have hstl : st.length ≤ n := by
      have h1 : (stf out tn).length ≤ out.length := List.length_filter_le _ _
      rw [hst] at h1
      have := HM.out
      omega
    rw [hst] at HSt
    obtain ⟨a3, cap3, e3, -⟩ := id hSl
    obtain ⟨s, hsl⟩ : ∃ s, s = st.length := ⟨_, rfl⟩
    rw [← hsl] at e3 hstl
    subst e3
    have HSl := hyd hSl
    have HSL := hyd hsl
    have HSb : Hid (st.length ≠ 0 → ∀ k, (Value.slice a3 s cap3).ownBlock = some k → ¬ k = B) := hyd (fun _ k hk e => by have := HO.out.block hk; have := HK2.out.lt; omega)
    have HK3 := hyd (HK2.out.chg HG.out (fun h => h))
    have HG3 := hyd (HG2.out.trans HG.out)
    have hBs : B < wr.heap.size := HK3.out.lt
    clear hSl hsl hst HO HO2 HM HP2 HK2 HG2
    obtain ⟨w3, rfl⟩ : ∃ x, x = wr := ⟨_, rfl⟩
    clear HG hlt hin hkx
    -- the two blocks are good
    have b1 := HK3.out.B fr hfr
    have f1 := HK3.out.frozen (25 + fr)
    have HK4 := hyd (HK3.out.setB fr hfr false)
    have b2 := HK4.out.B tn ht12
    have f2 := HK4.out.frozen (25 + tn)
    have HK5 := hyd (HK4.out.setB tn ht12 false)
    have HG5 : Hid (Chg (fun _ => False) w ((w3.setCell ⟨B, 25 + fr, none⟩ (.bool false)).setCell ⟨B, 25 + tn, none⟩ (.bool false))) := hyd (((HG3.out.setCell (Or.inr (by have := HBB.out; omega)) _ _)).setCell (Or.inr (by have := HBB.out; omega)) _ _)
    have hc5 : Chg (· = B) w3 ((w3.setCell ⟨B, 25 + fr, none⟩ (.bool false)).setCell ⟨B, 25 + tn, none⟩ (.bool false)) := ((Chg.refl (· = B) w3).setCell (g := B) (Or.inl rfl) _ _).setCell (g := B) (Or.inl rfl) _ _
    have HS5 := hyd (HSl.out.chg hc5 HSb.out)
    have HK5' : Hid (Ck ((w3.setCell ⟨B, 25 + fr, none⟩ (.bool false)).setCell ⟨B, 25 + tn, none⟩ (.bool false)) B (ck2 c fr tn)) := HK5.out
    go_upto_region 13 with fail
    clear b1 f1 b2 f2 HK4 HK5 HK3 HG3 hc5 HSl hBs
    generalize (w3.setCell ⟨B, 25 + fr, none⟩ (.bool false)).setCell ⟨B, 25 + tn, none⟩ (.bool false) = w5 at *
    obtain ⟨c2, HC2⟩ : ∃ c2, Hid (c2 = ck2 c fr tn) := ⟨_, rfl⟩
    rw [← HC2.out] at HK5' HSt
    have c13 := live_any w5 a3 cap3 st s HSL.out c2 HS5.out (by omega)
    go_wp2_with (first | (refine wpList_load_ck rfl (.tmp 5) rfl B rfl HK5'.out ?_) | (go_at_call 13; refine c13.mono ?_; rintro e w6 ⟨rfl, G6⟩; have HK6 := hyd (HK5'.out.chg G6 (fun h => h)); have HS6 := hyd (HS5.out.new G6); have HG6 := hyd (HG5.out.trans G6); clear G6 c13) | (refine wpList_alloc_25 rfl rfl w6.heap.size rfl ?_))
    intro w7 A7 G7 S7
    have HA7 := hyd A7
    clear A7
    go_wp2_with (refine wpList_store_25 rfl (.tmp 15) (.tmp 66) rfl w6.heap.size rfl rfl HA7.out ?_)
    intro w8 A8 G8
    have G78 := G7.trans' G8 (fun k hk h => by omega)
    have HK8 := hyd (HK6.out.chg G78 (fun h => h))
    have HS8 := hyd (HS6.out.new G78)
    have HG8 := hyd (HG6.out.trans G78)
    have HL8 := hyd A8
    have hB6 := HK6.out.lt
    have hs8 : w6.heap.size + 1 ≤ w8.heap.size := by have := A8.lt; omega
    have HSb6 := hyd HS6.out.apart
    clear A8 G7 G8 G78 HA7 S7 HK6 HS6 HG6 HK5' HS5 HG5
    go_wp2_with (refine wpList_alloc_25 rfl rfl w8.heap.size rfl ?_)
    intro w9 A9 G9 S9
    have HO9 := hyd A9
    have HK9 := hyd (HK8.out.chg G9 (fun h => h))
    have HS9 := hyd (HS8.out.new G9)
    have HG9 := hyd (HG8.out.trans G9)
    have HL9 := hyd (HL8.out.chg G9 (fun h => h))
    have HSb9 := hyd HS8.out.apart
    obtain ⟨Lb, HLb⟩ : ∃ Lb, Hid (Lb = w6.heap.size) := ⟨_, rfl⟩
    obtain ⟨Ob, HOb⟩ : ∃ Ob, Hid (Ob = w8.heap.size) := ⟨_, rfl⟩
    rw [← HLb.out] at HL9 hB6 hs8
    rw [← HLb.out, ← HOb.out]
    rw [← HOb.out] at HO9 S9 hs8 HSb9
    have hOw : w.heap.size < Ob := by have := HBB.out; omega
    have HSz := hyd S9
    clear A9 G9 S9 HK8 HS8 HG8 HL8 HSb6 HSb
    go_wp2_with fail
    go_loopg [16, 18, 19] 25 (fun kx s16 s18 s19 wr => ∃ (i : Nat) (Fs : List Fnd) (ov : Nat → Int) (a6 : Option Addr) (m6 cap6 : Nat), s19 = .int .i64 i ∧ s16 = .slice a6 m6 cap6 ∧ s18 = .int .i64 ((tn : Int) * 8 + (Fs.length : Int)) ∧ i ≤ 25 ∧ 25 - i ≤ kx ∧ m6 = s + Fs.length ∧ Hid (Sl wr (.slice a6 m6 cap6) (st ++ cps tn Fs)) ∧ Hid ((st ++ cps tn Fs).length ≠ 0 → ∀ k, (Value.slice a6 m6 cap6).ownBlock = some k → ¬ k = Ob) ∧ Hid (A25 wr Ob ov) ∧ Hid (Proc st c2 fr tn i Fs ov) ∧ Hid (Chg (· = Ob) w9 wr))
    case atStart => exact ⟨0, [], fun _ => 0, a3, s, cap3, rfl, rfl, by simp, by omega, by omega, by simp, by show Sl _ _ _; rw [show st ++ cps tn [] = st by simp [cps]]; exact HS9.out, by show _ → _; rw [show st ++ cps tn [] = st by simp [cps]]; exact HSb9.out, HO9.out, Proc.start, Chg.refl _ _⟩
    case round =>
    obtain ⟨i, Fs, ov, a6, m6, cap6, rfl, rfl, rfl, hin, hkx, hm6, HS, HSb, HO, HP, HG⟩ := hrel
    have HM6 := hyd hm6
    have hF8 := HP.out.len HSt.out
    clear hm6
    by_cases hlt : i < 25
    · have hltz : (i : Int) ≤ 24 := by omega
      have hlt25 : (i : Int) < 25 := by omega
      have hLO : Lb < Ob := by omega
      have HLr := hyd (HL9.out.chg HG.out (by omega))
      have l1 := (HLr.out.cell i hlt).1
      obtain ⟨o1, o2⟩ := HO.out.cell i hlt
      have HOa := hyd (HO.out.set i (lv st c2 i))
      have HGa : Hid (Chg (· = Ob) w9 (wr.setCell ⟨Ob, i, none⟩ (.int .i64 (lv st c2 i)))) := hyd (HG.out.setCell (Or.inl rfl) i _)
      have hca : Chg (· = Ob) wr (wr.setCell ⟨Ob, i, none⟩ (.int .i64 (lv st c2 i))) := (Chg.refl (· = Ob) wr).setCell (g := Ob) (Or.inl rfl) i _
      have HLa := hyd (HLr.out.chg hca (by omega))
      have HSa := hyd (HS.out.chg hca HSb.out)
      have HNL := hyd (nw_lv (st := st) (c := c2) (j := i))
      go_upto_region 21 with fail
      clear l1 o1 o2 hca
      generalize wr.setCell ⟨Ob, i, none⟩ (.int .i64 (lv st c2 i)) = wa at *
      have l1 := (HLa.out.cell i hlt).1
      obtain ⟨z, hz⟩ : ∃ z, lv st c2 i = z := ⟨_, rfl⟩
      rw [hz] at l1 HOa
      have HZ := hyd hz
      clear hz
      cases hnw : nw st c2 i with
      | none =>
        have hz1 : z = -1 := by have := HNL.out; rw [hnw, HZ.out] at this; exact this
        have HPn := hyd (HP.out.skip (ov' := upd ov i z) (fun j hj => by simp [upd]; intro e; omega) (fun f hf => by rw [hnw] at hf; cases hf) (by simp [upd, HZ.out]))
        subst hz1
        go_wp2
        go_roundg (25 - (i + 1))
        case measure => omega
        case rel => exact ⟨i + 1, Fs, _, a6, m6, cap6, by simp, rfl, rfl, by omega, Nat.le_refl _, HM6.out, HSa.out, HSb.out, HOa.out, HPn.out, HGa.out⟩
      | some f =>
      have hz1 : z = f.P := by have := HNL.out; rw [hnw, HZ.out] at this; exact this
      have hfst := (nw_st hnw).1
      have hP := (snd_iff f).1 (HSt.out.sound f hfst)
      have hP0 := hP.1
      have hP1 := hP.2.1
      have hC0 := hP.2.2.2.2.2.2.1
      have hC1 := hP.2.2.2.2.2.2.2
      clear hP
      rw [hz1] at l1 HOa
      obtain ⟨q, hq⟩ : ∃ q : Nat, f.P / 8 = (q : Int) := ⟨(f.P / 8).toNat, by omega⟩
      have hqt : f.P.tdiv 8 = (q : Int) := by rw [Int.tdiv_eq_ediv_of_nonneg hP0]; exact hq
      have hneg : decide (f.P < 0) = false := decide_eq_false (by omega)
      have HQ := hyd hq
      have HZ1 := hyd hz1
      clear hz1
      by_cases hqf : q = fr
      case neg =>
        have hb : ((q : Int) != (fr : Int)) = true := by simp only [bne_iff_ne, ne_eq]; omega
        have HPn := hyd (HP.out.skip (ov' := upd ov i f.P) (fun j hj => by simp [upd]; intro e; omega) (fun f' hf' => by rw [hnw] at hf'; cases hf'; rw [HQ.out]; omega) (by simp [upd, ← HZ1.out, HZ.out]))
        clear hqf
        go_wp2
        go_roundg (25 - (i + 1))
        case measure => omega
        case rel => exact ⟨i + 1, Fs, _, a6, m6, cap6, by simp, rfl, rfl, by omega, Nat.le_refl _, HM6.out, HSa.out, HSb.out, HOa.out, HPn.out, HGa.out⟩
      have hb : ((q : Int) != (fr : Int)) = false := by simp [hqf]
      have HFr : Hid (f.P / 8 = (fr : Int)) := by show _ = _; rw [HQ.out]; omega
      have HNW := hyd hnw
      have hFO := nw_O hnw
      have HFO := hyd hFO
      clear hqf hnw hFO
      obtain ⟨qi, hqi⟩ := List.getElem?_of_mem hfst
      have HQI := hyd hqi
      have hqs : qi < s := by have := (List.getElem?_eq_some_iff.1 hqi).1; have := HSL.out; omega
      have h0st : st.length ≠ 0 := by have := HSL.out; omega
      obtain ⟨g9, o9, hg9, hA9⟩ := HS9.out.at6 h0st
      have hgO : ¬ g9 = Ob := HSb9.out h0st g9 (by rw [hg9]; rfl)
      have HA9 := hyd hA9
      have HE9 := hyd hg9
      clear hqi hfst hA9 hg9
      go_wp2_with fail
      go_loopg [16, 20] s (fun kx s16 s20 wx => ∃ (t : Nat) (a7 : Option Addr) (m7 cap7 : Nat), s20 = .int .i64 t ∧ s16 = .slice a7 m7 cap7 ∧ t ≤ s ∧ s - t ≤ kx ∧ Hid (InS st Fs f tn Ob qi t a6 m6 cap6 a7 m7 cap7 (upd ov i f.P) (upd (upd ov i f.P) i ((tn : Int) * 8 + (Fs.length : Int))) wx) ∧ Hid (Chg (· = Ob) wa wx))
      case atStart => exact ⟨0, a6, m6, cap6, rfl, rfl, by omega, by omega, Or.inl ⟨by omega, rfl, rfl, rfl, HOa.out⟩, Chg.refl _ _⟩
      case round =>
      have HKX := hyd hkx
      clear hkx
      obtain ⟨t, a7, m7, cap7, rfl, rfl, hts, hkx, HI, HGx⟩ := hrel
      obtain ⟨wx, rfl⟩ : ∃ x, x = wr := ⟨_, rfl⟩
      by_cases ht : t < s
      · have htz : (t : Int) < (s : Int) := by omega
        obtain ⟨x, hx⟩ : ∃ x, st[t]? = some x := ⟨_, List.getElem?_eq_getElem (by rw [← HSL.out]; exact ht)⟩
        have HX := hyd hx
        have hA := HA9.out.chg (HGa.out.trans HGx.out) hgO
        obtain ⟨c0, c2', -, -⟩ := hA.fields hx
        have HR := hyd (hA.2 t x hx)
        have l2 := ((HLa.out.chg HGx.out (by omega)).cell i hlt).1
        rw [HZ.out, HZ1.out] at l2
        have hidx := fun hne => HSt.out.dst.idx hx HQI.out hne
        have hg9 := HE9.out
        subst hg9
        clear hx hA
        by_cases htq : t = qi
        · subst htq
          obtain rfl : f = x := by have := HX.out; rw [HQI.out] at this; exact Option.some.inj this
          clear hidx
          have hb3 : (f.O == (i : Int)) = true := by rw [HFO.out]; simp
          have hOx : A25 wx Ob (upd ov i f.P) ∧ a7 = a6 ∧ m7 = m6 ∧ cap7 = cap6 := by
            rcases HI.out with ⟨_, h2, h3, h4, h5⟩ | ⟨h1, _⟩
            · exact ⟨h5, h2, h3, h4⟩
            · omega
          obtain ⟨hOx, rfl, rfl, rfl⟩ := hOx
          have HOx := hyd hOx
          have hSx := HSa.out.chg HGx.out HSb.out
          have hm6 : m7 ≠ 0 := by have := HM6.out; omega
          have hml : (st ++ cps tn Fs).length = m7 := by obtain ⟨_, _, e, _⟩ := id hSx; simp only [Value.slice.injEq] at e; exact e.2.1.symm
          have hcap7 : (m7 : Int) ≤ (cap7 : Int) := by obtain ⟨_, _, e, h, _⟩ := id hSx; simp only [Value.slice.injEq] at e; omega
          have hm70 : (0 : Int) < (m7 : Int) := by omega
          have hm7ne : ¬ m7 = 0 := hm6
          obtain ⟨g6, o6, h6, hA6⟩ := hSx.at6 (by omega)
          subst h6
          have HA6 := hyd hA6
          have HML := hyd hml
          have h6O : ¬ g6 = Ob := HSb.out (by omega) g6 rfl
          clear hOx hSx hA6 hml HI
          go_wp2_with fail
          go_region_held3 (fun wy => wy.cell? ⟨g9, o9 + t * 6, none⟩ = some (.int .i64 f.P) ∧ wy.cell? ⟨g9, o9 + t * 6 + 2, none⟩ = some (.int .i64 f.O) ∧ wy.cell? ⟨Lb, i, none⟩ = some (.int .i64 f.P)) (first | exact ⟨c0, c2', l2⟩) (first | fail)
          have HRd : Hid (wx.drew.rangeAt g9 (o9 + t * 6) (fL f)) := HR.out
          go_wp2_with (first | (refine wpList_load_at (f := f) rfl (.tmp 118) rfl g9 (o9 + t * 6) rfl ?_ ?_; exact HRd.out) | (refine wpList_alloc_fo rfl rfl wx.heap.size rfl ?_))
          intro wb Kb Gb Sb
          have HKb := hyd Kb
          clear Kb
          go_wp2_with (refine wpList_store_fo rfl (.tmp 21) (.tmp 119) rfl wx.heap.size rfl rfl HKb.out ?_)
          intro wc Kc Gc
          have Gbc := Gb.trans' Gc (fun k hk h => by have : k < wx.heap.size := hk; omega)
          have HGc : Hid (Chg (· = Ob) wa wc) := hyd (HGx.out.drew.trans' Gbc (fun _ _ h => h.elim))
          have HOc : Hid (A25 wc Ob (upd ov i f.P)) := hyd (A25.chg (w := wx.drew) HOx.out Gbc (fun h => h))
          have HA6c : Hid (At6 wc g6 o6 (st ++ cps tn Fs)) := hyd (At6.chg (w := wx.drew) HA6.out Gbc (fun h => h))
          have hOl : Ob < wx.heap.size := HOx.out.lt
          have hwl := HGx.out.size
          have h6l : g6 < wx.heap.size := HA6.out.1
          obtain ⟨kc0, -, -, -, kc4, -⟩ := Kc.cells
          have fc0 := Kc.frozen 0
          have fc4 := Kc.frozen 4
          have HKd := hyd ((Kc.setP ((tn : Int) * 8 + (Fs.length : Int))).setC ((f.C + 1) % 256))
          have hrem : (f.C + 1).tmod 256 = (f.C + 1) % 256 := Int.tmod_eq_emod_of_nonneg (by omega)
          clear Gb Gc Gbc Sb HKb Kc c0 c2' l2 HRd HR
          go_upto_region 29 with fail
          have HGd : Hid (Chg (· = Ob) wa ((wc.setCell ⟨wx.heap.size, 0, none⟩ (.int .i64 ((tn : Int) * 8 + (Fs.length : Int)))).setCell ⟨wx.heap.size, 4, none⟩ (.int .i64 ((f.C + 1) % 256)))) := hyd ((HGc.out.setCell (Or.inr hwl) _ _).setCell (Or.inr hwl) _ _)
          have hcd : Chg (· = wx.heap.size) wc ((wc.setCell ⟨wx.heap.size, 0, none⟩ (.int .i64 ((tn : Int) * 8 + (Fs.length : Int)))).setCell ⟨wx.heap.size, 4, none⟩ (.int .i64 ((f.C + 1) % 256))) := ((Chg.refl (· = wx.heap.size) wc).setCell (g := wx.heap.size) (Or.inl rfl) _ _).setCell (g := wx.heap.size) (Or.inl rfl) _ _
          have HOd := hyd (HOc.out.chg hcd (by omega))
          have HA6d := hyd (HA6c.out.chg hcd (by omega))
          clear hcd kc0 kc4 fc0 fc4 hrem HGc HOc HA6c
          obtain ⟨Nf, HNf⟩ : ∃ Nf, Hid (Nf = wx.heap.size) := ⟨_, rfl⟩
          rw [← HNf.out] at HKd HGd HOd HA6d
          rw [← HNf.out]
          generalize (wc.setCell ⟨Nf, 0, none⟩ (.int .i64 ((tn : Int) * 8 + (Fs.length : Int)))).setCell ⟨Nf, 4, none⟩ (.int .i64 ((f.C + 1) % 256)) = wd at *
          have HKd' : Hid (Fo wd Nf (cp f ((tn : Int) * 8 + (Fs.length : Int)))) := HKd.out
          have kd0 : wd.cell? ⟨Nf, 0, none⟩ = some (.int .i64 ((tn : Int) * 8 + (Fs.length : Int))) := HKd'.out.cell 0 rfl
          have kd1 : wd.cell? ⟨Nf, 1, none⟩ = some (.int .i64 f.T) := HKd'.out.cell 1 rfl
          have kd2 : wd.cell? ⟨Nf, 2, none⟩ = some (.int .i64 f.O) := HKd'.out.cell 2 rfl
          have kd3 : wd.cell? ⟨Nf, 3, none⟩ = some (.int .i64 f.S) := HKd'.out.cell 3 rfl
          have kd4 : wd.cell? ⟨Nf, 4, none⟩ = some (.int .i64 ((f.C + 1) % 256)) := HKd'.out.cell 4 rfl
          have kd5 : wd.cell? ⟨Nf, 5, none⟩ = some (.bool f.L) := HKd'.out.cell 5 rfl
          obtain ⟨fd, hfd⟩ : ∃ fd, fd = cp f ((tn : Int) * 8 + (Fs.length : Int)) := ⟨_, rfl⟩
          have HFD := hyd hfd
          obtain ⟨i0, q1, q2, q3, q4⟩ := info28
          have HOLD : Hid (∀ b, some (⟨g6, o6, none⟩ : Addr) = some b → ∀ j u, ((st ++ cps tn Fs).flatMap fL)[j]? = some u → (wd.drew.alloc (.cells (fA (cp f ((tn : Int) * 8 + (Fs.length : Int)))) 28)).cell? (b.add j) = some u) := hyd (fun b hb j u hu => by
            cases hb
            have hj : j < (st ++ cps tn Fs).length * 6 := by rw [← flat_length]; exact (List.getElem?_eq_some_iff.1 hu).1
            have e : (st ++ cps tn Fs)[j / 6]? = some ((st ++ cps tn Fs)[j / 6]'(by omega)) := List.getElem?_eq_getElem _
            have hf := flat_get (st ++ cps tn Fs) (j / 6) _ (j % 6) e (Nat.mod_lt _ (by decide))
            rw [show j / 6 * 6 + j % 6 = j by omega, hu] at hf
            have h1 := HA6d.out.2 (j / 6) _ e (j % 6) u hf.symm
            rw [show o6 + j / 6 * 6 + j % 6 = o6 + j by omega] at h1
            rw [Addr.add_mid]
            exact (World.cell?_of_block (w := wd) (Below.heap_alloc _ _ _ HA6d.out.1)).trans h1)
          have HNEW : Hid (∀ j u, (fL (cp f ((tn : Int) * 8 + (Fs.length : Int))))[j]? = some u → (wd.drew.alloc (.cells (fA (cp f ((tn : Int) * 8 + (Fs.length : Int)))) 28)).cell? ((⟨wd.heap.size, 0, none⟩ : Addr).add j) = some u) := hyd (fun j u hu => by
            rw [Addr.add_mid, Nat.zero_add]
            exact (Fo.new wd.drew (cp f ((tn : Int) * 8 + (Fs.length : Int)))).cell j hu)
          have hFl : Hid (((st ++ cps tn Fs).flatMap fL).length = m7 * 6) := by show _ = _; rw [flat_length, HML.out]
          have hm7b : m7 + 1 ≤ 2932031007402 := by have := HM6.out; omega
          clear hfd hb3
          go_region_law ((refine step_append_grows (by rfl) (.tmp 134) (.tmp 136) 24 (by rfl) 28 i0 (.agg (fA f0)) 6 48 Try.underlying24 q1 q2 q3 q4 rfl (by decide) (some ⟨g6, o6, none⟩) m7 m7 ((st ++ cps tn Fs).flatMap fL) (by rfl) (fun h => by cases h) hFl.out HOLD.out ⟨wd.heap.size, 0, none⟩ 1 1 (fL (cp f ((tn : Int) * 8 + (Fs.length : Int)))) (by rfl) rfl HNEW.out (fL_one _) (by omega) (by unfold maxLen; omega) (by omega) ?_; intro v' we hown hgrow))
          have hex : st ++ cps tn (Fs ++ [f]) = (st ++ cps tn Fs) ++ [cp f ((tn : Int) * 8 + (Fs.length : Int))] := by
            have ec : ((tn * 8 + Fs.length : Nat) : Int) = (tn : Int) * 8 + (Fs.length : Int) := by omega
            rw [cps_snoc, ec, List.append_assoc]
          have Gde : Chg (fun _ => False) wd we := Chg.grown (((Chg.refl _ wd).alloc _).drew) hgrow (fun k hk => by cases hk)
          obtain ⟨bs, hbs, hOw8⟩ : ∃ bs, wd.heap.size ≤ bs ∧ Ow we bs v' (st ++ cps tn (Fs ++ [f])) := by
            refine ⟨(wd.drew.alloc (.cells (fA (cp f ((tn : Int) * 8 + (Fs.length : Int)))) 28)).heap.size, ?_, ?_⟩
            rotate_left
            · unfold Ow
              rw [hex, List.length_append, List.length_singleton, HML.out, List.flatMap_append, List.flatMap_singleton]
              exact hown
            · exact ((Chg.refl (fun _ => False) wd).drew.alloc _).size
          have hSe := hOw8.sl
          obtain ⟨a8, cap8, e8, -⟩ := id hSe
          have hl8 : (st ++ cps tn (Fs ++ [f])).length = m7 + 1 := by rw [hex, List.length_append, List.length_singleton, HML.out]
          rw [hl8] at e8
          subst e8
          have hOd := HOd.out.lt
          have HBe : Hid ((st ++ cps tn (Fs ++ [f])).length ≠ 0 → ∀ k, (Value.slice a8 (m7 + 1) cap8).ownBlock = some k → ¬ k = Ob) := hyd (fun _ k hk e => by have := (hOw8.block hk).1; omega)
          have HOe := hyd (HOd.out.chg Gde (fun h => h))
          obtain ⟨o1, o2⟩ := HOe.out.cell i hlt
          have HOf := hyd (HOe.out.set i ((tn : Int) * 8 + (Fs.length : Int)))
          have HGf : Hid (Chg (· = Ob) wa (we.setCell ⟨Ob, i, none⟩ (.int .i64 ((tn : Int) * 8 + (Fs.length : Int))))) := hyd ((HGd.out.trans' Gde (fun _ _ h => h.elim)).setCell (Or.inl rfl) _ _)
          have hcf : Chg (· = Ob) we (we.setCell ⟨Ob, i, none⟩ (.int .i64 ((tn : Int) * 8 + (Fs.length : Int)))) := (Chg.refl (· = Ob) we).setCell (g := Ob) (Or.inl rfl) _ _
          have HSf := hyd (hSe.chg hcf HBe.out)
          clear hown hgrow hex Gde hOw8 hSe hl8 hbs hcf kd0 kd1 kd2 kd3 kd4 kd5 HOLD HNEW q1 q2 q3 q4
          go_simp
          go_wp2
          go_roundg (s - (t + 1))
          case measure => omega
          case rel => exact ⟨t + 1, a8, m7 + 1, cap8, by simp, rfl, by omega, Nat.le_refl _, Or.inr ⟨by omega, rfl, HSf.out, HBe.out, HOf.out⟩, HGf.out⟩
        · have hne := hidx htq
          have hb2 : (x.P == f.P) = false := by simpa using hne
          have HIn : Hid (InS st Fs f tn Ob qi (t + 1) a6 m6 cap6 a7 m7 cap7 (upd ov i f.P) (upd (upd ov i f.P) i ((tn : Int) * 8 + (Fs.length : Int))) wx.drew) := by
            rcases HI.out with ⟨h1, h2⟩ | ⟨h1, h2⟩
            · exact Or.inl ⟨by omega, h2⟩
            · exact Or.inr ⟨by omega, h2⟩
          have HNE := hyd hne
          clear hidx htq hne
          go_wp2_with fail
          go_region
          go_wp2
          go_roundg (s - (t + 1))
          case measure => omega
          case rel => exact ⟨t + 1, a7, m7, cap7, by simp, rfl, by omega, Nat.le_refl _, HIn.out, HGx.out.drew⟩
      · have htz : ¬ (t : Int) < (s : Int) := by omega
        obtain ⟨hm7, hSx, hBx, hOx⟩ : m7 = m6 + 1 ∧ Sl wx (.slice a7 m7 cap7) (st ++ cps tn (Fs ++ [f])) ∧ ((st ++ cps tn (Fs ++ [f])).length ≠ 0 → ∀ k, (Value.slice a7 m7 cap7).ownBlock = some k → ¬ k = Ob) ∧ A25 wx Ob (upd (upd ov i f.P) i ((tn : Int) * 8 + (Fs.length : Int))) := by
          rcases HI.out with ⟨h1, _⟩ | ⟨_, h⟩
          · omega
          · exact h
        have HSx := hyd hSx
        have HBx := hyd hBx
        have HOx := hyd hOx
        have HPn := hyd (HP.out.add HSt.out (ov' := upd (upd ov i f.P) i ((tn : Int) * 8 + (Fs.length : Int))) (fun j hj => upd2 (by omega)) HNW.out HFr.out (by simp [upd]))
        have HLV : Hid (lv (st ++ cps tn (Fs ++ [f])) c2 = lv st c2) := hyd (funext fun j => HPn.out.live HSt.out j)
        have HM7 : Hid (m7 = (st ++ cps tn (Fs ++ [f])).length) := hyd (by have h1 := HM6.out; have h2 := HSL.out; rw [List.length_append, cps_length, List.length_append, List.length_singleton]; omega)
        have HGw : Hid (Chg (· = Ob) w9 wx) := hyd (HGa.out.trans HGx.out)
        have HKw := hyd (HK9.out.chg HGw.out (by omega))
        have HLw := hyd (HL9.out.chg HGw.out (by omega))
        have hm7b : m7 < 2932031007402 := by have := HM6.out; omega
        have HM67 : Hid (m7 = s + (Fs ++ [f]).length) := hyd (by have h1 := HM6.out; rw [List.length_append, List.length_singleton]; omega)
        clear hSx hBx hOx HI HGx HA9 l1 hm7
        go_wp2_with fail
        refine wp_region_quiet (C := fun W => Chg (fun _ => False) wx W) (by kernel_rfl) (by kernel_rfl) (Chg.refl _ wx).drew ?_
        refine wpQuiet_step (fun K hK => ?_)
        refine quiet_val rfl _ (fun _ _ => rfl) ?_
        go_simp
        refine hK _ ?_
        clear hK K
        refine wpQuiet_step (fun K hK => ?_)
        refine quiet_val rfl (.agg (ckA c2)) (fun W hW => exec_load_ck rfl rfl (HKw.out.chg hW (fun h => h))) ?_
        go_simp
        refine hK _ ?_
        clear hK K
        refine wpQuiet_step (fun K hK => ?_)
        refine quiet_call rfl (.agg (ints (lv st c2) 25).toArray) 13 #[.slice a7 m7 cap7, .agg (ckA c2)] (fun W hW => exec_call2 enters13 rfl rfl rfl) (fun W hW => (live_any W a7 cap7 (st ++ cps tn (Fs ++ [f])) m7 HM7.out c2 (HSx.out.new hW) hm7b).mono fun _ _ ⟨h1, h2⟩ => ⟨by rw [h1, HLV.out], hW.trans h2⟩) ?_
        go_simp
        refine hK _ ?_
        clear hK K
        refine wpQuiet_step (fun K hK => ?_)
        refine quiet_val rfl (.agg (ints (lv st c2) 25).toArray) (fun W hW => exec_load_25 rfl rfl (HLw.out.chg hW (fun h => h))) ?_
        go_simp
        refine hK _ ?_
        clear hK K
        refine wpQuiet_step (fun K hK => ?_)
        refine quiet_val rfl (.bool false) (fun W hW => exec_neq_25 rfl rfl rfl) ?_
        go_simp
        refine hK _ ?_
        clear hK K
        refine wpQuiet_nil fun W hW => ?_
        have HGn : Hid (Chg (· = Ob) w9 W) := hyd (HGw.out.trans' hW (fun _ _ h => h.elim))
        have HSn := hyd (HSx.out.new hW)
        have HOn := hyd (HOx.out.chg hW (fun h => h))
        clear hW
        go_wp2
        go_roundg (25 - (i + 1))
        case measure => have := HKX.out; omega
        case rel => exact ⟨i + 1, Fs ++ [f], _, a7, m7, cap7, by simp, rfl, by rw [List.length_append, List.length_singleton]; simp; omega, by omega, Nat.le_refl _, HM67.out, HSn.out, HBx.out, HOn.out, HPn.out, HGn.out⟩
    · have hltz : ¬ (i : Int) ≤ 24 := by omega
      have hi25 : i = 25 := by omega
      have HP25 : Hid (Proc st c2 fr tn 25 Fs ov) := hyd (by have := HP.out; rw [hi25] at this; exact this)
      have HKr := hyd (HK9.out.chg HG.out (by omega))
      have HGr : Hid (Chg (fun _ => False) w wr) := hyd (HG9.out.trans' HG.out (fun k hk h => by have : k = Ob := h; omega))
      have HSD := hyd (begun_sound HSt.out HP25.out)
      obtain ⟨bg, hbg⟩ : ∃ bg, st ++ cps tn Fs = bg := ⟨_, rfl⟩
      have HEN : Hid (ends st fr tn Fs = stf bg fr) := hyd (by rw [← hbg]; rfl)
      have HBL : Hid (m6 = bg.length) := hyd (by have h1 := HM6.out; have h2 := HSL.out; rw [← hbg, List.length_append, cps_length]; omega)
      rw [hbg] at HS HSD
      have hm6b : m6 ≤ 2932031007400 := by have := HM6.out; omega
      clear hbg hi25 hlt hkx HSb HG HG9 HK9 HL9 HO9 HS9 HSb9 HSz HP
      obtain ⟨w10, rfl⟩ : ∃ x, x = wr := ⟨_, rfl⟩
      go_wp2_with fail
      go_loopg [22, 23] m6 (fun kx s22 s23 wy => ∃ i : Nat, s23 = .int .i64 i ∧ i ≤ m6 ∧ m6 - i ≤ kx ∧ Hid (Ow wy w10.heap.size s22 (stf (bg.take i) fr)) ∧ Hid (Chg (fun _ => False) w10 wy))
      case atStart => exact ⟨0, rfl, by omega, by omega, Ow.nil _ _, Chg.refl _ _⟩
      case round =>
      obtain ⟨k, rfl, hkm, hkx, HW, HGy⟩ := hrel
      obtain ⟨wy, rfl⟩ : ∃ x, x = wr := ⟨_, rfl⟩
      by_cases hlt : k < m6
      · have hkz : (k : Int) < (m6 : Int) := by omega
        obtain ⟨f, hf⟩ : ∃ f, bg[k]? = some f := ⟨_, List.getElem?_eq_getElem (by rw [← HBL.out]; exact hlt)⟩
        have HF := hyd hf
        obtain ⟨g, o, ha, hA⟩ := HS.out.at6 (by rw [← HBL.out]; omega)
        subst ha
        have hA2 := hA.chg HGy.out (fun h => h)
        obtain ⟨k0, -, -, -⟩ := hA2.fields hf
        have HR := hyd (hA2.2 k f hf)
        have hsn := HSD.out f (by obtain ⟨h1, h2⟩ := List.getElem?_eq_some_iff.1 hf; rw [← h2]; exact List.getElem_mem h1)
        have hP := (snd_iff f).1 hsn
        have hP0 := hP.1
        have hP1 := hP.2.1
        clear hf hA hA2 hP hsn
        have HT := hyd (filter_take_succ (p := fun f => decide (f.P / 8 ≠ (fr : Int))) HF.out)
        obtain ⟨q, hq⟩ : ∃ q : Nat, f.P / 8 = (q : Int) := ⟨(f.P / 8).toNat, by omega⟩
        have hqt : f.P.tdiv 8 = (q : Int) := by rw [Int.tdiv_eq_ediv_of_nonneg hP0]; exact hq
        have HQ := hyd hq
        by_cases hne : q = fr
        · have hb : ((q : Int) != (fr : Int)) = false := by simp [hne]
          have HC : Hid (decide (f.P / 8 ≠ (fr : Int)) = false) := by show _ = _; rw [HQ.out]; simp [hne]
          clear hne
          go_wp2
          go_roundg (m6 - (k + 1))
          case measure => omega
          case rel =>
            refine ⟨k + 1, by simp, by omega, Nat.le_refl _, ?_, HGy.out⟩
            show Ow _ _ _ _
            unfold stf
            rw [HT.out, HC.out]
            have hh := HW.out
            unfold stf at hh
            simpa using hh
        · have hb : ((q : Int) != (fr : Int)) = true := by simp only [bne_iff_ne, ne_eq]; omega
          have HC : Hid (decide (f.P / 8 ≠ (fr : Int)) = true) := by show _ = _; rw [HQ.out]; simp; omega
          have hle : (stf (bg.take k) fr).length + 1 ≤ 2932031007402 := by
            have := Nat.le_trans (List.length_filter_le (fun f => decide (f.P / 8 ≠ (fr : Int))) (bg.take k)) (by rw [List.length_take]; exact Nat.min_le_left _ _)
            unfold stf
            omega
          clear hne
          go_wp2_with (first | (refine wpList_load_at (f := f) rfl (.tmp 165) rfl g (o + k * 6) rfl ?_ ?_; exact HR.out) | (refine wpList_row_fo (f := f) rfl (.tmp 166) rfl rfl wy.heap.size rfl ?_))
          intro w5 K5 G5
          have HO5 := hyd (HW.out.new G5)
          have HG5 := hyd (HGy.out.trans G5)
          have HA5 := hyd (At6.one K5)
          have hb5 : w10.heap.size ≤ w5.heap.size := HG5.out.size
          clear K5 G5 k0
          go_wp2_with (refine wpList_append_fo w5 rfl (.tmp 162) (.tmp 167) rfl w10.heap.size u22 _ rfl HO5.out wy.heap.size 0 1 1 [f] rfl rfl HA5.out hle hb5 ?_)
          intro v' w6 O6 G6
          have HO6 := hyd O6
          have HG6 : Hid (Chg (fun _ => False) w10 w6) := hyd (HG5.out.trans' G6 fun k hk h => by
            have := HO5.out.block h
            omega)
          clear O6 G6
          go_wp2
          go_roundg (m6 - (k + 1))
          case measure => omega
          case rel =>
            refine ⟨k + 1, by simp, by omega, Nat.le_refl _, ?_, HG6.out⟩
            show Ow _ _ _ _
            unfold stf
            rw [HT.out, HC.out]
            have hh := HO6.out
            unfold stf at hh
            simpa using hh
      · have hkz : ¬ (k : Int) < (m6 : Int) := by omega
        obtain ⟨en, hen⟩ : ∃ en, stf bg fr = en := ⟨_, rfl⟩
        have hSe : Sl wy u22 en := by
          have := HW.out.sl
          rw [show k = bg.length by have := HBL.out; omega, List.take_length, hen] at this
          exact this
        have hel : en.length ≤ m6 := by
          have h1 : (stf bg fr).length ≤ bg.length := List.length_filter_le _ _
          rw [hen] at h1
          have := HBL.out
          omega
        rw [hen] at HEN
        obtain ⟨a22, cap22, e22, -⟩ := id hSe
        obtain ⟨e, hle⟩ : ∃ e, e = en.length := ⟨_, rfl⟩
        rw [← hle] at e22 hel
        subst e22
        have HEL := hyd hle
        have HSe := hyd hSe
        have HKy := hyd (HKr.out.chg HGy.out (fun h => h))
        have HOy := hyd (HO.out.chg HGy.out (fun h => h))
        have HGz := hyd (HGr.out.trans HGy.out)
        clear hle hSe hen hkx hkm hlt HW HS HSD HBL HGr HGy HKr HO
        go_wp2_with fail
        go_loopg [24, 25] e (fun kx s24 s25 wz => ∃ r : Nat, s25 = .int .i64 ((r : Int) - 1) ∧ r ≤ e ∧ r ≤ kx ∧ Hid (Ow wz wy.heap.size s24 (en.drop r).reverse) ∧ Hid (Chg (fun _ => False) wy wz))
        case atStart => exact ⟨e, rfl, by omega, by omega, by show Ow _ _ _ _; rw [HEL.out, List.drop_length]; exact Ow.nil _ _, Chg.refl _ _⟩
        case round =>
        obtain ⟨r, rfl, hre, hkx, HW, HGx⟩ := hrel
        obtain ⟨wz, rfl⟩ : ∃ x, x = wr := ⟨_, rfl⟩
        cases r with
        | succ k2 =>
          rw [show ((k2 + 1 : Nat) : Int) - 1 = (k2 : Int) by omega]
          have hkz2 : (k2 : Int) < (e : Int) := by omega
          have hk2e : k2 < e := by omega
          obtain ⟨f, hf⟩ : ∃ f, en[k2]? = some f := ⟨_, List.getElem?_eq_getElem (by rw [← HEL.out]; omega)⟩
          obtain ⟨g, o, ha, hA⟩ := HSe.out.at6 (by rw [← HEL.out]; omega)
          subst ha
          have hA2 := hA.chg HGx.out (fun h => h)
          have HR := hyd (hA2.2 k2 f hf)
          have HT := hyd (rev_step hf)
          clear hf hA hA2
          have hle : (en.drop (k2 + 1)).reverse.length + 1 ≤ 2932031007402 := by
            rw [List.length_reverse, List.length_drop, ← HEL.out]
            omega
          go_wp2_with (first | (refine wpList_load_at (f := f) rfl (.tmp 179) rfl g (o + k2 * 6) rfl ?_ ?_; exact HR.out) | (refine wpList_row_fo (f := f) rfl (.tmp 180) rfl rfl wz.heap.size rfl ?_))
          intro w5 K5 G5
          have HO5 := hyd (HW.out.new G5)
          have HG5 := hyd (HGx.out.trans G5)
          have HA5 := hyd (At6.one K5)
          have hb5 : wy.heap.size ≤ w5.heap.size := HG5.out.size
          clear K5 G5
          go_wp2_with (refine wpList_append_fo w5 rfl (.tmp 176) (.tmp 181) rfl wy.heap.size u24 _ rfl HO5.out wz.heap.size 0 1 1 [f] rfl rfl HA5.out hle hb5 ?_)
          intro v' w6 O6 G6
          have HO6 := hyd O6
          have HG6 : Hid (Chg (fun _ => False) wy w6) := hyd (HG5.out.trans' G6 fun k hk h => by
            have := HO5.out.block h
            omega)
          clear O6 G6
          go_wp2
          go_roundg k2
          case measure => omega
          case rel =>
            refine ⟨k2, by simp, by omega, Nat.le_refl _, ?_, HG6.out⟩
            show Ow _ _ _ _
            rw [HT.out]
            exact HO6.out
        | zero =>
          rw [show ((0 : Nat) : Int) - 1 = (-1 : Int) from rfl]
          have hSt : Sl wz u24 en.reverse := HW.out.sl
          obtain ⟨a24, cap24, e24, -⟩ := id hSt
          rw [List.length_reverse, ← HEL.out] at e24
          subst e24
          have HSt2 := hyd hSt
          have HSz := hyd (HSe.out.new HGx.out)
          have HKz := hyd (HKy.out.chg HGx.out (fun h => h))
          have HOz := hyd (HOy.out.chg HGx.out (fun h => h))
          have HGq := hyd (HGz.out.trans HGx.out)
          have HEr : Hid (e = en.reverse.length) := hyd (by rw [List.length_reverse]; exact HEL.out)
          have HV1 : Hid (ints (lv en c2) 25 = ints ov 25) := hyd (ints_same fun j hj => HP25.out.ended HSt.out (by rw [← HEN.out]; exact HP25.out.dstEnds HSt.out) (by rw [← HEN.out]; exact fun x => Iff.rfl) j hj)
          have HV2 : Hid (ints (lv en.reverse c2) 25 = ints ov 25) := hyd (ints_same fun j hj => HP25.out.ended HSt.out (by rw [← HEN.out]; exact (HP25.out.dstEnds HSt.out).reverse) (by rw [← HEN.out]; exact fun x => List.mem_reverse) j hj)
          have heb : e < 2932031007402 := by omega
          clear hSt HW HSe HKy HOy HGz HGx
          go_wp2_with fail
          refine wp_region_quiet (C := fun W => Chg (fun _ => False) wz W) (by kernel_rfl) (by kernel_rfl) (Chg.refl _ wz).drew ?_
          refine wpQuiet_step (fun K hK => ?_)
          refine quiet_val rfl _ (fun _ _ => rfl) ?_
          go_simp
          refine hK _ ?_
          clear hK K
          refine wpQuiet_step (fun K hK => ?_)
          refine quiet_val rfl _ (fun _ _ => rfl) ?_
          go_simp
          refine hK _ ?_
          clear hK K
          refine wpQuiet_step (fun K hK => ?_)
          refine quiet_val rfl _ (fun _ _ => rfl) ?_
          go_simp
          refine hK _ ?_
          clear hK K
          refine wpQuiet_step (fun K hK => ?_)
          refine quiet_val rfl (.agg (ckA c2)) (fun W hW => exec_load_ck rfl rfl (HKz.out.chg hW (fun h => h))) ?_
          go_simp
          refine hK _ ?_
          clear hK K
          refine wpQuiet_step (fun K hK => ?_)
          refine quiet_call rfl (.agg (ints ov 25).toArray) 13 #[.slice a22 e cap22, .agg (ckA c2)] (fun W hW => exec_call2 enters13 rfl rfl rfl) (fun W hW => (live_any W a22 cap22 en e HEL.out c2 (HSz.out.new hW) heb).mono fun _ _ ⟨h1, h2⟩ => ⟨by rw [h1, HV1.out], hW.trans h2⟩) ?_
          go_simp
          refine hK _ ?_
          clear hK K
          refine wpQuiet_step (fun K hK => ?_)
          refine quiet_val rfl (.agg (ints ov 25).toArray) (fun W hW => exec_load_25 rfl rfl (HOz.out.chg hW (fun h => h))) ?_
          go_simp
          refine hK _ ?_
          clear hK K
          refine wpQuiet_step (fun K hK => ?_)
          refine quiet_val rfl (.bool true) (fun W hW => exec_eql_25 rfl rfl rfl) ?_
          go_simp
          refine hK _ ?_
          clear hK K
          refine wpQuiet_step (fun K hK => ?_)
          refine quiet_val rfl _ (fun _ _ => rfl) ?_
          go_simp
          refine hK _ ?_
          clear hK K
          refine wpQuiet_step (fun K hK => ?_)
          refine quiet_val rfl _ (fun _ _ => rfl) ?_
          go_simp
          refine hK _ ?_
          clear hK K
          refine wpQuiet_step (fun K hK => ?_)
          refine quiet_val rfl _ (fun _ _ => rfl) ?_
          go_simp
          refine hK _ ?_
          clear hK K
          refine wpQuiet_step (fun K hK => ?_)
          refine quiet_val rfl (.agg (ckA c2)) (fun W hW => exec_load_ck rfl rfl (HKz.out.chg hW (fun h => h))) ?_
          go_simp
          refine hK _ ?_
          clear hK K
          refine wpQuiet_step (fun K hK => ?_)
          refine quiet_call rfl (.agg (ints ov 25).toArray) 13 #[.slice a24 e cap24, .agg (ckA c2)] (fun W hW => exec_call2 enters13 rfl rfl rfl) (fun W hW => (live_any W a24 cap24 en.reverse e HEr.out c2 (HSt2.out.new hW) heb).mono fun _ _ ⟨h1, h2⟩ => ⟨by rw [h1, HV2.out], hW.trans h2⟩) ?_
          go_simp
          refine hK _ ?_
          clear hK K
          refine wpQuiet_step (fun K hK => ?_)
          refine quiet_val rfl (.agg (ints ov 25).toArray) (fun W hW => exec_load_25 rfl rfl (HOz.out.chg hW (fun h => h))) ?_
          go_simp
          refine hK _ ?_
          clear hK K
          refine wpQuiet_step (fun K hK => ?_)
          refine quiet_val rfl (.bool true) (fun W hW => exec_eql_25 rfl rfl rfl) ?_
          go_simp
          refine hK _ ?_
          clear hK K
          refine wpQuiet_step (fun K hK => ?_)
          refine quiet_val rfl _ (fun _ _ => rfl) ?_
          go_simp
          refine hK _ ?_
          clear hK K
          refine wpQuiet_step (fun K hK => ?_)
          refine quiet_val rfl _ (fun _ _ => rfl) ?_
          go_simp
          refine hK _ ?_
          clear hK K
          refine wpQuiet_nil fun W hW => ?_
          have HGe := hyd (HGq.out.trans hW)
          clear hW
          go_wp2
          go_ret
          exact ⟨rfl, HGe.out.below (fun _ h => h.elim) (Nat.le_refl _)⟩
end Go.Proofs.Ytjkpidhpjleebaa
