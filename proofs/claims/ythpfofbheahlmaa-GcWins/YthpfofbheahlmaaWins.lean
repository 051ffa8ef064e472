/-
  GcWins, walked. Condition: the list lies in memory.
-/
import Derived.Test.YthpfofbheahlmaaUp
namespace Go.Proofs.Ythpfofbheahlmaa
set_option maxRecDepth 100000
open Go.RowKit

/-- So many blocks are full, from f on, round and round. -/
def stS (f i : Nat) : Nat → Int := fun j => if (j + 12 - f) % 12 < i then 2 else 0
theorem stS_step {f i : Nat} (hf : f < 12) (hi : i < 7) (j : Nat) (hj : j < 12) : upd (stS f i) ((f + i) % 12) 2 j = stS f (i + 1) j := by
  unfold upd stS
  by_cases h : j = (f + i) % 12
  · rw [if_pos h, if_pos (by omega)]
  · rw [if_neg h]
    by_cases h2 : (j + 12 - f) % 12 < i
    · rw [if_pos h2, if_pos (by omega)]
    · rw [if_neg h2, if_neg (by omega)]
def tot (L : Nat → Int) : Nat → Int
  | 0 => 0
  | n + 1 => tot L n + L n
theorem tot_upd (L : Nat → Int) (b : Nat) (z : Int) : ∀ n, tot (upd L b z) n = tot L n + if b < n then z - L b else 0
  | 0 => by simp [tot]
  | n + 1 => by
    have ih := tot_upd L b z n
    unfold tot
    rw [ih]
    by_cases h : b = n
    · subst h
      rw [if_neg (by omega), if_pos (by omega)]
      simp [upd]
      omega
    · rw [show upd L b z n = L n by simp [upd]; intro e; exact absurd e.symm h]
      by_cases h2 : b < n
      · rw [if_pos h2, if_pos (by omega)]; omega
      · rw [if_neg h2, if_neg (by omega)]; omega
theorem tot_le {F G : Nat → Int} : ∀ n, (∀ i, i < n → F i ≤ G i) → tot F n ≤ tot G n
  | 0, _ => Int.le_refl _
  | n + 1, h => by
    have ih := tot_le n (fun i hi => h i (by omega))
    have := h n (by omega)
    unfold tot
    omega
theorem seven : ∀ f, f < 12 → tot (fun j => if (j + 12 - f) % 12 < 7 then 4 else 0) 12 = 28 := by decide
/-- What is chosen of seven full blocks with at most 25 pages. -/
theorem wins {f : Nat} {L : Nat → Int} (hf : f < 12) (h0 : ∀ j, j < 12 → 0 ≤ L j) (ht : tot L 12 ≤ 25) : ∃ b, b < 12 ∧ chO (stS f 7) L = some b ∧ stS f 7 b = 2 ∧ L b ≤ 3 ∧ ∀ i, i < 12 → stS f 7 i = 2 → L b ≤ L i := by
  have hi := bst_is (stS f 7) L 12
  cases e : bst (stS f 7) L 12 with
  | none =>
    rw [e] at hi
    exact absurd (show stS f 7 f = 2 by unfold stS; rw [if_pos (by omega)]) (hi f (Nat.zero_le _) hf)
  | some b =>
    rw [e] at hi
    obtain ⟨_, hb, hs, h1, _⟩ := hi
    refine ⟨b, hb, e, hs, ?_, fun i hi => h1 i (Nat.zero_le _) hi⟩
    have h7 := seven f hf
    have : ¬ 4 ≤ L b := fun h4 => by
      have := tot_le (F := fun j => if (j + 12 - f) % 12 < 7 then 4 else 0) (G := L) 12 (fun i hi => by
        show (if (i + 12 - f) % 12 < 7 then 4 else 0) ≤ L i
        by_cases hw : (i + 12 - f) % 12 < 7
        · rw [if_pos hw]
          have := h1 i (Nat.zero_le _) hi (by unfold stS; rw [if_pos hw])
          omega
        · rw [if_neg hw]
          exact h0 i hi)
      omega
    omega
/-- -5 at the blocks below i that aren't full. -/
def mrk (S L : Nat → Int) (i : Nat) : Nat → Int := fun j => if j < i ∧ S j ≠ 2 then -5 else L j
theorem mrk_full {S : Nat → Int} (L : Nat → Int) (i : Nat) {j : Nat} (h : S j = 2) : mrk S L i j = L j := if_neg (fun x => x.2 h)
theorem mrk_from (S L : Nat → Int) {i j : Nat} (h : i ≤ j) : mrk S L i j = L j := if_neg (fun x => by omega)
theorem mrk_skip {S L : Nat → Int} {i : Nat} (h : S i = 2) (j : Nat) : mrk S L i j = mrk S L (i + 1) j := by
  unfold mrk
  by_cases e : j = i
  · subst e; rw [if_neg (fun x => x.2 h), if_neg (fun x => x.2 h)]
  · by_cases hc : j < i ∧ S j ≠ 2
    · rw [if_pos hc, if_pos ⟨by omega, hc.2⟩]
    · rw [if_neg hc, if_neg (fun x => hc ⟨by omega, x.2⟩)]
theorem mrk_step {S L : Nat → Int} {i : Nat} (h : S i ≠ 2) (j : Nat) : upd (mrk S L i) i (-5) j = mrk S L (i + 1) j := by
  unfold upd mrk
  by_cases e : j = i
  · subst e; rw [if_pos rfl, if_pos ⟨by omega, h⟩]
  · rw [if_neg e]
    by_cases hc : j < i ∧ S j ≠ 2
    · rw [if_pos hc, if_pos ⟨by omega, hc.2⟩]
    · rw [if_neg hc, if_neg (fun x => hc ⟨by omega, x.2⟩)]
theorem mrk_ch {S L : Nat → Int} {b : Nat} (h : chO S L = some b) (i : Nat) : chO S (mrk S L i) = some b := by
  have h1 := bst_is S L 12
  rw [show bst S L 12 = some b from h] at h1
  refine (bst_is S (mrk S L i) 12).unique ?_
  obtain ⟨a0, a1, a2, a3, a4⟩ := h1
  refine ⟨a0, a1, a2, fun j h1 h2 h3 => ?_, fun j h1 h2 h3 => ?_⟩
  · rw [mrk_full L i a2, mrk_full L i h3]; exact a3 j h1 h2 h3
  · rw [mrk_full L i a2, mrk_full L i h3]; exact a4 j h1 h2 h3
/-- The two lists of the law. -/
structure Wn (w0 w : World) (s l : Nat) (S L : Nat → Int) : Prop where
  st : IB w s 3 12 S
  lv : IB w l 3 12 L
  ne : s ≠ l
  ls : w0.heap.size ≤ s
  ll : w0.heap.size ≤ l
  chg : Chg (fun _ => False) w0 w
section
variable {w0 w : World} {s l : Nat} {S L S' L' : Nat → Int}
theorem Wn.setS (h : Wn w0 w s l S L) (i : Nat) (z : Int) (e : ∀ j, j < 12 → upd S i z j = S' j) : Wn w0 (w.setCell ⟨s, i, none⟩ (.int .i64 z)) s l S' L :=
  { h with st := (h.st.set i z).congr e, lv := h.lv.chg ((Chg.refl (· = s) _).setCell (Or.inl rfl) _ _) h.ne.symm, chg := h.chg.setCell (Or.inr h.ls) _ _ }
theorem Wn.setL (h : Wn w0 w s l S L) (i : Nat) (z : Int) (e : ∀ j, j < 12 → upd L i z j = L' j) : Wn w0 (w.setCell ⟨l, i, none⟩ (.int .i64 z)) s l S L' :=
  { h with lv := (h.lv.set i z).congr e, st := h.st.chg ((Chg.refl (· = l) _).setCell (Or.inl rfl) _ _) h.ne, chg := h.chg.setCell (Or.inr h.ll) _ _ }
theorem Wn.drewN (h : Wn w0 w s l S L) (m : Nat) : Wn w0 (w.drewN m) s l S L := { h with st := h.st.drewN m, lv := h.lv.drewN m, chg := h.chg.drewN m }
theorem Wn.same (h : Wn w0 w s l S L) (e : ∀ j, j < 12 → L j = L' j) : Wn w0 w s l S L' := { h with lv := h.lv.congr e }
theorem Wn.sameS (h : Wn w0 w s l S L) (e : ∀ j, j < 12 → S j = S' j) : Wn w0 w s l S' L := { h with st := h.st.congr e }
end
set_option maxHeartbeats 8000000 in
theorem wins_walk (l : Option Addr) (len cap : Nat) (V : Nat → Int) (off : Int) (hoff : -9223372036854775808 ≤ off ∧ off ≤ 9223372036854775807) (w : World) (hV : IsInts w l len V) (hlen : len * 8 ≤ 140737488351232) :
    Calls Try.prog 4 #[.slice l len cap, .int .i64 off] w fun e w' => e = .returned (.bool true) ∧ Below w.heap.size w w' := by
  have hm := make12
  have HV := hyd hV
  have hlz : (len : Int) * 8 ≤ 140737488351232 := by omega
  clear hV hlen
  go_enter Try.func4, Try.ntmps4
  go_wp2_with fail
  refine (up_any _).mono ?_
  rintro x w1 ⟨rfl, G1⟩
  obtain ⟨w2, HW⟩ : ∃ w2, Hid (w2 = (w1.alloc (.cells (ints (fun _ => 0) 12).toArray 3)).alloc (.cells (ints (fun _ => 0) 12).toArray 3)) := ⟨_, rfl⟩
  have HT : Hid (Wn w w2 w1.heap.size (w1.heap.size + 1) (fun _ => 0) (fun _ => 0)) := by
    rw [HW.out]
    refine ⟨(IB.new w1 3 12 _).chg ((Chg.refl (fun _ => False) _).alloc _) (fun f => f), ?_, by omega, G1.size, by have := G1.size; omega, (G1.alloc _).alloc _⟩
    have := IB.new (w1.alloc (.cells (ints (fun _ => 0) 12).toArray 3)) 3 12 (fun _ => 0)
    rw [show (w1.alloc (.cells (ints (fun _ => 0) 12).toArray 3)).heap.size = w1.heap.size + 1 by simp] at this
    exact this
  clear G1
  go_wp2_with fail
  rw [← HW.out]
  clear HW hm
  generalize w1.heap.size = s at *
  generalize HLL : s + 1 = t at *
  clear HLL
  refine (pick_any off hoff.1 hoff.2 12 (by omega) (by omega) _).mono ?_
  rintro x w2 ⟨⟨f, hf, rfl⟩, rfl⟩
  have HF := hyd hf
  have hfz : (f : Int) < 12 := by omega
  clear hf hoff
  have HT1 := hyd (HT.out.sameS (S' := stS f 0) (fun j _ => by simp [stS]))
  clear HT
  go_wp2_with fail
  go_loopg [9] 7 (fun kx s9 wr => ∃ i : Nat, s9 = .int .i64 i ∧ i ≤ 7 ∧ 7 - i ≤ kx ∧ Hid (Wn w wr s t (stS f i) (fun _ => 0)))
  case atStart => exact ⟨0, rfl, by omega, by omega, HT1⟩
  case round =>
  clear HT1
  obtain ⟨i, rfl, hin, hkx, HT⟩ := hrel
  by_cases hlt : i < 7
  · have hltz : (i : Int) < 7 := by omega
    obtain ⟨q, hq⟩ : ∃ q, q = (f + i) % 12 := ⟨_, rfl⟩
    have hq12 : q < 12 := by omega
    have hqz : (q : Int) < 12 := by omega
    have hrem : ((f : Int) + (i : Int)).tmod 12 = (q : Int) := by rw [Int.tmod_eq_emod_of_nonneg (by omega)]; omega
    have hst := stS_step HF.out hlt
    rw [← hq] at hst
    have HT' := hyd (HT.out.setS (S' := stS f (i + 1)) q 2 hst)
    obtain ⟨c0, f0⟩ := HT.out.st.cell q hq12
    clear HT hst hq hq12
    go_wp2
    go_roundg (7 - (i + 1))
    case measure => omega
    case rel => exact ⟨i + 1, by simp, by omega, Nat.le_refl _, HT'⟩
  · have hltz : ¬ (i : Int) < 7 := by omega
    obtain rfl : i = 7 := by omega
    clear hin hkx hlt
    go_wp2_with fail
    go_loopg [10] len (fun kx s10 wr => ∃ (i : Nat) (L : Nat → Int), s10 = .int .i64 i ∧ i ≤ len ∧ i ≤ 25 ∧ len - i ≤ kx ∧ Hid (Wn w wr s t (stS f 7) L) ∧ Hid ((∀ j, j < 12 → 0 ≤ L j ∧ L j ≤ 7) ∧ tot L 12 ≤ i))
    case atStart => exact ⟨0, fun _ => 0, rfl, by omega, by omega, by omega, HT, fun j _ => ⟨Int.le_refl 0, show (0 : Int) ≤ 7 by decide⟩, by decide⟩
    case round =>
    clear HT
    obtain ⟨i, L, rfl, hin, hi25, hkx, HT, HL⟩ := hrel
    by_cases hlt : i < len ∧ i < 25
    · have hltz : (i : Int) < (len : Int) := by omega
      have hlt25 : (i : Int) < 25 := by omega
      obtain ⟨hok, hc⟩ := HV.out
      rcases hc with hc | ⟨qa, oa, rfl, hqa, hc⟩
      · omega
      have x0 := (HT.out.chg.cell hqa (fun f => f) _).trans (hc i hlt.1)
      have hvi := hok i hlt.1
      clear hok hc hqa
      generalize V i = v at *
      go_wp2_with fail
      refine (pick_any v hvi.1 hvi.2 7 (by omega) (by omega) _).mono ?_
      rintro x wr ⟨⟨n, hn, rfl⟩, rfl⟩
      obtain ⟨q, hq⟩ : ∃ q, q = (f + n) % 12 := ⟨_, rfl⟩
      have hq12 : q < 12 := by omega
      have hqz : (q : Int) < 12 := by omega
      have hnz : (n : Int) < 7 := by omega
      have hrem : ((f : Int) + (n : Int)).tmod 12 = (q : Int) := by rw [Int.tmod_eq_emod_of_nonneg (by omega)]; omega
      obtain ⟨c0, f0⟩ := HT.out.lv.cell q hq12
      have hl := HL.out.1 q hq12
      by_cases hs : L q < 7
      · have HT' := hyd (HT.out.setL (L' := upd L q (L q + 1)) q (L q + 1) (fun _ _ => rfl))
        have HL' : Hid ((∀ j, j < 12 → 0 ≤ upd L q (L q + 1) j ∧ upd L q (L q + 1) j ≤ 7) ∧ tot (upd L q (L q + 1)) 12 ≤ ((i + 1 : Nat) : Int)) := by
          refine ⟨fun j hj => ?_, ?_⟩
          · unfold upd
            by_cases e : j = q
            · rw [if_pos e]; omega
            · rw [if_neg e]; exact HL.out.1 j hj
          · rw [tot_upd, if_pos hq12]
            have := HL.out.2
            omega
        clear HT HL hq hq12 hn x0 hvi
        generalize upd L q (L q + 1) = L' at *
        generalize L q = u at *
        go_wp2
        go_roundg (len - (i + 1))
        case measure => omega
        case rel => exact ⟨i + 1, L', by simp, by omega, by omega, Nat.le_refl _, HT', HL'⟩
      · have HL' : Hid ((∀ j, j < 12 → 0 ≤ L j ∧ L j ≤ 7) ∧ tot L 12 ≤ ((i + 1 : Nat) : Int)) := ⟨HL.out.1, by have := HL.out.2; omega⟩
        clear HL hq hq12 hn x0 hvi
        generalize L q = u at *
        go_wp2
        go_roundg (len - (i + 1))
        case measure => omega
        case rel => exact ⟨i + 1, L, by simp, by omega, by omega, Nat.le_refl _, HT, HL'⟩
    · obtain ⟨b, hb, hch, hbs, hb3, hle⟩ := wins HF.out (fun j hj => (HL.out.1 j hj).1) (by have := HL.out.2; omega : tot L 12 ≤ 25)
      have hends : ((i : Int) < (len : Int) ∧ ¬ (i : Int) < 25) ∨ ¬ (i : Int) < (len : Int) := by omega
      have HI := hyd (And.intro hb (And.intro hbs hle))
      have HC := hyd hch
      have hbz : (b : Int) < 12 := by omega
      obtain ⟨g, hg⟩ : ∃ g, g = 6 - min (max (L b) 0) 6 := ⟨_, rfl⟩
      have hg3 : ¬ g < 3 := by omega
      have hgn : gnV 12 12 (stS f 7) L = g := by unfold gnV; rw [chC_some hch, chV_some hch, if_pos rfl, hg]
      have HGN := hyd hgn
      have q1 := neq_nil
      have q2 := eql_nil
      clear hgn hg hb hch hbs hb3 hle hlt hin hi25 hkx HL HV hlz HF
      rcases hends with ⟨e1, e2⟩ | e1 <;> (
        go_wp2_with fail
        refine (choose_v wr _ _ 12 12 12 12 (stS f 7) L HT.out.st.lies HT.out.lv.lies).mono ?_
        rintro x w4 ⟨rfl, m4, rfl⟩
        rw [chV_some HC.out, chC_some HC.out, show errV 0 = .nilIface from rfl]
        have HT4 := hyd (HT.out.drewN m4)
        clear HT
        generalize wr.drewN m4 = w4 at *
        go_wp2_with fail
        refine (gain_v w4 _ _ 12 12 12 12 (stS f 7) L HT4.out.st.lies HT4.out.lv.lies).mono ?_
        rintro x w5 ⟨rfl, m5, rfl⟩
        rw [HGN.out, chC_some HC.out, show errV 0 = .nilIface from rfl]
        have HT5 := hyd (HT4.out.drewN m5)
        clear HT4
        generalize w4.drewN m5 = w5 at *
        have x0 := (HT5.out.st.cell b HI.out.1).1
        rw [HI.out.2.1] at x0
        go_wp2_with fail
        clear x0
        go_loopg [16] 12 (fun kx s16 wr => ∃ i : Nat, s16 = .int .i64 i ∧ i ≤ 12 ∧ 12 - i ≤ kx ∧ Hid (Wn w wr s t (stS f 7) (mrk (stS f 7) L i)))
        case atStart => exact ⟨0, rfl, by omega, by omega, HT5.out.same (fun j _ => (mrk_from _ _ (Nat.zero_le _)).symm)⟩
        case round =>
        clear HT5
        obtain ⟨k, rfl, hin, hkx, HT⟩ := hrel
        by_cases hlt : k < 12
        · have hltz : (k : Int) < 12 := by omega
          have x0 := (HT.out.st.cell k hlt).1
          obtain ⟨x1, f1⟩ := HT.out.lv.cell k hlt
          have x2 := (HT.out.lv.cell b HI.out.1).1
          rw [mrk_from _ _ (Nat.le_refl _)] at x1
          rw [mrk_full _ _ HI.out.2.1] at x2
          by_cases h2 : stS f 7 k = 2
          · rw [h2] at x0
            have hle := HI.out.2.2 k hlt h2
            have hnl : ¬ L k < L b := by omega
            have HT' := hyd (HT.out.same (fun j _ => mrk_skip h2 j))
            clear HT h2 hle
            generalize L k = u at *
            generalize L b = v at *
            go_wp2_with fail
            go_quiet (fail)
            have HT6 := hyd (HT'.out.drewN nq)
            clear HT'
            go_wp2
            go_roundg (12 - (k + 1))
            case measure => omega
            case rel => exact ⟨k + 1, by simp, by omega, Nat.le_refl _, HT6⟩
          · have HE := hyd h2
            have hn1 : (stS f 7 k == 2) = false := by simp only [beq_eq_false_iff_ne]; exact h2
            have hn2 : (stS f 7 k != 2) = true := by simp only [bne_iff_ne]; exact h2
            clear h2
            generalize stS f 7 k = u at x0 hn1 hn2
            generalize L b = v at x2
            go_wp2_with fail
            go_quiet (fail)
            have HT6 := hyd ((HT.out.drewN nq).setL k (-5) (fun j _ => mrk_step HE.out j))
            clear HT
            go_wp2
            go_roundg (12 - (k + 1))
            case measure => omega
            case rel => exact ⟨k + 1, by simp, by omega, Nat.le_refl _, HT6⟩
        · have hltz : ¬ (k : Int) < 12 := by omega
          have hbb : ((b : Int) == (b : Int)) = true := by simp
          go_wp2_with fail
          refine (choose_v wr _ _ 12 12 12 12 _ _ HT.out.st.lies HT.out.lv.lies).mono ?_
          rintro x w6 ⟨rfl, m6, rfl⟩
          rw [chV_some (mrk_ch HC.out k), chC_some (mrk_ch HC.out k), show errV 0 = .nilIface from rfl]
          have HG6 := hyd (HT.out.chg.drewN m6)
          clear HT HC HI HGN
          generalize wr.drewN m6 = w6 at *
          go_wp2
          go_ret
          exact ⟨rfl, HG6.out.below (fun _ h => h.elim) (Nat.le_refl _)⟩)
end Go.Proofs.Ythpfofbheahlmaa
