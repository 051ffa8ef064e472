/-
  The document's answer for the syndromes: patinaref02.Syndromes. Condition: the bytes can be read. The document's answer for a codeword: a message, moved up, divided by the rule: what is left stands behind it. It is the codeword. No condition: plain mathematics. The document's answer for a codeword, walked: patinaref02.rule, patinaref02.Encode. Condition: the message's bytes can be read. RsEncodes, walked: whatever the bytes, Encode answers as the document says, leaves what it was lent as it was, and what it answers is its owner's. Condition: the bytes came in as a slice does. The document's tables of powers and logarithms: patinaref02.tables. No condition. The document's trial of two places, and its quotient: patinaref02.fits, patinaref02.over. Condition: the tables are the document's, the bytes can be read. The document's quotient, and its word with two symbols taken away: patinaref02.over, patinaref02.turned. Condition: the tables are the document's, the bytes can be read.
-/
import Derived.Test.YtifjmilegogbaaaGreatUKnow
import Derived.Test.YtifjmilegogbaaaGreatURefs
namespace Go.Proofs.YtifjmilegogbaaaGreat
open Go.RowKit
set_option maxRecDepth 100000

/-- The first j syndromes. -/
def syP (l : List Nat) (j : Nat) : List Nat := (List.range j).map (sy l)
theorem syP_succ (l : List Nat) (j : Nat) : syP l (j + 1) = syP l j ++ [sy l j] := by simp [syP, List.range_succ]
theorem syP_length (l : List Nat) (j : Nat) : (syP l j).length = j := by simp [syP]
theorem syP_all (l : List Nat) : syP l 6 = syL l 6 := by
  apply List.map_congr_left
  intro i hi
  rw [if_pos (List.mem_range.1 hi)]
set_option maxHeartbeats 4000000 in
theorem rsyn_any (w : World) (a : Option Addr) (cap : Nat) (l : List Nat) (hl : Bys l) (hlen : l.length ≤ 9223372036854775807) (hr : Held w (.slice a l.length cap) l) :
    Calls Tryz.prog 137 #[.slice a l.length cap] w fun e w' => ∃ v, e = .returned v ∧ Own w' w.heap.size 5 v (syL l 6) ∧ Chg (fun _ => False) w w' := by
  have hi5 := info5
  have HR := hyd hr
  clear hr
  go_enter Tryz.func137, Tryz.ntmps137
  go_wp2_with fail
  go_loopw [3, 4, 5] (fun v x t wr => ∃ j : Nat, j ≤ 6 ∧ t = .int .i64 j ∧ x = .int .u8 (ex j : Nat) ∧ Own wr w.heap.size 5 v (syP l j) ∧ Chg (fun _ => False) w wr) (fun _ _ t _ => 6 - (intOf t).toNat)
  case atStart => exact ⟨0, by omega, rfl, by rw [ex_zero]; rfl, Own.nil _ _ _, Chg.refl _ _⟩
  case round =>
    obtain ⟨j, hj, rfl, rfl, hO, hG⟩ := hrel
    by_cases hlt : j < 6
    · have hR := HR.out.chgF hG
      have hx := ex_lt j
      have HE : Hid (gm (ex j) 2 = ex (j + 1)) := hyd (ex_two j (by omega))
      have HS : Hid (syP l (j + 1) = syP l j ++ [ev (ex j) l]) := hyd (syP_succ l j)
      have hev := ev_lt (ex j) l hl
      generalize ex j = y at *
      have hsl := syP_length l j
      go_wp2_with (first | (go_at_call 151; refine (reval_any _ a cap l hl hlen y hx hR).mono ?_; rintro e w1 ⟨rfl, rfl⟩) | (at_builtin; refine wpList_append_bytes _ rfl _ _ 55 rfl w.heap.size 5 Tryz.underlying55 hi5 _ (syP l j) rfl ?h1 (some ⟨w1.heap.size, 0, none⟩) 1 1 [ev y l] rfl rfl (fun e => by cases e) ?h2 ?h3 ?h4 (w1.heap.size + 1) ?h5 ?_))
      case h1 => exact hO.keep (fun k hk _ => Below.heap_alloc _ _ _ hk)
      case h2 =>
        intro ad had k hk
        obtain rfl := Option.some.inj had
        obtain rfl : k = 0 := by omega
        have := (Arr.new w1 5 [ev y l]).cell 0 (by simp)
        exact this
      case h3 => rw [hsl]; omega
      case h4 => have := hG.size; simp; omega
      case h5 => simp
      intro v' w2 hO2 hg2 _
      have hG2 : Chg (fun _ => False) w w2 := (hG.alloc _).grown hg2 (fun k hk => Or.inr (hO.block hk).1)
      rw [← HS.out] at hO2
      clear hg2 hO hR hG
      go_wp2_with (first | (go_at_call 120; refine (rmul_nat _ y 2 hx (by omega)).mono ?_; rintro e w3 ⟨rfl, rfl⟩))
      exact ⟨⟨j + 1, by omega, by go_num, by rw [HE.out], hO2, hG2⟩, by simp [intOf]; omega⟩
    · have hO6 := hO
      rw [show j = 6 from by omega, syP_all] at hO6
      clear hO
      go_wp2
      go_ret
      exact ⟨_, rfl, hO6, hG⟩
end Go.Proofs.YtifjmilegogbaaaGreat
namespace Go.Proofs.YtifjmilegogbaaaGreat

/-- The rule's coefficients. -/
def G7 : List Nat := 1 :: gl
theorem G7_bys : Bys G7 := by intro n hn; simp [G7, gl] at hn; omega
theorem G7_roots : allB 6 (fun k => ev (ex k) G7 == 0) = true := by decide +kernel
theorem G7_root (k : Nat) (h : k < 6) : ev (ex k) G7 = 0 := by simpa using allB_at G7_roots k h
theorem inner_getD (a : Nat) (q : List Nat) (i : Nat) (l : List Nat) (j : Nat) (h : i + j ≤ l.length) (t : Nat) :
    (inner a q i l j).getD t 0 = l.getD t 0 ^^^ (if i ≤ t ∧ t < i + j then gm a (q.getD (t - i) 0) else 0) := by
  induction j with
  | zero => rw [if_neg (by omega), Nat.xor_zero]; rfl
  | succ j ih =>
    show (addAt (inner a q i l j) (i + j) (gm a (q.getD j 0))).getD t 0 = _
    rw [addAt_getD _ _ _ _ (by rw [inner_length]; omega), ih (by omega)]
    by_cases e : t = i + j
    · subst e
      rw [if_neg (by omega), if_pos rfl, if_pos (by omega), Nat.xor_zero, show i + j - i = j from by omega]
    · rw [if_neg e, Nat.xor_zero]
      by_cases h2 : i ≤ t ∧ t < i + j
      · rw [if_pos h2, if_pos (by omega)]
      · rw [if_neg h2, if_neg (by omega)]
/-- The division behind i steps. -/
def dv (l : List Nat) : Nat → List Nat
  | 0 => l ++ [0, 0, 0, 0, 0, 0]
  | i + 1 => inner ((dv l i).getD i 0) G7 i (dv l i) 7
theorem dv_length (l : List Nat) (i : Nat) : (dv l i).length = l.length + 6 := by
  induction i with
  | zero => simp [dv]
  | succ i ih => show (inner _ _ _ _ _).length = _; rw [inner_length, ih]
theorem dv_bys {l : List Nat} (hl : Bys l) (i : Nat) : Bys (dv l i) := by
  induction i with
  | zero =>
    intro n hn
    rcases List.mem_append.1 hn with h | h
    · exact hl n h
    · simp at h; omega
  | succ i ih => exact inner_bys _ _ _ _ ih _
theorem dv_ev {l : List Nat} (hl : Bys l) (hl58 : l.length = 58) (k : Nat) (hk : k < 6) (i : Nat) (hi : i ≤ 58) : ev (ex k) (dv l i) = ev (ex k) (dv l 0) := by
  induction i with
  | zero => rfl
  | succ i ih =>
    show ev (ex k) (inner ((dv l i).getD i 0) G7 i (dv l i) 7) = _
    rw [ev_inner (ex k) (ex_lt k) _ G7 i 58 (dv l i) (dv_bys hl i) (by omega) (by rw [dv_length, hl58]; rfl) 7 (Nat.le_refl _)]
    have h0 : pv (ex k) G7 7 = 0 := by rw [← G7_root k hk]; exact (ev_pv (ex k) (ex_lt k) G7 G7_bys).symm
    rw [h0, gm_zero_right, Nat.xor_zero, ih (by omega)]
theorem dv_zero {l : List Nat} (hl : Bys l) (hl58 : l.length = 58) (i : Nat) (hi : i ≤ 58) (t : Nat) (ht : t < i) : (dv l i).getD t 0 = 0 := by
  induction i with
  | zero => omega
  | succ i ih =>
    show (inner ((dv l i).getD i 0) G7 i (dv l i) 7).getD t 0 = 0
    rw [inner_getD _ _ _ _ _ (by rw [dv_length, hl58]; omega)]
    by_cases e : t = i
    · subst e
      rw [if_pos (by omega), Nat.sub_self]
      show _ ^^^ gm _ 1 = 0
      rw [gm_one _ ((dv_bys hl t).getD t), Nat.xor_self]
    · rw [if_neg (by omega), Nat.xor_zero]
      exact ih (by omega) (by omega)
theorem dv_split {l : List Nat} (hl : Bys l) (hl58 : l.length = 58) : dv l 58 = List.replicate 58 0 ++ (dv l 58).drop 58 := by
  have hlen := dv_length l 58
  have h : (dv l 58).take 58 = List.replicate 58 0 := by
    apply getD_ext (by rw [List.length_take, hlen]; simp; omega)
    intro i hi
    rw [List.length_take, hlen] at hi
    rw [getD_take _ _ _ (by omega), dv_zero hl hl58 58 (Nat.le_refl _) i (by omega)]
    rw [List.getD_eq_getElem?_getD, List.getElem?_replicate, if_pos (by omega)]; rfl
  rw [← h, List.take_append_drop]
theorem dv_enc {l : List Nat} (hl : Bys l) (hl58 : l.length = 58) : l ++ (dv l 58).drop 58 = encL l := by
  have hdl : ((dv l 58).drop 58).length = 6 := by rw [List.length_drop, dv_length, hl58]
  have hdb : Bys ((dv l 58).drop 58) := fun n hn => dv_bys hl 58 n (List.mem_of_mem_drop hn)
  have hz : Bys (List.replicate 58 0) := fun n hn => by have := List.eq_of_mem_replicate hn; omega
  apply cw_msg _ (encL_cw hl58 hl)
  · rw [encL_take hl58, List.take_append_of_le_length (by omega), List.take_of_length_le (by omega)]
  · refine ⟨by rw [List.length_append, hdl, hl58], ?_, ?_⟩
    · intro n hn
      rcases List.mem_append.1 hn with h | h
      · exact hl n h
      · exact hdb n h
    · intro k hk
      rw [ev_append _ (ex_lt k) l _ hl hdb, hdl]
      have h1 := dv_ev hl hl58 k hk 58 (Nat.le_refl _)
      rw [dv_split hl hl58, ev_append _ (ex_lt k) _ _ hz hdb, ev_zeros, gm_zero_left, Nat.zero_xor] at h1
      rw [h1]
      show _ ^^^ ev (ex k) (l ++ [0, 0, 0, 0, 0, 0]) = 0
      rw [ev_append _ (ex_lt k) l _ hl (by intro n hn; simp at hn; omega)]
      rw [show ev (ex k) [0, 0, 0, 0, 0, 0] = 0 from ev_zeros (ex k) 6, Nat.xor_zero]
      exact Nat.xor_self _
end Go.Proofs.YtifjmilegogbaaaGreat
namespace Go.Proofs.YtifjmilegogbaaaGreat
open Go.RowKit
set_option maxRecDepth 100000

theorem rtimes_n (w : World) (a a2 : Option Addr) (n n2 cap cap2 : Nat) (p q : List Nat) (hn : n = p.length) (hn2 : n2 = q.length) (hpb : Bys p) (hqb : Bys q) (hlen : p.length ≤ 140737488351232) (hlen2 : q.length ≤ 140737488351232)
    (hp : Held w (.slice a n cap) p) (hq : Held w (.slice a2 n2 cap2) q) :
    Calls Tryz.prog 136 #[.slice a n cap, .slice a2 n2 cap2] w fun e w' =>
      ∃ (at_ : Option Addr) (m : Nat), e = .returned (.slice at_ m m) ∧ m = (tm p q).length ∧ Own w' w.heap.size 5 (.slice at_ m m) (tm p q) ∧ Chg (fun _ => False) w w' := by
  subst hn hn2
  exact rtimes_any w a a2 cap cap2 p q hpb hqb hlen hlen2 hp hq

set_option maxHeartbeats 4000000 in
theorem rule_any (w : World) :
    Calls Tryz.prog 119 #[] w fun e w' => ∃ g c, e = .returned (.slice (some ⟨g, 0, none⟩) 7 c) ∧ w.heap.size ≤ g ∧ Held w' (.slice (some ⟨g, 0, none⟩) 7 c) G7 ∧ Chg (fun _ => False) w w' := by
  go_enter Tryz.func119, Tryz.ntmps119
  go_wp2_with fail
  go_loopw [1, 2, 3] (fun v x t wr => ∃ j g c : Nat, j ≤ 6 ∧ t = .int .i64 j ∧ x = .int .u8 (ex j : Nat) ∧ v = .slice (some ⟨g, 0, none⟩) (j + 1) c ∧ w.heap.size ≤ g ∧ Held wr (.slice (some ⟨g, 0, none⟩) (j + 1) c) (prod j) ∧ Chg (fun _ => False) w wr) (fun _ _ t _ => 6 - (intOf t).toNat)
  case atStart => exact ⟨0, w.heap.size, 1, by omega, rfl, by rw [ex_zero]; rfl, rfl, Nat.le_refl _, (Arr.new w 5 [1]).held 0 1 1 [1] rfl (by simp) (fun i _ => by rw [Nat.zero_add]), (Chg.refl _ _).alloc _⟩
  case round =>
    obtain ⟨j, g, c, hj, rfl, rfl, rfl, hg, hH, hG⟩ := hrel
    have hpl := prod_length j
    have hpb := prod_bys j
    by_cases hlt : j < 6
    · have hx := ex_lt j
      have HE : Hid (gm (ex j) 2 = ex (j + 1)) := hyd (ex_two j (by omega))
      have HPr : Hid (prod (j + 1) = tm (prod j) [1, ex j]) := rfl
      have HPL := hyd hpl
      clear hpl
      generalize ex j = y at *
      generalize prod j = pj at *
      have h2b : Bys [1, y] := by intro n hn; simp at hn; omega
      have hH2 : Held (wr.alloc (.cells (bcells [1, y]) 5)) (.slice (some ⟨g, 0, none⟩) (j + 1) c) pj := hH.chgF ((Chg.refl _ _).alloc _)
      have hH3 : Held (wr.alloc (.cells (bcells [1, y]) 5)) (.slice (some ⟨wr.heap.size, 0, none⟩) 2 2) [1, y] := (Arr.new wr 5 [1, y]).held 0 2 2 [1, y] rfl (by simp) (fun i _ => by rw [Nat.zero_add])
      go_wp2_with fail
      refine (rtimes_n _ _ _ (j + 1) 2 c 2 pj [1, y] HPL.out.symm rfl hpb h2b (by have := HPL.out; omega) (by simp) hH2 hH3).mono ?_
      rintro e w2 ⟨at_, m, rfl, hm, hO, hG2⟩
      have htl : (tm pj [1, y]).length = j + 2 := by rw [tm_length _ _ (by have := HPL.out; omega) (by simp), HPL.out]; rfl
      rw [htl] at hm
      subst hm
      obtain ⟨g', c', hv⟩ := hO.at_store (by omega)
      rw [htl] at hv
      simp only [Value.slice.injEq] at hv
      obtain ⟨rfl, -, -⟩ := hv
      have hgb := (hO.block (k := g') rfl).1
      have hH4 := hO.held
      have hG3 : Chg (fun _ => False) w w2 := (hG.alloc _).trans hG2
      have hs := hG.size
      simp at hgb
      rw [← HPr.out] at hH4
      clear hO hG2 hG hH hH2 hH3 htl
      go_wp2_with (first | (go_at_call 120; refine (rmul_nat _ y 2 hx (by omega)).mono ?_; rintro e w3 ⟨rfl, rfl⟩))
      exact ⟨⟨j + 1, g', j + 2, by omega, by go_num, by rw [HE.out], rfl, by omega, hH4, hG3⟩, by simp [intOf]; omega⟩
    · have e6 : j = 6 := by omega
      subst e6
      rw [prod_six] at hH
      go_wp2
      go_ret
      exact ⟨g, c, rfl, hg, hH, hG⟩

theorem cell_chg {w w' : World} (hc : Chg (fun _ => False) w w') {c o : Nat} {v : Value} (h : w.cell? ⟨c, o, none⟩ = some v) : w'.cell? ⟨c, o, none⟩ = some v :=
  (World.cell?_of_block (w := w) (a := ⟨c, o, none⟩) (hc.block c (cell_lt h) (fun e => e))).trans h

theorem Own.cellAt {w : World} {base : Nat} {e : TypeId} {g n cap : Nat} {L : List Nat} (h : Own w base e (.slice (some ⟨g, 0, none⟩) n cap) L) (k : Nat) (hk : k < L.length) : w.cell? ⟨g, k, none⟩ = some (.int .u8 (L.getD k 0 : Nat)) ∧ w.frozen? ⟨g, k, none⟩ = false := by
  obtain ⟨g', cap', hv, -, -, -, hc, hf⟩ := h.lies (by omega)
  simp only [Value.slice.injEq, Option.some.injEq, Addr.mk.injEq] at hv
  obtain ⟨⟨rfl, -, -⟩, -, -⟩ := hv
  exact ⟨hc k hk, hf k⟩
set_option maxHeartbeats 4000000 in
theorem rencode_any (w : World) (c o cap : Nat) (l : List Nat) (hl : l.length = 58) (hb : Bys l)
    (hcell : ∀ i, i < l.length → w.cell? ⟨c, o + i, none⟩ = some (.int .u8 (l.getD i 0 : Nat))) :
    Calls Tryz.prog 86 #[.slice (some ⟨c, o, none⟩) 58 cap] w fun e w' => ∃ v, e = .returned v ∧ Own w' w.heap.size 5 v (encL l) ∧ Chg (fun _ => False) w w' := by
  have hi5 := info5
  have HC := hyd hcell
  clear hcell
  have HL := hyd hl
  go_enter Tryz.func86, Tryz.ntmps86
  go_wp2_with (at_builtin; refine wpList_append_bytes _ rfl (.tmp 9) (.tmp 10) 55 rfl w.heap.size 5 Tryz.underlying55 hi5 _ [] rfl ?h1 (some ⟨c, o, none⟩) 58 cap l rfl hl (fun e => by cases e) ?h2 ?h3 ?h4 w.heap.size ?h5 ?_)
  case h1 => exact Own.nil _ _ _
  case h2 =>
    intro ad had j hj
    obtain rfl := Option.some.inj had
    rw [Addr.add_lit]
    exact HC.out j (by omega)
  case h3 => simp
  case h4 => exact Nat.le_refl _
  case h5 => rfl
  intro v1 w1 O1 g1 _
  have G1 : Chg (fun _ => False) w w1 := (Chg.refl _ _).grown g1 (fun k hk => by cases hk)
  clear g1
  go_wp2_with (at_builtin; refine wpList_append_bytes _ rfl (.tmp 12) (.tmp 13) 55 rfl w.heap.size 5 Tryz.underlying55 hi5 v1 l rfl ?h1 (some ⟨w1.heap.size, 0, none⟩) 6 6 [0, 0, 0, 0, 0, 0] rfl rfl (fun e => by cases e) ?h2 ?h3 ?h4 (w1.heap.size + 1) ?h5 ?_)
  case h1 => exact O1.keep (fun k hk _ => Below.heap_alloc _ _ _ hk)
  case h2 =>
    intro ad had j hj
    obtain rfl := Option.some.inj had
    rw [Addr.add_lit, Nat.zero_add]
    exact (Arr.new w1 5 [0, 0, 0, 0, 0, 0]).cell j (by simpa using hj)
  case h3 => rw [hl]; omega
  case h4 => have := G1.size; simp; omega
  case h5 => simp
  intro v2 w2 O2 g2 _
  have G2 : Chg (fun _ => False) w w2 := (G1.alloc _).grown g2 (fun k hk => Or.inr (O1.block hk).1)
  clear g2 O1 G1
  have h64 : (l ++ [0, 0, 0, 0, 0, 0]).length = 64 := by simp [hl]
  obtain ⟨r, cr, hv⟩ := O2.at_store (by omega)
  rw [h64] at hv
  subst hv
  have hrb := O2.block (k := r) rfl
  go_wp2_with fail
  refine (rule_any w2).mono ?_
  rintro e w3 ⟨g, cg, rfl, hg, H3, G3⟩
  have O3 : Own w3 w.heap.size 5 (.slice (some ⟨r, 0, none⟩) 64 cr) (dv l 0) := O2.chg G3 (fun _ _ _ e => e)
  have G03 := G2.trans G3
  have hgr : g ≠ r := by omega
  clear O2 G2 G3 h64
  go_wp2_with fail
  go_loopw [5] (fun t wr => ∃ i : Nat, i ≤ 58 ∧ t = .int .i64 i ∧ Own wr w.heap.size 5 (.slice (some ⟨r, 0, none⟩) 64 cr) (dv l i) ∧ Held wr (.slice (some ⟨g, 0, none⟩) 7 cg) G7 ∧ Chg (fun _ => False) w wr) (fun t _ => 58 - (intOf t).toNat)
  case atStart => exact ⟨0, by omega, rfl, O3, H3, G03⟩
  case round =>
    clear O3 H3 G03
    obtain ⟨i, hi, rfl, hO, hH, hG⟩ := hrel
    by_cases hlt : i < 58
    · have hlt' : (i : Int) < 58 := by omega
      have hkb : (0 : Int) ≤ (i : Int) := by omega
      have hkb2 : (i : Int) < 64 := by omega
      have hdl := dv_length l i
      have hdb := dv_bys hb i
      have c1 := (hO.cellAt i (by omega)).1
      have HD : Hid (dv l (i + 1) = inner ((dv l i).getD i 0) G7 i (dv l i) 7) := rfl
      have hx := hdb.getD i
      generalize (dv l i).getD i 0 = x at *
      have HDL : Hid ((dv l i).length = 64) := hyd (by omega)
      clear hdl
      go_wp2_with fail
      go_loopw [7] (fun t wx => ∃ k : Nat, k ≤ 7 ∧ t = .int .i64 k ∧ Own wx w.heap.size 5 (.slice (some ⟨r, 0, none⟩) 64 cr) (inner x G7 i (dv l i) k) ∧ Held wx (.slice (some ⟨g, 0, none⟩) 7 cg) G7 ∧ Chg (fun _ => False) w wx) (fun t _ => 7 - (intOf t).toNat)
      case atStart => exact ⟨0, by omega, rfl, hO, hH, hG⟩
      case round =>
        clear hO hH hG c1
        obtain ⟨k, hk, rfl, hO, hH, hG⟩ := hrel
        by_cases hlt2 : k < 7
        · have hIl : (inner x G7 i (dv l i) k).length = 64 := by rw [inner_length, HDL.out]
          have hIb := inner_bys x G7 i (dv l i) hdb k
          have HS : Hid (inner x G7 i (dv l i) (k + 1) = (inner x G7 i (dv l i) k).set (i + k) ((inner x G7 i (dv l i) k).getD (i + k) 0 ^^^ gm x (G7.getD k 0))) := rfl
          obtain ⟨c1, f1⟩ := hO.cellAt (i + k) (by omega)
          have c2 : wr.cell? ⟨g, k, none⟩ = some (.int .u8 (G7.getD k 0 : Nat)) := by
            obtain ⟨a', c', hv, h | ⟨g', o', ha, hg', hc⟩⟩ := hH
            · cases h
            · simp only [Value.slice.injEq] at hv
              have e := hv.1.trans ha
              simp only [Option.some.injEq, Addr.mk.injEq] at e
              obtain ⟨rfl, rfl, -⟩ := e
              have := hc k (by simpa [G7, gl] using hlt2)
              rwa [Nat.zero_add] at this
          have dI := hIb.getD (i + k)
          have dg := G7_bys.getD k
          generalize inner x G7 i (dv l i) k = I at *
          generalize I.getD (i + k) 0 = z at *
          generalize G7.getD k 0 = y at *
          have e2 := u8_xor_nat z (gm x y) dI (gm_lt _ _)
          have HIL := hyd hIl
          clear hIl
          have b1 : (0 : Int) ≤ (i : Int) + (k : Int) := by omega
          have b2 : (i : Int) + (k : Int) < 64 := by omega
          have b3 : (0 : Int) ≤ (k : Int) := by omega
          have b4 : (k : Int) < 7 := by omega
          have hO2 : Own (wr.setCell ⟨r, i + k, none⟩ (.int .u8 ((z ^^^ gm x y : Nat) : Int))) w.heap.size 5 (.slice (some ⟨r, 0, none⟩) 64 cr) (inner x G7 i (dv l i) (k + 1)) := by
            rw [HS.out]; exact hO.store (i + k) _ (by have := HIL.out; omega)
          have hH2 : Held (wr.setCell ⟨r, i + k, none⟩ (.int .u8 ((z ^^^ gm x y : Nat) : Int))) (.slice (some ⟨g, 0, none⟩) 7 cg) G7 := hH.keep (by simp [World.setCell]) (fun j hj e => Below.heap_setCell _ _ _ _ (by have := Option.some.inj (show some g = some j from e); simp; omega))
          have hG2 : Chg (fun _ => False) w (wr.setCell ⟨r, i + k, none⟩ (.int .u8 ((z ^^^ gm x y : Nat) : Int))) := hG.setCell (Or.inr hrb.1) _ _
          have HO2 := hyd hO2
          have HH2 := hyd hH2
          have HG2 := hyd hG2
          clear hO2 hH2 hG2 hO hH hG
          go_wp2_with fail
          have hwr : IntKind.i64.wrap ((i : Int) + (k : Int)) = (i : Int) + (k : Int) := by rw [IntKind.wrap_i64]; omega
          have hwt : ((i : Int) + (k : Int)).toNat = i + k := by omega
          go_region_with (first | (go_at_call 120; refine (rmul_nat _ x y hx dg).mono ?_; rintro e w' ⟨rfl, rfl⟩))
          all_goals
            clear hwr hwt c1 c2 f1
            go_wp2
            exact ⟨⟨k + 1, by omega, by go_num, HO2.out, HH2.out, HG2.out.drew⟩, by simp [intOf]; omega⟩
        · have hO7 : Own wr w.heap.size 5 (.slice (some ⟨r, 0, none⟩) 64 cr) (dv l (i + 1)) := by
            have e : k = 7 := by omega
            rw [e] at hO; rw [HD.out]; exact hO
          clear hO
          have hge : ¬ (k : Int) < 7 := by omega
          go_wp2
          exact ⟨⟨i + 1, by omega, by go_num, hO7, hH, hG⟩, by simp [intOf]; omega⟩
    · have hO5 : Own wr w.heap.size 5 (.slice (some ⟨r, 0, none⟩) 64 cr) (dv l 58) := by
        have e : i = 58 := by omega
        rw [e] at hO; exact hO
      clear hO hH
      have hge : ¬ (i : Int) < 58 := by omega
      have hd64 : (dv l 58).length = 64 := by rw [dv_length, hl]
      have hcr : 64 ≤ cr := by
        obtain ⟨g', cap', hv, -, -, hc, -⟩ := hO5.lies (by omega)
        simp only [Value.slice.injEq] at hv
        omega
      have HD64 := hyd hd64
      have HC2 : Hid (∀ j, j < l.length → wr.cell? ⟨c, o + j, none⟩ = some (.int .u8 (l.getD j 0 : Nat))) := hyd (fun j hj => cell_chg hG (HC.out j hj))
      clear hd64 HC
      have hgs := hG.size
      have HS : Hid (∀ ad, some (⟨c, o, none⟩ : Addr) = some ad → ∀ j, j < 58 → wr.cell? (ad.add j) = some (.int .u8 (l.getD j 0 : Nat))) := hyd (by
        intro ad had j hj
        obtain rfl := Option.some.inj had
        rw [Addr.add_lit]
        exact HC2.out j (by omega))
      go_wp2_with (at_builtin; refine wpList_append_bytes _ rfl (.tmp 48) (.tmp 49) 55 rfl w.heap.size 5 Tryz.underlying55 hi5 _ [] rfl (Own.nil _ _ _) (some ⟨c, o, none⟩) 58 cap l rfl hl (fun e => by cases e) HS.out (by simp) hgs wr.heap.size rfl ?_)
      intro v5 w5 O5 g5 b5
      have G5 : Chg (fun _ => False) w w5 := hG.grown g5 (fun k hk => by cases hk)
      have R5 : Own w5 w.heap.size 5 (.slice (some ⟨r, 0, none⟩) 64 cr) (dv l 58) := hO5.keep (fun k hk _ => g5.block k hk (by simp [Value.ownBlock]))
      clear g5 hO5 hG b5 HC2
      have hcr1 : (58 : Int) ≤ (cr : Int) := by omega
      have hcr2 : ¬ cr = 58 := by omega
      have hcr3 : ¬ 58 = cr := by omega
      have hcr4 : 58 < cr := by omega
      have hcr5 : 58 ≤ cr := by omega
      have hcr6 : (64 : Int) ≤ (cr : Int) := by omega
      have HS5 : Hid (∀ ad, some (⟨r, 58, none⟩ : Addr) = some ad → ∀ j, j < 6 → w5.cell? (ad.add j) = some (.int .u8 (((dv l 58).drop 58).getD j 0 : Nat))) := hyd (by
        intro ad had j hj
        obtain rfl := Option.some.inj had
        rw [Addr.add_lit, (R5.cellAt (58 + j) (by have := HD64.out; omega)).1]
        simp [List.getD_eq_getElem?_getD])
      have HG5 := hyd G5.size
      go_wp2_with (at_builtin; refine wpList_append_bytes _ rfl (.tmp 51) (.tmp 53) 55 rfl w.heap.size 5 Tryz.underlying55 hi5 v5 l rfl O5 (some ⟨r, 58, none⟩) 6 (cr - 58) ((dv l 58).drop 58) rfl (by rw [List.length_drop, HD64.out]) (fun e => by cases e) HS5.out (by rw [hl]; omega) HG5.out w5.heap.size rfl ?_)
      intro v6 w6 O6 g6 _
      have G6 : Chg (fun _ => False) w w6 := G5.grown g6 (fun k hk => Or.inr (O5.block hk).1)
      rw [dv_enc hb hl] at O6
      clear g6 O5 R5 G5
      go_wp2
      go_ret
      exact ⟨v6, rfl, O6, G6⟩
end Go.Proofs.YtifjmilegogbaaaGreat
namespace Go.Proofs.YtifjmilegogbaaaGreat
open Go.RowKit
set_option maxRecDepth 100000

theorem rencode_held (w : World) (a : Option Addr) (n cap : Nat) (l : List Nat) (hn : n = 58) (hl : l.length = 58) (hb : Bys l) (hh : Held w (.slice a n cap) l) :
    Calls Tryz.prog 86 #[.slice a n cap] w fun e w' => ∃ v, e = .returned v ∧ Own w' w.heap.size 5 v (encL l) ∧ Chg (fun _ => False) w w' := by
  subst hn
  obtain ⟨a', c', hv, h | ⟨g', o', ha, hg', hc⟩⟩ := hh
  · omega
  · simp only [Value.slice.injEq] at hv
    obtain ⟨rfl, -, rfl⟩ := hv
    subst ha
    exact rencode_any w g' o' cap l hl hb hc

end Go.Proofs.YtifjmilegogbaaaGreat
namespace Go.Proofs.YtifjmilegogbaaaGreat
open Go.RowKit
set_option maxRecDepth 100000

/-- Numbers as cells. -/
def icells (l : List Nat) : Array Value := (l.map fun (n : Nat) => Value.int .i64 (n : Int)).toArray
theorem icells_size (l : List Nat) : (icells l).size = l.length := by simp [icells]
theorem icells_at (l : List Nat) (i : Nat) (h : i < l.length) : (icells l)[i]? = some (.int .i64 (l.getD i 0 : Nat)) := by
  simp [icells, List.getD_eq_getElem?_getD, List.getElem?_eq_getElem h]
theorem icells_set (l : List Nat) (i v : Nat) : (icells l).setIfInBounds i (.int .i64 (v : Int)) = icells (l.set i v) := by
  apply Array.ext'
  simp [icells, List.map_set]
def Iat (w : World) (g : Nat) (l : List Nat) : Prop := w.heap[g]? = some (.cells (icells l) 3)
theorem Iat.cell {w : World} {g : Nat} {l : List Nat} (h : Iat w g l) (i : Nat) (hi : i < l.length) : w.cell? ⟨g, i, none⟩ = some (.int .i64 (l.getD i 0 : Nat)) := by
  have h' : w.heap[g]? = some (.cells (icells l) 3) := h
  simp only [World.cell?, h', icells_at l i hi]; simp
theorem Iat.frozen {w : World} {g : Nat} {l : List Nat} (h : Iat w g l) (i : Nat) : w.frozen? ⟨g, i, none⟩ = false := by
  have h' : w.heap[g]? = some (.cells (icells l) 3) := h
  simp [World.frozen?, h']
theorem Iat.lt {w : World} {g : Nat} {l : List Nat} (h : Iat w g l) : g < w.heap.size := by
  have h' : w.heap[g]? = some (.cells (icells l) 3) := h
  exact (Array.getElem?_eq_some_iff.1 h').1
theorem Iat.store {w : World} {g : Nat} {l : List Nat} (h : Iat w g l) (i v : Nat) : Iat (w.setCell ⟨g, i, none⟩ (.int .i64 (v : Int))) g (l.set i v) := by
  have h' : w.heap[g]? = some (.cells (icells l) 3) := h
  show (w.setCell ⟨g, i, none⟩ (.int .i64 (v : Int))).heap[g]? = _
  simp [World.setCell, Array.getElem?_modify, h', icells_set]
theorem Iat.other {w w' : World} {g : Nat} {l : List Nat} (h : Iat w g l) (e : w'.heap[g]? = w.heap[g]?) : Iat w' g l := e.trans h
theorem Iat.setOther {w : World} {g : Nat} {l : List Nat} (h : Iat w g l) {k : Nat} (hg : k ≠ g) (o : Nat) (v : Value) : Iat (w.setCell ⟨k, o, none⟩ v) g l :=
  h.other (Below.heap_setCell _ _ _ _ (by simp; omega))
theorem Iat.chg {S : Nat → Prop} {w w' : World} {g : Nat} {l : List Nat} (h : Iat w g l) (hc : Chg S w w') (hg : ¬ S g) : Iat w' g l := (hc.block g h.lt hg).trans h
def z255 : List Nat := List.replicate 255 0
def z256 : List Nat := List.replicate 256 0
theorem make255 (w : World) : (Instr.makeSlice 55 (.int .i64 255) (.int .i64 255)).run Tryz.prog w = .ok (.slice (some ⟨w.heap.size, 0, none⟩) 255 255) (w.alloc (.cells (bcells z255) 5)) := make_bytes w 255 255 rfl (by omega)
theorem made_ints (n : Nat) : madeCells (Value.int .i64 0).cells n = icells (List.replicate n 0) := by
  apply Array.ext_getElem?
  intro i
  by_cases h : i < n
  · rw [icells_at _ _ (by simpa using h)]
    simp [madeCells, Value.cells, h, Nat.mod_one]
  · rw [Array.getElem?_eq_none (by rw [size_madeCells]; omega), Array.getElem?_eq_none (by rw [icells_size]; simp; omega)]
theorem range_zeros (n : Nat) (f : Nat → Nat) (h : ∀ i, i < n → f i = 0) : (List.range n).map f = List.replicate n 0 :=
  List.eq_replicate_iff.2 ⟨by simp, by
    intro b hb
    obtain ⟨i, hi, rfl⟩ := List.mem_map.1 hb
    exact h i (List.mem_range.1 hi)⟩
theorem info3_all : (Tryz.prog.info? 3).map (fun i => (i.zero, i.size, i.bytes)) = some (some (.int .i64 0), 1, 8) := by kernel_rfl
theorem make256 (w : World) : (Instr.makeSlice 54 (.int .i64 256) (.int .i64 256)).run Tryz.prog w = .ok (.slice (some ⟨w.heap.size, 0, none⟩) 256 256) (w.alloc (.cells (icells z256) 3)) := by
  have h := info3_all
  cases e : Tryz.prog.info? 3 with
  | none => rw [e] at h; cases h
  | some i =>
    rw [e] at h
    simp only [Option.map_some, Option.some.injEq, Prod.mk.injEq] at h
    have hr := run_make (P := Tryz.prog) w 54 3 i (.int .i64 0) Tryz.underlying54 e h.1 .i64 .i64 256 256 (by omega) (by omega) (by rw [h.2.2]; decide) (by omega)
    rw [hr, h.2.1]
    have e2 : madeCells (Value.int .i64 0).cells (256 * 1) = icells z256 := made_ints 256
    exact congrArg (fun c => Result.ok (Value.slice (some ⟨w.heap.size, 0, none⟩) 256 256) (w.alloc (.cells c 3))) e2

/-- The powers table behind k rounds; the logarithms'. -/
def tE (k : Nat) : List Nat := (List.range 255).map fun i => if i < k then ex i else 0
def tL (k : Nat) : List Nat := (List.range 256).map fun a => if a ≠ 0 ∧ lg a < k then lg a else 0
theorem tE_length (k : Nat) : (tE k).length = 255 := by simp [tE]
theorem tL_length (k : Nat) : (tL k).length = 256 := by simp [tL]
theorem tE_zero : tE 0 = z255 := range_zeros 255 _ (fun i _ => if_neg (by omega))
theorem tL_zero : tL 0 = z256 := range_zeros 256 _ (fun i _ => if_neg (by omega))
theorem tE_at (k i : Nat) (h : i < 255) : (tE k).getD i 0 = if i < k then ex i else 0 := by simp [tE, List.getD_eq_getElem?_getD, h]
theorem tL_at (k a : Nat) (h : a < 256) : (tL k).getD a 0 = if a ≠ 0 ∧ lg a < k then lg a else 0 := by simp [tL, List.getD_eq_getElem?_getD, h]
theorem getD_set (l : List Nat) (i v j : Nat) (hi : i < l.length) : (l.set i v).getD j 0 = if j = i then v else l.getD j 0 := by
  by_cases e : j = i
  · subst e; rw [if_pos rfl, List.getD_eq_getElem?_getD, List.getElem?_set_self hi]; rfl
  · rw [if_neg e, List.getD_eq_getElem?_getD, List.getElem?_set_ne (by omega), ← List.getD_eq_getElem?_getD]
theorem tE_set (k : Nat) (h : k < 255) : (tE k).set k (ex k) = tE (k + 1) := by
  apply getD_ext (by simp [tE_length])
  intro i hi
  rw [List.length_set, tE_length] at hi
  rw [getD_set _ _ _ _ (by rw [tE_length]; omega), tE_at _ _ hi, tE_at _ _ hi]
  by_cases e : i = k
  · subst e; rw [if_pos rfl, if_pos (by omega)]
  · rw [if_neg e]
    by_cases e2 : i < k
    · rw [if_pos e2, if_pos (by omega)]
    · rw [if_neg e2, if_neg (by omega)]
theorem tL_set (k : Nat) (h : k < 255) : (tL k).set (ex k) k = tL (k + 1) := by
  apply getD_ext (by simp [tL_length])
  intro a ha
  rw [List.length_set, tL_length] at ha
  rw [getD_set _ _ _ _ (by rw [tL_length]; exact ex_lt k), tL_at _ _ ha, tL_at _ _ ha]
  by_cases e : a = ex k
  · subst e; rw [if_pos rfl, if_pos ⟨ex_ne k h, by rw [lg_ex k h]; omega⟩, lg_ex k h]
  · rw [if_neg e]
    by_cases e2 : a ≠ 0 ∧ lg a < k
    · rw [if_pos e2, if_pos ⟨e2.1, by omega⟩]
    · rw [if_neg e2, if_neg]
      rintro ⟨h1, h2⟩
      have h3 : lg a = k := by
        by_cases e3 : lg a < k
        · exact absurd ⟨h1, e3⟩ e2
        · omega
      exact e (by rw [← h3, ex_lg a ha h1])
theorem ex_next (k : Nat) (h : k < 255) : gm (ex k) 2 = ex ((k + 1) % 255) := by
  by_cases e : k < 254
  · rw [Nat.mod_eq_of_lt (by omega)]; exact ex_two k e
  · have e2 : k = 254 := by omega
    subst e2
    rw [gm_two _ (ex_lt _), ex_last]; exact ex_zero.symm

set_option maxHeartbeats 4000000 in
theorem tables_any (w : World) :
    Calls Tryz.prog 139 #[] w fun e w' => ∃ p g, e = .returned (.tuple #[.slice (some ⟨p, 0, none⟩) 255 255, .slice (some ⟨g, 0, none⟩) 256 256]) ∧ w.heap.size ≤ p ∧ w.heap.size ≤ g ∧ Arr w' p 5 (tE 255) ∧ Iat w' g (tL 255) ∧ Chg (fun _ => False) w w' := by
  have h1 := make255
  have h2 := make256
  go_enter Tryz.func139, Tryz.ntmps139
  go_wp2_with fail
  go_loopw [4, 5] (fun x t wr => ∃ k : Nat, k ≤ 255 ∧ t = .int .i64 k ∧ x = .int .u8 (ex (k % 255) : Nat) ∧ Arr wr w.heap.size 5 (tE k) ∧ Iat wr (w.heap.size + 1) (tL k) ∧ Chg (fun _ => False) w wr) (fun _ t _ => 255 - (intOf t).toNat)
  case atStart =>
    refine ⟨0, by omega, rfl, by rw [show 0 % 255 = 0 from rfl, ex_zero]; rfl, by rw [tE_zero]; exact (Arr.new w 5 z255).alloc _, ?_, ((Chg.refl _ _).alloc _).alloc _⟩
    rw [tL_zero]
    have := heap_alloc_new (w.alloc (.cells (bcells z255) 5)) (.cells (icells z256) 3)
    rw [show (w.alloc (.cells (bcells z255) 5)).heap.size = w.heap.size + 1 from by simp] at this
    exact this
  case round =>
    clear h1 h2
    obtain ⟨k, hk, rfl, rfl, hA, hI, hG⟩ := hrel
    by_cases hlt : k < 255
    · have hlt' : (k : Int) < 255 := by omega
      have hkb : (0 : Int) ≤ (k : Int) := by omega
      rw [Nat.mod_eq_of_lt hlt]
      have hx := ex_lt k
      have HX := hyd (ex_next k hlt)
      have HT1 := hyd (tE_set k hlt)
      have HT2 := hyd (tL_set k hlt)
      have hA2 : Arr (wr.setCell ⟨w.heap.size, k, none⟩ (.int .u8 (ex k : Nat))) w.heap.size 5 (tE (k + 1)) := by rw [← HT1.out]; exact hA.store k _
      have hI2 : Iat (wr.setCell ⟨w.heap.size, k, none⟩ (.int .u8 (ex k : Nat))) (w.heap.size + 1) (tL k) := hI.setOther (by omega) _ _
      have hI3 : Iat ((wr.setCell ⟨w.heap.size, k, none⟩ (.int .u8 (ex k : Nat))).setCell ⟨w.heap.size + 1, ex k, none⟩ (.int .i64 (k : Nat))) (w.heap.size + 1) (tL (k + 1)) := by rw [← HT2.out]; exact hI2.store (ex k) k
      have c1 := hA.cell k (by rw [tE_length]; omega)
      have f1 := hA.frozen k
      have c2 := hI2.cell (ex k) (by rw [tL_length]; omega)
      have f2 := hI2.frozen (ex k)
      have HA3 := hyd (hA2.setOther (show w.heap.size + 1 ≠ w.heap.size by omega) (ex k) (.int .i64 (k : Nat)))
      have HI3 := hyd hI3
      have HG3 := hyd ((hG.setCell (Or.inr (Nat.le_refl _)) k (.int .u8 (ex k : Nat))).setCell (Or.inr (show w.heap.size ≤ w.heap.size + 1 by omega)) (ex k) (.int .i64 (k : Nat)))
      have b1 : (0 : Int) ≤ (ex k : Nat) := by omega
      have b2 : ((ex k : Nat) : Int) < 256 := by omega
      clear hA2 hI2 hI3 hA hI hG
      generalize ex k = y at *
      go_wp2_with (first | (go_at_call 120; refine (rmul_nat _ y 2 hx (by omega)).mono ?_; rintro e w3 ⟨rfl, rfl⟩))
      exact ⟨⟨k + 1, by omega, by go_num, by rw [HX.out], HA3.out, HI3.out, HG3.out⟩, by simp [intOf]; omega⟩
    · have hge : ¬ (k : Int) < 255 := by omega
      have e : k = 255 := by omega
      rw [e] at hA hI
      clear e
      go_wp2
      go_ret2
      exact ⟨_, _, rfl, Nat.le_refl _, by omega, hA, hI, hG⟩
end Go.Proofs.YtifjmilegogbaaaGreat
namespace Go.Proofs.YtifjmilegogbaaaGreat
open Go.RowKit
set_option maxRecDepth 100000

theorem fit_term {a x j : Nat} (ha : a ≠ 0) (hx : x < 255) : ex ((lg a + j * x) % 255) = gm a (xp (ex x) j) := by
  rw [xp_ex x hx j, gm_of_ne ha (ex_ne _ (Nat.mod_lt _ (by decide))), lg_ex _ (Nat.mod_lt _ (by decide)), Nat.mul_comm x j]
  congr 1
  omega
theorem tL_full {a : Nat} (h : a < 256) (h0 : a ≠ 0) : (tL 255).getD a 0 = lg a := by
  rw [tL_at _ _ h, if_pos ⟨h0, lg_lt a h⟩]
theorem tE_full {i : Nat} (h : i < 255) : (tE 255).getD i 0 = ex i := by rw [tE_at _ _ h, if_pos h]
theorem tmod_nat (n : Nat) : ((n : Nat) : Int).tmod 255 = ((n % 255 : Nat) : Int) := by
  rw [Int.tmod_eq_emod_of_nonneg (by omega)]; omega
def Ft (s : List Nat) (x y a b n : Nat) : Prop := ∀ j, j < n → s.getD j 0 = gm a (xp (ex x) j) ^^^ gm b (xp (ex y) j)
theorem Ft.succ {s : List Nat} {x y a b j : Nat} (h : Ft s x y a b j) (e : s.getD j 0 = gm a (xp (ex x) j) ^^^ gm b (xp (ex y) j)) : Ft s x y a b (j + 1) := by
  intro m hm
  by_cases h1 : m = j
  · subst h1; exact e
  · exact h m (by omega)

def FitAns (w w' : World) (s : List Nat) (x y a b : Nat) (e : Ending) : Prop := ∃ t : Bool, e = .returned (.bool t) ∧ (t = true ↔ Ft s x y a b 6) ∧ w' = w
set_option maxHeartbeats 4000000 in
theorem fits_any (w : World) (c o cs p g a b x y : Nat) (s : List Nat) (_hs : s.length = 6) (bs : Bys s) (ha : a < 256) (hb : b < 256) (hx : x < 64) (hy : y < 64)
    (hA : Arr w p 5 (tE 255)) (hI : Iat w g (tL 255)) (hc : ∀ i, i < 6 → w.cell? ⟨c, o + i, none⟩ = some (.int .u8 (s.getD i 0 : Nat))) :
    Calls Tryz.prog 140 #[.slice (some ⟨c, o, none⟩) 6 cs, .slice (some ⟨p, 0, none⟩) 255 255, .slice (some ⟨g, 0, none⟩) 256 256, .int .u8 (a : Int), .int .i64 (x : Int), .int .u8 (b : Int), .int .i64 (y : Int)] w
      fun e w' => FitAns w w' s x y a b e := by
  have HC := hyd hc
  clear hc
  go_enter Tryz.func140, Tryz.ntmps140
  go_wp2_with fail
  go_loop [15] (fun t => ∃ j : Nat, j ≤ 6 ∧ t = .int .i64 j ∧ Ft s x y a b j) (fun t => 6 - (intOf t).toNat)
  case atStart => exact ⟨0, by omega, rfl, fun j hj => by omega⟩
  case round =>
    obtain ⟨j, hj, rfl, hF⟩ := hrel
    by_cases hlt : j < 6
    · have hlt' : (j : Int) < 6 := by omega
      have hkb : (0 : Int) ≤ (j : Int) := by omega
      have HF := hyd hF
      have c1 := HC.out j hlt
      have hd := bs.getD j
      have HS : Hid (s.getD j 0 = gm a (xp (ex x) j) ^^^ gm b (xp (ex y) j) → Ft s x y a b (j + 1)) := hyd (fun e => hF.succ e)
      have HN : Hid (Ft s x y a b 6 → s.getD j 0 = gm a (xp (ex x) j) ^^^ gm b (xp (ex y) j)) := hyd (fun e => e j hlt)
      clear hF
      have hjx : j * x ≤ 5 * 63 := Nat.mul_le_mul (by omega) (by omega)
      have hjy : j * y ≤ 5 * 63 := Nat.mul_le_mul (by omega) (by omega)
      have ex1 : (j : Int) * (x : Int) = ((j * x : Nat) : Int) := by push_cast; rfl
      have ey1 : (j : Int) * (y : Int) = ((j * y : Nat) : Int) := by push_cast; rfl
      have la := lg_lt a ha
      have lb := lg_lt b hb
      have HTa : Hid (a ≠ 0 → ex ((lg a + j * x) % 255) = gm a (xp (ex x) j)) := hyd (fun e => fit_term e (by omega))
      have HTb : Hid (b ≠ 0 → ex ((lg b + j * y) % 255) = gm b (xp (ex y) j)) := hyd (fun e => fit_term e (by omega))
      have gA := gm_lt a (xp (ex x) j)
      have gB := gm_lt b (xp (ex y) j)
      have HA0 : Hid (a = 0 → gm a (xp (ex x) j) = 0) := hyd (fun e => by rw [e, gm_zero_left])
      have HB0 : Hid (b = 0 → gm b (xp (ex y) j) = 0) := hyd (fun e => by rw [e, gm_zero_left])
      generalize gm a (xp (ex x) j) = A at *
      generalize gm b (xp (ex y) j) = B at *
      generalize s.getD j 0 = S at *
      have q1 : ((lg a : Nat) : Int) + (j : Int) * (x : Int) = ((lg a + j * x : Nat) : Int) := by rw [ex1]; push_cast; rfl
      have q2 : ((lg b : Nat) : Int) + (j : Int) * (y : Int) = ((lg b + j * y : Nat) : Int) := by rw [ey1]; push_cast; rfl
      have w1 : IntKind.i64.wrap ((j : Int) * (x : Int)) = (j : Int) * (x : Int) := by rw [ex1, IntKind.wrap_i64]; omega
      have w2 : IntKind.i64.wrap ((j : Int) * (y : Int)) = (j : Int) * (y : Int) := by rw [ey1, IntKind.wrap_i64]; omega
      have w3 : IntKind.i64.wrap (((lg a : Nat) : Int) + (j : Int) * (x : Int)) = ((lg a : Nat) : Int) + (j : Int) * (x : Int) := by rw [q1, IntKind.wrap_i64]; omega
      have w4 : IntKind.i64.wrap (((lg b : Nat) : Int) + (j : Int) * (y : Int)) = ((lg b : Nat) : Int) + (j : Int) * (y : Int) := by rw [q2, IntKind.wrap_i64]; omega
      have n1 : (((lg a : Nat) : Int) + (j : Int) * (x : Int)).tmod 255 = (((lg a + j * x) % 255 : Nat) : Int) := by rw [q1]; exact tmod_nat _
      have n2 : (((lg b : Nat) : Int) + (j : Int) * (y : Int)).tmod 255 = (((lg b + j * y) % 255 : Nat) : Int) := by rw [q2]; exact tmod_nat _
      have b1 : (lg a + j * x) % 255 < 255 := Nat.mod_lt _ (by decide)
      have b2 : (lg b + j * y) % 255 < 255 := Nat.mod_lt _ (by decide)
      have p1 : w.cell? ⟨p, (lg a + j * x) % 255, none⟩ = some (.int .u8 (ex ((lg a + j * x) % 255) : Nat)) := by
        rw [← tE_full b1]; exact hA.cell _ (by rw [tE_length]; exact b1)
      have p2 : w.cell? ⟨p, (lg b + j * y) % 255, none⟩ = some (.int .u8 (ex ((lg b + j * y) % 255) : Nat)) := by
        rw [← tE_full b2]; exact hA.cell _ (by rw [tE_length]; exact b2)
      have u1 : (0 : Int) ≤ (((lg a : Nat) : Int) + (j : Int) * (x : Int)).tmod 255 := by rw [n1]; omega
      have u2 : (0 : Int) ≤ (((lg b : Nat) : Int) + (j : Int) * (y : Int)).tmod 255 := by rw [n2]; omega
      have u3 : (((lg a : Nat) : Int) + (j : Int) * (x : Int)).tmod 255 < 255 := by rw [n1]; omega
      have u4 : (((lg b : Nat) : Int) + (j : Int) * (y : Int)).tmod 255 < 255 := by rw [n2]; omega
      clear q1 q2 n1 n2 b1 b2 ex1 ey1 hjx hjy
      have x1 : bits BinOp.xor IntKind.u8 0 (A : Int) = (A : Int) := by have := u8_xor_nat 0 A (by omega) gA; rwa [Nat.zero_xor] at this
      have x2 : bits BinOp.xor IntKind.u8 0 (B : Int) = (B : Int) := by have := u8_xor_nat 0 B (by omega) gB; rwa [Nat.zero_xor] at this
      have x3 := u8_xor_nat A B gA gB
      have ab1 : (0 : Int) ≤ (a : Int) := by omega
      have ab2 : (a : Int) < 256 := by omega
      have bb1 : (0 : Int) ≤ (b : Int) := by omega
      have bb2 : (b : Int) < 256 := by omega
      by_cases a0 : a = 0
      · have A0 := HA0.out a0
        subst A0
        have za : ((a : Int) != 0) = false := by rw [a0]; rfl
        clear a0 p1 x1 x3
        by_cases b0 : b = 0
        · have B0 := HB0.out b0
          subst B0
          have zb : ((b : Int) != 0) = false := by rw [b0]; rfl
          clear b0 p2 x2
          by_cases hS : S = 0
          · have zs : ((0 : Int) != (S : Nat)) = false := by rw [hS]; simp
            have HS' := hyd (HS.out (by rw [hS]; rfl))
            clear hS
            go_wp2
            exact ⟨⟨j + 1, by omega, by go_num, HS'.out⟩, by simp [intOf]; omega⟩
          · have zs : ((0 : Int) != (S : Nat)) = true := by simp only [bne_iff_ne, ne_eq]; omega
            have HN' : Hid (¬ Ft s x y a b 6) := hyd (fun e => hS (by have := HN.out e; rw [this]; rfl))
            clear hS
            go_wp2
            go_ret
            exact ⟨false, rfl, ⟨fun e => by simp at e, fun e => absurd e HN'.out⟩, rfl⟩
        · have zb : ((b : Int) != 0) = true := by simp only [bne_iff_ne, ne_eq]; omega
          rw [HTb.out b0] at p2
          clear HTb
          have i1 := hI.cell b (by rw [tL_length]; omega)
          rw [tL_full hb b0] at i1
          clear b0
          by_cases hS : S = B
          · have zs : (((B : Nat) : Int) != (S : Nat)) = false := by rw [hS]; simp
            have HS' := hyd (HS.out (by rw [hS]; rw [Nat.zero_xor]))
            clear hS
            go_wp2
            exact ⟨⟨j + 1, by omega, by go_num, HS'.out⟩, by simp [intOf]; omega⟩
          · have zs : (((B : Nat) : Int) != (S : Nat)) = true := by simp only [bne_iff_ne, ne_eq]; omega
            have HN' : Hid (¬ Ft s x y a b 6) := hyd (fun e => hS (by have := HN.out e; rw [this, Nat.zero_xor]))
            clear hS
            go_wp2
            go_ret
            exact ⟨false, rfl, ⟨fun e => by simp at e, fun e => absurd e HN'.out⟩, rfl⟩
      · have za : ((a : Int) != 0) = true := by simp only [bne_iff_ne, ne_eq]; omega
        rw [HTa.out a0] at p1
        clear HTa
        have i2 := hI.cell a (by rw [tL_length]; omega)
        rw [tL_full ha a0] at i2
        clear a0
        by_cases b0 : b = 0
        · have B0 := HB0.out b0
          subst B0
          have zb : ((b : Int) != 0) = false := by rw [b0]; rfl
          clear b0 p2 x2 x3
          by_cases hS : S = A
          · have zs : (((A : Nat) : Int) != (S : Nat)) = false := by rw [hS]; simp
            have HS' := hyd (HS.out (by rw [hS]; rw [Nat.xor_zero]))
            clear hS
            go_wp2
            exact ⟨⟨j + 1, by omega, by go_num, HS'.out⟩, by simp [intOf]; omega⟩
          · have zs : (((A : Nat) : Int) != (S : Nat)) = true := by simp only [bne_iff_ne, ne_eq]; omega
            have HN' : Hid (¬ Ft s x y a b 6) := hyd (fun e => hS (by have := HN.out e; rw [this, Nat.xor_zero]))
            clear hS
            go_wp2
            go_ret
            exact ⟨false, rfl, ⟨fun e => by simp at e, fun e => absurd e HN'.out⟩, rfl⟩
        · have zb : ((b : Int) != 0) = true := by simp only [bne_iff_ne, ne_eq]; omega
          rw [HTb.out b0] at p2
          clear HTb
          have i1 := hI.cell b (by rw [tL_length]; omega)
          rw [tL_full hb b0] at i1
          clear b0
          by_cases hS : S = A ^^^ B
          · have zs : (((A ^^^ B : Nat) : Int) != (S : Nat)) = false := by rw [hS]; simp
            have HS' := hyd (HS.out (by rw [hS]))
            clear hS
            go_wp2
            exact ⟨⟨j + 1, by omega, by go_num, HS'.out⟩, by simp [intOf]; omega⟩
          · have zs : (((A ^^^ B : Nat) : Int) != (S : Nat)) = true := by simp only [bne_iff_ne, ne_eq]; omega
            have HN' : Hid (¬ Ft s x y a b 6) := hyd (fun e => hS (by have := HN.out e; rw [this]))
            clear hS
            go_wp2
            go_ret
            exact ⟨false, rfl, ⟨fun e => by simp at e, fun e => absurd e HN'.out⟩, rfl⟩
    · have hge : ¬ (j : Int) < 6 := by omega
      have hF6 : Ft s x y a b 6 := by
        have e : j = 6 := by omega
        rw [e] at hF; exact hF
      have HF := hyd hF6
      clear hF hF6
      go_wp2
      go_ret
      exact ⟨true, rfl, ⟨fun _ => HF.out, fun _ => rfl⟩, rfl⟩
end Go.Proofs.YtifjmilegogbaaaGreat
namespace Go.Proofs.YtifjmilegogbaaaGreat
open Go.RowKit
set_option maxRecDepth 100000

theorem tL_full' {a : Nat} (h : a < 256) (h0 : a ≠ 0) : (tL 255).getD a 0 = lg a := by
  rw [tL_at _ _ h, if_pos ⟨h0, lg_lt a h⟩]
theorem tE_full' {i : Nat} (h : i < 255) : (tE 255).getD i 0 = ex i := by rw [tE_at _ _ h, if_pos h]
theorem over_term {a b : Nat} (ha : a < 256) (hb : b < 256) (a0 : a ≠ 0) (_b0 : b ≠ 0) : ex ((lg a + 255 - lg b) % 255) = gm a (iv b) := by
  have h1 := lg_lt a ha
  have h2 := lg_lt b hb
  rw [gm_of_ne a0 (iv_ne b)]
  unfold iv
  rw [lg_ex _ (Nat.mod_lt _ (by decide))]
  congr 1
  omega

set_option maxHeartbeats 4000000 in
theorem over_any (w : World) (p g a b : Nat) (ha : a < 256) (hb : b < 256) (b0 : b ≠ 0) (hA : Arr w p 5 (tE 255)) (hI : Iat w g (tL 255)) :
    Calls Tryz.prog 141 #[.slice (some ⟨p, 0, none⟩) 255 255, .slice (some ⟨g, 0, none⟩) 256 256, .int .u8 (a : Int), .int .u8 (b : Int)] w
      fun e w' => e = .returned (.int .u8 (gm a (iv b) : Nat)) ∧ Chg (fun _ => False) w w' := by
  by_cases a0 : a = 0
  · subst a0
    go_enter Tryz.func141, Tryz.ntmps141
    go_wp2
    go_ret
    exact ⟨by rw [gm_zero_left]; rfl, Chg.refl _ _⟩
  · have h1 := lg_lt a ha
    have h2 := lg_lt b hb
    have za : ((a : Int) == 0) = false := by rw [beq_eq_false_iff_ne]; omega
    have i1 := hI.cell a (by rw [tL_length]; omega)
    have i2 := hI.cell b (by rw [tL_length]; omega)
    rw [tL_full' ha a0] at i1
    rw [tL_full' hb b0] at i2
    have bm : (lg a + 255 - lg b) % 255 < 255 := Nat.mod_lt _ (by decide)
    have p1 := hA.cell ((lg a + 255 - lg b) % 255) (by rw [tE_length]; exact bm)
    rw [tE_full' bm, over_term ha hb a0 b0] at p1
    have s1 : ((lg a : Nat) : Int) - ((lg b : Nat) : Int) + 255 = ((lg a + 255 - lg b : Nat) : Int) := by omega
    have hM : lg a + 255 - lg b ≤ 600 := by omega
    generalize lg a + 255 - lg b = M at *
    have hr := gm_lt a (iv b)
    generalize gm a (iv b) = r at *
    have c1 : (0 : Int) ≤ (a : Int) := by omega
    have c2 : (a : Int) < 256 := by omega
    have c3 : (0 : Int) ≤ (b : Int) := by omega
    have c4 : (b : Int) < 256 := by omega
    clear a0 b0
    go_enter Tryz.func141, Tryz.ntmps141
    go_wp2_with fail
    have w1 : IntKind.i64.wrap (((lg a : Nat) : Int) - ((lg b : Nat) : Int)) = ((lg a : Nat) : Int) - ((lg b : Nat) : Int) := by rw [IntKind.wrap_i64]; omega
    have w2 : IntKind.i64.wrap ((M : Nat) : Int) = (M : Int) := by rw [IntKind.wrap_i64]; omega
    have t1 : ((M : Nat) : Int).tmod 255 = ((M % 255 : Nat) : Int) := by rw [Int.tmod_eq_emod_of_nonneg (by omega)]; omega
    go_region
    all_goals
      go_wp2
      go_ret
      exact ⟨rfl, (Chg.refl _ _).drew⟩

theorem take_held {w : World} {base : Nat} {r cr : Nat} {L : List Nat} (h : Own w base 5 (.slice (some ⟨r, 0, none⟩) 64 cr) L) (hL : L.length = 64) : Held w (.slice (some ⟨r, 0, none⟩) 58 cr) (L.take 58) := by
  have h1 : (L.take 58).length = 58 := by rw [List.length_take, hL]; rfl
  refine ⟨_, cr, by rw [h1], Or.inr ⟨r, 0, rfl, (h.block (k := r) rfl).2, fun i hi => ?_⟩⟩
  rw [Nat.zero_add, getD_take _ _ _ (by omega)]
  exact (h.cellAt i (by omega)).1

set_option maxHeartbeats 4000000 in
theorem rturned_any (w : World) (c o cap a i b k : Nat) (l : List Nat) (hl : l.length = 64) (hbl : Bys l) (ha : a < 256) (hb : b < 256) (hi : i < 64) (hk : k < 64)
    (hcell : ∀ j, j < l.length → w.cell? ⟨c, o + j, none⟩ = some (.int .u8 (l.getD j 0 : Nat))) :
    Calls Tryz.prog 138 #[.slice (some ⟨c, o, none⟩) 64 cap, .int .u8 (a : Int), .int .i64 (i : Int), .int .u8 (b : Int), .int .i64 (k : Int)] w
      fun e w' => ∃ r cr, e = .returned (.slice (some ⟨r, 0, none⟩) 58 cr) ∧ (w.heap.size ≤ r ∧ 64 ≤ cr) ∧ Held w' (.slice (some ⟨r, 0, none⟩) 58 cr) ((addAt (addAt l i a) k b).take 58) ∧ Chg (fun _ => False) w w' := by
  have hi5 := info5
  have HS : Hid (∀ ad, some (⟨c, o, none⟩ : Addr) = some ad → ∀ j, j < 64 → w.cell? (ad.add j) = some (.int .u8 (l.getD j 0 : Nat))) := hyd (by
    intro ad had j hj
    obtain rfl := Option.some.inj had
    rw [Addr.add_lit]
    exact hcell j (by omega))
  clear hcell
  go_enter Tryz.func138, Tryz.ntmps138
  go_wp2_with (at_builtin; refine wpList_append_bytes _ rfl (.tmp 12) (.tmp 13) 55 rfl w.heap.size 5 Tryz.underlying55 hi5 _ [] rfl (Own.nil _ _ _) (some ⟨c, o, none⟩) 64 cap l rfl hl (fun e => by cases e) HS.out (by simp) (Nat.le_refl _) w.heap.size rfl ?_)
  intro v1 w1 O1 g1 _
  have G1 : Chg (fun _ => False) w w1 := (Chg.refl _ _).grown g1 (fun k hk => by cases hk)
  clear g1
  obtain ⟨r, cr, hv⟩ := O1.at_store (by omega)
  rw [hl] at hv
  subst hv
  have O1' : Own w1 w.heap.size 5 (.slice (some ⟨r, 0, none⟩) 64 cr) l := O1
  clear O1
  have hrb := (O1'.block (k := r) rfl).1
  have hcr : 64 ≤ cr := by
    obtain ⟨g', cap', hv, -, -, hc, -⟩ := O1'.lies (by omega)
    simp only [Value.slice.injEq] at hv
    omega
  have hm1 : (addAt l i a).length = 64 := by rw [addAt_length]; exact hl
  have hmb1 : Bys (addAt l i a) := addAt_bys hbl i _ ha
  obtain ⟨c1, f1⟩ := O1'.cellAt i (by omega)
  have d1 := hbl.getD i
  have e1 := u8_xor_nat (l.getD i 0) a d1 ha
  have O2 : Own (w1.setCell ⟨r, i, none⟩ (.int .u8 ((l.getD i 0 ^^^ a : Nat) : Int))) w.heap.size 5 (.slice (some ⟨r, 0, none⟩) 64 cr) (addAt l i a) := O1'.store i _ (by omega)
  obtain ⟨c2, f2⟩ := O2.cellAt k (by omega)
  have d2 := hmb1.getD k
  have e2 := u8_xor_nat ((addAt l i a).getD k 0) b d2 hb
  have O3 : Own ((w1.setCell ⟨r, i, none⟩ (.int .u8 ((l.getD i 0 ^^^ a : Nat) : Int))).setCell ⟨r, k, none⟩ (.int .u8 (((addAt l i a).getD k 0 ^^^ b : Nat) : Int))) w.heap.size 5 (.slice (some ⟨r, 0, none⟩) 64 cr) (addAt (addAt l i a) k b) := O2.store k _ (by omega)
  have G3 := (G1.setCell (Or.inr hrb) i (.int .u8 ((l.getD i 0 ^^^ a : Nat) : Int))).setCell (Or.inr hrb) k (.int .u8 (((addAt l i a).getD k 0 ^^^ b : Nat) : Int))
  have H3 := hyd (take_held O3 (by rw [addAt_length]; exact hm1))
  have HG3 := hyd G3
  clear O1' O2 O3 G1 G3 hmb1 hm1
  generalize (addAt l i a).getD k 0 = x2 at *
  generalize l.getD i 0 = x1 at *
  have b1 : (0 : Int) ≤ (i : Int) := by omega
  have b2 : (i : Int) < 64 := by omega
  have b3 : (0 : Int) ≤ (k : Int) := by omega
  have b4 : (k : Int) < 64 := by omega
  have b5 : (58 : Int) ≤ (cr : Int) := by omega
  have b6 : 58 ≤ cr := by omega
  have b7 : (64 : Int) ≤ (cr : Int) := by omega
  go_wp2
  go_ret
  exact ⟨r, cr, rfl, ⟨hrb, hcr⟩, H3.out, HG3.out⟩
end Go.Proofs.YtifjmilegogbaaaGreat
