/-
  The document's answer for a codeword: a message, moved up, divided by the rule: what is left stands behind it. It is the codeword. No condition: plain mathematics. The document's answer for a codeword, walked: patinaref02.rule, patinaref02.Encode. Condition: the message's bytes can be read. RsEncodes, walked: whatever the bytes, Encode answers as the document says, leaves what it was lent as it was, and what it answers is its owner's. Condition: the bytes came in as a slice does.
-/
import Derived.Test.YtdofegphipbcdaaKnow
namespace Go.Proofs.Ytdofegphipbcdaa

/-- The rule's coefficients. -/
def G7 : List Nat := 1 :: gl
theorem G7_bys : Bys G7 := by intro n hn; simp [G7, gl] at hn; omega
theorem G7_roots : allB 6 (fun k => ev (ex k) G7 == 0) = true := by decide +kernel
theorem G7_root (k : Nat) (h : k < 6) : ev (ex k) G7 = 0 := by simpa using allB_at G7_roots k h
theorem inner_getD (a : Nat) (q : List Nat) (i : Nat) (l : List Nat) (j : Nat) (h : i + j ≤ l.length) (t : Nat) :
    (inner a q i l j).getD t 0 = l.getD t 0 ^^^ (if i ≤ t ∧ t < i + j then gm a (q.getD (t - i) 0) else 0) := by
  induction j with
  | zero => rw [if_neg (by omega), Nat.xor_zero]; rfl
  | succ j ih =>
    show (addAt (inner a q i l j) (i + j) (gm a (q.getD j 0))).getD t 0 = _
    rw [addAt_getD _ _ _ _ (by rw [inner_length]; omega), ih (by omega)]
    by_cases e : t = i + j
    · subst e
      rw [if_neg (by omega), if_pos rfl, if_pos (by omega), Nat.xor_zero, show i + j - i = j from by omega]
    · rw [if_neg e, Nat.xor_zero]
      by_cases h2 : i ≤ t ∧ t < i + j
      · rw [if_pos h2, if_pos (by omega)]
      · rw [if_neg h2, if_neg (by omega)]
/-- The division behind i steps. -/
def dv (l : List Nat) : Nat → List Nat
  | 0 => l ++ [0, 0, 0, 0, 0, 0]
  | i + 1 => inner ((dv l i).getD i 0) G7 i (dv l i) 7
theorem dv_length (l : List Nat) (i : Nat) : (dv l i).length = l.length + 6 := by
  induction i with
  | zero => simp [dv]
  | succ i ih => show (inner _ _ _ _ _).length = _; rw [inner_length, ih]
theorem dv_bys {l : List Nat} (hl : Bys l) (i : Nat) : Bys (dv l i) := by
  induction i with
  | zero =>
    intro n hn
    rcases List.mem_append.1 hn with h | h
    · exact hl n h
    · simp at h; omega
  | succ i ih => exact inner_bys _ _ _ _ ih _
theorem dv_ev {l : List Nat} (hl : Bys l) (hl58 : l.length = 58) (k : Nat) (hk : k < 6) (i : Nat) (hi : i ≤ 58) : ev (ex k) (dv l i) = ev (ex k) (dv l 0) := by
  induction i with
  | zero => rfl
  | succ i ih =>
    show ev (ex k) (inner ((dv l i).getD i 0) G7 i (dv l i) 7) = _
    rw [ev_inner (ex k) (ex_lt k) _ G7 i 58 (dv l i) (dv_bys hl i) (by omega) (by rw [dv_length, hl58]; rfl) 7 (Nat.le_refl _)]
    have h0 : pv (ex k) G7 7 = 0 := by rw [← G7_root k hk]; exact (ev_pv (ex k) (ex_lt k) G7 G7_bys).symm
    rw [h0, gm_zero_right, Nat.xor_zero, ih (by omega)]
theorem dv_zero {l : List Nat} (hl : Bys l) (hl58 : l.length = 58) (i : Nat) (hi : i ≤ 58) (t : Nat) (ht : t < i) : (dv l i).getD t 0 = 0 := by
  induction i with
  | zero => omega
  | succ i ih =>
    show (inner ((dv l i).getD i 0) G7 i (dv l i) 7).getD t 0 = 0
    rw [inner_getD _ _ _ _ _ (by rw [dv_length, hl58]; omega)]
    by_cases e : t = i
    · subst e
      rw [if_pos (by omega), Nat.sub_self]
      show _ ^^^ gm _ 1 = 0
      rw [gm_one _ ((dv_bys hl t).getD t), Nat.xor_self]
    · rw [if_neg (by omega), Nat.xor_zero]
      exact ih (by omega) (by omega)
theorem dv_split {l : List Nat} (hl : Bys l) (hl58 : l.length = 58) : dv l 58 = List.replicate 58 0 ++ (dv l 58).drop 58 := by
  have hlen := dv_length l 58
  have h : (dv l 58).take 58 = List.replicate 58 0 := by
    apply getD_ext (by rw [List.length_take, hlen]; simp; omega)
    intro i hi
    rw [List.length_take, hlen] at hi
    rw [getD_take _ _ _ (by omega), dv_zero hl hl58 58 (Nat.le_refl _) i (by omega)]
    rw [List.getD_eq_getElem?_getD, List.getElem?_replicate, if_pos (by omega)]; rfl
  rw [← h, List.take_append_drop]
theorem dv_enc {l : List Nat} (hl : Bys l) (hl58 : l.length = 58) : l ++ (dv l 58).drop 58 = encL l := by
  have hdl : ((dv l 58).drop 58).length = 6 := by rw [List.length_drop, dv_length, hl58]
  have hdb : Bys ((dv l 58).drop 58) := fun n hn => dv_bys hl 58 n (List.mem_of_mem_drop hn)
  have hz : Bys (List.replicate 58 0) := fun n hn => by have := List.eq_of_mem_replicate hn; omega
  apply cw_msg _ (encL_cw hl58 hl)
  · rw [encL_take hl58, List.take_append_of_le_length (by omega), List.take_of_length_le (by omega)]
  · refine ⟨by rw [List.length_append, hdl, hl58], ?_, ?_⟩
    · intro n hn
      rcases List.mem_append.1 hn with h | h
      · exact hl n h
      · exact hdb n h
    · intro k hk
      rw [ev_append _ (ex_lt k) l _ hl hdb, hdl]
      have h1 := dv_ev hl hl58 k hk 58 (Nat.le_refl _)
      rw [dv_split hl hl58, ev_append _ (ex_lt k) _ _ hz hdb, ev_zeros, gm_zero_left, Nat.zero_xor] at h1
      rw [h1]
      show _ ^^^ ev (ex k) (l ++ [0, 0, 0, 0, 0, 0]) = 0
      rw [ev_append _ (ex_lt k) l _ hl (by intro n hn; simp at hn; omega)]
      rw [show ev (ex k) [0, 0, 0, 0, 0, 0] = 0 from ev_zeros (ex k) 6, Nat.xor_zero]
      exact Nat.xor_self _
end Go.Proofs.Ytdofegphipbcdaa
namespace Go.Proofs.Ytdofegphipbcdaa
open Go.RowKit
set_option maxRecDepth 100000

theorem rtimes_n (w : World) (a a2 : Option Addr) (n n2 cap cap2 : Nat) (p q : List Nat) (hn : n = p.length) (hn2 : n2 = q.length) (hpb : Bys p) (hqb : Bys q) (hlen : p.length ≤ 140737488351232) (hlen2 : q.length ≤ 140737488351232)
    (hp : Held w (.slice a n cap) p) (hq : Held w (.slice a2 n2 cap2) q) :
    Calls Try.prog 57 #[.slice a n cap, .slice a2 n2 cap2] w fun e w' =>
      ∃ (at_ : Option Addr) (m : Nat), e = .returned (.slice at_ m m) ∧ m = (tm p q).length ∧ Own w' w.heap.size 5 (.slice at_ m m) (tm p q) ∧ Chg (fun _ => False) w w' := by
  subst hn hn2
  exact rtimes_any w a a2 cap cap2 p q hpb hqb hlen hlen2 hp hq

set_option maxHeartbeats 4000000 in
theorem rule_any (w : World) :
    Calls Try.prog 45 #[] w fun e w' => ∃ g c, e = .returned (.slice (some ⟨g, 0, none⟩) 7 c) ∧ w.heap.size ≤ g ∧ Held w' (.slice (some ⟨g, 0, none⟩) 7 c) G7 ∧ Chg (fun _ => False) w w' := by
  go_enter Try.func45, Try.ntmps45
  go_wp2_with fail
  go_loopw [1, 2, 3] (fun v x t wr => ∃ j g c : Nat, j ≤ 6 ∧ t = .int .i64 j ∧ x = .int .u8 (ex j : Nat) ∧ v = .slice (some ⟨g, 0, none⟩) (j + 1) c ∧ w.heap.size ≤ g ∧ Held wr (.slice (some ⟨g, 0, none⟩) (j + 1) c) (prod j) ∧ Chg (fun _ => False) w wr) (fun _ _ t _ => 6 - (intOf t).toNat)
  case atStart => exact ⟨0, w.heap.size, 1, by omega, rfl, by rw [ex_zero]; rfl, rfl, Nat.le_refl _, (Arr.new w 5 [1]).held 0 1 1 [1] rfl (by simp) (fun i _ => by rw [Nat.zero_add]), (Chg.refl _ _).alloc _⟩
  case round =>
    obtain ⟨j, g, c, hj, rfl, rfl, rfl, hg, hH, hG⟩ := hrel
    have hpl := prod_length j
    have hpb := prod_bys j
    by_cases hlt : j < 6
    · have hx := ex_lt j
      have HE : Hid (gm (ex j) 2 = ex (j + 1)) := hyd (ex_two j (by omega))
      have HPr : Hid (prod (j + 1) = tm (prod j) [1, ex j]) := rfl
      have HPL := hyd hpl
      clear hpl
      generalize ex j = y at *
      generalize prod j = pj at *
      have h2b : Bys [1, y] := by intro n hn; simp at hn; omega
      have hH2 : Held (wr.alloc (.cells (bcells [1, y]) 5)) (.slice (some ⟨g, 0, none⟩) (j + 1) c) pj := hH.chgF ((Chg.refl _ _).alloc _)
      have hH3 : Held (wr.alloc (.cells (bcells [1, y]) 5)) (.slice (some ⟨wr.heap.size, 0, none⟩) 2 2) [1, y] := (Arr.new wr 5 [1, y]).held 0 2 2 [1, y] rfl (by simp) (fun i _ => by rw [Nat.zero_add])
      go_wp2_with fail
      refine (rtimes_n _ _ _ (j + 1) 2 c 2 pj [1, y] HPL.out.symm rfl hpb h2b (by have := HPL.out; omega) (by simp) hH2 hH3).mono ?_
      rintro e w2 ⟨at_, m, rfl, hm, hO, hG2⟩
      have htl : (tm pj [1, y]).length = j + 2 := by rw [tm_length _ _ (by have := HPL.out; omega) (by simp), HPL.out]; rfl
      rw [htl] at hm
      subst hm
      obtain ⟨g', c', hv⟩ := hO.at_store (by omega)
      rw [htl] at hv
      simp only [Value.slice.injEq] at hv
      obtain ⟨rfl, -, -⟩ := hv
      have hgb := (hO.block (k := g') rfl).1
      have hH4 := hO.held
      have hG3 : Chg (fun _ => False) w w2 := (hG.alloc _).trans hG2
      have hs := hG.size
      simp at hgb
      rw [← HPr.out] at hH4
      clear hO hG2 hG hH hH2 hH3 htl
      go_wp2_with (first | (go_at_call 46; refine (rmul_nat _ y 2 hx (by omega)).mono ?_; rintro e w3 ⟨rfl, rfl⟩))
      exact ⟨⟨j + 1, g', j + 2, by omega, by go_num, by rw [HE.out], rfl, by omega, hH4, hG3⟩, by simp [intOf]; omega⟩
    · have e6 : j = 6 := by omega
      subst e6
      rw [prod_six] at hH
      go_wp2
      go_ret
      exact ⟨g, c, rfl, hg, hH, hG⟩

theorem cell_chg {w w' : World} (hc : Chg (fun _ => False) w w') {c o : Nat} {v : Value} (h : w.cell? ⟨c, o, none⟩ = some v) : w'.cell? ⟨c, o, none⟩ = some v :=
  (World.cell?_of_block (w := w) (a := ⟨c, o, none⟩) (hc.block c (cell_lt h) (fun e => e))).trans h

theorem Own.cellAt {w : World} {base : Nat} {e : TypeId} {g n cap : Nat} {L : List Nat} (h : Own w base e (.slice (some ⟨g, 0, none⟩) n cap) L) (k : Nat) (hk : k < L.length) : w.cell? ⟨g, k, none⟩ = some (.int .u8 (L.getD k 0 : Nat)) ∧ w.frozen? ⟨g, k, none⟩ = false := by
  obtain ⟨g', cap', hv, -, -, -, hc, hf⟩ := h.lies (by omega)
  simp only [Value.slice.injEq, Option.some.injEq, Addr.mk.injEq] at hv
  obtain ⟨⟨rfl, -, -⟩, -, -⟩ := hv
  exact ⟨hc k hk, hf k⟩
set_option maxHeartbeats 4000000 in
theorem rencode_any (w : World) (c o cap : Nat) (l : List Nat) (hl : l.length = 58) (hb : Bys l)
    (hcell : ∀ i, i < l.length → w.cell? ⟨c, o + i, none⟩ = some (.int .u8 (l.getD i 0 : Nat))) :
    Calls Try.prog 32 #[.slice (some ⟨c, o, none⟩) 58 cap] w fun e w' => ∃ v, e = .returned v ∧ Own w' w.heap.size 5 v (encL l) ∧ Chg (fun _ => False) w w' := by
  have hi5 := info5
  have HC := hyd hcell
  clear hcell
  have HL := hyd hl
  go_enter Try.func32, Try.ntmps32
  go_wp2_with (at_builtin; refine wpList_append_bytes _ rfl (.tmp 9) (.tmp 10) 22 rfl w.heap.size 5 Try.underlying22 hi5 _ [] rfl ?h1 (some ⟨c, o, none⟩) 58 cap l rfl hl (fun e => by cases e) ?h2 ?h3 ?h4 w.heap.size ?h5 ?_)
  case h1 => exact Own.nil _ _ _
  case h2 =>
    intro ad had j hj
    obtain rfl := Option.some.inj had
    rw [Addr.add_lit]
    exact HC.out j (by omega)
  case h3 => simp
  case h4 => exact Nat.le_refl _
  case h5 => rfl
  intro v1 w1 O1 g1 _
  have G1 : Chg (fun _ => False) w w1 := (Chg.refl _ _).grown g1 (fun k hk => by cases hk)
  clear g1
  go_wp2_with (at_builtin; refine wpList_append_bytes _ rfl (.tmp 12) (.tmp 13) 22 rfl w.heap.size 5 Try.underlying22 hi5 v1 l rfl ?h1 (some ⟨w1.heap.size, 0, none⟩) 6 6 [0, 0, 0, 0, 0, 0] rfl rfl (fun e => by cases e) ?h2 ?h3 ?h4 (w1.heap.size + 1) ?h5 ?_)
  case h1 => exact O1.keep (fun k hk _ => Below.heap_alloc _ _ _ hk)
  case h2 =>
    intro ad had j hj
    obtain rfl := Option.some.inj had
    rw [Addr.add_lit, Nat.zero_add]
    exact (Arr.new w1 5 [0, 0, 0, 0, 0, 0]).cell j (by simpa using hj)
  case h3 => rw [hl]; omega
  case h4 => have := G1.size; simp; omega
  case h5 => simp
  intro v2 w2 O2 g2 _
  have G2 : Chg (fun _ => False) w w2 := (G1.alloc _).grown g2 (fun k hk => Or.inr (O1.block hk).1)
  clear g2 O1 G1
  have h64 : (l ++ [0, 0, 0, 0, 0, 0]).length = 64 := by simp [hl]
  obtain ⟨r, cr, hv⟩ := O2.at_store (by omega)
  rw [h64] at hv
  subst hv
  have hrb := O2.block (k := r) rfl
  go_wp2_with fail
  refine (rule_any w2).mono ?_
  rintro e w3 ⟨g, cg, rfl, hg, H3, G3⟩
  have O3 : Own w3 w.heap.size 5 (.slice (some ⟨r, 0, none⟩) 64 cr) (dv l 0) := O2.chg G3 (fun _ _ _ e => e)
  have G03 := G2.trans G3
  have hgr : g ≠ r := by omega
  clear O2 G2 G3 h64
  go_wp2_with fail
  go_loopw [5] (fun t wr => ∃ i : Nat, i ≤ 58 ∧ t = .int .i64 i ∧ Own wr w.heap.size 5 (.slice (some ⟨r, 0, none⟩) 64 cr) (dv l i) ∧ Held wr (.slice (some ⟨g, 0, none⟩) 7 cg) G7 ∧ Chg (fun _ => False) w wr) (fun t _ => 58 - (intOf t).toNat)
  case atStart => exact ⟨0, by omega, rfl, O3, H3, G03⟩
  case round =>
    clear O3 H3 G03
    obtain ⟨i, hi, rfl, hO, hH, hG⟩ := hrel
    by_cases hlt : i < 58
    · have hlt' : (i : Int) < 58 := by omega
      have hkb : (0 : Int) ≤ (i : Int) := by omega
      have hkb2 : (i : Int) < 64 := by omega
      have hdl := dv_length l i
      have hdb := dv_bys hb i
      have c1 := (hO.cellAt i (by omega)).1
      have HD : Hid (dv l (i + 1) = inner ((dv l i).getD i 0) G7 i (dv l i) 7) := rfl
      have hx := hdb.getD i
      generalize (dv l i).getD i 0 = x at *
      have HDL : Hid ((dv l i).length = 64) := hyd (by omega)
      clear hdl
      go_wp2_with fail
      go_loopw [7] (fun t wx => ∃ k : Nat, k ≤ 7 ∧ t = .int .i64 k ∧ Own wx w.heap.size 5 (.slice (some ⟨r, 0, none⟩) 64 cr) (inner x G7 i (dv l i) k) ∧ Held wx (.slice (some ⟨g, 0, none⟩) 7 cg) G7 ∧ Chg (fun _ => False) w wx) (fun t _ => 7 - (intOf t).toNat)
      case atStart => exact ⟨0, by omega, rfl, hO, hH, hG⟩
      case round =>
        clear hO hH hG c1
        obtain ⟨k, hk, rfl, hO, hH, hG⟩ := hrel
        by_cases hlt2 : k < 7
        · have hIl : (inner x G7 i (dv l i) k).length = 64 := by rw [inner_length, HDL.out]
          have hIb := inner_bys x G7 i (dv l i) hdb k
          have HS : Hid (inner x G7 i (dv l i) (k + 1) = (inner x G7 i (dv l i) k).set (i + k) ((inner x G7 i (dv l i) k).getD (i + k) 0 ^^^ gm x (G7.getD k 0))) := rfl
          obtain ⟨c1, f1⟩ := hO.cellAt (i + k) (by omega)
          have c2 : wr.cell? ⟨g, k, none⟩ = some (.int .u8 (G7.getD k 0 : Nat)) := by
            obtain ⟨a', c', hv, h | ⟨g', o', ha, hg', hc⟩⟩ := hH
            · cases h
            · simp only [Value.slice.injEq] at hv
              have e := hv.1.trans ha
              simp only [Option.some.injEq, Addr.mk.injEq] at e
              obtain ⟨rfl, rfl, -⟩ := e
              have := hc k (by simpa [G7, gl] using hlt2)
              rwa [Nat.zero_add] at this
          have dI := hIb.getD (i + k)
          have dg := G7_bys.getD k
          generalize inner x G7 i (dv l i) k = I at *
          generalize I.getD (i + k) 0 = z at *
          generalize G7.getD k 0 = y at *
          have e2 := u8_xor_nat z (gm x y) dI (gm_lt _ _)
          have HIL := hyd hIl
          clear hIl
          have b1 : (0 : Int) ≤ (i : Int) + (k : Int) := by omega
          have b2 : (i : Int) + (k : Int) < 64 := by omega
          have b3 : (0 : Int) ≤ (k : Int) := by omega
          have b4 : (k : Int) < 7 := by omega
          have hO2 : Own (wr.setCell ⟨r, i + k, none⟩ (.int .u8 ((z ^^^ gm x y : Nat) : Int))) w.heap.size 5 (.slice (some ⟨r, 0, none⟩) 64 cr) (inner x G7 i (dv l i) (k + 1)) := by
            rw [HS.out]; exact hO.store (i + k) _ (by have := HIL.out; omega)
          have hH2 : Held (wr.setCell ⟨r, i + k, none⟩ (.int .u8 ((z ^^^ gm x y : Nat) : Int))) (.slice (some ⟨g, 0, none⟩) 7 cg) G7 := hH.keep (by simp [World.setCell]) (fun j hj e => Below.heap_setCell _ _ _ _ (by have := Option.some.inj (show some g = some j from e); simp; omega))
          have hG2 : Chg (fun _ => False) w (wr.setCell ⟨r, i + k, none⟩ (.int .u8 ((z ^^^ gm x y : Nat) : Int))) := hG.setCell (Or.inr hrb.1) _ _
          have HO2 := hyd hO2
          have HH2 := hyd hH2
          have HG2 := hyd hG2
          clear hO2 hH2 hG2 hO hH hG
          go_wp2_with fail
          have hwr : IntKind.i64.wrap ((i : Int) + (k : Int)) = (i : Int) + (k : Int) := by rw [IntKind.wrap_i64]; omega
          have hwt : ((i : Int) + (k : Int)).toNat = i + k := by omega
          go_region_with (first | (go_at_call 46; refine (rmul_nat _ x y hx dg).mono ?_; rintro e w' ⟨rfl, rfl⟩))
          all_goals
            clear hwr hwt c1 c2 f1
            go_wp2
            exact ⟨⟨k + 1, by omega, by go_num, HO2.out, HH2.out, HG2.out.drew⟩, by simp [intOf]; omega⟩
        · have hO7 : Own wr w.heap.size 5 (.slice (some ⟨r, 0, none⟩) 64 cr) (dv l (i + 1)) := by
            have e : k = 7 := by omega
            rw [e] at hO; rw [HD.out]; exact hO
          clear hO
          have hge : ¬ (k : Int) < 7 := by omega
          go_wp2
          exact ⟨⟨i + 1, by omega, by go_num, hO7, hH, hG⟩, by simp [intOf]; omega⟩
    · have hO5 : Own wr w.heap.size 5 (.slice (some ⟨r, 0, none⟩) 64 cr) (dv l 58) := by
        have e : i = 58 := by omega
        rw [e] at hO; exact hO
      clear hO hH
      have hge : ¬ (i : Int) < 58 := by omega
      have hd64 : (dv l 58).length = 64 := by rw [dv_length, hl]
      have hcr : 64 ≤ cr := by
        obtain ⟨g', cap', hv, -, -, hc, -⟩ := hO5.lies (by omega)
        simp only [Value.slice.injEq] at hv
        omega
      have HD64 := hyd hd64
      have HC2 : Hid (∀ j, j < l.length → wr.cell? ⟨c, o + j, none⟩ = some (.int .u8 (l.getD j 0 : Nat))) := hyd (fun j hj => cell_chg hG (HC.out j hj))
      clear hd64 HC
      have hgs := hG.size
      have HS : Hid (∀ ad, some (⟨c, o, none⟩ : Addr) = some ad → ∀ j, j < 58 → wr.cell? (ad.add j) = some (.int .u8 (l.getD j 0 : Nat))) := hyd (by
        intro ad had j hj
        obtain rfl := Option.some.inj had
        rw [Addr.add_lit]
        exact HC2.out j (by omega))
      go_wp2_with (at_builtin; refine wpList_append_bytes _ rfl (.tmp 48) (.tmp 49) 22 rfl w.heap.size 5 Try.underlying22 hi5 _ [] rfl (Own.nil _ _ _) (some ⟨c, o, none⟩) 58 cap l rfl hl (fun e => by cases e) HS.out (by simp) hgs wr.heap.size rfl ?_)
      intro v5 w5 O5 g5 b5
      have G5 : Chg (fun _ => False) w w5 := hG.grown g5 (fun k hk => by cases hk)
      have R5 : Own w5 w.heap.size 5 (.slice (some ⟨r, 0, none⟩) 64 cr) (dv l 58) := hO5.keep (fun k hk _ => g5.block k hk (by simp [Value.ownBlock]))
      clear g5 hO5 hG b5 HC2
      have hcr1 : (58 : Int) ≤ (cr : Int) := by omega
      have hcr2 : ¬ cr = 58 := by omega
      have hcr3 : ¬ 58 = cr := by omega
      have hcr4 : 58 < cr := by omega
      have hcr5 : 58 ≤ cr := by omega
      have hcr6 : (64 : Int) ≤ (cr : Int) := by omega
      have HS5 : Hid (∀ ad, some (⟨r, 58, none⟩ : Addr) = some ad → ∀ j, j < 6 → w5.cell? (ad.add j) = some (.int .u8 (((dv l 58).drop 58).getD j 0 : Nat))) := hyd (by
        intro ad had j hj
        obtain rfl := Option.some.inj had
        rw [Addr.add_lit, (R5.cellAt (58 + j) (by have := HD64.out; omega)).1]
        simp [List.getD_eq_getElem?_getD])
      have HG5 := hyd G5.size
      go_wp2_with (at_builtin; refine wpList_append_bytes _ rfl (.tmp 51) (.tmp 53) 22 rfl w.heap.size 5 Try.underlying22 hi5 v5 l rfl O5 (some ⟨r, 58, none⟩) 6 (cr - 58) ((dv l 58).drop 58) rfl (by rw [List.length_drop, HD64.out]) (fun e => by cases e) HS5.out (by rw [hl]; omega) HG5.out w5.heap.size rfl ?_)
      intro v6 w6 O6 g6 _
      have G6 : Chg (fun _ => False) w w6 := G5.grown g6 (fun k hk => Or.inr (O5.block hk).1)
      rw [dv_enc hb hl] at O6
      clear g6 O5 R5 G5
      go_wp2
      go_ret
      exact ⟨v6, rfl, O6, G6⟩
end Go.Proofs.Ytdofegphipbcdaa
namespace Go.Proofs.Ytdofegphipbcdaa
open Go.RowKit
set_option maxRecDepth 100000

theorem rencode_held (w : World) (a : Option Addr) (n cap : Nat) (l : List Nat) (hn : n = 58) (hl : l.length = 58) (hb : Bys l) (hh : Held w (.slice a n cap) l) :
    Calls Try.prog 32 #[.slice a n cap] w fun e w' => ∃ v, e = .returned v ∧ Own w' w.heap.size 5 v (encL l) ∧ Chg (fun _ => False) w w' := by
  subst hn
  obtain ⟨a', c', hv, h | ⟨g', o', ha, hg', hc⟩⟩ := hh
  · omega
  · simp only [Value.slice.injEq] at hv
    obtain ⟨rfl, -, rfl⟩ := hv
    subst ha
    exact rencode_any w g' o' cap l hl hb hc

end Go.Proofs.Ytdofegphipbcdaa
