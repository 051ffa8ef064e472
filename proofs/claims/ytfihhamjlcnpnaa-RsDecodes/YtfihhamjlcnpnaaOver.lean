/-
  The document's quotient, and its word with two symbols taken away: patinaref02.over, patinaref02.turned. Condition: the tables are the document's, the bytes can be read.
-/
import Derived.Test.YtfihhamjlcnpnaaTabs
import Derived.Test.YtfihhamjlcnpnaaEncWalk
namespace Go.Proofs.Ytfihhamjlcnpnaa
open Go.RowKit
set_option maxRecDepth 100000

theorem tL_full' {a : Nat} (h : a < 256) (h0 : a ≠ 0) : (tL 255).getD a 0 = lg a := by
  rw [tL_at _ _ h, if_pos ⟨h0, lg_lt a h⟩]
theorem tE_full' {i : Nat} (h : i < 255) : (tE 255).getD i 0 = ex i := by rw [tE_at _ _ h, if_pos h]
theorem over_term {a b : Nat} (ha : a < 256) (hb : b < 256) (a0 : a ≠ 0) (_b0 : b ≠ 0) : ex ((lg a + 255 - lg b) % 255) = gm a (iv b) := by
  have h1 := lg_lt a ha
  have h2 := lg_lt b hb
  rw [gm_of_ne a0 (iv_ne b)]
  unfold iv
  rw [lg_ex _ (Nat.mod_lt _ (by decide))]
  congr 1
  omega

set_option maxHeartbeats 4000000 in
theorem over_any (w : World) (p g a b : Nat) (ha : a < 256) (hb : b < 256) (b0 : b ≠ 0) (hA : Arr w p 5 (tE 255)) (hI : Iat w g (tL 255)) :
    Calls Try.prog 39 #[.slice (some ⟨p, 0, none⟩) 255 255, .slice (some ⟨g, 0, none⟩) 256 256, .int .u8 (a : Int), .int .u8 (b : Int)] w
      fun e w' => e = .returned (.int .u8 (gm a (iv b) : Nat)) ∧ Chg (fun _ => False) w w' := by
  by_cases a0 : a = 0
  · subst a0
    go_enter Try.func39, Try.ntmps39
    go_wp2
    go_ret
    exact ⟨by rw [gm_zero_left]; rfl, Chg.refl _ _⟩
  · have h1 := lg_lt a ha
    have h2 := lg_lt b hb
    have za : ((a : Int) == 0) = false := by rw [beq_eq_false_iff_ne]; omega
    have i1 := hI.cell a (by rw [tL_length]; omega)
    have i2 := hI.cell b (by rw [tL_length]; omega)
    rw [tL_full' ha a0] at i1
    rw [tL_full' hb b0] at i2
    have bm : (lg a + 255 - lg b) % 255 < 255 := Nat.mod_lt _ (by decide)
    have p1 := hA.cell ((lg a + 255 - lg b) % 255) (by rw [tE_length]; exact bm)
    rw [tE_full' bm, over_term ha hb a0 b0] at p1
    have s1 : ((lg a : Nat) : Int) - ((lg b : Nat) : Int) + 255 = ((lg a + 255 - lg b : Nat) : Int) := by omega
    have hM : lg a + 255 - lg b ≤ 600 := by omega
    generalize lg a + 255 - lg b = M at *
    have hr := gm_lt a (iv b)
    generalize gm a (iv b) = r at *
    have c1 : (0 : Int) ≤ (a : Int) := by omega
    have c2 : (a : Int) < 256 := by omega
    have c3 : (0 : Int) ≤ (b : Int) := by omega
    have c4 : (b : Int) < 256 := by omega
    clear a0 b0
    go_enter Try.func39, Try.ntmps39
    go_wp2_with fail
    have w1 : IntKind.i64.wrap (((lg a : Nat) : Int) - ((lg b : Nat) : Int)) = ((lg a : Nat) : Int) - ((lg b : Nat) : Int) := by rw [IntKind.wrap_i64]; omega
    have w2 : IntKind.i64.wrap ((M : Nat) : Int) = (M : Int) := by rw [IntKind.wrap_i64]; omega
    have t1 : ((M : Nat) : Int).tmod 255 = ((M % 255 : Nat) : Int) := by rw [Int.tmod_eq_emod_of_nonneg (by omega)]; omega
    go_region
    all_goals
      go_wp2
      go_ret
      exact ⟨rfl, (Chg.refl _ _).drew⟩

theorem take_held {w : World} {base : Nat} {r cr : Nat} {L : List Nat} (h : Own w base 5 (.slice (some ⟨r, 0, none⟩) 64 cr) L) (hL : L.length = 64) : Held w (.slice (some ⟨r, 0, none⟩) 58 cr) (L.take 58) := by
  have h1 : (L.take 58).length = 58 := by rw [List.length_take, hL]; rfl
  refine ⟨_, cr, by rw [h1], Or.inr ⟨r, 0, rfl, (h.block (k := r) rfl).2, fun i hi => ?_⟩⟩
  rw [Nat.zero_add, getD_take _ _ _ (by omega)]
  exact (h.cellAt i (by omega)).1

set_option maxHeartbeats 4000000 in
theorem rturned_any (w : World) (c o cap a i b k : Nat) (l : List Nat) (hl : l.length = 64) (hbl : Bys l) (ha : a < 256) (hb : b < 256) (hi : i < 64) (hk : k < 64)
    (hcell : ∀ j, j < l.length → w.cell? ⟨c, o + j, none⟩ = some (.int .u8 (l.getD j 0 : Nat))) :
    Calls Try.prog 36 #[.slice (some ⟨c, o, none⟩) 64 cap, .int .u8 (a : Int), .int .i64 (i : Int), .int .u8 (b : Int), .int .i64 (k : Int)] w
      fun e w' => ∃ r cr, e = .returned (.slice (some ⟨r, 0, none⟩) 58 cr) ∧ w.heap.size ≤ r ∧ Held w' (.slice (some ⟨r, 0, none⟩) 58 cr) ((addAt (addAt l i a) k b).take 58) ∧ Chg (fun _ => False) w w' := by
  have hi5 := info5
  have HS : Hid (∀ ad, some (⟨c, o, none⟩ : Addr) = some ad → ∀ j, j < 64 → w.cell? (ad.add j) = some (.int .u8 (l.getD j 0 : Nat))) := hyd (by
    intro ad had j hj
    obtain rfl := Option.some.inj had
    rw [Addr.add_lit]
    exact hcell j (by omega))
  clear hcell
  go_enter Try.func36, Try.ntmps36
  go_wp2_with (at_builtin; refine wpList_append_bytes _ rfl (.tmp 12) (.tmp 13) 22 rfl w.heap.size 5 Try.underlying22 hi5 _ [] rfl (Own.nil _ _ _) (some ⟨c, o, none⟩) 64 cap l rfl hl (fun e => by cases e) HS.out (by simp) (Nat.le_refl _) w.heap.size rfl ?_)
  intro v1 w1 O1 g1 _
  have G1 : Chg (fun _ => False) w w1 := (Chg.refl _ _).grown g1 (fun k hk => by cases hk)
  clear g1
  obtain ⟨r, cr, hv⟩ := O1.at_store (by omega)
  rw [hl] at hv
  subst hv
  have O1' : Own w1 w.heap.size 5 (.slice (some ⟨r, 0, none⟩) 64 cr) l := O1
  clear O1
  have hrb := (O1'.block (k := r) rfl).1
  have hcr : 64 ≤ cr := by
    obtain ⟨g', cap', hv, -, -, hc, -⟩ := O1'.lies (by omega)
    simp only [Value.slice.injEq] at hv
    omega
  have hm1 : (addAt l i a).length = 64 := by rw [addAt_length]; exact hl
  have hmb1 : Bys (addAt l i a) := addAt_bys hbl i _ ha
  obtain ⟨c1, f1⟩ := O1'.cellAt i (by omega)
  have d1 := hbl.getD i
  have e1 := u8_xor_nat (l.getD i 0) a d1 ha
  have O2 : Own (w1.setCell ⟨r, i, none⟩ (.int .u8 ((l.getD i 0 ^^^ a : Nat) : Int))) w.heap.size 5 (.slice (some ⟨r, 0, none⟩) 64 cr) (addAt l i a) := O1'.store i _ (by omega)
  obtain ⟨c2, f2⟩ := O2.cellAt k (by omega)
  have d2 := hmb1.getD k
  have e2 := u8_xor_nat ((addAt l i a).getD k 0) b d2 hb
  have O3 : Own ((w1.setCell ⟨r, i, none⟩ (.int .u8 ((l.getD i 0 ^^^ a : Nat) : Int))).setCell ⟨r, k, none⟩ (.int .u8 (((addAt l i a).getD k 0 ^^^ b : Nat) : Int))) w.heap.size 5 (.slice (some ⟨r, 0, none⟩) 64 cr) (addAt (addAt l i a) k b) := O2.store k _ (by omega)
  have G3 := (G1.setCell (Or.inr hrb) i (.int .u8 ((l.getD i 0 ^^^ a : Nat) : Int))).setCell (Or.inr hrb) k (.int .u8 (((addAt l i a).getD k 0 ^^^ b : Nat) : Int))
  have H3 := hyd (take_held O3 (by rw [addAt_length]; exact hm1))
  have HG3 := hyd G3
  clear O1' O2 O3 G1 G3 hmb1 hm1
  generalize (addAt l i a).getD k 0 = x2 at *
  generalize l.getD i 0 = x1 at *
  have b1 : (0 : Int) ≤ (i : Int) := by omega
  have b2 : (i : Int) < 64 := by omega
  have b3 : (0 : Int) ≤ (k : Int) := by omega
  have b4 : (k : Int) < 64 := by omega
  have b5 : (58 : Int) ≤ (cr : Int) := by omega
  have b6 : 58 ≤ cr := by omega
  have b7 : (64 : Int) ≤ (cr : Int) := by omega
  go_wp2
  go_ret
  exact ⟨r, cr, rfl, hrb, H3.out, HG3.out⟩
end Go.Proofs.Ytfihhamjlcnpnaa
