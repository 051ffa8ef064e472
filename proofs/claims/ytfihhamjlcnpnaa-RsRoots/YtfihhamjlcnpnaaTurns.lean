/-
  The statements' own helpers pick and damage. Condition: the bytes and the turns can be read.
-/
import Derived.Test.YtfihhamjlcnpnaaNearWalk
namespace Go.Proofs.Ytfihhamjlcnpnaa
open Go.RowKit
set_option maxRecDepth 100000

theorem neg_rem {c : Int} (h : c < 0) : -((c + 1).tmod 64) = (-(c + 1)) % 64 := by
  rw [← Int.neg_tmod, Int.tmod_eq_emod_of_nonneg (by omega)]
set_option maxHeartbeats 1000000 in
theorem pick_any (w : World) (c : Int) (h1 : -9223372036854775808 ≤ c) (h2 : c ≤ 9223372036854775807) :
    Calls Try.prog 40 #[.int .i64 c, .int .i64 64] w fun e w' => ∃ k : Nat, k < 64 ∧ e = .returned (.int .i64 (k : Int)) ∧ w' = w := by
  by_cases hc : c < 0
  · have HE := hyd (neg_rem hc)
    go_enter Try.func40, Try.ntmps40
    go_wp2
    go_ret
    refine ⟨((-(c + 1)) % 64).toNat, by omega, ?_, rfl⟩
    have e : ((((-(c + 1)) % 64).toNat : Nat) : Int) = -((c + 1).tmod 64) := by rw [HE.out]; omega
    rw [e]; rfl
  · go_enter Try.func40, Try.ntmps40
    go_wp2
    go_ret
    refine ⟨(c % 64).toNat, by omega, ?_, rfl⟩
    have e : (((c % 64).toNat : Nat) : Int) = c % 64 := by omega
    rw [e]; rfl

/-- A slice of turns: their places, and by what. -/
def IsTurns (w : World) (a : Option Addr) (len : Nat) (T : Nat → Int × Nat) : Prop :=
  (∀ i, i < len → -9223372036854775808 ≤ (T i).1 ∧ (T i).1 ≤ 9223372036854775807 ∧ (T i).2 < 256) ∧
  (len = 0 ∨ ∃ g o, a = some ⟨g, o, none⟩ ∧ g < w.heap.size ∧ ∀ i, i < len → w.cell? ⟨g, o + i * 2, none⟩ = some (.int .i64 (T i).1) ∧ w.cell? ⟨g, o + i * 2 + 1, none⟩ = some (.int .u8 ((T i).2 : Nat)))
theorem IsTurns.chg {w w' : World} {a : Option Addr} {len : Nat} {T : Nat → Int × Nat} (h : IsTurns w a len T) (hc : Chg (fun _ => False) w w') : IsTurns w' a len T := by
  refine ⟨h.1, ?_⟩
  rcases h.2 with h | ⟨g, o, ha, hg, hx⟩
  · exact Or.inl h
  · exact Or.inr ⟨g, o, ha, Nat.lt_of_lt_of_le hg hc.size, fun i hi => ⟨(World.cell?_of_block (w := w) (a := ⟨g, o + i * 2, none⟩) (hc.block g hg (fun e => e))).trans (hx i hi).1,
      (World.cell?_of_block (w := w) (a := ⟨g, o + i * 2 + 1, none⟩) (hc.block g hg (fun e => e))).trans (hx i hi).2⟩⟩
theorem Own.slice' {w : World} {base : Nat} {e : TypeId} {v : Value} {l : List Nat} (h : Own w base e v l) (h0 : l.length ≠ 0) : ∃ g c, v = .slice (some ⟨g, 0, none⟩) l.length c ∧ base ≤ g ∧ g < w.heap.size := by
  obtain ⟨g, c, hv, hg, hs, _⟩ := h.lies h0
  exact ⟨g, c, hv, hg, hs⟩

set_option maxHeartbeats 4000000 in
theorem damage_any (w : World) (c o cap : Nat) (P : List Nat) (hP : P.length = 64) (bP : Bys P) (hcs : c < w.heap.size) (hc : ∀ i, i < 64 → w.cell? ⟨c, o + i, none⟩ = some (.int .u8 (P.getD i 0 : Nat)))
    (a1 : Option Addr) (len1 cap1 : Nat) (hlen : len1 ≤ 9223372036854775807) (T : Nat → Int × Nat) (hT : IsTurns w a1 len1 T) :
    Calls Try.prog 24 #[.slice (some ⟨c, o, none⟩) 64 cap, .slice a1 len1 cap1] w fun e w' => ∃ g k X, e = .returned (.tuple #[.slice (some ⟨g, 0, none⟩) 64 k, .int .i64 (ds X P : Nat)]) ∧ X.length = 64 ∧ Bys X ∧ w.heap.size ≤ g ∧ Own w' w.heap.size 5 (.slice (some ⟨g, 0, none⟩) 64 k) X ∧ Chg (fun _ => False) w w' := by
  have hi5 := info5
  have HC := hyd hc
  have HT := hyd hT
  clear hc hT
  go_enter Try.func24, Try.ntmps24
  go_wp2_with (at_builtin; refine wpList_append_bytes _ rfl _ _ 22 rfl w.heap.size 5 Try.underlying22 hi5 _ [] rfl ?h1 (some ⟨c, o, none⟩) 64 cap P rfl hP (by simp) ?h2 ?h3 ?h4 w.heap.size ?h5 ?_)
  case h1 => exact Own.nil _ _ _
  case h2 =>
    intro ad had j hj
    have e := Option.some.inj had
    subst e
    rw [Addr.add_lit]
    exact HC.out j hj
  case h3 => simp
  case h4 => simp
  case h5 => rfl
  intro v1 w1 hO1 hg1 _
  have G1 : Chg (fun _ => False) w w1 := (Chg.refl _ w).grown hg1 (fun k hk => by cases hk)
  replace hO1 : Own w1 w.heap.size 5 v1 P := by simpa using hO1
  obtain ⟨g, k, hv1, hgb, hgs⟩ := hO1.slice' (by omega)
  rw [hP] at hv1
  subst hv1
  clear hg1
  go_wp2_with fail
  go_loopw [7] (fun t wr => ∃ (i : Nat) (X : List Nat), i ≤ len1 ∧ t = .int .i64 i ∧ X.length = 64 ∧ Bys X ∧ Own wr w.heap.size 5 (.slice (some ⟨g, 0, none⟩) 64 k) X ∧ Chg (fun _ => False) w wr) (fun t _ => len1 - (intOf t).toNat)
  case atStart => exact ⟨0, P, Nat.zero_le _, rfl, hP, bP, hO1, G1⟩
  case round =>
    clear hO1 G1
    obtain ⟨i, X, hi, rfl, hX, bX, hO, hG⟩ := hrel
    by_cases hlt : i < len1
    · have hlt' : (i : Int) < (len1 : Int) := by omega
      have hi0 : (0 : Int) ≤ (i : Int) := by omega
      obtain ⟨g1, o1, rfl, hg1, hx⟩ := (HT.out.chg hG).2.resolve_left (by omega)
      obtain ⟨t1, t2, t3⟩ := HT.out.1 i hlt
      obtain ⟨x1, x2⟩ := hx i hlt
      clear hx
      generalize (T i).1 = ti at *
      generalize (T i).2 = tb at *
      go_wp2_with fail
      refine (pick_any wr ti t1 t2).mono ?_
      rintro e w2 ⟨kk, hkk, rfl, rfl⟩
      obtain ⟨g', k', hv, -, -, -, hcx, hfx⟩ := hO.lies (by omega)
      simp only [Value.slice.injEq, Option.some.injEq, Addr.mk.injEq] at hv
      obtain ⟨⟨rfl, -, -⟩, -, rfl⟩ := hv
      have y1 := hcx kk (by omega)
      have y2 := hfx kk
      have b1 := bX.getD kk
      have kk0 : (0 : Int) ≤ (kk : Int) := by omega
      have kk64 : (kk : Int) < 64 := by omega
      have hO2 := hO.store kk (X.getD kk 0 ^^^ tb) (by omega)
      have bX2 : Bys (X.set kk (X.getD kk 0 ^^^ tb)) := by
        intro n hn
        rcases List.mem_or_eq_of_mem_set hn with h | h
        · exact bX n h
        · rw [h]; exact xor_lt _ _ b1 t3
      have e1 := u8_xor_nat (X.getD kk 0) tb b1 t3
      have hX2 : (X.set kk (X.getD kk 0 ^^^ tb)).length = 64 := by rw [List.length_set]; exact hX
      have HO2 := hyd hO2
      have HB2 := hyd bX2
      have HX2 := hyd hX2
      clear hO hcx hfx hO2 bX2 hX2
      generalize X.getD kk 0 = xx at *
      generalize X.set kk (xx ^^^ tb) = X2 at *
      go_wp2_with fail
      go_region_with fail
      all_goals
        go_wp2
        exact ⟨⟨i + 1, X2, by omega, by go_num, HX2.out, HB2.out, HO2.out, hG.drew.setCell (Or.inr hgb) _ _⟩, by simp [intOf]; omega⟩
    · have hlt' : ¬ (i : Int) < (len1 : Int) := by omega
      obtain ⟨g', k', hv, -, -, -, hcx, -⟩ := hO.lies (by omega)
      simp only [Value.slice.injEq, Option.some.injEq, Addr.mk.injEq] at hv
      obtain ⟨⟨rfl, -, -⟩, -, rfl⟩ := hv
      have hcall := rapart_any wr g 0 k c o cap X P hX hP bX bP (fun i hi => by rw [Nat.zero_add]; exact hcx i (by omega))
        (fun i hi => (World.cell?_of_block (w := w) (a := ⟨c, o + i, none⟩) (hG.block c hcs (fun e => e))).trans (HC.out i hi))
      have HO := hyd hO
      clear hO hcx
      go_wp2_with fail
      refine hcall.mono ?_
      rintro e w3 ⟨rfl, H3⟩
      have G3 := hG.trans H3
      have O3 := HO.out.chg H3 (fun _ _ _ f => f)
      clear hcall hG H3
      go_wp2
      go_ret2
      exact ⟨g, k, X, rfl, hX, bX, hgb, O3, G3⟩
end Go.Proofs.Ytfihhamjlcnpnaa
