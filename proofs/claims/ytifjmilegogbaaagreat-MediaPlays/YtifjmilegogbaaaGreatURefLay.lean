/-
  The document's Lay (patinaref06). Condition: the bytes can be read.
-/
import Derived.Test.YtifjmilegogbaaaGreatULay
import Derived.Test.YtifjmilegogbaaaGreatURefEnc
namespace Go.Proofs.YtifjmilegogbaaaGreat
open Go.RowKit
set_option maxRecDepth 100000

/-- The slice v is the call's own row of slices vs, which read as ls. -/
structure Rows2 (W : World) (base : Nat) (v : Value) (vs : List Value) (ls : List (List Nat)) : Prop where
  row : W.ownsRow base 55 1 v vs.length vs
  len : ls.length = vs.length
  each : ∀ j, j < vs.length → Own W base 5 (vs.getD j (.slice none 0 0)) (ls.getD j [])
  off : ∀ k, v.ownBlock = some k → ∀ j, j < vs.length → (vs.getD j (.slice none 0 0)).ownBlock ≠ some k
theorem Rows2.chg {X Y : World} {base : Nat} {v : Value} {vs : List Value} {ls : List (List Nat)} (h : Rows2 X base v vs ls) (hc : Chg (fun _ => False) X Y) : Rows2 Y base v vs ls :=
  ⟨ownsRow_keeps h.row (fun g _ _ _ hh => hc.block g (Array.getElem?_eq_some_iff.1 hh).1 (fun s => s)), h.len, fun j hj => (h.each j hj).chg hc (fun _ _ _ f => f), h.off⟩
theorem Rows2.snoc {X Y : World} {base : Nat} {v v' u : Value} {vs : List Value} {ls : List (List Nat)} {l : List Nat} (h : Rows2 X base v vs ls) (hg : X.grownBy Y v.ownBlock) (ho : Y.ownsRow base 55 1 v' (vs.length + 1) (vs ++ [u])) (hat : v'.ownBlock = v.ownBlock ∨ v'.ownBlock = some X.heap.size)
    (hA : Own X base 5 u l) (hv : ∀ k, v.ownBlock = some k → u.ownBlock ≠ some k) : Rows2 Y base v' (vs ++ [u]) (ls ++ [l]) := by
  have hk : ∀ {u : Value} {l : List Nat}, Own X base 5 u l → (∀ k, v.ownBlock = some k → u.ownBlock ≠ some k) → Own Y base 5 u l := fun {u l} ho hv => ho.keep (fun k hk he => hg.block k hk (fun e => hv k e.symm he))
  have hn : ∀ {u : Value} {l : List Nat}, Own X base 5 u l → (∀ k, v.ownBlock = some k → u.ownBlock ≠ some k) → ∀ k, v'.ownBlock = some k → u.ownBlock ≠ some k := fun {u l} ho hv k hk he => by
    rcases hat with h2 | h2
    · exact hv k (by rw [← h2]; exact hk) he
    · rw [h2] at hk
      have := Option.some.inj hk
      have := (ho.block he).2
      omega
  refine ⟨by simpa using ho, by simp [h.len], fun j hj => ?_, fun k hk' j hj => ?_⟩
  · by_cases hj' : j < vs.length
    · rw [getD_snoc_lt _ _ _ _ hj', getD_snoc_lt _ _ _ _ (by rw [h.len]; exact hj')]
      exact hk (h.each j hj') (fun k e => h.off k e j hj')
    · have e : j = vs.length := by simp at hj; omega
      subst e
      rw [getD_snoc_eq, ← h.len, getD_snoc_eq]
      exact hk hA hv
  · by_cases hj' : j < vs.length
    · rw [getD_snoc_lt _ _ _ _ hj']
      exact hn (h.each j hj') (fun k e => h.off k e j hj') k hk'
    · have e : j = vs.length := by simp at hj; omega
      subst e
      rw [getD_snoc_eq]
      exact hn hA hv k hk'

set_option maxHeartbeats 1000000 in
theorem rlay_arg (w : World) (a : Option Addr) (n cap : Nat) (a2 : Option Addr) (n2 cap2 : Nat) (h : ¬ (n = 174 ∧ n2 = 50)) :
    Calls Tryz.prog 60 #[.slice a n cap, .slice a2 n2 cap2] w fun e w' => e = .returned (.tuple #[.slice none 0 0, .bool false]) ∧ w' = w := by
  by_cases hn : n = 174
  · subst hn
    have h2 : ((n2 : Int) != 50) = true := by simp; omega
    go_enter Tryz.func60, Tryz.ntmps60
    go_wp2
    go_ret2
    exact ⟨rfl, rfl⟩
  · have h1 : ((n : Int) != 174) = true := by simp; omega
    go_enter Tryz.func60, Tryz.ntmps60
    go_wp2
    go_ret2
    exact ⟨rfl, rfl⟩

/-- A row of slices grows by one that a call has made: all that the append asks, and what it gives. -/
theorem row_more {w wr w1 : World} {v u : Value} {vs : List Value} {ls : List (List Nat)} {l : List Nat} (R : Rows2 wr w.heap.size v vs ls) (G : Chg (fun _ => False) w wr) (H : Chg (fun _ => False) wr w1) (O : Own w1 wr.heap.size 5 u l) :
    Rows2 (w1.alloc (.cells #[u] 55)) w.heap.size v vs ls ∧ Own (w1.alloc (.cells #[u] 55)) w.heap.size 5 u l ∧ (∀ k, v.ownBlock = some k → u.ownBlock ≠ some k) ∧ Chg (fun _ => False) w (w1.alloc (.cells #[u] 55)) ∧ (∀ j x, [u][j]? = some x → (w1.alloc (.cells #[u] 55)).cell? ((⟨w1.heap.size, 0, none⟩ : Addr).add j) = some x) := by
  have hA : Chg (fun _ => False) w1 (w1.alloc (.cells #[u] 55)) := (Chg.refl _ w1).alloc _
  refine ⟨(R.chg H).chg hA, (O.mono (fun k hk => by have := (O.block hk).1; have := G.size; omega)).chg hA (fun _ _ _ f => f), fun k hk he => ?_, (G.trans H).trans hA, cell_one_new _ _ _⟩
  have h1 := (O.block he).1
  rcases R.row.2 with ⟨rfl, _⟩ | ⟨g', _, _, rfl, _, hh, _⟩
  · cases hk
  · have e1 : g' = k := Option.some.inj hk
    have := (Array.getElem?_eq_some_iff.1 hh).1
    omega

set_option maxHeartbeats 4000000 in
theorem rlay_any (w : World) (c o cap : Nat) (Dt : List Nat) (hD : Dt.length = 174) (bD : Bys Dt) (hcs : c < w.heap.size) (hcap : 174 ≤ cap) (hcell : ∀ i, i < Dt.length → w.cell? ⟨c, o + i, none⟩ = some (.int .u8 (Dt.getD i 0 : Nat)))
    (c2 o2 cap2 : Nat) (Bd : List Nat) (hB : Bd.length = 50) (bB : Bys Bd) (hcs2 : c2 < w.heap.size) (hcell2 : ∀ i, i < Bd.length → w.cell? ⟨c2, o2 + i, none⟩ = some (.int .u8 (Bd.getD i 0 : Nat))) (MM : List Nat) (hMM : Dt ++ (Bd ++ mk) = MM) :
    Calls Tryz.prog 60 #[.slice (some ⟨c, o, none⟩) 174 cap, .slice (some ⟨c2, o2, none⟩) 50 cap2] w fun e w' => (∃ r k vs, e = .returned (.tuple #[.slice (some ⟨r, 0, none⟩) 4 k, .bool true]) ∧ Rows2 w' w.heap.size (.slice (some ⟨r, 0, none⟩) 4 k) vs ((List.range 4).map fun i => encL (part 58 MM i))) ∧ Chg (fun _ => False) w w' := by
  have HC := hyd hcell
  have HC2 := hyd hcell2
  clear hcell hcell2
  have hp3 : ∀ i, i < 3 → part 58 Dt i = part 58 MM i := fun i hi => by
    rw [← hMM]
    simp only [part]
    rw [List.drop_append_of_le_length (by omega), List.take_append_of_le_length (by simp; omega)]
  have hp4 : Bd ++ mk = part 58 MM 3 := by
    rw [← hMM]
    simp only [part]
    rw [List.drop_append, List.drop_eq_nil_of_le (by omega), hD, List.nil_append]
    rw [show 3 * 58 - 174 = 0 from rfl, List.drop_zero, List.take_of_length_le (by rw [List.length_append, hB, mk_length]; omega)]
  obtain ⟨i0, hi0, hz0, hz1, hz2⟩ := info_parts info22_all
  go_enter Tryz.func60, Tryz.ntmps60
  go_wp2_with fail
  go_loopw [6, 7] (fun t6 t7 wr => ∃ (k : Nat) (v : Value) (vs : List Value), k ≤ 3 ∧ v = t6 ∧ t7 = .int .i64 k ∧ vs.length = k ∧ Rows2 wr w.heap.size v vs ((List.range k).map fun i => encL (part 58 MM i)) ∧ Chg (fun _ => False) w wr) (fun _ t _ => 3 - (intOf t).toNat)
  case atStart => exact ⟨0, _, [], by omega, rfl, rfl, rfl, ⟨World.ownsRow_nil _ _ _ _, rfl, fun j hj => by simp at hj, fun k hk => by cases hk⟩, Chg.refl _ _⟩
  case round =>
    obtain ⟨k, v, vs, hk, rfl, rfl, hvl, R, G⟩ := hrel
    have hsz := G.size
    by_cases hlt : k < 3
    · have hlt' : (k : Int) < 3 := by omega
      have hk0 : (0 : Int) ≤ (k : Int) := by omega
      have hpl : (part 58 Dt k).length = 58 := by simp [part]; omega
      have hh : Held wr (.slice (some ⟨c, o + 58 * k, none⟩) 58 (cap - 58 * k)) (part 58 Dt k) := ⟨some ⟨c, o + 58 * k, none⟩, cap - 58 * k, by rw [hpl], Or.inr ⟨c, o + 58 * k, rfl, by omega, fun j hj => by
        rw [part_getD 58 Dt k j (by omega), Nat.add_assoc, Nat.mul_comm 58 k]
        exact (World.cell?_of_block (w := w) (a := ⟨c, o + (k * 58 + j), none⟩) (G.block c hcs (fun e => e))).trans (HC.out _ (by omega))⟩⟩
      have HE := hyd (rencode_held wr _ 58 _ (part 58 Dt k) rfl hpl (part_bys bD k) hh)
      have e58 : 58 * k + 58 - 58 * k = 58 := by omega
      clear hh hpl
      go_wp2_with fail
      refine HE.out.mono ?_
      rintro e w1 ⟨u, rfl, O1, H1⟩
      rw [hp3 k hlt] at O1
      obtain ⟨R2, O2, hvn, G2, hnw⟩ := row_more R G H1 O1
      have hsz2 := G2.size
      have hu1 : u.oneCell' = true := by
        rcases O1.2 with ⟨rfl, _⟩ | ⟨_, _, _, rfl, _⟩ <;> rfl
      have HR := hyd R2
      have HO := hyd O2
      have HN := hyd hnw
      have HVL := hyd hvl
      have HV := hyd hvn
      have HB : Hid (w.heap.size ≤ (w1.alloc (.cells #[u] 55)).heap.size) := hyd hsz2
      have HL1 : Hid (vs.length + 1 ≤ maxLen) := hyd (by unfold maxLen; omega)
      have HL2 : Hid ((vs.length + 1) * 24 ≤ 140737488355328) := hyd (by omega)
      obtain ⟨gu, ku, hu⟩ : ∃ gu ku, u = .slice (some ⟨gu, 0, none⟩) (encL (part 58 MM k)).length ku := by
        obtain ⟨g1, k1, h1, _⟩ := O1.lies (by rw [(encL_cw (by rw [← hp3 k hlt]; simp [part]; omega) (by rw [← hp3 k hlt]; exact part_bys bD k)).1]; omega)
        exact ⟨g1, k1, h1⟩
      have hu2 : u = .slice (some ⟨gu, 0, none⟩) 64 ku := by
        rw [hu, (encL_cw (by rw [← hp3 k hlt]; simp [part]; omega) (by rw [← hp3 k hlt]; exact part_bys bD k)).1]
      clear R2 O2 hnw O1 H1 R HE hvl hvn hu
      subst hu2
      go_wp2_with (at_builtin; refine wpList_append_own_at _ rfl _ _ 116 rfl w.heap.size 55 i0 (.slice none 0 0) 1 24 Tryz.underlying116 hi0 hz0 hz1 hz2 rfl (by decide) v vs.length vs rfl HR.out.row ⟨w1.heap.size, 0, none⟩ 1 1 [.slice (some ⟨gu, 0, none⟩) 64 ku] rfl rfl HN.out (by simp [Value.oneCell']) HL1.out HL2.out HB.out ?_)
      intro v2 w2 O3 hg2 _ hat
      have R3 := HR.out.snoc hg2 O3 (by simpa using hat) HO.out HV.out
      have G3 : Chg (fun _ => False) w w2 := G2.grown hg2 (fun k' hk' => Or.inr (by
        rcases HR.out.row.2 with ⟨rfl, _⟩ | ⟨g', _, _, rfl, hb, _⟩
        · cases hk'
        · have e1 : g' = k' := Option.some.inj hk'
          omega))
      have em : ((List.range k).map fun i => encL (part 58 MM i)) ++ [encL (part 58 MM k)] = (List.range (k + 1)).map fun i => encL (part 58 MM i) := by simp [List.range_succ]
      rw [em] at R3
      have hvl := HVL.out
      obtain ⟨g6, k6, hv6⟩ := ownsRow_succ O3
      have HR3 := hyd R3
      subst hv6
      clear HR HO HN HV hg2 O3 hat R3 em
      go_wp2
      exact ⟨⟨k + 1, _, _, by omega, rfl, by go_num, by simp [HVL.out], HR3.out, G3⟩, by simp [intOf]; omega⟩
    · have hk3 : k = 3 := by omega
      subst hk3
      have hcc2 : ∀ i, i < Bd.length → wr.cell? ⟨c2, o2 + i, none⟩ = some (.int .u8 (Bd.getD i 0 : Nat)) := fun i hi => (World.cell?_of_block (w := w) (a := ⟨c2, o2 + i, none⟩) (G.block c2 hcs2 (fun e => e))).trans (HC2.out i hi)
      have HS := hyd (rsealed_any wr c2 o2 cap2 Bd hB hcc2)
      clear hcc2
      have HVL := hyd hvl
      clear hvl
      go_wp2_with fail
      refine HS.out.mono ?_
      rintro e w0 ⟨sa, ks, rfl, OS, H0⟩
      have hSl : (Bd ++ mk).length = 58 := by rw [List.length_append, hB, mk_length]
      have bS : Bys (Bd ++ mk) := by
        intro x hx
        rcases List.mem_append.1 hx with h2 | h2
        · exact bB x h2
        · exact mk_bys x h2
      have HE := hyd (rencode_held w0 sa 58 ks (Bd ++ mk) rfl hSl bS OS.held)
      have hen : (encL (Bd ++ mk)).length = 64 := (encL_cw hSl bS).1
      have HEN := hyd hen
      clear OS HS hSl bS hen
      go_wp2_with fail
      refine HE.out.mono ?_
      rintro e w1 ⟨u, rfl, O1, H1⟩
      clear HE
      have G0 := G.trans H0
      have R0 := R.chg H0
      obtain ⟨R2, O2, hvn, G2, hnw⟩ := row_more R0 G0 H1 O1
      have hsz2 := G2.size
      have HR := hyd R2
      have HO := hyd O2
      have HN := hyd hnw
      have HV := hyd hvn
      have HB : Hid (w.heap.size ≤ (w1.alloc (.cells #[u] 55)).heap.size) := hyd hsz2
      have HL1 : Hid (vs.length + 1 ≤ maxLen) := hyd (by unfold maxLen; have := HVL.out; omega)
      have HL2 : Hid ((vs.length + 1) * 24 ≤ 140737488355328) := hyd (by have := HVL.out; omega)
      obtain ⟨gu, ku, hu⟩ : ∃ gu ku, u = .slice (some ⟨gu, 0, none⟩) 64 ku := by
        obtain ⟨g1, k1, h1, _⟩ := O1.lies (by rw [HEN.out]; omega)
        rw [HEN.out] at h1
        exact ⟨g1, k1, h1⟩
      clear R2 O2 hnw O1 H1 R R0 H0 hvn
      subst hu
      go_wp2_with (at_builtin; refine wpList_append_own_at _ rfl _ _ 116 rfl w.heap.size 55 i0 (.slice none 0 0) 1 24 Tryz.underlying116 hi0 hz0 hz1 hz2 rfl (by decide) v vs.length vs rfl HR.out.row ⟨w1.heap.size, 0, none⟩ 1 1 [.slice (some ⟨gu, 0, none⟩) 64 ku] rfl rfl HN.out (by simp [Value.oneCell']) HL1.out HL2.out HB.out ?_)
      intro v2 w2 O3 hg2 _ hat
      have R3 := HR.out.snoc hg2 O3 (by simpa using hat) HO.out HV.out
      have G3 : Chg (fun _ => False) w w2 := G2.grown hg2 (fun k' hk' => Or.inr (by
        rcases HR.out.row.2 with ⟨rfl, _⟩ | ⟨g', _, _, rfl, hb, _⟩
        · cases hk'
        · have e1 : g' = k' := Option.some.inj hk'
          omega))
      have em : ((List.range 3).map fun i => encL (part 58 MM i)) ++ [encL (Bd ++ mk)] = (List.range 4).map fun i => encL (part 58 MM i) := by rw [hp4]; rfl
      rw [em] at R3
      obtain ⟨g6, k6, hv6⟩ := ownsRow_succ O3
      rw [HVL.out] at hv6
      have HR3 := hyd R3
      subst hv6
      clear HR HO HN HV hg2 O3 hat R3 em
      go_wp2
      go_ret2
      exact ⟨⟨g6, k6, _, rfl, HR3.out⟩, G3⟩
end Go.Proofs.YtifjmilegogbaaaGreat
