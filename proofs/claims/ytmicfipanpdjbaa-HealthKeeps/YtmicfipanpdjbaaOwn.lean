/-
  Rows of ints that a call has made; the law's own stands and up. No condition: lemmas.
-/
import Derived.Test.YtmicfipanpdjbaaRef
import Derived.Maps.AppendAt
namespace Go.Proofs.Ytmicfipanpdjbaa
set_option maxRecDepth 100000
open Go.RowKit

/-- The first n cells of block g are these ints. -/
def Rw (w : World) (g n : Nat) (F : Nat → Int) : Prop := ∃ cur : Array Value, w.heap[g]? = some (.cells cur 3) ∧ ∀ i, i < n → cur[i]? = some (i6 (F i))
section
variable {w w' : World} {g n : Nat} {F : Nat → Int}
theorem Rw.lt (h : Rw w g n F) : g < w.heap.size := by
  obtain ⟨cur, h, _⟩ := h
  exact (Array.getElem?_eq_some_iff.1 h).1
theorem Rw.chg {S : Nat → Prop} (h : Rw w g n F) (hc : Chg S w w') (hb : ¬ S g) : Rw w' g n F := by
  have hl := h.lt
  obtain ⟨cur, h, k⟩ := h
  exact ⟨cur, (hc.block g hl hb).trans h, k⟩
theorem Rw.drewN (h : Rw w g n F) (m : Nat) : Rw (w.drewN m) g n F := h
theorem Rw.cell (h : Rw w g n F) (i : Nat) (hi : i < n) : w.cell? ⟨g, i, none⟩ = some (.int .i64 (F i)) ∧ w.frozen? ⟨g, i, none⟩ = false := by
  obtain ⟨cur, h, k⟩ := h
  refine ⟨?_, by simp [World.frozen?, h]⟩
  simp only [World.cell?, h]
  simpa [i6] using k i hi
theorem Rw.set (h : Rw w g n F) (i : Nat) (z : Int) : Rw (w.setCell ⟨g, i, none⟩ (.int .i64 z)) g n (upd F i z) := by
  obtain ⟨cur, h, k⟩ := h
  refine ⟨cur.setIfInBounds i (.int .i64 z), by simp [World.setCell, Array.getElem?_modify, h], fun j hj => ?_⟩
  have hk := k j hj
  have hj' := (Array.getElem?_eq_some_iff.1 hk).1
  unfold upd
  by_cases e : j = i
  · subst e
    rw [if_pos rfl, Array.getElem?_setIfInBounds_self_of_lt hj']; rfl
  · rw [if_neg e, Array.getElem?_setIfInBounds_ne (by omega)]; exact hk
theorem Rw.congr {G : Nat → Int} (h : Rw w g n F) (e : ∀ i, i < n → F i = G i) : Rw w g n G := by
  obtain ⟨cur, h, k⟩ := h
  exact ⟨cur, h, fun i hi => by rw [← e i hi]; exact k i hi⟩
theorem Rw.lies (h : Rw w g n F) : Lies w (some ⟨g, 0, none⟩) n F := Or.inr ⟨g, 0, rfl, h.lt, fun i hi => by rw [Nat.zero_add]; exact (h.cell i hi).1⟩
theorem IB.rw_ (h : IB w g 3 n F) : Rw w g n F := ⟨_, h, fun i hi => by rw [List.getElem?_toArray]; exact ints_at F n i hi⟩
end
/-- F, but z at the first k. -/
def pst (z : Int) (k : Nat) (F : Nat → Int) : Nat → Int := fun j => if j < k then z else F j
theorem pst_upd (z : Int) (k : Nat) (F : Nat → Int) : upd (pst z k F) k z = pst z (k + 1) F := by
  funext j
  unfold upd pst
  by_cases e : j = k
  · subst e; rw [if_pos rfl, if_pos (by omega)]
  · rw [if_neg e]
    by_cases h : j < k
    · rw [if_pos h, if_pos (by omega)]
    · rw [if_neg h, if_neg (by omega)]
theorem pst_at (z : Int) (k : Nat) (F : Nat → Int) : pst z k F k = F k := by unfold pst; rw [if_neg (by omega)]
theorem pst_0 (z : Int) (F : Nat → Int) : pst z 0 F = F := by funext j; unfold pst; rw [if_neg (by omega)]
theorem Rw.pst_set {w : World} {g n k : Nat} {z : Int} {F : Nat → Int} (h : Rw w g n (pst z k F)) : Rw (w.setCell ⟨g, k, none⟩ (.int .i64 z)) g n (pst z (k + 1) F) := by
  have := h.set k z
  rwa [pst_upd] at this
theorem info3 : ∃ i, Try.prog.info? 3 = some i ∧ i.zero = some (.int .i64 0) ∧ i.size = 1 ∧ i.bytes = 8 := by
  have h : (Try.prog.info? 3).map (fun i => (i.zero, i.size, i.bytes)) = some (some (.int .i64 0), 1, 8) := by kernel_rfl
  cases e : Try.prog.info? 3 with
  | none => rw [e] at h; cases h
  | some i =>
    rw [e] at h
    simp only [Option.map_some, Option.some.injEq, Prod.mk.injEq] at h
    exact ⟨i, rfl, h.1, h.2.1, h.2.2⟩
/-- A slice of n ints whose block is base or above. -/
def Cp (w : World) (base : Nat) (a : Option Addr) (n : Nat) (V : Nat → Int) : Prop := n = 0 ∨ ∃ g, a = some ⟨g, 0, none⟩ ∧ base ≤ g ∧ Rw w g n V
theorem Cp.lies {w : World} {base : Nat} {a : Option Addr} {n : Nat} {V : Nat → Int} (h : Cp w base a n V) : Lies w a n V := by
  rcases h with h | ⟨g, rfl, _, h⟩
  · exact Or.inl h
  · exact h.lies
theorem Cp.chg {w w' : World} {base : Nat} {a : Option Addr} {n : Nat} {V : Nat → Int} (h : Cp w base a n V) (hc : Chg (fun _ => False) w w') : Cp w' base a n V := by
  rcases h with h | ⟨g, e, hb, h⟩
  · exact Or.inl h
  · exact Or.inr ⟨g, e, hb, h.chg hc (fun f => f)⟩
/-- 'append(nil, x...)': the same numbers, in a place of their own. -/
theorem wpList_append_ints {ops : Array Oper} {rest : List Oper} {o : Oper} {a : Act} {w : World} {Q : Exit → Act → World → Prop} (hgd : o.guard = none) (s x : Operand)
    (ho : o.op = .call { callee := .builtin .append, args := #[s, x], argTypes := #[22, 22] }) (hs : a.eval s = .slice none 0 0)
    (ao : Option Addr) (m c : Nat) (V : Nat → Int) (hx : a.eval x = .slice ao m c) (hnone : ao = none → m = 0 ∧ c = 0) (hl : Lies w ao m V) (hb : m * 8 ≤ 140737488351232)
    (h : ∀ ao' c' w', Cp w' w.heap.size ao' m V → Chg (fun _ => False) w w' → wpList Try.prog ops Q rest (a.put o.dst (.slice ao' m c')) w') : wpList Try.prog ops Q (o :: rest) a w := by
  obtain ⟨i, hi1, hi2, hi3, hi4⟩ := info3
  have hown : w.ownsRow w.heap.size 3 1 (.slice none 0 0) 0 [] := ⟨rfl, Or.inl ⟨rfl, rfl⟩⟩
  cases ao with
  | some ad =>
    refine wpList_append_own_at w hgd s x 22 ho w.heap.size 3 i (.int .i64 0) 1 8 Try.underlying22 hi1 hi2 hi3 hi4 rfl (by decide) (.slice none 0 0) 0 [] hs hown ad m c (ints V m) hx (by simp [ints_length]) ?_ (ints_one V m) (by unfold maxLen; omega) (by omega) (Nat.le_refl _) ?_
    · intro j u hu
      have hj : j < m := by have := (List.getElem?_eq_some_iff.1 hu).1; rwa [ints_length] at this
      obtain ⟨g, q, e, hv⟩ := hl.at_ j hj
      simp only [Option.some.injEq] at e
      subst e
      rw [addr_at, hv, ← hu, ints_at _ _ _ hj]
      rfl
    · intro v' w' h1 h2 _ _
      have hc : Chg (fun _ => False) w w' := (Chg.refl _ w).grown h2 (fun k hk => by cases hk)
      rw [Nat.zero_add, List.nil_append] at h1
      rcases h1.2 with ⟨rfl, h0⟩ | ⟨g, cap, cur, rfl, hg, hh, hn, hm, hs, ht⟩
      · have := h none 0 w' (Or.inl h0) hc
        rw [h0] at this
        exact this
      · refine h _ _ w' (Or.inr ⟨g, rfl, hg, cur, hh, fun j hj => ?_⟩) hc
        have h2 : (cur.toList.take (m * 1))[j]? = (ints V m)[j]? := by rw [ht]
        rw [List.getElem?_take_of_lt (by omega), ints_at _ _ _ hj, Array.getElem?_toList] at h2
        exact h2
  | none =>
    obtain ⟨rfl, rfl⟩ := hnone rfl
    refine wpList_plain hgd fun K hK => ?_
    have hrun := run_append_owned_none (P := Try.prog) w w.heap.size 22 o.type 3 i 1 Try.underlying22 hi1 (.slice none 0 0) 0 [] hown
    unfold Oper.wp
    simp [execOp, ho, resolve, invoke, builtin, hs, hx, hrun, Result.andThen]
    exact hK _ _ (h none 0 w (Or.inl rfl) (Chg.refl _ _))
theorem stood {w wr : World} {g k n i : Nat} {z : Int} {R S : Nat → Int} (HA : Rw wr g n (pst z i R)) (HC : Rw wr k n (pst z i S)) (HG : Chg (fun _ => False) w wr) (ne : g ≠ k) (hg : w.heap.size ≤ g) (hk : w.heap.size ≤ k) (m : Nat) :
    Rw (((wr.drewN m).setCell ⟨g, i, none⟩ (.int .i64 z)).setCell ⟨k, i, none⟩ (.int .i64 z)) g n (pst z (i + 1) R) ∧ Rw (((wr.drewN m).setCell ⟨g, i, none⟩ (.int .i64 z)).setCell ⟨k, i, none⟩ (.int .i64 z)) k n (pst z (i + 1) S) ∧ Chg (fun _ => False) w (((wr.drewN m).setCell ⟨g, i, none⟩ (.int .i64 z)).setCell ⟨k, i, none⟩ (.int .i64 z)) :=
  ⟨((HA.drewN m).pst_set).chg ((Chg.refl (· = k) _).setCell (Or.inl rfl) _ _) ne,
    ((HC.drewN m).chg ((Chg.refl (· = g) _).setCell (Or.inl rfl) _ _) ne.symm).pst_set,
    ((HG.drewN m).setCell (Or.inr hg) _ _).setCell (Or.inr hk) _ _⟩
set_option maxHeartbeats 4000000 in
theorem stands_any (w : World) (p r : Nat) (R N S : Nat → Int) (h : HB w p 48 R N S) (hr : HB w r 50 R S N) (ok : Okh R N S) : Calls Try.prog 11 #[.pointer (some ⟨p, 0, none⟩), .pointer (some ⟨r, 0, none⟩)] w fun e w' => e = .returned (.bool true) ∧ Chg (fun _ => False) w w' := by
  have HP := hyd h
  have HR := hyd hr
  have HO := hyd ok
  clear h hr ok
  go_enter Try.func11, Try.ntmps11
  go_wp2_with fail
  refine (reads_v w p R N S HP.out HO.out).mono ?_
  rintro e w1 ⟨rfl, K1, G1⟩
  obtain ⟨g, HGE⟩ : ∃ g, Hid (g = w.heap.size + 1) := ⟨_, rfl⟩
  rw [← HGE.out] at K1
  rw [← HGE.out]
  have HA := hyd (IB.rw_ K1)
  have HG1 := hyd G1
  clear K1 G1
  go_wp2_with fail
  refine (scores_v w1 p R N S (HP.out.chg HG1.out (fun f => f)) HO.out).mono ?_
  rintro e w2 ⟨rfl, K2, G2⟩
  obtain ⟨k, HKE⟩ : ∃ k, Hid (k = w1.heap.size + 1) := ⟨_, rfl⟩
  rw [← HKE.out] at K2
  rw [← HKE.out]
  have HA2 := hyd (HA.out.chg G2 (fun f => f))
  have HB2 := hyd (IB.rw_ K2)
  have HG2 := hyd (HG1.out.trans G2)
  have HNE := hyd (show g ≠ k by have := HA.out.lt; have := HKE.out; omega)
  have HOLD := hyd (show w.heap.size ≤ g ∧ w.heap.size ≤ k by have := HG1.out.size; have := HKE.out; have := HGE.out; omega)
  have HRL := hyd HR.out.lt
  clear K2 G2 HA HG1 HGE HKE HP HO
  go_wp2_with fail
  go_loopg [7] 12 (fun kx s7 wr => ∃ i : Nat, s7 = .int .i64 i ∧ i ≤ 12 ∧ 12 - i ≤ kx ∧ Hid (Rw wr g 12 (pst (-3) i R)) ∧ Hid (Rw wr k 12 (pst (-3) i S)) ∧ Hid (Chg (fun _ => False) w wr))
  case atStart => exact ⟨0, rfl, by omega, by omega, by rw [pst_0]; exact HA2, by rw [pst_0]; exact HB2, HG2⟩
  case round =>
  clear HA2 HB2 HG2
  obtain ⟨i, rfl, hin, hkx, HA, HC, HG⟩ := hrel
  by_cases hlt : i < 12
  · have hltz : (i : Int) < 12 := by omega
    have x0 := HA.out.cell i hlt
    have x1 := HC.out.cell i hlt
    rw [pst_at] at x0 x1
    obtain ⟨x0, x0f⟩ := x0
    obtain ⟨x1, x1f⟩ := x1
    have HR' := HR.out.chg HG.out (fun f => f)
    obtain ⟨y0, -⟩ := HR'.ca i hlt
    obtain ⟨y1, -⟩ := HR'.cb i hlt
    clear HR'
    have HT := hyd (fun m => stood HA.out HC.out HG.out HNE.out HOLD.out.1 HOLD.out.2 m)
    have x2 := fun m => ((HC.out.drewN m).chg ((Chg.refl (· = g) (wr.drewN m)).setCell (Or.inl rfl) i (.int .i64 (-3))) HNE.out.symm).cell i hlt
    rw [pst_at] at x2
    have x2c := fun m => (x2 m).1
    have x2f := fun m => (x2 m).2
    clear x2
    generalize R i = u at *
    generalize S i = v at *
    have hu : (u != u) = false := by simp
    have hv : (v != v) = false := by simp
    go_wp2_with fail
    go_quiet (fail)
    go_wp2
    go_roundg (12 - (i + 1))
    case measure => omega
    case rel => exact ⟨i + 1, by simp, by omega, Nat.le_refl _, (HT.out _).1, (HT.out _).2.1, (HT.out _).2.2⟩
  · have hltz : ¬ (i : Int) < 12 := by omega
    go_wp2
    go_ret
    exact ⟨rfl, HG.out⟩
end Go.Proofs.Ytmicfipanpdjbaa
