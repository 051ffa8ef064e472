/-
  The document's Write and New. Conditions: it is an array.
-/
import Derived.Test.YthpjdnfalecbeaaDoc
namespace Go.Proofs.Ythpjdnfalecbeaa
open Go.RowKit
set_option maxRecDepth 100000
set_option maxHeartbeats 1000000 in
theorem rwrite_yes (r b : Nat) (s : Nat → List Nat) (hb : b < 24) (F : Nat → Prop) (a : Option Addr) (n cap : Nat) (l : List Nat) (hn : n = 160) (hl : l.length = 160) (w : World) (h : RefAt w r s F) (hv : Held w (.slice a n cap) l) (hk : ∀ k, (Value.slice a n cap).ownBlock = some k → ¬ F k) :
    Calls Try.prog 23 #[.pointer (some ⟨r, 0, none⟩), .int .i64 b, .slice a n cap] w fun e w' => e = .returned (.int .i64 0) ∧ RefAt w' r (setS s b l) (grow F w w') ∧ Chg F w w' := by
  subst hn
  obtain ⟨a', cap', e1, e2⟩ := hv
  rcases e2 with e2 | ⟨c, o, e2, e3, e4⟩
  · rw [e2] at hl; simp at hl
  have e5 : a = a' ∧ cap = cap' := by injection e1 with p1 p2 p3; exact ⟨p1, p3⟩
  obtain ⟨rfl, rfl⟩ := e5
  clear e1
  subst e2
  have hkc : ¬ F c := hk c rfl
  obtain ⟨p, h⟩ := h
  obtain ⟨i5, p1, p2, p3, p4⟩ := info5
  have h1 : ¬ ((b : Int) < 0) := by omega
  have h2 : ¬ ((24 : Int) ≤ b) := by omega
  have h3 : (b : Int) < 24 := by omega
  have h4 : (0 : Int) ≤ b := by omega
  have c1 := h.top.cell 0 (by decide)
  have c2 := h.bl.cell b hb
  have f2 := h.bl.frozen b
  have hG1 : Chg (fun k => k = p.gB) w (w.setCell ⟨p.gB, b, none⟩ (.slice none 0 0)) := Chg.r1 _ _ _
  have hB1 := h.bl.setCell b (.slice none 0 0)
  have hT1 := h.top.chg hG1 (fun e => Row.ne h.top h.bl (by decide) e)
  have d1 := hT1.cell 0 (by decide)
  have d2 := hB1.cell b hb
  rw [upL_one, if_pos rfl] at d2
  have d3 := hB1.frozen b
  have hsrc : ∀ j v, (l.map byt)[j]? = some v → (w.setCell ⟨p.gB, b, none⟩ (.slice none 0 0)).cell? ((⟨c, o, none⟩ : Addr).add j) = some v := fun j v hj => by
    have hj' : j < l.length := by have := (List.getElem?_eq_some_iff.1 hj).1; rw [List.length_map] at this; exact this
    rw [Addr.add_mid, hG1.cell e3 (fun e => hkc (by rw [e]; exact h.fb)), e4 j hj', ← hj, List.getElem?_map, List.getD_eq_getElem?_getD, List.getElem?_eq_getElem hj']; rfl
  have HS := hyd hsrc
  have HL := hyd hl
  have HH := hyd h
  have HG1 := hyd hG1
  have HB1 := hyd hB1
  have HT1 := hyd hT1
  have HSZ := hyd hG1.size
  clear hsrc hl h hG1 hT1 e4 hk hkc
  generalize hB : p.gB = gB at *
  have HB := hyd hB
  generalize p.cB = cB at *
  generalize sl p b = old at *
  clear hB
  go_enter Try.func23, Try.ntmps23
  go_wp2_with fail
  generalize hw1 : w.setCell ⟨gB, b, none⟩ (.slice none 0 0) = w1 at *
  clear hw1
  go_region_law (first
    | (refine step_append_lies _ rfl (.tmp 35) (.tmp 36) 36 rfl w1.drew.heap.size 5 i5 _ 1 1 Try.underlying36 p1 p2 p3 p4 rfl (by decide) (.slice none 0 0) 0 [] (by simp [Act.eval]) ⟨rfl, Or.inl ⟨rfl, rfl⟩⟩ ⟨c, o, none⟩ 160 cap (l.map byt) (by simp [Act.eval]) (by rw [List.length_map, HL.out]) HS.out (byt_one l) (by decide) (by decide) (by decide) (Nat.le_refl _) _ rfl ?_
       intro q cq w3 hO hg hat hlt
       have hG3 : Chg (fun _ => False) w1 w3 := Chg.grown ((Chg.refl _ w1).drew) hg (fun k hk => by cases hk)
       have HG3 := hyd hG3
       have x1 : w3.cell? ⟨r, 0, none⟩ = some (.slice (some ⟨gB, 0, none⟩) 24 cB) := (HT1.out.chg hG3 (fun f => f)).cell 0 (by decide)
       have x2 : w3.cell? ⟨gB, b, none⟩ = some (.slice none 0 0) := ((HB1.out.chg hG3 (fun f => f)).cell b hb).trans (by rw [upL_one, if_pos rfl])
       have x3 : w3.frozen? ⟨gB, b, none⟩ = false := (HB1.out.chg hG3 (fun f => f)).frozen b))
  all_goals
    have hO' : Own w3 w1.heap.size 5 (.slice (some ⟨q, 0, none⟩) 160 cq) l := by
      unfold Own
      rw [HL.out]
      exact hO
    have hq : By w3 q l := by
      obtain ⟨g', c', e1, -, -, e2⟩ := hO'.by (by rw [HL.out]; decide)
      have : q = g' := by injection e1 with u1 u2 u3; injection u1 with u1; injection u1
      rw [this]; exact e2
    have hq2 : w.heap.size ≤ q := Nat.le_trans HSZ.out (hO'.block rfl).1
    have HR := hyd (HH.out.put (w1 := w3) b q cq (by rw [HB.out]; exact HG1.out.trans' HG3.out (fun _ _ f => f.elim)) (upL (sl p) b [.slice none 0 0]) (by rw [HB.out]; exact HB1.out.chg HG3.out (fun f => f)) (fun i _ hi => by rw [upL_one, if_neg hi]) l hq hq2)
    rw [HB.out] at HR
    clear hO' hq hq2 HG3 x1 x2 x3 hO hg hat hlt hG3 HH HB HT1 HB1 HG1 HSZ HS HL
    go_wp2
    go_ret
    exact ⟨rfl, HR.out.1, HR.out.2⟩
/-- While an array is made: i sectors of it. -/
structure MkS (w : World) (base i : Nat) (v : Value) (g c : Nat → Nat) (s : Nat → List Nat) : Prop where
  own : w.ownsRow base 36 1 v i ((List.range i).map fun j => .slice (some ⟨g j, 0, none⟩) 160 (c j))
  by_ : ∀ j, j < i → By w (g j) (s j)
  ge : ∀ j, j < i → base ≤ g j
theorem MkS.chg {w w' : World} {base i : Nat} {v : Value} {g c : Nat → Nat} {s : Nat → List Nat} (h : MkS w base i v g c s) {S : Nat → Prop} (hc : Chg S w w') (hS : ∀ k, S k → k < base) : MkS w' base i v g c s :=
  ⟨ownsRow_chg h.own hc (fun k hk hs => by have := (h.own.lt k hk).1; have := hS k hs; omega), fun j hj => Row.chg (h.by_ j hj) hc (fun hs => by have := h.ge j hj; have := hS _ hs; omega), h.ge⟩
theorem MkS.own_ne {w : World} {base i : Nat} {v : Value} {g c : Nat → Nat} {s : Nat → List Nat} (h : MkS w base i v g c s) {k : Nat} (hk : v.ownBlock = some k) {q : Nat} {l : List Nat} (hq : By w q l) : q ≠ k := by
  rcases h.own.2 with ⟨rfl, _⟩ | ⟨g', cap', cur', rfl, _, hh, _⟩
  · cases hk
  · have e2 : g' = k := Option.some.inj hk
    subst e2
    exact Row.ne hq (⟨cur', hh, Nat.zero_le _, fun j hj => by omega⟩ : Row w g' 36 0 (fun _ => undef)) (by decide)
theorem MkS.next {w w' : World} {base i : Nat} {v v' : Value} {g c : Nat → Nat} {s : Nat → List Nat} (h : MkS w base i v g c s) (q cap : Nat) (hq : By w q (s i)) (hb : base ≤ q) (hO : w'.ownsRow base 36 1 v' (i + 1) (((List.range i).map fun j => (Value.slice (some ⟨g j, 0, none⟩) 160 (c j))) ++ [.slice (some ⟨q, 0, none⟩) 160 cap])) (hg : w.grownBy w' v.ownBlock) :
    MkS w' base (i + 1) v' (fun j => if j = i then q else g j) (fun j => if j = i then cap else c j) s := by
  have hc : Chg (fun k => v.ownBlock = some k) w w' := (Chg.refl _ w).grown hg (fun k hk => Or.inl hk)
  refine ⟨?_, fun j hj => ?_, fun j hj => ?_⟩
  · rw [List.range_succ, List.map_append]
    have e : ((List.range i).map fun j => (Value.slice (some ⟨if j = i then q else g j, 0, none⟩) 160 (if j = i then cap else c j))) = (List.range i).map fun j => (Value.slice (some ⟨g j, 0, none⟩) 160 (c j)) := List.map_congr_left fun j hj => by
      rw [List.mem_range] at hj
      rw [if_neg (by omega), if_neg (by omega)]
    rw [e]
    simpa using hO
  · show By w' (if j = i then q else g j) (s j)
    by_cases e : j = i
    · subst e
      rw [if_pos rfl]
      exact Row.chg hq hc (fun hk => h.own_ne hk hq rfl)
    · rw [if_neg e]
      exact Row.chg (h.by_ j (by omega)) hc (fun hk => h.own_ne hk (h.by_ j (by omega)) rfl)
  · show base ≤ (if j = i then q else g j)
    by_cases e : j = i
    · rw [if_pos e]; exact hb
    · rw [if_neg e]; exact h.ge j (by omega)
/-- It is made. -/
theorem MkS.done {w w' : World} {r : Nat} {v : Value} {g c : Nat → Nat} {s : Nat → List Nat} (h : MkS w' (r + 1) 24 v g c s) (ht : Row w' r 56 1 (fun _ => v)) (hr : w.heap.size = r) : RefAt w' r s (fun k => w.heap.size ≤ k ∧ k < w'.heap.size) := by
  obtain ⟨gB, cB, e, h1, h2, h3⟩ := ownsRow_row h.own (by decide)
  subst e
  refine ⟨⟨gB, cB, g, c⟩, ht, h3.ext fun i hi => ?_, h.by_, ⟨by omega, ht.lt⟩, ⟨show _ ≤ gB by omega, h2⟩, fun i hi => ⟨by have := h.ge i hi; show _ ≤ g i; omega, Row.lt (h.by_ i hi)⟩⟩
  rw [List.getD_eq_getElem?_getD, List.getElem?_map, List.getElem?_range (by omega)]; rfl
end Go.Proofs.Ythpjdnfalecbeaa
