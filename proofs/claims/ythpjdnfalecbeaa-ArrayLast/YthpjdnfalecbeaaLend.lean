/-
  patinaref01.Lend: a copy of bytes with spare room behind it, and a second one to hold it against. Conditions: the bytes can be read; there is room.
-/
import Derived.Test.YthpjdnfalecbeaaSame
import Derived.Test.YthpjdnfalecbeaaApart
import Derived.Deep.RegionLaw
import Derived.Deep.AppendLies
namespace Go.Proofs.Ythpjdnfalecbeaa
set_option maxRecDepth 100000
open Go.RowKit

/-- The marks behind a list that is lent. -/
def mrk (k : Nat) : List Nat := (List.range k).map (70 + ·)
theorem mrk_succ (k : Nat) : mrk (k + 1) = mrk k ++ [70 + k] := by simp [mrk, List.range_succ]
theorem mrk_length (k : Nat) : (mrk k).length = k := by simp [mrk]
/-- A Lent: its three cells lie in block s; the list in block f, the list that it is held against in block g. -/
def LentAt (w : World) (base s f g : Nat) (l m : List Nat) (n : Nat) : Prop :=
  ∃ cf cg, w.heap[s]? = some (.cells #[.slice (some ⟨f, 0, none⟩) l.length cf, .slice (some ⟨g, 0, none⟩) m.length cg, .int .i64 (n : Int)] 70) ∧
    Own w base 5 (.slice (some ⟨f, 0, none⟩) l.length cf) l ∧ Own w base 5 (.slice (some ⟨g, 0, none⟩) m.length cg) m ∧ f ≠ g ∧ f ≠ s ∧ g ≠ s ∧ base ≤ s
theorem zero_lent (w : World) : (zeroValue 70).run Try.prog w = .ok (.agg #[.slice none 0 0, .slice none 0 0, .int .i64 0]) w := by kernel_rfl

/-- Block s holds these three cells. -/
def Tri (w : World) (s : Nat) (x0 x1 x2 : Value) : Prop := w.heap[s]? = some (.cells #[x0, x1, x2] 70)
theorem Tri.cell0 {w : World} {s : Nat} {x0 x1 x2 : Value} (h : Tri w s x0 x1 x2) : w.cell? ⟨s, 0, none⟩ = some x0 := by have h' : w.heap[s]? = some (.cells #[x0, x1, x2] 70) := h; simp [World.cell?, h']
theorem Tri.cell1 {w : World} {s : Nat} {x0 x1 x2 : Value} (h : Tri w s x0 x1 x2) : w.cell? ⟨s, 1, none⟩ = some x1 := by have h' : w.heap[s]? = some (.cells #[x0, x1, x2] 70) := h; simp [World.cell?, h']
theorem Tri.cell2 {w : World} {s : Nat} {x0 x1 x2 : Value} (h : Tri w s x0 x1 x2) : w.cell? ⟨s, 2, none⟩ = some x2 := by have h' : w.heap[s]? = some (.cells #[x0, x1, x2] 70) := h; simp [World.cell?, h']
theorem Tri.frozen {w : World} {s : Nat} {x0 x1 x2 : Value} (h : Tri w s x0 x1 x2) (o : Nat) : w.frozen? ⟨s, o, none⟩ = false := by have h' : w.heap[s]? = some (.cells #[x0, x1, x2] 70) := h; simp [World.frozen?, h']
theorem Tri.set0 {w : World} {s : Nat} {x0 x1 x2 : Value} (h : Tri w s x0 x1 x2) (v : Value) : Tri (w.setCell ⟨s, 0, none⟩ v) s v x1 x2 := by
  have h' : w.heap[s]? = some (.cells #[x0, x1, x2] 70) := h
  show (w.setCell ⟨s, 0, none⟩ v).heap[s]? = _
  simp [World.setCell, Array.getElem?_modify, h']
theorem Tri.set1 {w : World} {s : Nat} {x0 x1 x2 : Value} (h : Tri w s x0 x1 x2) (v : Value) : Tri (w.setCell ⟨s, 1, none⟩ v) s x0 v x2 := by
  have h' : w.heap[s]? = some (.cells #[x0, x1, x2] 70) := h
  show (w.setCell ⟨s, 1, none⟩ v).heap[s]? = _
  simp [World.setCell, Array.getElem?_modify, h']
theorem Tri.lt {w : World} {s : Nat} {x0 x1 x2 : Value} (h : Tri w s x0 x1 x2) : s < w.heap.size := (Array.getElem?_eq_some_iff.1 (show w.heap[s]? = some _ from h)).1
theorem Tri.keep {w w' : World} {s : Nat} {x0 x1 x2 : Value} (h : Tri w s x0 x1 x2) (e : w'.heap[s]? = w.heap[s]?) : Tri w' s x0 x1 x2 := e.trans h
theorem Own.setOther {w : World} {base : Nat} {e : TypeId} {v : Value} {l : List Nat} (h : Own w base e v l) {s : Nat} (hs : s < base) (o : Nat) (x : Value) : Own (w.setCell ⟨s, o, none⟩ x) base e v l :=
  h.keep (fun k _ he => Below.heap_setCell _ _ _ _ (by have := (h.block he).1; simp; omega))
theorem Own.slice {w : World} {base : Nat} {e : TypeId} {v : Value} {l : List Nat} (h : Own w base e v l) : ∃ a c, v = .slice a l.length c := by
  rcases h.form with ⟨h1, h2⟩ | ⟨g, c, h1, _⟩
  · exact ⟨none, 0, by rw [h1, h2]; rfl⟩
  · exact ⟨_, c, h1⟩

set_option maxRecDepth 100000 in
set_option maxHeartbeats 2000000 in
theorem lend_any (w : World) (a : Option Addr) (l : List Nat) (cap : Nat) (hno : a = none → l.length = 0 ∧ cap = 0) (hr : Held w (.slice a l.length cap) l) (hlen : l.length ≤ 140737488351232) :
    Calls Try.prog 18 #[.slice a l.length cap] w fun e w' => ∃ s f g, e = .returned (.pointer (some ⟨s, 0, none⟩)) ∧ LentAt w' w.heap.size s f g (l ++ mrk 5) (l ++ mrk 5) l.length ∧ Chg (fun _ => False) w w' := by
  have hi5 := info5
  have hz := zero_lent
  go_enter Try.func18, Try.ntmps18
  go_wp2_with (at_builtin; refine wpList_append_bytes _ rfl _ _ 36 rfl (w.heap.size + 1) 5 Try.underlying36 hi5 _ [] rfl ?h1 a l.length cap l rfl rfl hno ?h2 ?h3 ?h4 (w.heap.size + 1) ?h5 ?_)
  case h1 => exact Own.nil _ _ _
  case h2 =>
    intro ad had j hj
    subst had
    obtain ⟨a', c', hv, h | ⟨g, o, ha, hg, hc⟩⟩ := hr
    · omega
    · simp only [Value.slice.injEq] at hv
      have e := Option.some.inj (hv.1.trans ha)
      subst e
      rw [Addr.add_lit, World.cell?_alloc_past _ _ _ hg]
      exact hc j hj
  case h3 => show 0 + l.length ≤ _; omega
  case h4 => simp
  case h5 => simp
  intro v1 w1 hO1 hg1 _
  have hT1 : Tri w1 w.heap.size (.slice none 0 0) (.slice none 0 0) (.int .i64 (l.length : Int)) := (hg1.block w.heap.size (by simp) (by simp [Value.ownBlock])).trans (by show (w.heap.push _)[w.heap.size]? = _; simp)
  have hC1 : Chg (fun _ => False) w w1 := ((Chg.refl _ w).alloc _).grown hg1 (fun k hk => by cases hk)
  obtain ⟨a1, c1, hv1⟩ := hO1.slice
  rw [hv1] at hO1
  rw [hv1]
  have t0 := hT1.cell0
  have z0 := hT1.frozen 0
  have hT2 := hT1.set0 (.slice a1 l.length c1)
  have hO2 := hO1.setOther (Nat.lt_succ_self _) 0 (.slice a1 l.length c1)
  have hC2 := hC1.setCell (Or.inr (Nat.le_refl _)) 0 (.slice a1 l.length c1)
  clear hg1 hT1 hC1 hO1
  go_wp2
  go_loopw [4] (fun t wr => ∃ (k : Nat) (a' : Option Addr) (c' : Nat), k ≤ 5 ∧ t = .int .i64 k ∧ Tri wr w.heap.size (.slice a' (l.length + k) c') (.slice none 0 0) (.int .i64 (l.length : Int)) ∧
    Own wr (w.heap.size + 1) 5 (.slice a' (l.length + k) c') (l ++ mrk k) ∧ Chg (fun _ => False) w wr) (fun t _ => 5 - (intOf t).toNat)
  case atStart => exact ⟨0, a1, c1, by omega, rfl, hT2, by simpa [mrk] using hO2, hC2⟩
  case round =>
    clear hT2 hO2 hC2 t0 z0
    obtain ⟨k, a', c', hk, rfl, hT, hO, hC⟩ := hrel
    have hsl := hT.lt
    by_cases hk5 : k < 5
    · have t0 := hT.cell0
      have hml : (l ++ mrk k).length = l.length + k := by rw [List.length_append, mrk_length]
      go_wp2_with (at_builtin; refine wpList_append_bytes _ rfl _ _ 36 rfl (w.heap.size + 1) 5 Try.underlying36 hi5 _ (l ++ mrk k) rfl ?h1 (some ⟨wr.heap.size, 0, none⟩) 1 1 [70 + k] rfl rfl (by simp) ?h2 ?h3 ?h4 (wr.heap.size + 1) ?h5 ?_)
      case h1 => exact hO.keep (fun k hk _ => Below.heap_alloc _ _ _ hk)
      case h2 =>
        intro ad had j hj
        have e := Option.some.inj had
        subst e
        have e : j = 0 := by omega
        subst e
        rw [Addr.add_lit]
        simp
      case h3 => rw [hml]; omega
      case h4 => simp; omega
      case h5 => simp
      intro v2 w2 hO2 hg2 _
      have hrow : ∀ j, (Value.slice a' (l.length + k) c').ownBlock = some j → w.heap.size + 1 ≤ j := fun j hj => (hO.block hj).1
      have hT2 : Tri w2 w.heap.size (.slice a' (l.length + k) c') (.slice none 0 0) (.int .i64 (l.length : Int)) :=
        hT.keep ((hg2.block w.heap.size (by simp; omega) (fun e => by have := hrow _ e.symm; omega)).trans (Below.heap_alloc _ _ _ hsl))
      have hC2 : Chg (fun _ => False) w w2 := (hC.alloc _).grown hg2 (fun j hj => Or.inr (by have := hrow j hj; omega))
      have hO3 : Own w2 (w.heap.size + 1) 5 v2 (l ++ mrk (k + 1)) := by rw [mrk_succ]; exact hO2
      obtain ⟨a2, c2, hv2⟩ := hO3.slice
      rw [List.length_append, mrk_length] at hv2
      rw [hv2] at hO3
      rw [hv2]
      have t2 := hT2.cell0
      have z2 := hT2.frozen 0
      have hT4 := hT2.set0 (.slice a2 (l.length + (k + 1)) c2)
      have hO4 := hO3.setOther (Nat.lt_succ_self _) 0 (.slice a2 (l.length + (k + 1)) c2)
      have hC4 := hC2.setCell (Or.inr (Nat.le_refl _)) 0 (.slice a2 (l.length + (k + 1)) c2)
      clear hO2 hg2 hT2 hC2 hO3 hT hO hC t0 hrow
      go_wp2
      exact ⟨⟨k + 1, a2, c2, by omega, by go_num, hT4, hO4, hC4⟩, by simp [intOf]; omega⟩
    · have e : k = 5 := by omega
      subst e
      have hml : (l ++ mrk 5).length = l.length + 5 := by rw [List.length_append, mrk_length]
      obtain ⟨f, cf, hv, hf1, hf2, _, hfc, _⟩ := hO.lies (by omega)
      rw [hml] at hv
      simp only [Value.slice.injEq] at hv
      obtain ⟨rfl, _, rfl⟩ := hv
      obtain ⟨i0, q1, q2, q3, q4⟩ := info5
      have t0 := hT.cell0
      have t1 := hT.cell1
      have z1 := hT.frozen 1
      have hnw : ∀ j u, ((l ++ mrk 5).map byt)[j]? = some u → wr.cell? ⟨f, j, none⟩ = some u := by
        intro j u hu
        have hj : j < (l ++ mrk 5).length := by
          have := (List.getElem?_eq_some_iff.1 hu).1
          rw [List.length_map] at this; exact this
        rw [hfc j hj]
        rw [List.getElem?_map, List.getElem?_eq_getElem hj] at hu
        rw [List.getD_eq_getElem?_getD, List.getElem?_eq_getElem hj]
        exact hu
      have hnl : ((l ++ mrk 5).map byt).length = (l.length + 5) * 1 := by rw [List.length_map, hml, Nat.mul_one]
      have HNW : Hid (∀ j u, ((l ++ mrk 5).map byt)[j]? = some u → wr.cell? ⟨f, j, none⟩ = some u) := hnw
      clear hnw hfc
      go_wp2
      go_region_law ((refine step_append_lies _ (by rfl) _ _ 36 (by rfl) (w.heap.size + 1) 5 i0 (.int .u8 0) 1 1 Try.underlying36 q1 q2 q3 q4 rfl (by decide) (.slice none 0 0) 0 [] (by rfl) ⟨rfl, Or.inl ⟨rfl, rfl⟩⟩ ⟨f, 0, none⟩ (l.length + 5) c' ((l ++ mrk 5).map byt) (by rfl) hnl (fun j u hu => (by rw [Addr.add_lit, Nat.zero_add]; exact HNW.out j u hu)) (byt_one _) (by omega) (by unfold maxLen; omega) (by omega) (by exact hsl) wr.heap.size rfl ?_; intro g cg w2 hO2 hg2 hat hlt; have hT2 : Tri w2 w.heap.size (.slice (some ⟨f, 0, none⟩) (l.length + 5) c') (.slice none 0 0) (.int .i64 (l.length : Int)) := hT.keep (hg2.block w.heap.size hsl (by simp [Value.ownBlock])); have t3 := hT2.cell1; have z3 := hT2.frozen 1))
      all_goals
        have hgw : g = wr.heap.size := by
          rcases hat with h | h
          · cases h
          · exact h
        have hOf : Own w2 (w.heap.size + 1) 5 (.slice (some ⟨f, 0, none⟩) (l.length + 5) c') (l ++ mrk 5) := hO.keep (fun k hk _ => hg2.block k hk (by simp [Value.ownBlock]))
        have hOg : Own w2 (w.heap.size + 1) 5 (.slice (some ⟨g, 0, none⟩) (l.length + 5) cg) (l ++ mrk 5) := by
          unfold Own
          rw [hml]
          rw [Nat.zero_add, List.nil_append] at hO2
          exact hO2
        have hT3 := hT2.set1 (.slice (some ⟨g, 0, none⟩) (l.length + 5) cg)
        have hOf3 := hOf.setOther (Nat.lt_succ_self _) 1 (.slice (some ⟨g, 0, none⟩) (l.length + 5) cg)
        have hOg3 := hOg.setOther (Nat.lt_succ_self _) 1 (.slice (some ⟨g, 0, none⟩) (l.length + 5) cg)
        have hC3 : Chg (fun _ => False) w (w2.setCell ⟨w.heap.size, 1, none⟩ (.slice (some ⟨g, 0, none⟩) (l.length + 5) cg)) := (hC.drew.grown hg2 (fun j hj => by cases hj)).setCell (Or.inr (Nat.le_refl _)) 1 _
        have hL3 : LentAt (w2.setCell ⟨w.heap.size, 1, none⟩ (.slice (some ⟨g, 0, none⟩) (l.length + 5) cg)) w.heap.size w.heap.size f g (l ++ mrk 5) (l ++ mrk 5) l.length := by
          refine ⟨c', cg, ?_, ?_, ?_, by omega, by omega, by omega, Nat.le_refl _⟩
          · rw [hml]; exact hT3
          · rw [hml]; exact hOf3.mono (fun k hk => by have := (hOf3.block hk).1; omega)
          · rw [hml]; exact hOg3.mono (fun k hk => by have := (hOg3.block hk).1; omega)
        clear hOf hOg hT3 hOf3 hOg3 hO2 hg2 hat hT2 t3 z3 hO hT hC t0 t1 z1 HNW hnl q1 q2 q3 q4
        go_wp2
        go_ret
        exact ⟨_, _, _, rfl, hL3, hC3⟩
end Go.Proofs.Ythpjdnfalecbeaa
