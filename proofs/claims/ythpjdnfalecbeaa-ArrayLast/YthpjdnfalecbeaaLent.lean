/-
  A Lent, asked: its bytes; is it as it was; its owner writes over it. Condition: it is a Lent.
-/
import Derived.Test.YthpjdnfalecbeaaLend
namespace Go.Proofs.Ythpjdnfalecbeaa
set_option maxRecDepth 100000
open Go.RowKit

theorem hid {p : Prop} (h : p) : Hid p := h
theorem LentAt.chg {S : Nat → Prop} {w w' : World} {base s f g n : Nat} {l m : List Nat} (h : LentAt w base s f g l m n) (hc : Chg S w w') (hs : ¬ S s) (hf : ¬ S f) (hg : ¬ S g) : LentAt w' base s f g l m n := by
  obtain ⟨cf, cg, h1, h2, h3, r⟩ := h
  have hlt : s < w.heap.size := (Array.getElem?_eq_some_iff.1 h1).1
  exact ⟨cf, cg, (hc.block s hlt hs).trans h1, h2.chg hc (fun k _ he => by have := Option.some.inj he; subst this; exact hf), h3.chg hc (fun k _ he => by have := Option.some.inj he; subst this; exact hg), r⟩
theorem LentAt.lts {w : World} {base s f g n : Nat} {l m : List Nat} (h : LentAt w base s f g l m n) : base ≤ s ∧ base ≤ f ∧ base ≤ g ∧ s < w.heap.size ∧ f < w.heap.size ∧ g < w.heap.size := by
  obtain ⟨cf, cg, h1, h2, h3, _, _, _, hb⟩ := h
  have hlt : s < w.heap.size := (Array.getElem?_eq_some_iff.1 h1).1
  have e1 := h2.block (k := f) rfl
  have e2 := h3.block (k := g) rfl
  omega

set_option maxRecDepth 100000 in
set_option maxHeartbeats 1000000 in
theorem bytes_any (w : World) (base s f g n : Nat) (l m : List Nat) (h : LentAt w base s f g l m n) (hn : n ≤ l.length) (h0 : l.length ≠ 0) (hl : l.length ≤ 9223372036854775807) :
    Calls Try.prog 19 #[.pointer (some ⟨s, 0, none⟩)] w fun e w' => ∃ cf, e = .returned (.slice (some ⟨f, 0, none⟩) n cf) ∧ Held w (.slice (some ⟨f, 0, none⟩) n cf) (l.take n) ∧ n ≤ cf ∧ Chg (fun _ => False) w w' := by
  obtain ⟨cf, cg, h1, h2, h3, _⟩ := h
  have hT : Tri w s _ _ _ := h1
  have t0 := hT.cell0
  have t2 := hT.cell2
  obtain ⟨g', cap', hv, _, hgs, hcap, hc, _⟩ := h2.lies h0
  simp only [Value.slice.injEq, Option.some.injEq, Addr.mk.injEq] at hv
  obtain ⟨⟨rfl, -, -⟩, -, rfl⟩ := hv
  have hH : Held w (.slice (some ⟨f, 0, none⟩) n cf) (l.take n) := by
    have e : (l.take n).length = n := by rw [List.length_take]; omega
    refine ⟨_, cf, by rw [e], ?_⟩
    by_cases hn0 : n = 0
    · exact Or.inl (by omega)
    · refine Or.inr ⟨f, 0, rfl, hgs, fun i hi => ?_⟩
      rw [Nat.zero_add, hc i (by omega), List.getD_eq_getElem?_getD, List.getD_eq_getElem?_getD, List.getElem?_take_of_lt (by omega)]
  have hb1 : (0 : Int) ≤ (n : Int) := by omega
  have hb2 : (n : Int) ≤ (cf : Int) := by omega
  clear h1 h2 h3 hT hc
  go_enter Try.func19, Try.ntmps19
  go_wp2
  go_region
  go_wp2
  go_ret
  exact ⟨cf, rfl, hH, by omega, (Chg.refl _ _).drew⟩

set_option maxRecDepth 100000 in
set_option maxHeartbeats 1000000 in
theorem kept_any (w : World) (base s f g n : Nat) (l m : List Nat) (h : LentAt w base s f g l m n) (hl : l.length ≤ 9223372036854775807) (hm : m.length ≤ 9223372036854775807) :
    Calls Try.prog 20 #[.pointer (some ⟨s, 0, none⟩)] w fun e w' => e = .returned (.bool (decide (l = m))) ∧ Chg (fun _ => False) w w' := by
  obtain ⟨cf, cg, h1, h2, h3, _⟩ := h
  have hT : Tri w s _ _ _ := h1
  have t0 := hT.cell0
  have t1 := hT.cell1
  have hh2 := h2.held
  have hh3 := h3.held
  clear h1 h2 h3 hT
  go_enter Try.func20, Try.ntmps20
  go_wp2
  go_region_with (go_at_call 9; refine (same_any _ (some ⟨f, 0, none⟩) (some ⟨g, 0, none⟩) cf cg l m ?_ ?_ hl hm).mono ?_; (exact hh2); (exact hh3); rintro e w' ⟨rfl, hC⟩)
  all_goals
    go_wp2
    go_ret
    exact ⟨rfl, ((Chg.refl _ w).drew).trans hC⟩

/-- What a list is written over with. -/
def trn (k : Nat) : List Nat := (List.range k).map (fun i => (90 + i) % 256)
theorem trn_length (k : Nat) : (trn k).length = k := by simp [trn]
theorem trn_succ (k : Nat) : trn (k + 1) = trn k ++ [(90 + k) % 256] := by simp [trn, List.range_succ]
def ovt (l : List Nat) (k : Nat) : List Nat := trn k ++ l.drop k
theorem ovt_zero (l : List Nat) : ovt l 0 = l := by simp [ovt, trn]
theorem ovt_length (l : List Nat) (k : Nat) (h : k ≤ l.length) : (ovt l k).length = l.length := by simp [ovt, trn_length]; omega
theorem ovt_full (l : List Nat) : ovt l l.length = trn l.length := by simp [ovt]
theorem ovt_set (l : List Nat) (k : Nat) (h : k < l.length) : (ovt l k).set k ((90 + k) % 256) = ovt l (k + 1) := by
  unfold ovt
  rw [List.set_append_right _ _ (by rw [trn_length]; omega), trn_length, Nat.sub_self, trn_succ, List.append_assoc]
  congr 1
  rw [List.drop_eq_getElem_cons h]
  rfl
theorem Own.setFar {w : World} {base : Nat} {e : TypeId} {f n c : Nat} {l : List Nat} (h : Own w base e (.slice (some ⟨f, 0, none⟩) n c) l) {s : Nat} (hs : f ≠ s) (o : Nat) (x : Value) : Own (w.setCell ⟨s, o, none⟩ x) base e (.slice (some ⟨f, 0, none⟩) n c) l :=
  h.keep (fun k _ he => Below.heap_setCell _ _ _ _ (by have := Option.some.inj he; simp only at this ⊢; omega))
theorem Tri.setFar {w : World} {s : Nat} {x0 x1 x2 : Value} (h : Tri w s x0 x1 x2) {b : Nat} (hb : s ≠ b) (o : Nat) (x : Value) : Tri (w.setCell ⟨b, o, none⟩ x) s x0 x1 x2 :=
  h.keep (Below.heap_setCell _ _ _ _ (by simp only; omega))

set_option maxRecDepth 100000 in
set_option maxHeartbeats 2000000 in
theorem turn_any (w : World) (base s f g n : Nat) (l m : List Nat) (h : LentAt w base s f g l m n) (hlm : l.length = m.length) (hl : l.length ≤ 140737488355328) :
    Calls Try.prog 21 #[.pointer (some ⟨s, 0, none⟩)] w fun e w' => e = .returned (.tuple #[]) ∧ LentAt w' base s f g (trn l.length) (trn l.length) n ∧ Chg (fun k => k = f ∨ k = g) w w' := by
  obtain ⟨cf, cg, h1, h2, h3, hfg, hfs, hgs, hbs⟩ := h
  have hT : Tri w s (.slice (some ⟨f, 0, none⟩) l.length cf) (.slice (some ⟨g, 0, none⟩) l.length cg) (.int .i64 (n : Int)) := by rw [hlm] at h1 ⊢; exact h1
  have hf : Own w base 5 (.slice (some ⟨f, 0, none⟩) l.length cf) l := h2
  have hg : Own w base 5 (.slice (some ⟨g, 0, none⟩) l.length cg) m := by rw [hlm]; exact h3
  have HLM : Hid (l.length = m.length) := hlm
  clear h1 h2 h3 hlm
  go_enter Try.func21, Try.ntmps21
  go_wp2
  go_loopw [2] (fun t wr => ∃ k : Nat, k ≤ l.length ∧ t = .int .i64 k ∧ Tri wr s (.slice (some ⟨f, 0, none⟩) l.length cf) (.slice (some ⟨g, 0, none⟩) l.length cg) (.int .i64 (n : Int)) ∧
    Own wr base 5 (.slice (some ⟨f, 0, none⟩) l.length cf) (ovt l k) ∧ Own wr base 5 (.slice (some ⟨g, 0, none⟩) l.length cg) (ovt m k) ∧ Chg (fun k => k = f ∨ k = g) w wr) (fun t _ => l.length - (intOf t).toNat)
  case atStart => exact ⟨0, by omega, rfl, hT, by rw [ovt_zero]; exact hf, by rw [ovt_zero]; exact hg, Chg.refl _ _⟩
  case round =>
    clear hT hf hg
    obtain ⟨k, hk, rfl, hT, hf, hg, hC⟩ := hrel
    have t0 := hT.cell0
    have t1 := hT.cell1
    by_cases hlt : k < l.length
    · have e1 := ovt_length l k hk
      have e2 := ovt_length m k (by have := HLM.out; omega)
      obtain ⟨g', cap', hv, _, _, _, hc, hz⟩ := hf.lies (by omega)
      simp only [Value.slice.injEq, Option.some.injEq, Addr.mk.injEq] at hv
      obtain ⟨⟨rfl, -, -⟩, -, rfl⟩ := hv
      obtain ⟨g2, cap2, hv2, _, _, _, hc2, hz2⟩ := hg.lies (by have := HLM.out; omega)
      simp only [Value.slice.injEq, Option.some.injEq, Addr.mk.injEq] at hv2
      obtain ⟨⟨rfl, -, -⟩, -, rfl⟩ := hv2
      have hck := hc k (by omega)
      have hzk := hz k
      generalize (ovt l k).getD k 0 = y1 at hck
      have hf2 : Own (wr.setCell ⟨f, k, none⟩ (.int .u8 (((90 + k) % 256 : Nat) : Int))) base 5 (.slice (some ⟨f, 0, none⟩) l.length cf) (ovt l (k + 1)) := by
        rw [← ovt_set l k hlt]; exact hf.store k _ (by omega)
      have hg2 := hg.setFar (s := f) (by omega) k (.int .u8 (((90 + k) % 256 : Nat) : Int))
      have hT2 := hT.setFar (b := f) (by omega) k (.int .u8 (((90 + k) % 256 : Nat) : Int))
      have hC2 := hC.setCell (g := f) (Or.inl (Or.inl rfl)) k (.int .u8 (((90 + k) % 256 : Nat) : Int))
      have ek : (((90 + k) % 256 : Nat) : Int) = (90 + (k : Int)) % 256 := by omega
      rw [ek] at hf2 hg2 hT2 hC2
      have HEK : Hid ((((90 + k) % 256 : Nat) : Int) = (90 + (k : Int)) % 256) := ek
      have HF2 := hid hf2
      have HG2 := hid hg2
      have HT2 := hid hT2
      have HC2 := hid hC2
      have t3 := hT2.cell0
      have t4 := hT2.cell1
      have c5 : (wr.setCell ⟨f, k, none⟩ (.int .u8 ((90 + (k : Int)) % 256))).cell? ⟨f, k, none⟩ = some (.int .u8 ((90 + (k : Int)) % 256)) := World.cell?_setCell_same _ _ _ hck
      obtain ⟨g3, cap3, hv3, _, _, _, hc3, hz3⟩ := hg2.lies (by have := HLM.out; omega)
      simp only [Value.slice.injEq, Option.some.injEq, Addr.mk.injEq] at hv3
      obtain ⟨⟨rfl, -, -⟩, -, rfl⟩ := hv3
      have c6 := hc3 k (by have := HLM.out; omega)
      have z6 := hz3 k
      generalize (ovt m k).getD k 0 = y2 at c6
      clear hc hz hc2 hz2 ek hf2 hg2 hT2 hC2 hf hg hT hC e1 e2 hc3 hz3
      go_wp2
      generalize wr.setCell ⟨f, k, none⟩ (.int .u8 ((90 + (k : Int)) % 256)) = wA at *
      have hg4 : Own (wA.setCell ⟨g, k, none⟩ (.int .u8 ((90 + (k : Int)) % 256))) base 5 (.slice (some ⟨g, 0, none⟩) l.length cg) (ovt m (k + 1)) := by
        rw [← ovt_set m k (by have := HLM.out; omega), ← HEK.out]; exact HG2.out.store k _ (by rw [ovt_length m k (by have := HLM.out; omega)]; have := HLM.out; omega)
      have hf4 := HF2.out.setFar (s := g) (by omega) k (.int .u8 ((90 + (k : Int)) % 256))
      have hT4 := HT2.out.setFar (b := g) (by omega) k (.int .u8 ((90 + (k : Int)) % 256))
      have hC4 := HC2.out.setCell (g := g) (Or.inl (Or.inr rfl)) k (.int .u8 ((90 + (k : Int)) % 256))
      have HG4 := hid hg4
      have HF4 := hid hf4
      have HT4 := hid hT4
      have HC4 := hid hC4
      clear hg4 hf4 hT4 hC4 HG2 HF2 HT2 HC2 t0 t1 hck hzk
      go_region
      go_wp2
      exact ⟨⟨k + 1, by omega, by go_num, HT4.out, HF4.out, HG4.out, HC4.out.drew⟩, by simp [intOf]; omega⟩
    · have e : k = l.length := by omega
      have hL : LentAt wr base s f g (trn l.length) (trn l.length) n := by
        refine ⟨cf, cg, ?_, ?_, ?_, hfg, hfs, hgs, hbs⟩
        · rw [trn_length]; exact hT
        · rw [trn_length, ← ovt_full l, ← e]; rw [e] at hf ⊢; exact hf
        · rw [trn_length, HLM.out, ← ovt_full m, ← HLM.out]; rw [e] at hg; exact hg
      have HC4 := hid hC
      have HL4 := hid hL
      have hn : ¬ (k : Int) < (l.length : Int) := by omega
      clear e hf hg hT hC t1 hL
      go_wp2
      go_end0
      exact ⟨rfl, HL4.out, HC4.out⟩
end Go.Proofs.Ythpjdnfalecbeaa
