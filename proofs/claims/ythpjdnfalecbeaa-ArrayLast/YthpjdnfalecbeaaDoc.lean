/-
  The document's array in memory, and its functions. Conditions: it is one.
-/
import Derived.Test.YthpjdnfalecbeaaDif
import Derived.Deep.RegionHeld3
import Derived.Deep.RegionLaw
import Derived.Deep.AppendLies
namespace Go.Proofs.Ythpjdnfalecbeaa
open Go.RowKit
set_option maxRecDepth 100000
theorem ownsRow_chg {S : Nat → Prop} {w w' : World} {base : Nat} {e : TypeId} {size : Nat} {v : Value} {n : Nat} {xs : List Value} (h : w.ownsRow base e size v n xs) (hc : Chg S w w') (hs : ∀ k, v.ownBlock = some k → ¬ S k) : w'.ownsRow base e size v n xs := by
  refine ⟨h.1, ?_⟩
  rcases h.2 with h1 | ⟨g, cap, cur, rfl, hb, hh, r⟩
  · exact Or.inl h1
  · exact Or.inr ⟨g, cap, cur, rfl, hb, (hc.block g (Array.getElem?_eq_some_iff.1 hh).1 (hs g rfl)).trans hh, r⟩
theorem cells_new (w : World) (l : List Value) (t : TypeId) : ∀ j u, l[j]? = some u → (w.alloc (.cells l.toArray t)).cell? ((⟨w.heap.size, 0, none⟩ : Addr).add j) = some u := by
  intro j u hu
  rw [Addr.add_mid, Nat.zero_add, cell_of_row _ _ _ _ _ _ (heap_alloc_new w (.cells l.toArray t))]
  simpa using hu
theorem Chg.r1 {r : Nat} (w : World) (o : Nat) (v : Value) : Chg (· = r) w (w.setCell ⟨r, o, none⟩ v) := (Chg.refl (· = r) w).setCell (Or.inl rfl) o v
def grow (F : Nat → Prop) (w w' : World) : Nat → Prop := fun k => F k ∨ (w.heap.size ≤ k ∧ k < w'.heap.size)
/-- Where the document's array lies. -/
structure Plc where
  gB : Nat
  cB : Nat
  g : Nat → Nat
  c : Nat → Nat
def sl (p : Plc) (i : Nat) : Value := .slice (some ⟨p.g i, 0, none⟩) 160 (p.c i)
structure RAt (w : World) (r : Nat) (s : Nat → List Nat) (F : Nat → Prop) (p : Plc) : Prop where
  top : Row w r 56 1 (fun _ => .slice (some ⟨p.gB, 0, none⟩) 24 p.cB)
  bl : Row w p.gB 36 24 (sl p)
  by_ : ∀ i, i < 24 → By w (p.g i) (s i)
  fr : F r
  fb : F p.gB
  fl : ∀ i, i < 24 → F (p.g i)
def RefAt (w : World) (r : Nat) (s : Nat → List Nat) (F : Nat → Prop) : Prop := ∃ p, RAt w r s F p
theorem RAt.chg {S : Nat → Prop} {w w' : World} {r : Nat} {s : Nat → List Nat} {F : Nat → Prop} {p : Plc} (h : RAt w r s F p) (hc : Chg S w w') (hd : ∀ k, F k → ¬ S k) : RAt w' r s F p :=
  ⟨h.top.chg hc (hd _ h.fr), h.bl.chg hc (hd _ h.fb), fun i hi => Row.chg (h.by_ i hi) hc (hd _ (h.fl i hi)), h.fr, h.fb, h.fl⟩
theorem RefAt.chg {S : Nat → Prop} {w w' : World} {r : Nat} {s : Nat → List Nat} {F : Nat → Prop} (h : RefAt w r s F) (hc : Chg S w w') (hd : ∀ k, F k → ¬ S k) : RefAt w' r s F := by
  obtain ⟨p, h⟩ := h
  exact ⟨p, h.chg hc hd⟩
theorem RefAt.mono' {w : World} {r : Nat} {s : Nat → List Nat} {F F' : Nat → Prop} (h : RefAt w r s F) (hF : ∀ k, k < w.heap.size → F k → F' k) : RefAt w r s F' := by
  obtain ⟨p, h⟩ := h
  exact ⟨p, h.top, h.bl, h.by_, hF _ h.top.lt h.fr, hF _ h.bl.lt h.fb, fun i hi => hF _ (Row.lt (h.by_ i hi)) (h.fl i hi)⟩
/-- A new sector is laid in place of one, whatever stood there. -/
theorem RAt.put {w w1 : World} {r : Nat} {s : Nat → List Nat} {F : Nat → Prop} {p : Plc} (h : RAt w r s F p) (b q cap : Nat) (hG : Chg (fun k => k = p.gB) w w1) (f : Nat → Value) (bl : Row w1 p.gB 36 24 f) (hf : ∀ i, i < 24 → i ≠ b → f i = sl p i)
    (l : List Nat) (hq : By w1 q l) (hq2 : w.heap.size ≤ q) :
    RefAt (w1.setCell ⟨p.gB, b, none⟩ (.slice (some ⟨q, 0, none⟩) 160 cap)) r (setS s b l) (grow F w (w1.setCell ⟨p.gB, b, none⟩ (.slice (some ⟨q, 0, none⟩) 160 cap))) ∧ Chg F w (w1.setCell ⟨p.gB, b, none⟩ (.slice (some ⟨q, 0, none⟩) 160 cap)) := by
  have hc := Chg.r1 (r := p.gB) w1 b (.slice (some ⟨q, 0, none⟩) 160 cap)
  have hsz := hc.size
  have hql : q < w1.heap.size := Row.lt hq
  have hby : ∀ i, i < 24 → By w1 (p.g i) (s i) := fun i hi => Row.chg (h.by_ i hi) hG (fun e2 => by exact Row.ne (h.by_ i hi) h.bl (by decide) e2)
  refine ⟨⟨{ p with g := fun i => if i = b then q else p.g i, c := fun i => if i = b then cap else p.c i }, (h.top.chg hG (fun e => ?_)).chg hc (fun e => ?_), (bl.setCell b _).ext fun i hi => ?_, fun i hi => ?_, Or.inl h.fr, Or.inl h.fb, fun i hi => ?_⟩, (hG.mono (fun k _ e => by rw [e]; exact h.fb)).trans (hc.mono (fun k _ e => by rw [e]; exact h.fb))⟩
  · exact Row.ne h.top h.bl (by decide) e
  · exact Row.ne h.top h.bl (by decide) e
  · rw [upL_one]
    unfold sl
    by_cases e : i = b
    · simp only [if_pos e]
    · simp only [if_neg e]; exact hf i hi e
  · show By _ (if i = b then q else p.g i) (setS s b l i)
    unfold setS
    by_cases e : i = b
    · rw [if_pos e, if_pos e]
      exact Row.chg hq hc (fun e2 => by exact Row.ne hq bl (by decide) e2)
    · rw [if_neg e, if_neg e]
      exact Row.chg (hby i hi) hc (fun e2 => by exact Row.ne (hby i hi) bl (by decide) e2)
  · show grow F w _ (if i = b then q else p.g i)
    split
    · exact Or.inr ⟨hq2, by omega⟩
    · exact Or.inl (h.fl i hi)
theorem noughts_any (w : World) : Calls Try.prog 17 #[] w fun e w' => e = .returned (.slice (some ⟨w.heap.size, 0, none⟩) 160 160) ∧ By w' w.heap.size z160 ∧ Chg (fun _ => False) w w' ∧ w'.heap.size = w.heap.size + 1 := by
  have hm := make_bytes w 160 160 rfl (by decide)
  have HA : Hid (By (w.alloc (.cells (bcells (List.replicate 160 0)) 5)) w.heap.size z160) := Arr.by (Arr.new w 5 z160)
  have HC : Hid (Chg (fun _ => False) w (w.alloc (.cells (bcells (List.replicate 160 0)) 5))) := (Chg.refl _ _).alloc _
  have HZ : Hid ((w.alloc (.cells (bcells (List.replicate 160 0)) 5)).heap.size = w.heap.size + 1) := by show _ = _; simp
  generalize w.alloc (.cells (bcells (List.replicate 160 0)) 5) = w1 at *
  go_enter Try.func17, Try.ntmps17
  go_wp2
  go_ret
  exact ⟨rfl, HA.out, HC.out, HZ.out⟩
theorem rread_yes (r b : Nat) (s : Nat → List Nat) (hs : Okr s) (hb : b < 24) (F : Nat → Prop) (w : World) (h : RefAt w r s F) :
    Calls Try.prog 24 #[.pointer (some ⟨r, 0, none⟩), .int .i64 b] w fun e w' => ∃ v, e = .returned (.tuple #[v, .int .i64 0]) ∧ Own w' w.heap.size 5 v (s b) ∧ Chg (fun _ => False) w w' := by
  obtain ⟨p, h⟩ := h
  have h1 : ¬ ((b : Int) < 0) := by omega
  have h2 : ¬ ((24 : Int) ≤ b) := by omega
  have h3 : (b : Int) < 24 := by omega
  have h4 : (0 : Int) ≤ b := by omega
  have c1 := h.top.cell 0 (by decide)
  have c2 := h.bl.cell b hb
  simp only [sl] at c2
  have HY := hyd (h.by_ b hb)
  have HL := hyd (hs.len b)
  have hi5 := info5
  clear h hs
  generalize p.gB = gB at *
  generalize p.cB = cB at *
  generalize p.g b = q at *
  generalize p.c b = cq at *
  go_enter Try.func24, Try.ntmps24
  go_wp2_with (at_builtin; refine wpList_append_bytes _ rfl _ _ 36 rfl w.heap.size 5 Try.underlying36 hi5 _ [] rfl (Own.nil _ _ _) (some ⟨q, 0, none⟩) 160 cq (s b) rfl HL.out ?h1 ?h2 ?h3 ?h4 w.heap.size ?h5 ?_)
  case h2 =>
    intro j hj
    rw [← List.getD_eq_getElem?_getD]
    exact HY.out.cell j (by have := HL.out; omega)
  case h5 => rfl
  intro v3 w3 O3 g3 _
  have HB3 := hyd O3
  have HC3 : Hid (Chg (fun _ => False) w w3) := (Chg.refl _ w).grown g3 (fun k hk => by cases hk)
  clear O3 g3
  go_wp2
  go_ret2
  exact ⟨v3, rfl, HB3.out, HC3.out⟩
theorem rread_no (r : Nat) (k : Int) (hk : ¬ (0 ≤ k ∧ k < 24)) (w : World) :
    Calls Try.prog 24 #[.pointer (some ⟨r, 0, none⟩), .int .i64 k] w fun e w' => e = .returned (.tuple #[.slice none 0 0, .int .i64 1]) ∧ w' = w := by
  by_cases h1 : k < 0
  · go_enter Try.func24, Try.ntmps24
    go_wp2
    go_ret2
    exact ⟨rfl, rfl⟩
  · have h2 : 24 ≤ k := by omega
    go_enter Try.func24, Try.ntmps24
    go_wp2
    go_ret2
    exact ⟨rfl, rfl⟩
theorem rtrim_no (r : Nat) (k : Int) (hk : ¬ (0 ≤ k ∧ k < 24)) (w : World) :
    Calls Try.prog 25 #[.pointer (some ⟨r, 0, none⟩), .int .i64 k] w fun e w' => e = .returned (.int .i64 1) ∧ w' = w := by
  by_cases h1 : k < 0
  · go_enter Try.func25, Try.ntmps25
    go_wp2
    go_ret
    exact ⟨rfl, rfl⟩
  · have h2 : 24 ≤ k := by omega
    go_enter Try.func25, Try.ntmps25
    go_wp2
    go_ret
    exact ⟨rfl, rfl⟩
theorem rwrite_no (r : Nat) (k : Int) (a : Option Addr) (n cap : Nat) (hk : ¬ (0 ≤ k ∧ k < 24) ∨ n ≠ 160) (w : World) :
    Calls Try.prog 23 #[.pointer (some ⟨r, 0, none⟩), .int .i64 k, .slice a n cap] w fun e w' => e = .returned (.int .i64 1) ∧ w' = w := by
  by_cases h1 : k < 0
  · clear hk
    go_enter Try.func23, Try.ntmps23
    go_wp2
    go_ret
    exact ⟨rfl, rfl⟩
  · by_cases h2 : 24 ≤ k
    · clear hk
      go_enter Try.func23, Try.ntmps23
      go_wp2
      go_ret
      exact ⟨rfl, rfl⟩
    · have hn : n ≠ 160 := by rcases hk with hk | hk; exact absurd ⟨by omega, by omega⟩ hk; exact hk
      have h5 : ¬ ((n : Int) = 160) := by omega
      clear hk hn
      go_enter Try.func23, Try.ntmps23
      go_wp2
      go_ret
      exact ⟨rfl, rfl⟩
theorem rtrim_yes (r b : Nat) (s : Nat → List Nat) (hb : b < 24) (F : Nat → Prop) (w : World) (h : RefAt w r s F) :
    Calls Try.prog 25 #[.pointer (some ⟨r, 0, none⟩), .int .i64 b] w fun e w' => e = .returned (.int .i64 0) ∧ RefAt w' r (setS s b z160) (grow F w w') ∧ Chg F w w' := by
  obtain ⟨p, h⟩ := h
  have h1 : ¬ ((b : Int) < 0) := by omega
  have h2 : ¬ ((24 : Int) ≤ b) := by omega
  have h3 : (b : Int) < 24 := by omega
  have h4 : (0 : Int) ≤ b := by omega
  have c1 := h.top.cell 0 (by decide)
  have HH := hyd h
  clear h
  generalize hB : p.gB = gB at *
  have HB := hyd hB
  generalize p.cB = cB at *
  clear hB
  go_enter Try.func25, Try.ntmps25
  go_wp2_with fail
  go_region_with (go_at_call 17; refine (noughts_any _).mono ?_; rintro e w1 ⟨rfl, hy, hg, hz⟩; have HY := hyd hy; have HG : Hid (Chg (fun _ => False) w w1) := (Chg.refl _ w).drew.trans hg; have HZ := hyd hz; clear hy hg hz; have c1' := (HH.out.chg HG.out (fun _ _ f => f)).top.cell 0 (by decide); have c2 := (HH.out.chg HG.out (fun _ _ f => f)).bl.cell b hb; have f2 := (HH.out.chg HG.out (fun _ _ f => f)).bl.frozen b; rw [HB.out] at c1' c2 f2)
  all_goals
    have HR := hyd (HH.out.put (w1 := w1) b w.heap.size 160 (HG.out.mono (fun _ _ f => f.elim)) (sl p) (HH.out.chg HG.out (fun _ _ f => f)).bl (fun _ _ _ => rfl) z160 HY.out (Nat.le_refl _))
    rw [HB.out] at HR
    clear HY HG HZ HH HB c1' c2 f2
    go_wp2
    go_ret
    exact ⟨rfl, HR.out.1, HR.out.2⟩
end Go.Proofs.Ythpjdnfalecbeaa
