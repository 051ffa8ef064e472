/-
  Tags: which may be; tag's inBounds, fits and Check, and the document's May. No condition. A tag that came in, by value. No condition.
-/
import Derived.Test.YtifjmilegogbaaaGreatUWire
import Derived.Laws.ByValue
import Derived.Laws.Build
import Derived.Laws.ResultCell
import Derived.Laws.StructEq
import Derived.WideShapes
import Derived.ChangeArms
import Derived.OpenShut
import Derived.ProofKit
namespace Go.Proofs.YtifjmilegogbaaaGreat
open Go.RowKit
set_option maxRecDepth 100000

/-- Each field by itself may be. -/
def Inb (p o s c : Int) : Prop := (0 ≤ p ∧ p < 96) ∧ (0 ≤ o ∧ o ≤ 24) ∧ (1 ≤ s ∧ s ≤ 1099511627775) ∧ 0 ≤ c ∧ c ≤ 255
/-- The fields may stand beside one another. -/
def Fit (p o : Int) (l : Bool) : Prop := (o = 24 ∧ l = false) ∨ (o ≠ 24 ∧ p % 8 < 6)
/-- The tag may be. -/
def May (p o s c : Int) (l : Bool) : Prop := Inb p o s c ∧ Fit p o l
/-- Block b holds a tag. -/
def Tg (w : World) (b : Nat) (p o s c : Int) (l : Bool) : Prop := w.heap[b]? = some (.cells #[.int .i64 p, .int .i64 o, .int .i64 s, .int .i64 c, .bool l] 28)
theorem Tg.new (w : World) (p o s c : Int) (l : Bool) : Tg (w.alloc (.cells #[.int .i64 p, .int .i64 o, .int .i64 s, .int .i64 c, .bool l] 28)) w.heap.size p o s c l := by
  show (w.heap.push _)[w.heap.size]? = _
  simp
theorem Tg.lt {w : World} {b : Nat} {p o s c : Int} {l : Bool} (h : Tg w b p o s c l) : b < w.heap.size := (Array.getElem?_eq_some_iff.1 (show w.heap[b]? = some _ from h)).1
theorem Tg.chg {S : Nat → Prop} {w w' : World} {b : Nat} {p o s c : Int} {l : Bool} (h : Tg w b p o s c l) (hc : Chg S w w') (hb : ¬ S b) : Tg w' b p o s c l := (hc.block b h.lt hb).trans h
theorem Tg.alloc {w : World} {b : Nat} {p o s c : Int} {l : Bool} (h : Tg w b p o s c l) (x : Obj) : Tg (w.alloc x) b p o s c l := (Below.heap_alloc _ _ _ h.lt).trans h
theorem Tg.cells {w : World} {b : Nat} {p o s c : Int} {l : Bool} (h : Tg w b p o s c l) : w.cell? ⟨b, 0, none⟩ = some (.int .i64 p) ∧ w.cell? ⟨b, 1, none⟩ = some (.int .i64 o) ∧ w.cell? ⟨b, 2, none⟩ = some (.int .i64 s) ∧ w.cell? ⟨b, 3, none⟩ = some (.int .i64 c) ∧ w.cell? ⟨b, 4, none⟩ = some (.bool l) := by
  have h' : w.heap[b]? = some _ := h
  refine ⟨?_, ?_, ?_, ?_, ?_⟩ <;> simp [World.cell?, h']
theorem size23 : (Tryz.prog.info? 28).map (·.size) = some 5 := by kernel_rfl
theorem wpList_load_tag {ops : Array Oper} {rest : List Oper} {o : Oper} {a : Act} {w : World} {Q : Exit → Act → World → Prop} (hgd : o.guard = none) (x : Operand) (ho : o.op = .load 28 x)
    (g : Nat) (hx : a.eval x = .pointer (some ⟨g, 0, none⟩)) {p of s c : Int} {l : Bool} (hg : Tg w g p of s c l)
    (h : wpList Tryz.prog ops Q rest (a.put o.dst (.agg #[.int .i64 p, .int .i64 of, .int .i64 s, .int .i64 c, .bool l])) w) : wpList Tryz.prog ops Q (o :: rest) a w :=
  wpList_load_row hgd 28 x ho g hx 28 _ _ _ hg Tryz.underlying28 rfl size23 h
theorem inb_cases (p o s c : Int) : Inb p o s c ∨ p < 0 ∨ (0 ≤ p ∧ 96 ≤ p) ∨ (0 ≤ p ∧ p < 96 ∧ o < 0) ∨ (0 ≤ p ∧ p < 96 ∧ 0 ≤ o ∧ 24 < o) ∨ (0 ≤ p ∧ p < 96 ∧ 0 ≤ o ∧ o ≤ 24 ∧ s < 1) ∨ (0 ≤ p ∧ p < 96 ∧ 0 ≤ o ∧ o ≤ 24 ∧ 1 ≤ s ∧ 1099511627775 < s) ∨ (0 ≤ p ∧ p < 96 ∧ 0 ≤ o ∧ o ≤ 24 ∧ 1 ≤ s ∧ s ≤ 1099511627775 ∧ c < 0) ∨ (0 ≤ p ∧ p < 96 ∧ 0 ≤ o ∧ o ≤ 24 ∧ 1 ≤ s ∧ s ≤ 1099511627775 ∧ 0 ≤ c ∧ 255 < c) := by
  unfold Inb
  omega
set_option maxHeartbeats 4000000 in
theorem inb_yes (w : World) (p o s c : Int) (l : Bool) (h : Inb p o s c) :
    Calls Tryz.prog 125 #[.agg #[.int .i64 p, .int .i64 o, .int .i64 s, .int .i64 c, .bool l]] w fun e w' => e = .returned (.bool true) ∧ Chg (fun _ => False) w w' := by
  obtain ⟨⟨h1, h2⟩, ⟨h3, h4⟩, ⟨h5, h6⟩, h7, h8⟩ := h
  go_enter Tryz.func125, Tryz.ntmps125
  go_wp2
  go_ret
  exact ⟨rfl, (Chg.refl _ _).alloc _⟩
set_option maxHeartbeats 4000000 in
theorem inb_no (w : World) (p o s c : Int) (l : Bool) (h : ¬ Inb p o s c) :
    Calls Tryz.prog 125 #[.agg #[.int .i64 p, .int .i64 o, .int .i64 s, .int .i64 c, .bool l]] w fun e w' => e = .returned (.bool false) ∧ Chg (fun _ => False) w w' := by
  have hc := (inb_cases p o s c).resolve_left h
  clear h
  rcases hc with h | h | h | h | h | h | h | h
  · go_enter Tryz.func125, Tryz.ntmps125
    go_wp2
    go_ret
    exact ⟨rfl, (Chg.refl _ _).alloc _⟩
  · obtain ⟨h1, h2⟩ := h
    go_enter Tryz.func125, Tryz.ntmps125
    go_wp2
    go_ret
    exact ⟨rfl, (Chg.refl _ _).alloc _⟩
  · obtain ⟨h1, h2, h3⟩ := h
    go_enter Tryz.func125, Tryz.ntmps125
    go_wp2
    go_ret
    exact ⟨rfl, (Chg.refl _ _).alloc _⟩
  · obtain ⟨h1, h2, h3, h4⟩ := h
    go_enter Tryz.func125, Tryz.ntmps125
    go_wp2
    go_ret
    exact ⟨rfl, (Chg.refl _ _).alloc _⟩
  · obtain ⟨h1, h2, h3, h4, h5⟩ := h
    go_enter Tryz.func125, Tryz.ntmps125
    go_wp2
    go_ret
    exact ⟨rfl, (Chg.refl _ _).alloc _⟩
  · obtain ⟨h1, h2, h3, h4, h5, h6⟩ := h
    go_enter Tryz.func125, Tryz.ntmps125
    go_wp2
    go_ret
    exact ⟨rfl, (Chg.refl _ _).alloc _⟩
  · obtain ⟨h1, h2, h3, h4, h5, h6, h7⟩ := h
    go_enter Tryz.func125, Tryz.ntmps125
    go_wp2
    go_ret
    exact ⟨rfl, (Chg.refl _ _).alloc _⟩
  · obtain ⟨h1, h2, h3, h4, h5, h6, h7, h8⟩ := h
    go_enter Tryz.func125, Tryz.ntmps125
    go_wp2
    go_ret
    exact ⟨by rw [show decide (c ≤ 255) = false from decide_eq_false (by omega)]; rfl, (Chg.refl _ _).alloc _⟩
theorem tmod8 {p : Int} (h : 0 ≤ p) : p.tmod 8 = p % 8 := Int.tmod_eq_emod_of_nonneg h
set_option maxHeartbeats 4000000 in
theorem tfits_any (w : World) (p o s c : Int) (l : Bool) (h : Inb p o s c) :
    ∃ b, (b = true ↔ Fit p o l) ∧ Calls Tryz.prog 126 #[.agg #[.int .i64 p, .int .i64 o, .int .i64 s, .int .i64 c, .bool l]] w fun e w' => e = .returned (.bool b) ∧ Chg (fun _ => False) w w' := by
  obtain ⟨⟨h1, h2⟩, -, -, -⟩ := h
  by_cases ho : o = 24
  · subst ho
    refine ⟨!l, by cases l <;> simp [Fit], ?_⟩
    go_enter Tryz.func126, Tryz.ntmps126
    go_wp2
    go_ret
    exact ⟨rfl, (Chg.refl _ _).alloc _⟩
  · have hm := tmod8 h1
    by_cases h6 : p % 8 < 6
    · refine ⟨true, by simp [Fit, ho, h6], ?_⟩
      go_enter Tryz.func126, Tryz.ntmps126
      go_wp2
      go_ret
      exact ⟨rfl, (Chg.refl _ _).alloc _⟩
    · refine ⟨false, by simp [Fit, ho]; omega, ?_⟩
      go_enter Tryz.func126, Tryz.ntmps126
      go_wp2
      go_ret
      exact ⟨rfl, (Chg.refl _ _).alloc _⟩
set_option maxHeartbeats 4000000 in
theorem rmay_in (w : World) (p o s c : Int) (l : Bool) (h : Inb p o s c) :
    ∃ b, (b = true ↔ Fit p o l) ∧ Calls Tryz.prog 59 #[.agg #[.int .i64 p, .int .i64 o, .int .i64 s, .int .i64 c, .bool l]] w fun e w' => e = .returned (.bool b) ∧ Chg (fun _ => False) w w' := by
  obtain ⟨⟨h1, h2⟩, ⟨h3, h4⟩, ⟨h5, h6⟩, h7, h8⟩ := h
  by_cases ho : o = 24
  · subst ho
    refine ⟨!l, by cases l <;> simp [Fit], ?_⟩
    go_enter Tryz.func59, Tryz.ntmps59
    go_wp2
    go_ret
    exact ⟨rfl, (Chg.refl _ _).alloc _⟩
  · have hm := tmod8 h1
    by_cases h9 : p % 8 < 6
    · refine ⟨true, by simp [Fit, ho, h9], ?_⟩
      go_enter Tryz.func59, Tryz.ntmps59
      go_wp2
      go_ret
      exact ⟨rfl, (Chg.refl _ _).alloc _⟩
    · refine ⟨false, by simp [Fit, ho]; omega, ?_⟩
      go_enter Tryz.func59, Tryz.ntmps59
      go_wp2
      go_ret
      exact ⟨rfl, (Chg.refl _ _).alloc _⟩
set_option maxHeartbeats 4000000 in
theorem rmay_out (w : World) (p o s c : Int) (l : Bool) (h : ¬ Inb p o s c) :
    Calls Tryz.prog 59 #[.agg #[.int .i64 p, .int .i64 o, .int .i64 s, .int .i64 c, .bool l]] w fun e w' => e = .returned (.bool false) ∧ Chg (fun _ => False) w w' := by
  have hc := (inb_cases p o s c).resolve_left h
  clear h
  rcases hc with h | h | h | h | h | h | h | h
  · go_enter Tryz.func59, Tryz.ntmps59
    go_wp2
    go_ret
    exact ⟨rfl, (Chg.refl _ _).alloc _⟩
  · obtain ⟨h1, h2⟩ := h
    go_enter Tryz.func59, Tryz.ntmps59
    go_wp2
    go_ret
    exact ⟨rfl, (Chg.refl _ _).alloc _⟩
  · obtain ⟨h1, h2, h3⟩ := h
    go_enter Tryz.func59, Tryz.ntmps59
    go_wp2
    go_ret
    exact ⟨rfl, (Chg.refl _ _).alloc _⟩
  · obtain ⟨h1, h2, h3, h4⟩ := h
    go_enter Tryz.func59, Tryz.ntmps59
    go_wp2
    go_ret
    exact ⟨rfl, (Chg.refl _ _).alloc _⟩
  · obtain ⟨h1, h2, h3, h4, h5⟩ := h
    go_enter Tryz.func59, Tryz.ntmps59
    go_wp2
    go_ret
    exact ⟨rfl, (Chg.refl _ _).alloc _⟩
  · obtain ⟨h1, h2, h3, h4, h5, h6⟩ := h
    go_enter Tryz.func59, Tryz.ntmps59
    go_wp2
    go_ret
    exact ⟨rfl, (Chg.refl _ _).alloc _⟩
  · obtain ⟨h1, h2, h3, h4, h5, h6, h7⟩ := h
    go_enter Tryz.func59, Tryz.ntmps59
    go_wp2
    go_ret
    exact ⟨rfl, (Chg.refl _ _).alloc _⟩
  · obtain ⟨h1, h2, h3, h4, h5, h6, h7, h8⟩ := h
    go_enter Tryz.func59, Tryz.ntmps59
    go_wp2
    go_ret
    exact ⟨rfl, (Chg.refl _ _).alloc _⟩
theorem rmay_any (w : World) (p o s c : Int) (l : Bool) : ∃ b, (b = true ↔ May p o s c l) ∧ Calls Tryz.prog 59 #[.agg #[.int .i64 p, .int .i64 o, .int .i64 s, .int .i64 c, .bool l]] w fun e w' => e = .returned (.bool b) ∧ Chg (fun _ => False) w w' := by
  by_cases h : Inb p o s c
  · obtain ⟨b, h1, h2⟩ := rmay_in w p o s c l h
    exact ⟨b, by rw [h1]; simp [May, h], h2⟩
  · exact ⟨false, by simp [May, h], rmay_out w p o s c l h⟩
theorem rmay_yes (w : World) (p o s c : Int) (l : Bool) (h : May p o s c l) : Calls Tryz.prog 59 #[.agg #[.int .i64 p, .int .i64 o, .int .i64 s, .int .i64 c, .bool l]] w fun e w' => e = .returned (.bool true) ∧ Chg (fun _ => False) w w' := by
  obtain ⟨b, h1, h2⟩ := rmay_any w p o s c l
  rwa [h1.2 h] at h2
theorem rmay_no (w : World) (p o s c : Int) (l : Bool) (h : ¬ May p o s c l) : Calls Tryz.prog 59 #[.agg #[.int .i64 p, .int .i64 o, .int .i64 s, .int .i64 c, .bool l]] w fun e w' => e = .returned (.bool false) ∧ Chg (fun _ => False) w w' := by
  obtain ⟨b, h1, h2⟩ := rmay_any w p o s c l
  cases b with
  | false => exact h2
  | true => exact absurd (h1.1 rfl) h
set_option maxHeartbeats 4000000 in
theorem check_any (w : World) (p o s c : Int) (l : Bool) :
    (May p o s c l → Calls Tryz.prog 101 #[.agg #[.int .i64 p, .int .i64 o, .int .i64 s, .int .i64 c, .bool l]] w fun e w' => e = .returned (.nilIface) ∧ Chg (fun _ => False) w w') ∧ (¬ May p o s c l → Calls Tryz.prog 101 #[.agg #[.int .i64 p, .int .i64 o, .int .i64 s, .int .i64 c, .bool l]] w fun e w' => e = .returned (.iface 58 (.int .i64 1)) ∧ Chg (fun _ => False) w w') := by
  have T0 := Tg.new w p o s c l
  have G0 : Chg (fun _ => False) w (w.alloc (.cells #[.int .i64 p, .int .i64 o, .int .i64 s, .int .i64 c, .bool l] 28)) := (Chg.refl _ w).alloc _
  by_cases h : Inb p o s c
  · obtain ⟨b, hb, hc⟩ := tfits_any w p o s c l h
    cases b with
    | true =>
      refine ⟨fun _ => ?_, fun hn => absurd ⟨h, hb.1 rfl⟩ hn⟩
      have HI := hyd h
      have HF : Hid (Fit p o l) := hyd (hb.1 rfl)
      clear hc h hb
      go_enter Tryz.func101, Tryz.ntmps101
      go_wp2_with fail
      refine (inb_yes _ p o s c l HI.out).mono ?_
      rintro e w1 ⟨rfl, G1⟩
      have T1 := T0.chg G1 (fun e => e)
      have G01 := G0.trans G1
      have HT := hyd T1
      obtain ⟨b, hb', hc⟩ := tfits_any w1 p o s c l HI.out
      obtain rfl : b = true := hb'.2 HF.out
      clear T1 G1 T0 G0 hb'
      obtain ⟨k0, k1, k2, k3, k4⟩ := HT.out.cells
      go_wp2_with fail
      refine hc.mono ?_
      rintro e w2 ⟨rfl, G2⟩
      clear hc
      go_wp2
      go_ret
      exact ⟨rfl, G01.trans G2⟩
    | false =>
      refine ⟨fun hy => (by simp at hb; exact absurd hy.2 hb), fun _ => ?_⟩
      have HI := hyd h
      have HF : Hid (¬ Fit p o l) := hyd (fun e => by have := hb.2 e; cases this)
      clear hc h hb
      go_enter Tryz.func101, Tryz.ntmps101
      go_wp2_with fail
      refine (inb_yes _ p o s c l HI.out).mono ?_
      rintro e w1 ⟨rfl, G1⟩
      have T1 := T0.chg G1 (fun e => e)
      have G01 := G0.trans G1
      have HT := hyd T1
      obtain ⟨b, hb', hc⟩ := tfits_any w1 p o s c l HI.out
      obtain rfl : b = false := by
        cases b with
        | false => rfl
        | true => exact absurd (hb'.1 rfl) HF.out
      clear T1 G1 T0 G0 hb'
      obtain ⟨k0, k1, k2, k3, k4⟩ := HT.out.cells
      go_wp2_with fail
      refine hc.mono ?_
      rintro e w2 ⟨rfl, G2⟩
      clear hc
      go_wp2
      go_ret
      exact ⟨rfl, G01.trans G2⟩
  · refine ⟨fun hy => absurd hy.1 h, fun _ => ?_⟩
    have HI := hyd h
    clear h T0
    go_enter Tryz.func101, Tryz.ntmps101
    go_wp2_with fail
    refine (inb_no _ p o s c l HI.out).mono ?_
    rintro e w1 ⟨rfl, G1⟩
    have G01 := G0.trans G1
    clear G1 G0
    go_wp2
    go_ret
    exact ⟨rfl, G01⟩
end Go.Proofs.YtifjmilegogbaaaGreat
namespace Go.Proofs.YtifjmilegogbaaaGreat
open Go.RowKit Go.ChangeShapes Go.WideShapes
set_option maxRecDepth 100000

theorem five {α : Type} {cs : Array α} (h : cs.size = 5) : ∃ c0 c1 c2 c3 c4, cs = #[c0, c1, c2, c3, c4] := by
  obtain ⟨l⟩ := cs
  match l, h with
  | [c0, c1, c2, c3, c4], _ => exact ⟨c0, c1, c2, c3, c4, rfl⟩
theorem cells23 : Tryz.prog.cellsOf 28 = 5 := by kernel_rfl
theorem cells2 : Tryz.prog.cellsOf 2 = 1 := by kernel_rfl
theorem cells3 : Tryz.prog.cellsOf 3 = 1 := by kernel_rfl
theorem cells4 : Tryz.prog.cellsOf 4 = 1 := by kernel_rfl
theorem tag_in {H : Type} {enc : TypeId × Value → H} {W : World} {r : Reach} {b0 : Nat} {v : Value} {d : DataW H} {p : List MemPlace} (hv : Value.okWide Tryz.prog W r b0 28 v) (h : DataW.Trod enc Tryz.prog W 0 (fun _ => true) true 28 v d p) :
    ∃ (pl of sq cp : Int) (ls : Bool), v = .agg #[.int .i64 pl, .int .i64 of, .int .i64 sq, .int .i64 cp, .bool ls] := by
  obtain ⟨cs, rfl, hsz⟩ := okWide_struct Tryz.underlying28 hv
  obtain ⟨c0, c1, c2, c3, c4, rfl⟩ := five (hsz.trans cells23)
  obtain ⟨fuel, hf⟩ := h
  obtain ⟨xs, n, _, _, _, hlen, hfs⟩ := DataW.trod_struct Tryz.underlying28 hf
  match xs, hlen with
  | [y0, y1, y2, y3, y4], _ =>
    have g0 := hfs 0 _ rfl
    have g1 := hfs 1 _ rfl
    have g2 := hfs 2 _ rfl
    have g3 := hfs 3 _ rfl
    have g4 := hfs 4 _ rfl
    simp [Value.cells, cells2, cells3, cells4] at g0 g1 g2 g3 g4
    obtain ⟨z0, f0, _, _⟩ := DataW.trod_int (k := .i64) Tryz.underlying3 g0
    obtain ⟨z1, f1, _, _⟩ := DataW.trod_int (k := .i64) Tryz.underlying3 g1
    obtain ⟨z2, f2, _, _⟩ := DataW.trod_int (k := .i64) Tryz.underlying2 g2
    obtain ⟨z3, f3, _, _⟩ := DataW.trod_int (k := .i64) Tryz.underlying3 g3
    obtain ⟨z4, f4, _⟩ := DataW.trod_bool Tryz.underlying4 g4
    simp only [List.cons.injEq, and_true] at f0 f1 f2 f3 f4
    exact ⟨z0, z1, z2, z3, z4, by rw [f0, f1, f2, f3, f4]⟩
end Go.Proofs.YtifjmilegogbaaaGreat
