/-
  (*Two).step, whatever the operation; how a script begins. Conditions: both arrays stand alike.
-/
import Derived.Test.YthpjdnfalecbeaaStepR
import Derived.Test.YthpjdnfalecbeaaStepM
import Derived.Test.YthpjdnfalecbeaaStepD
import Derived.Test.YthpjdnfalecbeaaStepWB
import Derived.Test.YthpjdnfalecbeaaStepWC
namespace Go.Proofs.Ythpjdnfalecbeaa
open Go.RowKit
set_option maxRecDepth 100000
theorem stepOp (B : Prop) (w0 : World) (t : Nat) (σ : Sta) (K A Bb : Int) (f : Nat) (w : World) (h : Pst B w0 w t σ) (hx : σ.xc = σ.sc) (hn : σ.nw = σ.nt) (hb : σ.nt ≤ 5864062014000)
    (hK1 : -9223372036854775808 ≤ K) (hK2 : K ≤ 9223372036854775807) (hf : f < 256) :
    Calls Try.prog 8 #[.pointer (some ⟨t, 0, none⟩), .agg #[.int .i64 K, .int .i64 A, .int .i64 Bb, .int .u8 f]] w fun e w' => e = .returned (.bool true) ∧ ∃ σ', Alike B w0 w' t σ σ' := by
  have hlt := pkN_lt 7 (by decide) K
  rcases (by omega : pkN 7 K = 0 ∨ pkN 7 K = 1 ∨ pkN 7 K = 2 ∨ pkN 7 K = 3 ∨ pkN 7 K = 4 ∨ pkN 7 K = 5 ∨ pkN 7 K = 6) with e | e | e | e | e | e | e
  · by_cases h1 : 0 < Bb
    · by_cases h2 : Bb < 500
      · exact step_writeA B w0 t σ K A Bb f w h hx hn hb hK1 hK2 hf e ⟨h1, h2⟩
      · exact step_writeC B w0 t σ K A Bb f w h hx hn hb hK1 hK2 hf e h1 h2
    · exact step_writeB B w0 t σ K A Bb f w h hx hn hb hK1 hK2 hf e h1
  · exact step_read B w0 t σ K A Bb f w h hx hn hb hK1 hK2 hf e
  · exact step_trim B w0 t σ K A Bb f w h hx hn hb hK1 hK2 hf e
  · exact step_clone B w0 t σ K A Bb f w h hx hn hb hK1 hK2 hf e
  · exact step_swap B w0 t σ K A Bb f w h hx hn hb hK1 hK2 hf e
  · exact step_differ B w0 t σ K A Bb f w h hx hn hb hK1 hK2 hf e
  · exact step_nil B w0 t σ K A Bb f w h hx hn hb hK1 hK2 hf e
theorem chgTo {w0 w w' : World} (h : Chg (fun _ => False) w0 w) (h' : Chg (fun _ => False) w w') : Chg (fun _ => False) w0 w' := h.trans h'
def Even (B : Prop) (w0 w : World) (t n : Nat) (σ : Sta) : Prop := Pst B w0 w t σ ∧ σ.xc = σ.sc ∧ σ.nw = σ.nt ∧ σ.nt ≤ n
theorem apart_nil (w : World) : Calls Try.prog 10 #[.slice none 0 0] w fun e w' => e = .returned (.bool true) ∧ Chg (fun _ => False) w w' := by
  go_enter Try.func10, Try.ntmps10
  go_wp2
  go_loopw [4] (fun t wr => t = .int .i64 0 ∧ Chg (fun _ => False) w wr) (fun _ _ => 0)
  case atStart => exact ⟨rfl, Chg.refl _ _⟩
  case round =>
    obtain ⟨rfl, hG⟩ := hrel
    go_wp2
    go_loopw [8] (fun t wr => t = .int .i64 0 ∧ Chg (fun _ => False) w wr) (fun _ _ => 0)
    case atStart => exact ⟨rfl, hG⟩
    case round =>
      clear hG
      obtain ⟨rfl, hG⟩ := hrel
      go_wp2
      go_ret
      exact ⟨rfl, hG⟩
/-- What came out was turned: it is its owner's. -/
theorem Pst.forget {w0 w w' : World} {t : Nat} {σ : Sta} {S : Nat → Prop} (h : Pst True w0 w t σ) (hc : Chg S w w') (hS : ∀ k, S k → σ.col k = 6) : Pst False w0 w' t { σ with col := paint σ.col w w' 0 } := by
  have hlt := fun k (hk : σ.col k ≠ 9) => paint_lt (col := σ.col) (w' := w') (x := 0) (h.lt hk)
  have hp : ∀ k y, σ.col k = y → y ≠ 9 → paint σ.col w w' 0 k = y := fun k y e hy => (hlt k (by rw [e]; exact hy)).trans e
  have ns : ∀ k y, σ.col k = y → y ≠ 6 → ¬ S k := fun k y e hy hs => hy (e.symm.trans (hS k hs))
  exact ⟨h.two.chg hc (ns _ _ h.kt (by decide)), h.cc.chg hc (ns _ _ h.kc (by decide)), h.cd.chg hc (ns _ _ h.kd (by decide)), h.oc, h.ox, h.od,
    RefAt.mono' (h.rc.chg hc (fun k hk => ns k 3 hk (by decide))) (fun k _ hk => hp k 3 hk (by decide)), RefAt.mono' (h.rd.chg hc (fun k hk => ns k 4 hk (by decide))) (fun k _ hk => hp k 4 hk (by decide)),
    ownsRow_chg h.told hc (fun k hk => ns k 10 (h.kvt k hk) (by decide)), ownsRow_chg h.want hc (fun k hk => ns k 11 (h.kvw k hk) (by decide)), fun f => f.elim, fun f => f.elim, fun f => f.elim, fun f => f.elim,
    hp _ _ h.kt (by decide), hp _ _ h.kc (by decide), hp _ _ h.kd (by decide), fun k hk => hp _ _ (h.kvt k hk) (by decide), fun k hk => hp _ _ (h.kvw k hk) (by decide), fun f => f.elim, fun f => f.elim, paint_new h.new hc.size, fun k hk => hp _ _ (h.old k hk) (by decide), h.chg.trans' hc (fun k hk hs => ns k 8 (h.old k hk) (by decide) hs)⟩
/-- An operation of a script. -/
structure Opd where
  K : Int
  A : Int
  B : Int
  f : Nat
structure Opd.Ok (o : Opd) : Prop where
  k1 : -9223372036854775808 ≤ o.K
  k2 : o.K ≤ 9223372036854775807
  a1 : -9223372036854775808 ≤ o.A
  a2 : o.A ≤ 9223372036854775807
  f : o.f < 256
/-- A script that came in. -/
def IsOps (w : World) (a : Option Addr) (len : Nat) (O : Nat → Opd) : Prop :=
  (∀ i, i < len → (O i).Ok) ∧
  (len = 0 ∨ ∃ g o, a = some ⟨g, o, none⟩ ∧ g < w.heap.size ∧ ∀ i, i < len → w.cell? ⟨g, o + i * 4, none⟩ = some (.int .i64 (O i).K) ∧ w.cell? ⟨g, o + i * 4 + 1, none⟩ = some (.int .i64 (O i).A) ∧ w.cell? ⟨g, o + i * 4 + 2, none⟩ = some (.int .i64 (O i).B) ∧ w.cell? ⟨g, o + i * 4 + 3, none⟩ = some (.int .u8 (O i).f))
/-- The numbers at the start. -/
def col0 (w w3 w4 w5 : World) (c d : Nat) : Nat → Nat := fun k => if k < w.heap.size then 8 else if k = c then 1 else if k = d then 2 else if w3.heap.size ≤ k ∧ k < w4.heap.size then 3 else if w4.heap.size ≤ k ∧ k < w5.heap.size then 4 else if k = w5.heap.size then 5 else if w5.heap.size < k then 9 else 0
theorem Pst.start {w w1 w2 w3 w4 w5 : World} {r1 r2 : Nat} (G1 : Chg (fun _ => False) w w1) (C2 : AryAt w2 w1.heap.size zA) (G2 : Chg (fun _ => False) w1 w2) (C3 : AryAt w3 w2.heap.size zA) (G3 : Chg (fun _ => False) w2 w3)
    (R4 : RefAt w4 r1 zA (fresh w3 w4)) (G4 : Chg (fun _ => False) w3 w4) (R5 : RefAt w5 r2 zA (fresh w4 w5)) (G5 : Chg (fun _ => False) w4 w5) :
    Pst True w (w5.alloc (.cells #[.pointer (some ⟨w1.heap.size, 0, none⟩), .pointer (some ⟨w2.heap.size, 0, none⟩), .pointer (some ⟨r1, 0, none⟩), .pointer (some ⟨r2, 0, none⟩), .slice none 0 0, .slice none 0 0] 31)) w5.heap.size
      ⟨col0 w w3 w4 w5 w1.heap.size w2.heap.size, w1.heap.size, w2.heap.size, r1, r2, 0, 0, zA, zA, zA, .slice none 0 0, .slice none 0 0, fun _ => .slice none 0 0, fun _ => .slice none 0 0, fun _ => []⟩ := by
  have s1 := G1.size
  have s2 := G2.size
  have s3 := G3.size
  have s4 := G4.size
  have s5 := G5.size
  have l2 := Sto.lt C2
  have l3 := Sto.lt C3
  have hA : Chg (fun _ => False) w5 (w5.alloc (.cells #[.pointer (some ⟨w1.heap.size, 0, none⟩), .pointer (some ⟨w2.heap.size, 0, none⟩), .pointer (some ⟨r1, 0, none⟩), .pointer (some ⟨r2, 0, none⟩), .slice none 0 0, .slice none 0 0] 31)) := (Chg.refl _ _).alloc _
  refine ⟨(blk_new w5 _ 31 6 rfl).row.ext fun i hi => by rcases (by omega : i = 0 ∨ i = 1 ∨ i = 2 ∨ i = 3 ∨ i = 4 ∨ i = 5) with e | e | e | e | e | e <;> subst e <;> rfl, (((C2.chg G3 (fun f => f)).chg G4 (fun f => f)).chg G5 (fun f => f)).chg hA (fun f => f), ((C3.chg G4 (fun f => f)).chg G5 (fun f => f)).chg hA (fun f => f), zA_ok, zA_ok, zA_ok,
    RefAt.mono' ((R4.chg G5 (fun _ _ f => f)).chg hA (fun _ _ f => f)) (fun k _ hk => ?_), RefAt.mono' (R5.chg hA (fun _ _ f => f)) (fun k _ hk => ?_), World.ownsRow_nil _ _ 36 1, World.ownsRow_nil _ _ 36 1, fun _ i hi => absurd hi (Nat.not_lt_zero _), fun _ i hi => absurd hi (Nat.not_lt_zero _), fun _ i j k hi => absurd hi (Nat.not_lt_zero _), fun _ i hi => absurd hi (Nat.not_lt_zero _), ?_, ?_, ?_, (fun k hk => by cases hk), (fun k hk => by cases hk), fun _ i hi => absurd hi (Nat.not_lt_zero _), fun _ i hi => absurd hi (Nat.not_lt_zero _), fun k hk => ?_, fun k hk => if_pos hk, (((G1.trans G2).trans G3).trans G4).trans (G5.trans hA)⟩
  · obtain ⟨h1, h2⟩ := hk
    show col0 w w3 w4 w5 w1.heap.size w2.heap.size k = 3
    unfold col0
    rw [if_neg (by omega), if_neg (by omega), if_neg (by omega), if_pos ⟨h1, h2⟩]
  · obtain ⟨h1, h2⟩ := hk
    show col0 w w3 w4 w5 w1.heap.size w2.heap.size k = 4
    unfold col0
    rw [if_neg (by omega), if_neg (by omega), if_neg (by omega), if_neg (by omega), if_pos ⟨h1, h2⟩]
  · show col0 w w3 w4 w5 w1.heap.size w2.heap.size w5.heap.size = 5
    unfold col0
    rw [if_neg (by omega), if_neg (by omega), if_neg (by omega), if_neg (by omega), if_neg (by omega), if_pos rfl]
  · show col0 w w3 w4 w5 w1.heap.size w2.heap.size w1.heap.size = 1
    unfold col0
    rw [if_neg (by omega), if_pos rfl]
  · show col0 w w3 w4 w5 w1.heap.size w2.heap.size w2.heap.size = 2
    unfold col0
    rw [if_neg (by omega), if_neg (by omega), if_pos rfl]
  · have hz : (w5.alloc (.cells #[.pointer (some ⟨w1.heap.size, 0, none⟩), .pointer (some ⟨w2.heap.size, 0, none⟩), .pointer (some ⟨r1, 0, none⟩), .pointer (some ⟨r2, 0, none⟩), .slice none 0 0, .slice none 0 0] 31)).heap.size = w5.heap.size + 1 := by simp
    rw [hz] at hk
    show col0 w w3 w4 w5 w1.heap.size w2.heap.size k = 9
    unfold col0
    rw [if_neg (by omega), if_neg (by omega), if_neg (by omega), if_neg (by omega), if_neg (by omega), if_neg (by omega), if_pos (by omega)]
end Go.Proofs.Ythpjdnfalecbeaa
