/-
  A frame in memory; what ranging over parts leaves as it was; frame.New. No condition.
-/
import Derived.Test.YtdofegphipbcdaaParts
namespace Go.Proofs.Ytdofegphipbcdaa
open Go.RowKit Go.Shelf
set_option maxRecDepth 100000

/-- Block p holds a Frame over the Codec in q, over the Field in b. -/
def Frm (w : World) (p q b : Nat) : Prop := Cod w q b ∧ Boxed w p 57 (.pointer (some ⟨q, 0, none⟩))
theorem Frm.lt {w : World} {p q b : Nat} (h : Frm w p q b) : p < w.heap.size := h.2.lt
theorem fld_heap {w : World} {b : Nat} (h : Fld w b) : ∃ c z, w.heap[b]? = some (.cells c 105 z) ∧ 500 < c.size := by
  rcases h with h | h <;> exact ⟨_, _, h, by simp [fcells]⟩
theorem Frm.pb {w : World} {p q b : Nat} (h : Frm w p q b) : p ≠ b := by
  intro e
  obtain ⟨c, z, hc, -⟩ := fld_heap h.1.1
  have h2 : w.heap[p]? = some (.cells #[.pointer (some ⟨q, 0, none⟩)] 57) := h.2
  rw [e, hc] at h2
  simp at h2
theorem Frm.other {w w' : World} {p q b : Nat} (h : Frm w p q b) (hb : w'.heap[b]? = w.heap[b]?) (hq : w'.heap[q]? = w.heap[q]?) (hp : w'.heap[p]? = w.heap[p]?) : Frm w' p q b :=
  ⟨h.1.other hb hq, hp.trans h.2⟩
theorem Frm.chg {w w' : World} {p q b : Nat} (h : Frm w p q b) (hc : Chg (fun _ => False) w w') : Frm w' p q b :=
  ⟨h.1.chg hc, (hc.block p h.lt (fun e => e)).trans h.2⟩
theorem Frm.but {w w' : World} {p q b : Nat} (h : Frm w p q b) (hC : Cod w' q b) (hB : But b w w') : Frm w' p q b := ⟨hC, (hB.block p h.lt h.pb).trans h.2⟩

theorem buildF (q : Nat) (w : World) : (Instr.build 57 #[(0, .pointer (some ⟨q, 0, none⟩))]).run Try.prog w = .ok (.agg #[.pointer (some ⟨q, 0, none⟩)]) w := by kernel_rfl
set_option maxHeartbeats 1000000 in
theorem frame_new (w : World) :
    Calls Try.prog 8 #[] w fun e w' => ∃ p q b, e = .returned (.pointer (some ⟨p, 0, none⟩)) ∧ w.heap.size ≤ p ∧ w.heap.size ≤ q ∧ w.heap.size ≤ b ∧ Frm w' p q b ∧ Chg (fun _ => False) w w' := by
  have hbF := buildF
  go_enter Try.func8, Try.ntmps8
  go_wp2_with fail
  refine (codec_new w).mono ?_
  rintro e w1 ⟨q, b, rfl, hq, hb, C1, G1⟩
  have hs := G1.size
  go_wp2
  go_ret
  exact ⟨w1.heap.size, q, b, rfl, by omega, hq, hb, ⟨C1.alloc _, Boxed.new _ _ _⟩, G1.alloc _⟩

/-- What changed some blocks of cells alone keeps what is no cells. -/
theorem Chg.keeps {S : Nat → Prop} {W W' : World} (h : Chg S W W') (hS : ∀ k, S k → ∀ o, W.heap[k]? = some o → o.isCells = true) (B : Nat) : KeepsFrom B W W' :=
  ⟨h.size, fun k o _ h0 ho => (h.block k (Array.getElem?_eq_some_iff.1 h0).1 (fun s => by rw [hS k s o h0] at ho; cases ho)).trans h0⟩
theorem ownFrom_chg {β : Type} {S : Nat → Prop} {w : World} : OwnFrom w.heap.size (fun (_ : β) W => Chg S w W) :=
  fun _ _ _ _ hs hg hr => hs.grown hg (fun k e => Or.inr (hr k e).1)
theorem notcells {W : World} {b r : Nat} {c : Array Value} {t : TypeId} {z : Nat × Nat} (h : W.heap[b]? = some (.cells c t z)) (hr : ∃ o : Obj, W.heap[r]? = some o ∧ o.isCells = false) : b ≠ r := by
  rintro rfl
  obtain ⟨o, h1, h2⟩ := hr
  rw [h] at h1
  cases h1
  cases h2
theorem cells_kept {X Y : World} {row : Option Nat} {b : Nat} {c : Array Value} {t : TypeId} {z : Nat × Nat} (h : X.heap[b]? = some (.cells c t z)) (hg : X.grownBy Y row) (hr : ∀ r, row = some r → ∃ o : Obj, X.heap[r]? = some o ∧ o.isCells = false) : Y.heap[b]? = X.heap[b]? :=
  hg.block b (Array.getElem?_eq_some_iff.1 h).1 (fun e => notcells h (hr b e.symm) rfl)
theorem ownFrom_frm {β : Type} {B p q b : Nat} : OwnFrom B (fun (_ : β) W => Frm W p q b) := fun _ X Y row hs hg hr => by
  obtain ⟨c, z, hc, -⟩ := fld_heap hs.1.1
  have hr' : ∀ r, row = some r → ∃ o : Obj, X.heap[r]? = some o ∧ o.isCells = false := fun r e => (hr r e).2
  exact hs.other (cells_kept hc hg hr') (cells_kept hs.1.2 hg hr') (cells_kept (show X.heap[p]? = some (.cells #[.pointer (some ⟨q, 0, none⟩)] 57) from hs.2) hg hr')
end Go.Proofs.Ytdofegphipbcdaa
