/-
  point's reader: a number taken off, walked. Conditions: the bytes can be read; so many are left, and more room behind them.
-/
import Derived.Test.YtipeldekiloanaaWrite
namespace Go.Proofs.Ytipeldekiloanaa
open Go.RowKit
set_option maxRecDepth 100000

/-- Block b holds a reader: a slice at q of block c, of n bytes with room for m. -/
def Rdr (w : World) (b c q n m : Nat) : Prop := w.heap[b]? = some (.cells #[.slice (some ⟨c, q, none⟩) n m, .nilIface] 52)
theorem Rdr.lt {w : World} {b c q n m : Nat} (h : Rdr w b c q n m) : b < w.heap.size := (Array.getElem?_eq_some_iff.1 (show w.heap[b]? = some _ from h)).1
theorem Rdr.chg {S : Nat → Prop} {w w' : World} {b c q n m : Nat} (h : Rdr w b c q n m) (hc : Chg S w w') (hb : ¬ S b) : Rdr w' b c q n m := (hc.block b h.lt hb).trans h
theorem Rdr.setOther {w : World} {b c q n m : Nat} (h : Rdr w b c q n m) {k : Nat} (hg : k ≠ b) (i : Nat) (v : Value) : Rdr (w.setCell ⟨k, i, none⟩ v) b c q n m :=
  (Below.heap_setCell _ _ _ _ (by simp; omega)).trans h
theorem Rdr.cells {w : World} {b c q n m : Nat} (h : Rdr w b c q n m) : w.cell? ⟨b, 0, none⟩ = some (.slice (some ⟨c, q, none⟩) n m) ∧ w.cell? ⟨b, 1, none⟩ = some .nilIface ∧ w.frozen? ⟨b, 0, none⟩ = false := by
  have h' : w.heap[b]? = some _ := h
  refine ⟨?_, ?_, ?_⟩ <;> simp [World.cell?, World.frozen?, h']
theorem Rdr.store {w : World} {b c q n m : Nat} (h : Rdr w b c q n m) (q' n' m' : Nat) : Rdr (w.setCell ⟨b, 0, none⟩ (.slice (some ⟨c, q', none⟩) n' m')) b c q' n' m' := by
  have h' : w.heap[b]? = some _ := h
  show (w.setCell ⟨b, 0, none⟩ _).heap[b]? = _
  simp [World.setCell, Array.getElem?_modify, h']

set_option maxHeartbeats 2000000 in
theorem take_any (w : World) (b c q n m z : Nat) (l : List Nat) (hR : Rdr w b c q n m) (hz1 : 1 ≤ z) (hz8 : z ≤ 8) (hzn : z < n) (hnm : n ≤ m) (hl : l.length = z) (hb : Bys l) (hA : At w c q l) :
    Calls Try.prog 23 #[.pointer (some ⟨b, 0, none⟩), .int .i64 (z : Int)] w fun e w' => e = .returned (.int .u64 (le l : Nat)) ∧ Rdr w' b c (q + z) (n - z) (m - z) ∧ Chg (· = b) w w' := by
  have hcall := get_n w (some ⟨c, q, none⟩) z m l hl.symm hb (by omega) (by omega) (by
    have := hA.held 0 z m (by omega)
    rwa [Nat.add_zero, show seg l 0 z = l by simp [seg, ← hl]] at this)
  have q1 := neq_nil_nil
  obtain ⟨k0, k1, k2⟩ := hR.cells
  have HR := hyd hR
  have h1 : (0 : Int) ≤ (z : Int) := by omega
  have h2 : (z : Int) ≤ (m : Int) := by omega
  have h3 : (z : Int) ≤ (n : Int) := by omega
  have h4 : ¬ m - z = 0 := by omega
  have h5 : ¬ m = 0 := by omega
  clear hl hA hR
  go_enter Try.func23, Try.ntmps23
  go_wp2_with fail
  refine hcall.mono ?_
  rintro e w1 ⟨rfl, G1⟩
  clear hcall k0 k1 k2
  have R1 := HR.out.chg G1 (fun e => e)
  obtain ⟨k0, k1, k2⟩ := R1.cells
  have HR1 := hyd R1
  have HG1 := hyd G1
  clear R1 G1
  go_wp2
  go_ret
  exact ⟨rfl, HR1.out.store _ _ _, Chg.setCell (S := (· = b)) (HG1.out.mono (fun _ _ f => f.elim)) (Or.inl rfl) _ _⟩
/-- The reader at place p of the 174 bytes at o of block c. -/
def Rdp (w : World) (b c o cap p : Nat) : Prop := Rdr w b c (o + p) (174 - p) (cap - p)
theorem Rdp.lt {w : World} {b c o cap p : Nat} (h : Rdp w b c o cap p) : b < w.heap.size := Rdr.lt h
theorem Rdp.chg {S : Nat → Prop} {w w' : World} {b c o cap p : Nat} (h : Rdp w b c o cap p) (hc : Chg S w w') (hb : ¬ S b) : Rdp w' b c o cap p := Rdr.chg h hc hb
theorem Rdp.setOther {w : World} {b c o cap p : Nat} (h : Rdp w b c o cap p) {k : Nat} (hg : k ≠ b) (i : Nat) (v : Value) : Rdp (w.setCell ⟨k, i, none⟩ v) b c o cap p := Rdr.setOther h hg i v
theorem At.seg {w : World} {c o : Nat} {l : List Nat} (h : At w c o l) (p z : Nat) (hp : p + z ≤ l.length) : At w c (o + p) (seg l p z) :=
  ⟨h.1, fun i hi => by rw [seg_length hp] at hi; rw [seg_getD hi, Nat.add_assoc]; exact h.2 (p + i) (by omega)⟩
theorem take_p (w : World) (b c o cap p z : Nat) (l : List Nat) (hR : Rdp w b c o cap p) (hL : l.length = 174) (hb : Bys l) (hc : 174 ≤ cap) (hA : At w c o l) (hz1 : 1 ≤ z) (hz8 : z ≤ 8) (hp : p + z < 174) :
    Calls Try.prog 23 #[.pointer (some ⟨b, 0, none⟩), .int .i64 (z : Int)] w fun e w' => e = .returned (.int .u64 (fld l p z : Nat)) ∧ Rdp w' b c o cap (p + z) ∧ Chg (· = b) w w' := by
  refine (take_any w b c (o + p) (174 - p) (cap - p) z (seg l p z) hR hz1 hz8 (by omega) (by omega) (seg_length (by omega)) (seg_bys hb p z) (hA.seg p z (by omega))).mono ?_
  rintro e w' ⟨rfl, h2, h3⟩
  refine ⟨rfl, ?_, h3⟩
  unfold Rdp
  rwa [show o + (p + z) = o + p + z by omega, show 174 - (p + z) = 174 - p - z by omega, show cap - (p + z) = cap - p - z by omega]
end Go.Proofs.Ytipeldekiloanaa
