/-
  What the package-level variables hold; a line's block; strings of lists of bytes. No condition: lemmas.
-/
import Derived.Test.YtepbfdbooobnlaaGreatDoorMem
import Derived.Test.YtepbfdbooobnlaaGreatDoorST
import Derived.Test.YtepbfdbooobnlaaGreatDoorShelf
import Derived.Deep.MidRow
import Derived.Deep.LoopGhost
namespace Go.Proofs.YtepbfdbooobnlaaGreatDoor
set_option maxRecDepth 100000
open Go.RowKit
/-- The string of these bytes. -/
def sb (l : List UInt8) : ByteArray := ⟨l.toArray⟩
theorem sb_data (s : ByteArray) : sb s.data.toList = s := rfl
theorem sb_list (l : List UInt8) : (sb l).data.toList = l := rfl
theorem sb_size (l : List UInt8) : (sb l).size = l.length := rfl
theorem size_len (s : ByteArray) : s.size = s.data.toList.length := by rw [Array.length_toList]; rfl
def str (l : List UInt8) : Value := .string (sb l)
def sy (l : List UInt8) : Value := .string ⟨l.toArray⟩
/-- What the package-level variables hold. -/
structure Gl (w : World) : Prop where
  nb : 10 ≤ w.heap.size
  words : w.rangeAt 0 0 (wds.map sy)
  pow : Lib.TabIs Tryz.prog w "internal/strconv.uint64pow10" .u64 Lib.pow10Tab
  syn : ∃ t p, w.var? Tryz.prog "strconv.ErrSyntax" = some #[.iface t p]
  ran : ∃ t p, w.cell? ⟨7, 0, none⟩ = some (.iface t p)
  et : w.cell? ⟨1, 0, none⟩ = some (.iface 119 (.agg #[.pointer (some ⟨10, 31, none⟩)]))
  mx : ∃ m, w.cell? ⟨2, 0, none⟩ = some (.int .i64 m)
theorem pow_at : Tryz.prog.globalNamed "internal/strconv.uint64pow10" = some 3 := by kernel_rfl
theorem syn_at : Tryz.prog.globalNamed "strconv.ErrSyntax" = some 6 := by kernel_rfl
theorem Gl.keep {w w' : World} (h : Gl w) (hs : w.heap.size ≤ w'.heap.size) (hb : ∀ k, k < 10 → w'.heap[k]? = w.heap[k]?) : Gl w' := by
  have hc : ∀ k o, k < 10 → w'.cell? ⟨k, o, none⟩ = w.cell? ⟨k, o, none⟩ := fun k o hk => World.cell?_of_block (w := w) (hb k hk)
  refine ⟨Nat.le_trans h.nb hs, ?_, ?_, ?_, ?_, ?_, ?_⟩
  · intro j v hv; rw [hc 0 _ (by omega)]; exact h.words j v hv
  · have := h.pow
    unfold Lib.TabIs World.var? at this ⊢
    rw [pow_at] at this ⊢
    simp only [Option.bind_some] at this ⊢
    rw [hb 3 (by omega)]; exact this
  · obtain ⟨t, p, e⟩ := h.syn
    refine ⟨t, p, ?_⟩
    unfold World.var? at e ⊢
    rw [syn_at] at e ⊢
    simp only [Option.bind_some] at e ⊢
    rw [hb 6 (by omega)]; exact e
  · obtain ⟨t, p, e⟩ := h.ran; exact ⟨t, p, (hc 7 0 (by omega)).trans e⟩
  · exact (hc 1 0 (by omega)).trans h.et
  · obtain ⟨m, e⟩ := h.mx; exact ⟨m, (hc 2 0 (by omega)).trans e⟩
theorem Gl.chg {S : Nat → Prop} {w w' : World} (h : Gl w) (hc : Chg S w w') (hs : ∀ k, k < 10 → ¬ S k) : Gl w' :=
  h.keep hc.size (fun k hk => hc.block k (Nat.lt_of_lt_of_le hk h.nb) (hs k hk))
theorem Gl.new {w w' : World} (h : Gl w) (hc : Chg (fun _ => False) w w') : Gl w' := h.chg hc (fun _ _ f => f)
theorem Gl.alloc {w : World} (h : Gl w) (o : Obj) : Gl (w.alloc o) := h.new ((Chg.refl _ w).alloc o)
theorem Gl.drewN {w : World} (h : Gl w) (n : Nat) : Gl (w.drewN n) := h.new ((Chg.refl _ w).drewN n)
/-- Block g is a line: its number, its bytes, and where it stands. -/
def Li (w : World) (g : Nat) (n : Int) (s : ByteArray) (p : Nat) : Prop := w.heap[g]? = some (.cells #[.int .i64 n, .string s, .int .i64 p] 59)
theorem Li.lt {w : World} {g : Nat} {n : Int} {s : ByteArray} {p : Nat} (h : Li w g n s p) : g < w.heap.size := (Array.getElem?_eq_some_iff.1 h).1
theorem Li.c0 {w : World} {g : Nat} {n : Int} {s : ByteArray} {p : Nat} (h : Li w g n s p) : w.cell? ⟨g, 0, none⟩ = some (.int .i64 n) := by
  have h' : w.heap[g]? = _ := h
  simp [World.cell?, h']
theorem Li.c1 {w : World} {g : Nat} {n : Int} {s : ByteArray} {p : Nat} (h : Li w g n s p) : w.cell? ⟨g, 1, none⟩ = some (.string s) := by
  have h' : w.heap[g]? = _ := h
  simp [World.cell?, h']
theorem Li.c2 {w : World} {g : Nat} {n : Int} {s : ByteArray} {p : Nat} (h : Li w g n s p) : w.cell? ⟨g, 2, none⟩ = some (.int .i64 p) := by
  have h' : w.heap[g]? = _ := h
  simp [World.cell?, h']
theorem Li.fz {w : World} {g : Nat} {n : Int} {s : ByteArray} {p : Nat} (h : Li w g n s p) (i : Nat) : w.frozen? ⟨g, i, none⟩ = false := by
  have h' : w.heap[g]? = _ := h
  simp [World.frozen?, h']
theorem Li.set {w : World} {g : Nat} {n : Int} {s : ByteArray} {p : Nat} (h : Li w g n s p) (z : Int) (q : Nat) (hz : z = q) : Li (w.setCell ⟨g, 2, none⟩ (.int .i64 z)) g n s q := by
  have h' : w.heap[g]? = _ := h
  subst hz
  show (w.setCell ⟨g, 2, none⟩ (.int .i64 (q : Int))).heap[g]? = _
  simp [World.setCell, Array.getElem?_modify, h']
theorem Li.keep {w w' : World} {g : Nat} {n : Int} {s : ByteArray} {p : Nat} (h : Li w g n s p) (hb : w'.heap[g]? = w.heap[g]?) : Li w' g n s p := hb.trans h
theorem Li.chg {S : Nat → Prop} {w w' : World} {g : Nat} {n : Int} {s : ByteArray} {p : Nat} (h : Li w g n s p) (hc : Chg S w w') (hs : ¬ S g) : Li w' g n s p := h.keep (hc.block g h.lt hs)
theorem Li.drewN {w : World} {g : Nat} {n : Int} {s : ByteArray} {p : Nat} (h : Li w g n s p) (k : Nat) : Li (w.drewN k) g n s p := h.chg ((Chg.refl (fun _ => False) w).drewN k) (fun f => f)
theorem idx_str {s : ByteArray} {p : Nat} {c : UInt8} (h : s.data.toList[p]? = some c) (w : World) :
    (Instr.index 9 (.string s) (.int .i64 p)).run Tryz.prog w = .ok (.int .u8 c.toNat) w := by
  obtain ⟨h1, h2⟩ := List.getElem?_eq_some_iff.1 h
  have h3 : p < s.size := by rw [size_len]; exact h1
  rw [run_index_string w 9 s .i64 p Tryz.underlying9, dif_pos ⟨by omega, by omega⟩]
  congr 3
  simp only [Int.toNat_natCast]
  rw [← h2]; rfl
end Go.Proofs.YtepbfdbooobnlaaGreatDoor
