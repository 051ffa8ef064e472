/-
  The rows of the document's examples hold (patinalaw02.shown answers true). No condition. RsSyndromes, walked: whatever the bytes, Syndromes answers as the document says. Condition: the bytes came in as a slice does. The document's answer for the syndromes: patinaref02.Syndromes. Condition: the bytes can be read. The statements' own helper message, and the document's answer for the distance of two words (patinaref02.Apart). Condition: the bytes can be read. RsNear, walked: what Decode answers of any word is a codeword at the distance that it tells; what it refuses is near no codeword that is tried. Condition: the bytes came in as slices do. RsEncodes, walked: whatever the bytes, Encode answers as the document says, leaves what it was lent as it was, and what it answers is its owner's. Condition: the bytes came in as a slice does. RsDecodes, walked: whatever the bytes, Decode answers as the document says, leaves what it was lent as it was, and what it answers is its owner's. Condition: the bytes came in as a slice does. Numbers as bytes, the lowest first. No condition: lemmas on numbers and lists. wire's cut, Get and Apart, walked. Conditions: the bytes can be read. Slices of bytes that a call itself has made, also such whose room ends ahead of the block's (a slice of three indices). No condition: lemmas on worlds.
-/
import Derived.Test.YtifjmilegogbaaaGreatUEnc
import Derived.Test.YtifjmilegogbaaaGreatUCod
import Derived.Test.YtifjmilegogbaaaGreatUMem
import Derived.Test.YtifjmilegogbaaaGreatURefs
namespace Go.Proofs.YtifjmilegogbaaaGreat
open Go.RowKit
set_option maxRecDepth 100000

theorem same_n (w : World) (a1 a2 : Option Addr) (n1 n2 c1 c2 : Nat) (l1 l2 : List Nat) (e1 : n1 = l1.length) (e2 : n2 = l2.length) (h1 : Held w (.slice a1 n1 c1) l1) (h2 : Held w (.slice a2 n2 c2) l2) (hn1 : l1.length ≤ 9223372036854775807) (hn2 : l2.length ≤ 9223372036854775807) :
    Calls Tryz.prog 24 #[.slice a1 n1 c1, .slice a2 n2 c2] w fun e w' => e = .returned (.bool (decide (l1 = l2))) ∧ Chg (fun _ => False) w w' := by
  subst e1 e2
  exact same_any w a1 a2 c1 c2 l1 l2 h1 h2 hn1 hn2
theorem Arr.held {w : World} {g : Nat} {t : TypeId} {l : List Nat} (h : Arr w g t l) (off n cap : Nat) (l' : List Nat) (hn : n = l'.length) (ho : off + l'.length ≤ l.length) (he : ∀ i, i < l'.length → l.getD (off + i) 0 = l'.getD i 0) : Held w (.slice (some ⟨g, off, none⟩) n cap) l' := by
  subst hn
  exact ⟨_, cap, rfl, Or.inr ⟨g, off, rfl, h.lt, fun i hi => by rw [h.cell _ (by omega), he i hi]⟩⟩
theorem Arr.chg {S : Nat → Prop} {w w' : World} {g : Nat} {t : TypeId} {l : List Nat} (h : Arr w g t l) (hc : Chg S w w') (hg : ¬ S g) : Arr w' g t l := (hc.block g h.lt hg).trans h
theorem Cod.chg {w w' : World} {q b : Nat} (h : Cod w q b) (hc : Chg (fun _ => False) w w') : Cod w' q b := h.other (hc.block b h.1.lt (fun e => e)) (hc.block q h.lt (fun e => e))
theorem But.chgF {b : Nat} {u w w' : World} (h : But b w w') (hc : Chg (fun _ => False) u w) (hb : u.heap.size ≤ b) : Chg (fun _ => False) u w' := hc.trans' h.chg (fun i hi e => by omega)

def allBys (l : List Nat) : Bool := l.all fun n => decide (n < 256)
theorem bys_of {l : List Nat} (h : allBys l = true) : Bys l := by
  intro n hn
  simpa using List.all_eq_true.1 h n hn
theorem eql_arg_arg (w : World) : (binOp .eql 32 (.iface 58 (.int .i64 1)) (.iface 58 (.int .i64 1))).run Tryz.prog w = .ok (.bool true) w := by kernel_rfl
theorem eql_arg_dec (w : World) : (binOp .eql 32 (.iface 58 (.int .i64 1)) (.iface 58 (.int .i64 5))).run Tryz.prog w = .ok (.bool false) w := by kernel_rfl
theorem eql_arg_nil (w : World) : (binOp .eql 32 (.iface 58 (.int .i64 1)) .nilIface).run Tryz.prog w = .ok (.bool false) w := by kernel_rfl
theorem eql_dec_arg (w : World) : (binOp .eql 32 (.iface 58 (.int .i64 5)) (.iface 58 (.int .i64 1))).run Tryz.prog w = .ok (.bool false) w := by kernel_rfl
theorem eql_dec_dec (w : World) : (binOp .eql 32 (.iface 58 (.int .i64 5)) (.iface 58 (.int .i64 5))).run Tryz.prog w = .ok (.bool true) w := by kernel_rfl
theorem eql_dec_nil (w : World) : (binOp .eql 32 (.iface 58 (.int .i64 5)) .nilIface).run Tryz.prog w = .ok (.bool false) w := by kernel_rfl
theorem eql_nil_arg (w : World) : (binOp .eql 32 .nilIface (.iface 58 (.int .i64 1))).run Tryz.prog w = .ok (.bool false) w := by kernel_rfl
theorem eql_nil_dec (w : World) : (binOp .eql 32 .nilIface (.iface 58 (.int .i64 5))).run Tryz.prog w = .ok (.bool false) w := by kernel_rfl
theorem eql_nil_nil (w : World) : (binOp .eql 32 .nilIface .nilIface).run Tryz.prog w = .ok (.bool true) w := by kernel_rfl
theorem neq_arg_arg (w : World) : (binOp .neq 32 (.iface 58 (.int .i64 1)) (.iface 58 (.int .i64 1))).run Tryz.prog w = .ok (.bool false) w := by kernel_rfl
theorem neq_arg_dec (w : World) : (binOp .neq 32 (.iface 58 (.int .i64 1)) (.iface 58 (.int .i64 5))).run Tryz.prog w = .ok (.bool true) w := by kernel_rfl
theorem neq_arg_nil (w : World) : (binOp .neq 32 (.iface 58 (.int .i64 1)) .nilIface).run Tryz.prog w = .ok (.bool true) w := by kernel_rfl
theorem neq_dec_arg (w : World) : (binOp .neq 32 (.iface 58 (.int .i64 5)) (.iface 58 (.int .i64 1))).run Tryz.prog w = .ok (.bool true) w := by kernel_rfl
theorem neq_dec_dec (w : World) : (binOp .neq 32 (.iface 58 (.int .i64 5)) (.iface 58 (.int .i64 5))).run Tryz.prog w = .ok (.bool false) w := by kernel_rfl
theorem neq_dec_nil (w : World) : (binOp .neq 32 (.iface 58 (.int .i64 5)) .nilIface).run Tryz.prog w = .ok (.bool true) w := by kernel_rfl
theorem neq_nil_arg (w : World) : (binOp .neq 32 .nilIface (.iface 58 (.int .i64 1))).run Tryz.prog w = .ok (.bool true) w := by kernel_rfl
theorem neq_nil_dec (w : World) : (binOp .neq 32 .nilIface (.iface 58 (.int .i64 5))).run Tryz.prog w = .ok (.bool true) w := by kernel_rfl
theorem neq_nil_nil (w : World) : (binOp .neq 32 .nilIface .nilIface).run Tryz.prog w = .ok (.bool false) w := by kernel_rfl
end Go.Proofs.YtifjmilegogbaaaGreat
namespace Go.Proofs.YtifjmilegogbaaaGreat
open Go.RowKit
set_option maxRecDepth 100000

theorem Rd.held {w : World} {b : Nat} {a : Option Addr} {l : List Nat} (h : Rd w b a l) (cap : Nat) : Held w (.slice a l.length cap) l := by
  obtain ⟨hl, h0 | ⟨c, o, rfl, hc, hs, hcell⟩⟩ := h
  · exact ⟨a, cap, rfl, Or.inl (by rw [h0]; rfl)⟩
  · exact ⟨_, cap, rfl, Or.inr ⟨c, o, rfl, hs, hcell⟩⟩
theorem Held.rd {w : World} {b : Nat} {a : Option Addr} {n cap : Nat} {l : List Nat} (h : Held w (.slice a n cap) l) (hl : Bys l) (hb : ∀ c o s, a = some ⟨c, o, s⟩ → c ≠ b) : Rd w b a l := by
  refine ⟨hl, ?_⟩
  obtain ⟨a', c', hv, h⟩ := h
  simp only [Value.slice.injEq] at hv
  obtain ⟨rfl, -, -⟩ := hv
  rcases h with h | ⟨g, o, rfl, hg, hc⟩
  · exact Or.inl (List.length_eq_zero_iff.1 h)
  · exact Or.inr ⟨g, o, rfl, hb g o none rfl, hg, hc⟩

end Go.Proofs.YtifjmilegogbaaaGreat
namespace Go.Proofs.YtifjmilegogbaaaGreat
open Go.RowKit
set_option maxRecDepth 100000

theorem Held.chgF {w w' : World} {v : Value} {l : List Nat} (h : Held w v l) (hc : Chg (fun _ => False) w w') : Held w' v l := h.chg hc (fun _ _ _ e => e)

end Go.Proofs.YtifjmilegogbaaaGreat
namespace Go.Proofs.YtifjmilegogbaaaGreat
open Go.RowKit
set_option maxRecDepth 100000

/-- The first i bytes of l, n in all, noughts behind them. -/
def padTo (l : List Nat) (n i : Nat) : List Nat := (List.range n).map fun k => if k < i then l.getD k 0 else 0
theorem padTo_length (l : List Nat) (n i : Nat) : (padTo l n i).length = n := by simp [padTo]
theorem padTo_zero (l : List Nat) (n : Nat) : padTo l n 0 = List.replicate n 0 := by
  apply List.ext_getElem?
  intro k
  by_cases h : k < n
  · simp [padTo, h]
  · rw [List.getElem?_eq_none (by simp [padTo]; omega), List.getElem?_eq_none (by simp; omega)]
theorem padTo_set (l : List Nat) (n i : Nat) : (padTo l n i).set i (l.getD i 0) = padTo l n (i + 1) := by
  apply List.ext_getElem?
  intro k
  by_cases h : i = k
  · subst h
    by_cases h5 : i < n
    · rw [List.getElem?_set_self (by rw [padTo_length]; exact h5)]
      simp [padTo, h5]
    · rw [List.getElem?_eq_none (by simp [padTo]; omega), List.getElem?_eq_none (by simp [padTo]; omega)]
  · rw [List.getElem?_set_ne h]
    by_cases h5 : k < n
    · simp only [padTo, List.getElem?_map, List.getElem?_range h5, Option.map_some]
      congr 1
      by_cases h6 : k < i
      · rw [if_pos h6, if_pos (by omega)]
      · rw [if_neg h6, if_neg (by omega)]
    · rw [List.getElem?_eq_none (by simp [padTo]; omega), List.getElem?_eq_none (by simp [padTo]; omega)]
theorem padTo_end (l : List Nat) (n i : Nat) (h : n ≤ i ∨ l.length ≤ i) : padTo l n i = padTo l n n := by
  apply List.map_congr_left
  intro k hk
  have hk := List.mem_range.1 hk
  rw [if_pos hk]
  by_cases h1 : k < i
  · rw [if_pos h1]
  · rw [if_neg h1, List.getD_eq_getElem?_getD, List.getElem?_eq_none (by omega)]; rfl
theorem padTo_bys {l : List Nat} (hl : Bys l) (n i : Nat) : Bys (padTo l n i) := by
  intro x hx
  simp only [padTo, List.mem_map, List.mem_range] at hx
  obtain ⟨k, _, rfl⟩ := hx
  split
  · exact hl.getD k
  · decide

theorem wt_lt (f : Nat → Nat) (n : Nat) : wt f n ≤ n := by
  induction n with
  | zero => exact Nat.le_refl _
  | succ n ih =>
    simp only [wt]
    split <;> omega
end Go.Proofs.YtifjmilegogbaaaGreat
namespace Go.Proofs.YtifjmilegogbaaaGreat
open Go.RowKit
set_option maxRecDepth 100000

theorem wt_behind {f : Nat → Nat} {m : Nat} (h : ∀ i, i < m → f i = 0) (n : Nat) : wt f n ≤ n - m := by
  induction n with
  | zero => exact Nat.zero_le _
  | succ n ih =>
    simp only [wt]
    by_cases e : n < m
    · rw [if_pos (h n e)]; omega
    · split <;> omega
theorem cw_msg {a b : List Nat} (ha : Cw a) (hb : Cw b) (h : a.take 58 = b.take 58) : a = b := by
  apply cw_unique ha hb
  refine Nat.le_trans (wt_behind (m := 58) (fun i hi => ?_) 64) (by omega)
  rw [df_zero, ← getD_take a 58 i hi, ← getD_take b 58 i hi, h]
theorem dec_enc {x m : List Nat} {d : Nat} (h : IsDec x (some (m, d))) (hm : m.length = 58) (hb : Bys m) : ds (encL m) x = d := by
  rcases h with ⟨h, -⟩ | ⟨c, hc, he, -⟩
  · cases h
  · simp only [Option.some.injEq, Prod.mk.injEq] at he
    obtain ⟨h1, h2⟩ := he
    have : encL m = c := cw_msg (encL_cw hm hb) hc (by rw [encL_take hm, h1])
    rw [this, ds_comm, h2]
theorem dec_far {x c : List Nat} (h : IsDec x none) (hc : Cw c) : 2 < ds c x := by
  rcases h with ⟨-, h⟩ | ⟨c', -, he, -⟩
  · rw [ds_comm]; exact h c hc
  · cases he
theorem Arr.at0 {w : World} {g : Nat} {t : TypeId} {l : List Nat} (h : Arr w g t l) : ∀ i, i < l.length → w.cell? ⟨g, 0 + i, none⟩ = some (.int .u8 (l.getD i 0 : Nat)) := fun i hi => by
  rw [Nat.zero_add]; exact h.cell i hi
/-- A row of bytes that came in, as a list of numbers. -/
theorem row_in {w : World} {a : Option Addr} {len cap : Nat} {zs : List Int} (h : IsRow .u8 w a len cap zs) : ∃ l : List Nat, l.length = len ∧ len ≤ cap ∧ Bys l ∧ (a = none → len = 0 ∧ cap = 0) ∧ Held w (.slice a len cap) l := by
  obtain ⟨l, h1, h2, h3, h4⟩ := rd_of_row h
  refine ⟨l, h1, h2, (h4 w.heap.size (Nat.le_refl _)).1, h3, ?_⟩
  have := (h4 w.heap.size (Nat.le_refl _)).held cap
  rwa [h1] at this

end Go.Proofs.YtifjmilegogbaaaGreat
namespace Go.Proofs.YtifjmilegogbaaaGreat
open Go.RowKit
set_option maxRecDepth 100000

theorem held_cells {w : World} {f o n cap : Nat} {l : List Nat} (h : Held w (.slice (some ⟨f, o, none⟩) n cap) l) (h0 : l.length ≠ 0) : f < w.heap.size ∧ ∀ i, i < l.length → w.cell? ⟨f, o + i, none⟩ = some (.int .u8 (l.getD i 0 : Nat)) := by
  obtain ⟨a', c', hv, h | ⟨g', o', ha, hg', hc⟩⟩ := h
  · omega
  · simp only [Value.slice.injEq] at hv
    have e := hv.1.trans ha
    simp only [Option.some.injEq, Addr.mk.injEq] at e
    obtain ⟨rfl, rfl, -⟩ := e
    exact ⟨hg', hc⟩
theorem encode_held (q b : Nat) (w : World) (h : Cod w q b) (c o n cap : Nat) (l : List Nat) (hn : n = 58) (hl : l.length = 58) (hb : Bys l) (hcb : c ≠ b) (hh : Held w (.slice (some ⟨c, o, none⟩) n cap) l) :
    Calls Tryz.prog 110 #[.pointer (some ⟨q, 0, none⟩), .slice (some ⟨c, o, none⟩) n cap] w fun e w' => ∃ g, e = .returned (.tuple #[.slice (some ⟨g, 0, none⟩) 64 64, .nilIface]) ∧ w.heap.size ≤ g ∧ Arr w' g 5 (encL l) ∧ Cod w' q b ∧ But b w w' := by
  subst hn
  obtain ⟨h1, h2⟩ := held_cells hh (by omega)
  exact encode_any q b w h c o cap l hl hb hcb h1 h2
end Go.Proofs.YtifjmilegogbaaaGreat
namespace Go.Proofs.YtifjmilegogbaaaGreat
open Go.RowKit
set_option maxRecDepth 100000

theorem decode_held (q b : Nat) (w : World) (h : Cod w q b) (c o n cap : Nat) (l : List Nat) (hn : n = 64) (hl : l.length = 64) (hb : Bys l) (hcb : c ≠ b) (hh : Held w (.slice (some ⟨c, o, none⟩) n cap) l) :
    Calls Tryz.prog 114 #[.pointer (some ⟨q, 0, none⟩), .slice (some ⟨c, o, none⟩) n cap] w fun e w' => DecAns w w' l e ∧ Cod w' q b ∧ But b w w' := by
  subst hn
  obtain ⟨h1, h2⟩ := held_cells hh (by omega)
  exact decode_any q b w h c o cap l hl hb hcb h1 h2
end Go.Proofs.YtifjmilegogbaaaGreat
namespace Go.Proofs.YtifjmilegogbaaaGreat

theorem bys_take {l : List Nat} (h : Bys l) (k : Nat) : Bys (l.take k) := fun n hn => h n (List.mem_of_mem_take hn)
theorem bys_drop {l : List Nat} (h : Bys l) (k : Nat) : Bys (l.drop k) := fun n hn => h n (List.mem_of_mem_drop hn)
end Go.Proofs.YtifjmilegogbaaaGreat
namespace Go.Proofs.YtifjmilegogbaaaGreat
open Go.RowKit
set_option maxRecDepth 100000

theorem Chg.setRow {S : Nat → Prop} {u w : World} (h : Chg S u w) {g : Nat} (hg : S g ∨ u.heap.size ≤ g) (c : Array Value) : Chg S u (w.setRow g c) :=
  ⟨h.os, h.tape, h.output, by simp; exact h.size, fun k hk hs => (setRow_other _ _ _ _ (by
    rcases hg with hg | hg
    · intro e; exact hs (by rw [e]; exact hg)
    · omega)).trans (h.block k hk hs)⟩
end Go.Proofs.YtifjmilegogbaaaGreat
namespace Go.Proofs.YtifjmilegogbaaaGreat
set_option maxRecDepth 100000
open Go.RowKit

/-- The slice v is the call's own, of the bytes l, its room just as long, in a block that may be longer, or bear a mark behind them. -/
def Tight (w : World) (base : Nat) (e : TypeId) (v : Value) (l : List Nat) : Prop :=
  ∃ g cur fz, v = .slice (some ⟨g, 0, none⟩) l.length l.length ∧ base ≤ g ∧ w.heap[g]? = some (.cells cur e fz) ∧ (∀ i, i < l.length → ¬ (fz.1 ≤ i ∧ i < fz.2)) ∧ l.length ≤ maxLen ∧ l.length ≤ cur.size ∧ cur.toList.take l.length = l.map byt
/-- The call's own: as append leaves it, or cut by three indices. -/
def OwnT (w : World) (base : Nat) (e : TypeId) (v : Value) (l : List Nat) : Prop := Own w base e v l ∨ Tight w base e v l
theorem Own.t {w : World} {base : Nat} {e : TypeId} {v : Value} {l : List Nat} (h : Own w base e v l) : OwnT w base e v l := Or.inl h
theorem OwnT.lies {w : World} {base : Nat} {e : TypeId} {v : Value} {l : List Nat} (h : OwnT w base e v l) (h0 : l.length ≠ 0) :
    ∃ g cap, v = .slice (some ⟨g, 0, none⟩) l.length cap ∧ base ≤ g ∧ g < w.heap.size ∧ l.length ≤ cap ∧ (∀ i, i < l.length → w.cell? ⟨g, i, none⟩ = some (.int .u8 (l.getD i 0 : Nat))) ∧ ∀ i, i < l.length → w.frozen? ⟨g, i, none⟩ = false := by
  rcases h with h | ⟨g, cur, fz, hv, hg, hh, hz, hm, hs, ht⟩
  · obtain ⟨g, cap, h1, h2, h3, h4, h5, h6⟩ := h.lies h0
    exact ⟨g, cap, h1, h2, h3, h4, h5, fun i _ => h6 i⟩
  · refine ⟨g, l.length, hv, hg, (Array.getElem?_eq_some_iff.1 hh).1, Nat.le_refl _, fun i hi => ?_, fun i hi => ?_⟩
    rotate_left
    · have := hz i hi
      simp only [World.frozen?, hh]
      simp only [Bool.and_eq_false_iff, decide_eq_false_iff_not]
      omega
    have e1 : cur[i]? = some (byt (l.getD i 0)) := by
      have h2 : (cur.toList.take l.length)[i]? = (l.map byt)[i]? := by rw [ht]
      rw [List.getElem?_take_of_lt hi, List.getElem?_map, List.getElem?_eq_getElem hi, Array.getElem?_toList] at h2
      rw [h2, List.getD_eq_getElem?_getD, List.getElem?_eq_getElem hi]; rfl
    simp only [World.cell?, hh]
    simpa [byt] using e1
theorem OwnT.form {w : World} {base : Nat} {e : TypeId} {v : Value} {l : List Nat} (h : OwnT w base e v l) : (v = .slice none 0 0 ∧ l = []) ∨ ∃ g cap, v = .slice (some ⟨g, 0, none⟩) l.length cap ∧ base ≤ g ∧ g < w.heap.size := by
  rcases h with h | ⟨g, cur, fz, hv, hg, hh, _⟩
  · rcases h.2 with ⟨rfl, h1⟩ | ⟨g, cap, cur, rfl, hb, hh, _⟩
    · exact Or.inl ⟨rfl, List.length_eq_zero_iff.1 h1⟩
    · exact Or.inr ⟨g, cap, rfl, hb, (Array.getElem?_eq_some_iff.1 hh).1⟩
  · exact Or.inr ⟨g, l.length, hv, hg, (Array.getElem?_eq_some_iff.1 hh).1⟩
theorem OwnT.held {w : World} {base : Nat} {e : TypeId} {v : Value} {l : List Nat} (h : OwnT w base e v l) : Held w v l := by
  by_cases h0 : l.length = 0
  · rcases h.form with ⟨rfl, _⟩ | ⟨g, cap, rfl, _⟩
    · exact ⟨none, 0, by rw [h0], Or.inl h0⟩
    · exact ⟨_, cap, rfl, Or.inl h0⟩
  · obtain ⟨g, cap, rfl, hg, hs, _, hc, _⟩ := h.lies h0
    exact ⟨_, cap, rfl, Or.inr ⟨g, 0, rfl, hs, fun i hi => by rw [Nat.zero_add]; exact hc i hi⟩⟩
theorem OwnT.block {w : World} {base : Nat} {e : TypeId} {v : Value} {l : List Nat} (h : OwnT w base e v l) {k : Nat} (hk : v.ownBlock = some k) : base ≤ k ∧ k < w.heap.size := by
  rcases h.form with ⟨rfl, _⟩ | ⟨g, cap, rfl, hb, hh⟩
  · cases hk
  · have e : g = k := Option.some.inj hk
    subst e
    exact ⟨hb, hh⟩
theorem OwnT.keep {w w' : World} {base : Nat} {e : TypeId} {v : Value} {l : List Nat} (h : OwnT w base e v l) (hk : ∀ k, k < w.heap.size → v.ownBlock = some k → w'.heap[k]? = w.heap[k]?) : OwnT w' base e v l := by
  rcases h with h | ⟨g, cur, fz, rfl, hb, hh, r⟩
  · exact Or.inl (h.keep hk)
  · exact Or.inr ⟨g, cur, fz, rfl, hb, (hk g (Array.getElem?_eq_some_iff.1 hh).1 rfl).trans hh, r⟩
theorem OwnT.chg {S : Nat → Prop} {w w' : World} {base : Nat} {e : TypeId} {v : Value} {l : List Nat} (h : OwnT w base e v l) (hc : Chg S w w') (hs : ∀ k, k < w.heap.size → v.ownBlock = some k → ¬ S k) : OwnT w' base e v l :=
  h.keep (fun k hk he => hc.block k hk (hs k hk he))
theorem OwnT.mono {w : World} {base base' : Nat} {e : TypeId} {v : Value} {l : List Nat} (h : OwnT w base e v l) (hb : ∀ k, v.ownBlock = some k → base' ≤ k) : OwnT w base' e v l := by
  rcases h with h | ⟨g, cur, fz, rfl, _, r⟩
  · exact Or.inl (h.mono hb)
  · exact Or.inr ⟨g, cur, fz, rfl, hb g rfl, r⟩
theorem OwnT.store {w : World} {base : Nat} {e : TypeId} {g n cap : Nat} {l : List Nat} (h : OwnT w base e (.slice (some ⟨g, 0, none⟩) n cap) l) (k x : Nat) (_hk : k < l.length) :
    OwnT (w.setCell ⟨g, k, none⟩ (.int .u8 (x : Int))) base e (.slice (some ⟨g, 0, none⟩) n cap) (l.set k x) := by
  rcases h with h | ⟨g', cur, fz, hv, hb, hh, hz, hm, hs, ht⟩
  · exact Or.inl (h.store k x _hk)
  · simp only [Value.slice.injEq, Option.some.injEq, Addr.mk.injEq] at hv
    obtain ⟨⟨rfl, -, -⟩, rfl, rfl⟩ := hv
    refine Or.inr ⟨g, cur.setIfInBounds k (.int .u8 (x : Int)), fz, by simp, hb, ?_, by simpa using hz, by simpa using hm, by simpa using hs, ?_⟩
    · simp [World.setCell, Array.getElem?_modify, hh]
    · rw [Array.toList_setIfInBounds, List.take_set, List.length_set, ht, List.map_set]; rfl
/-- The first n bytes of a block of bytes. -/
theorem Arr.tight {w : World} {g base : Nat} {L : List Nat} (h : Arr w g 5 L) (hb : base ≤ g) (n : Nat) (hn : n ≤ L.length) (hm : n ≤ maxLen) : OwnT w base 5 (.slice (some ⟨g, 0, none⟩) n n) (L.take n) := by
  have e : (L.take n).length = n := by rw [List.length_take]; omega
  refine Or.inr ⟨g, bcells L, (0, 0), by rw [e], hb, h, fun i _ h => by simp at h, by omega, by rw [bcells_size]; omega, ?_⟩
  rw [e]
  show (L.map _).take n = _
  rw [← List.map_take]; rfl
theorem Arr.own {w : World} {g base : Nat} {L : List Nat} (h : Arr w g 5 L) (hb : base ≤ g) (n : Nat) (hn : n = L.length) (hm : n ≤ maxLen) : OwnT w base 5 (.slice (some ⟨g, 0, none⟩) n n) L := by
  have := h.tight hb n (by omega) hm
  rwa [List.take_of_length_le (by omega)] at this
/-- A block of bytes with a mark behind them. -/
def MArr (w : World) (g : Nat) (L : List Nat) : Prop := w.heap[g]? = some (.cells (bcells L) 5 (L.length, L.length + 1))
theorem MArr.lt {w : World} {g : Nat} {L : List Nat} (h : MArr w g L) : g < w.heap.size := (Array.getElem?_eq_some_iff.1 (show w.heap[g]? = some _ from h)).1
theorem MArr.tight {w : World} {g base : Nat} {L : List Nat} (h : MArr w g L) (hb : base ≤ g) (n : Nat) (hn : n = L.length) (hm : n ≤ maxLen) : OwnT w base 5 (.slice (some ⟨g, 0, none⟩) n n) L := by
  subst hn
  refine Or.inr ⟨g, bcells L, _, rfl, hb, h, fun i hi h => by simp at h; omega, hm, by rw [bcells_size]; omega, ?_⟩
  show (L.map _).take _ = _
  rw [List.take_of_length_le (by simp)]; rfl
theorem MArr.chg {S : Nat → Prop} {w w' : World} {g : Nat} {L : List Nat} (h : MArr w g L) (hc : Chg S w w') (hg : ¬ S g) : MArr w' g L := (hc.block g h.lt hg).trans h
theorem MArr.new (w : World) (L : List Nat) : MArr (w.alloc (.cells (bcells L) 5 (L.length, L.length + 1))) w.heap.size L := by
  show (w.heap.push _)[w.heap.size]? = _
  simp
end Go.Proofs.YtifjmilegogbaaaGreat
