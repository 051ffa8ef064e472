/-
  (*Field).Eval: the value of a polynomial. Condition: the block holds a Field that may be asked; the bytes can be read. (*Field).Times: the product of two polynomials. Condition: the block holds a Field that may be asked; the bytes can be read; there is room. Slices of bytes that came in, as lists of numbers. No condition. Slices of bytes that a call itself has made: what append does to them, whatever is appended (nothing, a nil slice, bytes that came in). Conditions: the bytes lie there; there is room (at most 2^47 bytes). Worlds that differ in some blocks alone; slices of bytes that can be read, or written, in them. No condition: lemmas.
-/
import Derived.Test.YtifjmilegogbaaaGreatUPlain
import Derived.Test.YtifjmilegogbaaaGreatUFld
import Derived.Deep.RegionWith
import Derived.OpenShut
import Derived.Maps.AppendAt
namespace Go.Proofs.YtifjmilegogbaaaGreat
set_option maxRecDepth 100000
open Go.RowKit

/-- The bytes l lie at a, outside block b. -/
def Rd (w : World) (b : Nat) (a : Option Addr) (l : List Nat) : Prop :=
  Bys l ∧ (l = [] ∨ ∃ c o, a = some ⟨c, o, none⟩ ∧ c ≠ b ∧ c < w.heap.size ∧ ∀ i, i < l.length → w.cell? ⟨c, o + i, none⟩ = some (.int .u8 (l.getD i 0 : Nat)))
theorem But.cell {b : Nat} {w w' : World} (h : But b w w') {c : Nat} (hc : c < w.heap.size) (hb : c ≠ b) (o : Nat) : w'.cell? ⟨c, o, none⟩ = w.cell? ⟨c, o, none⟩ :=
  World.cell?_of_block (w := w) (h.block c hc hb)
theorem Rd.but {w w' : World} {b : Nat} {a : Option Addr} {l : List Nat} (h : Rd w b a l) (hB : But b w w') : Rd w' b a l := by
  refine ⟨h.1, ?_⟩
  rcases h.2 with h | ⟨c, o, ha, hc, hs, hcell⟩
  · exact Or.inl h
  · exact Or.inr ⟨c, o, ha, hc, Nat.lt_of_lt_of_le hs hB.size, fun i hi => (hB.cell hs hc _).trans (hcell i hi)⟩

set_option maxRecDepth 100000 in
set_option maxHeartbeats 1000000 in
theorem eval_nil (b : Nat) (w : World) (h : Fld w b) (a : Option Addr) (cap : Nat) (x : Int) :
    Calls Tryz.prog 152 #[.pointer (some ⟨b, 0, none⟩), .slice a 0 cap, .int .u8 x] w fun e w' => e = .returned (.int .u8 0) ∧ Fld w' b ∧ But b w w' := by
  go_enter Tryz.func152, Tryz.ntmps152
  go_wp2
  go_loop [7, 12] (fun s i => s = .int .u8 0 ∧ i = .int .i64 0) (fun _ _ => 0)
  case atStart => exact ⟨rfl, rfl⟩
  case round =>
    obtain ⟨rfl, rfl⟩ := hrel
    go_wp2
    go_ret
    exact ⟨rfl, h, But.refl _ _⟩

set_option maxRecDepth 100000 in
set_option maxHeartbeats 1000000 in
theorem eval_some (b : Nat) (w : World) (h : Fld w b) (c o cap : Nat) (l : List Nat) (x : Nat) (hx : x < 256) (hl : Bys l) (hc : c ≠ b) (hs : c < w.heap.size) (hlen : l.length ≤ 9223372036854775807)
    (hcell : ∀ i, i < l.length → w.cell? ⟨c, o + i, none⟩ = some (.int .u8 (l.getD i 0 : Nat))) :
    Calls Tryz.prog 152 #[.pointer (some ⟨b, 0, none⟩), .slice (some ⟨c, o, none⟩) l.length cap, .int .u8 (x : Int)] w fun e w' => e = .returned (.int .u8 (ev x l : Nat)) ∧ Fld w' b ∧ But b w w' := by
  have HC : Hid (∀ i, i < l.length → w.cell? ⟨c, o + i, none⟩ = some (.int .u8 (l.getD i 0 : Nat))) := hcell
  clear hcell
  go_enter Tryz.func152, Tryz.ntmps152
  go_wp2
  go_loopw [7, 12] (fun s i wr => ∃ k : Nat, k ≤ l.length ∧ i = .int .i64 k ∧ s = .int .u8 (ev x (l.take k) : Nat) ∧ Fld wr b ∧ But b w wr) (fun _ i _ => l.length - (intOf i).toNat)
  case atStart => exact ⟨0, by omega, rfl, rfl, h, But.refl _ _⟩
  case round =>
    obtain ⟨k, hk, rfl, rfl, hF, hB⟩ := hrel
    by_cases hlt : k < l.length
    · have hc1 : wr.cell? ⟨c, o + k, none⟩ = some (.int .u8 (l.getD k 0 : Nat)) := (hB.cell hs hc _).trans (HC.out k hlt)
      have he := ev_take_lt x l hl k hk
      have hd := hl.getD k
      have e1 := u8_xor_nat (gm (ev x (l.take k)) x) (l.getD k 0) (gm_lt _ _) hd
      have HE : Hid (ev x (l.take (k + 1)) = gm (ev x (l.take k)) x ^^^ l.getD k 0) := ev_take x l k hlt
      generalize l.getD k 0 = d at *
      generalize ev x (l.take k) = s at *
      go_wp2_with (go_at_call 134; refine (mul_nat b _ hF s x he hx).mono ?_; rintro e w' ⟨rfl, hF', hB'⟩)
      exact ⟨⟨k + 1, by omega, by go_num, by rw [HE.out], hF', hB.trans hB'⟩, by simp [intOf]; omega⟩
    · have e : k = l.length := by omega
      have HK : Hid (k = l.length) := e
      clear e
      go_wp2_with fail
      go_ret
      exact ⟨by rw [HK.out, List.take_length]; rfl, hF, hB⟩

theorem eval_any (b : Nat) (w : World) (h : Fld w b) (a : Option Addr) (n cap : Nat) (l : List Nat) (hn : n = l.length) (hlen : l.length ≤ 9223372036854775807) (x : Nat) (hx : x < 256) (hr : Rd w b a l) :
    Calls Tryz.prog 152 #[.pointer (some ⟨b, 0, none⟩), .slice a n cap, .int .u8 (x : Int)] w fun e w' => e = .returned (.int .u8 (ev x l : Nat)) ∧ Fld w' b ∧ But b w w' := by
  subst hn
  obtain ⟨hl, h0 | ⟨c, o, rfl, hc, hs, hcell⟩⟩ := hr
  · subst h0
    exact eval_nil b w h a cap x
  · exact eval_some b w h c o cap l x hx hl hc hs hlen hcell
end Go.Proofs.YtifjmilegogbaaaGreat
namespace Go.Proofs.YtifjmilegogbaaaGreat
set_option maxRecDepth 100000
open Go.RowKit

/-- Bytes as cells. -/
def bcells (l : List Nat) : Array Value := (l.map fun (n : Nat) => Value.int .u8 (n : Int)).toArray
theorem bcells_size (l : List Nat) : (bcells l).size = l.length := by simp [bcells]
theorem bcells_at (l : List Nat) (i : Nat) (h : i < l.length) : (bcells l)[i]? = some (.int .u8 (l.getD i 0 : Nat)) := by
  simp [bcells, List.getD_eq_getElem?_getD, List.getElem?_eq_getElem h]
theorem bcells_set (l : List Nat) (i v : Nat) : (bcells l).setIfInBounds i (.int .u8 (v : Int)) = bcells (l.set i v) := by
  apply Array.ext'
  simp [bcells, List.map_set]
/-- Block g holds the bytes l, and no more. -/
def Bat (w : World) (g : Nat) (l : List Nat) : Prop := w.heap[g]? = some (.cells (bcells l) 5)
theorem Bat.cell {w : World} {g : Nat} {l : List Nat} (h : Bat w g l) (i : Nat) (hi : i < l.length) : w.cell? ⟨g, i, none⟩ = some (.int .u8 (l.getD i 0 : Nat)) := by
  have h' : w.heap[g]? = some (.cells (bcells l) 5) := h
  simp only [World.cell?, h', bcells_at l i hi]; simp
theorem Bat.frozen {w : World} {g : Nat} {l : List Nat} (h : Bat w g l) (i : Nat) : w.frozen? ⟨g, i, none⟩ = false := by
  have h' : w.heap[g]? = some (.cells (bcells l) 5) := h
  simp [World.frozen?, h']
theorem Bat.lt {w : World} {g : Nat} {l : List Nat} (h : Bat w g l) : g < w.heap.size := by
  have h' : w.heap[g]? = some (.cells (bcells l) 5) := h
  exact (Array.getElem?_eq_some_iff.1 h').1
theorem Bat.store {w : World} {g : Nat} {l : List Nat} (h : Bat w g l) (i v : Nat) : Bat (w.setCell ⟨g, i, none⟩ (.int .u8 (v : Int))) g (l.set i v) := by
  have h' : w.heap[g]? = some (.cells (bcells l) 5) := h
  show (w.setCell ⟨g, i, none⟩ (.int .u8 (v : Int))).heap[g]? = _
  simp [World.setCell, Array.getElem?_modify, h', bcells_set]
theorem Bat.but {w w' : World} {b g : Nat} {l : List Nat} (h : Bat w g l) (hB : But b w w') (hg : g ≠ b) : Bat w' g l := (hB.block g h.lt hg).trans h
theorem Bat.drew {w : World} {g : Nat} {l : List Nat} (h : Bat w g l) : Bat w.drew g l := h
theorem Bat.rd {w : World} {g b : Nat} {l : List Nat} (h : Bat w g l) (hl : Bys l) (hg : g ≠ b) : Rd w b (some ⟨g, 0, none⟩) l :=
  ⟨hl, Or.inr ⟨g, 0, rfl, hg, h.lt, fun i hi => by rw [Nat.zero_add]; exact h.cell i hi⟩⟩
theorem Fld.drew {w : World} {b : Nat} (h : Fld w b) : Fld w.drew b := h
theorem Fld.lt {w : World} {b : Nat} (h : Fld w b) : b < w.heap.size := by
  rcases h with h | h
  · exact h.lt
  · exact h.lt
theorem Fat.other {w w' : World} {b : Nat} {d m : Int} {k : Nat} (h : Fat w b d m k) (e : w'.heap[b]? = w.heap[b]?) : Fat w' b d m k := e.trans h
theorem Fld.other {w w' : World} {b : Nat} (h : Fld w b) (e : w'.heap[b]? = w.heap[b]?) : Fld w' b := by
  rcases h with h | h
  · exact Or.inl (h.other e)
  · exact Or.inr (h.other e)
/-- A new block. -/
theorem But.alloc {b : Nat} {u w : World} (h : But b u w) (o : Obj) : But b u (w.alloc o) :=
  h.trans ⟨rfl, rfl, rfl, by simp, fun k hk _ => Below.heap_alloc _ _ _ hk⟩
/-- A store into a block that is new since u. -/
theorem But.setNew {b : Nat} {u w : World} (h : But b u w) {g : Nat} (hg : u.heap.size ≤ g) (o : Nat) (v : Value) : But b u (w.setCell ⟨g, o, none⟩ v) :=
  ⟨h.os, h.tape, h.output, by simp [World.setCell]; exact h.size, fun k hk hb => (Below.heap_setCell _ _ _ _ (by simp; omega)).trans (h.block k hk hb)⟩
theorem Bat.new (w : World) (l : List Nat) : Bat (w.alloc (.cells (bcells l) 5)) w.heap.size l := by
  show (w.heap.push _)[w.heap.size]? = _
  simp
theorem Fld.alloc {w : World} {b : Nat} (h : Fld w b) (o : Obj) : Fld (w.alloc o) b := h.other (Below.heap_alloc _ _ _ h.lt)
theorem Fld.setOther {w : World} {b : Nat} (h : Fld w b) {g : Nat} (hg : g ≠ b) (o : Nat) (v : Value) : Fld (w.setCell ⟨g, o, none⟩ v) b :=
  h.other (Below.heap_setCell _ _ _ _ (by simp; omega))

theorem info5_all : (Tryz.prog.info? 5).map (fun i => (i.zero, i.size, i.bytes)) = some (some (.int .u8 0), 1, 1) := by kernel_rfl
theorem info5 : ∃ i, Tryz.prog.info? 5 = some i ∧ i.zero = some (.int .u8 0) ∧ i.size = 1 ∧ i.bytes = 1 := by
  have h := info5_all
  cases e : Tryz.prog.info? 5 with
  | none => rw [e] at h; cases h
  | some i =>
    rw [e] at h
    simp only [Option.map_some, Option.some.injEq, Prod.mk.injEq] at h
    exact ⟨i, rfl, h.1, h.2.1, h.2.2⟩
theorem made_bytes (n : Nat) : madeCells (Value.int .u8 0).cells n = bcells (List.replicate n 0) := by
  apply Array.ext_getElem?
  intro i
  by_cases h : i < n
  · rw [bcells_at _ _ (by simpa using h)]
    simp [madeCells, Value.cells, h, Nat.mod_one]
  · rw [Array.getElem?_eq_none (by rw [size_madeCells]; omega), Array.getElem?_eq_none (by rw [bcells_size]; simp; omega)]
theorem make_bytes (w : World) (L : Int) (n : Nat) (hL : L = n) (hn : n ≤ 281474976710656) :
    (Instr.makeSlice 55 (.int .i64 L) (.int .i64 L)).run Tryz.prog w = .ok (.slice (some ⟨w.heap.size, 0, none⟩) n n) (w.alloc (.cells (bcells (List.replicate n 0)) 5)) := by
  obtain ⟨i, h1, h2, h3, h4⟩ := info5
  have h := run_make (P := Tryz.prog) w 55 5 i (.int .u8 0) Tryz.underlying55 h1 h2 .i64 .i64 L L (by omega) (by omega) (by rw [h4]; omega) (by omega)
  rw [h, hL, h3, Int.toNat_natCast, Nat.mul_one, made_bytes]

set_option maxRecDepth 100000 in
set_option maxHeartbeats 2000000 in
theorem times_some (b : Nat) (w : World) (h : Fld w b) (c o cap c2 o2 cap2 : Nat) (p q : List Nat) (hp : Bys p) (hq : Bys q) (hc : c ≠ b) (hs : c < w.heap.size) (hc2 : c2 ≠ b) (hs2 : c2 < w.heap.size)
    (p0 : p.length ≠ 0) (q0 : q.length ≠ 0) (n : Nat) (hn : n = p.length + q.length - 1) (hlen : p.length ≤ 140737488351232) (hlen2 : q.length ≤ 140737488351232)
    (hcell : ∀ i, i < p.length → w.cell? ⟨c, o + i, none⟩ = some (.int .u8 (p.getD i 0 : Nat)))
    (hcell2 : ∀ i, i < q.length → w.cell? ⟨c2, o2 + i, none⟩ = some (.int .u8 (q.getD i 0 : Nat))) :
    Calls Tryz.prog 117 #[.pointer (some ⟨b, 0, none⟩), .slice (some ⟨c, o, none⟩) p.length cap, .slice (some ⟨c2, o2, none⟩) q.length cap2] w fun e w' =>
      e = .returned (.slice (some ⟨w.heap.size, 0, none⟩) n n) ∧ Bat w' w.heap.size (tm p q) ∧ Fld w' b ∧ But b w w' := by
  have HC : Hid (∀ i, i < p.length → w.cell? ⟨c, o + i, none⟩ = some (.int .u8 (p.getD i 0 : Nat))) := hcell
  have HC2 : Hid (∀ i, i < q.length → w.cell? ⟨c2, o2 + i, none⟩ = some (.int .u8 (q.getD i 0 : Nat))) := hcell2
  clear hcell hcell2
  have hb := h.lt
  have hgb : w.heap.size ≠ b := by omega
  have hp0 : ((p.length : Int) == 0) = false := by rw [beq_eq_false_iff_ne]; omega
  have hq0 : ((q.length : Int) == 0) = false := by rw [beq_eq_false_iff_ne]; omega
  have hmk := make_bytes w ((p.length : Int) + q.length - 1) n (by omega) (by omega)
  have hB0 : But b w (w.alloc (.cells (bcells (List.replicate n 0)) 5)) := (But.refl _ _).alloc _
  have hF0 := h.alloc (.cells (bcells (List.replicate n 0)) 5)
  have hP0 : Bat (w.alloc (.cells (bcells (List.replicate n 0)) 5)) w.heap.size (outer p q 0) := by rw [hn]; exact Bat.new w _
  have HT : Hid (tm p q = outer p q p.length) := by unfold tm; rw [if_neg (by omega)]; exact rfl
  have HN : Hid (n = p.length + q.length - 1) := hn
  clear hn
  go_enter Tryz.func117, Tryz.ntmps117
  go_wp2
  go_loopw [29] (fun t wr => ∃ i : Nat, i ≤ p.length ∧ t = .int .i64 i ∧ Bat wr w.heap.size (outer p q i) ∧ Fld wr b ∧ But b w wr) (fun t _ => p.length - (intOf t).toNat)
  case atStart => exact ⟨0, by omega, rfl, hP0, hF0, hB0⟩
  case round =>
    clear hmk hB0 hF0 hP0
    obtain ⟨i, hi, rfl, hP, hF, hB⟩ := hrel
    by_cases hlt : i < p.length
    · have hc1 : wr.cell? ⟨c, o + i, none⟩ = some (.int .u8 (p.getD i 0 : Nat)) := (hB.cell hs hc _).trans (HC.out i hlt)
      have hd := hp.getD i
      have HO : Hid (outer p q (i + 1) = inner (p.getD i 0) q i (outer p q i) q.length) := rfl
      generalize p.getD i 0 = d at *
      go_wp2
      go_loopw [36] (fun t wx => ∃ j : Nat, j ≤ q.length ∧ t = .int .i64 j ∧ Bat wx w.heap.size (inner d q i (outer p q i) j) ∧ Fld wx b ∧ But b w wx) (fun t _ => q.length - (intOf t).toNat)
      case atStart => exact ⟨0, by omega, rfl, hP, hF, hB⟩
      case round =>
        clear hc1 hP hF hB
        obtain ⟨j, hj, rfl, hP, hF, hB⟩ := hrel
        by_cases hlt2 : j < q.length
        · have hc1 : wr.cell? ⟨c2, o2 + j, none⟩ = some (.int .u8 (q.getD j 0 : Nat)) := (hB.cell hs2 hc2 _).trans (HC2.out j hlt2)
          have hd2 := hq.getD j
          have HJ : Hid (inner d q i (outer p q i) (j + 1) = addAt (inner d q i (outer p q i) j) (i + j) (gm d (q.getD j 0))) := rfl
          generalize q.getD j 0 = d2 at *
          generalize hIL : inner d q i (outer p q i) j = L at *
          have hLlen : L.length = n := by rw [← hIL, inner_length, outer_length, HN.out]
          have hLb : Bys L := by rw [← hIL]; exact inner_bys _ _ _ _ (outer_bys p q i) j
          have HIL : Hid (inner d q i (outer p q i) (j + 1) = addAt L (i + j) (gm d d2)) := HJ.out
          clear hIL HJ
          have hij : i + j < L.length := by have := HN.out; omega
          have hb1 : (0 : Int) ≤ (i : Int) + (j : Int) := by omega
          have hb2 : (i : Int) + (j : Int) < (n : Int) := by omega
          have hm := hLb.getD (i + j)
          have hcn := hP.cell (i + j) hij
          have hfn := hP.frozen (i + j)
          have HAD : Hid (addAt L (i + j) (gm d d2) = L.set (i + j) (L.getD (i + j) 0 ^^^ gm d d2)) := rfl
          generalize hM : L.getD (i + j) 0 = m at *
          have HM : Hid (L.getD (i + j) 0 = m) := hM
          clear hM
          have e1 := u8_xor_nat m (gm d d2) hm (gm_lt _ _)
          have HLL : Hid (L.length = n) := hLlen
          clear hLlen hLb
          go_wp2_with fail
          have hwr : IntKind.i64.wrap ((i : Int) + (j : Int)) = (i : Int) + (j : Int) := by rw [IntKind.wrap_i64]; omega
          have hwt : ((i : Int) + (j : Int)).toNat = i + j := by omega
          go_region_with (go_at_call 134; refine (mul_nat b _ ?_ d d2 hd hd2).mono ?_; (exact hF.drew); rintro e w' ⟨rfl, hF', hB'⟩; have hP' : Bat w' w.heap.size L := (hP.drew.but hB' hgb); have hcn' : w'.cell? ⟨w.heap.size, i + j, none⟩ = some (.int .u8 (m : Nat)) := ((hP'.cell (i + j) hij).trans (by rw [HM.out])); have hfn' := hP'.frozen (i + j))
          all_goals
            clear hwr hwt hcn hfn
            have hP2 : Bat (w'.setCell ⟨w.heap.size, i + j, none⟩ (.int .u8 ((m ^^^ gm d d2 : Nat) : Int))) w.heap.size (inner d q i (outer p q i) (j + 1)) := by
              rw [HIL.out, HAD.out]; exact hP'.store (i + j) _
            go_wp2
            exact ⟨⟨j + 1, by omega, by go_num, hP2, hF'.setOther hgb _ _, ((hB.drew.trans hB').setNew (Nat.le_refl _) _ _)⟩, by simp [intOf]; omega⟩
        · have e : j = q.length := by omega
          have hP2 : Bat wr w.heap.size (outer p q (i + 1)) := by rw [HO.out, ← e]; exact hP
          clear e hP
          go_wp2
          exact ⟨⟨i + 1, by omega, by go_num, hP2, hF, hB⟩, by simp [intOf]; omega⟩
    · have e : i = p.length := by omega
      have hP2 : Bat wr w.heap.size (tm p q) := by rw [HT.out, ← e]; exact hP
      clear e hP
      go_wp2
      go_ret
      exact ⟨rfl, hP2, hF, hB⟩

theorem times_zero_p (b : Nat) (w : World) (a a2 : Option Addr) (cap n2 cap2 : Nat) :
    Calls Tryz.prog 117 #[.pointer (some ⟨b, 0, none⟩), .slice a 0 cap, .slice a2 n2 cap2] w fun e w' => e = .returned (.slice none 0 0) ∧ w' = w := by
  go_enter Tryz.func117, Tryz.ntmps117
  go_wp2
  go_ret
  exact ⟨rfl, rfl⟩
theorem times_zero_q (b : Nat) (w : World) (a a2 : Option Addr) (n cap cap2 : Nat) (hn : n ≠ 0) :
    Calls Tryz.prog 117 #[.pointer (some ⟨b, 0, none⟩), .slice a n cap, .slice a2 0 cap2] w fun e w' => e = .returned (.slice none 0 0) ∧ w' = w := by
  have hp0 : ((n : Int) == 0) = false := by rw [beq_eq_false_iff_ne]; omega
  go_enter Tryz.func117, Tryz.ntmps117
  go_wp2
  go_ret
  exact ⟨rfl, rfl⟩
/-- (*Field).Times, of whatever can be read: the product, in new memory. -/
theorem times_any (b : Nat) (w : World) (h : Fld w b) (a a2 : Option Addr) (n cap n2 cap2 : Nat) (p q : List Nat) (hn : n = p.length) (hn2 : n2 = q.length) (hlen : p.length ≤ 140737488351232) (hlen2 : q.length ≤ 140737488351232)
    (hp : Rd w b a p) (hq : Rd w b a2 q) :
    Calls Tryz.prog 117 #[.pointer (some ⟨b, 0, none⟩), .slice a n cap, .slice a2 n2 cap2] w fun e w' =>
      ∃ (at_ : Option Addr) (m : Nat), e = .returned (.slice at_ m m) ∧ m = (tm p q).length ∧ (((n = 0 ∨ n2 = 0) ∧ at_ = none) ∨ (n ≠ 0 ∧ n2 ≠ 0 ∧ at_ = some ⟨w.heap.size, 0, none⟩ ∧ Bat w' w.heap.size (tm p q))) ∧ Fld w' b ∧ But b w w' := by
  subst hn hn2
  by_cases p0 : p.length = 0
  · rw [p0]
    refine (times_zero_p b w a a2 cap _ cap2).mono ?_
    rintro e w' ⟨rfl, rfl⟩
    exact ⟨none, 0, rfl, by unfold tm; rw [if_pos (Or.inl p0)]; rfl, Or.inl ⟨Or.inl rfl, rfl⟩, h, But.refl _ _⟩
  by_cases q0 : q.length = 0
  · rw [q0]
    refine (times_zero_q b w a a2 _ cap cap2 p0).mono ?_
    rintro e w' ⟨rfl, rfl⟩
    exact ⟨none, 0, rfl, by unfold tm; rw [if_pos (Or.inr q0)]; rfl, Or.inl ⟨Or.inr rfl, rfl⟩, h, But.refl _ _⟩
  obtain ⟨hpb, hp1 | ⟨c, o, rfl, hc, hs, hcell⟩⟩ := hp
  · rw [hp1] at p0; exact absurd rfl p0
  obtain ⟨hqb, hq1 | ⟨c2, o2, rfl, hc2, hs2, hcell2⟩⟩ := hq
  · rw [hq1] at q0; exact absurd rfl q0
  refine (times_some b w h c o cap c2 o2 cap2 p q hpb hqb hc hs hc2 hs2 p0 q0 _ rfl hlen hlen2 hcell hcell2).mono ?_
  rintro e w' ⟨rfl, hP, hF, hB⟩
  exact ⟨_, _, rfl, (tm_length p q p0 q0).symm, Or.inr ⟨p0, q0, rfl, hP⟩, hF, hB⟩
end Go.Proofs.YtifjmilegogbaaaGreat
namespace Go.Proofs.YtifjmilegogbaaaGreat
set_option maxRecDepth 100000
open Go.RowKit

/-- A slice of integers that came in: it is nil; or it leads to a row of 'cap' cells, the numbers 'zs' (the first 'len' are its elements, the rest its spare room), each fitting its kind. -/
def IsRow (k : IntKind) (w : World) (a : Option Addr) (len cap : Nat) (zs : List Int) : Prop :=
  (a = none ∧ len = 0 ∧ cap = 0 ∧ zs = []) ∨
  ∃ x, a = some x ∧ len ≤ cap ∧ cap ≤ maxLen ∧ zs.length = cap ∧ (∀ i, i < zs.length → w.cell? (x.add i) = some (.int k (zs.getD i 0))) ∧ ∀ n ∈ zs, (Lit.int k n).wf = true

theorem cell_lt {w : World} {a : Addr} {v : Value} (h : w.cell? a = some v) : a.block < w.heap.size := by
  by_cases hb : a.block < w.heap.size
  · exact hb
  · rw [World.cell?, Array.getElem?_eq_none (by omega)] at h; cases h
theorem rd_of_row {w : World} {a : Option Addr} {len cap : Nat} {zs : List Int} (h : IsRow .u8 w a len cap zs) :
    ∃ l : List Nat, l.length = len ∧ len ≤ cap ∧ (a = none → len = 0 ∧ cap = 0) ∧ ∀ b, w.heap.size ≤ b → Rd w b a l := by
  rcases h with ⟨rfl, rfl, rfl, rfl⟩ | ⟨x, rfl, hl, hm, hz, hcell, hwz⟩
  · exact ⟨[], rfl, Nat.le_refl _, fun _ => ⟨rfl, rfl⟩, fun b _ => ⟨fun n hn => (by cases hn), Or.inl rfl⟩⟩
  · refine ⟨(zs.take len).map Int.toNat, by simp; omega, hl, fun h => (by cases h), fun b hb => ⟨?_, ?_⟩⟩
    · intro n hn
      obtain ⟨z, hz1, rfl⟩ := List.mem_map.1 hn
      have := bounds_u8 (hwz z (List.mem_of_mem_take hz1))
      omega
    · by_cases h0 : len = 0
      · left; subst h0; rfl
      · right
        obtain ⟨c, o, spot⟩ := x
        have hspot : spot = none := by simpa [Addr.add] using World.cell?_spot (hcell 0 (by omega))
        subst hspot
        have hlt : c < w.heap.size := by simpa [Addr.add] using cell_lt (hcell 0 (by omega))
        refine ⟨c, o, rfl, by omega, hlt, fun i hi => ?_⟩
        have hi' : i < len := by simp at hi; omega
        have h1 : w.cell? ⟨c, o + i, none⟩ = some (.int .u8 (zs.getD i 0)) := by
          have hh := hcell i (by omega)
          simp only [Addr.add] at hh
          by_cases i0 : i = 0
          · subst i0; simpa using hh
          · simpa [i0] using hh
        rw [h1]
        have hb1 := bounds_u8 (hwz (zs.getD i 0) (by rw [List.getD_eq_getElem?_getD, List.getElem?_eq_getElem (by omega)]; exact List.getElem_mem _))
        have e : ((zs.take len).map Int.toNat).getD i 0 = (zs.getD i 0).toNat := by
          rw [List.getD_eq_getElem?_getD, List.getElem?_map, List.getElem?_take_of_lt hi', List.getD_eq_getElem?_getD, List.getElem?_eq_getElem (by omega)]; rfl
        rw [e]
        congr 2
        omega
end Go.Proofs.YtifjmilegogbaaaGreat
namespace Go.Proofs.YtifjmilegogbaaaGreat
set_option maxRecDepth 100000
open Go.RowKit

/-- A byte, as a value. -/
def byt (n : Nat) : Value := .int .u8 (n : Int)
/-- The slice v is the call's own (its block is base or above), of the bytes l. -/
def Own (w : World) (base : Nat) (e : TypeId) (v : Value) (l : List Nat) : Prop := w.ownsRow base e 1 v l.length (l.map byt)
theorem byt_one (l : List Nat) : ∀ u ∈ l.map byt, u.oneCell' = true := by
  intro u hu
  obtain ⟨n, _, rfl⟩ := List.mem_map.1 hu
  rfl
theorem Own.nil (w : World) (base : Nat) (e : TypeId) : Own w base e (.slice none 0 0) [] := ⟨rfl, Or.inl ⟨rfl, rfl⟩⟩
/-- Where it lies. -/
theorem Own.lies {w : World} {base : Nat} {e : TypeId} {v : Value} {l : List Nat} (h : Own w base e v l) (h0 : l.length ≠ 0) :
    ∃ g cap, v = .slice (some ⟨g, 0, none⟩) l.length cap ∧ base ≤ g ∧ g < w.heap.size ∧ l.length ≤ cap ∧ (∀ i, i < l.length → w.cell? ⟨g, i, none⟩ = some (.int .u8 (l.getD i 0 : Nat))) ∧ ∀ i, w.frozen? ⟨g, i, none⟩ = false := by
  rcases h.2 with ⟨_, h1⟩ | ⟨g, cap, cur, hv, hg, hh, hn, hm, hs, ht⟩
  · exact absurd h1 h0
  · refine ⟨g, cap, hv, hg, (Array.getElem?_eq_some_iff.1 hh).1, hn, fun i hi => ?_, fun i => by simp [World.frozen?, hh]⟩
    have e1 : cur[i]? = some (byt (l.getD i 0)) := by
      have h2 : (cur.toList.take (l.length * 1))[i]? = (l.map byt)[i]? := by rw [ht]
      rw [List.getElem?_take_of_lt (by omega), List.getElem?_map, List.getElem?_eq_getElem hi, Array.getElem?_toList] at h2
      rw [h2, List.getD_eq_getElem?_getD, List.getElem?_eq_getElem hi]; rfl
    simp only [World.cell?, hh]
    simpa [byt] using e1
theorem Own.rd {w : World} {base b : Nat} {e : TypeId} {a : Option Addr} {n cap : Nat} {l : List Nat} (h : Own w base e (.slice a n cap) l) (hl : Bys l) (hb : b < base) : Rd w b a l := by
  refine ⟨hl, ?_⟩
  by_cases h0 : l.length = 0
  · exact Or.inl (List.length_eq_zero_iff.1 h0)
  · obtain ⟨g, cap', hv, hg, hs, _, hc, _⟩ := h.lies h0
    simp only [Value.slice.injEq] at hv
    exact Or.inr ⟨g, 0, hv.1, by omega, hs, fun i hi => by rw [Nat.zero_add]; exact hc i hi⟩

/-- 'append(v, x...)', v the call's own, x whatever can be read. -/
theorem wpList_append_bytes {P : Program} (w : World) {ops : Array Oper} {rest : List Oper} {o : Oper} {a : Act} {Q : Exit → Act → World → Prop} (hgd : o.guard = none) (s x : Operand) (t : TypeId)
    (ho : o.op = .call { callee := .builtin .append, args := #[s, x], argTypes := #[t, t] })
    (base : Nat) (e : TypeId) (ht : P.underlying t = some (.slice e)) (hi : ∃ i, P.info? e = some i ∧ i.zero = some (.int .u8 0) ∧ i.size = 1 ∧ i.bytes = 1)
    (v : Value) (l : List Nat) (hs : a.eval s = v) (hown : Own w base e v l)
    (ao : Option Addr) (m c : Nat) (l2 : List Nat) (hx : a.eval x = .slice ao m c) (hm : l2.length = m) (hnone : ao = none → m = 0 ∧ c = 0)
    (hc : ∀ ad, ao = some ad → ∀ j, j < m → w.cell? (ad.add j) = some (.int .u8 (l2.getD j 0 : Nat)))
    (hbytes : l.length + m ≤ 140737488355328) (hbase : base ≤ w.heap.size) (H : Nat) (hH : w.heap.size = H)
    (h : ∀ v' w', Own w' base e v' (l ++ l2) → w.grownBy w' v.ownBlock → (v'.ownBlock = v.ownBlock ∨ v'.ownBlock = some H) → wpList P ops Q rest (a.put o.dst v') w') : wpList P ops Q (o :: rest) a w := by
  obtain ⟨i, hi1, hi2, hi3, hi4⟩ := hi
  cases ao with
  | some ad =>
    refine wpList_append_own_at w hgd s x t ho base e i (.int .u8 0) 1 1 ht hi1 hi2 hi3 hi4 rfl (by decide) v l.length (l.map byt) hs hown ad m c (l2.map byt) hx (by simp [hm]) ?_ (byt_one l2) (by unfold maxLen; omega) (by omega) hbase ?_
    · intro j u hu
      have hj : j < l2.length := by
        have := (List.getElem?_eq_some_iff.1 hu).1
        simpa using this
      rw [List.getElem?_map, List.getElem?_eq_getElem hj] at hu
      have e1 := hc ad rfl j (by omega)
      rw [List.getD_eq_getElem?_getD, List.getElem?_eq_getElem hj] at e1
      rw [e1]
      exact hu
    · intro v' w' h1 h2 _ h4
      refine h v' w' ?_ h2 (by rw [← hH]; exact h4)
      unfold Own
      rw [List.length_append, hm, List.map_append]
      exact h1
  | none =>
    obtain ⟨rfl, rfl⟩ := hnone rfl
    have hl2 : l2 = [] := List.length_eq_zero_iff.1 hm
    subst hl2
    refine wpList_plain hgd fun K hK => ?_
    have hrun := run_append_owned_none (P := P) w base t o.type e i 1 ht hi1 v l.length (l.map byt) hown
    unfold Oper.wp
    simp [execOp, ho, resolve, invoke, builtin, hs, hx, hrun, Result.andThen]
    refine hK _ _ (h v w ?_ ⟨rfl, rfl, rfl, Nat.le_refl _, fun _ _ _ => rfl⟩ (Or.inl rfl))
    rw [List.append_nil]
    exact hown
end Go.Proofs.YtifjmilegogbaaaGreat
namespace Go.Proofs.YtifjmilegogbaaaGreat
set_option maxRecDepth 100000
open Go.RowKit

/-- w' is w, but for the blocks of S and for new ones. -/
structure Chg (S : Nat → Prop) (w w' : World) : Prop where
  os : w'.os = w.os
  tape : w'.tape = w.tape
  output : w'.output = w.output
  size : w.heap.size ≤ w'.heap.size
  block : ∀ k, k < w.heap.size → ¬ S k → w'.heap[k]? = w.heap[k]?
theorem Chg.refl (S : Nat → Prop) (w : World) : Chg S w w := ⟨rfl, rfl, rfl, Nat.le_refl _, fun _ _ _ => rfl⟩
theorem Chg.trans {S : Nat → Prop} {u v w : World} (h : Chg S u v) (k : Chg S v w) : Chg S u w :=
  ⟨k.os.trans h.os, k.tape.trans h.tape, k.output.trans h.output, Nat.le_trans h.size k.size, fun i hi hs => (k.block i (Nat.lt_of_lt_of_le hi h.size) hs).trans (h.block i hi hs)⟩
/-- What the second step changes besides is new since the first. -/
theorem Chg.trans' {S T : Nat → Prop} {u v w : World} (h : Chg S u v) (k : Chg T v w) (hT : ∀ i, i < u.heap.size → T i → S i) : Chg S u w :=
  ⟨k.os.trans h.os, k.tape.trans h.tape, k.output.trans h.output, Nat.le_trans h.size k.size, fun i hi hs => (k.block i (Nat.lt_of_lt_of_le hi h.size) (fun ht => hs (hT i hi ht))).trans (h.block i hi hs)⟩
theorem Chg.mono {S T : Nat → Prop} {u v : World} (h : Chg S u v) (hT : ∀ i, i < u.heap.size → S i → T i) : Chg T u v :=
  ⟨h.os, h.tape, h.output, h.size, fun i hi hs => h.block i hi (fun hh => hs (hT i hi hh))⟩
theorem Chg.drew {S : Nat → Prop} {u w : World} (h : Chg S u w) : Chg S u w.drew := ⟨h.os, h.tape, h.output, h.size, h.block⟩
theorem Chg.alloc {S : Nat → Prop} {u w : World} (h : Chg S u w) (o : Obj) : Chg S u (w.alloc o) :=
  h.trans ⟨rfl, rfl, rfl, by simp, fun k hk _ => Below.heap_alloc _ _ _ hk⟩
theorem Chg.setCell {S : Nat → Prop} {u w : World} (h : Chg S u w) {g : Nat} (hg : S g ∨ u.heap.size ≤ g) (o : Nat) (v : Value) : Chg S u (w.setCell ⟨g, o, none⟩ v) :=
  ⟨h.os, h.tape, h.output, by simp [World.setCell]; exact h.size, fun k hk hs => (Below.heap_setCell _ _ _ _ (by
    rcases hg with hg | hg
    · intro e; exact hs (by rw [e]; exact hg)
    · simp; omega)).trans (h.block k hk hs)⟩
theorem Chg.grown {S : Nat → Prop} {u w w' : World} {row : Option Nat} (h : Chg S u w) (hg : w.grownBy w' row) (hr : ∀ k, row = some k → S k ∨ u.heap.size ≤ k) : Chg S u w' :=
  ⟨hg.os.trans h.os, hg.tape.trans h.tape, hg.output.trans h.output, Nat.le_trans h.size hg.size, fun k hk hs => (hg.block k (Nat.lt_of_lt_of_le hk h.size) (fun e => by
    rcases hr k e.symm with h1 | h1
    · exact hs h1
    · omega)).trans (h.block k hk hs)⟩
theorem Chg.below {S : Nat → Prop} {w w' : World} (h : Chg S w w') {B : Nat} (hS : ∀ k, S k → B ≤ k) (hB : B ≤ w.heap.size) : Below B w w' :=
  ⟨h.os, h.tape, h.output, h.size, fun k hk => h.block k (by omega) (fun hh => by have := hS k hh; omega)⟩
theorem But.chg {b : Nat} {w w' : World} (h : But b w w') : Chg (· = b) w w' := ⟨h.os, h.tape, h.output, h.size, h.block⟩
theorem Chg.but {b : Nat} {w w' : World} (h : Chg (fun _ => False) w w') : But b w w' := ⟨h.os, h.tape, h.output, h.size, fun k hk _ => h.block k hk (fun f => f)⟩
theorem Below.chg {B : Nat} {w w' : World} (h : Below B w w') : Chg (fun k => B ≤ k) w w' := ⟨h.os, h.tape, h.output, h.size, fun k _ hs => h.block k (by omega)⟩
theorem Chg.drewN {S : Nat → Prop} {u w : World} (h : Chg S u w) (n : Nat) : Chg S u (w.drewN n) := by
  induction n with
  | zero => exact h
  | succ n ih => exact ih.drew

/-- The slice v reads as the bytes l. -/
def Held (w : World) (v : Value) (l : List Nat) : Prop :=
  ∃ a cap, v = .slice a l.length cap ∧ (l.length = 0 ∨ ∃ g o, a = some ⟨g, o, none⟩ ∧ g < w.heap.size ∧ ∀ i, i < l.length → w.cell? ⟨g, o + i, none⟩ = some (.int .u8 (l.getD i 0 : Nat)))
theorem Held.keep {w w' : World} {v : Value} {l : List Nat} (h : Held w v l) (hs : w.heap.size ≤ w'.heap.size) (hk : ∀ k, k < w.heap.size → v.ownBlock = some k → w'.heap[k]? = w.heap[k]?) : Held w' v l := by
  obtain ⟨a, cap, rfl, h⟩ := h
  refine ⟨a, cap, rfl, ?_⟩
  rcases h with h | ⟨g, o, rfl, hg, hc⟩
  · exact Or.inl h
  · exact Or.inr ⟨g, o, rfl, Nat.lt_of_lt_of_le hg hs, fun i hi => (World.cell?_of_block (w := w) (a := ⟨g, o + i, none⟩) (hk g hg rfl)).trans (hc i hi)⟩
theorem Held.chg {S : Nat → Prop} {w w' : World} {v : Value} {l : List Nat} (h : Held w v l) (hc : Chg S w w') (hs : ∀ k, k < w.heap.size → v.ownBlock = some k → ¬ S k) : Held w' v l :=
  h.keep hc.size (fun k hk he => hc.block k hk (hs k hk he))
theorem Own.held {w : World} {base : Nat} {e : TypeId} {v : Value} {l : List Nat} (h : Own w base e v l) : Held w v l := by
  by_cases h0 : l.length = 0
  · rcases h.2 with ⟨rfl, _⟩ | ⟨g, cap, cur, rfl, _⟩
    · exact ⟨none, 0, by rw [h0], Or.inl h0⟩
    · exact ⟨_, cap, rfl, Or.inl h0⟩
  · obtain ⟨g, cap, rfl, hg, hs, _, hc, _⟩ := h.lies h0
    exact ⟨_, cap, rfl, Or.inr ⟨g, 0, rfl, hs, fun i hi => by rw [Nat.zero_add]; exact hc i hi⟩⟩
theorem Own.block {w : World} {base : Nat} {e : TypeId} {v : Value} {l : List Nat} (h : Own w base e v l) {k : Nat} (hk : v.ownBlock = some k) : base ≤ k ∧ k < w.heap.size := by
  rcases h.2 with ⟨rfl, _⟩ | ⟨g, cap, cur, rfl, hb, hh, _⟩
  · cases hk
  · have e : g = k := Option.some.inj hk
    subst e
    exact ⟨hb, (Array.getElem?_eq_some_iff.1 hh).1⟩
theorem Own.keep {w w' : World} {base : Nat} {e : TypeId} {v : Value} {l : List Nat} (h : Own w base e v l) (hk : ∀ k, k < w.heap.size → v.ownBlock = some k → w'.heap[k]? = w.heap[k]?) : Own w' base e v l := by
  refine ⟨h.1, ?_⟩
  rcases h.2 with h1 | ⟨g, cap, cur, rfl, hb, hh, r⟩
  · exact Or.inl h1
  · exact Or.inr ⟨g, cap, cur, rfl, hb, (hk g (Array.getElem?_eq_some_iff.1 hh).1 rfl).trans hh, r⟩
theorem Own.chg {S : Nat → Prop} {w w' : World} {base : Nat} {e : TypeId} {v : Value} {l : List Nat} (h : Own w base e v l) (hc : Chg S w w') (hs : ∀ k, k < w.heap.size → v.ownBlock = some k → ¬ S k) : Own w' base e v l :=
  h.keep (fun k hk he => hc.block k hk (hs k hk he))
theorem Own.mono {w : World} {base base' : Nat} {e : TypeId} {v : Value} {l : List Nat} (h : Own w base e v l) (hb : ∀ k, v.ownBlock = some k → base' ≤ k) : Own w base' e v l := by
  refine ⟨h.1, ?_⟩
  rcases h.2 with h1 | ⟨g, cap, cur, rfl, _, r⟩
  · exact Or.inl h1
  · exact Or.inr ⟨g, cap, cur, rfl, hb g rfl, r⟩
/-- A store into a slice of the call's own. -/
theorem Own.store {w : World} {base : Nat} {e : TypeId} {g n cap : Nat} {l : List Nat} (h : Own w base e (.slice (some ⟨g, 0, none⟩) n cap) l) (k x : Nat) (_hk : k < l.length) :
    Own (w.setCell ⟨g, k, none⟩ (.int .u8 (x : Int))) base e (.slice (some ⟨g, 0, none⟩) n cap) (l.set k x) := by
  rcases h.2 with ⟨h1, _⟩ | ⟨g', cap', cur, hv, hb, hh, hn, hm, hs, ht⟩
  · cases h1
  · simp only [Value.slice.injEq, Option.some.injEq, Addr.mk.injEq] at hv
    obtain ⟨⟨rfl, _, _⟩, rfl, rfl⟩ := hv
    refine ⟨by simp, Or.inr ⟨g, cap, cur.setIfInBounds k (.int .u8 (x : Int)), by simp, hb, ?_, by simpa using hn, hm, by simpa using hs, ?_⟩⟩
    · simp [World.setCell, Array.getElem?_modify, hh]
    · rw [Array.toList_setIfInBounds, List.take_set, List.length_set, ht, List.map_set]; rfl
theorem Own.at_store {w : World} {base : Nat} {e : TypeId} {v : Value} {l : List Nat} (h : Own w base e v l) (h0 : l.length ≠ 0) : ∃ g cap, v = .slice (some ⟨g, 0, none⟩) l.length cap := by
  obtain ⟨g, cap, hv, _⟩ := h.lies h0
  exact ⟨g, cap, hv⟩
/-- A block laid as a row of bytes is the call's own. -/
theorem Own.new (w : World) (e : TypeId) (l : List Nat) (hl : l.length ≤ maxLen) : Own (w.alloc (.cells (bcells l) e)) w.heap.size e (.slice (some ⟨w.heap.size, 0, none⟩) l.length l.length) l := by
  refine ⟨by simp, Or.inr ⟨w.heap.size, l.length, bcells l, rfl, Nat.le_refl _, ?_, Nat.le_refl _, hl, by rw [bcells_size, Nat.mul_one], ?_⟩⟩
  · show (w.heap.push _)[w.heap.size]? = _
    simp
  · rw [Nat.mul_one]
    show (l.map _).take _ = _
    rw [List.take_of_length_le (by simp)]; rfl
theorem Own.of_bat {w : World} {g base : Nat} {l : List Nat} (h : Bat w g l) (hb : base ≤ g) (hl : l.length ≤ maxLen) : Own w base 5 (.slice (some ⟨g, 0, none⟩) l.length l.length) l := by
  refine ⟨by simp, Or.inr ⟨g, l.length, bcells l, rfl, hb, h, Nat.le_refl _, hl, by rw [bcells_size, Nat.mul_one], ?_⟩⟩
  rw [Nat.mul_one]
  show (l.map _).take _ = _
  rw [List.take_of_length_le (by simp)]; rfl
end Go.Proofs.YtifjmilegogbaaaGreat
