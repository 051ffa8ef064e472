/-
  (*Field).Times: the product of two polynomials. Condition: the block holds a Field that may be asked; the bytes can be read; there is room.
-/
import Derived.Test.YtdofegphipbcdaaEval
import Derived.Deep.RegionWith
namespace Go.Proofs.Ytdofegphipbcdaa
set_option maxRecDepth 100000
open Go.RowKit

/-- Bytes as cells. -/
def bcells (l : List Nat) : Array Value := (l.map fun (n : Nat) => Value.int .u8 (n : Int)).toArray
theorem bcells_size (l : List Nat) : (bcells l).size = l.length := by simp [bcells]
theorem bcells_at (l : List Nat) (i : Nat) (h : i < l.length) : (bcells l)[i]? = some (.int .u8 (l.getD i 0 : Nat)) := by
  simp [bcells, List.getD_eq_getElem?_getD, List.getElem?_eq_getElem h]
theorem bcells_set (l : List Nat) (i v : Nat) : (bcells l).setIfInBounds i (.int .u8 (v : Int)) = bcells (l.set i v) := by
  apply Array.ext'
  simp [bcells, List.map_set]
/-- Block g holds the bytes l, and no more. -/
def Bat (w : World) (g : Nat) (l : List Nat) : Prop := w.heap[g]? = some (.cells (bcells l) 5)
theorem Bat.cell {w : World} {g : Nat} {l : List Nat} (h : Bat w g l) (i : Nat) (hi : i < l.length) : w.cell? ⟨g, i, none⟩ = some (.int .u8 (l.getD i 0 : Nat)) := by
  have h' : w.heap[g]? = some (.cells (bcells l) 5) := h
  simp only [World.cell?, h', bcells_at l i hi]; simp
theorem Bat.frozen {w : World} {g : Nat} {l : List Nat} (h : Bat w g l) (i : Nat) : w.frozen? ⟨g, i, none⟩ = false := by
  have h' : w.heap[g]? = some (.cells (bcells l) 5) := h
  simp [World.frozen?, h']
theorem Bat.lt {w : World} {g : Nat} {l : List Nat} (h : Bat w g l) : g < w.heap.size := by
  have h' : w.heap[g]? = some (.cells (bcells l) 5) := h
  exact (Array.getElem?_eq_some_iff.1 h').1
theorem Bat.store {w : World} {g : Nat} {l : List Nat} (h : Bat w g l) (i v : Nat) : Bat (w.setCell ⟨g, i, none⟩ (.int .u8 (v : Int))) g (l.set i v) := by
  have h' : w.heap[g]? = some (.cells (bcells l) 5) := h
  show (w.setCell ⟨g, i, none⟩ (.int .u8 (v : Int))).heap[g]? = _
  simp [World.setCell, Array.getElem?_modify, h', bcells_set]
theorem Bat.but {w w' : World} {b g : Nat} {l : List Nat} (h : Bat w g l) (hB : But b w w') (hg : g ≠ b) : Bat w' g l := (hB.block g h.lt hg).trans h
theorem Bat.drew {w : World} {g : Nat} {l : List Nat} (h : Bat w g l) : Bat w.drew g l := h
theorem Bat.rd {w : World} {g b : Nat} {l : List Nat} (h : Bat w g l) (hl : Bys l) (hg : g ≠ b) : Rd w b (some ⟨g, 0, none⟩) l :=
  ⟨hl, Or.inr ⟨g, 0, rfl, hg, h.lt, fun i hi => by rw [Nat.zero_add]; exact h.cell i hi⟩⟩
theorem Fld.drew {w : World} {b : Nat} (h : Fld w b) : Fld w.drew b := h
theorem Fld.lt {w : World} {b : Nat} (h : Fld w b) : b < w.heap.size := by
  rcases h with h | h
  · exact h.lt
  · exact h.lt
theorem Fat.other {w w' : World} {b : Nat} {d m : Int} {k : Nat} (h : Fat w b d m k) (e : w'.heap[b]? = w.heap[b]?) : Fat w' b d m k := e.trans h
theorem Fld.other {w w' : World} {b : Nat} (h : Fld w b) (e : w'.heap[b]? = w.heap[b]?) : Fld w' b := by
  rcases h with h | h
  · exact Or.inl (h.other e)
  · exact Or.inr (h.other e)
/-- A new block. -/
theorem But.alloc {b : Nat} {u w : World} (h : But b u w) (o : Obj) : But b u (w.alloc o) :=
  h.trans ⟨rfl, rfl, rfl, by simp, fun k hk _ => Below.heap_alloc _ _ _ hk⟩
/-- A store into a block that is new since u. -/
theorem But.setNew {b : Nat} {u w : World} (h : But b u w) {g : Nat} (hg : u.heap.size ≤ g) (o : Nat) (v : Value) : But b u (w.setCell ⟨g, o, none⟩ v) :=
  ⟨h.os, h.tape, h.output, by simp [World.setCell]; exact h.size, fun k hk hb => (Below.heap_setCell _ _ _ _ (by simp; omega)).trans (h.block k hk hb)⟩
theorem Bat.new (w : World) (l : List Nat) : Bat (w.alloc (.cells (bcells l) 5)) w.heap.size l := by
  show (w.heap.push _)[w.heap.size]? = _
  simp
theorem Fld.alloc {w : World} {b : Nat} (h : Fld w b) (o : Obj) : Fld (w.alloc o) b := h.other (Below.heap_alloc _ _ _ h.lt)
theorem Fld.setOther {w : World} {b : Nat} (h : Fld w b) {g : Nat} (hg : g ≠ b) (o : Nat) (v : Value) : Fld (w.setCell ⟨g, o, none⟩ v) b :=
  h.other (Below.heap_setCell _ _ _ _ (by simp; omega))

theorem info5_all : (Try.prog.info? 5).map (fun i => (i.zero, i.size, i.bytes)) = some (some (.int .u8 0), 1, 1) := by kernel_rfl
theorem info5 : ∃ i, Try.prog.info? 5 = some i ∧ i.zero = some (.int .u8 0) ∧ i.size = 1 ∧ i.bytes = 1 := by
  have h := info5_all
  cases e : Try.prog.info? 5 with
  | none => rw [e] at h; cases h
  | some i =>
    rw [e] at h
    simp only [Option.map_some, Option.some.injEq, Prod.mk.injEq] at h
    exact ⟨i, rfl, h.1, h.2.1, h.2.2⟩
theorem made_bytes (n : Nat) : madeCells (Value.int .u8 0).cells n = bcells (List.replicate n 0) := by
  apply Array.ext_getElem?
  intro i
  by_cases h : i < n
  · rw [bcells_at _ _ (by simpa using h)]
    simp [madeCells, Value.cells, h, Nat.mod_one]
  · rw [Array.getElem?_eq_none (by rw [size_madeCells]; omega), Array.getElem?_eq_none (by rw [bcells_size]; simp; omega)]
theorem make_bytes (w : World) (L : Int) (n : Nat) (hL : L = n) (hn : n ≤ 281474976710656) :
    (Instr.makeSlice 22 (.int .i64 L) (.int .i64 L)).run Try.prog w = .ok (.slice (some ⟨w.heap.size, 0, none⟩) n n) (w.alloc (.cells (bcells (List.replicate n 0)) 5)) := by
  obtain ⟨i, h1, h2, h3, h4⟩ := info5
  have h := run_make (P := Try.prog) w 22 5 i (.int .u8 0) Try.underlying22 h1 h2 .i64 .i64 L L (by omega) (by omega) (by rw [h4]; omega) (by omega)
  rw [h, hL, h3, Int.toNat_natCast, Nat.mul_one, made_bytes]

set_option maxRecDepth 100000 in
set_option maxHeartbeats 2000000 in
theorem times_some (b : Nat) (w : World) (h : Fld w b) (c o cap c2 o2 cap2 : Nat) (p q : List Nat) (hp : Bys p) (hq : Bys q) (hc : c ≠ b) (hs : c < w.heap.size) (hc2 : c2 ≠ b) (hs2 : c2 < w.heap.size)
    (p0 : p.length ≠ 0) (q0 : q.length ≠ 0) (n : Nat) (hn : n = p.length + q.length - 1) (hlen : p.length ≤ 140737488351232) (hlen2 : q.length ≤ 140737488351232)
    (hcell : ∀ i, i < p.length → w.cell? ⟨c, o + i, none⟩ = some (.int .u8 (p.getD i 0 : Nat)))
    (hcell2 : ∀ i, i < q.length → w.cell? ⟨c2, o2 + i, none⟩ = some (.int .u8 (q.getD i 0 : Nat))) :
    Calls Try.prog 40 #[.pointer (some ⟨b, 0, none⟩), .slice (some ⟨c, o, none⟩) p.length cap, .slice (some ⟨c2, o2, none⟩) q.length cap2] w fun e w' =>
      e = .returned (.slice (some ⟨w.heap.size, 0, none⟩) n n) ∧ Bat w' w.heap.size (tm p q) ∧ Fld w' b ∧ But b w w' := by
  have HC : Hid (∀ i, i < p.length → w.cell? ⟨c, o + i, none⟩ = some (.int .u8 (p.getD i 0 : Nat))) := hcell
  have HC2 : Hid (∀ i, i < q.length → w.cell? ⟨c2, o2 + i, none⟩ = some (.int .u8 (q.getD i 0 : Nat))) := hcell2
  clear hcell hcell2
  have hb := h.lt
  have hgb : w.heap.size ≠ b := by omega
  have hp0 : ((p.length : Int) == 0) = false := by rw [beq_eq_false_iff_ne]; omega
  have hq0 : ((q.length : Int) == 0) = false := by rw [beq_eq_false_iff_ne]; omega
  have hmk := make_bytes w ((p.length : Int) + q.length - 1) n (by omega) (by omega)
  have hB0 : But b w (w.alloc (.cells (bcells (List.replicate n 0)) 5)) := (But.refl _ _).alloc _
  have hF0 := h.alloc (.cells (bcells (List.replicate n 0)) 5)
  have hP0 : Bat (w.alloc (.cells (bcells (List.replicate n 0)) 5)) w.heap.size (outer p q 0) := by rw [hn]; exact Bat.new w _
  have HT : Hid (tm p q = outer p q p.length) := by unfold tm; rw [if_neg (by omega)]; exact rfl
  have HN : Hid (n = p.length + q.length - 1) := hn
  clear hn
  go_enter Try.func40, Try.ntmps40
  go_wp2
  go_loopw [29] (fun t wr => ∃ i : Nat, i ≤ p.length ∧ t = .int .i64 i ∧ Bat wr w.heap.size (outer p q i) ∧ Fld wr b ∧ But b w wr) (fun t _ => p.length - (intOf t).toNat)
  case atStart => exact ⟨0, by omega, rfl, hP0, hF0, hB0⟩
  case round =>
    clear hmk hB0 hF0 hP0
    obtain ⟨i, hi, rfl, hP, hF, hB⟩ := hrel
    by_cases hlt : i < p.length
    · have hc1 : wr.cell? ⟨c, o + i, none⟩ = some (.int .u8 (p.getD i 0 : Nat)) := (hB.cell hs hc _).trans (HC.out i hlt)
      have hd := hp.getD i
      have HO : Hid (outer p q (i + 1) = inner (p.getD i 0) q i (outer p q i) q.length) := rfl
      generalize p.getD i 0 = d at *
      go_wp2
      go_loopw [36] (fun t wx => ∃ j : Nat, j ≤ q.length ∧ t = .int .i64 j ∧ Bat wx w.heap.size (inner d q i (outer p q i) j) ∧ Fld wx b ∧ But b w wx) (fun t _ => q.length - (intOf t).toNat)
      case atStart => exact ⟨0, by omega, rfl, hP, hF, hB⟩
      case round =>
        clear hc1 hP hF hB
        obtain ⟨j, hj, rfl, hP, hF, hB⟩ := hrel
        by_cases hlt2 : j < q.length
        · have hc1 : wr.cell? ⟨c2, o2 + j, none⟩ = some (.int .u8 (q.getD j 0 : Nat)) := (hB.cell hs2 hc2 _).trans (HC2.out j hlt2)
          have hd2 := hq.getD j
          have HJ : Hid (inner d q i (outer p q i) (j + 1) = addAt (inner d q i (outer p q i) j) (i + j) (gm d (q.getD j 0))) := rfl
          generalize q.getD j 0 = d2 at *
          generalize hIL : inner d q i (outer p q i) j = L at *
          have hLlen : L.length = n := by rw [← hIL, inner_length, outer_length, HN.out]
          have hLb : Bys L := by rw [← hIL]; exact inner_bys _ _ _ _ (outer_bys p q i) j
          have HIL : Hid (inner d q i (outer p q i) (j + 1) = addAt L (i + j) (gm d d2)) := HJ.out
          clear hIL HJ
          have hij : i + j < L.length := by have := HN.out; omega
          have hb1 : (0 : Int) ≤ (i : Int) + (j : Int) := by omega
          have hb2 : (i : Int) + (j : Int) < (n : Int) := by omega
          have hm := hLb.getD (i + j)
          have hcn := hP.cell (i + j) hij
          have hfn := hP.frozen (i + j)
          have HAD : Hid (addAt L (i + j) (gm d d2) = L.set (i + j) (L.getD (i + j) 0 ^^^ gm d d2)) := rfl
          generalize hM : L.getD (i + j) 0 = m at *
          have HM : Hid (L.getD (i + j) 0 = m) := hM
          clear hM
          have e1 := u8_xor_nat m (gm d d2) hm (gm_lt _ _)
          have HLL : Hid (L.length = n) := hLlen
          clear hLlen hLb
          go_wp2_with fail
          have hwr : IntKind.i64.wrap ((i : Int) + (j : Int)) = (i : Int) + (j : Int) := by rw [IntKind.wrap_i64]; omega
          have hwt : ((i : Int) + (j : Int)).toNat = i + j := by omega
          go_region_with (go_at_call 55; refine (mul_nat b _ ?_ d d2 hd hd2).mono ?_; (exact hF.drew); rintro e w' ⟨rfl, hF', hB'⟩; have hP' : Bat w' w.heap.size L := (hP.drew.but hB' hgb); have hcn' : w'.cell? ⟨w.heap.size, i + j, none⟩ = some (.int .u8 (m : Nat)) := ((hP'.cell (i + j) hij).trans (by rw [HM.out])); have hfn' := hP'.frozen (i + j))
          all_goals
            clear hwr hwt hcn hfn
            have hP2 : Bat (w'.setCell ⟨w.heap.size, i + j, none⟩ (.int .u8 ((m ^^^ gm d d2 : Nat) : Int))) w.heap.size (inner d q i (outer p q i) (j + 1)) := by
              rw [HIL.out, HAD.out]; exact hP'.store (i + j) _
            go_wp2
            exact ⟨⟨j + 1, by omega, by go_num, hP2, hF'.setOther hgb _ _, ((hB.drew.trans hB').setNew (Nat.le_refl _) _ _)⟩, by simp [intOf]; omega⟩
        · have e : j = q.length := by omega
          have hP2 : Bat wr w.heap.size (outer p q (i + 1)) := by rw [HO.out, ← e]; exact hP
          clear e hP
          go_wp2
          exact ⟨⟨i + 1, by omega, by go_num, hP2, hF, hB⟩, by simp [intOf]; omega⟩
    · have e : i = p.length := by omega
      have hP2 : Bat wr w.heap.size (tm p q) := by rw [HT.out, ← e]; exact hP
      clear e hP
      go_wp2
      go_ret
      exact ⟨rfl, hP2, hF, hB⟩

theorem times_zero_p (b : Nat) (w : World) (a a2 : Option Addr) (cap n2 cap2 : Nat) :
    Calls Try.prog 40 #[.pointer (some ⟨b, 0, none⟩), .slice a 0 cap, .slice a2 n2 cap2] w fun e w' => e = .returned (.slice none 0 0) ∧ w' = w := by
  go_enter Try.func40, Try.ntmps40
  go_wp2
  go_ret
  exact ⟨rfl, rfl⟩
theorem times_zero_q (b : Nat) (w : World) (a a2 : Option Addr) (n cap cap2 : Nat) (hn : n ≠ 0) :
    Calls Try.prog 40 #[.pointer (some ⟨b, 0, none⟩), .slice a n cap, .slice a2 0 cap2] w fun e w' => e = .returned (.slice none 0 0) ∧ w' = w := by
  have hp0 : ((n : Int) == 0) = false := by rw [beq_eq_false_iff_ne]; omega
  go_enter Try.func40, Try.ntmps40
  go_wp2
  go_ret
  exact ⟨rfl, rfl⟩
/-- (*Field).Times, of whatever can be read: the product, in new memory. -/
theorem times_any (b : Nat) (w : World) (h : Fld w b) (a a2 : Option Addr) (n cap n2 cap2 : Nat) (p q : List Nat) (hn : n = p.length) (hn2 : n2 = q.length) (hlen : p.length ≤ 140737488351232) (hlen2 : q.length ≤ 140737488351232)
    (hp : Rd w b a p) (hq : Rd w b a2 q) :
    Calls Try.prog 40 #[.pointer (some ⟨b, 0, none⟩), .slice a n cap, .slice a2 n2 cap2] w fun e w' =>
      ∃ (at_ : Option Addr) (m : Nat), e = .returned (.slice at_ m m) ∧ m = (tm p q).length ∧ (((n = 0 ∨ n2 = 0) ∧ at_ = none) ∨ (n ≠ 0 ∧ n2 ≠ 0 ∧ at_ = some ⟨w.heap.size, 0, none⟩ ∧ Bat w' w.heap.size (tm p q))) ∧ Fld w' b ∧ But b w w' := by
  subst hn hn2
  by_cases p0 : p.length = 0
  · rw [p0]
    refine (times_zero_p b w a a2 cap _ cap2).mono ?_
    rintro e w' ⟨rfl, rfl⟩
    exact ⟨none, 0, rfl, by unfold tm; rw [if_pos (Or.inl p0)]; rfl, Or.inl ⟨Or.inl rfl, rfl⟩, h, But.refl _ _⟩
  by_cases q0 : q.length = 0
  · rw [q0]
    refine (times_zero_q b w a a2 _ cap cap2 p0).mono ?_
    rintro e w' ⟨rfl, rfl⟩
    exact ⟨none, 0, rfl, by unfold tm; rw [if_pos (Or.inr q0)]; rfl, Or.inl ⟨Or.inr rfl, rfl⟩, h, But.refl _ _⟩
  obtain ⟨hpb, hp1 | ⟨c, o, rfl, hc, hs, hcell⟩⟩ := hp
  · rw [hp1] at p0; exact absurd rfl p0
  obtain ⟨hqb, hq1 | ⟨c2, o2, rfl, hc2, hs2, hcell2⟩⟩ := hq
  · rw [hq1] at q0; exact absurd rfl q0
  refine (times_some b w h c o cap c2 o2 cap2 p q hpb hqb hc hs hc2 hs2 p0 q0 _ rfl hlen hlen2 hcell hcell2).mono ?_
  rintro e w' ⟨rfl, hP, hF, hB⟩
  exact ⟨_, _, rfl, (tm_length p q p0 q0).symm, Or.inr ⟨p0, q0, rfl, hP⟩, hF, hB⟩
end Go.Proofs.Ytdofegphipbcdaa
