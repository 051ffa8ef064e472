/-
  Truth and Read. Condition: the block holds a chip that can be.
-/
import Derived.Test.YtfjgnplplafniaaTells
import Derived.Test.YtfjgnplplafniaaWrite
namespace Go.Proofs.Ytfjgnplplafniaa
open Go.RowKit
set_option maxRecDepth 100000

def z64 : List Nat := List.replicate 64 0
def z256 : List Nat := List.replicate 256 0
theorem z64_length : z64.length = 64 := by simp [z64]
theorem z256_length : z256.length = 256 := by simp [z256]
theorem make64 (w : World) : (Instr.makeSlice 33 (.int .i64 64) (.int .i64 64)).run Try.prog w = .ok (.slice (some ⟨w.heap.size, 0, none⟩) 64 64) (w.alloc (.cells (bcells z64) 5)) := make_bytes w 64 64 rfl (by decide)
theorem make256 (w : World) : (Instr.makeSlice 33 (.int .i64 256) (.int .i64 256)).run Try.prog w = .ok (.slice (some ⟨w.heap.size, 0, none⟩) 256 256) (w.alloc (.cells (bcells z256) 5)) := make_bytes w 256 256 rfl (by decide)
theorem map_byt_at {l : List Nat} {i : Nat} (h : i < l.length) : (l.map byt)[i]? = some (.int .u8 (l.getD i 0 : Nat)) := by
  rw [List.getElem?_map, List.getElem?_eq_getElem h]; simp [byt, List.getD_eq_getElem?_getD, List.getElem?_eq_getElem h]
theorem ChipAt.tru {w : World} {g : Nat} {s : Chp} (h : ChipAt w g s) (hs : s.Ok) (c : Nat) (hc : c < 384) (j : Nat) (hj : j < 64) : w.cell? ⟨g, 130 * c + 64 + j, none⟩ = some (.int .u8 ((s.ch c).tru.getD j 0 : Nat)) := by
  rw [Sto.cell h _ (by omega)]
  congr 1
  exact ckc_tru (hs.ch c).now (ccell_ch s hs c hc) j _ (map_byt_at (by rw [(hs.ch c).tru]; exact hj))
theorem ChipAt.now {w : World} {g : Nat} {s : Chp} (h : ChipAt w g s) (hs : s.Ok) (c : Nat) (hc : c < 384) (j : Nat) (hj : j < 64) : w.cell? ⟨g, 130 * c + j, none⟩ = some (.int .u8 ((s.ch c).now.getD j 0 : Nat)) := by
  rw [Sto.cell h _ (by omega)]
  congr 1
  exact ckc_now (ccell_ch s hs c hc) j _ (map_byt_at (by rw [(hs.ch c).now]; exact hj))
theorem ChipAt.alloc {w : World} {g : Nat} {s : Chp} (h : ChipAt w g s) (o : Obj) : ChipAt (w.alloc o) g s := Sto.alloc h o
set_option maxHeartbeats 1000000 in
theorem truth_yes (g : Nat) (s : Chp) (hs : s.Ok) (a k : Nat) (ha : a < 96) (hk : k < 4) (w : World) (h : ChipAt w g s) :
    Calls Try.prog 14 #[.pointer (some ⟨g, 0, none⟩), .int .i64 a, .int .i64 k] w fun e w' => e = .returned (.tuple #[.slice (some ⟨w.heap.size, 0, none⟩) 64 64, .bool (s.ch (4 * a + k)).is, .nilIface]) ∧ Arr w' w.heap.size 5 (s.ch (4 * a + k)).tru ∧ Chg (fun _ => False) w w' := by
  have ha0 : (0 : Int) ≤ a := by omega
  have ha1 : (a : Int) < 96 := by omega
  have hk0 : (0 : Int) ≤ k := by omega
  have hk1 : (k : Int) < 4 := by omega
  have hmk := make64
  have hgs := h.lt
  have hC1 := h.alloc (.cells (bcells z64) 5)
  have hA1 : Arr (w.alloc (.cells (bcells z64) 5)) w.heap.size 5 z64 := Arr.new w 5 _
  have HT := hyd (hC1.tru hs (4 * a + k) (by omega))
  have hl := (hs.ch (4 * a + k)).tru
  have hA2 := hA1.row (lay z64 0 (s.ch (4 * a + k)).tru)
  rw [lay_all _ _ (by rw [hl, z64_length])] at hA2
  have hG : Chg (fun _ => False) w ((w.alloc (.cells (bcells z64) 5)).setRow w.heap.size (bcells (s.ch (4 * a + k)).tru)) :=
    ⟨rfl, rfl, rfl, by simp, fun i hi _ => (setRow_other _ _ _ _ (by omega)).trans (Below.heap_alloc _ _ _ hi)⟩
  have hC2 : ChipAt ((w.alloc (.cells (bcells z64) 5)).setRow w.heap.size (bcells (s.ch (4 * a + k)).tru)) g s := h.chg hG (fun f => f)
  have c1 := hC2.is hs (4 * a + k) (by omega)
  rw [show 130 * (4 * a + k) = a * 520 + k * 130 from by omega] at c1 HT
  generalize s.ch (4 * a + k) = x at *
  have hcp := run_copy_row (P := Try.prog) (w.alloc (.cells (bcells z64) 5)) 33 33 3 5 w.heap.size 0 64 64 ⟨g, a * 520 + k * 130 + 64, none⟩ 64 64 (bcells z64) 5 (x.tru.map byt) Try.underlying33 size5 hA1 (by simp [hl]) (src_byt (by rw [hl]; exact HT.out)) (by simp [hl, bcells_size, z64_length]) (byt_one _)
  have e1 : (List.take 0 (bcells z64).toList ++ List.map byt x.tru ++ List.drop (0 + (List.map byt x.tru).length) (bcells z64).toList).toArray = bcells x.tru := by
    rw [List.take_zero, List.nil_append, List.drop_eq_nil_of_le (by simp [hl, bcells, z64_length]), List.append_nil]; rfl
  rw [e1, List.length_map, hl] at hcp
  clear e1 hC1 hA1 HT hC2 h
  generalize (w.alloc (.cells (bcells z64) 5)).setRow w.heap.size (bcells x.tru) = w2 at *
  go_enter Try.func14, Try.ntmps14
  go_wp2_with fail
  refine (isChunk_yes a k ha0 ha1 hk0 hk1 _).mono ?_
  rintro e w' ⟨rfl, rfl⟩
  go_wp2_with fail
  go_region
  all_goals
    go_wp2
    go_ret3
    exact ⟨rfl, hA2.drew, hG.drew⟩
/-- The first n chunks of a page, one behind the other. -/
def pgTo (s : Chp) (a : Nat) : Nat → List Nat
  | 0 => []
  | n + 1 => pgTo s a n ++ (s.ch (4 * a + n)).now
theorem pgTo_length {s : Chp} (hs : s.Ok) (a n : Nat) : (pgTo s a n).length = 64 * n := by
  induction n with
  | zero => rfl
  | succ n ih => rw [pgTo, List.length_append, ih, (hs.ch _).now]; omega
theorem pgTo_bys {s : Chp} (hs : s.Ok) (a n : Nat) : Bys (pgTo s a n) := by
  induction n with
  | zero => intro m hm; cases hm
  | succ n ih => intro m hm; rcases List.mem_append.1 hm with h | h; exact ih m h; exact (hs.ch _).nowB m h
/-- While a page is read. -/
def pgZ (s : Chp) (a n : Nat) : List Nat := pgTo s a n ++ List.replicate (256 - 64 * n) 0
theorem pgZ_length {s : Chp} (hs : s.Ok) (a n : Nat) (h : n ≤ 4) : (pgZ s a n).length = 256 := by rw [pgZ, List.length_append, pgTo_length hs, List.length_replicate]; omega
theorem pgZ_lay {s : Chp} (hs : s.Ok) (a n : Nat) (h : n < 4) : lay (pgZ s a n) (n * 64) (s.ch (4 * a + n)).now = pgZ s a (n + 1) := by
  have h1 := pgTo_length hs a n
  unfold lay pgZ
  rw [List.take_left' (by omega), List.drop_append, List.drop_eq_nil_of_le (by rw [h1, (hs.ch _).now]; omega), List.nil_append, pgTo, List.append_assoc, h1, (hs.ch _).now, List.drop_replicate]
  congr 3
  omega
theorem pgZ_all {s : Chp} (a : Nat) : pgZ s a 4 = pgTo s a 4 := by simp [pgZ]
/-- The chip, a page of which was read. -/
def rdS (s : Chp) (a : Nat) : Chp := s.setBl (a / 8) { s.bl (a / 8) with reads := wrap64 ((s.bl (a / 8)).reads + 1) }
theorem rdS_ok {s : Chp} (h : s.Ok) (a : Nat) : (rdS s a).Ok := h.setBl _ ⟨(h.bl _).ahead, (h.bl _).none, wrap64_lo _, wrap64_hi _⟩
theorem Chg.setRow {S : Nat → Prop} {u w : World} (h : Chg S u w) {g : Nat} (hg : S g ∨ u.heap.size ≤ g) (c : Array Value) : Chg S u (w.setRow g c) :=
  ⟨h.os, h.tape, h.output, by simp; exact h.size, fun k hk hs => (setRow_other _ _ _ _ (by
    rcases hg with hg | hg
    · intro e; exact hs (by rw [e]; exact hg)
    · omega)).trans (h.block k hk hs)⟩
theorem read_no (g : Nat) (a : Int) (h : a < 0 ∨ 96 ≤ a) (w : World) :
    Calls Try.prog 18 #[.pointer (some ⟨g, 0, none⟩), .int .i64 a] w fun e w' => e = .returned (.tuple #[.slice none 0 0, errV 1]) ∧ Chg (fun _ => False) w w' := by
  go_enter Try.func18, Try.ntmps18
  go_wp2_with fail
  refine (below_no a 96 h _).mono ?_
  rintro e w' ⟨rfl, rfl⟩
  go_wp2
  all_goals
    go_ret2
    exact ⟨rfl, (Chg.refl _ _)⟩
theorem read_off (g : Nat) (s : Chp) (a : Int) (h0 : 0 ≤ a) (h1 : a < 96) (w : World) (h : ChipAt w g s) (hon : s.on = false) :
    Calls Try.prog 18 #[.pointer (some ⟨g, 0, none⟩), .int .i64 a] w fun e w' => e = .returned (.tuple #[.slice none 0 0, errV 7]) ∧ Chg (fun _ => False) w w' := by
  have c1 := h.on
  rw [hon] at c1
  clear hon
  go_enter Try.func18, Try.ntmps18
  go_wp2_with fail
  refine (below_yes a 96 h0 h1 _).mono ?_
  rintro e w' ⟨rfl, rfl⟩
  go_wp2
  all_goals
    go_ret2
    exact ⟨rfl, (Chg.refl _ _)⟩
set_option maxHeartbeats 1000000 in
theorem read_yes (g : Nat) (s : Chp) (hs : s.Ok) (a : Nat) (ha : a < 96) (w : World) (h : ChipAt w g s) (hon : s.on = true) :
    Calls Try.prog 18 #[.pointer (some ⟨g, 0, none⟩), .int .i64 a] w fun e w' => e = .returned (.tuple #[.slice (some ⟨w.heap.size, 0, none⟩) 256 256, .nilIface]) ∧ Arr w' w.heap.size 5 (pgTo s a 4) ∧ ChipAt w' g (rdS s a) ∧ Chg (· = g) w w' := by
  have ha0 : (0 : Int) ≤ a := by omega
  have ha1 : (a : Int) < 96 := by omega
  have hmk := make256
  have hgs := h.lt
  have c1 := h.on
  rw [hon] at c1
  clear hon
  have hC1 := h.alloc (.cells (bcells z256) 5)
  have hA1 : Arr (w.alloc (.cells (bcells z256) 5)) w.heap.size 5 z256 := Arr.new w 5 _
  have hG1 : Chg (· = g) w (w.alloc (.cells (bcells z256) 5)) := (Chg.refl _ _).alloc _
  have HS := hyd hs
  clear h hs
  go_enter Try.func18, Try.ntmps18
  go_wp2_with fail
  refine (below_yes (a : Int) 96 ha0 ha1 _).mono ?_
  rintro e w' ⟨rfl, rfl⟩
  go_wp2_with fail
  clear hmk c1
  generalize hq : w'.heap.size = q at *
  have hqs := Nat.le_of_eq hq
  have HQ := hyd hq
  clear hq
  have hqg : q ≠ g := by omega
  generalize w'.alloc (.cells (bcells z256) 5) = w1 at *
  go_loopw [20] (fun t20 wr => ∃ i : Nat, i ≤ 4 ∧ t20 = .int .i64 i ∧ Arr wr q 5 (pgZ s a i) ∧ ChipAt wr g s ∧ Chg (· = g) w' wr) (fun t20 _ => 4 - (intOf t20).toNat)
  case atStart => exact ⟨0, by omega, rfl, hA1, hC1, hG1⟩
  case round =>
    clear hA1 hC1 hG1
    obtain ⟨i, hi, rfl, hA, hC, hG⟩ := hrel
    by_cases hlt : i < 4
    · have hi0 : (0 : Int) ≤ (i : Int) := by omega
      have hi1 : (i : Int) < 4 := by omega
      have hn := (HS.out.ch (4 * a + i)).now
      have hsrc := hC.now HS.out (4 * a + i) (by omega)
      rw [show 130 * (4 * a + i) = a * 520 + i * 130 from by omega] at hsrc
      have hz := pgZ_length HS.out a i (by omega)
      have hcp := run_copy_row (P := Try.prog) wr.drew 33 33 3 5 q (i * 64) (256 - i * 64) (256 - i * 64) ⟨g, a * 520 + i * 130, none⟩ 64 64 (bcells (pgZ s a i)) 5 ((s.ch (4 * a + i)).now.map byt) Try.underlying33 size5 hA.drew (by rw [List.length_map, hn]; exact (Nat.min_eq_left (by omega)).symm) (src_byt (by rw [hn]; exact hsrc)) (by simp [hn, bcells_size, hz]; omega) (byt_one _)
      rw [show ((bcells (pgZ s a i)).toList.take (i * 64) ++ (s.ch (4 * a + i)).now.map byt ++ (bcells (pgZ s a i)).toList.drop (i * 64 + ((s.ch (4 * a + i)).now.map byt).length)).toArray = bcells (pgZ s a (i + 1)) from by
        rw [List.append_assoc, ← pgZ_lay HS.out a i hlt]; exact lay_row _ _ _, List.length_map, hn] at hcp
      have hA2 := hA.drew.row (pgZ s a (i + 1))
      have hG2 := hG.drew.setRow (g := q) (Or.inr (by omega)) (bcells (pgZ s a (i + 1)))
      have hC2 : ChipAt (wr.drew.setRow q (bcells (pgZ s a (i + 1)))) g s := hC.drew.other (setRow_other _ _ _ _ (fun e => hqg e.symm))
      clear hsrc hz hn hA hC hG
      generalize wr.drew.setRow q (bcells (pgZ s a (i + 1))) = w2 at *
      go_wp2_with fail
      go_region
      all_goals
        go_wp2
        exact ⟨⟨i + 1, by omega, by go_num, hA2, hC2, hG2⟩, by simp [intOf]; omega⟩
    · have e4 : i = 4 := by omega
      subst e4
      rw [pgZ_all] at hA
      have c2 := Sto.cell hC (49968 + a / 8) (by omega)
      rw [ccell_reads s (a / 8) (by omega)] at c2
      have f2 := Sto.frozen hC (49968 + a / 8)
      have hC2 : ChipAt (wr.setCell ⟨g, 49968 + a / 8, none⟩ (.int .i64 (wrap64 ((s.bl (a / 8)).reads + 1)))) g (rdS s a) := Sto.ext (Sto.setCell hC _ _) (fun i _ => ccell_setReads s (a / 8) (by omega) _ i)
      have hA2 := hA.setOther (k := g) (fun e => hqg e.symm) (49968 + a / 8) (.int .i64 (wrap64 ((s.bl (a / 8)).reads + 1)))
      have hG2 := hG.at g (49968 + a / 8) (.int .i64 (wrap64 ((s.bl (a / 8)).reads + 1)))
      go_wp2_with fail
      refine (add_any g (49968 + a / 8) _ c2 f2).mono ?_
      rintro e w2 ⟨rfl, rfl⟩
      clear hA hC hG c2 f2
      go_wp2
      go_ret2
      rw [HQ.out]
      exact ⟨rfl, hA2, hC2, hG2⟩
end Go.Proofs.Ytfjgnplplafniaa
