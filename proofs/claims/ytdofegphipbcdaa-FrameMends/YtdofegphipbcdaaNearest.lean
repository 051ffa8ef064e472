/-
  Bytes that are copied into an array in memory; results of which the first lies in memory. Condition: the bytes can be read, the array has room. The codeword near a word, as an array, and its distance. Condition: the block holds a Codec that New gave; the word's bytes can be read.
-/
import Derived.Test.YtdofegphipbcdaaCod
import Derived.Laws.CopyOwn
import Derived.Test.YtdofegphipbcdaaBridge
namespace Go.Proofs.Ytdofegphipbcdaa
open Go.RowKit
set_option maxRecDepth 100000

/-- src is laid over cur from place off on. -/
def lay (cur : List Nat) (off : Nat) (src : List Nat) : List Nat := cur.take off ++ (src ++ cur.drop (off + src.length))
theorem lay_length {cur : List Nat} {off : Nat} {src : List Nat} (h : off + src.length ≤ cur.length) : (lay cur off src).length = cur.length := by simp [lay]; omega
theorem lay_row (cur : List Nat) (off : Nat) (src : List Nat) :
    ((bcells cur).toList.take off ++ ((src.map fun (n : Nat) => Value.int .u8 (n : Int)) ++ (bcells cur).toList.drop (off + (src.map fun (n : Nat) => Value.int .u8 (n : Int)).length))).toArray = bcells (lay cur off src) := by
  simp [bcells, lay, List.map_take, List.map_drop]
theorem src_cells {w : World} {c o : Nat} {src : List Nat} (h : ∀ j, j < src.length → w.cell? ⟨c, o + j, none⟩ = some (.int .u8 (src.getD j 0 : Nat))) :
    ∀ j v, (src.map fun (n : Nat) => Value.int .u8 (n : Int))[j]? = some v → w.cell? ((⟨c, o, none⟩ : Addr).add j) = some v := by
  intro j v hv
  have hadd : (⟨c, o, none⟩ : Addr).add j = ⟨c, o + j, none⟩ := by unfold Addr.add; split <;> simp_all
  rw [hadd]
  by_cases hj : j < src.length
  · rw [h j hj, ← hv]
    simp [List.getD_eq_getElem?_getD, List.getElem?_eq_getElem hj]
  · rw [List.getElem?_eq_none (by simp; omega)] at hv; cases hv
theorem one_cells (src : List Nat) : ∀ v ∈ src.map (fun (n : Nat) => Value.int .u8 (n : Int)), v.oneCell' = true := by
  intro v hv
  obtain ⟨n, _, rfl⟩ := List.mem_map.1 hv
  rfl
theorem size5 : (Try.prog.info? 5).map (·.size) = some 1 := by kernel_rfl
theorem wpList_copy_arr {w : World} {ops : Array Oper} {rest : List Oper} {o : Oper} {a : Act} {Q : Exit → Act → World → Prop} (hgd : o.guard = none) (d s : Operand)
    (ho : o.op = .call { callee := .builtin .copy, args := #[d, s], argTypes := #[22, 22] }) (g off dLen dCap c oo sLen sCap : Nat) (hd : a.eval d = .slice (some ⟨g, off, none⟩) dLen dCap) (hs : a.eval s = .slice (some ⟨c, oo, none⟩) sLen sCap)
    {t : TypeId} {cur : List Nat} (hg : Arr w g t cur) (src : List Nat) (hn : src.length = Nat.min sLen dLen) (hsrc : ∀ j, j < src.length → w.cell? ⟨c, oo + j, none⟩ = some (.int .u8 (src.getD j 0 : Nat))) (hfit : off + src.length ≤ cur.length)
    (h : wpList Try.prog ops Q rest (a.put o.dst (goInt src.length)) (w.setRow g (bcells (lay cur off src)))) : wpList Try.prog ops Q (o :: rest) a w := by
  refine wpList_copy_own hgd d s 22 22 ho 5 Try.underlying22 size5 g off dLen dCap ⟨c, oo, none⟩ sLen sCap hd hs (bcells cur) t hg (src.map fun (n : Nat) => Value.int .u8 (n : Int)) (by simpa using hn) (src_cells hsrc) (by simpa [bcells_size] using hfit) (one_cells src) ?_
  rw [lay_row, List.length_map]
  exact h
theorem results_arr3 {fn : Func} {p u v : Tmp} {ty : TypeId} (h : fn.results = #[.cell p ty, .tmp u, .tmp v]) (tmps : Array Value) {w : World} {g : Nat} {t : TypeId} {l : List Nat} (hg : Arr w g t l) (hp : tmps.getD p undef = .pointer (some ⟨g, 0, none⟩)) {m : Nat} {el : TypeId}
    (hu : Try.prog.underlying ty = some (.array m el)) {n : Nat} (hi : (Try.prog.info? ty).map (·.size) = some n) (hn : l.length = n) :
    (results fn tmps).run Try.prog w = .ok (.tuple #[.agg (bcells l), tmps.getD u undef, tmps.getD v undef]) w := by
  have hp' : tmps[p]?.getD undef = .pointer (some ⟨g, 0, none⟩) := by simpa using hp
  have hl := run_loadVar_row (P := Try.prog) w g t ty (bcells l) _ _ hg hu rfl (by rw [bcells_size, hn]; exact hi)
  simp [results, h, hp', asAddr, hl]
/-- Sixty-four noughts. -/
def z64 : List Nat := List.replicate 64 0
theorem z64_length : z64.length = 64 := by simp [z64]
theorem zero55' (w : World) : (zeroValue 74).run Try.prog w = .ok (.agg (bcells z64)) w := zero55 w
theorem lay_all (cur src : List Nat) (h : cur.length = src.length) : lay cur 0 src = src := by
  simp [lay, h]
end Go.Proofs.Ytdofegphipbcdaa
namespace Go.Proofs.Ytdofegphipbcdaa
open Go.RowKit
set_option maxRecDepth 100000

/-- w' is w, but for what lies in block g. -/
structure One (g : Nat) (w w' : World) : Prop where
  os : w'.os = w.os
  tape : w'.tape = w.tape
  output : w'.output = w.output
  size : w'.heap.size = w.heap.size
  block : ∀ k, k ≠ g → w'.heap[k]? = w.heap[k]?
theorem One.row (w : World) (g : Nat) (c : Array Value) : One g w (w.setRow g c) := ⟨rfl, rfl, rfl, by simp, fun k hk => setRow_other _ _ _ _ hk⟩
theorem One.arr {g k : Nat} {w w' : World} {t : TypeId} {l : List Nat} (h : One g w w') (hk : k ≠ g) (ha : Arr w k t l) : Arr w' k t l := (h.block k hk).trans ha
theorem One.cod {g q b : Nat} {w w' : World} (h : One g w w') (hq : q ≠ g) (hb : b ≠ g) (hc : Cod w q b) : Cod w' q b := hc.other (h.block b hb) (h.block q hq)
theorem One.but {g b : Nat} {u w w' : World} (h : One g w w') (hg : u.heap.size ≤ g) (hB : But b u w) : But b u w' :=
  ⟨h.os.trans hB.os, h.tape.trans hB.tape, h.output.trans hB.output, by rw [h.size]; exact hB.size, fun k hk hb => (h.block k (by omega)).trans (hB.block k hk hb)⟩
theorem wpList_store_one {ops : Array Oper} {rest : List Oper} {o : Oper} {a : Act} {w : World} {Q : Exit → Act → World → Prop} (hgd : o.guard = none) (ty : TypeId) (x y : Operand) (ho : o.op = .store ty x y)
    (g : Nat) (l' : List Nat) (hx : a.eval x = .pointer (some ⟨g, 0, none⟩)) (hy : a.eval y = .agg (bcells l')) {t : TypeId} {l : List Nat} (hg : Arr w g t l) {n : Nat} (hi : (Try.prog.info? ty).map (·.size) = some n) (hn : l.length = n) (hn' : l'.length = n)
    (h : ∀ w', Arr w' g t l' → One g w w' → wpList Try.prog ops Q rest (a.put o.dst undef) w') : wpList Try.prog ops Q (o :: rest) a w :=
  wpList_store_arr hgd ty x y ho g l' hx hy hg hi hn hn' (h _ (hg.row l') (One.row w g _))
/-- What nearest answers of the word l. -/
def Nr (l M : List Nat) (d : Nat) (t : Bool) : Prop := M.length = 64 ∧ Bys M ∧ d ≤ 2 ∧ ((t = true ∧ IsDec l (some (M.take 58, d))) ∨ (t = false ∧ IsDec l none))

set_option maxHeartbeats 4000000 in
theorem nearest_any (q b : Nat) (w : World) (h : Cod w q b) (c o cap : Nat) (l : List Nat) (hl : l.length = 64) (hb : Bys l) (hcb : c ≠ b) (hcs : c < w.heap.size)
    (hcell : ∀ i, i < l.length → w.cell? ⟨c, o + i, none⟩ = some (.int .u8 (l.getD i 0 : Nat))) :
    Calls Try.prog 48 #[.pointer (some ⟨q, 0, none⟩), .slice (some ⟨c, o, none⟩) 64 cap] w fun e w' => ∃ (M : List Nat) (d : Nat) (t : Bool), e = .returned (.tuple #[.agg (bcells M), .int .i64 d, .bool t]) ∧ Nr l M d t ∧ Cod w' q b ∧ But b w w' := by
  have hz := zero55'
  have hz2 := zero63
  have hne := h.ne
  have hq := h.lt
  have hbb := h.1.lt
  have HC := hyd hcell
  clear hcell
  have A0 : Arr (w.alloc (.cells (bcells z64) 74)) w.heap.size 74 z64 := Arr.new _ _ _
  have A1 : Arr ((w.alloc (.cells (bcells z64) 74)).alloc (.cells (bcells z64) 74)) (w.heap.size + 1) 74 z64 := by
    have := Arr.new (w.alloc (.cells (bcells z64) 74)) 74 z64
    simpa using this
  have B1 : But b w ((w.alloc (.cells (bcells z64) 74)).alloc (.cells (bcells z64) 74)) := ((But.refl _ _).alloc _).alloc _
  have HB1 := hyd B1
  have C1 := (h.alloc (.cells (bcells z64) 74)).alloc (.cells (bcells z64) 74)
  have src : ∀ j, j < l.length → ((w.alloc (.cells (bcells z64) 74)).alloc (.cells (bcells z64) 74)).cell? ⟨c, o + j, none⟩ = some (.int .u8 (l.getD j 0 : Nat)) := fun j hj => (B1.cell hcs hcb _).trans (HC.out j hj)
  have HS := hyd src
  clear src B1
  go_enter Try.func48, Try.ntmps48
  go_wp2_with (first | (refine wpList_copy_arr rfl (.tmp 16) (.tmp 17) rfl (w.heap.size + 1) 0 64 64 c o 64 cap rfl rfl A1 l (by rw [hl]; rfl) HS.out (by rw [hl, z64_length]; omega) ?_))
  have A0' : Arr (((w.alloc (.cells (bcells z64) 74)).alloc (.cells (bcells z64) 74)).setRow (w.heap.size + 1) (bcells (lay z64 0 l))) w.heap.size 74 z64 := (A0.alloc _).rowOther (by omega) _
  have A1' : Arr (((w.alloc (.cells (bcells z64) 74)).alloc (.cells (bcells z64) 74)).setRow (w.heap.size + 1) (bcells (lay z64 0 l))) (w.heap.size + 1) 74 l := by
    have := A1.row (lay z64 0 l)
    rwa [lay_all z64 l (by rw [z64_length, hl])] at this ⊢
  have C1' : Cod (((w.alloc (.cells (bcells z64) 74)).alloc (.cells (bcells z64) 74)).setRow (w.heap.size + 1) (bcells (lay z64 0 l))) q b := C1.setRow (by omega) (by omega) _
  have B1' : But b w (((w.alloc (.cells (bcells z64) 74)).alloc (.cells (bcells z64) 74)).setRow (w.heap.size + 1) (bcells (lay z64 0 l))) := HB1.out.setRow (by omega) _
  generalize ((w.alloc (.cells (bcells z64) 74)).alloc (.cells (bcells z64) 74)).setRow (w.heap.size + 1) (bcells (lay z64 0 l)) = w2 at *
  clear A0 A1 C1 HS HB1
  have hRd : Rd w2 b (some ⟨c, o, none⟩) l := ⟨hb, Or.inr ⟨c, o, rfl, hcb, Nat.lt_of_lt_of_le hcs B1'.size, fun i hi => (B1'.cell hcs hcb _).trans (HC.out i hi)⟩⟩
  have hsl := syL_length l 6
  have hsb := syL_bys hb 6
  refine (syndromes_any q b w2 C1' (some ⟨c, o, none⟩) 64 cap l hl.symm (by omega) hRd).mono ?_
  rintro e w3 ⟨rfl, C3, B3⟩
  have A03 : Arr w3 w.heap.size 74 z64 := A0'.but B3 (by omega)
  have A13 : Arr w3 (w.heap.size + 1) 74 l := A1'.but B3 (by omega)
  have B13 : But b w w3 := B1'.trans B3
  clear A0' A1' C1' B1' B3 hRd
  by_cases h0 : syL l 6 = [0, 0, 0, 0, 0, 0]
  · have heq : ∀ w, (Op.equalIn 10000 106 (.agg (bcells (syL l 6))) (.agg (bcells [0, 0, 0, 0, 0, 0]))).run Try.prog w = .ok true w := fun w => by
      rw [eq_arr 9998 w 106 6 Try.underlying106 (syL l 6) [0, 0, 0, 0, 0, 0] hsl rfl, decide_eq_true h0]
    have HD := hyd (dec_zero hl hb (syL_zeros.1 h0))
    have H0 := hyd h0
    clear h0
    go_wp2_with (first | (refine wpList_store_one rfl 106 (.tmp 8) (.tmp 21) rfl _ _ rfl rfl (Arr.new w3 106 [0, 0, 0, 0, 0, 0]) size63 rfl hsl ?_; intro w4 hS4 hO4; have A04 : Arr w4 w.heap.size 74 z64 := (hO4.arr (by have := A03.lt; omega) (A03.alloc _)); have A14 : Arr w4 (w.heap.size + 1) 74 l := (hO4.arr (by have := A13.lt; omega) (A13.alloc _)); have C4 : Cod w4 q b := (hO4.cod (by have := C3.lt; omega) (by have := C3.1.lt; omega) (C3.alloc _)); have B4 : But b w w4 := (hO4.but B13.size (B13.alloc _)); clear hO4) | (refine wpList_load_arr rfl 106 (.tmp 8) rfl _ rfl hS4 Try.underlying106 size63 hsl ?_) | (refine wpList_load_arr rfl 74 (.tmp 7) rfl _ rfl A14 Try.underlying74 size55 hl ?_) | (refine wpList_store_one rfl 74 (.tmp 4) (.tmp 25) rfl _ _ rfl rfl A04 size55 z64_length hl ?_; intro w5 hS5 hO5))
    refine bodyPost_ret (results_arr3 rfl _ hS5 rfl Try.underlying74 size55 hl) rfl ⟨l, 0, true, rfl, ⟨hl, hb, by omega, Or.inl ⟨rfl, HD.out⟩⟩, hO5.cod (by omega) (by omega) C4, hO5.but (by omega) B4⟩
  · have heq : ∀ w, (Op.equalIn 10000 106 (.agg (bcells (syL l 6))) (.agg (bcells [0, 0, 0, 0, 0, 0]))).run Try.prog w = .ok false w := fun w => by
      rw [eq_arr 9998 w 106 6 Try.underlying106 (syL l 6) [0, 0, 0, 0, 0, 0] hsl rfl, decide_eq_false h0]
    have H0 := hyd h0
    clear h0
    go_wp2_with (first | (refine wpList_store_one rfl 106 (.tmp 8) (.tmp 21) rfl _ _ rfl rfl (Arr.new w3 106 [0, 0, 0, 0, 0, 0]) size63 rfl hsl ?_; intro w4 hS4 hO4; have A04 : Arr w4 w.heap.size 74 z64 := (hO4.arr (by have := A03.lt; omega) (A03.alloc _)); have A14 : Arr w4 (w.heap.size + 1) 74 l := (hO4.arr (by have := A13.lt; omega) (A13.alloc _)); have C4 : Cod w4 q b := (hO4.cod (by have := C3.lt; omega) (by have := C3.1.lt; omega) (C3.alloc _)); have B4 : But b w w4 := (hO4.but B13.size (B13.alloc _)); clear hO4) | (refine wpList_load_arr rfl 106 (.tmp 8) rfl _ rfl hS4 Try.underlying106 size63 hsl ?_))
    have hg3 : w.heap.size + 1 < w3.heap.size := A13.lt
    have hbg3 : b < w3.heap.size := C3.1.lt
    clear A03 A13 B13 C3
    generalize w3.heap.size = g3 at *
    refine (one_any q b _ C4 (syL l 6) hsl hsb).mono ?_
    rintro e w5 ⟨h1, C5, B5⟩
    have A05 : Arr w5 w.heap.size 74 z64 := A04.but B5 (by omega)
    have A15 : Arr w5 (w.heap.size + 1) 74 l := A14.but B5 (by omega)
    have S5 : Arr w5 g3 106 (syL l 6) := hS4.but B5 (by omega)
    have B15 : But b w w5 := B4.trans B5
    clear A04 A14 hS4 B4 B5 C4
    rcases h1 with ⟨i, hi, rfl, hOn⟩ | ⟨rfl, hNo⟩
    · have HD := hyd (near_one hl hb H0.out hi hOn)
      clear hOn
      have c1 := A15.cell i (by omega)
      have c2 := S5.cell 0 (by omega)
      have d1 := hb.getD i
      have d2 := hsb.getD 0
      have hkb6 : (0 : Int) ≤ (i : Int) := by omega
      have hkb7 : (i : Int) < 64 := by omega
      have f1 := A15.frozen i
      have HA : Hid (addAt l i ((syL l 6).getD 0 0) = l.set i (l.getD i 0 ^^^ (syL l 6).getD 0 0)) := rfl
      have hml : (addAt l i ((syL l 6).getD 0 0)).length = 64 := by rw [addAt_length]; exact hl
      have hmb : Bys (addAt l i ((syL l 6).getD 0 0)) := addAt_bys hb i _ d2
      generalize hM : addAt l i ((syL l 6).getD 0 0) = M at *
      have HM := hyd hM
      clear hM
      generalize l.getD i 0 = x at *
      generalize (syL l 6).getD 0 0 = y at *
      have e1 := u8_xor_nat x y d1 d2
      go_wp2_with fail
      go_region
      have A16 : Arr ((w5.setCell ⟨w.heap.size + 1, i, none⟩ (.int .u8 ((x ^^^ y : Nat) : Int))).drew) (w.heap.size + 1) 74 M := by
        rw [HA.out]; exact (A15.store i _).drew
      have A06 : Arr ((w5.setCell ⟨w.heap.size + 1, i, none⟩ (.int .u8 ((x ^^^ y : Nat) : Int))).drew) w.heap.size 74 z64 := (A05.setOther (by omega) _ _).drew
      have C6 : Cod ((w5.setCell ⟨w.heap.size + 1, i, none⟩ (.int .u8 ((x ^^^ y : Nat) : Int))).drew) q b := (C5.setNew (by omega) (by omega) _ _).drew
      have B6 : But b w ((w5.setCell ⟨w.heap.size + 1, i, none⟩ (.int .u8 ((x ^^^ y : Nat) : Int))).drew) := (B15.setNew (by omega) _ _).drew
      generalize (w5.setCell ⟨w.heap.size + 1, i, none⟩ (.int .u8 ((x ^^^ y : Nat) : Int))).drew = w6 at *
      clear A15 A05 C5 B15 c1 c2 f1 S5
      go_wp2_with (first | (refine wpList_load_arr rfl 74 (.tmp 7) rfl _ rfl A16 Try.underlying74 size55 hml ?_) | (refine wpList_store_one rfl 74 (.tmp 4) (.tmp 40) rfl _ _ rfl rfl A06 size55 z64_length hml ?_; intro w7 hS7 hO7))
      refine bodyPost_ret (results_arr3 rfl _ hS7 rfl Try.underlying74 size55 hml) rfl ⟨M, 1, true, rfl, ⟨hml, hmb, by omega, Or.inl ⟨rfl, HD.out⟩⟩, hO7.cod (by omega) (by omega) C6, hO7.but (by omega) B6⟩
    · have HNo := hyd hNo
      clear hNo
      go_wp2_with (refine wpList_load_arr rfl 106 (.tmp 8) rfl _ rfl S5 Try.underlying106 size63 hsl ?_)
      refine (two_any q b _ C5 (syL l 6) hsl hsb).mono ?_
      rintro e w6 ⟨h2, C6, B6⟩
      have A06 : Arr w6 w.heap.size 74 z64 := A05.but B6 (by omega)
      have A16 : Arr w6 (w.heap.size + 1) 74 l := A15.but B6 (by omega)
      have S6 : Arr w6 g3 106 (syL l 6) := S5.but B6 (by omega)
      have B16 : But b w w6 := B15.trans B6
      clear A05 A15 S5 B15 B6 C5
      rcases h2 with ⟨i, j, hi, hj, rfl, hFo⟩ | ⟨rfl, hNf⟩
      · have HD := hyd (near_two hl hb HNo.out hi hj hFo)
        clear hFo
        go_wp2_with (refine wpList_load_arr rfl 106 (.tmp 8) rfl _ rfl S6 Try.underlying106 size63 hsl ?_)
        refine (turned_any q b _ C6 (syL l 6) hsl hsb i j hi (by omega) (by omega)).mono ?_
        rintro e w7 ⟨rfl, C7, B7⟩
        have A07 : Arr w7 w.heap.size 74 z64 := A06.but B7 (by omega)
        have A17 : Arr w7 (w.heap.size + 1) 74 l := A16.but B7 (by omega)
        have B17 : But b w w7 := B16.trans B7
        clear A06 A16 S6 B16 B7 C6
        have hya : (syL l 6).getD 0 0 ^^^ atJ (syL l 6) i j < 256 := xor_lt _ _ (hsb.getD 0) (gm_lt _ _)
        have hyb : atJ (syL l 6) i j < 256 := gm_lt _ _
        generalize (syL l 6).getD 0 0 ^^^ atJ (syL l 6) i j = ya at *
        generalize atJ (syL l 6) i j = yb at *
        have hm1 : (addAt l i ya).length = 64 := by rw [addAt_length]; exact hl
        have hmb1 : Bys (addAt l i ya) := addAt_bys hb i _ hya
        have hm2 : (addAt (addAt l i ya) j yb).length = 64 := by rw [addAt_length]; exact hm1
        have hmb2 : Bys (addAt (addAt l i ya) j yb) := addAt_bys hmb1 j _ hyb
        have c1 := A17.cell i (by omega)
        have f1 := A17.frozen i
        have d1 := hb.getD i
        have e1 := u8_xor_nat (l.getD i 0) ya d1 hya
        have A18 : Arr (w7.setCell ⟨w.heap.size + 1, i, none⟩ (.int .u8 ((l.getD i 0 ^^^ ya : Nat) : Int))) (w.heap.size + 1) 74 (addAt l i ya) := A17.store i _
        have c2 := A18.cell j (by omega)
        have f2 := A18.frozen j
        have d2 := hmb1.getD j
        have e2 := u8_xor_nat ((addAt l i ya).getD j 0) yb d2 hyb
        have A19 : Arr ((w7.setCell ⟨w.heap.size + 1, i, none⟩ (.int .u8 ((l.getD i 0 ^^^ ya : Nat) : Int))).setCell ⟨w.heap.size + 1, j, none⟩ (.int .u8 (((addAt l i ya).getD j 0 ^^^ yb : Nat) : Int))) (w.heap.size + 1) 74 (addAt (addAt l i ya) j yb) := A18.store j _
        have A09 := (A07.setOther (show w.heap.size + 1 ≠ w.heap.size by omega) i (.int .u8 ((l.getD i 0 ^^^ ya : Nat) : Int))).setOther (show w.heap.size + 1 ≠ w.heap.size by omega) j (.int .u8 (((addAt l i ya).getD j 0 ^^^ yb : Nat) : Int))
        have C9 := (C7.setNew (show w.heap.size + 1 ≠ q by omega) (show w.heap.size + 1 ≠ b by omega) i (.int .u8 ((l.getD i 0 ^^^ ya : Nat) : Int))).setNew (show w.heap.size + 1 ≠ q by omega) (show w.heap.size + 1 ≠ b by omega) j (.int .u8 (((addAt l i ya).getD j 0 ^^^ yb : Nat) : Int))
        have B9 := (B17.setNew (show w.heap.size ≤ w.heap.size + 1 by omega) i (.int .u8 ((l.getD i 0 ^^^ ya : Nat) : Int))).setNew (show w.heap.size ≤ w.heap.size + 1 by omega) j (.int .u8 (((addAt l i ya).getD j 0 ^^^ yb : Nat) : Int))
        have HA19 := hyd A19
        have HA09 := hyd A09
        have HC9 := hyd C9
        have HB9 := hyd B9
        clear A19 A09 C9 B9 A18
        generalize hM : addAt (addAt l i ya) j yb = M at *
        have HM := hyd hM
        clear hM
        generalize (addAt l i ya).getD j 0 = x2 at *
        generalize l.getD i 0 = x1 at *
        have hkb6 : (0 : Int) ≤ (i : Int) := by omega
        have hkb7 : (i : Int) < 64 := by omega
        have hkb8 : (0 : Int) ≤ (j : Int) := by omega
        have hkb9 : (j : Int) < 64 := by omega
        go_wp2_with (first | (refine wpList_load_arr rfl 74 (.tmp 7) rfl _ rfl HA19.out Try.underlying74 size55 hm2 ?_) | (refine wpList_store_one rfl 74 (.tmp 4) (.tmp 69) rfl _ _ rfl rfl HA09.out size55 z64_length hm2 ?_; intro w10 hS10 hO10))
        refine bodyPost_ret (results_arr3 rfl _ hS10 rfl Try.underlying74 size55 hm2) rfl ⟨M, 2, true, rfl, ⟨hm2, hmb2, by omega, Or.inl ⟨rfl, HD.out⟩⟩, hO10.cod (by omega) (by omega) HC9.out, hO10.but (by omega) HB9.out⟩
      · have HD := hyd (near_none hl hb H0.out HNo.out hNf)
        clear hNf
        have hbys : Bys z64 := by intro n hn; have := List.eq_of_mem_replicate hn; omega
        go_wp2_with (refine wpList_store_one rfl 74 (.tmp 4) (.tmp 70) rfl _ _ rfl rfl A06 size55 z64_length z64_length ?_; intro w10 hS10 hO10)
        refine bodyPost_ret (results_arr3 rfl _ hS10 rfl Try.underlying74 size55 z64_length) rfl ⟨z64, 0, false, rfl, ⟨z64_length, hbys, by omega, Or.inr ⟨rfl, HD.out⟩⟩, hO10.cod (by omega) (by omega) C6, hO10.but (by omega) B16⟩
end Go.Proofs.Ytdofegphipbcdaa
