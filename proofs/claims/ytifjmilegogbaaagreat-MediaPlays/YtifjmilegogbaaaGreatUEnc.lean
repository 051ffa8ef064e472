/-
  Bytes that are copied into an array in memory; results of which the first lies in memory. Condition: the bytes can be read, the array has room. The codeword near a word, as an array, and its distance. Condition: the block holds a Codec that New gave; the word's bytes can be read. (*Codec).Syndromes and (*Codec).Decode. Condition: the block holds a Codec that New gave; the bytes can be read. What a message, moved up, leaves when it is divided by the generator: with it behind the message the word is a codeword. No condition: plain mathematics. (*Codec).remainder and (*Codec).Encode. Condition: the block holds a Codec that New gave; the message's bytes can be read. (*Codec).Encode. Condition: the block holds a Codec that New gave; the message's bytes can be read. rs.New: a Codec. No condition.
-/
import Derived.Test.YtifjmilegogbaaaGreatUCod
import Derived.Laws.CopyOwn
import Derived.Test.YtifjmilegogbaaaGreatUSearch
import Derived.Deep.RegionLaw
namespace Go.Proofs.YtifjmilegogbaaaGreat
open Go.RowKit
set_option maxRecDepth 100000

/-- src is laid over cur from place off on. -/
def lay (cur : List Nat) (off : Nat) (src : List Nat) : List Nat := cur.take off ++ (src ++ cur.drop (off + src.length))
theorem lay_length {cur : List Nat} {off : Nat} {src : List Nat} (h : off + src.length ≤ cur.length) : (lay cur off src).length = cur.length := by simp [lay]; omega
theorem lay_row (cur : List Nat) (off : Nat) (src : List Nat) :
    ((bcells cur).toList.take off ++ ((src.map fun (n : Nat) => Value.int .u8 (n : Int)) ++ (bcells cur).toList.drop (off + (src.map fun (n : Nat) => Value.int .u8 (n : Int)).length))).toArray = bcells (lay cur off src) := by
  simp [bcells, lay, List.map_take, List.map_drop]
theorem src_cells {w : World} {c o : Nat} {src : List Nat} (h : ∀ j, j < src.length → w.cell? ⟨c, o + j, none⟩ = some (.int .u8 (src.getD j 0 : Nat))) :
    ∀ j v, (src.map fun (n : Nat) => Value.int .u8 (n : Int))[j]? = some v → w.cell? ((⟨c, o, none⟩ : Addr).add j) = some v := by
  intro j v hv
  have hadd : (⟨c, o, none⟩ : Addr).add j = ⟨c, o + j, none⟩ := by unfold Addr.add; split <;> simp_all
  rw [hadd]
  by_cases hj : j < src.length
  · rw [h j hj, ← hv]
    simp [List.getD_eq_getElem?_getD, List.getElem?_eq_getElem hj]
  · rw [List.getElem?_eq_none (by simp; omega)] at hv; cases hv
theorem one_cells (src : List Nat) : ∀ v ∈ src.map (fun (n : Nat) => Value.int .u8 (n : Int)), v.oneCell' = true := by
  intro v hv
  obtain ⟨n, _, rfl⟩ := List.mem_map.1 hv
  rfl
theorem size5 : (Tryz.prog.info? 5).map (·.size) = some 1 := by kernel_rfl
theorem wpList_copy_arr {w : World} {ops : Array Oper} {rest : List Oper} {o : Oper} {a : Act} {Q : Exit → Act → World → Prop} (hgd : o.guard = none) (d s : Operand)
    (ho : o.op = .call { callee := .builtin .copy, args := #[d, s], argTypes := #[55, 55] }) (g off dLen dCap c oo sLen sCap : Nat) (hd : a.eval d = .slice (some ⟨g, off, none⟩) dLen dCap) (hs : a.eval s = .slice (some ⟨c, oo, none⟩) sLen sCap)
    {t : TypeId} {cur : List Nat} (hg : Arr w g t cur) (src : List Nat) (hn : src.length = Nat.min sLen dLen) (hsrc : ∀ j, j < src.length → w.cell? ⟨c, oo + j, none⟩ = some (.int .u8 (src.getD j 0 : Nat))) (hfit : off + src.length ≤ cur.length)
    (h : wpList Tryz.prog ops Q rest (a.put o.dst (goInt src.length)) (w.setRow g (bcells (lay cur off src)))) : wpList Tryz.prog ops Q (o :: rest) a w := by
  refine wpList_copy_own hgd d s 55 55 ho 5 Tryz.underlying55 size5 g off dLen dCap ⟨c, oo, none⟩ sLen sCap hd hs (bcells cur) t hg (src.map fun (n : Nat) => Value.int .u8 (n : Int)) (by simpa using hn) (src_cells hsrc) (by simpa [bcells_size] using hfit) (one_cells src) ?_
  rw [lay_row, List.length_map]
  exact h
theorem results_arr3 {fn : Func} {p u v : Tmp} {ty : TypeId} (h : fn.results = #[.cell p ty, .tmp u, .tmp v]) (tmps : Array Value) {w : World} {g : Nat} {t : TypeId} {l : List Nat} (hg : Arr w g t l) (hp : tmps.getD p undef = .pointer (some ⟨g, 0, none⟩)) {m : Nat} {el : TypeId}
    (hu : Tryz.prog.underlying ty = some (.array m el)) {n : Nat} (hi : (Tryz.prog.info? ty).map (·.size) = some n) (hn : l.length = n) :
    (results fn tmps).run Tryz.prog w = .ok (.tuple #[.agg (bcells l), tmps.getD u undef, tmps.getD v undef]) w := by
  have hp' : tmps[p]?.getD undef = .pointer (some ⟨g, 0, none⟩) := by simpa using hp
  have hl := run_loadVar_row (P := Tryz.prog) w g t ty (bcells l) _ _ hg hu rfl (by rw [bcells_size, hn]; exact hi)
  simp [results, h, hp', asAddr, hl]
/-- Sixty-four noughts. -/
def z64 : List Nat := List.replicate 64 0
theorem z64_length : z64.length = 64 := by simp [z64]
theorem zero55' (w : World) : (zeroValue 190).run Tryz.prog w = .ok (.agg (bcells z64)) w := zero55 w
theorem lay_all (cur src : List Nat) (h : cur.length = src.length) : lay cur 0 src = src := by
  simp [lay, h]
end Go.Proofs.YtifjmilegogbaaaGreat
namespace Go.Proofs.YtifjmilegogbaaaGreat
open Go.RowKit
set_option maxRecDepth 100000

/-- w' is w, but for what lies in block g. -/
structure One (g : Nat) (w w' : World) : Prop where
  os : w'.os = w.os
  tape : w'.tape = w.tape
  output : w'.output = w.output
  size : w'.heap.size = w.heap.size
  block : ∀ k, k ≠ g → w'.heap[k]? = w.heap[k]?
theorem One.row (w : World) (g : Nat) (c : Array Value) : One g w (w.setRow g c) := ⟨rfl, rfl, rfl, by simp, fun k hk => setRow_other _ _ _ _ hk⟩
theorem One.arr {g k : Nat} {w w' : World} {t : TypeId} {l : List Nat} (h : One g w w') (hk : k ≠ g) (ha : Arr w k t l) : Arr w' k t l := (h.block k hk).trans ha
theorem One.cod {g q b : Nat} {w w' : World} (h : One g w w') (hq : q ≠ g) (hb : b ≠ g) (hc : Cod w q b) : Cod w' q b := hc.other (h.block b hb) (h.block q hq)
theorem One.but {g b : Nat} {u w w' : World} (h : One g w w') (hg : u.heap.size ≤ g) (hB : But b u w) : But b u w' :=
  ⟨h.os.trans hB.os, h.tape.trans hB.tape, h.output.trans hB.output, by rw [h.size]; exact hB.size, fun k hk hb => (h.block k (by omega)).trans (hB.block k hk hb)⟩
theorem wpList_store_one {ops : Array Oper} {rest : List Oper} {o : Oper} {a : Act} {w : World} {Q : Exit → Act → World → Prop} (hgd : o.guard = none) (ty : TypeId) (x y : Operand) (ho : o.op = .store ty x y)
    (g : Nat) (l' : List Nat) (hx : a.eval x = .pointer (some ⟨g, 0, none⟩)) (hy : a.eval y = .agg (bcells l')) {t : TypeId} {l : List Nat} (hg : Arr w g t l) {n : Nat} (hi : (Tryz.prog.info? ty).map (·.size) = some n) (hn : l.length = n) (hn' : l'.length = n)
    (h : ∀ w', Arr w' g t l' → One g w w' → wpList Tryz.prog ops Q rest (a.put o.dst undef) w') : wpList Tryz.prog ops Q (o :: rest) a w :=
  wpList_store_arr hgd ty x y ho g l' hx hy hg hi hn hn' (h _ (hg.row l') (One.row w g _))
/-- What nearest answers of the word l. -/
def Nr (l M : List Nat) (d : Nat) (t : Bool) : Prop := M.length = 64 ∧ Bys M ∧ d ≤ 2 ∧ ((t = true ∧ IsDec l (some (M.take 58, d))) ∨ (t = false ∧ IsDec l none))

set_option maxHeartbeats 4000000 in
theorem nearest_any (q b : Nat) (w : World) (h : Cod w q b) (c o cap : Nat) (l : List Nat) (hl : l.length = 64) (hb : Bys l) (hcb : c ≠ b) (hcs : c < w.heap.size)
    (hcell : ∀ i, i < l.length → w.cell? ⟨c, o + i, none⟩ = some (.int .u8 (l.getD i 0 : Nat))) :
    Calls Tryz.prog 133 #[.pointer (some ⟨q, 0, none⟩), .slice (some ⟨c, o, none⟩) 64 cap] w fun e w' => ∃ (M : List Nat) (d : Nat) (t : Bool), e = .returned (.tuple #[.agg (bcells M), .int .i64 d, .bool t]) ∧ Nr l M d t ∧ Cod w' q b ∧ But b w w' := by
  have hz := zero55'
  have hz2 := zero63
  have hne := h.ne
  have hq := h.lt
  have hbb := h.1.lt
  have HC := hyd hcell
  clear hcell
  have A0 : Arr (w.alloc (.cells (bcells z64) 190)) w.heap.size 190 z64 := Arr.new _ _ _
  have A1 : Arr ((w.alloc (.cells (bcells z64) 190)).alloc (.cells (bcells z64) 190)) (w.heap.size + 1) 190 z64 := by
    have := Arr.new (w.alloc (.cells (bcells z64) 190)) 190 z64
    simpa using this
  have B1 : But b w ((w.alloc (.cells (bcells z64) 190)).alloc (.cells (bcells z64) 190)) := ((But.refl _ _).alloc _).alloc _
  have HB1 := hyd B1
  have C1 := (h.alloc (.cells (bcells z64) 190)).alloc (.cells (bcells z64) 190)
  have src : ∀ j, j < l.length → ((w.alloc (.cells (bcells z64) 190)).alloc (.cells (bcells z64) 190)).cell? ⟨c, o + j, none⟩ = some (.int .u8 (l.getD j 0 : Nat)) := fun j hj => (B1.cell hcs hcb _).trans (HC.out j hj)
  have HS := hyd src
  clear src B1
  go_enter Tryz.func133, Tryz.ntmps133
  go_wp2_with (first | (refine wpList_copy_arr rfl (.tmp 16) (.tmp 17) rfl (w.heap.size + 1) 0 64 64 c o 64 cap rfl rfl A1 l (by rw [hl]; rfl) HS.out (by rw [hl, z64_length]; omega) ?_))
  have A0' : Arr (((w.alloc (.cells (bcells z64) 190)).alloc (.cells (bcells z64) 190)).setRow (w.heap.size + 1) (bcells (lay z64 0 l))) w.heap.size 190 z64 := (A0.alloc _).rowOther (by omega) _
  have A1' : Arr (((w.alloc (.cells (bcells z64) 190)).alloc (.cells (bcells z64) 190)).setRow (w.heap.size + 1) (bcells (lay z64 0 l))) (w.heap.size + 1) 190 l := by
    have := A1.row (lay z64 0 l)
    rwa [lay_all z64 l (by rw [z64_length, hl])] at this ⊢
  have C1' : Cod (((w.alloc (.cells (bcells z64) 190)).alloc (.cells (bcells z64) 190)).setRow (w.heap.size + 1) (bcells (lay z64 0 l))) q b := C1.setRow (by omega) (by omega) _
  have B1' : But b w (((w.alloc (.cells (bcells z64) 190)).alloc (.cells (bcells z64) 190)).setRow (w.heap.size + 1) (bcells (lay z64 0 l))) := HB1.out.setRow (by omega) _
  generalize ((w.alloc (.cells (bcells z64) 190)).alloc (.cells (bcells z64) 190)).setRow (w.heap.size + 1) (bcells (lay z64 0 l)) = w2 at *
  clear A0 A1 C1 HS HB1
  have hRd : Rd w2 b (some ⟨c, o, none⟩) l := ⟨hb, Or.inr ⟨c, o, rfl, hcb, Nat.lt_of_lt_of_le hcs B1'.size, fun i hi => (B1'.cell hcs hcb _).trans (HC.out i hi)⟩⟩
  have hsl := syL_length l 6
  have hsb := syL_bys hb 6
  refine (syndromes_any q b w2 C1' (some ⟨c, o, none⟩) 64 cap l hl.symm (by omega) hRd).mono ?_
  rintro e w3 ⟨rfl, C3, B3⟩
  have A03 : Arr w3 w.heap.size 190 z64 := A0'.but B3 (by omega)
  have A13 : Arr w3 (w.heap.size + 1) 190 l := A1'.but B3 (by omega)
  have B13 : But b w w3 := B1'.trans B3
  clear A0' A1' C1' B1' B3 hRd
  by_cases h0 : syL l 6 = [0, 0, 0, 0, 0, 0]
  · have heq : ∀ w, (Op.equalIn 10000 231 (.agg (bcells (syL l 6))) (.agg (bcells [0, 0, 0, 0, 0, 0]))).run Tryz.prog w = .ok true w := fun w => by
      rw [eq_arr 9998 w 231 6 Tryz.underlying231 (syL l 6) [0, 0, 0, 0, 0, 0] hsl rfl, decide_eq_true h0]
    have HD := hyd (dec_zero hl hb (syL_zeros.1 h0))
    have H0 := hyd h0
    clear h0
    go_wp2_with (first | (refine wpList_store_one rfl 231 (.tmp 8) (.tmp 21) rfl _ _ rfl rfl (Arr.new w3 231 [0, 0, 0, 0, 0, 0]) size63 rfl hsl ?_; intro w4 hS4 hO4; have A04 : Arr w4 w.heap.size 190 z64 := (hO4.arr (by have := A03.lt; omega) (A03.alloc _)); have A14 : Arr w4 (w.heap.size + 1) 190 l := (hO4.arr (by have := A13.lt; omega) (A13.alloc _)); have C4 : Cod w4 q b := (hO4.cod (by have := C3.lt; omega) (by have := C3.1.lt; omega) (C3.alloc _)); have B4 : But b w w4 := (hO4.but B13.size (B13.alloc _)); clear hO4) | (refine wpList_load_arr rfl 231 (.tmp 8) rfl _ rfl hS4 Tryz.underlying231 size63 hsl ?_) | (refine wpList_load_arr rfl 190 (.tmp 7) rfl _ rfl A14 Tryz.underlying190 size55 hl ?_) | (refine wpList_store_one rfl 190 (.tmp 4) (.tmp 25) rfl _ _ rfl rfl A04 size55 z64_length hl ?_; intro w5 hS5 hO5))
    refine bodyPost_ret (results_arr3 rfl _ hS5 rfl Tryz.underlying190 size55 hl) rfl ⟨l, 0, true, rfl, ⟨hl, hb, by omega, Or.inl ⟨rfl, HD.out⟩⟩, hO5.cod (by omega) (by omega) C4, hO5.but (by omega) B4⟩
  · have heq : ∀ w, (Op.equalIn 10000 231 (.agg (bcells (syL l 6))) (.agg (bcells [0, 0, 0, 0, 0, 0]))).run Tryz.prog w = .ok false w := fun w => by
      rw [eq_arr 9998 w 231 6 Tryz.underlying231 (syL l 6) [0, 0, 0, 0, 0, 0] hsl rfl, decide_eq_false h0]
    have H0 := hyd h0
    clear h0
    go_wp2_with (first | (refine wpList_store_one rfl 231 (.tmp 8) (.tmp 21) rfl _ _ rfl rfl (Arr.new w3 231 [0, 0, 0, 0, 0, 0]) size63 rfl hsl ?_; intro w4 hS4 hO4; have A04 : Arr w4 w.heap.size 190 z64 := (hO4.arr (by have := A03.lt; omega) (A03.alloc _)); have A14 : Arr w4 (w.heap.size + 1) 190 l := (hO4.arr (by have := A13.lt; omega) (A13.alloc _)); have C4 : Cod w4 q b := (hO4.cod (by have := C3.lt; omega) (by have := C3.1.lt; omega) (C3.alloc _)); have B4 : But b w w4 := (hO4.but B13.size (B13.alloc _)); clear hO4) | (refine wpList_load_arr rfl 231 (.tmp 8) rfl _ rfl hS4 Tryz.underlying231 size63 hsl ?_))
    have hg3 : w.heap.size + 1 < w3.heap.size := A13.lt
    have hbg3 : b < w3.heap.size := C3.1.lt
    clear A03 A13 B13 C3
    generalize w3.heap.size = g3 at *
    refine (one_any q b _ C4 (syL l 6) hsl hsb).mono ?_
    rintro e w5 ⟨h1, C5, B5⟩
    have A05 : Arr w5 w.heap.size 190 z64 := A04.but B5 (by omega)
    have A15 : Arr w5 (w.heap.size + 1) 190 l := A14.but B5 (by omega)
    have S5 : Arr w5 g3 231 (syL l 6) := hS4.but B5 (by omega)
    have B15 : But b w w5 := B4.trans B5
    clear A04 A14 hS4 B4 B5 C4
    rcases h1 with ⟨i, hi, rfl, hOn⟩ | ⟨rfl, hNo⟩
    · have HD := hyd (near_one hl hb H0.out hi hOn)
      clear hOn
      have c1 := A15.cell i (by omega)
      have c2 := S5.cell 0 (by omega)
      have d1 := hb.getD i
      have d2 := hsb.getD 0
      have hkb6 : (0 : Int) ≤ (i : Int) := by omega
      have hkb7 : (i : Int) < 64 := by omega
      have f1 := A15.frozen i
      have HA : Hid (addAt l i ((syL l 6).getD 0 0) = l.set i (l.getD i 0 ^^^ (syL l 6).getD 0 0)) := rfl
      have hml : (addAt l i ((syL l 6).getD 0 0)).length = 64 := by rw [addAt_length]; exact hl
      have hmb : Bys (addAt l i ((syL l 6).getD 0 0)) := addAt_bys hb i _ d2
      generalize hM : addAt l i ((syL l 6).getD 0 0) = M at *
      have HM := hyd hM
      clear hM
      generalize l.getD i 0 = x at *
      generalize (syL l 6).getD 0 0 = y at *
      have e1 := u8_xor_nat x y d1 d2
      go_wp2_with fail
      go_region
      have A16 : Arr ((w5.setCell ⟨w.heap.size + 1, i, none⟩ (.int .u8 ((x ^^^ y : Nat) : Int))).drew) (w.heap.size + 1) 190 M := by
        rw [HA.out]; exact (A15.store i _).drew
      have A06 : Arr ((w5.setCell ⟨w.heap.size + 1, i, none⟩ (.int .u8 ((x ^^^ y : Nat) : Int))).drew) w.heap.size 190 z64 := (A05.setOther (by omega) _ _).drew
      have C6 : Cod ((w5.setCell ⟨w.heap.size + 1, i, none⟩ (.int .u8 ((x ^^^ y : Nat) : Int))).drew) q b := (C5.setNew (by omega) (by omega) _ _).drew
      have B6 : But b w ((w5.setCell ⟨w.heap.size + 1, i, none⟩ (.int .u8 ((x ^^^ y : Nat) : Int))).drew) := (B15.setNew (by omega) _ _).drew
      generalize (w5.setCell ⟨w.heap.size + 1, i, none⟩ (.int .u8 ((x ^^^ y : Nat) : Int))).drew = w6 at *
      clear A15 A05 C5 B15 c1 c2 f1 S5
      go_wp2_with (first | (refine wpList_load_arr rfl 190 (.tmp 7) rfl _ rfl A16 Tryz.underlying190 size55 hml ?_) | (refine wpList_store_one rfl 190 (.tmp 4) (.tmp 40) rfl _ _ rfl rfl A06 size55 z64_length hml ?_; intro w7 hS7 hO7))
      refine bodyPost_ret (results_arr3 rfl _ hS7 rfl Tryz.underlying190 size55 hml) rfl ⟨M, 1, true, rfl, ⟨hml, hmb, by omega, Or.inl ⟨rfl, HD.out⟩⟩, hO7.cod (by omega) (by omega) C6, hO7.but (by omega) B6⟩
    · have HNo := hyd hNo
      clear hNo
      go_wp2_with (refine wpList_load_arr rfl 231 (.tmp 8) rfl _ rfl S5 Tryz.underlying231 size63 hsl ?_)
      refine (two_any q b _ C5 (syL l 6) hsl hsb).mono ?_
      rintro e w6 ⟨h2, C6, B6⟩
      have A06 : Arr w6 w.heap.size 190 z64 := A05.but B6 (by omega)
      have A16 : Arr w6 (w.heap.size + 1) 190 l := A15.but B6 (by omega)
      have S6 : Arr w6 g3 231 (syL l 6) := S5.but B6 (by omega)
      have B16 : But b w w6 := B15.trans B6
      clear A05 A15 S5 B15 B6 C5
      rcases h2 with ⟨i, j, hi, hj, rfl, hFo⟩ | ⟨rfl, hNf⟩
      · have HD := hyd (near_two hl hb HNo.out hi hj hFo)
        clear hFo
        go_wp2_with (refine wpList_load_arr rfl 231 (.tmp 8) rfl _ rfl S6 Tryz.underlying231 size63 hsl ?_)
        refine (turned_any q b _ C6 (syL l 6) hsl hsb i j hi (by omega) (by omega)).mono ?_
        rintro e w7 ⟨rfl, C7, B7⟩
        have A07 : Arr w7 w.heap.size 190 z64 := A06.but B7 (by omega)
        have A17 : Arr w7 (w.heap.size + 1) 190 l := A16.but B7 (by omega)
        have B17 : But b w w7 := B16.trans B7
        clear A06 A16 S6 B16 B7 C6
        have hya : (syL l 6).getD 0 0 ^^^ atJ (syL l 6) i j < 256 := xor_lt _ _ (hsb.getD 0) (gm_lt _ _)
        have hyb : atJ (syL l 6) i j < 256 := gm_lt _ _
        generalize (syL l 6).getD 0 0 ^^^ atJ (syL l 6) i j = ya at *
        generalize atJ (syL l 6) i j = yb at *
        have hm1 : (addAt l i ya).length = 64 := by rw [addAt_length]; exact hl
        have hmb1 : Bys (addAt l i ya) := addAt_bys hb i _ hya
        have hm2 : (addAt (addAt l i ya) j yb).length = 64 := by rw [addAt_length]; exact hm1
        have hmb2 : Bys (addAt (addAt l i ya) j yb) := addAt_bys hmb1 j _ hyb
        have c1 := A17.cell i (by omega)
        have f1 := A17.frozen i
        have d1 := hb.getD i
        have e1 := u8_xor_nat (l.getD i 0) ya d1 hya
        have A18 : Arr (w7.setCell ⟨w.heap.size + 1, i, none⟩ (.int .u8 ((l.getD i 0 ^^^ ya : Nat) : Int))) (w.heap.size + 1) 190 (addAt l i ya) := A17.store i _
        have c2 := A18.cell j (by omega)
        have f2 := A18.frozen j
        have d2 := hmb1.getD j
        have e2 := u8_xor_nat ((addAt l i ya).getD j 0) yb d2 hyb
        have A19 : Arr ((w7.setCell ⟨w.heap.size + 1, i, none⟩ (.int .u8 ((l.getD i 0 ^^^ ya : Nat) : Int))).setCell ⟨w.heap.size + 1, j, none⟩ (.int .u8 (((addAt l i ya).getD j 0 ^^^ yb : Nat) : Int))) (w.heap.size + 1) 190 (addAt (addAt l i ya) j yb) := A18.store j _
        have A09 := (A07.setOther (show w.heap.size + 1 ≠ w.heap.size by omega) i (.int .u8 ((l.getD i 0 ^^^ ya : Nat) : Int))).setOther (show w.heap.size + 1 ≠ w.heap.size by omega) j (.int .u8 (((addAt l i ya).getD j 0 ^^^ yb : Nat) : Int))
        have C9 := (C7.setNew (show w.heap.size + 1 ≠ q by omega) (show w.heap.size + 1 ≠ b by omega) i (.int .u8 ((l.getD i 0 ^^^ ya : Nat) : Int))).setNew (show w.heap.size + 1 ≠ q by omega) (show w.heap.size + 1 ≠ b by omega) j (.int .u8 (((addAt l i ya).getD j 0 ^^^ yb : Nat) : Int))
        have B9 := (B17.setNew (show w.heap.size ≤ w.heap.size + 1 by omega) i (.int .u8 ((l.getD i 0 ^^^ ya : Nat) : Int))).setNew (show w.heap.size ≤ w.heap.size + 1 by omega) j (.int .u8 (((addAt l i ya).getD j 0 ^^^ yb : Nat) : Int))
        have HA19 := hyd A19
        have HA09 := hyd A09
        have HC9 := hyd C9
        have HB9 := hyd B9
        clear A19 A09 C9 B9 A18
        generalize hM : addAt (addAt l i ya) j yb = M at *
        have HM := hyd hM
        clear hM
        generalize (addAt l i ya).getD j 0 = x2 at *
        generalize l.getD i 0 = x1 at *
        have hkb6 : (0 : Int) ≤ (i : Int) := by omega
        have hkb7 : (i : Int) < 64 := by omega
        have hkb8 : (0 : Int) ≤ (j : Int) := by omega
        have hkb9 : (j : Int) < 64 := by omega
        go_wp2_with (first | (refine wpList_load_arr rfl 190 (.tmp 7) rfl _ rfl HA19.out Tryz.underlying190 size55 hm2 ?_) | (refine wpList_store_one rfl 190 (.tmp 4) (.tmp 69) rfl _ _ rfl rfl HA09.out size55 z64_length hm2 ?_; intro w10 hS10 hO10))
        refine bodyPost_ret (results_arr3 rfl _ hS10 rfl Tryz.underlying190 size55 hm2) rfl ⟨M, 2, true, rfl, ⟨hm2, hmb2, by omega, Or.inl ⟨rfl, HD.out⟩⟩, hO10.cod (by omega) (by omega) HC9.out, hO10.but (by omega) HB9.out⟩
      · have HD := hyd (near_none hl hb H0.out HNo.out hNf)
        clear hNf
        have hbys : Bys z64 := by intro n hn; have := List.eq_of_mem_replicate hn; omega
        go_wp2_with (refine wpList_store_one rfl 190 (.tmp 4) (.tmp 70) rfl _ _ rfl rfl A06 size55 z64_length z64_length ?_; intro w10 hS10 hO10)
        refine bodyPost_ret (results_arr3 rfl _ hS10 rfl Tryz.underlying190 size55 z64_length) rfl ⟨z64, 0, false, rfl, ⟨z64_length, hbys, by omega, Or.inr ⟨rfl, HD.out⟩⟩, hO10.cod (by omega) (by omega) C6, hO10.but (by omega) B16⟩
end Go.Proofs.YtifjmilegogbaaaGreat
namespace Go.Proofs.YtifjmilegogbaaaGreat
open Go.RowKit
set_option maxRecDepth 100000

def z58 : List Nat := List.replicate 58 0
theorem z58_length : z58.length = 58 := by simp [z58]
theorem make58 (w : World) : (Instr.makeSlice 55 (.int .i64 58) (.int .i64 58)).run Tryz.prog w = .ok (.slice (some ⟨w.heap.size, 0, none⟩) 58 58) (w.alloc (.cells (bcells z58) 5)) := make_bytes w 58 58 rfl (by omega)
theorem make64 (w : World) : (Instr.makeSlice 55 (.int .i64 64) (.int .i64 64)).run Tryz.prog w = .ok (.slice (some ⟨w.heap.size, 0, none⟩) 64 64) (w.alloc (.cells (bcells z64) 5)) := make_bytes w 64 64 rfl (by omega)
def z6 : List Nat := List.replicate 6 0
theorem z6_length : z6.length = 6 := by simp [z6]
theorem make6 (w : World) : (Instr.makeSlice 55 (.int .i64 6) (.int .i64 6)).run Tryz.prog w = .ok (.slice (some ⟨w.heap.size, 0, none⟩) 6 6) (w.alloc (.cells (bcells z6) 5)) := make_bytes w 6 6 rfl (by omega)
theorem wpList_copy_one {w : World} {ops : Array Oper} {rest : List Oper} {o : Oper} {a : Act} {Q : Exit → Act → World → Prop} (hgd : o.guard = none) (d s : Operand)
    (ho : o.op = .call { callee := .builtin .copy, args := #[d, s], argTypes := #[55, 55] }) (g off dLen dCap c oo sLen sCap : Nat) (hd : a.eval d = .slice (some ⟨g, off, none⟩) dLen dCap) (hs : a.eval s = .slice (some ⟨c, oo, none⟩) sLen sCap)
    {t : TypeId} {cur : List Nat} (hg : Arr w g t cur) (src : List Nat) (hn : src.length = Nat.min sLen dLen) (hsrc : ∀ j, j < src.length → w.cell? ⟨c, oo + j, none⟩ = some (.int .u8 (src.getD j 0 : Nat))) (hfit : off + src.length ≤ cur.length)
    (h : ∀ w', Arr w' g t (lay cur off src) → One g w w' → wpList Tryz.prog ops Q rest (a.put o.dst (goInt src.length)) w') : wpList Tryz.prog ops Q (o :: rest) a w :=
  wpList_copy_arr hgd d s ho g off dLen dCap c oo sLen sCap hd hs hg src hn hsrc hfit (h _ (hg.row _) (One.row w g _))
theorem getD_take (l : List Nat) (n j : Nat) (h : j < n) : (l.take n).getD j 0 = l.getD j 0 := by
  simp [List.getD_eq_getElem?_getD, h]

theorem decode_arg (q : Nat) (w : World) (a : Option Addr) (n cap : Nat) (hn : n ≠ 64) :
    Calls Tryz.prog 114 #[.pointer (some ⟨q, 0, none⟩), .slice a n cap] w fun e w' => e = .returned (.tuple #[.slice none 0 0, .int .i64 0, .iface 58 (.int .i64 1)]) ∧ w' = w := by
  have hn' : ((n : Int) != 64) = true := by simp; omega
  go_enter Tryz.func114, Tryz.ntmps114
  go_wp2
  go_ret3
  exact ⟨rfl, rfl⟩
theorem encode_arg (q : Nat) (w : World) (a : Option Addr) (n cap : Nat) (hn : n ≠ 58) :
    Calls Tryz.prog 110 #[.pointer (some ⟨q, 0, none⟩), .slice a n cap] w fun e w' => e = .returned (.tuple #[.slice none 0 0, .iface 58 (.int .i64 1)]) ∧ w' = w := by
  have hn' : ((n : Int) != 58) = true := by simp; omega
  go_enter Tryz.func110, Tryz.ntmps110
  go_wp2
  go_ret2
  exact ⟨rfl, rfl⟩

/-- What Decode answers of the word l. -/
def DecAns (w w' : World) (l : List Nat) (e : Ending) : Prop :=
  (IsDec l none ∧ e = .returned (.tuple #[.slice none 0 0, .int .i64 0, .iface 58 (.int .i64 5)])) ∨
  (∃ (m : List Nat) (d g : Nat), IsDec l (some (m, d)) ∧ d ≤ 2 ∧ m.length = 58 ∧ Bys m ∧ e = .returned (.tuple #[.slice (some ⟨g, 0, none⟩) 58 58, .int .i64 d, .nilIface]) ∧ w.heap.size ≤ g ∧ Arr w' g 5 m)
theorem Bys.take {l : List Nat} (h : Bys l) (n : Nat) : Bys (l.take n) := fun x hx => h x (List.mem_of_mem_take hx)

set_option maxHeartbeats 4000000 in
theorem decode_any (q b : Nat) (w : World) (h : Cod w q b) (c o cap : Nat) (l : List Nat) (hl : l.length = 64) (hb : Bys l) (hcb : c ≠ b) (hcs : c < w.heap.size)
    (hcell : ∀ i, i < l.length → w.cell? ⟨c, o + i, none⟩ = some (.int .u8 (l.getD i 0 : Nat))) :
    Calls Tryz.prog 114 #[.pointer (some ⟨q, 0, none⟩), .slice (some ⟨c, o, none⟩) 64 cap] w fun e w' => DecAns w w' l e ∧ Cod w' q b ∧ But b w w' := by
  have hz := zero55'
  have hmk := make58
  have hne := h.ne
  have hq := h.lt
  have hbb := h.1.lt
  have HC := hyd hcell
  clear hcell
  go_enter Tryz.func114, Tryz.ntmps114
  go_wp2_with fail
  refine (nearest_any q b w h c o cap l hl hb hcb hcs HC.out).mono ?_
  rintro e w3 ⟨M, d, t, rfl, ⟨hMl, hMb, hd, hNr⟩, C3, B3⟩
  have HNr := hyd hNr
  clear hNr
  have hM58 : (M.take 58).length = 58 := by rw [List.length_take, hMl]; omega
  cases t with
  | false =>
    have HD : Hid (IsDec l none) := hyd (by
      rcases HNr.out with ⟨h1, _⟩ | ⟨_, h2⟩
      · cases h1
      · exact h2)
    go_wp2_with (first | (refine wpList_store_one rfl 190 (.tmp 7) (.tmp 19) rfl _ _ rfl rfl (Arr.new w3 190 z64) size55 z64_length hMl ?_; intro w4 hS4 hO4; have C4 : Cod w4 q b := (hO4.cod (by have := C3.lt; omega) (by have := C3.1.lt; omega) (C3.alloc _)); have B4 : But b w w4 := (hO4.but B3.size (B3.alloc _)); clear hO4))
    go_ret3
    exact ⟨Or.inl ⟨HD.out, rfl⟩, C4, B4⟩
  | true =>
    have HD : Hid (IsDec l (some (M.take 58, d))) := hyd (by
      rcases HNr.out with ⟨_, h1⟩ | ⟨h2, _⟩
      · exact h1
      · cases h2)
    go_wp2_with (first | (refine wpList_store_one rfl 190 (.tmp 7) (.tmp 19) rfl _ _ rfl rfl (Arr.new w3 190 z64) size55 z64_length hMl ?_; intro w4 hS4 hO4; have C4 : Cod w4 q b := (hO4.cod (by have := C3.lt; omega) (by have := C3.1.lt; omega) (C3.alloc _)); have B4 : But b w w4 := (hO4.but B3.size (B3.alloc _)); have HZ4 : Hid (w4.heap.size = w3.heap.size + 1) := (hyd (by rw [hO4.size]; simp)); clear hO4) | (refine wpList_copy_one rfl (.tmp 26) (.tmp 27) rfl w4.heap.size 0 58 58 w3.heap.size 0 64 64 rfl rfl (Arr.new w4 5 z58) (M.take 58) (by rw [hM58]; rfl) (fun j hj => by rw [Nat.zero_add, getD_take _ _ _ (by omega)]; exact (hS4.alloc _).cell j (by omega)) (by rw [hM58, z58_length]; omega) ?_; intro w5 hS5 hO5))
    go_ret3
    have hz4 := HZ4.out
    rw [lay_all z58 (M.take 58) (by rw [z58_length, hM58])] at hS5
    exact ⟨Or.inr ⟨M.take 58, d, w4.heap.size, HD.out, hd, hM58, hMb.take 58, rfl, B4.size, hS5⟩, hO5.cod (by have := C4.lt; omega) (by have := C4.1.lt; omega) (C4.alloc _), hO5.but B4.size (B4.alloc _)⟩
end Go.Proofs.YtifjmilegogbaaaGreat
namespace Go.Proofs.YtifjmilegogbaaaGreat

theorem fold_ev (x : Nat) (_hx : x < 256) (b : List Nat) (hb : Bys b) (s : Nat) (hs : s < 256) : b.foldl (fun s c => gm s x ^^^ c) s = gm s (xp x b.length) ^^^ ev x b := by
  induction b generalizing s with
  | nil => show s = gm s 1 ^^^ 0; rw [gm_one s hs, Nat.xor_zero]
  | cons c t ih =>
    have hc : c < 256 := hb c (by simp)
    have ht : Bys t := fun n hn => hb n (by simp [hn])
    show t.foldl _ (gm s x ^^^ c) = gm s (gm (xp x t.length) x) ^^^ t.foldl _ (gm 0 x ^^^ c)
    rw [ih ht _ (xor_lt _ _ (gm_lt _ _) hc), ih ht _ (xor_lt _ _ (gm_lt _ _) hc), gm_zero_left, Nat.zero_xor, xor_gm _ _ _ (xp_lt _ _) (gm_lt _ _) hc, gm_assoc, gm_comm x, Nat.xor_assoc]
theorem ev_append (x : Nat) (hx : x < 256) (a b : List Nat) (ha : Bys a) (hb : Bys b) : ev x (a ++ b) = gm (ev x a) (xp x b.length) ^^^ ev x b := by
  unfold ev
  rw [List.foldl_append]
  exact fold_ev x hx b hb _ (ev_lt x a ha)

/-- The rest behind i symbols. -/
def rem (l : List Nat) : Nat → List Nat
  | 0 => [0, 0, 0, 0, 0, 0]
  | i + 1 => inner (l.getD i 0 ^^^ (rem l i).getD 0 0) gl 0 ((rem l i).drop 1 ++ [0]) 6
theorem rem_length (l : List Nat) (i : Nat) : (rem l i).length = 6 := by
  induction i with
  | zero => rfl
  | succ i ih => show (inner _ _ _ _ _).length = 6; rw [inner_length]; simp [ih]
theorem rem_base_bys {r : List Nat} (h : Bys r) : Bys (r.drop 1 ++ [0]) := by
  intro n hn
  rcases List.mem_append.1 hn with hn | hn
  · exact h n (List.mem_of_mem_drop hn)
  · simp at hn; omega
theorem rem_bys (l : List Nat) (i : Nat) : Bys (rem l i) := by
  induction i with
  | zero => intro n hn; simp [rem] at hn; omega
  | succ i ih => exact inner_bys _ _ _ _ (rem_base_bys ih) _
theorem gl_roots : allB 6 (fun k => ev (ex k) gl == xp (ex k) 6) = true := by decide +kernel
theorem gl_root (k : Nat) (h : k < 6) : ev (ex k) gl = xp (ex k) 6 := by simpa using allB_at gl_roots k h
theorem ev_cons (x : Nat) (hx : x < 256) (c : Nat) (t : List Nat) (hc : c < 256) (ht : Bys t) : ev x (c :: t) = gm c (xp x t.length) ^^^ ev x t := by
  have h := ev_append x hx [c] t (by intro n hn; simp at hn; omega) ht
  rw [show [c] ++ t = c :: t from rfl] at h
  rw [h]
  congr 2
  show gm 0 x ^^^ c = c
  rw [gm_zero_left, Nat.zero_xor]
theorem rem_ev (l : List Nat) (hl : Bys l) (k : Nat) (hk : k < 6) (i : Nat) (hi : i ≤ l.length) : gm (ev (ex k) (l.take i)) (xp (ex k) 6) = ev (ex k) (rem l i) := by
  have hx := ex_lt k
  induction i with
  | zero =>
    show gm 0 _ = ev (ex k) [0, 0, 0, 0, 0, 0]
    rw [gm_zero_left]
    exact (ev_zeros (ex k) 6).symm
  | succ i ih =>
    have ih := ih (by omega)
    have hr := rem_bys l i
    have hrl := rem_length l i
    rw [ev_take _ l i (by omega)]
    show _ = ev (ex k) (inner (l.getD i 0 ^^^ (rem l i).getD 0 0) gl 0 ((rem l i).drop 1 ++ [0]) 6)
    have hin := ev_inner (ex k) hx (l.getD i 0 ^^^ (rem l i).getD 0 0) gl 0 1 ((rem l i).drop 1 ++ [0]) (rem_base_bys hr) (by omega) (by simp [hrl]; rfl) 6 (Nat.le_refl _)
    have hgp : pv (ex k) gl 6 = xp (ex k) 6 := by rw [← gl_root k hk]; exact (ev_pv (ex k) hx gl gl_bys).symm
    rw [hin, hgp]
    obtain ⟨r0, t, hrt⟩ : ∃ r0 t, rem l i = r0 :: t := by
      cases h : rem l i with
      | nil => rw [h] at hrl; cases hrl
      | cons a t => exact ⟨a, t, rfl⟩
    rw [hrt] at ih hr hrl ⊢
    have h0 : r0 < 256 := hr r0 (by simp)
    have ht : Bys t := fun n hn => hr n (by simp [hn])
    have htl : t.length = 5 := by simpa using hrl
    rw [ev_cons _ hx r0 t h0 ht, htl] at ih
    show gm (gm (ev (ex k) (l.take i)) (ex k) ^^^ l.getD i 0) (xp (ex k) 6) = ev (ex k) (t ++ [0]) ^^^ gm (gm (l.getD i 0 ^^^ r0) 1) (xp (ex k) 6)
    have hd := hl.getD i
    rw [gm_one _ (xor_lt _ _ hd h0), ev_snoc, Nat.xor_zero, xor_gm _ _ _ (xp_lt _ _) (gm_lt _ _) hd, xor_gm _ _ _ (xp_lt _ _) hd h0]
    have e1 : gm (gm (ev (ex k) (l.take i)) (ex k)) (xp (ex k) 6) = gm (gm (ev (ex k) (l.take i)) (xp (ex k) 6)) (ex k) := by rw [gm_assoc, gm_comm (ex k), ← gm_assoc]
    rw [e1, ih, xor_gm _ _ _ hx (gm_lt _ _) (ev_lt _ _ ht)]
    have e2 : gm (gm r0 (xp (ex k) 5)) (ex k) = gm r0 (xp (ex k) 6) := by rw [gm_assoc]; rfl
    rw [e2]
    ac_rfl
/-- The codeword of a message. -/
def encL (l : List Nat) : List Nat := l ++ rem l 58
theorem encL_cw {l : List Nat} (hl : l.length = 58) (hb : Bys l) : Cw (encL l) := by
  refine ⟨by simp [encL, hl, rem_length], ?_, ?_⟩
  · intro n hn
    rcases List.mem_append.1 hn with h | h
    · exact hb n h
    · exact rem_bys l 58 n h
  · intro k hk
    unfold encL
    rw [ev_append _ (ex_lt k) l _ hb (rem_bys l 58), rem_length]
    have := rem_ev l hb k hk 58 (by omega)
    rw [List.take_of_length_le (by omega)] at this
    rw [this, Nat.xor_self]
theorem encL_take {l : List Nat} (hl : l.length = 58) : (encL l).take 58 = l := by
  unfold encL
  rw [List.take_append_of_le_length (by omega), List.take_of_length_le (by omega)]
end Go.Proofs.YtifjmilegogbaaaGreat
namespace Go.Proofs.YtifjmilegogbaaaGreat
open Go.RowKit
set_option maxRecDepth 100000

theorem step_copy_one {ops : Array Oper} {o : Oper} {a : Act} {w : World} {K : Act → World → Prop} {Q : Exit → Act → World → Prop} {E : Prop} (hgd : o.guard = none) (d s : Operand)
    (ho : o.op = .call { callee := .builtin .copy, args := #[d, s], argTypes := #[55, 55] }) (g off dLen dCap c oo sLen sCap : Nat) (hd : a.eval d = .slice (some ⟨g, off, none⟩) dLen dCap) (hs : a.eval s = .slice (some ⟨c, oo, none⟩) sLen sCap)
    {t : TypeId} {cur : List Nat} (hg : Arr w g t cur) (src : List Nat) (hn : src.length = Nat.min sLen dLen) (hsrc : ∀ j, j < src.length → w.cell? ⟨c, oo + j, none⟩ = some (.int .u8 (src.getD j 0 : Nat))) (hfit : off + src.length ≤ cur.length)
    (h : ∀ w', Arr w' g t (lay cur off src) → One g w w' → K (a.put o.dst (goInt src.length)) w') :
    if Region.wanted o (yielded ops a.tmps) = true then Oper.wp Tryz.prog o a w K Q else E := by
  have hw : Region.wanted o (yielded ops a.tmps) = true := by simp [Region.wanted, hgd]
  rw [if_pos hw]
  have hrun := run_copy_row (P := Tryz.prog) w 55 55 o.type 5 g off dLen dCap ⟨c, oo, none⟩ sLen sCap (bcells cur) t (src.map fun (n : Nat) => Value.int .u8 (n : Int)) Tryz.underlying55 size5 hg (by simpa using hn) (src_cells hsrc) (by simpa [bcells_size] using hfit) (one_cells src)
  rw [List.append_assoc, lay_row, List.length_map] at hrun
  unfold Oper.wp
  simp [execOp, ho, resolve, invoke, builtin, hd, hs, hrun, Result.andThen]
  exact h _ (hg.row _) (One.row w g _)
theorem Cod.gens {w : World} {q b : Nat} (h : Cod w q b) : w.cell? ⟨q, 1, none⟩ = some (.int .u8 63) ∧ w.cell? ⟨q, 2, none⟩ = some (.int .u8 1) ∧ w.cell? ⟨q, 3, none⟩ = some (.int .u8 218) ∧ w.cell? ⟨q, 4, none⟩ = some (.int .u8 32) ∧ w.cell? ⟨q, 5, none⟩ = some (.int .u8 227) ∧ w.cell? ⟨q, 6, none⟩ = some (.int .u8 38) :=
  ⟨h.gen 0 (by omega), h.gen 1 (by omega), h.gen 2 (by omega), h.gen 3 (by omega), h.gen 4 (by omega), h.gen 5 (by omega)⟩
theorem lay_shift {r : List Nat} (h : r.length = 6) : (lay r 0 (r.drop 1)).set 5 0 = r.drop 1 ++ [0] := by
  obtain ⟨a, b, c, d, e, f, rfl⟩ : ∃ a b c d e f, r = [a, b, c, d, e, f] := by
    match r, h with
    | [a, b, c, d, e, f], _ => exact ⟨a, b, c, d, e, f, rfl⟩
  rfl
theorem drop_getD (r : List Nat) (j : Nat) : (r.drop 1).getD j 0 = r.getD (1 + j) 0 := by
  simp [List.getD_eq_getElem?_getD, Nat.add_comm]

theorem index6_0 (w : World) : (Instr.index 189 (.agg #[Value.int .u8 63, .int .u8 1, .int .u8 218, .int .u8 32, .int .u8 227, .int .u8 38]) (.int .i64 0)).run Tryz.prog w = .ok (.int .u8 63) w := by kernel_rfl
theorem index6_1 (w : World) : (Instr.index 189 (.agg #[Value.int .u8 63, .int .u8 1, .int .u8 218, .int .u8 32, .int .u8 227, .int .u8 38]) (.int .i64 1)).run Tryz.prog w = .ok (.int .u8 1) w := by kernel_rfl
theorem index6_2 (w : World) : (Instr.index 189 (.agg #[Value.int .u8 63, .int .u8 1, .int .u8 218, .int .u8 32, .int .u8 227, .int .u8 38]) (.int .i64 2)).run Tryz.prog w = .ok (.int .u8 218) w := by kernel_rfl
theorem index6_3 (w : World) : (Instr.index 189 (.agg #[Value.int .u8 63, .int .u8 1, .int .u8 218, .int .u8 32, .int .u8 227, .int .u8 38]) (.int .i64 3)).run Tryz.prog w = .ok (.int .u8 32) w := by kernel_rfl
theorem index6_4 (w : World) : (Instr.index 189 (.agg #[Value.int .u8 63, .int .u8 1, .int .u8 218, .int .u8 32, .int .u8 227, .int .u8 38]) (.int .i64 4)).run Tryz.prog w = .ok (.int .u8 227) w := by kernel_rfl
theorem index6_5 (w : World) : (Instr.index 189 (.agg #[Value.int .u8 63, .int .u8 1, .int .u8 218, .int .u8 32, .int .u8 227, .int .u8 38]) (.int .i64 5)).run Tryz.prog w = .ok (.int .u8 38) w := by kernel_rfl
theorem index6 (k : Nat) (h : k < 6) (w : World) : (Instr.index 189 (.agg #[Value.int .u8 63, .int .u8 1, .int .u8 218, .int .u8 32, .int .u8 227, .int .u8 38]) (.int .i64 (k : Int))).run Tryz.prog w = .ok (.int .u8 (gl.getD k 0 : Nat)) w := by
  rcases (by omega : k = 0 ∨ k = 1 ∨ k = 2 ∨ k = 3 ∨ k = 4 ∨ k = 5) with e | e | e | e | e | e <;> subst e
  · exact index6_0 w
  · exact index6_1 w
  · exact index6_2 w
  · exact index6_3 w
  · exact index6_4 w
  · exact index6_5 w

set_option maxHeartbeats 4000000 in
theorem remainder_any (q b : Nat) (w : World) (h : Cod w q b) (c o cap : Nat) (l : List Nat) (hl : l.length = 58) (hb : Bys l) (hcb : c ≠ b) (hcs : c < w.heap.size)
    (hcell : ∀ i, i < l.length → w.cell? ⟨c, o + i, none⟩ = some (.int .u8 (l.getD i 0 : Nat))) :
    Calls Tryz.prog 130 #[.pointer (some ⟨q, 0, none⟩), .slice (some ⟨c, o, none⟩) 58 cap] w fun e w' => e = .returned (.agg (bcells (rem l 58))) ∧ Cod w' q b ∧ But b w w' := by
  have hz := zero53
  have hne := h.ne
  have hq := h.lt
  have hbb := h.1.lt
  have HC := hyd hcell
  clear hcell
  go_enter Tryz.func130, Tryz.ntmps130
  go_wp2_with fail
  go_loopw [13] (fun t wr => ∃ i : Nat, i ≤ 58 ∧ t = .int .i64 i ∧ Arr wr w.heap.size 189 [0, 0, 0, 0, 0, 0] ∧ Arr wr (w.heap.size + 1) 189 (rem l i) ∧ Cod wr q b ∧ But b w wr) (fun t _ => 58 - (intOf t).toNat)
  case atStart =>
    have h1 := Arr.new w 189 [0, 0, 0, 0, 0, 0]
    have h2 := Arr.new (w.alloc (.cells (bcells [0, 0, 0, 0, 0, 0]) 189)) 189 [0, 0, 0, 0, 0, 0]
    refine ⟨0, by omega, rfl, h1.alloc _, ?_, (h.alloc _).alloc _, ((But.refl _ _).alloc _).alloc _⟩
    have h3 : Arr ((w.alloc (.cells (bcells [0, 0, 0, 0, 0, 0]) 189)).alloc (.cells (bcells [0, 0, 0, 0, 0, 0]) 189)) (w.heap.size + 1) 189 [0, 0, 0, 0, 0, 0] := by simpa using h2
    exact h3
  case round =>
    obtain ⟨i, hi, rfl, hR, hO, hC, hB⟩ := hrel
    by_cases hlt : i < 58
    · have c1 : wr.cell? ⟨c, o + i, none⟩ = some (.int .u8 (l.getD i 0 : Nat)) := (hB.cell hcs hcb _).trans (HC.out i (by omega))
      have hrl := rem_length l i
      have hrb := rem_bys l i
      have HR : Hid (rem l (i + 1) = inner (l.getD i 0 ^^^ (rem l i).getD 0 0) gl 0 ((rem l i).drop 1 ++ [0]) 6) := rfl
      have c2 := hO.cell 0 (by omega)
      have d1 := hb.getD i
      have d2 := hrb.getD 0
      have e1 := u8_xor_nat (l.getD i 0) ((rem l i).getD 0 0) d1 d2
      have hfl := xor_lt _ _ d1 d2
      have hkb6 : (0 : Int) ≤ (i : Int) := by omega
      have hkb7 : (i : Int) < 58 := by omega
      generalize l.getD i 0 = x at *
      generalize hr : rem l i = r at *
      have Hr := hyd hr
      clear hr
      generalize r.getD 0 0 = y at *
      generalize x ^^^ y = f at *
      go_wp2_with fail
      have hdl : (r.drop 1).length = 5 := by simp [hrl]
      have HRL := hyd hrl
      have hsrc : ∀ j, j < (r.drop 1).length → wr.drew.cell? ⟨w.heap.size + 1, 1 + j, none⟩ = some (.int .u8 ((r.drop 1).getD j 0 : Nat)) := fun j hj => by
        rw [drop_getD]; exact hO.drew.cell (1 + j) (by omega)
      have HSRC := hyd hsrc
      have HDL := hyd hdl
      clear hsrc hdl hrl
      go_region_law (refine step_copy_one rfl (.tmp 21) (.tmp 22) rfl (w.heap.size + 1) 0 6 6 (w.heap.size + 1) 1 5 5 rfl rfl hO.drew (r.drop 1) (by rw [HDL.out]; rfl) HSRC.out (by rw [HDL.out, HRL.out]; omega) ?_; intro w2 hO2 hX2)
      have hR2 : Arr w2 w.heap.size 189 [0, 0, 0, 0, 0, 0] := hX2.arr (by omega) hR.drew
      have hC2 : Cod w2 q b := hX2.cod (by omega) (by omega) hC.drew
      have hB2 : But b w w2 := hX2.but (by omega) hB.drew
      clear hR hC hB hX2 hO c1 c2
      have hO3 : Arr (w2.setCell ⟨w.heap.size + 1, 5, none⟩ (.int .u8 0)) (w.heap.size + 1) 189 (r.drop 1 ++ [0]) := by
        rw [← lay_shift HRL.out]; exact hO2.store 5 0
      have c5 := hO2.cell 5 (by rw [lay_length (by rw [HDL.out, HRL.out]; omega), HRL.out]; omega)
      have f5 := hO2.frozen 5
      have hR3 : Arr (w2.setCell ⟨w.heap.size + 1, 5, none⟩ (.int .u8 0)) w.heap.size 189 [0, 0, 0, 0, 0, 0] := hR2.setOther (by omega) _ _
      have hC3 : Cod (w2.setCell ⟨w.heap.size + 1, 5, none⟩ (.int .u8 0)) q b := hC2.setNew (by omega) (by omega) _ _
      have hB3 : But b w (w2.setCell ⟨w.heap.size + 1, 5, none⟩ (.int .u8 0)) := hB2.setNew (by omega) _ _
      obtain ⟨g1, g2, g3, g4, g5, g6⟩ := hC3.gens
      have HO3 := hyd hO3
      have HR3 := hyd hR3
      have HC3 := hyd hC3
      have HB3 := hyd hB3
      clear hO3 hR3 hC3 hB3 hR2 hC2 hB2 hO2
      go_wp2_with fail
      generalize w2.setCell ⟨w.heap.size + 1, 5, none⟩ (.int .u8 0) = w3 at *
      clear g1 g2 g3 g4 g5 g6 c5 f5 HSRC
      generalize hbs : r.drop 1 ++ [0] = bs at *
      have hbl : bs.length = 6 := by rw [← hbs]; simp [HRL.out]
      have hbb2 : Bys bs := by rw [← hbs]; exact rem_base_bys (by rw [← Hr.out]; exact rem_bys l i)
      have HBL := hyd hbl
      clear hbs hbl
      go_loopw [29] (fun t wx => ∃ k : Nat, k ≤ 6 ∧ t = .int .i64 k ∧ Arr wx w.heap.size 189 [0, 0, 0, 0, 0, 0] ∧ Arr wx (w.heap.size + 1) 189 (inner f gl 0 bs k) ∧ Cod wx q b ∧ But b w wx) (fun t _ => 6 - (intOf t).toNat)
      case atStart => exact ⟨0, by omega, rfl, HR3.out, HO3.out, HC3.out, HB3.out⟩
      case round =>
        clear HR3 HO3 HC3 HB3
        obtain ⟨k, hk, rfl, hR, hO, hC, hB⟩ := hrel
        by_cases hlt2 : k < 6
        · have hIl : (inner f gl 0 bs k).length = 6 := by rw [inner_length, HBL.out]
          have hIb := inner_bys f gl 0 bs hbb2 k
          have HS : Hid (inner f gl 0 bs (k + 1) = (inner f gl 0 bs k).set k ((inner f gl 0 bs k).getD k 0 ^^^ gm f (gl.getD k 0))) := hyd (by
            show addAt _ (0 + k) _ = _
            rw [Nat.zero_add]; rfl)
          have hidx := index6 k hlt2
          have c1 := hO.cell k (by omega)
          have f1 := hO.frozen k
          have c3 := hC.ptr
          have dg := gl_bys.getD k
          have dI := hIb.getD k
          have hkb6 : (0 : Int) ≤ (k : Int) := by omega
          have hkb7 : (k : Int) < 6 := by omega
          generalize inner f gl 0 bs k = I at *
          generalize hIk : I.getD k 0 = z at *
          have HIK := hyd hIk
          clear hIk
          generalize gl.getD k 0 = g at *
          have e2 := u8_xor_nat z (gm f g) dI (gm_lt _ _)
          have HIL := hyd hIl
          clear hIl
          have n1 : q ≠ w.heap.size + 1 := by omega
          go_wp2_with fail
          go_region_with
            (first | (go_at_call 134; refine (mul_nat b _ ?_ f g hfl dg).mono ?_; (exact hC.1.drew); rintro e w' ⟨rfl, hF', hB'⟩; have hR' : Arr w' w.heap.size 189 [0, 0, 0, 0, 0, 0] := (hR.drew.but hB' (by omega)); have hO' : Arr w' (w.heap.size + 1) 189 I := (hO.drew.but hB' (by omega)); have hC' : Cod w' q b := (hC.drew.but hF' hB'); have c4 := hC'.ptr; have c1' : w'.cell? ⟨w.heap.size + 1, k, none⟩ = some (.int .u8 (z : Nat)) := ((hB'.cell hO.lt (by omega) _).trans c1); have f1' := hO'.frozen k))
          all_goals
            have hO2 : Arr (w'.setCell ⟨w.heap.size + 1, k, none⟩ (.int .u8 ((z ^^^ gm f g : Nat) : Int))) (w.heap.size + 1) 189 (inner f gl 0 bs (k + 1)) := by
              rw [HS.out]; exact hO'.store k _
            clear c1 f1 c3 c4 c1' f1'
            go_wp2
            exact ⟨⟨k + 1, by omega, by go_num, hR'.setOther (by omega) _ _, hO2, hC'.setNew (by omega) (by omega) _ _, ((hB.drew.trans hB').setNew (by omega) _ _)⟩, by simp [intOf]; omega⟩
        · have hO5 : Arr wr (w.heap.size + 1) 189 (rem l (i + 1)) := by
            have e : k = 6 := by omega
            rw [e] at hO; rw [HR.out]; exact hO
          clear hO
          go_wp2
          exact ⟨⟨i + 1, by omega, by go_num, hR, hO5, hC, hB⟩, by simp [intOf]; omega⟩
    · have hO5 : Arr wr (w.heap.size + 1) 189 (rem l 58) := by
        have e : i = 58 := by omega
        rw [e] at hO; exact hO
      have hR2 := hR.row (rem l 58)
      have hC2 : Cod (wr.setRow w.heap.size (bcells (rem l 58))) q b := hC.setRow (by omega) (by omega) _
      have hB2 : But b w (wr.setRow w.heap.size (bcells (rem l 58))) := hB.setRow (by omega) _
      clear hO
      go_wp2_with (first | (refine wpList_load_arr rfl 189 (.tmp 5) rfl _ rfl hO5 Tryz.underlying189 size53 (rem_length _ _) ?_) | (refine wpList_store_arr rfl 189 (.tmp 4) (.tmp 47) rfl _ _ rfl rfl hR size53 rfl (rem_length _ _) ?_) | go_in)
      refine bodyPost_ret (results_arr rfl _ hR2 rfl Tryz.underlying189 size53 (rem_length _ _)) rfl ⟨rfl, hC2, hB2⟩
end Go.Proofs.YtifjmilegogbaaaGreat
namespace Go.Proofs.YtifjmilegogbaaaGreat
open Go.RowKit
set_option maxRecDepth 100000

theorem lay_enc {l r : List Nat} (hl : l.length = 58) (hr : r.length = 6) : lay (lay z64 0 l) 58 r = l ++ r := by
  have h1 : (lay z64 0 l).length = 64 := by rw [lay_length (by rw [hl, z64_length]; omega), z64_length]
  show (lay z64 0 l).take 58 ++ (r ++ (lay z64 0 l).drop (58 + r.length)) = l ++ r
  rw [hr, List.drop_eq_nil_of_le (by omega), List.append_nil]
  congr 1
  show ((z64.take 0) ++ (l ++ z64.drop (0 + l.length))).take 58 = l
  rw [List.take_zero, List.nil_append, List.take_append_of_le_length (by omega), List.take_of_length_le (by omega)]

set_option maxHeartbeats 4000000 in
theorem encode_any (q b : Nat) (w : World) (h : Cod w q b) (c o cap : Nat) (l : List Nat) (hl : l.length = 58) (hb : Bys l) (hcb : c ≠ b) (hcs : c < w.heap.size)
    (hcell : ∀ i, i < l.length → w.cell? ⟨c, o + i, none⟩ = some (.int .u8 (l.getD i 0 : Nat))) :
    Calls Tryz.prog 110 #[.pointer (some ⟨q, 0, none⟩), .slice (some ⟨c, o, none⟩) 58 cap] w fun e w' => ∃ g, e = .returned (.tuple #[.slice (some ⟨g, 0, none⟩) 64 64, .nilIface]) ∧ w.heap.size ≤ g ∧ Arr w' g 5 (encL l) ∧ Cod w' q b ∧ But b w w' := by
  have hz := zero53
  have hmk := make64
  have hne := h.ne
  have hq := h.lt
  have hbb := h.1.lt
  have HC := hyd hcell
  clear hcell
  have hrl := rem_length l 58
  go_enter Tryz.func110, Tryz.ntmps110
  go_wp2_with (first | (refine wpList_copy_one rfl (.tmp 13) (.tmp 14) rfl w.heap.size 0 64 64 c o 58 cap rfl rfl (Arr.new w 5 z64) l (by rw [hl]; rfl) (fun j hj => (((But.refl b w).alloc (.cells (bcells z64) 5)).cell hcs hcb _).trans (HC.out j hj)) (by rw [hl, z64_length]; omega) ?_; intro w2 hA2 hX2; have C2 : Cod w2 q b := (hX2.cod (by omega) (by omega) (h.alloc _)); have B2 : But b w w2 := (hX2.but (by omega) ((But.refl b w).alloc _)); clear hX2) | (go_at_call 130; refine (remainder_any q b _ C2 c o cap l hl hb hcb (Nat.lt_of_lt_of_le hcs B2.size) (fun i hi => (B2.cell hcs hcb _).trans (HC.out i hi))).mono ?_; rintro e w3 ⟨rfl, C3, B3⟩; have A3 : Arr w3 w.heap.size 5 (lay z64 0 l) := (hA2.but B3 (by omega)); have B13 : But b w w3 := (B2.trans B3); clear hA2 C2 B2 B3) | (refine wpList_store_one rfl 189 (.tmp 7) (.tmp 18) rfl _ _ rfl rfl (Arr.new w3 189 [0, 0, 0, 0, 0, 0]) size53 rfl hrl ?_; intro w4 hS4 hO4; have A4 : Arr w4 w.heap.size 5 (lay z64 0 l) := (hO4.arr (by have := A3.lt; omega) (A3.alloc _)); have C4 : Cod w4 q b := (hO4.cod (by have := C3.lt; omega) (by have := C3.1.lt; omega) (C3.alloc _)); have B4 : But b w w4 := (hO4.but B13.size (B13.alloc _)); have hlt3 : w.heap.size < w3.heap.size := A3.lt; clear hO4 A3 C3 B13))
  generalize w3.heap.size = g3 at *
  have h64 : (lay z64 0 l).length = 64 := by rw [lay_length (by rw [hl, z64_length]; omega), z64_length]
  have HL := hyd (lay_enc hl hrl)
  have H64 := hyd h64
  clear h64
  go_region_law (refine step_copy_one rfl (.tmp 20) (.tmp 21) rfl w.heap.size 58 6 6 g3 0 6 6 rfl rfl A4.drew (rem l 58) (by rw [hrl]; rfl) (fun j hj => by rw [Nat.zero_add]; exact hS4.drew.cell j hj) (by rw [hrl, H64.out]; omega) ?_; intro w5 hA5 hX5)
  rw [HL.out] at hA5
  have C5 : Cod w5 q b := hX5.cod (by omega) (by omega) C4.drew
  have B5 : But b w w5 := hX5.but (by omega) B4.drew
  clear hX5 A4 C4 B4 hS4
  go_wp2
  go_ret2
  exact ⟨w.heap.size, rfl, by omega, hA5, C5, B5⟩
end Go.Proofs.YtifjmilegogbaaaGreat
namespace Go.Proofs.YtifjmilegogbaaaGreat
open Go.RowKit
set_option maxRecDepth 100000

/-- A Codec's cells: the Field's address, the generator, the roots. -/
def crow (b : Nat) (G R : List Nat) : Array Value := (Value.pointer (some ⟨b, 0, none⟩) :: ((G ++ R).map fun (n : Nat) => Value.int .u8 (n : Int))).toArray
def Crw (w : World) (q b : Nat) (G R : List Nat) : Prop := w.heap[q]? = some (.cells (crow b G R) 192)
theorem Crw.lt {w : World} {q b : Nat} {G R : List Nat} (h : Crw w q b G R) : q < w.heap.size := (Array.getElem?_eq_some_iff.1 h).1
theorem Crw.ptr {w : World} {q b : Nat} {G R : List Nat} (h : Crw w q b G R) : w.cell? ⟨q, 0, none⟩ = some (.pointer (some ⟨b, 0, none⟩)) := by
  rw [cell_of_row w q 0 _ _ _ h]; simp [crow]
theorem Crw.frozen {w : World} {q b : Nat} {G R : List Nat} (h : Crw w q b G R) (i : Nat) : w.frozen? ⟨q, i, none⟩ = false := frozen_of_row w q i _ _ h
theorem Crw.but {w w' : World} {q b : Nat} {G R : List Nat} (h : Crw w q b G R) (hB : But b w w') (hq : q ≠ b) : Crw w' q b G R := (hB.block q h.lt hq).trans h
theorem Crw.alloc {w : World} {q b : Nat} {G R : List Nat} (h : Crw w q b G R) (o : Obj) : Crw (w.alloc o) q b G R := (Below.heap_alloc _ _ _ h.lt).trans h
theorem Crw.drew {w : World} {q b : Nat} {G R : List Nat} (h : Crw w q b G R) : Crw w.drew q b G R := h
theorem Crw.root {w : World} {q b : Nat} {G R : List Nat} (h : Crw w q b G R) (hG : G.length = 6) (i : Nat) (hi : i < R.length) : w.cell? ⟨q, 7 + i, none⟩ = some (.int .u8 (R.getD i 0 : Nat)) := by
  rw [cell_of_row w q _ _ _ _ h, show 7 + i = (6 + i) + 1 from by omega]
  simp only [crow, List.map_append, List.getElem?_toArray, List.getElem?_cons_succ]
  rw [List.getElem?_append_right (by simp [hG]), List.length_map, hG, show 6 + i - 6 = i from by omega]
  simp [List.getD_eq_getElem?_getD, List.getElem?_eq_getElem hi]
theorem Crw.store {w : World} {q b : Nat} {G R : List Nat} (h : Crw w q b G R) (hG : G.length = 6) (i v : Nat) : Crw (w.setCell ⟨q, 7 + i, none⟩ (.int .u8 (v : Int))) q b G (R.set i v) := by
  have h' : w.heap[q]? = some (.cells (crow b G R) 192) := h
  show (w.setCell ⟨q, 7 + i, none⟩ (.int .u8 (v : Int))).heap[q]? = _
  have e : (crow b G R).setIfInBounds (7 + i) (.int .u8 (v : Int)) = crow b G (R.set i v) := by
    apply Array.ext'
    rw [Array.toList_setIfInBounds]
    simp only [crow]
    rw [show 7 + i = (6 + i) + 1 from by omega, List.set_cons_succ, List.map_append, List.map_append, List.set_append_right _ _ (by simp [hG]), List.length_map, hG, show 6 + i - 6 = i from by omega, List.map_set]
  simp [World.setCell, Array.getElem?_modify, h', e]
theorem Crw.cod {w : World} {q b : Nat} (h : Crw w q b gl rl) (hF : Fld w b) : Cod w q b := ⟨hF, h⟩
def z70 : List Nat := List.replicate 70 0
theorem build57 (b : Nat) (w : World) : (Instr.build 192 #[(0, .pointer (some ⟨b, 0, none⟩))]).run Tryz.prog w = .ok (.agg (crow b z6 z64)) w := by kernel_rfl

/-- The product of the first k factors. -/
def prod : Nat → List Nat
  | 0 => [1]
  | k + 1 => tm (prod k) [1, ex k]
theorem prod_length (k : Nat) : (prod k).length = k + 1 := by
  induction k with
  | zero => rfl
  | succ k ih => show (tm _ _).length = _; rw [tm_length _ _ (by omega) (by simp), ih]; rfl
theorem prod_bys (k : Nat) : Bys (prod k) := by
  cases k with
  | zero => intro n hn; simp [prod] at hn; omega
  | succ k => exact tm_bys _ _
theorem prod_six : prod 6 = 1 :: gl := by decide +kernel
/-- The first k roots. -/
def rts (k : Nat) : List Nat := (List.range 64).map fun i => if i < k then rt i else 0
theorem rts_length (k : Nat) : (rts k).length = 64 := by simp [rts]
theorem rts_zero : rts 0 = z64 := by simp [rts]; rfl
theorem rts_all : rts 64 = rl := by
  apply List.map_congr_left
  intro i hi
  rw [if_pos (List.mem_range.1 hi)]
theorem rts_set (n : Nat) : (rts n).set n (rt n) = rts (n + 1) := by
  apply List.ext_getElem?
  intro k
  by_cases h : n = k
  · subst h
    by_cases h5 : n < 64
    · rw [List.getElem?_set_self (by rw [rts_length]; exact h5)]
      simp [rts, h5]
    · rw [List.getElem?_eq_none (by simp [rts]; omega), List.getElem?_eq_none (by simp [rts]; omega)]
  · rw [List.getElem?_set_ne h]
    by_cases h5 : k < 64
    · simp only [rts, List.getElem?_map, List.getElem?_range h5, Option.map_some]
      congr 1
      by_cases h6 : k < n
      · rw [if_pos h6, if_pos (by omega)]
      · rw [if_neg h6, if_neg (by omega)]
    · rw [List.getElem?_eq_none (by simp [rts]; omega), List.getElem?_eq_none (by simp [rts]; omega)]

theorem step_copy_crw {ops : Array Oper} {o : Oper} {a : Act} {w : World} {K : Act → World → Prop} {Q : Exit → Act → World → Prop} {E : Prop} (hgd : o.guard = none) (d s : Operand)
    (ho : o.op = .call { callee := .builtin .copy, args := #[d, s], argTypes := #[55, 55] }) (g c oo sLen sCap : Nat) (hd : a.eval d = .slice (some ⟨g, 1, none⟩) 6 6) (hs : a.eval s = .slice (some ⟨c, oo, none⟩) sLen sCap)
    {b : Nat} {G R : List Nat} (hg : Crw w g b G R) (hG : G.length = 6) (src : List Nat) (h6 : src.length = 6) (hn : 6 = Nat.min sLen 6) (hsrc : ∀ j, j < src.length → w.cell? ⟨c, oo + j, none⟩ = some (.int .u8 (src.getD j 0 : Nat)))
    (h : ∀ w', Crw w' g b src R → One g w w' → K (a.put o.dst (goInt src.length)) w') :
    if Region.wanted o (yielded ops a.tmps) = true then Oper.wp Tryz.prog o a w K Q else E := by
  have hw : Region.wanted o (yielded ops a.tmps) = true := by simp [Region.wanted, hgd]
  rw [if_pos hw]
  have hrun := run_copy_row (P := Tryz.prog) w 55 55 o.type 5 g 1 6 6 ⟨c, oo, none⟩ sLen sCap (crow b G R) 192 (src.map fun (n : Nat) => Value.int .u8 (n : Int)) Tryz.underlying55 size5 hg (by rw [List.length_map, h6]; exact hn) (src_cells hsrc) (by simp [crow, hG, h6]) (one_cells src)
  have e : ((crow b G R).toList.take 1 ++ (src.map fun (n : Nat) => Value.int .u8 (n : Int)) ++ (crow b G R).toList.drop (1 + (src.map fun (n : Nat) => Value.int .u8 (n : Int)).length)).toArray = crow b src R := by
    simp only [crow, List.length_map, h6]
    congr 1
    simp only [List.map_append, List.take_succ_cons, List.take_zero, List.cons_append, List.nil_append, show 1 + 6 = 6 + 1 from rfl, List.drop_succ_cons]
    rw [List.drop_append_of_le_length (by simp [hG]), List.drop_eq_nil_of_le (by simp [hG]), List.nil_append]
  rw [e, List.length_map] at hrun
  unfold Oper.wp
  simp [execOp, ho, resolve, invoke, builtin, hd, hs, hrun, Result.andThen]
  exact h _ (setRow_heap w g _ _ 192 _ hg) (One.row w g _)
theorem exZ_rt (i : Nat) (h : i < 64) : exZ (63 - (i : Int)) = rt i := by
  unfold exZ rt
  congr 1
  omega

set_option maxHeartbeats 4000000 in
theorem codec_new (w : World) :
    Calls Tryz.prog 84 #[] w fun e w' => ∃ q b, e = .returned (.pointer (some ⟨q, 0, none⟩)) ∧ w.heap.size ≤ q ∧ w.heap.size ≤ b ∧ Cod w' q b ∧ Chg (fun _ => False) w w' := by
  have hbd := build57
  go_enter Tryz.func84, Tryz.ntmps84
  go_wp2_with (first | (go_at_call 116; refine (new_any _).mono ?_; rintro e w' ⟨rfl, rfl⟩))
  clear hbd
  go_loopw [2, 9] (fun p t wr => ∃ k g : Nat, k ≤ 6 ∧ t = .int .i64 k ∧ p = .slice (some ⟨g, 0, none⟩) (k + 1) (k + 1) ∧ Bat wr g (prod k) ∧ g ≠ w.heap.size ∧ Crw wr (w.heap.size + 1) w.heap.size z6 z64 ∧ Fld wr w.heap.size ∧ Chg (fun _ => False) w wr) (fun _ t _ => 6 - (intOf t).toNat)
  case atStart =>
    have ez : Tryz.zeroCells192.setIfInBounds 0 (.pointer (some ⟨w.heap.size, 0, none⟩)) = crow w.heap.size z6 z64 := by kernel_rfl
    rw [ez]
    have c1 : Crw ((w.alloc (.cells (fcells 0 0 0) 220)).alloc (.cells (crow w.heap.size z6 z64) 192)) (w.heap.size + 1) w.heap.size z6 z64 := by
      have h1 := heap_alloc_new (w.alloc (.cells (fcells 0 0 0) 220)) (.cells (crow w.heap.size z6 z64) 192)
      rw [show (w.alloc (.cells (fcells 0 0 0) 220)).heap.size = w.heap.size + 1 from by simp] at h1
      exact h1
    have f1 := ((Fld.new w).alloc (.cells (crow w.heap.size z6 z64) 192)).alloc (.cells (bcells [1]) 5)
    have p1 := Bat.new ((w.alloc (.cells (fcells 0 0 0) 220)).alloc (.cells (crow w.heap.size z6 z64) 192)) [1]
    rw [show ((w.alloc (.cells (fcells 0 0 0) 220)).alloc (.cells (crow w.heap.size z6 z64) 192)).heap.size = w.heap.size + 1 + 1 from by simp] at p1
    exact ⟨0, w.heap.size + 1 + 1, by omega, rfl, rfl, p1, by omega, c1.alloc _, f1, (((Chg.refl _ _).alloc _).alloc _).alloc _⟩
  case round =>
    obtain ⟨k, g, hk, rfl, rfl, hP, hgb, hQ, hF, hG⟩ := hrel
    have hpl := prod_length k
    have hpb := prod_bys k
    have hqb : w.heap.size + 1 ≠ w.heap.size := by omega
    by_cases hlt : k < 6
    · have c3 := hQ.ptr
      have hkb4 : (0 : Int) ≤ (k : Int) := by omega
      have hkb5 : (k : Int) < 6 := by omega
      have HE := hyd (exZ_nat k (by omega))
      have HPr : Hid (prod (k + 1) = tm (prod k) [1, ex k]) := rfl
      have HPL := hyd hpl
      clear hpl
      have hxk := ex_lt k
      generalize ex k = y at *
      generalize prod k = pk at *
      have hqs := hQ.lt
      have hgs := hP.lt
      have h2b : Bys [1, y] := by intro n hn; simp at hn; omega
      go_wp2_with fail
      go_region_held3 (fun wx => wx.cell? ⟨w.heap.size + 1, 0, none⟩ = some (.pointer (some ⟨w.heap.size, 0, none⟩)))
        (first | exact c3 | exact c4 | exact c5 | exact c6)
        (first | (go_at_call 118; refine (exp_any w.heap.size _ ?_ _).mono ?_; (exact hF.drew); rintro e w1 ⟨rfl, hF1, hB1⟩; rw [HE.out]; have hQ1 : Crw w1 (w.heap.size + 1) w.heap.size z6 z64 := (hQ.drew.but hB1 hqb); have c4 := hQ1.ptr; have c5 := (hQ1.alloc (.cells (bcells [1, y]) 5)).ptr; have hP1 : Bat w1 g pk := (hP.drew.but hB1 hgb)) | (go_at_call 117; refine (times_any w.heap.size _ (hF1.alloc _) (some ⟨g, 0, none⟩) (some ⟨w1.heap.size, 0, none⟩) (k + 1) (k + 1) 2 2 pk [1, y] HPL.out.symm rfl ?_ ?_ ?_ ?_).mono ?_; (have := HPL.out; omega); (simp); (exact (hP1.rd hpb hgb).but ((But.refl _ _).alloc _)); (exact (Bat.new w1 [1, y]).rd h2b (by have := hF1.lt; omega)); rintro e w2 ⟨at_, m, rfl, hm, hor, hF2, hB2⟩; have hQ2 : Crw w2 (w.heap.size + 1) w.heap.size z6 z64 := ((hQ1.alloc _).but hB2 hqb); have c6 := hQ2.ptr))
      all_goals
        rcases hor with ⟨h0, -⟩ | ⟨-, -, rfl, hP2⟩
        · omega
        · have htl : (tm pk [1, y]).length = k + 2 := by rw [tm_length _ _ (by have := HPL.out; omega) (by simp), HPL.out]; rfl
          have hG2 : Chg (fun _ => False) w w2 := ((hG.drew.trans' hB1.chg (fun i hi e => by omega)).alloc _).trans' hB2.chg (fun i hi e => by omega)
          have hgs2 : w1.heap.size + 1 ≠ w.heap.size := by have := hF1.lt; omega
          rw [← HPr.out] at hP2
          rw [htl]
          go_wp2
          exact ⟨⟨k + 1, _, by omega, by go_num, rfl, hP2, by simpa using hgs2, hQ2, hF2, hG2⟩, by simp [intOf]; omega⟩
    · have e6 : k = 6 := by omega
      subst e6
      have hP6 : Bat wr g (1 :: gl) := by rw [← prod_six]; exact hP
      clear hP hpl hpb hlt hk
      have hsrc : ∀ j, j < gl.length → wr.drew.cell? ⟨g, 1 + j, none⟩ = some (.int .u8 (gl.getD j 0 : Nat)) := fun j hj => by
        have h1 := hP6.drew.cell (1 + j) (by simp; omega)
        rw [Nat.add_comm 1 j] at h1 ⊢
        exact h1
      have HSRC := hyd hsrc
      have hgs := hP6.lt
      clear hsrc hP6
      go_wp2_with fail
      simp only [Nat.reduceAdd]
      generalize Tryz.zeroCells192.setIfInBounds 0 (Value.pointer (some ⟨w.heap.size, 0, none⟩)) = zz
      go_region_law (refine step_copy_crw (g := w.heap.size + 1) (c := g) (oo := 1) (sLen := 6) (sCap := 6) (src := gl) (b := w.heap.size) (G := z6) (R := z64) rfl (.tmp 29) (.tmp 31) rfl (by simp [Act.eval, Act.put]) (by simp [Act.eval, Act.put]) hQ.drew rfl rfl rfl HSRC.out ?_; intro w2 hQ2 hX2)
      have hF2 : Fld w2 w.heap.size := hF.drew.other (hX2.block _ (by omega))
      have hG2 : Chg (fun _ => False) w w2 := ⟨hX2.os.trans hG.os, hX2.tape.trans hG.tape, hX2.output.trans hG.output, by rw [hX2.size]; exact hG.size, fun i hi hs => (hX2.block i (by omega)).trans (hG.block i hi hs)⟩
      clear hX2 hQ hF hG HSRC
      go_wp2_with fail
      go_loopw [33] (fun t wx => ∃ i : Nat, i ≤ 64 ∧ t = .int .i64 i ∧ Crw wx (w.heap.size + 1) w.heap.size gl (rts i) ∧ Fld wx w.heap.size ∧ Chg (fun _ => False) w wx) (fun t _ => 64 - (intOf t).toNat)
      case atStart => exact ⟨0, by omega, rfl, by rw [rts_zero]; exact hQ2, hF2, hG2⟩
      case round =>
        clear hQ2 hF2 hG2
        obtain ⟨i, hi, rfl, hQ, hF, hG⟩ := hrel
        by_cases hlt : i < 64
        · have c3 := hQ.ptr
          have hkb4 : (0 : Int) ≤ (i : Int) := by omega
          have hkb5 : (i : Int) < 64 := by omega
          have HE := hyd (exZ_rt i hlt)
          have HS := hyd (rts_set i)
          go_wp2_with fail
          have hwr : IntKind.i64.wrap (63 - (i : Int)) = 63 - (i : Int) := by rw [IntKind.wrap_i64]; omega
          go_region_held3 (fun wx => wx.cell? ⟨w.heap.size + 1, 0, none⟩ = some (.pointer (some ⟨w.heap.size, 0, none⟩)))
            (first | exact c3 | exact c4 | exact c5)
            (first | (go_at_call 118; refine (exp_any w.heap.size _ ?_ (63 - (i : Int))).mono ?_; (exact hF.drew); rintro e w1 ⟨rfl, hF1, hB1⟩; rw [HE.out]; have hQ1 : Crw w1 (w.heap.size + 1) w.heap.size gl (rts i) := (hQ.drew.but hB1 hqb); have c4 := hQ1.ptr; have r1 := hQ1.root rfl i (by rw [rts_length]; omega); have f1 := hQ1.frozen (7 + i); have hQ2 : Crw (w1.setCell ⟨w.heap.size + 1, 7 + i, none⟩ (.int .u8 (rt i : Nat))) (w.heap.size + 1) w.heap.size gl (rts (i + 1)) := (by rw [← HS.out]; exact hQ1.store rfl i (rt i)); have c5 := hQ2.ptr))
          all_goals
            have hG1 : Chg (fun _ => False) w w1 := hG.drew.trans' hB1.chg (fun i hi e => by omega)
            clear c3 c4 c5 r1 f1 hwr
            go_wp2
            exact ⟨⟨i + 1, by omega, by go_num, hQ2, hF1.setOther (by omega) _ _, hG1.setCell (Or.inr (by omega)) _ _⟩, by simp [intOf]; omega⟩
        · have hQ6 : Crw wr (w.heap.size + 1) w.heap.size gl rl := by
            have e : i = 64 := by omega
            rw [e, rts_all] at hQ; exact hQ
          clear hQ
          go_wp2
          go_ret
          exact ⟨w.heap.size + 1, w.heap.size, rfl, by omega, by omega, hQ6.cod hF, hG⟩
end Go.Proofs.YtifjmilegogbaaaGreat
