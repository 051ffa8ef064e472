/-
  tag.fields, walked: the fields that lie in a body of 50 bytes. Condition: the bytes can be read. bytes.Equal and tag.Decode, walked: the tag of a body; ErrArg and ErrForm for the others. Condition: the bytes can be read. TagDecodes, walked: whatever the bytes, Decode answers as the document says, and leaves them as they were. Condition: the bytes came in as a slice does. TagBack, walked: tags come back from their bodies, and bodies from their tags. Condition: the bytes came in as a slice does.
-/
import Derived.Test.YtifjmilegogbaaaGreatUTag
import Derived.Test.YtifjmilegogbaaaGreatUTagEnc
import Derived.Laws.BytesArg
namespace Go.Proofs.YtifjmilegogbaaaGreat
open Go.RowKit
set_option maxRecDepth 100000

theorem get_n (w : World) (a : Option Addr) (n cap : Nat) (l : List Nat) (hn : n = l.length) (hl : Bys l) (h1 : 1 ≤ l.length) (h8 : l.length ≤ 8) (hr : Held w (.slice a n cap) l) :
    Calls Tryz.prog 144 #[.slice a n cap] w fun e w' => e = .returned (.tuple #[.int .u64 (le l : Nat), .nilIface]) ∧ Chg (fun _ => False) w w' := by
  subst hn
  exact get_any w a cap l hl h1 h8 hr
/-- n bytes of l, from place a on. -/
def seg (l : List Nat) (a n : Nat) : List Nat := (l.drop a).take n
theorem seg_length {l : List Nat} {a n : Nat} (h : a + n ≤ l.length) : (seg l a n).length = n := by simp [seg]; omega
theorem seg_getD {l : List Nat} {a n i : Nat} (h : i < n) : (seg l a n).getD i 0 = l.getD (a + i) 0 := by
  simp [seg, List.getD_eq_getElem?_getD, List.getElem?_take_of_lt h]
theorem seg_bys {l : List Nat} (h : Bys l) (a n : Nat) : Bys (seg l a n) := bys_take (bys_drop h a) n
/-- A field: the number of its bytes. -/
def fld (l : List Nat) (a n : Nat) : Nat := le (seg l a n)
theorem fld_lt {l : List Nat} (h : Bys l) {a n : Nat} (hn : a + n ≤ l.length) : fld l a n < 256 ^ n := by
  have := le_lt (seg_bys h a n)
  rwa [seg_length hn] at this
/-- The bytes l lie at a slice's address. -/
def At (w : World) (c o : Nat) (l : List Nat) : Prop := c < w.heap.size ∧ ∀ i, i < l.length → w.cell? ⟨c, o + i, none⟩ = some (.int .u8 (l.getD i 0 : Nat))
theorem At.chg {S : Nat → Prop} {w w' : World} {c o : Nat} {l : List Nat} (h : At w c o l) (hc : Chg S w w') (hS : ¬ S c) : At w' c o l :=
  ⟨Nat.lt_of_lt_of_le h.1 hc.size, fun i hi => (hc.cell h.1 hS _).trans (h.2 i hi)⟩
theorem At.held {w : World} {c o : Nat} {l : List Nat} (h : At w c o l) (a n cap : Nat) (hn : a + n ≤ l.length) : Held w (.slice (some ⟨c, o + a, none⟩) n cap) (seg l a n) :=
  ⟨_, cap, by rw [seg_length hn], Or.inr ⟨c, o + a, rfl, h.1, fun i hi => by
    rw [seg_length hn] at hi
    rw [seg_getD hi, Nat.add_assoc]
    exact h.2 (a + i) (by omega)⟩⟩
/-- The five numbers. -/
def Nums (w : World) (b n0 n1 n2 n3 n4 : Nat) : Prop := w.heap[b]? = some (.cells #[.int .u64 (n0 : Nat), .int .u64 (n1 : Nat), .int .u64 (n2 : Nat), .int .u64 (n3 : Nat), .int .u64 (n4 : Nat)] 227)
theorem Nums.lt {w : World} {b n0 n1 n2 n3 n4 : Nat} (h : Nums w b n0 n1 n2 n3 n4) : b < w.heap.size := (Array.getElem?_eq_some_iff.1 (show w.heap[b]? = some _ from h)).1
theorem Nums.chg {S : Nat → Prop} {w w' : World} {b n0 n1 n2 n3 n4 : Nat} (h : Nums w b n0 n1 n2 n3 n4) (hc : Chg S w w') (hb : ¬ S b) : Nums w' b n0 n1 n2 n3 n4 := (hc.block b h.lt hb).trans h
theorem Nums.cells {w : World} {b n0 n1 n2 n3 n4 : Nat} (h : Nums w b n0 n1 n2 n3 n4) : (w.cell? ⟨b, 0, none⟩ = some (.int .u64 (n0 : Nat)) ∧ w.cell? ⟨b, 1, none⟩ = some (.int .u64 (n1 : Nat)) ∧ w.cell? ⟨b, 2, none⟩ = some (.int .u64 (n2 : Nat)) ∧ w.cell? ⟨b, 3, none⟩ = some (.int .u64 (n3 : Nat)) ∧ w.cell? ⟨b, 4, none⟩ = some (.int .u64 (n4 : Nat))) ∧ ∀ i, w.frozen? ⟨b, i, none⟩ = false := by
  have h' : w.heap[b]? = some _ := h
  refine ⟨⟨?_, ?_, ?_, ?_, ?_⟩, fun i => ?_⟩ <;> simp [World.cell?, World.frozen?, h']
theorem Nums.set0 {w : World} {b n0 n1 n2 n3 n4 : Nat} (h : Nums w b n0 n1 n2 n3 n4) (x : Nat) : Nums (w.setCell ⟨b, 0, none⟩ (.int .u64 (x : Nat))) b x n1 n2 n3 n4 := by
  have h' : w.heap[b]? = some _ := h
  show (w.setCell ⟨b, 0, none⟩ _).heap[b]? = _
  simp [World.setCell, Array.getElem?_modify, h']
theorem Nums.set1 {w : World} {b n0 n1 n2 n3 n4 : Nat} (h : Nums w b n0 n1 n2 n3 n4) (x : Nat) : Nums (w.setCell ⟨b, 1, none⟩ (.int .u64 (x : Nat))) b n0 x n2 n3 n4 := by
  have h' : w.heap[b]? = some _ := h
  show (w.setCell ⟨b, 1, none⟩ _).heap[b]? = _
  simp [World.setCell, Array.getElem?_modify, h']
theorem Nums.set2 {w : World} {b n0 n1 n2 n3 n4 : Nat} (h : Nums w b n0 n1 n2 n3 n4) (x : Nat) : Nums (w.setCell ⟨b, 2, none⟩ (.int .u64 (x : Nat))) b n0 n1 x n3 n4 := by
  have h' : w.heap[b]? = some _ := h
  show (w.setCell ⟨b, 2, none⟩ _).heap[b]? = _
  simp [World.setCell, Array.getElem?_modify, h']
theorem Nums.set3 {w : World} {b n0 n1 n2 n3 n4 : Nat} (h : Nums w b n0 n1 n2 n3 n4) (x : Nat) : Nums (w.setCell ⟨b, 3, none⟩ (.int .u64 (x : Nat))) b n0 n1 n2 x n4 := by
  have h' : w.heap[b]? = some _ := h
  show (w.setCell ⟨b, 3, none⟩ _).heap[b]? = _
  simp [World.setCell, Array.getElem?_modify, h']
theorem Nums.set4 {w : World} {b n0 n1 n2 n3 n4 : Nat} (h : Nums w b n0 n1 n2 n3 n4) (x : Nat) : Nums (w.setCell ⟨b, 4, none⟩ (.int .u64 (x : Nat))) b n0 n1 n2 n3 x := by
  have h' : w.heap[b]? = some _ := h
  show (w.setCell ⟨b, 4, none⟩ _).heap[b]? = _
  simp [World.setCell, Array.getElem?_modify, h']
/-- What the first k numbers are. -/
def upk (l : List Nat) (k i a n : Nat) : Nat := if i < k then fld l a n else 0
def froms : Nat → Nat
  | 0 => 0
  | 1 => 2
  | 2 => 3
  | 3 => 8
  | 4 => 9
  | _ => 10

/-- A tag is stored over another. -/
theorem wpList_store_tag {ops : Array Oper} {rest : List Oper} {o : Oper} {a : Act} {w : World} {Q : Exit → Act → World → Prop} (hgd : o.guard = none) (x y : Operand) (ho : o.op = .store 28 x y)
    (g : Nat) (hx : a.eval x = .pointer (some ⟨g, 0, none⟩)) {p of s c : Int} {l : Bool} (hy : a.eval y = .agg #[.int .i64 p, .int .i64 of, .int .i64 s, .int .i64 c, .bool l]) {p' o' s' c' : Int} {l' : Bool} (hg : Tg w g p' o' s' c' l')
    (h : ∀ w', Tg w' g p of s c l → Chg (· = g) w w' → wpList Tryz.prog ops Q rest (a.put o.dst undef) w') : wpList Tryz.prog ops Q (o :: rest) a w :=
  wpList_store_row hgd 28 x y ho g _ hx hy 28 _ hg size23 rfl (by simp [Value.oneCell']) (h _ (setRow_heap w g _ _ 28 _ hg) ⟨rfl, rfl, rfl, by simp, fun k _ hk => setRow_other _ _ _ _ hk⟩)
theorem results_tag {fn : Func} {q u : Tmp} (h : fn.results = #[.cell q 28, .tmp u]) (tmps : Array Value) {w : World} {g : Nat} {p o s c : Int} {l : Bool} (hp : tmps.getD q undef = .pointer (some ⟨g, 0, none⟩)) (hT : Tg w g p o s c l) :
    (results fn tmps).run Tryz.prog w = .ok (.tuple #[.agg #[.int .i64 p, .int .i64 o, .int .i64 s, .int .i64 c, .bool l], tmps.getD u undef]) w := by
  rw [results_cell_tmp h, hp]
  simp [asAddr, run_loadVar_row w g 28 28 _ _ _ hT Tryz.underlying28 rfl size23]
theorem idx0 (w : World) : (Instr.index 228 (.agg #[.int .i64 2, .int .i64 1, .int .i64 5, .int .i64 1, .int .i64 1]) (.int .i64 0)).run Tryz.prog w = .ok (.int .i64 2) w := by kernel_rfl
theorem idx1 (w : World) : (Instr.index 228 (.agg #[.int .i64 2, .int .i64 1, .int .i64 5, .int .i64 1, .int .i64 1]) (.int .i64 1)).run Tryz.prog w = .ok (.int .i64 1) w := by kernel_rfl
theorem idx2 (w : World) : (Instr.index 228 (.agg #[.int .i64 2, .int .i64 1, .int .i64 5, .int .i64 1, .int .i64 1]) (.int .i64 2)).run Tryz.prog w = .ok (.int .i64 5) w := by kernel_rfl
theorem idx3 (w : World) : (Instr.index 228 (.agg #[.int .i64 2, .int .i64 1, .int .i64 5, .int .i64 1, .int .i64 1]) (.int .i64 3)).run Tryz.prog w = .ok (.int .i64 1) w := by kernel_rfl
theorem idx4 (w : World) : (Instr.index 228 (.agg #[.int .i64 2, .int .i64 1, .int .i64 5, .int .i64 1, .int .i64 1]) (.int .i64 4)).run Tryz.prog w = .ok (.int .i64 1) w := by kernel_rfl
theorem Tg.setOther {w : World} {b : Nat} {p o s c : Int} {l : Bool} (h : Tg w b p o s c l) {k : Nat} (hg : k ≠ b) (i : Nat) (v : Value) : Tg (w.setCell ⟨k, i, none⟩ v) b p o s c l :=
  (Below.heap_setCell _ _ _ _ (by simp; omega)).trans h
/-- How fields stands behind k numbers. -/
def Gst (w wr : World) (l : List Nat) (k : Nat) : Prop :=
  Nums wr (w.heap.size + 1) (upk l k 0 0 2) (upk l k 1 2 1) (upk l k 2 3 5) (upk l k 3 8 1) (upk l k 4 9 1) ∧ Tg wr w.heap.size 0 0 0 0 false ∧ Chg (fun _ => False) w wr
set_option maxHeartbeats 4000000 in
theorem fields_any (w : World) (c o cap : Nat) (l : List Nat) (hl : Bys l) (hL : l.length = 50) (hcap : 50 ≤ cap) (hA : At w c o l) :
    Calls Tryz.prog 132 #[.slice (some ⟨c, o, none⟩) 50 cap] w fun e w' => e = .returned (.tuple #[.agg #[.int .i64 (fld l 0 2 : Nat), .int .i64 (fld l 2 1 : Nat), .int .i64 (fld l 3 5 : Nat), .int .i64 (fld l 8 1 : Nat), .bool (((fld l 9 1 : Nat) : Int) == 1)], .nilIface]) ∧ Chg (fun _ => False) w w' := by
  have HA := hyd hA
  have HL := hyd hL
  have x0 := fld_lt hl (a := 0) (n := 2) (by omega)
  have x1 := fld_lt hl (a := 2) (n := 1) (by omega)
  have x2 := fld_lt hl (a := 3) (n := 5) (by omega)
  have x3 := fld_lt hl (a := 8) (n := 1) (by omega)
  have x4 := fld_lt hl (a := 9) (n := 1) (by omega)
  simp only [Nat.reducePow] at x0 x1 x2 x3 x4
  clear hA hL
  have q1 := tneq_nil_nil
  have hcs : c < w.heap.size := HA.out.1
  go_enter Tryz.func132, Tryz.ntmps132
  go_wp2_with fail
  have S0 : Gst w ((w.alloc (.cells #[.int .i64 0, .int .i64 0, .int .i64 0, .int .i64 0, .bool false] 28)).alloc (.cells #[.int .u64 0, .int .u64 0, .int .u64 0, .int .u64 0, .int .u64 0] 227)) l 0 := by
    refine ⟨?_, (Tg.new w 0 0 0 0 false).alloc _, ((Chg.refl _ w).alloc _).alloc _⟩
    have := heap_alloc_new (w.alloc (.cells #[.int .i64 0, .int .i64 0, .int .i64 0, .int .i64 0, .bool false] 28)) (.cells #[.int .u64 0, .int .u64 0, .int .u64 0, .int .u64 0, .int .u64 0] 227)
    simpa [Nums, upk] using this
  go_loopw [5, 11] (fun f t wr => ∃ k : Nat, k ≤ 5 ∧ t = .int .i64 k ∧ f = .int .i64 (froms k : Nat) ∧ Gst w wr l k) (fun _ t _ => 5 - (intOf t).toNat)
  case atStart => exact ⟨0, by decide, rfl, rfl, S0⟩
  case round =>
    clear S0
    obtain ⟨k, hk, rfl, rfl, a1, a2, a3⟩ := hrel
    have hAr := HA.out.chg a3 (fun e => e)
    rcases (by omega : k = 0 ∨ k = 1 ∨ k = 2 ∨ k = 3 ∨ k = 4 ∨ k = 5) with rfl | rfl | rfl | rfl | rfl | rfl
    · have hc : ¬ cap = 0 := by omega
      have hi := idx0
      rw [show froms 0 = 0 from rfl]
      have hc2 : ((2 : Nat) : Int) ≤ (cap : Int) := by omega
      have hcall := get_n wr (some ⟨c, o, none⟩) 2 cap (seg l 0 2) (by rw [seg_length (by rw [HL.out]; decide)]) (seg_bys hl 0 2) (by rw [seg_length (by rw [HL.out]; decide)]; decide) (by rw [seg_length (by rw [HL.out]; decide)]; decide) (hAr.held 0 2 cap (by rw [HL.out]; decide))
      have HN : Hid (Nums wr (w.heap.size + 1) 0 0 0 0 0) := hyd (by simpa [upk] using a1)
      have HT := hyd a2
      have HG := hyd a3
      clear hAr a1 a2 a3
      go_wp2_with fail
      refine hcall.mono ?_
      rintro e w2 ⟨rfl, G2⟩
      have N2 := HN.out.chg G2 (fun e => e)
      obtain ⟨⟨k0, k1, k2, k3, k4⟩, kf⟩ := N2.cells
      have HN3 : Hid (Nums (w2.setCell ⟨w.heap.size + 1, 0, none⟩ (.int .u64 (fld l 0 2 : Nat))) (w.heap.size + 1) (fld l 0 2) 0 0 0 0) := hyd (N2.set0 _)
      have HT3 : Hid (Tg (w2.setCell ⟨w.heap.size + 1, 0, none⟩ (.int .u64 (fld l 0 2 : Nat))) w.heap.size 0 0 0 0 false) := hyd ((HT.out.chg G2 (fun e => e)).setOther (by omega) _ _)
      have HG3 : Hid (Chg (fun _ => False) w (w2.setCell ⟨w.heap.size + 1, 0, none⟩ (.int .u64 (fld l 0 2 : Nat)))) := hyd ((HG.out.trans G2).setCell (Or.inr (by omega)) _ _)
      have hf := kf 0
      clear hcall N2 G2 kf HN HT HG
      rw [show le (seg l 0 2) = fld l 0 2 from rfl]
      go_wp2
      exact ⟨⟨1, by decide, rfl, rfl, by simpa [upk] using HN3.out, HT3.out, HG3.out⟩, by simp [intOf]⟩
    · have hc : ¬ cap = 2 := by omega
      have hi := idx1
      rw [show froms 1 = 2 from rfl]
      have hc2 : ((3 : Nat) : Int) ≤ (cap : Int) := by omega
      have hcall := get_n wr (some ⟨c, o + 2, none⟩) 1 (cap - 2) (seg l 2 1) (by rw [seg_length (by rw [HL.out]; decide)]) (seg_bys hl 2 1) (by rw [seg_length (by rw [HL.out]; decide)]; decide) (by rw [seg_length (by rw [HL.out]; decide)]; decide) (hAr.held 2 1 (cap - 2) (by rw [HL.out]; decide))
      have HN : Hid (Nums wr (w.heap.size + 1) (fld l 0 2) 0 0 0 0) := hyd (by simpa [upk] using a1)
      have HT := hyd a2
      have HG := hyd a3
      clear hAr a1 a2 a3
      go_wp2_with fail
      refine hcall.mono ?_
      rintro e w2 ⟨rfl, G2⟩
      have N2 := HN.out.chg G2 (fun e => e)
      obtain ⟨⟨k0, k1, k2, k3, k4⟩, kf⟩ := N2.cells
      have HN3 : Hid (Nums (w2.setCell ⟨w.heap.size + 1, 1, none⟩ (.int .u64 (fld l 2 1 : Nat))) (w.heap.size + 1) (fld l 0 2) (fld l 2 1) 0 0 0) := hyd (N2.set1 _)
      have HT3 : Hid (Tg (w2.setCell ⟨w.heap.size + 1, 1, none⟩ (.int .u64 (fld l 2 1 : Nat))) w.heap.size 0 0 0 0 false) := hyd ((HT.out.chg G2 (fun e => e)).setOther (by omega) _ _)
      have HG3 : Hid (Chg (fun _ => False) w (w2.setCell ⟨w.heap.size + 1, 1, none⟩ (.int .u64 (fld l 2 1 : Nat)))) := hyd ((HG.out.trans G2).setCell (Or.inr (by omega)) _ _)
      have hf := kf 1
      clear hcall N2 G2 kf HN HT HG
      rw [show le (seg l 2 1) = fld l 2 1 from rfl]
      go_wp2
      exact ⟨⟨2, by decide, rfl, rfl, by simpa [upk] using HN3.out, HT3.out, HG3.out⟩, by simp [intOf]⟩
    · have hc : ¬ cap = 3 := by omega
      have hi := idx2
      rw [show froms 2 = 3 from rfl]
      have hc2 : ((8 : Nat) : Int) ≤ (cap : Int) := by omega
      have hcall := get_n wr (some ⟨c, o + 3, none⟩) 5 (cap - 3) (seg l 3 5) (by rw [seg_length (by rw [HL.out]; decide)]) (seg_bys hl 3 5) (by rw [seg_length (by rw [HL.out]; decide)]; decide) (by rw [seg_length (by rw [HL.out]; decide)]; decide) (hAr.held 3 5 (cap - 3) (by rw [HL.out]; decide))
      have HN : Hid (Nums wr (w.heap.size + 1) (fld l 0 2) (fld l 2 1) 0 0 0) := hyd (by simpa [upk] using a1)
      have HT := hyd a2
      have HG := hyd a3
      clear hAr a1 a2 a3
      go_wp2_with fail
      refine hcall.mono ?_
      rintro e w2 ⟨rfl, G2⟩
      have N2 := HN.out.chg G2 (fun e => e)
      obtain ⟨⟨k0, k1, k2, k3, k4⟩, kf⟩ := N2.cells
      have HN3 : Hid (Nums (w2.setCell ⟨w.heap.size + 1, 2, none⟩ (.int .u64 (fld l 3 5 : Nat))) (w.heap.size + 1) (fld l 0 2) (fld l 2 1) (fld l 3 5) 0 0) := hyd (N2.set2 _)
      have HT3 : Hid (Tg (w2.setCell ⟨w.heap.size + 1, 2, none⟩ (.int .u64 (fld l 3 5 : Nat))) w.heap.size 0 0 0 0 false) := hyd ((HT.out.chg G2 (fun e => e)).setOther (by omega) _ _)
      have HG3 : Hid (Chg (fun _ => False) w (w2.setCell ⟨w.heap.size + 1, 2, none⟩ (.int .u64 (fld l 3 5 : Nat)))) := hyd ((HG.out.trans G2).setCell (Or.inr (by omega)) _ _)
      have hf := kf 2
      clear hcall N2 G2 kf HN HT HG
      rw [show le (seg l 3 5) = fld l 3 5 from rfl]
      go_wp2
      exact ⟨⟨3, by decide, rfl, rfl, by simpa [upk] using HN3.out, HT3.out, HG3.out⟩, by simp [intOf]⟩
    · have hc : ¬ cap = 8 := by omega
      have hi := idx3
      rw [show froms 3 = 8 from rfl]
      have hc2 : ((9 : Nat) : Int) ≤ (cap : Int) := by omega
      have hcall := get_n wr (some ⟨c, o + 8, none⟩) 1 (cap - 8) (seg l 8 1) (by rw [seg_length (by rw [HL.out]; decide)]) (seg_bys hl 8 1) (by rw [seg_length (by rw [HL.out]; decide)]; decide) (by rw [seg_length (by rw [HL.out]; decide)]; decide) (hAr.held 8 1 (cap - 8) (by rw [HL.out]; decide))
      have HN : Hid (Nums wr (w.heap.size + 1) (fld l 0 2) (fld l 2 1) (fld l 3 5) 0 0) := hyd (by simpa [upk] using a1)
      have HT := hyd a2
      have HG := hyd a3
      clear hAr a1 a2 a3
      go_wp2_with fail
      refine hcall.mono ?_
      rintro e w2 ⟨rfl, G2⟩
      have N2 := HN.out.chg G2 (fun e => e)
      obtain ⟨⟨k0, k1, k2, k3, k4⟩, kf⟩ := N2.cells
      have HN3 : Hid (Nums (w2.setCell ⟨w.heap.size + 1, 3, none⟩ (.int .u64 (fld l 8 1 : Nat))) (w.heap.size + 1) (fld l 0 2) (fld l 2 1) (fld l 3 5) (fld l 8 1) 0) := hyd (N2.set3 _)
      have HT3 : Hid (Tg (w2.setCell ⟨w.heap.size + 1, 3, none⟩ (.int .u64 (fld l 8 1 : Nat))) w.heap.size 0 0 0 0 false) := hyd ((HT.out.chg G2 (fun e => e)).setOther (by omega) _ _)
      have HG3 : Hid (Chg (fun _ => False) w (w2.setCell ⟨w.heap.size + 1, 3, none⟩ (.int .u64 (fld l 8 1 : Nat)))) := hyd ((HG.out.trans G2).setCell (Or.inr (by omega)) _ _)
      have hf := kf 3
      clear hcall N2 G2 kf HN HT HG
      rw [show le (seg l 8 1) = fld l 8 1 from rfl]
      go_wp2
      exact ⟨⟨4, by decide, rfl, rfl, by simpa [upk] using HN3.out, HT3.out, HG3.out⟩, by simp [intOf]⟩
    · have hc : ¬ cap = 9 := by omega
      have hi := idx4
      rw [show froms 4 = 9 from rfl]
      have hc2 : ((10 : Nat) : Int) ≤ (cap : Int) := by omega
      have hcall := get_n wr (some ⟨c, o + 9, none⟩) 1 (cap - 9) (seg l 9 1) (by rw [seg_length (by rw [HL.out]; decide)]) (seg_bys hl 9 1) (by rw [seg_length (by rw [HL.out]; decide)]; decide) (by rw [seg_length (by rw [HL.out]; decide)]; decide) (hAr.held 9 1 (cap - 9) (by rw [HL.out]; decide))
      have HN : Hid (Nums wr (w.heap.size + 1) (fld l 0 2) (fld l 2 1) (fld l 3 5) (fld l 8 1) 0) := hyd (by simpa [upk] using a1)
      have HT := hyd a2
      have HG := hyd a3
      clear hAr a1 a2 a3
      go_wp2_with fail
      refine hcall.mono ?_
      rintro e w2 ⟨rfl, G2⟩
      have N2 := HN.out.chg G2 (fun e => e)
      obtain ⟨⟨k0, k1, k2, k3, k4⟩, kf⟩ := N2.cells
      have HN3 : Hid (Nums (w2.setCell ⟨w.heap.size + 1, 4, none⟩ (.int .u64 (fld l 9 1 : Nat))) (w.heap.size + 1) (fld l 0 2) (fld l 2 1) (fld l 3 5) (fld l 8 1) (fld l 9 1)) := hyd (N2.set4 _)
      have HT3 : Hid (Tg (w2.setCell ⟨w.heap.size + 1, 4, none⟩ (.int .u64 (fld l 9 1 : Nat))) w.heap.size 0 0 0 0 false) := hyd ((HT.out.chg G2 (fun e => e)).setOther (by omega) _ _)
      have HG3 : Hid (Chg (fun _ => False) w (w2.setCell ⟨w.heap.size + 1, 4, none⟩ (.int .u64 (fld l 9 1 : Nat)))) := hyd ((HG.out.trans G2).setCell (Or.inr (by omega)) _ _)
      have hf := kf 4
      clear hcall N2 G2 kf HN HT HG
      rw [show le (seg l 9 1) = fld l 9 1 from rfl]
      go_wp2
      exact ⟨⟨5, by decide, rfl, rfl, by simpa [upk] using HN3.out, HT3.out, HG3.out⟩, by simp [intOf]⟩
    · have HN : Hid (Nums wr (w.heap.size + 1) (fld l 0 2) (fld l 2 1) (fld l 3 5) (fld l 8 1) (fld l 9 1)) := hyd (by simpa [upk] using a1)
      obtain ⟨⟨k0, k1, k2, k3, k4⟩, -⟩ := HN.out.cells
      have HT := hyd a2
      have HG := hyd a3
      clear hAr a1 a2 a3
      go_wp2_with (refine wpList_store_tag rfl (.tmp 2) (.tmp 51) rfl w.heap.size rfl rfl HT.out ?_)
      intro w3 T3 G3
      have HT3 := hyd T3
      have HG3 : Hid (Chg (fun _ => False) w w3) := hyd (HG.out.trans' G3 (fun i hi ht => by omega))
      clear T3 G3
      go_wp2
      refine bodyPost_ret (results_tag rfl _ rfl HT3.out) rfl ?_
      exact ⟨rfl, HG3.out⟩
end Go.Proofs.YtifjmilegogbaaaGreat
namespace Go.Proofs.YtifjmilegogbaaaGreat
open Go.RowKit
set_option maxRecDepth 100000

theorem tu8_inj {T U : List Nat} (hT : Bys T) (hU : Bys U) (h : T.map UInt8.ofNat = U.map UInt8.ofNat) : T = U := by
  have e : ∀ L : List Nat, Bys L → (L.map UInt8.ofNat).map UInt8.toNat = L := by
    intro L hL
    rw [List.map_map]
    conv => rhs; rw [← List.map_id L]
    apply List.map_congr_left
    intro n hn
    simp only [Function.comp, id]
    rw [UInt8.toNat_ofNat']
    exact Nat.mod_eq_of_lt (hL n hn)
  rw [← e T hT, h, e U hU]
theorem str_eq (T U : List Nat) (hT : Bys T) (hU : Bys U) : ((strOfNums (T.map fun (n : Nat) => (n : Int))).toList == (strOfNums (U.map fun (n : Nat) => (n : Int))).toList) = decide (T = U) := by
  rw [ByteArray.toList_eq, ByteArray.toList_eq, strOfNums_data, strOfNums_data, List.map_map, List.map_map]
  have e1 : ∀ T : List Nat, T.map ((fun (n : Int) => UInt8.ofNat n.toNat) ∘ fun (n : Nat) => (n : Int)) = T.map UInt8.ofNat := fun _ => rfl
  rw [e1, e1]
  by_cases h : T = U
  · rw [h]; simp
  · rw [decide_eq_false h, beq_eq_false_iff_ne]
    exact fun e => h (tu8_inj hT hU e)
theorem At.ints {w : World} {c o : Nat} {l : List Nat} (h : At w c o l) {n : Nat} (hn : n = l.length) : ∀ i, i < n → w.cell? ⟨c, o + i, none⟩ = some (.int .u8 ((l.map fun (n : Nat) => (n : Int)).getD i 0)) := by
  intro i hi
  rw [h.2 i (by omega)]
  simp [List.getD_eq_getElem?_getD]
  cases e : l[i]? <;> simp
set_option maxHeartbeats 1000000 in
theorem equal_any (w : World) (c1 o1 n1 cap1 c2 o2 n2 cap2 : Nat) (l1 l2 : List Nat) (e1 : n1 = l1.length) (e2 : n2 = l2.length) (b1 : Bys l1) (b2 : Bys l2) (h1 : At w c1 o1 l1) (h2 : At w c2 o2 l2) :
    Calls Tryz.prog 77 #[.slice (some ⟨c1, o1, none⟩) n1 cap1, .slice (some ⟨c2, o2, none⟩) n2 cap2] w fun e w' => e = .returned (.bool (decide (l1 = l2))) ∧ w' = w := by
  have k1 := run_convert_bytes_arg (P := Tryz.prog) w 55 5 Tryz.underlying55 Tryz.underlying5 c1 o1 n1 cap1 (l1.map fun (n : Nat) => (n : Int)) (by simp [e1]) (h1.ints e1) 9 Tryz.underlying9
  have k2 := run_convert_bytes_arg (P := Tryz.prog) w 55 5 Tryz.underlying55 Tryz.underlying5 c2 o2 n2 cap2 (l2.map fun (n : Nat) => (n : Int)) (by simp [e2]) (h2.ints e2) 9 Tryz.underlying9
  have hq := str_eq l1 l2 b1 b2
  generalize l1.map (fun (n : Nat) => (n : Int)) = x1 at *
  generalize l2.map (fun (n : Nat) => (n : Int)) = x2 at *
  have HQ := hyd hq
  clear hq e1 e2 h1 h2
  go_enter Tryz.func77, Tryz.ntmps77
  go_wp2
  go_ret
  exact ⟨by rw [← HQ.out]; rfl, rfl⟩
/-- Whether a body's byte of Lost is 1. -/
def lst (l : List Nat) : Bool := ((fld l 9 1 : Nat) : Int) == 1
theorem fields_v (w : World) (c o cap : Nat) (l : List Nat) (hl : Bys l) (hL : l.length = 50) (hcap : 50 ≤ cap) (hA : At w c o l) :
    Calls Tryz.prog 132 #[.slice (some ⟨c, o, none⟩) 50 cap] w fun e w' => e = .returned (.tuple #[.agg #[.int .i64 (fld l 0 2 : Nat), .int .i64 (fld l 2 1 : Nat), .int .i64 (fld l 3 5 : Nat), .int .i64 (fld l 8 1 : Nat), .bool (lst l)], .nilIface]) ∧ Chg (fun _ => False) w w' :=
  fields_any w c o cap l hl hL hcap hA
/-- The tag whose fields lie in l may be. -/
def MayL (l : List Nat) : Prop := May (fld l 0 2 : Nat) (fld l 2 1 : Nat) (fld l 3 5 : Nat) (fld l 8 1 : Nat) (lst l)
/-- Its body. -/
def bodyL (l : List Nat) : List Nat := body (fld l 0 2) (fld l 2 1) (fld l 3 5) (fld l 8 1) (lst l)
theorem pre_bys (p o s c : Nat) (l : Bool) (k : Nat) : Bys (pre p o s c l k) := by
  have app : ∀ {x y : List Nat}, Bys x → Bys y → Bys (x ++ y) := fun hx hy n hn => (List.mem_append.1 hn).elim (hx n) (hy n)
  match k with
  | 0 => exact fun n hn => by cases hn
  | 1 => exact bts_bys _ _
  | 2 => exact app (bts_bys _ _) (bts_bys _ _)
  | 3 => exact app (app (bts_bys _ _) (bts_bys _ _)) (bts_bys _ _)
  | 4 => exact app (app (app (bts_bys _ _) (bts_bys _ _)) (bts_bys _ _)) (bts_bys _ _)
  | _ + 5 => exact app (app (app (app (bts_bys _ _) (bts_bys _ _)) (bts_bys _ _)) (bts_bys _ _)) (bts_bys _ _)
theorem body_bys (p o s c : Nat) (l : Bool) : Bys (body p o s c l) := fun n hn => (List.mem_append.1 hn).elim (pre_bys p o s c l 5 n) (fun h => by rw [(List.mem_replicate.1 h).2]; decide)
theorem Arr.at_ {w : World} {g : Nat} {l : List Nat} (h : Arr w g 5 l) : At w g 0 l := ⟨h.lt, fun i hi => by rw [Nat.zero_add]; exact h.cell i hi⟩
theorem build23 (w : World) : (Instr.build 28 #[]).run Tryz.prog w = .ok (.agg #[.int .i64 0, .int .i64 0, .int .i64 0, .int .i64 0, .bool false]) w := by kernel_rfl

set_option maxHeartbeats 2000000 in
theorem tdecode_arg (w : World) (a : Option Addr) (n cap : Nat) (hn : n ≠ 50) :
    Calls Tryz.prog 113 #[.slice a n cap] w fun e w' => e = .returned (.tuple #[.agg #[.int .i64 0, .int .i64 0, .int .i64 0, .int .i64 0, .bool false], .iface 58 (.int .i64 1)]) ∧ Chg (fun _ => False) w w' := by
  have hn' : ((n : Int) != 50) = true := by simp only [bne_iff_ne, ne_eq]; omega
  have hb := build23
  have HT := hyd (Tg.new w 0 0 0 0 false)
  have G0 : Chg (fun _ => False) w (w.alloc (.cells #[.int .i64 0, .int .i64 0, .int .i64 0, .int .i64 0, .bool false] 28)) := (Chg.refl _ w).alloc _
  have HG := hyd G0
  clear hn G0
  go_enter Tryz.func113, Tryz.ntmps113
  go_wp2_with (refine wpList_store_tag rfl (.tmp 2) (.tmp 11) rfl w.heap.size rfl rfl HT.out ?_)
  intro w3 T3 G3
  have HT3 := hyd T3
  have HG3 : Hid (Chg (fun _ => False) w w3) := hyd (HG.out.trans' G3 (fun i hi ht => by omega))
  clear T3 G3
  go_wp2
  refine bodyPost_ret (results_tag rfl _ rfl HT3.out) rfl ?_
  exact ⟨rfl, HG3.out⟩
set_option maxHeartbeats 4000000 in
theorem decode_may (w : World) (c o cap : Nat) (l : List Nat) (hl : Bys l) (hL : l.length = 50) (hcap : 50 ≤ cap) (hA : At w c o l) (hm : ¬ MayL l) :
    Calls Tryz.prog 113 #[.slice (some ⟨c, o, none⟩) 50 cap] w fun e w' => e = .returned (.tuple #[.agg #[.int .i64 0, .int .i64 0, .int .i64 0, .int .i64 0, .bool false], .iface 58 (.int .i64 3)]) ∧ Chg (fun _ => False) w w' := by
  have hb := build23
  have HT := hyd (Tg.new w 0 0 0 0 false)
  have G0 : Chg (fun _ => False) w (w.alloc (.cells #[.int .i64 0, .int .i64 0, .int .i64 0, .int .i64 0, .bool false] 28)) := (Chg.refl _ w).alloc _
  have A0 := hA.chg G0 (fun e => e)
  have hf := fields_v _ c o cap l hl hL hcap A0
  have he := fun w => encode_no w _ _ _ _ _ hm
  have q1 := tneq_nil_nil
  have q2 := tneq_arg_nil
  have HG := hyd G0
  clear hA hm G0 A0 hL
  go_enter Tryz.func113, Tryz.ntmps113
  go_wp2_with fail
  refine hf.mono ?_
  rintro e w1 ⟨rfl, G1⟩
  clear hf
  have HT1 := hyd (HT.out.chg G1 (fun e => e))
  have HG1 := hyd (HG.out.trans G1)
  clear G1 HT HG
  go_wp2_with fail
  have T2 := HT1.out.alloc (.cells #[.int .i64 (fld l 0 2 : Nat), .int .i64 (fld l 2 1 : Nat), .int .i64 (fld l 3 5 : Nat), .int .i64 (fld l 8 1 : Nat), .bool (lst l)] 28)
  have V2 := Tg.new w1 (fld l 0 2 : Nat) (fld l 2 1 : Nat) (fld l 3 5 : Nat) (fld l 8 1 : Nat) (lst l)
  have G2 := HG1.out.alloc (.cells #[.int .i64 (fld l 0 2 : Nat), .int .i64 (fld l 2 1 : Nat), .int .i64 (fld l 3 5 : Nat), .int .i64 (fld l 8 1 : Nat), .bool (lst l)] 28)
  have hsz := HG1.out.size
  refine (he _).mono ?_
  rintro e w2 ⟨rfl, G3⟩
  clear he
  have HT2 := hyd (T2.chg G3 (fun e => e))
  have HG2 := hyd (G2.trans G3)
  clear T2 V2 G2 G3 HT1 HG1
  go_wp2_with (refine wpList_store_tag rfl (.tmp 2) (.tmp 35) rfl w.heap.size rfl rfl HT2.out ?_)
  intro w3 T3 G3
  have HT3 := hyd T3
  have HG3 : Hid (Chg (fun _ => False) w w3) := hyd (HG2.out.trans' G3 (fun i hi ht => by omega))
  clear T3 G3
  go_wp2
  refine bodyPost_ret (results_tag rfl _ rfl HT3.out) rfl ?_
  exact ⟨rfl, HG3.out⟩
set_option maxHeartbeats 4000000 in
theorem decode_other (w : World) (c o cap : Nat) (l : List Nat) (hl : Bys l) (hL : l.length = 50) (hcap : 50 ≤ cap) (hA : At w c o l) (hm : MayL l) (hne : ¬ bodyL l = l) :
    Calls Tryz.prog 113 #[.slice (some ⟨c, o, none⟩) 50 cap] w fun e w' => e = .returned (.tuple #[.agg #[.int .i64 0, .int .i64 0, .int .i64 0, .int .i64 0, .bool false], .iface 58 (.int .i64 3)]) ∧ Chg (fun _ => False) w w' := by
  have hb := build23
  have HT := hyd (Tg.new w 0 0 0 0 false)
  have G0 : Chg (fun _ => False) w (w.alloc (.cells #[.int .i64 0, .int .i64 0, .int .i64 0, .int .i64 0, .bool false] 28)) := (Chg.refl _ w).alloc _
  have A0 := hA.chg G0 (fun e => e)
  have hf := fields_v _ c o cap l hl hL hcap A0
  have he := fun w => encode_yes w _ _ _ _ _ hm
  have hd := decide_eq_false hne
  have q1 := tneq_nil_nil
  have HG := hyd G0
  have HA := hyd hA
  have HL := hyd hL
  clear hA hm G0 A0 hL hne
  go_enter Tryz.func113, Tryz.ntmps113
  go_wp2_with fail
  refine hf.mono ?_
  rintro e w1 ⟨rfl, G1⟩
  clear hf
  have HT1 := hyd (HT.out.chg G1 (fun e => e))
  have HG1 := hyd (HG.out.trans G1)
  clear G1 HT HG
  go_wp2_with fail
  have T2 := HT1.out.alloc (.cells #[.int .i64 (fld l 0 2 : Nat), .int .i64 (fld l 2 1 : Nat), .int .i64 (fld l 3 5 : Nat), .int .i64 (fld l 8 1 : Nat), .bool (lst l)] 28)
  have V2 := Tg.new w1 (fld l 0 2 : Nat) (fld l 2 1 : Nat) (fld l 3 5 : Nat) (fld l 8 1 : Nat) (lst l)
  have G2 := HG1.out.alloc (.cells #[.int .i64 (fld l 0 2 : Nat), .int .i64 (fld l 2 1 : Nat), .int .i64 (fld l 3 5 : Nat), .int .i64 (fld l 8 1 : Nat), .bool (lst l)] 28)
  have hsz := HG1.out.size
  refine (he _).mono ?_
  rintro e w2 ⟨g, rfl, hg, A3, G3⟩
  clear he
  have T3 := T2.chg G3 (fun e => e)
  have V3 := V2.chg G3 (fun e => e)
  have G03 := G2.trans G3
  have hq := equal_any w2 g 0 50 50 c o 50 cap (bodyL l) l (body_length _ _ _ _ _).symm HL.out.symm (body_bys _ _ _ _ _) hl A3.at_ (HA.out.chg G03 (fun e => e))
  rw [hd] at hq
  have HT2 := hyd T3
  have HV2 := hyd V3
  have HG2 := hyd G03
  clear T2 V2 G2 G3 HT1 HG1 A3 T3 V3 G03
  go_wp2_with fail
  refine hq.mono ?_
  rintro e w4 ⟨rfl, rfl⟩
  clear hq
  go_wp2_with (refine wpList_store_tag rfl (.tmp 2) (.tmp 35) rfl w.heap.size rfl rfl HT2.out ?_)
  intro w5 T5 G5
  have HT3 := hyd T5
  have HG3 : Hid (Chg (fun _ => False) w w5) := hyd (HG2.out.trans' G5 (fun i hi ht => by omega))
  clear T5 G5
  go_wp2
  refine bodyPost_ret (results_tag rfl _ rfl HT3.out) rfl ?_
  exact ⟨rfl, HG3.out⟩
set_option maxHeartbeats 4000000 in
theorem decode_yes (w : World) (c o cap : Nat) (l : List Nat) (hl : Bys l) (hL : l.length = 50) (hcap : 50 ≤ cap) (hA : At w c o l) (hm : MayL l) (hne : bodyL l = l) :
    Calls Tryz.prog 113 #[.slice (some ⟨c, o, none⟩) 50 cap] w fun e w' => e = .returned (.tuple #[.agg #[.int .i64 (fld l 0 2 : Nat), .int .i64 (fld l 2 1 : Nat), .int .i64 (fld l 3 5 : Nat), .int .i64 (fld l 8 1 : Nat), .bool (lst l)], .nilIface]) ∧ Chg (fun _ => False) w w' := by
  have hb := build23
  have HT := hyd (Tg.new w 0 0 0 0 false)
  have G0 : Chg (fun _ => False) w (w.alloc (.cells #[.int .i64 0, .int .i64 0, .int .i64 0, .int .i64 0, .bool false] 28)) := (Chg.refl _ w).alloc _
  have A0 := hA.chg G0 (fun e => e)
  have hf := fields_v _ c o cap l hl hL hcap A0
  have he := fun w => encode_yes w _ _ _ _ _ hm
  have hd := decide_eq_true hne
  have q1 := tneq_nil_nil
  have HG := hyd G0
  have HA := hyd hA
  have HL := hyd hL
  clear hA hm G0 A0 hL hne
  go_enter Tryz.func113, Tryz.ntmps113
  go_wp2_with fail
  refine hf.mono ?_
  rintro e w1 ⟨rfl, G1⟩
  clear hf
  have HT1 := hyd (HT.out.chg G1 (fun e => e))
  have HG1 := hyd (HG.out.trans G1)
  clear G1 HT HG
  go_wp2_with fail
  have T2 := HT1.out.alloc (.cells #[.int .i64 (fld l 0 2 : Nat), .int .i64 (fld l 2 1 : Nat), .int .i64 (fld l 3 5 : Nat), .int .i64 (fld l 8 1 : Nat), .bool (lst l)] 28)
  have V2 := Tg.new w1 (fld l 0 2 : Nat) (fld l 2 1 : Nat) (fld l 3 5 : Nat) (fld l 8 1 : Nat) (lst l)
  have G2 := HG1.out.alloc (.cells #[.int .i64 (fld l 0 2 : Nat), .int .i64 (fld l 2 1 : Nat), .int .i64 (fld l 3 5 : Nat), .int .i64 (fld l 8 1 : Nat), .bool (lst l)] 28)
  have hsz := HG1.out.size
  refine (he _).mono ?_
  rintro e w2 ⟨g, rfl, hg, A3, G3⟩
  clear he
  have T3 := T2.chg G3 (fun e => e)
  have V3 := V2.chg G3 (fun e => e)
  have G03 := G2.trans G3
  have hq := equal_any w2 g 0 50 50 c o 50 cap (bodyL l) l (body_length _ _ _ _ _).symm HL.out.symm (body_bys _ _ _ _ _) hl A3.at_ (HA.out.chg G03 (fun e => e))
  rw [hd] at hq
  have HT2 := hyd T3
  have HV2 := hyd V3
  have HG2 := hyd G03
  clear T2 V2 G2 G3 HT1 HG1 A3 T3 V3 G03
  go_wp2_with fail
  refine hq.mono ?_
  rintro e w4 ⟨rfl, rfl⟩
  clear hq
  obtain ⟨v0, v1, v2, v3, v4⟩ := HV2.out.cells
  go_wp2_with (refine wpList_store_tag rfl (.tmp 2) (.tmp 37) rfl w.heap.size rfl rfl HT2.out ?_)
  intro w5 T5 G5
  have HT3 := hyd T5
  have HG3 : Hid (Chg (fun _ => False) w w5) := hyd (HG2.out.trans' G5 (fun i hi ht => by omega))
  clear T5 G5
  go_wp2
  refine bodyPost_ret (results_tag rfl _ rfl HT3.out) rfl ?_
  exact ⟨rfl, HG3.out⟩
/-- l is the body of a tag that may be. -/
def IsB (l : List Nat) : Prop := MayL l ∧ bodyL l = l
theorem decode_no (w : World) (c o cap : Nat) (l : List Nat) (hl : Bys l) (hL : l.length = 50) (hcap : 50 ≤ cap) (hA : At w c o l) (hn : ¬ IsB l) :
    Calls Tryz.prog 113 #[.slice (some ⟨c, o, none⟩) 50 cap] w fun e w' => e = .returned (.tuple #[.agg #[.int .i64 0, .int .i64 0, .int .i64 0, .int .i64 0, .bool false], .iface 58 (.int .i64 3)]) ∧ Chg (fun _ => False) w w' := by
  by_cases h : MayL l
  · exact decode_other w c o cap l hl hL hcap hA h (fun e => hn ⟨h, e⟩)
  · exact decode_may w c o cap l hl hL hcap hA h
end Go.Proofs.YtifjmilegogbaaaGreat
namespace Go.Proofs.YtifjmilegogbaaaGreat
open Go.RowKit
set_option maxRecDepth 100000

/-- What Decode answers, at any bytes. -/
def TDecAns (l : List Nat) (v : Value) (e : Value) : Prop :=
  (l.length ≠ 50 ∧ v = .agg #[.int .i64 0, .int .i64 0, .int .i64 0, .int .i64 0, .bool false] ∧ e = .iface 58 (.int .i64 1)) ∨
  (l.length = 50 ∧ ¬ IsB l ∧ v = .agg #[.int .i64 0, .int .i64 0, .int .i64 0, .int .i64 0, .bool false] ∧ e = .iface 58 (.int .i64 3)) ∨
  (l.length = 50 ∧ IsB l ∧ v = .agg #[.int .i64 (fld l 0 2 : Nat), .int .i64 (fld l 2 1 : Nat), .int .i64 (fld l 3 5 : Nat), .int .i64 (fld l 8 1 : Nat), .bool (lst l)] ∧ e = .nilIface)
theorem tdecode_any (w : World) (a : Option Addr) (n cap : Nat) (l : List Nat) (hl : Bys l) (hn : n = l.length) (hcap : n ≤ cap) (hH : Held w (.slice a n cap) l) :
    Calls Tryz.prog 113 #[.slice a n cap] w fun e w' => ∃ v x, e = .returned (.tuple #[v, x]) ∧ TDecAns l v x ∧ Chg (fun _ => False) w w' := by
  by_cases h5 : l.length = 50
  · obtain rfl : n = 50 := by omega
    obtain ⟨c, o, rfl, hc, hcc⟩ := hH.at_ (by omega)
    by_cases hI : IsB l
    · refine (decode_yes w c o cap l hl h5 hcap ⟨hc, hcc⟩ hI.1 hI.2).mono ?_
      rintro e w' ⟨rfl, G⟩
      exact ⟨_, _, rfl, Or.inr (Or.inr ⟨h5, hI, rfl, rfl⟩), G⟩
    · refine (decode_no w c o cap l hl h5 hcap ⟨hc, hcc⟩ hI).mono ?_
      rintro e w' ⟨rfl, G⟩
      exact ⟨_, _, rfl, Or.inr (Or.inl ⟨h5, hI, rfl, rfl⟩), G⟩
  · refine (tdecode_arg w a n cap (by omega)).mono ?_
    rintro e w' ⟨rfl, G⟩
    exact ⟨_, _, rfl, Or.inl ⟨h5, rfl, rfl⟩, G⟩
end Go.Proofs.YtifjmilegogbaaaGreat
namespace Go.Proofs.YtifjmilegogbaaaGreat
open Go.RowKit
set_option maxRecDepth 100000

theorem body_seg (p o s c : Nat) (l : Bool) : body p o s c l = bts p 2 ++ (bts o 1 ++ (bts s 5 ++ (bts c 1 ++ (bts l.toNat 1 ++ List.replicate 40 0)))) := by
  simp [body, row, pre, bts_length]
theorem seg_skip (x y : List Nat) (a n : Nat) : seg (x ++ y) (x.length + a) n = seg y a n := by
  simp [seg, List.drop_append, List.drop_eq_nil_of_le (show x.length ≤ x.length + a by omega)]
theorem seg_here (x y : List Nat) (n : Nat) (h : n = x.length) : seg (x ++ y) 0 n = x := by
  subst h
  simp [seg]
theorem fld_back (p o s c : Nat) (l : Bool) (h : May p o s c l) : fld (body p o s c l) 0 2 = p ∧ fld (body p o s c l) 2 1 = o ∧ fld (body p o s c l) 3 5 = s ∧ fld (body p o s c l) 8 1 = c ∧ lst (body p o s c l) = l := by
  have e0 := h.pl
  have e1 := h.ol
  have e2 := h.sl
  have e3 := h.cl
  have f0 : fld (body p o s c l) 0 2 = p := by
    rw [fld, body_seg, seg_here _ _ _ (bts_length _ _).symm, le_bts]
    exact Nat.mod_eq_of_lt (by omega)
  have f1 : fld (body p o s c l) 2 1 = o := by
    have := seg_skip (bts p 2) (bts o 1 ++ (bts s 5 ++ (bts c 1 ++ (bts l.toNat 1 ++ List.replicate 40 0)))) 0 1
    rw [bts_length] at this
    rw [fld, body_seg, this, seg_here _ _ _ (bts_length _ _).symm, le_bts]
    exact Nat.mod_eq_of_lt (by omega)
  have f2 : fld (body p o s c l) 3 5 = s := by
    have := seg_skip (bts p 2 ++ bts o 1) (bts s 5 ++ (bts c 1 ++ (bts l.toNat 1 ++ List.replicate 40 0))) 0 5
    rw [List.length_append, bts_length, bts_length, List.append_assoc] at this
    rw [fld, body_seg, this, seg_here _ _ _ (bts_length _ _).symm, le_bts]
    exact Nat.mod_eq_of_lt (by omega)
  have f3 : fld (body p o s c l) 8 1 = c := by
    have := seg_skip (bts p 2 ++ (bts o 1 ++ bts s 5)) (bts c 1 ++ (bts l.toNat 1 ++ List.replicate 40 0)) 0 1
    simp only [List.length_append, bts_length, List.append_assoc] at this
    rw [fld, body_seg, this, seg_here _ _ _ (bts_length _ _).symm, le_bts]
    exact Nat.mod_eq_of_lt (by omega)
  have f4 : fld (body p o s c l) 9 1 = l.toNat := by
    have := seg_skip (bts p 2 ++ (bts o 1 ++ (bts s 5 ++ bts c 1))) (bts l.toNat 1 ++ List.replicate 40 0) 0 1
    simp only [List.length_append, bts_length, List.append_assoc] at this
    rw [fld, body_seg, this, seg_here _ _ _ (bts_length _ _).symm, le_bts]
    exact Nat.mod_eq_of_lt (by cases l <;> decide)
  refine ⟨f0, f1, f2, f3, ?_⟩
  rw [lst, f4]
  cases l <;> rfl
theorem body_is (p o s c : Nat) (l : Bool) (h : May p o s c l) : IsB (body p o s c l) := by
  obtain ⟨f0, f1, f2, f3, f4⟩ := fld_back p o s c l h
  unfold IsB MayL bodyL
  rw [f0, f1, f2, f3, f4]
  exact ⟨h, rfl⟩
end Go.Proofs.YtifjmilegogbaaaGreat
