/-
  tag.fields, walked: the fields that lie in a body of 50 bytes. Condition: the bytes can be read.
-/
import Derived.Test.YtgipkdkhgdaeiaaTag
namespace Go.Proofs.Ytgipkdkhgdaeiaa
open Go.RowKit
set_option maxRecDepth 100000

theorem get_n (w : World) (a : Option Addr) (n cap : Nat) (l : List Nat) (hn : n = l.length) (hl : Bys l) (h1 : 1 ≤ l.length) (h8 : l.length ≤ 8) (hr : Held w (.slice a n cap) l) :
    Calls Try.prog 30 #[.slice a n cap] w fun e w' => e = .returned (.tuple #[.int .u64 (le l : Nat), .nilIface]) ∧ Chg (fun _ => False) w w' := by
  subst hn
  exact get_any w a cap l hl h1 h8 hr
/-- n bytes of l, from place a on. -/
def seg (l : List Nat) (a n : Nat) : List Nat := (l.drop a).take n
theorem seg_length {l : List Nat} {a n : Nat} (h : a + n ≤ l.length) : (seg l a n).length = n := by simp [seg]; omega
theorem seg_getD {l : List Nat} {a n i : Nat} (h : i < n) : (seg l a n).getD i 0 = l.getD (a + i) 0 := by
  simp [seg, List.getD_eq_getElem?_getD, List.getElem?_take_of_lt h]
theorem seg_bys {l : List Nat} (h : Bys l) (a n : Nat) : Bys (seg l a n) := bys_take (bys_drop h a) n
/-- A field: the number of its bytes. -/
def fld (l : List Nat) (a n : Nat) : Nat := le (seg l a n)
theorem fld_lt {l : List Nat} (h : Bys l) {a n : Nat} (hn : a + n ≤ l.length) : fld l a n < 256 ^ n := by
  have := le_lt (seg_bys h a n)
  rwa [seg_length hn] at this
/-- The bytes l lie at a slice's address. -/
def At (w : World) (c o : Nat) (l : List Nat) : Prop := c < w.heap.size ∧ ∀ i, i < l.length → w.cell? ⟨c, o + i, none⟩ = some (.int .u8 (l.getD i 0 : Nat))
theorem At.chg {S : Nat → Prop} {w w' : World} {c o : Nat} {l : List Nat} (h : At w c o l) (hc : Chg S w w') (hS : ¬ S c) : At w' c o l :=
  ⟨Nat.lt_of_lt_of_le h.1 hc.size, fun i hi => (hc.cell h.1 hS _).trans (h.2 i hi)⟩
theorem At.held {w : World} {c o : Nat} {l : List Nat} (h : At w c o l) (a n cap : Nat) (hn : a + n ≤ l.length) : Held w (.slice (some ⟨c, o + a, none⟩) n cap) (seg l a n) :=
  ⟨_, cap, by rw [seg_length hn], Or.inr ⟨c, o + a, rfl, h.1, fun i hi => by
    rw [seg_length hn] at hi
    rw [seg_getD hi, Nat.add_assoc]
    exact h.2 (a + i) (by omega)⟩⟩
/-- The five numbers. -/
def Nums (w : World) (b n0 n1 n2 n3 n4 : Nat) : Prop := w.heap[b]? = some (.cells #[.int .u64 (n0 : Nat), .int .u64 (n1 : Nat), .int .u64 (n2 : Nat), .int .u64 (n3 : Nat), .int .u64 (n4 : Nat)] 58)
theorem Nums.lt {w : World} {b n0 n1 n2 n3 n4 : Nat} (h : Nums w b n0 n1 n2 n3 n4) : b < w.heap.size := (Array.getElem?_eq_some_iff.1 (show w.heap[b]? = some _ from h)).1
theorem Nums.chg {S : Nat → Prop} {w w' : World} {b n0 n1 n2 n3 n4 : Nat} (h : Nums w b n0 n1 n2 n3 n4) (hc : Chg S w w') (hb : ¬ S b) : Nums w' b n0 n1 n2 n3 n4 := (hc.block b h.lt hb).trans h
theorem Nums.cells {w : World} {b n0 n1 n2 n3 n4 : Nat} (h : Nums w b n0 n1 n2 n3 n4) : (w.cell? ⟨b, 0, none⟩ = some (.int .u64 (n0 : Nat)) ∧ w.cell? ⟨b, 1, none⟩ = some (.int .u64 (n1 : Nat)) ∧ w.cell? ⟨b, 2, none⟩ = some (.int .u64 (n2 : Nat)) ∧ w.cell? ⟨b, 3, none⟩ = some (.int .u64 (n3 : Nat)) ∧ w.cell? ⟨b, 4, none⟩ = some (.int .u64 (n4 : Nat))) ∧ ∀ i, w.frozen? ⟨b, i, none⟩ = false := by
  have h' : w.heap[b]? = some _ := h
  refine ⟨⟨?_, ?_, ?_, ?_, ?_⟩, fun i => ?_⟩ <;> simp [World.cell?, World.frozen?, h']
theorem Nums.set0 {w : World} {b n0 n1 n2 n3 n4 : Nat} (h : Nums w b n0 n1 n2 n3 n4) (x : Nat) : Nums (w.setCell ⟨b, 0, none⟩ (.int .u64 (x : Nat))) b x n1 n2 n3 n4 := by
  have h' : w.heap[b]? = some _ := h
  show (w.setCell ⟨b, 0, none⟩ _).heap[b]? = _
  simp [World.setCell, Array.getElem?_modify, h']
theorem Nums.set1 {w : World} {b n0 n1 n2 n3 n4 : Nat} (h : Nums w b n0 n1 n2 n3 n4) (x : Nat) : Nums (w.setCell ⟨b, 1, none⟩ (.int .u64 (x : Nat))) b n0 x n2 n3 n4 := by
  have h' : w.heap[b]? = some _ := h
  show (w.setCell ⟨b, 1, none⟩ _).heap[b]? = _
  simp [World.setCell, Array.getElem?_modify, h']
theorem Nums.set2 {w : World} {b n0 n1 n2 n3 n4 : Nat} (h : Nums w b n0 n1 n2 n3 n4) (x : Nat) : Nums (w.setCell ⟨b, 2, none⟩ (.int .u64 (x : Nat))) b n0 n1 x n3 n4 := by
  have h' : w.heap[b]? = some _ := h
  show (w.setCell ⟨b, 2, none⟩ _).heap[b]? = _
  simp [World.setCell, Array.getElem?_modify, h']
theorem Nums.set3 {w : World} {b n0 n1 n2 n3 n4 : Nat} (h : Nums w b n0 n1 n2 n3 n4) (x : Nat) : Nums (w.setCell ⟨b, 3, none⟩ (.int .u64 (x : Nat))) b n0 n1 n2 x n4 := by
  have h' : w.heap[b]? = some _ := h
  show (w.setCell ⟨b, 3, none⟩ _).heap[b]? = _
  simp [World.setCell, Array.getElem?_modify, h']
theorem Nums.set4 {w : World} {b n0 n1 n2 n3 n4 : Nat} (h : Nums w b n0 n1 n2 n3 n4) (x : Nat) : Nums (w.setCell ⟨b, 4, none⟩ (.int .u64 (x : Nat))) b n0 n1 n2 n3 x := by
  have h' : w.heap[b]? = some _ := h
  show (w.setCell ⟨b, 4, none⟩ _).heap[b]? = _
  simp [World.setCell, Array.getElem?_modify, h']
/-- What the first k numbers are. -/
def upk (l : List Nat) (k i a n : Nat) : Nat := if i < k then fld l a n else 0
def froms : Nat → Nat
  | 0 => 0
  | 1 => 2
  | 2 => 3
  | 3 => 8
  | 4 => 9
  | _ => 10

/-- A tag is stored over another. -/
theorem wpList_store_tag {ops : Array Oper} {rest : List Oper} {o : Oper} {a : Act} {w : World} {Q : Exit → Act → World → Prop} (hgd : o.guard = none) (x y : Operand) (ho : o.op = .store 23 x y)
    (g : Nat) (hx : a.eval x = .pointer (some ⟨g, 0, none⟩)) {p of s c : Int} {l : Bool} (hy : a.eval y = .agg #[.int .i64 p, .int .i64 of, .int .i64 s, .int .i64 c, .bool l]) {p' o' s' c' : Int} {l' : Bool} (hg : Tg w g p' o' s' c' l')
    (h : ∀ w', Tg w' g p of s c l → Chg (· = g) w w' → wpList Try.prog ops Q rest (a.put o.dst undef) w') : wpList Try.prog ops Q (o :: rest) a w :=
  wpList_store_row hgd 23 x y ho g _ hx hy 23 _ hg size23 rfl (by simp [Value.oneCell']) (h _ (setRow_heap w g _ _ 23 _ hg) ⟨rfl, rfl, rfl, by simp, fun k _ hk => setRow_other _ _ _ _ hk⟩)
theorem results_tag {fn : Func} {q u : Tmp} (h : fn.results = #[.cell q 23, .tmp u]) (tmps : Array Value) {w : World} {g : Nat} {p o s c : Int} {l : Bool} (hp : tmps.getD q undef = .pointer (some ⟨g, 0, none⟩)) (hT : Tg w g p o s c l) :
    (results fn tmps).run Try.prog w = .ok (.tuple #[.agg #[.int .i64 p, .int .i64 o, .int .i64 s, .int .i64 c, .bool l], tmps.getD u undef]) w := by
  rw [results_cell_tmp h, hp]
  simp [asAddr, run_loadVar_row w g 23 23 _ _ _ hT Try.underlying23 rfl size23]
theorem idx0 (w : World) : (Instr.index 59 (.agg #[.int .i64 2, .int .i64 1, .int .i64 5, .int .i64 1, .int .i64 1]) (.int .i64 0)).run Try.prog w = .ok (.int .i64 2) w := by kernel_rfl
theorem idx1 (w : World) : (Instr.index 59 (.agg #[.int .i64 2, .int .i64 1, .int .i64 5, .int .i64 1, .int .i64 1]) (.int .i64 1)).run Try.prog w = .ok (.int .i64 1) w := by kernel_rfl
theorem idx2 (w : World) : (Instr.index 59 (.agg #[.int .i64 2, .int .i64 1, .int .i64 5, .int .i64 1, .int .i64 1]) (.int .i64 2)).run Try.prog w = .ok (.int .i64 5) w := by kernel_rfl
theorem idx3 (w : World) : (Instr.index 59 (.agg #[.int .i64 2, .int .i64 1, .int .i64 5, .int .i64 1, .int .i64 1]) (.int .i64 3)).run Try.prog w = .ok (.int .i64 1) w := by kernel_rfl
theorem idx4 (w : World) : (Instr.index 59 (.agg #[.int .i64 2, .int .i64 1, .int .i64 5, .int .i64 1, .int .i64 1]) (.int .i64 4)).run Try.prog w = .ok (.int .i64 1) w := by kernel_rfl
theorem Tg.setOther {w : World} {b : Nat} {p o s c : Int} {l : Bool} (h : Tg w b p o s c l) {k : Nat} (hg : k ≠ b) (i : Nat) (v : Value) : Tg (w.setCell ⟨k, i, none⟩ v) b p o s c l :=
  (Below.heap_setCell _ _ _ _ (by simp; omega)).trans h
/-- How fields stands behind k numbers. -/
def Gst (w wr : World) (l : List Nat) (k : Nat) : Prop :=
  Nums wr (w.heap.size + 1) (upk l k 0 0 2) (upk l k 1 2 1) (upk l k 2 3 5) (upk l k 3 8 1) (upk l k 4 9 1) ∧ Tg wr w.heap.size 0 0 0 0 false ∧ Chg (fun _ => False) w wr
set_option maxHeartbeats 4000000 in
theorem fields_any (w : World) (c o cap : Nat) (l : List Nat) (hl : Bys l) (hL : l.length = 50) (hcap : 50 ≤ cap) (hA : At w c o l) :
    Calls Try.prog 26 #[.slice (some ⟨c, o, none⟩) 50 cap] w fun e w' => e = .returned (.tuple #[.agg #[.int .i64 (fld l 0 2 : Nat), .int .i64 (fld l 2 1 : Nat), .int .i64 (fld l 3 5 : Nat), .int .i64 (fld l 8 1 : Nat), .bool (((fld l 9 1 : Nat) : Int) == 1)], .nilIface]) ∧ Chg (fun _ => False) w w' := by
  have HA := hyd hA
  have HL := hyd hL
  have x0 := fld_lt hl (a := 0) (n := 2) (by omega)
  have x1 := fld_lt hl (a := 2) (n := 1) (by omega)
  have x2 := fld_lt hl (a := 3) (n := 5) (by omega)
  have x3 := fld_lt hl (a := 8) (n := 1) (by omega)
  have x4 := fld_lt hl (a := 9) (n := 1) (by omega)
  simp only [Nat.reducePow] at x0 x1 x2 x3 x4
  clear hA hL
  have q1 := neq_nil_nil
  have hcs : c < w.heap.size := HA.out.1
  go_enter Try.func26, Try.ntmps26
  go_wp2_with fail
  have S0 : Gst w ((w.alloc (.cells #[.int .i64 0, .int .i64 0, .int .i64 0, .int .i64 0, .bool false] 23)).alloc (.cells #[.int .u64 0, .int .u64 0, .int .u64 0, .int .u64 0, .int .u64 0] 58)) l 0 := by
    refine ⟨?_, (Tg.new w 0 0 0 0 false).alloc _, ((Chg.refl _ w).alloc _).alloc _⟩
    have := heap_alloc_new (w.alloc (.cells #[.int .i64 0, .int .i64 0, .int .i64 0, .int .i64 0, .bool false] 23)) (.cells #[.int .u64 0, .int .u64 0, .int .u64 0, .int .u64 0, .int .u64 0] 58)
    simpa [Nums, upk] using this
  go_loopw [5, 11] (fun f t wr => ∃ k : Nat, k ≤ 5 ∧ t = .int .i64 k ∧ f = .int .i64 (froms k : Nat) ∧ Gst w wr l k) (fun _ t _ => 5 - (intOf t).toNat)
  case atStart => exact ⟨0, by decide, rfl, rfl, S0⟩
  case round =>
    clear S0
    obtain ⟨k, hk, rfl, rfl, a1, a2, a3⟩ := hrel
    have hAr := HA.out.chg a3 (fun e => e)
    rcases (by omega : k = 0 ∨ k = 1 ∨ k = 2 ∨ k = 3 ∨ k = 4 ∨ k = 5) with rfl | rfl | rfl | rfl | rfl | rfl
    · have hc : ¬ cap = 0 := by omega
      have hi := idx0
      rw [show froms 0 = 0 from rfl]
      have hc2 : ((2 : Nat) : Int) ≤ (cap : Int) := by omega
      have hcall := get_n wr (some ⟨c, o, none⟩) 2 cap (seg l 0 2) (by rw [seg_length (by rw [HL.out]; decide)]) (seg_bys hl 0 2) (by rw [seg_length (by rw [HL.out]; decide)]; decide) (by rw [seg_length (by rw [HL.out]; decide)]; decide) (hAr.held 0 2 cap (by rw [HL.out]; decide))
      have HN : Hid (Nums wr (w.heap.size + 1) 0 0 0 0 0) := hyd (by simpa [upk] using a1)
      have HT := hyd a2
      have HG := hyd a3
      clear hAr a1 a2 a3
      go_wp2_with fail
      refine hcall.mono ?_
      rintro e w2 ⟨rfl, G2⟩
      have N2 := HN.out.chg G2 (fun e => e)
      obtain ⟨⟨k0, k1, k2, k3, k4⟩, kf⟩ := N2.cells
      have HN3 : Hid (Nums (w2.setCell ⟨w.heap.size + 1, 0, none⟩ (.int .u64 (fld l 0 2 : Nat))) (w.heap.size + 1) (fld l 0 2) 0 0 0 0) := hyd (N2.set0 _)
      have HT3 : Hid (Tg (w2.setCell ⟨w.heap.size + 1, 0, none⟩ (.int .u64 (fld l 0 2 : Nat))) w.heap.size 0 0 0 0 false) := hyd ((HT.out.chg G2 (fun e => e)).setOther (by omega) _ _)
      have HG3 : Hid (Chg (fun _ => False) w (w2.setCell ⟨w.heap.size + 1, 0, none⟩ (.int .u64 (fld l 0 2 : Nat)))) := hyd ((HG.out.trans G2).setCell (Or.inr (by omega)) _ _)
      have hf := kf 0
      clear hcall N2 G2 kf HN HT HG
      rw [show le (seg l 0 2) = fld l 0 2 from rfl]
      go_wp2
      exact ⟨⟨1, by decide, rfl, rfl, by simpa [upk] using HN3.out, HT3.out, HG3.out⟩, by simp [intOf]⟩
    · have hc : ¬ cap = 2 := by omega
      have hi := idx1
      rw [show froms 1 = 2 from rfl]
      have hc2 : ((3 : Nat) : Int) ≤ (cap : Int) := by omega
      have hcall := get_n wr (some ⟨c, o + 2, none⟩) 1 (cap - 2) (seg l 2 1) (by rw [seg_length (by rw [HL.out]; decide)]) (seg_bys hl 2 1) (by rw [seg_length (by rw [HL.out]; decide)]; decide) (by rw [seg_length (by rw [HL.out]; decide)]; decide) (hAr.held 2 1 (cap - 2) (by rw [HL.out]; decide))
      have HN : Hid (Nums wr (w.heap.size + 1) (fld l 0 2) 0 0 0 0) := hyd (by simpa [upk] using a1)
      have HT := hyd a2
      have HG := hyd a3
      clear hAr a1 a2 a3
      go_wp2_with fail
      refine hcall.mono ?_
      rintro e w2 ⟨rfl, G2⟩
      have N2 := HN.out.chg G2 (fun e => e)
      obtain ⟨⟨k0, k1, k2, k3, k4⟩, kf⟩ := N2.cells
      have HN3 : Hid (Nums (w2.setCell ⟨w.heap.size + 1, 1, none⟩ (.int .u64 (fld l 2 1 : Nat))) (w.heap.size + 1) (fld l 0 2) (fld l 2 1) 0 0 0) := hyd (N2.set1 _)
      have HT3 : Hid (Tg (w2.setCell ⟨w.heap.size + 1, 1, none⟩ (.int .u64 (fld l 2 1 : Nat))) w.heap.size 0 0 0 0 false) := hyd ((HT.out.chg G2 (fun e => e)).setOther (by omega) _ _)
      have HG3 : Hid (Chg (fun _ => False) w (w2.setCell ⟨w.heap.size + 1, 1, none⟩ (.int .u64 (fld l 2 1 : Nat)))) := hyd ((HG.out.trans G2).setCell (Or.inr (by omega)) _ _)
      have hf := kf 1
      clear hcall N2 G2 kf HN HT HG
      rw [show le (seg l 2 1) = fld l 2 1 from rfl]
      go_wp2
      exact ⟨⟨2, by decide, rfl, rfl, by simpa [upk] using HN3.out, HT3.out, HG3.out⟩, by simp [intOf]⟩
    · have hc : ¬ cap = 3 := by omega
      have hi := idx2
      rw [show froms 2 = 3 from rfl]
      have hc2 : ((8 : Nat) : Int) ≤ (cap : Int) := by omega
      have hcall := get_n wr (some ⟨c, o + 3, none⟩) 5 (cap - 3) (seg l 3 5) (by rw [seg_length (by rw [HL.out]; decide)]) (seg_bys hl 3 5) (by rw [seg_length (by rw [HL.out]; decide)]; decide) (by rw [seg_length (by rw [HL.out]; decide)]; decide) (hAr.held 3 5 (cap - 3) (by rw [HL.out]; decide))
      have HN : Hid (Nums wr (w.heap.size + 1) (fld l 0 2) (fld l 2 1) 0 0 0) := hyd (by simpa [upk] using a1)
      have HT := hyd a2
      have HG := hyd a3
      clear hAr a1 a2 a3
      go_wp2_with fail
      refine hcall.mono ?_
      rintro e w2 ⟨rfl, G2⟩
      have N2 := HN.out.chg G2 (fun e => e)
      obtain ⟨⟨k0, k1, k2, k3, k4⟩, kf⟩ := N2.cells
      have HN3 : Hid (Nums (w2.setCell ⟨w.heap.size + 1, 2, none⟩ (.int .u64 (fld l 3 5 : Nat))) (w.heap.size + 1) (fld l 0 2) (fld l 2 1) (fld l 3 5) 0 0) := hyd (N2.set2 _)
      have HT3 : Hid (Tg (w2.setCell ⟨w.heap.size + 1, 2, none⟩ (.int .u64 (fld l 3 5 : Nat))) w.heap.size 0 0 0 0 false) := hyd ((HT.out.chg G2 (fun e => e)).setOther (by omega) _ _)
      have HG3 : Hid (Chg (fun _ => False) w (w2.setCell ⟨w.heap.size + 1, 2, none⟩ (.int .u64 (fld l 3 5 : Nat)))) := hyd ((HG.out.trans G2).setCell (Or.inr (by omega)) _ _)
      have hf := kf 2
      clear hcall N2 G2 kf HN HT HG
      rw [show le (seg l 3 5) = fld l 3 5 from rfl]
      go_wp2
      exact ⟨⟨3, by decide, rfl, rfl, by simpa [upk] using HN3.out, HT3.out, HG3.out⟩, by simp [intOf]⟩
    · have hc : ¬ cap = 8 := by omega
      have hi := idx3
      rw [show froms 3 = 8 from rfl]
      have hc2 : ((9 : Nat) : Int) ≤ (cap : Int) := by omega
      have hcall := get_n wr (some ⟨c, o + 8, none⟩) 1 (cap - 8) (seg l 8 1) (by rw [seg_length (by rw [HL.out]; decide)]) (seg_bys hl 8 1) (by rw [seg_length (by rw [HL.out]; decide)]; decide) (by rw [seg_length (by rw [HL.out]; decide)]; decide) (hAr.held 8 1 (cap - 8) (by rw [HL.out]; decide))
      have HN : Hid (Nums wr (w.heap.size + 1) (fld l 0 2) (fld l 2 1) (fld l 3 5) 0 0) := hyd (by simpa [upk] using a1)
      have HT := hyd a2
      have HG := hyd a3
      clear hAr a1 a2 a3
      go_wp2_with fail
      refine hcall.mono ?_
      rintro e w2 ⟨rfl, G2⟩
      have N2 := HN.out.chg G2 (fun e => e)
      obtain ⟨⟨k0, k1, k2, k3, k4⟩, kf⟩ := N2.cells
      have HN3 : Hid (Nums (w2.setCell ⟨w.heap.size + 1, 3, none⟩ (.int .u64 (fld l 8 1 : Nat))) (w.heap.size + 1) (fld l 0 2) (fld l 2 1) (fld l 3 5) (fld l 8 1) 0) := hyd (N2.set3 _)
      have HT3 : Hid (Tg (w2.setCell ⟨w.heap.size + 1, 3, none⟩ (.int .u64 (fld l 8 1 : Nat))) w.heap.size 0 0 0 0 false) := hyd ((HT.out.chg G2 (fun e => e)).setOther (by omega) _ _)
      have HG3 : Hid (Chg (fun _ => False) w (w2.setCell ⟨w.heap.size + 1, 3, none⟩ (.int .u64 (fld l 8 1 : Nat)))) := hyd ((HG.out.trans G2).setCell (Or.inr (by omega)) _ _)
      have hf := kf 3
      clear hcall N2 G2 kf HN HT HG
      rw [show le (seg l 8 1) = fld l 8 1 from rfl]
      go_wp2
      exact ⟨⟨4, by decide, rfl, rfl, by simpa [upk] using HN3.out, HT3.out, HG3.out⟩, by simp [intOf]⟩
    · have hc : ¬ cap = 9 := by omega
      have hi := idx4
      rw [show froms 4 = 9 from rfl]
      have hc2 : ((10 : Nat) : Int) ≤ (cap : Int) := by omega
      have hcall := get_n wr (some ⟨c, o + 9, none⟩) 1 (cap - 9) (seg l 9 1) (by rw [seg_length (by rw [HL.out]; decide)]) (seg_bys hl 9 1) (by rw [seg_length (by rw [HL.out]; decide)]; decide) (by rw [seg_length (by rw [HL.out]; decide)]; decide) (hAr.held 9 1 (cap - 9) (by rw [HL.out]; decide))
      have HN : Hid (Nums wr (w.heap.size + 1) (fld l 0 2) (fld l 2 1) (fld l 3 5) (fld l 8 1) 0) := hyd (by simpa [upk] using a1)
      have HT := hyd a2
      have HG := hyd a3
      clear hAr a1 a2 a3
      go_wp2_with fail
      refine hcall.mono ?_
      rintro e w2 ⟨rfl, G2⟩
      have N2 := HN.out.chg G2 (fun e => e)
      obtain ⟨⟨k0, k1, k2, k3, k4⟩, kf⟩ := N2.cells
      have HN3 : Hid (Nums (w2.setCell ⟨w.heap.size + 1, 4, none⟩ (.int .u64 (fld l 9 1 : Nat))) (w.heap.size + 1) (fld l 0 2) (fld l 2 1) (fld l 3 5) (fld l 8 1) (fld l 9 1)) := hyd (N2.set4 _)
      have HT3 : Hid (Tg (w2.setCell ⟨w.heap.size + 1, 4, none⟩ (.int .u64 (fld l 9 1 : Nat))) w.heap.size 0 0 0 0 false) := hyd ((HT.out.chg G2 (fun e => e)).setOther (by omega) _ _)
      have HG3 : Hid (Chg (fun _ => False) w (w2.setCell ⟨w.heap.size + 1, 4, none⟩ (.int .u64 (fld l 9 1 : Nat)))) := hyd ((HG.out.trans G2).setCell (Or.inr (by omega)) _ _)
      have hf := kf 4
      clear hcall N2 G2 kf HN HT HG
      rw [show le (seg l 9 1) = fld l 9 1 from rfl]
      go_wp2
      exact ⟨⟨5, by decide, rfl, rfl, by simpa [upk] using HN3.out, HT3.out, HG3.out⟩, by simp [intOf]⟩
    · have HN : Hid (Nums wr (w.heap.size + 1) (fld l 0 2) (fld l 2 1) (fld l 3 5) (fld l 8 1) (fld l 9 1)) := hyd (by simpa [upk] using a1)
      obtain ⟨⟨k0, k1, k2, k3, k4⟩, -⟩ := HN.out.cells
      have HT := hyd a2
      have HG := hyd a3
      clear hAr a1 a2 a3
      go_wp2_with (refine wpList_store_tag rfl (.tmp 2) (.tmp 51) rfl w.heap.size rfl rfl HT.out ?_)
      intro w3 T3 G3
      have HT3 := hyd T3
      have HG3 : Hid (Chg (fun _ => False) w w3) := hyd (HG.out.trans' G3 (fun i hi ht => by omega))
      clear T3 G3
      go_wp2
      refine bodyPost_ret (results_tag rfl _ rfl HT3.out) rfl ?_
      exact ⟨rfl, HG3.out⟩
end Go.Proofs.Ytgipkdkhgdaeiaa
