/-
  What media reads a page as: the damage of its codewords, its tag, the whole. Conditions: the media stands whole, the page has 256 bytes.
-/
import Derived.Test.YtifjmilegogbaaaGreatUMedL
import Derived.Deep.MidRow
import Derived.Deep.RegionHeld3
namespace Go.Proofs.YtifjmilegogbaaaGreat
open Go.RowKit
set_option maxRecDepth 100000

/-- A media: its chip's block, its frame's blocks, how many pages it has read. -/
def Med (w : World) (m g p q b : Nat) (r : Int) : Prop := w.heap[m]? = some (.cells #[.pointer (some ⟨g, 0, none⟩), .pointer (some ⟨p, 0, none⟩), .int .i64 r] 115) ∧ Frm w p q b
theorem Med.lt {w : World} {m g p q b : Nat} {r : Int} (h : Med w m g p q b r) : m < w.heap.size := (Array.getElem?_eq_some_iff.1 h.1).1
theorem Med.cells {w : World} {m g p q b : Nat} {r : Int} (h : Med w m g p q b r) : w.cell? ⟨m, 0, none⟩ = some (.pointer (some ⟨g, 0, none⟩)) ∧ w.cell? ⟨m, 1, none⟩ = some (.pointer (some ⟨p, 0, none⟩)) ∧ w.cell? ⟨m, 2, none⟩ = some (.int .i64 r) := by
  refine ⟨?_, ?_, ?_⟩ <;> simp [World.cell?, h.1]
theorem Med.mb {w : World} {m g p q b : Nat} {r : Int} (h : Med w m g p q b r) : m ≠ b := by
  intro e
  obtain ⟨c, z, hc, -⟩ := fld_heap h.2.1.1
  have h2 := h.1
  rw [e, hc] at h2
  simp at h2
theorem Med.but {w w' : World} {m g p q b : Nat} {r : Int} (h : Med w m g p q b r) (hF : Frm w' p q b) (hB : But b w w') : Med w' m g p q b r := ⟨(hB.block m h.lt h.mb).trans h.1, hF⟩
theorem Med.chg {w w' : World} {m g p q b : Nat} {r : Int} (h : Med w m g p q b r) (hc : Chg (fun _ => False) w w') : Med w' m g p q b r := ⟨(hc.block m h.lt (fun f => f)).trans h.1, h.2.chg hc⟩
theorem Med.lts {w : World} {m g p q b : Nat} {r : Int} (h : Med w m g p q b r) : m < w.heap.size ∧ p < w.heap.size ∧ q < w.heap.size ∧ b < w.heap.size := ⟨h.lt, h.2.lt, h.2.1.lt, h.2.1.1.lt⟩
theorem Med.far {S : Nat → Prop} {w w' : World} {m g p q b : Nat} {r : Int} (h : Med w m g p q b r) (hc : Chg S w w') (hm : ¬ S m) (hp : ¬ S p) (hq : ¬ S q) (hb : ¬ S b) : Med w' m g p q b r :=
  ⟨(hc.block m h.lt hm).trans h.1, h.2.other (hc.block b h.2.1.1.lt hb) (hc.block q h.2.1.lt hq) (hc.block p h.2.lt hp)⟩
theorem But.fresh {b k : Nat} {u w w' : World} (h : But b u w) (hc : Chg (· = k) w w') (hk : u.heap.size ≤ k) : But b u w' :=
  ⟨hc.os.trans h.os, hc.tape.trans h.tape, hc.output.trans h.output, Nat.le_trans h.size hc.size, fun i hi hb => (hc.block i (Nat.lt_of_lt_of_le hi h.size) (by omega)).trans (h.block i hi hb)⟩
theorem errV_no {c : Nat} (h : c ≠ 0) : errV c = .iface 58 (.int .i64 (c : Int)) := if_neg h
theorem neq_errV {c : Nat} (hc : IsCode c) (h : c ≠ 0) (w : World) : (binOp .neq 32 (.iface 58 (.int .i64 (c : Int))) .nilIface).run Tryz.prog w = .ok (.bool true) w := by
  rcases hc with rfl | rfl | rfl | rfl
  · exact absurd rfl h
  · exact neq_arg_nil w
  · exact neq_dec_nil w
  · exact neq_mark_nil w
theorem eql_errV {c : Nat} (hc : IsCode c) (h : c ≠ 0) (w : World) : (binOp .eql 32 (.iface 58 (.int .i64 (c : Int))) .nilIface).run Tryz.prog w = .ok (.bool false) w := by
  rcases hc with rfl | rfl | rfl | rfl
  · exact absurd rfl h
  · exact eql_arg_nil w
  · exact eql_dec_nil w
  · exact eql_mark_nil w
theorem errV_zero : errV 0 = .nilIface := rfl

/-- Block k holds a page as it was read. -/
def Pb (w : World) (k : Nat) (t : Bool) (p o s c : Int) (l sd : Bool) (v : Value) (d : Int) : Prop := w.heap[k]? = some (.cells #[.bool t, .int .i64 p, .int .i64 o, .int .i64 s, .int .i64 c, .bool l, .bool sd, v, .int .i64 d] 65)
theorem Pb.new (w : World) (t : Bool) (p o s c : Int) (l sd : Bool) (v : Value) (d : Int) : Pb (w.alloc (.cells #[.bool t, .int .i64 p, .int .i64 o, .int .i64 s, .int .i64 c, .bool l, .bool sd, v, .int .i64 d] 65)) w.heap.size t p o s c l sd v d := by
  show (w.heap.push _)[w.heap.size]? = _
  simp
theorem Pb.lt {w : World} {k : Nat} {t : Bool} {p o s c : Int} {l sd : Bool} {v : Value} {d : Int} (h : Pb w k t p o s c l sd v d) : k < w.heap.size := (Array.getElem?_eq_some_iff.1 (show w.heap[k]? = some _ from h)).1
theorem Pb.chg {S : Nat → Prop} {w w' : World} {k : Nat} {t : Bool} {p o s c : Int} {l sd : Bool} {v : Value} {d : Int} (h : Pb w k t p o s c l sd v d) (hc : Chg S w w') (hk : ¬ S k) : Pb w' k t p o s c l sd v d := (hc.block k h.lt hk).trans h
theorem Pb.alloc {w : World} {k : Nat} {t : Bool} {p o s c : Int} {l sd : Bool} {v : Value} {d : Int} (h : Pb w k t p o s c l sd v d) (x : Obj) : Pb (w.alloc x) k t p o s c l sd v d := (Below.heap_alloc _ _ _ h.lt).trans h
theorem Pb.cells {w : World} {k : Nat} {t : Bool} {p o s c : Int} {l sd : Bool} {v : Value} {d : Int} (h : Pb w k t p o s c l sd v d) :
    w.cell? ⟨k, 0, none⟩ = some (.bool t) ∧ w.cell? ⟨k, 1, none⟩ = some (.int .i64 p) ∧ w.cell? ⟨k, 2, none⟩ = some (.int .i64 o) ∧ w.cell? ⟨k, 3, none⟩ = some (.int .i64 s) ∧ w.cell? ⟨k, 4, none⟩ = some (.int .i64 c) ∧ w.cell? ⟨k, 5, none⟩ = some (.bool l) ∧ w.cell? ⟨k, 6, none⟩ = some (.bool sd) ∧ w.cell? ⟨k, 7, none⟩ = some v ∧ w.cell? ⟨k, 8, none⟩ = some (.int .i64 d) := by
  have h' : w.heap[k]? = some _ := h
  refine ⟨?_, ?_, ?_, ?_, ?_, ?_, ?_, ?_, ?_⟩ <;> simp [World.cell?, h']
theorem Pb.frozen {w : World} {k : Nat} {t : Bool} {p o s c : Int} {l sd : Bool} {v : Value} {d : Int} (h : Pb w k t p o s c l sd v d) (i : Nat) : w.frozen? ⟨k, i, none⟩ = false := by
  have h' : w.heap[k]? = some _ := h
  simp [World.frozen?, h']
theorem Pb.set0 {w : World} {k : Nat} {t : Bool} {p o s c : Int} {l sd : Bool} {v : Value} {d : Int} (h : Pb w k t p o s c l sd v d) (t' : Bool) : Pb (w.setCell ⟨k, 0, none⟩ (.bool t')) k t' p o s c l sd v d := heap_setCell_same w k 0 _ 65 _ h
theorem Pb.set1 {w : World} {k : Nat} {t : Bool} {p o s c : Int} {l sd : Bool} {v : Value} {d : Int} (h : Pb w k t p o s c l sd v d) (p' : Int) : Pb (w.setCell ⟨k, 1, none⟩ (.int .i64 p')) k t p' o s c l sd v d := heap_setCell_same w k 1 _ 65 _ h
theorem Pb.set2 {w : World} {k : Nat} {t : Bool} {p o s c : Int} {l sd : Bool} {v : Value} {d : Int} (h : Pb w k t p o s c l sd v d) (o' : Int) : Pb (w.setCell ⟨k, 2, none⟩ (.int .i64 o')) k t p o' s c l sd v d := heap_setCell_same w k 2 _ 65 _ h
theorem Pb.set3 {w : World} {k : Nat} {t : Bool} {p o s c : Int} {l sd : Bool} {v : Value} {d : Int} (h : Pb w k t p o s c l sd v d) (s' : Int) : Pb (w.setCell ⟨k, 3, none⟩ (.int .i64 s')) k t p o s' c l sd v d := heap_setCell_same w k 3 _ 65 _ h
theorem Pb.set4 {w : World} {k : Nat} {t : Bool} {p o s c : Int} {l sd : Bool} {v : Value} {d : Int} (h : Pb w k t p o s c l sd v d) (c' : Int) : Pb (w.setCell ⟨k, 4, none⟩ (.int .i64 c')) k t p o s c' l sd v d := heap_setCell_same w k 4 _ 65 _ h
theorem Pb.set5 {w : World} {k : Nat} {t : Bool} {p o s c : Int} {l sd : Bool} {v : Value} {d : Int} (h : Pb w k t p o s c l sd v d) (l' : Bool) : Pb (w.setCell ⟨k, 5, none⟩ (.bool l')) k t p o s c l' sd v d := heap_setCell_same w k 5 _ 65 _ h
theorem Pb.set6 {w : World} {k : Nat} {t : Bool} {p o s c : Int} {l sd : Bool} {v : Value} {d : Int} (h : Pb w k t p o s c l sd v d) (sd' : Bool) : Pb (w.setCell ⟨k, 6, none⟩ (.bool sd')) k t p o s c l sd' v d := heap_setCell_same w k 6 _ 65 _ h
theorem Pb.set7 {w : World} {k : Nat} {t : Bool} {p o s c : Int} {l sd : Bool} {v : Value} {d : Int} (h : Pb w k t p o s c l sd v d) (v' : Value) : Pb (w.setCell ⟨k, 7, none⟩ v') k t p o s c l sd v' d := heap_setCell_same w k 7 _ 65 _ h
theorem Pb.set8 {w : World} {k : Nat} {t : Bool} {p o s c : Int} {l sd : Bool} {v : Value} {d : Int} (h : Pb w k t p o s c l sd v d) (d' : Int) : Pb (w.setCell ⟨k, 8, none⟩ (.int .i64 d')) k t p o s c l sd v d' := heap_setCell_same w k 8 _ 65 _ h
theorem Pb.tag {w : World} {k : Nat} {t : Bool} {p o s c : Int} {l sd : Bool} {v : Value} {d : Int} (h : Pb w k t p o s c l sd v d) (p' o' s' c' : Int) (l' : Bool) : Pb (w.setCells k 1 [.int .i64 p', .int .i64 o', .int .i64 s', .int .i64 c', .bool l']) k t p' o' s' c' l' sd v d :=
  ((((h.set1 p').set2 o').set3 s').set4 c').set5 l'
theorem chg_pg {S : Nat → Prop} {u w : World} {k : Nat} (h : Chg S u w) (hk : S k ∨ u.heap.size ≤ k) (vs : List Value) : Chg S u (w.setCells k 1 vs) := Chg.setCells hk vs 1 h
theorem size65 : (Tryz.prog.info? 65).map (·.size) = some 9 := by kernel_rfl
theorem wpList_load_pg {ops : Array Oper} {rest : List Oper} {o : Oper} {a : Act} {w : World} {Q : Exit → Act → World → Prop} (hgd : o.guard = none) (x : Operand) (ho : o.op = .load 65 x)
    (g : Nat) (hx : a.eval x = .pointer (some ⟨g, 0, none⟩)) {t : Bool} {p of s c : Int} {l sd : Bool} {v : Value} {d : Int} (hg : Pb w g t p of s c l sd v d)
    (h : wpList Tryz.prog ops Q rest (a.put o.dst (.agg #[.bool t, .int .i64 p, .int .i64 of, .int .i64 s, .int .i64 c, .bool l, .bool sd, v, .int .i64 d])) w) : wpList Tryz.prog ops Q (o :: rest) a w :=
  wpList_load_row hgd 65 x ho g hx 65 _ _ _ hg Tryz.underlying65 rfl size65 h
theorem wpList_store_pg {ops : Array Oper} {rest : List Oper} {o : Oper} {a : Act} {w : World} {Q : Exit → Act → World → Prop} (hgd : o.guard = none) (x y : Operand) (ho : o.op = .store 65 x y)
    (g : Nat) (hx : a.eval x = .pointer (some ⟨g, 0, none⟩)) {t : Bool} {p of s c : Int} {l sd : Bool} {v : Value} {d : Int} (hy : a.eval y = .agg #[.bool t, .int .i64 p, .int .i64 of, .int .i64 s, .int .i64 c, .bool l, .bool sd, v, .int .i64 d]) (hv : v.oneCell' = true)
    {t' : Bool} {p' o' s' c' : Int} {l' sd' : Bool} {v' : Value} {d' : Int} (hg : Pb w g t' p' o' s' c' l' sd' v' d')
    (h : ∀ w', Pb w' g t p of s c l sd v d → Chg (· = g) w w' → wpList Tryz.prog ops Q rest (a.put o.dst undef) w') : wpList Tryz.prog ops Q (o :: rest) a w :=
  wpList_store_row hgd 65 x y ho g _ hx hy 65 _ hg size65 rfl (by simp [hv]; simp [Value.oneCell']) (h _ (setRow_heap w g _ _ 65 _ hg) ⟨rfl, rfl, rfl, by simp, fun k _ hk => setRow_other _ _ _ _ hk⟩)
theorem Pb.there {w : World} {k : Nat} {t : Bool} {p o s c : Int} {l sd : Bool} {v : Value} {d : Int} (h : Pb w k t p o s c l sd v d) : w.there k 1 5 := fun j hj => by
  obtain ⟨-, h1, h2, h3, h4, h5, -⟩ := h.cells
  refine ⟨?_, h.frozen _⟩
  rcases (by omega : j = 0 ∨ j = 1 ∨ j = 2 ∨ j = 3 ∨ j = 4) with rfl | rfl | rfl | rfl | rfl
  · rw [h1]; rfl
  · rw [h2]; rfl
  · rw [h3]; rfl
  · rw [h4]; rfl
  · rw [h5]; rfl
/-- The tag of a page is stored. -/
theorem wpList_store_pgt {ops : Array Oper} {rest : List Oper} {o : Oper} {a : Act} {w : World} {Q : Exit → Act → World → Prop} (hgd : o.guard = none) (x y : Operand) (ho : o.op = .store 28 x y)
    (g : Nat) (hx : a.eval x = .pointer (some ⟨g, 1, none⟩)) {p of s c : Int} {l : Bool} (hy : a.eval y = .agg #[.int .i64 p, .int .i64 of, .int .i64 s, .int .i64 c, .bool l])
    {t : Bool} {p' o' s' c' : Int} {l' sd : Bool} {v : Value} {d : Int} (hg : Pb w g t p' o' s' c' l' sd v d)
    (h : ∀ w', Pb w' g t p of s c l sd v d → Chg (· = g) w w' → wpList Tryz.prog ops Q rest (a.put o.dst undef) w') : wpList Tryz.prog ops Q (o :: rest) a w :=
  wpList_store_mid hgd 28 x y ho g 1 _ hx hy hg.there size23 (by simp [Value.oneCell']) (h _ (hg.tag p of s c l) (chg_pg (S := (· = g)) (Chg.refl _ w) (Or.inl rfl) _))
theorem results_pg {fn : Func} {q : Tmp} (h : fn.results = #[.cell q 65]) (tmps : Array Value) {w : World} {g : Nat} {t : Bool} {p o s c : Int} {l sd : Bool} {v : Value} {d : Int} (hp : tmps.getD q undef = .pointer (some ⟨g, 0, none⟩)) (hT : Pb w g t p o s c l sd v d) :
    (results fn tmps).run Tryz.prog w = .ok (.agg #[.bool t, .int .i64 p, .int .i64 o, .int .i64 s, .int .i64 c, .bool l, .bool sd, v, .int .i64 d]) w :=
  results_cell_row h tmps w g 65 _ _ _ hp hT Tryz.underlying65 rfl size65
theorem results_pg2 {fn : Func} {q u : Tmp} (h : fn.results = #[.cell q 65, .tmp u]) (tmps : Array Value) {w : World} {g : Nat} {t : Bool} {p o s c : Int} {l sd : Bool} {v : Value} {d : Int} (hp : tmps.getD q undef = .pointer (some ⟨g, 0, none⟩)) (hT : Pb w g t p o s c l sd v d) :
    (results fn tmps).run Tryz.prog w = .ok (.tuple #[.agg #[.bool t, .int .i64 p, .int .i64 o, .int .i64 s, .int .i64 c, .bool l, .bool sd, v, .int .i64 d], tmps.getD u undef]) w := by
  rw [results_cell_tmp h, hp]
  simp [asAddr, run_loadVar_row w g 65 65 _ _ _ hT Tryz.underlying65 rfl size65]
/-- A page as it was read, as a value: its data are v. -/
def pgV (g : Pg) (v : Value) : Value := .agg #[.bool g.tagged, .int .i64 g.p, .int .i64 g.o, .int .i64 g.s, .int .i64 g.c, .bool g.l, .bool g.sound, v, .int .i64 g.dmg]

set_option maxHeartbeats 4000000 in
theorem mdamage_any (m g p q b : Nat) (r : Int) (w : World) (h : Med w m g p q b r) (c o cap : Nat) (L : List Nat) (hL : L.length = 256) (bL : Bys L) (hcb : c ≠ b) (hcs : c < w.heap.size) (hcap : 256 ≤ cap) (hh : Held w (.slice (some ⟨c, o, none⟩) 256 cap) L) :
    Calls Tryz.prog 79 #[.pointer (some ⟨m, 0, none⟩), .slice (some ⟨c, o, none⟩) 256 cap] w fun e w' => ∃ d : Nat, e = .returned (.int .i64 d) ∧ DmgR L d ∧ Med w' m g p q b r ∧ But b w w' := by
  have HH := hyd hh
  have HL := hyd hL
  have HM := hyd h
  clear hh hL h
  go_enter Tryz.func79, Tryz.ntmps79
  go_wp2_with fail
  go_loopw [5, 10] (fun t5 t10 wr => ∃ (k : Nat) (R : Nat → List Nat) (d e : Nat → Nat), k ≤ 4 ∧ t10 = .int .i64 k ∧ t5 = .int .i64 (dmgs d e k : Nat) ∧ (∀ j, j < k → MsgR L (j : Nat) (R j) (d j) (e j)) ∧ Med wr m g p q b r ∧ But b w wr) (fun _ t10 _ => 4 - (intOf t10).toNat)
  case atStart => exact ⟨0, fun _ => [], fun _ => 0, fun _ => 0, by omega, rfl, rfl, fun j hj => absurd hj (by omega), HM.out, But.refl _ _⟩
  case round =>
    obtain ⟨k, R, d, e, hk, rfl, rfl, hR, hM, hB⟩ := hrel
    by_cases hlt : k < 4
    · have hlt' : (k : Int) < 4 := by omega
      obtain ⟨c0, c1, c2⟩ := hM.cells
      have hHx := HH.out.chg hB.chg (fun k _ he e => hcb ((Option.some.inj he).trans e))
      have hsx := hB.size
      have hcall := message_v p q b wr hM.2 c o 256 cap L HL.out.symm bL hcb (by omega) hcap hHx (k : Nat)
      have HR := hyd hR
      have HMx := hyd hM
      have HBx := hyd hB
      clear hR hM hB hHx
      go_wp2_with fail
      refine hcall.mono ?_
      rintro x w2 ⟨⟨a, n, cp, R2, d2, e2, rfl, -, hm, -⟩, hF2, hB2⟩
      clear hcall
      have HM2 := hyd (HMx.out.but hF2 hB2)
      have HB2 := hyd (HBx.out.trans hB2)
      have hcode := hm.code
      have hR2 : ∀ j, j < k + 1 → MsgR L (j : Nat) (if j = k then R2 else R j) (if j = k then d2 else d j) (if j = k then e2 else e j) := by
        intro j hj
        by_cases ej : j = k
        · subst ej
          rw [if_pos rfl, if_pos rfl, if_pos rfl]
          exact hm
        · rw [if_neg ej, if_neg ej, if_neg ej]
          exact HR.out j (by omega)
      have hd0 : dmgs (fun j => if j = k then d2 else d j) (fun j => if j = k then e2 else e j) k = dmgs d e k := dmgs_congr k (fun j hj => ⟨by rw [if_neg (by omega)], by rw [if_neg (by omega)]⟩)
      have hd1 : dmgs (fun j => if j = k then d2 else d j) (fun j => if j = k then e2 else e j) (k + 1) = if e2 = 0 then max (dmgs d e k) d2 else dmgs d e k := by
        show (if (if k = k then e2 else e k) = 0 then max (dmgs _ _ k) (if k = k then d2 else d k) else dmgs _ _ k) = _
        rw [hd0, if_pos rfl, if_pos rfl]
      have HR2 := hyd hR2
      have HD1 := hyd hd1
      have q1 := eql_nil_nil
      by_cases he : e2 = 0
      · subst he
        rw [if_pos rfl] at HD1
        clear hd1 hd0 hR2 hm hF2 hB2 HMx HBx hcode
        rw [errV_zero]
        go_wp2
        exact ⟨⟨k + 1, _, _, _, by omega, by go_num, by rw [HD1.out]; go_num, HR2.out, HM2.out, HB2.out⟩, by simp [intOf]; omega⟩
      · have q2 := eql_errV hcode.1 he
        rw [if_neg he] at HD1
        rw [errV_no he]
        clear hd1 hd0 hR2 hm hF2 hB2 HMx HBx hcode
        go_wp2
        exact ⟨⟨k + 1, _, _, _, by omega, by go_num, by rw [HD1.out], HR2.out, HM2.out, HB2.out⟩, by simp [intOf]; omega⟩
    · obtain rfl : k = 4 := by omega
      have HR := hyd hR
      clear hR
      go_wp2
      go_ret
      exact ⟨_, rfl, ⟨R, d, e, HR.out, rfl⟩, hM, hB⟩
end Go.Proofs.YtifjmilegogbaaaGreat
