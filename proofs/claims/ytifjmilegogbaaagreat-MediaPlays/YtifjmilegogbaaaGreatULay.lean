/-
  (*Frame).Lay. Condition: the block holds a Frame that New gave; the bytes can be read.
-/
import Derived.Test.YtifjmilegogbaaaGreatUData
import Derived.Test.YtifjmilegogbaaaGreatUSeal
namespace Go.Proofs.YtifjmilegogbaaaGreat
open Go.RowKit Go.Shelf
set_option maxRecDepth 100000
attribute [local go_sem] Oper.semAt_some

/-- A chunk, as a slice of its own block. -/
def slc (g : Nat) : Value := .slice (some ⟨g, 0, none⟩) 64 64
/-- The slice v is the call's own row of chunks: their blocks gs, their bytes ls. -/
structure Rowz (W : World) (base : Nat) (v : Value) (gs : List Nat) (ls : List (List Nat)) : Prop where
  row : W.ownsRow base 55 1 v gs.length (gs.map slc)
  len : ls.length = gs.length
  arr : ∀ j, j < gs.length → Arr W (gs.getD j 0) 5 (ls.getD j [])
  nd : gs.Nodup
  off : ∀ k, v.ownBlock = some k → k ∉ gs
  low : ∀ g ∈ gs, base ≤ g
theorem Rowz.mem_lt {W : World} {base : Nat} {v : Value} {gs : List Nat} {ls : List (List Nat)} (h : Rowz W base v gs ls) {g : Nat} (hg : g ∈ gs) : g < W.heap.size := by
  obtain ⟨j, hj, rfl⟩ := List.getElem_of_mem hg
  have := (h.arr j hj).lt
  rwa [List.getD_eq_getElem?_getD, List.getElem?_eq_getElem hj] at this
theorem ownsRow_keeps {X Y : World} {base : Nat} {e : TypeId} {z : Nat} {v : Value} {n : Nat} {xs : List Value} (h : X.ownsRow base e z v n xs) (hk : ∀ g c t, v.ownBlock = some g → X.heap[g]? = some (.cells c t) → Y.heap[g]? = X.heap[g]?) : Y.ownsRow base e z v n xs := by
  refine ⟨h.1, ?_⟩
  rcases h.2 with h1 | ⟨g, cap, cur, rfl, hb, hh, r⟩
  · exact Or.inl h1
  · exact Or.inr ⟨g, cap, cur, rfl, hb, (hk _ _ _ rfl hh).trans hh, r⟩
theorem Rowz.keeps {X Y : World} {base : Nat} {v : Value} {gs : List Nat} {ls : List (List Nat)} (h : Rowz X base v gs ls) (hk : Keeps X Y) : Rowz Y base v gs ls :=
  ⟨ownsRow_keeps h.row (fun g c t _ hh => hk g c t hh), h.len, fun j hj => (hk _ _ _ (h.arr j hj)).trans (h.arr j hj), h.nd, h.off, h.low⟩
theorem Rowz.chg {S : Nat → Prop} {X Y : World} {base : Nat} {v : Value} {gs : List Nat} {ls : List (List Nat)} (h : Rowz X base v gs ls) (hc : Chg S X Y) (hS : ∀ k, S k → v.ownBlock ≠ some k ∧ k ∉ gs) : Rowz Y base v gs ls :=
  ⟨ownsRow_keeps h.row (fun g c t e hh => hc.block g (Array.getElem?_eq_some_iff.1 hh).1 (fun s => (hS g s).1 e)), h.len, fun j hj => (h.arr j hj).chg hc (fun s => (hS _ s).2 (by rw [List.getD_eq_getElem?_getD, List.getElem?_eq_getElem hj]; exact List.getElem_mem hj)), h.nd, h.off, h.low⟩

theorem make4 (w : World) : (Instr.makeSlice 116 (.int .i64 0) (.int .i64 4)).run Tryz.prog w = .ok (.slice (some ⟨w.heap.size, 0, none⟩) 0 4) (w.alloc (.cells #[.slice none 0 0, .slice none 0 0, .slice none 0 0, .slice none 0 0] 55)) := by kernel_rfl
theorem info22_all : (Tryz.prog.info? 55).map (fun i => (i.zero, i.size, i.bytes)) = some (some (.slice none 0 0), 1, 24) := by kernel_rfl

theorem results2 {fn : Func} {p1 p2 : Tmp} (h : fn.results = #[.cell p1 116, .cell p2 32]) (tmps : Array Value) {w : World} {r1 r2 : Nat} {v1 v2 : Value} (hp1 : tmps.getD p1 undef = .pointer (some ⟨r1, 0, none⟩)) (hp2 : tmps.getD p2 undef = .pointer (some ⟨r2, 0, none⟩))
    (b1 : Boxed w r1 116 v1) (b2 : Boxed w r2 32 v2) :
    (results fn tmps).run Tryz.prog w = .ok (.tuple #[v1, v2]) w := by
  have c1 := b1.cell
  have c2 := b2.cell
  have hp1' : tmps[p1]?.getD undef = .pointer (some ⟨r1, 0, none⟩) := by simpa using hp1
  have hp2' : tmps[p2]?.getD undef = .pointer (some ⟨r2, 0, none⟩) := by simpa using hp2
  simp [results, h, hp1', hp2', go_sem, c1, c2]

set_option maxHeartbeats 1000000 in
theorem lay_data (p : Nat) (w : World) (a : Option Addr) (n cap : Nat) (hn : n ≠ 174) (bv : Value) :
    Calls Tryz.prog 76 #[.pointer (some ⟨p, 0, none⟩), .slice a n cap, bv] w fun e w' => e = .returned (.tuple #[.slice none 0 0, .iface 58 (.int .i64 1)]) ∧ Chg (fun _ => False) w w' := by
  have hn' : ((n : Int) != 174) = true := by simp; omega
  refine (callsIn_wide (n := 3)).1 ?_
  refine callsIn_of_wp_marks Tryz.func76 rfl trivial ?_ rfl
  simp only [Tryz.ntmps76, List.size_toArray, List.length_cons, List.length_nil, Nat.reduceAdd, Nat.reduceSub, Array.replicate_succ, Array.replicate_zero, List.push_toArray, List.append_toArray, List.nil_append, List.cons_append]
  gi_wp2
  refine ⟨.tuple #[.slice none 0 0, .iface 58 (.int .i64 1)], ?_, rfl, ((((Chg.refl _ _).alloc _).alloc _).alloc _)⟩
  simp [results, Tryz.f76, go_sem]
set_option maxHeartbeats 1000000 in
theorem lay_body (p : Nat) (w : World) (a : Option Addr) (cap : Nat) (a2 : Option Addr) (n2 cap2 : Nat) (hn : n2 ≠ 50) :
    Calls Tryz.prog 76 #[.pointer (some ⟨p, 0, none⟩), .slice a 174 cap, .slice a2 n2 cap2] w fun e w' => e = .returned (.tuple #[.slice none 0 0, .iface 58 (.int .i64 1)]) ∧ Chg (fun _ => False) w w' := by
  have q1 := neq_arg_nil
  refine (callsIn_wide (n := 3)).1 ?_
  refine callsIn_of_wp_marks Tryz.func76 rfl trivial ?_ rfl
  simp only [Tryz.ntmps76, List.size_toArray, List.length_cons, List.length_nil, Nat.reduceAdd, Nat.reduceSub, Array.replicate_succ, Array.replicate_zero, List.push_toArray, List.append_toArray, List.nil_append, List.cons_append]
  gi_wp2_with (refine ⟨trivial, ?_⟩; gi_at_call 107; refine (callsIn_wide.2 (seal_arg _ a2 n2 cap2 hn)).mono ?_; rintro e w' ⟨rfl, rfl⟩)
  refine ⟨.tuple #[.slice none 0 0, .iface 58 (.int .i64 1)], ?_, rfl, ((((Chg.refl _ _).alloc _).alloc _).alloc _)⟩
  simp [results, Tryz.f76, go_sem]

/-- What holds between two rounds of Lay's loop. -/
def LI (w W3 W : World) (p q b r Bx : Nat) (M : List Nat) (pre : List Ix) : Prop :=
  ∃ (v : Value) (gs : List Nat), Rowz W w.heap.size v gs (pre.map fun x => encL (part 58 M x.1)) ∧ Boxed W Bx 116 v ∧ (∀ g, v.ownBlock = some g → g = r ∨ W3.heap.size ≤ g) ∧ (∀ g ∈ gs, W3.heap.size ≤ g) ∧ Frm W p q b ∧ Chg (fun k => k = b ∨ k = r ∨ k = Bx) W3 W
theorem LI.keep {w W3 X Y : World} {p q b r Bx : Nat} {M : List Nat} {pre : List Ix} {row : Option Nat} (h : LI w W3 X p q b r Bx M pre) (hg : X.grownBy Y row) (hr : ∀ r, row = some r → W3.heap.size ≤ r ∧ ∃ o : Obj, X.heap[r]? = some o ∧ o.isCells = false) : LI w W3 Y p q b r Bx M pre := by
  obtain ⟨v, gs, h1, h2, h3, h4, h5, h6⟩ := h
  have hk := kept hg hr
  exact ⟨v, gs, h1.keeps hk, boxed_keep h2 hk, h3, h4, h5.keep hk, h6.grown hg (fun k e => Or.inr (hr k e).1)⟩
theorem nodup_snoc {gs : List Nat} {g : Nat} (h : gs.Nodup) (hg : g ∉ gs) : (gs ++ [g]).Nodup := by
  rw [List.nodup_append]
  refine ⟨h, by simp, fun a ha b hb => ?_⟩
  simp at hb
  subst hb
  exact fun e => hg (e ▸ ha)
theorem getD_snoc_lt {α : Type} (l : List α) (x d : α) (j : Nat) (h : j < l.length) : (l ++ [x]).getD j d = l.getD j d := by
  simp [List.getD_eq_getElem?_getD, List.getElem?_append_left h]
theorem getD_snoc_eq {α : Type} (l : List α) (x d : α) : (l ++ [x]).getD l.length d = x := by
  simp [List.getD_eq_getElem?_getD]
/-- A chunk more. -/
theorem Rowz.snoc {X Y : World} {base : Nat} {v v' : Value} {gs : List Nat} {ls : List (List Nat)} {g : Nat} {l : List Nat} (h : Rowz X base v gs ls) (hg : X.grownBy Y v.ownBlock) (ho : Y.ownsRow base 55 1 v' (gs.length + 1) (gs.map slc ++ [slc g])) (hat : v'.ownBlock = v.ownBlock ∨ v'.ownBlock = some X.heap.size)
    (hA : Arr X g 5 l) (hb : base ≤ g) (hn : g ∉ gs) (hv : v.ownBlock ≠ some g) : Rowz Y base v' (gs ++ [g]) (ls ++ [l]) := by
  have hk : ∀ k, k < X.heap.size → v.ownBlock ≠ some k → Y.heap[k]? = X.heap[k]? := fun k hk hv => hg.block k hk (fun e => hv e.symm)
  refine ⟨by simpa using ho, by simp [h.len], fun j hj => ?_, nodup_snoc h.nd hn, fun k hk' hm => ?_, fun g' hg' => ?_⟩
  · by_cases hj' : j < gs.length
    · rw [getD_snoc_lt _ _ _ _ hj', getD_snoc_lt _ _ _ _ (by rw [h.len]; exact hj')]
      have hA := h.arr j hj'
      exact (hk _ hA.lt (fun e => h.off _ e (by rw [List.getD_eq_getElem?_getD, List.getElem?_eq_getElem hj']; exact List.getElem_mem hj'))).trans hA
    · have e : j = gs.length := by simp at hj; omega
      subst e
      rw [getD_snoc_eq, ← h.len, getD_snoc_eq]
      exact (hk _ hA.lt hv).trans hA
  · rcases List.mem_append.1 hm with h1 | h1
    · rcases hat with h2 | h2
      · exact h.off k (by rw [← h2]; exact hk') h1
      · have := h.mem_lt h1
        rw [h2] at hk'
        have := Option.some.inj hk'
        omega
    · simp at h1
      subst h1
      rcases hat with h2 | h2
      · exact hv (by rw [← h2]; exact hk')
      · rw [h2] at hk'
        have := Option.some.inj hk'
        have := hA.lt
        omega
  · rcases List.mem_append.1 hg' with h1 | h1
    · exact h.low g' h1
    · simp at h1; subst h1; exact hb

set_option maxHeartbeats 4000000 in
theorem lay_any (p q b : Nat) (w : World) (h : Frm w p q b) (c o cap : Nat) (Dt : List Nat) (hD : Dt.length = 174) (bD : Bys Dt) (hcb : c ≠ b) (hcs : c < w.heap.size) (hcell : ∀ i, i < Dt.length → w.cell? ⟨c, o + i, none⟩ = some (.int .u8 (Dt.getD i 0 : Nat)))
    (c2 o2 cap2 : Nat) (Bd : List Nat) (hB : Bd.length = 50) (bB : Bys Bd) (hcs2 : c2 < w.heap.size) (hcell2 : ∀ i, i < Bd.length → w.cell? ⟨c2, o2 + i, none⟩ = some (.int .u8 (Bd.getD i 0 : Nat))) (MM : List Nat) (hMM : Dt ++ (Bd ++ mk) = MM) :
    Calls Tryz.prog 76 #[.pointer (some ⟨p, 0, none⟩), .slice (some ⟨c, o, none⟩) 174 cap, .slice (some ⟨c2, o2, none⟩) 50 cap2] w fun e w' => (∃ r k gs, e = .returned (.tuple #[.slice (some ⟨r, 0, none⟩) 4 k, .nilIface]) ∧ Rowz w' w.heap.size (.slice (some ⟨r, 0, none⟩) 4 k) gs ((List.range 4).map fun i => encL (part 58 MM i))) ∧ Frm w' p q b ∧ But b w w' := by
  have HC := hyd hcell
  have HC2 := hyd hcell2
  clear hcell hcell2
  have hmk := make4
  have q1 := neq_nil_nil
  have hp := h.lt
  have hbs := h.1.1.lt
  have hqs := h.1.lt
  refine (callsIn_wide (n := 3)).1 ?_
  refine callsIn_of_wp_marks Tryz.func76 rfl trivial ?_ rfl
  simp only [Tryz.ntmps76, List.size_toArray, List.length_cons, List.length_nil, Nat.reduceAdd, Nat.reduceSub, Array.replicate_succ, Array.replicate_zero, List.push_toArray, List.append_toArray, List.nil_append, List.cons_append]
  gi_wp2_with fail
  have x0 : Boxed (((w.alloc (.cells #[.pointer (some ⟨p, 0, none⟩)] 113)).alloc (.cells #[.slice none 0 0] 116)).alloc (.cells #[.nilIface] 32)) w.heap.size 113 (.pointer (some ⟨p, 0, none⟩)) := ((Boxed.new' _ (by simp) _ _).alloc _).alloc _
  have x1 : Boxed (((w.alloc (.cells #[.pointer (some ⟨p, 0, none⟩)] 113)).alloc (.cells #[.slice none 0 0] 116)).alloc (.cells #[.nilIface] 32)) (w.heap.size + 1) 116 (.slice none 0 0) := (Boxed.new' _ (by simp) _ _).alloc _
  have x2 : Boxed (((w.alloc (.cells #[.pointer (some ⟨p, 0, none⟩)] 113)).alloc (.cells #[.slice none 0 0] 116)).alloc (.cells #[.nilIface] 32)) (w.heap.size + 1 + 1) 32 .nilIface := Boxed.new' _ (by simp) _ _
  have G0 : Chg (fun _ => False) w (((w.alloc (.cells #[.pointer (some ⟨p, 0, none⟩)] 113)).alloc (.cells #[.slice none 0 0] 116)).alloc (.cells #[.nilIface] 32)) := (((Chg.refl _ _).alloc _).alloc _).alloc _
  have hs0 : (((w.alloc (.cells #[.pointer (some ⟨p, 0, none⟩)] 113)).alloc (.cells #[.slice none 0 0] 116)).alloc (.cells #[.nilIface] 32)).heap.size = w.heap.size + 3 := by simp
  generalize ((w.alloc (.cells #[.pointer (some ⟨p, 0, none⟩)] 113)).alloc (.cells #[.slice none 0 0] 116)).alloc (.cells #[.nilIface] 32) = W0 at *
  refine ⟨trivial, (callsIn_wide.2 (seal_any W0 c2 o2 cap2 Bd hB (by omega) (fun i hi => (World.cell?_of_block (w := w) (a := ⟨c2, o2 + i, none⟩) (G0.block c2 hcs2 (fun e => e))).trans (HC2.out i hi)))).mono ?_⟩
  rintro e W1 ⟨gS, rfl, hgS, AS, G1⟩
  have GG1 := G0.trans G1
  have y0 : Boxed W1 w.heap.size 113 (.pointer (some ⟨p, 0, none⟩)) := (G1.block _ x0.lt (fun e => e)).trans x0
  have y1 : Boxed W1 (w.heap.size + 1) 116 (.slice none 0 0) := (G1.block _ x1.lt (fun e => e)).trans x1
  have y2 : Boxed W1 (w.heap.size + 1 + 1) 32 .nilIface := (G1.block _ x2.lt (fun e => e)).trans x2
  have hs1 := G1.size
  clear x0 x1 x2 G0 G1
  gi_wp2_with fail
  have hl0 : ∀ i, i < Dt.length → (((W1.alloc (.cells #[.slice none 0 0, .slice none 0 0, .slice none 0 0, .slice none 0 0] 55)).alloc (.cells #[.slice (some ⟨W1.heap.size, 0, none⟩) 0 4] 116)).alloc (.cells #[.slice (some ⟨c, o, none⟩) 174 cap, .slice (some ⟨gS, 0, none⟩) 58 58] 55)).cell? ⟨c, o + i, none⟩ = some (.int .u8 (Dt.getD i 0 : Nat)) := fun i hi =>
    (World.cell?_of_block (w := w) (a := ⟨c, o + i, none⟩) (((((GG1.alloc _).alloc _).alloc _)).block c hcs (fun e => e))).trans (HC.out i hi)
  have A3 := ((AS.alloc (.cells #[.slice none 0 0, .slice none 0 0, .slice none 0 0, .slice none 0 0] 55)).alloc (.cells #[.slice (some ⟨W1.heap.size, 0, none⟩) 0 4] 116)).alloc (.cells #[.slice (some ⟨c, o, none⟩) 174 cap, .slice (some ⟨gS, 0, none⟩) 58 58] 55)
  have GA := ((GG1.alloc (.cells #[.slice none 0 0, .slice none 0 0, .slice none 0 0, .slice none 0 0] 55)).alloc (.cells #[.slice (some ⟨W1.heap.size, 0, none⟩) 0 4] 116)).alloc (.cells #[.slice (some ⟨c, o, none⟩) 174 cap, .slice (some ⟨gS, 0, none⟩) 58 58] 55)
  have u0 := ((y0.alloc (.cells #[.slice none 0 0, .slice none 0 0, .slice none 0 0, .slice none 0 0] 55)).alloc (.cells #[.slice (some ⟨W1.heap.size, 0, none⟩) 0 4] 116)).alloc (.cells #[.slice (some ⟨c, o, none⟩) 174 cap, .slice (some ⟨gS, 0, none⟩) 58 58] 55)
  have u1 := ((y1.alloc (.cells #[.slice none 0 0, .slice none 0 0, .slice none 0 0, .slice none 0 0] 55)).alloc (.cells #[.slice (some ⟨W1.heap.size, 0, none⟩) 0 4] 116)).alloc (.cells #[.slice (some ⟨c, o, none⟩) 174 cap, .slice (some ⟨gS, 0, none⟩) 58 58] 55)
  have u2 := ((y2.alloc (.cells #[.slice none 0 0, .slice none 0 0, .slice none 0 0, .slice none 0 0] 55)).alloc (.cells #[.slice (some ⟨W1.heap.size, 0, none⟩) 0 4] 116)).alloc (.cells #[.slice (some ⟨c, o, none⟩) 174 cap, .slice (some ⟨gS, 0, none⟩) 58 58] 55)
  have u3 : Boxed (((W1.alloc (.cells #[.slice none 0 0, .slice none 0 0, .slice none 0 0, .slice none 0 0] 55)).alloc (.cells #[.slice (some ⟨W1.heap.size, 0, none⟩) 0 4] 116)).alloc (.cells #[.slice (some ⟨c, o, none⟩) 174 cap, .slice (some ⟨gS, 0, none⟩) 58 58] 55)) (W1.heap.size + 1) 116 (.slice (some ⟨W1.heap.size, 0, none⟩) 0 4) := (Boxed.new' _ (by simp) _ _).alloc _
  have u4 : (((W1.alloc (.cells #[.slice none 0 0, .slice none 0 0, .slice none 0 0, .slice none 0 0] 55)).alloc (.cells #[.slice (some ⟨W1.heap.size, 0, none⟩) 0 4] 116)).alloc (.cells #[.slice (some ⟨c, o, none⟩) 174 cap, .slice (some ⟨gS, 0, none⟩) 58 58] 55)).heap[W1.heap.size]? = some (.cells #[.slice none 0 0, .slice none 0 0, .slice none 0 0, .slice none 0 0] 55) := by
    rw [Below.heap_alloc _ _ _ (by simp; omega), Below.heap_alloc _ _ _ (by simp)]
    exact World.alloc_heap_new W1 _
  have u5 : (((W1.alloc (.cells #[.slice none 0 0, .slice none 0 0, .slice none 0 0, .slice none 0 0] 55)).alloc (.cells #[.slice (some ⟨W1.heap.size, 0, none⟩) 0 4] 116)).alloc (.cells #[.slice (some ⟨c, o, none⟩) 174 cap, .slice (some ⟨gS, 0, none⟩) 58 58] 55)).heap[W1.heap.size + 1 + 1]? = some (.cells #[.slice (some ⟨c, o, none⟩) 174 cap, .slice (some ⟨gS, 0, none⟩) 58 58] 55) := by
    have := World.alloc_heap_new ((W1.alloc (.cells #[.slice none 0 0, .slice none 0 0, .slice none 0 0, .slice none 0 0] 55)).alloc (.cells #[.slice (some ⟨W1.heap.size, 0, none⟩) 0 4] 116)) (.cells #[.slice (some ⟨c, o, none⟩) 174 cap, .slice (some ⟨gS, 0, none⟩) 58 58] 55)
    simpa using this
  have hsA : (((W1.alloc (.cells #[.slice none 0 0, .slice none 0 0, .slice none 0 0, .slice none 0 0] 55)).alloc (.cells #[.slice (some ⟨W1.heap.size, 0, none⟩) 0 4] 116)).alloc (.cells #[.slice (some ⟨c, o, none⟩) 174 cap, .slice (some ⟨gS, 0, none⟩) 58 58] 55)).heap.size = W1.heap.size + 3 := by simp
  generalize ((W1.alloc (.cells #[.slice none 0 0, .slice none 0 0, .slice none 0 0, .slice none 0 0] 55)).alloc (.cells #[.slice (some ⟨W1.heap.size, 0, none⟩) 0 4] 116)).alloc (.cells #[.slice (some ⟨c, o, none⟩) 174 cap, .slice (some ⟨gS, 0, none⟩) 58 58] 55) = WA at *
  have hgSl := AS.lt
  have hSl : (Bd ++ mk).length = 58 := by rw [List.length_append, hB, mk_length]
  refine ⟨trivial, (callsIn_wide.2 (concat_any WA (W1.heap.size + 1 + 1) c o cap gS 0 58 Dt (Bd ++ mk) hD hSl u5 (by omega) (by omega) hl0 A3.at0)).mono ?_⟩
  rintro e W2 ⟨gM, kM, rfl, OM, G2⟩
  have hsz2 := G2.size
  have GB := GA.trans G2
  have v0 : Boxed W2 w.heap.size 113 (.pointer (some ⟨p, 0, none⟩)) := (G2.block _ u0.lt (fun e => e)).trans u0
  have v1 : Boxed W2 (w.heap.size + 1) 116 (.slice none 0 0) := (G2.block _ u1.lt (fun e => e)).trans u1
  have v2 : Boxed W2 (w.heap.size + 1 + 1) 32 .nilIface := (G2.block _ u2.lt (fun e => e)).trans u2
  have v3 : Boxed W2 (W1.heap.size + 1) 116 (.slice (some ⟨W1.heap.size, 0, none⟩) 0 4) := (G2.block _ u3.lt (fun e => e)).trans u3
  have v4 := (G2.block _ (show W1.heap.size < WA.heap.size by omega) (fun e => e)).trans u4
  clear u0 u1 u2 u3 u4 u5 A3 hl0 AS y0 y1 y2 GA G2 GG1
  have hMl : MM.length = 4 * 58 := by rw [← hMM, List.length_append, hD, hSl]
  have bM : Bys MM := by
    rw [← hMM]
    intro x hx
    rcases List.mem_append.1 hx with h1 | h1
    · exact bD x h1
    · rcases List.mem_append.1 h1 with h2 | h2
      · exact bB x h2
      · exact mk_bys x h2
  rw [hMM] at OM
  clear hMM
  obtain ⟨gM', kM', hvM, hgM, hgMs, hkM, cM, -⟩ := OM.lies (by omega)
  simp only [Value.slice.injEq, Option.some.injEq, Addr.mk.injEq] at hvM
  obtain ⟨⟨rfl, -, -⟩, -, rfl⟩ := hvM
  have HCM := hyd cM
  have HML := hyd hMl
  have HkM := hyd hkM
  clear cM hMl hkM OM hSl
  gi_wp2_with (refine ⟨trivial, ?_⟩; gi_at_call 108; refine (callsIn_wide.2 (parts_any _ _ _ _ 58)).mono ?_; rintro e w' ⟨rfl, rfl⟩)
  have x0 := (v0.alloc (.cells #[.slice (some ⟨gM, 0, none⟩) 232 kM] 55)).alloc (.cells #[.int .i64 58] 3)
  have x1 := (v1.alloc (.cells #[.slice (some ⟨gM, 0, none⟩) 232 kM] 55)).alloc (.cells #[.int .i64 58] 3)
  have x2 := (v2.alloc (.cells #[.slice (some ⟨gM, 0, none⟩) 232 kM] 55)).alloc (.cells #[.int .i64 58] 3)
  have x3 := (v3.alloc (.cells #[.slice (some ⟨gM, 0, none⟩) 232 kM] 55)).alloc (.cells #[.int .i64 58] 3)
  have x4 : ((W2.alloc (.cells #[.slice (some ⟨gM, 0, none⟩) 232 kM] 55)).alloc (.cells #[.int .i64 58] 3)).heap[W1.heap.size]? = some (.cells #[.slice none 0 0, .slice none 0 0, .slice none 0 0, .slice none 0 0] 55) := by
    rw [Below.heap_alloc _ _ _ (by simp; omega), Below.heap_alloc _ _ _ (by omega)]
    exact v4
  have x5 : Boxed ((W2.alloc (.cells #[.slice (some ⟨gM, 0, none⟩) 232 kM] 55)).alloc (.cells #[.int .i64 58] 3)) W2.heap.size 55 (.slice (some ⟨gM, 0, none⟩) 232 kM) := (Boxed.new' _ rfl _ _).alloc _
  have x6 : Boxed ((W2.alloc (.cells #[.slice (some ⟨gM, 0, none⟩) 232 kM] 55)).alloc (.cells #[.int .i64 58] 3)) (W2.heap.size + 1) 3 (.int .i64 58) := Boxed.new' _ (by simp) _ _
  have G3 := (GB.alloc (.cells #[.slice (some ⟨gM, 0, none⟩) 232 kM] 55)).alloc (.cells #[.int .i64 58] 3)
  have hs3 : ((W2.alloc (.cells #[.slice (some ⟨gM, 0, none⟩) 232 kM] 55)).alloc (.cells #[.int .i64 58] 3)).heap.size = W2.heap.size + 2 := by simp
  have hCM : ∀ i, i < MM.length → ((W2.alloc (.cells #[.slice (some ⟨gM, 0, none⟩) 232 kM] 55)).alloc (.cells #[.int .i64 58] 3)).cell? ⟨gM, i, none⟩ = some (.int .u8 (MM.getD i 0 : Nat)) := fun i hi => by
    rw [World.cell?_alloc_past _ _ _ (by simp; omega), World.cell?_alloc_past _ _ _ hgMs]
    exact HCM.out i hi
  generalize (W2.alloc (.cells #[.slice (some ⟨gM, 0, none⟩) 232 kM] 55)).alloc (.cells #[.int .i64 58] 3) = W3 at *
  have F3 := h.chg G3
  refine wpIn_rangeFunc_ownG rfl (by omega) (gf := 128) (lb := #[.pointer (some ⟨W2.heap.size, 0, none⟩), .pointer (some ⟨W2.heap.size + 1, 0, none⟩)]) rfl trivial (enters_of Tryz.func128 (by kernel_rfl) rfl)
    (parts58 Fence.wide _ trivial rfl (by omega) _ _ gM 0 kM (by have := HkM.out; have := HML.out; omega) W3 (by omega) (by omega) x5.cell x6.cell) Kp.t (Kp.b (by omega) (by omega)) (Below.refl _ _) (fun _ => rfl)
    (fun pre W => LI w W3 W p q b W1.heap.size (W1.heap.size + 1) MM pre)
    (fun _ _ _ => False)
    (fun pre X Y row hs hg hr => hs.keep hg hr)
    (fun _ _ _ _ _ hs _ _ => hs)
    ⟨_, [], ⟨⟨rfl, Or.inr ⟨_, 4, _, rfl, by omega, x4, by decide, by decide, rfl, by simp⟩⟩, rfl, fun j hj => by simp at hj, by simp, fun k _ hm => by simp at hm, fun g hm => by simp at hm⟩, x3, fun g e => Or.inl (Option.some.inj e).symm, fun g hm => by simp at hm, F3, Chg.refl _ _⟩
    (fun x => { tmps := #[.pointer (some ⟨p, 0, none⟩), .slice (some ⟨c, o, none⟩) 174 cap, .slice (some ⟨c2, o2, none⟩) 50 cap2, .pointer (some ⟨w.heap.size, 0, none⟩), undef, undef, .pointer (some ⟨w.heap.size + 1, 0, none⟩), .pointer (some ⟨w.heap.size + 1 + 1, 0, none⟩), .slice (some ⟨gS, 0, none⟩) 58 58, .nilIface, .pointer (some ⟨W1.heap.size + 1, 0, none⟩), undef, .slice (some ⟨gM, x.1 * 58, none⟩) 58 (kM - x.1 * 58), undef, undef, .slice (some ⟨c, o, none⟩) 174 cap, .int .i64 174, .bool false, undef, .tuple #[.slice (some ⟨gS, 0, none⟩) 58 58, .nilIface], .slice (some ⟨c2, o2, none⟩) 50 cap2, .tuple #[.slice (some ⟨gS, 0, none⟩) 58 58, .nilIface], .slice (some ⟨gS, 0, none⟩) 58 58, .nilIface, .nilIface, .bool false, undef, .slice (some ⟨W1.heap.size, 0, none⟩) 0 4, .slice (some ⟨c, o, none⟩) 174 cap, .slice (some ⟨gS, 0, none⟩) 58 58, .slice (some ⟨W1.heap.size + 1 + 1, 0, none⟩) 2 2, .slice (some ⟨gM, 0, none⟩) 232 kM, .func (.func 128) #[] #[.pointer (some ⟨W2.heap.size, 0, none⟩), .pointer (some ⟨W2.heap.size + 1, 0, none⟩)], .int .i64 (x.1 : Int), .slice (some ⟨gM, x.1 * 58, none⟩) 58 (kM - x.1 * 58), undef, undef, undef, undef, undef, undef, undef, undef, undef, undef, undef, undef, undef, undef, undef, undef, undef], defers := [] }) ?assign ?body ?done ?stop
  case assign =>
    intro l x W K hK
    dsimp only [encP]
    simp only [Nat.zero_add]
    gi_wp2
    exact hK
  case body =>
    rintro l pre x W ⟨v, gs, R, y3, hv, hgs, F, hG⟩ hpl
    have y0 : Boxed W w.heap.size 113 (.pointer (some ⟨p, 0, none⟩)) := (hG.block _ x0.lt (by omega)).trans x0
    have hs2 := hG.size
    have z0 := y0.cell
    have z2 : W.cell? ⟨p, 0, none⟩ = some (.pointer (some ⟨q, 0, none⟩)) := F.2.cell
    have hbc : ∀ o, W.heap[b]? = some o → o.isCells = true := fun o ho => by
      obtain ⟨c, z, hc, -⟩ := fld_heap F.1.1
      rw [hc] at ho; cases ho; rfl
    obtain ⟨i, hi⟩ := x
    dsimp only
    have hpl2 := part_length HML.out i hi
    have hpb := part_bys (z := 58) bM i
    have hcc : ∀ j, j < (part 58 MM i).length → W.cell? ⟨gM, i * 58 + j, none⟩ = some (.int .u8 ((part 58 MM i).getD j 0 : Nat)) := fun j hj => by
      rw [part_getD 58 MM i j (by omega)]
      exact (World.cell?_of_block (w := W3) (a := ⟨gM, i * 58 + j, none⟩) (hG.block gM (by omega) (by omega))).trans (hCM _ (by have := HML.out; omega))
    have HEnc := hyd (encode_any q b W F.1 gM (i * 58) (kM - i * 58) (part 58 MM i) hpl2 hpb (by omega) (by omega) hcc)
    clear hcc
    gi_wp2_with fail
    refine ⟨trivial, (CallsIn.inRound l (callsIn_wide.2 HEnc.out)).mono ?_⟩
    rintro e W4 ⟨g, rfl, hg, A4, C4, B4⟩
    clear HEnc
    have F4 := F.but C4 B4
    have a1 : KeepsFrom W3.heap.size W W4 := B4.chg.keeps (fun k hk o ho => hbc o (by rw [← hk]; exact ho)) _
    have hs4 := B4.size
    have R4 : Rowz W4 w.heap.size v gs (pre.map fun x => encL (part 58 MM x.1)) := R.chg B4.chg (fun k e => by
      subst e
      exact ⟨fun h1 => by have := hv _ h1; omega, fun h1 => by have := hgs _ h1; omega⟩)
    have y4 : Boxed W4 (W1.heap.size + 1) 116 v := (B4.block _ y3.lt (by omega)).trans y3
    have c4 := y4.cell
    have q2 := neq_nil_nil
    have hln : gs.length = pre.length := by have := R.len; simpa using this.symm
    have A5 := A4.alloc (.cells #[.slice (some ⟨g, 0, none⟩) 64 64] 55)
    have R5 := R4.chg ((Chg.refl (fun _ => False) W4).alloc (.cells #[.slice (some ⟨g, 0, none⟩) 64 64] 55)) (fun k e => e.elim)
    have y5 := y4.alloc (.cells #[.slice (some ⟨g, 0, none⟩) 64 64] 55)
    have F5 := F4.chg ((Chg.refl (fun _ => False) W4).alloc (.cells #[.slice (some ⟨g, 0, none⟩) 64 64] 55))
    have hs5 : (W4.alloc (.cells #[.slice (some ⟨g, 0, none⟩) 64 64] 55)).heap.size = W4.heap.size + 1 := by simp
    have hnw : ∀ j u, [slc g][j]? = some u → (W4.alloc (.cells #[.slice (some ⟨g, 0, none⟩) 64 64] 55)).cell? ((⟨W4.heap.size, 0, none⟩ : Addr).add j) = some u := cell_one_new _ _ _
    have a2 : KeepsFrom W3.heap.size W (W4.alloc (.cells #[.slice (some ⟨g, 0, none⟩) 64 64] 55)) := a1.trans (((Chg.refl (fun _ => False) W4).alloc _).keeps (fun k e => e.elim) _)
    have hk5 : ∀ k, k < W.heap.size → k ≠ b → (W4.alloc (.cells #[.slice (some ⟨g, 0, none⟩) 64 64] 55)).heap[k]? = W.heap[k]? := fun k hk hb => (Below.heap_alloc _ _ _ (by omega)).trans (B4.block k hk hb)
    have G5 : Chg (fun k => k = b ∨ k = W1.heap.size ∨ k = W1.heap.size + 1) W3 (W4.alloc (.cells #[.slice (some ⟨g, 0, none⟩) 64 64] 55)) := (hG.trans' B4.chg (fun k _ e => Or.inl e)).alloc _
    have hgn : g ∉ gs := fun hm => by have := R.mem_lt hm; omega
    have hvn : v.ownBlock ≠ some g := fun e => by
      rcases R.row.2 with ⟨rfl, _⟩ | ⟨g', _, _, rfl, _, hh, _⟩
      · cases e
      · have e1 : g' = g := Option.some.inj e
        have := (Array.getElem?_eq_some_iff.1 hh).1
        omega
    obtain ⟨i0, hi0, hz0, hz1, hz2⟩ := info_parts info22_all
    have HA := hyd A5
    have HR := hyd R5
    have HY := hyd y5
    have HF := hyd F5
    have HN := hyd hnw
    have HB : Hid (w.heap.size ≤ (W4.alloc (.cells #[.slice (some ⟨g, 0, none⟩) 64 64] 55)).heap.size) := hyd (by omega)
    have HL1 : Hid (gs.length + 1 ≤ maxLen) := hyd (by unfold maxLen; omega)
    have HL2 : Hid ((gs.length + 1) * 24 ≤ 140737488355328) := hyd (by omega)
    have H5 := hyd hs5
    clear hs5
    clear R R4 A4 A5 R5 y5 F5 hnw y4 F4 hG F y3 B4 a1
    gi_wp2_with (gi_at_builtin; refine wpListIn_append_own_at _ rfl _ _ 116 rfl w.heap.size 55 i0 (.slice none 0 0) 1 24 Tryz.underlying116 hi0 hz0 hz1 hz2 rfl (by decide) v gs.length (gs.map slc) rfl HR.out.row ⟨W4.heap.size, 0, none⟩ 1 1 [slc g] rfl rfl HN.out (by simp [slc, Value.oneCell']) HL1.out HL2.out HB.out ?_)
    intro v' W6 O6 hg6 _ hat
    have hs5 := H5.out
    obtain ⟨g6, k6, hv6⟩ := ownsRow_succ O6
    have hv' : ∀ k, v'.ownBlock = some k → k = W1.heap.size ∨ W3.heap.size ≤ k := fun k hk => by
      rcases hat with h1 | h1
      · exact hv k (by rw [← h1]; exact hk)
      · rw [h1] at hk
        have := Option.some.inj hk
        omega
    have R6 := HR.out.snoc hg6 (by first | exact O6 | (rw [hln] at O6 ⊢; exact O6) | (rw [hln]; exact O6)) (by rw [hs5]; exact hat) HA.out (by omega) hgn hvn
    have y6 : Boxed W6 (W1.heap.size + 1) 116 v := HY.out.kept hg6 (fun e => by have := hv _ e.symm; omega)
    have F6 : Frm W6 p q b := HF.out.other (hg6.block _ HF.out.1.1.lt (fun e => by have := hv _ e.symm; omega)) (hg6.block _ HF.out.1.lt (fun e => by have := hv _ e.symm; omega)) (hg6.block _ HF.out.lt (fun e => by have := hv _ e.symm; omega))
    have hcv : ∀ k, v.ownBlock = some k → ∀ o, (W4.alloc (.cells #[.slice (some ⟨g, 0, none⟩) 64 64] 55)).heap[k]? = some o → o.isCells = true := fun k hk o ho => by
      rcases HR.out.row.2 with ⟨rfl, _⟩ | ⟨g, cap, cur, rfl, _, hh, _⟩
      · cases hk
      · have e : g = k := Option.some.inj hk
        rw [← e, hh] at ho; cases ho; rfl
    have a3 : KeepsFrom W3.heap.size (W4.alloc (.cells #[.slice (some ⟨g, 0, none⟩) 64 64] 55)) W6 := ⟨hg6.size, fun k o _ h0 ho => (hg6.block k (Array.getElem?_eq_some_iff.1 h0).1 (fun e => by rw [hcv k e.symm o h0] at ho; cases ho)).trans h0⟩
    have G6 : Chg (fun k => k = b ∨ k = W1.heap.size ∨ k = W1.heap.size + 1) W3 W6 := G5.grown hg6 (fun k e => by have := hv _ e; omega)
    have hk6 : ∀ k, k < W.heap.size → k ≠ b → v.ownBlock ≠ some k → W6.heap[k]? = W.heap[k]? := fun k hk hb hvk => (hg6.block k (by omega) (fun e => hvk e.symm)).trans (hk5 k hk hb)
    have hs6 := hg6.size
    have fin : ∀ Y, W6.setCell ⟨W1.heap.size + 1, 0, none⟩ v' = Y → KeepsFrom W3.heap.size W Y ∧ Kp W2.heap.size (W2.heap.size + 1) W Y ∧ LI w W3 Y p q b W1.heap.size (W1.heap.size + 1) MM (pre ++ [⟨i, hi⟩]) := fun Y hY => by
      have e5 : Boxed Y (W1.heap.size + 1) 116 v' := by rw [← hY]; exact y6.set _
      have K4 : Chg (fun k => k = W1.heap.size + 1) W6 Y := by rw [← hY]; exact (Chg.refl (fun k => k = W1.heap.size + 1) W6).setCell (Or.inl rfl) 0 _
      have a4 : KeepsFrom W3.heap.size W6 Y := K4.keeps (fun k hk o ho => by
        subst hk
        rw [show W6.heap[_]? = _ from y6] at ho; cases ho; rfl) _
      refine ⟨(a2.trans a3).trans a4, ⟨?_, ?_⟩, v', gs ++ [g], ?_, e5, hv', ?_, ?_, ?_⟩
      · exact (K4.block _ (by omega) (by omega)).trans (hk6 _ (by omega) (by omega) (fun e => by have := hv _ e; omega))
      · exact (K4.block _ (by omega) (by omega)).trans (hk6 _ (by omega) (by omega) (fun e => by have := hv _ e; omega))
      · rw [List.map_append]
        refine R6.chg K4 (fun k e => ?_)
        subst e
        refine ⟨fun h1 => by have := hv' _ h1; omega, fun h1 => ?_⟩
        rcases List.mem_append.1 h1 with h2 | h2
        · have := hgs _ h2; omega
        · simp at h2; omega
      · intro g' hm
        rcases List.mem_append.1 hm with h2 | h2
        · exact hgs _ h2
        · simp at h2; omega
      · exact F6.other (K4.block _ F6.1.1.lt (by omega)) (K4.block _ F6.1.lt (by omega)) (K4.block _ F6.lt (by omega))
      · exact G6.trans' K4 (fun k hk e => Or.inr (Or.inr e))
    have HFin := hyd fin
    have c6 := y6.cell
    have f6 := y6.frozen
    subst hv6
    clear fin R6 HR HA HY HF HN hg6 O6 a2 a3 G5 G6 hk5 hk6 hcv
    gi_wp2_with fail
    exact HFin.out _ rfl
  case done =>
    rintro D ys W hD rfl ⟨v, gs, R, y3, hv, hgs, F, hG⟩ hK
    have y1 : Boxed W (w.heap.size + 1) 116 (.slice none 0 0) := (hG.block _ x1.lt (by omega)).trans x1
    have y2 : Boxed W (w.heap.size + 1 + 1) 32 .nilIface := (hG.block _ x2.lt (by omega)).trans x2
    have hln : gs.length = 4 := by
      have := R.len
      rw [List.length_map, upto_length 4 (by omega)] at this
      exact this.symm
    have hrow := R.row
    rw [hln] at hrow
    obtain ⟨g6, k6, hv6⟩ := ownsRow_succ hrow
    subst hv6
    have hgv := hv g6 rfl
    have e1 : Boxed ((W.setCell ⟨w.heap.size + 1, 0, none⟩ (.slice (some ⟨g6, 0, none⟩) 4 k6)).setCell ⟨w.heap.size + 1 + 1, 0, none⟩ .nilIface) (w.heap.size + 1) 116 (.slice (some ⟨g6, 0, none⟩) 4 k6) := (y1.set _).other (by omega) _
    have e2 : Boxed ((W.setCell ⟨w.heap.size + 1, 0, none⟩ (.slice (some ⟨g6, 0, none⟩) 4 k6)).setCell ⟨w.heap.size + 1 + 1, 0, none⟩ .nilIface) (w.heap.size + 1 + 1) 32 .nilIface := (y2.other (by omega) _).set _
    have K4 : Chg (fun k => k = w.heap.size + 1 ∨ k = w.heap.size + 1 + 1) W ((W.setCell ⟨w.heap.size + 1, 0, none⟩ (.slice (some ⟨g6, 0, none⟩) 4 k6)).setCell ⟨w.heap.size + 1 + 1, 0, none⟩ .nilIface) := ((Chg.refl _ W).setCell (Or.inl (Or.inl rfl)) 0 _).setCell (Or.inl (Or.inr rfl)) 0 _
    have HR := hyd R
    have HF := hyd F
    have HG := hyd hG
    have c1 := y1.cell
    have c2 := y2.cell
    have c3 := y3.cell
    have f1 := y1.frozen
    have f2 := y2.frozen
    clear R F hG hrow
    gi_wp2_with fail
    generalize (W.setCell ⟨w.heap.size + 1, 0, none⟩ (.slice (some ⟨g6, 0, none⟩) 4 k6)).setCell ⟨w.heap.size + 1 + 1, 0, none⟩ .nilIface = Y at *
    have hK2 : Y.heap[D]? = some (.deferred (some [])) := (K4.block D (Array.getElem?_eq_some_iff.1 hK).1 (by omega)).trans hK
    have hkp := put_kept (.deferred none) hK2 rfl
    have F5 := HF.out.other (K4.block _ HF.out.1.1.lt (by omega)) (K4.block _ HF.out.1.lt (by omega)) (K4.block _ HF.out.lt (by omega))
    have R5 := HR.out.chg K4 (fun k e => ⟨fun h1 => by have : g6 = k := Option.some.inj h1; omega, fun h1 => by have := hgs _ h1; omega⟩)
    have G5 : Chg (· = b) w Y := ((G3.mono (T := (· = b)) (fun _ _ e => e.elim)).trans' HG.out (fun k hk e => by omega)).trans' K4 (fun k hk e => by omega)
    have G6 := G5.grown (grownBy_putObj' Y D (.deferred none)) (fun k e => Or.inr (by cases e; omega))
    refine ⟨by simp, .inl ⟨_, _, rfl, run_takeDeferred hK2, ?_⟩⟩
    refine ⟨_, results2 rfl _ rfl rfl (boxed_keep e1 hkp) (boxed_keep e2 hkp), ⟨g6, k6, gs, rfl, ?_⟩, F5.keep hkp, ⟨G6.os, G6.tape, G6.output, G6.size, G6.block⟩⟩
    have em : (upto 4).map (fun x => encL (part 58 MM x.1)) = (List.range 4).map fun i => encL (part 58 MM i) := rfl
    rw [← em]
    exact R5.keeps hkp
  case stop =>
    rintro D cc pre W _ _ h _
    exact h.elim
end Go.Proofs.YtifjmilegogbaaaGreat
