/-
  tag's writer: a number laid behind what is laid, and the five fields, walked. Conditions: the writer's row has room. The five fields, laid by the writer's methods. Conditions: each field fits its bytes; the writer's row has room. tag.Encode, walked: the body of a tag that may be, in new memory; ErrArg for the others. No condition.
-/
import Derived.Test.YtifjmilegogbaaaGreatUTag
import Derived.Laws.OwnMore
namespace Go.Proofs.YtifjmilegogbaaaGreat
open Go.RowKit
set_option maxRecDepth 100000

/-- 'append' within the room of a block of bytes. -/
theorem wpList_append_arr {w : World} {ops : Array Oper} {rest : List Oper} {o : Oper} {a : Act} {Q : Exit → Act → World → Prop} (hgd : o.guard = none) (s x : Operand)
    (ho : o.op = .call { callee := .builtin .append, args := #[s, x], argTypes := #[55, 55] }) (g k cap c oo m cc : Nat) (hs : a.eval s = .slice (some ⟨g, 0, none⟩) k cap) (hx : a.eval x = .slice (some ⟨c, oo, none⟩) m cc)
    {cur : List Nat} (hg : Arr w g 5 cur) (src : List Nat) (hn : src.length = m) (hsrc : ∀ j, j < src.length → w.cell? ⟨c, oo + j, none⟩ = some (.int .u8 (src.getD j 0 : Nat))) (hroom : k + m ≤ cap) (hfit : k + m ≤ cur.length)
    (h : wpList Tryz.prog ops Q rest (a.put o.dst (.slice (some ⟨g, 0, none⟩) (k + m) cap)) (w.setRow g (bcells (lay cur k src)))) : wpList Tryz.prog ops Q (o :: rest) a w := by
  obtain ⟨i, h1, _, h3, _⟩ := info5
  refine wpList_plain hgd fun K hK => ?_
  have hrun := run_append_room (P := Tryz.prog) w 55 o.type 5 i Tryz.underlying55 h1 g k cap (bcells cur) hg ⟨c, oo, none⟩ m cc (src.map fun (n : Nat) => Value.int .u8 (n : Int)) (by rw [h3]; simpa using hn) (src_cells hsrc) (one_cells src) hroom (by rw [h3, bcells_size]; simp; omega)
  rw [h3, Nat.mul_one, List.append_assoc, lay_row] at hrun
  unfold Oper.wp
  simp [execOp, ho, resolve, invoke, builtin, hs, hx, hrun, Result.andThen]
  exact hK _ _ h

/-- Block b holds a writer: a tag, and the slice of its row g, n bytes of which are laid. -/
def Wr (w : World) (b g n : Nat) (p o s c : Int) (l : Bool) : Prop :=
  w.heap[b]? = some (.cells #[.int .i64 p, .int .i64 o, .int .i64 s, .int .i64 c, .bool l, .slice (some ⟨g, 0, none⟩) n 50] 175)
theorem Wr.lt {w : World} {b g n : Nat} {p o s c : Int} {l : Bool} (h : Wr w b g n p o s c l) : b < w.heap.size := (Array.getElem?_eq_some_iff.1 (show w.heap[b]? = some _ from h)).1
theorem Wr.other {w w' : World} {b g n : Nat} {p o s c : Int} {l : Bool} (h : Wr w b g n p o s c l) (e : w'.heap[b]? = w.heap[b]?) : Wr w' b g n p o s c l := e.trans h
theorem Wr.chg {S : Nat → Prop} {w w' : World} {b g n : Nat} {p o s c : Int} {l : Bool} (h : Wr w b g n p o s c l) (hc : Chg S w w') (hb : ¬ S b) : Wr w' b g n p o s c l := (hc.block b h.lt hb).trans h
theorem Wr.cells {w : World} {b g n : Nat} {p o s c : Int} {l : Bool} (h : Wr w b g n p o s c l) : w.cell? ⟨b, 0, none⟩ = some (.int .i64 p) ∧ w.cell? ⟨b, 1, none⟩ = some (.int .i64 o) ∧ w.cell? ⟨b, 2, none⟩ = some (.int .i64 s) ∧ w.cell? ⟨b, 3, none⟩ = some (.int .i64 c) ∧ w.cell? ⟨b, 4, none⟩ = some (.bool l) ∧ w.cell? ⟨b, 5, none⟩ = some (.slice (some ⟨g, 0, none⟩) n 50) ∧ w.frozen? ⟨b, 5, none⟩ = false := by
  have h' : w.heap[b]? = some _ := h
  refine ⟨?_, ?_, ?_, ?_, ?_, ?_, ?_⟩ <;> simp [World.cell?, World.frozen?, h']
theorem Wr.store {w : World} {b g n : Nat} {p o s c : Int} {l : Bool} (h : Wr w b g n p o s c l) (m : Nat) : Wr (w.setCell ⟨b, 5, none⟩ (.slice (some ⟨g, 0, none⟩) m 50)) b g m p o s c l := by
  have h' : w.heap[b]? = some _ := h
  show (w.setCell ⟨b, 5, none⟩ _).heap[b]? = _
  simp [World.setCell, Array.getElem?_modify, h']

set_option maxHeartbeats 2000000 in
theorem tlay_any (w : World) (b g n : Nat) (p o s c : Int) (l : Bool) (L : List Nat) (hW : Wr w b g n p o s c l) (hA : Arr w g 5 L) (hL : L.length = 50) (hbg : b ≠ g) (v z : Nat) (hv : v < 18446744073709551616) (hz1 : 1 ≤ z) (hz8 : z ≤ 8) (hr : v < 256 ^ z) (hn : n + z ≤ 50) :
    Calls Tryz.prog 127 #[.pointer (some ⟨b, 0, none⟩), .int .u64 (v : Int), .int .i64 (z : Int)] w fun e w' => e = .returned .nilIface ∧ Wr w' b g (n + z) p o s c l ∧ Arr w' g 5 (lay L n (bts v z)) ∧ Chg (fun k => k = b ∨ k = g) w w' := by
  have HW := hyd hW
  have HA := hyd hA
  have hcall := put_room w v z hv hz1 hz8 hr
  have HL := hyd hL
  clear hW hA hr hL
  go_enter Tryz.func127, Tryz.ntmps127
  go_wp2_with fail
  refine hcall.mono ?_
  rintro e w1 ⟨g1, rfl, hg1, A1, G1⟩
  clear hcall
  have W1 := HW.out.chg G1 (fun e => e)
  have B1 := HA.out.chg G1 (fun e => e)
  have hgl := HA.out.lt
  have hbl := HW.out.lt
  obtain ⟨-, -, -, -, -, k5, -⟩ := W1.cells
  have hsrc : Hid (∀ j, j < (bts v z).length → w1.cell? ⟨g1, 0 + j, none⟩ = some (.int .u8 ((bts v z).getD j 0 : Nat))) := hyd (fun j hj => by
    rw [bts_length] at hj
    rw [Nat.zero_add, A1.cell j (by rw [bts_length]; omega), bts_getD _ _ _ hj, bts_getD _ _ _ (by omega)])
  have HB1 := hyd B1
  have HW1 := hyd W1
  have W2 : Wr (w1.setRow g (bcells (lay L n (bts v z)))) b g n p o s c l := W1.other (setRow_other _ _ _ _ hbg)
  have A2 : Arr (w1.setRow g (bcells (lay L n (bts v z)))) g 5 (lay L n (bts v z)) := B1.row _
  have G2 : Chg (fun k => k = b ∨ k = g) w (w1.setRow g (bcells (lay L n (bts v z)))) := (G1.mono (fun _ _ f => f.elim)).setRow (Or.inl (Or.inr rfl)) _
  obtain ⟨-, -, -, -, -, j5, f5⟩ := W2.cells
  have HW2 := hyd W2
  have HA2 := hyd A2
  have HG2 := hyd G2
  clear W1 B1 A1 G1 W2 A2 G2
  go_wp2_with (at_builtin; refine wpList_append_arr rfl (.tmp 22) (.tmp 23) rfl g n 50 g1 0 z z rfl rfl HB1.out (bts v z) (bts_length v z) hsrc.out hn (by rw [HL.out]; exact hn) ?_)
  go_ret
  exact ⟨rfl, HW2.out.store _, HA2.out.setOther hbg _ _, HG2.out.setCell (Or.inl (Or.inl rfl)) _ _⟩
end Go.Proofs.YtifjmilegogbaaaGreat
namespace Go.Proofs.YtifjmilegogbaaaGreat
open Go.RowKit
set_option maxRecDepth 100000

set_option maxHeartbeats 2000000 in
theorem layPlace_any (w : World) (b g n : Nat) (p : Nat) (o s c : Int) (l : Bool) (L : List Nat) (hW : Wr w b g n p o s c l) (hA : Arr w g 5 L) (hL : L.length = 50) (hbg : b ≠ g) (hp : p < 65536) (hn : n + 2 ≤ 50) :
    Calls Tryz.prog 102 #[.pointer (some ⟨b, 0, none⟩)] w fun e w' => e = .returned .nilIface ∧ Wr w' b g (n + 2) p o s c l ∧ Arr w' g 5 (lay L n (bts p 2)) ∧ Chg (fun k => k = b ∨ k = g) w w' := by
  have hcall := tlay_any w b g n p o s c l L hW hA hL hbg p 2 (by omega) (by decide) (by decide) (by omega) hn
  obtain ⟨k0, k1, k2, k3, k4, -, -⟩ := hW.cells
  clear hW hA hL hbg hn
  go_enter Tryz.func102, Tryz.ntmps102
  go_wp2_with fail
  refine hcall.mono ?_
  rintro e w1 ⟨rfl, h1, h2, h3⟩
  have H := hyd (And.intro h1 (And.intro h2 h3))
  clear h1 h2 h3 hcall
  go_wp2
  go_ret
  exact ⟨rfl, H.out⟩
set_option maxHeartbeats 2000000 in
theorem layOf_any (w : World) (b g n : Nat) (o : Nat) (p s c : Int) (l : Bool) (L : List Nat) (hW : Wr w b g n p o s c l) (hA : Arr w g 5 L) (hL : L.length = 50) (hbg : b ≠ g) (hp : o < 256) (hn : n + 1 ≤ 50) :
    Calls Tryz.prog 103 #[.pointer (some ⟨b, 0, none⟩)] w fun e w' => e = .returned .nilIface ∧ Wr w' b g (n + 1) p o s c l ∧ Arr w' g 5 (lay L n (bts o 1)) ∧ Chg (fun k => k = b ∨ k = g) w w' := by
  have hcall := tlay_any w b g n p o s c l L hW hA hL hbg o 1 (by omega) (by decide) (by decide) (by omega) hn
  obtain ⟨k0, k1, k2, k3, k4, -, -⟩ := hW.cells
  clear hW hA hL hbg hn
  go_enter Tryz.func103, Tryz.ntmps103
  go_wp2_with fail
  refine hcall.mono ?_
  rintro e w1 ⟨rfl, h1, h2, h3⟩
  have H := hyd (And.intro h1 (And.intro h2 h3))
  clear h1 h2 h3 hcall
  go_wp2
  go_ret
  exact ⟨rfl, H.out⟩
set_option maxHeartbeats 2000000 in
theorem laySeq_any (w : World) (b g n : Nat) (s : Nat) (p o c : Int) (l : Bool) (L : List Nat) (hW : Wr w b g n p o s c l) (hA : Arr w g 5 L) (hL : L.length = 50) (hbg : b ≠ g) (hp : s < 1099511627776) (hn : n + 5 ≤ 50) :
    Calls Tryz.prog 104 #[.pointer (some ⟨b, 0, none⟩)] w fun e w' => e = .returned .nilIface ∧ Wr w' b g (n + 5) p o s c l ∧ Arr w' g 5 (lay L n (bts s 5)) ∧ Chg (fun k => k = b ∨ k = g) w w' := by
  have hcall := tlay_any w b g n p o s c l L hW hA hL hbg s 5 (by omega) (by decide) (by decide) (by omega) hn
  obtain ⟨k0, k1, k2, k3, k4, -, -⟩ := hW.cells
  clear hW hA hL hbg hn
  go_enter Tryz.func104, Tryz.ntmps104
  go_wp2_with fail
  refine hcall.mono ?_
  rintro e w1 ⟨rfl, h1, h2, h3⟩
  have H := hyd (And.intro h1 (And.intro h2 h3))
  clear h1 h2 h3 hcall
  go_wp2
  go_ret
  exact ⟨rfl, H.out⟩
set_option maxHeartbeats 2000000 in
theorem layCopy_any (w : World) (b g n : Nat) (c : Nat) (p o s : Int) (l : Bool) (L : List Nat) (hW : Wr w b g n p o s c l) (hA : Arr w g 5 L) (hL : L.length = 50) (hbg : b ≠ g) (hp : c < 256) (hn : n + 1 ≤ 50) :
    Calls Tryz.prog 105 #[.pointer (some ⟨b, 0, none⟩)] w fun e w' => e = .returned .nilIface ∧ Wr w' b g (n + 1) p o s c l ∧ Arr w' g 5 (lay L n (bts c 1)) ∧ Chg (fun k => k = b ∨ k = g) w w' := by
  have hcall := tlay_any w b g n p o s c l L hW hA hL hbg c 1 (by omega) (by decide) (by decide) (by omega) hn
  obtain ⟨k0, k1, k2, k3, k4, -, -⟩ := hW.cells
  clear hW hA hL hbg hn
  go_enter Tryz.func105, Tryz.ntmps105
  go_wp2_with fail
  refine hcall.mono ?_
  rintro e w1 ⟨rfl, h1, h2, h3⟩
  have H := hyd (And.intro h1 (And.intro h2 h3))
  clear h1 h2 h3 hcall
  go_wp2
  go_ret
  exact ⟨rfl, H.out⟩
set_option maxHeartbeats 2000000 in
theorem layLost_any (w : World) (b g n : Nat) (p o s c : Int) (l : Bool) (L : List Nat) (hW : Wr w b g n p o s c l) (hA : Arr w g 5 L) (hL : L.length = 50) (hbg : b ≠ g) (hn : n + 1 ≤ 50) :
    Calls Tryz.prog 106 #[.pointer (some ⟨b, 0, none⟩)] w fun e w' => e = .returned .nilIface ∧ Wr w' b g (n + 1) p o s c l ∧ Arr w' g 5 (lay L n (bts l.toNat 1)) ∧ Chg (fun k => k = b ∨ k = g) w w' := by
  cases l with
  | true =>
    have hcall := tlay_any w b g n p o s c true L hW hA hL hbg 1 1 (by omega) (by decide) (by decide) (by omega) hn
    obtain ⟨k0, k1, k2, k3, k4, -, -⟩ := hW.cells
    clear hW hA hL hbg hn
    go_enter Tryz.func106, Tryz.ntmps106
    go_wp2_with fail
    refine hcall.mono ?_
    rintro e w1 ⟨rfl, h1, h2, h3⟩
    have H := hyd (And.intro h1 (And.intro h2 h3))
    clear h1 h2 h3 hcall
    go_wp2
    go_ret
    exact ⟨rfl, H.out⟩
  | false =>
    have hcall := tlay_any w b g n p o s c false L hW hA hL hbg 0 1 (by omega) (by decide) (by decide) (by omega) hn
    obtain ⟨k0, k1, k2, k3, k4, -, -⟩ := hW.cells
    clear hW hA hL hbg hn
    go_enter Tryz.func106, Tryz.ntmps106
    go_wp2_with fail
    refine hcall.mono ?_
    rintro e w1 ⟨rfl, h1, h2, h3⟩
    have H := hyd (And.intro h1 (And.intro h2 h3))
    clear h1 h2 h3 hcall
    go_wp2
    go_ret
    exact ⟨rfl, H.out⟩
end Go.Proofs.YtifjmilegogbaaaGreat
namespace Go.Proofs.YtifjmilegogbaaaGreat
open Go.RowKit
set_option maxRecDepth 100000

/-- What is laid of a tag's body behind k fields. -/
def pre (p o s c : Nat) (l : Bool) : Nat → List Nat
  | 0 => []
  | 1 => bts p 2
  | 2 => bts p 2 ++ bts o 1
  | 3 => bts p 2 ++ bts o 1 ++ bts s 5
  | 4 => bts p 2 ++ bts o 1 ++ bts s 5 ++ bts c 1
  | _ => bts p 2 ++ bts o 1 ++ bts s 5 ++ bts c 1 ++ bts l.toNat 1
/-- The row behind k fields: the rest is noughts. -/
def row (p o s c : Nat) (l : Bool) (k : Nat) : List Nat := pre p o s c l k ++ List.replicate (50 - (pre p o s c l k).length) 0
/-- A tag's body. -/
def body (p o s c : Nat) (l : Bool) : List Nat := row p o s c l 5
theorem row_length (p o s c : Nat) (l : Bool) (k : Nat) (hk : k ≤ 5) : (row p o s c l k).length = 50 := by
  have : (pre p o s c l k).length ≤ 50 := by
    rcases (by omega : k = 0 ∨ k = 1 ∨ k = 2 ∨ k = 3 ∨ k = 4 ∨ k = 5) with rfl | rfl | rfl | rfl | rfl | rfl <;> simp [pre, bts_length]
  simp [row]; omega
theorem body_length (p o s c : Nat) (l : Bool) : (body p o s c l).length = 50 := row_length p o s c l 5 (by decide)
theorem lay_step (q src : List Nat) (n k : Nat) (hn : n = q.length) : lay (q ++ List.replicate (src.length + k) 0) n src = (q ++ src) ++ List.replicate k 0 := by
  subst hn
  simp [lay, List.drop_append, List.append_assoc]
theorem row_step1 (p o s c : Nat) (l : Bool) : lay (row p o s c l 0) 0 (bts p 2) = row p o s c l 1 := by
  have := lay_step [] (bts p 2) 0 48 rfl
  simp only [bts_length] at this
  simpa [row, pre, bts_length] using this
theorem row_step2 (p o s c : Nat) (l : Bool) : lay (row p o s c l 1) 2 (bts o 1) = row p o s c l 2 := by
  have := lay_step (bts p 2) (bts o 1) 2 47 (by simp [bts_length])
  simp only [bts_length] at this
  simpa [row, pre, bts_length] using this
theorem row_step3 (p o s c : Nat) (l : Bool) : lay (row p o s c l 2) 3 (bts s 5) = row p o s c l 3 := by
  have := lay_step (bts p 2 ++ bts o 1) (bts s 5) 3 42 (by simp [bts_length])
  simp only [bts_length] at this
  simpa [row, pre, bts_length] using this
theorem row_step4 (p o s c : Nat) (l : Bool) : lay (row p o s c l 3) 8 (bts c 1) = row p o s c l 4 := by
  have := lay_step (bts p 2 ++ bts o 1 ++ bts s 5) (bts c 1) 8 41 (by simp [bts_length])
  simp only [bts_length] at this
  simpa [row, pre, bts_length] using this
theorem row_step5 (p o s c : Nat) (l : Bool) : lay (row p o s c l 4) 9 (bts l.toNat 1) = row p o s c l 5 := by
  have := lay_step (bts p 2 ++ bts o 1 ++ bts s 5 ++ bts c 1) (bts l.toNat 1) 9 40 (by simp [bts_length])
  simp only [bts_length] at this
  simpa [row, pre, bts_length] using this
/-- 50 noughts. -/
def tz50 : List Nat := List.replicate 50 0
theorem tmake_room (w : World) : (Instr.makeSlice 55 (.int .i64 0) (.int .i64 50)).run Tryz.prog w = .ok (.slice (some ⟨w.heap.size, 0, none⟩) 0 50) (w.alloc (.cells (bcells tz50) 5)) := by
  obtain ⟨i, h1, h2, h3, h4⟩ := info5
  have h := run_make (P := Tryz.prog) w 55 5 i (.int .u8 0) Tryz.underlying55 h1 h2 .i64 .i64 0 50 (by omega) (by omega) (by rw [h4]; omega) (by omega)
  rw [h, h3, made_bytes]; rfl
theorem build48 (p o s c : Int) (l : Bool) (g : Nat) (w : World) : (Instr.build 175 #[(0, .agg #[.int .i64 p, .int .i64 o, .int .i64 s, .int .i64 c, .bool l]), (1, .slice (some ⟨g, 0, none⟩) 0 50)]).run Tryz.prog w = .ok (.agg #[.int .i64 p, .int .i64 o, .int .i64 s, .int .i64 c, .bool l, .slice (some ⟨g, 0, none⟩) 0 50]) w := by kernel_rfl

set_option maxHeartbeats 2000000 in
theorem encode_no (w : World) (p o s c : Int) (l : Bool) (h : ¬ May p o s c l) :
    Calls Tryz.prog 75 #[.agg #[.int .i64 p, .int .i64 o, .int .i64 s, .int .i64 c, .bool l]] w fun e w' => e = .returned (.tuple #[.slice none 0 0, .iface 58 (.int .i64 1)]) ∧ Chg (fun _ => False) w w' := by
  have hcall := fun w => (check_any w p o s c l).2 h
  have G0 : Chg (fun _ => False) w (w.alloc (.cells #[.int .i64 p, .int .i64 o, .int .i64 s, .int .i64 c, .bool l] 28)) := (Chg.refl _ w).alloc _
  have q1 := tneq_arg_nil
  clear h
  go_enter Tryz.func75, Tryz.ntmps75
  go_wp2_with fail
  refine (hcall _).mono ?_
  rintro e w1 ⟨rfl, G1⟩
  clear hcall
  have G01 := G0.trans G1
  clear G0 G1
  go_wp2
  go_ret2
  exact ⟨rfl, G01⟩

/-- Block f holds the five method values of the writer at b. -/
def Fns (w : World) (f b : Nat) : Prop := w.heap[f]? = some (.cells #[.func (.func 102) #[.pointer (some ⟨b, 0, none⟩)] #[], .func (.func 103) #[.pointer (some ⟨b, 0, none⟩)] #[], .func (.func 104) #[.pointer (some ⟨b, 0, none⟩)] #[], .func (.func 105) #[.pointer (some ⟨b, 0, none⟩)] #[], .func (.func 106) #[.pointer (some ⟨b, 0, none⟩)] #[]] 176)
theorem Fns.lt {w : World} {f b : Nat} (h : Fns w f b) : f < w.heap.size := (Array.getElem?_eq_some_iff.1 (show w.heap[f]? = some _ from h)).1
theorem Fns.chg {S : Nat → Prop} {w w' : World} {f b : Nat} (h : Fns w f b) (hc : Chg S w w') (hf : ¬ S f) : Fns w' f b := (hc.block f h.lt hf).trans h
theorem Fns.cells {w : World} {f b : Nat} (h : Fns w f b) : w.cell? ⟨f, 0, none⟩ = some (.func (.func 102) #[.pointer (some ⟨b, 0, none⟩)] #[]) ∧ w.cell? ⟨f, 1, none⟩ = some (.func (.func 103) #[.pointer (some ⟨b, 0, none⟩)] #[]) ∧ w.cell? ⟨f, 2, none⟩ = some (.func (.func 104) #[.pointer (some ⟨b, 0, none⟩)] #[]) ∧ w.cell? ⟨f, 3, none⟩ = some (.func (.func 105) #[.pointer (some ⟨b, 0, none⟩)] #[]) ∧ w.cell? ⟨f, 4, none⟩ = some (.func (.func 106) #[.pointer (some ⟨b, 0, none⟩)] #[]) := by
  have h' : w.heap[f]? = some _ := h
  refine ⟨?_, ?_, ?_, ?_, ?_⟩ <;> simp [World.cell?, h']
/-- How the writer stands behind k fields. -/
def Stg (w wr : World) (g k p o s c : Nat) (l : Bool) : Prop :=
  Wr wr (g + 1) g (pre p o s c l k).length p o s c l ∧ Arr wr g 5 (row p o s c l k) ∧ Fns wr (g + 2) (g + 1) ∧ Chg (fun _ => False) w wr
theorem Stg.next {w wr w' : World} {g k p o s c m : Nat} {l : Bool} (h : Stg w wr g k p o s c l) (hg : w.heap.size ≤ g) (hm : m = (pre p o s c l (k + 1)).length) (h1 : Wr w' (g + 1) g m p o s c l) (h2 : Arr w' g 5 (row p o s c l (k + 1))) (h3 : Chg (fun k => k = g + 1 ∨ k = g) wr w') : Stg w w' g (k + 1) p o s c l :=
  ⟨by rw [← hm]; exact h1, h2, h.2.2.1.chg h3 (by omega), h.2.2.2.trans' h3 (fun i hi ht => by omega)⟩
theorem May.pl {p : Nat} {o s c : Int} {l : Bool} (h : May p o s c l) : p < 65536 := by
  have := h.1.1
  omega
theorem May.ol {o : Nat} {p s c : Int} {l : Bool} (h : May p o s c l) : o < 256 := by
  have := h.1.2.1
  omega
theorem May.sl {s : Nat} {p o c : Int} {l : Bool} (h : May p o s c l) : s < 1099511627776 := by
  have := h.1.2.2.1
  omega
theorem May.cl {c : Nat} {p o s : Int} {l : Bool} (h : May p o s c l) : c < 256 := by
  have := h.1.2.2.2
  omega
theorem row0 (p o s c : Nat) (l : Bool) : row p o s c l 0 = tz50 := by simp [row, pre, tz50]
set_option maxHeartbeats 4000000 in
theorem encode_yes (w : World) (p o s c : Nat) (l : Bool) (h : May p o s c l) :
    Calls Tryz.prog 75 #[.agg #[.int .i64 p, .int .i64 o, .int .i64 s, .int .i64 c, .bool l]] w fun e w' => ∃ g, e = .returned (.tuple #[.slice (some ⟨g, 0, none⟩) 50 50, .nilIface]) ∧ w.heap.size ≤ g ∧ Arr w' g 5 (body p o s c l) ∧ Chg (fun _ => False) w w' := by
  have hcall := fun w => (check_any w p o s c l).1 h
  have T0 := Tg.new w p o s c l
  have G0 : Chg (fun _ => False) w (w.alloc (.cells #[.int .i64 p, .int .i64 o, .int .i64 s, .int .i64 c, .bool l] 28)) := (Chg.refl _ w).alloc _
  have q1 := tneq_nil_nil
  have hmk := tmake_room
  have hb := build48
  have HM := hyd h
  clear h
  go_enter Tryz.func75, Tryz.ntmps75
  go_wp2_with fail
  refine (hcall _).mono ?_
  rintro e w1 ⟨rfl, G1⟩
  clear hcall
  have G01 := G0.trans G1
  have HT := hyd (T0.chg G1 (fun e => e))
  obtain ⟨k0, k1, k2, k3, k4⟩ := HT.out.cells
  obtain ⟨j0, j1, j2, j3, j4⟩ := (HT.out.alloc (.cells (bcells tz50) 5)).cells
  clear G0 G1 T0
  go_wp2_with fail
  go_region
  clear j0 j1 j2 j3 j4 k0 k1 k2 k3 k4 hmk hb
  go_wp2_with fail
  have hg := G01.size
  generalize hG : w1.heap.size = g at *
  have S0 : Stg w (((w1.alloc (.cells (bcells tz50) 5)).alloc (.cells #[.int .i64 p, .int .i64 o, .int .i64 s, .int .i64 c, .bool l, .slice (some ⟨g, 0, none⟩) 0 50] 175)).drew.alloc (.cells #[.func (.func 102) #[.pointer (some ⟨g + 1, 0, none⟩)] #[], .func (.func 103) #[.pointer (some ⟨g + 1, 0, none⟩)] #[], .func (.func 104) #[.pointer (some ⟨g + 1, 0, none⟩)] #[], .func (.func 105) #[.pointer (some ⟨g + 1, 0, none⟩)] #[], .func (.func 106) #[.pointer (some ⟨g + 1, 0, none⟩)] #[]] 176)) g 0 p o s c l := by
    subst hG
    have W1 : Wr ((w1.alloc (.cells (bcells tz50) 5)).alloc (.cells #[.int .i64 p, .int .i64 o, .int .i64 s, .int .i64 c, .bool l, .slice (some ⟨w1.heap.size, 0, none⟩) 0 50] 175)) (w1.heap.size + 1) w1.heap.size 0 p o s c l := by
      have := heap_alloc_new (w1.alloc (.cells (bcells tz50) 5)) (.cells #[.int .i64 p, .int .i64 o, .int .i64 s, .int .i64 c, .bool l, .slice (some ⟨w1.heap.size, 0, none⟩) 0 50] 175)
      simpa [Wr] using this
    have A1 : Arr ((w1.alloc (.cells (bcells tz50) 5)).alloc (.cells #[.int .i64 p, .int .i64 o, .int .i64 s, .int .i64 c, .bool l, .slice (some ⟨w1.heap.size, 0, none⟩) 0 50] 175)) w1.heap.size 5 tz50 := (Arr.new w1 5 tz50).alloc _
    have hs2 : ((w1.alloc (.cells (bcells tz50) 5)).alloc (.cells #[.int .i64 p, .int .i64 o, .int .i64 s, .int .i64 c, .bool l, .slice (some ⟨w1.heap.size, 0, none⟩) 0 50] 175)).drew.heap.size = w1.heap.size + 2 := by simp
    refine ⟨Wr.other (w := (w1.alloc (.cells (bcells tz50) 5)).alloc (.cells #[.int .i64 p, .int .i64 o, .int .i64 s, .int .i64 c, .bool l, .slice (some ⟨w1.heap.size, 0, none⟩) 0 50] 175)) W1 (Below.heap_alloc _ _ _ W1.lt), ?_, ?_, ?_⟩
    · rw [row0]
      exact Arr.alloc (w := ((w1.alloc (.cells (bcells tz50) 5)).alloc (.cells #[.int .i64 p, .int .i64 o, .int .i64 s, .int .i64 c, .bool l, .slice (some ⟨w1.heap.size, 0, none⟩) 0 50] 175)).drew) A1 _
    · have := heap_alloc_new ((w1.alloc (.cells (bcells tz50) 5)).alloc (.cells #[.int .i64 p, .int .i64 o, .int .i64 s, .int .i64 c, .bool l, .slice (some ⟨w1.heap.size, 0, none⟩) 0 50] 175)).drew (.cells #[.func (.func 102) #[.pointer (some ⟨w1.heap.size + 1, 0, none⟩)] #[], .func (.func 103) #[.pointer (some ⟨w1.heap.size + 1, 0, none⟩)] #[], .func (.func 104) #[.pointer (some ⟨w1.heap.size + 1, 0, none⟩)] #[], .func (.func 105) #[.pointer (some ⟨w1.heap.size + 1, 0, none⟩)] #[], .func (.func 106) #[.pointer (some ⟨w1.heap.size + 1, 0, none⟩)] #[]] 176)
      rw [hs2] at this
      exact this
    · exact (((G01.alloc _).alloc _).drew).alloc _
  go_loopw [30] (fun t wr => ∃ k : Nat, k ≤ 5 ∧ t = .int .i64 k ∧ Stg w wr g k p o s c l) (fun t _ => 5 - (intOf t).toNat)
  case atStart => exact ⟨0, by decide, rfl, S0⟩
  case round =>
    obtain ⟨k, hk, rfl, hS⟩ := hrel
    obtain ⟨a1, a2, a3, a4⟩ := hS
    obtain ⟨f0, f1, f2, f3, f4⟩ := a3.cells
    rcases (by omega : k = 0 ∨ k = 1 ∨ k = 2 ∨ k = 3 ∨ k = 4 ∨ k = 5) with rfl | rfl | rfl | rfl | rfl | rfl
    · have hcall := layPlace_any wr (g + 1) g 0 p o s c l (row p o s c l 0) (by simpa [pre, bts_length] using a1) a2 (row_length p o s c l 0 (by decide)) (by omega) HM.out.pl (by decide)
      have HS := hyd (show Stg w wr g 0 p o s c l from ⟨a1, a2, a3, a4⟩)
      clear a1 a2 a3 a4 S0
      go_wp2_with fail
      refine hcall.mono ?_
      rintro e w2 ⟨rfl, b1, b2, b3⟩
      rw [row_step1] at b2
      have HN : Hid (Stg w w2 g 1 p o s c l) := hyd (HS.out.next hg (by simp [pre, bts_length]) b1 b2 b3)
      clear b1 b2 b3 hcall f0 f1 f2 f3 f4
      go_wp2
      exact ⟨⟨1, by decide, rfl, HN.out⟩, by simp [intOf]⟩
    · have hcall := layOf_any wr (g + 1) g 2 o p s c l (row p o s c l 1) (by simpa [pre, bts_length] using a1) a2 (row_length p o s c l 1 (by decide)) (by omega) HM.out.ol (by decide)
      have HS := hyd (show Stg w wr g 1 p o s c l from ⟨a1, a2, a3, a4⟩)
      clear a1 a2 a3 a4 S0
      go_wp2_with fail
      refine hcall.mono ?_
      rintro e w2 ⟨rfl, b1, b2, b3⟩
      rw [row_step2] at b2
      have HN : Hid (Stg w w2 g 2 p o s c l) := hyd (HS.out.next hg (by simp [pre, bts_length]) b1 b2 b3)
      clear b1 b2 b3 hcall f0 f1 f2 f3 f4
      go_wp2
      exact ⟨⟨2, by decide, rfl, HN.out⟩, by simp [intOf]⟩
    · have hcall := laySeq_any wr (g + 1) g 3 s p o c l (row p o s c l 2) (by simpa [pre, bts_length] using a1) a2 (row_length p o s c l 2 (by decide)) (by omega) HM.out.sl (by decide)
      have HS := hyd (show Stg w wr g 2 p o s c l from ⟨a1, a2, a3, a4⟩)
      clear a1 a2 a3 a4 S0
      go_wp2_with fail
      refine hcall.mono ?_
      rintro e w2 ⟨rfl, b1, b2, b3⟩
      rw [row_step3] at b2
      have HN : Hid (Stg w w2 g 3 p o s c l) := hyd (HS.out.next hg (by simp [pre, bts_length]) b1 b2 b3)
      clear b1 b2 b3 hcall f0 f1 f2 f3 f4
      go_wp2
      exact ⟨⟨3, by decide, rfl, HN.out⟩, by simp [intOf]⟩
    · have hcall := layCopy_any wr (g + 1) g 8 c p o s l (row p o s c l 3) (by simpa [pre, bts_length] using a1) a2 (row_length p o s c l 3 (by decide)) (by omega) HM.out.cl (by decide)
      have HS := hyd (show Stg w wr g 3 p o s c l from ⟨a1, a2, a3, a4⟩)
      clear a1 a2 a3 a4 S0
      go_wp2_with fail
      refine hcall.mono ?_
      rintro e w2 ⟨rfl, b1, b2, b3⟩
      rw [row_step4] at b2
      have HN : Hid (Stg w w2 g 4 p o s c l) := hyd (HS.out.next hg (by simp [pre, bts_length]) b1 b2 b3)
      clear b1 b2 b3 hcall f0 f1 f2 f3 f4
      go_wp2
      exact ⟨⟨4, by decide, rfl, HN.out⟩, by simp [intOf]⟩
    · have hcall := layLost_any wr (g + 1) g 9 p o s c l (row p o s c l 4) (by simpa [pre, bts_length] using a1) a2 (row_length p o s c l 4 (by decide)) (by omega) (by decide)
      have HS := hyd (show Stg w wr g 4 p o s c l from ⟨a1, a2, a3, a4⟩)
      clear a1 a2 a3 a4 S0
      go_wp2_with fail
      refine hcall.mono ?_
      rintro e w2 ⟨rfl, b1, b2, b3⟩
      rw [row_step5] at b2
      have HN : Hid (Stg w w2 g 5 p o s c l) := hyd (HS.out.next hg (by simp [pre, bts_length]) b1 b2 b3)
      clear b1 b2 b3 hcall f0 f1 f2 f3 f4
      go_wp2
      exact ⟨⟨5, by decide, rfl, HN.out⟩, by simp [intOf]⟩
    · have HS := hyd (show Stg w wr g 5 p o s c l from ⟨a1, a2, a3, a4⟩)
      have hpl : (pre p o s c l 5).length = 10 := by simp [pre, bts_length]
      rw [hpl] at a1
      obtain ⟨-, -, -, -, -, k5, -⟩ := a1.cells
      clear a1 a2 a3 a4 S0 f0 f1 f2 f3 f4 hpl
      go_wp2
      go_ret2
      exact ⟨g, rfl, by omega, HS.out.2.1, HS.out.2.2.2⟩
end Go.Proofs.YtifjmilegogbaaaGreat
