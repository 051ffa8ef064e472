/-
  TopPages: bytes turned by masks at places: twice is as it was; few places are few bytes. The tag that it makes. No condition: lemmas, and contracts of some, tagOf, cells.
-/
import Derived.Test.YtifjmilegogbaaaGreatMMends
namespace Go.Proofs.YtifjmilegogbaaaGreat
open Go.RowKit
set_option maxRecDepth 100000

theorem xorAt_getD (l : List Nat) {b : Nat} (hb : b < l.length) (v c : Nat) : (addAt l b v).getD c 0 = l.getD c 0 ^^^ (if c = b then v else 0) := by
  by_cases e : c = b
  · subst e
    rw [if_pos rfl, addAt, List.getD_eq_getElem?_getD, List.getElem?_set_self hb]
    rfl
  · rw [if_neg e, Nat.xor_zero, addAt, List.getD_eq_getElem?_getD, List.getElem?_set_ne (fun h => e h.symm), List.getD_eq_getElem?_getD]
/-- A place that came up ahead. -/
def seen (P : Nat → Nat) (i b : Nat) : Bool := (List.range i).any fun j => P j == b
theorem seen_succ (P : Nat → Nat) (i b : Nat) : seen P (i + 1) b = (seen P i b || (P i == b)) := by
  unfold seen
  rw [List.range_succ, List.any_append]
  simp
/-- The first n places are turned, each once. -/
def cl (l : List Nat) (P M : Nat → Nat) : Nat → List Nat
  | 0 => l
  | i + 1 => if seen P i (P i) = true then cl l P M i else addAt (cl l P M i) (P i) (M i)
theorem cl_length (l : List Nat) (P M : Nat → Nat) : ∀ n, (cl l P M n).length = l.length := by
  intro n
  induction n with
  | zero => rfl
  | succ n ih =>
    show (if _ then cl l P M n else addAt (cl l P M n) (P n) (M n)).length = _
    split
    · exact ih
    · rw [addAt_length, ih]
theorem cl_bys {l : List Nat} (hl : Bys l) {P M : Nat → Nat} (hM : ∀ i, M i < 256) : ∀ n, Bys (cl l P M n) := by
  intro n
  induction n with
  | zero => exact hl
  | succ n ih =>
    show Bys (if _ then cl l P M n else addAt (cl l P M n) (P n) (M n))
    split
    · exact ih
    · intro x hx
      rcases List.mem_or_eq_of_mem_set hx with h | h
      · exact ih x h
      · rw [h]
        exact Nat.xor_lt_two_pow (n := 8) (ih.getD (P n)) (hM n)
/-- What the places are turned by. -/
def clV (P M : Nat → Nat) : Nat → Nat → Nat
  | 0, _ => 0
  | i + 1, c => if seen P i (P i) = true then clV P M i c else clV P M i c ^^^ (if c = P i then M i else 0)
theorem cl_getD (l : List Nat) {P M : Nat → Nat} (hP : ∀ i, P i < l.length) (c : Nat) : ∀ n, (cl l P M n).getD c 0 = l.getD c 0 ^^^ clV P M n c := by
  intro n
  induction n with
  | zero => rw [clV, Nat.xor_zero]; rfl
  | succ n ih =>
    show (if _ then cl l P M n else addAt (cl l P M n) (P n) (M n)).getD c 0 = l.getD c 0 ^^^ (if _ then clV P M n c else _)
    split
    · exact ih
    · rw [xorAt_getD _ (by rw [cl_length]; exact hP n), ih, Nat.xor_assoc]
theorem cl_cl (l : List Nat) {P M : Nat → Nat} (hP : ∀ i, P i < l.length) (n : Nat) : cl (cl l P M n) P M n = l := by
  apply List.ext_getElem (by rw [cl_length, cl_length])
  intro c h1 h2
  have h := cl_getD (cl l P M n) (P := P) (M := M) (fun i => by rw [cl_length]; exact hP i) c n
  rw [cl_getD l hP c n, Nat.xor_assoc, Nat.xor_self, Nat.xor_zero, List.getD_eq_getElem?_getD, List.getD_eq_getElem?_getD, List.getElem?_eq_getElem h1, List.getElem?_eq_getElem h2] at h
  exact h
theorem cl_ds (l : List Nat) (P M : Nat → Nat) : ∀ n, ds (cl l P M n) l ≤ n := by
  intro n
  induction n with
  | zero => exact Nat.le_of_eq (ds_self l)
  | succ n ih =>
    show ds (if seen P n (P n) = true then cl l P M n else addAt (cl l P M n) (P n) (M n)) l ≤ n + 1
    split
    · exact Nat.le_succ_of_le ih
    · have h1 := ds_tri (addAt (cl l P M n) (P n) (M n)) (cl l P M n) l
      have h2 : ds (addAt (cl l P M n) (P n) (M n)) (cl l P M n) ≤ 1 := ds_close (k := P n) (fun i hi => by
        rw [addAt, List.getD_eq_getElem?_getD, List.getElem?_set_ne (fun e => hi e.symm), List.getD_eq_getElem?_getD])
      exact Nat.le_trans h1 (by rw [Nat.add_comm n 1]; exact Nat.add_le_add h2 ih)
theorem low_bit : ∀ m : Fin 256, ∀ x : Fin 8, (m.val % 2 ^ (x.val + 1)) = (m.val % 2 ^ x.val) ^^^ (if m.val / 2 ^ x.val % 2 = 1 then 2 ^ x.val else 0) := by decide +kernel
theorem bit_at : ∀ m : Fin 256, ∀ x : Fin 8, (bits BinOp.and IntKind.u8 ((m.val : Int) / 2 ^ x.val) 1 == 1) = decide (m.val / 2 ^ x.val % 2 = 1) := by decide +kernel
theorem addAt_addAt {l : List Nat} {b : Nat} (hb : b < l.length) (v u : Nat) : addAt (addAt l b v) b u = addAt l b (v ^^^ u) := by
  unfold addAt
  rw [List.set_set]
  congr 1
  rw [List.getD_eq_getElem?_getD, List.getElem?_set_self hb]
  show (l.getD b 0 ^^^ v) ^^^ u = _
  rw [Nat.xor_assoc]
theorem addAt_zero {l : List Nat} {b : Nat} (hb : b < l.length) : addAt l b 0 = l := by
  unfold addAt
  rw [Nat.xor_zero, List.getD_eq_getElem?_getD, List.getElem?_eq_getElem hb]
  exact List.set_getElem_self hb
/-- The place of the i-th byte. -/
def posn (fr st : Int) (i : Nat) : Nat := pkN (wrap64 (fr + (i : Int) * (1 + (pkN st 60 : Nat)))) 64
theorem posn_lt (fr st : Int) (i : Nat) : posn fr st i < 64 := pkN_lt _ (by omega)
theorem and_low (x : Int) : ∃ n : Nat, n ≤ 1099511627775 ∧ bits BinOp.and IntKind.i64 x 1099511627775 = (n : Int) := by
  refine ⟨(BitVec.ofInt 64 x &&& BitVec.ofInt 64 1099511627775).toNat, ?_, ?_⟩
  · rw [BitVec.toNat_and]
    exact Nat.le_trans Nat.and_le_right (by decide)
  · have h : (BitVec.ofInt 64 x &&& BitVec.ofInt 64 1099511627775).toNat ≤ 1099511627775 := by
      rw [BitVec.toNat_and]
      exact Nat.le_trans Nat.and_le_right (by decide)
    show IntKind.i64.wrap ((BitVec.ofInt 64 x &&& BitVec.ofInt 64 1099511627775).toNat : Int) = _
    generalize (BitVec.ofInt 64 x &&& BitVec.ofInt 64 1099511627775).toNat = n at *
    unfold IntKind.wrap
    simp [IntKind.bits, IntKind.signed]
    omega
theorem some_96 (c : Int) (h1 : -9223372036854775808 ≤ c) (h2 : c ≤ 9223372036854775807) (w : World) :
    Calls Tryz.prog 29 #[.int .i64 c, .int .i64 96] w fun e w' => e = .returned (.int .i64 (pkN c 96 : Nat)) ∧ w' = w := by
  unfold pkN
  by_cases hc : c < 0
  · have HE := hyd (neg_rem hc 96)
    rw [if_pos hc]
    go_enter Tryz.func29, Tryz.ntmps29
    go_wp2
    go_ret
    have e : ((((-(c + 1)) % (96 : Int)).toNat : Nat) : Int) = -((c + 1).tmod 96) := by rw [HE.out]; omega
    refine ⟨?_, rfl⟩
    show Ending.returned (.int .i64 (-((c + 1).tmod 96))) = .returned (.int .i64 ((((-(c + 1)) % (96 : Int)).toNat : Nat) : Int))
    rw [e]
  · rw [if_neg hc]
    go_enter Tryz.func29, Tryz.ntmps29
    go_wp2
    go_ret
    rw [show max (c % 96) 0 = c % 96 from by omega]
    exact ⟨rfl, rfl⟩
theorem some_60 (c : Int) (h1 : -9223372036854775808 ≤ c) (h2 : c ≤ 9223372036854775807) (w : World) :
    Calls Tryz.prog 29 #[.int .i64 c, .int .i64 60] w fun e w' => e = .returned (.int .i64 (pkN c 60 : Nat)) ∧ w' = w := by
  unfold pkN
  by_cases hc : c < 0
  · have HE := hyd (neg_rem hc 60)
    rw [if_pos hc]
    go_enter Tryz.func29, Tryz.ntmps29
    go_wp2
    go_ret
    have e : ((((-(c + 1)) % (60 : Int)).toNat : Nat) : Int) = -((c + 1).tmod 60) := by rw [HE.out]; omega
    refine ⟨?_, rfl⟩
    show Ending.returned (.int .i64 (-((c + 1).tmod 60))) = .returned (.int .i64 ((((-(c + 1)) % (60 : Int)).toNat : Nat) : Int))
    rw [e]
  · rw [if_neg hc]
    go_enter Tryz.func29, Tryz.ntmps29
    go_wp2
    go_ret
    rw [show max (c % 60) 0 = c % 60 from by omega]
    exact ⟨rfl, rfl⟩
theorem some_64 (c : Int) (h1 : -9223372036854775808 ≤ c) (h2 : c ≤ 9223372036854775807) (w : World) :
    Calls Tryz.prog 29 #[.int .i64 c, .int .i64 64] w fun e w' => e = .returned (.int .i64 (pkN c 64 : Nat)) ∧ w' = w := by
  unfold pkN
  by_cases hc : c < 0
  · have HE := hyd (neg_rem hc 64)
    rw [if_pos hc]
    go_enter Tryz.func29, Tryz.ntmps29
    go_wp2
    go_ret
    have e : ((((-(c + 1)) % (64 : Int)).toNat : Nat) : Int) = -((c + 1).tmod 64) := by rw [HE.out]; omega
    refine ⟨?_, rfl⟩
    show Ending.returned (.int .i64 (-((c + 1).tmod 64))) = .returned (.int .i64 ((((-(c + 1)) % (64 : Int)).toNat : Nat) : Int))
    rw [e]
  · rw [if_neg hc]
    go_enter Tryz.func29, Tryz.ntmps29
    go_wp2
    go_ret
    rw [show max (c % 64) 0 = c % 64 from by omega]
    exact ⟨rfl, rfl⟩
theorem some_25 (c : Int) (h1 : -9223372036854775808 ≤ c) (h2 : c ≤ 9223372036854775807) (w : World) :
    Calls Tryz.prog 29 #[.int .i64 c, .int .i64 25] w fun e w' => e = .returned (.int .i64 (pkN c 25 : Nat)) ∧ w' = w := by
  unfold pkN
  by_cases hc : c < 0
  · have HE := hyd (neg_rem hc 25)
    rw [if_pos hc]
    go_enter Tryz.func29, Tryz.ntmps29
    go_wp2
    go_ret
    have e : ((((-(c + 1)) % (25 : Int)).toNat : Nat) : Int) = -((c + 1).tmod 25) := by rw [HE.out]; omega
    refine ⟨?_, rfl⟩
    show Ending.returned (.int .i64 (-((c + 1).tmod 25))) = .returned (.int .i64 ((((-(c + 1)) % (25 : Int)).toNat : Nat) : Int))
    rw [e]
  · rw [if_neg hc]
    go_enter Tryz.func29, Tryz.ntmps29
    go_wp2
    go_ret
    rw [show max (c % 25) 0 = c % 25 from by omega]
    exact ⟨rfl, rfl⟩
theorem some_256 (c : Int) (h1 : -9223372036854775808 ≤ c) (h2 : c ≤ 9223372036854775807) (w : World) :
    Calls Tryz.prog 29 #[.int .i64 c, .int .i64 256] w fun e w' => e = .returned (.int .i64 (pkN c 256 : Nat)) ∧ w' = w := by
  unfold pkN
  by_cases hc : c < 0
  · have HE := hyd (neg_rem hc 256)
    rw [if_pos hc]
    go_enter Tryz.func29, Tryz.ntmps29
    go_wp2
    go_ret
    have e : ((((-(c + 1)) % (256 : Int)).toNat : Nat) : Int) = -((c + 1).tmod 256) := by rw [HE.out]; omega
    refine ⟨?_, rfl⟩
    show Ending.returned (.int .i64 (-((c + 1).tmod 256))) = .returned (.int .i64 ((((-(c + 1)) % (256 : Int)).toNat : Nat) : Int))
    rw [e]
  · rw [if_neg hc]
    go_enter Tryz.func29, Tryz.ntmps29
    go_wp2
    go_ret
    rw [show max (c % 256) 0 = c % 256 from by omega]
    exact ⟨rfl, rfl⟩
theorem some_4 (c : Int) (h1 : -9223372036854775808 ≤ c) (h2 : c ≤ 9223372036854775807) (w : World) :
    Calls Tryz.prog 29 #[.int .i64 c, .int .i64 4] w fun e w' => e = .returned (.int .i64 (pkN c 4 : Nat)) ∧ w' = w := by
  unfold pkN
  by_cases hc : c < 0
  · have HE := hyd (neg_rem hc 4)
    rw [if_pos hc]
    go_enter Tryz.func29, Tryz.ntmps29
    go_wp2
    go_ret
    have e : ((((-(c + 1)) % (4 : Int)).toNat : Nat) : Int) = -((c + 1).tmod 4) := by rw [HE.out]; omega
    refine ⟨?_, rfl⟩
    show Ending.returned (.int .i64 (-((c + 1).tmod 4))) = .returned (.int .i64 ((((-(c + 1)) % (4 : Int)).toNat : Nat) : Int))
    rw [e]
  · rw [if_neg hc]
    go_enter Tryz.func29, Tryz.ntmps29
    go_wp2
    go_ret
    rw [show max (c % 4) 0 = c % 4 from by omega]
    exact ⟨rfl, rfl⟩

theorem Tg.frozen {w : World} {b : Nat} {p o s c : Int} {l : Bool} (h : Tg w b p o s c l) (i : Nat) : w.frozen? ⟨b, i, none⟩ = false := by
  have h' : w.heap[b]? = some _ := h
  simp [World.frozen?, h']
theorem Tg.set1 {w : World} {b : Nat} {p o s c : Int} {l : Bool} (h : Tg w b p o s c l) (o' : Int) : Tg (w.setCell ⟨b, 1, none⟩ (.int .i64 o')) b p o' s c l := heap_setCell_same w b 1 _ 28 _ h
theorem build28t (w : World) (p o s c : Int) : (Instr.build 28 #[(0, .int .i64 p), (1, .int .i64 o), (2, .int .i64 s), (3, .int .i64 c)]).run Tryz.prog w = .ok (.agg #[.int .i64 p, .int .i64 o, .int .i64 s, .int .i64 c, .bool false]) w := by kernel_rfl
set_option maxHeartbeats 1000000 in
theorem tagOf_any (p : Nat) (hp : p < 96) (of sq : Int) (h1 : -9223372036854775808 ≤ of) (h2 : of ≤ 9223372036854775807) (w : World) :
    Calls Tryz.prog 30 #[.int .i64 (p : Nat), .int .i64 of, .int .i64 sq] w fun e w' => ∃ o s c : Nat, May p o s c false ∧ e = .returned (.agg #[.int .i64 (p : Nat), .int .i64 (o : Nat), .int .i64 (s : Nat), .int .i64 (c : Nat), .bool false]) ∧ Chg (fun _ => False) w w' := by
  obtain ⟨n, hn, he⟩ := and_low sq
  have hnI : (n : Int) ≤ 1099511627775 := by omega
  have hb := fun (w : World) (o s c : Int) => build28t w (p : Nat) o s c
  have h25 := some_25 of h1 h2
  obtain ⟨o, ho, hoe⟩ : ∃ o, o < 25 ∧ pkN of 25 = o := ⟨_, pkN_lt of (by omega), rfl⟩
  rw [hoe] at h25
  have hm25 := hyd ho
  clear ho hoe
  have k256 := pkN_lt (of.tdiv 25) (n := 256) (by omega)
  have hq : -9223372036854775808 ≤ of.tdiv 25 ∧ of.tdiv 25 ≤ 9223372036854775807 := by
    rcases Int.le_total 0 of with h | h
    · rw [Int.tdiv_eq_ediv_of_nonneg h]
      omega
    · have e : of.tdiv 25 = -((-of) / 25) := by rw [← Int.tdiv_eq_ediv_of_nonneg (show (0 : Int) ≤ -of by omega), Int.neg_tdiv, Int.neg_neg]
      rw [e]
      omega
  have HT := hyd (Tg.new w 0 0 0 0 false)
  have hs0 : (w.alloc (.cells #[.int .i64 0, .int .i64 0, .int .i64 0, .int .i64 0, .bool false] 28)).heap.size = w.heap.size + 1 := by simp
  have G0 : Chg (fun _ => False) w (w.alloc (.cells #[.int .i64 0, .int .i64 0, .int .i64 0, .int .i64 0, .bool false] 28)) := (Chg.refl _ w).alloc _
  go_enter Tryz.func30, Tryz.ntmps30
  go_wp2_with fail
  refine (h25 _).mono ?_
  rintro x w1 ⟨rfl, rfl⟩
  clear h25
  go_wp2_with fail
  refine (some_256 _ hq.1 hq.2 _).mono ?_
  rintro x w1 ⟨rfl, rfl⟩
  generalize pkN (of.tdiv 25) 256 = c at *
  have HG := hyd G0
  clear G0
  generalize w.alloc (.cells #[.int .i64 0, .int .i64 0, .int .i64 0, .int .i64 0, .bool false] 28) = w1 at *
  have V1 := Tg.new w1 (p : Nat) (o : Nat) (1 + (n : Int) % 1099511627774) (c : Nat) false
  have T1 := HT.out.alloc (.cells #[.int .i64 (p : Nat), .int .i64 (o : Nat), .int .i64 (1 + (n : Int) % 1099511627774), .int .i64 (c : Nat), .bool false] 28)
  have G1 := HG.out.alloc (.cells #[.int .i64 (p : Nat), .int .i64 (o : Nat), .int .i64 (1 + (n : Int) % 1099511627774), .int .i64 (c : Nat), .bool false] 28)
  have esv : (1 + (n : Int) % 1099511627774) = ((1 + n % 1099511627774 : Nat) : Int) := by omega
  have HE := hyd esv
  clear esv
  by_cases h6 : p % 8 < 6
  · have h6' : ¬ (6 : Int) ≤ (p : Int) % 8 := by omega
    obtain ⟨v0, v1, v2, v3, v4⟩ := V1.cells
    have HT1 := hyd T1
    have HG1 := hyd G1
    clear T1 V1 G1
    go_wp2_with (refine wpList_store_tag rfl (.tmp 6) (.tmp 23) rfl w.heap.size rfl rfl HT1.out ?_)
    intro w3 T3 G3
    have HT3 := hyd T3
    have HG3 := hyd (HG1.out.trans' G3 (fun i hi e => by omega))
    clear T3 G3 v0 v1 v2 v3 v4
    go_wp2
    refine bodyPost_ret (results_cell_row rfl _ _ w.heap.size 28 _ _ _ rfl HT3.out Tryz.underlying28 rfl size23) rfl ?_
    rw [HE.out]
    exact ⟨o, 1 + n % 1099511627774, c, ⟨by have := hm25.out; unfold Inb; omega, if e : ((o : Nat) : Int) = 24 then Or.inl ⟨e, rfl⟩ else Or.inr ⟨e, by omega⟩⟩, rfl, HG3.out⟩
  · have h6' : (6 : Int) ≤ (p : Int) % 8 := by omega
    obtain ⟨v0, v1, v2, v3, v4⟩ := V1.cells
    have V2 := Tg.new w1 (p : Nat) 24 (1 + (n : Int) % 1099511627774) (c : Nat) false
    have T2 := HT.out.alloc (.cells #[.int .i64 (p : Nat), .int .i64 24, .int .i64 (1 + (n : Int) % 1099511627774), .int .i64 (c : Nat), .bool false] 28)
    have G2 := HG.out.alloc (.cells #[.int .i64 (p : Nat), .int .i64 24, .int .i64 (1 + (n : Int) % 1099511627774), .int .i64 (c : Nat), .bool false] 28)
    have HT1 := hyd T2
    have HG1 := hyd G2
    have HV2 := hyd V2
    clear T1 V1 G1 T2 V2 G2
    go_wp2_with (first | (refine wpList_load_tag rfl (.tmp 7) rfl w1.heap.size rfl HV2.out ?_) | (refine wpList_store_tag rfl (.tmp 6) (.tmp 23) rfl w.heap.size rfl rfl HT1.out ?_))
    intro w3 T3 G3
    have HT3 := hyd T3
    have HG3 := hyd (HG1.out.trans' G3 (fun i hi e => by omega))
    clear T3 G3 v0 v1 v2 v3 v4
    go_wp2
    refine bodyPost_ret (results_cell_row rfl _ _ w.heap.size 28 _ _ _ rfl HT3.out Tryz.underlying28 rfl size23) rfl ?_
    rw [HE.out]
    exact ⟨24, 1 + n % 1099511627774, c, ⟨by unfold Inb; omega, Or.inl ⟨rfl, rfl⟩⟩, rfl, HG3.out⟩
/-- The places that came up ahead. -/
def Had (w : World) (H : Nat) (P : Nat → Nat) (i : Nat) : Prop := Row w H 128 64 (fun b => .bool (seen P i b))
/-- What cells does to a chip. -/
structure CelR (s s' : Chp) (p k : Nat) (P M : Nat → Nat) (n : Nat) : Prop where
  ok : s'.Ok
  on : s'.on = s.on
  far : ∀ j, j ≠ 4 * p + k → s'.ch j = s.ch j
  tru : (s'.ch (4 * p + k)).tru = (s.ch (4 * p + k)).tru
  now : (s'.ch (4 * p + k)).now = cl (s.ch (4 * p + k)).now P M n
/-- A byte is being turned bit by bit. -/
structure ByR (s s' : Chp) (p k b v : Nat) : Prop where
  ok : s'.Ok
  on : s'.on = s.on
  far : ∀ j, j ≠ 4 * p + k → s'.ch j = s.ch j
  tru : (s'.ch (4 * p + k)).tru = (s.ch (4 * p + k)).tru
  now : (s'.ch (4 * p + k)).now = addAt (s.ch (4 * p + k)).now b v
theorem ByR.start {s : Chp} (hs : s.Ok) {p k b : Nat} (hb : b < 64) : ByR s s p k b 0 := ⟨hs, rfl, fun _ _ => rfl, rfl, (addAt_zero (by rw [(hs.ch _).now]; exact hb)).symm⟩
theorem ByR.flip {s s' : Chp} (hs : s.Ok) {p k b v x : Nat} (h : ByR s s' p k b v) (hp : p < 96) (hk : k < 4) (hb : b < 64) (hx : x < 8) : ByR s (flipR s' (p : Nat) (((k * 64 + b) * 8 + x : Nat) : Int)).1 p k b (v ^^^ 2 ^ x) := by
  have hok := flipR_ok h.ok (p : Nat) (((k * 64 + b) * 8 + x : Nat) : Int)
  rw [flip_eq s' hp (by omega)] at hok ⊢
  have e1 : 4 * p + ((k * 64 + b) * 8 + x) / 512 = 4 * p + k := by omega
  have e2 : ((k * 64 + b) * 8 + x) / 8 % 64 = b := by omega
  have e3 : ((k * 64 + b) * 8 + x) % 8 = x := by omega
  rw [e1, e2, e3] at hok ⊢
  refine ⟨hok, h.on, fun j hj => ?_, ?_, ?_⟩
  · show (if j = 4 * p + k then _ else s'.ch j) = _
    rw [if_neg hj]
    exact h.far j hj
  · show (if 4 * p + k = 4 * p + k then turnK _ _ _ else s'.ch _).tru = _
    rw [if_pos rfl]
    exact h.tru
  · show (if 4 * p + k = 4 * p + k then turnK _ _ _ else s'.ch _).now = _
    rw [if_pos rfl]
    show addAt (s'.ch (4 * p + k)).now b (2 ^ x) = _
    rw [h.now, addAt_addAt (by rw [(hs.ch _).now]; exact hb)]
theorem had_new (w : World) (P : Nat → Nat) : Had (w.alloc (.cells (List.replicate 64 (.bool false)).toArray 128)) w.heap.size P 0 :=
  (blk_new w _ 128 64 rfl).row.ext fun i hi => by
    have h : ((List.replicate 64 (Value.bool false)).toArray)[i]? = some (.bool false) := by
      rw [List.getElem?_toArray, List.getElem?_replicate_of_lt hi]
    show ((List.replicate 64 (Value.bool false)).toArray)[i]?.getD undef = _
    rw [h]
    rfl
theorem Had.same {w : World} {H : Nat} {P : Nat → Nat} {i : Nat} (h : Had w H P i) (hs : seen P i (P i) = true) : Had w H P (i + 1) :=
  Row.ext h fun b _ => by
    show Value.bool (seen P i b) = .bool (seen P (i + 1) b)
    rw [seen_succ]
    by_cases e : P i = b
    · subst e; rw [hs]; rfl
    · rw [show (P i == b) = false from by simp [e], Bool.or_false]
theorem Had.more {w : World} {H : Nat} {P : Nat → Nat} {i : Nat} (h : Had w H P i) : Had (w.setCell ⟨H, P i, none⟩ (.bool true)) H P (i + 1) :=
  (Row.setCell h (P i) (.bool true)).ext fun b _ => by
    rw [upL_one]
    show (if b = P i then Value.bool true else .bool (seen P i b)) = .bool (seen P (i + 1) b)
    rw [seen_succ]
    by_cases e : b = P i
    · subst e; rw [if_pos rfl]; simp
    · rw [if_neg e, show (P i == b) = false from by simp; exact fun h => e h.symm, Bool.or_false]
theorem CelR.skip {s s' : Chp} {p k : Nat} {P M : Nat → Nat} {i : Nat} (h : CelR s s' p k P M i) (hs : seen P i (P i) = true) : CelR s s' p k P M (i + 1) :=
  ⟨h.ok, h.on, h.far, h.tru, by rw [h.now]; show _ = if _ then _ else _; rw [if_pos hs]⟩
theorem CelR.step {s s' s2 : Chp} {p k : Nat} {P M : Nat → Nat} {i : Nat} (h : CelR s s' p k P M i) (hs : ¬ seen P i (P i) = true) (h2 : ByR s' s2 p k (P i) (M i)) : CelR s s2 p k P M (i + 1) :=
  ⟨h2.ok, h2.on.trans h.on, fun j hj => (h2.far j hj).trans (h.far j hj), h2.tru.trans h.tru, by rw [h2.now, h.now]; show _ = if _ then _ else _; rw [if_neg hs]⟩
set_option maxHeartbeats 4000000 in
theorem cells_any (g : Nat) (s : Chp) (hs : s.Ok) (p k : Nat) (hp : p < 96) (hk : k < 4) (fr st : Int) (hs1 : -9223372036854775808 ≤ st) (hs2 : st ≤ 9223372036854775807) (a : Option Addr) (cap : Nat) (l : List Nat) (bl : Bys l) (hll : l.length < 9223372036854775808) (many : Nat) (hmany : many ≤ 4) (w : World) (hC : ChipAt w g s) (hH : Held w (.slice a l.length cap) l) (hq : l.length ≠ 0 → ∀ x, a = some x → x.block ≠ g) :
    Calls Tryz.prog 31 #[.pointer (some ⟨g, 0, none⟩), .int .i64 (p : Nat), .int .i64 (k : Nat), .int .i64 fr, .int .i64 st, .slice a l.length cap, .int .i64 (many : Nat)] w fun e w' => e = .returned (.tuple #[]) ∧ ∃ s', ChipAt w' g s' ∧ CelR s s' p k (posn fr st) (fun i => l.getD i 0) (min many l.length) ∧ Chg (· = g) w w' := by
  have P0 := had_new w (posn fr st)
  have G0 : Chg (fun _ => False) w (w.alloc (.cells (List.replicate 64 (.bool false)).toArray 128)) := (Chg.refl _ w).alloc _
  have C0 := hC.chg G0 (fun f => f)
  have hgl := hC.lt
  have hs0 : (w.alloc (.cells (List.replicate 64 (.bool false)).toArray 128)).heap.size = w.heap.size + 1 := by simp
  have HH := hyd hH
  have HQ := hyd hq
  clear hH hq hC
  go_enter Tryz.func31, Tryz.ntmps31
  go_wp2_with fail
  generalize hw0 : w.alloc (.cells (List.replicate 64 (.bool false)).toArray 128) = w0 at *
  have hw0' : w.alloc (.cells #[.bool false, .bool false, .bool false, .bool false, .bool false, .bool false, .bool false, .bool false, .bool false, .bool false, .bool false, .bool false, .bool false, .bool false, .bool false, .bool false, .bool false, .bool false, .bool false, .bool false, .bool false, .bool false, .bool false, .bool false, .bool false, .bool false, .bool false, .bool false, .bool false, .bool false, .bool false, .bool false, .bool false, .bool false, .bool false, .bool false, .bool false, .bool false, .bool false, .bool false, .bool false, .bool false, .bool false, .bool false, .bool false, .bool false, .bool false, .bool false, .bool false, .bool false, .bool false, .bool false, .bool false, .bool false, .bool false, .bool false, .bool false, .bool false, .bool false, .bool false, .bool false, .bool false, .bool false, .bool false] 128) = w0 := hw0
  rw [hw0']
  clear hw0 hw0'
  have HC0 := hyd C0
  have HP0 := hyd P0
  have HG0 := hyd (G0.mono (T := (· = g)) (fun _ _ f => f.elim))
  clear C0 P0 G0
  have hmI : (many : Int) ≤ 4 := by omega
  go_loopw [15] (fun t15 wr => ∃ (i : Nat) (s' : Chp), i ≤ many ∧ i ≤ l.length ∧ t15 = .int .i64 i ∧ ChipAt wr g s' ∧ CelR s s' p k (posn fr st) (fun i => l.getD i 0) i ∧ Had wr w.heap.size (posn fr st) i ∧ Chg (· = g) w wr) (fun t15 _ => many - (intOf t15).toNat)
  case atStart => exact ⟨0, s, by omega, by omega, rfl, HC0.out, ⟨hs, rfl, fun _ _ => rfl, rfl, rfl⟩, HP0.out, HG0.out⟩
  case round =>
    clear HC0 HP0 HG0
    obtain ⟨i, s', him, hil, rfl, hC, hR, hP, hG⟩ := hrel
    by_cases hlt : i < many ∧ i < l.length
    · have hl1 : (i : Int) < (many : Int) := by omega
      have hl2 : (i : Int) < (l.length : Int) := by omega
      have hl0 : (0 : Int) ≤ (i : Int) := by omega
      have h60 := some_60 st hs1 hs2
      obtain ⟨u, hu, hue⟩ : ∃ u, u < 60 ∧ pkN st 60 = u := ⟨_, pkN_lt st (by omega), rfl⟩
      rw [hue] at h60
      have hpos : posn fr st i = pkN (wrap64 (fr + (i : Int) * (1 + (u : Nat)))) 64 := by unfold posn; rw [hue]
      have hm1 : (0 : Int) ≤ (i : Int) * (1 + (u : Nat)) := Int.mul_nonneg (by omega) (by omega)
      have hm2 : (i : Int) * (1 + (u : Nat)) ≤ 4 * 60 := Int.mul_le_mul (by omega) (by omega) (by omega) (by omega)
      have huI : (u : Int) < 60 := by omega
      have HPO := hyd hpos
      have HC := hyd hC
      have HR := hyd hR
      have HP := hyd hP
      have HG := hyd hG
      clear hue hpos hC hR hP hG
      go_wp2_with fail
      refine (h60 _).mono ?_
      rintro x w1 ⟨rfl, rfl⟩
      clear h60
      have h64 := some_64 (wrap64 (fr + (i : Int) * (1 + (u : Nat)))) (wrap64_lo _) (Int.le_of_lt_add_one (wrap64_hi _))
      rw [← HPO.out] at h64
      have hb := posn_lt fr st i
      have HPS := hyd (show posn fr st i = posn fr st i from rfl)
      generalize hbb : posn fr st i = bb at h64 hb
      have HBB := hyd hbb
      clear hbb HPS
      go_wp2_with fail
      refine (h64 _).mono ?_
      rintro x w1 ⟨rfl, rfl⟩
      clear h64 hm1 hm2
      have hbI : (bb : Int) < 64 := by omega
      have hb0 : (0 : Int) ≤ (bb : Int) := by omega
      have hcell : w1.cell? ⟨w.heap.size, bb, none⟩ = some (.bool (seen (posn fr st) i bb)) := Row.cell HP.out bb hb
      have hfro := Row.frozen HP.out bb
      by_cases hsn : seen (posn fr st) i bb = true
      · rw [hsn] at hcell
        have HSN := hyd hsn
        clear hsn
        go_wp2
        rw [← HBB.out] at HSN
        exact ⟨⟨i + 1, s', by omega, by omega, by go_num, HC.out, HR.out.skip HSN.out, HP.out.same HSN.out, HG.out⟩, by simp [intOf]; omega⟩
      · have hsn' : seen (posn fr st) i bb = false := by simpa using hsn
        rw [hsn'] at hcell
        have HSN := hyd hsn
        clear hsn hsn'
        have P1 : Had (w1.setCell ⟨w.heap.size, bb, none⟩ (.bool true)) w.heap.size (posn fr st) (i + 1) := by rw [← HBB.out]; exact HP.out.more
        have G1 : Chg (· = w.heap.size) w1 (w1.setCell ⟨w.heap.size, bb, none⟩ (.bool true)) := (Chg.refl (· = w.heap.size) w1).at _ bb _
        have HP1 := hyd P1
        have HC1 := hyd (HC.out.chg G1 (by omega))
        have HG1 := hyd (HG.out.trans' G1 (fun j hj e => by omega))
        clear P1 HP HC HG G1
        go_wp2_with fail
        generalize w1.setCell ⟨w.heap.size, bb, none⟩ (.bool true) = w2 at *
        have hmb : l.getD i 0 < 256 := bl.getD i
        obtain ⟨qa, oa, rfl, hqa, hca⟩ := HH.out.at_ (by omega)
        have hqg : qa ≠ g := HQ.out (by omega) _ rfl
        have hmc : w.cell? ⟨qa, oa + i, none⟩ = some (.int .u8 (l.getD i 0 : Nat)) := hca i hlt.2
        have HMC := hyd hmc
        have HST := hyd (ByR.start HR.out.ok (p := p) (k := k) hb)
        clear hcell hfro hca hmc
        generalize hmm : l.getD i 0 = mm at hmb HMC
        have HMM := hyd hmm
        clear hmm
        go_loopw [17] (fun t17 wr => ∃ (x : Nat) (s2 : Chp), x ≤ 8 ∧ t17 = .int .i64 x ∧ ChipAt wr g s2 ∧ ByR s' s2 p k bb (mm % 2 ^ x) ∧ Had wr w.heap.size (posn fr st) (i + 1) ∧ Chg (· = g) w wr) (fun t17 _ => 8 - (intOf t17).toNat)
        case atStart => exact ⟨0, s', by omega, rfl, HC1.out, by rw [Nat.pow_zero, Nat.mod_one]; exact HST.out, HP1.out, HG1.out⟩
        case round =>
          clear HC1 HP1 HG1 HST
          obtain ⟨x, s2, hx, rfl, hC2, hB2, hP2, hG2⟩ := hrel
          by_cases hx8 : x < 8
          · have hx8' : (x : Int) < 8 := by omega
            have hx0 : (0 : Int) ≤ (x : Int) := by omega
            have hcm : wr.cell? ⟨qa, oa + i, none⟩ = some (.int .u8 (mm : Nat)) := (hG2.cell hqa hqg _).trans HMC.out
            have hlow := low_bit ⟨mm, hmb⟩ ⟨x, hx8⟩
            have HLO := hyd hlow
            have HC2 := hyd hC2
            have HB2 := hyd hB2
            have HP2 := hyd hP2
            have HG2 := hyd hG2
            have hmI2 : (mm : Int) < 256 := by omega
            clear hC2 hB2 hP2 hG2 hlow
            have hbit := bit_at ⟨mm, hmb⟩ ⟨x, hx8⟩
            simp only at hbit
            by_cases hset : mm / 2 ^ x % 2 = 1
            · rw [decide_eq_true hset] at hbit
              have hnew : mm % 2 ^ (x + 1) = mm % 2 ^ x ^^^ 2 ^ x := by
                have := HLO.out
                simp only at this
                rw [this, if_pos hset]
              have HNW := hyd hnew
              have hkI : (k : Int) < 4 := by omega
              have hk0 : (0 : Int) ≤ (k : Int) := by omega
              clear hset hnew HLO
              go_wp2_with fail
              rw [show ((k : Int) * 64 + (bb : Int)) * 8 + (x : Int) = (((k * 64 + bb) * 8 + x : Nat) : Int) from by omega]
              refine (flip_any g s2 HB2.out.ok (p : Nat) (((k * 64 + bb) * 8 + x : Nat) : Int) wr HC2.out).mono ?_
              rintro y w3 ⟨rfl, C3, G3⟩
              have HC3 := hyd C3
              have HB3 := hyd (HB2.out.flip HR.out.ok hp hk hb hx8)
              have HP3 := hyd (Row.chg HP2.out G3 (by omega))
              have HG3 := hyd (HG2.out.trans G3)
              clear C3 G3 hcm HC2 HB2 HP2 HG2
              go_wp2
              exact ⟨⟨x + 1, _, by omega, by go_num, HC3.out, by rw [HNW.out]; exact HB3.out, HP3.out, HG3.out⟩, by simp [intOf]; omega⟩
            · rw [decide_eq_false hset] at hbit
              have hnew : mm % 2 ^ (x + 1) = mm % 2 ^ x := by
                have := HLO.out
                simp only at this
                rw [this, if_neg hset, Nat.xor_zero]
              have HNW := hyd hnew
              clear hset hnew HLO
              go_wp2
              exact ⟨⟨x + 1, _, by omega, by go_num, HC2.out, by rw [HNW.out]; exact HB2.out, HP2.out, HG2.out⟩, by simp [intOf]; omega⟩
          · obtain rfl : x = 8 := by omega
            have hfull : mm % 2 ^ 8 = mm := Nat.mod_eq_of_lt hmb
            rw [hfull, ← HMM.out, ← HBB.out] at hB2
            have hst := HR.out.step (by rw [HBB.out]; exact HSN.out) hB2
            have HST2 := hyd hst
            have HC2 := hyd hC2
            have HP2 := hyd hP2
            have HG2 := hyd hG2
            clear hC2 hB2 hP2 hG2 hst hfull
            go_wp2
            exact ⟨⟨i + 1, _, by omega, by omega, by go_num, HC2.out, HST2.out, HP2.out, HG2.out⟩, by simp [intOf]; omega⟩
    · have e : min many l.length = i := by omega
      have HE := hyd e
      have HC := hyd hC
      have HR := hyd hR
      have HG := hyd hG
      clear hC hR hG hP e
      by_cases hl1 : i < many
      · have hl1' : (i : Int) < (many : Int) := by omega
        have hl2' : ¬ (i : Int) < (l.length : Int) := by omega
        go_wp2
        go_end0
        exact ⟨rfl, s', HC.out, by rw [HE.out]; exact HR.out, HG.out⟩
      · have hl1' : ¬ (i : Int) < (many : Int) := by omega
        go_wp2
        go_end0
        exact ⟨rfl, s', HC.out, by rw [HE.out]; exact HR.out, HG.out⟩
end Go.Proofs.YtifjmilegogbaaaGreat
