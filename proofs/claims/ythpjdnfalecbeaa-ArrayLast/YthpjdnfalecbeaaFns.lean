/-
  Write, Trim, Read, Clone of the program's array. Conditions: it is one.
-/
import Derived.Test.YthpjdnfalecbeaaAry
namespace Go.Proofs.Ythpjdnfalecbeaa
open Go.RowKit
set_option maxRecDepth 100000
def errA : Value := .iface 47 (.int .i64 1)
theorem write_yes (g b : Nat) (s : Nat → List Nat) (hb : b < 24) (a : Option Addr) (n cap : Nat) (l : List Nat) (hn : n = 160) (hl : l.length = 160) (w : World) (h : AryAt w g s) (hv : Held w (.slice a n cap) l) :
    Calls Try.prog 11 #[.pointer (some ⟨g, 0, none⟩), .int .i64 b, .slice a n cap] w fun e w' => e = .returned .nilIface ∧ AryAt w' g (setS s b l) ∧ Chg (· = g) w w' := by
  subst hn
  obtain ⟨a', cap', e1, e2⟩ := hv
  rcases e2 with e2 | ⟨c, o, e2, e3, e4⟩
  · rw [e2] at hl; simp at hl
  have e5 : a = a' ∧ cap = cap' := by injection e1 with p1 p2 p3; exact ⟨p1, p3⟩
  obtain ⟨rfl, rfl⟩ := e5
  clear e1
  subst e2
  have h1 : (0 : Int) ≤ b := by omega
  have h2 : (b : Int) < 24 := by omega
  have hth := Sto.there h (b * 160) 160 (by omega)
  have hsrc : ∀ j v, (l.map byt)[j]? = some v → w.cell? ((⟨c, o, none⟩ : Addr).add j) = some v := fun j v hj => by
    have hj' : j < l.length := by have := (List.getElem?_eq_some_iff.1 hj).1; rw [List.length_map] at this; exact this
    rw [Addr.add_mid, e4 j hj', ← hj, List.getElem?_map, List.getD_eq_getElem?_getD, List.getElem?_eq_getElem hj']; rfl
  have hcp := fun ty => run_copy_cells (P := Try.prog) w 36 36 ty 5 g (b * 160) 160 160 ⟨c, o, none⟩ 160 cap (l.map byt) Try.underlying36 size5 (by rw [List.length_map, hl]; rfl) hsrc (fun j hj => (hth j (by rw [List.length_map, hl] at hj; exact hj)).1) (fun j hj => (hth j (by rw [List.length_map, hl] at hj; exact hj)).2) (byt_one l)
  rw [List.length_map, hl] at hcp
  have HA : Hid (AryAt (w.setCells g (b * 160) (l.map byt)) g (setS s b l)) := by rw [Nat.mul_comm]; exact h.setS b l hl
  have HC : Hid (Chg (· = g) w (w.setCells g (b * 160) (l.map byt))) := Chg.setCells (S := (· = g)) (Or.inl rfl) _ _ (Chg.refl _ _)
  clear hsrc hl hth e4 h
  generalize w.setCells g (b * 160) (l.map byt) = w1 at *
  go_enter Try.func11, Try.ntmps11
  go_wp2_with (go_at_call 30; refine (sec_yes b hb _).mono ?_; rintro e w ⟨rfl, rfl⟩)
  go_ret
  exact ⟨rfl, HA.out, HC.out⟩
theorem write_no (g : Nat) (k : Int) (a : Option Addr) (n cap : Nat) (hk : ¬ (0 ≤ k ∧ k < 24) ∨ n ≠ 160) (w : World) :
    Calls Try.prog 11 #[.pointer (some ⟨g, 0, none⟩), .int .i64 k, .slice a n cap] w fun e w' => e = .returned errA ∧ w' = w := by
  show Calls Try.prog 11 #[.pointer (some ⟨g, 0, none⟩), .int .i64 k, .slice a n cap] w fun e w' => e = .returned (.iface 47 (.int .i64 1)) ∧ w' = w
  by_cases hs : 0 ≤ k ∧ k < 24
  · obtain ⟨b, rfl⟩ : ∃ b : Nat, k = b := ⟨k.toNat, by omega⟩
    have hb : b < 24 := by omega
    have hn : n ≠ 160 := by rcases hk with hk | hk; exact absurd hs hk; exact hk
    have h5 : ¬ ((n : Int) = 160) := by omega
    clear hs hk hn
    go_enter Try.func11, Try.ntmps11
    go_wp2_with (go_at_call 30; refine (sec_yes b hb _).mono ?_; rintro e w ⟨rfl, rfl⟩)
    go_ret
    exact ⟨rfl, rfl⟩
  · clear hk
    have HS := hyd hs
    clear hs
    go_enter Try.func11, Try.ntmps11
    go_wp2_with (go_at_call 30; refine (sec_no k HS.out _).mono ?_; rintro e w ⟨rfl, rfl⟩)
    go_ret
    exact ⟨rfl, rfl⟩
/-- clear of n bytes in the midst of a block. -/
theorem zeros_list (n : Nat) : (Builtin.zeroCells (Value.int .u8 0).cells n).toList = (List.replicate n 0).map byt := by
  have e : (Value.int .u8 0).cells = #[.int .u8 0] := rfl
  rw [e]
  unfold Builtin.zeroCells
  apply List.ext_getElem?
  intro i
  simp only [List.size_toArray, List.length_cons, List.length_nil, Nat.zero_add, Nat.mul_one, Array.toList_map, Array.toList_range, List.getElem?_map, List.getElem?_replicate, Nat.mod_one]
  by_cases h : i < n
  · rw [List.getElem?_range h, if_pos h]; rfl
  · rw [if_neg h, List.getElem?_eq_none (by simp; omega)]; rfl
theorem run_clear_bytes (w : World) (ty : TypeId) (g o cap : Nat) (n : Nat) (hth : w.there g o (n + 1)) :
    (Builtin.clear_ #[36] ty #[.slice (some ⟨g, o, none⟩) (n + 1) cap]).run Try.prog w = .ok (.tuple #[]) (w.setCells g o ((List.replicate (n + 1) 0).map byt)) := by
  have hst := run_storeCells_cells (P := Try.prog) g o ((List.replicate (n + 1) 0).map byt) 0 w (fun j hj => by simpa using (hth j (by simpa using hj)).1) (fun j hj => by simpa using (hth j (by simpa using hj)).2) (byt_one _)
  simp only [Nat.add_zero] at hst
  rw [List.map_replicate] at hst
  simp [Builtin.clear_, run_underlying Try.underlying36, zeros_list, hst]
theorem trim_yes (g b : Nat) (s : Nat → List Nat) (hb : b < 24) (w : World) (h : AryAt w g s) :
    Calls Try.prog 14 #[.pointer (some ⟨g, 0, none⟩), .int .i64 b] w fun e w' => e = .returned .nilIface ∧ AryAt w' g (setS s b z160) ∧ Chg (· = g) w w' := by
  have h1 : (0 : Int) ≤ b := by omega
  have h2 : (b : Int) < 24 := by omega
  have hcl := fun ty => run_clear_bytes w ty g (b * 160) 160 159 (Sto.there h (b * 160) 160 (by omega))
  have HA : Hid (AryAt (w.setCells g (b * 160) (z160.map byt)) g (setS s b z160)) := by rw [Nat.mul_comm]; exact h.setS b z160 z160_length
  have HC : Hid (Chg (· = g) w (w.setCells g (b * 160) (z160.map byt))) := Chg.setCells (S := (· = g)) (Or.inl rfl) _ _ (Chg.refl _ _)
  have e : List.replicate (159 + 1) 0 = z160 := rfl
  rw [e] at hcl
  clear h e
  generalize w.setCells g (b * 160) (z160.map byt) = w1 at *
  go_enter Try.func14, Try.ntmps14
  go_wp2_with (go_at_call 30; refine (sec_yes b hb _).mono ?_; rintro e w ⟨rfl, rfl⟩)
  go_ret
  exact ⟨rfl, HA.out, HC.out⟩
theorem trim_no (g : Nat) (k : Int) (hk : ¬ (0 ≤ k ∧ k < 24)) (w : World) :
    Calls Try.prog 14 #[.pointer (some ⟨g, 0, none⟩), .int .i64 k] w fun e w' => e = .returned errA ∧ w' = w := by
  show Calls Try.prog 14 #[.pointer (some ⟨g, 0, none⟩), .int .i64 k] w fun e w' => e = .returned (.iface 47 (.int .i64 1)) ∧ w' = w
  have HS := hyd hk
  clear hk
  go_enter Try.func14, Try.ntmps14
  go_wp2_with (go_at_call 30; refine (sec_no k HS.out _).mono ?_; rintro e w ⟨rfl, rfl⟩)
  go_ret
  exact ⟨rfl, rfl⟩
theorem eql_slice (a : Addr) (n c : Nat) (w : World) : (binOp .eql 36 (.slice (some a) n c) (.slice none 0 0)).run Try.prog w = .ok (.bool false) w := by kernel_rfl
theorem clone_any (w : World) (g o n cap : Nat) (D : List Nat) (hn : D.length = n) (hn0 : n ≤ 1000) (hA : ∀ j, j < n → w.cell? ⟨g, o + j, none⟩ = some (.int .u8 (D.getD j 0 : Nat))) (hg : g < w.heap.size) :
    Calls Try.prog 31 #[.slice (some ⟨g, o, none⟩) n cap] w fun e w' => ∃ v, e = .returned v ∧ Own w' w.heap.size 5 v D ∧ Chg (fun _ => False) w w' := by
  have hi5 := info5
  have hes := eql_slice ⟨g, o, none⟩ n cap
  have B0 : Own (w.alloc (.cells (bcells (List.replicate 0 0)) 5)) w.heap.size 5 (.slice (some ⟨w.heap.size, 0, none⟩) 0 0) [] := Own.new w 5 [] (by decide)
  have C0 : Chg (fun _ => False) w (w.alloc (.cells (bcells (List.replicate 0 0)) 5)) := (Chg.refl _ _).alloc _
  have HB0 := hyd B0
  have HC0 := hyd C0
  have HA := hyd hA
  have HN := hyd hn
  have HN0 := hyd hn0
  have HG := hyd hg
  clear B0 C0 hA hn hn0 hg
  go_enter Try.func31, Try.ntmps31
  go_wp2_with (at_builtin; refine wpList_append_bytes _ rfl _ _ 36 rfl w.heap.size 5 Try.underlying36 hi5 _ [] rfl HB0.out (some ⟨g, o, none⟩) n cap D rfl HN.out ?h1 ?h2 ?h3 ?h4 (w.heap.size + 1) ?h5 ?_)
  case h1 => exact fun e => by cases e
  case h2 =>
    intro ad had j hj
    injection had with had
    subst had
    have := HA.out j hj
    rw [← this]
    rw [Addr.add_mid]
    exact World.cell?_alloc_past _ _ _ HG.out
  case h3 => have := HN0.out; simp; omega
  case h4 => simp
  case h5 => simp
  intro v3 w3 O3 g3 _
  have HB3 := hyd O3
  have HC3 := hyd (HC0.out.grown g3 (fun k hk => Or.inr (HB0.out.block hk).1))
  clear O3 g3
  go_wp2
  go_ret
  exact ⟨v3, rfl, HB3.out, HC3.out⟩
theorem read_yes (g b : Nat) (s : Nat → List Nat) (hs : Okr s) (hb : b < 24) (w : World) (h : AryAt w g s) :
    Calls Try.prog 15 #[.pointer (some ⟨g, 0, none⟩), .int .i64 b] w fun e w' => ∃ v, e = .returned (.tuple #[v, .nilIface]) ∧ Own w' w.heap.size 5 v (s b) ∧ Chg (fun _ => False) w w' := by
  have h1 : (0 : Int) ≤ b := by omega
  have h2 : (b : Int) < 24 := by omega
  have HG := hyd (Sto.lt h)
  have HA : Hid (∀ j, j < 160 → w.cell? ⟨g, b * 160 + j, none⟩ = some (.int .u8 ((s b).getD j 0 : Nat))) := fun j hj => by rw [Nat.mul_comm]; exact h.held hs b hb j hj
  have HL := hyd (hs.len b)
  clear h hs
  go_enter Try.func15, Try.ntmps15
  go_wp2_with (first | (go_at_call 30; refine (sec_yes b hb _).mono ?_; rintro e w ⟨rfl, rfl⟩) | (go_at_call 31; refine (clone_any _ g (b * 160) 160 160 (s b) HL.out (by decide) HA.out HG.out).mono ?_; rintro e w1 ⟨v, rfl, q1, q2⟩))
  go_ret2
  exact ⟨_, rfl, q1, q2⟩
theorem read_no (g : Nat) (k : Int) (hk : ¬ (0 ≤ k ∧ k < 24)) (w : World) :
    Calls Try.prog 15 #[.pointer (some ⟨g, 0, none⟩), .int .i64 k] w fun e w' => e = .returned (.tuple #[.slice none 0 0, errA]) ∧ w' = w := by
  show Calls Try.prog 15 #[.pointer (some ⟨g, 0, none⟩), .int .i64 k] w fun e w' => e = .returned (.tuple #[.slice none 0 0, .iface 47 (.int .i64 1)]) ∧ w' = w
  have HS := hyd hk
  clear hk
  go_enter Try.func15, Try.ntmps15
  go_wp2_with (go_at_call 30; refine (sec_no k HS.out _).mono ?_; rintro e w ⟨rfl, rfl⟩)
  go_ret2
  exact ⟨rfl, rfl⟩
/-- A row laid over another. -/
theorem over_at (cs : List Value) : ∀ (k : Nat) (A : Array Value) (i : Nat), k + cs.length ≤ A.size → ((cs.zipIdx k).foldl (fun a x => a.setIfInBounds x.2 x.1) A).size = A.size ∧ ((cs.zipIdx k).foldl (fun a x => a.setIfInBounds x.2 x.1) A)[i]? = if k ≤ i ∧ i < k + cs.length then cs[i - k]? else A[i]? := by
  induction cs with
  | nil => intro k A i _; exact ⟨rfl, by rw [if_neg (by simp)]; rfl⟩
  | cons c r ih =>
    intro k A i h
    simp only [List.length_cons] at h
    rw [List.zipIdx_cons, List.foldl_cons]
    obtain ⟨h1, h2⟩ := ih (k + 1) (A.setIfInBounds k c) i (by rw [Array.size_setIfInBounds]; omega)
    refine ⟨h1.trans (Array.size_setIfInBounds ..), h2.trans ?_⟩
    simp only [List.length_cons]
    by_cases e : i = k
    · subst e
      rw [if_neg (by omega), if_pos (by omega), Array.getElem?_setIfInBounds_self_of_lt (by omega), Nat.sub_self]; rfl
    · by_cases e2 : k ≤ i ∧ i < k + (r.length + 1)
      · rw [if_pos (by omega), if_pos e2, show i - k = (i - (k + 1)) + 1 from by omega, List.getElem?_cons_succ]
      · rw [if_neg (by omega), if_neg e2, Array.getElem?_setIfInBounds_ne (by omega)]
theorem over_all (cs : List Value) (A : Array Value) (h : A.size = cs.length) : cs.zipIdx.foldl (fun a x => a.setIfInBounds x.2 x.1) A = cs.toArray := by
  apply Array.ext_getElem?
  intro i
  rw [(over_at cs 0 A i (by omega)).2]
  by_cases e : i < cs.length
  · rw [if_pos (by omega)]; simp
  · rw [if_neg (by omega), Array.getElem?_eq_none (by omega), Array.getElem?_eq_none (by simpa using e)]
theorem build54 (w : World) (cs : List Value) (h : cs.length = 3840) : (Instr.build 54 #[(0, .agg cs.toArray)]).run Try.prog w = .ok (.agg cs.toArray) w := by
  have size52 : (Try.prog.info? 52).map (·.size) = some 3840 := by kernel_rfl
  have hu := Try.underlying54
  have ho := over_all cs (List.replicate 3840 (.int .u8 0)).toArray (by rw [List.size_toArray, List.length_replicate, h])
  have hz := zero54
  cases hq : Try.prog.info? 52 with
  | none => have := size52; rw [hq] at this; cases this
  | some i =>
    have hi : i.size = 3840 := by have := size52; rw [hq] at this; simpa using this
    generalize hA : (List.replicate 3840 (Value.int .u8 0)).toArray = A at *
    have hs : A.size = 3840 := by rw [← hA, List.size_toArray, List.length_replicate]
    simp [Instr.build, hz, run_underlying hu, Value.cells, sizeOf, typeInfo, hq, hi, Instr.fill, h, hs]
    exact ho
theorem wpList_build54 {ops : Array Oper} {rest : List Oper} {o : Oper} {a : Act} {w : World} {Q : Exit → Act → World → Prop} (hgd : o.guard = none) (x : Operand) (ho : o.op = .build 54 #[(0, x)]) (cs : List Value) (hl : cs.length = 3840) (hx : a.eval x = .agg cs.toArray)
    (h : wpList Try.prog ops Q rest (a.put o.dst (.agg cs.toArray)) w) : wpList Try.prog ops Q (o :: rest) a w := by
  refine wpList_plain hgd fun K hK => ?_
  have hz := build54 w cs hl
  unfold Oper.wp
  simp [execOp, ho, hz, hx]
  exact hK _ _ h
theorem clone_yes (g : Nat) (s : Nat → List Nat) (w : World) (h : AryAt w g s) :
    Calls Try.prog 26 #[.pointer (some ⟨g, 0, none⟩)] w fun e w' => e = .returned (.pointer (some ⟨w.heap.size, 0, none⟩)) ∧ AryAt w' w.heap.size s ∧ Chg (fun _ => False) w w' ∧ w'.heap.size = w.heap.size + 1 := by
  have hr : w.rangeAt g 0 (part (cellF s) 0 3840) := Seg.range h (part_seg _ _ _) (by rw [part_length]; omega)
  have hs : (Try.prog.info? 52).map (·.size) = some (part (cellF s) 0 3840).length := by rw [part_length]; kernel_rfl
  have HL := hyd (part_length (cellF s) 0 3840)
  have HA : Hid (AryAt (w.alloc (.cells (part (cellF s) 0 3840).toArray 54)) w.heap.size s) := (blk_new w (part (cellF s) 0 3840).toArray 54 3840 (by rw [List.size_toArray, part_length])).ext fun i hi => by
    rw [List.getElem?_toArray, part_at _ _ _ _ hi, Nat.zero_add]; rfl
  clear h
  generalize part (cellF s) 0 3840 = cs at *
  go_enter Try.func26, Try.ntmps26
  go_wp2_with (first | refine wpList_load_mid rfl 52 (.tmp 5) rfl g 0 rfl cs _ hr Try.underlying52 rfl hs ?_ | refine wpList_build54 rfl (.tmp 6) rfl cs HL.out rfl ?_)
  go_ret
  exact ⟨rfl, HA.out, (Chg.refl _ _).alloc _, by simp⟩
end Go.Proofs.Ythpjdnfalecbeaa
