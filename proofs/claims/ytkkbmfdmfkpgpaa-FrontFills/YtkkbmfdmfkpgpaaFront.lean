/-
  What front's Open, Close, Block, next, Room and Take answer. No condition: lemmas.
-/
import Derived.Test.YtkkbmfdmfkpgpaaGeom
import Derived.Test.YtkkbmfdmfkpgpaaPick
namespace Go.Proofs.Ytkkbmfdmfkpgpaa
set_option maxRecDepth 100000
open Go.RowKit

/-- A frontier: whether there is a block, which, and the next page's index. -/
structure St where
  o : Bool
  k : Nat
  i : Nat
def stRow (s : St) : Array Value := #[.bool s.o, .int .i64 s.k, .int .i64 s.i]
/-- Block b holds the frontier s, laid out as type t. -/
def FB (w : World) (b : Nat) (t : TypeId) (s : St) : Prop := w.heap[b]? = some (.cells (stRow s) t)
section
variable {w w' : World} {b : Nat} {t : TypeId} {s : St}
theorem FB.lt (h : FB w b t s) : b < w.heap.size := (Array.getElem?_eq_some_iff.1 (show w.heap[b]? = some _ from h)).1
theorem FB.chg {S : Nat → Prop} (h : FB w b t s) (hc : Chg S w w') (hb : ¬ S b) : FB w' b t s := (hc.block b h.lt hb).trans h
theorem FB.drewN (h : FB w b t s) (n : Nat) : FB (w.drewN n) b t s := h
theorem FB.new (w : World) (t : TypeId) (s : St) : FB (w.alloc (.cells (stRow s) t)) w.heap.size t s := by
  show (w.heap.push _)[w.heap.size]? = _
  simp
theorem FB.c0 (h : FB w b t s) : w.cell? ⟨b, 0, none⟩ = some (.bool s.o) ∧ w.frozen? ⟨b, 0, none⟩ = false := by
  have h' : w.heap[b]? = some _ := h
  exact ⟨by simp [World.cell?, h', stRow], by simp [World.frozen?, h']⟩
theorem FB.c1 (h : FB w b t s) : w.cell? ⟨b, 1, none⟩ = some (.int .i64 s.k) ∧ w.frozen? ⟨b, 1, none⟩ = false := by
  have h' : w.heap[b]? = some _ := h
  exact ⟨by simp [World.cell?, h', stRow], by simp [World.frozen?, h']⟩
theorem FB.c2 (h : FB w b t s) : w.cell? ⟨b, 2, none⟩ = some (.int .i64 s.i) ∧ w.frozen? ⟨b, 2, none⟩ = false := by
  have h' : w.heap[b]? = some _ := h
  exact ⟨by simp [World.cell?, h', stRow], by simp [World.frozen?, h']⟩
theorem FB.set0 (h : FB w b t s) (o : Bool) : FB (w.setCell ⟨b, 0, none⟩ (.bool o)) b t { s with o := o } := by
  have h' : w.heap[b]? = some _ := h
  show (w.setCell ⟨b, 0, none⟩ _).heap[b]? = _
  simp [World.setCell, Array.getElem?_modify, h', stRow]
theorem FB.set1 (h : FB w b t s) (k : Nat) : FB (w.setCell ⟨b, 1, none⟩ (.int .i64 k)) b t { s with k := k } := by
  have h' : w.heap[b]? = some _ := h
  show (w.setCell ⟨b, 1, none⟩ _).heap[b]? = _
  simp [World.setCell, Array.getElem?_modify, h', stRow]
theorem FB.set2 (h : FB w b t s) (i : Nat) : FB (w.setCell ⟨b, 2, none⟩ (.int .i64 i)) b t { s with i := i } := by
  have h' : w.heap[b]? = some _ := h
  show (w.setCell ⟨b, 2, none⟩ _).heap[b]? = _
  simp [World.setCell, Array.getElem?_modify, h', stRow]
theorem FB.row (h : FB w b t s) (s' : St) : FB (w.setRow b (stRow s')) b t s' := setRow_heap w b _ _ t _ h
end
theorem build26 (w : World) : (Instr.build 26 #[]).run Try.prog w = .ok (.agg (stRow ⟨false, 0, 0⟩)) w := by kernel_rfl
theorem build29 (w : World) : (Instr.build 29 #[]).run Try.prog w = .ok (.agg (stRow ⟨false, 0, 0⟩)) w := by kernel_rfl
theorem size26 : (Try.prog.info? 26).map (·.size) = some 3 := by kernel_rfl
theorem wpList_store_front {ops : Array Oper} {rest : List Oper} {o : Oper} {a : Act} {w : World} {Q : Exit → Act → World → Prop} (hgd : o.guard = none) (x y : Operand) (ho : o.op = .store 26 x y)
    (g : Nat) (hx : a.eval x = .pointer (some ⟨g, 0, none⟩)) (s : St) (hy : a.eval y = .agg (stRow s)) {s0 : St} (hg : FB w g 26 s0)
    (h : ∀ w', FB w' g 26 s → Chg (· = g) w w' → wpList Try.prog ops Q rest (a.put o.dst undef) w') : wpList Try.prog ops Q (o :: rest) a w :=
  wpList_store_row hgd 26 x y ho g _ hx hy 26 _ hg size26 (by simp [stRow]) (by simp [stRow, Value.oneCell']) (h _ (FB.row hg s) (chg_row _ _ _))
/-- An error by its number. -/
def errV (c : Nat) : Value := if c = 0 then .nilIface else .iface 45 (.int .i64 c)
def Cd (c : Nat) : Prop := c = 0 ∨ c = 1 ∨ c = 10 ∨ c = 11
theorem code_v (c : Nat) (hc : Cd c) (w : World) : Calls Try.prog 8 #[errV c] w fun e w' => e = .returned (.int .i64 c) ∧ w' = w := by
  rcases hc with rfl | rfl | rfl | rfl
  · exact code_nil w
  · exact code_1 w
  · exact code_10 w
  · exact code_11 w
/-- Open's answer. -/
def opC (x y : Int) : Nat := if x < 0 ∨ 12 ≤ x ∨ y < 0 ∨ 9 ≤ y then 1 else 0
def opS (s : St) (x y : Int) : St := if opC x y = 0 then ⟨true, x.toNat, y.toNat⟩ else s
theorem opC_code (x y : Int) : Cd (opC x y) := by
  unfold opC Cd
  split <;> simp
theorem open_yes (w : World) (b : Nat) (s : St) (h : FB w b 26 s) (k i : Nat) (hk : k < 12) (hi : i < 9) : Calls Try.prog 7 #[.pointer (some ⟨b, 0, none⟩), .int .i64 k, .int .i64 i] w fun e w' => e = .returned .nilIface ∧ FB w' b 26 ⟨true, k, i⟩ ∧ Chg (· = b) w w' := by
  have h1 : ¬ (k : Int) < 0 := by omega
  have h2 : ¬ (k : Int) ≥ 12 := by omega
  have h3 : ¬ (i : Int) < 0 := by omega
  have h4 : ¬ (i : Int) > 8 := by omega
  have HK := hyd h
  clear h hk hi
  go_enter Try.func7, Try.ntmps7
  go_wp2_with (refine wpList_store_front rfl (.tmp 26) (.tmp 25) rfl b rfl ⟨true, k, i⟩ rfl HK.out ?_)
  intro w1 K1 G1
  have HK1 := hyd K1
  have HG1 := hyd G1
  clear K1 G1
  go_wp2
  go_ret
  exact ⟨rfl, HK1.out, HG1.out⟩
theorem open_arg (w : World) (b : Nat) (x y : Int) (h : x < 0 ∨ 12 ≤ x ∨ y < 0 ∨ 9 ≤ y) : Calls Try.prog 7 #[.pointer (some ⟨b, 0, none⟩), .int .i64 x, .int .i64 y] w fun e w' => e = .returned (.iface 45 (.int .i64 1)) ∧ w' = w := by
  by_cases h1 : x < 0
  · clear h
    go_enter Try.func7, Try.ntmps7
    go_wp2
    go_ret
    exact ⟨rfl, rfl⟩
  · by_cases h2 : x ≥ 12
    · clear h
      go_enter Try.func7, Try.ntmps7
      go_wp2
      go_ret
      exact ⟨rfl, rfl⟩
    · by_cases h3 : y < 0
      · clear h
        go_enter Try.func7, Try.ntmps7
        go_wp2
        go_ret
        exact ⟨rfl, rfl⟩
      · have h4 : y > 8 := by omega
        clear h
        go_enter Try.func7, Try.ntmps7
        go_wp2
        go_ret
        exact ⟨rfl, rfl⟩
theorem open_v (w : World) (b : Nat) (s : St) (h : FB w b 26 s) (x y : Int) : Calls Try.prog 7 #[.pointer (some ⟨b, 0, none⟩), .int .i64 x, .int .i64 y] w fun e w' => e = .returned (errV (opC x y)) ∧ FB w' b 26 (opS s x y) ∧ Chg (· = b) w w' := by
  unfold opS opC
  by_cases c : x < 0 ∨ 12 ≤ x ∨ y < 0 ∨ 9 ≤ y
  · rw [if_pos c]
    refine (open_arg w b x y c).mono ?_
    rintro e w' ⟨rfl, rfl⟩
    exact ⟨rfl, h, Chg.refl _ _⟩
  · rw [if_neg c]
    obtain ⟨k, rfl⟩ : ∃ k : Nat, x = k := ⟨x.toNat, by omega⟩
    obtain ⟨i, rfl⟩ : ∃ i : Nat, y = i := ⟨y.toNat, by omega⟩
    refine (open_yes w b s h k i (by omega) (by omega)).mono ?_
    rintro e w' ⟨rfl, h1, h2⟩
    exact ⟨rfl, h1, h2⟩
theorem close_any (w : World) (b : Nat) (s : St) (h : FB w b 26 s) : Calls Try.prog 14 #[.pointer (some ⟨b, 0, none⟩)] w fun e w' => e = .returned (.tuple #[]) ∧ FB w' b 26 ⟨false, 0, 0⟩ ∧ Chg (· = b) w w' := by
  have HK := hyd h
  have hb := build26
  clear h
  go_enter Try.func14, Try.ntmps14
  go_wp2_with (refine wpList_store_front rfl (.tmp 4) (.tmp 3) rfl b rfl ⟨false, 0, 0⟩ rfl HK.out ?_)
  intro w1 K1 G1
  have HK1 := hyd K1
  have HG1 := hyd G1
  clear K1 G1
  go_wp2
  go_end0
  exact ⟨rfl, HK1.out, HG1.out⟩
/-- Block's answer. -/
def blV (s : St) : Int := if s.o then (s.k : Int) else -1
theorem block_any (w : World) (b : Nat) (s : St) (h : FB w b 26 s) : Calls Try.prog 15 #[.pointer (some ⟨b, 0, none⟩)] w fun e w' => e = .returned (.int .i64 (blV s)) ∧ w' = w := by
  obtain ⟨c0, -⟩ := h.c0
  obtain ⟨c1, -⟩ := h.c1
  obtain ⟨o, k, i⟩ := s
  clear h
  cases o
  · go_enter Try.func15, Try.ntmps15
    go_wp2
    go_ret
    exact ⟨rfl, rfl⟩
  · go_enter Try.func15, Try.ntmps15
    go_wp2
    go_ret
    exact ⟨rfl, rfl⟩
/-- What next answers. -/
def nxC (s : St) (n : Int) : Nat := if n < 0 ∨ 25 ≤ n then 1 else if s.o = false then 11 else if s.i < 8 ∧ (n = 24 ∨ s.i < 6) then 0 else 10
def nxV (s : St) (n : Int) : Int := if nxC s n = 0 then ((s.k * 8 + s.i : Nat) : Int) else 0
theorem nxC_code (s : St) (n : Int) : Cd (nxC s n) := by
  unfold nxC Cd
  split
  · simp
  · split
    · simp
    · split <;> simp
/-- What a frontier may be. -/
def Okf (s : St) : Prop := s.k < 12 ∧ s.i < 9
theorem next_arg (w : World) (b : Nat) (n : Int) (h : n < 0 ∨ 25 ≤ n) : Calls Try.prog 17 #[.pointer (some ⟨b, 0, none⟩), .int .i64 n] w fun e w' => e = .returned (.tuple #[.int .i64 0, .iface 45 (.int .i64 1)]) ∧ w' = w := by
  by_cases h0 : n < 0
  · clear h
    go_enter Try.func17, Try.ntmps17
    go_wp2
    go_ret2
    exact ⟨rfl, rfl⟩
  · have h1 : n > 24 := by omega
    clear h
    go_enter Try.func17, Try.ntmps17
    go_wp2
    go_ret2
    exact ⟨rfl, rfl⟩
theorem next_none (w : World) (b : Nat) (k i : Nat) (h : FB w b 26 ⟨false, k, i⟩) (n : Int) (hn : 0 ≤ n ∧ n < 25) : Calls Try.prog 17 #[.pointer (some ⟨b, 0, none⟩), .int .i64 n] w fun e w' => e = .returned (.tuple #[.int .i64 0, .iface 45 (.int .i64 11)]) ∧ w' = w := by
  obtain ⟨c0, -⟩ := h.c0
  have h0 : ¬ n < 0 := by omega
  have h1 : ¬ n > 24 := by omega
  clear h hn
  go_enter Try.func17, Try.ntmps17
  go_wp2
  go_ret2
  exact ⟨rfl, rfl⟩
theorem next_end (w : World) (b : Nat) (k : Nat) (h : FB w b 26 ⟨true, k, 8⟩) (n : Int) (hn : 0 ≤ n ∧ n < 25) : Calls Try.prog 17 #[.pointer (some ⟨b, 0, none⟩), .int .i64 n] w fun e w' => e = .returned (.tuple #[.int .i64 0, .iface 45 (.int .i64 10)]) ∧ ∃ m, w' = w.drewN m := by
  obtain ⟨c0, -⟩ := h.c0
  obtain ⟨c1, -⟩ := h.c1
  obtain ⟨c2, -⟩ := h.c2
  have h0 : ¬ n < 0 := by omega
  have h1 : ¬ n > 24 := by omega
  have q := neq_c_nil
  clear h hn
  go_enter Try.func17, Try.ntmps17
  go_wp2_with fail
  go_quiet (first | (go_at_call 19; refine Calls.quiet_of_same (place_out _ k 8 (Or.inr (Or.inr (by decide))))))
  go_wp2
  go_ret2
  exact ⟨rfl, _, rfl⟩
theorem next_page (w : World) (b : Nat) (k i : Nat) (h : FB w b 26 ⟨true, k, i⟩) (hk : k < 12) (hi : i < 8) (n : Int) (hn : 0 ≤ n ∧ n < 25) : Calls Try.prog 17 #[.pointer (some ⟨b, 0, none⟩), .int .i64 n] w fun e w' => e = .returned (if n = 24 ∨ i < 6 then .tuple #[.int .i64 (k * 8 + i : Nat), .nilIface] else .tuple #[.int .i64 0, .iface 45 (.int .i64 10)]) ∧ ∃ m, w' = w.drewN m := by
  obtain ⟨c0, -⟩ := h.c0
  obtain ⟨c1, -⟩ := h.c1
  obtain ⟨c2, -⟩ := h.c2
  have h0 : ¬ n < 0 := by omega
  have h1 : ¬ n > 24 := by omega
  have q := neq_nil
  have hp := fun w => place_in w k i ⟨by omega, by omega⟩ ⟨by omega, by omega⟩
  have hh := fun w => holds_in w ((k : Int) * 8 + i) n ⟨by omega, by omega⟩ hn
  have hd : decide (n = 24 ∨ ((k : Int) * 8 + i) % 8 < 6) = decide (n = 24 ∨ i < 6) := by
    have : ((k : Int) * 8 + i) % 8 = i := by omega
    rw [this]
    simp only [decide_eq_decide]
    omega
  rw [hd] at hh
  have HV : Hid ((k : Int) * 8 + i = ((k * 8 + i : Nat) : Int)) := by show _ = _; omega
  clear h hn hk hi hd
  by_cases hb : n = 24 ∨ i < 6
  · rw [if_pos hb, ← HV.out]
    simp only [hb, decide_true] at hh
    clear hb HV
    go_enter Try.func17, Try.ntmps17
    go_wp2_with fail
    go_quiet (first | (go_at_call 19; refine Calls.quiet_of_same (hp _)))
    go_wp2_with fail
    refine (hh _).mono ?_
    rintro e w2 ⟨rfl, rfl⟩
    go_wp2
    go_ret2
    exact ⟨rfl, _, rfl⟩
  · rw [if_neg hb]
    simp only [hb, decide_false] at hh
    clear hb HV
    go_enter Try.func17, Try.ntmps17
    go_wp2_with fail
    go_quiet (first | (go_at_call 19; refine Calls.quiet_of_same (hp _)))
    go_wp2_with fail
    refine (hh _).mono ?_
    rintro e w2 ⟨rfl, rfl⟩
    go_wp2
    go_ret2
    exact ⟨rfl, _, rfl⟩
theorem nx_1 {s : St} {n : Int} (h : n < 0 ∨ 25 ≤ n) : nxC s n = 1 := by unfold nxC; rw [if_pos h]
theorem nx_11 {s : St} {n : Int} (h : ¬ (n < 0 ∨ 25 ≤ n)) (ho : s.o = false) : nxC s n = 11 := by unfold nxC; rw [if_neg h, if_pos ho]
theorem nx_0 {s : St} {n : Int} (h : ¬ (n < 0 ∨ 25 ≤ n)) (ho : ¬ s.o = false) (hi : s.i < 8 ∧ (n = 24 ∨ s.i < 6)) : nxC s n = 0 := by unfold nxC; rw [if_neg h, if_neg ho, if_pos hi]
theorem nx_10 {s : St} {n : Int} (h : ¬ (n < 0 ∨ 25 ≤ n)) (ho : ¬ s.o = false) (hi : ¬ (s.i < 8 ∧ (n = 24 ∨ s.i < 6))) : nxC s n = 10 := by unfold nxC; rw [if_neg h, if_neg ho, if_neg hi]
theorem next_v (w : World) (b : Nat) (s : St) (h : FB w b 26 s) (ok : Okf s) (n : Int) : Calls Try.prog 17 #[.pointer (some ⟨b, 0, none⟩), .int .i64 n] w fun e w' => e = .returned (.tuple #[.int .i64 (nxV s n), errV (nxC s n)]) ∧ ∃ m, w' = w.drewN m := by
  unfold nxV
  by_cases h1 : n < 0 ∨ 25 ≤ n
  · rw [nx_1 h1]
    refine (next_arg w b n h1).mono ?_
    rintro e w' ⟨rfl, rfl⟩
    exact ⟨rfl, 0, rfl⟩
  · have hn : 0 ≤ n ∧ n < 25 := by omega
    by_cases ho : s.o = false
    · rw [nx_11 h1 ho]
      obtain ⟨o, k, i⟩ := s
      simp only at ho
      subst ho
      refine (next_none w b k i h n hn).mono ?_
      rintro e w' ⟨rfl, rfl⟩
      exact ⟨rfl, 0, rfl⟩
    · by_cases h8 : s.i < 8
      · by_cases hb : n = 24 ∨ s.i < 6
        · rw [nx_0 h1 ho ⟨h8, hb⟩]
          obtain ⟨o, k, i⟩ := s
          simp only [Bool.not_eq_false] at ho
          subst ho
          have := next_page w b k i h ok.1 h8 n hn
          rw [if_pos hb] at this
          exact this
        · rw [nx_10 h1 ho (fun x => hb x.2)]
          obtain ⟨o, k, i⟩ := s
          simp only [Bool.not_eq_false] at ho
          subst ho
          have := next_page w b k i h ok.1 h8 n hn
          rw [if_neg hb] at this
          exact this
      · rw [nx_10 h1 ho (fun x => h8 x.1)]
        obtain ⟨o, k, i⟩ := s
        simp only [Bool.not_eq_false] at ho
        subst ho
        obtain rfl : i = 8 := by have := ok.2; simp only at this h8; omega
        exact next_end w b k h n hn
/-- Room's answer. -/
def rmV (s : St) (n : Int) : Bool := decide (nxC s n = 0)
theorem eql_errV (c : Nat) (w : World) : (binOp .eql 34 (errV c) .nilIface).run Try.prog w = .ok (.bool (decide (c = 0))) w := by
  unfold errV
  by_cases h : c = 0
  · rw [if_pos h, decide_eq_true h]; exact eql_nil w
  · rw [if_neg h, decide_eq_false h]; exact eql_c_nil w _
theorem neq_errV (c : Nat) (w : World) : (binOp .neq 34 (errV c) .nilIface).run Try.prog w = .ok (.bool (!decide (c = 0))) w := by
  unfold errV
  by_cases h : c = 0
  · rw [if_pos h, decide_eq_true h]; exact neq_nil w
  · rw [if_neg h, decide_eq_false h]; exact neq_c_nil w _
theorem guard_eql (c : Nat) (x : Operand) (w : World) : (eqGuard .eql 34 x (.const .nilIface) (errV c) .nilIface).run Try.prog w = .ok () w := by
  unfold errV
  by_cases h : c = 0
  · rw [if_pos h]; cases x <;> rfl
  · rw [if_neg h]; rfl
theorem guard_neq (c : Nat) (x : Operand) (w : World) : (eqGuard .neq 34 x (.const .nilIface) (errV c) .nilIface).run Try.prog w = .ok () w := by
  unfold errV
  by_cases h : c = 0
  · rw [if_pos h]; cases x <;> rfl
  · rw [if_neg h]; rfl
theorem room_v (w : World) (b : Nat) (s : St) (h : FB w b 26 s) (ok : Okf s) (n : Int) : Calls Try.prog 12 #[.pointer (some ⟨b, 0, none⟩), .int .i64 n] w fun e w' => e = .returned (.bool (rmV s n)) ∧ ∃ m, w' = w.drewN m := by
  have hn := next_v w b s h ok n
  have q := eql_errV
  have g := guard_eql
  clear h ok
  go_enter Try.func12, Try.ntmps12
  go_wp2_with fail
  refine hn.mono ?_
  rintro e w1 ⟨rfl, m, rfl⟩
  clear hn
  go_wp2
  go_ret
  exact ⟨rfl, m, rfl⟩
def tkS (s : St) (n : Int) : St := if nxC s n = 0 then { s with i := s.i + 1 } else s
theorem take_v (w : World) (b : Nat) (s : St) (h : FB w b 26 s) (ok : Okf s) (n : Int) : Calls Try.prog 10 #[.pointer (some ⟨b, 0, none⟩), .int .i64 n] w fun e w' => e = .returned (.tuple #[.int .i64 (nxV s n), errV (nxC s n)]) ∧ FB w' b 26 (tkS s n) ∧ Chg (· = b) w w' := by
  have hn := next_v w b s h ok n
  obtain ⟨c2, f2⟩ := h.c2
  have HK := hyd h
  have hi : s.i < 9 := ok.2
  have hiz : (s.i : Int) ≤ 8 := by omega
  clear h ok hi
  by_cases hc : nxC s n = 0
  · have HC := hyd hc
    unfold tkS
    rw [if_pos hc]
    rw [hc] at hn ⊢
    have g := guard_neq
    have q : ∀ w, (binOp .neq 34 (errV 0) .nilIface).run Try.prog w = .ok (.bool false) w := neq_errV 0
    clear hc
    obtain ⟨o, k, i⟩ := s
    simp only at c2 hiz
    go_enter Try.func10, Try.ntmps10
    go_wp2_with fail
    refine hn.mono ?_
    rintro e w1 ⟨rfl, m, rfl⟩
    clear hn
    go_wp2
    go_ret2
    exact ⟨rfl, (HK.out.drewN m).set2 (i + 1), ((Chg.refl (· = b) _).drewN m).setCell (Or.inl rfl) _ _⟩
  · unfold tkS
    rw [if_neg hc]
    have hv : nxV s n = 0 := by unfold nxV; rw [if_neg hc]
    rw [hv] at hn ⊢
    have g := guard_neq
    have q : ∀ w, (binOp .neq 34 (errV (nxC s n)) .nilIface).run Try.prog w = .ok (.bool true) w := fun w => by rw [neq_errV, decide_eq_false hc]; rfl
    clear hc hv
    go_enter Try.func10, Try.ntmps10
    go_wp2_with fail
    refine hn.mono ?_
    rintro e w1 ⟨rfl, m, rfl⟩
    clear hn
    go_wp2
    go_ret2
    exact ⟨rfl, HK.out.drewN m, (Chg.refl (· = b) _).drewN m⟩
theorem Okf.open_ {s : St} (h : Okf s) (x y : Int) : Okf (opS s x y) := by
  unfold opS opC
  by_cases c : x < 0 ∨ 12 ≤ x ∨ y < 0 ∨ 9 ≤ y
  · rw [if_pos c]; exact h
  · rw [if_neg c]
    constructor
    · show x.toNat < 12; omega
    · show y.toNat < 9; omega
theorem nx_lt {s : St} {n : Int} (h : nxC s n = 0) : s.i < 8 := by
  unfold nxC at h
  split at h
  · simp at h
  · split at h
    · simp at h
    · split at h
      · rename_i c; exact c.1
      · simp at h
theorem Okf.take {s : St} (h : Okf s) (n : Int) : Okf (tkS s n) := by
  unfold tkS
  split
  · rename_i c
    have := nx_lt c
    exact ⟨h.1, by show s.i + 1 < 9; omega⟩
  · exact h
end Go.Proofs.Ytkkbmfdmfkpgpaa
