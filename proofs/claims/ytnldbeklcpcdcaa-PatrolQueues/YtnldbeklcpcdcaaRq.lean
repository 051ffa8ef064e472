/-
  What the document's list of blocks answers: Add, Next; a slice of ints that is a window of a block. No condition: lemmas.
-/
import Derived.Test.YtnldbeklcpcdcaaRef
import Derived.Test.YtnldbeklcpcdcaaQueue
import Derived.ArgAppend
namespace Go.Proofs.Ytnldbeklcpcdcaa
set_option maxRecDepth 100000
open Go.RowKit

/-- The slice v: the ints l, a window of a block at base or above; or none at all. -/
def Wd (w : World) (base : Nat) (v : Value) (l : List Int) : Prop :=
  (v = .slice none 0 0 ∧ l = []) ∨ ∃ (g off cap : Nat) (cur : Array Value), v = .slice (some ⟨g, off, none⟩) l.length cap ∧ base ≤ g ∧ w.heap[g]? = some (.cells cur 3) ∧ l.length ≤ cap ∧ off + cap ≤ cur.size ∧ ∀ i, i < l.length → cur[off + i]? = some (i6 (l.getD i 0))
section
variable {w w' : World} {base : Nat} {v : Value} {l : List Int}
theorem Wd.form (h : Wd w base v l) : ∃ a cap, v = .slice a l.length cap := by
  rcases h with ⟨h1, h2⟩ | ⟨g, off, cap, cur, h1, -⟩
  · exact ⟨none, 0, by rw [h1, h2]; rfl⟩
  · exact ⟨_, _, h1⟩
theorem Wd.chg {S : Nat → Prop} (h : Wd w base v l) (hc : Chg S w w') (hs : ∀ k, base ≤ k → ¬ S k) : Wd w' base v l := by
  rcases h with h1 | ⟨g, off, cap, cur, h1, hb, hh, r⟩
  · exact Or.inl h1
  · have hg := (Array.getElem?_eq_some_iff.1 hh).1
    exact Or.inr ⟨g, off, cap, cur, h1, hb, (hc.block g hg (hs g hb)).trans hh, r⟩
theorem Wd.lies (h : Wd w base v l) (h0 : l.length ≠ 0) : ∃ g off cap, v = .slice (some ⟨g, off, none⟩) l.length cap ∧ base ≤ g ∧ l.length ≤ cap ∧ ∀ i, i < l.length → w.cell? ⟨g, off + i, none⟩ = some (.int .i64 (l.getD i 0)) := by
  rcases h with ⟨-, rfl⟩ | ⟨g, off, cap, cur, h1, hb, hh, hc, -, hr⟩
  · exact absurd rfl h0
  · refine ⟨g, off, cap, h1, hb, hc, fun i hi => ?_⟩
    have := hr i hi
    simp only [World.cell?, hh]
    simpa [i6] using this
theorem Ow.wd {base' : Nat} (h : Ow w base' v l) (hb : base ≤ base') : Wd w base v l := by
  rcases h.2 with ⟨h1, h2⟩ | ⟨g, cap, cur, hv, hg, hh, hn, hm, hs, ht⟩
  · exact Or.inl ⟨h1, List.eq_nil_of_length_eq_zero h2⟩
  · refine Or.inr ⟨g, 0, cap, cur, hv, by omega, hh, hn, by omega, fun i hi => ?_⟩
    have h2 : (cur.toList.take (l.length * 1))[i]? = (l.map i6)[i]? := by rw [ht]
    rw [List.getElem?_take_of_lt (by omega), List.getElem?_map, List.getElem?_eq_getElem hi, Array.getElem?_toList] at h2
    rw [Nat.zero_add, h2, List.getD_eq_getElem?_getD, List.getElem?_eq_getElem hi]; rfl
end
/-- 'append(v, z)', v a window. -/
theorem wpList_append_w (w : World) {ops : Array Oper} {rest : List Oper} {o : Oper} {a : Act} {Q : Exit → Act → World → Prop} (hgd : o.guard = none) (s x : Operand)
    (ho : o.op = .call { callee := .builtin .append, args := #[s, x], argTypes := #[22, 22] })
    (base : Nat) (v : Value) (l : List Int) (hs : a.eval s = v) (g : Nat) (z : Int) (hx : a.eval x = .slice (some ⟨g, 0, none⟩) 1 1) (hw : Wd w base v l) (hA : w.cell? ⟨g, 0, none⟩ = some (.int .i64 z))
    (hl : l.length < 100) (hbase : base ≤ w.heap.size)
    (h : ∀ v' w', Wd w' base v' (l ++ [z]) → Chg (base ≤ ·) w w' → wpList Try.prog ops Q rest (a.put o.dst v') w') : wpList Try.prog ops Q (o :: rest) a w := by
  rcases hw with ⟨rfl, rfl⟩ | ⟨f, off, cap, cur, rfl, hb, hh, hc, hsz, hr⟩
  · refine wpList_append_i w hgd s x ho base _ [] hs g z hx (Ow.nil w base) hA hl hbase ?_
    intro v' w' h1 h2
    exact h v' w' (h1.wd (Nat.le_refl _)) (h2.mono fun k _ e => by simp [Value.ownBlock] at e)
  · obtain ⟨i, hi1, hi2, hi3, hi4⟩ := info3
    have hfl := (Array.getElem?_eq_some_iff.1 hh).1
    refine wpList_append_arg w hgd s x 22 ho 3 i (.int .i64 0) 1 8 Try.underlying22 hi1 hi2 hi3 hi4 rfl (by decide) f off l.length cap (l.map i6) hs (by simp) ?_ ⟨g, 0, none⟩ 1 1 [i6 z] hx rfl ?_ (fun u hu => by simp at hu; rw [hu]; rfl) ?_ (by unfold maxLen; omega) (by omega) ?_ ?_
    · intro j u hj
      have hjl : j < l.length := by have := (List.getElem?_eq_some_iff.1 hj).1; simpa using this
      have := hr j hjl
      rw [List.getElem?_map, List.getElem?_eq_getElem hjl] at hj
      simp at hj
      subst hj
      simp only [World.cell?, hh]
      rw [this, List.getD_eq_getElem?_getD, List.getElem?_eq_getElem hjl]; rfl
    · intro j u hj
      match j, hj with
      | 0, hj =>
        simp at hj
        subst hj
        rw [Addr.add_mid]
        exact hA
    · intro hroom j hj
      simp at hj
      subst hj
      have hlt : off + l.length * 1 + 0 < cur.size := by omega
      exact ⟨by simp [World.cell?, hh]; omega, by simp [World.frozen?, hh]⟩
    · intro hroom
      have hset : w.setCells f (off + l.length * 1) [i6 z] = w.setCell ⟨f, off + l.length, none⟩ (i6 z) := by simp [World.setCells]
      rw [hset]
      have := h (.slice (some ⟨f, off, none⟩) (l.length + 1) cap) (w.setCell ⟨f, off + l.length, none⟩ (i6 z)) (Or.inr ⟨f, off, cap, cur.setIfInBounds (off + l.length) (i6 z), by simp, hb, by simp [World.setCell, Array.getElem?_modify, hh], by simpa using hroom, by simpa using hsz, fun i hi => ?_⟩) ((Chg.refl _ w).setCell (Or.inl hb) _ _)
      · exact this
      · rw [List.length_append, List.length_singleton] at hi
        by_cases e : i = l.length
        · subst e
          rw [Array.getElem?_setIfInBounds_self_of_lt (by omega)]
          simp
        · rw [Array.getElem?_setIfInBounds_ne (by omega), hr i (by omega), List.getD_eq_getElem?_getD, List.getD_eq_getElem?_getD, List.getElem?_append_left (by omega)]
    · intro hgrow v' w' h1 h2
      have h3 : Ow w' w.heap.size v' (l ++ [z]) := by
        unfold Ow
        rw [List.length_append, List.map_append]
        exact h1
      exact h v' w' (h3.wd hbase) ⟨h2.os, h2.tape, h2.output, h2.size, fun k hk _ => h2.block k hk (by simp)⟩
/-- Block r holds the document's list l, whose ints lie at base or above. -/
def RQ (w : World) (r base : Nat) (l : List Int) : Prop := ∃ v, w.heap[r]? = some (.cells #[v] 47) ∧ Wd w base v l
section
variable {w w' : World} {r base : Nat} {l : List Int}
theorem RQ.lt (h : RQ w r base l) : r < w.heap.size := by
  obtain ⟨v, h, -⟩ := h
  exact (Array.getElem?_eq_some_iff.1 h).1
theorem RQ.chg {S : Nat → Prop} (h : RQ w r base l) (hc : Chg S w w') (hr : ¬ S r) (hs : ∀ k, base ≤ k → ¬ S k) : RQ w' r base l := by
  have hl := h.lt
  obtain ⟨v, h1, h2⟩ := h
  exact ⟨v, (hc.block r hl hr).trans h1, h2.chg hc hs⟩
theorem RQ.cell (h : RQ w r base l) : ∃ a cap, w.cell? ⟨r, 0, none⟩ = some (.slice a l.length cap) ∧ w.frozen? ⟨r, 0, none⟩ = false ∧ Wd w base (.slice a l.length cap) l := by
  obtain ⟨v, h1, h2⟩ := h
  obtain ⟨a, cap, rfl⟩ := h2.form
  exact ⟨a, cap, by simp [World.cell?, h1], by simp [World.frozen?, h1], h2⟩
theorem RQ.put {v v0 : Value} {l' : List Int} (h1 : w.heap[r]? = some (.cells #[v0] 47)) (hr : r < base) (hv : Wd w base v l') : RQ (w.setCell ⟨r, 0, none⟩ v) r base l' := by
  refine ⟨v, by simp [World.setCell, Array.getElem?_modify, h1], ?_⟩
  exact hv.chg ((Chg.refl (· = r) w).setCell (Or.inl rfl) 0 v) (fun k hk e => by omega)
theorem RQ.new (w : World) (base : Nat) : RQ (w.alloc (.cells #[.slice none 0 0] 47)) w.heap.size base [] :=
  ⟨.slice none 0 0, by show (w.heap.push _)[w.heap.size]? = _; simp, Or.inl ⟨rfl, rfl⟩⟩
end
theorem radd_arg (w : World) (r : Nat) (x : Int) (h : x < 0 ∨ 12 ≤ x) : Calls Try.prog 19 #[.pointer (some ⟨r, 0, none⟩), .int .i64 x] w fun e w' => e = .returned (.int .i64 1) ∧ w' = w := by
  by_cases h0 : x < 0
  · clear h
    go_enter Try.func19, Try.ntmps19
    go_wp2
    go_ret
    exact ⟨rfl, rfl⟩
  · have h1 : x > 11 := by omega
    clear h
    go_enter Try.func19, Try.ntmps19
    go_wp2
    go_ret
    exact ⟨rfl, rfl⟩
theorem radd_in (w : World) (r base : Nat) (l : List Int) (h : RQ w r base l) (hl : l.length ≤ 12) (hr : r < base) (hbase : base ≤ w.heap.size) (x : Int) (hx : ¬ (x < 0 ∨ 12 ≤ x)) : Calls Try.prog 19 #[.pointer (some ⟨r, 0, none⟩), .int .i64 x] w fun e w' => e = .returned (.int .i64 0) ∧ RQ w' r base (adL l x) ∧ Chg (fun k => k = r ∨ base ≤ k) w w' := by
  obtain ⟨a, cap, c0, f0, hW⟩ := h.cell
  have h0 : ¬ x < 0 := by omega
  have h1 : ¬ x > 11 := by omega
  obtain ⟨n, hn⟩ : ∃ n, n = l.length := ⟨_, rfl⟩
  have HK := hyd h
  have HW := hyd hW
  have HN := hyd hn
  have HR := hyd hr
  have HX := hyd hx
  have HB := hyd hbase
  have hnz : (n : Int) ≤ 12 := by omega
  have HL := hyd hl
  rw [← hn] at c0
  clear h hW hn hl hr hx hbase
  go_enter Try.func19, Try.ntmps19
  go_wp2_with fail
  go_loopg [5] n (fun kx s5 wr => ∃ i : Nat, s5 = .int .i64 i ∧ i ≤ n ∧ n - i ≤ kx ∧ Hid (∀ j, j < i → l.getD j 0 ≠ x) ∧ Hid (wr = w))
  case atStart => exact ⟨0, rfl, by omega, by omega, fun j hj => absurd hj (Nat.not_lt_zero _), rfl⟩
  case round =>
  obtain ⟨i, rfl, hin, hkx, HI, HE⟩ := hrel
  obtain rfl := HE.out
  by_cases hlt : i < n
  · have hltz : (i : Int) < (n : Int) := by omega
    obtain ⟨g, off, cap', hv, -, -, hc⟩ := HW.out.lies (by have := HN.out; omega)
    simp only [Value.slice.injEq, true_and] at hv
    obtain ⟨rfl, rfl⟩ := hv
    have ci := hc i (by rw [← HN.out]; exact hlt)
    clear hc
    generalize HZ : l.getD i 0 = z at *
    have HZ := hyd HZ
    by_cases e : z = x
    · have HD := hyd e
      have hb : (z == x) = true := by simp [e]
      clear e
      go_wp2
      go_ret
      have : x ∈ l := by
        rw [← HD.out, ← HZ.out, List.getD_eq_getElem?_getD, List.getElem?_eq_getElem (by rw [← HN.out]; exact hlt)]
        exact List.getElem_mem _
      unfold adL
      rw [if_pos (Or.inr this)]
      exact ⟨rfl, HK.out, Chg.refl _ _⟩
    · have HD := hyd e
      have hb : (z == x) = false := by simp [e]
      clear e
      go_wp2
      go_roundg (n - (i + 1))
      case measure => omega
      case rel =>
        refine ⟨i + 1, by simp, by omega, Nat.le_refl _, fun j hj => ?_, rfl⟩
        by_cases e : j = i
        · rw [e, HZ.out]; exact HD.out
        · exact HI.out j (by omega)
  · have hltz : ¬ (i : Int) < (n : Int) := by omega
    have hm : x ∉ l := fun hm => by
      obtain ⟨j, hj, he⟩ := List.getElem_of_mem hm
      refine HI.out j (by have := HN.out; omega) ?_
      rw [List.getD_eq_getElem?_getD, List.getElem?_eq_getElem hj]
      exact he
    have HA : Hid (adL l x = l ++ [x]) := by show _ = _; unfold adL; rw [if_neg (fun e => e.elim HX.out hm)]
    have G1 : Chg (fun _ => False) wr (wr.alloc (.cells #[.int .i64 x] 3)) := (Chg.refl _ _).alloc _
    have W1 := HW.out.chg G1 (fun _ _ f => f)
    rw [← HN.out] at W1
    have HW1 := hyd W1
    have HK1 := hyd (HK.out.chg G1 (fun f => f) (fun _ _ f => f))
    have HB1 : Hid (base ≤ (wr.alloc (.cells #[.int .i64 x] 3)).heap.size) := by have := HB.out; show _ ≤ _; simp; omega
    have HC1 : Hid ((wr.alloc (.cells #[.int .i64 x] 3)).cell? ⟨wr.heap.size, 0, none⟩ = some (.int .i64 x)) := by show _ = _; simp
    have HG1 := hyd G1
    clear hm G1 W1 HI
    go_wp2_with (first | (refine wpList_append_w _ rfl (.tmp 34) (.tmp 36) rfl base _ l rfl wr.heap.size x rfl ?_ ?_ (by have := HL.out; omega) ?_ ?_; exact HW1.out; exact HC1.out; exact HB1.out))
    intro v' w2 W2 G2
    obtain ⟨v0, K2⟩ : ∃ v0, w2.heap[r]? = some (.cells #[v0] 47) := by
      have hlt := HK1.out.lt
      obtain ⟨v0, k, -⟩ := HK1.out
      exact ⟨v0, (G2.block r hlt (by have := HR.out; omega)).trans k⟩
    have d0 : w2.cell? ⟨r, 0, none⟩ = some v0 := by simp [World.cell?, K2]
    have g0 : w2.frozen? ⟨r, 0, none⟩ = false := by simp [World.frozen?, K2]
    obtain ⟨a', cap', rfl⟩ := W2.form
    have HG2 : Hid (Chg (fun k => k = r ∨ base ≤ k) wr (w2.setCell ⟨r, 0, none⟩ (.slice a' (l ++ [x]).length cap'))) := ((HG1.out.mono (T := fun k => k = r ∨ base ≤ k) (fun _ _ f => f.elim)).trans (G2.mono (T := fun k => k = r ∨ base ≤ k) fun _ _ e => Or.inr e)).setCell (Or.inl (Or.inl rfl)) _ _
    have HK2 := hyd (RQ.put K2 HR.out W2)
    generalize (l ++ [x]).length = n' at *
    clear K2 W2 G2 HK1 HW1 HB1 HC1 HG1 HK HW
    go_wp2
    go_ret
    rw [HA.out]
    exact ⟨rfl, HK2.out, HG2.out⟩
theorem radd_v (w : World) (r base : Nat) (l : List Int) (h : RQ w r base l) (ok : Okq l) (hr : r < base) (hbase : base ≤ w.heap.size) (x : Int) : Calls Try.prog 19 #[.pointer (some ⟨r, 0, none⟩), .int .i64 x] w fun e w' => e = .returned (.int .i64 (adC x : Nat)) ∧ RQ w' r base (adL l x) ∧ Chg (fun k => k = r ∨ base ≤ k) w w' := by
  by_cases c : x < 0 ∨ 12 ≤ x
  · unfold adC adL
    rw [if_pos c, if_pos (Or.inl c)]
    refine (radd_arg w r x c).mono ?_
    rintro e w' ⟨rfl, rfl⟩
    exact ⟨rfl, h, Chg.refl _ _⟩
  · unfold adC
    rw [if_neg c]
    exact radd_in w r base l h ok.len hr hbase x c
theorem rnext_nil (w : World) (r base : Nat) (h : RQ w r base []) : Calls Try.prog 21 #[.pointer (some ⟨r, 0, none⟩)] w fun e w' => e = .returned (.tuple #[.int .i64 0, .bool false]) ∧ w' = w := by
  obtain ⟨a, cap, c0, -, -⟩ := h.cell
  replace c0 : w.cell? ⟨r, 0, none⟩ = some (.slice a 0 cap) := c0
  clear h
  go_enter Try.func21, Try.ntmps21
  go_wp2
  go_ret2
  exact ⟨rfl, rfl⟩
theorem elem22 (w : World) : (sizeOf (Try.prog.elem 22)).run Try.prog w = .ok 1 w := by kernel_rfl
theorem rnext_cons (w : World) (r base : Nat) (x : Int) (l : List Int) (h : RQ w r base (x :: l)) (hr : r < base) (hl : l.length ≤ 11) : Calls Try.prog 21 #[.pointer (some ⟨r, 0, none⟩)] w fun e w' => e = .returned (.tuple #[.int .i64 x, .bool true]) ∧ RQ w' r base l ∧ Chg (· = r) w w' := by
  obtain ⟨v, k, hW⟩ := h
  rcases hW with ⟨-, hW⟩ | ⟨g, off, cap, cur, rfl, hb, hh, hc, hsz, hrow⟩
  · simp at hW
  obtain ⟨n, hn⟩ : ∃ n, n = l.length := ⟨_, rfl⟩
  rw [List.length_cons, ← hn] at hc hrow k
  have c0 : w.cell? ⟨r, 0, none⟩ = some (.slice (some ⟨g, off, none⟩) (n + 1) cap) := by simp [World.cell?, k]
  have f0 : w.frozen? ⟨r, 0, none⟩ = false := by simp [World.frozen?, k]
  have d0 : w.cell? ⟨g, off, none⟩ = some (.int .i64 x) := by
    have := hrow 0 (by omega)
    simp only [World.cell?, hh]
    simpa [i6] using this
  obtain ⟨off', HO⟩ : ∃ off', Hid (off' = if cap = 1 then off else off + 1) := ⟨_, rfl⟩
  have hsl : ∀ w, (Instr.slice 22 (.slice (some ⟨g, off, none⟩) (n + 1) cap) (some (.int .i64 1)) none none).run Try.prog w = .ok (.slice (some ⟨g, off', none⟩) n (cap - 1)) w := fun w => by
    rw [run_slice_l w 22 _ _ _ Try.underlying22 .i64 1 (by omega) (by omega), HO.out, elem22]
    simp only [Result.andThen_ok, sliced]
    by_cases e : cap = 1
    · rw [if_pos (by simpa using e), if_pos e]; rfl
    · rw [if_neg (by simpa using e), if_neg e, Option.map_some, Addr.add_mid]; rfl
  have W2 : Wd w base (.slice (some ⟨g, off', none⟩) n (cap - 1)) l := by
    refine Or.inr ⟨g, off', cap - 1, cur, by rw [← hn], hb, hh, by omega, ?_, fun i hi => ?_⟩
    · rw [HO.out]; split <;> omega
    · rw [HO.out, if_neg (by omega), show off + 1 + i = off + (i + 1) by omega, hrow (i + 1) (by omega), List.getD_cons_succ]
  have HK2 := hyd (RQ.put k hr W2)
  have HG2 : Hid (Chg (· = r) w (w.setCell ⟨r, 0, none⟩ (.slice (some ⟨g, off', none⟩) n (cap - 1)))) := (Chg.refl (· = r) w).setCell (Or.inl rfl) _ _
  have hnz : (n : Int) ≤ 11 := by omega
  have hnb : ((n : Int) + 1 == 0) = false := by simp; omega
  clear k hh hc hsz hrow hn hl W2 hr hb
  go_enter Try.func21, Try.ntmps21
  go_wp2
  go_ret2
  exact ⟨rfl, HK2.out, HG2.out⟩
theorem rnext_v (w : World) (r base : Nat) (l : List Int) (h : RQ w r base l) (ok : Okq l) (hr : r < base) : Calls Try.prog 21 #[.pointer (some ⟨r, 0, none⟩)] w fun e w' => e = .returned (.tuple #[.int .i64 (l.headD 0), .bool (nxB l)]) ∧ RQ w' r base l.tail ∧ Chg (· = r) w w' := by
  match l, h, ok with
  | [], h, _ =>
    refine (rnext_nil w r base h).mono ?_
    rintro e w' ⟨rfl, rfl⟩
    exact ⟨rfl, h, Chg.refl _ _⟩
  | x :: l, h, ok =>
    have := ok.len
    exact rnext_cons w r base x l h hr (by simp at this; omega)
end Go.Proofs.Ytnldbeklcpcdcaa
