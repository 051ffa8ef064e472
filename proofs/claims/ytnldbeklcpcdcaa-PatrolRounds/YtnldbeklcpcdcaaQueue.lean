/-
  What the list of blocks answers: Add, Next, Len. No condition: lemmas.
-/
import Derived.Test.YtnldbeklcpcdcaaPat
import Derived.Deep.RegionLaw
namespace Go.Proofs.Ytnldbeklcpcdcaa
set_option maxRecDepth 100000
open Go.RowKit

/-- What a list of blocks may be. -/
def Okq (l : List Int) : Prop := l.Nodup ∧ ∀ x ∈ l, 0 ≤ x ∧ x < 12
theorem hole : ∀ (n : Nat) (l : List Int), l.Nodup → (∀ x ∈ l, 0 ≤ x ∧ x < (n : Int)) → l.length ≤ n
  | 0, l, _, h => by
    match l with
    | [] => exact Nat.le_refl _
    | x :: _ => have := h x (by simp); omega
  | n + 1, l, hd, h => by
    by_cases hm : (n : Int) ∈ l
    · have e := List.length_erase_of_mem hm
      have := hole n (l.erase (n : Int)) (hd.erase _) (fun x hx => by
        have h1 := hd.mem_erase_iff.1 hx
        have h2 := h x h1.2
        have h3 := h1.1
        omega)
      have hp : 0 < l.length := List.length_pos_of_mem hm
      omega
    · have := hole n l hd (fun x hx => by
        have h2 := h x hx
        have h3 : x ≠ (n : Int) := fun e => hm (e ▸ hx)
        omega)
      omega
theorem Okq.len {l : List Int} (h : Okq l) : l.length ≤ 12 := hole 12 l h.1 h.2
theorem Okq.nil : Okq [] := ⟨List.nodup_nil, fun x hx => absurd hx (by simp)⟩
theorem Okq.tail {x : Int} {l : List Int} (h : Okq (x :: l)) : Okq l := ⟨(List.nodup_cons.1 h.1).2, fun y hy => h.2 y (by simp [hy])⟩
theorem Okq.snoc {x : Int} {l : List Int} (h : Okq l) (hx : ¬ (x < 0 ∨ 12 ≤ x)) (hm : x ∉ l) : Okq (l ++ [x]) := by
  refine ⟨List.nodup_append.2 ⟨h.1, by simp, fun a ha b hb => ?_⟩, fun y hy => ?_⟩
  · simp at hb
    subst hb
    exact fun e => hm (e ▸ ha)
  · rcases List.mem_append.1 hy with hy | hy
    · exact h.2 y hy
    · simp at hy
      subst hy
      omega
/-- An error by its number. -/
def errV (c : Nat) : Value := if c = 0 then .nilIface else .iface 32 (.int .i64 c)
def Cd (c : Nat) : Prop := c = 0 ∨ c = 1
theorem code_v (c : Nat) (hc : Cd c) (w : World) : Calls Try.prog 18 #[errV c] w fun e w' => e = .returned (.int .i64 c) ∧ w' = w := by
  rcases hc with rfl | rfl
  · exact code_nil w
  · exact code_1 w
/-- Add's answer, and what waits then. -/
def adC (x : Int) : Nat := if x < 0 ∨ 12 ≤ x then 1 else 0
def adL (l : List Int) (x : Int) : List Int := if (x < 0 ∨ 12 ≤ x) ∨ x ∈ l then l else l ++ [x]
theorem adC_code (x : Int) : Cd (adC x) := by
  unfold adC Cd
  split <;> simp
theorem Okq.add {l : List Int} (h : Okq l) (x : Int) : Okq (adL l x) := by
  unfold adL
  split
  · exact h
  · rename_i c
    exact h.snoc (fun e => c (Or.inl e)) (fun e => c (Or.inr e))
/-- Block b holds the list l. -/
def QB (w : World) (b : Nat) (l : List Int) : Prop := ∃ F, IB w b 44 13 F ∧ F 12 = (l.length : Int) ∧ ∀ i, i < l.length → F i = l.getD i 0
section
variable {w w' : World} {b : Nat} {l : List Int}
theorem QB.lt (h : QB w b l) : b < w.heap.size := by
  obtain ⟨F, h, -⟩ := h
  exact h.lt
theorem QB.chg {S : Nat → Prop} (h : QB w b l) (hc : Chg S w w') (hb : ¬ S b) : QB w' b l := by
  obtain ⟨F, h1, h2⟩ := h
  exact ⟨F, h1.chg hc hb, h2⟩
theorem QB.drewN (h : QB w b l) (n : Nat) : QB (w.drewN n) b l := h
theorem QB.many (h : QB w b l) : w.cell? ⟨b, 12, none⟩ = some (.int .i64 (l.length : Int)) ∧ w.frozen? ⟨b, 12, none⟩ = false := by
  obtain ⟨F, h1, h2, -⟩ := h
  rw [← h2]
  exact h1.cell 12 (by omega)
theorem QB.cell (h : QB w b l) (hl : l.length ≤ 12) (i : Nat) (hi : i < l.length) : w.cell? ⟨b, i, none⟩ = some (.int .i64 (l.getD i 0)) ∧ w.frozen? ⟨b, i, none⟩ = false := by
  obtain ⟨F, h1, -, h3⟩ := h
  rw [← h3 i hi]
  exact h1.cell i (by omega)
theorem QB.new (w : World) : QB (w.alloc (.cells (ints (fun _ => 0) 13).toArray 44)) w.heap.size [] := ⟨fun _ => 0, IB.new w 44 13 _, rfl, fun _ hi => absurd hi (Nat.not_lt_zero _)⟩
end
theorem len_any (w : World) (b : Nat) (l : List Int) (h : QB w b l) : Calls Try.prog 22 #[.pointer (some ⟨b, 0, none⟩)] w fun e w' => e = .returned (.int .i64 (l.length : Int)) ∧ w' = w := by
  obtain ⟨c, -⟩ := h.many
  clear h
  go_enter Try.func22, Try.ntmps22
  go_wp2
  go_ret
  exact ⟨rfl, rfl⟩
theorem len42 : Try.prog.arrayLen 42 = 12 := by kernel_rfl
theorem elem42 (w : World) : (sizeOf (Try.prog.elem 42)).run Try.prog w = .ok 1 w := by kernel_rfl
theorem slice42_h (b n : Nat) (hn : n ≤ 12) (w : World) : (Instr.sliceAt 42 (.pointer (some ⟨b, 0, none⟩)) none (some (.int .i64 n)) none).run Try.prog w = .ok (.slice (some ⟨b, 0, none⟩) n 12) w := by
  rw [run_sliceAt_array_h w 42 ⟨b, 0, none⟩ Try.underlying42 .i64 n (by omega) (by rw [len42]; omega), elem42, len42]
  simp [slicedAt, Addr.add_mid]
theorem slice42_a (b : Nat) (w : World) : (Instr.sliceAt 42 (.pointer (some ⟨b, 0, none⟩)) none none none).run Try.prog w = .ok (.slice (some ⟨b, 0, none⟩) 12 12) w := by
  rw [run_sliceAt_array_all w 42 ⟨b, 0, none⟩ Try.underlying42, elem42, len42]
  simp [slicedAt, Addr.add_mid]
theorem slice42_1 (b n : Nat) (hn : n ≤ 11) (w : World) : (Instr.sliceAt 42 (.pointer (some ⟨b, 0, none⟩)) (some (.int .i64 1)) (some (.int .i64 (n + 1))) none).run Try.prog w = .ok (.slice (some ⟨b, 1, none⟩) n 11) w := by
  rw [run_sliceAt_array_lh w 42 ⟨b, 0, none⟩ Try.underlying42 .i64 .i64 1 (n + 1) (by omega) (by omega) (by rw [len42]; omega), elem42, len42]
  simp only [Result.andThen_ok, slicedAt]
  rw [if_neg (by omega), Addr.add_mid]
  congr 2
theorem waits_v (w : World) (b : Nat) (l : List Int) (h : QB w b l) (hl : l.length ≤ 12) (x : Int) : Calls Try.prog 25 #[.pointer (some ⟨b, 0, none⟩), .int .i64 x] w fun e w' => e = .returned (.bool (decide (x ∈ l))) ∧ ∃ m, w' = w.drewN m := by
  obtain ⟨bb, HB⟩ : ∃ bb, Hid (bb = decide (x ∈ l)) := ⟨_, rfl⟩
  rw [← HB.out]
  obtain ⟨c, -⟩ := h.many
  have HK := hyd h
  obtain ⟨n, hn⟩ : ∃ n, n = l.length := ⟨_, rfl⟩
  rw [← hn] at c hl
  have HN := hyd hn
  have hs := slice42_h b n hl
  have HL := hyd hl
  have hnz : (n : Int) ≤ 12 := by omega
  clear h hn hl
  go_enter Try.func25, Try.ntmps25
  go_wp2_with fail
  go_quiet (fail)
  clear hs c
  go_wp2_with fail
  go_loopg [16] n (fun kx s16 wr => ∃ i : Nat, s16 = .int .i64 i ∧ i ≤ n ∧ n - i ≤ kx ∧ Hid (∀ j, j < i → l.getD j 0 ≠ x) ∧ Hid (wr = w.drewN nq))
  case atStart => exact ⟨0, rfl, by omega, by omega, fun j hj => absurd hj (Nat.not_lt_zero _), rfl⟩
  case round =>
  obtain ⟨i, rfl, hin, hkx, HI, HW⟩ := hrel
  obtain rfl := HW.out
  by_cases hlt : i < n
  · have hltz : (i : Int) < (n : Int) := by omega
    obtain ⟨ci, -⟩ := (HK.out.drewN nq).cell (by rw [← HN.out]; exact HL.out) i (by rw [← HN.out]; exact hlt)
    generalize HZ : l.getD i 0 = z at *
    have HZ := hyd HZ
    by_cases e : z = x
    · have HE := hyd e
      have hb : (z == x) = true := by simp [e]
      clear e
      go_wp2
      go_ret
      have : bb = true := by
        rw [HB.out]
        refine decide_eq_true ?_
        rw [← HE.out, ← HZ.out, List.getD_eq_getElem?_getD, List.getElem?_eq_getElem (by rw [← HN.out]; exact hlt)]
        exact List.getElem_mem _
      rw [this]
      exact ⟨rfl, _, rfl⟩
    · have HE := hyd e
      have hb : (z == x) = false := by simp [e]
      clear e
      go_wp2
      go_roundg (n - (i + 1))
      case measure => omega
      case rel =>
        refine ⟨i + 1, by simp, by omega, Nat.le_refl _, fun j hj => ?_, rfl⟩
        by_cases e : j = i
        · rw [e, HZ.out]; exact HE.out
        · exact HI.out j (by omega)
  · have hltz : ¬ (i : Int) < (n : Int) := by omega
    go_wp2
    go_ret
    have : bb = false := by
      rw [HB.out]
      refine decide_eq_false fun hm => ?_
      obtain ⟨j, hj, he⟩ := List.getElem_of_mem hm
      refine HI.out j (by have := HN.out; omega) ?_
      rw [List.getD_eq_getElem?_getD, List.getElem?_eq_getElem hj]
      exact he
    rw [this]
    exact ⟨rfl, _, rfl⟩
theorem size3 : (Try.prog.info? 3).map (·.size) = some 1 := by kernel_rfl
/-- 'copy(q.blocks[:], q.blocks[1:n+1])'. -/
theorem step_copy_q {ops : Array Oper} {o : Oper} {a : Act} {w : World} {K : Act → World → Prop} {Q : Exit → Act → World → Prop} {E : Prop} (hgd : o.guard = none) (d s : Operand)
    (ho : o.op = .call { callee := .builtin .copy, args := #[d, s], argTypes := #[22, 22] }) (b n : Nat) (hd : a.eval d = .slice (some ⟨b, 0, none⟩) 12 12) (hs : a.eval s = .slice (some ⟨b, 1, none⟩) n 11) (hn : n ≤ 11)
    {F : Nat → Int} (hI : IB w b 44 13 F)
    (h : ∀ w', IB w' b 44 13 (fun j => if j < n then F (j + 1) else F j) → Chg (· = b) w w' → K (a.put o.dst (goInt n)) w') :
    if Region.wanted o (yielded ops a.tmps) = true then Oper.wp Try.prog o a w K Q else E := by
  have hw : Region.wanted o (yielded ops a.tmps) = true := by simp [Region.wanted, hgd]
  rw [if_pos hw]
  have hlen : (ints (fun j => F (j + 1)) n).length = n := ints_length _ _
  have hrun := run_copy_row (P := Try.prog) w 22 22 o.type 3 b 0 12 12 ⟨b, 1, none⟩ n 11 (ints F 13).toArray 44 (ints (fun j => F (j + 1)) n) Try.underlying22 size3 hI (by rw [hlen]; exact (Nat.min_eq_left (by omega)).symm) (fun j v hv => by
    have hj : j < n := by have := (List.getElem?_eq_some_iff.1 hv).1; rwa [hlen] at this
    rw [Addr.add_mid, ints_at _ _ _ hj] at *
    rw [← hv, (hI.cell (1 + j) (by omega)).1, Nat.add_comm]; rfl) (by rw [hlen]; simp [ints_length]; omega) (ints_one _ _)
  have hrow : ((ints F 13).toArray.toList.take 0 ++ ints (fun j => F (j + 1)) n ++ (ints F 13).toArray.toList.drop (0 + (ints (fun j => F (j + 1)) n).length)) = ints (fun j => if j < n then F (j + 1) else F j) 13 := by
    rw [hlen]
    apply List.ext_getElem?
    intro j
    simp only [List.take_zero, List.nil_append, Nat.zero_add]
    by_cases h1 : j < n
    · rw [List.getElem?_append_left (by rw [hlen]; exact h1), ints_at _ _ _ h1, ints_at _ _ _ (by omega), if_pos h1]
    · rw [List.getElem?_append_right (by rw [hlen]; omega), hlen, List.getElem?_drop, show n + (j - n) = j by omega]
      by_cases h2 : j < 13
      · rw [ints_at _ _ _ h2, ints_at _ _ _ h2, if_neg h1]
      · rw [List.getElem?_eq_none (by rw [ints_length]; omega), List.getElem?_eq_none (by rw [ints_length]; omega)]
  rw [hrow, hlen] at hrun
  unfold Oper.wp
  simp [execOp, ho, resolve, invoke, builtin, hd, hs, hrun, Result.andThen]
  exact h _ (hI.row _) (chg_row _ _ _)
theorem next_nil (w : World) (b : Nat) (h : QB w b []) : Calls Try.prog 20 #[.pointer (some ⟨b, 0, none⟩)] w fun e w' => e = .returned (.tuple #[.int .i64 0, .bool false]) ∧ w' = w := by
  obtain ⟨c, -⟩ := h.many
  replace c : w.cell? ⟨b, 12, none⟩ = some (.int .i64 0) := c
  clear h
  go_enter Try.func20, Try.ntmps20
  go_wp2
  go_ret2
  exact ⟨rfl, rfl⟩
theorem next_cons (w : World) (b : Nat) (x : Int) (l : List Int) (h : QB w b (x :: l)) (hl : l.length ≤ 11) : Calls Try.prog 20 #[.pointer (some ⟨b, 0, none⟩)] w fun e w' => e = .returned (.tuple #[.int .i64 x, .bool true]) ∧ QB w' b l ∧ Chg (· = b) w w' := by
  obtain ⟨c, -⟩ := h.many
  obtain ⟨c0, -⟩ := h.cell (by simp; omega) 0 (by simp)
  replace c0 : w.cell? ⟨b, 0, none⟩ = some (.int .i64 x) := c0
  obtain ⟨F, hI, h1, h2⟩ := h
  obtain ⟨n, hn⟩ : ∃ n, n = l.length := ⟨_, rfl⟩
  rw [List.length_cons, ← hn] at c h1 h2
  rw [← hn] at hl
  have hnb : (((n + 1 : Nat) : Int) == 0) = false := by simp; omega
  have hnz : (n : Int) ≤ 11 := by omega
  have hs1 := slice42_a b
  have hs2 := slice42_1 b n hl
  have HI := hyd hI
  have H1 := hyd h1
  have H2 := hyd h2
  have HN := hyd hn
  have HL := hyd hl
  clear hI h1 h2 hn hl
  push_cast at c hnb
  go_enter Try.func20, Try.ntmps20
  go_wp2_with fail
  go_region_law (refine step_copy_q rfl (.tmp 18) (.tmp 26) rfl b n rfl rfl HL.out HI.out ?_; intro w2 I2 G2)
  all_goals
    have cm := I2.cell 12 (by omega)
    rw [if_neg (by have := HL.out; omega), H1.out] at cm
    obtain ⟨c12, f12⟩ := cm
    push_cast at c12
    have HQ : Hid (QB (w2.setCell ⟨b, 12, none⟩ (.int .i64 n)) b l) := ⟨_, I2.set 12 n, by rw [← HN.out]; rfl, fun i hi => by
      have := HN.out
      have := HL.out
      show (if i = 12 then (n : Int) else if i < n then F (i + 1) else F i) = _
      rw [if_neg (by omega), if_pos (by omega), H2.out (i + 1) (by omega), List.getD_cons_succ]⟩
    have HG : Hid (Chg (· = b) w (w2.setCell ⟨b, 12, none⟩ (.int .i64 n))) := (((Chg.refl (· = b) w).drew).trans G2).setCell (Or.inl rfl) _ _
    clear I2 G2 c c0 hs1 hs2 HI H1 H2 hnb
    go_wp2
    go_ret2
    exact ⟨rfl, HQ.out, HG.out⟩
theorem add_arg (w : World) (b : Nat) (x : Int) (h : x < 0 ∨ 12 ≤ x) : Calls Try.prog 17 #[.pointer (some ⟨b, 0, none⟩), .int .i64 x] w fun e w' => e = .returned (.iface 32 (.int .i64 1)) ∧ w' = w := by
  by_cases h0 : x < 0
  · clear h
    go_enter Try.func17, Try.ntmps17
    go_wp2
    go_ret
    exact ⟨rfl, rfl⟩
  · have h1 : x ≥ 12 := by omega
    clear h
    go_enter Try.func17, Try.ntmps17
    go_wp2
    go_ret
    exact ⟨rfl, rfl⟩
theorem add_old (w : World) (b : Nat) (l : List Int) (h : QB w b l) (hl : l.length ≤ 12) (x : Int) (hx : ¬ (x < 0 ∨ 12 ≤ x)) (hm : x ∈ l) : Calls Try.prog 17 #[.pointer (some ⟨b, 0, none⟩), .int .i64 x] w fun e w' => e = .returned .nilIface ∧ ∃ m, w' = w.drewN m := by
  have hw := waits_v w b l h hl x
  rw [decide_eq_true hm] at hw
  have h0 : ¬ x < 0 := by omega
  have h1 : ¬ x ≥ 12 := by omega
  clear h hl hm hx
  go_enter Try.func17, Try.ntmps17
  go_wp2_with fail
  refine hw.mono ?_
  rintro e w1 ⟨rfl, m, rfl⟩
  clear hw
  go_wp2
  go_ret
  exact ⟨rfl, _, rfl⟩
theorem add_new (w : World) (b : Nat) (l : List Int) (h : QB w b l) (hl : l.length < 12) (x : Int) (hx : ¬ (x < 0 ∨ 12 ≤ x)) (hm : x ∉ l) : Calls Try.prog 17 #[.pointer (some ⟨b, 0, none⟩), .int .i64 x] w fun e w' => e = .returned .nilIface ∧ QB w' b (l ++ [x]) ∧ Chg (· = b) w w' := by
  have hw := waits_v w b l h (by omega) x
  rw [decide_eq_false hm] at hw
  have h0 : ¬ x < 0 := by omega
  have h1 : ¬ x ≥ 12 := by omega
  obtain ⟨F, hI, k1, k2⟩ := h
  obtain ⟨n, hn⟩ : ∃ n, n = l.length := ⟨_, rfl⟩
  rw [← hn] at hl k1 k2
  have HI := hyd hI
  have H1 := hyd k1
  have H2 := hyd k2
  have HN := hyd hn
  have HL := hyd hl
  have hnz : (n : Int) < 12 := by omega
  clear hI k1 k2 hn hl hm hx
  go_enter Try.func17, Try.ntmps17
  go_wp2_with fail
  refine hw.mono ?_
  rintro e w1 ⟨rfl, m, rfl⟩
  clear hw
  have I1 : IB (w.drewN m) b 44 13 F := HI.out
  have HG1 : Hid (Chg (· = b) w (w.drewN m)) := (Chg.refl _ _).drewN m
  generalize w.drewN m = w1 at *
  obtain ⟨c12, f12⟩ := I1.cell 12 (by omega)
  rw [H1.out] at c12
  obtain ⟨cn, fn⟩ := I1.cell n (by have := HL.out; omega)
  have HI1 := hyd I1
  clear I1 HI
  go_wp2_with fail
  go_region
  have I2 : IB ((w1.setCell ⟨b, n, none⟩ (.int .i64 x)).drew) b 44 13 (upd F n x) := HI1.out.set n x
  have HG2 : Hid (Chg (· = b) w ((w1.setCell ⟨b, n, none⟩ (.int .i64 x)).drew)) := (HG1.out.setCell (Or.inl rfl) _ _).drew
  clear HI1 HG1 c12 f12 cn fn
  generalize (w1.setCell ⟨b, n, none⟩ (.int .i64 x)).drew = w2 at *
  obtain ⟨d12, g12⟩ := I2.cell 12 (by omega)
  rw [show upd F n x 12 = (n : Int) by unfold upd; rw [if_neg (by have := HL.out; omega)]; exact H1.out] at d12
  have HQ : Hid (QB (w2.setCell ⟨b, 12, none⟩ (.int .i64 ((n + 1 : Nat) : Int))) b (l ++ [x])) := ⟨_, I2.set 12 _, by rw [List.length_append, ← HN.out]; rfl, fun i hi => by
    rw [List.length_append, ← HN.out, List.length_singleton] at hi
    have hl := HL.out
    show (if i = 12 then ((n + 1 : Nat) : Int) else if i = n then x else F i) = _
    rw [if_neg (by omega)]
    by_cases e : i = n
    · rw [if_pos e, e, HN.out]; simp
    · rw [if_neg e, H2.out i (by omega), List.getD_eq_getElem?_getD, List.getD_eq_getElem?_getD, List.getElem?_append_left (by rw [← HN.out]; omega)]⟩
  have HG3 : Hid (Chg (· = b) w (w2.setCell ⟨b, 12, none⟩ (.int .i64 ((n + 1 : Nat) : Int)))) := HG2.out.setCell (Or.inl rfl) _ _
  clear I2 HG2
  go_wp2
  go_ret
  exact ⟨rfl, HQ.out, HG3.out⟩
theorem add_v (w : World) (b : Nat) (l : List Int) (h : QB w b l) (ok : Okq l) (x : Int) : Calls Try.prog 17 #[.pointer (some ⟨b, 0, none⟩), .int .i64 x] w fun e w' => e = .returned (errV (adC x)) ∧ QB w' b (adL l x) ∧ Chg (· = b) w w' := by
  unfold adC adL
  by_cases c : x < 0 ∨ 12 ≤ x
  · rw [if_pos c, if_pos (Or.inl c)]
    refine (add_arg w b x c).mono ?_
    rintro e w' ⟨rfl, rfl⟩
    exact ⟨rfl, h, Chg.refl _ _⟩
  · rw [if_neg c]
    by_cases hm : x ∈ l
    · rw [if_pos (Or.inr hm)]
      refine (add_old w b l h ok.len x c hm).mono ?_
      rintro e w' ⟨rfl, m, rfl⟩
      exact ⟨rfl, h.drewN m, (Chg.refl _ _).drewN m⟩
    · rw [if_neg (fun e => e.elim c hm)]
      have := (ok.snoc c hm).len
      refine (add_new w b l h (by simp at this; omega) x c hm).mono ?_
      rintro e w' ⟨rfl, h1, h2⟩
      exact ⟨rfl, h1, h2⟩
/-- Next's answer. -/
def nxB (l : List Int) : Bool := match l with | [] => false | _ :: _ => true
theorem next_v (w : World) (b : Nat) (l : List Int) (h : QB w b l) (ok : Okq l) : Calls Try.prog 20 #[.pointer (some ⟨b, 0, none⟩)] w fun e w' => e = .returned (.tuple #[.int .i64 (l.headD 0), .bool (nxB l)]) ∧ QB w' b l.tail ∧ Chg (· = b) w w' := by
  match l, h, ok with
  | [], h, _ =>
    refine (next_nil w b h).mono ?_
    rintro e w' ⟨rfl, rfl⟩
    exact ⟨rfl, h, Chg.refl _ _⟩
  | x :: l, h, ok =>
    have := ok.len
    exact next_cons w b x l h (by simp at this; omega)
end Go.Proofs.Ytnldbeklcpcdcaa
