/-
  In which sectors two arrays differ: the program's answer. Conditions: both are arrays.
-/
import Derived.Test.YthpjdnfalecbeaaFns
import Derived.Deep.LoopGhost
namespace Go.Proofs.Ythpjdnfalecbeaa
open Go.RowKit
set_option maxRecDepth 100000
def i6 (z : Int) : Value := .int .i64 z
/-- The slice v is the call's own (its block is base or above), of the ints l. -/
def Ow (w : World) (base : Nat) (v : Value) (l : List Int) : Prop := w.ownsRow base 3 1 v l.length (l.map i6)
theorem i6_one (l : List Int) : ∀ u ∈ l.map i6, u.oneCell' = true := by
  intro u hu
  obtain ⟨n, _, rfl⟩ := List.mem_map.1 hu
  rfl
theorem Ow.nil (w : World) (base : Nat) : Ow w base (.slice none 0 0) [] := ⟨rfl, Or.inl ⟨rfl, rfl⟩⟩
theorem Ow.form {w : World} {base : Nat} {v : Value} {l : List Int} (h : Ow w base v l) : ∃ a cap, v = .slice a l.length cap := by
  rcases h.2 with ⟨h1, h2⟩ | ⟨g, cap, cur, hv, _⟩
  · exact ⟨none, 0, by rw [h1, h2]⟩
  · exact ⟨_, _, hv⟩
/-- Where it lies. -/
theorem Ow.lies {w : World} {base : Nat} {v : Value} {l : List Int} (h : Ow w base v l) (h0 : l.length ≠ 0) :
    ∃ g cap, v = .slice (some ⟨g, 0, none⟩) l.length cap ∧ base ≤ g ∧ g < w.heap.size ∧ (∀ i, i < l.length → w.cell? ⟨g, i, none⟩ = some (.int .i64 (l.getD i 0))) ∧ ∀ i, w.frozen? ⟨g, i, none⟩ = false := by
  rcases h.2 with ⟨_, h1⟩ | ⟨g, cap, cur, hv, hg, hh, hn, hm, hs, ht⟩
  · exact absurd h1 h0
  · refine ⟨g, cap, hv, hg, (Array.getElem?_eq_some_iff.1 hh).1, fun i hi => ?_, fun i => by simp [World.frozen?, hh]⟩
    have e1 : cur[i]? = some (i6 (l.getD i 0)) := by
      have h2 : (cur.toList.take (l.length * 1))[i]? = (l.map i6)[i]? := by rw [ht]
      rw [List.getElem?_take_of_lt (by omega), List.getElem?_map, List.getElem?_eq_getElem hi, Array.getElem?_toList] at h2
      rw [h2, List.getD_eq_getElem?_getD, List.getElem?_eq_getElem hi]; rfl
    simp only [World.cell?, hh]
    simpa [i6] using e1
theorem Ow.block {w : World} {base : Nat} {v : Value} {l : List Int} (h : Ow w base v l) {k : Nat} (hk : v.ownBlock = some k) : base ≤ k ∧ k < w.heap.size := h.lt k hk
theorem Ow.chg {S : Nat → Prop} {w w' : World} {base : Nat} {v : Value} {l : List Int} (h : Ow w base v l) (hc : Chg S w w') (hs : ∀ k, k < w.heap.size → v.ownBlock = some k → ¬ S k) : Ow w' base v l := by
  refine ⟨h.1, ?_⟩
  rcases h.2 with h1 | ⟨g, cap, cur, rfl, hb, hh, r⟩
  · exact Or.inl h1
  · have hg := (Array.getElem?_eq_some_iff.1 hh).1
    exact Or.inr ⟨g, cap, cur, rfl, hb, (hc.block g hg (hs g hg rfl)).trans hh, r⟩
theorem Ow.new {w w' : World} {base : Nat} {v : Value} {l : List Int} (h : Ow w base v l) (hc : Chg (fun _ => False) w w') : Ow w' base v l := h.chg hc (fun _ _ _ f => f)
theorem info3 : ∃ i, Try.prog.info? 3 = some i ∧ i.zero = some (.int .i64 0) ∧ i.size = 1 ∧ i.bytes = 8 := by
  have h : (Try.prog.info? 3).map (fun i => (i.zero, i.size, i.bytes)) = some (some (.int .i64 0), 1, 8) := by kernel_rfl
  cases e : Try.prog.info? 3 with
  | none => rw [e] at h; cases h
  | some i =>
    rw [e] at h
    simp only [Option.map_some, Option.some.injEq, Prod.mk.injEq] at h
    exact ⟨i, rfl, h.1, h.2.1, h.2.2⟩
/-- 'append(v, z)', v the call's own. -/
theorem wpList_append_i (w : World) {ops : Array Oper} {rest : List Oper} {o : Oper} {a : Act} {Q : Exit → Act → World → Prop} (hgd : o.guard = none) (s x : Operand)
    (ho : o.op = .call { callee := .builtin .append, args := #[s, x], argTypes := #[49, 49] })
    (base : Nat) (v : Value) (l : List Int) (hs : a.eval s = v) (g : Nat) (z : Int) (hx : a.eval x = .slice (some ⟨g, 0, none⟩) 1 1) (hown : Ow w base v l) (hA : w.cell? ⟨g, 0, none⟩ = some (.int .i64 z))
    (hl : l.length < 100) (hbase : base ≤ w.heap.size)
    (h : ∀ v' w', Ow w' base v' (l ++ [z]) → Chg (fun k => v.ownBlock = some k) w w' → wpList Try.prog ops Q rest (a.put o.dst v') w') : wpList Try.prog ops Q (o :: rest) a w := by
  obtain ⟨i, hi1, hi2, hi3, hi4⟩ := info3
  refine wpList_append_own_at w hgd s x 49 ho base 3 i (.int .i64 0) 1 8 Try.underlying49 hi1 hi2 hi3 hi4 rfl (by decide) v l.length (l.map i6) hs hown ⟨g, 0, none⟩ 1 1 [i6 z] hx rfl ?_ (fun u hu => by simp at hu; rw [hu]; rfl) (by unfold maxLen; omega) (by omega) hbase ?_
  · intro j u hj
    match j, hj with
    | 0, hj =>
      simp at hj
      subst hj
      rw [Addr.add_mid]
      exact hA
  · intro v' w' h1 h2 _ _
    refine h v' w' ?_ ⟨h2.os, h2.tape, h2.output, h2.size, fun k hk hs => h2.block k hk (fun e => hs e.symm)⟩
    unfold Ow
    rw [List.length_append, List.map_append]
    exact h1
theorem getD_ext {l l' : List Nat} (h : l.length = l'.length) (e : ∀ i, i < l.length → l.getD i 0 = l'.getD i 0) : l = l' := list_eq_of_getD h e
theorem plain5 : Try.prog.plainKey 5 = true := by kernel_rfl
theorem cells5 : Try.prog.cellsOf 5 = 1 := by kernel_rfl
theorem eq_items (d : Nat) (l l' : List Nat) (w : World) (is : List Nat) (hin : ∀ i ∈ is, i < l.length ∧ i < l'.length) :
    ∃ r : Bool, (Op.eqItems (d + 1) 5 1 (bcells l) (bcells l') is).run Try.prog w = .ok r w ∧ (r = true ↔ ∀ i ∈ is, l.getD i 0 = l'.getD i 0) := by
  induction is with
  | nil => exact ⟨true, by simp [Op.eqItems], by simp⟩
  | cons i is ih =>
    obtain ⟨r, hr, hiff⟩ := ih (fun j hj => hin j (by simp [hj]))
    obtain ⟨h1, h2⟩ := hin i (by simp)
    have p1 := run_part_plain (P := Try.prog) w plain5 (xs := bcells l) (off := i * 1) (by rw [Nat.mul_one]; exact bcells_at l i h1)
    have p2 := run_part_plain (P := Try.prog) w plain5 (xs := bcells l') (off := i * 1) (by rw [Nat.mul_one]; exact bcells_at l' i h2)
    have p3 := run_equalIn_int (P := Try.prog) w d 5 .u8 .u8 (l.getD i 0 : Nat) (l'.getD i 0 : Nat) Try.underlying5
    simp only [Op.eqItems, Sem.run_bind, p1, p2, p3, Result.andThen_ok]
    by_cases e : l.getD i 0 = l'.getD i 0
    · have e2 : (((l.getD i 0 : Nat) : Int) == (l'.getD i 0 : Nat)) = true := by rw [e]; exact beq_self_eq_true _
      refine ⟨r, by simp only [e2]; simpa using hr, ?_⟩
      rw [hiff]; simp only [List.mem_cons, forall_eq_or_imp]; exact ⟨fun h => ⟨e, h⟩, fun h => h.2⟩
    · have e' : ((l.getD i 0 : Nat) : Int) ≠ (l'.getD i 0 : Nat) := by omega
      refine ⟨false, by simp only [beq_eq_false_iff_ne.2 e']; simp, ?_⟩
      simp only [List.mem_cons, forall_eq_or_imp]
      exact ⟨fun h => by simp at h, fun h => absurd h.1 e⟩
theorem eq_arr (d : Nat) (w : World) (t : TypeId) (n : Nat) (hu : Try.prog.underlying t = some (.array n 5)) (l l' : List Nat) (h1 : l.length = n) (h2 : l'.length = n) :
    (Op.equalIn (d + 2) t (.agg (bcells l)) (.agg (bcells l'))).run Try.prog w = .ok (decide (l = l')) w := by
  obtain ⟨i5, hi5, _⟩ := info5
  rw [run_equalIn_array w (d + 1) _ _ hu hi5, cells5]
  obtain ⟨r, hr, hiff⟩ := eq_items d l l' w (List.range n) (fun i hi => by rw [List.mem_range] at hi; omega)
  rw [hr]
  congr 1
  rw [Bool.eq_iff_iff, hiff, decide_eq_true_iff]
  constructor
  · intro h
    exact getD_ext (by omega) (fun i hi => h i (by rw [List.mem_range]; omega))
  · rintro rfl i _; rfl
theorem neq51 (l l' : List Nat) (h1 : l.length = 160) (h2 : l'.length = 160) (w : World) : (binOp .neq 51 (.agg (bcells l)) (.agg (bcells l'))).run Try.prog w = .ok (.bool (!decide (l = l'))) w := by
  rw [run_neq_struct, show (10000 : Nat) = 9998 + 2 from rfl, eq_arr 9998 w 51 160 Try.underlying51 l l' h1 h2]; rfl
theorem guard51 (w : World) (op : BinOp) (x y : Operand) (xs ys : Array Value) : (eqGuard op 51 x y (.agg xs) (.agg ys)).run Try.prog w = .ok () w := run_eqGuard_agg w op 51 x y xs ys (by kernel_rfl)
/-- In which of the first n sectors they differ. -/
def dif (s t : Nat → List Nat) (n : Nat) : List Int := ((List.range n).filter fun i => !decide (s i = t i)).map fun (i : Nat) => (i : Int)
theorem dif_succ (s t : Nat → List Nat) (n : Nat) : dif s t (n + 1) = if s n = t n then dif s t n else dif s t n ++ [(n : Int)] := by
  unfold dif
  rw [List.range_succ, List.filter_append, List.map_append]
  by_cases e : s n = t n
  · rw [if_pos e]; simp [e]
  · rw [if_neg e]; simp [e]
theorem dif_length (s t : Nat → List Nat) (n : Nat) : (dif s t n).length ≤ n := by
  induction n with
  | zero => simp [dif]
  | succ n ih => rw [dif_succ]; split; omega; rw [List.length_append]; simp; omega
theorem dif_congr (s t s' t' : Nat → List Nat) (n : Nat) (h1 : ∀ i, i < n → s i = s' i) (h2 : ∀ i, i < n → t i = t' i) : dif s t n = dif s' t' n := by
  induction n with
  | zero => rfl
  | succ n ih => rw [dif_succ, dif_succ, h1 n (by omega), h2 n (by omega), ih (fun i hi => h1 i (by omega)) (fun i hi => h2 i (by omega))]
theorem AryAt.load {w : World} {g : Nat} {s : Nat → List Nat} (h : AryAt w g s) (hs : Okr s) (b : Nat) (hb : b < 24) : (loadVar 51 ⟨g, b * 160, none⟩).run Try.prog w = .ok (.agg (bcells (s b))) w := by
  have := run_loadVar_mid (P := Try.prog) w g (b * 160) 51 ((s b).map byt) _ (by rw [Nat.mul_comm]; exact h.sect hs b hb) Try.underlying51 rfl (by rw [List.length_map, hs.len]; kernel_rfl)
  rw [this]; rfl
theorem quiet_val {P : Program} {ops : Array Oper} {C : World → Prop} {K : Act → Prop} {a : Act} {o : Oper} (hw : Region.wanted o (yielded ops a.tmps) = true) (v : Value) (h : ∀ w, C w → (execOp a.eval o).run P w = .ok (.value v) w) (next : K (a.put o.dst v)) : if Region.wanted o (yielded ops a.tmps) then o.quiet P a C K else K (a.put o.dst undef) := by
  rw [if_pos hw]
  refine ⟨v, fun w hc => ?_, next⟩
  unfold Oper.quietAt
  rw [h w hc]
  exact ⟨rfl, rfl⟩
theorem exec_nil {o : Oper} {a : Act} {w : World} {x : Operand} {g f : Nat} (ho : o.op = .nilCheck x) (hx : a.eval x = .pointer (some ⟨g, f, none⟩)) : (execOp a.eval o).run Try.prog w = .ok (.value (.pointer (some ⟨g, f, none⟩))) w := by
  unfold execOp
  simp only [ho, hx]
  rfl
theorem exec_field {o : Oper} {a : Act} {w : World} {x : Operand} {g : Nat} (ho : o.op = .fieldAddr 54 x 0) (hx : a.eval x = .pointer (some ⟨g, 0, none⟩)) : (execOp a.eval o).run Try.prog w = .ok (.value (.pointer (some ⟨g, 0, none⟩))) w := by
  unfold execOp
  simp only [ho, hx]
  simp [go_sem]
theorem exec_index {o : Oper} {a : Act} {w : World} {x y : Operand} {g i : Nat} (hi : i < 24) (ho : o.op = .indexAddr 52 x y) (hx : a.eval x = .pointer (some ⟨g, 0, none⟩)) (hy : a.eval y = .int .i64 i) : (execOp a.eval o).run Try.prog w = .ok (.value (.pointer (some ⟨g, i * 160, none⟩))) w := by
  unfold execOp
  simp only [ho, hx, hy]
  simp [go_sem]
  intro h3
  omega
theorem exec_load51 {o : Oper} {a : Act} {w : World} {x : Operand} {g b : Nat} {s : Nat → List Nat} (h : AryAt w g s) (hs : Okr s) (hb : b < 24) (ho : o.op = .load 51 x) (hx : a.eval x = .pointer (some ⟨g, b * 160, none⟩)) : (execOp a.eval o).run Try.prog w = .ok (.value (.agg (bcells (s b)))) w := by
  unfold execOp
  simp only [ho, hx, Instr.loadAt, Instr.sureAddr, Sem.run_bind, Sem.run_pure, Result.andThen_ok, h.load hs b hb]
theorem exec_neq51 {o : Oper} {a : Act} {w : World} {x y : Operand} {t : TypeId} {l l' : List Nat} (h1 : l.length = 160) (h2 : l'.length = 160) (ho : o.op = .binOp .neq 51 x y t) (hx : a.eval x = .agg (bcells l)) (hy : a.eval y = .agg (bcells l')) : (execOp a.eval o).run Try.prog w = .ok (.value (.bool (!decide (l = l')))) w := by
  unfold execOp
  simp only [ho, hx, hy, Sem.run_bind, guard51, neq51 l l' h1 h2, Result.andThen_ok, Sem.run_pure]
set_option maxHeartbeats 1000000 in
/-- The loop. -/
theorem differ_two (g k : Nat) (s t : Nat → List Nat) (hs : Okr s) (ht : Okr t) (w : World) (h : AryAt w g s) (h' : AryAt w k t) :
    Calls Try.prog 16 #[.pointer (some ⟨g, 0, none⟩), .pointer (some ⟨k, 0, none⟩)] w fun e w' => ∃ v, e = .returned v ∧ Ow w' w.heap.size v (dif s t 24) ∧ Chg (fun _ => False) w w' := by
  have HA := hyd h
  have HB := hyd h'
  have HS := hyd hs
  have HT := hyd ht
  clear h h' hs ht
  go_enter Try.func16, Try.ntmps16
  go_wp2_with fail
  go_loopg [5, 6, 10] 24 (fun kx s5 s6 s10 wr => ∃ i : Nat, s10 = .int .i64 i ∧ i ≤ 24 ∧ 24 - i ≤ kx ∧ Hid (Ow wr w.heap.size s5 (dif s t i)) ∧ Hid (Chg (fun _ => False) w wr))
  case atStart => exact ⟨0, rfl, by omega, by omega, Ow.nil _ _, Chg.refl _ _⟩
  case round =>
  obtain ⟨i, rfl, hin, hkx, HO, HG⟩ := hrel
  by_cases hlt : i < 24
  · have hltz : (i : Int) < 24 := by omega
    go_wp2_with fail
    refine wp_region_quiet (C := fun W => Chg (fun _ => False) wr W) (by kernel_rfl) (by kernel_rfl) (Chg.refl _ wr).drew ?_
    refine wpQuiet_step (fun K hK => ?_)
    refine quiet_val rfl _ (fun _ _ => rfl) ?_
    go_simp
    refine hK _ ?_
    clear hK K
    refine wpQuiet_step (fun K hK => ?_)
    refine quiet_val rfl _ (fun _ _ => rfl) ?_
    go_simp
    refine hK _ ?_
    clear hK K
    refine wpQuiet_step (fun K hK => ?_)
    refine quiet_val rfl (.pointer (some ⟨g, 0, none⟩)) (fun _ _ => exec_nil rfl rfl) ?_
    go_simp
    refine hK _ ?_
    clear hK K
    refine wpQuiet_step (fun K hK => ?_)
    refine quiet_val rfl (.pointer (some ⟨g, 0, none⟩)) (fun _ _ => exec_field rfl rfl) ?_
    go_simp
    refine hK _ ?_
    clear hK K
    refine wpQuiet_step (fun K hK => ?_)
    refine quiet_val rfl (.pointer (some ⟨g, i * 160, none⟩)) (fun _ _ => exec_index hlt rfl rfl rfl) ?_
    go_simp
    refine hK _ ?_
    clear hK K
    refine wpQuiet_step (fun K hK => ?_)
    refine quiet_val rfl (.agg (bcells (s i))) (fun W hW => exec_load51 (Sto.chg HA.out (HG.out.trans hW) (fun f => f)) HS.out hlt rfl rfl) ?_
    go_simp
    refine hK _ ?_
    clear hK K
    refine wpQuiet_step (fun K hK => ?_)
    refine quiet_val rfl _ (fun _ _ => rfl) ?_
    go_simp
    refine hK _ ?_
    clear hK K
    refine wpQuiet_step (fun K hK => ?_)
    refine quiet_val rfl _ (fun _ _ => rfl) ?_
    go_simp
    refine hK _ ?_
    clear hK K
    refine wpQuiet_step (fun K hK => ?_)
    refine quiet_val rfl (.pointer (some ⟨k, 0, none⟩)) (fun _ _ => exec_nil rfl rfl) ?_
    go_simp
    refine hK _ ?_
    clear hK K
    refine wpQuiet_step (fun K hK => ?_)
    refine quiet_val rfl (.pointer (some ⟨k, 0, none⟩)) (fun _ _ => exec_field rfl rfl) ?_
    go_simp
    refine hK _ ?_
    clear hK K
    refine wpQuiet_step (fun K hK => ?_)
    refine quiet_val rfl (.pointer (some ⟨k, i * 160, none⟩)) (fun _ _ => exec_index hlt rfl rfl rfl) ?_
    go_simp
    refine hK _ ?_
    clear hK K
    refine wpQuiet_step (fun K hK => ?_)
    refine quiet_val rfl (.agg (bcells (t i))) (fun W hW => exec_load51 (Sto.chg HB.out (HG.out.trans hW) (fun f => f)) HT.out hlt rfl rfl) ?_
    go_simp
    refine hK _ ?_
    clear hK K
    refine wpQuiet_step (fun K hK => ?_)
    refine quiet_val rfl (.bool (!decide (s i = t i))) (fun W hW => exec_neq51 (HS.out.len i) (HT.out.len i) rfl rfl rfl) ?_
    go_simp
    refine hK _ ?_
    clear hK K
    refine wpQuiet_nil fun w1 hW => ?_
    have HG1 := hyd (HG.out.trans hW)
    have HO1 := hyd (HO.out.new hW)
    have HE := hyd (dif_succ s t i)
    have HL := hyd (dif_length s t i)
    clear hW HG HO
    by_cases e : s i = t i
    · have hd : decide (s i = t i) = true := by simpa using e
      have HE2 : Hid (dif s t (i + 1) = dif s t i) := HE.out.trans (if_pos e)
      rw [hd]
      clear e hd HE
      generalize bcells (s i) = A at *
      generalize bcells (t i) = B at *
      go_wp2
      go_roundg (24 - (i + 1))
      case measure => omega
      case rel => exact ⟨i + 1, by simp, by omega, Nat.le_refl _, by show Ow _ _ _ _; rw [HE2.out]; exact HO1.out, HG1⟩
    · have hd : decide (s i = t i) = false := by simpa using e
      have HE2 : Hid (dif s t (i + 1) = dif s t i ++ [(i : Int)]) := HE.out.trans (if_neg e)
      rw [hd]
      clear e hd HE
      generalize bcells (s i) = A at *
      generalize bcells (t i) = B at *
      have HO2 := hyd (HO1.out.new ((Chg.refl (fun _ => False) w1).alloc (.cells #[.int .i64 i] 3)))
      have HB1 : Hid (w.heap.size ≤ (w1.alloc (.cells #[.int .i64 i] 3)).heap.size) := by have := HG1.out.size; show _ ≤ _; simp; omega
      have HC1 : Hid ((w1.alloc (.cells #[.int .i64 i] 3)).cell? ⟨w1.heap.size, 0, none⟩ = some (.int .i64 i)) := by show _ = _; simp
      have HG2 := hyd (HG1.out.alloc (.cells #[.int .i64 i] 3))
      go_wp2_with (first | (refine wpList_append_i _ rfl (.tmp 26) (.tmp 28) rfl w.heap.size _ (dif s t i) rfl w1.heap.size (i : Int) rfl ?_ ?_ (by have := HL.out; omega) ?_ ?_; exact HO2.out; exact HC1.out; exact HB1.out))
      intro v' w2 O2 G2
      have HO3 := hyd O2
      have HG3 : Hid (Chg (fun _ => False) w w2) := HG2.out.trans' G2 fun j hj e => by have := HO1.out.block e; omega
      clear O2 G2 HO2 HB1 HC1 HG2
      go_wp2
      go_roundg (24 - (i + 1))
      case measure => omega
      case rel => exact ⟨i + 1, by simp, by omega, Nat.le_refl _, by show Ow _ _ _ _; rw [HE2.out]; exact HO3.out, HG3⟩
  · have hltz : ¬ (i : Int) < 24 := by omega
    have h24 : i = 24 := by omega
    subst h24
    go_wp2
    go_ret
    exact ⟨_, rfl, HO.out, HG.out⟩
theorem Ow.mono {w : World} {base base' : Nat} {v : Value} {l : List Int} (h : Ow w base v l) (hb : base' ≤ base) : Ow w base' v l := by
  refine ⟨h.1, ?_⟩
  rcases h.2 with h1 | ⟨g, cap, cur, rfl, hg, r⟩
  · exact Or.inl h1
  · exact Or.inr ⟨g, cap, cur, rfl, by omega, r⟩
set_option maxHeartbeats 1000000 in
/-- The same, of no other array. -/
theorem differ_nil (g : Nat) (s : Nat → List Nat) (hs : Okr s) (w : World) (h : AryAt w g s) :
    Calls Try.prog 16 #[.pointer (some ⟨g, 0, none⟩), .pointer none] w fun e w' => ∃ v, e = .returned v ∧ Ow w' w.heap.size v (dif s zA 24) ∧ Chg (fun _ => False) w w' := by
  have HA := hyd h
  have HS := hyd hs
  have HT := hyd zA_ok
  clear h hs
  generalize htt : zA = t at *
  have HTT := hyd htt
  clear htt
  go_enter Try.func16, Try.ntmps16
  go_wp2_with (go_at_call 6; refine (anew_any w).mono ?_; rintro e w0 ⟨rfl, hB, hG0, -⟩)
  rw [HTT.out] at hB
  have HB := hyd hB
  have HG0 := hyd hG0
  have HA0 := hyd (Sto.chg HA.out hG0 (fun f => f))
  clear hB hG0 HTT HA
  generalize w.heap.size = k at *
  go_loopg [5, 6, 10] 24 (fun kx s5 s6 s10 wr => ∃ i : Nat, s10 = .int .i64 i ∧ i ≤ 24 ∧ 24 - i ≤ kx ∧ Hid (Ow wr w0.heap.size s5 (dif s t i)) ∧ Hid (Chg (fun _ => False) w0 wr))
  case atStart => exact ⟨0, rfl, by omega, by omega, Ow.nil _ _, Chg.refl _ _⟩
  case round =>
  obtain ⟨i, rfl, hin, hkx, HO, HG⟩ := hrel
  by_cases hlt : i < 24
  · have hltz : (i : Int) < 24 := by omega
    go_wp2_with fail
    refine wp_region_quiet (C := fun W => Chg (fun _ => False) wr W) (by kernel_rfl) (by kernel_rfl) (Chg.refl _ wr).drew ?_
    refine wpQuiet_step (fun K hK => ?_)
    refine quiet_val rfl _ (fun _ _ => rfl) ?_
    go_simp
    refine hK _ ?_
    clear hK K
    refine wpQuiet_step (fun K hK => ?_)
    refine quiet_val rfl _ (fun _ _ => rfl) ?_
    go_simp
    refine hK _ ?_
    clear hK K
    refine wpQuiet_step (fun K hK => ?_)
    refine quiet_val rfl (.pointer (some ⟨g, 0, none⟩)) (fun _ _ => exec_nil rfl rfl) ?_
    go_simp
    refine hK _ ?_
    clear hK K
    refine wpQuiet_step (fun K hK => ?_)
    refine quiet_val rfl (.pointer (some ⟨g, 0, none⟩)) (fun _ _ => exec_field rfl rfl) ?_
    go_simp
    refine hK _ ?_
    clear hK K
    refine wpQuiet_step (fun K hK => ?_)
    refine quiet_val rfl (.pointer (some ⟨g, i * 160, none⟩)) (fun _ _ => exec_index hlt rfl rfl rfl) ?_
    go_simp
    refine hK _ ?_
    clear hK K
    refine wpQuiet_step (fun K hK => ?_)
    refine quiet_val rfl (.agg (bcells (s i))) (fun W hW => exec_load51 (Sto.chg HA0.out (HG.out.trans hW) (fun f => f)) HS.out hlt rfl rfl) ?_
    go_simp
    refine hK _ ?_
    clear hK K
    refine wpQuiet_step (fun K hK => ?_)
    refine quiet_val rfl _ (fun _ _ => rfl) ?_
    go_simp
    refine hK _ ?_
    clear hK K
    refine wpQuiet_step (fun K hK => ?_)
    refine quiet_val rfl _ (fun _ _ => rfl) ?_
    go_simp
    refine hK _ ?_
    clear hK K
    refine wpQuiet_step (fun K hK => ?_)
    refine quiet_val rfl (.pointer (some ⟨k, 0, none⟩)) (fun _ _ => exec_nil rfl rfl) ?_
    go_simp
    refine hK _ ?_
    clear hK K
    refine wpQuiet_step (fun K hK => ?_)
    refine quiet_val rfl (.pointer (some ⟨k, 0, none⟩)) (fun _ _ => exec_field rfl rfl) ?_
    go_simp
    refine hK _ ?_
    clear hK K
    refine wpQuiet_step (fun K hK => ?_)
    refine quiet_val rfl (.pointer (some ⟨k, i * 160, none⟩)) (fun _ _ => exec_index hlt rfl rfl rfl) ?_
    go_simp
    refine hK _ ?_
    clear hK K
    refine wpQuiet_step (fun K hK => ?_)
    refine quiet_val rfl (.agg (bcells (t i))) (fun W hW => exec_load51 (Sto.chg HB.out (HG.out.trans hW) (fun f => f)) HT.out hlt rfl rfl) ?_
    go_simp
    refine hK _ ?_
    clear hK K
    refine wpQuiet_step (fun K hK => ?_)
    refine quiet_val rfl (.bool (!decide (s i = t i))) (fun W hW => exec_neq51 (HS.out.len i) (HT.out.len i) rfl rfl rfl) ?_
    go_simp
    refine hK _ ?_
    clear hK K
    refine wpQuiet_nil fun w1 hW => ?_
    have HG1 := hyd (HG.out.trans hW)
    have HO1 := hyd (HO.out.new hW)
    have HE := hyd (dif_succ s t i)
    have HL := hyd (dif_length s t i)
    clear hW HG HO
    by_cases e : s i = t i
    · have hd : decide (s i = t i) = true := by simpa using e
      have HE2 : Hid (dif s t (i + 1) = dif s t i) := HE.out.trans (if_pos e)
      rw [hd]
      clear e hd HE
      generalize bcells (s i) = A at *
      generalize bcells (t i) = B at *
      go_wp2
      go_roundg (24 - (i + 1))
      case measure => omega
      case rel => exact ⟨i + 1, by simp, by omega, Nat.le_refl _, by show Ow _ _ _ _; rw [HE2.out]; exact HO1.out, HG1⟩
    · have hd : decide (s i = t i) = false := by simpa using e
      have HE2 : Hid (dif s t (i + 1) = dif s t i ++ [(i : Int)]) := HE.out.trans (if_neg e)
      rw [hd]
      clear e hd HE
      generalize bcells (s i) = A at *
      generalize bcells (t i) = B at *
      have HO2 := hyd (HO1.out.new ((Chg.refl (fun _ => False) w1).alloc (.cells #[.int .i64 i] 3)))
      have HB1 : Hid (w0.heap.size ≤ (w1.alloc (.cells #[.int .i64 i] 3)).heap.size) := by have := HG1.out.size; show _ ≤ _; simp; omega
      have HC1 : Hid ((w1.alloc (.cells #[.int .i64 i] 3)).cell? ⟨w1.heap.size, 0, none⟩ = some (.int .i64 i)) := by show _ = _; simp
      have HG2 := hyd (HG1.out.alloc (.cells #[.int .i64 i] 3))
      go_wp2_with (first | (refine wpList_append_i _ rfl (.tmp 26) (.tmp 28) rfl w0.heap.size _ (dif s t i) rfl w1.heap.size (i : Int) rfl ?_ ?_ (by have := HL.out; omega) ?_ ?_; exact HO2.out; exact HC1.out; exact HB1.out))
      intro v' w2 O2 G2
      have HO3 := hyd O2
      have HG3 : Hid (Chg (fun _ => False) w0 w2) := HG2.out.trans' G2 fun j hj e => by have := HO1.out.block e; omega
      clear O2 G2 HO2 HB1 HC1 HG2
      go_wp2
      go_roundg (24 - (i + 1))
      case measure => omega
      case rel => exact ⟨i + 1, by simp, by omega, Nat.le_refl _, by show Ow _ _ _ _; rw [HE2.out]; exact HO3.out, HG3⟩
  · have hltz : ¬ (i : Int) < 24 := by omega
    have h24 : i = 24 := by omega
    subst h24
    go_wp2
    go_ret
    exact ⟨_, rfl, HO.out.mono HG0.out.size, HG0.out.trans HG.out⟩
theorem ints_v (w : World) (v v' : Value) (l : List Int) (base base' : Nat) (hl : l.length ≤ 24) (h : Ow w base v l) (h' : Ow w base' v' l) :
    Calls Try.prog 28 #[v, v'] w fun e w' => e = .returned (.bool true) ∧ Chg (fun _ => False) w w' := by
  obtain ⟨a, c, rfl⟩ := h.form
  obtain ⟨a', c', rfl⟩ := h'.form
  have HO := hyd h
  have HO' := hyd h'
  have HL := hyd hl
  clear h h' hl
  generalize hn : l.length = n at *
  have HN := hyd hn
  clear hn
  go_enter Try.func28, Try.ntmps28
  go_wp2_with fail
  go_loopg [5] 24 (fun kx s5 wr => ∃ i : Nat, s5 = .int .i64 i ∧ i ≤ n ∧ 24 - i ≤ kx ∧ Hid (∃ m, wr = w.drewN m))
  case atStart => exact ⟨0, rfl, by omega, by omega, ⟨0, rfl⟩⟩
  case round =>
  obtain ⟨i, rfl, hin, hkx, HG⟩ := hrel
  obtain ⟨m, rfl⟩ := HG.out
  by_cases hlt : i < n
  · have hltz : (i : Int) < n := by omega
    have hn24 := HL.out
    obtain ⟨g1, cap1, e1, -, -, c1, -⟩ := HO.out.lies (by rw [HN.out]; omega)
    obtain ⟨g2, cap2, e2, -, -, c2, -⟩ := HO'.out.lies (by rw [HN.out]; omega)
    have d1 := c1 i (by rw [HN.out]; exact hlt)
    have d2 := c2 i (by rw [HN.out]; exact hlt)
    injection e1 with e3 e4 e5
    injection e2 with e6 e7 e8
    subst e3 e6
    have hb : (l.getD i 0 != l.getD i 0) = false := by simp
    generalize l.getD i 0 = z at *
    clear e4 e5 e7 e8 c1 c2 HG
    go_wp2_with fail
    go_quiet (fail)
    go_wp2
    go_roundg (24 - (i + 1))
    case measure => omega
    case rel => exact ⟨i + 1, by simp, by omega, Nat.le_refl _, ⟨_, rfl⟩⟩
  · have hltz : ¬ (i : Int) < n := by omega
    go_wp2
    go_ret
    exact ⟨rfl, (Chg.refl _ _).drewN _⟩
end Go.Proofs.Ythpjdnfalecbeaa
