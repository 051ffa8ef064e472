/-
  The law ClaimLives, walked. Condition: the founds came in with their reach.
-/
import Derived.Test.YtjkpidhpjleebaaRLiv
namespace Go.Proofs.Ytjkpidhpjleebaa
set_option maxRecDepth 100000
open Go.RowKit Go.Sort

theorem plain3 : Try.prog.plainKey 3 = true := by kernel_rfl
theorem cells3 : Try.prog.cellsOf 3 = 1 := by kernel_rfl
theorem info3 : ∃ i, Try.prog.info? 3 = some i := Option.isSome_iff_exists.1 (by kernel_rfl)
theorem items_int (d : Nat) (A : Array Value) (w : World) (is : List Nat) (hin : ∀ i ∈ is, ∃ z, A[i]? = some (.int .i64 z)) :
    (Op.eqItems (d + 1) 3 1 A A is).run Try.prog w = .ok true w := by
  induction is with
  | nil => simp [Op.eqItems]
  | cons i is ih =>
    have ih := ih (fun j hj => hin j (by simp [hj]))
    obtain ⟨z, hz⟩ := hin i (by simp)
    have p1 := run_part_plain (P := Try.prog) w plain3 (xs := A) (off := i * 1) (by rw [Nat.mul_one]; exact hz)
    have p3 := run_equalIn_int (P := Try.prog) w d 3 .i64 .i64 z z Try.underlying3
    simp only [Op.eqItems, Sem.run_bind, p1, p3, Result.andThen_ok, beq_self_eq_true]
    simpa using ih
theorem eq_ints37 (d : Nat) (w : World) (f : Nat → Int) : (Op.equalIn (d + 2) 37 (.agg (ints f 25).toArray) (.agg (ints f 25).toArray)).run Try.prog w = .ok true w := by
  obtain ⟨i, hi⟩ := info3
  rw [run_equalIn_array w (d + 1) _ _ Try.underlying37 hi, cells3]
  refine items_int d _ w _ (fun i hi => ⟨f i, ?_⟩)
  have := ints_at f 25 i (List.mem_range.1 hi)
  simpa [i6] using this
theorem eql_25 (w : World) (f : Nat → Int) : (binOp .eql 37 (.agg (ints f 25).toArray) (.agg (ints f 25).toArray)).run Try.prog w = .ok (.bool true) w := by
  rw [run_eql_struct, show (10000 : Nat) = 9998 + 2 from rfl, eq_ints37]; rfl
theorem neq_25 (w : World) (f : Nat → Int) : (binOp .neq 37 (.agg (ints f 25).toArray) (.agg (ints f 25).toArray)).run Try.prog w = .ok (.bool false) w := by
  rw [run_neq_struct, show (10000 : Nat) = 9998 + 2 from rfl, eq_ints37]; rfl
theorem guard_25 (w : World) (op : BinOp) (x y : Operand) (xs ys : Array Value) : (eqGuard op 37 x y (.agg xs) (.agg ys)).run Try.prog w = .ok () w := run_eqGuard_agg w op 37 x y xs ys (by kernel_rfl)
theorem quiet_val {P : Program} {ops : Array Oper} {C : World → Prop} {K : Act → Prop} {a : Act} {o : Oper} (hw : Region.wanted o (yielded ops a.tmps) = true) (v : Value) (h : ∀ w, C w → (execOp a.eval o).run P w = .ok (.value v) w) (next : K (a.put o.dst v)) : if Region.wanted o (yielded ops a.tmps) then o.quiet P a C K else K (a.put o.dst undef) := by
  rw [if_pos hw]
  refine ⟨v, fun w hc => ?_, next⟩
  unfold Oper.quietAt
  rw [h w hc]
  exact ⟨rfl, rfl⟩
theorem quiet_call {P : Program} {ops : Array Oper} {C : World → Prop} {K : Act → Prop} {a : Act} {o : Oper} (hw : Region.wanted o (yielded ops a.tmps) = true) (v : Value) (f : FuncId) (args : Array Value) (h : ∀ w, C w → (execOp a.eval o).run P w = .ok (.enter f args) w)
    (hc : ∀ w, C w → Calls P f args w fun e w' => e = .returned v ∧ C w') (next : K (a.put o.dst v)) : if Region.wanted o (yielded ops a.tmps) then o.quiet P a C K else K (a.put o.dst undef) := by
  rw [if_pos hw]
  refine ⟨v, fun w hw' => ?_, next⟩
  unfold Oper.quietAt
  rw [h w hw']
  exact ⟨rfl, hc w hw'⟩
theorem enters13 : ∀ args w, (callFunc 13 args).run Try.prog w = .ok (.enter 13 args) w := enters_of Try.func13 (by kernel_rfl) rfl
theorem enters14 : ∀ args w, (callFunc 14 args).run Try.prog w = .ok (.enter 14 args) w := enters_of Try.func14 (by kernel_rfl) rfl
theorem exec_load_ck {o : Oper} {a : Act} {w : World} {x : Operand} {g : Nat} {c : Ckp} (ho : o.op = .load 36 x) (hx : a.eval x = .pointer (some ⟨g, 0, none⟩)) (hg : Ck w g c) : (execOp a.eval o).run Try.prog w = .ok (.value (.agg (ckA c))) w := by
  unfold execOp
  simp only [ho, hx, Instr.loadAt, Instr.sureAddr, Sem.run_bind, Sem.run_pure, Result.andThen_ok, run_loadVar_row w g 36 36 _ _ _ hg Try.underlying36 rfl (by rw [ckA_size]; exact size36)]
theorem exec_call2 {o : Oper} {a : Act} {w : World} {x y : Operand} {f : FuncId} {ts : Array TypeId} (he : ∀ args w, (callFunc f args).run Try.prog w = .ok (.enter f args) w) (ho : o.op = .call { callee := .value (.func f), args := #[x, y], argTypes := ts }) {u v : Value} (hx : a.eval x = u) (hy : a.eval y = v) : (execOp a.eval o).run Try.prog w = .ok (.enter f #[u, v]) w := by
  subst hx hy
  unfold execOp
  simp [ho, resolve, invoke, Act.eval, he, go_sem]
theorem exec_eql_25 {o : Oper} {a : Act} {w : World} {x y : Operand} {t : TypeId} {F : Nat → Int} (ho : o.op = .binOp .eql 37 x y t) (hx : a.eval x = .agg (ints F 25).toArray) (hy : a.eval y = .agg (ints F 25).toArray) : (execOp a.eval o).run Try.prog w = .ok (.value (.bool true)) w := by
  unfold execOp
  simp only [ho, hx, hy, Sem.run_bind, guard_25, eql_25, Result.andThen_ok, Sem.run_pure]

set_option maxHeartbeats 4000000 in
theorem lives_walk (a : Option Addr) (n cap : Nat) (l : List Fnd) (hnl : n = l.length) (c : Ckp) (w : World) (hs : Sl w (.slice a n cap) l) (hn : n < 2932031007402) :
    Calls Try.prog 5 #[.slice a n cap, .agg (ckA c)] w fun e w' => e = .returned (.bool true) ∧ Below w.heap.size w w' := by
  have HN := hyd hnl
  have HK0 := hyd (Ck.new w c)
  have HG0 : Hid (Chg (fun _ => False) w (w.alloc (.cells (ckA c) 36))) := (Chg.refl _ w).alloc _
  have HS0 := hyd (hs.new HG0.out)
  clear hs hnl
  go_enter Try.func5, Try.ntmps5
  go_wp2_with (go_at_call 8; refine (up_any _).mono ?_; rintro e w2 ⟨rfl, G2⟩; have HK2 := hyd (HK0.out.chg G2 (fun h => h)); have HS2 := hyd (HS0.out.new G2); have HG2 := hyd (HG0.out.trans G2); clear G2)
  refine wp_region_quiet (C := fun W => Chg (fun _ => False) w2 W) (by kernel_rfl) (by kernel_rfl) (Chg.refl _ w2).drew ?_
  refine wpQuiet_step (fun K hK => ?_)
  refine quiet_val rfl _ (fun _ _ => rfl) ?_
  go_simp
  refine hK _ ?_
  clear hK K
  refine wpQuiet_step (fun K hK => ?_)
  refine quiet_val rfl _ (fun _ _ => rfl) ?_
  go_simp
  refine hK _ ?_
  clear hK K
  refine wpQuiet_step (fun K hK => ?_)
  refine quiet_val rfl _ (fun _ _ => rfl) ?_
  go_simp
  refine hK _ ?_
  clear hK K
  refine wpQuiet_step (fun K hK => ?_)
  refine quiet_val rfl (.agg (ckA c)) (fun W hW => exec_load_ck rfl rfl (HK2.out.chg hW (fun h => h))) ?_
  go_simp
  refine hK _ ?_
  clear hK K
  refine wpQuiet_step (fun K hK => ?_)
  refine quiet_call rfl (.agg (ints (lv l c) 25).toArray) 13 #[.slice a n cap, .agg (ckA c)] (fun W hW => exec_call2 enters13 rfl rfl rfl) (fun W hW => (live_any W a cap l n HN.out c (HS2.out.new hW) hn).mono fun _ _ ⟨h1, h2⟩ => ⟨h1, hW.trans h2⟩) ?_
  go_simp
  refine hK _ ?_
  clear hK K
  refine wpQuiet_step (fun K hK => ?_)
  refine quiet_val rfl _ (fun _ _ => rfl) ?_
  go_simp
  refine hK _ ?_
  clear hK K
  refine wpQuiet_step (fun K hK => ?_)
  refine quiet_val rfl (.agg (ckA c)) (fun W hW => exec_load_ck rfl rfl (HK2.out.chg hW (fun h => h))) ?_
  go_simp
  refine hK _ ?_
  clear hK K
  refine wpQuiet_step (fun K hK => ?_)
  refine quiet_call rfl (.agg (ints (lv l c) 25).toArray) 14 #[.slice a n cap, .agg (ckA c)] (fun W hW => exec_call2 enters14 rfl rfl rfl) (fun W hW => (rlive_any W a cap l n HN.out c (HS2.out.new hW) hn).mono fun _ _ ⟨h1, h2⟩ => ⟨h1, hW.trans h2⟩) ?_
  go_simp
  refine hK _ ?_
  clear hK K
  refine wpQuiet_step (fun K hK => ?_)
  refine quiet_val rfl (.bool true) (fun W hW => exec_eql_25 rfl rfl rfl) ?_
  go_simp
  refine hK _ ?_
  clear hK K
  refine wpQuiet_step (fun K hK => ?_)
  refine quiet_val rfl _ (fun _ _ => rfl) ?_
  go_simp
  refine hK _ ?_
  clear hK K
  refine wpQuiet_step (fun K hK => ?_)
  refine quiet_val rfl _ (fun _ _ => rfl) ?_
  go_simp
  refine hK _ ?_
  clear hK K
  refine wpQuiet_nil fun W hW => ?_
  have HG3 := hyd (HG2.out.trans hW)
  clear hW
  go_wp2
  go_ret
  exact ⟨rfl, HG3.out.below (fun _ h => h.elim) (Nat.le_refl _)⟩
end Go.Proofs.Ytjkpidhpjleebaa
