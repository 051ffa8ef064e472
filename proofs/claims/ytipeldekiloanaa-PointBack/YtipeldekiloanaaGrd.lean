/-
  Loads and builds of checkpoints under a guard. No condition: lemmas.
-/
import Derived.Test.YtipeldekiloanaaUps
namespace Go.Proofs.Ytipeldekiloanaa
open Go.RowKit
set_option maxRecDepth 100000

theorem wpList_load_ckg {ops : Array Oper} {rest : List Oper} {o : Oper} {a : Act} {w : World} {Q : Exit → Act → World → Prop} (hw : Region.wanted o (yielded ops a.tmps) = true) (x : Operand) (ho : o.op = .load 26 x)
    (g : Nat) (hx : a.eval x = .pointer (some ⟨g, 0, none⟩)) {c : Ckp} (hg : Ck w g c)
    (h : wpList Try.prog ops Q rest (a.put o.dst (.agg (ckA c))) w) : wpList Try.prog ops Q (o :: rest) a w :=
  wpList_step fun _ hK => by
    rw [if_pos hw]
    exact wp_load_row 26 x ho g hx 26 _ _ _ hg Try.underlying26 rfl (by rw [ckA_size]; exact size26) (hK _ _ h)
theorem wpList_build_ckg {ops : Array Oper} {rest : List Oper} {o : Oper} {a : Act} {w : World} {Q : Exit → Act → World → Prop} (hw : Region.wanted o (yielded ops a.tmps) = true) (ho : o.op = .build 26 #[])
    (h : wpList Try.prog ops Q rest (a.put o.dst (.agg (ckA ck0))) w) : wpList Try.prog ops Q (o :: rest) a w := by
  refine wpList_step fun K hK => ?_
  rw [if_pos hw]
  have hz := build26
  unfold Oper.wp
  simp [execOp, ho, hz]
  exact hK _ _ h
theorem guard_ck (w : World) (op : BinOp) (x y : Operand) (xs ys : Array Value) : (eqGuard op 26 x y (.agg xs) (.agg ys)).run Try.prog w = .ok () w := run_eqGuard_agg w op 26 x y xs ys (by kernel_rfl)
end Go.Proofs.Ytipeldekiloanaa
