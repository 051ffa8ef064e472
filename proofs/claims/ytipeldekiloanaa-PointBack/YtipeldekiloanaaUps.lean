/-
  The example at the head of all statements, walked. No condition.
-/
import Derived.Test.YtipeldekiloanaaEql
namespace Go.Proofs.Ytipeldekiloanaa
open Go.RowKit
set_option maxRecDepth 100000

def cu0 : Ckp := { ck0 with N := 3, C := 95 }
theorem build26u (w : World) : (Instr.build 26 #[(1, .int .i64 3), (3, .int .i64 95)]).run Try.prog w = .ok (.agg (ckA cu0)) w := by kernel_rfl
theorem wpList_build_cu {ops : Array Oper} {rest : List Oper} {o : Oper} {a : Act} {w : World} {Q : Exit → Act → World → Prop} (hgd : o.guard = none) (ho : o.op = .build 26 #[(1, .const (.int .i64 3)), (3, .const (.int .i64 95))])
    (h : wpList Try.prog ops Q rest (a.put o.dst (.agg (ckA cu0))) w) : wpList Try.prog ops Q (o :: rest) a w := by
  refine wpList_plain hgd fun K hK => ?_
  have hz := build26u
  unfold Oper.wp
  simp [execOp, ho, Act.eval, hz]
  exact hK _ _ h
def cu1 : Ckp := { cu0 with F := upd cu0.F 1 258 }
def cu2 : Ckp := { cu1 with B := upd cu1.B 0 true }
def cu3 : Ckp := { cu2 with B := upd cu2.B 11 true }
def cu4 : Ckp := { cu3 with R := upd cu3.R 11 512 }
def cu5 : Ckp := { cu4 with S := upd cu4.S 0 2 }
theorem cu_ok : Okc cu5 := by
  refine ⟨by decide, (fits_iff cu5).2 ⟨?_, by decide, by decide, ?_, ?_⟩⟩ <;> decide
theorem cu_bytes : (wrL cu5).getD 5 0 = 2 ∧ (wrL cu5).getD 6 0 = 1 ∧ (wrL cu5).getD 120 0 = 3 ∧ (wrL cu5).getD 125 0 = 1 ∧ (wrL cu5).getD 126 0 = 8 ∧ (wrL cu5).getD 127 0 = 95 ∧ (wrL cu5).getD 151 0 = 2 ∧ (wrL cu5).getD 152 0 = 2 := by
  simp only [wrL_at]
  decide

set_option maxHeartbeats 4000000 in
theorem up_any (w : World) : Calls Try.prog 6 #[] w fun e w' => e = .returned (.bool true) ∧ Chg (fun _ => False) w w' := by
  have HK := hyd (Ck.new w ck0)
  have HG : Hid (Chg (fun _ => False) w (w.alloc (.cells (ckA ck0) 26))) := hyd ((Chg.refl _ w).alloc _)
  have q1 := eql_nil_nil
  go_enter Try.func6, Try.ntmps6
  go_wp2_with (first | refine wpList_alloc_ck rfl rfl ?_ | refine wpList_build_cu rfl rfl ?_ | refine wpList_store_ck rfl (.tmp 1) (.tmp 4) rfl w.heap.size rfl rfl HK.out ?_)
  intro w1 K1 G1
  have HG1 : Hid (Chg (fun _ => False) w w1) := hyd (HG.out.trans' G1 (fun i hi hh => by omega))
  have K2 : Ck (w1.setCell ⟨w.heap.size, 1, none⟩ (.int .i64 258)) w.heap.size cu1 := K1.setF 1 (by decide) 258
  have K3 : Ck ((w1.setCell ⟨w.heap.size, 1, none⟩ (.int .i64 258)).setCell ⟨w.heap.size, 25, none⟩ (.bool true)) w.heap.size cu2 := K2.setB 0 (by decide) true
  have K4 : Ck (((w1.setCell ⟨w.heap.size, 1, none⟩ (.int .i64 258)).setCell ⟨w.heap.size, 25, none⟩ (.bool true)).setCell ⟨w.heap.size, 36, none⟩ (.bool true)) w.heap.size cu3 := K3.setB 11 (by decide) true
  have K5 : Ck ((((w1.setCell ⟨w.heap.size, 1, none⟩ (.int .i64 258)).setCell ⟨w.heap.size, 25, none⟩ (.bool true)).setCell ⟨w.heap.size, 36, none⟩ (.bool true)).setCell ⟨w.heap.size, 49, none⟩ (.int .i64 512)) w.heap.size cu4 := K4.setR 11 (by decide) 512
  have K6 : Ck (((((w1.setCell ⟨w.heap.size, 1, none⟩ (.int .i64 258)).setCell ⟨w.heap.size, 25, none⟩ (.bool true)).setCell ⟨w.heap.size, 36, none⟩ (.bool true)).setCell ⟨w.heap.size, 49, none⟩ (.int .i64 512)).setCell ⟨w.heap.size, 50, none⟩ (.int .i64 2)) w.heap.size cu5 := K5.setS 0 (by decide) 2
  have HG6 : Hid (Chg (fun _ => False) w (((((w1.setCell ⟨w.heap.size, 1, none⟩ (.int .i64 258)).setCell ⟨w.heap.size, 25, none⟩ (.bool true)).setCell ⟨w.heap.size, 36, none⟩ (.bool true)).setCell ⟨w.heap.size, 49, none⟩ (.int .i64 512)).setCell ⟨w.heap.size, 50, none⟩ (.int .i64 2))) := hyd (((((HG1.out.setCell (Or.inr (Nat.le_refl _)) _ _).setCell (Or.inr (Nat.le_refl _)) _ _).setCell (Or.inr (Nat.le_refl _)) _ _).setCell (Or.inr (Nat.le_refl _)) _ _).setCell (Or.inr (Nat.le_refl _)) _ _)
  have c1 : w1.cell? ⟨w.heap.size, 1, none⟩ = some (.int .i64 0) := K1.F 1 (by decide)
  have c2 : (w1.setCell ⟨w.heap.size, 1, none⟩ (.int .i64 258)).cell? ⟨w.heap.size, 25, none⟩ = some (.bool false) := K2.B 0 (by decide)
  have c3 : ((w1.setCell ⟨w.heap.size, 1, none⟩ (.int .i64 258)).setCell ⟨w.heap.size, 25, none⟩ (.bool true)).cell? ⟨w.heap.size, 36, none⟩ = some (.bool false) := K3.B 11 (by decide)
  have c4 : (((w1.setCell ⟨w.heap.size, 1, none⟩ (.int .i64 258)).setCell ⟨w.heap.size, 25, none⟩ (.bool true)).setCell ⟨w.heap.size, 36, none⟩ (.bool true)).cell? ⟨w.heap.size, 49, none⟩ = some (.int .i64 0) := K4.R 11 (by decide)
  have c5 : ((((w1.setCell ⟨w.heap.size, 1, none⟩ (.int .i64 258)).setCell ⟨w.heap.size, 25, none⟩ (.bool true)).setCell ⟨w.heap.size, 36, none⟩ (.bool true)).setCell ⟨w.heap.size, 49, none⟩ (.int .i64 512)).cell? ⟨w.heap.size, 50, none⟩ = some (.int .i64 0) := K5.S 0 (by decide)
  have f1 := K1.frozen 1
  have f2 := K2.frozen 25
  have f3 := K3.frozen 36
  have f4 := K4.frozen 49
  have f5 := K5.frozen 50
  have HK6 := hyd K6
  clear K1 K2 K3 K4 K5 K6 G1 HG HK HG1
  go_wp2_with (refine wpList_load_ck rfl (.tmp 1) rfl w.heap.size rfl (c := cu5) ?_ ?_; exact HK6.out)
  refine (write_yes _ cu5 cu_ok).mono ?_
  rintro e w2 ⟨g, rfl, hg, A2, G2⟩
  have HG2 := hyd (HG6.out.trans G2)
  obtain ⟨y1, y2, y3, y4, y5, y6, y7, y8⟩ := cu_bytes
  have d1 := A2.cell 5 (by rw [wrL_length]; decide)
  have d2 := A2.cell 6 (by rw [wrL_length]; decide)
  have d3 := A2.cell 120 (by rw [wrL_length]; decide)
  have d4 := A2.cell 125 (by rw [wrL_length]; decide)
  have d5 := A2.cell 126 (by rw [wrL_length]; decide)
  have d6 := A2.cell 127 (by rw [wrL_length]; decide)
  have d7 := A2.cell 151 (by rw [wrL_length]; decide)
  have d8 := A2.cell 152 (by rw [wrL_length]; decide)
  rw [y1] at d1
  rw [y2] at d2
  rw [y3] at d3
  rw [y4] at d4
  rw [y5] at d5
  rw [y6] at d6
  rw [y7] at d7
  rw [y8] at d8
  clear c1 c2 c3 c4 c5 f1 f2 f3 f4 f5 HK6 HG6 A2 G2 y1 y2 y3 y4 y5 y6 y7 y8 hg
  go_wp2
  go_ret
  exact ⟨rfl, HG2.out⟩
end Go.Proofs.Ytipeldekiloanaa
