/-
  '==' of a checkpoint with itself; string(a) == string(b) of bytes; the document's Same. Condition: the bytes can be read.
-/
import Derived.Test.YtipeldekiloanaaRefR
import Derived.ChangeKeysEq
import Derived.OwnWalk
namespace Go.Proofs.Ytipeldekiloanaa
open Go.RowKit
set_option maxRecDepth 100000

theorem plain2 : Try.prog.plainKey 2 = true := by kernel_rfl
theorem plain3 : Try.prog.plainKey 3 = true := by kernel_rfl
theorem plain4 : Try.prog.plainKey 4 = true := by kernel_rfl
theorem cells2 : Try.prog.cellsOf 2 = 1 := by kernel_rfl
theorem cells3 : Try.prog.cellsOf 3 = 1 := by kernel_rfl
theorem cells4 : Try.prog.cellsOf 4 = 1 := by kernel_rfl
theorem info2 : ∃ i, Try.prog.info? 2 = some i := Option.isSome_iff_exists.1 (by kernel_rfl)
theorem info3 : ∃ i, Try.prog.info? 3 = some i := Option.isSome_iff_exists.1 (by kernel_rfl)
theorem info4 : ∃ i, Try.prog.info? 4 = some i := Option.isSome_iff_exists.1 (by kernel_rfl)
theorem items_int (t : TypeId) (hp : Try.prog.plainKey t = true) (hu : Try.prog.underlying t = some (.int .i64)) (d : Nat) (A : Array Value) (w : World) (is : List Nat) (hin : ∀ i ∈ is, ∃ z, A[i]? = some (.int .i64 z)) :
    (Op.eqItems (d + 1) t 1 A A is).run Try.prog w = .ok true w := by
  induction is with
  | nil => simp [Op.eqItems]
  | cons i is ih =>
    have ih := ih (fun j hj => hin j (by simp [hj]))
    obtain ⟨z, hz⟩ := hin i (by simp)
    have p1 := run_part_plain (P := Try.prog) w hp (xs := A) (off := i * 1) (by rw [Nat.mul_one]; exact hz)
    have p3 := run_equalIn_int (P := Try.prog) w d t .i64 .i64 z z hu
    simp only [Op.eqItems, Sem.run_bind, p1, p3, Result.andThen_ok, beq_self_eq_true]
    simpa using ih
theorem items_bool (d : Nat) (A : Array Value) (w : World) (is : List Nat) (hin : ∀ i ∈ is, ∃ z, A[i]? = some (.bool z)) :
    (Op.eqItems (d + 1) 4 1 A A is).run Try.prog w = .ok true w := by
  induction is with
  | nil => simp [Op.eqItems]
  | cons i is ih =>
    have ih := ih (fun j hj => hin j (by simp [hj]))
    obtain ⟨z, hz⟩ := hin i (by simp)
    have p1 := run_part_plain (P := Try.prog) w plain4 (xs := A) (off := i * 1) (by rw [Nat.mul_one]; exact hz)
    have p3 := run_equalIn_bool' (P := Try.prog) w d 4 z z Try.underlying4
    simp only [Op.eqItems, Sem.run_bind, p1, p3, Result.andThen_ok, beq_self_eq_true]
    simpa using ih
theorem eq_ints22 (d : Nat) (w : World) (f : Nat → Int) : (Op.equalIn (d + 2) 22 (.agg (ints f 24).toArray) (.agg (ints f 24).toArray)).run Try.prog w = .ok true w := by
  obtain ⟨i, hi⟩ := info2
  rw [run_equalIn_array w (d + 1) _ _ Try.underlying22 hi, cells2]
  refine items_int 2 plain2 Try.underlying2 d _ w _ (fun i hi => ⟨f i, ?_⟩)
  have := ints_at f 24 i (List.mem_range.1 hi)
  simpa [i6] using this
theorem eq_ints24 (d : Nat) (w : World) (f : Nat → Int) : (Op.equalIn (d + 2) 24 (.agg (ints f 12).toArray) (.agg (ints f 12).toArray)).run Try.prog w = .ok true w := by
  obtain ⟨i, hi⟩ := info3
  rw [run_equalIn_array w (d + 1) _ _ Try.underlying24 hi, cells3]
  refine items_int 3 plain3 Try.underlying3 d _ w _ (fun i hi => ⟨f i, ?_⟩)
  have := ints_at f 12 i (List.mem_range.1 hi)
  simpa [i6] using this
theorem eq_bools23 (d : Nat) (w : World) (f : Nat → Bool) : (Op.equalIn (d + 2) 23 (.agg (bools f 12).toArray) (.agg (bools f 12).toArray)).run Try.prog w = .ok true w := by
  obtain ⟨i, hi⟩ := info4
  rw [run_equalIn_array w (d + 1) _ _ Try.underlying23 hi, cells4]
  refine items_bool d _ w _ (fun i hi => ⟨f i, ?_⟩)
  have := bools_at f 12 i (List.mem_range.1 hi)
  simpa using this
theorem fields26 : (Try.prog.fieldsOf 26).toList.map (fun f => (f.type, f.offset)) = [(22, 0), (2, 24), (23, 25), (3, 37), (24, 38), (24, 50)] := by kernel_rfl
theorem ext_F (c : Ckp) : (ckA c).extract 0 (0 + 24) = (ints c.F 24).toArray := by kernel_rfl
theorem ext_B (c : Ckp) : (ckA c).extract 25 (25 + 12) = (bools c.B 12).toArray := by kernel_rfl
theorem ext_R (c : Ckp) : (ckA c).extract 38 (38 + 12) = (ints c.R 12).toArray := by kernel_rfl
theorem ext_S (c : Ckp) : (ckA c).extract 50 (50 + 12) = (ints c.S 12).toArray := by kernel_rfl
theorem eq_fields (d : Nat) (A : Array Value) (w : World) (fs : List Field) (h : ∀ f ∈ fs, ∃ v, (Go.part f.type A f.offset).run Try.prog w = .ok v w ∧ (Op.equalIn d f.type v v).run Try.prog w = .ok true w) :
    (Op.eqFields d A A fs).run Try.prog w = .ok true w := by
  induction fs with
  | nil => simp [Op.eqFields]
  | cons f fs ih =>
    have ih := ih (fun g hg => h g (by simp [hg]))
    obtain ⟨v, h1, h2⟩ := h f (by simp)
    simp only [Op.eqFields]
    split
    · simp only [Sem.run_bind, h1, h2, Result.andThen_ok]
      simpa using ih
    · exact ih
theorem isAg (t : TypeId) (w : World) (b : Bool) (h : (isAgg t).run Try.prog w = .ok b w) (A : Array Value) (off n : Nat) (hn : (sizeOf t).run Try.prog w = .ok n w) (hb : b = true) : (Go.part t A off).run Try.prog w = .ok (.agg (A.extract off (off + n))) w := by
  subst hb
  simp [Go.part, h, hn]
theorem isAgg22 (w : World) : (isAgg 22).run Try.prog w = .ok true w := by kernel_rfl
theorem isAgg23 (w : World) : (isAgg 23).run Try.prog w = .ok true w := by kernel_rfl
theorem isAgg24 (w : World) : (isAgg 24).run Try.prog w = .ok true w := by kernel_rfl
theorem siz22 (w : World) : (sizeOf 22).run Try.prog w = .ok 24 w := by kernel_rfl
theorem siz23 (w : World) : (sizeOf 23).run Try.prog w = .ok 12 w := by kernel_rfl
theorem siz24 (w : World) : (sizeOf 24).run Try.prog w = .ok 12 w := by kernel_rfl
theorem ckA_at (c : Ckp) (i : Nat) {v : Value} (h : (ckL c)[i]? = some v) : (ckA c)[i]? = some v := by simpa [ckA] using h
theorem eq_ck (d : Nat) (w : World) (c : Ckp) : (Op.equalIn (d + 3) 26 (.agg (ckA c)) (.agg (ckA c))).run Try.prog w = .ok true w := by
  rw [run_equalIn_struct w (d + 2) 26 _ _ (by kernel_rfl) (by kernel_rfl)]
  apply eq_fields
  intro f hf
  have hm : (f.type, f.offset) ∈ [(22, 0), (2, 24), (23, 25), (3, 37), (24, 38), (24, 50)] := by
    rw [← fields26]; exact List.mem_map.2 ⟨f, hf, rfl⟩
  simp only [List.mem_cons, List.not_mem_nil, or_false, Prod.mk.injEq] at hm
  rcases hm with ⟨h1, h2⟩ | ⟨h1, h2⟩ | ⟨h1, h2⟩ | ⟨h1, h2⟩ | ⟨h1, h2⟩ | ⟨h1, h2⟩ <;> rw [h1, h2]
  · refine ⟨_, isAg 22 w _ (isAgg22 w) _ _ _ (siz22 w) rfl, ?_⟩
    rw [ext_F]; exact eq_ints22 d w c.F
  · exact ⟨_, run_part_plain (P := Try.prog) w plain2 (xs := ckA c) (off := 24) (ckA_at c 24 (ckL_N c)), by
      have := run_equalIn_int (P := Try.prog) w (d + 1) 2 .i64 .i64 c.N c.N Try.underlying2
      rw [beq_self_eq_true] at this; exact this⟩
  · refine ⟨_, isAg 23 w _ (isAgg23 w) _ _ _ (siz23 w) rfl, ?_⟩
    rw [ext_B]; exact eq_bools23 d w c.B
  · exact ⟨_, run_part_plain (P := Try.prog) w plain3 (xs := ckA c) (off := 37) (ckA_at c 37 (ckL_C c)), by
      have := run_equalIn_int (P := Try.prog) w (d + 1) 3 .i64 .i64 c.C c.C Try.underlying3
      rw [beq_self_eq_true] at this; exact this⟩
  · refine ⟨_, isAg 24 w _ (isAgg24 w) _ _ _ (siz24 w) rfl, ?_⟩
    rw [ext_R]; exact eq_ints24 d w c.R
  · refine ⟨_, isAg 24 w _ (isAgg24 w) _ _ _ (siz24 w) rfl, ?_⟩
    rw [ext_S]; exact eq_ints24 d w c.S
theorem eql_ck (w : World) (c : Ckp) : (binOp .eql 26 (.agg (ckA c)) (.agg (ckA c))).run Try.prog w = .ok (.bool true) w := by
  rw [run_eql_struct, show (10000 : Nat) = 9997 + 3 from rfl, eq_ck]; rfl
theorem neq_ck (w : World) (c : Ckp) : (binOp .neq 26 (.agg (ckA c)) (.agg (ckA c))).run Try.prog w = .ok (.bool false) w := by
  rw [run_neq_struct, show (10000 : Nat) = 9997 + 3 from rfl, eq_ck]; rfl
/-- What string(..) makes of bytes. -/
def str (l : List Nat) : ByteArray := strOfNums (l.map fun (n : Nat) => (n : Int))
theorem conv_held (w : World) (a : Option Addr) (n cap : Nat) (l : List Nat) (hn : n = l.length) (h : Held w (.slice a n cap) l) : (convert 28 9 (.slice a n cap)).run Try.prog w = .ok (.string (str l)) w := by
  obtain ⟨a', c', hv, hr⟩ := h
  simp only [Value.slice.injEq] at hv
  obtain ⟨rfl, -, rfl⟩ := hv
  by_cases h0 : l.length = 0
  · have e : l = [] := List.length_eq_zero_iff.1 h0
    subst e
    subst hn
    cases a with
    | none => exact run_convert_bytes_nil w 28 5 Try.underlying28 Try.underlying5 _ _ 9 Try.underlying9
    | some ad =>
      have hl : (loadCells ad 0).run Try.prog w = .ok (([] : List Int).map (Value.int .u8)).toArray w := by simp [loadCells, loadCellsFrom]
      show (convert 28 9 (.slice (some ad) 0 cap)).run Try.prog w = _
      rw [run_convert_bytes_string w 28 9 5 _ 0 cap Try.underlying28 Try.underlying5 Try.underlying9, run_bytesToString w ad 0 cap [] hl]
      rfl
  · obtain ⟨g, o, rfl, hg, hc⟩ := hr.resolve_left h0
    exact run_convert_bytes_arg (P := Try.prog) w 28 5 Try.underlying28 Try.underlying5 g o n cap (l.map fun (n : Nat) => (n : Int)) (by simp [hn]) (At.ints ⟨hg, hc⟩ hn) 9 Try.underlying9
theorem str_beq (l1 l2 : List Nat) (b1 : Bys l1) (b2 : Bys l2) : ((str l1).toList == (str l2).toList) = decide (l1 = l2) := str_eq l1 l2 b1 b2
set_option maxHeartbeats 1000000 in
theorem same_any (w : World) (a1 a2 : Option Addr) (n1 c1 n2 c2 : Nat) (l1 l2 : List Nat) (e1 : n1 = l1.length) (e2 : n2 = l2.length) (b1 : Bys l1) (b2 : Bys l2) (h1 : Held w (.slice a1 n1 c1) l1) (h2 : Held w (.slice a2 n2 c2) l2) :
    Calls Try.prog 9 #[.slice a1 n1 c1, .slice a2 n2 c2] w fun e w' => e = .returned (.bool (decide (l1 = l2))) ∧ w' = w := by
  have k1 := conv_held w a1 n1 c1 l1 e1 h1
  have k2 := conv_held w a2 n2 c2 l2 e2 h2
  have HQ := hyd (str_beq l1 l2 b1 b2)
  generalize str l1 = x1 at *
  generalize str l2 = x2 at *
  clear e1 e2 h1 h2
  go_enter Try.func9, Try.ntmps9
  go_wp2
  go_ret
  exact ⟨by rw [← HQ.out]; rfl, rfl⟩
theorem held_nil (w : World) : Held w (.slice none 0 0) [] := ⟨none, 0, rfl, Or.inl rfl⟩
end Go.Proofs.Ytipeldekiloanaa
