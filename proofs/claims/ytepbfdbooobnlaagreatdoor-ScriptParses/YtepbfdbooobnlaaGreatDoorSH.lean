/-
  The examples at the head of all laws: they come out as the document says. Condition: the variables hold what they were given.
-/
import Derived.Test.YtepbfdbooobnlaaGreatDoorSJ
import Derived.ChangeKeysEq
import Derived.Laws.StructEq
namespace Go.Proofs.YtepbfdbooobnlaaGreatDoor
set_option maxRecDepth 100000
open Go.RowKit
theorem eql_s3 (w : World) (f : S3) : (binOp .eql 50 (.agg (fA f)) (.agg (fA f))).run Tryz.prog w = .ok (.bool true) w := by
  unfold fA fL
  go_simp
theorem neq_s3 (w : World) (f : S3) : (binOp .neq 50 (.agg (fA f)) (.agg (fA f))).run Tryz.prog w = .ok (.bool false) w := by
  unfold fA fL
  go_simp
theorem guard_s3 (w : World) (op : BinOp) (x y : Operand) (xs ys : Array Value) : (eqGuard op 50 x y (.agg xs) (.agg ys)).run Tryz.prog w = .ok () w := run_eqGuard_agg w op 50 x y xs ys (by kernel_rfl)
theorem parse_yes (s : ByteArray) (l : List Stp) (hd : prt s.data.toList = .ok l) (hs : s.size ≤ 65536) (w : World) (hG : Gl w) :
    Calls Tryz.prog 13 #[.string s] w fun e w' => ∃ v, e = .returned (.tuple #[v, .nilIface]) ∧ Ow w' w.heap.size v (l.map Stp.s) ∧ Chg (fun _ => False) w w' := by
  refine (parse_any s hs w hG).mono ?_
  rintro e w' ⟨h1, h2⟩
  rw [hd] at h2
  obtain ⟨v, h3, h4⟩ := h2
  exact ⟨v, h3, h4, h1⟩
theorem parse_no (s : ByteArray) (n p c : Nat) (hd : prt s.data.toList = .error (n, p, c)) (hs : s.size ≤ 65536) (w : World) (hG : Gl w) :
    Calls Tryz.prog 13 #[.string s] w fun e w' => ∃ h, e = .returned (.tuple #[.slice none 0 0, .iface 68 (.pointer (some ⟨h, 0, none⟩))]) ∧ (w.heap.size ≤ h ∧ w'.heap[h]? = some (.cells (fcell n p c) 70)) ∧ Chg (fun _ => False) w w' := by
  refine (parse_any s hs w hG).mono ?_
  rintro e w' ⟨h1, h2⟩
  rw [hd] at h2
  obtain ⟨h, h3, h4, h5⟩ := h2
  exact ⟨h, h3, ⟨h4, h5⟩, h1⟩
theorem text_yes (v : Value) (l : List S3) (w : World) (hl : Sl w v l) (hI : ∀ f ∈ l, I64 f.a ∧ I64 f.b) (hn : l.length ≤ 1099511627776) (hG : Gl w) (ht : ∀ f ∈ l, tld f = true) :
    Calls Tryz.prog 17 #[v] w fun e w' => ∃ X : ByteArray, e = .returned (.tuple #[.string X, .nilIface]) ∧ Hid (X = sb (txt (l.map S3.t))) ∧ Chg (fun _ => False) w w' := by
  refine (text_any v l w hl hI hn hG).mono ?_
  rintro e w' ⟨h1, h2⟩
  rcases h2.h with ⟨i, f, hf, h3, _⟩ | ⟨_, X, h3, h4⟩
  · rw [ht f (List.mem_of_getElem? hf)] at h3; cases h3
  · exact ⟨X, h3, h4, h1⟩
theorem at6_two (w : World) (f f' : S3) : At6 (w.alloc (.cells (fL f ++ fL f').toArray 50)) w.heap.size 0 [f, f'] := by
  have hh := heap_new w (.cells (fL f ++ fL f').toArray 50)
  refine ⟨(Array.getElem?_eq_some_iff.1 hh).1, fun i x hx j v hv => ?_⟩
  have hj : j < 3 := by have := (List.getElem?_eq_some_iff.1 hv).1; rwa [fL_length] at this
  simp only [World.cell?, hh]
  match i, hx with
  | 0, hx =>
    have e : f = x := by simpa using hx
    subst e
    show (fL f ++ fL f').toArray[0 + 0 * 3 + j]? = some v
    rw [List.getElem?_toArray, show 0 + 0 * 3 + j = j by omega, List.getElem?_append_left (by rw [fL_length]; exact hj)]; exact hv
  | 1, hx =>
    have e : f' = x := by simpa using hx
    subst e
    show (fL f ++ fL f').toArray[0 + 1 * 3 + j]? = some v
    rw [List.getElem?_toArray, List.getElem?_append_right (by rw [fL_length]; omega), fL_length, show 0 + 1 * 3 + j - 3 = j by omega]; exact hv
def tx1 : ByteArray := ⟨#[114, 101, 97, 100, 32, 51, 10, 32, 32, 119, 114, 105, 116, 101, 32, 45, 49, 32, 48, 32, 35, 32, 115, 111, 10, 10, 35, 32, 110, 111, 32, 109, 111, 114, 101]⟩
theorem shown1 : prt tx1.data.toList = .ok [⟨1, 3, 0⟩, ⟨2, -1, 0⟩] := by kernel_rfl
theorem shown2 : prt (⟨#[116, 114, 105, 109, 32, 48, 51]⟩ : ByteArray).data.toList = .error (1, 5, 17) := by kernel_rfl
theorem shown3 : txt [⟨9, 5, 0⟩, ⟨4, 0, 0⟩] = [99, 117, 116, 32, 53, 10, 109, 111, 117, 110, 116, 10] := by kernel_rfl
set_option maxHeartbeats 2000000 in
theorem shown_any (w : World) (hG : Gl w) : Calls Tryz.prog 8 #[] w fun e w' => e = .returned (.bool true) ∧ Chg (fun _ => False) w w' := by
  have HG := hyd hG
  clear hG
  go_enter Tryz.func8, Tryz.ntmps8
  go_wp2_with (first | (go_at_call 13; refine (parse_yes _ [⟨1, 3, 0⟩, ⟨2, -1, 0⟩] shown1 (by decide) _ HG.out).mono ?_; rintro e w1 ⟨v, rfl, hO1, hC1⟩; refine Hid.out ?_))
  refine Lib.hid ?_
  obtain ⟨g, cap, hv, -, -, hA, -, -⟩ := hO1.lies (by simp)
  have hv' : v = .slice (some ⟨g, 0, none⟩) 2 cap := hv
  subst hv'
  have HA1 := hyd hA
  have HC1 := hyd hC1
  have HG1 := hyd (HG.out.new hC1)
  clear hv hA hC1 hO1
  go_wp2_with (first | (go_at_call 13; refine (parse_no _ 1 5 17 shown2 (by decide) _ HG1.out).mono ?_; rintro e w2 ⟨h, rfl, HF, hC2⟩; refine Hid.out ?_))
  refine Lib.hid ?_
  have HC2 := hyd (HC1.out.trans hC2)
  have HG2 := hyd (HG1.out.new hC2)
  have HA2 := hyd (HA1.out.chg hC2 (fun x => x))
  have HF2 := hyd HF.2
  clear hC2 HF HC1 HG1 HA1
  have HS3 : Hid (Sl (w2.alloc (.cells #[.int .i64 9, .int .i64 5, .int .i64 0, .int .i64 4, .int .i64 0, .int .i64 0] 50)) (.slice (some ⟨w2.heap.size, 0, none⟩) 2 2) [⟨9, 5, 0⟩, ⟨4, 0, 0⟩]) :=
    ⟨_, 2, rfl, Nat.le_refl _, Or.inr ⟨w2.heap.size, 0, rfl, at6_two w2 ⟨9, 5, 0⟩ ⟨4, 0, 0⟩⟩⟩
  have HG3 := hyd (HG2.out.alloc (.cells #[.int .i64 9, .int .i64 5, .int .i64 0, .int .i64 4, .int .i64 0, .int .i64 0] 50))
  have HX3 : Hid (∀ f ∈ ([⟨9, 5, 0⟩, ⟨4, 0, 0⟩] : List S3), (I64 f.a ∧ I64 f.b) ∧ tld f = true) := by
    intro f hf
    simp only [List.mem_cons, List.mem_nil_iff, or_false] at hf
    rcases hf with rfl | rfl
    · exact ⟨⟨⟨by decide, by decide⟩, ⟨by decide, by decide⟩⟩, by decide⟩
    · exact ⟨⟨⟨by decide, by decide⟩, ⟨by decide, by decide⟩⟩, by decide⟩
  go_wp2_with (first | (go_at_call 17; refine (text_yes _ _ _ HS3.out (fun f hf => (HX3.out f hf).1) (by decide) HG3.out (fun f hf => (HX3.out f hf).2)).mono ?_; rintro e w4 ⟨X, rfl, HX, hC4⟩; refine Hid.out ?_))
  refine Lib.hid ?_
  have hC24 := ((Chg.refl (fun _ => False) w2).alloc (.cells #[.int .i64 9, .int .i64 5, .int .i64 0, .int .i64 4, .int .i64 0, .int .i64 0] 50)).trans hC4
  have HC4 := hyd (HC2.out.trans hC24)
  have HG4 := hyd (HG2.out.new hC24)
  have HA4 := hyd (HA2.out.chg hC24 (fun x => x))
  have HF4 := hyd ((hC24.block h (Array.getElem?_eq_some_iff.1 HF2.out).1 (fun x => x)).trans HF2.out)
  clear hC24 hC4 HC2 HG2 HA2 HF2 HS3 HG3
  have hX : X = (⟨#[99, 117, 116, 32, 53, 10, 109, 111, 117, 110, 116, 10]⟩ : ByteArray) := HX.out.trans (congrArg sb shown3)
  subst hX
  clear HX
  go_wp2_with (first | (go_at_call 19; refine (isAt_any h 1 5 17 (Or.inr (Or.inr (Or.inr (Or.inl rfl)))) _ HG4.out HF4.out).mono ?_; rintro e w5 ⟨rfl, hC5⟩; refine Hid.out ?_))
  refine Lib.hid ?_
  have HC5 := hyd (HC4.out.trans hC5)
  have HA5 := hyd (HA4.out.chg hC5 (fun x => x))
  clear hC5 HC4 HG4 HA4 HF4
  have HR0 := hyd (HA5.out.load (i := 0) rfl)
  have HR1 := hyd (HA5.out.load (i := 1) rfl)
  have k0 : w5.cell? ⟨g, 0, none⟩ = some (.int .i64 1) := HR0.out 0 _ rfl
  have k1 : w5.cell? ⟨g, 1, none⟩ = some (.int .i64 3) := HR0.out 1 _ rfl
  have k2 : w5.cell? ⟨g, 2, none⟩ = some (.int .i64 0) := HR0.out 2 _ rfl
  have k3 : w5.cell? ⟨g, 3, none⟩ = some (.int .i64 2) := HR1.out 0 _ rfl
  have k4 : w5.cell? ⟨g, 4, none⟩ = some (.int .i64 (-1)) := HR1.out 1 _ rfl
  have k5 : w5.cell? ⟨g, 5, none⟩ = some (.int .i64 0) := HR1.out 2 _ rfl
  clear HR0 HR1
  go_wp2
  go_ret
  exact ⟨rfl, HC5.out⟩
end Go.Proofs.YtepbfdbooobnlaaGreatDoor
