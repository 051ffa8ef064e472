/-
  PatrolQueues, walked. Condition: the script lies in memory.
-/
import Derived.Test.YtnldbeklcpcdcaaUp
import Derived.Test.YtnldbeklcpcdcaaRq
import Derived.Test.YtnldbeklcpcdcaaIn
import Derived.Deep.RegionHeld3
namespace Go.Proofs.Ytnldbeklcpcdcaa
set_option maxRecDepth 100000
open Go.RowKit

theorem build47 (w : World) : (Instr.build 47 #[]).run Try.prog w = .ok (.agg #[.slice none 0 0]) w := by kernel_rfl
theorem RQ.drewN {w : World} {r base : Nat} {l : List Int} (h : RQ w r base l) (n : Nat) : RQ (w.drewN n) r base l := h
theorem Okq.tl {l : List Int} (h : Okq l) : Okq l.tail := by
  cases l with
  | nil => exact h
  | cons x l => exact h.tail
/-- Program and document stand alike. -/
structure Qs (w0 w : World) (p r base : Nat) (l : List Int) : Prop where
  prog : QB w p l
  ref : RQ w r base l
  ok : Okq l
  ne : p ≠ r
  pb : p < base
  rb : r < base
  bs : base ≤ w.heap.size
  lp : w0.heap.size ≤ p
  lr : w0.heap.size ≤ r
  lb : w0.heap.size ≤ base
  chg : Chg (fun _ => False) w0 w
section
variable {w0 w w' w1 w2 : World} {p r base : Nat} {l l' : List Int}
theorem Qs.still (h : Qs w0 w p r base l) (hc : Chg (fun _ => False) w w') : Qs w0 w' p r base l :=
  { h with prog := h.prog.chg hc (fun f => f), ref := h.ref.chg hc (fun f => f) (fun _ _ f => f), bs := Nat.le_trans h.bs hc.size, chg := h.chg.trans hc }
/-- The program's was changed: the document's is as it was. -/
theorem Qs.ref1 (h : Qs w0 w p r base l) (G1 : Chg (· = p) w w1) : RQ w1 r base l := h.ref.chg G1 h.ne.symm (fun k hk e => by have := h.pb; omega)
/-- Both were changed. -/
theorem Qs.both (h : Qs w0 w p r base l) (K1 : QB w1 p l') (G1 : Chg (· = p) w w1) (ok : Okq l') (K2 : RQ w2 r base l') (G2 : Chg (fun k => k = r ∨ base ≤ k) w1 w2) : Qs w0 w2 p r base l' :=
  { h with
    prog := K1.chg G2 (fun e => by have := h.ne; have := h.pb; omega)
    ref := K2
    ok := ok
    bs := Nat.le_trans h.bs (Nat.le_trans G1.size G2.size)
    chg := (h.chg.trans' G1 (fun i hi e => by have := h.lp; omega)).trans' G2 (fun i hi e => by have := h.lr; have := h.lb; omega) }
end
set_option maxHeartbeats 8000000 in
theorem queues_walk (a : Option Addr) (len cap : Nat) (O : Nat → Opd) (w : World) (hO : IsOps w a len O) (hlen : len < 9223372036854775808) :
    Calls Try.prog 4 #[.slice a len cap] w fun e w' => e = .returned (.bool true) ∧ Below w.heap.size w w' := by
  have HO := hyd hO
  have hb := build44
  have hb' := build47
  clear hO
  go_enter Try.func4, Try.ntmps4
  go_wp2_with fail
  refine (up_any _).mono ?_
  rintro x w1 ⟨rfl, G1⟩
  have Q2 := QB.box w1
  have G2 := (Chg.refl (fun _ => False) w1).alloc (.cells #[.int .i64 0, .int .i64 0, .int .i64 0, .int .i64 0, .int .i64 0, .int .i64 0, .int .i64 0, .int .i64 0, .int .i64 0, .int .i64 0, .int .i64 0, .int .i64 0, .int .i64 0] 44)
  obtain ⟨w2, HW2⟩ : ∃ w2, Hid (w2 = w1.alloc (.cells #[.int .i64 0, .int .i64 0, .int .i64 0, .int .i64 0, .int .i64 0, .int .i64 0, .int .i64 0, .int .i64 0, .int .i64 0, .int .i64 0, .int .i64 0, .int .i64 0, .int .i64 0] 44)) := ⟨_, rfl⟩
  have HS2 : Hid (w2.heap.size = w1.heap.size + 1) := by show _ = _; rw [HW2.out]; simp
  rw [← HW2.out] at Q2 G2
  have R3 := RQ.new w2 (w1.heap.size + 2)
  have G3 := (Chg.refl (fun _ => False) w2).alloc (.cells #[.slice none 0 0] 47)
  have HS3 : Hid ((w2.alloc (.cells #[.slice none 0 0] 47)).heap.size = w1.heap.size + 2) := by show _ = _; have := HS2.out; simp; omega
  rw [HS2.out] at R3
  have HT := hyd (show Qs w (w2.alloc (.cells #[.slice none 0 0] 47)) w1.heap.size (w1.heap.size + 1) (w1.heap.size + 2) [] from
    ⟨Q2.chg G3 (fun f => f), R3, Okq.nil, by omega, by omega, by omega, by rw [HS3.out]; exact Nat.le_refl _, G1.size, Nat.le_trans G1.size (by omega), Nat.le_trans G1.size (by omega), (G1.trans G2).trans G3⟩)
  clear Q2 R3 G1 G2 G3
  obtain ⟨p, HP⟩ : ∃ p, Hid (p = w1.heap.size) := ⟨_, rfl⟩
  obtain ⟨r, HR⟩ : ∃ r, Hid (r = w1.heap.size + 1) := ⟨_, rfl⟩
  obtain ⟨base, HBS⟩ : ∃ base, Hid (base = w1.heap.size + 2) := ⟨_, rfl⟩
  rw [← HBS.out, ← HR.out, ← HP.out] at HT
  go_wp2_with fail
  rw [← HW2.out, ← HR.out, ← HP.out]
  generalize w2.alloc (.cells #[.slice none 0 0] 47) = w3 at *
  clear HP HR HBS HS2 HS3 HW2 hb hb'
  go_loopg [6] len (fun kx s6 wr => ∃ (i : Nat) (l : List Int), s6 = .int .i64 i ∧ i ≤ len ∧ len - i ≤ kx ∧ Hid (Qs w wr p r base l))
  case atStart => exact ⟨0, _, rfl, by omega, by omega, HT⟩
  case round =>
  clear HT
  obtain ⟨i, l, rfl, hin, hkx, HT⟩ := hrel
  by_cases hlt : i < len
  · have hltz : (i : Int) < (len : Int) := by omega
    obtain ⟨hok, hc⟩ := HO.out
    rcases hc with hc | ⟨qa, oa, rfl, hqa, hc⟩
    · omega
    obtain ⟨x0, x1⟩ := (hc i hlt).chg HT.out.chg hqa
    obtain ⟨⟨ok1, ok2⟩, -⟩ := hok i hlt
    have HQA := hyd hqa
    clear hok hc hqa
    generalize O i = oi at *
    obtain ⟨K, A⟩ := oi
    replace x0 : wr.cell? ⟨qa, oa + i * 2, none⟩ = some (.int .i64 K) := x0
    replace x1 : wr.cell? ⟨qa, oa + i * 2 + 1, none⟩ = some (.int .i64 A) := x1
    go_wp2_with fail
    refine (pick_any K ok1 ok2 4 (by omega) (by omega) _).mono ?_
    rintro x wr ⟨⟨qn, hqn, rfl⟩, rfl⟩
    have hcase : qn = 0 ∨ qn = 1 ∨ qn = 2 ∨ qn = 3 := by omega
    clear x0 ok1 ok2 hqn
    rcases hcase with rfl | rfl | rfl | rfl
    · rw [show ((0 : Nat) : Int) = 0 from rfl]
      go_wp2_with fail
      refine (add_v wr p l HT.out.prog HT.out.ok A).mono ?_
      rintro x w7 ⟨rfl, K7, G7⟩
      have hq7 : qa < w7.heap.size := by have := HQA.out; have := HT.out.chg.size; have := G7.size; omega
      have HQ7 := hyd hq7
      have u1 : w7.cell? ⟨qa, oa + i * 2 + 1, none⟩ = some (.int .i64 A) := (G7.cell (by have := HQA.out; have := HT.out.chg.size; omega) (by have := HQA.out; have := HT.out.lp; omega) _).trans x1
      have HR7 := hyd (HT.out.ref1 G7)
      have HB7 := hyd (show base ≤ w7.heap.size from Nat.le_trans HT.out.bs G7.size)
      have HK7 := hyd K7
      have HG7 := hyd G7
      have HS := HT
      clear K7 G7 x1 HT hq7
      go_wp2_with fail
      go_region_held3 (fun wx => wx.cell? ⟨qa, oa + i * 2 + 1, none⟩ = some (.int .i64 A))
        (first | exact u1 | exact z1)
        (first
          | (go_at_call 18; refine (code_v _ (adC_code A) _).mono ?_; rintro x w8 ⟨rfl, rfl⟩)
          | (go_at_call 19; refine (radd_v _ r base l (HR7.out.drewN 1) HS.out.ok HS.out.rb HB7.out A).mono ?_; rintro x w9 ⟨rfl, K9, G9⟩; have z1 := (((Chg.refl (fun k => k = r ∨ base ≤ k) w7).drew.trans G9).cell HQ7.out (fun e => by have := HQA.out; have := HS.out.lr; have := HS.out.lb; omega) (oa + i * 2 + 1)).trans u1; have HT := hyd (HS.out.both HK7.out HG7.out (HS.out.ok.add A) K9 ((Chg.refl _ _).drew.trans G9)); clear K9 G9))
      have heq : (((adC A : Nat) : Int) != ((adC A : Nat) : Int)) = false := by simp
      clear HS
      obtain ⟨a', cap', d0, -, -⟩ := HT.out.ref.cell
      have hlen' := fun m => len_any (w9.drewN m) p _ (HT.out.prog.drewN m)
      generalize (adL l A).length = n at d0 hlen'
      have hnb : ((n : Int) != (n : Int)) = false := by simp
      go_wp2_with fail
      go_quiet (first | (go_at_call 22; refine Calls.quiet_of_same (hlen' _)))
      go_wp2
      go_roundg (len - (i + 1))
      case measure => omega
      case rel => exact ⟨i + 1, _, by simp, by omega, Nat.le_refl _, HT.out.still ((Chg.refl _ _).drewN _)⟩
    · rw [show ((1 : Nat) : Int) = 1 from rfl]
      go_wp2_with fail
      refine (add_v wr p l HT.out.prog HT.out.ok A).mono ?_
      rintro x w7 ⟨rfl, K7, G7⟩
      have hq7 : qa < w7.heap.size := by have := HQA.out; have := HT.out.chg.size; have := G7.size; omega
      have HQ7 := hyd hq7
      have u1 : w7.cell? ⟨qa, oa + i * 2 + 1, none⟩ = some (.int .i64 A) := (G7.cell (by have := HQA.out; have := HT.out.chg.size; omega) (by have := HQA.out; have := HT.out.lp; omega) _).trans x1
      have HR7 := hyd (HT.out.ref1 G7)
      have HB7 := hyd (show base ≤ w7.heap.size from Nat.le_trans HT.out.bs G7.size)
      have HK7 := hyd K7
      have HG7 := hyd G7
      have HS := HT
      clear K7 G7 x1 HT hq7
      go_wp2_with fail
      go_region_held3 (fun wx => wx.cell? ⟨qa, oa + i * 2 + 1, none⟩ = some (.int .i64 A))
        (first | exact u1 | exact z1)
        (first
          | (go_at_call 18; refine (code_v _ (adC_code A) _).mono ?_; rintro x w8 ⟨rfl, rfl⟩)
          | (go_at_call 19; refine (radd_v _ r base l (HR7.out.drewN 1) HS.out.ok HS.out.rb HB7.out A).mono ?_; rintro x w9 ⟨rfl, K9, G9⟩; have z1 := (((Chg.refl (fun k => k = r ∨ base ≤ k) w7).drew.trans G9).cell HQ7.out (fun e => by have := HQA.out; have := HS.out.lr; have := HS.out.lb; omega) (oa + i * 2 + 1)).trans u1; have HT := hyd (HS.out.both HK7.out HG7.out (HS.out.ok.add A) K9 ((Chg.refl _ _).drew.trans G9)); clear K9 G9))
      have heq : (((adC A : Nat) : Int) != ((adC A : Nat) : Int)) = false := by simp
      clear HS
      obtain ⟨a', cap', d0, -, -⟩ := HT.out.ref.cell
      have hlen' := fun m => len_any (w9.drewN m) p _ (HT.out.prog.drewN m)
      generalize (adL l A).length = n at d0 hlen'
      have hnb : ((n : Int) != (n : Int)) = false := by simp
      go_wp2_with fail
      go_quiet (first | (go_at_call 22; refine Calls.quiet_of_same (hlen' _)))
      go_wp2
      go_roundg (len - (i + 1))
      case measure => omega
      case rel => exact ⟨i + 1, _, by simp, by omega, Nat.le_refl _, HT.out.still ((Chg.refl _ _).drewN _)⟩
    · rw [show ((2 : Nat) : Int) = 2 from rfl]
      clear x1
      obtain ⟨v, HV⟩ : ∃ v, Hid (v = l.headD 0) := ⟨_, rfl⟩
      obtain ⟨bb, HBB⟩ : ∃ bb, Hid (bb = nxB l) := ⟨_, rfl⟩
      have hnx := next_v wr p l HT.out.prog HT.out.ok
      rw [← HV.out, ← HBB.out] at hnx
      go_wp2_with fail
      refine hnx.mono ?_
      clear hnx
      rintro x w7 ⟨rfl, K7, G7⟩
      have HR7 := hyd (HT.out.ref1 G7)
      have HK7 := hyd K7
      have HG7 := hyd G7
      have hrn := rnext_v w7 r base l HR7.out HT.out.ok HT.out.rb
      rw [← HV.out, ← HBB.out] at hrn
      clear K7 G7
      go_wp2_with fail
      refine hrn.mono ?_
      clear hrn
      rintro x w9 ⟨rfl, K9, G9⟩
      have HT := hyd (HT.out.both HK7.out HG7.out HT.out.ok.tl K9 (G9.mono (T := fun k => k = r ∨ base ≤ k) fun _ _ e => Or.inl e))
      clear K9 G9 HR7 HK7 HG7
      have hvb : (v != v) = false := by simp
      have hbb : (bb != bb) = false := by simp
      obtain ⟨a', cap', d0, -, -⟩ := HT.out.ref.cell
      have hlen' := fun m => len_any (w9.drewN m) p _ (HT.out.prog.drewN m)
      generalize (l.tail).length = n at d0 hlen'
      have hnb : ((n : Int) != (n : Int)) = false := by simp
      go_wp2_with fail
      go_quiet (first | (go_at_call 22; refine Calls.quiet_of_same (hlen' _)))
      go_wp2
      go_roundg (len - (i + 1))
      case measure => omega
      case rel => exact ⟨i + 1, _, by simp, by omega, Nat.le_refl _, HT.out.still ((Chg.refl _ _).drewN _)⟩
    · rw [show ((3 : Nat) : Int) = 3 from rfl]
      clear x1
      obtain ⟨a', cap', d0, -, -⟩ := HT.out.ref.cell
      have hlen' := fun m => len_any (wr.drewN m) p _ (HT.out.prog.drewN m)
      generalize (l).length = n at d0 hlen'
      have hnb : ((n : Int) != (n : Int)) = false := by simp
      go_wp2_with fail
      go_quiet (first | (go_at_call 22; refine Calls.quiet_of_same (hlen' _)))
      go_wp2
      go_roundg (len - (i + 1))
      case measure => omega
      case rel => exact ⟨i + 1, _, by simp, by omega, Nat.le_refl _, HT.out.still ((Chg.refl _ _).drewN _)⟩
  · have hltz : ¬ (i : Int) < (len : Int) := by omega
    go_wp2
    go_ret
    exact ⟨rfl, HT.out.chg.below (fun _ h => h.elim) (Nat.le_refl _)⟩
end Go.Proofs.Ytnldbeklcpcdcaa
