/-
  point's writer lays a whole checkpoint, walked. Condition: nothing is laid yet.
-/
import Derived.Test.YtipeldekiloanaaLay
namespace Go.Proofs.Ytipeldekiloanaa
open Go.RowKit
set_option maxRecDepth 100000

/-- A number as it comes to lay. -/
def u6 (z : Int) : Nat := (IntKind.u64.wrap z).toNat
theorem u6_eq (z : Int) : ((u6 z : Nat) : Int) = IntKind.u64.wrap z := by
  unfold u6
  rw [IntKind.wrap_u64]; omega
theorem u6_lt (z : Int) : u6 z < 18446744073709551616 := by
  unfold u6
  rw [IntKind.wrap_u64]; omega
theorem lay_z (w : World) (b g : Nat) (ps : List (Nat × Nat)) (hW : Wst w b g ps) (z : Int) (s : Nat) (hz1 : 1 ≤ s) (hz8 : s ≤ 8) (hn : tot ps + s ≤ 174) :
    Calls Try.prog 20 #[.pointer (some ⟨b, 0, none⟩), .int .u64 (IntKind.u64.wrap z), .int .i64 (s : Int)] w fun e w' => e = .returned (.tuple #[]) ∧ Wst w' b g (ps ++ [(u6 z, s)]) ∧ Chg (fun k => k = b ∨ k = g) w w' := by
  have := lay_any w b g ps hW (u6 z) s (u6_lt z) hz1 hz8 hn
  rwa [u6_eq] at this
/-- The first n of a list of numbers, of s bytes each. -/
def fl (f : Nat → Int) (n s : Nat) : List (Nat × Nat) := (List.range n).map fun i => (u6 (f i), s)
theorem fl_succ (f : Nat → Int) (n s : Nat) : fl f (n + 1) s = fl f n s ++ [(u6 (f n), s)] := by simp [fl, List.range_succ]
theorem tot_fl (f : Nat → Int) (s : Nat) : ∀ n, tot (fl f n s) = n * s
  | 0 => by simp [fl, tot]
  | n + 1 => by rw [fl_succ, tot_snoc, tot_fl f s n, Nat.add_mul, Nat.one_mul]
/-- A checkpoint's numbers behind k of the six parts. -/
def nums (c : Ckp) : Nat → List (Nat × Nat)
  | 0 => []
  | 1 => fl c.F 24 5
  | 2 => fl c.F 24 5 ++ [(u6 c.N, 5)]
  | 3 => fl c.F 24 5 ++ [(u6 c.N, 5)] ++ [(bitsN c.B 12, 2)]
  | 4 => fl c.F 24 5 ++ [(u6 c.N, 5)] ++ [(bitsN c.B 12, 2)] ++ [(u6 c.C, 1)]
  | 5 => fl c.F 24 5 ++ [(u6 c.N, 5)] ++ [(bitsN c.B 12, 2)] ++ [(u6 c.C, 1)] ++ fl c.R 12 2
  | _ => fl c.F 24 5 ++ [(u6 c.N, 5)] ++ [(bitsN c.B 12, 2)] ++ [(u6 c.C, 1)] ++ fl c.R 12 2 ++ fl c.S 12 1
theorem tot_nums (c : Ckp) : tot (nums c 1) = 120 ∧ tot (nums c 2) = 125 ∧ tot (nums c 3) = 127 ∧ tot (nums c 4) = 128 ∧ tot (nums c 5) = 152 ∧ tot (nums c 6) = 164 := by
  refine ⟨?_, ?_, ?_, ?_, ?_, ?_⟩ <;> simp [nums, tot_append, tot_fl, tot]

set_option maxHeartbeats 4000000 in
theorem layC_any (w : World) (b g : Nat) (c : Ckp) (hW : Wst w b g []) (hg : g < w.heap.size) :
    Calls Try.prog 13 #[.pointer (some ⟨b, 0, none⟩), .agg (ckA c)] w fun e w' => e = .returned (.tuple #[]) ∧ Wst w' b g (nums c 6) ∧ Chg (fun k => k = b ∨ k = g) w w' := by
  have hb := hW.lt
  have hbs : ¬ (w.heap.size = b ∨ w.heap.size = g) := by omega
  have HK := hyd (Ck.new w c)
  have HG : Hid (Chg (fun k => k = b ∨ k = g) w (w.alloc (.cells (ckA c) 26))) := hyd ((Chg.refl _ w).alloc _)
  have HW : Hid (Wst (w.alloc (.cells (ckA c) 26)) b g []) := hyd (hW.chg (S := fun _ => False) ((Chg.refl _ w).alloc _) (fun e => e) (fun e => e))
  have r1 := HK.out.partF
  obtain ⟨t1, t2, t3, t4, t5, t6⟩ := tot_nums c
  have HT := hyd (And.intro t1 (And.intro t2 (And.intro t3 (And.intro t4 (And.intro t5 t6)))))
  have S22 : Hid ((Try.prog.info? 22).map (·.size) = some (ints c.F 24).length) := by rw [ints_length]; exact size22
  have S23 : Hid ((Try.prog.info? 23).map (·.size) = some (bools c.B 12).length) := by rw [bools_length]; exact size23
  have S24 : Hid ((Try.prog.info? 24).map (·.size) = some (ints c.R 12).length) := by rw [ints_length]; exact size24
  have S25 : Hid ((Try.prog.info? 24).map (·.size) = some (ints c.S 12).length) := by rw [ints_length]; exact size24
  clear hW t1 t2 t3 t4 t5 t6
  go_enter Try.func13, Try.ntmps13
  go_wp2_with (refine wpList_load_mid rfl 22 (.tmp 10) rfl w.heap.size 0 rfl _ _ r1 Try.underlying22 rfl S22.out ?_)
  clear r1
  go_loopw [12] (fun t wr => ∃ k : Nat, k ≤ 24 ∧ t = .int .i64 k ∧ Wst wr b g (fl c.F k 5) ∧ Ck wr w.heap.size c ∧ Chg (fun k => k = b ∨ k = g) w wr) (fun t _ => 24 - (intOf t).toNat)
  case atStart => exact ⟨0, by decide, rfl, HW.out, HK.out, HG.out⟩
  case round =>
    clear HW HK HG
    obtain ⟨k, hk, rfl, a1, a2, a3⟩ := hrel
    by_cases hlt : k < 24
    · have hlt' : (k : Int) < 24 := by omega
      have hkb : (0 : Int) ≤ (k : Int) := by omega
      have hix := index22 c.F k hlt
      have hcall := lay_z wr b g _ a1 (c.F k) 5 (by decide) (by decide) (by rw [tot_fl]; omega)
      have HK := hyd a2
      have HG := hyd a3
      clear a1 a2 a3
      go_wp2_with fail
      refine hcall.mono ?_
      rintro e w2 ⟨rfl, W2, G2⟩
      have HW2 := hyd W2
      have HK2 := hyd (HK.out.chg G2 hbs)
      have HG2 := hyd (HG.out.trans G2)
      clear hcall W2 G2 HK HG
      go_wp2
      exact ⟨⟨k + 1, by omega, by go_num, by rw [fl_succ]; exact HW2.out, HK2.out, HG2.out⟩, by simp [intOf]; omega⟩
    · have e : k = 24 := by omega
      subst e
      have hcall := lay_z wr b g _ a1 c.N 5 (by decide) (by decide) (by rw [tot_fl]; omega)
      have k1 := a2.N
      have HK := hyd a2
      have HG := hyd a3
      clear a1 a2 a3
      go_wp2_with fail
      refine hcall.mono ?_
      rintro e w2 ⟨rfl, W2, G2⟩
      have K2 := HK.out.chg G2 hbs
      have HG2 := hyd (HG.out.trans G2)
      have r2 := K2.partB
      have HW2 := hyd W2
      have HK2 := hyd K2
      have hcall := bits_any w2 c.B
      clear W2 G2 HK HG K2 k1
      go_wp2_with (refine wpList_load_mid rfl 23 (.tmp 26) rfl w.heap.size 25 rfl _ _ r2 Try.underlying23 rfl S23.out ?_)
      refine hcall.mono ?_
      rintro e w3 ⟨rfl, G3⟩
      have W3 := HW2.out.chg G3 (fun e => e) (fun e => e)
      have HK3 := hyd (HK2.out.chg G3 (fun e => e))
      have HG3 := hyd (HG2.out.trans (G3.mono (fun _ _ f => f.elim)))
      have hcall := lay_any w3 b g _ W3 (bitsN c.B 12) 2 (by have := bitsN_12 c.B; omega) (by decide) (by decide) (by rw [tot_snoc, tot_fl]; omega)
      clear W3 G3 HK2 HG2 HW2 r2
      go_wp2_with fail
      refine hcall.mono ?_
      rintro e w4 ⟨rfl, W4, G4⟩
      have K4 := HK3.out.chg G4 hbs
      have HG4 := hyd (HG3.out.trans G4)
      have k1 := K4.C
      have hcall := lay_z w4 b g _ W4 c.C 1 (by decide) (by decide) (by rw [tot_snoc, tot_snoc, tot_fl]; omega)
      have HK4 := hyd K4
      clear W4 G4 HK3 HG3 K4
      go_wp2_with fail
      refine hcall.mono ?_
      rintro e w5 ⟨rfl, W5, G5⟩
      have K5 := HK4.out.chg G5 hbs
      have HG5 := hyd (HG4.out.trans G5)
      have r3 := K5.partR
      have HK5 := hyd K5
      have HW5 : Hid (Wst w5 b g (nums c 4)) := hyd W5
      clear W5 G5 HK4 HG4 K5 hcall k1
      go_wp2_with (refine wpList_load_mid rfl 24 (.tmp 35) rfl w.heap.size 38 rfl _ _ r3 Try.underlying24 rfl S24.out ?_)
      clear r3
      go_loopw [37] (fun t wr => ∃ k : Nat, k ≤ 12 ∧ t = .int .i64 k ∧ Wst wr b g (nums c 4 ++ fl c.R k 2) ∧ Ck wr w.heap.size c ∧ Chg (fun k => k = b ∨ k = g) w wr) (fun t _ => 12 - (intOf t).toNat)
      case atStart => exact ⟨0, by decide, rfl, by simpa [fl] using HW5.out, HK5.out, HG5.out⟩
      case round =>
        clear HW5 HK5 HG5
        obtain ⟨k, hk, rfl, a1, a2, a3⟩ := hrel
        by_cases hlt : k < 12
        · have hlt' : (k : Int) < 12 := by omega
          have hkb : (0 : Int) ≤ (k : Int) := by omega
          have hix := index24 c.R k hlt
          have hcall := lay_z _ b g _ a1 (c.R k) 2 (by decide) (by decide) (by rw [tot_append, tot_fl, HT.out.2.2.2.1]; omega)
          have HK := hyd a2
          have HG := hyd a3
          clear a1 a2 a3
          go_wp2_with fail
          refine hcall.mono ?_
          rintro e w2 ⟨rfl, W2, G2⟩
          have HW2 := hyd W2
          have HK2 := hyd (HK.out.chg G2 hbs)
          have HG2 := hyd (HG.out.trans G2)
          clear hcall W2 G2 HK HG
          go_wp2
          exact ⟨⟨k + 1, by omega, by go_num, by rw [fl_succ, ← List.append_assoc]; exact HW2.out, HK2.out, HG2.out⟩, by simp [intOf]; omega⟩
        · have e : k = 12 := by omega
          subst e
          have r4 := a2.partS
          have HK5 := hyd a2
          have HG5 := hyd a3
          have HW5 := hyd a1
          clear a1 a2 a3
          go_wp2_with (refine wpList_load_mid rfl 24 (.tmp 45) rfl w.heap.size 50 rfl _ _ r4 Try.underlying24 rfl S25.out ?_)
          clear r4
          go_loopw [47] (fun t wr => ∃ k : Nat, k ≤ 12 ∧ t = .int .i64 k ∧ Wst wr b g (nums c 5 ++ fl c.S k 1) ∧ Ck wr w.heap.size c ∧ Chg (fun k => k = b ∨ k = g) w wr) (fun t _ => 12 - (intOf t).toNat)
          case atStart => exact ⟨0, by decide, rfl, by rw [show fl c.S 0 1 = [] from rfl, List.append_nil]; exact HW5.out, HK5.out, HG5.out⟩
          case round =>
            clear HW5 HK5 HG5
            obtain ⟨k, hk, rfl, a1, a2, a3⟩ := hrel
            by_cases hlt : k < 12
            · have hlt' : (k : Int) < 12 := by omega
              have hkb : (0 : Int) ≤ (k : Int) := by omega
              have hix := index24 c.S k hlt
              have hcall := lay_z _ b g _ a1 (c.S k) 1 (by decide) (by decide) (by rw [tot_append, tot_fl, HT.out.2.2.2.2.1]; omega)
              have HK := hyd a2
              have HG := hyd a3
              clear a1 a2 a3
              go_wp2_with fail
              refine hcall.mono ?_
              rintro e w2 ⟨rfl, W2, G2⟩
              have HW2 := hyd W2
              have HK2 := hyd (HK.out.chg G2 hbs)
              have HG2 := hyd (HG.out.trans G2)
              clear hcall W2 G2 HK HG
              go_wp2
              exact ⟨⟨k + 1, by omega, by go_num, by rw [fl_succ, ← List.append_assoc]; exact HW2.out, HK2.out, HG2.out⟩, by simp [intOf]; omega⟩
            · have e : k = 12 := by omega
              subst e
              have HG5 := hyd a3
              have HW5 := hyd a1
              clear a1 a2 a3
              go_wp2
              go_end0
              exact ⟨rfl, HW5.out, HG5.out⟩
end Go.Proofs.Ytipeldekiloanaa
