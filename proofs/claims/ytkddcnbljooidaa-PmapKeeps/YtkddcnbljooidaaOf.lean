/-
  Slices of ints that a call itself has made; what pmap's Of and Live answer. No condition: lemmas.
-/
import Derived.Test.YtkddcnbljooidaaMap
import Derived.Maps.AppendAt
namespace Go.Proofs.Ytkddcnbljooidaa
set_option maxRecDepth 100000
open Go.RowKit

/-- The slice v is the call's own (its block is base or above), of the ints l. -/
def Ow (w : World) (base : Nat) (v : Value) (l : List Int) : Prop := w.ownsRow base 3 1 v l.length (l.map i6)
theorem i6_one (l : List Int) : ∀ u ∈ l.map i6, u.oneCell' = true := by
  intro u hu
  obtain ⟨n, _, rfl⟩ := List.mem_map.1 hu
  rfl
theorem Ow.nil (w : World) (base : Nat) : Ow w base (.slice none 0 0) [] := ⟨rfl, Or.inl ⟨rfl, rfl⟩⟩
theorem Ow.form {w : World} {base : Nat} {v : Value} {l : List Int} (h : Ow w base v l) : ∃ a cap, v = .slice a l.length cap := by
  rcases h.2 with ⟨h1, h2⟩ | ⟨g, cap, cur, hv, _⟩
  · exact ⟨none, 0, by rw [h1, h2]⟩
  · exact ⟨_, _, hv⟩
/-- Where it lies. -/
theorem Ow.lies {w : World} {base : Nat} {v : Value} {l : List Int} (h : Ow w base v l) (h0 : l.length ≠ 0) :
    ∃ g cap, v = .slice (some ⟨g, 0, none⟩) l.length cap ∧ base ≤ g ∧ g < w.heap.size ∧ (∀ i, i < l.length → w.cell? ⟨g, i, none⟩ = some (.int .i64 (l.getD i 0))) ∧ ∀ i, w.frozen? ⟨g, i, none⟩ = false := by
  rcases h.2 with ⟨_, h1⟩ | ⟨g, cap, cur, hv, hg, hh, hn, hm, hs, ht⟩
  · exact absurd h1 h0
  · refine ⟨g, cap, hv, hg, (Array.getElem?_eq_some_iff.1 hh).1, fun i hi => ?_, fun i => by simp [World.frozen?, hh]⟩
    have e1 : cur[i]? = some (i6 (l.getD i 0)) := by
      have h2 : (cur.toList.take (l.length * 1))[i]? = (l.map i6)[i]? := by rw [ht]
      rw [List.getElem?_take_of_lt (by omega), List.getElem?_map, List.getElem?_eq_getElem hi, Array.getElem?_toList] at h2
      rw [h2, List.getD_eq_getElem?_getD, List.getElem?_eq_getElem hi]; rfl
    simp only [World.cell?, hh]
    simpa [i6] using e1
theorem Ow.block {w : World} {base : Nat} {v : Value} {l : List Int} (h : Ow w base v l) {k : Nat} (hk : v.ownBlock = some k) : base ≤ k ∧ k < w.heap.size := h.lt k hk
theorem Ow.chg {S : Nat → Prop} {w w' : World} {base : Nat} {v : Value} {l : List Int} (h : Ow w base v l) (hc : Chg S w w') (hs : ∀ k, k < w.heap.size → v.ownBlock = some k → ¬ S k) : Ow w' base v l := by
  refine ⟨h.1, ?_⟩
  rcases h.2 with h1 | ⟨g, cap, cur, rfl, hb, hh, r⟩
  · exact Or.inl h1
  · have hg := (Array.getElem?_eq_some_iff.1 hh).1
    exact Or.inr ⟨g, cap, cur, rfl, hb, (hc.block g hg (hs g hg rfl)).trans hh, r⟩
theorem Ow.new {w w' : World} {base : Nat} {v : Value} {l : List Int} (h : Ow w base v l) (hc : Chg (fun _ => False) w w') : Ow w' base v l := h.chg hc (fun _ _ _ f => f)
theorem info3 : ∃ i, Try.prog.info? 3 = some i ∧ i.zero = some (.int .i64 0) ∧ i.size = 1 ∧ i.bytes = 8 := by
  have h : (Try.prog.info? 3).map (fun i => (i.zero, i.size, i.bytes)) = some (some (.int .i64 0), 1, 8) := by kernel_rfl
  cases e : Try.prog.info? 3 with
  | none => rw [e] at h; cases h
  | some i =>
    rw [e] at h
    simp only [Option.map_some, Option.some.injEq, Prod.mk.injEq] at h
    exact ⟨i, rfl, h.1, h.2.1, h.2.2⟩
/-- 'append(v, z)', v the call's own. -/
theorem wpList_append_i (w : World) {ops : Array Oper} {rest : List Oper} {o : Oper} {a : Act} {Q : Exit → Act → World → Prop} (hgd : o.guard = none) (s x : Operand)
    (ho : o.op = .call { callee := .builtin .append, args := #[s, x], argTypes := #[41, 41] })
    (base : Nat) (v : Value) (l : List Int) (hs : a.eval s = v) (g : Nat) (z : Int) (hx : a.eval x = .slice (some ⟨g, 0, none⟩) 1 1) (hown : Ow w base v l) (hA : w.cell? ⟨g, 0, none⟩ = some (.int .i64 z))
    (hl : l.length < 100) (hbase : base ≤ w.heap.size)
    (h : ∀ v' w', Ow w' base v' (l ++ [z]) → Chg (fun k => v.ownBlock = some k) w w' → wpList Try.prog ops Q rest (a.put o.dst v') w') : wpList Try.prog ops Q (o :: rest) a w := by
  obtain ⟨i, hi1, hi2, hi3, hi4⟩ := info3
  refine wpList_append_own_at w hgd s x 41 ho base 3 i (.int .i64 0) 1 8 Try.underlying41 hi1 hi2 hi3 hi4 rfl (by decide) v l.length (l.map i6) hs hown ⟨g, 0, none⟩ 1 1 [i6 z] hx rfl ?_ (fun u hu => by simp at hu; rw [hu]; rfl) (by unfold maxLen; omega) (by omega) hbase ?_
  · intro j u hj
    match j, hj with
    | 0, hj =>
      simp at hj
      subst hj
      rw [Addr.add_mid]
      exact hA
  · intro v' w' h1 h2 _ _
    refine h v' w' ?_ ⟨h2.os, h2.tape, h2.output, h2.size, fun k hk hs => h2.block k hk (fun e => hs e.symm)⟩
    unfold Ow
    rw [List.length_append, List.map_append]
    exact h1
theorem place_0 (w : World) (k : Nat) (hk : k < 12) (p : Nat) (hp : p = 8 * k) : Calls Try.prog 28 #[.int .i64 k, .int .i64 0] w fun e w' => e = .returned (.tuple #[.int .i64 p, .nilIface]) ∧ w' = w := by
  refine (place_in w k 0 (by omega) (by omega)).mono ?_
  rintro e w' ⟨rfl, rfl⟩
  refine ⟨?_, rfl⟩
  rw [show (k : Int) * 8 + 0 = (p : Int) by omega]
theorem len46 : Try.prog.arrayLen 46 = 96 := by kernel_rfl
theorem elem46 (w : World) : (sizeOf (Try.prog.elem 46)).run Try.prog w = .ok 1 w := by kernel_rfl
theorem slice46 (b p : Nat) (hp : p ≤ 88) (w : World) : (Instr.sliceAt 46 (.pointer (some ⟨b, 25, none⟩)) (some (.int .i64 p)) (some (.int .i64 (p + 8))) none).run Try.prog w = .ok (.slice (some ⟨b, 25 + p, none⟩) 8 (96 - p)) w := by
  rw [run_sliceAt_array_lh w 46 ⟨b, 25, none⟩ Try.underlying46 .i64 .i64 p (p + 8) (by omega) (by omega) (by rw [len46]; omega), elem46, len46]
  simp only [Result.andThen_ok, slicedAt]
  rw [if_neg (by omega), Addr.add_mid]
  congr 2
  · congr 2; omega
  · omega
theorem of_arg (w : World) (b : Nat) (n : Int) (hn : n < 0 ∨ 12 ≤ n) : Calls Try.prog 16 #[.pointer (some ⟨b, 0, none⟩), .int .i64 n] w fun e w' => e = .returned (.tuple #[.slice none 0 0, .iface 40 (.int .i64 1)]) ∧ w' = w := by
  have q := neq_c_nil
  go_enter Try.func16, Try.ntmps16
  go_wp2_with (go_at_call 28; refine (place_out _ n 0 (Or.inl hn)).mono ?_; rintro e w1 ⟨rfl, rfl⟩)
  go_ret2
  exact ⟨rfl, rfl⟩
set_option maxHeartbeats 2000000 in
theorem of_yes (w : World) (b : Nat) (L : Nat → Int) (h : Mp w b L) (k : Nat) (hk : k < 12) : Calls Try.prog 16 #[.pointer (some ⟨b, 0, none⟩), .int .i64 k] w fun e w' => (∃ a cap, e = .returned (.tuple #[.slice a (ofL L k).length cap, .nilIface]) ∧ Ow w' w.heap.size (.slice a (ofL L k).length cap) (ofL L k)) ∧ Chg (fun _ => False) w w' := by
  have q := neq_nil
  obtain ⟨p, hp⟩ : ∃ p, p = 8 * k := ⟨_, rfl⟩
  have hpc := place_0 w k hk p hp
  have HP := hyd hp
  have HK := hyd h
  have hp8 : p ≤ 88 := by omega
  have hp8z : (p : Int) ≤ 88 := by omega
  have hsl := slice46 b p hp8
  clear h hp
  go_enter Try.func16, Try.ntmps16
  go_wp2_with (go_at_call 28; refine hpc.mono ?_; rintro e w1 ⟨rfl, rfl⟩)
  go_loopg [8, 27] 8 (fun kx s8 s27 wr => ∃ i : Nat, s27 = .int .i64 i ∧ i ≤ 8 ∧ 8 - i ≤ kx ∧ Hid (Ow wr w1.heap.size s8 (ofK L k i)) ∧ Hid (Chg (fun _ => False) w1 wr))
  case atStart => exact ⟨0, rfl, by omega, by omega, Ow.nil _ _, Chg.refl _ _⟩
  case round =>
  obtain ⟨i, rfl, hin, hkx, HO, HG⟩ := hrel
  by_cases hlt : i < 8
  · have hltz : (i : Int) < 8 := by omega
    obtain ⟨c, -⟩ := (HK.out.chg HG.out (fun f => f)).owner (q := p + i) (by omega)
    have HE : Hid (ofK L k (i + 1) = ofK L k i ++ if own L ((8 * k + i : Nat) : Int) = -1 then [] else [own L ((8 * k + i : Nat) : Int)]) := rfl
    rw [← HP.out] at HE
    rw [← Nat.add_assoc] at c
    generalize own L ((p + i : Nat) : Int) = z at *
    by_cases hz : z = -1
    · subst hz
      rw [if_pos rfl, List.append_nil] at HE
      go_wp2
      go_roundg (8 - (i + 1))
      case measure => omega
      case rel => exact ⟨i + 1, by simp, by omega, Nat.le_refl _, by show Ow _ _ _ _; rw [HE.out]; exact HO.out, HG⟩
    · rw [if_neg hz] at HE
      have hzb : (z == -1) = false := by simp [hz]
      have hlen := ofK_length L k i
      have O1 := HO.out.new ((Chg.refl (fun _ => False) wr).alloc (.cells #[.int .i64 z] 3))
      have HO1 := hyd O1
      have HB1 : Hid (w1.heap.size ≤ (wr.alloc (.cells #[.int .i64 z] 3)).heap.size) := by have := HG.out.size; show _ ≤ _; simp; omega
      have HC1 : Hid ((wr.alloc (.cells #[.int .i64 z] 3)).cell? ⟨wr.heap.size, 0, none⟩ = some (.int .i64 z)) := by show _ = _; simp
      have HG1 := hyd (HG.out.alloc (.cells #[.int .i64 z] 3))
      clear O1
      go_wp2_with (first | (refine wpList_append_i _ rfl (.tmp 33) (.tmp 35) rfl w1.heap.size _ (ofK L k i) rfl wr.heap.size z rfl ?_ ?_ (by omega) ?_ ?_; exact HO1.out; exact HC1.out; exact HB1.out))
      intro v' w2 O2 G2
      have HO2 := hyd O2
      have HG2 : Hid (Chg (fun _ => False) w1 w2) := HG1.out.trans' G2 fun j hj e => by have := HO.out.block e; omega
      clear O2 G2 HO1 HB1 HC1 HG1
      go_wp2
      go_roundg (8 - (i + 1))
      case measure => omega
      case rel => exact ⟨i + 1, by simp, by omega, Nat.le_refl _, by show Ow _ _ _ _; rw [HE.out]; exact HO2.out, HG2⟩
  · have hltz : ¬ (i : Int) < 8 := by omega
    have h8 : i = 8 := by omega
    subst h8
    obtain ⟨a, cap, hv⟩ := HO.out.form
    subst hv
    have HO2 : Hid (Ow wr w1.heap.size (.slice a (ofL L k).length cap) (ofL L k)) := HO.out
    clear HO hlt hin
    go_wp2
    go_ret2
    exact ⟨⟨a, cap, rfl, HO2.out⟩, HG.out⟩
theorem index46 (f : Nat → Int) (i : Nat) (hi : i < 96) (w : World) : (Instr.index 46 (.agg (ints f 96).toArray) (.int .i64 i)).run Try.prog w = .ok (.int .i64 (f i)) w := by
  have h := ints_at f 96 i hi
  generalize ints f 96 = L at *
  simp [Instr.index, run_underlying Try.underlying46, asIntOf, go_sem, hi, h, i6]
theorem parts_n (w : World) (i k j : Nat) (hi : i < 96) (hk : k = i / 8) (hj : j = i % 8) : Calls Try.prog 27 #[.int .i64 i] w fun e w' => e = .returned (.tuple #[.int .i64 k, .int .i64 j, .nilIface]) ∧ w' = w := by
  refine (parts_in w i (by omega)).mono ?_
  rintro e w' ⟨rfl, rfl⟩
  refine ⟨?_, rfl⟩
  rw [show (i : Int) / 8 = (k : Int) by omega, show (i : Int) % 8 = (j : Int) by omega]
set_option maxHeartbeats 2000000 in
theorem live_any (w : World) (b : Nat) (L : Nat → Int) (h : Mp w b L) : Calls Try.prog 15 #[.pointer (some ⟨b, 0, none⟩)] w fun e w' => e = .returned (.slice (some ⟨w.heap.size, 0, none⟩) 12 12) ∧ IB w' w.heap.size 3 12 (fun k => (lvK L 96 k : Nat)) ∧ Chg (fun _ => False) w w' := by
  have q := eql_nil
  have hm := make12
  have HK0 := hyd (IB.new w 3 12 (fun _ => 0))
  have HG0 : Hid (Chg (fun _ => False) w (w.alloc (.cells (ints (fun _ => 0) 12).toArray 3))) := (Chg.refl _ w).alloc _
  have HK := hyd (h.chg HG0.out (fun f => f))
  have HR : Hid (World.rangeAt (w.alloc (.cells (ints (fun _ => 0) 12).toArray 3)) b 25 (ints (fun q => own L (q : Int)) 96)) := fun j v hv => by
    have hj : j < 96 := by have := (List.getElem?_eq_some_iff.1 hv).1; rwa [ints_length] at this
    rw [(HK.out.owner hj).1, ← hv, ints_at _ _ _ hj]; rfl
  clear h
  go_enter Try.func15, Try.ntmps15
  go_wp2_with (first | (refine wpList_load_mid rfl 46 (.tmp 12) rfl b 25 rfl (ints (fun q => own L (q : Int)) 96) _ ?_ Try.underlying46 rfl ?_ ?_; exact HR.out; rw [ints_length]; exact size46))
  generalize HW : w.alloc (.cells (ints (fun _ => 0) 12).toArray 3) = w0 at *
  generalize HB : w.heap.size = s at *
  have HB := hyd HB
  clear HW hm
  go_loopg [14] 96 (fun kx s14 wr => ∃ i : Nat, s14 = .int .i64 i ∧ i ≤ 96 ∧ 96 - i ≤ kx ∧ Hid (IB wr s 3 12 (fun k => (lvK L i k : Nat))) ∧ Hid (Chg (fun _ => False) w wr))
  case atStart => exact ⟨0, rfl, by omega, by omega, HK0, HG0⟩
  case round =>
  obtain ⟨i, rfl, hin, hkx, HC, HG⟩ := hrel
  clear HK0 HG0 HR HK
  by_cases hlt : i < 96
  · have hltz : (i : Int) < 96 := by omega
    have hix : ∀ w, (Instr.index 46 (.agg (ints (fun q => own L (q : Int)) 96).toArray) (.int .i64 i)).run Try.prog w = .ok (.int .i64 (own L (i : Int))) w := index46 (fun q => own L (q : Int)) i hlt
    obtain ⟨k, hk⟩ : ∃ k, k = i / 8 := ⟨_, rfl⟩
    obtain ⟨j, hj⟩ : ∃ j, j = i % 8 := ⟨_, rfl⟩
    have hpt := parts_n wr i k j hlt hk hj
    have hk12 : k < 12 := by omega
    have hkz : (k : Int) < 12 := by omega
    obtain ⟨c, f⟩ := HC.out.cell k hk12
    have hle := lvK_le L i k
    have HE : Hid (∀ t, lvK L (i + 1) t = lvK L i t + if i / 8 = t ∧ own L (i : Int) ≠ -1 then 1 else 0) := fun _ => rfl
    have HKk := hyd hk
    clear hk hj
    generalize own L (i : Int) = z at *
    by_cases hz : z = -1
    · have HZ := hyd hz
      rw [hz] at hix
      clear hz
      go_wp2_with (go_at_call 27; refine hpt.mono ?_; rintro e w1 ⟨rfl, rfl⟩)
      go_roundg (96 - (i + 1))
      case measure => omega
      case rel =>
        refine ⟨i + 1, by simp, by omega, Nat.le_refl _, ?_, HG⟩
        exact HC.out.congr fun t _ => by rw [HE.out t, if_neg (fun h => h.2 HZ.out)]; rfl
    · have hzb : (z == -1) = false := by simp [hz]
      have HZ := hyd hz
      clear hz
      go_wp2_with (go_at_call 27; refine hpt.mono ?_; rintro e w1 ⟨rfl, rfl⟩)
      go_roundg (96 - (i + 1))
      case measure => omega
      case rel =>
        refine ⟨i + 1, by simp, by omega, Nat.le_refl _, ?_, ?_⟩
        · refine (HC.out.set k ((lvK L i k : Nat) + 1)).congr fun t _ => ?_
          rw [HE.out t]
          by_cases e : t = k
          · rw [e, upd_same, if_pos ⟨HKk.out.symm, HZ.out⟩]; simp
          · rw [upd_other _ _ e, if_neg (fun h => e (by rw [HKk.out, h.1]))]; rfl
        · exact HG.out.setCell (Or.inr (by rw [HB.out]; exact Nat.le_refl _)) _ _
  · have hltz : ¬ (i : Int) < 96 := by omega
    have h96 : i = 96 := by omega
    subst h96
    go_wp2
    go_ret
    exact ⟨rfl, HC.out, HG.out⟩
end Go.Proofs.Ytkddcnbljooidaa
