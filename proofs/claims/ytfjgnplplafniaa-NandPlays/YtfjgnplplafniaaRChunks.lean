/-
  The document's chip: the chunks of an erased block. No condition.
-/
import Derived.Test.YtfjgnplplafniaaRFlip
import Derived.Maps.AppendAt
namespace Go.Proofs.Ytfjgnplplafniaa
open Go.RowKit
set_option maxRecDepth 100000
set_option linter.unusedSimpArgs false

theorem blank_any (w : World) : Calls Try.prog 57 #[] w fun e w' => e = .returned (.slice (some ⟨w.heap.size, 0, none⟩) 64 64) ∧ Arr w' w.heap.size 5 (List.replicate 64 255) ∧ Chg (fun _ => False) w w' := by
  have hmk := make64
  have hA1 : Arr (w.alloc (.cells (bcells z64) 5)) w.heap.size 5 z64 := Arr.new w 5 _
  have hG1 : Chg (fun _ => False) w (w.alloc (.cells (bcells z64) 5)) := (Chg.refl _ _).alloc _
  go_enter Try.func57, Try.ntmps57
  go_wp2_with fail
  clear hmk
  generalize hq : w.heap.size = q at *
  have hqs := Nat.le_of_eq hq
  have HQ := hyd hq
  clear hq
  generalize w.alloc (.cells (bcells z64) 5) = w1 at *
  go_loopw [2] (fun t4 wr => ∃ i : Nat, i ≤ 64 ∧ t4 = .int .i64 i ∧ Arr wr q 5 (List.replicate i 255 ++ List.replicate (64 - i) 0) ∧ Chg (fun _ => False) w wr) (fun t4 _ => 64 - (intOf t4).toNat)
  case atStart => exact ⟨0, by omega, rfl, hA1, hG1⟩
  case round =>
    clear hA1 hG1
    obtain ⟨i, hi, rfl, hA, hG⟩ := hrel
    by_cases hlt : i < 64
    · have hi0 : (0 : Int) ≤ (i : Int) := by omega
      have hi1 : (i : Int) < 64 := by omega
      have c1 := hA.cell i (by simp; omega)
      have f1 := hA.frozen i
      have hA2 := hA.store i 255
      have e : (List.replicate i 255 ++ List.replicate (64 - i) 0).set i 255 = List.replicate (i + 1) 255 ++ List.replicate (64 - (i + 1)) 0 := by
        rw [List.set_append_right _ _ (by simp), List.length_replicate, Nat.sub_self, show 64 - i = (64 - (i + 1)) + 1 from by omega, List.replicate_succ, List.set_cons_zero, List.replicate_succ', List.append_assoc]
        rfl
      rw [e] at hA2
      clear e hA
      have hG2 := hG.setCell (g := q) (Or.inr (by omega)) i (.int .u8 255)
      generalize (List.replicate i 255 ++ List.replicate (64 - i) 0).getD i 0 = u at *
      go_wp2
      exact ⟨⟨i + 1, by omega, by go_num, hA2, hG2⟩, by simp [intOf]; omega⟩
    · have e : i = 64 := by omega
      subst e
      have hA2 : Arr wr q 5 (List.replicate 64 255) := by
        have e : List.replicate 64 255 ++ List.replicate (64 - 64) 0 = List.replicate 64 255 := by rw [Nat.sub_self, List.replicate_zero, List.append_nil]
        rw [e] at hA; exact hA
      clear hA
      go_wp2
      go_ret
      rw [HQ.out]
      exact ⟨rfl, hA2, hG⟩
/-- n lists, one behind the other. -/
def flatV (G : Nat → List Value) : Nat → List Value
  | 0 => []
  | n + 1 => flatV G n ++ G n
theorem flatV_length {G : Nat → List Value} {m : Nat} (n : Nat) (h : ∀ j, j < n → (G j).length = m) : (flatV G n).length = n * m := by
  induction n with
  | zero => simp [flatV]
  | succ n ih => rw [flatV, List.length_append, ih (fun j hj => h j (by omega)), h n (by omega), Nat.succ_mul]
theorem flatV_congr {G G' : Nat → List Value} (n : Nat) (h : ∀ j, j < n → G' j = G j) : flatV G' n = flatV G n := by
  induction n with
  | zero => rfl
  | succ n ih => rw [flatV, flatV, ih (fun j hj => h j (by omega)), h n (by omega)]
theorem flatV_at {G : Nat → List Value} {m : Nat} (n : Nat) (h : ∀ j, j < n → (G j).length = m) (i : Nat) (hi : i < n * m) : (flatV G n).getD i undef = famF m G i := by
  induction n with
  | zero => omega
  | succ n ih =>
    have hl := flatV_length n (fun j hj => h j (Nat.lt_succ_of_lt hj))
    rw [flatV, List.getD_eq_getElem?_getD]
    by_cases hlt : i < n * m
    · rw [List.getElem?_append_left (by omega), ← List.getD_eq_getElem?_getD]
      exact ih (fun j hj => h j (by omega)) hlt
    · rw [List.getElem?_append_right (by omega), hl]
      have e : i / m = n := by
        rw [Nat.succ_mul] at hi
        exact Nat.div_eq_of_lt_le (by omega) (by rw [Nat.succ_mul]; omega)
      have hmod := Nat.div_add_mod i m
      rw [e, Nat.mul_comm] at hmod
      unfold famF
      rw [e, List.getD_eq_getElem?_getD, show i - n * m = i % m from by omega]
theorem rch_length (x : Pc) (k : Chk) : (rch x k).length = 4 := rfl
theorem rch_one (x : Pc) (k : Chk) : ∀ u ∈ rch x k, u.oneCell' = true := by
  intro u hu
  simp only [rch, List.mem_cons, List.not_mem_nil, or_false] at hu
  rcases hu with rfl | rfl | rfl | rfl <;> rfl
theorem info101_all : (Try.prog.info? 101).map (fun i => (i.zero, i.size, i.bytes)) = some (some (.agg #[.slice none 0 0, .slice none 0 0, .bool false, .int .i64 0]), 4, 64) := by kernel_rfl
theorem info101 : ∃ i, Try.prog.info? 101 = some i ∧ i.zero = some (.agg #[.slice none 0 0, .slice none 0 0, .bool false, .int .i64 0]) ∧ i.size = 4 ∧ i.bytes = 64 := by
  have h := info101_all
  cases e : Try.prog.info? 101 with
  | none => rw [e] at h; cases h
  | some i =>
    rw [e] at h
    simp only [Option.map_some, Option.some.injEq, Prod.mk.injEq] at h
    exact ⟨i, rfl, h.1, h.2.1, h.2.2⟩
/-- While a list of chunks is made: i of them. -/
structure Mk (w : World) (base i : Nat) (v : Value) (pc : Nat → Pc) (ch : Nat → Chk) : Prop where
  own : w.ownsRow base 101 4 v i (flatV (fun j => rch (pc j) (ch j)) i)
  now : ∀ j, j < i → By w (pc j).n (ch j).now
  tru : ∀ j, j < i → By w (pc j).t (ch j).tru
  inj : ∀ j, j < i → ∀ k, k < i → (j ≠ k → (pc j).n ≠ (pc k).n) ∧ (pc j).n ≠ (pc k).t
  base : ∀ j, j < i → base ≤ (pc j).n ∧ base ≤ (pc j).t
theorem Mk.start (w : World) (base : Nat) (pc : Nat → Pc) (ch : Nat → Chk) : Mk w base 0 (.slice none 0 0) pc ch :=
  ⟨World.ownsRow_nil w base 101 4, fun j hj => by omega, fun j hj => by omega, fun j hj => by omega, fun j hj => by omega⟩
theorem Mk.lst {w : World} {base i : Nat} {v : Value} {pc : Nat → Pc} {ch : Nat → Chk} (h : Mk w base i v pc ch) (hi : i ≠ 0) : ∃ q cap, v = .slice (some ⟨q, 0, none⟩) i cap ∧ Lst w i q pc ch ∧ ∀ k, InL i q pc k → base ≤ k := by
  obtain ⟨q, cap, h1, h2, h3, h4⟩ := ownsRow_row h.own hi
  refine ⟨q, cap, h1, ⟨?_, h.now, h.tru, h.inj⟩, ?_⟩
  · rw [Nat.mul_comm]
    exact h4.ext fun x hx => flatV_at i (fun j _ => rch_length _ _) x hx
  · rintro k (rfl | ⟨j, hj, rfl | rfl⟩)
    · exact h2
    · exact (h.base j hj).1
    · exact (h.base j hj).2
/-- One more: its bytes are new since the list was looked at; the list grew. -/
theorem Mk.next {w w3 w4 : World} {base i : Nat} {v v' : Value} {pc : Nat → Pc} {ch : Nat → Chk} (h : Mk w base i v pc ch) (x : Pc) (k : Chk) (hk : ch i = k) (hc : Chg (fun _ => False) w w3)
    (hn : By w3 x.n k.now) (ht : By w3 x.t k.tru) (hxn : w.heap.size ≤ x.n) (hxt : w.heap.size ≤ x.t) (hnt : x.n ≠ x.t) (hb : base ≤ w.heap.size)
    (hown : w4.ownsRow base 101 4 v' (i + 1) (flatV (fun j => rch (pc j) (ch j)) i ++ rch x k)) (hg : w3.grownBy w4 v.ownBlock) :
    Mk w4 base (i + 1) v' (fun j => if j = i then x else pc j) ch := by
  have hvb : ∀ g, v.ownBlock = some g → ∃ n f, Row w g 101 n f := by
    intro g e
    rcases h.own.2 with ⟨rfl, _⟩ | ⟨g', cap, cur, rfl, _, hh, _⟩
    · cases e
    · have e2 : g' = g := Option.some.inj e
      subst e2
      exact ⟨0, fun _ => undef, cur, hh, by omega, fun j hj => by omega⟩
  have keep : ∀ (wx : World) (g n : Nat) (f : Nat → Value), Row w3 g 5 n f → Row w4 g 5 n f := by
    intro _ g n f hr
    refine hr.other (hg.block g hr.lt (fun e => ?_))
    obtain ⟨n', f', hr'⟩ := hvb g e.symm
    exact Row.ne (hr'.chg hc (fun f => f)) hr (by decide) rfl
  have e1 : ∀ j, j < i → (if j = i then x else pc j) = pc j := fun j hj => by rw [if_neg (by omega)]
  refine ⟨?_, fun j hj => ?_, fun j hj => ?_, fun j hj l hl => ?_, fun j hj => ?_⟩
  · rw [flatV, if_pos rfl, hk, flatV_congr i (fun j hj => by rw [e1 j hj])]
    exact hown
  · by_cases e : j = i
    · rw [if_pos e, e, hk]; exact keep w _ _ _ hn
    · rw [if_neg e]; exact keep w _ _ _ (Row.chg (h.now j (by omega)) hc (fun f => f))
  · by_cases e : j = i
    · rw [if_pos e, e, hk]; exact keep w _ _ _ ht
    · rw [if_neg e]; exact keep w _ _ _ (Row.chg (h.tru j (by omega)) hc (fun f => f))
  · by_cases e : j = i
    · by_cases e2 : l = i
      · rw [if_pos e, if_pos e2]; exact ⟨fun hh => absurd (e.trans e2.symm) hh, hnt⟩
      · rw [if_pos e, if_neg e2]
        have a1 := Row.lt (h.now l (by omega))
        have a2 := Row.lt (h.tru l (by omega))
        exact ⟨fun _ => by omega, by omega⟩
    · by_cases e2 : l = i
      · rw [if_neg e, if_pos e2]
        have a1 := Row.lt (h.now j (by omega))
        exact ⟨fun _ => by omega, by omega⟩
      · rw [if_neg e, if_neg e2]
        exact h.inj j (by omega) l (by omega)
  · by_cases e : j = i
    · rw [if_pos e]; exact ⟨by omega, by omega⟩
    · rw [if_neg e]; exact h.base j (by omega)
theorem ownsRow_chg {S : Nat → Prop} {w w' : World} {base : Nat} {e : TypeId} {size : Nat} {v : Value} {n : Nat} {xs : List Value} (h : w.ownsRow base e size v n xs) (hc : Chg S w w') (hs : ∀ k, v.ownBlock = some k → ¬ S k) : w'.ownsRow base e size v n xs := by
  refine ⟨h.1, ?_⟩
  rcases h.2 with h1 | ⟨g, cap, cur, rfl, hb, hh, r⟩
  · exact Or.inl h1
  · exact Or.inr ⟨g, cap, cur, rfl, hb, (hc.block g (Array.getElem?_eq_some_iff.1 hh).1 (hs g rfl)).trans hh, r⟩
theorem cells_new (w : World) (l : List Value) (t : TypeId) : ∀ j u, l[j]? = some u → (w.alloc (.cells l.toArray t)).cell? ((⟨w.heap.size, 0, none⟩ : Addr).add j) = some u := by
  intro j u hu
  rw [Addr.add_mid, Nat.zero_add, cell_of_row _ _ _ _ _ _ (heap_alloc_new w (.cells l.toArray t))]
  simpa using hu
set_option maxHeartbeats 2000000 in
theorem chunks_any (w : World) : Calls Try.prog 25 #[] w fun e w' => ∃ q cap pc, e = .returned (.slice (some ⟨q, 0, none⟩) 32 cap) ∧ Lst w' 32 q pc (fun _ => newK) ∧ (∀ k, InL 32 q pc k → w.heap.size ≤ k) ∧ Chg (fun _ => False) w w' := by
  obtain ⟨i101, p1, p2, p3, p4⟩ := info101
  go_enter Try.func25, Try.ntmps25
  go_wp2
  go_loopw [1, 2] (fun t1 t2 wr => ∃ (i : Nat) (pc : Nat → Pc), i ≤ 32 ∧ t2 = .int .i64 i ∧ Mk wr w.heap.size i t1 pc (fun _ => newK) ∧ Chg (fun _ => False) w wr) (fun _ t2 _ => 32 - (intOf t2).toNat)
  case atStart => exact ⟨0, fun _ => ⟨0, 0, 0, 0⟩, by omega, rfl, Mk.start _ _ _ _, Chg.refl _ _⟩
  case round =>
    obtain ⟨i, pc, hi, rfl, hM, hG⟩ := hrel
    by_cases hlt : i < 32
    · have hi0 : (0 : Int) ≤ (i : Int) := by omega
      have hi1 : (i : Int) < 32 := by omega
      go_wp2_with fail
      refine (blank_any _).mono ?_
      rintro e w1 ⟨rfl, hA1, hG1⟩
      go_wp2_with fail
      refine (blank_any _).mono ?_
      rintro e w2 ⟨rfl, hA2, hG2⟩
      have hs1 := hA1.lt
      have hs2 := hA2.lt
      have hz1 := hG1.size
      have hz0 := hG.size
      have hn1 := (Arr.by (hA1.chg hG2 (fun f => f))).alloc (.cells (rch ⟨wr.heap.size, 64, w1.heap.size, 64⟩ newK).toArray 101)
      have hn2 := (Arr.by hA2).alloc (.cells (rch ⟨wr.heap.size, 64, w1.heap.size, 64⟩ newK).toArray 101)
      have hG3 : Chg (fun _ => False) wr (w2.alloc (.cells (rch ⟨wr.heap.size, 64, w1.heap.size, 64⟩ newK).toArray 101)) := Chg.alloc (hG1.trans hG2) _
      have hown := ownsRow_chg hM.own hG3 (fun _ _ f => f)
      have hcl := cells_new w2 (rch ⟨wr.heap.size, 64, w1.heap.size, 64⟩ newK) 101
      have hG3' : Chg (fun _ => False) w (w2.alloc (.cells (rch ⟨wr.heap.size, 64, w1.heap.size, 64⟩ newK).toArray 101)) := hG.trans hG3
      have hbase := hG3'.size
      have HW3 : Hid (w2.alloc (.cells #[.slice (some ⟨wr.heap.size, 0, none⟩) 64 64, .slice (some ⟨w1.heap.size, 0, none⟩) 64 64, .bool false, .int .i64 0] 101) = w2.alloc (.cells (rch ⟨wr.heap.size, 64, w1.heap.size, 64⟩ newK).toArray 101)) := rfl
      generalize w2.alloc (.cells (rch ⟨wr.heap.size, 64, w1.heap.size, 64⟩ newK).toArray 101) = w3 at *
      have HO := hyd hown
      have HCL := hyd hcl
      have HX := hyd (rch_one ⟨wr.heap.size, 64, w1.heap.size, 64⟩ newK)
      have HL : Hid ((rch ⟨wr.heap.size, 64, w1.heap.size, 64⟩ newK).length = 1 * 4) := rfl
      have HMk := hyd hM
      have hl12 : wr.heap.size ≠ w1.heap.size := by omega
      clear hown hcl hM hA1 hA2 hG1 hG2
      go_wp2_with (first | rw [HW3.out] | (at_builtin; refine wpList_append_own_at _ rfl (.tmp 7) (.tmp 11) 78 rfl w.heap.size 101 i101 _ 4 64 Try.underlying78 p1 p2 p3 p4 rfl (by decide) _ i _ rfl HO.out ⟨w2.heap.size, 0, none⟩ 1 1 (rch ⟨wr.heap.size, 64, w1.heap.size, 64⟩ newK) rfl HL.out HCL.out HX.out (by unfold maxLen; omega) (by omega) hbase ?_))
      intro v' w4 hO4 hg4 hnil4 hat4
      have hM2 := HMk.out.next ⟨wr.heap.size, 64, w1.heap.size, 64⟩ newK rfl hG3 hn1 hn2 (Nat.le_refl _) hz1 hl12 hz0 hO4 hg4
      have hG4 : Chg (fun _ => False) w w4 := hG3'.grown hg4 (fun k hk => Or.inr (by
        rcases HMk.out.own.2 with ⟨e, _⟩ | ⟨g', cap', cur', e, hb', _⟩
        · rw [e] at hk; cases hk
        · rw [e] at hk; have e2 : g' = k := Option.some.inj hk; omega))
      clear HO HCL HX HL HMk hn1 hn2 hG3 hG3' hO4 hg4 hnil4 hat4
      go_wp2
      exact ⟨⟨i + 1, _, by omega, by go_num, hM2, hG4⟩, by simp [intOf]; omega⟩
    · have e : i = 32 := by omega
      subst e
      obtain ⟨q, cap, rfl, hL, hI⟩ := hM.lst (by decide)
      clear hM
      go_wp2
      go_ret
      exact ⟨q, cap, pc, rfl, hL, hI, hG⟩
end Go.Proofs.Ytfjgnplplafniaa
