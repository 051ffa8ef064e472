/-
  The document's chip: the chunks of an erased block. No condition. The document's chip: Erase. Condition: the block holds the document's chip. The document's chip: New. No condition.
-/
import Derived.Test.YtifjmilegogbaaaGreatURRead
import Derived.Maps.AppendAt
import Derived.Test.YtifjmilegogbaaaGreatURWrite
import Derived.Deep.AppendLies
import Derived.Deep.RegionLaw
namespace Go.Proofs.YtifjmilegogbaaaGreat
open Go.RowKit
set_option maxRecDepth 100000
set_option linter.unusedSimpArgs false

theorem blank_any (w : World) : Calls Tryz.prog 85 #[] w fun e w' => e = .returned (.slice (some ⟨w.heap.size, 0, none⟩) 64 64) ∧ Arr w' w.heap.size 5 (List.replicate 64 255) ∧ Chg (fun _ => False) w w' := by
  have hmk := nmake64
  have hA1 : Arr (w.alloc (.cells (bcells nz64) 5)) w.heap.size 5 nz64 := Arr.new w 5 _
  have hG1 : Chg (fun _ => False) w (w.alloc (.cells (bcells nz64) 5)) := (Chg.refl _ _).alloc _
  go_enter Tryz.func85, Tryz.ntmps85
  go_wp2_with fail
  clear hmk
  generalize hq : w.heap.size = q at *
  have hqs := Nat.le_of_eq hq
  have HQ := hyd hq
  clear hq
  generalize w.alloc (.cells (bcells nz64) 5) = w1 at *
  go_loopw [2] (fun t4 wr => ∃ i : Nat, i ≤ 64 ∧ t4 = .int .i64 i ∧ Arr wr q 5 (List.replicate i 255 ++ List.replicate (64 - i) 0) ∧ Chg (fun _ => False) w wr) (fun t4 _ => 64 - (intOf t4).toNat)
  case atStart => exact ⟨0, by omega, rfl, hA1, hG1⟩
  case round =>
    clear hA1 hG1
    obtain ⟨i, hi, rfl, hA, hG⟩ := hrel
    by_cases hlt : i < 64
    · have hi0 : (0 : Int) ≤ (i : Int) := by omega
      have hi1 : (i : Int) < 64 := by omega
      have c1 := hA.cell i (by simp; omega)
      have f1 := hA.frozen i
      have hA2 := hA.store i 255
      have e : (List.replicate i 255 ++ List.replicate (64 - i) 0).set i 255 = List.replicate (i + 1) 255 ++ List.replicate (64 - (i + 1)) 0 := by
        rw [List.set_append_right _ _ (by simp), List.length_replicate, Nat.sub_self, show 64 - i = (64 - (i + 1)) + 1 from by omega, List.replicate_succ, List.set_cons_zero, List.replicate_succ', List.append_assoc]
        rfl
      rw [e] at hA2
      clear e hA
      have hG2 := hG.setCell (g := q) (Or.inr (by omega)) i (.int .u8 255)
      generalize (List.replicate i 255 ++ List.replicate (64 - i) 0).getD i 0 = u at *
      go_wp2
      exact ⟨⟨i + 1, by omega, by go_num, hA2, hG2⟩, by simp [intOf]; omega⟩
    · have e : i = 64 := by omega
      subst e
      have hA2 : Arr wr q 5 (List.replicate 64 255) := by
        have e : List.replicate 64 255 ++ List.replicate (64 - 64) 0 = List.replicate 64 255 := by rw [Nat.sub_self, List.replicate_zero, List.append_nil]
        rw [e] at hA; exact hA
      clear hA
      go_wp2
      go_ret
      rw [HQ.out]
      exact ⟨rfl, hA2, hG⟩
/-- n lists, one behind the other. -/
def flatV (G : Nat → List Value) : Nat → List Value
  | 0 => []
  | n + 1 => flatV G n ++ G n
theorem flatV_length {G : Nat → List Value} {m : Nat} (n : Nat) (h : ∀ j, j < n → (G j).length = m) : (flatV G n).length = n * m := by
  induction n with
  | zero => simp [flatV]
  | succ n ih => rw [flatV, List.length_append, ih (fun j hj => h j (by omega)), h n (by omega), Nat.succ_mul]
theorem flatV_congr {G G' : Nat → List Value} (n : Nat) (h : ∀ j, j < n → G' j = G j) : flatV G' n = flatV G n := by
  induction n with
  | zero => rfl
  | succ n ih => rw [flatV, flatV, ih (fun j hj => h j (by omega)), h n (by omega)]
theorem flatV_at {G : Nat → List Value} {m : Nat} (n : Nat) (h : ∀ j, j < n → (G j).length = m) (i : Nat) (hi : i < n * m) : (flatV G n).getD i undef = famF m G i := by
  induction n with
  | zero => omega
  | succ n ih =>
    have hl := flatV_length n (fun j hj => h j (Nat.lt_succ_of_lt hj))
    rw [flatV, List.getD_eq_getElem?_getD]
    by_cases hlt : i < n * m
    · rw [List.getElem?_append_left (by omega), ← List.getD_eq_getElem?_getD]
      exact ih (fun j hj => h j (by omega)) hlt
    · rw [List.getElem?_append_right (by omega), hl]
      have e : i / m = n := by
        rw [Nat.succ_mul] at hi
        exact Nat.div_eq_of_lt_le (by omega) (by rw [Nat.succ_mul]; omega)
      have hmod := Nat.div_add_mod i m
      rw [e, Nat.mul_comm] at hmod
      unfold famF
      rw [e, List.getD_eq_getElem?_getD, show i - n * m = i % m from by omega]
theorem rch_length (x : Pc) (k : Chk) : (rch x k).length = 4 := rfl
theorem rch_one (x : Pc) (k : Chk) : ∀ u ∈ rch x k, u.oneCell' = true := by
  intro u hu
  simp only [rch, List.mem_cons, List.not_mem_nil, or_false] at hu
  rcases hu with rfl | rfl | rfl | rfl <;> rfl
theorem info101_all : (Tryz.prog.info? 159).map (fun i => (i.zero, i.size, i.bytes)) = some (some (.agg #[.slice none 0 0, .slice none 0 0, .bool false, .int .i64 0]), 4, 64) := by kernel_rfl
theorem info101 : ∃ i, Tryz.prog.info? 159 = some i ∧ i.zero = some (.agg #[.slice none 0 0, .slice none 0 0, .bool false, .int .i64 0]) ∧ i.size = 4 ∧ i.bytes = 64 := by
  have h := info101_all
  cases e : Tryz.prog.info? 159 with
  | none => rw [e] at h; cases h
  | some i =>
    rw [e] at h
    simp only [Option.map_some, Option.some.injEq, Prod.mk.injEq] at h
    exact ⟨i, rfl, h.1, h.2.1, h.2.2⟩
/-- While a list of chunks is made: i of them. -/
structure Mk (w : World) (base i : Nat) (v : Value) (pc : Nat → Pc) (ch : Nat → Chk) : Prop where
  own : w.ownsRow base 159 4 v i (flatV (fun j => rch (pc j) (ch j)) i)
  now : ∀ j, j < i → By w (pc j).n (ch j).now
  tru : ∀ j, j < i → By w (pc j).t (ch j).tru
  inj : ∀ j, j < i → ∀ k, k < i → (j ≠ k → (pc j).n ≠ (pc k).n) ∧ (pc j).n ≠ (pc k).t
  base : ∀ j, j < i → base ≤ (pc j).n ∧ base ≤ (pc j).t
theorem Mk.start (w : World) (base : Nat) (pc : Nat → Pc) (ch : Nat → Chk) : Mk w base 0 (.slice none 0 0) pc ch :=
  ⟨World.ownsRow_nil w base 159 4, fun j hj => by omega, fun j hj => by omega, fun j hj => by omega, fun j hj => by omega⟩
theorem Mk.lst {w : World} {base i : Nat} {v : Value} {pc : Nat → Pc} {ch : Nat → Chk} (h : Mk w base i v pc ch) (hi : i ≠ 0) : ∃ q cap, v = .slice (some ⟨q, 0, none⟩) i cap ∧ Lst w i q pc ch ∧ ∀ k, InL i q pc k → base ≤ k := by
  obtain ⟨q, cap, h1, h2, h3, h4⟩ := ownsRow_row h.own hi
  refine ⟨q, cap, h1, ⟨?_, h.now, h.tru, h.inj⟩, ?_⟩
  · rw [Nat.mul_comm]
    exact h4.ext fun x hx => flatV_at i (fun j _ => rch_length _ _) x hx
  · rintro k (rfl | ⟨j, hj, rfl | rfl⟩)
    · exact h2
    · exact (h.base j hj).1
    · exact (h.base j hj).2
/-- One more: its bytes are new since the list was looked at; the list grew. -/
theorem Mk.next {w w3 w4 : World} {base i : Nat} {v v' : Value} {pc : Nat → Pc} {ch : Nat → Chk} (h : Mk w base i v pc ch) (x : Pc) (k : Chk) (hk : ch i = k) (hc : Chg (fun _ => False) w w3)
    (hn : By w3 x.n k.now) (ht : By w3 x.t k.tru) (hxn : w.heap.size ≤ x.n) (hxt : w.heap.size ≤ x.t) (hnt : x.n ≠ x.t) (hb : base ≤ w.heap.size)
    (hown : w4.ownsRow base 159 4 v' (i + 1) (flatV (fun j => rch (pc j) (ch j)) i ++ rch x k)) (hg : w3.grownBy w4 v.ownBlock) :
    Mk w4 base (i + 1) v' (fun j => if j = i then x else pc j) ch := by
  have hvb : ∀ g, v.ownBlock = some g → ∃ n f, Row w g 159 n f := by
    intro g e
    rcases h.own.2 with ⟨rfl, _⟩ | ⟨g', cap, cur, rfl, _, hh, _⟩
    · cases e
    · have e2 : g' = g := Option.some.inj e
      subst e2
      exact ⟨0, fun _ => undef, cur, hh, by omega, fun j hj => by omega⟩
  have keep : ∀ (wx : World) (g n : Nat) (f : Nat → Value), Row w3 g 5 n f → Row w4 g 5 n f := by
    intro _ g n f hr
    refine hr.other (hg.block g hr.lt (fun e => ?_))
    obtain ⟨n', f', hr'⟩ := hvb g e.symm
    exact Row.ne (hr'.chg hc (fun f => f)) hr (by decide) rfl
  have e1 : ∀ j, j < i → (if j = i then x else pc j) = pc j := fun j hj => by rw [if_neg (by omega)]
  refine ⟨?_, fun j hj => ?_, fun j hj => ?_, fun j hj l hl => ?_, fun j hj => ?_⟩
  · rw [flatV, if_pos rfl, hk, flatV_congr i (fun j hj => by rw [e1 j hj])]
    exact hown
  · by_cases e : j = i
    · rw [if_pos e, e, hk]; exact keep w _ _ _ hn
    · rw [if_neg e]; exact keep w _ _ _ (Row.chg (h.now j (by omega)) hc (fun f => f))
  · by_cases e : j = i
    · rw [if_pos e, e, hk]; exact keep w _ _ _ ht
    · rw [if_neg e]; exact keep w _ _ _ (Row.chg (h.tru j (by omega)) hc (fun f => f))
  · by_cases e : j = i
    · by_cases e2 : l = i
      · rw [if_pos e, if_pos e2]; exact ⟨fun hh => absurd (e.trans e2.symm) hh, hnt⟩
      · rw [if_pos e, if_neg e2]
        have a1 := Row.lt (h.now l (by omega))
        have a2 := Row.lt (h.tru l (by omega))
        exact ⟨fun _ => by omega, by omega⟩
    · by_cases e2 : l = i
      · rw [if_neg e, if_pos e2]
        have a1 := Row.lt (h.now j (by omega))
        exact ⟨fun _ => by omega, by omega⟩
      · rw [if_neg e, if_neg e2]
        exact h.inj j (by omega) l (by omega)
  · by_cases e : j = i
    · rw [if_pos e]; exact ⟨by omega, by omega⟩
    · rw [if_neg e]; exact h.base j (by omega)
theorem ownsRow_chg {S : Nat → Prop} {w w' : World} {base : Nat} {e : TypeId} {size : Nat} {v : Value} {n : Nat} {xs : List Value} (h : w.ownsRow base e size v n xs) (hc : Chg S w w') (hs : ∀ k, v.ownBlock = some k → ¬ S k) : w'.ownsRow base e size v n xs := by
  refine ⟨h.1, ?_⟩
  rcases h.2 with h1 | ⟨g, cap, cur, rfl, hb, hh, r⟩
  · exact Or.inl h1
  · exact Or.inr ⟨g, cap, cur, rfl, hb, (hc.block g (Array.getElem?_eq_some_iff.1 hh).1 (hs g rfl)).trans hh, r⟩
theorem cells_new (w : World) (l : List Value) (t : TypeId) : ∀ j u, l[j]? = some u → (w.alloc (.cells l.toArray t)).cell? ((⟨w.heap.size, 0, none⟩ : Addr).add j) = some u := by
  intro j u hu
  rw [Addr.add_mid, Nat.zero_add, cell_of_row _ _ _ _ _ _ (heap_alloc_new w (.cells l.toArray t))]
  simpa using hu
set_option maxHeartbeats 2000000 in
theorem chunks_any (w : World) : Calls Tryz.prog 57 #[] w fun e w' => ∃ q cap pc, e = .returned (.slice (some ⟨q, 0, none⟩) 32 cap) ∧ Lst w' 32 q pc (fun _ => newK) ∧ (∀ k, InL 32 q pc k → w.heap.size ≤ k) ∧ Chg (fun _ => False) w w' := by
  obtain ⟨i101, p1, p2, p3, p4⟩ := info101
  go_enter Tryz.func57, Tryz.ntmps57
  go_wp2
  go_loopw [1, 2] (fun t1 t2 wr => ∃ (i : Nat) (pc : Nat → Pc), i ≤ 32 ∧ t2 = .int .i64 i ∧ Mk wr w.heap.size i t1 pc (fun _ => newK) ∧ Chg (fun _ => False) w wr) (fun _ t2 _ => 32 - (intOf t2).toNat)
  case atStart => exact ⟨0, fun _ => ⟨0, 0, 0, 0⟩, by omega, rfl, Mk.start _ _ _ _, Chg.refl _ _⟩
  case round =>
    obtain ⟨i, pc, hi, rfl, hM, hG⟩ := hrel
    by_cases hlt : i < 32
    · have hi0 : (0 : Int) ≤ (i : Int) := by omega
      have hi1 : (i : Int) < 32 := by omega
      go_wp2_with fail
      refine (blank_any _).mono ?_
      rintro e w1 ⟨rfl, hA1, hG1⟩
      go_wp2_with fail
      refine (blank_any _).mono ?_
      rintro e w2 ⟨rfl, hA2, hG2⟩
      have hs1 := hA1.lt
      have hs2 := hA2.lt
      have hz1 := hG1.size
      have hz0 := hG.size
      have hn1 := (Arr.by (hA1.chg hG2 (fun f => f))).alloc (.cells (rch ⟨wr.heap.size, 64, w1.heap.size, 64⟩ newK).toArray 159)
      have hn2 := (Arr.by hA2).alloc (.cells (rch ⟨wr.heap.size, 64, w1.heap.size, 64⟩ newK).toArray 159)
      have hG3 : Chg (fun _ => False) wr (w2.alloc (.cells (rch ⟨wr.heap.size, 64, w1.heap.size, 64⟩ newK).toArray 159)) := Chg.alloc (hG1.trans hG2) _
      have hown := ownsRow_chg hM.own hG3 (fun _ _ f => f)
      have hcl := cells_new w2 (rch ⟨wr.heap.size, 64, w1.heap.size, 64⟩ newK) 159
      have hG3' : Chg (fun _ => False) w (w2.alloc (.cells (rch ⟨wr.heap.size, 64, w1.heap.size, 64⟩ newK).toArray 159)) := hG.trans hG3
      have hbase := hG3'.size
      have HW3 : Hid (w2.alloc (.cells #[.slice (some ⟨wr.heap.size, 0, none⟩) 64 64, .slice (some ⟨w1.heap.size, 0, none⟩) 64 64, .bool false, .int .i64 0] 159) = w2.alloc (.cells (rch ⟨wr.heap.size, 64, w1.heap.size, 64⟩ newK).toArray 159)) := rfl
      generalize w2.alloc (.cells (rch ⟨wr.heap.size, 64, w1.heap.size, 64⟩ newK).toArray 159) = w3 at *
      have HO := hyd hown
      have HCL := hyd hcl
      have HX := hyd (rch_one ⟨wr.heap.size, 64, w1.heap.size, 64⟩ newK)
      have HL : Hid ((rch ⟨wr.heap.size, 64, w1.heap.size, 64⟩ newK).length = 1 * 4) := rfl
      have HMk := hyd hM
      have hl12 : wr.heap.size ≠ w1.heap.size := by omega
      clear hown hcl hM hA1 hA2 hG1 hG2
      go_wp2_with (first | rw [HW3.out] | (at_builtin; refine wpList_append_own_at _ rfl (.tmp 7) (.tmp 11) 110 rfl w.heap.size 159 i101 _ 4 64 Tryz.underlying110 p1 p2 p3 p4 rfl (by decide) _ i _ rfl HO.out ⟨w2.heap.size, 0, none⟩ 1 1 (rch ⟨wr.heap.size, 64, w1.heap.size, 64⟩ newK) rfl HL.out HCL.out HX.out (by unfold maxLen; omega) (by omega) hbase ?_))
      intro v' w4 hO4 hg4 hnil4 hat4
      have hM2 := HMk.out.next ⟨wr.heap.size, 64, w1.heap.size, 64⟩ newK rfl hG3 hn1 hn2 (Nat.le_refl _) hz1 hl12 hz0 hO4 hg4
      have hG4 : Chg (fun _ => False) w w4 := hG3'.grown hg4 (fun k hk => Or.inr (by
        rcases HMk.out.own.2 with ⟨e, _⟩ | ⟨g', cap', cur', e, hb', _⟩
        · rw [e] at hk; cases hk
        · rw [e] at hk; have e2 : g' = k := Option.some.inj hk; omega))
      clear HO HCL HX HL HMk hn1 hn2 hG3 hG3' hO4 hg4 hnil4 hat4
      go_wp2
      exact ⟨⟨i + 1, _, by omega, by go_num, hM2, hG4⟩, by simp [intOf]; omega⟩
    · have e : i = 32 := by omega
      subst e
      obtain ⟨q, cap, rfl, hL, hI⟩ := hM.lst (by decide)
      clear hM
      go_wp2
      go_ret
      exact ⟨q, cap, pc, rfl, hL, hI, hG⟩
end Go.Proofs.YtifjmilegogbaaaGreat
namespace Go.Proofs.YtifjmilegogbaaaGreat
open Go.RowKit
set_option maxRecDepth 100000
set_option linter.unusedSimpArgs false

theorem failE_self {x : Blo} (h : x.ef = false) : failE x = x := by
  cases x
  simp only at h
  subst h
  simp [failE]
/-- Another list of chunks in block b, and no reads. -/
theorem erase_done {w w3 : World} {r : Nat} {s : Chp} {F : Nat → Prop} {p : Plc} (w0 : World) (h : RAt w3 r s F p) (b : Nat) (q cap : Nat) (pc : Nat → Pc) (hL : Lst w3 32 q pc (fun _ => newK)) (hI : ∀ k, InL 32 q pc k → w.heap.size ≤ k)
    (hold : ∀ c, c < 12 → ∀ k, InL 32 (p.gL c) (p.pc c) k → k < w.heap.size) (hw0 : w0.heap.size ≤ w.heap.size) :
    RefAt ((w3.setCell ⟨p.gB, b * 5, none⟩ (.slice (some ⟨q, 0, none⟩) 32 cap)).setCell ⟨p.gB, b * 5 + 1, none⟩ (.int .i64 0)) r (erS s b) (grow F w0 ((w3.setCell ⟨p.gB, b * 5, none⟩ (.slice (some ⟨q, 0, none⟩) 32 cap)).setCell ⟨p.gB, b * 5 + 1, none⟩ (.int .i64 0))) := by
  have hz : ((w3.setCell ⟨p.gB, b * 5, none⟩ (.slice (some ⟨q, 0, none⟩) 32 cap)).setCell ⟨p.gB, b * 5 + 1, none⟩ (.int .i64 0)).heap.size = w3.heap.size := by rw [size_set, size_set]
  have hgb : ∀ k, InL 32 q pc k → k ≠ p.gB := by
    intro k hk
    rcases hL.type hk with ⟨n, f, h1⟩ | ⟨n, f, h1⟩
    · exact h1.ne h.bl (by decide)
    · exact h1.ne h.bl (by decide)
  have t1 : Row (w3.setCell ⟨p.gB, b * 5, none⟩ (.slice (some ⟨q, 0, none⟩) 32 cap)) p.gB 112 60 (famF 5 (rbl (p.setL b q cap pc) { s with ch := (erS s b).ch })) := by
    rw [show b * 5 = 5 * b + 0 from by omega]
    refine (h.bl.setCell (5 * b + 0) _).ext fun i _ => fam_set 5 (by omega) _ _ b 0 (by omega) _ (fun c hc => ?_) ?_ rfl i
    · simp only [rbl, Plc.setL, if_neg hc]
    · simp only [rbl, Plc.setL, if_pos, List.set_cons_zero]
  have hc1 : Chg (· = p.gB) w3 (w3.setCell ⟨p.gB, b * 5, none⟩ (.slice (some ⟨q, 0, none⟩) 32 cap)) := Chg.r1 _ _ _
  have R1 : RAt (w3.setCell ⟨p.gB, b * 5, none⟩ (.slice (some ⟨q, 0, none⟩) 32 cap)) r { s with ch := (erS s b).ch } (grow F w0 ((w3.setCell ⟨p.gB, b * 5, none⟩ (.slice (some ⟨q, 0, none⟩) 32 cap)).setCell ⟨p.gB, b * 5 + 1, none⟩ (.int .i64 0))) (p.setL b q cap pc) := by
    refine h.setLst b q cap pc (erS s b).ch (fun c hc hne j hj => ?_) ((hL.chg hc1 hgb).congr fun j hj => ?_) t1 hc1 h.rb (fun c hc hne k hk => h.bL c hc k hk) (fun k hk => Or.inl hk) (fun k hk => Or.inr ⟨?_, ?_⟩) (fun c hc hne k hk hk2 => ?_)
    · show (if 32 * b ≤ 32 * c + j ∧ 32 * c + j < 32 * b + 32 then newK else s.ch (32 * c + j)) = _
      rw [if_neg (by omega)]
    · show (if 32 * b ≤ 32 * b + j ∧ 32 * b + j < 32 * b + 32 then newK else s.ch (32 * b + j)) = _
      rw [if_pos (by omega)]
    · have := hI k hk; omega
    · rw [hz]; exact hL.lt hk
    · have a1 := hI k hk
      have a2 := hold c hc k hk2
      omega
  have t2 := bl_set R1.bl b { s.bl b with reads := 0 } (p.wh b) 1 (.int .i64 0) (by omega) (by simp only [rbl, List.set_cons_succ, List.set_cons_zero]; rfl)
  exact ⟨_, R1.setBlk b { s.bl b with reads := 0 } (p.wh b) (R1.rel.setBl b _ _ (fun e => h.rel.wh b e) (h.rel.whLo b) (h.rel.whHi b)) t2 (Chg.r1 _ _ _)⟩
set_option maxHeartbeats 4000000 in
theorem rerase_late (r : Nat) (s : Chp) (hs : s.Ok) (F : Nat → Prop) (p : Plc) (n : Nat) (hn : n < 12) (w : World) (h : RAt w r s F p) (hon : s.on = true) (hc : ¬ (s.lim = true ∧ s.bud = 0)) :
    Calls Tryz.prog 42 #[.pointer (some ⟨r, 0, none⟩), .int .i64 n] w fun e w' =>
      ((failE (s.bl n)).failed = true ∧ e = .returned (.int .i64 8) ∧ RefAt w' r ((goS s).setBl n (failE (s.bl n))) F ∧ Chg F w w') ∨
      ((failE (s.bl n)).failed = false ∧ e = .returned (.int .i64 0) ∧ RefAt w' r (erS ((goS s).setBl n (failE (s.bl n))) n) (grow F w w') ∧ Chg F w w') := by
  have hb0 : (0 : Int) ≤ (n : Int) := by omega
  have hb1 : (n : Int) < 12 := by omega
  have c1 := h.cOn
  rw [hon] at c1
  have HS := hyd (rstep_go r s hs F p w h hon hc)
  clear hon hc h
  go_enter Tryz.func42, Tryz.ntmps42
  go_wp2_with fail
  refine (isBlock_yes (n : Int) hb0 hb1 _).mono ?_
  rintro e w' ⟨rfl, rfl⟩
  go_wp2_with fail
  refine HS.out.mono ?_
  rintro e w2 ⟨rfl, ⟨bu, h2⟩, hG2⟩
  clear HS c1
  have d0 := h2.cB
  simp only at d0
  have d2 : w2.cell? ⟨p.gB, n * 5 + 2, none⟩ = some (.bool (s.bl n).failed) := h2.bl0 n hn 2 (by omega)
  have d4 : w2.cell? ⟨p.gB, n * 5 + 4, none⟩ = some (.bool (s.bl n).ef) := h2.bl0 n hn 4 (by omega)
  have f2 : w2.frozen? ⟨p.gB, n * 5 + 2, none⟩ = false := h2.bl.frozen (n * 5 + 2)
  have hFb : F p.gB := h2.fb
  cases hef : (s.bl n).ef with
  | true =>
    rw [hef] at d4
    have hf : (failE (s.bl n)).failed = true := by simp [failE, hef]
    have t := bl_set h2.bl n (failE (s.bl n)) (p.wh n) 2 (.bool true) (by omega) (by rw [hf]; rfl)
    have hR := h2.setBlk n (failE (s.bl n)) (p.wh n) (h2.rel.setBl n _ _ (fun e => absurd (hf.symm.trans e) (by simp)) (h2.rel.whLo n) (h2.rel.whHi n)) t (Chg.r1 _ _ _)
    have hGF : Chg F w' (w2.setCell ⟨p.gB, n * 5 + 2, none⟩ (.bool true)) := hG2.setCell (Or.inl hFb) _ _
    have hR2 : RefAt (w2.setCell ⟨p.gB, n * 5 + 2, none⟩ (.bool true)) r ((goS s).setBl n (failE (s.bl n))) F := ⟨_, hR⟩
    have HF := hyd hf
    clear hf t hR h2 hef
    go_wp2
    go_ret
    exact Or.inl ⟨HF.out, rfl, hR2, hGF⟩
  | false =>
    rw [hef] at d4
    have hself := failE_self hef
    have e1 : (goS s).setBl n (s.bl n) = goS s := setBl_self (goS s) n
    cases hfa : (s.bl n).failed with
    | true =>
      rw [hfa] at d2
      have HF : Hid ((failE (s.bl n)).failed = true) := by rw [hself]; exact hfa
      have hR2 : RefAt w2 r ((goS s).setBl n (failE (s.bl n))) F := by rw [hself, e1]; exact ⟨_, h2⟩
      clear hself e1 hfa hef h2
      go_wp2
      go_ret
      exact Or.inl ⟨HF.out, rfl, hR2, hG2⟩
    | false =>
      rw [hfa] at d2
      have HF : Hid ((failE (s.bl n)).failed = false) := by rw [hself]; exact hfa
      have HX : Hid ((goS s).setBl n (failE (s.bl n)) = goS s) := by rw [hself]; exact e1
      clear hself e1 hfa hef
      have hz2 := hG2.size
      go_wp2_with fail
      refine (chunks_any w2).mono ?_
      rintro e w3 ⟨q, cap, pc, rfl, hL, hI, hG3⟩
      have h3 := h2.chg hG3 (fun _ _ f => f)
      have hold2 : ∀ c, c < 12 → ∀ k, InL 32 (p.gL c) (p.pc c) k → k < w2.heap.size := fun c hc k hk => (h2.lst c hc).lt hk
      have hR := erase_done w' h3 n q cap pc hL hI hold2 hz2
      rw [← HX.out] at hR
      have e0 : w3.cell? ⟨p.gB, n * 5, none⟩ = some (.slice (some ⟨p.gL n, 0, none⟩) 32 (p.cL n)) := h3.bl0 n hn 0 (by omega)
      have e1 : w3.cell? ⟨p.gB, n * 5 + 1, none⟩ = some (.int .i64 (s.bl n).reads) := h3.bl0 n hn 1 (by omega)
      have g0 : w3.frozen? ⟨p.gB, n * 5, none⟩ = false := h3.bl.frozen (n * 5)
      have g1 : w3.frozen? ⟨p.gB, n * 5 + 1, none⟩ = false := h3.bl.frozen (n * 5 + 1)
      have hG4 : Chg F w' w3 := hG2.trans' hG3 (fun i _ f => f.elim)
      have hG5 : Chg F w' ((w3.setCell ⟨p.gB, n * 5, none⟩ (.slice (some ⟨q, 0, none⟩) 32 cap)).setCell ⟨p.gB, n * 5 + 1, none⟩ (.int .i64 0)) := (hG4.setCell (Or.inl hFb) _ _).setCell (Or.inl hFb) _ _
      simp only at hR
      clear h2 h3 hold2 hL hI hG3 hG2 hG4 d0 d2 d4 f2
      go_wp2
      go_ret
      exact Or.inr ⟨HF.out, rfl, hR, hG5⟩
set_option maxHeartbeats 2000000 in
theorem rerase_any (r : Nat) (s : Chp) (hs : s.Ok) (F : Nat → Prop) (b : Int) (w : World) (h : RefAt w r s F) :
    Calls Tryz.prog 42 #[.pointer (some ⟨r, 0, none⟩), .int .i64 b] w fun e w' => e = .returned (.int .i64 (eraseR s b).2) ∧ RefAt w' r (eraseR s b).1 (grow F w w') ∧ Chg F w w' := by
  unfold eraseR
  obtain ⟨p, h⟩ := h
  by_cases hb : 0 ≤ b ∧ b < 12
  · rw [if_neg (by simpa using hb)]
    obtain ⟨hb0, hb1⟩ := hb
    have c1 := h.cOn
    cases hon : s.on with
    | false =>
      rw [if_pos rfl]
      rw [hon] at c1
      clear hon
      go_enter Tryz.func42, Tryz.ntmps42
      go_wp2_with fail
      refine (isBlock_yes b hb0 hb1 _).mono ?_
      rintro e w' ⟨rfl, rfl⟩
      go_wp2
      go_ret
      exact ⟨rfl, RefAt.grow ⟨p, h⟩, Chg.refl _ _⟩
    | true =>
      rw [if_neg (by simp)]
      rw [hon] at c1
      by_cases hc : s.lim = true ∧ s.bud = 0
      · rw [if_pos hc]
        have HS := hyd (rstep_cut r s F p w h hon hc.1 hc.2)
        clear hon hc
        go_enter Tryz.func42, Tryz.ntmps42
        go_wp2_with fail
        refine (isBlock_yes b hb0 hb1 _).mono ?_
        rintro e w' ⟨rfl, rfl⟩
        go_wp2_with fail
        refine HS.out.mono ?_
        rintro e w2 ⟨rfl, ⟨bu, h2⟩, hG⟩
        go_wp2
        go_ret
        exact ⟨rfl, RefAt.grow ⟨_, h2⟩, hG⟩
      · rw [if_neg hc]
        obtain ⟨n, rfl⟩ := Int.eq_ofNat_of_zero_le hb0
        rw [Int.toNat_natCast]
        refine (rerase_late r s hs F p n (by omega) w h hon hc).mono ?_
        rintro e w' (⟨hf, rfl, h1, h2⟩ | ⟨hf, rfl, h1, h2⟩)
        · rw [if_pos hf]
          exact ⟨rfl, h1.grow, h2⟩
        · rw [if_neg (by simp [hf])]
          exact ⟨rfl, h1, h2⟩
  · rw [if_pos (by simpa using hb)]
    go_enter Tryz.func42, Tryz.ntmps42
    go_wp2_with fail
    refine (isBlock_no b (by omega) _).mono ?_
    rintro e w' ⟨rfl, rfl⟩
    go_wp2
    go_ret
    exact ⟨rfl, RefAt.grow ⟨p, h⟩, Chg.refl _ _⟩
end Go.Proofs.YtifjmilegogbaaaGreat
namespace Go.Proofs.YtifjmilegogbaaaGreat
open Go.RowKit
set_option maxRecDepth 100000
set_option linter.unusedSimpArgs false

theorem rbl_length (p : Plc) (s : Chp) (b : Nat) : (rbl p s b).length = 5 := rfl
theorem rbl_one (p : Plc) (s : Chp) (b : Nat) : ∀ u ∈ rbl p s b, u.oneCell' = true := by
  intro u hu
  simp only [rbl, List.mem_cons, List.not_mem_nil, or_false] at hu
  rcases hu with rfl | rfl | rfl | rfl | rfl <;> rfl
theorem info81_all : (Tryz.prog.info? 112).map (fun i => (i.zero, i.size, i.bytes)) = some (some (.agg #[.slice none 0 0, .int .i64 0, .bool false, .int .i64 0, .bool false]), 5, 56) := by kernel_rfl
theorem info81 : ∃ i, Tryz.prog.info? 112 = some i ∧ i.zero = some (.agg #[.slice none 0 0, .int .i64 0, .bool false, .int .i64 0, .bool false]) ∧ i.size = 5 ∧ i.bytes = 56 := by
  have h := info81_all
  cases e : Tryz.prog.info? 112 with
  | none => rw [e] at h; cases h
  | some i =>
    rw [e] at h
    simp only [Option.map_some, Option.some.injEq, Prod.mk.injEq] at h
    exact ⟨i, rfl, h.1, h.2.1, h.2.2⟩
/-- While a chip's blocks are made: i of them. -/
structure MkB (w : World) (base i : Nat) (v : Value) (p : Plc) (s : Chp) : Prop where
  own : w.ownsRow base 112 5 v i (flatV (rbl p s) i)
  lst : ∀ b, b < i → Lst w 32 (p.gL b) (p.pc b) (fun j => s.ch (32 * b + j))
  low : ∀ b, b < i → ∀ k, InL 32 (p.gL b) (p.pc b) k → base ≤ k
  dis : ∀ b, b < i → ∀ c, c < i → b ≠ c → ∀ k, InL 32 (p.gL b) (p.pc b) k → ¬ InL 32 (p.gL c) (p.pc c) k
theorem MkB.start (w : World) (base : Nat) (p : Plc) (s : Chp) : MkB w base 0 (.slice none 0 0) p s :=
  ⟨World.ownsRow_nil w base 112 5, fun j hj => by omega, fun j hj => by omega, fun j hj => by omega⟩
theorem MkB.own_lt {w : World} {base i : Nat} {v : Value} {p : Plc} {s : Chp} (h : MkB w base i v p s) {k : Nat} (hk : v.ownBlock = some k) : base ≤ k ∧ k < w.heap.size := h.own.lt k hk
/-- One block more. -/
theorem MkB.next {w w3 w4 : World} {base i : Nat} {v v' : Value} {p : Plc} {s : Chp} (h : MkB w base i v p s) (q cap : Nat) (pcb : Nat → Pc) (hc : Chg (fun _ => False) w w3) (hL : Lst w3 32 q pcb (fun j => s.ch (32 * i + j))) (hI : ∀ k, InL 32 q pcb k → w.heap.size ≤ k) (hb : base ≤ w.heap.size)
    (hown : w4.ownsRow base 112 5 v' (i + 1) (flatV (rbl p s) i ++ rbl (p.setL i q cap pcb) s i)) (hg : w3.grownBy w4 v.ownBlock) : MkB w4 base (i + 1) v' (p.setL i q cap pcb) s := by
  have hvb : ∀ g, v.ownBlock = some g → ∃ n f, Row w g 112 n f := by
    intro g e
    rcases h.own.2 with ⟨rfl, _⟩ | ⟨g', cap, cur, rfl, _, hh, _⟩
    · cases e
    · have e2 : g' = g := Option.some.inj e
      subst e2
      exact ⟨0, fun _ => undef, cur, hh, by omega, fun j hj => by omega⟩
  have keep : ∀ (q : Nat) (pc : Nat → Pc) (ch : Nat → Chk), Lst w3 32 q pc ch → Lst w4 32 q pc ch := by
    intro q pc ch hl
    refine hl.other fun k hk hi => hg.block k hk (fun e => ?_)
    obtain ⟨n', f', hr'⟩ := hvb k e.symm
    rcases hl.type hi with ⟨n, f, hr⟩ | ⟨n, f, hr⟩
    · exact Row.ne (hr'.chg hc (fun f => f)) hr (by decide) rfl
    · exact Row.ne (hr'.chg hc (fun f => f)) hr (by decide) rfl
  have e1 : ∀ j, j < i → rbl (p.setL i q cap pcb) s j = rbl p s j := fun j hj => by simp only [rbl, Plc.setL, if_neg (show ¬ j = i by omega)]
  refine ⟨?_, fun b hb2 => ?_, fun b hb2 k hk => ?_, fun b hb2 c hc2 hne k hk hk2 => ?_⟩
  · rw [flatV, flatV_congr i e1]
    exact hown
  · by_cases e : b = i
    · subst e
      simp only [Plc.setL, if_pos]
      exact keep _ _ _ hL
    · simp only [Plc.setL, if_neg e]
      exact keep _ _ _ ((h.lst b (by omega)).chg hc (fun _ _ f => f))
  · by_cases e : b = i
    · subst e
      simp only [Plc.setL, if_pos] at hk
      have := hI k hk
      omega
    · simp only [Plc.setL, if_neg e] at hk
      exact h.low b (by omega) k hk
  · by_cases e : b = i
    · have e2 : ¬ c = i := fun e2 => hne (by rw [e, e2])
      subst e
      simp only [Plc.setL, if_pos, if_neg e2] at hk hk2
      have a1 := hI k hk
      have a2 := (h.lst c (by omega)).lt hk2
      omega
    · simp only [Plc.setL, if_neg e] at hk
      by_cases e2 : c = i
      · subst e2
        simp only [Plc.setL, if_pos] at hk2
        have a1 := hI k hk2
        have a2 := (h.lst b (by omega)).lt hk
        omega
      · simp only [Plc.setL, if_neg e2] at hk2
        exact h.dis b (by omega) c (by omega) hne k hk hk2
theorem MkB.chg {S : Nat → Prop} {w w' : World} {base i : Nat} {v : Value} {p : Plc} {s : Chp} (h : MkB w base i v p s) (hc : Chg S w w') (hs : ∀ k, base ≤ k → ¬ S k) : MkB w' base i v p s :=
  ⟨ownsRow_chg h.own hc (fun k hk => hs k (h.own_lt hk).1), fun b hb => (h.lst b hb).chg hc (fun k hk => hs k (h.low b hb k hk)), h.low, h.dis⟩
/-- What is new since w. -/
def fresh (w w' : World) : Nat → Prop := fun k => w.heap.size ≤ k ∧ k < w'.heap.size
theorem MkB.done {w w' : World} {base r : Nat} {v : Value} {p : Plc} {s : Chp} (h : MkB w' base 12 v p s) (ht : Row w' r 52 4 (fun i => ([v, .bool s.on, .int .i64 p.bu, .int .i64 s.steps] : List Value).getD i undef)) (hrel : Rel p s) (hb : w.heap.size ≤ base) (hr : w.heap.size ≤ r) : RefAt w' r s (fresh w w') := by
  obtain ⟨g, cap, rfl, h2, h3, h4⟩ := ownsRow_row h.own (by decide)
  refine ⟨{ p with gB := g, cB := cap }, ⟨ht, ?_, h.lst, ⟨hrel.bu, hrel.buLo, hrel.buHi, hrel.wh, hrel.whLo, hrel.whHi⟩, ⟨hr, ht.lt⟩, ⟨Nat.le_trans hb h2, h3⟩, fun b hb2 k hk => ⟨Nat.le_trans hb (h.low b hb2 k hk), (h.lst b hb2).lt hk⟩, h.dis⟩⟩
  exact h4.ext fun i hi => flatV_at 12 (fun j _ => rbl_length _ _ _) i hi
theorem top0_set {w : World} {r : Nat} {v v' : Value} {a b c : Value} (h : Row w r 52 4 (fun i => ([v, a, b, c] : List Value).getD i undef)) : Row (w.setCell ⟨r, 0, none⟩ v') r 52 4 (fun i => ([v', a, b, c] : List Value).getD i undef) := by
  refine (h.setCell 0 v').ext fun i hi => ?_
  rw [upL_one]
  rcases (by omega : i = 0 ∨ i = 1 ∨ i = 2 ∨ i = 3) with e | e | e | e <;> subst e <;> rfl
def plc0 : Plc := { gB := 0, cB := 0, gL := fun _ => 0, cL := fun _ => 0, pc := fun _ _ => ⟨0, 0, 0, 0⟩, wh := fun _ => -1, bu := -1 }
set_option maxHeartbeats 4000000 in
theorem rnew_any (w : World) : Calls Tryz.prog 32 #[] w fun e w' => ∃ r, e = .returned (.pointer (some ⟨r, 0, none⟩)) ∧ RefAt w' r newS (fresh w w') ∧ Chg (fun _ => False) w w' := by
  obtain ⟨i81, p1, p2, p3, p4⟩ := info81
  have ht0 : Row (w.alloc (.cells #[.slice none 0 0, .bool true, .int .i64 (-1), .int .i64 0] 52)) w.heap.size 52 4 (fun i => ([.slice none 0 0, .bool true, .int .i64 (-1), .int .i64 0] : List Value).getD i undef) :=
    (blk_new w _ 52 4 rfl).row.ext fun i hi => by rcases (by omega : i = 0 ∨ i = 1 ∨ i = 2 ∨ i = 3) with e | e | e | e <;> subst e <;> rfl
  have hG0 : Chg (fun _ => False) w (w.alloc (.cells #[.slice none 0 0, .bool true, .int .i64 (-1), .int .i64 0] 52)) := (Chg.refl _ _).alloc _
  go_enter Tryz.func32, Tryz.ntmps32
  go_wp2_with fail
  generalize hq : w.heap.size = r at *
  have hrs := Nat.le_of_eq hq
  have HQ := hyd hq
  clear hq
  generalize w.alloc (.cells #[.slice none 0 0, .bool true, .int .i64 (-1), .int .i64 0] 52) = w1 at *
  go_loopw [2] (fun t2 wr => ∃ (i : Nat) (v : Value) (p : Plc), i ≤ 12 ∧ t2 = .int .i64 i ∧ MkB wr (r + 1) i v p newS ∧ p.wh = (fun _ => -1) ∧ p.bu = -1 ∧ Row wr r 52 4 (fun i => ([v, .bool true, .int .i64 (-1), .int .i64 0] : List Value).getD i undef) ∧ Chg (fun _ => False) w wr) (fun t2 _ => 12 - (intOf t2).toNat)
  case atStart => exact ⟨0, .slice none 0 0, plc0, by omega, rfl, MkB.start _ _ _ _, rfl, rfl, ht0, hG0⟩
  case round =>
    clear ht0 hG0
    obtain ⟨i, v, p, hi, rfl, hM, hwh, hbu, ht, hG⟩ := hrel
    by_cases hlt : i < 12
    · have hi0 : (0 : Int) ≤ (i : Int) := by omega
      have hi1 : (i : Int) < 12 := by omega
      have c0 : wr.cell? ⟨r, 0, none⟩ = some v := ht.cell 0 (by omega)
      have hrl := ht.lt
      have HM := hyd hM
      have HWH := hyd hwh
      have hz0 : r + 1 ≤ wr.heap.size := hrl
      clear hM hwh
      have HT := hyd ht
      have HX : Hid (∀ q cap : Nat, ∀ u ∈ ([.slice (some ⟨q, 0, none⟩) 32 cap, .int .i64 0, .bool false, .int .i64 (-1), .bool false] : List Value), u.oneCell' = true) := by
        intro q cap u hu
        simp only [List.mem_cons, List.not_mem_nil, or_false] at hu
        rcases hu with rfl | rfl | rfl | rfl | rfl <;> rfl
      clear ht
      go_wp2_with fail
      go_region_law (first
        | (refine step_append_lies _ rfl (.tmp 13) (.tmp 16) 50 rfl (r + 1) 112 i81 _ 5 56 Tryz.underlying50 p1 p2 p3 p4 rfl (by decide) v i _ (by simp [Act.eval, Act.put]) HO.out ⟨w2.heap.size, 0, none⟩ 1 1 _ (by simp [Act.eval, Act.put]) rfl HCL.out (HX.out q cap) (by decide) (by unfold maxLen; omega) (by omega) hbase _ rfl ?_
           intro g cp w4 hO4 hg4 hat4 hlt4
           have c4 : w4.cell? ⟨r, 0, none⟩ = some v := (hg4.cell_far ⟨r, 0, none⟩ hr3 HNR.out).trans c3
           have f4 : w4.frozen? ⟨r, 0, none⟩ = false := (hg4.frozen_far ⟨r, 0, none⟩ hr3 HNR.out).trans f3)
        | (go_simp; go_at_call 57; refine (chunks_any _).mono ?_; rintro e w2 ⟨q, cap, pc, rfl, hL, hI, hG2⟩
           have hG3 : Chg (fun _ => False) wr (w2.alloc (.cells #[.slice (some ⟨q, 0, none⟩) 32 cap, .int .i64 0, .bool false, .int .i64 (-1), .bool false] 112)) := ((Chg.refl (fun _ => False) wr).drew.trans hG2).alloc _
           have HO := hyd (ownsRow_chg HM.out.own hG3 (fun _ _ f => f))
           have HCL := hyd (cells_new w2 [.slice (some ⟨q, 0, none⟩) 32 cap, .int .i64 0, .bool false, .int .i64 (-1), .bool false] 112)
           have hbase : r + 1 ≤ (w2.alloc (.cells #[.slice (some ⟨q, 0, none⟩) 32 cap, .int .i64 0, .bool false, .int .i64 (-1), .bool false] 112)).heap.size := Nat.le_trans hz0 hG3.size
           have hr3 : r < (w2.alloc (.cells #[.slice (some ⟨q, 0, none⟩) 32 cap, .int .i64 0, .bool false, .int .i64 (-1), .bool false] 112)).heap.size := hbase
           have HNR : Hid (some r ≠ v.ownBlock) := fun e => by { have := HM.out.own_lt e.symm; omega }
           have c2 : w2.cell? ⟨r, 0, none⟩ = some v := (HT.out.chg ((Chg.refl (fun _ => False) wr).drew.trans hG2) (fun f => f)).cell 0 (by omega)
           have c3 : (w2.alloc (.cells #[.slice (some ⟨q, 0, none⟩) 32 cap, .int .i64 0, .bool false, .int .i64 (-1), .bool false] 112)).cell? ⟨r, 0, none⟩ = some v := (HT.out.chg hG3 (fun f => f)).cell 0 (by omega)
           have f3 := (HT.out.chg hG3 (fun f => f)).frozen 0))
      all_goals
        have hL3 : Lst (w2.alloc (.cells #[.slice (some ⟨q, 0, none⟩) 32 cap, .int .i64 0, .bool false, .int .i64 (-1), .bool false] 112)) 32 q pc (fun j => newS.ch (32 * i + j)) := hL.chg ((Chg.refl (fun _ => False) w2).alloc _) (fun _ _ f => f)
        have eR : ([.slice (some ⟨q, 0, none⟩) 32 cap, .int .i64 0, .bool false, .int .i64 (-1), .bool false] : List Value) = rbl (p.setL i q cap pc) newS i := by
          simp only [rbl, Plc.setL, if_pos, HWH.out]; rfl
        rw [eR] at hO4
        have hM4 := HM.out.next q cap pc hG3 hL3 hI hz0 hO4 hg4
        have hM5 := hM4.chg (Chg.r1 (r := r) w4 0 (.slice (some ⟨g, 0, none⟩) (i + 1) cp)) (fun k hk e => by omega)
        have ht4 : Row w4 r 52 4 (fun i => ([v, .bool true, .int .i64 (-1), .int .i64 0] : List Value).getD i undef) := (HT.out.chg hG3 (fun f => f)).other (hg4.block r hr3 HNR.out)
        have ht5 := top0_set (v' := .slice (some ⟨g, 0, none⟩) (i + 1) cp) ht4
        have hG4 : Chg (fun _ => False) w w4 := Chg.grown (hG.trans hG3) hg4 (fun k hk => Or.inr (by have := (HM.out.own_lt hk).1; omega))
        have hG5 := hG4.setCell (g := r) (Or.inr hrs) 0 (.slice (some ⟨g, 0, none⟩) (i + 1) cp)
        have hwh5 : (p.setL i q cap pc).wh = fun _ => -1 := HWH.out
        have hbu5 : (p.setL i q cap pc).bu = -1 := hbu
        have HF := hyd hwh5
        have HU := hyd hbu5
        clear hL3 eR hO4 hM4 ht4 hG4 hwh5 hbu5 HM HT HO HCL HNR c2 c3 c4 f3 f4 hL hI hG2 hG3 hg4 hat4 hbu HX
        go_wp2
        exact ⟨⟨i + 1, _, _, by omega, by go_num, hM5, HF.out, HU.out, ht5, hG5⟩, by simp [intOf]; omega⟩
    · have e : i = 12 := by omega
      subst e
      have hrel : Rel p newS := ⟨fun _ => by rw [hbu]; rfl, by rw [hbu]; decide, by rw [hbu]; decide, fun b _ => by rw [hwh]; rfl, fun b => by rw [hwh]; show (-1 : Int) ≤ -1; decide, fun b => by rw [hwh]; show (-1 : Int) < 9223372036854775808; decide⟩
      have ht' : Row wr r 52 4 (fun i => ([v, .bool newS.on, .int .i64 p.bu, .int .i64 newS.steps] : List Value).getD i undef) := by rw [hbu]; exact ht
      have hR := hM.done (w := w) ht' hrel (by omega) hrs
      clear hrel ht' ht hM hwh hbu
      go_wp2
      go_ret
      exact ⟨r, rfl, hR, hG⟩
end Go.Proofs.YtifjmilegogbaaaGreat
