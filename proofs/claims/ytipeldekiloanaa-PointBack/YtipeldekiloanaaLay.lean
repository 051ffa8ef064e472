/-
  point's writer: a number laid behind what is laid; the first that has no room is kept as an error. Conditions: the writer's row has room for what is laid.
-/
import Derived.Test.YtipeldekiloanaaBits
namespace Go.Proofs.Ytipeldekiloanaa
open Go.RowKit
set_option maxRecDepth 100000

/-- Numbers and their sizes, laid one behind the other. -/
def cat : List (Nat × Nat) → List Nat
  | [] => []
  | p :: r => bts p.1 p.2 ++ cat r
def tot : List (Nat × Nat) → Nat
  | [] => 0
  | p :: r => p.2 + tot r
/-- Each has room. -/
def Fits (ps : List (Nat × Nat)) : Prop := ∀ p ∈ ps, p.1 < 256 ^ p.2
theorem cat_length : ∀ ps, (cat ps).length = tot ps
  | [] => rfl
  | p :: r => by rw [cat, tot, List.length_append, bts_length, cat_length r]
theorem cat_append : ∀ ps qs, cat (ps ++ qs) = cat ps ++ cat qs
  | [], _ => rfl
  | p :: r, qs => by rw [List.cons_append, cat, cat, cat_append r, List.append_assoc]
theorem tot_append : ∀ ps qs, tot (ps ++ qs) = tot ps + tot qs
  | [], _ => by simp [tot]
  | p :: r, qs => by rw [List.cons_append, tot, tot, tot_append r, Nat.add_assoc]
theorem cat_snoc (ps : List (Nat × Nat)) (v z : Nat) : cat (ps ++ [(v, z)]) = cat ps ++ bts v z := by rw [cat_append]; simp [cat]
theorem tot_snoc (ps : List (Nat × Nat)) (v z : Nat) : tot (ps ++ [(v, z)]) = tot ps + z := by rw [tot_append]; simp [tot]
theorem fits_snoc (ps : List (Nat × Nat)) (v z : Nat) : Fits (ps ++ [(v, z)]) ↔ Fits ps ∧ v < 256 ^ z := by
  constructor
  · intro h
    exact ⟨fun p hp => h p (by simp [hp]), h (v, z) (by simp)⟩
  · rintro ⟨h1, h2⟩ p hp
    rcases List.mem_append.1 hp with h | h
    · exact h1 p h
    · rw [List.mem_singleton] at h; subst h; exact h2
theorem cat_bys : ∀ ps, Bys (cat ps)
  | [] => fun n hn => by cases hn
  | p :: r => fun n hn => (List.mem_append.1 hn).elim (bts_bys _ _ n) (cat_bys r n)
/-- The row: what is laid, and noughts behind it. -/
def rowZ (ps : List (Nat × Nat)) : List Nat := cat ps ++ List.replicate (174 - tot ps) 0
theorem rowZ_length (ps : List (Nat × Nat)) (h : tot ps ≤ 174) : (rowZ ps).length = 174 := by simp [rowZ, cat_length]; omega
theorem rowZ_lay (ps : List (Nat × Nat)) (v z : Nat) (h : tot ps + z ≤ 174) : lay (rowZ ps) (tot ps) (bts v z) = rowZ (ps ++ [(v, z)]) := by
  unfold lay rowZ
  rw [bts_length, cat_snoc, tot_snoc, List.take_append_of_le_length (by rw [cat_length]; omega), List.take_of_length_le (by rw [cat_length]; omega), List.drop_append, List.drop_of_length_le (by rw [cat_length]; omega), List.nil_append, cat_length, List.drop_replicate, List.append_assoc]
  congr 3
  omega
/-- Block b holds a writer: a slice of the row g, n bytes of which are laid, and an error. -/
def Wr (w : World) (b g n : Nat) (e : Value) : Prop :=
  w.heap[b]? = some (.cells #[.slice (some ⟨g, 0, none⟩) n 174, e] 47)
theorem Wr.lt {w : World} {b g n : Nat} {e : Value} (h : Wr w b g n e) : b < w.heap.size := (Array.getElem?_eq_some_iff.1 (show w.heap[b]? = some _ from h)).1
theorem Wr.other {w w' : World} {b g n : Nat} {e : Value} (h : Wr w b g n e) (k : w'.heap[b]? = w.heap[b]?) : Wr w' b g n e := k.trans h
theorem Wr.chg {S : Nat → Prop} {w w' : World} {b g n : Nat} {e : Value} (h : Wr w b g n e) (hc : Chg S w w') (hb : ¬ S b) : Wr w' b g n e := (hc.block b h.lt hb).trans h
theorem Wr.cells {w : World} {b g n : Nat} {e : Value} (h : Wr w b g n e) : w.cell? ⟨b, 0, none⟩ = some (.slice (some ⟨g, 0, none⟩) n 174) ∧ w.cell? ⟨b, 1, none⟩ = some e ∧ w.frozen? ⟨b, 0, none⟩ = false ∧ w.frozen? ⟨b, 1, none⟩ = false := by
  have h' : w.heap[b]? = some _ := h
  refine ⟨?_, ?_, ?_, ?_⟩ <;> simp [World.cell?, World.frozen?, h']
theorem Wr.store {w : World} {b g n : Nat} {e : Value} (h : Wr w b g n e) (m : Nat) : Wr (w.setCell ⟨b, 0, none⟩ (.slice (some ⟨g, 0, none⟩) m 174)) b g m e := by
  have h' : w.heap[b]? = some _ := h
  show (w.setCell ⟨b, 0, none⟩ _).heap[b]? = _
  simp [World.setCell, Array.getElem?_modify, h']
theorem Wr.err {w : World} {b g n : Nat} {e : Value} (h : Wr w b g n e) (e' : Value) : Wr (w.setCell ⟨b, 1, none⟩ e') b g n e' := by
  have h' : w.heap[b]? = some _ := h
  show (w.setCell ⟨b, 1, none⟩ _).heap[b]? = _
  simp [World.setCell, Array.getElem?_modify, h']
/-- How the writer stands behind the numbers ps. -/
def Wst (w : World) (b g : Nat) (ps : List (Nat × Nat)) : Prop :=
  b ≠ g ∧ ((Fits ps ∧ Wr w b g (tot ps) .nilIface ∧ Arr w g 5 (rowZ ps)) ∨ (¬ Fits ps ∧ ∃ n, Wr w b g n (.iface 44 (.int .i64 2))))
theorem Wst.lt {w : World} {b g : Nat} {ps : List (Nat × Nat)} (h : Wst w b g ps) : b < w.heap.size := by
  rcases h.2 with ⟨_, h, _⟩ | ⟨_, n, h⟩ <;> exact h.lt
theorem Wst.chg {S : Nat → Prop} {w w' : World} {b g : Nat} {ps : List (Nat × Nat)} (h : Wst w b g ps) (hc : Chg S w w') (hb : ¬ S b) (hg : ¬ S g) : Wst w' b g ps := by
  refine ⟨h.1, ?_⟩
  rcases h.2 with ⟨h1, h2, h3⟩ | ⟨h1, n, h2⟩
  · exact Or.inl ⟨h1, h2.chg hc hb, h3.chg hc hg⟩
  · exact Or.inr ⟨h1, n, h2.chg hc hb⟩

set_option maxHeartbeats 2000000 in
theorem lay_any (w : World) (b g : Nat) (ps : List (Nat × Nat)) (hW : Wst w b g ps) (v z : Nat) (hv : v < 18446744073709551616) (hz1 : 1 ≤ z) (hz8 : z ≤ 8) (hn : tot ps + z ≤ 174) :
    Calls Try.prog 20 #[.pointer (some ⟨b, 0, none⟩), .int .u64 (v : Int), .int .i64 (z : Int)] w fun e w' => e = .returned (.tuple #[]) ∧ Wst w' b g (ps ++ [(v, z)]) ∧ Chg (fun k => k = b ∨ k = g) w w' := by
  obtain ⟨hbg, hW⟩ := hW
  have q1 := neq_nil_nil
  have q2 := neq_long_nil
  rcases hW with ⟨hf, hR, hA⟩ | ⟨hf, n, hR⟩
  · by_cases hr : v < 256 ^ z
    · have HW := hyd hR
      have HA := hyd hA
      have hcall := put_room w v z hv hz1 hz8 hr
      have HF : Hid (Fits (ps ++ [(v, z)])) := hyd ((fits_snoc _ _ _).2 ⟨hf, hr⟩)
      have HL := hyd (rowZ_length ps (by omega))
      obtain ⟨i0, i1, -, -⟩ := hR.cells
      clear hR hA hr hf
      go_enter Try.func20, Try.ntmps20
      go_wp2_with fail
      refine hcall.mono ?_
      rintro e w1 ⟨g1, rfl, hg1, A1, G1⟩
      clear hcall i0 i1
      have W1 := HW.out.chg G1 (fun e => e)
      have B1 := HA.out.chg G1 (fun e => e)
      obtain ⟨k0, k1, -, -⟩ := W1.cells
      have hsrc : Hid (∀ j, j < (bts v z).length → w1.cell? ⟨g1, 0 + j, none⟩ = some (.int .u8 ((bts v z).getD j 0 : Nat))) := hyd (fun j hj => by
        rw [bts_length] at hj
        rw [Nat.zero_add, A1.cell j (by rw [bts_length]; omega), bts_getD _ _ _ hj, bts_getD _ _ _ (by omega)])
      have HB1 := hyd B1
      have W2 : Wr (w1.setRow g (bcells (lay (rowZ ps) (tot ps) (bts v z)))) b g (tot ps) .nilIface := W1.other (setRow_other _ _ _ _ hbg)
      have A2 : Arr (w1.setRow g (bcells (lay (rowZ ps) (tot ps) (bts v z)))) g 5 (rowZ (ps ++ [(v, z)])) := by
        have := B1.row (lay (rowZ ps) (tot ps) (bts v z))
        rwa [rowZ_lay ps v z hn] at this ⊢
      have G2 : Chg (fun k => k = b ∨ k = g) w (w1.setRow g (bcells (lay (rowZ ps) (tot ps) (bts v z)))) := (G1.mono (fun _ _ f => f.elim)).setRow (Or.inl (Or.inr rfl)) _
      obtain ⟨j0, -, f0, -⟩ := W2.cells
      have HW2 := hyd W2
      have HA2 := hyd A2
      have HG2 := hyd G2
      have HT := hyd (tot_snoc ps v z)
      clear W1 B1 A1 G1 W2 A2 G2
      go_wp2_with (at_builtin; refine wpList_append_arr rfl (.tmp 29) (.tmp 30) rfl g (tot ps) 174 g1 0 z z rfl rfl HB1.out (bts v z) (bts_length v z) hsrc.out hn (by rw [HL.out]; exact hn) ?_)
      go_end0
      refine ⟨rfl, ⟨hbg, Or.inl ⟨HF.out, ?_, HA2.out.setOther hbg _ _⟩⟩, HG2.out.setCell (Or.inl (Or.inl rfl)) _ _⟩
      rw [HT.out]; exact HW2.out.store _
    · have HW := hyd hR
      have hcall := put_long w v z hv hz1 hz8 hr
      have HF : Hid (¬ Fits (ps ++ [(v, z)])) := hyd (fun h => hr ((fits_snoc _ _ _).1 h).2)
      obtain ⟨i0, i1, i2, i3⟩ := hR.cells
      clear hR hA hr hf
      go_enter Try.func20, Try.ntmps20
      go_wp2_with fail
      refine hcall.mono ?_
      rintro e w1 ⟨rfl, rfl⟩
      clear hcall
      go_wp2
      refine bodyPost_ret (results_none rfl _ _ _) rfl ?_
      exact ⟨rfl, ⟨hbg, Or.inr ⟨HF.out, _, HW.out.err _⟩⟩, (Chg.refl _ _).setCell (Or.inl (Or.inl rfl)) _ _⟩
  · have HW := hyd hR
    have HF : Hid (¬ Fits (ps ++ [(v, z)])) := hyd (fun h => hf ((fits_snoc _ _ _).1 h).1)
    obtain ⟨i0, i1, i2, i3⟩ := hR.cells
    clear hR hf
    go_enter Try.func20, Try.ntmps20
    go_wp2
    refine bodyPost_ret (results_none rfl _ _ _) rfl ?_
    exact ⟨rfl, ⟨hbg, Or.inr ⟨HF.out, _, HW.out⟩⟩, Chg.refl _ _⟩
end Go.Proofs.Ytipeldekiloanaa
