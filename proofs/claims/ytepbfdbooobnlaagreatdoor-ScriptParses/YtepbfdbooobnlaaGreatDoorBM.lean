/-
  A told text with blanks more, remarks and lines without words, and that it is read as the steps. No program.
-/
import Derived.Test.YtepbfdbooobnlaaGreatDoorST
namespace Go.Proofs.YtepbfdbooobnlaaGreatDoor
open Go.Lib
/-- What is put behind a line: a blank, a remark, a line of blanks, a remark alone. -/
def tl4 : List UInt8 := [32, 35, 32, 114, 101, 97, 100, 10, 32, 32, 32, 10, 35, 10]
/-- The text with f k blanks more at the k-th place. -/
def blz (f : Nat → Nat) : Nat → List UInt8 → List UInt8
  | _, [] => []
  | k, c :: r => if c = 32 then sp (f k + 1) ++ blz f (k + 1) r else if c = 10 then tl4 ++ blz f (k + 1) r else c :: blz f k r
theorem blz_pl (f : Nat → Nat) (k : Nat) : ∀ {x : List UInt8} (r : List UInt8), Pl x → blz f k (x ++ r) = x ++ blz f k r
  | [], r, _ => rfl
  | c :: x, r, h => by
    have h1 := h c (by simp)
    rw [List.cons_append, blz, if_neg h1.1, if_neg h1.2.1, blz_pl f k r (fun d hd => h d (by simp [hd]))]; rfl
theorem blz_sp (f : Nat → Nat) (k : Nat) (r : List UInt8) : blz f k (32 :: r) = sp (f k + 1) ++ blz f (k + 1) r := by rw [blz, if_pos rfl]
theorem blz_nl (f : Nat → Nat) (k : Nat) (r : List UInt8) : blz f k (10 :: r) = tl4 ++ blz f (k + 1) r := by rw [blz, if_neg (by decide), if_pos rfl]
theorem blz_line (f : Nat → Nat) (k : Nat) {s : Stp} (h : Okt s) (r : List UInt8) : ∃ i j k', blz f k (ltx s ++ 10 :: r) = lsp s (f i) (f j) ++ (tl4 ++ blz f k' r) := by
  have hp : Pl (wk s.k) := pl_wk s.k (by have := h.k2; omega)
  unfold ltx lsp
  by_cases h0 : 0 < cnt s.k
  · by_cases h1 : 1 < cnt s.k
    · refine ⟨k, k + 1, k + 1 + 1 + 1, ?_⟩
      rw [if_pos h0, if_pos h0, if_pos h1, if_pos h1]
      simp only [List.append_assoc, List.cons_append]
      rw [blz_pl f k _ hp, blz_sp, blz_pl f _ _ (pl_itoa _), blz_sp, blz_pl f _ _ (pl_itoa _), blz_nl]
    · refine ⟨k, k, k + 1 + 1, ?_⟩
      rw [if_pos h0, if_pos h0, if_neg h1, if_neg h1]
      simp only [List.append_assoc, List.cons_append, List.append_nil]
      rw [blz_pl f k _ hp, blz_sp, blz_pl f _ _ (pl_itoa _), blz_nl]
  · refine ⟨k, k, k + 1, ?_⟩
    rw [if_neg h0, if_neg (by omega), if_neg h0, if_neg (by omega)]
    simp only [List.append_nil]
    rw [blz_pl f k _ hp, blz_nl]
def te4 : List UInt8 := [32, 35, 32, 114, 101, 97, 100]
theorem te_te4 : Te te4 := ⟨Or.inr ⟨_, rfl⟩, rfl⟩
theorem lns_tl4 (a r : List UInt8) (h : (10 : UInt8) ∉ a) : lns (a ++ (tl4 ++ r)) = (a ++ te4) :: [32, 32, 32] :: [35] :: lns r := by
  have e : a ++ (tl4 ++ r) = (a ++ te4) ++ 10 :: ([32, 32, 32] ++ 10 :: ([35] ++ 10 :: r)) := by simp [tl4, te4]
  rw [e, lns_app, lns_app _ (by decide), lns_app _ (by decide)]
  intro hc
  rcases List.mem_append.1 hc with hc | hc
  · exact h hc
  · exact absurd hc (by decide)
/-- What is told so is read as it was. -/
theorem prs_blz (f : Nat → Nat) : ∀ (l : List Stp) (k n : Nat), (∀ s ∈ l, Okt s) → prs n (lns (blz f k (txt l))) = .ok l
  | [], k, n, _ => rfl
  | s :: r, k, n, h => by
    have hs := h s (by simp)
    obtain ⟨i, j, k', e⟩ := blz_line f k hs (txt r)
    rw [txt, e, lns_tl4 _ _ (lsp_no10 hs _ _), prs, lin_told hs _ _ te_te4, prs, prs, prs_blz f r k' _ (fun x hx => h x (by simp [hx]))]
    rfl
theorem blz_len (f : Nat → Nat) (hf : ∀ k, f k ≤ 3) : ∀ (l : List Stp) (k : Nat), (∀ s ∈ l, Okt s) → (blz f k (txt l)).length ≤ 80 * l.length
  | [], k, _ => by simp [txt, blz]
  | s :: r, k, h => by
    have hs := h s (by simp)
    obtain ⟨i, j, k', e⟩ := blz_line f k hs (txt r)
    have ih := blz_len f hf r k' (fun x hx => h x (by simp [hx]))
    have h1 := wk_len s.k (by have := hs.k2; omega)
    have h2 := itoa_len hs.ai
    have h3 := itoa_len hs.bi
    have hi := hf i
    have hj := hf j
    rw [txt, e, List.length_append, List.length_append, List.length_cons]
    have h4 : (lsp s (f i) (f j)).length ≤ 59 := by
      unfold lsp
      rw [List.length_append, List.length_append]
      have h5 : (if 0 < cnt s.k then sp (f i + 1) ++ itoa s.a else []).length ≤ 24 := by split <;> simp [sp] <;> omega
      have h6 : (if 1 < cnt s.k then sp (f j + 1) ++ itoa s.b else []).length ≤ 24 := by split <;> simp [sp] <;> omega
      omega
    have h7 : tl4.length = 14 := rfl
    omega
theorem prt_blz (f : Nat → Nat) {l : List Stp} (h : ∀ s ∈ l, Okt s) : prt (blz f 0 (txt l)) = .ok l := prs_blz f l 0 1 h
theorem blz_all (f : Nat → Nat) : ∀ (l : List UInt8) (k : Nat), (∀ k, f k ≤ 3) → (blz f k l).length ≤ 14 * l.length
  | [], k, _ => by simp [blz]
  | c :: r, k, hf => by
    have h1 := blz_all f r (k + 1) hf
    have h2 := blz_all f r k hf
    have h3 := hf k
    rw [blz, List.length_cons]
    split
    · rw [List.length_append]; simp [sp]; omega
    · split
      · rw [List.length_append]; have h7 : tl4.length = 14 := rfl; omega
      · rw [List.length_cons]; omega
end Go.Proofs.YtepbfdbooobnlaaGreatDoor
