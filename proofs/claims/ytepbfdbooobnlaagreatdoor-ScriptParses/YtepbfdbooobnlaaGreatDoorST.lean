/-
  The text of steps, and that it is read as the steps, also with blanks more, remarks, and lines without words. No program.
-/
import Derived.Test.YtepbfdbooobnlaaGreatDoorSL
namespace Go.Proofs.YtepbfdbooobnlaaGreatDoor
open Go.Lib
/-- A step's line. -/
def ltx (s : Stp) : List UInt8 := wk s.k ++ ((if 0 < cnt s.k then 32 :: itoa s.a else []) ++ (if 1 < cnt s.k then 32 :: itoa s.b else []))
/-- The text of steps. -/
def txt : List Stp → List UInt8
  | [] => []
  | s :: r => ltx s ++ 10 :: txt r
/-- No blank, no line's end, no remark in it. -/
def Pl (x : List UInt8) : Prop := ∀ c ∈ x, c ≠ 32 ∧ c ≠ 10 ∧ c ≠ 35
theorem pl_itoa (v : Int) : Pl (itoa v) := by
  intro c hc
  have h := itoa_mem v c hc
  refine ⟨?_, ?_, ?_⟩ <;> · rintro rfl; revert h; decide
theorem pl_wk : ∀ k, k < 11 → ∀ c ∈ wk k, c ≠ 32 ∧ c ≠ 10 ∧ c ≠ 35 := by decide +kernel
theorem wk_ne : ∀ k, k < 11 → k ≠ 0 → wk k ≠ [] := by decide +kernel
theorem wk_len : ∀ k, k < 11 → (wk k).length ≤ 11 := by decide +kernel
theorem bl_pl {x : List UInt8} (h : Pl x) (hx : x ≠ []) (r : List UInt8) : bl (x ++ r) = 0 := by
  cases x with
  | nil => exact absurd rfl hx
  | cons c x => rw [List.cons_append, bl, if_neg (h c (by simp)).1]
theorem en_pl {x : List UInt8} (h : Pl x) (hx : x ≠ []) (r : List UInt8) : en (x ++ r) = false := by
  cases x with
  | nil => exact absurd rfl hx
  | cons c x =>
    rw [List.cons_append, en, beq_eq_false_iff_ne]
    exact (h c (by simp)).2.2
/-- Blanks. -/
def sp (n : Nat) : List UInt8 := List.replicate n 32
theorem bl_sp (r : List UInt8) : ∀ n, bl (sp n ++ r) = n + bl r
  | 0 => by simp [sp]
  | n + 1 => by
    have := bl_sp r n
    unfold sp at this ⊢
    rw [List.replicate_succ, List.cons_append, bl, if_pos rfl, this]; omega
/-- What may stand behind a word: nothing, or a blank. -/
def Hb (r : List UInt8) : Prop := r = [] ∨ ∃ q, r = 32 :: q
theorem wd_pl {x : List UInt8} (h : Pl x) {r : List UInt8} (hr : Hb r) : wd (x ++ r) = x := by
  induction x with
  | nil =>
    rcases hr with rfl | ⟨q, rfl⟩
    · rfl
    · rw [List.nil_append, wd, if_pos rfl]
  | cons c x ih =>
    rw [List.cons_append, wd, if_neg (h c (by simp)).1, ih (fun d hd => h d (by simp [hd]))]
theorem hb_sp {n : Nat} (hn : 1 ≤ n) (r : List UInt8) : Hb (sp n ++ r) := by
  obtain ⟨m, rfl⟩ : ∃ m, n = m + 1 := ⟨n - 1, by omega⟩
  exact Or.inr ⟨sp m ++ r, by unfold sp; rw [List.replicate_succ, List.cons_append]⟩
/-- A line's end: blanks, then nothing or a remark. -/
structure Te (t : List UInt8) : Prop where
  hb : Hb t
  en : en (t.drop (bl t)) = true
theorem te_nil : Te [] := ⟨Or.inl rfl, rfl⟩
theorem drop_app (x y : List UInt8) : (x ++ y).drop x.length = y := List.drop_left
theorem nx_app (x y : List UInt8) : nx (x ++ y) x.length = x.length + bl y := by unfold nx; rw [drop_app]
/-- From a place on: what stands there alone decides. -/
theorem due_app (x : List UInt8) (n : Nat) (v : Int) (hv : I64 v) {t : List UInt8} (ht : Hb t) :
    due (x ++ (sp n ++ (itoa v ++ t))) x.length = .ok (v, (x ++ (sp n ++ itoa v)).length) := by
  have h1 : nx (x ++ (sp n ++ (itoa v ++ t))) x.length = (x ++ sp n).length := by
    rw [nx_app, bl_sp, bl_pl (pl_itoa v) (itoa_ne v), List.length_append]; simp [sp]
  have h2 : (x ++ (sp n ++ (itoa v ++ t))).drop (x ++ sp n).length = itoa v ++ t := by rw [← List.append_assoc, drop_app]
  unfold due
  rw [h1, h2, en_pl (pl_itoa v) (itoa_ne v)]
  have h3 : wo (x ++ (sp n ++ (itoa v ++ t))) (x ++ sp n).length = itoa v := by unfold wo; rw [h2, wd_pl (pl_itoa v) ht]
  rw [h3, num_itoa hv]
  simp only [Bool.false_eq_true, if_false]
  unfold af
  rw [h3]
  simp only [List.length_append]
  congr 2
  omega
theorem fin_app (x : List UInt8) (k : Nat) (a b : Int) {t : List UInt8} (ht : Te t) : fin (x ++ t) k a b x.length = .ok (some ⟨k, a, b⟩) := by
  unfold fin
  rw [nx_app, ← List.drop_drop, drop_app, ht.en]; rfl
/-- A line with blanks more. -/
def lsp (s : Stp) (n m : Nat) : List UInt8 := wk s.k ++ ((if 0 < cnt s.k then sp (n + 1) ++ itoa s.a else []) ++ (if 1 < cnt s.k then sp (m + 1) ++ itoa s.b else []))
theorem lin_told {s : Stp} (h : Okt s) (n m : Nat) {t : List UInt8} (ht : Te t) : lin (lsp s n m ++ t) = .ok (some ⟨s.k, s.a, s.b⟩) := by
  have hk := h.k1
  have hk2 := h.k2
  have hp : Pl (wk s.k) := pl_wk s.k (by omega)
  have hne := wk_ne s.k (by omega) (by omega)
  have key : ∀ r, Hb r → nx (wk s.k ++ r) 0 = 0 ∧ en ((wk s.k ++ r).drop 0) = false ∧ wo (wk s.k ++ r) 0 = wk s.k ∧ af (wk s.k ++ r) 0 = (wk s.k).length := by
    intro r hr
    have h3 : wo (wk s.k ++ r) 0 = wk s.k := by unfold wo; rw [List.drop_zero, wd_pl hp hr]
    refine ⟨by unfold nx; rw [List.drop_zero, bl_pl hp hne], by rw [List.drop_zero, en_pl hp hne], h3, by unfold af; rw [h3]; omega⟩
  have hkd : kd (wk s.k) = s.k := kd_hit (by omega) rfl (by omega)
  unfold lsp
  by_cases h0 : cnt s.k = 0
  · rw [if_neg (by omega), if_neg (by omega)]
    simp only [List.append_nil]
    obtain ⟨e1, e2, e3, e4⟩ := key t ht.hb
    unfold lin
    rw [e1, e2, e3, e4, hkd, if_neg (by simp), if_neg (by omega), if_pos h0, fin_app _ _ _ _ ht, h.a0 h0, h.b0 (by omega)]
  · rw [if_pos (by omega)]
    by_cases h1 : cnt s.k = 1
    · rw [if_neg (by omega)]
      simp only [List.append_nil, List.append_assoc]
      obtain ⟨e1, e2, e3, e4⟩ := key (sp (n + 1) ++ (itoa s.a ++ t)) (hb_sp (by omega) _)
      unfold lin
      rw [e1, e2, e3, e4, hkd, if_neg (by simp), if_neg (by omega), if_neg h0, due_app _ _ _ h.ai ht.hb]
      simp only []
      rw [if_pos h1]
      have := fin_app (wk s.k ++ (sp (n + 1) ++ itoa s.a)) s.k s.a 0 ht
      simp only [List.append_assoc] at this ⊢
      rw [this, h.b0 (by omega)]
    · have h2 := cnt_le s.k
      rw [if_pos (by omega)]
      simp only [List.append_assoc]
      obtain ⟨e1, e2, e3, e4⟩ := key (sp (n + 1) ++ (itoa s.a ++ (sp (m + 1) ++ (itoa s.b ++ t)))) (hb_sp (by omega) _)
      unfold lin
      rw [e1, e2, e3, e4, hkd, if_neg (by simp), if_neg (by omega), if_neg h0, due_app _ _ _ h.ai (hb_sp (by omega) _)]
      simp only []
      rw [if_neg h1]
      have h5 := due_app (wk s.k ++ (sp (n + 1) ++ itoa s.a)) (m + 1) s.b h.bi ht.hb
      simp only [List.append_assoc] at h5 ⊢
      rw [h5]
      simp only []
      have h6 := fin_app (wk s.k ++ (sp (n + 1) ++ (itoa s.a ++ (sp (m + 1) ++ itoa s.b)))) s.k s.a s.b ht
      simp only [List.append_assoc] at h6 ⊢
      rw [h6]
theorem ltx_lsp (s : Stp) : ltx s = lsp s 0 0 := by
  unfold ltx lsp sp
  rfl
theorem lin_ltx {s : Stp} (h : Okt s) : lin (ltx s) = .ok (some ⟨s.k, s.a, s.b⟩) := by
  have := lin_told h 0 0 te_nil
  rw [List.append_nil] at this
  rw [ltx_lsp]; exact this
theorem lsp_no10 {s : Stp} (h : Okt s) (n m : Nat) : (10 : UInt8) ∉ lsp s n m := by
  have hk2 := h.k2
  intro hc
  unfold lsp at hc
  have hs : ∀ n, (10 : UInt8) ∉ sp n := fun n hh => by unfold sp at hh; have := List.eq_of_mem_replicate hh; revert this; decide
  rcases List.mem_append.1 hc with hc | hc
  · exact (pl_wk s.k (by omega) _ hc).2.1 rfl
  · rcases List.mem_append.1 hc with hc | hc <;> split at hc
    · rcases List.mem_append.1 hc with hc | hc
      · exact hs _ hc
      · exact (pl_itoa _ _ hc).2.1 rfl
    · cases hc
    · rcases List.mem_append.1 hc with hc | hc
      · exact hs _ hc
      · exact (pl_itoa _ _ hc).2.1 rfl
    · cases hc
theorem lin_none : lin [] = .ok none := rfl
/-- What is told is read as it was. -/
theorem prs_txt : ∀ (l : List Stp) (n : Nat), (∀ s ∈ l, Okt s) → prs n (lns (txt l)) = .ok l
  | [], n, _ => rfl
  | s :: r, n, h => by
    have hs := h s (by simp)
    rw [txt, lns_app _ (by rw [ltx_lsp]; exact lsp_no10 hs 0 0), prs, lin_ltx hs, prs_txt r (n + 1) (fun x hx => h x (by simp [hx]))]
    rfl
theorem prt_txt {l : List Stp} (h : ∀ s ∈ l, Okt s) : prt (txt l) = .ok l := prs_txt l 1 h
theorem ltx_len {s : Stp} (h : Okt s) : (ltx s).length ≤ 53 := by
  have h1 := wk_len s.k (by have := h.k2; omega)
  have h2 := itoa_len h.ai
  have h3 := itoa_len h.bi
  unfold ltx
  rw [List.length_append, List.length_append]
  have h4 : (if 0 < cnt s.k then 32 :: itoa s.a else []).length ≤ 21 := by split <;> simp <;> omega
  have h5 : (if 1 < cnt s.k then 32 :: itoa s.b else []).length ≤ 21 := by split <;> simp <;> omega
  omega
theorem txt_len : ∀ {l : List Stp}, (∀ s ∈ l, Okt s) → (txt l).length ≤ 54 * l.length
  | [], _ => by simp [txt]
  | s :: r, h => by
    have h1 := ltx_len (h s (by simp))
    have h2 := txt_len (l := r) (fun x hx => h x (by simp [hx]))
    rw [txt, List.length_append, List.length_cons, List.length_cons]
    omega
theorem txt_app : ∀ (l r : List Stp), txt (l ++ r) = txt l ++ txt r
  | [], r => rfl
  | s :: l, r => by rw [List.cons_append, txt, txt, txt_app l r, List.append_assoc, List.cons_append]
end Go.Proofs.YtepbfdbooobnlaaGreatDoor
