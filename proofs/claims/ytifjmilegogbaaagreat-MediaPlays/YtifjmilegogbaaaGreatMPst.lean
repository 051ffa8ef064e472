/-
  What MediaPlays holds: a chip, its media, what they are by the document; what is done to the chip itself. Conditions: both stood alike.
-/
import Derived.Test.YtifjmilegogbaaaGreatMRefP
import Derived.Test.YtifjmilegogbaaaGreatUAlike
namespace Go.Proofs.YtifjmilegogbaaaGreat
open Go.RowKit
set_option maxRecDepth 100000
set_option linter.unusedVariables false

/-- Both stand: the program's at s (r pages read), the document's at x (n pages read); F: the blocks of the document's chip. -/
structure Bst (w0 w : World) (t c m p q b R rr : Nat) (F : Nat → Prop) (s : Chp) (r : Int) (x : Chp) (n : Int) : Prop where
  bth : Bth w t c m R
  med : Med w m c p q b r
  chip : ChipAt w c s
  ok : s.Ok
  okx : x.Ok
  rmd : RMd w R rr n
  ref : RefAt w rr x F
  fl : ∀ k, F k → k < w.heap.size ∧ w0.heap.size ≤ k ∧ k ≠ t ∧ k ≠ c ∧ k ≠ m ∧ k ≠ p ∧ k ≠ q ∧ k ≠ b ∧ k ≠ R
  lo : w0.heap.size ≤ t ∧ w0.heap.size ≤ c ∧ w0.heap.size ≤ m ∧ w0.heap.size ≤ p ∧ w0.heap.size ≤ q ∧ w0.heap.size ≤ b ∧ w0.heap.size ≤ R
  ne : t ≠ c ∧ t ≠ m ∧ t ≠ p ∧ t ≠ q ∧ t ≠ b ∧ t ≠ R ∧ R ≠ c ∧ R ≠ m ∧ R ≠ p ∧ R ≠ q ∧ R ≠ b
  chg : Chg (fun _ => False) w0 w
theorem Bst.lts {w0 w : World} {t c m p q b R rr : Nat} {F : Nat → Prop} {s : Chp} {r : Int} {x : Chp} {n : Int} (h : Bst w0 w t c m p q b R rr F s r x n) : t < w.heap.size ∧ c < w.heap.size ∧ m < w.heap.size ∧ p < w.heap.size ∧ q < w.heap.size ∧ b < w.heap.size ∧ R < w.heap.size ∧ w0.heap.size ≤ w.heap.size :=
  ⟨h.bth.lt, h.chip.lt, h.med.lt, h.med.lts.2.1, h.med.lts.2.2.1, h.med.lts.2.2.2, h.rmd.lt, h.chg.size⟩
/-- Blocks that are nobody's have changed. -/
theorem Bst.junk {w0 w w' : World} {t c m p q b R rr : Nat} {F : Nat → Prop} {s : Chp} {r : Int} {x : Chp} {n : Int} {S : Nat → Prop} (h : Bst w0 w t c m p q b R rr F s r x n) (hc : Chg S w w') (hS : ∀ k, S k → ¬ F k ∧ w0.heap.size ≤ k ∧ k ≠ t ∧ k ≠ c ∧ k ≠ m ∧ k ≠ p ∧ k ≠ q ∧ k ≠ b ∧ k ≠ R) : Bst w0 w' t c m p q b R rr F s r x n := by
  have hs := hc.size
  refine ⟨h.bth.chg hc (fun e => (hS _ e).2.2.1 rfl), h.med.far hc (fun e => (hS _ e).2.2.2.2.1 rfl) (fun e => (hS _ e).2.2.2.2.2.1 rfl) (fun e => (hS _ e).2.2.2.2.2.2.1 rfl) (fun e => (hS _ e).2.2.2.2.2.2.2.1 rfl), h.chip.chg hc (fun e => (hS _ e).2.2.2.1 rfl), h.ok, h.okx, h.rmd.chg hc (fun e => (hS _ e).2.2.2.2.2.2.2.2 rfl), h.ref.chg hc (fun k hk e => (hS k e).1 hk), fun k hk => ?_, h.lo, h.ne, h.chg.trans' hc (fun k hk e => by have := (hS k e).2.1; omega)⟩
  have := h.fl k hk
  exact ⟨by omega, this.2⟩
theorem Bst.still {w0 w w' : World} {t c m p q b R rr : Nat} {F : Nat → Prop} {s : Chp} {r : Int} {x : Chp} {n : Int} (h : Bst w0 w t c m p q b R rr F s r x n) (hc : Chg (fun _ => False) w w') : Bst w0 w' t c m p q b R rr F s r x n := h.junk hc (fun _ f => f.elim)
theorem Bst.drew {w0 w : World} {t c m p q b R rr : Nat} {F : Nat → Prop} {s : Chp} {r : Int} {x : Chp} {n : Int} (h : Bst w0 w t c m p q b R rr F s r x n) : Bst w0 w.drew t c m p q b R rr F s r x n := h.still ((Chg.refl _ w).drew)
/-- The program did something. -/
theorem Bst.prog {w0 w w' : World} {t c m p q b R rr : Nat} {F : Nat → Prop} {s s' : Chp} {r r' : Int} {x : Chp} {n : Int} (h : Bst w0 w t c m p q b R rr F s r x n) (hM : Med w' m c p q b r') (hC : ChipAt w' c s') (ok : s'.Ok) (hc : Chg (fun k => k = m ∨ k = c ∨ k = b) w w') : Bst w0 w' t c m p q b R rr F s' r' x n := by
  have hs := hc.size
  have hn := h.ne
  have hl := h.lo
  refine ⟨h.bth.chg hc (by omega), hM, hC, ok, h.okx, h.rmd.chg hc (by omega), h.ref.chg hc (fun k hk e => by have := h.fl k hk; omega), fun k hk => ?_, h.lo, h.ne, h.chg.trans' hc (fun k hk e => by omega)⟩
  have := h.fl k hk
  exact ⟨by omega, this.2⟩
theorem Bst.chip' {w0 w w' : World} {t c m p q b R rr : Nat} {F : Nat → Prop} {s s' : Chp} {r : Int} {x : Chp} {n : Int} (h : Bst w0 w t c m p q b R rr F s r x n) (hC : ChipAt w' c s') (ok : s'.Ok) (hc : Chg (· = c) w w') : Bst w0 w' t c m p q b R rr F s' r x n :=
  h.prog (h.med.chip h.chip hc) hC ok (hc.mono (fun _ _ e => Or.inr (Or.inl e)))
/-- The document's did something. -/
theorem Bst.refd {w0 w w' : World} {t c m p q b R rr : Nat} {F : Nat → Prop} {s : Chp} {r : Int} {x x' : Chp} {n n' : Int} (h : Bst w0 w t c m p q b R rr F s r x n) (hD : RMd w' R rr n') (hR : RefAt w' rr x' (grow F w w')) (ok : x'.Ok) (hc : Chg (fun k => k = R ∨ F k) w w') : Bst w0 w' t c m p q b R rr (grow F w w') s r x' n' := by
  have hs := hc.size
  have hn := h.ne
  have hl := h.lo
  have hlt := h.lts
  have nS : ∀ k, (k = R ∨ F k) → w0.heap.size ≤ k ∧ k ≠ t ∧ k ≠ c ∧ k ≠ m ∧ k ≠ p ∧ k ≠ q ∧ k ≠ b := fun k e => by
    rcases e with e | e
    · subst e; omega
    · have := h.fl k e; omega
  refine ⟨h.bth.chg hc (fun e => (nS _ e).2.1 rfl), h.med.far hc (fun e => (nS _ e).2.2.2.1 rfl) (fun e => (nS _ e).2.2.2.2.1 rfl) (fun e => (nS _ e).2.2.2.2.2.1 rfl) (fun e => (nS _ e).2.2.2.2.2.2 rfl), h.chip.chg hc (fun e => (nS _ e).2.2.1 rfl), h.ok, ok, hD, hR, fun k hk => ?_, h.lo, h.ne, h.chg.trans' hc (fun k hk e => by have := (nS k e).1; omega)⟩
  rcases hk with hk | hk
  · have := h.fl k hk
    exact ⟨by omega, this.2⟩
  · omega
theorem Bst.chipd {w0 w w' : World} {t c m p q b R rr : Nat} {F : Nat → Prop} {s : Chp} {r : Int} {x x' : Chp} {n : Int} (h : Bst w0 w t c m p q b R rr F s r x n) (hR : RefAt w' rr x' (grow F w w')) (ok : x'.Ok) (hc : Chg F w w') : Bst w0 w' t c m p q b R rr (grow F w w') s r x' n :=
  h.refd (h.rmd.chg hc (fun f => (h.fl _ f).2.2.2.2.2.2.2.2 rfl)) hR ok (hc.mono (fun _ _ e => Or.inr e))
/-- The answer of a step: true, and both stand alike. -/
def StAns (w0 w' : World) (t c m p q b R rr : Nat) (e : Ending) : Prop := e = .returned (.bool true) ∧ ∃ (F' : Nat → Prop) (s' : Chp) (r' : Int), Bst w0 w' t c m p q b R rr F' s' r' s' r'
/-- Block o holds an operation. -/
def Opb (w : World) (o : Nat) (K A B tp tf ts tc : Int) (tl : Bool) (f : Nat) : Prop := w.heap[o]? = some (.cells #[.int .i64 K, .int .i64 A, .int .i64 B, .int .i64 tp, .int .i64 tf, .int .i64 ts, .int .i64 tc, .bool tl, .int .u8 (f : Nat)] 30)
theorem Opb.new (w : World) (K A B tp tf ts tc : Int) (tl : Bool) (f : Nat) : Opb (w.alloc (.cells #[.int .i64 K, .int .i64 A, .int .i64 B, .int .i64 tp, .int .i64 tf, .int .i64 ts, .int .i64 tc, .bool tl, .int .u8 (f : Nat)] 30)) w.heap.size K A B tp tf ts tc tl f := by
  show (w.heap.push _)[w.heap.size]? = _
  simp
theorem Opb.lt {w : World} {o : Nat} {K A B tp tf ts tc : Int} {tl : Bool} {f : Nat} (h : Opb w o K A B tp tf ts tc tl f) : o < w.heap.size := (Array.getElem?_eq_some_iff.1 (show w.heap[o]? = some _ from h)).1
theorem Opb.chg {S : Nat → Prop} {w w' : World} {o : Nat} {K A B tp tf ts tc : Int} {tl : Bool} {f : Nat} (h : Opb w o K A B tp tf ts tc tl f) (hc : Chg S w w') (ho : ¬ S o) : Opb w' o K A B tp tf ts tc tl f := (hc.block o h.lt ho).trans h
theorem Opb.cells {w : World} {o : Nat} {K A B tp tf ts tc : Int} {tl : Bool} {f : Nat} (h : Opb w o K A B tp tf ts tc tl f) : w.cell? ⟨o, 0, none⟩ = some (.int .i64 K) ∧ w.cell? ⟨o, 1, none⟩ = some (.int .i64 A) ∧ w.cell? ⟨o, 2, none⟩ = some (.int .i64 B) ∧ w.cell? ⟨o, 3, none⟩ = some (.int .i64 tp) ∧ w.cell? ⟨o, 4, none⟩ = some (.int .i64 tf) ∧ w.cell? ⟨o, 5, none⟩ = some (.int .i64 ts) ∧ w.cell? ⟨o, 6, none⟩ = some (.int .i64 tc) ∧ w.cell? ⟨o, 7, none⟩ = some (.bool tl) ∧ w.cell? ⟨o, 8, none⟩ = some (.int .u8 (f : Nat)) := by
  have h' : w.heap[o]? = some _ := h
  refine ⟨?_, ?_, ?_, ?_, ?_, ?_, ?_, ?_, ?_⟩ <;> simp [World.cell?, h']
set_option maxHeartbeats 8000000 in
theorem harm_flip (w0 : World) (t c m p q b R rr : Nat) (F : Nat → Prop) (s : Chp) (r : Int) (K A B tp tf ts tc : Int) (tl : Bool) (f : Nat) (w : World) (h : Bst w0 w t c m p q b R rr F s r s r) (hK : -9223372036854775808 ≤ K ∧ K ≤ 9223372036854775807) (hA : A ≤ 9223372036854775807) (hB : B ≤ 9223372036854775807) (hf : f < 256) (hm : pkN K 10 = 3) :
    Calls Tryz.prog 43 #[.pointer (some ⟨t, 0, none⟩), (.agg #[.int .i64 K, .int .i64 A, .int .i64 B, .int .i64 tp, .int .i64 tf, .int .i64 ts, .int .i64 tc, .bool tl, .int .u8 (f : Nat)])] w fun e w' => StAns w0 w' t c m p q b R rr e := by
  have O0 := Opb.new w K A B tp tf ts tc tl f
  have G0 : Chg (fun _ => False) w (w.alloc (.cells #[.int .i64 K, .int .i64 A, .int .i64 B, .int .i64 tp, .int .i64 tf, .int .i64 ts, .int .i64 tc, .bool tl, .int .u8 (f : Nat)] 30)) := (Chg.refl _ w).alloc _
  have S0 := h.still G0
  have hol := h.lts
  have HM := hyd hm
  have hFo : ¬ F w.heap.size := fun f => by have := h.fl _ f; omega
  obtain ⟨o0, o1, o2, o3, o4, o5, o6, o7, o8⟩ := O0.cells
  obtain ⟨t0, t1, t2⟩ := S0.bth.cells
  obtain ⟨R0, R1⟩ := S0.rmd.cells
  have HS0 := hyd S0
  have HO0 := hyd O0
  clear O0 G0 S0 h hm
  go_enter Tryz.func43, Tryz.ntmps43
  go_wp2_with fail
  refine (pick_10 K hK.1 hK.2 _).mono ?_
  rintro e wq ⟨rfl, rfl⟩
  rw [HM.out]
  clear HM
  generalize w.alloc (.cells #[.int .i64 K, .int .i64 A, .int .i64 B, .int .i64 tp, .int .i64 tf, .int .i64 ts, .int .i64 tc, .bool tl, .int .u8 (f : Nat)] 30) = w1 at *
  generalize w.heap.size = o at *
  go_wp2_with fail
  go_region_held3 (fun wx => wx.cell? ⟨t, 0, none⟩ = some (.pointer (some ⟨c, 0, none⟩)) ∧ wx.cell? ⟨o, 1, none⟩ = some (.int .i64 A) ∧ wx.cell? ⟨o, 2, none⟩ = some (.int .i64 B))
    (first | exact ⟨t0, o1, o2⟩ | exact ⟨e0, u1, u2⟩)
    (first
      | (go_at_call 20; refine (flip_any c s HS0.out.ok A B _ HS0.out.drew.chip).mono ?_; rintro x w2 ⟨rfl, C2, G2⟩; have S2 := HS0.out.drew.chip' C2 ((fun h => flipR_ok h A B) HS0.out.ok) G2; have O2 := (HO0.out.chg ((Chg.refl (fun _ => False) w1).drew) (fun f => f)).chg G2 (by omega); obtain ⟨e0, e1, e2⟩ := S2.bth.cells; obtain ⟨E0, E1⟩ := S2.rmd.cells; obtain ⟨-, u1, u2, -⟩ := O2.cells; have HS2 := hyd S2; have HO2 := hyd O2; clear C2 G2 S2 O2))
  clear t0 t1 t2 R0 R1 o0 o1 o2 o3 o4 o5 o6 o7 o8 HO0
  go_wp2_with fail
  go_region_held3 (fun wx => wx.cell? ⟨t, 2, none⟩ = some (.pointer (some ⟨R, 0, none⟩)) ∧ wx.cell? ⟨R, 0, none⟩ = some (.pointer (some ⟨rr, 0, none⟩)) ∧ wx.cell? ⟨o, 1, none⟩ = some (.int .i64 A) ∧ wx.cell? ⟨o, 2, none⟩ = some (.int .i64 B))
    (first | exact ⟨e2, E0, u1, u2⟩ | exact ⟨d2, D0, z1, z2⟩)
    (first
      | (go_at_call 37; refine (ncode_any _ (flipR_code s A B) _).mono ?_; rintro x w3 ⟨rfl, rfl⟩)
      | (go_at_call 67; refine (rflip_any rr s HS2.out.okx F A B _ HS2.out.drew.ref).mono ?_; rintro x w4 ⟨rfl, R3, G3⟩; have S3 := HS2.out.drew.chipd (x' := (flipR s A B).1) (RefAt.mono' R3 (fun k _ hk => Or.inl hk)) ((fun h => flipR_ok h A B) HS2.out.okx) G3; have O3 := (HO2.out.chg ((Chg.refl (fun _ => False) w2).drew) (fun f => f)).chg G3 hFo; obtain ⟨d0, d1, d2⟩ := S3.bth.cells; obtain ⟨D0, D1⟩ := S3.rmd.cells; obtain ⟨-, z1, z2, -⟩ := O3.cells; have HS3 := hyd S3; clear R3 G3 S3 O3))
  clear e0 e1 e2 E0 E1 u1 u2 d0 d1 d2 D0 D1 z1 z2 HS0 HS2 HO2
  have heq : ((((flipR s A B).2 : Nat) : Int) == (((flipR s A B).2 : Nat) : Int)) = true := by simp
  go_wp2
  go_ret
  exact ⟨rfl, _, _, _, HS3.out⟩
set_option maxHeartbeats 8000000 in
theorem harm_failP (w0 : World) (t c m p q b R rr : Nat) (F : Nat → Prop) (s : Chp) (r : Int) (K A B tp tf ts tc : Int) (tl : Bool) (f : Nat) (w : World) (h : Bst w0 w t c m p q b R rr F s r s r) (hK : -9223372036854775808 ≤ K ∧ K ≤ 9223372036854775807) (hA : A ≤ 9223372036854775807) (hB : B ≤ 9223372036854775807) (hf : f < 256) (hm : pkN K 10 = 4) :
    Calls Tryz.prog 43 #[.pointer (some ⟨t, 0, none⟩), (.agg #[.int .i64 K, .int .i64 A, .int .i64 B, .int .i64 tp, .int .i64 tf, .int .i64 ts, .int .i64 tc, .bool tl, .int .u8 (f : Nat)])] w fun e w' => StAns w0 w' t c m p q b R rr e := by
  have O0 := Opb.new w K A B tp tf ts tc tl f
  have G0 : Chg (fun _ => False) w (w.alloc (.cells #[.int .i64 K, .int .i64 A, .int .i64 B, .int .i64 tp, .int .i64 tf, .int .i64 ts, .int .i64 tc, .bool tl, .int .u8 (f : Nat)] 30)) := (Chg.refl _ w).alloc _
  have S0 := h.still G0
  have hol := h.lts
  have HM := hyd hm
  have hFo : ¬ F w.heap.size := fun f => by have := h.fl _ f; omega
  obtain ⟨o0, o1, o2, o3, o4, o5, o6, o7, o8⟩ := O0.cells
  obtain ⟨t0, t1, t2⟩ := S0.bth.cells
  obtain ⟨R0, R1⟩ := S0.rmd.cells
  have HS0 := hyd S0
  have HO0 := hyd O0
  clear O0 G0 S0 h hm
  go_enter Tryz.func43, Tryz.ntmps43
  go_wp2_with fail
  refine (pick_10 K hK.1 hK.2 _).mono ?_
  rintro e wq ⟨rfl, rfl⟩
  rw [HM.out]
  clear HM
  generalize w.alloc (.cells #[.int .i64 K, .int .i64 A, .int .i64 B, .int .i64 tp, .int .i64 tf, .int .i64 ts, .int .i64 tc, .bool tl, .int .u8 (f : Nat)] 30) = w1 at *
  generalize w.heap.size = o at *
  go_wp2_with fail
  go_region_held3 (fun wx => wx.cell? ⟨t, 0, none⟩ = some (.pointer (some ⟨c, 0, none⟩)) ∧ wx.cell? ⟨o, 1, none⟩ = some (.int .i64 A) ∧ wx.cell? ⟨o, 2, none⟩ = some (.int .i64 B))
    (first | exact ⟨t0, o1, o2⟩ | exact ⟨e0, u1, u2⟩)
    (first
      | (go_at_call 68; refine (failP_any c s A B _ HS0.out.drew.chip).mono ?_; rintro x w2 ⟨rfl, C2, G2⟩; have S2 := HS0.out.drew.chip' C2 ((fun h => failPR_ok h A B (by omega)) HS0.out.ok) G2; have O2 := (HO0.out.chg ((Chg.refl (fun _ => False) w1).drew) (fun f => f)).chg G2 (by omega); obtain ⟨e0, e1, e2⟩ := S2.bth.cells; obtain ⟨E0, E1⟩ := S2.rmd.cells; obtain ⟨-, u1, u2, -⟩ := O2.cells; have HS2 := hyd S2; have HO2 := hyd O2; clear C2 G2 S2 O2))
  clear t0 t1 t2 R0 R1 o0 o1 o2 o3 o4 o5 o6 o7 o8 HO0
  go_wp2_with fail
  go_region_held3 (fun wx => wx.cell? ⟨t, 2, none⟩ = some (.pointer (some ⟨R, 0, none⟩)) ∧ wx.cell? ⟨R, 0, none⟩ = some (.pointer (some ⟨rr, 0, none⟩)) ∧ wx.cell? ⟨o, 1, none⟩ = some (.int .i64 A) ∧ wx.cell? ⟨o, 2, none⟩ = some (.int .i64 B))
    (first | exact ⟨e2, E0, u1, u2⟩ | exact ⟨d2, D0, z1, z2⟩)
    (first
      | (go_at_call 37; refine (ncode_any _ (failPR_code s A B) _).mono ?_; rintro x w3 ⟨rfl, rfl⟩)
      | (go_at_call 69; refine (rfailP_any rr s F A B (by omega) _ HS2.out.drew.ref).mono ?_; rintro x w4 ⟨rfl, R3, G3⟩; have S3 := HS2.out.drew.chipd (x' := (failPR s A B).1) (RefAt.mono' R3 (fun k _ hk => Or.inl hk)) ((fun h => failPR_ok h A B (by omega)) HS2.out.okx) G3; have O3 := (HO2.out.chg ((Chg.refl (fun _ => False) w2).drew) (fun f => f)).chg G3 hFo; obtain ⟨d0, d1, d2⟩ := S3.bth.cells; obtain ⟨D0, D1⟩ := S3.rmd.cells; obtain ⟨-, z1, z2, -⟩ := O3.cells; have HS3 := hyd S3; clear R3 G3 S3 O3))
  clear e0 e1 e2 E0 E1 u1 u2 d0 d1 d2 D0 D1 z1 z2 HS0 HS2 HO2
  have heq : ((((failPR s A B).2 : Nat) : Int) == (((failPR s A B).2 : Nat) : Int)) = true := by simp
  go_wp2
  go_ret
  exact ⟨rfl, _, _, _, HS3.out⟩
set_option maxHeartbeats 8000000 in
theorem harm_failE (w0 : World) (t c m p q b R rr : Nat) (F : Nat → Prop) (s : Chp) (r : Int) (K A B tp tf ts tc : Int) (tl : Bool) (f : Nat) (w : World) (h : Bst w0 w t c m p q b R rr F s r s r) (hK : -9223372036854775808 ≤ K ∧ K ≤ 9223372036854775807) (hA : A ≤ 9223372036854775807) (hB : B ≤ 9223372036854775807) (hf : f < 256) (hm : pkN K 10 = 5) :
    Calls Tryz.prog 43 #[.pointer (some ⟨t, 0, none⟩), (.agg #[.int .i64 K, .int .i64 A, .int .i64 B, .int .i64 tp, .int .i64 tf, .int .i64 ts, .int .i64 tc, .bool tl, .int .u8 (f : Nat)])] w fun e w' => StAns w0 w' t c m p q b R rr e := by
  have O0 := Opb.new w K A B tp tf ts tc tl f
  have G0 : Chg (fun _ => False) w (w.alloc (.cells #[.int .i64 K, .int .i64 A, .int .i64 B, .int .i64 tp, .int .i64 tf, .int .i64 ts, .int .i64 tc, .bool tl, .int .u8 (f : Nat)] 30)) := (Chg.refl _ w).alloc _
  have S0 := h.still G0
  have hol := h.lts
  have HM := hyd hm
  have hFo : ¬ F w.heap.size := fun f => by have := h.fl _ f; omega
  obtain ⟨o0, o1, o2, o3, o4, o5, o6, o7, o8⟩ := O0.cells
  obtain ⟨t0, t1, t2⟩ := S0.bth.cells
  obtain ⟨R0, R1⟩ := S0.rmd.cells
  have HS0 := hyd S0
  have HO0 := hyd O0
  clear O0 G0 S0 h hm
  go_enter Tryz.func43, Tryz.ntmps43
  go_wp2_with fail
  refine (pick_10 K hK.1 hK.2 _).mono ?_
  rintro e wq ⟨rfl, rfl⟩
  rw [HM.out]
  clear HM
  generalize w.alloc (.cells #[.int .i64 K, .int .i64 A, .int .i64 B, .int .i64 tp, .int .i64 tf, .int .i64 ts, .int .i64 tc, .bool tl, .int .u8 (f : Nat)] 30) = w1 at *
  generalize w.heap.size = o at *
  go_wp2_with fail
  go_region_held3 (fun wx => wx.cell? ⟨t, 0, none⟩ = some (.pointer (some ⟨c, 0, none⟩)) ∧ wx.cell? ⟨o, 1, none⟩ = some (.int .i64 A))
    (first | exact ⟨t0, o1⟩ | exact ⟨e0, u1⟩)
    (first
      | (go_at_call 70; refine (failE_any c s A _ HS0.out.drew.chip).mono ?_; rintro x w2 ⟨rfl, C2, G2⟩; have S2 := HS0.out.drew.chip' C2 ((fun h => failER_ok h A) HS0.out.ok) G2; have O2 := (HO0.out.chg ((Chg.refl (fun _ => False) w1).drew) (fun f => f)).chg G2 (by omega); obtain ⟨e0, e1, e2⟩ := S2.bth.cells; obtain ⟨E0, E1⟩ := S2.rmd.cells; obtain ⟨-, u1, u2, -⟩ := O2.cells; have HS2 := hyd S2; have HO2 := hyd O2; clear C2 G2 S2 O2))
  clear t0 t1 t2 R0 R1 o0 o1 o2 o3 o4 o5 o6 o7 o8 HO0
  go_wp2_with fail
  go_region_held3 (fun wx => wx.cell? ⟨t, 2, none⟩ = some (.pointer (some ⟨R, 0, none⟩)) ∧ wx.cell? ⟨R, 0, none⟩ = some (.pointer (some ⟨rr, 0, none⟩)) ∧ wx.cell? ⟨o, 1, none⟩ = some (.int .i64 A))
    (first | exact ⟨e2, E0, u1⟩ | exact ⟨d2, D0, z1⟩)
    (first
      | (go_at_call 37; refine (ncode_any _ (failER_code s A) _).mono ?_; rintro x w3 ⟨rfl, rfl⟩)
      | (go_at_call 71; refine (rfailE_any rr s F A _ HS2.out.drew.ref).mono ?_; rintro x w4 ⟨rfl, R3, G3⟩; have S3 := HS2.out.drew.chipd (x' := (failER s A).1) (RefAt.mono' R3 (fun k _ hk => Or.inl hk)) ((fun h => failER_ok h A) HS2.out.okx) G3; have O3 := (HO2.out.chg ((Chg.refl (fun _ => False) w2).drew) (fun f => f)).chg G3 hFo; obtain ⟨d0, d1, d2⟩ := S3.bth.cells; obtain ⟨D0, D1⟩ := S3.rmd.cells; obtain ⟨-, z1, z2, -⟩ := O3.cells; have HS3 := hyd S3; clear R3 G3 S3 O3))
  clear e0 e1 e2 E0 E1 u1 u2 d0 d1 d2 D0 D1 z1 z2 HS0 HS2 HO2
  have heq : ((((failER s A).2 : Nat) : Int) == (((failER s A).2 : Nat) : Int)) = true := by simp
  go_wp2
  go_ret
  exact ⟨rfl, _, _, _, HS3.out⟩
set_option maxHeartbeats 8000000 in
theorem harm_cut (w0 : World) (t c m p q b R rr : Nat) (F : Nat → Prop) (s : Chp) (r : Int) (K A B tp tf ts tc : Int) (tl : Bool) (f : Nat) (w : World) (h : Bst w0 w t c m p q b R rr F s r s r) (hK : -9223372036854775808 ≤ K ∧ K ≤ 9223372036854775807) (hA : A ≤ 9223372036854775807) (hB : B ≤ 9223372036854775807) (hf : f < 256) (hm : pkN K 10 = 6) :
    Calls Tryz.prog 43 #[.pointer (some ⟨t, 0, none⟩), (.agg #[.int .i64 K, .int .i64 A, .int .i64 B, .int .i64 tp, .int .i64 tf, .int .i64 ts, .int .i64 tc, .bool tl, .int .u8 (f : Nat)])] w fun e w' => StAns w0 w' t c m p q b R rr e := by
  have O0 := Opb.new w K A B tp tf ts tc tl f
  have G0 : Chg (fun _ => False) w (w.alloc (.cells #[.int .i64 K, .int .i64 A, .int .i64 B, .int .i64 tp, .int .i64 tf, .int .i64 ts, .int .i64 tc, .bool tl, .int .u8 (f : Nat)] 30)) := (Chg.refl _ w).alloc _
  have S0 := h.still G0
  have hol := h.lts
  have HM := hyd hm
  have hFo : ¬ F w.heap.size := fun f => by have := h.fl _ f; omega
  obtain ⟨o0, o1, o2, o3, o4, o5, o6, o7, o8⟩ := O0.cells
  obtain ⟨t0, t1, t2⟩ := S0.bth.cells
  obtain ⟨R0, R1⟩ := S0.rmd.cells
  have HS0 := hyd S0
  have HO0 := hyd O0
  clear O0 G0 S0 h hm
  go_enter Tryz.func43, Tryz.ntmps43
  go_wp2_with fail
  refine (pick_10 K hK.1 hK.2 _).mono ?_
  rintro e wq ⟨rfl, rfl⟩
  rw [HM.out]
  clear HM
  generalize w.alloc (.cells #[.int .i64 K, .int .i64 A, .int .i64 B, .int .i64 tp, .int .i64 tf, .int .i64 ts, .int .i64 tc, .bool tl, .int .u8 (f : Nat)] 30) = w1 at *
  generalize w.heap.size = o at *
  go_wp2_with fail
  go_region_held3 (fun wx => wx.cell? ⟨t, 0, none⟩ = some (.pointer (some ⟨c, 0, none⟩)) ∧ wx.cell? ⟨o, 1, none⟩ = some (.int .i64 A))
    (first | exact ⟨t0, o1⟩ | exact ⟨e0, u1⟩)
    (first
      | (go_at_call 25; refine (ncut_any c s A _ HS0.out.drew.chip).mono ?_; rintro x w2 ⟨rfl, C2, G2⟩; have S2 := HS0.out.drew.chip' C2 ((fun h => cutR_ok h A (by omega)) HS0.out.ok) G2; have O2 := (HO0.out.chg ((Chg.refl (fun _ => False) w1).drew) (fun f => f)).chg G2 (by omega); obtain ⟨e0, e1, e2⟩ := S2.bth.cells; obtain ⟨E0, E1⟩ := S2.rmd.cells; obtain ⟨-, u1, u2, -⟩ := O2.cells; have HS2 := hyd S2; have HO2 := hyd O2; clear C2 G2 S2 O2))
  clear t0 t1 t2 R0 R1 o0 o1 o2 o3 o4 o5 o6 o7 o8 HO0
  go_wp2_with fail
  go_region_held3 (fun wx => wx.cell? ⟨t, 2, none⟩ = some (.pointer (some ⟨R, 0, none⟩)) ∧ wx.cell? ⟨R, 0, none⟩ = some (.pointer (some ⟨rr, 0, none⟩)) ∧ wx.cell? ⟨o, 1, none⟩ = some (.int .i64 A))
    (first | exact ⟨e2, E0, u1⟩ | exact ⟨d2, D0, z1⟩)
    (first
      | (go_at_call 37; refine (ncode_any _ (cutR_code s A) _).mono ?_; rintro x w3 ⟨rfl, rfl⟩)
      | (go_at_call 72; refine (rcut_any rr s F A (by omega) _ HS2.out.drew.ref).mono ?_; rintro x w4 ⟨rfl, R3, G3⟩; have S3 := HS2.out.drew.chipd (x' := (cutR s A).1) (RefAt.mono' R3 (fun k _ hk => Or.inl hk)) ((fun h => cutR_ok h A (by omega)) HS2.out.okx) G3; have O3 := (HO2.out.chg ((Chg.refl (fun _ => False) w2).drew) (fun f => f)).chg G3 hFo; obtain ⟨d0, d1, d2⟩ := S3.bth.cells; obtain ⟨D0, D1⟩ := S3.rmd.cells; obtain ⟨-, z1, z2, -⟩ := O3.cells; have HS3 := hyd S3; clear R3 G3 S3 O3))
  clear e0 e1 e2 E0 E1 u1 u2 d0 d1 d2 D0 D1 z1 z2 HS0 HS2 HO2
  have heq : ((((cutR s A).2 : Nat) : Int) == (((cutR s A).2 : Nat) : Int)) = true := by simp
  go_wp2
  go_ret
  exact ⟨rfl, _, _, _, HS3.out⟩
end Go.Proofs.YtifjmilegogbaaaGreat
