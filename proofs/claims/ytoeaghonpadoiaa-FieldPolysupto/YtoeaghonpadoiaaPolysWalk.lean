/-
  What patinalaw01.FieldPolys does: it answers true, and leaves what was there as it was. Condition: its arguments are slices of bytes within the bound of the statement's second form, and a byte.
-/
import Derived.Test.YtoeaghonpadoiaaTimesWalk
import Derived.Test.YtoeaghonpadoiaaApartWalk
import Derived.Test.YtoeaghonpadoiaaLent
import Derived.Test.YtoeaghonpadoiaaRefTimes
import Derived.Test.YtoeaghonpadoiaaPolyComm
namespace Go.Proofs.Ytoeaghonpadoiaa
open Go.RowKit

theorem Held.chg0 {S : Nat → Prop} {w w' : World} {v : Value} {l : List Nat} (h : Held w v l) (hc : Chg S w w') (hs : l.length ≠ 0 → ∀ k, k < w.heap.size → v.ownBlock = some k → ¬ S k) : Held w' v l := by
  by_cases h0 : l.length = 0
  · obtain ⟨a, cap, rfl, _⟩ := h
    exact ⟨a, cap, rfl, Or.inl h0⟩
  · exact h.chg hc (hs h0)
/-- What the law holds while it goes: what came in, the Field, the two lists that are lent. B, B1, B2, B3: how many blocks there were ahead of the Field, of the first list, of the second one, and behind them. -/
structure Pst (w0 w : World) (b B1 B2 B3 s1 f1 g1 s2 f2 g2 : Nat) (v0 v1 : Value) (p q la ma lb mb : List Nat) (n1 n2 : Nat) : Prop where
  below : Below w0.heap.size w0 w
  fld : Fld w b
  ord : w0.heap.size ≤ b ∧ b < B1 ∧ B1 ≤ B2 ∧ B2 ≤ B3 ∧ B3 ≤ w.heap.size
  up1 : s1 < B2 ∧ f1 < B2 ∧ g1 < B2
  up2 : s2 < B3 ∧ f2 < B3 ∧ g2 < B3
  la : LentAt w B1 s1 f1 g1 la ma n1
  lb : LentAt w B2 s2 f2 g2 lb mb n2
  hp : Held w v0 p
  hq : Held w v1 q
  bp : p.length ≠ 0 → ∀ k, v0.ownBlock = some k → k < w0.heap.size
  bq : q.length ≠ 0 → ∀ k, v1.ownBlock = some k → k < w0.heap.size
theorem Pst.ask {w0 w w' : World} {b B1 B2 B3 s1 f1 g1 s2 f2 g2 : Nat} {v0 v1 : Value} {p q la ma lb mb : List Nat} {n1 n2 : Nat} (h : Pst w0 w b B1 B2 B3 s1 f1 g1 s2 f2 g2 v0 v1 p q la ma lb mb n1 n2)
    (hF : Fld w' b) (hC : But b w w') : Pst w0 w' b B1 B2 B3 s1 f1 g1 s2 f2 g2 v0 v1 p q la ma lb mb n1 n2 := by
  obtain ⟨o1, o2, o3, o4, o5⟩ := h.ord
  have a1 := h.la.lts
  have a2 := h.lb.lts
  have hc := hC.chg
  have hs := hC.size
  exact ⟨h.below.trans (hC.below o1 (by omega)), hF, ⟨o1, o2, o3, o4, by omega⟩, h.up1, h.up2, h.la.chg hc (by omega) (by omega) (by omega), h.lb.chg hc (by omega) (by omega) (by omega),
    h.hp.chg0 hc (fun h0 k _ he => by have := h.bp h0 k he; omega), h.hq.chg0 hc (fun h0 k _ he => by have := h.bq h0 k he; omega), h.bp, h.bq⟩
theorem Pst.quiet {w0 w w' : World} {b B1 B2 B3 s1 f1 g1 s2 f2 g2 : Nat} {v0 v1 : Value} {p q la ma lb mb : List Nat} {n1 n2 : Nat} (h : Pst w0 w b B1 B2 B3 s1 f1 g1 s2 f2 g2 v0 v1 p q la ma lb mb n1 n2)
    (hC : Chg (fun _ => False) w w') : Pst w0 w' b B1 B2 B3 s1 f1 g1 s2 f2 g2 v0 v1 p q la ma lb mb n1 n2 :=
  h.ask (h.fld.other (hC.block b h.fld.lt (fun f => f))) hC.but
/-- A step that changes new blocks alone. -/
theorem Pst.far {S : Nat → Prop} {w0 w w' : World} {b B1 B2 B3 s1 f1 g1 s2 f2 g2 : Nat} {v0 v1 : Value} {p q la ma lb mb : List Nat} {n1 n2 : Nat} (h : Pst w0 w b B1 B2 B3 s1 f1 g1 s2 f2 g2 v0 v1 p q la ma lb mb n1 n2)
    (hC : Chg S w w') (hS : ∀ k, S k → B3 ≤ k) : Pst w0 w' b B1 B2 B3 s1 f1 g1 s2 f2 g2 v0 v1 p q la ma lb mb n1 n2 := by
  obtain ⟨o1, o2, o3, o4, o5⟩ := h.ord
  have a1 := h.la.lts
  have a2 := h.lb.lts
  have u1 := h.up1
  have u2 := h.up2
  have hs := hC.size
  have nS : ∀ k, k < B3 → ¬ S k := fun k hk hh => by have := hS k hh; omega
  exact ⟨h.below.trans (hC.below (fun k hk => by have := hS k hk; omega) (by omega)), h.fld.other (hC.block b (by omega) (nS b (by omega))), ⟨o1, o2, o3, o4, by omega⟩, h.up1, h.up2,
    h.la.chg hC (nS _ (by omega)) (nS _ (by omega)) (nS _ (by omega)), h.lb.chg hC (nS _ (by omega)) (nS _ (by omega)) (nS _ (by omega)),
    h.hp.chg0 hC (fun h0 k _ he => nS k (by have := h.bp h0 k he; omega)), h.hq.chg0 hC (fun h0 k _ he => nS k (by have := h.bq h0 k he; omega)), h.bp, h.bq⟩
/-- The first list's owner writes over it. -/
theorem Pst.turnA {w0 w w' : World} {b B1 B2 B3 s1 f1 g1 s2 f2 g2 : Nat} {v0 v1 : Value} {p q la ma lb mb la' ma' : List Nat} {n1 n2 : Nat} (h : Pst w0 w b B1 B2 B3 s1 f1 g1 s2 f2 g2 v0 v1 p q la ma lb mb n1 n2)
    (hL : LentAt w' B1 s1 f1 g1 la' ma' n1) (hC : Chg (fun k => k = f1 ∨ k = g1) w w') : Pst w0 w' b B1 B2 B3 s1 f1 g1 s2 f2 g2 v0 v1 p q la' ma' lb mb n1 n2 := by
  obtain ⟨o1, o2, o3, o4, o5⟩ := h.ord
  have a1 := h.la.lts
  have a2 := h.lb.lts
  have u1 := h.up1
  have u2 := h.up2
  have hs := hC.size
  exact ⟨h.below.trans (hC.below (fun k hk => by omega) (by omega)), h.fld.other (hC.block b (by omega) (by omega)), ⟨o1, o2, o3, o4, by omega⟩, h.up1, h.up2, hL, h.lb.chg hC (by omega) (by omega) (by omega),
    h.hp.chg0 hC (fun h0 k _ he => by have := h.bp h0 k he; omega), h.hq.chg0 hC (fun h0 k _ he => by have := h.bq h0 k he; omega), h.bp, h.bq⟩
theorem Pst.turnB {w0 w w' : World} {b B1 B2 B3 s1 f1 g1 s2 f2 g2 : Nat} {v0 v1 : Value} {p q la ma lb mb lb' mb' : List Nat} {n1 n2 : Nat} (h : Pst w0 w b B1 B2 B3 s1 f1 g1 s2 f2 g2 v0 v1 p q la ma lb mb n1 n2)
    (hL : LentAt w' B2 s2 f2 g2 lb' mb' n2) (hC : Chg (fun k => k = f2 ∨ k = g2) w w') : Pst w0 w' b B1 B2 B3 s1 f1 g1 s2 f2 g2 v0 v1 p q la ma lb' mb' n1 n2 := by
  obtain ⟨o1, o2, o3, o4, o5⟩ := h.ord
  have a1 := h.la.lts
  have a2 := h.lb.lts
  have u1 := h.up1
  have u2 := h.up2
  have hs := hC.size
  exact ⟨h.below.trans (hC.below (fun k hk => by omega) (by omega)), h.fld.other (hC.block b (by omega) (by omega)), ⟨o1, o2, o3, o4, by omega⟩, h.up1, h.up2, h.la.chg hC (by omega) (by omega) (by omega), hL,
    h.hp.chg0 hC (fun h0 k _ he => by have := h.bp h0 k he; omega), h.hq.chg0 hC (fun h0 k _ he => by have := h.bq h0 k he; omega), h.bp, h.bq⟩
/-- What can be read outside block b. -/
theorem Held.rd {w : World} {b n cap : Nat} {a : Option Addr} {l : List Nat} (h : Held w (.slice a n cap) l) (hl : Bys l) (hb : l.length ≠ 0 → ∀ k, (Value.slice a n cap).ownBlock = some k → k ≠ b) : Rd w b a l := by
  obtain ⟨a', c', hv, h⟩ := h
  simp only [Value.slice.injEq] at hv
  obtain ⟨rfl, rfl, rfl⟩ := hv
  refine ⟨hl, ?_⟩
  by_cases h0 : l.length = 0
  · exact Or.inl (List.length_eq_zero_iff.1 h0)
  · obtain ⟨g, o, rfl, hg, hc⟩ := h.resolve_left h0
    exact Or.inr ⟨g, o, rfl, hb h0 g rfl, hg, hc⟩
theorem Rd.held {w : World} {b n cap : Nat} {a : Option Addr} {l : List Nat} (h : Rd w b a l) (hn : n = l.length) : Held w (.slice a n cap) l := by
  subst hn
  refine ⟨a, cap, rfl, ?_⟩
  rcases h.2 with h | ⟨c, o, ha, _, hlt, hcell⟩
  · exact Or.inl (by rw [h]; rfl)
  · exact Or.inr ⟨c, o, ha, hlt, hcell⟩
theorem take_mrk (l : List Nat) : (l ++ mrk 5).take l.length = l := by simp
theorem mrk_len (l : List Nat) : (l ++ mrk 5).length = l.length + 5 := by rw [List.length_append, mrk_length]

set_option maxRecDepth 100000 in
set_option maxHeartbeats 4000000 in
theorem polys_go (a0 a1 : Option Addr) (cap0 cap1 : Nat) (p q : List Nat) (x : Nat) (hx : x < 256) (w : World) (hlen : p.length ≤ 1048576) (hlen2 : q.length ≤ 1048576)
    (hno : a0 = none → p.length = 0 ∧ cap0 = 0) (hno1 : a1 = none → q.length = 0 ∧ cap1 = 0)
    (hp : ∀ b, w.heap.size ≤ b → Rd w b a0 p) (hq : ∀ b, w.heap.size ≤ b → Rd w b a1 q)
    (bp : p.length ≠ 0 → ∀ k, (Value.slice a0 p.length cap0).ownBlock = some k → k < w.heap.size) (bq : q.length ≠ 0 → ∀ k, (Value.slice a1 q.length cap1).ownBlock = some k → k < w.heap.size) :
    Calls Try.prog 5 #[.slice a0 p.length cap0, .slice a1 q.length cap1, .int .u8 (x : Int)] w fun e w' => e = .returned (.bool true) ∧ Below w.heap.size w w' := by
  have HBP := hid bp
  have HBQ := hid bq
  clear bp bq
  go_enter Try.func5, Try.ntmps5
  go_wp2_with fail
  refine (shown_any _).mono ?_
  rintro e w1 ⟨rfl, hB1⟩
  have hz1 := hB1.size
  go_wp2_with fail
  refine (new_any _).mono ?_
  rintro e w2 ⟨rfl, hw2⟩
  have hF2 : Fld w2 w1.heap.size := by rw [hw2]; exact Fld.new w1
  have hB2 : Below w.heap.size w w2 := by rw [hw2]; exact hB1.alloc hz1 _
  have hz2 : w1.heap.size < w2.heap.size := by rw [hw2]; simp
  clear hw2 hB1
  generalize w1.heap.size = b at *
  have hp2 : Held w2 (.slice a0 p.length cap0) p := ((hp b hz1).below hB2 (Nat.le_refl _)).held rfl
  have hq2 : Held w2 (.slice a1 q.length cap1) q := ((hq b hz1).below hB2 (Nat.le_refl _)).held rfl
  have hpb : Bys p := (hp b hz1).1
  have hqb : Bys q := (hq b hz1).1
  clear hp hq
  go_wp2_with fail
  refine (lend_any _ a0 p cap0 hno hp2 (by omega)).mono ?_
  rintro e w3 ⟨s1, f1, g1, rfl, hL1, hC3⟩
  go_wp2_with fail
  refine (lend_any _ a1 q cap1 hno1 (hq2.chg hC3 (fun _ _ _ f => f)) (by omega)).mono ?_
  rintro e w4 ⟨s2, f2, g2, rfl, hL2, hC4⟩
  have hS : Pst w w4 b w2.heap.size w3.heap.size w4.heap.size s1 f1 g1 s2 f2 g2 (.slice a0 p.length cap0) (.slice a1 q.length cap1) p q (p ++ mrk 5) (p ++ mrk 5) (q ++ mrk 5) (q ++ mrk 5) p.length q.length := by
    have a1 := hL1.lts
    have a2 := hL2.lts
    have c3 := hC3.size
    have c4 := hC4.size
    have hC := hC3.trans hC4
    exact ⟨hB2.trans (hC.below (fun _ f => f.elim) (by omega)), hF2.other (hC.block b hz2 (fun f => f)), ⟨hz1, hz2, c3, c4, Nat.le_refl _⟩, ⟨by omega, by omega, by omega⟩, ⟨by omega, by omega, by omega⟩,
      hL1.chg hC4 (fun f => f) (fun f => f) (fun f => f), hL2, hp2.chg hC (fun _ _ _ f => f), hq2.chg hC (fun _ _ _ f => f), HBP.out, HBQ.out⟩
  clear hF2 hB2 hz2 hp2 hq2 hL1 hL2 hC3 hC4
  generalize w2.heap.size = B1 at *
  generalize w3.heap.size = B2 at *
  generalize w4.heap.size = B3 at *
  go_wp2_with fail
  refine (bytes_any _ B1 s1 f1 g1 p.length (p ++ mrk 5) (p ++ mrk 5) hS.la (by rw [mrk_len]; omega) (by rw [mrk_len]; omega) (by rw [mrk_len]; omega)).mono ?_
  rintro e w5 ⟨cX, rfl, hH, _, hC⟩
  rw [take_mrk] at hH
  have hHX := hH.chg hC (fun _ _ _ f => f)
  have hS' := hS.quiet hC
  clear hS hH hC
  have hS := hS'
  clear hS'
  go_wp2_with fail
  have hfb : f1 ≠ b ∧ f2 ≠ b := by have h1 := hS.la.lts; have h2 := hS.lb.lts; have h3 := hS.ord; omega
  refine (eval_any b _ hS.fld (some ⟨f1, 0, none⟩) _ cX p rfl (by omega) x hx (hHX.rd hpb (fun _ k he => by have := Option.some.inj he; simp only at this; omega))).mono ?_
  rintro e w6 ⟨rfl, hF, hC⟩
  have hS' := hS.ask hF hC
  clear hS hF hC hHX
  have hS := hS'
  clear hS'
  go_wp2_with fail
  refine (bytes_any _ B1 s1 f1 g1 p.length (p ++ mrk 5) (p ++ mrk 5) hS.la (by rw [mrk_len]; omega) (by rw [mrk_len]; omega) (by rw [mrk_len]; omega)).mono ?_
  rintro e w7 ⟨cA, rfl, hH, _, hC⟩
  rw [take_mrk] at hH
  have hHA := hH.chg hC (fun _ _ _ f => f)
  have hS' := hS.quiet hC
  clear hS hH hC
  have hS := hS'
  clear hS'
  go_wp2_with fail
  refine (bytes_any _ B2 s2 f2 g2 q.length (q ++ mrk 5) (q ++ mrk 5) hS.lb (by rw [mrk_len]; omega) (by rw [mrk_len]; omega) (by rw [mrk_len]; omega)).mono ?_
  rintro e w8 ⟨cBb, rfl, hH, _, hC⟩
  rw [take_mrk] at hH
  have hHBb := hH.chg hC (fun _ _ _ f => f)
  have hS' := hS.quiet hC
  have hHA' := hHA.chg hC (fun _ _ _ f => f)
  clear hHA
  have hHA := hHA'
  clear hHA'
  clear hS hH hC
  have hS := hS'
  clear hS'
  go_wp2_with fail
  refine (times_any b _ hS.fld (some ⟨f1, 0, none⟩) (some ⟨f2, 0, none⟩) _ cA _ cBb p q rfl rfl (by omega) (by omega) (hHA.rd hpb (fun _ k he => by have := Option.some.inj he; simp only at this; omega)) (hHBb.rd hqb (fun _ k he => by have := Option.some.inj he; simp only at this; omega))).mono ?_
  rintro e w9 ⟨tA, tN, rfl, hm, ht, hF, hC⟩
  have hOt : Own w9 w8.heap.size 5 (.slice tA tN tN) (tm p q) := by
    rcases ht with ⟨h0, rfl⟩ | ⟨h1, h2, rfl, hP⟩
    · rw [hm, tm_nil h0]; exact Own.nil _ _ _
    · rw [hm]; exact Own.of_bat hP (Nat.le_refl _) (by rw [tm_length _ _ h1 h2]; unfold maxLen; omega)
  have Htm := hid hm
  have hB3t : B3 ≤ w8.heap.size := hS.ord.2.2.2.2
  have hS' := hS.ask hF hC
  clear hS hF hC hm ht hHA hHBb
  have hS := hS'
  clear hS'
  go_wp2_with fail
  refine (bytes_any _ B2 s2 f2 g2 q.length (q ++ mrk 5) (q ++ mrk 5) hS.lb (by rw [mrk_len]; omega) (by rw [mrk_len]; omega) (by rw [mrk_len]; omega)).mono ?_
  rintro e w10 ⟨cCc, rfl, hH, _, hC⟩
  rw [take_mrk] at hH
  have hHCc := hH.chg hC (fun _ _ _ f => f)
  have hS' := hS.quiet hC
  have hOt' := hOt.chg hC (fun _ _ _ f => f)
  clear hOt
  have hOt := hOt'
  clear hOt'
  clear hS hH hC
  have hS := hS'
  clear hS'
  go_wp2_with fail
  refine (bytes_any _ B1 s1 f1 g1 p.length (p ++ mrk 5) (p ++ mrk 5) hS.la (by rw [mrk_len]; omega) (by rw [mrk_len]; omega) (by rw [mrk_len]; omega)).mono ?_
  rintro e w11 ⟨cDd, rfl, hH, _, hC⟩
  rw [take_mrk] at hH
  have hHDd := hH.chg hC (fun _ _ _ f => f)
  have hS' := hS.quiet hC
  have hOt' := hOt.chg hC (fun _ _ _ f => f)
  clear hOt
  have hOt := hOt'
  clear hOt'
  have hHCc' := hHCc.chg hC (fun _ _ _ f => f)
  clear hHCc
  have hHCc := hHCc'
  clear hHCc'
  clear hS hH hC
  have hS := hS'
  clear hS'
  go_wp2_with fail
  refine (times_any b _ hS.fld (some ⟨f2, 0, none⟩) (some ⟨f1, 0, none⟩) _ cCc _ cDd q p rfl rfl (by omega) (by omega) (hHCc.rd hqb (fun _ k he => by have := Option.some.inj he; simp only at this; omega)) (hHDd.rd hpb (fun _ k he => by have := Option.some.inj he; simp only at this; omega))).mono ?_
  rintro e w12 ⟨uA, uN, rfl, hm, ht, hF, hC⟩
  have hOu : Own w12 w11.heap.size 5 (.slice uA uN uN) (tm q p) := by
    rcases ht with ⟨h0, rfl⟩ | ⟨h1, h2, rfl, hP⟩
    · rw [hm, tm_nil h0]; exact Own.nil _ _ _
    · rw [hm]; exact Own.of_bat hP (Nat.le_refl _) (by rw [tm_length _ _ h1 h2]; unfold maxLen; omega)
  have Hum := hid hm
  have hB3u : B3 ≤ w11.heap.size := hS.ord.2.2.2.2
  have hS' := hS.ask hF hC
  have HBhOt := hid (fun k (hk : (Value.slice tA tN tN).ownBlock = some k) => (hOt.block hk).2)
  have hOt' := hOt.chg hC.chg (fun k hk he => by have h3 := hS.ord; have := (hOt.block he).1; omega)
  clear hOt
  have hOt := hOt'
  clear hOt'
  clear hS hF hC hm ht hHCc hHDd
  have hS := hS'
  clear hS'
  go_wp2_with fail
  refine (kept_any _ B1 s1 f1 g1 p.length (p ++ mrk 5) (p ++ mrk 5) hS.la (by rw [mrk_len]; omega) (by rw [mrk_len]; omega)).mono ?_
  rintro e w13 ⟨rfl, hC⟩
  rw [decide_eq_true (rfl : (p ++ mrk 5) = (p ++ mrk 5))]
  have hS' := hS.quiet hC
  have hOt' := hOt.chg hC (fun _ _ _ f => f)
  clear hOt
  have hOt := hOt'
  clear hOt'
  have hOu' := hOu.chg hC (fun _ _ _ f => f)
  clear hOu
  have hOu := hOu'
  clear hOu'
  clear hS hC
  have hS := hS'
  clear hS'
  go_wp2_with fail
  refine (kept_any _ B2 s2 f2 g2 q.length (q ++ mrk 5) (q ++ mrk 5) hS.lb (by rw [mrk_len]; omega) (by rw [mrk_len]; omega)).mono ?_
  rintro e w14 ⟨rfl, hC⟩
  rw [decide_eq_true (rfl : (q ++ mrk 5) = (q ++ mrk 5))]
  have hS' := hS.quiet hC
  have hOt' := hOt.chg hC (fun _ _ _ f => f)
  clear hOt
  have hOt := hOt'
  clear hOt'
  have hOu' := hOu.chg hC (fun _ _ _ f => f)
  clear hOu
  have hOu := hOu'
  clear hOu'
  clear hS hC
  have hS := hS'
  clear hS'
  go_wp2_with fail
  refine (turn_any _ B1 s1 f1 g1 p.length (p ++ mrk 5) (p ++ mrk 5) hS.la rfl (by rw [mrk_len]; omega)).mono ?_
  rintro e w15 ⟨rfl, hL, hC⟩
  have hS' := hS.turnA hL hC
  have hup := hS.up1
  have hor := hS.ord
  have hOt' := hOt.chg hC (fun k _ he => by have := (hOt.block he).1; omega)
  clear hOt
  have hOt := hOt'
  clear hOt'
  have hOu' := hOu.chg hC (fun k _ he => by have := (hOu.block he).1; omega)
  clear hOu
  have hOu := hOu'
  clear hOu'
  clear hS hC hL hup hor
  have hS := hS'
  clear hS'
  go_wp2_with fail
  refine (turn_any _ B2 s2 f2 g2 q.length (q ++ mrk 5) (q ++ mrk 5) hS.lb rfl (by rw [mrk_len]; omega)).mono ?_
  rintro e w16 ⟨rfl, hL, hC⟩
  have hS' := hS.turnB hL hC
  have hup := hS.up2
  have hor := hS.ord
  have hOt' := hOt.chg hC (fun k _ he => by have := (hOt.block he).1; omega)
  clear hOt
  have hOt := hOt'
  clear hOt'
  have hOu' := hOu.chg hC (fun k _ he => by have := (hOu.block he).1; omega)
  clear hOu
  have hOu := hOu'
  clear hOu'
  clear hS hC hL hup hor
  have hS := hS'
  clear hS'
  go_wp2_with fail
  refine (rtimes_any _ a0 a1 cap0 cap1 p q hpb hqb (by omega) (by omega) hS.hp hS.hq).mono ?_
  rintro e w17 ⟨wa, wm, rfl, hwm, hOw, hC⟩
  have Hwm := hid hwm
  have hS' := hS.quiet hC
  have hOt' := hOt.chg hC (fun _ _ _ f => f)
  clear hOt
  have hOt := hOt'
  clear hOt'
  have hOu' := hOu.chg hC (fun _ _ _ f => f)
  clear hOu
  have hOu := hOu'
  clear hOu'
  clear hS hC hwm
  have hS := hS'
  clear hS'
  go_wp2_with fail
  have htl : (tm p q).length ≤ 9223372036854775807 := by
    by_cases h0 : p.length = 0 ∨ q.length = 0
    · rw [tm_nil h0]; simp
    · rw [tm_length _ _ (by omega) (by omega)]; omega
  have hwl : (tm p q).length ≤ 9223372036854775807 := by
    by_cases h0 : p.length = 0 ∨ q.length = 0
    · rw [tm_nil h0]; simp
    · rw [tm_length _ _ (by omega) (by omega)]; omega
  have hs1 : Calls Try.prog 27 #[.slice tA tN tN, .slice wa wm wm] w17 fun e w' => e = .returned (.bool (decide (tm p q = tm p q))) ∧ Chg (fun _ => False) w17 w' := by
    have h1 := hOt.held
    have h2 := hOw.held
    rw [Htm.out] at h1 ⊢
    rw [Hwm.out] at h2 ⊢
    exact same_any _ _ _ _ _ _ _ h1 h2 htl hwl
  refine hs1.mono ?_
  clear hs1
  rintro e w18 ⟨rfl, hC⟩
  rw [decide_eq_true (rfl : tm p q = tm p q)]
  have hS' := hS.quiet hC
  have hOt' := hOt.chg hC (fun _ _ _ f => f)
  clear hOt
  have hOt := hOt'
  clear hOt'
  have hOu' := hOu.chg hC (fun _ _ _ f => f)
  clear hOu
  have hOu := hOu'
  clear hOu'
  have hOw' := hOw.chg hC (fun _ _ _ f => f)
  clear hOw
  have hOw := hOw'
  clear hOw'
  clear hS hC htl hwl
  have hS := hS'
  clear hS'
  go_wp2_with fail
  have htl : (tm q p).length ≤ 9223372036854775807 := by
    by_cases h0 : q.length = 0 ∨ p.length = 0
    · rw [tm_nil h0]; simp
    · rw [tm_length _ _ (by omega) (by omega)]; omega
  have hwl : (tm p q).length ≤ 9223372036854775807 := by
    by_cases h0 : p.length = 0 ∨ q.length = 0
    · rw [tm_nil h0]; simp
    · rw [tm_length _ _ (by omega) (by omega)]; omega
  have hs1 : Calls Try.prog 27 #[.slice uA uN uN, .slice wa wm wm] w18 fun e w' => e = .returned (.bool (decide (tm q p = tm p q))) ∧ Chg (fun _ => False) w18 w' := by
    have h1 := hOu.held
    have h2 := hOw.held
    rw [Hum.out] at h1 ⊢
    rw [Hwm.out] at h2 ⊢
    exact same_any _ _ _ _ _ _ _ h1 h2 htl hwl
  refine hs1.mono ?_
  clear hs1
  rintro e w19 ⟨rfl, hC⟩
  rw [decide_eq_true (tm_comm p q : tm q p = tm p q)]
  have hS' := hS.quiet hC
  have hOt' := hOt.chg hC (fun _ _ _ f => f)
  clear hOt
  have hOt := hOt'
  clear hOt'
  have hOu' := hOu.chg hC (fun _ _ _ f => f)
  clear hOu
  have hOu := hOu'
  clear hOu'
  have hOw' := hOw.chg hC (fun _ _ _ f => f)
  clear hOw
  have hOw := hOw'
  clear hOw'
  clear hS hC htl hwl
  have hS := hS'
  clear hS'
  go_wp2_with fail
  have hap : Calls Try.prog 28 #[.slice (some ⟨w19.heap.size, 0, none⟩) 2 2] (w19.alloc (.cells #[.slice tA tN tN, .slice uA uN uN] 39)) fun e w' => e = .returned (.bool true) ∧
      Chg (fun k => (Value.slice tA tN tN).ownBlock = some k ∨ (Value.slice uA uN uN).ownBlock = some k) (w19.alloc (.cells #[.slice tA tN tN, .slice uA uN uN] 39)) w' := by
    have htn := Htm.out
    have hun := Hum.out
    have hlt : (tm p q).length ≤ 70368744177664 ∧ (tm q p).length ≤ 70368744177664 := by
      rw [tm_comm p q]
      have : (tm p q).length ≤ 70368744177664 := by
        by_cases h0 : p.length = 0 ∨ q.length = 0
        · rw [tm_nil h0]; simp
        · rw [tm_length _ _ (by omega) (by omega)]; omega
      exact ⟨this, this⟩
    have e : ∀ i, i < 2 → (Value.slice (if i = 0 then tA else uA) (if i = 0 then tm p q else tm q p).length (if i = 0 then tN else uN)) = (if i = 0 then .slice tA tN tN else .slice uA uN uN) := by
      intro i hi
      by_cases h0 : i = 0
      · rw [if_pos h0, if_pos h0, if_pos h0, if_pos h0, ← htn]
      · rw [if_neg h0, if_neg h0, if_neg h0, if_neg h0, ← hun]
    have h := apart_any (w19.alloc (.cells #[.slice tA tN tN, .slice uA uN uN] 39)) w19.heap.size 0 2 2 B3 (fun i => if i = 0 then tA else uA) (fun i => if i = 0 then tN else uN) (fun i => if i = 0 then tm p q else tm q p) (by decide)
      (by have := hS.ord; simp; omega) (by simp) (fun i hi => ?_) ⟨fun i hi => ?_, fun i j k hi hj hij h1 h2 => ?_⟩ (fun i hi => ?_) (fun i hi h1 => ?_)
    · refine h.mono ?_
      rintro e' w' ⟨h1, h2⟩
      refine ⟨h1, h2.mono (fun k _ hk => ?_)⟩
      obtain ⟨j, hj, hk⟩ := hk
      (try dsimp only at hk)
      rw [e j hj] at hk
      by_cases h0 : j = 0
      · rw [if_pos h0] at hk; exact Or.inl hk
      · rw [if_neg h0] at hk; exact Or.inr hk
    · (try dsimp only)
      rw [e i hi]
      rcases (by omega : i = 0 ∨ i = 1) with h0 | h0 <;> subst h0 <;> simp
    · (try dsimp only)
      rw [e i hi]
      by_cases h0 : i = 0
      · rw [if_pos h0, if_pos h0]
        exact (hOt.mono (fun k hk => by have := (hOt.block hk).1; omega)).keep (fun k hk _ => Below.heap_alloc _ _ _ hk)
      · rw [if_neg h0, if_neg h0]
        exact (hOu.mono (fun k hk => by have := (hOu.block hk).1; omega)).keep (fun k hk _ => Below.heap_alloc _ _ _ hk)
    · (try dsimp only at h1 h2)
      rw [e i hi] at h1
      rw [e j hj] at h2
      by_cases h0 : i = 0
      · rw [if_pos h0] at h1
        rw [if_neg (by omega)] at h2
        have := HBhOt.out k h1
        have := (hOu.block h2).1
        omega
      · rw [if_neg h0] at h1
        rw [if_pos (by omega)] at h2
        have := HBhOt.out k h2
        have := (hOu.block h1).1
        omega
    · (try dsimp only)
      by_cases h0 : i = 0
      · rw [if_pos h0]; exact hlt.1
      · rw [if_neg h0]; exact hlt.2
    · (try dsimp only at h1)
      rw [e i hi] at h1
      by_cases h0 : i = 0
      · rw [if_pos h0] at h1
        have := (hOt.block h1).2
        omega
      · rw [if_neg h0] at h1
        have := (hOu.block h1).2
        omega
  have hS1 : Pst w (w19.alloc (.cells #[.slice tA tN tN, .slice uA uN uN] 39)) b B1 B2 B3 s1 f1 g1 s2 f2 g2 (.slice a0 p.length cap0) (.slice a1 q.length cap1) p q (trn (p ++ mrk 5).length) (trn (p ++ mrk 5).length) (trn (q ++ mrk 5).length) (trn (q ++ mrk 5).length) p.length q.length := hS.quiet ((Chg.refl _ _).alloc _)
  have hBt : ∀ k, ((Value.slice tA tN tN).ownBlock = some k ∨ (Value.slice uA uN uN).ownBlock = some k) → B3 ≤ k := fun k hk => by
    rcases hk with hk | hk
    · have := (hOt.block hk).1; omega
    · have := (hOu.block hk).1; omega
  have HBt := hid hBt
  clear hBt hOt hOu hOw hS
  refine hap.mono ?_
  clear hap
  rintro e w20 ⟨rfl, hC⟩
  have hS := hS1.far hC HBt.out
  clear hS1 hC
  go_wp2_with fail
  refine (kept_any _ B1 s1 f1 g1 p.length (trn (p ++ mrk 5).length) (trn (p ++ mrk 5).length) hS.la (by rw [trn_length, mrk_len]; omega) (by rw [trn_length, mrk_len]; omega)).mono ?_
  rintro e w21 ⟨rfl, hC⟩
  rw [decide_eq_true (rfl : (trn (p ++ mrk 5).length) = (trn (p ++ mrk 5).length))]
  have hS' := hS.quiet hC
  clear hS hC
  have hS := hS'
  clear hS'
  go_wp2_with fail
  refine (reval_any _ a0 cap0 p hpb (by omega) x hx hS.hp).mono ?_
  rintro e w' ⟨rfl, rfl⟩
  go_wp2_with fail
  go_ret
  exact ⟨rfl, hS.below⟩

theorem polys_walk (a0 : Option Addr) (len0 cap0 : Nat) (z0 : List Int) (a1 : Option Addr) (len1 cap1 : Nat) (z1 : List Int) (a2 : Int) (w : World)
    (w0 : IsRow .u8 w a0 len0 cap0 z0) (w1 : IsRow .u8 w a1 len1 cap1 z1) (w2 : (Lit.int .u8 a2).wf = true) (r0 : cap0 ≤ 1048576) (r1 : cap1 ≤ 1048576) :
    Calls Try.prog 5 #[.slice a0 len0 cap0, .slice a1 len1 cap1, .int .u8 a2] w fun e w' => e = .returned (.bool true) ∧ Below w.heap.size w w' := by
  obtain ⟨x, rfl, hx⟩ := byte_nat w2
  obtain ⟨p, rfl, hp1, hp2, hp⟩ := rd_of_row w0
  obtain ⟨q, rfl, hq1, hq2, hq⟩ := rd_of_row w1
  refine polys_go a0 a1 cap0 cap1 p q x hx w (by omega) (by omega) hp2 hq2 hp hq (fun h0 k hk => ?_) (fun h0 k hk => ?_)
  · rcases (hp _ (Nat.le_refl _)).2 with h | ⟨c, o, rfl, _, hlt, _⟩
    · rw [h] at h0; exact absurd rfl h0
    · have := Option.some.inj hk; simp only at this; omega
  · rcases (hq _ (Nat.le_refl _)).2 with h | ⟨c, o, rfl, _, hlt, _⟩
    · rw [h] at h0; exact absurd rfl h0
    · have := Option.some.inj hk; simp only at this; omega
end Go.Proofs.Ytoeaghonpadoiaa
