/-
  TopPages, the data of the right size. Conditions: what came in lies in memory.
-/
import Derived.Test.YtifjmilegogbaaaGreatMTopM
namespace Go.Proofs.YtifjmilegogbaaaGreat
open Go.RowKit
set_option maxRecDepth 100000

/-- What TopPages holds. -/
structure Tst (w0 w : World) (c m p q b T : Nat) (tp tf ts tc : Int) (tl : Bool) (s : Chp) (r : Int) : Prop where
  med : Med w m c p q b r
  chip : ChipAt w c s
  ok : s.Ok
  tg : Tg w T tp tf ts tc tl
  lo : w0.heap.size ≤ c ∧ w0.heap.size ≤ m ∧ w0.heap.size ≤ b ∧ w0.heap.size ≤ T ∧ w0.heap.size ≤ p ∧ w0.heap.size ≤ q
  ne : c < T ∧ m < T ∧ b < T ∧ p < T ∧ q < T
  chg : Chg (fun _ => False) w0 w
theorem Tst.still {w0 w w' : World} {c m p q b T : Nat} {tp tf ts tc : Int} {tl : Bool} {s : Chp} {r : Int} (h : Tst w0 w c m p q b T tp tf ts tc tl s r) (hc : Chg (fun _ => False) w w') : Tst w0 w' c m p q b T tp tf ts tc tl s r :=
  ⟨h.med.chg hc, h.chip.chg hc (fun f => f), h.ok, h.tg.chg hc (fun f => f), h.lo, h.ne, h.chg.trans hc⟩
theorem Tst.set {w0 w w' : World} {c m p q b T : Nat} {tp tf ts tc : Int} {tl : Bool} {s s' : Chp} {r r' : Int} (h : Tst w0 w c m p q b T tp tf ts tc tl s r) (hM : Med w' m c p q b r') (hC : ChipAt w' c s') (ok : s'.Ok) (hc : Chg (fun k => k = m ∨ k = c ∨ k = b) w w') : Tst w0 w' c m p q b T tp tf ts tc tl s' r' :=
  ⟨hM, hC, ok, h.tg.chg hc (by have := h.ne; omega), h.lo, h.ne, h.chg.trans' hc (fun k hk e => by have := h.lo; omega)⟩
theorem Tst.chip' {w0 w w' : World} {c m p q b T : Nat} {tp tf ts tc : Int} {tl : Bool} {s s' : Chp} {r : Int} (h : Tst w0 w c m p q b T tp tf ts tc tl s r) (hC : ChipAt w' c s') (ok : s'.Ok) (hc : Chg (· = c) w w') : Tst w0 w' c m p q b T tp tf ts tc tl s' r :=
  h.set (h.med.chip h.chip hc) hC ok (hc.mono (fun _ _ e => Or.inr (Or.inl e)))
/-- The chunks of a page: what they are, what they were. -/
structure CkI (s : Chp) (p : Nat) (W N : Nat → List Nat) : Prop where
  ok : s.Ok
  on : s.on = true
  tru : ∀ k, k < 4 → (s.ch (4 * p + k)).tru = W k
  now : ∀ k, k < 4 → (s.ch (4 * p + k)).now = N k
theorem CkI.cell {s s' : Chp} {p k n : Nat} {W N : Nat → List Nat} {P M : Nat → Nat} (h : CkI s p W N) (hc : CelR s s' p k P M n) (hk : k < 4) : CkI s' p W (fun j => if j = k then cl (N k) P M n else N j) := by
  refine ⟨hc.ok, hc.on.trans h.on, fun j hj => ?_, fun j hj => ?_⟩
  · by_cases e : j = k
    · subst e; rw [hc.tru, h.tru j hj]
    · rw [hc.far _ (by omega), h.tru j hj]
  · by_cases e : j = k
    · subst e; rw [hc.now, h.now j hj, if_pos rfl]
    · rw [hc.far _ (by omega), h.now j hj, if_neg e]
theorem CkI.ext {s : Chp} {p : Nat} {W N N' : Nat → List Nat} (h : CkI s p W N) (e : ∀ k, k < 4 → N k = N' k) : CkI s p W N' := ⟨h.ok, h.on, h.tru, fun k hk => (h.now k hk).trans (e k hk)⟩
theorem CkI.read {s : Chp} {p : Nat} {W N : Nat → List Nat} (h : CkI s p W N) (a : Nat) : CkI (rdS s a) p W N := ⟨rdS_ok h.ok a, h.on, h.tru, h.now⟩
theorem OwnT.sl2 {w : World} {base : Nat} {e : TypeId} {v : Value} {l : List Nat} (h : OwnT w base e v l) : ∃ ad n cap, v = .slice ad n cap ∧ n = l.length := by
  rcases h.form with ⟨rfl, rfl⟩ | ⟨g, cap, rfl, _⟩
  · exact ⟨_, _, _, rfl, rfl⟩
  · exact ⟨_, _, _, rfl, rfl⟩
theorem ToldR.len {L : List Nat} {n : Int} {g : Pg} (h : ToldR L n g) : g.data.length ≤ 174 := by
  cases hs : g.sound
  · obtain ⟨_, B, bd, bc, hB, hr⟩ := h
    rcases hr with ⟨_, _, _, _, _, _, _, _, q8⟩ | ⟨_, _, _, _, _, _, _, D, dd, dc, hD, ⟨_, _, q8⟩ | ⟨_, q7, _⟩⟩
    · rw [q8]; exact Nat.zero_le _
    · rw [q8]; exact Nat.zero_le _
    · rw [hs] at q7; cases q7
  · exact Nat.le_of_eq (h.sound hs).2.1
theorem CkI.seen {s : Chp} {p o q c : Nat} {l : Bool} {Dt : List Nat} {N : Nat → List Nat} (h : CkI s p (wordOf Dt (body p o q c l)) N) (hm : May p o q c l) (hD : Dt.length = 174) (bD : Bys Dt) {X : Pg} (hT : ToldR (pgTo s p 4) (p : Nat) X) :
    ((∀ k, k < 4 → ds (N k) (wordOf Dt (body p o q c l) k) ≤ 2) → X.tagged = true ∧ X.p = p ∧ X.o = o ∧ X.s = q ∧ X.c = c ∧ X.l = l ∧ X.sound = true ∧ X.data = Dt ∧ X.dmg = mxT (fun k => ds (N k) (wordOf Dt (body p o q c l) k)) 4) ∧
    ((∀ k, k < 4 → ds (N k) (wordOf Dt (body p o q c l) k) ≤ 4) → (X.tagged = true ↔ ds (N 3) (wordOf Dt (body p o q c l) 3) ≤ 2) ∧ (X.sound = true ↔ ∀ k, k < 4 → ds (N k) (wordOf Dt (body p o q c l) k) ≤ 2) ∧ (X.tagged = true → X.p = p ∧ X.o = o ∧ X.s = q ∧ X.c = c ∧ X.l = l) ∧ (X.sound = false → X.data = [])) := by
  have hu : ∀ k, k < 4 → hurt Dt (body p o q c l) (pgTo s p 4) k = ds (N k) (wordOf Dt (body p o q c l) k) := fun k hk => by rw [hurt_dmg h.ok hk (h.tru k hk), dmg_ds, h.now k hk, h.tru k hk]
  have u0 := hu 0 (by omega)
  have u1 := hu 1 (by omega)
  have u2 := hu 2 (by omega)
  have u3 := hu 3 (by omega)
  have hlen : (pgTo s p 4).length = 256 := pgTo_length h.ok _ _
  refine ⟨fun h2 => ?_, fun h4 => ?_⟩
  · obtain ⟨m1, m2, m3, m4, m5, m6, m7, m8, m9⟩ := hT.mends hD bD hm hlen (fun k hk => by rw [hu k hk]; exact h2 k hk)
    refine ⟨m1, m2, m3, m4, m5, m6, m7, m8, ?_⟩
    rw [m9, u0, u1, u2, u3]
    simp only [mxT]
    omega
  · obtain ⟨n1, n2, n3, n4, n5, n6⟩ := hT.told hD bD hm hlen (fun k hk => by rw [hu k hk]; exact h4 k hk)
    rw [u3] at n1
    rw [u0, u1, u2, u3] at n2
    refine ⟨n1, n2.trans ⟨fun e k hk => ?_, fun e => ⟨e 3 (by omega), e 0 (by omega), e 1 (by omega), e 2 (by omega)⟩⟩, n4, n6⟩
    rcases (by omega : k = 0 ∨ k = 1 ∨ k = 2 ∨ k = 3) with rfl | rfl | rfl | rfl
    · exact e.2.1
    · exact e.2.2.1
    · exact e.2.2.2
    · exact e.1
/-- How the chunks stand behind i calls of cells. -/
def nwI (W : Nat → List Nat) (fr st : Int) (M : Nat → Nat) (n i k : Nat) : List Nat := if k < i then cl (W k) (posn (wrap64 (fr + (k : Nat))) (wrap64 (st + (k : Nat)))) M n else W k
set_option maxHeartbeats 16000000 in
theorem topPages_yes (pl of sq kk fr st : Int) (ad : Option Addr) (cap : Nat) (Dt : List Nat) (a2 : Option Addr) (cap2 : Nat) (Ms : List Nat) (w : World)
    (hp1 : -9223372036854775808 ≤ pl ∧ pl ≤ 9223372036854775807) (ho1 : -9223372036854775808 ≤ of ∧ of ≤ 9223372036854775807) (hk1 : -9223372036854775808 ≤ kk ∧ kk ≤ 9223372036854775807) (_hf1 : -9223372036854775808 ≤ fr ∧ fr ≤ 9223372036854775807) (hs1 : -9223372036854775808 ≤ st ∧ st ≤ 9223372036854775807)
    (hD : Dt.length = 174) (bD : Bys Dt) (hHD : Held w (.slice ad 174 cap) Dt) (bM : Bys Ms) (hMl : Ms.length < 9223372036854775808) (hHM : Held w (.slice a2 Ms.length cap2) Ms) (hal : Ms.length ≠ 0 → ∀ x, a2 = some x → x.block < w.heap.size) :
    Calls Tryz.prog 6 #[.int .i64 pl, .int .i64 of, .int .i64 sq, .slice ad 174 cap, .int .i64 kk, .int .i64 fr, .int .i64 st, .slice a2 Ms.length cap2] w fun e w' => e = .returned (.bool true) ∧ Below w.heap.size w w' := by
  have q1 := neq_nil_nil
  have q2 := eql_nil_nil
  have HD := hyd hD
  have HHM := hyd hHM
  obtain ⟨cd, od, rfl, hcd, hcda⟩ := hHD.at_ (by omega)
  have HHD := hyd hHD
  have HAD := hyd (show At w cd od Dt from ⟨hcd, hcda⟩)
  clear hD hHM hHD hcda
  go_enter Tryz.func6, Tryz.ntmps6
  go_wp2_with fail
  refine (nnew_any w).mono ?_
  rintro x w1 ⟨rfl, C1, G1⟩
  have hs1' := G1.size
  have hc1 := C1.lt
  have HC1 := hyd C1
  have HG1 := hyd G1
  clear C1 G1
  go_wp2_with fail
  refine (mnew_any w.heap.size w1).mono ?_
  rintro x w2 ⟨m, p, q, b, rfl, hlow, M2, G2⟩
  have hM2 := M2.lts
  have HC2 := hyd (HC1.out.chg G2 (fun f => f))
  have HG2 := hyd (HG1.out.trans G2)
  have HM2 := hyd M2
  have hc2 := HC2.out.lt
  clear HC1 HG1 M2 G2
  go_wp2_with fail
  refine (some_96 pl hp1.1 hp1.2 _).mono ?_
  rintro x w3 ⟨rfl, rfl⟩
  have hp96 := pkN_lt pl (n := 96) (by omega)
  generalize pkN pl 96 = pp at *
  go_wp2_with fail
  refine (tagOf_any pp hp96 of sq ho1.1 ho1.2 _).mono ?_
  rintro x w4 ⟨o', s', c', hm, rfl, G4⟩
  have G5 : Chg (fun _ => False) w4 (w4.alloc (.cells #[.int .i64 (pp : Nat), .int .i64 (o' : Nat), .int .i64 (s' : Nat), .int .i64 (c' : Nat), .bool false] 28)) := (Chg.refl _ w4).alloc _
  have hs4 := G4.size
  have S5 : Tst w (w4.alloc (.cells #[.int .i64 (pp : Nat), .int .i64 (o' : Nat), .int .i64 (s' : Nat), .int .i64 (c' : Nat), .bool false] 28)) w.heap.size m p q b w4.heap.size (pp : Nat) (o' : Nat) (s' : Nat) (c' : Nat) false newS 0 :=
    ⟨(HM2.out.chg G4).chg G5, (HC2.out.chg G4 (fun f => f)).chg G5 (fun f => f), newS_ok, Tg.new w4 _ _ _ _ _, by omega, by omega, (HG2.out.trans G4).trans G5⟩
  have HS5 := hyd S5
  obtain ⟨v0, v1, v2, v3, v4⟩ := S5.tg.cells
  have hprog := mprogram_yes m w.heap.size p q b 0 newS newS_ok _ S5.med S5.chip pp o' s' c' false hm cd od cap Dt HD.out bD (by omega) (by omega) (by omega) (HAD.out.chg S5.chg (fun f => f))
  clear G4 G5 S5 HC2 HG2 HM2
  go_wp2_with fail
  generalize w4.alloc (.cells #[.int .i64 (pp : Nat), .int .i64 (o' : Nat), .int .i64 (s' : Nat), .int .i64 (c' : Nat), .bool false] 28) = w5 at *
  generalize w4.heap.size = T at *
  refine hprog.mono ?_
  rintro x w6 ⟨⟨sP, r6, eP, hP, rfl, M6, C6⟩, G6⟩
  obtain ⟨rfl, hon, hch⟩ := mends_prog hm HD.out bD hP
  have HS6 := hyd (HS5.out.set M6 C6 (hP.ok newS_ok HD.out bD) G6)
  generalize hW : wordOf Dt (body pp o' s' c' false) = W at *
  have HW := hyd hW
  have HI6 := hyd (show CkI sP pp W W from ⟨HS6.out.ok, hon, fun k hk => by rw [hch k hk]; rfl, fun k hk => by rw [hch k hk]; rfl⟩)
  have hWl : ∀ k, k < 4 → (W k).length = 64 := fun k hk => by rw [← HW.out]; exact word_length HD.out bD (body_length _ _ _ _ _) (body_bys _ _ _ _ _) k hk
  have HWL := hyd hWl
  clear hprog hP hon hch M6 C6 G6 HS5 v0 v1 v2 v3 v4 hW hWl
  rw [nerrV_zero]
  go_wp2_with fail
  go_loopw [22] (fun t22 wr => ∃ (i : Nat) (s : Chp), i ≤ 4 ∧ t22 = .int .i64 i ∧ Tst w wr w.heap.size m p q b T (pp : Nat) (o' : Nat) (s' : Nat) (c' : Nat) false s r6 ∧ CkI s pp W (nwI W fr st (fun i => Ms.getD i 0) (min 2 Ms.length) i)) (fun t22 _ => 4 - (intOf t22).toNat)
  case atStart => exact ⟨0, sP, by omega, rfl, HS6.out, HI6.out.ext (fun k _ => by unfold nwI; rw [if_neg (by omega)])⟩
  case round =>
    clear HS6 HI6
    obtain ⟨i, s, hi, rfl, hS, hI⟩ := hrel
    by_cases hlt : i < 4
    · have hl1 : (i : Int) < 4 := by omega
      have hcall := cells_any w.heap.size s hI.ok pp i hp96 hlt (wrap64 (fr + (i : Nat))) (wrap64 (st + (i : Nat))) (wrap64_lo _) (Int.le_of_lt_add_one (wrap64_hi _)) a2 cap2 Ms bM hMl 2 (by omega) wr hS.chip (HHM.out.chgF hS.chg) (fun h0 x hx => by have := hal h0 x hx; omega)
      have HS := hyd hS
      have HI := hyd hI
      clear hS hI
      go_wp2_with fail
      refine hcall.mono ?_
      rintro x w7 ⟨rfl, s7, C7, hR7, G7⟩
      have HS7 := hyd (HS.out.chip' C7 hR7.ok G7)
      have HI7 := hyd ((HI.out.cell hR7 hlt).ext (N' := nwI W fr st (fun i => Ms.getD i 0) (min 2 Ms.length) (i + 1)) (fun k hk => by
        unfold nwI
        by_cases e : k = i
        · subst e; rw [if_pos rfl, if_neg (by omega), if_pos (by omega)]
        · rw [if_neg e]
          by_cases e2 : k < i
          · rw [if_pos e2, if_pos (by omega)]
          · rw [if_neg e2, if_neg (by omega)]))
      clear hcall C7 hR7 G7 HS HI
      go_wp2
      exact ⟨⟨i + 1, s7, by omega, by go_num, HS7.out, HI7.out⟩, by simp [intOf]; omega⟩
    · obtain rfl : i = 4 := by omega
      have hread := mread_any m w.heap.size p q b r6 s hI.ok wr hS.med hS.chip (pp : Nat)
      have HS := hyd hS
      have HI := hyd hI
      clear hS hI
      go_wp2_with fail
      refine hread.mono ?_
      rintro x w7 ⟨s7, r7, X, ex, vx, rfl, hR7, hO7, M7, C7, G7⟩
      obtain ⟨rfl, -, rfl, hT7⟩ := hR7.done hp96 HI.out.on
      have HS7 := hyd (HS.out.set M7 C7 (rdS_ok HI.out.ok _) G7)
      have HI7 := hyd (HI.out.read pp)
      have hd2 : ∀ k, k < 4 → ds (nwI W fr st (fun i => Ms.getD i 0) (min 2 Ms.length) 4 k) (W k) ≤ 2 := fun k hk => by
        unfold nwI
        rw [if_pos hk]
        exact Nat.le_trans (cl_ds _ _ _ _) (by omega)
      have hI4 := HI.out
      rw [← HW.out] at hI4
      obtain ⟨g1, -⟩ := hI4.seen hm HD.out bD hT7
      rw [HW.out] at g1
      obtain ⟨x1, x2, x3, x4, x5, x6, x7, x8, x9⟩ := g1 hd2
      have HO7 := hyd hO7
      have hlt7 := M7.lts
      clear hread hR7 hT7 M7 C7 G7 HS HI hI4 g1 hO7
      obtain ⟨xt, xp, xo, xs, xc, xl, xsd, xd, xg⟩ := X
      simp only at x1 x2 x3 x4 x5 x6 x7 x8 x9 HO7
      obtain rfl : true = xt := x1.symm
      obtain rfl : pp = xp := x2.symm
      obtain rfl : o' = xo := x3.symm
      obtain rfl : s' = xs := x4.symm
      obtain rfl : c' = xc := x5.symm
      obtain rfl : false = xl := x6.symm
      obtain rfl : true = xsd := x7.symm
      obtain rfl : Dt = xd := x8.symm
      clear x1 x2 x3 x4 x5 x6 x7 x8
      obtain ⟨av, nv, cv, rfl, hnv⟩ := HO7.out.sl2
      obtain rfl : nv = 174 := by rw [hnv]; exact HD.out
      clear hnv
      rw [nerrV_zero]
      simp only [pgV]
      generalize hNN : nwI W fr st (fun i => Ms.getD i 0) (min 2 Ms.length) 4 = NN at *
      have HNN := hyd hNN
      generalize hDD : (fun k => ds (NN k) (W k)) = D at *
      have HDD := hyd hDD
      have HX9 := hyd x9
      clear hNN hDD x9
      go_wp2_with (refine wpList_store_pg rfl (.tmp 23) (.tmp 82) rfl w7.heap.size rfl rfl rfl (Pb.new w7 false 0 0 0 0 false false (.slice none 0 0) 0) ?_)
      intro w8 P8 G8
      have G8' : Chg (fun _ => False) w7 w8 := ((Chg.refl (fun _ => False) w7).alloc _).trans' G8 (fun k hk e => by omega)
      have S8 := HS7.out.still G8'
      have hsame := same_n w8 av (some ⟨cd, od, none⟩) 174 174 cv cap Dt Dt HD.out.symm HD.out.symm (HO7.out.held.chgF G8') (HHD.out.chgF S8.chg) (by rw [HD.out]; omega) (by rw [HD.out]; omega)
      rw [decide_eq_true rfl] at hsame
      obtain ⟨k0, k1, k2, k3, k4, k5, k6, k7, k8⟩ := P8.cells
      obtain ⟨v0, v1, v2, v3, v4⟩ := S8.tg.cells
      have qt := fun w => neq_tag w pp o' s' c' pp o' s' c' false false
      rw [decide_eq_true ⟨rfl, rfl, rfl, rfl, rfl⟩] at qt
      have hgd := guard_tag
      have HS8 := hyd S8
      have HP8 := hyd P8
      generalize w7.heap.size = K at *
      clear G8 G8' S8 P8 HS7 HO7
      go_wp2_with fail
      refine hsame.mono ?_
      rintro x w9 ⟨rfl, G9⟩
      have HS9 := hyd (HS8.out.still G9)
      have HP9 := hyd (HP8.out.chg G9 (fun f => f))
      clear hsame G9 HS8 HP8 k0 k1 k2 k3 k4 k5 k6 k7 k8 v0 v1 v2 v3 v4
      go_wp2_with fail
      go_loopw [25, 26] (fun t25 t26 wr => ∃ k : Nat, k ≤ 4 ∧ t26 = .int .i64 k ∧ t25 = .int .i64 (mxT D k : Nat) ∧ Tst w wr w.heap.size m p q b T (pp : Nat) (o' : Nat) (s' : Nat) (c' : Nat) false (rdS s pp) r7 ∧ Pb wr K true (pp : Nat) (o' : Nat) (s' : Nat) (c' : Nat) false true (.slice av 174 cv) (xg : Nat)) (fun _ t26 _ => 4 - (intOf t26).toNat)
      case atStart => exact ⟨0, by omega, rfl, rfl, HS9.out, HP9.out⟩
      case round =>
        clear HS9 HP9
        obtain ⟨k, hk, rfl, rfl, hS, hP⟩ := hrel
        by_cases hlt2 : k < 4
        · have hl2 : (k : Int) < 4 := by omega
          have hdm := damage_v w.heap.size (rdS s pp) HI7.out.ok (pp : Nat) (k : Nat) wr hS.chip
          have hv : dmgV (rdS s pp) (pp : Nat) (k : Nat) = (D k, ((rdS s pp).ch (4 * pp + k)).worst, 0) := by
            unfold dmgV
            rw [if_pos (by omega), Int.toNat_natCast, Int.toNat_natCast, dmg_ds, HI7.out.now k hlt2, HI7.out.tru k hlt2, ← HDD.out]
          rw [hv] at hdm
          have HS := hyd hS
          have HP := hyd hP
          clear hS hP hv
          go_wp2_with fail
          refine hdm.mono ?_
          rintro x w9 ⟨rfl, G9⟩
          have HS9 := hyd (HS.out.still G9)
          have HP9 := hyd (HP.out.chg G9 (fun f => f))
          have hmx : mxT D (k + 1) = max (mxT D k) (D k) := rfl
          clear hdm G9 HS HP
          rw [nerrV_zero]
          by_cases hg : mxT D k < D k
          · have hg' : ((mxT D k : Nat) : Int) < ((D k : Nat) : Int) := by omega
            have hmx2 : mxT D (k + 1) = D k := by omega
            have HMX := hyd hmx2
            clear hmx hmx2 hg
            go_wp2
            exact ⟨⟨k + 1, by omega, by go_num, by rw [HMX.out], HS9.out, HP9.out⟩, by simp [intOf]; omega⟩
          · have hg' : ¬ ((mxT D k : Nat) : Int) < ((D k : Nat) : Int) := by omega
            have hmx2 : mxT D (k + 1) = mxT D k := by omega
            have HMX := hyd hmx2
            clear hmx hmx2 hg
            go_wp2
            exact ⟨⟨k + 1, by omega, by go_num, by rw [HMX.out], HS9.out, HP9.out⟩, by simp [intOf]; omega⟩
        · obtain rfl : k = 4 := by omega
          rw [HX9.out] at hP
          obtain ⟨-, -, -, -, -, -, -, -, k8⟩ := hP.cells
          have hsome := some_4 kk hk1.1 hk1.2
          obtain ⟨j, hj, hje⟩ : ∃ j, j < 4 ∧ pkN kk 4 = j := ⟨_, pkN_lt kk (by omega), rfl⟩
          rw [hje] at hsome
          have HS := hyd hS
          clear hS hP hje
          have hne : (((mxT D 4 : Nat) : Int) != ((mxT D 4 : Nat) : Int)) = false := by simp
          go_wp2_with fail
          refine (hsome _).mono ?_
          rintro x w9 ⟨rfl, rfl⟩
          clear hsome k8
          have hcall := cells_any w.heap.size (rdS s pp) HI7.out.ok pp j hp96 hj (wrap64 (fr + (j : Nat))) (wrap64 (st + (j : Nat))) (wrap64_lo _) (Int.le_of_lt_add_one (wrap64_hi _)) a2 cap2 Ms bM hMl 2 (by omega) w9 HS.out.chip (HHM.out.chgF HS.out.chg) (fun h0 x hx => by have := hal h0 x hx; omega)
          have hjI : (j : Int) < 4 := by omega
          go_wp2_with fail
          refine hcall.mono ?_
          rintro x wA ⟨rfl, sA, CA, hRA, GA⟩
          have HSA := hyd (HS.out.chip' CA hRA.ok GA)
          have HIA := hyd ((HI7.out.cell hRA hj).ext (N' := fun k => if k = j then W k else NN k) (fun k hk => by
            by_cases e : k = j
            · subst e
              rw [if_pos rfl, if_pos rfl, ← HNN.out]
              unfold nwI
              rw [if_pos hk]
              exact cl_cl (W k) (fun i => by rw [HWL.out k hk]; exact posn_lt _ _ _) _
            · rw [if_neg e, if_neg e]))
          clear hcall CA hRA GA HS
          have hcall := cells_any w.heap.size sA HIA.out.ok pp j hp96 hj fr st hs1.1 hs1.2 a2 cap2 Ms bM hMl 4 (by omega) wA HSA.out.chip (HHM.out.chgF HSA.out.chg) (fun h0 x hx => by have := hal h0 x hx; omega)
          go_wp2_with fail
          refine hcall.mono ?_
          rintro x wB ⟨rfl, sB, CB, hRB, GB⟩
          have HSB := hyd (HSA.out.chip' CB hRB.ok GB)
          have HIB := hyd ((HIA.out.cell hRB hj).ext (N' := fun k => if k = j then cl (W k) (posn fr st) (fun i => Ms.getD i 0) (min 4 Ms.length) else NN k) (fun k hk => by
            by_cases e : k = j
            · subst e
              rw [if_pos rfl, if_pos rfl, if_pos rfl]
            · rw [if_neg e, if_neg e, if_neg e]))
          clear hcall CB hRB GB HSA HIA
          obtain ⟨NB, hNB⟩ : ∃ NB : Nat → List Nat, (fun k => if k = j then cl (W k) (posn fr st) (fun i => Ms.getD i 0) (min 4 Ms.length) else NN k) = NB := ⟨_, rfl⟩
          have hj4 : ds (NB j) (W j) ≤ 4 := by
            rw [← hNB]
            show ds (if j = j then _ else _) _ ≤ 4
            rw [if_pos rfl]
            exact Nat.le_trans (cl_ds _ _ _ _) (by omega)
          have ho2 : ∀ k, k < 4 → k ≠ j → ds (NB k) (W k) ≤ 2 := fun k hk e => by
            rw [← hNB]
            show ds (if k = j then _ else _) _ ≤ 2
            rw [if_neg e]
            exact hd2 k hk
          rw [hNB] at HIB
          have hdm := damage_v w.heap.size sB HIB.out.ok (pp : Nat) (j : Nat) wB HSB.out.chip
          have hv : dmgV sB (pp : Nat) (j : Nat) = (ds (NB j) (W j), (sB.ch (4 * pp + j)).worst, 0) := by
            unfold dmgV
            rw [if_pos (by omega), Int.toNat_natCast, Int.toNat_natCast, dmg_ds, HIB.out.now j hj, HIB.out.tru j hj]
          rw [hv] at hdm
          have HNB := hyd hNB
          clear hv hNB
          go_wp2_with fail
          refine hdm.mono ?_
          rintro x wC ⟨rfl, GC⟩
          have HSC := hyd (HSB.out.still GC)
          clear hdm GC HSB
          have hread := mread_any m w.heap.size p q b r7 sB HIB.out.ok wC HSC.out.med HSC.out.chip (pp : Nat)
          rw [nerrV_zero]
          go_wp2_with fail
          refine hread.mono ?_
          rintro x wD ⟨sD, rD, Y, eD, vD, rfl, hRD, hOD, MD, CD, GD⟩
          obtain ⟨rfl, -, rfl, hTD⟩ := hRD.done hp96 HIB.out.on
          have HSD := hyd (HSC.out.set MD CD (rdS_ok HIB.out.ok _) GD)
          have hIB := HIB.out
          rw [← HW.out] at hIB
          obtain ⟨g1, g2⟩ := hIB.seen hm HD.out bD hTD
          rw [HW.out] at g1 g2
          have hlenY := hTD.len
          obtain ⟨av2, nv2, cv2, rfl, rfl⟩ := hOD.sl2
          have HOD := hyd hOD.held
          clear hread hRD hTD MD CD GD HSC hIB hOD
          rw [nerrV_zero]
          simp only [pgV]
          have hltD := HSD.out.med.lts
          go_wp2_with (refine wpList_store_pg rfl (.tmp 34) (.tmp 163) rfl wD.heap.size rfl rfl rfl (Pb.new wD false 0 0 0 0 false false (.slice none 0 0) 0) ?_)
          intro wE PE GE
          have GE' : Chg (fun _ => False) wD wE := ((Chg.refl (fun _ => False) wD).alloc _).trans' GE (fun k hk e => by omega)
          have SE := HSD.out.still GE'
          have hsame := same_n wE av2 (some ⟨cd, od, none⟩) Y.data.length 174 cv2 cap Y.data Dt rfl HD.out.symm (HOD.out.chgF GE') (HHD.out.chgF SE.chg) (by omega) (by rw [HD.out]; omega)
          obtain ⟨k0, k1, k2, k3, k4, k5, k6, k7, k8⟩ := PE.cells
          obtain ⟨v0, v1, v2, v3, v4⟩ := SE.tg.cells
          have HSE := hyd SE
          clear GE GE' SE PE HSD HOD hlenY
          have hn4 : ¬ (4 : Int) < ((ds (NB j) (W j) : Nat) : Int) := by omega
          by_cases hn2 : ds (NB j) (W j) ≤ 2
          · have hn2' : ((ds (NB j) (W j) : Nat) : Int) ≤ 2 := by omega
            obtain ⟨y1, -, -, -, -, -, y7, y8, -⟩ := g1 (fun k hk => by
              by_cases e : k = j
              · rw [e]; exact hn2
              · exact ho2 k hk e)
            rw [y1] at k0
            rw [y7] at k6
            have hdd : decide (Y.data = Dt) = true := decide_eq_true y8
            rw [hdd] at hsame
            clear hdd
            clear g1 g2 y1 y7 y8
            go_wp2_with fail
            refine hsame.mono ?_
            rintro x wF ⟨rfl, GF⟩
            have HSF := hyd (HSE.out.still GF)
            clear hsame GF HSE
            go_wp2
            go_ret
            exact ⟨rfl, HSF.out.chg.below (fun k f => f.elim) (Nat.le_refl _)⟩
          · have hn2' : ¬ ((ds (NB j) (W j) : Nat) : Int) ≤ 2 := by omega
            obtain ⟨z1, z2, z3, z4⟩ := g2 (fun k hk => by
              by_cases e : k = j
              · rw [e]; exact hj4
              · have := ho2 k hk e; omega)
            have hsd : Y.sound = false := by
              cases hx : Y.sound
              · rfl
              · exact absurd (z2.1 hx j hj) hn2
            rw [hsd] at k6
            have hdt := z4 hsd
            by_cases hj3 : j = 3
            · have hj3' : ((j : Int) == 3) = true := by simp [hj3]
              have htg : Y.tagged = false := by
                cases hx : Y.tagged
                · rfl
                · rw [hj3] at hn2; exact absurd (z1.1 hx) hn2
              rw [htg] at k0
              clear g1 g2 z1 z2 z3 z4 hsd htg hsame hdt hj3
              go_wp2
              go_ret
              exact ⟨rfl, HSE.out.chg.below (fun k f => f.elim) (Nat.le_refl _)⟩
            · have hj3' : ((j : Int) == 3) = false := by simp; omega
              have htg : Y.tagged = true := z1.2 (ho2 3 (by omega) (fun e => hj3 e.symm))
              obtain ⟨x2, x3, x4, x5, x6⟩ := z3 htg
              rw [htg] at k0
              rw [x2] at k1
              rw [x3] at k2
              rw [x4] at k3
              rw [x5] at k4
              rw [x6] at k5
              have hn0 : (((Y.data.length : Nat) : Int) == 0) = true := by rw [hdt]; rfl
              have qe := fun w => eql_tag w pp o' s' c' pp o' s' c' false false
              rw [decide_eq_true ⟨rfl, rfl, rfl, rfl, rfl⟩] at qe
              clear g1 g2 z1 z2 z3 z4 hsd htg hsame hdt hj3 x2 x3 x4 x5 x6
              go_wp2
              go_ret
              exact ⟨rfl, HSE.out.chg.below (fun k f => f.elim) (Nat.le_refl _)⟩
set_option maxHeartbeats 1000000 in
theorem topPages_no (pl of sq kk fr st : Int) (ad : Option Addr) (n cap : Nat) (hn : n ≠ 174) (v2 : Value) (w : World) :
    Calls Tryz.prog 6 #[.int .i64 pl, .int .i64 of, .int .i64 sq, .slice ad n cap, .int .i64 kk, .int .i64 fr, .int .i64 st, v2] w fun e w' => e = .returned (.bool true) ∧ Below w.heap.size w w' := by
  have hn' : ((n : Int) != 174) = true := by simp; omega
  clear hn
  go_enter Tryz.func6, Tryz.ntmps6
  go_wp2_with fail
  refine (nnew_any w).mono ?_
  rintro x w1 ⟨rfl, -, G1⟩
  have HG1 := hyd G1
  clear G1
  go_wp2
  go_ret
  exact ⟨rfl, HG1.out.below (fun k f => f.elim) (Nat.le_refl _)⟩
/-- Bytes that came in. -/
theorem bytes_of_row {w : World} {a : Option Addr} {len cap : Nat} {zs : List Int} (h : IsRow .u8 w a len cap zs) : ∃ l : List Nat, l.length = len ∧ Bys l ∧ Held w (.slice a len cap) l ∧ len < 9223372036854775808 ∧ (l.length ≠ 0 → ∀ x, a = some x → x.block < w.heap.size) := by
  obtain ⟨l, h1, -, h3, -, h5⟩ := row_in h
  refine ⟨l, h1, h3, h5, ?_, fun h0 x hx => ?_⟩
  · rcases h with ⟨rfl, rfl, rfl, rfl⟩ | ⟨x, rfl, hl, hm, hz, hcell, hwz⟩
    · decide
    · unfold maxLen at hm; omega
  · obtain ⟨g, o, e, hg, -⟩ := h5.at_ h0
    rw [e] at hx
    cases hx
    exact hg
theorem topPages_in (pl of sq : Int) (a3 : Option Addr) (l3 c3 : Nat) (z3 : List Int) (kk fr st : Int) (a7 : Option Addr) (l7 c7 : Nat) (z7 : List Int) (w : World)
    (h0 : (Lit.int .i64 pl).wf = true) (h1 : (Lit.int .i64 of).wf = true) (_h2 : (Lit.int .i64 sq).wf = true) (h3 : IsRow .u8 w a3 l3 c3 z3) (h4 : (Lit.int .i64 kk).wf = true) (h5 : (Lit.int .i64 fr).wf = true) (h6 : (Lit.int .i64 st).wf = true) (h7 : IsRow .u8 w a7 l7 c7 z7) :
    Calls Tryz.prog 6 #[.int .i64 pl, .int .i64 of, .int .i64 sq, .slice a3 l3 c3, .int .i64 kk, .int .i64 fr, .int .i64 st, .slice a7 l7 c7] w fun e w' => e = .returned (.bool true) ∧ Below w.heap.size w w' := by
  by_cases hn : l3 = 174
  · subst hn
    obtain ⟨Dt, d1, d2, d3, -, -⟩ := bytes_of_row h3
    obtain ⟨Ms, m1, m2, m3, m4, m5⟩ := bytes_of_row h7
    subst m1
    exact topPages_yes pl of sq kk fr st a3 c3 Dt a7 c7 Ms w (bounds_i64 h0) (bounds_i64 h1) (bounds_i64 h4) (bounds_i64 h5) (bounds_i64 h6) d1 d2 d3 m2 m4 m3 m5
  · exact topPages_no pl of sq kk fr st a3 l3 c3 hn _ w
end Go.Proofs.YtifjmilegogbaaaGreat
