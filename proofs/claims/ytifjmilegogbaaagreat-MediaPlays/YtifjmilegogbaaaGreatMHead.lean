/-
  The heads of layer 8's statements: data, pick, begun, shown. No condition.
-/
import Derived.Test.YtifjmilegogbaaaGreatMPgm
import Derived.Test.YtifjmilegogbaaaGreatURNew
namespace Go.Proofs.YtifjmilegogbaaaGreat
open Go.RowKit
set_option maxRecDepth 100000

/-- Which of n things. -/
def pkN (c : Int) (n : Nat) : Nat := if c < 0 then ((-(c + 1)) % (n : Int)).toNat else (c % (n : Int)).toNat
theorem pkN_lt (c : Int) {n : Nat} (hn : 0 < n) : pkN c n < n := by
  have h1 := Int.emod_lt_of_pos (-(c + 1)) (show (0 : Int) < n by omega)
  have h2 := Int.emod_nonneg (-(c + 1)) (show (n : Int) ≠ 0 by omega)
  have h3 := Int.emod_lt_of_pos c (show (0 : Int) < n by omega)
  have h4 := Int.emod_nonneg c (show (n : Int) ≠ 0 by omega)
  unfold pkN
  split <;> omega
theorem neg_rem {c : Int} (h : c < 0) (n : Int) : -((c + 1).tmod n) = (-(c + 1)) % n := by
  rw [← Int.neg_tmod, Int.tmod_eq_emod_of_nonneg (by omega)]
theorem pick_10 (c : Int) (h1 : -9223372036854775808 ≤ c) (h2 : c ≤ 9223372036854775807) (w : World) :
    Calls Tryz.prog 21 #[.int .i64 c, .int .i64 10] w fun e w' => e = .returned (.int .i64 (pkN c 10 : Nat)) ∧ w' = w := by
  unfold pkN
  by_cases hc : c < 0
  · have HE := hyd (neg_rem hc 10)
    rw [if_pos hc]
    go_enter Tryz.func21, Tryz.ntmps21
    go_wp2
    go_ret
    have e : ((((-(c + 1)) % (10 : Int)).toNat : Nat) : Int) = -((c + 1).tmod 10) := by rw [HE.out]; omega
    refine ⟨?_, rfl⟩
    show Ending.returned (.int .i64 (-((c + 1).tmod 10))) = .returned (.int .i64 ((((-(c + 1)) % (10 : Int)).toNat : Nat) : Int))
    rw [e]
  · rw [if_neg hc]
    go_enter Tryz.func21, Tryz.ntmps21
    go_wp2
    go_ret
    rw [show max (c % 10) 0 = c % 10 from by omega]
    exact ⟨rfl, rfl⟩
theorem pick_2048 (c : Int) (h1 : -9223372036854775808 ≤ c) (h2 : c ≤ 9223372036854775807) (w : World) :
    Calls Tryz.prog 21 #[.int .i64 c, .int .i64 2048] w fun e w' => e = .returned (.int .i64 (pkN c 2048 : Nat)) ∧ w' = w := by
  unfold pkN
  by_cases hc : c < 0
  · have HE := hyd (neg_rem hc 2048)
    rw [if_pos hc]
    go_enter Tryz.func21, Tryz.ntmps21
    go_wp2
    go_ret
    have e : ((((-(c + 1)) % (2048 : Int)).toNat : Nat) : Int) = -((c + 1).tmod 2048) := by rw [HE.out]; omega
    refine ⟨?_, rfl⟩
    show Ending.returned (.int .i64 (-((c + 1).tmod 2048))) = .returned (.int .i64 ((((-(c + 1)) % (2048 : Int)).toNat : Nat) : Int))
    rw [e]
  · rw [if_neg hc]
    go_enter Tryz.func21, Tryz.ntmps21
    go_wp2
    go_ret
    rw [show max (c % 2048) 0 = c % 2048 from by omega]
    exact ⟨rfl, rfl⟩
theorem pick_6 (c : Int) (h1 : -9223372036854775808 ≤ c) (h2 : c ≤ 9223372036854775807) (w : World) :
    Calls Tryz.prog 21 #[.int .i64 c, .int .i64 6] w fun e w' => e = .returned (.int .i64 (pkN c 6 : Nat)) ∧ w' = w := by
  unfold pkN
  by_cases hc : c < 0
  · have HE := hyd (neg_rem hc 6)
    rw [if_pos hc]
    go_enter Tryz.func21, Tryz.ntmps21
    go_wp2
    go_ret
    have e : ((((-(c + 1)) % (6 : Int)).toNat : Nat) : Int) = -((c + 1).tmod 6) := by rw [HE.out]; omega
    refine ⟨?_, rfl⟩
    show Ending.returned (.int .i64 (-((c + 1).tmod 6))) = .returned (.int .i64 ((((-(c + 1)) % (6 : Int)).toNat : Nat) : Int))
    rw [e]
  · rw [if_neg hc]
    go_enter Tryz.func21, Tryz.ntmps21
    go_wp2
    go_ret
    rw [show max (c % 6) 0 = c % 6 from by omega]
    exact ⟨rfl, rfl⟩
theorem pick_512 (c : Int) (h1 : -9223372036854775808 ≤ c) (h2 : c ≤ 9223372036854775807) (w : World) :
    Calls Tryz.prog 21 #[.int .i64 c, .int .i64 512] w fun e w' => e = .returned (.int .i64 (pkN c 512 : Nat)) ∧ w' = w := by
  unfold pkN
  by_cases hc : c < 0
  · have HE := hyd (neg_rem hc 512)
    rw [if_pos hc]
    go_enter Tryz.func21, Tryz.ntmps21
    go_wp2
    go_ret
    have e : ((((-(c + 1)) % (512 : Int)).toNat : Nat) : Int) = -((c + 1).tmod 512) := by rw [HE.out]; omega
    refine ⟨?_, rfl⟩
    show Ending.returned (.int .i64 (-((c + 1).tmod 512))) = .returned (.int .i64 ((((-(c + 1)) % (512 : Int)).toNat : Nat) : Int))
    rw [e]
  · rw [if_neg hc]
    go_enter Tryz.func21, Tryz.ntmps21
    go_wp2
    go_ret
    rw [show max (c % 512) 0 = c % 512 from by omega]
    exact ⟨rfl, rfl⟩
/-- The bytes that data makes. -/
def dtl (v n : Nat) : List Nat := (List.range n).map fun k => (v + 7 * k) % 256
theorem dtl_length (v n : Nat) : (dtl v n).length = n := by simp [dtl]
theorem dtl_bys (v n : Nat) : Bys (dtl v n) := fun x hx => by
  obtain ⟨k, -, rfl⟩ := List.mem_map.1 hx
  exact Nat.mod_lt _ (by decide)
theorem dtl_getD (v n k : Nat) (hk : k < n) : (dtl v n).getD k 0 = (v + 7 * k) % 256 := by
  rw [dtl, List.getD_eq_getElem?_getD, List.getElem?_map, List.getElem?_range hk]
  rfl
theorem padTo_dtl (v n : Nat) : padTo (dtl v n) n n = dtl v n := by
  apply List.ext_getElem?
  intro i
  rw [padTo, List.getElem?_map]
  by_cases hi : i < n
  · rw [List.getElem?_range hi]
    show some (if i < n then (dtl v n).getD i 0 else 0) = _
    rw [if_pos hi, List.getD_eq_getElem?_getD, List.getElem?_eq_getElem (by rw [dtl_length]; exact hi)]
    rfl
  · rw [List.getElem?_eq_none (by simp; omega), List.getElem?_eq_none (by rw [dtl_length]; omega)]
    rfl
set_option maxHeartbeats 1000000 in
theorem data_fn (n v : Nat) (hn : n ≤ 4096) (hv : v < 256) (w : World) :
    Calls Tryz.prog 18 #[.int .i64 (n : Nat), .int .u8 (v : Nat)] w fun e w' => e = .returned (.slice (some ⟨w.heap.size, 0, none⟩) n n) ∧ Arr w' w.heap.size 5 (dtl v n) ∧ Chg (fun _ => False) w w' := by
  have hmk := fun w : World => make_bytes w (n : Int) n rfl (by omega)
  have hnI : (n : Int) ≤ 4096 := by omega
  go_enter Tryz.func18, Tryz.ntmps18
  go_wp2_with fail
  go_loopw [6] (fun t wr => ∃ i : Nat, i ≤ n ∧ t = .int .i64 i ∧ Arr wr w.heap.size 5 (padTo (dtl v n) n i) ∧ Chg (fun _ => False) w wr) (fun t _ => n - (intOf t).toNat)
  case atStart => exact ⟨0, by omega, rfl, by rw [padTo_zero]; exact Arr.new w 5 _, (Chg.refl _ _).alloc _⟩
  case round =>
    obtain ⟨i, hi, rfl, hA, hG⟩ := hrel
    by_cases hlt : i < n
    · have hlt' : (i : Int) < (n : Int) := by omega
      have hkb : (0 : Int) ≤ (i : Int) := by omega
      have hf := hA.frozen i
      have hx := hA.cell i (by rw [padTo_length]; omega)
      have hA2 : Arr (wr.setCell ⟨w.heap.size, i, none⟩ (.int .u8 ((v + 7 * i) % 256 : Nat))) w.heap.size 5 (padTo (dtl v n) n (i + 1)) := by
        rw [← padTo_set, dtl_getD v n i hlt]; exact hA.store i _
      have HA2 := hyd hA2
      have hib : (i : Int) < 4096 := by omega
      clear hA2 hA
      generalize (padTo (dtl v n) n i).getD i 0 = xx at *
      have hvI : (v : Int) < 256 := by omega
      have hnum : ((((v + 7 * i) % 256 : Nat)) : Int) = ((v : Int) + 7 * (i : Int)) % 256 := by omega
      rw [hnum] at HA2
      go_wp2
      refine ⟨⟨i + 1, by omega, by go_num, ?_, hG.setCell (Or.inr (Nat.le_refl _)) _ _⟩, by simp [intOf]; omega⟩
      exact HA2.out
    · have hlt' : ¬ (i : Int) < (n : Int) := by omega
      rw [padTo_end _ n i (Or.inl (by omega)), padTo_dtl] at hA
      go_wp2
      go_ret
      exact ⟨rfl, hA, hG⟩

/-- A Both: its chip, its media, the document's media. -/
def Bth (w : World) (t c m R : Nat) : Prop := w.heap[t]? = some (.cells #[.pointer (some ⟨c, 0, none⟩), .pointer (some ⟨m, 0, none⟩), .pointer (some ⟨R, 0, none⟩)] 38)
theorem Bth.lt {w : World} {t c m R : Nat} (h : Bth w t c m R) : t < w.heap.size := (Array.getElem?_eq_some_iff.1 (show w.heap[t]? = some _ from h)).1
theorem Bth.cells {w : World} {t c m R : Nat} (h : Bth w t c m R) : w.cell? ⟨t, 0, none⟩ = some (.pointer (some ⟨c, 0, none⟩)) ∧ w.cell? ⟨t, 1, none⟩ = some (.pointer (some ⟨m, 0, none⟩)) ∧ w.cell? ⟨t, 2, none⟩ = some (.pointer (some ⟨R, 0, none⟩)) := by
  have h' : w.heap[t]? = some _ := h
  refine ⟨?_, ?_, ?_⟩ <;> simp [World.cell?, h']
theorem Bth.chg {S : Nat → Prop} {w w' : World} {t c m R : Nat} (h : Bth w t c m R) (hc : Chg S w w') (ht : ¬ S t) : Bth w' t c m R := (hc.block t h.lt ht).trans h
/-- The document's media: its chip, how many pages it has read. -/
def RMd (w : World) (R rr : Nat) (n : Int) : Prop := w.heap[R]? = some (.cells #[.pointer (some ⟨rr, 0, none⟩), .int .i64 n] 43)
theorem RMd.lt {w : World} {R rr : Nat} {n : Int} (h : RMd w R rr n) : R < w.heap.size := (Array.getElem?_eq_some_iff.1 (show w.heap[R]? = some _ from h)).1
theorem RMd.chg {S : Nat → Prop} {w w' : World} {R rr : Nat} {n : Int} (h : RMd w R rr n) (hc : Chg S w w') (ht : ¬ S R) : RMd w' R rr n := (hc.block R h.lt ht).trans h
theorem build43 (w : World) (rr : Nat) : (Instr.build 43 #[(0, .pointer (some ⟨rr, 0, none⟩))]).run Tryz.prog w = .ok (.agg #[.pointer (some ⟨rr, 0, none⟩), .int .i64 0]) w := by kernel_rfl
theorem build38 (w : World) (c m R : Nat) : (Instr.build 38 #[(0, .pointer (some ⟨c, 0, none⟩)), (1, .pointer (some ⟨m, 0, none⟩)), (2, .pointer (some ⟨R, 0, none⟩))]).run Tryz.prog w = .ok (.agg #[.pointer (some ⟨c, 0, none⟩), .pointer (some ⟨m, 0, none⟩), .pointer (some ⟨R, 0, none⟩)]) w := by kernel_rfl
set_option maxHeartbeats 1000000 in
theorem begun_any (w : World) : Calls Tryz.prog 8 #[] w fun e w' => ∃ t c m p q b R rr lo hi, e = .returned (.pointer (some ⟨t, 0, none⟩)) ∧ Bth w' t c m R ∧ Med w' m c p q b 0 ∧ ChipAt w' c newS ∧ RMd w' R rr 0 ∧ RefAt w' rr newS (fun k => lo ≤ k ∧ k < hi) ∧
    (w.heap.size ≤ c ∧ w.heap.size ≤ m ∧ w.heap.size ≤ p ∧ w.heap.size ≤ q ∧ w.heap.size ≤ b) ∧ (c < lo ∧ m < lo ∧ p < lo ∧ q < lo ∧ b < lo) ∧ R = hi ∧ t = hi + 1 ∧ lo ≤ hi ∧ Chg (fun _ => False) w w' := by
  go_enter Tryz.func8, Tryz.ntmps8
  go_wp2_with fail
  refine (nnew_any w).mono ?_
  rintro x w1 ⟨rfl, C1, G1⟩
  have hs1 := G1.size
  have hc1 := C1.lt
  have HC1 := hyd C1
  have HG1 := hyd G1
  clear C1 G1
  go_wp2_with fail
  refine (mnew_any w.heap.size w1).mono ?_
  rintro x w2 ⟨m, p, q, b, rfl, hlow, M2, G2⟩
  have hs2 := G2.size
  have hM2 := M2.lts
  have HC2 := hyd (HC1.out.chg G2 (fun f => f))
  have HG2 := hyd (HG1.out.trans G2)
  have HM2 := hyd M2
  clear HC1 HG1 M2 G2
  go_wp2_with fail
  refine (rnew_any w2).mono ?_
  rintro x w3 ⟨rr, rfl, R3, G3⟩
  have hs3 := G3.size
  have HC3 := hyd (HC2.out.chg G3 (fun f => f))
  have HG3 := hyd (HG2.out.trans G3)
  have HM3 := hyd (HM2.out.chg G3)
  have HR3 := hyd R3
  have hb1 := fun w => build43 w rr
  have hb2 := fun w' (x : Nat) => build38 w' w.heap.size m x
  clear HC2 HG2 HM2 R3 G3
  go_wp2
  go_ret
  have G4 : Chg (fun _ => False) w3 (w3.alloc (.cells #[.pointer (some ⟨rr, 0, none⟩), .int .i64 0] 43)) := (Chg.refl _ w3).alloc _
  have D4 : RMd (w3.alloc (.cells #[.pointer (some ⟨rr, 0, none⟩), .int .i64 0] 43)) w3.heap.size rr 0 := by
    show (w3.heap.push _)[w3.heap.size]? = _
    simp
  have hs4 : (w3.alloc (.cells #[.pointer (some ⟨rr, 0, none⟩), .int .i64 0] 43)).heap.size = w3.heap.size + 1 := by simp
  generalize w3.alloc (.cells #[.pointer (some ⟨rr, 0, none⟩), .int .i64 0] 43) = w4 at *
  have G5 : Chg (fun _ => False) w4 (w4.alloc (.cells #[.pointer (some ⟨w.heap.size, 0, none⟩), .pointer (some ⟨m, 0, none⟩), .pointer (some ⟨w3.heap.size, 0, none⟩)] 38)) := (Chg.refl _ w4).alloc _
  have D5 : Bth (w4.alloc (.cells #[.pointer (some ⟨w.heap.size, 0, none⟩), .pointer (some ⟨m, 0, none⟩), .pointer (some ⟨w3.heap.size, 0, none⟩)] 38)) w4.heap.size w.heap.size m w3.heap.size := by
    show (w4.heap.push _)[w4.heap.size]? = _
    simp
  have G45 := G4.trans G5
  refine ⟨w4.heap.size, w.heap.size, m, p, q, b, w3.heap.size, rr, w2.heap.size, w3.heap.size, by rw [hs4]; rfl, D5, HM3.out.chg G45, HC3.out.chg G45 (fun f => f), D4.chg G5 (fun f => f), HR3.out.chg G45 (fun _ _ f => f), by omega, by omega, rfl, hs4, hs3, HG3.out.trans G45⟩
theorem blank_page {s : Chp} (hs : s.Ok) {a : Nat} {n : Int} {g : Pg} (h : ToldR (pgTo s a 4) n g) (hn : (s.ch (4 * a + 3)).now = ff64) : g.tagged = false ∧ g.sound = false ∧ g.data = [] := by
  refine h.blank ?_
  rw [part_page hs a 3 (by omega), hn, ds_self]
  omega
theorem ds_one {l : List Nat} (hl : l.length = 64) {p : Nat} (hp : p < 64) (b : Nat) : ds (l.set p (l.getD p 0 ^^^ 2 ^ b)) l = 1 := by
  have h1 : ds (l.set p (l.getD p 0 ^^^ 2 ^ b)) l ≤ 1 := ds_close (k := p) (fun i hi => by rw [List.getD_eq_getElem?_getD, List.getElem?_set_ne (fun e => hi e.symm), List.getD_eq_getElem?_getD])
  have h2 : ds (l.set p (l.getD p 0 ^^^ 2 ^ b)) l ≠ 0 := by
    intro h
    have h3 := ds_zero (by rw [List.length_set]; exact hl) hl h
    have h4 : (l.set p (l.getD p 0 ^^^ 2 ^ b)).getD p 0 = l.getD p 0 := by rw [h3]
    rw [List.getD_eq_getElem?_getD, List.getElem?_set_self (by omega)] at h4
    have h5 : l.getD p 0 ^^^ 2 ^ b = l.getD p 0 := h4
    have h6 := congrArg (l.getD p 0 ^^^ ·) h5
    simp only [← Nat.xor_assoc, Nat.xor_self, Nat.zero_xor] at h6
    have := Nat.two_pow_pos b
    omega
  omega
theorem dmg_turn {k : Chk} (hk : k.now.length = 64) (he : k.now = k.tru) {p : Nat} (hp : p < 64) (b : Nat) : dmg (turnK k p b) = 1 := by
  rw [dmg_ds]
  show ds (k.now.set p (k.now.getD p 0 ^^^ 2 ^ b)) k.tru = 1
  rw [← he]
  exact ds_one hk hp b
theorem dmg_none {k : Chk} (he : k.now = k.tru) : dmg k = 0 := by rw [dmg_ds, he, ds_self]
theorem May.shown : May ((0 : Nat) : Int) ((0 : Nat) : Int) ((1 : Nat) : Int) ((0 : Nat) : Int) false := by
  refine ⟨⟨⟨?_, ?_⟩, ⟨?_, ?_⟩, ⟨?_, ?_⟩, ?_, ?_⟩, Or.inr ⟨?_, ?_⟩⟩ <;> decide
theorem ProgR.ok {s : Chp} (hs : s.Ok) {r : Int} {a p o q c : Nat} {l : Bool} {Dt : List Nat} (hD : Dt.length = 174) (bD : Bys Dt) {s' : Chp} {r' : Int} {e : Nat} (h : ProgR s r a p o q c l Dt s' r' e) : s'.Ok := by
  have hOk := wrN_ok hs a (W := wordOf Dt (body p o q c l)) 4 (fun k hk => (word_cw hD bD (body_length p o q c l) (body_bys p o q c l) k hk).2.1)
  rcases h with ⟨_, rfl, _, _⟩ | ⟨_, g, x, hR, _⟩
  · exact hOk
  · exact hR.ok hOk
/-- A page is read on a chip whose power is on. -/
theorem ReadR.done {s : Chp} {r : Int} {a : Nat} {s' : Chp} {r' : Int} {g : Pg} {c : Nat} (h : ReadR s r (a : Nat) s' r' g c) (ha : a < 96) (hon : s.on = true) : c = 0 ∧ r' = wrap64 (r + 1) ∧ s' = rdS s a ∧ ToldR (pgTo s a 4) (a : Nat) g := by
  obtain ⟨h1, h2, h3⟩ := h
  rw [readV_on ha hon] at h1 h2 h3
  rcases h3 with ⟨x, _⟩ | ⟨_, hr, hT⟩
  · exact absurd h2 x
  · exact ⟨h2, hr, h1, hT⟩
/-- The page of the document's examples, two of its bits turned. -/
theorem shown_page {s0 s2 s5 : Chp} (h0 : s0 = rdS newS 0) {r2 r5 : Int} {e c : Nat} {X : Pg} (h2 : ProgR s0 1 0 0 0 1 0 false (List.replicate 174 0) s2 r2 e)
    (h5 : ReadR (flipR (flipR s2 ((0 : Nat) : Int) ((0 : Nat) : Int)).1 ((0 : Nat) : Int) ((1600 : Nat) : Int)).1 r2 ((0 : Nat) : Int) s5 r5 X c) :
    e = 0 ∧ r2 = 2 ∧ c = 0 ∧ r5 = 3 ∧ X.tagged = true ∧ X.sound = true ∧ X.s = 1 ∧ X.dmg = 1 := by
  have hs0 : s0.Ok := by rw [h0]; exact rdS_ok newS_ok 0
  have hD : (List.replicate 174 0).length = 174 := List.length_replicate
  have bD : Bys (List.replicate 174 0) := bys_rep 174 0 (by omega)
  have hZ := body_length 0 0 1 0 false
  have bZ := body_bys 0 0 1 0 false
  have hok := flipR_ok (flipR_ok (h2.ok hs0 hD bD) ((0 : Nat) : Int) ((0 : Nat) : Int)) ((0 : Nat) : Int) ((1600 : Nat) : Int)
  obtain ⟨rfl, rfl, t, L, rfl⟩ := prog_done hs0 May.shown hD bD (by rw [h0]; rfl) (fun k hk => by rw [h0]; rfl) (by rw [h0]; exact ⟨rfl, rfl, rfl⟩) (fun h => by rw [h0] at h; cases h) h2
  have hon : t.on = true := by rw [L.on, h0]; rfl
  have hch : ∀ j, j < 4 → t.ch j = pgmK (wordOf (List.replicate 174 0) (body 0 0 1 0 false) j) := fun j hj => by rw [L.ch, if_pos ⟨by omega, by omega⟩]; rfl
  have hl : ∀ j, j < 4 → (t.ch j).now.length = 64 := fun j hj => by rw [hch j hj]; exact word_length hD bD hZ bZ j hj
  have he : ∀ j, j < 4 → (t.ch j).now = (t.ch j).tru := fun j hj => by rw [hch j hj]; rfl
  have f1 := flip_eq (rdS t 0) (a := 0) (b := 0) (by omega) (by omega)
  rw [f1] at h5 hok
  have f2 := flip_eq ((rdS t 0).setCh (4 * 0 + 0 / 512) (turnK ((rdS t 0).ch (4 * 0 + 0 / 512)) (0 / 8 % 64) (0 % 8))) (a := 0) (b := 1600) (by omega) (by omega)
  rw [f2] at h5 hok
  simp only at h5 hok
  have c0 : (((rdS t 0).setCh (4 * 0 + 0 / 512) (turnK ((rdS t 0).ch (4 * 0 + 0 / 512)) (0 / 8 % 64) (0 % 8))).setCh (4 * 0 + 1600 / 512) (turnK (((rdS t 0).setCh (4 * 0 + 0 / 512) (turnK ((rdS t 0).ch (4 * 0 + 0 / 512)) (0 / 8 % 64) (0 % 8))).ch (4 * 0 + 1600 / 512)) (1600 / 8 % 64) (1600 % 8))).ch 0 = turnK (t.ch 0) 0 0 := rfl
  have c1 : (((rdS t 0).setCh (4 * 0 + 0 / 512) (turnK ((rdS t 0).ch (4 * 0 + 0 / 512)) (0 / 8 % 64) (0 % 8))).setCh (4 * 0 + 1600 / 512) (turnK (((rdS t 0).setCh (4 * 0 + 0 / 512) (turnK ((rdS t 0).ch (4 * 0 + 0 / 512)) (0 / 8 % 64) (0 % 8))).ch (4 * 0 + 1600 / 512)) (1600 / 8 % 64) (1600 % 8))).ch 1 = t.ch 1 := rfl
  have c2 : (((rdS t 0).setCh (4 * 0 + 0 / 512) (turnK ((rdS t 0).ch (4 * 0 + 0 / 512)) (0 / 8 % 64) (0 % 8))).setCh (4 * 0 + 1600 / 512) (turnK (((rdS t 0).setCh (4 * 0 + 0 / 512) (turnK ((rdS t 0).ch (4 * 0 + 0 / 512)) (0 / 8 % 64) (0 % 8))).ch (4 * 0 + 1600 / 512)) (1600 / 8 % 64) (1600 % 8))).ch 2 = t.ch 2 := rfl
  have c3 : (((rdS t 0).setCh (4 * 0 + 0 / 512) (turnK ((rdS t 0).ch (4 * 0 + 0 / 512)) (0 / 8 % 64) (0 % 8))).setCh (4 * 0 + 1600 / 512) (turnK (((rdS t 0).setCh (4 * 0 + 0 / 512) (turnK ((rdS t 0).ch (4 * 0 + 0 / 512)) (0 / 8 % 64) (0 % 8))).ch (4 * 0 + 1600 / 512)) (1600 / 8 % 64) (1600 % 8))).ch 3 = turnK (t.ch 3) 8 0 := rfl
  have hon4 : (((rdS t 0).setCh (4 * 0 + 0 / 512) (turnK ((rdS t 0).ch (4 * 0 + 0 / 512)) (0 / 8 % 64) (0 % 8))).setCh (4 * 0 + 1600 / 512) (turnK (((rdS t 0).setCh (4 * 0 + 0 / 512) (turnK ((rdS t 0).ch (4 * 0 + 0 / 512)) (0 / 8 % 64) (0 % 8))).ch (4 * 0 + 1600 / 512)) (1600 / 8 % 64) (1600 % 8))).on = true := hon
  generalize ((rdS t 0).setCh (4 * 0 + 0 / 512) (turnK ((rdS t 0).ch (4 * 0 + 0 / 512)) (0 / 8 % 64) (0 % 8))).setCh (4 * 0 + 1600 / 512) (turnK (((rdS t 0).setCh (4 * 0 + 0 / 512) (turnK ((rdS t 0).ch (4 * 0 + 0 / 512)) (0 / 8 % 64) (0 % 8))).ch (4 * 0 + 1600 / 512)) (1600 / 8 % 64) (1600 % 8)) = s4 at *
  obtain ⟨rfl, rfl, -, hT⟩ := h5.done (by omega) hon4
  have d0 : dmg (s4.ch (4 * 0 + 0)) = 1 := by rw [show s4.ch (4 * 0 + 0) = _ from c0]; exact dmg_turn (hl 0 (by omega)) (he 0 (by omega)) (by omega) 0
  have d1 : dmg (s4.ch (4 * 0 + 1)) = 0 := by rw [show s4.ch (4 * 0 + 1) = _ from c1]; exact dmg_none (he 1 (by omega))
  have d2 : dmg (s4.ch (4 * 0 + 2)) = 0 := by rw [show s4.ch (4 * 0 + 2) = _ from c2]; exact dmg_none (he 2 (by omega))
  have d3 : dmg (s4.ch (4 * 0 + 3)) = 1 := by rw [show s4.ch (4 * 0 + 3) = _ from c3]; exact dmg_turn (hl 3 (by omega)) (he 3 (by omega)) (by omega) 0
  have u0 : (s4.ch (4 * 0 + 0)).tru = wordOf (List.replicate 174 0) (body 0 0 1 0 false) 0 := by rw [show s4.ch (4 * 0 + 0) = _ from c0, hch 0 (by omega)]; rfl
  have u1 : (s4.ch (4 * 0 + 1)).tru = wordOf (List.replicate 174 0) (body 0 0 1 0 false) 1 := by rw [show s4.ch (4 * 0 + 1) = _ from c1, hch 1 (by omega)]; rfl
  have u2 : (s4.ch (4 * 0 + 2)).tru = wordOf (List.replicate 174 0) (body 0 0 1 0 false) 2 := by rw [show s4.ch (4 * 0 + 2) = _ from c2, hch 2 (by omega)]; rfl
  have u3 : (s4.ch (4 * 0 + 3)).tru = wordOf (List.replicate 174 0) (body 0 0 1 0 false) 3 := by rw [show s4.ch (4 * 0 + 3) = _ from c3, hch 3 (by omega)]; rfl
  have k0 := (hurt_dmg hok (a := 0) (by omega) u0).trans d0
  have k1 := (hurt_dmg hok (a := 0) (by omega) u1).trans d1
  have k2 := (hurt_dmg hok (a := 0) (by omega) u2).trans d2
  have k3 := (hurt_dmg hok (a := 0) (by omega) u3).trans d3
  obtain ⟨m1, -, -, m4, -, -, m7, -, m9⟩ := hT.mends hD bD May.shown (by rw [pgTo_length hok]) (fun k hk => by
    rcases (by omega : k = 0 ∨ k = 1 ∨ k = 2 ∨ k = 3) with rfl | rfl | rfl | rfl
    · rw [k0]; decide
    · rw [k1]; decide
    · rw [k2]; decide
    · rw [k3]; decide)
  rw [k0, k1, k2, k3] at m9
  exact ⟨rfl, by decide +kernel, rfl, by decide +kernel, m1, m7, m4, m9⟩
theorem build28s (w : World) : (Instr.build 28 #[(2, .int .i64 1)]).run Tryz.prog w = .ok (.agg #[.int .i64 0, .int .i64 0, .int .i64 1, .int .i64 0, .bool false]) w := by kernel_rfl
theorem make174 (w : World) : (Instr.makeSlice 55 (.int .i64 174) (.int .i64 174)).run Tryz.prog w = .ok (.slice (some ⟨w.heap.size, 0, none⟩) 174 174) (w.alloc (.cells (bcells (List.replicate 174 0)) 5)) := make_bytes w 174 174 rfl (by omega)
theorem nerrV_zero : nerrV 0 = .nilIface := rfl
/-- Blocks of a chip and a media that stand apart from what is older. -/
theorem Chg.med {u w w' : World} {m g b : Nat} (h : Chg (fun _ => False) u w) (h2 : Chg (fun k => k = m ∨ k = g ∨ k = b) w w') (hm : u.heap.size ≤ m) (hg : u.heap.size ≤ g) (hb : u.heap.size ≤ b) : Chg (fun _ => False) u w' := h.trans' h2 (fun i hi e => by omega)
theorem Med.chip {w w' : World} {m g p q b : Nat} {r : Int} {s : Chp} (h : Med w m g p q b r) (hC : ChipAt w g s) (hc : Chg (· = g) w w') : Med w' m g p q b r := by
  obtain ⟨nm, np, nq, nb⟩ := h.mg hC
  exact h.far hc nm np nq nb
set_option maxHeartbeats 8000000 in
theorem shown_any (w : World) : Calls Tryz.prog 7 #[] w fun e w' => e = .returned (.bool true) ∧ Chg (fun _ => False) w w' := by
  have hb28 := build28s
  have hmk := make174
  have e1 := eql_nil_nil
  have e2 := eql_arg_arg
  go_enter Tryz.func7, Tryz.ntmps7
  go_wp2_with fail
  refine (nnew_any w).mono ?_
  rintro x w1 ⟨rfl, C1, G1⟩
  have hs1 := G1.size
  have hgs := Nat.le_refl w.heap.size
  have hg1 := C1.lt
  have HC1 := hyd C1
  have HG1 := hyd G1
  generalize hgg : w.heap.size = g at hgs hg1 HC1 ⊢
  clear C1 G1
  go_wp2_with fail
  refine (mnew_any g w1).mono ?_
  rintro x w2 ⟨m, p, q, b, rfl, hlow, M2, G2⟩
  have hs2 := G2.size
  have C2 := HC1.out.chg G2 (fun f => f)
  have HG2 := hyd (HG1.out.trans G2)
  have hread := mread_any m g p q b 0 newS newS_ok w2 M2 C2 ((0 : Nat) : Int)
  clear HC1 HG1 M2 G2 C2
  go_wp2_with fail
  refine hread.mono ?_
  rintro x w3 ⟨s3, r3, X3, c3, v3, rfl, hR3, hO3, M3, C3, G3⟩
  clear hread
  obtain ⟨rfl, hr3, rfl, hT3⟩ := hR3.done (by omega) rfl
  rw [show wrap64 (0 + 1) = 1 from by decide +kernel] at hr3
  subst hr3
  have hM3 := M3.lts
  have hC3 := C3.lt
  obtain ⟨x1, x2, -⟩ := blank_page newS_ok hT3 rfl
  have HG3 := hyd (HG2.out.med G3 (by omega) (by omega) (by omega))
  have HM3 := hyd M3
  have HC3 := hyd C3
  have HO3 := hyd hO3
  obtain ⟨xt, xp, xo, xs, xc, xl, xsd, xd, xg⟩ := X3
  simp only at x1 x2
  subst x1 x2
  have hs3 := G3.size
  clear M3 C3 G3 hO3 HG2 hT3 hR3
  rw [nerrV_zero]
  simp only [pgV]
  go_wp2_with (refine wpList_store_pg rfl (.tmp 3) (.tmp 21) rfl w3.heap.size rfl rfl HO3.out.one (Pb.new w3 false 0 0 0 0 false false (.slice none 0 0) 0) ?_)
  intro w4 P4 G4
  have G4' : Chg (fun _ => False) w3 w4 := ((Chg.refl (fun _ => False) w3).alloc _).trans' G4 (fun k hk e => by omega)
  have HG4 := hyd (HG3.out.trans G4')
  have M4 := HM3.out.chg G4'
  have C4 := HC3.out.chg G4' (fun f => f)
  have HP4 := hyd P4
  have hs4 := G4'.size
  have G5 : Chg (fun _ => False) w4 (w4.alloc (.cells (bcells (List.replicate 174 0)) 5)) := (Chg.refl _ w4).alloc _
  have A5 : Arr (w4.alloc (.cells (bcells (List.replicate 174 0)) 5)) w4.heap.size 5 (List.replicate 174 0) := Arr.new w4 5 _
  have hlt4 := P4.lt
  have hprog := mprogram_yes m g p q b 1 (rdS newS 0) (rdS_ok newS_ok 0) _ (M4.chg G5) (C4.chg G5 (fun f => f)) 0 0 1 0 false May.shown w4.heap.size 0 174 (List.replicate 174 0) List.length_replicate (bys_rep 174 0 (by omega)) (by have := M4.lts; omega) (by have := C4.lt; omega) (by have := M4.lts; omega) A5.at_
  have HG5 := hyd (HG4.out.trans G5)
  have HP5 := hyd (HP4.out.chg G5 (fun f => f))
  clear P4 G4 G4' HG3 HM3 HC3 HO3 M4 C4 A5 G5 HG4 HP4
  go_wp2_with fail
  refine hprog.mono ?_
  rintro x w6 ⟨⟨s6, r6, c6, hP6, rfl, M6, C6⟩, G6⟩
  clear hprog
  have ok6 := hP6.ok (rdS_ok newS_ok 0) List.length_replicate (bys_rep 174 0 (by omega))
  have HP6 := hyd (HP5.out.chg G6 (by have := M6.lts; omega))
  have HG6 := hyd (HG5.out.med G6 (by omega) (by omega) (by omega))
  have HM6 := hyd M6
  have HC6 := hyd C6
  have hs6 := G6.size
  have hl6 := M6.lts
  have hgl6 := C6.lt
  have HPR := hyd hP6
  have HOK6 := hyd ok6
  clear M6 C6 G6 HG5 HP5 hP6 ok6
  go_wp2_with fail
  refine (flip_any g s6 HOK6.out ((0 : Nat) : Int) ((0 : Nat) : Int) w6 HC6.out).mono ?_
  rintro x w7 ⟨rfl, C7, G7⟩
  rw [show (flipR s6 ((0 : Nat) : Int) ((0 : Nat) : Int)).2 = 0 from by rw [flip_eq s6 (by omega) (by omega)]]
  have HOK7 := hyd (flipR_ok HOK6.out ((0 : Nat) : Int) ((0 : Nat) : Int))
  have HM7 := hyd (HM6.out.chip HC6.out G7)
  have HP7 := hyd (HP6.out.chg G7 (by omega))
  have HG7 := hyd (HG6.out.fresh G7 (by omega))
  have HC7 := hyd C7
  clear C7 G7 HM6 HC6 HG6 HP6
  go_wp2_with fail
  refine (flip_any g _ HOK7.out ((0 : Nat) : Int) ((1600 : Nat) : Int) w7 HC7.out).mono ?_
  rintro x w8 ⟨rfl, C8, G8⟩
  rw [show (flipR (flipR s6 ((0 : Nat) : Int) ((0 : Nat) : Int)).1 ((0 : Nat) : Int) ((1600 : Nat) : Int)).2 = 0 from by rw [flip_eq _ (by omega) (by omega)]]
  have HOK8 := hyd (flipR_ok HOK7.out ((0 : Nat) : Int) ((1600 : Nat) : Int))
  have M8 := HM7.out.chip HC7.out G8
  have HP8 := hyd (HP7.out.chg G8 (by omega))
  have HG8 := hyd (HG7.out.fresh G8 (by omega))
  have hread := mread_any m g p q b r6 _ HOK8.out w8 M8 C8 ((0 : Nat) : Int)
  clear C8 G8 HM7 HC7 HG7 HP7 M8
  go_wp2_with fail
  refine hread.mono ?_
  rintro x w9 ⟨s9, r9, X9, c9, v9, rfl, hR9, hO9, M9, C9, G9⟩
  clear hread
  obtain ⟨rfl, rfl, rfl, rfl, y1, y2, y3, y4⟩ := shown_page rfl HPR.out hR9
  have HG9 := hyd (HG8.out.med G9 (by omega) (by omega) (by omega))
  have HP9 := hyd (HP8.out.chg G9 (by omega))
  have HM9 := hyd M9
  have HO9 := hyd hO9
  obtain ⟨xt9, xp9, xo9, xs9, xc9, xl9, xsd9, xd9, xg9⟩ := X9
  simp only at y1 y2 y3 y4
  subst y1 y2 y3 y4
  have hs9 := HG9.out.size
  clear M9 C9 G9 hO9 HG8 HP8 hR9 HPR HOK6 HOK7 HOK8
  rw [nerrV_zero]
  simp only [pgV]
  have hl9 := HP9.out.lt
  go_wp2_with (refine wpList_store_pg rfl (.tmp 8) (.tmp 34) rfl w9.heap.size rfl rfl HO9.out.one (Pb.new w9 false 0 0 0 0 false false (.slice none 0 0) 0) ?_)
  intro wA PA GA
  have GA' : Chg (fun _ => False) w9 wA := ((Chg.refl (fun _ => False) w9).alloc _).trans' GA (fun k hk e => by omega)
  have HGA := hyd (HG9.out.trans GA')
  have MA := HM9.out.chg GA'
  have HPA := hyd (HP9.out.chg GA' (fun f => f))
  have HQA := hyd PA
  have G5 : Chg (fun _ => False) wA (wA.alloc (.cells (bcells (List.replicate 174 0)) 5)) := (Chg.refl _ wA).alloc _
  have hprog := mprogram_no m g p q b 3 _ (MA.chg G5) 1 0 0 1 0 false (some ⟨wA.heap.size, 0, none⟩) 174 174 (fun h => by have := h.2.1; omega)
  have HMB := hyd (MA.chg G5)
  have HGB := hyd (HGA.out.trans G5)
  have HPB := hyd (HPA.out.chg G5 (fun f => f))
  have HQB := hyd (HQA.out.chg G5 (fun f => f))
  clear PA GA GA' HG9 HP9 HM9 HO9 MA G5 HGA HPA HQA
  go_wp2_with fail
  refine hprog.mono ?_
  rintro x wC ⟨rfl, GC⟩
  clear hprog
  have HMC := hyd (HMB.out.chg GC)
  have HGC := hyd (HGB.out.trans GC)
  obtain ⟨k0, -, -, -, -, -, k6, -, -⟩ := (HPB.out.chg GC (fun f => f)).cells
  obtain ⟨j0, -, -, j3, -, -, j6, -, j8⟩ := (HQB.out.chg GC (fun f => f)).cells
  have hrd := mreads_any m g p q b 3 wC HMC.out
  clear GC HMB HGB HPB HQB
  go_wp2_with fail
  refine hrd.mono ?_
  rintro x wD ⟨rfl, rfl⟩
  clear hrd
  go_wp2
  go_ret
  exact ⟨rfl, HGC.out⟩
end Go.Proofs.YtifjmilegogbaaaGreat
