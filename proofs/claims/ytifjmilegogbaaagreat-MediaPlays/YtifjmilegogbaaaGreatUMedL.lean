/-
  What follows of the media's machine: a page programmed on a calm block is read as it was; its turned bytes are what the chip counts; a page that was cut off has no tag. No condition: lemmas.
-/
import Derived.Test.YtifjmilegogbaaaGreatUMed
namespace Go.Proofs.YtifjmilegogbaaaGreat
open Go.RowKit
set_option maxRecDepth 100000

/-- A chip on which bits of page a alone were turned. -/
structure Turned (s t : Chp) (a : Nat) : Prop where
  on : t.on = s.on
  lim : t.lim = s.lim
  bl : t.bl = s.bl
  tru : ∀ j, (t.ch j).tru = (s.ch j).tru
  is : ∀ j, (t.ch j).is = (s.ch j).is
  far : ∀ j, ¬ (4 * a ≤ j ∧ j < 4 * a + 4) → t.ch j = s.ch j
theorem Turned.refl (s : Chp) (a : Nat) : Turned s s a := ⟨rfl, rfl, rfl, fun _ => rfl, fun _ => rfl, fun _ _ => rfl⟩
theorem flip_eq (t : Chp) {a b : Nat} (ha : a < 96) (hb : b < 2048) : flipR t a b = (t.setCh (4 * a + b / 512) (turnK (t.ch (4 * a + b / 512)) (b / 8 % 64) (b % 8)), 0) := by
  unfold flipR
  rw [if_neg (by omega), Int.toNat_natCast, Int.toNat_natCast]
theorem Turned.flip {s t : Chp} {a : Nat} (h : Turned s t a) {b : Nat} (ha : a < 96) (hb : b < 2048) : Turned s (flipR t a b).1 a ∧ (flipR t a b).2 = 0 := by
  rw [flip_eq t ha hb]
  refine ⟨⟨h.on, h.lim, h.bl, fun j => ?_, fun j => ?_, fun j hj => ?_⟩, rfl⟩
  · show (if j = _ then _ else t.ch j).tru = _
    split
    · rename_i e; subst e; exact h.tru _
    · exact h.tru j
  · show (if j = _ then _ else t.ch j).is = _
    split
    · rename_i e; subst e; exact h.is _
    · exact h.is j
  · show (if j = _ then _ else t.ch j) = _
    rw [if_neg (by omega)]
    exact h.far j hj
/-- What was turned in a chunk is what the chip counts. -/
theorem hurt_dmg {t : Chp} (ht : t.Ok) {a k : Nat} (hk : k < 4) {Dt Z : List Nat} (h : (t.ch (4 * a + k)).tru = wordOf Dt Z k) : hurt Dt Z (pgTo t a 4) k = dmg (t.ch (4 * a + k)) := by
  rw [hurt, part_page ht a k hk, dmg_ds, h]
theorem word_length {Dt Z : List Nat} (hD : Dt.length = 174) (bD : Bys Dt) (hZ : Z.length = 50) (bZ : Bys Z) (k : Nat) (hk : k < 4) : (wordOf Dt Z k).length = 64 := (word_cw hD bD hZ bZ k hk).1
theorem readV_on {s : Chp} {a : Nat} (ha : a < 96) (hon : s.on = true) : readV s a = (rdS s a, pgTo s a 4, 0) := by
  unfold readV
  rw [if_neg (by omega), if_neg (by rw [hon]; simp), Int.toNat_natCast]
theorem May.place {p o q c : Nat} {l : Bool} (h : May p o q c l) : p < 96 := by
  have := h.1.1
  omega
/-- A page is programmed on a calm block of a chip whose power is on: it is done. -/
theorem prog_done {s : Chp} (hs : s.Ok) {r : Int} {p o q c : Nat} {l : Bool} {Dt : List Nat} (hm : May p o q c l) (hD : Dt.length = 174) (bD : Bys Dt) (hon : s.on = true) (hnew : ∀ k, k < 4 → (s.ch (4 * p + k)).is = false) (hc : (s.bl (p / 8)).Calm) (hb : s.lim = true → 4 ≤ s.bud)
    {s' : Chp} {r' : Int} {e : Nat} (h : ProgR s r p p o q c l Dt s' r' e) :
    e = 0 ∧ r' = wrap64 (r + 1) ∧ ∃ t, Laid s t p 4 (wordOf Dt (body p o q c l)) ∧ s' = rdS t p := by
  have hZ := body_length p o q c l
  have bZ := body_bys p o q c l
  have ha := hm.place
  obtain ⟨h0, L⟩ := wrN_done ha (fun k hk => word_length hD bD hZ bZ k hk) hon hnew hc 4 (by omega) hb
  have hOk := wrN_ok hs p (W := wordOf Dt (body p o q c l)) 4 (fun k hk => (word_cw hD bD hZ bZ k hk).2.1)
  rcases h with ⟨hx, _⟩ | ⟨_, g, x, ⟨rfl, hx, hr⟩, he⟩
  · exact absurd h0 hx
  · have ev := readV_on ha (show (wrN s p (wordOf Dt (body p o q c l)) 4).1.on = true by rw [L.on, hon])
    rw [ev] at hx hr ⊢
    simp only at hx hr ⊢
    subst hx
    rcases hr with ⟨hn, _⟩ | ⟨_, rfl, hT⟩
    · exact absurd rfl hn
    · have hh : ∀ k, k < 4 → hurt Dt (body p o q c l) (pgTo (wrN s p (wordOf Dt (body p o q c l)) 4).1 p 4) k = 0 := fun k hk => by
        have e1 : (wrN s p (wordOf Dt (body p o q c l)) 4).1.ch (4 * p + k) = pgmK (wordOf Dt (body p o q c l) k) := by
          rw [L.ch, if_pos ⟨by omega, by omega⟩, show 4 * p + k - 4 * p = k from by omega]
        rw [hurt, part_page hOk p k hk, e1]
        exact ds_self _
      obtain ⟨m1, m2, m3, m4, m5, m6, m7, m8, -⟩ := hT.mends hD bD hm (by rw [pgTo_length hOk]) (fun k hk => by rw [hh k hk]; omega)
      have hIs : g.Is p o q c l Dt := ⟨m1, ⟨m2, m3, m4, m5, m6⟩, m7, m8⟩
      rcases he with ⟨hn, _⟩ | ⟨_, _, rfl⟩ | ⟨_, hn, _⟩
      · exact absurd rfl hn
      · exact ⟨rfl, rfl, _, L, rfl⟩
      · exact absurd hIs hn
/-- A turned byte is one more, at most. -/
theorem ds_turned (k : Chk) (p b : Nat) (x : List Nat) : ds (turnK k p b).now x ≤ ds k.now x + 1 := by
  have h1 := ds_tri (turnK k p b).now k.now x
  have h2 : ds (turnK k p b).now k.now ≤ 1 := ds_close (k := p) (fun i hi => by
    show (k.now.set p _).getD i 0 = _
    rw [List.getD_eq_getElem?_getD, List.getElem?_set_ne (fun e => hi e.symm), List.getD_eq_getElem?_getD])
  omega
end Go.Proofs.YtifjmilegogbaaaGreat
