/-
  MediaCuts: the power goes behind any number of chunks. Conditions: the integers that came in lie in memory.
-/
import Derived.Test.YtifjmilegogbaaaGreatMHead
import Derived.Deep.CutBlock
import Derived.Deep.DeepCutAuto
namespace Go.Proofs.YtifjmilegogbaaaGreat
open Go.RowKit
set_option maxRecDepth 100000

/-- A slice of ints that came in. -/
def IsInts (w : World) (a : Option Addr) (len : Nat) (T : Nat → Int) : Prop :=
  (∀ i, i < len → -9223372036854775808 ≤ T i ∧ T i ≤ 9223372036854775807) ∧
  (len = 0 ∨ ∃ g o, a = some ⟨g, o, none⟩ ∧ g < w.heap.size ∧ ∀ i, i < len → w.cell? ⟨g, o + i, none⟩ = some (.int .i64 (T i)))
theorem IsInts.chg {w w' : World} {a : Option Addr} {len : Nat} {T : Nat → Int} (h : IsInts w a len T) (hc : Chg (fun _ => False) w w') : IsInts w' a len T := by
  refine ⟨h.1, ?_⟩
  rcases h.2 with h1 | ⟨g, o, h1, h2, h3⟩
  · exact Or.inl h1
  · exact Or.inr ⟨g, o, h1, Nat.lt_of_lt_of_le h2 hc.size, fun i hi => (World.cell?_of_block (a := ⟨g, o + i, none⟩) (hc.block g h2 (fun f => f))).trans (h3 i hi)⟩
/-- What a statement of this layer holds: a Both, and its tag in a box. -/
structure Std (w0 w : World) (t c m p q b R T : Nat) (tp tf ts tc : Int) (tl : Bool) (s : Chp) (r : Int) : Prop where
  bth : Bth w t c m R
  med : Med w m c p q b r
  chip : ChipAt w c s
  ok : s.Ok
  tg : Tg w T tp tf ts tc tl
  lo : w0.heap.size ≤ T ∧ T < c ∧ T < m ∧ T < b ∧ T < p ∧ T < q
  hi : c < t ∧ m < t ∧ b < t ∧ T < t
  chg : Chg (fun _ => False) w0 w
theorem Std.still {w0 w w' : World} {t c m p q b R T : Nat} {tp tf ts tc : Int} {tl : Bool} {s : Chp} {r : Int} (h : Std w0 w t c m p q b R T tp tf ts tc tl s r) (hc : Chg (fun _ => False) w w') : Std w0 w' t c m p q b R T tp tf ts tc tl s r :=
  ⟨h.bth.chg hc (fun f => f), h.med.chg hc, h.chip.chg hc (fun f => f), h.ok, h.tg.chg hc (fun f => f), h.lo, h.hi, h.chg.trans hc⟩
theorem Std.drew {w0 w : World} {t c m p q b R T : Nat} {tp tf ts tc : Int} {tl : Bool} {s : Chp} {r : Int} (h : Std w0 w t c m p q b R T tp tf ts tc tl s r) : Std w0 w.drew t c m p q b R T tp tf ts tc tl s r := h.still ((Chg.refl _ w).drew)
theorem Std.set {w0 w w' : World} {t c m p q b R T : Nat} {tp tf ts tc : Int} {tl : Bool} {s s' : Chp} {r r' : Int} (h : Std w0 w t c m p q b R T tp tf ts tc tl s r) (hM : Med w' m c p q b r') (hC : ChipAt w' c s') (ok : s'.Ok) (hc : Chg (fun k => k = m ∨ k = c ∨ k = b) w w') : Std w0 w' t c m p q b R T tp tf ts tc tl s' r' :=
  ⟨h.bth.chg hc (by have := h.hi; omega), hM, hC, ok, h.tg.chg hc (by have := h.lo; omega), h.lo, h.hi, h.chg.trans' hc (fun k hk e => by have := h.lo; omega)⟩
theorem Std.chip' {w0 w w' : World} {t c m p q b R T : Nat} {tp tf ts tc : Int} {tl : Bool} {s s' : Chp} {r : Int} (h : Std w0 w t c m p q b R T tp tf ts tc tl s r) (hC : ChipAt w' c s') (ok : s'.Ok) (hc : Chg (· = c) w w') : Std w0 w' t c m p q b R T tp tf ts tc tl s' r :=
  h.set (h.med.chip h.chip hc) hC ok (hc.mono (fun _ _ e => Or.inr (Or.inl e)))

/-- The chip behind a programming that may have been cut off. -/
theorem cuts_prog {n : Nat} (hn : n < 6) {p o q c : Nat} {l : Bool} (hm : May p o q c l) {Dt : List Nat} (hD : Dt.length = 174) (bD : Bys Dt) {s' : Chp} {r' : Int} {e : Nat} (h : ProgR (cutR newS (n : Nat)).1 0 p p o q c l Dt s' r' e) :
    (e = if n < 4 then 7 else 0) ∧ ∀ j, s'.ch j = if 4 * p ≤ j ∧ j < 4 * p + min n 4 then pgmK (wordOf Dt (body p o q c l) (j - 4 * p)) else newK := by
  have e1 : (cutR newS (n : Nat)).1 = { newS with lim := true, bud := n } := by
    unfold cutR
    rw [if_neg (by omega), if_pos (show newS.on = true from rfl), Int.toNat_natCast]
  have hs : (cutR newS (n : Nat)).1.Ok := cutR_ok newS_ok _ (by omega)
  rw [e1] at h hs
  have ha := hm.place
  have hl : ∀ k, k < 4 → (wordOf Dt (body p o q c l) k).length = 64 := fun k hk => word_length hD bD (body_length _ _ _ _ _) (body_bys _ _ _ _ _) k hk
  by_cases h4 : n < 4
  · obtain ⟨t, L, hw⟩ := wrN_cut (s := { newS with lim := true, bud := n }) (W := wordOf Dt (body p o q c l)) ha hl rfl (fun _ _ => rfl) ⟨rfl, rfl, rfl⟩ rfl rfl h4
    rcases h with ⟨_, rfl, _, rfl⟩ | ⟨h0, _⟩
    · rw [hw, if_pos h4]
      refine ⟨rfl, fun j => ?_⟩
      show t.ch j = _
      rw [L.ch, show min n 4 = n from by omega]
      rfl
    · rw [hw] at h0; cases h0
  · obtain ⟨rfl, -, t, L, rfl⟩ := prog_done hs hm hD bD rfl (fun _ _ => rfl) ⟨rfl, rfl, rfl⟩ (fun _ => by show 4 ≤ n; omega) h
    rw [if_neg h4]
    refine ⟨rfl, fun j => ?_⟩
    show t.ch j = _
    rw [L.ch, show min n 4 = 4 from by omega]
    rfl
/-- i bits of the tag's chunk were turned. -/
structure FlI (s2 s : Chp) (p i : Nat) : Prop where
  ok : s.Ok
  on : s.on = true
  far : ∀ j, j ≠ 4 * p + 3 → s.ch j = s2.ch j
  tru : (s.ch (4 * p + 3)).tru = (s2.ch (4 * p + 3)).tru
  is : (s.ch (4 * p + 3)).is = (s2.ch (4 * p + 3)).is
  ds : ds (s.ch (4 * p + 3)).now (s2.ch (4 * p + 3)).now ≤ i
theorem FlI.flip {s2 s : Chp} {p i k : Nat} (h : FlI s2 s p i) (hp : p < 96) (hk : k < 512) : FlI s2 (flipR s (p : Nat) ((1536 + k : Nat) : Int)).1 p (i + 1) ∧ (flipR s (p : Nat) ((1536 + k : Nat) : Int)).2 = 0 := by
  have hok := flipR_ok h.ok (p : Nat) ((1536 + k : Nat) : Int)
  rw [flip_eq s hp (by omega)] at hok ⊢
  have e3 : 4 * p + (1536 + k) / 512 = 4 * p + 3 := by omega
  rw [e3] at hok ⊢
  refine ⟨⟨hok, h.on, fun j hj => ?_, ?_, ?_, ?_⟩, rfl⟩
  · show (if j = 4 * p + 3 then _ else s.ch j) = _
    rw [if_neg hj]
    exact h.far j hj
  · show (if 4 * p + 3 = 4 * p + 3 then turnK _ _ _ else s.ch _).tru = _
    rw [if_pos rfl]
    exact h.tru
  · show (if 4 * p + 3 = 4 * p + 3 then turnK _ _ _ else s.ch _).is = _
    rw [if_pos rfl]
    exact h.is
  · show Go.Proofs.YtifjmilegogbaaaGreat.ds (if 4 * p + 3 = 4 * p + 3 then turnK _ _ _ else s.ch _).now _ ≤ _
    rw [if_pos rfl]
    exact Nat.le_trans (ds_turned _ _ _ _) (Nat.succ_le_succ h.ds)
/-- What is seen of it. -/
theorem cuts_seen {n i : Nat} (hi : i ≤ 4) {p o q c : Nat} {l : Bool} (hm : May p o q c l) {Dt : List Nat} (hD : Dt.length = 174) (bD : Bys Dt) {s2 s : Chp} (h2 : ∀ j, s2.ch j = if 4 * p ≤ j ∧ j < 4 * p + min n 4 then pgmK (wordOf Dt (body p o q c l) (j - 4 * p)) else newK) (h : FlI s2 s p i)
    {X : Pg} (hT : ToldR (pgTo s p 4) (p : Nat) X) :
    (n < 4 → X.tagged = false ∧ X.sound = false) ∧ (4 ≤ n → X.tagged = true → X.p = p ∧ X.o = o ∧ X.s = q ∧ X.c = c ∧ X.l = l) ∧ (∀ k, k < 4 → (s.ch (4 * p + k)).is = decide (k < n)) ∧ ∀ a, a ≠ p → (s.ch (4 * a)).is = false := by
  refine ⟨fun h4 => ?_, fun h4 ht => ?_, fun k hk => ?_, fun a ha => ?_⟩
  · have e : (s2.ch (4 * p + 3)).now = ff64 := by
      rw [h2, if_neg (by omega)]; rfl
    have := hT.blank (by rw [part_page h.ok p 3 (by omega)]; have := h.ds; rw [e] at this; omega)
    exact ⟨this.1, this.2.1⟩
  · have hw : ∀ k, k < 4 → s2.ch (4 * p + k) = pgmK (wordOf Dt (body p o q c l) k) := fun k hk => by
      rw [h2, if_pos ⟨by omega, by omega⟩, show 4 * p + k - 4 * p = k from by omega]
    have hu : ∀ k, k < 4 → (s.ch (4 * p + k)).tru = wordOf Dt (body p o q c l) k := fun k hk => by
      by_cases e : k = 3
      · subst e
        rw [h.tru, hw 3 hk]; rfl
      · rw [h.far _ (by omega), hw k hk]; rfl
    have hh : ∀ k, k < 4 → hurt Dt (body p o q c l) (pgTo s p 4) k ≤ 4 := fun k hk => by
      rw [hurt_dmg h.ok hk (hu k hk), dmg_ds]
      by_cases e : k = 3
      · subst e
        have := h.ds
        rw [h.tru]
        rw [hw 3 hk] at this ⊢
        exact Nat.le_trans this hi
      · rw [h.far _ (by omega), hw k hk]
        show Go.Proofs.YtifjmilegogbaaaGreat.ds (wordOf Dt (body p o q c l) k) (wordOf Dt (body p o q c l) k) ≤ 4
        rw [ds_self]
        omega
    exact (hT.told hD bD hm (by rw [pgTo_length h.ok]) hh).2.2.2.1 ht
  · have e : (s.ch (4 * p + k)).is = (s2.ch (4 * p + k)).is := by
      by_cases e : k = 3
      · subst e; exact h.is
      · rw [h.far _ (by omega)]
    rw [e, h2]
    by_cases hkn : k < n
    · rw [if_pos ⟨by omega, by omega⟩, decide_eq_true hkn]; rfl
    · rw [if_neg (by omega), decide_eq_false hkn]; rfl
  · rw [h.far _ (by omega), h2, if_neg (by omega)]; rfl

theorem Std.lts {w0 w : World} {t c m p q b R T : Nat} {tp tf ts tc : Int} {tl : Bool} {s : Chp} {r : Int} (h : Std w0 w t c m p q b R T tp tf ts tc tl s r) : t < w.heap.size ∧ c < w.heap.size ∧ m < w.heap.size ∧ p < w.heap.size ∧ q < w.heap.size ∧ b < w.heap.size ∧ T < w.heap.size ∧ w0.heap.size ≤ w.heap.size :=
  ⟨h.bth.lt, h.chip.lt, h.med.lt, h.med.lts.2.1, h.med.lts.2.2.1, h.med.lts.2.2.2, h.tg.lt, h.chg.size⟩
theorem Std.junk {w0 w w' : World} {t c m p q b R T K : Nat} {tp tf ts tc : Int} {tl : Bool} {s : Chp} {r : Int} (h : Std w0 w t c m p q b R T tp tf ts tc tl s r) (hc : Chg (· = K) w w') (hK : t ≠ K ∧ c ≠ K ∧ m ≠ K ∧ p ≠ K ∧ q ≠ K ∧ b ≠ K ∧ T ≠ K ∧ w0.heap.size ≤ K) : Std w0 w' t c m p q b R T tp tf ts tc tl s r :=
  ⟨h.bth.chg hc (by omega), h.med.far hc (by omega) (by omega) (by omega) (by omega), h.chip.chg hc (by omega), h.ok, h.tg.chg hc (by omega), h.lo, h.hi, h.chg.trans' hc (fun k hk e => by omega)⟩
theorem Std.start (w w1 w2 : World) (tp tf ts tc : Int) (tl : Bool) (t c m p q b R rr lo hi : Nat) (G1 : Chg (fun _ => False) (w.alloc (.cells #[.int .i64 tp, .int .i64 tf, .int .i64 ts, .int .i64 tc, .bool tl] 28)) w1) (B : Bth w2 t c m R) (M : Med w2 m c p q b 0) (C : ChipAt w2 c newS) (_D : RMd w2 R rr 0) (_E : RefAt w2 rr newS (fun k => lo ≤ k ∧ k < hi))
    (hl : w1.heap.size ≤ c ∧ w1.heap.size ≤ m ∧ w1.heap.size ≤ p ∧ w1.heap.size ≤ q ∧ w1.heap.size ≤ b) (hh : c < lo ∧ m < lo ∧ p < lo ∧ q < lo ∧ b < lo) (ht : t = hi + 1) (hlh : lo ≤ hi) (G2 : Chg (fun _ => False) w1 w2) : Std w w2 t c m p q b R w.heap.size tp tf ts tc tl newS 0 := by
  have T0 := Tg.new w tp tf ts tc tl
  have G0 : Chg (fun _ => False) w (w.alloc (.cells #[.int .i64 tp, .int .i64 tf, .int .i64 ts, .int .i64 tc, .bool tl] 28)) := (Chg.refl _ w).alloc _
  have hs : (w.alloc (.cells #[.int .i64 tp, .int .i64 tf, .int .i64 ts, .int .i64 tc, .bool tl] 28)).heap.size = w.heap.size + 1 := by simp
  have hs1 := G1.size
  exact ⟨B, M, C, newS_ok, (T0.chg G1 (fun f => f)).chg G2 (fun f => f), by omega, by omega, (G0.trans G1).trans G2⟩
theorem OwnT.sl {w : World} {base : Nat} {e : TypeId} {v : Value} {l : List Nat} (h : OwnT w base e v l) : ∃ ad n cap, v = .slice ad n cap := by
  rcases h.form with ⟨rfl, _⟩ | ⟨g, cap, rfl, _⟩ <;> exact ⟨_, _, _, rfl⟩
theorem chg_row (w : World) (K : Nat) (cs : Array Value) : Chg (· = K) w (w.setRow K cs) := ⟨rfl, rfl, rfl, by simp, fun _ _ hk => setRow_other _ _ _ _ hk⟩
theorem wrap1536 (kk : Nat) (h : kk < 512) : IntKind.i64.wrap (1536 + (kk : Int)) = ((1536 + kk : Nat) : Int) := by
  unfold IntKind.wrap
  simp [IntKind.bits, IntKind.signed]
  omega
end Go.Proofs.YtifjmilegogbaaaGreat
