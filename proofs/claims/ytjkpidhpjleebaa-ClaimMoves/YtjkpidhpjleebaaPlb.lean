/-
  The law's own placed. Condition: at most 2932031007402 founds (2^47 bytes).
-/
import Derived.Test.YtjkpidhpjleebaaPlc
import Derived.Test.YtjkpidhpjleebaaLiv
import Derived.Test.YtjkpidhpjleebaaNwWalk
namespace Go.Proofs.Ytjkpidhpjleebaa
set_option maxRecDepth 100000
open Go.RowKit Go.Sort

/-- Block g holds 96 bools. -/
def B96 (w : World) (g : Nat) (F : Nat → Bool) : Prop := w.heap[g]? = some (.cells (bools F 96).toArray 48)
theorem B96.lt {w : World} {b : Nat} {f : Nat → Bool} (h : B96 w b f) : b < w.heap.size := (Array.getElem?_eq_some_iff.1 (show w.heap[b]? = some _ from h)).1
theorem B96.chg {S : Nat → Prop} {w w' : World} {b : Nat} {f : Nat → Bool} (h : B96 w b f) (hc : Chg S w w') (hb : ¬ S b) : B96 w' b f := (hc.block b h.lt hb).trans h
theorem B96.set {w : World} {b : Nat} {f : Nat → Bool} (h : B96 w b f) (i : Nat) (z : Bool) : B96 (w.setCell ⟨b, i, none⟩ (.bool z)) b (upd f i z) := by
  have h' : w.heap[b]? = some _ := h
  show (w.setCell ⟨b, i, none⟩ _).heap[b]? = _
  have e2 : (bools f 96).toArray.setIfInBounds i (.bool z) = (bools (upd f i z) 96).toArray := by
    apply Array.ext'
    have := bools_set f 96 i z
    simpa using this
  simp [World.setCell, Array.getElem?_modify, h', e2]
theorem B96.cell {w : World} {b : Nat} {f : Nat → Bool} (h : B96 w b f) (i : Nat) (hi : i < 96) : w.cell? ⟨b, i, none⟩ = some (.bool (f i)) ∧ w.frozen? ⟨b, i, none⟩ = false := by
  have h' : w.heap[b]? = some _ := h
  refine ⟨?_, by simp [World.frozen?, h']⟩
  simp only [World.cell?, h']
  simpa using bools_at f 96 i hi
theorem zero48 (w : World) : (zeroValue 48).run Try.prog w = .ok (.agg (bools (fun _ => false) 96).toArray) w := by kernel_rfl
theorem wpList_alloc_96 {ops : Array Oper} {rest : List Oper} {o : Oper} {a : Act} {w : World} {Q : Exit → Act → World → Prop} (hgd : o.guard = none) (ho : o.op = .alloc 48) (N : Nat) (hN : w.heap.size = N)
    (h : ∀ w', B96 w' N (fun _ => false) → Chg (fun _ => False) w w' → w'.heap.size = N + 1 → wpList Try.prog ops Q rest (a.put o.dst (.pointer (some ⟨N, 0, none⟩))) w') : wpList Try.prog ops Q (o :: rest) a w := by
  refine wpList_plain hgd fun K hK => ?_
  have hz := zero48
  unfold Oper.wp
  simp [execOp, ho, Instr.alloc, hz, newVar, Value.cells, newRow]
  rw [hN]
  refine hK _ _ (h _ ?_ ((Chg.refl _ w).alloc _) (by simp [hN]))
  rw [← hN]
  show (w.heap.push _)[w.heap.size]? = _
  simp
/-- Placed, sound, each number and seq once. -/
structure Pld (out : List Fnd) : Prop where
  dst : Dst out
  sound : ∀ f ∈ out, snd f = true
  uni : out.Pairwise fun a b => ¬ (a.O = b.O ∧ a.S = b.S)
theorem Pld.snoc {out : List Fnd} (h : Pld out) {f : Fnd} (hs : snd f = true) (hp : ∀ g ∈ out, g.P ≠ f.P) (ht : twc out f = false) : Pld (out ++ [f]) := by
  refine ⟨?_, fun g hg => ?_, ?_⟩
  · unfold Dst
    rw [List.pairwise_append]
    exact ⟨h.dst, by simp, fun g hg x hx => by simp only [List.mem_singleton] at hx; subst hx; exact hp g hg⟩
  · rcases List.mem_append.1 hg with h1 | h1
    · exact h.sound g h1
    · simp only [List.mem_singleton] at h1
      subst h1; exact hs
  · rw [List.pairwise_append]
    refine ⟨h.uni, by simp, fun g hg x hx => ?_⟩
    simp only [List.mem_singleton] at hx
    subst hx
    intro hh
    rw [← Bool.not_eq_true] at ht
    exact ht (List.any_eq_true.2 ⟨g, hg, by simp [hh.1, hh.2]⟩)
def PlR (w : World) (n : Nat) (e : Ending) (w' : World) : Prop := ∃ v' out, e = .returned v' ∧ Sl w' v' out ∧ Pld out ∧ out.length ≤ n ∧ Chg (fun _ => False) w w'

set_option maxHeartbeats 16000000 in
theorem placed_any (w : World) (a : Option Addr) (cap : Nat) (l : List Fnd) (n : Nat) (hnl : n = l.length) (hs : Sl w (.slice a n cap) l) (hn : n < 2932031007402) :
    Calls Try.prog 18 #[.slice a n cap] w (PlR w n) := by
  have HN := hyd hnl
  have HS := hyd hs
  clear hs hnl
  go_enter Try.func18, Try.ntmps18
  go_wp2_with (refine wpList_alloc_96 rfl rfl w.heap.size rfl ?_)
  intro w1 A1 G1 S1
  have HA1 := hyd A1
  have HS1 := hyd (HS.out.new G1)
  have HSb := hyd HS.out.apart
  have HG1 := hyd G1
  have HSz := hyd S1
  clear A1 G1 S1 HS
  obtain ⟨B, HBB⟩ : ∃ B, Hid (B = w.heap.size) := ⟨_, rfl⟩
  rw [← HBB.out] at HA1 HSb HSz
  rw [← HBB.out]
  go_wp2_with fail
  go_loopg [3, 5] n (fun kx s3 s5 wr => ∃ (i : Nat) (out : List Fnd) (F : Nat → Bool), s5 = .int .i64 i ∧ i ≤ n ∧ n - i ≤ kx ∧ out.length ≤ i ∧ Hid (Ow wr (B + 1) s3 out) ∧ Hid (Pld out) ∧ Hid (∀ f ∈ out, F f.P.toNat = true) ∧ Hid (B96 wr B F) ∧ Hid (Chg (· = B) w1 wr))
  case atStart => exact ⟨0, [], fun _ => false, rfl, by omega, by omega, by simp, Ow.nil _ _, ⟨List.Pairwise.nil, fun f hf => by simp at hf, List.Pairwise.nil⟩, fun f hf => by simp at hf, HA1.out, Chg.refl _ _⟩
  case round =>
  obtain ⟨i, out, F, rfl, hin, hkx, hol, HO, HP, HF, HB, HG⟩ := hrel
  by_cases hlt : i < n
  · have hltz : (i : Int) < (n : Int) := by omega
    obtain ⟨f, hf⟩ : ∃ f, l[i]? = some f := ⟨_, List.getElem?_eq_getElem (by rw [← HN.out]; exact hlt)⟩
    have HFi := hyd hf
    have hl0 : l.length ≠ 0 := by rw [← HN.out]; omega
    obtain ⟨g, o, ha, hA⟩ := HS1.out.at6 hl0
    subst ha
    have hgB : ¬ g = B := HSb.out hl0 g rfl
    have hA2 := hA.chg HG.out hgB
    have HR := hyd (hA2.2 i f hf)
    have HA2 := hyd hA2
    clear hf hA hA2 hl0
    cases hsn : snd f with
    | false =>
      go_wp2_with (first | (refine wpList_load_at (f := f) rfl (.tmp 15) rfl g (o + i * 6) rfl ?_ ?_; exact HR.out) | (go_at_call 17; refine (rsound_any f _).mono ?_; rintro e w3 ⟨rfl, G3⟩; have HG3 := hyd (HG.out.trans' G3 (fun _ _ h => h.elim)); have HO3 := hyd (HO.out.new G3); have HB3 := hyd (HB.out.chg G3 (fun h => h)); clear G3))
      go_roundg (n - (i + 1))
      case measure => omega
      case rel => exact ⟨i + 1, out, F, by simp, by omega, Nat.le_refl _, by omega, HO3.out, HP.out, HF.out, HB3.out, HG3.out⟩
    | true =>
    have hP := (snd_iff f).1 hsn
    have hP0 := hP.1
    have hP1 := hP.2.1
    clear hP
    obtain ⟨q, hq⟩ : ∃ q : Nat, f.P.toNat = q := ⟨_, rfl⟩
    have hql : q < 96 := by omega
    cases hbq : F q with
    | true =>
      go_wp2_with (first | (refine wpList_load_at (f := f) rfl (.tmp 15) rfl g (o + i * 6) rfl ?_ ?_; exact HR.out) | (go_at_call 17; refine (rsound_any f _).mono ?_; rintro e w3 ⟨rfl, G3⟩; have A3 := HA2.out.chg G3 (fun h => h); obtain ⟨k0, k1, k2, k3, k4, k5⟩ := A3.all HFi.out; have HG3 := hyd (HG.out.trans' G3 (fun _ _ h => h.elim)); have HO3 := hyd (HO.out.new G3); have hB3 := HB.out.chg G3 (fun h => h); have HB3 := hyd hB3; have kB := (hB3.cell q hql).1; rw [hbq] at kB; clear G3 A3 hB3))
      go_roundg (n - (i + 1))
      case measure => omega
      case rel => exact ⟨i + 1, out, F, by simp, by omega, Nat.le_refl _, by omega, HO3.out, HP.out, HF.out, HB3.out, HG3.out⟩
    | false =>
    obtain ⟨a2, cap2, e2, -⟩ := id HO.out.sl
    subst e2
    have C26 : Aside _ := fun W h => twice_any W a2 cap2 out out.length rfl h (by omega) f
    cases htw : twc out f with
    | true =>
      rw [htw] at C26
      go_wp2_with (first | (refine wpList_load_at (f := f) rfl (.tmp 15) rfl g (o + i * 6) rfl ?_ ?_; exact HR.out) | (go_at_call 17; refine (rsound_any f _).mono ?_; rintro e w3 ⟨rfl, G3⟩; have A3 := HA2.out.chg G3 (fun h => h); have HA3 := hyd A3; obtain ⟨k0, k1, k2, k3, k4, k5⟩ := A3.all HFi.out; have HG3 := hyd (HG.out.trans' G3 (fun _ _ h => h.elim)); have HO3 := hyd (HO.out.new G3); have hB3 := HB.out.chg G3 (fun h => h); have HB3 := hyd hB3; have kB := (hB3.cell q hql).1; rw [hbq] at kB; clear G3 A3 hB3) | (go_at_call 26; refine (C26.out _ HO3.out.sl).mono ?_; rintro e w4 ⟨rfl, G4⟩; have HA4 := hyd (HA3.out.chg G4 (fun h => h)); have HR4 := hyd (HA4.out.2 i f HFi.out); obtain ⟨j0, -, -, -⟩ := HA4.out.fields HFi.out; have HG4 := hyd (HG3.out.trans' G4 (fun _ _ h => h.elim)); have HO4 := hyd (HO3.out.new G4); have hB4 := HB3.out.chg G4 (fun h => h); have HB4 := hyd hB4; obtain ⟨b1, b2⟩ := hB4.cell q hql; clear G4 hB4))
      go_roundg (n - (i + 1))
      case measure => omega
      case rel => exact ⟨i + 1, out, F, by simp, by omega, Nat.le_refl _, by omega, HO4.out, HP.out, HF.out, HB4.out, HG4.out⟩
    | false =>
    rw [htw] at C26
    have HP' : Hid (Pld (out ++ [f])) := hyd (HP.out.snoc hsn (fun x hx e => by have := HF.out x hx; rw [e, hq, hbq] at this; cases this) htw)
    go_upto_region 9 with (first | (refine wpList_load_at (f := f) rfl (.tmp 15) rfl g (o + i * 6) rfl ?_ ?_; exact HR.out) | (go_at_call 17; refine (rsound_any f _).mono ?_; rintro e w3 ⟨rfl, G3⟩; have A3 := HA2.out.chg G3 (fun h => h); have HA3 := hyd A3; obtain ⟨k0, k1, k2, k3, k4, k5⟩ := A3.all HFi.out; have HG3 := hyd (HG.out.trans' G3 (fun _ _ h => h.elim)); have HO3 := hyd (HO.out.new G3); have hB3 := HB.out.chg G3 (fun h => h); have HB3 := hyd hB3; have kB := (hB3.cell q hql).1; rw [hbq] at kB; clear G3 A3 hB3) | (go_at_call 26; refine (C26.out _ HO3.out.sl).mono ?_; rintro e w4 ⟨rfl, G4⟩; have HA4 := hyd (HA3.out.chg G4 (fun h => h)); have HR4 := hyd (HA4.out.2 i f HFi.out); obtain ⟨j0, -, -, -⟩ := HA4.out.fields HFi.out; have HG4 := hyd (HG3.out.trans' G4 (fun _ _ h => h.elim)); have HO4 := hyd (HO3.out.new G4); have hB4 := HB3.out.chg G4 (fun h => h); have HB4 := hyd hB4; obtain ⟨b1, b2⟩ := hB4.cell q hql; clear G4 hB4))
    have hBl := HB4.out.lt
    have HG5 : Hid (Chg (· = B) w1 (w4.setCell ⟨B, q, none⟩ (.bool true))) := hyd (HG4.out.setCell (Or.inl rfl) q _)
    have hc5 : Chg (· = B) w4 (w4.setCell ⟨B, q, none⟩ (.bool true)) := (Chg.refl (· = B) w4).setCell (g := B) (Or.inl rfl) q _
    have HO5 := hyd (HO4.out.chg hc5 (fun k hk h e => by have := HO4.out.block h; omega))
    have HB5 := hyd (HB4.out.set q true)
    have HR5 := hyd (rangeAt_chg HR4.out hc5 HA4.out.1 hgB)
    have hF5 : ∀ x ∈ out ++ [f], upd F q true x.P.toNat = true := fun x hx => by
      rcases List.mem_append.1 hx with h1 | h1
      · unfold upd; split
        · rfl
        · exact HF.out x h1
      · simp only [List.mem_singleton] at h1
        subst h1
        simp [upd, hq]
    have HF5 := hyd hF5
    clear hF5 hc5 j0 b1 b2 k0 k1 k2 k3 k4 k5 kB HR4 HB4 HO4 HG4 HA4 HA3 HO3 HG3 HB3
    generalize w4.setCell ⟨B, q, none⟩ (.bool true) = w5 at *
    go_wp2_with (first | (refine wpList_load_at (f := f) rfl (.tmp 46) rfl g (o + i * 6) rfl ?_ ?_; exact HR5.out) | (refine wpList_row_fo (f := f) rfl (.tmp 47) rfl rfl w5.heap.size rfl ?_))
    intro w6 K6 G6
    have HO6 := hyd (HO5.out.new G6)
    have HG6 := hyd (HG5.out.trans' G6 (fun _ _ h => h.elim))
    have HB6 := hyd (HB5.out.chg G6 (fun h => h))
    have HA6 := hyd (At6.one K6)
    have hb6 : B + 1 ≤ w6.heap.size := by have := HG6.out.size; have := HSz.out; omega
    clear K6 G6 HO5 HG5 HB5 HR5
    go_wp2_with (refine wpList_append_fo w6 rfl (.tmp 43) (.tmp 48) rfl (B + 1) (.slice a2 out.length cap2) out rfl HO6.out w5.heap.size 0 1 1 [f] rfl rfl HA6.out (by omega) hb6 ?_)
    intro v' w7 O7 G7
    have HO7 := hyd O7
    have hob : ∀ k, (Value.slice a2 out.length cap2).ownBlock = some k → B + 1 ≤ k ∧ k < w6.heap.size := fun k h => HO6.out.block h
    have HB7 := hyd (HB6.out.chg G7 (fun h => by have := hob B h; omega))
    have HG7 : Hid (Chg (· = B) w1 w7) := hyd (HG6.out.trans' G7 fun k hk h => by
      have := hob k h
      have := HSz.out
      omega)
    clear O7 G7 hob
    go_wp2
    go_roundg (n - (i + 1))
    case measure => omega
    case rel => exact ⟨i + 1, out ++ [f], upd F q true, by simp, by omega, Nat.le_refl _, by simp; omega, HO7.out, HP'.out, HF5.out, HB7.out, HG7.out⟩
  · have hltz : ¬ (i : Int) < (n : Int) := by omega
    go_wp2
    go_ret
    exact ⟨_, out, rfl, HO.out.sl, HP.out, by omega, HG1.out.trans' HG.out fun k hk h => by have := HBB.out; omega⟩
end Go.Proofs.Ytjkpidhpjleebaa
