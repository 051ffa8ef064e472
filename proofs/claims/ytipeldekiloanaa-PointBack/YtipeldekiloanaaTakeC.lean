/-
  point's reader takes a whole checkpoint, walked. Condition: 174 bytes can be read.
-/
import Derived.Test.YtipeldekiloanaaTake
namespace Go.Proofs.Ytipeldekiloanaa
open Go.RowKit
set_option maxRecDepth 100000

/-- The first k of the numbers of z bytes each that lie from a on. -/
def part (l : List Nat) (a z k i : Nat) : Int := if i < k then (fld l (a + z * i) z : Nat) else 0
theorem part_upd (l : List Nat) (a z k : Nat) : upd (part l a z k) k ((fld l (a + z * k) z : Nat) : Int) = part l a z (k + 1) := by
  funext j
  unfold upd part
  by_cases h : j = k
  · subst h; simp
  · by_cases h2 : j < k
    · rw [if_neg h, if_pos h2, if_pos (by omega)]
    · rw [if_neg h, if_neg h2, if_neg (by omega)]
/-- The checkpoint of 174 bytes, behind so many of its numbers. -/
def rdK (l : List Nat) (f n : Nat) (bs : Bool) (c r s : Nat) : Ckp :=
  ⟨part l 0 5 f, if n = 0 then 0 else (fld l 120 5 : Nat), fun i => bs && (fld l 125 2).testBit i, if c = 0 then 0 else (fld l 127 1 : Nat), part l 128 2 r, part l 152 1 s⟩
/-- The checkpoint of 174 bytes. -/
def rdC (l : List Nat) : Ckp := ⟨fun i => (fld l (5 * i) 5 : Nat), (fld l 120 5 : Nat), fun i => (fld l 125 2).testBit i, (fld l 127 1 : Nat), fun i => (fld l (128 + 2 * i) 2 : Nat), fun i => (fld l (152 + i) 1 : Nat)⟩
theorem rdK_0 (l : List Nat) : ckA (rdK l 0 0 false 0 0 0) = ckA ck0 := by
  apply ckA_congr <;> intros <;> simp [rdK, ck0, part]
theorem rdK_all (l : List Nat) : ckA (rdK l 24 1 true 1 12 12) = ckA (rdC l) := by
  apply ckA_congr <;> intros <;> simp_all [rdK, rdC, part]
theorem Ck.eq {w : World} {b : Nat} {c d : Ckp} (h : Ck w b c) (e : ckA c = ckA d) : Ck w b d := by
  unfold Ck at *
  rwa [← e]
theorem fld5 {l : List Nat} (h : Bys l) {a : Nat} (hn : a + 5 ≤ l.length) : fld l a 5 < 1099511627776 := fld_lt h hn
theorem fld2 {l : List Nat} (h : Bys l) {a : Nat} (hn : a + 2 ≤ l.length) : fld l a 2 < 65536 := fld_lt h hn
theorem fld1 {l : List Nat} (h : Bys l) {a : Nat} (hn : a + 1 ≤ l.length) : fld l a 1 < 256 := fld_lt h hn

theorem Chg.setCells' {S : Nat → Prop} {u : World} {g : Nat} (hg : S g) : ∀ (vs : List Value) (o : Nat) {w : World} (_ : Chg S u w), Chg S u (w.setCells g o vs)
  | [], _, _, h => h
  | v :: r, o, w, h => by rw [World.setCells]; exact Chg.setCells' hg r (o + 1) (h.setCell (Or.inl hg) o v)
theorem chg_setCells (w : World) (g o : Nat) (vs : List Value) : Chg (· = g) w (w.setCells g o vs) := Chg.setCells' (S := (· = g)) rfl vs o (Chg.refl _ _)
theorem wpList_store_bs {ops : Array Oper} {rest : List Oper} {o : Oper} {a : Act} {w : World} {Q : Exit → Act → World → Prop} (hgd : o.guard = none) (x y : Operand) (ho : o.op = .store 23 x y)
    (g : Nat) (hx : a.eval x = .pointer (some ⟨g, 25, none⟩)) {f : Nat → Bool} (hy : a.eval y = .agg (bools f 12).toArray) {c : Ckp} (hg : Ck w g c)
    (h : ∀ w', Ck w' g { c with B := f } → Chg (· = g) w w' → wpList Try.prog ops Q rest (a.put o.dst undef) w') : wpList Try.prog ops Q (o :: rest) a w :=
  wpList_store_mid hgd 23 x y ho g 25 _ hx hy (by rw [bools_size]; exact hg.there 25 12 (by decide)) (by rw [bools_size]; exact size23) (all_oneCell_toArray (bools_one f 12)) (h _ (hg.setB12 f) (chg_setCells _ _ _ _))
set_option maxHeartbeats 4000000 in
theorem takeC_any (w : World) (b c o cap : Nat) (l : List Nat) (hR : Rdp w b c o cap 0) (hL : l.length = 174) (hl : Bys l) (hc : 174 ≤ cap) (hA : At w c o l) (hbc : b ≠ c) :
    Calls Try.prog 17 #[.pointer (some ⟨b, 0, none⟩)] w fun e w' => e = .returned (.agg (ckA (rdC l))) ∧ Rdp w' b c o cap 164 ∧ Chg (· = b) w w' := by
  have hb := hR.lt
  have hcs := hA.1
  have hcb : ¬ c = b := fun e => hbc e.symm
  have h1b : ¬ w.heap.size + 1 = b := by omega
  have h0b : ¬ w.heap.size = b := by omega
  have C0 : Chg (· = b) w ((w.alloc (.cells (ckA ck0) 26)).alloc (.cells (ckA ck0) 26)) := ((Chg.refl _ w).alloc _).alloc _
  have HG := hyd C0
  have HR : Hid (Rdp ((w.alloc (.cells (ckA ck0) 26)).alloc (.cells (ckA ck0) 26)) b c o cap 0) := hyd (hR.chg (S := fun _ => False) (((Chg.refl _ w).alloc _).alloc _) (fun e => e))
  have HK0 : Hid (Ck ((w.alloc (.cells (ckA ck0) 26)).alloc (.cells (ckA ck0) 26)) w.heap.size ck0) := hyd ((Ck.new w ck0).alloc _)
  have HK1 : Hid (Ck ((w.alloc (.cells (ckA ck0) 26)).alloc (.cells (ckA ck0) 26)) (w.heap.size + 1) (rdK l 0 0 false 0 0 0)) := by
    have := (Ck.new (w.alloc (.cells (ckA ck0) 26)) ck0).eq (rdK_0 l).symm
    exact hyd (by simpa using this)
  have HA := hyd hA
  have HL := hyd hL
  clear hR C0 hA hL
  go_enter Try.func17, Try.ntmps17
  go_wp2_with (refine wpList_alloc_ck rfl rfl ?_)
  go_loopw [7] (fun t wr => ∃ k : Nat, k ≤ 24 ∧ t = .int .i64 k ∧ Rdp wr b c o cap (5 * k) ∧ Ck wr (w.heap.size + 1) (rdK l k 0 false 0 0 0) ∧ Ck wr w.heap.size ck0 ∧ Chg (· = b) w wr) (fun t _ => 24 - (intOf t).toNat)
  case atStart => exact ⟨0, by decide, rfl, HR.out, HK1.out, HK0.out, HG.out⟩
  case round =>
    clear HR HK0 HK1 HG
    obtain ⟨k, hk, rfl, a1, a2, a3, a4⟩ := hrel
    by_cases hlt : k < 24
    · have hlt' : (k : Int) < 24 := by omega
      have hkb : (0 : Int) ≤ (k : Int) := by omega
      have hcall := take_p wr b c o cap (5 * k) 5 l a1 HL.out hl hc (HA.out.chg a4 hcb) (by decide) (by decide) (by omega)
      have x1 := fld5 hl (a := 5 * k) (by rw [HL.out]; omega)
      have HK1 := hyd a2
      have HK0 := hyd a3
      have HG := hyd a4
      clear a1 a2 a3 a4
      go_wp2_with fail
      refine hcall.mono ?_
      rintro e w2 ⟨rfl, R2, G2⟩
      have K2 := HK1.out.chg G2 h1b
      have HK0' := hyd (HK0.out.chg G2 h0b)
      have HG2 := hyd (HG.out.trans G2)
      have k1 := K2.F k hlt
      have f1 := K2.frozen k
      have HR2 := hyd R2
      have HK2 := hyd K2
      have HU := hyd (part_upd l 0 5 k)
      rw [Nat.zero_add] at HU
      clear hcall R2 G2 HK1 HG K2 HK0
      generalize fld l (5 * k) 5 = x at *
      go_wp2
      refine ⟨⟨k + 1, by omega, by go_num, HR2.out.setOther h1b _ _, ?_, HK0'.out.setOther (by omega) _ _, HG2.out.setCell (Or.inr (by omega)) _ _⟩, by simp [intOf]; omega⟩
      have e : rdK l (k + 1) 0 false 0 0 0 = { rdK l k 0 false 0 0 0 with F := upd (part l 0 5 k) k (x : Int) } := by rw [HU.out]; rfl
      rw [e]
      exact HK2.out.setF k hlt _
    · have e : k = 24 := by omega
      subst e
      have hcall := take_p wr b c o cap 120 5 l a1 HL.out hl hc (HA.out.chg a4 hcb) (by decide) (by decide) (by omega)
      have x1 := fld5 hl (a := 120) (by rw [HL.out]; omega)
      have HK1 := hyd a2
      have HK0 := hyd a3
      have HG := hyd a4
      clear a1 a2 a3 a4
      go_wp2_with fail
      refine hcall.mono ?_
      rintro e w2 ⟨rfl, R2, G2⟩
      have K2 := HK1.out.chg G2 h1b
      have HK0' := hyd (HK0.out.chg G2 h0b)
      have k1 := K2.N
      have f1 := K2.frozen 24
      have HR3 : Hid (Rdp (w2.setCell ⟨w.heap.size + 1, 24, none⟩ (.int .i64 (fld l 120 5 : Nat))) b c o cap 125) := hyd (R2.setOther h1b _ _)
      have HK3 : Hid (Ck (w2.setCell ⟨w.heap.size + 1, 24, none⟩ (.int .i64 (fld l 120 5 : Nat))) (w.heap.size + 1) (rdK l 24 1 false 0 0 0)) := hyd (K2.setN _)
      have HK4 : Hid (Ck (w2.setCell ⟨w.heap.size + 1, 24, none⟩ (.int .i64 (fld l 120 5 : Nat))) w.heap.size ck0) := hyd (HK0'.out.setOther (by omega) _ _)
      have HG3 : Hid (Chg (· = b) w (w2.setCell ⟨w.heap.size + 1, 24, none⟩ (.int .i64 (fld l 120 5 : Nat)))) := hyd ((HG.out.trans G2).setCell (Or.inr (by omega)) _ _)
      have hcall := take_p (w2.setCell ⟨w.heap.size + 1, 24, none⟩ (.int .i64 (fld l 120 5 : Nat))) b c o cap 125 2 l HR3.out HL.out hl hc (HA.out.chg HG3.out hcb) (by decide) (by decide) (by omega)
      clear R2 G2 HK1 HG K2 HK0 HR3 HK0'
      go_wp2_with fail
      generalize w2.setCell ⟨w.heap.size + 1, 24, none⟩ (.int .i64 (fld l 120 5 : Nat)) = w3 at *
      refine hcall.mono ?_
      rintro e w4 ⟨rfl, R4, G4⟩
      have x2 := fld2 hl (a := 125) (by rw [HL.out]; omega)
      have hcall := blocks_any w4 (fld l 125 2) x2
      have HR4 := hyd R4
      have HK4' := hyd (HK4.out.chg G4 h0b)
      have HK3' := hyd (HK3.out.chg G4 h1b)
      have HG4 := hyd (HG3.out.trans G4)
      clear R4 G4 HK4 HK3 HG3
      go_wp2_with fail
      refine hcall.mono ?_
      rintro e w5 ⟨rfl, G5⟩
      have K5 := HK3'.out.chg G5 (fun e => e)
      have HR5 := hyd (HR4.out.chg G5 (fun e => e))
      have HK4 := hyd (HK4'.out.chg G5 (fun e => e))
      have HG5 := hyd (HG4.out.trans (G5.mono (fun _ _ f => f.elim)))
      have HK5 := hyd K5
      clear hcall HR4 HK4' HK3' HG4 K5 G5
      go_wp2_with (refine wpList_store_bs rfl (.tmp 24) (.tmp 23) rfl (w.heap.size + 1) rfl (f := fun i => (fld l 125 2).testBit i) rfl HK5.out ?_)
      intro w6 K6 G6
      have HR6 := hyd (HR5.out.chg G6 (by omega))
      have HK6 : Hid (Ck w6 (w.heap.size + 1) (rdK l 24 1 true 0 0 0)) := hyd (K6.eq (by apply ckA_congr <;> intros <;> simp [rdK]))
      have HK7 := hyd (HK4.out.chg G6 (by omega))
      have HG6 : Hid (Chg (· = b) w w6) := hyd (HG5.out.trans' G6 (fun i hi hh => by omega))
      have hcall := take_p w6 b c o cap 127 1 l HR6.out HL.out hl hc (HA.out.chg HG6.out hcb) (by decide) (by decide) (by omega)
      have x3 := fld1 hl (a := 127) (by rw [HL.out]; omega)
      clear K6 G6 HR5 HK4 HG5 HK5 HR6
      go_wp2_with fail
      refine hcall.mono ?_
      rintro e w7 ⟨rfl, R7, G7⟩
      have K7 := HK6.out.chg G7 h1b
      have k1 := K7.C
      have f1 := K7.frozen 37
      have HR : Hid (Rdp (w7.setCell ⟨w.heap.size + 1, 37, none⟩ (.int .i64 (fld l 127 1 : Nat))) b c o cap 128) := hyd (R7.setOther h1b _ _)
      have HK1 : Hid (Ck (w7.setCell ⟨w.heap.size + 1, 37, none⟩ (.int .i64 (fld l 127 1 : Nat))) (w.heap.size + 1) (rdK l 24 1 true 1 0 0)) := hyd (K7.setC _)
      have HK0 : Hid (Ck (w7.setCell ⟨w.heap.size + 1, 37, none⟩ (.int .i64 (fld l 127 1 : Nat))) w.heap.size ck0) := hyd ((HK7.out.chg G7 h0b).setOther (by omega) _ _)
      have HG : Hid (Chg (· = b) w (w7.setCell ⟨w.heap.size + 1, 37, none⟩ (.int .i64 (fld l 127 1 : Nat)))) := hyd ((HG6.out.trans G7).setCell (Or.inr (by omega)) _ _)
      clear hcall R7 G7 K7 HK6 HK7 HG6
      go_wp2_with fail
      go_loopw [29] (fun t wr => ∃ k : Nat, k ≤ 12 ∧ t = .int .i64 k ∧ Rdp wr b c o cap (128 + 2 * k) ∧ Ck wr (w.heap.size + 1) (rdK l 24 1 true 1 k 0) ∧ Ck wr w.heap.size ck0 ∧ Chg (· = b) w wr) (fun t _ => 12 - (intOf t).toNat)
      case atStart => exact ⟨0, by decide, rfl, HR.out, HK1.out, HK0.out, HG.out⟩
      case round =>
        clear HR HK0 HK1 HG
        obtain ⟨k, hk, rfl, a1, a2, a3, a4⟩ := hrel
        by_cases hlt : k < 12
        · have hlt' : (k : Int) < 12 := by omega
          have hkb : (0 : Int) ≤ (k : Int) := by omega
          have hcall := take_p _ b c o cap (128 + 2 * k) 2 l a1 HL.out hl hc (HA.out.chg a4 hcb) (by decide) (by decide) (by omega)
          have x1 := fld2 hl (a := 128 + 2 * k) (by rw [HL.out]; omega)
          have HK1 := hyd a2
          have HK0 := hyd a3
          have HG := hyd a4
          clear a1 a2 a3 a4
          go_wp2_with fail
          refine hcall.mono ?_
          rintro e w2 ⟨rfl, R2, G2⟩
          have K2 := HK1.out.chg G2 h1b
          have HK0' := hyd (HK0.out.chg G2 h0b)
          have HG2 := hyd (HG.out.trans G2)
          have k1 := K2.R k hlt
          have f1 := K2.frozen (38 + k)
          have HR2 := hyd R2
          have HK2 := hyd K2
          have HU := hyd (part_upd l 128 2 k)
          clear hcall R2 G2 HK1 HG K2 HK0
          generalize fld l (128 + 2 * k) 2 = x at *
          go_wp2
          refine ⟨⟨k + 1, by omega, by go_num, HR2.out.setOther h1b _ _, ?_, HK0'.out.setOther (by omega) _ _, HG2.out.setCell (Or.inr (by omega)) _ _⟩, by simp [intOf]; omega⟩
          have e : rdK l 24 1 true 1 (k + 1) 0 = { rdK l 24 1 true 1 k 0 with R := upd (part l 128 2 k) k (x : Int) } := by rw [HU.out]; rfl
          rw [e]
          exact HK2.out.setR k hlt _
        · have e : k = 12 := by omega
          subst e
          have HR := hyd a1
          have HK1 := hyd a2
          have HK0 := hyd a3
          have HG := hyd a4
          clear a1 a2 a3 a4
          go_wp2_with fail
          go_loopw [39] (fun t wr => ∃ k : Nat, k ≤ 12 ∧ t = .int .i64 k ∧ Rdp wr b c o cap (152 + 1 * k) ∧ Ck wr (w.heap.size + 1) (rdK l 24 1 true 1 12 k) ∧ Ck wr w.heap.size ck0 ∧ Chg (· = b) w wr) (fun t _ => 12 - (intOf t).toNat)
          case atStart => exact ⟨0, by decide, rfl, HR.out, HK1.out, HK0.out, HG.out⟩
          case round =>
            clear HR HK0 HK1 HG
            obtain ⟨k, hk, rfl, a1, a2, a3, a4⟩ := hrel
            by_cases hlt : k < 12
            · have hlt' : (k : Int) < 12 := by omega
              have hkb : (0 : Int) ≤ (k : Int) := by omega
              have hcall := take_p _ b c o cap (152 + 1 * k) 1 l a1 HL.out hl hc (HA.out.chg a4 hcb) (by decide) (by decide) (by omega)
              have x1 := fld1 hl (a := 152 + 1 * k) (by rw [HL.out]; omega)
              have HK1 := hyd a2
              have HK0 := hyd a3
              have HG := hyd a4
              clear a1 a2 a3 a4
              go_wp2_with fail
              refine hcall.mono ?_
              rintro e w2 ⟨rfl, R2, G2⟩
              have K2 := HK1.out.chg G2 h1b
              have HK0' := hyd (HK0.out.chg G2 h0b)
              have HG2 := hyd (HG.out.trans G2)
              have k1 := K2.S k hlt
              have f1 := K2.frozen (50 + k)
              have HR2 := hyd R2
              have HK2 := hyd K2
              have HU := hyd (part_upd l 152 1 k)
              clear hcall R2 G2 HK1 HG K2 HK0
              generalize fld l (152 + 1 * k) 1 = x at *
              go_wp2
              refine ⟨⟨_, _, _, _, _, _, _, _, _, _, _, ?hi, rfl⟩, by simp [intOf]; omega⟩
              refine ⟨k + 1, by omega, by go_num, HR2.out.setOther h1b _ _, ?_, HK0'.out.setOther (by omega) _ _, HG2.out.setCell (Or.inr (by omega)) _ _⟩
              have e : rdK l 24 1 true 1 12 (k + 1) = { rdK l 24 1 true 1 12 k with S := upd (part l 152 1 k) k (x : Int) } := by rw [HU.out]; rfl
              rw [e]
              exact HK2.out.setS k hlt _
            · have e : k = 12 := by omega
              subst e
              have HR := hyd a1
              have HK1 := hyd (a2.eq (rdK_all l))
              have HK0 := hyd a3
              have HG := hyd a4
              clear a1 a2 a3 a4
              go_wp2_with (first | refine wpList_load_ck rfl (.tmp 3) rfl (w.heap.size + 1) rfl HK1.out ?_ | refine wpList_store_ck rfl (.tmp 2) (.tmp 49) rfl w.heap.size rfl rfl HK0.out ?_)
              intro w3 T3 G3
              have HT3 := hyd T3
              have HG3 : Hid (Chg (· = b) w w3) := hyd (HG.out.trans' G3 (fun i hi ht => by omega))
              have HR3 := hyd (HR.out.chg G3 (by omega))
              clear T3 G3
              go_wp2
              refine bodyPost_ret (results_ck1 rfl _ rfl HT3.out) rfl ?_
              exact ⟨rfl, HR3.out, HG3.out⟩
end Go.Proofs.Ytipeldekiloanaa
