/-
  The law PointReads, walked. Condition: the bytes came in (at most 2^47 - 4096 of them).
-/
import Derived.Test.YtipeldekiloanaaGrd
namespace Go.Proofs.Ytipeldekiloanaa
open Go.RowKit
set_option maxRecDepth 100000

theorem Rd.heldIn {w : World} {b : Nat} {a : Option Addr} {l : List Nat} (h : Rd w b a l) (cap : Nat) : Held w (.slice a l.length cap) l := by
  refine ⟨a, cap, rfl, ?_⟩
  rcases h.2 with h | ⟨c, o, ha, hc, hs, hcell⟩
  · exact Or.inl (by rw [h]; rfl)
  · exact Or.inr ⟨c, o, ha, hs, hcell⟩
theorem row_in {w : World} {a : Option Addr} {len cap : Nat} {zs : List Int} (h : IsRow .u8 w a len cap zs) : ∃ l : List Nat, l.length = len ∧ Bys l ∧ len ≤ cap ∧ (a = none → len = 0 ∧ cap = 0) ∧ Held w (.slice a len cap) l := by
  obtain ⟨l, hl, hc, hn, hr⟩ := rd_of_row h
  have := hr w.heap.size (Nat.le_refl _)
  exact ⟨l, hl, this.1, hc, hn, by rw [← hl]; exact this.heldIn cap⟩
theorem Held.chgF {w w' : World} {v : Value} {l : List Nat} (h : Held w v l) (hc : Chg (fun _ => False) w w') : Held w' v l := h.chg hc (fun _ _ _ e => e)
/-- What Read answers, at any bytes. -/
def RAns (l : List Nat) (v : Ckp) (e : Value) : Prop := (¬ (l.length = 174 ∧ Doc l) ∧ v = ck0 ∧ e = .iface 44 (.int .i64 3)) ∨ (l.length = 174 ∧ Doc l ∧ v = rdC l ∧ e = .nilIface)
theorem read_any (w : World) (a : Option Addr) (n cap : Nat) (l : List Nat) (hl : Bys l) (hn : n = l.length) (hcap : n ≤ cap) (hH : Held w (.slice a n cap) l) :
    Calls Try.prog 11 #[.slice a n cap] w fun e w' => ∃ v x, e = .returned (.tuple #[.agg (ckA v), x]) ∧ RAns l v x ∧ Chg (fun _ => False) w w' := by
  by_cases h5 : l.length = 174
  · obtain rfl : n = 174 := by omega
    obtain ⟨c, o, rfl, hc, hcc⟩ := hH.at_ (by omega)
    by_cases hI : Doc l
    · refine (read_yes w c o cap l hl h5 hcap ⟨hc, hcc⟩ ((isP_iff l hl h5).2 hI)).mono ?_
      rintro e w' ⟨rfl, G⟩
      exact ⟨_, _, rfl, Or.inr ⟨h5, hI, rfl, rfl⟩, G⟩
    · refine (read_no w c o cap l hl h5 hcap ⟨hc, hcc⟩ (fun h => hI ((isP_iff l hl h5).1 h))).mono ?_
      rintro e w' ⟨rfl, G⟩
      exact ⟨_, _, rfl, Or.inl ⟨fun h => hI h.2, rfl, rfl⟩, G⟩
  · refine (read_len w a n cap (by omega)).mono ?_
    rintro e w' ⟨rfl, G⟩
    exact ⟨_, _, rfl, Or.inl ⟨fun h => h5 h.1, rfl, rfl⟩, G⟩
/-- What the document's Read answers. -/
def DAns (l : List Nat) (v : Ckp) (e : Int) : Prop := (¬ (l.length = 174 ∧ Doc l) ∧ v = ck0 ∧ e = 3) ∨ (l.length = 174 ∧ Doc l ∧ v = rdC l ∧ e = 0)
theorem rread_any (w : World) (a : Option Addr) (n cap : Nat) (l : List Nat) (hl : Bys l) (hn : n = l.length) (hcap : n ≤ cap) (hH : Held w (.slice a n cap) l) :
    Calls Try.prog 12 #[.slice a n cap] w fun e w' => ∃ v x, e = .returned (.tuple #[.agg (ckA v), .int .i64 x]) ∧ DAns l v x ∧ Chg (fun _ => False) w w' := by
  by_cases h5 : l.length = 174
  · obtain rfl : n = 174 := by omega
    obtain ⟨c, o, rfl, hc, hcc⟩ := hH.at_ (by omega)
    by_cases hI : Doc l
    · refine (rread_yes w c o cap l hl h5 hcap ⟨hc, hcc⟩ hI).mono ?_
      rintro e w' ⟨rfl, G⟩
      exact ⟨_, _, rfl, Or.inr ⟨h5, hI, rfl, rfl⟩, G⟩
    · refine (rread_no w c o cap l hl h5 ⟨hc, hcc⟩ hI).mono ?_
      rintro e w' ⟨rfl, G⟩
      exact ⟨_, _, rfl, Or.inl ⟨fun h => hI h.2, rfl, rfl⟩, G⟩
  · refine (rread_len w a n cap (by omega)).mono ?_
    rintro e w' ⟨rfl, G⟩
    exact ⟨_, _, rfl, Or.inl ⟨fun h => h5 h.1, rfl, rfl⟩, G⟩
theorem code_r (w : World) (l : List Nat) (v v' : Ckp) (x : Value) (y : Int) (h1 : RAns l v x) (h2 : DAns l v' y) : Calls Try.prog 10 #[x] w fun e w' => e = .returned (.int .i64 y) ∧ w' = w := by
  rcases h1 with ⟨a1, -, rfl⟩ | ⟨a1, a2, -, rfl⟩
  · rcases h2 with ⟨_, -, rfl⟩ | ⟨b1, b2, -, rfl⟩
    · exact code_3 w
    · exact absurd ⟨b1, b2⟩ a1
  · rcases h2 with ⟨b1, -, rfl⟩ | ⟨_, _, -, rfl⟩
    · exact absurd ⟨a1, a2⟩ b1
    · exact code_0 w
theorem ans_eq {l : List Nat} {v v' : Ckp} {x : Value} {y : Int} (h1 : RAns l v x) (h2 : DAns l v' y) : v = v' := by
  rcases h1 with ⟨a1, rfl, -⟩ | ⟨a1, a2, rfl, -⟩
  · rcases h2 with ⟨_, rfl, -⟩ | ⟨b1, b2, -, -⟩
    · rfl
    · exact absurd ⟨b1, b2⟩ a1
  · rcases h2 with ⟨b1, -, -⟩ | ⟨_, _, rfl, -⟩
    · exact absurd ⟨a1, a2⟩ b1
    · rfl

theorem Held.src {w : World} {a : Option Addr} {n cap : Nat} {l : List Nat} (h : Held w (.slice a n cap) l) (hn : n = l.length) : ∀ ad, a = some ad → ∀ j, j < n → w.cell? (ad.add j) = some (.int .u8 (l.getD j 0 : Nat)) := by
  intro ad had j hj
  obtain ⟨g, o, e, hg, hc⟩ := h.at_ (by omega)
  rw [had] at e
  have e := Option.some.inj e
  subst e
  rw [Addr.add_mid]
  exact hc j (by omega)
theorem Own.form {w : World} {base : Nat} {e : TypeId} {v : Value} {l : List Nat} (h : Own w base e v l) : ∃ a cap, v = .slice a l.length cap ∧ l.length ≤ cap := by
  rcases h.2 with ⟨h1, h2⟩ | ⟨g, cap, cur, hv, hg, hh, hn, _⟩
  · exact ⟨none, 0, by rw [h1, h2], by omega⟩
  · exact ⟨_, cap, hv, hn⟩
set_option maxHeartbeats 8000000 in
theorem reads_main (a : Option Addr) (cap : Nat) (l : List Nat) (w : World) (hl : Bys l) (hcap : l.length ≤ cap) (hn : a = none → l.length = 0 ∧ cap = 0) (hr : l.length ≤ 140737488351232) (hH : Held w (.slice a l.length cap) l) :
    Calls Try.prog 4 #[.slice a l.length cap] w fun e w' => e = .returned (.bool true) ∧ Chg (fun _ => False) w w' := by
  have HH := hyd hH
  have HN := hyd hn
  obtain ⟨n, hnl⟩ : ∃ n, n = l.length := ⟨_, rfl⟩
  have HNL := hyd hnl
  have hrn : n ≤ 140737488351232 := by omega
  have hcn : n ≤ cap := by omega
  rw [← hnl]
  rw [← hnl] at HH HN
  clear hnl hr hcap hH hn
  go_enter Try.func4, Try.ntmps4
  go_wp2_with fail
  refine (up_any _).mono ?_
  rintro e w1 ⟨rfl, G1⟩
  have HH1 := hyd (HH.out.chgF G1)
  have HG1 := hyd G1
  have HC1 := hyd (HH1.out.src HNL.out)
  clear G1 HH
  go_wp2_with (at_builtin; refine wpList_append_bytes w1 rfl (.tmp 11) (.tmp 12) 28 rfl w1.heap.size 5 Try.underlying28 info5 (.slice none 0 0) [] rfl (Own.nil _ _ _) a n cap l rfl HNL.out.symm HN.out HC1.out (by simp; omega) (Nat.le_refl _) w1.heap.size rfl ?_)
  intro v' w2 O2 C2 B2
  have hC2 : Chg (fun _ => False) w1 w2 := (Chg.refl _ w1).grown C2 (fun k hk => by simp [Value.ownBlock] at hk)
  have O2' : Own w2 w1.heap.size 5 v' l := O2
  obtain ⟨a', cap', rfl, hc'⟩ := O2'.form
  have HO2 : Hid (Held w2 (.slice a' n cap') l) := hyd (by rw [HNL.out]; exact O2'.held)
  rw [← HNL.out] at hc' ⊢
  have HH2 := hyd (HH1.out.chgF hC2)
  have HG2 := hyd (HG1.out.trans hC2)
  clear O2 O2' C2 B2 hC2 HH1 HG1 HC1
  have hcall := read_any w2 a' n cap' l hl HNL.out hc' HO2.out
  go_wp2_with fail
  refine hcall.mono ?_
  rintro e w3 ⟨v, x, rfl, R3, G3⟩
  have HR := hyd R3
  have HO3 := hyd (HO2.out.chgF G3)
  have HH3 := hyd (HH2.out.chgF G3)
  have HG3 := hyd (HG2.out.trans G3)
  have HN3 := hyd (Ck.new w3 ck0)
  clear hcall R3 G3 HO2 HH2 HG2
  go_wp2_with (first | refine wpList_alloc_ck rfl rfl ?_ | refine wpList_store_ck rfl (.tmp 5) (.tmp 17) rfl w3.heap.size rfl rfl HN3.out ?_)
  intro w4 K4 G4
  have hs4 := G4.size
  simp only [World.size_alloc] at hs4
  have G34 : Chg (fun _ => False) w3 w4 := ((Chg.refl _ w3).alloc _).trans' G4 (fun i hi hh => by omega)
  have HO4 := hyd (HO3.out.chgF G34)
  have HH4 := hyd (HH3.out.chgF G34)
  have HG4 := hyd (HG3.out.trans G34)
  have HK4 := hyd K4
  clear K4 G4 G34 HO3 HH3 HG3 HN3
  have hcall := rread_any w4 a n cap l hl HNL.out hcn HH4.out
  go_wp2_with fail
  refine hcall.mono ?_
  rintro e w5 ⟨v2, y, rfl, D5, G5⟩
  obtain rfl := ans_eq HR.out D5
  have HD := hyd D5
  have hs5 := G5.size
  have HO5 := hyd (HO4.out.chgF G5)
  have HH5 := hyd (HH4.out.chgF G5)
  have HG5 := hyd (HG4.out.trans G5)
  have HK5 := hyd (HK4.out.chg G5 (fun e => e))
  have HN5 := hyd (Ck.new w5 ck0)
  clear hcall D5 G5 HO4 HH4 HG4 HK4
  go_wp2_with (first | refine wpList_alloc_ck rfl rfl ?_ | refine wpList_store_ck rfl (.tmp 7) (.tmp 22) rfl w5.heap.size rfl rfl HN5.out ?_)
  intro w6 K6 G6
  have hs6 := G6.size
  simp only [World.size_alloc] at hs6
  have G56 : Chg (fun _ => False) w5 w6 := ((Chg.refl _ w5).alloc _).trans' G6 (fun i hi hh => by omega)
  have HG6 := hyd (HG5.out.trans G56)
  have HK6 := hyd (HK5.out.chg G56 (fun e => e))
  have HK7 := hyd K6
  have s1 := same_any w6 a' a n cap' n cap l l HNL.out HNL.out hl hl (HO5.out.chgF G56) (HH5.out.chgF G56)
  rw [decide_eq_true rfl] at s1
  clear K6 G6 G56 HO5 HH5 HG5 HK5 HN5
  go_wp2_with fail
  refine s1.mono ?_
  rintro e w7 ⟨rfl, rfl⟩
  clear s1
  have q1 := eql_ck
  have q2 := guard_ck
  have hcode := code_r w7 l v v x y HR.out HD.out
  go_wp2_with (first | refine wpList_load_ckg rfl (.tmp 5) rfl w3.heap.size rfl HK6.out ?_ | refine wpList_load_ckg rfl (.tmp 7) rfl w5.heap.size rfl HK7.out ?_)
  refine hcode.mono ?_
  rintro e w8 ⟨rfl, rfl⟩
  go_wp2
  go_ret
  exact ⟨by simp, HG6.out⟩
theorem reads_walk (a0 : Option Addr) (len0 cap0 : Nat) (z0 : List Int) (w : World) (w0 : IsRow .u8 w a0 len0 cap0 z0) (hr : cap0 * 1 ≤ 140737488351232) :
    Calls Try.prog 4 #[.slice a0 len0 cap0] w fun e w' => e = .returned (.bool true) ∧ Below w.heap.size w w' := by
  obtain ⟨l, rfl, hl, hc, hn, hH⟩ := row_in w0
  refine (reads_main a0 cap0 l w hl hc hn (by omega) hH).mono ?_
  rintro e w' ⟨rfl, G⟩
  exact ⟨rfl, G.below (fun k e => e.elim) (Nat.le_refl _)⟩
end Go.Proofs.Ytipeldekiloanaa
