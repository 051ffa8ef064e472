/-
  ScriptFills, walked: the bytes that a script writes are made of its number as the document says, and are the caller's own. Condition: the variables hold what they were given.
-/
import Derived.Test.YtepbfdbooobnlaaGreatDoorSH
import Derived.Test.YtepbfdbooobnlaaGreatDoorApartWalk
namespace Go.Proofs.YtepbfdbooobnlaaGreatDoor
set_option maxRecDepth 100000
open Go.RowKit
theorem apart2 (w : World) (base u v n1 n2 : Nat) (l1 l2 : List Nat) (hn1 : n1 = l1.length) (hn2 : n2 = l2.length) (hu : Bat w u l1) (hv : Bat w v l2) (huv : u ≠ v) (hbu : base ≤ u) (hbv : base ≤ v) (h1 : l1.length ≤ 1000) (h2 : l2.length ≤ 1000) :
    Calls Tryz.prog 12 #[.slice (some ⟨w.heap.size, 0, none⟩) 2 2] (w.alloc (.cells #[.slice (some ⟨u, 0, none⟩) n1 n1, .slice (some ⟨v, 0, none⟩) n2 n2] 23)) fun e w' =>
      e = .returned (.bool true) ∧ Chg (fun k => k = u ∨ k = v) (w.alloc (.cells #[.slice (some ⟨u, 0, none⟩) n1 n1, .slice (some ⟨v, 0, none⟩) n2 n2] 23)) w' := by
  subst hn1 hn2
  have hus := hu.lt
  have hvs := hv.lt
  have hm : (1000 : Nat) ≤ maxLen := by decide
  have O1 : Own w base 5 (.slice (some ⟨u, 0, none⟩) l1.length l1.length) l1 := Own.of_bat hu hbu (by omega)
  have O2 : Own w base 5 (.slice (some ⟨v, 0, none⟩) l2.length l2.length) l2 := Own.of_bat hv hbv (by omega)
  have e : ∀ i, i < 2 → (Value.slice (if i = 0 then some ⟨u, 0, none⟩ else some ⟨v, 0, none⟩) (if i = 0 then l1 else l2).length (if i = 0 then l1.length else l2.length)) = (if i = 0 then .slice (some ⟨u, 0, none⟩) l1.length l1.length else .slice (some ⟨v, 0, none⟩) l2.length l2.length) := by
    intro i hi
    by_cases h0 : i = 0
    · rw [if_pos h0, if_pos h0, if_pos h0, if_pos h0]
    · rw [if_neg h0, if_neg h0, if_neg h0, if_neg h0]
  have h := apart_any (w.alloc (.cells #[.slice (some ⟨u, 0, none⟩) l1.length l1.length, .slice (some ⟨v, 0, none⟩) l2.length l2.length] 23)) w.heap.size 0 2 2 base (fun i => if i = 0 then some ⟨u, 0, none⟩ else some ⟨v, 0, none⟩) (fun i => if i = 0 then l1.length else l2.length) (fun i => if i = 0 then l1 else l2) (by decide)
    (by simp; omega) (by simp) (fun i hi => ?_) ⟨fun i hi => ?_, fun i j k hi hj hij h1 h2 => ?_⟩ (fun i hi => ?_) (fun i hi h1 => ?_)
  · refine h.mono ?_
    rintro e' w' ⟨h1, h2⟩
    refine ⟨h1, h2.mono (fun k _ hk => ?_)⟩
    obtain ⟨j, hj, hk⟩ := hk
    (try dsimp only at hk)
    rw [e j hj] at hk
    by_cases h0 : j = 0
    · rw [if_pos h0] at hk; exact Or.inl (Option.some.inj hk).symm
    · rw [if_neg h0] at hk; exact Or.inr (Option.some.inj hk).symm
  · (try dsimp only)
    rw [e i hi]
    rcases (by omega : i = 0 ∨ i = 1) with h0 | h0 <;> subst h0 <;> simp
  · (try dsimp only)
    rw [e i hi]
    by_cases h0 : i = 0
    · rw [if_pos h0, if_pos h0]
      exact Or.inl (O1.keep (fun k hk _ => Below.heap_alloc _ _ _ hk))
    · rw [if_neg h0, if_neg h0]
      exact Or.inl (O2.keep (fun k hk _ => Below.heap_alloc _ _ _ hk))
  · (try dsimp only at h1 h2)
    rw [e i hi] at h1
    rw [e j hj] at h2
    by_cases h0 : i = 0
    · rw [if_pos h0] at h1
      rw [if_neg (by omega)] at h2
      have e1 : u = k := Option.some.inj h1
      have e2 : v = k := Option.some.inj h2
      omega
    · rw [if_neg h0] at h1
      rw [if_pos (by omega)] at h2
      have e1 : v = k := Option.some.inj h1
      have e2 : u = k := Option.some.inj h2
      omega
  · (try dsimp only)
    by_cases h0 : i = 0
    · rw [if_pos h0]; omega
    · rw [if_neg h0]; omega
  · (try dsimp only at h1)
    rw [e i hi] at h1
    by_cases h0 : i = 0
    · rw [if_pos h0] at h1
      have e1 : u = w.heap.size := Option.some.inj h1
      omega
    · rw [if_neg h0] at h1
      have e1 : v = w.heap.size := Option.some.inj h1
      omega
/-- The bytes made of a number, the first n. -/
def flN (v : Int) (n : Nat) : List Nat := (List.range n).map fun (i : Nat) => ((v + 7 * (i : Int)) % 256).toNat
theorem flN_len (v : Int) (n : Nat) : (flN v n).length = n := by simp [flN]
theorem flN_succ (v : Int) (n : Nat) : flN v (n + 1) = flN v n ++ [((v + 7 * n) % 256).toNat] := by
  unfold flN
  rw [List.range_succ, List.map_append]; rfl
theorem flN_bys (v : Int) (n : Nat) : Bys (flN v n) := by
  intro x hx
  obtain ⟨i, _, rfl⟩ := List.mem_map.1 hx
  omega
/-- The row while the loop runs. -/
def flR (v : Int) (n : Nat) : List Nat := flN v n ++ List.replicate (160 - n) 0
theorem flR_len (v : Int) (n : Nat) (h : n ≤ 160) : (flR v n).length = 160 := by unfold flR; rw [List.length_append, flN_len, List.length_replicate]; omega
theorem flR_next (v : Int) (n : Nat) (h : n < 160) : (flR v n).set n ((v + 7 * n) % 256).toNat = flR v (n + 1) := by
  unfold flR
  rw [flN_succ, List.set_append_right _ _ (by rw [flN_len]; omega), flN_len, Nat.sub_self, show 160 - n = (160 - (n + 1)) + 1 by omega, List.replicate_succ, List.set_cons_zero, List.append_assoc]
  rfl
theorem wrap_mod (x : Int) : wrap64 x % 256 = x % 256 := by unfold wrap64; omega
set_option maxHeartbeats 1000000 in
theorem fill_any (v : Int) (w : World) :
    Calls Tryz.prog 9 #[.int .i64 v] w fun e w' => e = .returned (.slice (some ⟨w.heap.size, 0, none⟩) 160 160) ∧ Bat w' w.heap.size (flN v 160) ∧ Chg (fun _ => False) w w' := by
  have hmk := make_bytes w 160 160 rfl (by decide)
  have HB0 : Hid (Bat (w.alloc (.cells (bcells (List.replicate 160 0)) 5)) w.heap.size (flR v 0)) := Bat.new w _
  have HC0 := hyd ((Chg.refl (fun _ => False) w).alloc (.cells (bcells (List.replicate 160 0)) 5))
  generalize hz : List.replicate 160 0 = z at *
  clear hz
  go_enter Tryz.func9, Tryz.ntmps9
  go_wp2_with fail
  generalize w.alloc (.cells (bcells z) 5) = w0 at *
  go_loopg [8] 160 (fun kx s8 wr => ∃ (i : Nat), s8 = .int .i64 i ∧ i ≤ 160 ∧ 160 - i ≤ kx ∧ Hid (Bat wr w.heap.size (flR v i)) ∧ Hid (Chg (fun _ => False) w wr))
  case atStart => exact ⟨0, rfl, by omega, by omega, HB0, HC0⟩
  case round =>
  obtain ⟨i, rfl, hi, hkx, HB, HC⟩ := hrel
  by_cases hlt : i < 160
  · have hltz : (i : Int) < 160 := by omega
    have c0 := HB.out.cell i (by rw [flR_len v i hi]; exact hlt)
    have z0 := HB.out.frozen i
    have HS := hyd (HB.out.store i ((v + 7 * i) % 256).toNat)
    rw [flR_next v i hlt] at HS
    have HE : Hid ((((v + 7 * i) % 256).toNat : Int) = (v + 7 * i) % 256) := by show _ = _; omega
    generalize (flR v i).getD i 0 = y at *
    go_wp2
    go_roundg (160 - (i + 1))
    case measure => omega
    case rel =>
      refine ⟨i + 1, by simp, by omega, Nat.le_refl _, ?_, HC.out.setCell (Or.inr (Nat.le_refl _)) _ _⟩
      have hw : wrap64 (v + 7 * (i : Int)) % 256 = (((v + 7 * i) % 256).toNat : Nat) := by rw [wrap_mod]; omega
      show Bat _ _ _
      rw [hw]
      exact HS.out
  · have hltz : ¬ (i : Int) < 160 := by omega
    have hie : i = 160 := by omega
    subst hie
    have HE : Hid (flR v 160 = flN v 160) := by show _ = _; unfold flR; simp
    go_wp2
    go_ret
    exact ⟨rfl, by rw [← HE.out]; exact HB.out, HC.out⟩
set_option maxHeartbeats 1000000 in
theorem rfill_any (v : Int) (w : World) :
    Calls Tryz.prog 10 #[.int .i64 v] w fun e w' => ∃ x, e = .returned x ∧ Own w' w.heap.size 5 x (flN v 160) ∧ Chg (fun _ => False) w w' := by
  go_enter Tryz.func10, Tryz.ntmps10
  go_wp2_with fail
  go_loopg [3, 4] 160 (fun kx s3 s4 wr => ∃ (i : Nat), s4 = .int .i64 i ∧ i ≤ 160 ∧ 160 - i ≤ kx ∧ Hid (Own wr w.heap.size 5 s3 (flN v i)) ∧ Hid (Chg (fun _ => False) w wr))
  case atStart => exact ⟨0, rfl, by omega, by omega, ⟨rfl, Or.inl ⟨rfl, rfl⟩⟩, Chg.refl _ _⟩
  case round =>
  obtain ⟨i, rfl, hi, hkx, HO, HC⟩ := hrel
  by_cases hlt : i < 160
  · have hltz : (i : Int) < 160 := by omega
    have HO1 : Hid (Own (wr.alloc (.cells #[.int .u8 ((v + 7 * (i : Int)) % 256)] 5)) w.heap.size 5 u3 (flN v i)) := HO.out.chg ((Chg.refl (fun _ => False) wr).alloc _) (fun _ _ _ f => f)
    have HC1 := hyd (HC.out.alloc (.cells #[.int .u8 ((v + 7 * (i : Int)) % 256)] 5))
    have HB1 : Hid (w.heap.size ≤ (wr.alloc (.cells #[.int .u8 ((v + 7 * (i : Int)) % 256)] 5)).heap.size) := HC1.out.size
    have HX1 : Hid (∀ ad, some (⟨wr.heap.size, 0, none⟩ : Addr) = some ad → ∀ j, j < 1 → (wr.alloc (.cells #[.int .u8 ((v + 7 * (i : Int)) % 256)] 5)).cell? (ad.add j) = some (.int .u8 (([((v + 7 * (i : Int)) % 256).toNat] : List Nat).getD j 0 : Nat))) := by
      intro ad h j hj
      obtain rfl : j = 0 := by omega
      injection h with h
      subst h
      have h2 := heap_new wr (.cells #[.int .u8 ((v + 7 * (i : Int)) % 256)] 5)
      rw [Addr.add_mid]
      simp only [World.cell?, h2]
      simp
      omega
    have HL : Hid ((flN v i).length + 1 ≤ 140737488355328) := by show _ ≤ _; rw [flN_len]; omega
    go_wp2_with (first | (refine wpList_append_bytes _ rfl (.tmp 9) (.tmp 16) 23 rfl w.heap.size 5 Tryz.underlying23 info5 _ (flN v i) rfl HO1.out (some ⟨wr.heap.size, 0, none⟩) 1 1 [((v + 7 * (i : Int)) % 256).toNat] rfl rfl (fun h => by cases h) HX1.out HL.out HB1.out _ rfl ?_))
    intro v' w2 O2 G2 _
    have HO2 : Hid (Own w2 w.heap.size 5 v' (flN v (i + 1))) := by show Own _ _ _ _ _; rw [flN_succ]; exact O2
    have HC2 := hyd (HC1.out.grown G2 (fun k hk => Or.inr (HO1.out.block hk).1))
    clear O2 G2
    go_wp2
    go_roundg (160 - (i + 1))
    case measure => omega
    case rel => exact ⟨i + 1, by simp, by omega, Nat.le_refl _, HO2, HC2⟩
  · have hltz : ¬ (i : Int) < 160 := by omega
    have hie : i = 160 := by omega
    subst hie
    go_wp2
    go_ret
    exact ⟨_, rfl, HO.out, HC.out⟩
theorem Bat.held' {w : World} {g : Nat} {l : List Nat} (h : Bat w g l) (n : Nat) (hn : n = l.length) : Held w (.slice (some ⟨g, 0, none⟩) n n) l := by
  subst hn
  exact ⟨_, _, rfl, Or.inr ⟨g, 0, rfl, h.lt, fun i hi => by rw [Nat.zero_add]; exact h.cell i hi⟩⟩
theorem Bat.chg {S : Nat → Prop} {w w' : World} {g : Nat} {l : List Nat} (h : Bat w g l) (hc : Chg S w w') (hs : ¬ S g) : Bat w' g l := (hc.block g h.lt hs).trans h
theorem same_v (w : World) (a1 a2 : Option Addr) (n1 n2 c1 c2 : Nat) (l : List Nat) (e1 : n1 = l.length) (e2 : n2 = l.length) (h1 : Held w (.slice a1 n1 c1) l) (h2 : Held w (.slice a2 n2 c2) l) (hn : l.length ≤ 1000) :
    Calls Tryz.prog 11 #[.slice a1 n1 c1, .slice a2 n2 c2] w fun e w' => e = .returned (.bool true) ∧ Chg (fun _ => False) w w' := by
  refine (same_n w a1 a2 n1 n2 c1 c2 l l e1 e2 h1 h2 (by omega) (by omega)).mono ?_
  rintro e w' ⟨rfl, h⟩
  exact ⟨by rw [decide_eq_true rfl], h⟩
set_option maxHeartbeats 2000000 in
theorem fills_walk (v : Int) (w : World) (hG : Gl w) : Calls Tryz.prog 3 #[.int .i64 v] w fun e w' => e = .returned (.bool true) ∧ Chg (fun _ => False) w w' := by
  have HG := hyd hG
  clear hG
  have hl := flN_len v 160
  have HLn := hyd hl
  clear hl
  go_enter Tryz.func3, Tryz.ntmps3
  go_wp2_with (first | (go_at_call 8; refine (shown_any _ HG.out).mono ?_; rintro e w1 ⟨rfl, hC1⟩; refine Hid.out ?_))
  refine Lib.hid ?_
  have HC1 := hyd hC1
  clear hC1
  go_wp2_with (first | (go_at_call 9; refine (fill_any v _).mono ?_; rintro e w2 ⟨rfl, hB2, hC2⟩; refine Hid.out ?_))
  refine Lib.hid ?_
  have HC2 := hyd (HC1.out.trans hC2)
  have HB2 := hyd hB2
  have H12 := hyd HC1.out.size
  clear hC2 hB2 HC1
  go_wp2_with (first | (go_at_call 9; refine (fill_any v _).mono ?_; rintro e w3 ⟨rfl, hB3, hC3⟩; refine Hid.out ?_))
  refine Lib.hid ?_
  have HC3 := hyd (HC2.out.trans hC3)
  have HA3 := hyd (HB2.out.chg hC3 (fun x => x))
  have HB3 := hyd hB3
  have H13 := hyd HB2.out.lt
  clear hC3 hB3 HC2 HB2
  generalize w1.heap.size = g1 at *
  have H23 := hyd HC3.out.size
  go_wp2_with (first | (go_at_call 10; refine (rfill_any v _).mono ?_; rintro e w4 ⟨x, rfl, hO4, hC4⟩; refine Hid.out ?_))
  refine Lib.hid ?_
  have HC4 := hyd (HC3.out.trans hC4)
  have HA4 := hyd (HA3.out.chg hC4 (fun x => x))
  have HB4 := hyd (HB3.out.chg hC4 (fun x => x))
  obtain ⟨xa, xc, rfl, hxa⟩ := hO4.held
  have HH4 : Hid (Held w4 (.slice xa (flN v 160).length xc) (flN v 160)) := ⟨xa, xc, rfl, hxa⟩
  rw [HLn.out] at HH4 ⊢
  clear hC4 hO4 hxa HC3 HA3 HB3
  generalize w2.heap.size = g2 at *
  go_wp2_with (first | (go_at_call 11; refine (same_v _ _ _ _ _ _ _ _ HLn.out.symm HLn.out.symm (HA4.out.held' 160 HLn.out.symm) HH4.out (by rw [HLn.out]; decide)).mono ?_; rintro e w5 ⟨rfl, hC5⟩; refine Hid.out ?_))
  refine Lib.hid ?_
  have HC5 := hyd (HC4.out.trans hC5)
  have HA5 := hyd (HA4.out.chg hC5 (fun x => x))
  have HB5 := hyd (HB4.out.chg hC5 (fun x => x))
  have HH5 := hyd (HH4.out.chg hC5 (fun _ _ _ x => x))
  clear hC5 HC4 HA4 HB4 HH4
  go_wp2_with (first | (go_at_call 11; refine (same_v _ _ _ _ _ _ _ _ HLn.out.symm HLn.out.symm (HB5.out.held' 160 HLn.out.symm) HH5.out (by rw [HLn.out]; decide)).mono ?_; rintro e w6 ⟨rfl, hC6⟩; refine Hid.out ?_))
  refine Lib.hid ?_
  have HC6 := hyd (HC5.out.trans hC6)
  have HA6 := hyd (HA5.out.chg hC6 (fun x => x))
  have HB6 := hyd (HB5.out.chg hC6 (fun x => x))
  have Hne : Hid (g1 ≠ g2) := Nat.ne_of_lt H13.out
  have Hb2 : Hid (w.heap.size ≤ g2) := Nat.le_trans H12.out (Nat.le_of_lt H13.out)
  clear hC6 HC5 HA5 HB5 HH5
  go_wp2_with (first | (go_at_call 12; refine (apart2 w6 w.heap.size g1 g2 160 160 (flN v 160) (flN v 160) HLn.out.symm HLn.out.symm HA6.out HB6.out Hne.out H12.out Hb2.out (by rw [HLn.out]; decide) (by rw [HLn.out]; decide)).mono ?_; rintro e w7 ⟨rfl, hC7⟩; refine Hid.out ?_))
  refine Lib.hid ?_
  have HC7 := hyd ((HC6.out.alloc _).trans' hC7 (fun k hk h => by have := H12.out; have := Hb2.out; omega))
  clear hC7
  go_wp2
  go_ret
  exact ⟨rfl, HC7.out⟩
end Go.Proofs.YtepbfdbooobnlaaGreatDoor
