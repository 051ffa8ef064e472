/-
  ArrayPlays answers true. Conditions: the script lies where the slice says.
-/
import Derived.Test.YthpjdnfalecbeaaStart
namespace Go.Proofs.Ythpjdnfalecbeaa
open Go.RowKit
set_option maxRecDepth 100000
theorem flatV_at {G : Nat → List Value} {m : Nat} (n : Nat) (h : ∀ j, j < n → (G j).length = m) (i : Nat) (hi : i < n * m) : (flatV G n).getD i undef = famF m G i := by
  induction n with
  | zero => omega
  | succ n ih =>
    have hl := flatV_length n (fun j hj => h j (Nat.lt_succ_of_lt hj))
    rw [flatV, List.getD_eq_getElem?_getD]
    by_cases hlt : i < n * m
    · rw [List.getElem?_append_left (by omega), ← List.getD_eq_getElem?_getD]
      exact ih (fun j hj => h j (by omega)) hlt
    · rw [List.getElem?_append_right (by omega), hl]
      have e : i / m = n := by
        rw [Nat.succ_mul] at hi
        exact Nat.div_eq_of_lt_le (by omega) (by rw [Nat.succ_mul]; omega)
      have hmod := Nat.div_add_mod i m
      rw [e, Nat.mul_comm] at hmod
      unfold famF
      rw [e, List.getD_eq_getElem?_getD, show i - n * m = i % m from by omega]
theorem rowCells {w : World} {base : Nat} {v : Value} {n : Nat} {V : Nat → Value} (h : w.ownsRow base 36 1 v n (flatV (fun i => [V i]) n)) (hn : n ≠ 0) :
    ∃ g cap, v = .slice (some ⟨g, 0, none⟩) n cap ∧ base ≤ g ∧ g < w.heap.size ∧ ∀ i, i < n → w.cell? ⟨g, i, none⟩ = some (V i) := by
  obtain ⟨g, cap, h1, h2, h3, h4⟩ := ownsRow_row h hn
  refine ⟨g, cap, h1, h2, h3, fun i hi => ?_⟩
  refine (h4.cell i (by omega)).trans ?_
  rw [flatV_at (m := 1) n (fun _ _ => rfl) i (by omega)]
  have e := fam_at 1 (by omega) (fun i => [V i]) i 0 (by omega)
  rw [Nat.one_mul] at e
  exact congrArg some e
theorem row_slice {w : World} {base : Nat} {v : Value} {n : Nat} {xs : List Value} (h : w.ownsRow base 36 1 v n xs) : ∃ a cap, v = .slice a n cap := by
  rcases h.2 with ⟨rfl, rfl⟩ | ⟨g, cap, cur, rfl, _⟩
  · exact ⟨none, 0, rfl⟩
  · exact ⟨_, cap, rfl⟩
def sliA : Value → Option Addr | .slice a _ _ => a | _ => none
def sliC : Value → Nat | .slice _ _ c => c | _ => 0
/-- What came out is its owner's. -/
theorem told_apart {w0 w : World} {t : Nat} {σ : Sta} (v : Value) (hv : σ.vt = v) (h : Pst True w0 w t σ) (hb : σ.nt ≤ 4398046511104) :
    Calls Try.prog 10 #[v] w fun e w' => e = .returned (.bool true) ∧ Pst False w0 w' t { σ with col := paint σ.col w w' 0 } := by
  have hV : ∀ i, i < σ.nt → σ.Vt i = .slice (sliA (σ.Vt i)) (σ.L i).length (sliC (σ.Vt i)) := fun i hi => by
    obtain ⟨a, c, e, _⟩ := (h.tv trivial i hi).held
    rw [e]
    rfl
  rcases h.told.2 with ⟨e, _⟩ | ⟨g, cap, cur, e, hg, hh, _⟩
  · rw [← hv, show #[σ.vt] = #[Value.slice none 0 0] from by rw [e]]
    exact (apart_nil w).mono fun e w' ⟨h1, h2⟩ => ⟨h1, h.forget h2 (fun k f => f.elim)⟩
  · rw [← hv, show #[σ.vt] = #[Value.slice (some ⟨g, 0, none⟩) σ.nt cap] from by rw [e]]
    have hlt : g < w.heap.size := (Array.getElem?_eq_some_iff.1 hh).1
    refine (apart_any w g 0 σ.nt cap w0.heap.size (fun i => sliA (σ.Vt i)) (fun i => sliC (σ.Vt i)) σ.L hb h.chg.size hlt (fun i hi => ?_) ⟨fun i hi => ?_, fun i j k hi hj hne he => ?_⟩ (fun i hi => by have := h.len trivial i hi; omega) (fun i hi he => ?_)).mono fun e w' ⟨h1, h2⟩ => ⟨h1, h.forget h2 (fun k hk => ?_)⟩
    · obtain ⟨g', cap', e', -, -, hc⟩ := rowCells h.told (by omega)
      rw [e] at e'
      injection e' with e1 _ _
      injection e1 with e1
      injection e1 with e1
      subst e1
      rw [Nat.zero_add, hc i hi]
      exact congrArg some (hV i hi)
    · rw [← hV i hi]; exact h.tv trivial i hi
    · rw [← hV i hi] at he
      rw [← hV j hj]
      exact h.tdis trivial i j k hi hj hne he
    · rw [← hV i hi] at he
      have h1 := h.kVt trivial i hi g he
      have h2 := h.kvt g (by rw [e]; rfl)
      omega
    · obtain ⟨i, hi, he⟩ := hk
      replace he : (Value.slice (sliA (σ.Vt i)) (σ.L i).length (sliC (σ.Vt i))).ownBlock = some k := he
      rw [← hV i hi] at he
      exact h.kVt trivial i hi k he
set_option maxHeartbeats 8000000 in
theorem plays_walk (a : Option Addr) (len cap : Nat) (O : Nat → Opd) (w : World) (hO : IsOps w a len O) (hlen : len ≤ 4398046510976) :
    Calls Try.prog 3 #[.slice a len cap] w fun e w' => e = .returned (.bool true) ∧ Below w.heap.size w w' := by
  have HO := hyd hO
  clear hO
  go_enter Try.func3, Try.ntmps3
  go_wp2_with fail
  refine (shown_any _).mono ?_
  rintro e w1 ⟨rfl, G1⟩
  go_wp2_with fail
  refine (anew_any _).mono ?_
  rintro e w2 ⟨rfl, C2, G2, -⟩
  go_wp2_with fail
  refine (anew_any _).mono ?_
  rintro e w3 ⟨rfl, C3, G3, -⟩
  go_wp2_with fail
  refine (rnew_any _).mono ?_
  rintro e w4 ⟨r1, rfl, R4, G4⟩
  go_wp2_with fail
  refine (rnew_any _).mono ?_
  rintro e w5 ⟨r2, rfl, R5, G5⟩
  have P5 := hyd (Pst.start G1 C2 G2 C3 G3 R4 G4 R5 G5)
  clear C2 C3 R4 R5 G1 G2 G3 G4 G5
  go_wp2_with fail
  go_loopw [5] (fun t5 wr => ∃ (i : Nat) (σ : Sta), i ≤ len ∧ t5 = .int .i64 i ∧ Even True w wr w5.heap.size i σ) (fun t5 _ => len - (intOf t5).toNat)
  case atStart => exact ⟨0, _, by omega, rfl, P5.out, rfl, rfl, Nat.le_refl _⟩
  case round =>
    clear P5
    generalize w5.heap.size = T at *
    obtain ⟨i, σ, hi, rfl, h, hx, hn, hnt⟩ := hrel
    by_cases hlt : i < len
    · have hi0 : (i : Int) < (len : Int) := by omega
      have hi1 : (0 : Int) ≤ (i : Int) := by omega
      obtain ⟨g, o, rfl, hg, hcells⟩ : ∃ g o, a = some ⟨g, o, none⟩ ∧ g < w.heap.size ∧ ∀ i, i < len → w.cell? ⟨g, o + i * 4, none⟩ = some (.int .i64 (O i).K) ∧ w.cell? ⟨g, o + i * 4 + 1, none⟩ = some (.int .i64 (O i).A) ∧ w.cell? ⟨g, o + i * 4 + 2, none⟩ = some (.int .i64 (O i).B) ∧ w.cell? ⟨g, o + i * 4 + 3, none⟩ = some (.int .u8 (O i).f) := by
        rcases HO.out.2 with h0 | h0
        · omega
        · exact h0
      have HOk := hyd (HO.out.1 i hlt)
      obtain ⟨c0, c1, c2, c3⟩ := hcells i hlt
      clear hcells
      have hb := h.chg.block g hg (fun f => f)
      have d0 : wr.cell? ⟨g, o + i * 4, none⟩ = some (.int .i64 (O i).K) := (World.cell?_of_block (a := ⟨g, o + i * 4, none⟩) hb).trans c0
      have d1 : wr.cell? ⟨g, o + i * 4 + 1, none⟩ = some (.int .i64 (O i).A) := (World.cell?_of_block (a := ⟨g, o + i * 4 + 1, none⟩) hb).trans c1
      have d2 : wr.cell? ⟨g, o + i * 4 + 2, none⟩ = some (.int .i64 (O i).B) := (World.cell?_of_block (a := ⟨g, o + i * 4 + 2, none⟩) hb).trans c2
      have d3 : wr.cell? ⟨g, o + i * 4 + 3, none⟩ = some (.int .u8 (O i).f) := (World.cell?_of_block (a := ⟨g, o + i * 4 + 3, none⟩) hb).trans c3
      clear c0 c1 c2 c3 hb
      have HH := hyd h
      have HX := hyd hx
      have HN := hyd hn
      have HNT := hyd hnt
      clear h hx hn hnt
      go_wp2_with fail
      refine (stepOp True w T σ (O i).K (O i).A (O i).B (O i).f _ HH.out HX.out HN.out (by have := HNT.out; omega) HOk.out.k1 HOk.out.k2 HOk.out.f).mono ?_
      rintro e w7 ⟨rfl, σ', h', hx', hn', hnt'⟩
      have HE7 : Hid (Even True w w7 T (i + 1) σ') := ⟨h', hx', hn', by have := HNT.out; omega⟩
      clear HH HX HN HNT h' hx' hn' hnt' d0 d1 d2 d3
      go_wp2
      exact ⟨⟨i + 1, σ', by omega, by go_num, HE7.out⟩, by simp [intOf]; omega⟩
    · have hi0 : ¬ (i : Int) < (len : Int) := by omega
      have ei : i = len := by omega
      subst ei
      clear hlt hi
      have HE := hyd (show Even True w wr T i σ from ⟨h, hx, hn, hnt⟩)
      clear h hx hn hnt
      go_wp2_with fail
      obtain ⟨N, hN⟩ : ∃ N, N = σ.nt := ⟨_, rfl⟩
      go_loopw [7] (fun t7 wx => ∃ (j : Nat) (σ : Sta), j ≤ N ∧ t7 = .int .i64 j ∧ Even True w wx T i σ ∧ σ.nt = N) (fun t7 _ => N - (intOf t7).toNat)
      case atStart => exact ⟨0, σ, by omega, rfl, HE.out, hN.symm⟩
      case round =>
        clear HE hN
        obtain ⟨j, σ1, hj, rfl, ⟨h, hx, hn, hnt⟩, hN⟩ := hrel
        by_cases hlt : j < N
        · have hj0 : (j : Int) < (N : Int) := by omega
          have hj1 : (0 : Int) ≤ (j : Int) := by omega
          have hj2 : (j : Int) < 4398046510976 := by omega
          obtain ⟨gT, cT, eT, -, ltT, cellT⟩ := rowCells h.told (by omega)
          obtain ⟨gW, cW, eW, -, ltW, cellW⟩ := rowCells h.want (by omega)
          have kt := cellT j (by omega)
          have kw := cellW j (by omega)
          have hs1 := (h.tv trivial j (by omega)).held
          have hs2 := h.wv trivial j (by omega)
          have hl := h.len trivial j (by omega)
          have hl9 : (σ1.L j).length ≤ 9223372036854775807 := by omega
          obtain ⟨a1, q1, ev1, -⟩ := id hs1
          obtain ⟨a2, q2, ev2, -⟩ := id hs2
          rw [ev1] at hs1 kt
          rw [ev2] at hs2 kw
          have k4 := h.cellT
          have k5 := h.cellW
          rw [eT, hN] at k4
          rw [eW, hn, hN] at k5
          have tlt : T < wr.heap.size := h.two.lt
          have HS1 := hyd hs1
          have HS2 := hyd hs2
          have HH := hyd h
          have HX := hyd hx
          have HN := hyd hn
          have HNT := hyd hnt
          have HNN := hyd hN
          clear h hx hn hnt hN hs1 hs2 cellT cellW eT eW ev1 ev2 hl
          go_wp2_with fail
          go_region_held3 (fun wx => wx.cell? ⟨T, 4, none⟩ = some (.slice (some ⟨gT, 0, none⟩) N cT) ∧ wx.cell? ⟨T, 5, none⟩ = some (.slice (some ⟨gW, 0, none⟩) N cW) ∧ wx.cell? ⟨gT, j, none⟩ = some (.slice a1 (σ1.L j).length q1) ∧ wx.cell? ⟨gW, j, none⟩ = some (.slice a2 (σ1.L j).length q2))
            (first | exact ⟨k4, k5, kt, kw⟩ | exact ⟨k4b, k5b, ktb, kwb⟩)
            (first | (go_at_call 9; refine (same_any _ a1 a2 q1 q2 (σ1.L j) (σ1.L j) ?_ ?_ hl9 hl9).mono ?_; (exact HS1.out.chg ((Chg.refl (fun _ => False) wr).drew) (fun _ _ _ f => f)); (exact HS2.out.chg ((Chg.refl (fun _ => False) wr).drew) (fun _ _ _ f => f)); rintro e w2 ⟨rfl, G2⟩; have G2' := chgTo ((Chg.refl (fun _ => False) wr).drew) G2; have P2 := HH.out.still G2'; have k4b : w2.cell? ⟨T, 4, none⟩ = some (.slice (some ⟨gT, 0, none⟩) N cT) := (World.cell?_of_block (a := ⟨T, 4, none⟩) (G2'.block T tlt (fun f => f))).trans k4; have k5b : w2.cell? ⟨T, 5, none⟩ = some (.slice (some ⟨gW, 0, none⟩) N cW) := (World.cell?_of_block (a := ⟨T, 5, none⟩) (G2'.block T tlt (fun f => f))).trans k5; have ktb : w2.cell? ⟨gT, j, none⟩ = some (.slice a1 (σ1.L j).length q1) := (World.cell?_of_block (a := ⟨gT, j, none⟩) (G2'.block gT ltT (fun f => f))).trans kt; have kwb : w2.cell? ⟨gW, j, none⟩ = some (.slice a2 (σ1.L j).length q2) := (World.cell?_of_block (a := ⟨gW, j, none⟩) (G2'.block gW ltW (fun f => f))).trans kw; rw [show decide (σ1.L j = σ1.L j) = true from decide_eq_true rfl]))
          all_goals
            have HE2 : Hid (∃ σ', Even True w w2 T i σ' ∧ σ'.nt = N) := ⟨_, ⟨P2, HX.out, HN.out, HNT.out⟩, HNN.out⟩
            clear P2 G2 G2' HH HX HN HNT HS1 HS2
            go_wp2
            obtain ⟨σ', h1, h2⟩ := HE2.out
            exact ⟨⟨j + 1, σ', by omega, by go_num, h1, h2⟩, by simp [intOf]; omega⟩
        · have hj0 : ¬ (j : Int) < (N : Int) := by omega
          have ej : j = N := by omega
          subst ej
          obtain ⟨aT, cT, eT⟩ := row_slice h.told
          have k4 := h.cellT
          have k4' := k4
          rw [eT, hN] at k4'
          have HT : Hid (σ1.vt = .slice aT j cT) := by rw [← hN]; exact eT
          have HH := hyd h
          have HX := hyd hx
          have HN := hyd hn
          have HNT := hyd hnt
          have HNN := hyd hN
          clear h hx hn hnt hN eT k4
          go_wp2_with fail
          refine (told_apart (.slice aT j cT) HT.out HH.out (by have := HNT.out; omega)).mono ?_
          rintro e w2 ⟨rfl, P2⟩
          have HE2 : Hid (∃ σ', Even False w w2 T i σ') := ⟨_, P2, HX.out, HN.out, HNT.out⟩
          clear P2 HH HX HN HNT HNN HT k4'
          have hiN : i ≤ 4398046510976 := hlen
          clear HO hlen hlt
          go_wp2_with fail
          go_loopg [10, 11, 12] 2 (fun kx s10 s11 s12 wx => ∃ (k : Nat), s10 = .int .i64 k ∧ k ≤ 2 ∧ 2 - k ≤ kx ∧ Hid (∃ σ', Even False w wx T (i + 25 * k) σ'))
          case atStart => exact ⟨0, rfl, by omega, by omega, HE2⟩
          case round =>
          clear HE2
          obtain ⟨k, rfl, hk2, hkx, HE⟩ := hrel
          by_cases hk : k < 2
          · have hkz : (k : Int) < 2 := by omega
            go_wp2_with fail
            go_loopg [11, 12] 24 (fun ky x11 x12 wy => ∃ (q : Nat), x11 = .int .i64 q ∧ q ≤ 24 ∧ 24 - q ≤ ky ∧ Hid (∃ σ', Even False w wy T (i + 25 * k + q) σ'))
            case atStart => exact ⟨0, rfl, by omega, by omega, HE⟩
            case round =>
            clear HE
            obtain ⟨q, rfl, hq24, hqx, HE⟩ := hrel
            by_cases hq : q < 24
            · have hqz : (q : Int) < 24 := by omega
              go_wp2_with fail
              obtain ⟨σ3, h3, hx3, hn3, hnt3⟩ := HE.out
              have HS : Hid (Calls Try.prog 8 #[.pointer (some ⟨T, 0, none⟩), .agg #[.int .i64 1, .int .i64 q, .int .i64 0, .int .u8 0]] wr fun e w' => e = .returned (.bool true) ∧ ∃ σ', Even False w w' T (i + 25 * k + (q + 1)) σ') :=
                (stepOp False w T σ3 1 q 0 0 wr h3 hx3 hn3 (by omega) (by omega) (by omega) (by omega)).mono
                  (fun e w' ⟨he, σ', h1, h2, h4, h5⟩ => ⟨he, σ', h1, h2, h4, by omega⟩)
              clear h3 hx3 hn3 hnt3 HE
              refine HS.out.mono ?_
              rintro e w4 ⟨rfl, h4⟩
              have HE4 := hyd h4
              clear h4 HS
              go_wp2
              go_roundg (24 - (q + 1))
              case measure => omega
              case rel => exact ⟨q + 1, by simp, by omega, Nat.le_refl _, HE4⟩
            · have hqz : ¬ (q : Int) < 24 := by omega
              have hq24' : q = 24 := by omega
              subst hq24'
              go_wp2_with fail
              obtain ⟨σ3, h3, hx3, hn3, hnt3⟩ := HE.out
              have HS : Hid (Calls Try.prog 8 #[.pointer (some ⟨T, 0, none⟩), .agg #[.int .i64 4, .int .i64 0, .int .i64 0, .int .u8 0]] wr fun e w' => e = .returned (.bool true) ∧ ∃ σ', Even False w w' T (i + 25 * (k + 1)) σ') :=
                (stepOp False w T σ3 4 0 0 0 wr h3 hx3 hn3 (by omega) (by omega) (by omega) (by omega)).mono
                  (fun e w' ⟨he, σ', h1, h2, h4, h5⟩ => ⟨he, σ', h1, h2, h4, by omega⟩)
              clear h3 hx3 hn3 hnt3 HE
              refine HS.out.mono ?_
              rintro e w4 ⟨rfl, h4⟩
              have HE4 := hyd h4
              clear h4 HS
              go_wp2
              go_roundg (2 - (k + 1))
              case measure => omega
              case rel => exact ⟨k + 1, by simp, by omega, Nat.le_refl _, HE4⟩
          · have hkz : ¬ (k : Int) < 2 := by omega
            obtain ⟨σ5, h5, -⟩ := HE.out
            have HB : Hid (Below w.heap.size w wr) := h5.chg.below (fun k f => f.elim) (Nat.le_refl _)
            clear h5 HE
            go_wp2
            go_ret
            exact ⟨rfl, HB.out⟩
end Go.Proofs.Ythpjdnfalecbeaa
