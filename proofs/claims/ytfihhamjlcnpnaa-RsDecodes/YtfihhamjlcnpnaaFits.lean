/-
  The document's trial of two places, and its quotient: patinaref02.fits, patinaref02.over. Condition: the tables are the document's, the bytes can be read.
-/
import Derived.Test.YtfihhamjlcnpnaaTabs
namespace Go.Proofs.Ytfihhamjlcnpnaa
open Go.RowKit
set_option maxRecDepth 100000

theorem fit_term {a x j : Nat} (ha : a ≠ 0) (hx : x < 255) : ex ((lg a + j * x) % 255) = gm a (xp (ex x) j) := by
  rw [xp_ex x hx j, gm_of_ne ha (ex_ne _ (Nat.mod_lt _ (by decide))), lg_ex _ (Nat.mod_lt _ (by decide)), Nat.mul_comm x j]
  congr 1
  omega
theorem tL_full {a : Nat} (h : a < 256) (h0 : a ≠ 0) : (tL 255).getD a 0 = lg a := by
  rw [tL_at _ _ h, if_pos ⟨h0, lg_lt a h⟩]
theorem tE_full {i : Nat} (h : i < 255) : (tE 255).getD i 0 = ex i := by rw [tE_at _ _ h, if_pos h]
theorem tmod_nat (n : Nat) : ((n : Nat) : Int).tmod 255 = ((n % 255 : Nat) : Int) := by
  rw [Int.tmod_eq_emod_of_nonneg (by omega)]; omega
def Ft (s : List Nat) (x y a b n : Nat) : Prop := ∀ j, j < n → s.getD j 0 = gm a (xp (ex x) j) ^^^ gm b (xp (ex y) j)
theorem Ft.succ {s : List Nat} {x y a b j : Nat} (h : Ft s x y a b j) (e : s.getD j 0 = gm a (xp (ex x) j) ^^^ gm b (xp (ex y) j)) : Ft s x y a b (j + 1) := by
  intro m hm
  by_cases h1 : m = j
  · subst h1; exact e
  · exact h m (by omega)

def FitAns (w w' : World) (s : List Nat) (x y a b : Nat) (e : Ending) : Prop := ∃ t : Bool, e = .returned (.bool t) ∧ (t = true ↔ Ft s x y a b 6) ∧ w' = w
set_option maxHeartbeats 4000000 in
theorem fits_any (w : World) (c o cs p g a b x y : Nat) (s : List Nat) (_hs : s.length = 6) (bs : Bys s) (ha : a < 256) (hb : b < 256) (hx : x < 64) (hy : y < 64)
    (hA : Arr w p 5 (tE 255)) (hI : Iat w g (tL 255)) (hc : ∀ i, i < 6 → w.cell? ⟨c, o + i, none⟩ = some (.int .u8 (s.getD i 0 : Nat))) :
    Calls Try.prog 38 #[.slice (some ⟨c, o, none⟩) 6 cs, .slice (some ⟨p, 0, none⟩) 255 255, .slice (some ⟨g, 0, none⟩) 256 256, .int .u8 (a : Int), .int .i64 (x : Int), .int .u8 (b : Int), .int .i64 (y : Int)] w
      fun e w' => FitAns w w' s x y a b e := by
  have HC := hyd hc
  clear hc
  go_enter Try.func38, Try.ntmps38
  go_wp2_with fail
  go_loop [15] (fun t => ∃ j : Nat, j ≤ 6 ∧ t = .int .i64 j ∧ Ft s x y a b j) (fun t => 6 - (intOf t).toNat)
  case atStart => exact ⟨0, by omega, rfl, fun j hj => by omega⟩
  case round =>
    obtain ⟨j, hj, rfl, hF⟩ := hrel
    by_cases hlt : j < 6
    · have hlt' : (j : Int) < 6 := by omega
      have hkb : (0 : Int) ≤ (j : Int) := by omega
      have HF := hyd hF
      have c1 := HC.out j hlt
      have hd := bs.getD j
      have HS : Hid (s.getD j 0 = gm a (xp (ex x) j) ^^^ gm b (xp (ex y) j) → Ft s x y a b (j + 1)) := hyd (fun e => hF.succ e)
      have HN : Hid (Ft s x y a b 6 → s.getD j 0 = gm a (xp (ex x) j) ^^^ gm b (xp (ex y) j)) := hyd (fun e => e j hlt)
      clear hF
      have hjx : j * x ≤ 5 * 63 := Nat.mul_le_mul (by omega) (by omega)
      have hjy : j * y ≤ 5 * 63 := Nat.mul_le_mul (by omega) (by omega)
      have ex1 : (j : Int) * (x : Int) = ((j * x : Nat) : Int) := by push_cast; rfl
      have ey1 : (j : Int) * (y : Int) = ((j * y : Nat) : Int) := by push_cast; rfl
      have la := lg_lt a ha
      have lb := lg_lt b hb
      have HTa : Hid (a ≠ 0 → ex ((lg a + j * x) % 255) = gm a (xp (ex x) j)) := hyd (fun e => fit_term e (by omega))
      have HTb : Hid (b ≠ 0 → ex ((lg b + j * y) % 255) = gm b (xp (ex y) j)) := hyd (fun e => fit_term e (by omega))
      have gA := gm_lt a (xp (ex x) j)
      have gB := gm_lt b (xp (ex y) j)
      have HA0 : Hid (a = 0 → gm a (xp (ex x) j) = 0) := hyd (fun e => by rw [e, gm_zero_left])
      have HB0 : Hid (b = 0 → gm b (xp (ex y) j) = 0) := hyd (fun e => by rw [e, gm_zero_left])
      generalize gm a (xp (ex x) j) = A at *
      generalize gm b (xp (ex y) j) = B at *
      generalize s.getD j 0 = S at *
      have q1 : ((lg a : Nat) : Int) + (j : Int) * (x : Int) = ((lg a + j * x : Nat) : Int) := by rw [ex1]; push_cast; rfl
      have q2 : ((lg b : Nat) : Int) + (j : Int) * (y : Int) = ((lg b + j * y : Nat) : Int) := by rw [ey1]; push_cast; rfl
      have w1 : IntKind.i64.wrap ((j : Int) * (x : Int)) = (j : Int) * (x : Int) := by rw [ex1, IntKind.wrap_i64]; omega
      have w2 : IntKind.i64.wrap ((j : Int) * (y : Int)) = (j : Int) * (y : Int) := by rw [ey1, IntKind.wrap_i64]; omega
      have w3 : IntKind.i64.wrap (((lg a : Nat) : Int) + (j : Int) * (x : Int)) = ((lg a : Nat) : Int) + (j : Int) * (x : Int) := by rw [q1, IntKind.wrap_i64]; omega
      have w4 : IntKind.i64.wrap (((lg b : Nat) : Int) + (j : Int) * (y : Int)) = ((lg b : Nat) : Int) + (j : Int) * (y : Int) := by rw [q2, IntKind.wrap_i64]; omega
      have n1 : (((lg a : Nat) : Int) + (j : Int) * (x : Int)).tmod 255 = (((lg a + j * x) % 255 : Nat) : Int) := by rw [q1]; exact tmod_nat _
      have n2 : (((lg b : Nat) : Int) + (j : Int) * (y : Int)).tmod 255 = (((lg b + j * y) % 255 : Nat) : Int) := by rw [q2]; exact tmod_nat _
      have b1 : (lg a + j * x) % 255 < 255 := Nat.mod_lt _ (by decide)
      have b2 : (lg b + j * y) % 255 < 255 := Nat.mod_lt _ (by decide)
      have p1 : w.cell? ⟨p, (lg a + j * x) % 255, none⟩ = some (.int .u8 (ex ((lg a + j * x) % 255) : Nat)) := by
        rw [← tE_full b1]; exact hA.cell _ (by rw [tE_length]; exact b1)
      have p2 : w.cell? ⟨p, (lg b + j * y) % 255, none⟩ = some (.int .u8 (ex ((lg b + j * y) % 255) : Nat)) := by
        rw [← tE_full b2]; exact hA.cell _ (by rw [tE_length]; exact b2)
      have u1 : (0 : Int) ≤ (((lg a : Nat) : Int) + (j : Int) * (x : Int)).tmod 255 := by rw [n1]; omega
      have u2 : (0 : Int) ≤ (((lg b : Nat) : Int) + (j : Int) * (y : Int)).tmod 255 := by rw [n2]; omega
      have u3 : (((lg a : Nat) : Int) + (j : Int) * (x : Int)).tmod 255 < 255 := by rw [n1]; omega
      have u4 : (((lg b : Nat) : Int) + (j : Int) * (y : Int)).tmod 255 < 255 := by rw [n2]; omega
      clear q1 q2 n1 n2 b1 b2 ex1 ey1 hjx hjy
      have x1 : bits BinOp.xor IntKind.u8 0 (A : Int) = (A : Int) := by have := u8_xor_nat 0 A (by omega) gA; rwa [Nat.zero_xor] at this
      have x2 : bits BinOp.xor IntKind.u8 0 (B : Int) = (B : Int) := by have := u8_xor_nat 0 B (by omega) gB; rwa [Nat.zero_xor] at this
      have x3 := u8_xor_nat A B gA gB
      have ab1 : (0 : Int) ≤ (a : Int) := by omega
      have ab2 : (a : Int) < 256 := by omega
      have bb1 : (0 : Int) ≤ (b : Int) := by omega
      have bb2 : (b : Int) < 256 := by omega
      by_cases a0 : a = 0
      · have A0 := HA0.out a0
        subst A0
        have za : ((a : Int) != 0) = false := by rw [a0]; rfl
        clear a0 p1 x1 x3
        by_cases b0 : b = 0
        · have B0 := HB0.out b0
          subst B0
          have zb : ((b : Int) != 0) = false := by rw [b0]; rfl
          clear b0 p2 x2
          by_cases hS : S = 0
          · have zs : ((0 : Int) != (S : Nat)) = false := by rw [hS]; simp
            have HS' := hyd (HS.out (by rw [hS]; rfl))
            clear hS
            go_wp2
            exact ⟨⟨j + 1, by omega, by go_num, HS'.out⟩, by simp [intOf]; omega⟩
          · have zs : ((0 : Int) != (S : Nat)) = true := by simp only [bne_iff_ne, ne_eq]; omega
            have HN' : Hid (¬ Ft s x y a b 6) := hyd (fun e => hS (by have := HN.out e; rw [this]; rfl))
            clear hS
            go_wp2
            go_ret
            exact ⟨false, rfl, ⟨fun e => by simp at e, fun e => absurd e HN'.out⟩, rfl⟩
        · have zb : ((b : Int) != 0) = true := by simp only [bne_iff_ne, ne_eq]; omega
          rw [HTb.out b0] at p2
          clear HTb
          have i1 := hI.cell b (by rw [tL_length]; omega)
          rw [tL_full hb b0] at i1
          clear b0
          by_cases hS : S = B
          · have zs : (((B : Nat) : Int) != (S : Nat)) = false := by rw [hS]; simp
            have HS' := hyd (HS.out (by rw [hS]; rw [Nat.zero_xor]))
            clear hS
            go_wp2
            exact ⟨⟨j + 1, by omega, by go_num, HS'.out⟩, by simp [intOf]; omega⟩
          · have zs : (((B : Nat) : Int) != (S : Nat)) = true := by simp only [bne_iff_ne, ne_eq]; omega
            have HN' : Hid (¬ Ft s x y a b 6) := hyd (fun e => hS (by have := HN.out e; rw [this, Nat.zero_xor]))
            clear hS
            go_wp2
            go_ret
            exact ⟨false, rfl, ⟨fun e => by simp at e, fun e => absurd e HN'.out⟩, rfl⟩
      · have za : ((a : Int) != 0) = true := by simp only [bne_iff_ne, ne_eq]; omega
        rw [HTa.out a0] at p1
        clear HTa
        have i2 := hI.cell a (by rw [tL_length]; omega)
        rw [tL_full ha a0] at i2
        clear a0
        by_cases b0 : b = 0
        · have B0 := HB0.out b0
          subst B0
          have zb : ((b : Int) != 0) = false := by rw [b0]; rfl
          clear b0 p2 x2 x3
          by_cases hS : S = A
          · have zs : (((A : Nat) : Int) != (S : Nat)) = false := by rw [hS]; simp
            have HS' := hyd (HS.out (by rw [hS]; rw [Nat.xor_zero]))
            clear hS
            go_wp2
            exact ⟨⟨j + 1, by omega, by go_num, HS'.out⟩, by simp [intOf]; omega⟩
          · have zs : (((A : Nat) : Int) != (S : Nat)) = true := by simp only [bne_iff_ne, ne_eq]; omega
            have HN' : Hid (¬ Ft s x y a b 6) := hyd (fun e => hS (by have := HN.out e; rw [this, Nat.xor_zero]))
            clear hS
            go_wp2
            go_ret
            exact ⟨false, rfl, ⟨fun e => by simp at e, fun e => absurd e HN'.out⟩, rfl⟩
        · have zb : ((b : Int) != 0) = true := by simp only [bne_iff_ne, ne_eq]; omega
          rw [HTb.out b0] at p2
          clear HTb
          have i1 := hI.cell b (by rw [tL_length]; omega)
          rw [tL_full hb b0] at i1
          clear b0
          by_cases hS : S = A ^^^ B
          · have zs : (((A ^^^ B : Nat) : Int) != (S : Nat)) = false := by rw [hS]; simp
            have HS' := hyd (HS.out (by rw [hS]))
            clear hS
            go_wp2
            exact ⟨⟨j + 1, by omega, by go_num, HS'.out⟩, by simp [intOf]; omega⟩
          · have zs : (((A ^^^ B : Nat) : Int) != (S : Nat)) = true := by simp only [bne_iff_ne, ne_eq]; omega
            have HN' : Hid (¬ Ft s x y a b 6) := hyd (fun e => hS (by have := HN.out e; rw [this]))
            clear hS
            go_wp2
            go_ret
            exact ⟨false, rfl, ⟨fun e => by simp at e, fun e => absurd e HN'.out⟩, rfl⟩
    · have hge : ¬ (j : Int) < 6 := by omega
      have hF6 : Ft s x y a b 6 := by
        have e : j = 6 := by omega
        rw [e] at hF; exact hF
      have HF := hyd hF6
      clear hF hF6
      go_wp2
      go_ret
      exact ⟨true, rfl, ⟨fun _ => HF.out, fun _ => rfl⟩, rfl⟩
end Go.Proofs.Ytfihhamjlcnpnaa
