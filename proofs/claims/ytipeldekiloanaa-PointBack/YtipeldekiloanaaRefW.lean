/-
  The document's Write, walked. No condition.
-/
import Derived.Test.YtipeldekiloanaaApp
namespace Go.Proofs.Ytipeldekiloanaa
open Go.RowKit
set_option maxRecDepth 100000

set_option maxHeartbeats 2000000 in
theorem rwrite_no (w : World) (c : Ckp) (h : ¬ Tld c) :
    Calls Try.prog 8 #[.agg (ckA c)] w fun e w' => e = .returned (.tuple #[.slice none 0 0, .int .i64 1]) ∧ Chg (fun _ => False) w w' := by
  have HK := hyd (Ck.new w c)
  have HG : Hid (Chg (fun _ => False) w (w.alloc (.cells (ckA c) 26))) := hyd ((Chg.refl _ w).alloc _)
  have HN := hyd h
  clear h
  go_enter Try.func8, Try.ntmps8
  go_wp2_with (refine wpList_load_ck rfl (.tmp 1) rfl w.heap.size rfl HK.out ?_)
  refine (rtold_any _ c).mono ?_
  rintro e w1 ⟨b, rfl, hb, G1⟩
  obtain rfl : b = false := by
    cases b with
    | false => rfl
    | true => exact absurd (hb.1 rfl) HN.out
  have HG1 := hyd (HG.out.trans G1)
  clear hb G1 HK HG
  go_wp2
  go_ret2
  exact ⟨rfl, HG1.out⟩
/-- How Write stands: what is laid, the checkpoint. -/
structure Wsr (w wr : World) (c : Ckp) (s : Value) (L : List Nat) : Prop where
  own : Own wr (w.heap.size + 1) 5 s L
  ck : Ck wr w.heap.size c
  chg : Chg (fun _ => False) w wr
theorem Wsr.pure {w wr w' : World} {c : Ckp} {s : Value} {L : List Nat} (h : Wsr w wr c s L) (hc : Chg (fun _ => False) wr w') : Wsr w w' c s L :=
  ⟨h.own.chg hc (fun _ _ _ f => f), h.ck.chg hc (fun e => e), h.chg.trans hc⟩
theorem Wsr.app {w wr w' : World} {c : Ckp} {s s' : Value} {L L' : List Nat} (h : Wsr w wr c s L) (ho : Own w' (w.heap.size + 1) 5 s' L') (hc : Chg (fun k => w.heap.size + 1 ≤ k) wr w') : Wsr w w' c s' L' :=
  ⟨ho, h.ck.chg hc (by omega), h.chg.trans' hc (fun i hi hh => by omega)⟩
theorem Wsr.size {w wr : World} {c : Ckp} {s : Value} {L : List Nat} (h : Wsr w wr c s L) : w.heap.size + 1 ≤ wr.heap.size := h.ck.lt

theorem bts1 (x : Nat) (h : x < 256) : bts x 1 = [x] := by
  show [byteAt x 0] = [x]
  unfold byteAt
  rw [Nat.pow_zero, Nat.div_one, Nat.mod_eq_of_lt h]
theorem one_at (w : World) (x : Nat) : At (w.alloc (.cells #[.int .u8 (x : Int)] 5)) w.heap.size 0 [x] := (Arr.new w 5 [x]).at_
set_option maxHeartbeats 8000000 in
theorem rwrite_yes (w : World) (c : Ckp) (h : Tld c) :
    Calls Try.prog 8 #[.agg (ckA c)] w fun e w' => ∃ s, e = .returned (.tuple #[s, .int .i64 0]) ∧ Own w' w.heap.size 5 s (wrL c) ∧ Chg (fun _ => False) w w' := by
  have HK := hyd (Ck.new w c)
  have HG : Hid (Chg (fun _ => False) w (w.alloc (.cells (ckA c) 26))) := hyd ((Chg.refl _ w).alloc _)
  have HN := hyd h
  clear h
  go_enter Try.func8, Try.ntmps8
  go_wp2_with (refine wpList_load_ck rfl (.tmp 1) rfl w.heap.size rfl HK.out ?_)
  refine (rtold_any _ c).mono ?_
  rintro e w1 ⟨b, rfl, hb, G1⟩
  obtain rfl : b = true := hb.2 HN.out
  have HS : Hid (Wsr w w1 c (.slice none 0 0) (cat (fl c.F 0 5))) := hyd ⟨Own.nil _ _ _, HK.out.chg G1 (fun e => e), HG.out.trans G1⟩
  clear hb G1 HK HG
  go_wp2_with fail
  go_loopw [5, 6] (fun s t wr => ∃ k : Nat, k ≤ 24 ∧ t = .int .i64 k ∧ Wsr w wr c s (cat (fl c.F k 5))) (fun _ t _ => 24 - (intOf t).toNat)
  case atStart => exact ⟨0, by decide, rfl, HS.out⟩
  case round =>
    clear HS
    obtain ⟨k, hk, rfl, hS⟩ := hrel
    by_cases hlt : k < 24
    · have hlt' : (k : Int) < 24 := by omega
      have hkb : (0 : Int) ≤ (k : Int) := by omega
      have k1 := hS.ck.F k hlt
      have hz := HN.out.F k hlt
      rw [← u6_of hz.1 (by omega)] at k1
      have hx : u6 (c.F k) < 9223372036854775808 := by have := u6_of hz.1 (by omega); omega
      have HE : Hid (cat (fl c.F (k + 1) 5) = cat (fl c.F k 5) ++ bts (u6 (c.F k)) 5) := hyd (by rw [fl_succ, cat_snoc])
      have HLn : Hid ((cat (fl c.F k 5)).length = k * 5) := hyd (by rw [cat_length, tot_fl])
      have HS := hyd hS
      clear hS hz
      generalize u6 (c.F k) = x at *
      have hcall := rbytes_any wr x 5 hx (by decide)
      go_wp2_with fail
      refine hcall.mono ?_
      rintro e w2 ⟨g, rfl, hg, A2, G2⟩
      have hS2 := HS.out.pure G2
      have hs2 := hS2.size
      have HS2 := hyd hS2
      have HA2 := hyd A2.at_
      clear hcall HS A2 G2 hS2 k1
      go_wp2_with (at_builtin; refine wpList_app rfl (.tmp 20) (.tmp 25) rfl (w.heap.size + 1) rfl HS2.out.own g 0 5 5 rfl (bts x 5) (bts_length x 5) HA2.out (by rw [HLn.out]; omega) hs2 ?_)
      intro v' w3 O3 C3
      have HS3 := hyd (HS2.out.app O3 C3)
      clear O3 C3 HS2 HA2
      go_wp2
      refine ⟨⟨k + 1, by omega, by go_num, ?_⟩, by simp [intOf]; omega⟩
      rw [HE.out]; exact HS3.out
    · have e : k = 24 := by omega
      subst e
      have k1 := hS.ck.N
      have hz := HN.out.N
      rw [← u6_of hz.1 (by omega)] at k1
      have hx : u6 c.N < 9223372036854775808 := by have := u6_of hz.1 (by omega); omega
      have HE : Hid (cat (nums c 2) = cat (fl c.F 24 5) ++ bts (u6 c.N) 5) := hyd (by rw [← cat_snoc]; rfl)
      have HLn : Hid ((cat (fl c.F 24 5)).length = 120) := hyd (by rw [cat_length, tot_fl])
      have HS := hyd hS
      clear hS hz
      generalize u6 c.N = x at *
      have hcall := rbytes_any wr x 5 hx (by decide)
      go_wp2_with fail
      refine hcall.mono ?_
      rintro e w2 ⟨g, rfl, hg, A2, G2⟩
      have hS2 := HS.out.pure G2
      have hs2 := hS2.size
      have HS2 := hyd hS2
      have HA2 := hyd A2.at_
      clear hcall HS A2 G2 hS2 k1
      go_wp2_with (at_builtin; refine wpList_app rfl (.tmp 27) (.tmp 30) rfl (w.heap.size + 1) rfl HS2.out.own g 0 5 5 rfl (bts x 5) (bts_length x 5) HA2.out (by rw [HLn.out]; omega) hs2 ?_)
      intro v' w3 O3 C3
      have hS3 := HS2.out.app O3 C3
      rw [← HE.out] at hS3
      have HS3 := hyd hS3
      clear O3 C3 HS2 HA2 hS3 HE HLn
      go_wp2_with fail
      go_loopw [7, 8, 9] (fun x y t wr => ∃ k : Nat, k ≤ 12 ∧ t = .int .i64 k ∧ x = .int .i64 (bitsN c.B k : Nat) ∧ y = .int .i64 (2 ^ k : Nat) ∧ Wsr w wr c v' (cat (nums c 2))) (fun _ _ t _ => 12 - (intOf t).toNat)
      case atStart => exact ⟨0, by decide, rfl, rfl, rfl, HS3.out⟩
      case round =>
        clear HS3
        obtain ⟨k, hk, rfl, rfl, rfl, hS⟩ := hrel
        have hb := bitsN_lt c.B k
        by_cases hlt : k < 12
        · have hlt' : (k : Int) < 12 := by omega
          have hkb : (0 : Int) ≤ (k : Int) := by omega
          have k1 := hS.ck.B k hlt
          have hp : 2 ^ k ≤ 2 ^ 11 := Nat.pow_le_pow_right (by decide) (by omega)
          have HP : Hid ((2 ^ (k + 1) : Nat) = 2 * 2 ^ k) := hyd (by rw [Nat.pow_succ, Nat.mul_comm])
          have HS := hyd hS
          clear hS
          cases hf : c.B k with
          | false =>
            rw [hf] at k1
            have HE : Hid (bitsN c.B (k + 1) = bitsN c.B k) := hyd (by rw [bitsN, hf]; rfl)
            generalize bitsN c.B k = bb at *
            generalize 2 ^ k = pp at *
            go_wp2
            refine ⟨⟨k + 1, by omega, by go_num, by rw [HE.out], by rw [HP.out]; go_num, HS.out⟩, by simp [intOf]; omega⟩
          | true =>
            rw [hf] at k1
            have HE : Hid (bitsN c.B (k + 1) = bitsN c.B k + 2 ^ k) := hyd (by rw [bitsN, hf]; rfl)
            generalize bitsN c.B k = bb at *
            generalize 2 ^ k = pp at *
            go_wp2
            refine ⟨⟨k + 1, by omega, by go_num, by rw [HE.out]; go_num, by rw [HP.out]; go_num, HS.out⟩, by simp [intOf]; omega⟩
        · have e : k = 12 := by omega
          subst e
          have hx : bitsN c.B 12 < 9223372036854775808 := by have := bitsN_12 c.B; omega
          have HE : Hid (cat (nums c 3) = cat (nums c 2) ++ bts (bitsN c.B 12) 2) := hyd (by rw [← cat_snoc]; rfl)
          have HLn : Hid ((cat (nums c 2)).length = 125) := hyd (by rw [cat_length, (tot_nums c).2.1])
          have HS := hyd hS
          have hcall := rbytes_any wr (bitsN c.B 12) 2 hx (by decide)
          clear hS hb
          generalize bitsN c.B 12 = x at *
          go_wp2_with fail
          refine hcall.mono ?_
          rintro e w2 ⟨g, rfl, hg, A2, G2⟩
          have hS2 := HS.out.pure G2
          have hs2 := hS2.size
          have HS2 := hyd hS2
          have HA2 := hyd A2.at_
          clear hcall HS A2 G2 hS2
          go_wp2_with (at_builtin; refine wpList_app rfl (.tmp 45) (.tmp 47) rfl (w.heap.size + 1) rfl HS2.out.own g 0 2 2 rfl (bts x 2) (bts_length x 2) HA2.out (by rw [HLn.out]; omega) hs2 ?_)
          intro v2 w3 O3 C3
          have hS3 := HS2.out.app O3 C3
          rw [← HE.out] at hS3
          have k1 := hS3.ck.C
          have hz := HN.out.C
          rw [← u6_of hz.1 (by omega)] at k1
          have hx2 : u6 c.C < 256 := by have := u6_of hz.1 (by omega); omega
          have HE4 : Hid (cat (nums c 4) = cat (nums c 3) ++ [u6 c.C]) := hyd (by rw [← bts1 _ hx2, ← cat_snoc]; rfl)
          have HLn3 : Hid ((cat (nums c 3)).length = 127) := hyd (by rw [cat_length, (tot_nums c).2.2.1])
          have hs3 := hS3.size
          have HS4 := hyd (hS3.pure ((Chg.refl _ _).alloc (.cells #[.int .u8 ((u6 c.C : Nat) : Int)] 5)))
          have HA4 := hyd (one_at w3 (u6 c.C))
          clear O3 C3 HS2 HA2 hS3 HE HLn hz
          generalize u6 c.C = x2 at *
          go_wp2_with (at_builtin; refine wpList_app rfl (.tmp 49) (.tmp 53) rfl (w.heap.size + 1) rfl HS4.out.own _ 0 1 1 rfl [x2] rfl HA4.out (by rw [HLn3.out]; omega) (by simp; omega) ?_)
          intro v3 w5 O5 C5
          have hS3 := HS4.out.app O5 C5
          rw [← HE4.out] at hS3
          clear O5 C5 HS4 HA4 HE4 HLn3 k1
          have HS0 : Hid (Wsr w _ c _ (cat (nums c 4) ++ cat (fl c.R 0 2))) := hyd (by rw [show cat (fl c.R 0 2) = [] from rfl, List.append_nil]; exact hS3)
          clear hS3
          go_wp2_with fail
          go_loopw [5, 10] (fun s t wr => ∃ k : Nat, k ≤ 12 ∧ t = .int .i64 k ∧ Wsr w wr c s (cat (nums c 4) ++ cat (fl c.R k 2))) (fun _ t _ => 12 - (intOf t).toNat)
          case atStart => exact ⟨0, by decide, rfl, HS0.out⟩
          case round =>
            clear HS0
            obtain ⟨k, hk, rfl, hS⟩ := hrel
            by_cases hlt : k < 12
            · have hlt' : (k : Int) < 12 := by omega
              have hkb : (0 : Int) ≤ (k : Int) := by omega
              have k1 := hS.ck.R k hlt
              have hz := HN.out.R k hlt
              rw [← u6_of hz.1 (by omega)] at k1
              have hx : u6 (c.R k) < 9223372036854775808 := by have := u6_of hz.1 (by omega); omega
              have HE : Hid (cat (nums c 4) ++ cat (fl c.R (k + 1) 2) = cat (nums c 4) ++ cat (fl c.R k 2) ++ bts (u6 (c.R k)) 2) := hyd (by rw [fl_succ, cat_snoc, List.append_assoc])
              have HLn : Hid ((cat (nums c 4) ++ cat (fl c.R k 2)).length = 128 + 2 * k) := hyd (by rw [List.length_append, cat_length, cat_length, tot_fl, (tot_nums c).2.2.2.1]; omega)
              have HS := hyd hS
              have hcall := rbytes_any wr (u6 (c.R k)) 2 hx (by decide)
              clear hS hz
              generalize u6 (c.R k) = x at *
              go_wp2_with fail
              refine hcall.mono ?_
              rintro e w2 ⟨g, rfl, hg, A2, G2⟩
              have hS2 := HS.out.pure G2
              have hs2 := hS2.size
              have HS2 := hyd hS2
              have HA2 := hyd A2.at_
              clear hcall HS A2 G2 hS2 k1
              go_wp2_with (at_builtin; refine wpList_app rfl (.tmp 59) (.tmp 64) rfl (w.heap.size + 1) rfl HS2.out.own g 0 2 2 rfl (bts x 2) (bts_length x 2) HA2.out (by rw [HLn.out]; omega) hs2 ?_)
              intro v' w3 O3 C3
              have HS3 := hyd (HS2.out.app O3 C3)
              clear O3 C3 HS2 HA2
              go_wp2
              refine ⟨⟨k + 1, by omega, by go_num, ?_⟩, by simp [intOf]; omega⟩
              rw [HE.out]; exact HS3.out
            · have e : k = 12 := by omega
              subst e
              have HE5 : Hid (cat (nums c 5) = cat (nums c 4) ++ cat (fl c.R 12 2)) := hyd (by rw [← cat_append]; rfl)
              have HS0 : Hid (Wsr w _ c _ (cat (nums c 5) ++ cat (fl c.S 0 1))) := hyd (by rw [show cat (fl c.S 0 1) = [] from rfl, List.append_nil, HE5.out]; exact hS)
              clear hS HE5
              go_wp2_with fail
              go_loopw [5, 11] (fun s t wr => ∃ k : Nat, k ≤ 12 ∧ t = .int .i64 k ∧ Wsr w wr c s (cat (nums c 5) ++ cat (fl c.S k 1))) (fun _ t _ => 12 - (intOf t).toNat)
              case atStart => exact ⟨0, by decide, rfl, HS0.out⟩
              case round =>
                clear HS0
                obtain ⟨k, hk, rfl, hS⟩ := hrel
                by_cases hlt : k < 12
                · have hlt' : (k : Int) < 12 := by omega
                  have hkb : (0 : Int) ≤ (k : Int) := by omega
                  have k1 := hS.ck.S k hlt
                  have hz := HN.out.S k hlt
                  rw [← u6_of hz.1 (by omega)] at k1
                  have hx : u6 (c.S k) < 256 := by have := u6_of hz.1 (by omega); omega
                  have HE : Hid (cat (nums c 5) ++ cat (fl c.S (k + 1) 1) = cat (nums c 5) ++ cat (fl c.S k 1) ++ [u6 (c.S k)]) := hyd (by rw [fl_succ, cat_snoc, bts1 _ hx, List.append_assoc])
                  have HLn : Hid ((cat (nums c 5) ++ cat (fl c.S k 1)).length = 152 + k) := hyd (by rw [List.length_append, cat_length, cat_length, tot_fl, (tot_nums c).2.2.2.2.1]; omega)
                  have hs2 := hS.size
                  have HS2 := hyd (hS.pure ((Chg.refl _ _).alloc (.cells #[.int .u8 ((u6 (c.S k) : Nat) : Int)] 5)))
                  have HA2 := hyd (one_at wr (u6 (c.S k)))
                  clear hS hz
                  generalize u6 (c.S k) = x at *
                  go_wp2_with (at_builtin; refine wpList_app rfl (.tmp 70) (.tmp 76) rfl (w.heap.size + 1) rfl HS2.out.own _ 0 1 1 rfl [x] rfl HA2.out (by rw [HLn.out]; omega) (by simp; omega) ?_)
                  intro v' w3 O3 C3
                  have HS3 := hyd (HS2.out.app O3 C3)
                  clear O3 C3 HS2 HA2
                  go_wp2
                  refine ⟨⟨_, _, _, _, _, _, _, _, _, _, _, _, _, _, ?hi, rfl⟩, by simp [intOf]; omega⟩
                  refine ⟨k + 1, by omega, by go_num, ?_⟩
                  rw [HE.out]; exact HS3.out
                · have e : k = 12 := by omega
                  subst e
                  have hs2 := hS.size
                  have HLn : Hid ((cat (nums c 5) ++ cat (fl c.S 12 1)).length = 164) := hyd (by rw [List.length_append, cat_length, cat_length, tot_fl, (tot_nums c).2.2.2.2.1])
                  have HE : Hid (cat (nums c 5) ++ cat (fl c.S 12 1) ++ List.replicate 10 0 = wrL c) := hyd (by
                    unfold wrL rowZ
                    rw [(tot_nums c).2.2.2.2.2, ← cat_append]; rfl)
                  have HS2 := hyd hS
                  clear hS
                  go_wp2_with (at_builtin; refine wpList_app0 rfl (.tmp 78) _ rfl (w.heap.size + 1) rfl HS2.out.own rfl (by rw [HLn.out]; decide) (by rw [HLn.out]; decide) hs2 (wrL c) HE.out ?_)
                  intro v' w3 O3 C3
                  have hS3 := HS2.out.app O3 C3
                  have HS3 := hyd hS3
                  clear O3 C3 HS2 hS3
                  go_wp2
                  go_ret2
                  exact ⟨_, rfl, HS3.out.own.mono (fun k hk => by have := (HS3.out.own.block hk).1; omega), HS3.out.chg⟩
end Go.Proofs.Ytipeldekiloanaa
