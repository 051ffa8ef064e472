/-
  PoolRound, walked. Condition: the numbers lie in memory.
-/
import Derived.Test.YtjgibllcfhblnaaRnd
namespace Go.Proofs.Ytjgibllcfhblnaa
set_option maxRecDepth 100000
open Go.RowKit

set_option maxHeartbeats 16000000 in
theorem round_walk (a : Option Addr) (len cap : Nat) (V : Nat → Int) (t : Int) (ht1 : -9223372036854775808 ≤ t) (ht2 : t ≤ 9223372036854775807) (w : World) (hV : IsInts w a len V) (hlen : len < 9223372036854775808) :
    Calls Try.prog 5 #[.slice a len cap, .int .i64 t] w fun e w' => e = .returned (.bool true) ∧ Below w.heap.size w w' := by
  have HV := hyd hV
  have q1 := neq_nil
  clear hV
  go_enter Try.func5, Try.ntmps5
  go_wp2_with fail
  refine (up_any _).mono ?_
  rintro x w1 ⟨rfl, G1⟩
  have HG1 := hyd G1
  clear G1
  go_wp2_with fail
  refine (new_any w1).mono ?_
  rintro x w2 ⟨rfl, K2, G2⟩
  obtain ⟨p, HP⟩ : ∃ p, Hid (p = w1.heap.size) := ⟨_, rfl⟩
  rw [← HP.out] at K2
  rw [← HP.out]
  have HK2 := hyd K2
  have HG2 := hyd (HG1.out.trans G2)
  have HLP : Hid (w.heap.size ≤ p) := by show _ ≤ _; rw [HP.out]; exact HG1.out.size
  clear K2 G2 HG1 HP
  go_wp2_with (refine wpList_alloc_row rfl 44 rfl w2.heap.size rfl zero44 ?_)
  intro w3 K3 G3 S3
  obtain ⟨u, HU⟩ : ∃ u, Hid (u = w2.heap.size) := ⟨_, rfl⟩
  rw [← HU.out] at K3
  rw [← HU.out]
  have HT := hyd (show Ful w w3 p u (fun _ => 0) (fun _ => false) 0 from ⟨HK2.out.chg G3 (fun f => f), K3, fun k _ => rfl, rfl, Nat.le_of_eq rfl, HLP.out, by rw [HU.out]; exact HG2.out.size, by rw [HU.out]; exact Nat.ne_of_lt HK2.out.lt, HG2.out.trans G3⟩)
  clear K3 G3 S3 HK2 HG2 HLP HU
  go_wp2_with fail
  go_loopg [8] 9 (fun kx s8 wr => ∃ (i : Nat) (F : Nat → Int) (U : Nat → Bool), s8 = .int .i64 i ∧ i ≤ 9 ∧ i ≤ len ∧ 9 - i ≤ kx ∧ Hid (Ful w wr p u F U i))
  case atStart => exact ⟨0, _, _, rfl, by omega, by omega, by omega, HT⟩
  case round =>
  clear HT
  obtain ⟨i, F, U, rfl, hi9, hin, hkx, HT⟩ := hrel
  by_cases hlt : i < len ∧ i < 9
  · obtain ⟨hl1, hl2⟩ := hlt
    have hltz : (i : Int) < (len : Int) := by omega
    have hltz2 : (i : Int) < 9 := by omega
    obtain ⟨hok, hc⟩ := HV.out
    rcases hc with hc | ⟨qa, oa, rfl, hqa, hc⟩
    · omega
    have x0 := (HT.out.chg.cell hqa (fun f => f) (oa + i)).trans (hc i hl1)
    obtain ⟨v1, v2⟩ := hok i hl1
    clear hok hc hqa
    generalize V i = v at *
    go_wp2_with fail
    refine (pick_fn v v1 v2 12 (by omega) (by omega) _).mono ?_
    rintro x w4 ⟨rfl, rfl⟩
    have hm := pkN_lt v 12 (by omega)
    generalize pkN v 12 = m at *
    have hmz : (m : Int) < 12 := by omega
    obtain ⟨cu, fu⟩ := HT.out.used.cell m hm
    have HK5 := hyd (HT.out.used.set m true)
    have HG5 : Hid (Chg (· = u) w4 (w4.setCell ⟨u, m, none⟩ (.bool true))) := (Chg.refl (· = u) _).setCell (Or.inl rfl) _ _
    have HP5 := hyd (HT.out.pool.chg HG5.out HT.out.npu)
    have HF : Hid (¬ (F m = 3 ∧ (2 : Int) ≠ 3)) := by
      show ¬ _
      rw [HT.out.val m hm]
      cases U m <;> simp
    go_wp2_with fail
    refine (set_yes _ p F HP5.out m 2 hm (by omega) (by omega) HF.out).mono ?_
    rintro x w6 ⟨rfl, K6, G6⟩
    have HT6 := hyd (HT.out.more hm HK5.out HG5.out K6 G6)
    clear K6 G6 HF HP5 HG5 HK5 cu fu x0 HT
    go_wp2
    go_roundg (9 - (i + 1))
    case measure => omega
    case rel => exact ⟨i + 1, _, _, by simp, by omega, by omega, Nat.le_refl _, HT6⟩
  · have hend : ((i : Int) < (len : Int) ∧ ¬ (i : Int) < 9) ∨ ¬ (i : Int) < (len : Int) := by omega
    rcases hend with ⟨h1, h2⟩ | h1
    · skip
      go_wp2_with (refine wpList_alloc_row rfl 45 rfl wr.heap.size rfl zero45 ?_)
      intro w3 K3 G3 S3
      obtain ⟨z, HZ⟩ : ∃ z, Hid (z = wr.heap.size) := ⟨_, rfl⟩
      rw [← HZ.out] at K3
      rw [← HZ.out]
      have HR := hyd (HT.out.start (by omega) HZ.out K3 G3)
      clear K3 G3 S3 HT HZ HV
      go_wp2_with fail
      refine (pick_fn t ht1 ht2 60 (by omega) (by omega) _).mono ?_
      rintro x w3 ⟨rfl, rfl⟩
      have hn60 := pkN_lt t 60 (by omega)
      generalize pkN t 60 = n at *
      go_wp2_with fail
      go_loopg [12] 60 (fun kx s12 wr => ∃ (i : Nat) (F : Nat → Int) (Z : Nat → Int) (f : Nat), s12 = .int .i64 i ∧ 1 ≤ i ∧ i ≤ n + 2 ∧ n + 2 - i ≤ kx ∧ Hid (Rds w wr p u z F U Z f i))
      case atStart => exact ⟨1, _, _, _, rfl, by omega, by omega, by omega, HR⟩
      case round =>
        clear HR
        clear hi9 hin hkx hlt
        obtain ⟨i, F, Z, f, rfl, hi1, hin, hkx, HR⟩ := hrel
        by_cases hlt : i ≤ n + 1
        · have hltz : (i : Int) ≤ 1 + (n : Int) := by omega
          obtain ⟨j, m, hj, hm, hmj, hF0, hUm, hno, hmin⟩ := HR.out.next
          have HTK := hyd (take_yes _ p F HR.out.pool f HR.out.f12 HR.out.from_ j hj m hmj hF0 hno)
          have HF0 := hyd hF0
          have HUM := hyd hUm
          have HMIN := hyd hmin
          clear hj hmj hF0 hUm hno hmin
          go_wp2_with fail
          refine HTK.out.mono ?_
          rintro x w5 ⟨rfl, K5, G5⟩
          have hmz : ¬ (m : Int) < 0 := by omega
          have hmz2 : ¬ (m : Int) ≥ 12 := by omega
          have hmz3 : (m : Int) < 12 := by omega
          have HP5 := hyd K5
          have HG5 := hyd G5
          have HU5 := hyd (HR.out.used.chg G5 (fun e => HR.out.npu e.symm))
          have HZ5 := hyd (HR.out.since.chg G5 (fun e => HR.out.npz e.symm))
          obtain ⟨cu, -⟩ := HU5.out.cell m hm
          rw [HUM.out] at cu
          obtain ⟨cz, fz⟩ := HZ5.out.cell m hm
          clear K5 G5 HTK
          by_cases hz : 0 < Z m
          · go_wp2_with fail
            clear cu cz fz
            go_loopg [15] 12 (fun kx s15 wx => ∃ k : Nat, s15 = .int .i64 k ∧ k ≤ 12 ∧ 12 - k ≤ kx ∧ Hid (BB wx u 44 12 U) ∧ Hid (IB wx z 45 12 Z) ∧ Hid (IB wx p 48 13 (upd (upd F m 1) 12 ((m + 1) % 12 : Nat))) ∧ Hid (Chg (· = p) wr wx))
            case atStart => exact ⟨0, rfl, by omega, by omega, HU5, HZ5, HP5, HG5⟩
            case round =>
              clear HU5 HZ5 HP5 HG5
              obtain ⟨k, rfl, hkn, hkk, HU6, HZ6, HP6, HG6⟩ := hrel
              by_cases hk : k < 12
              · have hkz : (k : Int) < 12 := by omega
                obtain ⟨c1, -⟩ := HU6.out.cell k hk
                obtain ⟨c2, -⟩ := HZ6.out.cell k hk
                obtain ⟨c3, -⟩ := HZ6.out.cell m hm
                cases hU : U k with
                | true =>
                  rw [hU] at c1
                  go_wp2_with fail
                  go_quiet (fail)
                  go_wp2
                  go_roundg (12 - (k + 1))
                  case measure => omega
                  case rel => exact ⟨k + 1, by simp, by omega, Nat.le_refl _, HU6.out.chg ((Chg.refl (fun _ => False) _).drewN _) (fun f => f), HZ6.out.chg ((Chg.refl (fun _ => False) _).drewN _) (fun f => f), HP6.out.chg ((Chg.refl (fun _ => False) _).drewN _) (fun f => f), HG6.out.drewN _⟩
                | false =>
                  rw [hU] at c1
                  by_cases hkm : k = m
                  · subst hkm
                    clear c2
                    go_wp2_with fail
                    go_quiet (fail)
                    go_wp2
                    go_roundg (12 - (k + 1))
                    case measure => omega
                    case rel => exact ⟨k + 1, by simp, by omega, Nat.le_refl _, HU6.out.chg ((Chg.refl (fun _ => False) _).drewN _) (fun f => f), HZ6.out.chg ((Chg.refl (fun _ => False) _).drewN _) (fun f => f), HP6.out.chg ((Chg.refl (fun _ => False) _).drewN _) (fun f => f), HG6.out.drewN _⟩
                  · have hb : ((k : Int) == (m : Int)) = false := by simp only [beq_eq_false_iff_ne]; omega
                    have hb2 : ((k : Int) != (m : Int)) = true := by simp only [bne_iff_ne]; omega
                    have hb3 : decide (k = m) = false := decide_eq_false hkm
                    have hb4 : (k == m) = false := by simp only [beq_eq_false_iff_ne]; exact hkm
                    have hb5 : decide ((k : Int) = (m : Int)) = false := decide_eq_false (by omega)
                    have hzz : decide (Z k ≤ Z m) = false := by
                      have h1 := HR.out.ord m k hm hk HUM.out hU (HMIN.out k hk hU hkm)
                      exact decide_eq_false (by omega)
                    clear hU hkm
                    go_wp2_with fail
                    go_quiet (fail)
                    go_wp2
                    go_roundg (12 - (k + 1))
                    case measure => omega
                    case rel => exact ⟨k + 1, by simp, by omega, Nat.le_refl _, HU6.out.chg ((Chg.refl (fun _ => False) _).drewN _) (fun f => f), HZ6.out.chg ((Chg.refl (fun _ => False) _).drewN _) (fun f => f), HP6.out.chg ((Chg.refl (fun _ => False) _).drewN _) (fun f => f), HG6.out.drewN _⟩
              · have hkz : ¬ (k : Int) < 12 := by omega
                obtain ⟨cz, fz⟩ := HZ6.out.cell m hm
                have HZ5 := hyd HZ6.out
                have HP5 := hyd HP6.out
                have HG5 := hyd HG6.out
                clear HU6 HZ6 HP6 HG6
                have HK6 := hyd (HZ5.out.set m (i : Nat))
                have HG6 : Hid (Chg (· = z) wr (wr.setCell ⟨z, m, none⟩ (.int .i64 (i : Nat)))) := (Chg.refl (· = z) _).setCell (Or.inl rfl) _ _
                have HP6 := hyd (HP5.out.chg HG6.out HR.out.npz)
                have HF6 : Hid (¬ (upd (upd F m 1) 12 ((m + 1) % 12 : Nat) m = 3 ∧ (0 : Int) ≠ 3)) := by
                  show ¬ _
                  unfold upd
                  rw [if_neg (by omega), if_pos rfl]
                  omega
                go_wp2_with fail
                refine (set_yes _ p _ HP6.out m 0 hm (by omega) (by omega) HF6.out).mono ?_
                rintro x w7 ⟨rfl, K7, G7⟩
                have HR7 := hyd (HR.out.turn hm HF0.out HMIN.out HG5.out HK6.out HG6.out K7 G7)
                clear K7 G7 HF6 HP6 HG6 HK6 HG5 HP5 HZ5 HR HMIN HF0 cz fz
                go_wp2
                go_roundg (n + 2 - (i + 1))
                case measure => omega
                case rel => exact ⟨i + 1, _, _, _, by simp, by omega, by omega, Nat.le_refl _, HR7⟩
          · have hz0 : ¬ Z m > 0 := by omega
            have HK6 := hyd (HZ5.out.set m (i : Nat))
            have HG6 : Hid (Chg (· = z) w5 (w5.setCell ⟨z, m, none⟩ (.int .i64 (i : Nat)))) := (Chg.refl (· = z) _).setCell (Or.inl rfl) _ _
            have HP6 := hyd (HP5.out.chg HG6.out HR.out.npz)
            have HF6 : Hid (¬ (upd (upd F m 1) 12 ((m + 1) % 12 : Nat) m = 3 ∧ (0 : Int) ≠ 3)) := by
              show ¬ _
              unfold upd
              rw [if_neg (by omega), if_pos rfl]
              omega
            go_wp2_with fail
            refine (set_yes _ p _ HP6.out m 0 hm (by omega) (by omega) HF6.out).mono ?_
            rintro x w7 ⟨rfl, K7, G7⟩
            have HR7 := hyd (HR.out.turn hm HF0.out HMIN.out HG5.out HK6.out HG6.out K7 G7)
            clear K7 G7 HF6 HP6 HG6 HK6 HG5 HP5 HZ5 HR HMIN HF0 cz fz
            go_wp2
            go_roundg (n + 2 - (i + 1))
            case measure => omega
            case rel => exact ⟨i + 1, _, _, _, by simp, by omega, by omega, Nat.le_refl _, HR7⟩
        · have hltz : ¬ (i : Int) ≤ 1 + (n : Int) := by omega
          go_wp2
          go_ret
          exact ⟨rfl, HR.out.chg.below (fun _ h => h.elim) (Nat.le_refl _)⟩
    · skip
      go_wp2_with (refine wpList_alloc_row rfl 45 rfl wr.heap.size rfl zero45 ?_)
      intro w3 K3 G3 S3
      obtain ⟨z, HZ⟩ : ∃ z, Hid (z = wr.heap.size) := ⟨_, rfl⟩
      rw [← HZ.out] at K3
      rw [← HZ.out]
      have HR := hyd (HT.out.start (by omega) HZ.out K3 G3)
      clear K3 G3 S3 HT HZ HV
      go_wp2_with fail
      refine (pick_fn t ht1 ht2 60 (by omega) (by omega) _).mono ?_
      rintro x w3 ⟨rfl, rfl⟩
      have hn60 := pkN_lt t 60 (by omega)
      generalize pkN t 60 = n at *
      go_wp2_with fail
      go_loopg [12] 60 (fun kx s12 wr => ∃ (i : Nat) (F : Nat → Int) (Z : Nat → Int) (f : Nat), s12 = .int .i64 i ∧ 1 ≤ i ∧ i ≤ n + 2 ∧ n + 2 - i ≤ kx ∧ Hid (Rds w wr p u z F U Z f i))
      case atStart => exact ⟨1, _, _, _, rfl, by omega, by omega, by omega, HR⟩
      case round =>
        clear HR
        clear hi9 hin hkx hlt
        obtain ⟨i, F, Z, f, rfl, hi1, hin, hkx, HR⟩ := hrel
        by_cases hlt : i ≤ n + 1
        · have hltz : (i : Int) ≤ 1 + (n : Int) := by omega
          obtain ⟨j, m, hj, hm, hmj, hF0, hUm, hno, hmin⟩ := HR.out.next
          have HTK := hyd (take_yes _ p F HR.out.pool f HR.out.f12 HR.out.from_ j hj m hmj hF0 hno)
          have HF0 := hyd hF0
          have HUM := hyd hUm
          have HMIN := hyd hmin
          clear hj hmj hF0 hUm hno hmin
          go_wp2_with fail
          refine HTK.out.mono ?_
          rintro x w5 ⟨rfl, K5, G5⟩
          have hmz : ¬ (m : Int) < 0 := by omega
          have hmz2 : ¬ (m : Int) ≥ 12 := by omega
          have hmz3 : (m : Int) < 12 := by omega
          have HP5 := hyd K5
          have HG5 := hyd G5
          have HU5 := hyd (HR.out.used.chg G5 (fun e => HR.out.npu e.symm))
          have HZ5 := hyd (HR.out.since.chg G5 (fun e => HR.out.npz e.symm))
          obtain ⟨cu, -⟩ := HU5.out.cell m hm
          rw [HUM.out] at cu
          obtain ⟨cz, fz⟩ := HZ5.out.cell m hm
          clear K5 G5 HTK
          by_cases hz : 0 < Z m
          · go_wp2_with fail
            clear cu cz fz
            go_loopg [15] 12 (fun kx s15 wx => ∃ k : Nat, s15 = .int .i64 k ∧ k ≤ 12 ∧ 12 - k ≤ kx ∧ Hid (BB wx u 44 12 U) ∧ Hid (IB wx z 45 12 Z) ∧ Hid (IB wx p 48 13 (upd (upd F m 1) 12 ((m + 1) % 12 : Nat))) ∧ Hid (Chg (· = p) wr wx))
            case atStart => exact ⟨0, rfl, by omega, by omega, HU5, HZ5, HP5, HG5⟩
            case round =>
              clear HU5 HZ5 HP5 HG5
              obtain ⟨k, rfl, hkn, hkk, HU6, HZ6, HP6, HG6⟩ := hrel
              by_cases hk : k < 12
              · have hkz : (k : Int) < 12 := by omega
                obtain ⟨c1, -⟩ := HU6.out.cell k hk
                obtain ⟨c2, -⟩ := HZ6.out.cell k hk
                obtain ⟨c3, -⟩ := HZ6.out.cell m hm
                cases hU : U k with
                | true =>
                  rw [hU] at c1
                  go_wp2_with fail
                  go_quiet (fail)
                  go_wp2
                  go_roundg (12 - (k + 1))
                  case measure => omega
                  case rel => exact ⟨k + 1, by simp, by omega, Nat.le_refl _, HU6.out.chg ((Chg.refl (fun _ => False) _).drewN _) (fun f => f), HZ6.out.chg ((Chg.refl (fun _ => False) _).drewN _) (fun f => f), HP6.out.chg ((Chg.refl (fun _ => False) _).drewN _) (fun f => f), HG6.out.drewN _⟩
                | false =>
                  rw [hU] at c1
                  by_cases hkm : k = m
                  · subst hkm
                    clear c2
                    go_wp2_with fail
                    go_quiet (fail)
                    go_wp2
                    go_roundg (12 - (k + 1))
                    case measure => omega
                    case rel => exact ⟨k + 1, by simp, by omega, Nat.le_refl _, HU6.out.chg ((Chg.refl (fun _ => False) _).drewN _) (fun f => f), HZ6.out.chg ((Chg.refl (fun _ => False) _).drewN _) (fun f => f), HP6.out.chg ((Chg.refl (fun _ => False) _).drewN _) (fun f => f), HG6.out.drewN _⟩
                  · have hb : ((k : Int) == (m : Int)) = false := by simp only [beq_eq_false_iff_ne]; omega
                    have hb2 : ((k : Int) != (m : Int)) = true := by simp only [bne_iff_ne]; omega
                    have hb3 : decide (k = m) = false := decide_eq_false hkm
                    have hb4 : (k == m) = false := by simp only [beq_eq_false_iff_ne]; exact hkm
                    have hb5 : decide ((k : Int) = (m : Int)) = false := decide_eq_false (by omega)
                    have hzz : decide (Z k ≤ Z m) = false := by
                      have h1 := HR.out.ord m k hm hk HUM.out hU (HMIN.out k hk hU hkm)
                      exact decide_eq_false (by omega)
                    clear hU hkm
                    go_wp2_with fail
                    go_quiet (fail)
                    go_wp2
                    go_roundg (12 - (k + 1))
                    case measure => omega
                    case rel => exact ⟨k + 1, by simp, by omega, Nat.le_refl _, HU6.out.chg ((Chg.refl (fun _ => False) _).drewN _) (fun f => f), HZ6.out.chg ((Chg.refl (fun _ => False) _).drewN _) (fun f => f), HP6.out.chg ((Chg.refl (fun _ => False) _).drewN _) (fun f => f), HG6.out.drewN _⟩
              · have hkz : ¬ (k : Int) < 12 := by omega
                obtain ⟨cz, fz⟩ := HZ6.out.cell m hm
                have HZ5 := hyd HZ6.out
                have HP5 := hyd HP6.out
                have HG5 := hyd HG6.out
                clear HU6 HZ6 HP6 HG6
                have HK6 := hyd (HZ5.out.set m (i : Nat))
                have HG6 : Hid (Chg (· = z) wr (wr.setCell ⟨z, m, none⟩ (.int .i64 (i : Nat)))) := (Chg.refl (· = z) _).setCell (Or.inl rfl) _ _
                have HP6 := hyd (HP5.out.chg HG6.out HR.out.npz)
                have HF6 : Hid (¬ (upd (upd F m 1) 12 ((m + 1) % 12 : Nat) m = 3 ∧ (0 : Int) ≠ 3)) := by
                  show ¬ _
                  unfold upd
                  rw [if_neg (by omega), if_pos rfl]
                  omega
                go_wp2_with fail
                refine (set_yes _ p _ HP6.out m 0 hm (by omega) (by omega) HF6.out).mono ?_
                rintro x w7 ⟨rfl, K7, G7⟩
                have HR7 := hyd (HR.out.turn hm HF0.out HMIN.out HG5.out HK6.out HG6.out K7 G7)
                clear K7 G7 HF6 HP6 HG6 HK6 HG5 HP5 HZ5 HR HMIN HF0 cz fz
                go_wp2
                go_roundg (n + 2 - (i + 1))
                case measure => omega
                case rel => exact ⟨i + 1, _, _, _, by simp, by omega, by omega, Nat.le_refl _, HR7⟩
          · have hz0 : ¬ Z m > 0 := by omega
            have HK6 := hyd (HZ5.out.set m (i : Nat))
            have HG6 : Hid (Chg (· = z) w5 (w5.setCell ⟨z, m, none⟩ (.int .i64 (i : Nat)))) := (Chg.refl (· = z) _).setCell (Or.inl rfl) _ _
            have HP6 := hyd (HP5.out.chg HG6.out HR.out.npz)
            have HF6 : Hid (¬ (upd (upd F m 1) 12 ((m + 1) % 12 : Nat) m = 3 ∧ (0 : Int) ≠ 3)) := by
              show ¬ _
              unfold upd
              rw [if_neg (by omega), if_pos rfl]
              omega
            go_wp2_with fail
            refine (set_yes _ p _ HP6.out m 0 hm (by omega) (by omega) HF6.out).mono ?_
            rintro x w7 ⟨rfl, K7, G7⟩
            have HR7 := hyd (HR.out.turn hm HF0.out HMIN.out HG5.out HK6.out HG6.out K7 G7)
            clear K7 G7 HF6 HP6 HG6 HK6 HG5 HP5 HZ5 HR HMIN HF0 cz fz
            go_wp2
            go_roundg (n + 2 - (i + 1))
            case measure => omega
            case rel => exact ⟨i + 1, _, _, _, by simp, by omega, by omega, Nat.le_refl _, HR7⟩
        · have hltz : ¬ (i : Int) ≤ 1 + (n : Int) := by omega
          go_wp2
          go_ret
          exact ⟨rfl, HR.out.chg.below (fun _ h => h.elim) (Nat.le_refl _)⟩
end Go.Proofs.Ytjgibllcfhblnaa
