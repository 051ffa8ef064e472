/-
  PoolKeeps, walked. Condition: the script lies in memory.
-/
import Derived.Test.YtjgibllcfhblnaaKeep
import Derived.Test.YtjgibllcfhblnaaPlays
import Derived.Deep.CutRange
namespace Go.Proofs.Ytjgibllcfhblnaa
set_option maxRecDepth 100000
open Go.RowKit

theorem size30 : (Try.prog.info? 30).map (·.size) = some 3 := by kernel_rfl
theorem wpList_store_op {ops : Array Oper} {rest : List Oper} {o : Oper} {a : Act} {w : World} {Q : Exit → Act → World → Prop} (hgd : o.guard = none) (x y : Operand) (ho : o.op = .store 30 x y)
    (g : Nat) (hx : a.eval x = .pointer (some ⟨g, 0, none⟩)) {K A B : Int} (hy : a.eval y = .agg #[.int .i64 K, .int .i64 A, .int .i64 B]) {F' : Nat → Int} (hg : IB w g 30 3 F')
    (h : ∀ w', IB w' g 30 3 (op3 K A B) → Chg (· = g) w w' → wpList Try.prog ops Q rest (a.put o.dst undef) w') : wpList Try.prog ops Q (o :: rest) a w :=
  wpList_store_row hgd 30 x y ho g _ hx hy 30 _ hg size30 (by simp [ints_length]) (all_oneCell_toArray (ints_one (op3 K A B) 3)) (h _ (IB.row hg (op3 K A B)) (chg_row _ _ _))
/-- The table stands. -/
structure Kps (w0 w : World) (p : Nat) (F : Nat → Int) (f : Nat) : Prop where
  pool : IB w p 48 13 F
  vals : ∀ i, i < 12 → 0 ≤ F i ∧ F i ≤ 3
  from_ : F 12 = f
  f12 : f < 12
  lp : w0.heap.size ≤ p
  chg : Chg (fun _ => False) w0 w
set_option maxHeartbeats 16000000 in
theorem keeps_walk (a : Option Addr) (len cap : Nat) (O : Nat → Opd) (w : World) (hO : IsOps w a len O) (hlen : len < 9223372036854775808) :
    Calls Try.prog 4 #[.slice a len cap] w fun e w' => e = .returned (.bool true) ∧ Below w.heap.size w w' := by
  have HO := hyd hO
  have q1 := eql_nil
  have q2 := eql_c_nil
  have q3 := neq_nil
  clear hO
  go_enter Try.func4, Try.ntmps4
  go_wp2_with fail
  refine (up_any _).mono ?_
  rintro x w1 ⟨rfl, G1⟩
  have HG1 := hyd G1
  clear G1
  go_wp2_with fail
  refine (new_any w1).mono ?_
  rintro x w2 ⟨rfl, K2, G2⟩
  obtain ⟨p, HP⟩ : ∃ p, Hid (p = w1.heap.size) := ⟨_, rfl⟩
  rw [← HP.out] at K2
  rw [← HP.out]
  have HT := hyd (show Kps w w2 p _ 0 from ⟨K2, fun i hi => ⟨by omega, by omega⟩, rfl, by omega, by rw [HP.out]; exact HG1.out.size, HG1.out.trans G2⟩)
  clear K2 G2 HG1 HP
  go_wp2_with fail
  go_loopg [5, 6] len (fun kx s5 s6 wr => ∃ (i : Nat) (F : Nat → Int) (f : Nat), s6 = .int .i64 i ∧ s5 = .int .i64 (cnt F 3 12 : Nat) ∧ i ≤ len ∧ len - i ≤ kx ∧ Hid (Kps w wr p F f))
  case atStart => exact ⟨0, _, _, rfl, rfl, by omega, by omega, HT⟩
  case round =>
  clear HT
  obtain ⟨i, F, f, rfl, rfl, hin, hkx, HT⟩ := hrel
  by_cases hlt : i < len
  · have hltz : (i : Int) < (len : Int) := by omega
    obtain ⟨hok, hc⟩ := HO.out
    rcases hc with hc | ⟨qa, oa, rfl, hqa, hc⟩
    · omega
    have HX := hyd ((hc i hlt).chg HT.out.chg hqa)
    have HX0 : Hid (qa < wr.heap.size) := Nat.lt_of_lt_of_le hqa HT.out.chg.size
    obtain ⟨⟨ok1, ok2⟩, ⟨oa1, oa2⟩, ⟨ob1, ob2⟩⟩ := hok i hlt
    clear hok hc hqa
    generalize O i = oi at *
    obtain ⟨K, A, B⟩ := oi
    go_wp2_with fail
    refine (states_any wr p F HT.out.pool).mono ?_
    rintro x w3 ⟨rfl, K3, G3⟩
    obtain ⟨s1, HS1⟩ : ∃ s1, Hid (s1 = wr.heap.size) := ⟨_, rfl⟩
    rw [← HS1.out] at K3
    rw [← HS1.out]
    have HK3 := hyd K3
    have HG3 := hyd G3
    have HP3 := hyd (HT.out.pool.chg G3 (fun f => f))
    have HX3 := hyd (HX.out.chg G3 HX0.out)
    clear K3 G3
    obtain ⟨x0, x1, x2⟩ := HX3.out
    go_wp2_with (first | (go_at_call 12; refine (bound_any _ p F HP3.out).mono ?_; rintro x w4 ⟨rfl, rfl⟩) | (refine wpList_alloc_row rfl 30 rfl w4.heap.size rfl zero30 ?_))
    intro w5 K5 G5 S5
    obtain ⟨o, HOO⟩ : ∃ o, Hid (o = w4.heap.size) := ⟨_, rfl⟩
    rw [← HOO.out] at K5
    rw [← HOO.out]
    have HK5 := hyd (show IB w5 o 30 3 (fun _ => 0) from K5)
    have HG5 := hyd G5
    clear K5 G5 S5
    go_wp2_with (refine wpList_store_op rfl (.tmp 9) (.tmp 38) rfl o rfl rfl HK5.out ?_)
    intro w6 K6 G6
    have G46 := HG5.out.trans' G6 (fun k hk e => by rw [e, HOO.out] at hk; exact absurd hk (Nat.lt_irrefl _))
    have hpo : p ≠ o := by rw [HOO.out]; exact Nat.ne_of_lt HP3.out.lt
    have hso : s1 ≠ o := by rw [HOO.out]; exact Nat.ne_of_lt HK3.out.lt
    have hps : s1 ≠ p := by rw [HS1.out]; exact Nat.ne_of_gt HT.out.pool.lt
    have HP6 := hyd (HP3.out.chg G46 (fun f => f))
    have HW6 := hyd (HK3.out.chg G46 (fun f => f))
    have HG6 := hyd ((HT.out.chg.trans HG3.out).trans G46)
    obtain ⟨o0, -⟩ := K6.cell 0 (by omega)
    obtain ⟨o1, -⟩ := K6.cell 1 (by omega)
    obtain ⟨o2, -⟩ := K6.cell 2 (by omega)
    have HO6 := hyd K6
    clear K6 G6 G46 HK5 HG5 HX HX0 HX3 HP3 HK3 HG3 x0 x1 x2
    have hpk := pkN_lt K 2 (by omega)
    go_wp2_with fail
    refine (pick_fn K ok1 ok2 2 (by omega) (by omega) _).mono ?_
    rintro x w6 ⟨rfl, rfl⟩
    go_upto_if 42 with fail
    go_cut [10, 11, 12, 13] from 25 to 170 (fun s10 s11 s12 s13 wx => ∃ F', Hid (Rel F F') ∧ Hid (IB wx p 48 13 F') ∧ Hid (IB wx s1 3 12 F) ∧ Hid (Chg (fun _ => False) w wx))
    case first =>
      have hc : pkN K 2 = 0 ∨ pkN K 2 = 1 := by omega
      clear hpk
      rcases hc with hc | hc
      · rw [hc]
        clear hc o0
        go_wp2_with fail
        go_region_held3 (fun wx => wx.cell? ⟨o, 1, none⟩ = some (.int .i64 A) ∧ wx.cell? ⟨o, 2, none⟩ = some (.int .i64 B))
          (first | exact ⟨o1, o2⟩ | exact ⟨z1, z2⟩)
          (first
            | (go_at_call 13; refine (pick_z _ _ _ (by assumption) (by assumption) (by omega) (by omega)).mono ?_; rintro x wa ⟨rfl, rfl⟩)
            | (go_at_call 14; refine (set_v _ p F HP6.out.drew (pk A 12 : Nat) (pk B 4 : Nat)).mono ?_; rintro x w7 ⟨rfl, K7, G7⟩; have O7 := (HO6.out.chg (Chg.refl (fun _ => False) w6).drew (fun f => f)).chg G7 hpo.symm; obtain ⟨z1, -⟩ := O7.cell 1 (by omega); obtain ⟨z2, -⟩ := O7.cell 2 (by omega); have HP7 := hyd K7; have HW7 := hyd (HW6.out.drew.chg G7 hps); have HG7 := hyd ((HG6.out.drew).trans' G7 (fun k hk e => by have := HT.out.lp; omega)); clear K7 G7 O7))
        have HR0 := hyd (Rel.set HT.out.vals HT.out.f12 HT.out.from_ (pk A 12 : Nat) (pk B 4 : Nat))
        obtain ⟨F', HF'⟩ : ∃ F', Hid (F' = setF F (pk A 12 : Nat) (pk B 4 : Nat)) := ⟨_, rfl⟩
        have HR : Hid (Rel F F') := by show Rel F F'; rw [HF'.out]; exact HR0.out
        rw [← HF'.out] at HP7
        clear HR0 HF' o1 o2 z1 z2 HO6 HP6 HW6 HG6
        go_wp2_with fail
        go_meet
        exact ⟨F', HR, HP7, HW7, HG7⟩
      · rw [hc]
        clear hc o0
        obtain ⟨c, m, hN, hcc, hm⟩ := nxt_any F f HT.out.f12
        rcases hN with ⟨rfl, j, hj, hmj, hF0, hno⟩ | ⟨rfl, rfl, hno⟩
        · have HN := hyd (⟨j, hj, hmj, hno⟩ : ∃ j, j < 12 ∧ m = (f + j) % 12 ∧ ∀ i, i < j → F ((f + i) % 12) ≠ 0)
          clear hj hmj hno hcc o1 o2 HO6
          go_wp2_with fail
          obtain ⟨j, hj, hmj, hno⟩ := HN.out
          refine (take_yes w6 p F HP6.out f HT.out.f12 HT.out.from_ j hj m hmj hF0 hno).mono ?_
          rintro x w7 ⟨rfl, K7, G7⟩
          have hmz : ¬ (m : Int) < 0 := by omega
          have hmz2 : ¬ (m : Int) ≥ 12 := by omega
          have hmz3 : (m : Int) < 12 := by omega
          have HW7 := hyd (HW6.out.chg G7 hps)
          have HG7 := hyd (HG6.out.trans' G7 (fun k hk e => by have := HT.out.lp; omega))
          obtain ⟨cw, -⟩ := HW7.out.cell m hm
          rw [hF0] at cw
          have HR0 := hyd (Rel.take HT.out.vals m hm hF0)
          obtain ⟨F', HF'⟩ : ∃ F', Hid (F' = upd (upd F m 1) 12 ((m + 1) % 12 : Nat)) := ⟨_, rfl⟩
          have HR : Hid (Rel F F') := by show Rel F F'; rw [HF'.out]; exact HR0.out
          have HM : Hid (F' m = 1) := by show F' m = 1; rw [HF'.out]; unfold upd; rw [if_neg (by omega), if_pos rfl]
          rw [← HF'.out] at K7
          have HP7 := hyd K7
          have ag := get_yes w7 p F' K7 m hm
          rw [HM.out] at ag
          clear HR0 HF' K7 G7 HP6 HW6 HG6 hj hmj hno HN
          go_wp2_with (go_at_call 16; refine ag.mono ?_; rintro x w7 ⟨rfl, rfl⟩)
          clear ag cw hF0
          go_wp2_with fail
          go_meet
          exact ⟨F', HR, HP7, HW7, HG7⟩
        · have HN := hyd hno
          clear hno hcc o1 o2 HO6
          go_wp2_with fail
          refine (take_no w6 p F HP6.out f HT.out.f12 HT.out.from_ HN.out).mono ?_
          rintro x w7 ⟨rfl, rfl⟩
          obtain ⟨F', HF'⟩ : ∃ F', Hid (F' = F) := ⟨_, rfl⟩
          have HR : Hid (Rel F F') := by show Rel F F'; rw [HF'.out]; exact Rel.none HT.out.vals HT.out.f12 HT.out.from_
          have HP7 : Hid (IB w7 p 48 13 F') := by show IB w7 p 48 13 F'; rw [HF'.out]; exact HP6.out
          have HW7 := hyd HW6.out
          have HG7 := hyd HG6.out
          clear HF' HP6 HW6 HG6 HN
          go_wp2_with fail
          go_meet
          exact ⟨F', HR, HP7, HW7, HG7⟩
    case rest =>
      clear o0 o1 o2 HO6 HP6 HW6 HG6 hpk
      obtain ⟨F', HR, HP7, HW7, HG7⟩ := hcut
      go_wp2_with fail
      refine (states_any wc p F' HP7.out).mono ?_
      rintro x w8 ⟨rfl, K8, G8⟩
      obtain ⟨s2, HS2⟩ : ∃ s2, Hid (s2 = wc.heap.size) := ⟨_, rfl⟩
      rw [← HS2.out] at K8
      rw [← HS2.out]
      have HK8 := hyd K8
      have HW8 := hyd (HW7.out.chg G8 (fun f => f))
      have HP8 := hyd (HP7.out.chg G8 (fun f => f))
      have HG8 := hyd (HG7.out.trans G8)
      clear K8 G8 HW7 HP7 HG7
      go_wp2_with fail
      go_loopg [15] 12 (fun kx s15 wx => ∃ k : Nat, s15 = .int .i64 k ∧ k ≤ 12 ∧ 12 - k ≤ kx ∧ wx = w8)
      case atStart => exact ⟨0, rfl, by omega, by omega, rfl⟩
      case round =>
        obtain ⟨k, rfl, hkn, hkk, rfl⟩ := hrel
        by_cases hk : k < 12
        · have hkz : (k : Int) < 12 := by omega
          obtain ⟨c1, -⟩ := HW8.out.cell k hk
          obtain ⟨c2, -⟩ := HK8.out.cell k hk
          by_cases h3 : F k = 3
          · rw [h3] at c1
            rw [HR.out.bad k hk h3] at c2
            clear h3
            go_wp2
            go_roundg (12 - (k + 1))
            case measure => omega
            case rel => exact ⟨k + 1, by simp, by omega, Nat.le_refl _, rfl⟩
          · have hb : (F k == 3) = false := by simp [h3]
            clear h3
            go_wp2
            go_roundg (12 - (k + 1))
            case measure => omega
            case rel => exact ⟨k + 1, by simp, by omega, Nat.le_refl _, rfl⟩
        · have hkz : ¬ (k : Int) < 12 := by omega
          have ac := count_any _ p F' HP8.out
          have ab := bound_any _ p F' HP8.out
          have aw := worn_any _ p F' HP8.out
          rw [show decide (2 < cnt F' 3 12) = decide (2 < ((cnt F' 3 12 : Nat) : Int)) from decide_eq_decide.2 (by omega)] at aw
          have hs := cnt_sum F' 12 HR.out.vals
          have l0 := cnt_le F' 0 12
          have l1 := cnt_le F' 1 12
          have l2 := cnt_le F' 2 12
          have l3 := cnt_le F' 3 12
          have l4 := cnt_le F 3 12
          have bl := bnd_lo F
          have hsb : (((cnt F' 0 12 : Nat) : Int) + ((cnt F' 1 12 : Nat) : Int) + ((cnt F' 2 12 : Nat) : Int) + ((cnt F' 3 12 : Nat) : Int)) = 12 := by omega
          have hbc := bnd_cases HR.out.cnt
          clear hs
          rcases hbc with ⟨e1, e2⟩ | ⟨e1, e2, e3⟩ | ⟨e1, e2, e3⟩
          · rw [e2] at ab
            have n1 : ¬ ((cnt F' 3 12 : Nat) : Int) < ((cnt F 3 12 : Nat) : Int) := by omega
            have n2 : (((cnt F' 3 12 : Nat) : Int) == ((cnt F 3 12 : Nat) : Int)) = true := by simp only [beq_iff_eq]; omega
            have n3 : (((cnt F' 3 12 : Nat) : Int) == ((cnt F 3 12 : Nat) : Int) + 1) = false := by simp only [beq_eq_false_iff_ne]; omega
            have n4 : (bnd F == bnd F) = true := by simp
            have n5 : ¬ bnd F < bnd F := by omega
            clear e1 e2
            go_wp2_with (first
              | (go_at_call 17; refine (ac _).mono ?_; rintro x wy ⟨rfl, rfl⟩)
              | (go_at_call 12; refine ab.mono ?_; rintro x wy ⟨rfl, rfl⟩)
              | (go_at_call 18; refine aw.mono ?_; rintro x wy ⟨rfl, rfl⟩))
            go_roundg (len - (i + 1))
            case measure => omega
            case rel =>
              obtain ⟨f', hf', hF12⟩ := HR.out.from_
              exact ⟨i + 1, F', f', by simp, rfl, by omega, Nat.le_refl _, ⟨HP8.out, HR.out.vals, hF12, hf', HT.out.lp, HG8.out⟩⟩
          · rw [e3] at ab
            have n1 : ¬ ((cnt F' 3 12 : Nat) : Int) < ((cnt F 3 12 : Nat) : Int) := by omega
            have n2 : (((cnt F' 3 12 : Nat) : Int) == ((cnt F 3 12 : Nat) : Int)) = false := by simp only [beq_eq_false_iff_ne]; omega
            have n3 : (((cnt F' 3 12 : Nat) : Int) == ((cnt F 3 12 : Nat) : Int) + 1) = true := by simp only [beq_iff_eq]; omega
            have n4 : (bnd F - 2 == bnd F - 2) = true := by simp
            have n5 : ¬ bnd F < bnd F - 2 := by omega
            clear e1 e3
            go_wp2_with (first
              | (go_at_call 17; refine (ac _).mono ?_; rintro x wy ⟨rfl, rfl⟩)
              | (go_at_call 12; refine ab.mono ?_; rintro x wy ⟨rfl, rfl⟩)
              | (go_at_call 18; refine aw.mono ?_; rintro x wy ⟨rfl, rfl⟩))
            go_roundg (len - (i + 1))
            case measure => omega
            case rel =>
              obtain ⟨f', hf', hF12⟩ := HR.out.from_
              exact ⟨i + 1, F', f', by simp, rfl, by omega, Nat.le_refl _, ⟨HP8.out, HR.out.vals, hF12, hf', HT.out.lp, HG8.out⟩⟩
          · have n1 : ¬ ((cnt F' 3 12 : Nat) : Int) < ((cnt F 3 12 : Nat) : Int) := by omega
            have n2 : (((cnt F' 3 12 : Nat) : Int) == ((cnt F 3 12 : Nat) : Int)) = false := by simp only [beq_eq_false_iff_ne]; omega
            have n3 : (((cnt F' 3 12 : Nat) : Int) == ((cnt F 3 12 : Nat) : Int) + 1) = true := by simp only [beq_iff_eq]; omega
            have n5 : ¬ bnd F < bnd F' := by omega
            have n6 : ¬ 3 ≤ bnd F := by omega
            clear e1 e3 e2
            go_wp2_with (first
              | (go_at_call 17; refine (ac _).mono ?_; rintro x wy ⟨rfl, rfl⟩)
              | (go_at_call 12; refine ab.mono ?_; rintro x wy ⟨rfl, rfl⟩)
              | (go_at_call 18; refine aw.mono ?_; rintro x wy ⟨rfl, rfl⟩))
            go_roundg (len - (i + 1))
            case measure => omega
            case rel =>
              obtain ⟨f', hf', hF12⟩ := HR.out.from_
              exact ⟨i + 1, F', f', by simp, rfl, by omega, Nat.le_refl _, ⟨HP8.out, HR.out.vals, hF12, hf', HT.out.lp, HG8.out⟩⟩
  · have hltz : ¬ (i : Int) < (len : Int) := by omega
    go_wp2
    go_ret
    exact ⟨rfl, HT.out.chg.below (fun _ h => h.elim) (Nat.le_refl _)⟩
end Go.Proofs.Ytjgibllcfhblnaa
