/-
  PmapKeeps, walked. Condition: the script lies in memory.
-/
import Derived.Test.YtkddcnbljooidaaPlays
import Derived.Deep.CutRange
namespace Go.Proofs.Ytkddcnbljooidaa
set_option maxRecDepth 100000
open Go.RowKit

theorem wpList_store_op {ops : Array Oper} {rest : List Oper} {o : Oper} {a : Act} {w : World} {Q : Exit → Act → World → Prop} (hgd : o.guard = none) (x y : Operand) (ho : o.op = .store 30 x y)
    (g : Nat) (hx : a.eval x = .pointer (some ⟨g, 0, none⟩)) {K A B : Int} (hy : a.eval y = .agg #[.int .i64 K, .int .i64 A, .int .i64 B]) {F' : Nat → Int} (hg : IB w g 30 3 F')
    (h : ∀ w', IB w' g 30 3 (op3 K A B) → Chg (· = g) w w' → wpList Try.prog ops Q rest (a.put o.dst undef) w') : wpList Try.prog ops Q (o :: rest) a w :=
  wpList_store_row hgd 30 x y ho g _ hx hy 30 _ hg size30 (by simp [ints_length]) (all_oneCell_toArray (ints_one (op3 K A B) 3)) (h _ (IB.row hg (op3 K A B)) (chg_row _ _ _))
/-- The map stands. -/
structure Kps (w0 w : World) (p : Nat) (L : Nat → Int) : Prop where
  map : Mp w p L
  ok : Okl L
  lp : w0.heap.size ≤ p
  chg : Chg (fun _ => False) w0 w
theorem neq_1_11 (w : World) : (binOp .neq 35 (.iface 40 (.int .i64 1)) (.iface 40 (.int .i64 11))).run Try.prog w = .ok (.bool true) w := by kernel_rfl
set_option maxHeartbeats 16000000 in
theorem keeps_walk (a : Option Addr) (len cap : Nat) (O : Nat → Opd) (w : World) (hO : IsOps w a len O) (hlen : len < 9223372036854775808) :
    Calls Try.prog 4 #[.slice a len cap] w fun e w' => e = .returned (.bool true) ∧ Below w.heap.size w w' := by
  have HO := hyd hO
  have q1 := eql_nil
  have q2 := eql_c_nil
  have q3 := neq_nil
  have q4 := neq_c_nil
  have q5 := neq_11_11
  clear hO
  go_enter Try.func4, Try.ntmps4
  go_wp2_with fail
  refine (up_any _).mono ?_
  rintro x w1 ⟨rfl, G1⟩
  have HG1 := hyd G1
  clear G1
  go_wp2_with fail
  refine (new_any w1).mono ?_
  rintro x w2 ⟨rfl, K2, G2⟩
  obtain ⟨p, HP⟩ : ∃ p, Hid (p = w1.heap.size) := ⟨_, rfl⟩
  rw [← HP.out] at K2
  rw [← HP.out]
  have HT := hyd (show Kps w w2 p _ from ⟨K2, Okl.none, by rw [HP.out]; exact HG1.out.size, HG1.out.trans G2⟩)
  clear K2 G2 HG1 HP
  go_wp2_with fail
  go_loopg [5] len (fun kx s5 wr => ∃ (i : Nat) (L : Nat → Int), s5 = .int .i64 i ∧ i ≤ len ∧ len - i ≤ kx ∧ Hid (Kps w wr p L))
  case atStart => exact ⟨0, _, rfl, by omega, by omega, HT⟩
  case round =>
  clear HT
  obtain ⟨i, L, rfl, hin, hkx, HT⟩ := hrel
  by_cases hlt : i < len
  · have hltz : (i : Int) < (len : Int) := by omega
    obtain ⟨hok, hc⟩ := HO.out
    rcases hc with hc | ⟨qa, oa, rfl, hqa, hc⟩
    · omega
    obtain ⟨x0, x1, x2⟩ := (hc i hlt).chg HT.out.chg hqa
    obtain ⟨⟨ok1, ok2⟩, ⟨oa1, oa2⟩, ⟨ob1, ob2⟩⟩ := hok i hlt
    clear hok hc hqa
    generalize O i = oi at *
    obtain ⟨K, A, B⟩ := oi
    go_wp2_with (refine wpList_alloc_row rfl 30 rfl wr.heap.size rfl zero30 ?_)
    intro w5 K5 G5 S5
    obtain ⟨o, HOO⟩ : ∃ o, Hid (o = wr.heap.size) := ⟨_, rfl⟩
    rw [← HOO.out] at K5
    rw [← HOO.out]
    have HK5 := hyd (show IB w5 o 30 3 (fun _ => 0) from K5)
    have HG5 := hyd G5
    clear K5 G5 S5
    go_wp2_with (refine wpList_store_op rfl (.tmp 6) (.tmp 40) rfl o rfl rfl HK5.out ?_)
    intro w6 K6 G6
    have G46 := HG5.out.trans' G6 (fun k hk e => by rw [e, HOO.out] at hk; exact absurd hk (Nat.lt_irrefl _))
    have HM6 := hyd (HT.out.map.chg G46 (fun f => f))
    have HG6 := hyd (HT.out.chg.trans G46)
    obtain ⟨o0, -⟩ := K6.cell 0 (by omega)
    obtain ⟨o1, -⟩ := K6.cell 1 (by omega)
    obtain ⟨o2, -⟩ := K6.cell 2 (by omega)
    clear K6 G6 G46 HK5 HG5 x0 x1 x2
    replace o0 : w6.cell? ⟨o, 0, none⟩ = some (.int .i64 K) := o0
    replace o1 : w6.cell? ⟨o, 1, none⟩ = some (.int .i64 A) := o1
    replace o2 : w6.cell? ⟨o, 2, none⟩ = some (.int .i64 B) := o2
    go_wp2_with fail
    refine (pick_any A oa1 oa2 25 (by omega) (by omega) _).mono ?_
    rintro x w6 ⟨⟨n, hn, rfl⟩, rfl⟩
    have HN := hyd hn
    clear hn
    go_wp2_with fail
    refine (pick_any K ok1 ok2 4 (by omega) (by omega) _).mono ?_
    rintro x w6 ⟨⟨k, hk, rfl⟩, rfl⟩
    clear hk
    by_cases hk0 : k = 0
    · subst hk0
      go_wp2_with fail
      refine (drop_v w6 p L HM6.out HT.out.ok n).mono ?_
      rintro x w7 ⟨rfl, K7, G7, Q7⟩
      have HT7 := hyd (show Kps w w7 p _ from ⟨K7, Q7, HT.out.lp, HG6.out.trans' G7 (fun k hk e => by have := HT.out.lp; omega)⟩)
      clear K7 G7 Q7 HT HM6 HG6 o0 o1 o2
      go_wp2
      go_roundg (len - (i + 1))
      case measure => omega
      case rel => exact ⟨i + 1, _, by simp, by omega, Nat.le_refl _, HT7⟩
    · have hkb : ((k : Int) == 0) = false := by simp only [beq_eq_false_iff_ne]; omega
      clear hk0
      go_wp2_with fail
      refine (pick_any B ob1 ob2 96 (by omega) (by omega) _).mono ?_
      rintro x w6 ⟨⟨m, hm, rfl⟩, rfl⟩
      clear hm
      go_wp2_with fail
      refine (set_v w6 p L HM6.out HT.out.ok n m).mono ?_
      rintro x w7 ⟨rfl, K7, G7, Q7⟩
      have HT7 := hyd (show Kps w w7 p _ from ⟨K7, Q7, HT.out.lp, HG6.out.trans' G7 (fun k hk e => by have := HT.out.lp; omega)⟩)
      clear K7 G7 Q7 HT HM6 HG6 o0 o1 o2
      go_wp2
      go_roundg (len - (i + 1))
      case measure => omega
      case rel => exact ⟨i + 1, _, by simp, by omega, Nat.le_refl _, HT7⟩
  · have hltz : ¬ (i : Int) < (len : Int) := by omega
    clear HO
    go_wp2_with fail
    go_loopg [8, 9] 25 (fun kx s8 s9 wx => ∃ j : Nat, s9 = .int .i64 j ∧ s8 = .int .i64 (cL L j : Nat) ∧ j ≤ 25 ∧ 25 - j ≤ kx ∧ wx = wr)
    case atStart => exact ⟨0, rfl, rfl, by omega, by omega, rfl⟩
    case round =>
    obtain ⟨j, rfl, rfl, hjn, hjx, rfl⟩ := hrel
    by_cases hj : j < 25
    · have hjz : (j : Int) ≤ 24 := by omega
      have hcl := cL_le L j
      have HE : Hid (cL L (j + 1) = cL L j + if L j ≠ -1 then 1 else 0) := rfl
      by_cases hL : L j = -1
      · rw [if_neg (by simp [hL])] at HE
        have ha := at_none _ p L HT.out.map j hj hL
        clear hL
        go_wp2_with (go_at_call 13; refine ha.mono ?_; rintro x wy ⟨rfl, rfl⟩)
        go_roundg (25 - (j + 1))
        case measure => omega
        case rel => exact ⟨j + 1, by simp, by rw [HE.out]; simp, by omega, Nat.le_refl _, rfl⟩
      · rw [if_pos hL] at HE
        have ha := at_yes _ p L HT.out.map j hj hL
        have hlo := HT.out.ok.lo hj
        obtain ⟨m, hm⟩ : ∃ m : Nat, L j = m := ⟨(L j).toNat, by omega⟩
        have how := own_is HT.out.ok hj hm (by omega)
        have hw := owner_yes _ p L HT.out.map m (by omega) (by rw [how]; omega)
        rw [how] at hw
        rw [hm] at ha
        have hjj : ((j : Int) == (j : Int)) = true := by simp
        have hmay : j < 24 → (m : Int) % 8 < 6 := fun h => by
          rcases HT.out.ok.may j h with e | e
          · omega
          · rw [hm] at e; exact e
        have HMY := hyd hmay
        clear hL hlo hm how hmay
        by_cases h24 : j < 24
        · have h24z : (j : Int) < 24 := by omega
          have hm6 := HMY.out h24
          have hm6' : ¬ (m : Int) % 8 ≥ 6 := by omega
          clear h24 hm6
          go_wp2_with (first | (go_at_call 13; refine ha.mono ?_; rintro x wy ⟨rfl, rfl⟩) | (go_at_call 14; refine hw.mono ?_; rintro x wy ⟨rfl, rfl⟩))
          go_roundg (25 - (j + 1))
          case measure => omega
          case rel => exact ⟨j + 1, by simp, by rw [HE.out]; simp, by omega, Nat.le_refl _, rfl⟩
        · have h24z : ¬ (j : Int) < 24 := by omega
          clear h24
          go_wp2_with (first | (go_at_call 13; refine ha.mono ?_; rintro x wy ⟨rfl, rfl⟩) | (go_at_call 14; refine hw.mono ?_; rintro x wy ⟨rfl, rfl⟩))
          go_roundg (25 - (j + 1))
          case measure => omega
          case rel => exact ⟨j + 1, by simp, by rw [HE.out]; simp, by omega, Nat.le_refl _, rfl⟩
    · have hjz : ¬ (j : Int) ≤ 24 := by omega
      have h25 : j = 25 := by omega
      subst h25
      clear hjn hj hjx
      go_wp2_with fail
      refine (live_any _ p L HT.out.map).mono ?_
      rintro x w8 ⟨rfl, K8, G8⟩
      obtain ⟨s, HS⟩ : ∃ s, Hid (s = wr.heap.size) := ⟨_, rfl⟩
      rw [← HS.out] at K8
      rw [← HS.out]
      have HK8 := hyd K8
      have HG8 := hyd G8
      have HCA := hyd (cP_all HT.out.ok)
      have hc25 := cL_le L 25
      clear K8 G8
      go_wp2_with fail
      go_loopg [15, 17] 12 (fun kx s15 s17 wx => ∃ k : Nat, s17 = .int .i64 k ∧ s15 = .int .i64 (cP L (8 * k) : Nat) ∧ k ≤ 12 ∧ 12 - k ≤ kx ∧ Hid (IB wx s 3 12 (fun k => (lvK L 96 k : Nat))) ∧ Hid (Chg (fun _ => False) wr wx))
      case atStart => exact ⟨0, rfl, rfl, by omega, by omega, HK8, HG8⟩
      case round =>
      clear HK8 HG8
      obtain ⟨k, rfl, rfl, hkn, hkk, HK8, HG8⟩ := hrel
      by_cases hk : k < 12
      · have hkz : (k : Int) < 12 := by omega
        have HL := hyd (lvK_all L hk)
        have hlen8 : (ofL L k).length ≤ 8 := ofK_length L k 8
        have hcp := cP_le L (8 * k)
        have HE := hyd (cP_block L k)
        go_wp2_with fail
        refine (of_yes _ p L (HT.out.map.chg HG8.out (fun f => f)) k hk).mono ?_
        rintro x w9 ⟨⟨a1, c1, rfl, -⟩, G9⟩
        have HG9 := hyd (HG8.out.trans G9)
        have HK9 := hyd (HK8.out.chg G9 (fun f => f))
        obtain ⟨c, -⟩ := HK9.out.cell k hk
        rw [HL.out] at c
        have heq : (((ofL L k).length : Int) == ((ofL L k).length : Int)) = true := by simp
        have h96 : ((cP L (8 * k) : Nat) : Int) ≤ 96 := by omega
        have h8z : (((ofL L k).length : Nat) : Int) ≤ 8 := by omega
        clear G9 hcp hlen8
        generalize HLN : (ofL L k).length = ln at *
        have HLN := hyd HLN
        go_wp2
        go_roundg (12 - (k + 1))
        case measure => omega
        case rel => exact ⟨k + 1, by simp, by rw [HE.out]; simp, by omega, Nat.le_refl _, HK9, HG9⟩
      · have hkz : ¬ (k : Int) < 12 := by omega
        have h12 : k = 12 := by omega
        subst h12
        clear hkn hk hkk
        go_wp2_with fail
        go_loopg [16, 20] 96 (fun kx s16 s20 wy => ∃ q : Nat, s20 = .int .i64 q ∧ s16 = .int .i64 (cP L q : Nat) ∧ q ≤ 96 ∧ 96 - q ≤ kx ∧ wy = wr)
        case atStart => exact ⟨0, rfl, rfl, by omega, by omega, rfl⟩
        case round =>
        obtain ⟨q, rfl, rfl, hqn, hqx, rfl⟩ := hrel
        by_cases hq : q < 96
        · have hqz : (q : Int) < 96 := by omega
          have hcp := cP_le L q
          have HE := hyd (cP_succ L q)
          have HM := hyd (HT.out.map.chg HG8.out (fun f => f))
          by_cases hL : own L q = -1
          · rw [if_neg (by simp [hL])] at HE
            have ha := owner_none _ p L HM.out q hq hL
            clear hL
            go_wp2_with (go_at_call 14; refine ha.mono ?_; rintro x wz ⟨rfl, rfl⟩)
            go_roundg (96 - (q + 1))
            case measure => omega
            case rel => exact ⟨q + 1, by simp, by rw [HE.out]; simp, by omega, Nat.le_refl _, rfl⟩
          · rw [if_pos hL] at HE
            have ha := owner_yes _ p L HM.out q hq hL
            clear hL
            go_wp2_with (go_at_call 14; refine ha.mono ?_; rintro x wz ⟨rfl, rfl⟩)
            go_roundg (96 - (q + 1))
            case measure => omega
            case rel => exact ⟨q + 1, by simp, by rw [HE.out]; simp, by omega, Nat.le_refl _, rfl⟩
        · have hqz : ¬ (q : Int) < 96 := by omega
          have h96 : q = 96 := by omega
          subst h96
          clear hqn hq hqx
          have hcc : ((cP L 96 : Nat) : Int) = ((cL L 25 : Nat) : Int) := by rw [HCA.out]
          have heq : (((cL L 25 : Nat) : Int) == ((cL L 25 : Nat) : Int)) = true := by simp
          simp only [hcc]
          clear hcc
          go_wp2
          go_ret
          exact ⟨rfl, (HT.out.chg.trans HG8.out).below (fun _ h => h.elim) (Nat.le_refl _)⟩
end Go.Proofs.Ytkddcnbljooidaa
