/-
  FrontPlays: any script of the frontier. Condition: the script lies in memory.
-/
import Derived.Test.YtkkbmfdmfkpgpaaUp
import Derived.Test.YtkkbmfdmfkpgpaaIn
import Derived.Deep.RegionHeld3
namespace Go.Proofs.Ytkkbmfdmfkpgpaa
set_option maxRecDepth 100000
open Go.RowKit

theorem zero31 (w : World) : (zeroValue 31).run Try.prog w = .ok (.agg (ints (fun _ => 0) 3).toArray) w := by kernel_rfl
theorem size31 : (Try.prog.info? 31).map (·.size) = some 3 := by kernel_rfl
/-- An operation's three cells. -/
def op3 (K A B : Int) : Nat → Int := fun i => if i = 0 then K else if i = 1 then A else B
theorem wpList_store_op {ops : Array Oper} {rest : List Oper} {o : Oper} {a : Act} {w : World} {Q : Exit → Act → World → Prop} (hgd : o.guard = none) (x y : Operand) (ho : o.op = .store 31 x y)
    (g : Nat) (hx : a.eval x = .pointer (some ⟨g, 0, none⟩)) {K A B : Int} (hy : a.eval y = .agg #[.int .i64 K, .int .i64 A, .int .i64 B]) {F' : Nat → Int} (hg : IB w g 31 3 F')
    (h : ∀ w', IB w' g 31 3 (op3 K A B) → Chg (· = g) w w' → wpList Try.prog ops Q rest (a.put o.dst undef) w') : wpList Try.prog ops Q (o :: rest) a w :=
  wpList_store_row hgd 31 x y ho g _ hx hy 31 _ hg size31 (by simp [ints_length]) (all_oneCell_toArray (ints_one (op3 K A B) 3)) (h _ (IB.row hg (op3 K A B)) (chg_row _ _ _))
set_option maxHeartbeats 8000000 in
theorem plays_walk (a : Option Addr) (len cap : Nat) (O : Nat → Opd) (w : World) (hO : IsOps w a len O) (hlen : len < 9223372036854775808) :
    Calls Try.prog 3 #[.slice a len cap] w fun e w' => e = .returned (.bool true) ∧ Below w.heap.size w w' := by
  have HO := hyd hO
  have hb := build26
  have hb' := build29
  clear hO
  go_enter Try.func3, Try.ntmps3
  go_wp2_with fail
  refine (up_any _).mono ?_
  rintro x w1 ⟨rfl, G1⟩
  obtain ⟨p, HP⟩ : ∃ p, Hid (p = w1.heap.size) := ⟨_, rfl⟩
  have K2 : FB (w1.alloc (.cells #[.bool false, .int .i64 0, .int .i64 0] 26)) w1.heap.size 26 ⟨false, 0, 0⟩ := FB.new w1 26 ⟨false, 0, 0⟩
  have G2 : Chg (fun _ => False) w1 (w1.alloc (.cells #[.bool false, .int .i64 0, .int .i64 0] 26)) := (Chg.refl _ w1).alloc _
  have G2' := G1.trans G2
  have K3 : FB ((w1.alloc (.cells #[.bool false, .int .i64 0, .int .i64 0] 26)).alloc (.cells #[.bool false, .int .i64 0, .int .i64 0] 29)) (w1.heap.size + 1) 29 ⟨false, 0, 0⟩ := by
    have := FB.new (w1.alloc (.cells #[.bool false, .int .i64 0, .int .i64 0] 26)) 29 ⟨false, 0, 0⟩
    rw [show (w1.alloc (.cells #[.bool false, .int .i64 0, .int .i64 0] 26)).heap.size = w1.heap.size + 1 from by simp] at this
    exact this
  have G3 : Chg (fun _ => False) (w1.alloc (.cells #[.bool false, .int .i64 0, .int .i64 0] 26)) ((w1.alloc (.cells #[.bool false, .int .i64 0, .int .i64 0] 26)).alloc (.cells #[.bool false, .int .i64 0, .int .i64 0] 29)) := (Chg.refl _ _).alloc _
  have HT := hyd (show Two w ((w1.alloc (.cells #[.bool false, .int .i64 0, .int .i64 0] 26)).alloc (.cells #[.bool false, .int .i64 0, .int .i64 0] 29)) w1.heap.size (w1.heap.size + 1) ⟨false, 0, 0⟩ from
    ⟨K2.chg G3 (fun f => f), K3, ⟨by decide, by decide⟩, by omega, G1.size, Nat.le_trans G1.size (by omega), G2'.trans G3⟩)
  clear G1 K2 G2 G2' K3 G3
  go_wp2_with fail
  generalize (w1.alloc (.cells #[.bool false, .int .i64 0, .int .i64 0] 26)).alloc (.cells #[.bool false, .int .i64 0, .int .i64 0] 29) = w3 at *
  rw [← HP.out] at HT ⊢
  obtain ⟨r, HR⟩ : ∃ r, Hid (r = p + 1) := ⟨_, rfl⟩
  rw [← HR.out] at HT ⊢
  clear HP HR hb hb'
  go_loopg [6] len (fun kx s6 wr => ∃ (i : Nat) (s : St), s6 = .int .i64 i ∧ i ≤ len ∧ len - i ≤ kx ∧ Hid (Two w wr p r s))
  case atStart => exact ⟨0, _, rfl, by omega, by omega, HT⟩
  case round =>
  clear HT
  obtain ⟨i, s, rfl, hin, hkx, HT⟩ := hrel
  by_cases hlt : i < len
  · have hltz : (i : Int) < (len : Int) := by omega
    obtain ⟨hok, hc⟩ := HO.out
    rcases hc with hc | ⟨qa, oa, rfl, hqa, hc⟩
    · omega
    obtain ⟨x0, x1, x2⟩ := (hc i hlt).chg HT.out.chg hqa
    obtain ⟨⟨ok1, ok2⟩, ⟨oa1, oa2⟩, ⟨ob1, ob2⟩⟩ := hok i hlt
    clear hok hc hqa
    generalize O i = oi at *
    obtain ⟨K, A, B⟩ := oi
    go_wp2_with (refine wpList_alloc_row rfl 31 rfl wr.heap.size rfl zero31 ?_)
    intro w5 K5 G5 S5
    obtain ⟨o, HOO⟩ : ∃ o, Hid (o = wr.heap.size) := ⟨_, rfl⟩
    rw [← HOO.out] at K5
    rw [← HOO.out]
    have HK5 := hyd (show IB w5 o 31 3 (fun _ => 0) from K5)
    have HG5 := hyd G5
    clear K5 G5 S5
    go_wp2_with (refine wpList_store_op rfl (.tmp 7) (.tmp 28) rfl o rfl rfl HK5.out ?_)
    intro w6 K6 G6
    have G46 := HG5.out.trans' G6 (fun k hk e => by rw [e, HOO.out] at hk; exact absurd hk (Nat.lt_irrefl _))
    have hpo : p ≠ o := by rw [HOO.out]; exact Nat.ne_of_lt HT.out.prog.lt
    have hro : r ≠ o := by rw [HOO.out]; exact Nat.ne_of_lt HT.out.ref.lt
    have HS := hyd (HT.out.still G46)
    obtain ⟨o0, -⟩ := K6.cell 0 (by omega)
    obtain ⟨o1, -⟩ := K6.cell 1 (by omega)
    obtain ⟨o2, -⟩ := K6.cell 2 (by omega)
    have HQ6 := hyd K6
    clear K6 G6 G46 HK5 HG5 x0 x1 x2 HT HOO
    replace o0 : w6.cell? ⟨o, 0, none⟩ = some (.int .i64 K) := o0
    replace o1 : w6.cell? ⟨o, 1, none⟩ = some (.int .i64 A) := o1
    replace o2 : w6.cell? ⟨o, 2, none⟩ = some (.int .i64 B) := o2
    go_wp2_with fail
    refine (pick_any K ok1 ok2 6 (by omega) (by omega) _).mono ?_
    rintro x w6 ⟨⟨q, hq, rfl⟩, rfl⟩
    have hcase : q = 0 ∨ (q = 1 ∨ q = 2) ∨ q = 3 ∨ q = 4 ∨ q = 5 := by omega
    clear hq o0 ok1 ok2 oa1 oa2 ob1 ob2
    rcases hcase with rfl | hq | rfl | rfl | rfl
    · go_wp2_with fail
      refine (open_v w6 p _ HS.out.prog A B).mono ?_
      rintro x w7 ⟨rfl, K7, G7⟩
      rw [op_nrm] at K7
      have O7 := HQ6.out.chg G7 hpo.symm
      obtain ⟨u1, -⟩ := O7.cell 1 (by omega)
      obtain ⟨u2, -⟩ := O7.cell 2 (by omega)
      replace u1 : w7.cell? ⟨o, 1, none⟩ = some (.int .i64 A) := u1
      replace u2 : w7.cell? ⟨o, 2, none⟩ = some (.int .i64 B) := u2
      have HK7 := hyd K7
      have HG7 := hyd G7
      have HR7 := hyd (HS.out.ref.chg G7 HS.out.ne.symm)
      have HQ7 := hyd O7
      clear K7 G7 O7 o1 o2 HQ6
      go_wp2_with fail
      go_region_held3 (fun wx => wx.cell? ⟨o, 1, none⟩ = some (.int .i64 A) ∧ wx.cell? ⟨o, 2, none⟩ = some (.int .i64 B))
        (first | exact ⟨u1, u2⟩ | exact ⟨z1, z2⟩)
        (first
          | (go_at_call 8; refine (code_v _ (opC_code A B) _).mono ?_; rintro x w8 ⟨rfl, rfl⟩)
          | (go_at_call 9; refine (ropen_v _ r s (HR7.out.drewN 1) A B).mono ?_; rintro x w9 ⟨rfl, K9, G9⟩; have O9 := (HQ7.out.chg (Chg.refl (fun _ => False) w7).drew (fun f => f)).chg G9 hro.symm; obtain ⟨z1, -⟩ := O9.cell 1 (by omega); obtain ⟨z2, -⟩ := O9.cell 2 (by omega); have HT := hyd (HS.out.both HK7.out HG7.out (HS.out.ok.open_ A B) K9 ((Chg.refl _ _).drew.trans G9)); clear K9 G9 O9))
      have heq : (((opC A B : Nat) : Int) != ((opC A B : Nat) : Int)) = false := by simp
      clear HS
      rcases HT.out.tail with ⟨d0, hbl⟩ | ⟨k, d0, d1, hbl⟩
      · go_wp2_with (go_at_call 15; refine hbl.mono ?_; rintro x wy ⟨rfl, rfl⟩)
        go_roundg (len - (i + 1))
        case measure => omega
        case rel => exact ⟨i + 1, _, by simp, by omega, Nat.le_refl _, HT⟩
      · go_wp2_with (go_at_call 15; refine hbl.mono ?_; rintro x wy ⟨rfl, rfl⟩)
        go_roundg (len - (i + 1))
        case measure => omega
        case rel => exact ⟨i + 1, _, by simp, by omega, Nat.le_refl _, HT⟩
    · rcases hq with rfl | rfl
      · have hc := nxC_code s A
        go_wp2_with fail
        refine (take_v w6 p _ HS.out.prog HS.out.ok.nrm A).mono ?_
        rintro x w7 ⟨rfl, K7, G7⟩
        rw [tk_nrm] at K7
        rw [nx_nrm, nv_nrm]
        have O7 := HQ6.out.chg G7 hpo.symm
        obtain ⟨u1, -⟩ := O7.cell 1 (by omega)
        replace u1 : w7.cell? ⟨o, 1, none⟩ = some (.int .i64 A) := u1
        have HK7 := hyd K7
        have HG7 := hyd G7
        have HR7 := hyd (HS.out.ref.chg G7 HS.out.ne.symm)
        clear K7 G7 O7 o1 o2 HQ6
        go_wp2_with fail
        refine (rtake_v w7 r s HR7.out HS.out.ok A).mono ?_
        rintro x w8 ⟨rfl, K8, G8⟩
        have HT := hyd (HS.out.both HK7.out HG7.out (HS.out.ok.take A) K8 G8)
        clear K8 G8 HS HK7 HG7 HR7 u1
        generalize nxV s A = v at *
        generalize nxC s A = c at *
        have hcode := fun w => code_v c hc w
        have hv : (v != v) = false := by simp
        have hce : (((c : Nat) : Int) != ((c : Nat) : Int)) = false := by simp
        clear hc
        rcases HT.out.tail with ⟨d0, hbl⟩ | ⟨k, d0, d1, hbl⟩
        · go_wp2_with (first | (go_at_call 8; refine (hcode _).mono ?_; rintro x wy ⟨rfl, rfl⟩) | (go_at_call 15; refine hbl.mono ?_; rintro x wy ⟨rfl, rfl⟩))
          go_roundg (len - (i + 1))
          case measure => omega
          case rel => exact ⟨i + 1, _, by simp, by omega, Nat.le_refl _, HT⟩
        · go_wp2_with (first | (go_at_call 8; refine (hcode _).mono ?_; rintro x wy ⟨rfl, rfl⟩) | (go_at_call 15; refine hbl.mono ?_; rintro x wy ⟨rfl, rfl⟩))
          go_roundg (len - (i + 1))
          case measure => omega
          case rel => exact ⟨i + 1, _, by simp, by omega, Nat.le_refl _, HT⟩
      · have hc := nxC_code s A
        go_wp2_with fail
        refine (take_v w6 p _ HS.out.prog HS.out.ok.nrm A).mono ?_
        rintro x w7 ⟨rfl, K7, G7⟩
        rw [tk_nrm] at K7
        rw [nx_nrm, nv_nrm]
        have O7 := HQ6.out.chg G7 hpo.symm
        obtain ⟨u1, -⟩ := O7.cell 1 (by omega)
        replace u1 : w7.cell? ⟨o, 1, none⟩ = some (.int .i64 A) := u1
        have HK7 := hyd K7
        have HG7 := hyd G7
        have HR7 := hyd (HS.out.ref.chg G7 HS.out.ne.symm)
        clear K7 G7 O7 o1 o2 HQ6
        go_wp2_with fail
        refine (rtake_v w7 r s HR7.out HS.out.ok A).mono ?_
        rintro x w8 ⟨rfl, K8, G8⟩
        have HT := hyd (HS.out.both HK7.out HG7.out (HS.out.ok.take A) K8 G8)
        clear K8 G8 HS HK7 HG7 HR7 u1
        generalize nxV s A = v at *
        generalize nxC s A = c at *
        have hcode := fun w => code_v c hc w
        have hv : (v != v) = false := by simp
        have hce : (((c : Nat) : Int) != ((c : Nat) : Int)) = false := by simp
        clear hc
        rcases HT.out.tail with ⟨d0, hbl⟩ | ⟨k, d0, d1, hbl⟩
        · go_wp2_with (first | (go_at_call 8; refine (hcode _).mono ?_; rintro x wy ⟨rfl, rfl⟩) | (go_at_call 15; refine hbl.mono ?_; rintro x wy ⟨rfl, rfl⟩))
          go_roundg (len - (i + 1))
          case measure => omega
          case rel => exact ⟨i + 1, _, by simp, by omega, Nat.le_refl _, HT⟩
        · go_wp2_with (first | (go_at_call 8; refine (hcode _).mono ?_; rintro x wy ⟨rfl, rfl⟩) | (go_at_call 15; refine hbl.mono ?_; rintro x wy ⟨rfl, rfl⟩))
          go_roundg (len - (i + 1))
          case measure => omega
          case rel => exact ⟨i + 1, _, by simp, by omega, Nat.le_refl _, HT⟩
    · have hr1 := fun m => room_v (w6.drewN m) p _ (HS.out.prog.drewN m) HS.out.ok.nrm A
      rw [rm_nrm] at hr1
      have hr2 := fun m => rroom_v (w6.drewN m) r s (HS.out.ref.drewN m) HS.out.ok A
      generalize rmV s A = bb at *
      have hbb : (bb != bb) = false := by simp
      go_wp2_with fail
      go_quiet (first | (go_at_call 12; refine Calls.quiet_of (hr1 _)) | (go_at_call 13; refine Calls.quiet_of (hr2 _)))
      have HT := hyd (HS.out.still ((Chg.refl _ _).drewN nq))
      clear HS HQ6 o1 o2 hr1 hr2
      rcases HT.out.tail with ⟨d0, hbl⟩ | ⟨k, d0, d1, hbl⟩
      · go_wp2_with (go_at_call 15; refine hbl.mono ?_; rintro x wy ⟨rfl, rfl⟩)
        go_roundg (len - (i + 1))
        case measure => omega
        case rel => exact ⟨i + 1, _, by simp, by omega, Nat.le_refl _, HT⟩
      · go_wp2_with (go_at_call 15; refine hbl.mono ?_; rintro x wy ⟨rfl, rfl⟩)
        go_roundg (len - (i + 1))
        case measure => omega
        case rel => exact ⟨i + 1, _, by simp, by omega, Nat.le_refl _, HT⟩
    · go_wp2_with fail
      refine (close_any w6 p _ HS.out.prog).mono ?_
      rintro x w7 ⟨rfl, K7, G7⟩
      have R7 := HS.out.ref.chg G7 HS.out.ne.symm
      obtain ⟨c7, f7⟩ := R7.c0
      have HT := hyd (HS.out.both (s' := { s with o := false }) K7 G7 HS.out.ok (R7.set0 false) ((Chg.refl (· = r) _).setCell (Or.inl rfl) _ _))
      have hbl := HT.out.tail
      have d0 := HT.out.ref.c0.1
      clear K7 G7 R7 HS HQ6 o1 o2
      rcases hbl with ⟨-, hbl⟩ | ⟨k, d0', -⟩
      · go_wp2_with (go_at_call 15; refine hbl.mono ?_; rintro x wy ⟨rfl, rfl⟩)
        go_roundg (len - (i + 1))
        case measure => omega
        case rel => exact ⟨i + 1, _, by simp, by omega, Nat.le_refl _, HT⟩
      · rw [d0] at d0'
        simp at d0'
    · have HT := hyd HS.out
      clear HS HQ6 o1 o2
      rcases HT.out.tail with ⟨d0, hbl⟩ | ⟨k, d0, d1, hbl⟩
      · go_wp2_with (go_at_call 15; refine hbl.mono ?_; rintro x wy ⟨rfl, rfl⟩)
        go_roundg (len - (i + 1))
        case measure => omega
        case rel => exact ⟨i + 1, _, by simp, by omega, Nat.le_refl _, HT⟩
      · go_wp2_with (go_at_call 15; refine hbl.mono ?_; rintro x wy ⟨rfl, rfl⟩)
        go_roundg (len - (i + 1))
        case measure => omega
        case rel => exact ⟨i + 1, _, by simp, by omega, Nat.le_refl _, HT⟩
  · have hltz : ¬ (i : Int) < (len : Int) := by omega
    go_wp2
    go_ret
    exact ⟨rfl, HT.out.chg.below (fun _ h => h.elim) (Nat.le_refl _)⟩
end Go.Proofs.Ytkkbmfdmfkpgpaa
