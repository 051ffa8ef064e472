/-
  WireSeals, walked: whatever the bytes, Mark, Seal and Open answer as the document says, leave what they were lent as it was, and what they answer is its owner's. Condition: the bytes came in as a slice does.
-/
import Derived.Test.YtjnmfgaaafnpaaaGetsWalk
import Derived.Test.YtjnmfgaaafnpaaaApart3
import Derived.Test.YtjnmfgaaafnpaaaLent
namespace Go.Proofs.Ytjnmfgaaafnpaaa
open Go.RowKit
set_option maxRecDepth 100000

theorem take_mrk (l : List Nat) : (l ++ mrk 5).take l.length = l := by
  rw [List.take_append_of_le_length (Nat.le_refl _), List.take_of_length_le (Nat.le_refl _)]
theorem mrk_len' (l : List Nat) : (l ++ mrk 5).length = l.length + 5 := by rw [List.length_append, mrk_length]
theorem OwnT.chgF {w w' : World} {base : Nat} {e : TypeId} {v : Value} {l : List Nat} (h : OwnT w base e v l) (hc : Chg (fun _ => False) w w') : OwnT w' base e v l := h.chg hc (fun _ _ _ f => f)
theorem OwnT.nil (w : World) (base : Nat) (e : TypeId) : OwnT w base e (.slice none 0 0) [] := Or.inl (Own.nil _ _ _)
/-- What Seal answers of the bytes l. -/
def SealIs (l : List Nat) (a : Option Addr) (n c : Nat) (e : Value) (r : List Nat) : Prop :=
  (l.length ≠ 50 ∧ a = none ∧ n = 0 ∧ c = 0 ∧ e = .iface 29 (.int .i64 1) ∧ r = []) ∨ (l.length = 50 ∧ n = 58 ∧ c = 58 ∧ e = .nilIface ∧ r = l ++ mk)
/-- What Open answers of them. -/
def OpenIs (l : List Nat) (a : Option Addr) (n c : Nat) (e : Value) (r : List Nat) : Prop :=
  (l.length ≠ 58 ∧ a = none ∧ n = 0 ∧ c = 0 ∧ e = .iface 29 (.int .i64 1) ∧ r = []) ∨ (l.length = 58 ∧ l.drop 50 ≠ mk ∧ a = none ∧ n = 0 ∧ c = 0 ∧ e = .iface 29 (.int .i64 6) ∧ r = []) ∨
  (l.length = 58 ∧ l.drop 50 = mk ∧ n = 50 ∧ c = 50 ∧ e = .nilIface ∧ r = l.take 50)
theorem seal_out (w : World) (a : Option Addr) (n cap : Nat) (l : List Nat) (hn : n = l.length) (hh : Held w (.slice a n cap) l) :
    Calls Try.prog 17 #[.slice a n cap] w fun e w' => ∃ aS ns cs es ls, e = .returned (.tuple #[.slice aS ns cs, es]) ∧ ns = ls.length ∧ OwnT w' w.heap.size 5 (.slice aS ns cs) ls ∧ ls.length ≤ 1000 ∧ SealIs l aS ns cs es ls ∧ Chg (fun _ => False) w w' := by
  subst hn
  by_cases h : l.length = 50
  · obtain ⟨g, o, rfl, hg, hc⟩ := hh.at_ (by omega)
    rw [h]
    refine (seal_any w g o cap l h hg hc).mono ?_
    rintro e w' ⟨g', rfl, hg', hA, hG⟩
    have hl : (l ++ mk).length = 58 := by rw [List.length_append, h, mk_length]
    exact ⟨_, _, _, _, l ++ mk, rfl, hl.symm, hA.own hg' 58 hl.symm (by decide), by omega, Or.inr ⟨h, rfl, rfl, rfl, rfl⟩, hG⟩
  · refine (seal_arg w a l.length cap h).mono ?_
    rintro e w' ⟨rfl, rfl⟩
    exact ⟨_, _, _, _, [], rfl, rfl, OwnT.nil _ _ _, by simp, Or.inl ⟨h, rfl, rfl, rfl, rfl, rfl⟩, Chg.refl _ _⟩
theorem open_out (w : World) (a : Option Addr) (n cap : Nat) (l : List Nat) (hl : Bys l) (hn : n = l.length) (hcap : n ≤ cap) (hh : Held w (.slice a n cap) l) :
    Calls Try.prog 19 #[.slice a n cap] w fun e w' => ∃ aS ns cs es ls, e = .returned (.tuple #[.slice aS ns cs, es]) ∧ ns = ls.length ∧ OwnT w' w.heap.size 5 (.slice aS ns cs) ls ∧ ls.length ≤ 1000 ∧ OpenIs l aS ns cs es ls ∧ Chg (fun _ => False) w w' := by
  subst hn
  by_cases h : l.length = 58
  · obtain ⟨g, o, rfl, hg, hc⟩ := hh.at_ (by omega)
    rw [h] at hcap ⊢
    by_cases hm : l.drop 50 = mk
    · refine (open_mark w g o cap hcap l h hl hg hc hm).mono ?_
      rintro e w' ⟨g', rfl, hg', hA, hG⟩
      have ht : (l.take 50).length = 50 := by rw [List.length_take]; omega
      exact ⟨_, _, _, _, l.take 50, rfl, ht.symm, hA.tight hg' 50 (by omega) (by decide), by omega, Or.inr (Or.inr ⟨h, hm, rfl, rfl, rfl, rfl⟩), hG⟩
    · refine (open_none w g o cap hcap l h hl hc hm).mono ?_
      rintro e w' ⟨rfl, rfl⟩
      exact ⟨_, _, _, _, [], rfl, rfl, OwnT.nil _ _ _, by simp, Or.inr (Or.inl ⟨h, hm, rfl, rfl, rfl, rfl, rfl⟩), Chg.refl _ _⟩
  · refine (open_arg w a l.length cap h).mono ?_
    rintro e w' ⟨rfl, rfl⟩
    exact ⟨_, _, _, _, [], rfl, rfl, OwnT.nil _ _ _, by simp, Or.inl ⟨h, rfl, rfl, rfl, rfl, rfl⟩, Chg.refl _ _⟩

set_option maxHeartbeats 8000000 in
theorem seals_walk (a0 : Option Addr) (len0 cap0 : Nat) (z0 : List Int) (w : World) (w0 : IsRow .u8 w a0 len0 cap0 z0) (r0 : cap0 * 1 ≤ 140737488351232) :
    Calls Try.prog 5 #[.slice a0 len0 cap0] w fun e w' => e = .returned (.bool true) ∧ Below w.heap.size w w' := by
  obtain ⟨l, hl0, bl, hc0, hno, HL⟩ := row_in w0
  have hln : l.length ≤ 140737488351232 := by omega
  clear w0 r0
  subst hl0
  have HC0 := hyd hc0
  clear hc0
  have HL := hyd HL
  have HNO := hyd hno
  clear hno
  go_enter Try.func5, Try.ntmps5
  go_wp2_with fail
  refine (shown_any w).mono ?_
  rintro e w1 ⟨rfl, G1⟩
  go_wp2_with fail
  refine (mark_any w1).mono ?_
  rintro e w2 ⟨gm, rfl, hgm, M2, H2⟩
  have G2 := G1.trans H2
  have hs1 := G1.size
  have hms := M2.lt
  clear G1 H2
  go_wp2_with fail
  refine (rmark_any w2).mono ?_
  rintro e w3 ⟨g3, rfl, hg3, A3, H3⟩
  have M3 := M2.chg H3 (fun e => e)
  have G3 := G2.trans H3
  clear M2 G2
  go_wp2_with fail
  refine (same_n w3 _ _ 8 8 8 8 mk mk rfl rfl (M3.tight (Nat.zero_le _) 8 rfl (by decide)).held (A3.heldFull 8 8 rfl) (by decide) (by decide)).mono ?_
  rintro e w4 ⟨rfl, H4⟩
  have M4 := M3.chg H4 (fun e => e)
  have G4 := G3.trans H4
  have hs3 := H3.size
  have hs4 := H4.size
  clear M3 G3 A3 H3 H4
  have hdm : decide (mk = mk) = true := by simp
  rw [hdm]
  go_wp2_with fail
  refine (lend_any w4 a0 l cap0 HNO.out (HL.out.chgF G4) hln).mono ?_
  rintro e w5 ⟨s, f, g, rfl, L5, H5⟩
  have M5 := M4.chg H5 (fun e => e)
  have G5 := G4.trans H5
  obtain ⟨t1, t2, t3, t4, t5, t6⟩ := L5.lts
  have hml := mrk_len' l
  clear M4 G4 H5
  go_wp2_with fail
  refine (bytes_any w5 _ s f g l.length (l ++ mrk 5) (l ++ mrk 5) L5 (by omega) (by omega) (by omega)).mono ?_
  rintro e w6 ⟨cf, rfl, B5, hcf, H6⟩
  rw [take_mrk] at B5
  have B6 := B5.chgF H6
  have M6 := M5.chg H6 (fun e => e)
  have G6 := G5.trans H6
  have L6 := L5.chg H6 (fun e => e) (fun e => e) (fun e => e)
  have hs6 := H6.size
  clear B5 M5 G5 L5 H6
  go_wp2_with fail
  refine (seal_out w6 _ l.length cf l rfl B6).mono ?_
  rintro e w7 ⟨aS, ns, cs, es, ls, rfl, hns, S7, hls, IS, H7⟩
  have M7 := M6.chg H7 (fun e => e)
  have G7 := G6.trans H7
  have L7 := L6.chg H7 (fun e => e) (fun e => e) (fun e => e)
  have hs7 := H7.size
  have HNS := hyd hns
  have HIS := hyd IS
  clear B6 M6 G6 L6 H7 hns IS
  go_wp2_with fail
  refine (bytes_any w7 _ s f g l.length (l ++ mrk 5) (l ++ mrk 5) L7 (by omega) (by omega) (by omega)).mono ?_
  rintro e w8 ⟨cf2, rfl, B7, hcf2, H8⟩
  rw [take_mrk] at B7
  have B8 := B7.chgF H8
  have M8 := M7.chg H8 (fun e => e)
  have S8 := S7.chgF H8
  have G8 := G7.trans H8
  have L8 := L7.chg H8 (fun e => e) (fun e => e) (fun e => e)
  have hs8 := H8.size
  have bs7 : Hid (∀ k, (Value.slice aS ns cs).ownBlock = some k → w6.heap.size ≤ k ∧ k < w8.heap.size) := hyd (fun k hk => S8.block hk)
  clear B7 M7 S7 G7 L7 H8
  go_wp2_with fail
  refine (open_out w8 _ l.length cf2 l bl rfl hcf2 B8).mono ?_
  rintro e w9 ⟨ao, no, co, eo, lo, rfl, hno, O9, hlo, isO, H9⟩
  have M9 := M8.chg H9 (fun e => e)
  have S9 := S8.chgF H9
  have G9 := G8.trans H9
  have L9 := L8.chg H9 (fun e => e) (fun e => e) (fun e => e)
  have hs9 := H9.size
  have bo9 : Hid (∀ k, (Value.slice ao no co).ownBlock = some k → w8.heap.size ≤ k ∧ k < w9.heap.size) := hyd (fun k hk => O9.block hk)
  have HNO2 := hyd hno
  have HIO := hyd isO
  clear B8 M8 S8 G8 L8 H9 hno isO
  go_wp2_with fail
  refine (kept_any w9 _ s f g l.length (l ++ mrk 5) (l ++ mrk 5) L9 (by omega) (by omega)).mono ?_
  rintro e w10 ⟨rfl, H10⟩
  have M10 := M9.chg H10 (fun e => e)
  have S10 := S9.chgF H10
  have O10 := O9.chgF H10
  have G10 := G9.trans H10
  have L10 := L9.chg H10 (fun e => e) (fun e => e) (fun e => e)
  have hs10 := H10.size
  have hdd : decide (l ++ mrk 5 = l ++ mrk 5) = true := by simp
  rw [hdd]
  clear M9 S9 O9 G9 L9 H10
  go_wp2_with fail
  refine (turn_any w10 _ s f g l.length (l ++ mrk 5) (l ++ mrk 5) L10 rfl (by omega)).mono ?_
  rintro e w11 ⟨rfl, L11, H11⟩
  have M11 := M10.chg H11 (by omega)
  have S11 := S10.chg H11 (fun k _ hk => by have := bs7.out k hk; omega)
  have O11 := O10.chg H11 (fun k _ hk => by have := bo9.out k hk; omega)
  have G11 : Chg (fun _ => False) w w11 := G10.trans' H11 (fun i hi e => by omega)
  have hs11 := H11.size
  clear M10 S10 O10 L10 G10 H11
  have hgw : w.heap.size ≤ gm := by omega
  have hws : w.heap.size ≤ w6.heap.size := by omega
  have hfs : f < w6.heap.size := by omega
  have hgs : g < w6.heap.size := by omega
  have hss : s < w6.heap.size := by omega
  have hgm6 : gm < w4.heap.size := by omega
  have hw8 : w6.heap.size ≤ w8.heap.size := by omega
  have hw4 : w4.heap.size ≤ w6.heap.size := by omega
  clear hs1 hms hg3 hs3 hs4 t4 t5 t6 hs6 hs7 hs8 hs9 hs10 hs11 hgm hcf hcf2 hdm hdd
  have SX := S11
  have OX := O11
  have MX := M11
  have LX := L11
  have GX := G11
  rcases HIS.out with ⟨h50, rfl, rfl, rfl, rfl, rfl⟩ | ⟨h50, rfl, rfl, rfl, rfl⟩
  case' inl => rcases HIO.out with ⟨h58, rfl, rfl, rfl, rfl, rfl⟩ | ⟨h58, hmk, rfl, rfl, rfl, rfl, rfl⟩ | ⟨h58, hmk, rfl, rfl, rfl, rfl⟩
  case' inl.inl =>
      have x50 : ((l.length : Int) != 50) = true := by simp only [bne_iff_ne, ne_eq]; omega
      have x58 : ((l.length : Int) != 58) = true := by simp only [bne_iff_ne, ne_eq]; omega
      have y50 : ((l.length : Int) == 50) = false := by simp only [beq_eq_false_iff_ne, ne_eq]; omega
      have y58 : ((l.length : Int) == 58) = false := by simp only [beq_eq_false_iff_ne, ne_eq]; omega
      have q1 := neq_arg_arg
      clear HIS HIO h50 h58 M11 S11 O11 L11 G11
      go_wp2_with fail
      clear x50 x58 y50 y58 q1
  case' inl.inr.inl =>
      obtain ⟨c, o, rfl, hc, hcc⟩ := (HL.out.chgF G11).at_ (show l.length ≠ 0 by omega)
      have hcall := rmarked_any w11 c o cap0 l h58 hc hcc
      rw [decide_eq_false hmk] at hcall
      have x50 : ((l.length : Int) != 50) = true := by rw [h58]; rfl
      have x58 : ((l.length : Int) != 58) = false := by rw [h58]; rfl
      have y50 : ((l.length : Int) == 50) = false := by rw [h58]; rfl
      have y58 : ((l.length : Int) == 58) = true := by rw [h58]; rfl
      have q1 := neq_arg_arg
      have q2 := neq_mark_mark
      rw [← h58] at hcall
      clear HIS HIO h50 h58 hc hcc SX OX MX LX GX
      go_wp2_with fail
      refine hcall.mono ?_
      rintro e w12 ⟨rfl, H12⟩
      have SX := S11.chgF H12
      have OX := O11.chgF H12
      have MX := M11.chg H12 (fun e => e)
      have LX := L11.chg H12 (fun e => e) (fun e => e) (fun e => e)
      have GX := G11.trans H12
      clear M11 S11 O11 L11 G11 H12 hcall
      go_wp2_with fail
      clear x50 x58 y50 y58 q1 q2
  case' inl.inr.inr =>
      obtain ⟨c, o, rfl, hc, hcc⟩ := (HL.out.chgF G11).at_ (show l.length ≠ 0 by omega)
      have hcall := rmarked_any w11 c o cap0 l h58 hc hcc
      rw [decide_eq_true hmk, ← h58] at hcall
      have x50 : ((l.length : Int) != 50) = true := by rw [h58]; rfl
      have x58 : ((l.length : Int) != 58) = false := by rw [h58]; rfl
      have y50 : ((l.length : Int) == 50) = false := by rw [h58]; rfl
      have y58 : ((l.length : Int) == 58) = true := by rw [h58]; rfl
      have z58 : (50 : Int) ≤ (l.length : Int) := by omega
      have hcp : (50 : Int) ≤ (cap0 : Int) := by have := HC0.out; omega
      have q1 := neq_arg_arg
      have q2 := neq_nil_nil
      have H58 := hyd h58
      clear HIS HIO h50 h58 hc hcc SX OX MX LX GX
      go_wp2_with fail
      refine hcall.mono ?_
      rintro e w12 ⟨rfl, H12⟩
      have S12 := S11.chgF H12
      have O12 := O11.chgF H12
      have M12 := M11.chg H12 (fun e => e)
      have L12 := L11.chg H12 (fun e => e) (fun e => e) (fun e => e)
      have G12 := G11.trans H12
      clear M11 S11 O11 L11 G11 H12 hcall
      have ht : (l.take 50).length = 50 := by rw [List.length_take, H58.out]; rfl
      have hB : Held w12 (.slice (some ⟨c, o, none⟩) 50 cap0) (l.take 50) := by
        obtain ⟨c', o', e', hc, hcc⟩ := (HL.out.chgF G12).at_ (show l.length ≠ 0 by rw [H58.out]; decide)
        simp only [Option.some.injEq, Addr.mk.injEq] at e'
        obtain ⟨rfl, rfl, -⟩ := e'
        refine ⟨_, _, by rw [ht], Or.inr ⟨c, o, rfl, hc, fun i hi => ?_⟩⟩
        rw [hcc i (by rw [H58.out]; omega), List.getD_eq_getElem?_getD, List.getD_eq_getElem?_getD, List.getElem?_take_of_lt (by omega)]
      have hcall := same_n w12 ao _ 50 50 50 cap0 (l.take 50) (l.take 50) ht.symm ht.symm O12.held hB (by omega) (by omega)
      rw [decide_eq_true rfl] at hcall
      have HT := hyd ht
      clear ht hB
      go_wp2_with fail
      refine hcall.mono ?_
      rintro e w13 ⟨rfl, H13⟩
      have SX := S12.chgF H13
      have OX := O12.chgF H13
      have MX := M12.chg H13 (fun e => e)
      have LX := L12.chg H13 (fun e => e) (fun e => e) (fun e => e)
      have GX := G12.trans H13
      clear M12 S12 O12 L12 G12 H13 hcall
      go_wp2_with fail
      clear x50 x58 y50 y58 q1 q2 z58 hcp
  case' inr =>
    have h58 : l.length ≠ 58 := by omega
    obtain ⟨rfl, rfl, rfl, rfl, rfl⟩ : ao = none ∧ no = 0 ∧ co = 0 ∧ eo = .iface 29 (.int .i64 1) ∧ lo = [] := by
      rcases HIO.out with h | h | h
      · exact h.2
      · exact absurd h.1 h58
      · exact absurd h.1 h58
    obtain ⟨c, o, rfl, hc, hcc⟩ := (HL.out.chgF G11).at_ (show l.length ≠ 0 by omega)
    have hcall := rsealed_any w11 c o cap0 l h50 hcc
    rw [← h50] at hcall
    have x50 : ((l.length : Int) != 50) = false := by rw [h50]; rfl
    have x58 : ((l.length : Int) != 58) = true := by rw [h50]; rfl
    have y50 : ((l.length : Int) == 50) = true := by rw [h50]; rfl
    have y58 : ((l.length : Int) == 58) = false := by rw [h50]; rfl
    have q1 := neq_arg_arg
    have q2 := neq_nil_nil
    have hlm : Hid ((l ++ mk).length = 58) := hyd (by rw [List.length_append, h50, mk_length])
    clear HIS HIO h50 h58 hc hcc SX OX MX LX GX
    go_wp2_with fail
    refine hcall.mono ?_
    rintro e w12 ⟨ar, kr, rfl, R12, H12⟩
    have S12 := S11.chgF H12
    have O12 := O11.chgF H12
    have M12 := M11.chg H12 (fun e => e)
    have L12 := L11.chg H12 (fun e => e) (fun e => e) (fun e => e)
    have G12 := G11.trans H12
    clear M11 S11 O11 L11 G11 H12 hcall
    have hcall := same_n w12 aS ar 58 58 58 kr (l ++ mk) (l ++ mk) hlm.out.symm hlm.out.symm S12.held R12.held (by rw [hlm.out]; decide) (by rw [hlm.out]; decide)
    rw [decide_eq_true rfl] at hcall
    clear R12
    go_wp2_with fail
    refine hcall.mono ?_
    rintro e w13 ⟨rfl, H13⟩
    have SX := S12.chgF H13
    have OX := O12.chgF H13
    have MX := M12.chg H13 (fun e => e)
    have LX := L12.chg H13 (fun e => e) (fun e => e) (fun e => e)
    have GX := G12.trans H13
    clear M12 S12 O12 L12 G12 H13 hcall
    go_wp2_with fail
    clear x50 x58 y50 y58 q1 q2
  all_goals
    refine (apart3 _ 0 _ _ _ _ _ _ _ _ _ mk _ _ rfl HNS.out HNO2.out (MX.tight (Nat.zero_le _) 8 rfl (by decide)) (SX.mono (fun _ _ => Nat.zero_le _)) (OX.mono (fun _ _ => Nat.zero_le _)) (Nat.zero_le _)
      (fun k h1 h2 => by have e : gm = k := Option.some.inj h1; have := bs7.out k h2; omega) (fun k h1 h2 => by have e : gm = k := Option.some.inj h1; have := bo9.out k h2; omega)
      (fun k h1 h2 => by have := bs7.out k h1; have := bo9.out k h2; omega) (by decide) hls hlo).mono ?_
    rintro e wA ⟨rfl, HA⟩
    have LA := (LX.chg ((Chg.refl (fun _ => False) _).alloc _) (fun e => e) (fun e => e) (fun e => e)).chg HA
      (by rintro (h | h | h) <;> first | (have e : gm = s := Option.some.inj h; omega) | (have := bs7.out s h; omega) | (have := bo9.out s h; omega))
      (by rintro (h | h | h) <;> first | (have e : gm = f := Option.some.inj h; omega) | (have := bs7.out f h; omega) | (have := bo9.out f h; omega))
      (by rintro (h | h | h) <;> first | (have e : gm = g := Option.some.inj h; omega) | (have := bs7.out g h; omega) | (have := bo9.out g h; omega))
    have GA : Chg (fun _ => False) w wA := (GX.alloc _).trans' HA (fun i hi e => by
      rcases e with h | h | h
      · have e : gm = i := Option.some.inj h
        omega
      · have := bs7.out i h; omega
      · have := bo9.out i h; omega)
    clear HA LX GX MX SX OX bs7 bo9 HNS HNO2
    go_wp2_with fail
    refine (kept_any wA _ s f g l.length _ _ LA (by rw [trn_length]; omega) (by rw [trn_length]; omega)).mono ?_
    rintro e wB ⟨rfl, HB⟩
    have GB := GA.trans HB
    have hdd2 : decide (trn (l ++ mrk 5).length = trn (l ++ mrk 5).length) = true := by simp
    rw [hdd2]
    clear LA GA HB hdd2
    go_wp2_with fail
    refine (mark_any wB).mono ?_
    rintro e wC ⟨gC, rfl, hgC, MC, HC⟩
    go_wp2_with fail
    refine (rmark_any wC).mono ?_
    rintro e wD ⟨gD, rfl, hgD, AD, HD⟩
    have MD := MC.chg HD (fun e => e)
    go_wp2_with fail
    refine (same_n wD _ _ 8 8 8 8 mk mk rfl rfl (MD.tight (Nat.zero_le _) 8 rfl (by decide)).held (AD.heldFull 8 8 rfl) (by decide) (by decide)).mono ?_
    rintro e wE ⟨rfl, HE⟩
    have GE := ((GB.trans HC).trans HD).trans HE
    have hdm : decide (mk = mk) = true := by simp
    rw [hdm]
    clear MC MD AD HC HD HE GB
    go_wp2
    go_ret
    exact ⟨rfl, GE.below (fun k e => e.elim) (Nat.le_refl _)⟩
end Go.Proofs.Ytjnmfgaaafnpaaa
