/-
  ScriptBlanks, walked: blanks more, remarks, and lines without words change nothing of what is read. Conditions: the steps and the ints lie in memory, the numbers are ints; the variables hold what they were given.
-/
import Derived.Test.YtepbfdbooobnlaaGreatDoorBZ
import Derived.Deep.CutRange
namespace Go.Proofs.YtepbfdbooobnlaaGreatDoor
set_option maxRecDepth 100000
open Go.RowKit
theorem cell_new1 (w : World) (x : Value) : (w.alloc (.cells #[x] 5)).cell? ⟨w.heap.size, 0, none⟩ = some x := by
  have h := heap_new w (.cells #[x] 5)
  simp only [World.cell?, h]
  rfl
theorem int32 : (Value.int .u8 32) = .int .u8 ((32 : UInt8).toNat : Int) := rfl
set_option maxHeartbeats 4000000 in
theorem blanks_any (v : Value) (l : List S3) (a1 : Option Addr) (n1 c1 : Nat) (ns : List Int) (w : World) (hl : Sl w v l) (hI : ∀ f ∈ l, I64 f.a ∧ I64 f.b) (hn : ns.length = n1) (hN : Ins w a1 ns) (hG : Gl w) :
    Calls Tryz.prog 7 #[v, .slice a1 n1 c1] w fun e w' => e = .returned (.bool true) ∧ Chg (fun _ => False) w w' := by
  have HS := hyd hl
  have HI := hyd hI
  have HN := hyd hn
  have HM := hyd hN
  have HG := hyd hG
  clear hl hI hn hG hN
  obtain ⟨va, vn, vc, rfl⟩ : ∃ a n c, v = .slice a n c := by obtain ⟨a, c, h, _⟩ := HS.out; exact ⟨a, _, c, h⟩
  obtain ⟨HV, HVc⟩ : Hid (vn = l.length) ∧ Hid (vn ≤ vc) := by
    obtain ⟨a, c, h, h2, _⟩ := HS.out
    simp only [Value.slice.injEq] at h
    obtain ⟨rfl, h3, rfl⟩ := h
    exact ⟨h3, by show _ ≤ _; omega⟩
  go_enter Tryz.func7, Tryz.ntmps7
  go_wp2_with (first | (go_at_call 8; refine (shown_any _ HG.out).mono ?_; rintro e w1 ⟨rfl, hC1⟩; refine Hid.out ?_))
  refine Lib.hid ?_
  have HC1 := hyd hC1
  have HG1 := hyd (HG.out.new hC1)
  have HS1 := hyd (HS.out.new hC1)
  have HM1 := hyd (HM.out.new hC1)
  clear hC1 HG HS HM
  go_upto_if 20 with fail
  go_cut [0] from 18 to 22 (fun s0 wx => ∃ (L : List S3) (a : Option Addr) (n c : Nat), s0 = .slice a n c ∧ Hid (Sl w1 (.slice a n c) L) ∧ Hid (L.length ≤ 100) ∧ Hid (∀ f ∈ L, I64 f.a ∧ I64 f.b) ∧ w1 = wx)
  case first =>
    by_cases h : 100 < vn
    · have hz : (vn : Int) > 100 := by omega
      have hc := HVc.out
      have hc2 : 100 ≤ vc := by omega
      go_wp2_with fail
      go_meet
      case rel => exact ⟨l.take 100, _, _, _, rfl, HS1.out.take 100 (by have := HV.out; omega), by show _ ≤ _; rw [List.length_take]; omega, fun f hf => HI.out f (List.mem_of_mem_take hf), rfl⟩
    · have hz : ¬ (vn : Int) > 100 := by omega
      go_wp2_with fail
      go_meet
      case rel => exact ⟨l, _, _, _, rfl, HS1, by show _ ≤ _; rw [← HV.out]; omega, HI, rfl⟩
  case rest =>
  obtain ⟨L, a, n, c, rfl, HL, HLn, HIL, rfl⟩ := hcut
  clear HS1 HV HVc HI
  by_cases ht : ∀ f ∈ L, tld f = true
  · have HT := hyd ht
    clear ht
    have HL40 : Hid (L.length ≤ 1099511627776) := by show _ ≤ _; have := HLn.out; omega
    go_wp2_with (first | (go_at_call 17; refine (text_yes _ _ _ HL.out HIL.out HL40.out HG1.out HT.out).mono ?_; rintro e w2 ⟨X, rfl, HX, hC2⟩; refine Hid.out ?_))
    refine Lib.hid ?_
    have HC2 := hyd (HC1.out.trans hC2)
    have HG2 := hyd (HG1.out.new hC2)
    have HL2 := hyd (HL.out.new hC2)
    have HM2 := hyd (HM1.out.new hC2)
    clear hC2 HC1 HG1 HL HM1 HL40
    have HOk : Hid (∀ s ∈ L.map S3.t, Okt s) := by
      intro x hx
      obtain ⟨f, hf, rfl⟩ := List.mem_map.1 hx
      exact tld_ok (HT.out f hf) (HIL.out f hf).1 (HIL.out f hf).2
    have HXd : Hid (X.data.toList = txt (L.map S3.t)) := by show _ = _; rw [HX.out, sb_list]
    have HXs : Hid (X.size ≤ 5400) := by
      show _ ≤ _
      rw [size_len, HXd.out]
      have := txt_len HOk.out
      rw [List.length_map] at this
      have := HLn.out
      omega
    have HXl : Hid (X.size = X.data.toList.length) := size_len X
    obtain ⟨T, HTe⟩ : ∃ T, Hid (blz (mo ns) 0 X.data.toList = T) := ⟨_, rfl⟩
    have HTp : Hid (prt T = .ok (L.map S3.t)) := by show _ = _; rw [← HTe.out, HXd.out]; exact prt_blz _ HOk.out
    have HTl : Hid (T.length ≤ 8000) := by
      show _ ≤ _
      rw [← HTe.out, HXd.out]
      have := blz_len (mo ns) (mo_le ns) (L.map S3.t) 0 HOk.out
      rw [List.length_map] at this
      have := HLn.out
      omega
    clear HX HXd HOk HIL
    have hm := HXs.out
    go_wp2_with fail
    go_loopg [8, 9, 10] 5400 (fun kx s8 s9 s10 wr => ∃ (i k : Nat) (acc : List UInt8), s9 = .int .i64 k ∧ s10 = .int .i64 i ∧ i ≤ X.size ∧ k ≤ i ∧ 5400 - i ≤ kx ∧ Hid (Bz w2 wr s8 acc) ∧ Hid (acc ++ blz (mo ns) k (X.data.toList.drop i) = T))
    case atStart => exact ⟨0, 0, [], rfl, rfl, by omega, by omega, by omega, Bz.nil (Chg.refl _ _), by show _ = _; rw [List.nil_append, List.drop_zero]; exact HTe.out⟩
    case round =>
    obtain ⟨i, k, acc, rfl, rfl, hi, hki, hkx, HB, HA⟩ := hrel
    by_cases hlt : i < X.size
    · have hltz : (i : Int) < X.size := by omega
      obtain ⟨c, hc⟩ : ∃ c, X.data.toList[i]? = some c := ⟨_, List.getElem?_eq_getElem (by rw [← HXl.out]; exact hlt)⟩
      have hix := idx_str hc
      have HAt := hyd (blz_at hc HA.out)
      have HAl : Hid (acc.length ≤ 8000) := by
        show _ ≤ _
        have h1 := congrArg List.length HA.out
        rw [List.length_append] at h1
        have := HTl.out
        omega
      clear hc HA
      go_upto_if 44 with fail
      go_cut [11] from 41 to 49 (fun s11 wx => ∃ z : Int, s11 = .int .i64 z ∧ z ≤ 3 ∧ Hid (mo ns k = z.toNat) ∧ wr = wx)
      case first =>
        by_cases hk : k < n1
        · have hkz : (k : Int) < n1 := by omega
          obtain ⟨z, hz⟩ : ∃ z, ns[k]? = some z := ⟨_, List.getElem?_eq_getElem (by rw [HN.out]; exact hk)⟩
          have hzl := HM2.out.2
          rcases hzl with h0 | ⟨g, o, rfl, hg, hcell⟩
          · rw [HN.out] at h0; omega
          have hz1 := (HB.out.chg.cell hg (fun f => f) (o + k)).trans (hcell k z hz)
          have HZ := hyd (mo_some hz)
          have HZb := hyd (HM2.out.1 z (List.mem_of_getElem? hz))
          clear hcell hz hg
          go_wp2_with fail
          go_meet
          case rel => exact ⟨z.tmod 4, rfl, (tmod4 z).1, HZ, rfl⟩
        · have hkz : ¬ (k : Int) < n1 := by omega
          go_wp2_with fail
          go_meet
          case rel => exact ⟨0, rfl, by omega, mo_none (by rw [HN.out]; omega), rfl⟩
      case rest =>
      obtain ⟨z, rfl, hz3, HZ, rfl⟩ := hcut
      by_cases h32 : c = 32
      · have hc1 : (c.toNat : Int) = 32 := by rw [h32]; rfl
        have HQ := hyd (HAt.out.1 h32)
        rw [HZ.out] at HQ
        clear HAt h32
        go_wp2_with fail
        go_loopg [8, 12] 3 (fun kx s8 s12 wx => ∃ j : Nat, s12 = .int .i64 j ∧ j ≤ z.toNat ∧ 3 - j ≤ kx ∧ Hid (Bz w2 wx s8 (acc ++ sp j)))
        case atStart => exact ⟨0, rfl, by omega, by omega, by show Bz _ _ _ _; rw [show sp 0 = [] from rfl, List.append_nil]; exact HB.out⟩
        case round =>
        obtain ⟨j, rfl, hj, hjx, HBj⟩ := hrel
        have HJl : Hid ((acc ++ sp j).length ≤ 1000000) := by show _ ≤ _; rw [List.length_append]; have := HAl.out; simp [sp]; omega
        by_cases hjz : (j : Int) < z
        · go_wp2_with (at_builtin; refine wpList_append_b1 _ rfl _ _ rfl w2 _ (acc ++ sp j) rfl (HBj.out.alloc _) _ 32 rfl ?hc HJl.out ?_)
          case hc => exact (cell_new1 _ _).trans (congrArg some int32)
          intro v5 w5 h5
          have HB5 : Hid (Bz w2 w5 v5 (acc ++ sp (j + 1))) := by show Bz _ _ _ _; rw [sp_next]; exact h5
          clear h5
          go_wp2
          go_roundg (3 - (j + 1))
          case measure => omega
          case rel => exact ⟨j + 1, by simp, by omega, Nat.le_refl _, HB5⟩
        · have hje : j = z.toNat := by omega
          subst hje
          go_wp2_with (at_builtin; refine wpList_append_b1 _ rfl _ _ rfl w2 _ (acc ++ sp z.toNat) rfl (HBj.out.alloc _) _ 32 rfl ?hc HJl.out ?_)
          intro v5 w5 h5
          rw [← List.append_assoc] at h5
          have HB5 := hyd h5
          clear h5
          go_wp2
          go_roundg (5400 - (i + 1))
          case measure => omega
          case rel => exact ⟨i + 1, k + 1, _, by simp, by simp, by omega, by omega, Nat.le_refl _, HB5, HQ⟩
      · have hc1 : ¬ (c.toNat : Int) = 32 := by
          intro e; apply h32
          have : c.toNat = 32 := by omega
          exact UInt8.toNat_inj.1 this
        by_cases h10 : c = 10
        · have hc2 : (c.toNat : Int) = 10 := by rw [h10]; rfl
          have HQ := hyd (HAt.out.2.1 h32 h10)
          clear HAt h32 h10
          have HJl : Hid (acc.length + tl4.length ≤ 1000000) := by show _ ≤ _; have := HAl.out; have h7 : tl4.length = 14 := rfl; omega
          go_wp2_with (at_builtin; refine wpList_append_bs _ rfl _ _ rfl w2 _ acc rfl HB.out tl4 rfl HJl.out ?_)
          intro v5 w5 h5
          have HB5 := hyd h5
          clear h5
          go_wp2
          go_roundg (5400 - (i + 1))
          case measure => omega
          case rel => exact ⟨i + 1, k + 1, _, by simp, by simp, by omega, by omega, Nat.le_refl _, HB5, HQ⟩
        · have hc2 : ¬ (c.toNat : Int) = 10 := by
            intro e; apply h10
            have : c.toNat = 10 := by omega
            exact UInt8.toNat_inj.1 this
          have HQ := hyd (HAt.out.2.2 h32 h10)
          clear HAt h32 h10
          have HJl : Hid (acc.length ≤ 1000000) := by show _ ≤ _; have := HAl.out; omega
          go_wp2_with (at_builtin; refine wpList_append_b1 _ rfl _ _ rfl w2 _ acc rfl (HB.out.alloc _) _ c rfl (cell_new1 _ _) HJl.out ?_; intro v5 w5 h5; have HB5 := hyd h5; clear h5)
          go_roundg (5400 - (i + 1))
          case measure => omega
          case rel => exact ⟨i + 1, k, _, by simp, by simp, by omega, by omega, Nat.le_refl _, HB5, HQ⟩
    · have hltz : ¬ (i : Int) < X.size := by omega
      have hie : i = X.size := by omega
      have HAe : Hid (acc = T) := by
        show _ = _
        have h1 := HA.out
        rw [List.drop_eq_nil_of_le (by rw [← HXl.out]; omega), blz, List.append_nil] at h1
        exact h1
      have hcv := HB.out.str
      rw [HAe.out] at hcv
      have HCr := hyd HB.out.chg
      have HGr := hyd (HG2.out.new HCr.out)
      have HLr := hyd (HL2.out.new HCr.out)
      clear HA HB HAe
      have HPs : Hid ((sb T).size ≤ 65536) := by show _ ≤ _; rw [sb_size]; have := HTl.out; omega
      go_wp2_with (first | (go_at_call 13; refine (parse_yes (sb T) _ HTp.out HPs.out _ HGr.out).mono ?_; rintro e w3 ⟨v3, rfl, hO3, hC3⟩; refine Hid.out ?_))
      refine Lib.hid ?_
      have HC3 := hyd (HC2.out.trans (HCr.out.trans hC3))
      have HL3 := hyd (HLr.out.new hC3)
      rw [map_ts HT.out] at hO3
      have HT3 := hyd hO3.sl
      obtain ⟨a3, n3, c3, rfl⟩ := hO3.form
      clear hC3 hO3 hcv
      go_wp2_with (first | (go_at_call 15; refine (same_true _ _ _ _ HL3.out HT3.out (by have := HLn.out; omega)).mono ?_; rintro e w4 ⟨rfl, hC4⟩; refine Hid.out ?_))
      refine Lib.hid ?_
      have HC4 := hyd (HC3.out.trans hC4)
      clear hC4
      go_wp2
      go_ret
      exact ⟨rfl, HC4.out⟩
  · have HT := hyd ht
    clear ht
    have HL40 : Hid (L.length ≤ 1099511627776) := by show _ ≤ _; have := HLn.out; omega
    go_wp2_with (first | (go_at_call 17; refine (text_no _ _ _ HL.out HIL.out HL40.out HG1.out HT.out).mono ?_; rintro e w2 ⟨h, rfl, hC2⟩; refine Hid.out ?_))
    refine Lib.hid ?_
    have HC2 := hyd (HC1.out.trans hC2)
    clear hC2
    go_wp2
    go_ret
    exact ⟨rfl, HC2.out⟩
end Go.Proofs.YtepbfdbooobnlaaGreatDoor
