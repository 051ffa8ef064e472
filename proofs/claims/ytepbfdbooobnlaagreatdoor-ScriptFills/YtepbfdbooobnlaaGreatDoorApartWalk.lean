/-
  patinaref01.Apart, walked: it answers true. Conditions: the lists are slices of bytes in blocks of their own; there is room.
-/
import Derived.Test.YtepbfdbooobnlaaGreatDoorApart
namespace Go.Proofs.YtepbfdbooobnlaaGreatDoor
set_option maxRecDepth 100000
open Go.RowKit

theorem info39_all : (Tryz.prog.info? 23).map (fun i => (i.zero, i.size, i.bytes)) = some (some (.slice none 0 0), 1, 24) := by kernel_rfl

theorem ct_int (i k : Nat) : ((37 * (i : Int) + (k : Int)) % 256) = ((ct i k : Nat) : Int) := by unfold ct; omega
theorem tl_int (i k : Nat) : ((100 + 37 * (i : Int) + (k : Int)) % 256) = ((tl i k : Nat) : Int) := by unfold tl; omega

set_option maxRecDepth 100000 in
set_option maxHeartbeats 4000000 in
theorem apart_any (w : World) (L lo N capL base : Nat) (A : Nat → Option Addr) (C : Nat → Nat) (l : Nat → List Nat) (hN : N ≤ 4398046511104) (hbase : base ≤ w.heap.size)
    (hLs : L < w.heap.size) (hcell : ∀ i, i < N → w.cell? ⟨L, lo + i, none⟩ = some (.slice (A i) (l i).length (C i)))
    (hL : Lists w N base (fun i => .slice (A i) (l i).length (C i)) l) (hlen : ∀ i, i < N → (l i).length ≤ 70368744177664)
    (hd : ∀ i, i < N → (Value.slice (A i) (l i).length (C i)).ownBlock ≠ some L) :
    Calls Tryz.prog 12 #[.slice (some ⟨L, lo, none⟩) N capL] w fun e w' => e = .returned (.bool true) ∧ Chg (Blk N fun i => .slice (A i) (l i).length (C i)) w w' := by
  have hi5 := info5
  have HC : Hid (∀ i, i < N → w.cell? ⟨L, lo + i, none⟩ = some (.slice (A i) (l i).length (C i))) := hcell
  have HLn : Hid (∀ i, i < N → (l i).length ≤ 70368744177664) := hlen
  have HD : Hid (∀ i, i < N → (Value.slice (A i) (l i).length (C i)).ownBlock ≠ some L) := hd
  have hnb : ¬ Blk N (fun i => .slice (A i) (l i).length (C i)) L := fun ⟨i, h1, h2⟩ => hd i h1 h2
  clear hcell hlen hd
  go_enter Tryz.func12, Tryz.ntmps12
  go_wp2
  go_loopw [3, 4] (fun vg t wr => ∃ (i : Nat) (Gs : List Value), t = .int .i64 i ∧ Inv w N base (fun i => .slice (A i) (l i).length (C i)) l i wr vg Gs) (fun _ t _ => N - (intOf t).toNat)
  case atStart => exact ⟨0, [], rfl, Inv.start hL⟩
  case round =>
    rename World => wo
    obtain ⟨i, Gs, rfl, hI⟩ := hrel
    by_cases hlt : i < N
    · have hcr : wo.cell? ⟨L, lo + i, none⟩ = some (.slice (A i) (l i).length (C i)) := (World.cell?_of_block (w := w) (a := ⟨L, lo + i, none⟩) (hI.chg.block L hLs hnb)).trans (HC.out i hlt)
      have hli := HLn.out i hlt
      have hLne : ¬ (Value.slice (A i) (l i).length (C i)).ownBlock = some L := HD.out i hlt
      have hLr : L < wo.heap.size := Nat.lt_of_lt_of_le hLs hI.chg.size
      have hO := hI.rest i (Nat.le_refl _) hlt
      have HLne : Hid (¬ (Value.slice (A i) (l i).length (C i)).ownBlock = some L) := hLne
      clear hLne
      go_wp2
      go_loopw [5] (fun t wx => ∃ k : Nat, k ≤ (l i).length ∧ t = .int .i64 k ∧ Chg (fun k => (Value.slice (A i) (l i).length (C i)).ownBlock = some k) wo wx ∧ OwnT wx base 5 (.slice (A i) (l i).length (C i)) (ovw i (l i) k)) (fun t _ => (l i).length - (intOf t).toNat)
      case atStart => exact ⟨0, Nat.zero_le _, rfl, Chg.refl _ _, by rw [ovw_zero]; exact hO⟩
      case round =>
        rename World => wx
        obtain ⟨k, hk, rfl, hx, hxo⟩ := hrel
        have hcx : wx.cell? ⟨L, lo + i, none⟩ = some (.slice (A i) (l i).length (C i)) := (World.cell?_of_block (w := wo) (a := ⟨L, lo + i, none⟩) (hx.block L hLr HLne.out)).trans hcr
        by_cases hlk : k < (l i).length
        · have hln : (ovw i (l i) k).length = (l i).length := ovw_length i (l i) k hk
          obtain ⟨g, cap, hv, hg, hgs, _, hgc, hgf⟩ := hxo.lies (by omega)
          have hA : A i = some ⟨g, 0, none⟩ := by simp only [Value.slice.injEq] at hv; exact hv.1
          have hkc := hgc k (by omega)
          have hkf := hgf k (by omega)
          have hOB : Hid ((Value.slice (A i) (l i).length (C i)).ownBlock = some g) := by rw [hA]; exact rfl
          have hxo2 : OwnT (wx.setCell ⟨g, k, none⟩ (.int .u8 ((37 * (i : Int) + (k : Int)) % 256))) base 5 (.slice (A i) (l i).length (C i)) (ovw i (l i) (k + 1)) := by
            rw [← ovw_set i (l i) k hlk, ct_int, hA]
            rw [hA] at hxo
            exact hxo.store k _ (by omega)
          rw [hA] at hcx
          have HX2 : Hid (OwnT (wx.setCell ⟨g, k, none⟩ (.int .u8 ((37 * (i : Int) + (k : Int)) % 256))) base 5 (.slice (A i) (l i).length (C i)) (ovw i (l i) (k + 1))) := hxo2
          have HA : Hid (A i = some ⟨g, 0, none⟩) := hA
          generalize (ovw i (l i) k).getD k 0 = old at hkc
          clear hxo2 hA hv hgc hgf hln hcr
          go_wp2
          exact ⟨⟨k + 1, by omega, by go_num, hx.setCell (Or.inl hOB.out) _ _, HX2.out⟩, by simp [intOf]; omega⟩
        · have e : k = (l i).length := by omega
          have hxo2 : OwnT wx base 5 (.slice (A i) (l i).length (C i)) (con i (l i).length) := by rw [e, ovw_full] at hxo; exact hxo
          clear hxo e
          go_wp2
          clear hcx
          go_loopw [6, 7] (fun v' t wy => ∃ m : Nat, m ≤ 7 ∧ t = .int .i64 m ∧ Chg (fun k => (Value.slice (A i) (l i).length (C i)).ownBlock = some k) wo wy ∧ Held wy (.slice (A i) (l i).length (C i)) (con i (l i).length) ∧
            OwnT wy base 5 v' (con i (l i).length ++ tails i m) ∧ (v'.ownBlock = (Value.slice (A i) (l i).length (C i)).ownBlock ∨ ∃ h, wo.heap.size ≤ h ∧ v'.ownBlock = some h)) (fun _ t _ => 7 - (intOf t).toNat)
          case atStart => exact ⟨0, by omega, rfl, hx, hxo2.held, by simpa [tails] using hxo2, Or.inl rfl⟩
          case round =>
            rename World => wy
            obtain ⟨m, hm, rfl, hy, hyh, hyo, hyb⟩ := hrel
            have hb2 : base ≤ wy.heap.size := Nat.le_trans hbase (Nat.le_trans hI.chg.size hy.size)
            by_cases hm7 : m < 7
            · have hclen : (con i (l i).length ++ tails i m).length = (l i).length + m := by rw [List.length_append, con_length, tails_length]
              have Htl := tl_int i m
              have HTL : Hid ((100 + 37 * (i : Int) + (m : Int)) % 256 = ((tl i m : Nat) : Int)) := Htl
              clear Htl
              go_wp2_with (at_builtin; refine wpList_append_keeps _ rfl _ _ 23 rfl base 5 Tryz.underlying23 hi5 _ (con i (l i).length ++ tails i m) rfl ?h1 ⟨wy.heap.size, 0, none⟩ 1 1 [tl i m] rfl rfl ?h2 ?h3 ?h4 (by decide) ?_)
              case h1 => exact hyo.keep (fun k hk _ => Below.heap_alloc _ _ _ hk)
              case h2 =>
                intro j hj
                have e : j = 0 := by omega
                subst e
                rw [Addr.add_lit, HTL.out]
                simp
              case h3 => rw [hclen]; omega
              case h4 => simp; omega
              intro v2 wz hO2 hH2 hC2 hB2
              have hcl : (con i (l i).length).length = (l i).length := con_length _ _
              have hG := grow_step (a := A i) (c := C i) (cI := con i (l i).length) (by rw [hcl]; exact hO) (by rw [hcl]; exact hy) (by rw [hcl]; exact hyh) hyo (by rw [hcl]; exact hyb) _ hH2 hC2 (by simpa using hB2) hO2
              rw [hcl] at hG
              have hO3 : OwnT wz base 5 v2 (con i (l i).length ++ tails i (m + 1)) := by rw [tails_succ]; exact hO2
              clear hH2 hC2 hB2 hO2 hy hyh hyo hyb HTL
              go_wp2
              exact ⟨⟨m + 1, by omega, by go_num, hG.1, hG.2.1, hO3, hG.2.2⟩, by simp [intOf]; omega⟩
            · have e : m = 7 := by omega
              subst e
              obtain ⟨i39, q1, q2, q3, q4⟩ := info_parts info39_all
              obtain ⟨g6, cap6, hu6, _, _, _, _, _⟩ := hyo.lies (by rw [List.length_append, tails_length]; omega)
              have hI6 := hI
              have hsz := hI.chg.size
              have hysz := hy.size
              subst hu6
              obtain ⟨s1, s2, s3, s4⟩ := hI.step hL hlt hy
              go_wp2_with (at_builtin; refine wpList_append_own_at _ rfl _ _ 27 rfl w.heap.size 23 i39 (.slice none 0 0) 1 24 Tryz.underlying27 q1 q2 q3 q4 rfl (by decide) _ i Gs rfl ?h1 ⟨wy.heap.size, 0, none⟩ 1 1 [.slice (some ⟨g6, 0, none⟩) (con i (l i).length ++ tails i 7).length cap6] rfl rfl ?h2 ?h3 ?h4 ?h5 ?h6 ?_)
              case h1 => exact ownsRow_keep s1 (fun k hk _ => Below.heap_alloc _ _ _ hk)
              case h2 =>
                intro j u hu
                have hj : j = 0 := by
                  have := (List.getElem?_eq_some_iff.1 hu).1
                  simp at this; omega
                subst hj
                rw [Addr.add_lit]
                simpa using hu
              case h3 =>
                intro u hu
                simp at hu
                subst hu
                rfl
              case h4 => unfold maxLen; omega
              case h5 => omega
              case h6 => simp; omega
              intro vg' wz hown' hgrow' _ hlie'
              rw [← List.length_append] at hown'
              have hI2 := hI.next hL hlt hy hyh hyo hyb _ hown' hgrow' (by simpa using hlie')
              clear hown' hgrow' hlie' hyh hyo hyb hy hI s1 s2 s3 s4 hI6
              go_wp2
              exact ⟨⟨i + 1, _, by go_num, hI2⟩, by simp [intOf]; omega⟩
    · have e : i = N := by have := hI.le; omega
      have HC2 : Hid (∀ j, j < N → wo.cell? ⟨L, lo + j, none⟩ = some (.slice (A j) (l j).length (C j))) := fun j hj => (World.cell?_of_block (w := w) (a := ⟨L, lo + j, none⟩) (hI.chg.block L hLs hnb)).trans (HC.out j hj)
      have hgr : (u3 = .slice none 0 0 ∧ N = 0) ∨ ∃ γ capγ, u3 = .slice (some ⟨γ, 0, none⟩) N capγ ∧ ∀ j, j < N → wo.cell? ⟨γ, j, none⟩ = some (Gs.getD j undef) := by
        subst e
        rcases hI.own.2 with h1 | ⟨γ, capγ, cur, h1, _, hh, _, _, _, ht⟩
        · exact Or.inl h1
        · refine Or.inr ⟨γ, capγ, h1, fun j hj => ?_⟩
          have h2 : (cur.toList.take (i * 1))[j]? = Gs[j]? := by rw [ht]
          rw [List.getElem?_take_of_lt (by omega), Array.getElem?_toList] at h2
          simp only [World.cell?, hh]
          rw [List.getD_eq_getElem?_getD, List.getElem?_eq_getElem (by rw [hI.len]; exact hj)]
          rw [List.getElem?_eq_getElem (by rw [hI.len]; exact hj)] at h2
          simpa using h2
      have hfin : Chg (Blk N fun i => .slice (A i) (l i).length (C i)) w wo := hI.chg
      have HH : Hid (∀ j, j < N → Held wo (.slice (A j) (l j).length (C j)) (con j (l j).length) ∧ Held wo (Gs.getD j undef) (con j (l j).length ++ tails j 7)) := fun j hj => by
        have := hI.done j (by omega)
        exact ⟨this.1, this.2.1⟩
      clear hI hL hnb HC
      rcases hgr with ⟨hu3, hN0⟩ | ⟨γ, capγ, hu3, hγ⟩
      · subst hN0
        subst hu3
        go_wp2
        go_loop [8] (fun t => t = .int .i64 0) (fun _ => 0)
        case atStart => exact rfl
        case round =>
          subst hrel
          go_wp2
          go_ret
          exact ⟨rfl, hfin⟩
      · subst hu3
        have HG : Hid (∀ j, j < N → wo.cell? ⟨γ, j, none⟩ = some (Gs.getD j undef)) := hγ
        clear hγ
        go_wp2
        go_loop [8] (fun t => ∃ j : Nat, j ≤ N ∧ t = .int .i64 j) (fun t => N - (intOf t).toNat)
        case atStart => exact ⟨0, Nat.zero_le _, rfl⟩
        case round =>
          obtain ⟨j, hj, rfl⟩ := hrel
          by_cases hjN : j < N
          · have hcj := HC2.out j hjN
            have hgj := HG.out j hjN
            obtain ⟨hh1, hh2⟩ := HH.out j hjN
            have hlj := HLn.out j hjN
            have HH1 : Hid (Held wo (.slice (A j) (l j).length (C j)) (con j (l j).length)) := hh1
            obtain ⟨ag, capg, hGv, hgc⟩ := hh2
            rw [hGv] at hgj
            have hgl : (con j (l j).length ++ tails j 7).length = (l j).length + 7 := by rw [List.length_append, con_length, tails_length]
            obtain ⟨gg, og, rfl, _, hgc⟩ := hgc.resolve_left (by omega)
            have HGC : Hid (∀ i, i < (con j (l j).length ++ tails j 7).length → wo.cell? ⟨gg, og + i, none⟩ = some (.int .u8 ((con j (l j).length ++ tails j 7).getD i 0 : Nat))) := hgc
            rw [hgl] at hgj
            have HGL : Hid ((con j (l j).length ++ tails j 7).length = (l j).length + 7) := hgl
            clear hgc hh1 hGv hgl
            go_wp2
            go_loop [10] (fun t => ∃ k : Nat, k ≤ (l j).length ∧ t = .int .i64 k) (fun t => (l j).length - (intOf t).toNat)
            case atStart => exact ⟨0, Nat.zero_le _, rfl⟩
            case round =>
              obtain ⟨k, hk, rfl⟩ := hrel
              by_cases hkn : k < (l j).length
              · obtain ⟨a', cap', hv', hc'⟩ := HH1.out
                simp only [Value.slice.injEq] at hv'
                obtain ⟨gv, ov, hav, _, hc'⟩ := hc'.resolve_left (by rw [con_length]; omega)
                have hAj : A j = some ⟨gv, ov, none⟩ := hv'.1.trans hav
                have hck : wo.cell? ⟨gv, ov + k, none⟩ = some (.int .u8 ((37 * (j : Int) + (k : Int)) % 256)) := by
                  rw [hc' k (by rw [con_length]; exact hkn), con_getD _ _ _ hkn, ct_int]
                have hdk : wo.cell? ⟨gg, og + k, none⟩ = some (.int .u8 ((37 * (j : Int) + (k : Int)) % 256)) := by
                  rw [HGC.out k (by rw [HGL.out]; omega), grown_getD _ _ _ _ hkn, ct_int]
                rw [hAj] at hcj
                have HAj : Hid (A j = some ⟨gv, ov, none⟩) := hAj
                clear hc' hv' hav hAj
                go_wp2
                exact ⟨⟨k + 1, by omega, by go_num⟩, by simp [intOf]; omega⟩
              · have hkn' : ¬ (k : Int) < ((l j).length : Int) := by omega
                go_wp2
                go_loop [11] (fun t => ∃ m : Nat, m ≤ 7 ∧ t = .int .i64 m) (fun t => 7 - (intOf t).toNat)
                case atStart => exact ⟨0, Nat.zero_le _, rfl⟩
                case round =>
                  obtain ⟨m, hm, rfl⟩ := hrel
                  by_cases hm7 : m < 7
                  · have hdm : wo.cell? ⟨gg, og + ((l j).length + m), none⟩ = some (.int .u8 ((100 + 37 * (j : Int) + (m : Int)) % 256)) := by
                      rw [HGC.out ((l j).length + m) (by rw [HGL.out]; omega), grown_getD' _ _ _ _ hm7, tl_int]
                    go_wp2
                    exact ⟨⟨m + 1, by omega, by go_num⟩, by simp [intOf]; omega⟩
                  · have e7 : m = 7 := by omega
                    subst e7
                    go_wp2
                    exact ⟨⟨j + 1, by omega, by go_num⟩, by simp [intOf]; omega⟩
          · have hjN' : ¬ (j : Int) < (N : Int) := by omega
            go_wp2
            go_ret
            exact ⟨rfl, hfin⟩
end Go.Proofs.YtepbfdbooobnlaaGreatDoor
