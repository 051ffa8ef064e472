/-
  The line's next word (script), a word's kind, how many numbers a kind has: what they answer. Condition: the line lies in a block; the variables hold what they were given.
-/
import Derived.Test.YtepbfdbooobnlaaGreatDoorSG
namespace Go.Proofs.YtepbfdbooobnlaaGreatDoor
set_option maxRecDepth 100000
open Go.RowKit
/-- The next word; nothing at the end or at a remark. -/
def wq (l : List UInt8) (p : Nat) : List UInt8 := if en (l.drop p) then [] else wo l p
theorem bl_zero {l : List UInt8} {p : Nat} {c : UInt8} (h : l[p]? = some c) (hc : c.toNat ≠ 32) : bl (l.drop p) = 0 := by
  rw [bl_step h, if_neg (fun e => hc (by rw [e]; rfl))]
theorem bl_one {l : List UInt8} {p : Nat} {c : UInt8} (h : l[p]? = some c) (hc : c.toNat = 32) : nx l p = nx l (p + 1) := by
  unfold nx
  rw [bl_step h, if_pos (byte_ext (b := 32) hc)]; omega
theorem pre_v (r : ByteArray) (b : Bool) (hb : Lib.hasPrefix r.data.toList [35] = b) (w : World) :
    Calls Tryz.prog 57 #[.string r, .string ⟨#[35]⟩] w fun e w' => e = .returned (.bool b) ∧ w' = w := by
  subst hb
  exact Tryz.strings_HasPrefix r ⟨#[35]⟩ w
theorem cut_v (r : ByteArray) (x : List UInt8) (hx : wd r.data.toList = x) (hs : r.size ≤ 65536) (w : World) (hG : Gl w) :
    Calls Tryz.prog 58 #[.string r, .string ⟨#[32]⟩] w fun e w' => ∃ X Y : ByteArray, ∃ z : Bool, e = .returned (.tuple #[.string X, .string Y, .bool z]) ∧ Hid (X = sb x) ∧ ∃ m, w' = w.drewN m := by
  obtain ⟨m, hm⟩ := hG.mx
  refine (Tryz.strings_Cut r ⟨#[32]⟩ m w (by omega) hm).mono ?_
  rintro e w' ⟨rfl, k, rfl⟩
  refine ⟨_, _, _, rfl, ?_, k, rfl⟩
  show _ = _
  rw [← hx, ← cut_wd]; rfl
theorem ext_drop (s : ByteArray) (q : Nat) : (s.extract q s.size).data.toList = s.data.toList.drop q := Lib.extract_to_end s q
set_option maxHeartbeats 1000000 in
theorem word_any (g : Nat) (n : Int) (s : ByteArray) (p : Nat) (w : World) (hg : 10 ≤ g) (hs : s.size ≤ 65536) (hp : p ≤ s.size) (hl : Li w g n s p) (hG : Gl w) :
    Calls Tryz.prog 38 #[.pointer (some ⟨g, 0, none⟩)] w fun e w' => ∃ X : ByteArray, e = .returned (.tuple #[.string X, .int .i64 (nx s.data.toList p)]) ∧ Hid (X = sb (wq s.data.toList (nx s.data.toList p))) ∧ Li w' g n s (nx s.data.toList p + (wq s.data.toList (nx s.data.toList p)).length) ∧ Chg (· = g) w w' := by
  have HL := hyd hl
  have HG := hyd hG
  clear hl hG
  have HP := hyd hp
  clear hp
  go_enter Tryz.func38, Tryz.ntmps38
  go_wp2_with fail
  go_loopg [] 65536 (fun kx wr => ∃ q : Nat, q ≤ s.size ∧ s.size - q ≤ kx ∧ Hid (Li wr g n s q) ∧ Hid (Chg (· = g) w wr) ∧ Hid (nx s.data.toList q = nx s.data.toList p))
  case atStart => exact ⟨p, HP.out, by omega, HL, Chg.refl _ _, rfl⟩
  case round =>
  obtain ⟨q, hq, hkx, HLi, HC, HN⟩ := hrel
  have c1 := HLi.out.c1
  have c2 := HLi.out.c2
  have f2 := HLi.out.fz 2
  by_cases hex : q < s.size ∧ ∃ c, s.data.toList[q]? = some c ∧ c.toNat = 32
  · obtain ⟨hlt, c, hc, h32⟩ := hex
    have hltz : (q : Int) < s.size := by omega
    have hi := idx_str hc
    have HI := hyd (bl_one hc h32)
    clear hc
    have hb : ((c.toNat : Int) == 32) = true := by simp; omega
    go_wp2_with fail
    go_quiet (fail)
    go_wp2
    go_roundg (s.size - (q + 1))
    case measure => omega
    case rel => exact ⟨q + 1, by omega, Nat.le_refl _, (HLi.out.drewN _).set _ _ (by omega), (HC.out.drewN _).setCell (Or.inl rfl) _ _, HI.out.symm.trans HN.out⟩
  · have HX : Hid (nx s.data.toList p = q) := by
      refine HN.out.symm.trans ?_
      by_cases hlt : q < s.size
      · obtain ⟨c, hc⟩ : ∃ c, s.data.toList[q]? = some c := ⟨_, List.getElem?_eq_getElem (by rw [← size_len]; exact hlt)⟩
        unfold nx; rw [bl_zero hc (fun h => hex ⟨hlt, c, hc, h⟩)]; rfl
      · unfold nx; rw [bl_end (by rw [← size_len]; omega)]; rfl
    have hgd : (q < s.size ∧ ∃ x : Int, (∀ w, (Instr.index 9 (.string s) (.int .i64 q)).run Tryz.prog w = .ok (.int .u8 x) w) ∧ (x == 32) = false) ∨ ¬ q < s.size := by
      by_cases hlt : q < s.size
      · obtain ⟨c, hc⟩ : ∃ c, s.data.toList[q]? = some c := ⟨_, List.getElem?_eq_getElem (by rw [← size_len]; exact hlt)⟩
        refine Or.inl ⟨hlt, c.toNat, idx_str hc, ?_⟩
        rw [beq_eq_false_iff_ne]
        intro h
        exact hex ⟨hlt, c, hc, by omega⟩
      · exact Or.inr hlt
    clear hex HN
    have hqs : (q : Int) ≤ s.size := by omega
    have HQ : Hid (wq s.data.toList q = [] ∧ Lib.hasPrefix (s.extract q s.size).data.toList [35] = true ∨ Lib.hasPrefix (s.extract q s.size).data.toList [35] = false ∧ wd (s.extract q s.size).data.toList = wq s.data.toList q) := by
      show _ ∨ _
      rw [ext_drop]
      unfold wq wo
      cases e : s.data.toList.drop q with
      | nil => exact Or.inr ⟨rfl, rfl⟩
      | cons c r =>
        by_cases h : c = 35
        · subst h; exact Or.inl ⟨by rw [en]; simp, by simp [Lib.hasPrefix, List.isPrefixOf]⟩
        · refine Or.inr ⟨by simp [Lib.hasPrefix, List.isPrefixOf]; exact fun h' => h h'.symm, ?_⟩
          rw [en, if_neg (by simpa using h)]
    have HXs : Hid ((s.extract q s.size).size ≤ 65536) := by
      show _ ≤ _
      rw [size_len, ext_drop, List.length_drop, ← size_len]; omega
    rcases HQ.out with ⟨h1, h2⟩ | ⟨h1, h2⟩
    · have HW := hyd h1
      clear h1 HQ
      rcases hgd with ⟨hltz, x, hi, hb⟩ | hltz <;>
      (go_wp2_with fail
       go_quiet (fail)
       go_wp2_with (first | (go_at_call 57; refine (pre_v _ true h2 _).mono ?_; rintro e w1 ⟨rfl, rfl⟩))
       go_ret2
       rw [HX.out, HW.out]
       exact ⟨_, rfl, rfl, HLi.out.drewN _, HC.out.drewN _⟩)
    · have HW := hyd h2
      clear h2 HQ
      have HG1 := hyd (HG.out.chg HC.out (fun k hk e => by omega))
      rcases hgd with ⟨hltz, x, hi, hb⟩ | hltz <;>
      (go_wp2_with fail
       go_quiet (fail)
       go_wp2_with (first | (go_at_call 57; refine (pre_v _ false h1 _).mono ?_; rintro e w1 ⟨rfl, rfl⟩) | (go_at_call 58; refine (cut_v _ _ HW.out HXs.out _ (HG1.out.drewN _)).mono ?_; rintro e w1 ⟨X, Y, z, rfl, HX1, m, rfl⟩; refine Hid.out ?_))
       refine Lib.hid ?_
       have HXl : Hid ((X.size : Int) = (wq s.data.toList q).length) := by show _ = _; rw [HX1.out, sb_size]
       have HL2 := hyd (wd_le (s.extract q s.size).data.toList)
       have hX : X.size ≤ 65536 := by have h1 := HL2.out; rw [HW.out, ← size_len] at h1; have h2 := HXs.out; have h3 := HXl.out; omega
       go_wp2
       go_ret2
       rw [HX.out]
       exact ⟨_, rfl, HX1, (HLi.out.drewN _).set _ _ (by rw [HXl.out]; omega), (HC.out.drewN _).setCell (Or.inl rfl) _ _⟩)
end Go.Proofs.YtepbfdbooobnlaaGreatDoor
