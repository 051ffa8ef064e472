/-
  The document's reader of a line: the blanks, a word. Condition: the line lies in a block.
-/
import Derived.Test.YtepbfdbooobnlaaGreatDoorSP
namespace Go.Proofs.YtepbfdbooobnlaaGreatDoor
set_option maxRecDepth 100000
open Go.RowKit
/-- Block g is a reader: its bytes, and where it stands. -/
def Rdr (w : World) (g : Nat) (s : ByteArray) (p : Nat) : Prop := w.heap[g]? = some (.cells #[.string s, .int .i64 p] 92)
theorem Rdr.lt {w : World} {g : Nat} {s : ByteArray} {p : Nat} (h : Rdr w g s p) : g < w.heap.size := (Array.getElem?_eq_some_iff.1 h).1
theorem Rdr.c0 {w : World} {g : Nat} {s : ByteArray} {p : Nat} (h : Rdr w g s p) : w.cell? ⟨g, 0, none⟩ = some (.string s) := by
  have h' : w.heap[g]? = _ := h
  simp [World.cell?, h']
theorem Rdr.c1 {w : World} {g : Nat} {s : ByteArray} {p : Nat} (h : Rdr w g s p) : w.cell? ⟨g, 1, none⟩ = some (.int .i64 p) := by
  have h' : w.heap[g]? = _ := h
  simp [World.cell?, h']
theorem Rdr.fz {w : World} {g : Nat} {s : ByteArray} {p : Nat} (h : Rdr w g s p) (i : Nat) : w.frozen? ⟨g, i, none⟩ = false := by
  have h' : w.heap[g]? = _ := h
  simp [World.frozen?, h']
theorem Rdr.set {w : World} {g : Nat} {s : ByteArray} {p : Nat} (h : Rdr w g s p) (z : Int) (q : Nat) (hz : z = q) : Rdr (w.setCell ⟨g, 1, none⟩ (.int .i64 z)) g s q := by
  have h' : w.heap[g]? = _ := h
  subst hz
  show (w.setCell ⟨g, 1, none⟩ (.int .i64 (q : Int))).heap[g]? = _
  simp [World.setCell, Array.getElem?_modify, h']
theorem Rdr.chg {S : Nat → Prop} {w w' : World} {g : Nat} {s : ByteArray} {p : Nat} (h : Rdr w g s p) (hc : Chg S w w') (hs : ¬ S g) : Rdr w' g s p := (hc.block g h.lt hs).trans h
theorem Rdr.drewN {w : World} {g : Nat} {s : ByteArray} {p : Nat} (h : Rdr w g s p) (k : Nat) : Rdr (w.drewN k) g s p := h.chg ((Chg.refl (fun _ => False) w).drewN k) (fun f => f)
/-- The byte at a place, if there is one: a blank, another one, none. -/
theorem byte_at (s : ByteArray) (q : Nat) : (q < s.size ∧ ∃ c : UInt8, s.data.toList[q]? = some c ∧ c.toNat = 32) ∨ (q < s.size ∧ ∃ c : UInt8, s.data.toList[q]? = some c ∧ c.toNat ≠ 32) ∨ s.size ≤ q := by
  by_cases h : q < s.size
  · obtain ⟨c, hc⟩ : ∃ c, s.data.toList[q]? = some c := ⟨_, List.getElem?_eq_getElem (by rw [← size_len]; exact h)⟩
    by_cases e : c.toNat = 32
    · exact Or.inl ⟨h, c, hc, e⟩
    · exact Or.inr (Or.inl ⟨h, c, hc, e⟩)
  · exact Or.inr (Or.inr (by omega))
set_option maxHeartbeats 1000000 in
theorem rest_any (g : Nat) (s : ByteArray) (p : Nat) (w : World) (hs : s.size ≤ 65536) (hp : p ≤ s.size) (hl : Rdr w g s p) :
    Calls Tryz.prog 42 #[.pointer (some ⟨g, 0, none⟩)] w fun e w' => e = .returned (.bool (en (s.data.toList.drop (nx s.data.toList p)))) ∧ Rdr w' g s (nx s.data.toList p) ∧ Chg (· = g) w w' := by
  have HL := hyd hl
  have HP := hyd hp
  clear hl hp
  go_enter Tryz.func42, Tryz.ntmps42
  go_wp2_with fail
  go_loopg [] 65536 (fun kx wr => ∃ q : Nat, q ≤ s.size ∧ s.size - q ≤ kx ∧ Hid (Rdr wr g s q) ∧ Hid (Chg (· = g) w wr) ∧ Hid (nx s.data.toList q = nx s.data.toList p))
  case atStart => exact ⟨p, HP.out, by omega, HL, Chg.refl _ _, rfl⟩
  case round =>
  obtain ⟨q, hq, hkx, HLi, HC, HN⟩ := hrel
  have c0 := HLi.out.c0
  have c1 := HLi.out.c1
  have f1 := HLi.out.fz 1
  rcases byte_at s q with ⟨hlt, c, hc, h32⟩ | ⟨hlt, c, hc, h32⟩ | hge
  · have hltz : (q : Int) < s.size := by omega
    have hi := idx_str hc
    have HI := hyd (bl_one hc h32)
    clear hc
    have hb : ((c.toNat : Int) == 32) = true := by simp; omega
    go_wp2_with fail
    go_quiet (fail)
    go_wp2
    go_roundg (s.size - (q + 1))
    case measure => omega
    case rel => exact ⟨q + 1, by omega, Nat.le_refl _, (HLi.out.drewN _).set _ _ (by omega), (HC.out.drewN _).setCell (Or.inl rfl) _ _, HI.out.symm.trans HN.out⟩
  · have hltz : (q : Int) < s.size := by omega
    have hi := idx_str hc
    have HX : Hid (nx s.data.toList p = q) := HN.out.symm.trans (by unfold nx; rw [bl_zero hc h32]; rfl)
    have HE : Hid (en (s.data.toList.drop q) = (c == 35)) := en_step hc
    have hb : ((c.toNat : Int) == 32) = false := by simp; omega
    have hq2 : ((q : Int) == s.size) = false := by simp; omega
    clear hc HN
    by_cases h35 : c = 35
    · have hb2 : ((c.toNat : Int) == 35) = true := by rw [h35]; rfl
      have HE2 : Hid (en (s.data.toList.drop q) = true) := by show _ = _; rw [HE.out, h35]; rfl
      clear h35 HE
      go_wp2_with fail
      go_quiet (fail)
      go_wp2_with fail
      go_quiet (fail)
      go_wp2
      go_ret
      rw [HX.out, HE2.out]
      exact ⟨rfl, (HLi.out.drewN _).drewN _, (HC.out.drewN _).drewN _⟩
    · have hb2 : ((c.toNat : Int) == 35) = false := by
        rw [beq_eq_false_iff_ne]
        intro h
        exact h35 (byte_ext (by show c.toNat = 35; omega))
      have HE2 : Hid (en (s.data.toList.drop q) = false) := by show _ = _; rw [HE.out]; simpa using h35
      clear h35 HE
      go_wp2_with fail
      go_quiet (fail)
      go_wp2_with fail
      go_quiet (fail)
      go_wp2
      go_ret
      rw [HX.out, HE2.out]
      exact ⟨rfl, (HLi.out.drewN _).drewN _, (HC.out.drewN _).drewN _⟩
  · have hltn : ¬ q < s.size := by omega
    have hltz : decide ((q : Int) < s.size) = false := by simp; omega
    have hq2 : ((q : Int) == s.size) = true := by simp; omega
    have HX : Hid (nx s.data.toList p = q) := HN.out.symm.trans (by unfold nx; rw [bl_end (by rw [← size_len]; omega)]; rfl)
    have HE2 : Hid (en (s.data.toList.drop q) = true) := en_end (by rw [← size_len]; omega)
    clear HN
    go_wp2_with fail
    go_quiet (fail)
    go_wp2_with fail
    go_quiet (fail)
    go_wp2
    go_ret
    rw [HX.out, HE2.out]
    exact ⟨rfl, (HLi.out.drewN _).drewN _, (HC.out.drewN _).drewN _⟩
theorem wo_len {s : ByteArray} {p q : Nat} (h : (wo s.data.toList p).length = q - p) (_ : q ≤ s.size) (_ : p ≤ q) : s.extract p q = sb (wo s.data.toList p) := by
  have h1 : (s.extract p q).data.toList = wo s.data.toList p := by
    have h2 : wo s.data.toList p = (s.data.toList.drop p).take (q - p) := by
      have := wd_take (s.data.toList.drop p)
      unfold wo at h ⊢
      rw [h] at this
      exact this
    rw [h2]
    simp [ByteArray.data_extract, Array.toList_extract, List.extract_eq_take_drop]
  rw [← h1]
  exact (sb_data _).symm
set_option maxHeartbeats 1000000 in
theorem rword_any (g : Nat) (s : ByteArray) (p : Nat) (w : World) (hs : s.size ≤ 65536) (hp : p ≤ s.size) (hl : Rdr w g s p) :
    Calls Tryz.prog 43 #[.pointer (some ⟨g, 0, none⟩)] w fun e w' => ∃ X : ByteArray, e = .returned (.string X) ∧ Hid (X = sb (wo s.data.toList p)) ∧ Rdr w' g s (af s.data.toList p) ∧ Chg (· = g) w w' := by
  have HL := hyd hl
  have HP := hyd hp
  have c00 := hl.c0
  have c01 := hl.c1
  clear hl hp
  go_enter Tryz.func43, Tryz.ntmps43
  go_wp2_with fail
  clear c00 c01
  go_loopg [] 65536 (fun kx wr => ∃ q : Nat, q ≤ s.size ∧ s.size - q ≤ kx ∧ p ≤ q ∧ Hid (Rdr wr g s q) ∧ Hid (Chg (· = g) w wr) ∧ Hid ((wo s.data.toList p).length = (q - p) + (wo s.data.toList q).length))
  case atStart => exact ⟨p, HP.out, by omega, Nat.le_refl _, HL, Chg.refl _ _, by show _ = _; omega⟩
  case round =>
  obtain ⟨q, hq, hkx, hpq, HLi, HC, HN⟩ := hrel
  have c0 := HLi.out.c0
  have c1 := HLi.out.c1
  have f1 := HLi.out.fz 1
  have hend : (wo s.data.toList q = []) → Hid (s.extract p q = sb (wo s.data.toList p) ∧ af s.data.toList p = q) := fun h => by
    have h2 := HN.out
    rw [h] at h2
    simp at h2
    exact ⟨wo_len h2 hq hpq, by unfold af; omega⟩
  rcases byte_at s q with ⟨hlt, c, hc, h32⟩ | ⟨hlt, c, hc, h32⟩ | hge
  · have hltz : (q : Int) < s.size := by omega
    have hi := idx_str hc
    have HE := hend (by unfold wo; rw [wd_step hc, if_pos (byte_ext (b := 32) h32)])
    have hb : ((c.toNat : Int) != 32) = false := by simp; omega
    have hpz : (p : Int) ≤ q := by omega
    have hqz : (q : Int) ≤ s.size := by omega
    clear hc HN hend
    go_wp2_with fail
    go_quiet (fail)
    go_wp2_with fail
    go_quiet (fail)
    go_wp2
    go_ret
    rw [HE.out.2]
    exact ⟨_, rfl, HE.out.1, (HLi.out.drewN _).drewN _, (HC.out.drewN _).drewN _⟩
  · have hltz : (q : Int) < s.size := by omega
    have hi := idx_str hc
    have HN2 : Hid ((wo s.data.toList p).length = (q + 1 - p) + (wo s.data.toList (q + 1)).length) := by
      have h2 := HN.out
      show _ = _
      rw [h2]
      unfold wo
      rw [wd_step hc, if_neg (fun e => h32 (by rw [e]; rfl)), List.length_cons]
      omega
    have hb : ((c.toNat : Int) != 32) = true := by simp; omega
    clear hc HN hend
    go_wp2_with fail
    go_quiet (fail)
    go_wp2
    go_roundg (s.size - (q + 1))
    case measure => omega
    case rel => exact ⟨q + 1, by omega, Nat.le_refl _, by omega, (HLi.out.drewN _).set _ _ (by omega), (HC.out.drewN _).setCell (Or.inl rfl) _ _, HN2⟩
  · have hltn : ¬ q < s.size := by omega
    have hltz : decide ((q : Int) < s.size) = false := by simp; omega
    have HE := hend (by unfold wo; rw [wd_end (by rw [← size_len]; omega)])
    have hpz : (p : Int) ≤ q := by omega
    have hqz : (q : Int) ≤ s.size := by omega
    clear HN hend
    go_wp2_with fail
    go_quiet (fail)
    go_wp2_with fail
    go_quiet (fail)
    go_wp2
    go_ret
    rw [HE.out.2]
    exact ⟨_, rfl, HE.out.1, (HLi.out.drewN _).drewN _, (HC.out.drewN _).drewN _⟩
end Go.Proofs.YtepbfdbooobnlaaGreatDoor
