/-
  The document's own sorting by place. Condition: at most 2932031007402 founds (2^47 bytes).
-/
import Derived.Test.YtjkpidhpjleebaaNst
namespace Go.Proofs.Ytjkpidhpjleebaa
set_option maxRecDepth 100000
open Go.RowKit Go.Sort

def byN (n : Nat) (l : List Fnd) : List Fnd := (List.range n).flatMap fun (p : Nat) => l.filter fun f => decide (f.P = (p : Int))
theorem byN_all (l : List Fnd) : byN 96 l = byP l := rfl
theorem byN_succ (n : Nat) (l : List Fnd) : byN (n + 1) l = byN n l ++ l.filter fun f => decide (f.P = (n : Int)) := by
  unfold byN
  rw [List.range_succ, List.flatMap_append]
  simp
theorem split_length (n : Nat) (l : List Fnd) : (l.filter fun f => decide (0 ≤ f.P) && decide (f.P < (n : Int))).length + (l.filter fun f => decide (f.P = (n : Int))).length = (l.filter fun f => decide (0 ≤ f.P) && decide (f.P < ((n + 1 : Nat) : Int))).length := by
  induction l with
  | nil => rfl
  | cons x r ih =>
    rw [List.filter_cons, List.filter_cons, List.filter_cons]
    by_cases h1 : 0 ≤ x.P ∧ x.P < (n : Int)
    · rw [if_pos (by simpa using h1), if_neg (by simp; omega), if_pos (by simp; omega), List.length_cons, List.length_cons]; omega
    · rw [if_neg (by simpa using h1)]
      by_cases h2 : x.P = (n : Int)
      · rw [if_pos (by simpa using h2), if_pos (by simp; omega), List.length_cons, List.length_cons]; omega
      · rw [if_neg (by simpa using h2), if_neg (by simp; omega)]; exact ih
theorem byN_length (l : List Fnd) : ∀ n, (byN n l).length = (l.filter fun f => decide (0 ≤ f.P) && decide (f.P < (n : Int))).length := by
  intro n
  induction n with
  | zero =>
    rw [List.filter_eq_nil_iff.2]
    · rfl
    · intro a _; simp
  | succ n ih => rw [byN_succ, List.length_append, ih, split_length]
theorem byN_le (n : Nat) (l : List Fnd) : (byN n l).length ≤ l.length := by rw [byN_length]; exact List.length_filter_le _ _
def SrtR (w : World) (l : List Fnd) (e : Ending) (w' : World) : Prop := ∃ v', e = .returned v' ∧ Sl w' v' (byP l) ∧ Chg (fun _ => False) w w'

set_option maxHeartbeats 8000000 in
theorem rsorted_any (w : World) (a : Option Addr) (cap : Nat) (l : List Fnd) (n : Nat) (hnl : n = l.length) (hs : Sl w (.slice a n cap) l) (hn : n < 2932031007402) :
    Calls Try.prog 22 #[.slice a n cap] w (SrtR w l) := by
  have HS := hyd hs
  have HN := hyd hnl
  clear hs hnl
  go_enter Try.func22, Try.ntmps22
  go_wp2
  go_loopg [3, 4] 96 (fun kx s3 s4 wr => ∃ p : Nat, s4 = .int .i64 p ∧ p ≤ 96 ∧ 96 - p ≤ kx ∧ Hid (Ow wr w.heap.size s3 (byN p l)) ∧ Hid (Chg (fun _ => False) w wr))
  case atStart => exact ⟨0, rfl, by omega, by omega, Ow.nil w _, Chg.refl _ w⟩
  case round =>
  obtain ⟨p, rfl, hp, hkx, HO, HG⟩ := hrel
  by_cases hlt : p < 96
  · have hltz : (p : Int) < 96 := by omega
    go_wp2
    go_loopg [3, 5] n (fun kx s3 s5 wr => ∃ i : Nat, s5 = .int .i64 i ∧ i ≤ n ∧ n - i ≤ kx ∧ Hid (Ow wr w.heap.size s3 (byN p l ++ (l.take i).filter fun f => decide (f.P = (p : Int)))) ∧ Hid (Chg (fun _ => False) w wr))
    case atStart => exact ⟨0, rfl, by omega, by omega, by simpa using HO, HG⟩
    case round =>
    clear HO HG
    obtain ⟨i, rfl, hin, hkx2, HO, HG⟩ := hrel
    by_cases hi : i < n
    · have hiz : (i : Int) < (n : Int) := by omega
      obtain ⟨f, hf⟩ : ∃ f, l[i]? = some f := ⟨_, List.getElem?_eq_getElem (by rw [← HN.out]; exact hi)⟩
      have HF := hyd hf
      obtain ⟨g, o, ha, hA⟩ : ∃ g o, a = some ⟨g, o, none⟩ ∧ At6 w g o l := by
        obtain ⟨a', c', e, _, h⟩ := HS.out
        simp only [Value.slice.injEq] at e
        obtain ⟨rfl, -, -⟩ := e
        rcases h with h | ⟨g, o, rfl, hA⟩
        · have := HN.out; omega
        · exact ⟨g, o, rfl, hA⟩
      subst ha
      have hA2 := hA.chg HG.out (fun h => h)
      obtain ⟨c0, -, -, -⟩ := hA2.fields hf
      have HR := hyd (hA2.2 i f hf)
      clear hf hA hA2
      have HT := hyd (filter_take_succ (p := fun f => decide (f.P = (p : Int))) HF.out)
      by_cases hc : f.P = (p : Int)
      · have hcb : (f.P == (p : Int)) = true := by simpa using hc
        have HC := hyd hc
        have hle : (byN p l ++ (l.take i).filter fun f => decide (f.P = (p : Int))).length + 1 ≤ 2932031007402 := by
          have h1 := byN_le (p + 1) l
          rw [byN_succ, List.length_append] at h1
          have h2 : ((l.take i).filter fun f => decide (f.P = (p : Int))).length ≤ (l.filter fun f => decide (f.P = (p : Int))).length := ((List.take_sublist i l).filter _).length_le
          have h3 := HN.out
          rw [List.length_append]
          omega
        clear hc
        go_wp2_with (first | (refine wpList_load_at (f := f) rfl (.tmp 26) rfl g (o + i * 6) rfl ?_ ?_; exact HR.out) | (refine wpList_row_fo (f := f) rfl (.tmp 27) rfl rfl wr.heap.size rfl ?_))
        intro w4 K4 G4
        have HO4 := hyd (HO.out.new G4)
        have HG4 := hyd (HG.out.trans G4)
        have HA4 := hyd (At6.one K4)
        have hb4 : w.heap.size ≤ w4.heap.size := HG4.out.size
        clear K4 G4
        go_wp2_with (refine wpList_append_fo w4 rfl (.tmp 23) (.tmp 28) rfl w.heap.size u3 _ rfl HO4.out wr.heap.size 0 1 1 [f] rfl rfl HA4.out hle hb4 ?_)
        intro v' w5 O5 G5
        have HO5 := hyd O5
        have HG5 : Hid (Chg (fun _ => False) w w5) := hyd (HG4.out.trans' G5 fun k hk h => by
          have := HO4.out.block h
          omega)
        clear O5 G5
        go_wp2
        go_roundg (n - (i + 1))
        case measure => omega
        case rel =>
          refine ⟨i + 1, by simp, by omega, Nat.le_refl _, ?_, HG5.out⟩
          show Ow _ _ _ _
          rw [HT.out, HC.out, ← List.append_assoc]; simpa using HO5.out
      · have hcb : (f.P == (p : Int)) = false := by simpa using hc
        go_wp2
        go_roundg (n - (i + 1))
        case measure => omega
        case rel =>
          refine ⟨i + 1, by simp, by omega, Nat.le_refl _, ?_, HG.out⟩
          show Ow _ _ _ _
          rw [HT.out]; simpa [hc] using HO.out
    · have hiz : ¬ (i : Int) < (n : Int) := by omega
      go_wp2
      go_roundg (96 - (p + 1))
      case measure => omega
      case rel =>
        refine ⟨p + 1, by simp, by omega, Nat.le_refl _, ?_, HG.out⟩
        show Ow _ _ _ _
        have := HO.out
        rw [show i = l.length by have := HN.out; omega, List.take_length, ← byN_succ] at this
        exact this
  · have hltz : ¬ (p : Int) < 96 := by omega
    go_wp2
    go_ret
    refine ⟨_, rfl, ?_, HG.out⟩
    have := HO.out.sl
    rw [show p = 96 by omega, byN_all] at this
    exact this
end Go.Proofs.Ytjkpidhpjleebaa
