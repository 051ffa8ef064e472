/-
  Two lists of steps that read alike are told to be alike. Condition: they lie in memory.
-/
import Derived.Test.YtepbfdbooobnlaaGreatDoorSH
namespace Go.Proofs.YtepbfdbooobnlaaGreatDoor
set_option maxRecDepth 100000
open Go.RowKit
theorem At6.c3 {w : World} {g o : Nat} {l : List S3} (h : At6 w g o l) {i : Nat} {f : S3} (hf : l[i]? = some f) :
    w.cell? ⟨g, o + i * 3, none⟩ = some (.int .i64 f.k) ∧ w.cell? ⟨g, o + i * 3 + 1, none⟩ = some (.int .i64 f.a) ∧ w.cell? ⟨g, o + i * 3 + 2, none⟩ = some (.int .i64 f.b) :=
  ⟨h.2 i f hf 0 _ rfl, h.2 i f hf 1 _ rfl, h.2 i f hf 2 _ rfl⟩
set_option maxHeartbeats 1000000 in
theorem same_true (v v' : Value) (l : List S3) (w : World) (h : Sl w v l) (h' : Sl w v' l) (hn : l.length ≤ 140737488355328) :
    Calls Tryz.prog 15 #[v, v'] w fun e w' => e = .returned (.bool true) ∧ Chg (fun _ => False) w w' := by
  obtain ⟨a, c, rfl, -, hA⟩ := h
  obtain ⟨a', c', rfl, -, hA'⟩ := h'
  have HA := hyd hA
  have HA' := hyd hA'
  have HN := hyd hn
  clear hA hA' hn
  generalize hm : l.length = m at *
  have HM := hyd hm
  clear hm
  go_enter Tryz.func15, Tryz.ntmps15
  go_wp2_with fail
  go_loopg [5] 140737488355328 (fun kx s5 wr => ∃ i : Nat, s5 = .int .i64 i ∧ i ≤ m ∧ 140737488355328 - i ≤ kx ∧ Hid (∃ k, wr = w.drewN k))
  case atStart => exact ⟨0, rfl, by omega, by omega, ⟨0, rfl⟩⟩
  case round =>
  obtain ⟨i, rfl, hin, hkx, HG⟩ := hrel
  obtain ⟨k, rfl⟩ := HG.out
  by_cases hlt : i < m
  · have hltz : (i : Int) < m := by omega
    obtain ⟨f, hf⟩ : ∃ f, l[i]? = some f := ⟨_, List.getElem?_eq_getElem (by have := HM.out; omega)⟩
    rcases HA.out with h0 | ⟨g, o, rfl, hAt⟩
    · omega
    rcases HA'.out with h0 | ⟨g', o', rfl, hAt'⟩
    · omega
    obtain ⟨k0, k1, k2⟩ := hAt.c3 hf
    obtain ⟨j0, j1, j2⟩ := hAt'.c3 hf
    clear hf hAt hAt' HG
    go_wp2_with fail
    go_quiet (fail)
    go_wp2
    go_roundg (140737488355328 - (i + 1))
    case measure => have := HN.out; omega
    case rel => exact ⟨i + 1, by have := HN.out; simp; unfold wrap64; omega, by omega, Nat.le_refl _, ⟨_, rfl⟩⟩
  · have hltz : ¬ (i : Int) < m := by omega
    go_wp2
    go_ret
    exact ⟨rfl, (Chg.refl _ _).drewN _⟩
end Go.Proofs.YtepbfdbooobnlaaGreatDoor
