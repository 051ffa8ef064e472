/-
  (*Two).step, where it is the 10-th thing. Conditions: both chips stand alike; the operation's bytes came in.
-/
import Derived.Test.YtfjgnplplafniaaStep0
namespace Go.Proofs.Ytfjgnplplafniaa
open Go.RowKit
set_option maxRecDepth 100000
set_option linter.unusedVariables false

set_option maxHeartbeats 8000000 in
theorem step_swap (B : Prop) (w0 : World) (t : Nat) (σ : Sta) (K A Bb : Int) (ad : Option Addr) (cap : Nat) (l : List Nat) (w : World) (h : Pst B w0 w t σ) (hx : σ.xc = σ.sc) (hn : σ.nw = σ.nt) (hb : σ.nt ≤ 5864062014000)
    (hK1 : -9223372036854775808 ≤ K) (hK2 : K ≤ 9223372036854775807) (hA : A ≤ 9223372036854775807) (hBb : Bb ≤ 9223372036854775807) (hno : ad = none → l.length = 0 ∧ cap = 0) (hH : Held w (.slice ad l.length cap) l) (hBy : Bys l) (hl : l.length ≤ 140737488351232) (hd : ∀ k, l.length ≠ 0 ∧ (Value.slice ad l.length cap).ownBlock = some k → σ.col k = 8) (hm : pkV K = 10) :
    Calls Try.prog 8 #[.pointer (some ⟨t, 0, none⟩), .agg #[.int .i64 K, .int .i64 A, .int .i64 Bb, .slice ad l.length cap]] w fun e w' => e = .returned (.bool true) ∧ ∃ σ', Alike B w0 w' t σ σ' := by
  obtain ⟨col, c, d, r1, r2, nt, nw, sc, xc, sd, vt, vw, Vt, Vw, L⟩ := σ
  simp only at hx hn hb hd
  subst hx hn
  have hrow := box_row w (.int .i64 K) (.int .i64 A) (.int .i64 Bb) (.slice ad l.length cap)
  have hGa : Chg (fun _ => False) w (w.alloc (.cells #[.int .i64 K, .int .i64 A, .int .i64 Bb, .slice ad l.length cap] 35)) := (Chg.refl _ _).alloc _
  have P1 := h.still hGa
  have hsz : (w.alloc (.cells #[.int .i64 K, .int .i64 A, .int .i64 Bb, .slice ad l.length cap] 35)).heap.size = w.heap.size + 1 := by simp
  have ho : paint col w (w.alloc (.cells #[.int .i64 K, .int .i64 A, .int .i64 Bb, .slice ad l.length cap] 35)) 0 w.heap.size = 0 := by unfold paint; rw [if_pos (by omega)]
  have hH1 := hH.chg hGa (fun _ _ _ f => f)
  have hd1 : ∀ k, l.length ≠ 0 ∧ (Value.slice ad l.length cap).ownBlock = some k → paint col w (w.alloc (.cells #[.int .i64 K, .int .i64 A, .int .i64 Bb, .slice ad l.length cap] 35)) 0 k = 8 := fun k hk => by rw [paint_lt (h.lt (by show col k ≠ 9; rw [hd k hk]; decide))]; exact hd k hk
  have HM := hyd hm
  clear hm hsz hGa hH hd h
  go_enter Try.func8, Try.ntmps8
  go_wp2_with fail
  refine (pick_fn K hK1 hK2 _).mono ?_
  rintro e wq ⟨rfl, rfl⟩
  rw [HM.out]
  generalize paint col w (w.alloc (.cells #[.int .i64 K, .int .i64 A, .int .i64 Bb, .slice ad l.length cap] 35)) 0 = col1 at *
  generalize w.alloc (.cells #[.int .i64 K, .int .i64 A, .int .i64 Bb, .slice ad l.length cap] 35) = w1 at *
  generalize w.heap.size = o at *
  clear HM hK1 hK2
  try simp only at P1
  have o1 : w1.cell? ⟨o, 1, none⟩ = some (.int .i64 A) := hrow.cell 1 (by omega)
  have o2 : w1.cell? ⟨o, 2, none⟩ = some (.int .i64 Bb) := hrow.cell 2 (by omega)
  have o3 : w1.cell? ⟨o, 3, none⟩ = some (.slice ad l.length cap) := hrow.cell 3 (by omega)
  have k0 : w1.cell? ⟨t, 0, none⟩ = some (.pointer (some ⟨c, 0, none⟩)) := P1.cellC
  have k2 : w1.cell? ⟨t, 2, none⟩ = some (.pointer (some ⟨r1, 0, none⟩)) := P1.cellR
  have hC1 : ChipAt w1 c xc := P1.cc
  have hok : xc.Ok := P1.oc
  have HP1 := hyd P1
  have HOK := hyd hok
  clear P1 hok
  have k1 : w1.cell? ⟨t, 1, none⟩ = some (.pointer (some ⟨d, 0, none⟩)) := HP1.out.cellD
  have k3 : w1.cell? ⟨t, 3, none⟩ = some (.pointer (some ⟨r2, 0, none⟩)) := HP1.out.cellS
  have f0 := HP1.out.frozen 0
  have f1 := HP1.out.frozen 1
  have f2 := HP1.out.frozen 2
  have f3 := HP1.out.frozen 3
  have T1 := two_set (σ' := { (⟨col1, c, d, r1, r2, nw, nw, xc, xc, sd, vt, vw, Vt, Vw, L⟩ : Sta) with c := d }) HP1.out.two 0 (.pointer (some ⟨d, 0, none⟩)) (by omega) rfl
  have T2 := two_set (σ' := { (⟨col1, d, d, r1, r2, nw, nw, xc, xc, sd, vt, vw, Vt, Vw, L⟩ : Sta) with r1 := r2 }) T1 2 (.pointer (some ⟨r2, 0, none⟩)) (by omega) rfl
  have T3 := two_set (σ' := { (⟨col1, d, d, r2, r2, nw, nw, xc, xc, sd, vt, vw, Vt, Vw, L⟩ : Sta) with d := c }) T2 1 (.pointer (some ⟨c, 0, none⟩)) (by omega) rfl
  have T4 := two_set (σ' := { (⟨col1, d, c, r2, r2, nw, nw, xc, xc, sd, vt, vw, Vt, Vw, L⟩ : Sta) with r2 := r1 }) T3 3 (.pointer (some ⟨r1, 0, none⟩)) (by omega) rfl
  have hc4 : Chg (· = t) w1 ((((w1.setCell ⟨t, 0, none⟩ (.pointer (some ⟨d, 0, none⟩))).setCell ⟨t, 2, none⟩ (.pointer (some ⟨r2, 0, none⟩))).setCell ⟨t, 1, none⟩ (.pointer (some ⟨c, 0, none⟩))).setCell ⟨t, 3, none⟩ (.pointer (some ⟨r1, 0, none⟩))) := ((((Chg.refl (· = t) w1).at t 0 _).at t 2 _).at t 1 _).at t 3 _
  have P4 := HP1.out.swap rfl T4 hc4 (by rw [size_set, size_set, size_set, size_set])
  have HP4 := hyd P4
  clear T1 T2 T3 T4 hc4 P4 hC1 hrow
  go_wp2
  go_ret
  exact ⟨rfl, _, HP4.out, rfl, rfl, Nat.le_succ _⟩
end Go.Proofs.Ytfjgnplplafniaa
