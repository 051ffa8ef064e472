/-
  (*Two).step, where it is the 8-th thing. Conditions: both chips stand alike; the operation's bytes came in.
-/
import Derived.Test.YtfjgnplplafniaaStep0
namespace Go.Proofs.Ytfjgnplplafniaa
open Go.RowKit
set_option maxRecDepth 100000
set_option linter.unusedVariables false

set_option maxHeartbeats 8000000 in
theorem step_knows (B : Prop) (w0 : World) (t : Nat) (σ : Sta) (K A Bb : Int) (ad : Option Addr) (cap : Nat) (l : List Nat) (w : World) (h : Pst B w0 w t σ) (hx : σ.xc = σ.sc) (hn : σ.nw = σ.nt) (hb : σ.nt ≤ 5864062014000)
    (hK1 : -9223372036854775808 ≤ K) (hK2 : K ≤ 9223372036854775807) (hA : A ≤ 9223372036854775807) (hBb : Bb ≤ 9223372036854775807) (hno : ad = none → l.length = 0 ∧ cap = 0) (hH : Held w (.slice ad l.length cap) l) (hBy : Bys l) (hl : l.length ≤ 140737488351232) (hd : ∀ k, l.length ≠ 0 ∧ (Value.slice ad l.length cap).ownBlock = some k → σ.col k = 8) (hm : pkV K = 8) :
    Calls Try.prog 8 #[.pointer (some ⟨t, 0, none⟩), .agg #[.int .i64 K, .int .i64 A, .int .i64 Bb, .slice ad l.length cap]] w fun e w' => e = .returned (.bool true) ∧ ∃ σ', Alike B w0 w' t σ σ' := by
  obtain ⟨col, c, d, r1, r2, nt, nw, sc, xc, sd, vt, vw, Vt, Vw, L⟩ := σ
  simp only at hx hn hb hd
  subst hx hn
  have hrow := box_row w (.int .i64 K) (.int .i64 A) (.int .i64 Bb) (.slice ad l.length cap)
  have hGa : Chg (fun _ => False) w (w.alloc (.cells #[.int .i64 K, .int .i64 A, .int .i64 Bb, .slice ad l.length cap] 35)) := (Chg.refl _ _).alloc _
  have P1 := h.still hGa
  have hsz : (w.alloc (.cells #[.int .i64 K, .int .i64 A, .int .i64 Bb, .slice ad l.length cap] 35)).heap.size = w.heap.size + 1 := by simp
  have ho : paint col w (w.alloc (.cells #[.int .i64 K, .int .i64 A, .int .i64 Bb, .slice ad l.length cap] 35)) 0 w.heap.size = 0 := by unfold paint; rw [if_pos (by omega)]
  have hH1 := hH.chg hGa (fun _ _ _ f => f)
  have hd1 : ∀ k, l.length ≠ 0 ∧ (Value.slice ad l.length cap).ownBlock = some k → paint col w (w.alloc (.cells #[.int .i64 K, .int .i64 A, .int .i64 Bb, .slice ad l.length cap] 35)) 0 k = 8 := fun k hk => by rw [paint_lt (h.lt (by show col k ≠ 9; rw [hd k hk]; decide))]; exact hd k hk
  have HM := hyd hm
  clear hm hsz hGa hH hd h
  go_enter Try.func8, Try.ntmps8
  go_wp2_with fail
  refine (pick_fn K hK1 hK2 _).mono ?_
  rintro e wq ⟨rfl, rfl⟩
  rw [HM.out]
  generalize paint col w (w.alloc (.cells #[.int .i64 K, .int .i64 A, .int .i64 Bb, .slice ad l.length cap] 35)) 0 = col1 at *
  generalize w.alloc (.cells #[.int .i64 K, .int .i64 A, .int .i64 Bb, .slice ad l.length cap] 35) = w1 at *
  generalize w.heap.size = o at *
  clear HM hK1 hK2
  try simp only at P1
  have o1 : w1.cell? ⟨o, 1, none⟩ = some (.int .i64 A) := hrow.cell 1 (by omega)
  have o2 : w1.cell? ⟨o, 2, none⟩ = some (.int .i64 Bb) := hrow.cell 2 (by omega)
  have o3 : w1.cell? ⟨o, 3, none⟩ = some (.slice ad l.length cap) := hrow.cell 3 (by omega)
  have k0 : w1.cell? ⟨t, 0, none⟩ = some (.pointer (some ⟨c, 0, none⟩)) := P1.cellC
  have k2 : w1.cell? ⟨t, 2, none⟩ = some (.pointer (some ⟨r1, 0, none⟩)) := P1.cellR
  have hC1 : ChipAt w1 c xc := P1.cc
  have hok : xc.Ok := P1.oc
  have HP1 := hyd P1
  have HOK := hyd hok
  clear P1 hok
  go_wp2_with fail
  refine (knows_any B w0 t _ A Bb _ HP1.out rfl rfl hb).mono ?_
  rintro e w2 ⟨rfl, σ', hA'⟩
  have HA' := hyd hA'
  clear hA'
  go_wp2
  go_ret
  exact ⟨rfl, σ', HA'.out⟩
end Go.Proofs.Ytfjgnplplafniaa
