/-
  (*Two).step, where it is an erase, a flip, a failure to come or a cut. Conditions: both chips stand alike; the operation's bytes came in.
-/
import Derived.Test.YtfjgnplplafniaaStep0
namespace Go.Proofs.Ytfjgnplplafniaa
open Go.RowKit
set_option maxRecDepth 100000
set_option linter.unusedVariables false

set_option maxHeartbeats 8000000 in
theorem step_erase (B : Prop) (w0 : World) (t : Nat) (σ : Sta) (K A Bb : Int) (ad : Option Addr) (cap : Nat) (l : List Nat) (w : World) (h : Pst B w0 w t σ) (hx : σ.xc = σ.sc) (hn : σ.nw = σ.nt) (hb : σ.nt ≤ 5864062014000)
    (hK1 : -9223372036854775808 ≤ K) (hK2 : K ≤ 9223372036854775807) (hA : A ≤ 9223372036854775807) (hBb : Bb ≤ 9223372036854775807) (hno : ad = none → l.length = 0 ∧ cap = 0) (hH : Held w (.slice ad l.length cap) l) (hBy : Bys l) (hl : l.length ≤ 140737488351232) (hd : ∀ k, l.length ≠ 0 ∧ (Value.slice ad l.length cap).ownBlock = some k → σ.col k = 8) (hm : pkV K = 2) :
    Calls Try.prog 8 #[.pointer (some ⟨t, 0, none⟩), .agg #[.int .i64 K, .int .i64 A, .int .i64 Bb, .slice ad l.length cap]] w fun e w' => e = .returned (.bool true) ∧ ∃ σ', Alike B w0 w' t σ σ' := by
  obtain ⟨col, c, d, r1, r2, nt, nw, sc, xc, sd, vt, vw, Vt, Vw, L⟩ := σ
  simp only at hx hn hb hd
  subst hx hn
  have hrow := box_row w (.int .i64 K) (.int .i64 A) (.int .i64 Bb) (.slice ad l.length cap)
  have hGa : Chg (fun _ => False) w (w.alloc (.cells #[.int .i64 K, .int .i64 A, .int .i64 Bb, .slice ad l.length cap] 35)) := (Chg.refl _ _).alloc _
  have P1 := h.still hGa
  have hsz : (w.alloc (.cells #[.int .i64 K, .int .i64 A, .int .i64 Bb, .slice ad l.length cap] 35)).heap.size = w.heap.size + 1 := by simp
  have ho : paint col w (w.alloc (.cells #[.int .i64 K, .int .i64 A, .int .i64 Bb, .slice ad l.length cap] 35)) 0 w.heap.size = 0 := by unfold paint; rw [if_pos (by omega)]
  have hH1 := hH.chg hGa (fun _ _ _ f => f)
  have hd1 : ∀ k, l.length ≠ 0 ∧ (Value.slice ad l.length cap).ownBlock = some k → paint col w (w.alloc (.cells #[.int .i64 K, .int .i64 A, .int .i64 Bb, .slice ad l.length cap] 35)) 0 k = 8 := fun k hk => by rw [paint_lt (h.lt (by show col k ≠ 9; rw [hd k hk]; decide))]; exact hd k hk
  have HM := hyd hm
  clear hm hsz hGa hH hd h
  go_enter Try.func8, Try.ntmps8
  go_wp2_with fail
  refine (pick_fn K hK1 hK2 _).mono ?_
  rintro e wq ⟨rfl, rfl⟩
  rw [HM.out]
  generalize paint col w (w.alloc (.cells #[.int .i64 K, .int .i64 A, .int .i64 Bb, .slice ad l.length cap] 35)) 0 = col1 at *
  generalize w.alloc (.cells #[.int .i64 K, .int .i64 A, .int .i64 Bb, .slice ad l.length cap] 35) = w1 at *
  generalize w.heap.size = o at *
  clear HM hK1 hK2
  try simp only at P1
  have o1 : w1.cell? ⟨o, 1, none⟩ = some (.int .i64 A) := hrow.cell 1 (by omega)
  have o2 : w1.cell? ⟨o, 2, none⟩ = some (.int .i64 Bb) := hrow.cell 2 (by omega)
  have o3 : w1.cell? ⟨o, 3, none⟩ = some (.slice ad l.length cap) := hrow.cell 3 (by omega)
  have k0 : w1.cell? ⟨t, 0, none⟩ = some (.pointer (some ⟨c, 0, none⟩)) := P1.cellC
  have k2 : w1.cell? ⟨t, 2, none⟩ = some (.pointer (some ⟨r1, 0, none⟩)) := P1.cellR
  have hC1 : ChipAt w1 c xc := P1.cc
  have hok : xc.Ok := P1.oc
  have HP1 := hyd P1
  have HOK := hyd hok
  clear P1 hok
  go_wp2_with fail
  go_region_held3 (fun wx => wx.cell? ⟨t, 0, none⟩ = some (.pointer (some ⟨c, 0, none⟩)) ∧ wx.cell? ⟨o, 1, none⟩ = some (.int .i64 A))
    (first | exact ⟨k0, o1⟩ | exact ⟨k0b, o1b⟩)
    (first | (go_at_call 19; refine (erase_any c xc HOK.out A _ ?_).mono ?_; (exact hC1); rintro e w2 ⟨rfl, C2, G2⟩; have P2 := HP1.out.drew.prog (eraseR xc A).1 (eraseR_ok HOK.out A) C2 G2; have k0b : w2.cell? ⟨t, 0, none⟩ = some (.pointer (some ⟨c, 0, none⟩)) := P2.cellC; have hrow2 := hrow.drew.chg G2 (fun e => by have h1 := HP1.out.kc; simp only at h1; rw [e, h1] at ho; omega); have o1b : w2.cell? ⟨o, 1, none⟩ = some (.int .i64 A) := hrow2.cell 1 (by omega); have o2b : w2.cell? ⟨o, 2, none⟩ = some (.int .i64 Bb) := hrow2.cell 2 (by omega)))
  all_goals
    have k2b : w2.cell? ⟨t, 2, none⟩ = some (.pointer (some ⟨r1, 0, none⟩)) := P2.cellR
    have ho2 : paint col1 w1.drew w2 0 o = 0 := by rw [paint_lt (show o < w1.drew.heap.size from hrow.lt)]; exact ho
    have HCo := hyd (eraseR_code xc A)
    have HOk2 := hyd (eraseR_ok HOK.out A)
    try simp only at P2
    generalize paint col1 w1.drew w2 0 = col2 at *
    have HP2 := hyd P2
    have hR2 : RefAt w2 r1 xc (fun k => col2 k = 3) := P2.rc
    clear P2 C2 G2
    generalize hRR : eraseR xc A = RR at *
    have HRR := hyd hRR
    clear hRR
    obtain ⟨s2, cd⟩ := RR
    try simp only at *
    go_wp2_with fail
    go_region_held3 (fun wx => wx.cell? ⟨t, 2, none⟩ = some (.pointer (some ⟨r1, 0, none⟩)) ∧ wx.cell? ⟨o, 1, none⟩ = some (.int .i64 A))
      (first | exact ⟨k2b, o1b⟩ | exact ⟨k2c, o1c⟩)
      (first | (go_at_call 27; refine (code_any cd HCo.out _).mono ?_; rintro e wz ⟨rfl, rfl⟩) | (go_at_call 33; refine (rerase_any r1 xc HOK.out (fun k => col2 k = 3) A _ ?_).mono ?_; (exact HP2.out.drew.rc); rintro e w3 ⟨rfl, R3, G3⟩; rw [HRR.out]; have R3' := R3; rw [HRR.out] at R3'; have P3 := HP2.out.drew.ref3 s2 HOk2.out R3' G3; have k2c : w3.cell? ⟨t, 2, none⟩ = some (.pointer (some ⟨r1, 0, none⟩)) := P3.cellR; have hrow3 := hrow2.drew.chg G3 (fun e => absurd (ho2.symm.trans e) (by decide)); have o1c : w3.cell? ⟨o, 1, none⟩ = some (.int .i64 A) := hrow3.cell 1 (by omega); have o2c : w3.cell? ⟨o, 2, none⟩ = some (.int .i64 Bb) := hrow3.cell 2 (by omega)))
    all_goals
      try simp only at P3
      have HP3 := hyd P3
      clear P3 R3 R3' G3 hrow3 hrow2
      go_wp2
      go_ret
      exact ⟨rfl, _, HP3.out, rfl, rfl, Nat.le_succ _⟩

set_option maxHeartbeats 8000000 in
theorem step_flip (B : Prop) (w0 : World) (t : Nat) (σ : Sta) (K A Bb : Int) (ad : Option Addr) (cap : Nat) (l : List Nat) (w : World) (h : Pst B w0 w t σ) (hx : σ.xc = σ.sc) (hn : σ.nw = σ.nt) (hb : σ.nt ≤ 5864062014000)
    (hK1 : -9223372036854775808 ≤ K) (hK2 : K ≤ 9223372036854775807) (hA : A ≤ 9223372036854775807) (hBb : Bb ≤ 9223372036854775807) (hno : ad = none → l.length = 0 ∧ cap = 0) (hH : Held w (.slice ad l.length cap) l) (hBy : Bys l) (hl : l.length ≤ 140737488351232) (hd : ∀ k, l.length ≠ 0 ∧ (Value.slice ad l.length cap).ownBlock = some k → σ.col k = 8) (hm : pkV K = 3) :
    Calls Try.prog 8 #[.pointer (some ⟨t, 0, none⟩), .agg #[.int .i64 K, .int .i64 A, .int .i64 Bb, .slice ad l.length cap]] w fun e w' => e = .returned (.bool true) ∧ ∃ σ', Alike B w0 w' t σ σ' := by
  obtain ⟨col, c, d, r1, r2, nt, nw, sc, xc, sd, vt, vw, Vt, Vw, L⟩ := σ
  simp only at hx hn hb hd
  subst hx hn
  have hrow := box_row w (.int .i64 K) (.int .i64 A) (.int .i64 Bb) (.slice ad l.length cap)
  have hGa : Chg (fun _ => False) w (w.alloc (.cells #[.int .i64 K, .int .i64 A, .int .i64 Bb, .slice ad l.length cap] 35)) := (Chg.refl _ _).alloc _
  have P1 := h.still hGa
  have hsz : (w.alloc (.cells #[.int .i64 K, .int .i64 A, .int .i64 Bb, .slice ad l.length cap] 35)).heap.size = w.heap.size + 1 := by simp
  have ho : paint col w (w.alloc (.cells #[.int .i64 K, .int .i64 A, .int .i64 Bb, .slice ad l.length cap] 35)) 0 w.heap.size = 0 := by unfold paint; rw [if_pos (by omega)]
  have hH1 := hH.chg hGa (fun _ _ _ f => f)
  have hd1 : ∀ k, l.length ≠ 0 ∧ (Value.slice ad l.length cap).ownBlock = some k → paint col w (w.alloc (.cells #[.int .i64 K, .int .i64 A, .int .i64 Bb, .slice ad l.length cap] 35)) 0 k = 8 := fun k hk => by rw [paint_lt (h.lt (by show col k ≠ 9; rw [hd k hk]; decide))]; exact hd k hk
  have HM := hyd hm
  clear hm hsz hGa hH hd h
  go_enter Try.func8, Try.ntmps8
  go_wp2_with fail
  refine (pick_fn K hK1 hK2 _).mono ?_
  rintro e wq ⟨rfl, rfl⟩
  rw [HM.out]
  generalize paint col w (w.alloc (.cells #[.int .i64 K, .int .i64 A, .int .i64 Bb, .slice ad l.length cap] 35)) 0 = col1 at *
  generalize w.alloc (.cells #[.int .i64 K, .int .i64 A, .int .i64 Bb, .slice ad l.length cap] 35) = w1 at *
  generalize w.heap.size = o at *
  clear HM hK1 hK2
  try simp only at P1
  have o1 : w1.cell? ⟨o, 1, none⟩ = some (.int .i64 A) := hrow.cell 1 (by omega)
  have o2 : w1.cell? ⟨o, 2, none⟩ = some (.int .i64 Bb) := hrow.cell 2 (by omega)
  have o3 : w1.cell? ⟨o, 3, none⟩ = some (.slice ad l.length cap) := hrow.cell 3 (by omega)
  have k0 : w1.cell? ⟨t, 0, none⟩ = some (.pointer (some ⟨c, 0, none⟩)) := P1.cellC
  have k2 : w1.cell? ⟨t, 2, none⟩ = some (.pointer (some ⟨r1, 0, none⟩)) := P1.cellR
  have hC1 : ChipAt w1 c xc := P1.cc
  have hok : xc.Ok := P1.oc
  have HP1 := hyd P1
  have HOK := hyd hok
  clear P1 hok
  go_wp2_with fail
  go_region_held3 (fun wx => wx.cell? ⟨t, 0, none⟩ = some (.pointer (some ⟨c, 0, none⟩)) ∧ wx.cell? ⟨o, 1, none⟩ = some (.int .i64 A) ∧ wx.cell? ⟨o, 2, none⟩ = some (.int .i64 Bb))
    (first | exact ⟨k0, o1, o2⟩ | exact ⟨k0b, o1b, o2b⟩)
    (first | (go_at_call 22; refine (flip_any c xc HOK.out A Bb _ ?_).mono ?_; (exact hC1); rintro e w2 ⟨rfl, C2, G2⟩; have P2 := HP1.out.drew.prog (flipR xc A Bb).1 (flipR_ok HOK.out A Bb) C2 G2; have k0b : w2.cell? ⟨t, 0, none⟩ = some (.pointer (some ⟨c, 0, none⟩)) := P2.cellC; have hrow2 := hrow.drew.chg G2 (fun e => by have h1 := HP1.out.kc; simp only at h1; rw [e, h1] at ho; omega); have o1b : w2.cell? ⟨o, 1, none⟩ = some (.int .i64 A) := hrow2.cell 1 (by omega); have o2b : w2.cell? ⟨o, 2, none⟩ = some (.int .i64 Bb) := hrow2.cell 2 (by omega)))
  all_goals
    have k2b : w2.cell? ⟨t, 2, none⟩ = some (.pointer (some ⟨r1, 0, none⟩)) := P2.cellR
    have ho2 : paint col1 w1.drew w2 0 o = 0 := by rw [paint_lt (show o < w1.drew.heap.size from hrow.lt)]; exact ho
    have HCo := hyd (flipR_code xc A Bb)
    have HOk2 := hyd (flipR_ok HOK.out A Bb)
    try simp only at P2
    generalize paint col1 w1.drew w2 0 = col2 at *
    have HP2 := hyd P2
    have hR2 : RefAt w2 r1 xc (fun k => col2 k = 3) := P2.rc
    clear P2 C2 G2
    generalize hRR : flipR xc A Bb = RR at *
    have HRR := hyd hRR
    clear hRR
    obtain ⟨s2, cd⟩ := RR
    try simp only at *
    go_wp2_with fail
    go_region_held3 (fun wx => wx.cell? ⟨t, 2, none⟩ = some (.pointer (some ⟨r1, 0, none⟩)) ∧ wx.cell? ⟨o, 1, none⟩ = some (.int .i64 A) ∧ wx.cell? ⟨o, 2, none⟩ = some (.int .i64 Bb))
      (first | exact ⟨k2b, o1b, o2b⟩ | exact ⟨k2c, o1c, o2c⟩)
      (first | (go_at_call 27; refine (code_any cd HCo.out _).mono ?_; rintro e wz ⟨rfl, rfl⟩) | (go_at_call 34; refine (rflip_any r1 xc HOK.out (fun k => col2 k = 3) A Bb _ ?_).mono ?_; (exact HP2.out.drew.rc); rintro e w3 ⟨rfl, R3, G3⟩; rw [HRR.out]; have R3' := R3; rw [HRR.out] at R3'; have P3 := HP2.out.drew.ref0 s2 HOk2.out R3' G3; have k2c : w3.cell? ⟨t, 2, none⟩ = some (.pointer (some ⟨r1, 0, none⟩)) := P3.cellR; have hrow3 := hrow2.drew.chg G3 (fun e => absurd (ho2.symm.trans e) (by decide)); have o1c : w3.cell? ⟨o, 1, none⟩ = some (.int .i64 A) := hrow3.cell 1 (by omega); have o2c : w3.cell? ⟨o, 2, none⟩ = some (.int .i64 Bb) := hrow3.cell 2 (by omega)))
    all_goals
      try simp only at P3
      have HP3 := hyd P3
      clear P3 R3 R3' G3 hrow3 hrow2
      go_wp2
      go_ret
      exact ⟨rfl, _, HP3.out, rfl, rfl, Nat.le_succ _⟩

set_option maxHeartbeats 8000000 in
theorem step_failP (B : Prop) (w0 : World) (t : Nat) (σ : Sta) (K A Bb : Int) (ad : Option Addr) (cap : Nat) (l : List Nat) (w : World) (h : Pst B w0 w t σ) (hx : σ.xc = σ.sc) (hn : σ.nw = σ.nt) (hb : σ.nt ≤ 5864062014000)
    (hK1 : -9223372036854775808 ≤ K) (hK2 : K ≤ 9223372036854775807) (hA : A ≤ 9223372036854775807) (hBb : Bb ≤ 9223372036854775807) (hno : ad = none → l.length = 0 ∧ cap = 0) (hH : Held w (.slice ad l.length cap) l) (hBy : Bys l) (hl : l.length ≤ 140737488351232) (hd : ∀ k, l.length ≠ 0 ∧ (Value.slice ad l.length cap).ownBlock = some k → σ.col k = 8) (hm : pkV K = 4) :
    Calls Try.prog 8 #[.pointer (some ⟨t, 0, none⟩), .agg #[.int .i64 K, .int .i64 A, .int .i64 Bb, .slice ad l.length cap]] w fun e w' => e = .returned (.bool true) ∧ ∃ σ', Alike B w0 w' t σ σ' := by
  obtain ⟨col, c, d, r1, r2, nt, nw, sc, xc, sd, vt, vw, Vt, Vw, L⟩ := σ
  simp only at hx hn hb hd
  subst hx hn
  have hrow := box_row w (.int .i64 K) (.int .i64 A) (.int .i64 Bb) (.slice ad l.length cap)
  have hGa : Chg (fun _ => False) w (w.alloc (.cells #[.int .i64 K, .int .i64 A, .int .i64 Bb, .slice ad l.length cap] 35)) := (Chg.refl _ _).alloc _
  have P1 := h.still hGa
  have hsz : (w.alloc (.cells #[.int .i64 K, .int .i64 A, .int .i64 Bb, .slice ad l.length cap] 35)).heap.size = w.heap.size + 1 := by simp
  have ho : paint col w (w.alloc (.cells #[.int .i64 K, .int .i64 A, .int .i64 Bb, .slice ad l.length cap] 35)) 0 w.heap.size = 0 := by unfold paint; rw [if_pos (by omega)]
  have hH1 := hH.chg hGa (fun _ _ _ f => f)
  have hd1 : ∀ k, l.length ≠ 0 ∧ (Value.slice ad l.length cap).ownBlock = some k → paint col w (w.alloc (.cells #[.int .i64 K, .int .i64 A, .int .i64 Bb, .slice ad l.length cap] 35)) 0 k = 8 := fun k hk => by rw [paint_lt (h.lt (by show col k ≠ 9; rw [hd k hk]; decide))]; exact hd k hk
  have HM := hyd hm
  clear hm hsz hGa hH hd h
  go_enter Try.func8, Try.ntmps8
  go_wp2_with fail
  refine (pick_fn K hK1 hK2 _).mono ?_
  rintro e wq ⟨rfl, rfl⟩
  rw [HM.out]
  generalize paint col w (w.alloc (.cells #[.int .i64 K, .int .i64 A, .int .i64 Bb, .slice ad l.length cap] 35)) 0 = col1 at *
  generalize w.alloc (.cells #[.int .i64 K, .int .i64 A, .int .i64 Bb, .slice ad l.length cap] 35) = w1 at *
  generalize w.heap.size = o at *
  clear HM hK1 hK2
  try simp only at P1
  have o1 : w1.cell? ⟨o, 1, none⟩ = some (.int .i64 A) := hrow.cell 1 (by omega)
  have o2 : w1.cell? ⟨o, 2, none⟩ = some (.int .i64 Bb) := hrow.cell 2 (by omega)
  have o3 : w1.cell? ⟨o, 3, none⟩ = some (.slice ad l.length cap) := hrow.cell 3 (by omega)
  have k0 : w1.cell? ⟨t, 0, none⟩ = some (.pointer (some ⟨c, 0, none⟩)) := P1.cellC
  have k2 : w1.cell? ⟨t, 2, none⟩ = some (.pointer (some ⟨r1, 0, none⟩)) := P1.cellR
  have hC1 : ChipAt w1 c xc := P1.cc
  have hok : xc.Ok := P1.oc
  have HP1 := hyd P1
  have HOK := hyd hok
  clear P1 hok
  go_wp2_with fail
  go_region_held3 (fun wx => wx.cell? ⟨t, 0, none⟩ = some (.pointer (some ⟨c, 0, none⟩)) ∧ wx.cell? ⟨o, 1, none⟩ = some (.int .i64 A) ∧ wx.cell? ⟨o, 2, none⟩ = some (.int .i64 Bb))
    (first | exact ⟨k0, o1, o2⟩ | exact ⟨k0b, o1b, o2b⟩)
    (first | (go_at_call 35; refine (failP_any c xc A Bb _ ?_).mono ?_; (exact hC1); rintro e w2 ⟨rfl, C2, G2⟩; have P2 := HP1.out.drew.prog (failPR xc A Bb).1 (failPR_ok HOK.out A Bb (by omega)) C2 G2; have k0b : w2.cell? ⟨t, 0, none⟩ = some (.pointer (some ⟨c, 0, none⟩)) := P2.cellC; have hrow2 := hrow.drew.chg G2 (fun e => by have h1 := HP1.out.kc; simp only at h1; rw [e, h1] at ho; omega); have o1b : w2.cell? ⟨o, 1, none⟩ = some (.int .i64 A) := hrow2.cell 1 (by omega); have o2b : w2.cell? ⟨o, 2, none⟩ = some (.int .i64 Bb) := hrow2.cell 2 (by omega)))
  all_goals
    have k2b : w2.cell? ⟨t, 2, none⟩ = some (.pointer (some ⟨r1, 0, none⟩)) := P2.cellR
    have ho2 : paint col1 w1.drew w2 0 o = 0 := by rw [paint_lt (show o < w1.drew.heap.size from hrow.lt)]; exact ho
    have HCo := hyd (failPR_code xc A Bb)
    have HOk2 := hyd (failPR_ok HOK.out A Bb (by omega))
    try simp only at P2
    generalize paint col1 w1.drew w2 0 = col2 at *
    have HP2 := hyd P2
    have hR2 : RefAt w2 r1 xc (fun k => col2 k = 3) := P2.rc
    clear P2 C2 G2
    generalize hRR : failPR xc A Bb = RR at *
    have HRR := hyd hRR
    clear hRR
    obtain ⟨s2, cd⟩ := RR
    try simp only at *
    go_wp2_with fail
    go_region_held3 (fun wx => wx.cell? ⟨t, 2, none⟩ = some (.pointer (some ⟨r1, 0, none⟩)) ∧ wx.cell? ⟨o, 1, none⟩ = some (.int .i64 A) ∧ wx.cell? ⟨o, 2, none⟩ = some (.int .i64 Bb))
      (first | exact ⟨k2b, o1b, o2b⟩ | exact ⟨k2c, o1c, o2c⟩)
      (first | (go_at_call 27; refine (code_any cd HCo.out _).mono ?_; rintro e wz ⟨rfl, rfl⟩) | (go_at_call 36; refine (rfailP_any r1 xc (fun k => col2 k = 3) A Bb (by omega) _ ?_).mono ?_; (exact HP2.out.drew.rc); rintro e w3 ⟨rfl, R3, G3⟩; rw [HRR.out]; have R3' := R3; rw [HRR.out] at R3'; have P3 := HP2.out.drew.ref0 s2 HOk2.out R3' G3; have k2c : w3.cell? ⟨t, 2, none⟩ = some (.pointer (some ⟨r1, 0, none⟩)) := P3.cellR; have hrow3 := hrow2.drew.chg G3 (fun e => absurd (ho2.symm.trans e) (by decide)); have o1c : w3.cell? ⟨o, 1, none⟩ = some (.int .i64 A) := hrow3.cell 1 (by omega); have o2c : w3.cell? ⟨o, 2, none⟩ = some (.int .i64 Bb) := hrow3.cell 2 (by omega)))
    all_goals
      try simp only at P3
      have HP3 := hyd P3
      clear P3 R3 R3' G3 hrow3 hrow2
      go_wp2
      go_ret
      exact ⟨rfl, _, HP3.out, rfl, rfl, Nat.le_succ _⟩

set_option maxHeartbeats 8000000 in
theorem step_failE (B : Prop) (w0 : World) (t : Nat) (σ : Sta) (K A Bb : Int) (ad : Option Addr) (cap : Nat) (l : List Nat) (w : World) (h : Pst B w0 w t σ) (hx : σ.xc = σ.sc) (hn : σ.nw = σ.nt) (hb : σ.nt ≤ 5864062014000)
    (hK1 : -9223372036854775808 ≤ K) (hK2 : K ≤ 9223372036854775807) (hA : A ≤ 9223372036854775807) (hBb : Bb ≤ 9223372036854775807) (hno : ad = none → l.length = 0 ∧ cap = 0) (hH : Held w (.slice ad l.length cap) l) (hBy : Bys l) (hl : l.length ≤ 140737488351232) (hd : ∀ k, l.length ≠ 0 ∧ (Value.slice ad l.length cap).ownBlock = some k → σ.col k = 8) (hm : pkV K = 5) :
    Calls Try.prog 8 #[.pointer (some ⟨t, 0, none⟩), .agg #[.int .i64 K, .int .i64 A, .int .i64 Bb, .slice ad l.length cap]] w fun e w' => e = .returned (.bool true) ∧ ∃ σ', Alike B w0 w' t σ σ' := by
  obtain ⟨col, c, d, r1, r2, nt, nw, sc, xc, sd, vt, vw, Vt, Vw, L⟩ := σ
  simp only at hx hn hb hd
  subst hx hn
  have hrow := box_row w (.int .i64 K) (.int .i64 A) (.int .i64 Bb) (.slice ad l.length cap)
  have hGa : Chg (fun _ => False) w (w.alloc (.cells #[.int .i64 K, .int .i64 A, .int .i64 Bb, .slice ad l.length cap] 35)) := (Chg.refl _ _).alloc _
  have P1 := h.still hGa
  have hsz : (w.alloc (.cells #[.int .i64 K, .int .i64 A, .int .i64 Bb, .slice ad l.length cap] 35)).heap.size = w.heap.size + 1 := by simp
  have ho : paint col w (w.alloc (.cells #[.int .i64 K, .int .i64 A, .int .i64 Bb, .slice ad l.length cap] 35)) 0 w.heap.size = 0 := by unfold paint; rw [if_pos (by omega)]
  have hH1 := hH.chg hGa (fun _ _ _ f => f)
  have hd1 : ∀ k, l.length ≠ 0 ∧ (Value.slice ad l.length cap).ownBlock = some k → paint col w (w.alloc (.cells #[.int .i64 K, .int .i64 A, .int .i64 Bb, .slice ad l.length cap] 35)) 0 k = 8 := fun k hk => by rw [paint_lt (h.lt (by show col k ≠ 9; rw [hd k hk]; decide))]; exact hd k hk
  have HM := hyd hm
  clear hm hsz hGa hH hd h
  go_enter Try.func8, Try.ntmps8
  go_wp2_with fail
  refine (pick_fn K hK1 hK2 _).mono ?_
  rintro e wq ⟨rfl, rfl⟩
  rw [HM.out]
  generalize paint col w (w.alloc (.cells #[.int .i64 K, .int .i64 A, .int .i64 Bb, .slice ad l.length cap] 35)) 0 = col1 at *
  generalize w.alloc (.cells #[.int .i64 K, .int .i64 A, .int .i64 Bb, .slice ad l.length cap] 35) = w1 at *
  generalize w.heap.size = o at *
  clear HM hK1 hK2
  try simp only at P1
  have o1 : w1.cell? ⟨o, 1, none⟩ = some (.int .i64 A) := hrow.cell 1 (by omega)
  have o2 : w1.cell? ⟨o, 2, none⟩ = some (.int .i64 Bb) := hrow.cell 2 (by omega)
  have o3 : w1.cell? ⟨o, 3, none⟩ = some (.slice ad l.length cap) := hrow.cell 3 (by omega)
  have k0 : w1.cell? ⟨t, 0, none⟩ = some (.pointer (some ⟨c, 0, none⟩)) := P1.cellC
  have k2 : w1.cell? ⟨t, 2, none⟩ = some (.pointer (some ⟨r1, 0, none⟩)) := P1.cellR
  have hC1 : ChipAt w1 c xc := P1.cc
  have hok : xc.Ok := P1.oc
  have HP1 := hyd P1
  have HOK := hyd hok
  clear P1 hok
  go_wp2_with fail
  go_region_held3 (fun wx => wx.cell? ⟨t, 0, none⟩ = some (.pointer (some ⟨c, 0, none⟩)) ∧ wx.cell? ⟨o, 1, none⟩ = some (.int .i64 A))
    (first | exact ⟨k0, o1⟩ | exact ⟨k0b, o1b⟩)
    (first | (go_at_call 37; refine (failE_any c xc A _ ?_).mono ?_; (exact hC1); rintro e w2 ⟨rfl, C2, G2⟩; have P2 := HP1.out.drew.prog (failER xc A).1 (failER_ok HOK.out A) C2 G2; have k0b : w2.cell? ⟨t, 0, none⟩ = some (.pointer (some ⟨c, 0, none⟩)) := P2.cellC; have hrow2 := hrow.drew.chg G2 (fun e => by have h1 := HP1.out.kc; simp only at h1; rw [e, h1] at ho; omega); have o1b : w2.cell? ⟨o, 1, none⟩ = some (.int .i64 A) := hrow2.cell 1 (by omega); have o2b : w2.cell? ⟨o, 2, none⟩ = some (.int .i64 Bb) := hrow2.cell 2 (by omega)))
  all_goals
    have k2b : w2.cell? ⟨t, 2, none⟩ = some (.pointer (some ⟨r1, 0, none⟩)) := P2.cellR
    have ho2 : paint col1 w1.drew w2 0 o = 0 := by rw [paint_lt (show o < w1.drew.heap.size from hrow.lt)]; exact ho
    have HCo := hyd (failER_code xc A)
    have HOk2 := hyd (failER_ok HOK.out A)
    try simp only at P2
    generalize paint col1 w1.drew w2 0 = col2 at *
    have HP2 := hyd P2
    have hR2 : RefAt w2 r1 xc (fun k => col2 k = 3) := P2.rc
    clear P2 C2 G2
    generalize hRR : failER xc A = RR at *
    have HRR := hyd hRR
    clear hRR
    obtain ⟨s2, cd⟩ := RR
    try simp only at *
    go_wp2_with fail
    go_region_held3 (fun wx => wx.cell? ⟨t, 2, none⟩ = some (.pointer (some ⟨r1, 0, none⟩)) ∧ wx.cell? ⟨o, 1, none⟩ = some (.int .i64 A))
      (first | exact ⟨k2b, o1b⟩ | exact ⟨k2c, o1c⟩)
      (first | (go_at_call 27; refine (code_any cd HCo.out _).mono ?_; rintro e wz ⟨rfl, rfl⟩) | (go_at_call 38; refine (rfailE_any r1 xc (fun k => col2 k = 3) A _ ?_).mono ?_; (exact HP2.out.drew.rc); rintro e w3 ⟨rfl, R3, G3⟩; rw [HRR.out]; have R3' := R3; rw [HRR.out] at R3'; have P3 := HP2.out.drew.ref0 s2 HOk2.out R3' G3; have k2c : w3.cell? ⟨t, 2, none⟩ = some (.pointer (some ⟨r1, 0, none⟩)) := P3.cellR; have hrow3 := hrow2.drew.chg G3 (fun e => absurd (ho2.symm.trans e) (by decide)); have o1c : w3.cell? ⟨o, 1, none⟩ = some (.int .i64 A) := hrow3.cell 1 (by omega); have o2c : w3.cell? ⟨o, 2, none⟩ = some (.int .i64 Bb) := hrow3.cell 2 (by omega)))
    all_goals
      try simp only at P3
      have HP3 := hyd P3
      clear P3 R3 R3' G3 hrow3 hrow2
      go_wp2
      go_ret
      exact ⟨rfl, _, HP3.out, rfl, rfl, Nat.le_succ _⟩

set_option maxHeartbeats 8000000 in
theorem step_cut_ (B : Prop) (w0 : World) (t : Nat) (σ : Sta) (K A Bb : Int) (ad : Option Addr) (cap : Nat) (l : List Nat) (w : World) (h : Pst B w0 w t σ) (hx : σ.xc = σ.sc) (hn : σ.nw = σ.nt) (hb : σ.nt ≤ 5864062014000)
    (hK1 : -9223372036854775808 ≤ K) (hK2 : K ≤ 9223372036854775807) (hA : A ≤ 9223372036854775807) (hBb : Bb ≤ 9223372036854775807) (hno : ad = none → l.length = 0 ∧ cap = 0) (hH : Held w (.slice ad l.length cap) l) (hBy : Bys l) (hl : l.length ≤ 140737488351232) (hd : ∀ k, l.length ≠ 0 ∧ (Value.slice ad l.length cap).ownBlock = some k → σ.col k = 8) (hm : pkV K = 6) :
    Calls Try.prog 8 #[.pointer (some ⟨t, 0, none⟩), .agg #[.int .i64 K, .int .i64 A, .int .i64 Bb, .slice ad l.length cap]] w fun e w' => e = .returned (.bool true) ∧ ∃ σ', Alike B w0 w' t σ σ' := by
  obtain ⟨col, c, d, r1, r2, nt, nw, sc, xc, sd, vt, vw, Vt, Vw, L⟩ := σ
  simp only at hx hn hb hd
  subst hx hn
  have hrow := box_row w (.int .i64 K) (.int .i64 A) (.int .i64 Bb) (.slice ad l.length cap)
  have hGa : Chg (fun _ => False) w (w.alloc (.cells #[.int .i64 K, .int .i64 A, .int .i64 Bb, .slice ad l.length cap] 35)) := (Chg.refl _ _).alloc _
  have P1 := h.still hGa
  have hsz : (w.alloc (.cells #[.int .i64 K, .int .i64 A, .int .i64 Bb, .slice ad l.length cap] 35)).heap.size = w.heap.size + 1 := by simp
  have ho : paint col w (w.alloc (.cells #[.int .i64 K, .int .i64 A, .int .i64 Bb, .slice ad l.length cap] 35)) 0 w.heap.size = 0 := by unfold paint; rw [if_pos (by omega)]
  have hH1 := hH.chg hGa (fun _ _ _ f => f)
  have hd1 : ∀ k, l.length ≠ 0 ∧ (Value.slice ad l.length cap).ownBlock = some k → paint col w (w.alloc (.cells #[.int .i64 K, .int .i64 A, .int .i64 Bb, .slice ad l.length cap] 35)) 0 k = 8 := fun k hk => by rw [paint_lt (h.lt (by show col k ≠ 9; rw [hd k hk]; decide))]; exact hd k hk
  have HM := hyd hm
  clear hm hsz hGa hH hd h
  go_enter Try.func8, Try.ntmps8
  go_wp2_with fail
  refine (pick_fn K hK1 hK2 _).mono ?_
  rintro e wq ⟨rfl, rfl⟩
  rw [HM.out]
  generalize paint col w (w.alloc (.cells #[.int .i64 K, .int .i64 A, .int .i64 Bb, .slice ad l.length cap] 35)) 0 = col1 at *
  generalize w.alloc (.cells #[.int .i64 K, .int .i64 A, .int .i64 Bb, .slice ad l.length cap] 35) = w1 at *
  generalize w.heap.size = o at *
  clear HM hK1 hK2
  try simp only at P1
  have o1 : w1.cell? ⟨o, 1, none⟩ = some (.int .i64 A) := hrow.cell 1 (by omega)
  have o2 : w1.cell? ⟨o, 2, none⟩ = some (.int .i64 Bb) := hrow.cell 2 (by omega)
  have o3 : w1.cell? ⟨o, 3, none⟩ = some (.slice ad l.length cap) := hrow.cell 3 (by omega)
  have k0 : w1.cell? ⟨t, 0, none⟩ = some (.pointer (some ⟨c, 0, none⟩)) := P1.cellC
  have k2 : w1.cell? ⟨t, 2, none⟩ = some (.pointer (some ⟨r1, 0, none⟩)) := P1.cellR
  have hC1 : ChipAt w1 c xc := P1.cc
  have hok : xc.Ok := P1.oc
  have HP1 := hyd P1
  have HOK := hyd hok
  clear P1 hok
  go_wp2_with fail
  go_region_held3 (fun wx => wx.cell? ⟨t, 0, none⟩ = some (.pointer (some ⟨c, 0, none⟩)) ∧ wx.cell? ⟨o, 1, none⟩ = some (.int .i64 A))
    (first | exact ⟨k0, o1⟩ | exact ⟨k0b, o1b⟩)
    (first | (go_at_call 13; refine (cut_any c xc A _ ?_).mono ?_; (exact hC1); rintro e w2 ⟨rfl, C2, G2⟩; have P2 := HP1.out.drew.prog (cutR xc A).1 (cutR_ok HOK.out A (by omega)) C2 G2; have k0b : w2.cell? ⟨t, 0, none⟩ = some (.pointer (some ⟨c, 0, none⟩)) := P2.cellC; have hrow2 := hrow.drew.chg G2 (fun e => by have h1 := HP1.out.kc; simp only at h1; rw [e, h1] at ho; omega); have o1b : w2.cell? ⟨o, 1, none⟩ = some (.int .i64 A) := hrow2.cell 1 (by omega); have o2b : w2.cell? ⟨o, 2, none⟩ = some (.int .i64 Bb) := hrow2.cell 2 (by omega)))
  all_goals
    have k2b : w2.cell? ⟨t, 2, none⟩ = some (.pointer (some ⟨r1, 0, none⟩)) := P2.cellR
    have ho2 : paint col1 w1.drew w2 0 o = 0 := by rw [paint_lt (show o < w1.drew.heap.size from hrow.lt)]; exact ho
    have HCo := hyd (cutR_code xc A)
    have HOk2 := hyd (cutR_ok HOK.out A (by omega))
    try simp only at P2
    generalize paint col1 w1.drew w2 0 = col2 at *
    have HP2 := hyd P2
    have hR2 : RefAt w2 r1 xc (fun k => col2 k = 3) := P2.rc
    clear P2 C2 G2
    generalize hRR : cutR xc A = RR at *
    have HRR := hyd hRR
    clear hRR
    obtain ⟨s2, cd⟩ := RR
    try simp only at *
    go_wp2_with fail
    go_region_held3 (fun wx => wx.cell? ⟨t, 2, none⟩ = some (.pointer (some ⟨r1, 0, none⟩)) ∧ wx.cell? ⟨o, 1, none⟩ = some (.int .i64 A))
      (first | exact ⟨k2b, o1b⟩ | exact ⟨k2c, o1c⟩)
      (first | (go_at_call 27; refine (code_any cd HCo.out _).mono ?_; rintro e wz ⟨rfl, rfl⟩) | (go_at_call 39; refine (rcut_any r1 xc (fun k => col2 k = 3) A (by omega) _ ?_).mono ?_; (exact HP2.out.drew.rc); rintro e w3 ⟨rfl, R3, G3⟩; rw [HRR.out]; have R3' := R3; rw [HRR.out] at R3'; have P3 := HP2.out.drew.ref0 s2 HOk2.out R3' G3; have k2c : w3.cell? ⟨t, 2, none⟩ = some (.pointer (some ⟨r1, 0, none⟩)) := P3.cellR; have hrow3 := hrow2.drew.chg G3 (fun e => absurd (ho2.symm.trans e) (by decide)); have o1c : w3.cell? ⟨o, 1, none⟩ = some (.int .i64 A) := hrow3.cell 1 (by omega); have o2c : w3.cell? ⟨o, 2, none⟩ = some (.int .i64 Bb) := hrow3.cell 2 (by omega)))
    all_goals
      try simp only at P3
      have HP3 := hyd P3
      clear P3 R3 R3' G3 hrow3 hrow2
      go_wp2
      go_ret
      exact ⟨rfl, _, HP3.out, rfl, rfl, Nat.le_succ _⟩
end Go.Proofs.Ytfjgnplplafniaa
