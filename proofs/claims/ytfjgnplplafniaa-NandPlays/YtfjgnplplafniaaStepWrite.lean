/-
  (*Two).step, where it is the 1-th thing. Conditions: both chips stand alike; the operation's bytes came in.
-/
import Derived.Test.YtfjgnplplafniaaStep0
namespace Go.Proofs.Ytfjgnplplafniaa
open Go.RowKit
set_option maxRecDepth 100000
set_option linter.unusedVariables false

theorem Held.chgD {S : Nat → Prop} {w w' : World} {ad : Option Addr} {cap : Nat} {l : List Nat} (h : Held w (.slice ad l.length cap) l) (hc : Chg S w w') (hs : ∀ k, k < w.heap.size → l.length ≠ 0 ∧ (Value.slice ad l.length cap).ownBlock = some k → ¬ S k) : Held w' (.slice ad l.length cap) l := by
  by_cases h0 : l.length = 0
  · exact ⟨ad, cap, rfl, Or.inl h0⟩
  · exact h.chg hc (fun k hk he => hs k hk ⟨h0, he⟩)
theorem rwrite_all (r : Nat) (s : Chp) (hs : s.Ok) (F : Nat → Prop) (a k : Int) (l : List Nat) (ad : Option Addr) (cap : Nat) (w : World) (hv : Held w (.slice ad l.length cap) l) (hq : ∀ x, l.length ≠ 0 ∧ (Value.slice ad l.length cap).ownBlock = some x → ¬ F x) (h : RefAt w r s F) :
    Calls Try.prog 32 #[.pointer (some ⟨r, 0, none⟩), .int .i64 a, .int .i64 k, .slice ad l.length cap] w fun e w' => e = .returned (.int .i64 (writeR s a k l).2) ∧ RefAt w' r (writeR s a k l).1 (grow F w w') ∧ Chg F w w' := by
  by_cases h0 : l.length = 0
  · have hc : ¬ (0 ≤ a ∧ a < 96 ∧ 0 ≤ k ∧ k < 4) ∨ l.length ≠ 64 := Or.inr (by omega)
    have e : writeR s a k l = (s, 1) := by unfold writeR; rw [if_pos hc]
    rw [e]
    refine (rwrite_arg r a k ad l.length cap hc w).mono ?_
    rintro e w' ⟨rfl, rfl⟩
    exact ⟨rfl, h.grow, Chg.refl _ _⟩
  · exact rwrite_any r s hs F a k l _ w hv (fun x hx => hq x ⟨h0, hx⟩) h
/-- Only what is nobody's has changed. -/
theorem Pst.junk {B : Prop} {w0 w w' : World} {t : Nat} {σ : Sta} {S : Nat → Prop} (h : Pst B w0 w t σ) (hc : Chg S w w') (hS : ∀ k, S k → σ.col k = 0) : Pst B w0 w' t { σ with col := paint σ.col w w' 0 } :=
  h.keep hc (fun k hk => Or.inl (hS k hk)) 0 σ.sc σ.xc h.oc h.ox (h.cc.chg hc (fun hs => by have := hS _ hs; rw [h.kc] at this; omega)) (RefAt.mono' (h.rc.chg hc (fun k hk hs => by have := hS k hs; omega)) (fun k _ hk => by
    show paint σ.col w w' 0 k = 3
    rw [paint_lt (h.lt (by rw [hk]; decide))]; exact hk))
theorem Pst.col_keep {B : Prop} {w0 w w' : World} {t : Nat} {σ : Sta} (h : Pst B w0 w t σ) {k y x : Nat} (hk : σ.col k = y) (hy : y ≠ 9) : paint σ.col w w' x k = y := by
  rw [paint_lt (h.lt (by rw [hk]; exact hy))]; exact hk
set_option maxHeartbeats 8000000 in
theorem step_write (B : Prop) (w0 : World) (t : Nat) (σ : Sta) (K A Bb : Int) (ad : Option Addr) (cap : Nat) (l : List Nat) (w : World) (h : Pst B w0 w t σ) (hx : σ.xc = σ.sc) (hn : σ.nw = σ.nt) (hb : σ.nt ≤ 5864062014000)
    (hK1 : -9223372036854775808 ≤ K) (hK2 : K ≤ 9223372036854775807) (hA : A ≤ 9223372036854775807) (hBb : Bb ≤ 9223372036854775807) (hno : ad = none → l.length = 0 ∧ cap = 0) (hH : Held w (.slice ad l.length cap) l) (hBy : Bys l) (hl : l.length ≤ 140737488351232) (hd : ∀ k, l.length ≠ 0 ∧ (Value.slice ad l.length cap).ownBlock = some k → σ.col k = 8) (hm : pkV K = 1) :
    Calls Try.prog 8 #[.pointer (some ⟨t, 0, none⟩), .agg #[.int .i64 K, .int .i64 A, .int .i64 Bb, .slice ad l.length cap]] w fun e w' => e = .returned (.bool true) ∧ ∃ σ', Alike B w0 w' t σ σ' := by
  obtain ⟨col, c, d, r1, r2, nt, nw, sc, xc, sd, vt, vw, Vt, Vw, L⟩ := σ
  simp only at hx hn hb hd
  subst hx hn
  have hrow := box_row w (.int .i64 K) (.int .i64 A) (.int .i64 Bb) (.slice ad l.length cap)
  have hGa : Chg (fun _ => False) w (w.alloc (.cells #[.int .i64 K, .int .i64 A, .int .i64 Bb, .slice ad l.length cap] 35)) := (Chg.refl _ _).alloc _
  have P1 := h.still hGa
  have hsz : (w.alloc (.cells #[.int .i64 K, .int .i64 A, .int .i64 Bb, .slice ad l.length cap] 35)).heap.size = w.heap.size + 1 := by simp
  have ho : paint col w (w.alloc (.cells #[.int .i64 K, .int .i64 A, .int .i64 Bb, .slice ad l.length cap] 35)) 0 w.heap.size = 0 := by unfold paint; rw [if_pos (by omega)]
  have hH1 := hH.chg hGa (fun _ _ _ f => f)
  have hd1 : ∀ k, l.length ≠ 0 ∧ (Value.slice ad l.length cap).ownBlock = some k → paint col w (w.alloc (.cells #[.int .i64 K, .int .i64 A, .int .i64 Bb, .slice ad l.length cap] 35)) 0 k = 8 := fun k hk => by rw [paint_lt (h.lt (by show col k ≠ 9; rw [hd k hk]; decide))]; exact hd k hk
  have HM := hyd hm
  clear hm hsz hGa hH hd h
  go_enter Try.func8, Try.ntmps8
  go_wp2_with fail
  refine (pick_fn K hK1 hK2 _).mono ?_
  rintro e wq ⟨rfl, rfl⟩
  rw [HM.out]
  generalize paint col w (w.alloc (.cells #[.int .i64 K, .int .i64 A, .int .i64 Bb, .slice ad l.length cap] 35)) 0 = col1 at *
  generalize w.alloc (.cells #[.int .i64 K, .int .i64 A, .int .i64 Bb, .slice ad l.length cap] 35) = w1 at *
  generalize w.heap.size = o at *
  clear HM hK1 hK2
  try simp only at P1
  have o1 : w1.cell? ⟨o, 1, none⟩ = some (.int .i64 A) := hrow.cell 1 (by omega)
  have o2 : w1.cell? ⟨o, 2, none⟩ = some (.int .i64 Bb) := hrow.cell 2 (by omega)
  have o3 : w1.cell? ⟨o, 3, none⟩ = some (.slice ad l.length cap) := hrow.cell 3 (by omega)
  have k0 : w1.cell? ⟨t, 0, none⟩ = some (.pointer (some ⟨c, 0, none⟩)) := P1.cellC
  have k2 : w1.cell? ⟨t, 2, none⟩ = some (.pointer (some ⟨r1, 0, none⟩)) := P1.cellR
  have hC1 : ChipAt w1 c xc := P1.cc
  have hok : xc.Ok := P1.oc
  have HP1 := hyd P1
  have HOK := hyd hok
  clear P1 hok
  go_wp2_with fail
  refine (lend_any w1 ad l cap hno hH1 hl).mono ?_
  rintro e w2 ⟨s, f, g, rfl, hLt, G2⟩
  have P2 := HP1.out.still G2
  have hls := hLt.lts
  have hcs : paint col1 w1 w2 0 s = 0 := by unfold paint; rw [if_pos (by omega)]
  have hcf : paint col1 w1 w2 0 f = 0 := by unfold paint; rw [if_pos (by omega)]
  have hcg : paint col1 w1 w2 0 g = 0 := by unfold paint; rw [if_pos (by omega)]
  have hco : paint col1 w1 w2 0 o = 0 := HP1.out.col_keep ho (by decide)
  have hd2 : ∀ k, l.length ≠ 0 ∧ (Value.slice ad l.length cap).ownBlock = some k → paint col1 w1 w2 0 k = 8 := fun k hk => HP1.out.col_keep (hd1 k hk) (by decide)
  have hH2 := hH1.chg G2 (fun _ _ _ f => f)
  have hrow2 := hrow.chg G2 (fun f => f)
  try simp only at P2
  generalize paint col1 w1 w2 0 = col2 at *
  have o1b : w2.cell? ⟨o, 1, none⟩ = some (.int .i64 A) := hrow2.cell 1 (by omega)
  have o2b : w2.cell? ⟨o, 2, none⟩ = some (.int .i64 Bb) := hrow2.cell 2 (by omega)
  have k0b : w2.cell? ⟨t, 0, none⟩ = some (.pointer (some ⟨c, 0, none⟩)) := P2.cellC
  have hml : (l ++ mrk 5).length = l.length + 5 := by rw [List.length_append, mrk_length]
  have htk : (l ++ mrk 5).take l.length = l := List.take_left
  have HTK := hyd htk
  have HML := hyd hml
  have HP2 := hyd P2
  have HLt2 := hyd hLt
  have HH2 := hyd hH2
  have HD2 := hyd hd2
  have HW := hyd (writeR_ok HOK.out A Bb hBy)
  have HCo := hyd (writeR_code xc A Bb l)
  clear P2 hLt hH2 hd2 G2 hH1 hd1 hrow hC1 o1 o2 o3 k0 k2 htk hml ho
  go_wp2_with fail
  go_region_held3 (fun wx => wx.cell? ⟨t, 0, none⟩ = some (.pointer (some ⟨c, 0, none⟩)) ∧ wx.cell? ⟨o, 1, none⟩ = some (.int .i64 A) ∧ wx.cell? ⟨o, 2, none⟩ = some (.int .i64 Bb))
    (first | exact ⟨k0b, o1b, o2b⟩ | exact ⟨k0c, o1c, o2c⟩ | exact ⟨k0d, o1d, o2d⟩)
    (first
      | (go_at_call 29; refine (bytes_any w2.drew w1.heap.size s f g l.length (l ++ mrk 5) (l ++ mrk 5) (HLt2.out.chg ((Chg.refl (fun _ => False) w2).drew) (fun f => f) (fun f => f) (fun f => f)) (by rw [HML.out]; omega) (by rw [HML.out]; omega) (by rw [HML.out]; omega)).mono ?_; rintro e w3 ⟨cf, rfl, hHb, hcf2, G3⟩; have P3 := HP2.out.drew.still G3; have k0c : w3.cell? ⟨t, 0, none⟩ = some (.pointer (some ⟨c, 0, none⟩)) := P3.cellC; have hrow3 := hrow2.drew.chg G3 (fun f => f); have o1c : w3.cell? ⟨o, 1, none⟩ = some (.int .i64 A) := hrow3.cell 1 (by omega); have o2c : w3.cell? ⟨o, 2, none⟩ = some (.int .i64 Bb) := hrow3.cell 2 (by omega); have HP3 := hyd P3; have HHb := hyd (show Held w3 (.slice (some ⟨f, 0, none⟩) l.length cf) l from by { have h1 := hHb.chg G3 (fun _ _ _ f => f); rw [HTK.out] at h1; exact h1 }))
      | (go_at_call 16; refine (write_any c xc HOK.out A Bb l (.slice (some ⟨f, 0, none⟩) l.length cf) _ HHb.out (slice_ne (fun e => by have h1 := HP2.out.kc; simp only at h1; rw [← e] at h1; omega)) ?_).mono ?_; (exact HP3.out.cc); rintro e w4 ⟨rfl, C4, G4⟩; have P4 := HP3.out.prog (writeR xc A Bb l).1 HW.out C4 G4; have k0d : w4.cell? ⟨t, 0, none⟩ = some (.pointer (some ⟨c, 0, none⟩)) := P4.cellC; have hrow4 := hrow3.chg G4 (fun e => by have h1 := HP2.out.kc; simp only at h1; rw [← e, hco] at h1; omega); have o1d : w4.cell? ⟨o, 1, none⟩ = some (.int .i64 A) := hrow4.cell 1 (by omega); have o2d : w4.cell? ⟨o, 2, none⟩ = some (.int .i64 Bb) := hrow4.cell 2 (by omega)))
  have hc2c : col2 c = 1 := HP2.out.kc
  have hsc : s ≠ c := fun e => by rw [e, hc2c] at hcs; omega
  have hfc : f ≠ c := fun e => by rw [e, hc2c] at hcf; omega
  have hgc : g ≠ c := fun e => by rw [e, hc2c] at hcg; omega
  have hLt4 : LentAt w4 w1.heap.size s f g (l ++ mrk 5) (l ++ mrk 5) l.length := (((HLt2.out.chg ((Chg.refl (fun _ => False) w2).drew) (fun f => f) (fun f => f) (fun f => f))).chg G3 (fun f => f) (fun f => f) (fun f => f)).chg G4 hsc hfc hgc
  have hH4 : Held w4 (.slice ad l.length cap) l := ((HH2.out.chg ((Chg.refl (fun _ => False) w2).drew) (fun _ _ _ f => f)).chg G3 (fun _ _ _ f => f)).chgD G4 (fun k _ hk e => by have h1 := HD2.out k hk; rw [e, hc2c] at h1; omega)
  have k4 : ∀ k y, col2 k = y → y ≠ 9 → paint (paint col2 w2.drew w3 0) w3 w4 0 k = y := fun k y e hy => HP3.out.col_keep (HP2.out.drew.col_keep e hy) hy
  have hcf4 := k4 f 0 hcf (by decide)
  have hcg4 := k4 g 0 hcg (by decide)
  have hco4 := k4 o 0 hco (by decide)
  have hd4 : ∀ k, l.length ≠ 0 ∧ (Value.slice ad l.length cap).ownBlock = some k → paint (paint col2 w2.drew w3 0) w3 w4 0 k = 8 := fun k hk => k4 k 8 (HD2.out k hk) (by decide)
  try simp only at P4
  generalize paint (paint col2 w2.drew w3 0) w3 w4 0 = col4 at *
  have HP4 := hyd P4
  have HLt4 := hyd hLt4
  have HH4 := hyd hH4
  have HD4 := hyd hd4
  clear P4 hLt4 hH4 hd4 k4 C4 G4 G3 HHb HP3 HP2 HLt2 HH2 HD2 hrow2 hrow3 hHb k0b o1b o2b k0c o1c o2c k0d o1d o2d hcf hcg hcs hco hls
  generalize hRR : writeR xc A Bb l = RR at *
  have HRR := hyd hRR
  clear hRR
  obtain ⟨s2, cd⟩ := RR
  try simp only at *
  go_wp2_with fail
  refine (kept_any w4 w1.heap.size s f g l.length (l ++ mrk 5) (l ++ mrk 5) HLt4.out (by rw [HML.out]; omega) (by rw [HML.out]; omega)).mono ?_
  rintro e w5 ⟨rfl, G5⟩
  rw [show decide (l ++ mrk 5 = l ++ mrk 5) = true from decide_eq_true rfl]
  have P5 := HP4.out.still G5
  have HLt5 := hyd (HLt4.out.chg G5 (fun f => f) (fun f => f) (fun f => f))
  have hH5 := HH4.out.chg G5 (fun _ _ _ f => f)
  have hrow5 := hrow4.chg G5 (fun f => f)
  have hcf5 : paint col4 w4 w5 0 f = 0 := HP4.out.col_keep hcf4 (by decide)
  have hcg5 : paint col4 w4 w5 0 g = 0 := HP4.out.col_keep hcg4 (by decide)
  have hco5 : paint col4 w4 w5 0 o = 0 := HP4.out.col_keep hco4 (by decide)
  have hd5 : ∀ k, l.length ≠ 0 ∧ (Value.slice ad l.length cap).ownBlock = some k → paint col4 w4 w5 0 k = 8 := fun k hk => HP4.out.col_keep (HD4.out k hk) (by decide)
  try simp only at P5
  generalize paint col4 w4 w5 0 = col5 at *
  have HP5 := hyd P5
  have HH5 := hyd hH5
  have HD5 := hyd hd5
  clear P5 G5 HLt4 HP4 HH4 HD4 hrow4 hcf4 hcg4 hco4 hH5 hd5
  go_wp2_with fail
  refine (turn_any w5 w1.heap.size s f g l.length (l ++ mrk 5) (l ++ mrk 5) HLt5.out rfl (by rw [HML.out]; omega)).mono ?_
  rintro e w6 ⟨rfl, -, G6⟩
  have P6 := HP5.out.junk G6 (fun k hk => by rcases hk with hk | hk <;> rw [hk]; exact hcf5; exact hcg5)
  have hH6 := HH5.out.chgD G6 (fun k _ hk e => by have h1 := HD5.out k hk; rcases e with e | e <;> rw [e] at h1 <;> omega)
  have hrow6 : Row w6 o 35 4 (fun i => ([.int .i64 K, .int .i64 A, .int .i64 Bb, .slice ad l.length cap] : List Value).getD i undef) := hrow5.chg G6 (fun e => by
    have hof : o ≠ f := fun e2 => by
      obtain ⟨cf, cg, -, h2, h3, -⟩ := HLt5.out
      obtain ⟨g', cap', hv, -, -, hB⟩ := h2.by (by rw [HML.out]; omega)
      have : f = g' := by injection hv with hv; injection hv with hv; injection hv
      subst this
      exact Row.ne hrow5 hB (by decide) e2
    have hog : o ≠ g := fun e2 => by
      obtain ⟨cf, cg, -, h2, h3, -⟩ := HLt5.out
      obtain ⟨g', cap', hv, -, -, hB⟩ := h3.by (by rw [HML.out]; omega)
      have : g = g' := by injection hv with hv; injection hv with hv; injection hv
      subst this
      exact Row.ne hrow5 hB (by decide) e2
    rcases e with e | e
    · exact hof e
    · exact hog e)
  have hd6 : ∀ k, l.length ≠ 0 ∧ (Value.slice ad l.length cap).ownBlock = some k → ¬ paint col5 w5 w6 0 k = 3 := fun k hk => by rw [HP5.out.col_keep (HD5.out k hk) (by decide)]; decide
  have hco6 : paint col5 w5 w6 0 o = 0 := HP5.out.col_keep hco5 (by decide)
  try simp only at P6
  generalize paint col5 w5 w6 0 = col6 at *
  have k2e : w6.cell? ⟨t, 2, none⟩ = some (.pointer (some ⟨r1, 0, none⟩)) := P6.cellR
  have o1e : w6.cell? ⟨o, 1, none⟩ = some (.int .i64 A) := hrow6.cell 1 (by omega)
  have o2e : w6.cell? ⟨o, 2, none⟩ = some (.int .i64 Bb) := hrow6.cell 2 (by omega)
  have o3e : w6.cell? ⟨o, 3, none⟩ = some (.slice ad l.length cap) := hrow6.cell 3 (by omega)
  have HP6 := hyd P6
  have HH6 := hyd hH6
  have HD6 := hyd hd6
  clear P6 hH6 hd6 G6 HLt5 HP5 HH5 HD5 hrow5 hcf5 hcg5 hco5
  go_wp2_with fail
  go_region_held3 (fun wx => wx.cell? ⟨t, 2, none⟩ = some (.pointer (some ⟨r1, 0, none⟩)) ∧ wx.cell? ⟨o, 1, none⟩ = some (.int .i64 A) ∧ wx.cell? ⟨o, 2, none⟩ = some (.int .i64 Bb) ∧ wx.cell? ⟨o, 3, none⟩ = some (.slice ad l.length cap))
    (first | exact ⟨k2e, o1e, o2e, o3e⟩ | exact ⟨k2f, o1f, o2f, o3f⟩)
    (first | (go_at_call 32; refine (rwrite_all r1 xc HOK.out (fun k => col6 k = 3) A Bb l ad cap _ (HH6.out.chg ((Chg.refl (fun _ => False) w6).drew) (fun _ _ _ f => f)) HD6.out ?_).mono ?_; (exact HP6.out.drew.rc); rintro e w7 ⟨rfl, R7, G7⟩; rw [HRR.out]; have R7' := R7; rw [HRR.out] at R7'; have P7 := HP6.out.drew.ref3 s2 HW.out R7' G7; have k2f : w7.cell? ⟨t, 2, none⟩ = some (.pointer (some ⟨r1, 0, none⟩)) := P7.cellR; have hrow7 := hrow6.drew.chg G7 (fun e => absurd (hco6.symm.trans e) (by decide)); have o1f : w7.cell? ⟨o, 1, none⟩ = some (.int .i64 A) := hrow7.cell 1 (by omega); have o2f : w7.cell? ⟨o, 2, none⟩ = some (.int .i64 Bb) := hrow7.cell 2 (by omega); have o3f : w7.cell? ⟨o, 3, none⟩ = some (.slice ad l.length cap) := hrow7.cell 3 (by omega)))
  try simp only at P7
  have HP7 := hyd P7
  clear P7 R7 R7' G7 hrow7 hrow6 k2e o1e o2e o3e k2f o1f o2f o3f HP6 HH6 HD6 hco6
  go_wp2_with fail
  refine (code_any cd HCo.out w7).mono ?_
  rintro e wq ⟨rfl, rfl⟩
  go_wp2
  go_ret
  exact ⟨rfl, _, HP7.out, rfl, rfl, Nat.le_succ _⟩
end Go.Proofs.Ytfjgnplplafniaa
