/-
  (*Two).step: Write. Conditions: both arrays stand alike.
-/
import Derived.Test.YthpjdnfalecbeaaView
namespace Go.Proofs.Ythpjdnfalecbeaa
open Go.RowKit
set_option maxRecDepth 100000
/-- Only what is nobody's has changed. -/
theorem Pst.junk {B : Prop} {w0 w w' : World} {t : Nat} {σ : Sta} {S : Nat → Prop} (h : Pst B w0 w t σ) (hc : Chg S w w') (hS : ∀ k, S k → σ.col k = 0) : Pst B w0 w' t { σ with col := paint σ.col w w' 0 } :=
  h.keep hc (fun k hk => Or.inl (hS k hk)) 0 σ.sc σ.xc h.oc h.ox (h.cc.chg hc (fun hs => by have := hS _ hs; rw [h.kc] at this; omega)) (RefAt.mono' (h.rc.chg hc (fun k hk hs => by have := hS k hs; omega)) (fun k _ hk => by
    show paint σ.col w w' 0 k = 3
    rw [paint_lt (h.lt (by rw [hk]; decide))]; exact hk))
theorem Pst.col_keep {B : Prop} {w0 w w' : World} {t : Nat} {σ : Sta} (h : Pst B w0 w t σ) {k y x : Nat} (hk : σ.col k = y) (hy : y ≠ 9) : paint σ.col w w' x k = y := by
  rw [paint_lt (h.lt (by rw [hk]; exact hy))]; exact hk
theorem lend_n (w : World) (a : Option Addr) (l : List Nat) (n cap : Nat) (hn : n = l.length) (hr : Held w (.slice a n cap) l) (hlen : l.length ≤ 140737488351232) (h0 : a ≠ none) :
    Calls Try.prog 18 #[.slice a n cap] w fun e w' => ∃ s f g, e = .returned (.pointer (some ⟨s, 0, none⟩)) ∧ LentAt w' w.heap.size s f g (l ++ mrk 5) (l ++ mrk 5) n ∧ Chg (fun _ => False) w w' := by
  subst hn
  exact lend_any w a l cap (fun e => absurd e h0) hr hlen
set_option maxHeartbeats 8000000 in
theorem step_writeA (B : Prop) (w0 : World) (t : Nat) (σ : Sta) (K A Bb : Int) (f : Nat) (w : World) (h : Pst B w0 w t σ) (hx : σ.xc = σ.sc) (hn : σ.nw = σ.nt) (hb : σ.nt ≤ 5864062014000)
    (hK1 : -9223372036854775808 ≤ K) (hK2 : K ≤ 9223372036854775807) (hf : f < 256) (hm : pkN 7 K = 0) (hB : 0 < Bb ∧ Bb < 500) :
    Calls Try.prog 8 #[.pointer (some ⟨t, 0, none⟩), .agg #[.int .i64 K, .int .i64 A, .int .i64 Bb, .int .u8 f]] w fun e w' => e = .returned (.bool true) ∧ ∃ σ', Alike B w0 w' t σ σ' := by
  obtain ⟨n, rfl⟩ : ∃ n : Nat, Bb = n := ⟨Bb.toNat, by omega⟩
  have hn500 : n < 500 := by omega
  have hq1 : (0 : Int) < n := hB.1
  have hq2 : (n : Int) < 500 := hB.2
  clear hB
  obtain ⟨col, c, d, r1, r2, nt, nw, sc, xc, sd, vt, vw, Vt, Vw, L⟩ := σ
  simp only at hx hn hb
  subst hx hn
  have hrow := box_row w (.int .i64 K) (.int .i64 A) (.int .i64 n) (.int .u8 f)
  have hGa : Chg (fun _ => False) w (w.alloc (.cells #[.int .i64 K, .int .i64 A, .int .i64 n, .int .u8 f] 34)) := (Chg.refl _ _).alloc _
  have P1 := h.still hGa
  have hsz : (w.alloc (.cells #[.int .i64 K, .int .i64 A, .int .i64 n, .int .u8 f] 34)).heap.size = w.heap.size + 1 := by simp
  have ho : paint col w (w.alloc (.cells #[.int .i64 K, .int .i64 A, .int .i64 n, .int .u8 f] 34)) 0 w.heap.size = 0 := by unfold paint; rw [if_pos (by omega)]
  have HM := hyd hm
  clear hm hsz hGa h
  go_enter Try.func8, Try.ntmps8
  go_wp2_with fail
  refine (pick_7 K hK1 hK2 _).mono ?_
  rintro e wq ⟨rfl, rfl⟩
  rw [HM.out]
  generalize paint col w (w.alloc (.cells #[.int .i64 K, .int .i64 A, .int .i64 n, .int .u8 f] 34)) 0 = col1 at *
  generalize w.alloc (.cells #[.int .i64 K, .int .i64 A, .int .i64 n, .int .u8 f] 34) = w1 at *
  generalize w.heap.size = o at *
  clear HM hK1 hK2
  try simp only at P1
  have o1 : w1.cell? ⟨o, 1, none⟩ = some (.int .i64 A) := hrow.cell 1 (by omega)
  have o2 : w1.cell? ⟨o, 2, none⟩ = some (.int .i64 n) := hrow.cell 2 (by omega)
  have o3 : w1.cell? ⟨o, 3, none⟩ = some (.int .u8 f) := hrow.cell 3 (by omega)
  have k0 : w1.cell? ⟨t, 0, none⟩ = some (.pointer (some ⟨c, 0, none⟩)) := P1.cellC
  have k1 : w1.cell? ⟨t, 1, none⟩ = some (.pointer (some ⟨d, 0, none⟩)) := P1.cellD
  have k2 : w1.cell? ⟨t, 2, none⟩ = some (.pointer (some ⟨r1, 0, none⟩)) := P1.cellR
  have k3 : w1.cell? ⟨t, 3, none⟩ = some (.pointer (some ⟨r2, 0, none⟩)) := P1.cellS
  have hC1 : AryAt w1 c xc := P1.cc
  have hok : Okr xc := P1.oc
  have HP1 := hyd P1
  have HOK := hyd hok
  clear P1 hok
  clear k1 k3 hC1 k0 k2
  go_wp2_with fail
  refine (some_any n f hn500 hf w1).mono ?_
  rintro e wa ⟨rfl, hAa, Ga⟩
  have Pa := HP1.out.still Ga
  have hHa : Held wa (.slice (some ⟨w1.heap.size, 0, none⟩) n n) (smL f n) := Arr.held hAa 0 n n (smL f n) (smL_length f n).symm (by rw [smL_length]; omega) (fun i hi => by rw [Nat.zero_add])
  have hrowa := hrow.chg Ga (fun f => f)
  have hoa : paint col1 w1 wa 0 o = 0 := HP1.out.col_keep ho (by decide)
  have HHa := hyd hHa
  try simp only at Pa
  generalize paint col1 w1 wa 0 = cola at *
  have HPa := hyd Pa
  have HBy := hyd (smL_bys f n)
  have HLN := hyd (smL_length f n)
  clear hAa Ga hHa Pa ho hrow HP1
  go_wp2_with fail
  refine (lend_n wa (some ⟨w1.heap.size, 0, none⟩) (smL f n) n n HLN.out.symm HHa.out (by rw [HLN.out]; omega) (by simp)).mono ?_
  rintro e w2 ⟨s, fb, g, rfl, hLt, G2⟩
  have P2 := HPa.out.still G2
  have hls := hLt.lts
  have hcs : paint cola wa w2 0 s = 0 := by unfold paint; rw [if_pos (by omega)]
  have hcf : paint cola wa w2 0 fb = 0 := by unfold paint; rw [if_pos (by omega)]
  have hcg : paint cola wa w2 0 g = 0 := by unfold paint; rw [if_pos (by omega)]
  have hco : paint cola wa w2 0 o = 0 := HPa.out.col_keep hoa (by decide)
  have hrow2 := hrowa.chg G2 (fun f => f)
  try simp only at P2
  generalize paint cola wa w2 0 = col2 at *
  have o1b : w2.cell? ⟨o, 1, none⟩ = some (.int .i64 A) := hrow2.cell 1 (by omega)
  have k0b : w2.cell? ⟨t, 0, none⟩ = some (.pointer (some ⟨c, 0, none⟩)) := P2.cellC
  have HML : Hid ((smL f n ++ mrk 5).length = n + 5) := by show _ = _; rw [List.length_append, mrk_length, HLN.out]
  have HTK : Hid ((smL f n ++ mrk 5).take n = smL f n) := by show _ = _; rw [List.take_append_of_le_length (by rw [HLN.out]; omega), List.take_of_length_le (by rw [HLN.out]; omega)]
  have HP2 := hyd P2
  have HLt2 := hyd hLt
  have HW := hyd (writeV_ok HOK.out A (smL f n) HBy.out)
  have HCo := hyd (writeV_code xc A (smL f n))
  clear P2 hLt G2 hrowa o1 o2 o3 hoa HHa HPa
  generalize hsl : smL f n = l at *
  have HSL := hyd hsl
  clear hsl
  go_wp2_with fail
  go_region_held3 (fun wx => wx.cell? ⟨t, 0, none⟩ = some (.pointer (some ⟨c, 0, none⟩)) ∧ wx.cell? ⟨o, 1, none⟩ = some (.int .i64 A))
    (first | exact ⟨k0b, o1b⟩ | exact ⟨k0c, o1c⟩ | exact ⟨k0d, o1d⟩)
    (first
      | (go_at_call 19; refine (bytes_any w2.drew wa.heap.size s fb g n (l ++ mrk 5) (l ++ mrk 5) (HLt2.out.chg ((Chg.refl (fun _ => False) w2).drew) (fun f => f) (fun f => f) (fun f => f)) (by rw [HML.out]; omega) (by rw [HML.out]; omega) (by rw [HML.out]; omega)).mono ?_; rintro e w3 ⟨cf, rfl, hHb, hcf2, G3⟩; have P3 := HP2.out.drew.still G3; have k0c : w3.cell? ⟨t, 0, none⟩ = some (.pointer (some ⟨c, 0, none⟩)) := P3.cellC; have hrow3 := hrow2.drew.chg G3 (fun f => f); have o1c : w3.cell? ⟨o, 1, none⟩ = some (.int .i64 A) := hrow3.cell 1 (by omega); have HP3 := hyd P3; have HHb : Hid (Held w3 (.slice (some ⟨fb, 0, none⟩) n cf) l) := (by show Held _ _ _; rw [HTK.out] at hHb; exact hHb.chg G3 (fun _ _ _ f => f)))
      | (go_at_call 11; refine (write_v c xc A (some ⟨fb, 0, none⟩) n cf l HLN.out.symm _ ?_ HHb.out).mono ?_; (exact HP3.out.cc); rintro e w4 ⟨rfl, C4, G4⟩; have P4 := HP3.out.prog (writeV xc A l).1 HW.out C4 G4; have k0d : w4.cell? ⟨t, 0, none⟩ = some (.pointer (some ⟨c, 0, none⟩)) := P4.cellC; have hrow4 := hrow3.chg G4 (fun e => by have h1 := HP2.out.kc; simp only at h1; rw [← e, hco] at h1; omega); have o1d : w4.cell? ⟨o, 1, none⟩ = some (.int .i64 A) := hrow4.cell 1 (by omega)))
  have hc2c : col2 c = 1 := HP2.out.kc
  have hsc : s ≠ c := fun e => by rw [e, hc2c] at hcs; omega
  have hfc : fb ≠ c := fun e => by rw [e, hc2c] at hcf; omega
  have hgc : g ≠ c := fun e => by rw [e, hc2c] at hcg; omega
  have hLt4 : LentAt w4 wa.heap.size s fb g (l ++ mrk 5) (l ++ mrk 5) n := (((HLt2.out.chg ((Chg.refl (fun _ => False) w2).drew) (fun f => f) (fun f => f) (fun f => f))).chg G3 (fun f => f) (fun f => f) (fun f => f)).chg G4 hsc hfc hgc
  have k4 : ∀ k y, col2 k = y → y ≠ 9 → paint (paint col2 w2.drew w3 0) w3 w4 0 k = y := fun k y e hy => HP3.out.col_keep (HP2.out.drew.col_keep e hy) hy
  have hcf4 := k4 fb 0 hcf (by decide)
  have hcg4 := k4 g 0 hcg (by decide)
  have hco4 := k4 o 0 hco (by decide)
  try simp only at P4
  generalize paint (paint col2 w2.drew w3 0) w3 w4 0 = col4 at *
  have HP4 := hyd P4
  have HLt4 := hyd hLt4
  clear P4 hLt4 k4 C4 G4 G3 HHb HP3 HP2 HLt2 hrow2 hrow3 hHb k0b o1b k0c o1c k0d o1d hcf hcg hcs hco hls
  generalize hRR : writeV xc A l = RR at *
  have HRR := hyd hRR
  clear hRR
  obtain ⟨s2, cd⟩ := RR
  try simp only at *
  go_wp2_with fail
  refine (kept_any w4 wa.heap.size s fb g n (l ++ mrk 5) (l ++ mrk 5) HLt4.out (by rw [HML.out]; omega) (by rw [HML.out]; omega)).mono ?_
  rintro e w5 ⟨rfl, G5⟩
  rw [show decide (l ++ mrk 5 = l ++ mrk 5) = true from decide_eq_true rfl]
  have P5 := HP4.out.still G5
  have HLt5 := hyd (HLt4.out.chg G5 (fun f => f) (fun f => f) (fun f => f))
  have hrow5 := hrow4.chg G5 (fun f => f)
  have hcf5 : paint col4 w4 w5 0 fb = 0 := HP4.out.col_keep hcf4 (by decide)
  have hcg5 : paint col4 w4 w5 0 g = 0 := HP4.out.col_keep hcg4 (by decide)
  have hco5 : paint col4 w4 w5 0 o = 0 := HP4.out.col_keep hco4 (by decide)
  try simp only at P5
  generalize paint col4 w4 w5 0 = col5 at *
  have HP5 := hyd P5
  clear P5 G5 HLt4 HP4 hrow4 hcf4 hcg4 hco4
  go_wp2_with fail
  refine (turn_any w5 wa.heap.size s fb g n (l ++ mrk 5) (l ++ mrk 5) HLt5.out rfl (by rw [HML.out]; omega)).mono ?_
  rintro e w6 ⟨rfl, -, G6⟩
  have P6 := HP5.out.junk G6 (fun k hk => by rcases hk with hk | hk <;> rw [hk]; exact hcf5; exact hcg5)
  have hrow6 : Row w6 o 34 4 (fun i => ([.int .i64 K, .int .i64 A, .int .i64 n, .int .u8 f] : List Value).getD i undef) := hrow5.chg G6 (fun e => by
    obtain ⟨cf', cg', -, h2, h3, -⟩ := HLt5.out
    rcases e with e | e
    · obtain ⟨g', cap', hv, -, -, hB⟩ := h2.by (by rw [HML.out]; omega)
      have : fb = g' := by injection hv with hv; injection hv with hv; injection hv
      subst this
      exact Row.ne hrow5 hB (by decide) e
    · obtain ⟨g', cap', hv, -, -, hB⟩ := h3.by (by rw [HML.out]; omega)
      have : g = g' := by injection hv with hv; injection hv with hv; injection hv
      subst this
      exact Row.ne hrow5 hB (by decide) e)
  have hco6 : paint col5 w5 w6 0 o = 0 := HP5.out.col_keep hco5 (by decide)
  try simp only at P6
  generalize paint col5 w5 w6 0 = col6 at *
  have k2e : w6.cell? ⟨t, 2, none⟩ = some (.pointer (some ⟨r1, 0, none⟩)) := P6.cellR
  have o1e : w6.cell? ⟨o, 1, none⟩ = some (.int .i64 A) := hrow6.cell 1 (by omega)
  have o3e : w6.cell? ⟨o, 3, none⟩ = some (.int .u8 f) := hrow6.cell 3 (by omega)
  have HP6 := hyd P6
  clear P6 G6 HLt5 HP5 hrow5 hcf5 hcg5 hco5
  go_wp2_with fail
  go_region_held3 (fun wx => wx.cell? ⟨t, 2, none⟩ = some (.pointer (some ⟨r1, 0, none⟩)) ∧ wx.cell? ⟨o, 1, none⟩ = some (.int .i64 A) ∧ wx.cell? ⟨o, 3, none⟩ = some (.int .u8 f))
    (first | exact ⟨k2e, o1e, o3e⟩ | exact ⟨k2g, o1g, o3g⟩ | exact ⟨k2f, o1f, o3f⟩)
    (first
      | (go_at_call 22; refine (code_any cd HCo.out _).mono ?_; rintro e wz ⟨rfl, rfl⟩)
      | (go_at_call 12; refine (some_any n f hn500 hf _).mono ?_; rintro e w8 ⟨rfl, hA8, G8⟩; rw [HSL.out] at hA8; have P8 := HP6.out.drew.still G8; have k2g : w8.cell? ⟨t, 2, none⟩ = some (.pointer (some ⟨r1, 0, none⟩)) := P8.cellR; have hrow8 := hrow6.drew.chg G8 (fun f => f); have hco8 : paint col6 w6.drew w8 0 o = 0 := HP6.out.drew.col_keep hco6 (by decide); have o1g : w8.cell? ⟨o, 1, none⟩ = some (.int .i64 A) := hrow8.cell 1 (by omega); have o3g : w8.cell? ⟨o, 3, none⟩ = some (.int .u8 f) := hrow8.cell 3 (by omega); have HH8 : Hid (Held w8 (.slice (some ⟨w6.drew.heap.size, 0, none⟩) n n) l) := Arr.held hA8 0 n n l HLN.out.symm (by omega) (fun i hi => by rw [Nat.zero_add]); have HP8 := hyd P8; have HX8 : Hid (paint col6 w6.drew w8 0 w6.drew.heap.size = 0) := (by show _ = _; have := hA8.lt; unfold paint; rw [if_pos ⟨Nat.le_refl _, this⟩]))
      | (go_at_call 23; refine (rwrite_v r1 xc (fun k => paint col6 w6.drew w8 0 k = 3) A (some ⟨w6.drew.heap.size, 0, none⟩) n n l HLN.out.symm _ ?_ HH8.out (fun k hk e => by have : w6.drew.heap.size = k := Option.some.inj hk; rw [← this, HX8.out] at e; omega)).mono ?_; (exact HP8.out.rc); rintro e w7 ⟨rfl, R7, G7⟩; rw [HRR.out]; have R7' := R7; rw [HRR.out] at R7'; have P7 := HP8.out.ref3 s2 HW.out R7' G7; have k2f : w7.cell? ⟨t, 2, none⟩ = some (.pointer (some ⟨r1, 0, none⟩)) := P7.cellR; have hrow7 := hrow8.chg G7 (fun e => absurd (hco8.symm.trans e) (by decide)); have o1f : w7.cell? ⟨o, 1, none⟩ = some (.int .i64 A) := hrow7.cell 1 (by omega); have o3f : w7.cell? ⟨o, 3, none⟩ = some (.int .u8 f) := hrow7.cell 3 (by omega)))
  all_goals
    try simp only at P7
    have HP7 := hyd P7
    clear P7 R7 R7' G7 hrow7 hrow6 k2e o1e o3e k2f o1f o3f HP6 hco6 HP8
    go_wp2
    go_ret
    exact ⟨rfl, _, HP7.out, rfl, rfl, Nat.le_succ _⟩
end Go.Proofs.Ythpjdnfalecbeaa
