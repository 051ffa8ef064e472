/-
  The document's media: Read, Program, Same. Conditions: it stands whole; what comes in lies apart from it.
-/
import Derived.Test.YtifjmilegogbaaaGreatMRef
namespace Go.Proofs.YtifjmilegogbaaaGreat
open Go.RowKit
set_option maxRecDepth 100000

theorem RMd.cells {w : World} {R rr : Nat} {n : Int} (h : RMd w R rr n) : w.cell? ⟨R, 0, none⟩ = some (.pointer (some ⟨rr, 0, none⟩)) ∧ w.cell? ⟨R, 1, none⟩ = some (.int .i64 n) := by
  have h' : w.heap[R]? = some _ := h
  refine ⟨?_, ?_⟩ <;> simp [World.cell?, h']
theorem RMd.frozen {w : World} {R rr : Nat} {n : Int} (h : RMd w R rr n) (i : Nat) : w.frozen? ⟨R, i, none⟩ = false := by
  have h' : w.heap[R]? = some _ := h
  simp [World.frozen?, h']
theorem RMd.set {w : World} {R rr : Nat} {n : Int} (h : RMd w R rr n) (n' : Int) : RMd (w.setCell ⟨R, 1, none⟩ (.int .i64 n')) R rr n' := heap_setCell_same w R 1 _ 43 _ h
/-- Bytes lie apart from a page's block. -/
theorem held_pb {w w' : World} {v0 : Value} {l : List Nat} (h : Held w v0 l) {k : Nat} {t : Bool} {p o s c : Int} {b sd : Bool} {d : Int} (hP : Pb w k t p o s c b sd (.slice none 0 0) d) (hc : Chg (· = k) w w') : Held w' v0 l := by
  by_cases h0 : l.length = 0
  · obtain ⟨a, cp, e, _⟩ := h
    exact ⟨a, cp, e, Or.inl h0⟩
  · refine h.chg hc (fun j _ hj e => ?_)
    obtain ⟨a, cp, rfl, hx | ⟨g, o, rfl, hg, hx⟩⟩ := h
    · exact h0 hx
    · have e1 : g = j := Option.some.inj hj
      subst e1
      subst e
      exact pb_no_byte hP (fun z h => by cases h) (hx 0 (by omega))
set_option maxHeartbeats 8000000 in
theorem rmread_any (R rr : Nat) (r : Int) (s : Chp) (hs : s.Ok) (F : Nat → Prop) (hF : ¬ F R) (w : World) (h : RMd w R rr r) (hR : RefAt w rr s F) (hFl : ∀ k, F k → k < w.heap.size) (a : Int) :
    Calls Tryz.prog 39 #[.pointer (some ⟨R, 0, none⟩), .int .i64 a] w fun e w' => ∃ s' r' x c v, e = .returned (.tuple #[pgV x v, .int .i64 (c : Nat)]) ∧ ReadR s r a s' r' x c ∧ (v.oneCell' = true ∧ Held w' v x.data) ∧ RMd w' R rr r' ∧ RefAt w' rr s' F ∧ Chg (fun k => k = R ∨ F k) w w' := by
  have hbd := build65z
  have HP := hyd (Pb.new w false 0 0 0 0 false false (.slice none 0 0) 0)
  have G0 : Chg (fun _ => False) w (w.alloc (.cells #[.bool false, .int .i64 0, .int .i64 0, .int .i64 0, .int .i64 0, .bool false, .bool false, .slice none 0 0, .int .i64 0] 65)) := (Chg.refl _ w).alloc _
  have D0 := h.chg G0 (fun f => f)
  have R0 := hR.chg G0 (fun _ _ f => f)
  have hRl := h.lt
  obtain ⟨c0, -⟩ := D0.cells
  have hcall := rread_v rr s hs F a _ R0
  have hs0 : (w.alloc (.cells #[.bool false, .int .i64 0, .int .i64 0, .int .i64 0, .int .i64 0, .bool false, .bool false, .slice none 0 0, .int .i64 0] 65)).heap.size = w.heap.size + 1 := by simp
  rw [hs0] at hcall
  have HG := hyd G0
  have HD := hyd D0
  have hcode := readV_code s a
  have hF0 : ¬ F w.heap.size := fun f => by have := hFl _ f; omega
  clear G0 D0 R0 hs0 h hR
  go_enter Tryz.func39, Tryz.ntmps39
  go_wp2_with fail
  refine hcall.mono ?_
  rintro x w1 ⟨ad, n, cap, rfl, hn, hO, R1, G1⟩
  clear hcall c0
  have D1 := HD.out.chg G1 hF
  have HP1 := hyd (HP.out.chg G1 hF0)
  have G01 : Chg (fun k => k = R ∨ F k) w w1 := (HG.out.mono (T := fun k => k = R ∨ F k) (fun _ _ f => f.elim)).trans' G1 (fun k _ e => Or.inr e)
  have hs1 := G01.size
  have hs01 := HP1.out.lt
  by_cases hc : (readV s a).2.2 = 0
  · obtain ⟨hlen, hbys⟩ := readV_list hs hc
    have HC := hyd hc
    rw [hc]
    obtain ⟨g', cap', hv, hg', hg'', hle, hcl, -⟩ := hO.lies (by omega)
    have hH := hO.held
    rw [show n = 256 from by omega] at hH ⊢
    rw [show n = 256 from by omega, hlen] at hv
    injection hv with hv1 hv2 hv3
    subst hv1 hv3
    generalize hLL : (readV s a).2.1 = L at *
    have HLL := hyd hLL
    clear hLL hcl hO hn hcode hc
    obtain ⟨-, c1⟩ := D1.cells
    have f1 := D1.frozen 1
    have D2 := D1.set (wrap64 (r + 1))
    have G2 : Chg (· = R) w1 (w1.setCell ⟨R, 1, none⟩ (.int .i64 (wrap64 (r + 1)))) := (Chg.refl (· = R) w1).at _ 1 _
    have G02 : Chg (fun k => k = R ∨ F k) w (w1.setCell ⟨R, 1, none⟩ (.int .i64 (wrap64 (r + 1)))) := G01.trans' G2 (fun k _ e => Or.inl e)
    have R2 := R1.chg G2 (fun k hk e => hF (by rw [← e]; exact hk))
    have HP2 := hyd (HP1.out.chg G2 (by omega))
    have hH2 := hH.chg G2 (fun k hk he e => by have := Option.some.inj he; simp at this; omega)
    have hs12 := G2.size
    have htold := rtold_any _ g' 0 cap L hlen hbys (Nat.lt_of_lt_of_le hg'' hs12) (by omega) hH2 a
    have HD2 := hyd D2
    have HR2 := hyd R2
    have HG02 := hyd G02
    clear D1 D2 R1 R2 G1 G2 G02 G01 hH hH2 HP1
    go_wp2_with fail
    refine htold.mono ?_
    rintro x w3 ⟨X, v, rfl, hT, ⟨hv, hHv⟩, G3⟩
    clear htold
    have HP3 := hyd (HP2.out.chg G3 (fun f => f))
    have HR3 := hyd (HR2.out.chg G3 (fun _ _ f => f))
    have HD3 := hyd (HD2.out.chg G3 (fun f => f))
    have HG3 := hyd (HG02.out.trans' G3 (fun _ _ f => f.elim))
    have HHv := hyd hHv
    have HV := hyd hv
    clear G3 HR2 HG02 HP2 HD2 hHv hv
    simp only [pgV]
    go_wp2_with (refine wpList_store_pg rfl (.tmp 4) (.tmp 30) rfl w.heap.size rfl rfl HV.out HP3.out ?_)
    intro w4 P4 G4
    have HP4 := hyd P4
    have HD4 := hyd (HD3.out.chg G4 (by omega))
    have HR4 := hyd (HR3.out.chg G4 (fun k hk e => hF0 (by rw [← e]; exact hk)))
    have HG4 := hyd (HG3.out.trans' G4 (fun k hk e => by omega))
    have HH4 := hyd (held_pb HHv.out HP3.out G4)
    clear P4 G4 HD3 HR3 HG3 HP3 HHv
    go_wp2
    refine bodyPost_ret (results_pg2 rfl _ rfl HP4.out) rfl ?_
    exact ⟨(readV s a).1, wrap64 (r + 1), X, 0, v, rfl, ⟨rfl, HC.out.symm, Or.inr ⟨rfl, rfl, by rw [HLL.out]; exact hT⟩⟩, ⟨HV.out, HH4.out⟩, HD4.out, HR4.out, HG4.out⟩
  · have hc' : ((((readV s a).2.2 : Nat) : Int) != 0) = true := by simp [hc]
    have HD1 := hyd D1
    have HR1 := hyd R1
    have HG1 := hyd G01
    have HCC := hyd hc
    clear D1 R1 G1 G01 hO hn hcode hc
    obtain ⟨cc, hcc⟩ : ∃ cc, (readV s a).2.2 = cc := ⟨_, rfl⟩
    rw [hcc] at hc' ⊢
    have HE := hyd hcc
    clear hcc
    go_wp2_with (refine wpList_store_pg rfl (.tmp 4) (.tmp 19) rfl w.heap.size rfl rfl rfl HP1.out ?_)
    intro w2 P2 G2
    have HP2 := hyd P2
    have HD2 := hyd (HD1.out.chg G2 (by omega))
    have HR2 := hyd (HR1.out.chg G2 (fun k hk e => hF0 (by rw [← e]; exact hk)))
    have HG2 := hyd (HG1.out.trans' G2 (fun k hk e => by omega))
    clear P2 G2 HD1 HR1 HG1 HP1
    go_wp2
    refine bodyPost_ret (results_pg2 rfl _ rfl HP2.out) rfl ?_
    exact ⟨(readV s a).1, r, Pg.zero, cc, _, rfl, ⟨rfl, HE.out.symm, Or.inl ⟨by rw [← HE.out]; exact HCC.out, rfl, rfl⟩⟩, ⟨rfl, held_nil _⟩, HD2.out, HR2.out, HG2.out⟩
set_option maxHeartbeats 2000000 in
theorem rsame_eq (X : Pg) (a1 a2 : Option Addr) (c1 c2 : Nat) (hX : X.data.length ≤ 174) (w : World) (h1 : Held w (.slice a1 X.data.length c1) X.data) (h2 : Held w (.slice a2 X.data.length c2) X.data) :
    Calls Tryz.prog 40 #[pgV X (.slice a1 X.data.length c1), pgV X (.slice a2 X.data.length c2)] w fun e w' => e = .returned (.bool true) ∧ Chg (fun _ => False) w w' := by
  obtain ⟨xt, xp, xo, xs, xc, xl, xsd, xd, xg⟩ := X
  simp only at hX h1 h2
  simp only [pgV]
  have P1 := Pb.new w xt xp xo xs xc xl xsd (.slice a1 xd.length c1) xg
  have G1 : Chg (fun _ => False) w (w.alloc (.cells #[.bool xt, .int .i64 xp, .int .i64 xo, .int .i64 xs, .int .i64 xc, .bool xl, .bool xsd, .slice a1 xd.length c1, .int .i64 xg] 65)) := (Chg.refl _ w).alloc _
  have hs1 : (w.alloc (.cells #[.bool xt, .int .i64 xp, .int .i64 xo, .int .i64 xs, .int .i64 xc, .bool xl, .bool xsd, .slice a1 xd.length c1, .int .i64 xg] 65)).heap.size = w.heap.size + 1 := by simp
  generalize hw1 : w.alloc (.cells #[.bool xt, .int .i64 xp, .int .i64 xo, .int .i64 xs, .int .i64 xc, .bool xl, .bool xsd, .slice a1 xd.length c1, .int .i64 xg] 65) = w1 at *
  have P2 := Pb.new w1 xt xp xo xs xc xl xsd (.slice a2 xd.length c2) xg
  rw [hs1] at P2
  have G2 : Chg (fun _ => False) w1 (w1.alloc (.cells #[.bool xt, .int .i64 xp, .int .i64 xo, .int .i64 xs, .int .i64 xc, .bool xl, .bool xsd, .slice a2 xd.length c2, .int .i64 xg] 65)) := (Chg.refl _ w1).alloc _
  have P1' := P1.chg G2 (fun f => f)
  have hsame := same_n (w1.alloc (.cells #[.bool xt, .int .i64 xp, .int .i64 xo, .int .i64 xs, .int .i64 xc, .bool xl, .bool xsd, .slice a2 xd.length c2, .int .i64 xg] 65)) a1 a2 xd.length xd.length c1 c2 xd xd rfl rfl (h1.chgF (G1.trans G2)) (h2.chgF (G1.trans G2)) (by omega) (by omega)
  rw [decide_eq_true rfl] at hsame
  have HG := hyd (G1.trans G2)
  obtain ⟨k0, k1, k2, k3, k4, k5, k6, k7, k8⟩ := P1'.cells
  obtain ⟨j0, j1, j2, j3, j4, j5, j6, j7, j8⟩ := P2.cells
  have HP1 := hyd P1'
  have HP2 := hyd P2
  have hgd := guard_tag
  have qt := fun w => eql_tag w xp xo xs xc xp xo xs xc xl xl
  rw [decide_eq_true ⟨rfl, rfl, rfl, rfl, rfl⟩] at qt
  have b1 : ∀ b : Bool, (b == b) = true := fun b => by cases b <;> rfl
  have b2 : (((xg : Nat) : Int) == ((xg : Nat) : Int)) = true := by simp
  clear P1 P2 P1' G1 G2 h1 h2
  go_enter Tryz.func40, Tryz.ntmps40
  go_wp2_with fail
  refine hsame.mono ?_
  rintro x w3 ⟨rfl, G3⟩
  obtain ⟨k0, k1, k2, k3, k4, k5, k6, k7, k8⟩ := (HP1.out.chg G3 (fun f => f)).cells
  obtain ⟨j0, j1, j2, j3, j4, j5, j6, j7, j8⟩ := (HP2.out.chg G3 (fun f => f)).cells
  have HG3 := hyd (HG.out.trans G3)
  clear hsame G3 HP1 HP2 HG
  go_wp2
  go_ret
  exact ⟨rfl, HG3.out⟩
end Go.Proofs.YtifjmilegogbaaaGreat
