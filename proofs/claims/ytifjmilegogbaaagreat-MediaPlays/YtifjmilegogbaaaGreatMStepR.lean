/-
  The step Read of MediaPlays. Conditions: both stood alike.
-/
import Derived.Test.YtifjmilegogbaaaGreatMPst
import Derived.Deep.CutBlock
import Derived.Deep.DeepCutAuto
namespace Go.Proofs.YtifjmilegogbaaaGreat
open Go.RowKit
set_option maxRecDepth 100000
set_option linter.unusedVariables false

theorem OwnT.sl3 {w : World} {base : Nat} {e : TypeId} {v : Value} {l : List Nat} (h : OwnT w base e v l) : ∃ ad cap, v = .slice ad l.length cap := by
  rcases h.form with ⟨rfl, rfl⟩ | ⟨g, cap, rfl, _⟩
  · exact ⟨_, _, rfl⟩
  · exact ⟨_, _, rfl⟩
/-- A page that was read, in block K. -/
def PgB (w : World) (K : Nat) (X : Pg) (a : Option Addr) (cp : Nat) : Prop := Pb w K X.tagged X.p X.o X.s X.c X.l X.sound (.slice a X.data.length cp) X.dmg
theorem PgB.chg {S : Nat → Prop} {w w' : World} {K : Nat} {X : Pg} {a : Option Addr} {cp : Nat} (h : PgB w K X a cp) (hc : Chg S w w') (hk : ¬ S K) : PgB w' K X a cp := Pb.chg h hc hk
theorem held_pb' {w w' : World} {v0 : Value} {l : List Nat} (h : Held w v0 l) {k : Nat} {t : Bool} {p o s c : Int} {b sd : Bool} {d : Int} (hP : Pb w k t p o s c b sd (.slice none 0 0) d) (hc : Chg (· = k) w w') : Held w' v0 l := held_pb h hP hc
set_option maxHeartbeats 16000000 in
theorem step_read (w0 : World) (t c m p q b R rr : Nat) (F : Nat → Prop) (s : Chp) (r : Int) (K A B tp tf ts tc : Int) (tl : Bool) (f : Nat) (w : World) (h : Bst w0 w t c m p q b R rr F s r s r) (hK : -9223372036854775808 ≤ K ∧ K ≤ 9223372036854775807) (hA : A ≤ 9223372036854775807) (hB : B ≤ 9223372036854775807) (hf : f < 256) (hm : pkN K 10 = 1) :
    Calls Tryz.prog 9 #[.pointer (some ⟨t, 0, none⟩), (.agg #[.int .i64 K, .int .i64 A, .int .i64 B, .int .i64 tp, .int .i64 tf, .int .i64 ts, .int .i64 tc, .bool tl, .int .u8 (f : Nat)])] w fun e w' => StAns w0 w' t c m p q b R rr e := by
  have O0 := Opb.new w K A B tp tf ts tc tl f
  have G0 : Chg (fun _ => False) w (w.alloc (.cells #[.int .i64 K, .int .i64 A, .int .i64 B, .int .i64 tp, .int .i64 tf, .int .i64 ts, .int .i64 tc, .bool tl, .int .u8 (f : Nat)] 30)) := (Chg.refl _ w).alloc _
  have S0 := h.still G0
  have hol := h.lts
  have HM := hyd hm
  have hFo : ¬ F w.heap.size := fun f => by have := h.fl _ f; omega
  obtain ⟨o0, o1, o2, o3, o4, o5, o6, o7, o8⟩ := O0.cells
  obtain ⟨t0, t1, t2⟩ := S0.bth.cells
  obtain ⟨R0, R1⟩ := S0.rmd.cells
  have HS0 := hyd S0
  have HO0 := hyd O0
  clear O0 G0 S0 h hm
  go_enter Tryz.func9, Tryz.ntmps9
  go_wp2_with fail
  refine (pick_10 K hK.1 hK.2 _).mono ?_
  rintro e wq ⟨rfl, rfl⟩
  rw [HM.out]
  clear HM
  generalize w.alloc (.cells #[.int .i64 K, .int .i64 A, .int .i64 B, .int .i64 tp, .int .i64 tf, .int .i64 ts, .int .i64 tc, .bool tl, .int .u8 (f : Nat)] 30) = w1 at *
  generalize w.heap.size = o at *
  have hread := fun (wx : World) hM hC => mread_any m c p q b r s HS0.out.ok wx hM hC A
  have hl1 := HS0.out.lts
  have hfl := HS0.out.fl
  have hol1 := HO0.out.lt
  have hSd : ∀ wx, (wx = w1.drew ∨ wx = (w1.alloc (.cells #[.bool false, .int .i64 0, .int .i64 0, .int .i64 0, .int .i64 0, .bool false, .bool false, .slice none 0 0, .int .i64 0] 65)).drew) → Bst w0 wx t c m p q b R rr F s r s r ∧ Opb wx o K A B tp tf ts tc tl f ∧ w1.heap.size ≤ wx.heap.size := by
    rintro wx (rfl | rfl)
    · exact ⟨HS0.out.drew, HO0.out, Nat.le_refl _⟩
    · exact ⟨(HS0.out.still ((Chg.refl _ _).alloc _)).drew, (HO0.out.chg (((Chg.refl (fun _ => False) w1).alloc _).drew) (fun f => f)), by show w1.heap.size ≤ (w1.alloc _).heap.size; simp⟩
  have hZ : Pb (w1.alloc (.cells #[.bool false, .int .i64 0, .int .i64 0, .int .i64 0, .int .i64 0, .bool false, .bool false, .slice none 0 0, .int .i64 0] 65)).drew w1.heap.size false 0 0 0 0 false false (.slice none 0 0) 0 := Pb.new w1 false 0 0 0 0 false false (.slice none 0 0) 0
  have HSD := hyd hSd
  have HZ := hyd hZ
  have HFL := hyd hfl
  have t1z : (w1.alloc (.cells #[.bool false, .int .i64 0, .int .i64 0, .int .i64 0, .int .i64 0, .bool false, .bool false, .slice none 0 0, .int .i64 0] 65)).cell? ⟨t, 1, none⟩ = some (.pointer (some ⟨m, 0, none⟩)) := (hSd _ (Or.inr rfl)).1.bth.cells.2.1
  have o1z : (w1.alloc (.cells #[.bool false, .int .i64 0, .int .i64 0, .int .i64 0, .int .i64 0, .bool false, .bool false, .slice none 0 0, .int .i64 0] 65)).cell? ⟨o, 1, none⟩ = some (.int .i64 A) := (hSd _ (Or.inr rfl)).2.1.cells.2.1
  clear hSd hZ hfl
  go_upto_region 13 with fail
  go_cut [10, 11] (fun s10 s11 wx => ∃ (K1 : Nat) (X : Pg) (a1 : Option Addr) (cp1 : Nat) (s' : Chp) (r' : Int) (ex : Nat), s10 = .pointer (some ⟨K1, 0, none⟩) ∧ s11 = nerrV ex ∧ PgB wx K1 X a1 cp1 ∧ ReadR s r A s' r' X ex ∧ Held wx (.slice a1 X.data.length cp1) X.data ∧ Bst w0 wx t c m p q b R rr F s' r' s r ∧ Opb wx o K A B tp tf ts tc tl f ∧ (K1 ≠ t ∧ K1 ≠ c ∧ K1 ≠ m ∧ K1 ≠ p ∧ K1 ≠ q ∧ K1 ≠ b ∧ K1 ≠ R ∧ w0.heap.size ≤ K1 ∧ ¬ F K1) ∧ (∀ k, (Value.slice a1 X.data.length cp1).ownBlock = some k → ¬ F k ∧ k ≠ R) ∧ K1 ≠ o)
  case first =>
    go_region_with (first
      | (go_at_call 23; refine (hread _ (HSD.out _ (by first | exact Or.inl rfl | exact Or.inr rfl)).1.med (HSD.out _ (by first | exact Or.inl rfl | exact Or.inr rfl)).1.chip).mono ?_; rintro x w9 ⟨s9, r9, X9, c9, v9, rfl, hR9, hO9, M9, C9, G9⟩; obtain ⟨ad9, cp9, rfl⟩ := hO9.sl3; have S9 := (HSD.out _ (by first | exact Or.inl rfl | exact Or.inr rfl)).1.prog M9 C9 (hR9.ok HS0.out.ok) G9; have O9 := (HSD.out _ (by first | exact Or.inl rfl | exact Or.inr rfl)).2.1.chg G9 (by omega); have hwx := (HSD.out _ (by first | exact Or.inl rfl | exact Or.inr rfl)).2.2; have hs9 := G9.size; have hob : ∀ k, (Value.slice ad9 X9.data.length cp9).ownBlock = some k → w1.heap.size ≤ k ∧ k < w9.heap.size := (fun k hk => ⟨Nat.le_trans (HSD.out _ (by first | exact Or.inl rfl | exact Or.inr rfl)).2.2 (hO9.block hk).1, (hO9.block hk).2⟩); have HS9 := hyd S9; have HO9 := hyd O9; have HR9 := hyd hR9; have HH9 := hyd hO9.held; have HOB := hyd hob; (try (have hz9 := HZ.out.chg G9 (by omega); have zf := hz9.frozen; obtain ⟨z0, z1, z2, z3, z4, z5, z6, z7, z8⟩ := hz9.cells; have HPB := hyd (show PgB _ _ X9 ad9 cp9 from (((((((((hz9.set0 X9.tagged).set1 X9.p).set2 X9.o).set3 X9.s).set4 X9.c).set5 X9.l).set6 X9.sound).set7 (.slice ad9 X9.data.length cp9)).set8 X9.dmg)); have GB := ((((((((((Chg.refl (· = w1.heap.size) w9).at _ 0 (.bool X9.tagged)).at _ 1 (.int .i64 X9.p)).at _ 2 (.int .i64 X9.o)).at _ 3 (.int .i64 X9.s)).at _ 4 (.int .i64 X9.c)).at _ 5 (.bool X9.l)).at _ 6 (.bool X9.sound)).at _ 7 (.slice ad9 X9.data.length cp9)).at _ 8 (.int .i64 X9.dmg)); have HSB := hyd (S9.junk GB (fun k e => by subst e; exact ⟨fun f => by have := HFL.out _ f; omega, by omega⟩)); have HOBk := hyd (O9.chg GB (by omega)); have hzb : ∀ k, (Value.slice ad9 X9.data.length cp9).ownBlock = some k → k ≠ w1.heap.size := (fun k hk => by have := (hO9.block hk).1; have e : ((w1.alloc (.cells #[.bool false, .int .i64 0, .int .i64 0, .int .i64 0, .int .i64 0, .bool false, .bool false, .slice none 0 0, .int .i64 0] 65)).drew).heap.size = w1.heap.size + 1 := (by (show (w1.alloc _).heap.size = _); simp); omega); have HHB := hyd (HH9.out.chg GB (fun k _ hk e => hzb k hk e)); clear hzb; clear hz9 GB)); clear M9 C9 G9 S9 O9 hR9 hO9 hob; simp only [pgV]))
    all_goals (go_wp2_with fail; go_meet; first | exact ⟨_, X9, _, _, s9, r9, c9, rfl, rfl, HPB.out, HR9.out, HHB.out, HSB.out, HOBk.out, (by have hf9 := fun f => (HFL.out w1.heap.size f).1; refine ⟨?_, ?_, ?_, ?_, ?_, ?_, ?_, ?_, ?_⟩; all_goals first | omega | (intro f; have := hf9 f; omega)), (fun k hk => by have := HOB.out k hk; exact ⟨fun f => by have := (HFL.out k f).1; omega, by omega⟩), (by omega)⟩ | exact ⟨_, X9, _, _, s9, r9, c9, rfl, rfl, Pb.new w9 _ _ _ _ _ _ _ _ _, HR9.out, HH9.out.chgF ((Chg.refl (fun _ => False) w9).alloc _), HS9.out.still ((Chg.refl (fun _ => False) w9).alloc _), HO9.out.chg ((Chg.refl (fun _ => False) w9).alloc _) (fun f => f), (by have := HS9.out.lts; have hf9 := fun f => (HFL.out w9.heap.size f).1; refine ⟨?_, ?_, ?_, ?_, ?_, ?_, ?_, ?_, ?_⟩; all_goals first | omega | (intro f; have := hf9 f; omega)), (fun k hk => by have := HOB.out k hk; exact ⟨fun f => by have := (HFL.out k f).1; omega, by omega⟩), (by have := HO9.out.lt; omega)⟩)
  case rest =>
  clear t1z o1z HSD HZ hread HS0 HO0 t0 t1 t2 R0 R1 o0 o1 o2 o3 o4 o5 o6 o7 o8
  obtain ⟨K1, X, a1, cp1, s', r', ex, rfl, rfl, hP1, hR1, hH1, hS1, hO1, hK1, hb1, hKo⟩ := hcut
  obtain ⟨t0, t1, t2⟩ := hS1.bth.cells
  obtain ⟨o0, o1, -⟩ := hO1.cells
  have hread := fun (wx : World) hD hR (hfw : ∀ k, F k → k < wx.heap.size) => rmread_any R rr r s hS1.okx F (fun f => (hS1.fl _ f).2.2.2.2.2.2.2.2 rfl) wx hD hR hfw A
  have hl2 := hS1.lts
  have hfl := hS1.fl
  have hSd : ∀ wx, (wx = wc.drew ∨ wx = (wc.alloc (.cells #[.bool false, .int .i64 0, .int .i64 0, .int .i64 0, .int .i64 0, .bool false, .bool false, .slice none 0 0, .int .i64 0] 65)).drew) → Bst w0 wx t c m p q b R rr F s' r' s r ∧ PgB wx K1 X a1 cp1 ∧ Held wx (.slice a1 X.data.length cp1) X.data ∧ wc.heap.size ≤ wx.heap.size := by
    rintro wx (rfl | rfl)
    · exact ⟨hS1.drew, hP1, hH1.chgF ((Chg.refl _ _).drew), Nat.le_refl _⟩
    · exact ⟨(hS1.still ((Chg.refl _ _).alloc _)).drew, (hP1.chg (((Chg.refl (fun _ => False) wc).alloc _).drew) (fun f => f)), hH1.chgF ((Chg.refl _ _).alloc _).drew, by show wc.heap.size ≤ (wc.alloc _).heap.size; simp⟩
  have hZ : Pb (wc.alloc (.cells #[.bool false, .int .i64 0, .int .i64 0, .int .i64 0, .int .i64 0, .bool false, .bool false, .slice none 0 0, .int .i64 0] 65)).drew wc.heap.size false 0 0 0 0 false false (.slice none 0 0) 0 := Pb.new wc false 0 0 0 0 false false (.slice none 0 0) 0
  have HSD := hyd hSd
  have HZ := hyd hZ
  have HFL := hyd hfl
  have HKb := hyd hb1
  have HR1 := hyd hR1
  have hP1l := hP1.lt
  have HOKx := hyd hS1.okx
  have t2z : (wc.alloc (.cells #[.bool false, .int .i64 0, .int .i64 0, .int .i64 0, .int .i64 0, .bool false, .bool false, .slice none 0 0, .int .i64 0] 65)).cell? ⟨t, 2, none⟩ = some (.pointer (some ⟨R, 0, none⟩)) := (hSd _ (Or.inr rfl)).1.bth.cells.2.2
  have o1z : (wc.alloc (.cells #[.bool false, .int .i64 0, .int .i64 0, .int .i64 0, .int .i64 0, .bool false, .bool false, .slice none 0 0, .int .i64 0] 65)).cell? ⟨o, 1, none⟩ = some (.int .i64 A) := (hO1.chg ((Chg.refl (fun _ => False) wc).alloc _) (fun f => f)).cells.2.1
  clear hSd hZ hfl hb1 hR1 hP1 hH1 hO1 hS1
  go_upto_region 14 with fail
  go_cut [12, 13] (fun s12 s13 wx => ∃ (K2 : Nat) (Y : Pg) (a2 : Option Addr) (cp2 : Nat) (x' : Chp) (n' : Int) (ey : Nat) (F' : Nat → Prop), s12 = .pointer (some ⟨K2, 0, none⟩) ∧ s13 = .int .i64 (ey : Nat) ∧ PgB wx K2 Y a2 cp2 ∧ ReadR s r A x' n' Y ey ∧ Held wx (.slice a2 Y.data.length cp2) Y.data ∧ Bst w0 wx t c m p q b R rr F' s' r' x' n' ∧ PgB wx K1 X a1 cp1 ∧ Held wx (.slice a1 X.data.length cp1) X.data)
  case first =>
    go_region_with (first
      | (go_at_call 39; refine (hread _ (HSD.out _ (by first | exact Or.inl rfl | exact Or.inr rfl)).1.rmd (HSD.out _ (by first | exact Or.inl rfl | exact Or.inr rfl)).1.ref (fun k f => ((HSD.out _ (by first | exact Or.inl rfl | exact Or.inr rfl)).1.fl k f).1)).mono ?_; rintro x w9 ⟨s9, r9, X9, c9, v9, rfl, hR9, ⟨hv9, hH9⟩, D9, R9, G9⟩; obtain ⟨ad9, cp9, rfl, -⟩ := id hH9; have S9 := (HSD.out _ (by first | exact Or.inl rfl | exact Or.inr rfl)).1.refd D9 (RefAt.mono' R9 (fun k _ hk => Or.inl hk)) (hR9.ok HOKx.out) G9; have hs9 := G9.size; have hwx := (HSD.out _ (by first | exact Or.inl rfl | exact Or.inr rfl)).2.2.2; have P19 := (HSD.out _ (by first | exact Or.inl rfl | exact Or.inr rfl)).2.1.chg G9 (fun e => e.elim hK1.2.2.2.2.2.2.1 hK1.2.2.2.2.2.2.2.2); have H19 := (HSD.out _ (by first | exact Or.inl rfl | exact Or.inr rfl)).2.2.1.chg G9 (fun k _ hk e => e.elim (HKb.out k hk).2 (HKb.out k hk).1); have HS9 := hyd S9; have HR9 := hyd hR9; have HH9 := hyd hH9; have HP19 := hyd P19; have HH19 := hyd H19; (try (have hz9 := HZ.out.chg G9 (fun e => e.elim (by omega) (fun f => by have := (HFL.out _ f).1; omega)); have zf := hz9.frozen; obtain ⟨z0, z1, z2, z3, z4, z5, z6, z7, z8⟩ := hz9.cells; have HPB := hyd (show PgB _ _ X9 ad9 cp9 from (((((((((hz9.set0 X9.tagged).set1 X9.p).set2 X9.o).set3 X9.s).set4 X9.c).set5 X9.l).set6 X9.sound).set7 (.slice ad9 X9.data.length cp9)).set8 X9.dmg)); have GB := ((((((((((Chg.refl (· = wc.heap.size) w9).at _ 0 (.bool X9.tagged)).at _ 1 (.int .i64 X9.p)).at _ 2 (.int .i64 X9.o)).at _ 3 (.int .i64 X9.s)).at _ 4 (.int .i64 X9.c)).at _ 5 (.bool X9.l)).at _ 6 (.bool X9.sound)).at _ 7 (.slice ad9 X9.data.length cp9)).at _ 8 (.int .i64 X9.dmg)); have HHB := hyd (held_pb' HH9.out hz9 GB); have HHB1 := hyd (held_pb' HH19.out hz9 GB); have HPB1 := hyd (HP19.out.chg GB (by omega)); have HSB := hyd (S9.junk GB (fun k e => by subst e; exact ⟨fun f => (by rcases f with f | f; exact absurd (HFL.out _ f).1 (by omega); exact absurd f.1 (by have e : ((wc.alloc (.cells #[.bool false, .int .i64 0, .int .i64 0, .int .i64 0, .int .i64 0, .bool false, .bool false, .slice none 0 0, .int .i64 0] 65)).drew).heap.size = wc.heap.size + 1 := (by (show (wc.alloc _).heap.size = _); simp); omega)), by omega⟩)); clear hz9 GB)); clear D9 R9 G9 S9 hR9 hH9 hv9 P19 H19; simp only [pgV]))
    all_goals (go_wp2_with fail; go_meet; first | exact ⟨_, X9, _, _, s9, r9, c9, _, rfl, rfl, HPB.out, HR9.out, HHB.out, HSB.out, HPB1.out, HHB1.out⟩ | exact ⟨_, X9, _, _, s9, r9, c9, _, rfl, rfl, Pb.new w9 _ _ _ _ _ _ _ _ _, HR9.out, HH9.out.chgF ((Chg.refl (fun _ => False) w9).alloc _), HS9.out.still ((Chg.refl (fun _ => False) w9).alloc _), HP19.out.chg ((Chg.refl (fun _ => False) w9).alloc _) (fun f => f), HH19.out.chgF ((Chg.refl (fun _ => False) w9).alloc _)⟩)
  case rest =>
  clear t2z o1z HSD HZ hread t0 t1 t2 o0 o1 HKb HFL HOKx
  obtain ⟨K2, Y, a2, cp2, x', n', ey, F', rfl, rfl, hP2, hR2, hH2, hS2, hP1, hH1⟩ := hcut
  obtain ⟨rfl, rfl, rfl, rfl⟩ := HR1.out.unique hR2
  have hlen : X.data.length ≤ 174 := by
    rcases hR2.2.2 with ⟨_, _, e⟩ | ⟨_, _, e⟩
    · rw [e]; exact Nat.zero_le _
    · exact told_len e
  have hcode : nIsCode ex := by rw [hR2.2.1]; exact readV_code _ _
  have hsm := rsame_eq X a1 a2 cp1 cp2 hlen wc hH1 hH2
  have HP1 := hyd hP1
  have HP2 := hyd hP2
  have HS2 := hyd hS2
  clear hR2 hP1 hP2 hH1 hH2 hS2 HR1
  unfold pgV at hsm
  go_wp2_with (first | (refine wpList_load_pg rfl (.tmp 10) rfl K1 rfl HP1.out ?_) | (refine wpList_load_pg rfl (.tmp 12) rfl K2 rfl HP2.out ?_))
  refine hsm.mono ?_
  rintro y w5 ⟨rfl, G5⟩
  have HS5 := hyd (HS2.out.still G5)
  have heq : (((ex : Nat) : Int) == ((ex : Nat) : Int)) = true := by simp
  clear hsm G5 HS2 HP1 HP2
  go_wp2_with fail
  refine (ncode_any ex hcode _).mono ?_
  rintro y w6 ⟨rfl, rfl⟩
  go_wp2
  go_ret
  exact ⟨rfl, _, _, _, HS5.out⟩
end Go.Proofs.YtifjmilegogbaaaGreat
