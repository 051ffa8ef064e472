/-
  One thing is done with both pools. No condition.
-/
import Derived.Test.YtjgibllcfhblnaaViews
import Derived.Deep.RegionHeld3
namespace Go.Proofs.Ytjgibllcfhblnaa
set_option maxRecDepth 100000
open Go.RowKit

/-- Program and document stand alike. -/
structure Two (w0 w : World) (p r : Nat) (F G : Nat → Int) (f : Nat) (L : Int) : Prop where
  pool : IB w p 48 13 F
  ref : IB w r 50 13 G
  like : ∀ i, i < 12 → G i = F i
  from_ : F 12 = f
  last : G 12 = L
  f12 : f < 12
  lo : -1 ≤ L
  hi : L ≤ 11
  turn : (f : Int) = (L + 13) % 12
  ne : p ≠ r
  lp : w0.heap.size ≤ p
  lr : w0.heap.size ≤ r
  chg : Chg (fun _ => False) w0 w
theorem Two.still {w0 w w' : World} {p r f : Nat} {F G : Nat → Int} {L : Int} (h : Two w0 w p r F G f L) (hc : Chg (fun _ => False) w w') : Two w0 w' p r F G f L :=
  { h with pool := h.pool.chg hc (fun f => f), ref := h.ref.chg hc (fun f => f), chg := h.chg.trans hc }
theorem setF_12 (F : Nat → Int) (n s : Int) : setF F n s 12 = F 12 := by
  unfold setF
  split
  · rename_i h
    have := setC_zero h
    unfold upd
    rw [if_neg (by omega)]
  · rfl
theorem setF_like {F G : Nat → Int} (h : ∀ i, i < 12 → G i = F i) (n s : Int) (i : Nat) (hi : i < 12) : setF G n s i = setF F n s i := by
  unfold setF
  rw [setC_like h]
  split
  · unfold upd
    split
    · rfl
    · exact h i hi
  · exact h i hi
/-- Both were set. -/
theorem Two.set {w0 w w1 w2 : World} {p r f : Nat} {F G : Nat → Int} {L : Int} (h : Two w0 w p r F G f L) (n s : Int) (K1 : IB w1 p 48 13 (setF F n s)) (G1 : Chg (· = p) w w1) (K2 : IB w2 r 50 13 (setF G n s)) (G2 : Chg (· = r) w1 w2) : Two w0 w2 p r (setF F n s) (setF G n s) f L :=
  { h with
    pool := K1.chg G2 h.ne
    ref := K2
    like := setF_like h.like n s
    from_ := by rw [setF_12]; exact h.from_
    last := by rw [setF_12]; exact h.last
    chg := (h.chg.trans' G1 (fun i hi e => by have := h.lp; omega)).trans' G2 (fun i hi e => by have := h.lr; omega) }
theorem tkF_12 (F : Nat → Int) (c m : Nat) : tkF F c m 12 = if c = 0 then (((m + 1) % 12 : Nat) : Int) else F 12 := by
  unfold tkF
  split <;> simp [upd]
theorem tkG_12 (F : Nat → Int) (c m : Nat) : tkG F c m 12 = if c = 0 then (m : Int) else F 12 := by
  unfold tkG
  split <;> simp [upd]
theorem tk_like {F G : Nat → Int} (h : ∀ i, i < 12 → G i = F i) (c m : Nat) (i : Nat) (hi : i < 12) : tkG G c m i = tkF F c m i := by
  unfold tkG tkF
  split
  · have e : i ≠ 12 := by omega
    by_cases e2 : i = m
    · subst e2; simp [upd, e]
    · simp [upd, e, e2, h i hi]
  · exact h i hi
/-- Of both a block was taken. -/
theorem Two.take {w0 w w1 w2 : World} {p r f : Nat} {F G : Nat → Int} {L : Int} (h : Two w0 w p r F G f L) (c m : Nat) (hm : m < 12) (K1 : IB w1 p 48 13 (tkF F c m)) (G1 : Chg (· = p) w w1) (K2 : IB w2 r 50 13 (tkG G c m)) (G2 : Chg (· = r) w1 w2) : Two w0 w2 p r (tkF F c m) (tkG G c m) (if c = 0 then (m + 1) % 12 else f) (if c = 0 then m else L) :=
  { h with
    pool := K1.chg G2 h.ne
    ref := K2
    like := tk_like h.like c m
    from_ := by rw [tkF_12]; split; rfl; exact h.from_
    last := by rw [tkG_12]; split; rfl; exact h.last
    f12 := by have := h.f12; split <;> omega
    lo := by have := h.lo; split <;> omega
    hi := by have := h.hi; split <;> omega
    turn := by have := h.turn; split <;> omega
    chg := (h.chg.trans' G1 (fun i hi e => by have := h.lp; omega)).trans' G2 (fun i hi e => by have := h.lr; omega) }
/-- What a step answers. -/
def StAns (w0 w' : World) (p r : Nat) (e : Ending) : Prop := e = .returned (.bool true) ∧ ∃ F G f L, Two w0 w' p r F G f L
/-- An operation's three cells. -/
def op3 (K A B : Int) : Nat → Int := fun i => if i = 0 then K else if i = 1 then A else B
theorem op3_row (K A B : Int) : (ints (op3 K A B) 3).toArray = #[.int .i64 K, .int .i64 A, .int .i64 B] := rfl
set_option maxHeartbeats 8000000 in
theorem step_any (w0 w : World) (p r f : Nat) (F G : Nat → Int) (L : Int) (h : Two w0 w p r F G f L) (K A B : Int) (h1 : -9223372036854775808 ≤ K) (h2 : K ≤ 9223372036854775807) :
    Calls Try.prog 9 #[.pointer (some ⟨p, 0, none⟩), .pointer (some ⟨r, 0, none⟩), .agg #[.int .i64 K, .int .i64 A, .int .i64 B]] w fun e w' => StAns w0 w' p r e := by
  have G0 : Chg (fun _ => False) w (w.alloc (.cells #[.int .i64 K, .int .i64 A, .int .i64 B] 30)) := (Chg.refl _ w).alloc _
  have O0 : IB (w.alloc (.cells #[.int .i64 K, .int .i64 A, .int .i64 B] 30)) w.heap.size 30 3 (op3 K A B) := IB.new w 30 3 (op3 K A B)
  have HS := hyd (h.still G0)
  have hpo : p ≠ w.heap.size := Nat.ne_of_lt h.pool.lt
  have hro : r ≠ w.heap.size := Nat.ne_of_lt h.ref.lt
  obtain ⟨o0, -⟩ := O0.cell 0 (by omega)
  obtain ⟨o1, -⟩ := O0.cell 1 (by omega)
  obtain ⟨o2, -⟩ := O0.cell 2 (by omega)
  have HO := hyd O0
  clear G0 O0 h
  go_enter Try.func9, Try.ntmps9
  go_wp2_with fail
  generalize w.alloc (.cells #[.int .i64 K, .int .i64 A, .int .i64 B] 30) = w1 at *
  generalize w.heap.size = o at *
  refine (pick_any K h1 h2 6 (by omega) (by omega) _).mono ?_
  rintro e w1 ⟨⟨q, hq, rfl⟩, rfl⟩
  have hcase : q = 0 ∨ q = 1 ∨ q = 2 ∨ q = 3 ∨ q = 4 ∨ q = 5 := by omega
  clear hq o0
  rcases hcase with rfl | rfl | rfl | rfl | rfl | rfl
  · go_wp2_with fail
    refine (set_v w1 p F HS.out.pool A B).mono ?_
    rintro e w2 ⟨rfl, K2, G2⟩
    have O2 := HO.out.chg G2 hpo.symm
    obtain ⟨u1, -⟩ := O2.cell 1 (by omega)
    obtain ⟨u2, -⟩ := O2.cell 2 (by omega)
    have HK2 := hyd K2
    have HG2 := hyd G2
    have HR2 := hyd (HS.out.ref.chg G2 HS.out.ne.symm)
    have HO2 := hyd O2
    clear K2 G2 O2 o1 o2 HO
    go_wp2_with fail
    go_region_held3 (fun wx => wx.cell? ⟨o, 1, none⟩ = some (.int .i64 A) ∧ wx.cell? ⟨o, 2, none⟩ = some (.int .i64 B))
      (first | exact ⟨u1, u2⟩ | exact ⟨z1, z2⟩)
      (first
        | (go_at_call 19; refine (code_v _ (setC_code F A B) _).mono ?_; rintro x w3 ⟨rfl, rfl⟩)
        | (go_at_call 20; refine (rset_v _ r G HR2.out.drew A B).mono ?_; rintro x w4 ⟨rfl, K4, G4⟩; have O4 := (HO2.out.chg (Chg.refl (fun _ => False) w2).drew (fun f => f)).chg G4 hro.symm; obtain ⟨z1, -⟩ := O4.cell 1 (by omega); obtain ⟨z2, -⟩ := O4.cell 2 (by omega); have HT := hyd (HS.out.set A B HK2.out HG2.out K4 ((Chg.refl _ _).drew.trans G4)); clear K4 G4 O4))
    have hsc := setC_like HS.out.like A B
    have heq : (((setC F A B : Nat) : Int) == ((setC G A B : Nat) : Int)) = true := by rw [hsc]; simp
    clear hsc HS
    have HEQ := hyd heq
    clear heq
    go_wp2
    go_ret
    exact ⟨congrArg (fun z => Ending.returned (.bool z)) HEQ.out, _, _, _, _, HT.out⟩
  · obtain ⟨c, m, hN, hc, hm⟩ := nxt_any F f HS.out.f12
    have HN := hyd hN
    have HM := hyd hm
    clear hN o1 o2 HO hm
    have hc' : c = 0 ∨ c = 1 ∨ c = 10 ∨ c = 12 := by omega
    clear hc
    go_wp2_with fail
    refine (take_v w1 p F HS.out.pool f HS.out.f12 HS.out.from_ HN.out).mono ?_
    rintro e w2 ⟨rfl, K2, G2⟩
    have HK2 := hyd K2
    have HG2 := hyd G2
    have HR2 := hyd (HS.out.ref.chg G2 HS.out.ne.symm)
    clear K2 G2
    go_wp2_with fail
    refine (rtake_v w2 r F G HR2.out HS.out.like L HS.out.lo HS.out.hi f HS.out.turn HS.out.last HN.out).mono ?_
    rintro e w3 ⟨rfl, K3, G3⟩
    have HT := hyd (HS.out.take c m HM.out HK2.out HG2.out K3 G3)
    clear K3 G3 HK2 HG2 HR2 HS HN
    go_wp2_with (go_at_call 19; refine (code_v c hc' _).mono ?_; rintro x w4 ⟨rfl, rfl⟩)
    go_ret
    exact ⟨rfl, _, _, _, _, HT.out⟩
  · go_wp2_with fail
    refine (get_v w1 p F HS.out.pool A).mono ?_
    rintro e w2 ⟨rfl, rfl⟩
    have HE := hyd (getV_like HS.out.like A)
    go_wp2_with fail
    refine (rget_v w2 r G HS.out.ref A).mono ?_
    rintro e w3 ⟨rfl, rfl⟩
    rw [HE.out]
    have hc' := getC_code A
    have HT := hyd HS.out
    clear HS HE o1 o2 HO
    go_wp2_with (go_at_call 19; refine (code_v _ hc' _).mono ?_; rintro x w4 ⟨rfl, rfl⟩)
    go_ret
    exact ⟨rfl, _, _, _, _, HT.out⟩
  · go_wp2_with fail
    go_region_held3 (fun wx => wx.cell? ⟨o, 2, none⟩ = some (.int .i64 B))
      (first | exact o2)
      (first
        | (go_at_call 17; refine (count_any _ p F HS.out.pool.drew B).mono ?_; rintro x w3 ⟨rfl, rfl⟩)
        | (go_at_call 23; refine (rcount_any _ r G HS.out.ref.drew B).mono ?_; rintro x w4 ⟨rfl, rfl⟩))
    have hsc := cnt_like B 12 HS.out.like
    have heq : (((cnt F B 12 : Nat) : Int) == ((cnt G B 12 : Nat) : Int)) = true := by rw [hsc]; simp
    have HT := hyd (HS.out.still (Chg.refl (fun _ => False) w1).drew)
    clear hsc HS
    have HEQ := hyd heq
    clear heq
    go_wp2
    go_ret
    exact ⟨congrArg (fun z => Ending.returned (.bool z)) HEQ.out, _, _, _, _, HT.out⟩
  · go_wp2_with fail
    refine (stands_any w1 p r F G HS.out.pool HS.out.ref HS.out.like).mono ?_
    rintro e w2 ⟨rfl, G2⟩
    have HT := hyd (HS.out.still G2)
    clear HS G2 o1 o2 HO
    go_wp2
    go_ret
    exact ⟨rfl, _, _, _, _, HT.out⟩
  · have hb := bnd_like HS.out.like
    have hc3 := cnt_like 3 12 HS.out.like
    have hc0 := cnt_like 0 12 HS.out.like
    have a1 := bound_any w1 p F HS.out.pool
    have a2 := rbound_any w1 r G HS.out.ref
    have a3 := spare_any w1 p F HS.out.pool
    have a4 := rspare_any w1 r G HS.out.ref
    have a5 := worn_any w1 p F HS.out.pool
    have a6 := rworn_any w1 r G HS.out.ref
    rw [hb] at a2
    rw [hb, hc0] at a4
    rw [hc3] at a6
    have HT := hyd HS.out
    clear hb hc3 hc0 HS o1 o2 HO
    go_wp2_with (first
      | (go_at_call 12; refine a1.mono ?_; rintro x w3 ⟨rfl, rfl⟩)
      | (go_at_call 24; refine a2.mono ?_; rintro x w3 ⟨rfl, rfl⟩)
      | (go_at_call 25; refine a3.mono ?_; rintro x w3 ⟨rfl, rfl⟩)
      | (go_at_call 26; refine a4.mono ?_; rintro x w3 ⟨rfl, rfl⟩)
      | (go_at_call 18; refine a5.mono ?_; rintro x w3 ⟨rfl, rfl⟩)
      | (go_at_call 27; refine a6.mono ?_; rintro x w3 ⟨rfl, rfl⟩))
    go_ret
    exact ⟨rfl, _, _, _, _, HT.out⟩
end Go.Proofs.Ytjgibllcfhblnaa
