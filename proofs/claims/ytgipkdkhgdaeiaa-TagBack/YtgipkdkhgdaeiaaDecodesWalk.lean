/-
  TagDecodes, walked: whatever the bytes, Decode answers as the document says, and leaves them as they were. Condition: the bytes came in as a slice does.
-/
import Derived.Test.YtgipkdkhgdaeiaaShown
import Derived.Test.YtgipkdkhgdaeiaaRefTag
import Derived.Test.YtgipkdkhgdaeiaaLent
namespace Go.Proofs.Ytgipkdkhgdaeiaa
open Go.RowKit
set_option maxRecDepth 100000

theorem Rd.held {w : World} {b : Nat} {a : Option Addr} {l : List Nat} (h : Rd w b a l) (cap : Nat) : Held w (.slice a l.length cap) l := by
  obtain ⟨hl, h0 | ⟨c, o, rfl, hc, hs, hcell⟩⟩ := h
  · exact ⟨a, cap, rfl, Or.inl (by rw [h0]; rfl)⟩
  · exact ⟨_, cap, rfl, Or.inr ⟨c, o, rfl, hs, hcell⟩⟩
/-- Bytes that came in. -/
theorem row_in {w : World} {a : Option Addr} {len cap : Nat} {zs : List Int} (h : IsRow .u8 w a len cap zs) : ∃ l : List Nat, l.length = len ∧ Bys l ∧ len ≤ cap ∧ (a = none → len = 0 ∧ cap = 0) ∧ Held w (.slice a len cap) l := by
  obtain ⟨l, hl, hc, hn, hr⟩ := rd_of_row h
  have := hr w.heap.size (Nat.le_refl _)
  exact ⟨l, hl, this.1, hc, hn, by rw [← hl]; exact this.held cap⟩
theorem Held.chgF {w w' : World} {v : Value} {l : List Nat} (h : Held w v l) (hc : Chg (fun _ => False) w w') : Held w' v l := h.chg hc (fun _ _ _ e => e)
theorem mrk_len' (l : List Nat) : (l ++ mrk 5).length = l.length + 5 := by rw [List.length_append, mrk_length]
theorem take_mrk (l : List Nat) : (l ++ mrk 5).take l.length = l := by simp
theorem Held.atB {w : World} {c o n cap : Nat} {l : List Nat} (h : Held w (.slice (some ⟨c, o, none⟩) n cap) l) (h0 : l.length ≠ 0) : At w c o l := by
  obtain ⟨g, o', e, hg, hc⟩ := h.at_ h0
  simp only [Option.some.injEq, Addr.mk.injEq] at e
  obtain ⟨rfl, rfl, -⟩ := e
  exact ⟨hg, hc⟩
/-- What Decode answers, at any bytes. -/
def DecAns (l : List Nat) (v : Value) (e : Value) : Prop :=
  (l.length ≠ 50 ∧ v = .agg #[.int .i64 0, .int .i64 0, .int .i64 0, .int .i64 0, .bool false] ∧ e = .iface 32 (.int .i64 1)) ∨
  (l.length = 50 ∧ ¬ IsB l ∧ v = .agg #[.int .i64 0, .int .i64 0, .int .i64 0, .int .i64 0, .bool false] ∧ e = .iface 32 (.int .i64 3)) ∨
  (l.length = 50 ∧ IsB l ∧ v = .agg #[.int .i64 (fld l 0 2 : Nat), .int .i64 (fld l 2 1 : Nat), .int .i64 (fld l 3 5 : Nat), .int .i64 (fld l 8 1 : Nat), .bool (lst l)] ∧ e = .nilIface)
theorem decode_any (w : World) (a : Option Addr) (n cap : Nat) (l : List Nat) (hl : Bys l) (hn : n = l.length) (hcap : n ≤ cap) (hH : Held w (.slice a n cap) l) :
    Calls Try.prog 14 #[.slice a n cap] w fun e w' => ∃ v x, e = .returned (.tuple #[v, x]) ∧ DecAns l v x ∧ Chg (fun _ => False) w w' := by
  by_cases h5 : l.length = 50
  · obtain rfl : n = 50 := by omega
    obtain ⟨c, o, rfl, hc, hcc⟩ := hH.at_ (by omega)
    by_cases hI : IsB l
    · refine (decode_yes w c o cap l hl h5 hcap ⟨hc, hcc⟩ hI.1 hI.2).mono ?_
      rintro e w' ⟨rfl, G⟩
      exact ⟨_, _, rfl, Or.inr (Or.inr ⟨h5, hI, rfl, rfl⟩), G⟩
    · refine (decode_no w c o cap l hl h5 hcap ⟨hc, hcc⟩ hI).mono ?_
      rintro e w' ⟨rfl, G⟩
      exact ⟨_, _, rfl, Or.inr (Or.inl ⟨h5, hI, rfl, rfl⟩), G⟩
  · refine (decode_arg w a n cap (by omega)).mono ?_
    rintro e w' ⟨rfl, G⟩
    exact ⟨_, _, rfl, Or.inl ⟨h5, rfl, rfl⟩, G⟩
theorem rtag_n (w : World) (a : Option Addr) (n cap : Nat) (l : List Nat) (hl : Bys l) (hn : n = l.length) (h5 : l.length = 50) (hcap : n ≤ cap) (hH : Held w (.slice a n cap) l) :
    Calls Try.prog 17 #[.slice a n cap] w fun e w' => TagAns l e ∧ Chg (fun _ => False) w w' := by
  obtain rfl : n = 50 := by omega
  obtain ⟨c, o, rfl, hc, hcc⟩ := hH.at_ (by omega)
  exact rtag_any w c o cap l hl h5 hcap ⟨hc, hcc⟩

set_option maxHeartbeats 8000000 in
theorem decodes_main (a0 : Option Addr) (cap0 : Nat) (l : List Nat) (w : World) (hl : Bys l) (hc : l.length ≤ cap0) (hno : a0 = none → l.length = 0 ∧ cap0 = 0) (hln : l.length ≤ 140737488351232) (hH : Held w (.slice a0 l.length cap0) l) :
    Calls Try.prog 4 #[.slice a0 l.length cap0] w fun e w' => e = .returned (.bool true) ∧ Chg (fun _ => False) w w' := by
  have HH := hyd hH
  have HNO := hyd hno
  have hb := build23
  clear hH hno
  go_enter Try.func4, Try.ntmps4
  go_wp2_with fail
  refine (shown_any w).mono ?_
  rintro e w1 ⟨rfl, G1⟩
  have HG1 := hyd G1
  clear G1
  go_wp2_with fail
  refine (lend_any w1 a0 l cap0 HNO.out (HH.out.chgF HG1.out) hln).mono ?_
  rintro e w2 ⟨s, f, g, rfl, L2, G2⟩
  have HG2 := hyd (HG1.out.trans G2)
  obtain ⟨t1, t2, t3, t4, t5, t6⟩ := L2.lts
  have hml := mrk_len' l
  clear G2 HG1
  go_wp2_with fail
  refine (bytes_any w2 _ s f g l.length (l ++ mrk 5) (l ++ mrk 5) L2 (by omega) (by omega) (by omega)).mono ?_
  rintro e w3 ⟨cf, rfl, B3, hcf, G3⟩
  rw [take_mrk] at B3
  have HB := hyd (B3.chgF G3)
  have HL3 := hyd (L2.chg G3 (fun e => e) (fun e => e) (fun e => e))
  have HG3 := hyd (HG2.out.trans G3)
  have hs3 := G3.size
  clear B3 L2 G3 HG2
  go_wp2_with fail
  refine (decode_any w3 _ l.length cf l hl rfl hcf HB.out).mono ?_
  rintro e w4 ⟨v, x, rfl, D4, G4⟩
  have HL4 := hyd (HL3.out.chg G4 (fun e => e) (fun e => e) (fun e => e))
  have HG4 := hyd (HG3.out.trans G4)
  have hk := fun (wx : World) (h : LentAt wx w1.heap.size s f g (l ++ mrk 5) (l ++ mrk 5) l.length) => kept_any wx _ s f g l.length (l ++ mrk 5) (l ++ mrk 5) h (by omega) (by omega)
  rw [decide_eq_true (rfl : l ++ mrk 5 = l ++ mrk 5)] at hk
  have HK := hyd hk
  clear G4 HB HL3 HG3 hk
  rcases D4 with ⟨h5, rfl, rfl⟩ | ⟨h5, hI, rfl, rfl⟩ | ⟨h5, hI, rfl, rfl⟩
  · have h5' : ((l.length : Int) != 50) = true := by simp only [bne_iff_ne, ne_eq]; omega
    have q1 := eql_arg_arg
    skip
    skip
    clear h5 
    go_wp2_with fail
    have TA := Tg.new w4 0 0 0 0 false
    have LA := HL4.out.chg ((Chg.refl (fun _ => False) w4).alloc (.cells #[.int .i64 0, .int .i64 0, .int .i64 0, .int .i64 0, .bool false] 23)) (fun e => e) (fun e => e) (fun e => e)
    have GA := HG4.out.alloc (.cells #[.int .i64 0, .int .i64 0, .int .i64 0, .int .i64 0, .bool false] 23)
    refine (HK.out _ LA).mono ?_
    rintro e w5 ⟨rfl, G5⟩
    have HT5 := hyd (TA.chg G5 (fun e => e))
    have HG5 := hyd (GA.trans G5)
    clear TA LA GA G5 HL4 HG4 HK
    obtain ⟨k0, k1, k2, k3, k4⟩ := HT5.out.cells
    go_wp2
    go_ret
    exact ⟨rfl, HG5.out⟩
  · have h5' : ((l.length : Int) != 50) = false := by rw [h5]; rfl
    have q1 := eql_form_form
    have HI := hyd hI
    have H5 := hyd h5
    clear h5 hI
    go_wp2_with fail
    have TA := Tg.new w4 0 0 0 0 false
    have LA := HL4.out.chg ((Chg.refl (fun _ => False) w4).alloc (.cells #[.int .i64 0, .int .i64 0, .int .i64 0, .int .i64 0, .bool false] 23)) (fun e => e) (fun e => e) (fun e => e)
    have GA := HG4.out.alloc (.cells #[.int .i64 0, .int .i64 0, .int .i64 0, .int .i64 0, .bool false] 23)
    refine (HK.out _ LA).mono ?_
    rintro e w5 ⟨rfl, G5⟩
    have HT5 := hyd (TA.chg G5 (fun e => e))
    have HG5 := hyd (GA.trans G5)
    clear TA LA GA G5 HL4 HG4 HK
    go_wp2_with fail
    refine (rtag_n w5 a0 l.length cap0 l hl rfl H5.out hc (HH.out.chgF HG5.out)).mono ?_
    rintro e w6 ⟨A6, G6⟩
    obtain rfl := (A6.resolve_left (fun h => HI.out h.1)).2
    have HT6 := hyd (HT5.out.chg G6 (fun e => e))
    have HG6 := hyd (HG5.out.trans G6)
    obtain ⟨k0, k1, k2, k3, k4⟩ := (HT6.out.alloc (.cells #[.int .i64 0, .int .i64 0, .int .i64 0, .int .i64 0, .bool false] 23)).cells
    clear A6 G6 HT5 HG5
    go_wp2
    go_ret
    exact ⟨rfl, HG6.out.alloc _⟩
  · have h5' : ((l.length : Int) != 50) = false := by rw [h5]; rfl
    have q1 := eql_nil_nil
    have HI := hyd hI
    have H5 := hyd h5
    clear h5 hI
    go_wp2_with fail
    have TA := Tg.new w4 (fld l 0 2 : Nat) (fld l 2 1 : Nat) (fld l 3 5 : Nat) (fld l 8 1 : Nat) (lst l)
    have LA := HL4.out.chg ((Chg.refl (fun _ => False) w4).alloc (.cells #[.int .i64 (fld l 0 2 : Nat), .int .i64 (fld l 2 1 : Nat), .int .i64 (fld l 3 5 : Nat), .int .i64 (fld l 8 1 : Nat), .bool (lst l)] 23)) (fun e => e) (fun e => e) (fun e => e)
    have GA := HG4.out.alloc (.cells #[.int .i64 (fld l 0 2 : Nat), .int .i64 (fld l 2 1 : Nat), .int .i64 (fld l 3 5 : Nat), .int .i64 (fld l 8 1 : Nat), .bool (lst l)] 23)
    refine (HK.out _ LA).mono ?_
    rintro e w5 ⟨rfl, G5⟩
    have HT5 := hyd (TA.chg G5 (fun e => e))
    have HG5 := hyd (GA.trans G5)
    clear TA LA GA G5 HL4 HG4 HK
    go_wp2_with fail
    refine (rtag_n w5 a0 l.length cap0 l hl rfl H5.out hc (HH.out.chgF HG5.out)).mono ?_
    rintro e w6 ⟨A6, G6⟩
    obtain rfl := (A6.resolve_right (fun h => h.1 HI.out)).2
    have HT6 := hyd (HT5.out.chg G6 (fun e => e))
    have HG6 := hyd (HG5.out.trans G6)
    obtain ⟨k0, k1, k2, k3, k4⟩ := (HT6.out.alloc (.cells #[.int .i64 (fld l 0 2 : Nat), .int .i64 (fld l 2 1 : Nat), .int .i64 (fld l 3 5 : Nat), .int .i64 (fld l 8 1 : Nat), .bool (lst l)] 23)).cells
    clear A6 G6 HT5 HG5
    go_wp2
    go_ret
    exact ⟨rfl, HG6.out.alloc _⟩
theorem decodes_walk (a0 : Option Addr) (len0 cap0 : Nat) (z0 : List Int) (w : World) (w0 : IsRow .u8 w a0 len0 cap0 z0) (r0 : cap0 * 1 ≤ 140737488351232) :
    Calls Try.prog 4 #[.slice a0 len0 cap0] w fun e w' => e = .returned (.bool true) ∧ Below w.heap.size w w' := by
  obtain ⟨l, rfl, hl, hc, hn, hH⟩ := row_in w0
  refine (decodes_main a0 cap0 l w hl hc hn (by omega) hH).mono ?_
  rintro e w' ⟨rfl, G⟩
  exact ⟨rfl, G.below (fun k e => e.elim) (Nat.le_refl _)⟩
end Go.Proofs.Ytgipkdkhgdaeiaa
