/-
  The document's chip: a chunk's damage and truth, a page, Read. Condition: the block holds the document's chip. The document's chip: Truth, a page, Read. Condition: the block holds the document's chip. The document's chip: another list of chunks in a block; Flip. Condition: the block holds the document's chip.
-/
import Derived.Test.YtifjmilegogbaaaGreatURMem
namespace Go.Proofs.YtifjmilegogbaaaGreat
open Go.RowKit
set_option maxRecDepth 100000

theorem RAt.ch {w : World} {r : Nat} {s : Chp} {F : Nat → Prop} {p : Plc} (h : RAt w r s F p) (b : Nat) (hb : b < 12) (j : Nat) (hj : j < 32) (t : Nat) (ht : t < 4) : w.cell? ⟨p.gL b, 4 * j + t, none⟩ = some ((rch (p.pc b j) (s.ch (32 * b + j))).getD t undef) := by
  rw [(h.lst b hb).row.cell _ (by omega), fam_at 4 (by omega) _ _ _ ht]
set_option maxHeartbeats 1000000 in
theorem rdmg_any (q o gn cn gt ct : Nat) (a b : List Nat) (ha : a.length = 64) (hb : b.length = 64) (hA : Bys a) (hBb : Bys b) (w : World) (c0 : w.cell? ⟨q, o, none⟩ = some (.slice (some ⟨gn, 0, none⟩) 64 cn)) (c1 : w.cell? ⟨q, o + 1, none⟩ = some (.slice (some ⟨gt, 0, none⟩) 64 ct))
    (hn : By w gn a) (ht : By w gt b) :
    Calls Tryz.prog 98 #[.pointer (some ⟨q, o, none⟩)] w fun e w' => e = .returned (.int .i64 (dmgTo a b 64 : Nat)) ∧ Chg (fun _ => False) w w' := by
  have hqs := block_lt_of_cell c0
  simp only at hqs
  have H0 := hyd c0
  have H1 := hyd c1
  have HN := hyd hn
  have HT := hyd ht
  have HLA := hyd ha
  have HLB := hyd hb
  clear c0 c1 hn ht ha hb
  go_enter Tryz.func98, Tryz.ntmps98
  go_wp2
  go_loopw [3, 4] (fun t3 t4 wr => ∃ i : Nat, i ≤ 64 ∧ t4 = .int .i64 i ∧ t3 = .int .i64 (dmgTo a b i : Nat) ∧ Chg (fun _ => False) w wr) (fun _ t4 _ => 64 - (intOf t4).toNat)
  case atStart => exact ⟨0, by omega, rfl, rfl, Chg.refl _ _⟩
  case round =>
    obtain ⟨i, hi, rfl, rfl, hG⟩ := hrel
    by_cases hlt : i < 64
    · have hi0 : (0 : Int) ≤ (i : Int) := by omega
      have hi1 : (i : Int) < 64 := by omega
      have c0 := (World.cell?_of_block (a := ⟨q, o, none⟩) (hG.drew.block q hqs (fun f => f))).trans H0.out
      have c1 := (World.cell?_of_block (a := ⟨q, o + 1, none⟩) (hG.drew.block q hqs (fun f => f))).trans H1.out
      have c2 := By.cell (Row.chg HN.out hG.drew (fun f => f)) i (by rw [HLA.out]; exact hlt)
      have c3 := By.cell (Row.chg HT.out hG.drew (fun f => f)) i (by rw [HLB.out]; exact hlt)
      have hb1 := hA.getD i
      have hb2 := hBb.getD i
      have hd := dmgTo_le a b i
      have HD : Hid (dmgTo a b (i + 1) = dmgTo a b i + (if a.getD i 0 = b.getD i 0 then 0 else 1)) := rfl
      generalize a.getD i 0 = x at *
      generalize b.getD i 0 = y at *
      have hG1 : Chg (fun _ => False) w wr.drew := hG.drew
      by_cases hxy : x = y
      · subst hxy
        rw [if_pos rfl] at HD
        have HD2 := hyd HD.out
        clear HD
        generalize dmgTo a b i = d at *
        go_wp2_with fail
        go_region
        all_goals
          go_wp2
          exact ⟨⟨i + 1, by omega, by go_num, by rw [HD2.out, Nat.add_zero], hG1⟩, by simp [intOf]; omega⟩
      · rw [if_neg hxy] at HD
        have HD2 := hyd HD.out
        clear HD
        generalize dmgTo a b i = d at *
        have hne : ((x : Int) == (y : Int)) = false := beq_eq_false_iff_ne.2 (by omega)
        go_wp2_with fail
        go_region
        all_goals
          go_wp2
          exact ⟨⟨i + 1, by omega, by go_num, by rw [HD2.out]; go_num, hG1⟩, by simp [intOf]; omega⟩
    · have e : i = 64 := by omega
      subst e
      go_wp2
      go_ret
      exact ⟨rfl, hG⟩
theorem chunk_of (a k : Nat) : 32 * (a / 8) + (a % 8 * 4 + k) = 4 * a + k := by omega
end Go.Proofs.YtifjmilegogbaaaGreat
namespace Go.Proofs.YtifjmilegogbaaaGreat
open Go.RowKit
set_option maxRecDepth 100000

set_option maxHeartbeats 1000000 in
theorem rpage_any (r : Nat) (s : Chp) (hs : s.Ok) (F : Nat → Prop) (a : Nat) (ha : a < 96) (w : World) (h : RefAt w r s F) :
    Calls Tryz.prog 91 #[.pointer (some ⟨r, 0, none⟩), .int .i64 a] w fun e w' => ∃ v, e = .returned v ∧ Own w' w.heap.size 5 v (pgTo s a 4) ∧ Chg (fun _ => False) w w' := by
  have hi5 := info5
  have HH := hyd h
  have HS := hyd hs
  clear h hs
  go_enter Tryz.func91, Tryz.ntmps91
  go_wp2
  go_loopw [5, 6] (fun t5 t6 wr => ∃ i : Nat, i ≤ 4 ∧ t6 = .int .i64 i ∧ Own wr w.heap.size 5 t5 (pgTo s a i) ∧ Chg (fun _ => False) w wr) (fun _ t6 _ => 4 - (intOf t6).toNat)
  case atStart => exact ⟨0, by omega, rfl, Own.nil _ _ _, Chg.refl _ _⟩
  case round =>
    obtain ⟨i, hi, rfl, hO, hG⟩ := hrel
    by_cases hlt : i < 4
    · have hi0 : (0 : Int) ≤ (i : Int) := by omega
      have hi1 : (i : Int) < 4 := by omega
      obtain ⟨p, hR⟩ := HH.out.chg hG (fun k _ f => f)
      have c0 := hR.ch (a / 8) (by omega) (a % 8 * 4 + i) (by omega) 0 (by omega)
      have hN := (hR.lst (a / 8) (by omega)).now (a % 8 * 4 + i) (by omega)
      simp only [chunk_of] at c0 hN
      have HC := hyd (rchunk_any r s F p a i ha hlt wr hR)
      have hn := (HS.out.ch (4 * a + i)).now
      have hpl := pgTo_length HS.out a i
      have HP : Hid (pgTo s a (i + 1) = pgTo s a i ++ (s.ch (4 * a + i)).now) := rfl
      generalize s.ch (4 * a + i) = x at *
      generalize p.pc (a / 8) (a % 8 * 4 + i) = y at *
      generalize p.gL (a / 8) = q at *
      generalize 4 * (a % 8 * 4 + i) = o at *
      have c0' : wr.cell? ⟨q, o, none⟩ = some (.slice (some ⟨y.n, 0, none⟩) 64 y.nc) := c0
      have HSRC : Hid (∀ ad, some (⟨y.n, 0, none⟩ : Addr) = some ad → ∀ j, j < 64 → wr.cell? (ad.add j) = some (.int .u8 (x.now.getD j 0 : Nat))) := by
        intro ad e j hj
        cases e
        rw [Addr.add_mid, Nat.zero_add]
        exact hN.cell j (by rw [hn]; exact hj)
      have HN := hyd hn
      have HL := hyd hpl
      have hsz := hG.size
      clear hR c0 hN hn hpl
      go_wp2_with fail
      refine HC.out.mono ?_
      rintro e w' ⟨rfl, rfl⟩
      go_wp2_with (at_builtin; refine wpList_append_bytes _ rfl (.tmp 11) (.tmp 18) 55 rfl w.heap.size 5 Tryz.underlying55 hi5 _ (pgTo s a i) rfl hO (some ⟨y.n, 0, none⟩) 64 y.nc x.now rfl HN.out (fun e => by cases e) HSRC.out (by rw [HL.out]; omega) hsz w'.heap.size rfl ?_)
      intro v' w2 hO2 hg2 hat2
      rw [← HP.out] at hO2
      have hG2 : Chg (fun _ => False) w w2 := hG.grown hg2 (fun k hk => Or.inr (hO.block hk).1)
      clear hO hG hg2 hat2
      go_wp2
      exact ⟨⟨i + 1, by omega, by go_num, hO2, hG2⟩, by simp [intOf]; omega⟩
    · have e : i = 4 := by omega
      subst e
      go_wp2
      go_ret
      exact ⟨_, rfl, hO, hG⟩
theorem rread_no (r : Nat) (a : Int) (h : a < 0 ∨ 96 ≤ a) (w : World) :
    Calls Tryz.prog 63 #[.pointer (some ⟨r, 0, none⟩), .int .i64 a] w fun e w' => e = .returned (.tuple #[.slice none 0 0, .int .i64 1]) ∧ Chg (fun _ => False) w w' := by
  go_enter Tryz.func63, Tryz.ntmps63
  go_wp2_with fail
  refine (isPage_no a h _).mono ?_
  rintro e w' ⟨rfl, rfl⟩
  go_wp2
  all_goals
    go_ret2
    exact ⟨rfl, Chg.refl _ _⟩
theorem rread_off (r : Nat) (s : Chp) (F : Nat → Prop) (a : Int) (h0 : 0 ≤ a) (h1 : a < 96) (w : World) (h : RefAt w r s F) (hon : s.on = false) :
    Calls Tryz.prog 63 #[.pointer (some ⟨r, 0, none⟩), .int .i64 a] w fun e w' => e = .returned (.tuple #[.slice none 0 0, .int .i64 7]) ∧ Chg (fun _ => False) w w' := by
  obtain ⟨p, h⟩ := h
  have c1 := h.cOn
  rw [hon] at c1
  clear hon h
  go_enter Tryz.func63, Tryz.ntmps63
  go_wp2_with fail
  refine (isPage_yes a h0 h1 _).mono ?_
  rintro e w' ⟨rfl, rfl⟩
  go_wp2
  all_goals
    go_ret2
    exact ⟨rfl, Chg.refl _ _⟩
set_option maxHeartbeats 1000000 in
theorem rread_yes (r : Nat) (s : Chp) (hs : s.Ok) (F : Nat → Prop) (a : Nat) (ha : a < 96) (w : World) (h : RefAt w r s F) (hon : s.on = true) :
    Calls Tryz.prog 63 #[.pointer (some ⟨r, 0, none⟩), .int .i64 a] w fun e w' => ∃ v, e = .returned (.tuple #[v, .int .i64 0]) ∧ Own w' w.heap.size 5 v (pgTo s a 4) ∧ RefAt w' r (rdS s a) F ∧ Chg F w w' := by
  obtain ⟨p, h⟩ := h
  have ha0 : (0 : Int) ≤ a := by omega
  have ha1 : (a : Int) < 96 := by omega
  have q0 : (0 : Int) ≤ (a : Int) / 8 := by omega
  have q1 : (a : Int) / 8 < 12 := by omega
  have c1 := h.cOn
  rw [hon] at c1
  have c2 := h.cB
  have c3 : w.cell? ⟨p.gB, a / 8 * 5 + 1, none⟩ = some (.int .i64 (s.bl (a / 8)).reads) := h.bl0 (a / 8) (by omega) 1 (by omega)
  have f3 := h.bl.frozen (a / 8 * 5 + 1)
  have t := bl_set h.bl (a / 8) { s.bl (a / 8) with reads := wrap64 ((s.bl (a / 8)).reads + 1) } (p.wh (a / 8)) 1 (.int .i64 (wrap64 ((s.bl (a / 8)).reads + 1))) (by omega) rfl
  have hG1 : Chg (· = p.gB) w (w.setCell ⟨p.gB, a / 8 * 5 + 1, none⟩ (.int .i64 (wrap64 ((s.bl (a / 8)).reads + 1)))) := Chg.r1 w _ _
  have hR := h.setBlk (a / 8) { s.bl (a / 8) with reads := wrap64 ((s.bl (a / 8)).reads + 1) } (p.wh (a / 8)) (h.rel.setBl (a / 8) _ _ (fun e => h.rel.wh (a / 8) e) (h.rel.whLo _) (h.rel.whHi _)) t hG1
  have hR2 : RefAt (w.setCell ⟨p.gB, a / 8 * 5 + 1, none⟩ (.int .i64 (wrap64 ((s.bl (a / 8)).reads + 1)))) r (rdS s a) F := ⟨_, hR⟩
  have hG : Chg F w (w.setCell ⟨p.gB, a / 8 * 5 + 1, none⟩ (.int .i64 (wrap64 ((s.bl (a / 8)).reads + 1)))) := hG1.mono (fun i _ e => by rw [e]; exact h.fb)
  have hz : (w.setCell ⟨p.gB, a / 8 * 5 + 1, none⟩ (.int .i64 (wrap64 ((s.bl (a / 8)).reads + 1)))).heap.size = w.heap.size := by simp [World.setCell]
  have HZ := hyd hz
  have HS := hyd hs
  clear h t hG1 hR hon hz hs
  go_enter Tryz.func63, Tryz.ntmps63
  go_wp2_with fail
  refine (isPage_yes (a : Int) ha0 ha1 _).mono ?_
  rintro e w' ⟨rfl, rfl⟩
  go_wp2_with fail
  generalize w'.setCell ⟨p.gB, a / 8 * 5 + 1, none⟩ (.int .i64 (wrap64 ((s.bl (a / 8)).reads + 1))) = w1 at *
  refine (rpage_any r (rdS s a) (rdS_ok HS.out a) F a ha w1 hR2).mono ?_
  rintro e w2 ⟨v, rfl, hO, hG2⟩
  have hR3 := hR2.chg hG2 (fun k _ f => f)
  have hG3 : Chg F w' w2 := hG.trans' hG2 (fun i _ f => f.elim)
  rw [HZ.out] at hO
  clear hR2 hG hG2
  go_wp2
  go_ret2
  exact ⟨v, rfl, hO, hR3, hG3⟩
end Go.Proofs.YtifjmilegogbaaaGreat
namespace Go.Proofs.YtifjmilegogbaaaGreat
open Go.RowKit
set_option maxRecDepth 100000
set_option linter.unusedSimpArgs false

theorem Lst.congr {w : World} {m q : Nat} {pc : Nat → Pc} {ch ch' : Nat → Chk} (h : Lst w m q pc ch) (e : ∀ j, j < m → ch' j = ch j) : Lst w m q pc ch' :=
  ⟨h.row.ext fun i hi => by
    unfold famF
    simp only [e (i / 4) (by omega)], fun j hj => by rw [e j hj]; exact h.now j hj, fun j hj => by rw [e j hj]; exact h.tru j hj, h.inj⟩
/-- The places, with another list in block b. -/
def Plc.setL (p : Plc) (b gl cl : Nat) (pcb : Nat → Pc) : Plc := { p with gL := fun c => if c = b then gl else p.gL c, cL := fun c => if c = b then cl else p.cL c, pc := fun c => if c = b then pcb else p.pc c }
theorem RAt.setLst {w w' : World} {r : Nat} {s : Chp} {F F' S : Nat → Prop} {p : Plc} (h : RAt w r s F p) (b : Nat) (gl cl : Nat) (pcb : Nat → Pc) (ch' : Nat → Chk)
    (hch : ∀ c, c < 12 → c ≠ b → ∀ j, j < 32 → ch' (32 * c + j) = s.ch (32 * c + j)) (hl : Lst w' 32 gl pcb (fun j => ch' (32 * b + j)))
    (hbl : Row w' p.gB 112 60 (famF 5 (rbl (p.setL b gl cl pcb) { s with ch := ch' }))) (hc : Chg S w w') (hSr : ¬ S r) (hSo : ∀ c, c < 12 → c ≠ b → ∀ k, InL 32 (p.gL c) (p.pc c) k → ¬ S k)
    (hF : ∀ k, F k → F' k) (hfl : ∀ k, InL 32 gl pcb k → F' k) (hdis : ∀ c, c < 12 → c ≠ b → ∀ k, InL 32 gl pcb k → ¬ InL 32 (p.gL c) (p.pc c) k) :
    RAt w' r { s with ch := ch' } F' (p.setL b gl cl pcb) := by
  refine ⟨h.top.chg hc hSr, hbl, fun c hb => ?_, ⟨h.rel.bu, h.rel.buLo, h.rel.buHi, h.rel.wh, h.rel.whLo, h.rel.whHi⟩, hF _ h.fr, hF _ h.fb, fun c hb k hk => ?_, fun c hb d hd hne k hk hk2 => ?_⟩
  · by_cases e : c = b
    · subst e
      simp only [Plc.setL, if_pos]
      exact hl
    · simp only [Plc.setL, if_neg e]
      exact ((h.lst c hb).chg hc (hSo c hb e)).congr (fun j hj => hch c hb e j hj)
  · by_cases e : c = b
    · subst e
      simp only [Plc.setL, if_pos] at hk
      exact hfl k hk
    · simp only [Plc.setL, if_neg e] at hk
      exact hF k (h.fl c hb k hk)
  · by_cases e : c = b
    · have e2 : d ≠ b := fun e2 => hne (by rw [e, e2])
      subst e
      simp only [Plc.setL, if_pos, if_neg e2] at hk hk2
      exact hdis d hd e2 k hk hk2
    · simp only [Plc.setL, if_neg e] at hk
      by_cases e2 : d = b
      · subst e2
        simp only [Plc.setL, if_pos] at hk2
        exact hdis c hb e k hk2 hk
      · simp only [Plc.setL, if_neg e2] at hk2
        exact h.dis c hb d hd hne k hk hk2
theorem rbl_setL (p : Plc) (s : Chp) (b : Nat) (pcb : Nat → Pc) (ch' : Nat → Chk) : rbl (p.setL b (p.gL b) (p.cL b) pcb) { s with ch := ch' } = rbl p s := by
  funext c
  by_cases e : c = b
  · subst e; simp only [rbl, Plc.setL, if_pos]
  · simp only [rbl, Plc.setL, if_neg e]
/-- Chunk j of block b is another, in its place. -/
theorem RAt.setChunk {w w' : World} {r : Nat} {s : Chp} {F F' S : Nat → Prop} {p : Plc} (h : RAt w r s F p) (b : Nat) (hb : b < 12) (j : Nat) (hj : j < 32) (k' : Chk) (y : Pc)
    (hrow : Row w' (p.gL b) 159 128 (famF 4 fun i => rch (if i = j then y else p.pc b i) ((s.setCh (32 * b + j) k').ch (32 * b + i)))) (hn : By w' y.n k'.now) (ht : By w' y.t k'.tru)
    (hc : Chg S w w') (hS : ∀ k, S k → k = p.gL b ∨ k = (p.pc b j).n)
    (hF : ∀ k, F k → F' k) (hFn : F' y.n) (hFt : F' y.t) (hny : y.n = (p.pc b j).n ∨ w.heap.size ≤ y.n) (hty : y.t = (p.pc b j).t ∨ w.heap.size ≤ y.t) (hnt : y.n ≠ y.t) :
    RAt w' r (s.setCh (32 * b + j) k') F' (p.setL b (p.gL b) (p.cL b) (fun i => if i = j then y else p.pc b i)) := by
  have hSr : ¬ S r := fun hs => by
    rcases hS r hs with e | e
    · exact h.rl b hb _ (Or.inl rfl) e.symm
    · exact h.rl b hb _ (Or.inr ⟨j, hj, Or.inl rfl⟩) e.symm
  have hSb : ¬ S p.gB := fun hs => by
    rcases hS p.gB hs with e | e
    · exact h.bL b hb _ (Or.inl rfl) e.symm
    · exact h.bL b hb _ (Or.inr ⟨j, hj, Or.inl rfl⟩) e.symm
  have hL := h.lst b hb
  have hin : ∀ k, InL 32 (p.gL b) (fun i => if i = j then y else p.pc b i) k → InL 32 (p.gL b) (p.pc b) k ∨ ((k = y.n ∨ k = y.t) ∧ w.heap.size ≤ k) := by
    rintro k (rfl | ⟨i, hi, hk⟩)
    · exact Or.inl (Or.inl rfl)
    · by_cases e : i = j
      · simp only [if_pos e] at hk
        rcases hk with rfl | rfl
        · rcases hny with e1 | e1
          · exact Or.inl (Or.inr ⟨j, hj, Or.inl e1⟩)
          · exact Or.inr ⟨Or.inl rfl, e1⟩
        · rcases hty with e1 | e1
          · exact Or.inl (Or.inr ⟨j, hj, Or.inr e1⟩)
          · exact Or.inr ⟨Or.inr rfl, e1⟩
      · simp only [if_neg e] at hk
        exact Or.inl (Or.inr ⟨i, hi, hk⟩)
  refine h.setLst b (p.gL b) (p.cL b) _ _ (fun c hc2 hne i hi => ?_) ⟨hrow, fun i hi => ?_, fun i hi => ?_, fun i hi k hk => ?_⟩ ?_ hc hSr (fun c hc2 hne k hk hs => ?_) hF (fun k hk => ?_) (fun c hc2 hne k hk hk2 => ?_)
  · show (if 32 * c + i = 32 * b + j then k' else s.ch (32 * c + i)) = _
    rw [if_neg (by omega)]
  · by_cases e : i = j
    · simp only [if_pos e, Chp.setCh, e, if_true]
      exact hn
    · simp only [if_neg e, Chp.setCh, if_neg (show ¬ 32 * b + i = 32 * b + j by omega)]
      exact Row.chg (hL.now i hi) hc (fun hs => by
        rcases hS _ hs with e1 | e1
        · exact Row.ne (hL.now i hi) hL.row (by decide) e1
        · exact (hL.inj i hi j hj).1 e e1)
  · by_cases e : i = j
    · simp only [if_pos e, Chp.setCh, e, if_true]
      exact ht
    · simp only [if_neg e, Chp.setCh, if_neg (show ¬ 32 * b + i = 32 * b + j by omega)]
      exact Row.chg (hL.tru i hi) hc (fun hs => by
        rcases hS _ hs with e1 | e1
        · exact Row.ne (hL.tru i hi) hL.row (by decide) e1
        · exact (hL.inj j hj i hi).2 e1.symm)
  · have l1 : ∀ i, i < 32 → (p.pc b i).n < w.heap.size := fun i hi => Row.lt (hL.now i hi)
    have l2 : ∀ i, i < 32 → (p.pc b i).t < w.heap.size := fun i hi => Row.lt (hL.tru i hi)
    have I := hL.inj
    by_cases e : i = j
    · by_cases e2 : k = j
      · simp only [if_pos e, if_pos e2]
        exact ⟨fun hh => absurd (e.trans e2.symm) hh, hnt⟩
      · simp only [if_pos e, if_neg e2]
        have a1 := l1 k hk
        have a2 := l2 k hk
        have a3 := I j hj k hk
        constructor
        · intro _
          rcases hny with e1 | e1
          · rw [e1]; exact a3.1 (fun hh => e2 hh.symm)
          · omega
        · rcases hny with e1 | e1
          · rw [e1]; exact a3.2
          · omega
    · by_cases e2 : k = j
      · simp only [if_neg e, if_pos e2]
        have a1 := l1 i hi
        have a3 := I i hi j hj
        constructor
        · intro _
          rcases hny with e1 | e1
          · rw [e1]; exact a3.1 e
          · omega
        · rcases hty with e1 | e1
          · rw [e1]; exact a3.2
          · omega
      · simp only [if_neg e, if_neg e2]
        exact I i hi k hk
  · have e1 := rbl_setL p s b (fun i => if i = j then y else p.pc b i) (fun i => if i = 32 * b + j then k' else s.ch i)
    rw [e1]
    exact h.bl.chg hc hSb
  · rcases hS k hs with e | e
    · exact h.dis b hb c hc2 (fun e => hne e.symm) k (Or.inl e) hk
    · exact h.dis b hb c hc2 (fun e => hne e.symm) k (Or.inr ⟨j, hj, Or.inl e⟩) hk
  · rcases hin k hk with h1 | ⟨rfl | rfl, _⟩
    · exact hF k (h.fl b hb k h1)
    · exact hFn
    · exact hFt
  · rcases hin k hk with h1 | ⟨_, h1⟩
    · exact h.dis b hb c hc2 (fun e => hne e.symm) k h1 hk2
    · have := (h.lst c hc2).lt hk2
      omega
theorem rflip_arg (r : Nat) (a b : Int) (h : ¬ (0 ≤ a ∧ a < 96 ∧ 0 ≤ b ∧ b < 2048)) (w : World) :
    Calls Tryz.prog 67 #[.pointer (some ⟨r, 0, none⟩), .int .i64 a, .int .i64 b] w fun e w' => e = .returned (.int .i64 1) ∧ w' = w := by
  by_cases ha : a < 0 ∨ 96 ≤ a
  · go_enter Tryz.func67, Tryz.ntmps67
    go_wp2_with fail
    refine (isPage_no a ha _).mono ?_
    rintro e w' ⟨rfl, rfl⟩
    go_wp2
    go_ret
    exact ⟨rfl, rfl⟩
  · have ha0 : 0 ≤ a := by omega
    have ha1 : a < 96 := by omega
    by_cases hk : b < 0
    · clear h ha
      go_enter Tryz.func67, Tryz.ntmps67
      go_wp2_with fail
      refine (isPage_yes a ha0 ha1 _).mono ?_
      rintro e w' ⟨rfl, rfl⟩
      go_wp2
      go_ret
      exact ⟨rfl, rfl⟩
    · have hk2 : 2048 ≤ b := by omega
      clear h ha
      go_enter Tryz.func67, Tryz.ntmps67
      go_wp2_with fail
      refine (isPage_yes a ha0 ha1 _).mono ?_
      rintro e w' ⟨rfl, rfl⟩
      go_wp2
      go_ret
      exact ⟨rfl, rfl⟩
theorem rch_fam {p : Plc} {s : Chp} {b j : Nat} {k' : Chk} {y : Pc} (i : Nat) (h : i ≠ j) : rch (if i = j then y else p.pc b i) ((s.setCh (32 * b + j) k').ch (32 * b + i)) = rch (p.pc b i) (s.ch (32 * b + i)) := by
  rw [if_neg h]
  congr 1
  simp only [Chp.setCh]
  rw [if_neg (by omega)]
theorem rch_fam_same {p : Plc} {s : Chp} {b j : Nat} {k' : Chk} {y : Pc} : rch (if j = j then y else p.pc b j) ((s.setCh (32 * b + j) k').ch (32 * b + j)) = rch y k' := by
  rw [if_pos rfl]
  congr 1
  simp only [Chp.setCh, if_pos]
set_option maxHeartbeats 2000000 in
theorem rflip_good (r : Nat) (s : Chp) (hs : s.Ok) (F : Nat → Prop) (a b : Nat) (ha : a < 96) (hb : b < 2048) (w : World) (h : RefAt w r s F) :
    Calls Tryz.prog 67 #[.pointer (some ⟨r, 0, none⟩), .int .i64 a, .int .i64 b] w fun e w' => e = .returned (.int .i64 0) ∧ RefAt w' r (s.setCh (4 * a + b / 512) (turnK (s.ch (4 * a + b / 512)) (b / 8 % 64) (b % 8))) F ∧ Chg F w w' := by
  obtain ⟨p, h⟩ := h
  have ha0 : (0 : Int) ≤ a := by omega
  have ha1 : (a : Int) < 96 := by omega
  have hb0 : (0 : Int) ≤ b := by omega
  have hb1 : (b : Int) < 2048 := by omega
  have hL := h.lst (a / 8) (by omega)
  have hj : a % 8 * 4 + b / 512 < 32 := by omega
  have c0 : w.cell? ⟨p.gL (a / 8), 4 * (a % 8 * 4 + b / 512), none⟩ = some (.slice (some ⟨(p.pc (a / 8) (a % 8 * 4 + b / 512)).n, 0, none⟩) 64 (p.pc (a / 8) (a % 8 * 4 + b / 512)).nc) := h.ch (a / 8) (by omega) _ hj 0 (by omega)
  have c1 : w.cell? ⟨p.gL (a / 8), 4 * (a % 8 * 4 + b / 512) + 1, none⟩ = some (.slice (some ⟨(p.pc (a / 8) (a % 8 * 4 + b / 512)).t, 0, none⟩) 64 (p.pc (a / 8) (a % 8 * 4 + b / 512)).tc) := h.ch (a / 8) (by omega) _ hj 1 (by omega)
  have c3 : w.cell? ⟨p.gL (a / 8), 4 * (a % 8 * 4 + b / 512) + 3, none⟩ = some (.int .i64 (s.ch (32 * (a / 8) + (a % 8 * 4 + b / 512))).worst) := h.ch (a / 8) (by omega) _ hj 3 (by omega)
  have hN := hL.now _ hj
  have hT := hL.tru _ hj
  have HC := hyd (rchunk_any r s F p a (b / 512) ha (by omega) w h)
  have hidx : 4 * a + b / 512 = 32 * (a / 8) + (a % 8 * 4 + b / 512) := by omega
  rw [hidx]
  have hK := hs.ch (32 * (a / 8) + (a % 8 * 4 + b / 512))
  have hnt := (hL.inj _ hj _ hj).2
  have hnq : (p.pc (a / 8) (a % 8 * 4 + b / 512)).n ≠ p.gL (a / 8) := Row.ne hN hL.row (by decide)
  have htq : (p.pc (a / 8) (a % 8 * 4 + b / 512)).t ≠ p.gL (a / 8) := Row.ne hT hL.row (by decide)
  have hFn : F (p.pc (a / 8) (a % 8 * 4 + b / 512)).n := h.fl (a / 8) (by omega) _ (Or.inr ⟨_, hj, Or.inl rfl⟩)
  have hFt : F (p.pc (a / 8) (a % 8 * 4 + b / 512)).t := h.fl (a / 8) (by omega) _ (Or.inr ⟨_, hj, Or.inr rfl⟩)
  have hFq : F (p.gL (a / 8)) := h.fl (a / 8) (by omega) _ (Or.inl rfl)
  have hqs := hL.row.lt
  have hrow := hL.row
  have HSet := fun (w' : World) (S : Nat → Prop) (k' : Chk) => h.setChunk (w' := w') (F' := F) (S := S) (a / 8) (by omega) (a % 8 * 4 + b / 512) hj k' (p.pc (a / 8) (a % 8 * 4 + b / 512))
  have HSET := hyd HSet
  clear HSet
  clear h hL hidx
  have hpl : b / 8 % 64 < 64 := by omega
  have hbt : b % 8 < 8 := by omega
  have hx := hK.nowB.getD (b / 8 % 64)
  have cx := hN.cell (b / 8 % 64) (by rw [hK.now]; exact hpl)
  have fx := Row.frozen hN (b / 8 % 64)
  have HB := hyd (turnB_ok hK (b / 8 % 64) (b % 8) hbt)
  have HK : Hid (turnK (s.ch (32 * (a / 8) + (a % 8 * 4 + b / 512))) (b / 8 % 64) (b % 8) = { turnB (s.ch (32 * (a / 8) + (a % 8 * 4 + b / 512))) (b / 8 % 64) (b % 8) with worst := max (s.ch (32 * (a / 8) + (a % 8 * 4 + b / 512))).worst (dmg (turnB (s.ch (32 * (a / 8) + (a % 8 * 4 + b / 512))) (b / 8 % 64) (b % 8))) }) := rfl
  have HX : Hid (bits .xor .u8 ((s.ch (32 * (a / 8) + (a % 8 * 4 + b / 512))).now.getD (b / 8 % 64) 0 : Nat) ((2 : Int) ^ (b % 8) % 256) = (((s.ch (32 * (a / 8) + (a % 8 * 4 + b / 512))).now.getD (b / 8 % 64) 0 ^^^ 2 ^ (b % 8) : Nat) : Int)) := by rw [pow_u8 _ hbt]; exact u8_xor_nat _ _ hx (pow_lt _ hbt)
  have hN1 : By (w.setCell ⟨(p.pc (a / 8) (a % 8 * 4 + b / 512)).n, b / 8 % 64, none⟩ (.int .u8 (bits .xor .u8 ((s.ch (32 * (a / 8) + (a % 8 * 4 + b / 512))).now.getD (b / 8 % 64) 0 : Nat) ((2 : Int) ^ (b % 8) % 256)))) (p.pc (a / 8) (a % 8 * 4 + b / 512)).n (turnB (s.ch (32 * (a / 8) + (a % 8 * 4 + b / 512))) (b / 8 % 64) (b % 8)).now := by
    rw [HX.out]; exact hN.store _ _ (by rw [hK.now]; exact hpl)
  have hT1 : By (w.setCell ⟨(p.pc (a / 8) (a % 8 * 4 + b / 512)).n, b / 8 % 64, none⟩ (.int .u8 (bits .xor .u8 ((s.ch (32 * (a / 8) + (a % 8 * 4 + b / 512))).now.getD (b / 8 % 64) 0 : Nat) ((2 : Int) ^ (b % 8) % 256)))) (p.pc (a / 8) (a % 8 * 4 + b / 512)).t (turnB (s.ch (32 * (a / 8) + (a % 8 * 4 + b / 512))) (b / 8 % 64) (b % 8)).tru := Row.setOther hT hnt _ _
  have hW : (turnB (s.ch (32 * (a / 8) + (a % 8 * 4 + b / 512))) (b / 8 % 64) (b % 8)).is = (s.ch (32 * (a / 8) + (a % 8 * 4 + b / 512))).is := rfl
  have HIS := hyd hW
  clear hW
  have hG1 : Chg (fun k => k = p.gL (a / 8) ∨ k = (p.pc (a / 8) (a % 8 * 4 + b / 512)).n) w (w.setCell ⟨(p.pc (a / 8) (a % 8 * 4 + b / 512)).n, b / 8 % 64, none⟩ (.int .u8 (bits .xor .u8 ((s.ch (32 * (a / 8) + (a % 8 * 4 + b / 512))).now.getD (b / 8 % 64) 0 : Nat) ((2 : Int) ^ (b % 8) % 256)))) := (Chg.refl _ _).setCell (Or.inl (Or.inr rfl)) _ _
  have hrow1 := hrow.setOther (k := (p.pc (a / 8) (a % 8 * 4 + b / 512)).n) hnq (b / 8 % 64) (.int .u8 (bits .xor .u8 ((s.ch (32 * (a / 8) + (a % 8 * 4 + b / 512))).now.getD (b / 8 % 64) 0 : Nat) ((2 : Int) ^ (b % 8) % 256)))
  clear HX hN hT hrow
  generalize turnB (s.ch (32 * (a / 8) + (a % 8 * 4 + b / 512))) (b / 8 % 64) (b % 8) = k1 at *
  generalize hkx : s.ch (32 * (a / 8) + (a % 8 * 4 + b / 512)) = k0 at *
  have HKX := hyd hkx
  clear hkx
  generalize hyy : p.pc (a / 8) (a % 8 * 4 + b / 512) = y at *
  have HYY := hyd hyy
  clear hyy
  generalize hqq : p.gL (a / 8) = q at *
  have HQQ := hyd hqq
  clear hqq
  have q0 : (0 : Int) ≤ (b : Int) / 8 % 64 := by omega
  have q1 : (b : Int) / 8 % 64 < 64 := by omega
  have q2 : (0 : Int) ≤ (b : Int) % 8 := by omega
  have q3 : (b : Int) % 8 < 8 := by omega
  generalize k0.now.getD (b / 8 % 64) 0 = x at *
  go_enter Tryz.func67, Tryz.ntmps67
  go_wp2_with fail
  refine (isPage_yes (a : Int) ha0 ha1 _).mono ?_
  rintro e w' ⟨rfl, rfl⟩
  go_wp2_with fail
  rw [show (b : Int) / 8 / 64 = ((b / 512 : Nat) : Int) from by omega]
  refine HC.out.mono ?_
  rintro e w' ⟨rfl, rfl⟩
  go_wp2_with fail
  go_region
  have hN1' := Row.drew hN1
  have hT1' := Row.drew hT1
  have hrow1' := hrow1.drew
  have hG1' := hG1.drew
  clear hN1 hT1 hrow1 hG1 cx fx HC
  generalize World.drew _ = w1 at *
  have hoo : 4 * (a % 8 * 4 + b / 512) + 3 < 4 * 32 := by omega
  have d0 : w1.cell? ⟨q, 4 * (a % 8 * 4 + b / 512), none⟩ = some (.slice (some ⟨y.n, 0, none⟩) 64 y.nc) := by
    have := hrow1'.cell (4 * (a % 8 * 4 + b / 512) + 0) (by omega)
    rw [fam_at 4 (by omega) _ _ _ (by omega), HYY.out] at this
    exact this
  have d1 : w1.cell? ⟨q, 4 * (a % 8 * 4 + b / 512) + 1, none⟩ = some (.slice (some ⟨y.t, 0, none⟩) 64 y.tc) := by
    have := hrow1'.cell (4 * (a % 8 * 4 + b / 512) + 1) (by omega)
    rw [fam_at 4 (by omega) _ _ _ (by omega), HYY.out] at this
    exact this
  have d3 : w1.cell? ⟨q, 4 * (a % 8 * 4 + b / 512) + 3, none⟩ = some (.int .i64 k0.worst) := by
    have := hrow1'.cell (4 * (a % 8 * 4 + b / 512) + 3) (by omega)
    rw [fam_at 4 (by omega) _ _ _ (by omega), HYY.out, HKX.out] at this
    exact this
  clear c0 c1 c3
  have hkw := hK.worst
  have hdm := dmg_le k1
  go_wp2_with fail
  refine (rdmg_any q _ y.n y.nc y.t y.tc k1.now k1.tru HB.out.now HB.out.tru HB.out.nowB HB.out.truB w1 d0 d1 hN1' hT1').mono ?_
  rintro e w2 ⟨rfl, hG2⟩
  have hN2 := Row.chg hN1' hG2 (fun f => f)
  have hT2 := Row.chg hT1' hG2 (fun f => f)
  have hrow2 := hrow1'.chg hG2 (fun f => f)
  have hG2' : Chg (fun k => k = q ∨ k = y.n) w' w2 := hG1'.trans' hG2 (fun i _ f => f.elim)
  have d4 := (World.cell?_of_block (a := ⟨q, 4 * (a % 8 * 4 + b / 512) + 3, none⟩) (hG2.block q hrow1'.lt (fun f => f))).trans d3
  have f4 := hrow2.frozen (4 * (a % 8 * 4 + b / 512) + 3)
  rw [show dmgTo k1.now k1.tru 64 = dmg k1 from rfl]
  clear hN1' hT1' hrow1' hG1' hG2 d0 d1 d3
  by_cases hcmp : k0.worst < dmg k1
  · have hci : (k0.worst : Int) < (dmg k1 : Int) := by omega
    have hrow3 : Row (w2.setCell ⟨q, 4 * (a % 8 * 4 + b / 512) + 3, none⟩ (.int .i64 (dmg k1 : Nat))) q 159 128 (famF 4 fun i => rch (if i = a % 8 * 4 + b / 512 then y else p.pc (a / 8) i) ((s.setCh (32 * (a / 8) + (a % 8 * 4 + b / 512)) (turnK k0 (b / 8 % 64) (b % 8))).ch (32 * (a / 8) + i))) := by
      refine (hrow2.setCell _ _).ext fun i _ => fam_set 4 (by omega) _ _ _ 3 (by omega) _ (fun c hc => rch_fam c hc) ?_ rfl i
      rw [rch_fam_same, HK.out]
      simp only [rch, HYY.out, HKX.out, List.set_cons_succ, List.set_cons_zero]
      rw [HIS.out, show max k0.worst (dmg k1) = dmg k1 from by omega]
    have hN3 := Row.setOther (k := q) hN2 (fun e => hnq e.symm) (4 * (a % 8 * 4 + b / 512) + 3) (.int .i64 (dmg k1 : Nat))
    have hT3 := Row.setOther (k := q) hT2 (fun e => htq e.symm) (4 * (a % 8 * 4 + b / 512) + 3) (.int .i64 (dmg k1 : Nat))
    have hG3 := hG2'.setCell (g := q) (Or.inl (Or.inl rfl)) (4 * (a % 8 * 4 + b / 512) + 3) (.int .i64 (dmg k1 : Nat))
    have hR := HSET.out _ _ (turnK k0 (b / 8 % 64) (b % 8)) hrow3 (by rw [HK.out]; exact hN3) (by rw [HK.out]; exact hT3) hG3 (fun k hk => hk) (fun k hk => hk) hFn hFt (Or.inl trivial) (Or.inl trivial) hnt
    have hGF : Chg F w' (w2.setCell ⟨q, 4 * (a % 8 * 4 + b / 512) + 3, none⟩ (.int .i64 (dmg k1 : Nat))) := hG3.mono (fun i _ e => by rcases e with e | e <;> rw [e]; exact hFq; exact hFn)
    clear hrow3 hN3 hT3 hG3 hG2' hN2 hT2 hrow2 HSET
    go_wp2
    go_ret
    exact ⟨rfl, ⟨_, hR⟩, hGF⟩
  · have hci : ¬ (k0.worst : Int) < (dmg k1 : Int) := by omega
    have hrow3 : Row w2 q 159 128 (famF 4 fun i => rch (if i = a % 8 * 4 + b / 512 then y else p.pc (a / 8) i) ((s.setCh (32 * (a / 8) + (a % 8 * 4 + b / 512)) (turnK k0 (b / 8 % 64) (b % 8))).ch (32 * (a / 8) + i))) := by
      have eG : (fun i => rch (if i = a % 8 * 4 + b / 512 then y else p.pc (a / 8) i) ((s.setCh (32 * (a / 8) + (a % 8 * 4 + b / 512)) (turnK k0 (b / 8 % 64) (b % 8))).ch (32 * (a / 8) + i))) = fun i => rch (p.pc (a / 8) i) (s.ch (32 * (a / 8) + i)) := by
        funext i
        by_cases e : i = a % 8 * 4 + b / 512
        · rw [e, rch_fam_same, HK.out]
          simp only [rch, HYY.out, HKX.out]
          rw [HIS.out, show max k0.worst (dmg k1) = k0.worst from by omega]
        · exact rch_fam i e
      rw [eG]
      exact hrow2
    have hR := HSET.out _ _ (turnK k0 (b / 8 % 64) (b % 8)) hrow3 (by rw [HK.out]; exact hN2) (by rw [HK.out]; exact hT2) hG2' (fun k hk => hk) (fun k hk => hk) hFn hFt (Or.inl trivial) (Or.inl trivial) hnt
    have hGF : Chg F w' w2 := hG2'.mono (fun i _ e => by rcases e with e | e <;> rw [e]; exact hFq; exact hFn)
    clear hrow3 hG2' hN2 hT2 hrow2 HSET
    go_wp2
    go_ret
    exact ⟨rfl, ⟨_, hR⟩, hGF⟩
theorem rflip_any (r : Nat) (s : Chp) (hs : s.Ok) (F : Nat → Prop) (a b : Int) (w : World) (h : RefAt w r s F) :
    Calls Tryz.prog 67 #[.pointer (some ⟨r, 0, none⟩), .int .i64 a, .int .i64 b] w fun e w' => e = .returned (.int .i64 (flipR s a b).2) ∧ RefAt w' r (flipR s a b).1 F ∧ Chg F w w' := by
  unfold flipR
  by_cases hc : 0 ≤ a ∧ a < 96 ∧ 0 ≤ b ∧ b < 2048
  · rw [if_neg (by simpa using hc)]
    obtain ⟨a, rfl⟩ := Int.eq_ofNat_of_zero_le hc.1
    obtain ⟨b, rfl⟩ := Int.eq_ofNat_of_zero_le hc.2.2.1
    exact rflip_good r s hs F a b (by omega) (by omega) w h
  · rw [if_pos (by simpa using hc)]
    refine (rflip_arg r a b hc w).mono ?_
    rintro e w' ⟨rfl, rfl⟩
    exact ⟨rfl, h, Chg.refl _ _⟩
end Go.Proofs.YtifjmilegogbaaaGreat
