/-
  Slices of ints that a call itself has made; the document's Step; the law's own same. No condition: lemmas.
-/
import Derived.Test.YtnldbeklcpcdcaaPat
namespace Go.Proofs.Ytnldbeklcpcdcaa
set_option maxRecDepth 100000
open Go.RowKit

/-- The slice v is the call's own (its block is base or above), of the ints l. -/
def Ow (w : World) (base : Nat) (v : Value) (l : List Int) : Prop := w.ownsRow base 3 1 v l.length (l.map i6)
theorem i6_one (l : List Int) : ∀ u ∈ l.map i6, u.oneCell' = true := by
  intro u hu
  obtain ⟨n, _, rfl⟩ := List.mem_map.1 hu
  rfl
theorem Ow.nil (w : World) (base : Nat) : Ow w base (.slice none 0 0) [] := ⟨rfl, Or.inl ⟨rfl, rfl⟩⟩
theorem Ow.form {w : World} {base : Nat} {v : Value} {l : List Int} (h : Ow w base v l) : ∃ a cap, v = .slice a l.length cap := by
  rcases h.2 with ⟨h1, h2⟩ | ⟨g, cap, cur, hv, _⟩
  · exact ⟨none, 0, by rw [h1, h2]⟩
  · exact ⟨_, _, hv⟩
/-- Where it lies. -/
theorem Ow.lies {w : World} {base : Nat} {v : Value} {l : List Int} (h : Ow w base v l) (h0 : l.length ≠ 0) :
    ∃ g cap, v = .slice (some ⟨g, 0, none⟩) l.length cap ∧ base ≤ g ∧ g < w.heap.size ∧ (∀ i, i < l.length → w.cell? ⟨g, i, none⟩ = some (.int .i64 (l.getD i 0))) ∧ ∀ i, w.frozen? ⟨g, i, none⟩ = false := by
  rcases h.2 with ⟨_, h1⟩ | ⟨g, cap, cur, hv, hg, hh, hn, hm, hs, ht⟩
  · exact absurd h1 h0
  · refine ⟨g, cap, hv, hg, (Array.getElem?_eq_some_iff.1 hh).1, fun i hi => ?_, fun i => by simp [World.frozen?, hh]⟩
    have e1 : cur[i]? = some (i6 (l.getD i 0)) := by
      have h2 : (cur.toList.take (l.length * 1))[i]? = (l.map i6)[i]? := by rw [ht]
      rw [List.getElem?_take_of_lt (by omega), List.getElem?_map, List.getElem?_eq_getElem hi, Array.getElem?_toList] at h2
      rw [h2, List.getD_eq_getElem?_getD, List.getElem?_eq_getElem hi]; rfl
    simp only [World.cell?, hh]
    simpa [i6] using e1
theorem Ow.block {w : World} {base : Nat} {v : Value} {l : List Int} (h : Ow w base v l) {k : Nat} (hk : v.ownBlock = some k) : base ≤ k ∧ k < w.heap.size := h.lt k hk
theorem Ow.chg {S : Nat → Prop} {w w' : World} {base : Nat} {v : Value} {l : List Int} (h : Ow w base v l) (hc : Chg S w w') (hs : ∀ k, k < w.heap.size → v.ownBlock = some k → ¬ S k) : Ow w' base v l := by
  refine ⟨h.1, ?_⟩
  rcases h.2 with h1 | ⟨g, cap, cur, rfl, hb, hh, r⟩
  · exact Or.inl h1
  · have hg := (Array.getElem?_eq_some_iff.1 hh).1
    exact Or.inr ⟨g, cap, cur, rfl, hb, (hc.block g hg (hs g hg rfl)).trans hh, r⟩
theorem Ow.new {w w' : World} {base : Nat} {v : Value} {l : List Int} (h : Ow w base v l) (hc : Chg (fun _ => False) w w') : Ow w' base v l := h.chg hc (fun _ _ _ f => f)
theorem info3 : ∃ i, Try.prog.info? 3 = some i ∧ i.zero = some (.int .i64 0) ∧ i.size = 1 ∧ i.bytes = 8 := by
  have h : (Try.prog.info? 3).map (fun i => (i.zero, i.size, i.bytes)) = some (some (.int .i64 0), 1, 8) := by kernel_rfl
  cases e : Try.prog.info? 3 with
  | none => rw [e] at h; cases h
  | some i =>
    rw [e] at h
    simp only [Option.map_some, Option.some.injEq, Prod.mk.injEq] at h
    exact ⟨i, rfl, h.1, h.2.1, h.2.2⟩
/-- 'append(v, z)', v the call's own. -/
theorem wpList_append_i (w : World) {ops : Array Oper} {rest : List Oper} {o : Oper} {a : Act} {Q : Exit → Act → World → Prop} (hgd : o.guard = none) (s x : Operand)
    (ho : o.op = .call { callee := .builtin .append, args := #[s, x], argTypes := #[22, 22] })
    (base : Nat) (v : Value) (l : List Int) (hs : a.eval s = v) (g : Nat) (z : Int) (hx : a.eval x = .slice (some ⟨g, 0, none⟩) 1 1) (hown : Ow w base v l) (hA : w.cell? ⟨g, 0, none⟩ = some (.int .i64 z))
    (hl : l.length < 100) (hbase : base ≤ w.heap.size)
    (h : ∀ v' w', Ow w' base v' (l ++ [z]) → Chg (fun k => v.ownBlock = some k) w w' → wpList Try.prog ops Q rest (a.put o.dst v') w') : wpList Try.prog ops Q (o :: rest) a w := by
  obtain ⟨i, hi1, hi2, hi3, hi4⟩ := info3
  refine wpList_append_own_at w hgd s x 22 ho base 3 i (.int .i64 0) 1 8 Try.underlying22 hi1 hi2 hi3 hi4 rfl (by decide) v l.length (l.map i6) hs hown ⟨g, 0, none⟩ 1 1 [i6 z] hx rfl ?_ (fun u hu => by simp at hu; rw [hu]; rfl) (by unfold maxLen; omega) (by omega) hbase ?_
  · intro j u hj
    match j, hj with
    | 0, hj =>
      simp at hj
      subst hj
      rw [Addr.add_mid]
      exact hA
  · intro v' w' h1 h2 _ _
    refine h v' w' ?_ ⟨h2.os, h2.tape, h2.output, h2.size, fun k hk hs => h2.block k hk (fun e => hs e.symm)⟩
    unfold Ow
    rw [List.length_append, List.map_append]
    exact h1
/-- The first n places of a Step. -/
def plcL (c : Nat) (n : Nat) : List Int := (List.range n).map (plc c)
theorem plcL_length (c n : Nat) : (plcL c n).length = n := by simp [plcL]
theorem plcL_succ (c n : Nat) : plcL c (n + 1) = plcL c n ++ [plc c n] := by simp [plcL, List.range_succ]
theorem plcL_at (c n i : Nat) (h : i < n) : (plcL c n).getD i 0 = plc c i := by simp [plcL, List.getD, h]
theorem rstep_v (w : World) (b c k : Nat) (h : PB w b 37 c k) (hc : c < 96) (hk : k < 9223372036854775807) (d : Nat) (hd : d = (c + 8) % 96) : Calls Try.prog 12 #[.pointer (some ⟨b, 0, none⟩)] w fun e w' => (∃ g cap, e = .returned (.slice (some ⟨g, 0, none⟩) 8 cap) ∧ w.heap.size ≤ g ∧ g < w'.heap.size ∧ ∀ i, i < 8 → w'.cell? ⟨g, i, none⟩ = some (.int .i64 (plc c i))) ∧ PB w' b 37 d (k + 1) ∧ Chg (· = b) w w' := by
  have hkz : (k : Int) < 9223372036854775807 := by omega
  have hcz : (c : Int) < 96 := by omega
  have HD : Hid (((c : Int) + 8) % 96 = (d : Int)) := by show _ = _; omega
  have hltw := h.lt
  have HP0 := hyd h
  have HLT := hyd hltw
  clear h hc hd hk hltw
  go_enter Try.func12, Try.ntmps12
  go_wp2_with fail
  go_loopg [3, 4] 8 (fun kx s3 s4 wr => ∃ i : Nat, s4 = .int .i64 i ∧ i ≤ 8 ∧ 8 - i ≤ kx ∧ Hid (Ow wr w.heap.size s3 (plcL c i)) ∧ Hid (Chg (fun _ => False) w wr))
  case atStart => exact ⟨0, rfl, by omega, by omega, Ow.nil _ _, Chg.refl _ _⟩
  case round =>
  obtain ⟨i, rfl, hin, hkx, HO, HG⟩ := hrel
  by_cases hlt : i < 8
  · have hltz : (i : Int) < 8 := by omega
    obtain ⟨c0, -⟩ := (HP0.out.chg HG.out (fun f => f)).c0
    have hv : ((c : Int) + i) % 96 = plc c i := by unfold plc; omega
    have HE := hyd (plcL_succ c i)
    have hlen := plcL_length c i
    generalize plc c i = z at *
    have O1 := HO.out.new ((Chg.refl (fun _ => False) wr).alloc (.cells #[.int .i64 z] 3))
    have HO1 := hyd O1
    have HB1 : Hid (w.heap.size ≤ (wr.alloc (.cells #[.int .i64 z] 3)).heap.size) := by have := HG.out.size; show _ ≤ _; simp; omega
    have HC1 : Hid ((wr.alloc (.cells #[.int .i64 z] 3)).cell? ⟨wr.heap.size, 0, none⟩ = some (.int .i64 z)) := by show _ = _; simp
    have HG1 := hyd (HG.out.alloc (.cells #[.int .i64 z] 3))
    clear O1
    go_wp2_with (first | (refine wpList_append_i _ rfl (.tmp 9) (.tmp 17) rfl w.heap.size _ (plcL c i) rfl wr.heap.size z rfl ?_ ?_ (by omega) ?_ ?_; exact HO1.out; exact HC1.out; exact HB1.out))
    intro v' w2 O2 G2
    have HO2 := hyd O2
    have HG2 : Hid (Chg (fun _ => False) w w2) := HG1.out.trans' G2 fun j hj e => by have := HO.out.block e; omega
    clear O2 G2 HO1 HB1 HC1 HG1
    go_wp2
    go_roundg (8 - (i + 1))
    case measure => omega
    case rel => exact ⟨i + 1, by simp, by omega, Nat.le_refl _, by show Ow _ _ _ _; rw [HE.out]; exact HO2.out, HG2⟩
  · have hltz : ¬ (i : Int) < 8 := by omega
    have h8 : i = 8 := by omega
    subst h8
    obtain ⟨g, cap, hv, hg1, hg2, hcell, -⟩ := HO.out.lies (by rw [plcL_length]; decide)
    rw [plcL_length] at hv hcell
    subst hv
    have P1 := HP0.out.chg HG.out (fun f => f)
    obtain ⟨c0, f0⟩ := P1.c0
    have P2 := P1.set0 d
    obtain ⟨c1, f1⟩ := P2.c1
    have HP3 := hyd (P2.set1 (k + 1))
    have HG3 : Hid (Chg (· = b) w ((wr.setCell ⟨b, 0, none⟩ (.int .i64 d)).setCell ⟨b, 1, none⟩ (.int .i64 ((k + 1 : Nat) : Int)))) := ((HG.out.mono (T := (· = b)) (fun _ _ f => f.elim)).setCell (Or.inl rfl) _ _).setCell (Or.inl rfl) _ _
    have HC3 : Hid (∀ i, i < 8 → ((wr.setCell ⟨b, 0, none⟩ (.int .i64 d)).setCell ⟨b, 1, none⟩ (.int .i64 ((k + 1 : Nat) : Int))).cell? ⟨g, i, none⟩ = some (.int .i64 (plc c i))) := fun i hi => by
      have hG : Chg (· = b) wr ((wr.setCell ⟨b, 0, none⟩ (.int .i64 d)).setCell ⟨b, 1, none⟩ (.int .i64 ((k + 1 : Nat) : Int))) := ((Chg.refl (· = b) wr).setCell (Or.inl rfl) _ _).setCell (Or.inl rfl) _ _
      rw [hG.cell hg2 (by have := HLT.out; omega), hcell i hi, plcL_at _ _ _ hi]
    have hd := HD.out
    have HG1 := hyd hg1
    have HG2 := hyd hg2
    clear P1 P2 HO HG hcell hg1 hg2 HD
    go_wp2
    go_ret
    exact ⟨⟨g, ⟨cap, rfl⟩, HG1.out, by simpa [World.setCell] using HG2.out, HC3.out⟩, HP3.out, HG3.out⟩
theorem same_v (w : World) (g h cap : Nat) (F : Nat → Int) (hI : IB w g 3 8 F) (hc : ∀ i, i < 8 → w.cell? ⟨h, i, none⟩ = some (.int .i64 (F i))) (hne : h ≠ g) (hh : h < w.heap.size) : Calls Try.prog 11 #[.slice (some ⟨g, 0, none⟩) 8 8, .slice (some ⟨h, 0, none⟩) 8 cap] w fun e w' => e = .returned (.bool true) ∧ Chg (· = g) w w' := by
  have HI0 := hyd hI
  have HC0 := hyd hc
  have HN := hyd hne
  have HH := hyd hh
  clear hI hc hne hh
  go_enter Try.func11, Try.ntmps11
  go_wp2_with fail
  go_loopg [5] 8 (fun kx s5 wr => ∃ i : Nat, s5 = .int .i64 i ∧ i ≤ 8 ∧ 8 - i ≤ kx ∧ Hid (IB wr g 3 8 (fun j => if j < i then -9 else F j)) ∧ Hid (Chg (· = g) w wr))
  case atStart => exact ⟨0, rfl, by omega, by omega, HI0.out.congr fun j _ => by rw [if_neg (by omega)], Chg.refl _ _⟩
  case round =>
  obtain ⟨i, rfl, hin, hkx, HI, HG⟩ := hrel
  by_cases hlt : i < 8
  · have hltz : (i : Int) < 8 := by omega
    obtain ⟨c1, f1⟩ := HI.out.cell i hlt
    rw [if_neg (Nat.lt_irrefl i)] at c1
    have c2 := (HG.out.cell HH.out HN.out i).trans (HC0.out i hlt)
    have hb : (F i != F i) = false := by simp
    generalize F i = z at *
    go_wp2_with fail
    go_quiet (fail)
    go_wp2
    go_roundg (8 - (i + 1))
    case measure => omega
    case rel =>
      refine ⟨i + 1, by simp, by omega, Nat.le_refl _, ?_, (HG.out.drewN nq).setCell (Or.inl rfl) _ _⟩
      have K : IB (wr.drewN nq) g 3 8 (fun j => if j < i then -9 else F j) := HI.out
      refine (K.set i (-9)).congr fun j _ => ?_
      unfold upd
      by_cases e : j = i
      · subst e; rw [if_pos rfl, if_pos (by omega)]
      · rw [if_neg e]
        show (if j < i then -9 else F j) = _
        by_cases e2 : j < i
        · rw [if_pos e2, if_pos (by omega)]
        · rw [if_neg e2, if_neg (by omega)]
  · have hltz : ¬ (i : Int) < 8 := by omega
    go_wp2
    go_ret
    exact ⟨rfl, HG.out⟩
end Go.Proofs.Ytnldbeklcpcdcaa
