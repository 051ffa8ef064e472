/-
  Parse (script): what it answers, of any text. Condition: the variables hold what they were given.
-/
import Derived.Test.YtepbfdbooobnlaaGreatDoorSC
namespace Go.Proofs.YtepbfdbooobnlaaGreatDoor
set_option maxRecDepth 100000
open Go.RowKit
theorem lns_small : ∀ {l : List UInt8}, ∀ x ∈ lns l, x.length ≤ l.length
  | [], x, h => by simp [lns] at h; subst h; simp
  | c :: r, x, h => by
    have ih := @lns_small r
    rw [lns] at h
    split at h
    · rcases List.mem_cons.1 h with rfl | h
      · simp
      · have := ih x h; rw [List.length_cons]; omega
    · cases e : lns r with
      | nil => exact absurd e (lns_ne r)
      | cons y q =>
        rw [e] at h
        rcases List.mem_cons.1 h with rfl | h
        · have := ih y (by rw [e]; simp)
          simp only [List.headD_cons, List.length_cons]; omega
        · have := ih x (by rw [e]; exact List.mem_cons_of_mem _ h)
          rw [List.length_cons]; omega
theorem lns_many : ∀ l : List UInt8, (lns l).length ≤ l.length + 1
  | [] => by simp [lns]
  | c :: r => by
    have ih := lns_many r
    rw [lns]
    split
    · simp; omega
    · rw [List.length_cons, List.length_tail, List.length_cons]
      have : 0 < (lns r).length := List.length_pos_iff.2 (lns_ne r)
      omega
theorem split_v (s : ByteArray) (hs : s.size ≤ 65536) (w : World) (hG : Gl w) :
    Calls Tryz.prog 22 #[.string s, .string ⟨#[10]⟩] w fun e w' => ∃ L : List ByteArray, e = .returned (.slice (some ⟨w.heap.size, 0, none⟩) L.length L.length) ∧ Hid (L.map (·.data.toList) = lns s.data.toList) ∧ w' = w.alloc (.cells (L.map Value.string).toArray 9) := by
  obtain ⟨m, hm⟩ := hG.mx
  refine (Tryz.strings_Split s ⟨#[10]⟩ m w (by omega) hm (by decide)).mono ?_
  rintro e w' ⟨rfl, rfl⟩
  refine ⟨Lib.splitB ⟨#[10]⟩ 0 (Lib.countB s ⟨#[10]⟩) s, ?_, ?_, rfl⟩
  · rw [Lib.splitB_all ⟨#[10]⟩ (by decide) 0 _ s rfl]
  · show _ = _
    rw [Lib.splitB_data]
    exact split_lns s.data.toList
/-- What was read ahead. -/
def ppre (acc : List Stp) : Pr → Pr
  | .error x => .error x
  | .ok r => .ok (acc ++ r)
theorem ppre_nil (p : Pr) : ppre [] p = p := by cases p <;> rfl
theorem pre_bad {n : Nat} {x : List UInt8} {r : List (List UInt8)} {acc : List Stp} {c p : Nat} (h : lin x = .error (c, p)) : ppre acc (prs n (x :: r)) = .error (n, p, c) := by
  rw [prs, h]; rfl
theorem pre_no {n : Nat} {x : List UInt8} {r : List (List UInt8)} {acc : List Stp} (h : lin x = .ok none) : ppre acc (prs n (x :: r)) = ppre acc (prs (n + 1) r) := by
  rw [prs, h]
  cases prs (n + 1) r <;> rfl
theorem pre_st {n : Nat} {x : List UInt8} {r : List (List UInt8)} {acc : List Stp} {k : Nat} {a b : Int} (h : lin x = .ok (some ⟨k, a, b⟩)) : ppre acc (prs n (x :: r)) = ppre (acc ++ [⟨k, a, b⟩]) (prs (n + 1) r) := by
  rw [prs, h]
  cases prs (n + 1) r with
  | error x => rfl
  | ok s => simp [ppre, lcons]
/-- What Parse answers. -/
def PrR (w w' : World) (e : Ending) : Pr → Prop
  | .ok l => ∃ v, e = .returned (.tuple #[v, .nilIface]) ∧ Ow w' w.heap.size v (l.map Stp.s)
  | .error (n, p, c) => ∃ h, e = .returned (.tuple #[.slice none 0 0, .iface 68 (.pointer (some ⟨h, 0, none⟩))]) ∧ w.heap.size ≤ h ∧ w'.heap[h]? = some (.cells (fcell n p c) 70)
theorem parse_long (s : ByteArray) (hs : ¬ s.size ≤ 65536) (w : World) :
    Calls Tryz.prog 13 #[.string s] w fun e w' => e = .returned (.tuple #[.slice none 0 0, .iface 52 (.int .i64 2)]) ∧ Chg (fun _ => False) w w' := by
  have h1 : (s.size : Int) > 65536 := by omega
  have h2 : 65536 < s.size := by omega
  go_enter_defers Tryz.func13, Tryz.ntmps13
  go_wp2
  simp [bodyPostD, Leaves, results, Tryz.results13, go_sem]
  exact ((Chg.refl _ w).alloc _).alloc _
theorem step_bad (g : Nat) (n : Int) (s : ByteArray) (w : World) (hg : 10 ≤ g) (hs : s.size ≤ 65536) (hl : Li w g n s 0) (hG : Gl w) (c p : Nat) (hd : lin s.data.toList = .error (c, p)) :
    Calls Tryz.prog 23 #[.pointer (some ⟨g, 0, none⟩)] w fun e w' => ∃ h, e = .panicked [{ v := .iface 68 (.pointer (some ⟨h, 0, none⟩)), recovered := false }] ∧ (w.heap.size ≤ h ∧ w'.heap[h]? = some (.cells (fcell n p c) 70)) ∧ Chg (· = g) w w' := by
  refine (step_any g n s w hg hs hl hG).mono ?_
  rintro e w' ⟨h1, h2⟩
  rw [hd] at h2
  obtain ⟨h, h3, h4, h5⟩ := h2
  exact ⟨h, h3, ⟨h4, h5⟩, h1⟩
theorem step_no (g : Nat) (n : Int) (s : ByteArray) (w : World) (hg : 10 ≤ g) (hs : s.size ≤ 65536) (hl : Li w g n s 0) (hG : Gl w) (hd : lin s.data.toList = .ok none) :
    Calls Tryz.prog 23 #[.pointer (some ⟨g, 0, none⟩)] w fun e w' => e = .returned (.tuple #[.agg #[.int .i64 0, .int .i64 0, .int .i64 0], .bool false]) ∧ Chg (· = g) w w' := by
  refine (step_any g n s w hg hs hl hG).mono ?_
  rintro e w' ⟨h1, h2⟩
  rw [hd] at h2
  exact ⟨h2, h1⟩
theorem step_st (g : Nat) (n : Int) (s : ByteArray) (w : World) (hg : 10 ≤ g) (hs : s.size ≤ 65536) (hl : Li w g n s 0) (hG : Gl w) (k : Nat) (a b : Int) (hd : lin s.data.toList = .ok (some ⟨k, a, b⟩)) :
    Calls Tryz.prog 23 #[.pointer (some ⟨g, 0, none⟩)] w fun e w' => e = .returned (.tuple #[.agg #[.int .i64 k, .int .i64 a, .int .i64 b], .bool true]) ∧ Chg (· = g) w w' := by
  refine (step_any g n s w hg hs hl hG).mono ?_
  rintro e w' ⟨h1, h2⟩
  rw [hd] at h2
  exact ⟨h2, h1⟩
/-- How Parse stands behind some lines. -/
structure Ps (w wr : World) (L : List ByteArray) (acc : List Stp) (v : Value) : Prop where
  r1 : wr.heap[w.heap.size]? = some (.cells #[v] 29)
  ow : Ow wr w.heap.size v (acc.map Stp.s)
  r2 : wr.heap[w.heap.size + 1]? = some (.cells #[.nilIface] 31)
  bl : wr.heap[w.heap.size + 1 + 1]? = some (.cells (L.map Value.string).toArray 9)
  chg : Chg (fun _ => False) w wr
  gl : Gl wr
theorem ow_ne {w : World} {base g : Nat} {v : Value} {l : List S3} {cs : Array Value} {t : TypeId} (h : Ow w base v l) (hg : w.heap[g]? = some (.cells cs t)) (ht : t ≠ 50) : v.ownBlock ≠ some g := by
  intro e
  rcases h.2 with ⟨rfl, _⟩ | ⟨k, cap, cur, rfl, hb, hh, r⟩
  · cases e
  · have : k = g := Option.some.inj e
    subst this
    rw [hg] at hh
    injection hh with hh
    injection hh with _ h2 _
    exact ht h2
theorem Ps.keep {w wr w' : World} {L : List ByteArray} {acc : List Stp} {v : Value} (h : Ps w wr L acc v) {S : Nat → Prop} (hc : Chg S wr w') (hs : ∀ k, k < wr.heap.size → ¬ S k) : Ps w w' L acc v := by
  have hc' : Chg (fun _ => False) wr w' := hc.mono (fun i hi h => hs i hi h)
  have hb : ∀ k, k < wr.heap.size → w'.heap[k]? = wr.heap[k]? := fun k hk => hc'.block k hk (fun f => f)
  have lt : ∀ {k o}, wr.heap[k]? = some o → k < wr.heap.size := fun h => (Array.getElem?_eq_some_iff.1 h).1
  exact ⟨(hb _ (lt h.r1)).trans h.r1, h.ow.new hc', (hb _ (lt h.r2)).trans h.r2, (hb _ (lt h.bl)).trans h.bl, h.chg.trans hc', h.gl.new hc'⟩
theorem Ow.form {w : World} {base : Nat} {v : Value} {l : List S3} (h : Ow w base v l) : ∃ a n cap, v = .slice a n cap := by
  rcases h.2 with ⟨h1, h2⟩ | ⟨g, cap, cur, hv, _⟩
  · exact ⟨none, 0, 0, by rw [h1]⟩
  · exact ⟨_, _, _, hv⟩
set_option maxHeartbeats 4000000 in
theorem parse_any (s : ByteArray) (hs : s.size ≤ 65536) (w : World) (hG : Gl w) :
    Calls Tryz.prog 13 #[.string s] w fun e w' => Chg (fun _ => False) w w' ∧ PrR w w' e (prt s.data.toList) := by
  have h1 : ¬ 65536 < s.size := by omega
  have HG := hyd hG
  have HSz := hyd hs
  clear hG
  generalize hD : prt s.data.toList = D
  have HD := hyd hD
  clear hD
  have hmf : ∀ (fn : Fn) (first cap : Array Value) (w : World), (Instr.makeFunc fn first cap).run Tryz.prog w = .ok (.func fn first cap) w := fun _ _ _ _ => rfl
  go_enter_defers Tryz.func13, Tryz.ntmps13
  go_wp2_with (first | (go_at_call 22; refine (split_v s HSz.out _ ((HG.out.alloc _).alloc _)).mono ?_; rintro e w0 ⟨L, rfl, HLn, rfl⟩; refine Hid.out ?_))
  refine Lib.hid ?_
  have HP0 : Hid (Ps w (((w.alloc (.cells #[.slice none 0 0] 29)).alloc (.cells #[.nilIface] 31)).alloc (.cells (L.map Value.string).toArray 9)) L [] (.slice none 0 0)) := by
    refine ⟨?_, Ow.nil _ _, ?_, ?_, (((Chg.refl _ w).alloc _).alloc _).alloc _, ((HG.out.alloc _).alloc _).alloc _⟩
    · exact (Below.heap_alloc _ _ _ (by simp; omega)).trans ((Below.heap_alloc _ _ _ (by simp)).trans (heap_new w _))
    · refine (Below.heap_alloc _ _ _ (by simp)).trans ?_
      have := heap_new (w.alloc (.cells #[.slice none 0 0] 29)) (.cells #[.nilIface] 31)
      rwa [show (w.alloc (.cells #[.slice none 0 0] 29)).heap.size = w.heap.size + 1 by simp] at this
    · have := heap_new ((w.alloc (.cells #[.slice none 0 0] 29)).alloc (.cells #[.nilIface] 31)) (.cells (L.map Value.string).toArray 9)
      rwa [show ((w.alloc (.cells #[.slice none 0 0] 29)).alloc (.cells #[.nilIface] 31)).heap.size = w.heap.size + 1 + 1 by simp] at this
  generalize ((w.alloc (.cells #[.slice none 0 0] 29)).alloc (.cells #[.nilIface] 31)).alloc (.cells (L.map Value.string).toArray 9) = w0 at *
  have HD0 : Hid (ppre [] (prs 1 ((lns s.data.toList).drop 0)) = D) := by show _ = _; rw [List.drop_zero, ppre_nil]; exact HD.out
  have HLl : Hid (L.length ≤ 65537) := by
    show _ ≤ _
    have h2 := congrArg List.length HLn.out
    rw [List.length_map] at h2
    have h3 := lns_many s.data.toList
    rw [← size_len] at h3
    omega
  have HLs : Hid (∀ (i : Nat) (x : ByteArray), L[i]? = some x → x.size ≤ 65536 ∧ (lns s.data.toList)[i]? = some x.data.toList) := by
    intro i x hx
    have h2 : (lns s.data.toList)[i]? = some x.data.toList := by rw [← HLn.out, List.getElem?_map, hx]; rfl
    refine ⟨?_, h2⟩
    have h3 := lns_small x.data.toList (List.mem_of_getElem? h2)
    rw [← size_len, ← size_len] at h3
    omega
  have HLc : Hid ((lns s.data.toList).length = L.length) := by show _ = _; rw [← HLn.out, List.length_map]
  clear HD HLn
  generalize lns s.data.toList = Q at *
  go_wp2_with fail
  go_loopg [16] 65537 (fun kx s16 wr => ∃ (i : Nat) (acc : List Stp) (v : Value), s16 = .int .i64 i ∧ i ≤ L.length ∧ 65537 - i ≤ kx ∧ Hid (acc.length ≤ i) ∧ Hid (Ps w wr L acc v) ∧ Hid (ppre acc (prs (i + 1) (Q.drop i)) = D))
  case atStart => exact ⟨0, [], _, rfl, by omega, by omega, Nat.le_refl _, HP0, HD0⟩
  case round =>
  obtain ⟨i, acc, v, rfl, hi, hkx, HA, HP, HQ⟩ := hrel
  have hL7 := HLl.out
  by_cases hlt : i < L.length
  · have hltz : (i : Int) < L.length := by omega
    obtain ⟨x, hx⟩ : ∃ x, L[i]? = some x := ⟨_, List.getElem?_eq_getElem hlt⟩
    have hcx : wr.cell? ⟨w.heap.size + 1 + 1, i, none⟩ = some (.string x) := by
      have := HP.out.bl
      simp only [World.cell?, this]
      simp [hx]
    obtain ⟨hxs, hxq⟩ := HLs.out i x hx
    have HXs := hyd hxs
    have HXq := hyd hxq
    have HQd : Hid (Q.drop i = x.data.toList :: Q.drop (i + 1)) := by
      obtain ⟨h2, h3⟩ := List.getElem?_eq_some_iff.1 hxq
      show _ = _
      rw [List.drop_eq_getElem_cons h2, h3]
    clear hx hxs hxq
    have HLi : Hid (Li (wr.alloc (.cells #[.int .i64 (i + 1), .string x, .int .i64 0] 59)) wr.heap.size (i + 1) x 0) := heap_new _ _
    have HG1 := hyd (HP.out.gl.alloc (.cells #[.int .i64 (i + 1), .string x, .int .i64 0] 59))
    have HP1 := hyd (HP.out.keep ((Chg.refl (fun _ => False) wr).alloc (.cells #[.int .i64 (i + 1), .string x, .int .i64 0] 59)) (fun _ _ f => f))
    have HNb : Hid (10 ≤ wr.heap.size) := HP.out.gl.nb
    rcases hd : lin x.data.toList with ⟨c, p⟩ | _ | ⟨k, a, b⟩
    · have HDu := hyd hd
      clear hd
      go_wp2_with (first | (go_at_call 23; refine (step_bad _ _ x _ HNb.out HXs.out HLi.out HG1.out c p HDu.out).mono ?_; rintro e w4 ⟨h, rfl, HTh, hC4⟩; refine Hid.out ?_))
      refine Lib.hid ?_
      have HP4 := HP.out.keep (((Chg.refl (fun _ => False) wr).alloc (.cells #[.int .i64 (i + 1), .string x, .int .i64 0] 59)).trans' (hC4.mono (T := fun k => wr.heap.size ≤ k) (fun k hk e => by omega)) (fun k hk e => by omega)) (fun _ _ f => f)
      have c1 : w4.cell? ⟨w.heap.size, 0, none⟩ = some v := by have := HP4.r1; simp [World.cell?, this]
      have c2 : w4.cell? ⟨w.heap.size + 1, 0, none⟩ = some .nilIface := by have := HP4.r2; simp [World.cell?, this]
      have z1 : w4.frozen? ⟨w.heap.size, 0, none⟩ = false := by have := HP4.r1; simp [World.frozen?, this]
      have z2 : w4.frozen? ⟨w.heap.size + 1, 0, none⟩ = false := by have := HP4.r2; simp [World.frozen?, this]
      refine leaves_cons (f := 20) (args := #[.pointer (some ⟨w.heap.size, 0, none⟩), .pointer (some ⟨w.heap.size + 1, 0, none⟩)]) (by simp) (by simp [go_sem]) ?_
      refine (catch_panicking ⟨w.heap.size, 0, none⟩ ⟨w.heap.size + 1, 0, none⟩ ⟨h, 0, none⟩ _ _ [] _ c1 c2 z1 z2 (by simp)).mono ?_
      rintro e u' w'' ⟨rfl, rfl, rfl⟩
      have hh1 : (w4.setCell ⟨w.heap.size, 0, none⟩ (.slice none 0 0)).heap[w.heap.size]? = some (.cells #[.slice none 0 0] 29) := by
        have := HP4.r1
        simp [World.setCell, Array.getElem?_modify, this]
      have hh2 : ((w4.setCell ⟨w.heap.size, 0, none⟩ (.slice none 0 0)).setCell ⟨w.heap.size + 1, 0, none⟩ (.iface 68 (.pointer (some ⟨h, 0, none⟩)))).heap[w.heap.size]? = some (.cells #[.slice none 0 0] 29) := (Below.heap_setCell _ _ _ _ (by simp)).trans hh1
      have hh3 : ((w4.setCell ⟨w.heap.size, 0, none⟩ (.slice none 0 0)).setCell ⟨w.heap.size + 1, 0, none⟩ (.iface 68 (.pointer (some ⟨h, 0, none⟩)))).heap[w.heap.size + 1]? = some (.cells #[.iface 68 (.pointer (some ⟨h, 0, none⟩))] 31) := by
        have h2 : (w4.setCell ⟨w.heap.size, 0, none⟩ (.slice none 0 0)).heap[w.heap.size + 1]? = _ := (Below.heap_setCell _ _ _ _ (by simp)).trans HP4.r2
        simp only [World.setCell] at h2 ⊢
        rw [Array.getElem?_modify, if_pos rfl, h2]; rfl
      have hsz : w.heap.size + 1 + 1 < wr.heap.size := (Array.getElem?_eq_some_iff.1 HP.out.bl).1
      have hhh : wr.heap.size ≤ h := by have := HTh.1; simp at this; omega
      have hh4 : ((w4.setCell ⟨w.heap.size, 0, none⟩ (.slice none 0 0)).setCell ⟨w.heap.size + 1, 0, none⟩ (.iface 68 (.pointer (some ⟨h, 0, none⟩)))).heap[h]? = some (.cells (fcell (i + 1) p c) 70) :=
        (Below.heap_setCell _ _ _ _ (by simp; omega)).trans ((Below.heap_setCell _ _ _ _ (by simp; omega)).trans HTh.2)
      have hh5 := (HP4.chg.setCell (g := w.heap.size) (Or.inr (Nat.le_refl _)) 0 (.slice none 0 0)).setCell (g := w.heap.size + 1) (Or.inr (by omega)) 0 (.iface 68 (.pointer (some ⟨h, 0, none⟩)))
      generalize (w4.setCell ⟨w.heap.size, 0, none⟩ (.slice none 0 0)).setCell ⟨w.heap.size + 1, 0, none⟩ (.iface 68 (.pointer (some ⟨h, 0, none⟩))) = w5 at *
      have d1 : w5.cell? ⟨w.heap.size, 0, none⟩ = some (.slice none 0 0) := by simp [World.cell?, hh2]
      have d2 : w5.cell? ⟨w.heap.size + 1, 0, none⟩ = some (.iface 68 (.pointer (some ⟨h, 0, none⟩))) := by simp [World.cell?, hh3]
      simp [Leaves, settle, results, Tryz.results13, go_sem, d1, d2]
      refine ⟨hh5, ?_⟩
      rw [← HQ.out, HQd.out, pre_bad HDu.out]
      exact ⟨h, rfl, by omega, hh4⟩
    · have HDu := hyd hd
      clear hd
      go_wp2_with (first | (go_at_call 23; refine (step_no _ _ x _ HNb.out HXs.out HLi.out HG1.out HDu.out).mono ?_; rintro e w4 ⟨rfl, hC4⟩; refine Hid.out ?_))
      refine Lib.hid ?_
      have HP4 := hyd (HP.out.keep (((Chg.refl (fun _ => False) wr).alloc (.cells #[.int .i64 (i + 1), .string x, .int .i64 0] 59)).trans' (hC4.mono (T := fun k => wr.heap.size ≤ k) (fun k hk e => by omega)) (fun k hk e => by omega)) (fun _ _ f => f))
      have HS : Hid (Stc (w4.alloc (.cells #[.int .i64 0, .int .i64 0, .int .i64 0] 50)) w4.heap.size 0 0 0) := heap_new _ _
      clear hC4
      go_wp2_with (refine wpList_store_st rfl (.tmp 6) (.tmp 28) rfl w4.heap.size rfl rfl HS.out ?_)
      intro w6 T6 C6
      have HP6 := hyd (HP4.out.keep (((Chg.refl (fun _ => False) w4).alloc _).trans' C6 (fun k hk e => by omega)) (fun _ _ f => f))
      clear T6 C6
      go_wp2
      go_roundg (65537 - (i + 1))
      case measure => omega
      case rel => exact ⟨i + 1, acc, v, by simp, by omega, Nat.le_refl _, Nat.le_succ_of_le HA.out, HP6, by show _ = _; rw [← HQ.out, HQd.out, pre_no HDu.out]⟩
    · have HDu := hyd hd
      clear hd
      go_wp2_with (first | (go_at_call 23; refine (step_st _ _ x _ HNb.out HXs.out HLi.out HG1.out k a b HDu.out).mono ?_; rintro e w4 ⟨rfl, hC4⟩; refine Hid.out ?_))
      refine Lib.hid ?_
      have HP4 := hyd (HP.out.keep (((Chg.refl (fun _ => False) wr).alloc (.cells #[.int .i64 (i + 1), .string x, .int .i64 0] 59)).trans' (hC4.mono (T := fun k => wr.heap.size ≤ k) (fun k hk e => by omega)) (fun k hk e => by omega)) (fun _ _ f => f))
      have HS : Hid (Stc (w4.alloc (.cells #[.int .i64 0, .int .i64 0, .int .i64 0] 50)) w4.heap.size 0 0 0) := heap_new _ _
      clear hC4
      go_wp2_with (refine wpList_store_st rfl (.tmp 6) (.tmp 28) rfl w4.heap.size rfl rfl HS.out ?_)
      intro w6 T6 C6
      have HP6 := hyd (HP4.out.keep (((Chg.refl (fun _ => False) w4).alloc _).trans' C6 (fun k hk e => by omega)) (fun _ _ f => f))
      have HT6 := hyd T6
      clear T6 C6
      have c1 : w6.cell? ⟨w.heap.size, 0, none⟩ = some v := by have := HP6.out.r1; simp [World.cell?, this]
      have HP7 := hyd (HP6.out.keep ((Chg.refl (fun _ => False) w6).alloc (.cells #[.int .i64 k, .int .i64 a, .int .i64 b] 50)) (fun _ _ f => f))
      have HF7 : Hid (At6 (w6.alloc (.cells #[.int .i64 k, .int .i64 a, .int .i64 b] 50)) w6.heap.size 0 [⟨k, a, b⟩]) := At6.one (heap_new _ _)
      have HB7 : Hid (w.heap.size ≤ (w6.alloc (.cells #[.int .i64 k, .int .i64 a, .int .i64 b] 50)).heap.size) := HP7.out.chg.size
      go_wp2_with (first | (refine wpList_load_row rfl 50 (.tmp 6) rfl _ rfl 50 _ _ _ HT6.out Tryz.underlying50 rfl size50 ?_) | (refine wpList_append_fo _ rfl (.tmp 31) (.tmp 33) rfl w.heap.size _ (acc.map Stp.s) rfl HP7.out.ow w6.heap.size 0 1 1 [⟨k, a, b⟩] rfl rfl HF7.out (by rw [List.length_map]; have := HA.out; omega) HB7.out ?_))
      intro v' w8 O8 C8
      have b8 : ∀ {g : Nat} {cs : Array Value} {ty : TypeId}, (w6.alloc (.cells #[.int .i64 k, .int .i64 a, .int .i64 b] 50)).heap[g]? = some (.cells cs ty) → ty ≠ 50 → w8.heap[g]? = some (.cells cs ty) := fun hg ht =>
        (C8.block _ (Array.getElem?_eq_some_iff.1 hg).1 (ow_ne HP7.out.ow hg ht)).trans hg
      have R1 := b8 HP7.out.r1 (by decide)
      have R2 := b8 HP7.out.r2 (by decide)
      have RB := b8 HP7.out.bl (by decide)
      have C9 := HP7.out.chg.trans' C8 (fun j hj e => by have := (HP7.out.ow.block e).1; omega)
      have HP9 : Hid (Ps w (w8.setCell ⟨w.heap.size, 0, none⟩ v') L (acc ++ [⟨k, a, b⟩]) v') := by
        have hX := (Chg.refl (· = w.heap.size) w8).setCell (Or.inl rfl) 0 v'
        refine ⟨?_, ?_, (Below.heap_setCell _ _ _ _ (by simp)).trans R2, (Below.heap_setCell _ _ _ _ (by simp; omega)).trans RB, C9.setCell (Or.inr (Nat.le_refl _)) 0 v', HG.out.new (C9.setCell (Or.inr (Nat.le_refl _)) 0 v')⟩
        · simp [World.setCell, Array.getElem?_modify, R1]
        · rw [List.map_append]
          exact O8.chg hX (fun k _ e h => ow_ne O8 R1 (by decide) (by rw [e, h]))
      have c8 : w8.cell? ⟨w.heap.size, 0, none⟩ = some v := by simp [World.cell?, R1]
      have z8 : w8.frozen? ⟨w.heap.size, 0, none⟩ = false := by simp [World.frozen?, R1]
      obtain ⟨va, vn, vc, rfl⟩ := O8.form
      clear O8 C8 b8 R1 R2 RB C9 c1
      go_wp2
      go_roundg (65537 - (i + 1))
      case measure => omega
      case rel => exact ⟨i + 1, acc ++ [⟨k, a, b⟩], _, by simp, by omega, Nat.le_refl _, by show _ ≤ _; rw [List.length_append]; have := HA.out; simp; omega, HP9, by show _ = _; rw [← HQ.out, HQd.out, pre_st HDu.out]⟩
  · have hltz : ¬ (i : Int) < L.length := by omega
    have HE : Hid (D = .ok acc) := by
      show _ = _
      rw [← HQ.out, List.drop_eq_nil_of_le (by have := HLc.out; omega)]
      simp [prs, ppre]
    clear HQ
    have c1 : wr.cell? ⟨w.heap.size, 0, none⟩ = some v := by have := HP.out.r1; simp [World.cell?, this]
    have z1 : wr.frozen? ⟨w.heap.size, 0, none⟩ = false := by have := HP.out.r1; simp [World.frozen?, this]
    have c2 : wr.cell? ⟨w.heap.size + 1, 0, none⟩ = some .nilIface := by have := HP.out.r2; simp [World.cell?, this]
    have z2 : wr.frozen? ⟨w.heap.size + 1, 0, none⟩ = false := by have := HP.out.r2; simp [World.frozen?, this]
    have HO := hyd HP.out.ow
    obtain ⟨va, vn, vc, rfl⟩ := HO.out.form
    go_wp2
    have R1 := HP.out.r1
    have R2 := HP.out.r2
    have hh1 : (wr.setCell ⟨w.heap.size, 0, none⟩ (.slice va vn vc)).heap[w.heap.size]? = some (.cells #[.slice va vn vc] 29) := by
      simp [World.setCell, Array.getElem?_modify, R1]
    have hh2 : ((wr.setCell ⟨w.heap.size, 0, none⟩ (.slice va vn vc)).setCell ⟨w.heap.size + 1, 0, none⟩ .nilIface).heap[w.heap.size]? = some (.cells #[.slice va vn vc] 29) := (Below.heap_setCell _ _ _ _ (by simp)).trans hh1
    have hh3 : ((wr.setCell ⟨w.heap.size, 0, none⟩ (.slice va vn vc)).setCell ⟨w.heap.size + 1, 0, none⟩ .nilIface).heap[w.heap.size + 1]? = some (.cells #[.nilIface] 31) := by
      have h2 : (wr.setCell ⟨w.heap.size, 0, none⟩ (.slice va vn vc)).heap[w.heap.size + 1]? = _ := (Below.heap_setCell _ _ _ _ (by simp)).trans R2
      simp only [World.setCell] at h2 ⊢
      rw [Array.getElem?_modify, if_pos rfl, h2]; rfl
    have hh5 := (HP.out.chg.setCell (g := w.heap.size) (Or.inr (Nat.le_refl _)) 0 (.slice va vn vc)).setCell (g := w.heap.size + 1) (Or.inr (by omega)) 0 .nilIface
    have hX := ((Chg.refl (fun k => k = w.heap.size ∨ k = w.heap.size + 1) wr).setCell (g := w.heap.size) (Or.inl (Or.inl rfl)) 0 (.slice va vn vc)).setCell (g := w.heap.size + 1) (Or.inl (Or.inr rfl)) 0 .nilIface
    have hO := HO.out.chg hX (fun k _ e h => by
      rcases h with h | h
      · exact ow_ne HO.out R1 (by decide) (by rw [e, h])
      · exact ow_ne HO.out R2 (by decide) (by rw [e, h]))
    generalize (wr.setCell ⟨w.heap.size, 0, none⟩ (.slice va vn vc)).setCell ⟨w.heap.size + 1, 0, none⟩ .nilIface = w5 at *
    have d1 : w5.cell? ⟨w.heap.size, 0, none⟩ = some (.slice va vn vc) := by simp [World.cell?, hh2]
    have d2 : w5.cell? ⟨w.heap.size + 1, 0, none⟩ = some .nilIface := by simp [World.cell?, hh3]
    refine leaves_cons (f := 20) (args := #[.pointer (some ⟨w.heap.size, 0, none⟩), .pointer (some ⟨w.heap.size + 1, 0, none⟩)]) (by simp) (by simp [go_sem]) ?_
    refine (catch_idle ⟨w.heap.size, 0, none⟩ ⟨w.heap.size + 1, 0, none⟩ _).mono ?_
    rintro e u' w'' ⟨rfl, rfl, rfl⟩
    simp [Leaves, settle, results, Tryz.results13, go_sem, d1, d2]
    refine ⟨hh5, ?_⟩
    rw [HE.out]
    exact ⟨_, rfl, hO⟩
end Go.Proofs.YtepbfdbooobnlaaGreatDoor
