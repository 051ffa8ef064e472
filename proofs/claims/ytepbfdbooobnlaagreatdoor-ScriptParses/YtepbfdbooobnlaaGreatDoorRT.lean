/-
  The document's reading of a text: what it answers. No condition.
-/
import Derived.Test.YtepbfdbooobnlaaGreatDoorRL
import Derived.Test.YtepbfdbooobnlaaGreatDoorSQ
import Derived.Test.YtepbfdbooobnlaaGreatDoorTZ
namespace Go.Proofs.YtepbfdbooobnlaaGreatDoor
set_option maxRecDepth 100000
open Go.RowKit
theorem rline_bad (X : ByteArray) (hs : X.size ≤ 65536) (w : World) (c p : Nat) (h : lin X.data.toList = .error (c, p)) :
    Calls Tryz.prog 24 #[.string X] w fun e w' => e = .returned (.tuple #[sv 0 0 0, .bool false, .int .i64 c, .int .i64 p]) ∧ Chg (fun _ => False) w w' := by
  refine (rline_any X hs w).mono ?_
  rintro e w' ⟨h1, h2⟩
  rw [h] at h2
  exact ⟨h2, h1⟩
theorem rline_no (X : ByteArray) (hs : X.size ≤ 65536) (w : World) (h : lin X.data.toList = .ok none) :
    Calls Tryz.prog 24 #[.string X] w fun e w' => e = .returned (.tuple #[sv 0 0 0, .bool false, .int .i64 0, .int .i64 0]) ∧ Chg (fun _ => False) w w' := by
  refine (rline_any X hs w).mono ?_
  rintro e w' ⟨h1, h2⟩
  rw [h] at h2
  exact ⟨h2, h1⟩
theorem rline_st (X : ByteArray) (hs : X.size ≤ 65536) (w : World) (k : Nat) (a b : Int) (h : lin X.data.toList = .ok (some ⟨k, a, b⟩)) :
    Calls Tryz.prog 24 #[.string X] w fun e w' => e = .returned (.tuple #[sv k a b, .bool true, .int .i64 0, .int .i64 0]) ∧ Chg (fun _ => False) w w' := by
  refine (rline_any X hs w).mono ?_
  rintro e w' ⟨h1, h2⟩
  rw [h] at h2
  exact ⟨h2, h1⟩
theorem lin_code {l : List UInt8} {c p : Nat} (h : lin l = .error (c, p)) : Cd c ∧ c ≠ 0 := by
  have key : ∀ {l : List UInt8} {p c q : Nat}, due l p = .error (c, q) → c = 18 ∨ c = 17 := by
    intro l p c q h
    unfold due at h
    split at h
    · injection h with h; injection h with h _; exact Or.inl h.symm
    · split at h
      · injection h with h; injection h with h _; exact Or.inr h.symm
      · cases h
  have kf : ∀ {l : List UInt8} {k : Nat} {a b : Int} {p c q : Nat}, fin l k a b p = .error (c, q) → c = 19 := by
    intro l k a b p c q h
    unfold fin at h
    split at h
    · cases h
    · injection h with h; injection h with h _; exact h.symm
  have hc : c = 16 ∨ c = 17 ∨ c = 18 ∨ c = 19 := by
    unfold lin at h
    split at h
    · cases h
    · split at h
      · injection h with h; injection h with h _; exact Or.inl h.symm
      · split at h
        · exact Or.inr (Or.inr (Or.inr (kf h)))
        · split at h
          · rename_i x hd
            obtain ⟨x1, x2⟩ := x
            injection h with h
            injection h with h _
            subst h
            rcases key hd with e | e
            · exact Or.inr (Or.inr (Or.inl e))
            · exact Or.inr (Or.inl e)
          · split at h
            · exact Or.inr (Or.inr (Or.inr (kf h)))
            · split at h
              · rename_i x hd
                obtain ⟨x1, x2⟩ := x
                injection h with h
                injection h with h _
                subst h
                rcases key hd with e | e
                · exact Or.inr (Or.inr (Or.inl e))
                · exact Or.inr (Or.inl e)
              · exact Or.inr (Or.inr (Or.inr (kf h)))
  unfold Cd
  omega
/-- Block g holds what is amiss. -/
def Bdc (w : World) (g : Nat) (a b c : Int) : Prop := w.heap[g]? = some (.cells #[.int .i64 a, .int .i64 b, .int .i64 c] 35)
theorem Bdc.chg {S : Nat → Prop} {w w' : World} {g : Nat} {k a b : Int} (h : Bdc w g k a b) (hc : Chg S w w') (hs : ¬ S g) : Bdc w' g k a b := (hc.block g (Array.getElem?_eq_some_iff.1 h).1 hs).trans h
theorem wpList_store_bd {ops : Array Oper} {rest : List Oper} {o : Oper} {a : Act} {w : World} {Q : Exit → Act → World → Prop} (hgd : o.guard = none) (x y : Operand) (ho : o.op = .store 35 x y)
    (g : Nat) (hx : a.eval x = .pointer (some ⟨g, 0, none⟩)) {k p q : Int} (hy : a.eval y = .agg #[.int .i64 k, .int .i64 p, .int .i64 q]) {k' p' q' : Int} (hg : Bdc w g k' p' q')
    (h : ∀ w', Bdc w' g k p q → Chg (· = g) w w' → wpList Tryz.prog ops Q rest (a.put o.dst undef) w') : wpList Tryz.prog ops Q (o :: rest) a w :=
  wpList_store_row hgd 35 x y ho g _ hx hy 35 _ hg size35 rfl (by simp [Value.oneCell']) (h _ (setRow_heap w g _ _ 35 _ hg) ⟨rfl, rfl, rfl, by simp, fun k _ hk => setRow_other _ _ _ _ hk⟩)
/-- What the document's Parse answers. -/
def RPr (w w' : World) (e : Ending) : Pr → Prop
  | .ok l => ∃ v, e = .returned (.tuple #[v, .agg #[.int .i64 0, .int .i64 0, .int .i64 0]]) ∧ Ow w' w.heap.size v (l.map Stp.s)
  | .error (n, p, c) => e = .returned (.tuple #[.slice none 0 0, .agg #[.int .i64 c, .int .i64 n, .int .i64 p]])
/-- The lines from a byte on. -/
def lnf (T : List UInt8) (f n : Nat) : Pr := if f ≤ T.length then prs n (lns (T.drop f)) else .ok []
theorem lnf_end {T : List UInt8} {f n : Nat} (h : T.length ≤ f) : lnf T f n = .ok [] := by
  unfold lnf
  split
  · rw [List.drop_eq_nil_of_le h]
    rfl
  · rfl
/-- No line ends within. -/
def Nln (T : List UInt8) (f q : Nat) : Prop := (10 : UInt8) ∉ (T.drop f).take (q - f)
theorem Nln.next {T : List UInt8} {f q : Nat} {c : UInt8} (h : Nln T f q) (hf : f ≤ q) (hc : T[q]? = some c) (h10 : c.toNat ≠ 10) : Nln T f (q + 1) := by
  unfold Nln at h ⊢
  have e : (T.drop f)[q - f]? = some c := by rw [List.getElem?_drop, show f + (q - f) = q by omega]; exact hc
  rw [show q + 1 - f = (q - f) + 1 by omega, List.take_add_one, e]
  simp only [Option.toList_some, List.mem_append, List.mem_singleton, not_or]
  exact ⟨h, fun x => h10 (by rw [← x]; rfl)⟩
theorem lnf_line {T : List UInt8} {f q n : Nat} (hf : f < T.length) (hq : q ≤ T.length) (hfq : f ≤ q) (h : Nln T f q) (he : T.length ≤ q ∨ ∃ c : UInt8, T[q]? = some c ∧ c.toNat = 10) :
    lnf T f n = match lin ((T.drop f).take (q - f)) with
      | .error (c, p) => .error (n, p, c)
      | .ok x => match lnf T (q + 1) (n + 1) with
        | .error x => .error x
        | .ok s => .ok (lcons x s) := by
  unfold lnf
  rw [if_pos (by omega)]
  rcases he with he | ⟨c, hc, h10⟩
  · have e : q = T.length := by omega
    have e2 : T.drop f = (T.drop f).take (q - f) := by rw [List.take_of_length_le (by rw [List.length_drop]; omega)]
    rw [if_neg (by omega), e2, lns_one h, List.take_take, Nat.min_self]
    rfl
  · obtain ⟨h1, h2⟩ := List.getElem?_eq_some_iff.1 hc
    have e : T.drop f = (T.drop f).take (q - f) ++ 10 :: T.drop (q + 1) := by
      conv => lhs; rw [← List.take_append_drop (q - f) (T.drop f)]
      rw [List.drop_drop, show f + (q - f) = q by omega, List.drop_eq_getElem_cons h1, h2, byte_ext (b := 10) h10]
    rw [if_pos (by omega)]
    conv => lhs; rw [e]
    rw [lns_app _ h, prs]
    rcases lin ((T.drop f).take (q - f)) with ⟨c, p⟩ | x
    · rfl
    · dsimp only
      cases prs (n + 1) (lns (T.drop (q + 1))) <;> rfl
theorem ext_fq (X : ByteArray) (f q : Nat) : (X.extract f q).data.toList = (X.data.toList.drop f).take (q - f) := by
  simp [ByteArray.data_extract, Array.toList_extract, List.extract_eq_take_drop]
theorem lnf_bad {T : List UInt8} {f q n c p : Nat} {acc : List Stp} (e : lnf T f n = match lin ((T.drop f).take (q - f)) with
      | .error (c, p) => .error (n, p, c)
      | .ok x => match lnf T (q + 1) (n + 1) with
        | .error x => .error x
        | .ok s => .ok (lcons x s)) (h : lin ((T.drop f).take (q - f)) = .error (c, p)) : ppre acc (lnf T f n) = .error (n, p, c) := by
  rw [e, h]; rfl
theorem lnf_no {T : List UInt8} {f q n : Nat} {acc : List Stp} (e : lnf T f n = match lin ((T.drop f).take (q - f)) with
      | .error (c, p) => .error (n, p, c)
      | .ok x => match lnf T (q + 1) (n + 1) with
        | .error x => .error x
        | .ok s => .ok (lcons x s)) (h : lin ((T.drop f).take (q - f)) = .ok none) : ppre acc (lnf T f n) = ppre acc (lnf T (q + 1) (n + 1)) := by
  rw [e, h]
  dsimp only
  cases lnf T (q + 1) (n + 1) <;> rfl
theorem lnf_st {T : List UInt8} {f q n : Nat} {acc : List Stp} {k : Nat} {a b : Int} (e : lnf T f n = match lin ((T.drop f).take (q - f)) with
      | .error (c, p) => .error (n, p, c)
      | .ok x => match lnf T (q + 1) (n + 1) with
        | .error x => .error x
        | .ok s => .ok (lcons x s)) (h : lin ((T.drop f).take (q - f)) = .ok (some ⟨k, a, b⟩)) : ppre acc (lnf T f n) = ppre (acc ++ [⟨k, a, b⟩]) (lnf T (q + 1) (n + 1)) := by
  rw [e, h]
  dsimp only
  cases lnf T (q + 1) (n + 1) with
  | error x => rfl
  | ok s => simp [ppre, lcons]
set_option maxHeartbeats 4000000 in
theorem rparse_long (X : ByteArray) (hs : 65536 < X.size) (w : World) :
    Calls Tryz.prog 14 #[.string X] w fun e w' => e = .returned (.tuple #[.slice none 0 0, .agg #[.int .i64 2, .int .i64 0, .int .i64 0]]) ∧ Chg (fun _ => False) w w' := by
  have hsz : (X.size : Int) > 65536 := by omega
  have HR0 : Hid (Bdc (w.alloc (.cells #[.int .i64 0, .int .i64 0, .int .i64 0] 35)) w.heap.size 0 0 0) := heap_new _ _
  have HC0 : Hid (Chg (fun _ => False) w (w.alloc (.cells #[.int .i64 0, .int .i64 0, .int .i64 0] 35))) := (Chg.refl _ w).alloc _
  go_enter Tryz.func14, Tryz.ntmps14
  go_wp2_with (refine wpList_store_bd rfl (.tmp 3) (.tmp 15) rfl w.heap.size rfl rfl HR0.out ?_)
  intro w2 T2 C2
  have HC2 := hyd (HC0.out.trans' C2 (fun i hi e => by omega))
  have HT2 := hyd T2
  clear T2 C2
  go_wp2
  exact bodyPost_ret (results_bd rfl _ rfl HT2.out) rfl ⟨rfl, HC2.out⟩
set_option maxHeartbeats 8000000 in
theorem rparse_any (X : ByteArray) (hs : X.size ≤ 65536) (w : World) :
    Calls Tryz.prog 14 #[.string X] w fun e w' => Chg (fun _ => False) w w' ∧ RPr w w' e (prt X.data.toList) := by
  have hsz : ¬ (X.size : Int) > 65536 := by omega
  have HXl := hyd (size_len X)
  generalize hD : prt X.data.toList = D
  have HD : Hid (ppre [] (lnf X.data.toList 0 1) = D) := by
    show _ = _
    rw [ppre_nil, ← hD, lnf, if_pos (Nat.zero_le _), List.drop_zero]; rfl
  clear hD
  have HR0 : Hid (Bdc (w.alloc (.cells #[.int .i64 0, .int .i64 0, .int .i64 0] 35)) w.heap.size 0 0 0) := heap_new _ _
  have HC0 : Hid (Chg (fun _ => False) w (w.alloc (.cells #[.int .i64 0, .int .i64 0, .int .i64 0] 35))) := (Chg.refl _ w).alloc _
  go_enter Tryz.func14, Tryz.ntmps14
  go_wp2_with fail
  generalize w.alloc (.cells #[.int .i64 0, .int .i64 0, .int .i64 0] 35) = w0 at *
  go_loopg [4, 5, 6] 65537 (fun kx s4 s5 s6 wr => ∃ (f n : Nat) (acc : List Stp), s5 = .int .i64 f ∧ s6 = .int .i64 n ∧ f ≤ X.size + 1 ∧ n ≤ f + 1 ∧ 65537 - f ≤ kx ∧ Hid (acc.length ≤ f) ∧ Hid (Ow wr w.heap.size s4 (acc.map Stp.s)) ∧ Hid (Bdc wr w.heap.size 0 0 0) ∧ Hid (Chg (fun _ => False) w wr) ∧ Hid (ppre acc (lnf X.data.toList f n) = D))
  case atStart => exact ⟨0, 1, [], rfl, rfl, by omega, by omega, by omega, Nat.le_refl _, Ow.nil _ _, HR0, HC0, HD⟩
  case round =>
  clear HR0 HC0 HD
  obtain ⟨f, n, acc, rfl, rfl, hf, hn, hkx, HA, HO, HR, HC, HQ⟩ := hrel
  by_cases hlt : f < X.size
  · have hltz : (f : Int) < X.size := by omega
    obtain ⟨va, vn, vc, rfl⟩ := HO.out.form
    go_wp2_with fail
    go_loopg [7] 65536 (fun kx s7 wq => ∃ q : Nat, s7 = .int .i64 q ∧ f ≤ q ∧ q ≤ X.size ∧ X.size - q ≤ kx ∧ Hid (Nln X.data.toList f q) ∧ wq = wr)
    case atStart => exact ⟨f, rfl, Nat.le_refl _, by omega, by omega, by show _ ∉ _; simp, rfl⟩
    case round =>
    obtain ⟨q, rfl, hfq, hq, hkq, HN, rfl⟩ := hrel
    have hbyte : (q < X.size ∧ ∃ c : UInt8, X.data.toList[q]? = some c ∧ c.toNat ≠ 10) ∨ (q < X.size ∧ ∃ c : UInt8, X.data.toList[q]? = some c ∧ c.toNat = 10) ∨ X.size ≤ q := by
      by_cases h : q < X.size
      · obtain ⟨c, hc⟩ : ∃ c, X.data.toList[q]? = some c := ⟨_, List.getElem?_eq_getElem (by rw [← HXl.out]; exact h)⟩
        by_cases e : c.toNat = 10
        · exact Or.inr (Or.inl ⟨h, c, hc, e⟩)
        · exact Or.inl ⟨h, c, hc, e⟩
      · exact Or.inr (Or.inr (by omega))
    have hnext : (q < X.size ∧ ∃ c : UInt8, X.data.toList[q]? = some c ∧ c.toNat ≠ 10) ∨ (X.data.toList.length ≤ q ∨ ∃ c : UInt8, X.data.toList[q]? = some c ∧ c.toNat = 10) ∧ ((q < X.size ∧ ∃ x : Int, (∀ w, (Instr.index 9 (.string X) (.int .i64 q)).run Tryz.prog w = .ok (.int .u8 x) w) ∧ (x != 10) = false) ∨ ¬ q < X.size) := by
      rcases hbyte with h | ⟨h, c, hc, e⟩ | h
      · exact Or.inl h
      · exact Or.inr ⟨Or.inr ⟨c, hc, e⟩, Or.inl ⟨h, c.toNat, idx_str hc, by rw [e]; rfl⟩⟩
      · exact Or.inr ⟨Or.inl (by rw [← HXl.out]; exact h), Or.inr (by omega)⟩
    clear hbyte
    rcases hnext with ⟨hlq, c, hc, h10⟩ | ⟨hend, hgd⟩
    · have hlqz : (q : Int) < X.size := by omega
      have hi := idx_str hc
      have HN2 := hyd (HN.out.next hfq hc h10)
      have hb : ((c.toNat : Int) != 10) = true := by simp; omega
      clear hc h10
      go_wp2
      go_roundg (X.size - (q + 1))
      case measure => omega
      case rel => exact ⟨q + 1, by simp, by omega, by omega, Nat.le_refl _, HN2, rfl⟩
    · have HEL := hyd (lnf_line (n := n) (by rw [← HXl.out]; exact hlt) (by rw [← HXl.out]; exact hq) hfq HN.out hend)
      have HZ : Hid ((X.extract f q).data.toList = (X.data.toList.drop f).take (q - f)) := ext_fq X f q
      have HZs : Hid ((X.extract f q).size ≤ 65536) := by
        show _ ≤ _
        rw [size_len, HZ.out, List.length_take, List.length_drop, ← size_len]; omega
      have hfz : (f : Int) ≤ q := by omega
      have hqz : (q : Int) ≤ X.size := by omega
      clear hend HN
      rcases hl : lin ((X.data.toList.drop f).take (q - f)) with ⟨c, p⟩ | _ | ⟨k, a, b⟩
      · have HE : Hid (D = .error (n, p, c)) := HQ.out.symm.trans (lnf_bad HEL.out hl)
        have HL : Hid (lin (X.extract f q).data.toList = .error (c, p)) := by show _ = _; rw [HZ.out, hl]
        have hc0 := (lin_code hl).2
        have hcz : ((c : Int) != 0) = true := by simp; omega
        clear hl hc0 HQ HEL HZ
        rcases hgd with ⟨hlqz, x, hi, hb⟩ | hlqz <;>
        (go_wp2_with (first | (go_at_call 24; refine (rline_bad _ HZs.out _ c p HL.out).mono ?_; rintro e w4 ⟨rfl, hC4⟩; refine Hid.out ?_))
         refine Lib.hid ?_
         have HS : Hid (Stc (w4.alloc (.cells #[.int .i64 0, .int .i64 0, .int .i64 0] 50)) w4.heap.size 0 0 0) := heap_new _ _
         have HC4 := hyd (HC.out.trans hC4)
         have HR4 := hyd (HR.out.chg hC4 (fun f => f))
         clear hC4 HC HR HO
         go_wp2_with (refine wpList_store_st rfl (.tmp 8) (.tmp 41) rfl w4.heap.size rfl rfl HS.out ?_)
         intro w5 T5 C5
         have hA := ((Chg.refl (fun _ => False) w4).alloc (.cells #[.int .i64 0, .int .i64 0, .int .i64 0] 50)).trans' C5 (fun k hk e => by omega)
         have HC5 := hyd (HC4.out.trans hA)
         have HR5 := hyd (HR4.out.chg hA (fun f => f))
         clear T5 C5 hA
         go_wp2_with (refine wpList_store_bd rfl (.tmp 3) (.tmp 50) rfl w.heap.size rfl rfl HR5.out ?_)
         intro w6 T6 C6
         have HC6 := hyd (HC5.out.trans' C6 (fun i hi e => by omega))
         have HT6 := hyd T6
         clear T6 C6
         go_wp2
         refine bodyPost_ret (results_bd rfl _ rfl HT6.out) rfl ⟨HC6.out, ?_⟩
         rw [HE.out]
         rfl)
      · have HE := hyd ((lnf_no (acc := acc) HEL.out hl).symm.trans HQ.out)
        have HL : Hid (lin (X.extract f q).data.toList = .ok none) := by show _ = _; rw [HZ.out, hl]
        clear hl HQ HEL HZ
        rcases hgd with ⟨hlqz, x, hi, hb⟩ | hlqz <;>
        (go_wp2_with (first | (go_at_call 24; refine (rline_no _ HZs.out _ HL.out).mono ?_; rintro e w4 ⟨rfl, hC4⟩; refine Hid.out ?_))
         refine Lib.hid ?_
         have HS : Hid (Stc (w4.alloc (.cells #[.int .i64 0, .int .i64 0, .int .i64 0] 50)) w4.heap.size 0 0 0) := heap_new _ _
         have HC4 := hyd (HC.out.trans hC4)
         have HR4 := hyd (HR.out.chg hC4 (fun f => f))
         have HO4 := hyd (HO.out.new hC4)
         clear hC4 HC HR HO
         go_wp2_with (refine wpList_store_st rfl (.tmp 8) (.tmp 41) rfl w4.heap.size rfl rfl HS.out ?_)
         intro w5 T5 C5
         have hA := ((Chg.refl (fun _ => False) w4).alloc (.cells #[.int .i64 0, .int .i64 0, .int .i64 0] 50)).trans' C5 (fun k hk e => by omega)
         have HC5 := hyd (HC4.out.trans hA)
         have HR5 := hyd (HR4.out.chg hA (fun f => f))
         have HO5 := hyd (HO4.out.new hA)
         clear T5 C5 hA
         go_wp2
         go_roundg (65537 - (q + 1))
         case measure => omega
         case rel => exact ⟨q + 1, n + 1, acc, by simp, by simp, by omega, by omega, Nat.le_refl _, Nat.le_trans HA.out (by omega), HO5.out, HR5.out, HC5.out, HE.out⟩)
      · have HE := hyd ((lnf_st (acc := acc) HEL.out hl).symm.trans HQ.out)
        have HL : Hid (lin (X.extract f q).data.toList = .ok (some ⟨k, a, b⟩)) := by show _ = _; rw [HZ.out, hl]
        clear hl HQ HEL HZ
        rcases hgd with ⟨hlqz, x, hi, hb⟩ | hlqz <;>
        (go_wp2_with (first | (go_at_call 24; refine (rline_st _ HZs.out _ k a b HL.out).mono ?_; rintro e w4 ⟨rfl, hC4⟩; refine Hid.out ?_))
         refine Lib.hid ?_
         have HS : Hid (Stc (w4.alloc (.cells #[.int .i64 0, .int .i64 0, .int .i64 0] 50)) w4.heap.size 0 0 0) := heap_new _ _
         have HC4 := hyd (HC.out.trans hC4)
         have HR4 := hyd (HR.out.chg hC4 (fun f => f))
         have HO4 := hyd (HO.out.new hC4)
         clear hC4 HC HR HO
         go_wp2_with (refine wpList_store_st rfl (.tmp 8) (.tmp 41) rfl w4.heap.size rfl rfl HS.out ?_)
         intro w5 T5 C5
         have hA := ((Chg.refl (fun _ => False) w4).alloc (.cells #[.int .i64 0, .int .i64 0, .int .i64 0] 50)).trans' C5 (fun k hk e => by omega)
         have HC5 := hyd (HC4.out.trans hA)
         have HR5 := hyd (HR4.out.chg hA (fun f => f))
         have HO5 := hyd (HO4.out.new hA)
         have HT5 := hyd T5
         clear T5 C5 hA HS
         have HA6 : Hid (Chg (fun _ => False) w5 (w5.alloc (.cells #[.int .i64 k, .int .i64 a, .int .i64 b] 50))) := (Chg.refl _ _).alloc _
         have HO6 := hyd (HO5.out.new HA6.out)
         have HR6 := hyd (HR5.out.chg HA6.out (fun f => f))
         have HC6 := hyd (HC5.out.trans HA6.out)
         have HF6 : Hid (At6 (w5.alloc (.cells #[.int .i64 k, .int .i64 a, .int .i64 b] 50)) w5.heap.size 0 [⟨k, a, b⟩]) := At6.one (heap_new _ _)
         have HB6 : Hid (w.heap.size ≤ (w5.alloc (.cells #[.int .i64 k, .int .i64 a, .int .i64 b] 50)).heap.size) := HC6.out.size
         go_wp2_with (first | (refine wpList_load_row rfl 50 (.tmp 8) rfl _ rfl 50 _ _ _ HT5.out Tryz.underlying50 rfl size50 ?_) | (refine wpList_append_fo _ rfl (.tmp 52) (.tmp 54) rfl w.heap.size _ (acc.map Stp.s) rfl HO6.out w5.heap.size 0 1 1 [⟨k, a, b⟩] rfl rfl HF6.out (by rw [List.length_map]; have := HA.out; omega) HB6.out ?_))
         intro v' w8 O8 C8
         have hR8 : Bdc w8 w.heap.size 0 0 0 := HR6.out.chg C8 (ow_ne HO6.out HR6.out (by decide))
         have hC8 : Chg (fun _ => False) w w8 := HC6.out.trans' C8 (fun j hj e => by have := (HO6.out.block e).1; omega)
         have HR8 := hyd hR8
         have HC8 := hyd hC8
         have HO8 : Hid (Ow w8 w.heap.size v' ((acc ++ [(⟨k, a, b⟩ : Stp)]).map Stp.s)) := by show Ow _ _ _ _; rw [List.map_append]; exact O8
         obtain ⟨va8, vn8, vc8, rfl⟩ := O8.form
         clear O8 C8 hR8 hC8
         go_wp2
         go_roundg (65537 - (q + 1))
         case measure => omega
         case rel => exact ⟨q + 1, n + 1, acc ++ [(⟨k, a, b⟩ : Stp)], by simp, by simp, by omega, by omega, Nat.le_refl _, by show _ ≤ _; rw [List.length_append]; have := HA.out; simp; omega, HO8.out, HR8.out, HC8.out, HE.out⟩)
  · have hltz : ¬ (f : Int) < X.size := by omega
    have HE : Hid (D = .ok acc) := by
      show _ = _
      rw [← HQ.out, lnf_end (by rw [← HXl.out]; omega)]
      simp [ppre]
    clear HQ
    obtain ⟨va, vn, vc, rfl⟩ := HO.out.form
    go_wp2_with (refine wpList_store_bd rfl (.tmp 3) (.tmp 59) rfl w.heap.size rfl rfl HR.out ?_)
    intro w2 T2 C2
    have HC2 := hyd (HC.out.trans' C2 (fun i hi e => by omega))
    have HT2 := hyd T2
    have HO2 := hyd (HO.out.chg C2 (fun k hk e h => ow_ne HO.out HR.out (by decide) (by rw [e, h])))
    clear T2 C2
    go_wp2
    refine bodyPost_ret (results_bd rfl _ rfl HT2.out) rfl ⟨HC2.out, ?_⟩
    rw [HE.out]
    exact ⟨_, rfl, HO2.out⟩
end Go.Proofs.YtepbfdbooobnlaaGreatDoor
