/-
  What a message, moved up, leaves when it is divided by the generator: with it behind the message the word is a codeword. No condition: plain mathematics. (*Codec).remainder and (*Codec).Encode. Condition: the block holds a Codec that New gave; the message's bytes can be read. (*Codec).Encode. Condition: the block holds a Codec that New gave; the message's bytes can be read.
-/
import Derived.Test.YtdofegphipbcdaaCod
import Derived.Test.YtdofegphipbcdaaAsks
namespace Go.Proofs.Ytdofegphipbcdaa

theorem fold_ev (x : Nat) (_hx : x < 256) (b : List Nat) (hb : Bys b) (s : Nat) (hs : s < 256) : b.foldl (fun s c => gm s x ^^^ c) s = gm s (xp x b.length) ^^^ ev x b := by
  induction b generalizing s with
  | nil => show s = gm s 1 ^^^ 0; rw [gm_one s hs, Nat.xor_zero]
  | cons c t ih =>
    have hc : c < 256 := hb c (by simp)
    have ht : Bys t := fun n hn => hb n (by simp [hn])
    show t.foldl _ (gm s x ^^^ c) = gm s (gm (xp x t.length) x) ^^^ t.foldl _ (gm 0 x ^^^ c)
    rw [ih ht _ (xor_lt _ _ (gm_lt _ _) hc), ih ht _ (xor_lt _ _ (gm_lt _ _) hc), gm_zero_left, Nat.zero_xor, xor_gm _ _ _ (xp_lt _ _) (gm_lt _ _) hc, gm_assoc, gm_comm x, Nat.xor_assoc]
theorem ev_append (x : Nat) (hx : x < 256) (a b : List Nat) (ha : Bys a) (hb : Bys b) : ev x (a ++ b) = gm (ev x a) (xp x b.length) ^^^ ev x b := by
  unfold ev
  rw [List.foldl_append]
  exact fold_ev x hx b hb _ (ev_lt x a ha)

/-- The rest behind i symbols. -/
def rem (l : List Nat) : Nat → List Nat
  | 0 => [0, 0, 0, 0, 0, 0]
  | i + 1 => inner (l.getD i 0 ^^^ (rem l i).getD 0 0) gl 0 ((rem l i).drop 1 ++ [0]) 6
theorem rem_length (l : List Nat) (i : Nat) : (rem l i).length = 6 := by
  induction i with
  | zero => rfl
  | succ i ih => show (inner _ _ _ _ _).length = 6; rw [inner_length]; simp [ih]
theorem rem_base_bys {r : List Nat} (h : Bys r) : Bys (r.drop 1 ++ [0]) := by
  intro n hn
  rcases List.mem_append.1 hn with hn | hn
  · exact h n (List.mem_of_mem_drop hn)
  · simp at hn; omega
theorem rem_bys (l : List Nat) (i : Nat) : Bys (rem l i) := by
  induction i with
  | zero => intro n hn; simp [rem] at hn; omega
  | succ i ih => exact inner_bys _ _ _ _ (rem_base_bys ih) _
theorem gl_roots : allB 6 (fun k => ev (ex k) gl == xp (ex k) 6) = true := by decide +kernel
theorem gl_root (k : Nat) (h : k < 6) : ev (ex k) gl = xp (ex k) 6 := by simpa using allB_at gl_roots k h
theorem ev_cons (x : Nat) (hx : x < 256) (c : Nat) (t : List Nat) (hc : c < 256) (ht : Bys t) : ev x (c :: t) = gm c (xp x t.length) ^^^ ev x t := by
  have h := ev_append x hx [c] t (by intro n hn; simp at hn; omega) ht
  rw [show [c] ++ t = c :: t from rfl] at h
  rw [h]
  congr 2
  show gm 0 x ^^^ c = c
  rw [gm_zero_left, Nat.zero_xor]
theorem rem_ev (l : List Nat) (hl : Bys l) (k : Nat) (hk : k < 6) (i : Nat) (hi : i ≤ l.length) : gm (ev (ex k) (l.take i)) (xp (ex k) 6) = ev (ex k) (rem l i) := by
  have hx := ex_lt k
  induction i with
  | zero =>
    show gm 0 _ = ev (ex k) [0, 0, 0, 0, 0, 0]
    rw [gm_zero_left]
    exact (ev_zeros (ex k) 6).symm
  | succ i ih =>
    have ih := ih (by omega)
    have hr := rem_bys l i
    have hrl := rem_length l i
    rw [ev_take _ l i (by omega)]
    show _ = ev (ex k) (inner (l.getD i 0 ^^^ (rem l i).getD 0 0) gl 0 ((rem l i).drop 1 ++ [0]) 6)
    have hin := ev_inner (ex k) hx (l.getD i 0 ^^^ (rem l i).getD 0 0) gl 0 1 ((rem l i).drop 1 ++ [0]) (rem_base_bys hr) (by omega) (by simp [hrl]; rfl) 6 (Nat.le_refl _)
    have hgp : pv (ex k) gl 6 = xp (ex k) 6 := by rw [← gl_root k hk]; exact (ev_pv (ex k) hx gl gl_bys).symm
    rw [hin, hgp]
    obtain ⟨r0, t, hrt⟩ : ∃ r0 t, rem l i = r0 :: t := by
      cases h : rem l i with
      | nil => rw [h] at hrl; cases hrl
      | cons a t => exact ⟨a, t, rfl⟩
    rw [hrt] at ih hr hrl ⊢
    have h0 : r0 < 256 := hr r0 (by simp)
    have ht : Bys t := fun n hn => hr n (by simp [hn])
    have htl : t.length = 5 := by simpa using hrl
    rw [ev_cons _ hx r0 t h0 ht, htl] at ih
    show gm (gm (ev (ex k) (l.take i)) (ex k) ^^^ l.getD i 0) (xp (ex k) 6) = ev (ex k) (t ++ [0]) ^^^ gm (gm (l.getD i 0 ^^^ r0) 1) (xp (ex k) 6)
    have hd := hl.getD i
    rw [gm_one _ (xor_lt _ _ hd h0), ev_snoc, Nat.xor_zero, xor_gm _ _ _ (xp_lt _ _) (gm_lt _ _) hd, xor_gm _ _ _ (xp_lt _ _) hd h0]
    have e1 : gm (gm (ev (ex k) (l.take i)) (ex k)) (xp (ex k) 6) = gm (gm (ev (ex k) (l.take i)) (xp (ex k) 6)) (ex k) := by rw [gm_assoc, gm_comm (ex k), ← gm_assoc]
    rw [e1, ih, xor_gm _ _ _ hx (gm_lt _ _) (ev_lt _ _ ht)]
    have e2 : gm (gm r0 (xp (ex k) 5)) (ex k) = gm r0 (xp (ex k) 6) := by rw [gm_assoc]; rfl
    rw [e2]
    ac_rfl
/-- The codeword of a message. -/
def encL (l : List Nat) : List Nat := l ++ rem l 58
theorem encL_cw {l : List Nat} (hl : l.length = 58) (hb : Bys l) : Cw (encL l) := by
  refine ⟨by simp [encL, hl, rem_length], ?_, ?_⟩
  · intro n hn
    rcases List.mem_append.1 hn with h | h
    · exact hb n h
    · exact rem_bys l 58 n h
  · intro k hk
    unfold encL
    rw [ev_append _ (ex_lt k) l _ hb (rem_bys l 58), rem_length]
    have := rem_ev l hb k hk 58 (by omega)
    rw [List.take_of_length_le (by omega)] at this
    rw [this, Nat.xor_self]
theorem encL_take {l : List Nat} (hl : l.length = 58) : (encL l).take 58 = l := by
  unfold encL
  rw [List.take_append_of_le_length (by omega), List.take_of_length_le (by omega)]
end Go.Proofs.Ytdofegphipbcdaa
namespace Go.Proofs.Ytdofegphipbcdaa
open Go.RowKit
set_option maxRecDepth 100000

theorem step_copy_one {ops : Array Oper} {o : Oper} {a : Act} {w : World} {K : Act → World → Prop} {Q : Exit → Act → World → Prop} {E : Prop} (hgd : o.guard = none) (d s : Operand)
    (ho : o.op = .call { callee := .builtin .copy, args := #[d, s], argTypes := #[22, 22] }) (g off dLen dCap c oo sLen sCap : Nat) (hd : a.eval d = .slice (some ⟨g, off, none⟩) dLen dCap) (hs : a.eval s = .slice (some ⟨c, oo, none⟩) sLen sCap)
    {t : TypeId} {cur : List Nat} (hg : Arr w g t cur) (src : List Nat) (hn : src.length = Nat.min sLen dLen) (hsrc : ∀ j, j < src.length → w.cell? ⟨c, oo + j, none⟩ = some (.int .u8 (src.getD j 0 : Nat))) (hfit : off + src.length ≤ cur.length)
    (h : ∀ w', Arr w' g t (lay cur off src) → One g w w' → K (a.put o.dst (goInt src.length)) w') :
    if Region.wanted o (yielded ops a.tmps) = true then Oper.wp Try.prog o a w K Q else E := by
  have hw : Region.wanted o (yielded ops a.tmps) = true := by simp [Region.wanted, hgd]
  rw [if_pos hw]
  have hrun := run_copy_row (P := Try.prog) w 22 22 o.type 5 g off dLen dCap ⟨c, oo, none⟩ sLen sCap (bcells cur) t (src.map fun (n : Nat) => Value.int .u8 (n : Int)) Try.underlying22 size5 hg (by simpa using hn) (src_cells hsrc) (by simpa [bcells_size] using hfit) (one_cells src)
  rw [List.append_assoc, lay_row, List.length_map] at hrun
  unfold Oper.wp
  simp [execOp, ho, resolve, invoke, builtin, hd, hs, hrun, Result.andThen]
  exact h _ (hg.row _) (One.row w g _)
theorem Cod.gens {w : World} {q b : Nat} (h : Cod w q b) : w.cell? ⟨q, 1, none⟩ = some (.int .u8 63) ∧ w.cell? ⟨q, 2, none⟩ = some (.int .u8 1) ∧ w.cell? ⟨q, 3, none⟩ = some (.int .u8 218) ∧ w.cell? ⟨q, 4, none⟩ = some (.int .u8 32) ∧ w.cell? ⟨q, 5, none⟩ = some (.int .u8 227) ∧ w.cell? ⟨q, 6, none⟩ = some (.int .u8 38) :=
  ⟨h.gen 0 (by omega), h.gen 1 (by omega), h.gen 2 (by omega), h.gen 3 (by omega), h.gen 4 (by omega), h.gen 5 (by omega)⟩
theorem lay_shift {r : List Nat} (h : r.length = 6) : (lay r 0 (r.drop 1)).set 5 0 = r.drop 1 ++ [0] := by
  obtain ⟨a, b, c, d, e, f, rfl⟩ : ∃ a b c d e f, r = [a, b, c, d, e, f] := by
    match r, h with
    | [a, b, c, d, e, f], _ => exact ⟨a, b, c, d, e, f, rfl⟩
  rfl
theorem drop_getD (r : List Nat) (j : Nat) : (r.drop 1).getD j 0 = r.getD (1 + j) 0 := by
  simp [List.getD_eq_getElem?_getD, Nat.add_comm]

theorem index6_0 (w : World) : (Instr.index 72 (.agg #[Value.int .u8 63, .int .u8 1, .int .u8 218, .int .u8 32, .int .u8 227, .int .u8 38]) (.int .i64 0)).run Try.prog w = .ok (.int .u8 63) w := by kernel_rfl
theorem index6_1 (w : World) : (Instr.index 72 (.agg #[Value.int .u8 63, .int .u8 1, .int .u8 218, .int .u8 32, .int .u8 227, .int .u8 38]) (.int .i64 1)).run Try.prog w = .ok (.int .u8 1) w := by kernel_rfl
theorem index6_2 (w : World) : (Instr.index 72 (.agg #[Value.int .u8 63, .int .u8 1, .int .u8 218, .int .u8 32, .int .u8 227, .int .u8 38]) (.int .i64 2)).run Try.prog w = .ok (.int .u8 218) w := by kernel_rfl
theorem index6_3 (w : World) : (Instr.index 72 (.agg #[Value.int .u8 63, .int .u8 1, .int .u8 218, .int .u8 32, .int .u8 227, .int .u8 38]) (.int .i64 3)).run Try.prog w = .ok (.int .u8 32) w := by kernel_rfl
theorem index6_4 (w : World) : (Instr.index 72 (.agg #[Value.int .u8 63, .int .u8 1, .int .u8 218, .int .u8 32, .int .u8 227, .int .u8 38]) (.int .i64 4)).run Try.prog w = .ok (.int .u8 227) w := by kernel_rfl
theorem index6_5 (w : World) : (Instr.index 72 (.agg #[Value.int .u8 63, .int .u8 1, .int .u8 218, .int .u8 32, .int .u8 227, .int .u8 38]) (.int .i64 5)).run Try.prog w = .ok (.int .u8 38) w := by kernel_rfl
theorem index6 (k : Nat) (h : k < 6) (w : World) : (Instr.index 72 (.agg #[Value.int .u8 63, .int .u8 1, .int .u8 218, .int .u8 32, .int .u8 227, .int .u8 38]) (.int .i64 (k : Int))).run Try.prog w = .ok (.int .u8 (gl.getD k 0 : Nat)) w := by
  rcases (by omega : k = 0 ∨ k = 1 ∨ k = 2 ∨ k = 3 ∨ k = 4 ∨ k = 5) with e | e | e | e | e | e <;> subst e
  · exact index6_0 w
  · exact index6_1 w
  · exact index6_2 w
  · exact index6_3 w
  · exact index6_4 w
  · exact index6_5 w

set_option maxHeartbeats 4000000 in
theorem remainder_any (q b : Nat) (w : World) (h : Cod w q b) (c o cap : Nat) (l : List Nat) (hl : l.length = 58) (hb : Bys l) (hcb : c ≠ b) (hcs : c < w.heap.size)
    (hcell : ∀ i, i < l.length → w.cell? ⟨c, o + i, none⟩ = some (.int .u8 (l.getD i 0 : Nat))) :
    Calls Try.prog 44 #[.pointer (some ⟨q, 0, none⟩), .slice (some ⟨c, o, none⟩) 58 cap] w fun e w' => e = .returned (.agg (bcells (rem l 58))) ∧ Cod w' q b ∧ But b w w' := by
  have hz := zero53
  have hne := h.ne
  have hq := h.lt
  have hbb := h.1.lt
  have HC := hyd hcell
  clear hcell
  go_enter Try.func44, Try.ntmps44
  go_wp2_with fail
  go_loopw [13] (fun t wr => ∃ i : Nat, i ≤ 58 ∧ t = .int .i64 i ∧ Arr wr w.heap.size 72 [0, 0, 0, 0, 0, 0] ∧ Arr wr (w.heap.size + 1) 72 (rem l i) ∧ Cod wr q b ∧ But b w wr) (fun t _ => 58 - (intOf t).toNat)
  case atStart =>
    have h1 := Arr.new w 72 [0, 0, 0, 0, 0, 0]
    have h2 := Arr.new (w.alloc (.cells (bcells [0, 0, 0, 0, 0, 0]) 72)) 72 [0, 0, 0, 0, 0, 0]
    refine ⟨0, by omega, rfl, h1.alloc _, ?_, (h.alloc _).alloc _, ((But.refl _ _).alloc _).alloc _⟩
    have h3 : Arr ((w.alloc (.cells (bcells [0, 0, 0, 0, 0, 0]) 72)).alloc (.cells (bcells [0, 0, 0, 0, 0, 0]) 72)) (w.heap.size + 1) 72 [0, 0, 0, 0, 0, 0] := by simpa using h2
    exact h3
  case round =>
    obtain ⟨i, hi, rfl, hR, hO, hC, hB⟩ := hrel
    by_cases hlt : i < 58
    · have c1 : wr.cell? ⟨c, o + i, none⟩ = some (.int .u8 (l.getD i 0 : Nat)) := (hB.cell hcs hcb _).trans (HC.out i (by omega))
      have hrl := rem_length l i
      have hrb := rem_bys l i
      have HR : Hid (rem l (i + 1) = inner (l.getD i 0 ^^^ (rem l i).getD 0 0) gl 0 ((rem l i).drop 1 ++ [0]) 6) := rfl
      have c2 := hO.cell 0 (by omega)
      have d1 := hb.getD i
      have d2 := hrb.getD 0
      have e1 := u8_xor_nat (l.getD i 0) ((rem l i).getD 0 0) d1 d2
      have hfl := xor_lt _ _ d1 d2
      have hkb6 : (0 : Int) ≤ (i : Int) := by omega
      have hkb7 : (i : Int) < 58 := by omega
      generalize l.getD i 0 = x at *
      generalize hr : rem l i = r at *
      have Hr := hyd hr
      clear hr
      generalize r.getD 0 0 = y at *
      generalize x ^^^ y = f at *
      go_wp2_with fail
      have hdl : (r.drop 1).length = 5 := by simp [hrl]
      have HRL := hyd hrl
      have hsrc : ∀ j, j < (r.drop 1).length → wr.drew.cell? ⟨w.heap.size + 1, 1 + j, none⟩ = some (.int .u8 ((r.drop 1).getD j 0 : Nat)) := fun j hj => by
        rw [drop_getD]; exact hO.drew.cell (1 + j) (by omega)
      have HSRC := hyd hsrc
      have HDL := hyd hdl
      clear hsrc hdl hrl
      go_region_law (refine step_copy_one rfl (.tmp 21) (.tmp 22) rfl (w.heap.size + 1) 0 6 6 (w.heap.size + 1) 1 5 5 rfl rfl hO.drew (r.drop 1) (by rw [HDL.out]; rfl) HSRC.out (by rw [HDL.out, HRL.out]; omega) ?_; intro w2 hO2 hX2)
      have hR2 : Arr w2 w.heap.size 72 [0, 0, 0, 0, 0, 0] := hX2.arr (by omega) hR.drew
      have hC2 : Cod w2 q b := hX2.cod (by omega) (by omega) hC.drew
      have hB2 : But b w w2 := hX2.but (by omega) hB.drew
      clear hR hC hB hX2 hO c1 c2
      have hO3 : Arr (w2.setCell ⟨w.heap.size + 1, 5, none⟩ (.int .u8 0)) (w.heap.size + 1) 72 (r.drop 1 ++ [0]) := by
        rw [← lay_shift HRL.out]; exact hO2.store 5 0
      have c5 := hO2.cell 5 (by rw [lay_length (by rw [HDL.out, HRL.out]; omega), HRL.out]; omega)
      have f5 := hO2.frozen 5
      have hR3 : Arr (w2.setCell ⟨w.heap.size + 1, 5, none⟩ (.int .u8 0)) w.heap.size 72 [0, 0, 0, 0, 0, 0] := hR2.setOther (by omega) _ _
      have hC3 : Cod (w2.setCell ⟨w.heap.size + 1, 5, none⟩ (.int .u8 0)) q b := hC2.setNew (by omega) (by omega) _ _
      have hB3 : But b w (w2.setCell ⟨w.heap.size + 1, 5, none⟩ (.int .u8 0)) := hB2.setNew (by omega) _ _
      obtain ⟨g1, g2, g3, g4, g5, g6⟩ := hC3.gens
      have HO3 := hyd hO3
      have HR3 := hyd hR3
      have HC3 := hyd hC3
      have HB3 := hyd hB3
      clear hO3 hR3 hC3 hB3 hR2 hC2 hB2 hO2
      go_wp2_with fail
      generalize w2.setCell ⟨w.heap.size + 1, 5, none⟩ (.int .u8 0) = w3 at *
      clear g1 g2 g3 g4 g5 g6 c5 f5 HSRC
      generalize hbs : r.drop 1 ++ [0] = bs at *
      have hbl : bs.length = 6 := by rw [← hbs]; simp [HRL.out]
      have hbb2 : Bys bs := by rw [← hbs]; exact rem_base_bys (by rw [← Hr.out]; exact rem_bys l i)
      have HBL := hyd hbl
      clear hbs hbl
      go_loopw [29] (fun t wx => ∃ k : Nat, k ≤ 6 ∧ t = .int .i64 k ∧ Arr wx w.heap.size 72 [0, 0, 0, 0, 0, 0] ∧ Arr wx (w.heap.size + 1) 72 (inner f gl 0 bs k) ∧ Cod wx q b ∧ But b w wx) (fun t _ => 6 - (intOf t).toNat)
      case atStart => exact ⟨0, by omega, rfl, HR3.out, HO3.out, HC3.out, HB3.out⟩
      case round =>
        clear HR3 HO3 HC3 HB3
        obtain ⟨k, hk, rfl, hR, hO, hC, hB⟩ := hrel
        by_cases hlt2 : k < 6
        · have hIl : (inner f gl 0 bs k).length = 6 := by rw [inner_length, HBL.out]
          have hIb := inner_bys f gl 0 bs hbb2 k
          have HS : Hid (inner f gl 0 bs (k + 1) = (inner f gl 0 bs k).set k ((inner f gl 0 bs k).getD k 0 ^^^ gm f (gl.getD k 0))) := hyd (by
            show addAt _ (0 + k) _ = _
            rw [Nat.zero_add]; rfl)
          have hidx := index6 k hlt2
          have c1 := hO.cell k (by omega)
          have f1 := hO.frozen k
          have c3 := hC.ptr
          have dg := gl_bys.getD k
          have dI := hIb.getD k
          have hkb6 : (0 : Int) ≤ (k : Int) := by omega
          have hkb7 : (k : Int) < 6 := by omega
          generalize inner f gl 0 bs k = I at *
          generalize hIk : I.getD k 0 = z at *
          have HIK := hyd hIk
          clear hIk
          generalize gl.getD k 0 = g at *
          have e2 := u8_xor_nat z (gm f g) dI (gm_lt _ _)
          have HIL := hyd hIl
          clear hIl
          have n1 : q ≠ w.heap.size + 1 := by omega
          go_wp2_with fail
          go_region_with
            (first | (go_at_call 55; refine (mul_nat b _ ?_ f g hfl dg).mono ?_; (exact hC.1.drew); rintro e w' ⟨rfl, hF', hB'⟩; have hR' : Arr w' w.heap.size 72 [0, 0, 0, 0, 0, 0] := (hR.drew.but hB' (by omega)); have hO' : Arr w' (w.heap.size + 1) 72 I := (hO.drew.but hB' (by omega)); have hC' : Cod w' q b := (hC.drew.but hF' hB'); have c4 := hC'.ptr; have c1' : w'.cell? ⟨w.heap.size + 1, k, none⟩ = some (.int .u8 (z : Nat)) := ((hB'.cell hO.lt (by omega) _).trans c1); have f1' := hO'.frozen k))
          all_goals
            have hO2 : Arr (w'.setCell ⟨w.heap.size + 1, k, none⟩ (.int .u8 ((z ^^^ gm f g : Nat) : Int))) (w.heap.size + 1) 72 (inner f gl 0 bs (k + 1)) := by
              rw [HS.out]; exact hO'.store k _
            clear c1 f1 c3 c4 c1' f1'
            go_wp2
            exact ⟨⟨k + 1, by omega, by go_num, hR'.setOther (by omega) _ _, hO2, hC'.setNew (by omega) (by omega) _ _, ((hB.drew.trans hB').setNew (by omega) _ _)⟩, by simp [intOf]; omega⟩
        · have hO5 : Arr wr (w.heap.size + 1) 72 (rem l (i + 1)) := by
            have e : k = 6 := by omega
            rw [e] at hO; rw [HR.out]; exact hO
          clear hO
          go_wp2
          exact ⟨⟨i + 1, by omega, by go_num, hR, hO5, hC, hB⟩, by simp [intOf]; omega⟩
    · have hO5 : Arr wr (w.heap.size + 1) 72 (rem l 58) := by
        have e : i = 58 := by omega
        rw [e] at hO; exact hO
      have hR2 := hR.row (rem l 58)
      have hC2 : Cod (wr.setRow w.heap.size (bcells (rem l 58))) q b := hC.setRow (by omega) (by omega) _
      have hB2 : But b w (wr.setRow w.heap.size (bcells (rem l 58))) := hB.setRow (by omega) _
      clear hO
      go_wp2_with (first | (refine wpList_load_arr rfl 72 (.tmp 5) rfl _ rfl hO5 Try.underlying72 size53 (rem_length _ _) ?_) | (refine wpList_store_arr rfl 72 (.tmp 4) (.tmp 47) rfl _ _ rfl rfl hR size53 rfl (rem_length _ _) ?_) | go_in)
      refine bodyPost_ret (results_arr rfl _ hR2 rfl Try.underlying72 size53 (rem_length _ _)) rfl ⟨rfl, hC2, hB2⟩
end Go.Proofs.Ytdofegphipbcdaa
namespace Go.Proofs.Ytdofegphipbcdaa
open Go.RowKit
set_option maxRecDepth 100000

theorem lay_enc {l r : List Nat} (hl : l.length = 58) (hr : r.length = 6) : lay (lay z64 0 l) 58 r = l ++ r := by
  have h1 : (lay z64 0 l).length = 64 := by rw [lay_length (by rw [hl, z64_length]; omega), z64_length]
  show (lay z64 0 l).take 58 ++ (r ++ (lay z64 0 l).drop (58 + r.length)) = l ++ r
  rw [hr, List.drop_eq_nil_of_le (by omega), List.append_nil]
  congr 1
  show ((z64.take 0) ++ (l ++ z64.drop (0 + l.length))).take 58 = l
  rw [List.take_zero, List.nil_append, List.take_append_of_le_length (by omega), List.take_of_length_le (by omega)]

set_option maxHeartbeats 4000000 in
theorem encode_any (q b : Nat) (w : World) (h : Cod w q b) (c o cap : Nat) (l : List Nat) (hl : l.length = 58) (hb : Bys l) (hcb : c ≠ b) (hcs : c < w.heap.size)
    (hcell : ∀ i, i < l.length → w.cell? ⟨c, o + i, none⟩ = some (.int .u8 (l.getD i 0 : Nat))) :
    Calls Try.prog 31 #[.pointer (some ⟨q, 0, none⟩), .slice (some ⟨c, o, none⟩) 58 cap] w fun e w' => ∃ g, e = .returned (.tuple #[.slice (some ⟨g, 0, none⟩) 64 64, .nilIface]) ∧ w.heap.size ≤ g ∧ Arr w' g 5 (encL l) ∧ Cod w' q b ∧ But b w w' := by
  have hz := zero53
  have hmk := make64
  have hne := h.ne
  have hq := h.lt
  have hbb := h.1.lt
  have HC := hyd hcell
  clear hcell
  have hrl := rem_length l 58
  go_enter Try.func31, Try.ntmps31
  go_wp2_with (first | (refine wpList_copy_one rfl (.tmp 13) (.tmp 14) rfl w.heap.size 0 64 64 c o 58 cap rfl rfl (Arr.new w 5 z64) l (by rw [hl]; rfl) (fun j hj => (((But.refl b w).alloc (.cells (bcells z64) 5)).cell hcs hcb _).trans (HC.out j hj)) (by rw [hl, z64_length]; omega) ?_; intro w2 hA2 hX2; have C2 : Cod w2 q b := (hX2.cod (by omega) (by omega) (h.alloc _)); have B2 : But b w w2 := (hX2.but (by omega) ((But.refl b w).alloc _)); clear hX2) | (go_at_call 44; refine (remainder_any q b _ C2 c o cap l hl hb hcb (Nat.lt_of_lt_of_le hcs B2.size) (fun i hi => (B2.cell hcs hcb _).trans (HC.out i hi))).mono ?_; rintro e w3 ⟨rfl, C3, B3⟩; have A3 : Arr w3 w.heap.size 5 (lay z64 0 l) := (hA2.but B3 (by omega)); have B13 : But b w w3 := (B2.trans B3); clear hA2 C2 B2 B3) | (refine wpList_store_one rfl 72 (.tmp 7) (.tmp 18) rfl _ _ rfl rfl (Arr.new w3 72 [0, 0, 0, 0, 0, 0]) size53 rfl hrl ?_; intro w4 hS4 hO4; have A4 : Arr w4 w.heap.size 5 (lay z64 0 l) := (hO4.arr (by have := A3.lt; omega) (A3.alloc _)); have C4 : Cod w4 q b := (hO4.cod (by have := C3.lt; omega) (by have := C3.1.lt; omega) (C3.alloc _)); have B4 : But b w w4 := (hO4.but B13.size (B13.alloc _)); have hlt3 : w.heap.size < w3.heap.size := A3.lt; clear hO4 A3 C3 B13))
  generalize w3.heap.size = g3 at *
  have h64 : (lay z64 0 l).length = 64 := by rw [lay_length (by rw [hl, z64_length]; omega), z64_length]
  have HL := hyd (lay_enc hl hrl)
  have H64 := hyd h64
  clear h64
  go_region_law (refine step_copy_one rfl (.tmp 20) (.tmp 21) rfl w.heap.size 58 6 6 g3 0 6 6 rfl rfl A4.drew (rem l 58) (by rw [hrl]; rfl) (fun j hj => by rw [Nat.zero_add]; exact hS4.drew.cell j hj) (by rw [hrl, H64.out]; omega) ?_; intro w5 hA5 hX5)
  rw [HL.out] at hA5
  have C5 : Cod w5 q b := hX5.cod (by omega) (by omega) C4.drew
  have B5 : But b w w5 := hX5.but (by omega) B4.drew
  clear hX5 A4 C4 B4 hS4
  go_wp2
  go_ret2
  exact ⟨w.heap.size, rfl, by omega, hA5, C5, B5⟩
end Go.Proofs.Ytdofegphipbcdaa
