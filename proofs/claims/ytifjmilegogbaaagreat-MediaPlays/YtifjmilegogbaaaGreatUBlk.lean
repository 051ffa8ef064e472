/-
  Blocks of many cells, told by a function; parts of them, read and written whole. No condition: lemmas. What a chip is: its chunks, its blocks, its power, its steps; and how it lies in memory. No condition: lemmas. A chunk's own functions: cleared, programmed, its damage, turned; the counters. Conditions: it lies in its block.
-/
import Derived.Deep.MidRow
import Derived.Laws.LoneSync
import Derived.Test.YtifjmilegogbaaaGreatUEnc
import Derived.Test.YtifjmilegogbaaaGreatUKnow
namespace Go.Proofs.YtifjmilegogbaaaGreat
open Go.RowKit
set_option maxRecDepth 100000

/-- Block g holds n cells, laid out as type t; its i-th is f i. -/
def Sto (w : World) (g : Nat) (t : TypeId) (n : Nat) (f : Nat → Value) : Prop :=
  ∃ cs : Array Value, w.heap[g]? = some (.cells cs t) ∧ cs.size = n ∧ ∀ i, i < n → cs[i]? = some (f i)
/-- f, but vs from o on. -/
def upL (f : Nat → Value) (o : Nat) (vs : List Value) : Nat → Value := fun i => if o ≤ i ∧ i < o + vs.length then vs.getD (i - o) undef else f i
/-- From o on f is vs. -/
def Seg (f : Nat → Value) (o : Nat) (vs : List Value) : Prop := ∀ j v, vs[j]? = some v → f (o + j) = v

theorem Sto.lt {w : World} {g : Nat} {t : TypeId} {n : Nat} {f : Nat → Value} (h : Sto w g t n f) : g < w.heap.size := by
  obtain ⟨cs, h1, _⟩ := h
  exact (Array.getElem?_eq_some_iff.1 h1).1
theorem Sto.cell {w : World} {g : Nat} {t : TypeId} {n : Nat} {f : Nat → Value} (h : Sto w g t n f) (i : Nat) (hi : i < n) : w.cell? ⟨g, i, none⟩ = some (f i) := by
  obtain ⟨cs, h1, h2, h3⟩ := h
  rw [cell_of_row w g i _ _ _ h1]
  exact h3 i hi
theorem Sto.frozen {w : World} {g : Nat} {t : TypeId} {n : Nat} {f : Nat → Value} (h : Sto w g t n f) (i : Nat) : w.frozen? ⟨g, i, none⟩ = false := by
  obtain ⟨cs, h1, h2, h3⟩ := h
  exact frozen_of_row w g i _ _ h1
theorem Sto.other {w w' : World} {g : Nat} {t : TypeId} {n : Nat} {f : Nat → Value} (h : Sto w g t n f) (e : w'.heap[g]? = w.heap[g]?) : Sto w' g t n f := by
  obtain ⟨cs, h1, h2, h3⟩ := h
  exact ⟨cs, e.trans h1, h2, h3⟩
theorem Sto.drew {w : World} {g : Nat} {t : TypeId} {n : Nat} {f : Nat → Value} (h : Sto w g t n f) : Sto w.drew g t n f := h
theorem Sto.chg {S : Nat → Prop} {w w' : World} {g : Nat} {t : TypeId} {n : Nat} {f : Nat → Value} (h : Sto w g t n f) (hc : Chg S w w') (hg : ¬ S g) : Sto w' g t n f := h.other (hc.block g h.lt hg)
theorem Sto.alloc {w : World} {g : Nat} {t : TypeId} {n : Nat} {f : Nat → Value} (h : Sto w g t n f) (o : Obj) : Sto (w.alloc o) g t n f := h.other (Below.heap_alloc _ _ _ h.lt)
theorem Sto.setOther {w : World} {g : Nat} {t : TypeId} {n : Nat} {f : Nat → Value} (h : Sto w g t n f) {k : Nat} (hg : k ≠ g) (o : Nat) (v : Value) : Sto (w.setCell ⟨k, o, none⟩ v) g t n f :=
  h.other (Below.heap_setCell _ _ _ _ (by simp; omega))
theorem Sto.ext {w : World} {g : Nat} {t : TypeId} {n : Nat} {f f' : Nat → Value} (h : Sto w g t n f) (e : ∀ i, i < n → f i = f' i) : Sto w g t n f' := by
  obtain ⟨cs, h1, h2, h3⟩ := h
  exact ⟨cs, h1, h2, fun i hi => by rw [h3 i hi, e i hi]⟩
theorem Sto.type {w : World} {g : Nat} {t t' : TypeId} {n n' : Nat} {f f' : Nat → Value} (h : Sto w g t n f) (h' : Sto w g t' n' f') : t = t' := by
  obtain ⟨cs, h1, _⟩ := h
  obtain ⟨cs', h1', _⟩ := h'
  rw [h1] at h1'
  simp at h1'
  exact h1'.2
theorem upL_one (f : Nat → Value) (o : Nat) (v : Value) (i : Nat) : upL f o [v] i = if i = o then v else f i := by
  unfold upL
  by_cases h : i = o
  · subst h; simp
  · rw [if_neg (by simp; omega), if_neg h]
theorem Sto.setCell {w : World} {g : Nat} {t : TypeId} {n : Nat} {f : Nat → Value} (h : Sto w g t n f) (o : Nat) (v : Value) : Sto (w.setCell ⟨g, o, none⟩ v) g t n (upL f o [v]) := by
  obtain ⟨cs, h1, h2, h3⟩ := h
  refine ⟨cs.setIfInBounds o v, by simp [World.setCell, Array.getElem?_modify, h1], by simpa using h2, fun i hi => ?_⟩
  rw [upL_one]
  by_cases e : i = o
  · subst e
    rw [if_pos rfl, Array.getElem?_setIfInBounds_self_of_lt (by omega)]
  · rw [if_neg e, Array.getElem?_setIfInBounds_ne (by omega), h3 i hi]
theorem Sto.setCells {g : Nat} {t : TypeId} {n : Nat} : ∀ (vs : List Value) (o : Nat) {w : World} {f : Nat → Value} (_ : Sto w g t n f), Sto (w.setCells g o vs) g t n (upL f o vs)
  | [], o, w, f, h => h.ext fun i _ => by unfold upL; rw [if_neg (by intro hh; simp at hh; omega)]
  | v :: r, o, w, f, h => by
    rw [World.setCells]
    refine (Sto.setCells r (o + 1) (h.setCell o v)).ext fun i _ => ?_
    unfold upL
    by_cases e : i = o
    · subst e; rw [if_neg (by omega), if_pos (by simp), if_pos (by simp)]; simp
    · by_cases h2 : o + 1 ≤ i ∧ i < o + 1 + r.length
      · rw [if_pos h2, if_pos (by simp; omega), show i - o = (i - (o + 1)) + 1 from by omega, List.getD_cons_succ]
      · rw [if_neg h2, if_neg (by simp; omega), if_neg (by simp; omega)]
theorem Chg.setCells {S : Nat → Prop} {u : World} {g : Nat} (hg : S g ∨ u.heap.size ≤ g) : ∀ (vs : List Value) (o : Nat) {w : World} (_ : Chg S u w), Chg S u (w.setCells g o vs)
  | [], _, _, h => h
  | v :: r, o, w, h => by rw [World.setCells]; exact Chg.setCells hg r (o + 1) (h.setCell hg o v)
theorem Seg.range {w : World} {g : Nat} {t : TypeId} {n : Nat} {f : Nat → Value} (h : Sto w g t n f) {o : Nat} {vs : List Value} (hs : Seg f o vs) (ho : o + vs.length ≤ n) : w.rangeAt g o vs := fun j v hv => by
  have hj : j < vs.length := (List.getElem?_eq_some_iff.1 hv).1
  rw [h.cell _ (by omega), hs j v hv]
theorem Sto.there {w : World} {g : Nat} {t : TypeId} {n : Nat} {f : Nat → Value} (h : Sto w g t n f) (o m : Nat) (ho : o + m ≤ n) : w.there g o m := fun j hj => ⟨by rw [h.cell _ (by omega)]; rfl, h.frozen _⟩
theorem upL_seg (f : Nat → Value) (o : Nat) (vs : List Value) : Seg (upL f o vs) o vs := fun j v hv => by
  have hj : j < vs.length := (List.getElem?_eq_some_iff.1 hv).1
  unfold upL
  rw [if_pos (by omega), show o + j - o = j from by omega, List.getD_eq_getElem?_getD, hv]; rfl
theorem Seg.up {f : Nat → Value} {o : Nat} {vs : List Value} (h : Seg f o vs) (o' : Nat) (us : List Value) (hd : o + vs.length ≤ o' ∨ o' + us.length ≤ o) : Seg (upL f o' us) o vs := fun j v hv => by
  have hj : j < vs.length := (List.getElem?_eq_some_iff.1 hv).1
  unfold upL
  rw [if_neg (by omega)]
  exact h j v hv
theorem Seg.sub {f : Nat → Value} {o : Nat} {vs us : List Value} (h : Seg f o vs) (j : Nat) (hu : ∀ i v, us[i]? = some v → vs[j + i]? = some v) : Seg f (o + j) us := fun i v hv => by
  have := h (j + i) v (hu i v hv)
  rw [← this]; congr 1; omega
/-- vs, but us from j on. -/
def layV (vs : List Value) (j : Nat) (us : List Value) : List Value := vs.take j ++ (us ++ vs.drop (j + us.length))
theorem layV_length {vs : List Value} {j : Nat} {us : List Value} (h : j + us.length ≤ vs.length) : (layV vs j us).length = vs.length := by simp [layV]; omega
theorem upL_upL (f : Nat → Value) (o : Nat) (vs : List Value) (j : Nat) (us : List Value) (h : j + us.length ≤ vs.length) : upL (upL f o vs) (o + j) us = upL f o (layV vs j us) := by
  funext i
  have hl := layV_length h
  unfold upL
  rw [hl]
  by_cases h1 : o + j ≤ i ∧ i < o + j + us.length
  · rw [if_pos h1, if_pos (by omega)]
    simp only [List.getD_eq_getElem?_getD, layV]
    rw [List.getElem?_append_right (by simp; omega), List.getElem?_append_left (by simp; omega)]
    congr 2
    simp; omega
  · rw [if_neg h1]
    by_cases h2 : o ≤ i ∧ i < o + vs.length
    · rw [if_pos h2, if_pos h2]
      simp only [List.getD_eq_getElem?_getD, layV]
      by_cases h3 : i < o + j
      · rw [List.getElem?_append_left (by simp; omega), List.getElem?_take_of_lt (by omega)]
      · rw [List.getElem?_append_right (by simp; omega), List.getElem?_append_right (by simp; omega), List.getElem?_drop]
        congr 2
        simp; omega
    · rw [if_neg h2, if_neg h2]
theorem upL_same (f : Nat → Value) (o : Nat) (vs us : List Value) (h : vs.length = us.length) : upL (upL f o vs) o us = upL f o us := by
  funext i
  unfold upL
  rw [h]
  by_cases h1 : o ≤ i ∧ i < o + us.length
  · rw [if_pos h1, if_pos h1]
  · rw [if_neg h1, if_neg h1, if_neg h1]
/-- A copy of bytes into the midst of a block. -/
theorem wpList_copy_mid {w : World} {ops : Array Oper} {rest : List Oper} {o : Oper} {a : Act} {Q : Exit → Act → World → Prop} (hgd : o.guard = none) (d s : Operand)
    (ho : o.op = .call { callee := .builtin .copy, args := #[d, s], argTypes := #[55, 55] }) (g off dLen dCap : Nat) (c : Addr) (sLen sCap : Nat) (hd : a.eval d = .slice (some ⟨g, off, none⟩) dLen dCap) (hs : a.eval s = .slice (some c) sLen sCap)
    (src : List Nat) (hn : src.length = Nat.min sLen dLen) (hsrc : ∀ j v, (src.map byt)[j]? = some v → w.cell? (c.add j) = some v) (hth : w.there g off src.length)
    (h : wpList Tryz.prog ops Q rest (a.put o.dst (goInt src.length)) (w.setCells g off (src.map byt))) : wpList Tryz.prog ops Q (o :: rest) a w := by
  refine wpList_plain hgd fun K hK => ?_
  have hrun := run_copy_cells (P := Tryz.prog) w 55 55 o.type 5 g off dLen dCap c sLen sCap (src.map byt) Tryz.underlying55 size5 (by simpa using hn) hsrc (fun j hj => (hth j (by simpa using hj)).1) (fun j hj => (hth j (by simpa using hj)).2) (byt_one src)
  unfold Oper.wp
  simp only [List.length_map] at hrun
  simp [execOp, ho, resolve, invoke, builtin, hd, hs, hrun, Result.andThen]
  exact hK _ _ h
end Go.Proofs.YtifjmilegogbaaaGreat
namespace Go.Proofs.YtifjmilegogbaaaGreat
open Go.RowKit
set_option maxRecDepth 100000

/-- A chunk. -/
structure Chk where
  now : List Nat
  tru : List Nat
  is : Bool
  worst : Nat
/-- A block: has it failed; is a write to fail, behind how many; is the next erase; its reads. -/
structure Blo where
  failed : Bool
  wf : Bool
  ahead : Nat
  ef : Bool
  reads : Int
/-- A chip. -/
structure Chp where
  ch : Nat → Chk
  bl : Nat → Blo
  on : Bool
  lim : Bool
  bud : Nat
  steps : Int
/-- A chunk that can be. -/
structure Chk.Ok (k : Chk) : Prop where
  now : k.now.length = 64
  tru : k.tru.length = 64
  nowB : Bys k.now
  truB : Bys k.tru
  worst : k.worst ≤ 64
structure Blo.Ok (b : Blo) : Prop where
  ahead : b.ahead < 9223372036854775808
  none : b.wf = false → b.ahead = 0
  lo : -9223372036854775808 ≤ b.reads
  hi : b.reads < 9223372036854775808
structure Chp.Ok (s : Chp) : Prop where
  ch : ∀ c, (s.ch c).Ok
  bl : ∀ b, (s.bl b).Ok
  bud : s.bud < 9223372036854775808
  lo : -9223372036854775808 ≤ s.steps
  hi : s.steps < 9223372036854775808

/-- A chunk's cells. -/
def ckc (k : Chk) : List Value := k.now.map byt ++ (k.tru.map byt ++ [.bool k.is, .int .i64 k.worst])
theorem ckc_length {k : Chk} (h1 : k.now.length = 64) (h2 : k.tru.length = 64) : (ckc k).length = 130 := by simp [ckc, h1, h2]
/-- A block's cells. -/
def blc (b : Blo) : List Value := [.bool b.failed, .bool b.wf, .int .i64 b.ahead, .bool b.ef]
/-- The power's cells, and the steps'. -/
def pwc (s : Chp) : List Value := [.bool s.on, .bool s.lim, .int .i64 s.bud, .int .i64 s.steps]
/-- A chip's i-th cell. -/
def ccell (s : Chp) (i : Nat) : Value :=
  if i < 49920 then (ckc (s.ch (i / 130))).getD (i % 130) undef else
  if i < 49968 then (blc (s.bl ((i - 49920) / 4))).getD ((i - 49920) % 4) undef else
  if i < 49980 then .int .i64 (s.bl (i - 49968)).reads else (pwc s).getD (i - 49980) undef
/-- The chip with another chunk c. -/
def Chp.setCh (s : Chp) (c : Nat) (k : Chk) : Chp := { s with ch := fun j => if j = c then k else s.ch j }
/-- The chip with another block b. -/
def Chp.setBl (s : Chp) (b : Nat) (x : Blo) : Chp := { s with bl := fun j => if j = b then x else s.bl j }
/-- Block g holds the chip s. -/
def ChipAt (w : World) (g : Nat) (s : Chp) : Prop := Sto w g 107 49984 (ccell s)

theorem ccell_ch (s : Chp) (hs : s.Ok) (c : Nat) (hc : c < 384) : Seg (ccell s) (130 * c) (ckc (s.ch c)) := fun j v hv => by
  have hl := ckc_length (hs.ch c).now (hs.ch c).tru
  have hj : j < 130 := by have := (List.getElem?_eq_some_iff.1 hv).1; omega
  unfold ccell
  rw [if_pos (by omega), show (130 * c + j) / 130 = c from by omega, show (130 * c + j) % 130 = j from by omega, List.getD_eq_getElem?_getD, hv]; rfl
theorem ccell_bl (s : Chp) (b : Nat) (hb : b < 12) : Seg (ccell s) (49920 + 4 * b) (blc (s.bl b)) := fun j v hv => by
  have hj : j < 4 := by have := (List.getElem?_eq_some_iff.1 hv).1; simpa [blc] using this
  unfold ccell
  rw [if_neg (by omega), if_pos (by omega), show (49920 + 4 * b + j - 49920) / 4 = b from by omega, show (49920 + 4 * b + j - 49920) % 4 = j from by omega, List.getD_eq_getElem?_getD, hv]; rfl
theorem ccell_reads (s : Chp) (b : Nat) (hb : b < 12) : ccell s (49968 + b) = .int .i64 (s.bl b).reads := by
  unfold ccell
  rw [if_neg (by omega), if_neg (by omega), if_pos (by omega), show 49968 + b - 49968 = b from by omega]
theorem ccell_on (s : Chp) : ccell s 49980 = .bool s.on := rfl
theorem ccell_lim (s : Chp) : ccell s 49981 = .bool s.lim := rfl
theorem ccell_bud (s : Chp) : ccell s 49982 = .int .i64 s.bud := rfl
theorem ccell_steps (s : Chp) : ccell s 49983 = .int .i64 s.steps := rfl
theorem ccell_setCh (s : Chp) (c : Nat) (hc : c < 384) (k : Chk) (hk : (ckc k).length = 130) (i : Nat) : upL (ccell s) (130 * c) (ckc k) i = ccell (s.setCh c k) i := by
  unfold upL
  rw [hk]
  by_cases h : 130 * c ≤ i ∧ i < 130 * c + 130
  · rw [if_pos h]
    unfold ccell
    rw [if_pos (by omega), show i / 130 = c from by omega]
    simp only [Chp.setCh, if_pos]
    congr 1; omega
  · rw [if_neg h]
    unfold ccell
    by_cases h1 : i < 49920
    · rw [if_pos h1, if_pos h1]
      simp only [Chp.setCh]
      rw [if_neg (by omega)]
    · rw [if_neg h1, if_neg h1]; rfl
theorem ccell_setBl (s : Chp) (b : Nat) (hb : b < 12) (x : Blo) (hx : x.reads = (s.bl b).reads) (i : Nat) : upL (ccell s) (49920 + 4 * b) (blc x) i = ccell (s.setBl b x) i := by
  unfold upL
  rw [show (blc x).length = 4 from rfl]
  by_cases h : 49920 + 4 * b ≤ i ∧ i < 49920 + 4 * b + 4
  · rw [if_pos h]
    unfold ccell
    rw [if_neg (by omega), if_pos (by omega), show (i - 49920) / 4 = b from by omega]
    simp only [Chp.setBl, if_pos]
    rw [show (i - 49920) % 4 = i - (49920 + 4 * b) from by omega]
  · rw [if_neg h]
    unfold ccell
    by_cases h1 : i < 49920
    · rw [if_pos h1, if_pos h1]; rfl
    · rw [if_neg h1, if_neg h1]
      by_cases h2 : i < 49968
      · rw [if_pos h2, if_pos h2]
        simp only [Chp.setBl]
        rw [if_neg (by omega)]
      · rw [if_neg h2, if_neg h2]
        by_cases h3 : i < 49980
        · rw [if_pos h3, if_pos h3]
          simp only [Chp.setBl]
          by_cases h4 : i - 49968 = b
          · rw [if_pos h4, h4, hx]
          · rw [if_neg h4]
        · rw [if_neg h3, if_neg h3]; rfl
theorem ccell_setReads (s : Chp) (b : Nat) (hb : b < 12) (n : Int) (i : Nat) : upL (ccell s) (49968 + b) [.int .i64 n] i = ccell (s.setBl b { s.bl b with reads := n }) i := by
  rw [upL_one]
  by_cases h : i = 49968 + b
  · subst h
    rw [if_pos rfl, ccell_reads _ _ hb]
    simp [Chp.setBl]
  · rw [if_neg h]
    unfold ccell
    by_cases h1 : i < 49920
    · rw [if_pos h1, if_pos h1]; rfl
    · rw [if_neg h1, if_neg h1]
      by_cases h2 : i < 49968
      · rw [if_pos h2, if_pos h2]
        simp only [Chp.setBl]
        by_cases h4 : (i - 49920) / 4 = b
        · rw [if_pos h4, h4]; rfl
        · rw [if_neg h4]
      · rw [if_neg h2, if_neg h2]
        by_cases h3 : i < 49980
        · rw [if_pos h3, if_pos h3]
          simp only [Chp.setBl]
          rw [if_neg (by omega)]
        · rw [if_neg h3, if_neg h3]; rfl
theorem ccell_setPw (s : Chp) (on lim : Bool) (bud : Nat) (i : Nat) (hi : i < 49984) : upL (ccell s) 49980 [.bool on, .bool lim, .int .i64 bud] i = ccell { s with on := on, lim := lim, bud := bud } i := by
  unfold upL
  by_cases h : 49980 ≤ i ∧ i < 49983
  · rw [if_pos (by simpa using h)]
    rcases (by omega : i = 49980 ∨ i = 49981 ∨ i = 49982) with e | e | e <;> subst e <;> rfl
  · rw [if_neg (by simpa using h)]
    by_cases h1 : i < 49980
    · unfold ccell
      by_cases h2 : i < 49920
      · rw [if_pos h2, if_pos h2]
      · rw [if_neg h2, if_neg h2]
        by_cases h3 : i < 49968
        · rw [if_pos h3, if_pos h3]
        · rw [if_neg h3, if_neg h3, if_pos h1, if_pos h1]
    · have e : i = 49983 := by omega
      subst e; rfl
theorem ccell_setBud (s : Chp) (bud : Nat) (i : Nat) (hi : i < 49984) : upL (ccell s) 49982 [.int .i64 bud] i = ccell { s with bud := bud } i := by
  rw [upL_one, ← ccell_setPw s s.on s.lim bud i hi]
  unfold upL
  by_cases h : i = 49982
  · subst h; rfl
  · rw [if_neg h]
    by_cases h2 : 49980 ≤ i ∧ i < 49983
    · rw [if_pos (by simpa using h2)]
      rcases (by omega : i = 49980 ∨ i = 49981) with e | e <;> subst e <;> rfl
    · rw [if_neg (by simpa using h2)]
theorem ccell_setLim (s : Chp) (lim : Bool) (i : Nat) (hi : i < 49984) : upL (ccell s) 49981 [.bool lim] i = ccell { s with lim := lim } i := by
  rw [upL_one, ← ccell_setPw s s.on lim s.bud i hi]
  unfold upL
  by_cases h : i = 49981
  · subst h; rfl
  · rw [if_neg h]
    by_cases h2 : 49980 ≤ i ∧ i < 49983
    · rw [if_pos (by simpa using h2)]
      rcases (by omega : i = 49980 ∨ i = 49982) with e | e <;> subst e <;> rfl
    · rw [if_neg (by simpa using h2)]
theorem ccell_setSteps (s : Chp) (n : Int) (i : Nat) (hi : i < 49984) : upL (ccell s) 49983 [.int .i64 n] i = ccell { s with steps := n } i := by
  rw [upL_one]
  by_cases h : i = 49983
  · subst h; rfl
  · rw [if_neg h]
    unfold ccell
    by_cases h2 : i < 49920
    · rw [if_pos h2, if_pos h2]
    · rw [if_neg h2, if_neg h2]
      by_cases h3 : i < 49968
      · rw [if_pos h3, if_pos h3]
      · rw [if_neg h3, if_neg h3]
        by_cases h4 : i < 49980
        · rw [if_pos h4, if_pos h4]
        · rw [if_neg h4, if_neg h4]
          rcases (by omega : i = 49980 ∨ i = 49981 ∨ i = 49982) with e | e | e <;> subst e <;> rfl
theorem ChipAt.lt {w : World} {g : Nat} {s : Chp} (h : ChipAt w g s) : g < w.heap.size := Sto.lt h
theorem ChipAt.drew {w : World} {g : Nat} {s : Chp} (h : ChipAt w g s) : ChipAt w.drew g s := h
theorem ChipAt.chg {S : Nat → Prop} {w w' : World} {g : Nat} {s : Chp} (h : ChipAt w g s) (hc : Chg S w w') (hg : ¬ S g) : ChipAt w' g s := Sto.chg h hc hg
theorem ChipAt.other {w w' : World} {g : Nat} {s : Chp} (h : ChipAt w g s) (e : w'.heap[g]? = w.heap[g]?) : ChipAt w' g s := Sto.other h e
theorem Chp.Ok.setCh {s : Chp} (h : s.Ok) (c : Nat) {k : Chk} (hk : k.Ok) : (s.setCh c k).Ok :=
  ⟨fun j => by
    show (if j = c then k else s.ch j).Ok
    by_cases e : j = c
    · rw [if_pos e]; exact hk
    · rw [if_neg e]; exact h.ch j, h.bl, h.bud, h.lo, h.hi⟩
theorem Chp.Ok.setBl {s : Chp} (h : s.Ok) (b : Nat) {x : Blo} (hx : x.Ok) : (s.setBl b x).Ok :=
  ⟨h.ch, fun j => by
    show (if j = b then x else s.bl j).Ok
    by_cases e : j = b
    · rw [if_pos e]; exact hx
    · rw [if_neg e]; exact h.bl j, h.bud, h.lo, h.hi⟩
end Go.Proofs.YtifjmilegogbaaaGreat
namespace Go.Proofs.YtifjmilegogbaaaGreat
open Go.RowKit
set_option maxRecDepth 100000

/-- A chunk of noughts. -/
def nulK : Chk := { now := List.replicate 64 0, tru := List.replicate 64 0, is := false, worst := 0 }
/-- An erased chunk. -/
def newK : Chk := { now := List.replicate 64 255, tru := List.replicate 64 255, is := false, worst := 0 }
theorem nul_cells : Tryz.zeroCells97 = (ckc nulK).toArray := by kernel_rfl
theorem size60 : (Tryz.prog.info? 97).map (·.size) = some 130 := by kernel_rfl
theorem size58 : (Tryz.prog.info? 95).map (·.size) = some 64 := by kernel_rfl
theorem ckc_one (k : Chk) : ∀ v ∈ ckc k, v.oneCell' = true := by
  intro v hv
  simp only [ckc, List.mem_append, List.mem_map, List.mem_cons, List.not_mem_nil, or_false] at hv
  rcases hv with ⟨n, _, rfl⟩ | ⟨n, _, rfl⟩ | rfl | rfl <;> rfl
theorem ckc_now {k : Chk} {f : Nat → Value} {o : Nat} (hs : Seg f o (ckc k)) : Seg f o (k.now.map byt) := fun j v hv => by
  refine hs j v ?_
  rw [ckc, List.getElem?_append_left (by have := (List.getElem?_eq_some_iff.1 hv).1; exact this)]
  exact hv
theorem ckc_tru {k : Chk} (h : k.now.length = 64) {f : Nat → Value} {o : Nat} (hs : Seg f o (ckc k)) : Seg f (o + 64) (k.tru.map byt) := by
  refine hs.sub 64 fun j v hv => ?_
  have hj := (List.getElem?_eq_some_iff.1 hv).1
  rw [ckc, List.getElem?_append_right (by simp [h]), List.getElem?_append_left (by simp [h] at hj ⊢; omega), List.length_map, h, show 64 + j - 64 = j from by omega]
  exact hv
theorem ckc_is {k : Chk} (h : k.now.length = 64) (h2 : k.tru.length = 64) {f : Nat → Value} {o : Nat} (hs : Seg f o (ckc k)) : f (o + 128) = .bool k.is := by
  refine hs 128 _ ?_
  rw [ckc, List.getElem?_append_right (by simp [h]), List.getElem?_append_right (by simp [h, h2])]
  simp [h, h2]
theorem ckc_worst {k : Chk} (h : k.now.length = 64) (h2 : k.tru.length = 64) {f : Nat → Value} {o : Nat} (hs : Seg f o (ckc k)) : f (o + 129) = .int .i64 k.worst := by
  refine hs 129 _ ?_
  rw [ckc, List.getElem?_append_right (by simp [h]), List.getElem?_append_right (by simp [h, h2])]
  simp [h, h2]
theorem layV_now (k : Chk) (l : List Nat) (h : k.now.length = 64) (hl : l.length = 64) : layV (ckc k) 0 (l.map byt) = ckc { k with now := l } := by
  simp only [layV, ckc, List.take_zero, List.nil_append, List.length_map, hl, Nat.zero_add]
  rw [List.drop_append_of_le_length (by simp [h]), List.drop_eq_nil_of_le (by simp [h]), List.nil_append]
theorem layV_tru (k : Chk) (l : List Nat) (h : k.now.length = 64) (h2 : k.tru.length = 64) (hl : l.length = 64) : layV (ckc k) 64 (l.map byt) = ckc { k with tru := l } := by
  simp only [layV, ckc, List.length_map, hl]
  rw [List.take_left' (by simp [h]), List.drop_append, List.drop_eq_nil_of_le (by simp [h]), List.nil_append, List.length_map, h, show 64 + 64 - 64 = 64 from rfl, List.drop_left' (by simp [h2])]
theorem layV_one (k : Chk) (i v : Nat) (h : k.now.length = 64) (hi : i < 64) : layV (ckc k) i [byt v] = ckc { k with now := k.now.set i v } := by
  simp only [layV, ckc, List.length_cons, List.length_nil, Nat.zero_add]
  rw [List.take_append_of_le_length (by simp [h]; omega), List.drop_append_of_le_length (by simp [h]; omega), ← List.append_assoc, ← List.append_assoc, List.append_assoc (List.take i _)]
  congr 1
  rw [List.map_set, List.set_eq_take_append_cons_drop, if_pos (by simp [h]; omega)]; rfl
theorem layV_tru1 (k : Chk) (i v : Nat) (h : k.now.length = 64) (h2 : k.tru.length = 64) (hi : i < 64) : layV (ckc k) (64 + i) [byt v] = ckc { k with tru := k.tru.set i v } := by
  have hn : (k.now.map byt).length = 64 := by simp [h]
  simp only [layV, ckc, List.length_cons, List.length_nil, Nat.zero_add]
  rw [List.take_append, List.take_of_length_le (by omega), hn, List.drop_append, List.drop_eq_nil_of_le (by omega), hn, List.nil_append, show 64 + i - 64 = i from by omega, show 64 + i + 1 - 64 = i + 1 from by omega, List.append_assoc]
  congr 1
  rw [List.take_append_of_le_length (by simp [h2]; omega), List.drop_append_of_le_length (by simp [h2]; omega), ← List.append_assoc, ← List.append_assoc]
  congr 1
  rw [List.map_set, List.set_eq_take_append_cons_drop, if_pos (by simp [h2]; omega)]; simp
theorem layV_worst (k : Chk) (n : Nat) (h : k.now.length = 64) (h2 : k.tru.length = 64) : layV (ckc k) 129 [.int .i64 n] = ckc { k with worst := n } := by
  have hn : (k.now.map byt).length = 64 := by simp [h]
  have ht : (k.tru.map byt).length = 64 := by simp [h2]
  simp only [layV, ckc, List.length_cons, List.length_nil, Nat.zero_add]
  rw [List.take_append, List.take_of_length_le (by omega), hn, List.take_append, List.take_of_length_le (by omega), ht, List.drop_eq_nil_of_le (by simp [h, h2])]
  simp

/-- How many bytes differ, of the first n. -/
def dmgTo (a b : List Nat) : Nat → Nat
  | 0 => 0
  | n + 1 => dmgTo a b n + (if a.getD n 0 = b.getD n 0 then 0 else 1)
def dmg (k : Chk) : Nat := dmgTo k.now k.tru 64
theorem dmgTo_le (a b : List Nat) (n : Nat) : dmgTo a b n ≤ n := by
  induction n with
  | zero => exact Nat.le_refl _
  | succ n ih => unfold dmgTo; split <;> omega

theorem load_any (g o : Nat) (w : World) {x : Int} (hc : w.cell? ⟨g, o, none⟩ = some (.int .i64 x)) :
    Calls Tryz.prog 45 #[.pointer (some ⟨g, o, none⟩)] w fun e w' => e = .returned (.int .i64 x) ∧ w' = w := by
  have hl := run_call_load (P := Tryz.prog) Tryz.func74 (by kernel_rfl) (by kernel_rfl) (by kernel_rfl) .i64 (by kernel_rfl) hc
  go_enter Tryz.func45, Tryz.ntmps45
  go_wp2
  go_ret
  exact ⟨rfl, rfl⟩
theorem store_any (g o : Nat) (w : World) (y : Int) {u : Value} (hc : w.cell? ⟨g, o, none⟩ = some u) (hz : w.frozen? ⟨g, o, none⟩ = false) :
    Calls Tryz.prog 83 #[.pointer (some ⟨g, o, none⟩), .int .i64 y] w fun e w' => e = .returned (.tuple #[]) ∧ w' = w.setCell ⟨g, o, none⟩ (.int .i64 y) := by
  have hl := run_call_store (P := Tryz.prog) Tryz.func115 (by kernel_rfl) (by kernel_rfl) (by kernel_rfl) (by kernel_rfl) (k := .i64) (y := y) hc hz
  go_enter Tryz.func83, Tryz.ntmps83
  go_wp2
  go_end0
  exact ⟨rfl, rfl⟩
theorem add_any (g o : Nat) (w : World) {x : Int} (hc : w.cell? ⟨g, o, none⟩ = some (.int .i64 x)) (hz : w.frozen? ⟨g, o, none⟩ = false) :
    Calls Tryz.prog 53 #[.pointer (some ⟨g, o, none⟩), .int .i64 1] w fun e w' => e = .returned (.int .i64 (wrap64 (x + 1))) ∧ w' = w.setCell ⟨g, o, none⟩ (.int .i64 (wrap64 (x + 1))) := by
  have hl := run_call_add (P := Tryz.prog) Tryz.func78 (by kernel_rfl) (by kernel_rfl) (by kernel_rfl) .i64 (by kernel_rfl) (y := 1) (s := wrap64 (x + 1)) hc hz (by simp [go_sem, wrap64, IntKind.wrap_i64])
  go_enter Tryz.func53, Tryz.ntmps53
  go_wp2
  go_ret
  exact ⟨rfl, rfl⟩

/-- While it is cleared. -/
def clrK (i : Nat) : Chk := { nulK with tru := List.replicate i 255 ++ List.replicate (64 - i) 0 }
theorem clrK_tru (i : Nat) (h : i ≤ 64) : (clrK i).tru.length = 64 := by simp [clrK]; omega
theorem clrK_set (i : Nat) (h : i < 64) : { clrK i with tru := (clrK i).tru.set i 255 } = clrK (i + 1) := by
  simp only [clrK, Chk.mk.injEq, true_and, and_true, nulK]
  rw [List.set_append_right _ _ (by simp), List.length_replicate, Nat.sub_self, show 64 - i = (64 - (i + 1)) + 1 from by omega, List.replicate_succ, List.set_cons_zero, List.replicate_succ', List.append_assoc]
  rfl
theorem clrK_zero : clrK 0 = nulK := rfl
theorem nul_size : Tryz.zeroCells97.size = 130 := Tryz.zeroCells97_size
theorem nul_one : Tryz.zeroCells97.all (·.oneCell') = true := by rw [nul_cells]; exact all_oneCell_toArray (ckc_one _)
theorem tru255 : byt 255 = Value.int .u8 255 := rfl
set_option maxHeartbeats 1000000 in
theorem clear_any (g o : Nat) (t : TypeId) (n : Nat) (f : Nat → Value) (ho : o + 130 ≤ n) (w : World) (hB : Sto w g t n f) :
    Calls Tryz.prog 82 #[.pointer (some ⟨g, o, none⟩)] w fun e w' => e = .returned (.tuple #[]) ∧ Sto w' g t n (upL f o (ckc newK)) ∧ Chg (· = g) w w' := by
  have hth := hB.there o 130 ho
  go_enter Tryz.func82, Tryz.ntmps82
  go_wp2_with (first | refine wpList_store_mid rfl 97 (.tmp 5) (.tmp 4) rfl g o _ rfl rfl (by rw [nul_size]; exact hth) (by rw [nul_size]; exact size60) nul_one ?_)
  have hB1 : Sto (w.setCells g o Tryz.zeroCells97.toList) g t n (upL f o (ckc (clrK 0))) := by
    rw [nul_cells]; exact Sto.setCells _ _ hB
  have hG1 : Chg (· = g) w (w.setCells g o Tryz.zeroCells97.toList) := Chg.setCells (S := (· = g)) (Or.inl rfl) _ _ (Chg.refl _ _)
  generalize w.setCells g o Tryz.zeroCells97.toList = w1 at *
  go_loopw [6] (fun t6 wr => ∃ i : Nat, i ≤ 64 ∧ t6 = .int .i64 i ∧ Sto wr g t n (upL f o (ckc (clrK i))) ∧ Chg (· = g) w wr) (fun t6 _ => 64 - (intOf t6).toNat)
  case atStart => exact ⟨0, by omega, rfl, hB1, hG1⟩
  case round =>
    clear hB1 hG1 hth
    obtain ⟨i, hi, rfl, hB, hG⟩ := hrel
    by_cases hlt : i < 64
    · have hkb4 : (0 : Int) ≤ (i : Int) := by omega
      have hkb5 : (i : Int) < 64 := by omega
      have c1 := hB.cell (o + 64 + i) (by omega)
      have f1 := hB.frozen (o + 64 + i)
      have hB2 := hB.setCell (o + 64 + i) (.int .u8 255)
      have e2 : upL (upL f o (ckc (clrK i))) (o + 64 + i) [.int .u8 255] = upL f o (ckc (clrK (i + 1))) := by
        rw [show o + 64 + i = o + (64 + i) from by omega, upL_upL _ _ _ _ _ (by rw [ckc_length (k := clrK i) rfl (clrK_tru i (by omega))]; simp; omega), ← tru255, layV_tru1 _ _ _ rfl (clrK_tru i (by omega)) hlt, clrK_set i hlt]
      rw [e2] at hB2
      clear e2
      go_wp2
      exact ⟨⟨i + 1, by omega, by go_num, hB2, hG.setCell (Or.inl rfl) _ _⟩, by simp [intOf]; omega⟩
    · have e6 : i = 64 := by omega
      subst e6
      have hl := ckc_length (k := clrK 64) rfl (clrK_tru 64 (by omega))
      have r1 : wr.rangeAt g (o + 64) ((clrK 64).tru.map byt) := Seg.range hB (ckc_tru rfl (upL_seg _ _ _)) (by simp [clrK_tru]; omega)
      have HS : Hid ((Tryz.prog.info? 95).map (·.size) = some ((clrK 64).tru.map byt).length) := by rw [List.length_map, clrK_tru 64 (by omega)]; exact size58
      have hth2 := hB.there o 64 (by omega)
      have hs : (((clrK 64).tru.map byt).toArray).size = 64 := by simp [clrK_tru]
      have h1 := all_oneCell_toArray (byt_one (clrK 64).tru)
      have hB2 := Sto.setCells ((clrK 64).tru.map byt) o hB
      have e2 := upL_upL f o (ckc (clrK 64)) 0 ((clrK 64).tru.map byt) (by rw [hl]; simp [clrK_tru])
      rw [Nat.add_zero, layV_now _ _ rfl (clrK_tru 64 (by omega))] at e2
      rw [e2] at hB2
      have hG2 : Chg (· = g) w (wr.setCells g o ((clrK 64).tru.map byt)) := Chg.setCells (S := (· = g)) (Or.inl rfl) _ _ hG
      go_wp2_with (first | refine wpList_load_mid rfl 95 (.tmp 18) rfl g (o + 64) rfl _ _ r1 Tryz.underlying95 rfl HS.out ?_ | refine wpList_store_mid rfl 95 (.tmp 21) (.tmp 19) rfl g o _ rfl rfl (by rw [hs]; exact hth2) (by rw [hs]; exact size58) h1 ?_)
      go_end0
      exact ⟨rfl, hB2, hG2⟩
end Go.Proofs.YtifjmilegogbaaaGreat

