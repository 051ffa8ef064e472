/-
  What a chip is: its chunks, its blocks, its power, its steps; and how it lies in memory. No condition: lemmas.
-/
import Derived.Test.YtfjgnplplafniaaBlk
namespace Go.Proofs.Ytfjgnplplafniaa
open Go.RowKit
set_option maxRecDepth 100000

/-- A chunk. -/
structure Chk where
  now : List Nat
  tru : List Nat
  is : Bool
  worst : Nat
/-- A block: has it failed; is a write to fail, behind how many; is the next erase; its reads. -/
structure Blo where
  failed : Bool
  wf : Bool
  ahead : Nat
  ef : Bool
  reads : Int
/-- A chip. -/
structure Chp where
  ch : Nat → Chk
  bl : Nat → Blo
  on : Bool
  lim : Bool
  bud : Nat
  steps : Int
/-- A chunk that can be. -/
structure Chk.Ok (k : Chk) : Prop where
  now : k.now.length = 64
  tru : k.tru.length = 64
  nowB : Bys k.now
  truB : Bys k.tru
  worst : k.worst ≤ 64
structure Blo.Ok (b : Blo) : Prop where
  ahead : b.ahead < 9223372036854775808
  none : b.wf = false → b.ahead = 0
  lo : -9223372036854775808 ≤ b.reads
  hi : b.reads < 9223372036854775808
structure Chp.Ok (s : Chp) : Prop where
  ch : ∀ c, (s.ch c).Ok
  bl : ∀ b, (s.bl b).Ok
  bud : s.bud < 9223372036854775808
  lo : -9223372036854775808 ≤ s.steps
  hi : s.steps < 9223372036854775808

/-- A chunk's cells. -/
def ckc (k : Chk) : List Value := k.now.map byt ++ (k.tru.map byt ++ [.bool k.is, .int .i64 k.worst])
theorem ckc_length {k : Chk} (h1 : k.now.length = 64) (h2 : k.tru.length = 64) : (ckc k).length = 130 := by simp [ckc, h1, h2]
/-- A block's cells. -/
def blc (b : Blo) : List Value := [.bool b.failed, .bool b.wf, .int .i64 b.ahead, .bool b.ef]
/-- The power's cells, and the steps'. -/
def pwc (s : Chp) : List Value := [.bool s.on, .bool s.lim, .int .i64 s.bud, .int .i64 s.steps]
/-- A chip's i-th cell. -/
def ccell (s : Chp) (i : Nat) : Value :=
  if i < 49920 then (ckc (s.ch (i / 130))).getD (i % 130) undef else
  if i < 49968 then (blc (s.bl ((i - 49920) / 4))).getD ((i - 49920) % 4) undef else
  if i < 49980 then .int .i64 (s.bl (i - 49968)).reads else (pwc s).getD (i - 49980) undef
/-- The chip with another chunk c. -/
def Chp.setCh (s : Chp) (c : Nat) (k : Chk) : Chp := { s with ch := fun j => if j = c then k else s.ch j }
/-- The chip with another block b. -/
def Chp.setBl (s : Chp) (b : Nat) (x : Blo) : Chp := { s with bl := fun j => if j = b then x else s.bl j }
/-- Block g holds the chip s. -/
def ChipAt (w : World) (g : Nat) (s : Chp) : Prop := Sto w g 73 49984 (ccell s)

theorem ccell_ch (s : Chp) (hs : s.Ok) (c : Nat) (hc : c < 384) : Seg (ccell s) (130 * c) (ckc (s.ch c)) := fun j v hv => by
  have hl := ckc_length (hs.ch c).now (hs.ch c).tru
  have hj : j < 130 := by have := (List.getElem?_eq_some_iff.1 hv).1; omega
  unfold ccell
  rw [if_pos (by omega), show (130 * c + j) / 130 = c from by omega, show (130 * c + j) % 130 = j from by omega, List.getD_eq_getElem?_getD, hv]; rfl
theorem ccell_bl (s : Chp) (b : Nat) (hb : b < 12) : Seg (ccell s) (49920 + 4 * b) (blc (s.bl b)) := fun j v hv => by
  have hj : j < 4 := by have := (List.getElem?_eq_some_iff.1 hv).1; simpa [blc] using this
  unfold ccell
  rw [if_neg (by omega), if_pos (by omega), show (49920 + 4 * b + j - 49920) / 4 = b from by omega, show (49920 + 4 * b + j - 49920) % 4 = j from by omega, List.getD_eq_getElem?_getD, hv]; rfl
theorem ccell_reads (s : Chp) (b : Nat) (hb : b < 12) : ccell s (49968 + b) = .int .i64 (s.bl b).reads := by
  unfold ccell
  rw [if_neg (by omega), if_neg (by omega), if_pos (by omega), show 49968 + b - 49968 = b from by omega]
theorem ccell_on (s : Chp) : ccell s 49980 = .bool s.on := rfl
theorem ccell_lim (s : Chp) : ccell s 49981 = .bool s.lim := rfl
theorem ccell_bud (s : Chp) : ccell s 49982 = .int .i64 s.bud := rfl
theorem ccell_steps (s : Chp) : ccell s 49983 = .int .i64 s.steps := rfl
theorem ccell_setCh (s : Chp) (c : Nat) (hc : c < 384) (k : Chk) (hk : (ckc k).length = 130) (i : Nat) : upL (ccell s) (130 * c) (ckc k) i = ccell (s.setCh c k) i := by
  unfold upL
  rw [hk]
  by_cases h : 130 * c ≤ i ∧ i < 130 * c + 130
  · rw [if_pos h]
    unfold ccell
    rw [if_pos (by omega), show i / 130 = c from by omega]
    simp only [Chp.setCh, if_pos]
    congr 1; omega
  · rw [if_neg h]
    unfold ccell
    by_cases h1 : i < 49920
    · rw [if_pos h1, if_pos h1]
      simp only [Chp.setCh]
      rw [if_neg (by omega)]
    · rw [if_neg h1, if_neg h1]; rfl
theorem ccell_setBl (s : Chp) (b : Nat) (hb : b < 12) (x : Blo) (hx : x.reads = (s.bl b).reads) (i : Nat) : upL (ccell s) (49920 + 4 * b) (blc x) i = ccell (s.setBl b x) i := by
  unfold upL
  rw [show (blc x).length = 4 from rfl]
  by_cases h : 49920 + 4 * b ≤ i ∧ i < 49920 + 4 * b + 4
  · rw [if_pos h]
    unfold ccell
    rw [if_neg (by omega), if_pos (by omega), show (i - 49920) / 4 = b from by omega]
    simp only [Chp.setBl, if_pos]
    rw [show (i - 49920) % 4 = i - (49920 + 4 * b) from by omega]
  · rw [if_neg h]
    unfold ccell
    by_cases h1 : i < 49920
    · rw [if_pos h1, if_pos h1]; rfl
    · rw [if_neg h1, if_neg h1]
      by_cases h2 : i < 49968
      · rw [if_pos h2, if_pos h2]
        simp only [Chp.setBl]
        rw [if_neg (by omega)]
      · rw [if_neg h2, if_neg h2]
        by_cases h3 : i < 49980
        · rw [if_pos h3, if_pos h3]
          simp only [Chp.setBl]
          by_cases h4 : i - 49968 = b
          · rw [if_pos h4, h4, hx]
          · rw [if_neg h4]
        · rw [if_neg h3, if_neg h3]; rfl
theorem ccell_setReads (s : Chp) (b : Nat) (hb : b < 12) (n : Int) (i : Nat) : upL (ccell s) (49968 + b) [.int .i64 n] i = ccell (s.setBl b { s.bl b with reads := n }) i := by
  rw [upL_one]
  by_cases h : i = 49968 + b
  · subst h
    rw [if_pos rfl, ccell_reads _ _ hb]
    simp [Chp.setBl]
  · rw [if_neg h]
    unfold ccell
    by_cases h1 : i < 49920
    · rw [if_pos h1, if_pos h1]; rfl
    · rw [if_neg h1, if_neg h1]
      by_cases h2 : i < 49968
      · rw [if_pos h2, if_pos h2]
        simp only [Chp.setBl]
        by_cases h4 : (i - 49920) / 4 = b
        · rw [if_pos h4, h4]; rfl
        · rw [if_neg h4]
      · rw [if_neg h2, if_neg h2]
        by_cases h3 : i < 49980
        · rw [if_pos h3, if_pos h3]
          simp only [Chp.setBl]
          rw [if_neg (by omega)]
        · rw [if_neg h3, if_neg h3]; rfl
theorem ccell_setPw (s : Chp) (on lim : Bool) (bud : Nat) (i : Nat) (hi : i < 49984) : upL (ccell s) 49980 [.bool on, .bool lim, .int .i64 bud] i = ccell { s with on := on, lim := lim, bud := bud } i := by
  unfold upL
  by_cases h : 49980 ≤ i ∧ i < 49983
  · rw [if_pos (by simpa using h)]
    rcases (by omega : i = 49980 ∨ i = 49981 ∨ i = 49982) with e | e | e <;> subst e <;> rfl
  · rw [if_neg (by simpa using h)]
    by_cases h1 : i < 49980
    · unfold ccell
      by_cases h2 : i < 49920
      · rw [if_pos h2, if_pos h2]
      · rw [if_neg h2, if_neg h2]
        by_cases h3 : i < 49968
        · rw [if_pos h3, if_pos h3]
        · rw [if_neg h3, if_neg h3, if_pos h1, if_pos h1]
    · have e : i = 49983 := by omega
      subst e; rfl
theorem ccell_setBud (s : Chp) (bud : Nat) (i : Nat) (hi : i < 49984) : upL (ccell s) 49982 [.int .i64 bud] i = ccell { s with bud := bud } i := by
  rw [upL_one, ← ccell_setPw s s.on s.lim bud i hi]
  unfold upL
  by_cases h : i = 49982
  · subst h; rfl
  · rw [if_neg h]
    by_cases h2 : 49980 ≤ i ∧ i < 49983
    · rw [if_pos (by simpa using h2)]
      rcases (by omega : i = 49980 ∨ i = 49981) with e | e <;> subst e <;> rfl
    · rw [if_neg (by simpa using h2)]
theorem ccell_setLim (s : Chp) (lim : Bool) (i : Nat) (hi : i < 49984) : upL (ccell s) 49981 [.bool lim] i = ccell { s with lim := lim } i := by
  rw [upL_one, ← ccell_setPw s s.on lim s.bud i hi]
  unfold upL
  by_cases h : i = 49981
  · subst h; rfl
  · rw [if_neg h]
    by_cases h2 : 49980 ≤ i ∧ i < 49983
    · rw [if_pos (by simpa using h2)]
      rcases (by omega : i = 49980 ∨ i = 49982) with e | e <;> subst e <;> rfl
    · rw [if_neg (by simpa using h2)]
theorem ccell_setSteps (s : Chp) (n : Int) (i : Nat) (hi : i < 49984) : upL (ccell s) 49983 [.int .i64 n] i = ccell { s with steps := n } i := by
  rw [upL_one]
  by_cases h : i = 49983
  · subst h; rfl
  · rw [if_neg h]
    unfold ccell
    by_cases h2 : i < 49920
    · rw [if_pos h2, if_pos h2]
    · rw [if_neg h2, if_neg h2]
      by_cases h3 : i < 49968
      · rw [if_pos h3, if_pos h3]
      · rw [if_neg h3, if_neg h3]
        by_cases h4 : i < 49980
        · rw [if_pos h4, if_pos h4]
        · rw [if_neg h4, if_neg h4]
          rcases (by omega : i = 49980 ∨ i = 49981 ∨ i = 49982) with e | e | e <;> subst e <;> rfl
theorem ChipAt.lt {w : World} {g : Nat} {s : Chp} (h : ChipAt w g s) : g < w.heap.size := Sto.lt h
theorem ChipAt.drew {w : World} {g : Nat} {s : Chp} (h : ChipAt w g s) : ChipAt w.drew g s := h
theorem ChipAt.chg {S : Nat → Prop} {w w' : World} {g : Nat} {s : Chp} (h : ChipAt w g s) (hc : Chg S w w') (hg : ¬ S g) : ChipAt w' g s := Sto.chg h hc hg
theorem ChipAt.other {w w' : World} {g : Nat} {s : Chp} (h : ChipAt w g s) (e : w'.heap[g]? = w.heap[g]?) : ChipAt w' g s := Sto.other h e
theorem Chp.Ok.setCh {s : Chp} (h : s.Ok) (c : Nat) {k : Chk} (hk : k.Ok) : (s.setCh c k).Ok :=
  ⟨fun j => by
    show (if j = c then k else s.ch j).Ok
    by_cases e : j = c
    · rw [if_pos e]; exact hk
    · rw [if_neg e]; exact h.ch j, h.bl, h.bud, h.lo, h.hi⟩
theorem Chp.Ok.setBl {s : Chp} (h : s.Ok) (b : Nat) {x : Blo} (hx : x.Ok) : (s.setBl b x).Ok :=
  ⟨h.ch, fun j => by
    show (if j = b then x else s.bl j).Ok
    by_cases e : j = b
    · rw [if_pos e]; exact hx
    · rw [if_neg e]; exact h.bl j, h.bud, h.lo, h.hi⟩
end Go.Proofs.Ytfjgnplplafniaa
