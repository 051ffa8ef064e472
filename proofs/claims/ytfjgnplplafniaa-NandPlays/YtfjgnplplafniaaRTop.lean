/-
  The document's chip: what there is, its power, its steps, what is to fail. Condition: the block holds the document's chip.
-/
import Derived.Test.YtfjgnplplafniaaRMem
namespace Go.Proofs.Ytfjgnplplafniaa
open Go.RowKit
set_option maxRecDepth 100000

theorem isPage_yes (n : Int) (h0 : 0 ≤ n) (h1 : n < 96) (w : World) : Calls Try.prog 58 #[.int .i64 n] w fun e w' => e = .returned (.bool true) ∧ w' = w := by
  go_enter Try.func58, Try.ntmps58
  go_wp2
  go_ret
  exact ⟨rfl, rfl⟩
theorem isPage_no (n : Int) (h : n < 0 ∨ 96 ≤ n) (w : World) : Calls Try.prog 58 #[.int .i64 n] w fun e w' => e = .returned (.bool false) ∧ w' = w := by
  by_cases h0 : n < 0
  · have h1 : ¬ 0 ≤ n := by omega
    go_enter Try.func58, Try.ntmps58
    go_wp2
    go_ret
    exact ⟨rfl, rfl⟩
  · have h1 : 0 ≤ n := by omega
    have h2 : ¬ n < 96 := by omega
    go_enter Try.func58, Try.ntmps58
    go_wp2
    go_ret
    exact ⟨rfl, rfl⟩
theorem isBlock_yes (n : Int) (h0 : 0 ≤ n) (h1 : n < 12) (w : World) : Calls Try.prog 63 #[.int .i64 n] w fun e w' => e = .returned (.bool true) ∧ w' = w := by
  go_enter Try.func63, Try.ntmps63
  go_wp2
  go_ret
  exact ⟨rfl, rfl⟩
theorem isBlock_no (n : Int) (h : n < 0 ∨ 12 ≤ n) (w : World) : Calls Try.prog 63 #[.int .i64 n] w fun e w' => e = .returned (.bool false) ∧ w' = w := by
  by_cases h0 : n < 0
  · have h1 : ¬ 0 ≤ n := by omega
    go_enter Try.func63, Try.ntmps63
    go_wp2
    go_ret
    exact ⟨rfl, rfl⟩
  · have h1 : 0 ≤ n := by omega
    have h2 : ¬ n < 12 := by omega
    go_enter Try.func63, Try.ntmps63
    go_wp2
    go_ret
    exact ⟨rfl, rfl⟩

theorem RAt.cB {w : World} {r : Nat} {s : Chp} {F : Nat → Prop} {p : Plc} (h : RAt w r s F p) : w.cell? ⟨r, 0, none⟩ = some (.slice (some ⟨p.gB, 0, none⟩) 12 p.cB) := h.top.cell 0 (by omega)
theorem RAt.cOn {w : World} {r : Nat} {s : Chp} {F : Nat → Prop} {p : Plc} (h : RAt w r s F p) : w.cell? ⟨r, 1, none⟩ = some (.bool s.on) := h.top.cell 1 (by omega)
theorem RAt.cBu {w : World} {r : Nat} {s : Chp} {F : Nat → Prop} {p : Plc} (h : RAt w r s F p) : w.cell? ⟨r, 2, none⟩ = some (.int .i64 p.bu) := h.top.cell 2 (by omega)
theorem RAt.cSt {w : World} {r : Nat} {s : Chp} {F : Nat → Prop} {p : Plc} (h : RAt w r s F p) : w.cell? ⟨r, 3, none⟩ = some (.int .i64 s.steps) := h.top.cell 3 (by omega)
theorem RAt.bl0 {w : World} {r : Nat} {s : Chp} {F : Nat → Prop} {p : Plc} (h : RAt w r s F p) (b : Nat) (hb : b < 12) (j : Nat) (hj : j < 5) : w.cell? ⟨p.gB, b * 5 + j, none⟩ = some ((rbl p s b).getD j undef) := by
  rw [show b * 5 + j = 5 * b + j from by omega, h.bl.cell _ (by omega), fam_at 5 (by omega) _ _ _ hj]
theorem RAt.rb {w : World} {r : Nat} {s : Chp} {F : Nat → Prop} {p : Plc} (h : RAt w r s F p) : r ≠ p.gB := h.top.ne h.bl (by decide)
theorem RAt.rl {w : World} {r : Nat} {s : Chp} {F : Nat → Prop} {p : Plc} (h : RAt w r s F p) (b : Nat) (hb : b < 12) (k : Nat) (hk : InL 32 (p.gL b) (p.pc b) k) : k ≠ r := by
  rcases (h.lst b hb).type hk with ⟨n, f, h1⟩ | ⟨n, f, h1⟩
  · exact h1.ne h.top (by decide)
  · exact h1.ne h.top (by decide)
theorem RAt.bL {w : World} {r : Nat} {s : Chp} {F : Nat → Prop} {p : Plc} (h : RAt w r s F p) (b : Nat) (hb : b < 12) (k : Nat) (hk : InL 32 (p.gL b) (p.pc b) k) : k ≠ p.gB := by
  rcases (h.lst b hb).type hk with ⟨n, f, h1⟩ | ⟨n, f, h1⟩
  · exact h1.ne h.bl (by decide)
  · exact h1.ne h.bl (by decide)
/-- Another head. -/
theorem RAt.setTop {w w' : World} {r : Nat} {s : Chp} {F : Nat → Prop} {p : Plc} (h : RAt w r s F p) (on lim : Bool) (bud : Nat) (steps bu : Int)
    (hrel : Rel { p with bu := bu } { s with on := on, lim := lim, bud := bud, steps := steps }) (ht : Row w' r 77 4 (fun i => (rtop { p with bu := bu } { s with on := on, lim := lim, bud := bud, steps := steps }).getD i undef)) (hc : Chg (· = r) w w') :
    RAt w' r { s with on := on, lim := lim, bud := bud, steps := steps } F { p with bu := bu } :=
  ⟨ht, h.bl.chg hc (fun e => h.rb e.symm), fun b hb => (h.lst b hb).chg hc (fun k hk => h.rl b hb k hk), hrel, h.fr, h.fb, h.fl, h.dis⟩
/-- One cell of the head is another. -/
theorem top_set {w : World} {r : Nat} {s s' : Chp} {p p' : Plc} (h : Row w r 77 4 (fun i => (rtop p s).getD i undef)) (j : Nat) (v : Value) (e : (rtop p s).set j v = rtop p' s') (hj : j < 4) : Row (w.setCell ⟨r, j, none⟩ v) r 77 4 (fun i => (rtop p' s').getD i undef) := by
  refine (h.setCell j v).ext fun i hi => ?_
  rw [upL_one, ← e]
  by_cases h1 : i = j
  · subst h1
    rw [if_pos rfl, List.getD_eq_getElem?_getD, List.getElem?_set_self (by simp [rtop]; exact hj)]; rfl
  · rw [if_neg h1, List.getD_eq_getElem?_getD, List.getD_eq_getElem?_getD, List.getElem?_set_ne (by omega)]
/-- Another block b. -/
theorem RAt.setBlk {w w' : World} {r : Nat} {s : Chp} {F : Nat → Prop} {p : Plc} (h : RAt w r s F p) (b : Nat) (x : Blo) (y : Int)
    (hrel : Rel { p with wh := fun j => if j = b then y else p.wh j } (s.setBl b x)) (ht : Row w' p.gB 81 60 (famF 5 (rbl { p with wh := fun j => if j = b then y else p.wh j } (s.setBl b x)))) (hc : Chg (· = p.gB) w w') :
    RAt w' r (s.setBl b x) F { p with wh := fun j => if j = b then y else p.wh j } :=
  ⟨h.top.chg hc h.rb, ht, fun c hb => (h.lst c hb).chg hc (fun k hk => h.bL c hb k hk), hrel, h.fr, h.fb, h.fl, h.dis⟩
theorem rbl_other (p : Plc) (s : Chp) (b : Nat) (x : Blo) (y : Int) (c : Nat) (hc : c ≠ b) : rbl { p with wh := fun j => if j = b then y else p.wh j } (s.setBl b x) c = rbl p s c := by
  simp only [rbl, Chp.setBl, if_neg hc]
theorem rbl_same (p : Plc) (s : Chp) (b : Nat) (x : Blo) (y : Int) : rbl { p with wh := fun j => if j = b then y else p.wh j } (s.setBl b x) b = [.slice (some ⟨p.gL b, 0, none⟩) 32 (p.cL b), .int .i64 x.reads, .bool x.failed, .int .i64 y, .bool x.ef] := by
  simp only [rbl, Chp.setBl, if_pos]
/-- One cell of block b is another. -/
theorem bl_set {w : World} {s : Chp} {p : Plc} (h : Row w p.gB 81 60 (famF 5 (rbl p s))) (b : Nat) (x : Blo) (y : Int) (j : Nat) (v : Value) (hj : j < 5)
    (e : (rbl p s b).set j v = [.slice (some ⟨p.gL b, 0, none⟩) 32 (p.cL b), .int .i64 x.reads, .bool x.failed, .int .i64 y, .bool x.ef]) :
    Row (w.setCell ⟨p.gB, b * 5 + j, none⟩ v) p.gB 81 60 (famF 5 (rbl { p with wh := fun j => if j = b then y else p.wh j } (s.setBl b x))) := by
  rw [show b * 5 + j = 5 * b + j from by omega]
  exact (h.setCell (5 * b + j) v).ext fun i _ => fam_set 5 (by omega) _ _ b j hj v (fun c hc => rbl_other p s b x y c hc) (by rw [rbl_same]; exact e) rfl i
theorem Rel.setBl {p : Plc} {s : Chp} (h : Rel p s) (b : Nat) (x : Blo) (y : Int) (h1 : x.failed = false → y = if x.wf then (x.ahead : Int) else -1) (h2 : -1 ≤ y) (h3 : y < 9223372036854775808) : Rel { p with wh := fun j => if j = b then y else p.wh j } (s.setBl b x) := by
  refine ⟨h.bu, h.buLo, h.buHi, fun c hc => ?_, fun c => ?_, fun c => ?_⟩
  · by_cases e : c = b
    · subst e
      rw [setBl_bl] at hc ⊢
      show (if c = c then y else p.wh c) = _
      rw [if_pos rfl]; exact h1 hc
    · have e1 : (s.setBl b x).bl c = s.bl c := by simp only [Chp.setBl, if_neg e]
      rw [e1] at hc ⊢
      show (if c = b then y else p.wh c) = _
      rw [if_neg e]; exact h.wh c hc
  · show -1 ≤ (if c = b then y else p.wh c)
    split
    · exact h2
    · exact h.whLo c
  · show (if c = b then y else p.wh c) < _
    split
    · exact h3
    · exact h.whHi c
theorem rchunk_any (r : Nat) (s : Chp) (F : Nat → Prop) (p : Plc) (a k : Nat) (ha : a < 96) (hk : k < 4) (w : World) (h : RAt w r s F p) :
    Calls Try.prog 61 #[.pointer (some ⟨r, 0, none⟩), .int .i64 a, .int .i64 k] w fun e w' => e = .returned (.pointer (some ⟨p.gL (a / 8), 4 * (a % 8 * 4 + k), none⟩)) ∧ w' = w := by
  have c1 := h.cB
  have c2 := h.bl0 (a / 8) (by omega) 0 (by omega)
  have c3 : w.cell? ⟨p.gB, a / 8 * 5, none⟩ = some (.slice (some ⟨p.gL (a / 8), 0, none⟩) 32 (p.cL (a / 8))) := c2
  clear c2
  have q0 : (0 : Int) ≤ (a : Int) / 8 := by omega
  have q1 : (a : Int) / 8 < 12 := by omega
  have q2 : (0 : Int) ≤ (a : Int) % 8 * 4 + k := by omega
  have q3 : (a : Int) % 8 * 4 + k < 32 := by omega
  go_enter Try.func61, Try.ntmps61
  go_wp2
  go_ret
  rw [show (a % 8 * 4 + k) * 4 = 4 * (a % 8 * 4 + k) from by omega]
  exact ⟨rfl, rfl⟩
end Go.Proofs.Ytfjgnplplafniaa
