/-
  (*Frame).Body. Condition: the block holds a Frame that New gave; the page's bytes can be read.
-/
import Derived.Test.YtdofegphipbcdaaData
import Derived.Test.YtdofegphipbcdaaSeal
namespace Go.Proofs.Ytdofegphipbcdaa
open Go.RowKit Go.Shelf
set_option maxRecDepth 100000

theorem eql_mark_mark (w : World) : (binOp .eql 30 (.iface 36 (.int .i64 6)) (.iface 36 (.int .i64 6))).run Try.prog w = .ok (.bool true) w := by kernel_rfl
theorem eql_mark_nil (w : World) : (binOp .eql 30 (.iface 36 (.int .i64 6)) .nilIface).run Try.prog w = .ok (.bool false) w := by kernel_rfl
theorem eql_mark_dec (w : World) : (binOp .eql 30 (.iface 36 (.int .i64 6)) (.iface 36 (.int .i64 5))).run Try.prog w = .ok (.bool false) w := by kernel_rfl
theorem neq_mark_nil (w : World) : (binOp .neq 30 (.iface 36 (.int .i64 6)) .nilIface).run Try.prog w = .ok (.bool true) w := by kernel_rfl
theorem neq_mark_dec (w : World) : (binOp .neq 30 (.iface 36 (.int .i64 6)) (.iface 36 (.int .i64 5))).run Try.prog w = .ok (.bool true) w := by kernel_rfl

set_option maxHeartbeats 1000000 in
theorem body_arg (p : Nat) (w : World) (a : Option Addr) (n cap : Nat) (hn : n ≠ 256) :
    Calls Try.prog 19 #[.pointer (some ⟨p, 0, none⟩), .slice a n cap] w fun e w' => e = .returned (.tuple #[.slice none 0 0, .int .i64 0, .iface 36 (.int .i64 1)]) ∧ Chg (fun _ => False) w w' := by
  have q1 := neq_arg_nil
  go_enter Try.func19, Try.ntmps19
  go_wp2_with fail
  refine (message_arg p w a n cap 3 hn).mono ?_
  rintro e w1 ⟨rfl, G1⟩
  go_wp2
  go_ret3
  exact ⟨rfl, G1⟩

/-- What Body answers of the page L. -/
def BodyAns (w w' : World) (L : List Nat) (e : Ending) : Prop :=
  (IsDec (part 64 L 3) none ∧ e = .returned (.tuple #[.slice none 0 0, .int .i64 0, .iface 36 (.int .i64 5)])) ∨
  (∃ r : List Nat × Nat, Good L 3 r ∧ r.1.drop 50 ≠ mk ∧ e = .returned (.tuple #[.slice none 0 0, .int .i64 0, .iface 36 (.int .i64 6)])) ∨
  (∃ (r : List Nat × Nat) (g : Nat), Good L 3 r ∧ r.1.drop 50 = mk ∧ e = .returned (.tuple #[.slice (some ⟨g, 0, none⟩) 50 50, .int .i64 (r.2 : Int), .nilIface]) ∧ w.heap.size ≤ g ∧ Arr w' g 5 r.1)

set_option maxHeartbeats 2000000 in
theorem body_any (p q b : Nat) (w : World) (h : Frm w p q b) (c o cap : Nat) (L : List Nat) (hL : L.length = 256) (bL : Bys L) (hcb : c ≠ b) (hcs : c < w.heap.size) (hcap : 256 ≤ cap)
    (hcell : ∀ i, i < 256 → w.cell? ⟨c, o + i, none⟩ = some (.int .u8 (L.getD i 0 : Nat))) :
    Calls Try.prog 19 #[.pointer (some ⟨p, 0, none⟩), .slice (some ⟨c, o, none⟩) 256 cap] w fun e w' => BodyAns w w' L e ∧ Frm w' p q b ∧ But b w w' := by
  have HM := hyd (message_any p q b w h c o cap L hL bL hcb hcs hcap hcell 3)
  clear hcell
  have q1 := neq_dec_nil
  have q2 := neq_nil_nil
  have q3 := neq_mark_nil
  go_enter Try.func19, Try.ntmps19
  go_wp2_with fail
  refine HM.out.mono ?_
  rintro e w1 ⟨hD, F1, B1⟩
  clear HM
  have hs1 := B1.size
  rcases hD with ⟨i, hi, e3, hD⟩ | ⟨hD, -⟩
  · have : i = 3 := by omega
    subst this
    rcases hD with ⟨hN, rfl⟩ | ⟨m, d, g, h1, h2, h3, h4, rfl, h6, h7⟩
    · go_wp2
      go_ret3
      exact ⟨Or.inl ⟨hN, rfl⟩, F1, B1⟩
    · have hgood : Good L 3 (m, d) := ⟨h1, h3, h4, h2⟩
      by_cases hm : m.drop 50 = mk
      · have HO := hyd (open_mark w1 g 0 58 (by omega) m h3 h4 h7.lt h7.at0 hm)
        go_wp2_with fail
        refine HO.out.mono ?_
        rintro e w2 ⟨g2, rfl, hg2, A2, G2⟩
        go_wp2
        go_ret3
        exact ⟨Or.inr (Or.inr ⟨(m, d), g2, hgood, hm, rfl, by omega, A2⟩), F1.chg G2, B1.trans G2.but⟩
      · have HO := hyd (open_none w1 g 0 58 (by omega) m h3 h4 h7.at0 hm)
        go_wp2_with fail
        refine HO.out.mono ?_
        rintro e w2 ⟨rfl, rfl⟩
        go_wp2
        go_ret3
        exact ⟨Or.inr (Or.inl ⟨(m, d), hgood, hm, rfl⟩), F1, B1⟩
  · omega
end Go.Proofs.Ytdofegphipbcdaa
