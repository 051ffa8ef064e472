/-
  (*Two).step answers true, and both chips stand alike behind it. Conditions: they stood alike; the operation's bytes came in.
-/
import Derived.Test.YtfjgnplplafniaaStepRead
import Derived.Test.YtfjgnplplafniaaStepWrite
import Derived.Test.YtfjgnplplafniaaStepHarm
import Derived.Test.YtfjgnplplafniaaStepRest
namespace Go.Proofs.Ytfjgnplplafniaa
open Go.RowKit
set_option maxRecDepth 100000

theorem stepOp (B : Prop) (w0 : World) (t : Nat) (σ : Sta) (K A Bb : Int) (ad : Option Addr) (cap : Nat) (l : List Nat) (w : World) (h : Pst B w0 w t σ) (hx : σ.xc = σ.sc) (hn : σ.nw = σ.nt) (hb : σ.nt ≤ 5864062014000)
    (hK1 : -9223372036854775808 ≤ K) (hK2 : K ≤ 9223372036854775807) (hA : A ≤ 9223372036854775807) (hBb : Bb ≤ 9223372036854775807) (hno : ad = none → l.length = 0 ∧ cap = 0) (hH : Held w (.slice ad l.length cap) l) (hBy : Bys l) (hl : l.length ≤ 140737488351232) (hd : ∀ k, l.length ≠ 0 ∧ (Value.slice ad l.length cap).ownBlock = some k → σ.col k = 8) :
    Calls Try.prog 8 #[.pointer (some ⟨t, 0, none⟩), .agg #[.int .i64 K, .int .i64 A, .int .i64 Bb, .slice ad l.length cap]] w fun e w' => e = .returned (.bool true) ∧ ∃ σ', Alike B w0 w' t σ σ' := by
  have hlt := pkV_lt K
  rcases (by omega : pkV K = 0 ∨ pkV K = 1 ∨ pkV K = 2 ∨ pkV K = 3 ∨ pkV K = 4 ∨ pkV K = 5 ∨ pkV K = 6 ∨ pkV K = 7 ∨ pkV K = 8 ∨ pkV K = 9 ∨ pkV K = 10) with e | e | e | e | e | e | e | e | e | e | e
  · exact step_read B w0 t σ K A Bb ad cap l w h hx hn hb hK1 hK2 hA hBb hno hH hBy hl hd e
  · exact step_write B w0 t σ K A Bb ad cap l w h hx hn hb hK1 hK2 hA hBb hno hH hBy hl hd e
  · exact step_erase B w0 t σ K A Bb ad cap l w h hx hn hb hK1 hK2 hA hBb hno hH hBy hl hd e
  · exact step_flip B w0 t σ K A Bb ad cap l w h hx hn hb hK1 hK2 hA hBb hno hH hBy hl hd e
  · exact step_failP B w0 t σ K A Bb ad cap l w h hx hn hb hK1 hK2 hA hBb hno hH hBy hl hd e
  · exact step_failE B w0 t σ K A Bb ad cap l w h hx hn hb hK1 hK2 hA hBb hno hH hBy hl hd e
  · exact step_cut_ B w0 t σ K A Bb ad cap l w h hx hn hb hK1 hK2 hA hBb hno hH hBy hl hd e
  · exact step_power B w0 t σ K A Bb ad cap l w h hx hn hb hK1 hK2 hA hBb hno hH hBy hl hd e
  · exact step_knows B w0 t σ K A Bb ad cap l w h hx hn hb hK1 hK2 hA hBb hno hH hBy hl hd e
  · exact step_clone B w0 t σ K A Bb ad cap l w h hx hn hb hK1 hK2 hA hBb hno hH hBy hl hd e
  · exact step_swap B w0 t σ K A Bb ad cap l w h hx hn hb hK1 hK2 hA hBb hno hH hBy hl hd e
end Go.Proofs.Ytfjgnplplafniaa
