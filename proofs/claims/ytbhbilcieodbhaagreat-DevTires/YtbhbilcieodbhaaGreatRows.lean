/-
  No cell of these rows narrows 'for every input' (looked for: loops, veiled, ifaces, maps, wideKeys, modest, calm, conditions, laid).
  DERIVED. THE GIVEN ROWS OF THIS SEAT. 6 by the template 'for every input the law returns true; each argument reads behind the call as it read before'; 0 by the template 'total and deterministic' (their statements: YtbhbilcieodbhaaGreatTotals.lean).
  GIVEN WITH THE SEED: the statements are not yours to turn. If you find one false, say at which input.
  Laid BY PROGRAM, IN A SANDBOX (cutbox-rows.mjs): the forced cells as the released guide's own fill.sh prints them over the translation 52d721ca561610b4… (all of the seat's roots in one cut). By AI agents, Wed Nov 11 2026. No macro, syntax, notation, axiom, sorry.
-/
import Derived.Test.YtbhbilcieodbhaaGreatChecked
import GoSem.Claim
import GoSem.ClaimJoined
import GoSem.ClaimMapViews
import Derived.JoinedTies
import Derived.KernelRfl
namespace Go.Proofs.YtbhbilcieodbhaaGreat
/- THE CELL 'sum', in the pinned program and in every row, IS THE sha256 OF THE DUMP (.gsa) THAT YtbhbilcieodbhaaGreatProg.lean LOADS. Nothing in Lean hashes anything: it is a label: what it is worth is what the hold of that sum in a sandbox is worth. -/
noncomputable def Tryz.pinned : Pinned := { name := "ytbhbilcieodbhaagreat", sum := "52d721ca561610b4085bc3449de93f6cb75992e4519d573bf31695023bd1a0f3", checked := Tryz.checked }
namespace Rows
def none {H : Type} : Left H := { results := [], args := [] }

/-- 'patinalaw19.DevPatrols': WHATEVER THE INPUT: true; the input reads as it did. -/
def devPatrolsSpec : ChangeSpec := { name := "devPatrols", fn := fun _ => fun
  | [d1, d2, d3, d4, d5] => { results := [.lit (.bool true)], args := [d1, d2, d3, d4, d5] }
  | _ => none }
def devPatrolsRow : OpenClaim := { program := "ytbhbilcieodbhaagreat", sum := "52d721ca561610b4085bc3449de93f6cb75992e4519d573bf31695023bd1a0f3", func := "patina/patinalaw19.DevPatrols", spec := "devPatrols", inPlace := ["sync/atomic.StoreInt64", "sync/atomic.LoadUint32", "(*internal/sync.Mutex).Lock", "internal/race.Disable", "sync/atomic.CompareAndSwapInt32", "internal/race.Enable", "internal/race.Acquire", "(*internal/sync.Mutex).lockSlow", "internal/sync.runtime_canSpin", "internal/sync.runtime_doSpin", "internal/sync.throw", "internal/sync.runtime_nanotime", "internal/sync.runtime_SemacquireMutex", "sync/atomic.AddInt32", "(*internal/sync.Mutex).Unlock", "internal/race.ReleaseMerge", "(*internal/sync.Mutex).unlockSlow", "internal/sync.fatal", "internal/sync.runtime_Semrelease", "sync/atomic.StoreUint32", "sync/atomic.AddInt64", "internal/reflectlite.TypeOf", "sync/atomic.LoadInt64"], unfollowed := true, recurses := true, apart := false }
def DevPatrolsSaid : Prop := devPatrolsRow.holds Tryz.pinned (OpenSpec.ofChange devPatrolsSpec)

/-- ITS FALSE NEIGHBOUR: 'it returns false'. Refute it at one input. -/
def devPatrolsWrong : ChangeSpec := { name := "devPatrols", fn := fun _ => fun
  | [d1, d2, d3, d4, d5] => { results := [.lit (.bool false)], args := [d1, d2, d3, d4, d5] }
  | _ => none }
def DevPatrolsWrongFalsely : Prop := devPatrolsRow.holds Tryz.pinned (OpenSpec.ofChange devPatrolsWrong)

/-- 'patinalaw19.DevTires': WHATEVER THE INPUT: true; the input reads as it did. -/
def devTiresSpec : ChangeSpec := { name := "devTires", fn := fun _ => fun
  | [d1, d2] => { results := [.lit (.bool true)], args := [d1, d2] }
  | _ => none }
def devTiresRow : OpenClaim := { program := "ytbhbilcieodbhaagreat", sum := "52d721ca561610b4085bc3449de93f6cb75992e4519d573bf31695023bd1a0f3", func := "patina/patinalaw19.DevTires", spec := "devTires", inPlace := ["sync/atomic.StoreInt64", "sync/atomic.LoadUint32", "(*internal/sync.Mutex).Lock", "internal/race.Disable", "sync/atomic.CompareAndSwapInt32", "internal/race.Enable", "internal/race.Acquire", "(*internal/sync.Mutex).lockSlow", "internal/sync.runtime_canSpin", "internal/sync.runtime_doSpin", "internal/sync.throw", "internal/sync.runtime_nanotime", "internal/sync.runtime_SemacquireMutex", "sync/atomic.AddInt32", "(*internal/sync.Mutex).Unlock", "internal/race.ReleaseMerge", "(*internal/sync.Mutex).unlockSlow", "internal/sync.fatal", "internal/sync.runtime_Semrelease", "sync/atomic.StoreUint32", "sync/atomic.AddInt64", "internal/reflectlite.TypeOf", "sync/atomic.LoadInt64"], unfollowed := true, recurses := true, apart := false }
def DevTiresSaid : Prop := devTiresRow.holds Tryz.pinned (OpenSpec.ofChange devTiresSpec)

/-- ITS FALSE NEIGHBOUR: 'it returns false'. Refute it at one input. -/
def devTiresWrong : ChangeSpec := { name := "devTires", fn := fun _ => fun
  | [d1, d2] => { results := [.lit (.bool false)], args := [d1, d2] }
  | _ => none }
def DevTiresWrongFalsely : Prop := devTiresRow.holds Tryz.pinned (OpenSpec.ofChange devTiresWrong)

/-- 'patinalaw19.DevRefuses': WHATEVER THE INPUT: true; the input reads as it did. -/
def devRefusesSpec : ChangeSpec := { name := "devRefuses", fn := fun _ => fun
  | [d1, d2] => { results := [.lit (.bool true)], args := [d1, d2] }
  | _ => none }
def devRefusesRow : OpenClaim := { program := "ytbhbilcieodbhaagreat", sum := "52d721ca561610b4085bc3449de93f6cb75992e4519d573bf31695023bd1a0f3", func := "patina/patinalaw19.DevRefuses", spec := "devRefuses", inPlace := ["sync/atomic.StoreInt64", "sync/atomic.LoadUint32", "(*internal/sync.Mutex).Lock", "internal/race.Disable", "sync/atomic.CompareAndSwapInt32", "internal/race.Enable", "internal/race.Acquire", "(*internal/sync.Mutex).lockSlow", "internal/sync.runtime_canSpin", "internal/sync.runtime_doSpin", "internal/sync.throw", "internal/sync.runtime_nanotime", "internal/sync.runtime_SemacquireMutex", "sync/atomic.AddInt32", "(*internal/sync.Mutex).Unlock", "internal/race.ReleaseMerge", "(*internal/sync.Mutex).unlockSlow", "internal/sync.fatal", "internal/sync.runtime_Semrelease", "sync/atomic.StoreUint32", "sync/atomic.AddInt64", "internal/reflectlite.TypeOf", "sync/atomic.LoadInt64"], unfollowed := true, recurses := true, apart := false }
def DevRefusesSaid : Prop := devRefusesRow.holds Tryz.pinned (OpenSpec.ofChange devRefusesSpec)

/-- ITS FALSE NEIGHBOUR: 'it returns false'. Refute it at one input. -/
def devRefusesWrong : ChangeSpec := { name := "devRefuses", fn := fun _ => fun
  | [d1, d2] => { results := [.lit (.bool false)], args := [d1, d2] }
  | _ => none }
def DevRefusesWrongFalsely : Prop := devRefusesRow.holds Tryz.pinned (OpenSpec.ofChange devRefusesWrong)

/-- 'patinatop.TopHidden': WHATEVER THE INPUT: true; the input reads as it did. -/
def topHiddenSpec : ChangeSpec := { name := "topHidden", fn := fun _ => fun
  | [d1, d2] => { results := [.lit (.bool true)], args := [d1, d2] }
  | _ => none }
def topHiddenRow : OpenClaim := { program := "ytbhbilcieodbhaagreat", sum := "52d721ca561610b4085bc3449de93f6cb75992e4519d573bf31695023bd1a0f3", func := "patina/patinatop.TopHidden", spec := "topHidden", inPlace := ["sync/atomic.StoreInt64", "sync/atomic.LoadUint32", "(*internal/sync.Mutex).Lock", "internal/race.Disable", "sync/atomic.CompareAndSwapInt32", "internal/race.Enable", "internal/race.Acquire", "(*internal/sync.Mutex).lockSlow", "internal/sync.runtime_canSpin", "internal/sync.runtime_doSpin", "internal/sync.throw", "internal/sync.runtime_nanotime", "internal/sync.runtime_SemacquireMutex", "sync/atomic.AddInt32", "(*internal/sync.Mutex).Unlock", "internal/race.ReleaseMerge", "(*internal/sync.Mutex).unlockSlow", "internal/sync.fatal", "internal/sync.runtime_Semrelease", "sync/atomic.StoreUint32", "sync/atomic.AddInt64", "internal/reflectlite.TypeOf", "sync/atomic.LoadInt64"], unfollowed := true, recurses := true, apart := false }
def TopHiddenSaid : Prop := topHiddenRow.holds Tryz.pinned (OpenSpec.ofChange topHiddenSpec)

/-- ITS FALSE NEIGHBOUR: 'it returns false'. Refute it at one input. -/
def topHiddenWrong : ChangeSpec := { name := "topHidden", fn := fun _ => fun
  | [d1, d2] => { results := [.lit (.bool false)], args := [d1, d2] }
  | _ => none }
def TopHiddenWrongFalsely : Prop := topHiddenRow.holds Tryz.pinned (OpenSpec.ofChange topHiddenWrong)

/-- 'patinatop.TopOneEach': WHATEVER THE INPUT: true; the input reads as it did. -/
def topOneEachSpec : ChangeSpec := { name := "topOneEach", fn := fun _ => fun
  | [d1, d2] => { results := [.lit (.bool true)], args := [d1, d2] }
  | _ => none }
def topOneEachRow : OpenClaim := { program := "ytbhbilcieodbhaagreat", sum := "52d721ca561610b4085bc3449de93f6cb75992e4519d573bf31695023bd1a0f3", func := "patina/patinatop.TopOneEach", spec := "topOneEach", inPlace := ["sync/atomic.StoreInt64", "sync/atomic.LoadUint32", "(*internal/sync.Mutex).Lock", "internal/race.Disable", "sync/atomic.CompareAndSwapInt32", "internal/race.Enable", "internal/race.Acquire", "(*internal/sync.Mutex).lockSlow", "internal/sync.runtime_canSpin", "internal/sync.runtime_doSpin", "internal/sync.throw", "internal/sync.runtime_nanotime", "internal/sync.runtime_SemacquireMutex", "sync/atomic.AddInt32", "(*internal/sync.Mutex).Unlock", "internal/race.ReleaseMerge", "(*internal/sync.Mutex).unlockSlow", "internal/sync.fatal", "internal/sync.runtime_Semrelease", "sync/atomic.StoreUint32", "sync/atomic.AddInt64", "internal/reflectlite.TypeOf", "sync/atomic.LoadInt64"], unfollowed := true, recurses := true, apart := false }
def TopOneEachSaid : Prop := topOneEachRow.holds Tryz.pinned (OpenSpec.ofChange topOneEachSpec)

/-- ITS FALSE NEIGHBOUR: 'it returns false'. Refute it at one input. -/
def topOneEachWrong : ChangeSpec := { name := "topOneEach", fn := fun _ => fun
  | [d1, d2] => { results := [.lit (.bool false)], args := [d1, d2] }
  | _ => none }
def TopOneEachWrongFalsely : Prop := topOneEachRow.holds Tryz.pinned (OpenSpec.ofChange topOneEachWrong)

/-- 'patinatop.TopTwoEach': WHATEVER THE INPUT: true; the input reads as it did. -/
def topTwoEachSpec : ChangeSpec := { name := "topTwoEach", fn := fun _ => fun
  | [d1, d2] => { results := [.lit (.bool true)], args := [d1, d2] }
  | _ => none }
def topTwoEachRow : OpenClaim := { program := "ytbhbilcieodbhaagreat", sum := "52d721ca561610b4085bc3449de93f6cb75992e4519d573bf31695023bd1a0f3", func := "patina/patinatop.TopTwoEach", spec := "topTwoEach", inPlace := ["sync/atomic.StoreInt64", "sync/atomic.LoadUint32", "(*internal/sync.Mutex).Lock", "internal/race.Disable", "sync/atomic.CompareAndSwapInt32", "internal/race.Enable", "internal/race.Acquire", "(*internal/sync.Mutex).lockSlow", "internal/sync.runtime_canSpin", "internal/sync.runtime_doSpin", "internal/sync.throw", "internal/sync.runtime_nanotime", "internal/sync.runtime_SemacquireMutex", "sync/atomic.AddInt32", "(*internal/sync.Mutex).Unlock", "internal/race.ReleaseMerge", "(*internal/sync.Mutex).unlockSlow", "internal/sync.fatal", "internal/sync.runtime_Semrelease", "sync/atomic.StoreUint32", "sync/atomic.AddInt64", "internal/reflectlite.TypeOf", "sync/atomic.LoadInt64"], unfollowed := true, recurses := true, apart := false }
def TopTwoEachSaid : Prop := topTwoEachRow.holds Tryz.pinned (OpenSpec.ofChange topTwoEachSpec)

/-- ITS FALSE NEIGHBOUR: 'it returns false'. Refute it at one input. -/
def topTwoEachWrong : ChangeSpec := { name := "topTwoEach", fn := fun _ => fun
  | [d1, d2] => { results := [.lit (.bool false)], args := [d1, d2] }
  | _ => none }
def TopTwoEachWrongFalsely : Prop := topTwoEachRow.holds Tryz.pinned (OpenSpec.ofChange topTwoEachWrong)

/- THE SECOND FORM. 'bulk': how many values and letters a reading holds, each counted each time it is reached (what is shared counts as often as it is met; a slice's spare places count too). A statement '..UptoSaid' is the law's where the arguments, and the package variables that the reading takes, are together of bulk at most 1048576: NARROWER than '..Said'. Prove '..Said' where nothing that the law and all that it calls make is longer than what came in: it says more and counts as full. Else prove '..UptoSaid'. A law counts once. -/
mutual
def uptoBulk {H : Type} : DataW H → Nat
  | .lit (.string bytes) => bytes.length + 1
  | .lit _ => 1
  | .nil => 1
  | .ptr d => uptoBulk d + 1
  | .slice elems spare => uptoBulkAll elems + uptoBulkAll spare + 1
  | .agg parts => uptoBulkAll parts + 1
  | .iface _ d => uptoBulk d + 1
  | .map entries => uptoBulkEntries entries + 1
  | .held _ => 1
def uptoBulkAll {H : Type} : List (DataW H) → Nat
  | [] => 0
  | d :: r => uptoBulk d + uptoBulkAll r
def uptoBulkEntries {H : Type} : List (Lit × DataW H) → Nat
  | [] => 0
  | x :: r => uptoBulkEntry x + uptoBulkEntries r
def uptoBulkEntry {H : Type} : Lit × DataW H → Nat
  | (.string bytes, d) => bytes.length + uptoBulk d + 1
  | (_, d) => uptoBulk d + 1
 end
def uptoSmall : (H : Type) → List (DataW H) → Bool := fun _ ds => decide (uptoBulkAll ds ≤ 1048576)
def OpenSpec.upto (s : _root_.Go.ChangeSpec) : _root_.Go.OpenSpec := { _root_.Go.OpenSpec.ofChange s with cond := some uptoSmall }

/-- 'patinalaw19.DevPatrols', WHERE WHAT IT READS IS OF BULK AT MOST 1048576: true; the input reads as it did. -/
def devPatrolsUptoRow : OpenClaim := { program := "ytbhbilcieodbhaagreat", sum := "52d721ca561610b4085bc3449de93f6cb75992e4519d573bf31695023bd1a0f3", func := "patina/patinalaw19.DevPatrols", spec := "devPatrols", inPlace := ["sync/atomic.StoreInt64", "sync/atomic.LoadUint32", "(*internal/sync.Mutex).Lock", "internal/race.Disable", "sync/atomic.CompareAndSwapInt32", "internal/race.Enable", "internal/race.Acquire", "(*internal/sync.Mutex).lockSlow", "internal/sync.runtime_canSpin", "internal/sync.runtime_doSpin", "internal/sync.throw", "internal/sync.runtime_nanotime", "internal/sync.runtime_SemacquireMutex", "sync/atomic.AddInt32", "(*internal/sync.Mutex).Unlock", "internal/race.ReleaseMerge", "(*internal/sync.Mutex).unlockSlow", "internal/sync.fatal", "internal/sync.runtime_Semrelease", "sync/atomic.StoreUint32", "sync/atomic.AddInt64", "internal/reflectlite.TypeOf", "sync/atomic.LoadInt64"], unfollowed := true, recurses := true, apart := false, narrowed := true }
def DevPatrolsUptoSaid : Prop := devPatrolsUptoRow.holds Tryz.pinned (OpenSpec.upto devPatrolsSpec)

/-- 'patinalaw19.DevTires', WHERE WHAT IT READS IS OF BULK AT MOST 1048576: true; the input reads as it did. -/
def devTiresUptoRow : OpenClaim := { program := "ytbhbilcieodbhaagreat", sum := "52d721ca561610b4085bc3449de93f6cb75992e4519d573bf31695023bd1a0f3", func := "patina/patinalaw19.DevTires", spec := "devTires", inPlace := ["sync/atomic.StoreInt64", "sync/atomic.LoadUint32", "(*internal/sync.Mutex).Lock", "internal/race.Disable", "sync/atomic.CompareAndSwapInt32", "internal/race.Enable", "internal/race.Acquire", "(*internal/sync.Mutex).lockSlow", "internal/sync.runtime_canSpin", "internal/sync.runtime_doSpin", "internal/sync.throw", "internal/sync.runtime_nanotime", "internal/sync.runtime_SemacquireMutex", "sync/atomic.AddInt32", "(*internal/sync.Mutex).Unlock", "internal/race.ReleaseMerge", "(*internal/sync.Mutex).unlockSlow", "internal/sync.fatal", "internal/sync.runtime_Semrelease", "sync/atomic.StoreUint32", "sync/atomic.AddInt64", "internal/reflectlite.TypeOf", "sync/atomic.LoadInt64"], unfollowed := true, recurses := true, apart := false, narrowed := true }
def DevTiresUptoSaid : Prop := devTiresUptoRow.holds Tryz.pinned (OpenSpec.upto devTiresSpec)

/-- 'patinalaw19.DevRefuses', WHERE WHAT IT READS IS OF BULK AT MOST 1048576: true; the input reads as it did. -/
def devRefusesUptoRow : OpenClaim := { program := "ytbhbilcieodbhaagreat", sum := "52d721ca561610b4085bc3449de93f6cb75992e4519d573bf31695023bd1a0f3", func := "patina/patinalaw19.DevRefuses", spec := "devRefuses", inPlace := ["sync/atomic.StoreInt64", "sync/atomic.LoadUint32", "(*internal/sync.Mutex).Lock", "internal/race.Disable", "sync/atomic.CompareAndSwapInt32", "internal/race.Enable", "internal/race.Acquire", "(*internal/sync.Mutex).lockSlow", "internal/sync.runtime_canSpin", "internal/sync.runtime_doSpin", "internal/sync.throw", "internal/sync.runtime_nanotime", "internal/sync.runtime_SemacquireMutex", "sync/atomic.AddInt32", "(*internal/sync.Mutex).Unlock", "internal/race.ReleaseMerge", "(*internal/sync.Mutex).unlockSlow", "internal/sync.fatal", "internal/sync.runtime_Semrelease", "sync/atomic.StoreUint32", "sync/atomic.AddInt64", "internal/reflectlite.TypeOf", "sync/atomic.LoadInt64"], unfollowed := true, recurses := true, apart := false, narrowed := true }
def DevRefusesUptoSaid : Prop := devRefusesUptoRow.holds Tryz.pinned (OpenSpec.upto devRefusesSpec)

/-- 'patinatop.TopHidden', WHERE WHAT IT READS IS OF BULK AT MOST 1048576: true; the input reads as it did. -/
def topHiddenUptoRow : OpenClaim := { program := "ytbhbilcieodbhaagreat", sum := "52d721ca561610b4085bc3449de93f6cb75992e4519d573bf31695023bd1a0f3", func := "patina/patinatop.TopHidden", spec := "topHidden", inPlace := ["sync/atomic.StoreInt64", "sync/atomic.LoadUint32", "(*internal/sync.Mutex).Lock", "internal/race.Disable", "sync/atomic.CompareAndSwapInt32", "internal/race.Enable", "internal/race.Acquire", "(*internal/sync.Mutex).lockSlow", "internal/sync.runtime_canSpin", "internal/sync.runtime_doSpin", "internal/sync.throw", "internal/sync.runtime_nanotime", "internal/sync.runtime_SemacquireMutex", "sync/atomic.AddInt32", "(*internal/sync.Mutex).Unlock", "internal/race.ReleaseMerge", "(*internal/sync.Mutex).unlockSlow", "internal/sync.fatal", "internal/sync.runtime_Semrelease", "sync/atomic.StoreUint32", "sync/atomic.AddInt64", "internal/reflectlite.TypeOf", "sync/atomic.LoadInt64"], unfollowed := true, recurses := true, apart := false, narrowed := true }
def TopHiddenUptoSaid : Prop := topHiddenUptoRow.holds Tryz.pinned (OpenSpec.upto topHiddenSpec)

/-- 'patinatop.TopOneEach', WHERE WHAT IT READS IS OF BULK AT MOST 1048576: true; the input reads as it did. -/
def topOneEachUptoRow : OpenClaim := { program := "ytbhbilcieodbhaagreat", sum := "52d721ca561610b4085bc3449de93f6cb75992e4519d573bf31695023bd1a0f3", func := "patina/patinatop.TopOneEach", spec := "topOneEach", inPlace := ["sync/atomic.StoreInt64", "sync/atomic.LoadUint32", "(*internal/sync.Mutex).Lock", "internal/race.Disable", "sync/atomic.CompareAndSwapInt32", "internal/race.Enable", "internal/race.Acquire", "(*internal/sync.Mutex).lockSlow", "internal/sync.runtime_canSpin", "internal/sync.runtime_doSpin", "internal/sync.throw", "internal/sync.runtime_nanotime", "internal/sync.runtime_SemacquireMutex", "sync/atomic.AddInt32", "(*internal/sync.Mutex).Unlock", "internal/race.ReleaseMerge", "(*internal/sync.Mutex).unlockSlow", "internal/sync.fatal", "internal/sync.runtime_Semrelease", "sync/atomic.StoreUint32", "sync/atomic.AddInt64", "internal/reflectlite.TypeOf", "sync/atomic.LoadInt64"], unfollowed := true, recurses := true, apart := false, narrowed := true }
def TopOneEachUptoSaid : Prop := topOneEachUptoRow.holds Tryz.pinned (OpenSpec.upto topOneEachSpec)

/-- 'patinatop.TopTwoEach', WHERE WHAT IT READS IS OF BULK AT MOST 1048576: true; the input reads as it did. -/
def topTwoEachUptoRow : OpenClaim := { program := "ytbhbilcieodbhaagreat", sum := "52d721ca561610b4085bc3449de93f6cb75992e4519d573bf31695023bd1a0f3", func := "patina/patinatop.TopTwoEach", spec := "topTwoEach", inPlace := ["sync/atomic.StoreInt64", "sync/atomic.LoadUint32", "(*internal/sync.Mutex).Lock", "internal/race.Disable", "sync/atomic.CompareAndSwapInt32", "internal/race.Enable", "internal/race.Acquire", "(*internal/sync.Mutex).lockSlow", "internal/sync.runtime_canSpin", "internal/sync.runtime_doSpin", "internal/sync.throw", "internal/sync.runtime_nanotime", "internal/sync.runtime_SemacquireMutex", "sync/atomic.AddInt32", "(*internal/sync.Mutex).Unlock", "internal/race.ReleaseMerge", "(*internal/sync.Mutex).unlockSlow", "internal/sync.fatal", "internal/sync.runtime_Semrelease", "sync/atomic.StoreUint32", "sync/atomic.AddInt64", "internal/reflectlite.TypeOf", "sync/atomic.LoadInt64"], unfollowed := true, recurses := true, apart := false, narrowed := true }
def TopTwoEachUptoSaid : Prop := topTwoEachUptoRow.holds Tryz.pinned (OpenSpec.upto topTwoEachSpec)

end Rows
end Go.Proofs.YtbhbilcieodbhaaGreat
