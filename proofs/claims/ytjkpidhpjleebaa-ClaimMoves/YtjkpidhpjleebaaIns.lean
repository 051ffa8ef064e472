/-
  slices.insertionSortCmpFunc, from a world of the sort's to a world of the sort's. No condition: lemmas.
-/
import Derived.Test.YtjkpidhpjleebaaPly
namespace Go.Proofs.Ytjkpidhpjleebaa
open Go.Shelf Go.RowKit Go.Lib Go.Sort
variable {P : Program} {α : Type} [Inhabited α]

/-- This program's numbers for the library's. -/
def rn : Ren := ⟨fun x => if x = 20 then 36 else x, fun x => if x = 22 then 24 else if x = 24 then 28 else if x = 25 then 53 else x, fun x => x⟩
theorem lay20 {k : Nat} (L : Ply P k) : SlLaysF0.n20 P rn where
  mixed := L.mixed
  f20 := ⟨Try.f36.name, by kernel_rfl, L.f36.trans (by kernel_rfl)⟩
  t0 := L.t0
  a0 := L.a0
  z0 := L.z0
  v0 := L.v0
  t3 := L.t3
  a3 := L.a3
  z3 := L.z3
  v3 := L.v3
  t4 := L.t4
  a4 := L.a4
  z4 := L.z4
  v4 := L.v4
  t22 := L.t24
  a22 := L.a24
  z22 := L.z24
  v22 := L.v24
  t25 := L.t53
  a25 := L.a53
  z25 := L.z53
  v25 := L.v53
theorem SWK.cmpLays {enc : α → List Value} {k : Nat} {w0 w : World} {blk off : Nat} {d d0 : Array α} {g : Nat} {cb : Array Value} {cf : α → α → Int} (S : SWK enc k w0 blk off d w) (hcmp : CmpLays P g cb enc k cf blk off d0.size w0) (R : RowK enc k w0 blk off d0) (hs : d0.size = d.size) : CmpLays P g cb enc k cf blk off d.size w := fun m os dk hdk x y => by
  obtain ⟨n0, os0, rfl⟩ := S
  rw [sortWorldK_on enc k w0 blk off n0 m d dk os0 os R.hblk hdk]
  exact hcmp _ _ dk (by omega) x y
theorem insertion_any {k : Nat} (L : Ply P k) (enc : α → List Value) (cf : α → α → Int) (g : Nat) (cb : Array Value) (blk off cap a b : Nat) (d0 d : Array α) (w0 w : World)
    (eg : ∀ args w, (callFunc g args).run P w = .ok (.enter g args) w) (hcmp : CmpLays P g cb enc k cf blk off d0.size w0) (R : RowK enc k w0 blk off d0) (hs : d0.size = d.size) (S : SWK enc k w0 blk off d w) (hO : SWO (ltOf cf)) (hab : a ≤ b) (hb : b ≤ d.size) (hsz : d.size < 4611686018427387904) :
    Calls P 36 #[.slice (some ⟨blk, off, none⟩) d.size cap, .int .i64 a, .int .i64 b, .func (.func g) #[] cb] w fun e w' => e = .returned (.tuple #[]) ∧ ∃ d', Stb (ltOf cf) a b d d' ∧ SortedIn (ltOf cf) a b d' ∧ SWK enc k w0 blk off d' w' := by
  have h := insertion_stb hO d a b hab hb
  refine Calls.mono (AnyQ.insertionSortCmpFunc (lay20 L) k L.aE L.zE enc R.hk R.h1 cf g cb blk off cap a b d w eg (SWK.cmpLays S hcmp R hs) (S.holds R.hblk R.hH hs.symm) (S.lt R.hblk) hab hb hsz) ?_
  rintro e w' ⟨rfl, n, os, rfl⟩
  exact ⟨rfl, _, h.1, h.2, S.on R.hblk n _ os h.1.size⟩
end Go.Proofs.Ytjkpidhpjleebaa
