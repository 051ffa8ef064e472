/-
  What both arrays answer, told alike. Conditions: they stand alike.
-/
import Derived.Test.YthpjdnfalecbeaaPst
namespace Go.Proofs.Ythpjdnfalecbeaa
open Go.RowKit
set_option maxRecDepth 100000
def errV : Nat → Value
  | 0 => .nilIface
  | _ + 1 => errA
def IsCode (c : Nat) : Prop := c = 0 ∨ c = 1
theorem code_any (c : Nat) (h : IsCode c) (w : World) : Calls Try.prog 22 #[errV c] w fun e w' => e = .returned (.int .i64 c) ∧ w' = w := by
  rcases h with rfl | rfl
  · exact code_0 w
  · exact code_1 w
theorem nat_of {a : Int} (h : 0 ≤ a ∧ a < 24) : ∃ b : Nat, a = b ∧ b < 24 := ⟨a.toNat, by omega, by omega⟩
/-- Read. -/
def readV (s : Nat → List Nat) (a : Int) : (Nat → List Nat) × List Nat × Nat := if 0 ≤ a ∧ a < 24 then (s, s a.toNat, 0) else (s, [], 1)
theorem readV_code (s : Nat → List Nat) (a : Int) : IsCode (readV s a).2.2 := by
  unfold readV IsCode
  split
  · exact Or.inl rfl
  · exact Or.inr rfl
theorem readV_st (s : Nat → List Nat) (a : Int) : (readV s a).1 = s := by unfold readV; split <;> rfl
theorem readV_ok {s : Nat → List Nat} (h : Okr s) (a : Int) : Okr (readV s a).1 := by rw [readV_st]; exact h
theorem readV_len {s : Nat → List Nat} (h : Okr s) (a : Int) : (readV s a).2.1.length = 160 ∨ (readV s a).2.1 = [] := by
  unfold readV
  split
  · exact Or.inl (h.len _)
  · exact Or.inr rfl
theorem read_v (g : Nat) (s : Nat → List Nat) (hs : Okr s) (a : Int) (w : World) (h : AryAt w g s) :
    Calls Try.prog 15 #[.pointer (some ⟨g, 0, none⟩), .int .i64 a] w fun e w' => ∃ ad n cap, e = .returned (.tuple #[.slice ad n cap, errV (readV s a).2.2]) ∧ n = (readV s a).2.1.length ∧ OwnT w' w.heap.size 5 (.slice ad n cap) (readV s a).2.1 ∧ AryAt w' g (readV s a).1 ∧ Chg (· = g) w w' := by
  unfold readV
  by_cases e : 0 ≤ a ∧ a < 24
  · rw [if_pos e]
    obtain ⟨b, rfl, hb⟩ := nat_of e
    refine (read_yes g b s hs hb w h).mono ?_
    rintro e w' ⟨v, rfl, hO, hG⟩
    obtain ⟨ad, cap, rfl⟩ := hO.slice
    exact ⟨ad, _, cap, rfl, rfl, hO.t, h.chg hG (fun f => f), hG.mono (fun _ _ f => f.elim)⟩
  · rw [if_neg e]
    refine (read_no g a e w).mono ?_
    rintro e w' ⟨rfl, rfl⟩
    exact ⟨none, 0, 0, rfl, rfl, (Own.nil _ _ _).t, h, Chg.refl _ _⟩
theorem rread_v (r : Nat) (s : Nat → List Nat) (hs : Okr s) (F : Nat → Prop) (a : Int) (w : World) (h : RefAt w r s F) :
    Calls Try.prog 24 #[.pointer (some ⟨r, 0, none⟩), .int .i64 a] w fun e w' => ∃ ad n cap, e = .returned (.tuple #[.slice ad n cap, .int .i64 (readV s a).2.2]) ∧ n = (readV s a).2.1.length ∧ Own w' w.heap.size 5 (.slice ad n cap) (readV s a).2.1 ∧ RefAt w' r (readV s a).1 F ∧ Chg F w w' := by
  unfold readV
  by_cases e : 0 ≤ a ∧ a < 24
  · rw [if_pos e]
    obtain ⟨b, rfl, hb⟩ := nat_of e
    refine (rread_yes r b s hs hb F w h).mono ?_
    rintro e w' ⟨v, rfl, hO, hG⟩
    obtain ⟨ad, cap, rfl⟩ := hO.slice
    exact ⟨ad, _, cap, rfl, rfl, hO, h.chg hG (fun _ _ f => f), hG.mono (fun _ _ f => f.elim)⟩
  · rw [if_neg e]
    refine (rread_no r a e w).mono ?_
    rintro e w' ⟨rfl, rfl⟩
    exact ⟨none, 0, 0, rfl, rfl, Own.nil _ _ _, h, Chg.refl _ _⟩
/-- Trim. -/
def trimV (s : Nat → List Nat) (a : Int) : (Nat → List Nat) × Nat := if 0 ≤ a ∧ a < 24 then (setS s a.toNat z160, 0) else (s, 1)
theorem trimV_code (s : Nat → List Nat) (a : Int) : IsCode (trimV s a).2 := by
  unfold trimV IsCode
  split
  · exact Or.inl rfl
  · exact Or.inr rfl
theorem trimV_ok {s : Nat → List Nat} (h : Okr s) (a : Int) : Okr (trimV s a).1 := by
  unfold trimV
  split
  · exact h.set _ z160_length z160_bys
  · exact h
theorem trim_v (g : Nat) (s : Nat → List Nat) (a : Int) (w : World) (h : AryAt w g s) :
    Calls Try.prog 14 #[.pointer (some ⟨g, 0, none⟩), .int .i64 a] w fun e w' => e = .returned (errV (trimV s a).2) ∧ AryAt w' g (trimV s a).1 ∧ Chg (· = g) w w' := by
  unfold trimV
  by_cases e : 0 ≤ a ∧ a < 24
  · rw [if_pos e]
    obtain ⟨b, rfl, hb⟩ := nat_of e
    exact trim_yes g b s hb w h
  · rw [if_neg e]
    refine (trim_no g a e w).mono ?_
    rintro e w' ⟨rfl, rfl⟩
    exact ⟨rfl, h, Chg.refl _ _⟩
theorem rtrim_v (r : Nat) (s : Nat → List Nat) (F : Nat → Prop) (a : Int) (w : World) (h : RefAt w r s F) :
    Calls Try.prog 25 #[.pointer (some ⟨r, 0, none⟩), .int .i64 a] w fun e w' => e = .returned (.int .i64 (trimV s a).2) ∧ RefAt w' r (trimV s a).1 (grow F w w') ∧ Chg F w w' := by
  unfold trimV
  by_cases e : 0 ≤ a ∧ a < 24
  · rw [if_pos e]
    obtain ⟨b, rfl, hb⟩ := nat_of e
    exact rtrim_yes r b s hb F w h
  · rw [if_neg e]
    refine (rtrim_no r a e w).mono ?_
    rintro e w' ⟨rfl, rfl⟩
    exact ⟨rfl, h.mono' (fun _ _ hk => Or.inl hk), Chg.refl _ _⟩
/-- Write. -/
def writeV (s : Nat → List Nat) (a : Int) (l : List Nat) : (Nat → List Nat) × Nat := if (0 ≤ a ∧ a < 24) ∧ l.length = 160 then (setS s a.toNat l, 0) else (s, 1)
theorem writeV_code (s : Nat → List Nat) (a : Int) (l : List Nat) : IsCode (writeV s a l).2 := by
  unfold writeV IsCode
  split
  · exact Or.inl rfl
  · exact Or.inr rfl
theorem writeV_ok {s : Nat → List Nat} (h : Okr s) (a : Int) (l : List Nat) (hl : Bys l) : Okr (writeV s a l).1 := by
  unfold writeV
  split
  · rename_i e
    exact h.set _ e.2 hl
  · exact h
theorem write_v (g : Nat) (s : Nat → List Nat) (a : Int) (ad : Option Addr) (n cap : Nat) (l : List Nat) (hn : n = l.length) (w : World) (h : AryAt w g s) (hv : Held w (.slice ad n cap) l) :
    Calls Try.prog 11 #[.pointer (some ⟨g, 0, none⟩), .int .i64 a, .slice ad n cap] w fun e w' => e = .returned (errV (writeV s a l).2) ∧ AryAt w' g (writeV s a l).1 ∧ Chg (· = g) w w' := by
  unfold writeV
  by_cases e : (0 ≤ a ∧ a < 24) ∧ l.length = 160
  · rw [if_pos e]
    obtain ⟨b, rfl, hb⟩ := nat_of e.1
    exact write_yes g b s hb ad n cap l (hn.trans e.2) e.2 w h hv
  · rw [if_neg e]
    refine (write_no g a ad n cap (by rw [hn]; by_cases e2 : l.length = 160; exact Or.inl (fun e3 => e ⟨e3, e2⟩); exact Or.inr e2) w).mono ?_
    rintro e w' ⟨rfl, rfl⟩
    exact ⟨rfl, h, Chg.refl _ _⟩
theorem rwrite_v (r : Nat) (s : Nat → List Nat) (F : Nat → Prop) (a : Int) (ad : Option Addr) (n cap : Nat) (l : List Nat) (hn : n = l.length) (w : World) (h : RefAt w r s F) (hv : Held w (.slice ad n cap) l) (hk : ∀ k, (Value.slice ad n cap).ownBlock = some k → ¬ F k) :
    Calls Try.prog 23 #[.pointer (some ⟨r, 0, none⟩), .int .i64 a, .slice ad n cap] w fun e w' => e = .returned (.int .i64 (writeV s a l).2) ∧ RefAt w' r (writeV s a l).1 (grow F w w') ∧ Chg F w w' := by
  unfold writeV
  by_cases e : (0 ≤ a ∧ a < 24) ∧ l.length = 160
  · rw [if_pos e]
    obtain ⟨b, rfl, hb⟩ := nat_of e.1
    exact rwrite_yes r b s hb F ad n cap l (hn.trans e.2) e.2 w h hv hk
  · rw [if_neg e]
    refine (rwrite_no r a ad n cap (by rw [hn]; by_cases e2 : l.length = 160; exact Or.inl (fun e3 => e ⟨e3, e2⟩); exact Or.inr e2) w).mono ?_
    rintro e w' ⟨rfl, rfl⟩
    exact ⟨rfl, h.mono' (fun _ _ hk => Or.inl hk), Chg.refl _ _⟩
def Alike (B : Prop) (w0 w' : World) (t : Nat) (σ σ' : Sta) : Prop := Pst B w0 w' t σ' ∧ σ'.xc = σ'.sc ∧ σ'.nw = σ'.nt ∧ σ'.nt ≤ σ.nt + 1
theorem Pst.drew {B : Prop} {w0 w : World} {t : Nat} {σ : Sta} (h : Pst B w0 w t σ) : Pst B w0 w.drew t σ :=
  ⟨h.two, h.cc, h.cd, h.oc, h.ox, h.od, h.rc.chg ((Chg.refl (fun _ => False) w).drew) (fun _ _ f => f), h.rd.chg ((Chg.refl (fun _ => False) w).drew) (fun _ _ f => f), h.told, h.want, h.tv, h.wv, h.tdis, h.len, h.kt, h.kc, h.kd, h.kvt, h.kvw, h.kVt, h.kVw, h.new, h.old, h.chg.drew⟩
theorem box_row (w : World) (a b c d : Value) : Row (w.alloc (.cells #[a, b, c, d] 34)) w.heap.size 34 4 (fun i => ([a, b, c, d] : List Value).getD i undef) :=
  (blk_new w _ 34 4 rfl).row.ext fun i hi => by rcases (by omega : i = 0 ∨ i = 1 ∨ i = 2 ∨ i = 3) with e | e | e | e <;> subst e <;> rfl
end Go.Proofs.Ythpjdnfalecbeaa
