/-
  A step of MediaPlays, whatever it is. Conditions: both stood alike.
-/
import Derived.Test.YtifjmilegogbaaaGreatMStep
import Derived.Test.YtifjmilegogbaaaGreatMStepR
import Derived.Test.YtifjmilegogbaaaGreatMStepQ
namespace Go.Proofs.YtifjmilegogbaaaGreat
open Go.RowKit
set_option maxRecDepth 100000

theorem stepOp (w0 : World) (t c m p q b R rr : Nat) (F : Nat → Prop) (s : Chp) (r : Int) (K A B tp tf ts tc : Int) (tl : Bool) (f : Nat) (w : World) (h : Bst w0 w t c m p q b R rr F s r s r) (hK : -9223372036854775808 ≤ K ∧ K ≤ 9223372036854775807) (hA : A ≤ 9223372036854775807) (hB : B ≤ 9223372036854775807) (hf : f < 256) :
    Calls Tryz.prog 9 #[.pointer (some ⟨t, 0, none⟩), (.agg #[.int .i64 K, .int .i64 A, .int .i64 B, .int .i64 tp, .int .i64 tf, .int .i64 ts, .int .i64 tc, .bool tl, .int .u8 (f : Nat)])] w fun e w' => StAns w0 w' t c m p q b R rr e := by
  have hlt := pkN_lt K (n := 10) (by omega)
  by_cases h0 : pkN K 10 = 0
  · by_cases hm : May tp tf ts tc tl ∧ tp = A
    · obtain ⟨hm, rfl⟩ := hm
      by_cases hb0 : 0 < B
      · by_cases hb1 : B < 1000
        · by_cases hb2 : B = 174
          · subst hb2
            obtain ⟨p', o', s', c', rfl, rfl, rfl, rfl⟩ := hm.nats
            exact step_prog_yes1 w0 t c m p q b R rr F s r K p' o' s' c' tl f w h hK (by omega) hf h0 hm
          · exact step_prog_no1 w0 t c m p q b R rr F s r K tp B tp tf ts tc tl f B.toNat w h hK hA hB hf h0 ⟨hb0, hb1⟩ (by omega) (fun hy => hb2 (by have := hy.2.2; omega))
        · obtain ⟨p', o', s', c', rfl, rfl, rfl, rfl⟩ := hm.nats
          exact step_prog_yes3 w0 t c m p q b R rr F s r K B p' o' s' c' tl f w h hK (by omega) hB hf h0 ⟨hb0, hb1⟩ hm
      · obtain ⟨p', o', s', c', rfl, rfl, rfl, rfl⟩ := hm.nats
        exact step_prog_yes2 w0 t c m p q b R rr F s r K B p' o' s' c' tl f w h hK (by omega) hB hf h0 hb0 hm
    · by_cases hb0 : 0 < B
      · by_cases hb1 : B < 1000
        · exact step_prog_no1 w0 t c m p q b R rr F s r K A B tp tf ts tc tl f B.toNat w h hK hA hB hf h0 ⟨hb0, hb1⟩ (by omega) (fun hy => hm ⟨hy.1, hy.2.1⟩)
        · exact step_prog_no3 w0 t c m p q b R rr F s r K A B tp tf ts tc tl f w h hK hA hB hf h0 ⟨hb0, hb1⟩ hm
      · exact step_prog_no2 w0 t c m p q b R rr F s r K A B tp tf ts tc tl f w h hK hA hB hf h0 hb0 hm
  · by_cases h1 : pkN K 10 = 1
    · exact step_read w0 t c m p q b R rr F s r K A B tp tf ts tc tl f w h hK hA hB hf h1
    · by_cases h2 : pkN K 10 = 2
      · exact step_erase w0 t c m p q b R rr F s r K A B tp tf ts tc tl f w h hK hA hB hf h2
      · by_cases h9 : pkN K 10 = 9
        · exact step_reads w0 t c m p q b R rr F s r K A B tp tf ts tc tl f w h hK hA hB hf h9
        · exact step_harm w0 t c m p q b R rr F s r K A B tp tf ts tc tl f w h hK hA hB hf _ rfl (by omega)
end Go.Proofs.YtifjmilegogbaaaGreat
