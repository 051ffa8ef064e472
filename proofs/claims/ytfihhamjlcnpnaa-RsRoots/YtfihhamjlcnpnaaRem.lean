/-
  What a message, moved up, leaves when it is divided by the generator: with it behind the message the word is a codeword. No condition: plain mathematics.
-/
import Derived.Test.YtfihhamjlcnpnaaCod
namespace Go.Proofs.Ytfihhamjlcnpnaa

theorem fold_ev (x : Nat) (_hx : x < 256) (b : List Nat) (hb : Bys b) (s : Nat) (hs : s < 256) : b.foldl (fun s c => gm s x ^^^ c) s = gm s (xp x b.length) ^^^ ev x b := by
  induction b generalizing s with
  | nil => show s = gm s 1 ^^^ 0; rw [gm_one s hs, Nat.xor_zero]
  | cons c t ih =>
    have hc : c < 256 := hb c (by simp)
    have ht : Bys t := fun n hn => hb n (by simp [hn])
    show t.foldl _ (gm s x ^^^ c) = gm s (gm (xp x t.length) x) ^^^ t.foldl _ (gm 0 x ^^^ c)
    rw [ih ht _ (xor_lt _ _ (gm_lt _ _) hc), ih ht _ (xor_lt _ _ (gm_lt _ _) hc), gm_zero_left, Nat.zero_xor, xor_gm _ _ _ (xp_lt _ _) (gm_lt _ _) hc, gm_assoc, gm_comm x, Nat.xor_assoc]
theorem ev_append (x : Nat) (hx : x < 256) (a b : List Nat) (ha : Bys a) (hb : Bys b) : ev x (a ++ b) = gm (ev x a) (xp x b.length) ^^^ ev x b := by
  unfold ev
  rw [List.foldl_append]
  exact fold_ev x hx b hb _ (ev_lt x a ha)

/-- The rest behind i symbols. -/
def rem (l : List Nat) : Nat → List Nat
  | 0 => [0, 0, 0, 0, 0, 0]
  | i + 1 => inner (l.getD i 0 ^^^ (rem l i).getD 0 0) gl 0 ((rem l i).drop 1 ++ [0]) 6
theorem rem_length (l : List Nat) (i : Nat) : (rem l i).length = 6 := by
  induction i with
  | zero => rfl
  | succ i ih => show (inner _ _ _ _ _).length = 6; rw [inner_length]; simp [ih]
theorem rem_base_bys {r : List Nat} (h : Bys r) : Bys (r.drop 1 ++ [0]) := by
  intro n hn
  rcases List.mem_append.1 hn with hn | hn
  · exact h n (List.mem_of_mem_drop hn)
  · simp at hn; omega
theorem rem_bys (l : List Nat) (i : Nat) : Bys (rem l i) := by
  induction i with
  | zero => intro n hn; simp [rem] at hn; omega
  | succ i ih => exact inner_bys _ _ _ _ (rem_base_bys ih) _
theorem gl_roots : allB 6 (fun k => ev (ex k) gl == xp (ex k) 6) = true := by decide +kernel
theorem gl_root (k : Nat) (h : k < 6) : ev (ex k) gl = xp (ex k) 6 := by simpa using allB_at gl_roots k h
theorem ev_cons (x : Nat) (hx : x < 256) (c : Nat) (t : List Nat) (hc : c < 256) (ht : Bys t) : ev x (c :: t) = gm c (xp x t.length) ^^^ ev x t := by
  have h := ev_append x hx [c] t (by intro n hn; simp at hn; omega) ht
  rw [show [c] ++ t = c :: t from rfl] at h
  rw [h]
  congr 2
  show gm 0 x ^^^ c = c
  rw [gm_zero_left, Nat.zero_xor]
theorem rem_ev (l : List Nat) (hl : Bys l) (k : Nat) (hk : k < 6) (i : Nat) (hi : i ≤ l.length) : gm (ev (ex k) (l.take i)) (xp (ex k) 6) = ev (ex k) (rem l i) := by
  have hx := ex_lt k
  induction i with
  | zero =>
    show gm 0 _ = ev (ex k) [0, 0, 0, 0, 0, 0]
    rw [gm_zero_left]
    exact (ev_zeros (ex k) 6).symm
  | succ i ih =>
    have ih := ih (by omega)
    have hr := rem_bys l i
    have hrl := rem_length l i
    rw [ev_take _ l i (by omega)]
    show _ = ev (ex k) (inner (l.getD i 0 ^^^ (rem l i).getD 0 0) gl 0 ((rem l i).drop 1 ++ [0]) 6)
    have hin := ev_inner (ex k) hx (l.getD i 0 ^^^ (rem l i).getD 0 0) gl 0 1 ((rem l i).drop 1 ++ [0]) (rem_base_bys hr) (by omega) (by simp [hrl]; rfl) 6 (Nat.le_refl _)
    have hgp : pv (ex k) gl 6 = xp (ex k) 6 := by rw [← gl_root k hk]; exact (ev_pv (ex k) hx gl gl_bys).symm
    rw [hin, hgp]
    obtain ⟨r0, t, hrt⟩ : ∃ r0 t, rem l i = r0 :: t := by
      cases h : rem l i with
      | nil => rw [h] at hrl; cases hrl
      | cons a t => exact ⟨a, t, rfl⟩
    rw [hrt] at ih hr hrl ⊢
    have h0 : r0 < 256 := hr r0 (by simp)
    have ht : Bys t := fun n hn => hr n (by simp [hn])
    have htl : t.length = 5 := by simpa using hrl
    rw [ev_cons _ hx r0 t h0 ht, htl] at ih
    show gm (gm (ev (ex k) (l.take i)) (ex k) ^^^ l.getD i 0) (xp (ex k) 6) = ev (ex k) (t ++ [0]) ^^^ gm (gm (l.getD i 0 ^^^ r0) 1) (xp (ex k) 6)
    have hd := hl.getD i
    rw [gm_one _ (xor_lt _ _ hd h0), ev_snoc, Nat.xor_zero, xor_gm _ _ _ (xp_lt _ _) (gm_lt _ _) hd, xor_gm _ _ _ (xp_lt _ _) hd h0]
    have e1 : gm (gm (ev (ex k) (l.take i)) (ex k)) (xp (ex k) 6) = gm (gm (ev (ex k) (l.take i)) (xp (ex k) 6)) (ex k) := by rw [gm_assoc, gm_comm (ex k), ← gm_assoc]
    rw [e1, ih, xor_gm _ _ _ hx (gm_lt _ _) (ev_lt _ _ ht)]
    have e2 : gm (gm r0 (xp (ex k) 5)) (ex k) = gm r0 (xp (ex k) 6) := by rw [gm_assoc]; rfl
    rw [e2]
    ac_rfl
/-- The codeword of a message. -/
def encL (l : List Nat) : List Nat := l ++ rem l 58
theorem encL_cw {l : List Nat} (hl : l.length = 58) (hb : Bys l) : Cw (encL l) := by
  refine ⟨by simp [encL, hl, rem_length], ?_, ?_⟩
  · intro n hn
    rcases List.mem_append.1 hn with h | h
    · exact hb n h
    · exact rem_bys l 58 n h
  · intro k hk
    unfold encL
    rw [ev_append _ (ex_lt k) l _ hb (rem_bys l 58), rem_length]
    have := rem_ev l hb k hk 58 (by omega)
    rw [List.take_of_length_le (by omega)] at this
    rw [this, Nat.xor_self]
theorem encL_take {l : List Nat} (hl : l.length = 58) : (encL l).take 58 = l := by
  unfold encL
  rw [List.take_append_of_le_length (by omega), List.take_of_length_le (by omega)]
end Go.Proofs.Ytfihhamjlcnpnaa
