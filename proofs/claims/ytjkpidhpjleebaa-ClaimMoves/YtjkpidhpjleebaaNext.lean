/-
  Next, of the program and of the document. Condition: the checkpoint's numbers are int64s.
-/
import Derived.Test.YtjkpidhpjleebaaChk
import Derived.Test.YtjkpidhpjleebaaRNst
namespace Go.Proofs.Ytjkpidhpjleebaa
set_option maxRecDepth 100000
open Go.RowKit Go.Sort

def mxi (a b : Int) : Int := if a < b then b else a
theorem mxi_eq (a b : Int) : mxi a b = max a b := by unfold mxi; split <;> omega
theorem mxi_yes {a b : Int} (h : a < b) : mxi a b = b := by simp [mxi, h]
theorem mxi_no {a b : Int} (h : ¬ a < b) : mxi a b = a := by simp [mxi, h]
/-- The greatest seq that the checkpoint's number and its first i floors tell. -/
def flr (c : Ckp) : Nat → Int
  | 0 => if 0 < c.N then c.N - 1 else -1
  | i + 1 => mxi (flr c i) (c.F i)
def tpl (t : Int) (l : List Fnd) : Int := l.foldl (fun t f => if snd f then mxi t f.S else t) t
def grt (l : List Fnd) (c : Ckp) : Int := tpl (flr c 24) l
def nxt (l : List Fnd) (c : Ckp) : Int := if 1099511627775 ≤ grt l c then 1099511627775 else grt l c + 1
theorem tpl_take (t : Int) {l : List Fnd} {i : Nat} {f : Fnd} (h : l[i]? = some f) : tpl t (l.take (i + 1)) = if snd f then mxi (tpl t (l.take i)) f.S else tpl t (l.take i) := by
  unfold tpl
  rw [List.take_add_one, h, List.foldl_append]
  rfl
theorem flr_ge (c : Ckp) : ∀ i, -1 ≤ flr c i
  | 0 => by unfold flr; split <;> omega
  | i + 1 => by
    have := flr_ge c i
    rw [flr]; unfold mxi; split <;> omega
theorem tpl_ge (t : Int) : ∀ (l : List Fnd) , t ≤ tpl t l ∧ ∀ f ∈ l, snd f = true → f.S ≤ tpl t l := by
  intro l
  induction l generalizing t with
  | nil => exact ⟨Int.le_refl _, by simp⟩
  | cons x r ih =>
    have e : tpl t (x :: r) = tpl (if snd x then mxi t x.S else t) r := rfl
    rw [e]
    obtain ⟨h1, h2⟩ := ih (if snd x then mxi t x.S else t)
    have g : t ≤ (if snd x then mxi t x.S else t) ∧ (snd x = true → x.S ≤ (if snd x then mxi t x.S else t)) := by
      cases hx : snd x
      · simp
      · simp only [if_true]; unfold mxi
        constructor
        · split <;> omega
        · intro _; split <;> omega
    refine ⟨by omega, fun f hf hs => ?_⟩
    rcases List.mem_cons.1 hf with rfl | hf
    · have := g.2 hs; omega
    · exact h2 f hf hs
theorem nxt_above (l : List Fnd) (c : Ckp) (f : Fnd) (hf : f ∈ l) (hs : snd f = true) : f.S < nxt l c ∨ nxt l c = 1099511627775 := by
  have := (tpl_ge (flr c 24) l).2 f hf hs
  unfold nxt grt
  split
  · exact Or.inr rfl
  · exact Or.inl (by omega)
/-- The checkpoint's numbers are int64s. -/
structure Wfc (c : Ckp) : Prop where
  f : ∀ i, i < 24 → -9223372036854775808 ≤ c.F i ∧ c.F i ≤ 9223372036854775807
  n : -9223372036854775808 ≤ c.N ∧ c.N ≤ 9223372036854775807

set_option maxHeartbeats 8000000 in
theorem next_any (w : World) (a : Option Addr) (cap : Nat) (l : List Fnd) (n : Nat) (hnl : n = l.length) (hs : Sl w (.slice a n cap) l) (hn : n < 2932031007402) (c : Ckp) (hw : Wfc c) :
    Calls Try.prog 15 #[.slice a n cap, .agg (ckA c)] w fun e w' => e = .returned (.int .i64 (nxt l c)) ∧ Chg (fun _ => False) w w' := by
  have HS := hyd hs
  have HN := hyd hnl
  have HW := hyd hw
  have hN1 := hw.n.1
  have hN2 := hw.n.2
  have K0 := Ck.new w c
  have HK := hyd K0
  have HG0 : Hid (Chg (fun _ => False) w (w.alloc (.cells (ckA c) 36))) := (Chg.refl _ w).alloc _
  have k24 := K0.N
  have r0 := K0.partF
  have HR0 := hyd r0
  have S32 : Hid ((Try.prog.info? 32).map (·.size) = some (ints c.F 24).length) := by show _ = _; rw [ints_length]; exact size32
  have hmax : max c.N 0 - 1 = flr c 0 := by
    unfold flr; split <;> omega
  have HL := hyd HS.out
  clear hs hnl hw K0 r0
  go_enter Try.func15, Try.ntmps15
  go_wp2_with (refine wpList_load_mid rfl 32 (.tmp 14) rfl w.heap.size 0 rfl _ _ HR0.out Try.underlying32 rfl S32.out ?_)
  generalize w.alloc (.cells (ckA c) 36) = w1 at *
  clear hmax hN1 hN2 HR0 S32 k24 HK
  go_loopg [5, 16] 24 (fun kx s5 s16 wr => ∃ i : Nat, s16 = .int .i64 i ∧ s5 = .int .i64 (flr c i) ∧ i ≤ 24 ∧ 24 - i ≤ kx ∧ wr = w1)
  case atStart => exact ⟨0, rfl, rfl, by omega, by omega, rfl⟩
  case round =>
  obtain ⟨i, rfl, rfl, hin, hkx, rfl⟩ := hrel
  by_cases hlt : i < 24
  · have hltz : (i : Int) < 24 := by omega
    have hix := index32 c.F i hlt
    have HT : Hid (flr c (i + 1) = max (flr c i) (c.F i)) := by show _ = _; rw [flr, mxi_eq]
    obtain ⟨t, ht⟩ : ∃ t, flr c i = t := ⟨_, rfl⟩
    rw [ht] at HT
    rw [ht]
    clear ht
    go_wp2
    go_roundg (24 - (i + 1))
    case measure => omega
    case rel => exact ⟨i + 1, by simp, by rw [HT.out], by omega, Nat.le_refl _, rfl⟩
  · have hltz : ¬ (i : Int) < 24 := by omega
    rw [show i = 24 by omega]
    have hltz : ¬ ((24 : Nat) : Int) < 24 := by omega
    have HS1 := hyd (HS.out.new HG0.out)
    obtain ⟨w2, rfl⟩ : ∃ x, x = wr := ⟨_, rfl⟩
    go_wp2
    go_loopg [5, 25] n (fun kx s5 s25 wx => ∃ i : Nat, s25 = .int .i64 i ∧ s5 = .int .i64 (tpl (flr c 24) (l.take i)) ∧ i ≤ n ∧ n - i ≤ kx ∧ Hid (Chg (fun _ => False) w2 wx))
    case atStart => exact ⟨0, rfl, by simp [tpl], by omega, by omega, Chg.refl _ _⟩
    case round =>
    obtain ⟨i, rfl, rfl, hin, hkx, HGr⟩ := hrel
    by_cases hlt : i < n
    · have hltz : (i : Int) < (n : Int) := by omega
      obtain ⟨f, hf⟩ : ∃ f, l[i]? = some f := ⟨_, List.getElem?_eq_getElem (by rw [← HN.out]; exact hlt)⟩
      have HF := hyd hf
      obtain ⟨g, o, ha, hA⟩ : ∃ g o, a = some ⟨g, o, none⟩ ∧ At6 w2 g o l := by
        obtain ⟨a', c', e, _, h⟩ := HS1.out
        simp only [Value.slice.injEq] at e
        obtain ⟨rfl, -, -⟩ := e
        rcases h with h | ⟨g, o, rfl, hA⟩
        · have := HN.out; omega
        · exact ⟨g, o, rfl, hA⟩
      subst ha
      have HR := hyd ((hA.chg HGr.out (fun h => h)).2 i f hf)
      have HT := hyd (tpl_take (flr c 24) HF.out)
      obtain ⟨t, ht⟩ : ∃ t, tpl (flr c 24) (l.take i) = t := ⟨_, rfl⟩
      rw [ht] at HT
      rw [ht]
      clear hf hA ht
      go_wp2_with (first | (refine wpList_load_at (f := f) rfl (.tmp 27) rfl g (o + i * 6) rfl ?_ ?_; exact HR.out) | (refine wpList_alloc_fo rfl rfl wr.heap.size rfl ?_))
      intro w3 K3 G3 S3
      have HK3 := hyd K3
      clear K3
      go_wp2_with (refine wpList_store_fo rfl (.tmp 9) (.tmp 28) rfl wr.heap.size rfl rfl HK3.out ?_)
      intro w4 K4 G4
      have G34 := G3.trans' G4 (fun k hk h => by omega)
      have HG4 := hyd (HGr.out.trans G34)
      have HK4 := hyd K4
      clear K4 G4 G3 G34 HK3 S3 HR
      cases hsn : snd f with
      | false =>
        go_wp2_with (first | (refine wpList_load_fo (f := f) rfl (.tmp 9) rfl wr.heap.size rfl ?_ ?_; exact HK4.out) | (go_at_call 25; refine (sound_any f _).mono ?_; rintro e w5 ⟨rfl, G5⟩; have HG5 := hyd (HG4.out.trans G5); clear G5))
        go_roundg (n - (i + 1))
        case measure => omega
        case rel =>
          refine ⟨i + 1, by simp, ?_, by omega, Nat.le_refl _, HG5.out⟩
          rw [HT.out, hsn]; rfl
      | true =>
        go_wp2_with (first | (refine wpList_load_fo (f := f) rfl (.tmp 9) rfl wr.heap.size rfl ?_ ?_; exact HK4.out) | (go_at_call 25; refine (sound_any f _).mono ?_; rintro e w5 ⟨rfl, G5⟩; have K5 := HK4.out.chg G5 (fun h => h); obtain ⟨-, -, -, k3, -, -⟩ := K5.cells; have HG5 := hyd (HG4.out.trans G5); clear G5 K5))
        go_roundg (n - (i + 1))
        case measure => omega
        case rel =>
          refine ⟨i + 1, by simp, ?_, by omega, Nat.le_refl _, HG5.out⟩
          rw [HT.out, hsn, if_pos rfl, mxi_eq]
    · have hltz : ¬ (i : Int) < (n : Int) := by omega
      have HE : Hid (nxt l c = min (tpl (flr c 24) (l.take i)) 1099511627774 + 1) := by
        show _ = _
        rw [show i = l.length by have := HN.out; omega, List.take_length]
        unfold nxt grt
        split <;> omega
      have hge : -1 ≤ tpl (flr c 24) (l.take i) := Int.le_trans (flr_ge c 24) (tpl_ge _ _).1
      obtain ⟨t, ht⟩ : ∃ t, tpl (flr c 24) (l.take i) = t := ⟨_, rfl⟩
      rw [ht] at HE hge
      rw [ht]
      clear ht
      have h1 : -1 ≤ min t 1099511627774 := by omega
      have h2 : min t 1099511627774 ≤ 1099511627774 := by omega
      go_wp2
      go_ret
      exact ⟨by rw [HE.out]; rfl, HG0.out.trans HGr.out⟩

set_option maxHeartbeats 8000000 in
theorem rnext_any (w : World) (a : Option Addr) (cap : Nat) (l : List Fnd) (n : Nat) (hnl : n = l.length) (hs : Sl w (.slice a n cap) l) (hn : n < 2932031007402) (c : Ckp) (hw : Wfc c) :
    Calls Try.prog 16 #[.slice a n cap, .agg (ckA c)] w fun e w' => e = .returned (.int .i64 (nxt l c)) ∧ Chg (fun _ => False) w w' := by
  have HS := hyd hs
  have HN := hyd hnl
  have HW := hyd hw
  have hN1 := hw.n.1
  have hN2 := hw.n.2
  have K0 := Ck.new w c
  have HK := hyd K0
  have HG0 : Hid (Chg (fun _ => False) w (w.alloc (.cells (ckA c) 36))) := (Chg.refl _ w).alloc _
  have k24 := K0.N
  obtain ⟨B, HBB⟩ : ∃ B, Hid (B = w.heap.size) := ⟨_, rfl⟩
  clear hs hnl hw K0
  have start : ∀ (t0 : Int), flr c 0 = t0 → Hid (t0 = flr c 0) := fun t0 h => h.symm
  by_cases hpos : 0 < c.N
  · have hf0 : flr c 0 = c.N - 1 := by unfold flr; rw [if_pos hpos]
    have HF0 := hyd hf0.symm
    clear hf0 start
    go_enter Try.func16, Try.ntmps16
    go_wp2
    generalize w.alloc (.cells (ckA c) 36) = w1 at *
    rw [← HBB.out] at HK
    rw [← HBB.out]
    go_loopg [5, 6] 24 (fun kx s5 s6 wr => ∃ i : Nat, s6 = .int .i64 i ∧ s5 = .int .i64 (flr c i) ∧ i ≤ 24 ∧ 24 - i ≤ kx ∧ wr = w1)
    case atStart => exact ⟨0, rfl, by rw [← HF0.out], by omega, by omega, rfl⟩
    case round =>
    obtain ⟨i, rfl, rfl, hin, hkx, rfl⟩ := hrel
    by_cases hlt : i < 24
    · have hltz : (i : Int) < 24 := by omega
      have kF := HK.out.F i hlt
      have HT : Hid (flr c (i + 1) = mxi (flr c i) (c.F i)) := rfl
      obtain ⟨t, ht⟩ : ∃ t, flr c i = t := ⟨_, rfl⟩
      rw [ht] at HT
      rw [ht]
      clear ht
      by_cases hc : t < c.F i
      · have hcb : decide (t < c.F i) = true := decide_eq_true hc
        go_wp2
        go_roundg (24 - (i + 1))
        case measure => omega
        case rel => exact ⟨i + 1, by simp, by rw [HT.out, mxi_yes hc], by omega, Nat.le_refl _, rfl⟩
      · have hcb : decide (t < c.F i) = false := decide_eq_false hc
        go_wp2
        go_roundg (24 - (i + 1))
        case measure => omega
        case rel => exact ⟨i + 1, by simp, by rw [HT.out, mxi_no (by omega)], by omega, Nat.le_refl _, rfl⟩
    · have hltz : ¬ (i : Int) < 24 := by omega
      rw [show i = 24 by omega]
      have hltz : ¬ ((24 : Nat) : Int) < 24 := by omega
      have HS1 := hyd (HS.out.new HG0.out)
      obtain ⟨w2, rfl⟩ : ∃ x, x = wr := ⟨_, rfl⟩
      go_wp2
      go_loopg [5, 7] n (fun kx s5 s7 wx => ∃ i : Nat, s7 = .int .i64 i ∧ s5 = .int .i64 (tpl (flr c 24) (l.take i)) ∧ i ≤ n ∧ n - i ≤ kx ∧ Hid (Chg (fun _ => False) w2 wx))
      case atStart => exact ⟨0, rfl, by simp [tpl], by omega, by omega, Chg.refl _ _⟩
      case round =>
      obtain ⟨i, rfl, rfl, hin, hkx, HGr⟩ := hrel
      by_cases hlt : i < n
      · have hltz : (i : Int) < (n : Int) := by omega
        obtain ⟨f, hf⟩ : ∃ f, l[i]? = some f := ⟨_, List.getElem?_eq_getElem (by rw [← HN.out]; exact hlt)⟩
        have HF := hyd hf
        obtain ⟨g, o, ha, hA⟩ := HS1.out.at6 (by rw [← HN.out]; omega)
        subst ha
        have hA2 := hA.chg HGr.out (fun h => h)
        have HR := hyd (hA2.2 i f hf)
        have HA2 := hyd hA2
        have HT := hyd (tpl_take (flr c 24) HF.out)
        obtain ⟨t, ht⟩ : ∃ t, tpl (flr c 24) (l.take i) = t := ⟨_, rfl⟩
        rw [ht] at HT
        rw [ht]
        clear hf hA ht hA2
        cases hsn : snd f with
        | false =>
          go_wp2_with (first | (refine wpList_load_at (f := f) rfl (.tmp 37) rfl g (o + i * 6) rfl ?_ ?_; exact HR.out) | (go_at_call 17; refine (rsound_any f _).mono ?_; rintro e w3 ⟨rfl, G3⟩; have A3 := HA2.out.chg G3 (fun h => h); obtain ⟨-, k2, k3, -⟩ := A3.fields HF.out; have HG3 := hyd (HGr.out.trans G3); clear A3 G3))
          go_roundg (n - (i + 1))
          case measure => omega
          case rel =>
            refine ⟨i + 1, by simp, ?_, by omega, Nat.le_refl _, HG3.out⟩
            rw [HT.out, hsn]; rfl
        | true =>
          by_cases hc : t < f.S
          · have hcb : decide (t < f.S) = true := decide_eq_true hc
            go_wp2_with (first | (refine wpList_load_at (f := f) rfl (.tmp 37) rfl g (o + i * 6) rfl ?_ ?_; exact HR.out) | (go_at_call 17; refine (rsound_any f _).mono ?_; rintro e w3 ⟨rfl, G3⟩; have A3 := HA2.out.chg G3 (fun h => h); obtain ⟨-, k2, k3, -⟩ := A3.fields HF.out; have HG3 := hyd (HGr.out.trans G3); clear A3 G3))
            go_roundg (n - (i + 1))
            case measure => omega
            case rel =>
              refine ⟨i + 1, by simp, ?_, by omega, Nat.le_refl _, HG3.out⟩
              rw [HT.out, hsn, if_pos rfl, mxi_yes hc]
          · have hcb : decide (t < f.S) = false := decide_eq_false hc
            go_wp2_with (first | (refine wpList_load_at (f := f) rfl (.tmp 37) rfl g (o + i * 6) rfl ?_ ?_; exact HR.out) | (go_at_call 17; refine (rsound_any f _).mono ?_; rintro e w3 ⟨rfl, G3⟩; have A3 := HA2.out.chg G3 (fun h => h); obtain ⟨-, k2, k3, -⟩ := A3.fields HF.out; have HG3 := hyd (HGr.out.trans G3); clear A3 G3))
            go_roundg (n - (i + 1))
            case measure => omega
            case rel =>
              refine ⟨i + 1, by simp, ?_, by omega, Nat.le_refl _, HG3.out⟩
              rw [HT.out, hsn, if_pos rfl, mxi_no (by omega)]
      · have hltz : ¬ (i : Int) < (n : Int) := by omega
        have hge : -1 ≤ tpl (flr c 24) (l.take i) := Int.le_trans (flr_ge c 24) (tpl_ge _ _).1
        have HE : Hid (nxt l c = if 1099511627775 ≤ tpl (flr c 24) (l.take i) then 1099511627775 else tpl (flr c 24) (l.take i) + 1) := by
          show _ = _
          rw [show i = l.length by have := HN.out; omega, List.take_length]
          rfl
        obtain ⟨t, ht⟩ : ∃ t, tpl (flr c 24) (l.take i) = t := ⟨_, rfl⟩
        rw [ht] at HE hge
        rw [ht]
        clear ht
        by_cases hc : 1099511627775 ≤ t
        · have hcb : decide (1099511627775 ≤ t) = true := decide_eq_true hc
          go_wp2
          go_ret
          exact ⟨by rw [HE.out, if_pos hc]; rfl, HG0.out.trans HGr.out⟩
        · have hcb : decide (1099511627775 ≤ t) = false := decide_eq_false hc
          go_wp2
          go_ret
          exact ⟨by rw [HE.out, if_neg (by omega)]; rfl, HG0.out.trans HGr.out⟩
  · have hf0 : flr c 0 = -1 := by unfold flr; rw [if_neg hpos]
    have HF0 := hyd hf0.symm
    clear hf0 start
    go_enter Try.func16, Try.ntmps16
    go_wp2
    generalize w.alloc (.cells (ckA c) 36) = w1 at *
    rw [← HBB.out] at HK
    rw [← HBB.out]
    go_loopg [5, 6] 24 (fun kx s5 s6 wr => ∃ i : Nat, s6 = .int .i64 i ∧ s5 = .int .i64 (flr c i) ∧ i ≤ 24 ∧ 24 - i ≤ kx ∧ wr = w1)
    case atStart => exact ⟨0, rfl, by rw [← HF0.out], by omega, by omega, rfl⟩
    case round =>
    obtain ⟨i, rfl, rfl, hin, hkx, rfl⟩ := hrel
    by_cases hlt : i < 24
    · have hltz : (i : Int) < 24 := by omega
      have kF := HK.out.F i hlt
      have HT : Hid (flr c (i + 1) = mxi (flr c i) (c.F i)) := rfl
      obtain ⟨t, ht⟩ : ∃ t, flr c i = t := ⟨_, rfl⟩
      rw [ht] at HT
      rw [ht]
      clear ht
      by_cases hc : t < c.F i
      · have hcb : decide (t < c.F i) = true := decide_eq_true hc
        go_wp2
        go_roundg (24 - (i + 1))
        case measure => omega
        case rel => exact ⟨i + 1, by simp, by rw [HT.out, mxi_yes hc], by omega, Nat.le_refl _, rfl⟩
      · have hcb : decide (t < c.F i) = false := decide_eq_false hc
        go_wp2
        go_roundg (24 - (i + 1))
        case measure => omega
        case rel => exact ⟨i + 1, by simp, by rw [HT.out, mxi_no (by omega)], by omega, Nat.le_refl _, rfl⟩
    · have hltz : ¬ (i : Int) < 24 := by omega
      rw [show i = 24 by omega]
      have hltz : ¬ ((24 : Nat) : Int) < 24 := by omega
      have HS1 := hyd (HS.out.new HG0.out)
      obtain ⟨w2, rfl⟩ : ∃ x, x = wr := ⟨_, rfl⟩
      go_wp2
      go_loopg [5, 7] n (fun kx s5 s7 wx => ∃ i : Nat, s7 = .int .i64 i ∧ s5 = .int .i64 (tpl (flr c 24) (l.take i)) ∧ i ≤ n ∧ n - i ≤ kx ∧ Hid (Chg (fun _ => False) w2 wx))
      case atStart => exact ⟨0, rfl, by simp [tpl], by omega, by omega, Chg.refl _ _⟩
      case round =>
      obtain ⟨i, rfl, rfl, hin, hkx, HGr⟩ := hrel
      by_cases hlt : i < n
      · have hltz : (i : Int) < (n : Int) := by omega
        obtain ⟨f, hf⟩ : ∃ f, l[i]? = some f := ⟨_, List.getElem?_eq_getElem (by rw [← HN.out]; exact hlt)⟩
        have HF := hyd hf
        obtain ⟨g, o, ha, hA⟩ := HS1.out.at6 (by rw [← HN.out]; omega)
        subst ha
        have hA2 := hA.chg HGr.out (fun h => h)
        have HR := hyd (hA2.2 i f hf)
        have HA2 := hyd hA2
        have HT := hyd (tpl_take (flr c 24) HF.out)
        obtain ⟨t, ht⟩ : ∃ t, tpl (flr c 24) (l.take i) = t := ⟨_, rfl⟩
        rw [ht] at HT
        rw [ht]
        clear hf hA ht hA2
        cases hsn : snd f with
        | false =>
          go_wp2_with (first | (refine wpList_load_at (f := f) rfl (.tmp 37) rfl g (o + i * 6) rfl ?_ ?_; exact HR.out) | (go_at_call 17; refine (rsound_any f _).mono ?_; rintro e w3 ⟨rfl, G3⟩; have A3 := HA2.out.chg G3 (fun h => h); obtain ⟨-, k2, k3, -⟩ := A3.fields HF.out; have HG3 := hyd (HGr.out.trans G3); clear A3 G3))
          go_roundg (n - (i + 1))
          case measure => omega
          case rel =>
            refine ⟨i + 1, by simp, ?_, by omega, Nat.le_refl _, HG3.out⟩
            rw [HT.out, hsn]; rfl
        | true =>
          by_cases hc : t < f.S
          · have hcb : decide (t < f.S) = true := decide_eq_true hc
            go_wp2_with (first | (refine wpList_load_at (f := f) rfl (.tmp 37) rfl g (o + i * 6) rfl ?_ ?_; exact HR.out) | (go_at_call 17; refine (rsound_any f _).mono ?_; rintro e w3 ⟨rfl, G3⟩; have A3 := HA2.out.chg G3 (fun h => h); obtain ⟨-, k2, k3, -⟩ := A3.fields HF.out; have HG3 := hyd (HGr.out.trans G3); clear A3 G3))
            go_roundg (n - (i + 1))
            case measure => omega
            case rel =>
              refine ⟨i + 1, by simp, ?_, by omega, Nat.le_refl _, HG3.out⟩
              rw [HT.out, hsn, if_pos rfl, mxi_yes hc]
          · have hcb : decide (t < f.S) = false := decide_eq_false hc
            go_wp2_with (first | (refine wpList_load_at (f := f) rfl (.tmp 37) rfl g (o + i * 6) rfl ?_ ?_; exact HR.out) | (go_at_call 17; refine (rsound_any f _).mono ?_; rintro e w3 ⟨rfl, G3⟩; have A3 := HA2.out.chg G3 (fun h => h); obtain ⟨-, k2, k3, -⟩ := A3.fields HF.out; have HG3 := hyd (HGr.out.trans G3); clear A3 G3))
            go_roundg (n - (i + 1))
            case measure => omega
            case rel =>
              refine ⟨i + 1, by simp, ?_, by omega, Nat.le_refl _, HG3.out⟩
              rw [HT.out, hsn, if_pos rfl, mxi_no (by omega)]
      · have hltz : ¬ (i : Int) < (n : Int) := by omega
        have hge : -1 ≤ tpl (flr c 24) (l.take i) := Int.le_trans (flr_ge c 24) (tpl_ge _ _).1
        have HE : Hid (nxt l c = if 1099511627775 ≤ tpl (flr c 24) (l.take i) then 1099511627775 else tpl (flr c 24) (l.take i) + 1) := by
          show _ = _
          rw [show i = l.length by have := HN.out; omega, List.take_length]
          rfl
        obtain ⟨t, ht⟩ : ∃ t, tpl (flr c 24) (l.take i) = t := ⟨_, rfl⟩
        rw [ht] at HE hge
        rw [ht]
        clear ht
        by_cases hc : 1099511627775 ≤ t
        · have hcb : decide (1099511627775 ≤ t) = true := decide_eq_true hc
          go_wp2
          go_ret
          exact ⟨by rw [HE.out, if_pos hc]; rfl, HG0.out.trans HGr.out⟩
        · have hcb : decide (1099511627775 ≤ t) = false := decide_eq_false hc
          go_wp2
          go_ret
          exact ⟨by rw [HE.out, if_neg (by omega)]; rfl, HG0.out.trans HGr.out⟩
end Go.Proofs.Ytjkpidhpjleebaa
