/-
  The arithmetic of the field of 256 elements, over plain numbers: the table of powers, the table of logarithms, the product by them, and that it is the product of the document's answer (bit by bit), a field's product, linear. No condition: plain mathematics.
-/
namespace Go.Proofs.Ytdofegphipbcdaa

def tabE : Nat := 70160881166704368827218703435136616750530459438269794890424969378298545675077208731798828898087927652446353395360628748027273188182808436399538186061104243134188885576122562338679313492324190829158544377810568631194580132524405266702234305646236648896994794467054525044798919765581988418950285252905306116225263236585714808161311289784028762024137133735135393922581566890382566480334369299400480864790538739986285574563168380416343369614948461817839620668187777978661530364712890858126432457562886306102556561631759900551331094983229723298224611133722330829711659991602983068895685602467964643306841827719562658305
def tabL : Nat := 22135253156888987530748098150270024343632497605293634117281264061560962248099620766229961468867162294233796152347975563017024165690400661622462404646302566225833645086064538892198543335321514950294300187779610338557442029018619797274438901674641748676613670242915365385819254959901651105240253464034662486586186382979728982817772067067513442677601938078891989292316012868233806586592927239821351197800766822366321181463280924672822998103315976779850880337712374790938628529953751181886374687897611504386983350015558142994211516619836411558782076806704747441947939324473761869443721989389604670425385080942269787340800

/-- The k-th power of the root, k from 0 to 254. -/
def ex (k : Nat) : Nat := (tabE >>> (8 * k)) % 256
/-- The logarithm of an element that is not 0 (0 at 0). -/
def lg (a : Nat) : Nat := (tabL >>> (8 * a)) % 256
/-- The product. -/
def gm (a b : Nat) : Nat := if a = 0 then 0 else if b = 0 then 0 else ex ((lg a + lg b) % 255)
/-- The inverse of an element that is not 0. -/
def iv (a : Nat) : Nat := ex ((255 - lg a) % 255)
/-- Twice an element. -/
def xt (x : Nat) : Nat := if 256 ≤ x * 2 then (x * 2) ^^^ 285 else x * 2

/-- The document's answer, first loop: i rounds. -/
def s1 (a b : Nat) : Nat → Nat
  | 0 => 0
  | i + 1 => if (b >>> i) % 2 = 1 then s1 a b i ^^^ (a <<< i) else s1 a b i
/-- The document's answer, second loop: j rounds. -/
def s2 (s : Nat) : Nat → Nat
  | 0 => s
  | j + 1 => if (s2 s j >>> (14 - j)) % 2 = 1 then s2 s j ^^^ (285 <<< (6 - j)) else s2 s j
def rm (a b : Nat) : Nat := s2 (s1 a b 8) 7

def allB : Nat → (Nat → Bool) → Bool
  | 0, _ => true
  | n + 1, f => f n && allB n f
theorem allB_at {n : Nat} {f : Nat → Bool} (h : allB n f = true) (k : Nat) (hk : k < n) : f k = true := by
  induction n with
  | zero => omega
  | succ n ih =>
    simp only [allB, Bool.and_eq_true] at h
    by_cases e : k = n
    · rw [e]; exact h.1
    · exact ih h.2 (by omega)
def all2 (f : Nat → Nat → Bool) : Bool := allB 256 fun a => allB 256 fun b => f a b
theorem all2_at {f : Nat → Nat → Bool} (h : all2 f = true) (a b : Nat) (ha : a < 256) (hb : b < 256) : f a b = true :=
  allB_at (allB_at h a ha) b hb

theorem ex_lt (k : Nat) : ex k < 256 := Nat.mod_lt _ (by decide)
theorem lg_lt' (a : Nat) : lg a < 256 := Nat.mod_lt _ (by decide)
theorem ex_zero : ex 0 = 1 := by decide +kernel
theorem ex_succ_all : allB 254 (fun k => ex (k + 1) == xt (ex k)) = true := by decide +kernel
theorem ex_succ (k : Nat) (h : k < 254) : ex (k + 1) = xt (ex k) := by simpa using allB_at ex_succ_all k h
theorem ex_last : xt (ex 254) = 1 := by decide +kernel
theorem ex_lg_all : allB 255 (fun k => lg (ex k) == k && !(ex k == 0)) = true := by decide +kernel
theorem lg_ex (k : Nat) (h : k < 255) : lg (ex k) = k := by
  have := allB_at ex_lg_all k h
  simp only [Bool.and_eq_true, beq_iff_eq] at this
  exact this.1
theorem ex_ne (k : Nat) (h : k < 255) : ex k ≠ 0 := by
  have := allB_at ex_lg_all k h
  simp only [Bool.and_eq_true, Bool.not_eq_true', beq_eq_false_iff_ne] at this
  exact this.2
theorem lg_all : allB 256 (fun a => a == 0 || (ex (lg a) == a && decide (lg a < 255))) = true := by decide +kernel
theorem ex_lg (a : Nat) (h : a < 256) (h0 : a ≠ 0) : ex (lg a) = a := by
  have := allB_at lg_all a h
  simp only [Bool.or_eq_true, Bool.and_eq_true, beq_iff_eq, decide_eq_true_eq] at this
  rcases this with h1 | h1
  · exact absurd h1 h0
  · exact h1.1
theorem lg_lt (a : Nat) (h : a < 256) : lg a < 255 := by
  have := allB_at lg_all a h
  simp only [Bool.or_eq_true, Bool.and_eq_true, beq_iff_eq, decide_eq_true_eq] at this
  rcases this with h1 | h1
  · subst h1; decide +kernel
  · exact h1.2
theorem lg_zero : lg 0 = 0 := by decide +kernel
theorem gm_lt (a b : Nat) : gm a b < 256 := by
  unfold gm; split
  · decide
  · split
    · decide
    · exact ex_lt _
theorem gm_zero_left (b : Nat) : gm 0 b = 0 := by simp [gm]
theorem gm_zero_right (a : Nat) : gm a 0 = 0 := by simp [gm]
theorem gm_of_ne {a b : Nat} (ha : a ≠ 0) (hb : b ≠ 0) : gm a b = ex ((lg a + lg b) % 255) := by simp [gm, ha, hb]
theorem gm_ne {a b : Nat} (ha : a ≠ 0) (hb : b ≠ 0) : gm a b ≠ 0 := by
  rw [gm_of_ne ha hb]; exact ex_ne _ (Nat.mod_lt _ (by decide))
theorem gm_comm (a b : Nat) : gm a b = gm b a := by
  by_cases ha : a = 0
  · subst ha; rw [gm_zero_left, gm_zero_right]
  by_cases hb : b = 0
  · subst hb; rw [gm_zero_left, gm_zero_right]
  rw [gm_of_ne ha hb, gm_of_ne hb ha, Nat.add_comm]
theorem lg_gm {a b : Nat} (ha : a ≠ 0) (hb : b ≠ 0) : lg (gm a b) = (lg a + lg b) % 255 := by
  rw [gm_of_ne ha hb, lg_ex _ (Nat.mod_lt _ (by decide))]
theorem gm_assoc (a b c : Nat) : gm (gm a b) c = gm a (gm b c) := by
  by_cases ha : a = 0
  · subst ha; simp only [gm_zero_left]
  by_cases hb : b = 0
  · subst hb; simp only [gm_zero_left, gm_zero_right]
  by_cases hc : c = 0
  · subst hc; simp only [gm_zero_right]
  rw [gm_of_ne (gm_ne ha hb) hc, gm_of_ne ha (gm_ne hb hc), lg_gm ha hb, lg_gm hb hc]
  congr 1; omega
theorem gm_one (a : Nat) (h : a < 256) : gm a 1 = a := by
  by_cases ha : a = 0
  · subst ha; rw [gm_zero_left]
  have l1 : lg 1 = 0 := by decide +kernel
  rw [gm_of_ne ha (by decide), l1, Nat.add_zero, Nat.mod_eq_of_lt (lg_lt a h)]
  exact ex_lg a h ha
theorem gm_two_all : allB 256 (fun a => gm a 2 == xt a) = true := by decide +kernel
theorem gm_two (a : Nat) (h : a < 256) : gm a 2 = xt a := by simpa using allB_at gm_two_all a h
theorem iv_lt (a : Nat) : iv a < 256 := ex_lt _
theorem iv_ne (a : Nat) : iv a ≠ 0 := ex_ne _ (Nat.mod_lt _ (by decide))
theorem gm_iv (a : Nat) (h : a < 256) (h0 : a ≠ 0) : gm a (iv a) = 1 := by
  have := lg_lt a h
  rw [gm_of_ne h0 (iv_ne a)]
  unfold iv
  rw [lg_ex _ (Nat.mod_lt _ (by decide)), show (lg a + (255 - lg a) % 255) % 255 = 0 from by omega, ex_zero]
theorem gm_eq_one {a b : Nat} (ha : a < 256) (h0 : a ≠ 0) (hb : b < 256) (h : gm a b = 1) : b = iv a := by
  have e : gm (iv a) (gm a b) = gm (iv a) 1 := by rw [h]
  rw [← gm_assoc, gm_comm (iv a) a, gm_iv a ha h0, gm_comm 1 b, gm_one b hb, gm_one _ (iv_lt a)] at e
  exact e

theorem bit_dec (b i : Nat) : ((b >>> i) % 2 = 1) ↔ (b.testBit i = true) := by
  rw [Nat.testBit_eq_decide_div_mod_eq, decide_eq_true_eq, Nat.shiftRight_eq_div_pow]
theorem bit_xor (b c i : Nat) : ((b ^^^ c) >>> i) % 2 = ((b >>> i) % 2 + (c >>> i) % 2) % 2 := by
  have h := Nat.testBit_xor b c i
  have h0 := bit_dec (b ^^^ c) i
  have h1 := bit_dec b i
  have h2 := bit_dec c i
  rw [h] at h0
  cases e1 : b.testBit i <;> cases e2 : c.testBit i <;> simp [e1, e2] at h0 h1 h2 <;> omega
theorem xor_lt (a b : Nat) (ha : a < 256) (hb : b < 256) : a ^^^ b < 256 := Nat.xor_lt_two_pow (n := 8) ha hb

/-- c, where the bit is 1, else 0. -/
def pk (t c : Nat) : Nat := if t % 2 = 1 then c else 0
theorem pk_add (t u c : Nat) : pk ((t + u) % 2) c = pk t c ^^^ pk u c := by
  unfold pk
  have h1 : t % 2 = 0 ∨ t % 2 = 1 := by omega
  have h2 : u % 2 = 0 ∨ u % 2 = 1 := by omega
  rcases h1 with h1 | h1 <;> rcases h2 with h2 | h2
  · rw [if_neg (by omega), if_neg (by omega), if_neg (by omega)]; rfl
  · rw [if_pos (by omega), if_neg (by omega), if_pos (by omega), Nat.zero_xor]
  · rw [if_pos (by omega), if_pos (by omega), if_neg (by omega), Nat.xor_zero]
  · rw [if_neg (by omega), if_pos (by omega), if_pos (by omega), Nat.xor_self]
theorem pk_mod (t c : Nat) : pk (t % 2) c = pk t c := by unfold pk; rw [Nat.mod_mod]
theorem pk_xor (b d i c : Nat) : pk ((b ^^^ d) >>> i) c = pk (b >>> i) c ^^^ pk (d >>> i) c := by
  rw [← pk_mod, bit_xor, pk_mod, ← pk_mod, pk_add, pk_mod, pk_mod]
theorem s1_pk (a b i : Nat) : s1 a b (i + 1) = s1 a b i ^^^ pk (b >>> i) (a <<< i) := by
  simp only [s1, pk]; split <;> simp
theorem s2_pk (s j : Nat) : s2 s (j + 1) = s2 s j ^^^ pk (s2 s j >>> (14 - j)) (285 <<< (6 - j)) := by
  simp only [s2, pk]; split <;> simp
theorem xor4 (a b c d : Nat) : (a ^^^ b) ^^^ (c ^^^ d) = (a ^^^ c) ^^^ (b ^^^ d) := by ac_rfl
theorem s1_xor (a b c i : Nat) : s1 a (b ^^^ c) i = s1 a b i ^^^ s1 a c i := by
  induction i with
  | zero => simp [s1]
  | succ i ih => rw [s1_pk, s1_pk, s1_pk, ih, pk_xor, xor4]
theorem s2_xor (s t j : Nat) : s2 (s ^^^ t) j = s2 s j ^^^ s2 t j := by
  induction j with
  | zero => rfl
  | succ j ih => rw [s2_pk, s2_pk, s2_pk, ih, pk_xor, xor4]
theorem rm_xor (a b c : Nat) : rm a (b ^^^ c) = rm a b ^^^ rm a c := by unfold rm; rw [s1_xor, s2_xor]
theorem s1_nil (a i : Nat) : s1 a 0 i = 0 := by
  induction i with
  | zero => rfl
  | succ i ih => rw [s1_pk, ih]; simp [pk]
theorem s2_nil (j : Nat) : s2 0 j = 0 := by
  induction j with
  | zero => rfl
  | succ j ih => rw [s2_pk, ih]; simp [pk]
theorem rm_nil (a : Nat) : rm a 0 = 0 := by unfold rm; rw [s1_nil, s2_nil]

theorem xt_pk_all : allB 256 (fun x => xt x == ((x <<< 1) ^^^ pk (x >>> 7) 285)) = true := by decide +kernel
theorem xt_pk (x : Nat) (h : x < 256) : xt x = (x <<< 1) ^^^ pk (x >>> 7) 285 := by simpa using allB_at xt_pk_all x h
theorem xt_xor (x y : Nat) (hx : x < 256) (hy : y < 256) : xt (x ^^^ y) = xt x ^^^ xt y := by
  rw [xt_pk x hx, xt_pk y hy, xt_pk _ (xor_lt x y hx hy), pk_xor, Nat.shiftLeft_xor_distrib, xor4]
theorem gm_ex_succ (k b : Nat) (hk : k < 254) : gm (ex (k + 1)) b = xt (gm (ex k) b) := by
  rw [ex_succ k hk, ← gm_two _ (ex_lt k), gm_comm (ex k) 2, gm_assoc, gm_comm 2, gm_two _ (gm_lt _ _)]
theorem gm_ex_xor (k b c : Nat) (hk : k < 255) (hb : b < 256) (hc : c < 256) : gm (ex k) (b ^^^ c) = gm (ex k) b ^^^ gm (ex k) c := by
  induction k with
  | zero => rw [ex_zero, gm_comm 1, gm_comm 1, gm_comm 1, gm_one _ hb, gm_one _ hc, gm_one _ (xor_lt b c hb hc)]
  | succ k ih =>
    rw [gm_ex_succ k _ (by omega), gm_ex_succ k _ (by omega), gm_ex_succ k _ (by omega), ih (by omega), xt_xor _ _ (gm_lt _ _) (gm_lt _ _)]
theorem gm_xor (a b c : Nat) (ha : a < 256) (hb : b < 256) (hc : c < 256) : gm a (b ^^^ c) = gm a b ^^^ gm a c := by
  by_cases h0 : a = 0
  · subst h0; simp only [gm_zero_left]; rfl
  · have := gm_ex_xor (lg a) b c (lg_lt a ha) hb hc
    rwa [ex_lg a ha h0] at this
theorem xor_gm (a b c : Nat) (ha : a < 256) (hb : b < 256) (hc : c < 256) : gm (b ^^^ c) a = gm b a ^^^ gm c a := by
  rw [gm_comm _ a, gm_xor a b c ha hb hc, gm_comm a b, gm_comm a c]

/-- A byte is the sum of its bits. -/
def bs (b i : Nat) : Nat := pk (b >>> i) (1 <<< i)
theorem bits_all : allB 256 (fun b => b == (bs b 0 ^^^ (bs b 1 ^^^ (bs b 2 ^^^ (bs b 3 ^^^ (bs b 4 ^^^ (bs b 5 ^^^ (bs b 6 ^^^ bs b 7)))))))) = true := by decide +kernel
theorem bs_lt (b i : Nat) (h : i < 8) : bs b i < 256 := by
  unfold bs pk
  split
  · rcases (by omega : i = 0 ∨ i = 1 ∨ i = 2 ∨ i = 3 ∨ i = 4 ∨ i = 5 ∨ i = 6 ∨ i = 7) with h | h | h | h | h | h | h | h <;> subst h <;> decide
  · decide
theorem add_ext (f g : Nat → Nat) (hf : ∀ x y, x < 256 → y < 256 → f (x ^^^ y) = f x ^^^ f y) (hg : ∀ x y, x < 256 → y < 256 → g (x ^^^ y) = g x ^^^ g y)
    (f0 : f 0 = 0) (g0 : g 0 = 0) (h : ∀ i, i < 8 → f (1 <<< i) = g (1 <<< i)) (b : Nat) (hb : b < 256) : f b = g b := by
  have hs : ∀ i, i < 8 → f (bs b i) = g (bs b i) := fun i hi => by
    unfold bs pk
    split
    · exact h i hi
    · rw [f0, g0]
  have hl : ∀ i, i < 8 → bs b i < 256 := fun i hi => bs_lt b i hi
  have e : b = (bs b 0 ^^^ (bs b 1 ^^^ (bs b 2 ^^^ (bs b 3 ^^^ (bs b 4 ^^^ (bs b 5 ^^^ (bs b 6 ^^^ bs b 7))))))) := by simpa using allB_at bits_all b hb
  rw [e]
  have l7 := hl 7 (by omega)
  have l6 := xor_lt _ _ (hl 6 (by omega)) l7
  have l5 := xor_lt _ _ (hl 5 (by omega)) l6
  have l4 := xor_lt _ _ (hl 4 (by omega)) l5
  have l3 := xor_lt _ _ (hl 3 (by omega)) l4
  have l2 := xor_lt _ _ (hl 2 (by omega)) l3
  have l1 := xor_lt _ _ (hl 1 (by omega)) l2
  rw [hf _ _ (hl 0 (by omega)) l1, hf _ _ (hl 1 (by omega)) l2, hf _ _ (hl 2 (by omega)) l3, hf _ _ (hl 3 (by omega)) l4, hf _ _ (hl 4 (by omega)) l5, hf _ _ (hl 5 (by omega)) l6, hf _ _ (hl 6 (by omega)) l7]
  rw [hg _ _ (hl 0 (by omega)) l1, hg _ _ (hl 1 (by omega)) l2, hg _ _ (hl 2 (by omega)) l3, hg _ _ (hl 3 (by omega)) l4, hg _ _ (hl 4 (by omega)) l5, hg _ _ (hl 5 (by omega)) l6, hg _ _ (hl 6 (by omega)) l7]
  rw [hs 0 (by omega), hs 1 (by omega), hs 2 (by omega), hs 3 (by omega), hs 4 (by omega), hs 5 (by omega), hs 6 (by omega), hs 7 (by omega)]
theorem rm_pow_all : allB 256 (fun a => allB 8 fun i => rm a (1 <<< i) == gm a (1 <<< i)) = true := by decide +kernel
theorem rm_eq (a b : Nat) (ha : a < 256) (hb : b < 256) : rm a b = gm a b :=
  add_ext (rm a) (gm a) (fun x y _ _ => rm_xor a x y) (fun x y hx hy => gm_xor a x y ha hx hy) (rm_nil a) (gm_zero_right a)
    (fun i hi => by simpa using allB_at (allB_at rm_pow_all a ha) i hi) b hb

end Go.Proofs.Ytdofegphipbcdaa
