/-
  Newest: which of a list of founds counts for a number. Condition: at most 2932031007402 founds (2^47 bytes).
-/
import Derived.Test.YtjkpidhpjleebaaLat
namespace Go.Proofs.Ytjkpidhpjleebaa
set_option maxRecDepth 100000
open Go.RowKit Go.Sort

theorem results_fo {fn : Func} {q u : Tmp} (h : fn.results = #[.cell q 28, .tmp u]) (tmps : Array Value) {w : World} {g : Nat} {f : Fnd} (hp : tmps.getD q undef = .pointer (some ⟨g, 0, none⟩)) (hT : Fo w g f) :
    (results fn tmps).run Try.prog w = .ok (.tuple #[.agg (fA f), tmps.getD u undef]) w := by
  rw [results_cell_tmp h, hp]
  simp [asAddr, run_loadVar_row w g 28 28 _ _ _ hT Try.underlying28 rfl size28]
/-- What Newest answers. -/
def NewV : Option Fnd → Value
  | none => .tuple #[.agg (fA f0), .bool false]
  | some f => .tuple #[.agg (fA f), .bool true]
def NewR (w : World) (l : List Fnd) (of ab : Int) (e : Ending) (w' : World) : Prop := e = .returned (NewV (newest l of ab)) ∧ Chg (fun _ => False) w w'
theorem At6.fields {w : World} {g o : Nat} {l : List Fnd} (h : At6 w g o l) {i : Nat} {f : Fnd} (hi : l[i]? = some f) :
    w.cell? ⟨g, o + i * 6, none⟩ = some (.int .i64 f.P) ∧ w.cell? ⟨g, o + i * 6 + 2, none⟩ = some (.int .i64 f.O) ∧ w.cell? ⟨g, o + i * 6 + 3, none⟩ = some (.int .i64 f.S) ∧ w.cell? ⟨g, o + i * 6 + 4, none⟩ = some (.int .i64 f.C) := by
  have r := h.2 i f hi
  exact ⟨r 0 _ rfl, r 2 _ rfl, r 3 _ rfl, r 4 _ rfl⟩
theorem best_take {x f : Fnd} {r : List Fnd} {i : Nat} (h : r[i]? = some f) : best x (r.take (i + 1)) = if ahd f.C (best x (r.take i)).C then f else best x (r.take i) := by
  unfold best
  rw [List.take_add_one, h, List.foldl_append]
  rfl

theorem lat_length (l : List Fnd) (of ab : Int) : (lat l of ab).length ≤ l.length := by
  have h := insertion_stb swo (l.filter (cnd of ab)).toArray 0 (l.filter (cnd of ab)).toArray.size (Nat.zero_le _) (Nat.le_refl _)
  rw [← lat_sorted l of ab _ ⟨h.1, h.2⟩]
  refine Nat.le_trans (List.takeWhile_sublist _).length_le ?_
  have := h.1.size
  rw [Array.length_toList, this]
  simpa using List.length_filter_le _ _

theorem latest_n (w : World) (a : Option Addr) (cap : Nat) (l : List Fnd) (n : Nat) (hnl : n = l.length) (of ab : Int) (hs : Sl w (.slice a n cap) l) (hn : n < 2932031007402) (L : List Fnd) (hL : lat l of ab = L) (m : Nat) (hm : L.length = m) :
    Calls Try.prog 21 #[.slice a n cap, .int .i64 of, .int .i64 ab] w fun e w' => ∃ a' cap', e = .returned (.slice a' m cap') ∧ m ≤ cap' ∧ (m = 0 ∨ ∃ g o, a' = some ⟨g, o, none⟩ ∧ At6 w' g o L) ∧ Chg (fun _ => False) w w' := by
  refine (latest_any w a cap l n hnl of ab hs hn).mono ?_
  rintro e w' ⟨v, rfl, ⟨a', cap', rfl, h1, h2⟩, h3⟩
  rw [hL, hm] at h1 h2
  rw [hL, hm]
  exact ⟨a', cap', rfl, h1, h2, h3⟩

theorem latest_c (w : World) (a : Option Addr) (cap : Nat) (l : List Fnd) (n : Nat) (hnl : n = l.length) (of ab : Int) (hs : Sl w (.slice a n cap) l) (hn : n < 2932031007402) (L : List Fnd) (hL : lat l of ab = L) (m : Nat) (hm : L.length = m) (h0 : m ≠ 0) :
    Calls Try.prog 21 #[.slice a n cap, .int .i64 of, .int .i64 ab] w fun e w' => ∃ g o cap', e = .returned (.slice (some ⟨g, o, none⟩) m cap') ∧ m ≤ cap' ∧ At6 w' g o L ∧ Chg (fun _ => False) w w' := by
  refine (latest_n w a cap l n hnl of ab hs hn L hL m hm).mono ?_
  rintro e w' ⟨a', cap', rfl, h1, h2, h3⟩
  rcases h2 with h2 | ⟨g, o, rfl, h2⟩
  · exact absurd h2 h0
  · exact ⟨g, o, cap', rfl, h1, h2, h3⟩

set_option maxHeartbeats 8000000 in
theorem newest_any (w : World) (a : Option Addr) (cap : Nat) (l : List Fnd) (n : Nat) (hnl : n = l.length) (of ab : Int) (hs : Sl w (.slice a n cap) l) (hn : n < 2932031007402) :
    Calls Try.prog 11 #[.slice a n cap, .int .i64 of, .int .i64 ab] w (NewR w l of ab) := by
  have HS := hyd hs
  have HN := hyd hnl
  have HB : Hid (newest l of ab = pk (lat l of ab)) := rfl
  clear hs hnl
  go_enter Try.func11, Try.ntmps11
  go_wp2_with (refine wpList_alloc_fo rfl rfl w.heap.size rfl ?_)
  intro w1 K1 G1 S1
  have hlen := lat_length l of ab
  have HS1 := hyd (HS.out.new G1)
  have HK1 := hyd K1
  have HG1 := hyd G1
  clear K1 G1 HS
  obtain ⟨L, hL⟩ : ∃ L, lat l of ab = L := ⟨_, rfl⟩
  rw [hL] at HB hlen
  have HL := hyd hL
  clear hL
  cases L with
  | nil =>
    have c21 := latest_n w1 a cap l n HN.out of ab HS1.out hn _ HL.out 0 rfl
    go_wp2_with (first | (go_at_call 21; refine c21.mono ?_; rintro e w2 ⟨a', cap', rfl, hcap, -, G2⟩; have HK2 := hyd (HK1.out.chg G2 (fun h => h)); have HG2 := hyd (HG1.out.trans G2); clear G2) | refine wpList_build_fo rfl rfl ?_ | refine wpList_store_fo rfl (.tmp 6) (.tmp 19) rfl w.heap.size rfl rfl HK2.out ?_)
    intro w3 K3 G3
    have HK3 := hyd K3
    have HG3 := hyd (HG2.out.trans' G3 fun k hk h => by omega)
    clear K3 G3
    go_wp2
    refine bodyPost_ret (results_fo rfl _ rfl HK3.out) rfl ?_
    refine ⟨?_, HG3.out⟩
    rw [HB.out]; rfl
  | cons x r =>
    obtain ⟨k, hk⟩ : ∃ k, r.length = k := ⟨_, rfl⟩
    have hkb : (k : Int) < 2932031007402 := by have := HN.out; rw [List.length_cons, hk] at hlen; omega
    have c21 := latest_c w1 a cap l n HN.out of ab HS1.out hn _ HL.out (k + 1) (by rw [List.length_cons, hk]) (by omega)
    have HKk := hyd hk
    have hkne' : ((k : Int) + 1 == 0) = false := by simp only [beq_eq_false_iff_ne]; omega
    have hs1 : w.heap.size + 1 = w1.heap.size := S1.symm
    clear hk hlen S1
    go_wp2_with (first | (go_at_call 21; refine c21.mono ?_; rintro e w2 ⟨g, o, cap', rfl, hcap, hA0, G2⟩; have HK2 := hyd (HK1.out.chg G2 (fun h => h)); have HG2 := hyd (HG1.out.trans G2); have hs2 := G2.size; have HA2 := hyd hA0; clear G2 hA0) | (refine wpList_load_at (f := x) rfl (.tmp 21) rfl g o rfl ?_ ?_; exact HA2.out.2 0 x rfl) | (refine wpList_alloc_fo rfl rfl w2.heap.size rfl ?_))
    intro w3 K3 G3 S3
    have HK3 := hyd K3
    have hgs : g < w2.heap.size := HA2.out.1
    have hcap2 : (1 : Int) ≤ (cap' : Int) := by omega
    clear K3 c21
    go_wp2_with (refine wpList_store_fo rfl (.tmp 9) (.tmp 22) rfl w2.heap.size rfl rfl HK3.out ?_)
    intro w4 K4 G4
    have G34 := G3.trans' G4 (fun k hk h => by omega)
    have HG4 := hyd (HG2.out.trans G34)
    have HA4 := hyd (HA2.out.chg G34 (fun h => h))
    have HR4 := hyd (HK2.out.chg G34 (fun h => h))
    have HK4 := hyd K4
    have hs4 : w2.heap.size + 1 ≤ w4.heap.size := by have := K4.lt; omega
    clear K4 G4 G3 G34 HK3 S3 HA2 HG2 HK2
    obtain ⟨B, HBB⟩ : ∃ B, Hid (B = w2.heap.size) := ⟨_, rfl⟩
    rw [← HBB.out]
    rw [← HBB.out] at HK4 hs4 hgs hs2
    by_cases hc1 : cap' = 1
    · subst hc1
      have hk0 : k = 0 := by omega
      subst hk0
      go_wp2
      refine wp_loop_rounds 1 ?_
      rw [rounds_succ]
      go_wp2_with (first | (refine wpList_load_fo rfl (.tmp 9) rfl B rfl HK4.out ?_) | (refine wpList_store_fo rfl (.tmp 6) (.tmp 39) rfl w.heap.size rfl rfl HR4.out ?_))
      intro w5 K5 G5
      have HK5 := hyd K5
      have HG5 := hyd (HG4.out.trans' G5 fun k hk h => by omega)
      clear K5 G5
      go_wp2
      refine bodyPost_ret (results_fo rfl _ rfl HK5.out) rfl ?_
      refine ⟨?_, HG5.out⟩
      rw [HB.out, List.length_eq_zero_iff.1 HKk.out]; rfl
    · have hc1' : ¬ ((cap' : Int) = 1) := by omega
      go_wp2_with fail
      go_loopg [26] k (fun kx s26 wr => ∃ i : Nat, s26 = .int .i64 i ∧ i ≤ k ∧ k - i ≤ kx ∧ Hid (Fo wr B (best x (r.take i))) ∧ Hid (Chg (· = B) w4 wr))
      case atStart => exact ⟨0, rfl, by omega, by omega, HK4.out, Chg.refl _ _⟩
      case round =>
      obtain ⟨i, rfl, hik, hkx, HKr, HGr⟩ := hrel
      have HBl := hyd HKr.out.lt
      by_cases hlt : i < k
      · have hltz : (i : Int) < (k : Int) := by omega
        obtain ⟨f, hf⟩ : ∃ f, r[i]? = some f := ⟨_, List.getElem?_eq_getElem (by rw [HKk.out]; exact hlt)⟩
        have HF := hyd hf
        have hR := (HA4.out.chg HGr.out (by omega)).2 (i + 1) f (by simpa using hf)
        rw [show o + (i + 1) * 6 = o + 6 + i * 6 by omega] at hR
        have HR := hyd hR
        clear hf hR
        go_wp2_with (first | (refine wpList_load_at (f := f) rfl (.tmp 28) rfl g (o + 6 + i * 6) rfl ?_ ?_; exact HR.out) | (refine wpList_alloc_fo rfl rfl wr.heap.size rfl ?_))
        intro w5 K5 G5 S5
        have HK5 := hyd K5
        clear K5
        go_wp2_with (refine wpList_store_fo rfl (.tmp 11) (.tmp 29) rfl wr.heap.size rfl rfl HK5.out ?_)
        intro w6 K6 G6
        have hBl := HBl.out
        have G56 := G5.trans' G6 (fun k hk h => by omega)
        have K6b := HKr.out.chg G56 (fun h => h)
        have HG6 := hyd (HGr.out.trans' G56 (fun _ _ h => h.elim))
        have HK6 := hyd K6
        have HK6b := hyd K6b
        obtain ⟨-, -, -, -, x4, -⟩ := K6.cells
        obtain ⟨-, -, -, -, y4, -⟩ := K6b.cells
        clear K6 K6b G5 G6 G56 HK5 S5 HR
        have HT := hyd (best_take (x := x) HF.out)
        obtain ⟨b, hb⟩ : ∃ b, best x (r.take i) = b := ⟨_, rfl⟩
        rw [hb] at y4 HK6b HT HKr
        clear hb
        cases ha : ahd f.C b.C with
        | true =>
          go_wp2_with (first | (go_at_call 9; refine (ahead_any _ _ _).mono ?_; rintro e w' ⟨rfl, rfl⟩) | (refine wpList_load_fo (f := f) rfl (.tmp 11) rfl wr.heap.size rfl ?_ ?_; exact HK6.out) | (refine wpList_store_fo (f' := b) rfl (.tmp 9) (.tmp 37) rfl B rfl rfl HK6b.out ?_))
          intro w7 K7 G7
          have HK7 := hyd K7
          have HG7 := hyd (HG6.out.trans G7)
          clear K7 G7
          go_wp2
          go_roundg (k - (i + 1))
          case measure => omega
          case rel =>
            refine ⟨i + 1, by simp, by omega, Nat.le_refl _, ?_, HG7.out⟩
            show Fo _ _ _
            rw [HT.out, if_pos ha]
            exact HK7.out
        | false =>
          go_wp2_with (first | (go_at_call 9; refine (ahead_any _ _ _).mono ?_; rintro e w' ⟨rfl, rfl⟩))
          go_roundg (k - (i + 1))
          case measure => omega
          case rel =>
            refine ⟨i + 1, by simp, by omega, Nat.le_refl _, ?_, HG6.out⟩
            show Fo _ _ _
            rw [HT.out, if_neg (by rw [ha]; simp)]
            exact HK6b.out
      · have hltz : ¬ (i : Int) < (k : Int) := by omega
        have HR5 := hyd (HR4.out.chg HGr.out (by omega))
        go_wp2_with (first | (refine wpList_load_fo rfl (.tmp 9) rfl B rfl HKr.out ?_) | (refine wpList_store_fo rfl (.tmp 6) (.tmp 39) rfl w.heap.size rfl rfl HR5.out ?_))
        intro w5 K5 G5
        have HK5 := hyd K5
        have HG5 := hyd ((HG4.out.trans' HGr.out fun k hk h => by omega).trans' G5 fun k hk h => by omega)
        clear K5 G5
        go_wp2
        refine bodyPost_ret (results_fo rfl _ rfl HK5.out) rfl ?_
        refine ⟨?_, HG5.out⟩
        rw [HB.out, show i = r.length by have := HKk.out; omega, List.take_length]; rfl
end Go.Proofs.Ytjkpidhpjleebaa
