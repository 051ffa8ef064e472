/-
  point.Read, walked: the checkpoint of 174 bytes that are one's; ErrForm for the others. Condition: the bytes can be read.
-/
import Derived.Test.YtipeldekiloanaaTakeC
namespace Go.Proofs.Ytipeldekiloanaa
open Go.RowKit
set_option maxRecDepth 100000

/-- l are the bytes of a checkpoint that can be told. -/
def IsP (l : List Nat) : Prop := Okc (rdC l) ∧ wrL (rdC l) = l
/-- The world in which the reader starts. -/
def rst0 (w : World) (c o cap : Nat) : World := (w.alloc (.cells (ckA ck0) 26)).alloc (.cells #[.slice (some ⟨c, o, none⟩) 174 cap, .nilIface] 52)
theorem rst0_is (w : World) (c o cap : Nat) : Rdp (rst0 w c o cap) (w.heap.size + 1) c o cap 0 ∧ Chg (fun _ => False) w (rst0 w c o cap) ∧ Ck (rst0 w c o cap) w.heap.size ck0 := by
  have hN := heap_alloc_new (w.alloc (.cells (ckA ck0) 26)) (.cells #[.slice (some ⟨c, o, none⟩) 174 cap, .nilIface] 52)
  have e1 : (w.alloc (.cells (ckA ck0) 26)).heap.size = w.heap.size + 1 := by simp
  rw [e1] at hN
  exact ⟨hN, ((Chg.refl _ w).alloc _).alloc _, (Ck.new w ck0).alloc _⟩
set_option maxHeartbeats 2000000 in
theorem read_len (w : World) (a : Option Addr) (n cap : Nat) (hn : n ≠ 174) :
    Calls Try.prog 11 #[.slice a n cap] w fun e w' => e = .returned (.tuple #[.agg (ckA ck0), .iface 44 (.int .i64 3)]) ∧ Chg (fun _ => False) w w' := by
  have hn' : ((n : Int) != 174) = true := by simp only [bne_iff_ne, ne_eq]; omega
  have hb := build26
  have HT := hyd (Ck.new w ck0)
  have G0 : Chg (fun _ => False) w (w.alloc (.cells (ckA ck0) 26)) := (Chg.refl _ w).alloc _
  have HG := hyd G0
  clear hn G0
  go_enter Try.func11, Try.ntmps11
  go_wp2_with (first | refine wpList_alloc_ck rfl rfl ?_ | refine wpList_build_ck rfl rfl ?_ | refine wpList_store_ck rfl (.tmp 2) (.tmp 11) rfl w.heap.size rfl rfl HT.out ?_)
  intro w3 T3 G3
  have HT3 := hyd T3
  have HG3 : Hid (Chg (fun _ => False) w w3) := hyd (HG.out.trans' G3 (fun i hi ht => by omega))
  clear T3 G3
  go_wp2
  refine bodyPost_ret (results_ck rfl _ rfl HT3.out) rfl ?_
  exact ⟨rfl, HG3.out⟩
set_option maxHeartbeats 4000000 in
theorem read_bad (w : World) (c o cap : Nat) (l : List Nat) (hl : Bys l) (hL : l.length = 174) (hcap : 174 ≤ cap) (hA : At w c o l) (hm : ¬ Okc (rdC l)) :
    Calls Try.prog 11 #[.slice (some ⟨c, o, none⟩) 174 cap] w fun e w' => e = .returned (.tuple #[.agg (ckA ck0), .iface 44 (.int .i64 3)]) ∧ Chg (fun _ => False) w w' := by
  have hb := build26
  have q1 := neq_nil_nil
  have q2 := neq_arg_nil
  have he := fun w => write_no w (rdC l) hm
  have hcs := hA.1
  have HA := hyd hA
  have HL := hyd hL
  clear hA hL
  go_enter Try.func11, Try.ntmps11
  go_wp2_with (first | refine wpList_alloc_ck rfl rfl ?_)
  have hs := rst0_is w c o cap
  change Calls Try.prog 17 _ (rst0 w c o cap) _
  generalize rst0 w c o cap = w0 at *
  obtain ⟨R0, G0, K0⟩ := hs
  have hcall := takeC_any w0 (w.heap.size + 1) c o cap l R0 HL.out hl hcap (HA.out.chg G0 (fun e => e)) (by omega)
  refine hcall.mono ?_
  rintro e w1 ⟨rfl, R1, G1⟩
  have HK1 := hyd (K0.chg G1 (by omega))
  have HR1 := hyd R1
  have HG1 : Hid (Chg (fun _ => False) w w1) := hyd (G0.trans' G1 (fun i hi hh => by omega))
  have HN : Hid (Ck (w1.alloc (.cells (ckA ck0) 26)) w1.heap.size ck0) := hyd (Ck.new w1 ck0)
  have hs1 := HK1.out.lt
  have hs2 := HR1.out.lt
  clear hcall R0 G0 K0 R1 G1
  go_wp2_with (first | refine wpList_alloc_ck rfl rfl ?_ | refine wpList_store_ck rfl (.tmp 5) (.tmp 17) rfl w1.heap.size rfl rfl HN.out ?_)
  intro w2 K2 G2
  have hs3 := G2.size
  simp only [World.size_alloc] at hs3
  have HK2 := hyd ((HK1.out.alloc _).chg G2 (by omega))
  have R2 := (HR1.out.chg (S := fun _ => False) ((Chg.refl _ w1).alloc (.cells (ckA ck0) 26)) (fun e => e)).chg G2 (by omega)
  obtain ⟨j0, j1, -⟩ := Rdr.cells R2
  have HG2 : Hid (Chg (fun _ => False) w w2) := hyd ((HG1.out.alloc _).trans' G2 (fun i hi hh => by omega))
  have HC2 := hyd K2
  clear K2 G2 R2 HK1 HR1 HG1 HN
  go_wp2_with (first | refine wpList_load_ck rfl (.tmp 5) rfl w1.heap.size rfl HC2.out ?_)
  refine (he w2).mono ?_
  rintro e w3 ⟨rfl, G3⟩
  have HK3 := hyd (HK2.out.chg G3 (fun e => e))
  have HG3 := hyd (HG2.out.trans G3)
  clear he G3 HK2 HG2 HC2 j0 j1
  go_wp2_with (first | refine wpList_build_ck rfl rfl ?_ | refine wpList_store_ck rfl (.tmp 2) (.tmp 38) rfl w.heap.size rfl rfl HK3.out ?_)
  intro w4 T4 G4
  have HT4 := hyd T4
  have HG4 : Hid (Chg (fun _ => False) w w4) := hyd (HG3.out.trans' G4 (fun i hi ht => by omega))
  clear T4 G4
  go_wp2
  refine bodyPost_ret (results_ck rfl _ rfl HT4.out) rfl ?_
  exact ⟨rfl, HG4.out⟩
set_option maxHeartbeats 4000000 in
theorem read_other (w : World) (c o cap : Nat) (l : List Nat) (hl : Bys l) (hL : l.length = 174) (hcap : 174 ≤ cap) (hA : At w c o l) (hm : Okc (rdC l)) (hne : ¬ wrL (rdC l) = l) :
    Calls Try.prog 11 #[.slice (some ⟨c, o, none⟩) 174 cap] w fun e w' => e = .returned (.tuple #[.agg (ckA ck0), .iface 44 (.int .i64 3)]) ∧ Chg (fun _ => False) w w' := by
  have hb := build26
  have q1 := neq_nil_nil
  have q2 := neq_arg_nil
  have he := fun w => write_yes w (rdC l) hm
  have hd := decide_eq_false hne
  clear hne
  have hcs := hA.1
  have HA := hyd hA
  have HL := hyd hL
  clear hA hL
  go_enter Try.func11, Try.ntmps11
  go_wp2_with (first | refine wpList_alloc_ck rfl rfl ?_)
  have hs := rst0_is w c o cap
  change Calls Try.prog 17 _ (rst0 w c o cap) _
  generalize rst0 w c o cap = w0 at *
  obtain ⟨R0, G0, K0⟩ := hs
  have hcall := takeC_any w0 (w.heap.size + 1) c o cap l R0 HL.out hl hcap (HA.out.chg G0 (fun e => e)) (by omega)
  refine hcall.mono ?_
  rintro e w1 ⟨rfl, R1, G1⟩
  have HK1 := hyd (K0.chg G1 (by omega))
  have HR1 := hyd R1
  have HG1 : Hid (Chg (fun _ => False) w w1) := hyd (G0.trans' G1 (fun i hi hh => by omega))
  have HN : Hid (Ck (w1.alloc (.cells (ckA ck0) 26)) w1.heap.size ck0) := hyd (Ck.new w1 ck0)
  have hs1 := HK1.out.lt
  have hs2 := HR1.out.lt
  clear hcall R0 G0 K0 R1 G1
  go_wp2_with (first | refine wpList_alloc_ck rfl rfl ?_ | refine wpList_store_ck rfl (.tmp 5) (.tmp 17) rfl w1.heap.size rfl rfl HN.out ?_)
  intro w2 K2 G2
  have hs3 := G2.size
  simp only [World.size_alloc] at hs3
  have HK2 := hyd ((HK1.out.alloc _).chg G2 (by omega))
  have R2 := (HR1.out.chg (S := fun _ => False) ((Chg.refl _ w1).alloc (.cells (ckA ck0) 26)) (fun e => e)).chg G2 (by omega)
  obtain ⟨j0, j1, -⟩ := Rdr.cells R2
  have HG2 : Hid (Chg (fun _ => False) w w2) := hyd ((HG1.out.alloc _).trans' G2 (fun i hi hh => by omega))
  have HC2 := hyd K2
  clear K2 G2 R2 HK1 HR1 HG1 HN
  go_wp2_with (first | refine wpList_load_ck rfl (.tmp 5) rfl w1.heap.size rfl HC2.out ?_)
  refine (he w2).mono ?_
  rintro e w3 ⟨g, rfl, hg, A3, G3⟩
  have HK3 := hyd (HK2.out.chg G3 (fun e => e))
  have HC3 := hyd (HC2.out.chg G3 (fun e => e))
  have HG3 := hyd (HG2.out.trans G3)
  have hq := equal_any w3 g 0 174 174 c o 174 cap (wrL (rdC l)) l (wrL_length _).symm HL.out.symm (wrL_bys _) hl A3.at_ (HA.out.chg HG3.out (fun e => e))
  rw [hd] at hq
  clear he G3 HK2 HG2 HC2 j0 j1 A3
  go_wp2_with fail
  refine hq.mono ?_
  rintro e w5 ⟨rfl, rfl⟩
  clear hq
  go_wp2_with (first | refine wpList_build_ck rfl rfl ?_ | refine wpList_store_ck rfl (.tmp 2) (.tmp 38) rfl w.heap.size rfl rfl HK3.out ?_)
  intro w4 T4 G4
  have HT4 := hyd T4
  have HG4 : Hid (Chg (fun _ => False) w w4) := hyd (HG3.out.trans' G4 (fun i hi ht => by omega))
  clear T4 G4
  go_wp2
  refine bodyPost_ret (results_ck rfl _ rfl HT4.out) rfl ?_
  exact ⟨rfl, HG4.out⟩
set_option maxHeartbeats 4000000 in
theorem read_yes (w : World) (c o cap : Nat) (l : List Nat) (hl : Bys l) (hL : l.length = 174) (hcap : 174 ≤ cap) (hA : At w c o l) (hp : IsP l) :
    Calls Try.prog 11 #[.slice (some ⟨c, o, none⟩) 174 cap] w fun e w' => e = .returned (.tuple #[.agg (ckA (rdC l)), .nilIface]) ∧ Chg (fun _ => False) w w' := by
  have hb := build26
  have q1 := neq_nil_nil
  have q2 := neq_arg_nil
  have he := fun w => write_yes w (rdC l) hp.1
  have hd := decide_eq_true hp.2
  clear hp
  have hcs := hA.1
  have HA := hyd hA
  have HL := hyd hL
  clear hA hL
  go_enter Try.func11, Try.ntmps11
  go_wp2_with (first | refine wpList_alloc_ck rfl rfl ?_)
  have hs := rst0_is w c o cap
  change Calls Try.prog 17 _ (rst0 w c o cap) _
  generalize rst0 w c o cap = w0 at *
  obtain ⟨R0, G0, K0⟩ := hs
  have hcall := takeC_any w0 (w.heap.size + 1) c o cap l R0 HL.out hl hcap (HA.out.chg G0 (fun e => e)) (by omega)
  refine hcall.mono ?_
  rintro e w1 ⟨rfl, R1, G1⟩
  have HK1 := hyd (K0.chg G1 (by omega))
  have HR1 := hyd R1
  have HG1 : Hid (Chg (fun _ => False) w w1) := hyd (G0.trans' G1 (fun i hi hh => by omega))
  have HN : Hid (Ck (w1.alloc (.cells (ckA ck0) 26)) w1.heap.size ck0) := hyd (Ck.new w1 ck0)
  have hs1 := HK1.out.lt
  have hs2 := HR1.out.lt
  clear hcall R0 G0 K0 R1 G1
  go_wp2_with (first | refine wpList_alloc_ck rfl rfl ?_ | refine wpList_store_ck rfl (.tmp 5) (.tmp 17) rfl w1.heap.size rfl rfl HN.out ?_)
  intro w2 K2 G2
  have hs3 := G2.size
  simp only [World.size_alloc] at hs3
  have HK2 := hyd ((HK1.out.alloc _).chg G2 (by omega))
  have R2 := (HR1.out.chg (S := fun _ => False) ((Chg.refl _ w1).alloc (.cells (ckA ck0) 26)) (fun e => e)).chg G2 (by omega)
  obtain ⟨j0, j1, -⟩ := Rdr.cells R2
  have HG2 : Hid (Chg (fun _ => False) w w2) := hyd ((HG1.out.alloc _).trans' G2 (fun i hi hh => by omega))
  have HC2 := hyd K2
  clear K2 G2 R2 HK1 HR1 HG1 HN
  go_wp2_with (first | refine wpList_load_ck rfl (.tmp 5) rfl w1.heap.size rfl HC2.out ?_)
  refine (he w2).mono ?_
  rintro e w3 ⟨g, rfl, hg, A3, G3⟩
  have HK3 := hyd (HK2.out.chg G3 (fun e => e))
  have HC3 := hyd (HC2.out.chg G3 (fun e => e))
  have HG3 := hyd (HG2.out.trans G3)
  have hq := equal_any w3 g 0 174 174 c o 174 cap (wrL (rdC l)) l (wrL_length _).symm HL.out.symm (wrL_bys _) hl A3.at_ (HA.out.chg HG3.out (fun e => e))
  rw [hd] at hq
  clear he G3 HK2 HG2 HC2 j0 j1 A3
  go_wp2_with fail
  refine hq.mono ?_
  rintro e w5 ⟨rfl, rfl⟩
  clear hq
  go_wp2_with (first | refine wpList_load_ck rfl (.tmp 5) rfl w1.heap.size rfl HC3.out ?_ | refine wpList_store_ck rfl (.tmp 2) (.tmp 40) rfl w.heap.size rfl rfl HK3.out ?_)
  intro w4 T4 G4
  have HT4 := hyd T4
  have HG4 : Hid (Chg (fun _ => False) w w4) := hyd (HG3.out.trans' G4 (fun i hi ht => by omega))
  clear T4 G4
  go_wp2
  refine bodyPost_ret (results_ck rfl _ rfl HT4.out) rfl ?_
  exact ⟨rfl, HG4.out⟩
theorem read_no (w : World) (c o cap : Nat) (l : List Nat) (hl : Bys l) (hL : l.length = 174) (hcap : 174 ≤ cap) (hA : At w c o l) (hn : ¬ IsP l) :
    Calls Try.prog 11 #[.slice (some ⟨c, o, none⟩) 174 cap] w fun e w' => e = .returned (.tuple #[.agg (ckA ck0), .iface 44 (.int .i64 3)]) ∧ Chg (fun _ => False) w w' := by
  by_cases h : Okc (rdC l)
  · exact read_other w c o cap l hl hL hcap hA h (fun e => hn ⟨h, e⟩)
  · exact read_bad w c o cap l hl hL hcap hA h
end Go.Proofs.Ytipeldekiloanaa
