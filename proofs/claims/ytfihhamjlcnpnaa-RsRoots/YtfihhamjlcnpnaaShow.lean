/-
  The rows of the document's examples hold (patinalaw02.shown answers true). No condition.
-/
import Derived.Test.YtfihhamjlcnpnaaNew
import Derived.Test.YtfihhamjlcnpnaaEnc
import Derived.Test.YtfihhamjlcnpnaaSame
namespace Go.Proofs.Ytfihhamjlcnpnaa
open Go.RowKit
set_option maxRecDepth 100000

theorem same_n (w : World) (a1 a2 : Option Addr) (n1 n2 c1 c2 : Nat) (l1 l2 : List Nat) (e1 : n1 = l1.length) (e2 : n2 = l2.length) (h1 : Held w (.slice a1 n1 c1) l1) (h2 : Held w (.slice a2 n2 c2) l2) (hn1 : l1.length ≤ 9223372036854775807) (hn2 : l2.length ≤ 9223372036854775807) :
    Calls Try.prog 17 #[.slice a1 n1 c1, .slice a2 n2 c2] w fun e w' => e = .returned (.bool (decide (l1 = l2))) ∧ Chg (fun _ => False) w w' := by
  subst e1 e2
  exact same_any w a1 a2 c1 c2 l1 l2 h1 h2 hn1 hn2
theorem Arr.held {w : World} {g : Nat} {t : TypeId} {l : List Nat} (h : Arr w g t l) (off n cap : Nat) (l' : List Nat) (hn : n = l'.length) (ho : off + l'.length ≤ l.length) (he : ∀ i, i < l'.length → l.getD (off + i) 0 = l'.getD i 0) : Held w (.slice (some ⟨g, off, none⟩) n cap) l' := by
  subst hn
  exact ⟨_, cap, rfl, Or.inr ⟨g, off, rfl, h.lt, fun i hi => by rw [h.cell _ (by omega), he i hi]⟩⟩
theorem Arr.chg {S : Nat → Prop} {w w' : World} {g : Nat} {t : TypeId} {l : List Nat} (h : Arr w g t l) (hc : Chg S w w') (hg : ¬ S g) : Arr w' g t l := (hc.block g h.lt hg).trans h
theorem Cod.chg {w w' : World} {q b : Nat} (h : Cod w q b) (hc : Chg (fun _ => False) w w') : Cod w' q b := h.other (hc.block b h.1.lt (fun e => e)) (hc.block q h.lt (fun e => e))
theorem But.chgF {b : Nat} {u w w' : World} (h : But b w w') (hc : Chg (fun _ => False) u w) (hb : u.heap.size ≤ b) : Chg (fun _ => False) u w' := hc.trans' h.chg (fun i hi e => by omega)

def m1 : List Nat := z58.set 57 1
theorem m1_length : m1.length = 58 := by simp [m1, z58]
def allBys (l : List Nat) : Bool := l.all fun n => decide (n < 256)
theorem bys_of {l : List Nat} (h : allBys l = true) : Bys l := by
  intro n hn
  simpa using List.all_eq_true.1 h n hn
theorem m1_bys : Bys m1 := bys_of (by decide +kernel)
theorem m1_enc : (encL m1).drop 57 = [1, 63, 1, 218, 32, 227, 38] := by decide +kernel
def x1 : List Nat := ((encL m1).set 57 0).set 3 9
theorem enc1_length : (encL m1).length = 64 := (encL_cw m1_length m1_bys).1
theorem x1_length : x1.length = 64 := by simp [x1, enc1_length]
theorem x1_bys : Bys x1 := bys_of (by decide +kernel)
theorem x1_ds : ds x1 (encL m1) = 2 := by decide +kernel
theorem x1_dec {r : Option (List Nat × Nat)} (h : IsDec x1 r) : r = some (m1, 2) := by
  have := h.of (encL_cw m1_length m1_bys) (by rw [x1_ds]; omega)
  rwa [x1_ds, encL_take m1_length] at this

theorem eql_arg_arg (w : World) : (binOp .eql 29 (.iface 33 (.int .i64 1)) (.iface 33 (.int .i64 1))).run Try.prog w = .ok (.bool true) w := by kernel_rfl
theorem eql_arg_dec (w : World) : (binOp .eql 29 (.iface 33 (.int .i64 1)) (.iface 33 (.int .i64 5))).run Try.prog w = .ok (.bool false) w := by kernel_rfl
theorem eql_arg_nil (w : World) : (binOp .eql 29 (.iface 33 (.int .i64 1)) .nilIface).run Try.prog w = .ok (.bool false) w := by kernel_rfl
theorem eql_dec_arg (w : World) : (binOp .eql 29 (.iface 33 (.int .i64 5)) (.iface 33 (.int .i64 1))).run Try.prog w = .ok (.bool false) w := by kernel_rfl
theorem eql_dec_dec (w : World) : (binOp .eql 29 (.iface 33 (.int .i64 5)) (.iface 33 (.int .i64 5))).run Try.prog w = .ok (.bool true) w := by kernel_rfl
theorem eql_dec_nil (w : World) : (binOp .eql 29 (.iface 33 (.int .i64 5)) .nilIface).run Try.prog w = .ok (.bool false) w := by kernel_rfl
theorem eql_nil_arg (w : World) : (binOp .eql 29 .nilIface (.iface 33 (.int .i64 1))).run Try.prog w = .ok (.bool false) w := by kernel_rfl
theorem eql_nil_dec (w : World) : (binOp .eql 29 .nilIface (.iface 33 (.int .i64 5))).run Try.prog w = .ok (.bool false) w := by kernel_rfl
theorem eql_nil_nil (w : World) : (binOp .eql 29 .nilIface .nilIface).run Try.prog w = .ok (.bool true) w := by kernel_rfl
theorem neq_arg_arg (w : World) : (binOp .neq 29 (.iface 33 (.int .i64 1)) (.iface 33 (.int .i64 1))).run Try.prog w = .ok (.bool false) w := by kernel_rfl
theorem neq_arg_dec (w : World) : (binOp .neq 29 (.iface 33 (.int .i64 1)) (.iface 33 (.int .i64 5))).run Try.prog w = .ok (.bool true) w := by kernel_rfl
theorem neq_arg_nil (w : World) : (binOp .neq 29 (.iface 33 (.int .i64 1)) .nilIface).run Try.prog w = .ok (.bool true) w := by kernel_rfl
theorem neq_dec_arg (w : World) : (binOp .neq 29 (.iface 33 (.int .i64 5)) (.iface 33 (.int .i64 1))).run Try.prog w = .ok (.bool true) w := by kernel_rfl
theorem neq_dec_dec (w : World) : (binOp .neq 29 (.iface 33 (.int .i64 5)) (.iface 33 (.int .i64 5))).run Try.prog w = .ok (.bool false) w := by kernel_rfl
theorem neq_dec_nil (w : World) : (binOp .neq 29 (.iface 33 (.int .i64 5)) .nilIface).run Try.prog w = .ok (.bool true) w := by kernel_rfl
theorem neq_nil_arg (w : World) : (binOp .neq 29 .nilIface (.iface 33 (.int .i64 1))).run Try.prog w = .ok (.bool true) w := by kernel_rfl
theorem neq_nil_dec (w : World) : (binOp .neq 29 .nilIface (.iface 33 (.int .i64 5))).run Try.prog w = .ok (.bool true) w := by kernel_rfl
theorem neq_nil_nil (w : World) : (binOp .neq 29 .nilIface .nilIface).run Try.prog w = .ok (.bool false) w := by kernel_rfl
def L7 : List Nat := [1, 63, 1, 218, 32, 227, 38]
theorem m1_at (i : Nat) : (encL m1).getD (57 + i) 0 = L7.getD i 0 := by
  unfold L7
  rw [← m1_enc]
  simp [List.getD_eq_getElem?_getD]

set_option maxHeartbeats 4000000 in
theorem shown_any (w : World) : Calls Try.prog 9 #[] w fun e w' => e = .returned (.bool true) ∧ Chg (fun _ => False) w w' := by
  have hmk := make58
  go_enter Try.func9, Try.ntmps9
  go_wp2_with fail
  refine (codec_new w).mono ?_
  rintro e w1 ⟨q, b, rfl, hq, hb, C1, G1⟩
  have hne := C1.ne
  have hbs := C1.1.lt
  have hqs := C1.lt
  have A2 : Arr (w1.alloc (.cells (bcells z58) 5)) w1.heap.size 5 z58 := Arr.new _ _ _
  have c57 := A2.cell 57 (by rw [z58_length]; omega)
  have f57 := A2.frozen 57
  clear A2
  go_wp2_with fail
  have ew : (bcells z58).setIfInBounds 57 (.int .u8 1) = bcells m1 := bcells_set z58 57 1
  rw [ew]
  clear ew c57 f57
  have A3 : Arr (w1.alloc (.cells (bcells m1) 5)) w1.heap.size 5 m1 := Arr.new _ _ _
  have C3 : Cod (w1.alloc (.cells (bcells m1) 5)) q b := C1.alloc _
  have G3 : Chg (fun _ => False) w (w1.alloc (.cells (bcells m1) 5)) := G1.alloc _
  generalize w1.alloc (.cells (bcells m1) 5) = w3 at *
  clear C1 G1
  generalize w1.heap.size = gm1 at *
  refine (encode_any q b w3 C3 gm1 0 58 m1 m1_length m1_bys (by omega) A3.lt (fun i hi => by rw [Nat.zero_add]; exact A3.cell i hi)).mono ?_
  rintro e w4 ⟨g, rfl, hg, E4, C4, B4⟩
  have A4 : Arr w4 gm1 5 m1 := A3.but B4 (by omega)
  have G4 : Chg (fun _ => False) w w4 := B4.chgF G3 hb
  have hg3 := A3.lt
  have hb3 := C3.1.lt
  have hq3 := C3.lt
  have hgb : g ≠ b := by omega
  have hgq : g ≠ q := by omega
  have hgm : g ≠ gm1 := by omega
  have hws := G3.size
  clear A3 C3 B4 G3
  go_wp2_with fail
  have ea : (#[Value.int .u8 1, .int .u8 63, .int .u8 1, .int .u8 218, .int .u8 32, .int .u8 227, .int .u8 38] : Array Value) = bcells L7 := rfl
  rw [ea]
  refine (same_n _ _ _ 7 7 7 7 L7 L7 rfl rfl ((E4.alloc _).held 57 7 7 L7 rfl (by rw [enc1_length]; decide) (fun i _ => m1_at i)) ((Arr.new w4 5 L7).held 0 7 7 L7 rfl (by simp) (fun i _ => by rw [Nat.zero_add])) (by decide) (by decide)).mono ?_
  rintro e w5 ⟨rfl, H5⟩
  have E5 : Arr w5 g 5 (encL m1) := (E4.alloc _).chg H5 (fun e => e)
  have A5 : Arr w5 gm1 5 m1 := (A4.alloc _).chg H5 (fun e => e)
  have C5 : Cod w5 q b := (C4.alloc _).chg H5
  have G5 : Chg (fun _ => False) w w5 := (G4.alloc _).trans H5
  clear E4 A4 C4 G4 H5 ea hmk
  have E6 : Arr (w5.setCell ⟨g, 57, none⟩ (.int .u8 0)) g 5 ((encL m1).set 57 0) := E5.store 57 0
  have E7 : Arr ((w5.setCell ⟨g, 57, none⟩ (.int .u8 0)).setCell ⟨g, 3, none⟩ (.int .u8 9)) g 5 x1 := E6.store 3 9
  have A7 := (A5.setOther (show g ≠ gm1 by omega) 57 (.int .u8 0)).setOther (show g ≠ gm1 by omega) 3 (.int .u8 9)
  have C7 := (C5.setNew (show g ≠ q by omega) (show g ≠ b by omega) 57 (.int .u8 0)).setNew (show g ≠ q by omega) (show g ≠ b by omega) 3 (.int .u8 9)
  have G7 := (G5.setCell (Or.inr (show w.heap.size ≤ g by omega)) 57 (.int .u8 0)).setCell (Or.inr (show w.heap.size ≤ g by omega)) 3 (.int .u8 9)
  have p1 := E5.cell 57 (by rw [enc1_length]; omega)
  have p2 := E5.frozen 57
  have p3 := E6.cell 3 (by simp [enc1_length])
  have p4 := E6.frozen 3
  have HE7 := hyd E7
  have HA7 := hyd A7
  have HC7 := hyd C7
  have HG7 := hyd G7
  clear E7 A7 C7 G7 E6 E5 A5 C5 G5
  have hL7 : decide (L7 = L7) = true := by simp
  go_wp2_with fail
  have E7 := HE7.out
  have A7 := HA7.out
  have C7 := HC7.out
  have G7 := HG7.out
  clear HE7 HA7 HC7 HG7
  generalize (w5.setCell ⟨g, 57, none⟩ (.int .u8 0)).setCell ⟨g, 3, none⟩ (.int .u8 9) = w7 at *
  clear p1 p2 p3 p4
  refine (decode_any q b w7 C7 g 0 64 x1 x1_length x1_bys hgb E7.lt (fun i hi => by rw [Nat.zero_add]; exact E7.cell i hi)).mono ?_
  rintro e w8 ⟨hD, C8, B8⟩
  have E8 : Arr w8 g 5 x1 := E7.but B8 hgb
  have A8 : Arr w8 gm1 5 m1 := A7.but B8 (by omega)
  have G8 : Chg (fun _ => False) w w8 := B8.chgF G7 hb
  clear E7 A7 C7 B8 G7
  rcases hD with ⟨hN, -⟩ | ⟨m, d, gd, hD, -, -, -, rfl, -, R8⟩
  · have := x1_dec hN; cases this
  have hdm := x1_dec hD
  simp only [Option.some.injEq, Prod.mk.injEq] at hdm
  obtain ⟨rfl, rfl⟩ := hdm
  clear hD
  go_wp2_with fail
  refine (decode_arg q w8 _ 63 63 (by omega)).mono ?_
  rintro e w9 ⟨rfl, rfl⟩
  go_wp2_with fail
  refine (same_n _ _ _ 58 58 58 58 m1 m1 m1_length.symm m1_length.symm (R8.held 0 58 58 m1 m1_length.symm (by omega) (fun i _ => by rw [Nat.zero_add])) (A8.held 0 58 58 m1 m1_length.symm (by omega) (fun i _ => by rw [Nat.zero_add])) (by rw [m1_length]; omega) (by rw [m1_length]; omega)).mono ?_
  rintro e w10 ⟨rfl, H10⟩
  have hm1 : decide (m1 = m1) = true := by simp
  have q1 := eql_arg_arg
  go_wp2
  go_ret
  exact ⟨rfl, G8.trans H10⟩
end Go.Proofs.Ytfihhamjlcnpnaa
