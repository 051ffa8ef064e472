/-
  Three terms that stand for a tactic each.
-/
import Derived.WalkKit
import Derived.KernelRfl
import Derived.OrdersHeld
namespace Go.Proofs.YtbhbilcieodbhaaGreat
theorem om {p:Prop} (h:p:=by omega):p:=h
theorem dc {p:Prop} (h:p:=by decide):p:=h
theorem kr {p:Prop} (h:p:=by kernel_rfl):p:=h
theorem AI:type_of% @if_neg:=@if_neg
theorem AJ:type_of% @if_pos:=@if_pos
theorem AK:type_of% @Or.inl:=@Or.inl
theorem AL:type_of% @Or.inr:=@Or.inr
theorem AM:type_of% @Nat.le_refl:=@Nat.le_refl
theorem AN:type_of% @decide_eq_false:=@decide_eq_false
theorem AO:type_of% @decide_eq_true:=@decide_eq_true
theorem AP:type_of% @Int.toNat_natCast:=@Int.toNat_natCast
theorem AQ:type_of% @List.getD_eq_getElem?_getD:=@List.getD_eq_getElem?_getD
theorem AR:type_of% @Option.some.inj:=@Option.some.inj
theorem AT:type_of% @Array.getElem?_eq_some_iff:=@Array.getElem?_eq_some_iff
theorem AU:type_of% @List.getElem?_eq_getElem:=@List.getElem?_eq_getElem
theorem AV:type_of% @List.length_append:=@List.length_append
theorem AW:type_of% @Nat.zero_add:=@Nat.zero_add
theorem AX:type_of% @List.getElem?_eq_some_iff:=@List.getElem?_eq_some_iff
theorem AY:type_of% @Nat.le_trans:=@Nat.le_trans
theorem AZ:type_of% @bodyPost_ret:=@bodyPost_ret
theorem Aa:type_of% @List.getElem?_append_right:=@List.getElem?_append_right
theorem Ab:type_of% @wpAnyH_take:=@wpAnyH_take
theorem Ac:type_of% @Nat.zero_le:=@Nat.zero_le
theorem Ae:type_of% @List.getElem?_eq_none:=@List.getElem?_eq_none
theorem Af:type_of% @List.getElem?_append_left:=@List.getElem?_append_left
theorem Ag:type_of% @World.cell?_of_block:=@World.cell?_of_block
theorem Ah:type_of% @Array.getElem?_setIfInBounds_ne:=@Array.getElem?_setIfInBounds_ne
theorem Ai:type_of% @Array.getElem?_modify:=@Array.getElem?_modify
theorem Aj:type_of% @Nat.lt_of_lt_of_le:=@Nat.lt_of_lt_of_le
theorem Ak:type_of% @Nat.le_of_eq:=@Nat.le_of_eq
theorem Al:type_of% @decide_eq_true_eq:=@decide_eq_true_eq
theorem Am:type_of% @List.mem_append:=@List.mem_append
theorem An:type_of% @List.length_cons:=@List.length_cons
theorem Ao:type_of% @Bool.and_eq_true:=@Bool.and_eq_true
theorem Ap:type_of% @List.set_append_right:=@List.set_append_right
theorem Aq:type_of% @List.append_assoc:=@List.append_assoc
theorem Ar:type_of% @List.mem_filter:=@List.mem_filter
theorem As:type_of% @List.take_of_length_le:=@List.take_of_length_le
theorem Au:type_of% @World.cell?_alloc_past:=@World.cell?_alloc_past
theorem Av:type_of% @Int.tmod_eq_emod_of_nonneg:=@Int.tmod_eq_emod_of_nonneg
theorem Aw:type_of% @Nat.xor_zero:=@Nat.xor_zero
theorem Ax:type_of% @List.drop_eq_nil_of_le:=@List.drop_eq_nil_of_le
theorem Ay:type_of% @Array.getElem?_setIfInBounds_self_of_lt:=@Array.getElem?_setIfInBounds_self_of_lt
theorem Az:type_of% @Nat.mod_eq_of_lt:=@Nat.mod_eq_of_lt
theorem A6:type_of% @List.nil_append:=@List.nil_append
theorem A7:type_of% @List.length_map:=@List.length_map
theorem A9:type_of% @Nat.xor_assoc:=@Nat.xor_assoc
theorem BA:type_of% @Nat.xor_self:=@Nat.xor_self
theorem bu {α:Type}:(∀ (xs:List α) (i:Nat) (h:i<xs.toArray.size),xs.toArray[i]=xs[i]'(by simpa using h))∧(∀ (a:α) (l:List α) (h:0<(a::l).length),(a::l)[0]=a)∧(∀ (a:α) (l:List α) (i:Nat) (h:i+1<(a::l).length),(a::l)[i+1]=l[i]'(Nat.lt_of_succ_lt_succ h))∧(∀ (l:List α) (i:Nat) (a:α),l.toArray.setIfInBounds i a=(l.set i a).toArray)∧(∀ (a b:α) (l:List α),(a::l).set 0 b=b::l)∧∀ (a b:α) (l:List α) (i:Nat),(a::l).set (i+1) b=a::l.set i b:=by simp
abbrev No:Nat->Prop:=fun _=>False
abbrev Wd:=World
end Go.Proofs.YtbhbilcieodbhaaGreat
