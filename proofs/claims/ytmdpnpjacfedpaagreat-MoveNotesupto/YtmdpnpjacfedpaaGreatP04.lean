/-
  Lemmas.
-/
import Derived.Test.YtmdpnpjacfedpaaGreatP03
set_option maxRecDepth 1000000
set_option maxHeartbeats 16000000
set_option linter.unusedSimpArgs false
namespace Go.Proofs.YtmdpnpjacfedpaaGreat.AE
open List
open Go.Proofs.Tryz
open Go.RowKit
open AA
open Go.RowKit Go.Sort
section
variable {w w':Wd}{f:Bc}{v:Value}{l:List Bc}{ops:Array Oper}{rest:List Oper}{o:Oper}{a:Act}{Q:Exit->Act->World->Prop}{base b g:Nat}{S:Nat->Prop}
theorem gk(f:Bc):(fA f).all (·.oneCell')=true:=all_oneCell_toArray (Wz f)
def Fo (w:Wd) (b:Nat) (f:Bc):Prop:=w.heap[b]?=some (.cells (fA f) 149)
theorem Fo.new(w:Wd)(f:Bc):Fo (w.alloc (.cells (fA f) 149)) w.heap.size f:=by
 show (w.heap.push _)[w.heap.size]?=_;simp
theorem Fo.lt(h:Fo w b f):b<w.heap.size:=(Array.getElem?_eq_some_iff.1 (show w.heap[b]?=some _ from h)).1
theorem Fo.chg(h:Fo w b f)(hc:Chg S w w')(hb:¬ S b):Fo w' b f:=(hc.block b h.lt hb).trans h
theorem Fo.drew(h:Fo w b f):Fo w.drew b f:=h
theorem Fo.cell(h:Fo w b f)(i:Nat)(hv:(fL f)[i]?=some v):w.cell? ⟨b,i,none⟩=some v:=by
 have h':w.heap[b]?=some _:=h;simp only[World.cell?,h',fA];simpa using hv
theorem Fo.cells(h:Fo w b f):w.cell? ⟨b,0,none⟩=some (.int .i64 f.P)/\w.cell? ⟨b,1,none⟩=some (.int .i64 f.T)/\w.cell? ⟨b,2,none⟩=some (.int .i64 f.O)/\w.cell? ⟨b,3,none⟩=some (.int .i64 f.S)/\w.cell? ⟨b,4,none⟩=some (.int .i64 f.C)/\w.cell? ⟨b,5,none⟩=some (.bool f.L):=
 ⟨h.cell 0 rfl,h.cell 1 rfl,h.cell 2 rfl,h.cell 3 rfl,h.cell 4 rfl,h.cell 5 rfl⟩
theorem Ms:(prog.info? 149).map (·.size)=some 6:=kr
theorem CW(hgd:o.guard=none)(x:Operand)(ho:o.op=.load 149 x)(g:Nat)(hx:a.eval x=.pointer (some ⟨g,0,none⟩))(hg:Fo w g f)(h:wpList prog ops Q rest (a.put o.dst (.agg (fA f))) w):wpList prog ops Q (o :: rest) a w:=
 wpList_load_row hgd 149 x ho g hx 149 _ _ _ hg underlying149 rfl Ms h
theorem BL(hgd:o.guard=none)(x:Operand)(ho:o.op=.load 149 x)(g q:Nat)(hx:a.eval x=.pointer (some ⟨g,q,none⟩))(hg:w.rangeAt g q (fL f))(h:wpList prog ops Q rest (a.put o.dst (.agg (fA f))) w):wpList prog ops Q (o :: rest) a w:=
 wpList_load_mid hgd 149 x ho g q hx (fL f) _ hg underlying149 rfl Ms h
theorem wpList_store_fo(hgd:o.guard=none)(x y:Operand)(ho:o.op=.store 149 x y)(g:Nat)(hx:a.eval x=.pointer (some ⟨g,0,none⟩))(hy:a.eval y=.agg (fA f)){f':Bc}(hg:Fo w g f')(h:∀w',Fo w' g f->Chg (·=g) w w'->wpList prog ops Q rest (a.put o.dst undef) w'):wpList prog ops Q (o :: rest) a w:=
 wpList_store_row hgd 149 x y ho g _ hx hy 149 _ hg Ms rfl (gk f) (h _ (setRow_heap w g _ _ 149 _ hg) ⟨rfl,rfl,rfl,by simp,fun k _ hk=>setRow_other _ _ _ _ hk⟩)
theorem gn(w:Wd):(zeroValue 149).run prog w=.ok (.agg (fA f0)) w:=kr
theorem bY(w:Wd):(Instr.build 149 #[]).run prog w=.ok (.agg (fA f0)) w:=kr
theorem Bh(hgd:o.guard=none)(ho:o.op=.alloc 149)(N:Nat)(hN:w.heap.size=N)(h:∀w',Fo w' N f0->Chg No w w'->w'.heap.size=N+1->wpList prog ops Q rest (a.put o.dst (.pointer (some ⟨N,0,none⟩))) w'):wpList prog ops Q (o :: rest) a w:=by
 refine wpList_plain hgd fun K hK=>?_;have hz:=gn;unfold Oper.wp;simp[execOp,ho,Instr.alloc,hz,newVar,Value.cells,newRow];rw[hN];exact hK _ _ (h _ (by rw[<-hN];exact Fo.new w f0) ((Chg.refl _ w).alloc _) (by simp[hN]))
theorem wpList_build_fo(hgd:o.guard=none)(ho:o.op=.build 149 #[])(h:wpList prog ops Q rest (a.put o.dst (.agg (fA f0))) w):wpList prog ops Q (o :: rest) a w:=by
 refine wpList_plain hgd fun K hK=>?_;have hz:=bY;unfold Oper.wp;simp[execOp,ho,hz];exact hK _ _ h
def LZ (w:Wd) (g o:Nat) (l:List Bc):Prop:=g<w.heap.size/\∀i f,l[i]?=some f->w.rangeAt g (o+i*6) (fL f)
def Sl (w:Wd) (v:Value) (l:List Bc):Prop:=∃a cap,v=.slice a l.length cap/\l.length<=cap/\(l.length=0\/∃g o,a=some ⟨g,o,none⟩/\LZ w g o l)
theorem Oq{o:Nat}{cs:List Value}(h:w.rangeAt g o cs)(hc:Chg S w w')(hg:g<w.heap.size)(hs:¬ S g):w'.rangeAt g o cs:=fun j v hv=>(hc.cell hg hs _).trans (h j v hv)
theorem LZ.chg{o:Nat}(h:LZ w g o l)(hc:Chg S w w')(hs:¬ S g):LZ w' g o l:=
 ⟨Aj h.1 hc.size,fun i f hi=>Oq (h.2 i f hi) hc h.1 hs⟩
theorem Sl.new(h:Sl w v l)(hc:Chg No w w'):Sl w' v l:=by
 obtain⟨a,no,rfl,it,h⟩:=h;refine⟨a,no,rfl,it,?_⟩;rcases h with h | ⟨g,o,rfl,h⟩
 ·exact AK h
 ·exact AL ⟨g,o,rfl,h.chg hc (fun f=>f)⟩
def Ow (w:Wd) (base:Nat) (v:Value) (l:List Bc):Prop:=w.ownsRow base 149 6 v l.length (l.flatMap fL)
theorem Kk:∀(l:List Bc) (i:Nat) (f:Bc) (j:Nat),l[i]?=some f->j<6->(l.flatMap fL)[i*6+j]?=(fL f)[j]?
 | [],i,f,j,h,_=>by simp at h
 | x :: r,0,f,j,h,hj=>by
  have e:x=f:=by simpa using h
  subst e
  rw[flatMap_cons,Nat.zero_mul,AW,Af (by rw[Eo];exact hj)]
 | x :: r,i+1,f,j,h,hj=>by
  have h':r[i]?=some f:=by simpa using h
  rw[flatMap_cons,Aa (by rw[Eo];omega),Eo,show (i+1)*6+j - 6=i*6+j by omega,Kk r i f j h' hj]
theorem EJ(l:List Bc):(l.flatMap fL).length=l.length*6:=by
 induction l with
 | nil=>rfl
 | cons x r ih=>rw[flatMap_cons,AV,ih,Eo,An];omega
theorem W9(l:List Bc):∀v ∈ l.flatMap fL,v.oneCell'=true:=by
 intro v hv;obtain⟨f,_,h⟩:=mem_flatMap.1 hv;exact Wz f v h
theorem Ow.nil(w:Wd)(base:Nat):Ow w base (.slice none 0 0) []:=⟨rfl,AK ⟨rfl,rfl⟩⟩
theorem Ow.lies(h:Ow w base v l)(h0:l.length≠0) :∃g it,v=.slice (some ⟨g,0,none⟩) l.length it/\l.length<=it/\base<=g/\LZ w g 0 l/\(∀i,w.frozen? ⟨g,i,none⟩=false)/\∀j u,(l.flatMap fL)[j]?=some u->w.cell? ⟨g,j,none⟩=some u:=by
 have no:=fun g hg=>World.ownsRow.cells (g:=g) h hg;rcases h.2 with ⟨_,h1⟩ | ⟨g,it,Go,hv,hg,hh,hn,hm,hs,ht⟩
 ·exact absurd h1 h0
 ·have hc:∀j u,(l.flatMap fL)[j]?=some u->w.cell? ⟨g,j,none⟩=some u:=fun j u hu=>by
   have:=no g (by rw[hv];rfl) j u hu;rw[Addr.add_mid,AW] at this;exact this
  refine⟨g,it,hv,hn,hg,⟨(Array.getElem?_eq_some_iff.1 hh).1,fun i f hi j u hu=>?_⟩,fun i=>by simp[World.frozen?,hh],hc⟩;have hj:j<6:=by have:=(List.getElem?_eq_some_iff.1 hu).1;rwa [Eo] at this
  rw[AW];exact hc _ _ ((Kk l i f j hi hj).trans hu)
theorem Ow.sl(h:Ow w base v l):Sl w v l:=by
 by_cases h0:l.length=0
 ·rcases h.2 with ⟨rfl,_⟩ | ⟨g,no,Go,rfl,_⟩
  ·exact⟨none,0,by rw[h0],om,AK h0⟩
  ·exact⟨_,no,rfl,om,AK h0⟩
 ·obtain⟨g,no,rfl,it,_,hA,_⟩:=h.lies h0;exact⟨_,no,rfl,it,AL ⟨g,0,rfl,hA⟩⟩
theorem Ow.keep(h:Ow w base v l)(hk:∀k,k<w.heap.size->v.ownBlock=some k->w'.heap[k]?=w.heap[k]?):Ow w' base v l:=by
 refine⟨h.1,?_⟩;rcases h.2 with h1 | ⟨g,it,no,rfl,hb,hh,r⟩
 ·exact AK h1
 ·exact AL ⟨g,it,no,rfl,hb,(hk g (Array.getElem?_eq_some_iff.1 hh).1 rfl).trans hh,r⟩
theorem Ow.chg(h:Ow w base v l)(hc:Chg S w w')(hs:∀k,k<w.heap.size->v.ownBlock=some k->¬ S k):Ow w' base v l:=
 h.keep (fun k hk he=>hc.block k hk (hs k hk he))
theorem Ow.new(h:Ow w base v l)(hc:Chg No w w'):Ow w' base v l:=h.chg hc (fun _ _ _ f=>f)
theorem Ow.block(h:Ow w base v l){k:Nat}(hk:v.ownBlock=some k):base<=k/\k<w.heap.size:=h.lt k hk
theorem gt:∃i,prog.info? 149=some i/\i.zero=some (.agg (fA f0))/\i.size=6/\i.bytes=48:=by
 have h:(prog.info? 149).map (fun i=>(i.zero,i.size,i.bytes))=some (some (.agg (fA f0)),6,48):=kr
 cases e:prog.info? 149 with
 | none=>rw[e] at h;cases h
 | some i=>
  rw[e] at h;simp only[Option.map_some,Option.some.injEq,Prod.mk.injEq] at h;exact⟨i,rfl,h.1,h.2.1,h.2.2⟩
theorem CX(w:Wd)(hgd:o.guard=none)(s x:Operand)(ho:o.op=.call { callee:=.builtin .append,args:=#[s,x],argTypes:=#[70,70] })(base:Nat)(v:Value)(l:List Bc)(hs:a.eval s=v)(hown:Ow w base v l)(g q m c:Nat)(l2:List Bc)(hx:a.eval x=.slice (some ⟨g,q,none⟩) m c)(hm:l2.length=m)(hA:LZ w g q l2)(hbytes:l.length+m<=2932031007402)(hbase:base<=w.heap.size)(h:∀v' w',Ow w' base v' (l ++ l2)->Chg (fun k=>v.ownBlock=some k) w w'->wpList prog ops Q rest (a.put o.dst v') w'):wpList prog ops Q (o :: rest) a w:=by
 obtain⟨i,it,La,no,Go⟩:=gt;refine wpList_append_own_at w hgd s x 70 ho base 149 i (.agg (fA f0)) 6 48 underlying70 it La no Go rfl dc v l.length (l.flatMap fL) hs hown ⟨g,q,none⟩ m c (l2.flatMap fL) hx (by rw[EJ,hm]) ?_ (W9 l2) (by unfold maxLen;omega) om hbase ?_
 ·intro j u hu;have hj:j<l2.length*6:=by rw[<-EJ];exact(List.getElem?_eq_some_iff.1 hu).1
  have e:l2[j / 6]?=some (l2[j / 6]'om):=AU _;have hf:=Kk l2 (j / 6) _ (j % 6) e (Nat.mod_lt _ dc);rw[show j / 6*6+j % 6=j by omega,hu] at hf;have:=hA.2 (j / 6) _ e (j % 6) u hf.symm;rw[show q+j / 6*6+j % 6=q+j by omega] at this;rw[Addr.add_mid];exact this
 ·intro v' w' h1 h2 _ _;refine h v' w' ?_ ⟨h2.os,h2.tape,h2.output,h2.size,fun k hk hs=>h2.block k hk (fun e=>hs e.symm)⟩;unfold Ow;rw[AV,hm,flatMap_append];exact h1
theorem LZ.one(h:Fo w g f):LZ w g 0 [f]:=⟨h.lt,fun i f' hi=>by
 match i,hi with
 | 0,hi=>
  have e:f=f':=by simpa using hi
  subst e
  intro j v hv
  rw[Nat.zero_mul,AW]
  exact h.cell j hv⟩
end
end Go.Proofs.YtmdpnpjacfedpaaGreat.AE
namespace Go.Proofs.YtmdpnpjacfedpaaGreat.AE
open List
open Go.Proofs.Tryz
open Go.RowKit
open AA
theorem gu:(prog.info? 52).map (·.size)=some 24:=kr
theorem gw:(prog.info? 53).map (·.size)=some 12:=kr
theorem bf(f:Nat->Int)(i:Nat)(hi:i<24)(w:Wd):(Instr.index 52 (.agg (ints f 24).toArray) (.int .i64 i)).run prog w=.ok (.int .i64 (f i)) w:=by
 have h:=BU f 24 i hi;generalize ints f 24=L at *
 simp[Instr.index,run_underlying underlying52,asIntOf,go_sem,hi,h,i6]
end Go.Proofs.YtmdpnpjacfedpaaGreat.AE
namespace Go.Proofs.YtmdpnpjacfedpaaGreat.AE
open List
open Go.Proofs.Tryz
open Go.RowKit
open AA
open Go.RowKit Go.Sort
section
variable {a n:Int}
def JV (a n:Int):Bool:=decide (0<=a) && decide (a<n)
theorem Ot(h:JV a n=true):0<=a/\a<n:=by simpa[JV] using h
theorem Ly(h:JV a n=false):a<0\/n<=a:=by
 simp only[JV,Bool.and_eq_false_iff,decide_eq_false_iff_not] at h;omega
theorem SC(h1:0<=a)(h2:a<n):JV a n=true:=by simp[JV,h1,h2]
theorem Mt(h:a<0\/n<=a):JV a n=false:=by
 simp only[JV,Bool.and_eq_false_iff,decide_eq_false_iff_not];omega
theorem bg(f:Bc):snd f=(JV f.P 96 && (JV f.O 25 && (JV f.S 1099511627776 && JV f.C 256))):=by
 simp only[snd,JV,Bool.and_assoc]
theorem Fh{f:Bc}(h:¬ (0<=f.P/\f.P<96/\0<=f.O/\f.O<25/\0<=f.S/\f.S<1099511627776/\0<=f.C/\f.C<256)):snd f=false:=by
 rw[<-Bool.not_eq_true,Cv];exact h
theorem Mu(a b:Int):Gp a b=true<->0<=a/\a<256/\0<=b/\b<256/\1<=(b - a) % 256/\(b - a) % 256<=127:=by
 simp[Gp,and_assoc]
theorem Im{b:Int}(h:¬ (0<=a/\a<256/\0<=b/\b<256/\1<=(b - a) % 256/\(b - a) % 256<=127)):Gp a b=false:=by
 rw[<-Bool.not_eq_true,Mu];exact h
theorem Cg(a n:Int)(w:Wd):Calls prog 205 #[.int .i64 a,.int .i64 n] w fun e w'=>e=.returned (.bool (JV a n))/\w'=w:=by
 by_cases h1:0<=a
 ·by_cases h2:a<n
  ·have hb:=SC h1 h2;go_enter func205,ntmps205;go_wp2;go_ret;exact⟨by rw[hb];rfl,rfl⟩
  ·have hb:Hid (JV a n=false):=Mt om;go_enter func205,ntmps205;go_wp2;go_ret;exact⟨by rw[hb.out];rfl,rfl⟩
 ·have hb:Hid (JV a n=false):=Mt om;go_enter func205,ntmps205;go_wp2;go_ret;exact⟨by rw[hb.out];rfl,rfl⟩
theorem Dp(a n:Int)(w:Wd):Calls prog 206 #[.int .i64 a,.int .i64 n] w fun e w'=>e=.returned (.bool (JV a n))/\w'=w:=by
 by_cases h1:0<=a
 ·by_cases h2:a<n
  ·have hb:=SC h1 h2;go_enter func206,ntmps206;go_wp2;go_ret;exact⟨by rw[hb];rfl,rfl⟩
  ·have hb:Hid (JV a n=false):=Mt om;go_enter func206,ntmps206;go_wp2;go_ret;exact⟨by rw[hb.out];rfl,rfl⟩
 ·have hb:Hid (JV a n=false):=Mt om;go_enter func206,ntmps206;go_wp2;go_ret;exact⟨by rw[hb.out];rfl,rfl⟩
theorem Es(f:Bc)(w:Wd):Calls prog 168 #[.agg (fA f)] w fun e w'=>e=.returned (.bool (snd f))/\Chg No w w':=by
 obtain⟨c0,c1,c2,c3,c4,c5⟩:=(Fo.new w f).cells;have HG:Hid (Chg No w (w.alloc (.cells (fA f) 149))):=(Chg.refl _ w).alloc _;have HB:=BE (bg f);cases h1:JV f.P 96 with
 | false=>
  go_enter func168,ntmps168;go_wp2_with (first | (go_at_call 205;refine(Cg _ _ _).mono ?_;rintro e w' ⟨rfl,rfl⟩) | (go_at_call 206;refine(Dp _ _ _).mono ?_;rintro e w' ⟨rfl,rfl⟩));go_ret;exact⟨by rw[HB.out];simp[h1],HG⟩
 | true=>
  cases h2:JV f.O 25 with
  | false=>
   go_enter func168,ntmps168;go_wp2_with (first | (go_at_call 205;refine(Cg _ _ _).mono ?_;rintro e w' ⟨rfl,rfl⟩) | (go_at_call 206;refine(Dp _ _ _).mono ?_;rintro e w' ⟨rfl,rfl⟩));go_ret;exact⟨by rw[HB.out];simp[h1,h2],HG⟩
  | true=>
   cases h3:JV f.S 1099511627776 with
   | false=>
    go_enter func168,ntmps168;go_wp2_with (first | (go_at_call 205;refine(Cg _ _ _).mono ?_;rintro e w' ⟨rfl,rfl⟩) | (go_at_call 206;refine(Dp _ _ _).mono ?_;rintro e w' ⟨rfl,rfl⟩));go_ret;exact⟨by rw[HB.out];simp[h1,h2,h3],HG⟩
   | true=>
    cases h4:JV f.C 256 with
    | false=>
     go_enter func168,ntmps168;go_wp2_with (first | (go_at_call 205;refine(Cg _ _ _).mono ?_;rintro e w' ⟨rfl,rfl⟩) | (go_at_call 206;refine(Dp _ _ _).mono ?_;rintro e w' ⟨rfl,rfl⟩));go_ret;exact⟨by rw[HB.out];simp[h1,h2,h3,h4],HG⟩
    | true=>
     go_enter func168,ntmps168;go_wp2_with (first | (go_at_call 205;refine(Cg _ _ _).mono ?_;rintro e w' ⟨rfl,rfl⟩) | (go_at_call 206;refine(Dp _ _ _).mono ?_;rintro e w' ⟨rfl,rfl⟩));go_ret;exact⟨by rw[HB.out];simp[h1,h2,h3,h4],HG⟩
theorem CF(f:Bc)(w:Wd):Calls prog 123 #[.agg (fA f)] w fun e w'=>e=.returned (.bool (snd f))/\Chg No w w':=by
 obtain⟨c0,c1,c2,c3,c4,c5⟩:=(Fo.new w f).cells;have HG:Hid (Chg No w (w.alloc (.cells (fA f) 149))):=(Chg.refl _ w).alloc _;by_cases h0:0<=f.P
 case neg=>
  have HN:Hid (snd f=false):=Fh om;go_enter func123,ntmps123;go_wp2;go_ret;exact⟨by rw[HN.out];rfl,HG⟩
 by_cases h1:f.P<=95
 case neg=>
  have HN:Hid (snd f=false):=Fh om;go_enter func123,ntmps123;go_wp2;go_ret;exact⟨by rw[HN.out];rfl,HG⟩
 by_cases h2:0<=f.O
 case neg=>
  have HN:Hid (snd f=false):=Fh om;go_enter func123,ntmps123;go_wp2;go_ret;exact⟨by rw[HN.out];rfl,HG⟩
 by_cases h3:f.O<=24
 case neg=>
  have HN:Hid (snd f=false):=Fh om;go_enter func123,ntmps123;go_wp2;go_ret;exact⟨by rw[HN.out];rfl,HG⟩
 by_cases h4:0<=f.S
 case neg=>
  have HN:Hid (snd f=false):=Fh om;go_enter func123,ntmps123;go_wp2;go_ret;exact⟨by rw[HN.out];rfl,HG⟩
 by_cases h5:f.S<=1099511627775
 case neg=>
  have HN:Hid (snd f=false):=Fh om;go_enter func123,ntmps123;go_wp2;go_ret;exact⟨by rw[HN.out];rfl,HG⟩
 by_cases h6:0<=f.C
 case neg=>
  have HN:Hid (snd f=false):=Fh om;go_enter func123,ntmps123;go_wp2;go_ret;exact⟨by rw[HN.out];rfl,HG⟩
 by_cases h7:f.C<=255
 case neg=>
  have HN:Hid (snd f=false):=Fh om;go_enter func123,ntmps123;go_wp2;go_ret;exact⟨by rw[HN.out];rfl,HG⟩
 have HN:Hid (snd f=true):=(Cv f).2 om;go_enter func123,ntmps123;go_wp2;go_ret;exact⟨by rw[HN.out];rfl,HG⟩
theorem SD(a b:Int)(h1:0<=a)(h2:a<256)(h3:0<=b)(h4:b<256):(b - a+256).tmod 256=(b - a) % 256:=by
 rw[Av om];omega
theorem kP(a b:Int)(w:Wd):Calls prog 208 #[.int .i64 a,.int .i64 b] w fun e w'=>e=.returned (.bool (Gp a b))/\w'=w:=by
 cases h1:JV a 256 with
 | false=>
  have HN:Hid (Gp a b=false):=Im (by have:=Ly h1;omega);go_enter func208,ntmps208;go_wp2_with (go_at_call 205;refine(Cg _ _ _).mono ?_;rintro e w' ⟨rfl,rfl⟩);go_ret;exact⟨by rw[HN.out];rfl,rfl⟩
 | true=>
 cases h2:JV b 256 with
 | false=>
  have HN:Hid (Gp a b=false):=Im (by have:=Ly h2;omega);go_enter func208,ntmps208;go_wp2_with (go_at_call 205;refine(Cg _ _ _).mono ?_;rintro e w' ⟨rfl,rfl⟩);go_ret;exact⟨by rw[HN.out];rfl,rfl⟩
 | true=>
 obtain⟨a1,a2⟩:=Ot h1;obtain⟨b1,b2⟩:=Ot h2;have hr:=SD a b a1 a2 b1 b2;have hi:=Mu a b;obtain⟨r,it⟩:∃r,(b - a) % 256=r:=⟨_,rfl⟩;have r1:0<=r:=om
 have r2:r<256:=om
 rw[it] at hr hi;have HI:=BE hi;by_cases c1:1<=r
 ·by_cases c2:r<=127
  ·have c3:decide (r<128)=true:=AO om;go_enter func208,ntmps208;go_wp2_with (go_at_call 205;refine(Cg _ _ _).mono ?_;rintro e w' ⟨rfl,rfl⟩);go_ret;exact⟨by rw[HI.out.2 ⟨a1,a2,b1,b2,c1,c2⟩];rfl,rfl⟩
  ·have c3:decide (r<128)=false:=AN om;have HN:Hid (Gp a b=false):=(by show _=_;rw[<-Bool.not_eq_true,HI.out];omega);go_enter func208,ntmps208;go_wp2_with (go_at_call 205;refine(Cg _ _ _).mono ?_;rintro e w' ⟨rfl,rfl⟩);go_ret;exact⟨by rw[HN.out];rfl,rfl⟩
 ·have HN:Hid (Gp a b=false):=by show _=_;rw[<-Bool.not_eq_true,HI.out];omega
  go_enter func208,ntmps208;go_wp2_with (go_at_call 205;refine(Cg _ _ _).mono ?_;rintro e w' ⟨rfl,rfl⟩);go_ret;exact⟨by rw[HN.out];rfl,rfl⟩
theorem Kl(a b:Int)(w:Wd):Calls prog 125 #[.int .i64 a,.int .i64 b] w fun e w'=>e=.returned (.bool (Gp a b))/\w'=w:=by
 by_cases a1:0<=a
 case neg=>
  have HN:Hid (Gp a b=false):=Im om;go_enter func125,ntmps125;go_wp2;go_ret;exact⟨by rw[HN.out];rfl,rfl⟩
 by_cases a2:a<256
 case neg=>
  have HN:Hid (Gp a b=false):=Im om;go_enter func125,ntmps125;go_wp2;go_ret;exact⟨by rw[HN.out];rfl,rfl⟩
 by_cases b1:0<=b
 case neg=>
  have HN:Hid (Gp a b=false):=Im om;go_enter func125,ntmps125;go_wp2;go_ret;exact⟨by rw[HN.out];rfl,rfl⟩
 by_cases b2:b<256
 case neg=>
  have HN:Hid (Gp a b=false):=Im om;go_enter func125,ntmps125;go_wp2;go_ret;exact⟨by rw[HN.out];rfl,rfl⟩
 have hr:=SD a b a1 a2 b1 b2;have hi:=Mu a b;obtain⟨r,it⟩:∃r,(b - a) % 256=r:=⟨_,rfl⟩;have r1:0<=r:=om
 have r2:r<256:=om
 rw[it] at hr hi;have HI:=BE hi;by_cases c1:1<=r
 ·by_cases c2:r<=127
  ·have c3:decide (r<128)=true:=AO om;go_enter func125,ntmps125;go_wp2;go_ret;exact⟨by rw[HI.out.2 ⟨a1,a2,b1,b2,c1,c2⟩];rfl,rfl⟩
  ·have c3:decide (r<128)=false:=AN om;have HN:Hid (Gp a b=false):=(by show _=_;rw[<-Bool.not_eq_true,HI.out];omega);go_enter func125,ntmps125;go_wp2;go_ret;exact⟨by rw[HN.out];rfl,rfl⟩
 ·have HN:Hid (Gp a b=false):=by show _=_;rw[<-Bool.not_eq_true,HI.out];omega
  go_enter func125,ntmps125;go_wp2;go_ret;exact⟨by rw[HN.out];rfl,rfl⟩
end
section
variable (w:Wd)
def lD (a b:Int):Int:=if a≠0 then a else b
theorem mc(a b:Int)(g:Nat)(w:Wd)(h1:w.cell? ⟨g,0,none⟩=some (.int .i64 a))(h2:w.cell? ⟨g,1,none⟩=some (.int .i64 b)) :Calls prog 232 #[.slice (some ⟨g,0,none⟩) 2 2] w fun e w'=>e=.returned (.int .i64 (lD a b))/\w'=w:=by
 by_cases ha:a=0
 ·have HN:Hid (lD a b=b):=by show _=_;simp[lD,ha]
  subst ha;by_cases hb:b=0
  ·subst hb;go_enter func232,ntmps232;go_wp2;refine wp_loop_rounds 3 ?_;rw[rounds_succ];go_wp2;rw[rounds_succ];go_wp2;rw[rounds_succ];go_wp2;go_ret;exact⟨by rw[HN.out];rfl,rfl⟩
  ·have it:(b != 0)=true:=(by simpa using hb);go_enter func232,ntmps232;go_wp2;refine wp_loop_rounds 2 ?_;rw[rounds_succ];go_wp2;rw[rounds_succ];go_wp2;go_ret;exact⟨by rw[HN.out];rfl,rfl⟩
 ·have HN:Hid (lD a b=a):=by show _=_;simp[lD,ha]
  have no:(a != 0)=true:=by simpa using ha
  go_enter func232,ntmps232;go_wp2;refine wp_loop_rounds 1 ?_;rw[rounds_succ];go_wp2;go_ret;exact⟨by rw[HN.out];rfl,rfl⟩
theorem bi(fv:Value):Calls prog 271 #[.slice none 0 0,.int .i64 0,.int .i64 0,fv] w fun e w'=>e=.returned (.tuple #[])/\w'=w:=by
 go_enter func271,ntmps271;go_wp2;refine wp_loop_rounds 1 ?_;rw[rounds_succ];go_wp2;go_end0;exact⟨rfl,rfl⟩
theorem Qv(fv:Value):Calls prog 250 #[.slice none 0 0,.int .i64 0,fv] w fun e w'=>e=.returned (.tuple #[])/\w'=w:=by
 go_enter func250,ntmps250;go_wp2;refine wp_loop_rounds 1 ?_;rw[rounds_succ];go_wp2_with (go_at_call 271;refine(bi _ _).mono ?_;rintro e w' ⟨rfl,rfl⟩);refine wp_loop_rounds 1 ?_;rw[rounds_succ];go_wp2;go_end0;exact⟨rfl,rfl⟩
theorem XA(fv:Value):Calls prog 230 #[.slice none 0 0,fv] w fun e w'=>e=.returned (.tuple #[])/\w'=w:=by
 go_enter func230,ntmps230;go_wp2_with (go_at_call 250;refine(Qv _ _).mono ?_;rintro e w' ⟨rfl,rfl⟩);go_end0;exact⟨rfl,rfl⟩
end
section
variable {f:Bc}
theorem CY{p:Bc->Bool}{l:List Bc}{i:Nat}(h:l[i]?=some f):(l.take (i+1)).filter p=(l.take i).filter p ++ (if p f then [f] else []):=by
 rw[take_add_one,h,filter_append];congr 1;by_cases e:p f <;> simp[e]
theorem DF{ops:Array Oper}{rest:List Oper}{o:Oper}{a:Act}{w:Wd}{Q:Exit->Act->World->Prop}(hgd:o.guard=none)(x:Operand)(ho:o.op=.buildSlice 70 1 #[(0,x)])(hx:a.eval x=.agg (fA f))(N:Nat)(hN:w.heap.size=N)(h:∀w',Fo w' N f->Chg No w w'->wpList prog ops Q rest (a.put o.dst (.slice (some ⟨N,0,none⟩) 1 1)) w'):wpList prog ops Q (o :: rest) a w:=by
 refine wpList_plain hgd fun K hK=>?_;have hr:(Instr.buildSlice 70 1 #[(0,.agg (fA f))]).run prog w=.ok (.slice (some ⟨w.heap.size,0,none⟩) 1 1) (w.alloc (.cells (fA f) 149)):=by
  unfold fA fL;simp[Instr.buildSlice];go_simp
 unfold Oper.wp;simp[execOp,ho,hx,hr];rw[hN];exact hK _ _ (h _ (by rw[<-hN];exact Fo.new w f) ((Chg.refl _ w).alloc _))
end
section
variable {f:Bc}{w:Wd}{g i:Nat}
theorem Gr{fn:Func}{q u:Tmp}(h:fn.results=#[.cell q 149,.tmp u])(tmps:Array Value)(hp:tmps.getD q undef=.pointer (some ⟨g,0,none⟩))(hT:Fo w g f) :(results fn tmps).run prog w=.ok (.tuple #[.agg (fA f),tmps.getD u undef]) w:=by
 rw[results_cell_tmp h,hp];simp[asAddr,run_loadVar_row w g 149 149 _ _ _ hT underlying149 rfl Ms]
def XB:Option Bc->Value
 | none=>.tuple #[.agg (fA f0),.bool false]
 | some f=>.tuple #[.agg (fA f),.bool true]
def lE (w:Wd) (l:List Bc) (of ab:Int) (e:Ending) (w':Wd):Prop:=e=.returned (XB (newest l of ab))/\Chg No w w'
theorem LZ.fields{o:Nat}{l:List Bc}(h:LZ w g o l)(hi:l[i]?=some f) :w.cell? ⟨g,o+i*6,none⟩=some (.int .i64 f.P)/\w.cell? ⟨g,o+i*6+2,none⟩=some (.int .i64 f.O)/\w.cell? ⟨g,o+i*6+3,none⟩=some (.int .i64 f.S)/\w.cell? ⟨g,o+i*6+4,none⟩=some (.int .i64 f.C):=by
 have r:=h.2 i f hi;exact⟨r 0 _ rfl,r 2 _ rfl,r 3 _ rfl,r 4 _ rfl⟩
theorem UI{x:Bc}{r:List Bc}(h:r[i]?=some f):best x (r.take (i+1))=if Gp f.C (best x (r.take i)).C then f else best x (r.take i):=by
 unfold best;rw[take_add_one,h,foldl_append];rfl
theorem Qw(l:List Bc)(of ab:Int):(lat l of ab).length<=l.length:=by
 have h:=LY nO (l.filter (cnd of ab)).toArray 0 (l.filter (cnd of ab)).toArray.size (Ac _) (AM _);rw[<-Qu l of ab _ ⟨h.1,h.2⟩];refine AY (takeWhile_sublist _).length_le ?_;have:=h.1.size;rw[Array.length_toList,this];simpa using length_filter_le _ _
end
def byN (n:Nat) (l:List Bc):List Bc:=(List.range n).flatMap fun (p:Nat)=>l.filter fun f=>decide (f.P=(p:Int))
theorem bj(l:List Bc):byN 96 l=Jp l:=rfl
theorem Km(n:Nat)(l:List Bc):byN (n+1) l=byN n l ++ l.filter fun f=>decide (f.P=(n:Int)):=by
 unfold byN;rw[range_succ,flatMap_append];simp
theorem Mv(n:Nat)(l:List Bc):(l.filter fun f=>decide (0<=f.P) && decide (f.P<(n:Int))).length+(l.filter fun f=>decide (f.P=(n:Int))).length=(l.filter fun f=>decide (0<=f.P) && decide (f.P<((n+1:Nat):Int))).length:=by
 induction l with
 | nil=>rfl
 | cons x r ih=>
  rw[filter_cons,filter_cons,filter_cons];by_cases h1:0<=x.P/\x.P<(n:Int)
  ·rw[AJ (by simpa using h1),AI (by simp;omega),AJ (by simp;omega),An,An];omega
  ·rw[AI (by simpa using h1)];by_cases h2:x.P=(n:Int)
   ·rw[AJ (by simpa using h2),AJ (by simp;omega),An,An];omega
   ·rw[AI (by simpa using h2),AI (by simp;omega)];exact ih
theorem Qx(l:List Bc):∀n,(byN n l).length=(l.filter fun f=>decide (0<=f.P) && decide (f.P<(n:Int))).length:=by
 intro n
 induction n with
 | zero=>
  rw[filter_eq_nil_iff.2]
  ·rfl
  ·intro a _;simp
 | succ n ih=>rw[Km,AV,ih,Mv]
theorem gx(n:Nat)(l:List Bc):(byN n l).length<=l.length:=by rw[Qx];exact length_filter_le _ _
def me (w:Wd) (l:List Bc) (e:Ending) (w':Wd):Prop:=∃v',e=.returned v'/\Sl w' v' (Jp l)/\Chg No w w'
theorem Ou(w:Wd)(a:Option Addr)(cap:Nat)(l:List Bc)(n:Nat)(hnl:n=l.length)(hs:Sl w (.slice a n cap) l)(hn:n<2932031007402) :Calls prog 124 #[.slice a n cap] w (me w l):=by
 have HS:=BE hs;have HN:=BE hnl;clear hs hnl;go_enter func124,ntmps124;go_wp2
 go_loopg [3,4] 96 (fun kx s3 s4 wr=>∃p:Nat,s4=.int .i64 p/\p<=96/\96 - p<=kx/\Hid (Ow wr w.heap.size s3 (byN p l))/\Hid (Chg No w wr))
 case atStart=>exact⟨0,rfl,om,om,Ow.nil w _,Chg.refl _ w⟩
 case round=>
 obtain⟨p,rfl,hp,hkx,HO,HG⟩:=hrel;by_cases hlt:p<96
 ·have hltz:(p:Int)<96:=om
  go_wp2
  go_loopg [3,5] n (fun kx s3 s5 wr=>∃i:Nat,s5=.int .i64 i/\i<=n/\n - i<=kx/\Hid (Ow wr w.heap.size s3 (byN p l ++ (l.take i).filter fun f=>decide (f.P=(p:Int))))/\Hid (Chg No w wr))
  case atStart=>exact⟨0,rfl,om,om,by simpa using HO,HG⟩
  case round=>
  clear HO HG;obtain⟨i,rfl,hin,hkx2,HO,HG⟩:=hrel;by_cases hi:i<n
  ·have hiz:(i:Int)<(n:Int):=om;obtain⟨f,hf⟩:∃f,l[i]?=some f:=⟨_,AU (by rw[<-HN.out];exact hi)⟩;have HF:=BE hf;obtain⟨g,o,ha,hA⟩:∃g o,a=some ⟨g,o,none⟩/\LZ w g o l:=by
    obtain⟨a',c',e,_,h⟩:=HS.out;simp only[Value.slice.injEq] at e;obtain⟨rfl,-,-⟩:=e;rcases h with h | ⟨g,o,rfl,hA⟩
    ·have:=HN.out;omega
    ·exact⟨g,o,rfl,hA⟩
   subst ha;have hA2:=hA.chg HG.out (fun h=>h);obtain⟨c0,-,-,-⟩:=hA2.fields hf;have HR:=BE (hA2.2 i f hf);clear hf hA hA2;have HT:=BE (CY (p:=fun f=>decide (f.P=(p:Int))) HF.out);by_cases hc:f.P=(p:Int)
   ·have hcb:(f.P == (p:Int))=true:=(by simpa using hc);have HC:=BE hc;have hle:(byN p l ++ (l.take i).filter fun f=>decide (f.P=(p:Int))).length+1<=2932031007402:=by
     have h1:=gx (p+1) l;rw[Km,AV] at h1;have h2:((l.take i).filter fun f=>decide (f.P=(p:Int))).length<=(l.filter fun f=>decide (f.P=(p:Int))).length:=((take_sublist i l).filter _).length_le;have h3:=HN.out;rw[AV];omega
    clear hc;go_wp2_with (first | (refine BL (f:=f) rfl (.tmp 26) rfl g (o+i*6) rfl ?_ ?_;exact HR.out) | (refine DF (f:=f) rfl (.tmp 27) rfl rfl wr.heap.size rfl ?_));intro w4 K4 G4;have HO4:=BE (HO.out.new G4);have HG4:=BE (HG.out.trans G4);have HA4:=BE (LZ.one K4);have hb4:w.heap.size<=w4.heap.size:=HG4.out.size;clear K4 G4;go_wp2_with (refine CX w4 rfl (.tmp 23) (.tmp 28) rfl w.heap.size u3 _ rfl HO4.out wr.heap.size 0 1 1 [f] rfl rfl HA4.out hle hb4 ?_);intro v' w5 O5 G5;have HO5:=BE O5;have HG5:Hid (Chg No w w5):=BE (HG4.out.trans' G5 fun k hk h=>by
     have:=HO4.out.block h
     omega)
    clear O5 G5;go_wp2
    go_roundg (n - (i+1))
    case measure=>omega
    case rel=>
     refine⟨i+1,by simp,om,AM _,?_,HG5.out⟩;show Ow _ _ _ _;rw[HT.out,HC.out,<-Aq];simpa using HO5.out
   ·have hcb:(f.P == (p:Int))=false:=(by simpa using hc);go_wp2
    go_roundg (n - (i+1))
    case measure=>omega
    case rel=>
     refine⟨i+1,by simp,om,AM _,?_,HG.out⟩;show Ow _ _ _ _;rw[HT.out];simpa[hc] using HO.out
  ·have hiz:¬ (i:Int)<(n:Int):=om;go_wp2
   go_roundg (96 - (p+1))
   case measure=>omega
   case rel=>
    refine⟨p+1,by simp,om,AM _,?_,HG.out⟩;show Ow _ _ _ _;have:=HO.out;rw[show i=l.length by have:=HN.out;omega,take_length,<-Km] at this;exact this
 ·have hltz:¬ (p:Int)<96:=om
  go_wp2;go_ret;refine⟨_,rfl,?_,HG.out⟩;have:=HO.out.sl;rw[show p=96 by omega,bj] at this;exact this
section
variable {l:List Bc}{of ab:Int}
def s2 (of t:Int) (f:Bc):Bool:=snd f && decide (f.O=of) && decide (f.S=t)
theorem MS(l:List Bc)(f:Bc):mx (l ++ [f])=if mx l<f.S then f.S else mx l:=by
 unfold mx;rw[foldl_append];rfl
theorem XC(h:l.filter (cnd of ab)≠[]):0<=mx (l.filter (cnd of ab))/\ab<mx (l.filter (cnd of ab)):=by
 have h0:∀f ∈ l.filter (cnd of ab),0<=f.S:=fun f hf=>((Cv f).1 (Jq (mem_filter.1 hf).2).1).2.2.2.2.1;obtain⟨f,hf,e⟩:=Qt h h0;have h1:=Jq (mem_filter.1 hf).2;exact⟨by rw[<-e];exact h0 f hf,by rw[<-e];exact h1.2.2⟩
theorem gy(h:l.filter (cnd of ab)≠[]):UH l of ab=l.filter (s2 of (mx (l.filter (cnd of ab)))):=by
 have hp:=(XC h).2;unfold UH;generalize mx (l.filter (cnd of ab))=t at hp ⊢;rw[filter_filter];congr 1;funext f;rw[Bool.eq_iff_iff];simp only[cnd,s2,Ao,Al];constructor
 ·rintro ⟨h1,h2,h3⟩;exact⟨h2,h1⟩
 ·rintro ⟨h1,h2⟩;exact⟨h2,h1,om⟩
theorem g9(h:l.filter (cnd of ab)≠[]):lat l of ab≠[]:=by
 have h0:∀f ∈ l.filter (cnd of ab),snd f=true:=fun f hf=>(Jq (mem_filter.1 hf).2).1;obtain⟨f,hf,e⟩:=Qt h (fun f hf=>((Cv f).1 (h0 f hf)).2.2.2.2.1);have hp:=(Cv f).1 (h0 f hf);refine ne_nil_of_mem (a:=f) (H7.2 ⟨mem_filter.2 ⟨hf,by simpa using e⟩,hp.1,hp.2.1⟩)
theorem Sl.at6{w:Wd}{a:Option Addr}{n cap:Nat}(h:Sl w (.slice a n cap) l)(h0:l.length≠0):∃g o,a=some ⟨g,o,none⟩/\LZ w g o l:=by
 obtain⟨a',c',e,_,h⟩:=h;simp only[Value.slice.injEq] at e;obtain⟨rfl,-,-⟩:=e;rcases h with h | ⟨g,o,rfl,hA⟩
 ·omega
 ·exact⟨g,o,rfl,hA⟩
theorem UJ(w:Wd)(a:Option Addr)(cap:Nat)(l:List Bc)(n:Nat)(hnl:n=l.length)(hs:Sl w (.slice a n cap) l)(hn:n<2932031007402)(L:List Bc)(hL:Jp l=L)(m:Nat)(hm:L.length=m)(h0:m≠0) :Calls prog 124 #[.slice a n cap] w fun e w'=>∃g o it,e=.returned (.slice (some ⟨g,o,none⟩) m it)/\LZ w' g o L/\Chg No w w':=by
 refine(Ou w a cap l n hnl hs hn).mono ?_;rintro e w' ⟨v,rfl,⟨a',it,rfl,_,h2⟩,h3⟩;rw[hL,hm] at h2;rw[hL,hm];rcases h2 with h2 | ⟨g,o,rfl,h2⟩
 ·exact absurd h2 h0
 ·exact⟨g,o,it,rfl,h2,h3⟩
theorem Ov(w:Wd)(a:Option Addr)(cap:Nat)(l:List Bc)(n:Nat)(hnl:n=l.length)(of ab:Int)(hs:Sl w (.slice a n cap) l)(hn:n<2932031007402) :Calls prog 67 #[.slice a n cap,.int .i64 of,.int .i64 ab] w (lE w l of ab):=by
 have HS:=BE hs;have HN:=BE hnl;have HB:Hid (newest l of ab=pk (lat l of ab)):=rfl;clear hs hnl;go_enter func67,ntmps67;go_wp2_with (refine Bh rfl rfl w.heap.size rfl ?_);intro w1 K1 G1 S1;have HS1:=BE (HS.out.new G1);have HK1:=BE K1;have HG1:=BE G1;clear K1 G1 HS;go_wp2_with fail
 go_loopg [8,9] n (fun kx s8 s9 wr=>∃i:Nat,s9=.int .i64 i/\s8=.int .i64 (mx ((l.take i).filter (cnd of ab)))/\i<=n/\n - i<=kx/\Hid (Chg No w1 wr))
 case atStart=>exact⟨0,rfl,by simp[mx],om,om,Chg.refl _ _⟩
 case round=>
 obtain⟨i,rfl,rfl,hin,hkx,HGr⟩:=hrel;by_cases hlt:i<n
 ·have hltz:(i:Int)<(n:Int):=om
  obtain⟨f,hf⟩:∃f,l[i]?=some f:=⟨_,AU (by rw[<-HN.out];exact hlt)⟩;have HF:=BE hf;obtain⟨g,o,ha,hA⟩:=HS1.out.at6 (by rw[<-HN.out];omega);subst ha;have hA2:=hA.chg HGr.out (fun h=>h);have HR:=BE (hA2.2 i f hf);have HA2:=BE hA2;clear hf hA hA2;have HT:=BE (CY (p:=cnd of ab) HF.out);have HM:=BE (MS ((l.take i).filter (cnd of ab)) f);obtain⟨t,ht⟩:∃t,mx ((l.take i).filter (cnd of ab))=t:=⟨_,rfl⟩;rw[ht] at HM;rw[ht];have HTT:=BE ht;clear ht;cases hsn:snd f with
  | false=>
   have HC:Hid (cnd of ab f=false):=(by show _=_;simp[cnd,hsn]);go_wp2_with (first | (refine BL (f:=f) rfl (.tmp 25) rfl g (o+i*6) rfl ?_ ?_;exact HR.out) | (go_at_call 123;refine(CF f _).mono ?_;rintro e w3 ⟨rfl,G3⟩;have A3:=HA2.out.chg G3 (fun h=>h);obtain⟨-,k2,k3,-⟩:=A3.fields HF.out;have HG3:=BE (HGr.out.trans G3);clear A3 G3))
   go_roundg (n - (i+1))
   case measure=>omega
   case rel=>
    refine⟨i+1,by simp,?_,om,AM _,HG3.out⟩;rw[HT.out,HC.out];simp[HTT.out]
  | true=>
  by_cases hof:f.O=of
  case neg=>
   have HC:Hid (cnd of ab f=false):=(by show _=_;simp[cnd,hof]);have hofb:(f.O == of)=false:=(by simpa using hof);go_wp2_with (first | (refine BL (f:=f) rfl (.tmp 25) rfl g (o+i*6) rfl ?_ ?_;exact HR.out) | (go_at_call 123;refine(CF f _).mono ?_;rintro e w3 ⟨rfl,G3⟩;have A3:=HA2.out.chg G3 (fun h=>h);obtain⟨-,k2,k3,-⟩:=A3.fields HF.out;have HG3:=BE (HGr.out.trans G3);clear A3 G3))
   go_roundg (n - (i+1))
   case measure=>omega
   case rel=>
    refine⟨i+1,by simp,?_,om,AM _,HG3.out⟩;rw[HT.out,HC.out];simp[HTT.out]
  have hofb:(f.O == of)=true:=by simpa using hof
  by_cases hab:ab<f.S
  case neg=>
   have HC:Hid (cnd of ab f=false):=(by show _=_;simp[cnd,hab]);have habb:decide (ab<f.S)=false:=AN hab;clear hof;go_wp2_with (first | (refine BL (f:=f) rfl (.tmp 25) rfl g (o+i*6) rfl ?_ ?_;exact HR.out) | (go_at_call 123;refine(CF f _).mono ?_;rintro e w3 ⟨rfl,G3⟩;have A3:=HA2.out.chg G3 (fun h=>h);obtain⟨-,k2,k3,-⟩:=A3.fields HF.out;have HG3:=BE (HGr.out.trans G3);clear A3 G3))
   go_roundg (n - (i+1))
   case measure=>omega
   case rel=>
    refine⟨i+1,by simp,?_,om,AM _,HG3.out⟩;rw[HT.out,HC.out];simp[HTT.out]
  have HC:Hid (cnd of ab f=true):=by show _=_;simp[cnd,hsn,hof,hab]
  have habb:decide (ab<f.S)=true:=AO hab;clear hof;by_cases htt:t<f.S
  ·have htb:decide (t<f.S)=true:=AO htt;go_wp2_with (first | (refine BL (f:=f) rfl (.tmp 25) rfl g (o+i*6) rfl ?_ ?_;exact HR.out) | (go_at_call 123;refine(CF f _).mono ?_;rintro e w3 ⟨rfl,G3⟩;have A3:=HA2.out.chg G3 (fun h=>h);obtain⟨-,k2,k3,-⟩:=A3.fields HF.out;have HG3:=BE (HGr.out.trans G3);clear A3 G3))
   go_roundg (n - (i+1))
   case measure=>omega
   case rel=>
    refine⟨i+1,by simp,?_,om,AM _,HG3.out⟩;rw[HT.out,HC.out,AJ rfl,HM.out,AJ htt]
  ·have htb:decide (t<f.S)=false:=AN htt;go_wp2_with (first | (refine BL (f:=f) rfl (.tmp 25) rfl g (o+i*6) rfl ?_ ?_;exact HR.out) | (go_at_call 123;refine(CF f _).mono ?_;rintro e w3 ⟨rfl,G3⟩;have A3:=HA2.out.chg G3 (fun h=>h);obtain⟨-,k2,k3,-⟩:=A3.fields HF.out;have HG3:=BE (HGr.out.trans G3);clear A3 G3))
   go_roundg (n - (i+1))
   case measure=>omega
   case rel=>
    refine⟨i+1,by simp,?_,om,AM _,HG3.out⟩;rw[HT.out,HC.out,AJ rfl,HM.out,AI om]
 ·have hltz:¬ (i:Int)<(n:Int):=om
  rw[show i=l.length by have:=HN.out;omega,take_length];have HG2:=BE (HG1.out.trans HGr.out);have HK2:=BE (HK1.out.chg HGr.out (fun h=>h));have HS2:=BE (HS1.out.new HGr.out);have hs2:w.heap.size+1<=wr.heap.size:=by have:=HGr.out.size;omega
  have hltz:¬ ((l.length:Nat):Int)<(n:Int):=by have:=HN.out;omega
  clear HGr HG1 HK1 HS1;by_cases h0:l.filter (cnd of ab)=[]
  ·have HZ:Hid (lat l of ab=[]):=by
    show _=_;unfold lat UH;rw[h0];simp[Jp]
   rw[h0];have hm:mx [] = -1:=rfl;rw[hm];clear h0;go_wp2_with (first | refine wpList_build_fo rfl rfl ?_ | refine wpList_store_fo rfl (.tmp 6) (.tmp 67) rfl w.heap.size rfl rfl HK2.out ?_);intro w3 K3 G3;have HK3:=BE K3;have HG3:=BE (HG2.out.trans' G3 fun k hk h=>om);clear K3 G3;go_wp2;refine AZ (Gr rfl _ rfl HK3.out) rfl ?_;refine⟨?_,HG3.out⟩;rw[HB.out,HZ.out];rfl
  ·have hp:=XC h0;have HSE:=BE (gy h0);have HNE:=BE (g9 h0);obtain⟨t,ht⟩:∃t,mx (l.filter (cnd of ab))=t:=⟨_,rfl⟩;rw[ht] at HSE hp;rw[ht];obtain⟨hp1,hp2⟩:=hp;have hp3:¬ t<0:=om;have hp3b:decide (t<0)=false:=AN hp3;have HT0:=BE ht;clear ht h0;obtain⟨w2,rfl⟩:∃x,x=wr:=⟨_,rfl⟩;go_wp2_with fail
   go_loopg [11,12] n (fun kx s11 s12 wx=>∃i:Nat,s12=.int .i64 i/\i<=n/\n - i<=kx/\Hid (Ow wx w2.heap.size s11 ((l.take i).filter (s2 of t)))/\Hid (Chg No w2 wx))
   case atStart=>exact⟨0,rfl,om,om,Ow.nil _ _,Chg.refl _ _⟩
   case round=>
   obtain⟨i,rfl,hin,hkx,HO,HGr⟩:=hrel;by_cases hlt:i<n
   ·have hltz:(i:Int)<(n:Int):=om;obtain⟨f,hf⟩:∃f,l[i]?=some f:=⟨_,AU (by rw[<-HN.out];exact hlt)⟩;have HF:=BE hf;obtain⟨g,o,ha,hA⟩:=HS2.out.at6 (by rw[<-HN.out];omega);subst ha;have hA2:=hA.chg HGr.out (fun h=>h);have HR:=BE (hA2.2 i f hf);have HA2:=BE hA2;clear hf hA hA2;have HT:=BE (CY (p:=s2 of t) HF.out);cases hsn:snd f with
    | false=>
     have HC:Hid (s2 of t f=false):=(by show _=_;simp[s2,hsn]);go_wp2_with (first | (refine BL (f:=f) rfl (.tmp 76) rfl g (o+i*6) rfl ?_ ?_;exact HR.out) | (go_at_call 123;refine(CF f _).mono ?_;rintro e w3 ⟨rfl,G3⟩;have A3:=HA2.out.chg G3 (fun h=>h);obtain⟨-,k2,k3,-⟩:=A3.fields HF.out;have HG3:=BE (HGr.out.trans G3);have HO3:=BE (HO.out.new G3);clear A3 G3))
     go_roundg (n - (i+1))
     case measure=>omega
     case rel=>
      refine⟨i+1,by simp,om,AM _,?_,HG3.out⟩;show Ow _ _ _ _;rw[HT.out,HC.out];simpa using HO3.out
    | true=>
    by_cases hof:f.O=of
    case neg=>
     have HC:Hid (s2 of t f=false):=(by show _=_;simp[s2,hof]);have hofb:(f.O == of)=false:=(by simpa using hof);go_wp2_with (first | (refine BL (f:=f) rfl (.tmp 76) rfl g (o+i*6) rfl ?_ ?_;exact HR.out) | (go_at_call 123;refine(CF f _).mono ?_;rintro e w3 ⟨rfl,G3⟩;have A3:=HA2.out.chg G3 (fun h=>h);obtain⟨-,k2,k3,-⟩:=A3.fields HF.out;have HG3:=BE (HGr.out.trans G3);have HO3:=BE (HO.out.new G3);clear A3 G3))
     go_roundg (n - (i+1))
     case measure=>omega
     case rel=>
      refine⟨i+1,by simp,om,AM _,?_,HG3.out⟩;show Ow _ _ _ _;rw[HT.out,HC.out];simpa using HO3.out
    have hofb:(f.O == of)=true:=(by simpa using hof);by_cases hst:f.S=t
    case neg=>
     have HC:Hid (s2 of t f=false):=(by show _=_;simp[s2,hst]);have hstb:(f.S == t)=false:=(by simpa using hst);clear hof;go_wp2_with (first | (refine BL (f:=f) rfl (.tmp 76) rfl g (o+i*6) rfl ?_ ?_;exact HR.out) | (go_at_call 123;refine(CF f _).mono ?_;rintro e w3 ⟨rfl,G3⟩;have A3:=HA2.out.chg G3 (fun h=>h);obtain⟨-,k2,k3,-⟩:=A3.fields HF.out;have HG3:=BE (HGr.out.trans G3);have HO3:=BE (HO.out.new G3);clear A3 G3))
     go_roundg (n - (i+1))
     case measure=>omega
     case rel=>
      refine⟨i+1,by simp,om,AM _,?_,HG3.out⟩;show Ow _ _ _ _;rw[HT.out,HC.out];simpa using HO3.out
    have HC:Hid (s2 of t f=true):=(by show _=_;simp[s2,hsn,hof,hst]);have hstb:(f.S == t)=true:=(by simpa using hst);clear hof hst;have hle:((l.take i).filter (s2 of t)).length+1<=2932031007402:=by
     have:=AY (length_filter_le (s2 of t) (l.take i)) (by rw[length_take];exact Nat.min_le_left _ _);omega
    go_wp2_with (first | (refine BL (f:=f) rfl (.tmp 77) rfl g (o+i*6) rfl ?_ ?_;exact HR.out) | (refine BL (f:=f) rfl (.tmp 76) rfl g (o+i*6) rfl ?_ ?_;exact HR.out) | (go_at_call 123;refine(CF f _).mono ?_;rintro e w3 ⟨rfl,G3⟩;have A3:=HA2.out.chg G3 (fun h=>h);obtain⟨-,k2,k3,-⟩:=A3.fields HF.out;have HR3:=BE (A3.2 i f HF.out);have HG3:=BE (HGr.out.trans G3);have HO3:=BE (HO.out.new G3);clear A3 G3) | (refine BL (f:=f) rfl (.tmp 103) rfl g (o+i*6) rfl ?_ ?_;exact HR3.out) | (refine DF (f:=f) rfl (.tmp 104) rfl rfl w3.heap.size rfl ?_));intro w4 K4 G4;have HO4:=BE (HO3.out.new G4);have HG4:=BE (HG3.out.trans G4);have HA4:=BE (LZ.one K4);have hb4:w2.heap.size<=w4.heap.size:=HG4.out.size;clear K4 G4 HO3 HG3 HR3;go_wp2_with (refine CX w4 rfl (.tmp 100) (.tmp 105) rfl w2.heap.size u11 _ rfl HO4.out w3.heap.size 0 1 1 [f] rfl rfl HA4.out hle hb4 ?_);intro v' w5 O5 G5;have HO5:=BE O5;have HG5:Hid (Chg No w2 w5):=BE (HG4.out.trans' G5 fun k hk h=>by
     have:=HO4.out.block h
     omega)
    clear O5 G5;go_wp2
    go_roundg (n - (i+1))
    case measure=>omega
    case rel=>
     refine⟨i+1,by simp,om,AM _,?_,HG5.out⟩;show Ow _ _ _ _;rw[HT.out,HC.out];simpa using HO5.out
   ·have hltz:¬ (i:Int)<(n:Int):=om;have HSL:Hid (Sl wr u11 (UH l of ab)):=by
     have:=HO.out.sl;rw[show i=l.length by have:=HN.out;omega,take_length,<-HSE.out] at this;exact this
    have HG3:=BE (HG2.out.trans HGr.out);have HK3:=BE (HK2.out.chg HGr.out (fun h=>h));have hs3:w.heap.size+1<=wr.heap.size:=(by have:=HGr.out.size;omega);obtain⟨L,hL⟩:∃L,lat l of ab=L:=⟨_,rfl⟩;have hlen:=Qw l of ab;rw[hL] at HB HNE hlen;obtain⟨x,r,rfl⟩:=exists_cons_of_ne_nil HNE.out;obtain⟨k,hk⟩:∃k,r.length=k:=⟨_,rfl⟩;obtain⟨m,hm⟩:∃m,m=k+1:=⟨_,rfl⟩;have hkb:(m:Int)<=2932031007402:=(by have:=HN.out;rw[An,hk] at hlen;omega);have hm0:0<m:=om;obtain⟨a2,cap2,rfl,hcap2,hA0⟩:=HSL.out;have hsl:(UH l of ab).length<=n:=(by rw[HSE.out,HN.out];exact length_filter_le _ _);have c22:=UJ wr a2 cap2 (UH l of ab) _ rfl HSL.out om (x :: r) hL m (by rw[An,hk,hm]) om;have HKk:Hid (r.length+1=m):=(by show _=_;omega);clear hm hk hlen hL hA0 HSL HO HGr HNE HSE HK2 HG2 HS2;have h0z:(0:Int)<(m:Int):=om;go_wp2_with (first | (go_at_call 124;refine c22.mono ?_;rintro e w4 ⟨g,o,cap',rfl,hA4,G4⟩;have HA4:=BE hA4;have HG4:=BE (HG3.out.trans G4);have HK4:=BE (HK3.out.chg G4 (fun h=>h));have hs4:=G4.size;clear hA4 G4 c22) | (refine BL (f:=x) rfl (.tmp 110) rfl g o rfl ?_ ?_;exact HA4.out.2 0 x rfl) | (refine Bh rfl rfl w4.heap.size rfl ?_));intro w5 K5 G5 S5;have HK5:=BE K5;have hgs:g<w4.heap.size:=HA4.out.1;clear K5;go_wp2_with (refine wpList_store_fo rfl (.tmp 14) (.tmp 111) rfl w4.heap.size rfl rfl HK5.out ?_);intro w6 K6 G6;have G56:=G5.trans' G6 (fun k hk h=>om);have HG6:=BE (HG4.out.trans G56);have HA6:=BE (HA4.out.chg G56 (fun h=>h));have HR6:=BE (HK4.out.chg G56 (fun h=>h));have HK6:=BE K6;have hs6:w4.heap.size+1<=w6.heap.size:=(by have:=K6.lt;omega);clear K6 G6 G5 G56 HK5 S5 HA4 HG4 HK4 HG3 HK3;obtain⟨B,HBB⟩:∃B,Hid (B=w4.heap.size):=⟨_,rfl⟩;rw[<-HBB.out];rw[<-HBB.out] at HK6 hs6 hgs hs4;go_wp2_with fail
    go_loopg [15] m (fun kx s15 wx=>∃i:Nat,s15=.int .i64 i/\1<=i/\i<=m/\m - i<=kx/\Hid (Fo wx B (best x (r.take (i - 1))))/\Hid (Chg (·=B) w6 wx))
    case atStart=>exact⟨1,rfl,om,om,om,HK6.out,Chg.refl _ _⟩
    case round=>
    obtain⟨i,rfl,hi1,hik,hkx,HKr,HGr⟩:=hrel;have HBl:=BE HKr.out.lt;by_cases hlt:i<m
    ·have hltz:(i:Int)<(m:Int):=om;obtain⟨f,hf⟩:∃f,r[i - 1]?=some f:=⟨_,AU (by have:=HKk.out;omega)⟩;have HF:=BE hf;have hA7:=HA6.out.chg HGr.out om;have hf1:(x :: r)[i]?=some f:=by
      obtain⟨q,rfl⟩:∃q,i=q+1:=⟨i - 1,om⟩;simpa using hf
     have hR:=hA7.2 i f hf1;obtain⟨-,-,-,y4⟩:=hA7.fields hf1;have HR:=BE hR;obtain⟨-,-,-,-,z4,-⟩:=HKr.out.cells;clear hf hR hA7 hf1;have HT:=BE (UI (x:=x) HF.out);rw[show i - 1+1=i by omega] at HT;obtain⟨b,hb⟩:∃b,best x (r.take (i - 1))=b:=⟨_,rfl⟩;rw[hb] at z4 HT HKr;clear hb;cases ha:Gp f.C b.C with
     | true=>
      go_wp2_with fail
      go_region_held3 (fun wx=>wx.cell? ⟨g,o+i*6+4,none⟩=some (.int .i64 f.C)/\wx.cell? ⟨B,4,none⟩=some (.int .i64 b.C)) (first | exact⟨y4,z4⟩) (first | (go_at_call 125;refine(Kl _ _ _).mono ?_;rintro e w' ⟨rfl,rfl⟩))
      have HK8:=BE HKr.out.drew;have HR8:Hid (wr.drew.rangeAt g (o+i*6) (fL f)):=HR.out;go_wp2_with (first | (refine BL (f:=f) rfl (.tmp 131) rfl g (o+i*6) rfl ?_ ?_;exact HR8.out) | (refine wpList_store_fo (f':=b) rfl (.tmp 14) (.tmp 132) rfl B rfl rfl HK8.out ?_));intro w7 K7 G7;have HK7:=BE K7;have HG7:=BE (HGr.out.drew.trans G7);clear K7 G7;go_wp2
      go_roundg (m - (i+1))
      case measure=>omega
      case rel=>
       refine⟨i+1,by simp,om,om,AM _,?_,HG7.out⟩;show Fo _ _ _;rw[Nat.add_sub_cancel];rw[HT.out,AJ ha];exact HK7.out
     | false=>
      go_wp2_with fail
      go_region_held3 (fun wx=>wx.cell? ⟨g,o+i*6+4,none⟩=some (.int .i64 f.C)/\wx.cell? ⟨B,4,none⟩=some (.int .i64 b.C)) (first | exact⟨y4,z4⟩) (first | (go_at_call 125;refine(Kl _ _ _).mono ?_;rintro e w' ⟨rfl,rfl⟩))
      go_wp2
      go_roundg (m - (i+1))
      case measure=>omega
      case rel=>
       refine⟨i+1,by simp,om,om,AM _,?_,HGr.out.drew⟩;show Fo _ _ _;rw[Nat.add_sub_cancel];rw[HT.out,AI (by rw[ha];simp)];exact HKr.out
    ·have hltz:¬ (i:Int)<(m:Int):=om;have HR5:=BE (HR6.out.chg HGr.out om);go_wp2_with (first | (refine CW rfl (.tmp 14) rfl B rfl HKr.out ?_) | (refine wpList_store_fo rfl (.tmp 6) (.tmp 133) rfl w.heap.size rfl rfl HR5.out ?_));intro w9 K9 G9;have HK9:=BE K9;have HG9:=BE ((HG6.out.trans' HGr.out fun k hk h=>om).trans' G9 fun k hk h=>om);clear K9 G9;go_wp2;refine AZ (Gr rfl _ rfl HK9.out) rfl ?_;refine⟨?_,HG9.out⟩;rw[HB.out,show i - 1=r.length by have:=HKk.out;omega,take_length];rfl
end
def XD (a b:Int):Int:=if a<b then b else a
theorem XE(a b:Int):XD a b=max a b:=by unfold XD;split <;> omega
def flr (c:Bn):Nat->Int
 | 0=>if 0<c.N then c.N - 1 else -1
 | i+1=>XD (flr c i) (c.F i)
def tpl (t:Int) (l:List Bc):Int:=l.foldl (fun t f=>if snd f then XD t f.S else t) t
def mh (l:List Bc) (c:Bn):Int:=tpl (flr c 24) l
def mG (l:List Bc) (c:Bn):Int:=if 1099511627775<=mh l c then 1099511627775 else mh l c+1
theorem XF(t:Int){l:List Bc}{i:Nat}{f:Bc}(h:l[i]?=some f):tpl t (l.take (i+1))=if snd f then XD (tpl t (l.take i)) f.S else tpl t (l.take i):=by
 unfold tpl;rw[take_add_one,h,foldl_append];rfl
theorem XG(c:Bn):∀i,-1<=flr c i
 | 0=>by unfold flr;split <;> omega
 | i+1=>by
  have:=XG c i
  rw[flr];unfold XD;split <;> omega
theorem hJ(t:Int):∀(l:List Bc) ,t<=tpl t l/\∀f ∈ l,snd f=true->f.S<=tpl t l:=by
 intro l
 induction l generalizing t with
 | nil=>exact⟨Int.le_refl _,by simp⟩
 | cons x r ih=>
  have e:tpl t (x :: r)=tpl (if snd x then XD t x.S else t) r:=rfl;rw[e];obtain⟨h1,h2⟩:=ih (if snd x then XD t x.S else t);have g:t<=(if snd x then XD t x.S else t)/\(snd x=true->x.S<=(if snd x then XD t x.S else t)):=by
   cases hx:snd x
   ·simp
   ·simp only[if_true];unfold XD;constructor
    ·split <;> omega
    ·intro _;split <;> omega
  refine⟨om,fun f hf hs=>?_⟩;rcases mem_cons.1 hf with rfl | hf
  ·have:=g.2 hs;omega
  ·exact h2 f hf hs
structure lA (c:Bn):Prop where
 f:∀i,i<24->-9223372036854775808<=c.F i/\c.F i<=9223372036854775807
 n : -9223372036854775808<=c.N/\c.N<=9223372036854775807
theorem XH(w:Wd)(a:Option Addr)(cap:Nat)(l:List Bc)(n:Nat)(hnl:n=l.length)(hs:Sl w (.slice a n cap) l)(hn:n<2932031007402)(c:Bn)(hw:lA c) :Calls prog 118 #[.slice a n cap,.agg (ckA c)] w fun e w'=>e=.returned (.int .i64 (mG l c))/\Chg No w w':=by
 have HS:=BE hs;have HN:=BE hnl;have HW:=BE hw;have f2:=hw.n.1;have f4:=hw.n.2;have K0:=Ck.new w c;have HK:=BE K0;have h0:Hid (Chg No w (w.alloc (.cells (ckA c) 55))):=(Chg.refl _ w).alloc _;have G2:=K0.N;have r0:=K0.partF;have hg:=BE r0;have h6:Hid ((prog.info? 52).map (·.size)=some (ints c.F 24).length):=by show _=_;rw[BF];exact gu
 have hv:max c.N 0 - 1=flr c 0:=by
  unfold flr;split <;> omega
 have HL:=BE HS;clear hs hnl hw K0 r0;go_enter func118,ntmps118;go_wp2_with (refine wpList_load_mid rfl 52 (.tmp 14) rfl w.heap.size 0 rfl _ _ hg underlying52 rfl h6 ?_);generalize w.alloc (.cells (ckA c) 55)=w1 at *
 clear hv f2 f4 hg h6 G2 HK
 go_loopg [5,16] 24 (fun kx s5 s16 wr=>∃i:Nat,s16=.int .i64 i/\s5=.int .i64 (flr c i)/\i<=24/\24 - i<=kx/\wr=w1)
 case atStart=>exact⟨0,rfl,rfl,om,om,rfl⟩
 case round=>
 obtain⟨i,rfl,rfl,G1,f3,rfl⟩:=hrel;by_cases no:i<24
 ·have it:(i:Int)<24:=om
  have f5:=bf c.F i no;have HT:Hid (flr c (i+1)=max (flr c i) (c.F i)):=by show _=_;rw[flr,XE]
  obtain⟨t,ht⟩:∃t,flr c i=t:=⟨_,rfl⟩;rw[ht] at HT;rw[ht];clear ht;go_wp2
  go_roundg (24 - (i+1))
  case measure=>omega
  case rel=>exact⟨i+1,by simp,by rw[HT.out],om,AM _,rfl⟩
 ·have it:¬ (i:Int)<24:=om
  rw[show i=24 by omega];have it:¬ ((24:Nat):Int)<24:=om
  have p2:=BE (HS.out.new h0);obtain⟨w2,rfl⟩:∃x,x=wr:=⟨_,rfl⟩;go_wp2
  go_loopg [5,25] n (fun kx s5 s25 wx=>∃i:Nat,s25=.int .i64 i/\s5=.int .i64 (tpl (flr c 24) (l.take i))/\i<=n/\n - i<=kx/\Hid (Chg No w2 wx))
  case atStart=>exact⟨0,rfl,by simp[tpl],om,om,Chg.refl _ _⟩
  case round=>
  obtain⟨i,rfl,rfl,G1,f3,ar⟩:=hrel;by_cases no:i<n
  ·have it:(i:Int)<(n:Int):=om;obtain⟨f,hf⟩:∃f,l[i]?=some f:=⟨_,AU (by rw[<-HN.out];exact no)⟩;have HF:=BE hf;obtain⟨g,o,ha,hA⟩:∃g o,a=some ⟨g,o,none⟩/\LZ w2 g o l:=by
    obtain⟨a',c',e,_,h⟩:=p2.out;simp only[Value.slice.injEq] at e;obtain⟨rfl,-,-⟩:=e;rcases h with h | ⟨g,o,rfl,hA⟩
    ·have:=HN.out;omega
    ·exact⟨g,o,rfl,hA⟩
   subst ha;have HR:=BE ((hA.chg ar (fun h=>h)).2 i f hf);have HT:=BE (XF (flr c 24) HF);obtain⟨t,ht⟩:∃t,tpl (flr c 24) (l.take i)=t:=⟨_,rfl⟩;rw[ht] at HT;rw[ht];clear hf hA ht;go_wp2_with (first | (refine BL (f:=f) rfl (.tmp 27) rfl g (o+i*6) rfl ?_ ?_;exact HR) | (refine Bh rfl rfl wr.heap.size rfl ?_));intro w3 K3 G3 S3;have B':=BE K3;clear K3;go_wp2_with (refine wpList_store_fo rfl (.tmp 9) (.tmp 28) rfl wr.heap.size rfl rfl B' ?_);intro w4 K4 G4;have hc:=G3.trans' G4 (fun k hk h=>om);have hx:=BE (ar.out.trans hc);have La:=BE K4;clear K4 G4 G3 hc B' S3 HR;cases hsn:snd f with
   | false=>
    go_wp2_with (first | (refine CW (f:=f) rfl (.tmp 9) rfl wr.heap.size rfl ?_ ?_;exact La) | (go_at_call 168;refine(Es f _).mono ?_;rintro e w5 ⟨rfl,G5⟩;have kd:=BE (hx.out.trans G5);clear G5))
    go_roundg (n - (i+1))
    case measure=>omega
    case rel=>
     refine⟨i+1,by simp,?_,om,AM _,kd⟩;rw[HT.out,hsn];rfl
   | true=>
    go_wp2_with (first | (refine CW (f:=f) rfl (.tmp 9) rfl wr.heap.size rfl ?_ ?_;exact La) | (go_at_call 168;refine(Es f _).mono ?_;rintro e w5 ⟨rfl,G5⟩;have K5:=La.out.chg G5 (fun h=>h);obtain⟨-,-,-,k3,-,-⟩:=K5.cells;have kd:=BE (hx.out.trans G5);clear G5 K5))
    go_roundg (n - (i+1))
    case measure=>omega
    case rel=>
     refine⟨i+1,by simp,?_,om,AM _,kd⟩;rw[HT.out,hsn,AJ rfl,XE]
  ·have it:¬ (i:Int)<(n:Int):=om;have HE:Hid (mG l c=min (tpl (flr c 24) (l.take i)) 1099511627774+1):=by
    show _=_;rw[show i=l.length by have:=HN.out;omega,take_length];unfold mG mh;split <;> omega
   have f1 : -1<=tpl (flr c 24) (l.take i):=Int.le_trans (XG c 24) (hJ _ _).1;obtain⟨t,ht⟩:∃t,tpl (flr c 24) (l.take i)=t:=⟨_,rfl⟩;rw[ht] at HE f1;rw[ht];clear ht;have h1 : -1<=min t 1099511627774:=om;have h2:min t 1099511627774<=1099511627774:=om;go_wp2;go_ret;exact⟨by rw[HE.out];rfl,h0.out.trans ar⟩
theorem Gs(w:Wd)(a:Option Addr)(cap:Nat)(l:List Bc)(n:Nat)(hnl:n=l.length)(of ab:Int)(hs:Sl w (.slice a n cap) l)(hn:n<2932031007402){f:Bc}{b:Bool}(h:XB (newest l of ab)=.tuple #[.agg (fA f),.bool b]) :Calls prog 67 #[.slice a n cap,.int .i64 of,.int .i64 ab] w fun e w'=>e=.returned (.tuple #[.agg (fA f),.bool b])/\Chg No w w':=
 (Ov w a cap l n hnl of ab hs hn).mono fun _ _ ⟨h1,h2⟩=>⟨by rw[h1,h],h2⟩
section
variable {w:Wd}{b:Nat}{f F:Nat->Int}{ops:Array Oper}{rest:List Oper}{o:Oper}{a:Act}{Q:Exit->Act->World->Prop}
def gd (c:Bn) (f:Bc):Bool:=snd f && !c.B (f.P / 8).toNat
def flo (c:Bn) (of:Nat):Int:=if of=24 then -1 else c.F of
def lv (l:List Bc) (c:Bn) (of:Nat):Int:=match newest (l.filter (gd c)) of (flo c of) with
 | some f=>f.P
 | none=>-1
def A25 (w:Wd) (g:Nat) (F:Nat->Int):Prop:=w.heap[g]?=some (.cells (ints F 25).toArray 37)
theorem A25.lt(h:A25 w b f):b<w.heap.size:=(Array.getElem?_eq_some_iff.1 (show w.heap[b]?=some _ from h)).1
theorem A25.chg{S:Nat->Prop}{w':Wd}(h:A25 w b f)(hc:Chg S w w')(hb:¬ S b):A25 w' b f:=(hc.block b h.lt hb).trans h
theorem A25.set(h:A25 w b f)(i:Nat)(z:Int):A25 (w.setCell ⟨b,i,none⟩ (.int .i64 z)) b (upd f i z):=by
 have h':w.heap[b]?=some _:=h;show (w.setCell ⟨b,i,none⟩ _).heap[b]?=_;have e2:(ints f 25).toArray.setIfInBounds i (.int .i64 z)=(ints (upd f i z) 25).toArray:=by
  apply Array.ext';have:=Fd f 25 i z;simpa[i6] using this
 simp[World.setCell,Ai,h',e2]
theorem A25.cell(h:A25 w b f)(i:Nat)(hi:i<25):w.cell? ⟨b,i,none⟩=some (.int .i64 (f i))/\w.frozen? ⟨b,i,none⟩=false:=by
 have h':w.heap[b]?=some _:=h;refine⟨?_,by simp[World.frozen?,h']⟩;simp only[World.cell?,h'];simpa[i6] using BU f 25 i hi
theorem A25.congr{g:Nat->Int}(h:A25 w b f)(e:∀i,i<25->f i=g i):A25 w b g:=by
 unfold A25 at *
 rw[h,Df e]
theorem DQ(f:Nat->Int):(ints f 25).toArray.size=25:=by simp[BF]
theorem Kn:(prog.info? 37).map (·.size)=some 25:=kr
theorem iA(w:Wd):(zeroValue 37).run prog w=.ok (.agg (ints (fun _=>0) 25).toArray) w:=kr
theorem CL(hgd:o.guard=none)(ho:o.op=.alloc 37)(N:Nat)(hN:w.heap.size=N)(h:∀w',A25 w' N (fun _=>0)->Chg No w w'->w'.heap.size=N+1->wpList prog ops Q rest (a.put o.dst (.pointer (some ⟨N,0,none⟩))) w'):wpList prog ops Q (o :: rest) a w:=by
 refine wpList_plain hgd fun K hK=>?_;have hz:=iA;unfold Oper.wp;simp[execOp,ho,Instr.alloc,hz,newVar,Value.cells,newRow];rw[hN];refine hK _ _ (h _ ?_ ((Chg.refl _ w).alloc _) (by simp[hN]));rw[<-hN];show (w.heap.push _)[w.heap.size]?=_;simp
theorem Fi(hgd:o.guard=none)(x:Operand)(ho:o.op=.load 37 x)(g:Nat)(hx:a.eval x=.pointer (some ⟨g,0,none⟩))(hg:A25 w g F)(h:wpList prog ops Q rest (a.put o.dst (.agg (ints F 25).toArray)) w):wpList prog ops Q (o :: rest) a w:=
 wpList_load_row hgd 37 x ho g hx 37 _ _ _ hg underlying37 rfl (by rw[DQ];exact Kn) h
theorem DH(hgd:o.guard=none)(x y:Operand)(ho:o.op=.store 37 x y)(g:Nat)(hx:a.eval x=.pointer (some ⟨g,0,none⟩))(hy:a.eval y=.agg (ints F 25).toArray){F':Nat->Int}(hg:A25 w g F')(h:∀w',A25 w' g F->Chg (·=g) w w'->wpList prog ops Q rest (a.put o.dst undef) w'):wpList prog ops Q (o :: rest) a w:=
 wpList_store_row hgd 37 x y ho g _ hx hy 37 _ hg (by rw[DQ];exact Kn) (by rw[DQ,DQ]) (all_oneCell_toArray (Cf F 25)) (h _ (setRow_heap w g _ _ 37 _ hg) ⟨rfl,rfl,rfl,by simp,fun k _ hk=>setRow_other _ _ _ _ hk⟩)
theorem Ko{fn:Func}{q:Tmp}(h:fn.results=#[.cell q 37])(tmps:Array Value){g:Nat}(hp:tmps.getD q undef=.pointer (some ⟨g,0,none⟩))(hT:A25 w g F) :(results fn tmps).run prog w=.ok (.agg (ints F 25).toArray) w:=
 results_cell_row h tmps w g 37 _ _ _ hp hT underlying37 rfl (by rw[DQ];exact Kn)
theorem UK(c:Bn)(of:Nat)(ho:of<25)(w:Wd):Calls prog 211 #[.agg (ckA c),.int .i64 of] w fun e w'=>e=.returned (.int .i64 (flo c of))/\Chg No w w':=by
 have K0:=Ck.new w c;have no:Hid (Chg No w (w.alloc (.cells (ckA c) 55))):=(Chg.refl _ w).alloc _;by_cases it:of=24
 ·subst it;go_enter func211,ntmps211;go_wp2;go_ret;exact⟨by simp[flo],no⟩
 ·have kF:=K0.F of om;have hz:(of:Int)<24:=om
  have hb:((of:Int) == 24)=false:=by simp only[beq_eq_false_iff_ne];omega
  have HF:Hid (flo c of=c.F of):=by show _=_;simp[flo,it]
  go_enter func211,ntmps211;go_wp2;go_ret;exact⟨by rw[HF.out];rfl,no⟩
def mi (w:Wd) (l:List Bc) (c:Bn) (e:Ending) (w':Wd):Prop:=∃v',e=.returned v'/\Sl w' v' (l.filter (gd c))/\Chg No w w'
theorem Ox(w:Wd)(a:Option Addr)(cap:Nat)(l:List Bc)(n:Nat)(hnl:n=l.length)(c:Bn)(hs:Sl w (.slice a n cap) l)(hn:n<2932031007402) :Calls prog 210 #[.slice a n cap,.agg (bools c.B 12).toArray] w (mi w l c):=by
 have HN:=BE hnl;have HB:=BE (Bo.new w c.B);have HG0:Hid (Chg No w (w.alloc (.cells (bools c.B 12).toArray 53))):=(Chg.refl _ w).alloc _;have HS:=BE (hs.new HG0.out);clear hs hnl;go_enter func210,ntmps210;go_wp2;generalize w.alloc (.cells (bools c.B 12).toArray 53)=w1 at *
 obtain⟨B,HBB⟩:∃B,Hid (B=w.heap.size):=⟨_,rfl⟩;rw[<-HBB.out] at HB;rw[<-HBB.out]
 go_loopg [5,10] n (fun kx s5 s10 wr=>∃i:Nat,s10=.int .i64 i/\i<=n/\n - i<=kx/\Hid (Ow wr w1.heap.size s5 ((l.take i).filter (gd c)))/\Hid (Chg No w1 wr))
 case atStart=>exact⟨0,rfl,om,om,Ow.nil _ _,Chg.refl _ _⟩
 case round=>
 obtain⟨i,rfl,hin,hkx,HO,HG⟩:=hrel;by_cases hlt:i<n
 ·have hltz:(i:Int)<(n:Int):=om
  obtain⟨f,hf⟩:∃f,l[i]?=some f:=⟨_,AU (by rw[<-HN.out];exact hlt)⟩;have HF:=BE hf;obtain⟨g,o,ha,hA⟩:=HS.out.at6 (by rw[<-HN.out];omega);subst ha;have HR:=BE ((hA.chg HG.out (fun h=>h)).2 i f hf);clear hf hA;have HT:=BE (CY (p:=gd c) HF.out);go_wp2_with (first | (refine BL (f:=f) rfl (.tmp 12) rfl g (o+i*6) rfl ?_ ?_;exact HR.out) | (refine Bh rfl rfl wr.heap.size rfl ?_));intro w2 K2 G2 S2;have HK2:=BE K2;clear K2;go_wp2_with (refine wpList_store_fo rfl (.tmp 7) (.tmp 13) rfl wr.heap.size rfl rfl HK2.out ?_);intro w3 K3 G3;have G23:=G2.trans' G3 (fun k hk h=>om);have HG3:=BE (HG.out.trans G23);have HK3:=BE K3;have HO3:=BE (HO.out.new G23);have HB3:=BE (HB.out.chg HG3.out (fun h=>h));clear K3 G3 G2 G23 HK2 S2 HR;cases hsn:snd f with
  | false=>
   have HC:Hid (gd c f=false):=(by show _=_;simp[gd,hsn]);go_wp2_with (first | (refine CW (f:=f) rfl (.tmp 7) rfl wr.heap.size rfl ?_ ?_;exact HK3.out) | (go_at_call 168;refine(Es f _).mono ?_;rintro e w4 ⟨rfl,G4⟩;have HG4:=BE (HG3.out.trans G4);have HO4:=BE (HO3.out.new G4);clear G4))
   go_roundg (n - (i+1))
   case measure=>omega
   case rel=>
    refine⟨i+1,by simp,om,AM _,?_,HG4.out⟩;show Ow _ _ _ _;rw[HT.out,HC.out];simpa using HO4.out
  | true=>
   have hP:=(Cv f).1 hsn;have hP0:=hP.1;have hP1:=hP.2.1;clear hP;obtain⟨q,hq⟩:∃q:Nat,f.P / 8=(q:Int):=⟨(f.P / 8).toNat,om⟩;have hqt:f.P.tdiv 8=(q:Int):=(by rw[Int.tdiv_eq_ediv_of_nonneg hP0];exact hq);have hql:q<12:=om;have hqz:(q:Int)<12:=om;have HGd:Hid (gd c f=!c.B q):=by
    show _=_;unfold gd;rw[hsn,hq];simp
   cases hbq:c.B q with
   | true=>
    rw[hbq] at HGd;go_wp2_with (first | (refine CW (f:=f) rfl (.tmp 7) rfl wr.heap.size rfl ?_ ?_;exact HK3.out) | (go_at_call 168;refine(Es f _).mono ?_;rintro e w4 ⟨rfl,G4⟩;have K4:=HK3.out.chg G4 (fun h=>h);obtain⟨k0,-,-,-,-,-⟩:=K4.cells;have kB:=((HB3.out.chg G4 (fun h=>h)).cell q hql).1;rw[hbq] at kB;have HG4:=BE (HG3.out.trans G4);have HO4:=BE (HO3.out.new G4);clear G4 K4))
    go_roundg (n - (i+1))
    case measure=>omega
    case rel=>
     refine⟨i+1,by simp,om,AM _,?_,HG4.out⟩;show Ow _ _ _ _;rw[HT.out,HGd.out];simpa using HO4.out
   | false=>
    rw[hbq] at HGd;have hle:((l.take i).filter (gd c)).length+1<=2932031007402:=by
     have:=AY (length_filter_le (gd c) (l.take i)) (by rw[length_take];exact Nat.min_le_left _ _);omega
    go_wp2_with (first | (refine CW (f:=f) rfl (.tmp 7) rfl wr.heap.size rfl ?_ ?_;first | exact HK3.out | exact HK4.out) | (go_at_call 168;refine(Es f _).mono ?_;rintro e w4 ⟨rfl,G4⟩;have K4:=HK3.out.chg G4 (fun h=>h);have HK4:=BE K4;obtain⟨k0,-,-,-,-,-⟩:=K4.cells;have kB:=((HB3.out.chg G4 (fun h=>h)).cell q hql).1;rw[hbq] at kB;have HG4:=BE (HG3.out.trans G4);have HO4:=BE (HO3.out.new G4);clear G4 K4) | (refine DF (f:=f) rfl (.tmp 25) rfl rfl w4.heap.size rfl ?_));intro w5 K5 G5;have HO5:=BE (HO4.out.new G5);have HG5:=BE (HG4.out.trans G5);have HA5:=BE (LZ.one K5);have hb5:w1.heap.size<=w5.heap.size:=HG5.out.size;clear K5 G5 HO4 HG4 HK4 k0 kB;go_wp2_with (refine CX w5 rfl (.tmp 24) (.tmp 26) rfl w1.heap.size u5 _ rfl HO5.out w4.heap.size 0 1 1 [f] rfl rfl HA5.out hle hb5 ?_);intro v' w6 O6 G6;have HO6:=BE O6;have HG6:Hid (Chg No w1 w6):=BE (HG5.out.trans' G6 fun k hk h=>by
     have:=HO5.out.block h
     omega)
    clear O6 G6;go_wp2
    go_roundg (n - (i+1))
    case measure=>omega
    case rel=>
     refine⟨i+1,by simp,om,AM _,?_,HG6.out⟩;show Ow _ _ _ _;rw[HT.out,HGd.out];simpa using HO6.out
 ·have hltz:¬ (i:Int)<(n:Int):=om
  go_wp2;go_ret;refine⟨_,rfl,?_,HG0.out.trans HG.out⟩;have:=HO.out.sl;rw[show i=l.length by have:=HN.out;omega,take_length] at this;exact this
end
section
variable {l:List Bc}{w:Wd}{a:Option Addr}{n cap i:Nat}{c:Bn}
theorem UL(w:Wd)(a:Option Addr)(cap:Nat)(l:List Bc)(n:Nat)(hnl:n=l.length)(c:Bn)(hs:Sl w (.slice a n cap) l)(hn:n<2932031007402)(m:Nat)(hm:(l.filter (gd c)).length=m) :Calls prog 210 #[.slice a n cap,.agg (bools c.B 12).toArray] w fun e w'=>∃a' it,e=.returned (.slice a' m it)/\Sl w' (.slice a' m it) (l.filter (gd c))/\Chg No w w':=by
 refine(Ox w a cap l n hnl c hs hn).mono ?_;rintro e w' ⟨v,rfl,hS,h3⟩;obtain⟨a',it,rfl,_⟩:=id hS;rw[hm] at hS;exact⟨a',it,by rw[hm],hS,h3⟩
theorem Sl.apart(h:Sl w (.slice a n cap) l):l.length≠0->∀k,(Value.slice a n cap).ownBlock=some k->¬ k=w.heap.size:=by
 intro h0 k hk e;obtain⟨g,o,rfl,hA⟩:=h.at6 h0;have it:g=k:=AR hk;have:=hA.1;omega
theorem Sl.chg{S:Nat->Prop}{w':Wd}(h:Sl w (.slice a n cap) l)(hc:Chg S w w')(hs:l.length≠0->∀k,(Value.slice a n cap).ownBlock=some k->¬ S k):Sl w' (.slice a n cap) l:=by
 obtain⟨a',no,e,it,h⟩:=h;simp only[Value.slice.injEq] at e;obtain⟨rfl,rfl,rfl⟩:=e;refine⟨a,cap,rfl,it,?_⟩;rcases h with h | ⟨g,o,rfl,h⟩
 ·exact AK h
 ·by_cases h0:l.length=0
  ·exact AK h0
  ·exact AL ⟨g,o,rfl,h.chg hc (hs h0 g rfl)⟩
theorem SE(h:newest (l.filter (gd c)) i (flo c i)=none):lv l c i = -1:=by unfold lv;rw[h]
theorem bk{f:Bc}(h:newest (l.filter (gd c)) i (flo c i)=some f):lv l c i=f.P:=by unfold lv;rw[h]
end
end Go.Proofs.YtmdpnpjacfedpaaGreat.AE
namespace Go.Proofs.YtmdpnpjacfedpaaGreat.AE
open List
open Go.Proofs.Tryz
open Go.RowKit
open AA
theorem XI(w:Wd)(a:Option Addr)(cap:Nat)(of ab:Int):Calls prog 207 #[.slice a 0 cap,.int .i64 of,.int .i64 ab] w fun e w'=>e=.returned (.slice none 0 0)/\w'=w:=by
 go_enter func207,ntmps207;go_wp2;refine wp_loop_rounds 1 ?_;rw[rounds_succ];go_wp2_with (go_at_call 230;refine(XA _ _).mono ?_;rintro e w' ⟨rfl,rfl⟩);refine wp_loop_rounds 1 ?_;rw[rounds_succ];go_wp2;go_ret;exact⟨rfl,rfl⟩
theorem XJ(w:Wd)(a:Option Addr)(cap:Nat)(of ab:Int):Calls prog 169 #[.slice a 0 cap,.int .i64 of,.int .i64 ab] w (lE w [] of ab):=by
 go_enter func169,ntmps169;go_wp2_with (refine Bh rfl rfl w.heap.size rfl ?_);intro w1 K1 G1 S1;have it:=BE K1;have ar:=BE G1;go_wp2_with (first | (go_at_call 207;refine(XI _ a cap of ab).mono ?_;rintro e w2 ⟨rfl,rfl⟩) | (refine wpList_build_fo rfl rfl ?_) | (refine wpList_store_fo rfl (.tmp 6) (.tmp 19) rfl w.heap.size rfl rfl it ?_));intro w3 K3 G3;have La:=BE K3;have no:=BE (ar.out.trans' G3 fun k hk h=>om);go_wp2;refine AZ (Gr rfl _ rfl La) rfl ?_;exact⟨rfl,no⟩
theorem Oy(w:Wd)(a:Option Addr)(cap:Nat)(of ab:Int):Calls prog 169 #[.slice a 0 cap,.int .i64 of,.int .i64 ab] w fun e w'=>e=.returned (.tuple #[.agg (fA f0),.bool false])/\Chg No w w':=XJ w a cap of ab
theorem iB(w:Wd)(c:Bn) :Calls prog 171 #[.slice none 0 0,.agg (ckA c)] w fun e w'=>e=.returned (.agg (ints (lv [] c) 25).toArray)/\Chg No w w':=by
 have hs:Sl w (.slice none 0 0) ([]:List Bc):=(Ow.nil w 0).sl;have K0:=Ck.new w c;have f9:=BE K0;have hg:Hid (Chg No w (w.alloc (.cells (ckA c) 55))):=(Chg.refl _ w).alloc _;have HS:=BE (hs.new hg);have t7:Hid ((prog.info? 53).map (·.size)=some (bools c.B 12).length):=by show _=_;rw[BP];exact gw
 obtain⟨B,ar⟩:∃B,Hid (B=w.heap.size):=⟨_,rfl⟩;clear hs K0;go_enter func171,ntmps171;go_wp2_with (refine CL rfl rfl (w.heap.size+1) (World.size_alloc _ _) ?_);intro w1 A1 G1 S1;have hv:=BE (f9.out.chg G1 (fun h=>h));have f2:=BE (HS.out.new G1);have La:=BE (hg.out.trans G1);have kd:=BE A1;have h1:=BE (hv.out.partB);have c23:=UL w1 none 0 [] 0 rfl c f2 dc 0 rfl;clear A1 G1 f9 hg HS;rw[<-ar.out] at hv kd h1 S1;rw[<-ar.out];go_wp2_with (first | (refine wpList_load_mid rfl 53 (.tmp 11) rfl B 25 rfl _ _ h1 underlying53 rfl t7 ?_) | (go_at_call 210;refine c23.mono ?_;rintro e w2 ⟨a',no,rfl,hc,G2⟩;have f8:=BE hc;have it:=BE (hc.apart);have B':=BE (hv.out.chg G2 (fun h=>h));have f5:=BE (kd.out.chg G2 (fun h=>h));have f4:=BE (La.out.trans G2);have xs:=G2.size;clear G2 hc c23) | (refine CL rfl rfl w2.heap.size rfl ?_));intro w3 A3 G3 S3;have o2:=BE (B'.out.chg G3 (fun h=>h));have qa:=BE (f5.out.chg G3 (fun h=>h));have o0:=BE (f8.out.new G3);have be:=BE (f4.out.trans G3);have f6:=BE A3;clear A3 G3 hv kd h1 La f2 B' f5 f4 f8 t7;obtain⟨D,f7⟩:∃D,Hid (D=w2.heap.size):=⟨_,rfl⟩;rw[<-f7.out] at f6 S3 xs it;rw[<-f7.out];have ht:w.heap.size+2<=D:=by have:=ar.out;omega
 have e1:B+1<D:=by have:=ar.out;omega
 have l2:D<w3.heap.size:=om
 have x2:Hid ((([]:List Bc).filter (gd c)).length≠0->∀k,(Value.slice a' 0 no).ownBlock=some k->¬ k=D):=BE it;have C4:Aside _:=fun (i:Nat) (h:i<25) (W:Wd)=>UK c i h W;go_wp2_with fail
 go_loopg [14] 25 (fun kx s14 wr=>∃(i:Nat) (F:Nat->Int),s14=.int .i64 i/\i<=25/\25 - i<=kx/\Hid (A25 wr D F)/\Hid (∀j,j<i->F j=lv [] c j)/\Hid (Chg (·=D) w3 wr))
 case atStart=>exact⟨0,fun _=>0,rfl,om,om,f6.out,fun j hj=>absurd hj (Nat.not_lt_zero _),Chg.refl _ _⟩
 case round=>
 obtain⟨i,F,rfl,v',hu,h0,HF,hx⟩:=hrel;by_cases f1:i<25
 ·have h6:(i:Int)<25:=om
  obtain⟨d1,d2⟩:=h0.out.cell i f1;have o1:=BE (h0.out.set i (-1));have La:Hid (Chg (·=D) w3 (wr.setCell ⟨D,i,none⟩ (.int .i64 (-1)))):=BE (hx.out.setCell (AK rfl) i _);have c24:=C4.out i f1;have x0:=BE (o2.out.chg La om);have hm:(wr.setCell ⟨D,i,none⟩ (.int .i64 (-1))).heap.size=wr.heap.size:=by simp[World.setCell]
  go_upto_region 7 with fail
  generalize wr.setCell ⟨D,i,none⟩ (.int .i64 (-1))=wa at *
  have ho:newest (([]:List Bc).filter (gd c)) i (flo c i)=none:=rfl;have L3:=BE (SE ho);have rs:Aside _:=fun W=>Oy W a' no i (flo c i);go_wp2_with (first | (refine Ba rfl (.tmp 3) rfl B rfl x0 ?_) | (go_at_call 211;refine(c24 _).mono ?_;rintro e w4 ⟨rfl,G4⟩;have p2:=BE (La.out.trans' G4 (fun _ _ h=>h.elim));have hi:=BE (o1.out.chg G4 (fun h=>h));have oo:=BE ((o0.out.chg p2 x2));clear G4) | (go_at_call 169;refine(rs.out _).mono ?_;rintro e w5 ⟨rfl,G5⟩;have K':=BE (p2.out.trans' G5 (fun _ _ h=>h.elim));have h2:=BE (hi.out.chg G5 (fun h=>h));clear G5) | (refine Bh rfl rfl w5.heap.size rfl ?_));intro w6 K6 G6 S6;have f3:=BE K6;clear K6;go_wp2_with (refine wpList_store_fo rfl (.tmp 8) (.tmp 26) rfl w5.heap.size rfl rfl f3 ?_);intro w7 K7 G7;have ih:=h2.out.lt;have ha:=G6.trans' G7 (fun k hk h=>om);have x1:=BE (K'.out.trans' ha (fun _ _ h=>h.elim));have C3:=BE (h2.out.chg ha (fun h=>h));clear K7 G6 G7 ha f3 S6;go_wp2
  go_roundg (25 - (i+1))
  case measure=>omega
  case rel=>
   refine⟨i+1,_,by simp,om,AM _,C3.out,fun j hj=>?_,x1⟩;by_cases e:j=i
   ·subst e;simp[upd,L3.out]
   ·simp[upd,e];exact HF j om
 ·have h6:¬ (i:Int)<25:=om
  have oi:=BE (h0.out.congr (g:=lv [] c) (fun j hj=>HF.out j om));have oa:=BE (qa.out.chg hx om);go_wp2_with (first | (refine Fi rfl (.tmp 6) rfl D rfl oi ?_) | (refine DH rfl (.tmp 4) (.tmp 34) rfl (B+1) rfl rfl oa ?_));intro w8 A8 G8;have C5:=BE A8;have K3:=BE ((be.out.trans' hx fun k hk h=>om).trans' G8 fun k hk h=>by have:=ar.out;omega);clear A8 G8;go_wp2;refine AZ (Ko rfl _ rfl C5) rfl ?_;exact⟨rfl,K3⟩
end Go.Proofs.YtmdpnpjacfedpaaGreat.AE
namespace Go.Proofs.YtmdpnpjacfedpaaGreat.AE
open List
open Go.Proofs.Tryz
open Go.RowKit
open AA
open Go.RowKit Go.Sort
theorem UM(w:Wd)(a:Option Addr)(cap:Nat)(l:List Bc)(n:Nat)(hnl:n=l.length)(c:Bn)(hs:Sl w (.slice a n cap) l)(hn:n<2932031007402) :Calls prog 88 #[.slice a n cap,.agg (ckA c)] w fun e w'=>e=.returned (.agg (ints (lv l c) 25).toArray)/\Chg No w w':=by
 have HN:=BE hnl;have K0:=Ck.new w c;have HK0:=BE K0;have HG0:Hid (Chg No w (w.alloc (.cells (ckA c) 55))):=(Chg.refl _ w).alloc _;have HS:=BE (hs.new HG0.out);obtain⟨m,hm⟩:∃m,(l.filter (gd c)).length=m:=⟨_,rfl⟩;have hmn:m<=n:=by rw[<-hm,hnl];exact length_filter_le _ _
 have HM:=BE hm;obtain⟨B,HBB⟩:∃B,Hid (B=w.heap.size):=⟨_,rfl⟩;clear hs hnl K0 hm;go_enter func88,ntmps88;go_wp2_with (refine CL rfl rfl (w.heap.size+1) (World.size_alloc _ _) ?_);intro w1 A1 G1 S1;have HK1:=BE (HK0.out.chg G1 (fun h=>h));have HS1:=BE (HS.out.new G1);have HG1:=BE (HG0.out.trans G1);have HA1:=BE A1;clear A1 G1 HK0 HG0 HS;rw[<-HBB.out] at HK1 HA1 S1;rw[<-HBB.out];have HSz:=BE S1;clear S1;go_wp2_with fail
 go_loopg [5,6] n (fun kx s5 s6 wr=>∃i:Nat,s6=.int .i64 i/\i<=n/\n - i<=kx/\Hid (Ow wr w1.heap.size s5 ((l.take i).filter (gd c)))/\Hid (Chg No w1 wr))
 case atStart=>exact⟨0,rfl,om,om,Ow.nil _ _,Chg.refl _ _⟩
 case round=>
 obtain⟨i,rfl,hin,hkx,HO,HGr⟩:=hrel;by_cases hlt:i<n
 ·have hltz:(i:Int)<(n:Int):=om
  obtain⟨f,hf⟩:∃f,l[i]?=some f:=⟨_,AU (by rw[<-HN.out];exact hlt)⟩;have HF:=BE hf;obtain⟨g,o,ha,hA⟩:=HS1.out.at6 (by rw[<-HN.out];omega);subst ha;have hA2:=hA.chg HGr.out (fun h=>h);have HR:=BE (hA2.2 i f hf);have HA2:=BE hA2;clear hf hA hA2;have HT:=BE (CY (p:=gd c) HF.out);cases hsn:snd f with
  | false=>
   have HC:Hid (gd c f=false):=(by show _=_;simp[gd,hsn]);go_wp2_with (first | (refine BL (f:=f) rfl (.tmp 21) rfl g (o+i*6) rfl ?_ ?_;exact HR.out) | (go_at_call 123;refine(CF f _).mono ?_;rintro e w3 ⟨rfl,G3⟩;have A3:=HA2.out.chg G3 (fun h=>h);have HG3:=BE (HGr.out.trans G3);have HO3:=BE (HO.out.new G3);clear A3 G3))
   go_roundg (n - (i+1))
   case measure=>omega
   case rel=>
    refine⟨i+1,by simp,om,AM _,?_,HG3.out⟩;show Ow _ _ _ _;rw[HT.out,HC.out];simpa using HO3.out
  | true=>
   have hP:=(Cv f).1 hsn;have hP0:=hP.1;have hP1:=hP.2.1;clear hP;obtain⟨q,hq⟩:∃q:Nat,f.P / 8=(q:Int):=⟨(f.P / 8).toNat,om⟩;have hqt:f.P.tdiv 8=(q:Int):=(by rw[Int.tdiv_eq_ediv_of_nonneg hP0];exact hq);have hql:q<12:=om;have hqz:(q:Int)<12:=om;have HGd:Hid (gd c f=!c.B q):=by
    show _=_;unfold gd;rw[hsn,hq];simp
   cases hbq:c.B q with
   | true=>
    rw[hbq] at HGd;go_wp2_with (first | (refine BL (f:=f) rfl (.tmp 21) rfl g (o+i*6) rfl ?_ ?_;exact HR.out) | (go_at_call 123;refine(CF f _).mono ?_;rintro e w3 ⟨rfl,G3⟩;have A3:=HA2.out.chg G3 (fun h=>h);obtain⟨k0,-,-,-⟩:=A3.fields HF.out;have kB:=(HK1.out.chg (HGr.out.trans G3) (fun h=>h)).B q hql;rw[hbq] at kB;have HG3:=BE (HGr.out.trans G3);have HO3:=BE (HO.out.new G3);clear A3 G3))
    go_roundg (n - (i+1))
    case measure=>omega
    case rel=>
     refine⟨i+1,by simp,om,AM _,?_,HG3.out⟩;show Ow _ _ _ _;rw[HT.out,HGd.out];simpa using HO3.out
   | false=>
    rw[hbq] at HGd;have hle:((l.take i).filter (gd c)).length+1<=2932031007402:=by
     have:=AY (length_filter_le (gd c) (l.take i)) (by rw[length_take];exact Nat.min_le_left _ _);omega
    go_wp2_with (first | (refine BL (f:=f) rfl (.tmp 21) rfl g (o+i*6) rfl ?_ ?_;exact HR.out) | (go_at_call 123;refine(CF f _).mono ?_;rintro e w3 ⟨rfl,G3⟩;have A3:=HA2.out.chg G3 (fun h=>h);obtain⟨k0,-,-,-⟩:=A3.fields HF.out;have kB:=(HK1.out.chg (HGr.out.trans G3) (fun h=>h)).B q hql;rw[hbq] at kB;have HR3:=BE (A3.2 i f HF.out);have HG3:=BE (HGr.out.trans G3);have HO3:=BE (HO.out.new G3);clear A3 G3) | (refine BL (f:=f) rfl (.tmp 40) rfl g (o+i*6) rfl ?_ ?_;exact HR3.out) | (refine DF (f:=f) rfl (.tmp 41) rfl rfl w3.heap.size rfl ?_));intro w5 K5 G5;have HO5:=BE (HO3.out.new G5);have HG5:=BE (HG3.out.trans G5);have HA5:=BE (LZ.one K5);have hb5:w1.heap.size<=w5.heap.size:=HG5.out.size;clear K5 G5 HO3 HG3 k0 kB;go_wp2_with (refine CX w5 rfl (.tmp 37) (.tmp 42) rfl w1.heap.size u5 _ rfl HO5.out w3.heap.size 0 1 1 [f] rfl rfl HA5.out hle hb5 ?_);intro v' w6 O6 G6;have HO6:=BE O6;have HG6:Hid (Chg No w1 w6):=BE (HG5.out.trans' G6 fun k hk h=>by
     have:=HO5.out.block h
     omega)
    clear O6 G6;go_wp2
    go_roundg (n - (i+1))
    case measure=>omega
    case rel=>
     refine⟨i+1,by simp,om,AM _,?_,HG6.out⟩;show Ow _ _ _ _;rw[HT.out,HGd.out];simpa using HO6.out
 ·have hltz:¬ (i:Int)<(n:Int):=om
  have hSl:Sl wr u5 (l.filter (gd c)):=by
   have:=HO.out.sl;rw[show i=l.length by have:=HN.out;omega,take_length] at this;exact this
  obtain⟨a',cap',e',-⟩:=id hSl;rw[HM.out] at e';subst e';have HSl:=BE hSl;have HSb0:=BE hSl.apart;have HK2:=BE (HK1.out.chg HGr.out (fun h=>h));have HA2:=BE (HA1.out.chg HGr.out (fun h=>h));have HG2:=BE (HG1.out.trans HGr.out);have hs2:=HGr.out.size;clear hSl HO HK1 HA1 HG1 HS1;obtain⟨w2,rfl⟩:∃x,x=wr:=⟨_,rfl⟩;clear HGr;go_wp2_with (refine CL rfl rfl w2.heap.size rfl ?_);intro w3 A3 G3 S3;have HK3:=BE (HK2.out.chg G3 (fun h=>h));have HA3:=BE (HA2.out.chg G3 (fun h=>h));have HS3:=BE (HSl.out.new G3);have HG3:=BE (HG2.out.trans G3);have HD3:=BE A3;clear A3 G3 HK2 HA2 HG2 HSl;obtain⟨D,HDD⟩:∃D,Hid (D=w2.heap.size):=⟨_,rfl⟩;rw[<-HDD.out] at HD3 S3 hs2 HSb0;rw[<-HDD.out];have hDw:w.heap.size+2<=D:=by have:=HBB.out;have:=HSz.out;omega
  have hBD:B+1<D:=by have:=HBB.out;have:=HSz.out;omega
  have hDs:D<w3.heap.size:=om
  go_wp2_with fail
  go_loopg [9] 25 (fun kx s14 wr=>∃(i:Nat) (F:Nat->Int),s14=.int .i64 i/\i<=25/\25 - i<=kx/\Hid (A25 wr D F)/\Hid (∀j,j<i->F j=lv l c j)/\Hid (Chg (·=D) w3 wr))
  case atStart=>exact⟨0,fun _=>0,rfl,om,om,HD3.out,fun j hj=>absurd hj (Nat.not_lt_zero _),Chg.refl _ _⟩
  case round=>
  obtain⟨i,F,rfl,hin,hkx,HDr,HF,HGr⟩:=hrel;by_cases hlt:i<25
  ·have hltz:(i:Int)<=24:=om;have hltz':(i:Int)<25:=om;obtain⟨d1,d2⟩:=HDr.out.cell i hlt;have HD1:=BE (HDr.out.set i (-1));have HG1:Hid (Chg (·=D) w3 (wr.setCell ⟨D,i,none⟩ (.int .i64 (-1)))):=BE (HGr.out.setCell (AK rfl) i _);have HSr:=BE (HS3.out.chg HG1.out HSb0.out);have HDD2:=BE HD1.out.lt
   go_upto_if 49 with fail
   go_cut [10] from 48 to 53 (fun s10 wx=>s10=.int .i64 (flo c i)/\wr=wx)
   case first=>
    by_cases h24:i<24
    ·have h24z:(i:Int)<24:=om;have kF:=(HK3.out.chg HGr.out om).F i h24;have HFl:Hid (flo c i=c.F i):=(by show _=_;unfold flo;rw[AI om]);go_wp2_with fail
     go_meet
     case rel=>exact⟨by rw[HFl.out],rfl⟩
    ·have h24z:¬ (i:Int)<24:=om;have HFl:Hid (flo c i = -1):=(by show _=_;unfold flo;rw[AJ om]);go_wp2_with fail
     go_meet
     case rel=>exact⟨by rw[HFl.out],rfl⟩
   case rest=>
   obtain⟨rfl,rfl⟩:=hcut
   go_upto_region 16 with fail
   generalize wr.setCell ⟨D,i,none⟩ (.int .i64 (-1))=wa at *
   clear d1 d2;cases ho:newest (l.filter (gd c)) i (flo c i) with
   | none=>
    have HLv:=BE (SE ho);have c12:=Gs wa a' cap' (l.filter (gd c)) m HM.out.symm i (flo c i) HSr.out om (f:=f0) (b:=false) (by rw[ho];rfl);go_wp2_with (first | (go_at_call 67;refine c12.mono ?_;rintro e w5 ⟨rfl,G5⟩;have HG5:=BE (HG1.out.trans' G5 (fun _ _ h=>h.elim));have HD5:=BE (HD1.out.chg G5 (fun h=>h));clear G5) | (refine Bh rfl rfl w5.heap.size rfl ?_));intro w6 K6 G6 S6;have HK6:=BE K6;clear K6;go_wp2_with (refine wpList_store_fo rfl (.tmp 11) (.tmp 61) rfl w5.heap.size rfl rfl HK6.out ?_);intro w7 K7 G7;have hD5:=HD5.out.lt;have G67:=G6.trans' G7 (fun k hk h=>om);have HG7:=BE (HG5.out.trans' G67 (fun _ _ h=>h.elim));have HD7:=BE (HD5.out.chg G67 (fun h=>h));clear K7 G6 G7 G67 HK6 S6;go_wp2
    go_roundg (25 - (i+1))
    case measure=>omega
    case rel=>
     refine⟨i+1,_,by simp,om,AM _,HD7.out,fun j hj=>?_,HG7.out⟩;by_cases e:j=i
     ·subst e;simp[upd,HLv.out]
     ·simp[upd,e];exact HF.out j om
   | some f=>
    have HLv:=BE (bk ho);have c12:=Gs wa a' cap' (l.filter (gd c)) m HM.out.symm i (flo c i) HSr.out om (f:=f) (b:=true) (by rw[ho];rfl);go_wp2_with (first | (go_at_call 67;refine c12.mono ?_;rintro e w5 ⟨rfl,G5⟩;have HG5:=BE (HG1.out.trans' G5 (fun _ _ h=>h.elim));have HD5:=BE (HD1.out.chg G5 (fun h=>h));clear G5) | (refine Bh rfl rfl w5.heap.size rfl ?_));intro w6 K6 G6 S6;have HK6:=BE K6;clear K6;go_wp2_with (refine wpList_store_fo rfl (.tmp 11) (.tmp 61) rfl w5.heap.size rfl rfl HK6.out ?_);intro w7 K7 G7;have hD5:=HD5.out.lt;have G67:=G6.trans' G7 (fun k hk h=>om);have HG7:=BE (HG5.out.trans' G67 (fun _ _ h=>h.elim));have HD7:=BE (HD5.out.chg G67 (fun h=>h));obtain⟨k0,-,-,-,-,-⟩:=K7.cells;obtain⟨e1,e2⟩:=HD7.out.cell i hlt;have HD8:=BE (HD7.out.set i f.P);have HG8:Hid (Chg (·=D) w3 (w7.setCell ⟨D,i,none⟩ (.int .i64 f.P))):=BE (HG7.out.setCell (AK rfl) i _);clear K7 G6 G7 G67 HK6 S6;go_wp2
    go_roundg (25 - (i+1))
    case measure=>omega
    case rel=>
     refine⟨i+1,_,by simp,om,AM _,HD8.out,fun j hj=>?_,HG8.out⟩;by_cases e:j=i
     ·subst e;simp[upd,HLv.out]
     ·simp[upd,e];exact HF.out j om
  ·have hltz:¬ (i:Int)<=24:=om;have hltz':¬ (i:Int)<25:=om;have HDl:=BE (HDr.out.congr (g:=lv l c) (fun j hj=>HF.out j om));have HAr:=BE (HA3.out.chg HGr.out om);go_wp2_with (first | (refine Fi rfl (.tmp 8) rfl D rfl HDl.out ?_) | (refine DH rfl (.tmp 4) (.tmp 68) rfl (B+1) rfl rfl HAr.out ?_));intro w8 A8 G8;have HA8:=BE A8;have HG8:=BE ((HG3.out.trans' HGr.out fun k hk h=>om).trans' G8 fun k hk h=>by have:=HBB.out;omega);clear A8 G8;go_wp2;refine AZ (Ko rfl _ rfl HA8.out) rfl ?_;exact⟨rfl,HG8.out⟩
end Go.Proofs.YtmdpnpjacfedpaaGreat.AE
namespace Go.Proofs.YtmdpnpjacfedpaaGreat.AD
open List
open Go.Proofs.Tryz
open Go.RowKit
section
variable {w w':Wd}{b n:Nat}{t:TypeId}{F:Nat->Bool}
end
theorem Kq(w:Wd):(zeroValue 177).run prog w=.ok (.agg (ints (fun _=>0) 13).toArray) w:=kr
theorem Kr(w:Wd):(Instr.makeSlice 43 (.int .i64 12) (.int .i64 12)).run prog w=.ok (.slice (some ⟨w.heap.size,0,none⟩) 12 12) (w.alloc (.cells (ints (fun _=>0) 12).toArray 3)):=kr
def cnt (F:Nat->Int) (s:Int):Nat->Nat
 | 0=>0
 | k+1=>cnt F s k+if F k=s then 1 else 0
theorem XK(F:Nat->Int)(s:Int)(k:Nat):cnt F s k<=k:=by
 induction k with
 | zero=>exact AM _
 | succ k ih=>unfold cnt;split <;> omega
theorem CH(w:Wd)(n:Int)(h0:0<=n)(h1:n<12):Calls prog 106 #[.int .i64 n] w fun e w'=>e=.returned (.bool true)/\w'=w:=by
 go_enter func106,ntmps106;go_wp2;go_ret;exact⟨rfl,rfl⟩
theorem Dq(w:Wd)(n:Int)(h:n<0\/12<=n):Calls prog 106 #[.int .i64 n] w fun e w'=>e=.returned (.bool false)/\w'=w:=by
 by_cases h0:0<=n
 ·have h1:¬ n<12:=om
  go_enter func106,ntmps106;go_wp2;go_ret;exact⟨rfl,rfl⟩
 ·go_enter func106,ntmps106;go_wp2;go_ret;exact⟨rfl,rfl⟩
theorem In(w:Wd)(n:Int)(h0:0<=n)(h1:n<=3):Calls prog 212 #[.int .i64 n] w fun e w'=>e=.returned (.bool true)/\w'=w:=by
 go_enter func212,ntmps212;go_wp2;go_ret;exact⟨rfl,rfl⟩
theorem XL(w:Wd)(n:Int)(h:n<0\/3<n):Calls prog 212 #[.int .i64 n] w fun e w'=>e=.returned (.bool false)/\w'=w:=by
 by_cases h0:0<=n
 ·have h1:¬ n<=3:=om
  go_enter func212,ntmps212;go_wp2;go_ret;exact⟨rfl,rfl⟩
 ·go_enter func212,ntmps212;go_wp2;go_ret;exact⟨rfl,rfl⟩
theorem He(w:Wd):Calls prog 116 #[] w fun e w'=>e=.returned (.pointer (some ⟨w.heap.size,0,none⟩))/\IB w' w.heap.size 177 13 (fun _=>0)/\Chg No w w':=by
 go_enter func116,ntmps116;go_wp2_with (refine CV rfl 177 rfl w.heap.size rfl Kq ?_);intro w1 K1 G1 S1;have no:=BE (show IB w1 w.heap.size 177 13 (fun _=>0) from K1);have Go:=BE G1;generalize HB:w.heap.size=b at *
 have HB:=BE HB;go_wp2_with fail
 go_loopg [4] 12 (fun kx s4 wr=>∃i:Nat,s4=.int .i64 i/\i<=12/\12 - i<=kx/\Hid (IB wr b 177 13 (fun _=>0))/\Hid (Chg No w wr))
 case atStart=>exact⟨0,rfl,om,om,no,Go⟩
 case round=>
 obtain⟨i,rfl,ar,La,HK,HG⟩:=hrel;by_cases hv:i<12
 ·have it:(i:Int)<12:=om
  obtain⟨c,f⟩:=HK.out.cell i om;go_wp2
  go_roundg (12 - (i+1))
  case measure=>omega
  case rel=>
   refine⟨i+1,by simp,om,AM _,?_,?_⟩
   ·exact(HK.out.set i 0).congr fun j _=>by unfold upd;split <;> rfl
   ·exact HG.out.setCell (AL (by rw[HB.out];exact AM _)) _ _
 ·have it:¬ (i:Int)<12:=om
  go_wp2;go_ret;exact⟨rfl,HK.out,HG⟩
theorem bm(w:Wd)(b:Nat)(F:Nat->Int)(h:IB w b 177 13 F)(n:Nat)(hn:n<12):Calls prog 59 #[.pointer (some ⟨b,0,none⟩),.int .i64 n] w fun e w'=>e=.returned (.tuple #[.int .i64 (F n),.nilIface])/\w'=w:=by
 obtain⟨c,-⟩:=h.cell n om;have h1:(n:Int)<12:=om
 go_enter func59,ntmps59;go_wp2_with (go_at_call 106;refine(CH _ _ om h1).mono ?_;rintro e w1 ⟨rfl,rfl⟩);go_ret2;exact⟨rfl,rfl⟩
theorem iC(w:Wd)(b:Nat)(n:Int)(hn:n<0\/12<=n):Calls prog 59 #[.pointer (some ⟨b,0,none⟩),.int .i64 n] w fun e w'=>e=.returned (.tuple #[.int .i64 0,.iface 57 (.int .i64 1)])/\w'=w:=by
 go_enter func59,ntmps59;go_wp2_with (go_at_call 106;refine(Dq _ _ hn).mono ?_;rintro e w1 ⟨rfl,rfl⟩);go_ret2;exact⟨rfl,rfl⟩
theorem GJ(w:Wd)(b:Nat)(F:Nat->Int)(h:IB w b 177 13 F)(s:Int):Calls prog 108 #[.pointer (some ⟨b,0,none⟩),.int .i64 s] w fun e w'=>e=.returned (.int .i64 (cnt F s 12:Nat))/\w'=w:=by
 have HK:=BE h;go_enter func108,ntmps108;go_wp2_with fail
 go_loopg [5,7] 12 (fun kx s5 s7 wr=>∃i:Nat,s7=.int .i64 i/\s5=.int .i64 (cnt F s i:Nat)/\i<=12/\12 - i<=kx/\wr=w)
 case atStart=>exact⟨0,rfl,rfl,om,om,rfl⟩
 case round=>
 obtain⟨i,rfl,rfl,La,Go,rfl⟩:=hrel;by_cases ar:i<12
 ·have it:(i:Int)<12:=om
  obtain⟨c,f⟩:=HK.out.cell i om;have hc:=XK F s i;have HE:Hid (cnt F s (i+1)=cnt F s i+if F i=s then 1 else 0):=rfl;by_cases he:F i=s
  ·have hb:(F i == s)=true:=(by simp[he]);rw[AJ he] at HE;go_wp2
   go_roundg (12 - (i+1))
   case measure=>omega
   case rel=>exact⟨i+1,by simp,by rw[HE.out];simp,om,AM _,rfl⟩
  ·have hb:(F i == s)=false:=(by simp[he]);rw[AI he] at HE;go_wp2
   go_roundg (12 - (i+1))
   case measure=>omega
   case rel=>exact⟨i+1,by simp,by rw[HE.out];simp,om,AM _,rfl⟩
 ·have it:¬ (i:Int)<12:=om
  have no:i=12:=om
  subst no;go_wp2;go_ret;exact⟨rfl,rfl⟩
theorem Ks:(prog.info? 3).map (·.size)=some 1:=kr
theorem H8(g o j:Nat):(⟨g,o,none⟩:Addr).add j=⟨g,o+j,none⟩:=by unfold Addr.add;split <;> simp_all
theorem Qy(f i:Nat):((f:Int)+(i:Int)).tmod 12=(((f+i) % 12:Nat):Int):=by
 rw[Av om];omega
def XM (F:Nat->Int):Int:=if 2<cnt F 3 12 then 0 else 1+2*(2 - (cnt F 3 12:Int))
theorem Mw(w:Wd)(b:Nat)(n s:Int)(hn:(n<0\/12<=n)\/(s<0\/3<s)):Calls prog 173 #[.pointer (some ⟨b,0,none⟩),.int .i64 n,.int .i64 s] w fun e w'=>e=.returned (.iface 57 (.int .i64 1))/\w'=w:=by
 by_cases h1:n<0\/12<=n
 ·go_enter func173,ntmps173;go_wp2_with (first | (go_at_call 106;refine(Dq _ _ h1).mono ?_;rintro e w1 ⟨rfl,rfl⟩));go_ret;exact⟨rfl,rfl⟩
 ·have h2:s<0\/3<s:=om
  have h3:0<=n:=om
  have h4:n<12:=om
  go_enter func173,ntmps173;go_wp2_with (first | (go_at_call 106;refine(CH _ _ h3 h4).mono ?_;rintro e w1 ⟨rfl,rfl⟩) | (go_at_call 212;refine(XL _ _ h2).mono ?_;rintro e w1 ⟨rfl,rfl⟩));go_ret;exact⟨rfl,rfl⟩
theorem bo(w:Wd)(b:Nat)(F:Nat->Int)(h:IB w b 177 13 F)(n:Nat)(s:Int)(hn:n<12)(h0:0<=s)(h3:s<=3)(hF:F n=3)(hs:s≠3):Calls prog 173 #[.pointer (some ⟨b,0,none⟩),.int .i64 n,.int .i64 s] w fun e w'=>e=.returned (.iface 57 (.int .i64 12))/\w'=w:=by
 obtain⟨c,-⟩:=h.cell n om;rw[hF] at c;have h1:(n:Int)<12:=om
 have hb:(s == 3)=false:=by simp[hs]
 go_enter func173,ntmps173;go_wp2_with (first | (go_at_call 106;refine(CH _ _ om h1).mono ?_;rintro e w1 ⟨rfl,rfl⟩) | (go_at_call 212;refine(In _ _ h0 h3).mono ?_;rintro e w1 ⟨rfl,rfl⟩));go_ret;exact⟨rfl,rfl⟩
theorem Mx(w:Wd)(b:Nat)(F:Nat->Int)(h:IB w b 177 13 F)(n:Nat)(s:Int)(hn:n<12)(h0:0<=s)(h3:s<=3)(hF:¬ (F n=3/\s≠3)):Calls prog 173 #[.pointer (some ⟨b,0,none⟩),.int .i64 n,.int .i64 s] w fun e w'=>e=.returned .nilIface/\IB w' b 177 13 (upd F n s)/\Chg (·=b) w w':=by
 obtain⟨c,f⟩:=h.cell n om;have h1:(n:Int)<12:=om
 have HK:=BE h;by_cases h2:F n=3
 ·rw[h2] at c;have hs:s=3:=by
   by_cases hs:s=3
   ·exact hs
   ·exact absurd ⟨h2,hs⟩ hF
  subst hs;go_enter func173,ntmps173;go_wp2_with (first | (go_at_call 106;refine(CH _ _ om h1).mono ?_;rintro e w1 ⟨rfl,rfl⟩) | (go_at_call 212;refine(In _ _ om om).mono ?_;rintro e w1 ⟨rfl,rfl⟩));go_ret;exact⟨rfl,HK.out.set _ _,(Chg.refl (·=b) _).setCell (AK rfl) _ _⟩
 ·have hb:(F n == 3)=false:=by simp[h2]
  go_enter func173,ntmps173;go_wp2_with (first | (go_at_call 106;refine(CH _ _ om h1).mono ?_;rintro e w1 ⟨rfl,rfl⟩) | (go_at_call 212;refine(In _ _ h0 h3).mono ?_;rintro e w1 ⟨rfl,rfl⟩));go_ret;exact⟨rfl,HK.out.set _ _,(Chg.refl (·=b) _).setCell (AK rfl) _ _⟩
theorem EC(w:Wd)(b:Nat)(F:Nat->Int)(h:IB w b 177 13 F):Calls prog 47 #[.pointer (some ⟨b,0,none⟩)] w fun e w'=>e=.returned (.slice (some ⟨w.heap.size,0,none⟩) 12 12)/\IB w' w.heap.size 3 12 F/\Chg No w w':=by
 have hm:=Kr;have HB:Hid (b<w.heap.size):=h.lt;have it:=BE (IB.new w 3 12 (fun _=>0));have no:Hid (Chg No w (w.alloc (.cells (ints (fun _=>0) 12).toArray 3))):=(Chg.refl _ w).alloc _;have HK:=BE (h.chg no (fun f=>f));go_enter func47,ntmps47;go_wp2_with (refine wpList_copy_own rfl (.tmp 5) (.tmp 9) 43 43 rfl 3 underlying43 Ks w.heap.size 0 12 12 ⟨b,0,none⟩ 12 12 rfl rfl (ints (fun _=>0) 12).toArray 3 it (ints F 12) (by rw[BF];rfl) (fun j v hv=>by rw[H8,AW,(HK.out.cell j (by have:=(List.getElem?_eq_some_iff.1 hv).1;rw[BF] at this;omega)).1,<-hv,BU _ _ _ (by have:=(List.getElem?_eq_some_iff.1 hv).1;rw[BF] at this;omega)];rfl) (by simp[BF]) (Cf F 12) ?_);go_ret;have e1:(ints F 12 ++ List.drop (ints F 12).length (ints (fun _=>0) 12)).toArray=(ints F 12).toArray:=by
  rw[BF,drop_of_length_le (by simp[BF]),append_nil]
 rw[e1];exact⟨rfl,it.out.row F,no.out.trans' (Dx _ _ _) (fun i hi e=>om)⟩
theorem Kt(w:Wd)(b:Nat)(F:Nat->Int)(h:IB w b 177 13 F):Calls prog 107 #[.pointer (some ⟨b,0,none⟩)] w fun e w'=>e=.returned (.bool (decide (2<cnt F 3 12)))/\w'=w:=by
 have hc:=GJ w b F h 3;have HD:Hid (decide (2<((cnt F 3 12:Nat):Int))=decide (2<cnt F 3 12)):=decide_eq_decide.2 om;go_enter func107,ntmps107;go_wp2_with (go_at_call 108;refine hc.mono ?_;rintro e w1 ⟨rfl,rfl⟩);go_ret;exact⟨by rw[<-HD.out];rfl,rfl⟩
theorem UN(w:Wd)(b:Nat)(F:Nat->Int)(h:IB w b 177 13 F):Calls prog 192 #[.pointer (some ⟨b,0,none⟩)] w fun e w'=>e=.returned (.int .i64 (XM F))/\w'=w:=by
 have hc:=GJ w b F h 3;have hw:=Kt w b F h;have hl:=XK F 3 12;by_cases hx:2<cnt F 3 12
 ·have HD:Hid (XM F=0):=by show _=_;unfold XM;rw[AJ hx]
  rw[AO hx] at hw;go_enter func192,ntmps192;go_wp2_with (go_at_call 107;refine hw.mono ?_;rintro e w1 ⟨rfl,rfl⟩);go_ret;exact⟨by rw[HD.out];rfl,rfl⟩
 ·have HD:Hid (XM F=1+2*(2 - (cnt F 3 12:Int))):=by show _=_;unfold XM;rw[AI hx]
  rw[AN hx] at hw;go_enter func192,ntmps192;go_wp2_with (first | (go_at_call 107;refine hw.mono ?_;rintro e w1 ⟨rfl,rfl⟩) | (go_at_call 108;refine hc.mono ?_;rintro e w1 ⟨rfl,rfl⟩));go_ret;exact⟨by rw[HD.out];rfl,rfl⟩
theorem UO(w:Wd)(b:Nat)(F:Nat->Int)(h:IB w b 177 13 F):Calls prog 147 #[.pointer (some ⟨b,0,none⟩)] w fun e w'=>e=.returned (.bool (decide (XM F<(cnt F 0 12:Nat))))/\w'=w:=by
 have hc:=GJ w b F h 0;have hw:=UN w b F h;go_enter func147,ntmps147;go_wp2_with (first | (go_at_call 108;refine hc.mono ?_;rintro e w1 ⟨rfl,rfl⟩) | (go_at_call 192;refine hw.mono ?_;rintro e w1 ⟨rfl,rfl⟩));go_ret;exact⟨rfl,rfl⟩
theorem XN(w:Wd)(b:Nat)(F:Nat->Int)(h:IB w b 177 13 F)(f:Nat)(hf:f<12)(h12:F 12=f)(j:Nat)(hj:j<12)(m:Nat)(hmj:m=(f+j) % 12)(hF:F m=0)(hno:∀i,i<j->F ((f+i) % 12)≠0):Calls prog 193 #[.pointer (some ⟨b,0,none⟩)] w fun e w'=>e=.returned (.tuple #[.int .i64 m,.nilIface])/\IB w' b 177 13 (upd (upd F m 1) 12 ((m+1) % 12:Nat))/\Chg (·=b) w w':=by
 have HK:=BE h;have HN:=BE hno;obtain⟨c12,hx⟩:=h.cell 12 om;rw[h12] at c12;have HM:=BE hmj;clear h hno h12 hmj;go_enter func193,ntmps193;go_wp2_with fail
 go_loopg [6] 12 (fun kx s6 wr=>∃i:Nat,s6=.int .i64 i/\i<=j/\12 - i<=kx/\wr=w)
 case atStart=>exact⟨0,rfl,om,om,rfl⟩
 case round=>
 obtain⟨i,rfl,ar,h6,rfl⟩:=hrel;have hv:(i:Int)<12:=om
 have hm:=Qy f i;have hk:(f+i) % 12<12:=Nat.mod_lt _ om;obtain⟨c,fz⟩:=HK.out.cell ((f+i) % 12) om;by_cases no:i<j
 ·have hb:(F ((f+i) % 12) == 0)=false:=by simp[HN.out i no]
  go_wp2
  go_roundg (12 - (i+1))
  case measure=>omega
  case rel=>exact⟨i+1,by simp,om,AM _,rfl⟩
 ·have kd:i=j:=om
  subst kd;rw[<-HM.out] at c hm hk fz;rw[hF] at c;have La:=Qy m 1;have Go:((m:Int)+1).tmod 12=(((m+1) % 12:Nat):Int):=La;have hc:(m:Int)<12:=om
  clear La no ar;have it:=BE (HK.out.set m 1);obtain⟨-,ha⟩:=it.out.cell 12 om;go_wp2;go_ret2;refine⟨rfl,?_,?_⟩
  ·exact it.out.set 12 _
  ·exact((Chg.refl (·=b) _).setCell (AK rfl) _ _).setCell (AK rfl) _ _
theorem bp(w:Wd)(b:Nat)(F:Nat->Int)(h:IB w b 177 13 F)(f:Nat)(hf:f<12)(h12:F 12=f)(hno:∀i,i<12->F i≠0):Calls prog 193 #[.pointer (some ⟨b,0,none⟩)] w fun e w'=>e=.returned (.tuple #[.int .i64 0,.iface 57 (.int .i64 10)])/\w'=w:=by
 have HK:=BE h;have HN:=BE hno;obtain⟨c12,Go⟩:=h.cell 12 om;rw[h12] at c12;go_enter func193,ntmps193;go_wp2_with fail
 go_loopg [6] 12 (fun kx s6 wr=>∃i:Nat,s6=.int .i64 i/\i<=12/\12 - i<=kx/\wr=w)
 case atStart=>exact⟨0,rfl,om,om,rfl⟩
 case round=>
 obtain⟨i,rfl,ar,La,rfl⟩:=hrel;by_cases hv:i<12
 ·have it:(i:Int)<12:=om
  have hm:=Qy f i;have no:(f+i) % 12<12:=Nat.mod_lt _ om;obtain⟨c,fz⟩:=HK.out.cell ((f+i) % 12) om;have hb:(F ((f+i) % 12) == 0)=false:=by simp[HN.out _ no]
  go_wp2
  go_roundg (12 - (i+1))
  case measure=>omega
  case rel=>exact⟨i+1,by simp,om,AM _,rfl⟩
 ·have it:¬ (i:Int)<12:=om
  go_wp2;go_ret2;exact⟨rfl,rfl⟩
def setC (F:Nat->Int) (n s:Int):Nat:=if (n<0\/12<=n)\/(s<0\/3<s) then 1 else if F n.toNat=3/\s≠3 then 12 else 0
def setF (F:Nat->Int) (n s:Int):Nat->Int:=if setC F n s=0 then upd F n.toNat s else F
theorem UP{F:Nat->Int}{n s:Int}(h:setC F n s=0):(0<=n/\n<12)/\(0<=s/\s<=3)/\¬ (F n.toNat=3/\s≠3):=by
 unfold setC at h;split at h
 ·omega
 ·rename_i h1;split at h
  ·omega
  ·rename_i h2;exact⟨om,om,h2⟩
theorem SF(w:Wd)(b:Nat)(F:Nat->Int)(h:IB w b 177 13 F)(n s:Int):Calls prog 173 #[.pointer (some ⟨b,0,none⟩),.int .i64 n,.int .i64 s] w fun e w'=>e=.returned (errV (setC F n s))/\IB w' b 177 13 (setF F n s)/\Chg (·=b) w w':=by
 by_cases h1:(n<0\/12<=n)\/(s<0\/3<s)
 ·have e:setC F n s=1:=by unfold setC;rw[AJ h1]
  refine(Mw w b n s h1).mono ?_;rintro x w' ⟨rfl,rfl⟩;rw[e];refine⟨rfl,?_,Chg.refl _ _⟩;unfold setF;rw[e];exact h
 ·obtain⟨m,rfl⟩:∃m:Nat,n=m:=⟨n.toNat,om⟩;by_cases h2:F m=3/\s≠3
  ·have e:setC F m s=12:=(by unfold setC;rw[AI h1,AP,AJ h2]);refine(bo w b F h m s om om om h2.1 h2.2).mono ?_;rintro x w' ⟨rfl,rfl⟩;rw[e];refine⟨rfl,?_,Chg.refl _ _⟩;unfold setF;rw[e];exact h
  ·have e:setC F m s=0:=(by unfold setC;rw[AI h1,AP,AI h2]);refine(Mx w b F h m s om om om h2).mono ?_;rintro x w' ⟨rfl,h3,h4⟩;rw[e];refine⟨rfl,?_,h4⟩;unfold setF;rw[AJ e,AP];exact h3
def getC (n:Int):Nat:=if n<0\/12<=n then 1 else 0
def getV (F:Nat->Int) (n:Int):Int:=if n<0\/12<=n then 0 else F n.toNat
theorem ek(w:Wd)(b:Nat)(F:Nat->Int)(h:IB w b 177 13 F)(n:Int):Calls prog 59 #[.pointer (some ⟨b,0,none⟩),.int .i64 n] w fun e w'=>e=.returned (.tuple #[.int .i64 (getV F n),errV (getC n)])/\w'=w:=by
 by_cases h1:n<0\/12<=n
 ·unfold getV getC;rw[AJ h1,AJ h1];exact iC w b n h1
 ·obtain⟨m,rfl⟩:∃m:Nat,n=m:=⟨n.toNat,om⟩;unfold getV getC;rw[AI h1,AI h1,AP];exact bm w b F h m om
def mj (F:Nat->Int) (f c m:Nat):Prop:=(c=0/\∃j,j<12/\m=(f+j) % 12/\F m=0/\∀i,i<j->F ((f+i) % 12)≠0)\/(c=10/\m=0/\∀i,i<12->F i≠0)
theorem lG(P:Nat->Prop)[DecidablePred P](n:Nat):(∃j,j<n/\P j/\∀i,i<j->¬ P i)\/∀i,i<n->¬ P i:=by
 induction n with
 | zero=>exact AL fun i hi=>absurd hi (Nat.not_lt_zero _)
 | succ n ih=>
  rcases ih with ⟨j,h1,h2,h3⟩ | ih
  ·exact AK ⟨j,om,h2,h3⟩
  ·by_cases hn:P n
   ·exact AK ⟨n,om,hn,ih⟩
   ·refine AL fun i hi=>?_;by_cases e:i=n
    ·subst e;exact hn
    ·exact ih i om
def tkF (F:Nat->Int) (c m:Nat):Nat->Int:=if c=0 then upd (upd F m 1) 12 ((m+1) % 12:Nat) else F
theorem Ku(w:Wd)(b:Nat)(F:Nat->Int)(h:IB w b 177 13 F)(f:Nat)(hf:f<12)(h12:F 12=f){c m:Nat}(hN:mj F f c m):Calls prog 193 #[.pointer (some ⟨b,0,none⟩)] w fun e w'=>e=.returned (.tuple #[.int .i64 m,errV c])/\IB w' b 177 13 (tkF F c m)/\Chg (·=b) w w':=by
 rcases hN with ⟨rfl,j,hj,hm,hF,it⟩ | ⟨rfl,rfl,it⟩
 ·exact XN w b F h f hf h12 j hj m hm hF it
 ·refine(bp w b F h f hf h12 it).mono ?_;rintro x w' ⟨rfl,rfl⟩;exact⟨rfl,h,Chg.refl _ _⟩
theorem Oz{F G:Nat->Int}(s:Int):∀(k:Nat),(∀i,i<k->G i=F i)->cnt G s k=cnt F s k
 | 0,_=>rfl
 | k+1,h=>by unfold cnt;rw[Oz s k (fun i hi=>h i om),h k om]
def one (p:Prop) [Decidable p]:Nat:=if p then 1 else 0
theorem My(F:Nat->Int)(n:Nat)(s t:Int)(k:Nat)(h:k<=n):cnt (upd F n s) t k=cnt F t k:=
 Oz t k fun i hi=>by unfold upd;rw[AI om]
theorem SG(F:Nat->Int)(n:Nat)(s t:Int):∀k,n<k->cnt (upd F n s) t k+one (F n=t)=cnt F t k+one (s=t)
 | 0,h=>om
 | k+1,h=>by
  have e:∀G:Nat->Int,cnt G t (k+1)=cnt G t k+one (G k=t):=fun _=>rfl
  rw[e,e]
  by_cases hk:n=k
  ·
   subst hk
   have e3:upd F n s n=s:=by simp[upd]
   rw[My F n s t n (AM _),e3]
   omega
  ·
   have ih:=SG F n s t k om
   have e3:upd F n s k=F k:=by unfold upd;rw[AI om]
   rw[e3]
   omega
theorem SH(F:Nat->Int):∀k,(∀i,i<k->0<=F i/\F i<=3)->cnt F 0 k+cnt F 1 k+cnt F 2 k+cnt F 3 k=k
 | 0,_=>rfl
 | k+1,h=>by
  have ih:=SH F k (fun i hi=>h i om)
  have e:∀t,cnt F t (k+1)=cnt F t k+one (F k=t):=fun _=>rfl
  rw[e,e,e,e]
  obtain⟨h0,h3⟩:=h k om
  have hc:F k=0\/F k=1\/F k=2\/F k=3:=om
  rcases hc with hc | hc | hc | hc <;> simp[one,hc] <;> omega
end Go.Proofs.YtmdpnpjacfedpaaGreat.AD
namespace Go.Proofs.YtmdpnpjacfedpaaGreat.AB
open List
open Go.Proofs.Tryz
open Go.RowKit
theorem Kq(w:Wd):(zeroValue 183).run prog w=.ok (.agg (ints (fun _=>0) 121).toArray) w:=kr
theorem Kr(w:Wd):(Instr.makeSlice 43 (.int .i64 12) (.int .i64 12)).run prog w=.ok (.slice (some ⟨w.heap.size,0,none⟩) 12 12) (w.alloc (.cells (ints (fun _=>0) 12).toArray 3)):=kr
theorem iD:(prog.info? 181).map (·.size)=some 96:=kr
theorem BN(w:Wd)(n m:Int)(h:0<=n/\n<m):Calls prog 188 #[.int .i64 n,.int .i64 m] w fun e w'=>e=.returned (.bool true)/\w'=w:=by
 obtain⟨h0,h1⟩:=h;go_enter func188,ntmps188;go_wp2;go_ret;exact⟨rfl,rfl⟩
theorem CN(w:Wd)(n m:Int)(h:n<0\/m<=n):Calls prog 188 #[.int .i64 n,.int .i64 m] w fun e w'=>e=.returned (.bool false)/\w'=w:=by
 by_cases h0:0<=n
 ·have h1:¬ n<m:=om
  clear h;go_enter func188,ntmps188;go_wp2;go_ret;exact⟨rfl,rfl⟩
 ·clear h;go_enter func188,ntmps188;go_wp2;go_ret;exact⟨rfl,rfl⟩
theorem Kv(w:Wd)(b i:Int)(hb:0<=b/\b<12)(hi:0<=i/\i<8):Calls prog 195 #[.int .i64 b,.int .i64 i] w fun e w'=>e=.returned (.tuple #[.int .i64 (b*8+i),.nilIface])/\w'=w:=by
 obtain⟨b0,b1⟩:=hb;obtain⟨i0,i1⟩:=hi;go_enter func195,ntmps195;go_wp2_with fail;refine(BN w b 12 ⟨b0,b1⟩).mono ?_;rintro e w1 ⟨rfl,rfl⟩;go_wp2_with fail;refine(BN w1 i 8 ⟨i0,i1⟩).mono ?_;rintro e w2 ⟨rfl,rfl⟩;go_wp2;go_ret2;exact⟨rfl,rfl⟩
theorem Io(w:Wd)(b i:Int)(h:(b<0\/12<=b)\/(i<0\/8<=i)):Calls prog 195 #[.int .i64 b,.int .i64 i] w fun e w'=>e=.returned (.tuple #[.int .i64 0,.iface 57 (.int .i64 1)])/\w'=w:=by
 by_cases hb:0<=b/\b<12
 ·have hi:i<0\/8<=i:=om
  clear h;obtain⟨b0,b1⟩:=hb;go_enter func195,ntmps195;go_wp2_with fail;refine(BN w b 12 ⟨b0,b1⟩).mono ?_;rintro e w1 ⟨rfl,rfl⟩;go_wp2_with fail;refine(CN w1 i 8 hi).mono ?_;rintro e w2 ⟨rfl,rfl⟩;go_wp2;go_ret2;exact⟨rfl,rfl⟩
 ·have it:b<0\/12<=b:=om
  clear h hb;go_enter func195,ntmps195;go_wp2_with fail;refine(CN w b 12 it).mono ?_;rintro e w1 ⟨rfl,rfl⟩;go_wp2;go_ret2;exact⟨rfl,rfl⟩
theorem H9(w:Wd)(p:Int)(h:0<=p/\p<96):Calls prog 158 #[.int .i64 p] w fun e w'=>e=.returned (.tuple #[.int .i64 (p / 8),.int .i64 (p % 8),.nilIface])/\w'=w:=by
 obtain⟨h0,h1⟩:=h;go_enter func158,ntmps158;go_wp2_with fail;refine(BN w p 96 ⟨h0,h1⟩).mono ?_;rintro e w1 ⟨rfl,rfl⟩;go_wp2
 go_ret3
 exact⟨rfl,rfl⟩
theorem Fj(w:Wd)(p o:Int)(h:0<=p/\p<96)(ho:0<=o/\o<25):Calls prog 196 #[.int .i64 p,.int .i64 o] w fun e w'=>e=.returned (.tuple #[.bool (decide (o=24\/p % 8<6)),.nilIface])/\w'=w:=by
 obtain⟨h0,h1⟩:=h;by_cases e1:o=24
 ·rw[show decide (o=24\/p % 8<6)=true from AO (AK e1)];have e2:(o == 24)=true:=by simp[e1]
  clear e1;go_enter func196,ntmps196;go_wp2_with fail;refine(BN w p 96 ⟨h0,h1⟩).mono ?_;rintro e w1 ⟨rfl,rfl⟩;go_wp2_with fail;refine(BN w1 o 25 ho).mono ?_;rintro e w2 ⟨rfl,rfl⟩;go_wp2;go_ret2;exact⟨rfl,rfl⟩
 ·rw[show decide (o=24\/p % 8<6)=decide (p % 8<6) from by simp[e1]];have e2:(o == 24)=false:=by simp[e1]
  clear e1;go_enter func196,ntmps196;go_wp2_with fail;refine(BN w p 96 ⟨h0,h1⟩).mono ?_;rintro e w1 ⟨rfl,rfl⟩;go_wp2_with fail;refine(BN w1 o 25 ho).mono ?_;rintro e w2 ⟨rfl,rfl⟩;go_wp2;go_ret2;exact⟨rfl,rfl⟩
theorem UQ(w:Wd)(p o:Int)(h:(p<0\/96<=p)\/(o<0\/25<=o)):Calls prog 196 #[.int .i64 p,.int .i64 o] w fun e w'=>e=.returned (.tuple #[.bool false,.iface 57 (.int .i64 1)])/\w'=w:=by
 by_cases hp:0<=p/\p<96
 ·have ho:o<0\/25<=o:=om
  clear h;obtain⟨h0,h1⟩:=hp;go_enter func196,ntmps196;go_wp2_with fail;refine(BN w p 96 ⟨h0,h1⟩).mono ?_;rintro e w1 ⟨rfl,rfl⟩;go_wp2_with fail;refine(CN w1 o 25 ho).mono ?_;rintro e w2 ⟨rfl,rfl⟩;go_wp2;go_ret2;exact⟨rfl,rfl⟩
 ·have it:p<0\/96<=p:=om
  clear h hp;go_enter func196,ntmps196;go_wp2_with fail;refine(CN w p 96 it).mono ?_;rintro e w1 ⟨rfl,rfl⟩;go_wp2;go_ret2;exact⟨rfl,rfl⟩
def ownK (L:Nat->Int) (q:Int):Nat->Int
 | 0=>-1
 | k+1=>if 0<=ownK L q k then ownK L q k else if L k=q then (k:Int) else -1
def own (L:Nat->Int) (q:Int):Int:=ownK L q 25
theorem Ip(L:Nat->Int)(q:Int):∀k,(∃i,i<k/\ownK L q k=(i:Int)/\L i=q/\∀j,j<i->L j≠q)\/(ownK L q k = -1/\∀i,i<k->L i≠q)
 | 0=>AL ⟨rfl,fun i hi=>absurd hi (Nat.not_lt_zero _)⟩
 | k+1=>by
  unfold ownK
  rcases Ip L q k with ⟨i,h1,h2,h3,h4⟩ | ⟨h1,h2⟩
  ·
   left
   rw[AJ om]
   exact⟨i,om,h2,h3,h4⟩
  ·
   rw[AI om]
   by_cases e:L k=q
   ·
    left
    rw[AJ e]
    exact⟨k,om,rfl,e,h2⟩
   ·
    right
    rw[AI e]
    refine⟨rfl,fun i hi=>?_⟩
    by_cases e2:i=k
    ·
     subst e2;exact e
    ·
     exact h2 i om
theorem Dr(L:Nat->Int)(q:Int):(∃i:Nat,i<25/\own L q=(i:Int)/\L i=q/\∀j,j<i->L j≠q)\/(own L q = -1/\∀i,i<25->L i≠q):=Ip L q 25
theorem Fk{L:Nat->Int}{q:Int}(h:∀i,i<25->L i≠q):own L q = -1:=by
 rcases Dr L q with ⟨i,h1,_,h3,_⟩ | ⟨h1,_⟩
 ·exact absurd h3 (h i h1)
 ·exact h1
structure GK (L:Nat->Int):Prop where
 rng:∀i,i<25->L i = -1\/(0<=L i/\L i<96)
 may:∀i,i<24->L i = -1\/L i % 8<6
 inj:∀i j,i<25->j<25->L i=L j->L i≠-1->i=j
theorem Qz{L:Nat->Int}(h:GK L){i:Nat}(hi:i<25){q:Int}(hL:L i=q)(hq:q≠-1):own L q=i:=by
 rcases Dr L q with ⟨j,h1,h2,h3,_⟩ | ⟨_,h2⟩
 ·have e:=h.inj i j hi h1 (by rw[hL,h3]) (by rw[hL];exact hq);rw[h2,e]
 ·exact absurd hL (h2 i hi)
theorem CG{α:Type}(f:Nat->α)(i:Nat)(z:α):upd f i z i=z:=by unfold upd;rw[AJ rfl]
theorem BY{α:Type}(f:Nat->α){i j:Nat}(z:α)(h:j≠i):upd f i z j=f j:=by unfold upd;rw[AI h]
theorem SJ{α:Type}(f:Nat->α)(i:Nat)(y z:α):upd (upd f i y) i z=upd f i z:=by
 funext j;unfold upd;split <;> rfl
theorem IA{α:Type}(f:Nat->α)(i:Nat){z:α}(h:f i=z):upd f i z=f:=by
 funext j;unfold upd;split
 ·rename_i e;rw[e,h]
 ·rfl
theorem GK.clear{L:Nat->Int}(h:GK L)(n:Nat):GK (upd L n (-1)):=by
 refine⟨fun i hi=>?_,fun i hi=>?_,fun i j hi hj e hn=>?_⟩
 ·unfold upd;split
  ·exact AK rfl
  ·exact h.rng i hi
 ·unfold upd;split
  ·exact AK rfl
  ·exact h.may i hi
 ·by_cases e1:i=n
  ·rw[e1,CG] at hn;exact absurd rfl hn
  ·by_cases e2:j=n
   ·rw[e,e2,CG] at hn;exact absurd rfl hn
   ·rw[BY _ _ e1,BY _ _ e2] at e;rw[BY _ _ e1] at hn;exact h.inj i j hi hj e hn
theorem Lz{L:Nat->Int}(h:GK L){n:Nat}(hn:n<25){q:Int}(hq:0<=q):own (upd L n (-1)) q=if q=L n then -1 else own L q:=by
 by_cases e:q=L n
 ·rw[AJ e];refine Fk fun i hi=>?_;by_cases e1:i=n
  ·rw[e1,CG];omega
  ·rw[BY _ _ e1];intro e2;exact e1 (h.inj i n hi hn (by rw[e2,e]) om)
 ·rw[AI e];rcases Dr L q with ⟨i,h1,h2,h3,_⟩ | ⟨h1,h2⟩
  ·have e1:i≠n:=(by intro e1;rw[e1] at h3;exact e h3.symm);rw[h2];exact Qz (h.clear n) h1 (by rw[BY _ _ e1];exact h3) om
  ·rw[h1];refine Fk fun i hi=>?_;by_cases e1:i=n
   ·rw[e1,CG];omega
   ·rw[BY _ _ e1];exact h2 i hi
theorem GK.put{L:Nat->Int}(h:GK L)(n:Nat){q:Int}(hq:0<=q/\q<96)(hm:n<24->q % 8<6)(hno:own L q = -1):GK (upd L n q):=by
 have it:∀i,i<25->L i≠q:=by
  rcases Dr L q with ⟨i,_,h2,_⟩ | ⟨_,h2⟩
  ·omega
  ·exact h2
 refine⟨fun i hi=>?_,fun i hi=>?_,fun i j hi hj e hn=>?_⟩
 ·unfold upd;split
  ·exact AL hq
  ·exact h.rng i hi
 ·unfold upd;split
  ·rename_i e;exact AL (hm om)
  ·exact h.may i hi
 ·by_cases e1:i=n
  ·by_cases e2:j=n
   ·omega
   ·rw[e1,CG,BY _ _ e2] at e;exact absurd e.symm (it j hj)
  ·by_cases e2:j=n
   ·rw[e2,CG,BY _ _ e1] at e;exact absurd e (it i hi)
   ·rw[BY _ _ e1,BY _ _ e2] at e;rw[BY _ _ e1] at hn;exact h.inj i j hi hj e hn
theorem bq{L:Nat->Int}(h:GK L){n:Nat}(hn:n<25){q:Int}(hq:0<=q/\q<96)(hm:n<24->q % 8<6)(hL:L n = -1)(hno:own L q = -1){p:Int}(hp:0<=p):own (upd L n q) p=if p=q then (n:Int) else own L p:=by
 have hk:=h.put n hq hm hno;by_cases e:p=q
 ·rw[AJ e,e];exact Qz hk hn (CG _ _ _) om
 ·rw[AI e];rcases Dr L p with ⟨i,h1,h2,h3,_⟩ | ⟨h1,h2⟩
  ·have e1:i≠n:=(by intro e1;rw[e1] at h3;omega);rw[h2];exact Qz hk h1 (by rw[BY _ _ e1];exact h3) om
  ·rw[h1];refine Fk fun i hi=>?_;by_cases e1:i=n
   ·rw[e1,CG];omega
   ·rw[BY _ _ e1];exact h2 i hi
def SK (L:Nat->Int):Nat->Int:=fun k=>if k<25 then L k else own L ((k - 25:Nat):Int)
theorem Iq(L:Nat->Int){k:Nat}(h:k<25):SK L k=L k:=by unfold SK;rw[AJ h]
theorem Kw(L:Nat->Int)(k:Nat):SK L (25+k)=own L (k:Int):=by unfold SK;rw[AI om,Nat.add_sub_cancel_left]
theorem XO(k:Nat):SK (fun _=>-1) k = -1:=by
 unfold SK;split
 ·rfl
 ·exact Fk (fun _ _=>om)
theorem UR{L:Nat->Int}(h:GK L){n:Nat}(hn:n<25){m:Nat}(hm:L n=m)(k:Nat):upd (upd (SK L) (25+m) (-1)) n (-1) k=SK (upd L n (-1)) k:=by
 by_cases hk:k<25
 ·rw[Iq _ hk];by_cases e:k=n
  ·subst e;rw[CG,CG]
  ·rw[BY _ _ e,BY _ _ e,BY _ _ om,Iq _ hk]
 ·obtain⟨j,rfl⟩:∃j,k=25+j:=⟨k - 25,om⟩;rw[Kw,BY _ _ om,Lz h hn om,hm];by_cases e:j=m
  ·subst e;rw[CG,AJ rfl]
  ·rw[BY _ _ om,AI om,Kw]
theorem Q0{L:Nat->Int}{n:Nat}(hn:n<25)(hm:L n = -1):upd (SK L) n (-1)=SK (upd L n (-1)):=by
 rw[IA L n hm,IA (SK L) n (by rw[Iq _ hn,hm])]
theorem br{L:Nat->Int}(h:GK L){n:Nat}(hn:n<25){m:Nat}(hq:m<96)(hm:n<24->m % 8<6)(hL:L n = -1)(hno:own L m = -1)(k:Nat):upd (upd (SK L) n m) (25+m) n k=SK (upd L n m) k:=by
 by_cases hk:k<25
 ·rw[Iq _ hk,BY _ _ om];by_cases e:k=n
  ·subst e;rw[CG,CG]
  ·rw[BY _ _ e,BY _ _ e,Iq _ hk]
 ·obtain⟨j,rfl⟩:∃j,k=25+j:=⟨k - 25,om⟩;rw[Kw,bq h hn om (fun h=>by have:=hm h;omega) hL hno om];by_cases e:j=m
  ·subst e;rw[CG,AJ rfl]
  ·rw[BY _ _ om,AI om,BY _ _ om,Kw]
def ofK (L:Nat->Int) (b:Nat):Nat->List Int
 | 0=>[]
 | k+1=>ofK L b k ++ if own L ((8*b+k:Nat):Int) = -1 then [] else [own L ((8*b+k:Nat):Int)]
def ofL (L:Nat->Int) (b:Nat):List Int:=ofK L b 8
theorem Dh(L:Nat->Int)(b:Nat):∀k,(ofK L b k).length<=k
 | 0=>AM _
 | k+1=>by
  have:=Dh L b k
  unfold ofK
  rw[AV]
  split <;> simp <;> omega
def lvK (L:Nat->Int):Nat->Nat->Nat
 | 0,_=>0
 | i+1,b=>lvK L i b+if i / 8=b/\own L (i:Int)≠-1 then 1 else 0
theorem Q1(L:Nat->Int)(b:Nat):∀i,lvK L i b=(ofK L b (min 8 (i - 8*b))).length
 | 0=>by rw[Nat.zero_sub];rfl
 | i+1=>by
  unfold lvK
  rw[Q1 L b i]
  by_cases e:i / 8=b
  ·
   have e1:min 8 (i+1 - 8*b)=i - 8*b+1:=om
   have e2:min 8 (i - 8*b)=i - 8*b:=om
   have e3:8*b+(i - 8*b)=i:=om
   rw[e1,e2]
   show _=(ofK L b (i - 8*b) ++ if own L ((8*b+(i - 8*b):Nat):Int) = -1 then [] else [own L ((8*b+(i - 8*b):Nat):Int)]).length
   rw[AV,e3]
   by_cases e4:own L (i:Int) = -1
   ·
    rw[AI (by simp[e4]),AJ e4];rfl
   ·
    rw[AJ ⟨e,e4⟩,AI e4];rfl
  ·
   rw[AI (by intro h;exact e h.1),show min 8 (i+1 - 8*b)=min 8 (i - 8*b) by omega]
   rfl
theorem Mz(L:Nat->Int){b:Nat}(hb:b<12):lvK L 96 b=(ofL L b).length:=by
 rw[Q1,show min 8 (96 - 8*b)=8 by omega];rfl
theorem iE(L:Nat->Int)(i b:Nat):lvK L i b<=8:=by
 rw[Q1];exact AY (Dh L b _) (Nat.min_le_left _ _)
def cO (L:Nat->Int) (k:Nat):Nat->Nat
 | 0=>0
 | m+1=>cO L k m+if ownK L (m:Int) k≠-1 then 1 else 0
def cL (L:Nat->Int):Nat->Nat
 | 0=>0
 | k+1=>cL L k+if L k≠-1 then 1 else 0
theorem SL(L:Nat->Int):∀m,cO L 0 m=0
 | 0=>rfl
 | m+1=>by unfold cO;rw[SL L m];rfl
theorem SM{L:Nat->Int}(h:GK L){k:Nat}(hk:k<25):∀m,cO L (k+1) m=cO L k m+if 0<=L k/\L k<(m:Int) then 1 else 0
 | 0=>by rw[AI om];rfl
 | m+1=>by
  unfold cO
  rw[SM h hk m]
  have e:ownK L (m:Int) (k+1)=if 0<=ownK L (m:Int) k then ownK L (m:Int) k else if L k=(m:Int) then (k:Int) else -1:=rfl
  rcases Ip L (m:Int) k with ⟨i,h1,h2,h3,_⟩ | ⟨h1,h2⟩
  ·
   have it:L k≠(m:Int):=by
    intro e1;have:=h.inj i k om hk (by rw[h3,e1]) om;omega
   have hv:ownK L (m:Int) (k+1)=i:=(by rw[e,h2,AJ om]);rw[hv,h2]
   repeat' split
   all_goals omega
  ·by_cases e1:L k=(m:Int)
   ·have hv:ownK L (m:Int) (k+1)=k:=(by rw[e,h1,AI om,AJ e1]);rw[hv,h1]
    repeat' split
    all_goals omega
   ·have hv:ownK L (m:Int) (k+1) = -1:=(by rw[e,h1,AI om,AI e1]);rw[hv,h1]
    repeat' split
    all_goals omega
theorem XP{L:Nat->Int}(h:GK L):∀k,k<=25->cO L k 96=cL L k
 | 0,_=>SL L 96
 | k+1,hk=>by
  rw[SM h om,XP h k om]
  show _=cL L k+if L k≠-1 then 1 else 0
  have:=h.rng k om
  by_cases e:L k = -1
  ·
   rw[AI (show ¬ (0<=L k/\L k<((96:Nat):Int)) by omega),AI (by simp[e])]
  ·
   rw[AJ (show 0<=L k/\L k<((96:Nat):Int) by omega),AJ e]
def cP (L:Nat->Int) (m:Nat):Nat:=cO L 25 m
theorem iF{L:Nat->Int}(h:GK L):cP L 96=cL L 25:=XP h 25 (AM _)
theorem bt(L:Nat->Int)(m:Nat):cP L (m+1)=cP L m+if own L (m:Int)≠-1 then 1 else 0:=rfl
theorem eu(L:Nat->Int)(b:Nat):∀k,cP L (8*b+k)=cP L (8*b)+(ofK L b k).length
 | 0=>rfl
 | k+1=>by
  rw[<-Nat.add_assoc,bt,eu L b k]
  show _=_+(ofK L b k ++ if own L ((8*b+k:Nat):Int) = -1 then [] else [own L ((8*b+k:Nat):Int)]).length
  rw[AV]
  by_cases e:own L ((8*b+k:Nat):Int) = -1
  ·
   rw[AI (by simp only[ne_eq,e,not_true,not_false_eq_true]),AJ e];rfl
  ·
   rw[AJ e,AI e];simp only[length_singleton];omega
theorem Hv(w:Wd):(binOp .eql 46 .nilIface .nilIface).run prog w=.ok (.bool true) w:=kr
theorem Ct(w:Wd):(binOp .neq 46 .nilIface .nilIface).run prog w=.ok (.bool false) w:=kr
theorem Cu(w:Wd)(n:Int):(binOp .neq 46 (.iface 57 (.int .i64 n)) .nilIface).run prog w=.ok (.bool true) w:=kr
def Mp (w:Wd) (b:Nat) (L:Nat->Int):Prop:=IB w b 183 121 (SK L)
section
variable {w w':Wd}{b:Nat}{L:Nat->Int}
theorem Mp.chg{S:Nat->Prop}(h:Mp w b L)(hc:Chg S w w')(hb:¬ S b):Mp w' b L:=IB.chg h hc hb
theorem Mp.drew(h:Mp w b L):Mp w.drew b L:=h
theorem Mp.place(h:Mp w b L){n:Nat}(hn:n<25):w.cell? ⟨b,n,none⟩=some (.int .i64 (L n))/\w.frozen? ⟨b,n,none⟩=false:=by
 have:=IB.cell h n om
 rwa [Iq _ hn] at this
theorem Mp.owner(h:Mp w b L){q:Nat}(hq:q<96):w.cell? ⟨b,25+q,none⟩=some (.int .i64 (own L q))/\w.frozen? ⟨b,25+q,none⟩=false:=by
 have:=IB.cell h (25+q) om
 rwa [Kw] at this
end
theorem He(w:Wd):Calls prog 117 #[] w fun e w'=>e=.returned (.pointer (some ⟨w.heap.size,0,none⟩))/\Mp w' w.heap.size (fun _=>-1)/\Chg No w w':=by
 go_enter func117,ntmps117;go_wp2_with (refine CV rfl 183 rfl w.heap.size rfl Kq ?_);intro w1 K1 G1 S1;have Go:=BE (show IB w1 w.heap.size 183 121 (fun _=>0) from K1);have hv:=BE G1;clear K1 G1 S1;generalize HB:w.heap.size=b at *
 have HB:=BE HB;go_wp2_with fail
 go_loopg [5] 25 (fun kx s5 wr=>∃i:Nat,s5=.int .i64 i/\i<=25/\25 - i<=kx/\Hid (IB wr b 183 121 (fun j=>if j<i then -1 else 0))/\Hid (Chg No w wr))
 case atStart=>exact⟨0,rfl,om,om,Go,hv⟩
 case round=>
 obtain⟨i,rfl,no,La,HK,HG⟩:=hrel;clear Go hv;by_cases ar:i<25
 ·have it:(i:Int)<25:=om
  obtain⟨c,f⟩:=HK.out.cell i om;go_wp2
  go_roundg (25 - (i+1))
  case measure=>omega
  case rel=>
   refine⟨i+1,by simp,om,AM _,?_,?_⟩
   ·refine(HK.out.set i (-1)).congr fun j _=>?_;simp only[upd]
    repeat' split
    all_goals first | rfl | omega
   ·exact HG.out.setCell (AL (by rw[HB.out];exact AM _)) _ _
 ·have it:¬ (i:Int)<25:=om
  have kd:i=25:=om
  subst kd;clear ar no La;go_wp2_with fail
  go_loopg [14] 96 (fun kx s14 wx=>∃i:Nat,s14=.int .i64 i/\i<=96/\96 - i<=kx/\Hid (IB wx b 183 121 (fun j=>if j<25+i then -1 else 0))/\Hid (Chg No w wx))
  case atStart=>exact⟨0,rfl,om,om,HK,HG⟩
  case round=>
  clear HK HG;obtain⟨i,rfl,no,La,HK,HG⟩:=hrel;by_cases ar:i<96
  ·have it:(i:Int)<96:=om;obtain⟨c,f⟩:=HK.out.cell (25+i) om;go_wp2
   go_roundg (96 - (i+1))
   case measure=>omega
   case rel=>
    refine⟨i+1,by simp,om,AM _,?_,?_⟩
    ·refine(HK.out.set (25+i) (-1)).congr fun j _=>?_;simp only[upd]
     repeat' split
     all_goals first | rfl | omega
    ·exact HG.out.setCell (AL (by rw[HB.out];exact AM _)) _ _
  ·have it:¬ (i:Int)<96:=om;have hk:i=96:=om;subst hk;go_wp2;go_ret;exact⟨rfl,HK.out.congr fun j hj=>by rw[XO,AJ om],HG⟩
theorem O0(w:Wd)(n:Int)(hn:n≠-1):Calls prog 90 #[.int .i64 n] w fun e w'=>e=.returned (.tuple #[.int .i64 n,.nilIface])/\w'=w:=by
 have hb:(n == -1)=false:=by simp[hn]
 clear hn;go_enter func90,ntmps90;go_wp2;go_ret2;exact⟨rfl,rfl⟩
theorem SN(w:Wd):Calls prog 90 #[.int .i64 (-1)] w fun e w'=>e=.returned (.tuple #[.int .i64 0,.iface 57 (.int .i64 11)])/\w'=w:=by
 go_enter func90,ntmps90;go_wp2;go_ret2;exact⟨rfl,rfl⟩
theorem Q2(w:Wd)(b:Nat)(L:Nat->Int)(h:Mp w b L)(n:Nat)(hn:n<25)(hL:L n≠-1):Calls prog 50 #[.pointer (some ⟨b,0,none⟩),.int .i64 n] w fun e w'=>e=.returned (.tuple #[.int .i64 (L n),.nilIface])/\w'=w:=by
 obtain⟨c,-⟩:=h.place hn;have h1:¬ (n:Int) ≥ 25:=om
 have h0:¬ (n:Int)<0:=om
 have h2:(n:Int)<25:=om
 have ht:=O0 w (L n) hL;clear h hn hL;go_enter func50,ntmps50;go_wp2_with (go_at_call 90;refine ht.mono ?_;rintro e w1 ⟨rfl,rfl⟩);go_ret2;exact⟨rfl,rfl⟩
theorem M6(w:Wd)(b:Nat)(L:Nat->Int)(h:Mp w b L)(n:Nat)(hn:n<25)(hL:L n = -1):Calls prog 50 #[.pointer (some ⟨b,0,none⟩),.int .i64 n] w fun e w'=>e=.returned (.tuple #[.int .i64 0,.iface 57 (.int .i64 11)])/\w'=w:=by
 obtain⟨c,-⟩:=h.place hn;rw[hL] at c;have h1:¬ (n:Int) ≥ 25:=om
 have h0:¬ (n:Int)<0:=om
 have h2:(n:Int)<25:=om
 clear h hn hL;go_enter func50,ntmps50;go_wp2_with (go_at_call 90;refine(SN _).mono ?_;rintro e w1 ⟨rfl,rfl⟩);go_ret2;exact⟨rfl,rfl⟩
theorem XQ(w:Wd)(b:Nat)(n:Int)(hn:n<0\/25<=n):Calls prog 50 #[.pointer (some ⟨b,0,none⟩),.int .i64 n] w fun e w'=>e=.returned (.tuple #[.int .i64 0,.iface 57 (.int .i64 1)])/\w'=w:=by
 by_cases h0:n<0
 ·clear hn;go_enter func50,ntmps50;go_wp2;go_ret2;exact⟨rfl,rfl⟩
 ·have h1:n ≥ 25:=om
  clear hn;go_enter func50,ntmps50;go_wp2;go_ret2;exact⟨rfl,rfl⟩
theorem US(w:Wd)(b:Nat)(L:Nat->Int)(h:Mp w b L)(n:Nat)(hn:n<96)(hL:own L n≠-1):Calls prog 98 #[.pointer (some ⟨b,0,none⟩),.int .i64 n] w fun e w'=>e=.returned (.tuple #[.int .i64 (own L n),.nilIface])/\w'=w:=by
 obtain⟨c,-⟩:=h.owner hn;have h1:¬ (n:Int) ≥ 96:=om
 have h0:¬ (n:Int)<0:=om
 have h2:(n:Int)<96:=om
 have ht:=O0 w (own L n) hL;clear h hn hL;go_enter func98,ntmps98;go_wp2_with (go_at_call 90;refine ht.mono ?_;rintro e w1 ⟨rfl,rfl⟩);go_ret2;exact⟨rfl,rfl⟩
theorem Q3(w:Wd)(b:Nat)(L:Nat->Int)(h:Mp w b L)(n:Nat)(hn:n<96)(hL:own L n = -1):Calls prog 98 #[.pointer (some ⟨b,0,none⟩),.int .i64 n] w fun e w'=>e=.returned (.tuple #[.int .i64 0,.iface 57 (.int .i64 11)])/\w'=w:=by
 obtain⟨c,-⟩:=h.owner hn;rw[hL] at c;have h1:¬ (n:Int) ≥ 96:=om
 have h0:¬ (n:Int)<0:=om
 have h2:(n:Int)<96:=om
 clear h hn hL;go_enter func98,ntmps98;go_wp2_with (go_at_call 90;refine(SN _).mono ?_;rintro e w1 ⟨rfl,rfl⟩);go_ret2;exact⟨rfl,rfl⟩
theorem UT(w:Wd)(b:Nat)(n:Int)(hn:n<0\/96<=n):Calls prog 98 #[.pointer (some ⟨b,0,none⟩),.int .i64 n] w fun e w'=>e=.returned (.tuple #[.int .i64 0,.iface 57 (.int .i64 1)])/\w'=w:=by
 by_cases h0:n<0
 ·clear hn;go_enter func98,ntmps98;go_wp2;go_ret2;exact⟨rfl,rfl⟩
 ·have h1:n ≥ 96:=om
  clear hn;go_enter func98,ntmps98;go_wp2;go_ret2;exact⟨rfl,rfl⟩
theorem O9(w:Wd)(b:Nat)(L:Nat->Int)(h:Mp w b L)(ok:GK L)(n:Nat)(hn:n<25):Calls prog 105 #[.pointer (some ⟨b,0,none⟩),.int .i64 n] w fun e w'=>e=.returned (.tuple #[])/\Mp w' b (upd L n (-1))/\Chg (·=b) w w':=by
 obtain⟨c,f⟩:=h.place hn;have h2:(n:Int)<25:=om
 have HK:=BE h;have HO:=BE ok;rcases ok.rng n hn with e | ⟨e0,e1⟩
 ·rw[e] at c;have HE:=BE e;clear h ok e;go_enter func105,ntmps105;go_wp2;go_end0;refine⟨rfl,?_,(Chg.refl (·=b) _).setCell (AK rfl) _ _⟩;unfold Mp;rw[<-Q0 hn HE.out];exact IB.set HK n (-1)
 ·obtain⟨m,hm⟩:∃m:Nat,L n=m:=⟨(L n).toNat,om⟩;rw[hm] at c;have Go:(m:Int)<96:=om
  have it:m<96:=om
  have La:((m:Int) == -1)=false:=by simp only[beq_eq_false_iff_ne];omega
  obtain⟨c2,f2⟩:=h.owner it;have HE:=BE hm;have no:=BE (IB.set h (25+m) (-1));obtain⟨c3,f3⟩:=no.out.cell n om;clear h ok e0 e1 hm;go_enter func105,ntmps105;go_wp2;go_end0;refine⟨rfl,?_,((Chg.refl (·=b) _).setCell (AK rfl) _ _).setCell (AK rfl) _ _⟩;exact(IB.set no n (-1)).congr fun k _=>UR HO hn HE k
theorem XR(w:Wd)(b:Nat)(n:Int)(hn:n<0\/25<=n):Calls prog 58 #[.pointer (some ⟨b,0,none⟩),.int .i64 n] w fun e w'=>e=.returned (.iface 57 (.int .i64 1))/\w'=w:=by
 have q:=Cu;go_enter func58,ntmps58;go_wp2_with (go_at_call 50;refine(XQ _ b n hn).mono ?_;rintro e w1 ⟨rfl,rfl⟩);go_ret;exact⟨rfl,rfl⟩
theorem UU(w:Wd)(b:Nat)(L:Nat->Int)(h:Mp w b L)(n:Nat)(hn:n<25)(hL:L n = -1):Calls prog 58 #[.pointer (some ⟨b,0,none⟩),.int .i64 n] w fun e w'=>e=.returned (.iface 57 (.int .i64 11))/\w'=w:=by
 have q:=Cu;have ha:=M6 w b L h n hn hL;clear h hn hL;go_enter func58,ntmps58;go_wp2_with (go_at_call 50;refine ha.mono ?_;rintro e w1 ⟨rfl,rfl⟩);go_ret;exact⟨rfl,rfl⟩
theorem XS(w:Wd)(b:Nat)(L:Nat->Int)(h:Mp w b L)(ok:GK L)(n:Nat)(hn:n<25)(hL:L n≠-1):Calls prog 58 #[.pointer (some ⟨b,0,none⟩),.int .i64 n] w fun e w'=>e=.returned .nilIface/\Mp w' b (upd L n (-1))/\Chg (·=b) w w':=by
 have q:=Ct;have ha:=Q2 w b L h n hn hL;have hl:=O9 w b L h ok n hn;clear h hn hL ok;go_enter func58,ntmps58;go_wp2_with (first | (go_at_call 50;refine ha.mono ?_;rintro e w1 ⟨rfl,rfl⟩) | (go_at_call 105;refine hl.mono ?_;rintro e w2 ⟨rfl,K2,G2⟩;have HK:=BE K2;have HG:=BE G2;clear K2 G2));go_ret;exact⟨rfl,HK.out,HG⟩
abbrev DY (n q:Int):Prop:=(0<=q/\q<96)/\(0<=n/\n<25)/\(n=24\/q % 8<6)
theorem Mw(w:Wd)(b:Nat)(n q:Int)(hn:¬ DY n q):Calls prog 155 #[.pointer (some ⟨b,0,none⟩),.int .i64 n,.int .i64 q] w fun e w'=>e=.returned (.iface 57 (.int .i64 1))/\w'=w:=by
 have q1:=Cu;have q2:=Ct;by_cases h1:(q<0\/96<=q)\/(n<0\/25<=n)
 ·have hh:=UQ w q n h1;clear hn h1;go_enter func155,ntmps155;go_wp2_with (go_at_call 196;refine hh.mono ?_;rintro e w1 ⟨rfl,rfl⟩);go_ret;exact⟨rfl,rfl⟩
 ·have hh:=Fj w q n om om;rw[show decide (n=24\/q % 8<6)=false from AN (fun h=>hn ⟨om,om,h⟩)] at hh;clear hn h1;go_enter func155,ntmps155;go_wp2_with (go_at_call 196;refine hh.mono ?_;rintro e w1 ⟨rfl,rfl⟩);go_ret;exact⟨rfl,rfl⟩
theorem UV(w:Wd)(b:Nat)(L:Nat->Int)(h:Mp w b L)(n m:Nat)(hn:DY n m)(ho:own L m≠-1/\own L m≠n):Calls prog 155 #[.pointer (some ⟨b,0,none⟩),.int .i64 n,.int .i64 m] w fun e w'=>e=.returned (.iface 57 (.int .i64 12))/\w'=w:=by
 have q2:=Ct;obtain⟨c,-⟩:=h.owner (q:=m) (by have:=hn.1;omega);have hh:=Fj w m n hn.1 hn.2.1;rw[show decide ((n:Int)=24\/(m:Int) % 8<6)=true from AO hn.2.2] at hh;have no:(m:Int)<96:=hn.1.2;have Go:=ho.1;have La:(own L m != -1)=true:=by simp[ho.1]
 have it:(own L m != (n:Int))=true:=by simp[ho.2]
 clear h hn ho;go_enter func155,ntmps155;go_wp2_with (go_at_call 196;refine hh.mono ?_;rintro e w1 ⟨rfl,rfl⟩);go_ret;exact⟨rfl,rfl⟩
theorem SO{w w2:Wd}{b:Nat}{L:Nat->Int}{n m:Nat}(K:Mp w2 b (upd L n (-1)))(G:Chg (·=b) w w2)(ok:GK (upd L n (-1)))(hn:n<25)(hm:m<96)(may:n<24->m % 8<6)(ho:own (upd L n (-1)) m = -1) :Ending.returned .nilIface=Ending.returned .nilIface/\Mp ((w2.setCell ⟨b,n,none⟩ (.int .i64 m)).setCell ⟨b,25+m,none⟩ (.int .i64 n)).drew b (upd L n m)/\Chg (·=b) w ((w2.setCell ⟨b,n,none⟩ (.int .i64 m)).setCell ⟨b,25+m,none⟩ (.int .i64 n)).drew/\GK (upd L n m):=by
 refine⟨rfl,?_,((G.setCell (AK rfl) _ _).setCell (AK rfl) _ _).drew,?_⟩
 ·have h:=(IB.set (IB.set K n m) (25+m) n).congr fun k _=>br ok hn hm may (CG _ _ _) ho k;rw[SJ] at h;exact h
 ·have h:=ok.put n (q:=m) om (fun h=>by have:=may h;omega) ho;rw[SJ] at h;exact h
theorem Mx(w:Wd)(b:Nat)(L:Nat->Int)(h:Mp w b L)(ok:GK L)(n m:Nat)(hn:DY n m)(ho:own L m = -1\/own L m=n):Calls prog 155 #[.pointer (some ⟨b,0,none⟩),.int .i64 n,.int .i64 m] w fun e w'=>e=.returned .nilIface/\Mp w' b (upd L n m)/\Chg (·=b) w w'/\GK (upd L n m):=by
 have q2:=Ct;obtain⟨c,-⟩:=h.owner (q:=m) (by have:=hn.1;omega);have hh:=Fj w m n hn.1 hn.2.1;rw[show decide ((n:Int)=24\/(m:Int) % 8<6)=true from AO hn.2.2] at hh;have hx:(m:Int)<96:=hn.1.2;have hk:(n:Int)<25:=hn.2.1.2;have it:n<25:=om
 have no:m<96:=om
 have hl:=O9 w b L h ok n it;have HM:=BE hn.2.2;have La:own (upd L n (-1)) m = -1:=by
  rw[Lz ok it om];by_cases e:(m:Int)=L n
  ·rw[AJ e]
  ·rw[AI e];rcases ho with ho | ho
   ·exact ho
   ·rcases Dr L m with ⟨i,h1,h2,h3,_⟩ | ⟨h1,h2⟩
    ·have e1:i=n:=om;subst e1;exact absurd h3.symm e
    ·exact h1
 have HC:=BE La;have hv:=BE (ok.clear n);have Go:n<24->m % 8<6:=fun h=>by have:=HM.out;omega
 have ar:=BE Go;rcases ho with ho | ho
 ·rw[ho] at c;clear h hn ho ok La Go HM;go_enter func155,ntmps155;go_wp2_with (first | (go_at_call 196;refine hh.mono ?_;rintro e w1 ⟨rfl,rfl⟩) | (go_at_call 105;refine hl.mono ?_;rintro e w2 ⟨rfl,K2,G2⟩;have HK:=BE K2;have HG:=BE G2;obtain⟨d1,f1⟩:=K2.place it;obtain⟨d2,f2⟩:=K2.owner no;clear K2 G2));go_region;go_wp2;go_ret;exact SO HK HG hv it no ar HC
 ·rw[ho] at c;have kd:((n:Int) != -1)=true:=by simp only[bne_iff_ne,ne_eq];omega
  have ha:((n:Int) == (n:Int))=true:=by simp
  clear h hn ho ok La Go HM;go_enter func155,ntmps155;go_wp2_with (first | (go_at_call 196;refine hh.mono ?_;rintro e w1 ⟨rfl,rfl⟩) | (go_at_call 105;refine hl.mono ?_;rintro e w2 ⟨rfl,K2,G2⟩;have HK:=BE K2;have HG:=BE G2;obtain⟨d1,f1⟩:=K2.place it;obtain⟨d2,f2⟩:=K2.owner no;clear K2 G2));go_region;go_wp2;go_ret;exact SO HK HG hv it no ar HC
def Ow (w:Wd) (base:Nat) (v:Value) (l:List Int):Prop:=w.ownsRow base 3 1 v l.length (l.map i6)
theorem Ow.nil(w:Wd)(base:Nat):Ow w base (.slice none 0 0) []:=⟨rfl,AK ⟨rfl,rfl⟩⟩
theorem Ow.form{w:Wd}{base:Nat}{v:Value}{l:List Int}(h:Ow w base v l):∃a it,v=.slice a l.length it:=by
 rcases h.2 with ⟨h1,h2⟩ | ⟨g,it,no,hv,_⟩
 ·exact⟨none,0,by rw[h1,h2]⟩
 ·exact⟨_,_,hv⟩
theorem Ow.block{w:Wd}{base:Nat}{v:Value}{l:List Int}(h:Ow w base v l){k:Nat}(hk:v.ownBlock=some k):base<=k/\k<w.heap.size:=h.lt k hk
theorem Ow.chg{S:Nat->Prop}{w w':Wd}{base:Nat}{v:Value}{l:List Int}(h:Ow w base v l)(hc:Chg S w w')(hs:∀k,k<w.heap.size->v.ownBlock=some k->¬ S k):Ow w' base v l:=by
 refine⟨h.1,?_⟩;rcases h.2 with h1 | ⟨g,it,no,rfl,hb,hh,r⟩
 ·exact AK h1
 ·have hg:=(Array.getElem?_eq_some_iff.1 hh).1;exact AL ⟨g,it,no,rfl,hb,(hc.block g hg (hs g hg rfl)).trans hh,r⟩
theorem Ow.new{w w':Wd}{base:Nat}{v:Value}{l:List Int}(h:Ow w base v l)(hc:Chg No w w'):Ow w' base v l:=h.chg hc (fun _ _ _ f=>f)
theorem lH:∃i,prog.info? 3=some i/\i.zero=some (.int .i64 0)/\i.size=1/\i.bytes=8:=by
 have h:(prog.info? 3).map (fun i=>(i.zero,i.size,i.bytes))=some (some (.int .i64 0),1,8):=kr
 cases e:prog.info? 3 with
 | none=>rw[e] at h;cases h
 | some i=>
  rw[e] at h;simp only[Option.map_some,Option.some.injEq,Prod.mk.injEq] at h;exact⟨i,rfl,h.1,h.2.1,h.2.2⟩
theorem JW(w:Wd){ops:Array Oper}{rest:List Oper}{o:Oper}{a:Act}{Q:Exit->Act->World->Prop}(hgd:o.guard=none)(s x:Operand)(ho:o.op=.call { callee:=.builtin .append,args:=#[s,x],argTypes:=#[43,43] })(base:Nat)(v:Value)(l:List Int)(hs:a.eval s=v)(g:Nat)(z:Int)(hx:a.eval x=.slice (some ⟨g,0,none⟩) 1 1)(hown:Ow w base v l)(hA:w.cell? ⟨g,0,none⟩=some (.int .i64 z))(hl:l.length<100)(hbase:base<=w.heap.size)(h:∀v' w',Ow w' base v' (l ++ [z])->Chg (fun k=>v.ownBlock=some k) w w'->wpList prog ops Q rest (a.put o.dst v') w'):wpList prog ops Q (o :: rest) a w:=by
 obtain⟨i,it,La,no,Go⟩:=lH;refine wpList_append_own_at w hgd s x 43 ho base 3 i (.int .i64 0) 1 8 underlying43 it La no Go rfl dc v l.length (l.map i6) hs hown ⟨g,0,none⟩ 1 1 [i6 z] hx rfl ?_ (fun u hu=>by simp at hu;rw[hu];rfl) (by unfold maxLen;omega) om hbase ?_
 ·intro j u hj
  match j,hj with
  | 0,hj=>
   simp at hj;subst hj;rw[Addr.add_mid];exact hA
 ·intro v' w' h1 h2 _ _;refine h v' w' ?_ ⟨h2.os,h2.tape,h2.output,h2.size,fun k hk hs=>h2.block k hk (fun e=>hs e.symm)⟩;unfold Ow;rw[AV,map_append];exact h1
theorem bw(w:Wd)(k:Nat)(hk:k<12)(p:Nat)(hp:p=8*k):Calls prog 195 #[.int .i64 k,.int .i64 0] w fun e w'=>e=.returned (.tuple #[.int .i64 p,.nilIface])/\w'=w:=by
 refine(Kv w k 0 om om).mono ?_;rintro e w' ⟨rfl,rfl⟩;refine⟨?_,rfl⟩;rw[show (k:Int)*8+0=(p:Int) by omega]
theorem fE:prog.arrayLen 181=96:=kr
theorem iG(w:Wd):(sizeOf (prog.elem 181)).run prog w=.ok 1 w:=kr
theorem bx(b p:Nat)(hp:p<=88)(w:Wd):(Instr.sliceAt 181 (.pointer (some ⟨b,25,none⟩)) (some (.int .i64 p)) (some (.int .i64 (p+8))) none).run prog w=.ok (.slice (some ⟨b,25+p,none⟩) 8 (96 - p)) w:=by
 rw[run_sliceAt_array_lh w 181 ⟨b,25,none⟩ underlying181 .i64 .i64 p (p+8) om om (by rw[fE];omega),iG,fE];simp only[Result.andThen_ok,slicedAt];rw[AI om,Addr.add_mid];congr 2
 ·congr 2;omega
 ·omega
theorem iH(w:Wd)(b:Nat)(n:Int)(hn:n<0\/12<=n):Calls prog 189 #[.pointer (some ⟨b,0,none⟩),.int .i64 n] w fun e w'=>e=.returned (.tuple #[.slice none 0 0,.iface 57 (.int .i64 1)])/\w'=w:=by
 have q:=Cu;go_enter func189,ntmps189;go_wp2_with (go_at_call 195;refine(Io _ n 0 (AK hn)).mono ?_;rintro e w1 ⟨rfl,rfl⟩);go_ret2;exact⟨rfl,rfl⟩
theorem XT(w:Wd)(b:Nat)(L:Nat->Int)(h:Mp w b L)(k:Nat)(hk:k<12):Calls prog 189 #[.pointer (some ⟨b,0,none⟩),.int .i64 k] w fun e w'=>(∃a it,e=.returned (.tuple #[.slice a (ofL L k).length it,.nilIface])/\Ow w' w.heap.size (.slice a (ofL L k).length it) (ofL L k))/\Chg No w w':=by
 have q:=Ct;obtain⟨p,hp⟩:∃p,p=8*k:=⟨_,rfl⟩;have h2:=bw w k hk p hp;have HP:=BE hp;have HK:=BE h;have h6:p<=88:=om
 have h0:(p:Int)<=88:=om
 have B':=bx b p h6;clear h hp;go_enter func189,ntmps189;go_wp2_with (go_at_call 195;refine h2.mono ?_;rintro e w1 ⟨rfl,rfl⟩)
 go_loopg [8,27] 8 (fun kx s8 s27 wr=>∃i:Nat,s27=.int .i64 i/\i<=8/\8 - i<=kx/\Hid (Ow wr w1.heap.size s8 (ofK L k i))/\Hid (Chg No w1 wr))
 case atStart=>exact⟨0,rfl,om,om,Ow.nil _ _,Chg.refl _ _⟩
 case round=>
 obtain⟨i,rfl,hx,G1,HO,HG⟩:=hrel;by_cases hc:i<8
 ·have no:(i:Int)<8:=om
  obtain⟨c,-⟩:=(HK.out.chg HG (fun f=>f)).owner (q:=p+i) om;have HE:Hid (ofK L k (i+1)=ofK L k i ++ if own L ((8*k+i:Nat):Int) = -1 then [] else [own L ((8*k+i:Nat):Int)]):=rfl;rw[<-HP.out] at HE;rw[<-Nat.add_assoc] at c;generalize own L ((p+i:Nat):Int)=z at *
  by_cases hz:z = -1
  ·subst hz;rw[AJ rfl,append_nil] at HE;go_wp2
   go_roundg (8 - (i+1))
   case measure=>omega
   case rel=>exact⟨i+1,by simp,om,AM _,by show Ow _ _ _ _;rw[HE.out];exact HO.out,HG⟩
  ·rw[AI hz] at HE;have p2:(z == -1)=false:=(by simp[hz]);have h1:=Dh L k i;have O1:=HO.out.new ((Chg.refl No wr).alloc (.cells #[.int .i64 z] 3));have ar:=BE O1;have ha:Hid (w1.heap.size<=(wr.alloc (.cells #[.int .i64 z] 3)).heap.size):=(by have:=HG.out.size;show _<=_;simp;omega);have La:Hid ((wr.alloc (.cells #[.int .i64 z] 3)).cell? ⟨wr.heap.size,0,none⟩=some (.int .i64 z)):=(by show _=_;simp);have kd:=BE (HG.out.alloc (.cells #[.int .i64 z] 3));clear O1;go_wp2_with (first | (refine JW _ rfl (.tmp 33) (.tmp 35) rfl w1.heap.size _ (ofK L k i) rfl wr.heap.size z rfl ?_ ?_ om ?_ ?_;exact ar;exact La;exact ha));intro v' w2 O2 G2;have Go:=BE O2;have hg:Hid (Chg No w1 w2):=kd.out.trans' G2 fun j hj e=>by have:=HO.out.block e;omega
   clear O2 G2 ar ha La kd;go_wp2
   go_roundg (8 - (i+1))
   case measure=>omega
   case rel=>exact⟨i+1,by simp,om,AM _,by show Ow _ _ _ _;rw[HE.out];exact Go.out,hg⟩
 ·have no:¬ (i:Int)<8:=om
  have h8:i=8:=om
  subst h8;obtain⟨a,it,hv⟩:=HO.out.form;subst hv;have Go:Hid (Ow wr w1.heap.size (.slice a (ofL L k).length it) (ofL L k)):=HO.out;clear HO hc hx;go_wp2;go_ret2;exact⟨⟨a,it,rfl,Go⟩,HG⟩
theorem bz(f:Nat->Int)(i:Nat)(hi:i<96)(w:Wd):(Instr.index 181 (.agg (ints f 96).toArray) (.int .i64 i)).run prog w=.ok (.int .i64 (f i)) w:=by
 have h:=BU f 96 i hi;generalize ints f 96=L at *
 simp[Instr.index,run_underlying underlying181,asIntOf,go_sem,hi,h,i6]
theorem b8(w:Wd)(i k j:Nat)(hi:i<96)(hk:k=i / 8)(hj:j=i % 8):Calls prog 158 #[.int .i64 i] w fun e w'=>e=.returned (.tuple #[.int .i64 k,.int .i64 j,.nilIface])/\w'=w:=by
 refine(H9 w i om).mono ?_;rintro e w' ⟨rfl,rfl⟩;refine⟨?_,rfl⟩;rw[show (i:Int) / 8=(k:Int) by omega,show (i:Int) % 8=(j:Int) by omega]
theorem IC(w:Wd)(b:Nat)(L:Nat->Int)(h:Mp w b L):Calls prog 140 #[.pointer (some ⟨b,0,none⟩)] w fun e w'=>e=.returned (.slice (some ⟨w.heap.size,0,none⟩) 12 12)/\IB w' w.heap.size 3 12 (fun k=>(lvK L 96 k:Nat))/\Chg No w w':=by
 have q:=Hv;have hm:=Kr;have ar:=BE (IB.new w 3 12 (fun _=>0));have Go:Hid (Chg No w (w.alloc (.cells (ints (fun _=>0) 12).toArray 3))):=(Chg.refl _ w).alloc _;have HK:=BE (h.chg Go (fun f=>f));have HR:Hid (World.rangeAt (w.alloc (.cells (ints (fun _=>0) 12).toArray 3)) b 25 (ints (fun q=>own L (q:Int)) 96)):=fun j v hv=>by
  have hj:j<96:=by have:=(List.getElem?_eq_some_iff.1 hv).1;rwa [BF] at this
  rw[(HK.out.owner hj).1,<-hv,BU _ _ _ hj];rfl
 clear h;go_enter func140,ntmps140;go_wp2_with (first | (refine wpList_load_mid rfl 181 (.tmp 12) rfl b 25 rfl (ints (fun q=>own L (q:Int)) 96) _ ?_ underlying181 rfl ?_ ?_;exact HR;rw[BF];exact iD));generalize HW:w.alloc (.cells (ints (fun _=>0) 12).toArray 3)=w0 at *
 generalize HB:w.heap.size=s at *
 have HB:=BE HB;clear HW hm
 go_loopg [14] 96 (fun kx s14 wr=>∃i:Nat,s14=.int .i64 i/\i<=96/\96 - i<=kx/\Hid (IB wr s 3 12 (fun k=>(lvK L i k:Nat)))/\Hid (Chg No w wr))
 case atStart=>exact⟨0,rfl,om,om,ar,Go⟩
 case round=>
 obtain⟨i,rfl,hc,h0,HC,HG⟩:=hrel;clear ar Go HR HK;by_cases La:i<96
 ·have it:(i:Int)<96:=om
  have hx:∀w,(Instr.index 181 (.agg (ints (fun q=>own L (q:Int)) 96).toArray) (.int .i64 i)).run prog w=.ok (.int .i64 (own L (i:Int))) w:=bz (fun q=>own L (q:Int)) i La;obtain⟨k,hk⟩:∃k,k=i / 8:=⟨_,rfl⟩;obtain⟨j,hj⟩:∃j,j=i % 8:=⟨_,rfl⟩;have kd:=b8 wr i k j La hk hj;have no:k<12:=om
  have h1:(k:Int)<12:=om
  obtain⟨c,f⟩:=HC.out.cell k no;have h2:=iE L i k;have HE:Hid (∀t,lvK L (i+1) t=lvK L i t+if i / 8=t/\own L (i:Int)≠-1 then 1 else 0):=fun _=>rfl;have ha:=BE hk;clear hk hj;generalize own L (i:Int)=z at *
  by_cases hz:z = -1
  ·have HZ:=BE hz;rw[hz] at hx;clear hz;go_wp2_with (go_at_call 158;refine kd.mono ?_;rintro e w1 ⟨rfl,rfl⟩)
   go_roundg (96 - (i+1))
   case measure=>omega
   case rel=>
    refine⟨i+1,by simp,om,AM _,?_,HG⟩;exact HC.out.congr fun t _=>by rw[HE.out t,AI (fun h=>h.2 HZ)];rfl
  ·have hg:(z == -1)=false:=(by simp[hz]);have HZ:=BE hz;clear hz;go_wp2_with (go_at_call 158;refine kd.mono ?_;rintro e w1 ⟨rfl,rfl⟩)
   go_roundg (96 - (i+1))
   case measure=>omega
   case rel=>
    refine⟨i+1,by simp,om,AM _,?_,?_⟩
    ·refine(HC.out.set k ((lvK L i k:Nat)+1)).congr fun t _=>?_;rw[HE.out t];by_cases e:t=k
     ·rw[e,CG,AJ ⟨ha.out.symm,HZ⟩];simp
     ·rw[BY _ _ e,AI (fun h=>e (by rw[ha.out,h.1]))];rfl
    ·exact HG.out.setCell (AL (by rw[HB.out];exact AM _)) _ _
 ·have it:¬ (i:Int)<96:=om
  have h6:i=96:=om
  subst h6;go_wp2;go_ret;exact⟨rfl,HC.out,HG⟩
def setC (L:Nat->Int) (n q:Int):Nat:=if ¬ DY n q then 1 else if own L q≠-1/\own L q≠n then 12 else 0
def setL (L:Nat->Int) (n q:Int):Nat->Int:=if setC L n q=0 then upd L n.toNat q else L
theorem SF(w:Wd)(b:Nat)(L:Nat->Int)(h:Mp w b L)(ok:GK L)(n q:Int):Calls prog 155 #[.pointer (some ⟨b,0,none⟩),.int .i64 n,.int .i64 q] w fun e w'=>e=.returned (errV (setC L n q))/\Mp w' b (setL L n q)/\Chg (·=b) w w'/\GK (setL L n q):=by
 by_cases h1:DY n q
 ·obtain⟨m,rfl⟩:∃m:Nat,n=m:=⟨n.toNat,by have:=h1.2.1;omega⟩;obtain⟨p,rfl⟩:∃p:Nat,q=p:=⟨q.toNat,by have:=h1.1;omega⟩;by_cases h2:own L p≠-1/\own L p≠m
  ·have e:setC L m p=12:=(by unfold setC;rw[AI (fun h=>h h1),AJ h2]);refine(UV w b L h m p h1 h2).mono ?_;rintro x w' ⟨rfl,rfl⟩;unfold setL;rw[e];exact⟨rfl,h,Chg.refl _ _,ok⟩
  ·have e:setC L m p=0:=(by unfold setC;rw[AI (fun h=>h h1),AI h2]);refine(Mx w b L h ok m p h1 om).mono ?_;rintro x w' ⟨rfl,h3,h4,h5⟩;unfold setL;rw[e,AP];exact⟨rfl,h3,h4,h5⟩
 ·have e:setC L n q=1:=by unfold setC;rw[AJ h1]
  refine(Mw w b n q h1).mono ?_;rintro x w' ⟨rfl,rfl⟩;unfold setL;rw[e];exact⟨rfl,h,Chg.refl _ _,ok⟩
def atC (L:Nat->Int) (n:Int):Nat:=if n<0\/25<=n then 1 else if L n.toNat = -1 then 11 else 0
def atV (L:Nat->Int) (n:Int):Int:=if atC L n=0 then L n.toNat else 0
def dropL (L:Nat->Int) (n:Int):Nat->Int:=if atC L n=0 then upd L n.toNat (-1) else L
theorem PA(L:Nat->Int)(n:Int):((n<0\/25<=n)/\atC L n=1)\/∃m:Nat,n=m/\m<25/\((L m = -1/\atC L n=11)\/(L m≠-1/\atC L n=0)):=by
 unfold atC;by_cases h:n<0\/25<=n
 ·exact AK ⟨h,AJ h⟩
 ·refine AL ⟨n.toNat,om,om,?_⟩;rw[AI h];by_cases e:L n.toNat = -1
  ·exact AK ⟨e,AJ e⟩
  ·exact AL ⟨e,AI e⟩
theorem b9(w:Wd)(b:Nat)(L:Nat->Int)(h:Mp w b L)(n:Int):Calls prog 50 #[.pointer (some ⟨b,0,none⟩),.int .i64 n] w fun e w'=>e=.returned (.tuple #[.int .i64 (atV L n),errV (atC L n)])/\w'=w:=by
 unfold atV;rcases PA L n with ⟨h1,e⟩ | ⟨m,rfl,hm,⟨h2,e⟩ | ⟨h2,e⟩⟩ <;> rw[e]
 ·exact XQ w b n h1
 ·exact M6 w b L h m hm h2
 ·exact Q2 w b L h m hm h2
theorem iI(w:Wd)(b:Nat)(L:Nat->Int)(h:Mp w b L)(ok:GK L)(n:Int):Calls prog 58 #[.pointer (some ⟨b,0,none⟩),.int .i64 n] w fun e w'=>e=.returned (errV (atC L n))/\Mp w' b (dropL L n)/\Chg (·=b) w w'/\GK (dropL L n):=by
 unfold dropL;rcases PA L n with ⟨h1,e⟩ | ⟨m,rfl,hm,⟨h2,e⟩ | ⟨h2,e⟩⟩ <;> rw[e]
 ·refine(XR w b n h1).mono ?_;rintro x w' ⟨rfl,rfl⟩;exact⟨rfl,h,Chg.refl _ _,ok⟩
 ·refine(UU w b L h m hm h2).mono ?_;rintro x w' ⟨rfl,rfl⟩;exact⟨rfl,h,Chg.refl _ _,ok⟩
 ·refine(XS w b L h ok m hm h2).mono ?_;rintro x w' ⟨rfl,h3,h4⟩;exact⟨rfl,h3,h4,ok.clear m⟩
def Zr (L:Nat->Int) (q:Int):Nat:=if q<0\/96<=q then 1 else if own L q = -1 then 11 else 0
def owV (L:Nat->Int) (q:Int):Int:=if Zr L q=0 then own L q else 0
theorem XU(L:Nat->Int)(q:Int):((q<0\/96<=q)/\Zr L q=1)\/∃m:Nat,q=m/\m<96/\((own L m = -1/\Zr L q=11)\/(own L m≠-1/\Zr L q=0)):=by
 unfold Zr;by_cases h:q<0\/96<=q
 ·exact AK ⟨h,AJ h⟩
 ·obtain⟨m,rfl⟩:∃m:Nat,q=m:=⟨q.toNat,om⟩;refine AL ⟨m,rfl,om,?_⟩;rw[AI h];by_cases e:own L m = -1
  ·exact AK ⟨e,AJ e⟩
  ·exact AL ⟨e,AI e⟩
theorem cD(w:Wd)(b:Nat)(L:Nat->Int)(h:Mp w b L)(q:Int):Calls prog 98 #[.pointer (some ⟨b,0,none⟩),.int .i64 q] w fun e w'=>e=.returned (.tuple #[.int .i64 (owV L q),errV (Zr L q)])/\w'=w:=by
 unfold owV;rcases XU L q with ⟨h1,e⟩ | ⟨m,rfl,hm,⟨h2,e⟩ | ⟨h2,e⟩⟩ <;> rw[e]
 ·exact UT w b q h1
 ·exact Q3 w b L h m hm h2
 ·exact US w b L h m hm h2
def mH (n:Int):Nat:=if n<0\/12<=n then 1 else 0
def ofV (L:Nat->Int) (n:Int):List Int:=if n<0\/12<=n then [] else ofL L n.toNat
theorem Q4(L:Nat->Int)(n:Int):(ofV L n).length<=8:=by
 unfold ofV;split
 ·simp
 ·exact Dh L _ 8
def nv (w:Wd) (l:List Int) (er:Value) (e:Ending) (w':Wd):Prop:=(∃a cap,e=.returned (.tuple #[.slice a l.length cap,er])/\Ow w' w.heap.size (.slice a l.length cap) l)/\Chg No w w'
theorem ml(w:Wd)(b:Nat)(L:Nat->Int)(h:Mp w b L)(n:Int):Calls prog 189 #[.pointer (some ⟨b,0,none⟩),.int .i64 n] w fun e w'=>nv w (ofV L n) (errV (mH n)) e w':=by
 unfold ofV mH;by_cases h1:n<0\/12<=n
 ·rw[AJ h1,AJ h1];refine(iH w b n h1).mono ?_;rintro x w' ⟨rfl,rfl⟩;exact⟨⟨none,0,rfl,Ow.nil _ _⟩,Chg.refl _ _⟩
 ·obtain⟨m,rfl⟩:∃m:Nat,n=m:=⟨n.toNat,om⟩;rw[AI h1,AI h1,AP];exact XT w b L h m om
end Go.Proofs.YtmdpnpjacfedpaaGreat.AB
