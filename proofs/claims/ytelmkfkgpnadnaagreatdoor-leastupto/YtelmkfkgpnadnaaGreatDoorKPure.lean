import Derived.Lib.SplitLaws
import Derived.Lib.Atoi
import Derived.Lib.Small
import Derived.Lib.Bytealg
set_option linter.unusedSimpArgs false
namespace Go.Proofs.YtelmkfkgpnadnaaGreatDoor
set_option linter.defProp false
def ag:=@Nat.le_refl
def af:=@if_neg
def bg:=@List.getElem?_eq_getElem
def bZ:=@congrArg
def aW:=@List.length_append
def ai:=@if_pos
def bH:=@Nat.lt_of_lt_of_le
def bz:=@List.length_map
def dw:=@List.getElem?_eq_some_iff
def bS:=@List.length_cons
def aL:=@Nat.zero_le
def aO:=@Nat.le_trans
def bL:=@List.mem_singleton
def bQ:=@List.mem_cons_self
def di:=@List.drop_eq_getElem_cons
def aY:=@List.mem_cons
def bC:=@List.mem_append
def bI:=@decide_eq_false
def cV:=@List.mem_cons_of_mem
def bG:=@List.map_cons
def bB:=@List.mem_map
def bD:=@getElem!_pos
def cH:=@List.getElem_mem
def d9:=@Nat.mul_le_mul_right
def cW:=@List.not_mem_nil
def cJ:=@Option.some.inj
def eH:=@List.length_singleton
def cY:=@decide_eq_true
def bW:=@Nat.le_succ
def dG:=@Nat.not_lt_zero
def fp:=@List.mem_append_left
def eD:=@List.append_assoc
def ig:=@List.pairwise_iff_getElem
def eu:=@List.map_append
def eI:=@Bool.and_eq_true
def eE:=@List.cons.injEq
def fH:=@List.pairwise_cons
def fW:=@List.length_pos_iff
def dH:=@Nat.zero_add
def gI:=@List.reverse_reverse
def ij:=@List.getElem?_eq_none
def fq:=@Bool.eq_iff_iff
def gJ:=@beq_eq_false_iff_ne
def mI:=@List.take_succ_eq_append_getElem
def gu:=@List.mem_reverse
def gw:=@List.all_eq_true
def ik:=@of_decide_eq_true
def gK:=@List.flatMap_cons
def jY:=@List.filter_cons_of_pos
def mJ:=@List.eq_nil_of_length_eq_zero
def jm:=@List.mem_of_getElem?
def iQ:=@Bool.false_eq_true
def pH:=@List.takeWhile_append_dropWhile
def ft:=@List.map_nil
def gL:=@List.append_nil
def gy:=@List.mem_range
def mK:=@Array.getElem?_eq_some_iff
def iT:=@List.getElem?_map
def mM:=@Array.getElem?_eq_getElem
def li:=@List.drop_of_length_le
def il:=@List.length_nil
def iU:=@Nat.lt_succ_self
def fx:=@Nat.add_mul
def jo:=@List.reverse_cons
def mN:=@List.filter_cons_of_neg
def lj:=@List.pairwise_append
def mO:=@List.singleton_append
def mP:=@List.mem_append_right
def mQ:=@Array.getElem?_modify
def im:=@Prod.mk.injEq
def jZ:=@List.length_take
def j4:=@List.cons_append
def dI:=@if_true
def uO:=@List.findIdx?_eq_some_iff_getElem
def lq:=@List.ext_getElem?
def pI:=@Option.map_eq_some_iff
def pJ:=@List.take_of_length_le
def r7:=@List.perm_append_singleton
def mU:=@List.getElem_of_mem
def mV:=@Array.length_toList
def j5:=@List.foldl_cons
def r8:=@List.getElem?_append_left
def r9:=@List.findIdx?_eq_none_iff
def sf:=@Classical.byContradiction
def pK:=@Array.getElem?_toList
def mW:=@List.find?_eq_none
def mY:=@Array.extract_size
def eP:=@if_false
def mZ:=@decide_eq_true_eq
def nc:=@Nat.lt_succ_of_le
def sg:=@decide_eq_false_iff_not
def fy:=@and_true
def pL:=@List.flatMap_append
def j6:=@List.all_cons
def ng:=@List.take_length
def nh:=@List.getElem_map
def pM:=@of_decide_eq_false
def uP:=@List.getElem?_eq_none_iff
def ni:=@List.nil_append
def j7:=@List.map_map
def lu:=@Option.some.injEq
def lx:=@List.foldl_append
def i7:=@ByteArray.ext
def oz:=@List.reverse_append
def oB:=@List.map_congr_left
def oC:=@Array.getElem?_push
def jJ:=@List.Perm.refl
def ly:=@Array.toList_inj
def iy:=@of_eq_false
def iz:=@Nat.one_mul
def qC:=@List.drop_eq_nil_of_le
def fD:=@Prod.ext
def oD:=@List.take_add_one
def oF:=@List.pairwise_map
def oG:=@List.nodup_append
end Go.Proofs.YtelmkfkgpnadnaaGreatDoor
namespace Go.Proofs.YtelmkfkgpnadnaaGreatDoor
namespace Pv
def dg(c:UInt8):Bool:=decide (48≤c)&&decide (c≤57)
def sm(c:UInt8):Bool:=decide (97≤c)&&decide (c≤122)
def gr(c:UInt8):Bool:=decide (65≤c)&&decide (c≤90)
def idb(c:UInt8):Bool:=sm c||dg c||gr c||c==45
def isNum(l:List UInt8):Bool:=l==[48]||(l !=[]&&l.head? !=some 48&&l.all dg)
def mD(l:List UInt8):Bool:=decide (l.length<1)||decide (8<l.length)||(if l.all dg then !isNum l else !l.all idb)
def spl(c:UInt8):List UInt8→List (List UInt8)
 |[]=>[[]]
 |b::l=>if b=c then []::spl c l else match spl c l with
  |[]=>[[b]]
  |p::ps=>(b::p)::ps
theorem yS(c:UInt8):∀l,spl c l≠[]
 |[]=>by simp[spl]
 |b::l=>by
  unfold spl
  split
  ·simp
  ·split<;>simp
theorem nj(c:UInt8):∀l,c∉l→spl c l=[l]
 |[],_=>rfl
 |b::l,h=>by
  have hb:b≠c:=fun e=>h (by simp[e])
  have hl:c∉l:=fun e=>h (by simp[e])
  unfold spl;rw[af hb,nj c l hl]
theorem lz(c:UInt8):∀p q,c∉p→spl c (p++c::q)=p::spl c q
 |[],q,_=>by simp[spl]
 |b::l,q,h=>by
  have hb:b≠c:=fun e=>h (by simp[e])
  have hl:c∉l:=fun e=>h (by simp[e])
  rw[j4,spl,af hb,lz c l q hl]
theorem occ_one(c:UInt8)(s:List UInt8)(i:Nat):Lib.occAt s [c] i=(s[i]?==some c):=by
 unfold Lib.occAt;by_cases h:i<s.length
 ·rw[di h,bg h]
  simp only[List.isPrefixOf,Bool.and_true];by_cases e:c=s[i]
  ·simp[e]
  ·have e':¬s[i]=c:=fun x=>e x.symm
   rw[gJ.2 e];simp[e']
 ·rw[li (by omega),ij (by omega)]
  rfl
theorem index_one(c:UInt8)(s:List UInt8):(Lib.index s [c]=-1∧c∉s)∨∃p q,s=p++c::q∧c∉p∧Lib.index s [c]=(p.length:Int):=by
 rcases Lib.index_spec s [c] with⟨h,hn⟩|⟨i,hi,hle,ho,Kr⟩
 ·left
  refine⟨h,fun hm=>?_⟩;obtain⟨j,hj,e⟩:=mU hm;have:=hn j (by omega);rw[occ_one,bg hj,e] at this;simp at this
 ·right
  rw[occ_one] at ho;have ho':s[i]?=some c:=by simpa using ho
  obtain⟨hlt,e⟩:=dw.1 ho';refine⟨s.take i,s.drop (i+1),?_,?_,?_⟩
  ·rw[←e,List.getElem_cons_drop,List.take_append_drop]
  ·intro hm
   obtain⟨j,hj,ej⟩:=mU hm;have hj':j<i:=by simp at hj;omega
   have:=Kr j hj';rw[occ_one] at this;rw[List.getElem_take] at ej;rw[bg (by omega),ej] at this;simp at this
  ·rw[jZ,Nat.min_eq_left (by omega)];exact hi
theorem pN(c:UInt8):∀(k:Nat)(s:List UInt8),s.count c≤k→Lib.splitK [c] 0 k s=spl c s
 |0,s,h=>by
  have:c∉s:=fun hm=>by have:=List.count_pos_iff.2 hm;omega
  rw[nj c s this];rfl
 |k+1,s,h=>by
  unfold Lib.splitK;rcases index_one c s with⟨e,hm⟩|⟨p,q,rfl,hp,e⟩
  ·rw[e,nj c s hm];rfl
  ·rw[e,af (by simp),lz c p q hp]
   have hc:(p++c::q).count c=q.count c+1:=by
    rw[List.count_append,List.count_cons_self,List.count_eq_zero.2 hp];omega
   congr 1
   ·simp
   ·rw[←pN c k q (by omega)]
    congr 1
    simp
theorem lA(s sep:ByteArray)(c:UInt8)(hsep:sep.data.toList=[c]):(Lib.splitB sep 0 (Lib.countB s sep) s).map (·.data.toList)=spl c s.data.toList:=by
 rw[Lib.splitB_data,hsep];apply pN;rw[←Lib.count_one,←hsep];exact ag _
def ez(c:UInt8):List UInt8→List UInt8×Option (List UInt8)
 |[]=>([],none)
 |b::l=>if b=c then ([],some l) else (b::(ez c l).1,(ez c l).2)
theorem si(c:UInt8):∀l,c∉l→ez c l=(l,none)
 |[],_=>rfl
 |b::l,h=>by
  have hb:b≠c:=fun e=>h (by simp[e])
  have hl:c∉l:=fun e=>h (by simp[e])
  unfold ez;rw[af hb,si c l hl]
theorem uQ(c:UInt8):∀p q,c∉p→ez c (p++c::q)=(p,some q)
 |[],q,_=>by simp[ez]
 |b::l,q,h=>by
  have hb:b≠c:=fun e=>h (by simp[e])
  have hl:c∉l:=fun e=>h (by simp[e])
  rw[j4,ez,af hb,uQ c l q hl]
theorem z8(c:UInt8)(s:List UInt8):Lib.cut s [c]=((ez c s).1,(ez c s).2.getD [],(ez c s).2.isSome):=by
 unfold Lib.cut;rcases index_one c s with⟨e,hm⟩|⟨p,q,rfl,hp,e⟩
 ·rw[e,si c s hm];rfl
 ·rw[e,uQ c p q hp,ai (by omega)]
  simp
def val(l:List UInt8):Nat:=l.foldl (fun a c=>a*10+(c.toNat-48)) 0
def qD(p:List UInt8):Bool:=decide (p.length≤6)&&isNum p
def j8(front:List UInt8):Option (List (List UInt8)):=if (spl 46 front).length=3∧(spl 46 front).all qD=true then some (spl 46 front) else none
def yT(b:List UInt8):Option (List (List UInt8)):=if (spl 46 b).length≤4∧(spl 46 b).any mD=false then some (spl 46 b) else none
def parse(l:List UInt8):Option (List (List UInt8)×List (List UInt8)):=
 if l.head?=some 118∧l.length≤40 then
  match j8 (ez 45 l.tail).1 with
  |none=>none
  |some ns=>match (ez 45 l.tail).2 with
   |none=>some (ns,[])
   |some b=>(yT b).map fun i=>(ns,i)
 else none
theorem jg(p:List UInt8):isNum p=true↔(p≠[]∧p.all dg=true∧¬(1<p.length∧p.head?=some 48)):=by
 unfold isNum;cases p with
 |nil=>simp
 |cons c t=>
  cases t with
  |nil=>
   by_cases h:c=48
   ·subst h;simp[dg]
   ·simp[h]
  |cons d u=>simp[and_comm]
theorem sj(c:UInt8):∀l,l=(ez c l).1++(match (ez c l).2 with|none=>[]|some b=>c::b)
 |[]=>rfl
 |b::u=>by
  unfold ez
  split
  ·rename_i e;simp[e]
  ·have:=sj c u
   simp only[j4];exact bZ (b::·) this
def ib(a b:List UInt8):Int:=if isNum a&&isNum b then Lib.compareInt (val a) (val b) else if isNum a then -1 else if isNum b then 1 else Lib.compareBytes a b
def cmpL(f:List UInt8→List UInt8→Int):List (List UInt8)→List (List UInt8)→Int
 |[],[]=>0
 |[],_::_=>-1
 |_::_,[]=>1
 |a::as,b::bs=>if f a b=0 then cmpL f as bs else f a b
def jq(a b:List UInt8):Int:=Lib.compareInt (val a) (val b)
theorem yU(l:List UInt8):∀a:Nat,l.foldl (fun a c=>a*10+(c.toNat-48)) a=a*10 ^ l.length+val l:=by
 induction l with
 |nil=>intro a;simp[val]
 |cons c t ih=>
  intro a;have hv:val (c::t)=(0*10+(c.toNat-48))*10 ^ t.length+val t:=ih _;rw[j5,ih,hv];rw[bS,Nat.pow_succ];rw[fx,Nat.zero_mul,dH];have:a*10*10 ^ t.length=a*(10 ^ t.length*10):=by rw[Nat.mul_assoc,Nat.mul_comm 10]
  omega
theorem qE(c:UInt8)(t:List UInt8):val (c::t)=(c.toNat-48)*10 ^ t.length+val t:=by
 unfold val;rw[j5,yU];simp[val]
theorem sr{c:UInt8}(h:dg c=true):48≤c.toNat∧c.toNat≤57:=by
 unfold dg at h;simp only[eI,mZ,UInt8.le_iff_toNat_le] at h;exact h
theorem yV:∀(l:List UInt8),l.all dg=true→val l<10 ^ l.length
 |[],_=>by simp[val]
 |c::t,h=>by
  simp only[j6,eI] at h;have hc:=sr h.1;have ht:=yV t h.2;rw[qE,bS,Nat.pow_succ];have:(c.toNat-48)*10 ^ t.length≤9*10 ^ t.length:=d9 _ (by omega);omega
theorem mq:∀(a b:List UInt8),a.all dg=true→b.all dg=true→a.length=b.length→Lib.compareBytes a b=Lib.compareInt (val a) (val b)
 |[],[],_,_,_=>rfl
 |[],_::_,_,_,h=>by simp at h
 |_::_,[],_,_,h=>by simp at h
 |c::t,d::u,ha,hb,hl=>by
  simp only[j6,eI] at ha hb;have hc:=sr ha.1;have hd:=sr hb.1;have ht:=yV t ha.2;have hu:=yV u hb.2;simp only[bS,Nat.add_right_cancel_iff] at hl;have ih:=mq t u ha.2 hb.2 hl;rw[Lib.compareBytes,qE,qE,←hl];rw[←hl] at hu;have hpos:0<10 ^ t.length:=Nat.pow_pos (by omega);by_cases h1:c<d
  ·rw[ai h1]
   have:c.toNat<d.toNat:=h1;have hm:(c.toNat-48+1)*10 ^ t.length≤(d.toNat-48)*10 ^ t.length:=d9 _ (by omega);rw[fx,iz] at hm;unfold Lib.compareInt;rw[ai (by omega)]
  ·rw[af h1]
   by_cases h2:d<c
   ·rw[ai h2]
    have:d.toNat<c.toNat:=h2;have hm:(d.toNat-48+1)*10 ^ t.length≤(c.toNat-48)*10 ^ t.length:=d9 _ (by omega);rw[fx,iz] at hm;unfold Lib.compareInt;rw[af (by omega),ai (by omega)]
   ·rw[af h2,ih]
    have e1:¬c.toNat<d.toNat:=h1;have e2:¬d.toNat<c.toNat:=h2;have:c.toNat=d.toNat:=by omega
    rw[this];generalize (d.toNat-48)*10 ^ t.length=K;unfold Lib.compareInt;by_cases h3:(val t:Int)<val u
    ·have h5:((K+val t:Nat):Int)<((K+val u:Nat):Int):=by omega
     simp only[h3,h5,dI]
    ·have h5:¬((K+val t:Nat):Int)<((K+val u:Nat):Int):=by omega
     by_cases h4:(val t:Int)>val u
     ·have h6:((K+val t:Nat):Int)>((K+val u:Nat):Int):=by omega
      simp only[h3,h5,h4,h6,dI,eP]
     ·have h6:¬((K+val t:Nat):Int)>((K+val u:Nat):Int):=by omega
      simp only[h3,h5,h4,h6,eP]
theorem M1{l:List UInt8}(h:l.all dg=true)(hz:¬(1<l.length∧l.head?=some 48))(h1:1<l.length):10 ^ (l.length-1)≤val l:=by
 cases l with
 |nil=>simp at h1
 |cons c t=>
  simp only[j6,eI] at h;have hc:=sr h.1;have:c≠48:=fun e=>hz ⟨h1,by simp[e]⟩
  have hn:c.toNat≠48:=fun e=>this (UInt8.toNat.inj e)
  rw[qE];have hm:1*10 ^ t.length≤(c.toNat-48)*10 ^ t.length:=d9 _ (by omega);simp only[bS,Nat.add_sub_cancel];omega
theorem tH{a b:List UInt8}(ha:isNum a=true)(hb:isNum b=true)(hl:a.length<b.length):val a<val b:=by
 obtain⟨_,ha2,ha3⟩:=(jg a).1 ha;obtain⟨_,hb2,hb3⟩:=(jg b).1 hb;have hpos:0<a.length:=fW.2 ((jg a).1 ha).1;have h1:=yV a ha2;have h2:=M1 hb2 hb3 (by omega);have:10 ^ a.length≤10 ^ (b.length-1):=Nat.pow_le_pow_right (by omega) (by omega);omega
def mE(v w:List (List UInt8)×List (List UInt8)):Int:=
 if cmpL jq v.1 w.1=0 then
  (if decide (0<v.2.length)=decide (0<w.2.length) then cmpL ib v.2 w.2 else if 0<v.2.length then -1 else 1)
 else cmpL jq v.1 w.1
theorem dS:∀(a b:List UInt8),(Lib.compareBytes a b=if a<b then -1 else if b<a then 1 else 0)
 |[],[]=>by simp[Lib.compareBytes]
 |[],_::_=>by simp[Lib.compareBytes]
 |_::_,[]=>by simp[Lib.compareBytes]
 |x::as,y::bs=>by
  rw[Lib.compareBytes,dS as bs];by_cases h:x<y
  ·simp[h,List.cons_lt_cons_iff]
  ·by_cases h2:y<x
   ·have hne:x≠y:=fun e=>by subst e;exact h h2
    simp[h,h2,List.cons_lt_cons_iff,hne]
   ·have e:x=y:=by
     have h1:¬x.toNat<y.toNat:=h;have h3:¬y.toNat<x.toNat:=h2;exact UInt8.toNat.inj (by omega)
    subst e;simp
theorem G2{l:List UInt8}(h:isNum l=true):Lib.atoi l=some (val l:Int):=by
 obtain⟨hne,hall,_⟩:=(jg l).1 h
 have key:∀(l:List UInt8),l.all dg=true→∀acc,Lib.decFrom acc l=some (l.foldl (fun a c=>a*10+(c.toNat-48)) acc):=by
  intro l
  induction l with
  |nil=>intro _ acc;rfl
  |cons c t ih=>
   intro h acc;simp only[j6,eI] at h;have hc:=sr h.1;unfold Lib.decFrom;rw[show Lib.digitVal c=some (c.toNat-48) from by unfold Lib.digitVal;rw[ai hc]];exact ih h.2 _
 cases l with
 |nil=>simp at hne
 |cons c t=>
  have hc:=sr (by simp only[j6,eI] at hall;exact hall.1);have h45:¬c=45:=fun e=>by rw[e] at hc;simp at hc
  have h43:¬c=43:=fun e=>by rw[e] at hc;simp at hc
  simp only[Lib.atoi];rw[af (by simpa using h45),af (by simpa using h43)];unfold Lib.decNat;rw[af (by simp),key _ hall]
  rfl
