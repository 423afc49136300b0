import Derived.Lib.SplitLaws
import Derived.Lib.Atoi
import Derived.Lib.Small
import Derived.Lib.Bytealg
set_option linter.all false
namespace Go.Proofs.YtelmkfkgpnadnaaGreatDoor
set_option linter.defProp false
def ag:=@Nat.le_refl
def af:=@if_neg
def aO:=@List.getElem?_eq_getElem
def bW:=@congrArg
def bg:=@List.length_append
def ah:=@if_pos
def bI:=@Nat.lt_of_lt_of_le
def bE:=@List.length_map
def cq:=@List.getElem?_eq_some_iff
def bX:=@List.length_cons
def aK:=@Nat.zero_le
def aP:=@Nat.le_trans
def bQ:=@List.mem_singleton
def bz:=@List.mem_cons_self
def dt:=@List.drop_eq_getElem_cons
def aV:=@List.mem_cons
def bJ:=@List.mem_append
def bK:=@decide_eq_false
def cK:=@List.mem_cons_of_mem
def bH:=@List.map_cons
def bD:=@List.mem_map
def bC:=@getElem!_pos
def bL:=@List.getElem_mem
def eF:=@Nat.mul_le_mul_right
def di:=@List.not_mem_nil
def cY:=@Option.some.inj
def fc:=@List.length_singleton
def cT:=@decide_eq_true
def cr:=@Nat.le_succ
def dz:=@Nat.not_lt_zero
def gI:=@List.mem_append_left
def eP:=@List.append_assoc
def fA:=@List.pairwise_iff_getElem
def eQ:=@List.map_append
def cG:=@Bool.and_eq_true
def eG:=@List.cons.injEq
def fB:=@List.pairwise_cons
def gp:=@List.length_pos_iff
def dX:=@Nat.zero_add
def ie:=@List.reverse_reverse
def gT:=@List.getElem?_eq_none
def eu:=@Bool.eq_iff_iff
def eH:=@beq_eq_false_iff_ne
def oo:=@List.take_succ_eq_append_getElem
def gU:=@List.mem_reverse
def gJ:=@List.all_eq_true
def gH:=@of_decide_eq_true
def ig:=@List.flatMap_cons
def lD:=@List.filter_cons_of_pos
def qL:=@List.eq_nil_of_length_eq_zero
def jN:=@List.mem_of_getElem?
def jl:=@Bool.false_eq_true
def qM:=@List.takeWhile_append_dropWhile
def fQ:=@List.map_nil
def gV:=@List.append_nil
def cH:=@List.mem_range
def oq:=@Array.getElem?_eq_some_iff
def eU:=@List.getElem?_map
def ot:=@Array.getElem?_eq_getElem
def mI:=@List.drop_of_length_le
def jm:=@List.length_nil
def jo:=@Nat.lt_succ_self
def fR:=@Nat.add_mul
def jO:=@List.reverse_cons
def ou:=@List.filter_cons_of_neg
def mJ:=@List.pairwise_append
def ow:=@List.singleton_append
def mK:=@List.mem_append_right
def ox:=@Array.getElem?_modify
def iH:=@Prod.mk.injEq
def jP:=@List.length_take
def jQ:=@List.cons_append
def dK:=@if_true
def mM:=@List.findIdx?_eq_some_iff_getElem
def lF:=@List.ext_getElem?
def qN:=@Option.map_eq_some_iff
def oy:=@List.take_of_length_le
def tK:=@List.perm_append_singleton
def oz:=@List.getElem_of_mem
def oB:=@Array.length_toList
def lG:=@List.foldl_cons
def qO:=@List.getElem?_append_left
def qP:=@List.findIdx?_eq_none_iff
def mN:=@Classical.byContradiction
def qQ:=@Array.getElem?_toList
def lH:=@List.find?_eq_none
def oC:=@Array.extract_size
def fC:=@if_false
def iI:=@decide_eq_true_eq
def mO:=@Nat.lt_succ_of_le
def tL:=@decide_eq_false_iff_not
def fS:=@and_true
def AR:=@List.flatMap_append
def lI:=@List.all_cons
def lJ:=@List.take_length
def jR:=@List.getElem_map
def oD:=@of_decide_eq_false
def wG:=@List.getElem?_eq_none_iff
def jS:=@List.nil_append
def ij:=@List.map_map
def mP:=@Option.some.injEq
def pK:=@List.foldl_append
def jA:=@ByteArray.ext
def pL:=@List.reverse_append
def kO:=@List.map_congr_left
def pM:=@Array.getElem?_push
def kP:=@List.Perm.refl
def mQ:=@Array.toList_inj
def iO:=@of_eq_false
def iP:=@Nat.one_mul
def rO:=@List.drop_eq_nil_of_le
def fZ:=@Prod.ext
def jB:=@List.take_add_one
def jC:=@List.pairwise_map
def pN:=@List.nodup_append
abbrev zA:=ByteArray
end Go.Proofs.YtelmkfkgpnadnaaGreatDoor
namespace Go.Proofs.YtelmkfkgpnadnaaGreatDoor
namespace Pv
def dg(c:UInt8):Bool:=decide (48≤c)&&decide (c≤57)
def sm(c:UInt8):Bool:=decide (97≤c)&&decide (c≤122)
def gr(c:UInt8):Bool:=decide (65≤c)&&decide (c≤90)
def idb(c:UInt8):Bool:=sm c||dg c||gr c||c==45
def isNum(l:List UInt8):Bool:=l==[48]||(l !=[]&&l.head? !=some 48&&l.all dg)
def nV(l:List UInt8):Bool:=decide (l.length<1)||decide (8<l.length)||(if l.all dg then !isNum l else !l.all idb)
def spl(c:UInt8):List UInt8→List (List UInt8)
 |[]=>[[]]
 |b::l=>if b=c then []::spl c l else match spl c l with
  |[]=>[[b]]
  |p::ps=>(b::p)::ps
theorem AU(c:UInt8):∀l,spl c l≠[]
 |[]=>by simp[spl]
 |b::l=>by
  unfold spl
  split
  ·simp
  ·split<;>simp
theorem oF(c:UInt8):∀l,c∉l→spl c l=[l]
 |[],_=>rfl
 |b::l,h=>by
  have hb:b≠c:=fun e=>h (by simp[e])
  have hl:c∉l:=fun e=>h (by simp[e])
  unfold spl;rw[af hb,oF c l hl]
theorem mU(c:UInt8):∀p q,c∉p→spl c (p++c::q)=p::spl c q
 |[],q,_=>by simp[spl]
 |b::l,q,h=>by
  have hb:b≠c:=fun e=>h (by simp[e])
  have hl:c∉l:=fun e=>h (by simp[e])
  rw[jQ,spl,af hb,mU c l q hl]
theorem occ_one(c:UInt8)(s:List UInt8)(i:Nat):Lib.occAt s [c] i=(s[i]?==some c):=by
 unfold Lib.occAt;by_cases h:i<s.length
 ·rw[dt h,aO h]
  simp only[List.isPrefixOf,Bool.and_true];by_cases e:c=s[i]
  ·simp[e]
  ·have e':¬s[i]=c:=fun x=>e x.symm
   rw[eH.2 e];simp[e']
 ·rw[mI (by omega),gT (by omega)]
  rfl
theorem index_one(c:UInt8)(s:List UInt8):(Lib.index s [c]=-1∧c∉s)∨∃p q,s=p++c::q∧c∉p∧Lib.index s [c]=(p.length:Int):=by
 rcases Lib.index_spec s [c] with⟨h,hn⟩|⟨i,hi,hle,ho,MR⟩
 ·left
  refine⟨h,fun hm=>?_⟩;obtain⟨j,hj,e⟩:=oz hm;have:=hn j (by omega);rw[occ_one,aO hj,e] at this;simp at this
 ·right
  rw[occ_one] at ho;have ho':s[i]?=some c:=by simpa using ho
  obtain⟨hlt,e⟩:=cq.1 ho';refine⟨s.take i,s.drop (i+1),?_,?_,?_⟩
  ·rw[←e,List.getElem_cons_drop,List.take_append_drop]
  ·intro hm
   obtain⟨j,hj,ej⟩:=oz hm;have hj':j<i:=by simp at hj;omega
   have:=MR j hj';rw[occ_one] at this;rw[List.getElem_take] at ej;rw[aO (by omega),ej] at this;simp at this
  ·rw[jP,Nat.min_eq_left (by omega)];exact hi
theorem qR(c:UInt8):∀(k:Nat)(s:List UInt8),s.count c≤k→Lib.splitK [c] 0 k s=spl c s
 |0,s,h=>by
  have:c∉s:=fun hm=>by have:=List.count_pos_iff.2 hm;omega
  rw[oF c s this];rfl
 |k+1,s,h=>by
  unfold Lib.splitK;rcases index_one c s with⟨e,hm⟩|⟨p,q,rfl,hp,e⟩
  ·rw[e,oF c s hm];rfl
  ·rw[e,af (by simp),mU c p q hp]
   have hc:(p++c::q).count c=q.count c+1:=by
    rw[List.count_append,List.count_cons_self,List.count_eq_zero.2 hp];omega
   congr 1
   ·simp
   ·rw[←qR c k q (by omega)]
    congr 1
    simp
theorem mV(s sep:zA)(c:UInt8)(hsep:sep.data.toList=[c]):(Lib.splitB sep 0 (Lib.countB s sep) s).map (·.data.toList)=spl c s.data.toList:=by
 rw[Lib.splitB_data,hsep];apply qR;rw[←Lib.count_one,←hsep];exact ag _
def eM(c:UInt8):List UInt8→List UInt8×Option (List UInt8)
 |[]=>([],none)
 |b::l=>if b=c then ([],some l) else (b::(eM c l).1,(eM c l).2)
theorem tN(c:UInt8):∀l,c∉l→eM c l=(l,none)
 |[],_=>rfl
 |b::l,h=>by
  have hb:b≠c:=fun e=>h (by simp[e])
  have hl:c∉l:=fun e=>h (by simp[e])
  unfold eM;rw[af hb,tN c l hl]
theorem wH(c:UInt8):∀p q,c∉p→eM c (p++c::q)=(p,some q)
 |[],q,_=>by simp[eM]
 |b::l,q,h=>by
  have hb:b≠c:=fun e=>h (by simp[e])
  have hl:c∉l:=fun e=>h (by simp[e])
  rw[jQ,eM,af hb,wH c l q hl]
theorem Ca(c:UInt8)(s:List UInt8):Lib.cut s [c]=((eM c s).1,(eM c s).2.getD [],(eM c s).2.isSome):=by
 unfold Lib.cut;rcases index_one c s with⟨e,hm⟩|⟨p,q,rfl,hp,e⟩
 ·rw[e,tN c s hm];rfl
 ·rw[e,wH c p q hp,ah (by omega)]
  simp
def val(l:List UInt8):Nat:=l.foldl (fun a c=>a*10+(c.toNat-48)) 0
def rP(p:List UInt8):Bool:=decide (p.length≤6)&&isNum p
def lK(front:List UInt8):Option (List (List UInt8)):=if (spl 46 front).length=3∧(spl 46 front).all rP=true then some (spl 46 front) else none
def AV(b:List UInt8):Option (List (List UInt8)):=if (spl 46 b).length≤4∧(spl 46 b).any nV=false then some (spl 46 b) else none
def parse(l:List UInt8):Option (List (List UInt8)×List (List UInt8)):=
 if l.head?=some 118∧l.length≤40 then
  match lK (eM 45 l.tail).1 with
  |none=>none
  |some ns=>match (eM 45 l.tail).2 with
   |none=>some (ns,[])
   |some b=>(AV b).map fun i=>(ns,i)
 else none
theorem jJ(p:List UInt8):isNum p=true↔(p≠[]∧p.all dg=true∧¬(1<p.length∧p.head?=some 48)):=by
 unfold isNum;cases p with
 |nil=>simp
 |cons c t=>
  cases t with
  |nil=>
   by_cases h:c=48
   ·subst h;simp[dg]
   ·simp[h]
  |cons d u=>simp[and_comm]
theorem tO(c:UInt8):∀l,l=(eM c l).1++(match (eM c l).2 with|none=>[]|some b=>c::b)
 |[]=>rfl
 |b::u=>by
  unfold eM
  split
  ·rename_i e;simp[e]
  ·have:=tO c u
   simp only[jQ];exact bW (b::·) this
def iE(a b:List UInt8):Int:=if isNum a&&isNum b then Lib.compareInt (val a) (val b) else if isNum a then -1 else if isNum b then 1 else Lib.compareBytes a b
def cmpL(f:List UInt8→List UInt8→Int):List (List UInt8)→List (List UInt8)→Int
 |[],[]=>0
 |[],_::_=>-1
 |_::_,[]=>1
 |a::as,b::bs=>if f a b=0 then cmpL f as bs else f a b
def jT(a b:List UInt8):Int:=Lib.compareInt (val a) (val b)
theorem AW(l:List UInt8):∀a:Nat,l.foldl (fun a c=>a*10+(c.toNat-48)) a=a*10 ^ l.length+val l:=by
 induction l with
 |nil=>intro a;simp[val]
 |cons c t ih=>
  intro a;have hv:val (c::t)=(0*10+(c.toNat-48))*10 ^ t.length+val t:=ih _;rw[lG,ih,hv];rw[bX,Nat.pow_succ];rw[fR,Nat.zero_mul,dX];have:a*10*10 ^ t.length=a*(10 ^ t.length*10):=by rw[Nat.mul_assoc,Nat.mul_comm 10]
  omega
theorem rQ(c:UInt8)(t:List UInt8):val (c::t)=(c.toNat-48)*10 ^ t.length+val t:=by
 unfold val;rw[lG,AW];simp[val]
theorem tP{c:UInt8}(h:dg c=true):48≤c.toNat∧c.toNat≤57:=by
 unfold dg at h;simp only[cG,iI,UInt8.le_iff_toNat_le] at h;exact h
theorem AX:∀(l:List UInt8),l.all dg=true→val l<10 ^ l.length
 |[],_=>by simp[val]
 |c::t,h=>by
  simp only[lI,cG] at h;have hc:=tP h.1;have ht:=AX t h.2;rw[rQ,bX,Nat.pow_succ];have:(c.toNat-48)*10 ^ t.length≤9*10 ^ t.length:=eF _ (by omega);omega
theorem nO:∀(a b:List UInt8),a.all dg=true→b.all dg=true→a.length=b.length→Lib.compareBytes a b=Lib.compareInt (val a) (val b)
 |[],[],_,_,_=>rfl
 |[],_::_,_,_,h=>by simp at h
 |_::_,[],_,_,h=>by simp at h
 |c::t,d::u,ha,hb,hl=>by
  simp only[lI,cG] at ha hb;have hc:=tP ha.1;have hd:=tP hb.1;have ht:=AX t ha.2;have hu:=AX u hb.2;simp only[bX,Nat.add_right_cancel_iff] at hl;have ih:=nO t u ha.2 hb.2 hl;rw[Lib.compareBytes,rQ,rQ,←hl];rw[←hl] at hu;have hpos:0<10 ^ t.length:=Nat.pow_pos (by omega);by_cases h1:c<d
  ·rw[ah h1]
   have:c.toNat<d.toNat:=h1;have hm:(c.toNat-48+1)*10 ^ t.length≤(d.toNat-48)*10 ^ t.length:=eF _ (by omega);rw[fR,iP] at hm;unfold Lib.compareInt;rw[ah (by omega)]
  ·rw[af h1]
   by_cases h2:d<c
   ·rw[ah h2]
    have:d.toNat<c.toNat:=h2;have hm:(d.toNat-48+1)*10 ^ t.length≤(c.toNat-48)*10 ^ t.length:=eF _ (by omega);rw[fR,iP] at hm;unfold Lib.compareInt;rw[af (by omega),ah (by omega)]
   ·rw[af h2,ih]
    have e1:¬c.toNat<d.toNat:=h1;have e2:¬d.toNat<c.toNat:=h2;have:c.toNat=d.toNat:=by omega
    rw[this];generalize (d.toNat-48)*10 ^ t.length=K;unfold Lib.compareInt;by_cases h3:(val t:Int)<val u
    ·have h5:((K+val t:Nat):Int)<((K+val u:Nat):Int):=by omega
     simp only[h3,h5,dK]
    ·have h5:¬((K+val t:Nat):Int)<((K+val u:Nat):Int):=by omega
     by_cases h4:(val t:Int)>val u
     ·have h6:((K+val t:Nat):Int)>((K+val u:Nat):Int):=by omega
      simp only[h3,h5,h4,h6,dK,fC]
     ·have h6:¬((K+val t:Nat):Int)>((K+val u:Nat):Int):=by omega
      simp only[h3,h5,h4,h6,fC]
theorem OG{l:List UInt8}(h:l.all dg=true)(hz:¬(1<l.length∧l.head?=some 48))(h1:1<l.length):10 ^ (l.length-1)≤val l:=by
 cases l with
 |nil=>simp at h1
 |cons c t=>
  simp only[lI,cG] at h;have hc:=tP h.1;have:c≠48:=fun e=>hz ⟨h1,by simp[e]⟩
  have hn:c.toNat≠48:=fun e=>this (UInt8.toNat.inj e)
  rw[rQ];have hm:1*10 ^ t.length≤(c.toNat-48)*10 ^ t.length:=eF _ (by omega);simp only[bX,Nat.add_sub_cancel];omega
theorem uS{a b:List UInt8}(ha:isNum a=true)(hb:isNum b=true)(hl:a.length<b.length):val a<val b:=by
 obtain⟨_,ha2,ha3⟩:=(jJ a).1 ha;obtain⟨_,hb2,hb3⟩:=(jJ b).1 hb;have hpos:0<a.length:=gp.2 ((jJ a).1 ha).1;have h1:=AX a ha2;have h2:=OG hb2 hb3 (by omega);have:10 ^ a.length≤10 ^ (b.length-1):=Nat.pow_le_pow_right (by omega) (by omega);omega
def nW(v w:List (List UInt8)×List (List UInt8)):Int:=
 if cmpL jT v.1 w.1=0 then
  (if decide (0<v.2.length)=decide (0<w.2.length) then cmpL iE v.2 w.2 else if 0<v.2.length then -1 else 1)
 else cmpL jT v.1 w.1
theorem dY:∀(a b:List UInt8),(Lib.compareBytes a b=if a<b then -1 else if b<a then 1 else 0)
 |[],[]=>by simp[Lib.compareBytes]
 |[],_::_=>by simp[Lib.compareBytes]
 |_::_,[]=>by simp[Lib.compareBytes]
 |x::as,y::bs=>by
  rw[Lib.compareBytes,dY as bs];by_cases h:x<y
  ·simp[h,List.cons_lt_cons_iff]
  ·by_cases h2:y<x
   ·have hne:x≠y:=fun e=>by subst e;exact h h2
    simp[h,h2,List.cons_lt_cons_iff,hne]
   ·have e:x=y:=by
     have h1:¬x.toNat<y.toNat:=h;have h3:¬y.toNat<x.toNat:=h2;exact UInt8.toNat.inj (by omega)
    subst e;simp
theorem JA{l:List UInt8}(h:isNum l=true):Lib.atoi l=some (val l:Int):=by
 obtain⟨hne,hall,_⟩:=(jJ l).1 h
 have key:∀(l:List UInt8),l.all dg=true→∀acc,Lib.decFrom acc l=some (l.foldl (fun a c=>a*10+(c.toNat-48)) acc):=by
  intro l
  induction l with
  |nil=>intro _ acc;rfl
  |cons c t ih=>
   intro h acc;simp only[lI,cG] at h;have hc:=tP h.1;unfold Lib.decFrom;rw[show Lib.digitVal c=some (c.toNat-48) from by unfold Lib.digitVal;rw[ah hc]];exact ih h.2 _
 cases l with
 |nil=>simp at hne
 |cons c t=>
  have hc:=tP (by simp only[lI,cG] at hall;exact hall.1);have h45:¬c=45:=fun e=>by rw[e] at hc;simp at hc
  have h43:¬c=43:=fun e=>by rw[e] at hc;simp at hc
  simp only[Lib.atoi];rw[af (by simpa using h45),af (by simpa using h43)];unfold Lib.decNat;rw[af (by simp),key _ hall]
  rfl
