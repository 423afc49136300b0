import Derived.Lib.SplitLaws
import Derived.Lib.Atoi
import Derived.Lib.Small
set_option linter.all false
namespace Go.Proofs.YtkfobfbiblgohaaGreatDoor
set_option linter.defProp false
def ah:=@Nat.le_refl
def ag:=@if_neg
def aZ:=@List.getElem?_eq_getElem
def bz:=@congrArg
def aU:=@List.length_append
def aj:=@if_pos
def bP:=@Nat.lt_of_lt_of_le
def bJ:=@List.length_map
def dB:=@List.getElem?_eq_some_iff
def bW:=@List.length_cons
def aJ:=@Nat.zero_le
def aN:=@Nat.le_trans
def bI:=@List.mem_singleton
def bE:=@List.mem_cons_self
def dC:=@List.drop_eq_getElem_cons
def aK:=@List.mem_cons
def bh:=@List.mem_append
def bD:=@decide_eq_false
def cy:=@List.mem_cons_of_mem
def bQ:=@List.map_cons
def aO:=@List.mem_map
def bS:=@getElem!_pos
def ez:=@List.getElem_mem
def eA:=@Nat.mul_le_mul_right
def aQ:=@List.not_mem_nil
def bL:=@Option.some.inj
def fA:=@List.length_singleton
def bB:=@decide_eq_true
def cE:=@Nat.le_succ
def cW:=@Nat.not_lt_zero
def dY:=@List.mem_append_left
def fB:=@List.append_assoc
def tZ:=@List.pairwise_iff_getElem
def eK:=@List.map_append
def fC:=@Bool.and_eq_true
def eL:=@List.cons.injEq
def lD:=@List.pairwise_cons
def gC:=@List.length_pos_iff
def dJ:=@Nat.zero_add
def iO:=@List.reverse_reverse
def iA:=@List.getElem?_eq_none
def gi:=@Bool.eq_iff_iff
def ij:=@beq_eq_false_iff_ne
def uf:=@List.take_succ_eq_append_getElem
def iP:=@List.mem_reverse
def jX:=@List.all_eq_true
def gD:=@of_decide_eq_true
def jF:=@List.flatMap_cons
def lF:=@List.filter_cons_of_pos
def qJ:=@List.eq_nil_of_length_eq_zero
def iQ:=@List.mem_of_getElem?
def jY:=@Bool.false_eq_true
def ug:=@List.takeWhile_append_dropWhile
def fL:=@List.map_nil
def fM:=@List.append_nil
def eM:=@List.mem_range
def ou:=@Array.getElem?_eq_some_iff
def lG:=@List.getElem?_map
def ow:=@Array.getElem?_eq_getElem
def mI:=@List.drop_of_length_le
def gU:=@List.length_nil
def gF:=@Nat.lt_succ_self
def gj:=@Nat.add_mul
def lH:=@List.reverse_cons
def ox:=@List.filter_cons_of_neg
def qK:=@List.pairwise_append
def qL:=@List.singleton_append
def fD:=@List.mem_append_right
def qM:=@Array.getElem?_modify
def iT:=@Prod.mk.injEq
def qN:=@List.length_take
def mJ:=@List.cons_append
def dD:=@if_true
def qO:=@List.findIdx?_eq_some_iff_getElem
def mK:=@List.ext_getElem?
def qP:=@Option.map_eq_some_iff
def oy:=@List.take_of_length_le
def uh:=@List.perm_append_singleton
def qQ:=@List.getElem_of_mem
def oz:=@Array.length_toList
def lI:=@List.foldl_cons
def qR:=@List.getElem?_append_left
def qT:=@List.findIdx?_eq_none_iff
def xg:=@Classical.byContradiction
def qU:=@Array.getElem?_toList
def oB:=@Array.extract_size
def fN:=@if_false
def oC:=@decide_eq_true_eq
def oD:=@Nat.lt_succ_of_le
def ui:=@decide_eq_false_iff_not
def fE:=@and_true
def mM:=@List.flatMap_append
def lJ:=@List.all_cons
def xh:=@List.take_length
def uj:=@List.getElem_map
def uk:=@of_decide_eq_false
def Bb:=@List.getElem?_eq_none_iff
def jZ:=@List.nil_append
def mN:=@List.map_map
def qV:=@Option.some.injEq
def pM:=@List.foldl_append
def jb:=@ByteArray.ext
def sf:=@List.reverse_append
def pN:=@List.map_congr_left
def pO:=@Array.getElem?_push
def jc:=@List.Perm.refl
def kV:=@Array.toList_inj
def jd:=@of_eq_false
def je:=@Nat.one_mul
def sg:=@List.drop_eq_nil_of_le
def eB:=@Prod.ext
def wO:=@List.take_add_one
def pP:=@List.pairwise_map
def iB:=@List.nodup_append
abbrev zA:=ByteArray
end Go.Proofs.YtkfobfbiblgohaaGreatDoor
namespace Go.Proofs.YtkfobfbiblgohaaGreatDoor
namespace Pv
def dg(c:UInt8):Bool:=decide (48<=c)&&decide (c<=57)
def sm(c:UInt8):Bool:=decide (97<=c)&&decide (c<=122)
def gr(c:UInt8):Bool:=decide (65<=c)&&decide (c<=90)
def idb(c:UInt8):Bool:=sm c||dg c||gr c||c==45
def isNum(l:List UInt8):Bool:=l==[48]||(l !=[]&&l.head? !=some 48&&l.all dg)
def nY(l:List UInt8):Bool:=decide (l.length<1)||decide (8<l.length)||(if l.all dg then !isNum l else !l.all idb)
def spl(c:UInt8):List UInt8->List (List UInt8)
 |[]=>[[]]
 |b::l=>if b=c then []::spl c l else match spl c l with
  |[]=>[[b]]
  |p::ps=>(b::p)::ps
theorem Bc(c:UInt8):∀l,spl c l≠[]
 |[]=>by simp[spl]
 |b::l=>by
  unfold spl
  split
  ·simp
  ·split<;>simp
theorem oF(c:UInt8):∀l,c∉l->spl c l=[l]
 |[],_=>rfl
 |b::l,h=>by
  have E:b≠c:=fun e=>h (by simp[e])
  have F:c∉l:=fun e=>h (by simp[e])
  unfold spl;rw[ag E,oF c l F]
theorem kW(c:UInt8):∀p q,c∉p->spl c (p++c::q)=p::spl c q
 |[],q,_=>by simp[spl]
 |b::l,q,h=>by
  have E:b≠c:=fun e=>h (by simp[e])
  have F:c∉l:=fun e=>h (by simp[e])
  rw[mJ,spl,ag E,kW c l q F]
theorem occ_one(c:UInt8)(s:List UInt8)(i:Nat):Lib.occAt s [c] i=(s[i]?==some c):=by
 unfold Lib.occAt;by_cases h:i<s.length
 ·rw[dC h,aZ h]
  simp only[List.isPrefixOf,Bool.and_true];by_cases e:c=s[i]
  ·simp[e]
  ·have E:¬s[i]=c:=fun x=>e x.symm
   rw[ij.2 e];simp[E]
 ·rw[mI (by omega),iA (by omega)]
  rfl
theorem index_one(c:UInt8)(s:List UInt8):(Lib.index s [c]=-1/\c∉s)\/∃p q,s=p++c::q/\c∉p/\Lib.index s [c]=(p.length:Int):=by
 rcases Lib.index_spec s [c] with⟨h,Y⟩|⟨i,T,U,M,O⟩
 ·left
  refine⟨h,fun hm=>?_⟩;obtain⟨j,E,e⟩:=qQ hm;have:=Y j (by omega);rw[occ_one,aZ E,e] at this;simp at this
 ·right
  rw[occ_one] at M;have G:s[i]?=some c:=by simpa using M
  obtain⟨V,e⟩:=dB.1 G;refine⟨s.take i,s.drop (i+1),?_,?_,?_⟩
  ·rw[<-e,List.getElem_cons_drop,List.take_append_drop]
  ·intro hm
   obtain⟨j,E,I⟩:=qQ hm;have F:j<i:=by simp at E;omega
   have:=O j F;rw[occ_one] at this;rw[List.getElem_take] at I;rw[aZ (by omega),I] at this;simp at this
  ·rw[qN,Nat.min_eq_left (by omega)];exact T
theorem qW(c:UInt8):∀(k:Nat)(s:List UInt8),s.count c<=k->Lib.splitK [c] 0 k s=spl c s
 |0,s,h=>by
  have:c∉s:=fun hm=>by have:=List.count_pos_iff.2 hm;omega
  rw[oF c s this];rfl
 |k+1,s,h=>by
  unfold Lib.splitK;rcases index_one c s with⟨e,hm⟩|⟨p,q,rfl,E,e⟩
  ·rw[e,oF c s hm];rfl
  ·rw[e,ag (by simp),kW c p q E]
   have F:(p++c::q).count c=q.count c+1:=by
    rw[List.count_append,List.count_cons_self,List.count_eq_zero.2 E];omega
   congr 1
   ·simp
   ·rw[<-qW c k q (by omega)]
    congr 1
    simp
theorem mO(s sep:zA)(c:UInt8)(E:sep.data.toList=[c]):(Lib.splitB sep 0 (Lib.countB s sep) s).map (·.data.toList)=spl c s.data.toList:=by
 rw[Lib.splitB_data,E];apply qW;rw[<-Lib.count_one,<-E];exact ah _
def eZ(c:UInt8):List UInt8->List UInt8×Option (List UInt8)
 |[]=>([],none)
 |b::l=>if b=c then ([],some l) else (b::(eZ c l).1,(eZ c l).2)
theorem um(c:UInt8):∀l,c∉l->eZ c l=(l,none)
 |[],_=>rfl
 |b::l,h=>by
  have E:b≠c:=fun e=>h (by simp[e])
  have F:c∉l:=fun e=>h (by simp[e])
  unfold eZ;rw[ag E,um c l F]
theorem xj(c:UInt8):∀p q,c∉p->eZ c (p++c::q)=(p,some q)
 |[],q,_=>by simp[eZ]
 |b::l,q,h=>by
  have E:b≠c:=fun e=>h (by simp[e])
  have F:c∉l:=fun e=>h (by simp[e])
  rw[mJ,eZ,ag E,xj c l q F]
theorem CC(c:UInt8)(s:List UInt8):Lib.cut s [c]=((eZ c s).1,(eZ c s).2.getD [],(eZ c s).2.isSome):=by
 unfold Lib.cut;rcases index_one c s with⟨e,hm⟩|⟨p,q,rfl,E,e⟩
 ·rw[e,um c s hm];rfl
 ·rw[e,xj c p q E,aj (by omega)]
  simp
def val(l:List UInt8):Nat:=l.foldl (fun a c=>a*10+(c.toNat-48)) 0
def si(p:List UInt8):Bool:=decide (p.length<=6)&&isNum p
def lK(E:List UInt8):Option (List (List UInt8)):=if (spl 46 E).length=3/\(spl 46 E).all si=true then some (spl 46 E) else none
def Be(b:List UInt8):Option (List (List UInt8)):=if (spl 46 b).length<=4/\(spl 46 b).any nY=false then some (spl 46 b) else none
def parse(l:List UInt8):Option (List (List UInt8)×List (List UInt8)):=
 if l.head?=some 118/\l.length<=40 then
  match lK (eZ 45 l.tail).1 with
  |none=>none
  |some E=>match (eZ 45 l.tail).2 with
   |none=>some (E,[])
   |some b=>(Be b).map fun i=>(E,i)
 else none
theorem jT(p:List UInt8):isNum p=true↔(p≠[]/\p.all dg=true/\¬(1<p.length/\p.head?=some 48)):=by
 unfold isNum;cases p with
 |nil=>simp
 |cons c t=>
  cases t with
  |nil=>
   by_cases h:c=48
   ·subst h;simp[dg]
   ·simp[h]
  |cons d u=>simp[and_comm]
theorem uq(c:UInt8):∀l,l=(eZ c l).1++(match (eZ c l).2 with|none=>[]|some b=>c::b)
 |[]=>rfl
 |b::u=>by
  unfold eZ
  split
  ·rename_i e;simp[e]
  ·have:=uq c u
   simp only[mJ];exact bz (b::·) this
def iN(a b:List UInt8):Int:=if isNum a&&isNum b then Lib.compareInt (val a) (val b) else if isNum a then -1 else if isNum b then 1 else Lib.compareBytes a b
def cmpL(f:List UInt8->List UInt8->Int):List (List UInt8)->List (List UInt8)->Int
 |[],[]=>0
 |[],_::_=>-1
 |_::_,[]=>1
 |a::as,b::E=>if f a b=0 then cmpL f as E else f a b
def ku(a b:List UInt8):Int:=Lib.compareInt (val a) (val b)
theorem Bg(l:List UInt8):∀a:Nat,l.foldl (fun a c=>a*10+(c.toNat-48)) a=a*10 ^ l.length+val l:=by
 induction l with
 |nil=>intro a;simp[val]
 |cons c t E=>
  intro a;have F:val (c::t)=(0*10+(c.toNat-48))*10 ^ t.length+val t:=E _;rw[lI,E,F];rw[bW,Nat.pow_succ];rw[gj,Nat.zero_mul,dJ];have:a*10*10 ^ t.length=a*(10 ^ t.length*10):=by rw[Nat.mul_assoc,Nat.mul_comm 10]
  omega
theorem sj(c:UInt8)(t:List UInt8):val (c::t)=(c.toNat-48)*10 ^ t.length+val t:=by
 unfold val;rw[lI,Bg];simp[val]
theorem uu{c:UInt8}(h:dg c=true):48<=c.toNat/\c.toNat<=57:=by
 unfold dg at h;simp only[fC,oC,UInt8.le_iff_toNat_le] at h;exact h
theorem Bh:∀(l:List UInt8),l.all dg=true->val l<10 ^ l.length
 |[],_=>by simp[val]
 |c::t,h=>by
  simp only[lJ,fC] at h;have E:=uu h.1;have F:=Bh t h.2;rw[sj,bW,Nat.pow_succ];have:(c.toNat-48)*10 ^ t.length<=9*10 ^ t.length:=eA _ (by omega);omega
theorem nO:∀(a b:List UInt8),a.all dg=true->b.all dg=true->a.length=b.length->Lib.compareBytes a b=Lib.compareInt (val a) (val b)
 |[],[],_,_,_=>rfl
 |[],_::_,_,_,h=>by simp at h
 |_::_,[],_,_,h=>by simp at h
 |c::t,d::u,I,M,O=>by
  simp only[lJ,fC] at I M;have hc:=uu I.1;have hd:=uu M.1;have ht:=Bh t I.2;have hu:=Bh u M.2;simp only[bW,Nat.add_right_cancel_iff] at O;have ih:=nO t u I.2 M.2 O;rw[Lib.compareBytes,sj,sj,<-O];rw[<-O] at hu;have Y:0<10 ^ t.length:=Nat.pow_pos (by omega);by_cases E:c<d
  ·rw[aj E]
   have:c.toNat<d.toNat:=E;have hm:(c.toNat-48+1)*10 ^ t.length<=(d.toNat-48)*10 ^ t.length:=eA _ (by omega);rw[gj,je] at hm;unfold Lib.compareInt;rw[aj (by omega)]
  ·rw[ag E]
   by_cases F:d<c
   ·rw[aj F]
    have:d.toNat<c.toNat:=F;have hm:(d.toNat-48+1)*10 ^ t.length<=(c.toNat-48)*10 ^ t.length:=eA _ (by omega);rw[gj,je] at hm;unfold Lib.compareInt;rw[ag (by omega),aj (by omega)]
   ·rw[ag F,ih]
    have e1:¬c.toNat<d.toNat:=E;have e2:¬d.toNat<c.toNat:=F;have:c.toNat=d.toNat:=by omega
    rw[this];generalize (d.toNat-48)*10 ^ t.length=K;unfold Lib.compareInt;by_cases T:(val t:Int)<val u
    ·have G:((K+val t:Nat):Int)<((K+val u:Nat):Int):=by omega
     simp only[T,G,dD]
    ·have G:¬((K+val t:Nat):Int)<((K+val u:Nat):Int):=by omega
     by_cases V:(val t:Int)>val u
     ·have U:((K+val t:Nat):Int)>((K+val u:Nat):Int):=by omega
      simp only[T,G,V,U,dD,fN]
     ·have U:¬((K+val t:Nat):Int)>((K+val u:Nat):Int):=by omega
      simp only[T,G,V,U,fN]
theorem PQ{l:List UInt8}(h:l.all dg=true)(F:¬(1<l.length/\l.head?=some 48))(E:1<l.length):10 ^ (l.length-1)<=val l:=by
 cases l with
 |nil=>simp at E
 |cons c t=>
  simp only[lJ,fC] at h;have G:=uu h.1;have:c≠48:=fun e=>F ⟨E,by simp[e]⟩
  have I:c.toNat≠48:=fun e=>this (UInt8.toNat.inj e)
  rw[sj];have hm:1*10 ^ t.length<=(c.toNat-48)*10 ^ t.length:=eA _ (by omega);simp only[bW,Nat.add_sub_cancel];omega
theorem vt{a b:List UInt8}(I:isNum a=true)(T:isNum b=true)(Y:a.length<b.length):val a<val b:=by
 obtain⟨_,E,O⟩:=(jT a).1 I;obtain⟨_,F,G⟩:=(jT b).1 T;have M:0<a.length:=gC.2 ((jT a).1 I).1;have U:=Bh a E;have V:=PQ F G (by omega);have:10 ^ a.length<=10 ^ (b.length-1):=Nat.pow_le_pow_right (by omega) (by omega);omega
def nZ(v w:List (List UInt8)×List (List UInt8)):Int:=
 if cmpL ku v.1 w.1=0 then
  (if decide (0<v.2.length)=decide (0<w.2.length) then cmpL iN v.2 w.2 else if 0<v.2.length then -1 else 1)
 else cmpL ku v.1 w.1
theorem dZ:∀(a b:List UInt8),(Lib.compareBytes a b=if a<b then -1 else if b<a then 1 else 0)
 |[],[]=>by simp[Lib.compareBytes]
 |[],_::_=>by simp[Lib.compareBytes]
 |_::_,[]=>by simp[Lib.compareBytes]
 |x::as,y::G=>by
  rw[Lib.compareBytes,dZ as G];by_cases h:x<y
  ·simp[h,List.cons_lt_cons_iff]
  ·by_cases E:y<x
   ·have F:x≠y:=fun e=>by subst e;exact h E
    simp[h,E,List.cons_lt_cons_iff,F]
   ·have e:x=y:=by
     have I:¬x.toNat<y.toNat:=h;have M:¬y.toNat<x.toNat:=E;exact UInt8.toNat.inj (by omega)
    subst e;simp
theorem J5{l:List UInt8}(h:isNum l=true):Lib.atoi l=some (val l:Int):=by
 obtain⟨O,E,_⟩:=(jT l).1 h
 have key:∀(l:List UInt8),l.all dg=true->∀F,Lib.decFrom F l=some (l.foldl (fun a c=>a*10+(c.toNat-48)) F):=by
  intro l
  induction l with
  |nil=>intro _ F;rfl
  |cons c t T=>
   intro h F;simp only[lJ,fC] at h;have G:=uu h.1;unfold Lib.decFrom;rw[show Lib.digitVal c=some (c.toNat-48) from by unfold Lib.digitVal;rw[aj G]];exact T h.2 _
 cases l with
 |nil=>simp at O
 |cons c t=>
  have G:=uu (by simp only[lJ,fC] at E;exact E.1);have M:¬c=45:=fun e=>by rw[e] at G;simp at G
  have I:¬c=43:=fun e=>by rw[e] at G;simp at G
  simp only[Lib.atoi];rw[ag (by simpa using M),ag (by simpa using I)];unfold Lib.decNat;rw[ag (by simp),key _ E]
  rfl
