import Derived.Lib.SplitLaws
import Derived.Lib.Atoi
import Derived.Lib.Small
set_option linter.all false
namespace Go.Proofs.YtooabooekgphpaaGreatDoor
set_option linter.defProp false
def af:=@Nat.le_refl
def ag:=@if_neg
def aV:=@List.getElem?_eq_getElem
def cV:=@congrArg
def aW:=@List.length_append
def aj:=@if_pos
def bE:=@Nat.lt_of_lt_of_le
def cW:=@List.length_map
def dv:=@List.getElem?_eq_some_iff
def bN:=@List.length_cons
def aL:=@Nat.zero_le
def aO:=@Nat.le_trans
def cq:=@List.mem_singleton
def bo:=@List.mem_cons_self
def cY:=@List.drop_eq_getElem_cons
def aP:=@List.mem_cons
def bH:=@List.mem_append
def aQ:=@decide_eq_false
def cr:=@List.mem_cons_of_mem
def bD:=@List.map_cons
def bI:=@List.mem_map
def bJ:=@getElem!_pos
def dP:=@List.getElem_mem
def eG:=@Nat.mul_le_mul_right
def dC:=@List.not_mem_nil
def bK:=@Option.some.inj
def fx:=@List.length_singleton
def bj:=@decide_eq_true
def bS:=@Nat.le_succ
def dY:=@Nat.not_lt_zero
def gU:=@List.mem_append_left
def dZ:=@List.append_assoc
def jS:=@List.pairwise_iff_getElem
def eZ:=@List.map_append
def ed:=@Bool.and_eq_true
def eH:=@List.cons.injEq
def eu:=@List.pairwise_cons
def gH:=@List.length_pos_iff
def cZ:=@Nat.zero_add
def gI:=@List.reverse_reverse
def iL:=@List.getElem?_eq_none
def fW:=@Bool.eq_iff_iff
def eI:=@beq_eq_false_iff_ne
def nE:=@List.take_succ_eq_append_getElem
def fc:=@List.mem_reverse
def il:=@List.all_eq_true
def gJ:=@of_decide_eq_true
def jv:=@List.flatMap_cons
def iM:=@List.filter_cons_of_pos
def qf:=@List.eq_nil_of_length_eq_zero
def iN:=@List.mem_of_getElem?
def jw:=@Bool.false_eq_true
def qg:=@List.takeWhile_append_dropWhile
def fY:=@List.map_nil
def im:=@List.append_nil
def iq:=@List.mem_range
def nG:=@Array.getElem?_eq_some_iff
def li:=@List.getElem?_map
def nH:=@Array.getElem?_eq_getElem
def iO:=@List.drop_of_length_le
def jT:=@List.length_nil
def jy:=@Nat.lt_succ_self
def eJ:=@Nat.add_mul
def jU:=@List.reverse_cons
def jV:=@List.filter_cons_of_neg
def jW:=@List.pairwise_append
def jX:=@List.singleton_append
def qh:=@List.mem_append_right
def vR:=@Array.getElem?_modify
def iP:=@Prod.mk.injEq
def jz:=@List.length_take
def jA:=@List.cons_append
def dD:=@if_true
def qj:=@List.findIdx?_eq_some_iff_getElem
def nI:=@List.ext_getElem?
def ql:=@Option.map_eq_some_iff
def fy:=@List.take_of_length_le
def sW:=@List.perm_append_singleton
def lY:=@List.getElem_of_mem
def lZ:=@Array.length_toList
def jY:=@List.foldl_cons
def vS:=@List.getElem?_append_left
def qo:=@List.findIdx?_eq_none_iff
def qq:=@Classical.byContradiction
def qu:=@Array.getElem?_toList
def nJ:=@Array.extract_size
def fH:=@if_false
def nK:=@decide_eq_true_eq
def nL:=@Nat.lt_succ_of_le
def sX:=@decide_eq_false_iff_not
def fe:=@and_true
def nO:=@List.flatMap_append
def jB:=@List.all_cons
def vT:=@List.take_length
def qx:=@List.getElem_map
def mf:=@of_decide_eq_false
def sY:=@List.getElem?_eq_none_iff
def nQ:=@List.nil_append
def nT:=@List.map_map
def mg:=@Option.some.injEq
def jI:=@List.foldl_append
def jJ:=@ByteArray.ext
def mh:=@List.reverse_append
def vJ:=@List.map_congr_left
def oT:=@Array.getElem?_push
def iV:=@List.Perm.refl
def my:=@Array.toList_inj
def iW:=@of_eq_false
def eV:=@Nat.one_mul
def rh:=@List.drop_eq_nil_of_le
def ez:=@Prod.ext
def iY:=@List.take_add_one
def mA:=@List.pairwise_map
def ru:=@List.nodup_append
abbrev zA:=ByteArray
end Go.Proofs.YtooabooekgphpaaGreatDoor
namespace Go.Proofs.YtooabooekgphpaaGreatDoor
namespace Pv
def dg(c:UInt8):Bool:=decide (48<=c)&&decide (c<=57)
def sm(c:UInt8):Bool:=decide (97<=c)&&decide (c<=122)
def gr(c:UInt8):Bool:=decide (65<=c)&&decide (c<=90)
def idb(c:UInt8):Bool:=sm c||dg c||gr c||c==45
def isNum(l:List UInt8):Bool:=l==[48]||(l !=[]&&l.head? !=some 48&&l.all dg)
def nA(l:List UInt8):Bool:=decide (l.length<1)||decide (8<l.length)||(if l.all dg then !isNum l else !l.all idb)
def spl(c:UInt8):List UInt8->List (List UInt8)
 |[]=>[[]]
 |b::l=>if b=c then []::spl c l else match spl c l with
  |[]=>[[b]]
  |p::ps=>(b::p)::ps
theorem AF(c:UInt8):∀l,spl c l≠[]
 |[]=>by simp[spl]
 |b::l=>by
  unfold spl
  split
  ·simp
  ·split<;>simp
theorem nU(c:UInt8):∀l,c∉l->spl c l=[l]
 |[],_=>rfl
 |b::l,h=>by
  have D:b≠c:=fun e=>h (by simp[e])
  have E:c∉l:=fun e=>h (by simp[e])
  unfold spl;rw[ag D,nU c l E]
theorem mB(c:UInt8):∀p q,c∉p->spl c (p++c::q)=p::spl c q
 |[],q,_=>by simp[spl]
 |b::l,q,h=>by
  have D:b≠c:=fun e=>h (by simp[e])
  have E:c∉l:=fun e=>h (by simp[e])
  rw[jA,spl,ag D,mB c l q E]
theorem occ_one(c:UInt8)(s:List UInt8)(i:Nat):Lib.occAt s [c] i=(s[i]?==some c):=by
 unfold Lib.occAt;by_cases h:i<s.length
 ·rw[cY h,aV h]
  simp only[List.isPrefixOf,Bool.and_true];by_cases e:c=s[i]
  ·simp[e]
  ·have D:¬s[i]=c:=fun x=>e x.symm
   rw[eI.2 e];simp[D]
 ·rw[iO (by omega),iL (by omega)]
  rfl
theorem index_one(c:UInt8)(s:List UInt8):(Lib.index s [c]=-1/\c∉s)\/∃p q,s=p++c::q/\c∉p/\Lib.index s [c]=(p.length:Int):=by
 rcases Lib.index_spec s [c] with⟨h,U⟩|⟨i,O,S,I,M⟩
 ·left
  refine⟨h,fun hm=>?_⟩;obtain⟨j,D,e⟩:=lY hm;have:=U j (by omega);rw[occ_one,aV D,e] at this;simp at this
 ·right
  rw[occ_one] at I;have F:s[i]?=some c:=by simpa using I
  obtain⟨T,e⟩:=dv.1 F;refine⟨s.take i,s.drop (i+1),?_,?_,?_⟩
  ·rw[<-e,List.getElem_cons_drop,List.take_append_drop]
  ·intro hm
   obtain⟨j,D,G⟩:=lY hm;have E:j<i:=by simp at D;omega
   have:=M j E;rw[occ_one] at this;rw[List.getElem_take] at G;rw[aV (by omega),G] at this;simp at this
  ·rw[jz,Nat.min_eq_left (by omega)];exact O
theorem qy(c:UInt8):∀(k:Nat)(s:List UInt8),s.count c<=k->Lib.splitK [c] 0 k s=spl c s
 |0,s,h=>by
  have:c∉s:=fun hm=>by have:=List.count_pos_iff.2 hm;omega
  rw[nU c s this];rfl
 |k+1,s,h=>by
  unfold Lib.splitK;rcases index_one c s with⟨e,hm⟩|⟨p,q,rfl,D,e⟩
  ·rw[e,nU c s hm];rfl
  ·rw[e,ag (by simp),mB c p q D]
   have E:(p++c::q).count c=q.count c+1:=by
    rw[List.count_append,List.count_cons_self,List.count_eq_zero.2 D];omega
   congr 1
   ·simp
   ·rw[<-qy c k q (by omega)]
    congr 1
    simp
theorem mC(s sep:zA)(c:UInt8)(D:sep.data.toList=[c]):(Lib.splitB sep 0 (Lib.countB s sep) s).map (·.data.toList)=spl c s.data.toList:=by
 rw[Lib.splitB_data,D];apply qy;rw[<-Lib.count_one,<-D];exact af _
def eW(c:UInt8):List UInt8->List UInt8×Option (List UInt8)
 |[]=>([],none)
 |b::l=>if b=c then ([],some l) else (b::(eW c l).1,(eW c l).2)
theorem sZ(c:UInt8):∀l,c∉l->eW c l=(l,none)
 |[],_=>rfl
 |b::l,h=>by
  have D:b≠c:=fun e=>h (by simp[e])
  have E:c∉l:=fun e=>h (by simp[e])
  unfold eW;rw[ag D,sZ c l E]
theorem vU(c:UInt8):∀p q,c∉p->eW c (p++c::q)=(p,some q)
 |[],q,_=>by simp[eW]
 |b::l,q,h=>by
  have D:b≠c:=fun e=>h (by simp[e])
  have E:c∉l:=fun e=>h (by simp[e])
  rw[jA,eW,ag D,vU c l q E]
theorem BR(c:UInt8)(s:List UInt8):Lib.cut s [c]=((eW c s).1,(eW c s).2.getD [],(eW c s).2.isSome):=by
 unfold Lib.cut;rcases index_one c s with⟨e,hm⟩|⟨p,q,rfl,D,e⟩
 ·rw[e,sZ c s hm];rfl
 ·rw[e,vU c p q D,aj (by omega)]
  simp
def val(l:List UInt8):Nat:=l.foldl (fun a c=>a*10+(c.toNat-48)) 0
def ry(p:List UInt8):Bool:=decide (p.length<=6)&&isNum p
def lj(D:List UInt8):Option (List (List UInt8)):=if (spl 46 D).length=3/\(spl 46 D).all ry=true then some (spl 46 D) else none
def AG(b:List UInt8):Option (List (List UInt8)):=if (spl 46 b).length<=4/\(spl 46 b).any nA=false then some (spl 46 b) else none
def parse(l:List UInt8):Option (List (List UInt8)×List (List UInt8)):=
 if l.head?=some 118/\l.length<=40 then
  match lj (eW 45 l.tail).1 with
  |none=>none
  |some D=>match (eW 45 l.tail).2 with
   |none=>some (D,[])
   |some b=>(AG b).map fun i=>(D,i)
 else none
theorem jO(p:List UInt8):isNum p=true↔(p≠[]/\p.all dg=true/\¬(1<p.length/\p.head?=some 48)):=by
 unfold isNum;cases p with
 |nil=>simp
 |cons c t=>
  cases t with
  |nil=>
   by_cases h:c=48
   ·subst h;simp[dg]
   ·simp[h]
  |cons d u=>simp[and_comm]
theorem td(c:UInt8):∀l,l=(eW c l).1++(match (eW c l).2 with|none=>[]|some b=>c::b)
 |[]=>rfl
 |b::u=>by
  unfold eW
  split
  ·rename_i e;simp[e]
  ·have:=td c u
   simp only[jA];exact cV (b::·) this
def iJ(a b:List UInt8):Int:=if isNum a&&isNum b then Lib.compareInt (val a) (val b) else if isNum a then -1 else if isNum b then 1 else Lib.compareBytes a b
def cmpL(f:List UInt8->List UInt8->Int):List (List UInt8)->List (List UInt8)->Int
 |[],[]=>0
 |[],_::_=>-1
 |_::_,[]=>1
 |a::as,b::D=>if f a b=0 then cmpL f as D else f a b
def jZ(a b:List UInt8):Int:=Lib.compareInt (val a) (val b)
theorem AH(l:List UInt8):∀a:Nat,l.foldl (fun a c=>a*10+(c.toNat-48)) a=a*10 ^ l.length+val l:=by
 induction l with
 |nil=>intro a;simp[val]
 |cons c t D=>
  intro a;have E:val (c::t)=(0*10+(c.toNat-48))*10 ^ t.length+val t:=D _;rw[jY,D,E];rw[bN,Nat.pow_succ];rw[eJ,Nat.zero_mul,cZ];have:a*10*10 ^ t.length=a*(10 ^ t.length*10):=by rw[Nat.mul_assoc,Nat.mul_comm 10]
  omega
theorem rz(c:UInt8)(t:List UInt8):val (c::t)=(c.toNat-48)*10 ^ t.length+val t:=by
 unfold val;rw[jY,AH];simp[val]
theorem tj{c:UInt8}(h:dg c=true):48<=c.toNat/\c.toNat<=57:=by
 unfold dg at h;simp only[ed,nK,UInt8.le_iff_toNat_le] at h;exact h
theorem AJ:∀(l:List UInt8),l.all dg=true->val l<10 ^ l.length
 |[],_=>by simp[val]
 |c::t,h=>by
  simp only[jB,ed] at h;have D:=tj h.1;have E:=AJ t h.2;rw[rz,bN,Nat.pow_succ];have:(c.toNat-48)*10 ^ t.length<=9*10 ^ t.length:=eG _ (by omega);omega
theorem nk:∀(a b:List UInt8),a.all dg=true->b.all dg=true->a.length=b.length->Lib.compareBytes a b=Lib.compareInt (val a) (val b)
 |[],[],_,_,_=>rfl
 |[],_::_,_,_,h=>by simp at h
 |_::_,[],_,_,h=>by simp at h
 |c::t,d::u,G,I,M=>by
  simp only[jB,ed] at G I;have hc:=tj G.1;have hd:=tj I.1;have ht:=AJ t G.2;have V:=AJ u I.2;simp only[bN,Nat.add_right_cancel_iff] at M;have W:=nk t u G.2 I.2 M;rw[Lib.compareBytes,rz,rz,<-M];rw[<-M] at V;have U:0<10 ^ t.length:=Nat.pow_pos (by omega);by_cases D:c<d
  ·rw[aj D]
   have:c.toNat<d.toNat:=D;have hm:(c.toNat-48+1)*10 ^ t.length<=(d.toNat-48)*10 ^ t.length:=eG _ (by omega);rw[eJ,eV] at hm;unfold Lib.compareInt;rw[aj (by omega)]
  ·rw[ag D]
   by_cases E:d<c
   ·rw[aj E]
    have:d.toNat<c.toNat:=E;have hm:(d.toNat-48+1)*10 ^ t.length<=(c.toNat-48)*10 ^ t.length:=eG _ (by omega);rw[eJ,eV] at hm;unfold Lib.compareInt;rw[ag (by omega),aj (by omega)]
   ·rw[ag E,W]
    have Y:¬c.toNat<d.toNat:=D;have e2:¬d.toNat<c.toNat:=E;have:c.toNat=d.toNat:=by omega
    rw[this];generalize (d.toNat-48)*10 ^ t.length=K;unfold Lib.compareInt;by_cases O:(val t:Int)<val u
    ·have F:((K+val t:Nat):Int)<((K+val u:Nat):Int):=by omega
     simp only[O,F,dD]
    ·have F:¬((K+val t:Nat):Int)<((K+val u:Nat):Int):=by omega
     by_cases T:(val t:Int)>val u
     ·have S:((K+val t:Nat):Int)>((K+val u:Nat):Int):=by omega
      simp only[O,F,T,S,dD,fH]
     ·have S:¬((K+val t:Nat):Int)>((K+val u:Nat):Int):=by omega
      simp only[O,F,T,S,fH]
theorem OJ{l:List UInt8}(h:l.all dg=true)(E:¬(1<l.length/\l.head?=some 48))(D:1<l.length):10 ^ (l.length-1)<=val l:=by
 cases l with
 |nil=>simp at D
 |cons c t=>
  simp only[jB,ed] at h;have F:=tj h.1;have:c≠48:=fun e=>E ⟨D,by simp[e]⟩
  have G:c.toNat≠48:=fun e=>this (UInt8.toNat.inj e)
  rw[rz];have hm:1*10 ^ t.length<=(c.toNat-48)*10 ^ t.length:=eG _ (by omega);simp only[bN,Nat.add_sub_cancel];omega
theorem uF{a b:List UInt8}(G:isNum a=true)(O:isNum b=true)(U:a.length<b.length):val a<val b:=by
 obtain⟨_,D,M⟩:=(jO a).1 G;obtain⟨_,E,F⟩:=(jO b).1 O;have I:0<a.length:=gH.2 ((jO a).1 G).1;have S:=AJ a D;have T:=OJ E F (by omega);have:10 ^ a.length<=10 ^ (b.length-1):=Nat.pow_le_pow_right (by omega) (by omega);omega
def nB(v w:List (List UInt8)×List (List UInt8)):Int:=
 if cmpL jZ v.1 w.1=0 then
  (if decide (0<v.2.length)=decide (0<w.2.length) then cmpL iJ v.2 w.2 else if 0<v.2.length then -1 else 1)
 else cmpL jZ v.1 w.1
theorem dW:∀(a b:List UInt8),(Lib.compareBytes a b=if a<b then -1 else if b<a then 1 else 0)
 |[],[]=>by simp[Lib.compareBytes]
 |[],_::_=>by simp[Lib.compareBytes]
 |_::_,[]=>by simp[Lib.compareBytes]
 |x::as,y::F=>by
  rw[Lib.compareBytes,dW as F];by_cases h:x<y
  ·simp[h,List.cons_lt_cons_iff]
  ·by_cases D:y<x
   ·have E:x≠y:=fun e=>by subst e;exact h D
    simp[h,D,List.cons_lt_cons_iff,E]
   ·have e:x=y:=by
     have G:¬x.toNat<y.toNat:=h;have I:¬y.toNat<x.toNat:=D;exact UInt8.toNat.inj (by omega)
    subst e;simp
theorem JB{l:List UInt8}(h:isNum l=true):Lib.atoi l=some (val l:Int):=by
 obtain⟨M,D,_⟩:=(jO l).1 h
 have key:∀(l:List UInt8),l.all dg=true->∀E,Lib.decFrom E l=some (l.foldl (fun a c=>a*10+(c.toNat-48)) E):=by
  intro l
  induction l with
  |nil=>intro _ E;rfl
  |cons c t O=>
   intro h E;simp only[jB,ed] at h;have F:=tj h.1;unfold Lib.decFrom;rw[show Lib.digitVal c=some (c.toNat-48) from by unfold Lib.digitVal;rw[aj F]];exact O h.2 _
 cases l with
 |nil=>simp at M
 |cons c t=>
  have F:=tj (by simp only[jB,ed] at D;exact D.1);have I:¬c=45:=fun e=>by rw[e] at F;simp at F
  have G:¬c=43:=fun e=>by rw[e] at F;simp at F
  simp only[Lib.atoi];rw[ag (by simpa using I),ag (by simpa using G)];unfold Lib.decNat;rw[ag (by simp),key _ D]
  rfl
