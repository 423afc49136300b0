import Derived.Test.YtooabooekgphpaaGreatDoorKWA
set_option linter.all false
namespace Go.Proofs.YtooabooekgphpaaGreatDoor
namespace Pv
structure Cmp{α:Type}(p:α->Prop)(f:α->α->Int):Prop where
 anti:∀a b,p a->p b->f b a=- f a b
 zero:∀a b,p a->p b->f a b=0->a=b
 trans:∀a b c,p a->p b->p c->f a b<=0->f b c<=0->f a c<=0
theorem Cmp.self{α:Type}{p:α->Prop}{f:α->α->Int}(h:Cmp p f){a:α}(D:p a):f a a=0:=by
 have:=h.anti a a D D;omega
theorem Cmp.lt_trans{α:Type}{p:α->Prop}{f:α->α->Int}(h:Cmp p f){a b c:α}(E:p a)(F:p b)(M:p c)(S:f a b<0)(T:f b c<0):f a c<0:=by
 have O:=h.trans a b c E F M (by omega) (by omega);rcases Int.lt_or_eq_of_le O with D|D
 ·exact D
 ·have e:=h.zero a c E M D
  subst e;have:=h.anti a b E F;omega
theorem Cmp.list{p:List UInt8->Prop}{f:List UInt8->List UInt8->Int}(h:Cmp p f):Cmp (fun l:List (List UInt8)=>∀x∈l,p x) (cmpL f):=by
 refine⟨?_,?_,?_⟩
 ·intro a
  induction a with
  |nil=>intro b _ _;cases b<;>simp[cmpL]
  |cons x xs ih=>
   intro b F M;cases b with
   |nil=>simp[cmpL]
   |cons y O=>
    have Y:=F x (by simp);have hy:=M y (by simp);have T:∀z∈xs,p z:=fun z D=>F z (by simp[D])
    have U:∀z∈O,p z:=fun z D=>M z (by simp[D])
    have a2:=h.anti x y Y hy;by_cases e:f x y=0
    ·have e':f y x=0:=by omega
     rw[cmpL,cmpL,aj e,aj e'];exact ih O T U
    ·have e':¬f y x=0:=by omega
     rw[cmpL,cmpL,ag e,ag e'];exact a2
 ·intro a
  induction a with
  |nil=>intro b _ _ E;cases b with
   |nil=>rfl
   |cons y O=>simp[cmpL] at E
  |cons x xs ih=>
   intro b F M E;cases b with
   |nil=>simp[cmpL] at E
   |cons y O=>
    have Y:=F x (by simp);have hy:=M y (by simp);have T:∀z∈xs,p z:=fun z D=>F z (by simp[D])
    have U:∀z∈O,p z:=fun z D=>M z (by simp[D])
    rw[cmpL] at E;by_cases e:f x y=0
    ·rw[aj e] at E
     rw[h.zero x y Y hy e,ih O T U E]
    ·rw[ag e] at E;exact absurd E e
 ·intro a
  induction a with
  |nil=>intro b c _ _ _ _ _;cases c<;>simp[cmpL]
  |cons x xs ih=>
   intro b c F M hc V S;cases b with
   |nil=>simp[cmpL] at V
   |cons y O=>
    cases c with
    |nil=>simp[cmpL] at S
    |cons z zs=>
     have Y:=F x (by simp);have hy:=M y (by simp);have D:=hc z (by simp);rw[cmpL] at V S ⊢;by_cases e1:f x y=0
     ·have a0:=h.zero x y Y hy e1
      subst a0;rw[aj e1] at V;by_cases e2:f x z=0
      ·rw[aj e2] at S ⊢
       exact ih O zs (fun u hu=>F u (by simp[hu])) (fun u hu=>M u (by simp[hu])) (fun u hu=>hc u (by simp[hu])) V S
      ·rw[ag e2] at S ⊢;exact S
     ·rw[ag e1] at V
      by_cases e2:f y z=0
      ·have a1:=h.zero y z hy D e2
       subst a1;rw[ag e1];exact V
      ·rw[ag e2] at S
       have h3:=h.lt_trans Y hy D (by omega) (by omega);rw[ag (by omega)];omega
theorem mJ:Cmp (fun _:Int=>True) Lib.compareInt:=by
 refine⟨fun a b _ _=>?_,fun a b _ _ h=>?_,fun a b c _ _ _ D E=>?_⟩
 ·unfold Lib.compareInt;split<;>split<;>(try split)<;>omega
 ·unfold Lib.compareInt at h;split at h<;>(try split at h)<;>omega
 ·unfold Lib.compareInt at D E ⊢;split at D<;>split at E<;>(try split at D)<;>(try split at E)<;>split<;>(try split)<;>omega
theorem lt_irrefl(a:List UInt8):¬a<a:=by
 induction a with
 |nil=>simp
 |cons x xs D=>
  rw[List.cons_lt_cons_iff];rintro(h|⟨_,h⟩)
  ·exact absurd h (UInt8.lt_irrefl x)
  ·exact D h
theorem mK(a b:List UInt8):(Lib.compareBytes a b=-1/\a<b)\/(Lib.compareBytes a b=1/\b<a)\/(Lib.compareBytes a b=0/\¬a<b/\¬b<a):=by
 rw[dW];by_cases h:a<b
 ·rw[aj h];exact Or.inl ⟨rfl,h⟩
 ·rw[ag h]
  by_cases D:b<a
  ·rw[aj D];exact Or.inr (Or.inl ⟨rfl,D⟩)
  ·rw[ag D];exact Or.inr (Or.inr ⟨rfl,h,D⟩)
theorem zt{a b c:List UInt8}(h:a<b)(k:b<c):a<c:=List.lt_trans h k
theorem G8{a b:List UInt8}(h:a<b):¬b<a:=fun k=>lt_irrefl a (zt h k)
theorem rP:∀(a b:List UInt8),¬a<b->¬b<a->a=b
 |[],[],_,_=>rfl
 |[],y::D,h,_=>absurd (by simp) h
 |x::xs,[],_,h=>absurd (by simp) h
 |x::xs,y::D,h,k=>by
  rw[List.cons_lt_cons_iff] at h k
  have e:x=y:=by
   have E:¬x.toNat<y.toNat:=fun e=>h (Or.inl e)
   have F:¬y.toNat<x.toNat:=fun e=>k (Or.inl e)
   exact UInt8.toNat.inj (by omega)
  subst e;rw[rP xs D (fun e=>h (Or.inr ⟨rfl,e⟩)) (fun e=>k (Or.inr ⟨rfl,e⟩))]
theorem ie:Cmp (fun _:List UInt8=>True) Lib.compareBytes:=by
 refine⟨fun a b _ _=>?_,fun a b _ _ h=>?_,fun a b c _ _ _ O S=>?_⟩
 ·rcases mK a b with⟨e,h⟩|⟨e,h⟩|⟨e,h,k⟩
  ·rw[e,dW,ag (G8 h),aj h];rfl
  ·rw[e,dW,aj h]
  ·rw[e,dW,ag k,ag h];rfl
 ·rcases mK a b with⟨e,_⟩|⟨e,_⟩|⟨_,D,k⟩
  ·rw[h] at e;exact absurd e (by decide)
  ·rw[h] at e;exact absurd e (by decide)
  ·exact rP a b D k
 ·have E:a=b\/a<b:=by
   rcases mK a b with⟨_,h⟩|⟨e,_⟩|⟨_,D,k⟩
   ·exact Or.inr h
   ·rw[e] at O;exact absurd O (by decide)
   ·exact Or.inl (rP a b D k)
  have F:b=c\/b<c:=by
   rcases mK b c with⟨_,h⟩|⟨e,_⟩|⟨_,D,k⟩
   ·exact Or.inr h
   ·rw[e] at S;exact absurd S (by decide)
   ·exact Or.inl (rP b c D k)
  have M:a=c\/a<c:=by
   rcases E with rfl|E
   ·exact F
   ·rcases F with rfl|F
    ·exact Or.inr E
    ·exact Or.inr (zt E F)
  rcases M with rfl|M
  ·rw[dW,ag (lt_irrefl a),ag (lt_irrefl a)];decide
  ·rw[dW,aj M];decide
theorem val_inj{a b:List UInt8}(F:isNum a=true)(O:isNum b=true)(h:val a=val b):a=b:=by
 rcases Nat.lt_trichotomy a.length b.length with D|D|D
 ·have:=uF F O D;omega
 ·have M:=((jO a).1 F).2.1
  have S:=((jO b).1 O).2.1;have E:=nk a b M S D;rw[h] at E;have T:Lib.compareInt (val b) (val b)=0:=mJ.self trivial;rw[T] at E;exact ie.zero a b trivial trivial E
 ·have:=uF O F D;omega
theorem vL:Cmp (fun a:List UInt8=>isNum a=true) jZ:=by
 refine⟨fun a b _ _=>mJ.anti _ _ trivial trivial,fun a b F M h=>?_,fun a b c _ _ _ D E=>mJ.trans _ _ _ trivial trivial trivial D E⟩;have:=mJ.zero _ _ trivial trivial h;exact val_inj F M (by omega)
theorem kX(a b:List UInt8):iJ a b=if isNum a=true then (if isNum b=true then jZ a b else -1) else (if isNum b=true then 1 else Lib.compareBytes a b):=by
 unfold iJ jZ;cases isNum a<;>cases isNum b<;>simp
theorem Pe:Cmp (fun _:List UInt8=>True) iJ:=by
 refine⟨fun a b _ _=>?_,fun a b _ _ h=>?_,fun a b c _ _ _ F M=>?_⟩
 ·rw[kX,kX]
  by_cases D:isNum a=true<;>by_cases E:isNum b=true<;>simp only[D,E,dD,jw,fH]
  all_goals first|rfl|exact vL.anti a b D E|exact ie.anti a b trivial trivial
 ·rw[kX] at h
  by_cases D:isNum a=true<;>by_cases E:isNum b=true<;>simp only[D,E,dD,jw,fH] at h
  ·exact vL.zero a b D E h
  ·exact absurd h (by decide)
  ·exact absurd h (by decide)
  ·exact ie.zero a b trivial trivial h
 ·rw[kX] at F M ⊢
  by_cases D:isNum a=true<;>by_cases E:isNum b=true<;>by_cases O:isNum c=true<;>simp only[D,E,O,dD,jw,fH] at F M ⊢
  ·exact vL.trans a b c D E O F M
  ·decide
  ·exact absurd M (by decide)
  ·decide
  ·exact absurd F (by decide)
  ·exact absurd F (by decide)
  ·exact absurd M (by decide)
  ·exact ie.trans a b c trivial trivial trivial F M
def EJ(v w:List (List UInt8)):Int:=if decide (0<v.length)=decide (0<w.length) then cmpL iJ v w else if 0<v.length then -1 else 1
theorem J3:Cmp (fun _:List (List UInt8)=>True) EJ:=by
 have T:=Pe.list;have D:∀l:List (List UInt8),∀x∈l,True:=fun _ _ _=>trivial
 have S:∀v w:List (List UInt8),EJ v w=if v=[] then (if w=[] then 0 else 1) else (if w=[] then -1 else cmpL iJ v w):=by
  intro v w;cases v<;>cases w<;>simp[EJ,cmpL]
 refine⟨fun a b _ _=>?_,fun a b _ _ h=>?_,fun a b c _ _ _ M O=>?_⟩
 ·rw[S,S]
  by_cases E:a=[]<;>by_cases F:b=[]<;>simp only[E,F,dD,fH]
  all_goals first|rfl|exact T.anti a b (D a) (D b)
 ·rw[S] at h
  by_cases E:a=[]<;>by_cases F:b=[]<;>simp only[E,F,dD,fH] at h
  ·rw[E,F]
  ·exact absurd h (by decide)
  ·exact absurd h (by decide)
  ·exact T.zero a b (D a) (D b) h
 ·rw[S] at M O ⊢
  by_cases E:a=[]<;>by_cases F:b=[]<;>by_cases U:c=[]<;>simp only[E,F,U,dD,fH] at M O ⊢
  ·decide
  ·exact absurd O (by decide)
  ·exact absurd M (by decide)
  ·exact absurd M (by decide)
  ·decide
  ·exact absurd O (by decide)
  ·decide
  ·exact T.trans a b c (D a) (D b) (D c) M O
theorem zu:Cmp (fun v:List (List UInt8)×List (List UInt8)=>∀x∈v.1,isNum x=true) nB:=by
 have S:=vL.list;have T:∀v w,nB v w=if cmpL jZ v.1 w.1=0 then EJ v.2 w.2 else cmpL jZ v.1 w.1:=fun v w=>rfl
 refine⟨fun a b M E=>?_,fun a b M E h=>?_,fun a b c M E V D F=>?_⟩
 ·have D:=S.anti a.1 b.1 M E
  rw[T,T];by_cases e:cmpL jZ a.1 b.1=0
  ·rw[aj e,aj (by omega)];exact J3.anti _ _ trivial trivial
  ·rw[ag e,ag (by omega)];exact D
 ·rw[T] at h
  by_cases e:cmpL jZ a.1 b.1=0
  ·rw[aj e] at h
   exact ez (S.zero _ _ M E e) (J3.zero _ _ trivial trivial h)
  ·rw[ag e] at h;exact absurd h e
 ·rw[T] at D F ⊢
  by_cases U:cmpL jZ a.1 b.1=0
  ·have e:=S.zero _ _ M E U
   rw[aj U] at D;rw[e];by_cases O:cmpL jZ b.1 c.1=0
   ·rw[aj O] at F ⊢
    exact J3.trans _ _ _ trivial trivial trivial D F
   ·rw[ag O] at F ⊢;exact F
  ·rw[ag U] at D
   by_cases O:cmpL jZ b.1 c.1=0
   ·have e:=S.zero _ _ E V O
    rw[<-e,ag U];exact D
   ·rw[ag O] at F
    have Y:=S.lt_trans M E V (by omega) (by omega);rw[ag (by omega)];omega
def uK(c:UInt8):List (List UInt8)->List UInt8
 |[]=>[]
 |[p]=>p
 |p::q::ps=>p++c::uK c (q::ps)
theorem tL(c:UInt8):∀l,uK c (spl c l)=l
 |[]=>rfl
 |b::l=>by
  have D:=tL c l;have E:=AF c l;unfold spl;by_cases F:b=c
  ·rw[aj F]
   cases h:spl c l with
   |nil=>exact absurd h E
   |cons p ps=>rw[h] at D;rw[uK,D,F];rfl
  ·rw[ag F]
   cases h:spl c l with
   |nil=>exact absurd h E
   |cons p ps=>
    rw[h] at D;cases ps with
    |nil=>simp only[uK] at D ⊢;rw[D]
    |cons q M=>simp only[uK] at D ⊢;rw[<-D];rfl
theorem fg{l:List UInt8}{v:List (List UInt8)×List (List UInt8)}(h:parse l=some v):l=118::(uK 46 v.1++(if v.2=[] then [] else 45::uK 46 v.2))/\∀x∈v.1,isNum x=true:=by
 unfold parse at h
 split at h
 ·rename_i S
  have hl:l=118::l.tail:=by
   cases l with
   |nil=>simp at S
   |cons a t=>simp at S;rw[S.1];rfl
  have F:=td 45 l.tail
  split at h
  ·simp at h
  ·rename_i E D
   unfold lj at D
   split at D
   ·rename_i hn
    have U:spl 46 (eW 45 l.tail).1=E:=by injection D
    have V:uK 46 E=(eW 45 l.tail).1:=by rw[<-U,tL]
    have Y:∀x∈E,isNum x=true:=fun x hx=>by
     rw[<-U] at hx;have M:=il.1 hn.2 x hx;unfold ry at M;simp only[ed] at M;exact M.2
    split at h
    ·rename_i O
     rw[O] at F;have T:v=(E,[]):=by injection h with h;exact h.symm
     subst T;refine⟨?_,Y⟩;rw[hl,aj rfl,V]
     conv=>lhs;rw[F]
    ·rename_i b O
     rw[O] at F;unfold AG at h
     split at h
     ·have T:v=(E,spl 46 b):=by simp at h;exact h.symm
      subst T;refine⟨?_,Y⟩;rw[ag (AF 46 b),V,tL]
      conv=>lhs;rw[hl,F]
     ·simp at h
   ·simp at D
 ·simp at h
theorem zv{a b:List UInt8}{v:List (List UInt8)×List (List UInt8)}(D:parse a=some v)(E:parse b=some v):a=b:=by
 rw[(fg D).1,(fg E).1]
end Pv
section
open Go.Sort
namespace Ss
theorem ny{β:Type}(f:Nat->β)(a n k:Nat):(List.range' a (n+k)).map f=(List.range' a n).map f++(List.range' (a+n) k).map f:=by
 rw[<-eZ];have h:=List.range'_append (s:=a) (m:=n) (n:=k) (step:=1);rw[eV] at h;rw[h]
variable{α:Type}[Inhabited α]
def qH(a b n:Nat)(d e:Array α):Prop:=e.size=d.size/\∀p,e[p]! =if a<=p/\p<a+n then d[p-a+b]! else if b<=p/\p<b+n then d[p-b+a]! else d[p]!
theorem qH.zero(a b:Nat)(d:Array α):qH a b 0 d d:=⟨rfl,fun p=>by rw[ag (by omega),ag (by omega)]⟩
theorem qH.step{a b n:Nat}{d e:Array α}(h:qH a b n d e)(hd:a+n<b\/b+n<a)(D:a+n<d.size)(E:b+n<d.size):qH a b (n+1) d (swp e (a+n) (b+n)):=by
 refine⟨by rw[swp_size];exact h.1,fun p=>?_⟩;rw[swp_get e (by rw[h.1];exact D) (by rw[h.1];exact E) p];simp only[h.2]
 repeat' split
 all_goals first
  |omega
  |rfl
  |(congr 1;omega)
def Rot(a m b:Nat)(d e:Array α):Prop:=e.size=d.size/\∀p,e[p]! =if a<=p/\p<a+(b-m) then d[p-a+m]! else if a+(b-m)<=p/\p<b then d[p-(b-m)]! else d[p]!
theorem J4{m i:Nat}{d e:Array α}(D:i<=m)(h:qH (m-i) m i d e):Rot (m-i) m (m+i) d e:=by
 refine⟨h.1,fun p=>?_⟩;simp only[h.2]
 repeat' split
 all_goals first
  |omega
  |rfl
  |(congr 1;omega)
theorem J5{m i j:Nat}{d e f:Array α}(F:i<=m)(E:j<i)(h:qH (m-i) m j d e)(D:Rot (m-(i-j)) m (m+j) e f):Rot (m-i) m (m+j) d f:=by
 refine⟨D.1.trans h.1,fun p=>?_⟩;simp only[D.2,h.2]
 repeat' split
 all_goals first
  |omega
  |rfl
  |(congr 1;omega)
theorem Ha{m i j:Nat}{d e f:Array α}(F:i<=m)(E:i<j)(h:qH (m-i) (m+j-i) i d e)(D:Rot (m-i) m (m+(j-i)) e f):Rot (m-i) m (m+j) d f:=by
 refine⟨D.1.trans h.1,fun p=>?_⟩;simp only[D.2,h.2]
 repeat' split
 all_goals first
  |omega
  |rfl
  |(congr 1;omega)
theorem Rot.perm{a m b:Nat}{d e:Array α}(h:Rot a m b d e)(D:a<=m)(E:m<=b)(F:b<=d.size):PermIn a b d e:=by
 refine⟨h.1,fun i V=>by rw[h.2,ag (by omega),ag (by omega)],?_⟩;rw[extract_toList d a b F,extract_toList e a b (by rw[h.1];exact F)];have M:b-a=(b-m)+(m-a):=by omega
 have O:b-a=(m-a)+(b-m):=by omega
 have T:(List.range' a (b-m)).map (fun i=>e[i]!)=(List.range' m (b-m)).map (fun i=>d[i]!):=by
  apply List.ext_getElem
  ·simp
  ·intro n D E
   simp only[qx,List.getElem_range',eV];simp at D;rw[h.2,aj (by omega)]
   congr 1;omega
 have U:(List.range' (a+(b-m)) (m-a)).map (fun i=>e[i]!)=(List.range' a (m-a)).map (fun i=>d[i]!):=by
  apply List.ext_getElem
  ·simp
  ·intro n D E
   simp only[qx,List.getElem_range',eV];simp at D;rw[h.2,ag (by omega),aj (by omega)]
   congr 1;omega
 conv=>lhs;rw[M,ny,T,U]
 conv=>rhs;rw[O,ny]
 have S:a+(m-a)=m:=by omega
 rw[S];exact List.perm_append_comm
end Ss
end
section
open Go.Sort
namespace Ss
section
variable{α:Type}{lt:α->α->Bool}{tag:α->Nat}
def rl(lt:α->α->Bool)(tag:α->Nat)(x y:α):Bool:=lt x y||(!lt y x&&decide (tag x<tag y))
theorem cG(x y:α):rl lt tag x y=false↔lt x y=false/\(lt y x=true\/tag y<=tag x):=by
 unfold rl;cases h1:lt x y<;>cases h2:lt y x<;>simp
theorem M6(x y:α):rl lt tag x y=true↔lt x y=true\/(lt y x=false/\tag x<tag y):=by
 unfold rl;cases h1:lt x y<;>cases h2:lt y x<;>simp
theorem fR(h:SWO lt){x y z:α}(D:lt x y=true)(E:lt z y=false):lt x z=true:=by
 cases h3:lt x z
 ·rw[h.ntrans x z y h3 E] at D;cases D
 ·rfl
theorem fS(h:SWO lt){x y z:α}(E:lt y x=false)(D:lt y z=true):lt x z=true:=by
 cases h3:lt x z
 ·rw[h.ntrans y x z E h3] at D;cases D
 ·rfl
theorem J6(h:SWO lt):SWO (rl lt tag) where
 irrefl x:=by rw[cG];exact⟨h.irrefl x,Or.inr (af _)⟩
 trans x y z h1 h2:=by
  rw[M6] at*;rcases h1 with a|⟨E,M⟩
  ·rcases h2 with b|⟨D,F⟩
   ·exact Or.inl (h.trans x y z a b)
   ·exact Or.inl (fR h a D)
  ·rcases h2 with b|⟨D,F⟩
   ·exact Or.inl (fS h E b)
   ·exact Or.inr ⟨h.ntrans z y x D E,by omega⟩
 ntrans x y z h1 h2:=by
  rw[cG] at*;obtain⟨E,M⟩:=h1;obtain⟨D,F⟩:=h2;refine⟨h.ntrans x y z E D,?_⟩;rcases M with a|a
  ·exact Or.inl (fS h D a)
  ·rcases F with b|b
   ·exact Or.inl (fR h b E)
   ·exact Or.inr (by omega)
end
variable{α:Type}[Inhabited α]{lt:α->α->Bool}{tag:α->Nat}
def eO(tag:α->Nat)(a b:Nat)(d:Array α):Prop:=∀i j,a<=i->i<j->j<b->tag d[i]! < tag d[j]!
theorem uL(a:Nat):∀(j:Nat)(d:Array α),(∀p,a<=p->p<j->tag d[p]! < tag d[j]!)->j<d.size->insInner lt a j d=insInner (rl lt tag) a j d
 |0,d,_,_=>rfl
 |j+1,d,h,D=>by
  unfold insInner;by_cases F:j+1>a
  ·have e:rl lt tag d[j+1]! d[j]! =lt d[j+1]! d[j]!:=by
    have S:=h j (by omega) (by omega);unfold rl;have E:decide (tag d[j+1]! < tag d[j]!)=false:=aQ (by omega);rw[E];simp
   rw[e]
   have O:=uL a j (swp d (j+1) j) (fun p M T=>by
    rw[swp_get d D (by omega),swp_get d D (by omega),ag (by omega),ag (by omega),aj rfl];exact h p M (by omega)) (by rw[swp_size];omega)
   rw[O]
  ·have:decide (j+1>a)=false:=aQ F
   rw[this];simp
theorem J7(M:SWO lt)(a i:Nat)(d:Array α)(O:a<=i)(T:i+1<=d.size)(F:SortedIn (rl lt tag) a i d):PermIn a (i+1) d (insInner (rl lt tag) a i d)/\SortedIn (rl lt tag) a (i+1) (insInner (rl lt tag) a i d):=
 insInner_spec (J6 M) swp_permIn permIn_refl permIn_trans a (i+1) i (by omega) i d O (af _) T ⟨fun p q D E S _ Y=>F p q D E (by omega),fun q U V=>by omega⟩
theorem CF(hS:SWO lt)(a b:Nat):∀(n i:Nat)(d:Array α),b-i<=n->a<=i->(∀p q,a<=p->p<i->i<=q->q<b->tag d[p]! < tag d[q]!)->eO tag i b d->b<=d.size->SortedIn (rl lt tag) a i d->insOuter lt a b i d=insOuter (rl lt tag) a b i d:=by
 intro n
 induction n with
 |zero=>
  intro i d hn _ _ _ _ _;unfold insOuter;rw[ag (by omega),ag (by omega)]
 |succ n ih=>
  intro i d hn ha Y V hb U;unfold insOuter;by_cases D:i<b
  ·rw[aj D,aj D]
   rw[uL (lt:=lt) a i d (fun p O F=>Y p i O F (af _) D) (by omega)];obtain⟨M,S⟩:PermIn a (i+1) d (insInner (rl lt tag) a i d)/\SortedIn (rl lt tag) a (i+1) (insInner (rl lt tag) a i d):=J7 hS a i d ha (by omega) U;refine ih (i+1) _ (by omega) (by omega) (fun p q O F hq E=>?_) (fun p q O T E=>?_) (by rw[M.1];exact hb) S
   ·rw[M.2.1 q (Or.inr hq)]
    refine permIn_all d _ a (i+1) (fun x=>tag x<tag d[q]!) (by omega) M (fun r hr a0=>?_) p O F;by_cases e:r=i
    ·rw[e];exact V i q (af _) (by omega) E
    ·exact Y r q hr (by omega) (by omega) E
   ·rw[M.2.1 p (Or.inr O),M.2.1 q (Or.inr (by omega))]
    exact V p q (by omega) T E
  ·rw[ag D,ag D]
theorem wQ(M:SWO lt)(d:Array α)(a b:Nat)(D:a<=b)(O:b<=d.size)(S:eO tag a b d):PermIn a b d (insertionSort lt d a b)/\SortedIn (rl lt tag) a b (insertionSort lt d a b):=by
 have e:insertionSort lt d a b=insertionSort (rl lt tag) d a b:=by
  unfold insertionSort;exact CF M a b _ (a+1) d (af _) (by omega) (fun p q U V hq F=>S p q U (by omega) F) (fun i j hi E T=>S i j (by omega) E T) O (fun i j Y h2 h3=>by omega)
 rw[e];exact insertionSort_holds (J6 M) d a b D O
structure gC(lt:α->α->Bool)(tag:α->Nat)(a m b:Nat)(d:Array α):Prop where
 s1:SortedIn (rl lt tag) a m d
 s2:SortedIn (rl lt tag) m b d
 tg:∀i j,a<=i->i<m->m<=j->j<b->tag d[i]! < tag d[j]!
def eD(lt:α->α->Bool)(tag:α->Nat)(a b:Nat)(d e:Array α):Prop:=PermIn a b d e/\SortedIn (rl lt tag) a b e
theorem le1{a m b i j:Nat}{d:Array α}(h:gC lt tag a m b d)(D:a<=i)(M:i<=j)(E:j<m)(F:SWO lt):lt d[j]! d[i]! =false:=by
 by_cases e:i=j
 ·rw[e];exact F.irrefl _
 ·exact((cG _ _).1 (h.s1 i j D (by omega) E)).1
theorem le2{a m b i j:Nat}{d:Array α}(h:gC lt tag a m b d)(D:m<=i)(M:i<=j)(E:j<b)(F:SWO lt):lt d[j]! d[i]! =false:=by
 by_cases e:i=j
 ·rw[e];exact F.irrefl _
 ·exact((cG _ _).1 (h.s2 i j D (by omega) E)).1
theorem pR(m e:Nat)(d:Array α):Rot m m e d d:=⟨rfl,fun p=>by
 repeat' split
 all_goals first
  |omega
  |rfl
  |(congr 1;omega)⟩
theorem ou(s m:Nat)(d:Array α):Rot s m m d d:=⟨rfl,fun p=>by
 repeat' split
 all_goals first
  |omega
  |rfl
  |(congr 1;omega)⟩
section
variable{a m b s e:Nat}{d d1:Array α}
theorem Rot.at0(h:Rot s m e d d1){i:Nat}(D:i<s):d1[i]! =d[i]!:=by rw[h.2,ag (by omega),ag (by omega)]
theorem Rot.at1(h:Rot s m e d d1){i:Nat}(D:s<=i)(E:i<s+(e-m)):d1[i]! =d[i-s+m]!:=by rw[h.2,aj (by omega)]
theorem Rot.at2(h:Rot s m e d d1){i:Nat}(D:s+(e-m)<=i)(E:i<e):d1[i]! =d[i-(e-m)]!:=by rw[h.2,ag (by omega),aj (by omega)]
theorem Rot.at3(h:Rot s m e d d1){i:Nat}(D:e<=i)(E:s<=m)(he:m<=e):d1[i]! =d[i]!:=by rw[h.2,ag (by omega),ag (by omega)]
theorem qI(h:gC lt tag a m b d)(r:Rot s m e d d1)(S:s<=m)(T:m<=e)(U:e<=b):gC lt tag a s (s+(e-m)) d1:=by
 refine⟨fun i j D E F=>?_,fun i j D E F=>?_,fun i j D M F O=>?_⟩
 ·rw[r.at0 (i:=i) (by omega),r.at0 (i:=j) F];exact h.s1 i j D E (by omega)
 ·rw[r.at1 D (by omega),r.at1 (by omega) F];exact h.s2 _ _ (by omega) (by omega) (by omega)
 ·rw[r.at0 M,r.at1 F O];exact h.tg _ _ D (by omega) (by omega) (by omega)
theorem ow(h:gC lt tag a m b d)(r:Rot s m e d d1)(U:a<=s)(F:s<=m)(M:m<=e):gC lt tag (s+(e-m)) e b d1:=by
 refine⟨fun i j D O E=>?_,fun i j D O E=>?_,fun i j D S E T=>?_⟩
 ·rw[r.at2 D (by omega),r.at2 (by omega) E];exact h.s1 _ _ (by omega) (by omega) (by omega)
 ·rw[r.at3 D F M,r.at3 (by omega) F M];exact h.s2 _ _ (by omega) (by omega) E
 ·rw[r.at2 D S,r.at3 E F M];exact h.tg _ _ (by omega) (by omega) (by omega) T
structure Found(lt:α->α->Bool)(a m b s e:Nat)(d:Array α):Prop where
 c1:∀x y,a<=x->x<s->e<=y->y<b->lt d[y]! d[x]! =false
 c2:∀x y,m<=x->x<e->s<=y->y<m->lt d[x]! d[y]! =true
theorem Pf(V:SWO lt)(h:gC lt tag a m b d)(f:Found lt a m b s e d)(r:Rot s m e d d1)(T:s<=m)(U:m<=e){i j:Nat}(F:a<=i)(M:i<s+(e-m))(D:s+(e-m)<=j)(O:j<b):rl lt tag d1[j]! d1[i]! =false:=by
 by_cases S:i<s
 ·rw[r.at0 S]
  by_cases E:j<e
  ·rw[r.at2 D E];exact h.s1 _ _ F (by omega) (by omega)
  ·rw[r.at3 (by omega) T U,cG]
   exact⟨f.c1 _ _ F S (by omega) O,Or.inr (Nat.le_of_lt (h.tg _ _ F (by omega) (by omega) O))⟩
 ·rw[r.at1 (by omega) M]
  by_cases E:j<e
  ·rw[r.at2 D E,cG]
   have k:=f.c2 (i-s+m) (j-(e-m)) (by omega) (by omega) (by omega) (by omega);exact⟨V.asymmA k,Or.inl k⟩
  ·rw[r.at3 (by omega) T U];exact h.s2 _ _ (by omega) (by omega) O
theorem merged{d2 d3:Array α}{c:Nat}(hS:SWO lt)(h:gC lt tag a m b d)(f:Found lt a m b s e d)(r:Rot s m e d d1)(h1:a<=s)(T:s<=m)(U:m<=e)(h4:e<=b)(hb:b<=d.size)(hc:c=s+(e-m))
  (M:eD lt tag a c d1 d2) (E:eD lt tag c b d2 d3):eD lt tag a b d d3:=by
 subst hc;have z1:=r.1;have z2:=M.1.1;refine⟨permIn_trans _ _ _ a b (permIn_mono _ _ s e a b h1 h4 hb (r.perm T U (by omega))) (permIn_trans _ _ _ a b (permIn_mono _ _ a _ a b (af _) (by omega) (by omega) M.1) (permIn_mono _ _ _ b a b (by omega) (af _) (by omega) E.1)),fun i j V F Y=>?_⟩;by_cases S:j<s+(e-m)
 ·rw[E.1.2.1 i (Or.inl (by omega)),E.1.2.1 j (Or.inl S)]
  exact M.2 i j V F S
 ·by_cases c2:s+(e-m)<=i
  ·exact E.2 i j c2 F Y
  ·rw[E.1.2.1 i (Or.inl (by omega))]
   have k:∀y,s+(e-m)<=y->y<b->∀x,a<=x->x<s+(e-m)->rl lt tag d1[y]! d2[x]! =false:=fun y hy D=>
    permIn_all d1 d2 a (s+(e-m)) (fun v=>rl lt tag d1[y]! v=false) (by omega) M.1 (fun x hx O=>Pf hS h f r T U hx O hy D)
   have k2:∀y,s+(e-m)<=y->y<b->rl lt tag d2[y]! d2[i]! =false:=fun y hy D=>by
    rw[M.1.2.1 y (Or.inr hy)];exact k y hy D i V (by omega)
   exact permIn_all d2 d3 (s+(e-m)) b (fun v=>rl lt tag v d2[i]! =false) (by omega) E.1 k2 j (by omega) Y
theorem eD.oY(h:SortedIn (rl lt tag) a b d):eD lt tag a b d d:=⟨permIn_refl d a b,h⟩
theorem uM(h:gC lt tag a m b d)(D:m=a):SortedIn (rl lt tag) a b d:=by subst D;exact h.s2
theorem rQ(h:gC lt tag a m b d)(D:m=b):SortedIn (rl lt tag) a b d:=by subst D;exact h.s1
theorem M7(hS:SWO lt)(h:gC lt tag a (a+1) b d)(r:Rot a (a+1) e d d1)(D:a+1<=e)(F:e<=b)(hb:b<=d.size)(q1:∀x,a+1<=x->x<e->lt d[x]! d[a]! =true)(q2:∀x,e<=x->x<b->lt d[x]! d[a]! =false):eD lt tag a b d d1:=by
 have f:Found lt a (a+1) b a e d:=⟨fun x y S T=>by omega,fun x y S T D F=>by
  obtain rfl:y=a:=by omega
  exact q1 x S T⟩
 have L:=qI h r (by omega) D F;have H:=ow h r (af _) (by omega) D;refine merged hS h f r (af _) (by omega) D F hb rfl (eD.oY (uM L rfl)) (eD.oY fun i j M E O=>?_);by_cases U:j<e
 ·exact H.s1 i j M E U
 ·by_cases V:e<=i
  ·exact H.s2 i j V E O
  ·rw[cG]
   refine⟨?_,Or.inr (Nat.le_of_lt (H.tg i j M (by omega) (by omega) O))⟩;rw[r.at3 (by omega) (by omega) D,r.at2 M (by omega)];have Y:i-(e-(a+1))=a:=by omega
   rw[Y];exact q2 j (by omega) O
theorem Hb(hS:SWO lt)(h:gC lt tag a m (m+1) d)(r:Rot s m (m+1) d d1)(F:a<=s)(D:s<=m)(hb:m+1<=d.size)(q1:∀x,a<=x->x<s->lt d[m]! d[x]! =false)(q2:∀x,s<=x->x<m->lt d[m]! d[x]! =true):eD lt tag a (m+1) d d1:=by
 have f:Found lt a m (m+1) s (m+1) d:=⟨fun x y F D S T=>by omega,fun x y F D S T=>by
  obtain rfl:x=m:=by omega
  exact q2 y S T⟩
 have L:=qI h r D (by omega) (af _);have H:=ow h r F D (by omega);refine merged hS h f r F D (by omega) (af _) hb rfl (eD.oY fun i j M E O=>?_) (eD.oY (rQ H rfl));by_cases U:j<s
 ·exact L.s1 i j M E U
 ·by_cases V:s<=i
  ·exact L.s2 i j V E O
  ·rw[cG]
   refine⟨?_,Or.inr (Nat.le_of_lt (L.tg i j M (by omega) (by omega) O))⟩;rw[r.at0 (i:=i) (by omega),r.at1 (i:=j) (by omega) O];have Y:j-s+m=m:=by omega
   rw[Y];exact q1 i M (by omega)
theorem Pg{k:Nat}(h:Rot a (a+1) (k+1) d d1)(D:a<=k)(E:k+1<d.size):Rot a (a+1) (k+2) d (swp d1 k (k+1)):=by
 refine⟨by rw[swp_size];exact h.1,fun p=>?_⟩;rw[swp_get d1 (by rw[h.1];omega) (by rw[h.1];omega) p];simp only[h.2]
 repeat' split
 all_goals first
  |omega
  |rfl
  |(congr 1;omega)
theorem J8{k:Nat}(h:Rot k m (m+1) d d1)(E:k<=m)(D:0<k)(F:m<d.size):Rot (k-1) m (m+1) d (swp d1 k (k-1)):=by
 refine⟨by rw[swp_size];exact h.1,fun p=>?_⟩;rw[swp_get d1 (by rw[h.1];omega) (by rw[h.1];omega) p];simp only[h.2]
 repeat' split
 all_goals first
  |omega
  |rfl
  |(congr 1;omega)
end
end Ss
end
section
open Go.Sort
namespace Ss
variable{α:Type}[Inhabited α]{lt:α->α->Bool}{tag:α->Nat}{a m b G st J I:Nat}{d:Array α}
theorem J9(D:SWO lt)(h:gC lt tag a m b d)(e0:J=a\/J+b=G)(U:I=m\/I+m=G)(h1:J<=st)(h2:st<=I)(ha:a<=J)(hr:I<=m)(hb:G<=J+b)(hm:I+m<=G)
  (q1:∀x,J<=x->x<st->lt d[G-1-x]! d[x]! =false) (q2:∀x,st<=x->x<I->lt d[G-1-x]! d[x]! =true):Found lt a m b st (G-st) d:=by
 refine⟨fun x y F Y hy M=>?_,fun x y F V hy O=>?_⟩
 ·by_cases c:J=st
  ·rcases e0 with e|e<;>omega
  ·have k:=q1 (st-1) (by omega) (by omega)
   have E:G-1-(st-1)=G-st:=by omega
   rw[E] at k;have S:=le2 h (i:=G-st) (j:=y) (by omega) hy M D;have T:=le1 h (i:=x) (j:=st-1) F (by omega) (by omega) D;exact D.ntrans _ _ _ (D.ntrans _ _ _ S k) T
 ·by_cases c:st=I
  ·rcases U with e|e<;>omega
  ·have k:=q2 st (af _) (by omega)
   have E:G-1-st=G-st-1:=by omega
   rw[E] at k;have S:=le2 h (i:=x) (j:=G-st-1) F (by omega) (by omega) D;have T:=le1 h (i:=st) (j:=y) (by omega) hy O D;exact fR D (fS D S k) T
theorem M8(D:SWO lt)(h:gC lt tag a m b d)(O:a<=J)(U:I<=m)(S:G<=J+b)(hm:I+m<=G){c x:Nat}(V:J<=x)(E:x<=c)(T:c<I)(k:lt d[G-1-c]! d[c]! =false):lt d[G-1-x]! d[x]! =false:=by
 have F:=le2 h (i:=G-1-c) (j:=G-1-x) (by omega) (by omega) (by omega) D;have M:=le1 h (i:=x) (j:=c) (by omega) E (by omega) D;exact D.ntrans _ _ _ (D.ntrans _ _ _ F k) M
theorem M9(D:SWO lt)(h:gC lt tag a m b d)(O:a<=J)(U:I<=m)(S:G<=J+b)(hm:I+m<=G){c x:Nat}(T:J<=c)(E:c<=x)(V:x<I)(k:lt d[G-1-c]! d[c]! =true):lt d[G-1-x]! d[x]! =true:=by
 have F:=le2 h (i:=G-1-x) (j:=G-1-c) (by omega) (by omega) (by omega) D;have M:=le1 h (i:=c) (j:=x) (by omega) E (by omega) D;exact fR D (fS D F k) M
theorem gC.congr{e:Array α}(h:gC lt tag a m b d)(he:∀i,a<=i->i<b->e[i]! =d[i]!)(S:a<=m)(T:m<=b):gC lt tag a m b e:=
 ⟨fun i j D E F=>by rw[he i D (by omega),he j (by omega) (by omega)];exact h.s1 i j D E F,
  fun i j D E F=>by rw[he i (by omega) (by omega),he j (by omega) F];exact h.s2 i j D E F,
  fun i j D O F M=>by rw[he i D (by omega),he j (by omega) M];exact h.tg i j D O F M⟩
theorem Ka{s e:Nat}(D:s<=m)(E:m<=e)(h:¬(s<m/\m<e)):Rot s m e d d:=by
 by_cases c:s=m
 ·subst c;exact pR s e d
 ·obtain rfl:e=m:=by omega
  exact ou s e d
theorem zw(h:gC lt tag a m b d)(D:a<=m)(E:m<=b)(F:¬(a<m/\m<b)):eD lt tag a b d d:=by
 by_cases c:m=a
 ·exact eD.oY (uM h c)
 ·exact eD.oY (rQ h (by omega))
end Ss
end
section
open Go.Sort
namespace Ss
variable{α:Type}[Inhabited α]{lt:α->α->Bool}{tag:α->Nat}
def vE(tag:α->Nat)(n c:Nat)(d:Array α):Prop:=∀i l,i<c->c<=l->l<n->tag d[i]! < tag d[l]!
theorem vE.perm{n c a b:Nat}{d e:Array α}(h:vE tag n c d)(M:PermIn a b d e)(hn:b<=n)(O:b<=d.size)(Y:c<=a\/b<=c):vE tag n c e:=by
 intro i l D E F
 have step:∀i,i<c->∀l,c<=l->l<n->tag e[i]! < tag d[l]!:=by
  intro i D l E F;by_cases S:a<=i/\i<b
  ·exact permIn_all d e a b (fun x=>tag x<tag d[l]!) O M (fun q U V=>h q l (by omega) E F) i S.1 S.2
  ·rw[M.2.1 i (by omega)];exact h i l D E F
 by_cases T:a<=l/\l<b
 ·exact permIn_all d e a b (fun x=>tag e[i]! < tag x) O M (fun q U V=>step i D q (by omega) (by omega)) l T.1 T.2
 ·rw[M.2.1 l (by omega)];exact step i D l E F
theorem SortedIn.far{f:α->α->Bool}{a b x y:Nat}{d e:Array α}(h:SortedIn f x y d)(D:PermIn a b d e)(O:y<=a\/b<=x):SortedIn f x y e:=by
 intro i j E F M;rw[D.2.1 i (by omega),D.2.1 j (by omega)];exact h i j E F M
theorem SortedIn.less{f:α->α->Bool}{x y D E:Nat}{d:Array α}(h:SortedIn f x y d)(F:x<=D)(M:E<=y):SortedIn f D E d:=fun i j a b c=>h i j (by omega) b (by omega)
structure Bs(lt:α->α->Bool)(tag:α->Nat)(s p n:Nat)(d:Array α):Prop where
 so:∀j,p<=j*s->SortedIn (rl lt tag) (j*s) (min (j*s+s) n) d
 bd:∀j,p<=j*s->vE tag n (j*s) d
structure Bl(lt:α->α->Bool)(tag:α->Nat)(s p n:Nat)(d:Array α):Prop where
 so:∀j,j*s+s<=p->SortedIn (rl lt tag) (j*s) (j*s+s) d
 bd:∀j,j*s<=p->vE tag n (j*s) d
theorem Bl.none(s n:Nat)(F:0<s)(d:Array α):Bl lt tag s 0 n d:=
 ⟨fun j D=>by omega,fun j D i l E=>by omega⟩
theorem ox{j k s:Nat}(h:k*s<j*s):k*s+s<=j*s:=by
 have:k<j:=Nat.lt_of_mul_lt_mul_right h;have D:=eG s (show k+1<=j from this)
 rwa [eJ,eV] at D
theorem Bl.step{s k n:Nat}{d e:Array α}(h:Bl lt tag s (k*s) n d)(M:PermIn (k*s) (k*s+s) d e)(O:SortedIn (rl lt tag) (k*s) (k*s+s) e)(hcut:vE tag n (k*s+s) d)(S:k*s+s<=n)(U:n<=d.size):Bl lt tag s (k*s+s) n e:=by
 refine⟨fun j T=>?_,fun j T=>?_⟩
 ·by_cases D:j*s<k*s
  ·have:=ox D
   exact SortedIn.far (h.so j this) M (Or.inl this)
  ·by_cases F:k*s<j*s
   ·have:=ox F
    intro i q V Y h3;omega
   ·have E:j*s=k*s:=by omega
    rw[E];exact O
 ·by_cases D:j*s<=k*s
  ·exact(h.bd j D).perm M S (by omega) (Or.inl D)
  ·have:=ox (show k*s<j*s by omega)
   have E:j*s=k*s+s:=by omega
   rw[E];exact hcut.perm M S (by omega) (Or.inr (af _))
theorem Bl.last{s k n:Nat}{d e:Array α}(h:Bl lt tag s (k*s) n d)(M:PermIn (k*s) n d e)(E:SortedIn (rl lt tag) (k*s) n e)(U:n<k*s+s)(F:n<=d.size):Bs lt tag s 0 n e:=by
 refine⟨fun j _=>?_,fun j _=>?_⟩
 ·by_cases D:j*s<k*s
  ·have:=ox D
   exact SortedIn.less (SortedIn.far (h.so j this) M (Or.inl this)) (af _) (Nat.min_le_left _ _)
  ·exact SortedIn.less E (by omega) (Nat.min_le_right _ _)
 ·by_cases D:j*s<=k*s
  ·exact(h.bd j D).perm M (af _) F (Or.inl D)
  ·have:=ox (show k*s<j*s by omega)
   intro i l O S T;omega
theorem Bs.pre{s k n p:Nat}{d:Array α}(h:Bs lt tag s p n d)(D:p=(k+k)*s)(m:Nat)(hm:m<=p+s+s)(O:m<=n)(T:p+s<=m):gC lt tag p (p+s) m d:=by
 have E:(k+k)*s+s=(k+k+1)*s:=by rw[eJ (k+k) 1,eV]
 refine⟨?_,?_,?_⟩
 ·have:=h.so (k+k) (by omega)
  rw[<-D] at this;exact SortedIn.less this (af _) (by omega)
 ·have:=h.so (k+k+1) (by omega)
  rw[<-E,<-D] at this;exact SortedIn.less this (af _) (by omega)
 ·have:=h.bd (k+k+1) (by omega)
  rw[<-E,<-D] at this;exact fun i j _ F M S=>this i j F M (by omega)
theorem Bs.rest{s p n m:Nat}{d e:Array α}(h:Bs lt tag s p n d)(E:PermIn p m d e)(hm:p<=m)(F:m<=n)(M:n<=d.size):Bs lt tag s m n e:=
 ⟨fun j D=>SortedIn.far (h.so j (by omega)) E (Or.inr D),fun j D=>(h.bd j (by omega)).perm E F (by omega) (Or.inr D)⟩
theorem Bs.Ph{s k n p:Nat}{d:Array α}(h:Bs lt tag s p n d)(F:p=(k+k)*s):vE tag n (p+s+s) d:=by
 have D:(k+k)*s+s=(k+k+1)*s:=by rw[eJ (k+k) 1,eV]
 have E:(k+k+1)*s+s=(k+k+1+1)*s:=by rw[eJ (k+k+1),eV]
 have:=h.bd (k+k+1+1) (by omega);rw[<-E,<-D,<-F] at this;exact this
theorem jk(k s:Nat):(k+k)*s=k*(s+s):=by rw[eJ,Nat.mul_add]
theorem EK{s k n p:Nat}{d e:Array α}(M:p=k*(s+s))(h:Bs lt tag s p n d)(O:Bl lt tag (s+s) p n d)(F:p+(s+s)<=n)(D:n<=d.size)(E:eD lt tag p (p+(s+s)) d e):
  Bs lt tag s (p+(s+s)) n e/\Bl lt tag (s+s) (p+(s+s)) n e:=by
 refine⟨h.rest E.1 (by omega) F D,?_⟩;have c:=h.Ph (k:=k) (by rw[jk];exact M);subst M;exact O.step E.1 E.2 (by rw[<-Nat.add_assoc];exact c) F D
theorem wS{s k n p:Nat}{d e:Array α}(O:p=k*(s+s))(F:Bl lt tag (s+s) p n d)(M:n<p+(s+s))(D:n<=d.size)(E:eD lt tag p n d e):Bs lt tag (s+s) 0 n e:=by
 subst O;exact F.last E.1 E.2 M D
theorem EL{s k n p:Nat}{d:Array α}(E:p=k*(s+s))(h:Bs lt tag s p n d)(F:Bl lt tag (s+s) p n d)(O:n<=p+s)(M:0<s)(D:n<=d.size):Bs lt tag (s+s) 0 n d:=by
 refine wS E F (by omega) D ⟨permIn_refl d p n,?_⟩;have:=h.so (k+k) (by rw[jk];omega);rw[jk,<-E] at this;exact SortedIn.less this (af _) (by omega)
theorem Bs.whole{s n:Nat}{d:Array α}(h:Bs lt tag s 0 n d)(D:n<=s):SortedIn (rl lt tag) 0 n d:=by
 have:=h.so 0 (by omega);rw[Nat.zero_mul] at this;exact SortedIn.less this (af _) (by omega)
theorem vE.Pj{a n c:Nat}{d:Array α}(h:vE tag n a d)(F:eO tag a n d)(S:a<=c):vE tag n c d:=by
 intro i l M O D;by_cases E:i<a
 ·exact h i l E (by omega) D
 ·exact F i l (by omega) (by omega) D
theorem eO.less{a D b E:Nat}{d:Array α}(h:eO tag a b d)(F:a<=D)(M:E<=b):eO tag D E d:=fun i j x y z=>h i j (by omega) y (by omega)
theorem eO.far{a b x y:Nat}{d e:Array α}(h:eO tag x y d)(D:PermIn a b d e)(O:b<=x):eO tag x y e:=by
 intro i j E F M;rw[D.2.1 i (by omega),D.2.1 j (by omega)];exact h i j E F M
theorem EM{s k n p:Nat}{d:Array α}(U:SWO lt)(S:p=k*s)(M:Bl lt tag s p n d)(F:eO tag p n d)(O:p+s<=n)(E:n<=d.size):
  PermIn p (p+s) d (insertionSort lt d p (p+s))/\Bl lt tag s (p+s) n (insertionSort lt d p (p+s))/\eO tag (p+s) n (insertionSort lt d p (p+s)):=by
 obtain⟨D,T⟩:=wQ (tag:=tag) U d p (p+s) (by omega) (by omega) (F.less (af _) O);refine⟨D,?_,(F.less (by omega) (af _)).far D (af _)⟩;have V:vE tag n (p+s) d:=vE.Pj (a:=p) (by rw[S];exact M.bd k (by omega)) F (by omega);subst S;exact M.step D T V O E
theorem EN{s k n p:Nat}{d:Array α}(O:SWO lt)(U:p=k*s)(S:Bl lt tag s p n d)(V:eO tag p n d)(E:p<=n)(T:n<p+s)(D:n<=d.size):
  PermIn p n d (insertionSort lt d p n)/\Bs lt tag s 0 n (insertionSort lt d p n):=by
 obtain⟨F,M⟩:=wQ (tag:=tag) O d p n E D V;subst U;exact⟨F,S.last F M T D⟩
end Ss
end
section
open Go.Sort
namespace Ss
section
variable{α β:Type}{lt:α->α->Bool}{tag:α->Nat}
def ins(lt:α->α->Bool)(v:α)(L:List α):List α:=(L.reverse.dropWhile (lt v)).reverse++[v]++(L.reverse.takeWhile (lt v)).reverse
def aN(lt:α->α->Bool)(L:List α):List α:=L.foldl (fun M x=>ins lt x M) []
theorem dR(L:List α)(x:α):aN lt (L++[x])=ins lt x (aN lt L):=by simp[aN,jI]
theorem A8(v:α)(L:List α):(ins lt v L).length=L.length+1:=by
 have h:L=(L.reverse.dropWhile (lt v)).reverse++(L.reverse.takeWhile (lt v)).reverse:=by
  rw[<-mh,qg,gI]
 have D:=cV List.length h;unfold ins;simp only[aW,List.length_reverse,fx] at D ⊢;omega
theorem cu(L:List α):(aN lt L).length=L.length:=by
 rw[<-gI L]
 induction L.reverse with
 |nil=>rfl
 |cons a r D=>rw[jU,dR,A8,D];simp
theorem Na(f:α->β)(D:β->β->Bool)(F:∀x y,lt x y=D (f x) (f y))(v:α)(L:List α):(ins lt v L).map f=ins D (f v) (L.map f):=by
 have e:lt v=D (f v) ∘ f:=funext fun y=>F v y
 unfold ins;have E:(L.map f).reverse=L.reverse.map f:=List.map_reverse.symm;rw[E,List.takeWhile_map,List.dropWhile_map,e];simp
theorem qJ(f:α->β)(D:β->β->Bool)(E:∀x y,lt x y=D (f x) (f y))(L:List α):(aN lt L).map f=aN D (L.map f):=by
 rw[<-gI L]
 induction L.reverse with
 |nil=>rfl
 |cons a r F=>rw[jU,dR,Na f D E,F,eZ,List.map_singleton,dR]
theorem CG(v:α)(L:List α):(ins lt v L).Perm (v::L):=by
 have h:L=(L.reverse.dropWhile (lt v)).reverse++(L.reverse.takeWhile (lt v)).reverse:=by
  rw[<-mh,qg,gI]
 unfold ins
 conv=>rhs;rw[h]
 rw[dZ];exact List.perm_middle
theorem cy(L:List α):(aN lt L).Perm L:=by
 rw[<-gI L]
 induction L.reverse with
 |nil=>exact iV _
 |cons a r D=>
  rw[jU,dR];refine(CG _ _).trans ?_;refine(List.Perm.cons _ D).trans ?_;exact(List.perm_append_comm (l₁:=[a]) (l₂:=r.reverse))
abbrev CH(lt:α->α->Bool)(tag:α->Nat)(L:List α):Prop:=L.Pairwise fun a b=>rl lt tag b a=false
theorem EO(V:SWO lt){v:α}{L:List α}(ht:∀y∈L,tag y<tag v)(O:CH lt tag L):CH lt tag (ins lt v L):=by
 have e:L=(L.reverse.dropWhile (lt v)).reverse++(L.reverse.takeWhile (lt v)).reverse:=by
  rw[<-mh,qg,gI]
 have hT:∀y∈L.reverse.takeWhile (lt v),lt v y=true:=fun y hy=>by
  have:=List.all_takeWhile (p:=lt v) (l:=L.reverse);exact il.1 this y hy
 have U:∀y∈L.reverse.dropWhile (lt v),y∈L:=fun y hy=>fc.1 ((List.dropWhile_sublist _).subset hy)
 have hh:∀a r,L.reverse.dropWhile (lt v)=a::r->lt v a=false:=fun a r hr=>by
  have:=List.head?_dropWhile_not (lt v) L.reverse;rw[hr] at this;simpa using this
 unfold CH at O ⊢;rw[e] at O;unfold ins;generalize L.reverse.takeWhile (lt v)=T at*;generalize L.reverse.dropWhile (lt v)=D at*;rw[jW] at O;obtain⟨s1,s2,s3⟩:=O
 have hD:∀x∈D,lt v x=false:=fun x M=>by
  cases D with
  |nil=>cases M
  |cons a r=>
   have F:=hh a r rfl;rcases aP.1 M with Y|E
   ·rw[Y];exact F
   ·have S:rl lt tag a x=false:=by
     rw[jU,jW] at s1;exact s1.2.2 x (by simpa using E) a (by simp)
    exact V.ntrans _ _ _ F ((cG _ _).1 S).1
 rw[dZ,jW];refine⟨s1,?_,?_⟩
 ·rw[jX,eu]
  refine⟨fun y hy=>?_,s2⟩;have F:=hT y (fc.1 hy)
  have S:lt y v=false:=by
   cases hq:lt y v with
   |false=>rfl
   |true=>exact absurd (V.trans _ _ _ F hq) (by rw[V.irrefl];decide)
  exact(cG _ _).2 ⟨S,Or.inl F⟩
 ·intro x M y hy
  rcases bH.1 hy with hy|hy
  ·rw[cq.1 hy]
   have E:=fc.1 M;exact(cG _ _).2 ⟨hD x E,Or.inr (Nat.le_of_lt (ht x (U x E)))⟩
  ·exact s3 x M y hy
theorem ja(D:SWO lt):∀L:List α,L.Pairwise (fun a b=>tag a<tag b)->CH lt tag (aN lt L):=by
 intro L;rw[<-gI L]
 induction L.reverse with
 |nil=>intro _;exact List.Pairwise.nil
 |cons a r E=>
  intro h;rw[jU] at h ⊢;rw[dR];rw[jW] at h;exact EO D (fun y hy=>h.2.2 y ((cy _).mem_iff.1 hy) a (by simp)) (E h.1)
theorem rR:∀(A B:List α),A.Perm B->CH lt tag A->CH lt tag B->(∀x∈A,∀y∈A,rl lt tag x y=false->rl lt tag y x=false->x=y)->A=B
 |[],B,D,_,_,_=>(List.nil_perm.1 D).symm
 |a::A,[],D,_,_,_=>by have:=D.length_eq;simp at this
 |a::A,b::B,D,M,O,S=>by
  have e:a=b:=by
   have F:a∈b::B:=D.mem_iff.1 (by simp);have E:b∈a::A:=D.mem_iff.2 (by simp);rcases aP.1 F with e|F
   ·exact e
   ·rcases aP.1 E with e|E
    ·exact e.symm
    ·exact S a (by simp) b (by simp[E]) ((eu.1 O).1 a F) ((eu.1 M).1 b E)
  subst e;rw[rR A B (List.perm_cons a |>.1 D) (eu.1 M).2 (eu.1 O).2 (fun x T y hy=>S x (by simp[T]) y (by simp[hy]))]
end
section
variable{α:Type}[Inhabited α]{lt:α->α->Bool}{tag:α->Nat}
theorem CI{d:Array α}(h:eO tag 0 d.size d):d.toList.Pairwise (fun a b=>tag a<tag b):=by
 rw[jS];intro i j M O F;have E:i<d.size:=by simpa using M
 have D:j<d.size:=by simpa using O
 have:=h i j (aL _) F D;rw[bJ d i E,bJ d j D] at this;simpa using this
theorem Nb{d:Array α}(h:eO tag 0 d.size d){x y:α}(O:x∈d.toList)(hy:y∈d.toList)(he:tag x=tag y):x=y:=by
 obtain⟨i,E,rfl⟩:=lY O;obtain⟨j,F,rfl⟩:=lY hy;have M:=jS.1 (CI h);rcases Nat.lt_trichotomy i j with D|D|D
 ·have:=M i j E F D;omega
 ·subst D;rfl
 ·have:=M j i F E D;omega
theorem Hc(hS:SWO lt){d e:Array α}(V:eO tag 0 d.size d)(h:eD lt tag 0 d.size d e):e.toList=aN lt d.toList:=by
 have S:e.toList.Perm d.toList:=by
  have D:=h.1.2.2;have Y:e.extract 0 d.size=e:=by rw[<-h.1.1];exact nJ
  have e2:d.extract 0 d.size=d:=nJ;rw[Y,e2] at D;exact D
 refine rR (lt:=lt) (tag:=tag) _ _ (S.trans (cy _).symm) ?_ (ja hS _ (CI V)) ?_
 ·unfold CH
  rw[jS];intro i j hi hj O;have M:i<e.size:=by simpa using hi
  have E:j<e.size:=by simpa using hj
  have:=h.2 i j (aL _) O (by rw[<-h.1.1];exact E);rw[bJ e i M,bJ e j E] at this;simpa using this
 ·intro x hx y hy D F
  have D:=(cG _ _).1 D;have F:=(cG _ _).1 F;refine Nb V (S.mem_iff.1 hx) (S.mem_iff.1 hy) ?_;rcases D.2 with T|T
  ·rw[F.1] at T;cases T
  ·rcases F.2 with U|U
   ·rw[D.1] at U;cases U
   ·omega
end
end Ss
end
section
open Go.RowKit Go.Sort Go.Shelf Go.Lib
namespace Ss
variable{α:Type}[Inhabited α]{enc:α->List zV}{k:Nat}{w W:zW}
theorem flat_get(D:∀x,(enc x).length=k)(M:0<k):∀(L:List α)(t:Nat),t<L.length*k->(L.flatMap enc)[t]?=(enc (L[t/k]!))[t%k]?
 |[],t,h=>by simp at h
 |x::L,t,h=>by
  rw[jv];by_cases E:t<k
  ·rw[vS (by rw[D];exact E),Nat.div_eq_of_lt E,Nat.mod_eq_of_lt E]
   rfl
  ·have F:k<=t:=by omega
   rw[List.getElem?_append_right (by rw[D];exact F),D]
   have T:t-k<L.length*k:=by
    rw[bN,eJ,eV] at h;omega
   rw[flat_get D M L (t-k) T]
   have O:t/k=(t-k)/k+1:=by
    have:t=(t-k)+k:=by omega
    conv=>lhs;rw[this,Nat.add_div_right _ M]
   have S:t%k=(t-k)%k:=by
    have:t=(t-k)+k:=by omega
    conv=>lhs;rw[this,Nat.add_mod_right]
   rw[O,S]
   rfl
omit [Inhabited α] in
theorem fA(D:∀x,(enc x).length=k):∀L:List α,(L.flatMap enc).length=L.length*k
 |[]=>by simp
 |x::L=>by rw[jv,aW,D,fA D L,bN,eJ,eV,Nat.add_comm]
theorem zx(F:∀x,(enc x).length=k)(E:0<k)(d:Array α):(flatK enc k d).toList=d.toList.flatMap enc:=by
 apply nI;intro t;by_cases D:t<d.size*k
 ·rw[flat_get F E d.toList t (by simpa using D),qu,nH (by rw[size_flatK];exact D),<-bJ _ t (by rw[size_flatK];exact D),get_flatK enc k d t D]
  have e:d.toList[t/k]! =d[t/k]!:=by
   have hd:t/k<d.size:=by rw[Nat.div_lt_iff_lt_mul E];exact D
   rw[bJ d.toList (t/k) (by simpa using hd),bJ d (t/k) hd,Array.getElem_toList]
  rw[e];have hm:t%k<(enc d[t/k]!).length:=by rw[F];exact Nat.mod_lt _ E
  rw[aV hm,bJ (enc d[t/k]!) (t%k) hm]
 ·rw[iL (by rw[lZ,size_flatK];omega),iL (by rw[fA F,lZ];omega)]
theorem zy(F:∀x,(enc x).length=k)(E:0<k){B e g cap:Nat}{d:Array α}(h:w.ownsRow B e k (.slice (some ⟨g,0,none⟩) d.size cap) d.size (d.toList.flatMap enc)):HoldsK enc k w g 0 d:=by
 intro j D;rw[size_flatK] at D;refine⟨?_,by rw[cZ];exact h.frozenAt j⟩;rw[cZ,h.cellAt j D,<-zx F E,qu,nH (by rw[size_flatK];exact D),<-bJ _ j (by rw[size_flatK];exact D)]
 rfl
theorem tN{g:Nat}{d:Array α}(S:SWK enc k w g 0 d W)(b:Nat)(E:b<w.heap.size)(D:b≠g):W.heap[b]?=w.heap[b]?:=by
 obtain⟨n,os,rfl⟩:=S;unfold sortWorldK;rw[Go.Sort.heap_grow_old _ _ (by rw[size_putRowK];exact E)];unfold putRowK Go.Sort.putRow Go.Sort.mapBlock;show(w.heap.modify g _)[b]?=_;rw[vR,ag (fun e=>D e.symm)]
theorem Nc{g:Nat}{d:Array α}(S:SWK enc k w g 0 d W){D:Array zV}{e:TypeId}(h:w.heap[g]?=some (.cells D e (0,0))):W.heap[g]?=some (.cells (Go.Sort.putCells id 0 (flatK enc k d) D) e (0,0)):=by
 obtain⟨n,os,rfl⟩:=S;have E:g<w.heap.size:=(nG.1 h).1;unfold sortWorldK;rw[Go.Sort.heap_grow_old _ _ (by rw[size_putRowK];exact E)];unfold putRowK Go.Sort.putRow Go.Sort.mapBlock;show(w.heap.modify g _)[g]?=_;rw[vR,aj rfl,h]
 rfl
theorem wT(F D:Array zV)(O:F.size<=D.size):(Go.Sort.putCells id 0 F D).toList.take F.size=F.toList:=by
 apply nI;intro j;by_cases E:j<F.size
 ·have M:j<D.size:=by omega
  rw[List.getElem?_take_of_lt E,qu];unfold Go.Sort.putCells;rw[Array.getElem?_mapIdx,nH M];simp only[Option.map_some,aL,cZ,true_and,aj E,Nat.sub_zero,id];rw[bJ F j E,qu,nH E]
 ·rw[iL (by rw[jz];omega),iL (by simp;omega)]
theorem wU(Y:∀x,(enc x).length=k)(h0:0<k){B e g cap n:Nat}{d d':Array α}(E:d'.size=n)(h:w.ownsRow B e k (.slice (some ⟨g,0,none⟩) n cap) n (d.toList.flatMap enc))(S:SWK enc k w g 0 d' W):
  W.ownsRow B e k (.slice (some ⟨g,0,none⟩) n cap) n (d'.toList.flatMap enc)/\ai (fun b=>b=g) w W:=by
 have a0:=(h.lt g rfl).2;refine⟨?_,?_⟩
 ·rcases h.2 with⟨hn,_⟩|⟨g',V,M,hv,hB,hh,D,T,F,_⟩
  ·cases hn
  ·injection hv with O _ e3
   have eg:g=g':=by injection O with O;injection O
   subst eg;subst e3;refine⟨by rw[fA Y,lZ,E],.inr ⟨g,cap,_,rfl,hB,Nc S hh,D,T,?_,?_⟩⟩
   ·rw[<-F];simp[Go.Sort.putCells]
   ·have:=wT (flatK enc k d') M (by rw[size_flatK,E,F];exact eG k D)
    rw[size_flatK,E] at this;rw[this,zx Y h0]
 ·have D:=S.le
  have ho:=fun b hb U=>tN S b hb U
  obtain⟨m,os,rfl⟩:=S;exact⟨rfl,rfl,rfl,D,ho⟩
end Ss
end
namespace Pv
def yP(a b:List UInt8):Int:=
 match parse a,parse b with
 |some x,some y=>nB x y
 |some _,none=>1
 |none,some _=>-1
 |none,none=>Lib.compareBytes a b
theorem mM{a b:List UInt8}{x y:List (List UInt8)×List (List UInt8)}(D:parse a=some x)(E:parse b=some y):yP a b=nB x y:=by unfold yP;rw[D,E]
theorem mN{a b:List UInt8}{x:List (List UInt8)×List (List UInt8)}(D:parse a=some x)(E:parse b=none):yP a b=1:=by unfold yP;rw[D,E]
theorem rS{a b:List UInt8}{y:List (List UInt8)×List (List UInt8)}(D:parse a=none)(E:parse b=some y):yP a b=-1:=by unfold yP;rw[D,E]
theorem mO{a b:List UInt8}(D:parse a=none)(E:parse b=none):yP a b=Lib.compareBytes a b:=by unfold yP;rw[D,E]
theorem QL:Cmp (fun _:List UInt8=>True) yP:=by
 refine⟨fun a b _ _=>?_,fun a b _ _ h=>?_,fun a b c _ _ _ E D=>?_⟩
 ·cases ha:parse a with
  |none=>
   cases hb:parse b with
   |none=>rw[mO ha hb,mO hb ha];exact ie.anti a b trivial trivial
   |some y=>rw[rS ha hb,mN hb ha];rfl
  |some x=>
   cases hb:parse b with
   |none=>rw[mN ha hb,rS hb ha]
   |some y=>rw[mM ha hb,mM hb ha];exact zu.anti x y (fg ha).2 (fg hb).2
 ·cases ha:parse a with
  |none=>
   cases hb:parse b with
   |none=>rw[mO ha hb] at h;exact ie.zero a b trivial trivial h
   |some y=>rw[rS ha hb] at h;exact absurd h (by decide)
  |some x=>
   cases hb:parse b with
   |none=>rw[mN ha hb] at h;exact absurd h (by decide)
   |some y=>
    rw[mM ha hb] at h;have e:=zu.zero x y (fg ha).2 (fg hb).2 h;subst e;exact zv ha hb
 ·cases ha:parse a with
  |none=>
   cases hc:parse c with
   |some z=>rw[rS ha hc];decide
   |none=>
    cases hb:parse b with
    |none=>rw[mO ha hb] at E;rw[mO hb hc] at D;rw[mO ha hc];exact ie.trans a b c trivial trivial trivial E D
    |some y=>rw[mN hb hc] at D;exact absurd D (by decide)
  |some x=>
   cases hb:parse b with
   |none=>rw[mN ha hb] at E;exact absurd E (by decide)
   |some y=>
    cases hc:parse c with
    |none=>rw[mN hb hc] at D;exact absurd D (by decide)
    |some z=>
     rw[mM ha hb] at E;rw[mM hb hc] at D;rw[mM ha hc];exact zu.trans x y z (fg ha).2 (fg hb).2 (fg hc).2 E D
def lex{α β:Type}(f:α->α->Int)(g:β->β->Int)(x y:α×β):Int:=if f x.1 y.1=0 then g x.2 y.2 else f x.1 y.1
theorem oZ{α β:Type}{f:α->α->Int}{g:β->β->Int}(M:Cmp (fun _:α=>True) f)(S:Cmp (fun _:β=>True) g):Cmp (fun _:α×β=>True) (lex f g):=by
 refine⟨fun a b _ _=>?_,fun a b _ _ h=>?_,fun a b c _ _ _ D E=>?_⟩
 ·have D:=M.anti a.1 b.1 trivial trivial
  unfold lex;by_cases e:f a.1 b.1=0
  ·rw[aj e,aj (by omega)];exact S.anti _ _ trivial trivial
  ·rw[ag e,ag (by omega)];exact D
 ·unfold lex at h
  by_cases e:f a.1 b.1=0
  ·rw[aj e] at h
   exact ez (M.zero _ _ trivial trivial e) (S.zero _ _ trivial trivial h)
  ·rw[ag e] at h;exact absurd h e
 ·unfold lex at D E ⊢
  by_cases O:f a.1 b.1=0
  ·have e:=M.zero _ _ trivial trivial O
   rw[aj O] at D;rw[e];by_cases F:f b.1 c.1=0
   ·rw[aj F] at E ⊢
    exact S.trans _ _ _ trivial trivial trivial D E
   ·rw[ag F] at E ⊢;exact E
  ·rw[ag O] at D
   by_cases F:f b.1 c.1=0
   ·have e:=M.zero _ _ trivial trivial F
    rw[<-e,ag O];exact D
   ·rw[ag F] at E
    have T:=M.lt_trans trivial trivial trivial (show f a.1 b.1<0 by omega) (show f b.1 c.1<0 by omega);rw[ag (by omega)];omega
theorem kF{α β:Type}(key:α->β){f:β->β->Int}(h:Cmp (fun _:β=>True) f):Sort.SWO (Go.Proofs.ltOf fun x y:α=>f (key x) (key y)):=by
 refine⟨fun x=>?_,fun x y z D E=>?_,fun x y z D E=>?_⟩
 ·have S:=h.self (a:=key x) trivial
  exact aQ (by show ¬f (key x) (key x)<0;omega)
 ·have D:f (key x) (key y)<0:=gJ D
  have E:f (key y) (key z)<0:=gJ E;exact bj (h.lt_trans trivial trivial trivial D E)
 ·have D:¬f (key x) (key y)<0:=mf D
  have E:¬f (key y) (key z)<0:=mf E;refine aQ ?_;show ¬f (key x) (key z)<0;have F:=h.anti (key x) (key y) trivial trivial;have M:=h.anti (key y) (key z) trivial trivial;have O:=h.anti (key x) (key z) trivial trivial;have:=h.trans (key z) (key y) (key x) trivial trivial trivial (by omega) (by omega);omega
end Pv
def aT(a b:zA):Int:=Lib.compareBytes a.data.toList b.data.toList
def mP(a b:zA):Int:=Pv.yP a.data.toList b.data.toList
def fh(a b:zA×zA):Int:=if aT a.1 b.1=0 then mP a.2 b.2 else aT a.1 b.1
theorem CJ{f:List UInt8->List UInt8->Int}(h:Pv.Cmp (fun _=>True) f):Pv.Cmp (fun _:zA=>True) fun a b=>f a.data.toList b.data.toList:=
 ⟨fun _ _ _ _=>h.anti _ _ trivial trivial,fun _ _ _ _ e=>jJ (my.1 (h.zero _ _ trivial trivial e)),fun _ _ _ _ _ _ D E=>h.trans _ _ _ trivial trivial trivial D E⟩
theorem dh:Pv.Cmp (fun _=>True) aT:=CJ Pv.ie
theorem Kb:Pv.Cmp (fun _=>True) mP:=CJ Pv.QL
theorem pd:Pv.Cmp (fun _=>True) fh:=Pv.oZ dh Kb
