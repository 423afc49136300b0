import Derived.Test.YtgamgopghfpegaaGreatDoorKWA
set_option linter.all false
namespace Go.Proofs.YtgamgopghfpegaaGreatDoor
namespace Pv
structure Cmp{α:Type}(p:α→Prop)(f:α→α→Int):Prop where
 anti:∀a b,p a→p b→f b a=- f a b
 zero:∀a b,p a→p b→f a b=0→a=b
 trans:∀a b c,p a→p b→p c→f a b≤0→f b c≤0→f a c≤0
theorem Cmp.self{α}{p}{f}(h:Cmp p f){a:α}(D:p a):f a a=0:=by
 have:=h.anti a a D D;omega
theorem Cmp.lt_trans{α}{p}{f}(h:Cmp p f){a b c:α}(E:p a)(F:p b)(M:p c)(R:f a b<0)(S:f b c<0):f a c<0:=by
 have O:=h.trans a b c E F M ae ae;rcases Int.lt_or_eq_of_le O with D|D
 ·exact D
 ·have e:=h.zero a c E M D
  subst e;have:=h.anti a b E F;omega
theorem Cmp.list{p}{f}(h:Cmp p f):Cmp (fun l=>∀x∈l,p x) (cmpL f):=by
 refine⟨?_,?_,?_⟩
 ·intro a
  induction a with
  |nil=>intro b _ _;cases b<;>simp[cmpL]
  |cons x xs ih=>
   intro b E F;cases b with
   |nil=>simp[cmpL]
   |cons y S=>
    have R:=E x ah;have M:=F y ah;have T:∀z∈xs,p z:=fun z D=>E z (by simp[D])
    have U:∀z∈S,p z:=fun z D=>F z (by simp[D])
    have a0:=h.anti x y R M;by_cases e:f x y=0
    ·have V:f y x=0:=ae
     rw[cmpL,cmpL,ay e,ay V];grind
    ·have V:¬f y x=0:=ae
     rw[cmpL,cmpL,au e,au V];exact a0
 ·intro a
  induction a with
  |nil=>intro b _ _ O;cases b with
   |nil=>rfl
   |cons y S=>simp[cmpL] at O
  |cons x xs ih=>
   intro b E F O;cases b with
   |nil=>simp[cmpL] at O
   |cons y S=>
    have R:=E x ah;have M:=F y ah;have T:∀z∈xs,p z:=fun z D=>E z (by simp[D])
    have U:∀z∈S,p z:=fun z D=>F z (by simp[D])
    rw[cmpL] at O;by_cases e:f x y=0
    ·rw[ay e] at O
     rw[h.zero x y R M e,ih S T U O]
    ·omega
 ·intro a
  induction a with
  |nil=>intro b c _ _ _ _ _;cases c<;>simp[cmpL]
  |cons x xs ih=>
   intro b c E F hc Y h2;cases b with
   |nil=>simp[cmpL] at Y
   |cons y S=>
    cases c with
    |nil=>simp[cmpL] at h2
    |cons z zs=>
     have R:=E x ah;have M:=F y ah;have D:=hc z ah;rw[cmpL] at Y h2 ⊢;by_cases e1:f x y=0
     ·have a1:=h.zero x y R M e1
      grind
     ·rw[au e1] at Y
      by_cases e2:f y z=0
      ·have a2:=h.zero y z M D e2
       grind
      ·rw[au e2] at h2
       have h3:=h.lt_trans R M D ae ae;omega
theorem nk:Cmp (fun _:Int=>True) Lib.compareInt:=by
 refine⟨fun a b _ _=>?_,fun a b _ _ h=>?_,fun a b c _ _ _ f D=>?_⟩
 ·unfold Lib.compareInt;omega
 ·unfold Lib.compareInt at h;omega
 ·unfold Lib.compareInt at f D ⊢;omega
theorem lt_irrefl(a:List UInt8):¬a<a:=by
 simp
theorem jZ a b:(Lib.compareBytes a b=-1∧a<b)∨(Lib.compareBytes a b=1∧b<a)∨(Lib.compareBytes a b=0∧¬a<b∧¬b<a):=by
 rw[eH]
 grind
theorem Jh{a b c:List UInt8}(h:a<b)(k:b<c):a<c:=List.lt_trans h k
theorem Ji{a b:List UInt8}(h:a<b):¬b<a:=fun k=>lt_irrefl a (Jh h k)
theorem T4:∀(a b:List UInt8),¬a<b→¬b<a→a=b
 |[],[],_,_=>rfl
 |[],y::f,h,_=>absurd ah h
 |x::xs,[],_,h=>absurd ah h
 |x::xs,y::f,h,k=>by
  grind
theorem iy:Cmp (fun _:List UInt8=>True) Lib.compareBytes:=by
 refine⟨fun a b _ _=>?_,fun a b _ _ h=>?_,fun a b c _ _ _ M O=>?_⟩
 ·rcases jZ a b with⟨e,h⟩|⟨e,h⟩|⟨e,h,k⟩
  ·rw[e,eH,au (Ji h),ay h];rfl
  ·rw[e,eH,ay h]
  grind
 ·rcases jZ a b with⟨e,_⟩|⟨e,_⟩|⟨_,E,k⟩
  ·omega
  ·omega
  grind
 ·have D:a=b∨a<b:=by
   rcases jZ a b with⟨_,h⟩|⟨e,_⟩|⟨_,E,k⟩
   ·exact Or.inr h
   ·omega
   ·grind
  have F:b=c∨b<c:=by
   rcases jZ b c with⟨_,h⟩|⟨e,_⟩|⟨_,E,k⟩
   ·exact Or.inr h
   ·omega
   ·grind
  have f:a=c∨a<c:=by
   rcases D with rfl|D
   ·exact F
   ·grind
  rcases f with rfl|f
  ·grind
  ·rw[eH,ay f];decide
theorem val_inj{a b}(E:isNum a=true)(M:isNum b=true)(h:val a=val b):a=b:=by
 rcases Nat.lt_trichotomy a.length b.length with f|f|f
 ·have:=kR E M f;omega
 ·have F:=((gB a).1 E).2.1
  have O:=((gB b).1 M).2.1;have D:=jz a b F O f;rw[h] at D;have R:Lib.compareInt _ (val b)=0:=nk.self trivial;rw[R] at D;exact iy.zero a b trivial trivial D
 ·have:=kR M E f;omega
theorem wF:Cmp (fun a=>isNum a=true) gI:=by
 refine⟨fun a b _ _=>nk.anti _ _ trivial trivial,fun a b E F h=>?_,fun a b c _ _ _ f D=>nk.trans _ _ _ trivial trivial trivial f D⟩;have:=nk.zero _ _ trivial trivial h;exact val_inj E F ae
theorem kY a b:iI a b=if isNum a=true then (if isNum b=true then gI a b else -1) else (if isNum b=true then 1 else Lib.compareBytes a b):=by
 unfold iI gI
 grind
theorem RS:Cmp (fun _:List UInt8=>True) iI:=by
 refine⟨fun a b _ _=>?_,fun a b _ _ h=>?_,fun a b c _ _ _ E F=>?_⟩
 ·rw[kY,kY]
  by_cases f:isNum a=true<;>by_cases D:isNum b=true<;>simp only[f,D,fC,iV,dS]
  all_goals first|rfl|exact wF.anti a b f D|exact iy.anti a b trivial trivial
 ·rw[kY] at h
  by_cases f:isNum a=true<;>by_cases D:isNum b=true<;>simp only[f,D,fC,iV,dS] at h
  ·exact wF.zero a b f D h
  ·omega
  ·omega
  ·exact iy.zero a b trivial trivial h
 ·rw[kY] at E F ⊢
  by_cases f:isNum a=true<;>by_cases D:isNum b=true<;>by_cases M:isNum c=true<;>simp only[f,D,M,fC,iV,dS] at E F ⊢
  ·exact wF.trans a b c f D M E F
  ·decide
  ·omega
  ·decide
  ·omega
  ·omega
  ·omega
  ·exact iy.trans a b c trivial trivial trivial E F
def qW(v w:List (List UInt8)):Int:=if decide (0<v.length)=decide (0<w.length) then cmpL iI v w else if 0<v.length then -1 else 1
theorem LY:Cmp (fun _:List (List UInt8)=>True) qW:=by
 have R:=RS.list;have f:∀l:List (List UInt8),∀x∈l,True:=fun _ _ _=>trivial
 have F:∀v w:_,qW v w=if v=[] then (if w=[] then 0 else 1) else (if w=[] then -1 else cmpL iI v w):=by
  intro v w;cases v<;>cases w<;>simp[qW,cmpL]
 refine⟨fun a b _ _=>?_,fun a b _ _ h=>?_,fun a b c _ _ _ M O=>?_⟩
 ·rw[F,F]
  by_cases D:a=[]<;>by_cases E:b=[]<;>simp only[D,E,fC,dS]
  all_goals first|rfl|exact R.anti a b (f a) (f b)
 ·rw[F] at h
  by_cases D:a=[]<;>by_cases E:b=[]<;>simp only[D,E,fC,dS] at h
  ·rw[D,E]
  ·omega
  ·omega
  ·exact R.zero a b (f a) (f b) h
 ·rw[F] at M O ⊢
  by_cases D:a=[]<;>by_cases E:b=[]<;>by_cases S:c=[]<;>simp only[D,E,S,fC,dS] at M O ⊢
  ·decide
  ·omega
  ·omega
  ·omega
  ·decide
  ·omega
  ·decide
  ·exact R.trans a b c (f a) (f b) (f c) M O
theorem Ak:Cmp (fun v=>∀x∈v.1,isNum x=true) jS:=by
 have F:=wF.list;have M:∀v w,jS v w=if cmpL gI v.1 w.1=0 then qW v.2 w.2 else _:=fun v w=>rfl
 refine⟨fun a b D f=>?_,fun a b D f h=>?_,fun a b c D f T E R=>?_⟩
 ·have E:=F.anti a.1 b.1 D f
  rw[M,M];by_cases e:cmpL gI a.1 b.1=0
  ·rw[ay e,ay ae];exact LY.anti _ _ trivial trivial
  omega
 ·rw[M] at h
  by_cases e:cmpL gI a.1 b.1=0
  ·rw[ay e] at h
   exact Prod.ext (F.zero _ _ D f e) (LY.zero _ _ trivial trivial h)
  omega
 ·rw[M] at E R ⊢
  by_cases S:cmpL gI a.1 b.1=0
  ·have e:=F.zero _ _ D f S
   rw[ay S] at E;rw[e];by_cases O:cmpL gI b.1 c.1=0
   ·rw[ay O] at R ⊢
    exact LY.trans _ _ _ trivial trivial trivial E R
   omega
  ·rw[au S] at E
   by_cases O:cmpL gI b.1 c.1=0
   ·have e:=F.zero _ _ f T O
    grind
   ·rw[au O] at R
    have U:=F.lt_trans D f T ae ae;omega
def vw(c:UInt8):List (List UInt8)→List UInt8
 |[]=>[]
 |[p]=>p
 |p::q::f=>p++c::vw c (q::f)
theorem uy(c:UInt8):∀l,vw c (spl c l)=l
 |[]=>rfl
 |b::l=>by
  have f:=uy c l;have D:=jR c l;unfold spl;by_cases E:b=c
  ·rw[ay E]
   cases h:spl c l with
   |nil=>exact absurd h D
   |cons p F=>rw[h] at f;rw[vw,f,E];rfl
  ·rw[au E]
   cases h:spl c l with
   |nil=>exact absurd h D
   |cons p F=>
    rw[h] at f;cases F with
    |nil=>simp only[vw] at f ⊢;rw[f]
    |cons q M=>simp only[vw] at f ⊢;rw[←f];rfl
theorem eQ{l}{v:List (List UInt8)×List (List UInt8)}(h:parse l=v):l=118::(vw 46 v.1++(if v.2=[] then [] else 45::vw 46 v.2))∧∀x∈v.1,isNum x=true:=by
 unfold parse at h
 split at h
 ·rename_i E
  have hl:l=118::l.tail:=by
   cases l with
   |nil=>simp at E
   |cons a t=>simp at E;rw[E.1];rfl
  have U:=pH 45 l.tail
  split at h
  ·simp at h
  ·rename_i D f
   unfold gf at f
   split at f
   ·rename_i V
    have F:spl 46 (dK 45 l.tail).1=D:=by injection f
    have O:vw 46 D=(dK 45 l.tail).1:=by rw[←F,uy]
    have R:∀x∈D,isNum x=true:=fun x M=>by
     rw[←F] at M;have S:=ju.1 V.2 x M;unfold iR at S
     grind
    split at h
    ·grind
    ·rename_i b T
     rw[T] at U;unfold qM at h
     split at h
     ·have Y:v=(D,spl 46 b):=by simp at h;exact h.symm
      subst Y;refine⟨?_,R⟩;rw[au (jR 46 b),O,uy]
      grind
     ·simp at h
   grind
 ·simp at h
theorem Al{a b}{v:List (List UInt8)×List (List UInt8)}(f:parse a=v)(D:parse b=v):a=b:=by
 rw[(eQ f).1,(eQ D).1]
end Pv
section
open Go.Sort
namespace Ss
theorem nT{β:Type}(f:Nat→β)a n k:(List.range' a (n+k)).map f=(List.range' a n).map f++(List.range' (a+n) k).map f:=by
 rw[←eY];simp
variable{α:Type}[Inhabited α]
def qX(a b n:Nat)(d e:Array α):Prop:=e.size=d.size∧∀p,e[p]! =if a≤p∧p<a+n then d[p-a+b]! else if b≤p∧p<b+n then d[p-b+a]! else d[p]!
theorem qX.zero a b(d:Array α):qX a b 0 d d:=⟨rfl,fun p=>ax⟩
theorem qX.step{a b n}{d e:Array α}(h:qX a b n d e)(hd:a+n<b∨b+n<a)(f:a+n<d.size)(D:b+n<d.size):qX a b (n+1) d (swp e (a+n) (b+n)):=by
 refine⟨by rw[swp_size];exact h.1,fun p=>?_⟩;rw[swp_get e (by rw[h.1];exact f) (by rw[h.1];exact D) p];simp only[h.2]
 repeat' split
 all_goals first
  |omega
  |rfl
  |(congr 1;omega)
def Rot(a m b:Nat)(d e:Array α):Prop:=e.size=d.size∧∀p,e[p]! =if a≤p∧p<a+(b-m) then d[p-a+m]! else if a+(b-m)≤p∧p<b then d[p-(b-m)]! else d[p]!
theorem LZ{m i}{d e:Array α}(f:i≤m)(h:qX (m-i) m i d e):Rot (m-i) m (m+i) d e:=by
 refine⟨h.1,fun p=>?_⟩;simp only[h.2]
 grind
theorem L5{m i j}{d e f:Array α}(F:i≤m)(E:j<i)(h:qX (m-i) m j d e)(D:Rot (m-(i-j)) m (m+j) e f):Rot (m-i) m (m+j) d f:=by
 refine⟨D.1.trans h.1,fun p=>?_⟩;simp only[D.2,h.2]
 repeat' split
 all_goals first
  |omega
  |rfl
  |(congr 1;omega)
theorem Jj{m i j}{d e f:Array α}(F:i≤m)(E:i<j)(h:qX (m-i) (m+j-i) i d e)(D:Rot (m-i) m (m+(j-i)) e f):Rot (m-i) m (m+j) d f:=by
 refine⟨D.1.trans h.1,fun p=>?_⟩;simp only[D.2,h.2]
 repeat' split
 all_goals first
  |omega
  |rfl
  |(congr 1;omega)
theorem Rot.perm{a m b}{d e:Array α}(h:Rot a m b d e)(f:a≤m)(D:m≤b)(E:b≤d.size):PermIn a b d e:=by
 refine⟨h.1,fun i T=>by rw[h.2,au ae,au ae],?_⟩;rw[extract_toList d a b E,extract_toList e a b (by rw[h.1];exact E)];have F:b-a=(b-m)+(m-a):=ae;have M:b-a=(m-a)+(b-m):=ae
 have R:(List.range' a (b-m)).map (fun i=>e[i]!)=(List.range' m (b-m)).map (fun i=>d[i]!):=by
  apply List.ext_getElem
  ·simp
  ·intro n f D
   simp only[qJ,List.getElem_range',eE];simp at f;rw[h.2,ay ae]
   grind
 have S:(List.range' (a+(b-m)) (m-a)).map (fun i=>e[i]!)=(List.range' a (m-a)).map (fun i=>d[i]!):=by
  apply List.ext_getElem
  ·simp
  ·intro n f D
   simp only[qJ,List.getElem_range',eE];simp at f;rw[h.2,au ae,ay ae]
   grind
 conv=>lhs;rw[F,nT,R,S]
 conv=>rhs;rw[M,nT]
 have O:a+(m-a)=m:=ae;rw[O];exact List.perm_append_comm
end Ss
end
section
open Go.Sort
namespace Ss
section
variable{α:Type}{lt:α→α→Bool}{tag:α→Nat}
def rl(lt:α→α→Bool)(tag:α→Nat)(x y:α):Bool:=lt x y||(!lt y x&&decide (tag x<tag y))
theorem cE x y:rl lt tag x y=false↔lt x y=false∧(lt y x=true∨tag y≤tag x):=by
 unfold rl
 grind
theorem Pe x y:rl lt tag x y=true↔lt x y=true∨(lt y x=false∧tag x<tag y):=by
 unfold rl;simp
theorem fJ(h:SWO lt){x y z}(f:lt x y=true)(D:lt z y=false):lt x z=true:=by
 cases h3:lt x z
 ·rw[h.ntrans x z y h3 D] at f;cases f
 ·rfl
theorem fK(h:SWO lt){x y z}(D:lt y x=false)(f:lt y z=true):lt x z=true:=by
 cases h3:lt x z
 ·rw[h.ntrans y x z D h3] at f;cases f
 ·rfl
theorem L9(h:SWO lt):SWO (rl lt tag) where
 irrefl x:=by rw[cE];exact⟨h.irrefl x,Or.inr (ai _)⟩
 trans x y z h1 h2:=by
  rw[Pe] at*;rcases h1 with a|⟨D,F⟩
  ·rcases h2 with b|⟨f,E⟩
   ·exact Or.inl (h.trans x y z a b)
   ·exact Or.inl (fJ h a f)
  ·rcases h2 with b|⟨f,E⟩
   ·exact Or.inl (fK h D b)
   ·exact Or.inr ⟨h.ntrans z y x f D,ae⟩
 ntrans x y z h1 h2:=by
  rw[cE] at*;obtain⟨D,F⟩:=h1;obtain⟨f,E⟩:=h2;refine⟨h.ntrans x y z D f,?_⟩;rcases F with a|a
  ·exact Or.inl (fK h f a)
  ·rcases E with b|b
   ·exact Or.inl (fJ h b D)
   omega
end
variable{α:Type}[Inhabited α]{lt:α→α→Bool}{tag:α→Nat}
def eU(tag:α→Nat)(a b:Nat)(d:Array α):Prop:=∀i j,a≤i→i<j→j<b→tag d[i]! < tag d[j]!
theorem vz(a:Nat):∀(j:Nat)(d:Array α),(∀p,a≤p→p<j→tag d[p]! < tag d[j]!)→j<d.size→insInner lt a j d=insInner (rl lt tag) a j d
 |0,d,_,_=>rfl
 |j+1,d,h,f=>by
  unfold insInner;by_cases M:j+1>a
  ·have e:rl lt tag d[j+1]! d[j]! =lt d[j+1]! d[j]!:=by
    have F:=h j ae ae;unfold rl;have D:decide (tag d[j+1]! < tag d[j]!)=false:=br ae;rw[D];simp
   rw[e]
   have E:=vz a j (swp d (j+1) j) (fun p R O=>by
    rw[swp_get d f ae,swp_get d f ae,au ae,au ae,ay rfl]
    grind) (by rw[swp_size];omega)
   rw[E]
  grind
theorem Ma(F:SWO lt)a i d(M:a≤i)(R:i+1≤d.size)(E:SortedIn (rl lt tag) a i d):PermIn a (i+1) d (insInner (rl lt tag) a i d)∧SortedIn (rl lt tag) a (i+1) (insInner (rl lt tag) a i d):=
 insInner_spec (L9 F) swp_permIn permIn_refl permIn_trans a (i+1) i ae i d M (ai _) R ⟨fun p q f D O _ U=>E p q f D ae,fun q S T=>ae⟩
theorem DF(V:SWO lt)a b:∀n i d,b-i≤n→a≤i→(∀p q,a≤p→p<i→i≤q→q<b→tag d[p]! < tag d[q]!)→eU tag i b d→b≤d.size→SortedIn (rl lt tag) a i d→insOuter lt a b i d=insOuter (rl lt tag) a b i d:=by
 intro n
 induction n with
 |zero=>
  intro i d hn _ _ _ _ _;unfold insOuter;rw[au ae,au ae]
 |succ n ih=>
  intro i d hn Y U T hb S;unfold insOuter;by_cases D:i<b
  ·rw[ay D,ay D]
   rw[vz a i d (fun p M E=>U p i M E (ai _) D) ae];obtain⟨F,O⟩:_∧_:=Ma V a i d Y ae S;refine ih _ _ ae ae (fun p q M E hq f=>?_) (fun p q M R f=>?_) (by rw[F.1];exact hb) O
   ·rw[F.2.1 q (Or.inr hq)]
    refine permIn_all d _ a _ (fun x=>_<_) ae F (fun r hr a0=>?_) p M E;by_cases e:r=i
    ·rw[e];exact T i q (ai _) ae f
    ·exact U r q hr ae ae f
   ·rw[F.2.1 p (Or.inr M),F.2.1 q (Or.inr ae)]
    exact T p q ae R f
  ·grind
theorem xD(F:SWO lt)d a b(f:a≤b)(M:b≤d.size)(O:eU tag a b d):PermIn a b d (insertionSort lt d a b)∧SortedIn (rl lt tag) a b (insertionSort lt d a b):=by
 have e:insertionSort lt d a b=insertionSort (rl lt tag) d a b:=by
  unfold insertionSort;exact DF F a b _ _ d (ai _) ae (fun p q S T hq E=>O p q S ae E) (fun i j hi D R=>O i j ae D R) M (fun i j U V Y=>ae)
 rw[e];exact insertionSort_holds (L9 F) d a b f M
structure ie(lt:α→α→Bool)(tag:α→Nat)(a m b:Nat)(d:Array α):Prop where
 s1:SortedIn (rl lt tag) a m d
 s2:SortedIn (rl lt tag) m b d
 tg:∀i j,a≤i→i<m→m≤j→j<b→tag d[i]! < tag d[j]!
def eF(lt:α→α→Bool)(tag:α→Nat)(a b:Nat)(d e:Array α):Prop:=PermIn a b d e∧SortedIn (rl lt tag) a b e
theorem le1{a m b i j}{d}(h:ie lt tag a m b d)(f:a≤i)(F:i≤j)(D:j<m)(E:SWO lt):lt d[j]! d[i]! =false:=by
 by_cases e:i=j
 ·rw[e];exact E.irrefl _
 ·exact((cE _ _).1 (h.s1 i j f ae D)).1
theorem le2{a m b i j}{d}(h:ie lt tag a m b d)(f:m≤i)(F:i≤j)(D:j<b)(E:SWO lt):lt d[j]! d[i]! =false:=by
 by_cases e:i=j
 ·rw[e];exact E.irrefl _
 ·exact((cE _ _).1 (h.s2 i j f ae D)).1
theorem qx m e(d:Array α):Rot m m e d d:=⟨rfl,fun p=>by
 grind⟩
theorem oJ s m(d:Array α):Rot s m m d d:=⟨rfl,fun p=>by
 grind⟩
section
variable{a m b s e:Nat}{d d1:Array α}
theorem Rot.at0(h:Rot s m e d d1){i}(f:i<s):d1[i]! =d[i]!:=by rw[h.2,au ae,au ae]
theorem Rot.at1(h:Rot s m e d d1){i}(f:s≤i)(D:i<s+(e-m)):d1[i]! =d[i-s+m]!:=by rw[h.2,ay ae]
theorem Rot.at2(h:Rot s m e d d1){i}(f:s+(e-m)≤i)(D:i<e):d1[i]! =d[i-(e-m)]!:=by rw[h.2,au ae,ay ae]
theorem Rot.at3(h:Rot s m e d d1){i}(f:e≤i)(D:s≤m)(he:m≤e):d1[i]! =d[i]!:=by rw[h.2,au ae,au ae]
theorem qY(h:ie lt tag a m b d)(r:Rot s m e d d1)(O:s≤m)(R:m≤e)(S:e≤b):ie lt tag a s (s+(e-m)) d1:=by
 refine⟨fun i j f D E=>?_,fun i j f D E=>?_,fun i j f F E M=>?_⟩
 ·rw[r.at0 (i:=i) ae,r.at0 E];exact h.s1 i j f D ae
 ·rw[r.at1 f ae,r.at1 ae E];exact h.s2 _ _ ae ae ae
 ·rw[r.at0 F,r.at1 E M];exact h.tg _ _ f ae ae ae
theorem oK(h:ie lt tag a m b d)(r:Rot s m e d d1)(S:a≤s)(E:s≤m)(F:m≤e):ie lt tag (s+(e-m)) e b d1:=by
 refine⟨fun i j f M D=>?_,fun i j f M D=>?_,fun i j f O D R=>?_⟩
 ·rw[r.at2 f ae,r.at2 ae D];exact h.s1 _ _ ae ae ae
 ·rw[r.at3 f E F,r.at3 ae E F];exact h.s2 _ _ ae ae D
 ·rw[r.at2 f O,r.at3 D E F];exact h.tg _ _ ae ae ae R
structure Found(lt:α→α→Bool)(a m b s e:Nat)(d:Array α):Prop where
 c1:∀x y,a≤x→x<s→e≤y→y<b→lt d[y]! d[x]! =false
 c2:∀x y,m≤x→x<e→s≤y→y<m→lt d[x]! d[y]! =true
theorem RU(U:SWO lt)(h:ie lt tag a m b d)(f:Found lt a m b s e d)(r:Rot s m e d d1)(S:s≤m)(T:m≤e){i j}(F:a≤i)(M:i<s+(e-m))(D:s+(e-m)≤j)(O:j<b):rl lt tag d1[j]! d1[i]! =false:=by
 by_cases R:i<s
 ·rw[r.at0 R]
  by_cases E:j<e
  ·rw[r.at2 D E];exact h.s1 _ _ F ae ae
  ·rw[r.at3 ae S T,cE]
   exact⟨f.c1 _ _ F R ae O,Or.inr (Nat.le_of_lt (h.tg _ _ F ae ae O))⟩
 ·rw[r.at1 ae M]
  by_cases E:j<e
  ·rw[r.at2 D E,cE]
   have k:=f.c2 (i-s+m) (j-(e-m)) ae ae ae ae;exact⟨U.asymmA k,Or.inl k⟩
  ·rw[r.at3 ae S T];exact h.s2 _ _ ae ae O
theorem merged{d2 d3}{c}(hS:SWO lt)(h:ie lt tag a m b d)(f:Found lt a m b s e d)(r:Rot s m e d d1)(h1:a≤s)(T:s≤m)(U:m≤e)(h4:e≤b)(hb:b≤d.size)(hc:c=s+(e-m))
  (M:eF lt tag a c d1 d2) (D:eF lt tag c b d2 d3):eF lt tag a b d d3:=by
 subst hc;have z1:=r.1;have z2:=M.1.1;refine⟨permIn_trans _ _ _ a b (permIn_mono _ _ s e a b h1 h4 hb (r.perm T U ae)) (permIn_trans _ _ _ a b (permIn_mono _ _ a _ a b (ai _) ae ae M.1) (permIn_mono _ _ _ b a b ae (ai _) ae D.1)),fun i j hi E V=>?_⟩;by_cases S:j<s+(e-m)
 ·rw[D.1.2.1 i (Or.inl ae),D.1.2.1 j (Or.inl S)]
  exact M.2 i j hi E S
 ·by_cases Y:s+(e-m)≤i
  ·exact D.2 i j Y E V
  ·rw[D.1.2.1 i (Or.inl ae)]
   have k:=fun y R F=>
    permIn_all d1 d2 a _ (fun v=>rl lt tag d1[y]! v=false) ae M.1 (fun x hx O=>RU hS h f r T U hx O R F)
   have k2:∀y,s+(e-m)≤y→y<b→rl lt tag d2[y]! d2[i]! =false:=fun y R F=>by
    rw[M.1.2.1 y (Or.inr R)]
    grind
   exact permIn_all d2 d3 _ b (fun v=>rl lt tag v _=false) ae D.1 k2 j ae V
theorem eF.pO(h:SortedIn (rl lt tag) a b d):eF lt tag a b d d:=⟨permIn_refl d a b,h⟩
theorem vA(h:ie lt tag a m b d)(f:m=a):SortedIn (rl lt tag) a b d:=by subst f;exact h.s2
theorem sg(h:ie lt tag a m b d)(f:m=b):SortedIn (rl lt tag) a b d:=by subst f;exact h.s1
theorem Pf(U:SWO lt)(h:ie lt tag a (a+1) b d)(r:Rot a (a+1) e d d1)(D:a+1≤e)(E:e≤b)(V:b≤d.size)(q1:∀x,a+1≤x→x<e→lt d[x]! d[a]! =true)(q2:∀x,e≤x→x<b→lt d[x]! d[a]! =false):eF lt tag a b d d1:=by
 have f:Found lt a (a+1) b a e d:=⟨fun x y S T=>ae,fun x y S T D E=>by
  grind⟩
 have L:=qY h r ae D E;have H:=oK h r (ai _) ae D;refine merged U h f r (ai _) ae D E V rfl (eF.pO (vA L rfl)) (eF.pO fun i j M F O=>?_);by_cases Y:j<e
 ·omega
 ·by_cases R:e≤i
  ·exact H.s2 i j R F O
  ·rw[cE]
   refine⟨?_,Or.inr (Nat.le_of_lt (H.tg i j M ae ae O))⟩;rw[r.at3 ae ae D,r.at2 M ae]
   grind
theorem Jk(U:SWO lt)(h:ie lt tag a m (m+1) d)(r:Rot s m (m+1) d d1)(E:a≤s)(D:s≤m)(V:m+1≤d.size)(q1:∀x,a≤x→x<s→lt d[m]! d[x]! =false)(q2:∀x,s≤x→x<m→lt d[m]! d[x]! =true):eF lt tag a (m+1) d d1:=by
 have f:Found lt a m (m+1) s (m+1) d:=⟨fun x y E D S T=>ae,fun x y E D S T=>by
  grind⟩
 have L:=qY h r D ae (ai _);have H:=oK h r E D ae;refine merged U h f r E D ae (ai _) V rfl (eF.pO fun i j M F O=>?_) (eF.pO (sg H rfl));by_cases R:j<s
 ·exact L.s1 i j M F R
 ·by_cases Y:s≤i
  ·omega
  ·rw[cE]
   refine⟨?_,Or.inr (Nat.le_of_lt (L.tg i j M ae ae O))⟩;rw[r.at0 (i:=i) ae,r.at1 ae O]
   grind
theorem RV{k}(h:Rot a (a+1) (k+1) d d1)(f:a≤k)(D:k+1<d.size):Rot a (a+1) (k+2) d (swp d1 k (k+1)):=by
 refine⟨by rw[swp_size];exact h.1,fun p=>?_⟩;rw[swp_get d1 (by rw[h.1];omega) (by rw[h.1];omega) p];simp only[h.2]
 repeat' split
 all_goals first
  |omega
  |rfl
  |(congr 1;omega)
theorem Mb{k}(h:Rot k m (m+1) d d1)(D:k≤m)(f:0<k)(E:m<d.size):Rot (k-1) m (m+1) d (swp d1 k (k-1)):=by
 refine⟨by rw[swp_size];exact h.1,fun p=>?_⟩;rw[swp_get d1 (by rw[h.1];omega) (by rw[h.1];omega) p];simp only[h.2]
 repeat' split
 all_goals first
  |omega
  |rfl
  |(congr 1;omega)
end
end Ss
end
section
open Go.Sort
namespace Ss
variable{α:Type}[Inhabited α]{lt:α→α→Bool}{tag:α→Nat}{a m b G I Q J:Nat}{d:Array α}
theorem Mc(f:SWO lt)(h:ie lt tag a m b d)(e0:Q=a∨Q+b=G)(e1:J=m∨J+m=G)(h1:Q≤I)(h2:I≤J)(ha:a≤Q)(hr:J≤m)(hb:G≤Q+b)(hm:J+m≤G)
  (V:∀x,Q≤x→x<I→lt d[G-1-x]! d[x]! =false) (Y:∀x,I≤x→x<J→lt d[G-1-x]! d[x]! =true):Found lt a m b I (G-I) d:=by
 refine⟨fun x y E U F M=>?_,fun x y E T F O=>?_⟩
 ·by_cases c:Q=I
  ·omega
  ·have k:=V (I-1) ae ae
   have D:G-1-(I-1)=G-I:=ae;rw[D] at k;have R:=le2 h ae F M f;have S:=le1 h (j:=I-1) E ae ae f;exact f.ntrans _ _ _ (f.ntrans _ _ _ R k) S
 ·by_cases c:I=J
  ·omega
  ·have k:=Y I (ai _) ae
   have D:G-1-I=G-I-1:=ae;rw[D] at k;have R:=le2 h (j:=G-I-1) E ae ae f;have S:=le1 h ae F O f;exact fJ f (fK f R k) S
theorem Pg(f:SWO lt)(h:ie lt tag a m b d)(M:a≤Q)(S:J≤m)(O:G≤Q+b)(hm:J+m≤G){c x}(T:Q≤x)(D:x≤c)(R:c<J)(k:lt d[G-1-c]! d[c]! =false):lt d[G-1-x]! d[x]! =false:=by
 have E:=le2 h (i:=G-1-c) (j:=G-1-x) ae ae ae f;have F:=le1 h ae D ae f;exact f.ntrans _ _ _ (f.ntrans _ _ _ E k) F
theorem Ph(f:SWO lt)(h:ie lt tag a m b d)(M:a≤Q)(S:J≤m)(O:G≤Q+b)(hm:J+m≤G){c x}(R:Q≤c)(D:c≤x)(T:x<J)(k:lt d[G-1-c]! d[c]! =true):lt d[G-1-x]! d[x]! =true:=by
 have E:=le2 h (i:=G-1-x) (j:=G-1-c) ae ae ae f;have F:=le1 h ae D ae f;exact fJ f (fK f E k) F
theorem ie.congr{e}(h:ie lt tag a m b d)(he:∀i,a≤i→i<b→e[i]! =d[i]!)(O:a≤m)(R:m≤b):ie lt tag a m b e:=
 ⟨fun i j f D E=>by rw[he i f ae,he j ae ae];exact h.s1 i j f D E,
  fun i j f D E=>by rw[he i ae ae,he j ae E];exact h.s2 i j f D E,
  fun i j f M E F=>by rw[he i f ae,he j ae F];exact h.tg i j f M E F⟩
theorem Me{s e}(f:s≤m)(D:m≤e)(h:¬(s<m∧m<e)):Rot s m e d d:=by
 by_cases c:s=m
 ·subst c;exact qx s e d
 ·obtain rfl:e=m:=ae
  exact oJ s e d
theorem Am(h:ie lt tag a m b d)(f:a≤m)(D:m≤b)(E:¬(a<m∧m<b)):eF lt tag a b d d:=by
 by_cases c:m=a
 ·exact eF.pO (vA h c)
 ·exact eF.pO (sg h ae)
end Ss
end
section
open Go.Sort
namespace Ss
variable{α:Type}[Inhabited α]{lt:α→α→Bool}{tag:α→Nat}
def vU(tag:α→Nat)(n c:Nat)(d:Array α):Prop:=∀i l,i<c→c≤l→l<n→tag d[i]! < tag d[l]!
theorem vU.perm{n c a b}{d e}(h:vU tag n c d)(f:PermIn a b d e)(V:b≤n)(M:b≤d.size)(U:c≤a∨b≤c):vU tag n c e:=by
 intro i l D E F
 have step:∀i,i<c→∀l,c≤l→l<n→tag e[i]! < tag d[l]!:=by
  intro i D l E F;by_cases O:a≤i∧i<b
  ·exact permIn_all d e a b (fun x=>_<_) M f (fun q S T=>h q l ae E F) i O.1 O.2
  ·rw[f.2.1 i ae];exact h i l D E F
 by_cases R:a≤l∧l<b
 ·exact permIn_all d e a b (fun x=>_<_) M f (fun q S T=>step i D q ae ae) l R.1 R.2
 ·rw[f.2.1 l ae];grind
theorem SortedIn.far{f}{a b x y}{d e:Array α}(h:SortedIn f x y d)(D:PermIn a b d e)(O:y≤a∨b≤x):SortedIn f x y e:=by
 intro i j E F M;rw[D.2.1 i ae,D.2.1 j ae];exact h i j E F M
theorem SortedIn.less{f}{x y D E}{d:Array α}(h:SortedIn f x y d)(F:x≤D)(M:E≤y):SortedIn f D E d:=fun i j a b c=>h i j ae b ae
structure Bs(lt:α→α→Bool)(tag:α→Nat)(s p n:Nat)(d:Array α):Prop where
 so:∀j,p≤j*s→SortedIn (rl lt tag) (j*s) (min (j*s+s) n) d
 bd:∀j,p≤j*s→vU tag n (j*s) d
structure Bl(lt:α→α→Bool)(tag:α→Nat)(s p n:Nat)(d:Array α):Prop where
 so:∀j,j*s+s≤p→SortedIn (rl lt tag) (j*s) (j*s+s) d
 bd:∀j,j*s≤p→vU tag n (j*s) d
theorem Bl.none s n(E:0<s)d:Bl lt tag s 0 n d:=
 ⟨fun j f=>ae,fun j f i l D=>ae⟩
theorem si{j k s:Nat}(h:k*s<j*s):k*s+s≤j*s:=by
 have:_:=Nat.lt_of_mul_lt_mul_right h;have f:=dD s (show k+1≤j from this)
 grind
theorem Bl.step{s k n}{d e}(h:Bl lt tag s (k*s) n d)(D:PermIn (k*s) (k*s+s) d e)(O:SortedIn (rl lt tag) (k*s) (k*s+s) e)(hcut:vU tag n (k*s+s) d)(E:k*s+s≤n)(R:n≤d.size):Bl lt tag s (k*s+s) n e:=by
 refine⟨fun j M=>?_,fun j M=>?_⟩
 ·by_cases f:j*s<k*s
  ·have:=si f
   exact SortedIn.far (h.so j this) D (Or.inl this)
  grind
 ·by_cases f:j*s≤k*s
  ·exact(h.bd j f).perm D E ae (Or.inl f)
  ·have:=si (show k*s<j*s by omega)
   have F:j*s=k*s+s:=ae;rw[F];exact hcut.perm D E ae (Or.inr (ai _))
theorem Bl.last{s k n}{d e}(h:Bl lt tag s (k*s) n d)(F:PermIn (k*s) n d e)(D:SortedIn (rl lt tag) (k*s) n e)(S:n<k*s+s)(E:n≤d.size):Bs lt tag s 0 n e:=by
 refine⟨fun j _=>?_,fun j _=>?_⟩
 ·by_cases f:j*s<k*s
  ·have:=si f
   exact SortedIn.less (SortedIn.far (h.so j this) F (Or.inl this)) (ai _) (Nat.min_le_left _ _)
  ·exact SortedIn.less D ae (Nat.min_le_right _ _)
 ·by_cases f:j*s≤k*s
  ·exact(h.bd j f).perm F (ai _) E (Or.inl f)
  ·have:=si (show k*s<j*s by omega)
   intro i l M O R;omega
theorem Bs.pre{s k n p}{d}(h:Bs lt tag s p n d)(D:p=(k+k)*s)m(hm:m≤p+s+s)(M:m≤n)(R:p+s≤m):ie lt tag p (p+s) m d:=by
 have f:(k+k)*s+s=(k+k+1)*s:=by rw[dR _ 1,eE]
 refine⟨?_,?_,?_⟩
 ·have:=h.so (k+k) ae
  grind
 ·have:=h.so (k+k+1) ae
  rw[←f,←D] at this;exact SortedIn.less this (ai _) ae
 ·have:=h.bd (k+k+1) ae
  rw[←f,←D] at this;exact fun i j _ E F O=>this i j E F ae
theorem Bs.rest{s p n m}{d e}(h:Bs lt tag s p n d)(D:PermIn p m d e)(hm:p≤m)(E:m≤n)(F:n≤d.size):Bs lt tag s m n e:=
 ⟨fun j f=>SortedIn.far (h.so j ae) D (Or.inr f),fun j f=>(h.bd j ae).perm D E ae (Or.inr f)⟩
theorem Bs.RY{s k n p}{d}(h:Bs lt tag s p n d)(E:p=(k+k)*s):vU tag n (p+s+s) d:=by
 have f:(k+k)*s+s=(k+k+1)*s:=by rw[dR _ 1,eE]
 have D:(k+k+1)*s+s=(k+k+1+1)*s:=by rw[dR (_+1),eE]
 have:=h.bd (k+k+1+1) ae
 grind
theorem vB(k s:Nat):(k+k)*s=k*(s+s):=ax
theorem FZ{s k n p}{d e}(M:p=k*(s+s))(h:Bs lt tag s p n d)(F:Bl lt tag (s+s) p n d)(E:p+(s+s)≤n)(f:n≤d.size)(D:eF lt tag p (p+(s+s)) d e):
  Bs lt tag s (p+(s+s)) n e∧Bl lt tag (s+s) (p+(s+s)) n e:=by
 refine⟨h.rest D.1 ae E f,?_⟩;have c:=h.RY (k:=k) ax;subst M;exact F.step D.1 D.2 ax E f
theorem xE{s k n p}{d e}(M:p=k*(s+s))(E:Bl lt tag (s+s) p n d)(F:n<p+(s+s))(f:n≤d.size)(D:eF lt tag p n d e):Bs lt tag (s+s) 0 n e:=by
 subst M;exact E.last D.1 D.2 F f
theorem F0{s k n p}{d}(E:p=k*(s+s))(h:Bs lt tag s p n d)(D:Bl lt tag (s+s) p n d)(M:n≤p+s)(F:0<s)(f:n≤d.size):Bs lt tag (s+s) 0 n d:=by
 refine xE E D ae f ⟨permIn_refl d p n,?_⟩;have:=h.so (k+k) ax
 grind
theorem Bs.whole{s n}{d}(h:Bs lt tag s 0 n d)(f:n≤s):SortedIn (rl lt tag) 0 n d:=by
 have:=h.so 0 ae
 grind
theorem vU.RZ{a n c}{d}(h:vU tag n a d)(E:eU tag a n d)(O:a≤c):vU tag n c d:=by
 intro i l F M f;by_cases D:i<a
 ·exact h i l D ae f
 ·exact E i l ae ae f
theorem eU.less{a f b D}{d}(h:eU tag a b d)(E:a≤f)(F:D≤b):eU tag f D d:=fun i j x y z=>h i j ae y ae
theorem eU.far{a b x y}{d e}(h:eU tag x y d)(f:PermIn a b d e)(M:b≤x):eU tag x y e:=by
 intro i j D E F;rw[f.2.1 i ae,f.2.1 j ae];exact h i j D E F
theorem F2{s k n p}{d}(S:SWO lt)(O:p=k*s)(F:Bl lt tag s p n d)(E:eU tag p n d)(M:p+s≤n)(D:n≤d.size):
  PermIn p (p+s) d (insertionSort lt d p (p+s))∧Bl lt tag s (p+s) n (insertionSort lt d p (p+s))∧eU tag (p+s) n (insertionSort lt d p (p+s)):=by
 obtain⟨f,R⟩:=xD S d p _ ae ae (E.less (ai _) M);refine⟨f,?_,(E.less ae (ai _)).far f (ai _)⟩;have T:vU tag n (p+s) d:=vU.RZ (by rw[O];exact F.bd k ae) E ae;subst O;exact F.step f R T M D
theorem F3{s k n p}{d}(M:SWO lt)(S:p=k*s)(O:Bl lt tag s p n d)(T:eU tag p n d)(D:p≤n)(R:n<p+s)(f:n≤d.size):
  PermIn p n d (insertionSort lt d p n)∧Bs lt tag s 0 n (insertionSort lt d p n):=by
 obtain⟨E,F⟩:=xD M d p n D f T;subst S;exact⟨E,O.last E F R f⟩
end Ss
end
section
open Go.Sort
namespace Ss
section
variable{α β:Type}{lt:α→α→Bool}{tag:α→Nat}
def ins(lt:α→α→Bool)(v:α)(L:List α):List α:=(L.reverse.dropWhile (lt v)).reverse++[v]++(L.reverse.takeWhile (lt v)).reverse
def aQ(lt:α→α→Bool)(L:List α):List α:=L.foldl (fun M x=>ins lt x M) []
theorem cK L x:aQ lt (L++[x])=ins lt x (aQ lt L):=by simp[aQ,qK]
theorem Pj v L:(ins lt v L)=L.length+1:=by
 have h:L=(L.reverse.dropWhile (lt v)).reverse++(L.reverse.takeWhile (lt v)).reverse:=by
  rw[←rF,oh,iU]
 have f:=iE List.length h;unfold ins
 grind
theorem aY L:(aQ lt L)=L.length:=by
 rw[←iU L]
 induction L.reverse with
 |nil=>rfl
 |cons a r f=>rw[jv,cK,Pj,f];simp
theorem uz{v}{post}(h:∀y∈post,lt v y=true):ins lt v post=v::post:=by
 have f:=fun y D=>h y (eO.1 D)
 have E:post.reverse.takeWhile (lt v)=post.reverse:=by
  have:=List.takeWhile_append_of_pos (l₂:=[]) f;simpa using this
 have F:post.reverse.dropWhile (lt v)=[]:=by
  have:=List.dropWhile_append_of_pos (l₂:=[]) f;simpa using this
 unfold ins
 grind
theorem BS{v y}{p post}(h:∀z∈post,lt v z=true)(F:lt v y=false):ins lt v (p++[y]++post)=p++[y]++[v]++post:=by
 have E:=fun z f=>h z (eO.1 f)
 have D:(p++[y]++post).reverse=post.reverse++(y::p.reverse):=ah;unfold ins;simp_all
theorem Pk f(D:β→β→Bool)(F:∀x y,lt x y=D (f x) (f y))v L:(ins lt v L).map f=ins D (f v) (L.map f):=by
 have e:lt v=_ ∘ f:=funext fun y=>F v y
 unfold ins;have E:_=L.reverse.map f:=List.map_reverse.symm;rw[E,List.takeWhile_map,List.dropWhile_map,e];simp
theorem xF f(D:β→β→Bool)(E:∀x y,lt x y=D (f x) (f y))L:(aQ lt L).map f=aQ D (L.map f):=by
 rw[←iU L]
 induction L.reverse with
 |nil=>rfl
 |cons a r F=>rw[jv,cK,Pk f D E,F,eY,List.map_singleton,cK]
theorem oL v L:(ins lt v L).Perm (v::L):=by
 have h:L=(L.reverse.dropWhile (lt v)).reverse++(L.reverse.takeWhile (lt v)).reverse:=by
  rw[←rF,oh,iU]
 unfold ins
 conv=>rhs;rw[h]
 simp
theorem cg L:(aQ lt L).Perm L:=by
 rw[←iU L]
 induction L.reverse with
 |nil=>exact jb _
 |cons a r f=>
  rw[jv,cK];refine(oL _ _).trans ?_;refine(List.Perm.cons _ f).trans ?_;exact(List.perm_append_comm (l₁:=[a]))
abbrev DG(lt:α→α→Bool)(tag:α→Nat)(L:List α):Prop:=L.Pairwise fun a b=>rl lt tag b a=false
theorem F4(U:SWO lt){v}{L}(ht:∀y∈L,tag y<tag v)(M:DG lt tag L):DG lt tag (ins lt v L):=by
 have e:L=(L.reverse.dropWhile (lt v)).reverse++(L.reverse.takeWhile (lt v)).reverse:=by
  rw[←rF,oh,iU]
 have hT:=fun y f=>by
  have:=List.all_takeWhile (p:=lt v) (l:=L.reverse);exact ju.1 this y f
 have S:∀y∈L.reverse.dropWhile (lt v),y∈L:=fun y f=>eO.1 ((List.dropWhile_sublist _).subset f)
 have hh:∀a r,L.reverse.dropWhile (lt v)=a::r→lt v a=false:=fun a r hr=>by
  have:=List.head?_dropWhile_not (lt v) L.reverse
  grind
 unfold DG at M ⊢;rw[e] at M;unfold ins;generalize L.reverse.takeWhile (lt v)=T at*;generalize L.reverse.dropWhile (lt v)=D at*;rw[jw] at M;obtain⟨V,s2,s3⟩:=M
 have Y:∀x∈D,lt v x=false:=fun x O=>by
  cases D with
  |nil=>cases O
  |cons a r=>
   have F:=hh a r rfl;rcases bI.1 O with e2|E
   ·grind
   ·have R:rl lt tag a x=false:=by
     rw[jv,jw] at V;exact V.2.2 x (by simpa using E) a ah
    exact U.ntrans _ _ _ F ((cE _ _).1 R).1
 rw[gX,jw];refine⟨V,?_,?_⟩
 ·rw[tQ,eM]
  refine⟨fun y f=>?_,s2⟩;have F:=hT y (eO.1 f)
  have R:lt y v=false:=by
   cases hq:lt y v with
   |false=>rfl
   |true=>exact absurd (U.trans _ _ _ F hq) (by rw[U.irrefl];decide)
  exact(cE _ _).2 ⟨R,Or.inl F⟩
 ·intro x O y f
  rcases bT.1 f with f|f
  ·rw[fW.1 f]
   have E:=eO.1 O;exact(cE _ _).2 ⟨Y x E,Or.inr (Nat.le_of_lt (ht x (S x E)))⟩
  grind
theorem jg(f:SWO lt):∀L,L.Pairwise (fun a b=>tag a<tag b)→DG lt tag (aQ lt L):=by
 intro L;rw[←iU L]
 induction L.reverse with
 |nil=>intro _;exact List.Pairwise.nil
 |cons a r E=>
  intro h;rw[jv] at h ⊢;rw[cK];rw[jw] at h;exact F4 f (fun y D=>h.2.2 y ((cg _).mem_iff.1 D) a ah) (E h.1)
theorem sj:∀(A B:List α),A.Perm B→DG lt tag A→DG lt tag B→(∀x∈A,∀y∈A,rl lt tag x y=false→rl lt tag y x=false→x=y)→A=B
 |[],B,f,_,_,_=>(List.nil_perm.1 f).symm
 |a::A,[],f,_,_,_=>by simp_all
 |a::A,b::B,f,F,M,O=>by
  have e:a=b:=by
   have D:a∈_:=f.mem_iff.1 ah;have E:b∈_:=f.mem_iff.2 ah;rcases bI.1 D with e|D
   ·exact e
   ·rcases bI.1 E with e|E
    ·exact e.symm
    simp_all
  subst e;rw[sj A B (List.perm_cons a |>.1 f) (eM.1 F).2 (eM.1 M).2 (fun x R y S=>O x (by simp[R]) y (by simp[S]))]
end
section
variable{α:Type}[Inhabited α]{lt:α→α→Bool}{tag:α→Nat}
theorem DI{d}(h:eU tag 0 d.size d):d.toList.Pairwise (fun a b=>tag a<tag b):=by
 rw[lB];intro i j E M f;have F:i<d.size:=by simpa using E
 have D:j<d.size:=by simpa using M
 have:=h i j (aN _) f D
 grind
theorem Pm{d}(h:eU tag 0 d.size d){x y}(f:x∈d.toList)(D:y∈d.toList)(he:tag x=tag y):x=y:=by
 obtain⟨i,E,rfl⟩:=oq f;obtain⟨j,F,rfl⟩:=oq D;have M:=lB.1 (DI h)
 grind
theorem Jl(T:SWO lt){d e}(O:eU tag 0 d.size d)(h:eF lt tag 0 d.size d e):e.toList=aQ lt d.toList:=by
 have F:e.toList.Perm d.toList:=by
  have f:=h.1.2.2;have R:e.extract 0 d.size=e:=by rw[←h.1.1];exact qI
  have S:_=d:=qI;rw[R,S] at f;exact f
 refine sj _ _ (F.trans (cg _).symm) ?_ (jg T _ (DI O)) ?_
 ·unfold DG
  rw[lB];intro i j U Y D;have V:i<e.size:=by simpa using U
  have E:j<e.size:=by simpa using Y
  have:=h.2 i j (aN _) D (by rw[←h.1.1];exact E)
  grind
 ·intro x hx y hy f M
  have f:=(cE _ _).1 f;have M:=(cE _ _).1 M;refine Pm O (F.mem_iff.1 hx) (F.mem_iff.1 hy) ?_
  grind
end
end Ss
end
section
open Go.RowKit Go.Sort Go.Shelf Go.Lib
namespace Ss
variable{α:Type}[Inhabited α]{enc:α→List zV}{k:Nat}{w W:zW}
theorem flat_get(D:∀x,(enc x).length=k)(f:0<k):∀(L:List α)(t:Nat),t<L.length*k→(L.flatMap enc)[t]?=(enc (L[t/k]!))[t%k]?
 |[],t,h=>by simp at h
 |x::L,t,h=>by
  rw[od];by_cases E:t<k
  ·rw[wO ax,Nat.div_eq_of_lt E,Nat.mod_eq_of_lt E]
   rfl
  ·have M:k≤t:=ae
   rw[List.getElem?_append_right ax,D]
   have F:t-k<L*k:=by
    rw[dF,dR,eE] at h;omega
   rw[flat_get D f L _ F]
   have O:t/k=(t-k)/k+1:=by
    have:t=(t-k)+k:=ae
    conv=>lhs;rw[this,Nat.add_div_right _ f]
   have R:t%k=(t-k)%k:=by
    have:t=(t-k)+k:=ae
    conv=>lhs;rw[this,Nat.add_mod_right]
   grind
omit [Inhabited α] in
theorem gp(f:∀x,(enc x).length=k):∀L:List α,(L.flatMap enc).length=L.length*k
 |[]=>by simp
 |x::L=>by rw[od,bj,f,gp f L,dF,dR,eE,Nat.add_comm]
theorem Ao(D:∀x,(enc x)=k)(f:0<k)d:(flatK enc k d).toList=d.toList.flatMap enc:=by
 apply qH;intro t;by_cases E:t<d.size*k
 ·rw[flat_get D f _ t (by simpa using E),tT,Br (by simp_all),←cB _ t _,get_flatK enc k d t E]
  have e:d.toList[t/k]! =d[t/k]!:=by
   have hd:t/k<d.size:=by rw[Nat.div_lt_iff_lt_mul f];exact E
   rw[cB d.toList (t/k) (by simpa using hd),cB d (t/k) hd,Array.getElem_toList]
  rw[e];have hm:t%k<(enc d[t/k]!):=by rw[D];exact Nat.mod_lt _ f
  grind
 ·rw[qE (by simp_all),qE (by rw[gp D,wN];omega)]
theorem Ap(E:∀x,(enc x)=k)(D:0<k){B e g cap:Nat}{d}(h:w.ownsRow B e k (.slice (some (g,0)) d.size cap) d.size (d.toList.flatMap enc)):HoldsK enc k w g 0 d:=by
 intro j f;rw[size_flatK] at f;refine⟨?_,by rw[dQ];exact h.frozenAt j⟩;rw[dQ,h.cellAt j f,←Ao E D,tT,Br (by simp_all),←cB _ j _]
 rfl
theorem uA{g}{d}(S:SWK enc k w g 0 d W)(b:Nat)(f:b<w)(D:b≠g):W.heap[b]?=w.heap[b]?:=by
 obtain⟨n,os,rfl⟩:=S;unfold sortWorldK;rw[Go.Sort.heap_grow_old _ _ (by rw[size_putRowK];exact f)];unfold putRowK Go.Sort.putRow Go.Sort.mapBlock;show(w.heap.modify g _)[b]?=_
 grind
theorem Po{g}{d}(S:SWK enc k w g 0 d W){f}{e}(h:w.heap[g]?=some (.cells f e (0,0))):W.heap[g]?=some (.cells (Go.Sort.putCells id 0 (flatK enc k d) f) e (0,0)):=by
 obtain⟨n,os,rfl⟩:=S;have D:=(wL.1 h).1;unfold sortWorldK;rw[Go.Sort.heap_grow_old _ _ (by rw[size_putRowK];exact D)];unfold putRowK Go.Sort.putRow Go.Sort.mapBlock;show(w.heap.modify g _)[g]?=_;rw[Bt,ay rfl,h]
 rfl
theorem xG F f(M:F.size≤f.size):(Go.Sort.putCells id 0 F f).toList.take F.size=F.toList:=by
 apply qH;intro j;by_cases D:j<F.size
 ·have E:j<f.size:=ae
  rw[List.getElem?_take_of_lt D,tT];unfold Go.Sort.putCells
  grind
 grind
theorem xH(U:∀x,(enc x)=k)(h0:0<k){B e g cap n:Nat}{d d':Array α}(D:d'.size=n)(h:w.ownsRow B e k (.slice (some (g,0)) n cap) n (d.toList.flatMap enc))(S:SWK enc k w g 0 d' W):
  W.ownsRow B e k (.slice (some (g,0)) n cap) n (d'.toList.flatMap enc)∧aj (fun b=>b=g) w W:=by
 have a0:=(h.lt g rfl).2;refine⟨?_,?_⟩
 ·rcases h.2 with⟨hn,_⟩|⟨g',T,F,hv,hB,hh,f,O,E,_⟩
  ·cases hn
  ·injection hv with M _ V
   have Y:g=g':=by injection M with M;injection M
   subst Y;subst V;refine⟨by rw[gp U,wN,D],.inr ⟨g,cap,_,rfl,hB,Po S hh,f,O,?_,?_⟩⟩
   ·rw[←E];simp[Go.Sort.putCells]
   ·have:=xG (flatK enc k d') F (by rw[size_flatK,D,E];exact dD k f)
    rw[size_flatK,D] at this;rw[this,Ao U h0]
 ·have f:=S.le
  have ho:=fun b hb R=>uA S b hb R
  obtain⟨m,os,rfl⟩:=S;exact⟨rfl,rfl,rfl,f,ho⟩
end Ss
end
namespace Pv
def uB(a b:List UInt8):Int:=
 match parse a,parse b with
 |some x,some y=>jS x y
 |some _,none=>1
 |none,some _=>-1
 |none,none=>Lib.compareBytes a b
theorem kZ{a b}{x y:List (List UInt8)×List (List UInt8)}(f:parse a=x)(D:parse b=y):uB a b=jS x y:=by unfold uB;rw[f,D]
theorem lf{a b}{x:List (List UInt8)×List (List UInt8)}(f:parse a=x)(D:parse b=none):uB a b=1:=by unfold uB;rw[f,D]
theorem pP{a b}{y:List (List UInt8)×List (List UInt8)}(f:parse a=none)(D:parse b=y):uB a b=-1:=by unfold uB;rw[f,D]
theorem lg{a b}(f:parse a=none)(D:parse b=none):uB a b=Lib.compareBytes a b:=by unfold uB;rw[f,D]
theorem T5:Cmp (fun _:List UInt8=>True) uB:=by
 refine⟨fun a b _ _=>?_,fun a b _ _ h=>?_,fun a b c _ _ _ D f=>?_⟩
 ·cases ha:parse a with
  |none=>
   cases hb:parse b with
   |none=>rw[lg ha hb,lg hb ha];exact iy.anti a b trivial trivial
   |some y=>rw[pP ha hb,lf hb ha];rfl
  |some x=>
   cases hb:parse b with
   |none=>rw[lf ha hb,pP hb ha]
   |some y=>rw[kZ ha hb,kZ hb ha];exact Ak.anti x y (eQ ha).2 (eQ hb).2
 ·cases ha:parse a with
  |none=>
   cases hb:parse b with
   |none=>rw[lg ha hb] at h;exact iy.zero a b trivial trivial h
   |some y=>rw[pP ha hb] at h;exact absurd h aA
  |some x=>
   cases hb:parse b with
   |none=>rw[lf ha hb] at h;exact absurd h aA
   |some y=>
    rw[kZ ha hb] at h;have e:=Ak.zero x y (eQ ha).2 (eQ hb).2 h;subst e;exact Al ha hb
 ·cases ha:parse a with
  |none=>
   cases hc:parse c with
   |some z=>rw[pP ha hc];decide
   |none=>
    cases hb:parse b with
    |none=>rw[lg ha hb] at D;rw[lg hb hc] at f;rw[lg ha hc];exact iy.trans a b c trivial trivial trivial D f
    |some y=>rw[lf hb hc] at f;exact absurd f aA
  |some x=>
   cases hb:parse b with
   |none=>rw[lf ha hb] at D;exact absurd D aA
   |some y=>
    cases hc:parse c with
    |none=>rw[lf hb hc] at f;exact absurd f aA
    |some z=>
     rw[kZ ha hb] at D;rw[kZ hb hc] at f;rw[kZ ha hc];exact Ak.trans x y z (eQ ha).2 (eQ hb).2 (eQ hc).2 D f
def lex{α β:Type}(f:α→α→Int)(g:β→β→Int)(x y:α×β):Int:=if f x.1 y.1=0 then g x.2 y.2 else f x.1 y.1
theorem pQ{α β}{f}{g}(E:Cmp (fun _:α=>True) f)(R:Cmp (fun _:β=>True) g):Cmp (fun _:α×β=>True) (lex f g):=by
 refine⟨fun a b _ _=>?_,fun a b _ _ h=>?_,fun a b c _ _ _ D M=>?_⟩
 ·have D:=E.anti a.1 b.1 trivial trivial
  unfold lex;by_cases e:f a.1 b.1=0
  ·rw[ay e,ay ae];exact R.anti _ _ trivial trivial
  omega
 ·unfold lex at h
  by_cases e:f a.1 b.1=0
  ·rw[ay e] at h
   exact Prod.ext (E.zero _ _ trivial trivial e) (R.zero _ _ trivial trivial h)
  omega
 ·unfold lex at D M ⊢
  by_cases O:f a.1 b.1=0
  ·have e:=E.zero _ _ trivial trivial O
   rw[ay O] at D;rw[e];by_cases F:f b.1 c.1=0
   ·rw[ay F] at M ⊢
    exact R.trans _ _ _ trivial trivial trivial D M
   omega
  ·rw[au O] at D
   by_cases F:f b.1 c.1=0
   ·have e:=E.zero _ _ trivial trivial F
    grind
   ·rw[au F] at M
    have S:=E.lt_trans trivial trivial trivial (show f a.1 b.1<0 by omega) (show f b.1 c.1<0 by omega);omega
theorem ki{α β}(key:α→β){f}(h:Cmp (fun _:β=>True) f):Sort.SWO (Go.Proofs.ltOf fun x y=>f (key x) (key y)):=by
 refine⟨fun x=>?_,fun x y z D E=>?_,fun x y z D E=>?_⟩
 ·have R:=h.self (a:=key x) trivial
  exact br ax
 ·have D:f _ _<0:=fZ D
  have E:f _ _<0:=fZ E;exact bu (h.lt_trans trivial trivial trivial D E)
 ·have D:¬f _ _<0:=lF D
  have E:¬f _ _<0:=lF E;refine br ?_;show ¬f (key x) (key z)<0;have F:=h.anti (key x) (key y) trivial trivial;have M:=h.anti (key y) (key z) trivial trivial;have O:=h.anti (key x) (key z) trivial trivial;have:=h.trans (key z) (key y) (key x) trivial trivial trivial ae ae;omega
end Pv
def bG(a b:zA):Int:=Lib.compareBytes a.data.toList b.data.toList
def dZ(a b:zA):Int:=Pv.uB a.data.toList b.data.toList
def dy(a b:zA×zA):Int:=if bG a.1 b.1=0 then dZ a.2 b.2 else bG a.1 b.1
theorem DJ{f:List UInt8→List UInt8→Int}(h:Pv.Cmp (fun _=>True) f):Pv.Cmp (fun _:zA=>True) fun a b=>f a b:=
 ⟨fun _ _ _ _=>h.anti _ _ trivial trivial,fun _ _ _ _ e=>tV (pG.1 (h.zero _ _ trivial trivial e)),fun _ _ _ _ _ _ D E=>h.trans _ _ _ trivial trivial trivial D E⟩
theorem cW:Pv.Cmp (fun _=>True) bG:=DJ Pv.iy
theorem oM:Pv.Cmp (fun _=>True) dZ:=DJ Pv.T5
theorem nt:Pv.Cmp (fun _=>True) dy:=Pv.pQ cW oM
