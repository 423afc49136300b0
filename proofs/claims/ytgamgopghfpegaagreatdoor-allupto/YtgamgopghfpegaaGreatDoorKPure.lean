import Derived.Test.YtgamgopghfpegaaGreatDoorKZ0
import Derived.Lib.SplitLaws
import Derived.Lib.Atoi
import Derived.Lib.Small
set_option linter.all false
namespace Go.Proofs.YtgamgopghfpegaaGreatDoor
namespace Pv
def dg(c:UInt8):Bool:=decide (48≤c)&&decide (c≤57)
def sm(c:UInt8):Bool:=decide (97≤c)&&decide (c≤122)
def gr(c:UInt8):Bool:=decide (65≤c)&&decide (c≤90)
def idb(c:UInt8):Bool:=sm c||dg c||gr c||c==45
def isNum(l:List UInt8):Bool:=l==[48]||(l !=[]&&l.head? !=some 48&&l.all dg)
def iG(l:List UInt8):Bool:=decide (l.length<1)||decide (8<l.length)||(if l.all dg then !isNum l else !l.all idb)
def spl(c:UInt8):List UInt8→List (List UInt8)
 |[]=>[[]]
 |b::l=>if b=c then []::spl c l else match spl c l with
  |[]=>[[b]]
  |p::f=>(b::p)::f
theorem jR(c:UInt8):∀l,spl c l≠[]
 |[]=>by simp[spl]
 |b::l=>by
  unfold spl
  grind
theorem lQ(c:UInt8):∀l,c∉l→spl c l=[l]
 |[],_=>rfl
 |b::l,h=>by
  have f:b≠c:=fun e=>h (by simp[e])
  have D:c∉l:=fun e=>h (by simp[e])
  unfold spl;rw[au f,lQ c l D]
theorem rI(c:UInt8):∀p q,c∉p→spl c (p++c::q)=p::spl c q
 |[],q,_=>by simp[spl]
 |b::l,q,h=>by
  have f:b≠c:=fun e=>h (by simp[e])
  have D:c∉l:=fun e=>h (by simp[e])
  rw[Bu,spl,au f,rI c l q D]
theorem occ_one c s i:Lib.occAt s [c] i=(s[i]?==c):=by
 unfold Lib.occAt;by_cases h:i<s
 ·rw[bN h,dE h]
  grind
 ·rw[gY ae,qE ae]
  rfl
theorem index_one c s:(Lib.index s [c]=-1∧c∉s)∨∃p q,s=p++c::q∧c∉p∧Lib.index s [c]=(p:Int):=by
 rcases Lib.index_spec s [c] with⟨h,O⟩|⟨i,S,I,F,G⟩
 ·left
  refine⟨h,fun hm=>?_⟩;obtain⟨j,f,e⟩:=oq hm;have:=O j ae;rw[occ_one,dE f,e] at this;simp at this
 ·right
  rw[occ_one] at F;have E:s[i]?=c:=by simpa using F
  obtain⟨M,e⟩:=dh.1 E;refine⟨s.take i,s.drop (i+1),?_,?_,?_⟩
  ·rw[←e,List.getElem_cons_drop,List.take_append_drop]
  ·intro hm
   obtain⟨j,f,R⟩:=oq hm;have D:j<i:=by simp at f;omega
   have:=G j D;rw[occ_one] at this
   grind
  grind
theorem qL(c:UInt8):∀(k:Nat)(s:List UInt8),s.count c≤k→Lib.splitK [c] 0 k s=spl c s
 |0,s,h=>by
  have:c∉s:=fun hm=>ax
  rw[lQ c s this];rfl
 |k+1,s,h=>by
  unfold Lib.splitK;rcases index_one c s with⟨e,hm⟩|⟨p,q,rfl,f,e⟩
  ·rw[e,lQ c s hm];rfl
  ·rw[e,au ah,rI c p q f]
   have D:(p++c::q).count c=q.count c+1:=by
    rw[List.count_append,List.count_cons_self,List.count_eq_zero.2 f];omega
   congr 1
   ·simp
   ·rw[←qL c k q ae]
    simp
theorem mM(s sep:zA)(c:UInt8)(f:sep=[c]):(Lib.splitB sep 0 (Lib.countB s sep) s).map (·.data.toList)=spl c s:=by
 rw[Lib.splitB_data,f];apply qL;rw[←Lib.count_one,←f];simp
def dK(c:UInt8):List UInt8→List UInt8×Option (List UInt8)
 |[]=>([],none)
 |b::l=>if b=c then ([],some l) else (b::(dK c l).1,(dK c l).2)
theorem tW(c:UInt8):∀l,c∉l→dK c l=(l,none)
 |[],_=>rfl
 |b::l,h=>by
  have f:b≠c:=fun e=>h (by simp[e])
  have D:c∉l:=fun e=>h (by simp[e])
  unfold dK;rw[au f,tW c l D]
theorem wQ(c:UInt8):∀p q,c∉p→dK c (p++c::q)=(p,some q)
 |[],q,_=>by simp[dK]
 |b::l,q,h=>by
  have f:b≠c:=fun e=>h (by simp[e])
  have D:c∉l:=fun e=>h (by simp[e])
  rw[Bu,dK,au f,wQ c l q D]
theorem CV c s:Lib.cut s [c]=((dK c s).1,(dK c s).2.getD [],(dK c s).2.isSome):=by
 unfold Lib.cut;rcases index_one c s with⟨e,hm⟩|⟨p,q,rfl,f,e⟩
 ·rw[e,tW c s hm];rfl
 ·rw[e,wQ c p q f,ay ae]
  simp
def val(l:List UInt8):Nat:=l.foldl (fun a c=>a*10+(c.toNat-48)) 0
def iR(p:List UInt8):Bool:=decide (p.length≤6)&&isNum p
def gf(f:List UInt8):Option (List (List UInt8)):=if (spl 46 f).length=3∧(spl 46 f).all iR=true then some (spl 46 f) else none
def qM(b:List UInt8):Option (List (List UInt8)):=if (spl 46 b).length≤4∧(spl 46 b).any iG=false then some (spl 46 b) else none
def parse(l:List UInt8):Option (List (List UInt8)×List (List UInt8)):=
 if l.head?=some 118∧l.length≤40 then
  match gf (dK 45 l.tail).1 with
  |none=>none
  |some f=>match (dK 45 l.tail).2 with
   |none=>some (f,[])
   |some b=>(qM b).map fun i=>(f,i)
 else none
def wS(r:List UInt8):Option (List UInt8×List UInt8):=
 if (r.takeWhile dg).length=0∨6<(r.takeWhile dg).length∨(1<(r.takeWhile dg).length∧r.head?=some 48) then none else some (r.takeWhile dg,r.dropWhile dg)
def dot:List UInt8→Option (List UInt8)
 |[]=>none
 |c::t=>if c=46 then some t else none
def scan:Nat→List UInt8→Option (List (List UInt8)×List UInt8)
 |0,r=>some ([],r)
 |k+1,r=>match scan k r with
  |none=>none
  |some (f,t)=>match (if k=0 then some t else dot t) with
   |none=>none
   |some u=>match wS u with
    |none=>none
    |some (d,v)=>some (f++[d],v)
def bad(p:List UInt8):Bool:=decide (p.length=0)||decide (8<p.length)||(decide ((p.takeWhile dg).length=p.length)&&decide (1<(p.takeWhile dg).length)&&p.head?==some 48)
def good(p:List UInt8):Bool:=p.all idb&&!bad p
def dV(D:List (List UInt8))(f:List UInt8):List UInt8→Option (List (List UInt8))
 |[]=>if bad f then none else some (D++[f])
 |b::t=>if b=46 then (if bad f then none else dV (D++[f]) [] t) else if idb b then dV D (f++[b]) t else none
def K9(b:List UInt8):Option (List (List UInt8)):=match dV [] [] b with
 |none=>none
 |some l=>if l.length≤4 then some l else none
def iH(l:List UInt8):Option (List (List UInt8)×List (List UInt8)):=
 if l.head?=some 118∧l.length≤40 then
  match scan 3 l.tail with
  |none=>none
  |some (f,[])=>some (f,[])
  |some (f,c::t)=>if c=45 then (K9 t).map fun i=>(f,i) else none
 else none
theorem lG p t(h:p.all dg=true)(f:∀c u,t=c::u→dg c=false):(p++t).takeWhile dg=p∧(p++t).dropWhile dg=t:=by
 induction p with
 |nil=>
  cases t with
  |nil=>simp
  |cons c u=>simp[f c u rfl]
 |cons c u D=>
  simp only[iW,eL] at h;have:=D h.2;simp[h.1,this.1,this.2]
theorem gh(p:List UInt8):(p.takeWhile dg)=p.length↔p.all dg=true:=by
 constructor
 ·intro h
  have:_:=(List.takeWhile_prefix dg).eq_of_length h;rw[←this];simp
 ·intro h
  have:=(lG p [] h ah).1
  grind
theorem gB p:isNum p=true↔(p≠[]∧p.all dg=true∧¬(1<p.length∧p.head?=some 48)):=by
 unfold isNum;cases p with
 |nil=>simp
 |cons c t=>
  cases t with
  |nil=>
   by_cases h:c=48
   ·subst h;simp[dg]
   ·simp[h]
  |cons d u=>simp[and_comm]
theorem tY p:iR p=true↔(p.length≤6∧p≠[]∧p.all dg=true∧¬(1<p.length∧p.head?=some 48)):=by
 unfold iR;rw[eL,gB];simp
theorem wT p t(h:iR p=true)(E:∀c u,t=c::u→dg c=false):wS (p++t)=(p,t):=by
 obtain⟨I,D,f,M⟩:=(tY p).1 h;obtain⟨F,G⟩:=lG p t f E;unfold wS;simp_all
theorem tZ{r d v}(h:wS r=(d,v)):r=d++v∧iR d=true∧∀c u,v=c::u→dg c=false:=by
 unfold wS at h
 split at h
 ·simp at h
 ·rename_i D
  simp only[jQ,qF] at h;obtain⟨rfl,rfl⟩:=h;refine⟨(oh).symm,?_,?_⟩
  ·rw[tY]
   refine⟨ae,fun e=>D (Or.inl (by rw[e];rfl)),List.all_takeWhile,?_⟩;rintro⟨f,F⟩;refine D (Or.inr (Or.inr ⟨f,?_⟩));cases r with
   |nil=>simp at f
   |cons c u=>
    by_cases E:dg c=true
    ·simp_all
    ·simp[E] at f
  ·intro c u e
   have:=List.head?_dropWhile_not (p:=dg) (l:=r)
   grind
theorem CW{r t:List UInt8}(h:dot r=t):r=46::t:=by
 cases r with
 |nil=>simp[dot] at h
 |cons c u=>
  by_cases e:c=46
  ·simp[dot,e] at h
   rw[e,h]
  ·simp[dot,e] at h
theorem OJ:dg 46=false:=aA
theorem IJ p q s t(D:iR p=true)(E:iR q=true)(F:iR s=true)(G:∀c u,t=c::u→dg c=false):scan 3 (p++46::(q++46::(s++t)))=([p,q,s],t):=by
 have f:∀(x:List UInt8) c u,46::x=c::u→dg c=false:=by
  intro x c u e;simp only[fY] at e;rw[←e.1];exact OJ
 simp[scan,dot,wT p _ D (f _),wT q _ E (f _),wT s t F G]
theorem Fy{r v}{f}(h:scan 3 r=(f,v)):∃p q s,f=[p,q,s]∧r=p++46::(q++46::(s++v))∧iR p=true∧iR q=true∧iR s=true∧∀c u,v=c::u→dg c=false:=by
 simp only[scan,fC] at h;cases h1:wS r with
 |none=>simp[h1] at h
 |some x=>
  obtain⟨p,I⟩:=x;obtain⟨S,D,_⟩:=tZ h1;simp[h1] at h;cases h2:dot I with
  |none=>simp[h2] at h
  |some M=>
   have T:=CW h2;simp[h2] at h;cases h3:wS M with
   |none=>simp[h3] at h
   |some x=>
    obtain⟨q,O⟩:=x;obtain⟨U,E,_⟩:=tZ h3;simp[h3] at h;cases h4:dot O with
    |none=>simp[h4] at h
    |some R=>
     have V:=CW h4;simp[h4] at h;cases h5:wS R with
     |none=>simp[h5] at h
     |some x=>
      obtain⟨s,r5⟩:=x;obtain⟨Y,F,G⟩:=tZ h5;simp[h5] at h;obtain⟨rfl,rfl⟩:=h;exact⟨p,q,s,rfl,ax,D,E,F,G⟩
theorem eZ{p}{c}(h:iR p=true)(f:dg c=false):c∉p:=by
 intro hm;have:=ju.1 ((tY p).1 h).2.2.1 c hm
 grind
theorem U2 p q s(f:(46:UInt8)∉p)(D:(46:UInt8)∉q):spl 46 (p++46::(q++46::s))=p::q::spl 46 s:=by
 rw[rI 46 p _ f,rI 46 q _ D]
theorem La:∀(l:List UInt8)(p q s:List UInt8),spl 46 l=[p,q,s]→l=p++46::(q++46::s)
 |l,p,q,s,h=>by
  have key:∀(l x:List UInt8)(D:List _),spl 46 l=x::D→(D=[]∧l=x)∨(∃y r t,D=y::r∧l=x++46::t∧spl 46 t=y::r):=by
   intro l
   induction l with
   |nil=>intro x D h;simp[spl] at h;left;simp[h]
   |cons b u F=>
    intro x D h;unfold spl at h
    split at h
    ·rename_i e
     simp only[fY] at h;obtain⟨rfl,E⟩:=h
     right
     cases f:spl 46 u with
     |nil=>exact absurd f (jR 46 u)
     |cons y r=>exact⟨y,r,u,by rw[←E,f],by rw[e];rfl,f⟩
    ·split at h
     ·rename_i f;exact absurd f (jR 46 u)
     grind
  grind
theorem pH(c:UInt8):∀l,l=(dK c l).1++(match (dK c l).2 with|none=>[]|some b=>c::b)
 |[]=>rfl
 |b::u=>by
  unfold dK
  split
  ·grind
  ·have:=pH c u
   grind
theorem OL:dg 45=false:=aA
theorem jF r(M:List (List UInt8))b:(gf (dK 45 r).1=M∧(dK 45 r).2=b)↔scan 3 r=(M,match b with|none=>[]|some b=>45::b):=by
 constructor
 ·rintro⟨h,rfl⟩
  unfold gf at h
  split at h
  ·rename_i T
   obtain⟨O,f⟩:=T;simp only[jQ] at h;rw[h] at O f
   match M,O with
   |[p,q,s],_=>
    simp only[iW,List.all_nil,Bool.and_true,eL] at f;have U:=La _ p q s h;have R:=pH 45 r;rw[U] at R
    rw[show r=p++46::(q++46::(s++(match (dK 45 r).2 with|none=>[]|some b=>45::b))) from by
     grind]
    rw[←show r=p++_ from by
     grind]
    have:=IJ p q s (match (dK 45 r).2 with|none=>[]|some b=>45::b) f.1 f.2.1 f.2.2 (by
     intro c u e;cases hb:(dK 45 r).2 with
     |none=>rw[hb] at e;simp at e
     |some b=>rw[hb] at e;simp only[fY] at e;rw[←e.1];exact OL)
    rw[←this]
    congr 1
    conv=>lhs;rw[R]
    simp
  ·simp at h
 ·intro h
  obtain⟨p,q,s,rfl,e,F,G,I,_⟩:=Fy h
  have E:(45)∉(p++46::(q++46::s)):=by
   simp[eZ F OL,eZ G OL,eZ I OL]
  have D:gf (p++46::(q++46::s))=[p,q,s]:=by
   unfold gf;rw[U2 p q s (eZ F OJ) (eZ G OJ),lQ 46 s (eZ I OJ)];simp[F,G,I]
  cases b with
  |none=>
   simp only[eP] at e;rw[e,tW 45 _ E];exact⟨D,rfl⟩
  |some b=>
   have S:r=(p++46::(q++46::s))++45::b:=by rw[e];simp
   rw[S,wQ 45 _ b E];exact⟨D,rfl⟩
theorem Le p:good p=!iG p:=by
 unfold good iG bad;by_cases E:p.length=0
 ·simp[E]
 ·by_cases F:8<p.length
  ·simp[F]
  ·have I:¬p.length<1:=ae
   simp only[E,F,I,decide_false,Bool.false_or];by_cases D:p.all dg=true
   ·have f:=(gh p).2 D
    have G:p.all idb=true:=by
     rw[ju] at D ⊢;intro x M;have:=D x M;simp[idb,this]
    rw[ay D,G,f];have:=gB p
    grind
   ·have f:¬_:=fun e=>D ((gh p).1 e)
    grind
theorem kQ:∀(t:List UInt8)(D:List (List UInt8))(f:List UInt8),f.all idb=true→
  dV D f t=if ((f++(spl 46 t).head!)::(spl 46 t).tail).all good=true then some (D++(f++(spl 46 t).head!)::(spl 46 t).tail) else none
 |[],D,f,h=>by
  unfold dV spl;have G:good f=!bad f:=by unfold good;rw[h];rfl
  cases hb:bad f<;>simp[hb,G,List.head!]
 |b::t,D,f,h=>by
  unfold dV;have G:good f=!bad f:=by unfold good;rw[h];rfl
  by_cases e:b=46
  ·rw[ay e]
   have M:spl 46 (b::t)=[]::spl 46 t:=by rw[spl,ay e]
   rw[M];have F:=kQ t (D++[f]) [] rfl
   obtain⟨x,E,I⟩:∃x E,spl 46 t=x::E:=by
    cases hs:spl 46 t with
    |nil=>exact absurd hs (jR 46 t)
    |cons x E=>exact⟨x,E,rfl⟩
   rw[I] at F ⊢;cases hb:bad f
   ·rw[F];simp[G,hb,List.head!]
   ·simp[G,hb,List.head!]
  ·rw[au e]
   obtain⟨x,E,I⟩:∃x E,spl 46 t=x::E:=by
    cases hs:spl 46 t with
    |nil=>exact absurd hs (jR 46 t)
    |cons x E=>exact⟨x,E,rfl⟩
   have M:spl 46 (b::t)=(b::x)::E:=by rw[spl,au e,I]
   rw[M];cases hi:idb b
   ·have:good (f++b::x)=false:=by unfold good;simp[hi]
    simp[this,List.head!]
   ·have O:(f++[b]).all idb=true:=by simp at h ⊢;exact⟨h,hi⟩
    have F:=kQ t D _ O;rw[I] at F;rw[ay rfl,F];simp[List.head!]
theorem CX b:K9 b=qM b:=by
 obtain⟨x,f,E⟩:∃x f,spl 46 b=x::f:=by
  cases hs:spl 46 b with
  |nil=>exact absurd hs (jR 46 b)
  |cons x f=>exact⟨x,f,rfl⟩
 have D:∀l:List _,l.any iG=!(l.all good):=by
  intro l
  induction l with
  |nil=>rfl
  |cons y l G=>rw[List.any_cons,iW,G,Le];cases iG y<;>simp
 unfold K9 qM;rw[D,E];by_cases F:(x::f).all good=true
 ·have e:dV [] [] b=(x::f):=by
   rw[kQ b [] [] rfl,ay (by rw[E];exact F),E];rfl
  grind
 ·have e:dV [] [] b=none:=by
   rw[kQ b [] [] rfl,au (by rw[E];exact F)]
  grind
theorem IK l:parse l=iH l:=by
 unfold parse iH
 split
 ·generalize l.tail=r
  cases hs:scan 3 r with
  |none=>
   have:gf (dK 45 r).1=none:=by
    cases hp:gf (dK 45 r).1 with
    |none=>rfl
    |some f=>
     have:=(jF r f _).1 ⟨hp,rfl⟩;rw[hs] at this;simp at this
   rw[this]
  |some x=>
   obtain⟨f,v⟩:=x;cases v with
   |nil=>
    obtain⟨D,E⟩:=(jF r f none).2 hs;rw[D,E]
   |cons c t=>
    by_cases G:c=45
    ·subst G
     obtain⟨D,E⟩:=(jF r f (t)).2 hs;rw[D,E];simp[CX]
    ·have:gf (dK 45 r).1=none:=by
      cases hp:gf (dK 45 r).1 with
      |none=>rfl
      |some F=>
       have:=(jF r F _).1 ⟨hp,rfl⟩;rw[hs] at this;simp only[jQ,qF] at this;cases hb:(dK 45 r).2 with
       |none=>rw[hb] at this;simp at this
       |some b=>rw[hb] at this;simp at this;exact absurd this.2.1 G
     grind
 ·rfl
def iI(a b:List UInt8):Int:=if isNum a&&isNum b then Lib.compareInt (val a) (val b) else if isNum a then -1 else if isNum b then 1 else Lib.compareBytes a b
def label(a b:List UInt8):Int:=
 if a.all dg&&b.all dg then (if a.length≠b.length then Lib.compareInt a.length b.length else Lib.compareBytes a b)
 else if a.all dg then -1 else if b.all dg then 1 else Lib.compareBytes a b
def cmpL(f:List UInt8→List UInt8→Int):List (List UInt8)→List (List UInt8)→Int
 |[],[]=>0
 |[],_::_=>-1
 |_::_,[]=>1
 |a::as,b::D=>if f a b=0 then cmpL f as D else f a b
def gI(a b:List UInt8):Int:=Lib.compareInt (val a) (val b)
theorem BD l:∀a,l.foldl (fun a c=>a*10+(c.toNat-48)) a=a*10 ^ l.length+val l:=by
 induction l with
 |nil=>intro a;simp[val]
 |cons c t f=>
  intro a;have D:val (c::t)=(_+_)*_+_:=f _;rw[jO,f,D];rw[dF,Nat.pow_succ];rw[dR,Nat.zero_mul,dQ];have:a*10*10 ^ t.length=a*(10 ^ t.length*10):=by rw[Nat.mul_assoc,Nat.mul_comm 10]
  omega
theorem rJ c t:val (c::t)=(c.toNat-48)*10 ^ t.length+val t:=by
 unfold val;rw[jO,BD];simp[val]
theorem qN{c}(h:dg c=true):48≤c.toNat∧c.toNat≤57:=by
 unfold dg at h;simp only[eL,ot,UInt8.le_iff_toNat_le] at h;exact h
theorem wU:∀(l:List UInt8),l.all dg=true→val l<10 ^ l.length
 |[],_=>by simp[val]
 |c::t,h=>by
  simp only[iW,eL] at h;have f:=qN h.1;have D:=wU t h.2;rw[rJ,dF,Nat.pow_succ];have:(c.toNat-48)*_≤9*10 ^ t.length:=dD _ ae;omega
theorem jz:∀(a b:List UInt8),a.all dg=true→b.all dg=true→a.length=b.length→Lib.compareBytes a b=Lib.compareInt (val a) (val b)
 |[],[],_,_,_=>rfl
 |[],_::_,_,_,h=>by simp at h
 |_::_,[],_,_,h=>by simp at h
 |c::t,d::u,E,F,G=>by
  simp only[iW,eL] at E F;have T:=qN E.1;have hd:=qN F.1;have U:=wU t E.2;have M:=wU u F.2;simp only[dF,Nat.add_right_cancel_iff] at G;have O:=jz t u E.2 F.2 G;rw[Lib.compareBytes,rJ,rJ,←G];rw[←G] at M;have I:0<10 ^ t.length:=Nat.pow_pos ae;by_cases f:c<d
  ·rw[ay f]
   have:c.toNat<d.toNat:=f;have hm:(c.toNat-48+1)*_≤(d.toNat-48)*10 ^ t.length:=dD _ ae;rw[dR,eE] at hm;unfold Lib.compareInt;omega
  ·rw[au f]
   by_cases D:d<c
   ·rw[ay D]
    have:d.toNat<c.toNat:=D;have hm:(d.toNat-48+1)*_≤(c.toNat-48)*10 ^ t.length:=dD _ ae;rw[dR,eE] at hm;unfold Lib.compareInt;omega
   ·rw[au D,O]
    have R:¬c.toNat<d.toNat:=f;have S:¬d.toNat<c.toNat:=D;have:c.toNat=d.toNat:=ae;rw[this];generalize (d.toNat-48)*10 ^ t.length=K;unfold Lib.compareInt;omega
theorem Rl{l}(h:l.all dg=true)(D:¬(1<l.length∧l.head?=some 48))(f:1<l.length):10 ^ (l.length-1)≤val l:=by
 cases l with
 |nil=>simp at f
 |cons c t=>
  simp only[iW,eL] at h;have E:=qN h.1;have:c≠48:=fun e=>D ⟨f,by simp[e]⟩
  have F:_≠48:=fun e=>this (UInt8.toNat.inj e)
  rw[rJ];have hm:1*10 ^ t.length≤(c.toNat-48)*_:=dD _ ae;simp only[dF,Nat.add_sub_cancel];omega
theorem kR{a b}(F:isNum a=true)(M:isNum b=true)(S:a<b.length):val a<val b:=by
 obtain⟨_,f,I⟩:=(gB a).1 F;obtain⟨_,D,E⟩:=(gB b).1 M;have G:=eB.2 ((gB a).1 F).1;have O:=wU a f;have R:=Rl D E ae;have:10 ^ a.length≤10 ^ (b.length-1):=Nat.pow_le_pow_right ae ae;omega
theorem Aa{a}(h:iG a=false):isNum a=a.all dg:=by
 unfold iG at h;simp only[Bool.or_eq_false_iff] at h;by_cases f:a.all dg=true
 ·grind
 ·have:isNum a=false:=by
   cases hn:isNum a with
   |false=>rfl
   |true=>exact absurd ((gB a).1 hn).2.1 f
  grind
theorem CY{a b}(G:iG a=false)(I:iG b=false):label a b=iI a b:=by
 have f:=Aa G;have D:=Aa I;unfold label iI;rw[f,D];by_cases h:(a.all dg&&b.all dg)=true
 ·rw[ay h,ay h]
  rw[eL] at h;by_cases E:a=b.length
  ·rw[au (by simpa using E)]
   exact jz a b h.1 h.2 E
  ·rw[ay E]
   unfold Lib.compareInt;rw[h.1] at f;rw[h.2] at D;by_cases F:a<b.length
   ·have:=kR f D F
    omega
   ·have:=kR D f ae
    omega
 grind
theorem wW(f g:List UInt8→List UInt8→Int):∀(p q:List (List UInt8)),(∀a∈p,∀b∈q,f a b=g a b)→cmpL f p q=cmpL g p q
 |[],[],_=>rfl
 |[],_::_,_=>rfl
 |_::_,[],_=>rfl
 |a::as,b::D,h=>by
  rw[cmpL,cmpL,h a ah b ah,wW f g as D (fun x E y F=>h x (by simp[E]) y (by simp[F]))]
def jS(v w:List (List UInt8)×List (List UInt8)):Int:=
 if cmpL gI v.1 w.1=0 then
  (if decide (0<v.2.length)=decide (0<w.2.length) then cmpL iI v.2 w.2 else if 0<v.2.length then -1 else 1)
 else cmpL gI v.1 w.1
def Lf(v w:List (List UInt8)×List (List UInt8)):Int:=
 if cmpL gI v.1 w.1=0 then
  (if v.2.length=0∨w.2.length=0 then Lib.compareInt w.2.length v.2.length else cmpL label v.2 w.2)
 else cmpL gI v.1 w.1
theorem pI{l}{v:List (List UInt8)×List (List UInt8)}(h:parse l=v):v.2.any iG=false:=by
 unfold parse at h
 split at h
 ·split at h
  ·simp at h
  ·split at h
   ·grind
   ·rename_i b _
    unfold qM at h
    grind
 ·simp at h
theorem IL{v w}(F:v.2.any iG=false)(G:w.2.any iG=false):Lf v w=jS v w:=by
 unfold Lf jS
 split
 ·rcases v with⟨O,E⟩
  rcases w with⟨R,f⟩;cases E with
  |nil=>
   cases f with
   |nil=>simp[cmpL,Lib.compareInt]
   |cons b D=>simp[Lib.compareInt]<;>omega
  |cons a as=>
   cases f with
   |nil=>simp[Lib.compareInt]<;>omega
   |cons b D=>
    simp only[dF,Nat.add_eq_zero_iff,Nat.succ_ne_self,and_false,or_self,dS];rw[ay ah];apply wW;intro x I y M;apply CY
    ·grind
    ·grind
 ·rfl
theorem eH:∀(a b:List UInt8),(Lib.compareBytes a b=if a<b then -1 else if b<a then 1 else 0)
 |[],[]=>by rfl
 |[],_::_=>by rfl
 |_::_,[]=>by rfl
 |x::as,y::E=>by
  rw[Lib.compareBytes,eH as E];by_cases h:x<y
  ·simp[h,List.cons_lt_cons_iff]
  ·by_cases D:y<x
   ·have f:x≠y:=fun e=>ax
    simp[h,D,List.cons_lt_cons_iff,f]
   ·have e:x=y:=by
     have F:¬x.toNat<y.toNat:=h;have G:¬y.toNat<x.toNat:=D;exact UInt8.toNat.inj ae
    simp_all
theorem Lg{l}(h:isNum l=true):Lib.atoi l=(val l:Int):=by
 obtain⟨G,f,_⟩:=(gB l).1 h
 have key:∀(l:List UInt8),l.all dg=true→∀D,Lib.decFrom D l=(l.foldl (fun a c=>a*10+(c.toNat-48)) D):=by
  intro l
  induction l with
  |nil=>intro _ D;rfl
  |cons c t M=>
   intro h D;simp only[iW,eL] at h;have I:=qN h.1;unfold Lib.decFrom;rw[show Lib.digitVal c=some (c.toNat-48) from by unfold Lib.digitVal;grind];exact M h.2 _
 cases l with
 |nil=>simp at G
 |cons c t=>
  have I:=qN (by simp only[iW,eL] at f;exact f.1);have F:¬c=45:=fun e=>by simp_all
  have E:¬c=43:=fun e=>by simp_all
  simp only[Lib.atoi];rw[au (by simpa using F),au (by simpa using E)];unfold Lib.decNat;rw[au ah,key _ f]
  rfl
