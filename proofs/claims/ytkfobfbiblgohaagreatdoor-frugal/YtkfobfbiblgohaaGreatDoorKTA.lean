import Derived.Test.YtkfobfbiblgohaaGreatDoorKPure
set_option linter.all false
namespace Go.Proofs.YtkfobfbiblgohaaGreatDoor
namespace Tx
def nb(c:UInt8):Bool:=!(c==32||c==9)
def toks:Nat->Option (Nat×List UInt8)->List UInt8->List (Nat×List UInt8)
 |_,E,[]=>E.toList
 |i,none,c::t=>if nb c then toks (i+1) (some (i,[c])) t else toks (i+1) none t
 |i,some (a,w),c::t=>if nb c then toks (i+1) (some (a,w++[c])) t else (a,w)::toks (i+1) none t
def words(line:List UInt8):List (Nat×List UInt8):=toks 0 none (Pv.eZ 35 line).1
theorem sr:∀(t:List UInt8)(i a:Nat)(w:List UInt8),toks i (some (a,w)) t=(a,w++t.takeWhile nb)::toks (i+(t.takeWhile nb).length) none (t.dropWhile nb)
 |[],i,a,w=>by simp[toks]
 |c::t,i,a,w=>by
  by_cases h:nb c=true
  ·rw[toks,aj h,sr t (i+1) a (w++[c])]
   simp only[List.takeWhile_cons,List.dropWhile_cons,h,dD,bW];rw[show i+1+(t.takeWhile nb).length=i+((t.takeWhile nb).length+1) by omega];simp
  ·have E:nb c=false:=by simpa using h
   rw[toks,ag h];simp only[List.takeWhile_cons,List.dropWhile_cons,E];simp[toks,E]
theorem EN(l:List UInt8)(i:Nat)(h:i<l.length)(E:nb l[i]=false):toks i none (l.drop i)=toks (i+1) none (l.drop (i+1)):=by
 rw[dC h,toks,ag (by simp[E])]
theorem Hh(l:List UInt8)(i j:Nat)(h:i<j)(hj:j<=l.length)(E:((l.drop i).take (j-i)).all nb=true)(G:∀h:j<l.length,nb l[j]=false):
  toks i none (l.drop i)=(i,(l.drop i).take (j-i))::toks j none (l.drop j):=by
 have U:i<l.length:=by omega
 have e:l.drop i=(l.drop i).take (j-i)++l.drop j:=by
  conv=>lhs;rw[<-List.take_append_drop (j-i) (l.drop i)]
  rw[List.drop_drop,show i+(j-i)=j by omega]
 have F:∀c u,l.drop j=c::u->nb c=false:=by
  intro c u e
  have M:j<l.length:=by
   apply xg;intro T;rw[mI (by omega)] at e;simp at e
  rw[dC M] at e;simp only[eL] at e;rw[<-e.1];exact G M
 have tw:∀(p t:List UInt8),p.all nb=true->(∀c u,t=c::u->nb c=false)->(p++t).takeWhile nb=p/\(p++t).dropWhile nb=t:=by
  intro p t O Y
  induction p with
  |nil=>
   cases t with
   |nil=>simp
   |cons c u=>simp[Y c u rfl]
  |cons c u ih=>
   simp only[lJ,fC] at O;have:=ih O.2;simp[O.1,this.1,this.2]
 have T:nb l[i]=true:=by
  have:=jX.1 E l[i];apply this;rw[dC U,show j-i=(j-i-1)+1 by omega,List.take_succ_cons];simp
 conv=>lhs;rw[dC U]
 rw[toks,aj T,sr];have O:(l[i]::l.drop (i+1))=(l.drop i).take (j-i)++l.drop j:=by rw[<-dC U];exact e
 obtain⟨t1,t2⟩:=tw _ _ E F;rw[<-O] at t1 t2;simp only[List.takeWhile_cons,List.dropWhile_cons,T,dD] at t1 t2;rw[t2];have I:((l.drop i).take (j-i)).length=j-i:=by rw[qN,List.length_drop];omega
 have V:((l.drop (i+1)).takeWhile nb).length+1=j-i:=by
  rw[<-I,<-t1];rfl
 rw[show i+1+((l.drop (i+1)).takeWhile nb).length=j by omega];rw[<-t1]
 rfl
def byte(F:List (Nat×List UInt8))(op off:Bool)(i:Nat)(c:UInt8):List (Nat×List UInt8)×Bool×Bool:=
 let G:=off||c==35
 let E:=!G&&nb c
 (if E then (if op then F.dropLast++[((F.getLastD (0,[])).1,(F.getLastD (0,[])).2++[c])] else F++[(i,[c])]) else F,E,G)
def bytes(E:List (Nat×List UInt8))(op off:Bool)(i:Nat):List UInt8->List (Nat×List UInt8)
 |[]=>E
 |c::t=>bytes (byte E op off i c).1 (byte E op off i c).2.1 (byte E op off i c).2.2 (i+1) t
theorem uv:∀(t:List UInt8)(E:List (Nat×List UInt8))(op:Bool)(i:Nat),bytes E op true i t=E
 |[],_,_,_=>rfl
 |c::t,E,op,i=>by
  have F:byte E op true i c=(E,false,true):=by unfold byte;simp
  rw[bytes,F];exact uv t E false (i+1)
theorem ji:∀(t:List UInt8)(E:List (Nat×List UInt8))(i:Nat),
  bytes E false false i t=E++toks i none (Pv.eZ 35 t).1/\∀a w,bytes (E++[(a,w)]) true false i t=E++toks i (some (a,w)) (Pv.eZ 35 t).1
 |[],E,i=>by simp[bytes,Pv.eZ,toks]
 |c::t,E,i=>by
  by_cases F:c=35
  ·have G:∀E op,byte E op false i c=(E,false,true):=by intro E op;unfold byte;simp[F]
   refine⟨?_,fun a w=>?_⟩
   ·rw[bytes,G,uv,Pv.eZ,aj F];simp[toks]
   ·rw[bytes,G,uv,Pv.eZ,aj F];simp[toks]
  ·have O:(c==35)=false:=by simpa using F
   rw[Pv.eZ,ag F];by_cases I:nb c=true
   ·refine⟨?_,fun a w=>?_⟩
    ·have G:byte E false false i c=(E++[(i,[c])],true,false):=by unfold byte;simp[O,I]
     rw[bytes,G,toks,aj I];exact(ji t E (i+1)).2 i [c]
    ·have G:byte (E++[(a,w)]) true false i c=(E++[(a,w++[c])],true,false):=by unfold byte;simp[O,I]
     rw[bytes,G,toks,aj I];exact(ji t E (i+1)).2 a (w++[c])
   ·have M:nb c=false:=by simpa using I
    refine⟨?_,fun a w=>?_⟩
    ·have G:byte E false false i c=(E,false,false):=by unfold byte;simp[O,M]
     rw[bytes,G,toks,ag I];exact(ji t E (i+1)).1
    ·have G:byte (E++[(a,w)]) true false i c=(E++[(a,w)],false,false):=by unfold byte;simp[O,M]
     rw[bytes,G,toks,ag I,(ji t (E++[(a,w)]) (i+1)).1];simp
theorem qX(line:List UInt8):bytes [] false false 0 line=words line:=by
 rw[(ji line [] 0).1];rfl
end Tx
namespace Tx
abbrev Ln:=Nat×List (Nat×List UInt8)
def spoken:Nat->List (List UInt8)->List Ln
 |_,[]=>[]
 |n,l::E=>if words l=[] then spoken (n+1) E else (n,words l)::spoken (n+1) E
def shut(out:List Ln)(n:Nat)(E:List (Nat×List UInt8)):List Ln:=if E=[] then out else out++[(n,E)]
def dx(out:List Ln)(n:Nat)(E:List (Nat×List UInt8))(op off:Bool)(i:Nat):List UInt8->List Ln
 |[]=>shut out n E
 |c::t=>if c=10 then dx (shut out n E) (n+1) [] false false 0 t
  else dx out n (byte E op off i c).1 (byte E op off i c).2.1 (byte E op off i c).2.2 (i+1) t
theorem su:∀(p:List UInt8)(t:List UInt8)(out:List Ln)(n:Nat)(E:List (Nat×List UInt8))(op off:Bool)(i:Nat),(10:UInt8)∉p->
  dx out n E op off i (p++10::t)=dx (shut out n (bytes E op off i p)) (n+1) [] false false 0 t
 |[],t,out,n,E,op,off,i,_=>by simp[dx,bytes]
 |c::p,t,out,n,E,op,off,i,h=>by
  have F:c≠10:=by intro e;apply h;simp[e]
  have G:(10:UInt8)∉p:=by intro e;apply h;simp[e]
  rw[mJ,dx,ag F,bytes];exact su p t out n _ _ _ (i+1) G
theorem lL:∀(p:List UInt8)(out:List Ln)(n:Nat)(E:List (Nat×List UInt8))(op off:Bool)(i:Nat),(10:UInt8)∉p->
  dx out n E op off i p=shut out n (bytes E op off i p)
 |[],out,n,E,op,off,i,_=>by simp[dx,bytes]
 |c::p,out,n,E,op,off,i,h=>by
  have F:c≠10:=by intro e;apply h;simp[e]
  have G:(10:UInt8)∉p:=by intro e;apply h;simp[e]
  rw[dx,ag F,bytes];exact lL p out n _ _ _ (i+1) G
theorem xl(out:List Ln)(n:Nat)(l:List UInt8)(E:List (List UInt8)):shut out n (words l)++spoken (n+1) E=out++spoken n (l::E):=by
 unfold shut;by_cases h:words l=[]
 ·rw[aj h,spoken,aj h]
 ·rw[ag h,spoken,ag h];simp
theorem Ga:∀(t:List UInt8),(10:UInt8)∉t\/∃p q,t=p++10::q/\(10:UInt8)∉p
 |[]=>Or.inl (by simp)
 |c::t=>by
  by_cases E:c=10
  ·exact Or.inr ⟨[],t,by simp[E],by simp⟩
  ·rcases Ga t with h|⟨p,q,e,h⟩
   ·refine Or.inl ?_
    intro hm;rcases aK.1 hm with e|e
    ·exact E e.symm
    ·exact h e
   ·refine Or.inr ⟨c::p,q,by simp[e],?_⟩
    intro hm;rcases aK.1 hm with e|e
    ·exact E e.symm
    ·exact h e
theorem vX(k:Nat):∀(t:List UInt8),t.length<=k->∀(out:List Ln)(n:Nat),dx out n [] false false 0 t=out++spoken n (Pv.spl 10 t):=by
 induction k with
 |zero=>
  intro t E out n;have:t=[]:=List.length_eq_zero_iff.1 (by omega);subst this;rw[lL [] out n [] false false 0 (by simp),qX,Pv.oF 10 [] (by simp),<-xl];simp[spoken]
 |succ k F=>
  intro t E out n;rcases Ga t with h|⟨p,q,e,h⟩
  ·rw[lL t out n [] false false 0 h,qX,Pv.oF 10 t h,<-xl]
   simp[spoken]
  ·subst e
   rw[su p q out n [] false false 0 h,qX,Pv.kW 10 p q h,F q (by simp at E;omega),xl]
theorem mP(t:List UInt8):dx [] 1 [] false false 0 t=spoken 1 (Pv.spl 10 t):=by
 rw[vX t.length t (ah _) [] 1];rfl
end Tx
namespace Tx
def wM:List UInt8:=[109,111,100,117,108,101]
def wR:List UInt8:=[114,101,113,117,105,114,101]
def wE:List UInt8:=[101,120,99,108,117,100,101]
def wP:List UInt8:=[114,101,112,108,97,99,101]
def wV:List UInt8:=[118,101,114,115,105,111,110]
def wA:List UInt8:=[61,62]
def shape(ix:Bool)(f:List UInt8):Option (List Nat):=
 if ix then (if f=wV then some [6] else none)
 else if f=wM then some [5] else if f=wR\/f=wE then some [5,6] else if f=wP then some [5,6,7,6] else none
def fit(E:List UInt8->Bool)(k:Nat)(t:List UInt8):Bool:=if k=5 then E t else if k=6 then (Pv.parse t).isSome else t==wA
def misfit(E:List UInt8->Bool)(k:Nat):List Nat->List (Nat×List UInt8)->Option Nat
 |p::ps,w::F=>if p=k/\fit E k w.2=false then some w.1 else misfit E k ps F
 |_,_=>none
def hd(E:List (Nat×List UInt8)):Nat×List UInt8:=E.headD (0,[])
def nth(E:List (Nat×List UInt8))(k:Nat):List UInt8:=(E.getD k (0,[])).2
def fin(E:List (Nat×List UInt8)):Nat:=(E.getLastD (0,[])).1+(E.getLastD (0,[])).2.length
def own(ix:Bool)(F:List UInt8->Bool)(E:List (Nat×List UInt8)):Option (Nat×Nat):=
 match shape ix (hd E).2 with
 |none=>some ((hd E).1,3)
 |some ps=>
  if ps.length+1<E.length then some ((E.getD (ps.length+1) (0,[])).1,4)
  else if E.length<ps.length+1 then some (fin E,4)
  else match misfit F 5 ps E.tail with
   |some a=>some (a,5)
   |none=>match misfit F 6 ps E.tail with
    |some a=>some (a,6)
    |none=>match misfit F 7 ps E.tail with
     |some a=>some (a,7)
     |none=>none
def slip(ix:Bool)(G:List UInt8->Bool)(lead F many:Bool)(E:List (Nat×List UInt8)):Option (Nat×Nat):=
 if ix=false/\((hd E).2==wM)≠lead then some ((hd E).1,2)
 else match own ix G E with
  |some x=>some x
  |none=>if F then some ((hd E).1,8) else if (hd E).2=wR/\many=true then some ((hd E).1,9) else none
def claim(E:List (Nat×List UInt8)):List UInt8×List UInt8×List UInt8:=
 if (hd E).2=wV then ((hd E).2,[],nth E 1)
 else if (hd E).2=wR\/(hd E).2=wM then ((hd E).2,nth E 1,[])
 else ((hd E).2,nth E 1,nth E 2)
def again(l g:List (Nat×List UInt8)):Bool:=
 (hd g).2==(hd l).2&&nth g 1==nth l 1&&((hd l).2==wR||(hd l).2==wV||(hd l).2==wM||nth g 2==nth l 2)
theorem vu(l g:List (Nat×List UInt8)):decide (claim g=claim l)=again l g:=by
 unfold again claim;by_cases E:(hd g).2=(hd l).2
 ·rw[E,gi]
  by_cases M:(hd l).2=wV
  ·simp[M]
  ·by_cases I:(hd l).2=wR
   ·have:(wR=wV)=False:=by simp[wR,wV]
    simp[I,this]
   ·by_cases G:(hd l).2=wM
    ·have O:(wM=wV)=False:=by simp[wM,wV]
     have T:(wM=wR)=False:=by simp[wM,wR]
     simp[G,O,T]
    ·simp[M,I,G]
 ·have F:((hd g).2==(hd l).2)=false:=by simpa using E
  rw[F];simp only[Bool.false_and,ui];intro h;apply E;have:=bz Prod.fst h
  split at this<;>split at this<;>(try split at this)<;>(try split at this)<;>simpa using this
structure Got where
 good:List Ln
 au:List (Nat×Nat×Nat)
 spoken:Nat
 requires:Nat
def step(ix:Bool)(E:List UInt8->Bool)(most:Nat)(g:Got)(l:Ln):Got:=
 match slip ix E (g.spoken==0) (g.good.any fun x=>decide (claim x.2=claim l.2)) (g.requires==most) l.2 with
 |some (a,k)=>⟨g.good,g.au++[(l.1,a,k)],g.spoken+1,g.requires⟩
 |none=>⟨g.good++[l],g.au,g.spoken+1,if (hd l.2).2=wR then g.requires+1 else g.requires⟩
def bM(ix:Bool)(E:List UInt8->Bool)(most:Nat)(g:Got)(l:Ln):Got:=
 match slip ix E (g.spoken==0) (g.good.any fun x=>again l.2 x.2) (g.requires==most) l.2 with
 |some (a,k)=>⟨g.good,g.au++[(l.1,a,k)],g.spoken+1,g.requires⟩
 |none=>⟨g.good++[l],g.au,g.spoken+1,if (hd l.2).2=wR then g.requires+1 else g.requires⟩
theorem CF(ix:Bool)(E:List UInt8->Bool)(most:Nat)(g:Got)(l:Ln):bM ix E most g l=step ix E most g l:=by
 unfold bM step
 have:(fun x:Ln=>again l.2 x.2)=fun x:Ln=>decide (claim x.2=claim l.2):=by
  funext x;rw[vu]
 rw[this]
