import Derived.Test.YtooabooekgphpaaGreatDoorKPure
set_option linter.all false
namespace Go.Proofs.YtooabooekgphpaaGreatDoor
namespace Tx
def nb(c:UInt8):Bool:=!(c==32||c==9)
def toks:Nat->Option (Nat×List UInt8)->List UInt8->List (Nat×List UInt8)
 |_,D,[]=>D.toList
 |i,none,c::t=>if nb c then toks (i+1) (some (i,[c])) t else toks (i+1) none t
 |i,some (a,w),c::t=>if nb c then toks (i+1) (some (a,w++[c])) t else (a,w)::toks (i+1) none t
def words(line:List UInt8):List (Nat×List UInt8):=toks 0 none (Pv.eW 35 line).1
theorem rA:∀(t:List UInt8)(i a:Nat)(w:List UInt8),toks i (some (a,w)) t=(a,w++t.takeWhile nb)::toks (i+(t.takeWhile nb).length) none (t.dropWhile nb)
 |[],i,a,w=>by simp[toks]
 |c::t,i,a,w=>by
  by_cases h:nb c=true
  ·rw[toks,aj h,rA t (i+1) a (w++[c])]
   simp only[List.takeWhile_cons,List.dropWhile_cons,h,dD,bN];rw[show i+1+(t.takeWhile nb).length=i+((t.takeWhile nb).length+1) by omega];simp
  ·have D:nb c=false:=by simpa using h
   rw[toks,ag h];simp only[List.takeWhile_cons,List.dropWhile_cons,D];simp[toks,D]
theorem Es(l:List UInt8)(i:Nat)(h:i<l.length)(D:nb l[i]=false):toks i none (l.drop i)=toks (i+1) none (l.drop (i+1)):=by
 rw[cY h,toks,ag (by simp[D])]
theorem GJ(l:List UInt8)(i j:Nat)(h:i<j)(Y:j<=l.length)(D:((l.drop i).take (j-i)).all nb=true)(F:∀h:j<l.length,nb l[j]=false):
  toks i none (l.drop i)=(i,(l.drop i).take (j-i))::toks j none (l.drop j):=by
 have S:i<l.length:=by omega
 have e:l.drop i=(l.drop i).take (j-i)++l.drop j:=by
  conv=>lhs;rw[<-List.take_append_drop (j-i) (l.drop i)]
  rw[List.drop_drop,show i+(j-i)=j by omega]
 have E:∀c u,l.drop j=c::u->nb c=false:=by
  intro c u e
  have I:j<l.length:=by
   apply qq;intro O;rw[iO (by omega)] at e;simp at e
  rw[cY I] at e;simp only[eH] at e;rw[<-e.1];exact F I
 have W:∀(p t:List UInt8),p.all nb=true->(∀c u,t=c::u->nb c=false)->(p++t).takeWhile nb=p/\(p++t).dropWhile nb=t:=by
  intro p t M U
  induction p with
  |nil=>
   cases t with
   |nil=>simp
   |cons c u=>simp[U c u rfl]
  |cons c u V=>
   simp only[jB,ed] at M;have:=V M.2;simp[M.1,this.1,this.2]
 have O:nb l[i]=true:=by
  have:=il.1 D l[i];apply this;rw[cY S,show j-i=(j-i-1)+1 by omega,List.take_succ_cons];simp
 conv=>lhs;rw[cY S]
 rw[toks,aj O,rA];have M:(l[i]::l.drop (i+1))=(l.drop i).take (j-i)++l.drop j:=by rw[<-cY S];exact e
 obtain⟨t1,t2⟩:=W _ _ D E;rw[<-M] at t1 t2;simp only[List.takeWhile_cons,List.dropWhile_cons,O,dD] at t1 t2;rw[t2];have G:((l.drop i).take (j-i)).length=j-i:=by rw[jz,List.length_drop];omega
 have T:((l.drop (i+1)).takeWhile nb).length+1=j-i:=by
  rw[<-G,<-t1];rfl
 rw[show i+1+((l.drop (i+1)).takeWhile nb).length=j by omega];rw[<-t1]
 rfl
def byte(E:List (Nat×List UInt8))(op off:Bool)(i:Nat)(c:UInt8):List (Nat×List UInt8)×Bool×Bool:=
 let F:=off||c==35
 let D:=!F&&nb c
 (if D then (if op then E.dropLast++[((E.getLastD (0,[])).1,(E.getLastD (0,[])).2++[c])] else E++[(i,[c])]) else E,D,F)
def bytes(D:List (Nat×List UInt8))(op off:Bool)(i:Nat):List UInt8->List (Nat×List UInt8)
 |[]=>D
 |c::t=>bytes (byte D op off i c).1 (byte D op off i c).2.1 (byte D op off i c).2.2 (i+1) t
theorem tq:∀(t:List UInt8)(D:List (Nat×List UInt8))(op:Bool)(i:Nat),bytes D op true i t=D
 |[],_,_,_=>rfl
 |c::t,D,op,i=>by
  have E:byte D op true i c=(D,false,true):=by unfold byte;simp
  rw[bytes,E];exact tq t D false (i+1)
theorem je:∀(t:List UInt8)(D:List (Nat×List UInt8))(i:Nat),
  bytes D false false i t=D++toks i none (Pv.eW 35 t).1/\∀a w,bytes (D++[(a,w)]) true false i t=D++toks i (some (a,w)) (Pv.eW 35 t).1
 |[],D,i=>by simp[bytes,Pv.eW,toks]
 |c::t,D,i=>by
  by_cases E:c=35
  ·have F:∀D op,byte D op false i c=(D,false,true):=by intro D op;unfold byte;simp[E]
   refine⟨?_,fun a w=>?_⟩
   ·rw[bytes,F,tq,Pv.eW,aj E];simp[toks]
   ·rw[bytes,F,tq,Pv.eW,aj E];simp[toks]
  ·have M:(c==35)=false:=by simpa using E
   rw[Pv.eW,ag E];by_cases G:nb c=true
   ·refine⟨?_,fun a w=>?_⟩
    ·have F:byte D false false i c=(D++[(i,[c])],true,false):=by unfold byte;simp[M,G]
     rw[bytes,F,toks,aj G];exact(je t D (i+1)).2 i [c]
    ·have F:byte (D++[(a,w)]) true false i c=(D++[(a,w++[c])],true,false):=by unfold byte;simp[M,G]
     rw[bytes,F,toks,aj G];exact(je t D (i+1)).2 a (w++[c])
   ·have I:nb c=false:=by simpa using G
    refine⟨?_,fun a w=>?_⟩
    ·have F:byte D false false i c=(D,false,false):=by unfold byte;simp[M,I]
     rw[bytes,F,toks,ag G];exact(je t D (i+1)).1
    ·have F:byte (D++[(a,w)]) true false i c=(D++[(a,w)],false,false):=by unfold byte;simp[M,I]
     rw[bytes,F,toks,ag G,(je t (D++[(a,w)]) (i+1)).1];simp
theorem qz(line:List UInt8):bytes [] false false 0 line=words line:=by
 rw[(je line [] 0).1];rfl
end Tx
namespace Tx
abbrev Ln:=Nat×List (Nat×List UInt8)
def spoken:Nat->List (List UInt8)->List Ln
 |_,[]=>[]
 |n,l::D=>if words l=[] then spoken (n+1) D else (n,words l)::spoken (n+1) D
def shut(out:List Ln)(n:Nat)(D:List (Nat×List UInt8)):List Ln:=if D=[] then out else out++[(n,D)]
def dw(out:List Ln)(n:Nat)(D:List (Nat×List UInt8))(op off:Bool)(i:Nat):List UInt8->List Ln
 |[]=>shut out n D
 |c::t=>if c=10 then dw (shut out n D) (n+1) [] false false 0 t
  else dw out n (byte D op off i c).1 (byte D op off i c).2.1 (byte D op off i c).2.2 (i+1) t
theorem rB:∀(p:List UInt8)(t:List UInt8)(out:List Ln)(n:Nat)(D:List (Nat×List UInt8))(op off:Bool)(i:Nat),(10:UInt8)∉p->
  dw out n D op off i (p++10::t)=dw (shut out n (bytes D op off i p)) (n+1) [] false false 0 t
 |[],t,out,n,D,op,off,i,_=>by simp[dw,bytes]
 |c::p,t,out,n,D,op,off,i,h=>by
  have E:c≠10:=by intro e;apply h;simp[e]
  have F:(10:UInt8)∉p:=by intro e;apply h;simp[e]
  rw[jA,dw,ag E,bytes];exact rB p t out n _ _ _ (i+1) F
theorem lu:∀(p:List UInt8)(out:List Ln)(n:Nat)(D:List (Nat×List UInt8))(op off:Bool)(i:Nat),(10:UInt8)∉p->
  dw out n D op off i p=shut out n (bytes D op off i p)
 |[],out,n,D,op,off,i,_=>by simp[dw,bytes]
 |c::p,out,n,D,op,off,i,h=>by
  have E:c≠10:=by intro e;apply h;simp[e]
  have F:(10:UInt8)∉p:=by intro e;apply h;simp[e]
  rw[dw,ag E,bytes];exact lu p out n _ _ _ (i+1) F
theorem vV(out:List Ln)(n:Nat)(l:List UInt8)(D:List (List UInt8)):shut out n (words l)++spoken (n+1) D=out++spoken n (l::D):=by
 unfold shut;by_cases h:words l=[]
 ·rw[aj h,spoken,aj h]
 ·rw[ag h,spoken,ag h];simp
theorem FX:∀(t:List UInt8),(10:UInt8)∉t\/∃p q,t=p++10::q/\(10:UInt8)∉p
 |[]=>Or.inl (by simp)
 |c::t=>by
  by_cases D:c=10
  ·exact Or.inr ⟨[],t,by simp[D],by simp⟩
  ·rcases FX t with h|⟨p,q,e,h⟩
   ·refine Or.inl ?_
    intro hm;rcases aP.1 hm with e|e
    ·exact D e.symm
    ·exact h e
   ·refine Or.inr ⟨c::p,q,by simp[e],?_⟩
    intro hm;rcases aP.1 hm with e|e
    ·exact D e.symm
    ·exact h e
theorem vk(k:Nat):∀(t:List UInt8),t.length<=k->∀(out:List Ln)(n:Nat),dw out n [] false false 0 t=out++spoken n (Pv.spl 10 t):=by
 induction k with
 |zero=>
  intro t D out n;have:t=[]:=List.length_eq_zero_iff.1 (by omega);subst this;rw[lu [] out n [] false false 0 (by simp),qz,Pv.nU 10 [] (by simp),<-vV];simp[spoken]
 |succ k E=>
  intro t D out n;rcases FX t with h|⟨p,q,e,h⟩
  ·rw[lu t out n [] false false 0 h,qz,Pv.nU 10 t h,<-vV]
   simp[spoken]
  ·subst e
   rw[rB p q out n [] false false 0 h,qz,Pv.mB 10 p q h,E q (by simp at D;omega),vV]
theorem qA(t:List UInt8):dw [] 1 [] false false 0 t=spoken 1 (Pv.spl 10 t):=by
 rw[vk t.length t (af _) [] 1];rfl
end Tx
namespace Tx
def wM:List UInt8:=[109,111,100,117,108,101]
def wR:List UInt8:=[114,101,113,117,105,114,101]
def wE:List UInt8:=[101,120,99,108,117,100,101]
def wP:List UInt8:=[114,101,112,108,97,99,101]
def wV:List UInt8:=[118,101,114,115,105,111,110]
def wA:List UInt8:=[61,62]
def shape(ix:Bool)(f:List UInt8):Option (List Nat):=
 if ix then (if f=wV then some [6] else none)
 else if f=wM then some [5] else if f=wR\/f=wE then some [5,6] else if f=wP then some [5,6,7,6] else none
def fit(D:List UInt8->Bool)(k:Nat)(t:List UInt8):Bool:=if k=5 then D t else if k=6 then (Pv.parse t).isSome else t==wA
def misfit(D:List UInt8->Bool)(k:Nat):List Nat->List (Nat×List UInt8)->Option Nat
 |p::ps,w::E=>if p=k/\fit D k w.2=false then some w.1 else misfit D k ps E
 |_,_=>none
def hd(D:List (Nat×List UInt8)):Nat×List UInt8:=D.headD (0,[])
def nth(D:List (Nat×List UInt8))(k:Nat):List UInt8:=(D.getD k (0,[])).2
def fin(D:List (Nat×List UInt8)):Nat:=(D.getLastD (0,[])).1+(D.getLastD (0,[])).2.length
def own(ix:Bool)(E:List UInt8->Bool)(D:List (Nat×List UInt8)):Option (Nat×Nat):=
 match shape ix (hd D).2 with
 |none=>some ((hd D).1,3)
 |some ps=>
  if ps.length+1<D.length then some ((D.getD (ps.length+1) (0,[])).1,4)
  else if D.length<ps.length+1 then some (fin D,4)
  else match misfit E 5 ps D.tail with
   |some a=>some (a,5)
   |none=>match misfit E 6 ps D.tail with
    |some a=>some (a,6)
    |none=>match misfit E 7 ps D.tail with
     |some a=>some (a,7)
     |none=>none
def slip(ix:Bool)(F:List UInt8->Bool)(lead E many:Bool)(D:List (Nat×List UInt8)):Option (Nat×Nat):=
 if ix=false/\((hd D).2==wM)≠lead then some ((hd D).1,2)
 else match own ix F D with
  |some x=>some x
  |none=>if E then some ((hd D).1,8) else if (hd D).2=wR/\many=true then some ((hd D).1,9) else none
def claim(D:List (Nat×List UInt8)):List UInt8×List UInt8×List UInt8:=
 if (hd D).2=wV then ((hd D).2,[],nth D 1)
 else if (hd D).2=wR\/(hd D).2=wM then ((hd D).2,nth D 1,[])
 else ((hd D).2,nth D 1,nth D 2)
def again(l g:List (Nat×List UInt8)):Bool:=
 (hd g).2==(hd l).2&&nth g 1==nth l 1&&((hd l).2==wR||(hd l).2==wV||(hd l).2==wM||nth g 2==nth l 2)
theorem uG(l g:List (Nat×List UInt8)):decide (claim g=claim l)=again l g:=by
 unfold again claim;by_cases D:(hd g).2=(hd l).2
 ·rw[D,fW]
  by_cases I:(hd l).2=wV
  ·simp[I]
  ·by_cases G:(hd l).2=wR
   ·have:(wR=wV)=False:=by simp[wR,wV]
    simp[G,this]
   ·by_cases F:(hd l).2=wM
    ·have M:(wM=wV)=False:=by simp[wM,wV]
     have O:(wM=wR)=False:=by simp[wM,wR]
     simp[F,M,O]
    ·simp[I,G,F]
 ·have E:((hd g).2==(hd l).2)=false:=by simpa using D
  rw[E];simp only[Bool.false_and,sX];intro h;apply D;have:=cV Prod.fst h
  split at this<;>split at this<;>(try split at this)<;>(try split at this)<;>simpa using this
structure Got where
 good:List Ln
 au:List (Nat×Nat×Nat)
 spoken:Nat
 requires:Nat
def step(ix:Bool)(D:List UInt8->Bool)(most:Nat)(g:Got)(l:Ln):Got:=
 match slip ix D (g.spoken==0) (g.good.any fun x=>decide (claim x.2=claim l.2)) (g.requires==most) l.2 with
 |some (a,k)=>⟨g.good,g.au++[(l.1,a,k)],g.spoken+1,g.requires⟩
 |none=>⟨g.good++[l],g.au,g.spoken+1,if (hd l.2).2=wR then g.requires+1 else g.requires⟩
def bz(ix:Bool)(D:List UInt8->Bool)(most:Nat)(g:Got)(l:Ln):Got:=
 match slip ix D (g.spoken==0) (g.good.any fun x=>again l.2 x.2) (g.requires==most) l.2 with
 |some (a,k)=>⟨g.good,g.au++[(l.1,a,k)],g.spoken+1,g.requires⟩
 |none=>⟨g.good++[l],g.au,g.spoken+1,if (hd l.2).2=wR then g.requires+1 else g.requires⟩
theorem BS(ix:Bool)(D:List UInt8->Bool)(most:Nat)(g:Got)(l:Ln):bz ix D most g l=step ix D most g l:=by
 unfold bz step
 have:(fun x:Ln=>again l.2 x.2)=fun x:Ln=>decide (claim x.2=claim l.2):=by
  funext x;rw[uG]
 rw[this]
