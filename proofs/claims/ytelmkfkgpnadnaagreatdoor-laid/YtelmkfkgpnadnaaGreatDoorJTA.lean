import Derived.Test.YtelmkfkgpnadnaaGreatDoorJPure
set_option linter.all false
namespace Go.Proofs.YtelmkfkgpnadnaaGreatDoor
namespace Tx
def nb(c:UInt8):Bool:=!(c==32||c==9)
def toks:Nat→Option (Nat×List UInt8)→List UInt8→List (Nat×List UInt8)
 |_,cur,[]=>cur.toList
 |i,none,c::t=>if nb c then toks (i+1) (some (i,[c])) t else toks (i+1) none t
 |i,some (a,w),c::t=>if nb c then toks (i+1) (some (a,w++[c])) t else (a,w)::toks (i+1) none t
def words(line:List UInt8):List (Nat×List UInt8):=toks 0 none (Pv.eM 35 line).1
theorem rR:∀(t:List UInt8)(i a:Nat)(w:List UInt8),toks i (some (a,w)) t=(a,w++t.takeWhile nb)::toks (i+(t.takeWhile nb).length) none (t.dropWhile nb)
 |[],i,a,w=>by simp[toks]
 |c::t,i,a,w=>by
  by_cases h:nb c=true
  ·rw[toks,ah h,rR t (i+1) a (w++[c])]
   simp only[List.takeWhile_cons,List.dropWhile_cons,h,dK,bX];rw[show i+1+(t.takeWhile nb).length=i+((t.takeWhile nb).length+1) by omega];simp
  ·have h':nb c=false:=by simpa using h
   rw[toks,af h];simp only[List.takeWhile_cons,List.dropWhile_cons,h'];simp[toks,h']
theorem En(l:List UInt8)(i:Nat)(h:i<l.length)(hb:nb l[i]=false):toks i none (l.drop i)=toks (i+1) none (l.drop (i+1)):=by
 rw[dt h,toks,af (by simp[hb])]
theorem GD(l:List UInt8)(i j:Nat)(h:i<j)(hj:j≤l.length)(hall:((l.drop i).take (j-i)).all nb=true)(hend:∀h:j<l.length,nb l[j]=false):
  toks i none (l.drop i)=(i,(l.drop i).take (j-i))::toks j none (l.drop j):=by
 have hi:i<l.length:=by omega
 have e:l.drop i=(l.drop i).take (j-i)++l.drop j:=by
  conv=>lhs;rw[←List.take_append_drop (j-i) (l.drop i)]
  rw[List.drop_drop,show i+(j-i)=j by omega]
 have hstop:∀c u,l.drop j=c::u→nb c=false:=by
  intro c u e
  have hlt:j<l.length:=by
   apply mN;intro hc;rw[mI (by omega)] at e;simp at e
  rw[dt hlt] at e;simp only[eG] at e;rw[←e.1];exact hend hlt
 have tw:∀(p t:List UInt8),p.all nb=true→(∀c u,t=c::u→nb c=false)→(p++t).takeWhile nb=p∧(p++t).dropWhile nb=t:=by
  intro p t hp ht
  induction p with
  |nil=>
   cases t with
   |nil=>simp
   |cons c u=>simp[ht c u rfl]
  |cons c u ih=>
   simp only[lI,cG] at hp;have:=ih hp.2;simp[hp.1,this.1,this.2]
 have hc:nb l[i]=true:=by
  have:=gJ.1 hall l[i];apply this;rw[dt hi,show j-i=(j-i-1)+1 by omega,List.take_succ_cons];simp
 conv=>lhs;rw[dt hi]
 rw[toks,ah hc,rR];have hp:(l[i]::l.drop (i+1))=(l.drop i).take (j-i)++l.drop j:=by rw[←dt hi];exact e
 obtain⟨t1,t2⟩:=tw _ _ hall hstop;rw[←hp] at t1 t2;simp only[List.takeWhile_cons,List.dropWhile_cons,hc,dK] at t1 t2;rw[t2];have hlen:((l.drop i).take (j-i)).length=j-i:=by rw[jP,List.length_drop];omega
 have hl1:((l.drop (i+1)).takeWhile nb).length+1=j-i:=by
  rw[←hlen,←t1];rfl
 rw[show i+1+((l.drop (i+1)).takeWhile nb).length=j by omega];rw[←t1]
 rfl
def byte(ws:List (Nat×List UInt8))(op off:Bool)(i:Nat)(c:UInt8):List (Nat×List UInt8)×Bool×Bool:=
 let Qt:=off||c==35
 let inn:=!Qt&&nb c
 (if inn then (if op then ws.dropLast++[((ws.getLastD (0,[])).1,(ws.getLastD (0,[])).2++[c])] else ws++[(i,[c])]) else ws,inn,Qt)
def bytes(ws:List (Nat×List UInt8))(op off:Bool)(i:Nat):List UInt8→List (Nat×List UInt8)
 |[]=>ws
 |c::t=>bytes (byte ws op off i c).1 (byte ws op off i c).2.1 (byte ws op off i c).2.2 (i+1) t
theorem tQ:∀(t:List UInt8)(ws:List (Nat×List UInt8))(op:Bool)(i:Nat),bytes ws op true i t=ws
 |[],_,_,_=>rfl
 |c::t,ws,op,i=>by
  have hb:byte ws op true i c=(ws,false,true):=by unfold byte;simp
  rw[bytes,hb];exact tQ t ws false (i+1)
theorem iZ:∀(t:List UInt8)(ws:List (Nat×List UInt8))(i:Nat),
  bytes ws false false i t=ws++toks i none (Pv.eM 35 t).1∧∀a w,bytes (ws++[(a,w)]) true false i t=ws++toks i (some (a,w)) (Pv.eM 35 t).1
 |[],ws,i=>by simp[bytes,Pv.eM,toks]
 |c::t,ws,i=>by
  by_cases h35:c=35
  ·have hb:∀ws op,byte ws op false i c=(ws,false,true):=by intro ws op;unfold byte;simp[h35]
   refine⟨?_,fun a w=>?_⟩
   ·rw[bytes,hb,tQ,Pv.eM,ah h35];simp[toks]
   ·rw[bytes,hb,tQ,Pv.eM,ah h35];simp[toks]
  ·have MS:(c==35)=false:=by simpa using h35
   rw[Pv.eM,af h35];by_cases hn:nb c=true
   ·refine⟨?_,fun a w=>?_⟩
    ·have hb:byte ws false false i c=(ws++[(i,[c])],true,false):=by unfold byte;simp[MS,hn]
     rw[bytes,hb,toks,ah hn];exact(iZ t ws (i+1)).2 i [c]
    ·have hb:byte (ws++[(a,w)]) true false i c=(ws++[(a,w++[c])],true,false):=by unfold byte;simp[MS,hn]
     rw[bytes,hb,toks,ah hn];exact(iZ t ws (i+1)).2 a (w++[c])
   ·have hn':nb c=false:=by simpa using hn
    refine⟨?_,fun a w=>?_⟩
    ·have hb:byte ws false false i c=(ws,false,false):=by unfold byte;simp[MS,hn']
     rw[bytes,hb,toks,af hn];exact(iZ t ws (i+1)).1
    ·have hb:byte (ws++[(a,w)]) true false i c=(ws++[(a,w)],false,false):=by unfold byte;simp[MS,hn']
     rw[bytes,hb,toks,af hn,(iZ t (ws++[(a,w)]) (i+1)).1];simp
theorem qT(line:List UInt8):bytes [] false false 0 line=words line:=by
 rw[(iZ line [] 0).1];rfl
end Tx
namespace Tx
abbrev Ln:=Nat×List (Nat×List UInt8)
def spoken:Nat→List (List UInt8)→List Ln
 |_,[]=>[]
 |n,l::ls=>if words l=[] then spoken (n+1) ls else (n,words l)::spoken (n+1) ls
def shut(out:List Ln)(n:Nat)(ws:List (Nat×List UInt8)):List Ln:=if ws=[] then out else out++[(n,ws)]
def dv(out:List Ln)(n:Nat)(ws:List (Nat×List UInt8))(op off:Bool)(i:Nat):List UInt8→List Ln
 |[]=>shut out n ws
 |c::t=>if c=10 then dv (shut out n ws) (n+1) [] false false 0 t
  else dv out n (byte ws op off i c).1 (byte ws op off i c).2.1 (byte ws op off i c).2.2 (i+1) t
theorem rS:∀(p:List UInt8)(t:List UInt8)(out:List Ln)(n:Nat)(ws:List (Nat×List UInt8))(op off:Bool)(i:Nat),(10:UInt8)∉p→
  dv out n ws op off i (p++10::t)=dv (shut out n (bytes ws op off i p)) (n+1) [] false false 0 t
 |[],t,out,n,ws,op,off,i,_=>by simp[dv,bytes]
 |c::p,t,out,n,ws,op,off,i,h=>by
  have hc:c≠10:=by intro e;apply h;simp[e]
  have hp:(10:UInt8)∉p:=by intro e;apply h;simp[e]
  rw[jQ,dv,af hc,bytes];exact rS p t out n _ _ _ (i+1) hp
theorem lL:∀(p:List UInt8)(out:List Ln)(n:Nat)(ws:List (Nat×List UInt8))(op off:Bool)(i:Nat),(10:UInt8)∉p→
  dv out n ws op off i p=shut out n (bytes ws op off i p)
 |[],out,n,ws,op,off,i,_=>by simp[dv,bytes]
 |c::p,out,n,ws,op,off,i,h=>by
  have hc:c≠10:=by intro e;apply h;simp[e]
  have hp:(10:UInt8)∉p:=by intro e;apply h;simp[e]
  rw[dv,af hc,bytes];exact lL p out n _ _ _ (i+1) hp
theorem wI(out:List Ln)(n:Nat)(l:List UInt8)(ls:List (List UInt8)):shut out n (words l)++spoken (n+1) ls=out++spoken n (l::ls):=by
 unfold shut;by_cases h:words l=[]
 ·rw[ah h,spoken,ah h]
 ·rw[af h,spoken,af h];simp
theorem FR:∀(t:List UInt8),(10:UInt8)∉t∨∃p q,t=p++10::q∧(10:UInt8)∉p
 |[]=>Or.inl (by simp)
 |c::t=>by
  by_cases hc:c=10
  ·exact Or.inr ⟨[],t,by simp[hc],by simp⟩
  ·rcases FR t with h|⟨p,q,e,h⟩
   ·refine Or.inl ?_
    intro hm;rcases aV.1 hm with e|e
    ·exact hc e.symm
    ·exact h e
   ·refine Or.inr ⟨c::p,q,by simp[e],?_⟩
    intro hm;rcases aV.1 hm with e|e
    ·exact hc e.symm
    ·exact h e
theorem vI(k:Nat):∀(t:List UInt8),t.length≤k→∀(out:List Ln)(n:Nat),dv out n [] false false 0 t=out++spoken n (Pv.spl 10 t):=by
 induction k with
 |zero=>
  intro t ht out n;have:t=[]:=List.length_eq_zero_iff.1 (by omega);subst this;rw[lL [] out n [] false false 0 (by simp),qT,Pv.oF 10 [] (by simp),←wI];simp[spoken]
 |succ k ih=>
  intro t ht out n;rcases FR t with h|⟨p,q,e,h⟩
  ·rw[lL t out n [] false false 0 h,qT,Pv.oF 10 t h,←wI]
   simp[spoken]
  ·subst e
   rw[rS p q out n [] false false 0 h,qT,Pv.mU 10 p q h,ih q (by simp at ht;omega),wI]
theorem mW(t:List UInt8):dv [] 1 [] false false 0 t=spoken 1 (Pv.spl 10 t):=by
 rw[vI t.length t (ag _) [] 1];rfl
end Tx
namespace Tx
def wM:List UInt8:=[109,111,100,117,108,101]
def wR:List UInt8:=[114,101,113,117,105,114,101]
def wE:List UInt8:=[101,120,99,108,117,100,101]
def wP:List UInt8:=[114,101,112,108,97,99,101]
def wV:List UInt8:=[118,101,114,115,105,111,110]
def wA:List UInt8:=[61,62]
def shape(ix:Bool)(f:List UInt8):Option (List Nat):=
 if ix then (if f=wV then some [6] else none)
 else if f=wM then some [5] else if f=wR∨f=wE then some [5,6] else if f=wP then some [5,6,7,6] else none
def fit(ip:List UInt8→Bool)(k:Nat)(t:List UInt8):Bool:=if k=5 then ip t else if k=6 then (Pv.parse t).isSome else t==wA
def misfit(ip:List UInt8→Bool)(k:Nat):List Nat→List (Nat×List UInt8)→Option Nat
 |p::ps,w::ws=>if p=k∧fit ip k w.2=false then some w.1 else misfit ip k ps ws
 |_,_=>none
def hd(ws:List (Nat×List UInt8)):Nat×List UInt8:=ws.headD (0,[])
def nth(ws:List (Nat×List UInt8))(k:Nat):List UInt8:=(ws.getD k (0,[])).2
def fin(ws:List (Nat×List UInt8)):Nat:=(ws.getLastD (0,[])).1+(ws.getLastD (0,[])).2.length
def own(ix:Bool)(ip:List UInt8→Bool)(ws:List (Nat×List UInt8)):Option (Nat×Nat):=
 match shape ix (hd ws).2 with
 |none=>some ((hd ws).1,3)
 |some ps=>
  if ps.length+1<ws.length then some ((ws.getD (ps.length+1) (0,[])).1,4)
  else if ws.length<ps.length+1 then some (fin ws,4)
  else match misfit ip 5 ps ws.tail with
   |some a=>some (a,5)
   |none=>match misfit ip 6 ps ws.tail with
    |some a=>some (a,6)
    |none=>match misfit ip 7 ps ws.tail with
     |some a=>some (a,7)
     |none=>none
def slip(ix:Bool)(ip:List UInt8→Bool)(lead dup many:Bool)(ws:List (Nat×List UInt8)):Option (Nat×Nat):=
 if ix=false∧((hd ws).2==wM)≠lead then some ((hd ws).1,2)
 else match own ix ip ws with
  |some x=>some x
  |none=>if dup then some ((hd ws).1,8) else if (hd ws).2=wR∧many=true then some ((hd ws).1,9) else none
def claim(ws:List (Nat×List UInt8)):List UInt8×List UInt8×List UInt8:=
 if (hd ws).2=wV then ((hd ws).2,[],nth ws 1)
 else if (hd ws).2=wR∨(hd ws).2=wM then ((hd ws).2,nth ws 1,[])
 else ((hd ws).2,nth ws 1,nth ws 2)
def again(l g:List (Nat×List UInt8)):Bool:=
 (hd g).2==(hd l).2&&nth g 1==nth l 1&&((hd l).2==wR||(hd l).2==wV||(hd l).2==wM||nth g 2==nth l 2)
theorem uT(l g:List (Nat×List UInt8)):decide (claim g=claim l)=again l g:=by
 unfold again claim;by_cases h0:(hd g).2=(hd l).2
 ·rw[h0,eu]
  by_cases hV:(hd l).2=wV
  ·simp[hV]
  ·by_cases hR:(hd l).2=wR
   ·have:(wR=wV)=False:=by simp[wR,wV]
    simp[hR,this]
   ·by_cases hM:(hd l).2=wM
    ·have h1:(wM=wV)=False:=by simp[wM,wV]
     have h2:(wM=wR)=False:=by simp[wM,wR]
     simp[hM,h1,h2]
    ·simp[hV,hR,hM]
 ·have hne:((hd g).2==(hd l).2)=false:=by simpa using h0
  rw[hne];simp only[Bool.false_and,tL];intro h;apply h0;have:=bW Prod.fst h
  split at this<;>split at this<;>(try split at this)<;>(try split at this)<;>simpa using this
structure Got where
 good:List Ln
 au:List (Nat×Nat×Nat)
 spoken:Nat
 requires:Nat
def step(ix:Bool)(ip:List UInt8→Bool)(most:Nat)(g:Got)(l:Ln):Got:=
 match slip ix ip (g.spoken==0) (g.good.any fun x=>decide (claim x.2=claim l.2)) (g.requires==most) l.2 with
 |some (a,k)=>⟨g.good,g.au++[(l.1,a,k)],g.spoken+1,g.requires⟩
 |none=>⟨g.good++[l],g.au,g.spoken+1,if (hd l.2).2=wR then g.requires+1 else g.requires⟩
def bw(ix:Bool)(ip:List UInt8→Bool)(most:Nat)(g:Got)(l:Ln):Got:=
 match slip ix ip (g.spoken==0) (g.good.any fun x=>again l.2 x.2) (g.requires==most) l.2 with
 |some (a,k)=>⟨g.good,g.au++[(l.1,a,k)],g.spoken+1,g.requires⟩
 |none=>⟨g.good++[l],g.au,g.spoken+1,if (hd l.2).2=wR then g.requires+1 else g.requires⟩
theorem Cb(ix:Bool)(ip:List UInt8→Bool)(most:Nat)(g:Got)(l:Ln):bw ix ip most g l=step ix ip most g l:=by
 unfold bw step
 have:(fun x:Ln=>again l.2 x.2)=fun x:Ln=>decide (claim x.2=claim l.2):=by
  funext x;rw[uT]
 rw[this]
