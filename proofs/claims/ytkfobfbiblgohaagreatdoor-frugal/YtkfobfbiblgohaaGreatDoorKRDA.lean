import Derived.Test.YtkfobfbiblgohaaGreatDoorKQG
import Derived.Laws.CopyOwn
set_option linter.all false
namespace Go.Proofs.YtkfobfbiblgohaaGreatDoor
namespace Rn
open Tx (nb toks sr words spoken)
def mf(w:List UInt8):Bool:=!w.isEmpty&&w.all (fun c=>nb c&&c !=35&&c !=10)
def blanks(b:List UInt8):Bool:=b.all fun c=>c==32||c==9
def join:List (List UInt8×List UInt8)->List UInt8
 |[]=>[]
 |(b,w)::r=>b++(w++join r)
def zw(i:Nat):List (List UInt8×List UInt8)->List (Nat×List UInt8)
 |[]=>[]
 |(b,w)::r=>(i+b.length,w)::zw (i+b.length+w.length) r
theorem rJ:∀(ps:List (List UInt8×List UInt8))(i:Nat),(zw i ps).map (·.2)=ps.map (·.2)
 |[],_=>rfl
 |(b,w)::r,i=>by simp only[zw,bQ,rJ r]
theorem yg{c:UInt8}(h:(c==32||c==9)=true):nb c=false:=by
 unfold nb;rw[h];rfl
theorem uN:∀(b x:List UInt8)(i:Nat),blanks b=true->toks i none (b++x)=toks (i+b.length) none x
 |[],x,i,_=>rfl
 |c::b,x,i,h=>by
  simp only[blanks,lJ,fC] at h;rw[mJ,toks,ag (by rw[yg h.1];decide),uN b x (i+1) h.2];simp only[bW];rw[show i+1+b.length=i+(b.length+1) by omega]
theorem Du:∀(w y:List UInt8),(∀c∈w,nb c=true)->(∀c u,y=c::u->nb c=false)->(w++y).takeWhile nb=w/\(w++y).dropWhile nb=y
 |[],y,_,E=>by
  cases y with
  |nil=>exact⟨rfl,rfl⟩
  |cons c u=>have h:=E c u rfl;simp[h]
 |c::w,y,h,E=>by
  have G:=h c (by simp);have F:=Du w y (fun d hd=>h d (by simp[hd])) E;simp only[mJ,List.takeWhile_cons,List.dropWhile_cons,G,dD,F.1,F.2];exact⟨trivial,trivial⟩
theorem KY(w y:List UInt8)(i:Nat)(F:mf w=true)(M:∀c u,y=c::u->nb c=false):toks i none (w++y)=(i,w)::toks (i+w.length) none y:=by
 cases w with
 |nil=>simp[mf] at F
 |cons c w=>
  have E:∀d∈c::w,nb d=true:=fun d hd=>by
   simp only[mf,fC,jX] at F;exact(F.2 d hd).1.1
  have I:=E c (by simp);have G:=Du w y (fun d hd=>E d (by simp[hd])) M;rw[mJ,toks,aj I,sr,G.1,G.2];simp only[qL,bW];rw[show i+1+w.length=i+(w.length+1) by omega]
theorem Dv:∀(t:List UInt8)(i:Nat),blanks t=true->toks i none t=[]
 |t,i,h=>by
  have:=uN t [] i h;rw[fM] at this;rw[this];rfl
def QE(ps:List (List UInt8×List UInt8)):Prop:=(∀p∈ps,blanks p.1=true/\mf p.2=true)/\∀p∈ps.tail,p.1≠[]
theorem vF:∀(ps:List (List UInt8×List UInt8))(E:List UInt8)(i:Nat),QE ps->blanks E=true->toks i none (join ps++E)=zw i ps
 |[],E,i,_,G=>Dv E i G
 |(b,w)::r,E,i,h,G=>by
  have T:=h.1 (b,w) (by simp);have V:QE r:=⟨fun p O=>h.1 p (by simp[O]),fun p O=>h.2 p (by simpa using List.mem_of_mem_tail O)⟩
  have Y:∀c u,join r++E=c::u->nb c=false:=by
   intro c u e;cases r with
   |nil=>
    cases E with
    |nil=>simp[join] at e
    |cons d t=>
     simp only[join,jZ,eL] at e;simp only[blanks,lJ,fC] at G;rw[<-e.1];exact yg G.1
   |cons q r=>
    obtain⟨I,U⟩:=q;have M:=h.2 (I,U) (by simp);have F:=(h.1 (I,U) (by simp)).1;cases I with
    |nil=>exact absurd rfl M
    |cons d t=>
     simp only[join,mJ,eL] at e;simp only[blanks,lJ,fC] at F;rw[<-e.1];exact yg F.1
  rw[join,fB,uN b _ i T.1,fB,KY w _ _ T.2 Y,vF r E _ V G,zw]
structure Lx where
 ps:List (List UInt8×List UInt8)
 tr:List UInt8
 cm:Option (List UInt8)
 ex:Bool
def rK(E:Option (List UInt8)):List UInt8:=match E with|none=>[]|some c=>35::c
def row(l:Lx):List UInt8:=join l.ps++l.tr++rK l.cm
def txt(l:Lx):List UInt8:=row l++10::(if l.ex then [10,32,10,35,120,10] else [])
structure BN(l:Lx):Prop where
 ps:QE l.ps
 ne:l.ps≠[]
 tr:blanks l.tr=true
 cm:∀c,l.cm=some c->(10:UInt8)∉c
theorem BO{c:UInt8}(F:c=35\/c=10):∀ps,(∀p∈ps,blanks p.1=true/\mf p.2=true)->c∉join ps
 |[],_=>by simp[join]
 |(b,w)::r,h=>by
  have G:=h (b,w) (by simp);have M:=BO F r (fun p I=>h p (by simp[I]));simp only[join,bh,not_or];refine⟨fun hm=>?_,fun hm=>?_,M⟩
  ·have:=G.1
   simp only[blanks,jX] at this;have E:=this c hm;rcases F with rfl|rfl<;>simp at E
  ·have:=G.2
   simp only[mf,fC,jX] at this;have E:=this.2 c hm;rcases F with rfl|rfl
   ·simp at E
   ·simp at E
theorem Ap{c:UInt8}(F:c=35\/c=10){t:List UInt8}(h:blanks t=true):c∉t:=fun hm=>by
 simp only[blanks,jX] at h;have E:=h c hm;rcases F with rfl|rfl<;>simp at E
theorem II{l:Lx}(h:BN l):words (row l)=zw 0 l.ps:=by
 have E:(35:UInt8)∉join l.ps++l.tr:=by
  simp only[bh,not_or];exact⟨BO (oE rfl) _ h.ps.1,Ap (oE rfl) h.tr⟩
 have e:(Pv.eZ 35 (row l)).1=join l.ps++l.tr:=by
  unfold row rK;cases l.cm with
  |none=>simp only[fM];rw[Pv.um 35 _ E]
  |some c=>simp only;rw[Pv.xj 35 _ c E]
 unfold words;rw[e];exact vF l.ps l.tr 0 h.ps h.tr
theorem KZ{l:Lx}(h:BN l):(10:UInt8)∉row l:=by
 unfold row rK;simp only[bh,not_or];refine⟨⟨BO (oS rfl) _ h.ps.1,Ap (oS rfl) h.tr⟩,?_⟩;cases hc:l.cm with
 |none=>simp
 |some c=>
  simp only[aK,not_or];exact⟨by decide,h.cm c hc⟩
theorem NV{ps:List (List UInt8×List UInt8)}(h:ps≠[])(i:Nat):zw i ps≠[]:=by
 cases ps with
 |nil=>exact absurd rfl h
 |cons p r=>obtain⟨b,w⟩:=p;simp[zw]
def nums(n:Nat):List Lx->List Tx.Ln
 |[]=>[]
 |l::r=>(n,zw 0 l.ps)::nums (n+if l.ex then 4 else 1) r
theorem eE(n:Nat)(a:List UInt8)(E:List (List UInt8))(h:words a=[]):spoken n (a::E)=spoken (n+1) E:=by rw[spoken,aj h]
end Rn
namespace Rn
open Tx (wM wR wE wP wA)
def pW(k:Nat):List UInt8:=[109,UInt8.ofNat (48+k)]
def vW(j:Nat):List UInt8:=if j=0 then [118,49,46,48,46,48] else if j=1 then [118,49,46,50,46,48,45,114,99,46,49] else if j=2 then [118,49,46,50,46,48] else [118,49,46,49,48,46,48]
structure It where
 t:Nat
 k:Nat
 v:Nat
 b:Nat
deriving DecidableEq
structure kK(x:It):Prop where
 t:x.t<3
 k:x.k<7
 v:x.v<4
 b:x.b<4
def itW(x:It):List (List UInt8):=if x.t=0 then [wR,pW x.k,vW x.v] else if x.t=1 then [wE,pW x.k,vW x.v] else [wP,pW x.k,vW x.v,wA,vW x.b]
theorem cJ:∀k,k<7->Pv.aG (pW k)=true:=by decide
theorem wX:∀j,j<4->(Pv.parse (vW j)).isSome=true:=by decide
theorem QF:∀a,a<7->∀b,b<7->pW a=pW b->a=b:=by decide
theorem vG(a b:Nat)(E:a<7)(F:b<7)(h:pW a=pW b):a=b:=QF a E b F h
theorem QG:∀a,a<4->∀b,b<4->vW a=vW b->a=b:=by decide
theorem Gt(a b:Nat)(E:a<4)(F:b<4)(h:vW a=vW b):a=b:=QG a E b F h
def clI(x:It):Nat×Nat×Nat:=(x.t,x.k,if x.t=0 then 0 else x.v)
theorem td{x:It}(M:kK x){l:List (Nat×List UInt8)}(E:l.map (·.2)=itW x):Tx.own false Pv.aG l=none/\(Tx.hd l).2≠wM/\((Tx.hd l).2=wR↔x.t=0)/\Tx.claim l=(if x.t=0 then (wR,pW x.k,[]) else if x.t=1 then (wE,pW x.k,vW x.v) else (wP,pW x.k,vW x.v)):=by
 have T:=cJ x.k M.k;have U:=wX x.v M.v;have hb:=wX x.b M.b;rcases(by have:=M.t;omega:x.t=0\/x.t=1\/x.t=2) with e|e|e
 ·unfold itW at E
  rw[aj e] at E
  match l,E with
  |[(V,w0),(Y,w1),(a2,w2)],E=>
   simp only[bQ,fL,eL,fE] at E;obtain⟨rfl,rfl,rfl⟩:=E;have I:Tx.shape false wR=some [5,6]:=by decide
   refine⟨?_,(by decide:wR≠wM),⟨fun _=>e,fun _=>rfl⟩,?_⟩
   ·simp[Tx.own,Tx.hd,I,Tx.misfit,Tx.fit,T,U]
   ·rw[aj e]
    have F:wR≠Tx.wV:=by decide
    simp[Tx.claim,Tx.hd,Tx.nth,F]
 ·unfold itW at E
  rw[ag (by omega),aj e] at E
  match l,E with
  |[(V,w0),(Y,w1),(a2,w2)],E=>
   simp only[bQ,fL,eL,fE] at E;obtain⟨rfl,rfl,rfl⟩:=E;have I:Tx.shape false wE=some [5,6]:=by decide
   have G:wE≠wR:=by decide
   refine⟨?_,(by decide:wE≠wM),⟨fun h=>absurd h G,fun h=>by omega⟩,?_⟩
   ·simp[Tx.own,Tx.hd,I,Tx.misfit,Tx.fit,T,U]
   ·rw[ag (by omega),aj e]
    have F:wE≠Tx.wV:=by decide
    have O:wE≠wM:=by decide
    simp[Tx.claim,Tx.hd,Tx.nth,F,G,O]
 ·unfold itW at E
  rw[ag (by omega),ag (by omega)] at E
  match l,E with
  |[(V,w0),(Y,w1),(a2,w2),(a3,w3),(a4,w4)],E=>
   simp only[bQ,fL,eL,fE] at E;obtain⟨rfl,rfl,rfl,rfl,rfl⟩:=E;have I:Tx.shape false wP=some [5,6,7,6]:=by decide
   have G:wP≠wR:=by decide
   refine⟨?_,(by decide:wP≠wM),⟨fun h=>absurd h G,fun h=>by omega⟩,?_⟩
   ·simp[Tx.own,Tx.hd,I,Tx.misfit,Tx.fit,T,U,hb]
   ·rw[ag (by omega),ag (by omega)]
    have F:wP≠Tx.wV:=by decide
    have O:wP≠wM:=by decide
    simp[Tx.claim,Tx.hd,Tx.nth,F,G,O]
theorem QH{x y:It}(E:kK x)(F:kK y){l g:List (Nat×List UInt8)}(I:l.map (·.2)=itW x)(G:g.map (·.2)=itW y)(h:Tx.claim g=Tx.claim l):clI y=clI x:=by
 rw[(td E I).2.2.2,(td F G).2.2.2] at h;have M:=E.t;have O:=F.t;unfold clI;rcases(by omega:x.t=0\/x.t=1\/x.t=2) with e|e|e<;>rcases(by omega:y.t=0\/y.t=1\/y.t=2) with f|f|f<;>rw[e,f] at h ⊢<;>simp[iT] at h ⊢
 ·exact vG _ _ F.k E.k h
 ·exact absurd h.1 (by decide)
 ·exact absurd h.1 (by decide)
 ·exact absurd h.1 (by decide)
 ·exact⟨vG _ _ F.k E.k h.1,Gt _ _ F.v E.v h.2⟩
 ·exact absurd h.1 (by decide)
 ·exact absurd h.1 (by decide)
 ·exact absurd h.1 (by decide)
 ·exact⟨vG _ _ F.k E.k h.1,Gt _ _ F.v E.v h.2⟩
def nR(l:List It):Nat:=l.countP (fun x=>x.t==0)
theorem yh:∀(its:List It)(E:List Tx.Ln)(g:Tx.Got),(∀x∈its,kK x)->E.map (fun l=>l.2.map (·.2))=its.map itW->0<g.spoken->(its.map clI).Nodup->(∀x∈g.good,∀y∈its,∀l:List (Nat×List UInt8),l.map (·.2)=itW y->Tx.claim x.2≠Tx.claim l)->g.requires+nR its<=20->
  E.foldl (Tx.bM false Pv.aG 20) g=⟨g.good++E,g.au,g.spoken+E.length,g.requires+nR its⟩
 |[],E,g,_,F,_,_,_,_=>by
  have:E=[]:=by simpa using F
  subst this;simp[nR]
 |y::its,E,g,I,F,hg,O,T,hq=>by
  cases E with
  |nil=>simp at F
  |cons l E=>
   simp only[bQ,eL] at F;have hy:=I y (by simp);have U:=td hy F.1
   have TV:(g.good.any fun x=>decide (Tx.claim x.2=Tx.claim l.2))=false:=by
    rw[List.any_eq_false];intro x V h;exact T x V y (by simp) l.2 F.1 (gD h)
   have G:nR (y::its)=nR its+if y.t=0 then 1 else 0:=by
    unfold nR;rw[List.countP_cons];by_cases e:y.t=0<;>simp[e]
   have Sb:¬((Tx.hd l.2).2=wR/\(g.requires==20)=true):=by
    rintro⟨Y,h2⟩;have h3:=U.2.2.1.1 Y;rw[G,aj h3] at hq;simp at h2;omega
   have Sc:¬(false=false/\((Tx.hd l.2).2==wM)≠(g.spoken==0)):=by
    have Y:((Tx.hd l.2).2==wM)=false:=by simpa using U.2.1
    have h2:(g.spoken==0)=false:=by simp;omega
    rw[Y,h2];simp
   have M:Tx.bM false Pv.aG 20 g l=⟨g.good++[l],g.au,g.spoken+1,g.requires+if y.t=0 then 1 else 0⟩:=by
    rw[Tx.CF];unfold Tx.step Tx.slip;rw[TV,ag Sc,U.1];simp only[jY,fN,ag Sb];by_cases e:y.t=0
    ·rw[aj (U.2.2.1.2 e),aj e]
    ·rw[ag (fun h=>e (U.2.2.1.1 h)),ag e];rfl
   rw[lI,M,yh its E _ (fun x V=>I x (by simp[V])) F.2 (by simp) (List.nodup_cons.1 O).2 ?_ ?_]
   ·simp only[fB,qL,bW,Tx.Got.mk.injEq,true_and]
    rw[G];omega
   ·intro x V z hz m hm
    rcases bh.1 V with h|h
    ·exact T x h z (by simp[hz]) m hm
    ·rw[bI.1 h]
     intro e;have:=QH (I z (by simp[hz])) hy hm F.1 e;exact(List.nodup_cons.1 O).1 (by rw[this];exact List.mem_map_of_mem hz)
   ·show g.requires+(if y.t=0 then 1 else 0)+nR its<=20
    rw[G] at hq;omega
end Rn
namespace Rn
open Tx (wM wR wE wP wA)
open Mf
def ba(l:List UInt8):zA:=⟨l.toArray⟩
def iR(x:It):Option Mo:=if x.t=0 then some (ba (pW x.k),ba (vW x.v)) else none
def iX(x:It):Option Mo:=if x.t=1 then some (ba (pW x.k),ba (vW x.v)) else none
def iS(x:It):Option So:=if x.t=2 then some (ba (pW x.k),ba (vW x.v),ba (vW x.b)) else none
theorem vH(x:Tx.Ln)(j:Nat):wd (jK x).2 j=ba ((x.2.map (·.2)).getD j []):=by
 unfold wd jK ba;simp only[List.getD_eq_getElem?_getD,lG];cases x.2[j]?<;>rfl
theorem Dw{x:It}(M:kK x){l:Tx.Ln}(I:l.2.map (·.2)=itW x)(m:Mx):
  fU m (dW (jK l).2)=⟨m.p,m.R++(iR x).toList,m.X++(iX x).toList,m.S++(iS x).toList⟩:=by
 unfold dW;rw[vH,vH,vH,vH,I];unfold itW iR iX iS fU;rcases(by have:=M.t;omega:x.t=0\/x.t=1\/x.t=2) with e|e|e
 ·rw[e]
  have E:ba wR=oN:=rfl;simp[E]
 ·rw[e]
  have F:ba wE=C0:=rfl;simp[F]
 ·rw[e]
  have G:ba wP=C2:=rfl;simp[G]
theorem Gu:∀(its:List It)(L:List Tx.Ln)(m:Mx),(∀x∈its,kK x)->L.map (fun l=>l.2.map (·.2))=its.map itW->
  (L.map (fun l=>dW (jK l).2)).foldl fU m=⟨m.p,m.R++its.filterMap iR,m.X++its.filterMap iX,m.S++its.filterMap iS⟩
 |[],L,m,_,E=>by
  have:L=[]:=by simpa using E
  subst this;simp
 |y::its,L,m,F,E=>by
  cases L with
  |nil=>simp at E
  |cons l L=>
   simp only[bQ,eL] at E;rw[bQ,lI,Dw (F y (by simp)) E.1,Gu its L _ (fun x G=>F x (by simp[G])) E.2];simp only[fB,List.filterMap_cons]
   congr 2
   ·cases iR y<;>rfl
   ·cases iX y<;>rfl
   ·cases iS y<;>rfl
theorem rL:∀(E:List Lx)(n:Nat),(nums n E).map (fun l=>l.2.map (·.2))=E.map (fun l=>l.ps.map (·.2))
 |[],_=>rfl
 |l::r,n=>by simp only[nums,bQ,rJ,rL r]
end Rn
namespace Rn
open Tx (wM wR wE wP wA)
open Mf Go.Proofs.YtkfobfbiblgohaaGreatDoor
section
variable{α:Type}{lt:α->α->Bool}
end
def mR(x:It):Mo:=(ba (pW x.k),ba (vW x.v))
def jP:List (List UInt8)->List (List UInt8×List UInt8)
 |[]=>[]
 |w::r=>([],w)::r.map fun u=>([32],u)
def plain(E:List (List UInt8)):Lx:=⟨jP E,[],none,false⟩
theorem jy:∀E:List (List UInt8),(plain E).ps.map (·.2)=E
 |[]=>rfl
 |w::r=>by simp[plain,jP,Function.comp_def]
theorem yi{F:List (List UInt8)}(G:F≠[])(h:∀w∈F,mf w=true):BN (plain F):=by
 cases F with
 |nil=>exact absurd rfl G
 |cons w r=>
  refine⟨⟨fun p E=>?_,fun p E=>?_⟩,by simp[plain,jP],rfl,fun c I=>by simp[plain] at I⟩
  ·simp only[plain,jP,aK,aO] at E
   rcases E with rfl|⟨u,M,rfl⟩
   ·exact⟨rfl,h w (by simp)⟩
   ·exact⟨rfl,h u (by simp[M])⟩
  ·simp only[plain,jP,List.tail_cons,aO] at E
   obtain⟨u,_,rfl⟩:=E;simp
theorem rM:∀k,k<7->mf (pW k)=true:=by decide
theorem Sd:∀j,j<4->mf (vW j)=true:=by decide
theorem Gv{x:It}(I:kK x):∀w∈itW x,mf w=true:=by
 have F:=rM x.k I.k;have G:=Sd x.v I.v;have M:=Sd x.b I.b;intro w E;unfold itW at E
 split at E
 ·simp only[aK,aQ,or_false] at E
  rcases E with rfl|rfl|rfl
  ·decide
  ·exact F
  ·exact G
 ·split at E
  ·simp only[aK,aQ,or_false] at E
   rcases E with rfl|rfl|rfl
   ·decide
   ·exact F
   ·exact G
  ·simp only[aK,aQ,or_false] at E
   rcases E with rfl|rfl|rfl|rfl|rfl
   ·decide
   ·exact F
   ·exact G
   ·decide
   ·exact M
theorem Gw(x:It):itW x≠[]:=by
 unfold itW;split
 ·simp
 ·split<;>simp
theorem uO{α β γ:Type}{f:α->List γ}{g:β->List γ}{h:α->β}:∀l:List α,(∀x∈l,f x=g (h x))->l.flatMap f=(l.map h).flatMap g
 |[],_=>rfl
 |x::l,E=>by rw[jF,bQ,jF,E x (by simp),uO l (fun y F=>E y (by simp[F]))]
end Rn
namespace Rn
open Tx (wM wR wE wP wA)
open Mf
theorem eI:∀k,k<7->(pW k).length=2:=by decide
theorem nW:∀j,j<4->(vW j).length<=11:=by decide
theorem fe{α:Type}{f:α->List UInt8}{m:Nat}:∀l:List α,(∀x∈l,(f x).length<=m)->(l.flatMap f).length<=l.length*m
 |[],_=>by simp
 |x::l,h=>by
  have G:=fe l (fun y E=>h y (by simp[E]));have F:=h x (by simp);rw[jF,aU,bW,Nat.add_one_mul];omega
def once(l:List It)(x:It):List It:=if l.any (fun y=>y.t==x.t&&y.k==x.k&&y.v==x.v) then l else l++[x]
theorem TJ{l:List It}{x:It}(h:(l.map clI).Nodup)(M:x.t≠0):((once l x).map clI).Nodup:=by
 unfold once
 split
 ·exact h
 ·rename_i U
  rw[eK,iB];refine⟨h,by simp,?_⟩;intro a T b I e;simp only[bQ,fL,bI] at I;subst I;obtain⟨y,V,F⟩:=aO.1 T;apply U;rw[List.any_eq_true];refine⟨y,V,?_⟩;rw[<-F] at e;unfold clI at e;simp only[iT] at e;obtain⟨G,O,E⟩:=e;rw[G,ag M] at E;rw[ag M] at E;simp[G,O,E]
def rN(l:List It)(x:It):List It:=if l.any (fun y=>y.k==x.k) then l else l++[x]
structure cC(l:List It):Prop where
 ok:∀y∈l,kK y
 t:∀y∈l,y.t=0
 nd:(l.map (·.k)).Nodup
theorem IJ{l:List It}(h:cC l){x:It}(T:kK x)(O:x.t=0):cC (rN l x):=by
 unfold rN
 split
 ·exact h
 ·rename_i M
  refine⟨fun y E=>?_,fun y E=>?_,?_⟩
  ·rcases bh.1 E with E|E
   ·exact h.ok y E
   ·rw[bI.1 E];exact T
  ·rcases bh.1 E with E|E
   ·exact h.t y E
   ·rw[bI.1 E];exact O
  ·rw[eK,iB]
   refine⟨h.nd,by simp,?_⟩;intro a I b G e;simp only[bQ,fL,bI] at G;subst G;obtain⟨y,E,F⟩:=aO.1 I;apply M;rw[List.any_eq_true];exact⟨y,E,by simp[F,e]⟩
theorem few:∀(n:Nat)(l:List Nat),l.Nodup->(∀x∈l,x<n)->l.length<=n
 |0,l,_,h=>by
  cases l with
  |nil=>simp
  |cons a r=>exact absurd (h a (by simp)) (by omega)
 |n+1,l,E,h=>by
  have G:=few n (l.erase n) (E.erase n) (fun x I=>by
   have F:=(E.mem_erase_iff).1 I;have:=h x F.2;have:=F.1;omega)
  by_cases hm:n∈l
  ·rw[List.length_erase_of_mem hm] at G;omega
  ·rw[List.erase_of_not_mem hm] at G;omega
theorem cC.len{l:List It}(h:cC l):l.length<=7:=by
 have:=few 7 (l.map (·.k)) h.nd (fun x E=>by obtain⟨y,F,rfl⟩:=aO.1 E;exact(h.ok y F).k);simpa using this
theorem cC.cl{l:List It}(h:cC l):(l.map clI).Nodup:=by
 have E:=h.nd;unfold List.Nodup at E ⊢;rw[pP] at E ⊢;refine E.imp ?_;intro a b F e;unfold clI at e;simp only[iT] at e;exact F e.2.1
theorem cC.nR{l:List It}(h:cC l):Rn.nR l=l.length:=by
 unfold Rn.nR;rw[List.countP_eq_length];intro y E;simp[h.t y E]
end Rn
namespace Rn
open Tx (wM wR wE wP wA)
open Mf
theorem jG{a b:List UInt8}(h:ba a=ba b):a=b:=by
 have:=bz (fun x:zA=>x.data.toList) h;simpa[ba] using this
