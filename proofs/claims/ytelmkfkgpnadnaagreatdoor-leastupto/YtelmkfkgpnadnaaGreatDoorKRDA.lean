import Derived.Test.YtelmkfkgpnadnaaGreatDoorKTA
import Derived.Test.YtelmkfkgpnadnaaGreatDoorKQK
import Derived.Test.YtelmkfkgpnadnaaGreatDoorKCC
import Derived.Laws.CopyOwn
import Derived.Test.YtelmkfkgpnadnaaGreatDoorKPLA
set_option linter.unusedSimpArgs false
set_option maxRecDepth 100000
namespace Go.Proofs.YtelmkfkgpnadnaaGreatDoor
namespace Rn
open Tx (nb toks qF words spoken)
def qh(w:List UInt8):Bool:=!w.isEmpty&&w.all (fun c=>nb c&&c !=35&&c !=10)
def blanks(b:List UInt8):Bool:=b.all fun c=>c==32||c==9
def join:List (List UInt8×List UInt8)→List UInt8
 |[]=>[]
 |(b,w)::r=>b++(w++join r)
def vP(i:Nat):List (List UInt8×List UInt8)→List (Nat×List UInt8)
 |[]=>[]
 |(b,w)::r=>(i+b.length,w)::vP (i+b.length+w.length) r
theorem lZ:∀(ps:List (List UInt8×List UInt8))(i:Nat),(vP i ps).map (·.2)=ps.map (·.2)
 |[],_=>rfl
 |(b,w)::r,i=>by simp only[vP,bG,lZ r]
theorem vQ{c:UInt8}(h:(c==32||c==9)=true):nb c=false:=by
 unfold nb;rw[h];rfl
theorem sR:∀(b x:List UInt8)(i:Nat),blanks b=true→toks i none (b++x)=toks (i+b.length) none x
 |[],x,i,_=>rfl
 |c::b,x,i,h=>by
  simp only[blanks,j6,eI] at h;rw[j4,toks,af (by rw[vQ h.1];decide),sR b x (i+1) h.2];simp only[bS];rw[show i+1+b.length=i+(b.length+1) by omega]
theorem A7:∀(w y:List UInt8),(∀c∈w,nb c=true)→(∀c u,y=c::u→nb c=false)→(w++y).takeWhile nb=w∧(w++y).dropWhile nb=y
 |[],y,_,hy=>by
  cases y with
  |nil=>exact⟨rfl,rfl⟩
  |cons c u=>have h:=hy c u rfl;simp[h]
 |c::w,y,h,hy=>by
  have hc:=h c (by simp);have ih:=A7 w y (fun d hd=>h d (by simp[hd])) hy;simp only[j4,List.takeWhile_cons,List.dropWhile_cons,hc,dI,ih.1,ih.2];exact⟨trivial,trivial⟩
theorem Ik(w y:List UInt8)(i:Nat)(hw:qh w=true)(hy:∀c u,y=c::u→nb c=false):toks i none (w++y)=(i,w)::toks (i+w.length) none y:=by
 cases w with
 |nil=>simp[qh] at hw
 |cons c w=>
  have hall:∀d∈c::w,nb d=true:=fun d hd=>by
   simp only[qh,eI,gw] at hw;exact(hw.2 d hd).1.1
  have hc:=hall c (by simp);have ht:=A7 w y (fun d hd=>hall d (by simp[hd])) hy;rw[j4,toks,ai hc,qF,ht.1,ht.2];simp only[mO,bS];rw[show i+1+w.length=i+(w.length+1) by omega]
theorem A8:∀(t:List UInt8)(i:Nat),blanks t=true→toks i none t=[]
 |t,i,h=>by
  have:=sR t [] i h;rw[gL] at this;rw[this];rfl
def NP(ps:List (List UInt8×List UInt8)):Prop:=(∀p∈ps,blanks p.1=true∧qh p.2=true)∧∀p∈ps.tail,p.1≠[]
theorem tV:∀(ps:List (List UInt8×List UInt8))(tr:List UInt8)(i:Nat),NP ps→blanks tr=true→toks i none (join ps++tr)=vP i ps
 |[],tr,i,_,ht=>A8 tr i ht
 |(b,w)::r,tr,i,h,ht=>by
  have h0:=h.1 (b,w) (by simp);have hr:NP r:=⟨fun p hp=>h.1 p (by simp[hp]),fun p hp=>h.2 p (by simpa using List.mem_of_mem_tail hp)⟩
  have hy:∀c u,join r++tr=c::u→nb c=false:=by
   intro c u e;cases r with
   |nil=>
    cases tr with
    |nil=>simp[join] at e
    |cons d t=>
     simp only[join,ni,eE] at e;simp only[blanks,j6,eI] at ht;rw[←e.1];exact vQ ht.1
   |cons q r=>
    obtain⟨b2,w2⟩:=q;have hb2:=h.2 (b2,w2) (by simp);have hbl:=(h.1 (b2,w2) (by simp)).1;cases b2 with
    |nil=>exact absurd rfl hb2
    |cons d t=>
     simp only[join,j4,eE] at e;simp only[blanks,j6,eI] at hbl;rw[←e.1];exact vQ hbl.1
  rw[join,eD,sR b _ i h0.1,eD,Ik w _ _ h0.2 hy,tV r tr _ hr ht,vP]
structure Lx where
 ps:List (List UInt8×List UInt8)
 tr:List UInt8
 cm:Option (List UInt8)
 ex:Bool
def vR(cm:Option (List UInt8)):List UInt8:=match cm with|none=>[]|some c=>35::c
def row(l:Lx):List UInt8:=join l.ps++l.tr++vR l.cm
def txt(l:Lx):List UInt8:=row l++10::(if l.ex then [10,32,10,35,120,10] else [])
structure Da(l:Lx):Prop where
 ps:NP l.ps
 ne:l.ps≠[]
 tr:blanks l.tr=true
 cm:∀c,l.cm=some c→(10:UInt8)∉c
theorem zz{c:UInt8}(hc:c=35∨c=10):∀ps,(∀p∈ps,blanks p.1=true∧qh p.2=true)→c∉join ps
 |[],_=>by simp[join]
 |(b,w)::r,h=>by
  have h0:=h (b,w) (by simp);have ih:=zz hc r (fun p hp=>h p (by simp[hp]));simp only[join,bC,not_or];refine⟨fun hm=>?_,fun hm=>?_,ih⟩
  ·have:=h0.1
   simp only[blanks,gw] at this;have h2:=this c hm;rcases hc with rfl|rfl<;>simp at h2
  ·have:=h0.2
   simp only[qh,eI,gw] at this;have h2:=this.2 c hm;rcases hc with rfl|rfl
   ·simp at h2
   ·simp at h2
theorem yo{c:UInt8}(hc:c=35∨c=10){t:List UInt8}(h:blanks t=true):c∉t:=fun hm=>by
 simp only[blanks,gw] at h;have h2:=h c hm;rcases hc with rfl|rfl<;>simp at h2
theorem FN{l:Lx}(h:Da l):words (row l)=vP 0 l.ps:=by
 have hn:(35:UInt8)∉join l.ps++l.tr:=by
  simp only[bC,not_or];exact⟨zz (Or.inl rfl) _ h.ps.1,yo (Or.inl rfl) h.tr⟩
 have e:(Pv.ez 35 (row l)).1=join l.ps++l.tr:=by
  unfold row vR;cases l.cm with
  |none=>simp only[gL];rw[Pv.si 35 _ hn]
  |some c=>simp only;rw[Pv.uQ 35 _ c hn]
 unfold words;rw[e];exact tV l.ps l.tr 0 h.ps h.tr
theorem Il{l:Lx}(h:Da l):(10:UInt8)∉row l:=by
 unfold row vR;simp only[bC,not_or];refine⟨⟨zz (Or.inr rfl) _ h.ps.1,yo (Or.inr rfl) h.tr⟩,?_⟩;cases hc:l.cm with
 |none=>simp
 |some c=>
  simp only[aY,not_or];exact⟨by decide,h.cm c hc⟩
theorem La{ps:List (List UInt8×List UInt8)}(h:ps≠[])(i:Nat):vP i ps≠[]:=by
 cases ps with
 |nil=>exact absurd rfl h
 |cons p r=>obtain⟨b,w⟩:=p;simp[vP]
def nums(n:Nat):List Lx→List Tx.Ln
 |[]=>[]
 |l::r=>(n,vP 0 l.ps)::nums (n+if l.ex then 4 else 1) r
theorem jc(n:Nat)(a:List UInt8)(ls:List (List UInt8))(h:words a=[]):spoken n (a::ls)=spoken (n+1) ls:=by rw[spoken,ai h]
theorem vS:∀(ls:List Lx)(n:Nat),(∀l∈ls,Da l)→spoken n (Pv.spl 10 (ls.flatMap txt))=nums n ls
 |[],n,_=>by
  show spoken n [[]]=[];rw[jc n [] [] rfl];rfl
 |l::r,n,h=>by
  have h0:=h l (by simp);have ih:=fun m=>vS r m (fun x hx=>h x (by simp[hx]))
  rw[gK,txt,eD,j4,Pv.lz 10 _ _ (Il h0),spoken,FN h0,af (La h0.ne 0),nums]
  congr 1
  cases l.ex with
  |false=>simp only[iQ,eP,ni];exact ih (n+1)
  |true=>
   simp only[dI];have e:([10,32,10,35,120,10]:List UInt8)++r.flatMap txt=[]++10::([32]++10::([35,120]++10::r.flatMap txt)):=rfl;rw[e,Pv.lz 10 [] _ (by simp),Pv.lz 10 [32] _ (by decide),Pv.lz 10 [35,120] _ (by decide),jc _ _ _ rfl,jc _ _ _ rfl,jc _ _ _ rfl];exact ih (n+4)
end Rn
namespace Rn
open Tx (wM wR wE wP wA)
def pW(k:Nat):List UInt8:=[109,UInt8.ofNat (48+k)]
def vW(j:Nat):List UInt8:=if j=0 then [118,49,46,48,46,48] else if j=1 then [118,49,46,50,46,48,45,114,99,46,49] else if j=2 then [118,49,46,50,46,48] else [118,49,46,49,48,46,48]
structure It where
 t:Nat
 k:Nat
 v:Nat
 b:Nat
deriving DecidableEq
structure qj(x:It):Prop where
 t:x.t<3
 k:x.k<7
 v:x.v<4
 b:x.b<4
def itW(x:It):List (List UInt8):=if x.t=0 then [wR,pW x.k,vW x.v] else if x.t=1 then [wE,pW x.k,vW x.v] else [wP,pW x.k,vW x.v,wA,vW x.b]
theorem iM:∀k,k<7→Pv.aH (pW k)=true:=by decide
theorem zA:∀j,j<4→(Pv.parse (vW j)).isSome=true:=by decide
theorem NQ:∀a,a<7→∀b,b<7→pW a=pW b→a=b:=by decide
theorem vT(a b:Nat)(ha:a<7)(hb:b<7)(h:pW a=pW b):a=b:=NQ a ha b hb h
theorem NR:∀a,a<4→∀b,b<4→vW a=vW b→a=b:=by decide
theorem Ex(a b:Nat)(ha:a<4)(hb:b<4)(h:vW a=vW b):a=b:=NR a ha b hb h
def clI(x:It):Nat×Nat×Nat:=(x.t,x.k,if x.t=0 then 0 else x.v)
theorem rB{x:It}(hx:qj x){l:List (Nat×List UInt8)}(hl:l.map (·.2)=itW x):Tx.own false Pv.aH l=none∧(Tx.hd l).2≠wM∧((Tx.hd l).2=wR↔x.t=0)∧Tx.claim l=(if x.t=0 then (wR,pW x.k,[]) else if x.t=1 then (wE,pW x.k,vW x.v) else (wP,pW x.k,vW x.v)):=by
 have hp:=iM x.k hx.k;have hv:=zA x.v hx.v;have hb:=zA x.b hx.b;rcases(by have:=hx.t;omega:x.t=0∨x.t=1∨x.t=2) with e|e|e
 ·unfold itW at hl
  rw[ai e] at hl
  match l,hl with
  |[(a0,w0),(a1,w1),(a2,w2)],hl=>
   simp only[bG,ft,eE,fy] at hl;obtain⟨rfl,rfl,rfl⟩:=hl;have hs:Tx.shape false wR=some [5,6]:=by decide
   refine⟨?_,(by decide:wR≠wM),⟨fun _=>e,fun _=>rfl⟩,?_⟩
   ·simp[Tx.own,Tx.hd,hs,Tx.misfit,Tx.fit,hp,hv]
   ·rw[ai e]
    have h1:wR≠Tx.wV:=by decide
    simp[Tx.claim,Tx.hd,Tx.nth,h1]
 ·unfold itW at hl
  rw[af (by omega),ai e] at hl
  match l,hl with
  |[(a0,w0),(a1,w1),(a2,w2)],hl=>
   simp only[bG,ft,eE,fy] at hl;obtain⟨rfl,rfl,rfl⟩:=hl;have hs:Tx.shape false wE=some [5,6]:=by decide
   have h2:wE≠wR:=by decide
   refine⟨?_,(by decide:wE≠wM),⟨fun h=>absurd h h2,fun h=>by omega⟩,?_⟩
   ·simp[Tx.own,Tx.hd,hs,Tx.misfit,Tx.fit,hp,hv]
   ·rw[af (by omega),ai e]
    have h1:wE≠Tx.wV:=by decide
    have h3:wE≠wM:=by decide
    simp[Tx.claim,Tx.hd,Tx.nth,h1,h2,h3]
 ·unfold itW at hl
  rw[af (by omega),af (by omega)] at hl
  match l,hl with
  |[(a0,w0),(a1,w1),(a2,w2),(a3,w3),(a4,w4)],hl=>
   simp only[bG,ft,eE,fy] at hl;obtain⟨rfl,rfl,rfl,rfl,rfl⟩:=hl;have hs:Tx.shape false wP=some [5,6,7,6]:=by decide
   have h2:wP≠wR:=by decide
   refine⟨?_,(by decide:wP≠wM),⟨fun h=>absurd h h2,fun h=>by omega⟩,?_⟩
   ·simp[Tx.own,Tx.hd,hs,Tx.misfit,Tx.fit,hp,hv,hb]
   ·rw[af (by omega),af (by omega)]
    have h1:wP≠Tx.wV:=by decide
    have h3:wP≠wM:=by decide
    simp[Tx.claim,Tx.hd,Tx.nth,h1,h2,h3]
theorem NT{x y:It}(hx:qj x)(hy:qj y){l g:List (Nat×List UInt8)}(hl:l.map (·.2)=itW x)(hg:g.map (·.2)=itW y)(h:Tx.claim g=Tx.claim l):clI y=clI x:=by
 rw[(rB hx hl).2.2.2,(rB hy hg).2.2.2] at h;have hxt:=hx.t;have hyt:=hy.t;unfold clI;rcases(by omega:x.t=0∨x.t=1∨x.t=2) with e|e|e<;>rcases(by omega:y.t=0∨y.t=1∨y.t=2) with f|f|f<;>rw[e,f] at h ⊢<;>simp[im] at h ⊢
 ·exact vT _ _ hy.k hx.k h
 ·exact absurd h.1 (by decide)
 ·exact absurd h.1 (by decide)
 ·exact absurd h.1 (by decide)
 ·exact⟨vT _ _ hy.k hx.k h.1,Ex _ _ hy.v hx.v h.2⟩
 ·exact absurd h.1 (by decide)
 ·exact absurd h.1 (by decide)
 ·exact absurd h.1 (by decide)
 ·exact⟨vT _ _ hy.k hx.k h.1,Ex _ _ hy.v hx.v h.2⟩
def nR(l:List It):Nat:=l.countP (fun x=>x.t==0)
theorem vU:∀(its:List It)(ls:List Tx.Ln)(g:Tx.Got),(∀x∈its,qj x)→ls.map (fun l=>l.2.map (·.2))=its.map itW→0<g.spoken→(its.map clI).Nodup→(∀x∈g.good,∀y∈its,∀l:List (Nat×List UInt8),l.map (·.2)=itW y→Tx.claim x.2≠Tx.claim l)→g.requires+nR its≤20→
  ls.foldl (Tx.bo false Pv.aH 20) g=⟨g.good++ls,g.au,g.spoken+ls.length,g.requires+nR its⟩
 |[],ls,g,_,hl,_,_,_,_=>by
  have:ls=[]:=by simpa using hl
  subst this;simp[nR]
 |y::its,ls,g,hok,hl,hg,hnd,hne,hq=>by
  cases ls with
  |nil=>simp at hl
  |cons l ls=>
   simp only[bG,eE] at hl;have hy:=hok y (by simp);have ho:=rB hy hl.1
   have QQ:(g.good.any fun x=>decide (Tx.claim x.2=Tx.claim l.2))=false:=by
    rw[List.any_eq_false];intro x hx h;exact hne x hx y (by simp) l.2 hl.1 (ik h)
   have hnR:nR (y::its)=nR its+if y.t=0 then 1 else 0:=by
    unfold nR;rw[List.countP_cons];by_cases e:y.t=0<;>simp[e]
   have Pk:¬((Tx.hd l.2).2=wR∧(g.requires==20)=true):=by
    rintro⟨h1,h2⟩;have h3:=ho.2.2.1.1 h1;rw[hnR,ai h3] at hq;simp at h2;omega
   have Pm:¬(false=false∧((Tx.hd l.2).2==wM)≠(g.spoken==0)):=by
    have h1:((Tx.hd l.2).2==wM)=false:=by simpa using ho.2.1
    have h2:(g.spoken==0)=false:=by simp;omega
    rw[h1,h2];simp
   have hstep:Tx.bo false Pv.aH 20 g l=⟨g.good++[l],g.au,g.spoken+1,g.requires+if y.t=0 then 1 else 0⟩:=by
    rw[Tx.Aa];unfold Tx.step Tx.slip;rw[QQ,af Pm,ho.1];simp only[iQ,eP,af Pk];by_cases e:y.t=0
    ·rw[ai (ho.2.2.1.2 e),ai e]
    ·rw[af (fun h=>e (ho.2.2.1.1 h)),af e];rfl
   rw[j5,hstep,vU its ls _ (fun x hx=>hok x (by simp[hx])) hl.2 (by simp) (List.nodup_cons.1 hnd).2 ?_ ?_]
   ·simp only[eD,mO,bS,Tx.Got.mk.injEq,true_and]
    rw[hnR];omega
   ·intro x hx z hz m hm
    rcases bC.1 hx with h|h
    ·exact hne x h z (by simp[hz]) m hm
    ·rw[bL.1 h]
     intro e;have:=NT (hok z (by simp[hz])) hy hm hl.1 e;exact(List.nodup_cons.1 hnd).1 (by rw[this];exact List.mem_map_of_mem hz)
   ·show g.requires+(if y.t=0 then 1 else 0)+nR its≤20
    rw[hnR] at hq;omega
end Rn
namespace Rn
open Tx (wM wR wE wP wA)
open Mf
def ba(l:List UInt8):ByteArray:=⟨l.toArray⟩
def iR(x:It):Option Mo:=if x.t=0 then some (ba (pW x.k),ba (vW x.v)) else none
def iX(x:It):Option Mo:=if x.t=1 then some (ba (pW x.k),ba (vW x.v)) else none
def iS(x:It):Option So:=if x.t=2 then some (ba (pW x.k),ba (vW x.v),ba (vW x.b)) else none
theorem tW(x:Tx.Ln)(j:Nat):wd (iY x).2 j=ba ((x.2.map (·.2)).getD j []):=by
 unfold wd iY ba;simp only[List.getD_eq_getElem?_getD,iT];cases x.2[j]?<;>rfl
theorem A9{x:It}(hx:qj x){l:Tx.Ln}(hl:l.2.map (·.2)=itW x)(m:Mx):
  eY m (dN (iY l).2)=⟨m.p,m.R++(iR x).toList,m.X++(iX x).toList,m.S++(iS x).toList⟩:=by
 unfold dN;rw[tW,tW,tW,tW,hl];unfold itW iR iX iS eY;rcases(by have:=hx.t;omega:x.t=0∨x.t=1∨x.t=2) with e|e|e
 ·rw[e]
  have h2:ba wR=nJ:=rfl;simp[h2]
 ·rw[e]
  have h3:ba wE=AF:=rfl;simp[h3]
 ·rw[e]
  have h4:ba wP=AG:=rfl;simp[h4]
theorem Ey:∀(its:List It)(L:List Tx.Ln)(m:Mx),(∀x∈its,qj x)→L.map (fun l=>l.2.map (·.2))=its.map itW→
  (L.map (fun l=>dN (iY l).2)).foldl eY m=⟨m.p,m.R++its.filterMap iR,m.X++its.filterMap iX,m.S++its.filterMap iS⟩
 |[],L,m,_,hl=>by
  have:L=[]:=by simpa using hl
  subst this;simp
 |y::its,L,m,hok,hl=>by
  cases L with
  |nil=>simp at hl
  |cons l L=>
   simp only[bG,eE] at hl;rw[bG,j5,A9 (hok y (by simp)) hl.1,Ey its L _ (fun x hx=>hok x (by simp[hx])) hl.2];simp only[eD,List.filterMap_cons]
   congr 2
   ·cases iR y<;>rfl
   ·cases iX y<;>rfl
   ·cases iS y<;>rfl
theorem ql:∀(ls:List Lx)(n:Nat),(nums n ls).map (fun l=>l.2.map (·.2))=ls.map (fun l=>l.ps.map (·.2))
 |[],_=>rfl
 |l::r,n=>by simp only[nums,bG,lZ,ql r]
theorem Ba:∀(ls:List Lx)(n:Nat),(nums n ls).length=ls.length
 |[],_=>rfl
 |l::r,n=>by simp only[nums,bS,Ba r]
theorem FO(ls:List Lx)(hls:∀l∈ls,Da l)(s:ByteArray)(hs:s.data.toList=ls.flatMap txt):fA s=(nums 1 ls).foldl (Tx.bo false Pv.aH 20) mF:=by
 unfold fA;rw[Tx.lB,hs,vS ls 1 hls]
end Rn
section
open Go.RowKit
theorem iE(w:World)(B e s:Nat):w.ownsRow B e s (.slice none 0 0) 0 []:=⟨by simp,Or.inl ⟨rfl,rfl⟩⟩
theorem kE{w W:World}{v:Value}{L:List Mo}(h:Sm.Rd w v L)(hb:Below w.heap.size w W)(i:Nat)(hi:i<L.length):∃b off c,v=.slice (some ⟨b,off,none⟩) L.length c∧W.cell? ⟨b,off+i*2,none⟩=some (.string L[i]!.1)∧W.cell? ⟨b,off+i*2+1,none⟩=some (.string L[i]!.2):=by
 rcases h.below hb with⟨_,h⟩|⟨b,off,c,h,hc⟩
 ·rw[h] at hi;simp at hi
 ·obtain⟨h1,h2⟩:=OZ L i hi
  exact⟨b,off,c,h,hc _ _ h1,by rw[Nat.add_assoc];exact hc _ _ h2⟩
theorem Im{w:World}{v:Value}{L:List Mo}(h:Sm.Rd w v L):∃a c,v=.slice a L.length c:=by
 rcases h with⟨h,h0⟩|⟨b,off,c,h,_⟩
 ·exact⟨none,0,by rw[h,h0];rfl⟩
 ·exact⟨_,_,h⟩
end
namespace Rn
open Tx (wM wR wE wP wA)
open Mf Go.Proofs.YtelmkfkgpnadnaaGreatDoor
section
variable{α:Type}{lt:α→α→Bool}
theorem Bb(hS:Go.Sort.SWO lt)(v:α):∀D:List α,D.Pairwise (fun b a=>lt b a=false)→∀a∈D.dropWhile (lt v),lt v a=false
 |[],_,a,h=>by simp at h
 |d::D,hD,a,h=>by
  rw[fH] at hD;rw[List.dropWhile_cons] at h;by_cases e:lt v d=true
  ·rw[ai e] at h
   exact Bb hS v D hD.2 a h
  ·rw[af e] at h
   have e':lt v d=false:=by simpa using e
   rcases aY.1 h with rfl|h
   ·exact e'
   ·exact hS.ntrans v d a e' (hD.1 a h)
theorem Ez(v:α):∀D:List α,∀a∈D.takeWhile (lt v),lt v a=true
 |[],a,h=>by simp at h
 |d::D,a,h=>by
  rw[List.takeWhile_cons] at h;by_cases e:lt v d=true
  ·rw[ai e] at h
   rcases aY.1 h with rfl|h
   ·exact e
   ·exact Ez v D a h
  ·rw[af e] at h;simp at h
abbrev Pw(lt:α→α→Bool)(L:List α):Prop:=L.Pairwise fun a b=>lt b a=false
theorem NU(hS:Go.Sort.SWO lt)(v:α)(L:List α)(h:Pw lt L):Pw lt (Ss.ins lt v L):=by
 have hr:L.reverse.Pairwise (fun b a=>lt b a=false):=List.pairwise_reverse.2 h;have hd:=Bb hS v L.reverse hr;have ht:=Ez (lt:=lt) v L.reverse
 have e:L=(L.reverse.dropWhile (lt v)).reverse++(L.reverse.takeWhile (lt v)).reverse:=by
  rw[←oz,pH,gI]
 unfold Ss.ins;have h2:Pw lt ((L.reverse.dropWhile (lt v)).reverse++(L.reverse.takeWhile (lt v)).reverse):=by rw[←e];exact h
 unfold Pw at h2 ⊢;rw[lj] at h2;rw[eD,lj];refine⟨h2.1,?_,?_⟩
 ·rw[mO,fH]
  refine⟨fun y hy=>?_,h2.2.1⟩;have h3:=ht y (gu.1 hy);cases h4:lt y v with
  |false=>rfl
  |true=>have:=hS.trans v y v h3 h4;rw[hS.irrefl] at this;exact absurd this (by decide)
 ·intro a ha b hb
  rcases bC.1 hb with hb|hb
  ·rw[bL.1 hb];exact hd a (gu.1 ha)
  ·exact h2.2.2 a ha b hb
theorem FP(hS:Go.Sort.SWO lt)(L:List α):Pw lt (Ss.aK lt L):=by
 rw[←L.reverse_reverse]
 induction L.reverse with
 |nil=>exact List.Pairwise.nil
 |cons a r ih=>rw[jo,Ss.dK];exact NU hS _ _ ih
end
theorem Po:Go.Sort.SWO (ltOf eV):=Pv.lI (fun x:Mo=>x) qJ
def mR(x:It):Mo:=(ba (pW x.k),ba (vW x.v))
def mf:List (List UInt8)→List (List UInt8×List UInt8)
 |[]=>[]
 |w::r=>([],w)::r.map fun u=>([32],u)
def plain(ws:List (List UInt8)):Lx:=⟨mf ws,[],none,false⟩
theorem tX:∀ws:List (List UInt8),(plain ws).ps.map (·.2)=ws
 |[]=>rfl
 |w::r=>by simp[plain,mf,Function.comp_def]
theorem Bc{ws:List (List UInt8)}(hne:ws≠[])(h:∀w∈ws,qh w=true):Da (plain ws):=by
 cases ws with
 |nil=>exact absurd rfl hne
 |cons w r=>
  refine⟨⟨fun p hp=>?_,fun p hp=>?_⟩,by simp[plain,mf],rfl,fun c hc=>by simp[plain] at hc⟩
  ·simp only[plain,mf,aY,bB] at hp
   rcases hp with rfl|⟨u,hu,rfl⟩
   ·exact⟨rfl,h w (by simp)⟩
   ·exact⟨rfl,h u (by simp[hu])⟩
  ·simp only[plain,mf,List.tail_cons,bB] at hp
   obtain⟨u,_,rfl⟩:=hp;simp
theorem Io:∀k,k<7→qh (pW k)=true:=by decide
theorem Pp:∀j,j<4→qh (vW j)=true:=by decide
theorem Lb{x:It}(hx:qj x):∀w∈itW x,qh w=true:=by
 have hp:=Io x.k hx.k;have hv:=Pp x.v hx.v;have hb:=Pp x.b hx.b;intro w hw;unfold itW at hw
 split at hw
 ·simp only[aY,cW,or_false] at hw
  rcases hw with rfl|rfl|rfl
  ·decide
  ·exact hp
  ·exact hv
 ·split at hw
  ·simp only[aY,cW,or_false] at hw
   rcases hw with rfl|rfl|rfl
   ·decide
   ·exact hp
   ·exact hv
  ·simp only[aY,cW,or_false] at hw
   rcases hw with rfl|rfl|rfl|rfl|rfl
   ·decide
   ·exact hp
   ·exact hv
   ·decide
   ·exact hb
theorem Ld(x:It):itW x≠[]:=by
 unfold itW;split
 ·simp
 ·split<;>simp
theorem yq{α β γ:Type}{f:α→List γ}{g:β→List γ}{h:α→β}:∀l:List α,(∀x∈l,f x=g (h x))→l.flatMap f=(l.map h).flatMap g
 |[],_=>rfl
 |x::l,hh=>by rw[gK,bG,gK,hh x (by simp),yq l (fun y hy=>hh y (by simp[hy]))]
end Rn
namespace Rn
open Tx (wM wR wE wP wA)
open Mf
theorem nW:∀k,k<7→(pW k).length=2:=by decide
theorem Ip:∀j,j<4→(vW j).length≤11:=by decide
theorem eA{α:Type}{f:α→List UInt8}{m:Nat}:∀l:List α,(∀x∈l,(f x).length≤m)→(l.flatMap f).length≤l.length*m
 |[],_=>by simp
 |x::l,h=>by
  have ih:=eA l (fun y hy=>h y (by simp[hy]));have h0:=h x (by simp);rw[gK,aW,bS,Nat.add_one_mul];omega
def once(l:List It)(x:It):List It:=if l.any (fun y=>y.t==x.t&&y.k==x.k&&y.v==x.v) then l else l++[x]
theorem QD{l:List It}{x:It}(h:(l.map clI).Nodup)(hx:x.t≠0):((once l x).map clI).Nodup:=by
 unfold once
 split
 ·exact h
 ·rename_i hn
  rw[eu,oG];refine⟨h,by simp,?_⟩;intro a ha b hb e;simp only[bG,ft,bL] at hb;subst hb;obtain⟨y,hy,hye⟩:=bB.1 ha;apply hn;rw[List.any_eq_true];refine⟨y,hy,?_⟩;rw[←hye] at e;unfold clI at e;simp only[im] at e;obtain⟨e1,e2,e3⟩:=e;rw[e1,af hx] at e3;rw[af hx] at e3;simp[e1,e2,e3]
def jC(l:List It)(x:It):List It:=if l.any (fun y=>y.k==x.k) then l else l++[x]
structure dR(l:List It):Prop where
 ok:∀y∈l,qj y
 t:∀y∈l,y.t=0
 nd:(l.map (·.k)).Nodup
theorem FQ{l:List It}(h:dR l){x:It}(hx:qj x)(ht:x.t=0):dR (jC l x):=by
 unfold jC
 split
 ·exact h
 ·rename_i hn
  refine⟨fun y hy=>?_,fun y hy=>?_,?_⟩
  ·rcases bC.1 hy with hy|hy
   ·exact h.ok y hy
   ·rw[bL.1 hy];exact hx
  ·rcases bC.1 hy with hy|hy
   ·exact h.t y hy
   ·rw[bL.1 hy];exact ht
  ·rw[eu,oG]
   refine⟨h.nd,by simp,?_⟩;intro a ha b hb e;simp only[bG,ft,bL] at hb;subst hb;obtain⟨y,hy,hye⟩:=bB.1 ha;apply hn;rw[List.any_eq_true];exact⟨y,hy,by simp[hye,e]⟩
theorem few:∀(n:Nat)(l:List Nat),l.Nodup→(∀x∈l,x<n)→l.length≤n
 |0,l,_,h=>by
  cases l with
  |nil=>simp
  |cons a r=>exact absurd (h a (by simp)) (by omega)
 |n+1,l,hnd,h=>by
  have h1:=few n (l.erase n) (hnd.erase n) (fun x hx=>by
   have hx2:=(hnd.mem_erase_iff).1 hx;have:=h x hx2.2;have:=hx2.1;omega)
  by_cases hm:n∈l
  ·rw[List.length_erase_of_mem hm] at h1;omega
  ·rw[List.erase_of_not_mem hm] at h1;omega
theorem dR.len{l:List It}(h:dR l):l.length≤7:=by
 have:=few 7 (l.map (·.k)) h.nd (fun x hx=>by obtain⟨y,hy,rfl⟩:=bB.1 hx;exact(h.ok y hy).k);simpa using this
theorem dR.cl{l:List It}(h:dR l):(l.map clI).Nodup:=by
 have h1:=h.nd;unfold List.Nodup at h1 ⊢;rw[oF] at h1 ⊢;refine h1.imp ?_;intro a b hab e;unfold clI at e;simp only[im] at e;exact hab e.2.1
theorem dR.nR{l:List It}(h:dR l):Rn.nR l=l.length:=by
 unfold Rn.nR;rw[List.countP_eq_length];intro y hy;simp[h.t y hy]
end Rn
namespace Rn
open Tx (wM wR wE wP wA)
open Mf
theorem iW{a b:List UInt8}(h:ba a=ba b):a=b:=by
 have:=bZ (fun x:ByteArray=>x.data.toList) h;simpa[ba] using this
end Rn
section
namespace Rn
open Tx (wM wR wE wP wA)
open Mf
def o9(u:List UInt8):List (List UInt8):=[wM,u]
theorem Bd{u:List UInt8}(hp:Pv.aH u=true)(l:Tx.Ln)(h:l.2.map (·.2)=o9 u):Tx.bo false Pv.aH 20 mF l=⟨[l],[],1,0⟩:=by
 obtain⟨n,l⟩:=l
 match l,h with
 |[(a0,w0),(a1,w1)],h=>
  simp only[o9,bG,ft,eE,fy] at h;obtain⟨rfl,rfl⟩:=h;have hs:Tx.shape false wM=some [5]:=by decide
  have ho:Tx.own false Pv.aH [(a0,wM),(a1,w1)]=none:=by simp[Tx.own,Tx.hd,hs,Tx.misfit,Tx.fit,hp]
  have hM:wM≠wR:=by decide
  rw[Tx.Aa];unfold Tx.step Tx.slip;have hh:Tx.hd [(a0,wM),(a1,w1)]=(a0,wM):=rfl;simp only[hh,ho];simp[hM]
theorem FR{u:List UInt8}(l:Tx.Ln)(h:l.2.map (·.2)=o9 u)(m:Mx):eY m (dN (iY l).2)=⟨ba u,m.R,m.X,m.S⟩:=by
 unfold dN;rw[tW,tW,tW,tW,h];have h1:ba wM=lT:=rfl;unfold eY o9;simp[h1]
structure Iq(u:List UInt8)(f:Lx)(ls:List Lx)(its:List It):Prop where
 hu:Pv.aH u=true
 fok:Da f
 fw:f.ps.map (·.2)=o9 u
 lok:∀l∈ls,Da l
 w:ls.map (fun l=>l.ps.map (·.2))=its.map itW
 ok:∀x∈its,qj x
 nd:(its.map clI).Nodup
 q:nR its≤20
theorem zB{u:List UInt8}{l:List (Nat×List UInt8)}(h:l.map (·.2)=o9 u){x:It}(hx:qj x){g:List (Nat×List UInt8)}(hg:g.map (·.2)=itW x):Tx.claim l≠Tx.claim g:=by
 have h1:(Tx.claim l).1=wM:=by
  match l,h with
  |[(a0,w0),(a1,w1)],h=>
   simp only[o9,bG,ft,eE,fy] at h;obtain⟨rfl,rfl⟩:=h
   rfl
 have h2:(Tx.claim g).1≠wM:=by
  rw[(rB hx hg).2.2.2]
  split
  ·exact(by decide:wR≠wM)
  ·split
   ·exact(by decide:wE≠wM)
   ·exact(by decide:wP≠wM)
 intro e;rw[e] at h1;exact h2 h1
variable{u:List UInt8}{f:Lx}{ls:List Lx}{its:List It}
theorem vV(T:Iq u f ls its)(s:ByteArray)(hs:s.data.toList=(f::ls).flatMap txt):fA s=⟨nums 1 (f::ls),[],its.length+1,nR its⟩:=by
 have hw:∀n,(nums n ls).map (fun l=>l.2.map (·.2))=its.map itW:=fun n=>by rw[ql,T.w]
 have hfw:(vP 0 f.ps).map (·.2)=o9 u:=by rw[lZ,T.fw]
 rw[FO (f::ls) (fun l hl=>by rcases aY.1 hl with rfl|h;exact T.fok;exact T.lok l h) s hs,nums,j5,Bd T.hu _ hfw,vU its _ _ T.ok (hw _) (by simp) T.nd ?_ (by simpa using T.q)]
 ·have hl:∀n,(nums n ls).length=its.length:=fun n=>by have:=bZ List.length (hw n);simpa using this
  simp only[mO,hl,Tx.Got.mk.injEq,true_and,dH,fy];omega
 ·intro x hx y hy l hl
  rw[bL.1 hx];exact zB hfw (T.ok y hy) hl
theorem Be(T:Iq u f ls its)(s:ByteArray)(hs:s.data.toList=(f::ls).flatMap txt)(hz:s.size≤2000):
  bh s=[]∧br s=⟨ba u,its.filterMap iR,its.filterMap iX,its.filterMap iS⟩:=by
 have hg:=vV T s hs
 have h1:bh s=[]:=by
  unfold bh;rw[ai hz,hg];unfold ja;rw[af (by simp)]
 refine⟨h1,?_⟩;unfold br;rw[ai h1,hg];have hfw:(vP 0 f.ps).map (·.2)=o9 u:=by rw[lZ,T.fw]
 unfold dL;simp only[nums,bG,j5];rw[FR _ hfw,Ey its _ _ T.ok (by rw[ql,T.w])];simp
def Bg(u:List UInt8):List UInt8:=[109,111,100,117,108,101,32]++u++[10]
def vX(x:It):List UInt8:=[114,101,113,117,105,114,101,32]++pW x.k++[32]++vW x.v++[10]
def ey(u:List UInt8)(its:List It):List UInt8:=Bg u++its.flatMap vX
theorem Ir(u:List UInt8):txt (plain (o9 u))=Bg u:=by
 simp[txt,row,plain,mf,join,vR,o9,wM,Bg]
theorem Le{x:It}(h:x.t=0):txt (plain (itW x))=vX x:=by
 unfold itW;rw[ai h];simp[txt,row,plain,mf,join,vR,wR,vX]
theorem Iu{x:It}(h:qj x):(vX x).length≤23:=by
 have h1:=nW x.k h.k;have h2:=Ip x.v h.v;simp only[vX,aW,bS,il];omega
theorem nY{u:List UInt8}(hu:u.length≤1000)(h:dR its):(ey u its).length≤1169:=by
 have h1:=eA (f:=vX) (m:=23) its (fun x hx=>Iu (h.ok x hx));have h2:=h.len;have h3:its.length*23≤7*23:=d9 _ h2;simp only[ey,Bg,aW,bS,il];omega
theorem Bh:∀{its:List It},(∀y∈its,y.t=0)→its.filterMap iR=its.map mR∧its.filterMap iX=[]∧its.filterMap iS=[]
 |[],_=>⟨rfl,rfl,rfl⟩
 |x::r,h=>by
  have ih:=Bh (its:=r) (fun y hy=>h y (cV _ hy));have h0:=h x bQ;have e1:iR x=some (mR x):=by unfold iR;rw[ai h0];rfl
  have e2:iX x=none:=by unfold iX;rw[af (by omega)]
  have e3:iS x=none:=by unfold iS;rw[af (by omega)]
  simp[e1,e2,e3,ih]
theorem Bi{u:List UInt8}(hu:Pv.aH u=true)(hw:qh u=true)(h:dR its):Iq u (plain (o9 u)) (its.map fun x=>plain (itW x)) its∧(ba (ey u its)).data.toList=(plain (o9 u)::its.map fun x=>plain (itW x)).flatMap txt:=by
 refine⟨⟨hu,Bc (by simp[o9]) (fun w hm=>?_),tX _,fun l hl=>?_,?_,h.ok,h.cl,by rw[h.nR];have:=h.len;omega⟩,?_⟩
 ·simp only[o9,aY,cW,or_false] at hm
  rcases hm with rfl|rfl
  ·decide
  ·exact hw
 ·obtain⟨x,hx,rfl⟩:=bB.1 hl
  exact Bc (Ld x) (Lb (h.ok x hx))
 ·rw[j7]
  exact oB (fun x _=>tX _)
 ·have e:(its.map fun x=>plain (itW x)).flatMap txt=its.flatMap vX:=by
   have hh:=yq (f:=vX) (g:=txt) (h:=fun x=>plain (itW x)) its (fun x hx=>(Le (h.t x hx)).symm);exact hh.symm
  rw[gK,Ir,e];simp[ba,ey]
theorem Iv{u:List UInt8}(hu:Pv.aH u=true)(hw:qh u=true)(hl:u.length≤1000)(h:dR its):bh (ba (ey u its))=[]∧br (ba (ey u its))=⟨ba u,its.map mR,[],[]⟩:=by
 obtain⟨T,hs⟩:=Bi hu hw h
 have hz:(ba (ey u its)).size≤2000:=by
  have:=nY hl h;show(ey u its).toArray.size≤2000;simp;omega
 have hr:=Be T _ hs hz;have hf:=Bh h.t;rw[hf.1,hf.2.1,hf.2.2] at hr;exact hr
theorem rC{u:List UInt8}(hu:Pv.aH u=true)(hw:qh u=true)(h:dR its):(fA (ba (ey u its))).good.length≤19:=by
 obtain⟨T,hs⟩:=Bi hu hw h;rw[vV T _ hs];show(nums 1 (plain (o9 u)::its.map fun x=>plain (itW x))).length≤19;rw[Ba];have:=h.len;simp;omega
def vY(j:Nat):List UInt8:=[118,101,114,115,105,111,110,32]++vW j++[10]
def kX:List UInt8:=(List.range 4).flatMap vY
end Rn
namespace Pn
open Mf Rn
theorem sS{u:List UInt8}{its:List It}(hu:Pv.aH u=true)(hw:qh u=true)(hl:u.length≤1000)(h:dR its):dQ (some (ba (ey u its)))=.man 0 ⟨ba u,reqs (its.map mR),[],[]⟩:=by
 have hr:=Iv hu hw hl h;unfold dQ;simp only[hr.1,hr.2,dI]
 rfl
theorem yr:dr (ba kX)=[]∧eK (ba kX)=(List.range 4).map fun j=>ba (vW j):=⟨by kernel_rfl,by kernel_rfl⟩
theorem Bj:dr (ba (vY 0))=[]∧eK (ba (vY 0))=[ba (vW 0)]:=⟨by kernel_rfl,by kernel_rfl⟩
theorem Iw:idxOf (some (ba kX))=.idx 0 ((List.range 4).map fun j=>ba (vW j)):=by
 unfold idxOf;simp only[yr.1,yr.2,dI]
theorem Lf:idxOf (some (ba (vY 0)))=.idx 0 [ba (vW 0)]:=by
 unfold idxOf;simp only[Bj.1,Bj.2,dI]
end Pn
end
namespace Pn
open Mf Rn
def aD(c:Nat):Mo:=if c=28 then (ba [114],e0) else (ba (pW (c/4)),ba (vW (c%4)))
def fh(x:It):Nat:=4*x.k+x.v
theorem mg{x:It}(h:qj x):fh x<28:=by have:=h.k;have:=h.v;unfold fh;omega
theorem Bn{x:It}(h:qj x):aD (fh x)=mR x:=by
 have:=mg h;have h1:=h.v;unfold aD;rw[af (by omega)];have e1:fh x/4=x.k:=by unfold fh;omega
 have e2:fh x%4=x.v:=by unfold fh;omega
 rw[e1,e2]
 rfl
theorem jT{a b:Nat}(ha:a≤28)(hb:b≤28):(aD a).1=(aD b).1↔a/4=b/4:=by
 unfold aD;by_cases h1:a=28
 ·rw[ai h1]
  by_cases h2:b=28
  ·rw[ai h2,h1,h2];exact⟨fun _=>rfl,fun _=>rfl⟩
  ·rw[af h2]
   refine⟨fun e=>?_,fun e=>by omega⟩;have:=bZ List.length (iW e);rw[nW _ (by omega)] at this;simp at this
 ·rw[af h1]
  by_cases h2:b=28
  ·rw[ai h2]
   refine⟨fun e=>?_,fun e=>by omega⟩;have:=bZ List.length (iW e);rw[nW _ (by omega)] at this;simp at this
  ·rw[af h2]
   exact⟨fun e=>vT _ _ (by omega) (by omega) (iW e),fun e=>by rw[e]⟩
theorem zC{a b:Nat}(ha:a≤28)(hb:b≤28)(h:aD a=aD b):a=b:=by
 have hp:=(jT ha hb).1 (bZ Prod.fst h);by_cases h1:a=28
 ·omega
 ·by_cases h2:b=28
  ·omega
  ·unfold aD at h
   rw[af h1,af h2] at h;have hv:=Ex _ _ (by omega) (by omega) (iW (bZ Prod.snd h));omega
theorem Lg:((List.range 29).all fun a=>(List.range 29).all fun b=>ltOf eV (aD a) (aD b)==decide (a<b))=true:=by kernel_rfl
theorem Ix{a b:Nat}(ha:a≤28)(hb:b≤28):ltOf eV (aD a) (aD b)=decide (a<b):=by
 have h:=gw.1 Lg a (gy.2 (by omega));have h:=gw.1 h b (gy.2 (by omega));exact eq_of_beq h
def nZ:List Nat→List Nat
 |[]=>[]
 |[m]=>[m]
 |m::m'::r=>if m'/4=m/4 then nZ (m'::r) else m::nZ (m'::r)
theorem tY:∀sl:List Nat,sl.Pairwise (· < ·)→(∀c,c∈nZ sl↔c∈sl∧∀c'∈sl,c'/4=c/4→c'≤c)∧(nZ sl).Pairwise (fun a b=>a/4<b/4)
 |[],_=>⟨fun c=>⟨fun h=>absurd h cW,fun h=>absurd h.1 cW⟩,List.Pairwise.nil⟩
 |[m],_=>⟨fun c=>⟨fun h=>⟨h,fun c' h' _=>by rw[bL.1 h,bL.1 h'];exact ag _⟩,fun h=>h.1⟩,List.pairwise_singleton _ _⟩
 |m::m'::r,hp=>by
  have hp1:=fH.1 hp;have ih:=tY (m'::r) hp1.2;have hm:=hp1.1 m' bQ
  have hr:∀x∈m'::r,m'≤x:=fun x hx=>by
   rcases aY.1 hx with e|e
   ·omega
   ·exact Nat.le_of_lt ((fH.1 hp1.2).1 x e)
  unfold nZ;by_cases hc:m'/4=m/4
  ·rw[ai hc]
   refine⟨fun c=>?_,ih.2⟩;rw[ih.1 c]
   constructor
   ·rintro⟨h1,h2⟩
    refine⟨cV _ h1,fun c' h' e=>?_⟩;rcases aY.1 h' with e'|e'
    ·have:=hr c h1;omega
    ·exact h2 c' e' e
   ·rintro⟨h1,h2⟩
    rcases aY.1 h1 with e'|e'
    ·have:=h2 m' (cV _ bQ) (by rw[e'];exact hc)
     omega
    ·exact⟨e',fun c' h' e=>h2 c' (cV _ h') e⟩
  ·rw[af hc]
   refine⟨fun c=>?_,fH.2 ⟨fun x hx=>?_,ih.2⟩⟩
   ·rw[aY,ih.1 c]
    constructor
    ·rintro(h1|⟨h1,h2⟩)
     ·subst h1
      refine⟨bQ,fun c' h' e=>?_⟩;rcases aY.1 h' with e'|e'
      ·omega
      ·have:=hr c' e';omega
     ·refine⟨cV _ h1,fun c' h' e=>?_⟩
      rcases aY.1 h' with e'|e'
      ·have:=hr c h1;omega
      ·exact h2 c' e' e
    ·rintro⟨h1,h2⟩
     rcases aY.1 h1 with e'|e'
     ·exact Or.inl e'
     ·exact Or.inr ⟨e',fun c' h' e=>h2 c' (cV _ h') e⟩
   ·have h1:=((ih.1 x).1 hx).1
    have:=hr x h1;omega
theorem yt:∀sl:List Nat,(∀c∈sl,c≤28)→lasts (sl.map aD)=(nZ sl).map aD
 |[],_=>rfl
 |[m],_=>rfl
 |m::m'::r,h=>by
  have ih:=yt (m'::r) (fun c hc=>h c (cV _ hc));have hp:=jT (h m' (cV _ bQ)) (h m bQ);simp only[bG] at ih ⊢;unfold lasts nZ;by_cases hc:m'/4=m/4
  ·rw[ai hc,ai (hp.2 hc)];exact ih
  ·rw[af hc,af (fun e=>hc (hp.1 e)),bG,ih]
theorem pB(cl:List Nat)(hn:cl.Nodup)(hl:∀c∈cl,c≤28):∃cds:List Nat,highest (cl.map aD)=cds.map aD∧cds.Pairwise (fun a b=>a/4<b/4)∧∀c,c∈cds↔c∈cl∧∀c'∈cl,c'/4=c/4→c'≤c:=by
 let lt':Nat→Nat→Bool:=fun a b=>ltOf eV (aD a) (aD b)
 have hmap:(Ss.aK lt' cl).map aD=Ss.aK (ltOf eV) (cl.map aD):=Ss.ju aD _ (fun _ _=>rfl) cl;have vg:(Ss.aK lt' cl).Perm cl:=Ss.bX cl;have hle:∀c∈Ss.aK lt' cl,c≤28:=fun c hc=>hl c (vg.mem_iff.1 hc)
 have hpw:=FP Po (cl.map aD);rw[←hmap] at hpw;have QR:=oF.1 hpw;have hnd:(Ss.aK lt' cl).Nodup:=vg.nodup_iff.2 hn
 have hlt:(Ss.aK lt' cl).Pairwise (· < ·):=by
  have h2:=ig.1 QR;have h3:=ig.1 hnd;refine ig.2 (fun i j hi hj hij=>?_);have q1:=h2 i j hi hj hij;have q2:=h3 i j hi hj hij;rw[Ix (hle _ (cH hj)) (hle _ (cH hi))] at q1;have q1:=pM q1;omega
 have sp:=tY _ hlt;refine⟨nZ (Ss.aK lt' cl),?_,sp.2,fun c=>?_⟩
 ·unfold highest
  rw[←hmap];exact yt _ hle
 ·rw[sp.1 c,vg.mem_iff]
  constructor
  ·rintro⟨h1,h2⟩;exact⟨h1,fun c' h' e=>h2 c' (vg.mem_iff.2 h') e⟩
  ·rintro⟨h1,h2⟩;exact⟨h1,fun c' h' e=>h2 c' (vg.mem_iff.1 h') e⟩
inductive Rc(wc:Nat→List Nat):Nat→Prop where
 |root:Rc wc 28
 |step {c x:Nat}:Rc wc c→x∈wc c→Rc wc x
theorem Rc.le{wc:Nat→List Nat}(h:∀c x,x∈wc c→x≤28){c:Nat}:Rc wc c→c≤28
 | .root=>ag _
 | .step _ hx=>h _ _ hx
theorem Db{cl:List Nat}(hn:cl.Nodup)(hl:∀c∈cl,c≤28):cl.length≤29:=few 29 cl hn (fun x hx=>by have:=hl x hx;omega)
theorem sT:∀(W cl:List Nat),cl.Nodup→(∀c∈cl,c≤28)→(∀c∈W,c≤28)→∃t:List Nat,bY (cl.map aD) (W.map aD)=some ((cl++t).map aD)∧(cl++t).Nodup∧(∀x,x∈cl++t↔x∈cl∨x∈W)∧∀c∈cl++t,c≤28
 |[],cl,hn,hl,_=>⟨[],by simp[bY],by simpa using hn,fun x=>by simp,by simpa using hl⟩
 |m::r,cl,hn,hl,hW=>by
  have hm:=hW m bQ;have hr:=fun c hc=>hW c (cV _ hc)
  rw[bG];unfold bY;by_cases hin:m∈cl
  ·rw[ai (bB.2 ⟨m,hin,rfl⟩)]
   obtain⟨t,h1,h2,h3,h4⟩:=sT r cl hn hl hr;refine⟨t,h1,h2,fun x=>?_,h4⟩;rw[h3 x,aY]
   constructor
   ·rintro(h|h)
    ·exact Or.inl h
    ·exact Or.inr (Or.inr h)
   ·rintro(h|h|h)
    ·exact Or.inl h
    ·rw[h];exact Or.inl hin
    ·exact Or.inr h
  ·have hno:aD m∉cl.map aD:=fun e=>by
    obtain⟨c,hc,e⟩:=bB.1 e;have:=zC (hl c hc) hm e;rw[this] at hc;exact hin hc
   have hlen:=Db hn hl;rw[af hno,af (by rw[bz];omega)];have hn2:(cl++[m]).Nodup:=oG.2 ⟨hn,by simp,fun a ha b hb e=>by rw[bL.1 hb] at e;rw[e] at ha;exact hin ha⟩
   have hl2:∀c∈cl++[m],c≤28:=fun c hc=>by
    rcases bC.1 hc with h|h
    ·exact hl c h
    ·rw[bL.1 h];exact hm
   obtain⟨t,h1,h2,h3,h4⟩:=sT r (cl++[m]) hn2 hl2 hr;rw[eu] at h1;refine⟨m::t,?_,by simpa using h2,fun x=>?_,by simpa using h4⟩
   ·rw[show cl++m::t=cl++[m]++t by simp]
    exact h1
   ·rw[show cl++m::t=cl++[m]++t by simp,h3 x,aY,bC,bL]
    constructor
    ·rintro((h|h)|h)
     ·exact Or.inl h
     ·exact Or.inr (Or.inl h)
     ·exact Or.inr (Or.inr h)
    ·rintro(h|h|h)
     ·exact Or.inl (Or.inl h)
     ·exact Or.inl (Or.inr h)
     ·exact Or.inr h
theorem qo{s:Shf}{o:Qn→Fi}{wc:Nat→List Nat}(root:ByteArray)(hle:∀c x,x∈wc c→x≤28)
  (ho:∀c,Rc wc c→∃W:List Nat,o ⟨2,(aD c).1,(aD c).2⟩=.wants (W.map aD) []∧∀x,x∈W↔x∈wc c):
  ∀(n:Nat)(cl:List Nat)(i:Nat)(ps:List Pb),n+i=61→cl.Nodup→(∀c∈cl,Rc wc c)→28∈cl→(∀j,j<i→∀c,cl[j]?=some c→∀x∈wc c,x∈cl)→
   ∃cl':List Nat,(cu root n (cl.map aD) i ps).run s o=.list (highest (cl'.map aD)) ps∧cl'.Nodup∧∀x,x∈cl'↔Rc wc x
 |0,cl,i,ps,hi,hn,hR,h28,hcl=>by
  have hl:=Db hn (fun c hc=>(hR c hc).le hle);refine⟨cl,rfl,hn,fun x=>⟨hR x,fun h=>?_⟩⟩
  induction h with
  |root=>exact h28
  |step hc hx ih=>
   obtain⟨j,hj,e⟩:=List.mem_iff_getElem.1 ih;exact hcl j (by omega) _ (by rw[bg hj,e]) _ hx
 |n+1,cl,i,ps,hi,hn,hR,h28,hcl=>by
  unfold cu;rw[iT];cases hc:cl[i]? with
  |none=>
   have hil:cl.length≤i:=uP.1 hc;refine⟨cl,rfl,hn,fun x=>⟨hR x,fun h=>?_⟩⟩
   induction h with
   |root=>exact h28
   |step hc hx ih=>
    obtain⟨j,hj,e⟩:=List.mem_iff_getElem.1 ih;exact hcl j (by omega) _ (by rw[bg hj,e]) _ hx
  |some c=>
   have hcm:c∈cl:=jm hc;obtain⟨W,hw,hx⟩:=ho c (hR c hcm);obtain⟨t,h1,h2,h3,h4⟩:=sT W cl hn (fun c hc=>(hR c hc).le hle) (fun x hx2=>hle c x ((hx x).1 hx2));simp only[Option.map_some,Cm.run];rw[hw];simp only[cO,gL];rw[h1];simp only;refine qo root hle ho n (cl++t) (i+1) ps (by omega) h2 (fun x hx2=>?_) (fp _ h28) (fun j hj d hd x hx2=>?_)
   ·rcases(h3 x).1 hx2 with h|h
    ·exact hR x h
    ·exact .step (hR c hcm) ((hx x).1 h)
   ·rw[h3 x]
    have hil:=(dw.1 hc).1;rw[r8 (by omega)] at hd;by_cases hji:j=i
    ·rw[hji,hc] at hd
     injection hd with hd;rw[hd] at hx;exact Or.inr ((hx x).2 hx2)
    ·exact Or.inl (hcl j (by omega) d hd x hx2)
theorem yu{ver:ByteArray}:∀{L:List ByteArray},ver∈L→∃t,fZ ver L=some (ver::t)
 |v::r,h=>by
  unfold fZ;by_cases e:v=ver
  ·rw[ai e,e];exact⟨r,rfl⟩
  ·rw[af e]
   exact yu ((aY.1 h).resolve_left (fun k=>e k.symm))
theorem yw{p v:ByteArray}{L:List ByteArray}(h:v∈L):choose (p,v) (0,L) []=.inl (p,v):=by
 obtain⟨t,e⟩:=yu h;unfold choose;simp only[ne_eq,not_true_eq_false,eP];rw[e];simp only;unfold cC;rw[af (by simp)]
theorem sU{s:Shf}{o:Qn→Fi}(root:ByteArray)(X:List Mo):∀(L ms:List Mo)(ps:List Pb),(∀r∈L,r.1≠root∧choose r (nO (o ⟨1,r.1,e0⟩)) X=.inl r)→(aZ root X L ms ps).run s o=.wants (ms++L) ps
 |[],ms,ps,_=>by rw[gL];rfl
 |r::rest,ms,ps,h=>by
  have h0:=h r bQ;unfold aZ;rw[af h0.1];simp only[Cm.run];rw[h0.2];simp only;rw[sU root X rest (ms++[r]) ps (fun x hx=>h x (cV _ hx))];simp
structure Whl(s:Shf)(top:List It)(R:Nat→Nat→List It):Prop where
 root:s ay=some (ba [114])
 zD:s (0,ba [114],e0)=some (ba (ey [114] top))
 idx:∀p,p<7→s (1,ba (pW p),e0)=some (ba kX)
 man:∀p,p<7→∀v,v<4→s (0,ba (pW p),ba (vW v))=some (ba (ey (pW p) (R p v)))
 tok:dR top
 rok:∀p v,dR (R p v)
def dB(top:List It)(R:Nat→Nat→List It)(c:Nat):List It:=if c=28 then top else R (c/4) (c%4)
def fj(top:List It)(R:Nat→Nat→List It)(c:Nat):List Nat:=(dB top R c).map fh
variable{s:Shf}{top:List It}{R:Nat→Nat→List It}
theorem Dc(h:Whl s top R)(c:Nat):dR (dB top R c):=by
 unfold dB
 split
 ·exact h.tok
 ·exact h.rok _ _
theorem qq:Pv.aH [114]=true:=by decide
theorem Dd:qh [114]=true:=by decide
theorem NV(h:Whl s top R){c:Nat}(hc:c≤28):dQ (s (0,(aD c).1,(aD c).2))=.man 0 ⟨(aD c).1,reqs ((dB top R c).map mR),[],[]⟩:=by
 unfold aD dB;by_cases e:c=28
 ·simp only[ai e]
  rw[h.zD];exact sS qq Dd (by simp) h.tok
 ·simp only[af e]
  rw[h.man _ (by omega) _ (by omega)];exact sS (iM _ (by omega)) (Io _ (by omega)) (by rw[nW _ (by omega)];omega) (h.rok _ _)
theorem De(h:Whl s top R):bM (ba [114]) (dQ (s (0,ba [114],e0))).ess=⟨ba [114],reqs (top.map mR),[],[]⟩:=by
 rw[h.zD,sS qq Dd (by simp) h.tok];unfold bM cT Fi.ess ic;simp
theorem Iy(h:Whl s top R){c:Nat}(hc:c≤28):val s ⟨2,(aD c).1,(aD c).2⟩=.wants (reqs ((dB top R c).map mR)) []:=by
 rw[kD s (ag 2)];unfold v1;rw[ai rfl];unfold fR;simp only[Cm.run];rw[h.root];have er:rootOf (some (ba [114]))=ba [114]:=rfl;rw[er];have e1:orc (v0 s) ⟨0,ba [114],e0⟩=(dQ (s (0,ba [114],e0))).ess:=rfl;rw[e1,De h];simp only[replaced]
 have e2:orc (v0 s) ⟨0,(aD c).1,(aD c).2⟩=.man 0 ⟨(aD c).1,reqs ((dB top R c).map mR),[],[]⟩:=by
  show(dQ (s (0,(aD c).1,(aD c).2))).ess=_;rw[NV h hc]
  rfl
 have e3:cT (ic (orc (v0 s) ⟨0,(aD c).1,(aD c).2⟩)) (aD c).1=0:=by
  rw[e2];unfold cT ic;simp
 refine(bZ (Cm.run s (orc (v0 s))) (af (fun k=>k e3))).trans ?_;have e5:(ic (orc (v0 s) ⟨0,(aD c).1,(aD c).2⟩)).2.R=reqs ((dB top R c).map mR):=by rw[e2];rfl
 rw[e5,sU]
 ·rfl
 ·intro r hr
  have hr:r∈reqs ((dB top R c).map mR):=hr;have hr2:r∈(dB top R c).map mR:=(Ss.bX _).mem_iff.1 hr;obtain⟨x,hx,rfl⟩:=bB.1 hr2;have hk:=(Dc h c).ok x hx;refine⟨fun e=>?_,?_⟩
  ·have:=bZ List.length (iW e)
   rw[nW _ hk.k] at this;simp at this
  ·have e4:orc (v0 s) ⟨1,(mR x).1,e0⟩=(idxOf (s (1,ba (pW x.k),e0))).ess:=rfl
   rw[e4,h.idx _ hk.k,Iw];exact yw (bB.2 ⟨x.v,gy.2 hk.v,rfl⟩)
theorem EA(h:Whl s top R)(c x:Nat)(hx:x∈fj top R c):x≤28:=by
 obtain⟨y,hy,rfl⟩:=bB.1 hx;exact Nat.le_of_lt (mg ((Dc h c).ok y hy))
theorem Bo(h:Whl s top R){c:Nat}(hc:c≤28):∃W:List Nat,val s ⟨2,(aD c).1,(aD c).2⟩=.wants (W.map aD) []∧∀x,x∈W↔x∈fj top R c:=by
 have hp:(Ss.aK (fun x y=>ltOf Sm.xt (mR x) (mR y)) (dB top R c)).Perm (dB top R c):=Ss.bX _;refine⟨(Ss.aK (fun x y=>ltOf Sm.xt (mR x) (mR y)) (dB top R c)).map fh,?_,fun x=>?_⟩
 ·rw[Iy h hc,j7]
  have e:reqs ((dB top R c).map mR)=(Ss.aK (fun x y=>ltOf Sm.xt (mR x) (mR y)) (dB top R c)).map mR:=(Ss.ju mR _ (fun _ _=>rfl) _).symm;rw[e];refine bZ (fun l=>Fi.wants l []) (oB (fun x hx=>?_));exact(Bn ((Dc h c).ok x (hp.mem_iff.1 hx))).symm
 ·exact(hp.map fh).mem_iff
theorem Df(h:Whl s top R):∃cds:List Nat,val s ⟨3,e0,e0⟩=.list (cds.map aD) []∧cds.Pairwise (fun a b=>a/4<b/4)∧∀c,c∈cds↔Rc (fj top R) c∧∀c',Rc (fj top R) c'→c'/4=c/4→c'≤c:=by
 have hv:val s ⟨3,e0,e0⟩=gB.run s (orc (v1 s)):=by
  rw[qb s (ag 3)];unfold v2;rw[ai rfl]
 have ho:∀c,c≤28→∃W:List Nat,orc (v1 s) ⟨2,(aD c).1,(aD c).2⟩=.wants (W.map aD) []∧∀x,x∈W↔x∈fj top R c:=fun c hc=>by
  obtain⟨W,h1,h2⟩:=Bo h hc;refine⟨W,?_,h2⟩;unfold orc;rw[←kD s (ag 2),h1]
  rfl
 obtain⟨cl,h1,h2,h3⟩:=qo (s:=s) (ba [114]) (EA h) (fun c hc=>ho c (hc.le (EA h))) 61 [28] 0 [] rfl (by simp) (fun c hc=>by rw[bL.1 hc];exact .root) (by simp) (fun j hj=>absurd hj (dG _));obtain⟨cds,g1,g2,g3⟩:=pB cl h2 (fun c hc=>((h3 c).1 hc).le (EA h));refine⟨cds,?_,g2,fun c=>?_⟩
 ·rw[hv]
  unfold gB;simp only[Cm.run];rw[h.root];have er:rootOf (some (ba [114]))=ba [114]:=rfl;rw[er];have e0':¬(ba [114]).size=0:=by decide
  rw[af e0'];rw[g1] at h1;exact h1
 ·rw[g3 c,h3 c]
  constructor
  ·rintro⟨q1,q2⟩;exact⟨q1,fun c' h' e=>q2 c' ((h3 c').2 h') e⟩
  ·rintro⟨q1,q2⟩;exact⟨q1,fun c' h' e=>q2 c' ((h3 c').1 h') e⟩
