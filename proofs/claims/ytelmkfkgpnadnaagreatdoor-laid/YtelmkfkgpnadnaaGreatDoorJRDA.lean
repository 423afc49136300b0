import Derived.Test.YtelmkfkgpnadnaaGreatDoorJTA
import Derived.Test.YtelmkfkgpnadnaaGreatDoorJQK
import Derived.Test.YtelmkfkgpnadnaaGreatDoorJCC
import Derived.Laws.CopyOwn
import Derived.Test.YtelmkfkgpnadnaaGreatDoorJPLA
set_option linter.all false
set_option maxRecDepth 100000
namespace Go.Proofs.YtelmkfkgpnadnaaGreatDoor
namespace Rn
open Tx (nb toks rR words spoken)
def rE(w:List UInt8):Bool:=!w.isEmpty&&w.all (fun c=>nb c&&c !=35&&c !=10)
def blanks(b:List UInt8):Bool:=b.all fun c=>c==32||c==9
def join:List (List UInt8×List UInt8)→List UInt8
 |[]=>[]
 |(b,w)::r=>b++(w++join r)
def xK(i:Nat):List (List UInt8×List UInt8)→List (Nat×List UInt8)
 |[]=>[]
 |(b,w)::r=>(i+b.length,w)::xK (i+b.length+w.length) r
theorem nH:∀(ps:List (List UInt8×List UInt8))(i:Nat),(xK i ps).map (·.2)=ps.map (·.2)
 |[],_=>rfl
 |(b,w)::r,i=>by simp only[xK,bH,nH r]
theorem xL{c:UInt8}(h:(c==32||c==9)=true):nb c=false:=by
 unfold nb;rw[h];rfl
theorem uw:∀(b x:List UInt8)(i:Nat),blanks b=true→toks i none (b++x)=toks (i+b.length) none x
 |[],x,i,_=>rfl
 |c::b,x,i,h=>by
  simp only[blanks,lI,cG] at h;rw[jQ,toks,af (by rw[xL h.1];decide),uw b x (i+1) h.2];simp only[bX];rw[show i+1+b.length=i+(b.length+1) by omega]
theorem C3:∀(w y:List UInt8),(∀c∈w,nb c=true)→(∀c u,y=c::u→nb c=false)→(w++y).takeWhile nb=w∧(w++y).dropWhile nb=y
 |[],y,_,hy=>by
  cases y with
  |nil=>exact⟨rfl,rfl⟩
  |cons c u=>have h:=hy c u rfl;simp[h]
 |c::w,y,h,hy=>by
  have hc:=h c (by simp);have ih:=C3 w y (fun d hd=>h d (by simp[hd])) hy;simp only[jQ,List.takeWhile_cons,List.dropWhile_cons,hc,dK,ih.1,ih.2];exact⟨trivial,trivial⟩
theorem Kh(w y:List UInt8)(i:Nat)(hw:rE w=true)(hy:∀c u,y=c::u→nb c=false):toks i none (w++y)=(i,w)::toks (i+w.length) none y:=by
 cases w with
 |nil=>simp[rE] at hw
 |cons c w=>
  have hall:∀d∈c::w,nb d=true:=fun d hd=>by
   simp only[rE,cG,gJ] at hw;exact(hw.2 d hd).1.1
  have hc:=hall c (by simp);have ht:=C3 w y (fun d hd=>hall d (by simp[hd])) hy;rw[jQ,toks,ah hc,rR,ht.1,ht.2];simp only[ow,bX];rw[show i+1+w.length=i+(w.length+1) by omega]
theorem C4:∀(t:List UInt8)(i:Nat),blanks t=true→toks i none t=[]
 |t,i,h=>by
  have:=uw t [] i h;rw[gV] at this;rw[this];rfl
def PH(ps:List (List UInt8×List UInt8)):Prop:=(∀p∈ps,blanks p.1=true∧rE p.2=true)∧∀p∈ps.tail,p.1≠[]
theorem vg:∀(ps:List (List UInt8×List UInt8))(tr:List UInt8)(i:Nat),PH ps→blanks tr=true→toks i none (join ps++tr)=xK i ps
 |[],tr,i,_,ht=>C4 tr i ht
 |(b,w)::r,tr,i,h,ht=>by
  have h0:=h.1 (b,w) (by simp);have hr:PH r:=⟨fun p hp=>h.1 p (by simp[hp]),fun p hp=>h.2 p (by simpa using List.mem_of_mem_tail hp)⟩
  have hy:∀c u,join r++tr=c::u→nb c=false:=by
   intro c u e;cases r with
   |nil=>
    cases tr with
    |nil=>simp[join] at e
    |cons d t=>
     simp only[join,jS,eG] at e;simp only[blanks,lI,cG] at ht;rw[←e.1];exact xL ht.1
   |cons q r=>
    obtain⟨b2,w2⟩:=q;have hb2:=h.2 (b2,w2) (by simp);have hbl:=(h.1 (b2,w2) (by simp)).1;cases b2 with
    |nil=>exact absurd rfl hb2
    |cons d t=>
     simp only[join,jQ,eG] at e;simp only[blanks,lI,cG] at hbl;rw[←e.1];exact xL hbl.1
  rw[join,eP,uw b _ i h0.1,eP,Kh w _ _ h0.2 hy,vg r tr _ hr ht,xK]
structure Lx where
 ps:List (List UInt8×List UInt8)
 tr:List UInt8
 cm:Option (List UInt8)
 ex:Bool
def xM(cm:Option (List UInt8)):List UInt8:=match cm with|none=>[]|some c=>35::c
def row(l:Lx):List UInt8:=join l.ps++l.tr++xM l.cm
def txt(l:Lx):List UInt8:=row l++10::(if l.ex then [10,32,10,35,120,10] else [])
structure ES(l:Lx):Prop where
 ps:PH l.ps
 ne:l.ps≠[]
 tr:blanks l.tr=true
 cm:∀c,l.cm=some c→(10:UInt8)∉c
theorem Bv{c:UInt8}(hc:c=35∨c=10):∀ps,(∀p∈ps,blanks p.1=true∧rE p.2=true)→c∉join ps
 |[],_=>by simp[join]
 |(b,w)::r,h=>by
  have h0:=h (b,w) (by simp);have ih:=Bv hc r (fun p hp=>h p (by simp[hp]));simp only[join,bJ,not_or];refine⟨fun hm=>?_,fun hm=>?_,ih⟩
  ·have:=h0.1
   simp only[blanks,gJ] at this;have h2:=this c hm;rcases hc with rfl|rfl<;>simp at h2
  ·have:=h0.2
   simp only[rE,cG,gJ] at this;have h2:=this.2 c hm;rcases hc with rfl|rfl
   ·simp at h2
   ·simp at h2
theorem zU{c:UInt8}(hc:c=35∨c=10){t:List UInt8}(h:blanks t=true):c∉t:=fun hm=>by
 simp only[blanks,gJ] at h;have h2:=h c hm;rcases hc with rfl|rfl<;>simp at h2
theorem Hq{l:Lx}(h:ES l):words (row l)=xK 0 l.ps:=by
 have hn:(35:UInt8)∉join l.ps++l.tr:=by
  simp only[bJ,not_or];exact⟨Bv (Or.inl rfl) _ h.ps.1,zU (Or.inl rfl) h.tr⟩
 have e:(Pv.eM 35 (row l)).1=join l.ps++l.tr:=by
  unfold row xM;cases l.cm with
  |none=>simp only[gV];rw[Pv.tN 35 _ hn]
  |some c=>simp only;rw[Pv.wH 35 _ c hn]
 unfold words;rw[e];exact vg l.ps l.tr 0 h.ps h.tr
theorem Ki{l:Lx}(h:ES l):(10:UInt8)∉row l:=by
 unfold row xM;simp only[bJ,not_or];refine⟨⟨Bv (Or.inr rfl) _ h.ps.1,zU (Or.inr rfl) h.tr⟩,?_⟩;cases hc:l.cm with
 |none=>simp
 |some c=>
  simp only[aV,not_or];exact⟨by decide,h.cm c hc⟩
theorem Nq{ps:List (List UInt8×List UInt8)}(h:ps≠[])(i:Nat):xK i ps≠[]:=by
 cases ps with
 |nil=>exact absurd rfl h
 |cons p r=>obtain⟨b,w⟩:=p;simp[xK]
def nums(n:Nat):List Lx→List Tx.Ln
 |[]=>[]
 |l::r=>(n,xK 0 l.ps)::nums (n+if l.ex then 4 else 1) r
theorem jF(n:Nat)(a:List UInt8)(ls:List (List UInt8))(h:words a=[]):spoken n (a::ls)=spoken (n+1) ls:=by rw[spoken,ah h]
theorem xN:∀(ls:List Lx)(n:Nat),(∀l∈ls,ES l)→spoken n (Pv.spl 10 (ls.flatMap txt))=nums n ls
 |[],n,_=>by
  show spoken n [[]]=[];rw[jF n [] [] rfl];rfl
 |l::r,n,h=>by
  have h0:=h l (by simp);have ih:=fun m=>xN r m (fun x hx=>h x (by simp[hx]))
  rw[ig,txt,eP,jQ,Pv.mU 10 _ _ (Ki h0),spoken,Hq h0,af (Nq h0.ne 0),nums]
  congr 1
  cases l.ex with
  |false=>simp only[jl,fC,jS];exact ih (n+1)
  |true=>
   simp only[dK];have e:([10,32,10,35,120,10]:List UInt8)++r.flatMap txt=[]++10::([32]++10::([35,120]++10::r.flatMap txt)):=rfl;rw[e,Pv.mU 10 [] _ (by simp),Pv.mU 10 [32] _ (by decide),Pv.mU 10 [35,120] _ (by decide),jF _ _ _ rfl,jF _ _ _ rfl,jF _ _ _ rfl];exact ih (n+4)
end Rn
namespace Rn
open Tx (wM wR wE wP wA)
def pW(k:Nat):List UInt8:=[109,UInt8.ofNat (48+k)]
def vW(j:Nat):List UInt8:=if j=0 then [118,49,46,48,46,48] else if j=1 then [118,49,46,50,46,48,45,114,99,46,49] else if j=2 then [118,49,46,50,46,48] else [118,49,46,49,48,46,48]
structure It where
 t:Nat
 k:Nat
 v:Nat
 b:Nat
deriving DecidableEq
structure rF(x:It):Prop where
 t:x.t<3
 k:x.k<7
 v:x.v<4
 b:x.b<4
def itW(x:It):List (List UInt8):=if x.t=0 then [wR,pW x.k,vW x.v] else if x.t=1 then [wE,pW x.k,vW x.v] else [wP,pW x.k,vW x.v,wA,vW x.b]
theorem jf:∀k,k<7→Pv.aH (pW k)=true:=by decide
theorem Bw:∀j,j<4→(Pv.parse (vW j)).isSome=true:=by decide
theorem PI:∀a,a<7→∀b,b<7→pW a=pW b→a=b:=by decide
theorem vh(a b:Nat)(ha:a<7)(hb:b<7)(h:pW a=pW b):a=b:=PI a ha b hb h
theorem PK:∀a,a<4→∀b,b<4→vW a=vW b→a=b:=by decide
theorem Gb(a b:Nat)(ha:a<4)(hb:b<4)(h:vW a=vW b):a=b:=PK a ha b hb h
def clI(x:It):Nat×Nat×Nat:=(x.t,x.k,if x.t=0 then 0 else x.v)
theorem sN{x:It}(hx:rF x){l:List (Nat×List UInt8)}(hl:l.map (·.2)=itW x):Tx.own false Pv.aH l=none∧(Tx.hd l).2≠wM∧((Tx.hd l).2=wR↔x.t=0)∧Tx.claim l=(if x.t=0 then (wR,pW x.k,[]) else if x.t=1 then (wE,pW x.k,vW x.v) else (wP,pW x.k,vW x.v)):=by
 have hp:=jf x.k hx.k;have hv:=Bw x.v hx.v;have hb:=Bw x.b hx.b;rcases(by have:=hx.t;omega:x.t=0∨x.t=1∨x.t=2) with e|e|e
 ·unfold itW at hl
  rw[ah e] at hl
  match l,hl with
  |[(a0,w0),(a1,w1),(a2,w2)],hl=>
   simp only[bH,fQ,eG,fS] at hl;obtain⟨rfl,rfl,rfl⟩:=hl;have hs:Tx.shape false wR=some [5,6]:=by decide
   refine⟨?_,(by decide:wR≠wM),⟨fun _=>e,fun _=>rfl⟩,?_⟩
   ·simp[Tx.own,Tx.hd,hs,Tx.misfit,Tx.fit,hp,hv]
   ·rw[ah e]
    have h1:wR≠Tx.wV:=by decide
    simp[Tx.claim,Tx.hd,Tx.nth,h1]
 ·unfold itW at hl
  rw[af (by omega),ah e] at hl
  match l,hl with
  |[(a0,w0),(a1,w1),(a2,w2)],hl=>
   simp only[bH,fQ,eG,fS] at hl;obtain⟨rfl,rfl,rfl⟩:=hl;have hs:Tx.shape false wE=some [5,6]:=by decide
   have h2:wE≠wR:=by decide
   refine⟨?_,(by decide:wE≠wM),⟨fun h=>absurd h h2,fun h=>by omega⟩,?_⟩
   ·simp[Tx.own,Tx.hd,hs,Tx.misfit,Tx.fit,hp,hv]
   ·rw[af (by omega),ah e]
    have h1:wE≠Tx.wV:=by decide
    have h3:wE≠wM:=by decide
    simp[Tx.claim,Tx.hd,Tx.nth,h1,h2,h3]
 ·unfold itW at hl
  rw[af (by omega),af (by omega)] at hl
  match l,hl with
  |[(a0,w0),(a1,w1),(a2,w2),(a3,w3),(a4,w4)],hl=>
   simp only[bH,fQ,eG,fS] at hl;obtain⟨rfl,rfl,rfl,rfl,rfl⟩:=hl;have hs:Tx.shape false wP=some [5,6,7,6]:=by decide
   have h2:wP≠wR:=by decide
   refine⟨?_,(by decide:wP≠wM),⟨fun h=>absurd h h2,fun h=>by omega⟩,?_⟩
   ·simp[Tx.own,Tx.hd,hs,Tx.misfit,Tx.fit,hp,hv,hb]
   ·rw[af (by omega),af (by omega)]
    have h1:wP≠Tx.wV:=by decide
    have h3:wP≠wM:=by decide
    simp[Tx.claim,Tx.hd,Tx.nth,h1,h2,h3]
theorem PL{x y:It}(hx:rF x)(hy:rF y){l g:List (Nat×List UInt8)}(hl:l.map (·.2)=itW x)(hg:g.map (·.2)=itW y)(h:Tx.claim g=Tx.claim l):clI y=clI x:=by
 rw[(sN hx hl).2.2.2,(sN hy hg).2.2.2] at h;have hxt:=hx.t;have hyt:=hy.t;unfold clI;rcases(by omega:x.t=0∨x.t=1∨x.t=2) with e|e|e<;>rcases(by omega:y.t=0∨y.t=1∨y.t=2) with f|f|f<;>rw[e,f] at h ⊢<;>simp[iH] at h ⊢
 ·exact vh _ _ hy.k hx.k h
 ·exact absurd h.1 (by decide)
 ·exact absurd h.1 (by decide)
 ·exact absurd h.1 (by decide)
 ·exact⟨vh _ _ hy.k hx.k h.1,Gb _ _ hy.v hx.v h.2⟩
 ·exact absurd h.1 (by decide)
 ·exact absurd h.1 (by decide)
 ·exact absurd h.1 (by decide)
 ·exact⟨vh _ _ hy.k hx.k h.1,Gb _ _ hy.v hx.v h.2⟩
def nR(l:List It):Nat:=l.countP (fun x=>x.t==0)
theorem xO:∀(its:List It)(ls:List Tx.Ln)(g:Tx.Got),(∀x∈its,rF x)→ls.map (fun l=>l.2.map (·.2))=its.map itW→0<g.spoken→(its.map clI).Nodup→(∀x∈g.good,∀y∈its,∀l:List (Nat×List UInt8),l.map (·.2)=itW y→Tx.claim x.2≠Tx.claim l)→g.requires+nR its≤20→
  ls.foldl (Tx.bw false Pv.aH 20) g=⟨g.good++ls,g.au,g.spoken+ls.length,g.requires+nR its⟩
 |[],ls,g,_,hl,_,_,_,_=>by
  have:ls=[]:=by simpa using hl
  subst this;simp[nR]
 |y::its,ls,g,hok,hl,hg,hnd,hne,hq=>by
  cases ls with
  |nil=>simp at hl
  |cons l ls=>
   simp only[bH,eG] at hl;have hy:=hok y (by simp);have ho:=sN hy hl.1
   have R8:(g.good.any fun x=>decide (Tx.claim x.2=Tx.claim l.2))=false:=by
    rw[List.any_eq_false];intro x hx h;exact hne x hx y (by simp) l.2 hl.1 (gH h)
   have hnR:nR (y::its)=nR its+if y.t=0 then 1 else 0:=by
    unfold nR;rw[List.countP_cons];by_cases e:y.t=0<;>simp[e]
   have QM:¬((Tx.hd l.2).2=wR∧(g.requires==20)=true):=by
    rintro⟨h1,h2⟩;have h3:=ho.2.2.1.1 h1;rw[hnR,ah h3] at hq;simp at h2;omega
   have QN:¬(false=false∧((Tx.hd l.2).2==wM)≠(g.spoken==0)):=by
    have h1:((Tx.hd l.2).2==wM)=false:=by simpa using ho.2.1
    have h2:(g.spoken==0)=false:=by simp;omega
    rw[h1,h2];simp
   have hstep:Tx.bw false Pv.aH 20 g l=⟨g.good++[l],g.au,g.spoken+1,g.requires+if y.t=0 then 1 else 0⟩:=by
    rw[Tx.Cb];unfold Tx.step Tx.slip;rw[R8,af QN,ho.1];simp only[jl,fC,af QM];by_cases e:y.t=0
    ·rw[ah (ho.2.2.1.2 e),ah e]
    ·rw[af (fun h=>e (ho.2.2.1.1 h)),af e];rfl
   rw[lG,hstep,xO its ls _ (fun x hx=>hok x (by simp[hx])) hl.2 (by simp) (List.nodup_cons.1 hnd).2 ?_ ?_]
   ·simp only[eP,ow,bX,Tx.Got.mk.injEq,true_and]
    rw[hnR];omega
   ·intro x hx z hz m hm
    rcases bJ.1 hx with h|h
    ·exact hne x h z (by simp[hz]) m hm
    ·rw[bQ.1 h]
     intro e;have:=PL (hok z (by simp[hz])) hy hm hl.1 e;exact(List.nodup_cons.1 hnd).1 (by rw[this];exact List.mem_map_of_mem hz)
   ·show g.requires+(if y.t=0 then 1 else 0)+nR its≤20
    rw[hnR] at hq;omega
end Rn
namespace Rn
open Tx (wM wR wE wP wA)
open Mf
def ba(l:List UInt8):zA:=⟨l.toArray⟩
def iR(x:It):Option Mo:=if x.t=0 then some (ba (pW x.k),ba (vW x.v)) else none
def iX(x:It):Option Mo:=if x.t=1 then some (ba (pW x.k),ba (vW x.v)) else none
def iS(x:It):Option So:=if x.t=2 then some (ba (pW x.k),ba (vW x.v),ba (vW x.b)) else none
theorem vk(x:Tx.Ln)(j:Nat):wd (jw x).2 j=ba ((x.2.map (·.2)).getD j []):=by
 unfold wd jw ba;simp only[List.getD_eq_getElem?_getD,eU];cases x.2[j]?<;>rfl
theorem C5{x:It}(hx:rF x){l:Tx.Ln}(hl:l.2.map (·.2)=itW x)(m:Mx):
  fH m (dS (jw l).2)=⟨m.p,m.R++(iR x).toList,m.X++(iX x).toList,m.S++(iS x).toList⟩:=by
 unfold dS;rw[vk,vk,vk,vk,hl];unfold itW iR iX iS fH;rcases(by have:=hx.t;omega:x.t=0∨x.t=1∨x.t=2) with e|e|e
 ·rw[e]
  have h2:ba wR=oV:=rfl;simp[h2]
 ·rw[e]
  have h3:ba wE=CJ:=rfl;simp[h3]
 ·rw[e]
  have h4:ba wP=CL:=rfl;simp[h4]
theorem Gc:∀(its:List It)(L:List Tx.Ln)(m:Mx),(∀x∈its,rF x)→L.map (fun l=>l.2.map (·.2))=its.map itW→
  (L.map (fun l=>dS (jw l).2)).foldl fH m=⟨m.p,m.R++its.filterMap iR,m.X++its.filterMap iX,m.S++its.filterMap iS⟩
 |[],L,m,_,hl=>by
  have:L=[]:=by simpa using hl
  subst this;simp
 |y::its,L,m,hok,hl=>by
  cases L with
  |nil=>simp at hl
  |cons l L=>
   simp only[bH,eG] at hl;rw[bH,lG,C5 (hok y (by simp)) hl.1,Gc its L _ (fun x hx=>hok x (by simp[hx])) hl.2];simp only[eP,List.filterMap_cons]
   congr 2
   ·cases iR y<;>rfl
   ·cases iX y<;>rfl
   ·cases iS y<;>rfl
theorem rG:∀(ls:List Lx)(n:Nat),(nums n ls).map (fun l=>l.2.map (·.2))=ls.map (fun l=>l.ps.map (·.2))
 |[],_=>rfl
 |l::r,n=>by simp only[nums,bH,nH,rG r]
theorem C6:∀(ls:List Lx)(n:Nat),(nums n ls).length=ls.length
 |[],_=>rfl
 |l::r,n=>by simp only[nums,bX,C6 r]
theorem Hr(ls:List Lx)(hls:∀l∈ls,ES l)(s:zA)(hs:s.data.toList=ls.flatMap txt):fV s=(nums 1 ls).foldl (Tx.bw false Pv.aH 20) nY:=by
 unfold fV;rw[Tx.mW,hs,xN ls 1 hls]
end Rn
section
open Go.RowKit
theorem iW(w:zW)(B e s:Nat):w.ownsRow B e s (zN) 0 []:=⟨by simp,Or.inl ⟨rfl,rfl⟩⟩
theorem pz{w W:zW}{v:zV}{L:List Mo}(h:Sm.Rd w v L)(hb:zB w W)(i:Nat)(hi:i<L.length):∃b off c,v=.slice (some ⟨b,off,none⟩) L.length c∧W.cell? ⟨b,off+i*2,none⟩=some (.string L[i]!.1)∧W.cell? ⟨b,off+i*2+1,none⟩=some (.string L[i]!.2):=by
 rcases h.below hb with⟨_,h⟩|⟨b,off,c,h,hc⟩
 ·rw[h] at hi;simp at hi
 ·obtain⟨h1,h2⟩:=Qy L i hi
  exact⟨b,off,c,h,hc _ _ h1,by rw[Nat.add_assoc];exact hc _ _ h2⟩
theorem Kj{w:zW}{v:zV}{L:List Mo}(h:Sm.Rd w v L):∃a c,v=.slice a L.length c:=by
 rcases h with⟨h,h0⟩|⟨b,off,c,h,_⟩
 ·exact⟨none,0,by rw[h,h0];rfl⟩
 ·exact⟨_,_,h⟩
end
namespace Rn
open Tx (wM wR wE wP wA)
open Mf Go.Proofs.YtelmkfkgpnadnaaGreatDoor
section
variable{α:Type}{lt:α→α→Bool}
theorem C8(hS:Go.Sort.SWO lt)(v:α):∀D:List α,D.Pairwise (fun b a=>lt b a=false)→∀a∈D.dropWhile (lt v),lt v a=false
 |[],_,a,h=>by simp at h
 |d::D,hD,a,h=>by
  rw[fB] at hD;rw[List.dropWhile_cons] at h;by_cases e:lt v d=true
  ·rw[ah e] at h
   exact C8 hS v D hD.2 a h
  ·rw[af e] at h
   have e':lt v d=false:=by simpa using e
   rcases aV.1 h with rfl|h
   ·exact e'
   ·exact hS.ntrans v d a e' (hD.1 a h)
theorem Gd(v:α):∀D:List α,∀a∈D.takeWhile (lt v),lt v a=true
 |[],a,h=>by simp at h
 |d::D,a,h=>by
  rw[List.takeWhile_cons] at h;by_cases e:lt v d=true
  ·rw[ah e] at h
   rcases aV.1 h with rfl|h
   ·exact e
   ·exact Gd v D a h
  ·rw[af e] at h;simp at h
abbrev Pw(lt:α→α→Bool)(L:List α):Prop:=L.Pairwise fun a b=>lt b a=false
theorem PN(hS:Go.Sort.SWO lt)(v:α)(L:List α)(h:Pw lt L):Pw lt (Ss.ins lt v L):=by
 have hr:L.reverse.Pairwise (fun b a=>lt b a=false):=List.pairwise_reverse.2 h;have hd:=C8 hS v L.reverse hr;have ht:=Gd (lt:=lt) v L.reverse
 have e:L=(L.reverse.dropWhile (lt v)).reverse++(L.reverse.takeWhile (lt v)).reverse:=by
  rw[←pL,qM,ie]
 unfold Ss.ins;have h2:Pw lt ((L.reverse.dropWhile (lt v)).reverse++(L.reverse.takeWhile (lt v)).reverse):=by rw[←e];exact h
 unfold Pw at h2 ⊢;rw[mJ] at h2;rw[eP,mJ];refine⟨h2.1,?_,?_⟩
 ·rw[ow,fB]
  refine⟨fun y hy=>?_,h2.2.1⟩;have h3:=ht y (gU.1 hy);cases h4:lt y v with
  |false=>rfl
  |true=>have:=hS.trans v y v h3 h4;rw[hS.irrefl] at this;exact absurd this (by decide)
 ·intro a ha b hb
  rcases bJ.1 hb with hb|hb
  ·rw[bQ.1 hb];exact hd a (gU.1 ha)
  ·exact h2.2.2 a ha b hb
theorem Hs(hS:Go.Sort.SWO lt)(L:List α):Pw lt (Ss.aJ lt L):=by
 rw[←L.reverse_reverse]
 induction L.reverse with
 |nil=>exact List.Pairwise.nil
 |cons a r ih=>rw[jO,Ss.dM];exact PN hS _ _ ih
end
theorem QO:Go.Sort.SWO (ltOf fF):=Pv.ni (fun x:Mo=>x) rW
def mR(x:It):Mo:=(ba (pW x.k),ba (vW x.v))
def nI:List (List UInt8)→List (List UInt8×List UInt8)
 |[]=>[]
 |w::r=>([],w)::r.map fun u=>([32],u)
def plain(ws:List (List UInt8)):Lx:=⟨nI ws,[],none,false⟩
theorem vn:∀ws:List (List UInt8),(plain ws).ps.map (·.2)=ws
 |[]=>rfl
 |w::r=>by simp[plain,nI,Function.comp_def]
theorem C9{ws:List (List UInt8)}(hne:ws≠[])(h:∀w∈ws,rE w=true):ES (plain ws):=by
 cases ws with
 |nil=>exact absurd rfl hne
 |cons w r=>
  refine⟨⟨fun p hp=>?_,fun p hp=>?_⟩,by simp[plain,nI],rfl,fun c hc=>by simp[plain] at hc⟩
  ·simp only[plain,nI,aV,bD] at hp
   rcases hp with rfl|⟨u,hu,rfl⟩
   ·exact⟨rfl,h w (by simp)⟩
   ·exact⟨rfl,h u (by simp[hu])⟩
  ·simp only[plain,nI,List.tail_cons,bD] at hp
   obtain⟨u,_,rfl⟩:=hp;simp
theorem Kk:∀k,k<7→rE (pW k)=true:=by decide
theorem QP:∀j,j<4→rE (vW j)=true:=by decide
theorem Nr{x:It}(hx:rF x):∀w∈itW x,rE w=true:=by
 have hp:=Kk x.k hx.k;have hv:=QP x.v hx.v;have hb:=QP x.b hx.b;intro w hw;unfold itW at hw
 split at hw
 ·simp only[aV,di,or_false] at hw
  rcases hw with rfl|rfl|rfl
  ·decide
  ·exact hp
  ·exact hv
 ·split at hw
  ·simp only[aV,di,or_false] at hw
   rcases hw with rfl|rfl|rfl
   ·decide
   ·exact hp
   ·exact hv
  ·simp only[aV,di,or_false] at hw
   rcases hw with rfl|rfl|rfl|rfl|rfl
   ·decide
   ·exact hp
   ·exact hv
   ·decide
   ·exact hb
theorem Ns(x:It):itW x≠[]:=by
 unfold itW;split
 ·simp
 ·split<;>simp
theorem zX{α β γ:Type}{f:α→List γ}{g:β→List γ}{h:α→β}:∀l:List α,(∀x∈l,f x=g (h x))→l.flatMap f=(l.map h).flatMap g
 |[],_=>rfl
 |x::l,hh=>by rw[ig,bH,ig,hh x (by simp),zX l (fun y hy=>hh y (by simp[hy]))]
end Rn
namespace Rn
open Tx (wM wR wE wP wA)
open Mf
theorem lg:∀k,k<7→(pW k).length=2:=by decide
theorem Kl:∀j,j<4→(vW j).length≤11:=by decide
theorem fe{α:Type}{f:α→List UInt8}{m:Nat}:∀l:List α,(∀x∈l,(f x).length≤m)→(l.flatMap f).length≤l.length*m
 |[],_=>by simp
 |x::l,h=>by
  have ih:=fe l (fun y hy=>h y (by simp[hy]));have h0:=h x (by simp);rw[ig,bg,bX,Nat.add_one_mul];omega
def once(l:List It)(x:It):List It:=if l.any (fun y=>y.t==x.t&&y.k==x.k&&y.v==x.v) then l else l++[x]
theorem RU{l:List It}{x:It}(h:(l.map clI).Nodup)(hx:x.t≠0):((once l x).map clI).Nodup:=by
 unfold once
 split
 ·exact h
 ·rename_i hn
  rw[eQ,pN];refine⟨h,by simp,?_⟩;intro a ha b hb e;simp only[bH,fQ,bQ] at hb;subst hb;obtain⟨y,hy,hye⟩:=bD.1 ha;apply hn;rw[List.any_eq_true];refine⟨y,hy,?_⟩;rw[←hye] at e;unfold clI at e;simp only[iH] at e;obtain⟨e1,e2,e3⟩:=e;rw[e1,af hx] at e3;rw[af hx] at e3;simp[e1,e2,e3]
def rH(l:List It)(x:It):List It:=if l.any (fun y=>y.k==x.k) then l else l++[x]
structure eK(l:List It):Prop where
 ok:∀y∈l,rF y
 t:∀y∈l,y.t=0
 nd:(l.map (·.k)).Nodup
theorem Ht{l:List It}(h:eK l){x:It}(hx:rF x)(ht:x.t=0):eK (rH l x):=by
 unfold rH
 split
 ·exact h
 ·rename_i hn
  refine⟨fun y hy=>?_,fun y hy=>?_,?_⟩
  ·rcases bJ.1 hy with hy|hy
   ·exact h.ok y hy
   ·rw[bQ.1 hy];exact hx
  ·rcases bJ.1 hy with hy|hy
   ·exact h.t y hy
   ·rw[bQ.1 hy];exact ht
  ·rw[eQ,pN]
   refine⟨h.nd,by simp,?_⟩;intro a ha b hb e;simp only[bH,fQ,bQ] at hb;subst hb;obtain⟨y,hy,hye⟩:=bD.1 ha;apply hn;rw[List.any_eq_true];exact⟨y,hy,by simp[hye,e]⟩
theorem few:∀(n:Nat)(l:List Nat),l.Nodup→(∀x∈l,x<n)→l.length≤n
 |0,l,_,h=>by
  cases l with
  |nil=>simp
  |cons a r=>exact absurd (h a (by simp)) (by omega)
 |n+1,l,hnd,h=>by
  have h1:=few n (l.erase n) (hnd.erase n) (fun x hx=>by
   have hx2:=(hnd.mem_erase_iff).1 hx;have:=h x hx2.2;have:=hx2.1;omega)
  by_cases hm:n∈l
  ·rw[List.length_erase_of_mem hm] at h1;omega
  ·rw[List.erase_of_not_mem hm] at h1;omega
theorem eK.len{l:List It}(h:eK l):l.length≤7:=by
 have:=few 7 (l.map (·.k)) h.nd (fun x hx=>by obtain⟨y,hy,rfl⟩:=bD.1 hx;exact(h.ok y hy).k);simpa using this
theorem eK.cl{l:List It}(h:eK l):(l.map clI).Nodup:=by
 have h1:=h.nd;unfold List.Nodup at h1 ⊢;rw[jC] at h1 ⊢;refine h1.imp ?_;intro a b hab e;unfold clI at e;simp only[iH] at e;exact hab e.2.1
theorem eK.nR{l:List It}(h:eK l):Rn.nR l=l.length:=by
 unfold Rn.nR;rw[List.countP_eq_length];intro y hy;simp[h.t y hy]
end Rn
namespace Rn
open Tx (wM wR wE wP wA)
open Mf
theorem iK{a b:List UInt8}(h:ba a=ba b):a=b:=by
 have:=bW (fun x:zA=>x.data.toList) h;simpa[ba] using this
end Rn
section
namespace Rn
open Tx (wM wR wE wP wA)
open Mf
def qu(u:List UInt8):List (List UInt8):=[wM,u]
theorem Da{u:List UInt8}(hp:Pv.aH u=true)(l:Tx.Ln)(h:l.2.map (·.2)=qu u):Tx.bw false Pv.aH 20 nY l=⟨[l],[],1,0⟩:=by
 obtain⟨n,l⟩:=l
 match l,h with
 |[(a0,w0),(a1,w1)],h=>
  simp only[qu,bH,fQ,eG,fS] at h;obtain⟨rfl,rfl⟩:=h;have hs:Tx.shape false wM=some [5]:=by decide
  have ho:Tx.own false Pv.aH [(a0,wM),(a1,w1)]=none:=by simp[Tx.own,Tx.hd,hs,Tx.misfit,Tx.fit,hp]
  have hM:wM≠wR:=by decide
  rw[Tx.Cb];unfold Tx.step Tx.slip;have hh:Tx.hd [(a0,wM),(a1,w1)]=(a0,wM):=rfl;simp only[hh,ho];simp[hM]
theorem Hu{u:List UInt8}(l:Tx.Ln)(h:l.2.map (·.2)=qu u)(m:Mx):fH m (dS (jw l).2)=⟨ba u,m.R,m.X,m.S⟩:=by
 unfold dS;rw[vk,vk,vk,vk,h];have h1:ba wM=nB:=rfl;unfold fH qu;simp[h1]
structure Km(u:List UInt8)(f:Lx)(ls:List Lx)(its:List It):Prop where
 hu:Pv.aH u=true
 fok:ES f
 fw:f.ps.map (·.2)=qu u
 lok:∀l∈ls,ES l
 w:ls.map (fun l=>l.ps.map (·.2))=its.map itW
 ok:∀x∈its,rF x
 nd:(its.map clI).Nodup
 q:nR its≤20
theorem Bz{u:List UInt8}{l:List (Nat×List UInt8)}(h:l.map (·.2)=qu u){x:It}(hx:rF x){g:List (Nat×List UInt8)}(hg:g.map (·.2)=itW x):Tx.claim l≠Tx.claim g:=by
 have h1:(Tx.claim l).1=wM:=by
  match l,h with
  |[(a0,w0),(a1,w1)],h=>
   simp only[qu,bH,fQ,eG,fS] at h;obtain⟨rfl,rfl⟩:=h
   rfl
 have h2:(Tx.claim g).1≠wM:=by
  rw[(sN hx hg).2.2.2]
  split
  ·exact(by decide:wR≠wM)
  ·split
   ·exact(by decide:wE≠wM)
   ·exact(by decide:wP≠wM)
 intro e;rw[e] at h1;exact h2 h1
variable{u:List UInt8}{f:Lx}{ls:List Lx}{its:List It}
theorem xP(T:Km u f ls its)(s:zA)(hs:s.data.toList=(f::ls).flatMap txt):fV s=⟨nums 1 (f::ls),[],its.length+1,nR its⟩:=by
 have hw:∀n,(nums n ls).map (fun l=>l.2.map (·.2))=its.map itW:=fun n=>by rw[rG,T.w]
 have hfw:(xK 0 f.ps).map (·.2)=qu u:=by rw[nH,T.fw]
 rw[Hr (f::ls) (fun l hl=>by rcases aV.1 hl with rfl|h;exact T.fok;exact T.lok l h) s hs,nums,lG,Da T.hu _ hfw,xO its _ _ T.ok (hw _) (by simp) T.nd ?_ (by simpa using T.q)]
 ·have hl:∀n,(nums n ls).length=its.length:=fun n=>by have:=bW List.length (hw n);simpa using this
  simp only[ow,hl,Tx.Got.mk.injEq,true_and,dX,fS];omega
 ·intro x hx y hy l hl
  rw[bQ.1 hx];exact Bz hfw (T.ok y hy) hl
theorem Db(T:Km u f ls its)(s:zA)(hs:s.data.toList=(f::ls).flatMap txt)(hz:s.size≤2000):
  br s=[]∧bB s=⟨ba u,its.filterMap iR,its.filterMap iX,its.filterMap iS⟩:=by
 have hg:=xP T s hs
 have h1:br s=[]:=by
  unfold br;rw[ah hz,hg];unfold jD;rw[af (by simp)]
 refine⟨h1,?_⟩;unfold bB;rw[ah h1,hg];have hfw:(xK 0 f.ps).map (·.2)=qu u:=by rw[nH,T.fw]
 unfold dN;simp only[nums,bH,lG];rw[Hu _ hfw,Gc its _ _ T.ok (by rw[rG,T.w])];simp
def Dc(u:List UInt8):List UInt8:=[109,111,100,117,108,101,32]++u++[10]
def xQ(x:It):List UInt8:=[114,101,113,117,105,114,101,32]++pW x.k++[32]++vW x.v++[10]
def fJ(u:List UInt8)(its:List It):List UInt8:=Dc u++its.flatMap xQ
theorem Kn(u:List UInt8):txt (plain (qu u))=Dc u:=by
 simp[txt,row,plain,nI,join,xM,qu,wM,Dc]
theorem Nt{x:It}(h:x.t=0):txt (plain (itW x))=xQ x:=by
 unfold itW;rw[ah h];simp[txt,row,plain,nI,join,xM,wR,xQ]
theorem Ko{x:It}(h:rF x):(xQ x).length≤23:=by
 have h1:=lg x.k h.k;have h2:=Kl x.v h.v;simp only[xQ,bg,bX,jm];omega
theorem sO{u:List UInt8}(hu:u.length≤1000)(h:eK its):(fJ u its).length≤1169:=by
 have h1:=fe (f:=xQ) (m:=23) its (fun x hx=>Ko (h.ok x hx));have h2:=h.len;have h3:its.length*23≤7*23:=eF _ h2;simp only[fJ,Dc,bg,bX,jm];omega
theorem Dd:∀{its:List It},(∀y∈its,y.t=0)→its.filterMap iR=its.map mR∧its.filterMap iX=[]∧its.filterMap iS=[]
 |[],_=>⟨rfl,rfl,rfl⟩
 |x::r,h=>by
  have ih:=Dd (its:=r) (fun y hy=>h y (cK _ hy));have h0:=h x bz;have e1:iR x=some (mR x):=by unfold iR;rw[ah h0];rfl
  have e2:iX x=none:=by unfold iX;rw[af (by omega)]
  have e3:iS x=none:=by unfold iS;rw[af (by omega)]
  simp[e1,e2,e3,ih]
theorem De{u:List UInt8}(hu:Pv.aH u=true)(hw:rE u=true)(h:eK its):Km u (plain (qu u)) (its.map fun x=>plain (itW x)) its∧(ba (fJ u its)).data.toList=(plain (qu u)::its.map fun x=>plain (itW x)).flatMap txt:=by
 refine⟨⟨hu,C9 (by simp[qu]) (fun w hm=>?_),vn _,fun l hl=>?_,?_,h.ok,h.cl,by rw[h.nR];have:=h.len;omega⟩,?_⟩
 ·simp only[qu,aV,di,or_false] at hm
  rcases hm with rfl|rfl
  ·decide
  ·exact hw
 ·obtain⟨x,hx,rfl⟩:=bD.1 hl
  exact C9 (Ns x) (Nr (h.ok x hx))
 ·rw[ij]
  exact kO (fun x _=>vn _)
 ·have e:(its.map fun x=>plain (itW x)).flatMap txt=its.flatMap xQ:=by
   have hh:=zX (f:=xQ) (g:=txt) (h:=fun x=>plain (itW x)) its (fun x hx=>(Nt (h.t x hx)).symm);exact hh.symm
  rw[ig,Kn,e];simp[ba,fJ]
theorem Kr{u:List UInt8}(hu:Pv.aH u=true)(hw:rE u=true)(hl:u.length≤1000)(h:eK its):br (ba (fJ u its))=[]∧bB (ba (fJ u its))=⟨ba u,its.map mR,[],[]⟩:=by
 obtain⟨T,hs⟩:=De hu hw h
 have hz:(ba (fJ u its)).size≤2000:=by
  have:=sO hl h;show(fJ u its).toArray.size≤2000;simp;omega
 have hr:=Db T _ hs hz;have hf:=Dd h.t;rw[hf.1,hf.2.1,hf.2.2] at hr;exact hr
theorem wu{u:List UInt8}(hu:Pv.aH u=true)(hw:rE u=true)(h:eK its):(fV (ba (fJ u its))).good.length≤19:=by
 obtain⟨T,hs⟩:=De hu hw h;rw[xP T _ hs];show(nums 1 (plain (qu u)::its.map fun x=>plain (itW x))).length≤19;rw[C6];have:=h.len;simp;omega
def xR(j:Nat):List UInt8:=[118,101,114,115,105,111,110,32]++vW j++[10]
def my:List UInt8:=(List.range 4).flatMap xR
end Rn
namespace Pn
open Mf Rn
theorem uy{u:List UInt8}{its:List It}(hu:Pv.aH u=true)(hw:rE u=true)(hl:u.length≤1000)(h:eK its):dW (some (ba (fJ u its)))=.man 0 ⟨ba u,reqs (its.map mR),[],[]⟩:=by
 have hr:=Kr hu hw hl h;unfold dW;simp only[hr.1,hr.2,dK]
 rfl
theorem zY:dB (ba my)=[]∧fh (ba my)=(List.range 4).map fun j=>ba (vW j):=⟨by kernel_rfl,by kernel_rfl⟩
theorem Df:dB (ba (xR 0))=[]∧fh (ba (xR 0))=[ba (vW 0)]:=⟨by kernel_rfl,by kernel_rfl⟩
theorem Ks:idxOf (some (ba my))=.idx 0 ((List.range 4).map fun j=>ba (vW j)):=by
 unfold idxOf;simp only[zY.1,zY.2,dK]
theorem Nu:idxOf (some (ba (xR 0)))=.idx 0 [ba (vW 0)]:=by
 unfold idxOf;simp only[Df.1,Df.2,dK]
end Pn
end
namespace Pn
open Mf Rn
def aA(c:Nat):Mo:=if c=28 then (ba [114],e0) else (ba (pW (c/4)),ba (vW (c%4)))
def fP(x:It):Nat:=4*x.k+x.v
theorem lh{x:It}(h:rF x):fP x<28:=by have:=h.k;have:=h.v;unfold fP;omega
theorem xS{x:It}(h:rF x):aA (fP x)=mR x:=by
 have:=lh h;have h1:=h.v;unfold aA;rw[af (by omega)];have e1:fP x/4=x.k:=by unfold fP;omega
 have e2:fP x%4=x.v:=by unfold fP;omega
 rw[e1,e2]
 rfl
theorem gi{a b:Nat}(ha:a≤28)(hb:b≤28):(aA a).1=(aA b).1↔a/4=b/4:=by
 unfold aA;by_cases h1:a=28
 ·rw[ah h1]
  by_cases h2:b=28
  ·rw[ah h2,h1,h2];exact⟨fun _=>rfl,fun _=>rfl⟩
  ·rw[af h2]
   refine⟨fun e=>?_,fun e=>by omega⟩;have:=bW List.length (iK e);rw[lg _ (by omega)] at this;simp at this
 ·rw[af h1]
  by_cases h2:b=28
  ·rw[ah h2]
   refine⟨fun e=>?_,fun e=>by omega⟩;have:=bW List.length (iK e);rw[lg _ (by omega)] at this;simp at this
  ·rw[af h2]
   exact⟨fun e=>vh _ _ (by omega) (by omega) (iK e),fun e=>by rw[e]⟩
theorem BA{a b:Nat}(ha:a≤28)(hb:b≤28)(h:aA a=aA b):a=b:=by
 have hp:=(gi ha hb).1 (bW Prod.fst h);by_cases h1:a=28
 ·omega
 ·by_cases h2:b=28
  ·omega
  ·unfold aA at h
   rw[af h1,af h2] at h;have hv:=Gb _ _ (by omega) (by omega) (iK (bW Prod.snd h));omega
theorem Nv:((List.range 29).all fun a=>(List.range 29).all fun b=>ltOf fF (aA a) (aA b)==decide (a<b))=true:=by kernel_rfl
theorem Kt{a b:Nat}(ha:a≤28)(hb:b≤28):ltOf fF (aA a) (aA b)=decide (a<b):=by
 have h:=gJ.1 Nv a (cH.2 (by omega));have h:=gJ.1 h b (cH.2 (by omega));exact eq_of_beq h
def pA:List Nat→List Nat
 |[]=>[]
 |[m]=>[m]
 |m::m'::r=>if m'/4=m/4 then pA (m'::r) else m::pA (m'::r)
theorem vo:∀sl:List Nat,sl.Pairwise (· < ·)→(∀c,c∈pA sl↔c∈sl∧∀c'∈sl,c'/4=c/4→c'≤c)∧(pA sl).Pairwise (fun a b=>a/4<b/4)
 |[],_=>⟨fun c=>⟨fun h=>absurd h di,fun h=>absurd h.1 di⟩,List.Pairwise.nil⟩
 |[m],_=>⟨fun c=>⟨fun h=>⟨h,fun c' h' _=>by rw[bQ.1 h,bQ.1 h'];exact ag _⟩,fun h=>h.1⟩,List.pairwise_singleton _ _⟩
 |m::m'::r,hp=>by
  have hp1:=fB.1 hp;have ih:=vo (m'::r) hp1.2;have hm:=hp1.1 m' bz
  have hr:∀x∈m'::r,m'≤x:=fun x hx=>by
   rcases aV.1 hx with e|e
   ·omega
   ·exact Nat.le_of_lt ((fB.1 hp1.2).1 x e)
  unfold pA;by_cases hc:m'/4=m/4
  ·rw[ah hc]
   refine⟨fun c=>?_,ih.2⟩;rw[ih.1 c]
   constructor
   ·rintro⟨h1,h2⟩
    refine⟨cK _ h1,fun c' h' e=>?_⟩;rcases aV.1 h' with e'|e'
    ·have:=hr c h1;omega
    ·exact h2 c' e' e
   ·rintro⟨h1,h2⟩
    rcases aV.1 h1 with e'|e'
    ·have:=h2 m' (cK _ bz) (by rw[e'];exact hc)
     omega
    ·exact⟨e',fun c' h' e=>h2 c' (cK _ h') e⟩
  ·rw[af hc]
   refine⟨fun c=>?_,fB.2 ⟨fun x hx=>?_,ih.2⟩⟩
   ·rw[aV,ih.1 c]
    constructor
    ·rintro(h1|⟨h1,h2⟩)
     ·subst h1
      refine⟨bz,fun c' h' e=>?_⟩;rcases aV.1 h' with e'|e'
      ·omega
      ·have:=hr c' e';omega
     ·refine⟨cK _ h1,fun c' h' e=>?_⟩
      rcases aV.1 h' with e'|e'
      ·have:=hr c h1;omega
      ·exact h2 c' e' e
    ·rintro⟨h1,h2⟩
     rcases aV.1 h1 with e'|e'
     ·exact Or.inl e'
     ·exact Or.inr ⟨e',fun c' h' e=>h2 c' (cK _ h') e⟩
   ·have h1:=((ih.1 x).1 hx).1
    have:=hr x h1;omega
theorem zZ:∀sl:List Nat,(∀c∈sl,c≤28)→lasts (sl.map aA)=(pA sl).map aA
 |[],_=>rfl
 |[m],_=>rfl
 |m::m'::r,h=>by
  have ih:=zZ (m'::r) (fun c hc=>h c (cK _ hc));have hp:=gi (h m' (cK _ bz)) (h m bz);simp only[bH] at ih ⊢;unfold lasts pA;by_cases hc:m'/4=m/4
  ·rw[ah hc,ah (hp.2 hc)];exact ih
  ·rw[af hc,af (fun e=>hc (hp.1 e)),bH,ih]
theorem qF(cl:List Nat)(hn:cl.Nodup)(hl:∀c∈cl,c≤28):∃cds:List Nat,highest (cl.map aA)=cds.map aA∧cds.Pairwise (fun a b=>a/4<b/4)∧∀c,c∈cds↔c∈cl∧∀c'∈cl,c'/4=c/4→c'≤c:=by
 let lt':Nat→Nat→Bool:=fun a b=>ltOf fF (aA a) (aA b)
 have hmap:(Ss.aJ lt' cl).map aA=Ss.aJ (ltOf fF) (cl.map aA):=Ss.jV aA _ (fun _ _=>rfl) cl;have wX:(Ss.aJ lt' cl).Perm cl:=Ss.bY cl;have hle:∀c∈Ss.aJ lt' cl,c≤28:=fun c hc=>hl c (wX.mem_iff.1 hc)
 have hpw:=Hs QO (cl.map aA);rw[←hmap] at hpw;have R9:=jC.1 hpw;have hnd:(Ss.aJ lt' cl).Nodup:=wX.nodup_iff.2 hn
 have hlt:(Ss.aJ lt' cl).Pairwise (· < ·):=by
  have h2:=fA.1 R9;have h3:=fA.1 hnd;refine fA.2 (fun i j hi hj hij=>?_);have q1:=h2 i j hi hj hij;have q2:=h3 i j hi hj hij;rw[Kt (hle _ (bL hj)) (hle _ (bL hi))] at q1;have q1:=oD q1;omega
 have sp:=vo _ hlt;refine⟨pA (Ss.aJ lt' cl),?_,sp.2,fun c=>?_⟩
 ·unfold highest
  rw[←hmap];exact zZ _ hle
 ·rw[sp.1 c,wX.mem_iff]
  constructor
  ·rintro⟨h1,h2⟩;exact⟨h1,fun c' h' e=>h2 c' (wX.mem_iff.2 h') e⟩
  ·rintro⟨h1,h2⟩;exact⟨h1,fun c' h' e=>h2 c' (wX.mem_iff.1 h') e⟩
inductive Rc(wc:Nat→List Nat):Nat→Prop where
 |root:Rc wc 28
 |step {c x:Nat}:Rc wc c→x∈wc c→Rc wc x
theorem Rc.le{wc:Nat→List Nat}(h:∀c x,x∈wc c→x≤28){c:Nat}:Rc wc c→c≤28
 | .root=>ag _
 | .step _ hx=>h _ _ hx
theorem ET{cl:List Nat}(hn:cl.Nodup)(hl:∀c∈cl,c≤28):cl.length≤29:=few 29 cl hn (fun x hx=>by have:=hl x hx;omega)
theorem uz:∀(W cl:List Nat),cl.Nodup→(∀c∈cl,c≤28)→(∀c∈W,c≤28)→∃t:List Nat,cz (cl.map aA) (W.map aA)=some ((cl++t).map aA)∧(cl++t).Nodup∧(∀x,x∈cl++t↔x∈cl∨x∈W)∧∀c∈cl++t,c≤28
 |[],cl,hn,hl,_=>⟨[],by simp[cz],by simpa using hn,fun x=>by simp,by simpa using hl⟩
 |m::r,cl,hn,hl,hW=>by
  have hm:=hW m bz;have hr:=fun c hc=>hW c (cK _ hc)
  rw[bH];unfold cz;by_cases hin:m∈cl
  ·rw[ah (bD.2 ⟨m,hin,rfl⟩)]
   obtain⟨t,h1,h2,h3,h4⟩:=uz r cl hn hl hr;refine⟨t,h1,h2,fun x=>?_,h4⟩;rw[h3 x,aV]
   constructor
   ·rintro(h|h)
    ·exact Or.inl h
    ·exact Or.inr (Or.inr h)
   ·rintro(h|h|h)
    ·exact Or.inl h
    ·rw[h];exact Or.inl hin
    ·exact Or.inr h
  ·have hno:aA m∉cl.map aA:=fun e=>by
    obtain⟨c,hc,e⟩:=bD.1 e;have:=BA (hl c hc) hm e;rw[this] at hc;exact hin hc
   have hlen:=ET hn hl;rw[af hno,af (by rw[bE];omega)];have hn2:(cl++[m]).Nodup:=pN.2 ⟨hn,by simp,fun a ha b hb e=>by rw[bQ.1 hb] at e;rw[e] at ha;exact hin ha⟩
   have hl2:∀c∈cl++[m],c≤28:=fun c hc=>by
    rcases bJ.1 hc with h|h
    ·exact hl c h
    ·rw[bQ.1 h];exact hm
   obtain⟨t,h1,h2,h3,h4⟩:=uz r (cl++[m]) hn2 hl2 hr;rw[eQ] at h1;refine⟨m::t,?_,by simpa using h2,fun x=>?_,by simpa using h4⟩
   ·rw[show cl++m::t=cl++[m]++t by simp]
    exact h1
   ·rw[show cl++m::t=cl++[m]++t by simp,h3 x,aV,bJ,bQ]
    constructor
    ·rintro((h|h)|h)
     ·exact Or.inl h
     ·exact Or.inr (Or.inl h)
     ·exact Or.inr (Or.inr h)
    ·rintro(h|h|h)
     ·exact Or.inl (Or.inl h)
     ·exact Or.inl (Or.inr h)
     ·exact Or.inr h
theorem rI{s:Shf}{o:Qn→Fi}{wc:Nat→List Nat}(root:zA)(hle:∀c x,x∈wc c→x≤28)
  (ho:∀c,Rc wc c→∃W:List Nat,o ⟨2,(aA c).1,(aA c).2⟩=.wants (W.map aA) []∧∀x,x∈W↔x∈wc c):
  ∀(n:Nat)(cl:List Nat)(i:Nat)(ps:List Pb),n+i=61→cl.Nodup→(∀c∈cl,Rc wc c)→28∈cl→(∀j,j<i→∀c,cl[j]?=some c→∀x∈wc c,x∈cl)→
   ∃cl':List Nat,(cJ root n (cl.map aA) i ps).run s o=.list (highest (cl'.map aA)) ps∧cl'.Nodup∧∀x,x∈cl'↔Rc wc x
 |0,cl,i,ps,hi,hn,hR,h28,hcl=>by
  have hl:=ET hn (fun c hc=>(hR c hc).le hle);refine⟨cl,rfl,hn,fun x=>⟨hR x,fun h=>?_⟩⟩
  induction h with
  |root=>exact h28
  |step hc hx ih=>
   obtain⟨j,hj,e⟩:=List.mem_iff_getElem.1 ih;exact hcl j (by omega) _ (by rw[aO hj,e]) _ hx
 |n+1,cl,i,ps,hi,hn,hR,h28,hcl=>by
  unfold cJ;rw[eU];cases hc:cl[i]? with
  |none=>
   have hil:cl.length≤i:=wG.1 hc;refine⟨cl,rfl,hn,fun x=>⟨hR x,fun h=>?_⟩⟩
   induction h with
   |root=>exact h28
   |step hc hx ih=>
    obtain⟨j,hj,e⟩:=List.mem_iff_getElem.1 ih;exact hcl j (by omega) _ (by rw[aO hj,e]) _ hx
  |some c=>
   have hcm:c∈cl:=jN hc;obtain⟨W,hw,hx⟩:=ho c (hR c hcm);obtain⟨t,h1,h2,h3,h4⟩:=uz W cl hn (fun c hc=>(hR c hc).le hle) (fun x hx2=>hle c x ((hx x).1 hx2));simp only[Option.map_some,Cm.run];rw[hw];simp only[cF,gV];rw[h1];simp only;refine rI root hle ho n (cl++t) (i+1) ps (by omega) h2 (fun x hx2=>?_) (gI _ h28) (fun j hj d hd x hx2=>?_)
   ·rcases(h3 x).1 hx2 with h|h
    ·exact hR x h
    ·exact .step (hR c hcm) ((hx x).1 h)
   ·rw[h3 x]
    have hil:=(cq.1 hc).1;rw[qO (by omega)] at hd;by_cases hji:j=i
    ·rw[hji,hc] at hd
     injection hd with hd;rw[hd] at hx;exact Or.inr ((hx x).2 hx2)
    ·exact Or.inl (hcl j (by omega) d hd x hx2)
theorem Aa{ver:zA}:∀{L:List zA},ver∈L→∃t,gL ver L=some (ver::t)
 |v::r,h=>by
  unfold gL;by_cases e:v=ver
  ·rw[ah e,e];exact⟨r,rfl⟩
  ·rw[af e]
   exact Aa ((aV.1 h).resolve_left (fun k=>e k.symm))
theorem Ab{p v:zA}{L:List zA}(h:v∈L):choose (p,v) (0,L) []=.inl (p,v):=by
 obtain⟨t,e⟩:=Aa h;unfold choose;simp only[ne_eq,not_true_eq_false,fC];rw[e];simp only;unfold cV;rw[af (by simp)]
theorem uA{s:Shf}{o:Qn→Fi}(root:zA)(X:List Mo):∀(L ms:List Mo)(ps:List Pb),(∀r∈L,r.1≠root∧choose r (pd (o ⟨1,r.1,e0⟩)) X=.inl r)→(bj root X L ms ps).run s o=.wants (ms++L) ps
 |[],ms,ps,_=>by rw[gV];rfl
 |r::rest,ms,ps,h=>by
  have h0:=h r bz;unfold bj;rw[af h0.1];simp only[Cm.run];rw[h0.2];simp only;rw[uA root X rest (ms++[r]) ps (fun x hx=>h x (cK _ hx))];simp
structure Whl(s:Shf)(top:List It)(R:Nat→Nat→List It):Prop where
 root:s ax=some (ba [114])
 BD:s (0,ba [114],e0)=some (ba (fJ [114] top))
 idx:∀p,p<7→s (1,ba (pW p),e0)=some (ba my)
 man:∀p,p<7→∀v,v<4→s (0,ba (pW p),ba (vW v))=some (ba (fJ (pW p) (R p v)))
 tok:eK top
 rok:∀p v,eK (R p v)
def eL(top:List It)(R:Nat→Nat→List It)(c:Nat):List It:=if c=28 then top else R (c/4) (c%4)
def eh(top:List It)(R:Nat→Nat→List It)(c:Nat):List Nat:=(eL top R c).map fP
variable{s:Shf}{top:List It}{R:Nat→Nat→List It}
theorem EU(h:Whl s top R)(c:Nat):eK (eL top R c):=by
 unfold eL
 split
 ·exact h.tok
 ·exact h.rok _ _
theorem uB:Pv.aH [114]=true:=by decide
theorem Hv:rE [114]=true:=by decide
theorem PO(h:Whl s top R){c:Nat}(hc:c≤28):dW (s (0,(aA c).1,(aA c).2))=.man 0 ⟨(aA c).1,reqs ((eL top R c).map mR),[],[]⟩:=by
 unfold aA eL;by_cases e:c=28
 ·simp only[ah e]
  rw[h.BD];exact uy uB Hv (by simp) h.tok
 ·simp only[af e]
  rw[h.man _ (by omega) _ (by omega)];exact uy (jf _ (by omega)) (Kk _ (by omega)) (by rw[lg _ (by omega)];omega) (h.rok _ _)
theorem EV(h:Whl s top R):bO (ba [114]) (dW (s (0,ba [114],e0))).ess=⟨ba [114],reqs (top.map mR),[],[]⟩:=by
 rw[h.BD,uy uB Hv (by simp) h.tok];unfold bO dn Fi.ess iF;simp
theorem Ku(h:Whl s top R){c:Nat}(hc:c≤28):val s ⟨2,(aA c).1,(aA c).2⟩=.wants (reqs ((eL top R c).map mR)) []:=by
 rw[lN s (ag 2)];unfold v1;rw[ah rfl];unfold gD;simp only[Cm.run];rw[h.root];have er:rootOf (some (ba [114]))=ba [114]:=rfl;rw[er];have e1:orc (v0 s) ⟨0,ba [114],e0⟩=(dW (s (0,ba [114],e0))).ess:=rfl;rw[e1,EV h];simp only[replaced]
 have e2:orc (v0 s) ⟨0,(aA c).1,(aA c).2⟩=.man 0 ⟨(aA c).1,reqs ((eL top R c).map mR),[],[]⟩:=by
  show(dW (s (0,(aA c).1,(aA c).2))).ess=_;rw[PO h hc]
  rfl
 have e3:dn (iF (orc (v0 s) ⟨0,(aA c).1,(aA c).2⟩)) (aA c).1=0:=by
  rw[e2];unfold dn iF;simp
 refine(bW (Cm.run s (orc (v0 s))) (af (fun k=>k e3))).trans ?_;have e5:(iF (orc (v0 s) ⟨0,(aA c).1,(aA c).2⟩)).2.R=reqs ((eL top R c).map mR):=by rw[e2];rfl
 rw[e5,uA]
 ·rfl
 ·intro r hr
  have hr:r∈reqs ((eL top R c).map mR):=hr;have hr2:r∈(eL top R c).map mR:=(Ss.bY _).mem_iff.1 hr;obtain⟨x,hx,rfl⟩:=bD.1 hr2;have hk:=(EU h c).ok x hx;refine⟨fun e=>?_,?_⟩
  ·have:=bW List.length (iK e)
   rw[lg _ hk.k] at this;simp at this
  ·have e4:orc (v0 s) ⟨1,(mR x).1,e0⟩=(idxOf (s (1,ba (pW x.k),e0))).ess:=rfl
   rw[e4,h.idx _ hk.k,Ks];exact Ab (bD.2 ⟨x.v,cH.2 hk.v,rfl⟩)
theorem xT(h:Whl s top R)(c x:Nat)(hx:x∈eh top R c):x≤28:=by
 obtain⟨y,hy,rfl⟩:=bD.1 hx;exact Nat.le_of_lt (lh ((EU h c).ok y hy))
theorem vp(h:Whl s top R){c:Nat}(hc:c≤28):∃W:List Nat,val s ⟨2,(aA c).1,(aA c).2⟩=.wants (W.map aA) []∧∀x,x∈W↔x∈eh top R c:=by
 have hp:(Ss.aJ (fun x y=>ltOf Sm.yP (mR x) (mR y)) (eL top R c)).Perm (eL top R c):=Ss.bY _;refine⟨(Ss.aJ (fun x y=>ltOf Sm.yP (mR x) (mR y)) (eL top R c)).map fP,?_,fun x=>?_⟩
 ·rw[Ku h hc,ij]
  have e:reqs ((eL top R c).map mR)=(Ss.aJ (fun x y=>ltOf Sm.yP (mR x) (mR y)) (eL top R c)).map mR:=(Ss.jV mR _ (fun _ _=>rfl) _).symm;rw[e];refine bW (fun l=>Fi.wants l []) (kO (fun x hx=>?_));exact(xS ((EU h c).ok x (hp.mem_iff.1 hx))).symm
 ·exact(hp.map fP).mem_iff
theorem EW(h:Whl s top R):∃cds:List Nat,val s ⟨3,e0,e0⟩=.list (cds.map aA) []∧cds.Pairwise (fun a b=>a/4<b/4)∧∀c,c∈cds↔Rc (eh top R) c∧∀c',Rc (eh top R) c'→c'/4=c/4→c'≤c:=by
 have hv:val s ⟨3,e0,e0⟩=gX.run s (orc (v1 s)):=by
  rw[rA s (ag 3)];unfold v2;rw[ah rfl]
 have ho:∀c,c≤28→∃W:List Nat,orc (v1 s) ⟨2,(aA c).1,(aA c).2⟩=.wants (W.map aA) []∧∀x,x∈W↔x∈eh top R c:=fun c hc=>by
  obtain⟨W,h1,h2⟩:=vp h hc;refine⟨W,?_,h2⟩;unfold orc;rw[←lN s (ag 2),h1]
  rfl
 obtain⟨cl,h1,h2,h3⟩:=rI (s:=s) (ba [114]) (xT h) (fun c hc=>ho c (hc.le (xT h))) 61 [28] 0 [] rfl (by simp) (fun c hc=>by rw[bQ.1 hc];exact .root) (by simp) (fun j hj=>absurd hj (dz _));obtain⟨cds,g1,g2,g3⟩:=qF cl h2 (fun c hc=>((h3 c).1 hc).le (xT h));refine⟨cds,?_,g2,fun c=>?_⟩
 ·rw[hv]
  unfold gX;simp only[Cm.run];rw[h.root];have er:rootOf (some (ba [114]))=ba [114]:=rfl;rw[er];have e0':¬(ba [114]).size=0:=by decide
  rw[af e0'];rw[g1] at h1;exact h1
 ·rw[g3 c,h3 c]
  constructor
  ·rintro⟨q1,q2⟩;exact⟨q1,fun c' h' e=>q2 c' ((h3 c').2 h') e⟩
  ·rintro⟨q1,q2⟩;exact⟨q1,fun c' h' e=>q2 c' ((h3 c').1 h') e⟩
