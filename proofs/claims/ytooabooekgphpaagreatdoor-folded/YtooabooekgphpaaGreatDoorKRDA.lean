import Derived.Test.YtooabooekgphpaaGreatDoorKQG
import Derived.Laws.CopyOwn
set_option linter.all false
namespace Go.Proofs.YtooabooekgphpaaGreatDoor
namespace Rn
open Tx (nb toks rA words spoken)
def uf(w:List UInt8):Bool:=!w.isEmpty&&w.all (fun c=>nb c&&c !=35&&c !=10)
def blanks(b:List UInt8):Bool:=b.all fun c=>c==32||c==9
def join:List (List UInt8×List UInt8)->List UInt8
 |[]=>[]
 |(b,w)::r=>b++(w++join r)
def xF(i:Nat):List (List UInt8×List UInt8)->List (Nat×List UInt8)
 |[]=>[]
 |(b,w)::r=>(i+b.length,w)::xF (i+b.length+w.length) r
theorem mW:∀(ps:List (List UInt8×List UInt8))(i:Nat),(xF i ps).map (·.2)=ps.map (·.2)
 |[],_=>rfl
 |(b,w)::r,i=>by simp only[xF,bD,mW r]
theorem xG{c:UInt8}(h:(c==32||c==9)=true):nb c=false:=by
 unfold nb;rw[h];rfl
theorem ug:∀(b x:List UInt8)(i:Nat),blanks b=true->toks i none (b++x)=toks (i+b.length) none x
 |[],x,i,_=>rfl
 |c::b,x,i,h=>by
  simp only[blanks,jB,ed] at h;rw[jA,toks,ag (by rw[xG h.1];decide),ug b x (i+1) h.2];simp only[bN];rw[show i+1+b.length=i+(b.length+1) by omega]
theorem CZ:∀(w y:List UInt8),(∀c∈w,nb c=true)->(∀c u,y=c::u->nb c=false)->(w++y).takeWhile nb=w/\(w++y).dropWhile nb=y
 |[],y,_,hy=>by
  cases y with
  |nil=>exact⟨rfl,rfl⟩
  |cons c u=>have h:=hy c u rfl;simp[h]
 |c::w,y,h,hy=>by
  have E:=h c (by simp);have D:=CZ w y (fun d hd=>h d (by simp[hd])) hy;simp only[jA,List.takeWhile_cons,List.dropWhile_cons,E,dD,D.1,D.2];exact⟨trivial,trivial⟩
theorem Ks(w y:List UInt8)(i:Nat)(E:uf w=true)(hy:∀c u,y=c::u->nb c=false):toks i none (w++y)=(i,w)::toks (i+w.length) none y:=by
 cases w with
 |nil=>simp[uf] at E
 |cons c w=>
  have D:∀d∈c::w,nb d=true:=fun d hd=>by
   simp only[uf,ed,il] at E;exact(E.2 d hd).1.1
  have G:=D c (by simp);have F:=CZ w y (fun d hd=>D d (by simp[hd])) hy;rw[jA,toks,aj G,rA,F.1,F.2];simp only[jX,bN];rw[show i+1+w.length=i+(w.length+1) by omega]
theorem C0:∀(t:List UInt8)(i:Nat),blanks t=true->toks i none t=[]
 |t,i,h=>by
  have:=ug t [] i h;rw[im] at this;rw[this];rfl
def PT(ps:List (List UInt8×List UInt8)):Prop:=(∀p∈ps,blanks p.1=true/\uf p.2=true)/\∀p∈ps.tail,p.1≠[]
theorem uQ:∀(ps:List (List UInt8×List UInt8))(D:List UInt8)(i:Nat),PT ps->blanks D=true->toks i none (join ps++D)=xF i ps
 |[],D,i,_,F=>C0 D i F
 |(b,w)::r,D,i,h,F=>by
  have O:=h.1 (b,w) (by simp);have T:PT r:=⟨fun p M=>h.1 p (by simp[M]),fun p M=>h.2 p (by simpa using List.mem_of_mem_tail M)⟩
  have hy:∀c u,join r++D=c::u->nb c=false:=by
   intro c u e;cases r with
   |nil=>
    cases D with
    |nil=>simp[join] at e
    |cons d t=>
     simp only[join,nQ,eH] at e;simp only[blanks,jB,ed] at F;rw[<-e.1];exact xG F.1
   |cons q r=>
    obtain⟨G,S⟩:=q;have I:=h.2 (G,S) (by simp);have E:=(h.1 (G,S) (by simp)).1;cases G with
    |nil=>exact absurd rfl I
    |cons d t=>
     simp only[join,jA,eH] at e;simp only[blanks,jB,ed] at E;rw[<-e.1];exact xG E.1
  rw[join,dZ,ug b _ i O.1,dZ,Ks w _ _ O.2 hy,uQ r D _ T F,xF]
structure Lx where
 ps:List (List UInt8×List UInt8)
 tr:List UInt8
 cm:Option (List UInt8)
 ex:Bool
def xH(D:Option (List UInt8)):List UInt8:=match D with|none=>[]|some c=>35::c
def row(l:Lx):List UInt8:=join l.ps++l.tr++xH l.cm
def txt(l:Lx):List UInt8:=row l++10::(if l.ex then [10,32,10,35,120,10] else [])
structure E7(l:Lx):Prop where
 ps:PT l.ps
 ne:l.ps≠[]
 tr:blanks l.tr=true
 cm:∀c,l.cm=some c->(10:UInt8)∉c
theorem Bn{c:UInt8}(E:c=35\/c=10):∀ps,(∀p∈ps,blanks p.1=true/\uf p.2=true)->c∉join ps
 |[],_=>by simp[join]
 |(b,w)::r,h=>by
  have F:=h (b,w) (by simp);have I:=Bn E r (fun p G=>h p (by simp[G]));simp only[join,bH,not_or];refine⟨fun hm=>?_,fun hm=>?_,I⟩
  ·have:=F.1
   simp only[blanks,il] at this;have D:=this c hm;rcases E with rfl|rfl<;>simp at D
  ·have:=F.2
   simp only[uf,ed,il] at this;have D:=this.2 c hm;rcases E with rfl|rfl
   ·simp at D
   ·simp at D
theorem zT{c:UInt8}(E:c=35\/c=10){t:List UInt8}(h:blanks t=true):c∉t:=fun hm=>by
 simp only[blanks,il] at h;have D:=h c hm;rcases E with rfl|rfl<;>simp at D
theorem Ic{l:Lx}(h:E7 l):words (row l)=xF 0 l.ps:=by
 have D:(35:UInt8)∉join l.ps++l.tr:=by
  simp only[bH,not_or];exact⟨Bn (Or.inl rfl) _ h.ps.1,zT (Or.inl rfl) h.tr⟩
 have e:(Pv.eW 35 (row l)).1=join l.ps++l.tr:=by
  unfold row xH;cases l.cm with
  |none=>simp only[im];rw[Pv.sZ 35 _ D]
  |some c=>simp only;rw[Pv.vU 35 _ c D]
 unfold words;rw[e];exact uQ l.ps l.tr 0 h.ps h.tr
theorem Kt{l:Lx}(h:E7 l):(10:UInt8)∉row l:=by
 unfold row xH;simp only[bH,not_or];refine⟨⟨Bn (Or.inr rfl) _ h.ps.1,zT (Or.inr rfl) h.tr⟩,?_⟩;cases hc:l.cm with
 |none=>simp
 |some c=>
  simp only[aP,not_or];exact⟨by decide,h.cm c hc⟩
theorem Ns{ps:List (List UInt8×List UInt8)}(h:ps≠[])(i:Nat):xF i ps≠[]:=by
 cases ps with
 |nil=>exact absurd rfl h
 |cons p r=>obtain⟨b,w⟩:=p;simp[xF]
def nums(n:Nat):List Lx->List Tx.Ln
 |[]=>[]
 |l::r=>(n,xF 0 l.ps)::nums (n+if l.ex then 4 else 1) r
theorem jM(n:Nat)(a:List UInt8)(D:List (List UInt8))(h:words a=[]):spoken n (a::D)=spoken (n+1) D:=by rw[spoken,aj h]
theorem xI:∀(E:List Lx)(n:Nat),(∀l∈E,E7 l)->spoken n (Pv.spl 10 (E.flatMap txt))=nums n E
 |[],n,_=>by
  show spoken n [[]]=[];rw[jM n [] [] rfl];rfl
 |l::r,n,h=>by
  have D:=h l (by simp);have F:=fun m=>xI r m (fun x G=>h x (by simp[G]))
  rw[jv,txt,dZ,jA,Pv.mB 10 _ _ (Kt D),spoken,Ic D,ag (Ns D.ne 0),nums]
  congr 1
  cases l.ex with
  |false=>simp only[jw,fH,nQ];exact F (n+1)
  |true=>
   simp only[dD];have e:([10,32,10,35,120,10]:List UInt8)++r.flatMap txt=[]++10::([32]++10::([35,120]++10::r.flatMap txt)):=rfl;rw[e,Pv.mB 10 [] _ (by simp),Pv.mB 10 [32] _ (by decide),Pv.mB 10 [35,120] _ (by decide),jM _ _ _ rfl,jM _ _ _ rfl,jM _ _ _ rfl];exact F (n+4)
end Rn
namespace Rn
open Tx (wM wR wE wP wA)
def pW(k:Nat):List UInt8:=[109,UInt8.ofNat (48+k)]
def vW(j:Nat):List UInt8:=if j=0 then [118,49,46,48,46,48] else if j=1 then [118,49,46,50,46,48,45,114,99,46,49] else if j=2 then [118,49,46,50,46,48] else [118,49,46,49,48,46,48]
structure It where
 t:Nat
 k:Nat
 v:Nat
 b:Nat
deriving DecidableEq
structure uh(x:It):Prop where
 t:x.t<3
 k:x.k<7
 v:x.v<4
 b:x.b<4
def itW(x:It):List (List UInt8):=if x.t=0 then [wR,pW x.k,vW x.v] else if x.t=1 then [wE,pW x.k,vW x.v] else [wP,pW x.k,vW x.v,wA,vW x.b]
theorem jo:∀k,k<7->Pv.aH (pW k)=true:=by decide
theorem Bo:∀j,j<4->(Pv.parse (vW j)).isSome=true:=by decide
theorem PU:∀a,a<7->∀b,b<7->pW a=pW b->a=b:=by decide
theorem C2(a b:Nat)(D:a<7)(E:b<7)(h:pW a=pW b):a=b:=PU a D b E h
theorem PV:∀a,a<4->∀b,b<4->vW a=vW b->a=b:=by decide
theorem Ku(a b:Nat)(D:a<4)(E:b<4)(h:vW a=vW b):a=b:=PV a D b E h
def clI(x:It):Nat×Nat×Nat:=(x.t,x.k,if x.t=0 then 0 else x.v)
theorem sr{x:It}(I:uh x){l:List (Nat×List UInt8)}(D:l.map (·.2)=itW x):Tx.own false Pv.aH l=none/\(Tx.hd l).2≠wM/\((Tx.hd l).2=wR↔x.t=0)/\Tx.claim l=(if x.t=0 then (wR,pW x.k,[]) else if x.t=1 then (wE,pW x.k,vW x.v) else (wP,pW x.k,vW x.v)):=by
 have O:=jo x.k I.k;have S:=Bo x.v I.v;have hb:=Bo x.b I.b;rcases(by have:=I.t;omega:x.t=0\/x.t=1\/x.t=2) with e|e|e
 ·unfold itW at D
  rw[aj e] at D
  match l,D with
  |[(T,W),(U,Y),(V,w2)],D=>
   simp only[bD,fY,eH,fe] at D;obtain⟨rfl,rfl,rfl⟩:=D;have G:Tx.shape false wR=some [5,6]:=by decide
   refine⟨?_,(by decide:wR≠wM),⟨fun _=>e,fun _=>rfl⟩,?_⟩
   ·simp[Tx.own,Tx.hd,G,Tx.misfit,Tx.fit,O,S]
   ·rw[aj e]
    have E:wR≠Tx.wV:=by decide
    simp[Tx.claim,Tx.hd,Tx.nth,E]
 ·unfold itW at D
  rw[ag (by omega),aj e] at D
  match l,D with
  |[(T,W),(U,Y),(V,w2)],D=>
   simp only[bD,fY,eH,fe] at D;obtain⟨rfl,rfl,rfl⟩:=D;have G:Tx.shape false wE=some [5,6]:=by decide
   have F:wE≠wR:=by decide
   refine⟨?_,(by decide:wE≠wM),⟨fun h=>absurd h F,fun h=>by omega⟩,?_⟩
   ·simp[Tx.own,Tx.hd,G,Tx.misfit,Tx.fit,O,S]
   ·rw[ag (by omega),aj e]
    have E:wE≠Tx.wV:=by decide
    have M:wE≠wM:=by decide
    simp[Tx.claim,Tx.hd,Tx.nth,E,F,M]
 ·unfold itW at D
  rw[ag (by omega),ag (by omega)] at D
  match l,D with
  |[(T,W),(U,Y),(V,w2),(a3,w3),(a4,w4)],D=>
   simp only[bD,fY,eH,fe] at D;obtain⟨rfl,rfl,rfl,rfl,rfl⟩:=D;have G:Tx.shape false wP=some [5,6,7,6]:=by decide
   have F:wP≠wR:=by decide
   refine⟨?_,(by decide:wP≠wM),⟨fun h=>absurd h F,fun h=>by omega⟩,?_⟩
   ·simp[Tx.own,Tx.hd,G,Tx.misfit,Tx.fit,O,S,hb]
   ·rw[ag (by omega),ag (by omega)]
    have E:wP≠Tx.wV:=by decide
    have M:wP≠wM:=by decide
    simp[Tx.claim,Tx.hd,Tx.nth,E,F,M]
theorem PW{x y:It}(D:uh x)(hy:uh y){l g:List (Nat×List UInt8)}(F:l.map (·.2)=itW x)(E:g.map (·.2)=itW y)(h:Tx.claim g=Tx.claim l):clI y=clI x:=by
 rw[(sr D F).2.2.2,(sr hy E).2.2.2] at h;have G:=D.t;have I:=hy.t;unfold clI;rcases(by omega:x.t=0\/x.t=1\/x.t=2) with e|e|e<;>rcases(by omega:y.t=0\/y.t=1\/y.t=2) with f|f|f<;>rw[e,f] at h ⊢<;>simp[iP] at h ⊢
 ·exact C2 _ _ hy.k D.k h
 ·exact absurd h.1 (by decide)
 ·exact absurd h.1 (by decide)
 ·exact absurd h.1 (by decide)
 ·exact⟨C2 _ _ hy.k D.k h.1,Ku _ _ hy.v D.v h.2⟩
 ·exact absurd h.1 (by decide)
 ·exact absurd h.1 (by decide)
 ·exact absurd h.1 (by decide)
 ·exact⟨C2 _ _ hy.k D.k h.1,Ku _ _ hy.v D.v h.2⟩
def nR(l:List It):Nat:=l.countP (fun x=>x.t==0)
theorem xJ:∀(its:List It)(D:List Tx.Ln)(g:Tx.Got),(∀x∈its,uh x)->D.map (fun l=>l.2.map (·.2))=its.map itW->0<g.spoken->(its.map clI).Nodup->(∀x∈g.good,∀y∈its,∀l:List (Nat×List UInt8),l.map (·.2)=itW y->Tx.claim x.2≠Tx.claim l)->g.requires+nR its<=20->
  D.foldl (Tx.bz false Pv.aH 20) g=⟨g.good++D,g.au,g.spoken+D.length,g.requires+nR its⟩
 |[],D,g,_,E,_,_,_,_=>by
  have:D=[]:=by simpa using E
  subst this;simp[nR]
 |y::its,D,g,G,E,hg,M,O,Y=>by
  cases D with
  |nil=>simp at E
  |cons l D=>
   simp only[bD,eH] at E;have hy:=G y (by simp);have S:=sr hy E.1
   have Sc:(g.good.any fun x=>decide (Tx.claim x.2=Tx.claim l.2))=false:=by
    rw[List.any_eq_false];intro x T h;exact O x T y (by simp) l.2 E.1 (gJ h)
   have F:nR (y::its)=nR its+if y.t=0 then 1 else 0:=by
    unfold nR;rw[List.countP_cons];by_cases e:y.t=0<;>simp[e]
   have QW:¬((Tx.hd l.2).2=wR/\(g.requires==20)=true):=by
    rintro⟨U,V⟩;have h3:=S.2.2.1.1 U;rw[F,aj h3] at Y;simp at V;omega
   have QY:¬(false=false/\((Tx.hd l.2).2==wM)≠(g.spoken==0)):=by
    have U:((Tx.hd l.2).2==wM)=false:=by simpa using S.2.1
    have V:(g.spoken==0)=false:=by simp;omega
    rw[U,V];simp
   have I:Tx.bz false Pv.aH 20 g l=⟨g.good++[l],g.au,g.spoken+1,g.requires+if y.t=0 then 1 else 0⟩:=by
    rw[Tx.BS];unfold Tx.step Tx.slip;rw[Sc,ag QY,S.1];simp only[jw,fH,ag QW];by_cases e:y.t=0
    ·rw[aj (S.2.2.1.2 e),aj e]
    ·rw[ag (fun h=>e (S.2.2.1.1 h)),ag e];rfl
   rw[jY,I,xJ its D _ (fun x T=>G x (by simp[T])) E.2 (by simp) (List.nodup_cons.1 M).2 ?_ ?_]
   ·simp only[dZ,jX,bN,Tx.Got.mk.injEq,true_and]
    rw[F];omega
   ·intro x T z W m hm
    rcases bH.1 T with h|h
    ·exact O x h z (by simp[W]) m hm
    ·rw[cq.1 h]
     intro e;have:=PW (G z (by simp[W])) hy hm E.1 e;exact(List.nodup_cons.1 M).1 (by rw[this];exact List.mem_map_of_mem W)
   ·show g.requires+(if y.t=0 then 1 else 0)+nR its<=20
    rw[F] at Y;omega
end Rn
namespace Rn
open Tx (wM wR wE wP wA)
open Mf
def ba(l:List UInt8):zA:=⟨l.toArray⟩
def iR(x:It):Option Mo:=if x.t=0 then some (ba (pW x.k),ba (vW x.v)) else none
def iX(x:It):Option Mo:=if x.t=1 then some (ba (pW x.k),ba (vW x.v)) else none
def iS(x:It):Option So:=if x.t=2 then some (ba (pW x.k),ba (vW x.v),ba (vW x.b)) else none
theorem uR(x:Tx.Ln)(j:Nat):wd (jE x).2 j=ba ((x.2.map (·.2)).getD j []):=by
 unfold wd jE ba;simp only[List.getD_eq_getElem?_getD,li];cases x.2[j]?<;>rfl
theorem C3{x:It}(I:uh x){l:Tx.Ln}(G:l.2.map (·.2)=itW x)(m:Mx):
  fN m (dU (jE l).2)=⟨m.p,m.R++(iR x).toList,m.X++(iX x).toList,m.S++(iS x).toList⟩:=by
 unfold dU;rw[uR,uR,uR,uR,G];unfold itW iR iX iS fN;rcases(by have:=I.t;omega:x.t=0\/x.t=1\/x.t=2) with e|e|e
 ·rw[e]
  have D:ba wR=oq:=rfl;simp[D]
 ·rw[e]
  have E:ba wE=Cr:=rfl;simp[E]
 ·rw[e]
  have F:ba wP=Ct:=rfl;simp[F]
theorem Gf:∀(its:List It)(L:List Tx.Ln)(m:Mx),(∀x∈its,uh x)->L.map (fun l=>l.2.map (·.2))=its.map itW->
  (L.map (fun l=>dU (jE l).2)).foldl fN m=⟨m.p,m.R++its.filterMap iR,m.X++its.filterMap iX,m.S++its.filterMap iS⟩
 |[],L,m,_,D=>by
  have:L=[]:=by simpa using D
  subst this;simp
 |y::its,L,m,E,D=>by
  cases L with
  |nil=>simp at D
  |cons l L=>
   simp only[bD,eH] at D;rw[bD,jY,C3 (E y (by simp)) D.1,Gf its L _ (fun x F=>E x (by simp[F])) D.2];simp only[dZ,List.filterMap_cons]
   congr 2
   ·cases iR y<;>rfl
   ·cases iX y<;>rfl
   ·cases iS y<;>rfl
theorem qQ:∀(D:List Lx)(n:Nat),(nums n D).map (fun l=>l.2.map (·.2))=D.map (fun l=>l.ps.map (·.2))
 |[],_=>rfl
 |l::r,n=>by simp only[nums,bD,mW,qQ r]
theorem Ie(D:List Lx)(E:∀l∈D,E7 l)(s:zA)(F:s.data.toList=D.flatMap txt):kG s=(nums 1 D).foldl (Tx.bz false Pv.aH 20) nZ:=by
 unfold kG;rw[Tx.qA,F,xI D 1 E]
end Rn
namespace Rn
open Tx (wM wR wE wP wA)
open Mf Go.Proofs.YtooabooekgphpaaGreatDoor
section
variable{α:Type}{lt:α->α->Bool}
theorem C4(G:Go.Sort.SWO lt)(v:α):∀D:List α,D.Pairwise (fun b a=>lt b a=false)->∀a∈D.dropWhile (lt v),lt v a=false
 |[],_,a,h=>by simp at h
 |d::D,E,a,h=>by
  rw[eu] at E;rw[List.dropWhile_cons] at h;by_cases e:lt v d=true
  ·rw[aj e] at h
   exact C4 G v D E.2 a h
  ·rw[ag e] at h
   have F:lt v d=false:=by simpa using e
   rcases aP.1 h with rfl|h
   ·exact F
   ·exact G.ntrans v d a F (E.1 a h)
theorem Gg(v:α):∀D:List α,∀a∈D.takeWhile (lt v),lt v a=true
 |[],a,h=>by simp at h
 |d::D,a,h=>by
  rw[List.takeWhile_cons] at h;by_cases e:lt v d=true
  ·rw[aj e] at h
   rcases aP.1 h with rfl|h
   ·exact e
   ·exact Gg v D a h
  ·rw[ag e] at h;simp at h
abbrev Pw(lt:α->α->Bool)(L:List α):Prop:=L.Pairwise fun a b=>lt b a=false
theorem PY(F:Go.Sort.SWO lt)(v:α)(L:List α)(h:Pw lt L):Pw lt (Ss.ins lt v L):=by
 have M:L.reverse.Pairwise (fun b a=>lt b a=false):=List.pairwise_reverse.2 h;have hd:=C4 F v L.reverse M;have O:=Gg (lt:=lt) v L.reverse
 have e:L=(L.reverse.dropWhile (lt v)).reverse++(L.reverse.takeWhile (lt v)).reverse:=by
  rw[<-mh,qg,gI]
 unfold Ss.ins;have D:Pw lt ((L.reverse.dropWhile (lt v)).reverse++(L.reverse.takeWhile (lt v)).reverse):=by rw[<-e];exact h
 unfold Pw at D ⊢;rw[jW] at D;rw[dZ,jW];refine⟨D.1,?_,?_⟩
 ·rw[jX,eu]
  refine⟨fun y hy=>?_,D.2.1⟩;have I:=O y (fc.1 hy);cases h4:lt y v with
  |false=>rfl
  |true=>have:=F.trans v y v I h4;rw[F.irrefl] at this;exact absurd this (by decide)
 ·intro a G b E
  rcases bH.1 E with E|E
  ·rw[cq.1 E];exact hd a (fc.1 G)
  ·exact D.2.2 a G b E
theorem Ig(D:Go.Sort.SWO lt)(L:List α):Pw lt (Ss.aN lt L):=by
 rw[<-L.reverse_reverse]
 induction L.reverse with
 |nil=>exact List.Pairwise.nil
 |cons a r E=>rw[jU,Ss.dR];exact PY D _ _ E
end
theorem QZ:Go.Sort.SWO (ltOf fh):=Pv.kF (fun x:Mo=>x) pd
def mR(x:It):Mo:=(ba (pW x.k),ba (vW x.v))
def mY:List (List UInt8)->List (List UInt8×List UInt8)
 |[]=>[]
 |w::r=>([],w)::r.map fun u=>([32],u)
def plain(D:List (List UInt8)):Lx:=⟨mY D,[],none,false⟩
theorem uS:∀D:List (List UInt8),(plain D).ps.map (·.2)=D
 |[]=>rfl
 |w::r=>by simp[plain,mY,Function.comp_def]
theorem C5{E:List (List UInt8)}(F:E≠[])(h:∀w∈E,uf w=true):E7 (plain E):=by
 cases E with
 |nil=>exact absurd rfl F
 |cons w r=>
  refine⟨⟨fun p D=>?_,fun p D=>?_⟩,by simp[plain,mY],rfl,fun c G=>by simp[plain] at G⟩
  ·simp only[plain,mY,aP,bI] at D
   rcases D with rfl|⟨u,I,rfl⟩
   ·exact⟨rfl,h w (by simp)⟩
   ·exact⟨rfl,h u (by simp[I])⟩
  ·simp only[plain,mY,List.tail_cons,bI] at D
   obtain⟨u,_,rfl⟩:=D;simp
theorem Q0:∀k,k<7->uf (pW k)=true:=by decide
theorem Q5:∀j,j<4->uf (vW j)=true:=by decide
theorem Nt{x:It}(G:uh x):∀w∈itW x,uf w=true:=by
 have E:=Q0 x.k G.k;have F:=Q5 x.v G.v;have I:=Q5 x.b G.b;intro w D;unfold itW at D
 split at D
 ·simp only[aP,dC,or_false] at D
  rcases D with rfl|rfl|rfl
  ·decide
  ·exact E
  ·exact F
 ·split at D
  ·simp only[aP,dC,or_false] at D
   rcases D with rfl|rfl|rfl
   ·decide
   ·exact E
   ·exact F
  ·simp only[aP,dC,or_false] at D
   rcases D with rfl|rfl|rfl|rfl|rfl
   ·decide
   ·exact E
   ·exact F
   ·decide
   ·exact I
theorem Nu(x:It):itW x≠[]:=by
 unfold itW;split
 ·simp
 ·split<;>simp
theorem zU{α β γ:Type}{f:α->List γ}{g:β->List γ}{h:α->β}:∀l:List α,(∀x∈l,f x=g (h x))->l.flatMap f=(l.map h).flatMap g
 |[],_=>rfl
 |x::l,D=>by rw[jv,bD,jv,D x (by simp),zU l (fun y hy=>D y (by simp[hy]))]
end Rn
namespace Rn
open Tx (wM wR wE wP wA)
open Mf
theorem jq:∀k,k<7->(pW k).length=2:=by decide
theorem pS:∀j,j<4->(vW j).length<=11:=by decide
theorem fA{α:Type}{f:α->List UInt8}{m:Nat}:∀l:List α,(∀x∈l,(f x).length<=m)->(l.flatMap f).length<=l.length*m
 |[],_=>by simp
 |x::l,h=>by
  have E:=fA l (fun y hy=>h y (by simp[hy]));have D:=h x (by simp);rw[jv,aW,bN,Nat.add_one_mul];omega
def once(l:List It)(x:It):List It:=if l.any (fun y=>y.t==x.t&&y.k==x.k&&y.v==x.v) then l else l++[x]
theorem RQ{l:List It}{x:It}(h:(l.map clI).Nodup)(I:x.t≠0):((once l x).map clI).Nodup:=by
 unfold once
 split
 ·exact h
 ·rename_i S
  rw[eZ,ru];refine⟨h,by simp,?_⟩;intro a O b G e;simp only[bD,fY,cq] at G;subst G;obtain⟨y,hy,E⟩:=bI.1 O;apply S;rw[List.any_eq_true];refine⟨y,hy,?_⟩;rw[<-E] at e;unfold clI at e;simp only[iP] at e;obtain⟨F,M,D⟩:=e;rw[F,ag I] at D;rw[ag I] at D;simp[F,M,D]
def qR(l:List It)(x:It):List It:=if l.any (fun y=>y.k==x.k) then l else l++[x]
structure iC(l:List It):Prop where
 ok:∀y∈l,uh y
 t:∀y∈l,y.t=0
 nd:(l.map (·.k)).Nodup
theorem Ih{l:List It}(h:iC l){x:It}(M:uh x)(I:x.t=0):iC (qR l x):=by
 unfold qR
 split
 ·exact h
 ·rename_i G
  refine⟨fun y hy=>?_,fun y hy=>?_,?_⟩
  ·rcases bH.1 hy with hy|hy
   ·exact h.ok y hy
   ·rw[cq.1 hy];exact M
  ·rcases bH.1 hy with hy|hy
   ·exact h.t y hy
   ·rw[cq.1 hy];exact I
  ·rw[eZ,ru]
   refine⟨h.nd,by simp,?_⟩;intro a F b E e;simp only[bD,fY,cq] at E;subst E;obtain⟨y,hy,D⟩:=bI.1 F;apply G;rw[List.any_eq_true];exact⟨y,hy,by simp[D,e]⟩
theorem few:∀(n:Nat)(l:List Nat),l.Nodup->(∀x∈l,x<n)->l.length<=n
 |0,l,_,h=>by
  cases l with
  |nil=>simp
  |cons a r=>exact absurd (h a (by simp)) (by omega)
 |n+1,l,D,h=>by
  have F:=few n (l.erase n) (D.erase n) (fun x G=>by
   have E:=(D.mem_erase_iff).1 G;have:=h x E.2;have:=E.1;omega)
  by_cases hm:n∈l
  ·rw[List.length_erase_of_mem hm] at F;omega
  ·rw[List.erase_of_not_mem hm] at F;omega
theorem iC.len{l:List It}(h:iC l):l.length<=7:=by
 have:=few 7 (l.map (·.k)) h.nd (fun x D=>by obtain⟨y,hy,rfl⟩:=bI.1 D;exact(h.ok y hy).k);simpa using this
theorem iC.cl{l:List It}(h:iC l):(l.map clI).Nodup:=by
 have D:=h.nd;unfold List.Nodup at D ⊢;rw[mA] at D ⊢;refine D.imp ?_;intro a b E e;unfold clI at e;simp only[iP] at e;exact E e.2.1
theorem iC.nR{l:List It}(h:iC l):Rn.nR l=l.length:=by
 unfold Rn.nR;rw[List.countP_eq_length];intro y hy;simp[h.t y hy]
end Rn
namespace Rn
open Tx (wM wR wE wP wA)
open Mf
theorem qT{a b:List UInt8}(h:ba a=ba b):a=b:=by
 have:=cV (fun x:zA=>x.data.toList) h;simpa[ba] using this
