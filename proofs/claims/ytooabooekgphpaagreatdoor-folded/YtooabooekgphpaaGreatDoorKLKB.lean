import Derived.Test.YtooabooekgphpaaGreatDoorKPLA
import Derived.Test.YtooabooekgphpaaGreatDoorKRWA
set_option linter.all false
open Go.Proofs.Tryz
set_option maxRecDepth 100000
set_option maxHeartbeats 1000000
namespace Go.Proofs.YtooabooekgphpaaGreatDoor
section
namespace Rn
open Tx (wM wR wE wP wA)
open Mf
def qX(u:List UInt8):List (List UInt8):=[wM,u]
theorem DX{u:List UInt8}(S:Pv.aH u=true)(l:Tx.Ln)(h:l.2.map (·.2)=qX u):Tx.bz false Pv.aH 20 nZ l=⟨[l],[],1,0⟩:=by
 obtain⟨n,l⟩:=l
 match l,h with
 |[(D,U),(E,F)],h=>
  simp only[qX,bD,fY,eH,fe] at h;obtain⟨rfl,rfl⟩:=h;have T:Tx.shape false wM=some [5]:=by decide
  have O:Tx.own false Pv.aH [(D,wM),(E,F)]=none:=by simp[Tx.own,Tx.hd,T,Tx.misfit,Tx.fit,S]
  have I:wM≠wR:=by decide
  rw[Tx.BS];unfold Tx.step Tx.slip;have M:Tx.hd [(D,wM),(E,F)]=(D,wM):=rfl;simp only[M,O];simp[I]
theorem Jl{u:List UInt8}(l:Tx.Ln)(h:l.2.map (·.2)=qX u)(m:Mx):fN m (dU (jE l).2)=⟨ba u,m.R,m.X,m.S⟩:=by
 unfold dU;rw[uR,uR,uR,uR,h];have D:ba wM=mF:=rfl;unfold fN qX;simp[D]
structure L9(u:List UInt8)(f:Lx)(G:List Lx)(its:List It):Prop where
 hu:Pv.aH u=true
 fok:E7 f
 fw:f.ps.map (·.2)=qX u
 lok:∀l∈G,E7 l
 w:G.map (fun l=>l.ps.map (·.2))=its.map itW
 ok:∀x∈its,uh x
 nd:(its.map clI).Nodup
 q:nR its<=20
theorem BI{u:List UInt8}{l:List (Nat×List UInt8)}(h:l.map (·.2)=qX u){x:It}(I:uh x){g:List (Nat×List UInt8)}(F:g.map (·.2)=itW x):Tx.claim l≠Tx.claim g:=by
 have D:(Tx.claim l).1=wM:=by
  match l,h with
  |[(M,S),(O,T)],h=>
   simp only[qX,bD,fY,eH,fe] at h;obtain⟨rfl,rfl⟩:=h
   rfl
 have E:(Tx.claim g).1≠wM:=by
  rw[(sr I F).2.2.2]
  split
  ·exact(by decide:wR≠wM)
  ·split
   ·exact(by decide:wE≠wM)
   ·exact(by decide:wP≠wM)
 intro e;rw[e] at D;exact E D
variable{u:List UInt8}{f:Lx}{G:List Lx}{its:List It}
theorem FL(T:L9 u f G its)(s:zA)(I:s.data.toList=(f::G).flatMap txt):kG s=⟨nums 1 (f::G),[],its.length+1,nR its⟩:=by
 have F:∀n,(nums n G).map (fun l=>l.2.map (·.2))=its.map itW:=fun n=>by rw[qQ,T.w]
 have D:(xF 0 f.ps).map (·.2)=qX u:=by rw[mW,T.fw]
 rw[Ie (f::G) (fun l E=>by rcases aP.1 E with rfl|h;exact T.fok;exact T.lok l h) s I,nums,jY,DX T.hu _ D,xJ its _ _ T.ok (F _) (by simp) T.nd ?_ (by simpa using T.q)]
 ·have E:∀n,(nums n G).length=its.length:=fun n=>by have:=cV List.length (F n);simpa using this
  simp only[jX,E,Tx.Got.mk.injEq,true_and,cZ,fe];omega
 ·intro x M y hy l E
  rw[cq.1 M];exact BI D (T.ok y hy) E
theorem DY(T:L9 u f G its)(s:zA)(I:s.data.toList=(f::G).flatMap txt)(M:s.size<=2000):
  bg s=[]/\bw s=⟨ba u,its.filterMap iR,its.filterMap iX,its.filterMap iS⟩:=by
 have F:=FL T s I
 have E:bg s=[]:=by
  unfold bg;rw[aj M,F];unfold jK;rw[ag (by simp)]
 refine⟨E,?_⟩;unfold bw;rw[aj E,F];have D:(xF 0 f.ps).map (·.2)=qX u:=by rw[mW,T.fw]
 unfold dS;simp only[nums,bD,jY];rw[Jl _ D,Gf its _ _ T.ok (by rw[qQ,T.w])];simp
def DZ(u:List UInt8):List UInt8:=[109,111,100,117,108,101,32]++u++[10]
def yt(x:It):List UInt8:=[114,101,113,117,105,114,101,32]++pW x.k++[32]++vW x.v++[10]
def fU(u:List UInt8)(its:List It):List UInt8:=DZ u++its.flatMap yt
theorem Ma(u:List UInt8):txt (plain (qX u))=DZ u:=by
 simp[txt,row,plain,mY,join,xH,qX,wM,DZ]
theorem Ob{x:It}(h:x.t=0):txt (plain (itW x))=yt x:=by
 unfold itW;rw[aj h];simp[txt,row,plain,mY,join,xH,wR,yt]
theorem Mb{x:It}(h:uh x):(yt x).length<=23:=by
 have D:=jq x.k h.k;have E:=pS x.v h.v;simp only[yt,aW,bN,jT];omega
theorem oO{u:List UInt8}(M:u.length<=1000)(h:iC its):(fU u its).length<=1169:=by
 have F:=fA (f:=yt) (m:=23) its (fun x E=>Mb (h.ok x E));have D:=h.len;have I:its.length*23<=7*23:=eG _ D;simp only[fU,DZ,aW,bN,jT];omega
theorem D6:∀{its:List It},(∀y∈its,y.t=0)->its.filterMap iR=its.map mR/\its.filterMap iX=[]/\its.filterMap iS=[]
 |[],_=>⟨rfl,rfl,rfl⟩
 |x::r,h=>by
  have M:=D6 (its:=r) (fun y hy=>h y (cr _ hy));have I:=h x bo;have D:iR x=some (mR x):=by unfold iR;rw[aj I];rfl
  have E:iX x=none:=by unfold iX;rw[ag (by omega)]
  have F:iS x=none:=by unfold iS;rw[ag (by omega)]
  simp[D,E,F,M]
theorem Mc{u:List UInt8}(S:Pv.aH u=true)(U:uf u=true)(E:u.length<=1000)(h:iC its):bg (ba (fU u its))=[]/\bw (ba (fU u its))=⟨ba u,its.map mR,[],[]⟩:=by
 have T:L9 u (plain (qX u)) (its.map fun x=>plain (itW x)) its:=by
  refine⟨S,C5 (by simp[qX]) (fun w hm=>?_),uS _,fun l E=>?_,?_,h.ok,h.cl,by rw[h.nR];have:=h.len;omega⟩
  ·simp only[qX,aP,dC,or_false] at hm
   rcases hm with rfl|rfl
   ·decide
   ·exact U
  ·obtain⟨x,F,rfl⟩:=bI.1 E
   exact C5 (Nu x) (Nt (h.ok x F))
  ·rw[nT]
   exact vJ (fun x _=>uS _)
 have O:(ba (fU u its)).data.toList=(plain (qX u)::its.map fun x=>plain (itW x)).flatMap txt:=by
  have e:(its.map fun x=>plain (itW x)).flatMap txt=its.flatMap yt:=by
   have M:=zU (f:=yt) (g:=txt) (h:=fun x=>plain (itW x)) its (fun x F=>(Ob (h.t x F)).symm);exact M.symm
  rw[jv,Ma,e];simp[ba,fU]
 have V:(ba (fU u its)).size<=2000:=by
  have:=oO E h;show(fU u its).toArray.size<=2000;simp;omega
 have I:=DY T _ O V;have D:=D6 h.t;rw[D.1,D.2.1,D.2.2] at I;exact I
def Me(j:Nat):List UInt8:=[118,101,114,115,105,111,110,32]++vW j++[10]
end Rn
namespace Pn
open Mf Rn
theorem FM{u:List UInt8}{its:List It}(F:Pv.aH u=true)(I:uf u=true)(E:u.length<=1000)(h:iC its):eN (some (ba (fU u its)))=.man 0 ⟨ba u,reqs (its.map mR),[],[]⟩:=by
 have D:=Mc F I E h;unfold eN;simp only[D.1,D.2,dD]
 rfl
theorem D7:dM (ba (Me 0))=[]/\fM (ba (Me 0))=[ba (vW 0)]:=⟨by kernel_rfl,by kernel_rfl⟩
theorem Oc:idxOf (some (ba (Me 0)))=.idx 0 [ba (vW 0)]:=by
 unfold idxOf;simp only[D7.1,D7.2,dD]
end Pn
end
namespace Pn
open Mf Rn
def bW(c:Nat):Mo:=if c=28 then (ba [114],e0) else (ba (pW (c/4)),ba (vW (c%4)))
theorem Gx{a b:Nat}(F:a<=28)(I:b<=28):(bW a).1=(bW b).1↔a/4=b/4:=by
 unfold bW;by_cases E:a=28
 ·rw[aj E]
  by_cases D:b=28
  ·rw[aj D,E,D];exact⟨fun _=>rfl,fun _=>rfl⟩
  ·rw[ag D]
   refine⟨fun e=>?_,fun e=>by omega⟩;have:=cV List.length (qT e);rw[jq _ (by omega)] at this;simp at this
 ·rw[ag E]
  by_cases D:b=28
  ·rw[aj D]
   refine⟨fun e=>?_,fun e=>by omega⟩;have:=cV List.length (qT e);rw[jq _ (by omega)] at this;simp at this
  ·rw[ag D]
   exact⟨fun e=>C2 _ _ (by omega) (by omega) (qT e),fun e=>by rw[e]⟩
theorem Qo{a b:Nat}(F:a<=28)(I:b<=28)(h:bW a=bW b):a=b:=by
 have M:=(Gx F I).1 (cV Prod.fst h);by_cases D:a=28
 ·omega
 ·by_cases E:b=28
  ·omega
  ·unfold bW at h
   rw[ag D,ag E] at h;have O:=Ku _ _ (by omega) (by omega) (qT (cV Prod.snd h));omega
theorem Od:((List.range 29).all fun a=>(List.range 29).all fun b=>ltOf fh (bW a) (bW b)==decide (a<b))=true:=by kernel_rfl
theorem Mg{a b:Nat}(D:a<=28)(E:b<=28):ltOf fh (bW a) (bW b)=decide (a<b):=by
 have h:=il.1 Od a (iq.2 (by omega));have h:=il.1 h b (iq.2 (by omega));exact eq_of_beq h
def oP:List Nat->List Nat
 |[]=>[]
 |[m]=>[m]
 |m::D::r=>if D/4=m/4 then oP (D::r) else m::oP (D::r)
theorem vh:∀sl:List Nat,sl.Pairwise (· < ·)->(∀c,c∈oP sl↔c∈sl/\∀E∈sl,E/4=c/4->E<=c)/\(oP sl).Pairwise (fun a b=>a/4<b/4)
 |[],_=>⟨fun c=>⟨fun h=>absurd h dC,fun h=>absurd h.1 dC⟩,List.Pairwise.nil⟩
 |[m],_=>⟨fun c=>⟨fun h=>⟨h,fun E I _=>by rw[cq.1 h,cq.1 I];exact af _⟩,fun h=>h.1⟩,List.pairwise_singleton _ _⟩
 |m::S::r,Y=>by
  have O:=eu.1 Y;have T:=vh (S::r) O.2;have hm:=O.1 S bo
  have U:∀x∈S::r,S<=x:=fun x W=>by
   rcases aP.1 W with e|e
   ·omega
   ·exact Nat.le_of_lt ((eu.1 O.2).1 x e)
  unfold oP;by_cases V:S/4=m/4
  ·rw[aj V]
   refine⟨fun c=>?_,T.2⟩;rw[T.1 c]
   constructor
   ·rintro⟨F,M⟩
    refine⟨cr _ F,fun E I e=>?_⟩;rcases aP.1 I with D|D
    ·have:=U c F;omega
    ·exact M E D e
   ·rintro⟨F,M⟩
    rcases aP.1 F with D|D
    ·have:=M S (cr _ bo) (by rw[D];exact V)
     omega
    ·exact⟨D,fun E I e=>M E (cr _ I) e⟩
  ·rw[ag V]
   refine⟨fun c=>?_,eu.2 ⟨fun x W=>?_,T.2⟩⟩
   ·rw[aP,T.1 c]
    constructor
    ·rintro(F|⟨F,M⟩)
     ·subst F
      refine⟨bo,fun E I e=>?_⟩;rcases aP.1 I with D|D
      ·omega
      ·have:=U E D;omega
     ·refine⟨cr _ F,fun E I e=>?_⟩
      rcases aP.1 I with D|D
      ·have:=U c F;omega
      ·exact M E D e
    ·rintro⟨F,M⟩
     rcases aP.1 F with D|D
     ·exact Or.inl D
     ·exact Or.inr ⟨D,fun E I e=>M E (cr _ I) e⟩
   ·have F:=((T.1 x).1 W).1
    have:=U x F;omega
theorem Al:∀sl:List Nat,(∀c∈sl,c<=28)->lasts (sl.map bW)=(oP sl).map bW
 |[],_=>rfl
 |[m],_=>rfl
 |m::F::r,h=>by
  have E:=Al (F::r) (fun c D=>h c (cr _ D));have I:=Gx (h F (cr _ bo)) (h m bo);simp only[bD] at E ⊢;unfold lasts oP;by_cases D:F/4=m/4
  ·rw[aj D,aj (I.2 D)];exact E
  ·rw[ag D,ag (fun e=>D (I.1 e)),bD,E]
theorem zf(cl:List Nat)(hn:cl.Nodup)(hl:∀c∈cl,c<=28):∃F:List Nat,highest (cl.map bW)=F.map bW/\F.Pairwise (fun a b=>a/4<b/4)/\∀c,c∈F↔c∈cl/\∀M∈cl,M/4=c/4->M<=c:=by
 let D:Nat->Nat->Bool:=fun a b=>ltOf fh (bW a) (bW b)
 have E:(Ss.aN D cl).map bW=Ss.aN (ltOf fh) (cl.map bW):=Ss.qJ bW _ (fun _ _=>rfl) cl;have U:(Ss.aN D cl).Perm cl:=Ss.cy cl;have I:∀c∈Ss.aN D cl,c<=28:=fun c hc=>hl c (U.mem_iff.1 hc)
 have T:=Ig QZ (cl.map bW);rw[<-E] at T;have SL:=mA.1 T;have a1:(Ss.aN D cl).Nodup:=U.nodup_iff.2 hn
 have a0:(Ss.aN D cl).Pairwise (· < ·):=by
  have O:=jS.1 SL;have h3:=jS.1 a1;refine jS.2 (fun i j Y hj S=>?_);have q1:=O i j Y hj S;have q2:=h3 i j Y hj S;rw[Mg (I _ (dP hj)) (I _ (dP Y))] at q1;have q1:=mf q1;omega
 have sp:=vh _ a0;refine⟨oP (Ss.aN D cl),?_,sp.2,fun c=>?_⟩
 ·unfold highest
  rw[<-E];exact Al _ I
 ·rw[sp.1 c,U.mem_iff]
  constructor
  ·rintro⟨W,O⟩;exact⟨W,fun M V e=>O M (U.mem_iff.2 V) e⟩
  ·rintro⟨W,O⟩;exact⟨W,fun M V e=>O M (U.mem_iff.1 V) e⟩
inductive Rc(wc:Nat->List Nat):Nat->Prop where
 |root:Rc wc 28
 |step {c x:Nat}:Rc wc c->x∈wc c->Rc wc x
theorem Rc.le{wc:Nat->List Nat}(h:∀c x,x∈wc c->x<=28){c:Nat}:Rc wc c->c<=28
 | .root=>af _
 | .step _ D=>h _ _ D
theorem Mh{cl:List Nat}(E:cl.Nodup)(D:∀c∈cl,c<=28):cl.length<=29:=few 29 cl E (fun x F=>by have:=D x F;omega)
theorem uC:∀(W cl:List Nat),cl.Nodup->(∀c∈cl,c<=28)->(∀c∈W,c<=28)->∃t:List Nat,bU (cl.map bW) (W.map bW)=some ((cl++t).map bW)/\(cl++t).Nodup/\(∀x,x∈cl++t↔x∈cl\/x∈W)/\∀c∈cl++t,c<=28
 |[],cl,I,F,_=>⟨[],by simp[bU],by simpa using I,fun x=>by simp,by simpa using F⟩
 |m::r,cl,I,F,hW=>by
  have hm:=hW m bo;have hr:=fun c E=>hW c (cr _ E)
  rw[bD];unfold bU;by_cases D:m∈cl
  ·rw[aj (bI.2 ⟨m,D,rfl⟩)]
   obtain⟨t,M,O,S,T⟩:=uC r cl I F hr;refine⟨t,M,O,fun x=>?_,T⟩;rw[S x,aP]
   constructor
   ·rintro(h|h)
    ·exact Or.inl h
    ·exact Or.inr (Or.inr h)
   ·rintro(h|h|h)
    ·exact Or.inl h
    ·rw[h];exact Or.inl D
    ·exact Or.inr h
  ·have Y:bW m∉cl.map bW:=fun e=>by
    obtain⟨c,E,e⟩:=bI.1 e;have:=Qo (F c E) hm e;rw[this] at E;exact D E
   have a0:=Mh I F;rw[ag Y,ag (by rw[cW];omega)];have V:(cl++[m]).Nodup:=ru.2 ⟨I,by simp,fun a ha b hb e=>by rw[cq.1 hb] at e;rw[e] at ha;exact D ha⟩
   have U:∀c∈cl++[m],c<=28:=fun c E=>by
    rcases bH.1 E with h|h
    ·exact F c h
    ·rw[cq.1 h];exact hm
   obtain⟨t,M,O,S,T⟩:=uC r (cl++[m]) V U hr;rw[eZ] at M;refine⟨m::t,?_,by simpa using O,fun x=>?_,by simpa using T⟩
   ·rw[show cl++m::t=cl++[m]++t by simp]
    exact M
   ·rw[show cl++m::t=cl++[m]++t by simp,S x,aP,bH,cq]
    constructor
    ·rintro((h|h)|h)
     ·exact Or.inl h
     ·exact Or.inr (Or.inl h)
     ·exact Or.inr (Or.inr h)
    ·rintro(h|h|h)
     ·exact Or.inl (Or.inl h)
     ·exact Or.inl (Or.inr h)
     ·exact Or.inr h
theorem yu{s:Shf}{o:Qn->Fi}{wc:Nat->List Nat}(root:zA)(M:∀c x,x∈wc c->x<=28)
  (ho:∀c,Rc wc c->∃W:List Nat,o ⟨2,(bW c).1,(bW c).2⟩=.wants (W.map bW) []/\∀x,x∈W↔x∈wc c):
  ∀(n:Nat)(cl:List Nat)(i:Nat)(ps:List Pb),n+i=61->cl.Nodup->(∀c∈cl,Rc wc c)->28∈cl->(∀j,j<i->∀c,cl[j]?=some c->∀x∈wc c,x∈cl)->
   ∃T:List Nat,(bY root n (cl.map bW) i ps).run s o=.list (highest (T.map bW)) ps/\T.Nodup/\∀x,x∈T↔Rc wc x
 |0,cl,i,ps,hi,V,O,F,I=>by
  have hl:=Mh V (fun c E=>(O c E).le M);refine⟨cl,rfl,V,fun x=>⟨O x,fun h=>?_⟩⟩
  induction h with
  |root=>exact F
  |step E S ih=>
   obtain⟨j,Y,e⟩:=List.mem_iff_getElem.1 ih;exact I j (by omega) _ (by rw[aV Y,e]) _ S
 |n+1,cl,i,ps,hi,V,O,F,I=>by
  unfold bY;rw[li];cases E:cl[i]? with
  |none=>
   have a0:cl.length<=i:=sY.1 E;refine⟨cl,rfl,V,fun x=>⟨O x,fun h=>?_⟩⟩
   induction h with
   |root=>exact F
   |step E S ih=>
    obtain⟨j,Y,e⟩:=List.mem_iff_getElem.1 ih;exact I j (by omega) _ (by rw[aV Y,e]) _ S
  |some c=>
   have U:c∈cl:=iN E;obtain⟨W,hw,S⟩:=ho c (O c U);obtain⟨t,h1,h2,h3,h4⟩:=uC W cl V (fun c E=>(O c E).le M) (fun x D=>M c x ((S x).1 D));simp only[Option.map_some,Cm.run];rw[hw];simp only[cC,im];rw[h1];simp only;refine yu root M ho n (cl++t) (i+1) ps (by omega) h2 (fun x D=>?_) (gU _ F) (fun j Y d hd x D=>?_)
   ·rcases(h3 x).1 D with h|h
    ·exact O x h
    ·exact .step (O c U) ((S x).1 h)
   ·rw[h3 x]
    have a0:=(dv.1 E).1;rw[vS (by omega)] at hd;by_cases a1:j=i
    ·rw[a1,E] at hd
     injection hd with hd;rw[hd] at S;exact Or.inr ((S x).2 D)
    ·exact Or.inl (I j (by omega) d hd x D)
theorem Am{D:zA}:∀{L:List zA},D∈L->∃t,gL D L=some (D::t)
 |v::r,h=>by
  unfold gL;by_cases e:v=D
  ·rw[aj e,e];exact⟨r,rfl⟩
  ·rw[ag e]
   exact Am ((aP.1 h).resolve_left (fun k=>e k.symm))
theorem Jm{p v:zA}{L:List zA}(h:v∈L):choose (p,v) (0,L) []=.inl (p,v):=by
 obtain⟨t,e⟩:=Am h;unfold choose;simp only[ne_eq,not_true_eq_false,fH];rw[e];simp only;unfold cK;rw[ag (by simp)]
theorem Ao{s:Shf}{o:Qn->Fi}(root:zA)(X:List Mo):∀(L ms:List Mo)(ps:List Pb),(∀r∈L,r.1≠root/\choose r (oF (o ⟨1,r.1,e0⟩)) X=.inl r)->(bf root X L ms ps).run s o=.wants (ms++L) ps
 |[],ms,ps,_=>by rw[im];rfl
 |r::rest,ms,ps,h=>by
  have D:=h r bo;unfold bf;rw[ag D.1];simp only[Cm.run];rw[D.2];simp only;rw[Ao root X rest (ms++[r]) ps (fun x E=>h x (cr _ E))];simp
variable{s:Shf}{top:List It}{R:Nat->Nat->List It}
theorem Mi:Pv.aH [114]=true:=by decide
theorem Rz:uf [114]=true:=by decide
end Pn
section
open Go.RowKit
namespace Rn
open Mf
theorem FN(k:Nat)(D:k<4)(W:zW):zC 21 #[zI (k:Int)] W fun e w'=>e=.returned (.string (ba (vW k)))/\w'=W:=by
 have h:=lf (k:Int) W (by omega) (by omega);rw[xK k 4 D] at h;exact h
theorem qY(a b:List UInt8):ba a++ba b=ba (a++b):=by
 apply jJ;rw[ByteArray.data_append];simp[ba]
theorem eL(a:List UInt8):(ba a).size=a.length:=by show a.toArray.size=_;simp
theorem Jn(its:List It)(i:Nat)(h:i<its.length):(its.take (i+1)).flatMap yt=(its.take i).flatMap yt++yt its[i]:=by
 rw[iY,aV h,nO];simp
theorem Jo(u:List UInt8){its:List It}(h:iC its)(D:u.length<=1000)(i:Nat):(fU u (its.take i)).length<=1169:=by
 refine oO D ⟨fun y hy=>h.ok y (List.mem_of_mem_take hy),fun y hy=>h.t y (List.mem_of_mem_take hy),?_⟩;rw[List.map_take];exact h.nd.sublist (List.take_sublist _ _)
theorem iE(u:List UInt8)(its:List It)(v:zV)(w:zW)(hu:u.length<=1000)(D:iC its)(h:Sm.Rd w v (its.map mR)):
  zC 22 #[.string (ba u),v] w fun e w'=>e=.returned (.string (ba (fU u its)))/\zB w w':=by
 obtain⟨a1,c1,F⟩:=Px h;subst F;have e:(its.map mR).length=its.length:=cW _;rw[e] at h ⊢;have HD:=zH h;have HL:=zH D.len;have a4:its.length<=7:=D.len
 have HC:Hid (∀i,i<its.length->∃p q:List UInt8,(its.map mR)[i]! =(ba p,ba q)/\p.length<=2/\q.length<=11/\fU u (its.take (i+1))=fU u (its.take i)++([114,101,113,117,105,114,101,32]++p++[32]++q++[10])):=fun i S=>by
  have hk:=D.ok its[i] (dP S);refine⟨pW its[i].k,vW its[i].v,?_,by rw[jq _ hk.k];exact af _,pS _ hk.v,?_⟩
  ·rw[bJ _ i (by rw[cW];exact S),qx];rfl
  ·unfold fU
   rw[Jn its i S,dZ]
   rfl
 have HZ:=zH (Jo u D hu);have HE:Hid (fU u its=fU u (its.take its.length)):=by show _=_;rw[vT]
 have H0:Hid (fU u (its.take 0)=[109,111,100,117,108,101,32]++u++[10]):=by show _=_;simp[fU,DZ]
 have a7:(ba u).size<=1000:=by rw[eL];exact hu
 obtain⟨M,hM⟩:∃M:Nat->List UInt8,∀i,fU u (its.take i)=M i:=⟨_,fun _=>rfl⟩;simp only[hM] at HC HZ HE H0;clear hM h e D;generalize fU u its=mm at*
 have H1:Hid ((⟨#[109,111,100,117,108,101,32]⟩:zA)++ba u++⟨#[10]⟩=ba (M 0)):=by
  have F:(⟨#[109,111,100,117,108,101,32]⟩:zA)=ba [109,111,100,117,108,101,32]:=rfl;have Y:(⟨#[10]⟩:zA)=ba [10]:=rfl;show _=_;rw[H0.out,F,Y,qY,qY]
 generalize ba u=bu at*;have V:Hid ((its.map mR).length=its.length):=cW _;generalize its.map mR=ml at*;generalize its.length=n at*;go_enter func22,ntmps22;go_wp2;go_loopg [5,6] n (fun gg sv iv wr=>∃(i:Nat)(x:zA),i<=n/\n-i<=gg/\sv=.string x/\iv=zI i/\Hid (zB w wr)/\Hid (x=ba (M i)))
 case atStart=>exact⟨0,_,by omega,by omega,rfl,rfl,ae _ _,H1⟩
 case round=>
  obtain⟨i,x,S,hg,rfl,rfl,E,W⟩:=hrel;by_cases I:i<n
  ·have ij:(i:Int)<(n:Int):=by omega
   obtain⟨p,q,O,hp,hq,hN⟩:=HC.out i I;obtain⟨b,o,c,eg,x0,x1⟩:=Bc HD.out E.out i (by rw[V.out];exact I);injection eg with a0 a2 a3;clear a2;subst a0;subst a3;rw[O] at x0 x1;have hx:x.size<=1169:=by rw[W.out,eL];exact HZ.out i
   have a5:(ba p).size<=2:=by rw[eL];exact hp
   have a6:(ba q).size<=11:=by rw[eL];exact hq
   have HS:Hid (x++⟨#[114,101,113,117,105,114,101,32]⟩++ba p++⟨#[32]⟩++ba q++⟨#[10]⟩=ba (M (i+1))):=by
    have F:(⟨#[114,101,113,117,105,114,101,32]⟩:zA)=ba [114,101,113,117,105,114,101,32]:=rfl;have Y:(⟨#[10]⟩:zA)=ba [10]:=rfl;have e3:(⟨#[32]⟩:zA)=ba [32]:=rfl;show _=_;rw[W.out,F,Y,e3,qY,qY,qY,qY,qY,hN];simp
   have T:Hid (∀n,zB w (wr.drewN n)):=fun n=>⟨E.out.os,E.out.tape,E.out.output,E.out.size,E.out.block⟩
   clear O hN;generalize ba p=bp at*;generalize ba q=bq at*;go_upto_region 5 with fail;go_quiet (fail);go_wp2;go_roundg (n-(i+1))
   case measure=>omega
   case rel=>exact⟨i+1,_,by omega,by omega,rfl,by go_num,T.out _,HS⟩
  ·have ij:¬(i:Int)<(n:Int):=by omega
   have U:Hid (x=ba mm):=by
    show x=ba mm;rw[W.out,HE.out,show i=n by omega]
   go_wp2;go_ret;exact⟨by rw[U.out];rfl,E.out⟩
