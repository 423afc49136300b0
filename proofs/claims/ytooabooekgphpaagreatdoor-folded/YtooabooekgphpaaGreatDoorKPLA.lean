import Derived.Test.YtooabooekgphpaaGreatDoorKQG
set_option linter.all false
namespace Go.Proofs.YtooabooekgphpaaGreatDoor
section
namespace Pn
open Mf
abbrev e0:zA:=⟨#[]⟩
structure Qn where
 kind:Nat
 path:zA
 ver:zA
abbrev Pb:=Nat×zA×zA
inductive Fi where
 |man (pr:Nat) (m:Mx)
 |idx (pr:Nat) (vs:List zA)
 |wants (ms:List Mo) (ps:List Pb)
 |list (ms:List Mo) (ps:List Pb)
 |ord (ns:List zA) (ps:List Pb)
def Fi.ess:Fi->Fi
 | .list ms _=>.list ms []
 |f=>f
abbrev Plc:=Nat×zA×zA
abbrev Shf:=Plc->Option zA
inductive Tie where
 |rd (p:Plc) (t:Option zA)
 |ask (q:Qn)
inductive Cm(α:Type) where
 |ret (a:α)
 |rd (p:Plc) (k:Option zA->Cm α)
 |ask (q:Qn) (k:Fi->Cm α)
namespace Cm
variable{α:Type}
def run(s:Shf)(o:Qn->Fi):Cm α->α
 | .ret a=>a
 | .rd p k=>(k (s p)).run s o
 | .ask q k=>(k (o q)).run s o
def ties(s:Shf)(o:Qn->Fi):Cm α->List Tie
 | .ret _=>[]
 | .rd p k=>.rd p (s p)::(k (s p)).ties s o
 | .ask q k=>.ask q::(k (o q)).ties s o
inductive Low(r:Qn->Prop):Cm α->Prop where
 |ret (a:α):Low r (.ret a)
 |rd (p:Plc) (k:Option zA->Cm α) (h:∀t,Low r (k t)):Low r (.rd p k)
 |ask (q:Qn) (k:Fi->Cm α) (hq:r q) (h:∀f,Low r (k f)):Low r (.ask q k)
def Holds(s2:Shf)(o o2:Qn->Fi):Tie->Prop
 | .rd p t=>s2 p=t
 | .ask q=>o2 q=o q
theorem again{s s2:Shf}{o o2:Qn->Fi}:∀c:Cm α,(∀t∈c.ties s o,Holds s2 o o2 t)->c.run s2 o2=c.run s o/\c.ties s2 o2=c.ties s o
 | .ret a,_=>⟨rfl,rfl⟩
 | .rd p k,h=>by
  have F:s2 p=s p:=h (.rd p (s p)) (by simp[ties]);have E:=again (k (s p)) (fun t M=>h t (by simp only[ties,aP];exact Or.inr M));unfold run ties;rw[F];exact⟨E.1,by rw[E.2]⟩
 | .ask q k,h=>by
  have F:o2 q=o q:=h (.ask q) (by simp[ties]);have E:=again (k (o q)) (fun t M=>h t (by simp only[ties,aP];exact Or.inr M));unfold run ties;rw[F];exact⟨E.1,by rw[E.2]⟩
theorem oD{r:Qn->Prop}{s:Shf}{o o2:Qn->Fi}(F:∀q,r q->o2 q=o q):∀c:Cm α,Low r c->c.run s o2=c.run s o/\c.ties s o2=c.ties s o
 | .ret a,_=>⟨rfl,rfl⟩
 | .rd p k,h=>by
  cases h with|rd _ _ h=>
  have E:=oD (s:=s) F (k (s p)) (h _);unfold run ties;exact⟨E.1,by rw[E.2]⟩
 | .ask q k,h=>by
  cases h with|ask _ _ M h=>
  have E:=oD (s:=s) F (k (o q)) (h _);unfold run ties;rw[F q M];exact⟨E.1,by rw[E.2]⟩
theorem lG{r:Qn->Prop}{s:Shf}{o:Qn->Fi}:∀c:Cm α,Low r c->∀q,Tie.ask q∈c.ties s o->r q
 | .ret a,_,q,h=>by simp[ties] at h
 | .rd p k,h,q,E=>by
  cases h with|rd _ _ h=>
  unfold ties at E;rcases aP.1 E with e|e
  ·cases e
  ·exact lG (s:=s) (o:=o) (k (s p)) (h _) q e
 | .ask M k,h,q,E=>by
  cases h with|ask _ _ F h=>
  unfold ties at E;rcases aP.1 E with e|e
  ·cases e;exact F
  ·exact lG (s:=s) (o:=o) (k (o M)) (h _) q e
end Cm
def eN:Option zA->Fi
 |none=>.man 2 ⟨e0,[],[],[]⟩
 |some s=>if bg s=[] then .man 0 ⟨(bw s).p,reqs (bw s).R,vF (bw s).X,xj (bw s).S⟩ else .man 3 ⟨e0,[],[],[]⟩
def idxOf:Option zA->Fi
 |none=>.idx 5 []
 |some s=>if dM s=[] then .idx 0 (fM s) else .idx 6 []
def kY:Fi->Nat×Mx
 | .man E m=>(E,m)
 |_=>(0,⟨e0,[],[],[]⟩)
def oF:Fi->Nat×List zA
 | .idx E F=>(E,F)
 |_=>(0,[])
def cC:Fi->List Mo×List Pb
 | .wants ms ps=>(ms,ps)
 |_=>([],[])
def jC:Fi->List Mo×List Pb
 | .list ms ps=>(ms,ps)
 |_=>([],[])
def Oy:Fi->List zA×List Pb
 | .ord E ps=>(E,ps)
 |_=>([],[])
open Classical in
noncomputable def dK(m:Nat×Mx)(path:zA):Nat:=if m.1=0/\m.2.p≠path then 4 else m.1
open Classical in
noncomputable def replaced(node:Mo):List So->Mo
 |[]=>node
 |r::rest=>if r.1=node.1/\r.2.1=node.2 then (r.1,r.2.2) else replaced node rest
open Classical in
noncomputable def cK(X:List Mo)(path:zA):List zA->Option Mo
 |[]=>none
 |v::r=>if (path,v)∈X then cK X path r else some (path,v)
open Classical in
noncomputable def gL(E:zA):List zA->Option (List zA)
 |[]=>none
 |v::r=>if v=E then some (v::r) else gL E r
noncomputable def choose(E:Mo)(x:Nat×List zA)(X:List Mo):Mo ⊕ Pb:=
 if x.1≠0 then .inr (x.1,E.1,e0)
 else match gL E.2 x.2 with
  |none=>.inr (7,E.1,E.2)
  |some l=>match cK X E.1 l with
   |some m=>.inl m
   |none=>.inr (8,E.1,E.2)
abbrev aA:Plc:=(2,e0,e0)
def rootOf(t:Option zA):zA:=t.getD e0
open Classical in
noncomputable def bf(root:zA)(X:List Mo):List Mo->List Mo->List Pb->Cm Fi
 |[],ms,ps=>.ret (.wants ms ps)
 |r::rest,ms,ps=>if r.1=root then bf root X rest ms ps else .ask ⟨1,r.1,e0⟩ fun f=>match choose r (oF f) X with
  | .inl m=>bf root X rest (ms++[m]) ps
  | .inr p=>bf root X rest ms (ps++[p])
noncomputable def bT(root:zA)(f:Fi):Mx:=if dK (kY f) root≠0 then ⟨e0,[],[],[]⟩ else (kY f).2
noncomputable def gP(node:Mo):Cm Fi:=
 .rd aA fun t=>.ask ⟨0,rootOf t,e0⟩ fun f=>.ask ⟨0,(replaced node (bT (rootOf t) f).S).1,(replaced node (bT (rootOf t) f).S).2⟩ fun g=>
  if dK (kY g) node.1≠0 then .ret (.wants [] [(dK (kY g) node.1,(replaced node (bT (rootOf t) f).S).1,(replaced node (bT (rootOf t) f).S).2)])
  else bf (rootOf t) (bT (rootOf t) f).X (kY g).2.R [] []
open Classical in
noncomputable def bU:List Mo->List Mo->Option (List Mo)
 |l,[]=>some l
 |l,m::r=>if m∈l then bU l r else if l.length=60 then none else bU (l++[m]) r
open Classical in
noncomputable def lasts:List Mo->List Mo
 |[]=>[]
 |[m]=>[m]
 |m::E::r=>if E.1=m.1 then lasts (E::r) else m::lasts (E::r)
noncomputable def highest(l:List Mo):List Mo:=lasts (Ss.aN (ltOf fh) l)
noncomputable def bY(root:zA):Nat->List Mo->Nat->List Pb->Cm Fi
 |0,l,_,ps=>.ret (.list (highest l) ps)
 |n+1,l,i,ps=>match l[i]? with
  |none=>.ret (.list (highest l) ps)
  |some m=>.ask ⟨2,m.1,m.2⟩ fun f=>match bU l (cC f).1 with
   |none=>.ret (.list [(root,e0)] [(9,e0,e0)])
   |some E=>bY root n E (i+1) (ps++(cC f).2)
noncomputable def gX:Cm Fi:=
 .rd aA fun t=>if (rootOf t).size=0 then .ret (.list [] [(1,e0,e0)]) else bY (rootOf t) 61 [(rootOf t,e0)] 0 []
noncomputable def eY(fin:List (List Mo)->Fi):List Mo->List (List Mo)->Cm Fi
 |[],E=>.ret (fin E)
 |m::r,E=>.ask ⟨2,m.1,m.2⟩ fun f=>eY fin r (E++[(cC f).1])
noncomputable def uP(jF:List Mo->List (List Mo)->Fi):Cm Fi:=
 .ask ⟨3,e0,e0⟩ fun f=>eY (jF (jC f).1) (jC f).1 []
end Pn
end
namespace Pn
open Mf
open Classical in
noncomputable def rowOf(ms w:List Mo)(j:Nat):Bool:=w.any fun x=>decide (ms.findIdx? (fun o=>decide (o.1=x.1))=some j)
noncomputable def eP(ms:List Mo)(E:List (List Mo))(i j:Nat):Bool:=rowOf ms (E[i]?.getD []) j
def cM(m:Nat->Nat->Bool):Nat->Nat->Nat->Bool
 |0=>m
 |k+1=>fun i j=>cM m k i j||(cM m k i k&&cM m k k j)
def dr(n:Nat)(m:Nat->Nat->Bool)(E:Nat->Bool)(i:Nat):Bool:=(List.range n).all fun o=>!(m i o&&!E o&&!m o i)
def fO(n:Nat)(m:Nat->Nat->Bool)(i:Nat):List Nat:=(List.range n).filter fun o=>o==i||(m i o&&m o i)
def cE(n:Nat)(m:Nat->Nat->Bool)(E:Nat->Bool):List Nat:=
 match (List.range n).find? (fun i=>!E i&&dr n m E i) with
 |some i=>fO n m i
 |none=>[]
def Oz(l:List zA):zA:=⟨(List.intercalate [32] (l.map (·.data.toList))).toArray⟩
def cO(n:Nat)(m:Nat->Nat->Bool):Nat->(Nat->Bool)->List (List Nat)
 |0,_=>[]
 |f+1,E=>match cE n m E with
  |[]=>[]
  |g=>g::cO n m f (fun i=>E i||g.contains i)
def bB(ms:List Mo)(g:List Nat):List zA:=g.map fun i=>(ms[i]?.getD (e0,e0)).1
def iB(ms:List Mo)(g:List Nat):List Pb:=if 1<g.length then [(10,((bB ms g)[0]?.getD e0),Oz (bB ms g))] else []
noncomputable def jF(ms:List Mo)(E:List (List Mo)):Fi:=
 .ord ((cO ms.length (cM (eP ms E) ms.length) (ms.length+1) (fun _=>false)).flatMap (bB ms))
  ((cO ms.length (cM (eP ms E) ms.length) (ms.length+1) (fun _=>false)).flatMap (iB ms))
def rk(q:Qn):Nat:=if q.kind<=1 then 0 else q.kind-1
noncomputable def df(q:Qn):Cm Fi:=
 if q.kind=0 then .rd (0,q.path,q.ver) fun t=>.ret (eN t)
 else if q.kind=1 then .rd (1,q.path,e0) fun t=>.ret (idxOf t)
 else if q.kind=2 then gP (q.path,q.ver)
 else if q.kind=3 then gX
 else uP jF
def orc(v:Qn->Fi)(q:Qn):Fi:=(v q).ess
def v0(s:Shf)(q:Qn):Fi:=if q.kind=0 then eN (s (0,q.path,q.ver)) else if q.kind=1 then idxOf (s (1,q.path,e0)) else .wants [] []
noncomputable def v1(s:Shf)(q:Qn):Fi:=if q.kind=2 then (gP (q.path,q.ver)).run s (orc (v0 s)) else v0 s q
noncomputable def v2(s:Shf)(q:Qn):Fi:=if q.kind=3 then gX.run s (orc (v1 s)) else v1 s q
noncomputable def val(s:Shf)(q:Qn):Fi:=if q.kind=4 then (uP jF).run s (orc (v2 s)) else v2 s q
noncomputable def gY(s:Shf)(q:Qn):List Tie:=(df q).ties s (orc (val s))
theorem jL(root:zA)(X:List Mo):∀(l ms:List Mo)(ps:List Pb),Cm.Low (fun q=>q.kind<=1) (bf root X l ms ps)
 |[],ms,ps=>.ret _
 |r::rest,ms,ps=>by
  unfold bf
  split
  ·exact jL root X rest ms ps
  ·refine .ask _ _ (af 1) fun f=>?_
   cases choose r (oF f) X with
   |inl m=>exact jL root X rest _ ps
   |inr p=>exact jL root X rest ms _
theorem zO(node:Mo):Cm.Low (fun q=>q.kind<=1) (gP node):=by
 unfold gP;refine .rd _ _ fun t=>.ask _ _ (aL 1) fun f=>.ask _ _ (aL 1) fun g=>?_
 split
 ·exact .ret _
 ·exact jL _ _ _ _ _
theorem sf(root:zA):∀(n:Nat)(l:List Mo)(i:Nat)(ps:List Pb),Cm.Low (fun q=>q.kind=2) (bY root n l i ps)
 |0,l,i,ps=>.ret _
 |n+1,l,i,ps=>by
  unfold bY;cases l[i]? with
  |none=>exact .ret _
  |some m=>
   refine .ask _ _ rfl fun f=>?_
   show Cm.Low _ (match bU l (cC f).1 with|none=>_|some E=>_);cases bU l (cC f).1 with
   |none=>exact .ret _
   |some E=>exact sf root n E _ _
theorem CX:Cm.Low (fun q=>q.kind=2) gX:=by
 unfold gX;refine .rd _ _ fun t=>?_
 split
 ·exact .ret _
 ·exact sf _ _ _ _ _
theorem sg(fin:List (List Mo)->Fi):∀(l:List Mo)(E:List (List Mo)),Cm.Low (fun q=>q.kind=2\/q.kind=3) (eY fin l E)
 |[],_=>.ret _
 |_::r,_=>.ask _ _ (Or.inl rfl) fun _=>sg fin r _
theorem Ge:Cm.Low (fun q=>q.kind=2\/q.kind=3) (uP jF):=
 .ask _ _ (Or.inr rfl) fun _=>sg _ _ _
theorem Cm.Low.mono{α:Type}{r F:Qn->Prop}(h:∀q,r q->F q):∀{c:Cm α},Cm.Low r c->Cm.Low F c
 |_,.ret a=>.ret a
 |_,.rd p k E=>.rd p k fun t=>(E t).mono h
 |_,.ask q k M E=>.ask q k (h q M) fun f=>(E f).mono h
theorem si(q:Qn):Cm.Low (fun F=>rk F<rk q/\F.kind<=4) (df q):=by
 unfold df
 split
 ·exact .rd _ _ fun t=>.ret _
 split
 ·exact .rd _ _ fun t=>.ret _
 split
 ·rename_i h
  refine(zO _).mono fun F E=>⟨?_,by omega⟩
  unfold rk;rw[aj E,h]
  decide
 split
 ·rename_i h
  refine CX.mono fun F E=>⟨?_,by omega⟩
  unfold rk;rw[E,h]
  decide
 ·rename_i M O T U
  refine Ge.mono fun F E=>?_
  unfold rk;rcases E with E|E
  ·rw[E,ag (by omega:¬q.kind<=1)]
   constructor
   ·simp;omega
   ·omega
  ·rw[E,ag (by omega:¬q.kind<=1)]
   constructor
   ·simp;omega
   ·omega
theorem qN(s:Shf){q:Qn}(h:q.kind<=3):val s q=v2 s q:=ag (by omega)
theorem oG(s:Shf){q:Qn}(h:q.kind<=2):val s q=v1 s q:=by rw[qN s (by omega)];exact ag (by omega)
theorem qO(s:Shf){q:Qn}(h:q.kind<=1):val s q=v0 s q:=by rw[oG s (by omega)];exact ag (by omega)
theorem xz(s:Shf){q:Qn}(h:q.kind<=4):val s q=(df q).run s (orc (val s)):=by
 unfold df
 split
 ·rename_i E
  rw[qO s (by omega)];unfold v0;rw[aj E]
  rfl
 split
 ·rename_i E F
  rw[qO s (by omega)];unfold v0;rw[ag E,aj F]
  rfl
 split
 ·rename_i E F M
  rw[oG s (by omega)];unfold v1;rw[aj M];exact(Cm.oD (fun U O=>by unfold orc;rw[qO s O]) _ (zO _)).1.symm
 split
 ·rename_i E F M T
  rw[qN s (by omega)];unfold v2;rw[aj T];exact(Cm.oD (fun U O=>by unfold orc;rw[oG s (by omega)]) _ CX).1.symm
 ·rename_i E F M T
  unfold val;rw[aj (by omega)];exact(Cm.oD (fun U O=>by unfold orc;exact cV Fi.ess (qN s (by omega))) _ Ge).1.symm
structure Kp where
 q:Qn
 f:Fi
 ties:List Tie
 changed:Nat
 checked:Nat
structure Inv(S:Nat->Shf)(G:Nat)(D:List Kp):Prop where
 kind:∀k∈D,k.q.kind<=4
 le:∀k∈D,k.changed<=k.checked/\k.checked<=G
 val:∀k∈D,k.f=Pn.val (S k.checked) k.q/\k.ties=gY (S k.checked) k.q
 hang:∀k2∈D,∀k∈D,Tie.ask k.q∈k2.ties->k2.checked<=k.checked/\(k.changed<=k2.checked->k.f.ess=(Pn.val (S k2.checked) k.q).ess)
 one:D.Pairwise fun a b=>a.q≠b.q
structure Step(G r:Nat)(D D':List Kp):Prop where
 keep:∀k∈D,(r<=rk k.q\/k.checked=G)->k∈D'
 back:∀k∈D',k∈D\/(rk k.q<r/\k.checked=G)
theorem Step.refl(G r:Nat)(D:List Kp):Step G r D D:=⟨fun _ h _=>h,fun _ h=>Or.inl h⟩
theorem Step.trans{G r:Nat}{D M E:List Kp}(h:Step G r D M)(O:Step G r M E):Step G r D E:=
 ⟨fun k F T=>O.keep k (h.keep k F T) T,fun k F=>(O.back k F).elim (h.back k) Or.inr⟩
theorem Step.mono{G r O:Nat}{D M:List Kp}(h:Step G r D M)(T:r<=O):Step G O D M:=
 ⟨fun k E F=>h.keep k E (F.imp (fun h=>by omega) id),fun k E=>(h.back k E).imp id fun h=>⟨by omega,h.2⟩⟩
variable{S:Nat->Shf}{G:Nat}{D I:List Kp}
theorem Inv.sub(h:Inv S G D)(F:I.Sublist D):Inv S G I:=
 ⟨fun k E=>h.kind k (F.subset E),fun k E=>h.le k (F.subset E),fun k E=>h.val k (F.subset E),fun O M k E=>h.hang O (F.subset M) k (F.subset E),h.one.sublist F⟩
theorem Inv.later(h:Inv S G D){S':Nat->Shf}{F:Nat}(V:G<=F)(T:∀n,n<=G->S' n=S n):Inv S' F D:=by
 have e:∀k∈D,S' k.checked=S k.checked:=fun k E=>T _ (h.le k E).2
 refine⟨h.kind,fun k E=>⟨(h.le k E).1,by have:=(h.le k E).2;omega⟩,fun k E=>?_,fun O M k E U=>?_,h.one⟩
 ·rw[e k E];exact h.val k E
 ·rw[e O M];exact h.hang O M k E U
open Classical in
noncomputable def jD(D:List Kp)(E:Kp):List Kp:=E::D.filter fun k=>decide (k.q≠E.q)
theorem gQ{E k:Kp}:k∈jD D E↔k=E\/(k∈D/\k.q≠E.q):=by
 unfold jD;simp[List.mem_filter]
theorem Inv.put(h:Inv S G D){E:Kp}(hk:E.q.kind<=4)(hc:E.checked=G)(a0:E.changed<=G)(hv:E.f=Pn.val (S G) E.q)(ht:E.ties=gY (S G) E.q)
  (PR:∀k∈D,Tie.ask k.q∈E.ties->k.checked=G)
  (V:E.changed=G\/∃k∈D,k.q=E.q/\E.changed=k.changed/\E.f.ess=k.f.ess):Inv S G (jD D E):=by
 have self:Tie.ask E.q∉E.ties:=fun hm=>by
  rw[ht] at hm;have:=(Cm.lG _ (si E.q) _ hm).1;omega
 refine⟨fun k F=>?_,fun k F=>?_,fun k F=>?_,fun T M k F O=>?_,?_⟩
 ·rcases gQ.1 F with rfl|⟨F,_⟩
  ·exact hk
  ·exact h.kind k F
 ·rcases gQ.1 F with rfl|⟨F,_⟩
  ·exact⟨by omega,by omega⟩
  ·exact h.le k F
 ·rcases gQ.1 F with rfl|⟨F,_⟩
  ·rw[hc];exact⟨hv,ht⟩
  ·exact h.val k F
 ·rcases gQ.1 F with rfl|⟨U,_⟩
  ·rcases gQ.1 M with rfl|⟨M,_⟩
   ·exact absurd O self
   ·have hl:=(h.le T M).2
    refine⟨by omega,fun Tb=>?_⟩;rcases V with e|⟨k',W,Y,e2,e3⟩
    ·have e4:T.checked=G:=by omega
     rw[e4,hv]
    ·rw[e3,<-Y]
     rw[<-Y] at O;exact(h.hang T M k' W O).2 (by omega)
  ·rcases gQ.1 M with rfl|⟨M,_⟩
   ·have:=PR k U O
    refine⟨by omega,fun _=>?_⟩;rw[(h.val k U).1,this,hc]
   ·exact h.hang T M k U O
 ·unfold jD
  refine eu.2 ⟨fun b hb=>?_,h.one.sublist List.filter_sublist⟩;have:=(List.mem_filter.1 hb).2;intro e;simp[e] at this
theorem Step.put{r:Nat}{F:Kp}(U:rk F.q<r)(T:F.checked=G)(O:∀k∈D,k.q=F.q->k.checked≠G):Step G r D (jD D F):=by
 refine⟨fun k E M=>gQ.2 (Or.inr ⟨E,fun e=>?_⟩),fun k E=>?_⟩
 ·rcases M with h|h
  ·rw[e] at h;omega
  ·exact O k E e h
 ·rcases gQ.1 E with rfl|⟨h,_⟩
  ·exact Or.inr ⟨U,T⟩
  ·exact Or.inl h
theorem Inv.holds(h:Inv S G D){k:Kp}(O:k∈D)(T:∀p t,Tie.rd p t∈k.ties->S G p=t)(W:∀q,Tie.ask q∈k.ties->∃F∈D,F.q=q/\F.checked=G/\F.changed<=k.checked):
  k.f=Pn.val (S G) k.q/\k.ties=gY (S G) k.q:=by
 obtain⟨h1,V⟩:=h.val k O
 have key:=Cm.again (s:=S k.checked) (s2:=S G) (o:=orc (Pn.val (S k.checked))) (o2:=orc (Pn.val (S G))) (df k.q) (fun t ht=>by
  have E:t∈k.ties:=by rw[V];exact ht
  cases t with
  |rd p t=>exact T p t E
  |ask q=>
   obtain⟨F,M,U,Y,e3⟩:=W q E;show orc _ q=orc _ q;unfold orc;have ha:Tie.ask F.q∈k.ties:=by rw[U];exact E
   have h3:=(h.hang k O F M ha).2 e3;rw[<-U,<-h3,(h.val F M).1,Y])
 refine⟨?_,?_⟩
 ·rw[h1,xz _ (h.kind k O),xz _ (h.kind k O)]
  exact key.1.symm
 ·rw[V]
  exact key.2.symm
end Pn
namespace Pn
open Mf
abbrev Find:=List Kp->Qn->Kp->List Kp->List Qn->Prop
inductive Pre{α:Type}(F:Find)(s:Shf)(D:List Kp)(c:Cm α):List Kp->Cm α->List Tie->List Qn->Prop where
 |start:Pre F s D c D c [] []
 |rd {I:List Kp} {p:Plc} {k:Option zA->Cm α} {ts:List Tie} {W:List Qn} (h:Pre F s D c I (.rd p k) ts W):Pre F s D c I (k (s p)) (ts++[.rd p (s p)]) W
 |ask {I D2:List Kp} {q:Qn} {k:Fi->Cm α} {kk:Kp} {ts:List Tie} {W W2:List Qn} (h:Pre F s D c I (.ask q k) ts W) (hf:F I q kk D2 W2):Pre F s D c D2 (k kk.f.ess) (ts++[.ask q]) (W++W2)
inductive Chk(F:Find)(s:Shf)(ck:Nat)(D:List Kp):List Tie->List Kp->List Qn->Prop where
 |start:Chk F s ck D [] D []
 |rd {I:List Kp} {p:Plc} {t:Option zA} {ts:List Tie} {W:List Qn} (h:Chk F s ck D ts I W) (e:s p=t):Chk F s ck D (ts++[.rd p t]) I W
 |ask {I D2:List Kp} {q:Qn} {kk:Kp} {ts:List Tie} {W W2:List Qn} (h:Chk F s ck D ts I W) (hf:F I q kk D2 W2) (hc:kk.changed<=ck):Chk F s ck D (ts++[.ask q]) D2 (W++W2)
inductive nD(F:Find)(s:Shf)(ck:Nat)(D:List Kp)(ts:List Tie):List Kp->List Qn->Bool->Prop where
 |yes {I:List Kp} {W:List Qn} (h:Chk F s ck D ts I W):nD F s ck D ts I W true
 |rd {I:List Kp} {p:Plc} {t:Option zA} {t1 t2:List Tie} {W:List Qn} (e:ts=t1++.rd p t::t2) (h:Chk F s ck D t1 I W) (hn:s p≠t):nD F s ck D ts I W false
 |ask {I D2:List Kp} {q:Qn} {kk:Kp} {t1 t2:List Tie} {W W2:List Qn} (e:ts=t1++.ask q::t2) (h:Chk F s ck D t1 I W) (hf:F I q kk D2 W2) (hn:ck<kk.changed):nD F s ck D ts D2 (W++W2) false
open Classical in
inductive Found(F:Find)(s:Shf)(G:Nat)(D:List Kp)(q:Qn):Kp->List Kp->List Qn->Prop where
 |there {k:Kp} (hk:k∈D) (hq:k.q=q) (hc:k.checked=G):Found F s G D q k D []
 |held {k:Kp} {I:List Kp} {W:List Qn} (hk:k∈D) (hq:k.q=q) (hc:k.checked≠G) (hn:k.ties.length<=10000) (h:nD F s k.checked D k.ties I W true):Found F s G D q ⟨q,k.f,k.ties,k.changed,G⟩ (jD I ⟨q,k.f,k.ties,k.changed,G⟩) W
 |anew {k:Kp} {I D2:List Kp} {W W2:List Qn} {f:Fi} {ts:List Tie} (hk:k∈D) (hq:k.q=q) (hc:k.checked≠G) (hn:k.ties.length<=10000) (ht:ts.length<=10000) (h:nD F s k.checked D k.ties I W false) (hp:Pre F s I (df q) D2 (.ret f) ts W2):
   Found F s G D q ⟨q,f,ts,if f.ess=k.f.ess then k.changed else G,G⟩ (jD D2 ⟨q,f,ts,if f.ess=k.f.ess then k.changed else G,G⟩) (W++W2++[q])
 |first {D2:List Kp} {W2:List Qn} {f:Fi} {ts:List Tie} (hn:∀k∈D,k.q≠q) (ht:ts.length<=10000) (hp:Pre F s D (df q) D2 (.ret f) ts W2):Found F s G D q ⟨q,f,ts,G,G⟩ (jD D2 ⟨q,f,ts,G,G⟩) (W2++[q])
def fnd(s:Shf)(G:Nat):Nat->Find
 |0=>Found (fun _ _ _ _ _=>False) s G
 |r+1=>Found (fnd s G r) s G
def kZ(S:Nat->Shf)(G r:Nat)(F:Find):Prop:=
 ∀D q k E W,Inv S G D->rk q<r->q.kind<=4->F D q k E W->Inv S G E/\Step G (rk q+1) D E/\k∈E/\k.q=q/\k.checked=G/\k.f=val (S G) q
variable{S:Nat->Shf}{G:Nat}{D:List Kp}
structure QU(S:Nat->Shf)(G r:Nat)(D I:List Kp)(c c1:Cm Fi)(ts:List Tie):Prop where
 inv:Inv S G I
 step:Step G r D I
 run:c.run (S G) (orc (val (S G)))=c1.run (S G) (orc (val (S G)))
 ties:c.ties (S G) (orc (val (S G)))=ts++c1.ties (S G) (orc (val (S G)))
 asked:∀q,Tie.ask q∈ts->∃k∈I,k.q=q/\k.checked=G
 low:Cm.Low (fun q=>rk q<r/\q.kind<=4) c1
theorem xA{r:Nat}{F:Find}(hF:kZ S G r F)(h:Inv S G D){c:Cm Fi}(hl:Cm.Low (fun q=>rk q<r/\q.kind<=4) c){I:List Kp}{c1:Cm Fi}{U:List Tie}{W:List Qn}(hp:Pre F (S G) D c I c1 U W):QU S G r D I c c1 U:=by
 induction hp with
 |start=>exact⟨h,Step.refl _ _ _,rfl,by simp,fun q T=>by simp at T,hl⟩
 |rd _ E=>
  have O:=E.low;cases O with|rd _ _ Y=>
  refine⟨E.inv,E.step,E.run,?_,fun q T=>?_,Y _⟩
  ·rw[E.ties];simp[Cm.ties]
  ·rcases bH.1 T with M|M
   ·exact E.asked q M
   ·simp at M
 | @ask I D2 q k kk U W W2 _ hf E=>
  have O:=E.low;cases O with|ask _ _ T Y=>
  obtain⟨g1,g2,g3,g4,g5,g6⟩:=hF _ _ _ _ _ E.inv T.1 T.2 hf;have e:orc (val (S G)) q=kk.f.ess:=by unfold orc;rw[g6]
  refine⟨g1,E.step.trans (g2.mono T.1),?_,?_,fun q' a1=>?_,Y _⟩
  ·rw[E.run]
   show(k (orc (val (S G)) q)).run _ _=_;rw[e]
  ·rw[E.ties]
   show U++(Tie.ask q::(k (orc (val (S G)) q)).ties _ _)=_;rw[e];simp
  ·rcases bH.1 a1 with M|M
   ·obtain⟨k',a0,V,e2⟩:=E.asked q' M
    exact⟨k',g2.keep k' a0 (Or.inr e2),V,e2⟩
   ·have V:q'=q:=by simpa using M
    exact⟨kk,g3,by rw[V];exact g4,g5⟩
structure QV(S:Nat->Shf)(G r ck:Nat)(D I:List Kp)(ts:List Tie):Prop where
 inv:Inv S G I
 step:Step G r D I
 read:∀p t,Tie.rd p t∈ts->S G p=t
 asked:∀q,Tie.ask q∈ts->∃k∈I,k.q=q/\k.checked=G/\k.changed<=ck
theorem tY{r ck:Nat}{F:Find}(hF:kZ S G r F)(h:Inv S G D){T:List Tie}{I:List Kp}{W:List Qn}(Y:∀q,Tie.ask q∈T->rk q<r/\q.kind<=4)(hp:Chk F (S G) ck D T I W):QV S G r ck D I T:=by
 induction hp with
 |start=>exact⟨h,Step.refl _ _ _,fun p t E=>by simp at E,fun q E=>by simp at E⟩
 |rd _ e O=>
  have O:=O (fun q E=>Y q (gU _ E));refine⟨O.inv,O.step,fun p t E=>?_,fun q E=>?_⟩
  ·rcases bH.1 E with M|M
   ·exact O.read p t M
   ·simp at M;obtain⟨rfl,rfl⟩:=M;exact e
  ·rcases bH.1 E with M|M
   ·exact O.asked q M
   ·simp at M
 | @ask I D2 q kk T W W2 _ hf hc O=>
  have O:=O (fun q E=>Y q (gU _ E));have E:=Y q (by simp);obtain⟨g1,g2,g3,g4,g5,g6⟩:=hF _ _ _ _ _ O.inv E.1 E.2 hf;refine⟨g1,O.step.trans (g2.mono E.1),fun p t E=>?_,fun q' a0=>?_⟩
  ·rcases bH.1 E with M|M
   ·exact O.read p t M
   ·simp at M
  ·rcases bH.1 a0 with M|M
   ·obtain⟨k',V,U,e2,e3⟩:=O.asked q' M
    exact⟨k',g2.keep k' V (Or.inr e2),U,e2,e3⟩
   ·have U:q'=q:=by simpa using M
    exact⟨kk,g3,by rw[U];exact g4,g5,hc⟩
theorem tZ{r V:Nat}{F:Find}(hF:kZ S G r F)(h:Inv S G D){U:List Tie}{I:List Kp}{W:List Qn}{b:Bool}(O:∀q,Tie.ask q∈U->rk q<r/\q.kind<=4)(hp:nD F (S G) V D U I W b):Inv S G I/\Step G r D I:=by
 cases hp with
 |yes M=>have:=tY hF h O M;exact⟨this.inv,this.step⟩
 |rd e M hn=>have:=tY hF h (fun q E=>O q (by rw[e];exact gU _ E)) M;exact⟨this.inv,this.step⟩
 | @ask I D2 q kk t1 t2 W W2 e M hf hn=>
  have T:=tY hF h (fun q E=>O q (by rw[e];exact gU _ E)) M;have E:=O q (by rw[e];simp);obtain⟨Y,g2,_⟩:=hF _ _ _ _ _ T.inv E.1 E.2 hf;exact⟨Y,T.step.trans (g2.mono E.1)⟩
theorem Bh{k O:Kp}:∀{l:List Kp},l.Pairwise (fun a b=>a.q≠b.q)->O∈l->k∈l->O.q=k.q->O=k:=by
 intro l V
 induction V with
 |nil=>intro h;cases h
 |cons M _ W=>
  intro U T e;rcases aP.1 U with F|F
  ·rcases aP.1 T with E|E
   ·exact F.trans E.symm
   ·rw[<-F] at M;exact absurd e (M _ E)
  ·rcases aP.1 T with E|E
   ·rw[<-E] at M;exact absurd e.symm (M _ F)
   ·exact W F E e
theorem Step.stay{r:Nat}{I:List Kp}(h:Step G r D I)(M:Inv S G I){k F:Kp}(O:k∈D)(T:r<=rk k.q)(E:F∈I)(e:F.q=k.q):F=k:=by
 exact Bh M.one E (h.keep k O (Or.inl T)) e
open Classical in
theorem jm{F:Find}{m:Nat}(hF:kZ S G m F):kZ S G (m+1) (Found F (S G) G):=by
 intro D q k D' W hI hr hkd hf;have hF0:kZ S G (rk q) F:=fun D q' k D' W h1 h2 h3 h4=>hF D q' k D' W h1 (by omega) h3 h4
 have ly:=si q
 have E6:∀k∈D,k.q=q->∀q',Tie.ask q'∈k.ties->rk q'<rk q/\q'.kind<=4:=fun k hk e q' hq'=>by
  rw[(hI.val k hk).2,e] at hq';exact Cm.lG _ ly _ hq'
 cases hf with
 |there hk hq hc=>
  refine⟨hI,Step.refl _ _ _,hk,hq,hc,?_⟩;rw[(hI.val _ hk).1,hc,hq]
 | @held k I W hk hq hc _ h=>
  have h1:=tZ hF0 hI (E6 k hk hq) h;cases h with|yes h=>
  have h2:=tY hF0 hI (E6 k hk hq) h;have hk1:k∈I:=h2.step.keep k hk (Or.inl (by rw[hq];exact af _));have h3:=h2.inv.holds hk1 h2.read h2.asked;rw[hq] at h3;have hmem:(⟨q,k.f,k.ties,k.changed,G⟩:Kp)∈jD I ⟨q,k.f,k.ties,k.changed,G⟩:=gQ.2 (Or.inl rfl);refine⟨h2.inv.put hkd rfl ?_ h3.1 h3.2 (fun k' hk' ha=>?_) (Or.inr ⟨k,hk1,hq,rfl,rfl⟩),(h2.step.mono (bS _)).trans (Step.put (jy _) rfl (fun k' hk' e=>?_)),hmem,rfl,rfl,h3.1⟩
  ·have:=hI.le k hk;show k.changed<=G;omega
  ·obtain⟨k2,hk2,e1,e2,_⟩:=h2.asked _ ha
   rw[Bh h2.inv.one hk' hk2 e1.symm];exact e2
  ·rw[h2.step.stay h2.inv hk (by rw[hq];exact af _) hk' (e.trans hq.symm)]
   exact hc
 | @anew k I D2 W W2 f ts hk hq hc _ _ h hp=>
  obtain⟨h1,h2⟩:=tZ hF0 hI (E6 k hk hq) h;have h3:=xA hF0 h1 ly hp;have hk2:k∈D2:=(h2.trans h3.step).keep k hk (Or.inl (by rw[hq];exact af _));have hv:f=val (S G) q:=by rw[xz _ hkd,h3.run];rfl
  have ht:ts=gY (S G) q:=by
   unfold gY;rw[h3.ties];simp[Cm.ties]
  refine⟨h3.inv.put hkd rfl ?_ hv ht (fun k' hk' ha=>?_) ?_,((h2.trans h3.step).mono (bS _)).trans (Step.put (jy _) rfl (fun k' hk' e=>?_)),gQ.2 (Or.inl rfl),rfl,rfl,hv⟩
  ·have:=hI.le k hk
   show(if f.ess=k.f.ess then k.changed else G)<=G
   split<;>omega
  ·obtain⟨k2,hk2,e1,e2⟩:=h3.asked _ ha
   rw[Bh h3.inv.one hk' hk2 e1.symm];exact e2
  ·by_cases e:f.ess=k.f.ess
   ·exact Or.inr ⟨k,hk2,hq,aj e,e⟩
   ·exact Or.inl (ag e)
  ·rw[(h2.trans h3.step).stay h3.inv hk (by rw[hq];exact af _) hk' (e.trans hq.symm)]
   exact hc
 | @first D2 W2 f ts hn _ hp=>
  have h3:=xA hF0 hI ly hp;have hv:f=val (S G) q:=by rw[xz _ hkd,h3.run];rfl
  have ht:ts=gY (S G) q:=by
   unfold gY;rw[h3.ties];simp[Cm.ties]
  refine⟨h3.inv.put hkd rfl (af _) hv ht (fun k' hk' ha=>?_) (Or.inl rfl),(h3.step.mono (bS _)).trans (Step.put (jy _) rfl (fun k' hk' e=>?_)),gQ.2 (Or.inl rfl),rfl,rfl,hv⟩
  ·obtain⟨k2,hk2,e1,e2⟩:=h3.asked _ ha
   rw[Bh h3.inv.one hk' hk2 e1.symm];exact e2
  ·rcases h3.step.back k' hk' with h4|h4
   ·exact absurd e (hn k' h4)
   ·rw[e] at h4;exact absurd h4.1 (Nat.lt_irrefl _)
theorem lH:∀r,kZ S G (r+1) (fnd (S G) G r)
 |0=>jm (fun _ _ _ _ _ _ h _ _=>absurd h (dY _))
 |r+1=>jm (lH r)
end Pn
namespace Pn
open Mf
theorem Kr{F:List (Nat×List UInt8)}{op off:Bool}{i:Nat}{c:UInt8}{N r:Nat}(h:∀x∈F,x.2.length+(r+1)<=N)(M:r+1<=N):∀x∈(Tx.byte F op off i c).1,x.2.length+r<=N:=by
 intro x E;unfold Tx.byte at E;simp only at E
 split at E
 ·split at E
  ·rcases bH.1 E with E|E
   ·have:=h x (List.dropLast_subset _ E);omega
   ·have e:x=((F.getLastD (0,[])).1,(F.getLastD (0,[])).2++[c]):=by simpa using E
    rw[e];simp only[aW,bN,jT];cases F with
    |nil=>simp;omega
    |cons a l=>
     have hm:(a::l).getLastD (0,[])∈a::l:=by
      rw[List.getLastD_cons];exact List.getLastD_mem_cons
     have:=h _ hm;omega
  ·rcases bH.1 E with E|E
   ·have:=h x E;omega
   ·have e:x=(i,[c]):=by simpa using E
    rw[e];simp;omega
 ·have:=h x E;omega
theorem qP{N:Nat}:∀(t:List UInt8)(out:List Tx.Ln)(n:Nat)(E:List (Nat×List UInt8))(op off:Bool)(i:Nat),t.length<=N->(∀M∈out,∀x∈M.2,x.2.length<=N)->(∀x∈E,x.2.length+t.length<=N)->
  (∀M∈Tx.dw out n E op off i t,∀x∈M.2,x.2.length<=N)/\(Tx.dw out n E op off i t).length<=out.length+t.length+1
 |[],out,n,E,op,off,i,_,T,U=>by
  unfold Tx.dw Tx.shut
  split
  ·exact⟨T,by simp⟩
  ·refine⟨fun M F x O=>?_,by simp⟩
   rcases bH.1 F with F|F
   ·exact T M F x O
   ·have e:M=(n,E):=by simpa using F
    subst e;have:=U x O;simpa using this
 |c::t,out,n,E,op,off,i,Y,T,U=>by
  simp only[bN] at Y U ⊢;unfold Tx.dw
  split
  ·have W:(∀M∈Tx.shut out n E,∀x∈M.2,x.2.length<=N)/\(Tx.shut out n E).length<=out.length+1:=by
    unfold Tx.shut
    split
    ·exact⟨T,by omega⟩
    ·refine⟨fun M F x O=>?_,by simp⟩
     rcases bH.1 F with F|F
     ·exact T M F x O
     ·have e:M=(n,E):=by simpa using F
      subst e;have:=U x O;omega
   have V:=qP t (Tx.shut out n E) (n+1) [] false false 0 (by omega) W.1 (fun x O=>by simp at O);exact⟨V.1,by have:=V.2;have:=W.2;omega⟩
  ·have V:=qP t out n (Tx.byte E op off i c).1 (Tx.byte E op off i c).2.1 (Tx.byte E op off i c).2.2 (i+1) (by omega) T (Kr U (by omega))
   exact⟨V.1,by have:=V.2;omega⟩
theorem zQ(ix:Bool)(F:List UInt8->Bool)(most:Nat):∀(M:List Tx.Ln)(g:Tx.Got),(∀E∈(M.foldl (Tx.bz ix F most) g).good,E∈g.good\/E∈M)/\(M.foldl (Tx.bz ix F most) g).good.length<=g.good.length+M.length
 |[],g=>⟨fun E h=>Or.inl h,by simp⟩
 |l::M,g=>by
  have T:=zQ ix F most M (Tx.bz ix F most g l)
  have O:(∀E∈(Tx.bz ix F most g l).good,E∈g.good\/E=l)/\(Tx.bz ix F most g l).good.length<=g.good.length+1:=by
   unfold Tx.bz
   split
   ·exact⟨fun E h=>Or.inl h,by simp⟩
   ·refine⟨fun E h=>?_,by simp⟩
    rcases bH.1 h with h|h
    ·exact Or.inl h
    ·exact Or.inr (by simpa using h)
  refine⟨fun E h=>?_,?_⟩
  ·rcases T.1 E h with h|h
   ·rcases O.1 E h with h|h
    ·exact Or.inl h
    ·exact Or.inr (by rw[h];exact bo ..)
   ·exact Or.inr (cr _ h)
  ·have:=T.2;have:=O.2
   rw[jY,bN];omega
theorem CY(ix:Bool)(O:List UInt8->Bool)(s:zA)(g:Tx.Got)(U:g=(Tx.dw [] 1 [] false false 0 s.data.toList).foldl (Tx.bz ix O 20) nZ):
  (∀E∈g.good,∀x∈E.2,x.2.length<=s.size)/\g.good.length<=s.size+1:=by
 have hN:s.data.toList.length=s.size:=rfl;have M:=qP (N:=s.size) s.data.toList [] 1 [] false false 0 (by omega) (fun E h=>by simp at h) (fun x h=>by simp at h);have F:=zQ ix O 20 (Tx.dw [] 1 [] false false 0 s.data.toList) nZ;rw[<-U] at F;refine⟨fun E V x W=>?_,?_⟩
 ·rcases F.1 E V with h|h
  ·have:E∈([]:List Tx.Ln):=h
   cases this
  ·exact M.1 E h x W
 ·have Y:=F.2
  have T:=M.2;have h5:(nZ).good.length=0:=rfl;simp at T;omega
theorem Bj{N:Nat}(l:Wl)(h:∀x∈l,x.2.size<=N)(j:Nat):(wd l j).size<=N:=by
 unfold wd;rw[List.getD_eq_getElem?_getD];cases e:l[j]? with
 |none=>simp[pad]
 |some x=>simp;exact h x (iN e)
theorem zR{N:Nat}{E:Tx.Ln}(h:∀x∈E.2,x.2.length<=N):∀x∈(jE E).2,x.2.size<=N:=by
 intro x F;obtain⟨y,hy,e⟩:=bI.1 F;rw[<-e];have:=h y hy;show(y.2.toArray).size<=N;simpa using this
structure xB(N:Nat)(m:Mx):Prop where
 p:m.p.size<=N
 R:∀x∈m.R,x.1.size<=N/\x.2.size<=N
 X:∀x∈m.X,x.1.size<=N/\x.2.size<=N
 S:∀x∈m.S,x.1.size<=N/\x.2.1.size<=N/\x.2.2.size<=N
theorem Hy{N:Nat}{m:Mx}(h:xB N m){s:Sm4}(F:s.2.1.size<=N)(M:s.2.2.1.size<=N)(O:s.2.2.2.size<=N):xB N (fN m s):=by
 unfold fN
 split
 ·exact⟨F,h.R,h.X,h.S⟩
 split
 ·refine⟨h.p,fun x E=>?_,h.X,h.S⟩
  rcases bH.1 E with E|E
  ·exact h.R x E
  ·have e:x=(s.2.1,s.2.2.1):=by simpa using E
   rw[e];exact⟨F,M⟩
 split
 ·refine⟨h.p,h.R,fun x E=>?_,h.S⟩
  rcases bH.1 E with E|E
  ·exact h.X x E
  ·have e:x=(s.2.1,s.2.2.1):=by simpa using E
   rw[e];exact⟨F,M⟩
 split
 ·refine⟨h.p,h.R,h.X,fun x E=>?_⟩
  rcases bH.1 E with E|E
  ·exact h.S x E
  ·have e:x=(s.2.1,s.2.2.1,s.2.2.2):=by simpa using E
   rw[e];exact⟨F,M,O⟩
 ·exact h
theorem Nr{N:Nat}(L:List Sm4)(h:∀s∈L,s.2.1.size<=N/\s.2.2.1.size<=N/\s.2.2.2.size<=N):xB N (dS L):=by
 unfold dS
 have gen:∀(L:List Sm4)(m:Mx),(∀s∈L,s.2.1.size<=N/\s.2.2.1.size<=N/\s.2.2.2.size<=N)->xB N m->xB N (L.foldl fN m):=by
  intro L
  induction L with
  |nil=>intro m _ h;exact h
  |cons s L O=>intro m F M;exact O _ (fun x E=>F x (cr _ E)) (Hy M (F s (bo ..)).1 (F s (bo ..)).2.1 (F s (bo ..)).2.2)
 exact gen L _ h ⟨aL _,fun x E=>by simp at E,fun x E=>by simp at E,fun x E=>by simp at E⟩
theorem Hz{s:zA}(h:bg s=[]):s.size<=2000:=by
 by_cases E:s.size<=2000
 ·exact E
 ·unfold bg at h
  rw[ag E] at h;simp at h
theorem Ia{s:zA}(h:dM s=[]):s.size<=2000:=by
 by_cases E:s.size<=2000
 ·exact E
 ·unfold dM at h
  rw[ag E] at h;simp at h
theorem xC{s:zA}(h:bg s=[]):xB 2000 (bw s)/\(bw s).R.length<=2001/\(bw s).X.length<=2001/\(bw s).S.length<=2001:=by
 have T:=Hz h;have M:=CY false Pv.aH s (kG s) rfl;have e:bw s=dS ((kG s).good.map fun x=>dU (jE x).2):=by unfold bw;rw[aj h]
 rw[e];have O:=rX ((kG s).good.map fun x=>dU (jE x).2);rw[cW] at O;refine⟨Nr _ (fun x U=>?_),by omega,by omega,by omega⟩;obtain⟨V,E,e⟩:=bI.1 U;have F:=zR (fun y hy=>aO (M.1 V E y hy) T);rw[<-e];exact⟨Bj _ F 1,Bj _ F 2,Bj _ F 4⟩
theorem wF{v x:zA}{L:List zA}(h:x∈tG v L):x=v\/x∈L:=by
 unfold tG at h;simp only[bH,fc,cq] at h;rcases h with(h|h)|h
 ·exact Or.inr (fc.1 ((List.dropWhile_sublist _).subset h))
 ·exact Or.inl h
 ·exact Or.inr (fc.1 ((List.takeWhile_sublist _).subset h))
theorem xD:∀(L:List OLn)(M:List zA)(x:zA),x∈L.foldl (fun M g=>tG (bQ g) M) M->x∈M\/∃g∈L,x=bQ g
 |[],M,x,h=>Or.inl h
 |g::L,M,x,h=>by
  rcases xD L _ x h with h|⟨E,F,e⟩
  ·rcases wF h with h|h
   ·exact Or.inr ⟨g,bo ..,h⟩
   ·exact Or.inl h
  ·exact Or.inr ⟨E,cr _ F,e⟩
theorem Ib{s:zA}(h:dM s=[]):(∀x∈fM s,x.size<=2000)/\(fM s).length<=2001:=by
 have U:=Ia h;have T:=CY true ipF s (zK s) rfl;unfold fM
 split
 ·refine⟨fun x M=>?_,?_⟩
  ·rcases xD _ [] x M with h|⟨g,E,e⟩
   ·cases h
   ·obtain⟨V,F,O⟩:=bI.1 E
    rw[e,<-O];exact Bj _ (zR (fun y hy=>aO (T.1 V F y hy) U)) 1
  ·rw[cu,cW]
   omega
 ·exact⟨fun x M=>absurd M dC,aL _⟩
end Pn
namespace Pn
open Mf
abbrev N15:Nat:=1000000000000000
def grow:Nat->Nat
 |0=>1
 |r+1=>20000*grow r+1
def Adds(g:Nat)(F:Find):Prop:=∀D q k E W,F D q k E W->E.length<=D.length+g
theorem pn(D:List Kp)(E:Kp):(jD D E).length<=D.length+1:=by
 unfold jD;rw[bN];exact Nat.succ_le_succ (List.length_filter_le _ _)
theorem sj{α:Type}{g:Nat}{F:Find}(hF:Adds g F){s:Shf}{D I:List Kp}{c M:Cm α}{E:List Tie}{W:List Qn}(h:Pre F s D c I M E W):I.length<=D.length+E.length*g:=by
 induction h with
 |start=>simp
 |rd _ T=>rw[aW,eJ];omega
 |ask _ O T=>
  have:=hF _ _ _ _ _ O;rw[aW,eJ,fx,eV];omega
theorem vN{g M:Nat}{F:Find}(hF:Adds g F){s:Shf}{D I:List Kp}{E:List Tie}{W:List Qn}(h:Chk F s M D E I W):I.length<=D.length+E.length*g:=by
 induction h with
 |start=>simp
 |rd _ _ T=>rw[aW,eJ];omega
 |ask _ O _ T=>
  have:=hF _ _ _ _ _ O;rw[aW,eJ,fx,eV];omega
theorem oH{g M:Nat}{F:Find}(hF:Adds g F){s:Shf}{D I:List Kp}{E:List Tie}{W:List Qn}{b:Bool}(h:nD F s M D E I W b):I.length<=D.length+E.length*g:=by
 cases h with
 |yes h=>exact vN hF h
 |rd e h _=>
  have O:=vN hF h;rw[e,aW,eJ];omega
 |ask e h T _=>
  have O:=vN hF h;have U:=hF _ _ _ _ _ T;rw[e,aW,bN,eJ,eJ];omega
theorem xE{g:Nat}{F:Find}(hF:Adds g F)(s:Shf)(G:Nat):Adds (20000*g+1) (Found F s G):=by
 intro D q k D' W h;cases h with
 |there _ _ _=>omega
 | @held k I W _ _ _ hn h=>
  have h1:=oH hF h;have h2:=pn I ⟨q,k.f,k.ties,k.changed,G⟩;have h3:=eG g hn;omega
 | @anew k I D2 W W2 f ts _ _ _ hn ht h hp=>
  have h1:=oH hF h;have h2:=sj hF hp;have h3:=eG g hn;have h4:=eG g ht;refine aO (pn D2 _) ?_;omega
 | @first D2 W2 f ts _ ht hp=>
  have h2:=sj hF hp;have h4:=eG g ht;refine aO (pn D2 _) ?_;omega
theorem lI(s:Shf)(G:Nat):∀r,Adds (grow r) (fnd s G r)
 |0=>fun D q k E W h=>by
  have F:Adds 0 (fun _ _ _ _ _=>False):=fun _ _ _ _ _ h=>h.elim
  have:=xE F s G D q k E W h;simpa[grow] using this
 |r+1=>xE (lI s G r) s G
